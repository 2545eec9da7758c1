import PyProof.Rows.All
import Wide.All
import OpenK.AllK
import Wide.FinOn
import Lean
import PyProof.EqAt
import PyProof.EqKinds
import PyProof.TupleCall
import PySem.Challenge.RW_relationladder_k15_rows_known
set_option Elab.async false
set_option linter.all false
set_option maxRecDepth 100000
open PySem.W (instObj hideAll_get Frag lookIn plainGet hasDictIn findIn isFn plainOver makesIn emptyDict keepIn specialIn takesIn mroIn kitOne kia_one fnOf codeIn excIn nsIn mg_of mg_none_of)
namespace L2
open PySem PySem.Spec PyProof.Rows
abbrev Key:=Sum Int Str
def lg:Key->Value->Bool
 | .inl k,v=>Value.isInt k v
 | .inr x,v=>Value.isStrOf x v
def keyH (w:World):Key->Int
 | .inl k=>hashInt k
 | .inr x=>hashStr w x
theorem bv:∀ {k:Key} {v:Value},lg k v=true->(∃ i t,k=Sum.inl i/\v=Value.int i t)\/(∃ x t,k=Sum.inr x/\v=Value.str x t)
 | .inl i,v,h=>by
  obtain ⟨t,e⟩:=Value.isInt_shape (k:=i) (v:=v) h
  exact .inl ⟨i,t,rfl,e⟩
 | .inr x,v,h=>by
  obtain ⟨t,e⟩:=Value.isStrOf_shape (x:=x) (v:=v) h
  exact .inr ⟨x,t,rfl,e⟩
theorem keyIs_int (i:Int) (t:Tok):lg (.inl i) (.int i t)=true:=by simp [lg,Value.isInt]
theorem keyIs_str (x:Str) (t:Tok):lg (.inr x) (.str x t)=true:=by simp [lg,Value.isStrOf]
theorem key_ll (a b:Int):decide ((Sum.inl a:Key)=Sum.inl b)=(a == b):=by
 by_cases e:a=b
 ·subst e; simp
 ·have h:¬ (Sum.inl a:Key)=Sum.inl b:=fun q=>e (Sum.inl.inj q)
  rw [decide_eq_false h]
  exact (beq_eq_false_iff_ne.mpr e).symm
theorem key_rr (a b:Str):decide ((Sum.inr a:Key)=Sum.inr b)=decide (a=b):=by
 by_cases e:a=b
 ·subst e; simp
 ·have h:¬ (Sum.inr a:Key)=Sum.inr b:=fun q=>e (Sum.inr.inj q)
  rw [decide_eq_false h,decide_eq_false e]
theorem key_lr (a:Int) (b:Str):decide ((Sum.inl a:Key)=Sum.inr b)=false:=decide_eq_false (fun q=>nomatch q)
theorem key_rl (a:Str) (b:Int):decide ((Sum.inr a:Key)=Sum.inl b)=false:=decide_eq_false (fun q=>nomatch q)
def bq (prog:Program) (w:World):PySem.KeyKind prog w Key where
 is:=lg
 hash:=keyH w
 inj:=fun v a b ha hb=>by
  rcases bv ha with ⟨i,t,rfl,rfl⟩ | ⟨x,t,rfl,rfl⟩
  ·rcases bv hb with ⟨j,u,rfl,e⟩ | ⟨y,u,rfl,e⟩
   ·injection e with e1 _; rw [e1]
   ·exact nomatch e
  ·rcases bv hb with ⟨j,u,rfl,e⟩ | ⟨y,u,rfl,e⟩
   ·exact nomatch e
   ·injection e with e1 _; rw [e1]
 byValue:=fun k v h=>by
  rcases bv h with ⟨i,t,rfl,rfl⟩ | ⟨x,t,rfl,rfl⟩<;>rfl
 pyHash:=fun hv h=>by
  rcases bv hv with ⟨i,t,rfl,rfl⟩ | ⟨x,t,rfl,rfl⟩
  ·exact wpAny_pyHash_int h
  ·exact wpAny_pyHash_str h
 eqBool:=fun hu hv h=>by
  rcases bv hu with ⟨i,t,rfl,rfl⟩ | ⟨x,t,rfl,rfl⟩
  ·rcases bv hv with ⟨j,u,rfl,rfl⟩ | ⟨y,u,rfl,rfl⟩
   ·rw [key_ll] at h; exact wpAny_eqBool_int h
   ·rw [key_lr] at h; exact SeqAt.EqAt.int_str i t y u _ _ _ _ h
  ·rcases bv hv with ⟨j,u,rfl,rfl⟩ | ⟨y,u,rfl,rfl⟩
   ·rw [key_rl] at h; exact SeqAt.EqAt.str_int x t j u _ _ _ _ h
   ·rw [key_rr] at h; exact wpAny_eqBool_str h
 «strs»:=fun k x t v h=>by
  rcases bv h with ⟨i,u,rfl,e⟩ | ⟨y,u,rfl,e⟩
  ·exact nomatch e
  ·injection e with e1 _
   subst e1
   cases v<;>rfl
theorem mixKind_int (prog:Program) (w:World) (i:Int) (t:Tok):(bq prog w).is (.inl i) (.int i t)=true:=keyIs_int i t
theorem mixKind_str (prog:Program) (w:World) (x:Str) (t:Tok):(bq prog w).is (.inr x) (.str x t)=true:=keyIs_str x t
end L2
namespace L2
open PySem PySem.Spec PyProof.Rows
inductive V where
 | non | bl (b:Bool) | int (i:Int) | str (x:Str) | byt (b:Array UInt8) | flt (b:UInt64) | ref (a:Addr) | ty (n:String)
 deriving DecidableEq
def RelV:V->Value->Prop
 | .non,u=>u=Value.none
 | .bl b,u=>u=Value.bool b
 | .int i,u=>∃ t,u=Value.int i t
 | .str x,u=>∃ t,u=Value.str x t
 | .byt b,u=>∃ t,u=Value.bytes b t
 | .flt b,u=>∃ t,u=Value.float b t
 | .ref a,u=>u=Value.ref a
 | .ty n,u=>u=Value.type n
abbrev Vals:List V->List Value->Prop:=Paired RelV
theorem Vals.length {xs:List V} {us:List Value} (r:Vals xs us):xs.length=us.length:=Paired.length r
theorem Vals.get:∀ {xs:List V} {us:List Value} {i:Nat} {x:V},Vals xs us->xs[i]? = some x->∃ u,us[i]? = some u/\RelV x u
 | _,_,_,_,.nil,e=>by simp at e
 | _,_,0,_,.cons r _,e=>by simp at e; subst e; exact ⟨_,rfl,r⟩
 | _,_,i + 1,x,.cons _ t,e=>by
  obtain ⟨u,h1,h2⟩:=Vals.get (i:=i) (x:=x) t (by simpa using e)
  exact ⟨u,by simpa using h1,h2⟩
theorem Vals.set {x:V} {u:Value} (r:RelV x u):∀ {xs:List V} {us:List Value} (i:Nat),Vals xs us->Vals (xs.set i x) (us.set i u)
 | _,_,_,.nil=>.nil
 | _,_,0,.cons _ t=>.cons r t
 | _,_,i + 1,.cons q t=>.cons q (Vals.set r i t)
theorem Vals.append:∀ {xs ys:List V} {us ws:List Value},Vals xs us->Vals ys ws->Vals (xs ++ ys) (us ++ ws)
 | _,_,_,_,.nil,s=>s
 | _,_,_,_,.cons r t,s=>.cons r (Vals.append t s)
theorem Vals.take:∀ {xs:List V} {us:List Value} (n:Nat),Vals xs us->Vals (xs.take n) (us.take n)
 | _,_,0,_=>.nil
 | _,_,_ + 1,.nil=>.nil
 | _,_,n + 1,.cons r t=>.cons r (Vals.take n t)
theorem Vals.drop:∀ {xs:List V} {us:List Value} (n:Nat),Vals xs us->Vals (xs.drop n) (us.drop n)
 | _,_,0,r=>r
 | _,_,_ + 1,.nil=>.nil
 | _,_,n + 1,.cons _ t=>Vals.drop n t
def RelO:Option V->Option Value->Prop
 | some v,some u=>RelV v u
 | none,none=>True
 | _,_=>False
def KV {κ:Type}:List (κ × V)->List (κ × Value)->Prop:=Paired fun (p:κ × V) (q:κ × Value)=>p.1=q.1/\RelV p.2 q.2
def kV:Key->V
 | .inl i=>.int i
 | .inr x=>.str x
inductive HO where
 | lst (xs:List V)
 | tup (xs:List V)
 | dK (kvs:List (Key × V)) | dT (kvs:List (List Key × V))
 | set (S:Int->Bool) (n:Nat)
 | ins (C dx:Addr) (fs:List (Str × V))
 | own (x:Addr)
 | xd (fs:List (Str × V))
 | met (f x:Addr)
 | rng (lo hi:Int)
 | frz (o:Obj) (u:HO)
 | tbl (ps:Array Value)
 | ext (φ:Heap->Prop)
abbrev Hp:=Addr->Option HO
def upd (H:Hp) (a:Addr) (o:HO):Hp:=fun b=>if b=a then some o else H b
theorem ac {H:Hp} {a:Addr} {o:HO}:upd H a o a=some o:=by unfold upd; rw [if_pos rfl]
theorem ao {H:Hp} {a b:Addr} {o:HO} (h:b ≠ a):upd H a o b=H b:=by unfold upd; rw [if_neg h]
theorem cW {H:Hp} {a:Addr} {o u:HO}:upd (upd H a o) a u=upd H a u:=by
 funext b; unfold upd; split<;>rfl
theorem dY {H:Hp} {a b:Addr} {o u:HO} (h:H a=some o) (h':H b=some u) (d:o ≠ u):a ≠ b:=by
 intro e; subst e; rw [h] at h'; exact d (Option.some.inj h')
theorem ah {H:Hp} {a b:Addr} {o:HO} (h:H a=some o) (h':H b=none):a ≠ b:=by
 intro e; subst e; rw [h] at h'; cases h'
section
variable (P:Program) (w:World)
def ObjOk (H:Hp) (h:Heap) (a:Addr):HO->Prop
 | .lst xs=>xs.length <= sizeLine/\∃ (its:List Value) (n:Nat),Vals xs its/\h.get? a=some { cls:=.type "list",data:=.seq its.toArray n }
 | .tup xs=>xs.length <= sizeLine/\∃ its:List Value,Vals xs its/\IsTup h a its.toArray
 | .dK kvs=>kvs.length <= sizeLine/\(a == sysModules)=false/\∃ vs,KV kvs vs/\h.DictOf (bq P w) a vs
 | .dT kvs=>kvs.length <= sizeLine/\(a == sysModules)=false/\∃ xs:List (List Key × Addr × Value),
   Paired (fun (p:List Key × V) (q:List Key × Addr × Value)=>p.1=q.1/\H q.2.1=some (.tup (p.1.map kV))/\RelV p.2 q.2.2) kvs xs/\
   ∃ o es ep,h.get? a=some o/\o.ExactDict/\o.data=.dict es ep/\es.toList=xs.map (entryOfKey (tupleKind (bq P w)))/\(xs.map (·.1)).Nodup
 | .set S n=>h.SetOf (intKind P w) a S n
 | .ins C dx fs=>H dx=some (.own a)/\fs.length <= 1000/\dx ≠ a/\h.get? a=some (instObj C dx)/\
   ∃ mA,h.Ns1 dx mA/\(∀ f,RelO (fs.lookup f) (mA f))/\PySem.Within mA (fs.map (·.1))
 | .own _=>∃ o,h.get? a=some o
 | .xd fs=>∃ mA,h.Ns1 a mA/\∀ f,RelO (fs.lookup f) (mA f)
 | .rng lo hi=>∃ t u v,h.get? a=some { cls:=.type "range",data:=.fields #[.int lo t,.int hi u,.int 1 v] }
 | .frz o u=>h.get? a=some o/\ObjOk H h a u
 | .tbl ps=>h.get? a=some { cls:=.none,data:=.fields ps }
 | .met f x=>h.get? a=some (PySem.W.methodObj (.ref f) (.ref x))
 | .ext φ=>φ h/\(∃ o,h.get? a=some o)/\∀ h1 h2:Heap,φ h1->(∀ o,h1.get? a=some o->h2.get? a=some o)->φ h2
def HOk (H:Hp) (h:Heap):Prop:=∀ a o,H a=some o->ObjOk P w H h a o
end
section
variable {P:Program} {w:World} {H H':Hp} {h h':Heap} {a:Addr} {o:HO}
theorem ObjOk.lt (x:ObjOk P w H h a o):a < h.objs.size:=by
 cases o with
 | lst xs=>obtain ⟨_,_,_,_,e⟩:=x; exact Heap.lt_size e
 | tup xs=>obtain ⟨_,_,_,p⟩:=x; exact p.lt
 | dK kvs=>obtain ⟨_,_,_,_,o,_,_,e,_⟩:=x; exact Heap.lt_size e
 | dT kvs=>obtain ⟨_,_,_,_,o,_,_,e,_⟩:=x; exact Heap.lt_size e
 | set S n=>obtain ⟨o,_,_,_,e,_⟩:=x; exact Heap.lt_size e
 | ins C dx fs=>obtain ⟨_,_,_,e,_⟩:=x; exact Heap.lt_size e
 | own y=>obtain ⟨_,e⟩:=x; exact Heap.lt_size e
 | xd fs=>obtain ⟨_,⟨_,_,_,e,_⟩,_⟩:=x; exact Heap.lt_size e
 | rng lo hi=>obtain ⟨_,_,_,e⟩:=x; exact Heap.lt_size e
 | frz ob u=>obtain ⟨e,_⟩:=x; exact Heap.lt_size e
 | tbl ps=>exact Heap.lt_size (show h.get? a=some _ from x)
 | met f y=>exact Heap.lt_size (show h.get? a=some _ from x)
 | ext φ=>obtain ⟨_,⟨_,e⟩,_⟩:=x; exact Heap.lt_size e
theorem Paired.mapP {α β:Type} {F G:α->β->Prop}:∀ {l₁:List α} {l₂:List β},Paired F l₁ l₂->(∀ a b,F a b->G a b)->Paired G l₁ l₂
 | _,_,.nil,_=>.nil
 | _,_,.cons r t,f=>.cons (f _ _ r) (Paired.mapP t f)
theorem ObjOk.stay (x:ObjOk P w H h a o) (k:∀ b u,(b=a\/H b=some (.own a))->h.get? b=some u->h'.get? b=some u)
  (ho:∀ b,H b=some (.own a)->H' b=some (.own a)) (ht:∀ b xs,H b=some (.tup xs)->H' b=some (.tup xs)):ObjOk P w H' h' a o:=by
 induction o with
 | lst xs=>obtain ⟨z,its,n,r,e⟩:=x; exact ⟨z,its,n,r,k _ _ (.inl rfl) e⟩
 | tup xs=>obtain ⟨z,its,r,ob,e,c⟩:=x; exact ⟨z,its,r,ob,k _ _ (.inl rfl) e,c⟩
 | dK kvs=>obtain ⟨z,y,vs,r,ob,es,ep,e,c⟩:=x; exact ⟨z,y,vs,r,ob,es,ep,k _ _ (.inl rfl) e,c⟩
 | dT kvs=>
  obtain ⟨z,y,xs,r,ob,es,ep,e,c⟩:=x
  exact ⟨z,y,xs,Paired.mapP r fun p q z=>⟨z.1,ht _ _ z.2.1,z.2.2⟩,ob,es,ep,k _ _ (.inl rfl) e,c⟩
 | set S n=>obtain ⟨ob,es,ep,t,e,c⟩:=x; exact ⟨ob,es,ep,t,k _ _ (.inl rfl) e,c⟩
 | ins C dx fs=>
  obtain ⟨d,z,ne,e,mA,⟨od,es,ep,e2,c⟩,r⟩:=x
  exact ⟨ho _ d,z,ne,k _ _ (.inl rfl) e,mA,⟨od,es,ep,k _ _ (.inr d) e2,c⟩,r⟩
 | own y=>obtain ⟨ob,e⟩:=x; exact ⟨ob,k _ _ (.inl rfl) e⟩
 | xd fs=>obtain ⟨mA,⟨od,es,ep,e,c⟩,r⟩:=x; exact ⟨mA,⟨od,es,ep,k _ _ (.inl rfl) e,c⟩,r⟩
 | rng lo hi=>obtain ⟨t,u,v,e⟩:=x; exact ⟨t,u,v,k _ _ (.inl rfl) e⟩
 | frz ob u ih=>obtain ⟨e,q⟩:=x; exact ⟨k _ _ (.inl rfl) e,ih q⟩
 | tbl ps=>
  have e:h.get? a=some { cls:=.none,data:=.fields ps }:=x
  show h'.get? a=some { cls:=.none,data:=.fields ps }
  exact k a _ (.inl rfl) e
 | met f y=>
  have e:h.get? a=some (PySem.W.methodObj (.ref f) (.ref y)):=x
  show h'.get? a=some (PySem.W.methodObj (.ref f) (.ref y))
  exact k a _ (.inl rfl) e
 | ext φ=>obtain ⟨p,⟨o,e⟩,st⟩:=x; exact ⟨st _ _ p fun o q=>k _ _ (.inl rfl) q,⟨o,k _ _ (.inl rfl) e⟩,st⟩
theorem HOk.lt (x:HOk P w H h) (e:H a=some o):a < h.objs.size:=(x a o e).lt
theorem HOk.fresh (x:HOk P w H h) (e:h.objs.size <= a):H a=none:=by
 cases q:H a with
 | none=>rfl
 | some u=>exact absurd (Nat.lt_of_lt_of_le (x.lt q) e) (Nat.lt_irrefl _)
theorem HOk.kept (x:HOk P w H h) (k:∀ b u,h.get? b=some u->h'.get? b=some u):HOk P w H h':=fun a o e=>
 (x a o e).stay (fun b u _ q=>k b u q) (fun _ q=>q) fun _ _ q=>q
theorem HOk.laid (x:HOk P w H h) (k:∀ b u,h.get? b=some u->h'.get? b=some u) (hp:h.objs.size <= a) (new:ObjOk P w (upd H a o) h' a o):HOk P w (upd H a o) h':=fun b u e=>by
 have hn:=x.fresh hp
 by_cases hb:b=a
 ·subst hb; rw [ac] at e; cases e; exact new
 ·rw [ao hb] at e
  exact (x b u e).stay (fun c v _ q=>k c v q) (fun c q=>by rw [ao (ah q hn)]; exact q) fun c xs q=>by rw [ao (ah q hn)]; exact q
end
def Rd (H:Hp) (a:Addr) (u:HO):Prop:=H a=some u\/∃ o,H a=some (.frz o u)
theorem Rd.ok {P:Program} {w:World} {H:Hp} {h:Heap} {a:Addr} {u:HO} (r:Rd H a u) (x:HOk P w H h):ObjOk P w H h a u:=by
 rcases r with r | ⟨o,r⟩
 ·exact x a u r
 ·obtain ⟨_,q⟩:=x a _ r
  exact q
def Mut:Option HO->Prop
 | some (.lst _)=>True
 | some (.dK _)=>True
 | some (.dT _)=>True
 | some (.set _ _)=>True
 | some (.ins _ _ _)=>True
 | some (.ext _)=>True
 | _=>False
section
variable {P:Program} {w:World} {H:Hp} {h h':Heap} {x e:Addr} {o':HO}
theorem HOk.write (ok:HOk P w H h) (mu:Mut (H x)) (he:e=x\/H e=some (.own x)) (k:∀ b u,b ≠ e->h.get? b=some u->h'.get? b=some u) (heo:∃ u,h'.get? e=some u)
  (new:ObjOk P w (upd H x o') h' x o'):HOk P w (upd H x o') h':=fun b u q=>by
 have nown:∀ c y,H c=some (.own y)->c ≠ x:=fun c y r z=>by subst z; rw [r] at mu; exact mu
 have ntup:∀ c xs,H c=some (.tup xs)->c ≠ x:=fun c xs r z=>by subst z; rw [r] at mu; exact mu
 by_cases hb:b=x
 ·subst hb; rw [ac] at q; cases q; exact new
 ·rw [ao hb] at q
  by_cases hbe:b=e
  ·have q':H b=some (.own x):=by
    rcases he with z | z
    ·exact absurd (hbe.trans z) hb
    ·rw [hbe]; exact z
   rw [q] at q'; cases q'
   obtain ⟨v,hv⟩:=heo
   exact ⟨v,by rw [hbe]; exact hv⟩
  ·refine (ok b u q).stay (fun c v hc r=>k c v ?_ r) (fun c r=>by rw [ao (nown c b r)]; exact r) fun c xs r=>by rw [ao (ntup c xs r)]; exact r
   rcases hc with rfl | hc
   ·exact hbe
   ·rintro rfl
    rcases he with z | z
    ·exact nown c b hc z
    ·rw [hc] at z; cases z; exact hb rfl
end
structure Un (fs ex:List Addr) (H H':Hp) (h h':Heap):Prop where
 keep:∀ b o,h.get? b=some o->H b=none->b ∉ fs->b ∉ ex->h'.get? b=some o
 slot:∀ b o,h.get? b=some o->H b=none->b ∈ fs->b ∉ ex->∃ sl,h'.get? b=some { o with slots:=sl }
 free:∀ b o,h.get? b=some o->H b=none->b ∉ ex->H' b=none
 there:∀ b o,h.get? b=some o->b ∉ ex->∃ o',h'.get? b=some o'
 tups:∀ b xs,H b=some (.tup xs)->H' b=some (.tup xs)
 frzs:∀ b o u,H b=some (.frz o u)->H' b=some (.frz o u)
 tbls:∀ b ps,H b=some (.tbl ps)->∃ more,H' b=some (.tbl (ps ++ more))
section
variable {fs fs' ex ex':List Addr} {H H1 H2:Hp} {h h1 h2 h':Heap} {a x e:Addr} {o:HO}
theorem Un.any (u:Un fs ex H H1 h h1) {b:Addr} {ob:Obj} (q:h.get? b=some ob) (n:H b=none) (hx:b ∉ ex):∃ sl,h1.get? b=some { ob with slots:=sl }:=by
 by_cases hb:b ∈ fs
 ·exact u.slot b ob q n hb hx
 ·exact ⟨ob.slots,u.keep b ob q n hb hx⟩
theorem Un.kept (k:∀ b u,h.get? b=some u->h'.get? b=some u):Un fs ex H H h h':=
 ⟨fun b ob q _ _ _=>k b ob q,fun b ob q _ _ _=>⟨ob.slots,k b ob q⟩,fun _ _ _ n _=>n,fun b ob q _=>⟨ob,k b ob q⟩,fun _ _ q=>q,fun _ _ _ q=>q,fun _ ps q=>⟨#[],by rw [q]; simp⟩⟩
theorem Un.refl:Un fs ex H H h h:=Un.kept fun _ _ q=>q
theorem Un.laid (k:∀ b u,h.get? b=some u->h'.get? b=some u) (hp:h.objs.size <= a) (hn:H a=none):Un fs ex H (upd H a o) h h' where
 keep:=fun b u q _ _ _=>k b u q
 slot:=fun b u q _ _ _=>⟨u.slots,k b u q⟩
 free:=fun b u q n _=>by rw [ao (Nat.ne_of_lt (Nat.lt_of_lt_of_le (Heap.lt_size q) hp))]; exact n
 there:=fun b u q _=>⟨u,k b u q⟩
 tups:=fun b xs q=>by rw [ao (ah q hn)]; exact q
 frzs:=fun b u xs q=>by rw [ao (ah q hn)]; exact q
 tbls:=fun b ps q=>⟨#[],by rw [ao (ah q hn),q]; simp⟩
theorem Un.write (mu:Mut (H x)) (he:e=x\/H e=some (.own x)) (k:∀ b u,b ≠ e->h.get? b=some u->h'.get? b=some u) (heo:∃ u,h'.get? e=some u):Un fs ex H (upd H x o) h h':=by
 have hx:∀ b,H b=none->b ≠ x:=fun b n z=>by subst z; rw [n] at mu; exact mu
 have hb:∀ b,H b=none->b ≠ e:=fun b n z=>by
  subst z
  rcases he with r | r
  ·exact hx b n r
  ·rw [n] at r; cases r
 have hm:∀ b u,H b=some u->¬ Mut (some u)->b ≠ x:=fun b u q nm z=>by subst z; rw [q] at mu; exact nm mu
 refine ⟨fun b u q n _ _=>k b u (hb b n) q,fun b u q n _ _=>⟨u.slots,k b u (hb b n) q⟩,fun b u q n _=>by rw [ao (hx b n)]; exact n,fun b u q _=>?_,
  fun b xs q=>by rw [ao (hm b _ q fun z=>z)]; exact q,fun b u xs q=>by rw [ao (hm b _ q fun z=>z)]; exact q,fun b ps q=>⟨#[],by rw [ao (hm b _ q fun z=>z),q]; simp⟩⟩
 by_cases hbe:b=e
 ·subst hbe; exact heo
 ·exact ⟨u,k b u hbe q⟩
end
def trk (h:Heap) (H:Hp):List Addr:=(List.range h.objs.size).filter fun a=>(H a).isSome
def mG (h:Heap) (H:Hp):Heap:=PySem.W.hideAll h (trk h H)
theorem hidT_size (h:Heap) (H:Hp):(mG h H).objs.size=h.objs.size:=PySem.W.hideAll_size _ _
theorem hidT_get {h:Heap} {H:Hp} {b:Addr} {o:Obj} (e:h.get? b=some o) (n:H b=none):(mG h H).get? b=some o:=
 hideAll_get _ e fun hm=>by
  have q:(H b).isSome=true:=(List.mem_filter.mp hm).2
  rw [n] at q; simp at q
theorem of_hidT {h:Heap} {H:Hp} {b:Addr} {o:Obj} (e:(mG h H).get? b=some o):h.get? b=some o/\H b=none:=by
 have e':h.get? b=some o:=PySem.W.of_hideAll (trk h H) e
 refine ⟨e',?_⟩
 cases q:H b with
 | none=>rfl
 | some x=>
  have hm:b ∈ trk h H:=List.mem_filter.mpr ⟨List.mem_range.mpr (Heap.lt_size e'),by simp [q]⟩
  have z:(mG h H).get? b=none:=PySem.W.hideAll_none (trk h H) hm
  rw [z] at e; cases e
end L2
namespace L2
open PySem PySem.Spec PyProof.Rows
structure Mod (K:Frag) (mg:Str->Option Value) (base:Heap):Prop where
 kin:K.In base
 glob:base.Ns mainGlobals mg
 blt:∃ mb,base.Ns builtinsNs mb/\∀ x:Str,x ≠ "__name__"->mb x=bootBuiltins x
 nolimit:base.NoLimit
structure Cx where
 prog:Program
 w:World
 K:Frag
 mg:Str->Option Value
 base:Heap
 A:Around
 N:List Str
 s₀:Shared
 H₀:Hp
 env:Env
 outer:List Env
 stack:List Env
 ex:List Addr
 fn:Str->Bool
 calm:Bool
 pn:List (Addr × Obj)
 xe:Value->Shared->Prop
def frs (l:List Env):List Addr:=l.filterMap (·.frame)
abbrev Cx.fs (X:Cx):List Addr:=frs X.outer
def Vis (sc:Scope) (x:Str):Prop:=sc.names.lookup x=some .local\/sc.names.lookup x=some .cell\/sc.names.lookup x=some .free
def Loc (sc:Scope) (x:Str):Prop:=sc.names.lookup x=some .local\/sc.names.lookup x=some .cell
def Look (env:Env) (h:Heap) (m:Str->Option Value) (x:Str) (u:Value):Prop:=
 (env.kindOf x=some .local/\m x=some u)\/((env.kindOf x=some .cell\/env.kindOf x=some .free)/\∃ c,env.cells.lookup x=some c/\h.IsCell c (some u))
structure Cx.Ok (X:Cx):Prop where
 mod:Mod X.K X.mg X.base
 kind:X.env.scope.kind=.function
 glob:X.env.globals=mainGlobals
 blt:X.env.builtins=builtinsNs
 above:X.s₀.heap.objs.size <= X.env.locals
 inj:∀ x y c,X.env.cells.lookup x=some c->X.env.cells.lookup y=some c->x=y
 has:∀ x,(X.env.kindOf x=some .cell\/X.env.kindOf x=some .free)->∃ c,X.env.cells.lookup x=some c
 cab:∀ x c,X.fn x=true->X.env.cells.lookup x=some c->X.s₀.heap.objs.size <= c
 hd:X.calm=true->X.A.handled=none
 frames:X.A.frames=some X.stack
 stk:X.stack=X.outer\/(X.stack=X.env :: X.outer/\X.env.frame=some X.env.locals)
 exf:∀ b ∈ X.ex,b ≠ X.env.locals/\∀ x c,X.env.cells.lookup x=some c->c ≠ b
 bs:∀ b o,X.base.get? b=some o->X.s₀.heap.get? b=some o/\X.H₀ b=none
 bsz:X.base.objs.size <= X.s₀.heap.objs.size
 noex:∀ b o,X.base.get? b=some o->b ∉ X.ex
 exfs:∀ b ∈ X.ex,b ∉ X.fs
 funs:X.s₀.heap.FunFrames X.base X.outer
 frf:∀ b ∈ X.fs,X.H₀ b=none
structure Inv (X:Cx) (pins:List (Addr × Obj)) (σ:List (Option V)) (H:Hp) (s:Shared):Prop where
 ok:X.Ok
 os:s.os=X.s₀.os
 bare:AllBare s.gens
 base:Un X.fs X.ex X.H₀ H X.s₀.heap s.heap
 loc:∃ m,s.heap.Ns X.env.locals m/\∀ (i:Nat) (x:Str) (v:V),X.N[i]? = some x->σ[i]? = some (some v)->Vis X.env.scope x->∃ u,RelV v u/\Look X.env s.heap m x u
 cell:∀ x c,X.env.cells.lookup x=some c->∃ v,s.heap.IsCell c v
 free:H X.env.locals=none
 freeC:∀ x c,X.env.cells.lookup x=some c->H c=none
 pin:∀ p ∈ X.pn ++ pins,s.heap.get? p.1=some p.2/\H p.1=none/\p.1 ≠ X.env.locals/\p.1 ∉ X.fs/\∀ v,p.2.data ≠ .cell v
 hok:HOk X.prog X.w H s.heap
 len:σ.length=X.N.length
section
variable {X:Cx} {pins:List (Addr × Obj)} {σ:List (Option V)} {H H':Hp} {s:Shared} {h':Heap}
theorem Cx.Ok.nofr (ok:X.Ok) {b:Addr} {o:Obj} (e:X.base.get? b=some o):b ∉ X.fs:=fun hb=>by
 have:=(ok.funs.mem hb).1
 rw [e] at this; cases this
theorem Inv.bs (I:Inv X pins σ H s):∀ b o,X.base.get? b=some o->s.heap.get? b=some o/\H b=none:=fun b o e=>
 ⟨I.base.keep b o (I.ok.bs b o e).1 (I.ok.bs b o e).2 (I.ok.nofr e) (I.ok.noex b o e),I.base.free b o (I.ok.bs b o e).1 (I.ok.bs b o e).2 (I.ok.noex b o e)⟩
theorem Inv.bk (I:Inv X pins σ H s):∀ b o,X.base.get? b=some o->s.heap.get? b=some o:=fun b o e=>(I.bs b o e).1
theorem Inv.mod (I:Inv X pins σ H s):Mod X.K X.mg X.base:=I.ok.mod
theorem Inv.kIn (I:Inv X pins σ H s):X.K.In s.heap:=I.ok.mod.kin.keeps I.bk
theorem Inv.lt (I:Inv X pins σ H s):X.env.locals < s.heap.objs.size:=let ⟨_,hn,_⟩:=I.loc; hn.lt
theorem Inv.sz (I:Inv X pins σ H s):X.s₀.heap.objs.size <= s.heap.objs.size:=Nat.le_trans I.ok.above (Nat.le_of_lt I.lt)
theorem Inv.nofs (I:Inv X pins σ H s) {a:Addr} (h:s.heap.objs.size <= a):a ∉ X.fs:=fun hb=>by
 obtain ⟨_,o,ho,_⟩:=I.ok.funs.mem hb
 exact absurd (Nat.lt_of_lt_of_le (Heap.lt_size ho) (Nat.le_trans I.sz h)) (Nat.lt_irrefl _)
theorem Inv.cne (I:Inv X pins σ H s):∀ x c,X.env.cells.lookup x=some c->c ≠ X.env.locals:=fun x c e z=>by
 obtain ⟨v,o,ho,hd⟩:=I.cell x c e
 obtain ⟨m,⟨o',es,ep,ho',hd',_⟩,_⟩:=I.loc
 rw [z,ho'] at ho; cases ho; rw [hd'] at hd; cases hd
theorem Inv.funs (I:Inv X pins σ H s):s.heap.FunFrames X.base X.outer:=by
 have all:∀ (l:List Env),(∀ b ∈ frs l,b ∈ X.fs)->X.s₀.heap.FunFrames X.base l->s.heap.FunFrames X.base l:=by
  intro l
  induction l with
  | nil=>intro _ _; trivial
  | cons env r ih=>
   intro hs hl
   obtain ⟨hk,⟨L,o,hf,hn,ho,hd⟩,hr⟩:=hl
   have hL:L ∈ X.fs:=hs L (by unfold frs; rw [List.filterMap_cons,hf]; exact List.mem_cons_self)
   obtain ⟨sl,e⟩:=I.base.slot L o ho (I.ok.frf L hL) hL fun z=>I.ok.exfs L z hL
   exact ⟨hk,⟨L,_,hf,hn,e,hd⟩,ih (fun b hb=>hs b (by unfold frs; rw [List.filterMap_cons,hf]; exact List.mem_cons_of_mem _ hb)) hr⟩
 exact all X.outer (fun _ hb=>hb) I.ok.funs
theorem Inv.stack (I:Inv X pins σ H s):s.heap.FunFrames X.base X.stack:=by
 rcases I.ok.stk with e | ⟨e,hf⟩
 ·rw [e]; exact I.funs
 ·rw [e]
  obtain ⟨m,hn,_⟩:=I.loc
  refine .cons (by rw [I.ok.kind]; decide) hf hn ?_ I.funs
  exact Heap.get?_none_of_le (Nat.le_trans I.ok.bsz I.ok.above)
theorem Inv.stkSub (I:Inv X pins σ H s):∀ b ∈ frs X.stack,b ∈ X.env.locals :: X.fs:=fun b hb=>by
 rcases I.ok.stk with e | ⟨e,hf⟩
 ·rw [e] at hb; exact List.mem_cons_of_mem _ hb
 ·rw [e] at hb
  unfold frs at hb
  rw [List.filterMap_cons,hf] at hb
  exact hb
theorem Inv.stkFree (I:Inv X pins σ H s):∀ b ∈ frs X.stack,H b=none:=fun b hb=>by
 rcases List.mem_cons.mp (I.stkSub b hb) with e | hb
 ·rw [e]; exact I.free
 ·obtain ⟨_,o,ho,_⟩:=I.ok.funs.mem hb
  exact I.base.free b o ho (I.ok.frf b hb) fun z=>I.ok.exfs b z hb
theorem Inv.step {g':Array GenState} {t':Nat} {d':Drawn} {ch:List Addr} (I:Inv X pins σ H s)
  (hch:∀ b ∈ ch,(b ∈ X.ex\/X.s₀.heap.objs.size <= b)/\b ≠ X.env.locals/\(∀ x c,X.env.cells.lookup x=some c->c ≠ b)/\∀ p ∈ X.pn ++ pins,p.1 ≠ b)
  (keep:∀ b o,b ≠ X.env.locals->b ∉ X.fs->b ∉ ch->s.heap.get? b=some o->H b=none->h'.get? b=some o)
  (slot:∀ b o,b ≠ X.env.locals->b ∈ X.fs->b ∉ ch->s.heap.get? b=some o->H b=none->∃ sl,h'.get? b=some { o with slots:=sl }) (free:∀ b o,b ∉ ch->s.heap.get? b=some o->H b=none->H' b=none)
  (there:∀ b o,b ∉ ch->s.heap.get? b=some o->∃ o',h'.get? b=some o')
  (tups:∀ b xs,H b=some (.tup xs)->H' b=some (.tup xs)) (frzs:∀ b o u,H b=some (.frz o u)->H' b=some (.frz o u)) (tbls:∀ b ps,H b=some (.tbl ps)->∃ more,H' b=some (.tbl (ps ++ more)))
  (ns:∀ m,s.heap.Ns X.env.locals m->h'.Ns X.env.locals m) (hok:HOk X.prog X.w H' h') (hg:AllBare g') :
  Inv X pins σ H' { s with heap:=h',gens:=g',drawn:=d',toks:=t' }:=by
 have neL:∀ b o,X.s₀.heap.get? b=some o->b ≠ X.env.locals:=fun b o e=>Nat.ne_of_lt (Nat.lt_of_lt_of_le (Heap.lt_size e) I.ok.above)
 have neC:∀ b o,X.s₀.heap.get? b=some o->b ∉ X.ex->b ∉ ch:=fun b o e hx hb=>by
  rcases (hch b hb).1 with z | z
  ·exact hx z
  ·exact absurd (Nat.lt_of_lt_of_le (Heap.lt_size e) z) (Nat.lt_irrefl _)
 have cellK:∀ x c,X.env.cells.lookup x=some c->∀ v,s.heap.IsCell c v->h'.IsCell c v:=fun x c e v ⟨o,ho,hd⟩=>by
  have nch:c ∉ ch:=fun z=>(hch c z).2.2.1 x c e rfl
  by_cases hc:c ∈ X.fs
  ·obtain ⟨sl,q⟩:=slot c o (I.cne x c e) hc nch ho (I.freeC x c e)
   exact ⟨_,q,hd⟩
  ·exact ⟨o,keep c o (I.cne x c e) hc nch ho (I.freeC x c e),hd⟩
 refine ⟨I.ok,I.os,hg,⟨fun b o e n hb hx=>?_,fun b o e n hb hx=>?_,fun b o e n hx=>?_,fun b o e hx=>?_,fun b xs e=>tups b xs (I.base.tups b xs e),fun b o xs e=>frzs b o xs (I.base.frzs b o xs e),fun b ps e=>?_⟩,?_,fun x c e=>?_,?_,fun x c e=>?_,fun p hp=>?_,hok,I.len⟩
 ·exact keep b o (neL b o e) hb (neC b o e hx) (I.base.keep b o e n hb hx) (I.base.free b o e n hx)
 ·obtain ⟨sl,e1⟩:=I.base.slot b o e n hb hx
  obtain ⟨sl',e2⟩:=slot b _ (neL b o e) hb (neC b o e hx) e1 (I.base.free b o e n hx)
  exact ⟨sl',e2⟩
 ·obtain ⟨o',e1⟩:=I.base.there b o e hx
  exact free b o' (neC b o e hx) e1 (I.base.free b o e n hx)
 ·obtain ⟨o',e1⟩:=I.base.there b o e hx
  exact there b o' (neC b o e hx) e1
 ·obtain ⟨m1,e1⟩:=I.base.tbls b ps e
  obtain ⟨m2,e2⟩:=tbls b _ e1
  exact ⟨m1 ++ m2,by rw [e2,Array.append_assoc]⟩
 ·obtain ⟨m,hn,hl⟩:=I.loc
  refine ⟨m,ns m hn,fun i x v e1 e2 e3=>?_⟩
  obtain ⟨u,r,l⟩:=hl i x v e1 e2 e3
  refine ⟨u,r,?_⟩
  rcases l with l | ⟨k,c,e,z⟩
  ·exact .inl l
  ·exact .inr ⟨k,c,e,cellK x c e _ z⟩
 ·obtain ⟨v,z⟩:=I.cell x c e
  exact ⟨v,cellK x c e v z⟩
 ·obtain ⟨m,⟨o,_,_,ho,_⟩,_⟩:=I.loc
  exact free _ o (fun z=>(hch _ z).2.1 rfl) ho I.free
 ·obtain ⟨v,o,ho,hd⟩:=I.cell x c e
  exact free c o (fun z=>(hch c z).2.2.1 x c e rfl) ho (I.freeC x c e)
 ·obtain ⟨e,n,ne,nf,d⟩:=I.pin p hp
  have nch:p.1 ∉ ch:=fun z=>(hch p.1 z).2.2.2 p hp rfl
  exact ⟨keep p.1 p.2 ne nf nch e n,free p.1 p.2 nch e n,ne,nf,d⟩
theorem Inv.un {t':Nat} (I:Inv X pins σ H s) (u:Un X.fs [] H H' s.heap h') (hok:HOk X.prog X.w H' h'):Inv X pins σ H' { s with heap:=h',toks:=t' }:=by
 obtain ⟨m,⟨o,es,ep,ho,r⟩,_⟩:=id I.loc
 obtain ⟨sl,hL⟩:=u.any ho I.free (by simp)
 exact I.step (g':=s.gens) (d':=s.drawn) (ch:=[]) (fun _ z=>nomatch z) (fun b o _ hb _ e n=>u.keep b o e n hb (by simp)) (fun b o _ hb _ e n=>u.slot b o e n hb (by simp)) (fun b o _ e n=>u.free b o e n (by simp)) (fun b o _ e=>u.there b o e (by simp)) u.tups u.frzs u.tbls (fun m' hm=>by
  obtain ⟨o',es',ep',ho',r'⟩:=hm
  rw [ho] at ho'; cases ho'
  exact ⟨_,es',ep',hL,r'⟩) hok I.bare
theorem Inv.call {g':Array GenState} {t':Nat} {d':Drawn} {ch:List Addr} (I:Inv X pins σ H s) (u:Un (frs X.stack) ch H H' s.heap h') (hok:HOk X.prog X.w H' h') (hg:AllBare g')
  (hch:∀ b ∈ ch,(b ∈ X.ex\/X.s₀.heap.objs.size <= b)/\b ≠ X.env.locals/\(∀ x c,X.env.cells.lookup x=some c->c ≠ b)/\∀ p ∈ X.pn ++ pins,p.1 ≠ b) :
  Inv X pins σ H' { s with heap:=h',gens:=g',drawn:=d',toks:=t' }:=by
 obtain ⟨m,⟨o,es,ep,ho,r⟩,_⟩:=id I.loc
 obtain ⟨sl,hL⟩:=u.any ho I.free fun z=>(hch _ z).2.1 rfl
 exact I.step (ch:=ch) hch (fun b o hL hb hc e n=>u.keep b o e n (fun z=>(List.mem_cons.mp (I.stkSub b z)).elim hL hb) hc) (fun b o _ _ hc e n=>u.any e n hc) (fun b o hc e n=>u.free b o e n hc) (fun b o hc e=>u.there b o e hc) u.tups u.frzs u.tbls (fun m' hm=>by
  obtain ⟨o',es',ep',ho',r'⟩:=hm
  rw [ho] at ho'; cases ho'
  exact ⟨_,es',ep',hL,r'⟩) hok hg
theorem Inv.turned {t':Nat} {it:Addr} (I:Inv X pins σ H s) (k:∀ b o,b ≠ it->s.heap.get? b=some o->h'.get? b=some o) (hn:H it=none) (hL:it ≠ X.env.locals)
  (h1:it ∈ X.ex\/X.s₀.heap.objs.size <= it) (h2:∀ x c,X.env.cells.lookup x=some c->c ≠ it) (h3:∀ p ∈ X.pn ++ pins,p.1 ≠ it):Inv X pins σ H { s with heap:=h',toks:=t' }:=by
 have nit:∀ b u,H b=some u->b ≠ it:=fun b u e z=>by rw [z,hn] at e; cases e
 refine I.step (g':=s.gens) (d':=s.drawn) (ch:=[it]) (fun b hb=>?_) (fun b o _ _ hc e _=>k b o (fun z=>hc (by simp [z])) e) (fun b o _ _ hc e _=>⟨o.slots,k b o (fun z=>hc (by simp [z])) e⟩) (fun _ _ _ _ n=>n)
  (fun b o hc e=>⟨o,k b o (fun z=>hc (by simp [z])) e⟩) (fun _ _ e=>e) (fun _ _ _ e=>e) (fun b ps e=>⟨#[],by rw [e]; simp⟩) (fun m hm=>?_) (fun b u e=>?_) I.bare
 ·have e:b=it:=by simpa using hb
  subst e
  exact ⟨h1,hL,h2,h3⟩
 ·obtain ⟨o,es,ep,ho,r⟩:=hm
  exact ⟨o,es,ep,k _ o (Ne.symm hL) ho,r⟩
 ·refine (I.hok b u e).stay (fun c v hc q=>k c v ?_ q) (fun _ q=>q) fun _ _ q=>q
  rcases hc with z | z
  ·rw [z]; exact nit b u e
  ·exact nit c _ z
theorem Inv.tok (I:Inv X pins σ H s) (t:Nat):Inv X pins σ H { s with toks:=t }:=I.un (h':=s.heap) (t':=t) Un.refl I.hok
theorem Inv.kept {t':Nat} (I:Inv X pins σ H s) (k:∀ b u,s.heap.get? b=some u->h'.get? b=some u):Inv X pins σ H { s with heap:=h',toks:=t' }:=I.un (Un.kept k) (I.hok.kept k)
theorem Inv.laid {a:Addr} {o:HO} {t':Nat} (I:Inv X pins σ H s) (k:∀ b u,s.heap.get? b=some u->h'.get? b=some u) (hp:s.heap.objs.size <= a) (new:ObjOk X.prog X.w (upd H a o) h' a o) :
  Inv X pins σ (upd H a o) { s with heap:=h',toks:=t' }:=I.un (Un.laid k hp (I.hok.fresh hp)) (I.hok.laid k hp new)
theorem Inv.write {x e:Addr} {o:HO} {t':Nat} (I:Inv X pins σ H s) (mu:Mut (H x)) (he:e=x\/H e=some (.own x)) (k:∀ b u,b ≠ e->s.heap.get? b=some u->h'.get? b=some u) (heo:∃ u,h'.get? e=some u)
  (new:ObjOk X.prog X.w (upd H x o) h' x o):Inv X pins σ (upd H x o) { s with heap:=h',toks:=t' }:=I.un (Un.write mu he k heo) (I.hok.write mu he k heo new)
theorem Inv.pins_of {pins':List (Addr × Obj)} (I:Inv X pins σ H s) (h:∀ p ∈ pins',s.heap.get? p.1=some p.2/\H p.1=none/\p.1 ≠ X.env.locals/\p.1 ∉ X.fs/\∀ v,p.2.data ≠ .cell v):Inv X pins' σ H s:=
 ⟨I.ok,I.os,I.bare,I.base,I.loc,I.cell,I.free,I.freeC,fun p hp=>(List.mem_append.mp hp).elim (fun z=>I.pin p (List.mem_append_left _ z)) (h p),I.hok,I.len⟩
theorem nodup_ix {N:List Str} (hN:N.Nodup) {i j:Nat} {x:Str} (a:N[i]? = some x) (b:N[j]? = some x):i=j:=by
 obtain ⟨h1,e1⟩:=List.getElem?_eq_some_iff.mp a
 obtain ⟨h2,e2⟩:=List.getElem?_eq_some_iff.mp b
 exact (List.getElem_inj hN).mp (e1.trans e2.symm)
theorem lO {M:Model} {A:Around} {E:Value->Shared->Prop} {i:Nat} {x:Str} {v:V} {u:Value} {Q:Unit->Shared->Prop} (I:Inv X pins σ H s) (hN:X.N.Nodup) (hi:X.N[i]? = some x) (hx:Loc X.env.scope x) (r:RelV v u)
  (h:∀ s',Inv X pins (σ.set i (some v)) H s'->(∃ a,Heap.SameBut a s.heap s'.heap/\(a=X.env.locals\/X.env.cells.lookup x=some a))->Q () s') (hf:X.fn x=true\/X.env.scope.names.lookup x=some .local:=by first | exact .inl rfl | exact .inr rfl | assumption):wpAny M A (storeName X.env x u) Q E s:=by
 obtain ⟨m,hn,hl⟩:=id I.loc
 have hcls:(X.env.scope.kind == .class || (X.env.scope.kind == .module && X.env.locals != X.env.globals))=false:=by rw [I.ok.kind]; rfl
 have hiσ:i < σ.length:=by rw [I.len]; exact (List.getElem?_eq_some_iff.mp hi).1
 have cne:=I.cne
 have tracked:∀ {a:Addr} {h':Heap},(∃ o,s.heap.get? a=some o/\H a=none)->Heap.SameBut a s.heap h'->HOk X.prog X.w H h':=fun {a h'} ha hs b ob e=>by
  obtain ⟨_,_,hfree⟩:=ha
  refine (I.hok b ob e).stay (fun c w' hc q=>(hs.2 c ?_).trans q) (fun _ q=>q) fun _ _ q=>q
  rintro rfl
  rcases hc with rfl | hc
  ·rw [hfree] at e; cases e
  ·rw [hfree] at hc; cases hc
 rcases hx with hk | hk
 ·refine wpAny_storeName_local hk hn (fun h' hn' hs=>?_) hcls
  obtain ⟨oL,_,_,hoL,_⟩:=id hn
  refine h _ ⟨I.ok,I.os,I.bare,⟨fun b o e n hb hx=>?_,fun b o e n hb hx=>?_,I.base.free,fun b o e hx=>?_,I.base.tups,I.base.frzs,I.base.tbls⟩,⟨_,hn',fun j y v' e1 e2 e3=>?_⟩,fun y c e=>?_,I.free,I.freeC,fun p hp=>?_,tracked ⟨oL,hoL,I.free⟩ hs,by simpa using I.len⟩ ⟨_,hs,.inl rfl⟩
  ·exact (hs.2 b (Nat.ne_of_lt (Nat.lt_of_lt_of_le (Heap.lt_size e) I.ok.above))).trans (I.base.keep b o e n hb hx)
  ·obtain ⟨sl,e1⟩:=I.base.slot b o e n hb hx
   exact ⟨sl,(hs.2 b (Nat.ne_of_lt (Nat.lt_of_lt_of_le (Heap.lt_size e) I.ok.above))).trans e1⟩
  ·obtain ⟨o',e1⟩:=I.base.there b o e hx
   exact ⟨o',(hs.2 b (Nat.ne_of_lt (Nat.lt_of_lt_of_le (Heap.lt_size e) I.ok.above))).trans e1⟩
  ·by_cases hj:j=i
   ·subst hj
    rw [hi] at e1; cases e1
    rw [List.getElem?_set_self hiσ] at e2
    cases e2
    exact ⟨u,r,.inl ⟨hk,by simp⟩⟩
   ·rw [List.getElem?_set_ne (Ne.symm hj)] at e2
    obtain ⟨u',r',q⟩:=hl j y v' e1 e2 e3
    refine ⟨u',r',?_⟩
    rcases q with ⟨k,e⟩ | ⟨k,c,e,z⟩
    ·refine .inl ⟨k,?_⟩
     have:y ≠ x:=fun e=>hj (nodup_ix hN e1 (e ▸ hi))
     simp [this,e]
    ·exact .inr ⟨k,c,e,z.sameBut hs (cne y c e)⟩
  ·obtain ⟨w',z⟩:=I.cell y c e
   exact ⟨w',z.sameBut hs (cne y c e)⟩
  ·obtain ⟨e,n,ne,nf,d⟩:=I.pin p hp
   exact ⟨(hs.2 p.1 ne).trans e,n,ne,nf,d⟩
 ·have hfn:X.fn x=true:=by
   rcases hf with z | z
   ·exact z
   ·rw [z] at hk; cases hk
  obtain ⟨c,hc⟩:=I.ok.has x (.inl hk)
  obtain ⟨w',z⟩:=I.cell x c hc
  refine wpAny_storeName_cell I.ok.kind hk hc z (fun h' hc' hs=>?_)
  obtain ⟨oc,hoc,hocd⟩:=id z
  refine h { s with heap:=h' } ⟨I.ok,I.os,I.bare,⟨fun b o e n hb hx=>?_,fun b o e n hb hx=>?_,I.base.free,fun b o e hx=>?_,I.base.tups,I.base.frzs,I.base.tbls⟩,⟨m,hn.sameBut hs (Ne.symm (cne x c hc)),fun j y v' e1 e2 e3=>?_⟩,fun y c' e=>?_,I.free,I.freeC,fun p hp=>?_,tracked ⟨oc,hoc,I.freeC x c hc⟩ hs,by simpa using I.len⟩ ⟨c,hs,.inr hc⟩
  ·exact (hs.2 b (Nat.ne_of_lt (Nat.lt_of_lt_of_le (Heap.lt_size e) (I.ok.cab x c hfn hc)))).trans (I.base.keep b o e n hb hx)
  ·obtain ⟨sl,e1⟩:=I.base.slot b o e n hb hx
   exact ⟨sl,(hs.2 b (Nat.ne_of_lt (Nat.lt_of_lt_of_le (Heap.lt_size e) (I.ok.cab x c hfn hc)))).trans e1⟩
  ·obtain ⟨o',e1⟩:=I.base.there b o e hx
   exact ⟨o',(hs.2 b (Nat.ne_of_lt (Nat.lt_of_lt_of_le (Heap.lt_size e) (I.ok.cab x c hfn hc)))).trans e1⟩
  ·by_cases hj:j=i
   ·subst hj
    rw [hi] at e1; cases e1
    rw [List.getElem?_set_self hiσ] at e2
    cases e2
    exact ⟨u,r,.inr ⟨.inl hk,c,hc,hc'⟩⟩
   ·rw [List.getElem?_set_ne (Ne.symm hj)] at e2
    obtain ⟨u',r',q⟩:=hl j y v' e1 e2 e3
    refine ⟨u',r',?_⟩
    rcases q with q | ⟨k,c',e,z'⟩
    ·exact .inl q
    ·refine .inr ⟨k,c',e,z'.sameBut hs ?_⟩
     rintro rfl
     exact hj (nodup_ix hN e1 (I.ok.inj _ _ _ e hc ▸ hi))
  ·by_cases hcc:c'=c
   ·subst hcc; exact ⟨_,hc'⟩
   ·obtain ⟨w2,z2⟩:=I.cell y c' e
    exact ⟨w2,z2.sameBut hs hcc⟩
  ·obtain ⟨e,n,ne,nf,d⟩:=I.pin p hp
   refine ⟨(hs.2 p.1 ?_).trans e,n,ne,nf,d⟩
   intro q
   rw [q,hoc] at e
   have q':oc=p.2:=Option.some.inj e
   exact d w' (by rw [<- q']; exact hocd)
theorem gZ {M:Model} {A:Around} {E:Value->Shared->Prop} {i:Nat} {x:Str} {v:V} {u:Value} {Q:Unit->Shared->Prop} (I:Inv X pins σ H s) (hN:X.N.Nodup) (hi:X.N[i]? = some x) (hx:Loc X.env.scope x) (r:RelV v u)
  (h:∀ s',Inv X pins (σ.set i (some v)) H s'->Q () s') (hf:X.fn x=true\/X.env.scope.names.lookup x=some .local:=by first | exact .inl rfl | exact .inr rfl | assumption):wpAny M A (storeName X.env x u) Q E s:=
 lO I hN hi hx r (fun s' I' _=>h s' I') hf
theorem Inv.call' {s':Shared} {ch:List Addr} (I:Inv X pins σ H s) (ho:s'.os=s.os) (u:Un (frs X.stack) ch H H' s.heap s'.heap) (hok:HOk X.prog X.w H' s'.heap) (hg:AllBare s'.gens)
  (hch:∀ b ∈ ch,(b ∈ X.ex\/X.s₀.heap.objs.size <= b)/\b ≠ X.env.locals/\(∀ x c,X.env.cells.lookup x=some c->c ≠ b)/\∀ p ∈ X.pn ++ pins,p.1 ≠ b):Inv X pins σ H' s':=by
 obtain ⟨h',g',d',t',o'⟩:=s'
 have e:o'=s.os:=ho
 subst e
 exact I.call (g':=g') (t':=t') (d':=d') u hok hg hch
end
abbrev XK:=Value->Option Addr->Hp->Prop
abbrev St:=List (Option V)
abbrev VK:=V->Hp->Prop
abbrev TE:=St->Hp->VK->Prop
abbrev TT:=St->Hp->(Bool->Hp->Prop)->Prop
abbrev TA:=St->Hp->(List V->Hp->Prop)->Prop
structure j8 where
 nx:St->Hp->Prop
 rt:VK
 bk:St->Hp->Prop:=fun _ _=>False
 ct:St->Hp->Prop:=fun _ _=>False
abbrev TS:=j8->St->Hp->Prop
def EP (X:Cx) (pins:List (Addr × Obj)) (σ:St) (Q:VK) (u:Value) (s':Shared):Prop:=∃ v H',Inv X pins σ H' s'/\RelV v u/\Q v H'
def TP (X:Cx) (pins:List (Addr × Obj)) (σ:St) (Q:Bool->Hp->Prop) (b:Bool) (s':Shared):Prop:=∃ H',Inv X pins σ H' s'/\Q b H'
def AP (X:Cx) (pins:List (Addr × Obj)) (σ:St) (Q:List V->Hp->Prop) (us:List Value) (s':Shared):Prop:=∃ vs H',Inv X pins σ H' s'/\Vals vs us/\Q vs H'
def SP (X:Cx) (pins:List (Addr × Obj)) (D:j8) (f:Flow) (s':Shared):Prop:=
 match f with
 | .next=>∃ σ' H',Inv X pins σ' H' s'/\D.nx σ' H'
 | .brk=>∃ σ' H',Inv X pins σ' H' s'/\D.bk σ' H'
 | .cont=>∃ σ' H',Inv X pins σ' H' s'/\D.ct σ' H'
 | .ret u=>∃ v σ' H',Inv X pins σ' H' s'/\RelV v u/\D.rt v H'
def PE (X:Cx) (e:Expr) (t:TE):Prop:=
 ∀ (pins:List (Addr × Obj)) (s:Shared) (σ:St) (H:Hp) (Q:VK),Inv X pins σ H s->t σ H Q->wpAny (model X.prog X.w) X.A (eval e X.env) (EP X pins σ Q) X.xe s
def PT (X:Cx) (e:Expr) (t:TT):Prop:=
 ∀ (pins:List (Addr × Obj)) (s:Shared) (σ:St) (H:Hp) (Q:Bool->Hp->Prop),Inv X pins σ H s->t σ H Q->wpAny (model X.prog X.w) X.A (isTrue e X.env (eval e X.env)) (TP X pins σ Q) X.xe s
def PW (X:Cx) (e:Expr) (t:TT):Prop:=
 ∀ (whole:Sem Value) (pins:List (Addr × Obj)) (s:Shared) (σ:St) (H:Hp) (Q:Bool->Hp->Prop),Inv X pins σ H s->t σ H Q->wpAny (model X.prog X.w) X.A (isTrue e X.env whole) (TP X pins σ Q) X.xe s
theorem PW.pt {X:Cx} {e:Expr} {t:TT} (h:PW X e t):PT X e t:=h _
def PA (X:Cx) (es:List Expr) (t:TA):Prop:=
 ∀ (pos:Pos) (pins:List (Addr × Obj)) (s:Shared) (σ:St) (H:Hp) (Q:List V->Hp->Prop),Inv X pins σ H s->t σ H Q->wpAny (model X.prog X.w) X.A (spliced (backTo pos (starEach es X.env))) (AP X pins σ Q) X.xe s
def PS (X:Cx) (st:Stmt) (t:TS):Prop:=
 ∀ (pins:List (Addr × Obj)) (s:Shared) (σ:St) (H:Hp) (D:j8),Inv X pins σ H s->t D σ H->wpAny (model X.prog X.w) X.A (exec st X.env) (SP X pins D) X.xe s
def PSs (X:Cx) (st:List Stmt) (t:TS):Prop:=
 ∀ (pins:List (Addr × Obj)) (s:Shared) (σ:St) (H:Hp) (D:j8),Inv X pins σ H s->t D σ H->wpAny (model X.prog X.w) X.A (execs st X.env) (SP X pins D) X.xe s
theorem thn {α:Type} {t:Sem α} {Q Q':α->Shared->Prop} {M:Model} {A:Around} {E:Value->Shared->Prop} {s:Shared} (h:wpAny M A t Q E s) (hQ:∀ a s,Q a s->Q' a s):wpAny M A t Q' E s:=wpAny_mono h hQ fun _ _ x=>x
end L2
namespace L2
open PySem PySem.Spec PyProof.Rows
section
variable {X:Cx}
theorem bin {a b:Expr} {ta tb:TE} (ha:PE X a ta) (hb:PE X b tb) {pins:List (Addr × Obj)} {s:Shared} {σ:St} {H:Hp} {R:V->V->Hp->Prop} (I:Inv X pins σ H s) (h:ta σ H fun x H1=>tb σ H1 fun y H2=>R x y H2)
  {α:Type} {Q:α->Shared->Prop} {f:Value->Value->Sem α}
  (hf:∀ v u s2 x y H2,Inv X pins σ H2 s2->RelV x v->RelV y u->R x y H2->wpAny (model X.prog X.w) X.A (f v u) Q X.xe s2) :
  wpAny (model X.prog X.w) X.A (eval a X.env) (fun v s₁=>wpAny (model X.prog X.w) X.A (eval b X.env) (fun u s₂=>wpAny (model X.prog X.w) X.A (f v u) Q X.xe s₂) X.xe s₁) X.xe s:=by
 refine thn (ha pins s σ H _ I h) fun v s1 ⟨x,H1,I1,r1,q1⟩=>?_
 refine thn (hb pins s1 σ H1 _ I1 q1) fun u s2 ⟨y,H2,I2,r2,q2⟩=>?_
 exact hf v u s2 x y H2 I2 r1 r2 q2
def gk (i:Nat):TE:=fun σ H Q=>∃ v,σ[i]? = some (some v)/\Q v H
def tC (v:V):TE:=fun _ H Q=>Q v H
theorem pe_var {i:Nat} {x:Str} {pos:Pos} (hN:X.N[i]? = some x) (hv:Vis X.env.scope x) (hd:(x == ("__debug__" : Str))=false:=by decide) (hcd:(x == ("__classdict__" : Str))=false:=by decide):PE X (.Name x pos) (gk i):=by
 intro pins s σ H Q I h
 obtain ⟨v,e,h⟩:=h
 obtain ⟨m,hn,hl⟩:=I.loc
 obtain ⟨u,r,l⟩:=hl i x v hN e hv
 have fin:EP X pins σ Q u s:=⟨v,H,I,r,h⟩
 rcases l with ⟨hk,hm⟩ | ⟨hk,c,hc,hcell⟩
 ·exact wpAny_Name (wpAny_loadName_local I.ok.kind hk hn hm fin) hd
 ·rcases hk with hk | hk
  ·exact wpAny_Name (wpAny_loadName_cell I.ok.kind hk hc hcell fin) hd
  ·exact wpAny_Name (wpAny_loadName_free I.ok.kind hk hc hcell fin hcd) hd
theorem ae {i j pos}:PE X (.Constant (.int i) j pos) (tC (.int i)):=fun _ _ _ H _ I h=>wpAny_Constant_int ⟨.int i,H,I.tok _,⟨_,rfl⟩,h⟩
theorem bQ {b j pos}:PE X (.Constant (.bool b) j pos) (tC (.bl b)):=fun _ _ _ H _ I h=>Constant_bool ⟨.bl b,H,I,rfl,h⟩
theorem gU {j pos}:PE X (.Constant .none j pos) (tC .non):=fun _ _ _ H _ I h=>Constant_none ⟨.non,H,I,rfl,h⟩
theorem mz {x j pos}:PE X (.Constant (.str x) j pos) (tC (.str x)):=fun _ _ _ H _ I h=>Calls.Constant_str ⟨.str x,H,I.tok _,⟨_,rfl⟩,h⟩
def Gl (X:Cx) (x:Str):Prop:=X.env.kindOf x=some .globalImplicit
theorem iD {E:Value->Shared->Prop} {pins:List (Addr × Obj)} {s:Shared} {σ:St} {H:Hp} {x:Str} {u:Value} {pos:Pos} {Q:Value->Shared->Prop} (I:Inv X pins σ H s) (hg:Gl X x) (hm:X.mg x=some u) (h:Q u s)
  (hd:(x == ("__debug__" : Str))=false:=by decide):wpAny (model X.prog X.w) X.A (eval (.Name x pos) X.env) Q E s:=
 Calls.Name_function_global I.ok.kind hg (Calls.loadGlobal_global (by rw [I.ok.glob]; exact I.mod.glob.keeps I.bk) hm h) hd
theorem fM {E:Value->Shared->Prop} {pins:List (Addr × Obj)} {s:Shared} {σ:St} {H:Hp} {x:Str} {u:Value} {pos:Pos} {Q:Value->Shared->Prop} (I:Inv X pins σ H s) (hg:Gl X x) (hm:X.mg x=none) (hv:bootBuiltins x=some u) (h:Q u s)
  (hn:x ≠ "__name__":=by decide) (hd:(x == ("__debug__" : Str))=false:=by decide):wpAny (model X.prog X.w) X.A (eval (.Name x pos) X.env) Q E s:=by
 obtain ⟨mb,h1,h2⟩:=I.mod.blt
 exact Calls.Name_function_global I.ok.kind hg (Calls.loadGlobal_builtin (by rw [I.ok.glob]; exact I.mod.glob.keeps I.bk) hm (by rw [I.ok.blt]; exact h1.keeps I.bk) ((h2 x hn).trans hv) h) hd
theorem jt {x:Str} {v:V} {u:Value} {pos:Pos} (hg:Gl X x) (hm:X.mg x=some u) (r:RelV v u) (hd:(x == ("__debug__" : Str))=false:=by decide):PE X (.Name x pos) (tC v):=
 fun _ _ _ H _ I h=>iD I hg hm ⟨v,H,I,r,h⟩ hd
theorem pe_bltn {x:Str} {v:V} {u:Value} {pos:Pos} (hg:Gl X x) (hm:X.mg x=none) (hv:bootBuiltins x=some u) (r:RelV v u) (hn:x ≠ "__name__":=by decide) (hd:(x == ("__debug__" : Str))=false:=by decide):PE X (.Name x pos) (tC v):=
 fun _ _ _ H _ I h=>fM I hg hm hv ⟨v,H,I,r,h⟩ hn hd
variable {a b:Expr} {ta tb:TE} {pos:Pos}
def PC (X:Cx) (op:CmpOp) (a b:Expr) (t:TE):Prop:=
 ∀ (pins:List (Addr × Obj)) (s:Shared) (σ:St) (H:Hp) (Q:VK),Inv X pins σ H s->t σ H Q->
  wpAny (model X.prog X.w) X.A (eval a X.env) (fun v s₁=>wpAny (model X.prog X.w) X.A (eval b X.env) (fun u s₂=>wpAny (model X.prog X.w) X.A (compareOp op v u) (EP X pins σ Q) X.xe s₂) X.xe s₁) X.xe s
def tB (t:TE):TT:=fun σ H Q=>t σ H fun x H1=>∃ c,x=.bl c/\Q c H1
theorem pt_cmp {op:CmpOp} {t:TE} (h:PC X op a b t) (h1:behindInMarks op b=false:=by first | exact nobehind _ (by decide) (by decide) | rfl):PT X (.Compare a [op] [b] pos) (tB t):=by
 intro pins s σ H Q I hw
 refine wpAny_isTrue_Compare1 (thn (h pins s σ H _ I hw) fun v s1 h1=>thn h1 fun u s2 h2=>thn h2 fun c s3 ⟨x,H1,I1,r1,q1⟩=>?_) h1
 obtain ⟨d,rfl,q⟩:=q1
 cases r1
 exact wpAny_truthy_bool ⟨H1,I1,q⟩
theorem aW {e:Expr} {t:TE} (h:PE X e t) (he:∀ whole,isTrue e X.env whole=(do let v <- whole; standAt e.pos; holding [v] (truthy v)):=by intro _; rfl):PT X e (tB t):=by
 intro pins s σ H Q I hw
 refine isTrue_plain (thn (h pins s σ H _ I hw) fun v s1 ⟨x,H1,I1,r1,q1⟩=>?_) (he _)
 obtain ⟨d,rfl,q⟩:=q1
 cases r1
 exact wpAny_truthy_bool ⟨H1,I1,q⟩
variable {tA tB':TT} {rest:List Expr}
def tAnd (t u:TT):TT:=fun σ H Q=>t σ H fun c H1=>if c=true then u σ H1 Q else Q false H1
def tOr (t u:TT):TT:=fun σ H Q=>t σ H fun c H1=>if c=true then Q true H1 else u σ H1 Q
def tNot (t:TT):TT:=fun σ H Q=>t σ H fun c H1=>Q (!c) H1
theorem pw_and1 (ha:PT X a tA):PW X (.BoolOp .And [a] pos) tA:=by
 intro wh pins s σ H Q I h
 refine isTrue_and (thn (ha pins s σ H Q I h) fun c s1 e=>?_)
 cases c with
 | true=>exact isTrue_and_nil e
 | false=>exact e
theorem bL (ha:PT X a tA):PW X (.BoolOp .Or [a] pos) tA:=by
 intro wh pins s σ H Q I h
 refine isTrue_or (thn (ha pins s σ H Q I h) fun c s1 e=>?_)
 cases c with
 | false=>exact isTrue_or_nil e
 | true=>exact e
theorem pw_and (ha:PT X a tA) (hb:PW X (.BoolOp .And (b :: rest) pos) tB'):PW X (.BoolOp .And (a :: b :: rest) pos) (tAnd tA tB'):=by
 intro wh pins s σ H Q I h
 refine isTrue_and (thn (ha pins s σ H _ I h) fun c s1 ⟨H1,I1,q1⟩=>?_)
 cases c with
 | true=>exact hb wh pins s1 σ H1 Q I1 q1
 | false=>exact ⟨H1,I1,q1⟩
theorem bR (ha:PT X a tA) (hb:PW X (.BoolOp .Or (b :: rest) pos) tB'):PW X (.BoolOp .Or (a :: b :: rest) pos) (tOr tA tB'):=by
 intro wh pins s σ H Q I h
 refine isTrue_or (thn (ha pins s σ H _ I h) fun c s1 ⟨H1,I1,q1⟩=>?_)
 cases c with
 | true=>exact ⟨H1,I1,q1⟩
 | false=>exact hb wh pins s1 σ H1 Q I1 q1
theorem aY (ha:PT X a tA):PT X (.UnaryOp .Not a pos) (tNot tA):=by
 intro pins s σ H Q I h
 exact isTrue_not (ha pins s σ H (fun c H1=>Q (!c) H1) I h)
def tAndV (ta tb:TE):TE:=fun σ H Q=>ta σ H fun x H1=>∃ c,x=.bl c/\if c=true then tb σ H1 Q else Q (.bl false) H1
def tOrV (ta tb:TE):TE:=fun σ H Q=>ta σ H fun x H1=>∃ c,x=.bl c/\if c=true then Q (.bl true) H1 else tb σ H1 Q
def tNotV (ta:TE):TE:=fun σ H Q=>ta σ H fun x H1=>∃ c,x=.bl c/\Q (.bl (!c)) H1
theorem bY {op} {t:TE} (h:PE X a t):PE X (.BoolOp op [a] pos) t:=fun pins s σ H Q I hw=>BoolOp_one (h pins s σ H Q I hw)
theorem cr (ha:PE X a ta) (hb:PE X (.BoolOp .And (b :: rest) pos) tb):PE X (.BoolOp .And (a :: b :: rest) pos) (tAndV ta tb):=by
 intro pins s σ H Q I h
 refine BoolOp_and (thn (ha pins s σ H _ I h) fun v s1 ⟨x,H1,I1,r1,q1⟩=>?_)
 obtain ⟨c,rfl,q1⟩:=q1
 cases r1
 refine wpAny_truthy_bool ?_
 cases c with
 | true=>exact hb pins s1 σ H1 Q I1 q1
 | false=>exact ⟨.bl false,H1,I1,rfl,q1⟩
theorem pe_or (ha:PE X a ta) (hb:PE X (.BoolOp .Or (b :: rest) pos) tb):PE X (.BoolOp .Or (a :: b :: rest) pos) (tOrV ta tb):=by
 intro pins s σ H Q I h
 refine BoolOp_or (thn (ha pins s σ H _ I h) fun v s1 ⟨x,H1,I1,r1,q1⟩=>?_)
 obtain ⟨c,rfl,q1⟩:=q1
 cases r1
 refine wpAny_truthy_bool ?_
 cases c with
 | false=>exact hb pins s1 σ H1 Q I1 q1
 | true=>exact ⟨.bl true,H1,I1,rfl,q1⟩
theorem pe_not (ha:PE X a ta):PE X (.UnaryOp .Not a pos) (tNotV ta):=by
 intro pins s σ H Q I h
 refine UnaryOp_ (thn (ha pins s σ H _ I h) fun v s1 ⟨x,H1,I1,r1,q1⟩=>?_)
 obtain ⟨c,rfl,q1⟩:=q1
 cases r1
 exact not_of (wpAny_truthy_bool ⟨.bl (!c),H1,I1,rfl,q1⟩)
end
end L2
namespace L2
open PySem PySem.Spec PyProof.Rows
def SqL (K:Frag) (H:Hp) (a:Addr) (xs:List V):Prop:=
 Rd H a (.lst xs) \/
  ∃ (o:Obj) (its:Array Value) (n:Nat),K.lookup a=some o/\o.cls=.type "list"/\o.dict=none/\o.data=.seq its n/\its.size <= sizeLine/\Vals xs its.toList
def SqT (K:Frag) (H:Hp) (a:Addr) (xs:List V):Prop:=
 Rd H a (.tup xs) \/
  ∃ (o:Obj) (its:Array Value) (n:Nat),K.lookup a=some o/\o.cls=.type "tuple"/\o.data=.seq its n/\its.size <= sizeLine/\Vals xs its.toList
def absV:Value->Option V
 | .none=>some .non
 | .bool b=>some (.bl b)
 | .int i _=>some (.int i)
 | .str x _=>some (.str x)
 | .bytes b _=>some (.byt b)
 | .float b _=>some (.flt b)
 | .ref a=>some (.ref a)
 | .type n=>some (.ty n)
 | _=>none
theorem RelV.abs {x:V} {u:Value} (r:RelV x u):absV u=some x:=by
 cases x with
 | non=>cases r; rfl
 | bl _=>cases r; rfl
 | int _=>obtain ⟨t,rfl⟩:=r; rfl
 | str _=>obtain ⟨t,rfl⟩:=r; rfl
 | byt _=>obtain ⟨t,rfl⟩:=r; rfl
 | flt _=>obtain ⟨t,rfl⟩:=r; rfl
 | ref _=>cases r; rfl
 | ty _=>cases r; rfl
theorem RelV.inj {x y:V} {u:Value} (r:RelV x u) (q:RelV y u):x=y:=Option.some.inj (r.abs.symm.trans q.abs)
theorem Vals.inj:∀ {xs ys:List V} {us:List Value},Vals xs us->Vals ys us->xs=ys
 | _,_,_,.nil,.nil=>rfl
 | _,_,_,.cons r t,.cons r' t'=>by rw [r.inj r',Vals.inj t t']
section
variable {X:Cx} {pins:List (Addr × Obj)} {σ:St} {H:Hp} {s:Shared} {a:Addr} {xs ys:List V}
theorem SqL.of {K:Frag} (h:H a=some (.lst xs)):SqL K H a xs:=.inl (.inl h)
theorem SqT.of {K:Frag} (h:H a=some (.tup xs)):SqT K H a xs:=.inl (.inl h)
theorem Inv.list (I:Inv X pins σ H s) (h:SqL X.K H a xs):∃ its:List Value,Vals xs its/\PlainL s.heap a its.toArray/\xs.length <= sizeLine:=by
 rcases h with h | ⟨o,its,n,hk,hc,hd,hs,hz,r⟩
 ·obtain ⟨z,its,n,r,e⟩:=h.ok I.hok
  exact ⟨its,r,⟨_,n,e,rfl,rfl,rfl⟩,z⟩
 ·refine ⟨its.toList,r,⟨o,n,I.kIn a o hk,hc,hd,by simpa using hs⟩,?_⟩
  have e:=r.length
  simp only [Array.length_toList] at e
  omega
theorem Inv.tuple (I:Inv X pins σ H s) (h:SqT X.K H a xs):∃ its:List Value,Vals xs its/\IsTup s.heap a its.toArray/\xs.length <= sizeLine:=by
 rcases h with h | ⟨o,its,n,hk,hc,hs,hz,r⟩
 ·obtain ⟨z,its,r,p⟩:=h.ok I.hok
  exact ⟨its,r,p,z⟩
 ·refine ⟨its.toList,r,⟨o,I.kIn a o hk,hc,n,by simpa using hs⟩,?_⟩
  have e:=r.length
  simp only [Array.length_toList] at e
  omega
theorem Inv.list_inj (I:Inv X pins σ H s) (h:SqL X.K H a xs) (h':SqL X.K H a ys):xs=ys:=by
 obtain ⟨its,r,⟨o,n,e,_,_,d⟩,_⟩:=I.list h
 obtain ⟨its',r',⟨o',n',e',_,_,d'⟩,_⟩:=I.list h'
 rw [e] at e'; cases e'
 rw [d] at d'
 injection d' with d1 _
 have:its=its':=by simpa using congrArg Array.toList d1
 subst this
 exact r.inj r'
theorem Inv.tuple_inj (I:Inv X pins σ H s) (h:SqT X.K H a xs) (h':SqT X.K H a ys):xs=ys:=by
 obtain ⟨its,r,⟨o,e,_,n,d⟩,_⟩:=I.tuple h
 obtain ⟨its',r',⟨o',e',_,n',d'⟩,_⟩:=I.tuple h'
 rw [e] at e'; cases e'
 rw [d] at d'
 injection d' with d1 _
 have:its=its':=by simpa using congrArg Array.toList d1
 subst this
 exact r.inj r'
end
abbrev Cx.wish (X:Cx) (E:Value->Shared->Prop):Cx:={ X with xe:=E }
abbrev Cx.nox (X:Cx):Cx:=X.wish fun _ _=>False
theorem Cx.Ok.wish {X:Cx} (ok:X.Ok) (E:Value->Shared->Prop):(X.wish E).Ok:=
 ⟨ok.mod,ok.kind,ok.glob,ok.blt,ok.above,ok.inj,ok.has,ok.cab,ok.hd,ok.frames,ok.stk,ok.exf,ok.bs,ok.bsz,ok.noex,ok.exfs,ok.funs,ok.frf⟩
theorem Cx.Ok.unwish {X:Cx} {E:Value->Shared->Prop} (ok:(X.wish E).Ok):X.Ok:=
 ⟨ok.mod,ok.kind,ok.glob,ok.blt,ok.above,ok.inj,ok.has,ok.cab,ok.hd,ok.frames,ok.stk,ok.exf,ok.bs,ok.bsz,ok.noex,ok.exfs,ok.funs,ok.frf⟩
section
variable {X:Cx} {pins:List (Addr × Obj)} {σ:St} {H:Hp} {s:Shared} {E:Value->Shared->Prop}
theorem Inv.wish (I:Inv X pins σ H s) (E:Value->Shared->Prop):Inv (X.wish E) pins σ H s:=⟨I.ok.wish E,I.os,I.bare,I.base,I.loc,I.cell,I.free,I.freeC,I.pin,I.hok,I.len⟩
theorem Inv.unwish (I:Inv (X.wish E) pins σ H s):Inv X pins σ H s:=⟨I.ok.unwish,I.os,I.bare,I.base,I.loc,I.cell,I.free,I.freeC,I.pin,I.hok,I.len⟩
theorem SP.unwish {D:j8} {f:Flow} {s':Shared} (h:SP (X.wish E) pins D f s'):SP X pins D f s':=by
 cases f with
 | next=>obtain ⟨σ',H',I,q⟩:=h; exact ⟨σ',H',I.unwish,q⟩
 | brk=>obtain ⟨σ',H',I,q⟩:=h; exact ⟨σ',H',I.unwish,q⟩
 | cont=>obtain ⟨σ',H',I,q⟩:=h; exact ⟨σ',H',I.unwish,q⟩
 | ret u=>obtain ⟨v,σ',H',I,r,q⟩:=h; exact ⟨v,σ',H',I.unwish,r,q⟩
theorem PSs.nox {st:List Stmt} {t:TS} (h:PSs X.nox st t):PSs X st t:=fun pins s σ H D I hw=>
 wpAny_mono (h pins s σ H D (I.wish _) hw) (fun _ _ q=>q.unwish) fun _ _ z=>False.elim z
end
section
variable {X:Cx} {st:Stmt} {rest:List Stmt} {t u:TS} {e:Expr} {te:TE} {pos:Pos}
def tNext:TS:=fun D σ H=>D.nx σ H
def tSeq (t u:TS):TS:=fun D σ H=>t { D with nx:=u D } σ H
theorem aB:PSs X [] tNext:=fun _ _ σ H _ I h=>wpAny_execs_nil ⟨σ,H,I,h⟩
theorem ag (h1:PS X st t) (h2:PSs X rest u):PSs X (st :: rest) (tSeq t u):=by
 intro pins s σ H D I h
 refine wpAny_execs_cons (thn (h1 pins s σ H { D with nx:=u D } I h) fun f s1 q=>?_)
 cases f with
 | next=>
  obtain ⟨σ',H',I',q⟩:=q
  exact h2 pins s1 σ' H' D I' q
 | ret v=>exact q
 | brk=>exact q
 | cont=>exact q
theorem ak (h1:PS X st t):PSs X [st] t:=by
 intro pins s σ H D I h
 refine wpAny_execs_cons (thn (h1 pins s σ H D I h) fun f s1 q=>?_)
 cases f with
 | next=>exact wpAny_execs_nil q
 | ret v=>exact q
 | brk=>exact q
 | cont=>exact q
theorem Inv.quiet {pins:List (Addr × Obj)} {σ:St} {H:Hp} {s:Shared} (I:Inv X pins σ H s):interactive X.env=false:=by simp [interactive,I.ok.kind]
def tDrop (te:TE):TS:=fun D σ H=>te σ H fun _ H1=>D.nx σ H1
theorem gg (he:PE X e te) (hs:swapsWith e none pos.line X.env=pure false:=by rfl):PS X (.Expr e pos) (tDrop te):=by
 intro pins s σ H D I h
 exact wpAny_Expr_any (thn (he pins s σ H _ I h) fun v s1 ⟨x,H1,I1,r1,q1⟩=>⟨σ,H1,I1,q1⟩) I.quiet hs
def tRet (te:TE):TS:=fun D σ H=>te σ H D.rt
theorem aq (he:PE X e te):PS X (.Return (some e) pos) (tRet te):=by
 intro pins s σ H D I h
 exact wpAny_Return_some (thn (he pins s σ H _ I h) fun v s1 ⟨x,H1,I1,r1,q1⟩=>⟨x,σ,H1,I1,r1,q1⟩)
def kg (c:TT) (t u:TS):TS:=fun D σ H=>c σ H fun b H1=>if b=true then t D σ H1 else u D σ H1
theorem aJ {c:Expr} {a b:List Stmt} {tc:TT} (hc:PT X c tc) (ha:PSs X a t) (hb:PSs X b u):PS X (.If c a b pos) (kg tc t u):=by
 intro pins s σ H D I h
 refine wpAny_If (thn (hc pins s σ H _ I h) fun d s1 ⟨H1,I1,q1⟩=>?_)
 cases d with
 | true=>exact ha pins s1 σ H1 D I1 q1
 | false=>exact hb pins s1 σ H1 D I1 q1
def tNever:TS:=fun _ _ _=>False
theorem ps_never:PS X st tNever:=fun _ _ _ _ _ _ h=>h.elim
end
abbrev TG:=V->St->Hp->(St->Hp->Prop)->Prop
abbrev TGs:=List V->St->Hp->(St->Hp->Prop)->Prop
def PG (X:Cx) (target:Expr) (t:TG):Prop:=
 ∀ (pins:List (Addr × Obj)) (s:Shared) (σ:St) (H:Hp) (v:V) (u:Value) (Q:St->Hp->Prop),Inv X pins σ H s->RelV v u->t v σ H Q->
  wpAny (model X.prog X.w) X.A (assign target X.env u) (fun _ s'=>∃ σ' H',Inv X pins σ' H' s'/\Q σ' H') X.xe s
def PGs (X:Cx) (ts:List Expr) (t:TGs):Prop:=
 ∀ (pins:List (Addr × Obj)) (s:Shared) (σ:St) (H:Hp) (vs:List V) (us:List Value) (Q:St->Hp->Prop),Inv X pins σ H s->Vals vs us->t vs σ H Q->
  wpAny (model X.prog X.w) X.A (assignInOrder ((assignEach ts X.env).map (·.2)) us) (fun _ s'=>∃ σ' H',Inv X pins σ' H' s'/\Q σ' H') X.xe s
abbrev TSet:=V->V->V->Hp->(Hp->Prop)->Prop
def PSet (X:Cx) (t:TSet):Prop:=
 ∀ (pins:List (Addr × Obj)) (s:Shared) (σ:St) (H:Hp) (o i v:V) (ov iv u:Value) (Q:Hp->Prop),Inv X pins σ H s->RelV o ov->RelV i iv->RelV v u->t o i v H Q->
  wpAny (model X.prog X.w) X.A (setItem ov iv u) (fun _ s'=>∃ H',Inv X pins σ H' s'/\Q H') X.xe s
section
variable {X:Cx} {pos:Pos}
def cI (i:Nat):TG:=fun v σ H Q=>Q (σ.set i (some v)) H
theorem aM {i:Nat} {x:Str} (hN:X.N.Nodup) (hi:X.N[i]? = some x) (hx:Loc X.env.scope x) (hf:X.fn x=true\/X.env.scope.names.lookup x=some .local:=by first | exact .inl rfl | exact .inr rfl | assumption):PG X (.Name x pos) (cI i):=by
 intro pins s σ H v u Q I r h
 exact wpAny_assign_Name (gZ I hN hi hx r (fun s' I'=>⟨_,H,I',h⟩) hf)
def gNil:TGs:=fun vs σ H Q=>vs=[]/\Q σ H
def iq (t:TG) (u:TGs):TGs:=fun vs σ H Q=>∃ v r,vs=v :: r/\t v σ H fun σ' H'=>u r σ' H' Q
theorem eX:PGs X [] gNil:=by
 intro pins s σ H vs us Q I r h
 obtain ⟨e,h⟩:=h
 subst e
 cases r
 exact assignInOrder_nil ⟨σ,H,I,h⟩
theorem aQ {e:Expr} {es:List Expr} {t:TG} {u:TGs} (h1:PG X e t) (h2:PGs X es u)
  (hs:(assignEach (e :: es) X.env).map (·.2)=assign e X.env :: (assignEach es X.env).map (·.2):=by rfl):PGs X (e :: es) (iq t u):=by
 intro pins s σ H vs us Q I r h
 obtain ⟨v,vr,e1,h⟩:=h
 subst e1
 cases r with
 | cons r rr=>
  rw [hs]
  refine assignInOrder_cons (thn (h1 pins s σ H _ _ _ I r h) fun _ s1 ⟨σ1,H1,I1,q1⟩=>?_)
  exact h2 pins s1 σ1 H1 _ _ Q I1 rr q1
def gTup (K:Frag) (n:Nat) (t:TGs):TG:=fun v σ H Q=>∃ a xs,v=.ref a/\SqT K H a xs/\xs.length=n/\t xs σ H Q
theorem gA {es:List Expr} {k:Nat} {t:TGs} {n:Nat} (hc:X.calm=true) (h:PGs X es t)
  (hn:(assignEach es X.env).length=n:=by rfl) (hst:(assignEach es X.env).findIdx? (·.1)=none:=by rfl):PG X (.Tuple es k pos) (gTup X.K n t):=by
 intro pins s σ H v u Q I r hw
 obtain ⟨a,xs,e1,hq,hl,hw⟩:=hw
 subst e1
 cases r
 obtain ⟨its,rv,ht,hz⟩:=I.tuple hq
 refine assign_Tuple_tuple (I.ok.hd hc) ht (by simp [hn,<- hl,rv.length]) hst fun h' hx=>?_
 have I1:Inv X pins σ H { s with heap:=h' }:=I.kept (t':=s.toks) fun b o e=>hx b o (Nat.ne_of_lt (Heap.lt_size e)) e
 exact h pins _ σ H xs _ Q I1 (by simpa using rv) hw
def gSub (to ti:TE) (t:TSet):TG:=fun v σ H Q=>to σ H fun o H1=>ti σ H1 fun i H2=>t o i v H2 fun H3=>Q σ H3
theorem lV {o i:Expr} {to ti:TE} {t:TSet} (ho:PE X o to) (hi:PE X i ti) (hs:PSet X t)
  (ha:∀ v,assign (.Subscript o i pos) X.env v=(do
   let ov <- holding [v] (eval o X.env)
   let iv <- holding [v,ov] (eval i X.env)
   standAt pos
   holding [v,ov,iv] (setItem ov iv v)
   release [v,ov,iv] []):=by intro _; rfl):PG X (.Subscript o i pos) (gSub to ti t):=by
 intro pins s σ H v u Q I r h
 rw [ha]
 refine wpAny_bind (wpAny_holding (thn (ho pins s σ H _ I h) fun ov s1 ⟨x,H1,I1,r1,q1⟩=>?_))
 refine wpAny_bind (wpAny_holding (thn (hi pins s1 σ H1 _ I1 q1) fun iv s2 ⟨y,H2,I2,r2,q2⟩=>?_))
 refine wpAny_bind (wpAny_standAt (wpAny_bind (wpAny_holding (thn (hs pins s2 σ H2 x y v ov iv u _ I2 r1 r2 r q2) fun _ s3 ⟨H3,I3,q3⟩=>?_))))
 exact wpAny_release ⟨σ,H3,I3,q3⟩
def tAsg (te:TE) (g:TG):TS:=fun D σ H=>te σ H fun x H1=>g x σ H1 D.nx
theorem fA {tg e:Expr} {te:TE} {g:TG} (he:PE X e te) (hg:PG X tg g) (hs:swapsWithSole [tg] e pos.line X.env=pure false:=by rfl) (hw:swappedStores [tg] e X.env=pure none:=by rfl)
  (h1:(assignEach [tg] X.env).map (·.2)=[assign tg X.env]:=by rfl):PS X (.Assign [tg] e pos) (tAsg te g):=by
 intro pins s σ H D I h
 refine wpAny_Assign_stores (thn (he pins s σ H _ I h) fun v s1 ⟨x,H1,I1,r1,q1⟩=>?_) hs hw
 rw [h1]
 exact thn (hg pins s1 σ H1 x v _ I1 r1 q1) fun _ s2 q=>q
theorem aA {i:Nat} {x:Str} {e:Expr} {te:TE} {pos':Pos} (hN:X.N.Nodup) (hi:X.N[i]? = some x) (hx:Loc X.env.scope x) (he:PE X e te) (hs:swapsWith e (some (.Name x pos')) pos.line X.env=pure false:=by rfl) (hf:X.fn x=true\/X.env.scope.names.lookup x=some .local:=by first | exact .inl rfl | exact .inr rfl | assumption) :
  PS X (.Assign [.Name x pos'] e pos) (tAsg te (cI i)):=by
 intro pins s σ H D I h
 refine wpAny_Assign_Name (thn (he pins s σ H _ I h) fun v s1 ⟨y,H1,I1,r1,q1⟩=>?_) hs
 exact gZ I1 hN hi hx r1 (fun s2 I2=>⟨_,H1,I2,q1⟩) hf
def tPar (i j:Nat) (ta:TA):TS:=fun D σ H=>ta σ H fun vs H1=>∃ v w,vs=[v,w]/\D.nx ((σ.set i (some v)).set j (some w)) H1
theorem ps_par {i j:Nat} {x y:Str} {a b:Expr} {ta:TA} {px py pt:Pos} {kt k2 pt2} (hc:X.calm=true) (hN:X.N.Nodup) (hi:X.N[i]? = some x) (hj:X.N[j]? = some y) (hij:i ≠ j)
  (hx:X.env.scope.names.lookup x=some .local) (hy:X.env.scope.names.lookup y=some .local) (ha:PA X [a,b] ta)
  (hw:swappedStores [.Tuple [.Name x px,.Name y py] kt pt] (.Tuple [a,b] k2 pt2) X.env=pure (some [x,y]))
  (hs:swapsWithSole [.Tuple [.Name x px,.Name y py] kt pt] (.Tuple [a,b] k2 pt2) pos.line X.env=pure false:=by rfl) :
  PS X (.Assign [.Tuple [.Name x px,.Name y py] kt pt] (.Tuple [a,b] k2 pt2) pos) (tPar i j ta):=by
 intro pins s σ H D I h
 rw [exec_Assign_arm]
 refine wpAny_bind (wpAny_standAt ?_)
 rw [hs]
 refine wpAny_bind (wpAny_pure ?_)
 rw [if_neg (by decide)]
 refine wpAny_bind (Tuple_ (thn (ha _ pins s σ H _ I h) fun us s1 ⟨vs,H1,I1,r1,q1⟩=>?_))
 obtain ⟨v,w,e1,q1⟩:=q1
 subst e1
 obtain ⟨u1,u2,rfl,rv,rw'⟩:∃ u1 u2,us=[u1,u2]/\RelV v u1/\RelV w u2:=by
  cases r1 with
  | cons p q=>
   cases q with
   | cons p' q'=>
    cases q'
    exact ⟨_,_,rfl,p,p'⟩
 refine wpAny_newObj_type ?_ (by show 2 <= sizeLine; decide)
 have I2:Inv X pins σ H1 { s1 with heap:=s1.heap.push { cls:=.type "tuple",data:=.seq [u1,u2].toArray } }:=I1.kept (t':=s1.toks) fun b o e=>Heap.get?_push_of_some _ e
 rw [hw]
 refine wpAny_bind (wpAny_pure ?_)
 show wpAny (model X.prog X.w) X.A (do rule "assign.swapped-stores"; let items <- unpackItems (.ref s1.heap.objs.size) 2 none; assignInOrder [fun v=>bindName X.env y v,fun v=>bindName X.env x v] items.reverse; pure Flow.next) _ _ _
 refine wpAny_bind (wpAny_rule (wpAny_bind (unpackItems_tuple (items:=#[u1,u2]) (I.ok.hd hc) (IsTup.new s1.heap _) fun h' hx'=>?_)))
 have I3:=I2.kept (h':=h') (t':=s1.toks) fun b o e=>hx' b o (Nat.ne_of_lt (Heap.lt_size e)) e
 show wpAny _ _ (assignInOrder [fun v=>bindName X.env y v,fun v=>bindName X.env x v] [u2,u1] >>= fun _=>pure Flow.next) _ _ _
 refine wpAny_bind (assignInOrder_cons (wpAny_bindName (gZ I3 hN hj (.inl hy) rw' (fun s2 I4=>?_) (.inr hy))))
 refine assignInOrder_cons (wpAny_bindName (gZ I4 hN hi (.inl hx) rv (fun s3 I5=>assignInOrder_nil (wpAny_pure ?_)) (.inr hx)))
 rw [List.set_comm _ _ (Ne.symm hij)] at I5
 exact ⟨_,H1,I5,q1⟩
end
section
variable {X:Cx} {pos:Pos}
def tWhile (c:TT) (tb:TS):TS:=fun D σ H=>∃ W:Nat->St->Hp->Prop,(∃ m,W m σ H)/\∀ m σ H,W m σ H->
 c σ H fun b H1=>if b=true then ∃ N:St->Hp->Prop,(∀ σ' H',N σ' H'->∃ m',m' < m/\W m' σ' H')/\tb { D with nx:=N,ct:=N,bk:=D.nx } σ H1 else D.nx σ H1
theorem fu {c:Expr} {body:List Stmt} {tc:TT} {tb:TS} (hp:PassesOwn (model X.prog X.w) X.A X.env X.xe) (hc:PT X c tc) (hb:PSs X body tb):PS X (.While c body [] pos) (tWhile tc tb):=by
 intro pins s σ H D I h
 obtain ⟨W,⟨m0,w0⟩,turn⟩:=h
 refine wpAny_While (codeAny_whileLoop (fun n s'=>∃ σ' H',Inv X pins σ' H' s'/\W n σ' H') ?_ m0 ⟨σ,H,I,w0⟩)
 rintro n s1 ⟨σ1,H1,I1,w1⟩
 refine wpAny_passesOwn hp (thn (hc pins s1 σ1 H1 _ I1 (turn n σ1 H1 w1)) fun b s2 ⟨H2,I2,q2⟩=>?_)
 cases b with
 | true=>
  obtain ⟨N,hN,q2⟩:=q2
  rw [if_pos rfl]
  refine wpAny_passesOwn hp (thn (hb pins s2 σ1 H2 _ I2 q2) fun f s3 q3=>?_)
  cases f with
  | next=>
   obtain ⟨σ3,H3,I3,n3⟩:=q3
   obtain ⟨m',hm,w3⟩:=hN σ3 H3 n3
   exact ⟨m',hm,σ3,H3,I3,w3⟩
  | cont=>
   obtain ⟨σ3,H3,I3,n3⟩:=q3
   obtain ⟨m',hm,w3⟩:=hN σ3 H3 n3
   exact ⟨m',hm,σ3,H3,I3,w3⟩
  | brk=>exact q3
  | ret v=>exact q3
 | false=>
  rw [if_neg Bool.false_ne_true]
  exact wpAny_execs_nil ⟨σ1,H2,I2,q2⟩
end
structure It where
 go:Nat->Hp->Prop
 yld:Nat->Hp->V->Hp->Prop
 stop:Nat->Hp->Prop
def eM (X:Cx) (pins:List (Addr × Obj)) (H:Hp) (b:Addr):Prop:=
 H b=none/\b ≠ X.env.locals/\b ∉ X.fs/\(b ∈ X.ex\/X.s₀.heap.objs.size <= b)/\(∀ x c,X.env.cells.lookup x=some c->c ≠ b)/\∀ p ∈ X.pn ++ pins,p.1 ≠ b
theorem Inv.fpOk {X:Cx} {pins:List (Addr × Obj)} {σ:St} {H H':Hp} {s:Shared} {b:Addr} (I:Inv X pins σ H s) (hb:s.heap.objs.size <= b) (hn:H' b=none):eM X pins H' b:=by
 refine ⟨hn,Nat.ne_of_gt (Nat.lt_of_lt_of_le I.lt hb),I.nofs hb,.inr (Nat.le_trans I.sz hb),fun x c e z=>?_,fun p hp z=>?_⟩
 ·obtain ⟨v,q⟩:=I.cell x c e
  exact absurd (Nat.lt_of_lt_of_le q.lt (by rw [z]; exact hb)) (Nat.lt_irrefl _)
 ·exact absurd (Nat.lt_of_lt_of_le (Heap.lt_size (I.pin p hp).1) (by rw [z]; exact hb)) (Nat.lt_irrefl _)
structure m7 (P:Program) (w:World) (K:Frag) (tg:Expr) (J:It) (fp:List Addr) (it:Addr) (tn:Nat->Heap->Prop):Prop where
 mem:it ∈ fp
 obj:∀ i h,tn i h->∀ b ∈ fp,∃ o,h.get? b=some o/\∀ v,o.data ≠ .cell v
 keep:∀ i h h',tn i h->(∀ b ∈ fp,∀ o,h.get? b=some o->h'.get? b=some o)->tn i h'
 item:∀ (X:Cx),X.prog=P->X.w=w->X.K=K->X.calm=true->∀ (i:Nat) (pins:List (Addr × Obj)) (s:Shared) (σ:St) (H:Hp) (E:Value->Shared->Prop),Inv X pins σ H s->(∀ b ∈ fp,eM X pins H b)->tn i s.heap->J.go i H->
  wpAny (model P w) X.A (pyNext (.ref it)) (fun r s1=>∃ u,r=some u/\
   wpAny (model P w) X.A (letOwnedTupleGo tg (.ref it) u) (fun _ s2=>∃ x H',Inv X pins σ H' s2/\RelV x u/\J.yld i H x H'/\tn (i + 1) s2.heap/\∀ b ∈ fp,H' b=none) E s1) E s
 done:∀ (X:Cx),X.prog=P->X.w=w->X.K=K->X.calm=true->∀ (i:Nat) (pins:List (Addr × Obj)) (s:Shared) (σ:St) (H:Hp) (E:Value->Shared->Prop),Inv X pins σ H s->(∀ b ∈ fp,eM X pins H b)->tn i s.heap->J.stop i H->
  wpAny (model P w) X.A (pyNext (.ref it)) (fun r s1=>r=none/\Inv X pins σ H s1) E s
 self:∀ (A:Around) (i:Nat) (s:Shared) (Q:Value->Shared->Prop) (E:Value->Shared->Prop),tn i s.heap->Q (.ref it) s->wpAny (model P w) A (pyIter (.ref it)) Q E s
abbrev TI:=St->Hp->(It->Hp->Prop)->Prop
def PIE (X:Cx) (pins:List (Addr × Obj)) (σ:St) (tg:Expr) (R:It->Hp->Prop) (itv:Value) (s2:Shared):Prop:=
 ∃ (it:Addr) (fp:List Addr) (tn:Nat->Heap->Prop) (J:It) (H':Hp),itv=.ref it/\Inv X pins σ H' s2/\m7 X.prog X.w X.K tg J fp it tn/\tn 0 s2.heap/\(∀ b ∈ fp,eM X pins H' b)/\R J H'
def PI (X:Cx) (tg iter:Expr) (wi:TI):Prop:=
 ∀ (pins:List (Addr × Obj)) (s:Shared) (σ:St) (H:Hp) (R:It->Hp->Prop),Inv X pins σ H s->wi σ H R->
  wpAny (model X.prog X.w) X.A (eval iter X.env) (fun v s1=>wpAny (model X.prog X.w) X.A (pyIter v) (PIE X pins σ tg R) X.xe s1) X.xe s
theorem go_of {M:Model} {A:Around} {E:Value->Shared->Prop} {s:Shared} {tg:Expr} {it:Addr} {u:Value} {o:Obj} {n:String} {vs:Array Value} {Q:Unit->Shared->Prop} (ho:s.heap.get? it=some o) (hc:o.cls=.type n) (hd:o.data=.fields vs)
  (hn:["enumerate", "zip", "dict_itemiterator", "dict_reverseitemiterator", "odict_iterator", "itertools.zip_longest", "itertools.pairwise"].contains n=false) (hQ:Q () s):wpAny M A (letOwnedTupleGo tg (.ref it) u) Q E s:=by
 unfold letOwnedTupleGo
 cases tg<;>first
  | exact wpAny_pure hQ
  | (cases u<;>first
    | exact wpAny_pure hQ
    | (refine wpAny_bind (wpAny_load ho ?_)
       rw [hc,hd]
       show wpAny M A (if (["enumerate", "zip", "dict_itemiterator", "dict_reverseitemiterator", "odict_iterator", "itertools.zip_longest", "itertools.pairwise"].contains n && vs[0]? == some (rawInt _))=true then _ else _) Q E s
       rw [if_neg (by intro h; rw [hn,Bool.false_and] at h; cases h)]
       exact wpAny_pure hQ))
def Itl (K:Frag) (a:Addr):It:=
 ⟨fun i H=>∃ xs x,SqL K H a xs/\xs[i]? = some x,fun i H x H'=>H'=H/\∀ xs,SqL K H a xs->xs[i]? = some x,fun i H=>∃ xs,SqL K H a xs/\xs.length <= i⟩
def Itt (K:Frag) (a:Addr):It:=
 ⟨fun i H=>∃ xs x,SqT K H a xs/\xs[i]? = some x,fun i H x H'=>H'=H/\∀ xs,SqT K H a xs->xs[i]? = some x,fun i H=>∃ xs,SqT K H a xs/\xs.length <= i⟩
def Itr (lo:Int) (n:Nat):It:=⟨fun i _=>i < n,fun i H x H'=>H'=H/\x=.int (lo + i),fun i _=>n <= i⟩
theorem turn_list {P:Program} {w:World} {K:Frag} {tg:Expr} (a it:Addr):m7 P w K tg (Itl K a) [it] it (fun i h=>h.IsListIter it a i) where
 mem:=by simp
 obj:=fun i h st b hb=>by
  have e:b=it:=by simpa using hb
  subst e
  obtain ⟨o,e,c,d⟩:=st
  exact ⟨o,e,fun v z=>by rw [d] at z; cases z⟩
 keep:=fun i h h' st k=>st.at fun o e=>k it (by simp) o e
 item:=by
  intro X hP hw hK hc i pins s σ H E I hf st hg
  subst hP hw hK
  obtain ⟨xs,x,hq,hx⟩:=hg
  obtain ⟨its,rv,p,hz⟩:=I.list hq
  obtain ⟨u,hu,ru⟩:=rv.get hx
  obtain ⟨f0,f1,f2,f3,f4,f5⟩:=hf it (by simp)
  refine wpAny_pyNext_list_item st p.isList (x:=u) (by simpa using hu) fun h' st' sb=>?_
  have I1:Inv X pins σ H { s with heap:=h' }:=I.turned (t':=s.toks) (fun b o hb e=>(sb.2 b hb).trans e) f0 f1 f3 f4 f5
  obtain ⟨o,e,c,d⟩:=id st'
  exact ⟨u,rfl,go_of (s:={ s with heap:=h' }) e c d (by decide) ⟨x,H,I1,ru,⟨rfl,fun ys hy=>by rw [I.list_inj hy hq]; exact hx⟩,st',fun b hb=>(hf b hb).1⟩⟩
 done:=by
  intro X hP hw hK hc i pins s σ H E I hf st hg
  subst hP hw hK
  obtain ⟨xs,hq,hx⟩:=hg
  obtain ⟨its,rv,p,hz⟩:=I.list hq
  obtain ⟨f0,f1,f2,f3,f4,f5⟩:=hf it (by simp)
  have hl:=rv.length
  exact wpAny_pyNext_list_end (I.ok.hd hc) st p.isList (by simp; omega) fun h' eb=>⟨rfl,I.turned (t':=s.toks) (fun b o hb e=>eb b o hb e) f0 f1 f3 f4 f5⟩
 self:=fun _ _ _ _ _ st h=>wpAny_pyIter_listiter st h
theorem turn_tuple {P:Program} {w:World} {K:Frag} {tg:Expr} (a it:Addr):m7 P w K tg (Itt K a) [it] it (fun i h=>h.IsTupleIter it a i) where
 mem:=by simp
 obj:=fun i h st b hb=>by
  have e:b=it:=by simpa using hb
  subst e
  obtain ⟨o,e,c,d⟩:=st
  exact ⟨o,e,fun v z=>by rw [d] at z; cases z⟩
 keep:=fun i h h' st k=>st.at fun o e=>k it (by simp) o e
 item:=by
  intro X hP hw hK hc i pins s σ H E I hf st hg
  subst hP hw hK
  obtain ⟨xs,x,hq,hx⟩:=hg
  obtain ⟨its,rv,p,hz⟩:=I.tuple hq
  obtain ⟨u,hu,ru⟩:=rv.get hx
  obtain ⟨f0,f1,f2,f3,f4,f5⟩:=hf it (by simp)
  refine wpAny_pyNext_tuple_item st (show s.heap.IsTuple a its.toArray from p) (x:=u) (by simpa using hu) fun h' st' sb=>?_
  have I1:Inv X pins σ H { s with heap:=h' }:=I.turned (t':=s.toks) (fun b o hb e=>(sb.2 b hb).trans e) f0 f1 f3 f4 f5
  obtain ⟨o,e,c,d⟩:=id st'
  exact ⟨u,rfl,go_of (s:={ s with heap:=h' }) e c d (by decide) ⟨x,H,I1,ru,⟨rfl,fun ys hy=>by rw [I.tuple_inj hy hq]; exact hx⟩,st',fun b hb=>(hf b hb).1⟩⟩
 done:=by
  intro X hP hw hK hc i pins s σ H E I hf st hg
  subst hP hw hK
  obtain ⟨xs,hq,hx⟩:=hg
  obtain ⟨its,rv,p,hz⟩:=I.tuple hq
  obtain ⟨f0,f1,f2,f3,f4,f5⟩:=hf it (by simp)
  have hl:=rv.length
  exact wpAny_pyNext_tuple_end (I.ok.hd hc) st (show s.heap.IsTuple a its.toArray from p) (by simp; omega) fun h' eb=>⟨rfl,I.turned (t':=s.toks) (fun b o hb e=>eb b o hb e) f0 f1 f3 f4 f5⟩
 self:=fun _ _ _ _ _ st h=>wpAny_pyIter_tupleiter st h
theorem turn_range {P:Program} {w:World} {K:Frag} {tg:Expr} (it:Addr) (lo:Int) (n:Nat):m7 P w K tg (Itr lo n) [it] it (fun i h=>IsRangeIter h it (lo + (i:Nat) * 1) ((n:Int) - (i:Nat)) 1) where
 mem:=by simp
 obj:=fun i h st b hb=>by
  have e:b=it:=by simpa using hb
  subst e
  exact ⟨_,st,fun v z=>by
   have z':Data.fields _=Data.cell v:=z
   cases z'⟩
 keep:=fun i h h' st k=>k it (by simp) _ st
 item:=by
  intro X hP hw hK hc i pins s σ H E I hf st hg
  subst hP hw hK
  obtain ⟨f0,f1,f2,f3,f4,f5⟩:=hf it (by simp)
  have W:=Walks.range (prog:=X.prog) (w:=X.w) (I.ok.hd hc) it lo 1 n
  refine W.item i s _ _ hg st fun v h' tk hv st' kk=>?_
  obtain ⟨t,rfl⟩:=hv
  have I1:Inv X pins σ H { s with heap:=h',toks:=tk }:=I.turned (fun b o hb e=>kk b o (by simpa using hb) e) f0 f1 f3 f4 f5
  refine ⟨_,rfl,go_of (s:={ s with heap:=h',toks:=tk }) (n := "range_iterator") st' rfl rfl (by decide) ⟨.int (lo + i),H,I1,⟨t,?_⟩,⟨rfl,rfl⟩,st',fun b hb=>(hf b hb).1⟩⟩
  rw [Int.mul_one]
 done:=by
  intro X hP hw hK hc i pins s σ H E I hf st hg
  subst hP hw hK
  obtain ⟨f0,f1,f2,f3,f4,f5⟩:=hf it (by simp)
  exact wpAny_pyNext_range_end (I.ok.hd hc) st (by have:n <= i:=hg; omega) fun h' eb=>⟨rfl,I.turned (t':=s.toks) (fun b o hb e=>eb b o hb e) f0 f1 f3 f4 f5⟩
 self:=fun _ _ _ _ _ st h=>wpAny_pyIter_rangeiter st h
end L2
namespace L2
open PySem PySem.Spec PyProof.Rows
section
variable {X:Cx} {tg:Expr}
def iList (K:Frag) (tl:TE):TI:=fun σ H R=>tl σ H fun x H1=>∃ a,x=.ref a/\(∃ xs,SqL K H1 a xs)/\R (Itl K a) H1
def iTup (K:Frag) (tl:TE):TI:=fun σ H R=>tl σ H fun x H1=>∃ a,x=.ref a/\(∃ xs,SqT K H1 a xs)/\R (Itt K a) H1
theorem pi_list {l:Expr} {tl:TE} (hl:PE X l tl):PI X tg l (iList X.K tl):=by
 intro pins s σ H R I h
 refine thn (hl pins s σ H _ I h) fun v s1 ⟨x,H1,I1,r1,q1⟩=>?_
 obtain ⟨a,e,⟨xs,hq⟩,q⟩:=q1
 subst e
 cases r1
 obtain ⟨its,rv,p,hz⟩:=I1.list hq
 refine wpAny_pyIter_list p.isList ?_
 refine ⟨s1.heap.objs.size,[s1.heap.objs.size],_,_,H1,rfl,I1.kept (t':=s1.toks) fun b o e=>Heap.get?_push_of_some _ e,turn_list a _,⟨_,Heap.get?_push_size _ rfl,rfl,rfl⟩,fun b hb=>?_,q⟩
 have e:b=s1.heap.objs.size:=by simpa using hb
 subst e
 exact I1.fpOk (Nat.le_refl _) (I1.hok.fresh (Nat.le_refl _))
theorem pi_tup {l:Expr} {tl:TE} (hl:PE X l tl):PI X tg l (iTup X.K tl):=by
 intro pins s σ H R I h
 refine thn (hl pins s σ H _ I h) fun v s1 ⟨x,H1,I1,r1,q1⟩=>?_
 obtain ⟨a,e,⟨xs,hq⟩,q⟩:=q1
 subst e
 cases r1
 obtain ⟨its,rv,p,hz⟩:=I1.tuple hq
 refine wpAny_pyIter_tuple (show s1.heap.IsTuple a its.toArray from p) ?_
 refine ⟨s1.heap.objs.size,[s1.heap.objs.size],_,_,H1,rfl,I1.kept (t':=s1.toks) fun b o e=>Heap.get?_push_of_some _ e,turn_tuple a _,⟨_,Heap.get?_push_size _ rfl,rfl,rfl⟩,fun b hb=>?_,q⟩
 have e:b=s1.heap.objs.size:=by simpa using hb
 subst e
 exact I1.fpOk (Nat.le_refl _) (I1.hok.fresh (Nat.le_refl _))
theorem range_it {pins:List (Addr × Obj)} {σ:St} {H:Hp} {s:Shared} {R:It->Hp->Prop} {E:Value->Shared->Prop} {lo hi:Int} {t u v:Tok} {tk:Nat} (I:Inv X pins σ H s) (h1:-(2 ^ 62) <= lo) (h2:lo < 2 ^ 62) (h3:-(2 ^ 62) <= hi) (h4:hi < 2 ^ 62)
  (q:R (Itr lo (hi - lo).toNat) H):wpAny (model X.prog X.w) X.A (pyIter (.ref s.heap.objs.size)) (PIE X pins σ tg R) E { s with heap:=s.heap.push { cls:=.type "range",data:=.fields #[.int lo t,.int hi u,.int 1 v] },toks:=tk }:=by
 refine wpAny_pyIter_range (IsRange.new ..) (small_one h1 h2 h3 h4) ?_
 have I1:Inv X pins σ H { s with heap:=s.heap.push { cls:=.type "range",data:=.fields #[.int lo t,.int hi u,.int 1 v] },toks:=tk }:=I.kept fun b o e=>Heap.get?_push_of_some _ e
 refine ⟨(s.heap.push { cls:=.type "range",data:=.fields #[.int lo t,.int hi u,.int 1 v] }).objs.size,[(s.heap.push { cls:=.type "range",data:=.fields #[.int lo t,.int hi u,.int 1 v] }).objs.size],_,_,H,rfl,
  I1.kept (t':=tk) fun b o e=>Heap.get?_push_of_some _ e,turn_range _ lo (hi - lo).toNat,?_,fun b hb=>?_,q⟩
 ·have e1:lo + ((0:Nat):Int) * 1=lo:=by simp
  have e2:(((hi - lo).toNat:Nat):Int) - ((0:Nat):Int)=Builtin.Range.rangeSize lo hi 1:=by rw [rangeSize_one]; split<;>omega
  show IsRangeIter _ _ (lo + ((0:Nat):Int) * 1) ((((hi - lo).toNat:Nat):Int) - ((0:Nat):Int)) 1
  rw [e1,e2]
  exact Heap.get?_push_size _ rfl
 ·have e:b=(s.heap.push { cls:=.type "range",data:=.fields #[.int lo t,.int hi u,.int 1 v] }).objs.size:=by simpa using hb
  subst e
  exact I1.fpOk (Nat.le_refl _) (I1.hok.fresh (Nat.le_refl _))
def iRng1 (ta:TA):TI:=fun σ H R=>ta σ H fun vs H1=>∃ j:Int,vs=[.int j]/\-(2 ^ 62) <= j/\j < 2 ^ 62/\R (Itr 0 j.toNat) H1
def iRng2 (ta:TA):TI:=fun σ H R=>ta σ H fun vs H1=>∃ i j:Int,vs=[.int i,.int j]/\(-(2 ^ 62) <= i/\i < 2 ^ 62/\-(2 ^ 62) <= j/\j < 2 ^ 62)/\R (Itr i (j - i).toNat) H1
theorem cR {a:Expr} {ta:TA} {p pos:Pos} (hg:Gl X "range") (hm:X.mg "range" = none) (ha:PA X [a] ta) (hs:starEach [a] X.env=[(false,eval a X.env)]:=by rfl):PI X tg (.Call (.Name "range" p) [a] [] pos) (iRng1 ta):=by
 intro pins s σ H R I h
 refine Call_ (fM I hg hm boot_range (PyProof.Rows.callWith_type1 (thn (ha pos pins s σ H _ I h) fun us s1 ⟨vs,H1,I1,r1,q1⟩=>?_) hs rfl))
 obtain ⟨j,e,q1,q2,q⟩:=q1
 subst e
 cases r1 with
 | cons r rr=>
  cases rr
  obtain ⟨t,rfl⟩:=r
  exact call_range_1 (range_it I1 (by omega) (by omega) q1 q2 (by simpa using q))
theorem lB {a b:Expr} {ta:TA} {p pos:Pos} (hg:Gl X "range") (hm:X.mg "range" = none) (ha:PA X [a,b] ta) (hs:starEach [a,b] X.env=[(false,eval a X.env),(false,eval b X.env)]:=by rfl) (hs2:starEach [b] X.env=[(false,eval b X.env)]:=by rfl) :
  PI X tg (.Call (.Name "range" p) [a,b] [] pos) (iRng2 ta):=by
 intro pins s σ H R I h
 refine Call_ (fM I hg hm boot_range (PyProof.Rows.callWith_type1 (thn (ha pos pins s σ H _ I h) fun us s1 ⟨vs,H1,I1,r1,q1⟩=>?_) (by rw [hs,hs2]) (by rw [hs2]; rfl)))
 obtain ⟨i,j,e,⟨q1,q2,q3,q4⟩,q⟩:=q1
 subst e
 cases r1 with
 | cons r rr=>
  cases rr with
  | cons r' rr=>
   cases rr
   obtain ⟨t,rfl⟩:=r
   obtain ⟨t',rfl⟩:=r'
   exact call_range_2 (range_it I1 q1 q2 q3 q4 q)
def tFor (wi:TI) (g:TG) (tb:TS):TS:=fun D σ H=>wi σ H fun J H1=>∃ W:Nat->Nat->St->Hp->Prop,(∃ m,W 0 m σ H1)/\∀ i m σ H,W i m σ H->
 (J.stop i H/\D.nx σ H)\/(J.go i H/\∃ N:St->Hp->Prop,(∀ σ' H',N σ' H'->∃ m',m' < m/\W (i + 1) m' σ' H')/\∀ x H',J.yld i H x H'->g x σ H' fun σ2 H2=>tb { D with nx:=N,ct:=N,bk:=D.nx } σ2 H2)
def iX (fp:List Addr) (h:Heap):List (Addr × Obj):=fp.filterMap fun b=>(h.get? b).map fun o=>(b,o)
theorem cN {fp:List Addr} {h:Heap} {b:Addr} {o:Obj} (hb:b ∈ fp) (e:h.get? b=some o):(b,o) ∈ iX fp h:=List.mem_filterMap.mpr ⟨b,hb,by rw [e]; rfl⟩
theorem of_pinsAt {fp:List Addr} {h:Heap} {p:Addr × Obj} (hp:p ∈ iX fp h):p.1 ∈ fp/\h.get? p.1=some p.2:=by
 obtain ⟨b,hb,e⟩:=List.mem_filterMap.mp hp
 cases q:h.get? b with
 | none=>rw [q] at e; cases e
 | some o=>
  rw [q] at e
  have e':(b,o)=p:=Option.some.inj e
  subst e'
  exact ⟨hb,q⟩
theorem Inv.pinned {pins:List (Addr × Obj)} {σ:St} {H:Hp} {s:Shared} {fp:List Addr} (I:Inv X pins σ H s) (hf:∀ b ∈ fp,eM X pins H b) (ho:∀ b ∈ fp,∃ o,s.heap.get? b=some o/\∀ v,o.data ≠ .cell v):Inv X (pins ++ iX fp s.heap) σ H s:=
 I.pins_of fun p hp=>(List.mem_append.mp hp).elim (fun z=>I.pin p (List.mem_append_right _ z)) fun z=>by
  obtain ⟨hb,e⟩:=of_pinsAt z
  obtain ⟨f0,f1,f2,_⟩:=hf p.1 hb
  obtain ⟨o,e',d⟩:=ho p.1 hb
  rw [e] at e'; cases e'
  exact ⟨e,f0,f1,f2,d⟩
theorem Inv.unpinned {pins pl:List (Addr × Obj)} {σ:St} {H:Hp} {s:Shared} (I:Inv X (pins ++ pl) σ H s):Inv X pins σ H s:=I.pins_of fun p hp=>I.pin p (List.mem_append_right _ (List.mem_append_left _ hp))
theorem dh {iter:Expr} {body:List Stmt} {wi:TI} {g:TG} {tb:TS} {pos:Pos} (hp:PassesOwn (model X.prog X.w) X.A X.env X.xe) (hc:X.calm=true) (hi:PI X tg iter wi) (hg:PG X tg g) (hb:PSs X body tb)
  (hs:∀ x,foldedSetIterable iter X.env x=pure x:=by intro _; rfl):PS X (.For tg iter body [] pos) (tFor wi g tb):=by
 intro pins s σ H D I h
 refine wpAny_For (thn (hi pins s σ H _ I h) fun v s1 h1=>thn h1 fun itv s2 h2=>?_) hs
 obtain ⟨it,fp,tn,J,H2,e,I2,T,st2,f2,W,⟨m0,w0⟩,turn⟩:=h2
 subst e
 have stat:∀ {H':Hp},(∀ b ∈ fp,H' b=none)->∀ b ∈ fp,eM X pins H' b:=fun hn b hb=>⟨hn b hb,(f2 b hb).2⟩
 refine codeAny_forLoop_any (fun n s'=>∃ i σ' H',Inv X pins σ' H' s'/\tn i s'.heap/\(∀ b ∈ fp,H' b=none)/\W i n σ' H') ?_ m0 ⟨0,σ,H2,I2,st2,fun b hb=>(f2 b hb).1,w0⟩
 rintro n s3 ⟨i,σ3,H3,I3,st3,fr3,w3⟩
 rcases turn i n σ3 H3 w3 with ⟨stop,qn⟩ | ⟨go,N,hN,step⟩
 ·refine wpAny_passesOwn hp (thn (T.done X rfl rfl rfl hc i pins s3 σ3 H3 X.xe I3 (stat fr3) st3 stop) fun r s4 ⟨hr,I4⟩=>?_)
  subst hr
  exact wpAny_execs_nil ⟨σ3,H3,I4,qn⟩
 ·refine wpAny_passesOwn hp (thn (T.item X rfl rfl rfl hc i pins s3 σ3 H3 X.xe I3 (stat fr3) st3 go) fun r s4 ⟨u,hr,h4⟩=>?_)
  subst hr
  refine wpAny_passesOwn hp (thn h4 fun _ s5 ⟨x,H5,I5,r5,y5,st5,fr5⟩=>?_)
  have I5':=I5.pinned (stat fr5) (T.obj _ _ st5)
  refine wpAny_passesOwn hp (thn (hg _ s5 σ3 H5 x u _ I5' r5 (step x H5 y5)) fun _ s6 ⟨σ6,H6,I6,q6⟩=>?_)
  refine wpAny_passesOwn hp (thn (hb _ s6 σ6 H6 _ I6 q6) fun f s7 q7=>?_)
  have again:∀ {σ7:St} {H7:Hp},Inv X (pins ++ iX fp s5.heap) σ7 H7 s7->N σ7 H7->∃ m,m < n/\∃ i σ' H',Inv X pins σ' H' s7/\tn i s7.heap/\(∀ b ∈ fp,H' b=none)/\W i m σ' H':=fun {σ7 H7} I7 n7=>by
   obtain ⟨m',hm,w7⟩:=hN σ7 H7 n7
   refine ⟨m',hm,i + 1,σ7,H7,I7.unpinned,T.keep _ _ _ st5 fun b hb o e=>(I7.pin (b,o) (List.mem_append_right _ (List.mem_append_right _ (cN hb e)))).1,fun b hb=>?_,w7⟩
   obtain ⟨o,e,d⟩:=T.obj _ _ st5 b hb
   exact (I7.pin (b,o) (List.mem_append_right _ (List.mem_append_right _ (cN hb e)))).2.1
  cases f with
  | next=>obtain ⟨σ7,H7,I7,n7⟩:=q7; exact again I7 n7
  | cont=>obtain ⟨σ7,H7,I7,n7⟩:=q7; exact again I7 n7
  | brk=>obtain ⟨σ7,H7,I7,q7⟩:=q7; exact ⟨σ7,H7,I7.unpinned,q7⟩
  | ret v=>obtain ⟨x7,σ7,H7,I7,r7,q7⟩:=q7; exact ⟨x7,σ7,H7,I7.unpinned,r7,q7⟩
end
theorem dF {K:Frag} {a:Addr} {xs:List V} {g:TG} {tb:TS} {D:j8} {σ:St} {H:Hp} (Pv:Nat->St->Hp->Prop) (h0:Pv 0 σ H) (hl:∀ i σ H,i <= xs.length->Pv i σ H->SqL K H a xs)
  (hs:∀ i x σ H,xs[i]? = some x->Pv i σ H->g x σ H fun σ2 H2=>tb { D with nx:=Pv (i + 1),ct:=Pv (i + 1),bk:=D.nx } σ2 H2) (hd:∀ σ H,Pv xs.length σ H->D.nx σ H) :
  ∃ W:Nat->Nat->St->Hp->Prop,(∃ m,W 0 m σ H)/\∀ i m σ H,W i m σ H->
   ((Itl K a).stop i H/\D.nx σ H)\/((Itl K a).go i H/\∃ N:St->Hp->Prop,(∀ σ' H',N σ' H'->∃ m',m' < m/\W (i + 1) m' σ' H')/\∀ x H',(Itl K a).yld i H x H'->g x σ H' fun σ2 H2=>tb { D with nx:=N,ct:=N,bk:=D.nx } σ2 H2):=by
 refine ⟨fun i m σ H=>m=xs.length - i/\i <= xs.length/\Pv i σ H,⟨xs.length,by simp,Nat.zero_le _,h0⟩,?_⟩
 rintro i m σ H ⟨rfl,hi,p⟩
 have q:=hl i σ H hi p
 by_cases hlt:i < xs.length
 ·refine .inr ⟨⟨xs,xs[i],q,by simp [hlt]⟩,Pv (i + 1),fun σ' H' p'=>⟨xs.length - (i + 1),by omega,rfl,hlt,p'⟩,fun x H' y=>?_⟩
  obtain ⟨e,y⟩:=y
  subst e
  exact hs i x σ _ (y xs q) p
 ·have e:i=xs.length:=by omega
  subst e
  exact .inl ⟨⟨xs,q,Nat.le_refl _⟩,hd σ H p⟩
theorem gi {lo:Int} {n:Nat} {g:TG} {tb:TS} {D:j8} {σ:St} {H:Hp} (Pv:Nat->St->Hp->Prop) (h0:Pv 0 σ H)
  (hs:∀ i σ H,i < n->Pv i σ H->g (.int (lo + i)) σ H fun σ2 H2=>tb { D with nx:=Pv (i + 1),ct:=Pv (i + 1),bk:=D.nx } σ2 H2) (hd:∀ σ H,Pv n σ H->D.nx σ H) :
  ∃ W:Nat->Nat->St->Hp->Prop,(∃ m,W 0 m σ H)/\∀ i m σ H,W i m σ H->
   ((Itr lo n).stop i H/\D.nx σ H)\/((Itr lo n).go i H/\∃ N:St->Hp->Prop,(∀ σ' H',N σ' H'->∃ m',m' < m/\W (i + 1) m' σ' H')/\∀ x H',(Itr lo n).yld i H x H'->g x σ H' fun σ2 H2=>tb { D with nx:=N,ct:=N,bk:=D.nx } σ2 H2):=by
 refine ⟨fun i m σ H=>m=n - i/\i <= n/\Pv i σ H,⟨n,by simp,Nat.zero_le _,h0⟩,?_⟩
 rintro i m σ H ⟨rfl,hi,p⟩
 by_cases hlt:i < n
 ·refine .inr ⟨hlt,Pv (i + 1),fun σ' H' p'=>⟨n - (i + 1),by omega,rfl,hlt,p'⟩,fun x H' y=>?_⟩
  obtain ⟨e,y⟩:=y
  subst e y
  exact hs i σ _ hlt p
 ·have e:i=n:=by omega
  subst e
  exact .inl ⟨Nat.le_refl _,hd σ H p⟩
theorem fP {c:TT} {tb:TS} {D:j8} {σ:St} {H:Hp} (Pv:St->Hp->Prop) (μ:St->Hp->Nat) (h0:Pv σ H)
  (hs:∀ σ H,Pv σ H->c σ H fun b H1=>if b=true then tb { D with nx:=fun σ' H'=>Pv σ' H'/\μ σ' H' < μ σ H,ct:=fun σ' H'=>Pv σ' H'/\μ σ' H' < μ σ H,bk:=D.nx } σ H1 else D.nx σ H1)
  (mono:∀ σ H Q Q',(∀ b H1,Q b H1->Q' b H1)->c σ H Q->c σ H Q'):tWhile c tb D σ H:=by
 refine ⟨fun m σ H=>m=μ σ H/\Pv σ H,⟨_,rfl,h0⟩,?_⟩
 rintro m σ H ⟨rfl,p⟩
 refine mono σ H _ _ (fun b H1 q=>?_) (hs σ H p)
 cases b with
 | true=>exact ⟨_,fun σ' H' ⟨p',l⟩=>⟨_,l,rfl,p'⟩,q⟩
 | false=>exact q
end L2
namespace L2
open PySem PySem.Spec PyProof.Rows
abbrev R2:=V->V->Hp->VK->Prop
def OpR (X:Cx) (f:Value->Value->Sem Value) (r:R2):Prop:=
 ∀ (pins:List (Addr × Obj)) (s:Shared) (σ:St) (H:Hp) (x y:V) (v u:Value) (Q:VK),Inv X pins σ H s->RelV x v->RelV y u->r x y H Q->
  wpAny (model X.prog X.w) X.A (f v u) (EP X pins σ Q) X.xe s
def UnR (X:Cx) (f:Value->Sem Value) (r:V->Hp->VK->Prop):Prop:=
 ∀ (pins:List (Addr × Obj)) (s:Shared) (σ:St) (H:Hp) (x:V) (v:Value) (Q:VK),Inv X pins σ H s->RelV x v->r x H Q->
  wpAny (model X.prog X.w) X.A (f v) (EP X pins σ Q) X.xe s
def cY (X:Cx) (f:Value) (r:List V->Hp->VK->Prop):Prop:=
 ∀ (pins:List (Addr × Obj)) (s:Shared) (σ:St) (H:Hp) (xs:List V) (us:List Value) (Q:VK),Inv X pins σ H s->Vals xs us->r xs H Q->
  wpAny (model X.prog X.w) X.A (call f us) (EP X pins σ Q) X.xe s
def tOp (r:R2) (ta tb:TE):TE:=fun σ H Q=>ta σ H fun x H1=>tb σ H1 fun y H2=>r x y H2 Q
def tUn (r:V->Hp->VK->Prop) (ta:TE):TE:=fun σ H Q=>ta σ H fun x H1=>r x H1 Q
def rI (C:Int->Int->Prop) (g:Int->Int->V):R2:=fun x y H Q=>∃ i j,x=.int i/\y=.int j/\C i j/\Q (g i j) H
def rI0 (g:Int->Int->V):R2:=fun x y H Q=>∃ i j,x=.int i/\y=.int j/\Q (g i j) H
def rU (g:Int->V):V->Hp->VK->Prop:=fun x H Q=>∃ i,x=.int i/\Q (g i) H
section
variable {X:Cx} {a b c:Expr} {ta tb tc:TE} {pos:Pos}
theorem binT (ha:PE X a ta) (hb:PE X b tb) {pins:List (Addr × Obj)} {s:Shared} {σ:St} {H:Hp} {R:V->V->Hp->Prop} (I:Inv X pins σ H s)
  (h:ta σ H fun x H1=>tb σ H1 fun y H2=>R x y H2) {Q:Value->Shared->Prop} {f:Value->Value->Sem Value}
  (hf:∀ v u s2 x y H2,Inv X pins σ H2 s2->RelV x v->RelV y u->R x y H2->wpAny (model X.prog X.w) X.A (f v u) Q X.xe s2) :
  wpAny (model X.prog X.w) X.A (eval a X.env) (fun v s₁=>wpAny (model X.prog X.w) X.A (eval b X.env) (fun u s₂=>wpAny (model X.prog X.w) X.A (f v u) Q X.xe s₂) X.xe s₁) X.xe s:=by
 refine thn (ha pins s σ H _ I h) fun v s1 ⟨x,H1,I1,r1,q1⟩=>?_
 refine thn (hb pins s1 σ H1 _ I1 q1) fun u s2 ⟨y,H2,I2,r2,q2⟩=>?_
 exact hf v u s2 x y H2 I2 r1 r2 q2
theorem au {op:Operator} {r:R2} (ho:OpR X (binaryOp op) r) (ha:PE X a ta) (hb:PE X b tb):PE X (.BinOp a op b pos) (tOp r ta tb):=by
 intro pins s σ H Q I h
 exact wpAny_BinOp (binT ha hb I h fun v u s2 x y H2 I2 rx ry q=>ho pins s2 σ H2 x y v u Q I2 rx ry q)
theorem pe_un {op:UnaryOp} {r:V->Hp->VK->Prop} (ho:UnR X (unaryOp op) r) (ha:PE X a ta):PE X (.UnaryOp op a pos) (tUn r ta):=by
 intro pins s σ H Q I h
 exact UnaryOp_ (thn (ha pins s σ H _ I h) fun v s1 ⟨x,H1,I1,r1,q1⟩=>ho pins s1 σ H1 x v Q I1 r1 q1)
theorem opI {f:Value->Value->Sem Value} {C:Int->Int->Prop} {g:Int->Int->Int}
  (rule:∀ (i j:Int) (t u:Tok) (s:Shared) (Q:Value->Shared->Prop) (E:Value->Shared->Prop),C i j->Q (.int (g i j) s.toks) { s with toks:=s.toks + 1 }->wpAny (model X.prog X.w) X.A (f (.int i t) (.int j u)) Q E s) :
  OpR X f (rI C fun i j=>.int (g i j)):=by
 intro pins s σ H x y v u Q I rx ry h
 obtain ⟨i,j,rfl,rfl,hc,q⟩:=h
 obtain ⟨t,rfl⟩:=rx
 obtain ⟨t',rfl⟩:=ry
 exact rule i j t t' s _ _ hc ⟨.int (g i j),H,I.tok _,⟨_,rfl⟩,q⟩
theorem opI0 {f:Value->Value->Sem Value} {g:Int->Int->Int}
  (rule:∀ (i j:Int) (t u:Tok) (s:Shared) (Q:Value->Shared->Prop) (E:Value->Shared->Prop),Q (.int (g i j) s.toks) { s with toks:=s.toks + 1 }->wpAny (model X.prog X.w) X.A (f (.int i t) (.int j u)) Q E s) :
  OpR X f (rI0 fun i j=>.int (g i j)):=by
 intro pins s σ H x y v u Q I rx ry h
 obtain ⟨i,j,rfl,rfl,q⟩:=h
 obtain ⟨t,rfl⟩:=rx
 obtain ⟨t',rfl⟩:=ry
 exact rule i j t t' s _ _ ⟨.int (g i j),H,I.tok _,⟨_,rfl⟩,q⟩
theorem opB0 {f:Value->Value->Sem Value} {g:Int->Int->Bool}
  (rule:∀ (i j:Int) (t u:Tok) (s:Shared) (Q:Value->Shared->Prop) (E:Value->Shared->Prop),Q (.bool (g i j)) s->wpAny (model X.prog X.w) X.A (f (.int i t) (.int j u)) Q E s) :
  OpR X f (rI0 fun i j=>.bl (g i j)):=by
 intro pins s σ H x y v u Q I rx ry h
 obtain ⟨i,j,rfl,rfl,q⟩:=h
 obtain ⟨t,rfl⟩:=rx
 obtain ⟨t',rfl⟩:=ry
 exact rule i j t t' s _ _ ⟨.bl (g i j),H,I,rfl,q⟩
def CPow (i j:Int):Prop:=0 <= j/\j <= 1000000/\i.natAbs < 2 ^ 64
def CMul (i j:Int):Prop:=(-(2 ^ 64) < i/\i < 2 ^ 64)\/(-(2 ^ 64) < j/\j < 2 ^ 64)
theorem CMul.ok {i j:Int} (h:CMul i j):IntMulOk i j:=by
 rcases h with ⟨h1,h2⟩ | ⟨h1,h2⟩
 ·exact .of_left (intBits_le_64 h1 h2)
 ·exact .of_right (intBits_le_64 h1 h2)
theorem aP:OpR X (binaryOp .Add) (rI0 fun i j=>.int (i + j)):=opI0 fun _ _ _ _ _ _ _ q=>add_int q
theorem bx:OpR X (binaryOp .Sub) (rI0 fun i j=>.int (i - j)):=opI0 fun _ _ _ _ _ _ _ q=>sub_int q
theorem bC:OpR X (binaryOp .Mult) (rI CMul fun i j=>.int (i * j)):=opI fun _ _ _ _ _ _ _ hc q=>mul_int q hc.ok
theorem bO:OpR X (binaryOp .Mod) (rI (fun _ j=>0 < j) fun i j=>.int (i % j)):=opI fun i j _ _ _ _ _ hc q=>by
 have h1:(0:Int) < j:=hc
 exact mod_int' (by omega) (by rw [Int.fmod_eq_emod_of_nonneg i (by omega)]; exact q)
theorem eT:OpR X (binaryOp .Pow) (rI CPow fun i j=>.int (i ^ j.toNat)):=opI fun _ _ _ _ _ _ _ hc q=>pow_int_small hc.1 hc.2.1 hc.2.2 q
theorem unI {f:Value->Sem Value} {g:Int->Int}
  (rule:∀ (i:Int) (t:Tok) (s:Shared) (Q:Value->Shared->Prop) (E:Value->Shared->Prop),Q (.int (g i) s.toks) { s with toks:=s.toks + 1 }->wpAny (model X.prog X.w) X.A (f (.int i t)) Q E s) :
  UnR X f (rU fun i=>.int (g i)):=by
 intro pins s σ H x v Q I rx h
 obtain ⟨i,rfl,q⟩:=h
 obtain ⟨t,rfl⟩:=rx
 exact rule i t s _ _ ⟨.int (g i),H,I.tok _,⟨_,rfl⟩,q⟩
theorem un_neg:UnR X (unaryOp .USub) (rU fun i=>.int (-i)):=unI fun _ _ _ _ _ q=>neg_int q
end
def scal:V->V->Bool
 | .non,.non=>true | .non,.int _=>true | .int _,.non=>true | .non,.bl _=>true | .bl _,.non=>true | .non,.str _=>true | .str _,.non=>true
 | .int _,.int _=>true | .bl _,.bl _=>true | .str _,.str _=>true | .byt _,.byt _=>true
 | .int _,.str _=>true | .str _,.int _=>true | .bl _,.str _=>true | .str _,.bl _=>true
 | _,_=>false
def rEq:R2:=fun x y H Q=>scal x y=true/\Q (.bl (decide (x=y))) H
def rNe:R2:=fun x y H Q=>scal x y=true/\Q (.bl (!decide (x=y))) H
theorem dec_int {i j:Int}:decide (V.int i=V.int j)=(i == j):=by
 rw [Bool.eq_iff_iff]
 simp
theorem dec_bl {i j:Bool}:decide (V.bl i=V.bl j)=(i == j):=by
 rw [Bool.eq_iff_iff]
 simp
theorem dec_str {i j:Str}:decide (V.str i=V.str j)=(i == j):=by
 rw [Bool.eq_iff_iff]
 simp
theorem dec_byt {i j:Array UInt8}:decide (V.byt i=V.byt j)=(i.toList == j.toList):=by
 rw [Bool.eq_iff_iff]
 cases i
 cases j
 simp
section
variable {X:Cx} {a b c:Expr} {ta tb tc:TE} {pos:Pos}
theorem aS {pins:List (Addr × Obj)} {σ:St} {H:Hp} {s:Shared} {Q:VK} {k k':Bool} (I:Inv X pins σ H s) (q:Q (.bl k) H) (e:k=k'):EP X pins σ Q (.bool k') s:=by
 subst e
 exact ⟨.bl k,H,I,rfl,q⟩
theorem bH:OpR X (compareOp .Eq) rEq:=by
 intro pins s σ H x y v u Q I rx ry h
 obtain ⟨hs,q⟩:=h
 cases x with
 | non=>
  cases rx
  cases y with
  | non=>cases ry; exact PySem.EqNone.eq_none_none (aS I q (by simp))
  | bl j=>cases ry; exact PySem.EqNone.eq_none_bool (aS I q (by simp))
  | int j=>obtain ⟨t',rfl⟩:=ry; exact PySem.EqNone.eq_none_int (aS I q (by simp))
  | str j=>obtain ⟨t',rfl⟩:=ry; exact PySem.EqNone.eq_none_str (aS I q (by simp))
  | _=>exact absurd (show false=true from hs) Bool.false_ne_true
 | bl i=>
  cases rx
  cases y with
  | non=>cases ry; exact PySem.EqNone.eq_bool_none (aS I q (by simp))
  | bl j=>cases ry; exact eq_bool (aS I q dec_bl)
  | str j=>obtain ⟨t',rfl⟩:=ry; exact PySem.EqMixed.eq_bool_str (aS I q (by simp))
  | _=>exact absurd (show false=true from hs) Bool.false_ne_true
 | int i=>
  obtain ⟨t,rfl⟩:=rx
  cases y with
  | non=>cases ry; exact PySem.EqNone.eq_int_none (aS I q (by simp))
  | int j=>obtain ⟨t',rfl⟩:=ry; exact eq_int (aS I q dec_int)
  | str j=>obtain ⟨t',rfl⟩:=ry; exact PySem.EqMixed.eq_int_str (aS I q (by simp))
  | _=>exact absurd (show false=true from hs) Bool.false_ne_true
 | str i=>
  obtain ⟨t,rfl⟩:=rx
  cases y with
  | non=>cases ry; exact PySem.EqNone.eq_str_none (aS I q (by simp))
  | bl j=>cases ry; exact PySem.EqMixed.eq_str_bool (aS I q (by simp))
  | int j=>obtain ⟨t',rfl⟩:=ry; exact PySem.EqMixed.eq_str_int (aS I q (by simp))
  | str j=>obtain ⟨t',rfl⟩:=ry; exact eq_str (aS I q dec_str)
  | _=>exact absurd (show false=true from hs) Bool.false_ne_true
 | byt i=>
  obtain ⟨t,rfl⟩:=rx
  cases y with
  | byt j=>obtain ⟨t',rfl⟩:=ry; exact PySem.W.eq_bytes (aS I q dec_byt)
  | _=>exact absurd (show false=true from hs) Bool.false_ne_true
 | _=>cases y<;>exact absurd (show false=true from hs) Bool.false_ne_true
theorem iw:OpR X (compareOp .NotEq) rNe:=by
 intro pins s σ H x y v u Q I rx ry h
 obtain ⟨hs,q⟩:=h
 cases x with
 | non=>
  cases rx
  cases y with
  | non=>cases ry; exact PySem.EqNone.ne_none_none (aS I q (by simp))
  | bl j=>cases ry; exact PySem.EqNone.ne_none_bool (aS I q (by simp))
  | int j=>obtain ⟨t',rfl⟩:=ry; exact PySem.EqNone.ne_none_int (aS I q (by simp))
  | str j=>obtain ⟨t',rfl⟩:=ry; exact PySem.EqNone.ne_none_str (aS I q (by simp))
  | _=>exact absurd (show false=true from hs) Bool.false_ne_true
 | bl i=>
  cases rx
  cases y with
  | non=>cases ry; exact PySem.EqNone.ne_bool_none (aS I q (by simp))
  | bl j=>cases ry; exact ne_bool (aS I q (congrArg not dec_bl))
  | str j=>obtain ⟨t',rfl⟩:=ry; exact PySem.EqMixed.ne_bool_str (aS I q (by simp))
  | _=>exact absurd (show false=true from hs) Bool.false_ne_true
 | int i=>
  obtain ⟨t,rfl⟩:=rx
  cases y with
  | non=>cases ry; exact PySem.EqNone.ne_int_none (aS I q (by simp))
  | int j=>obtain ⟨t',rfl⟩:=ry; exact ne_int (aS I q (congrArg not dec_int))
  | str j=>obtain ⟨t',rfl⟩:=ry; exact PySem.EqMixed.ne_int_str (aS I q (by simp))
  | _=>exact absurd (show false=true from hs) Bool.false_ne_true
 | str i=>
  obtain ⟨t,rfl⟩:=rx
  cases y with
  | non=>cases ry; exact PySem.EqNone.ne_str_none (aS I q (by simp))
  | bl j=>cases ry; exact PySem.EqMixed.ne_str_bool (aS I q (by simp))
  | int j=>obtain ⟨t',rfl⟩:=ry; exact PySem.EqMixed.ne_str_int (aS I q (by simp))
  | str j=>obtain ⟨t',rfl⟩:=ry; exact ne_str (aS I q (congrArg not dec_str))
  | _=>exact absurd (show false=true from hs) Bool.false_ne_true
 | byt i=>
  obtain ⟨t,rfl⟩:=rx
  cases y with
  | byt j=>obtain ⟨t',rfl⟩:=ry; exact PySem.W.ne_bytes (aS I q (congrArg not dec_byt))
  | _=>exact absurd (show false=true from hs) Bool.false_ne_true
 | _=>cases y<;>exact absurd (show false=true from hs) Bool.false_ne_true
theorem ib:OpR X (compareOp .Lt) (rI0 fun i j=>.bl (decide (i < j))):=opB0 fun _ _ _ _ _ _ _ q=>lt_int q
theorem je:OpR X (compareOp .LtE) (rI0 fun i j=>.bl (decide (i <= j))):=opB0 fun _ _ _ _ _ _ _ q=>le_int q
theorem dR:OpR X (compareOp .Gt) (rI0 fun i j=>.bl (decide (j < i))):=opB0 fun _ _ _ _ _ _ _ q=>gt_int q
theorem op_ge:OpR X (compareOp .GtE) (rI0 fun i j=>.bl (decide (j <= i))):=opB0 fun _ _ _ _ _ _ _ q=>ge_int q
theorem op_isN:OpR X (compareOp .Is) (fun x y H Q=>y=.non/\Q (.bl (decide (x=.non))) H):=by
 intro pins s σ H x y v u Q I rx ry h
 obtain ⟨rfl,q⟩:=h
 cases ry
 refine is_none_gen (aS I q ?_)
 cases x<;>first
  | (cases rx; rfl)
  | (obtain ⟨t,rfl⟩:=rx; rfl)
theorem op_notN:OpR X (compareOp .IsNot) (fun x y H Q=>y=.non/\Q (.bl (!decide (x=.non))) H):=by
 intro pins s σ H x y v u Q I rx ry h
 obtain ⟨rfl,q⟩:=h
 cases ry
 refine isnot_none_gen (aS I q ?_)
 cases x<;>first
  | (cases rx; rfl)
  | (obtain ⟨t,rfl⟩:=rx; rfl)
theorem ar (b:Expr) {op:CmpOp} (h:op ≠ .In:=by decide) (h2:op ≠ .NotIn:=by decide):behindInMarks op b=false:=by
 have e1:(op == CmpOp.In)=false:=by cases op<;>first | rfl | exact absurd rfl h
 have e2:(op == CmpOp.NotIn)=false:=by cases op<;>first | rfl | exact absurd rfl h2
 cases b<;>simp [behindInMarks,e1,e2]
theorem aV {op:CmpOp} {r:R2} (ho:OpR X (compareOp op) r) (ha:PE X a ta) (hb:PE X b tb) (hm:behindInMarks op b=false):PE X (.Compare a [op] [b] pos) (tOp r ta tb):=by
 intro pins s σ H Q I h
 exact wpAny_Compare1 (binT ha hb I h fun v u s2 x y H2 I2 rx ry q=>ho pins s2 σ H2 x y v u Q I2 rx ry q) hm
def tTest (t:TE):TT:=fun σ H Q=>t σ H fun x H'=>∃ k,x=.bl k/\Q k H'
theorem az {op:CmpOp} {r:R2} (ho:OpR X (compareOp op) r) (ha:PE X a ta) (hb:PE X b tb) (hm:behindInMarks op b=false):PT X (.Compare a [op] [b] pos) (tTest (tOp r ta tb)):=by
 intro pins s σ H Q I h
 refine wpAny_isTrue_Compare1 (thn (ha pins s σ H _ I h) fun v s1 ⟨x,H1,I1,r1,q1⟩=>thn (hb pins s1 σ H1 _ I1 q1) fun u s2 ⟨y,H2,I2,r2,q2⟩=>
  thn (ho pins s2 σ H2 x y v u _ I2 r1 r2 q2) fun c s3 ⟨z,H3,I3,r3,k,e,q3⟩=>?_) hm
 subst e
 cases r3
 exact wpAny_truthy_bool ⟨H3,I3,q3⟩
def tChain (r r':R2) (ta tb tc:TE):TE:=fun σ H Q=>ta σ H fun x H1=>tb σ H1 fun y H2=>r x y H2 fun z H3=>∃ k,z=.bl k/\
 (if k=true then tc σ H3 fun w' H4=>r' y w' H4 Q else Q (.bl false) H3)
theorem pe_chain {op op':CmpOp} {r r':R2} (ho:OpR X (compareOp op) r) (ho':OpR X (compareOp op') r') (ha:PE X a ta) (hb:PE X b tb) (hc:PE X c tc)
  (hm:lastMarks [op,op'] [b,c]=false:=by with_unfolding_all rfl):PE X (.Compare a [op,op'] [b,c] pos) (tChain r r' ta tb tc):=by
 intro pins s σ H Q I h
 refine Compare_chain (thn (ha pins s σ H _ I h) fun v s1 ⟨x,H1,I1,r1,q1⟩=>chain_link (thn (hb pins s1 σ H1 _ I1 q1) fun u s2 ⟨y,H2,I2,r2,q2⟩=>
  thn (ho pins s2 σ H2 x y v u _ I2 r1 r2 q2) fun d s3 ⟨z,H3,I3,r3,k,e,q3⟩=>?_)) hm
 subst e
 cases r3
 refine wpAny_truthy_bool ?_
 cases k with
 | false=>exact ite_ff ⟨.bl false,H3,I3,rfl,q3⟩
 | true=>exact ite_tt (chain_last (thn (hc pins s3 σ H3 _ I3 q3) fun w' s4 ⟨z',H4,I4,r4,q4⟩=>ho' pins s4 σ H4 y z' u w' Q I4 r2 r4 q4))
theorem pt_chain {op op':CmpOp} {r r':R2} (ho:OpR X (compareOp op) r) (ho':OpR X (compareOp op') r') (ha:PE X a ta) (hb:PE X b tb) (hc:PE X c tc)
  (hm:lastMarks [op,op'] [b,c]=false:=by with_unfolding_all rfl):PT X (.Compare a [op,op'] [b,c] pos) (tTest (tChain r r' ta tb tc)):=by
 intro pins s σ H Q I h
 refine isTrue_chain (thn (ha pins s σ H _ I h) fun v s1 ⟨x,H1,I1,r1,q1⟩=>test_link (thn (hb pins s1 σ H1 _ I1 q1) fun u s2 ⟨y,H2,I2,r2,q2⟩=>
  thn (ho pins s2 σ H2 x y v u _ I2 r1 r2 q2) fun d s3 ⟨z,H3,I3,r3,k,e,q3⟩=>?_)) hm
 subst e
 cases r3
 refine wpAny_truthy_bool ?_
 cases k with
 | false=>
  obtain ⟨k',e',q'⟩:=q3
  cases e'
  exact ite_ff ⟨H3,I3,q'⟩
 | true=>
  refine ite_tt (test_last (thn (hc pins s3 σ H3 _ I3 q3) fun w' s4 ⟨z',H4,I4,r4,q4⟩=>thn (ho' pins s4 σ H4 y z' u w' _ I4 r2 r4 q4) fun d' s5 ⟨z2,H5,I5,r5,k2,e2,q5⟩=>?_))
  subst e2
  cases r5
  exact wpAny_truthy_bool ⟨H5,I5,q5⟩
theorem mJ:(sizeLine:Nat) < 2 ^ 63:=by rw [sizeLine_eq]; decide
theorem fm {x:V} {us:List Value} (r:Vals [x] us):∃ u,us=[u]/\RelV x u:=by
 cases r with
 | cons r1 r2=>cases r2; exact ⟨_,rfl,r1⟩
theorem vals2 {x y:V} {us:List Value} (r:Vals [x,y] us):∃ u w',us=[u,w']/\RelV x u/\RelV y w':=by
 cases r with
 | cons r1 r2=>
  cases r2 with
  | cons r3 r4=>cases r4; exact ⟨_,_,rfl,r1,r3⟩
theorem call_abs:cY X (.builtin "abs") (fun xs H Q=>∃ i,xs=[.int i]/\Q (.int (if i < 0 then -i else i)) H):=by
 intro pins s σ H xs us Q I r h
 obtain ⟨i,rfl,q⟩:=h
 obtain ⟨u,rfl,t,rfl⟩:=fm r
 exact call_abs_int fun u tk=>⟨.int (if i < 0 then -i else i),H,I.tok _,⟨_,rfl⟩,q⟩
theorem call_max2 (hc:X.calm=true):cY X (.builtin "max") (fun xs H Q=>∃ i j,xs=[.int i,.int j]/\Q (.int (if j > i then j else i)) H):=by
 intro pins s σ H xs us Q I r h
 obtain ⟨i,j,rfl,q⟩:=h
 obtain ⟨u,w',rfl,⟨t,rfl⟩,⟨t',rfl⟩⟩:=vals2 r
 refine max_two_ints (I.ok.hd hc) fun h' tk k=>⟨_,H,I.kept k,?_,q⟩
 by_cases hj:j > i
 ·rw [if_pos hj,if_pos hj]; exact ⟨_,rfl⟩
 ·rw [if_neg hj,if_neg hj]; exact ⟨_,rfl⟩
theorem call_min2 (hc:X.calm=true):cY X (.builtin "min") (fun xs H Q=>∃ i j,xs=[.int i,.int j]/\Q (.int (if j < i then j else i)) H):=by
 intro pins s σ H xs us Q I r h
 obtain ⟨i,j,rfl,q⟩:=h
 obtain ⟨u,w',rfl,⟨t,rfl⟩,⟨t',rfl⟩⟩:=vals2 r
 refine min_two_ints (I.ok.hd hc) fun h' tk k=>⟨_,H,I.kept k,?_,q⟩
 by_cases hj:j < i
 ·rw [if_pos hj,if_pos hj]; exact ⟨_,rfl⟩
 ·rw [if_neg hj,if_neg hj]; exact ⟨_,rfl⟩
theorem lA:cY X (.type "int") (fun xs H Q=>(∃ i,xs=[.int i]/\Q (.int i) H)\/∃ k,xs=[.bl k]/\Q (.int (if k then 1 else 0)) H):=by
 intro pins s σ H xs us Q I r h
 rcases h with ⟨i,rfl,q⟩ | ⟨k,rfl,q⟩
 ·obtain ⟨u,rfl,t,rfl⟩:=fm r
  exact call_int_int ⟨.int i,H,I,⟨_,rfl⟩,q⟩
 ·obtain ⟨u,rfl,r1⟩:=fm r
  cases r1
  exact call_int_bool ⟨.int (if k then 1 else 0),H,I.tok _,⟨_,rfl⟩,q⟩
end
end L2
namespace L2
open PySem PySem.Spec PyProof.Rows
structure ObjM (h:Heap) (x dx C:Addr) (mA:Str->Option Value):Prop where
 obj:h.get? x=some (instObj C dx)
 ns:h.Ns1 dx mA
 ne:dx ≠ x
theorem lookIn_ns {h:Heap} {dx:Addr} {mA:Str->Option Value} (n:h.Ns1 dx mA):∃ od,h.get? dx=some od/\∀ name,lookIn name od=some (mA name):=by
 obtain ⟨o,es,ep,ho,hd,hk,_,hm⟩:=n
 refine ⟨o,ho,fun name=>?_⟩
 have e:=hm name
 unfold nsFind findBy at e
 rw [<- Array.find?_toList] at e
 unfold lookIn
 rw [hd]
 dsimp only
 split
 ·rename_i y q
  rw [q] at e
  exact congrArg some e
 ·rename_i q
  rw [q] at e
  have a:es.toList.any (·.refKey)=false:=by
   rw [List.any_eq_false]
   intro y hy
   obtain ⟨z,t,hkey⟩:=hk y (Array.mem_toList_iff.mp hy)
   simp [DictEntry.refKey,hkey]
  have a':¬ es.toList.any (·.refKey)=true:=by rw [a]; exact Bool.false_ne_true
  rw [if_neg a']
  exact congrArg some e
theorem ObjM.look {h:Heap} {x dx C:Addr} {mA:Str->Option Value} (I:ObjM h x dx C mA):∃ od,PySem.W.InstAt h x (instObj C dx) C (some od)/\∀ name,lookIn name od=some (mA name):=
 let ⟨od,ho,hl⟩:=lookIn_ns I.ns
 ⟨od,⟨I.obj,rfl,rfl,ho⟩,hl⟩
section
variable {prog:Program} {w:World} {A:Around} {E:Value->Shared->Prop} {s:Shared} {K:Frag} {x dx C f:Addr} {mA:Str->Option Value} {name:Str} {v:Value}
theorem get_map {expr:Bool} {Q:Value->Shared->Prop} (X:K.In s.heap) (I:ObjM s.heap x dx C mA) (hg:plainGet K C name=true) (hh:hasDictIn K C=true)
  (ha:findIn K (.ref C) name=some none) (hv:mA name=some v) (hv':PySem.W.handedIn v=true) (h:Q v { s with toks:=s.toks + 1 }) :
  wpAny (model prog w) A (getAttr (.ref x) name expr) Q E s:=by
 obtain ⟨od,J,hl⟩:=I.look
 exact PySem.W.get_value X J (PySem.W.plainGet_of hg).1 (PySem.W.findObj_own hh ha rfl (by rw [hl,hv])) hv' h
theorem get_meth {pl:Sem Bool} {Q:Value × List Value->Shared->Prop} (X:K.In s.heap) (I:ObjM s.heap x dx C mA) (hg:plainGet K C name=true)
  (hf:findIn K (.ref C) name=some (some (.ref f))) (ht:isFn K (.ref f)=true) (hv:mA name=none) (h:Q (.ref f,[.ref x]) s) :
  wpAny (model prog w) A (getMethod (.ref x) name pl) Q E s:=by
 obtain ⟨od,J,hl⟩:=I.look
 exact PySem.W.method_fn X J (PySem.W.plainGet_of hg).1 (PySem.W.plainGet_of hg).2 hf (beq_iff_eq.mp ht) (by show (lookIn name od).map (·.isSome)=some false; rw [hl,hv]; rfl) h
theorem set_map {ns:List Str} {Q:Unit->Shared->Prop} (X:K.In s.heap) (I:ObjM s.heap x dx C mA)
  (hs:findIn K (.ref C) "__setattr__"=some (some (.builtin "object.__setattr__"))) (hp:plainOver K C=true) (ht:PySem.W.takerIn K C name=some none) (hh:hasDictIn K C=true)
  (hw:PySem.Within mA ns) (hsz:ns.length <= sizeLine)
  (h:∀ h',ObjM h' x dx C (fun y=>if y=name then some v else mA y)->Heap.SameBut dx s.heap h'->Q () { s with heap:=h',toks:=s.toks + 2 }) :
  wpAny (model prog w) A (setAttr (.ref x) name v) Q E s:=by
 obtain ⟨od,J,hl⟩:=I.look
 refine PySem.W.set_plain X J hs (PySem.W.osa_open (s:={ s with toks:=s.toks + 1 }) (r:=none) X J hp ht fun b=>?_)
 obtain ⟨cd,hc,hd'⟩:=PySem.W.any_some hh
 have hx:s.heap.get? x=some ⟨.ref C,some dx,.plain,#[]⟩:=I.obj
 refine wpAny_bind (wpAny_pure (wpAny_bind (wpAny_bind (wpAny_loadPart hx (wpAny_bind (PySem.W.Looks.here (s:={ s with toks:=s.toks + 1 }) (PySem.W.looks_clsIn X hc) ?_))))))
 rw [hd']
 refine wpAny_pure (a:=some dx) (wpAny_bind (wpAny_pure (wpAny_bind ?_)))
 refine wpAny_nsSet1 (s:={ s with toks:=s.toks + 1 }) I.ns fun h' hn2 hs2=>?_
 obtain ⟨oD,esD,epD,hoD,hdD,hcD⟩:=hn2.count (PySem.Within.cons name v hw)
 refine wpAny_bind (wpAny_lookBehind hoD (by rw [hdD]; exact pastItsLine_dict (Nat.le_trans hcD (by rw [List.length_cons]; omega))) ?_)
 exact wpAny_pure (h _ ⟨(hs2.2 _ (Ne.symm I.ne)).trans I.obj,hn2,I.ne⟩ hs2)
theorem make_map {R:Result->Shared->Prop} {vs:List Value} {kw:List (Str × Value)} (X:K.In s.heap) (hm:makesIn K C=true)
  (hi:findIn K (.ref C) "__init__"=some (some (.ref f))) (hf:PySem.W.typeIn K (.ref f)=some (.type "function"))
  (h:codeAny (model prog w) (A.under (.builtin "type.__call__" ⟨.ref C :: vs,kw⟩)) (.call (.ref f) ⟨.ref (s.heap.objs.size + 1) :: vs,kw⟩) (PySem.W.InitBack (s.heap.objs.size + 1) R)
   { s with heap:=(s.heap.push emptyDict).push (instObj C s.heap.objs.size) }) :
  codeAny (model prog w) A (.call (.ref C) ⟨vs,kw⟩) R s:=by
 obtain ⟨hh,g,d,t,os⟩:=s
 exact PySem.W.make_core (PySem.W.makes_of X hm) (PySem.W.looks_findIn X hi) (fun self=>PySem.W.bind_fn X self hf) (.inl rfl) h
theorem make_map0 {R:Result->Shared->Prop} (X:K.In s.heap) (hm:makesIn K C=true)
  (hi:findIn K (.ref C) "__init__"=some (some (.builtin "object.__init__")))
  (hb:∀ self,PySem.W.Looks (model prog w) s.heap (bindSpecial (.builtin "object.__init__") self) (.builtin "object.__init__",[self]))
  (h:codeAny (model prog w) (A.under (.builtin "type.__call__" ⟨[.ref C],[]⟩)) (.call (.builtin "object.__init__") ⟨[.ref (s.heap.objs.size + 1)],[]⟩) (PySem.W.InitBack (s.heap.objs.size + 1) R)
   { s with heap:=(s.heap.push emptyDict).push (instObj C s.heap.objs.size) }) :
  codeAny (model prog w) A (.call (.ref C) ⟨[],[]⟩) R s:=by
 obtain ⟨hh,g,d,t,os⟩:=s
 exact PySem.W.make_core (PySem.W.makes_of X hm) (PySem.W.looks_findIn X hi) hb (.inr ⟨rfl,rfl⟩) h
end
def gn (f:Str) (v:V):List (Str × V)->List (Str × V)
 | []=>[(f,v)]
 | (g,x) :: r=>if g=f then (g,v) :: r else (g,x) :: gn f v r
theorem i4 (f g:Str) (v:V):∀ fs:List (Str × V),(gn f v fs).lookup g=if g=f then some v else fs.lookup g
 | []=>by
  show List.lookup g [(f,v)]=_
  by_cases h:g=f
  ·have hb:(g == f)=true:=beq_iff_eq.mpr h
   simp only [List.lookup,hb,if_pos h]
  ·have hb:(g == f)=false:=beq_eq_false_iff_ne.mpr h
   simp only [List.lookup,hb,if_neg h]
 | (k,x) :: r=>by
  have ih:=i4 f g v r
  rw [show gn f v ((k,x) :: r)=(if k=f then (k,v) :: r else (k,x) :: gn f v r) from rfl]
  by_cases hk:k=f
  ·rw [if_pos hk]
   by_cases h:g=k
   ·have hb:(g == k)=true:=beq_iff_eq.mpr h
    simp only [List.lookup,hb,if_pos (h.trans hk)]
   ·have hb:(g == k)=false:=beq_eq_false_iff_ne.mpr h
    simp only [List.lookup,hb,if_neg (fun e:g=f=>h (e.trans hk.symm))]
  ·rw [if_neg hk]
   by_cases h:g=k
   ·have hb:(g == k)=true:=beq_iff_eq.mpr h
    simp only [List.lookup,hb,if_neg (fun e:g=f=>hk (h.symm.trans e))]
   ·have hb:(g == k)=false:=beq_eq_false_iff_ne.mpr h
    simp only [List.lookup,hb]
    exact ih
theorem iW (f:Str) (v:V):∀ fs:List (Str × V),f ∈ (gn f v fs).map (·.1)/\∀ g,g ∈ fs.map (·.1)->g ∈ (gn f v fs).map (·.1)
 | []=>⟨by simp [gn],fun g h=>by simp at h⟩
 | (k,x) :: r=>by
  obtain ⟨i1,i2⟩:=iW f v r
  rw [show gn f v ((k,x) :: r)=(if k=f then (k,v) :: r else (k,x) :: gn f v r) from rfl]
  by_cases hk:k=f
  ·rw [if_pos hk]
   subst hk
   exact ⟨by simp,fun g h=>by simpa using h⟩
  ·rw [if_neg hk]
   refine ⟨?_,fun g h=>?_⟩
   ·rw [List.map_cons]
    exact List.mem_cons_of_mem _ i1
   ·rw [List.map_cons] at h ⊢
    rcases List.mem_cons.mp h with e | e
    ·exact List.mem_cons.mpr (.inl e)
    ·exact List.mem_cons_of_mem _ (i2 g e)
theorem i5 (f:Str) (v:V):∀ fs:List (Str × V),(gn f v fs).length <= fs.length + 1
 | []=>by simp [gn]
 | (k,x) :: r=>by
  have ih:=i5 f v r
  rw [show gn f v ((k,x) :: r)=(if k=f then (k,v) :: r else (k,x) :: gn f v r) from rfl]
  by_cases hk:k=f
  ·rw [if_pos hk,List.length_cons,List.length_cons]; omega
  ·rw [if_neg hk,List.length_cons,List.length_cons]; omega
theorem RelO.some_of {v:V} {o:Option Value} (r:RelO (some v) o):∃ u,o=some u/\RelV v u:=by
 cases o with
 | none=>exact (show False from r).elim
 | some u=>exact ⟨u,rfl,r⟩
theorem RelO.none_of {o:Option Value} (r:RelO none o):o=none:=by
 cases o with
 | none=>rfl
 | some u=>exact (show False from r).elim
theorem handed_of {v:V} {u:Value} (r:RelV v u):PySem.W.handedIn u=true:=by
 cases v with
 | non=>cases (show u=Value.none from r); rfl
 | bl b=>cases (show u=Value.bool b from r); rfl
 | int i=>obtain ⟨t,e⟩:=(show ∃ t,u=Value.int i t from r); cases e; rfl
 | str x=>obtain ⟨t,e⟩:=(show ∃ t,u=Value.str x t from r); cases e; rfl
 | byt b=>obtain ⟨t,e⟩:=(show ∃ t,u=Value.bytes b t from r); cases e; rfl
 | flt b=>obtain ⟨t,e⟩:=(show ∃ t,u=Value.float b t from r); cases e; rfl
 | ref a=>cases (show u=Value.ref a from r); rfl
 | ty n=>cases (show u=Value.type n from r); rfl
section
variable {P:Program} {w:World} {H H':Hp} {h h':Heap} {a C dx:Addr} {fs fs':List (Str × V)}
theorem jB (hok:HOk P w H h) (e:H a=some (.ins C dx fs)):∃ mA,ObjM h a dx C mA/\(∀ f,RelO (fs.lookup f) (mA f))/\PySem.Within mA (fs.map (·.1))/\fs.length <= 1000/\H dx=some (.own a):=by
 obtain ⟨d,z,ne,ob,mA,n,r,q⟩:=(show ObjOk P w H h a (.ins C dx fs) from hok a _ e)
 exact ⟨mA,⟨ob,n,ne⟩,r,q,z,d⟩
end
structure Cls (K:Frag) (C:Addr):Prop where
 pg:plainGet K C Str.empty=true
 hd:hasDictIn K C=true
 po:plainOver K C=true
 sa:findIn K (.ref C) "__setattr__"=some (some (.builtin "object.__setattr__"))
theorem Cls.get {K:Frag} {C:Addr} (c:Cls K C) (f:Str):plainGet K C f=true:=c.pg
def NoAttr (K:Frag) (C:Addr) (f:Str):Prop:=findIn K (.ref C) f=some none
theorem NoAttr.taker {K:Frag} {C:Addr} {f:Str} (n:NoAttr K C f):PySem.W.takerIn K C f=some none:=by
 unfold PySem.W.takerIn
 rw [show findIn K (.ref C) f=some none from n]
 rfl
structure g6 (K:Frag) (C:Addr) (m:Str) (f:Addr):Prop where
 at_:findIn K (.ref C) m=some (some (.ref f))
 fn:isFn K (.ref f)=true
 kp:keepIn K (.ref f)=true
section
variable {X:Cx} {pins:List (Addr × Obj)} {σ:St} {H:Hp} {s:Shared} {a C dx:Addr} {fs:List (Str × V)} {f:Str} {v:V} {A:Around} {E:Value->Shared->Prop}
theorem getattr_ok {b:Bool} {Q:Value->Shared->Prop} (I:Inv X pins σ H s) (e:H a=some (.ins C dx fs)) (c:Cls X.K C) (n:NoAttr X.K C f) (l:fs.lookup f=some v)
  (h:∀ u s',Inv X pins σ H s'->RelV v u->Q u s'):wpAny (model X.prog X.w) A (getAttr (.ref a) f b) Q E s:=by
 obtain ⟨mA,O,r,_,_,_⟩:=jB I.hok e
 obtain ⟨u,hu,ru⟩:=RelO.some_of (v:=v) (o:=mA f) (by rw [<- l]; exact r f)
 exact get_map I.kIn O (c.get f) c.hd n hu (handed_of ru) (h u _ (I.tok _) ru)
theorem gF {m:Str} {g:Addr} {pl:Sem Bool} {Q:Value × List Value->Shared->Prop} (I:Inv X pins σ H s) (e:H a=some (.ins C dx fs)) (c:Cls X.K C) (k:g6 X.K C m g) (l:fs.lookup m=none)
  (h:Q (.ref g,[.ref a]) s):wpAny (model X.prog X.w) A (getMethod (.ref a) m pl) Q E s:=by
 obtain ⟨mA,O,r,_,_,_⟩:=jB I.hok e
 have hn:mA m=none:=RelO.none_of (by rw [<- l]; exact r m)
 exact get_meth I.kIn O (c.get m) k.at_ k.fn hn h
theorem setattr_ok {y:V} {u:Value} {Q:Unit->Shared->Prop} (I:Inv X pins σ H s) (e:H a=some (.ins C dx fs)) (c:Cls X.K C) (n:NoAttr X.K C f) (hl:fs.length < 1000) (ry:RelV y u)
  (h:∀ s',Inv X pins σ (upd H a (.ins C dx (gn f y fs))) s'->Q () s'):wpAny (model X.prog X.w) A (setAttr (.ref a) f u) Q E s:=by
 obtain ⟨mA,O,r,wi,_,ho⟩:=jB I.hok e
 have hz:(fs.map (·.1)).length <= sizeLine:=by rw [List.length_map,sizeLine_eq]; omega
 refine set_map I.kIn O c.sa c.po n.taker c.hd wi hz fun h' O' sb=>h _ ?_
 have hd:∃ o,h'.get? dx=some o:=let ⟨o,_,_,e',_⟩:=O'.ns; ⟨o,e'⟩
 refine I.write (x:=a) (e:=dx) (by rw [e]; exact True.intro) (.inr ho) (fun b q hb z=>(sb.2 b hb).trans z) hd ?_
 refine ⟨by rw [ao O.ne]; exact ho,?_,O.ne,O'.obj,_,O'.ns,fun g=>?_,fun g hg=>?_⟩
 ·have:=i5 f y fs; omega
 ·show RelO ((gn f y fs).lookup g) (if g=f then some u else mA g)
  rw [i4]
  by_cases q:g=f
  ·rw [if_pos q,if_pos q]; exact ry
  ·rw [if_neg q,if_neg q]; exact r g
 ·by_cases q:g=f
  ·rw [q]; exact (iW f y fs).1
  ·refine (iW f y fs).2 g (wi g fun z=>hg ?_)
   show (if g=f then some u else mA g)=none
   rw [if_neg q]; exact z
theorem Inv.made (I:Inv X pins σ H s):Inv X pins σ (upd (upd H s.heap.objs.size (.own (s.heap.objs.size + 1))) (s.heap.objs.size + 1) (.ins C s.heap.objs.size []))
  { s with heap:=(s.heap.push emptyDict).push (instObj C s.heap.objs.size) }:=by
 have e1:(s.heap.push emptyDict).get? s.heap.objs.size=some emptyDict:=Heap.get?_push_size s.heap rfl
 have e2:((s.heap.push emptyDict).push (instObj C s.heap.objs.size)).get? (s.heap.objs.size + 1)=some (instObj C s.heap.objs.size):=by
  have:=Heap.get?_push_size (s.heap.push emptyDict) (o:=instObj C s.heap.objs.size) rfl
  rwa [Heap.size_push] at this
 have e3:(s.heap.push emptyDict).Ns s.heap.objs.size (fun _=>none):=⟨emptyDict,#[],_,e1,rfl,(fun e he=>absurd he (by simp)),fun _=>rfl⟩
 have I1:=I.laid (a:=s.heap.objs.size) (o:=.own (s.heap.objs.size + 1)) (h':=s.heap.push emptyDict) (t':=s.toks) (fun b u q=>Heap.get?_push_of_some _ q) (Nat.le_refl _) ⟨_,e1⟩
 refine I1.laid (a:=s.heap.objs.size + 1) (o:=.ins C s.heap.objs.size []) (t':=s.toks) (fun b u q=>Heap.get?_push_of_some _ q) (Nat.le_of_eq (Heap.size_push _ _)) ?_
 have ne:s.heap.objs.size ≠ s.heap.objs.size + 1:=Nat.ne_of_lt (Nat.lt_succ_self _)
 refine ⟨by rw [ao ne,ac],Nat.zero_le _,ne,e2,fun _=>none,(Heap.Ns1.of_empty e3).at fun o q=>Heap.get?_push_of_some _ q,fun _=>True.intro,fun y hy=>absurd rfl hy⟩
theorem attr_of {prog:Program} {w:World} {env:Env} {e:Expr} {f:Str} {pos:Pos} {s:Shared} {Q:Value->Shared->Prop} (hb:attributeBase e f env (eval e env)=eval e env)
  (h:wpAny (model prog w) A (eval e env) (fun o s₁=>wpAny (model prog w) A (getAttr o f true) Q E s₁) E s):wpAny (model prog w) A (eval (.Attribute e f pos) env) Q E s:=
 Attribute_any_ h (by rw [arm_eval_Attribute,hb])
end
def tFld (K:Frag) (ta:TE) (f:Str):TE:=fun σ H Q=>ta σ H fun x H1=>∃ a C dx fs v,x=.ref a/\H1 a=some (.ins C dx fs)/\Cls K C/\NoAttr K C f/\fs.lookup f=some v/\Q v H1
def sFld (K:Frag) (ta tv:TE) (f:Str):TS:=fun D σ H=>tv σ H fun y H1=>ta σ H1 fun x H2=>∃ a C dx fs,x=.ref a/\H2 a=some (.ins C dx fs)/\Cls K C/\NoAttr K C f/\fs.length < 1000/\
 D.nx σ (upd H2 a (.ins C dx (gn f y fs)))
section
variable {X:Cx} {o e value:Expr} {f:Str} {pos pos' tpos:Pos} {ta tv:TE}
theorem iT (he:PE X e ta) (hb:attributeBase e f X.env (eval e X.env)=eval e X.env):PE X (.Attribute e f pos) (tFld X.K ta f):=by
 intro pins s σ H Q I h
 refine attr_of hb (thn (he pins s σ H _ I h) fun u s1 ⟨x,H1,I1,rx,a,C,dx,fs,v,ex,ea,c,n,l,q⟩=>?_)
 subst ex
 obtain rfl:u=Value.ref a:=rx
 exact getattr_ok I1 ea c n l fun u' s2 I2 ru=>⟨v,H1,I2,ru,q⟩
theorem ps_fld (ha:PE X o ta) (hv:PE X value tv) (hs:swapsWith value (some (.Attribute o f pos')) pos.line X.env=pure false):PS X (.Assign [.Attribute o f pos'] value pos) (sFld X.K ta tv f):=by
 intro pins s σ H D I h
 refine plainObj_wpAny_Assign_Attribute (thn (hv pins s σ H _ I h) fun u s1 ⟨y,H1,I1,ry,q⟩=>thn (ha pins s1 σ H1 _ I1 q) fun ov s2 ⟨x,H2,I2,rx,a,C,dx,fs,ex,ea,c,n,l,q2⟩=>?_) hs
 subst ex
 obtain rfl:ov=Value.ref a:=rx
 exact setattr_ok I2 ea c n l ry fun s3 I3=>⟨σ,_,I3,q2⟩
theorem methcall_of {pl:Sem Bool} {m:Str} {apos:Pos} {args:List Expr} {pins:List (Addr × Obj)} {s:Shared} {σ:St} {H:Hp} {Q:Value->Shared->Prop} {te:TE} (he:PE X e te) (I:Inv X pins σ H s)
  (h:te σ H fun x H1=>∃ a C dx fs g,x=.ref a/\H1 a=some (.ins C dx fs)/\Cls X.K C/\g6 X.K C m g/\fs.lookup m=none/\
   ∀ s1,Inv X pins σ H1 s1->wpAny (model X.prog X.w) X.A (callWith pos (.ref g) [.ref a] (backTo pos (starEach args X.env)) (backToKw pos (keywordEach [] X.env))) Q X.xe s1)
  (ht:eval (.Call (.Attribute e m apos) args [] pos) X.env=(do
   let ov <- eval e X.env
   standAt apos.atName
   let (f,first) <- holding [ov] (getMethod ov m pl)
   callWith pos f first (backTo pos (starEach args X.env)) (backToKw pos (keywordEach [] X.env)))) :
  wpAny (model X.prog X.w) X.A (eval (.Call (.Attribute e m apos) args [] pos) X.env) Q X.xe s:=by
 refine PySem.W.methodCall_KW (pl:=pl) (thn (he pins s σ H _ I h) fun u s1 ⟨x,H1,I1,rx,a,C,dx,fs,g,ex,ea,c,k,l,q⟩=>?_) ht
 subst ex
 obtain rfl:u=Value.ref a:=rx
 exact gF I1 ea c k l (q s1 I1)
end
section
variable {X:Cx} {pins:List (Addr × Obj)} {σ:St} {H:Hp} {s:Shared} {A:Around} {E:Value->Shared->Prop} {Q:Value->Shared->Prop} {c:Value} {b:Bool}
inductive TyOf (K:Frag) (H:Hp):V->Value->Prop where
 | non:TyOf K H .non (.type "NoneType")
 | bl (x:Bool):TyOf K H (.bl x) (.type "bool")
 | int (i:Int):TyOf K H (.int i) (.type "int")
 | str (x:Str):TyOf K H (.str x) (.type "str")
 | flt (x:UInt64):TyOf K H (.flt x) (.type "float")
 | lst {a:Addr} {xs:List V} (e:H a=some (.lst xs)):TyOf K H (.ref a) (.type "list")
 | frz {a:Addr} {o:Obj} {xs:List V} (e:H a=some (.frz o (.lst xs))):TyOf K H (.ref a) (.type "list")
 | tup {a:Addr} {xs:List V} (e:H a=some (.tup xs)):TyOf K H (.ref a) (.type "tuple")
 | dK {a:Addr} {kvs:List (Key × V)} (e:H a=some (.dK kvs)):TyOf K H (.ref a) (.type "dict")
 | dT {a:Addr} {kvs:List (List Key × V)} (e:H a=some (.dT kvs)):TyOf K H (.ref a) (.type "dict")
 | ins {a C dx:Addr} {fs:List (Str × V)} (e:H a=some (.ins C dx fs)) (cl:Cls K C) (ha:findIn K (.ref C) "__class__"=some (some (.builtin "object.__class__")))
   (hn:specialIn K (.builtin "object.__class__") "__get__"=some (some (.builtin "getset_descriptor.__get__"))) (htk:takesIn K (.builtin "object.__class__")=some true)
   (hm:mroIn K C (.type "object")=some true):TyOf K H (.ref a) (.ref C)
theorem isinst_ok {x:V} {u t:Value} (I:Inv X pins σ H s) (rx:RelV x u) (ty:TyOf X.K H x t) (e:kitOne X.K t c=some b) (h:∀ tk,Q (.bool b) { s with toks:=tk }) :
  wpAny (model X.prog X.w) A (call (.builtin "isinstance") [u,c]) Q E s:=by
 cases ty with
 | non=>cases (show u=Value.none from rx); exact kia_one PySem.W.kitx_none I.kIn True.intro e (fun z=>nomatch z) h
 | bl y=>cases (show u=Value.bool y from rx); exact kia_one PySem.W.kitx_bool I.kIn True.intro e (fun z=>nomatch z) h
 | int i=>obtain ⟨t,q⟩:=(show ∃ t,u=Value.int i t from rx); cases q; exact kia_one PySem.W.kitx_int I.kIn True.intro e (fun z=>nomatch z) h
 | str y=>obtain ⟨t,q⟩:=(show ∃ t,u=Value.str y t from rx); cases q; exact kia_one PySem.W.kitx_str I.kIn True.intro e (fun z=>nomatch z) h
 | flt y=>obtain ⟨t,q⟩:=(show ∃ t,u=Value.float y t from rx); cases q; exact kia_one PySem.W.kitx_float I.kIn True.intro e (fun z=>nomatch z) h
 | @lst a xs ea=>
  cases (show u=Value.ref a from rx)
  obtain ⟨_,_,n,_,h1⟩:=(show ObjOk X.prog X.w H s.heap a (.lst xs) from I.hok a _ ea)
  exact kia_one PySem.W.kitx_list I.kIn ⟨_,h1,rfl⟩ e (fun z=>nomatch z) h
 | @frz a ob xs ea=>
  cases (show u=Value.ref a from rx)
  obtain ⟨_,_,_,n,_,h1⟩:=(show ObjOk X.prog X.w H s.heap a (.frz ob (.lst xs)) from I.hok a _ ea)
  exact kia_one PySem.W.kitx_list I.kIn ⟨_,h1,rfl⟩ e (fun z=>nomatch z) h
 | @tup a xs ea=>
  cases (show u=Value.ref a from rx)
  obtain ⟨_,_,_,p⟩:=(show ObjOk X.prog X.w H s.heap a (.tup xs) from I.hok a _ ea)
  obtain ⟨o,h1,h2,_⟩:=p
  exact kia_one PySem.W.kitx_tuple I.kIn ⟨o,h1,h2⟩ e (fun z=>nomatch z) h
 | @dK a kvs ea=>
  cases (show u=Value.ref a from rx)
  obtain ⟨_,_,vs,_,p⟩:=(show ObjOk X.prog X.w H s.heap a (.dK kvs) from I.hok a _ ea)
  obtain ⟨o,es,ep,h1,h2,_⟩:=p
  exact kia_one PySem.W.kitx_dict I.kIn ⟨o,h1,h2.1⟩ e (fun z=>nomatch z) h
 | @dT a kvs ea=>
  cases (show u=Value.ref a from rx)
  obtain ⟨_,_,xs,_,o,es,ep,h1,h2,_⟩:=(show ObjOk X.prog X.w H s.heap a (.dT kvs) from I.hok a _ ea)
  exact kia_one PySem.W.kitx_dict I.kIn ⟨o,h1,h2.1⟩ e (fun z=>nomatch z) h
 | @ins a C dx fs ea cl ha hn htk hm=>
  cases (show u=Value.ref a from rx)
  obtain ⟨mA,O,_⟩:=jB I.hok ea
  obtain ⟨od,J,_⟩:=O.look
  exact kia_one (PySem.W.kitx_own (cl.get _) cl.hd ha hn htk hm) I.kIn J e (fun z=>nomatch z) h
end
end L2
namespace L2
open PySem PySem.Spec PyProof.Rows
structure Room (k:Nat) (A:Around):Prop where
 hd:A.handled=none
 dp:A.depth + 3 * k + 5 < recursionLimit
 un:A.units + 16 * k + 200 < cLine
theorem Room.mono {j k:Nat} {A:Around} (r:Room k A) (h:j <= k):Room j A:=⟨r.hd,by have:=r.dp; omega,by have:=r.un; omega⟩
theorem Room.deeper {k:Nat} {A:Around} (r:Room (k + 1) A) (env:Env):Room k (A.deeper env):=
 ⟨r.hd,by have:=r.dp; show A.depth + 1 + 3 * k + 5 < _; omega,by have:=r.un; show A.units + 3 + 16 * k + 200 < _; omega⟩
theorem Room.in1 {k:Nat} {A:Around} (r:Room (k + 1) A):Room k A.in1:=
 ⟨r.hd,by have:=r.dp; show A.depth + 3 * k + 5 < _; omega,by have:=r.un; show A.units + 1 + 16 * k + 200 < _; omega⟩
theorem make_depth {A:Around} {C:Addr} {us:List Value} {kw:List (Str × Value)}:(A.under (.builtin "type.__call__" ⟨.ref C :: us,kw⟩)).depth=A.depth + 1:=by
 first | rfl | simp [Around.under,Code.weight,Code.isCreation,Code.isGuard,Code.isCaller,Code.frames,Code.isFrame,guardIds]
theorem make_units {A:Around} {C:Addr} {us:List Value} {kw:List (Str × Value)}:(A.under (.builtin "type.__call__" ⟨.ref C :: us,kw⟩)).units=A.units + 1:=by
 first | rfl | simp [Around.under,Code.cUnits,Code.frames,Code.isFrame]
theorem Room.make {k:Nat} {A:Around} (r:Room (k + 1) A) (C:Addr) (us:List Value) (kw:List (Str × Value)):Room k (A.under (.builtin "type.__call__" ⟨.ref C :: us,kw⟩)):=
 ⟨r.hd,by have:=r.dp; rw [make_depth]; omega,by have:=r.un; rw [make_units]; omega⟩
theorem Room.depth {k:Nat} {A:Around} (r:Room k A):A.depth < recursionLimit:=by have:=r.dp; omega
theorem Room.units {k:Nat} {A:Around} (r:Room k A):A.units + 64 < cLine:=by have:=r.un; omega
theorem Room.units0 {k:Nat} {A:Around} (r:Room k A):A.units < cLine:=by have:=r.un; omega
def dI:TA:=fun _ H Q=>Q [] H
def bJ (ta:TE) (tr:TA):TA:=fun σ H Q=>ta σ H fun x H1=>tr σ H1 fun xs H2=>Q (x :: xs) H2
section
variable {X:Cx} {e:Expr} {es:List Expr} {te:TE} {t:TA} {pos:Pos}
theorem af:PA X [] dI:=fun _ _ _ _ H Q I h=>Calls.spliced_nil ⟨[],H,I,.nil,h⟩
theorem aa (ha:PE X e te) (hr:PA X es t) (hs:starEach (e :: es) X.env=(false,eval e X.env) :: starEach es X.env:=by rfl):PA X (e :: es) (bJ te t):=by
 intro pos pins s σ H Q I h
 rw [hs]
 show wpAny _ _ (spliced ((false,eval e X.env) :: backTo pos (starEach es X.env))) _ _ s
 refine Calls.spliced_cons (thn (ha pins s σ H _ I h) fun u s1 ⟨x,H1,I1,r1,q1⟩=>?_)
 exact thn (hr pos pins s1 σ H1 _ I1 q1) fun us s2 ⟨xs,H2,I2,r2,q2⟩=>⟨x :: xs,H2,I2,.cons r1 r2,q2⟩
def tTup (t:TA):TE:=fun σ H Q=>t σ H fun xs H1=>xs.length <= sizeLine/\∀ p,H1 p=none->Q (.ref p) (upd H1 p (.tup xs))
def tLst (t:TA):TE:=fun σ H Q=>t σ H fun xs H1=>xs.length <= sizeLine/\∀ p,H1 p=none->Q (.ref p) (upd H1 p (.lst xs))
theorem bM {x1} (h:PA X es t):PE X (.Tuple es x1 pos) (tTup t):=by
 intro pins s σ H Q I hq
 refine wpAny_Tuple_spliced (thn (h pos pins s σ H _ I hq) fun us s1 ⟨xs,H1,I1,r,z,q⟩=>⟨by rw [<- r.length]; exact z,?_⟩)
 have hf:H1 s1.heap.objs.size=none:=I1.hok.fresh (Nat.le_refl _)
 refine ⟨.ref s1.heap.objs.size,upd H1 s1.heap.objs.size (.tup xs),I1.laid (t':=s1.toks) (fun b u e=>Heap.get?_push_of_some _ e) (Nat.le_refl _) ?_,rfl,q _ hf⟩
 exact ⟨z,us,r,⟨_,Heap.get?_push_size _ rfl,rfl,_,rfl⟩⟩
theorem bb (h:PA X es t):PE X (.List es pos) (tLst t):=by
 intro pins s σ H Q I hq
 refine wpAny_List_spliced (thn (h pos pins s σ H _ I hq) fun us s1 ⟨xs,H1,I1,r,z,q⟩=>⟨by rw [<- r.length]; exact z,?_⟩)
 have hf:H1 s1.heap.objs.size=none:=I1.hok.fresh (Nat.le_refl _)
 refine ⟨.ref s1.heap.objs.size,upd H1 s1.heap.objs.size (.lst xs),I1.laid (t':=s1.toks) (fun b u e=>Heap.get?_push_of_some _ e) (Nat.le_refl _) ?_,rfl,q _ hf⟩
 exact ⟨z,us,0,r,Heap.get?_push_size _ rfl⟩
end
abbrev Sp:=List V->Hp->VK->XK->Prop
abbrev CXT:=List Env->Hp->Shared->XK->Value->Shared->Prop
structure Env0 (P:Program) (w:World) (K:Frag) (mg:Str->Option Value) (base:Heap) (A:Around) (outer:List Env) (s:Shared) (H:Hp):Prop where
 frames:A.frames=some outer
 mod:Mod K mg base
 bs:∀ b o,base.get? b=some o->s.heap.get? b=some o/\H b=none
 bsz:base.objs.size <= s.heap.objs.size
 funs:s.heap.FunFrames base outer
 frf:∀ b ∈ frs outer,H b=none
 hok:HOk P w H s.heap
 bare:AllBare s.gens
def CE (outer:List Env) (P:Program) (w:World) (H:Hp) (s:Shared) (Q:VK) (u:Value) (s':Shared):Prop:=
 ∃ v H',s'.os=s.os/\AllBare s'.gens/\Un (frs outer) [] H H' s.heap s'.heap/\HOk P w H' s'.heap/\RelV v u/\Q v H'
def CR (CX:CXT) (outer:List Env) (P:Program) (w:World) (H:Hp) (s:Shared) (Q:VK) (E:XK) (r:Result) (s':Shared):Prop:=
 match r with
 | .ok (.ret u)=>CE outer P w H s Q u s'
 | .ok _=>False
 | .error e=>CX outer H s E e s'
structure aI (P:Program) (w:World) (K:Frag) (mg:Str->Option Value) (base:Heap) (CX:CXT) (k:Nat) (f:Addr) (fd:FuncData) (ps:List Str) (sp:Sp):Prop where
 len:∀ vs H Q E,sp vs H Q E->vs.length=ps.length
 run:∀ (A:Around) (outer:List Env) (s:Shared) (H:Hp) (args:Args) (us:List Value) (vs:List V) (Q:VK) (E:XK),Room k A->Env0 P w K mg base A outer s H->BindsTo s fd args (ps.zip us)->Vals vs us->sp vs H Q E->
  codeAny (model P w) A (.call (.ref f) args) (CR CX outer P w H s Q E) s
theorem Env0.make {P:Program} {w:World} {K:Frag} {mg:Str->Option Value} {base:Heap} {A:Around} {outer:List Env} {s:Shared} {H:Hp} (e:Env0 P w K mg base A outer s H) (C:Addr) (us:List Value) (kw:List (Str × Value)) :
  Env0 P w K mg base (A.under (.builtin "type.__call__" ⟨.ref C :: us,kw⟩)) outer s H:=⟨by first | exact e.frames | (simpa [Around.under,Code.envs,Code.isFrame,pushEnvs] using e.frames),e.mod,e.bs,e.bsz,e.funs,e.frf,e.hok,e.bare⟩
theorem Env0.in1 {P:Program} {w:World} {K:Frag} {mg:Str->Option Value} {base:Heap} {A:Around} {outer:List Env} {s:Shared} {H:Hp} (e:Env0 P w K mg base A outer s H) :
  Env0 P w K mg base A.in1 outer s H:=⟨e.frames,e.mod,e.bs,e.bsz,e.funs,e.frf,e.hok,e.bare⟩
section
variable {X:Cx} {pins:List (Addr × Obj)} {σ:St} {H:Hp} {s s':Shared}
theorem Inv.env0 (I:Inv X pins σ H s):Env0 X.prog X.w X.K X.mg X.base X.A X.stack s H:=
 ⟨I.ok.frames,I.ok.mod,I.bs,Nat.le_trans I.ok.bsz I.sz,I.stack,I.stkFree,I.hok,I.bare⟩
theorem Inv.after {Q:VK} {u:Value} (I:Inv X pins σ H s) (h:CE X.stack X.prog X.w H s Q u s'):EP X pins σ Q u s':=by
 obtain ⟨v,H',os,bare,un,hok,r,q⟩:=h
 obtain ⟨hh,g,d,t,os'⟩:=s'
 obtain rfl:os'=s.os:=os
 exact ⟨v,H',I.call (h':=hh) (g':=g) (d':=d) (t':=t) (ch:=[]) un hok bare (fun b z=>absurd z (by simp)),r,q⟩
end
def tCall (sp:Sp) (dvs:List V) (E:XK) (t:TA):TE:=fun σ H Q=>t σ H fun vs H1=>sp (vs ++ dvs) H1 Q E
def g9 (C:Addr) (m:Str) (sp:Sp) (dvs:List V) (E:XK) (ta:TE) (t:TA):TE:=fun σ H Q=>ta σ H fun x H1=>∃ a dx fs,x=.ref a/\H1 a=some (.ins C dx fs)/\fs.lookup m=none/\
 t σ H1 fun vs H2=>sp (x :: (vs ++ dvs)) H2 Q E
def tMake (C:Addr) (sp:Sp) (dvs:List V) (E:XK) (t:TA):TE:=fun σ H Q=>t σ H fun vs H1=>∀ x dx,H1 x=none->H1 dx=none->dx ≠ x->
 sp (.ref x :: (vs ++ dvs)) (upd (upd H1 dx (.own x)) x (.ins C dx [])) (fun v H2=>v=.non/\Q (.ref x) H2) E
def Binds (K:Frag) (fd:FuncData) (ps:List Str) (ds:List Value):Prop:=
 ∀ (s:Shared) (us:List Value),K.In s.heap->(us ++ ds).length=ps.length->BindsTo s fd ⟨us,[]⟩ (ps.zip (us ++ ds))
theorem Binds.all {K:Frag} {fd:FuncData} {ps:List Str} (h:∀ us:List Value,us.length=ps.length->bindArgs fd ⟨us,[]⟩=pure (ps.zip us)):Binds K fd ps []:=fun s us _ hl=>by
 rw [List.append_nil] at hl ⊢
 exact .of_eq (h us hl)
def df (CX:CXT) (X:Cx) (E:XK):Prop:=∀ (pins:List (Addr × Obj)) (σ:St) (H:Hp) (s:Shared) (e:Value) (s':Shared),Inv X pins σ H s->CX X.stack H s E e s'->X.xe e s'
section
variable {X:Cx} {CX:CXT} {k:Nat} {f C:Addr} {fd:FuncData} {ps:List Str} {sp:Sp} {dvs:List V} {ds:List Value} {E:XK} {x m:Str} {p pos apos:Pos} {e o:Expr} {es:List Expr} {ta:TE} {t:TA}
theorem run_fn {pins:List (Addr × Obj)} {σ:St} {H:Hp} {s:Shared} {Q:VK} {us:List Value} {vs:List V} (F:aI X.prog X.w X.K X.mg X.base CX k f fd ps sp) (hr:Room k X.A) (hb:Binds X.K fd ps ds) (hd:Vals dvs ds) (hx:df CX X E)
  (I:Inv X pins σ H s) (r:Vals vs us) (h:sp (vs ++ dvs) H Q E):wpAny (model X.prog X.w) X.A (call (.ref f) us) (EP X pins σ Q) X.xe s:=by
 have r2:Vals (vs ++ dvs) (us ++ ds):=r.append hd
 have hl:(us ++ ds).length=ps.length:=by rw [<- r2.length]; exact F.len _ _ _ _ h
 refine wpAny_call (codeAny_mono (F.run X.A X.stack s H ⟨us,[]⟩ (us ++ ds) (vs ++ dvs) Q E hr I.env0 (hb s us I.kIn hl) r2 h) fun r s' hq=>?_)
 cases r with
 | error e=>exact hx pins σ H s e s' I hq
 | ok fl=>
  cases fl with
  | ret u=>exact I.after hq
  | next=>exact False.elim hq
  | brk=>exact False.elim hq
  | cont=>exact False.elim hq
theorem pe_call (F:aI X.prog X.w X.K X.mg X.base CX k f fd ps sp) (hr:Room k X.A) (hg:Gl X x) (hm:X.mg x=some (.ref f)) (hk:keepIn X.K (.ref f)=true) (hb:Binds X.K fd ps ds) (hd:Vals dvs ds) (hx:df CX X E)
  (ha:PA X (e :: es) t) (hdb:(x == ("__debug__" : Str))=false:=by decide) (he:starEach (e :: es) X.env=(false,eval e X.env) :: starEach es X.env:=by rfl) (hpl:(backTo pos (starEach es X.env)).any (·.1)=false:=by rfl) :
  PE X (.Call (.Name x p) (e :: es) [] pos) (tCall sp dvs E t):=by
 intro pins s σ H Q I h
 refine wpAny_Call_Name_kw (iD I hg hm ?_ hdb)
 refine PySem.W.callWith_K (h₀:=X.base) I.ok.mod.kin hk (thn (ha pos pins s σ H _ I h) fun us s1 ⟨vs,H1,I1,r,q⟩=>⟨I1.kIn,?_⟩) he hpl
 exact run_fn F hr hb hd hx I1 r q
theorem pe_meth {pl:Sem Bool} (he:PE X o ta) (c:Cls X.K C) (hm:g6 X.K C m f) (F:aI X.prog X.w X.K X.mg X.base CX k f fd ps sp) (hr:Room k X.A) (hb:Binds X.K fd ps ds) (hd:Vals dvs ds) (hx:df CX X E) (ha:PA X (e :: es) t)
  (hst:starEach (e :: es) X.env=(false,eval e X.env) :: starEach es X.env:=by rfl) (hpl:(backTo pos (starEach es X.env)).any (·.1)=false:=by rfl)
  (ht:eval (.Call (.Attribute o m apos) (e :: es) [] pos) X.env=(do
   let ov <- eval o X.env
   standAt apos.atName
   let (f,first) <- holding [ov] (getMethod ov m pl)
   callWith pos f first (backTo pos (starEach (e :: es) X.env)) (backToKw pos (keywordEach [] X.env))):=by rfl) :
  PE X (.Call (.Attribute o m apos) (e :: es) [] pos) (g9 C m sp dvs E ta t):=by
 intro pins s σ H Q I h
 refine PySem.W.methodCall_KW (pl:=pl) (thn (he pins s σ H _ I h) fun u s1 ⟨x,H1,I1,rx,a,dx,fs,ex,ea,l,q⟩=>?_) ht
 subst ex
 obtain rfl:u=Value.ref a:=rx
 refine gF I1 ea c hm l ?_
 refine PySem.W.callWith_K (first:=[.ref a]) (h₀:=X.base) I.ok.mod.kin hm.kp (thn (ha pos pins s1 σ H1 _ I1 q) fun us s2 ⟨vs,H2,I2,r,q2⟩=>⟨I2.kIn,?_⟩) hst hpl
 exact run_fn (us:=.ref a :: us) (vs:=.ref a :: vs) F hr hb hd hx I2 (.cons rfl r) q2
theorem pe_meth0 {pl:Sem Bool} (he:PE X o ta) (c:Cls X.K C) (hm:g6 X.K C m f) (F:aI X.prog X.w X.K X.mg X.base CX k f fd ps sp) (hr:Room k X.A) (hb:Binds X.K fd ps ds) (hd:Vals dvs ds) (hx:df CX X E)
  (ht:eval (.Call (.Attribute o m apos) [] [] pos) X.env=(do
   let ov <- eval o X.env
   standAt apos.atName
   let (f,first) <- holding [ov] (getMethod ov m pl)
   callWith pos f first (backTo pos (starEach [] X.env)) (backToKw pos (keywordEach [] X.env))):=by rfl) :
  PE X (.Call (.Attribute o m apos) [] [] pos) (g9 C m sp dvs E ta dI):=by
 intro pins s σ H Q I h
 refine PySem.W.methodCall_KW (pl:=pl) (thn (he pins s σ H _ I h) fun u s1 ⟨x,H1,I1,rx,a,dx,fs,ex,ea,l,q⟩=>?_) ht
 subst ex
 obtain rfl:u=Value.ref a:=rx
 refine gF I1 ea c hm l ?_
 exact PySem.W.callWith_K0 (first:=[.ref a]) I1.kIn hm.kp (run_fn (us:=[.ref a]) (vs:=[.ref a]) F hr hb hd hx I1 (.cons rfl .nil) q)
structure Mk (K:Frag) (C f:Addr):Prop where
 makes:makesIn K C=true
 init:findIn K (.ref C) "__init__"=some (some (.ref f))
 fn:isFn K (.ref f)=true
 kp:keepIn K (.ref C)=true
theorem run_make {pins:List (Addr × Obj)} {σ:St} {H:Hp} {s:Shared} {Q:VK} {us:List Value} {vs:List V} (M:Mk X.K C f) (F:aI X.prog X.w X.K X.mg X.base CX k f fd ps sp) (hr:Room (k + 1) X.A) (hb:Binds X.K fd ps ds) (hd:Vals dvs ds)
  (hx:df CX X E) (I:Inv X pins σ H s) (r:Vals vs us)
  (h:∀ x dx,H x=none->H dx=none->dx ≠ x->sp (.ref x :: (vs ++ dvs)) (upd (upd H dx (.own x)) x (.ins C dx [])) (fun v H2=>v=.non/\Q (.ref x) H2) E) :
  wpAny (model X.prog X.w) X.A (call (.ref C) us) (EP X pins σ Q) X.xe s:=by
 have hq:=h (s.heap.objs.size + 1) s.heap.objs.size (I.hok.fresh (Nat.le_succ _)) (I.hok.fresh (Nat.le_refl _)) (Nat.ne_of_lt (Nat.lt_succ_self _))
 have I2:=Inv.made (C:=C) I
 have r2:Vals (V.ref (s.heap.objs.size + 1) :: (vs ++ dvs)) (Value.ref (s.heap.objs.size + 1) :: (us ++ ds)):=.cons rfl (r.append hd)
 have hl:(Value.ref (s.heap.objs.size + 1) :: us ++ ds).length=ps.length:=by
  have e:=r2.length
  rw [F.len _ _ _ _ hq] at e
  exact e.symm
 refine wpAny_call (make_map (f:=f) I.kIn M.makes M.init (beq_iff_eq.mp M.fn) (codeAny_mono (F.run _ X.stack _ _ ⟨Value.ref (s.heap.objs.size + 1) :: us,[]⟩ (Value.ref (s.heap.objs.size + 1) :: (us ++ ds)) _ _ E (hr.make C us [])
  (I2.env0.make C us []) (hb _ (Value.ref (s.heap.objs.size + 1) :: us) I2.kIn hl) r2 hq) fun r s' hq'=>?_))
 cases r with
 | error e=>exact hx pins σ _ _ e s' I2 hq'
 | ok fl=>
  cases fl with
  | ret u=>
   obtain ⟨v,H',I3,rv,ev,q3⟩:=I2.after hq'
   subst ev
   exact ⟨rv,⟨V.ref (s.heap.objs.size + 1),H',I3,rfl,q3⟩⟩
  | next=>exact False.elim hq'
  | brk=>exact False.elim hq'
  | cont=>exact False.elim hq'
theorem pe_make (M:Mk X.K C f) (F:aI X.prog X.w X.K X.mg X.base CX k f fd ps sp) (hr:Room (k + 1) X.A) (hg:Gl X x) (hm:X.mg x=some (.ref C)) (hb:Binds X.K fd ps ds) (hd:Vals dvs ds) (hx:df CX X E)
  (ha:PA X (e :: es) t) (hdb:(x == ("__debug__" : Str))=false:=by decide) (he:starEach (e :: es) X.env=(false,eval e X.env) :: starEach es X.env:=by rfl) (hpl:(backTo pos (starEach es X.env)).any (·.1)=false:=by rfl) :
  PE X (.Call (.Name x p) (e :: es) [] pos) (tMake C sp dvs E t):=by
 intro pins s σ H Q I h
 refine wpAny_Call_Name_kw (iD I hg hm ?_ hdb)
 refine PySem.W.callWith_K (h₀:=X.base) I.ok.mod.kin M.kp (thn (ha pos pins s σ H _ I h) fun us s1 ⟨vs,H1,I1,r,q⟩=>⟨I1.kIn,?_⟩) he hpl
 exact run_make M F hr hb hd hx I1 r q
end
def PK (X:Cx) (kws:List Keyword) (t:TA):Prop:=
 ∀ (pos:Pos) (pins:List (Addr × Obj)) (s:Shared) (σ:St) (H:Hp) (Q:List V->Hp->Prop),Inv X pins σ H s->t σ H Q->wpAny (model X.prog X.w) X.A (evalAll ((backToKw pos (keywordEach kws X.env)).map (·.2))) (AP X pins σ Q) X.xe s
section
variable {X:Cx} {CX:CXT} {k:Nat} {f C:Addr} {fd:FuncData} {ps ks:List Str} {sp:Sp} {E:XK} {x m:Str} {p pos apos kpos:Pos} {e o:Expr} {es:List Expr} {kws:List Keyword} {te ta:TE} {t tk:TA} {nm:Option Str}
theorem pk_nil:PK X [] dI:=fun _ _ _ _ H Q I h=>wpAny_evalAll_nil ⟨[],H,I,.nil,h⟩
theorem pk_cons (ha:PE X e te) (hr:PK X kws t):PK X (⟨nm,e,kpos⟩ :: kws) (bJ te t):=by
 intro pos pins s σ H Q I h
 show wpAny _ _ (evalAll ((do let v <- eval e X.env; standAt pos; pure v) :: (backToKw pos (keywordEach kws X.env)).map (·.2))) _ _ s
 refine wpAny_evalAll_cons (wpAny_bind (thn (ha pins s σ H _ I h) fun u s1 ⟨x,H1,I1,r1,q1⟩=>wpAny_bind (wpAny_standAt (wpAny_pure ?_))))
 exact thn (hr pos pins s1 σ H1 _ I1 q1) fun us s2 ⟨xs,H2,I2,r2,q2⟩=>⟨x :: xs,H2,I2,.cons r1 r2,q2⟩
variable {g:List Value->List Value->List Value} {gV:List V->List V->List V}
end
structure FnScope (N P:List Str) (sc:Scope):Prop where
 kind:sc.kind=.function
 co:sc.isCoroutine=false
 gen:sc.isGenerator=false
 nd:N.Nodup
 pre:N.take P.length=P
 par:∀ x ∈ P,sc.names.lookup x=some .local\/sc.names.lookup x=some .cell
 nofree:∀ y ∈ sc.names,y.2 ≠ .free
theorem kR {kindOf:Str->Option NameKind} {x:Str}:∀ {binds:List (Str × Value)} {m:Str->Option Value},(∀ v,(x,v) ∉ binds)->bindL kindOf binds m x=m x
 | [],_,_=>rfl
 | (n,v) :: r,m,h=>by
  unfold bindL
  rw [kR fun w hw=>h w (List.mem_cons_of_mem _ hw)]
  split
  ·have:x ≠ n:=by rintro rfl; exact h v List.mem_cons_self
   simp [this]
  ·rfl
theorem lJ {kindOf:Str->Option NameKind} {x:Str}:∀ {binds:List (Str × Value)} {m:Str->Option Value},(∀ v,(x,v) ∉ binds)->bindC kindOf binds m x=m x
 | [],_,_=>rfl
 | (n,v) :: r,m,h=>by
  unfold bindC
  rw [lJ fun w hw=>h w (List.mem_cons_of_mem _ hw)]
  split
  ·rfl
  ·have:x ≠ n:=by rintro rfl; exact h v List.mem_cons_self
   simp [this]
theorem lQ {kindOf:Str->Option NameKind} {x:Str} {v:Value}:∀ {P:List Str} {vs:List Value} {i:Nat} {m:Str->Option Value},P.Nodup->P[i]? = some x->vs[i]? = some v->kindOf x=some .local->
  bindL kindOf (P.zip vs) m x=some v
 | [],_,_,_,_,h,_,_=>by simp at h
 | _ :: _,[],_,_,_,_,h,_=>by simp at h
 | p :: P,w :: vs,0,m,nd,h1,h2,hk=>by
  simp at h1 h2; subst h1; subst h2
  show bindL kindOf ((p,w) :: P.zip vs) m p=_
  unfold bindL
  rw [kR fun v hv=>(List.nodup_cons.mp nd).1 (List.of_mem_zip hv).1,if_pos hk]
  simp
 | p :: P,w :: vs,i + 1,m,nd,h1,h2,hk=>by
  show bindL kindOf ((p,w) :: P.zip vs) m x=_
  unfold bindL
  exact lQ (i:=i) (List.nodup_cons.mp nd).2 (by simpa using h1) (by simpa using h2) hk
theorem kZ {kindOf:Str->Option NameKind} {x:Str} {v:Value}:∀ {P:List Str} {vs:List Value} {i:Nat} {m:Str->Option Value},P.Nodup->P[i]? = some x->vs[i]? = some v->kindOf x ≠ some .local->
  bindC kindOf (P.zip vs) m x=some v
 | [],_,_,_,_,h,_,_=>by simp at h
 | _ :: _,[],_,_,_,_,h,_=>by simp at h
 | p :: P,w :: vs,0,m,nd,h1,h2,hk=>by
  simp at h1 h2; subst h1; subst h2
  show bindC kindOf ((p,w) :: P.zip vs) m p=_
  unfold bindC
  rw [lJ fun v hv=>(List.nodup_cons.mp nd).1 (List.of_mem_zip hv).1,if_neg hk]
  simp
 | p :: P,w :: vs,i + 1,m,nd,h1,h2,hk=>by
  show bindC kindOf ((p,w) :: P.zip vs) m x=_
  unfold bindC
  exact kZ (i:=i) (List.nodup_cons.mp nd).2 (by simpa using h1) (by simpa using h2) hk
def gr (N:List Str) (vs:List V):St:=vs.map some ++ List.replicate (N.length - vs.length) none
def dw (CX:CXT) (P:Program) (w:World) (K:Frag) (mg:Str->Option Value) (base:Heap) (N:List Str) (qual:Str) (scope:Scope) (f:Addr) (cd:Value) (A:Around) (outer:List Env) (s:Shared) (H:Hp) (E:XK):Cx where
 prog:=P
 w:=w
 K:=K
 mg:=mg
 base:=base
 A:=A.deeper (envOfC qual scope s.heap.objs.size f cd)
 N:=N
 s₀:=s
 H₀:=H
 env:=envOfC qual scope s.heap.objs.size f cd
 outer:=outer
 stack:=envOfC qual scope s.heap.objs.size f cd :: outer
 ex:=[]
 calm:=true
 fn:=fun _=>true
 pn:=[]
 xe:=fun e s'=>wpAny (model P w) (A.deeper (envOfC qual scope s.heap.objs.size f cd)) (leaving (envOfC qual scope s.heap.objs.size f cd) e) (fun _ s''=>CX outer H s E e s'') (fun e' s''=>CX outer H s E e' s'') s'
theorem cell_has {sc:Scope} {n:Nat} {x:Str} (h:sc.names.lookup x=some .cell):∃ c,(cellsFrom n sc.names []).lookup x=some c:=by
 have q:=PySem.W.cellsFrom_some sc.names n [] (.inl h)
 exact Option.isSome_iff_exists.mp q
theorem inv_start {CX:CXT} {P:Program} {w:World} {K:Frag} {mg:Str->Option Value} {base:Heap} {N ps:List Str} {qual:Str} {scope:Scope} {f:Addr} {cd:Value} {A:Around} {outer:List Env} {s s1:Shared} {H:Hp} {E:XK} {us:List Value} {vs:List V}
  (S:FnScope N ps scope) (hd:A.handled=none) (e0:Env0 P w K mg base A outer s H) (hl:vs.length=ps.length) (r:Vals vs us)
  (x:InCallC s s.heap.objs.size (bindL (envOfC qual scope s.heap.objs.size f cd).kindOf (ps.zip us) fun _=>none) (cellsFrom (s.heap.objs.size + 1) scope.names []) (bindC (envOfC qual scope s.heap.objs.size f cd).kindOf (ps.zip us) fun _=>none) s1) :
  Inv (dw CX P w K mg base N qual scope f cd A outer s H E) [] (gr N vs) H s1:=by
 have hpl:ps.length <= N.length:=by have:=congrArg List.length S.pre; rw [List.length_take] at this; omega
 obtain ⟨h1,tk,rfl,hk⟩:=x.done
 have noA:∀ b:Addr,b ∉ (dw CX P w K mg base N qual scope f cd A outer s H E).ex:=fun b z=>absurd (show b ∈ ([]:List Addr) from z) (by simp)
 refine ⟨⟨e0.mod,S.kind,rfl,rfl,Nat.le_refl _,fun y z c h1 h2=>?_,fun y hy=>?_,fun y c _ h=>?_,fun _=>hd,Around.frames_deeper e0.frames,.inr ⟨rfl,rfl⟩,fun b z=>absurd z (noA b),e0.bs,e0.bsz,fun b _ _=>noA b,fun b z=>absurd z (noA b),e0.funs,e0.frf⟩,
  rfl,e0.bare,Un.kept hk,⟨_,x.toInCall.ns,fun i y v h1 h2 h3=>?_⟩,fun y c h=>⟨_,x.cell y c h⟩,e0.hok.fresh (Nat.le_refl _),fun y c h=>?_,fun p hp=>absurd (show p ∈ ([]:List (Addr × Obj)) from hp) (by simp),e0.hok.kept hk,?_⟩
 ·exact name_of_addr x.apart (PySem.mem_of_lookup h1) (PySem.mem_of_lookup h2)
 ·have hy:scope.names.lookup y=some .cell\/scope.names.lookup y=some .free:=hy
  rcases hy with hy | hy
  ·exact cell_has hy
  ·exact absurd rfl (S.nofree _ (PySem.mem_of_lookup hy))
 ·exact Nat.le_of_lt (x.above y c (PySem.mem_of_lookup h))
 ·have hi:i < vs.length:=by
   unfold gr at h2
   by_cases hi:i < vs.length
   ·exact hi
   ·rw [List.getElem?_append_right (by simpa using hi)] at h2
    rw [List.getElem?_replicate] at h2
    split at h2<;>cases h2
  have ha:vs[i]? = some v:=by
   unfold gr at h2
   rw [List.getElem?_append_left (by simpa using hi),List.getElem?_map] at h2
   cases e:vs[i]? with
   | none=>rw [e] at h2; cases h2
   | some a=>rw [e] at h2; cases h2; rfl
  obtain ⟨u,hu,rv⟩:=r.get ha
  have hp:ps[i]? = some y:=by
   rw [<- S.pre,List.getElem?_take_of_lt (by omega)]; exact h1
  have ndP:ps.Nodup:=by rw [<- S.pre]; exact S.nd.sublist (List.take_sublist _ _)
  refine ⟨u,rv,?_⟩
  rcases S.par y (List.mem_of_getElem? hp) with k | k
  ·exact .inl ⟨k,lQ ndP hp hu k⟩
  ·obtain ⟨c,e⟩:=cell_has (n:=s.heap.objs.size + 1) k
   refine .inr ⟨.inl k,c,e,?_⟩
   have q:=x.cell y c e
   rw [kZ ndP hp hu (by show scope.names.lookup y ≠ _; rw [k]; decide)] at q
   exact q
 ·exact e0.hok.fresh (Nat.le_of_lt (x.above y c (PySem.mem_of_lookup h)))
 ·unfold gr
  show _=N.length
  rw [List.length_append,List.length_map,List.length_replicate]
  omega
theorem fn_of {CX:CXT} {P:Program} {w:World} {K:Frag} {mg:Str->Option Value} {base:Heap} {k:Nat} {f:Addr} {name qual:Str} {params:Arguments} {body:List Stmt} {scope:Scope} {dV kV doc pm cdv ct oc:Value} {an od:Option Addr}
  {osl:Array (Option Value)} {N ps:List Str} {sp:Sp} (lk:K.lookup f=some ⟨oc,od,.func (fnOf name qual params body scope dV kV doc pm an cdv ct),osl⟩) (hcd:codeIn K cdv qual=true) (S:FnScope N ps scope)
  (len:∀ vs H Q E,sp vs H Q E->vs.length=ps.length)
  (hbody:∀ (A:Around) (outer:List Env) (s:Shared) (H:Hp) (vs:List V) (Q:VK) (E:XK),Room k (A.deeper (envOfC qual scope s.heap.objs.size f cdv))->sp vs H Q E->
   ∃ t,PSs (dw CX P w K mg base N qual scope f cdv A outer s H E) body t/\t { nx:=fun _ H'=>Q .non H',rt:=Q } (gr N vs) H) :
  aI P w K mg base CX (k + 1) f (fnOf name qual params body scope dV kV doc pm an cdv ct) ps sp:=by
 refine ⟨len,fun A outer s H args us vs Q E hr e0 hb r hsp=>?_⟩
 have hl:=len _ _ _ _ hsp
 have KX:K.In s.heap:=e0.mod.kin.keeps fun b o e=>(e0.bs b o e).1
 have lim:s.heap.NoLimit:=e0.mod.nolimit.keeps fun b o e=>(e0.bs b o e).1
 have hkind:∀ y ∈ ps.zip us,scope.names.lookup y.1=some .local\/(scope.names.lookup y.1=some .cell/\((cellsFrom (s.heap.objs.size + 1) scope.names []).lookup y.1).isSome=true):=fun ⟨n,v⟩ hy=>by
  rcases S.par n (List.of_mem_zip hy).1 with q | q
  ·exact .inl q
  ·exact .inr ⟨q,PySem.W.cellsFrom_some _ _ _ (.inl q)⟩
 refine codeAny_call_function hr.depth (KX _ _ lk) rfl S.co S.gen rfl (PySem.W.codeRec_of KX hcd) (hb _ _ _ _ ?_)
 refine wpAny_newFunctionEnv_cells S.kind hkind fun env he s1 x=>?_
 subst he
 refine ⟨lim.keeps x.toInCall.keep,codeAny_func ?_⟩
 obtain ⟨t,ht,hq⟩:=hbody A outer s H vs Q E (hr.deeper _) hsp
 have I:Inv (dw CX P w K mg base N qual scope f cdv A outer s H E) [] (gr N vs) H s1:=inv_start S hr.hd e0 hl r x
 refine wpAny_mono (ht [] s1 (gr N vs) H _ I hq) (fun fl s' hs=>?_) fun e s' hs=>hs
 have fin:∀ {σ':St} {H':Hp} {v:V} {u:Value},Inv (dw CX P w K mg base N qual scope f cdv A outer s H E) [] σ' H' s'->RelV v u->Q v H'->CE outer P w H s Q u s':=
  fun {σ' H' v u} J rv q=>⟨v,H',J.os,J.bare,J.base,J.hok,rv,q⟩
 cases fl with
 | ret u=>
  obtain ⟨v,σ',H',J,rv,q⟩:=hs
  exact fin J rv q
 | next=>
  obtain ⟨σ',H',J,q⟩:=hs
  exact fin (v:=V.non) (u:=Value.none) J rfl q
 | brk=>
  obtain ⟨_,_,_,q⟩:=hs
  exact False.elim q
 | cont=>
  obtain ⟨_,_,_,q⟩:=hs
  exact False.elim q
end L2
namespace L2
open PySem PySem.Spec PyProof.Rows
section
variable {X:Cx} {x:Str} {p pos:Pos} {e:Expr} {es:List Expr} {t:TA} {id T:String} {r:List V->Hp->VK->Prop}
def tCB (r:List V->Hp->VK->Prop) (t:TA):TE:=fun σ H Q=>t σ H fun vs H1=>r vs H1 Q
theorem cb (hc:cY X (.builtin id) r) (hg:Gl X x) (hm:X.mg x=none) (hv:bootBuiltins x=some (.builtin id)) (ha:PA X (e :: es) t) (hn:x ≠ "__name__":=by decide) (hdb:(x == ("__debug__" : Str))=false:=by decide)
  (he:starEach (e :: es) X.env=(false,eval e X.env) :: starEach es X.env:=by rfl) (hpl:(backTo pos (starEach es X.env)).any (·.1)=false:=by rfl):PE X (.Call (.Name x p) (e :: es) [] pos) (tCB r t):=by
 intro pins s σ H Q I h
 refine wpAny_Call_Name_kw (fM I hg hm hv ?_ hn hdb)
 exact PyProof.Rows.callWith_builtin1 (thn (ha pos pins s σ H _ I h) fun us s1 ⟨vs,H1,I1,r1,q1⟩=>hc pins s1 σ H1 vs us Q I1 r1 q1) he hpl
theorem eE (hc:cY X (.type T) r) (hg:Gl X x) (hm:X.mg x=none) (hv:bootBuiltins x=some (.type T)) (ha:PA X (e :: es) t) (hn:x ≠ "__name__":=by decide) (hdb:(x == ("__debug__" : Str))=false:=by decide)
  (he:starEach (e :: es) X.env=(false,eval e X.env) :: starEach es X.env:=by rfl) (hpl:(backTo pos (starEach es X.env)).any (·.1)=false:=by rfl):PE X (.Call (.Name x p) (e :: es) [] pos) (tCB r t):=by
 intro pins s σ H Q I h
 refine wpAny_Call_Name_kw (fM I hg hm hv ?_ hn hdb)
 exact PyProof.Rows.callWith_type1 (thn (ha pos pins s σ H _ I h) fun us s1 ⟨vs,H1,I1,r1,q1⟩=>hc pins s1 σ H1 vs us Q I1 r1 q1) he hpl
end
end L2
namespace HT
open PySem PyProof.Rows
def lexLt:List Int->List Int->Bool
 | [],[]=>false
 | [],_ :: _=>true
 | _ :: _,[]=>false
 | x :: xs,y :: ys=>if x=y then lexLt xs ys else decide (x < y)
theorem lexLt_cons (x y:Int) (xs ys:List Int):lexLt (x :: xs) (y :: ys)=if x=y then lexLt xs ys else decide (x < y):=rfl
theorem kO:lexLt [] []=false:=rfl
theorem j9 (y:Int) (ys:List Int):lexLt [] (y :: ys)=true:=rfl
theorem jJ (x:Int) (xs:List Int):lexLt (x :: xs) []=false:=rfl
theorem eqAt_int (A:Around) (s:Shared) (a:Int) (t:Tok) (c:Int) (u:Tok):∃ e,SeqAt.EqAt A s (.int a t) (.int c u) e/\(e=true↔a=c):=
 ⟨(a == c),SeqAt.EqAt.int_int a t c u,by simp⟩
theorem rcLt_int (A:Around) (s:Shared) (a:Int) (t:Tok) (c:Int) (u:Tok) (prog:Program) (w:World) (E:Value->Shared->Prop) (Q:Value->Shared->Prop) (h:Q (.bool (decide (a < c))) s) :
  wpAny (model prog w) A (richCompare .Lt (.int a t) (.int c u)) Q E s:=
 (PyProof.Rows.lt_int h:wpAny (model prog w) A (compareOp .Lt (.int a t) (.int c u)) Q E s)
section
open PySem.SeqAt
open PySem.AutoSeq1 (wpAny_loadPart')
open PySem.MeetsSeq PySem.MeetsSeq2 PySem.MeetsSeq3
theorem kL (l b:Addr) (items items2:Array Value) (n n2:Nat) (dd dd2:Option Addr) (sl sl2:Array (Option Value)) (ns ms:List Int) (hi:IntsAre items.toList ns) (hj:IntsAre items2.toList ms) :
  Meets (Builtin.«tuple.__lt__» ⟨[.ref l,.ref b],[]⟩)
   (fun _ R s=>s.heap.get? l=some { cls:=.type "tuple",dict:=dd,data:=.seq items n,slots:=sl }/\s.heap.get? b=some { cls:=.type "tuple",dict:=dd2,data:=.seq items2 n2,slots:=sl2 }/\
    R (.ok (.ret (.bool (lexLt ns ms)))) s):=
 .of_wp fun prog w A R s h=>by
  obtain ⟨hp,g,d,tk,os⟩:=s; obtain ⟨hl,hb,h⟩:=h
  have f2:=AutoSeq1.sub_tuple_tuple
  have z1:items.size=ns.length:=by rw [<- hi.length]; simp
  have z2:items2.size=ms.length:=by rw [<- hj.length]; simp
  wp_walk using wpAny_loadPart' hl,wpAny_loadPart' hb,wpAny_forIn_list _ (fun rest b s'=>b.1=none/\s'=⟨hp,g,d,tk,os⟩/\∃ (vs ws:List Value) (ns' ms':List Int),rest=vs.zip ws/\
   IntsAre vs ns'/\IntsAre ws ms'/\ns'.length + items2.size=ms'.length + items.size/\R (.ok (.ret (.bool (lexLt ns' ms')))) ⟨hp,g,d,tk,os⟩) _
  case turn=>
   rintro ⟨y,x⟩ rest b s' ⟨hb',rfl,vs,ws,ns',ms',hz,hvi,hwi,hlen,hR⟩
   cases hvi with
   | nil=>rw [List.zip_nil_left] at hz; cases hz
   | cons a t hvi'=>
    cases hwi with
    | nil=>rw [List.zip_nil_right] at hz; cases hz
    | cons c u hwi'=>
     rw [List.zip_cons_cons] at hz
     injection hz with hyx hrest
     injection hyx with hy hx
     subst hy hx
     rw [lexLt_cons] at hR
     simp only [List.length_cons] at hlen
     obtain ⟨e,he,hiff⟩:=eqAt_int A.in1 ⟨hp,g,d,tk,os⟩ a t c u
     refine wpAny_bind (he prog w _ _ ?_)
     cases e with
     | true=>
      rw [if_pos (hiff.mp rfl)] at hR
      wp_walk
      exact ⟨rfl,rfl,_,_,_,_,hrest,hvi',hwi',by omega,hR⟩
     | false=>
      rw [if_neg (fun q=>absurd (hiff.mpr q) Bool.false_ne_true)] at hR
      have hri:=rcLt_int A.in1 ⟨hp,g,d,tk,os⟩ a t c u prog w
      wp_walk using hri
      exact ⟨_,rfl,by simpa using hR⟩
  case fin=>
   rintro ⟨b1,b2⟩ s' ⟨hb',rfl,vs,ws,ns',ms',hz,hvi,hwi,hlen,hR⟩
   simp only at hb'
   subst hb'
   have hv:lexLt ns' ms'=decide (items.size < items2.size):=by
    cases hvi with
    | nil=>
     cases hwi with
     | nil=>
      simp only [List.length_nil] at hlen
      rw [kO]
      exact (decide_eq_false (by omega)).symm
     | cons c u hw=>
      simp only [List.length_nil,List.length_cons] at hlen
      rw [j9]
      exact (decide_eq_true (by omega)).symm
    | cons a t hv=>
     cases hwi with
     | nil=>
      simp only [List.length_nil,List.length_cons] at hlen
      rw [jJ]
      exact (decide_eq_false (by omega)).symm
     | cons c u hw=>
      rw [List.zip_cons_cons] at hz
      cases hz
   rw [hv] at hR
   wp_walk
   exact ⟨_,rfl,by simpa [Builtin.Tuple.tupleCompareSizes] using hR⟩
  case h=>
   exact ⟨rfl,rfl,items.toList,items2.toList,ns,ms,rfl,hi,hj,by omega,h⟩
end
section
variable {prog:Program} {w:World} {A:Around} {E:Value->Shared->Prop} {s:Shared}
theorem lt_tupInts {l b:Addr} {items items2:Array Value} {ns ms:List Int} {Q:Value->Shared->Prop} (hl:IsTup s.heap l items) (hb:IsTup s.heap b items2) (hi:IntsAre items.toList ns) (hj:IntsAre items2.toList ms)
  (hu:A.units < cLine) (h:Q (.bool (lexLt ns ms)) s):wpAny (model prog w) A (compareOp .Lt (.ref l) (.ref b)) Q E s:=by
 obtain ⟨⟨cls,dd,data,sl⟩,ho,hc,n,hd⟩:=id hl
 obtain ⟨⟨cls2,dd2,data2,sl2⟩,ho2,hc2,n2,hd2⟩:=id hb
 simp only at hc hd hc2 hd2
 subst hc hd hc2 hd2
 exact richCompare_meets_room (op:=.Lt) ⟨_,ho,rfl⟩ ⟨_,ho2,rfl⟩ PySem.F.slot_tuple_lt PySem.F.entry_tuple_lt (PySem.F.args_tuple_lt_2 _ _) (kL l b items items2 n n2 dd dd2 sl sl2 ns ms hi hj)
  ⟨ho,ho2,show Value.bool (lexLt ns ms) ≠ Value.notImplemented/\Q (.bool (lexLt ns ms)) s from ⟨(fun x=>nomatch x),h⟩⟩ hu
def sIx (n d:Nat):Option Int->Nat
 | none=>d
 | some v=>if v < 0 then (v + (n:Int)).toNat else min v.toNat n
theorem sIx_none (n d:Nat):sIx n d none=d:=rfl
theorem sIx_nat (n d k:Nat):sIx n d (some (k:Int))=min k n:=by
 show (if (k:Int) < 0 then ((k:Int) + (n:Int)).toNat else min (k:Int).toNat n)=min k n
 rw [if_neg (by omega),Int.toNat_natCast]
end
end HT
namespace L2
open PySem PySem.Spec PyProof.Rows
abbrev TO:=St->Hp->(Option Int->Hp->Prop)->Prop
def PO (X:Cx) (e:Option Expr) (t:TO):Prop:=
 ∀ (pins:List (Addr × Obj)) (s:Shared) (σ:St) (H:Hp) (Q:Option Int->Hp->Prop),Inv X pins σ H s->t σ H Q->
  wpAny (model X.prog X.w) X.A (evalPart e X.env) (fun u s'=>∃ o H',Inv X pins σ H' s'/\IsPart u o/\Q o H') X.xe s
def ia:TO:=fun _ H Q=>Q none H
def tPart (t:TE):TO:=fun σ H Q=>t σ H fun x H1=>∃ i,x=.int i/\Q (some i) H1
theorem gD {ns:List Int}:∀ {us:List Value},Vals (ns.map V.int) us->IntsAre us ns:=by
 induction ns with
 | nil=>intro us r; rw [List.map_nil] at r; cases r; exact .nil
 | cons n ns ih=>
  intro us r
  rw [List.map_cons] at r
  cases r with
  | cons r1 r2=>
   obtain ⟨t,e⟩:=r1
   subst e
   exact .cons n t (ih r2)
section
variable {X:Cx} {e:Expr} {te:TE} {lo hi:Option Expr} {tl th:TO} {pos p2:Pos}
theorem cC:PO X none ia:=by
 intro pins s σ H Q I h
 rw [evalPart_none]
 exact wpAny_pure ⟨none,H,I,.none,h⟩
theorem l6 (h:PE X e te):PO X (some e) (tPart te):=by
 intro pins s σ H Q I hw
 rw [evalPart_some]
 refine thn (h pins s σ H _ I hw) fun u s1 ⟨x,H1,I1,r1,q1⟩=>?_
 obtain ⟨i,rfl,q⟩:=q1
 obtain ⟨t,rfl⟩:=r1
 exact ⟨some i,H1,I1,.int i t,q⟩
def SlR (X:Cx) (r:V->Option Int->Option Int->Hp->VK->Prop):Prop:=
 ∀ (pins:List (Addr × Obj)) (s:Shared) (σ:St) (H:Hp) (x:V) (v vl vu:Value) (lo hi:Option Int) (sl:Addr) (Q:VK),Inv X pins σ H s->RelV x v->s.heap.IsSliceOf sl vl vu .none->IsPart vl lo->IsPart vu hi->r x lo hi H Q->
  ∃ T id,typeLookup (.type T) "__getitem__" = pure (some (.builtin id))/\s.TypeIs v T/\wpAny (model X.prog X.w) X.A (getItem v (.ref sl)) (EP X pins σ Q) X.xe s
def tSl (r:V->Option Int->Option Int->Hp->VK->Prop) (te:TE) (tl th:TO):TE:=fun σ H Q=>te σ H fun x H1=>tl σ H1 fun l H2=>th σ H2 fun u H3=>r x l u H3 Q
theorem jE {r:V->Option Int->Option Int->Hp->VK->Prop} (hr:SlR X r) (he:PE X e te) (hl:PO X lo tl) (hu:PO X hi th):PE X (.Subscript e (.Slice lo hi none p2) pos) (tSl r te tl th):=by
 intro pins s σ H Q I h
 refine Subscript_ (thn (he pins s σ H _ I h) fun v s1 ⟨x,H1,I1,r1,q1⟩=>?_)
 refine wpAny_Slice (thn (hl pins s1 σ H1 _ I1 q1) fun vl s2 ⟨l,H2,I2,pl,q2⟩=>thn (hu pins s2 σ H2 _ I2 q2) fun vu s3 ⟨u,H3,I3,pu,q3⟩=>?_)
 rw [evalPart_none]
 refine wpAny_pure ?_
 have I4:Inv X pins σ H3 { s3 with heap:=s3.heap.push { cls:=.type "slice",data:=.fields #[vl,vu,.none] } }:=I3.kept (t':=s3.toks) fun b ob q=>Heap.get?_push_of_some _ q
 obtain ⟨T,id,hT,ht,hg⟩:=hr pins { s3 with heap:=s3.heap.push { cls:=.type "slice",data:=.fields #[vl,vu,.none] } } σ H3 x v vl vu l u s3.heap.objs.size Q I4 r1 (Heap.IsSliceOf.new ..) pl pu q3
 show wpAny (model X.prog X.w) X.A (subscriptTail e (.Slice lo hi none p2) v (.ref s3.heap.objs.size)) (EP X pins σ Q) X.xe { s3 with heap:=s3.heap.push { cls:=.type "slice",data:=.fields #[vl,vu,.none] } }
 exact tail_any (ops:=[.ref s3.heap.objs.size,v]) ht hT hg (by with_unfolding_all rfl)
def hU (xs:List V) (lo hi:Option Int):List V:=(xs.drop (HT.sIx xs.length 0 lo)).take (HT.sIx xs.length xs.length hi - HT.sIx xs.length 0 lo)
theorem cutV_length (xs:List V) (lo hi:Option Int):(hU xs lo hi).length <= xs.length:=by
 unfold hU
 rw [List.length_take,List.length_drop]
 omega
end
end L2
namespace L2
open PySem PySem.Spec PyProof.Rows
def ixN (n:Nat) (i:Int):Option Nat:=if 0 <= i then (if i < n then some i.toNat else none) else if -(n:Int) <= i then some (i + n).toNat else none
def atI {α:Type} (xs:List α) (i:Int):Option α:=(ixN xs.length i).bind fun j=>xs[j]?
theorem ixN_seq {n:Nat} {i:Int} {j:Nat} (h:ixN n i=some j):seqIndex? i n=some j/\j < n/\-(n:Int) <= i/\i < n:=by
 unfold ixN at h
 by_cases h0:0 <= i
 ·rw [if_pos h0] at h
  by_cases h1:i < n
  ·rw [if_pos h1] at h
   have e:i.toNat=j:=Option.some.inj h
   exact ⟨by rw [seqIndex_of h0 h1,e],by omega,by omega,h1⟩
  ·rw [if_neg h1] at h; cases h
 ·rw [if_neg h0] at h
  by_cases h1:-(n:Int) <= i
  ·rw [if_pos h1] at h
   have e:(i + n).toNat=j:=Option.some.inj h
   exact ⟨by rw [seqIndex_neg (by omega) h1,e],by omega,h1,by omega⟩
  ·rw [if_neg h1] at h; cases h
theorem atI_get {α:Type} {xs:List α} {i:Int} {v:α} (h:atI xs i=some v):∃ j,seqIndex? i xs.length=some j/\xs[j]? = some v/\j < xs.length/\-(xs.length:Int) <= i/\i < xs.length:=by
 unfold atI at h
 cases e:ixN xs.length i with
 | none=>rw [e] at h; cases h
 | some j=>
  rw [e] at h
  obtain ⟨h1,h2,h3,h4⟩:=ixN_seq e
  exact ⟨j,h1,h,h2,h3,h4⟩
theorem bN {α:Type} {xs:List α} {j:Nat} {v:α} (h:xs[j]? = some v):atI xs (j:Int)=some v:=by
 have hj:j < xs.length:=(List.getElem?_eq_some_iff.mp h).1
 have e:ixN xs.length (j:Int)=some j:=by
  unfold ixN
  rw [if_pos (by omega),if_pos (by omega)]; simp
 unfold atI; rw [e]; exact h
def PlainIx (b:Expr):Prop:=∀ o i,subscripted b false o i=operate [o,i] (getItem o i)
def IxR (X:Cx) (r:R2):Prop:=
 ∀ (value slice:Expr) (pins:List (Addr × Obj)) (s:Shared) (σ:St) (H:Hp) (x y:V) (v u:Value) (Q:VK),Inv X pins σ H s->RelV x v->RelV y u->r x y H Q->
  subscripted slice false v u=operate [v,u] (getItem v u)->wpAny (model X.prog X.w) X.A (subscriptTail value slice v u) (EP X pins σ Q) X.xe s
def MtR (X:Cx) (id:String) (r:V->List V->Hp->VK->Prop):Prop:=
 ∀ (pins:List (Addr × Obj)) (s:Shared) (σ:St) (H:Hp) (x:V) (xs:List V) (v:Value) (us:List Value) (Q:VK),Inv X pins σ H s->RelV x v->Vals xs us->r x xs H Q->
  wpAny (model X.prog X.w) X.A (call (.builtin id) (v :: us)) (EP X pins σ Q) X.xe s
section
variable {X:Cx} {a b:Expr} {ta tb:TE} {pos:Pos}
theorem aE {r:R2} (hr:IxR X r) (ha:PE X a ta) (hb:PE X b tb) (hs:PlainIx b):PE X (.Subscript a b pos) (tOp r ta tb):=by
 intro pins s σ H Q I h
 exact Subscript_ (binT ha hb I h fun v u s2 x y H2 I2 rx ry q=>hr a b pins s2 σ H2 x y v u Q I2 rx ry q (hs _ _))
def rIxL (K:Frag):R2:=fun x y H Q=>∃ p xs i v,x=.ref p/\y=.int i/\SqL K H p xs/\atI xs i=some v/\Q v H
def rIxT (K:Frag):R2:=fun x y H Q=>∃ p xs i v,x=.ref p/\y=.int i/\SqT K H p xs/\atI xs i=some v/\Q v H
theorem ix_list:IxR X (rIxL X.K):=by
 intro value slice pins s σ H x y v u Q I rx ry h hs
 obtain ⟨p,xs,i,z,rfl,rfl,hq,he,q⟩:=h
 cases rx
 obtain ⟨t,rfl⟩:=ry
 obtain ⟨its,r,pl,hz⟩:=I.list hq
 obtain ⟨j,h1,h2,h3,h4,h5⟩:=atI_get he
 obtain ⟨w,ew,rw'⟩:=r.get h2
 have hl:=r.length
 have hn:=mJ
 have fin:EP X pins σ Q w s:=⟨z,H,I,rw',q⟩
 by_cases h0:0 <= i
 ·have hj:i.toNat=j:=by
   rw [seqIndex_of h0 h5] at h1
   exact Option.some.inj h1
  exact item_listR pl.isList h0 (by omega) (by rw [hj]; simpa using ew) fin hs
 ·have hj:(i + (its.toArray.size:Int)).toNat=j:=by
   rw [seqIndex_neg (by omega) h4] at h1
   rw [List.size_toArray,<- hl]
   exact Option.some.inj h1
  exact subscriptTail_builtinR (x:=w) pl.isList.typeIs slot_list_getitem.lookup
   (wpAny_getItem_list_neg (Q:=fun r s'=>r=w/\EP X pins σ Q r s') pl.isList (by omega) (by rw [List.size_toArray]<;>omega) (by omega) (by rw [hj]; simpa using ew) ⟨rfl,fin⟩) hs
theorem ix_tup:IxR X (rIxT X.K):=by
 intro value slice pins s σ H x y v u Q I rx ry h hs
 obtain ⟨p,xs,i,z,rfl,rfl,hq,he,q⟩:=h
 cases rx
 obtain ⟨t,rfl⟩:=ry
 obtain ⟨its,r,pl,hz⟩:=I.tuple hq
 obtain ⟨j,h1,h2,h3,h4,h5⟩:=atI_get he
 obtain ⟨w,ew,rw'⟩:=r.get h2
 have hl:=r.length
 have hn:=mJ
 have fin:EP X pins σ Q w s:=⟨z,H,I,rw',q⟩
 exact subscriptTail_builtinR (x:=w) pl.typeIs slot_tuple_getitem.lookup
  (getItem_tuple (j:=j) (Q:=fun r s'=>r=w/\EP X pins σ Q r s') pl (by omega) (by omega) (by rw [List.size_toArray,<- hl]; exact h1) (by simpa using ew) ⟨rfl,fin⟩) hs
theorem mapSeq_set (its:List Value) (n j:Nat) (u:Value):Obj.mapSeq (·.setIfInBounds j u) { cls:=.type "list",data:=.seq its.toArray n }={ cls:=.type "list",data:=.seq (its.set j u).toArray n }:=by
 simp [Obj.mapSeq]
theorem Inv.lst {pins:List (Addr × Obj)} {σ:St} {H:Hp} {s:Shared} {p:Addr} {xs:List V} (I:Inv X pins σ H s) (h:H p=some (.lst xs)) :
  ∃ (its:List Value) (n:Nat),Vals xs its/\s.heap.get? p=some { cls:=.type "list",data:=.seq its.toArray n }/\xs.length <= sizeLine:=by
 obtain ⟨z,its,n,r,e⟩:=I.hok p _ h
 exact ⟨its,n,r,e,z⟩
theorem Inv.lstUpd {pins:List (Addr × Obj)} {σ:St} {H:Hp} {s:Shared} {p:Addr} {xs ys:List V} {its its':List Value} {n n':Nat} {f:Obj->Obj} (I:Inv X pins σ H s) (h:H p=some (.lst xs))
  (ho:s.heap.get? p=some { cls:=.type "list",data:=.seq its.toArray n }) (hf:f { cls:=.type "list",data:=.seq its.toArray n }={ cls:=.type "list",data:=.seq its'.toArray n' }) (r:Vals ys its') (hz:ys.length <= sizeLine) (t:Nat) :
  Inv X pins σ (upd H p (.lst ys)) { s with heap:=s.heap.update p f,toks:=t }:=by
 have e:(s.heap.update p f).get? p=some { cls:=.type "list",data:=.seq its'.toArray n' }:=by
  rw [Heap.get?_update_self f ho (by rw [hf]<;>rfl),hf]
 refine I.write (x:=p) (e:=p) (by rw [h]; trivial) (.inl rfl) (fun b u hb q=>(Heap.get?_update_other _ _ (Ne.symm hb)).trans q) ⟨_,e⟩ ?_
 exact ⟨hz,its',n',r,e⟩
def rSetL:V->V->V->Hp->(Hp->Prop)->Prop:=fun o i v H Q=>∃ p xs k j,o=.ref p/\i=.int k/\H p=some (.lst xs)/\ixN xs.length k=some j/\Q (upd H p (.lst (xs.set j v)))
theorem iB:PSet X rSetL:=by
 intro pins s σ H o i v ov iv u Q I ro ri rv h
 obtain ⟨p,xs,k,j,rfl,rfl,hp,hj,q⟩:=h
 cases ro
 obtain ⟨t,rfl⟩:=ri
 obtain ⟨its,n,r,ho,hz⟩:=I.lst hp
 obtain ⟨h1,h2,h3,h4⟩:=ixN_seq hj
 have hl:=r.length
 have hn:=mJ
 have I':Inv X pins σ (upd H p (.lst (xs.set j v))) { s with heap:=s.heap.update p (Obj.mapSeq (·.setIfInBounds j u)) }:=
  I.lstUpd hp ho (mapSeq_set its n j u) (r.set rv j) (by rw [List.length_set]; exact hz) s.toks
 by_cases h0:0 <= k
 ·have hk:k.toNat=j:=by
   rw [seqIndex_of h0 h4] at h1
   exact Option.some.inj h1
  exact PySem.W.ki_setAt ho h0 (by omega) (by rw [List.size_toArray,<- hl]; exact h4) (by rw [hk]; exact ⟨_,I',q⟩)
 ·have hk:(k + (its.toArray.size:Int)).toNat=j:=by
   rw [seqIndex_neg (by omega) h3] at h1
   rw [List.size_toArray,<- hl]
   exact Option.some.inj h1
  exact PySem.W.ki_setBack ho (by omega) (by rw [List.size_toArray,<- hl]; exact h3) (by omega) (by rw [hk]; exact ⟨_,I',q⟩)
theorem mI (lo hi:Option Int) (n:Nat):(sliceBounds lo hi none n).1=((HT.sIx n 0 lo:Nat):Int)/\(sliceBounds lo hi none n).2.1=((HT.sIx n n hi:Nat):Int)/\(sliceBounds lo hi none n).2.2=1:=by
 refine ⟨?_,?_,rfl⟩
 ·cases lo with
  | none=>simp [sliceBounds,HT.sIx]
  | some i=>
   simp only [sliceBounds,HT.sIx,Option.getD_none,show (1:Int) > 0 by decide,if_true]
   by_cases h:i < 0
   ·simp only [h,if_true]<;>omega
   ·simp only [h,if_false]<;>omega
 ·cases hi with
  | none=>simp [sliceBounds,HT.sIx]
  | some i=>
   simp only [sliceBounds,HT.sIx,Option.getD_none,show (1:Int) > 0 by decide,if_true]
   by_cases h:i < 0
   ·simp only [h,if_true]<;>omega
   ·simp only [h,if_false]<;>omega
theorem kG (its:List Value) (lo hi:Option Int):slicePick its.toArray lo hi none=((its.drop (HT.sIx its.length 0 lo)).take (HT.sIx its.length its.length hi - HT.sIx its.length 0 lo)).toArray:=by
 obtain ⟨h1,h2,h3⟩:=mI lo hi its.toArray.size
 unfold slicePick
 rw [h1,h2,h3]
 simp only [sliceRange_one,pick_run,List.size_toArray]<;>rfl
def rSlL (K:Frag):V->Option Int->Option Int->Hp->VK->Prop:=fun x lo hi H Q=>∃ a xs,x=.ref a/\SqL K H a xs/\∀ p,H p=none->Q (.ref p) (upd H p (.lst (hU xs lo hi)))
theorem sl_list:SlR X (rSlL X.K):=by
 intro pins s σ H x v vl vu lo hi sl Q I rx hs pl pu h
 obtain ⟨a,xs,rfl,hx,q⟩:=h
 cases rx
 obtain ⟨its,r,ht,hz⟩:=I.list hx
 have hlen:=r.length
 refine ⟨"list",_,slot_list_getitem.lookup,ht.isList.typeIs,?_⟩
 refine wpAny_getItem_list_slice ht.isList hs pl pu .none (by simp) ?_ (by rw [List.size_toArray]<;>omega)
 rw [kG,<- hlen]
 refine ⟨.ref s.heap.objs.size,_,I.laid (t':=s.toks) (o:=.lst (hU xs lo hi)) (fun b ob q=>Heap.get?_push_of_some _ q) (Nat.le_refl _) ?_,rfl,q _ (I.hok.fresh (Nat.le_refl _))⟩
 exact ⟨Nat.le_trans (cutV_length xs lo hi) hz,_,0,(r.drop (HT.sIx xs.length 0 lo)).take (HT.sIx xs.length xs.length hi - HT.sIx xs.length 0 lo),Heap.get?_push_size _ rfl⟩
theorem mB:cY X (.builtin "len") (fun xs H Q=>∃ p ys,xs=[.ref p]/\(SqL X.K H p ys\/SqT X.K H p ys)/\Q (.int ys.length) H):=by
 intro pins s σ H xs us Q I r h
 obtain ⟨p,ys,rfl,hq,q⟩:=h
 obtain ⟨u,rfl,rx⟩:=fm r
 cases rx
 have hn:=mJ
 rcases hq with hq | hq
 ·obtain ⟨its,r',pl,hz⟩:=I.list hq
  have hlen:=r'.length
  exact Calls.call_len_list pl.isList (by simp only [List.size_toArray]<;>omega) ⟨.int ys.length,H,I.tok _,⟨s.toks + 1,by rw [List.size_toArray,hlen]⟩,q⟩
 ·obtain ⟨its,r',pl,hz⟩:=I.tuple hq
  have hlen:=r'.length
  exact len_tuple pl (by simp only [List.size_toArray]<;>omega) ⟨.int ys.length,H,I.tok _,⟨s.toks + 1,by rw [List.size_toArray,hlen]⟩,q⟩
theorem md:cY X (.type "list") (fun xs H Q=>∃ p ys,xs=[.ref p]/\(SqL X.K H p ys\/SqT X.K H p ys)/\∀ l,H l=none->Q (.ref l) (upd H l (.lst ys))):=by
 intro pins s σ H xs us Q I r h
 obtain ⟨p,ys,rfl,hq,q⟩:=h
 obtain ⟨u,rfl,rx⟩:=fm r
 cases rx
 have fin:∀ (its:List Value),Vals ys its->ys.length <= sizeLine->∀ (h':Heap) (c':Nat),(∀ b o',s.heap.get? b=some o'->h'.get? b=some o')->
   h'.get? s.heap.objs.size=some { cls:=.type "list",dict:=none,data:=.seq its.toArray c',slots:=#[] }->EP X pins σ Q (.ref s.heap.objs.size) { s with heap:=h' }:=fun its r' hz h' c' kp e=>
  ⟨.ref s.heap.objs.size,_,I.laid (t':=s.toks) kp (Nat.le_refl _) (show ObjOk X.prog X.w _ h' _ (.lst ys) from ⟨hz,its,c',r',e⟩),rfl,q _ (I.hok.fresh (Nat.le_refl _))⟩
 rcases hq with hq | hq
 ·obtain ⟨its,r',pl,hz⟩:=I.list hq
  have hlen:=r'.length
  obtain ⟨o,ho,hc,n,hd⟩:=pl.isList
  exact call_list_seq p (.inl rfl) ho hc hd (fun h' c' kp e=>fin its r' hz h' c' kp e) (by simp only [List.size_toArray]<;>omega)
 ·obtain ⟨its,r',pl,hz⟩:=I.tuple hq
  have hlen:=r'.length
  obtain ⟨o,ho,hc,n,hd⟩:=pl
  exact call_list_seq p (.inr rfl) ho hc hd (fun h' c' kp e=>fin its r' hz h' c' kp e) (by simp only [List.size_toArray]<;>omega)
theorem kM:cY X (.type "tuple") (fun xs H Q=>∃ p ys,xs=[.ref p]/\((SqL X.K H p ys/\∀ l,H l=none->Q (.ref l) (upd H l (.tup ys)))\/(SqT X.K H p ys/\Q (.ref p) H))):=by
 intro pins s σ H xs us Q I r h
 obtain ⟨p,ys,rfl,h⟩:=h
 obtain ⟨u,rfl,rx⟩:=fm r
 cases rx
 rcases h with ⟨hq,q⟩ | ⟨hq,q⟩
 ·obtain ⟨its,r',pl,hz⟩:=I.list hq
  have hlen:=r'.length
  refine call_tuple_list pl.isList (fun h' kp=>?_) (by simp only [List.size_toArray]<;>omega)
  have I1:Inv X pins σ H { s with heap:=h' }:=I.kept (t':=s.toks) kp
  have I2:Inv X pins σ (upd H h'.objs.size (.tup ys)) { s with heap:=h'.push { cls:=.type "tuple",data:=.seq its.toArray } }:=
   I1.laid (t':=s.toks) (fun b o e=>Heap.get?_push_of_some _ e) (Nat.le_refl _) (show ObjOk X.prog X.w _ _ _ (.tup ys) from ⟨hz,its,r',IsTup.new _ _⟩)
  exact ⟨.ref h'.objs.size,_,I2,rfl,q _ (I1.hok.fresh (Nat.le_refl _))⟩
 ·obtain ⟨its,r',pl,hz⟩:=I.tuple hq
  exact call_tuple_same pl ⟨.ref p,H,I,rfl,q⟩
def tyV (K:Frag) (T:String) (x:V) (H:Hp):Prop:=match x with
 | .str _=>T = "str"
 | .int _=>T = "int"
 | .ref p=>(T = "list"/\∃ xs,SqL K H p xs)\/(T = "tuple"/\∃ o,K.lookup p=some o/\o.cls=.type "tuple"/\o.dict=none) \/
   (T = "dict"/\((∃ kvs,H p=some (.dK kvs))\/∃ kvs,H p=some (.dT kvs)))\/(T = "set"/\∃ S n,H p=some (.set S n))
 | _=>False
theorem tyV_is {pins:List (Addr × Obj)} {σ:St} {H:Hp} {s:Shared} {T:String} {x:V} {v:Value} (I:Inv X pins σ H s) (r:RelV x v) (ty:tyV X.K T x H) :
  s.TypeIs v T/\∀ a,v=.ref a->∃ ob,s.heap.get? a=some ob/\ob.dict=none:=by
 cases x with
 | str z=>
  obtain ⟨t,rfl⟩:=r
  cases (show T = "str" from ty)
  exact ⟨typeIs_str s z t,fun _ e=>nomatch e⟩
 | int i=>
  obtain ⟨t,rfl⟩:=r
  cases (show T = "int" from ty)
  exact ⟨typeIs_int s i t,fun _ e=>nomatch e⟩
 | ref p=>
  cases r
  rcases ty with ⟨rfl,xs,hq⟩ | ⟨rfl,o,hk,hc,hd⟩ | ⟨rfl,hk⟩ | ⟨rfl,S,n,hk⟩
  ·obtain ⟨its,_,pl,_⟩:=I.list hq
   refine ⟨pl.isList.typeIs,fun a e=>?_⟩
   cases e
   obtain ⟨o,n,e,c,hd,_⟩:=pl
   exact ⟨o,e,hd⟩
  ·refine ⟨⟨o,I.kIn p o hk,hc⟩,fun a e=>?_⟩
   cases e
   exact ⟨o,I.kIn _ o hk,hd⟩
  ·have z:∃ o,s.heap.get? p=some o/\o.ExactDict:=by
    rcases hk with ⟨kvs,hk⟩ | ⟨kvs,hk⟩
    ·obtain ⟨_,_,_,_,o,_,_,e,ex,_⟩:=I.hok p _ hk
     exact ⟨o,e,ex⟩
    ·obtain ⟨_,_,_,_,o,_,_,e,ex,_⟩:=I.hok p _ hk
     exact ⟨o,e,ex⟩
   obtain ⟨o,e,ex⟩:=z
   refine ⟨⟨o,e,ex.1⟩,fun a e2=>?_⟩
   cases e2
   exact ⟨o,e,ex.2.1⟩
  ·obtain ⟨o,_,_,_,e,ex,_⟩:=I.hok p _ hk
   refine ⟨⟨o,e,ex.1⟩,fun a e2=>?_⟩
   cases e2
   exact ⟨o,e,ex.2.1⟩
 | _=>exact False.elim ty
def tBM (K:Frag) (T:String) (r:V->List V->Hp->VK->Prop) (to:TE) (t:TA):TE:=fun σ H Q=>to σ H fun x H1=>tyV K T x H1/\t σ H1 fun xs H2=>r x xs H2 Q
variable {o e:Expr} {es:List Expr} {to:TE} {t:TA} {name:Str} {apos cpos:Pos} {T id:String} {r:V->List V->Hp->VK->Prop}
theorem lD (pa:PlainAttrs T) (slot:Slot T name id) (hty:typeOf (.builtin id)=pure (.type "method_descriptor")) (hm:MtR X id r) (ho:PE X o to) (ha:PA X (e :: es) t)
  (hbase:attributeBase o name X.env (eval o X.env)=eval o X.env:=by rfl)
  (hfew:((backTo cpos (starEach (e :: es) X.env)).all (fun x=>!x.1) && (backToKw cpos (keywordEach [] X.env)).all (fun x=>x.1.isSome)
   && decide ((e :: es).length + ([]:List Keyword).length + (if ([]:List Keyword).isEmpty then 0 else 1) < 30))=true:=by rfl)
  (hline:(apos.endLine == cpos.line)=true:=by rfl) (hs:starEach (e :: es) X.env=(false,eval e X.env) :: starEach es X.env:=by rfl) (hplain:(backTo cpos (starEach es X.env)).any (·.1)=false:=by rfl) :
  PE X (.Call (.Attribute o name apos) (e :: es) [] cpos) (tBM X.K T r to t):=by
 intro pins s σ H Q I h
 refine wpAny_Call_method_late hbase hfew hline rfl (thn (ho pins s σ H _ I h) fun v s1 ⟨x,H1,I1,r1,ty,q1⟩=>?_)
 obtain ⟨h1,h2⟩:=tyV_is I1 r1 ty
 refine ⟨T,id,pa,slot,hty,h1,h2,?_⟩
 have hA:=ha cpos pins s1 σ H1 _ I1 q1
 rw [hs] at hA ⊢
 refine Calls.callWith_builtin (by show (false || (backTo cpos (starEach es X.env)).any (·.1))=false; rw [hplain]<;>rfl) (Calls.evalArgs_plain ?_)
 exact thn hA fun us s2 ⟨vs,H2,I2,r2,q2⟩=>hm pins s2 σ H2 x vs v us Q I2 r1 r2 q2
end
end L2
namespace L2
open PySem PySem.Spec PyProof.Rows
def MtM (X:Cx) (id:String) (r:V->List V->Hp->VK->Prop):Prop:=
 ∀ (pins:List (Addr × Obj)) (s:Shared) (σ:St) (H:Hp) (x:V) (xs:List V) (v:Value) (us:List Value) (Q:VK),Inv X pins σ H s->RelV x v->Vals xs us->r x xs H Q->
  wpAny (model X.prog X.w) X.A (call (.builtin id) (v :: us)) (EP X pins σ Q) X.xe s
theorem Vals.one:∀ {x:V} {us:List Value},Vals [x] us->∃ u,us=[u]/\RelV x u
 | _,_,.cons r .nil=>⟨_,rfl,r⟩
theorem Vals.two:∀ {x y:V} {us:List Value},Vals [x,y] us->∃ u v,us=[u,v]/\RelV x u/\RelV y v
 | _,_,_,.cons r (.cons q .nil)=>⟨_,_,rfl,r,q⟩
theorem Vals.reverse {xs:List V} {us:List Value} (h:Vals xs us):Vals xs.reverse us.reverse:=by
 induction h with
 | nil=>exact .nil
 | cons r t ih=>rw [List.reverse_cons,List.reverse_cons]; exact Vals.append ih (.cons r .nil)
section
variable {X:Cx} {pins:List (Addr × Obj)} {σ:St} {H:Hp} {s:Shared} {l b:Addr} {xs ys zs:List V}
theorem Inv.lset {its its':List Value} {n:Nat} {f:Array Value->Array Value} {t':Nat} (I:Inv X pins σ H s) (hH:H l=some (.lst xs))
  (e:s.heap.get? l=some { cls:=.type "list",data:=.seq its.toArray n }) (hf:f its.toArray=its'.toArray) (hv:Vals ys its') (hz:ys.length <= sizeLine) :
  Inv X pins σ (upd H l (.lst ys)) { s with heap:=s.heap.update l (Obj.mapSeq f),toks:=t' }:=by
 have q:=PySem.IsL.update e f
 rw [hf] at q
 refine I.write (x:=l) (e:=l) (by rw [hH]; exact trivial) (.inl rfl) (fun b' u hb hu=>(Heap.get?_update_other s.heap (Obj.mapSeq f) (Ne.symm hb)).trans hu) ⟨_,q⟩ ?_
 exact ⟨hz,its',_,hv,q⟩
theorem Inv.lnew {its:List Value} {t':Nat} (I:Inv X pins σ H s) (hv:Vals ys its) (hz:ys.length <= sizeLine) :
  Inv X pins σ (upd H s.heap.objs.size (.lst ys)) { s with heap:=s.heap.push { cls:=.type "list",data:=.seq its.toArray },toks:=t' }:=
 I.laid (fun _ _ q=>Heap.get?_push_of_some _ q) (Nat.le_refl _) ⟨hz,its,0,hv,Heap.get?_push_size _ rfl⟩
theorem Inv.fresh (I:Inv X pins σ H s):H s.heap.objs.size=none:=I.hok.fresh (Nat.le_refl _)
theorem Inv.lstM (I:Inv X pins σ H s) (hH:H l=some (.lst xs)):xs.length <= sizeLine/\∃ (its:List Value) (n:Nat),Vals xs its/\xs.length=its.length/\s.heap.get? l=some { cls:=.type "list",data:=.seq its.toArray n }:=by
 obtain ⟨z,its,n,r,e⟩:=I.hok l _ hH
 exact ⟨z,its,n,r,r.length,e⟩
theorem notLongL {n:Nat} (h:n <= sizeLine):Builtin.List.listTooLong n=false:=by
 unfold Builtin.List.listTooLong
 exact decide_eq_false (by omega)
end
section
variable {X:Cx}
def rAppend:V->List V->Hp->VK->Prop:=fun x vs H Q=>∃ l xs y,x=.ref l/\vs=[y]/\H l=some (.lst xs)/\xs.length < sizeLine/\Q .non (upd H l (.lst (xs ++ [y])))
theorem cQ:MtM X "list.append" rAppend:=by
 intro pins s σ H x vs v us Q I rx rv h
 obtain ⟨l,xs,y,rfl,rfl,hH,hz,q⟩:=h
 cases rx
 obtain ⟨u,rfl,ru⟩:=rv.one
 obtain ⟨z,its,n,r,hl,e⟩:=I.lstM hH
 refine call_meets F.slot_list_append ⟨_,e,rfl⟩ F.entry_list_append (F.args_list_append_2 _ _) (PySem.list_append l its.toArray n u (by rw [List.size_toArray]; omega)) ⟨e,?_⟩
 refine ⟨.non,_,I.lset (its':=its ++ [u]) hH e (by simp) (r.append (.cons ru .nil)) ?_,rfl,q⟩
 rw [List.length_append,List.length_singleton]
 omega
def rExtend:V->List V->Hp->VK->Prop:=fun x vs H Q=>∃ l b xs zs,x=.ref l/\vs=[.ref b]/\H l=some (.lst xs)/\H b=some (.lst zs)/\xs.length + zs.length <= sizeLine/\Q .non (upd H l (.lst (xs ++ zs)))
theorem mt_extend:MtM X "list.extend" rExtend:=by
 intro pins s σ H x vs v us Q I rx rv h
 obtain ⟨l,b,xs,zs,rfl,rfl,hH,hB,hz,q⟩:=h
 cases rx
 obtain ⟨u,rfl,ru⟩:=rv.one
 cases ru
 obtain ⟨z,its,n,r,hl,e⟩:=I.lstM hH
 obtain ⟨z2,its2,n2,r2,hl2,e2⟩:=I.lstM hB
 have hsz:its.toArray.size + its2.toArray.size <= sizeLine:=by rw [List.size_toArray,List.size_toArray]; omega
 have hlong:¬ (!its.toArray.isEmpty && Builtin.List.listTooLong (its.toArray.size + its2.toArray.size))=true:=by
  rw [notLongL hsz,Bool.and_false]
  exact Bool.false_ne_true
 refine call_meets F.slot_list_extend ⟨_,e,rfl⟩ F.entry_list_extend (F.args_list_extend_2 _ _)
  (AutoSeq1.list_extend_list_list_0 l its.toArray n b its2.toArray n2 hlong (by rw [List.size_toArray]; omega) (by omega)) ⟨e,e2,?_⟩
 refine ⟨.non,_,I.lset (its':=its ++ its2) hH e (by simp) (r.append r2) ?_,rfl,q⟩
 rw [List.length_append]
 omega
def rCat:R2:=fun x y H Q=>∃ l b xs zs,x=.ref l/\y=.ref b/\H l=some (.lst xs)/\H b=some (.lst zs)/\xs.length + zs.length <= sizeLine/\∀ p,H p=none->Q (.ref p) (upd H p (.lst (xs ++ zs)))
theorem cu:OpR X (binaryOp .Add) rCat:=by
 intro pins s σ H x y v u Q I rx ry h
 obtain ⟨l,b,xs,zs,rfl,rfl,hH,hB,hz,q⟩:=h
 cases rx
 cases ry
 obtain ⟨z,its,n,r,hl,e⟩:=I.lstM hH
 obtain ⟨z2,its2,n2,r2,hl2,e2⟩:=I.lstM hB
 refine PySem.P.add_list e e2 ?_ (by rw [List.size_toArray,List.size_toArray]; omega)
 have ea:its.toArray ++ its2.toArray=(its ++ its2).toArray:=by simp
 rw [ea]
 exact ⟨.ref _,_,I.lnew (t':=s.toks) (r.append r2) (by rw [List.length_append]; omega),rfl,q _ I.fresh⟩
end
section
variable {prog:Program} {w:World} {A:Around} {E:Value->Shared->Prop} {s:Shared}
end
section
variable {X:Cx}
end
end L2
namespace Att
open PySem PySem.W PySem.Calls PyProof.Rows
theorem jm {P:Params} {h:Heap}:∀ (ns:List Int) (vs:List Value),WellAll P h vs (ns.map WData.int)->IntsAre vs ns:=by
 intro ns
 induction ns with
 | nil=>
  intro vs w
  rw [List.map_nil] at w
  cases w
  exact .nil
 | cons n ns ih=>
  intro vs w
  rw [List.map_cons] at w
  cases w with
  | cons a b=>
   cases a
   exact .cons _ _ (ih _ b)
theorem script_of {l:OpenLaw} {n:Nat} (hn:l.most=some n) {P:Params} {h:Heap} {args:List WData} {vals:List Value}
  (hpre:l.row.toRowW.claim.pre args=true) (hwl:WellAll P h vals args) :
  ∃ a vs ns,vals=[Value.ref a]/\args=[WData.list (ns.map WData.int)]/\h.get? a=some { cls:=.type "list",data:=.seq vs.toArray }/\IntsAre vs ns/\ns.length <= n:=by
 have hsh:WShape.hasAll [] args [.list .int]=true:=(pre_splitW hpre).1
 have hc:l.pre.holds [] { args:=args }=true:=(pre_splitW hpre).2
 obtain ⟨d,r,rfl,h1,h2⟩:=hasAllW_cons hsh
 obtain rfl:=hasAllW_nil h2
 obtain ⟨xs,rfl,h3⟩:=hasW_list h1
 obtain ⟨ns,rfl⟩:=items_int h3
 have hlen:ns.length <= n:=by
  unfold OpenLaw.pre at hc
  have h4:(WTm.not (.lt (.lit (.int (n:Int))) (.len (.arg 0)))).holds [] { args:=[.list (ns.map .int)] }=true:=by
   have h4:=(holds_andW hc).1
   rw [hn] at h4
   exact h4
  have h5:=condW_of h4 (w_not (w_lt w_lit (w_len_list (w_arg rfl))))
  rw [List.length_map] at h5
  refine Nat.le_of_not_lt fun q=>?_
  have q':(n:Int) < ((ns.length:Nat):Int):=by omega
  first
   | (rw [decide_eq_true q'] at h5; exact absurd h5 (by decide))
   | (simp at h5; omega)
 cases hwl with
 | cons w1 w2=>
  cases w2
  cases w1 with
  | list ho hall=>exact ⟨_,_,ns,rfl,rfl,ho,jm ns _ hall,hlen⟩
theorem post_true (l:OpenLaw) (args:List WData):l.row.toRowW.claim.post args (.bool true) args=true:=
 postW_of (r:=l.row.toRowW) (X:=(true == true))
  (show WShape.has [] (.bool true) .bool=true by first | rfl | decide | simp [WShape.has,WShape.arms,WShape.armsAll])
  (show (WTm.eq .res (.lit (.bool true))).value [] { args:=args,res:=some (.bool true),after:=args }=some (.bool (true == true)) from w_eq_bool (w_res rfl) w_lit) rfl
theorem attach_call {l:OpenLaw} {n:Nat} {q:Program} {loose:List Str} {XP:(Str->Option Value)->Heap->Prop} {YP:World->Heap->Prop} {d:DefRec}
  (hn:l.most=some n) (hdf:d.params.defaults=[])
  (call:∀ (w:World) (s₀ s₁:Shared) (mg mb:Str->Option Value) (fa:Addr) (o:Obj) (pm cd doc:Value) (a:Addr) (vs:List Value) (ns:List Int),
   Ground q loose [] XP w s₀ mg mb s₁.heap->YP w s₁.heap->
   s₁.heap.get? fa=some o->o.data=.func (docDef d.name d.params d.body d.scope pm cd doc)->s₁.heap.CodeRec cd d.name->mg d.name=some (.ref fa)->
   s₁.heap.get? a=some { cls:=.type "list",data:=.seq vs.toArray }->IntsAre vs ns->ns.length <= n->s₁.gens = #[]->
   codeAny (model l.prog w) callerA (.call (.ref fa) ⟨[.ref a],[]⟩) (fun r s'=>r=.ok (.ret (.bool true))/\OldK s₁.heap s'.heap/\s'.os=s₁.os/\AllBare s'.gens) s₁) :
  WalkO q loose XP YP l.row.toRowW d [] (fun f vs=>PySem.call f vs):=by
 intro w s₀ s₁ mg mb G Y fa o pm cd doc dV kV ho hd hcd hD hmg hg args vals as hpre hlay hrd hwl hlo
 obtain rfl:dV=.none:=Dflts.none hD hdf
 obtain rfl:kV=.none:=Dflts.noKw hD
 obtain ⟨a,vs,ns,rfl,rfl,hobj,hints,hlen⟩:=script_of hn hpre hwl
 refine enter_call (codeAny_mono (call w s₀ s₁ mg mb fa o pm cd doc a vs ns G Y ho (fd_plain hd) hcd hmg hobj hints hlen hg) fun r s' hq=>?_)
 obtain ⟨rfl,h2,h3,h4⟩:=hq
 exact ⟨.inl ⟨.bool true,.bool true,[],rfl,fun _=>rfl,.bool true,post_true l _,fun _=>⟨List.Pairwise.nil,fun _ hm=>(nomatch hm)⟩⟩,h2,h3,h4⟩
section
variable {prog:Program} {w:World} {A:Around} {E:Value->Shared->Prop} {s:Shared} {K:Frag}
end
end Att
namespace L2
open PySem PySem.Spec PyProof.Rows
theorem lj:∀ {vs:List Value} {ns:List Int},IntsAre vs ns->Vals (ns.map V.int) vs
 | _,_,.nil=>.nil
 | _,_,.cons n t h=>.cons ⟨t,rfl⟩ (lj h)
def Only (H:Hp):Prop:=∀ b,H b=none\/∃ o xs,H b=some (.frz o (.lst xs))
theorem law_call {P:Program} {w:World} {K:Frag} {mg mb:Str->Option Value} {CX:CXT} {k:Nat} {fa a:Addr} {fd:FuncData} {x:Str} {sp:Sp} {s₁:Shared} {vs:List Value} {ns:List Int}
  (KX:K.In s₁.heap) (hns:s₁.heap.Ns mainGlobals mg) (hb:s₁.heap.Ns builtinsNs mb) (hbb:∀ x:Str,x ≠ "__name__"->mb x=bootBuiltins x) (hlim:s₁.heap.NoLimit) (hg:s₁.gens = #[])
  (ha:s₁.heap.get? a=some { cls:=.type "list",data:=.seq vs.toArray }) (hi:IntsAre vs ns) (hl:ns.length <= sizeLine) (hr:Room k callerA)
  (F:∀ base:Heap,K.In base->base.Ns mainGlobals mg->aI P w K mg base CX k fa fd [x] sp) (hbind:∀ (s:Shared) (u:Value),BindsTo s fd ⟨[u],[]⟩ [(x,u)])
  (hsp:∀ H:Hp,Only H->SqL K H a (ns.map V.int)->sp [.ref a] H (fun v _=>v=.bl true) fun _ _ _=>False)
  (hCX:∀ H e s',CX [] H s₁ (fun _ _ _=>False) e s'->False) :
  codeAny (model P w) callerA (.call (.ref fa) ⟨[.ref a],[]⟩) (fun r s'=>r=.ok (.ret (.bool true))/\OldK s₁.heap s'.heap/\s'.os=s₁.os/\AllBare s'.gens) s₁:=by
 have rv:=lj hi
 have lenV:=hi.length
 have core:∀ H:Hp,Only H->SqL K H a (ns.map V.int)->HOk P w H s₁.heap->(∀ b,H b ≠ none->b=a)->(H a ≠ none->K.lookup a=none)->
   codeAny (model P w) callerA (.call (.ref fa) ⟨[.ref a],[]⟩) (fun r s'=>r=.ok (.ret (.bool true))/\OldK s₁.heap s'.heap/\s'.os=s₁.os/\AllBare s'.gens) s₁:=by
  intro H hO hS hok hA hK
  have base_of:∀ {b:Addr} {o:Obj},s₁.heap.get? b=some o->H b=none->(mG s₁.heap H).get? b=some o:=fun e n=>hidT_get e n
  have noA:∀ {b:Addr} {o:Obj} {es:Array DictEntry} {ep:Nat},s₁.heap.get? b=some o->o.data=.dict es ep->H b=none:=fun {b o es ep} e d=>by
   cases q:H b with
   | none=>rfl
   | some u=>
    have e':b=a:=hA b (by rw [q]; simp)
    subst e'
    rw [ha] at e; cases e
    have d':Data.seq vs.toArray _=Data.dict es ep:=d
    cases d'
  have nsK:∀ {b:Addr} {m:Str->Option Value},s₁.heap.Ns b m->(mG s₁.heap H).Ns b m:=fun {b m} ⟨o,es,ep,e,d,r⟩=>⟨o,es,ep,base_of e (noA e d),d,r⟩
  have hKb:K.In (mG s₁.heap H):=fun b o e=>base_of (KX b o e) (by
   cases q:H b with
   | none=>rfl
   | some u=>
    have e':b=a:=hA b (by rw [q]; simp)
    subst e'
    rw [hK (by rw [q]; simp)] at e; cases e)
  have hM:Mod K mg (mG s₁.heap H):=⟨hKb,nsK hns,⟨mb,nsK hb,hbb⟩,let ⟨mc,h1,h2⟩:=hlim; ⟨mc,nsK h1,h2⟩⟩
  have e0:Env0 P w K mg (mG s₁.heap H) callerA [] s₁ H:=⟨rfl,hM,fun b o e=>of_hidT e,Nat.le_of_eq (hidT_size _ _),trivial,fun b hb=>absurd (show b ∈ ([]:List Addr) from hb) (by simp),hok,.of_eq hg⟩
  refine codeAny_mono ((F _ hKb (nsK hns)).run callerA [] s₁ H ⟨[.ref a],[]⟩ [.ref a] [.ref a] _ _ hr e0 (hbind s₁ (.ref a)) (.cons rfl .nil) (hsp H hO hS)) fun r s' h=>?_
  cases r with
  | error e=>exact (hCX H e s' h).elim
  | ok fl=>
   cases fl with
   | next=>exact False.elim h
   | brk=>exact False.elim h
   | cont=>exact False.elim h
   | ret u=>
    obtain ⟨v,H',os,bare,un,hok',r',q⟩:=h
    have q':v=.bl true:=q
    subst q'
    obtain rfl:u=Value.bool true:=r'
    refine ⟨rfl,OldK.of_keep fun b o e=>?_,os,bare⟩
    cases q:H b with
    | none=>exact un.keep b o e q (by intro z; exact absurd (show b ∈ ([]:List Addr) from z) (by simp)) (by simp)
    | some u=>
     rcases hO b with z | ⟨ob,xs,z⟩
     ·rw [q] at z; cases z
     ·have z2:=un.frzs b ob _ z
      obtain ⟨e1,_⟩:=hok b _ z
      obtain ⟨e2,_⟩:=hok' b _ z2
      rw [e] at e1; cases e1
      exact e2
 cases hk:K.lookup a with
 | some o=>
  have e:=KX a o hk
  rw [ha] at e
  cases e
  refine core (fun _=>none) (fun _=>.inl rfl) (.inr ⟨_,vs.toArray,_,hk,rfl,rfl,rfl,by rw [List.size_toArray,lenV]; exact hl,by simpa using rv⟩) (fun b u z=>by have z':(none:Option HO)=some u:=z; cases z') (fun b z=>absurd rfl z) fun z=>absurd rfl z
 | none=>
  refine core (fun b=>if b=a then some (.frz { cls:=.type "list",data:=.seq vs.toArray } (.lst (ns.map V.int))) else none) (fun b=>?_) (.inl (.inr ⟨{ cls:=.type "list",data:=.seq vs.toArray },if_pos rfl⟩)) (fun b u z=>?_) (fun b z=>?_) fun _=>hk
  ·by_cases hb:b=a
   ·exact .inr ⟨_,_,if_pos hb⟩
   ·exact .inl (if_neg hb)
  ·by_cases hb:b=a
   ·have z':=(if_pos hb).symm.trans z
    cases z'
    subst hb
    exact ⟨ha,by rw [List.length_map]; exact hl,vs,_,rv,ha⟩
   ·have z':=(if_neg hb).symm.trans z
    cases z'
  ·by_cases hb:b=a
   ·exact hb
   ·exact absurd (if_neg hb) z
end L2
namespace L2
open PySem PySem.Spec PyProof.Rows
theorem walk_of {l:PySem.W.OpenLaw} {n k:Nat} {q:Program} {loose:List Str} {XP:(Str->Option Value)->Heap->Prop} {YP:World->Heap->Prop} {d:DefRec} {K:Params->Frag} {CX:World->CXT} {sp:World->Sp} {x:Str}
  (hn:l.most=some n) (hn2:n <= sizeLine) (hdf:d.params.defaults=[]) (hr:Room k callerA)
  (hY:∀ (w:World) (h:Heap),YP w h->(K w.params).In h)
  (F:∀ (w:World) (mg:Str->Option Value) (fa:Addr) (h:Heap),(K w.params).In h->h.Ns mainGlobals mg->mg d.name=some (.ref fa)->
   ∃ fd:FuncData,(∀ (s:Shared) (u:Value),BindsTo s fd ⟨[u],[]⟩ [(x,u)])/\
    ∀ base:Heap,(K w.params).In base->base.Ns mainGlobals mg->aI l.prog w (K w.params) mg base (CX w) k fa fd [x] (sp w))
  (hsp:∀ (w:World) (H:Hp) (a:Addr) (ns:List Int),ns.length <= n->Only H->SqL (K w.params) H a (ns.map V.int)->sp w [.ref a] H (fun v _=>v=.bl true) fun _ _ _=>False)
  (hCX:∀ (w:World) (H:Hp) (s:Shared) (e:Value) (s':Shared),CX w [] H s (fun _ _ _=>False) e s'->False) :
  PySem.W.WalkO q loose XP YP l.row.toRowW d [] (fun f vs=>PySem.call f vs):=by
 refine Att.attach_call hn hdf fun w s₀ s₁ mg mb fa o pm cd doc a vs ns G Y ho hd hcd hmg hobj hints hlen hg=>?_
 have KX:=hY w _ Y
 obtain ⟨fd,hb,hF⟩:=F w mg fa _ KX G.T.g hmg
 exact law_call KX G.T.g G.T.b G.T.builtins G.T.nolimit hg hobj hints (Nat.le_trans hlen hn2) hr hF hb (fun H hO hS=>hsp w H a ns hlen hO hS) fun H e s'=>hCX w H s₁ e s'
end L2
namespace L2
open PySem PySem.Spec PyProof.Rows
def inClass (s:Stmt) (j:Nat):Stmt:=match s with
 | .ClassDef _ _ _ body _ _ _ _ _ _ _=>body.getD j (.Pass ⟨0,0,0,0⟩)
 | _=>.Pass ⟨0,0,0,0⟩
def bd (s:Stmt):Arguments:=match s with
 | .FunctionDef _ a _ _ _ _ _ _ _ _=>a
 | _=>{ posonlyargs:=[],args:=[],vararg:=none,kwonlyargs:=[],kw_defaults:=[],kwarg:=none,defaults:=[] }
def aT (s:Stmt):List Stmt:=match s with
 | .FunctionDef _ _ b _ _ _ _ _ _ _=>b
 | _=>[]
def al (s:Stmt):Scope:=match s with
 | .FunctionDef _ _ _ _ _ _ sc _ _ _=>sc
 | _=>{ kind:=.function,names:=[],isGenerator:=false,isCoroutine:=false }
abbrev CX0:CXT:=fun _ _ _ _ _ _=>False
abbrev E0:XK:=fun _ _ _=>False
theorem pass0 {X:Cx}:df CX0 X E0:=fun _ _ _ _ _ _ _ h=>h.elim
structure Fun (K:Frag) (x qual:Str) (st:Stmt) (f:Addr) (fd:FuncData):Prop where
 ex:∃ (oc:Value) (od:Option Addr) (kV doc pm:Value) (an:Option Addr) (cdv ct:Value) (osl:Array (Option Value)),
  fd=fnOf x qual (bd st) (aT st) (al st) .none kV doc pm an cdv ct/\K.lookup f=some ⟨oc,od,.func fd,osl⟩/\codeIn K cdv qual=true
 kp:keepIn K (.ref f)=true
section
variable {P:Program} {w:World} {K:Frag} {mg:Str->Option Value} {base:Heap}
theorem Fun.ok {x qual:Str} {st:Stmt} {f:Addr} {fd:FuncData} {N ps:List Str} {k:Nat} {sp:Sp} (F:Fun K x qual st f fd) (S:FnScope N ps (al st)) (len:∀ vs H Q E,sp vs H Q E->vs.length=ps.length)
  (hbody:∀ (cdv:Value) (A:Around) (outer:List Env) (s:Shared) (H:Hp) (vs:List V) (Q:VK) (E:XK),Room k (A.deeper (envOfC qual (al st) s.heap.objs.size f cdv))->sp vs H Q E->
   ∃ t,PSs (dw CX0 P w K mg base N qual (al st) f cdv A outer s H E).nox (aT st) t/\t { nx:=fun _ H'=>Q .non H',rt:=Q } (gr N vs) H):aI P w K mg base CX0 (k + 1) f fd ps sp:=by
 obtain ⟨oc,od,kV,doc,pm,an,cdv,ct,osl,rfl,lk,hcd⟩:=F.ex
 refine fn_of lk hcd S len fun A outer s H vs Q E hr hsp=>?_
 obtain ⟨t,h,q⟩:=hbody cdv A outer s H vs Q E hr hsp
 exact ⟨t,h.nox,q⟩
theorem Fun.binds {x qual:Str} {st:Stmt} {f:Addr} {fd:FuncData} {ps:List Str} (F:Fun K x qual st f fd)
  (h:∀ (kV doc pm:Value) (an:Option Addr) (cdv ct:Value) (us:List Value),us.length=ps.length->bindArgs (fnOf x qual (bd st) (aT st) (al st) .none kV doc pm an cdv ct) ⟨us,[]⟩=pure (ps.zip us)):Binds K fd ps []:=by
 obtain ⟨oc,od,kV,doc,pm,an,cdv,ct,osl,rfl,lk,hcd⟩:=F.ex
 exact .all (h kV doc pm an cdv ct)
theorem gL {x qual:Str} {st:Stmt} {f:Addr} {oc:Value} {od an:Option Addr} {osl:Array (Option Value)} {kV doc pm cdv ct:Value} (l:K.lookup f=some ⟨oc,od,.func (fnOf x qual (bd st) (aT st) (al st) .none kV doc pm an cdv ct),osl⟩)
  (c:codeIn K cdv qual=true) (k:keepIn K (.ref f)=true):Fun K x qual st f (fnOf x qual (bd st) (aT st) (al st) .none kV doc pm an cdv ct):=⟨⟨oc,od,kV,doc,pm,an,cdv,ct,osl,rfl,l,c⟩,k⟩
end
theorem eI {n:Nat} (h:n <= 1000):n < sizeLine:=Nat.lt_of_le_of_lt h (by decide)
section
variable {X:Cx}
theorem pv (i:Nat) {x:Str} {pos:Pos} (hN:X.N[i]? = some x:=by rfl) (hv:Vis X.env.scope x:=by first | exact Or.inl rfl | exact Or.inr (Or.inl rfl) | exact Or.inr (Or.inr rfl)) (hd:(x == ("__debug__" : Str))=false:=by decide)
  (hcd:(x == ("__classdict__" : Str))=false:=by decide):PE X (.Name x pos) (gk i):=pe_var hN hv hd hcd
end
theorem aO {A B:Prop} (h:B):if false=true then A else B:=by
 rw [if_neg Bool.false_ne_true]
 exact h
theorem aH {A B:Prop} (h:A):if true=true then A else B:=by
 rw [if_pos rfl]
 exact h
theorem bD {c A B:Prop} [Decidable c] (h1:c->A) (h2:¬ c->B):if c then A else B:=by
 by_cases h:c
 ·rw [if_pos h]
  exact h1 h
 ·rw [if_neg h]
  exact h2 h
theorem jP {c A B:Prop} [Decidable c] (hc:c) (h:B):if (!decide c)=true then A else B:=by
 rw [decide_eq_true hc]
 exact aO h
def Same (H H':Hp):Prop:=∀ b o,H b=some o->H' b=some o
theorem Same.refl (H:Hp):Same H H:=fun _ _ h=>h
theorem Same.trans {H H1 H2:Hp} (a:Same H H1) (b:Same H1 H2):Same H H2:=fun c o h=>b c o (a c o h)
theorem Same.free {H H':Hp} (e:Same H H') {l:Addr} (h:H' l=Option.none):H l=Option.none:=by
 cases q:H l with
 | none=>rfl
 | some o=>
  rw [e l o q] at h
  cases h
theorem Same.seq {K:Frag} {H H':Hp} {a:Addr} {xs:List V} (e:Same H H') (h:SqL K H a xs):SqL K H' a xs:=by
 rcases h with (h | ⟨o,h⟩) | h
 ·exact .inl (.inl (e _ _ h))
 ·exact .inl (.inr ⟨o,e _ _ h⟩)
 ·exact .inr h
end L2
namespace L2
open PySem PySem.Spec PyProof.Rows
section
variable {prog:Program} {w:World} {A:Around} {R:Result->Shared->Prop} {s:Shared}
theorem io {elt target iter:Expr} {ifs:List Expr} {scope:Scope} {pos:Pos} {it acc:Value} {env:Env} (I:Nat->Shared->Prop)
  (turn:∀ n s,I n s->wpAny (model prog w) A (pyNext it) (fun r s₁=>match r with
   | none=>R (.ok .next) s₁
   | some v=>wpAny (model prog w) A (letOwnedTupleGo target it v) (fun _ s₁'=>wpAny (model prog w) A (assign target env v) (fun _ s₂=>
     wpAny (model prog w) A (forIn ifs true fun c r=>if r=true then do let ok <- isTrue c env (eval c env); pure (ForInStep.yield ok) else pure (ForInStep.yield r)) (fun ok s₃=>
      if ok=true then wpAny (model prog w) A (eval elt env) (fun x s₄=>
       wpAny (model prog w) A (call (.builtin "list.append") [acc,x]) (fun _ s₅=>∃ m,m < n/\I m s₅) (fun _ _=>False) s₄) (fun _ _=>False) s₃
      else ∃ m,m < n/\I m s₃) (fun _ _=>False) s₂) (fun _ _=>False) s₁') (fun _ _=>False) s₁) (fun _ _=>False) s)
  (n:Nat) (h:I n s) :
  codeAny (model prog w) A (.compLoop (.ListComp elt [⟨target,iter,ifs,0⟩] scope pos) 0 it acc env) R s:=by
 refine codeAny_loop rfl I (fun n s hI=>?_) n h
 show wpAny _ A ((compTurn (.ListComp elt [⟨target,iter,ifs,0⟩] scope pos) 0 it acc env).onRaise (fun x=>do noteFrame x env; theTreesLotGoes x)) _ _ s
 refine wpAny_noted ?_
 rw [compTurn_list]
 refine wpAny_bind (wpAny_standAt (wpAny_bind (wpAny_mono (turn n s hI) (fun r s₁ h₁=>?_) fun _ _ h'=>h'.elim)))
 cases r with
 | none=>exact wpAny_pure h₁
 | some v=>
  refine wpAny_bind (wpAny_mono h₁ (fun _ s₁' h₁'=>?_) fun _ _ h'=>h'.elim)
  refine wpAny_bind (wpAny_mono h₁' (fun _ s₂ h₂=>wpAny_bind (wpAny_mono h₂ (fun ok s₃ h₃=>?_) fun _ _ h'=>h'.elim)) fun _ _ h'=>h'.elim)
  cases ok with
  | false=>exact wpAny_pure ⟨rfl,h₃⟩
  | true=>
   exact wpAny_bind (wpAny_bind (wpAny_mono h₃ (fun x s₄ h₄=>wpAny_bind (wpAny_mono h₄ (fun _ s₅ h₅=>wpAny_pure (wpAny_pure ⟨rfl,h₅⟩)) fun _ _ h'=>h'.elim)) fun _ _ h'=>h'.elim))
end
def cy (env:Env):List (Str × NameKind)->List (Str × Addr)->List (Str × Addr)
 | [],cs=>cs
 | (n,k) :: r,cs=>cy env r (if k == .free then (n,(env.cells.lookup n).getD 0) :: cs else cs)
theorem jU {env:Env}:∀ (l:List (Str × NameKind)) (cs:List (Str × Addr)),(∀ x ∈ l,x.2=.free->∃ c,env.cells.lookup x.1=some c)->
  (do let r <- forIn l cs (fun (x:Str × NameKind) (cs:List (Str × Addr))=>if (x.2 == .free)=true then do let a <- cellOf env x.1; pure (ForInStep.yield ((x.1,a) :: cs)) else pure (ForInStep.yield cs)); pure r:Sem (List (Str × Addr)))=pure (cy env l cs)
 | [],cs,_=>rfl
 | (n,k) :: r,cs,h=>by
  have ih:=fun cs'=>jU (env:=env) r cs' fun x hx=>h x (List.mem_cons_of_mem _ hx)
  rw [List.forIn_cons]
  cases hk:(k == NameKind.free) with
  | false=>
   simp only [hk,Bool.false_eq_true,if_false]
   show (do let r <- forIn r cs _; pure r:Sem _)=_
   rw [ih]
   simp only [cy,hk,Bool.false_eq_true,if_false]
  | true=>
   obtain ⟨c,hc⟩:=h (n,k) List.mem_cons_self (by simpa using hk)
   have hco:cellOf env n=pure c:=by unfold cellOf; simp only at hc; rw [hc]
   simp only [hk,if_true,hco]
   show (do let r <- forIn r ((n,c) :: cs) _; pure r:Sem _)=_
   rw [ih]
   simp only at hc
   simp only [cy,hk,if_true,hc,Option.getD_some]
theorem gM {env:Env} {scope:Scope} (h:∀ x ∈ scope.names,x.2=.free->∃ c,env.cells.lookup x.1=some c):closureFor scope env=pure (cy env scope.names []):=by
 have q:=jU scope.names [] h
 unfold closureFor
 exact congrArg (fun (m:Sem (List (Str × Addr)))=>m >>= pure) q
theorem cls_in {env:Env}:∀ (l:List (Str × NameKind)) (cs:List (Str × Addr)) (n:Str) (c:Addr),(∀ x ∈ l,x.2=.free->∃ c,env.cells.lookup x.1=some c)->
  (cy env l cs).lookup n=some c->env.cells.lookup n=some c\/cs.lookup n=some c
 | [],cs,n,c,_,h=>.inr h
 | (m,k) :: r,cs,n,c,hf,h=>by
  have ih:=cls_in r (if (k == .free)=true then (m,(env.cells.lookup m).getD 0) :: cs else cs) n c (fun x hx=>hf x (List.mem_cons_of_mem _ hx)) h
  cases hk:(k == NameKind.free) with
  | false=>
   simp only [hk,Bool.false_eq_true,if_false] at ih
   exact ih
  | true=>
   simp only [hk,if_true] at ih
   rcases ih with ih | ih
   ·exact .inl ih
   ·cases hx:n == m with
    | true=>
     simp only [List.lookup_cons,hx] at ih
     obtain ⟨c',hc'⟩:=hf (m,k) List.mem_cons_self (by simpa using hk)
     simp only at hc'
     rw [hc'] at ih
     have e:n=m:=by simpa using hx
     subst e
     exact .inl (hc'.trans ih)
    | false=>
     simp only [List.lookup_cons,hx] at ih
     exact .inr ih
theorem cls_keep {env:Env}:∀ (l:List (Str × NameKind)) (cs:List (Str × Addr)) (n:Str),(∃ c,cs.lookup n=some c)->∃ c,(cy env l cs).lookup n=some c
 | [],cs,n,h=>h
 | (m,k) :: r,cs,n,⟨c,h⟩=>by
  refine cls_keep r _ n ?_
  by_cases hk:(k == NameKind.free)=true
  ·rw [if_pos hk]
   cases hx:n == m with
   | true=>exact ⟨(env.cells.lookup m).getD 0,by simp only [List.lookup_cons,hx]⟩
   | false=>exact ⟨c,by simp only [List.lookup_cons,hx]; exact h⟩
  ·rw [if_neg hk]
   exact ⟨c,h⟩
theorem ii {env:Env}:∀ (l:List (Str × NameKind)) (cs:List (Str × Addr)) (n:Str),(n,NameKind.free) ∈ l->∃ c,(cy env l cs).lookup n=some c
 | [],_,_,h=>absurd h (by simp)
 | (m,k) :: r,cs,n,h=>by
  rcases List.mem_cons.mp h with e | e
  ·cases e
   refine cls_keep r _ _ ?_
   exact ⟨_,by simp [List.lookup_cons]; rfl⟩
  ·exact ii r _ n e
theorem cH {env:Env}:∀ (names:List (Str × NameKind)) (x:Str),
  (names.map fun (n,k)=>if (k == NameKind.free && env.scope.kind == .function && env.kindOf n == some .cell) then (n,NameKind.cell) else (n,k)).lookup x
   = (names.lookup x).map fun k=>if (k == NameKind.free && env.scope.kind == .function && env.kindOf x == some .cell)=true then NameKind.cell else k
 | [],x=>rfl
 | (n,k) :: r,x=>by
  have ih:=cH (env:=env) r x
  show List.lookup x ((if (k == NameKind.free && env.scope.kind == .function && env.kindOf n == some .cell)=true then (n,NameKind.cell) else (n,k)) :: _)=_
  cases hx:x == n with
  | true=>
   have e:x=n:=by simpa using hx
   subst e
   by_cases hc:(k == NameKind.free && env.scope.kind == .function && env.kindOf x == some .cell)=true
   ·rw [if_pos hc]; simp only [List.lookup_cons,hx,Option.map_some]; rw [if_pos hc]
   ·rw [if_neg hc]; simp only [List.lookup_cons,hx,Option.map_some]; rw [if_neg hc]
  | false=>
   by_cases hc:(k == NameKind.free && env.scope.kind == .function && env.kindOf n == some .cell)=true
   ·rw [if_pos hc]; simp only [List.lookup_cons,hx]; exact ih
   ·rw [if_neg hc]; simp only [List.lookup_cons,hx]; exact ih
def ni (outer scope:Scope):Bool:=
 scope.kind == .function && outer.kind == .function && scope.names.all fun x=>x.2 != .cell && (x.2 != .local || scope.names.lookup x.1 == some .local) && (x.2 != .free || (outer.names.lookup x.1 == some .cell || outer.names.lookup x.1 == some .free))
def ij (XN N:List Str) (src:List (Option Nat)) (scope:Scope):Bool:=
 src.length == N.length && (List.range N.length).all fun i=>match src[i]?.join with
  | none=>true
  | some j=>N[i]? == XN[j]? && (N[i]?).any fun x=>scope.names.lookup x == some .free
def bW (src:List (Option Nat)) (σ:St):St:=src.map fun o=>o.bind fun j=>(σ[j]?).join
def cxC (X:Cx) (N:List Str) (scope:Scope) (s:Shared) (H:Hp) (ex:List Addr):Cx where
 prog:=X.prog
 w:=X.w
 K:=X.K
 mg:=X.mg
 base:=X.base
 A:=X.A
 N:=N
 s₀:=s
 H₀:=H
 env:=compEnvC scope (cy X.env scope.names []) s.heap.objs.size X.env
 outer:=X.stack
 stack:=X.stack
 ex:=ex
 fn:=fun _=>false
 calm:=X.calm
 pn:=[]
 xe:=fun _ _=>False
structure CompFacts (X:Cx) (scope:Scope):Prop where
 kind:scope.kind=.function
 nocell:∀ x ∈ scope.names,x.2 ≠ .cell
 names:∀ x ∈ scope.names,x.2=.local->scope.names.lookup x.1=some .local
 free:∀ x ∈ scope.names,x.2=.free->X.env.kindOf x.1=some .cell\/X.env.kindOf x.1=some .free
theorem lM {X:Cx} {scope:Scope} (h:ni X.env.scope scope=true):CompFacts X scope:=by
 unfold ni at h
 simp only [Bool.and_eq_true,beq_iff_eq,List.all_eq_true,Bool.or_eq_true,bne_iff_ne] at h
 obtain ⟨⟨h1,_⟩,h2⟩:=h
 refine ⟨h1,fun x hx=>(h2 x hx).1.1,fun x hx e=>?_,fun x hx e=>?_⟩
 ·rcases (h2 x hx).1.2 with z | z
  ·exact absurd e z
  ·exact z
 ·rcases (h2 x hx).2 with z | z
  ·exact absurd e z
  ·exact z
theorem CompFacts.cells {X:Cx} {scope:Scope} (f:CompFacts X scope) (ok:X.Ok):∀ x ∈ scope.names,x.2=.free->∃ c,X.env.cells.lookup x.1=some c:=fun x hx e=>ok.has x.1 (f.free x hx e)
theorem CompFacts.cl {X:Cx} {scope:Scope} (f:CompFacts X scope) (ok:X.Ok) {n:Str} {c:Addr} (h:(cy X.env scope.names []).lookup n=some c):X.env.cells.lookup n=some c:=by
 rcases cls_in _ _ _ _ (f.cells ok) h with z | z
 ·exact z
 ·cases z
theorem CompFacts.kf {X:Cx} {scope:Scope} (f:CompFacts X scope) {x:Str} (h:(relabel scope X.env).names.lookup x=some .cell\/(relabel scope X.env).names.lookup x=some .free):scope.names.lookup x=some .free:=by
 unfold relabel at h
 simp only at h
 rw [cH] at h
 cases e:scope.names.lookup x with
 | none=>rw [e] at h; rcases h with z | z<;>cases z
 | some k=>
  rw [e] at h
  simp only [Option.map_some,Option.some.injEq] at h
  cases k with
  | free=>rfl
  | cell=>exact absurd rfl (f.nocell _ (PySem.mem_of_lookup e))
  | _=>simp at h
theorem CompFacts.fk {X:Cx} {scope:Scope} {x:Str} (h:scope.names.lookup x=some .free):(relabel scope X.env).names.lookup x=some .cell\/(relabel scope X.env).names.lookup x=some .free:=by
 unfold relabel
 simp only
 rw [cH,h]
 simp only [Option.map_some,Option.some.injEq]
 split
 ·exact .inl rfl
 ·exact .inr rfl
theorem srcOk_ix {XN N:List Str} {src:List (Option Nat)} {scope:Scope} (h:ij XN N src scope=true):src.length=N.length/\∀ (i:Nat) (x:Str) (j:Nat),N[i]? = some x->src[i]? = some (some j)->XN[j]? = some x/\scope.names.lookup x=some .free:=by
 unfold ij at h
 simp only [Bool.and_eq_true,beq_iff_eq,List.all_eq_true] at h
 refine ⟨h.1,fun i x j h1 h2=>?_⟩
 have hi:i < N.length:=(List.getElem?_eq_some_iff.mp h1).1
 have q:=h.2 i (List.mem_range.mpr hi)
 rw [h2,h1] at q
 simp only [Option.join_some,Bool.and_eq_true,beq_iff_eq,Option.any_some] at q
 exact ⟨q.1.symm,q.2⟩
section
variable {X:Cx} {pins:List (Addr × Obj)} {σ:St} {H:Hp} {s:Shared}
theorem comp_start {N:List Str} {src:List (Option Nat)} {scope:Scope} {ex:List Addr} {h1:Heap} {m:Str->Option Value} {tk:Nat} (I:Inv X pins σ H s) (f:CompFacts X scope) (hsrc:ij X.N N src scope=true)
  (hex:∀ b ∈ ex,b < s.heap.objs.size/\b ≠ X.env.locals/\b ∉ X.fs/\(∀ x c,X.env.cells.lookup x=some c->c ≠ b)/\∀ o,X.base.get? b ≠ some o)
  (hn:h1.Ns s.heap.objs.size m) (hk:∀ b o,s.heap.get? b=some o->h1.get? b=some o) :
  Inv (cxC X N scope s H ex) [] (bW src σ) H { s with heap:=h1,toks:=tk }:=by
 obtain ⟨hlen,hix⟩:=srcOk_ix hsrc
 have ok:=I.ok
 have cellL:∀ x c,(cy X.env scope.names []).lookup x=some c->∃ v,s.heap.IsCell c v:=fun x c e=>I.cell x c (f.cl ok e)
 have cellLt:∀ x c,(cy X.env scope.names []).lookup x=some c->c < s.heap.objs.size:=fun x c e=>by
  obtain ⟨v,o,ho,_⟩:=cellL x c e
  exact Heap.lt_size ho
 have fsL:∀ b ∈ frs X.stack,b ∈ X.env.locals :: X.fs:=I.stkSub
 refine ⟨⟨ok.mod,f.kind,ok.glob,ok.blt,Nat.le_refl _,fun x y c h1 h2=>ok.inj x y c (f.cl ok h1) (f.cl ok h2),fun x hx=>?_,fun x c hx=>?_,ok.hd,ok.frames,.inl rfl,fun b hb=>⟨Nat.ne_of_lt (hex b hb).1,fun x c e=>(hex b hb).2.2.2.1 x c (f.cl ok e)⟩,I.bs,Nat.le_trans ok.bsz I.sz,fun b o e hb=>(hex b hb).2.2.2.2 o e,fun b hb hb'=>?_,I.stack,I.stkFree⟩,
  rfl,I.bare,Un.kept hk,⟨m,hn,fun i x v e1 e2 e3=>?_⟩,fun x c e=>?_,I.hok.fresh (Nat.le_refl _),fun x c e=>I.freeC x c (f.cl ok e),fun p hp=>absurd (show p ∈ ([]:List (Addr × Obj)) from hp) (by simp),I.hok.kept hk,?_⟩
 ·exact ii _ _ _ (PySem.mem_of_lookup (f.kf hx))
 ·cases hx
 ·rcases List.mem_cons.mp (fsL b hb') with z | z
  ·exact (hex b hb).2.1 z
  ·exact (hex b hb).2.2.1 z
 ·have e2':(bW src σ)[i]? = some (some v):=e2
  unfold bW at e2'
  rw [List.getElem?_map] at e2'
  cases hs:src[i]? with
  | none=>rw [hs] at e2'; cases e2'
  | some o=>
   rw [hs] at e2'
   cases o with
   | none=>cases e2'
   | some j=>
    obtain ⟨q1,q2⟩:=hix i x j e1 hs
    have e4:σ[j]? = some (some v):=by
     simp only [Option.map_some,Option.bind_some,Option.some.injEq] at e2'
     cases z:σ[j]? with
     | none=>rw [z] at e2'; cases e2'
     | some o=>rw [z] at e2'; simp only [Option.join_some] at e2'; rw [e2']
    have kx:=f.free (x,.free) (PySem.mem_of_lookup q2) rfl
    obtain ⟨mX,hnX,hl⟩:=I.loc
    obtain ⟨u,r,l⟩:=hl j x v q1 e4 (by rcases kx with z | z; exact .inr (.inl z); exact .inr (.inr z))
    refine ⟨u,r,.inr ⟨CompFacts.fk (X:=X) q2,?_⟩⟩
    rcases l with ⟨l,_⟩ | ⟨_,c,ec,ic⟩
    ·rcases kx with z | z
     ·rw [z] at l; cases l
     ·rw [z] at l; cases l
    ·obtain ⟨c',hc'⟩:=ii (env:=X.env) scope.names [] x (PySem.mem_of_lookup q2)
     have z:=f.cl ok hc'
     rw [ec] at z
     cases z
     obtain ⟨oc,ho,hd⟩:=ic
     exact ⟨c,hc',oc,hk c oc ho,hd⟩
 ·obtain ⟨v,o,ho,hd⟩:=cellL x c e
  exact ⟨v,o,hk c o ho,hd⟩
 ·show (bW src σ).length=N.length
  unfold bW
  rw [List.length_map]
  exact hlen
def PIf (X:Cx) (ifs:List Expr) (t:TT):Prop:=
 ∀ (pins:List (Addr × Obj)) (s:Shared) (σ:St) (H:Hp) (Q:Bool->Hp->Prop),Inv X pins σ H s->t σ H Q->
  wpAny (model X.prog X.w) X.A (forIn ifs true fun c r=>if r=true then do let ok <- isTrue c X.env (eval c X.env); pure (ForInStep.yield ok) else pure (ForInStep.yield r)) (TP X pins σ Q) X.xe s
def tYes:TT:=fun _ H Q=>Q true H
theorem bi:PIf X [] tYes:=fun pins s σ H Q I h=>wpAny_pure ⟨H,I,h⟩
theorem fg {c:Expr} {t:TT} (hc:PT X c t):PIf X [c] t:=by
 intro pins s σ H Q I h
 rw [List.forIn_cons]
 simp only [if_true]
 refine wpAny_bind (wpAny_bind (thn (hc pins s σ H Q I h) fun b s1 q=>wpAny_pure ?_))
 exact wpAny_pure q
def cT (J:It) (src:List (Option Nat)) (g:TG) (tt:TT) (te:TE) (σ:St) (H1:Hp) (Q:VK):Prop:=∀ acc,H1 acc=none->
 ∃ W:Nat->Nat->St->Hp->Prop,(∃ m,W 0 m (bW src σ) (upd H1 acc (.lst [])))/\∀ i m σ H,W i m σ H->
  (J.stop i H/\Q (.ref acc) H)\/(J.go i H/\∃ N:St->Hp->Prop,(∀ σ' H',N σ' H'->∃ m',m' < m/\W (i + 1) m' σ' H')/\∀ x H',J.yld i H x H'->g x σ H' fun σ2 H2=>tt σ2 H2 fun b H3=>
   if b=true then te σ2 H3 fun y H4=>∃ ys,H4 acc=some (.lst ys)/\ys.length < sizeLine/\N σ2 (upd H4 acc (.lst (ys ++ [y]))) else N σ2 H3)
def tComp (src:List (Option Nat)) (wi:TI) (g:TG) (tt:TT) (te:TE):TE:=fun σ H Q=>wi σ H fun J H1=>cT J src g tt te σ H1 Q
theorem comp_run {elt tg iter:Expr} {ifs:List Expr} {scope:Scope} {pos:Pos} {N:List Str} {src:List (Option Nat)} {g:TG} {tt:TT} {te:TE} (use:Option (Value->Sem Unit)) (PQ:Value->Shared->Prop) (E:Value->Shared->Prop)
  (hcalm:X.calm=true) (f:CompFacts X scope) (hsrc:ij X.N N src scope=true)
  (hb:∀ (s:Shared) (H:Hp) (ex:List Addr),PG (cxC X N scope s H ex) tg g/\PIf (cxC X N scope s H ex) ifs tt/\PE (cxC X N scope s H ex) elt te)
  {it:Addr} {fp:List Addr} {tn:Nat->Heap->Prop} {J:It} (I:Inv X pins σ H s) (T:m7 X.prog X.w X.K tg J fp it tn) (st:tn 0 s.heap) (hf:∀ b ∈ fp,eM X pins H b) {Q:VK}
  (h:cT J src g tt te σ H Q)
  (hfin:∀ (acc C:Addr) (s':Shared) (H':Hp) (m:Str->Option Value),s'.heap.Ns C m->eM X pins H' C->(∀ h',Heap.SameBut C s'.heap h'->Inv X pins σ H' { s' with heap:=h' })->Q (.ref acc) H'->compPost (model X.prog X.w) X.A E use PQ (.ref acc) C (.ok .next) s') :
  wpAny (model X.prog X.w) X.A (newList []) (fun acc s₃=>
   wpAny (model X.prog X.w) X.A (newFunctionEnv scope X.env.globals (cy X.env scope.names []) [] X.env.qual none .none (some X.env)) (fun cenv s₄=>
    codeAny (model X.prog X.w) X.A (.compStart (.ListComp elt [⟨tg,iter,ifs,0⟩] scope pos) 0 (.ref it) acc { cenv with scope:=relabel scope X.env }) (compPost (model X.prog X.w) X.A E use PQ acc cenv.locals) s₄) E s₃) E s:=by
 have ok:=I.ok
 have I3:Inv X pins σ (upd H s.heap.objs.size (.lst [])) { s with heap:=s.heap.push { cls:=.type "list",data:=.seq ([]:List Value).toArray },toks:=s.toks }:=I.lnew (ys:=[]) (its:=[]) .nil (Nat.zero_le _)
 obtain ⟨W,⟨m0,w0⟩,turn⟩:=h s.heap.objs.size (I.hok.fresh (Nat.le_refl _))
 refine wpAny_newObj_type (wpAny_newFunctionEnv f.nocell (by intro y hy; simp at hy) (fun h₁ hns₁ hsb₁=>?_) f.kind)
 dsimp only at hns₁ hsb₁ ⊢
 generalize hs3:({ s with heap:=s.heap.push { cls:=.type "list",data:=.seq ([]:List Value).toArray },toks:=s.toks }:Shared)=s3 at I3
 have e3:s3.heap=s.heap.push { cls:=.type "list",data:=.seq ([]:List Value).toArray }:=by rw [<- hs3]
 have hk:∀ b o,s3.heap.get? b=some o->h₁.get? b=some o:=fun b o e=>by
  rw [e3] at e
  exact hsb₁.extBut b o (Nat.ne_of_lt (Heap.lt_size e)) (Heap.get?_push_of_some _ e)
 have up3:∀ b o,s.heap.get? b=some o->s3.heap.get? b=some o:=fun b o e=>by rw [e3]; exact Heap.get?_push_of_some _ e
 have nacc:∀ b ∈ fp,b ≠ s.heap.objs.size:=fun b hb z=>by
  obtain ⟨o,e,_⟩:=T.obj 0 _ st b hb
  exact absurd (Heap.lt_size e) (by rw [z]; exact Nat.lt_irrefl _)
 have hex:∀ b ∈ fp,b < s3.heap.objs.size/\b ≠ X.env.locals/\b ∉ X.fs/\(∀ x c,X.env.cells.lookup x=some c->c ≠ b)/\∀ o,X.base.get? b ≠ some o:=fun b hb=>by
  obtain ⟨o,e,_⟩:=T.obj 0 _ st b hb
  obtain ⟨f0,f1,f2,f3,f4,f5⟩:=hf b hb
  refine ⟨Heap.lt_size (up3 b o e),f1,f2,f4,fun o' z=>?_⟩
  rcases f3 with q | q
  ·exact ok.noex b o' z q
  ·exact absurd (Nat.lt_of_lt_of_le (Heap.lt_size (ok.bs b o' z).1) q) (Nat.lt_irrefl _)
 have hns₁':h₁.Ns s3.heap.objs.size (fun x=>([]:List (Str × Value)).reverse.lookup x):=by rw [e3]; exact hns₁
 have IY0:Inv (cxC X N scope s3 (upd H s.heap.objs.size (.lst [])) fp) [] (bW src σ) (upd H s.heap.objs.size (.lst [])) { s3 with heap:=h₁,toks:=s.toks + ([]:List (Str × Value)).length }:=
  comp_start (tk:=s.toks + ([]:List (Str × Value)).length) I3 f hsrc hex hns₁' hk
 generalize hY:cxC X N scope s3 (upd H s.heap.objs.size (.lst [])) fp=Y at IY0
 have hb':PG Y tg g/\PIf Y ifs tt/\PE Y elt te:=by rw [<- hY]; exact hb s3 _ fp
 obtain ⟨hg,ht,he⟩:=hb'
 have Yp:Y.prog=X.prog:=by rw [<- hY]; rfl
 have Yw:Y.w=X.w:=by rw [<- hY]; rfl
 have YK:Y.K=X.K:=by rw [<- hY]; rfl
 have YA:Y.A=X.A:=by rw [<- hY]; rfl
 have Yc:Y.calm=true:=by rw [<- hY]; exact hcalm
 have Yx:Y.xe=fun _ _=>False:=by rw [<- hY]; rfl
 have Ye:Y.env=compEnvC scope (cy X.env scope.names []) s3.heap.objs.size X.env:=by rw [<- hY]; rfl
 have Ys:Y.s₀=s3:=by rw [<- hY]; rfl
 have YH:Y.H₀=upd H s.heap.objs.size (.lst []):=by rw [<- hY]; rfl
 have Yf:Y.fs=frs X.stack:=by rw [<- hY]; rfl
 have Yex:Y.ex=fp:=by rw [<- hY]; rfl
 have Ypn:Y.pn=[]:=by rw [<- hY]; rfl
 have stat:∀ {H':Hp},(∀ b ∈ fp,H' b=none)->∀ b ∈ fp,eM Y [] H' b:=fun {H'} hn b hb=>by
  obtain ⟨x1,x2,x3,x4,x5⟩:=hex b hb
  refine ⟨hn b hb,?_,?_,.inl (by rw [Yex]; exact hb),?_,fun p hp=>?_⟩
  ·rw [Ye]; exact Nat.ne_of_lt x1
  ·rw [Yf]
   intro z
   rcases List.mem_cons.mp (I.stkSub b z) with q | q
   ·exact x2 q
   ·exact x3 q
  ·rw [Ye]
   intro x c e
   exact x4 x c (f.cl ok e)
  ·rw [Ypn] at hp
   exact absurd hp (by simp)
 have loop:∀ s4:Shared,s4=({ s3 with heap:=h₁,toks:=s.toks + ([]:List (Str × Value)).length }:Shared)->
   codeAny (model X.prog X.w) X.A (.compLoop (.ListComp elt [⟨tg,iter,ifs,0⟩] scope pos) 0 (.ref it) (.ref s.heap.objs.size) (compEnvC scope (cy X.env scope.names []) s3.heap.objs.size X.env))
    (compPost (model X.prog X.w) X.A E use PQ (.ref s.heap.objs.size) s3.heap.objs.size) s4:=by
  rintro s4 rfl
  refine io (fun n s'=>∃ i σ' H',Inv Y [] σ' H' s'/\tn i s'.heap/\(∀ b ∈ fp,H' b=none)/\W i n σ' H') ?_ m0
   ⟨0,bW src σ,_,IY0,T.keep 0 _ _ st fun b hb o e=>hk b o (up3 b o e),fun b hb=>by rw [ao (nacc b hb)]; exact (hf b hb).1,w0⟩
  rintro n s5 ⟨i,σ5,H5,I5,st5,fr5,w5⟩
  rcases turn i n σ5 H5 w5 with ⟨stop,qn⟩ | ⟨go,Nn,hNn,step⟩
  ·have q:=T.done Y Yp Yw YK Yc i [] s5 σ5 H5 (fun _ _=>False) I5 (stat fr5) st5 stop
   rw [YA] at q
   refine thn q fun r s6 ⟨hr,I6⟩=>?_
   subst hr
   obtain ⟨m6,hn6,_⟩:=id I6.loc
   have eL:Y.env.locals=s3.heap.objs.size:=by rw [Ye]; rfl
   rw [eL] at hn6
   refine hfin s.heap.objs.size s3.heap.objs.size s6 H5 m6 hn6 (I3.fpOk (Nat.le_refl _) (by have z:=I6.free; rw [eL] at z; exact z)) (fun h' sb=>?_) qn
   ·have b6:=I6.base
    rw [Ys,YH,Yf,Yex] at b6
    have ne:∀ b o,s3.heap.get? b=some o->b ≠ s3.heap.objs.size:=fun b o e=>Nat.ne_of_lt (Heap.lt_size e)
    have u6:Un (frs X.stack) fp (upd H s.heap.objs.size (.lst [])) H5 s3.heap h':=
     ⟨fun b o e n hb hx=>(sb.2 b (ne b o e)).trans (b6.keep b o e n hb hx),fun b o e n hb hx=>by
       obtain ⟨sl,z⟩:=b6.slot b o e n hb hx
       exact ⟨sl,(sb.2 b (ne b o e)).trans z⟩,b6.free,fun b o e hx=>by
       obtain ⟨o',z⟩:=b6.there b o e hx
       exact ⟨o',(sb.2 b (ne b o e)).trans z⟩,b6.tups,b6.frzs,b6.tbls⟩
    have fL:H5 s3.heap.objs.size=none:=by
     have z:=I6.free
     rw [eL] at z
     exact z
    have hok6:HOk X.prog X.w H5 h':=by
     have z:=I6.hok
     rw [Yp,Yw] at z
     intro b ob e
     refine (z b ob e).stay (fun c w' hc q=>(sb.2 c ?_).trans q) (fun _ q=>q) fun _ _ q=>q
     rintro rfl
     rcases hc with rfl | hc
     ·rw [fL] at e; cases e
     ·rw [fL] at hc; cases hc
    have os6:s6.os=s3.os:=by
     have z:=I6.os
     rw [Ys] at z
     exact z
    refine Inv.call' (s':={ s6 with heap:=h' }) I3 os6 u6 hok6 I6.bare fun b hb=>?_
    obtain ⟨f0,f1,f2,f3,f4,f5⟩:=hf b hb
    exact ⟨f3,f1,f4,f5⟩
  ·have q:=T.item Y Yp Yw YK Yc i [] s5 σ5 H5 (fun _ _=>False) I5 (stat fr5) st5 go
   rw [YA] at q
   refine thn q fun r s6 ⟨u,hr,h6⟩=>?_
   subst hr
   refine thn h6 fun _ s7 ⟨x,H7,I7,r7,y7,st7,fr7⟩=>?_
   have I7':=I7.pinned (stat fr7) (T.obj _ _ st7)
   have back:∀ {σ9:St} {H9:Hp} {s9:Shared},Inv Y ([] ++ iX fp s7.heap) σ9 H9 s9->tn (i + 1) s9.heap/\∀ b ∈ fp,H9 b=none:=fun {σ9 H9 s9} I9=>
    ⟨T.keep _ _ _ st7 fun b hb o e=>(I9.pin (b,o) (List.mem_append_right _ (List.mem_append_right _ (cN hb e)))).1,fun b hb=>by
     obtain ⟨o,e,d⟩:=T.obj _ _ st7 b hb
     exact (I9.pin (b,o) (List.mem_append_right _ (List.mem_append_right _ (cN hb e)))).2.1⟩
   have g1:=hg _ s7 σ5 H7 x u _ I7' r7 (step x H7 y7)
   rw [YA,Yx,Yp,Yw,Ye] at g1
   refine thn g1 fun _ s8 ⟨σ8,H8,I8,q8⟩=>?_
   have g2:=ht _ s8 σ8 H8 _ I8 q8
   rw [YA,Yx,Yp,Yw,Ye] at g2
   refine thn g2 fun b s9 ⟨H9,I9,q9⟩=>?_
   cases b with
   | false=>
    simp only [Bool.false_eq_true,if_false] at q9 ⊢
    obtain ⟨m',hm,w9⟩:=hNn _ _ q9
    exact ⟨m',hm,i + 1,σ8,H9,I9.unpinned,(back I9).1,(back I9).2,w9⟩
   | true=>
    simp only [if_true] at q9 ⊢
    have g3:=he _ s9 σ8 H9 _ I9 q9
    rw [YA,Yx,Yp,Yw,Ye] at g3
    refine thn g3 fun yv s10 ⟨y,H10,I10,r10,ys,hys,hz,n10⟩=>?_
    obtain ⟨m',hm,w10⟩:=hNn _ _ n10
    have g4:=cQ (X:=Y) _ s10 σ8 H10 (.ref s.heap.objs.size) [y] (.ref s.heap.objs.size) [yv] (fun _ H11=>H11=upd H10 s.heap.objs.size (.lst (ys ++ [y]))) I10 rfl (.cons r10 .nil) ⟨_,ys,y,rfl,rfl,hys,hz,rfl⟩
    rw [YA,Yx,Yp,Yw] at g4
    refine thn g4 fun _ s11 ⟨_,H11,I11,_,e11⟩=>?_
    subst e11
    exact ⟨m',hm,i + 1,σ8,_,I11.unpinned,(back I11).1,(back I11).2,w10⟩
 have q:=loop _ rfl
 have eqs:({ s3 with heap:=h₁,toks:=s.toks + ([]:List (Str × Value)).length }:Shared)={ s with heap:=h₁,toks:=s.toks + ([]:List (Str × Value)).length }:=by rw [<- hs3]
 rw [eqs] at q
 rw [e3] at q
 have stn:tn 0 h₁:=T.keep 0 _ _ st fun b hb o e=>hk b o (up3 b o e)
 exact codeAny_compStart_list q (T.self X.A 0 _ _ _ stn q)
theorem bj {elt tg iter:Expr} {ifs:List Expr} {scope:Scope} {pos:Pos} {N:List Str} {src:List (Option Nat)} {wi:TI} {g:TG} {tt:TT} {te:TE}
  (hcalm:X.calm=true) (hsc:ni X.env.scope scope=true) (hsrc:ij X.N N src scope=true) (hi:PI X tg iter wi)
  (hb:∀ (s:Shared) (H:Hp) (ex:List Addr),PG (cxC X N scope s H ex) tg g/\PIf (cxC X N scope s H ex) ifs tt/\PE (cxC X N scope s H ex) elt te)
  (hs:∀ x,foldedSetIterable iter X.env x=pure x:=by intro _; rfl) :
  PE X (.ListComp elt [⟨tg,iter,ifs,0⟩] scope pos) (tComp src wi g tt te):=by
 intro pins s σ H Q I h
 have f:=lM hsc
 rw [eval_ListComp]
 refine wpAny_comprehension_free (use:=none) rfl hs (gM (f.cells I.ok)) f.kind f.names (thn (hi pins s σ H _ I h) fun v s1 h1=>thn h1 fun itv s2 h2=>?_)
 obtain ⟨it,fp,tn,J,H2,rfl,I2,T,st2,f2,q2⟩:=h2
 refine comp_run (N:=N) (src:=src) none (EP X pins σ Q) X.xe hcalm f hsrc hb I2 T st2 f2 q2 ?_
 intro acc C s' H' m hn _ hI hq
 exact ⟨m,hn,fun h' sb=>⟨.ref acc,H',hI h' sb,rfl,hq⟩⟩
theorem mM {i:Nat} {y:Str} {py spos:Pos} {elt tg iter:Expr} {ifs:List Expr} {scope:Scope} {pos:Pos} {N:List Str} {src:List (Option Nat)} {wi:TI} {g:TG} {tt:TT} {te:TE}
  (hN:X.N.Nodup) (hix:X.N[i]? = some y) (hx:Loc X.env.scope y)
  (hcalm:X.calm=true) (hsc:ni X.env.scope scope=true) (hsrc:ij X.N N src scope=true) (hi:PI X tg iter wi)
  (hb:∀ (s:Shared) (H:Hp) (ex:List Addr),PG (cxC X N scope s H ex) tg g/\PIf (cxC X N scope s H ex) ifs tt/\PE (cxC X N scope s H ex) elt te)
  (hs:∀ x,foldedSetIterable iter X.env x=pure x:=by intro _; rfl)
  (hsw:swapsWith (.ListComp elt [⟨tg,iter,ifs,0⟩] scope pos) (some (.Name y py)) spos.line X.env=pure true:=by rfl)
  (hf:X.fn y=true\/X.env.scope.names.lookup y=some .local:=by first | exact .inl rfl | exact .inr rfl | assumption) :
  PS X (.Assign [.Name y py] (.ListComp elt [⟨tg,iter,ifs,0⟩] scope pos) spos) (tAsg (tComp src wi g tt te) (cI i)):=by
 intro pins s σ H D I h
 have f:=lM hsc
 rw [exec_Assign_Name_used _ _ _ _ hsw]
 refine wpAny_bind (wpAny_standAt (wpAny_bind ?_))
 show wpAny _ X.A (do let _ <- comprehension (.ListComp elt [⟨tg,iter,ifs,0⟩] scope pos) scope X.env _ (newList []) false (eval iter X.env) (some (assign (.Name y py) X.env))) _ _ s
 refine wpAny_bind (wpAny_mono (wpAny_comprehension_free (use:=some (assign (.Name y py) X.env)) (Q:=fun _ s'=>SP X pins D .next s') rfl hs (gM (f.cells I.ok)) f.kind f.names
  (thn (hi pins s σ H _ I h) fun v s1 h1=>thn h1 fun itv s2 h2=>?_)) (fun _ s' hq=>wpAny_pure (wpAny_pure hq)) fun _ _ e=>e)
 obtain ⟨it,fp,tn,J,H2,rfl,I2,T,st2,f2,q2⟩:=h2
 refine comp_run (N:=N) (src:=src) (some (assign (.Name y py) X.env)) (fun _ s'=>SP X pins D .next s') X.xe hcalm f hsrc hb I2 T st2 f2 (Q:=fun x H1=>cI i x σ H1 D.nx) q2 ?_
 intro acc C s' H' m hn fpC hI hq
 obtain ⟨c0,c1,c2,c3,c4,c5⟩:=fpC
 have I':Inv X pins σ H' s':=hI s'.heap (Heap.SameBut.refl ..)
 show wpAny _ X.A (assign (.Name y py) X.env (.ref acc)) _ _ _
 refine wpAny_assign_Name (lO (v:=.ref acc) I' hN hix hx rfl (fun s2 J2 ⟨a,sb,ha⟩=>?_) hf)
 have hCa:C ≠ a:=by
  rcases ha with rfl | ha
  ·exact c1
  ·exact fun z=>c4 y a ha z.symm
 refine ⟨m,hn.sameBut sb hCa,fun h' sb'=>?_⟩
 exact ⟨_,H',J2.turned (t':=s2.toks) (fun b o hb e=>(sb'.2 b hb).trans e) c0 c1 c3 c4 c5,hq⟩
end
end L2
namespace L2
open PySem PySem.Spec PyProof.Rows
def SqI (t:Bool) (h:Heap) (it l:Addr) (i:Nat):Prop:=if t=true then h.IsTupleIter it l i else h.IsListIter it l i
def SqO (t:Bool) (h:Heap) (l:Addr) (xs:Array Value):Prop:=if t=true then h.IsTuple l xs else h.IsList l xs
def SqV (t:Bool) (K:Frag) (H:Hp) (a:Addr) (xs:List V):Prop:=if t=true then SqT K H a xs else SqL K H a xs
theorem SqI.at {t:Bool} {h h':Heap} {it l:Addr} {i:Nat} (x:SqI t h it l i) (k:∀ o,h.get? it=some o->h'.get? it=some o):SqI t h' it l i:=by
 cases t
 ·exact Heap.IsListIter.at x k
 ·obtain ⟨o,ho,r⟩:=(show h.IsTupleIter it l i from x)
  exact (show h'.IsTupleIter it l i from ⟨o,k o ho,r⟩)
theorem SqI.obj {t:Bool} {h:Heap} {it l:Addr} {i:Nat} (x:SqI t h it l i):∃ o,h.get? it=some o/\∀ v,o.data ≠ .cell v:=by
 cases t
 ·obtain ⟨o,ho,_,d⟩:=(show h.IsListIter it l i from x)
  exact ⟨o,ho,fun v z=>by rw [d] at z; cases z⟩
 ·obtain ⟨o,ho,_,d⟩:=(show h.IsTupleIter it l i from x)
  exact ⟨o,ho,fun v z=>by rw [d] at z; cases z⟩
theorem SqO.at {t:Bool} {h h':Heap} {l:Addr} {xs:Array Value} (x:SqO t h l xs) (k:∀ o,h.get? l=some o->h'.get? l=some o):SqO t h' l xs:=by
 cases t
 ·obtain ⟨o,ho,r⟩:=(show h.IsList l xs from x)
  exact (show h'.IsList l xs from ⟨o,k o ho,r⟩)
 ·obtain ⟨o,ho,r⟩:=(show h.IsTuple l xs from x)
  exact (show h'.IsTuple l xs from ⟨o,k o ho,r⟩)
theorem SqO.obj {t:Bool} {h:Heap} {l:Addr} {xs:Array Value} (x:SqO t h l xs):∃ o,h.get? l=some o:=by
 cases t
 ·obtain ⟨o,ho,r⟩:=(show h.IsList l xs from x)
  exact ⟨o,ho⟩
 ·obtain ⟨o,ho,r⟩:=(show h.IsTuple l xs from x)
  exact ⟨o,ho⟩
theorem Inv.seqV {X:Cx} {pins:List (Addr × Obj)} {σ:St} {H:Hp} {s:Shared} {t:Bool} {a:Addr} {xs:List V} (I:Inv X pins σ H s) (h:SqV t X.K H a xs):∃ its:List Value,Vals xs its/\SqO t s.heap a its.toArray/\xs.length <= sizeLine:=by
 cases t
 ·obtain ⟨its,r,p,z⟩:=I.list (show SqL X.K H a xs from h)
  exact ⟨its,r,p.isList,z⟩
 ·obtain ⟨its,r,p,z⟩:=I.tuple (show SqT X.K H a xs from h)
  exact ⟨its,r,p,z⟩
theorem Inv.seqV_inj {X:Cx} {pins:List (Addr × Obj)} {σ:St} {H:Hp} {s:Shared} {t:Bool} {a:Addr} {xs ys:List V} (I:Inv X pins σ H s) (h:SqV t X.K H a xs) (h':SqV t X.K H a ys):xs=ys:=by
 cases t
 ·exact I.list_inj h h'
 ·exact I.tuple_inj h h'
section
variable {prog:Program} {w:World} {A:Around} {E:Value->Shared->Prop} {s:Shared}
theorem ie {it l:Addr} {i:Nat} {items:Array Value} {x:Value} {Q:Value->Shared->Prop} (hit:s.heap.IsTupleIter it l i)
  (hl:s.heap.IsTuple l items) (hx:items[i]? = some x)
  (hQ:∀ h',h'.IsTupleIter it l (i + 1)->Heap.SameBut it s.heap h'->Q x { s with heap:=h' }) :
  wpAny (model prog w) A (Builtin.SmallTypes.nextOf (.ref it)) Q E s:=by
 obtain ⟨o,ho,hc,hd⟩:=id hit
 obtain ⟨ol,hol,_,nl,hdl⟩:=hl
 unfold Builtin.SmallTypes.nextOf
 refine wpAny_bind (wpAny_callSpecial?_slot (name:=Str.ofString "__next__") hit.typeIs F.slot_tuple_iterator_next
  (wpAny_call_entry F.slot_tuple_iterator_next hit.typeIs F.entry_tuple_iterator_next ?_ (F.args_tuple_iterator_next_1 _)))
 show wpAny _ _ (field (.ref it) 0 >>= _) _ _ s
 refine wpAny_bind (wpAny_field ho hd (x:=.ref l) rfl ?_)
 show wpAny _ _ (if (Value.ref l == Value.none)=true then _ else _) _ _ s
 rw [if_neg (show ¬ ((Value.ref l == Value.none)=true) from Bool.false_ne_true)]
 show wpAny _ _ (field (.ref it) 1 >>= _) _ _ s
 refine wpAny_bind (wpAny_field ho hd (x:=.int i 0) rfl ?_)
 show wpAny _ _ (seqItems? (.ref l) >>= _) _ _ s
 refine wpAny_bind (wpAny_seqItems hol hdl ?_)
 simp only [Int.toNat_natCast,hx]
 refine wpAny_bind (wpAny_setField ho hd (by simp) (wpAny_pure ⟨x,rfl,wpAny_pure (hQ _ ?_ (Heap.SameBut.update ..))⟩))
 exact ⟨_,Heap.get?_update_self _ ho (Obj.isFreed_of_fields (Obj.data_mapFields hd _)),(Obj.cls_mapFields ..).trans hc,by
  rw [Obj.data_mapFields hd]; simp [rawInt]⟩
theorem iY {it l:Addr} {i:Nat} {items:Array Value} {Q:Value->Shared->Prop} (hh:A.handled=none)
  (hit:s.heap.IsTupleIter it l i) (hl:s.heap.IsTuple l items) (hx:items[i]? = none)
  (hE:∀ h' e,Heap.ExtBut it s.heap h'->(∃ o,h'.get? e=some o/\o.cls=.type "StopIteration")->E (.ref e) { s with heap:=h' }) :
  wpAny (model prog w) A (Builtin.SmallTypes.nextOf (.ref it)) Q E s:=by
 obtain ⟨o,ho,hc,hd⟩:=id hit
 obtain ⟨ol,hol,_,nl,hdl⟩:=hl
 unfold Builtin.SmallTypes.nextOf
 refine wpAny_bind (wpAny_callSpecial?_slot (name:=Str.ofString "__next__") hit.typeIs F.slot_tuple_iterator_next
  (wpAny_call_entry F.slot_tuple_iterator_next hit.typeIs F.entry_tuple_iterator_next ?_ (F.args_tuple_iterator_next_1 _)))
 show wpAny _ _ (field (.ref it) 0 >>= _) _ _ s
 refine wpAny_bind (wpAny_field ho hd (x:=.ref l) rfl ?_)
 show wpAny _ _ (if (Value.ref l == Value.none)=true then _ else _) _ _ s
 rw [if_neg (show ¬ ((Value.ref l == Value.none)=true) from Bool.false_ne_true)]
 show wpAny _ _ (field (.ref it) 1 >>= _) _ _ s
 refine wpAny_bind (wpAny_field ho hd (x:=.int i 0) rfl ?_)
 show wpAny _ _ (seqItems? (.ref l) >>= _) _ _ s
 refine wpAny_bind (wpAny_seqItems hol hdl ?_)
 simp only [Int.toNat_natCast,hx]
 refine wpAny_bind (wpAny_rule (wpAny_bind (wpAny_setField ho hd (by simp) ?_)))
 show wpAny _ _ (newExc (.type "StopIteration") [] >>= _) _ _ _
 refine wpAny_bind ?_
 simp only [newExc,newTuple]
 refine wpAny_bind (wpAny_newObj_type ?_ (by size_fits))
 refine wpAny_bind (m:=firstArgMember _ _) (wpAny_of_eq (a:=Value.none) (by first | rfl | (simp only [firstArgMember]; rfl)) ?_)
 refine wpAny_newObj_type ?_ (by size_fits)
 simp only [raiseNew]
 refine wpAny_bind (wpAny_handled ?_)
 first | rw [show A.in1.handled=none from hh] | rw [hh]
 refine wpAny_bind (wpAny_pure (wpAny_throw ?_))
 exact hE _ _ (((Heap.SameBut.update ..).extBut.push _).push _) ⟨_,Heap.get?_push_size _ rfl,rfl⟩
theorem fq {t:Bool} {it l:Addr} {i:Nat} {items:Array Value} {x:Value} {Q:Value->Shared->Prop} (hit:SqI t s.heap it l i)
  (hl:SqO t s.heap l items) (hx:items[i]? = some x)
  (hQ:∀ h',SqI t h' it l (i + 1)->Heap.SameBut it s.heap h'->Q x { s with heap:=h' }) :
  wpAny (model prog w) A (Builtin.SmallTypes.nextOf (.ref it)) Q E s:=by
 cases t
 ·exact wpAny_nextOf_list_item hit hl hx hQ
 ·exact ie hit hl hx hQ
theorem kC {t:Bool} {it l:Addr} {i:Nat} {items:Array Value} {Q:Value->Shared->Prop} (hh:A.handled=none)
  (hit:SqI t s.heap it l i) (hl:SqO t s.heap l items) (hx:items[i]? = none)
  (hE:∀ h' e,Heap.ExtBut it s.heap h'->(∃ o,h'.get? e=some o/\o.cls=.type "StopIteration")->E (.ref e) { s with heap:=h' }) :
  wpAny (model prog w) A (Builtin.SmallTypes.nextOf (.ref it)) Q E s:=by
 cases t
 ·exact wpAny_nextOf_list_end hh hit hl hx hE
 ·exact iY hh hit hl hx hE
theorem f8 {t:Bool} {l:Addr} {items:Array Value} {Q:Value->Shared->Prop} (hl:SqO t s.heap l items)
  (hQ:∀ o,SqI t (s.heap.push o) s.heap.objs.size l 0->Q (.ref s.heap.objs.size) { s with heap:=s.heap.push o }):wpAny (model prog w) A (pyIter (.ref l)) Q E s:=by
 cases t
 ·exact wpAny_pyIter_list hl (hQ _ (show Heap.IsListIter _ _ _ _ from ⟨_,Heap.get?_push_size _ rfl,rfl,rfl⟩))
 ·exact wpAny_pyIter_tuple hl (hQ _ (show Heap.IsTupleIter _ _ _ _ from ⟨_,Heap.get?_push_size _ rfl,rfl,rfl⟩))
theorem zipN_item {t1 t2:Bool} {z TI TO i1 i2 l1 l2:Addr} {k1 k2:Nat} {xs ys:Array Value} {x y a b:Value} {Q:Value->Shared->Prop} (D:ZipApart z TI TO i1 i2 l1 l2)
  (hz:IsZip s.heap z TI TO .none) (hTI:IsPair s.heap TI (.ref i1) (.ref i2)) (hTO:IsPair s.heap TO a b)
  (h1:SqI t1 s.heap i1 l1 k1) (h2:SqI t2 s.heap i2 l2 k2) (hl1:SqO t1 s.heap l1 xs) (hl2:SqO t2 s.heap l2 ys) (hx:xs[k1]? = some x) (hy:ys[k2]? = some y)
  (hQ:∀ h',IsZip h' z TI TO (rawInt s.heap.objs.size)->IsPair h' TO x y->SqI t1 h' i1 l1 (k1 + 1)->SqI t2 h' i2 l2 (k2 + 1)->IsPair h' s.heap.objs.size x y->h'.objs.size=s.heap.objs.size + 1->
   (∀ c o,c ≠ z->c ≠ TO->c ≠ i1->c ≠ i2->s.heap.get? c=some o->h'.get? c=some o)->Q (.ref s.heap.objs.size) { s with heap:=h' }) :
  wpAny (model prog w) A (Builtin.«zip.__next__» ⟨[.ref z],[]⟩) (fun fin s'=>∃ v,fin=.done (.ret v)/\Q v s') E s:=by
 show wpAny _ _ (field (.ref z) 2 >>= _) _ _ _
 refine wpAny_bind (wpAny_field hz rfl (x:=.bool false) rfl ?_)
 show wpAny _ _ (field (.ref z) 3 >>= _) _ _ _
 refine wpAny_bind (wpAny_field hz rfl (x:=.ref TI) rfl ?_)
 refine wpAny_bind (wpAny_seqItems hTI rfl ?_)
 show wpAny _ _ (Builtin.SmallTypes.ownedTupleIsFree (.ref z) >>= _) _ _ _
 refine wpAny_bind ?_
 unfold Builtin.SmallTypes.ownedTupleIsFree
 refine wpAny_bind (wpAny_field hz rfl (x:=.none) rfl (wpAny_pure ?_))
 simp only [if_true]
 refine wpAny_bind (wpAny_rule ?_)
 refine wpAny_bind (wpAny_field hz rfl (x:=.ref TO) rfl ?_)
 refine wpAny_bind (wpAny_setField_rec hz (by simp) fun h₁ hz₁ hs₁=>?_)
 replace hz₁:IsZip h₁ z TI TO .ellipsis:=hz₁
 refine wpAny_bind ?_
 simp only [List.zipIdx_cons,List.zipIdx_nil,List.forIn_cons,List.forIn_nil]
 refine wpAny_bind (wpAny_bind (wpAny_onRaise ?_))
 show wpAny _ _ (Builtin.SmallTypes.nextOf (.ref i1) >>= _) _ _ _
 refine wpAny_bind (fq (h1.at fun o e=>hs₁.extBut _ _ D.i1z e) (hl1.at fun o e=>hs₁.extBut _ _ D.l1z e) hx fun h₂ h1₂ hs₂=>wpAny_pure ?_)
 have hTO₂:IsPair h₂ TO a b:=hs₂.extBut _ _ D.TOi1 (hs₁.extBut _ _ D.TOz hTO)
 refine wpAny_bind (wpAny_seqItems hTO₂ rfl ?_)
 refine wpAny_bind (wpAny_updateSeq_pair hTO₂ fun h₃ hTO₃ hs₃=>?_)
 replace hTO₃:IsPair h₃ TO x b:=hTO₃
 refine wpAny_bind (wpAny_letGo (wpAny_pure ?_))
 refine wpAny_bind (wpAny_bind (wpAny_onRaise ?_))
 show wpAny _ _ (Builtin.SmallTypes.nextOf (.ref i2) >>= _) _ _ _
 refine wpAny_bind (fq (h2.at fun o e=>hs₃.extBut _ _ D.TOi2.symm (hs₂.extBut _ _ D.i12.symm (hs₁.extBut _ _ D.i2z e)))
  (hl2.at fun o e=>hs₃.extBut _ _ D.l2TO (hs₂.extBut _ _ D.l2i1 (hs₁.extBut _ _ D.l2z e))) hy fun h₄ h2₄ hs₄=>wpAny_pure ?_)
 have hTO₄:IsPair h₄ TO x b:=hs₄.extBut _ _ D.TOi2 hTO₃
 refine wpAny_bind (wpAny_seqItems hTO₄ rfl ?_)
 refine wpAny_bind (wpAny_updateSeq_pair hTO₄ fun h₅ hTO₅ hs₅=>?_)
 replace hTO₅:IsPair h₅ TO x y:=hTO₅
 refine wpAny_bind (wpAny_letGo (wpAny_pure (wpAny_pure ?_)))
 refine wpAny_bind (wpAny_seqItems hTO₅ rfl ?_)
 refine wpAny_bind (wpAny_newTuple ?_)
 have hsz:h₅.objs.size=s.heap.objs.size:=by rw [hs₅.1,hs₄.1,hs₃.1,hs₂.1,hs₁.1]
 have hz₅:IsZip h₅ z TI TO .ellipsis:=hs₅.extBut _ _ D.TOz.symm (hs₄.extBut _ _ D.i2z.symm (hs₃.extBut _ _ D.TOz.symm (hs₂.extBut _ _ D.i1z.symm hz₁)))
 have hk₅:∀ c o,c ≠ z->c ≠ TO->c ≠ i1->c ≠ i2->s.heap.get? c=some o->h₅.get? c=some o:=fun c o c1 c2 c3 c4 e=>
  hs₅.extBut _ _ c2 (hs₄.extBut _ _ c4 (hs₃.extBut _ _ c2 (hs₂.extBut _ _ c3 (hs₁.extBut _ _ c1 e))))
 have h1₅:SqI t1 h₅ i1 l1 (k1 + 1):=h1₂.at fun o e=>hs₅.extBut _ _ D.TOi1.symm (hs₄.extBut _ _ D.i12 (hs₃.extBut _ _ D.TOi1.symm e))
 have h2₅:SqI t2 h₅ i2 l2 (k2 + 1):=h2₄.at fun o e=>hs₅.extBut _ _ D.TOi2.symm e
 have hzlt:z < h₅.objs.size:=Heap.lt_size hz₅
 have hTOlt:TO < h₅.objs.size:=Heap.lt_size hTO₅
 show wpAny _ _ (Builtin.SmallTypes.ownedTupleHandOut (.ref z) (.ref h₅.objs.size) >>= _) _ _ _
 refine wpAny_bind ?_
 unfold Builtin.SmallTypes.ownedTupleHandOut
 have hz₆:IsZip (h₅.push { cls:=.type "tuple",data:=.seq #[x,y] }) z TI TO .ellipsis:=Heap.get?_push_of_some _ hz₅
 refine wpAny_bind (wpAny_setField_rec hz₆ (by simp) fun h₇ hz₇ hs₇=>?_)
 replace hz₇:IsZip h₇ z TI TO (rawInt h₅.objs.size):=hz₇
 refine wpAny_setField_rec hz₇ (by simp) fun h₈ hz₈ hs₈=>?_
 replace hz₈:IsZip h₈ z TI TO (rawInt h₅.objs.size):=hz₈
 have up:∀ c o,c ≠ z->h₅.get? c=some o->h₈.get? c=some o:=fun c o c1 e=>hs₈.extBut _ _ c1 (hs₇.extBut _ _ c1 (Heap.get?_push_of_some _ e))
 have hT₈:IsPair h₈ h₅.objs.size x y:=hs₈.extBut _ _ (Nat.ne_of_gt hzlt) (hs₇.extBut _ _ (Nat.ne_of_gt hzlt) (Heap.get?_push_size _ rfl))
 have hz8:h₈.objs.size=h₅.objs.size + 1:=by rw [hs₈.1,hs₇.1,Heap.size_push]
 rw [hsz] at hz₈ hT₈ hz8
 refine wpAny_pure ⟨_,rfl,?_⟩
 show Q (.ref h₅.objs.size) _
 rw [hsz]
 exact hQ h₈ hz₈ (up _ _ D.TOz hTO₅) (h1₅.at fun o e=>up _ o D.i1z e) (h2₅.at fun o e=>up _ o D.i2z e) hT₈ hz8 fun c o c1 c2 c3 c4 e=>up c o c1 (hk₅ c o c1 c2 c3 c4 e)
theorem zipN_end {t1 t2:Bool} {z TI TO i1 i2 l1 l2:Addr} {k1 k2:Nat} {xs ys:Array Value} {a b:Value} {Q:PySem.Fin->Shared->Prop} (hh:A.handled=none) (D:ZipApart z TI TO i1 i2 l1 l2)
  (hz:IsZip s.heap z TI TO .none) (hTI:IsPair s.heap TI (.ref i1) (.ref i2)) (hTO:IsPair s.heap TO a b)
  (h1:SqI t1 s.heap i1 l1 k1) (h2:SqI t2 s.heap i2 l2 k2) (hl1:SqO t1 s.heap l1 xs) (hl2:SqO t2 s.heap l2 ys) (hend:xs[k1]? = none\/ys[k2]? = none)
  (hE:∀ h' e,(∀ c o,c ≠ z->c ≠ TO->c ≠ i1->c ≠ i2->s.heap.get? c=some o->h'.get? c=some o)->(∃ o,h'.get? e=some o/\o.cls=.type "StopIteration")->E (.ref e) { s with heap:=h' }) :
  wpAny (model prog w) A (Builtin.«zip.__next__» ⟨[.ref z],[]⟩) Q E s:=by
 show wpAny _ _ (field (.ref z) 2 >>= _) _ _ _
 refine wpAny_bind (wpAny_field hz rfl (x:=.bool false) rfl ?_)
 show wpAny _ _ (field (.ref z) 3 >>= _) _ _ _
 refine wpAny_bind (wpAny_field hz rfl (x:=.ref TI) rfl ?_)
 refine wpAny_bind (wpAny_seqItems hTI rfl ?_)
 show wpAny _ _ (Builtin.SmallTypes.ownedTupleIsFree (.ref z) >>= _) _ _ _
 refine wpAny_bind ?_
 unfold Builtin.SmallTypes.ownedTupleIsFree
 refine wpAny_bind (wpAny_field hz rfl (x:=.none) rfl (wpAny_pure ?_))
 simp only [if_true]
 refine wpAny_bind (wpAny_rule ?_)
 refine wpAny_bind (wpAny_field hz rfl (x:=.ref TO) rfl ?_)
 refine wpAny_bind (wpAny_setField_rec hz (by simp) fun h₁ hz₁ hs₁=>?_)
 replace hz₁:IsZip h₁ z TI TO .ellipsis:=hz₁
 refine wpAny_bind ?_
 simp only [List.zipIdx_cons,List.zipIdx_nil,List.forIn_cons,List.forIn_nil]
 refine wpAny_bind (wpAny_bind (wpAny_onRaise ?_))
 show wpAny _ _ (Builtin.SmallTypes.nextOf (.ref i1) >>= _) _ _ _
 cases hx:xs[k1]? with
 | none=>
  refine wpAny_bind (kC hh (h1.at fun o e=>hs₁.extBut _ _ D.i1z e) (hl1.at fun o e=>hs₁.extBut _ _ D.l1z e) hx fun h₂ e hs₂ he=>?_)
  obtain ⟨oe,hoe,hce⟩:=he
  have hz₂:IsZip h₂ z TI TO .ellipsis:=hs₂ _ _ D.i1z.symm hz₁
  have hez:e ≠ z:=fun x=>by subst x; rw [hz₂] at hoe; cases hoe; simp at hce
  refine wpAny_setField_rec hz₂ (by simp) fun h₃ _ hs₃=>hE h₃ e (fun c o c1 _ c3 _ x=>hs₃.extBut _ _ c1 (hs₂ _ _ c3 (hs₁.extBut _ _ c1 x))) ⟨oe,hs₃.extBut _ _ hez hoe,hce⟩
 | some x=>
  have hy:ys[k2]? = none:=by rcases hend with h | h; rw [hx] at h; cases h; exact h
  refine wpAny_bind (fq (h1.at fun o e=>hs₁.extBut _ _ D.i1z e) (hl1.at fun o e=>hs₁.extBut _ _ D.l1z e) hx fun h₂ h1₂ hs₂=>wpAny_pure ?_)
  have hTO₂:IsPair h₂ TO a b:=hs₂.extBut _ _ D.TOi1 (hs₁.extBut _ _ D.TOz hTO)
  refine wpAny_bind (wpAny_seqItems hTO₂ rfl ?_)
  refine wpAny_bind (wpAny_updateSeq_pair hTO₂ fun h₃ hTO₃ hs₃=>?_)
  refine wpAny_bind (wpAny_letGo (wpAny_pure ?_))
  refine wpAny_bind (wpAny_bind (wpAny_onRaise ?_))
  show wpAny _ _ (Builtin.SmallTypes.nextOf (.ref i2) >>= _) _ _ _
  refine wpAny_bind (kC hh (h2.at fun o e=>hs₃.extBut _ _ D.TOi2.symm (hs₂.extBut _ _ D.i12.symm (hs₁.extBut _ _ D.i2z e)))
   (hl2.at fun o e=>hs₃.extBut _ _ D.l2TO (hs₂.extBut _ _ D.l2i1 (hs₁.extBut _ _ D.l2z e))) hy fun h₄ e hs₄ he=>?_)
  obtain ⟨oe,hoe,hce⟩:=he
  have hz₄:IsZip h₄ z TI TO .ellipsis:=hs₄ _ _ D.i2z.symm (hs₃.extBut _ _ D.TOz.symm (hs₂.extBut _ _ D.i1z.symm hz₁))
  have hez:e ≠ z:=fun x=>by subst x; rw [hz₄] at hoe; cases hoe; simp at hce
  refine wpAny_setField_rec hz₄ (by simp) fun h₅ _ hs₅=>hE h₅ e (fun c o c1 c2 c3 c4 x=>hs₅.extBut _ _ c1 (hs₄ _ _ c4 (hs₃.extBut _ _ c2 (hs₂.extBut _ _ c3 (hs₁.extBut _ _ c1 x))))) ⟨oe,hs₅.extBut _ _ hez hoe,hce⟩
theorem iK {t1 t2:Bool} {z TI TO i1 i2 l1 l2:Addr} {k1 k2:Nat} {xs ys:Array Value} {x y a b:Value} {Q:Option Value->Shared->Prop} (D:ZipApart z TI TO i1 i2 l1 l2)
  (hz:IsZip s.heap z TI TO .none) (hTI:IsPair s.heap TI (.ref i1) (.ref i2)) (hTO:IsPair s.heap TO a b)
  (h1:SqI t1 s.heap i1 l1 k1) (h2:SqI t2 s.heap i2 l2 k2) (hl1:SqO t1 s.heap l1 xs) (hl2:SqO t2 s.heap l2 ys) (hx:xs[k1]? = some x) (hy:ys[k2]? = some y)
  (hQ:∀ h',IsZip h' z TI TO (rawInt s.heap.objs.size)->IsPair h' TO x y->SqI t1 h' i1 l1 (k1 + 1)->SqI t2 h' i2 l2 (k2 + 1)->IsPair h' s.heap.objs.size x y->h'.objs.size=s.heap.objs.size + 1->
   (∀ c o,c ≠ z->c ≠ TO->c ≠ i1->c ≠ i2->s.heap.get? c=some o->h'.get? c=some o)->Q (some (.ref s.heap.objs.size)) { s with heap:=h' }) :
  wpAny (model prog w) A (pyNext (.ref z)) Q E s:=by
 have hT:s.TypeIs (.ref z) "zip":=⟨_,hz,rfl⟩
 unfold pyNext
 exact wpAny_bind (wpAny_attempt (wpAny_callSpecial?_slot (name:=Str.ofString "__next__") hT F.slot_zip_next
  (wpAny_call_entry F.slot_zip_next hT F.entry_zip_next
   (zipN_item D hz hTI hTO h1 h2 hl1 hl2 hx hy fun h' a1 a2 a3 a4 a5 a6 a7=>wpAny_pure (hQ h' a1 a2 a3 a4 a5 a6 a7)) (F.args_zip_next_1 _))))
theorem ji {t1 t2:Bool} {z TI TO i1 i2 l1 l2:Addr} {k1 k2:Nat} {xs ys:Array Value} {a b:Value} {Q:Option Value->Shared->Prop} (hh:A.handled=none) (D:ZipApart z TI TO i1 i2 l1 l2)
  (hz:IsZip s.heap z TI TO .none) (hTI:IsPair s.heap TI (.ref i1) (.ref i2)) (hTO:IsPair s.heap TO a b)
  (h1:SqI t1 s.heap i1 l1 k1) (h2:SqI t2 s.heap i2 l2 k2) (hl1:SqO t1 s.heap l1 xs) (hl2:SqO t2 s.heap l2 ys) (hend:xs[k1]? = none\/ys[k2]? = none)
  (hQ:∀ h',(∀ c o,c ≠ z->c ≠ TO->c ≠ i1->c ≠ i2->s.heap.get? c=some o->h'.get? c=some o)->Q none { s with heap:=h' }):wpAny (model prog w) A (pyNext (.ref z)) Q E s:=by
 have hT:s.TypeIs (.ref z) "zip":=⟨_,hz,rfl⟩
 unfold pyNext
 refine wpAny_bind (wpAny_attempt (wpAny_callSpecial?_slot (name:=Str.ofString "__next__") hT F.slot_zip_next
  (wpAny_call_entry F.slot_zip_next hT F.entry_zip_next (zipN_end hh D hz hTI hTO h1 h2 hl1 hl2 hend fun h' e hk he=>?_) (F.args_zip_next_1 _))))
 obtain ⟨o,ho,hc⟩:=he
 refine wpAny_bind (wpAny_isInstance (T := "StopIteration") (b:=true) ⟨o,ho,hc⟩ isSubtype_stop ?_)
 exact wpAny_pure (hQ _ hk)
end
end L2
namespace L2
open PySem PySem.Spec PyProof.Rows
def itObj (t:Bool) (l:Addr):Obj:=if t=true then { cls:=.type "tuple_iterator",data:=.fields #[.ref l,.int 0 0] } else { cls:=.type "list_iterator",data:=.fields #[.ref l,.int 0 0] }
theorem itObj_is {t:Bool} {h:Heap} {it l:Addr} (e:h.get? it=some (itObj t l)):SqI t h it l 0:=by
 cases t
 ·exact (show h.IsListIter it l 0 from ⟨_,e,rfl,rfl⟩)
 ·exact (show h.IsTupleIter it l 0 from ⟨_,e,rfl,rfl⟩)
abbrev zpH1 (t1:Bool) (h:Heap) (l1:Addr):Heap:=h.push (itObj t1 l1)
abbrev zpH2 (t1 t2:Bool) (h:Heap) (l1 l2:Addr):Heap:=(zpH1 t1 h l1).push (itObj t2 l2)
abbrev zpH3 (t1 t2:Bool) (h:Heap) (l1 l2:Addr):Heap:=(zpH2 t1 t2 h l1 l2).push { cls:=.type "tuple",data:=.seq #[.ref h.objs.size,.ref (zpH1 t1 h l1).objs.size] }
abbrev zpH4 (t1 t2:Bool) (h:Heap) (l1 l2:Addr):Heap:=(zpH3 t1 t2 h l1 l2).push { cls:=.type "tuple",data:=.seq #[.none,.none] }
abbrev zpH5 (t1 t2:Bool) (h:Heap) (l1 l2:Addr):Heap:=(zpH4 t1 t2 h l1 l2).push { cls:=.type "zip",data:=.fields #[.none,.bool false,.bool false,.ref (zpH2 t1 t2 h l1 l2).objs.size,.ref (zpH3 t1 t2 h l1 l2).objs.size] }
set_option maxHeartbeats 8000000 in
theorem meets_zipN (t1 t2:Bool) (l1 l2:Addr) (xs ys:Array Value) :
  Meets (Builtin.«zip.__new__» ⟨[.type "zip",.ref l1,.ref l2],[]⟩) (fun _ R s=>SqO t1 s.heap l1 xs/\SqO t2 s.heap l2 ys/\
   R (.ok (.ret (.ref (zpH4 t1 t2 s.heap l1 l2).objs.size))) { s with heap:=zpH5 t1 t2 s.heap l1 l2 }):=
 .of_wp fun prog w A R s h=>by
  obtain ⟨hp,g,d,tk,os⟩:=s; obtain ⟨hl1,hl2,h⟩:=h
  have hsub:=sub_zip
  cases t1<;>cases t2
  ·have hL1:Heap.IsList (Shared.heap ⟨hp,g,d,tk,os⟩) l1 xs:=hl1
   have hL2:Heap.IsList (Shared.heap ⟨hp.push { cls:=.type "list_iterator",data:=.fields #[.ref l1,.int 0 0] },g,d,tk,os⟩) l2 ys:=Heap.IsList.push hl2 _
   wp_walk using wpAny_pyIter_list hL1,wpAny_pyIter_list hL2
   exact ⟨_,rfl,h⟩
  ·have hL1:Heap.IsList (Shared.heap ⟨hp,g,d,tk,os⟩) l1 xs:=hl1
   have hL2:Heap.IsTuple (Shared.heap ⟨hp.push { cls:=.type "list_iterator",data:=.fields #[.ref l1,.int 0 0] },g,d,tk,os⟩) l2 ys:=Heap.IsTuple.push hl2 _
   wp_walk using wpAny_pyIter_list hL1,wpAny_pyIter_tuple hL2
   exact ⟨_,rfl,h⟩
  ·have hL1:Heap.IsTuple (Shared.heap ⟨hp,g,d,tk,os⟩) l1 xs:=hl1
   have hL2:Heap.IsList (Shared.heap ⟨hp.push { cls:=.type "tuple_iterator",data:=.fields #[.ref l1,.int 0 0] },g,d,tk,os⟩) l2 ys:=Heap.IsList.push hl2 _
   wp_walk using wpAny_pyIter_tuple hL1,wpAny_pyIter_list hL2
   exact ⟨_,rfl,h⟩
  ·have hL1:Heap.IsTuple (Shared.heap ⟨hp,g,d,tk,os⟩) l1 xs:=hl1
   have hL2:Heap.IsTuple (Shared.heap ⟨hp.push { cls:=.type "tuple_iterator",data:=.fields #[.ref l1,.int 0 0] },g,d,tk,os⟩) l2 ys:=Heap.IsTuple.push hl2 _
   wp_walk using wpAny_pyIter_tuple hL1,wpAny_pyIter_tuple hL2
   exact ⟨_,rfl,h⟩
section
variable {prog:Program} {w:World} {A:Around} {E:Value->Shared->Prop} {s:Shared}
theorem call_zipN {t1 t2:Bool} {l1 l2:Addr} {xs ys:Array Value} {Q:Value->Shared->Prop} (hl1:SqO t1 s.heap l1 xs) (hl2:SqO t2 s.heap l2 ys)
  (h:∀ h',IsZip h' (s.heap.objs.size + 4) (s.heap.objs.size + 2) (s.heap.objs.size + 3) .none->IsPair h' (s.heap.objs.size + 2) (.ref s.heap.objs.size) (.ref (s.heap.objs.size + 1))->
   IsPair h' (s.heap.objs.size + 3) .none .none->SqI t1 h' s.heap.objs.size l1 0->SqI t2 h' (s.heap.objs.size + 1) l2 0->h'.objs.size=s.heap.objs.size + 5->
   (∀ c o,s.heap.get? c=some o->h'.get? c=some o)->Q (.ref (s.heap.objs.size + 4)) { s with heap:=h' }) :
  wpAny (model prog w) A (call (.type "zip") [.ref l1,.ref l2]) Q E s:=by
 refine callType_new F.called_zip (by decide) (F.typeCall_zip_2 _ _) (F.newCall_zip_2 _ _) (fun obj=>F.args_object_init_3 obj _ _) F.entry_zip_new
  (meets_zipN t1 t2 l1 l2 xs ys) ⟨hl1,hl2,?_⟩
 have fr:∀ t l,(itObj t l).isFreed=false:=fun t l=>by cases t<;>rfl
 have z1:(zpH1 t1 s.heap l1).objs.size=s.heap.objs.size + 1:=Heap.size_push ..
 have z2:(zpH2 t1 t2 s.heap l1 l2).objs.size=s.heap.objs.size + 2:=by rw [Heap.size_push,z1]
 have z3:(zpH3 t1 t2 s.heap l1 l2).objs.size=s.heap.objs.size + 3:=by rw [Heap.size_push,z2]
 have z4:(zpH4 t1 t2 s.heap l1 l2).objs.size=s.heap.objs.size + 4:=by rw [Heap.size_push,z3]
 have z5:(zpH5 t1 t2 s.heap l1 l2).objs.size=s.heap.objs.size + 5:=by rw [Heap.size_push,z4]
 have g5:(zpH5 t1 t2 s.heap l1 l2).get? (zpH4 t1 t2 s.heap l1 l2).objs.size=some _:=Heap.get?_push_size _ rfl
 have g4:(zpH5 t1 t2 s.heap l1 l2).get? (zpH3 t1 t2 s.heap l1 l2).objs.size=some _:=Heap.get?_push_of_some _ (Heap.get?_push_size _ rfl)
 have g3:(zpH5 t1 t2 s.heap l1 l2).get? (zpH2 t1 t2 s.heap l1 l2).objs.size=some _:=Heap.get?_push_of_some _ (Heap.get?_push_of_some _ (Heap.get?_push_size _ rfl))
 have g2:(zpH5 t1 t2 s.heap l1 l2).get? (zpH1 t1 s.heap l1).objs.size=some _:=Heap.get?_push_of_some _ (Heap.get?_push_of_some _ (Heap.get?_push_of_some _ (Heap.get?_push_size _ (fr t2 l2))))
 have g1:(zpH5 t1 t2 s.heap l1 l2).get? s.heap.objs.size=some _:=Heap.get?_push_of_some _ (Heap.get?_push_of_some _ (Heap.get?_push_of_some _ (Heap.get?_push_of_some _ (Heap.get?_push_size _ (fr t1 l1)))))
 show _/\_
 rw [z2,z3,z4] at g5
 rw [z1,z2] at g3
 rw [z3] at g4
 rw [z1] at g2
 rw [z4]
 exact ⟨⟨_,g5,rfl⟩,h _ g5 g3 g4 (itObj_is g1) (itObj_is g2) z5 fun c o x=>
  Heap.get?_push_of_some _ (Heap.get?_push_of_some _ (Heap.get?_push_of_some _ (Heap.get?_push_of_some _ (Heap.get?_push_of_some _ x))))⟩
end
end L2
namespace L2
open PySem PySem.Spec PyProof.Rows
def Itz (t1 t2:Bool) (K:Frag) (a b:Addr):It:=
 ⟨fun i H=>∃ xs ys x y,SqV t1 K H a xs/\SqV t2 K H b ys/\xs[i]? = some x/\ys[i]? = some y,
  fun i H v H'=>∃ p x y,v=.ref p/\H p=none/\H'=upd H p (.tup [x,y])/\(∀ xs,SqV t1 K H a xs->xs[i]? = some x)/\∀ ys,SqV t2 K H b ys->ys[i]? = some y,
  fun i H=>∃ xs ys,SqV t1 K H a xs/\SqV t2 K H b ys/\(xs.length <= i\/ys.length <= i)⟩
def Zst (t1 t2:Bool) (z TI TO i1 i2 a b:Addr) (i:Nat) (h:Heap):Prop:=
 IsZip h z TI TO .none/\IsPair h TI (.ref i1) (.ref i2)/\(∃ x y,IsPair h TO x y)/\SqI t1 h i1 a i/\SqI t2 h i2 b i
structure ZDist (z TI TO i1 i2:Addr):Prop where
 TIz:TI ≠ z
 TOz:TO ≠ z
 i1z:i1 ≠ z
 i2z:i2 ≠ z
 TITO:TI ≠ TO
 TIi1:TI ≠ i1
 TIi2:TI ≠ i2
 TOi1:TO ≠ i1
 TOi2:TO ≠ i2
 i12:i1 ≠ i2
theorem Inv.turnedN {X:Cx} {pins:List (Addr × Obj)} {σ:St} {H:Hp} {s:Shared} {h':Heap} {t':Nat} {fp:List Addr} (I:Inv X pins σ H s) (k:∀ b o,b ∉ fp->s.heap.get? b=some o->h'.get? b=some o) (hf:∀ b ∈ fp,eM X pins H b):Inv X pins σ H { s with heap:=h',toks:=t' }:=by
 have nit:∀ b u,H b=some u->b ∉ fp:=fun b u e z=>by rw [(hf b z).1] at e; cases e
 refine I.step (g':=s.gens) (d':=s.drawn) (ch:=fp) (fun b hb=>?_) (fun b o _ _ hc e _=>k b o hc e) (fun b o _ _ hc e _=>⟨o.slots,k b o hc e⟩) (fun _ _ _ _ n=>n)
  (fun b o hc e=>⟨o,k b o hc e⟩) (fun _ _ e=>e) (fun _ _ _ e=>e) (fun b ps e=>⟨#[],by rw [e]; simp⟩) (fun m hm=>?_) (fun b u e=>?_) I.bare
 ·obtain ⟨f0,f1,f2,f3,f4,f5⟩:=hf b hb
  exact ⟨f3,f1,f4,f5⟩
 ·obtain ⟨o,es,ep,ho,r⟩:=hm
  exact ⟨o,es,ep,k _ o (fun z=>(hf _ z).2.1 rfl) ho,r⟩
 ·refine (I.hok b u e).stay (fun c v hc q=>k c v ?_ q) (fun _ q=>q) fun _ _ q=>q
  rcases hc with z | z
  ·rw [z]; exact nit b u e
  ·exact nit c _ z
theorem zdist (n:Nat):ZDist (n + 4) (n + 2) (n + 3) n (n + 1):=by
 constructor<;>(intro h; have h':(_:Nat)=_:=h; omega)
theorem fC {X:Cx} {pins:List (Addr × Obj)} {σ:St} {H:Hp} {s:Shared} {fp:List Addr} {t:Bool} {l:Addr} {vs:List V} (I:Inv X pins σ H s) (hf:∀ b ∈ fp,eM X pins H b) (q:SqV t X.K H l vs):l ∉ fp:=fun hl=>by
 have hn:=hf l hl
 have old:∀ o,X.K.lookup l=some o->False:=fun o hk=>by
  rcases hn.2.2.2.1 with z' | z'
  ·exact I.ok.noex l o (I.ok.mod.kin l o hk) z'
  ·exact absurd (Nat.lt_of_lt_of_le (Heap.lt_size (I.ok.bs l o (I.ok.mod.kin l o hk)).1) z') (Nat.lt_irrefl _)
 cases t
 ·rcases (show SqL X.K H l vs from q) with (q | ⟨o,q⟩) | ⟨o,_,_,hk,_⟩
  ·rw [hn.1] at q; cases q
  ·rw [hn.1] at q; cases q
  ·exact old o hk
 ·rcases (show SqT X.K H l vs from q) with (q | ⟨o,q⟩) | ⟨o,_,_,hk,_⟩
  ·rw [hn.1] at q; cases q
  ·rw [hn.1] at q; cases q
  ·exact old o hk
theorem turn_zip {P:Program} {w:World} {K:Frag} {es:List Expr} {ek:Nat} {ep:Pos} {t1 t2:Bool} (a b z TI TO i1 i2:Addr) (D:ZDist z TI TO i1 i2) :
  m7 P w K (.Tuple es ek ep) (Itz t1 t2 K a b) [z,TI,TO,i1,i2] z (Zst t1 t2 z TI TO i1 i2 a b) where
 mem:=by simp
 obj:=fun i h ⟨hz,hTI,⟨x,y,hTO⟩,h1,h2⟩ c hc=>by
  simp only [List.mem_cons,List.not_mem_nil,or_false] at hc
  rcases hc with rfl | rfl | rfl | rfl | rfl
  ·exact ⟨_,hz,fun v z=>by cases z⟩
  ·exact ⟨_,hTI,fun v z=>by cases z⟩
  ·exact ⟨_,hTO,fun v z=>by cases z⟩
  ·exact h1.obj
  ·exact h2.obj
 keep:=fun i h h' ⟨hz,hTI,⟨x,y,hTO⟩,h1,h2⟩ k=>
  ⟨k z (by simp) _ hz,k TI (by simp) _ hTI,⟨x,y,k TO (by simp) _ hTO⟩,h1.at fun o e=>k i1 (by simp) o e,h2.at fun o e=>k i2 (by simp) o e⟩
 item:=by
  intro X hP hw hK hc i pins s σ H E I hf st hg
  subst hP hw hK
  obtain ⟨xs,ys,x,y,qx,qy,hx,hy⟩:=hg
  obtain ⟨hz,hTI,⟨xo,yo,hTO⟩,h1,h2⟩:=st
  obtain ⟨ix,rx,px,zx⟩:=I.seqV qx
  obtain ⟨iy,ry,py,zy⟩:=I.seqV qy
  obtain ⟨u,hu,ru⟩:=rx.get hx
  obtain ⟨v,hv,rv⟩:=ry.get hy
  have inFp:∀ c,c ∈ [z,TI,TO,i1,i2]->H c=none:=fun c hc=>(hf c hc).1
  have na:=fC I hf qx
  have nb:=fC I hf qy
  simp only [List.mem_cons,List.not_mem_nil,or_false,not_or] at na nb
  have DA:ZipApart z TI TO i1 i2 a b:=⟨D.TIz,D.TOz,D.i1z,D.i2z,D.TITO,D.TIi1,D.TIi2,D.TOi1,D.TOi2,D.i12,na.1,na.2.2.1,na.2.2.2.1,na.2.2.2.2,nb.1,nb.2.2.1,nb.2.2.2.1,nb.2.2.2.2⟩
  refine iK DA hz hTI hTO h1 h2 px py (x:=u) (y:=v) (by simpa using hu) (by simpa using hv) fun h' a1 a2 a3 a4 a5 a6 hk=>?_
  refine ⟨_,rfl,wpAny_letOwnedTupleGo_zip a1 fun h'' hz'' sb=>?_⟩
  have kk:∀ c o,c ∉ [z,TI,TO,i1,i2]->s.heap.get? c=some o->h''.get? c=some o:=fun c o hc e=>by
   simp only [List.mem_cons,List.not_mem_nil,or_false,not_or] at hc
   exact (sb.2 c hc.1).trans (hk c o hc.1 hc.2.2.1 hc.2.2.2.1 hc.2.2.2.2 e)
  have lt5:∀ c ∈ [z,TI,TO,i1,i2],c < s.heap.objs.size:=fun c hc=>by
   simp only [List.mem_cons,List.not_mem_nil,or_false] at hc
   rcases hc with rfl | rfl | rfl | rfl | rfl
   ·exact Heap.lt_size hz
   ·exact Heap.lt_size hTI
   ·exact Heap.lt_size hTO
   ·obtain ⟨o,e,_⟩:=h1.obj; exact Heap.lt_size e
   ·obtain ⟨o,e,_⟩:=h2.obj; exact Heap.lt_size e
  have nT:s.heap.objs.size ∉ [z,TI,TO,i1,i2]:=fun hc=>absurd (lt5 _ hc) (Nat.lt_irrefl _)
  have hT:h''.get? s.heap.objs.size=some { cls:=.type "tuple",data:=.seq #[u,v] }:=(sb.2 _ (fun e=>nT (by simp [e]))).trans a5
  have fresh:H s.heap.objs.size=none:=I.hok.fresh (Nat.le_refl _)
  have gT:(s.heap.push { cls:=.type "tuple",data:=.seq #[u,v] }).get? s.heap.objs.size=some { cls:=.type "tuple",data:=.seq #[u,v] }:=Heap.get?_push_size _ rfl
  have I1:Inv X pins σ (upd H s.heap.objs.size (.tup [x,y])) { s with heap:=s.heap.push { cls:=.type "tuple",data:=.seq #[u,v] },toks:=s.toks }:=
   I.laid (fun b o e=>Heap.get?_push_of_some _ e) (Nat.le_refl _) ⟨by show 2 <= sizeLine; decide,[u,v],.cons ru (.cons rv .nil),_,gT,rfl,_,rfl⟩
  have fp1:∀ c ∈ [z,TI,TO,i1,i2],eM X pins (upd H s.heap.objs.size (.tup [x,y])) c:=fun c hc=>
   ⟨by rw [ao (Nat.ne_of_lt (lt5 c hc))]; exact (hf c hc).1,(hf c hc).2⟩
  have I2:=I1.turnedN (h':=h'') (t':=s.toks) (fp:=[z,TI,TO,i1,i2]) (fun c o hc e=>by
   rcases Heap.get?_push_cases e with ⟨e1,e2⟩ | e1
   ·rw [e1,e2]
    exact hT
   ·exact kk c o hc e1) fp1
  refine ⟨.ref s.heap.objs.size,_,I2,rfl,⟨_,x,y,rfl,fresh,rfl,fun xs' q=>by rw [I.seqV_inj q qx]; exact hx,fun ys' q=>by rw [I.seqV_inj q qy]; exact hy⟩,?_,fun c hc=>(fp1 c hc).1⟩
  exact ⟨hz'',(sb.2 _ D.TIz).trans (hk _ _ D.TIz D.TITO D.TIi1 D.TIi2 hTI),⟨u,v,(sb.2 _ D.TOz).trans a2⟩,a3.at fun o e=>(sb.2 _ D.i1z).trans e,a4.at fun o e=>(sb.2 _ D.i2z).trans e⟩
 done:=by
  intro X hP hw hK hc i pins s σ H E I hf st hg
  subst hP hw hK
  obtain ⟨xs,ys,qx,qy,hend⟩:=hg
  obtain ⟨hz,hTI,⟨xo,yo,hTO⟩,h1,h2⟩:=st
  obtain ⟨ix,rx,px,zx⟩:=I.seqV qx
  obtain ⟨iy,ry,py,zy⟩:=I.seqV qy
  have na:=fC I hf qx
  have nb:=fC I hf qy
  simp only [List.mem_cons,List.not_mem_nil,or_false,not_or] at na nb
  have DA:ZipApart z TI TO i1 i2 a b:=⟨D.TIz,D.TOz,D.i1z,D.i2z,D.TITO,D.TIi1,D.TIi2,D.TOi1,D.TOi2,D.i12,na.1,na.2.2.1,na.2.2.2.1,na.2.2.2.2,nb.1,nb.2.2.1,nb.2.2.2.1,nb.2.2.2.2⟩
  have lx:=rx.length
  have ly:=ry.length
  refine ji (I.ok.hd hc) DA hz hTI hTO h1 h2 px py ?_ fun h' hk=>⟨rfl,I.turnedN (t':=s.toks) (fun c o hc e=>?_) hf⟩
  ·rcases hend with q | q
   ·exact .inl (by simp; omega)
   ·exact .inr (by simp; omega)
  ·simp only [List.mem_cons,List.not_mem_nil,or_false,not_or] at hc
   exact hk c o hc.1 hc.2.2.1 hc.2.2.2.1 hc.2.2.2.2 e
 self:=fun _ _ _ _ _ st h=>wpAny_pyIter_zip st.1 h
def iZip (t1 t2:Bool) (K:Frag) (ta:TA):TI:=fun σ H R=>ta σ H fun vs H1=>∃ a b,vs=[.ref a,.ref b]/\(∃ xs,SqV t1 K H1 a xs)/\(∃ ys,SqV t2 K H1 b ys)/\R (Itz t1 t2 K a b) H1
theorem pi_zip {X:Cx} (t1 t2:Bool) {es:List Expr} {ek:Nat} {ep:Pos} {a b:Expr} {ta:TA} {p pos:Pos} (hg:Gl X "zip") (hm:X.mg "zip" = none) (ha:PA X [a,b] ta) (hs:starEach [a,b] X.env=[(false,eval a X.env),(false,eval b X.env)]:=by rfl) (hs2:starEach [b] X.env=[(false,eval b X.env)]:=by rfl) :
  PI X (.Tuple es ek ep) (.Call (.Name "zip" p) [a,b] [] pos) (iZip t1 t2 X.K ta):=by
 intro pins s σ H R I h
 refine Call_ (fM I hg hm boot_zip (PyProof.Rows.callWith_type1 (thn (ha pos pins s σ H _ I h) fun us s1 ⟨vs,H1,I1,r1,q1⟩=>?_) (by rw [hs,hs2]) (by rw [hs2]; rfl)))
 obtain ⟨l1,l2,e,⟨xs,qx⟩,⟨ys,qy⟩,q⟩:=q1
 subst e
 cases r1 with
 | cons r rr=>
  cases rr with
  | cons r' rr=>
   cases rr
   cases r
   cases r'
   obtain ⟨ix,rx,px,zx⟩:=I1.seqV qx
   obtain ⟨iy,ry,py,zy⟩:=I1.seqV qy
   refine call_zipN px py fun h' a1 a2 a3 a4 a5 a6 a7=>?_
   have I2:Inv X pins σ H1 { s1 with heap:=h',toks:=s1.toks }:=I1.kept a7
   refine wpAny_pyIter_zip (s:={ s1 with heap:=h' }) a1 ?_
   refine ⟨_,[s1.heap.objs.size + 4,s1.heap.objs.size + 2,s1.heap.objs.size + 3,s1.heap.objs.size,s1.heap.objs.size + 1],_,_,H1,rfl,I2,turn_zip l1 l2 (s1.heap.objs.size + 4) (s1.heap.objs.size + 2) (s1.heap.objs.size + 3) s1.heap.objs.size (s1.heap.objs.size + 1) (zdist _),⟨a1,a2,⟨_,_,a3⟩,a4,a5⟩,fun b hb=>?_,q⟩
   have hb':s1.heap.objs.size <= b:=by
    simp only [List.mem_cons,List.not_mem_nil,or_false] at hb
    rcases hb with rfl | rfl | rfl | rfl | rfl
    ·exact Nat.le_add_right _ _
    ·exact Nat.le_add_right _ _
    ·exact Nat.le_add_right _ _
    ·exact Nat.le_refl _
    ·exact Nat.le_add_right _ _
   exact I1.fpOk hb' (I1.hok.fresh hb')
end L2
namespace L2
open PySem PySem.Spec PyProof.Rows
mutual
inductive DR (K:Frag) (H:Hp):PyData->V->Prop
 | non:DR K H .none .non
 | bl (b:Bool):DR K H (.bool b) (.bl b)
 | int (i:Int):DR K H (.int i) (.int i)
 | str (x:Str):DR K H (.str x) (.str x)
 | tup {a:Addr} {vs:List V} {ds:List PyData}:SqT K H a vs->DRs K H ds vs->DR K H (.tuple ds) (.ref a)
 | lst {a:Addr} {vs:List V} {ds:List PyData}:SqL K H a vs->DRs K H ds vs->DR K H (.list ds) (.ref a)
inductive DRs (K:Frag) (H:Hp):List PyData->List V->Prop
 | nil:DRs K H [] []
 | cons {d:PyData} {v:V} {ds:List PyData} {vs:List V}:DR K H d v->DRs K H ds vs->DRs K H (d :: ds) (v :: vs)
end
section
variable {X:Cx} {pins:List (Addr × Obj)} {σ:St} {H:Hp} {s:Shared}
mutual
theorem DR.reads (I:Inv X pins σ H s):∀ {d:PyData} {v:V} {u:Value},DR X.K H d v->RelV v u->∃ as,Reads s.heap u d as
 | _,_,_,.non,r=>by cases (show _=Value.none from r); exact ⟨_,.none⟩
 | _,_,_,.bl b,r=>by cases (show _=Value.bool b from r); exact ⟨_,.bool b⟩
 | _,_,_,.int i,r=>by obtain ⟨t,q⟩:=(show ∃ t,_=Value.int i t from r); subst q; exact ⟨_,.int i t⟩
 | _,_,_,.str x,r=>by obtain ⟨t,q⟩:=(show ∃ t,_=Value.str x t from r); subst q; exact ⟨_,.str x t⟩
 | _,_,_,.tup (a:=a) q qs,r=>by
  cases (show _=Value.ref a from r)
  obtain ⟨its,rv,⟨o,e,c,n,d⟩,z⟩:=I.tuple q
  obtain ⟨as,ra⟩:=DRs.reads I qs rv
  exact ⟨as,.tuple e c d (by simpa using ra)⟩
 | _,_,_,.lst (a:=a) q qs,r=>by
  cases (show _=Value.ref a from r)
  obtain ⟨its,rv,⟨o,n,e,c,_,d⟩,z⟩:=I.list q
  obtain ⟨as,ra⟩:=DRs.reads I qs rv
  exact ⟨_,.list e c d (by simpa using ra)⟩
theorem DRs.reads (I:Inv X pins σ H s):∀ {ds:List PyData} {vs:List V} {us:List Value},DRs X.K H ds vs->Vals vs us->∃ as,ReadsAll s.heap us ds as
 | _,_,_,.nil,r=>by cases r; exact ⟨_,.nil⟩
 | _,_,_,.cons q qs,r=>by
  cases r with
  | cons r rr=>
   obtain ⟨as,ra⟩:=DR.reads I q r
   obtain ⟨bs,rb⟩:=DRs.reads I qs rr
   exact ⟨_,.cons ra rb⟩
end
def rEqD (K:Frag):R2:=fun x y H Q=>∃ d e,DR K H d x/\DR K H e y/\SeqAt.shaped d=true/\SeqAt.shaped e=true/\Q (.bl (PyData.eqv d e)) H
def rNeD (K:Frag):R2:=fun x y H Q=>∃ d e,DR K H d x/\DR K H e y/\SeqAt.shaped d=true/\SeqAt.shaped e=true/\Q (.bl (!PyData.eqv d e)) H
theorem op_eqD (hu:X.A.units + 64 < cLine):OpR X (compareOp .Eq) (rEqD X.K):=by
 intro pins s σ H x y v u Q I rx ry h
 obtain ⟨d,e,dx,dy,sx,sy,q⟩:=h
 obtain ⟨as,ra⟩:=dx.reads I rx
 obtain ⟨bs,rb⟩:=dy.reads I ry
 exact eq_dataH ra rb sx sy hu ⟨.bl _,H,I,rfl,q⟩
theorem op_neD (hu:X.A.units + 64 < cLine):OpR X (compareOp .NotEq) (rNeD X.K):=by
 intro pins s σ H x y v u Q I rx ry h
 obtain ⟨d,e,dx,dy,sx,sy,q⟩:=h
 obtain ⟨as,ra⟩:=dx.reads I rx
 obtain ⟨bs,rb⟩:=dy.reads I ry
 exact ne_dataH ra rb sx sy hu ⟨.bl _,H,I,rfl,q⟩
end
def dB (ns:List Int):PyData:=.tuple (ns.map .int)
theorem kn {K:Frag} {H:Hp}:∀ ns:List Int,DRs K H (ns.map PyData.int) (ns.map V.int)
 | []=>.nil
 | n :: r=>.cons (.int n) (kn r)
theorem dW {K:Frag} {H:Hp} {a:Addr} {ns:List Int} (h:SqT K H a (ns.map V.int)):DR K H (dB ns) (.ref a):=.tup h (kn ns)
theorem bI (ns:List Int):SeqAt.shaped (dB ns)=true:=by
 simp [dB,SeqAt.shaped,PyData.canLay0,PyData.depth,PySem.W.ke_canLayAll0,PySem.W.ke_depthAll]
theorem fD:∀ ns ms:List Int,PyData.eqvAll (ns.map PyData.int) (ms.map PyData.int)=decide (ns=ms)
 | [],[]=>by simp [PyData.eqvAll]
 | [],_ :: _=>by simp [PyData.eqvAll]
 | _ :: _,[]=>by simp [PyData.eqvAll]
 | a :: r,b :: t=>by
  simp only [List.map_cons,PyData.eqvAll,PyData.eqv,fD r t]
  by_cases h:a=b<;>by_cases h':r=t<;>simp [h,h']
theorem ft (ns ms:List Int):PyData.eqv (dB ns) (dB ms)=decide (ns=ms):=by
 simp only [dB,PyData.eqv]; exact fD ns ms
section
variable {X:Cx}
theorem Walks.sq {prog:Program} {w:World} {A:Around} (t:Bool) (hh:A.handled=none) (I ax:Addr) (hne:ax ≠ I) (items:Array Value) :
  Walks prog w A I [I,ax] [I] items.size (fun i v=>items[i]? = some v) (fun i h=>SqI t h I ax i/\SqO t h ax items):=by
 cases t
 ·exact Walks.list hh I ax hne items
 ·exact Walks.tuple hh I ax hne items
theorem call_allV (hc:X.calm=true) (t:Bool):cY X (.builtin "all") (fun xs H Q=>∃ (p:Addr) (bs:List Bool),xs=[.ref p]/\SqV t X.K H p (bs.map V.bl)/\Q (.bl (bs.all id)) H):=by
 intro pins s σ H xs us Q I rv h
 obtain ⟨p,bs,rfl,q,hq⟩:=h
 obtain ⟨u,rfl,ru⟩:=fm rv
 cases ru
 obtain ⟨its,rb,po,z⟩:=I.seqV q
 have hh:X.A.in1.handled=none:=I.ok.hd hc
 refine call_all_walk (f8 po fun o hi=>?_)
 have hlt:p < s.heap.objs.size:=by obtain ⟨ob,e⟩:=po.obj; exact Heap.lt_size e
 refine ⟨s.heap.objs.size,_,_,_,_,_,fun i=>bs.getD i false,rfl,Walks.sq t hh s.heap.objs.size p (Nat.ne_of_lt hlt) its.toArray,⟨hi,po.at fun o' e=>Heap.get?_push_of_some _ e⟩,?_,fun h' tk hk=>?_⟩
 ·intro i v s' Q' E' hv hQ
  have hv':its[i]? = some v:=by simpa using hv
  have hlen:=rb.length
  have hil:i < its.length:=(List.getElem?_eq_some_iff.mp hv').1
  rw [List.length_map] at hlen
  have hb:(bs.map V.bl)[i]? = some (.bl (bs.getD i false)):=by
   rw [List.getElem?_map,List.getD_eq_getElem?_getD,List.getElem?_eq_getElem (by omega)]
   rfl
  obtain ⟨u,hu,ru⟩:=rb.get hb
  rw [hv'] at hu
  cases hu
  cases (show v=Value.bool _ from ru)
  exact wpAny_truthy_bool hQ
 ·have I1:Inv X pins σ H { s with heap:=s.heap.push o,toks:=s.toks }:=I.kept fun b u e=>Heap.get?_push_of_some _ e
  have fp:eM X pins H s.heap.objs.size:=I.fpOk (Nat.le_refl _) (I.hok.fresh (Nat.le_refl _))
  have I2:Inv X pins σ H { s with heap:=h',toks:=tk }:=by
   have:=I1.turnedN (fp:=[s.heap.objs.size]) (h':=h') (t':=tk) (fun b ob hb e=>hk b ob hb e) (fun b hb=>by have e:b=s.heap.objs.size:=by simpa using hb
                                                                                                           subst e; exact fp)
   exact this
  refine ⟨.bl (bs.all id),H,I2,?_,hq⟩
  show Value.bool _=Value.bool _
  congr 1
  have hlen:=rb.length
  rw [List.length_map] at hlen
  have hsz:its.toArray.size=bs.length:=by simp [hlen]
  rw [hsz]
  rw [Bool.eq_iff_iff]
  simp only [List.all_eq_true,List.mem_range]
  constructor
  ·intro h b hb
   obtain ⟨i,hi,rfl⟩:=List.getElem_of_mem hb
   have:=h i hi
   simpa [List.getD_eq_getElem?_getD,List.getElem?_eq_getElem hi] using this
  ·intro h i hi
   have:=h (bs[i]) (List.getElem_mem hi)
   simpa [List.getD_eq_getElem?_getD,List.getElem?_eq_getElem hi] using this
theorem preSum_list (ns:List Int):∀ k,k <= ns.length->preSum (fun i=>ns.getD i 0) k=(ns.take k).sum:=by
 intro k
 induction k with
 | zero=>intro _; rfl
 | succ k ih=>
  intro h
  have e:=ih (by omega)
  show preSum _ k + _=_
  rw [e,List.take_succ,List.sum_append,List.getElem?_eq_getElem (by omega)]
  show _ + ns.getD k 0=_
  rw [List.getD_eq_getElem?_getD,List.getElem?_eq_getElem (by omega)]
  simp
theorem call_sumV (hc:X.calm=true) (t:Bool):cY X (.builtin "sum") (fun xs H Q=>∃ (p:Addr) (ns:List Int),xs=[.ref p]/\SqV t X.K H p (ns.map V.int)/\Q (.int ns.sum) H):=by
 intro pins s σ H xs us Q I rv h
 obtain ⟨p,ns,rfl,q,hq⟩:=h
 obtain ⟨u,rfl,ru⟩:=fm rv
 cases ru
 obtain ⟨its,rb,po,z⟩:=I.seqV q
 have hh:X.A.in1.handled=none:=I.ok.hd hc
 refine call_sum_walkG (f8 po fun o hi=>?_)
 have hlt:p < s.heap.objs.size:=by obtain ⟨ob,e⟩:=po.obj; exact Heap.lt_size e
 refine ⟨s.heap.objs.size,_,_,_,_,_,fun i=>ns.getD i 0,rfl,Walks.sq t hh s.heap.objs.size p (Nat.ne_of_lt hlt) its.toArray,⟨hi,po.at fun o' e=>Heap.get?_push_of_some _ e⟩,fun b hb=>?_,?_,fun h' tk t' hk=>?_⟩
 ·show b < (s.heap.push o).objs.size
  rw [Heap.size_push]
  rcases List.mem_cons.mp hb with rfl | hb
  ·exact Nat.lt_succ_self _
  ·rcases List.mem_cons.mp hb with rfl | hb
   ·exact Nat.lt_succ_of_lt hlt
   ·cases hb
 ·intro i v hv
  have hv':its[i]? = some v:=by simpa using hv
  have hlen:=rb.length
  have hil:i < its.length:=(List.getElem?_eq_some_iff.mp hv').1
  rw [List.length_map] at hlen
  have hb:(ns.map V.int)[i]? = some (.int (ns.getD i 0)):=by
   rw [List.getElem?_map,List.getD_eq_getElem?_getD,List.getElem?_eq_getElem (by omega)]
   rfl
  obtain ⟨u,hu,ru⟩:=rb.get hb
  rw [hv'] at hu
  cases hu
  exact ru
 ·have I1:Inv X pins σ H { s with heap:=s.heap.push o,toks:=s.toks }:=I.kept fun b u e=>Heap.get?_push_of_some _ e
  have fp:eM X pins H s.heap.objs.size:=I.fpOk (Nat.le_refl _) (I.hok.fresh (Nat.le_refl _))
  have I2:Inv X pins σ H { s with heap:=h',toks:=tk }:=by
   have:=I1.turnedN (fp:=[s.heap.objs.size]) (h':=h') (t':=tk) (fun b ob hb e=>hk b ob hb e) (fun b hb=>by have e:b=s.heap.objs.size:=by simpa using hb
                                                                                                           subst e; exact fp)
   exact this
  have hlen:=rb.length
  rw [List.length_map] at hlen
  have hsz:its.toArray.size=ns.length:=by simp [hlen]
  refine ⟨.int ns.sum,H,I2,⟨t',?_⟩,hq⟩
  rw [hsz,preSum_list ns _ (Nat.le_refl _),List.take_of_length_le (Nat.le_refl _)]
end
end L2
namespace L2
open PySem PySem.Spec PyProof.Rows
section
variable {X:Cx} {pos:Pos}
def rIsT (K:Frag):List V->Hp->VK->Prop:=fun xs H Q=>∃ (x:V) (t:Value) (c:String) (b:Bool),xs=[x,.ty c]/\TyOf K H x t/\kitOne K t (.type c)=some b/\Q (.bl b) H
theorem call_isT:cY X (.builtin "isinstance") (rIsT X.K):=by
 intro pins s σ H xs us Q I rv h
 obtain ⟨x,t,c,b,rfl,ty,e,q⟩:=h
 obtain ⟨u,u',rfl,r1,r2⟩:=vals2 rv
 cases (show u'=Value.type c from r2)
 exact isinst_ok I r1 ty e fun tk=>⟨.bl b,H,I.tok tk,rfl,q⟩
theorem boot_isinst:bootBuiltins "isinstance"=some (.builtin "isinstance"):=by decide +kernel
theorem boot_all':bootBuiltins "all"=some (.builtin "all"):=by decide +kernel
theorem boot_sum':bootBuiltins "sum"=some (.builtin "sum"):=by decide +kernel
theorem lH:bootBuiltins "max"=some (.builtin "max"):=by decide +kernel
theorem lK:bootBuiltins "min"=some (.builtin "min"):=by decide +kernel
theorem boot_abs':bootBuiltins "abs"=some (.builtin "abs"):=by decide +kernel
theorem cx:bootBuiltins "tuple"=some (.type "tuple"):=by decide +kernel
theorem cv:bootBuiltins "list"=some (.type "list"):=by decide +kernel
theorem gh:bootBuiltins "int"=some (.type "int"):=by decide +kernel
theorem gC:bootBuiltins "bool"=some (.type "bool"):=by decide +kernel
def CDivA (_ j:Int):Prop:=j ≠ 0/\j.natAbs < 2 ^ 4000
theorem CDivA.ok {i j:Int} (h:CDivA i j):Builtin.divisionGoesByPylong i j=false:=by
 refine PyProof.noPylong_of_log2 ?_
 by_cases h0:j.natAbs=0
 ·rw [h0]; decide +kernel
 ·have h30:j.natAbs.log2 < 4000:=(Nat.log2_lt h0).mpr h.2
  omega
theorem cE:OpR X (binaryOp .FloorDiv) (rI CDivA fun i j=>.int (i.fdiv j)):=opI fun _ _ _ _ _ _ _ hc q=>floordiv_int hc.1 q (.inl hc.ok)
theorem im:OpR X (binaryOp .Mult) (rI IntMulOk fun i j=>.int (i * j)):=opI fun _ _ _ _ _ _ _ hc q=>mul_int q hc
theorem mulOk {i j:Int} (hi:i.natAbs < 2 ^ 4000) (hj:j.natAbs < 2 ^ 4000):IntMulOk i j:=by
 have bits:∀ {k:Int},k.natAbs < 2 ^ 4000->Builtin.Int.intBits k <= 4000:=fun {k} h=>by
  unfold Builtin.Int.intBits
  split
  ·omega
  ·rename_i h0
   have h0':k.natAbs ≠ 0:=by intro z; apply h0; simp; omega
   have:=(Nat.log2_lt h0').mpr h
   omega
 have h1:=bits hi
 have h2:=bits hj
 unfold IntMulOk
 have h3:Builtin.Int.intTooBig ((Builtin.Int.intBits i:Int) + Builtin.Int.intBits j)=false:=by
  unfold Builtin.Int.intTooBig
  rw [decide_eq_false_iff_not]
  have:bitsLine=2 ^ 27:=rfl
  rw [this]
  omega
 rw [h3]
 simp
theorem eQ:OpR X (compareOp .IsNot) (fun x y H Q=>∃ b c,x=.bl b/\y=.bl c/\Q (.bl (b != c)) H):=by
 intro pins s σ H x y v u Q I rx ry h
 obtain ⟨b,c,rfl,rfl,q⟩:=h
 cases rx
 cases ry
 exact isnot_bool ⟨.bl _,H,I,rfl,q⟩
end
end L2
namespace L2
open PySem PySem.Spec PyProof.Rows
structure FnB (P:Program) (w:World) (K:Frag) (mg:Str->Option Value) (base:Heap) (k:Nat) (x:Str) (sp:Sp):Prop where
 ex:∃ f fd ps,aI P w K mg base CX0 k f fd ps sp/\mg x=some (.ref f)/\keepIn K (.ref f)=true/\Binds K fd ps []
structure Blt (mg:Str->Option Value):Prop where
 len:mg "len" = none
 range:mg "range" = none
 zip:mg "zip" = none
 all:mg "all" = none
 sum:mg "sum" = none
 max:mg "max" = none
 min:mg "min" = none
 abs:mg "abs" = none
 tuple:mg "tuple" = none
 list:mg "list" = none
 int:mg "int" = none
 bool:mg "bool" = none
 isinst:mg "isinstance" = none
 enum:mg "enumerate" = none
 sorted:mg "sorted" = none
 set:mg "set" = none
 str:mg "str" = none
section
variable {X:Cx} {p pos:Pos} {e e2:Expr} {es:List Expr} {t:TA} {te te2:TE}
theorem aw {x:Str} {k:Nat} {sp:Sp} (F:FnB X.prog X.w X.K X.mg X.base k x sp) (hr:Room k X.A) (ha:PA X (e :: es) t) (hg:Gl X x:=by rfl) (hdb:(x == ("__debug__" : Str))=false:=by decide)
  (he:starEach (e :: es) X.env=(false,eval e X.env) :: starEach es X.env:=by rfl) (hpl:(backTo pos (starEach es X.env)).any (·.1)=false:=by rfl):PE X (.Call (.Name x p) (e :: es) [] pos) (tCall sp [] E0 t):=by
 obtain ⟨f,fd,ps,F',hm,hk,hb⟩:=F.ex
 exact pe_call F' hr hg hm hk hb .nil pass0 ha hdb he hpl
theorem pl_len (T:Blt X.mg) (ha:PE X e te) (hg:Gl X "len":=by rfl) (hs:starEach [e] X.env=[(false,eval e X.env)]:=by rfl):PE X (.Call (.Name "len" p) [e] [] pos) (tCB (fun xs H Q=>∃ p ys,xs=[.ref p]/\(SqL X.K H p ys\/SqT X.K H p ys)/\Q (.int ys.length) H) (bJ te dI)):=
 cb mB hg T.len PySem.boot_len (aa ha af hs) (by decide) (by decide) hs
theorem pl_all (T:Blt X.mg) (ha:PE X e te) (b:Bool) (hc:X.calm=true:=by rfl) (hg:Gl X "all":=by rfl) (hs:starEach [e] X.env=[(false,eval e X.env)]:=by rfl):PE X (.Call (.Name "all" p) [e] [] pos) (tCB (fun xs H Q=>∃ (p:Addr) (bs:List Bool),xs=[.ref p]/\SqV b X.K H p (bs.map V.bl)/\Q (.bl (bs.all id)) H) (bJ te dI)):=
 cb (call_allV hc b) hg T.all boot_all' (aa ha af hs) (by decide) (by decide) hs
theorem pl_sum (T:Blt X.mg) (ha:PE X e te) (b:Bool) (hc:X.calm=true:=by rfl) (hg:Gl X "sum":=by rfl) (hs:starEach [e] X.env=[(false,eval e X.env)]:=by rfl):PE X (.Call (.Name "sum" p) [e] [] pos) (tCB (fun xs H Q=>∃ (p:Addr) (ns:List Int),xs=[.ref p]/\SqV b X.K H p (ns.map V.int)/\Q (.int ns.sum) H) (bJ te dI)):=
 cb (call_sumV hc b) hg T.sum boot_sum' (aa ha af hs) (by decide) (by decide) hs
theorem pl_tuple (T:Blt X.mg) (ha:PE X e te) (hg:Gl X "tuple":=by rfl) (hs:starEach [e] X.env=[(false,eval e X.env)]:=by rfl):PE X (.Call (.Name "tuple" p) [e] [] pos) (tCB (fun xs H Q=>∃ p ys,xs=[.ref p]/\SqL X.K H p ys/\∀ l,H l=none->Q (.ref l) (upd H l (.tup ys))) (bJ te dI)):=by
 refine eE (r:=fun xs H Q=>∃ p ys,xs=[.ref p]/\SqL X.K H p ys/\∀ l,H l=none->Q (.ref l) (upd H l (.tup ys))) ?_ hg T.tuple cx (aa ha af hs) (by decide) (by decide) hs
 intro pins s σ H xs us Q I rv h
 obtain ⟨p,ys,rfl,q,hq⟩:=h
 exact kM pins s σ H _ us Q I rv ⟨p,ys,rfl,.inl ⟨q,hq⟩⟩
theorem pl_max (T:Blt X.mg) (ha:PA X [e,e2] t) (hc:X.calm=true:=by rfl) (hg:Gl X "max":=by rfl) (he:starEach [e,e2] X.env=(false,eval e X.env) :: starEach [e2] X.env:=by rfl) (hpl:(backTo pos (starEach [e2] X.env)).any (·.1)=false:=by rfl) :
  PE X (.Call (.Name "max" p) [e,e2] [] pos) (tCB (fun xs H Q=>∃ i j,xs=[.int i,.int j]/\Q (.int (if j > i then j else i)) H) t):=
 cb (call_max2 hc) hg T.max lH ha (by decide) (by decide) he hpl
theorem pl_min (T:Blt X.mg) (ha:PA X [e,e2] t) (hc:X.calm=true:=by rfl) (hg:Gl X "min":=by rfl) (he:starEach [e,e2] X.env=(false,eval e X.env) :: starEach [e2] X.env:=by rfl) (hpl:(backTo pos (starEach [e2] X.env)).any (·.1)=false:=by rfl) :
  PE X (.Call (.Name "min" p) [e,e2] [] pos) (tCB (fun xs H Q=>∃ i j,xs=[.int i,.int j]/\Q (.int (if j < i then j else i)) H) t):=
 cb (call_min2 hc) hg T.min lK ha (by decide) (by decide) he hpl
theorem mw (T:Blt X.mg) (ha:PE X e te) (hg:Gl X "abs":=by rfl) (hs:starEach [e] X.env=[(false,eval e X.env)]:=by rfl):PE X (.Call (.Name "abs" p) [e] [] pos) (tCB (fun xs H Q=>∃ i,xs=[.int i]/\Q (.int (if i < 0 then -i else i)) H) (bJ te dI)):=
 cb call_abs hg T.abs boot_abs' (aa ha af hs) (by decide) (by decide) hs
def rIsM (K:Frag):List V->Hp->VK->Prop:=fun xs H Q=>match xs with
 | [x,.ty c]=>∃ (t:Value) (b:Bool),TyOf K H x t/\kitOne K t (.type c)=some b/\Q (.bl b) H
 | _=>False
theorem call_isM:cY X (.builtin "isinstance") (rIsM X.K):=by
 intro pins s σ H xs us Q I rv h
 unfold rIsM at h
 split at h
 ·obtain ⟨t,b,ty,e,q⟩:=h
  exact call_isT pins s σ H _ us Q I rv ⟨_,t,_,b,rfl,ty,e,q⟩
 ·exact h.elim
theorem pl_is {cn:Str} {c:String} {p2:Pos} (T:Blt X.mg) (ha:PE X e te) (hm:X.mg cn=none) (hv:bootBuiltins cn=some (.type c)) (hg:Gl X "isinstance":=by rfl) (hg2:Gl X cn:=by rfl) (hn:cn ≠ "__name__":=by decide) (hd:(cn == ("__debug__" : Str))=false:=by decide)
  (he:starEach [e,.Name cn p2] X.env=(false,eval e X.env) :: starEach [.Name cn p2] X.env:=by rfl) (he2:starEach [.Name cn p2] X.env=[(false,eval (.Name cn p2) X.env)]:=by rfl) :
  PE X (.Call (.Name "isinstance" p) [e,.Name cn p2] [] pos) (tCB (rIsM X.K) (bJ te (bJ (tC (.ty c)) dI))):=
 cb (X:=X) (p:=p) (pos:=pos) call_isM hg T.isinst boot_isinst (aa ha (aa (pe_bltn (v:=.ty c) (pos:=p2) hg2 hm hv rfl hn hd) af he2) he) (by decide) (by decide) he (by rw [he2]; rfl)
end
theorem eO {J:It} {n:Nat} {acc:Addr} {g:TG} {tt:TT} {te:TE} {Q:VK} {σ0:St} {H0:Hp} (Pv:Nat->List V->St->Hp->Prop) (hn:n <= sizeLine) (h0:Pv 0 [] σ0 (upd H0 acc (.lst [])))
  (hgo:∀ i zs σ H,i < n->H acc=some (.lst zs)->Pv i zs σ H->J.go i H)
  (hst:∀ zs σ H,H acc=some (.lst zs)->Pv n zs σ H->J.stop n H)
  (hs:∀ i zs σ H x H',i < n->H acc=some (.lst zs)->zs.length <= i->Pv i zs σ H->J.yld i H x H'->g x σ H' fun σ2 H2=>tt σ2 H2 fun b H3=>
   if b=true then te σ2 H3 fun y H4=>∃ ys,H4 acc=some (.lst ys)/\ys.length < sizeLine/\∃ zs,(upd H4 acc (.lst (ys ++ [y]))) acc=some (.lst zs)/\zs.length <= i + 1/\Pv (i + 1) zs σ2 (upd H4 acc (.lst (ys ++ [y])))
   else ∃ zs,H3 acc=some (.lst zs)/\zs.length <= i + 1/\Pv (i + 1) zs σ2 H3)
  (hd:∀ zs σ H,H acc=some (.lst zs)->zs.length <= n->Pv n zs σ H->Q (.ref acc) H) :
  ∃ W:Nat->Nat->St->Hp->Prop,(∃ m,W 0 m σ0 (upd H0 acc (.lst [])))/\∀ i m σ H,W i m σ H->
   (J.stop i H/\Q (.ref acc) H)\/(J.go i H/\∃ N:St->Hp->Prop,(∀ σ' H',N σ' H'->∃ m',m' < m/\W (i + 1) m' σ' H')/\∀ x H',J.yld i H x H'->g x σ H' fun σ2 H2=>tt σ2 H2 fun b H3=>
    if b=true then te σ2 H3 fun y H4=>∃ ys,H4 acc=some (.lst ys)/\ys.length < sizeLine/\N σ2 (upd H4 acc (.lst (ys ++ [y]))) else N σ2 H3):=by
 refine ⟨fun i m σ H=>m=n - i/\i <= n/\∃ zs,H acc=some (.lst zs)/\zs.length <= i/\Pv i zs σ H,⟨n,by simp,Nat.zero_le _,[],ac,Nat.le_refl _,h0⟩,?_⟩
 rintro i m σ H ⟨rfl,hi,zs,hz,hl,p⟩
 by_cases hlt:i < n
 ·refine .inr ⟨hgo i zs σ H hlt hz p,fun σ' H'=>∃ zs,H' acc=some (.lst zs)/\zs.length <= i + 1/\Pv (i + 1) zs σ' H',fun σ' H' p'=>⟨n - (i + 1),by omega,rfl,hlt,p'⟩,fun x H' y=>?_⟩
  exact hs i zs σ H x H' hlt hz hl p y
 ·have e:i=n:=by omega
  subst e
  exact .inl ⟨hst zs σ H hz p,hd zs σ H hz hl p⟩
end L2
namespace L2
open PySem PySem.Spec PyProof.Rows
theorem Same.sqT {K:Frag} {H H':Hp} {a:Addr} {xs:List V} (e:Same H H') (h:SqT K H a xs):SqT K H' a xs:=by
 rcases h with (h | ⟨o,h⟩) | h
 ·exact .inl (.inl (e _ _ h))
 ·exact .inl (.inr ⟨o,e _ _ h⟩)
 ·exact .inr h
theorem Same.sqV {t:Bool} {K:Frag} {H H':Hp} {a:Addr} {xs:List V} (e:Same H H') (h:SqV t K H a xs):SqV t K H' a xs:=by
 cases t
 ·exact Same.seq e h
 ·exact Same.sqT e h
theorem Same.new {H:Hp} {a:Addr} {o:HO} (h:H a=none):Same H (upd H a o):=fun b u e=>by rw [ao (ah e h)]; exact e
theorem Same.put {H H':Hp} {a:Addr} {o:HO} (s:Same H H') (h:H a=none):Same H (upd H' a o):=fun b u e=>by rw [ao (ah e h)]; exact s b u e
theorem iu {α β γ:Type} (f:α->β->γ):∀ (xs:List α) (ys:List β) (i:Nat) (x:α) (y:β),xs[i]? = some x->ys[i]? = some y->(List.zipWith f xs ys).take (i + 1)=(List.zipWith f xs ys).take i ++ [f x y]:=by
 intro xs ys i x y hx hy
 rw [List.take_succ,List.getElem?_zipWith,hx,hy]
 rfl
theorem jG {α β:Type} (f:α->β) (xs:List α) (i:Nat) (x:α) (hx:xs[i]? = some x):(xs.map f).take (i + 1)=(xs.map f).take i ++ [f x]:=by
 rw [List.take_succ,List.getElem?_map,hx]
 rfl
theorem comp_zip {t1 t2:Bool} {K K':Frag} {a b:Addr} {xs ys:List V} {te:TE} {Q:VK} {rest:St} {src:List (Option Nat)} {σ:St} {H0:Hp} (f:V->V->V) (hσ:bW src σ=none :: none :: rest) (hx:SqV t1 K H0 a xs) (hy:SqV t2 K H0 b ys) (hl:xs.length <= sizeLine)
  (he:∀ (i:Nat) x y H (R:VK),xs[i]? = some x->ys[i]? = some y->Same H0 H->R (f x y) H->te (some x :: some y :: rest) H R)
  (hd:∀ acc H,H0 acc=none->Same H0 H->H acc=some (.lst (List.zipWith f xs ys))->Q (.ref acc) H) :
  cT (Itz t1 t2 K a b) src (gTup K' 2 (iq (cI 0) (iq (cI 1) gNil))) tYes te σ H0 Q:=by
 intro acc hacc
 rw [hσ]
 have hlen:(List.zipWith f xs ys).length=min xs.length ys.length:=List.length_zipWith
 refine eO (n:=min xs.length ys.length) (fun i zs σ H=>Same H0 H/\zs=(List.zipWith f xs ys).take i/\∃ u v,σ=u :: v :: rest) (by omega) ⟨Same.new hacc,rfl,none,none,rfl⟩ ?_ ?_ ?_ ?_
 ·rintro i zs σ H hi hz ⟨sm,_⟩
  exact ⟨xs,ys,xs[i]'(by omega),ys[i]'(by omega),sm.sqV hx,sm.sqV hy,by simp,by simp⟩
 ·rintro zs σ H hz ⟨sm,_⟩
  refine ⟨xs,ys,sm.sqV hx,sm.sqV hy,?_⟩
  omega
 ·rintro i zs σ H x H' hi hz hzl ⟨sm,ez,u,v,rfl⟩ ⟨p,x1,y1,rfl,hp,rfl,gx,gy⟩
  have hx1:=gx xs (sm.sqV hx)
  have hy1:=gy ys (sm.sqV hy)
  have pacc:acc ≠ p:=ah hz hp
  have hp0:H0 p=none:=sm.free hp
  refine ⟨p,[x1,y1],rfl,SqT.of ac,rfl,x1,[y1],rfl,y1,[],rfl,rfl,?_⟩
  show te (some x1 :: some y1 :: rest) _ _
  refine he i x1 y1 _ _ hx1 hy1 (sm.put hp0) ?_
  refine ⟨zs,by rw [ao pacc]; exact hz,by omega,zs ++ [f x1 y1],ac,by rw [List.length_append,List.length_singleton]; omega,(sm.put hp0).put hacc,?_,_,_,rfl⟩
  rw [iu f xs ys i x1 y1 hx1 hy1,ez]
 ·rintro zs σ H hz hzl ⟨sm,ez,_⟩
  refine hd acc H hacc sm ?_
  rw [hz,ez,List.take_of_length_le (by omega)]
theorem comp_tup {K:Frag} {a:Addr} {xs:List V} {te:TE} {Q:VK} {rest:St} {src:List (Option Nat)} {σ:St} {H0:Hp} (f:V->V) (hσ:bW src σ=none :: rest) (hx:SqT K H0 a xs) (hl:xs.length <= sizeLine)
  (he:∀ (i:Nat) x H (R:VK),xs[i]? = some x->Same H0 H->R (f x) H->te (some x :: rest) H R)
  (hd:∀ acc H,H0 acc=none->Same H0 H->H acc=some (.lst (xs.map f))->Q (.ref acc) H) :
  cT (Itt K a) src (cI 0) tYes te σ H0 Q:=by
 intro acc hacc
 rw [hσ]
 have hlen:(xs.map f).length=xs.length:=List.length_map ..
 refine eO (n:=xs.length) (fun i zs σ H=>Same H0 H/\zs=(xs.map f).take i/\∃ u,σ=u :: rest) (by omega) ⟨Same.new hacc,rfl,none,rfl⟩ ?_ ?_ ?_ ?_
 ·rintro i zs σ H hi hz ⟨sm,_⟩
  exact ⟨xs,xs[i],sm.sqT hx,by simp⟩
 ·rintro zs σ H hz ⟨sm,_⟩
  exact ⟨xs,sm.sqT hx,Nat.le_refl _⟩
 ·rintro i zs σ H x H' hi hz hzl ⟨sm,ez,u,rfl⟩ ⟨rfl,gx⟩
  have hx1:=gx xs (sm.sqT hx)
  show te (some x :: rest) _ _
  refine he i x _ _ hx1 sm ?_
  refine ⟨zs,hz,by omega,zs ++ [f x],ac,by rw [List.length_append,List.length_singleton]; omega,sm.put hacc,?_,_,rfl⟩
  rw [jG f xs i x hx1,ez]
 ·rintro zs σ H hz hzl ⟨sm,ez,_⟩
  refine hd acc H hacc sm ?_
  rw [hz,ez,List.take_of_length_le (by omega)]
theorem be {J:It} {n:Nat} {src:List (Option Nat)} {g:TG} {tt:TT} {te:TE} {Q:VK} {σ σ0:St} {H0:Hp} (hσ:bW src σ=σ0) (Pv:Addr->Nat->List V->St->Hp->Prop) (hn:n <= sizeLine) (h0:∀ acc,H0 acc=none->Pv acc 0 [] σ0 (upd H0 acc (.lst [])))
  (hgo:∀ acc i zs σ H,H0 acc=none->i < n->H acc=some (.lst zs)->Pv acc i zs σ H->J.go i H)
  (hst:∀ acc zs σ H,H0 acc=none->H acc=some (.lst zs)->Pv acc n zs σ H->J.stop n H)
  (hs:∀ acc i zs σ H x H',H0 acc=none->i < n->H acc=some (.lst zs)->zs.length <= i->Pv acc i zs σ H->J.yld i H x H'->g x σ H' fun σ2 H2=>tt σ2 H2 fun b H3=>
   if b=true then te σ2 H3 fun y H4=>∃ ys,H4 acc=some (.lst ys)/\ys.length < sizeLine/\∃ zs,(upd H4 acc (.lst (ys ++ [y]))) acc=some (.lst zs)/\zs.length <= i + 1/\Pv acc (i + 1) zs σ2 (upd H4 acc (.lst (ys ++ [y])))
   else ∃ zs,H3 acc=some (.lst zs)/\zs.length <= i + 1/\Pv acc (i + 1) zs σ2 H3)
  (hd:∀ acc zs σ H,H0 acc=none->H acc=some (.lst zs)->zs.length <= n->Pv acc n zs σ H->Q (.ref acc) H):cT J src g tt te σ H0 Q:=by
 intro acc hacc
 rw [hσ]
 exact eO (Pv acc) hn (h0 acc hacc) (fun i zs σ H=>hgo acc i zs σ H hacc) (fun zs σ H=>hst acc zs σ H hacc) (fun i zs σ H x H'=>hs acc i zs σ H x H' hacc) (fun zs σ H=>hd acc zs σ H hacc)
theorem bU {X:Cx} {i:Nat} {x:Str} {pos:Pos} (hN:X.N.Nodup) (hi:X.N[i]? = some x) (hx:X.env.scope.names.lookup x=some .local):PG X (.Name x pos) (cI i):=aM hN hi (.inl hx) (.inr hx)
section
variable {X:Cx} (K:Frag) {p pos:Pos} {e e2:Expr} {es:List Expr} {t:TA} {te te2:TE}
theorem dJ {i j:Nat} {x y:Str} {p1 p2 pos:Pos} {k:Nat} (hK:X.K=K) (hc:X.calm=true) (hN:X.N.Nodup) (hi:X.N[i]? = some x) (hj:X.N[j]? = some y) (hx:X.env.scope.names.lookup x=some .local) (hy:X.env.scope.names.lookup y=some .local) :
  PG X (.Tuple [.Name x p1,.Name y p2] k pos) (gTup K 2 (iq (cI i) (iq (cI j) gNil))):=by
 subst hK
 exact gA hc (aQ (bU hN hi hx) (aQ (bU hN hj hy) eX))
theorem aD (hK:X.K=K):IxR X (rIxL K):=hK ▸ ix_list
theorem aF (hK:X.K=K):IxR X (rIxT K):=hK ▸ ix_tup
theorem bT (hK:X.K=K):SlR X (rSlL K):=hK ▸ sl_list
theorem keqD (hK:X.K=K) (hu:X.A.units + 64 < cLine):OpR X (compareOp .Eq) (rEqD K):=hK ▸ op_eqD hu
theorem kneD (hK:X.K=K) (hu:X.A.units + 64 < cLine):OpR X (compareOp .NotEq) (rNeD K):=hK ▸ op_neD hu
theorem aZ {tg:Expr} (hK:X.K=K) (hl:PE X e te):PI X tg e (iList K te):=hK ▸ pi_list hl
theorem kpi_tup {tg:Expr} (hK:X.K=K) (hl:PE X e te):PI X tg e (iTup K te):=hK ▸ pi_tup hl
theorem ir (t1 t2:Bool) {es:List Expr} {ek:Nat} {ep:Pos} {a b:Expr} {ta:TA} (hK:X.K=K) (hg:Gl X "zip") (hm:X.mg "zip" = none) (ha:PA X [a,b] ta) (hs:starEach [a,b] X.env=[(false,eval a X.env),(false,eval b X.env)]:=by rfl) (hs2:starEach [b] X.env=[(false,eval b X.env)]:=by rfl) :
  PI X (.Tuple es ek ep) (.Call (.Name "zip" p) [a,b] [] pos) (iZip t1 t2 K ta):=hK ▸ pi_zip t1 t2 hg hm ha hs hs2
def rLen (K:Frag):List V->Hp->VK->Prop:=fun xs H Q=>∃ p ys,xs=[.ref p]/\(SqL K H p ys\/SqT K H p ys)/\Q (.int ys.length) H
def rAll (b:Bool) (K:Frag):List V->Hp->VK->Prop:=fun xs H Q=>∃ (p:Addr) (bs:List Bool),xs=[.ref p]/\SqV b K H p (bs.map V.bl)/\Q (.bl (bs.all id)) H
def rSum (b:Bool) (K:Frag):List V->Hp->VK->Prop:=fun xs H Q=>∃ (p:Addr) (ns:List Int),xs=[.ref p]/\SqV b K H p (ns.map V.int)/\Q (.int ns.sum) H
def rTuple (K:Frag):List V->Hp->VK->Prop:=fun xs H Q=>∃ p ys,xs=[.ref p]/\SqL K H p ys/\∀ l,H l=none->Q (.ref l) (upd H l (.tup ys))
theorem bo (T:Blt X.mg) (ha:PE X e te) (hK:X.K=K:=by rfl) (hg:Gl X "len":=by rfl) (hs:starEach [e] X.env=[(false,eval e X.env)]:=by rfl):PE X (.Call (.Name "len" p) [e] [] pos) (tCB (rLen K) (bJ te dI)):=by
 subst hK; exact pl_len T ha hg hs
theorem dM (T:Blt X.mg) (ha:PE X e te) (b:Bool) (hK:X.K=K:=by rfl) (hc:X.calm=true:=by rfl) (hg:Gl X "all":=by rfl) (hs:starEach [e] X.env=[(false,eval e X.env)]:=by rfl):PE X (.Call (.Name "all" p) [e] [] pos) (tCB (rAll b K) (bJ te dI)):=by
 subst hK; exact pl_all T ha b hc hg hs
theorem iF (T:Blt X.mg) (ha:PE X e te) (b:Bool) (hK:X.K=K:=by rfl) (hc:X.calm=true:=by rfl) (hg:Gl X "sum":=by rfl) (hs:starEach [e] X.env=[(false,eval e X.env)]:=by rfl):PE X (.Call (.Name "sum" p) [e] [] pos) (tCB (rSum b K) (bJ te dI)):=by
 subst hK; exact pl_sum T ha b hc hg hs
theorem f6 (T:Blt X.mg) (ha:PE X e te) (hK:X.K=K:=by rfl) (hg:Gl X "tuple":=by rfl) (hs:starEach [e] X.env=[(false,eval e X.env)]:=by rfl):PE X (.Call (.Name "tuple" p) [e] [] pos) (tCB (rTuple K) (bJ te dI)):=by
 subst hK; exact pl_tuple T ha hg hs
theorem bX {cn:Str} {c:String} {p2:Pos} (T:Blt X.mg) (ha:PE X e te) (hm:X.mg cn=none) (hv:bootBuiltins cn=some (.type c)) (hK:X.K=K:=by rfl) (hg:Gl X "isinstance":=by rfl) (hg2:Gl X cn:=by rfl) (hn:cn ≠ "__name__":=by decide) (hd:(cn == ("__debug__" : Str))=false:=by decide)
  (he:starEach [e,.Name cn p2] X.env=(false,eval e X.env) :: starEach [.Name cn p2] X.env:=by rfl) (he2:starEach [.Name cn p2] X.env=[(false,eval (.Name cn p2) X.env)]:=by rfl) :
  PE X (.Call (.Name "isinstance" p) [e,.Name cn p2] [] pos) (tCB (rIsM K) (bJ te (bJ (tC (.ty c)) dI))):=by
 subst hK; exact pl_is T ha hm hv hg hg2 hn hd he he2
end
end L2
namespace L2
open PySem PySem.Spec PyProof.Rows
section
variable {X:Cx} (K:Frag) {p pos:Pos} {e e2:Expr} {es:List Expr} {t:TA} {te te2:TE}
def rListT (K:Frag):List V->Hp->VK->Prop:=fun xs H Q=>∃ p ys,xs=[.ref p]/\(SqL K H p ys\/SqT K H p ys)/\∀ l,H l=none->Q (.ref l) (upd H l (.lst ys))
theorem kpl_list (T:Blt X.mg) (ha:PE X e te) (hK:X.K=K:=by rfl) (hg:Gl X "list":=by rfl) (hs:starEach [e] X.env=[(false,eval e X.env)]:=by rfl):PE X (.Call (.Name "list" p) [e] [] pos) (tCB (rListT K) (bJ te dI)):=by
 subst hK; exact eE md hg T.list cv (aa ha af hs) (by decide) (by decide) hs
end
theorem TyOf.same {K:Frag} {H H':Hp} {x:V} {t:Value} (s:Same H H') (h:TyOf K H x t):TyOf K H' x t:=by
 cases h with
 | non=>exact .non
 | bl b=>exact .bl b
 | int i=>exact .int i
 | str x=>exact .str x
 | flt x=>exact .flt x
 | lst e=>exact .lst (s _ _ e)
 | frz e=>exact .frz (s _ _ e)
 | tup e=>exact .tup (s _ _ e)
 | dK e=>exact .dK (s _ _ e)
 | dT e=>exact .dT (s _ _ e)
 | ins e cl ha hn htk hm=>exact .ins (s _ _ e) cl ha hn htk hm
theorem fX {t u:TS} {D:j8} {σ:St} {H:Hp} (M:St->Hp->Prop) (h1:∀ R:St->Hp->Prop,(∀ σ' H',M σ' H'->R σ' H')->t { D with nx:=R } σ H) (h2:∀ σ' H',M σ' H'->u D σ' H'):tSeq t u D σ H:=h1 (u D) h2
theorem jw {i:Nat} {x:V} {t u:TS} {D:j8} {σ:St} {H:Hp} (M:St->Hp->Prop) (h1:∀ R:St->Hp->Prop,(∀ σ' H',M σ' H'->R σ' H')->t { D with nx:=R } (σ.set i (some x)) H) (h2:∀ σ' H',M σ' H'->u D σ' H'):cI i x σ H (tSeq t u D):=h1 (u D) h2
end L2
namespace L2
open PySem PySem.Spec PyProof.Rows
section
open PySem.SeqAt
open PySem.AutoSeq1 (wpAny_loadPart')
open PySem.MeetsSeq PySem.MeetsSeq2 PySem.MeetsSeq3
def RcO (op:CmpOp) (A:Around) (s:Shared) (y x:Value) (b:Bool):Prop:=
 ∀ (prog:Program) (w:World) (E:Value->Shared->Prop) (Q:Value->Shared->Prop),Q (.bool b) s->wpAny (model prog w) A (richCompare op y x) Q E s
inductive nq (op:CmpOp) (A:Around) (s:Shared):List Value->List Value->List (Bool × Bool)->Prop
 | nil (ws:List Value):nq op A s [] ws []
 | nilr (vs:List Value):nq op A s vs [] []
 | cons {v w:Value} {e r:Bool} {vs ws:List Value} {ks:List (Bool × Bool)}:EqAt A s v w e->(e=false->RcO op A s v w r)->nq op A s vs ws ks->nq op A s (v :: vs) (w :: ws) ((e,r) :: ks)
def goOp:List (Bool × Bool)->Bool->Bool
 | [],f=>f
 | (true,_) :: r,f=>goOp r f
 | (false,b) :: _,_=>b
theorem tuple_gtAt (l b:Addr) (items items2:Array Value) (n n2:Nat) (dd dd2:Option Addr) (sl sl2:Array (Option Value)) (ks:List (Bool × Bool)) :
  Meets (Builtin.«tuple.__gt__» ⟨[.ref l,.ref b],[]⟩)
   (fun A R s=>s.heap.get? l=some { cls:=.type "tuple",dict:=dd,data:=.seq items n,slots:=sl }/\s.heap.get? b=some { cls:=.type "tuple",dict:=dd2,data:=.seq items2 n2,slots:=sl2 }/\
    nq .Gt A.in1 s items.toList items2.toList ks/\R (.ok (.ret (.bool (goOp ks (decide (items.size > items2.size)))))) s):=
 .of_wp fun prog w A R s h=>by
  obtain ⟨hp,g,d,tk,os⟩:=s; obtain ⟨hl,hb,hc,h⟩:=h
  have f2:=AutoSeq1.sub_tuple_tuple
  wp_walk using wpAny_loadPart' hl,wpAny_loadPart' hb,wpAny_forIn_list _ (fun rest b s'=>b.1=none/\s'=⟨hp,g,d,tk,os⟩/\∃ (vs ws:List Value) (ks':List (Bool × Bool)),rest=vs.zip ws/\
   nq .Gt A.in1 ⟨hp,g,d,tk,os⟩ vs ws ks'/\R (.ok (.ret (.bool (goOp ks' (decide (items.size > items2.size)))))) ⟨hp,g,d,tk,os⟩) _
  case turn=>
   rintro ⟨y,x⟩ rest b s' ⟨hb',rfl,vs,ws,ks',hz,hk,hR⟩
   cases hk with
   | nil=>rw [List.zip_nil_left] at hz; cases hz
   | nilr=>rw [List.zip_nil_right] at hz; cases hz
   | @cons v w' e r vs' ws' ks'' he hr hk'=>
    rw [List.zip_cons_cons] at hz
    injection hz with hyx hrest
    injection hyx with hy hx
    subst hy hx
    refine wpAny_bind (he prog w _ _ ?_)
    cases e with
    | true=>
     wp_walk
     exact ⟨rfl,rfl,_,_,_,hrest,hk',hR⟩
    | false=>
     have hri:=hr rfl prog w
     wp_walk using hri
     exact ⟨_,rfl,hR⟩
  case fin=>
   rintro ⟨b1,b2⟩ s' ⟨hb',rfl,vs,ws,ks',hz,hk,hR⟩
   simp only at hb'
   subst hb'
   have hks:ks'=[]:=by
    cases hk with
    | nil=>rfl
    | nilr=>rfl
    | cons he hr hk'=>rw [List.zip_cons_cons] at hz; cases hz
   subst hks
   wp_walk
   exact ⟨_,rfl,by simpa [Builtin.Tuple.tupleCompareSizes,goOp] using hR⟩
  case h=>
   exact ⟨rfl,rfl,items.toList,items2.toList,ks,rfl,hc,h⟩
theorem rc_gt {A:Around} {s:Shared} {l b:Addr} {items items2:Array Value} {ks:List (Bool × Bool)} (hl:s.heap.IsTuple l items) (hb:s.heap.IsTuple b items2) (hu:A.units < cLine) (hk:nq .Gt A.in1 s items.toList items2.toList ks) :
  RcO .Gt A s (.ref l) (.ref b) (goOp ks (decide (items.size > items2.size))):=fun prog w E Q h=>by
 obtain ⟨⟨cls,dd,data,sl⟩,ho,hc,n,hd⟩:=id hl
 obtain ⟨⟨cls2,dd2,data2,sl2⟩,ho2,hc2,n2,hd2⟩:=id hb
 simp only at hc hd hc2 hd2
 subst hc hd hc2 hd2
 exact richCompare_meets_room (op:=.Gt) ⟨_,ho,rfl⟩ ⟨_,ho2,rfl⟩ PySem.F.slot_tuple_gt PySem.F.entry_tuple_gt (PySem.F.args_tuple_gt_2 _ _) (tuple_gtAt l b items items2 n n2 dd dd2 sl sl2 ks)
  ⟨ho,ho2,hk,show Value.bool _ ≠ Value.notImplemented/\Q (.bool _) s from ⟨(fun x=>nomatch x),h⟩⟩ hu
end
end L2
namespace L2
open PySem PySem.Spec PyProof.Rows
def lexV (f:Int->Int->Bool) (fin:Bool) (ns ms:List Int):Bool:=goOp (List.zipWith (fun a b=>(a == b,f a b)) ns ms) fin
def gtI (a b:Int):Bool:=decide (b < a)
def lexGt (ns ms:List Int):Bool:=lexV gtI (decide (ns.length > ms.length)) ns ms
def hgt (m:Int) (ns:List Int) (n:Int) (ms:List Int):Bool:=if m=n then (if ns=ms then false else lexGt ns ms) else gtI m n
theorem rcGt_int (A:Around) (s:Shared) (a:Int) (t:Tok) (c:Int) (u:Tok):RcO .Gt A s (.int a t) (.int c u) (gtI a c):=fun prog w E Q h=>
 (PyProof.Rows.gt_int h:wpAny (model prog w) A (compareOp .Gt (.int a t) (.int c u)) Q E s)
theorem lG {op:CmpOp} {A:Around} {s:Shared} {f:Int->Int->Bool} (hf:∀ a t c u,RcO op A s (.int a t) (.int c u) (f a c)):∀ {ns ms:List Int} {us ws:List Value},Vals (ns.map V.int) us->Vals (ms.map V.int) ws->
  nq op A s us ws (List.zipWith (fun a b=>(a == b,f a b)) ns ms)
 | [],_,_,ws,.nil,_=>.nil ws
 | _ :: _,[],us,_,_,.nil=>.nilr us
 | n :: ns,m :: ms,_,_,.cons r rr,.cons q qq=>by
  obtain ⟨t,rfl⟩:=(show ∃ t,_=Value.int n t from r)
  obtain ⟨u,rfl⟩:=(show ∃ t,_=Value.int m t from q)
  exact .cons (SeqAt.EqAt.int_int n t m u) (fun _=>hf n t m u) (lG hf rr qq)
theorem ku:∀ {ns ms:List Int},ns.map V.int=ms.map V.int->ns=ms
 | [],[],_=>rfl
 | [],_ :: _,h=>by cases h
 | _ :: _,[],h=>by cases h
 | n :: ns,m :: ms,h=>by
  rw [List.map_cons,List.map_cons] at h
  injection h with h1 h2
  injection h1 with h1
  rw [h1,ku h2]
theorem kT {k:Nat} {A:Around} (hr:Room (k + 1) A):A.in1.units + 64 < cLine:=hr.in1.units
section
variable {X:Cx} {K:Frag}
def rGtP (K:Frag):R2:=fun x y H Q=>∃ (a b ta tb:Addr) (m n:Int) (ns ms:List Int),x=.ref a/\y=.ref b/\SqT K H a [.int m,.ref ta]/\SqT K H b [.int n,.ref tb]/\SqT K H ta (ns.map V.int)/\SqT K H tb (ms.map V.int)/\Q (.bl (hgt m ns n ms)) H
theorem kgtP {k:Nat} (hK:X.K=K) (hr:Room (k + 2) X.A):OpR X (compareOp .Gt) (rGtP K):=by
 subst hK
 intro pins s σ H x y v u Q I rx ry h
 obtain ⟨a,b,ta,tb,m,n,ns,ms,rfl,rfl,ha,hb,hta,htb,q⟩:=h
 cases rx
 cases ry
 obtain ⟨its,r1,p1,_⟩:=I.tuple ha
 obtain ⟨its2,r2,p2,_⟩:=I.tuple hb
 obtain ⟨jts,r3,p3,_⟩:=I.tuple hta
 obtain ⟨jts2,r4,p4,_⟩:=I.tuple htb
 have e3:=r3.length
 have e4:=r4.length
 rw [List.length_map] at e3 e4
 obtain ⟨u1,u2,rfl,q1,q2⟩:=vals2 r1
 obtain ⟨w1,w2,rfl,q3,q4⟩:=vals2 r2
 obtain ⟨t1,rfl⟩:=(show ∃ t,u1=Value.int m t from q1)
 obtain ⟨t3,rfl⟩:=(show ∃ t,w1=Value.int n t from q3)
 cases (show u2=Value.ref ta from q2)
 cases (show w2=Value.ref tb from q4)
 have hu1:X.A.in1.units < cLine:=by have:=kT (k:=k + 1) hr; omega
 have hu2:=kT (k:=k + 1) hr
 have eqr:SeqAt.EqAt X.A.in1 s (.ref ta) (.ref tb) (decide (ns=ms)):=by
  by_cases hab:ta=tb
  ·subst hab
   have e:=I.tuple_inj hta htb
   have e':ns=ms:=ku e
   rw [decide_eq_true e']
   exact SeqAt.EqAt.same _
  ·refine SeqAt.EqAt.of_refs hab fun prog w E Q' hq=>?_
   obtain ⟨as,ra⟩:=(dW hta).reads I rfl
   obtain ⟨bs,rb⟩:=(dW htb).reads I rfl
   exact eq_dataH ra rb (bI _) (bI _) hu2 (by rw [ft]; exact hq)
 have gt2:RcO .Gt X.A.in1 s (.ref ta) (.ref tb) (lexGt ns ms):=by
  have z:=rc_gt (show s.heap.IsTuple ta jts.toArray from p3) (show s.heap.IsTuple tb jts2.toArray from p4) hu1 (lG (ns:=ns) (ms:=ms) (fun _ _ _ _=>rcGt_int _ _ _ _ _ _) (by simpa using r3) (by simpa using r4))
  rw [List.size_toArray,List.size_toArray,<- e3,<- e4] at z
  exact z
 have ck:nq .Gt X.A.in1 s [.int m t1,.ref ta] [.int n t3,.ref tb] [(m == n,gtI m n),(decide (ns=ms),lexGt ns ms)]:=
  .cons (SeqAt.EqAt.int_int m t1 n t3) (fun _=>rcGt_int _ _ _ _ _ _) (.cons eqr (fun _=>gt2) (.nil _))
 refine rc_gt (show s.heap.IsTuple a _ from p1) (show s.heap.IsTuple b _ from p2) hr.units0 ck X.prog X.w _ _ ⟨.bl (hgt m ns n ms),H,I,?_,q⟩
 show Value.bool _=Value.bool _
 congr 1
 unfold hgt
 by_cases h1:m=n
 ·rw [if_pos h1,show (m == n)=true by simpa using h1]
  by_cases h2:ns=ms
  ·rw [if_pos h2,decide_eq_true h2]
   rfl
  ·rw [if_neg h2,decide_eq_false h2]
   rfl
 ·rw [if_neg h1,show (m == n)=false by simpa using h1]
  rfl
end
end L2
namespace L2
open PySem PySem.Spec PyProof.Rows
def Ite (K:Frag) (a:Addr):It:=
 ⟨fun i H=>∃ xs x,SqL K H a xs/\xs[i]? = some x,
  fun i H v H'=>∃ p x,v=.ref p/\H p=none/\H'=upd H p (.tup [.int i,x])/\∀ xs,SqL K H a xs->xs[i]? = some x,
  fun i H=>∃ xs,SqL K H a xs/\xs.length <= i⟩
theorem turn_enum {P:Program} {w:World} {K:Frag} {es:List Expr} {ek:Nat} {ep:Pos} (a e it:Addr) (hne:e ≠ it) :
  m7 P w K (.Tuple es ek ep) (Ite K a) [e,it] e (fun i h=>(∃ old,IsEnum h e it ((i:Nat):Int) old)/\h.IsListIter it a i) where
 mem:=by simp
 obj:=fun i h ⟨⟨old,he⟩,hi⟩ c hc=>by
  simp only [List.mem_cons,List.not_mem_nil,or_false] at hc
  rcases hc with rfl | rfl
  ·exact ⟨_,he,fun v z=>by cases z⟩
  ·obtain ⟨o,ho,_,d⟩:=hi
   exact ⟨o,ho,fun v z=>by rw [d] at z; cases z⟩
 keep:=fun i h h' ⟨⟨old,he⟩,hi⟩ k=>⟨⟨old,k e (by simp) _ he⟩,hi.at fun o q=>k it (by simp) o q⟩
 item:=by
  intro X hP hw hK hc i pins s σ H E I hf st hg
  subst hP hw hK
  obtain ⟨xs,x,qx,hx⟩:=hg
  obtain ⟨⟨old,he⟩,hi⟩:=st
  obtain ⟨ix,rx,px,zx⟩:=I.list qx
  obtain ⟨u,hu,ru⟩:=rx.get hx
  have na:=fC (t:=false) I hf qx
  simp only [List.mem_cons,List.not_mem_nil,or_false,not_or] at na
  refine wpAny_pyNext_enum_item he hi px.isList (x:=u) (by simpa using hu) hne fun h' a1 a2 a3 a4 hk=>?_
  refine ⟨_,rfl,wpAny_letOwnedTupleGo_enum a1 fun h'' he'' sb=>?_⟩
  have lt2:∀ c ∈ [e,it],c < s.heap.objs.size:=fun c hc=>by
   simp only [List.mem_cons,List.not_mem_nil,or_false] at hc
   rcases hc with rfl | rfl
   ·exact Heap.lt_size he
   ·obtain ⟨o,ho,_⟩:=hi; exact Heap.lt_size ho
  have nT:s.heap.objs.size ∉ [e,it]:=fun hc=>absurd (lt2 _ hc) (Nat.lt_irrefl _)
  have kk:∀ c o,c ∉ [e,it]->s.heap.get? c=some o->h''.get? c=some o:=fun c o hc q=>by
   simp only [List.mem_cons,List.not_mem_nil,or_false,not_or] at hc
   exact (sb.2 c hc.1).trans (hk c o hc.1 hc.2 q)
  have hT:h''.get? s.heap.objs.size=some { cls:=.type "tuple",data:=.seq #[.int i s.toks,u] }:=(sb.2 _ (fun z=>nT (by simp [z]))).trans a3
  have fresh:H s.heap.objs.size=none:=I.hok.fresh (Nat.le_refl _)
  have gT:(s.heap.push { cls:=.type "tuple",data:=.seq #[.int i s.toks,u] }).get? s.heap.objs.size=some { cls:=.type "tuple",data:=.seq #[.int i s.toks,u] }:=Heap.get?_push_size _ rfl
  have I1:Inv X pins σ (upd H s.heap.objs.size (.tup [.int i,x])) { s with heap:=s.heap.push { cls:=.type "tuple",data:=.seq #[.int i s.toks,u] },toks:=s.toks + 1 }:=
   I.laid (fun b o q=>Heap.get?_push_of_some _ q) (Nat.le_refl _) ⟨by show 2 <= sizeLine; decide,[.int i s.toks,u],.cons ⟨_,rfl⟩ (.cons ru .nil),_,gT,rfl,_,rfl⟩
  have fp1:∀ c ∈ [e,it],eM X pins (upd H s.heap.objs.size (.tup [.int i,x])) c:=fun c hc=>
   ⟨by rw [ao (Nat.ne_of_lt (lt2 c hc))]; exact (hf c hc).1,(hf c hc).2⟩
  have I2:=I1.turnedN (h':=h'') (t':=s.toks + 1) (fp:=[e,it]) (fun c o hc q=>by
   rcases Heap.get?_push_cases q with ⟨e1,e2⟩ | e1
   ·rw [e1,e2]
    exact hT
   ·exact kk c o hc e1) fp1
  refine ⟨.ref s.heap.objs.size,_,I2,rfl,⟨_,x,rfl,fresh,rfl,fun xs' q=>by rw [I.list_inj q qx]; exact hx⟩,⟨⟨u,?_⟩,a2.extBut sb.extBut hne.symm⟩,fun c hc=>(fp1 c hc).1⟩
  have e1:((i + 1:Nat):Int)=(i:Int) + 1:=by push_cast; rfl
  rw [e1]
  exact he''
 done:=by
  intro X hP hw hK hc i pins s σ H E I hf st hg
  subst hP hw hK
  obtain ⟨xs,qx,hend⟩:=hg
  obtain ⟨⟨old,he⟩,hi⟩:=st
  obtain ⟨ix,rx,px,zx⟩:=I.list qx
  have lx:=rx.length
  refine wpAny_pyNext_enum_end (I.ok.hd hc) he hi px.isList (by simp; omega) fun h' eb=>⟨rfl,I.turnedN (fp:=[e,it]) (t':=s.toks) (fun c o hc q=>?_) hf⟩
  simp only [List.mem_cons,List.not_mem_nil,or_false,not_or] at hc
  exact eb c o hc.2 q
 self:=fun _ _ _ _ _ st h=>by
  obtain ⟨⟨old,he⟩,_⟩:=st
  exact wpAny_pyIter_enum he h
def iEnum (K:Frag) (ta:TA):TI:=fun σ H R=>ta σ H fun vs H1=>∃ a,vs=[.ref a]/\(∃ xs,SqL K H1 a xs)/\R (Ite K a) H1
theorem kpi_enum {X:Cx} (K:Frag) {es:List Expr} {ek:Nat} {ep:Pos} {a:Expr} {ta:TA} {p pos:Pos} (hK:X.K=K) (hg:Gl X "enumerate") (hm:X.mg "enumerate" = none) (ha:PA X [a] ta) (hs:starEach [a] X.env=[(false,eval a X.env)]:=by rfl) :
  PI X (.Tuple es ek ep) (.Call (.Name "enumerate" p) [a] [] pos) (iEnum K ta):=by
 subst hK
 intro pins s σ H R I h
 refine Call_ (fM I hg hm boot_enumerate (PyProof.Rows.callWith_type1 (thn (ha pos pins s σ H _ I h) fun us s1 ⟨vs,H1,I1,r1,q1⟩=>?_) hs rfl))
 obtain ⟨l,e,⟨xs,qx⟩,q⟩:=q1
 subst e
 cases r1 with
 | cons r rr=>
  cases rr
  cases r
  obtain ⟨ix,rx,px,zx⟩:=I1.list qx
  refine call_enumerate_list px.isList fun h' a1 a2 a3 a4=>?_
  have I2:Inv X pins σ H1 { s1 with heap:=h',toks:=s1.toks }:=I1.kept a4
  refine wpAny_pyIter_enum (s:={ s1 with heap:=h' }) a1 ?_
  refine ⟨_,[s1.heap.objs.size + 1,s1.heap.objs.size],_,_,H1,rfl,I2,turn_enum l (s1.heap.objs.size + 1) s1.heap.objs.size (Nat.succ_ne_self _),⟨⟨.none,a1⟩,a2⟩,fun b hb=>?_,q⟩
  have hb':s1.heap.objs.size <= b:=by
   simp only [List.mem_cons,List.not_mem_nil,or_false] at hb
   rcases hb with rfl | rfl
   ·exact Nat.le_add_right _ _
   ·exact Nat.le_refl _
  exact I1.fpOk hb' (I1.hok.fresh hb')
end L2
namespace L2
open PySem PySem.Spec PyProof.Rows
def tOrE (t1 t2:TE):TE:=fun σ H Q=>t1 σ H Q\/t2 σ H Q
def tMk0 (C:Addr):TE:=fun σ H Q=>∀ x dx,H x=none->H dx=none->dx ≠ x->Q (.ref x) (upd (upd H dx (.own x)) x (.ins C dx []))
section
variable {X:Cx} {C:Addr} {x:Str} {p pos apos:Pos} {e o:Expr} {es:List Expr} {te ta t1 t2:TE} {t:TA}
theorem pe_two (h1:PE X e t1) (h2:PE X e t2):PE X e (tOrE t1 t2):=fun pins s σ H Q I h=>h.elim (h1 pins s σ H Q I) (h2 pins s σ H Q I)
structure Mk0 (K:Frag) (C:Addr):Prop where
 makes:makesIn K C=true
 init:findIn K (.ref C) "__init__"=some (some (.builtin "object.__init__"))
 kp:keepIn K (.ref C)=true
theorem pe_mk0 (M:Mk0 X.K C) (hm:X.mg x=some (.ref C)) (hg:Gl X x:=by rfl) (hdb:(x == ("__debug__" : Str))=false:=by decide):PE X (.Call (.Name x p) [] [] pos) (tMk0 C):=by
 intro pins s σ H Q I h
 refine wpAny_Call_Name_kw (iD I hg hm ?_ hdb)
 have hq:=h (s.heap.objs.size + 1) s.heap.objs.size (I.hok.fresh (Nat.le_succ _)) (I.hok.fresh (Nat.le_refl _)) (Nat.ne_of_lt (Nat.lt_succ_self _))
 have I2:=Inv.made (C:=C) I
 refine PySem.W.callWith_K0 I.kIn M.kp (wpAny_call (make_map0 I.kIn M.makes M.init (fun self=>PySem.W.Looks.of_pure (PySem.W.oi_bind self)) ?_))
 have Y:=PySem.W.makes_of (M:=model X.prog X.w) I.kIn M.makes
 have hx:((s.heap.push emptyDict).push (instObj C s.heap.objs.size)).get? (s.heap.objs.size + 1)=some (instObj C s.heap.objs.size):=by
  have:=Heap.get?_push_size (s.heap.push emptyDict) (o:=instObj C s.heap.objs.size) rfl
  rwa [Heap.size_push] at this
 have y1:PySem.W.Looks (model X.prog X.w) ((s.heap.push emptyDict).push (instObj C s.heap.objs.size)) (typeOf (.ref (s.heap.objs.size + 1))) (.ref C):=(PySem.W.Looks.ld hx).andThen .now
 have y2:PySem.W.Looks (model X.prog X.w) ((s.heap.push emptyDict).push (instObj C s.heap.objs.size)) (isInstance (.ref (s.heap.objs.size + 1)) (.type "object")) true:=y1.andThen (Y.top.keeps fun b o e=>Heap.get?_push_of_some _ (Heap.get?_push_of_some _ e))
 obtain ⟨hh,g,d,tk,os⟩:=s
 refine codeAny_call_builtin PySem.W.oi_plain PySem.W.entry_oi (@PySem.W.check_slot (model X.prog X.w) _ _ _ "object.__init__" "object" "__init__" (.ref (hh.objs.size + 1)) [] [] _ PySem.W.oi_kind PySem.W.oi_split y2 (PySem.W.oi_args (.ref (hh.objs.size + 1))) ?_)
 rw [PySem.W.oi_run]
 exact wpAny_pure (And.intro rfl ⟨V.ref (hh.objs.size + 1),_,I2,rfl,hq⟩)
end
structure MtB (P:Program) (w:World) (K:Frag) (mg:Str->Option Value) (base:Heap) (k:Nat) (C:Addr) (m:Str) (sp:Sp):Prop where
 ex:∃ f fd ps,aI P w K mg base CX0 k f fd ps sp/\g6 K C m f/\Binds K fd ps []
 cl:Cls K C
structure MkB (P:Program) (w:World) (K:Frag) (mg:Str->Option Value) (base:Heap) (k:Nat) (C:Addr) (x:Str) (sp:Sp):Prop where
 ex:∃ f fd ps,aI P w K mg base CX0 k f fd ps sp/\Mk K C f/\Binds K fd ps []
 at_:mg x=some (.ref C)
section
variable {X:Cx} {C:Addr} {x m:Str} {k:Nat} {sp:Sp} {p pos apos:Pos} {e o:Expr} {es:List Expr} {te ta:TE} {t:TA}
theorem pe_mt {pl:Sem Bool} (M:MtB X.prog X.w X.K X.mg X.base k C m sp) (hr:Room k X.A) (he:PE X o ta) (ha:PA X (e :: es) t)
  (hst:starEach (e :: es) X.env=(false,eval e X.env) :: starEach es X.env:=by rfl) (hpl:(backTo pos (starEach es X.env)).any (·.1)=false:=by rfl)
  (ht:eval (.Call (.Attribute o m apos) (e :: es) [] pos) X.env=(do
   let ov <- eval o X.env
   standAt apos.atName
   let (f,first) <- holding [ov] (getMethod ov m pl)
   callWith pos f first (backTo pos (starEach (e :: es) X.env)) (backToKw pos (keywordEach [] X.env))):=by rfl) :
  PE X (.Call (.Attribute o m apos) (e :: es) [] pos) (g9 C m sp [] E0 ta t):=by
 obtain ⟨f,fd,ps,F,hm,hb⟩:=M.ex
 exact pe_meth he M.cl hm F hr hb .nil pass0 ha hst hpl ht
theorem pe_mkB (M:MkB X.prog X.w X.K X.mg X.base k C x sp) (hr:Room (k + 1) X.A) (ha:PA X (e :: es) t) (hg:Gl X x:=by rfl) (hdb:(x == ("__debug__" : Str))=false:=by decide)
  (he:starEach (e :: es) X.env=(false,eval e X.env) :: starEach es X.env:=by rfl) (hpl:(backTo pos (starEach es X.env)).any (·.1)=false:=by rfl) :
  PE X (.Call (.Name x p) (e :: es) [] pos) (tMake C sp [] E0 t):=by
 obtain ⟨f,fd,ps,F,hm,hb⟩:=M.ex
 exact pe_make hm F hr hg M.at_ hb .nil pass0 ha hdb he hpl
end
end L2
namespace L2
def nrm (a b:Int):Int × Int:=if b < 0 then (a.fdiv (-(Int.gcd a b:Int)),b.fdiv (-(Int.gcd a b:Int))) else (a.fdiv (Int.gcd a b:Int),b.fdiv (Int.gcd a b:Int))
theorem jO (a b:Int) (h:b ≠ 0):∃ (g:Nat) (a' b':Int),0 < g/\Int.gcd a b=g/\a=g * a'/\b=g * b'/\Int.gcd a' b'=1/\nrm a b=(if b < 0 then (-a',-b') else (a',b')):=by
 have hg:0 < Int.gcd a b:=Int.gcd_pos_of_ne_zero_right a h
 obtain ⟨a',ha⟩:=Int.gcd_dvd_left (a:=a) (b:=b)
 obtain ⟨b',hb⟩:=Int.gcd_dvd_right (a:=a) (b:=b)
 have hg0:(Int.gcd a b:Int) ≠ 0:=by omega
 refine ⟨Int.gcd a b,a',b',hg,rfl,ha,hb,?_,?_⟩
 ·have e:Int.gcd (Int.gcd a b * a') (Int.gcd a b * b')=Int.gcd a b * Int.gcd a' b':=by
   rw [Int.gcd_mul_left]; rfl
  rw [<- ha,<- hb] at e
  have:Int.gcd a b * 1=Int.gcd a b * Int.gcd a' b':=by omega
  exact (Nat.eq_of_mul_eq_mul_left hg this).symm
 ·unfold nrm
  generalize hG:(Int.gcd a b:Int)=G at *
  have f1:a.fdiv G=a':=by rw [ha]; exact Int.mul_fdiv_cancel_left _ hg0
  have f2:b.fdiv G=b':=by rw [hb]; exact Int.mul_fdiv_cancel_left _ hg0
  have f3:a.fdiv (-G) = -a':=by rw [ha,show G * a'=(-G) * (-a') by rw [Int.neg_mul_neg]]; exact Int.mul_fdiv_cancel_left _ (by omega)
  have f4:b.fdiv (-G) = -b':=by rw [hb,show G * b'=(-G) * (-b') by rw [Int.neg_mul_neg]]; exact Int.mul_fdiv_cancel_left _ (by omega)
  rw [f1,f2,f3,f4]
theorem ju (a b:Int) (h:b ≠ 0):0 < (nrm a b).2:=by
 obtain ⟨g,a',b',hg,_,ha,hb,_,e⟩:=jO a b h
 rw [e]
 by_cases hb0:b < 0
 ·rw [if_pos hb0]
  show 0 < -b'
  have:¬ 0 <= b':=fun z=>by have:=Int.mul_nonneg (show (0:Int) <= g by omega) z; omega
  omega
 ·rw [if_neg hb0]
  show 0 < b'
  have:¬ b' <= 0:=fun z=>by have:=Int.mul_nonneg (show (0:Int) <= g by omega) (show 0 <= -b' by omega); rw [Int.mul_neg] at this; omega
  omega
theorem ip (a b:Int) (h:b ≠ 0):Int.gcd (nrm a b).1 (nrm a b).2=1:=by
 obtain ⟨g,a',b',hg,_,ha,hb,c,e⟩:=jO a b h
 rw [e]
 split
 ·show Int.gcd (-a') (-b')=1
  rw [Int.neg_gcd,Int.gcd_neg]
  exact c
 ·exact c
theorem nrm_eq (a b:Int) (h:b ≠ 0):(nrm a b).1 * b=a * (nrm a b).2:=by
 obtain ⟨g,a',b',hg,_,ha,hb,c,e⟩:=jO a b h
 rw [e]
 split
 ·show -a' * b=a * -b'
  rw [ha,hb,Int.neg_mul,Int.mul_neg,Int.mul_left_comm,Int.mul_assoc]
 ·show a' * b=a * b'
  rw [ha,hb,Int.mul_left_comm,Int.mul_assoc]
theorem gp (g:Nat) (x:Int) (hg:0 < g):x.natAbs <= ((g:Int) * x).natAbs:=by
 rw [Int.natAbs_mul,Int.natAbs_natCast]
 exact Nat.le_mul_of_pos_left _ hg
theorem jL (a b:Int) (h:b ≠ 0):(nrm a b).1.natAbs <= a.natAbs/\(nrm a b).2.natAbs <= b.natAbs:=by
 obtain ⟨g,a',b',hg,_,ha,hb,c,e⟩:=jO a b h
 have h1:=gp g a' hg
 have h2:=gp g b' hg
 rw [<- ha] at h1
 rw [<- hb] at h2
 rw [e]
 split
 ·exact ⟨by show (-a').natAbs <= _; omega,by show (-b').natAbs <= _; omega⟩
 ·exact ⟨h1,h2⟩
theorem fw (a b:Int) (h:0 < b):nrm a b=(a,b)↔Int.gcd a b=1:=by
 obtain ⟨g,a',b',hg,eg,ha,hb,c,e⟩:=jO a b (by omega)
 constructor
 ·intro z
  have:=ip a b (by omega)
  rw [z] at this
  exact this
 ·intro z
  rw [z] at eg
  subst eg
  rw [e,if_neg (by omega)]
  rw [show a'=a by omega,show b'=b by omega]
theorem idvd {k m n:Int} (h:Int.gcd k m=1) (hd:k ∣ m * n):k ∣ n:=Int.natAbs_dvd_natAbs.mp (Nat.Coprime.dvd_of_dvd_mul_left (show Nat.Coprime k.natAbs m.natAbs from h) (by rw [<- Int.natAbs_mul]; exact Int.natAbs_dvd_natAbs.mpr hd))
end L2
namespace L2
open PySem PySem.Spec PyProof.Rows
theorem comp_lst {K:Frag} {a:Addr} {xs:List V} {te:TE} {Q:VK} {rest:St} {src:List (Option Nat)} {σ:St} {H0:Hp} (f:V->V) (hσ:bW src σ=none :: rest) (hx:SqL K H0 a xs) (hl:xs.length <= sizeLine)
  (he:∀ (i:Nat) x H (R:VK),xs[i]? = some x->Same H0 H->R (f x) H->te (some x :: rest) H R)
  (hd:∀ acc H,H0 acc=none->Same H0 H->H acc=some (.lst (xs.map f))->Q (.ref acc) H) :
  cT (Itl K a) src (cI 0) tYes te σ H0 Q:=by
 intro acc hacc
 rw [hσ]
 have hlen:(xs.map f).length=xs.length:=List.length_map ..
 refine eO (n:=xs.length) (fun i zs σ H=>Same H0 H/\zs=(xs.map f).take i/\∃ u,σ=u :: rest) (by omega) ⟨Same.new hacc,rfl,none,rfl⟩ ?_ ?_ ?_ ?_
 ·rintro i zs σ H hi hz ⟨sm,_⟩
  exact ⟨xs,xs[i],sm.seq hx,by simp⟩
 ·rintro zs σ H hz ⟨sm,_⟩
  exact ⟨xs,sm.seq hx,Nat.le_refl _⟩
 ·rintro i zs σ H x H' hi hz hzl ⟨sm,ez,u,rfl⟩ ⟨rfl,gx⟩
  have hx1:=gx xs (sm.seq hx)
  show te (some x :: rest) _ _
  refine he i x _ _ hx1 sm ?_
  refine ⟨zs,hz,by omega,zs ++ [f x],ac,by rw [List.length_append,List.length_singleton]; omega,sm.put hacc,?_,_,rfl⟩
  rw [jG f xs i x hx1,ez]
 ·rintro zs σ H hz hzl ⟨sm,ez,_⟩
  refine hd acc H hacc sm ?_
  rw [hz,ez,List.take_of_length_le (by omega)]
end L2
set_option exponentiation.threshold 5000
namespace L2
open PySem PySem.Spec PyProof.Rows
def eN (P:Int) (x y:Int × Int):Int × Int:=if P=0 then nrm (x.1 * y.2 + y.1 * x.2) (x.2 * y.2) else ((x.1 + y.1) % P,1)
def subN (P:Int) (x y:Int × Int):Int × Int:=if P=0 then nrm (x.1 * y.2 - y.1 * x.2) (x.2 * y.2) else ((x.1 - y.1) % P,1)
def jh (P:Int) (x y:Int × Int):Int × Int:=if P=0 then nrm (x.1 * y.1) (x.2 * y.2) else ((x.1 * y.1) % P,1)
def OkN (P:Int) (x:Int × Int):Prop:=(P=0/\0 < x.2/\Int.gcd x.1 x.2=1)\/(P ≠ 0/\0 <= x.1/\x.1 < P/\x.2=1)
theorem okN_nrm {a b:Int} (h:b ≠ 0):OkN 0 (nrm a b):=.inl ⟨rfl,ju a b h,ip a b h⟩
theorem okN_mod {P a:Int} (h:0 <= P) (h0:P ≠ 0):OkN P (a % P,1):=.inr ⟨h0,Int.emod_nonneg a h0,Int.emod_lt_of_pos a (by omega),rfl⟩
theorem OkN.den {P:Int} {x:Int × Int} (h:OkN P x):0 < x.2:=by
 rcases h with ⟨_,h,_⟩ | ⟨_,_,_,h⟩<;>omega
theorem gd {x y:Int × Int} (h1:0 < x.2) (h2:0 < y.2):x.2 * y.2 ≠ 0:=fun z=>by have:=Int.mul_pos h1 h2; omega
theorem mV {P:Int} {x y:Int × Int} (hP:0 <= P) (h1:OkN P x) (h2:OkN P y):OkN P (eN P x y):=by
 unfold eN
 split
 ·rename_i h; subst h; exact okN_nrm (gd h1.den h2.den)
 ·exact okN_mod hP ‹_›
theorem okN_mul {P:Int} {x y:Int × Int} (hP:0 <= P) (h1:OkN P x) (h2:OkN P y):OkN P (jh P x y):=by
 unfold jh
 split
 ·rename_i h; subst h; exact okN_nrm (gd h1.den h2.den)
 ·exact okN_mod hP ‹_›
theorem dc {P:Int} (hP:0 <= P) (h2:P ≠ 1):OkN P (0,1):=by
 by_cases h:P=0
 ·exact .inl ⟨h,by decide,by decide⟩
 ·exact .inr ⟨h,by decide,by show (0:Int) < P; omega,rfl⟩
def Sz (k:Nat) (x:Int × Int):Prop:=x.1.natAbs < 2 ^ k/\x.2.natAbs < 2 ^ k
theorem j3 {a b:Int} {i j:Nat} (h1:a.natAbs < 2 ^ i) (h2:b.natAbs < 2 ^ j):(a * b).natAbs < 2 ^ (i + j):=by
 rw [Int.natAbs_mul,Nat.pow_add]
 exact Nat.mul_lt_mul'' h1 h2
theorem sz_add {a b:Int} {k:Nat} (h1:a.natAbs < 2 ^ k) (h2:b.natAbs < 2 ^ k):(a + b).natAbs < 2 ^ (k + 1)/\(a - b).natAbs < 2 ^ (k + 1):=by
 rw [Nat.pow_succ]
 omega
theorem iH {i j:Nat} (h:i <= j):2 ^ i <= 2 ^ j:=Nat.pow_le_pow_right (by decide) h
theorem Sz.mono {i j:Nat} {x:Int × Int} (h:Sz i x) (hij:i <= j):Sz j x:=⟨Nat.lt_of_lt_of_le h.1 (iH hij),Nat.lt_of_lt_of_le h.2 (iH hij)⟩
theorem sz_nrm {a b:Int} {k:Nat} (hb:b ≠ 0) (h1:a.natAbs < 2 ^ k) (h2:b.natAbs < 2 ^ k):Sz k (nrm a b):=⟨Nat.lt_of_le_of_lt (jL a b hb).1 h1,Nat.lt_of_le_of_lt (jL a b hb).2 h2⟩
theorem sz_mod {P a:Int} (h:0 <= P) (h0:P ≠ 0) (h9:P <= 9973) {k:Nat} (hk:14 <= k):Sz k (a % P,1):=by
 have h1:=Int.emod_nonneg a h0
 have h2:=Int.emod_lt_of_pos a (show 0 < P by omega)
 have h3:2 ^ 14 <= 2 ^ k:=iH hk
 exact ⟨by show (a % P).natAbs < 2 ^ k; omega,by show (1:Int).natAbs < 2 ^ k; omega⟩
theorem jv {P:Int} {x y:Int × Int} {i j:Nat} (hP:0 <= P) (h9:P <= 9973) (o1:OkN P x) (o2:OkN P y) (h1:Sz i x) (h2:Sz j y) (hi:14 <= i):Sz (i + j + 1) (eN P x y)/\Sz (i + j + 1) (subN P x y)/\Sz (i + j + 1) (jh P x y):=by
 have d:=gd o1.den o2.den
 have m1:=j3 h1.1 h2.2
 have m2:=j3 h2.1 h1.2
 rw [Nat.add_comm j i] at m2
 have m3:=j3 h1.2 h2.2
 have m4:=j3 h1.1 h2.1
 have a:=sz_add m1 m2
 have le:2 ^ (i + j) <= 2 ^ (i + j + 1):=iH (by omega)
 refine ⟨?_,?_,?_⟩
 ·unfold eN
  split
  ·exact sz_nrm d a.1 (by omega)
  ·exact sz_mod hP ‹_› h9 (by omega)
 ·unfold subN
  split
  ·exact sz_nrm d a.2 (by omega)
  ·exact sz_mod hP ‹_› h9 (by omega)
 ·unfold jh
  split
  ·exact sz_nrm d (by omega) (by omega)
  ·exact sz_mod hP ‹_› h9 (by omega)
structure FunD (K:Frag) (x qual:Str) (st:Stmt) (f:Addr) (fd:FuncData):Prop where
 ex:∃ (oc:Value) (od:Option Addr) (dV kV doc pm:Value) (an:Option Addr) (cdv ct:Value) (osl:Array (Option Value)),
  fd=fnOf x qual (bd st) (aT st) (al st) dV kV doc pm an cdv ct/\K.lookup f=some ⟨oc,od,.func fd,osl⟩/\codeIn K cdv qual=true
 kp:keepIn K (.ref f)=true
section
variable {P:Program} {w:World} {K:Frag} {mg:Str->Option Value} {base:Heap}
theorem funD_mk {x qual:Str} {st:Stmt} {f:Addr} {oc:Value} {od an:Option Addr} {osl:Array (Option Value)} {dV kV doc pm cdv ct:Value} (l:K.lookup f=some ⟨oc,od,.func (fnOf x qual (bd st) (aT st) (al st) dV kV doc pm an cdv ct),osl⟩)
  (c:codeIn K cdv qual=true) (k:keepIn K (.ref f)=true):FunD K x qual st f (fnOf x qual (bd st) (aT st) (al st) dV kV doc pm an cdv ct):=⟨⟨oc,od,dV,kV,doc,pm,an,cdv,ct,osl,rfl,l,c⟩,k⟩
end
theorem kW {K:Frag} {a:Addr} {xs:List V} {te:TE} {Q:VK} {rest:St} {src:List (Option Nat)} {σ:St} {H0:Hp} (f:V->V) (hσ:bW src σ=none :: rest) (hx:SqL K H0 a xs) (hl:xs.length <= sizeLine)
  (he:∀ (i:Nat) x H (R:VK),xs[i]? = some x->Same H0 H->(∀ H',Same H H'->R (f x) H')->te (some x :: rest) H R)
  (hd:∀ acc H,H0 acc=none->Same H0 H->H acc=some (.lst (xs.map f))->Q (.ref acc) H) :
  cT (Itl K a) src (cI 0) tYes te σ H0 Q:=by
 intro acc hacc
 rw [hσ]
 have hlen:(xs.map f).length=xs.length:=List.length_map ..
 refine eO (n:=xs.length) (fun i zs σ H=>Same H0 H/\zs=(xs.map f).take i/\∃ u,σ=u :: rest) (by omega) ⟨Same.new hacc,rfl,none,rfl⟩ ?_ ?_ ?_ ?_
 ·rintro i zs σ H hi hz ⟨sm,_⟩
  exact ⟨xs,xs[i],sm.seq hx,by simp⟩
 ·rintro zs σ H hz ⟨sm,_⟩
  exact ⟨xs,sm.seq hx,Nat.le_refl _⟩
 ·rintro i zs σ H x H' hi hz hzl ⟨sm,ez,u,rfl⟩ ⟨rfl,gx⟩
  have hx1:=gx xs (sm.seq hx)
  show te (some x :: rest) _ _
  refine he i x _ _ hx1 sm fun H2 s2=>?_
  refine ⟨zs,s2 _ _ hz,by omega,zs ++ [f x],ac,by rw [List.length_append,List.length_singleton]; omega,(sm.trans s2).put hacc,?_,_,rfl⟩
  rw [jG f xs i x hx1,ez]
 ·rintro zs σ H hz hzl ⟨sm,ez,_⟩
  refine hd acc H hacc sm ?_
  rw [hz,ez,List.take_of_length_le (by omega)]
end L2
namespace L2
open PySem PySem.Spec PyProof.Rows
structure Fly (P:Program) (w:World) (outer:List Env) (H:Hp) (s:Shared) (x:Addr) (cls:Value) (B:Heap) (H':Hp) (s':Shared):Prop where
 os:s'.os=s.os
 bare:AllBare s'.gens
 fly:∃ a0,Heap.FlyingW B outer x cls a0 s'.heap
 keep:∀ b o,s.heap.get? b=some o->H b=none->b ∉ frs outer->B.get? b=some o
 there:∀ b o,s.heap.get? b=some o->b ∉ frs outer->∃ o',B.get? b=some o'
 slot:∀ b o,s.heap.get? b=some o->b ∈ frs outer->∃ sl,s'.heap.get? b=some { o with slots:=sl }
 free:∀ b o,s.heap.get? b=some o->H b=none->H' b=none
 tups:∀ b xs,H b=some (.tup xs)->H' b=some (.tup xs)
 frzs:∀ b o u,H b=some (.frz o u)->H' b=some (.frz o u)
 tbls:∀ b ps,H b=some (.tbl ps)->∃ more,H' b=some (.tbl (ps ++ more))
 hok:HOk P w H' B
def CXE (P:Program) (w:World):CXT:=fun outer H s E e s'=>∃ x cls B H',e=.ref x/\Fly P w outer H s x cls B H' s'/\E cls none H'
theorem passE0 {X:Cx} {P:Program} {w:World}:df (CXE P w) X E0:=fun _ _ _ _ _ _ _ ⟨_,_,_,_,_,_,z⟩=>z.elim
section
variable {P:Program} {w:World} {K:Frag} {mg:Str->Option Value} {base:Heap} {N:List Str} {qual:Str} {scope:Scope} {f:Addr} {cd:Value} {A:Around} {outer:List Env} {s₀ s:Shared} {H₀ H:Hp} {E:XK} {pins:List (Addr × Obj)} {σ:St}
theorem xe_raise {h':Heap} {e:Addr} {cls:Value} {args:List Value} (I:Inv (dw (CXE P w) P w K mg base N qual scope f cd A outer s₀ H₀ E) pins σ H s) (hx:Heap.MadeExcOf s.heap h' e cls args) (q:E cls none H) :
  (dw (CXE P w) P w K mg base N qual scope f cd A outer s₀ H₀ E).xe (.ref e) { s with heap:=h' }:=by
 show wpAny (model P w) (A.deeper (envOfC qual scope s₀.heap.objs.size f cd)) (leaving (envOfC qual scope s₀.heap.objs.size f cd) (.ref e)) (fun _ s''=>CXE P w outer H₀ s₀ E (.ref e) s'') (fun e' s''=>CXE P w outer H₀ s₀ E e' s'') { s with heap:=h' }
 have hst:s.heap.FunFrames base (envOfC qual scope s₀.heap.objs.size f cd :: outer):=I.stack
 have noEx:∀ b:Addr,b ∉ (dw (CXE P w) P w K mg base N qual scope f cd A outer s₀ H₀ E).ex:=fun b z=>absurd (show b ∈ ([]:List Addr) from z) (by simp)
 have nL:∀ b o,s₀.heap.get? b=some o->b ∉ frs outer->b ∉ frs (envOfC qual scope s₀.heap.objs.size f cd :: outer):=fun b o e1 hb hm=>by
  rcases List.mem_cons.mp (I.stkSub b hm) with z | z
  ·have hlt:=Heap.lt_size e1
   rw [show b=s₀.heap.objs.size from z] at hlt
   exact absurd hlt (Nat.lt_irrefl _)
  ·exact hb z
 refine wpAny_leaves_madeW (base:=PySem.W.hideAll s.heap (frs (envOfC qual scope s₀.heap.objs.size f cd :: outer))) (h:=s.heap) I.ok.frames rfl (fun b o z=>PySem.W.of_hideAll _ z)
  (PySem.W.funFrames_hide hst fun env he a ha=>List.mem_filterMap.mpr ⟨env,he,ha⟩) hx fun h'' t fl _ _ up=>?_
 refine ⟨e,cls,_,H,rfl,⟨I.os,I.bare,⟨_,fl⟩,fun b o e1 n hb=>?_,fun b o e1 hb=>?_,fun b o e1 hb=>?_,fun b o e1 n=>I.base.free b o e1 n (noEx b),I.base.tups,I.base.frzs,I.base.tbls,fun a ob ea=>?_⟩,q⟩
 ·exact hideAll_get _ (I.base.keep b o e1 n hb (noEx b)) (nL b o e1 hb)
 ·obtain ⟨o',e2⟩:=I.base.there b o e1 (noEx b)
  exact ⟨o',hideAll_get _ e2 (nL b o e1 hb)⟩
 ·obtain ⟨sl,e2⟩:=I.base.slot b o e1 (I.ok.frf b hb) hb (noEx b)
  obtain ⟨_,o3,e3,hd⟩:=I.ok.funs.mem hb
  have e1':(dw (CXE P w) P w K mg base N qual scope f cd A outer s₀ H₀ E).s₀.heap.get? b=some o:=e1
  rw [e1'] at e3
  cases e3
  obtain ⟨sl2,e4⟩:=up b _ (hx.keeps b _ e2) hd
  exact ⟨sl2,e4⟩
 ·refine (I.hok a ob ea).stay (fun b u hb e2=>hideAll_get _ e2 fun hm=>?_) (fun _ z=>z) fun _ _ z=>z
  have hn:=I.stkFree b hm
  rcases hb with z | z
  ·rw [z,ea] at hn; cases hn
  ·rw [z] at hn; cases hn
theorem passes_on:df (CXE P w) (dw (CXE P w) P w K mg base N qual scope f cd A outer s₀ H₀ E) E:=by
 intro pins σ H s e s' I hx
 obtain ⟨x,cls,B,H',rfl,F,q⟩:=hx
 show wpAny (model P w) (A.deeper (envOfC qual scope s₀.heap.objs.size f cd)) (leaving (envOfC qual scope s₀.heap.objs.size f cd) (.ref x)) (fun _ s''=>CXE P w outer H₀ s₀ E (.ref x) s'') (fun e' s''=>CXE P w outer H₀ s₀ E e' s'') s'
 have noEx:∀ b:Addr,b ∉ (dw (CXE P w) P w K mg base N qual scope f cd A outer s₀ H₀ E).ex:=fun b z=>absurd (show b ∈ ([]:List Addr) from z) (by simp)
 have nL:∀ b o,s₀.heap.get? b=some o->b ∉ frs outer->b ∉ frs (envOfC qual scope s₀.heap.objs.size f cd :: outer):=fun b o e1 hb hm=>by
  rcases List.mem_cons.mp (I.stkSub b hm) with z | z
  ·have hlt:=Heap.lt_size e1
   rw [show b=s₀.heap.objs.size from z] at hlt
   exact absurd hlt (Nat.lt_irrefl _)
  ·exact hb z
 obtain ⟨a0,fl⟩:=F.fly
 refine wpAny_leaves_onW (base:=B) I.ok.frames rfl fl fun h'' fl2 up=>?_
 refine ⟨x,cls,B,H',rfl,⟨F.os.trans I.os,F.bare,⟨_,fl2⟩,fun b o e1 n hb=>?_,fun b o e1 hb=>?_,fun b o e1 hb=>?_,fun b o e1 n=>?_,fun b xs e1=>F.tups b xs (I.base.tups b xs e1),fun b o u e1=>F.frzs b o u (I.base.frzs b o u e1),fun b ps e1=>?_,F.hok⟩,q⟩
 ·exact F.keep b o (I.base.keep b o e1 n hb (noEx b)) (I.base.free b o e1 n (noEx b)) (nL b o e1 hb)
 ·obtain ⟨o',e2⟩:=I.base.there b o e1 (noEx b)
  exact F.there b o' e2 (nL b o e1 hb)
 ·obtain ⟨sl,e2⟩:=I.base.slot b o e1 (I.ok.frf b hb) hb (noEx b)
  obtain ⟨_,o3,e3,hd⟩:=I.ok.funs.mem hb
  have e1':(dw (CXE P w) P w K mg base N qual scope f cd A outer s₀ H₀ E).s₀.heap.get? b=some o:=e1
  rw [e1'] at e3
  cases e3
  have hb':b ∈ frs (envOfC qual scope s₀.heap.objs.size f cd :: outer):=by
   obtain ⟨env,he,hf⟩:=List.mem_filterMap.mp hb
   exact List.mem_filterMap.mpr ⟨env,List.mem_cons_of_mem _ he,hf⟩
  obtain ⟨sl2,e4⟩:=F.slot b _ e2 hb'
  obtain ⟨sl3,e5⟩:=up b _ e4 hd
  exact ⟨sl3,e5⟩
 ·obtain ⟨o',e2⟩:=I.base.there b o e1 (noEx b)
  exact F.free b o' e2 (I.base.free b o e1 n (noEx b))
 ·obtain ⟨m1,e2⟩:=I.base.tbls b ps e1
  obtain ⟨m2,e3⟩:=F.tbls b _ e2
  exact ⟨m1 ++ m2,by rw [e3,Array.append_assoc]⟩
end
end L2
namespace L2
open PySem PySem.Spec PyProof.Rows
abbrev jV:List Value:=[.type "ValueError",.type "Exception",.type "BaseException",.type "object"]
abbrev ExcK (K:Frag) (C:Addr):Prop:=excIn K C jV "ValueError.__new__"=true
theorem exc_obj {K:Frag} {h:Heap} {C:Addr} (X:K.In h) (q:ExcK K C):∃ bm N nm qn bs hdct sn sub ab col dd k0 k1 k2 k3 k5 mN,
  h.get? C=some (excClassObj nm qn C N bs bm hdct sn sub ab col dd k0 k1 k2 k3 k5 "ValueError.__new__")/\h.Ns N mN/\mN "__init__" = none/\OwnTail h jV bm:=by
 have q':=q
 unfold ExcK excIn at q'
 cases hl:K.lookup C with
 | none=>rw [hl] at q'; cases q'
 | some ob=>
  rw [hl] at q'
  obtain ⟨oc,od,oda,osl⟩:=ob
  split at q'
  ·rename_i dz cz sz heq
   cases heq
   split at q'
   ·rename_i Cz bz z0 z1 z2 z3 nz z5 hm hs
    rw [Bool.and_eq_true,Bool.and_eq_true,Bool.and_eq_true,Bool.and_eq_true,Bool.and_eq_true] at q'
    obtain ⟨⟨⟨⟨⟨w1,w2⟩,w3⟩,w4⟩,w5⟩,w6⟩:=q'
    obtain ⟨c1,c2,c3,c4,c5,c6,c7,c8,c9,c10,c11⟩:=cz
    have e1:=beq_iff_eq.mp w1
    have e2:=beq_iff_eq.mp w2
    have e6:=beq_iff_eq.mp w6
    have e3:c11=false:=by simpa using w3
    have em:c3=.ref Cz :: bz:=hm
    subst e1 e2 e3 em
    have es:osl = #[z0,z1,z2,z3,some (.builtin "ValueError.__new__"),z5]:=by
     cases osl
     simp only at hs
     rw [hs]
    subst es
    exact ⟨bz,_,_,_,_,_,_,_,_,_,_,_,_,_,_,_,_,X _ _ hl,.of_isNs (PySem.W.isNs_of_in X w5),PySem.W.nsMap_none_of_in X w5 e6,PySem.W.tail_of_in X w4⟩
   ·cases q'
  ·cases q'
def tRaise (E:XK) (C:Addr) (t:TA):TS:=fun _ σ H=>t σ H fun vs H1=>vs.length <= sizeLine/\E (.ref C) none H1
section
variable {P:Program} {w:World} {K:Frag} {mg:Str->Option Value} {base:Heap} {N:List Str} {qual:Str} {scope:Scope} {f:Addr} {cd:Value} {A:Around} {outer:List Env} {s₀:Shared} {H₀:Hp} {E:XK}
theorem ko {C:Addr} {x:Str} {np cpos pos:Pos} {e₀:Expr} {es:List Expr} {t:TA} (hC:ExcK K C) (hm:mg x=some (.ref C)) (ha:PA (dw (CXE P w) P w K mg base N qual scope f cd A outer s₀ H₀ E) (e₀ :: es) t)
  (hg:Gl (dw (CXE P w) P w K mg base N qual scope f cd A outer s₀ H₀ E) x:=by rfl) (hd:(x == ("__debug__" : Str))=false:=by decide)
  (he:starEach (e₀ :: es) (dw (CXE P w) P w K mg base N qual scope f cd A outer s₀ H₀ E).env=(false,eval e₀ (dw (CXE P w) P w K mg base N qual scope f cd A outer s₀ H₀ E).env) :: starEach es (dw (CXE P w) P w K mg base N qual scope f cd A outer s₀ H₀ E).env:=by rfl)
  (hpl:(backTo cpos (starEach es (dw (CXE P w) P w K mg base N qual scope f cd A outer s₀ H₀ E).env)).any (·.1)=false:=by rfl) :
  PS (dw (CXE P w) P w K mg base N qual scope f cd A outer s₀ H₀ E) (.Raise (some (.Call (.Name x np) (e₀ :: es) [] cpos)) none pos) (tRaise E C t):=by
 intro pins s σ H D I h
 obtain ⟨bm,Nn,nm,qn,bs,hdct,sn,sub,ab,col,dd,k0,k1,k2,k3,k5,mN,hCo,hN,hni,T⟩:=exc_obj I.mod.kin hC
 have any0:(backTo cpos (starEach (e₀ :: es) (dw (CXE P w) P w K mg base N qual scope f cd A outer s₀ H₀ E).env)).any (·.1)=false:=by
  rw [he]
  show (false || (backTo cpos (starEach es _)).any (·.1))=false
  rw [hpl]; rfl
 refine wpAny_Raise_call_subU (C:=C) (nm:=nm) (q:=qn) (N:=Nn) (bs:=bs) (bm:=bm) (hdct:=hdct) (sn:=sn) (sub:=sub) (ab:=ab) (col:=col) (dd:=dd) (k0:=k0) (k1:=k1) (k2:=k2) (k3:=k3) (k5:=k5)
  PySem.F.excBase_ValueError (bmB:=jV) (by decide +kernel) PySem.F.excBase_ValueError (mN:=mN) (T.hasType PySem.F.excBase_ValueError.hasBase) (I.ok.hd rfl) any0 hni (iD I hg hm ⟨rfl,?_⟩ hd)
 have a1:=ha cpos pins s σ H _ I h
 rw [he] at a1 ⊢
 refine Calls.evalArgs_plain (wpAny_mono a1 (fun us s2 z=>?_) fun _ _ z=>z)
 obtain ⟨vs,H2,I2,r,hlen,q⟩:=z
 exact ⟨rfl,by rw [<- r.length]; exact hlen,I2.bk _ _ hCo,hN.keeps I2.bk,T.keeps I2.bk,fun h' e mk=>xe_raise I2 mk q⟩
end
section
variable {P:Program} {w:World} {K:Frag} {mg:Str->Option Value} {base:Heap}
theorem Fun.okX {x qual:Str} {st:Stmt} {f:Addr} {fd:FuncData} {N ps:List Str} {k:Nat} {sp:Sp} (F:Fun K x qual st f fd) (S:FnScope N ps (al st)) (len:∀ vs H Q E,sp vs H Q E->vs.length=ps.length)
  (hbody:∀ (cdv:Value) (A:Around) (outer:List Env) (s:Shared) (H:Hp) (vs:List V) (Q:VK) (E:XK),Room k (A.deeper (envOfC qual (al st) s.heap.objs.size f cdv))->sp vs H Q E->
   ∃ t,PSs (dw (CXE P w) P w K mg base N qual (al st) f cdv A outer s H E) (aT st) t/\t { nx:=fun _ H'=>Q .non H',rt:=Q } (gr N vs) H):aI P w K mg base (CXE P w) (k + 1) f fd ps sp:=by
 obtain ⟨oc,od,kV,doc,pm,an,cdv,ct,osl,rfl,lk,hcd⟩:=F.ex
 exact fn_of lk hcd S len fun A outer s H vs Q E hr hsp=>hbody cdv A outer s H vs Q E hr hsp
theorem FunD.okX {x qual:Str} {st:Stmt} {f:Addr} {fd:FuncData} {N ps:List Str} {k:Nat} {sp:Sp} (F:FunD K x qual st f fd) (S:FnScope N ps (al st)) (len:∀ vs H Q E,sp vs H Q E->vs.length=ps.length)
  (hbody:∀ (cdv:Value) (A:Around) (outer:List Env) (s:Shared) (H:Hp) (vs:List V) (Q:VK) (E:XK),Room k (A.deeper (envOfC qual (al st) s.heap.objs.size f cdv))->sp vs H Q E->
   ∃ t,PSs (dw (CXE P w) P w K mg base N qual (al st) f cdv A outer s H E) (aT st) t/\t { nx:=fun _ H'=>Q .non H',rt:=Q } (gr N vs) H):aI P w K mg base (CXE P w) (k + 1) f fd ps sp:=by
 obtain ⟨oc,od,dV,kV,doc,pm,an,cdv,ct,osl,rfl,lk,hcd⟩:=F.ex
 exact fn_of lk hcd S len fun A outer s H vs Q E hr hsp=>hbody cdv A outer s H vs Q E hr hsp
end
structure FnBX (P:Program) (w:World) (K:Frag) (mg:Str->Option Value) (base:Heap) (k:Nat) (x:Str) (sp:Sp):Prop where
 ex:∃ f fd ps,aI P w K mg base (CXE P w) k f fd ps sp/\mg x=some (.ref f)/\keepIn K (.ref f)=true/\Binds K fd ps []
structure MtBX (P:Program) (w:World) (K:Frag) (mg:Str->Option Value) (base:Heap) (k:Nat) (C:Addr) (m:Str) (dvs:List V) (sp:Sp):Prop where
 ex:∃ f fd ps ds,aI P w K mg base (CXE P w) k f fd ps sp/\g6 K C m f/\Binds K fd ps ds/\Vals dvs ds
 cl:Cls K C
structure MkBX (P:Program) (w:World) (K:Frag) (mg:Str->Option Value) (base:Heap) (k:Nat) (C:Addr) (x:Str) (sp:Sp):Prop where
 ex:∃ f fd ps,aI P w K mg base (CXE P w) k f fd ps sp/\Mk K C f/\Binds K fd ps []
 at_:mg x=some (.ref C)
section
variable {X:Cx} {C:Addr} {x m:Str} {k:Nat} {sp:Sp} {dvs:List V} {p pos apos:Pos} {e o:Expr} {es:List Expr} {te ta:TE} {t:TA} {E:XK}
theorem pe_fnX (F:FnBX X.prog X.w X.K X.mg X.base k x sp) (hr:Room k X.A) (hx:df (CXE X.prog X.w) X E) (ha:PA X (e :: es) t) (hg:Gl X x:=by rfl) (hdb:(x == ("__debug__" : Str))=false:=by decide)
  (he:starEach (e :: es) X.env=(false,eval e X.env) :: starEach es X.env:=by rfl) (hpl:(backTo pos (starEach es X.env)).any (·.1)=false:=by rfl) :
  PE X (.Call (.Name x p) (e :: es) [] pos) (tCall sp [] E t):=by
 obtain ⟨f,fd,ps,F,hm,hk,hb⟩:=F.ex
 exact pe_call F hr hg hm hk hb .nil hx ha hdb he hpl
theorem pe_mtX {pl:Sem Bool} (M:MtBX X.prog X.w X.K X.mg X.base k C m dvs sp) (hr:Room k X.A) (hx:df (CXE X.prog X.w) X E) (he:PE X o ta) (ha:PA X (e :: es) t)
  (hst:starEach (e :: es) X.env=(false,eval e X.env) :: starEach es X.env:=by rfl) (hpl:(backTo pos (starEach es X.env)).any (·.1)=false:=by rfl)
  (ht:eval (.Call (.Attribute o m apos) (e :: es) [] pos) X.env=(do
   let ov <- eval o X.env
   standAt apos.atName
   let (f,first) <- holding [ov] (getMethod ov m pl)
   callWith pos f first (backTo pos (starEach (e :: es) X.env)) (backToKw pos (keywordEach [] X.env))):=by rfl) :
  PE X (.Call (.Attribute o m apos) (e :: es) [] pos) (g9 C m sp dvs E ta t):=by
 obtain ⟨f,fd,ps,ds,F,hm,hb,hv⟩:=M.ex
 exact pe_meth he M.cl hm F hr hb hv hx ha hst hpl ht
theorem pe_mkX (M:MkBX X.prog X.w X.K X.mg X.base k C x sp) (hr:Room (k + 1) X.A) (hx:df (CXE X.prog X.w) X E) (ha:PA X (e :: es) t) (hg:Gl X x:=by rfl) (hdb:(x == ("__debug__" : Str))=false:=by decide)
  (he:starEach (e :: es) X.env=(false,eval e X.env) :: starEach es X.env:=by rfl) (hpl:(backTo pos (starEach es X.env)).any (·.1)=false:=by rfl) :
  PE X (.Call (.Name x p) (e :: es) [] pos) (tMake C sp [] E t):=by
 obtain ⟨f,fd,ps,F,hm,hb⟩:=M.ex
 exact pe_make hm F hr hg M.at_ hb .nil hx ha hdb he hpl
end
end L2
namespace L2
open PySem PySem.Spec PyProof.Rows
section
variable {X:Cx} {C:Addr} {x m:Str} {k:Nat} {sp:Sp} {dvs:List V} {ds:List Value} {p pos apos:Pos} {e o:Expr} {es:List Expr} {te ta:TE} {t:TA} {E:XK} {f:Addr} {fd:FuncData} {ps:List Str}
end
section
variable {X:Cx} {pins:List (Addr × Obj)} {σ:St} {H H1 H':Hp} {s s1 s':Shared} {x C:Addr} {cls:Value} {B h:Heap}
end
end L2
namespace L2
open PySem PySem.Spec PyProof.Rows
structure XCl (K:Frag) (D:Addr):Prop where
 ek:ExcK K D
 ga:findIn K (.ref D) "__getattribute__"=some (some (.builtin "BaseException.__getattribute__"))
 gt:findIn K (.ref D) "__getattr__"=some none
 ca:findIn K (.ref D) "__class__"=some (some (.builtin "object.__class__"))
 mo:mroIn K D (.type "object")=some true
 mb:mroIn K D (.type "BaseException")=some true
 dg:specialIn K (.builtin "object.__class__") "__get__"=some (some (.builtin "getset_descriptor.__get__"))
 dt:takesIn K (.builtin "object.__class__")=some true
section
variable {prog:Program} {w:World} {A:Around} {E:Value->Shared->Prop} {s:Shared} {K:Frag} {x D:Addr}
end
end L2
namespace L2
open PySem PySem.Spec PyProof.Rows
theorem two_of {us:List Value} {d:Value} (h:(us ++ [d]).length=3):∃ a b,us=[a,b]:=by
 rw [List.length_append,List.length_singleton] at h
 match us,h with
 | [a,b],_=>exact ⟨a,b,rfl⟩
section
variable {X:Cx} {C:Addr} {x m:Str} {k:Nat} {sp:Sp} {p pos apos:Pos} {e o:Expr} {es:List Expr} {te ta:TE} {t:TA}
theorem km {pl:Sem Bool} (M:MtB X.prog X.w X.K X.mg X.base k C m sp) (hr:Room k X.A) (he:PE X o ta)
  (ht:eval (.Call (.Attribute o m apos) [] [] pos) X.env=(do
   let ov <- eval o X.env
   standAt apos.atName
   let (f,first) <- holding [ov] (getMethod ov m pl)
   callWith pos f first (backTo pos (starEach [] X.env)) (backToKw pos (keywordEach [] X.env))):=by rfl) :
  PE X (.Call (.Attribute o m apos) [] [] pos) (g9 C m sp [] E0 ta dI):=by
 obtain ⟨f,fd,ps,F,hm,hb⟩:=M.ex
 exact pe_meth0 he M.cl hm F hr hb .nil pass0 ht
end
end L2
namespace L2
open PySem PySem.Spec PyProof.Rows
section
variable {P:Program} {w:World} {K:Frag} {mg:Str->Option Value} {base:Heap}
end
end L2
namespace L2
open PySem PySem.Spec PyProof.Rows
end L2
namespace L2
open PySem PySem.Spec PyProof.Rows PySem.W
def ev {α:Type} (c:Nat->Nat->Bool):KasT α->α
 | .ret a=>a
 | .ask i j k=>ev c (k (c i j))
theorem f9 {α β:Type} {c:Nat->Nat->Bool} {f:α->KasT β}:∀ t:KasT α,ev c (t.bind f)=ev c (f (ev c t))
 | .ret _=>rfl
 | .ask i j k=>f9 (k (c i j))
structure Tot (n:Nat) (c:Nat->Nat->Bool):Prop where
 tr:∀ i j k,i < n->j < n->k < n->c i j=true->c j k=true->c i k=true
 to:∀ i j,i < n->j < n->i ≠ j->c i j=false->c j i=true
def Pm (n:Nat) (p:Array Nat):Prop:=p.toList.Perm (List.range n)
section
variable {n:Nat} {c:Nat->Nat->Bool} {p:Array Nat}
theorem Pm.sz (h:Pm n p):p.size=n:=by
 have:=h.length_eq
 rw [List.length_range] at this
 rw [<- this]; rfl
theorem gd_at {i:Nat} (hi:i < p.size):p.getD i 0=p[i]:=by simp [Array.getD,hi]
theorem gd_q (p:Array Nat) (i:Nat):p.getD i 0=(p[i]?).getD 0:=by simp [Array.getD_eq_getD_getElem?]
theorem Pm.lt (h:Pm n p) {i:Nat} (hi:i < n):p.getD i 0 < n:=by
 have hs:=h.sz
 rw [gd_at (by omega)]
 exact List.mem_range.mp (h.mem_iff.mp (by rw [Array.mem_toList_iff]; exact Array.getElem_mem _))
theorem Pm.inj (h:Pm n p) {i j:Nat} (hi:i < n) (hj:j < n) (hne:i ≠ j):p.getD i 0 ≠ p.getD j 0:=by
 have hs:=h.sz
 have nd:p.toList.Nodup:=h.nodup_iff.mpr List.nodup_range
 intro z
 rw [gd_at (by omega),gd_at (by omega)] at z
 exact hne ((List.getElem_inj (h₀:=by rw [Array.length_toList]; omega) (h₁:=by rw [Array.length_toList]; omega) nd).mp (by rw [Array.getElem_toList,Array.getElem_toList]; exact z))
theorem Pm.of {q:Array Nat} (h:Pm n p) (e:q.Perm p):Pm n q:=(Array.perm_iff_toList_perm.mp e).trans h
def So (c:Nat->Nat->Bool) (p:Array Nat) (k:Nat):Prop:=∀ i j,i < j->j < k->c (p.getD i 0) (p.getD j 0)=true
def De (c:Nat->Nat->Bool) (p:Array Nat) (k:Nat):Prop:=∀ i j,i < j->j < k->c (p.getD j 0) (p.getD i 0)=true
theorem Tot.other (T:Tot n c) (hp:Pm n p) {i j:Nat} (hi:i < n) (hj:j < n) (hne:i ≠ j) (h:¬ c (p.getD i 0) (p.getD j 0)=true):c (p.getD j 0) (p.getD i 0)=true:=
 T.to _ _ (hp.lt hi) (hp.lt hj) (hp.inj hi hj hne) (by simpa using h)
theorem Tot.trp (T:Tot n c) (hp:Pm n p) {i j k:Nat} (hi:i < n) (hj:j < n) (hk:k < n) (h1:c (p.getD i 0) (p.getD j 0)=true) (h2:c (p.getD j 0) (p.getD k 0)=true):c (p.getD i 0) (p.getD k 0)=true:=
 T.tr _ _ _ (hp.lt hi) (hp.lt hj) (hp.lt hk) h1 h2
theorem So.step (T:Tot n c) (hp:Pm n p) {m:Nat} (h1:1 <= m) (hm:m < n) (hs:So c p m) (h:c (p.getD (m - 1) 0) (p.getD m 0)=true):So c p (m + 1):=fun i j hij hj=>by
 by_cases e:j=m
 ·subst e
  by_cases e2:i=j - 1
  ·rw [e2]; exact h
  ·exact T.trp hp (by omega) (by omega) hm (hs i (j - 1) (by omega) (by omega)) h
 ·exact hs i j hij (by omega)
theorem De.step (T:Tot n c) (hp:Pm n p) {m:Nat} (h1:1 <= m) (hm:m < n) (hs:De c p m) (h:c (p.getD m 0) (p.getD (m - 1) 0)=true):De c p (m + 1):=fun i j hij hj=>by
 by_cases e:j=m
 ·subst e
  by_cases e2:i=j - 1
  ·rw [e2]; exact h
  ·exact T.trp hp hm (by omega) (by omega) h (hs i (j - 1) (by omega) (by omega))
 ·exact hs i j hij (by omega)
theorem ev_asc (T:Tot n c) (hp:Pm n p):∀ f m,1 <= m->m + f <= n->So c p m->m <= ev c (kas_asc p f m)/\ev c (kas_asc p f m) <= m + f/\So c p (ev c (kas_asc p f m))/\(ev c (kas_asc p f m) < m + f->c (p.getD (ev c (kas_asc p f m)) 0) (p.getD (ev c (kas_asc p f m) - 1) 0)=true)
 | 0,m,_,_,hs=>⟨Nat.le_refl _,Nat.le_refl _,hs,fun h=>absurd h (Nat.lt_irrefl _)⟩
 | f + 1,m,h1,h2,hs=>by
  by_cases hc:c (p.getD m 0) (p.getD (m - 1) 0)=true
  ·have e:ev c (kas_asc p (f + 1) m)=m:=by
    show ev c (if c (p.getD m 0) (p.getD (m - 1) 0)=true then .ret m else kas_asc p f (m + 1))=m
    rw [if_pos hc]; rfl
   rw [e]
   exact ⟨Nat.le_refl _,by omega,hs,fun _=>hc⟩
  ·have e:ev c (kas_asc p (f + 1) m)=ev c (kas_asc p f (m + 1)):=by
    show ev c (if c (p.getD m 0) (p.getD (m - 1) 0)=true then .ret m else kas_asc p f (m + 1))=_
    rw [if_neg hc]
   rw [e]
   obtain ⟨a,b,d,g⟩:=ev_asc T hp f (m + 1) (by omega) (by omega) (hs.step T hp h1 (by omega) (T.other hp (by omega) (by omega) (by omega) hc))
   exact ⟨by omega,by omega,d,fun h=>g (by omega)⟩
theorem ev_desc (T:Tot n c) (hp:Pm n p):∀ f m,1 <= m->m + f <= n->De c p m->∃ r,ev c (kas_desc f p m 0)=(p,r,0)/\m <= r/\r <= m + f/\De c p r
 | 0,m,_,_,hs=>⟨m,rfl,Nat.le_refl _,Nat.le_refl _,hs⟩
 | f + 1,m,h1,h2,hs=>by
  by_cases hc:c (p.getD m 0) (p.getD (m - 1) 0)=true
  ·obtain ⟨r,e,a,b,d⟩:=ev_desc T hp f (m + 1) (by omega) (by omega) (hs.step T hp h1 (by omega) hc)
   refine ⟨r,?_,by omega,by omega,d⟩
   rw [<- e]
   show ev c (if c (p.getD m 0) (p.getD (m - 1) 0)=true then (if 0 > 0 then kas_desc f (kas_rev p (m - (0 + 1)) m) (m + 1) 0 else kas_desc f p (m + 1) 0) else _)=_
   rw [if_pos hc,if_neg (by decide)]
  ·refine ⟨m,?_,Nat.le_refl _,by omega,hs⟩
   have ho:=T.other hp (show m < n by omega) (show m - 1 < n by omega) (by omega) hc
   show ev c (if c (p.getD m 0) (p.getD (m - 1) 0)=true then _ else .ask (p.getD (m - 1) 0) (p.getD m 0) fun d=>if d=true then .ret (p,m,0) else kas_desc f p (m + 1) (0 + 1))=_
   rw [if_neg hc]
   show ev c (if c (p.getD (m - 1) 0) (p.getD m 0)=true then .ret (p,m,0) else kas_desc f p (m + 1) (0 + 1))=_
   rw [if_pos ho]
   rfl
theorem gd_rev {j:Nat} (hj:j <= p.size) (k:Nat):(kas_rev p 0 j).getD k 0=if k < j then p.getD (j - 1 - k) 0 else p.getD k 0:=by
 rw [gd_q]
 unfold kas_rev
 rw [getElem?_mirror_all hj]
 by_cases h:k < j
 ·rw [if_pos ⟨Nat.zero_le _,h⟩,if_pos h,gd_q,Nat.zero_add]
 ·rw [if_neg (fun z=>h z.2),if_neg h,gd_q]
theorem rev_pm (hp:Pm n p) (j:Nat):Pm n (kas_rev p 0 j):=hp.of (mirror_perm _ _ _ _)
theorem De.rev {k:Nat} (hk:k <= p.size) (h:De c p k):So c (kas_rev p 0 k) k:=fun i j hij hj=>by
 rw [gd_rev hk,gd_rev hk,if_pos (by omega),if_pos hj]
 exact h (k - 1 - j) (k - 1 - i) (by omega) (by omega)
theorem ev_count (T:Tot n c) (hp:Pm n p) (hn:1 <= n):∃ m q,ev c (kas_count n p)=(m,q)/\1 <= m/\m <= n/\Pm n q/\So c q m:=by
 have s1:So c p 1:=fun i j hij hj=>by omega
 obtain ⟨a,b,d,g⟩:=ev_asc T hp (n - 1) 1 (Nat.le_refl _) (by omega) s1
 unfold kas_count
 rw [f9]
 generalize ev c (kas_asc p (n - 1) 1)=r at *
 by_cases h1:(r == n)=true
 ·rw [if_pos h1]
  exact ⟨r,p,rfl,a,by omega,hp,d⟩
 ·rw [if_neg h1]
  have hr:r ≠ n:=by simpa using h1
  by_cases h2:r > 1
  ·rw [if_pos h2]
   show ∃ m q,ev c (if c (p.getD 0 0) (p.getD (r - 1) 0)=true then .ret (r,p) else _)=(m,q)/\_
   rw [if_pos (d 0 (r - 1) (by omega) (by omega))]
   exact ⟨r,p,rfl,a,by omega,hp,d⟩
  ·rw [if_neg h2]
   have r1:r=1:=by omega
   subst r1
   have d1:De c p 2:=fun i j hij hj=>by
    have:i=0/\j=1:=by omega
    rw [this.1,this.2]
    exact g (by omega)
   unfold kas_descPart
   rw [f9]
   obtain ⟨k,e,ka,kb,kd⟩:=ev_desc T hp (n - (1 + 1)) (1 + 1) (by decide) (by omega) d1
   rw [e]
   show ∃ m q,ev c (if 0 > 0 then _ else kas_tail3 k n p)=(m,q)/\_
   rw [if_neg (by decide)]
   unfold kas_tail3
   rw [f9]
   have hq:=rev_pm hp k
   have sq:=De.rev (by rw [hp.sz]; omega) kd
   obtain ⟨a',b',d',_⟩:=ev_asc T hq (n - k) k (by omega) (by omega) sq
   exact ⟨_,_,rfl,by omega,by omega,hq,d'⟩
theorem jK (T:Tot n c) (hp:Pm n p) {k:Nat} (hk:k < n) (hs:So c p k):∀ f l r,r <= l + f->l <= r->r <= k->(∀ i,i < l->c (p.getD i 0) (p.getD k 0)=true)->(∀ i,r <= i->i < k->c (p.getD k 0) (p.getD i 0)=true)->
  ev c (kas_place p k f l r) <= k/\(∀ i,i < ev c (kas_place p k f l r)->c (p.getD i 0) (p.getD k 0)=true)/\(∀ i,ev c (kas_place p k f l r) <= i->i < k->c (p.getD k 0) (p.getD i 0)=true)
 | 0,l,r,h1,h2,h3,lo,hi=>⟨by show l <= k; omega,lo,fun i hl hik=>hi i (by have:l <= i:=hl; omega) hik⟩
 | f + 1,l,r,h1,h2,h3,lo,hi=>by
  by_cases hlr:l ≥ r
  ·have e:ev c (kas_place p k (f + 1) l r)=l:=by
    show ev c (if l ≥ r then .ret l else _)=l
    rw [if_pos hlr]; rfl
   rw [e]
   exact ⟨by omega,lo,fun i hl hik=>hi i (by omega) hik⟩
  ·have e:ev c (kas_place p k (f + 1) l r)=ev c (if c (p.getD k 0) (p.getD ((l + r) / 2) 0)=true then kas_place p k f l ((l + r) / 2) else kas_place p k f ((l + r) / 2 + 1) r):=by
    show ev c (if l ≥ r then .ret l else .ask (p.getD k 0) (p.getD ((l + r) / 2) 0) fun d=>if d=true then kas_place p k f l ((l + r) / 2) else kas_place p k f ((l + r) / 2 + 1) r)=_
    rw [if_neg hlr]; rfl
   rw [e]
   by_cases hc:c (p.getD k 0) (p.getD ((l + r) / 2) 0)=true
   ·rw [if_pos hc]
    refine jK T hp hk hs f l ((l + r) / 2) (by omega) (by omega) (by omega) lo fun i hi1 hi2=>?_
    by_cases ei:i=(l + r) / 2
    ·rw [ei]; exact hc
    ·exact T.trp hp hk (by omega) (by omega) hc (hs _ i (by omega) hi2)
   ·rw [if_neg hc]
    have ho:=T.other hp hk (show (l + r) / 2 < n by omega) (by omega) hc
    refine jK T hp hk hs f ((l + r) / 2 + 1) r (by omega) (by omega) h3 (fun i hi1=>?_) hi
    by_cases ei:i=(l + r) / 2
    ·rw [ei]; exact ho
    ·exact T.trp hp (by omega) (by omega) hk (hs i _ (by omega) (by omega)) ho
theorem lC {k d:Nat} (hk:k < p.size) (hd:d <= k) (x:Nat):(bubble p k d).getD x 0=if x=k - d then p.getD k 0 else if k - d < x/\x <= k then p.getD (x - 1) 0 else p.getD x 0:=by
 rw [gd_q,getElem?_bubble hk d hd]
 by_cases h:x=k - d
 ·rw [if_pos h,if_pos h,gd_q]
 ·rw [if_neg h,if_neg h]
  by_cases h2:k - d < x/\x <= k
  ·rw [if_pos h2,if_pos h2,gd_q]
  ·rw [if_neg h2,if_neg h2,gd_q]
theorem So.put (hp:Pm n p) {k q:Nat} (hk:k < n) (hq:q <= k) (hs:So c p k) (lo:∀ i,i < q->c (p.getD i 0) (p.getD k 0)=true) (hi:∀ i,q <= i->i < k->c (p.getD k 0) (p.getD i 0)=true):So c (bubble p k (k - q)) (k + 1):=fun i j hij hj=>by
 have hz:=hp.sz
 rw [lC (by omega) (by omega),lC (by omega) (by omega),show k - (k - q)=q by omega]
 by_cases i1:i=q
 ·rw [if_pos i1,if_neg (by omega),if_pos (by omega)]
  exact hi (j - 1) (by omega) (by omega)
 ·rw [if_neg i1]
  by_cases i2:q < i/\i <= k
  ·rw [if_pos i2,if_neg (by omega),if_pos (by omega)]
   exact hs _ _ (by omega) (by omega)
  ·rw [if_neg i2]
   by_cases j1:j=q
   ·rw [if_pos j1]
    exact lo i (by omega)
   ·rw [if_neg j1]
    by_cases j2:q < j/\j <= k
    ·rw [if_pos j2]
     exact hs _ _ (by omega) (by omega)
    ·rw [if_neg j2]
     exact hs _ _ hij (by omega)
end
theorem ev_bin {n:Nat} {c:Nat->Nat->Bool} (T:Tot n c):∀ (f:Nat) (p:Array Nat) (k:Nat),Pm n p->k + f=n->So c p k->Pm n (ev c (kas_bin f p k))/\So c (ev c (kas_bin f p k)) n
 | 0,p,k,hp,hk,hs=>⟨hp,by rw [<- show k=n by omega]; exact hs⟩
 | f + 1,p,k,hp,hk,hs=>by
  have e:ev c (kas_bin (f + 1) p k)=ev c (kas_bin f (bubble p k (k - ev c (kas_place p k k 0 k))) (k + 1)):=by
   show ev c ((kas_place p k k 0 k).bind fun l=>kas_bin f (bubble p k (k - l)) (k + 1))=_
   rw [f9]
  rw [e]
  obtain ⟨a,lo,hi⟩:=jK T hp (show k < n by omega) hs k 0 k (by omega) (by omega) (Nat.le_refl _) (fun i h=>absurd h (by omega)) (fun i h1 h2=>by omega)
  exact ev_bin T f _ (k + 1) (hp.of (bubble_perm _ _ _)) (by omega) (hs.put hp (by omega) a lo hi)
theorem ev_sort {n:Nat} {c:Nat->Nat->Bool} (T:Tot n c) (hn:1 <= n):Pm n (ev c (kas_sort n))/\So c (ev c (kas_sort n)) n:=by
 have hp:Pm n (List.toArray (List.range n)):=List.Perm.refl _
 obtain ⟨m,q,e,a,b,hq,hs⟩:=ev_count T hp hn
 unfold kas_sort
 rw [f9,e]
 dsimp only
 by_cases h:m < n
 ·rw [if_pos h]
  exact ev_bin T _ q _ hq (by omega) (by rw [show max m 1=m by omega]; exact hs)
 ·rw [if_neg h]
  exact ⟨hq,by rw [<- show m=n by omega]; exact hs⟩
end L2
namespace L2
open PySem PySem.Spec PyProof.Rows
section
variable {κ:Type} [DecidableEq κ]
def gB (kvs:List (κ × V)) (k:κ):Option V:=(kvs.find? fun kv=>decide (kv.1=k)).map (·.2)
def gJ (kvs:List (κ × V)) (k:κ) (v:V):List (κ × V):=
 if (kvs.any fun kv=>decide (kv.1=k))=true then kvs.map (fun kv=>if kv.1=k then (kv.1,v) else kv) else kvs ++ [(k,v)]
theorem iI {p:κ × V} {r:List (κ × V)} {k:κ} (e:p.1=k):gB (p :: r) k=some p.2:=by simp [gB,List.find?_cons,e]
theorem ik {p:κ × V} {r:List (κ × V)} {k:κ} (e:¬ p.1=k):gB (p :: r) k=gB r k:=by simp [gB,List.find?_cons,e]
theorem jN (k:κ):∀ kvs:List (κ × V),(kvs.any fun kv=>decide (kv.1=k))=(gB kvs k).isSome
 | []=>rfl
 | p :: r=>by
  rw [List.any_cons]
  by_cases e:p.1=k
  ·simp only [iI e,decide_eq_true e,Bool.true_or,Option.isSome_some]
  ·rw [ik e,decide_eq_false e,Bool.false_or]; exact jN k r
theorem jc (kvs:List (κ × V)) (k:κ) (v:V):(gJ kvs k v).length <= kvs.length + 1:=by
 unfold gJ
 split
 ·rw [List.length_map]; omega
 ·rw [List.length_append,List.length_cons,List.length_nil]; omega
theorem RelO.isSome_eq {o:Option V} {u:Option Value} (r:RelO o u):o.isSome=u.isSome:=by
 cases o with
 | none=>cases u with
  | none=>rfl
  | some _=>exact (show False from r).elim
 | some _=>cases u with
  | none=>exact (show False from r).elim
  | some _=>rfl
theorem RelO.getD {o:Option V} {u:Option Value} {d:V} {d':Value} (r:RelO o u) (rd:RelV d d'):RelV (o.getD d) (u.getD d'):=by
 cases o with
 | none=>cases u with
  | none=>exact rd
  | some _=>exact (show False from r).elim
 | some _=>cases u with
  | none=>exact (show False from r).elim
  | some _=>exact r
theorem KV.val {kvs:List (κ × V)} {vs:List (κ × Value)} (r:KV kvs vs) (k:κ):RelO (gB kvs k) (valueAt vs k):=by
 unfold KV at r
 induction r with
 | nil=>exact True.intro
 | @cons p q ps qs h t ih=>
  obtain ⟨h1,h2⟩:=h
  by_cases e:p.1=k
  ·have e':q.1=k:=h1.symm.trans e
   have b:valueAt (q :: qs) k=some q.2:=by simp [valueAt,List.find?_cons,e']
   rw [iI e,b]; exact h2
  ·have e':¬ q.1=k:=fun z=>e (h1.trans z)
   have b:valueAt (q :: qs) k=valueAt qs k:=by simp [valueAt,List.find?_cons,e']
   rw [ik e,b]; exact ih
theorem KV.any {kvs:List (κ × V)} {vs:List (κ × Value)} (r:KV kvs vs) (k:κ):(kvs.any fun kv=>decide (kv.1=k))=vs.any fun kv=>decide (kv.1=k):=by
 unfold KV at r
 induction r with
 | nil=>rfl
 | cons h t ih=>rw [List.any_cons,List.any_cons,ih,h.1]
theorem KV.repl {kvs:List (κ × V)} {vs:List (κ × Value)} (r:KV kvs vs) (k:κ) {y:V} {u:Value} (ry:RelV y u) :
  KV (kvs.map fun kv=>if kv.1=k then (kv.1,y) else kv) (vs.map fun kv=>if kv.1=k then (kv.1,u) else kv):=by
 unfold KV at r ⊢
 induction r with
 | nil=>exact .nil
 | @cons p q ps qs h t ih=>
  rw [List.map_cons,List.map_cons]
  refine .cons ?_ ih
  obtain ⟨h1,h2⟩:=h
  by_cases e:p.1=k
  ·rw [if_pos e,if_pos (h1.symm.trans e)]; exact ⟨h1,ry⟩
  ·rw [if_neg e,if_neg (fun z=>e (h1.trans z))]; exact ⟨h1,h2⟩
theorem KV.put {kvs:List (κ × V)} {vs:List (κ × Value)} (r:KV kvs vs) (k:κ) {y:V} {u:Value} (ry:RelV y u):KV (gJ kvs k y) (stored vs k u):=by
 unfold gJ stored
 rw [r.any k]
 by_cases e:(vs.any fun kv=>decide (kv.1=k))=true
 ·rw [if_pos e,if_pos e]; exact r.repl k ry
 ·rw [if_neg e,if_neg e]; exact Paired.snoc r ⟨rfl,ry⟩
theorem KV.length {kvs:List (κ × V)} {vs:List (κ × Value)} (r:KV kvs vs):kvs.length=vs.length:=Paired.length r
end
theorem kV_is {P:Program} {w:World} {k:Key} {u:Value} (r:RelV (kV k) u):(bq P w).is k u=true:=by
 cases k with
 | inl i=>obtain ⟨t,e⟩:=(show ∃ t,u=Value.int i t from r); subst e; exact mixKind_int P w i t
 | inr x=>obtain ⟨t,e⟩:=(show ∃ t,u=Value.str x t from r); subst e; exact mixKind_str P w x t
theorem lh {P:Program} {w:World}:∀ {ks:List Key} {us:List Value},Vals (ks.map kV) us->ItemsAre (bq P w) ks us
 | [],_,r=>by rw [List.map_nil] at r; cases r; exact .nil
 | k :: ks,_,r=>by
  rw [List.map_cons] at r
  cases r with
  | cons h t=>exact .cons (kV_is h) (lh t)
abbrev KT (H:Hp):List (List Key × V)->List (List Key × Addr × Value)->Prop:=Paired fun p q=>p.1=q.1/\H q.2.1=some (.tup (p.1.map kV))/\RelV p.2 q.2.2
theorem KT.val {H:Hp} {kvs:List (List Key × V)} {xs:List (List Key × Addr × Value)} (r:KT H kvs xs) (k:List Key):RelO (gB kvs k) ((atKey xs k).map (·.2)):=by
 induction r with
 | nil=>exact True.intro
 | @cons p q ps qs h t ih=>
  obtain ⟨h1,_,h2⟩:=h
  by_cases e:p.1=k
  ·have e':q.1=k:=h1.symm.trans e
   have b:atKey (q :: qs) k=some q.2:=by simp [atKey,List.find?_cons,e']
   rw [iI e,b]; exact h2
  ·have e':¬ q.1=k:=fun z=>e (h1.trans z)
   have b:atKey (q :: qs) k=atKey qs k:=by simp [atKey,List.find?_cons,e']
   rw [ik e,b]; exact ih
theorem KT.repl {H:Hp} {kvs:List (List Key × V)} {xs:List (List Key × Addr × Value)} (r:KT H kvs xs) (k:List Key) {y:V} {u:Value} (ry:RelV y u) :
  KT H (kvs.map fun kv=>if kv.1=k then (kv.1,y) else kv) (xs.map (putAt k u)):=by
 induction r with
 | nil=>exact .nil
 | @cons p q ps qs h t ih=>
  rw [List.map_cons,List.map_cons]
  refine .cons ?_ ih
  obtain ⟨h1,h2,h3⟩:=h
  unfold putAt
  by_cases e:p.1=k
  ·rw [if_pos e,if_pos (h1.symm.trans e)]; exact ⟨h1,h2,ry⟩
  ·rw [if_neg e,if_neg (fun z=>e (h1.trans z))]; exact ⟨h1,h2,h3⟩
theorem KT.put {H:Hp} {kvs:List (List Key × V)} {xs:List (List Key × Addr × Value)} (r:KT H kvs xs) (k:List Key) {b:Addr} {y:V} {u:Value} (hb:H b=some (.tup (k.map kV))) (ry:RelV y u) :
  KT H (gJ kvs k y) (storedH xs k b u):=by
 have e:(kvs.any fun kv=>decide (kv.1=k))=(atKey xs k).isSome:=by
  rw [jN,(r.val k).isSome_eq,Option.isSome_map]
 unfold gJ storedH
 rw [e]
 by_cases q:(atKey xs k).isSome=true
 ·rw [if_pos q,if_pos q]; exact r.repl k ry
 ·rw [if_neg q,if_neg q]; exact Paired.snoc r ⟨rfl,hb,ry⟩
theorem KT.keeps {H H':Hp} {kvs:List (List Key × V)} {xs:List (List Key × Addr × Value)} (r:KT H kvs xs) (ht:∀ b ys,H b=some (.tup ys)->H' b=some (.tup ys)):KT H' kvs xs:=
 Paired.mapP r fun _ _ z=>⟨z.1,ht _ _ z.2.1,z.2.2⟩
section
variable {P:Program} {w:World} {H:Hp} {h:Heap} {a:Addr}
theorem rd_of {u:HO} (ok:HOk P w H h) (e:Rd H a u):ObjOk P w H h a u:=e.ok ok
theorem dk_rd {kvs:List (Key × V)} (ok:HOk P w H h) (e:Rd H a (.dK kvs)):kvs.length <= sizeLine/\(a == sysModules)=false/\∃ vs,KV kvs vs/\h.DictOf (bq P w) a vs:=
 show ObjOk P w H h a (.dK kvs) from rd_of ok e
theorem dk_of {kvs:List (Key × V)} (ok:HOk P w H h) (e:H a=some (.dK kvs)):kvs.length <= sizeLine/\(a == sysModules)=false/\∃ vs,KV kvs vs/\h.DictOf (bq P w) a vs:=dk_rd ok (.inl e)
theorem mL {ks:List Key} (ok:HOk P w H h) (e:H a=some (.tup (ks.map kV))):(tupleKind (bq P w)).is h ks a:=by
 obtain ⟨_,its,r,o,h1,h2,n,h3⟩:=(show ObjOk P w H h a (.tup (ks.map kV)) from ok a _ e)
 exact ⟨o,its.toArray,n,h1,h2,h3,by simpa using lh r⟩
theorem dt_rd {kvs:List (List Key × V)} (ok:HOk P w H h) (e:Rd H a (.dT kvs)):kvs.length <= sizeLine/\(a == sysModules)=false/\
  ∃ xs,KT H kvs xs/\h.DictOfH (tupleKind (bq P w)) a xs:=by
 obtain ⟨z,y,xs,r,o,es,ep,h1,h2,h3,h4,h5⟩:=(show ObjOk P w H h a (.dT kvs) from rd_of ok e)
 refine ⟨z,y,xs,r,o,es,ep,h1,h2,h3,h4,fun x hx=>?_,h5⟩
 have all:∀ {l:List (List Key × V)} {m:List (List Key × Addr × Value)},KT H l m->∀ x ∈ m,(tupleKind (bq P w)).is h x.1 x.2.1:=by
  intro l m q
  induction q with
  | nil=>intro x hx; exact nomatch hx
  | @cons p q ps qs hq t ih=>
   intro x hx
   rcases List.mem_cons.mp hx with e | hx
   ·subst e
    exact mL ok (by rw [<- hq.1]; exact hq.2.1)
   ·exact ih x hx
 exact all r x hx
theorem dt_of {kvs:List (List Key × V)} (ok:HOk P w H h) (e:H a=some (.dT kvs)):kvs.length <= sizeLine/\(a == sysModules)=false/\
  ∃ xs,KT H kvs xs/\h.DictOfH (tupleKind (bq P w)) a xs:=dt_rd ok (.inl e)
end
def DGet (H:Hp) (a:Addr) (y:V) (r:Option V):Prop:=
 (∃ kvs k,Rd H a (.dK kvs)/\y=kV k/\r=gB kvs k)\/∃ kvs k b,Rd H a (.dT kvs)/\y=.ref b/\H b=some (.tup (k.map kV))/\r=gB kvs k
def DPut (H:Hp) (a:Addr) (y v:V) (H':Hp):Prop:=
 (∃ kvs k,H a=some (.dK kvs)/\y=kV k/\kvs.length < sizeLine/\H'=upd H a (.dK (gJ kvs k v))) \/
 ∃ kvs k b,H a=some (.dT kvs)/\y=.ref b/\H b=some (.tup (k.map kV))/\kvs.length < sizeLine/\H'=upd H a (.dT (gJ kvs k v))
theorem DGet.t {H:Hp} {a b:Addr} {kvs:List (List Key × V)} {k:List Key} (e:H a=some (.dT kvs)) (eb:H b=some (.tup (k.map kV))):DGet H a (.ref b) (gB kvs k):=.inr ⟨kvs,k,b,.inl e,rfl,eb,rfl⟩
theorem DPut.t {H:Hp} {a b:Addr} {kvs:List (List Key × V)} {k:List Key} {v:V} (e:H a=some (.dT kvs)) (eb:H b=some (.tup (k.map kV))) (hl:kvs.length < sizeLine) :
  DPut H a (.ref b) v (upd H a (.dT (gJ kvs k v))):=.inr ⟨kvs,k,b,e,rfl,eb,hl,rfl⟩
section
variable {X:Cx} {pins:List (Addr × Obj)} {σ:St} {H:Hp} {s:Shared} {a:Addr} {y v:V} {u r:Value} {o:Option V} {A:Around} {E:Value->Shared->Prop}
theorem Inv.big (I:Inv X pins σ H s):sysModules < s.heap.objs.size:=by
 have h:mainGlobals < s.heap.objs.size:=(I.mod.glob.keeps I.bk).lt
 exact Nat.lt_trans (by decide) h
theorem d_getItem {Q:Value->Shared->Prop} (hu:A.units + 1 < cLine) (I:Inv X pins σ H s) (g:DGet H a y (some v)) (ry:RelV y u) (h:∀ w' s',Inv X pins σ H s'->RelV v w'->Q w' s') :
  wpAny (model X.prog X.w) A (getItem (.ref a) u) Q E s:=by
 rcases g with ⟨kvs,k,e,ey,l⟩ | ⟨kvs,k,b,e,ey,eb,l⟩
 ·subst ey
  obtain ⟨z,hd,vs,rel,dd⟩:=dk_rd I.hok e
  obtain ⟨w',hw,rw'⟩:=RelO.some_of (v:=v) (o:=valueAt vs k) (by rw [l]; exact rel.val k)
  exact wpAny_getItem_of (kV_is ry) dd.mapOf hw (h w' _ (I.tok _) rw')
 ·subst ey
  cases (show u=Value.ref b from ry)
  obtain ⟨z,hd,xs,rel,dd⟩:=dt_rd I.hok e
  obtain ⟨w',hw,rw'⟩:=RelO.some_of (v:=v) (o:=(atKey xs k).map (·.2)) (by rw [l]; exact rel.val k)
  obtain ⟨p,hp,hp2⟩:=Option.map_eq_some_iff.mp hw
  refine wpAny_getItem_heap (tupleKind_room_in1 hu) (mL I.hok eb) dd hp ?_
  rw [hp2]
  exact h w' _ (I.tok _) rw'
theorem d_write {h':Heap} {t':Nat} {ob:HO} (I:Inv X pins σ H s) (mu:Mut (H a)) (hs:Heap.SameBut a s.heap h') (he:∃ q,h'.get? a=some q) (new:ObjOk X.prog X.w (upd H a ob) h' a ob) :
  Inv X pins σ (upd H a ob) { s with heap:=h',toks:=t' }:=
 I.write (x:=a) (e:=a) mu (.inl rfl) (fun b q hb z=>(hs.2 b hb).trans z) he new
theorem dk_new {P:Program} {w:World} {H':Hp} {h':Heap} {kvs:List (Key × V)} {vs:List (Key × Value)} (z:kvs.length <= sizeLine) (hd:(a == sysModules)=false) (rel:KV kvs vs) (dd:h'.DictOf (bq P w) a vs) :
  ObjOk P w H' h' a (.dK kvs):=⟨z,hd,vs,rel,dd⟩
theorem d_setItem {H':Hp} {Q:Unit->Shared->Prop} (hu:A.units + 1 < cLine) (I:Inv X pins σ H s) (g:DPut H a y v H') (ry:RelV y u) (rv:RelV v r) (h:∀ s',Inv X pins σ H' s'->Q () s') :
  wpAny (model X.prog X.w) A (setItem (.ref a) u r) Q E s:=by
 rcases g with ⟨kvs,k,e,ey,l,eH⟩ | ⟨kvs,k,b,e,ey,eb,l,eH⟩
 ·subst ey eH
  obtain ⟨z,hd,vs,rel,dd⟩:=dk_of I.hok e
  have hz:vs.length <= sizeLine:=by rw [<- rel.length]; exact z
  have hl:(gJ kvs k v).length <= sizeLine:=by have:=jc kvs k v; omega
  refine wpAny_setItem_pairs (hsz:=hz) (kV_is ry) dd fun h' dd' hs=>h _ ?_
  have he:∃ q,h'.get? a=some q:=let ⟨q,_,_,hq,_⟩:=dd'; ⟨q,hq⟩
  exact d_write I (by rw [e]; exact True.intro) hs he (dk_new hl hd (rel.put k rv) dd')
 ·subst ey eH
  cases (show u=Value.ref b from ry)
  obtain ⟨z,hd,xs,rel,dd⟩:=dt_of I.hok e
  have hz:xs.length <= sizeLine:=by rw [<- Paired.length rel]; exact z
  have hl:(gJ kvs k v).length <= sizeLine:=by have:=jc kvs k v; omega
  refine wpAny_setItem_heap (hsz:=hz) (tupleKind_room_in1 hu) (mL I.hok eb) dd fun h' dd' hs=>h _ ?_
  obtain ⟨q,es,ep,hq,h2,h3,h4,_,h5⟩:=dd'
  refine d_write I (by rw [e]; exact True.intro) hs ⟨q,hq⟩ ⟨hl,hd,_,(rel.put k eb rv).keeps fun c ys ec=>?_,q,es,ep,hq,h2,h3,h4,h5⟩
  rw [ao (dY ec e (fun z=>nomatch z))]
  exact ec
end
section
variable {X:Cx} {pins:List (Addr × Obj)} {σ:St} {H:Hp} {s:Shared} {a:Addr} {kvs:List (Key × V)} {k:Key} {u:Value} {A:Around} {E:Value->Shared->Prop}
end
def NoSl (i:Expr):Prop:=∀ ov iv,subscripted i false ov iv=operate [ov,iv] (getItem ov iv)
theorem subD_of {prog:Program} {w:World} {A:Around} {E:Value->Shared->Prop} {s:Shared} {env:Env} {value slice:Expr} {pos:Pos} {T id:String} {Q:Value->Shared->Prop}
  (hl:typeLookup (.type T) "__getitem__" = pure (some (.builtin id))) (hs:NoSl slice)
  (h:wpAny (model prog w) A (eval value env) (fun o s₁=>wpAny (model prog w) A (eval slice env) (fun i s₂=>s₂.TypeIs o T/\wpAny (model prog w) A (getItem o i) Q E s₂) E s₁) E s) :
  wpAny (model prog w) A (eval (.Subscript value slice pos) env) Q E s:=by
 refine Subscript_ (wpAny_mono h (fun o s₁ h₁=>wpAny_mono h₁ (fun i s₂ h₂=>?_) fun _ _ x=>x) fun _ _ x=>x)
 obtain ⟨hT,h₂⟩:=h₂
 unfold subscriptTail
 refine wpAny_bind ?_
 rw [getitemInPython_of_ne hT.not_modules]
 refine wpAny_bind (wpAny_specialOf hT hl ?_)
 have fin:wpAny (model prog w) A (subscripted slice false o i) (fun r s₃=>wpAny (model prog w) A (letTemporaryGo value o r >>= fun _=>pure r) Q E s₃) E s₂:=by
  rw [hs o i]
  exact wpAny_operating (wpAny_mono h₂ (fun r s₃ h₃=>wpAny_bind (wpAny_letTemporaryGo (wpAny_pure h₃))) fun _ _ x=>x)
 first
  | exact wpAny_pure (wpAny_bind fin)
  | exact wpAny_bind (wpAny_pure (wpAny_bind fin))
  | exact wpAny_bind fin
theorem dict_typeIs {X:Cx} {pins:List (Addr × Obj)} {σ:St} {H:Hp} {s:Shared} {a:Addr} {y:V} {o:Option V} (I:Inv X pins σ H s) (g:DGet H a y o):s.TypeIs (.ref a) "dict":=by
 rcases g with ⟨kvs,k,e,_,_⟩ | ⟨kvs,k,b,e,_,_,_⟩
 ·obtain ⟨_,_,vs,_,dd⟩:=dk_rd I.hok e
  exact dd.typeIs
 ·obtain ⟨_,_,xs,_,dd⟩:=dt_rd I.hok e
  exact dd.typeIs
def tDGet (td ty:TE):TE:=fun σ H Q=>td σ H fun x H1=>ty σ H1 fun y H2=>∃ a v,x=.ref a/\DGet H2 a y (some v)/\Q v H2
def sDPut (td ty tv:TE):TS:=fun D σ H=>tv σ H fun v H1=>td σ H1 fun x H2=>ty σ H2 fun y H3=>∃ a H4,x=.ref a/\DPut H3 a y v H4/\D.nx σ H4
section
variable {X:Cx} {o i e value:Expr} {pos pos' tpos:Pos} {td ty tv:TE}
theorem pe_dget (hu:X.A.units + 1 < cLine) (ho:PE X o td) (hi:PE X i ty) (hs:NoSl i):PE X (.Subscript o i pos) (tDGet td ty):=by
 intro pins s σ H Q I h
 refine subD_of PySem.F.slot_dict_getitem.lookup hs (thn (ho pins s σ H _ I h) fun u s1 ⟨x,H1,I1,rx,q1⟩=>thn (hi pins s1 σ H1 _ I1 q1) fun iv s2 ⟨y,H2,I2,ry,a,v,ex,g,q2⟩=>?_)
 subst ex
 obtain rfl:u=Value.ref a:=rx
 exact ⟨dict_typeIs I2 g,d_getItem hu I2 g ry fun w' s3 I3 rw'=>⟨v,H2,I3,rw',q2⟩⟩
theorem ps_dput (hu:X.A.units + 1 < cLine) (ho:PE X o td) (hi:PE X i ty) (hv:PE X value tv) (hs:swapsWith value (some (.Subscript o i pos')) pos.line X.env=pure false) :
  PS X (.Assign [.Subscript o i pos'] value pos) (sDPut td ty tv):=by
 intro pins s σ H D I h
 refine wpAny_Assign_Subscript (thn (hv pins s σ H _ I h) fun r s1 ⟨v,H1,I1,rv,q1⟩=>thn (ho pins s1 σ H1 _ I1 q1) fun u s2 ⟨x,H2,I2,rx,q2⟩=>thn (hi pins s2 σ H2 _ I2 q2) fun iv s3 ⟨y,H3,I3,ry,a,H4,ex,g,q3⟩=>?_) hs
 subst ex
 obtain rfl:u=Value.ref a:=rx
 exact d_setItem hu I3 g ry rv fun s4 I4=>⟨σ,H4,I4,q3⟩
end
theorem dt_empty {P:Program} {w:World} {H:Hp} (h:Heap) (hb:sysModules < h.objs.size):ObjOk P w H (h.push { cls:=.type "dict",data:=.dict #[] }) h.objs.size (.dT []):=
 ⟨Nat.zero_le _,beq_eq_false_iff_ne.mpr (Ne.symm (Nat.ne_of_lt hb)),[],.nil,_,#[],0,Heap.get?_push_size _ rfl,⟨rfl,rfl,rfl⟩,rfl,rfl,List.nodup_nil⟩
def tDNewT:TE:=fun _ H Q=>∀ p,H p=none->Q (.ref p) (upd H p (.dT []))
section
variable {X:Cx} {pos:Pos}
theorem pe_dnewT:PE X (.Dict [] [] pos) tDNewT:=fun pins s σ H Q I h=>
 wpAny_Dict_empty ⟨.ref s.heap.objs.size,_,I.laid (a:=s.heap.objs.size) (o:=.dT []) (t':=s.toks) (fun _ _ q=>Heap.get?_push_of_some _ q) (Nat.le_refl _) (dt_empty s.heap I.big),rfl,h _ (I.hok.fresh (Nat.le_refl _))⟩
end
structure M2 (X:Cx) (o:Expr) (m:Str) (apos:Pos) (e f:Expr) (cpos:Pos):Prop where
 base:attributeBase o m X.env (eval o X.env)=eval o X.env
 few:((backTo cpos (starEach [e,f] X.env)).all (fun x=>!x.1) && (backToKw cpos (keywordEach [] X.env)).all (fun x=>x.1.isSome)
  && decide (([e,f]:List Expr).length + ([]:List Keyword).length + (if ([]:List Keyword).isEmpty then 0 else 1) < 30))=true
 line:(apos.endLine == cpos.line)=true
 trees:backTo cpos (starEach [e,f] X.env)=[(false,eval e X.env),(false,eval f X.env)]
def IsD (H:Hp) (a:Addr):Prop:=(∃ kvs,Rd H a (.dK kvs))\/∃ kvs,Rd H a (.dT kvs)
theorem isD_at {X:Cx} {pins:List (Addr × Obj)} {σ:St} {H:Hp} {s:Shared} {a:Addr} (I:Inv X pins σ H s) (d:IsD H a) :
  s.TypeIs (.ref a) "dict"/\(∀ b,Value.ref a=.ref b->∃ ob,s.heap.get? b=some ob/\ob.dict=none)/\(a == sysModules)=false:=by
 rcases d with ⟨kvs,e⟩ | ⟨kvs,e⟩
 ·obtain ⟨_,hd,vs,_,dd⟩:=dk_rd I.hok e
  refine ⟨dd.typeIs,fun b q=>?_,hd⟩
  cases q
  obtain ⟨ob,_,_,h1,h2,_⟩:=dd
  exact ⟨ob,h1,h2.2.1⟩
 ·obtain ⟨_,hd,xs,_,dd⟩:=dt_rd I.hok e
  refine ⟨dd.typeIs,fun b q=>?_,hd⟩
  cases q
  obtain ⟨ob,_,_,h1,h2,_⟩:=dd
  exact ⟨ob,h1,h2.2.1⟩
section
variable {X:Cx} {pins:List (Addr × Obj)} {σ:St} {H:Hp} {s:Shared} {a:Addr} {y d:V} {u r:Value} {o:Option V} {A:Around} {E:Value->Shared->Prop}
theorem d_get2 {Q:Value->Shared->Prop} (hu:A.units + 1 < cLine) (I:Inv X pins σ H s) (g:DGet H a y o) (ry:RelV y u) (rd:RelV d r) (h:∀ w' s',Inv X pins σ H s'->RelV (o.getD d) w'->Q w' s') :
  wpAny (model X.prog X.w) A (call (.builtin "dict.get") [.ref a,u,r]) Q E s:=by
 rcases g with ⟨kvs,k,e,ey,l⟩ | ⟨kvs,k,b,e,ey,eb,l⟩
 ·subst ey
  obtain ⟨z,hd,vs,rel,dd⟩:=dk_rd I.hok e
  refine call_meetsIn PySem.F.slot_dict_get dd.typeIs PySem.F.entry_dict_get (PySem.F.args_dict_get_3 _ _ _) (meets_dict_get_default (bq X.prog X.w) a (kV_is ry) hd r) ⟨_,dd.mapOf,h _ _ (I.tok _) ?_⟩
  rw [l]
  exact (rel.val k).getD rd
 ·subst ey
  cases (show u=Value.ref b from ry)
  obtain ⟨z,hd,xs,rel,dd⟩:=dt_rd I.hok e
  refine call_meetsIn PySem.F.slot_dict_get dd.typeIs PySem.F.entry_dict_get (PySem.F.args_dict_get_3 _ _ _) (meetsH_dict_get_default (tupleKind (bq X.prog X.w)) a b hd r) ⟨tupleKind_room_in1 hu,k,xs,mL I.hok eb,dd,h _ _ (I.tok _) ?_⟩
  rw [l]
  exact (rel.val k).getD rd
end
def tDGet2 (td ty tx:TE):TE:=fun σ H Q=>td σ H fun x H1=>∃ a,x=.ref a/\IsD H1 a/\ty σ H1 fun y H2=>tx σ H2 fun z H3=>∃ o,DGet H3 a y o/\Q (o.getD z) H3
section
variable {X:Cx} {o e f:Expr} {apos cpos:Pos} {td ty tx:TE}
theorem pe_dget2 (hu:X.A.units + 1 < cLine) (ho:PE X o td) (he:PE X e ty) (hf:PE X f tx) (m:M2 X o "get" apos e f cpos):PE X (.Call (.Attribute o "get" apos) [e,f] [] cpos) (tDGet2 td ty tx):=by
 intro pins s σ H Q I h
 refine wpAny_Call_method m.base m.few m.line PySem.F.plainAttrs_dict PySem.F.slot_dict_get PySem.F.type_dict_get (thn (ho pins s σ H _ I h) fun u s1 ⟨x,H1,I1,rx,a,ex,d,q1⟩=>?_)
 subst ex
 obtain rfl:u=Value.ref a:=rx
 obtain ⟨t1,t2,_⟩:=isD_at I1 d
 refine ⟨t1,t2,?_⟩
 rw [m.trees]
 refine Calls.callWith_builtin rfl (Calls.evalArgs_plain (Calls.spliced_cons (thn (he pins s1 σ H1 _ I1 q1) fun iv s2 ⟨y,H2,I2,ry,q2⟩=>
  Calls.spliced_cons (thn (hf pins s2 σ H2 _ I2 q2) fun fv s3 ⟨z,H3,I3,rz,ov,g,q3⟩=>Calls.spliced_nil ?_))))
 exact d_get2 hu I3 g ry rz fun w' s4 I4 rw'=>⟨_,H3,I4,rw',q3⟩
end
section
variable {X:Cx} {pins:List (Addr × Obj)} {σ:St} {H:Hp} {s:Shared} {a:Addr} {kvs:List (Key × V)} {A:Around} {E:Value->Shared->Prop}
end
section
variable {X:Cx} {pins:List (Addr × Obj)} {σ:St} {H:Hp} {s:Shared} {a:Addr} {y:V} {u:Value} {A:Around} {E:Value->Shared->Prop}
end
end L2
namespace L2
open PySem PySem.Spec PyProof.Rows
section
variable {κ:Type} [DecidableEq κ]
end
end L2
namespace L2
open PySem PySem.Spec PyProof.Rows PySem.W
def InR {α:Type} (n:Nat) (P:α->Prop):KasT α->Prop
 | .ret a=>P a
 | .ask i j k=>i < n/\j < n/\∀ b,InR n P (k b)
theorem InR.bind {α β:Type} {n:Nat} {P:α->Prop} {Q:β->Prop} {f:α->KasT β}:∀ {t:KasT α},InR n P t->(∀ a,P a->InR n Q (f a))->InR n Q (t.bind f)
 | .ret a,h,hf=>hf a h
 | .ask i j k,h,hf=>⟨h.1,h.2.1,fun b=>InR.bind (h.2.2 b) hf⟩
theorem InR.ite {α:Type} {n:Nat} {P:α->Prop} {c:Prop} [Decidable c] {t u:KasT α} (h1:InR n P t) (h2:InR n P u):InR n P (if c then t else u):=by
 split
 ·exact h1
 ·exact h2
def Lo (n:Nat) (p:Array Nat):Prop:=∀ x ∈ p,x < n
theorem Lo.at {n:Nat} {p:Array Nat} (h:Lo n p) (h0:0 < n) (i:Nat):p.getD i 0 < n:=by
 rw [gd_q]
 cases e:p[i]? with
 | none=>exact h0
 | some x=>exact h x (Array.mem_of_getElem? e)
theorem Lo.of {n:Nat} {p q:Array Nat} (h:Lo n p) (e:q.Perm p):Lo n q:=fun x hx=>h x (e.mem_iff.mp hx)
section
variable {n:Nat} (h0:0 < n)
include h0
theorem nj {p:Array Nat} (hp:Lo n p):∀ f m,InR n (fun _=>True) (kas_asc p f m)
 | 0,m=>trivial
 | f + 1,m=>⟨hp.at h0 _,hp.at h0 _,fun b=>.ite trivial (nj hp f (m + 1))⟩
theorem hV:∀ f p m q,Lo n p->InR n (fun r=>Lo n r.1) (kas_desc f p m q)
 | 0,p,m,q,hp=>hp
 | f + 1,p,m,q,hp=>⟨hp.at h0 _,hp.at h0 _,fun b=>.ite (.ite (hV f _ _ _ (hp.of (mirror_perm _ _ _ _))) (hV f _ _ _ hp))
   ⟨hp.at h0 _,hp.at h0 _,fun d=>.ite hp (hV f _ _ _ hp)⟩⟩
theorem kY {p:Array Nat} (hp:Lo n p) (m k:Nat):InR n (fun r=>Lo n r.2) (kas_tail3 m k p):=
 (nj h0 (hp.of (mirror_perm _ _ _ _)) _ _).bind fun _ _=>hp.of (mirror_perm _ _ _ _)
theorem iJ {p:Array Nat} (hp:Lo n p) (m k:Nat):InR n (fun r=>Lo n r.2) (kas_descPart m k p):=
 (hV h0 _ _ _ _ hp).bind fun r hr=>.ite (kY h0 (hr.of (mirror_perm _ _ _ _)) _ _) (kY h0 hr _ _)
theorem inr_count {p:Array Nat} (hp:Lo n p) (k:Nat):InR n (fun r=>Lo n r.2) (kas_count k p):=
 (nj h0 hp _ _).bind fun m _=>.ite hp (.ite ⟨hp.at h0 _,hp.at h0 _,fun c=>.ite hp (iJ h0 (hp.of (mirror_perm _ _ _ _)) _ _)⟩ (iJ h0 hp _ _))
theorem iL {p:Array Nat} (hp:Lo n p) (k:Nat):∀ f l r,InR n (fun _=>True) (kas_place p k f l r)
 | 0,l,r=>trivial
 | f + 1,l,r=>.ite trivial ⟨hp.at h0 _,hp.at h0 _,fun c=>.ite (iL hp k f _ _) (iL hp k f _ _)⟩
theorem inr_bin:∀ f p k,Lo n p->InR n (fun _=>True) (kas_bin f p k)
 | 0,p,k,hp=>trivial
 | f + 1,p,k,hp=>(iL h0 hp k _ _ _).bind fun l _=>inr_bin f _ _ (hp.of (bubble_perm _ _ _))
theorem inr_sort:InR n (fun _=>True) (kas_sort n):=
 (inr_count h0 (fun x hx=>by simpa using hx) n).bind fun r hr=>.ite (inr_bin h0 _ _ _ hr) trivial
end
theorem wp_ev {α:Type} {n:Nat} {c:Nat->Nat->Bool} {cmp:Nat->Nat->(Bool->Shared->Prop)->Shared->Prop} {P:α->Prop} {Q:α->Shared->Prop} {s:Shared} (h:∀ i j C,i < n->j < n->C (c i j) s->cmp i j C s) :
  ∀ {t:KasT α},InR n P t->Q (ev c t) s->t.kasWp cmp Q s
 | .ret a,_,q=>q
 | .ask i j k,r,q=>h i j _ r.1 r.2.1 (wp_ev h (r.2.2 (c i j)) q)
def klt (a b:Int × List Int):Bool:=if a.1=b.1 then (if a.2=b.2 then false else HT.lexLt a.2 b.2) else decide (a.1 < b.1)
section
variable {X:Cx} {pins:List (Addr × Obj)} {σ:St} {H:Hp} {s:Shared}
def KeyR (K:Frag) (H:Hp) (y:V) (k:Int × List Int):Prop:=∃ a t,y=.ref a/\H a=some (.tup [.int k.1,.ref t])/\SqT K H t (k.2.map V.int)
theorem key_lt {A:Around} {E:Value->Shared->Prop} {x y:V} {u v:Value} {j k:Int × List Int} {Q:Bool->Shared->Prop} (hu:A.units + 64 < cLine) (I:Inv X pins σ H s) (hx:KeyR X.K H x j) (hy:KeyR X.K H y k) (rx:RelV x u) (ry:RelV y v)
  (h:Q (klt j k) s):wpAny (model X.prog X.w) A (keyLt' (tuples' true) u v) Q E s:=by
 obtain ⟨a,ta,rfl,ha,hta⟩:=hx
 obtain ⟨b,tb,rfl,hb,htb⟩:=hy
 cases rx
 cases ry
 obtain ⟨_,its,r1,p1⟩:=(show ObjOk X.prog X.w H s.heap a (.tup _) from I.hok a _ ha)
 obtain ⟨_,its2,r2,p2⟩:=(show ObjOk X.prog X.w H s.heap b (.tup _) from I.hok b _ hb)
 obtain ⟨⟨cls,dd,data,sl⟩,ho,hc,n,hd⟩:=id p1
 obtain ⟨⟨cls2,dd2,data2,sl2⟩,ho2,hc2,n2,hd2⟩:=id p2
 cases r1 with
 | cons q1 r1=>cases r1 with
  | cons q2 r1=>
   cases r1
   cases r2 with
   | cons q3 r2=>cases r2 with
    | cons q4 r2=>
     cases r2
     obtain ⟨t1,rfl⟩:=q1
     obtain ⟨t3,rfl⟩:=q3
     cases q2
     cases q4
     refine kat_lt ho hd ho2 hd2 (kat_cons (wpAny_eqBool_int (kat_go (fun e=>kat_yes ?_) fun e=>kat_no ?_)))
     ·have e1:j.1=k.1:=by simpa using e
      unfold klt at h
      rw [if_pos e1] at h
      obtain ⟨as,ra⟩:=(dW hta).reads I rfl
      obtain ⟨bs,rb⟩:=(dW htb).reads I rfl
      obtain ⟨jts,r3,p3,_⟩:=I.tuple hta
      obtain ⟨jts2,r4,p4,_⟩:=I.tuple htb
      have eqr:SeqAt.EqAt A s (.ref ta) (.ref tb) (decide (j.2=k.2)):=by
       by_cases hab:ta=tb
       ·subst hab
        rw [decide_eq_true (ku (I.tuple_inj hta htb))]
        exact SeqAt.EqAt.same _
       ·exact SeqAt.EqAt.of_refs hab fun prog w E Q' hq=>eq_dataH ra rb (bI _) (bI _) hu (by rw [ft]; exact hq)
      refine kat_cons (eqr _ _ _ _ ?_)
      refine kat_go (fun e=>kat_yes (kat_nil ?_)) fun e=>kat_no ?_
      ·rw [if_pos (of_decide_eq_true e)] at h
       exact h
      ·rw [if_neg (of_decide_eq_false e)] at h
       exact kat_one _ _ (HT.lt_tupInts p3 p4 (gD r3) (gD r4) (by omega) h)
     ·have e1:¬ j.1=k.1:=by simpa using e
      unfold klt at h
      rw [if_neg e1] at h
      exact oneLt_int h
end
end L2
namespace L2
open PySem PySem.Spec PyProof.Rows PySem.W
section
variable {X:Cx} {pins:List (Addr × Obj)} {σ:St} {H:Hp} {s:Shared}
theorem KeyR.but {K:Frag} {H H':Hp} {p:Addr} {xs:List V} {y:V} {k:Int × List Int} (hp:H p=some (.lst xs)) (hk:∀ c o,H c=some o->c ≠ p->H' c=some o) (h:KeyR K H y k):KeyR K H' y k:=by
 obtain ⟨a,t,rfl,ha,ht⟩:=h
 refine ⟨a,t,rfl,hk _ _ ha (dY ha hp (by intro z; cases z)),?_⟩
 rcases ht with (h | ⟨o,h⟩) | h
 ·exact .inl (.inl (hk _ _ h (dY h hp (by intro z; cases z))))
 ·exact .inl (.inr ⟨o,hk _ _ h (dY h hp (by intro z; cases z))⟩)
 ·exact .inr h
theorem KeyR.same {K:Frag} {H H':Hp} {y:V} {k:Int × List Int} (e:Same H H') (h:KeyR K H y k):KeyR K H' y k:=by
 obtain ⟨a,t,rfl,ha,ht⟩:=h
 exact ⟨a,t,rfl,e _ _ ha,e.sqT ht⟩
abbrev KeysR (K:Frag) (H:Hp):List V->List (Int × List Int)->Prop:=Paired (KeyR K H)
theorem KeysR.imp {K:Frag} {H H':Hp} (hh:∀ y k,KeyR K H y k->KeyR K H' y k):∀ {ys:List V} {ks:List (Int × List Int)},KeysR K H ys ks->KeysR K H' ys ks
 | _,_,.nil=>.nil
 | _,_,.cons q r=>.cons (hh _ _ q) (KeysR.imp hh r)
theorem KeysR.snoc {K:Frag} {H:Hp} {y:V} {k:Int × List Int} (q:KeyR K H y k):∀ {ys:List V} {ks:List (Int × List Int)},KeysR K H ys ks->KeysR K H (ys ++ [y]) (ks ++ [k])
 | _,_,.nil=>.cons q .nil
 | _,_,.cons p r=>.cons p (KeysR.snoc q r)
theorem KeysR.get {K:Frag} {H:Hp}:∀ {ys:List V} {ks:List (Int × List Int)} {i:Nat} {y:V},KeysR K H ys ks->ys[i]? = some y->∃ k,ks[i]? = some k/\KeyR K H y k
 | _,_,0,y,.cons q r,e=>by cases e; exact ⟨_,rfl,q⟩
 | _ :: _,_ :: _,i + 1,y,.cons q r,e=>KeysR.get (i:=i) r e
theorem kU (I:Inv X pins σ H s):∀ {ys:List V} {ks:List (Int × List Int)} {us:List Value},KeysR X.K H ys ks->Vals ys us->∃ fs:List Value,KatTups s.heap us fs/\fs.length=us.length/\∀ v ∈ fs,∃ n t,v=Value.int n t
 | _,_,_,.nil,.nil=>⟨[],.nil,rfl,fun _ h=>nomatch h⟩
 | _,_,_,.cons q r,.cons p v=>by
  obtain ⟨fs,h1,h2,h3⟩:=kU I r v
  obtain ⟨a,t,rfl,ha,ht⟩:=q
  cases p
  obtain ⟨_,its,r1,p1⟩:=(show ObjOk X.prog X.w H s.heap a (.tup _) from I.hok a _ ha)
  obtain ⟨⟨cls,dd,data,sl⟩,ho,hc,n,hd⟩:=id p1
  cases r1 with
  | cons q1 r1=>
   obtain ⟨t1,rfl⟩:=q1
   refine ⟨.int _ t1 :: fs,.cons ho hc hd rfl h1,by simp [h2],fun v hv=>?_⟩
   rcases List.mem_cons.mp hv with rfl | hv
   ·exact ⟨_,_,rfl⟩
   ·exact h3 v hv
theorem kX {A:Around} {E:Value->Shared->Prop} {f:Value} {H0:Hp} {D kS:Addr} {φ:Heap->Prop} {key:V->Int × List Int} {body:Value->PUnit->Sem (ForInStep PUnit)} {R:PUnit->Shared->Prop} {all:List V}
  (h0:H0 kS=none) (hn:all.length < 64)
  (hf:∀ x ∈ all,∀ u H1 s1,RelV x u->Inv X pins σ H1 s1->Same H0 H1->wpAny (model X.prog X.w) A (call f [u]) (fun k s2=>∃ y H2,Inv X pins σ H2 s2/\RelV y k/\Same H1 H2/\KeyR X.K H2 y (key x)) (fun _ _=>False) s1)
  (hb:∀ u (s1:Shared) (C:Shared->Prop),wpAny (model X.prog X.w) A (call f [u]) (fun k s2=>∃ (ks:List Value) (n:Nat),s2.heap.get? kS=some (seqObj "list" (List.toArray ks) n)/\ks.length < 64/\C { s2 with heap:=s2.heap.update kS (Obj.mapSeq (·.push k)) }) (fun _ _=>False) s1->
   wpAny (model X.prog X.w) A (body u ⟨⟩) (fun r s2=>r=.yield ⟨⟩/\C s2) E s1)
  (hR:∀ H1 s1 ys ks,Inv X pins σ H1 s1->Same H0 H1->H1 D=some (.ext φ)->H1 kS=some (.lst ys)->KeysR X.K H1 ys ks->ks=all.map key->R ⟨⟩ s1) :
  ∀ (r pre:List V) (us:List Value) (ys:List V) (H1:Hp) (s1:Shared),all=pre ++ r->Vals r us->Inv X pins σ H1 s1->Same H0 H1->H1 D=some (.ext φ)->H1 kS=some (.lst ys)->KeysR X.K H1 ys (pre.map key)->
   wpAny (model X.prog X.w) A (forIn us PUnit.unit body) R E s1
 | [],pre,us,ys,H1,s1,ea,rv,I,sm,hD,hk,kr=>by
  cases rv
  rw [List.forIn_nil]
  exact wpAny_pure (hR H1 s1 ys _ I sm hD hk kr (by rw [ea,List.append_nil]))
 | x :: r,pre,us,ys,H1,s1,ea,rv,I,sm,hD,hk,kr=>by
  cases rv with
  | cons q rv=>
   rename_i u us
   rw [List.forIn_cons]
   have hx:x ∈ all:=by rw [ea]; simp
   have hyl:ys.length=pre.length:=by have:=Paired.length kr; rw [List.length_map] at this; exact this
   have hal:all.length=pre.length + (r.length + 1):=by rw [ea,List.length_append,List.length_cons]
   refine wpAny_bind (wpAny_mono (hb u s1 (fun s2=>wpAny (model X.prog X.w) A (forIn us PUnit.unit body) R E s2) (wpAny_mono (hf x hx u H1 s1 q I sm) (fun k s2 ⟨y,H2,I2,ry,sm2,ky⟩=>?_) fun _ _ z=>z)) (fun z s2 ⟨ez,hz⟩=>?_) fun _ _ z=>z)
   ·obtain ⟨_,its,n,rk,lk,ek⟩:=I2.lstM (sm2 _ _ hk)
    refine ⟨its,n,ek,by omega,?_⟩
    have I3:=I2.lset (t':=s2.toks) (f:=(·.push k)) (its':=its ++ [k]) (ys:=ys ++ [y]) (sm2 _ _ hk) ek (by simp) (rk.append (.cons ry .nil)) (by rw [List.length_append,List.length_singleton,sizeLine_eq]; omega)
    have keep:∀ c o,H2 c=some o->c ≠ kS->upd H2 kS (.lst (ys ++ [y])) c=some o:=fun c o e ne=>by rw [ao ne]; exact e
    refine kX h0 hn hf hb hR r (pre ++ [x]) us (ys ++ [y]) _ _ (by rw [ea]; simp) rv I3 (fun c o e=>?_) ?_ ac ?_
    ·exact keep c o (sm2 _ _ (sm c o e)) (ah e h0)
    ·exact keep D _ (sm2 _ _ hD) (dY hD hk (by intro z; cases z))
    ·rw [List.map_append]
     exact KeysR.snoc (ky.but (sm2 _ _ hk) keep) (KeysR.imp (fun _ _ z=>(z.same sm2).but (sm2 _ _ hk) keep) kr)
   ·subst ez
    exact hz
end
end L2
namespace L2
open PySem PySem.Spec PyProof.Rows PySem.W
theorem lI:∀ {a b c:List Int},HT.lexLt a b=true->HT.lexLt b c=true->HT.lexLt a c=true
 | [],[],_,h,_=>by simp [HT.lexLt] at h
 | [],_ :: _,[],_,h=>by simp [HT.lexLt] at h
 | [],_ :: _,_ :: _,_,_=>rfl
 | _ :: _,[],_,h,_=>by simp [HT.lexLt] at h
 | _ :: _,_ :: _,[],_,h=>by simp [HT.lexLt] at h
 | x :: a,y :: b,z :: c,h1,h2=>by
  rw [HT.lexLt_cons] at h1 h2 ⊢
  by_cases e1:x=y
  ·subst e1
   rw [if_pos rfl] at h1
   by_cases e2:x=z
   ·rw [if_pos e2] at h2 ⊢
    exact lI h1 h2
   ·rw [if_neg e2] at h2 ⊢
    exact h2
  ·rw [if_neg e1] at h1
   have l1:=of_decide_eq_true h1
   by_cases e2:y=z
   ·subst e2
    rw [if_neg e1]
    exact h1
   ·rw [if_neg e2] at h2
    have l2:=of_decide_eq_true h2
    rw [if_neg (by omega)]
    exact decide_eq_true (by omega)
theorem lN:∀ {a b:List Int},a ≠ b->HT.lexLt a b=false->HT.lexLt b a=true
 | [],[],h,_=>absurd rfl h
 | [],_ :: _,_,h=>by simp [HT.lexLt] at h
 | _ :: _,[],_,_=>rfl
 | x :: a,y :: b,h,h1=>by
  rw [HT.lexLt_cons] at h1 ⊢
  by_cases e:x=y
  ·subst e
   rw [if_pos rfl] at h1 ⊢
   exact lN (fun z=>h (by rw [z])) h1
  ·rw [if_neg e] at h1
   rw [if_neg (fun z=>e z.symm)]
   have:=of_decide_eq_false h1
   exact decide_eq_true (by omega)
theorem lX:∀ a:List Int,HT.lexLt a a=false
 | []=>rfl
 | x :: a=>by rw [HT.lexLt_cons,if_pos rfl]; exact lX a
theorem mW (a b:Int × List Int):klt a b=if a.1=b.1 then HT.lexLt a.2 b.2 else decide (a.1 < b.1):=by
 unfold klt
 by_cases e:a.2=b.2
 ·rw [if_pos e,e,lX]
 ·rw [if_neg e]
theorem i0 {a b c:Int × List Int} (h1:klt a b=true) (h2:klt b c=true):klt a c=true:=by
 rw [mW] at *
 by_cases e1:a.1=b.1
 ·rw [if_pos e1] at h1
  by_cases e2:b.1=c.1
  ·rw [if_pos e2] at h2
   rw [if_pos (e1.trans e2)]
   exact lI h1 h2
  ·rw [if_neg e2] at h2
   rw [if_neg (by rw [e1]; exact e2),e1]
   exact h2
 ·rw [if_neg e1] at h1
  have l1:=of_decide_eq_true h1
  by_cases e2:b.1=c.1
  ·rw [if_neg (by rw [<- e2]; exact e1),<- e2]
   exact h1
  ·rw [if_neg e2] at h2
   have l2:=of_decide_eq_true h2
   rw [if_neg (by omega)]
   exact decide_eq_true (by omega)
theorem klt_total {a b:Int × List Int} (h:a ≠ b) (h1:klt a b=false):klt b a=true:=by
 rw [mW] at *
 by_cases e:a.1=b.1
 ·rw [if_pos e] at h1
  rw [if_pos e.symm]
  exact lN (fun z=>h (Prod.ext e z)) h1
 ·rw [if_neg e] at h1
  have:=of_decide_eq_false h1
  rw [if_neg (fun z=>e z.symm)]
  exact decide_eq_true (by omega)
theorem mO (a:Int × List Int):klt a a=false:=by rw [mW,if_pos rfl,lX]
def kAt (ks:List (Int × List Int)) (i j:Nat):Bool:=klt (ks.getD i (0,[])) (ks.getD j (0,[]))
theorem kAt_tot {ks:List (Int × List Int)} (hn:ks.Nodup):Tot ks.length (kAt ks):=by
 refine ⟨fun i j k _ _ _=>i0,fun i j hi hj hne h=>klt_total (fun z=>hne ?_) h⟩
 have g:∀ {i:Nat} (hi:i < ks.length),ks.getD i (0,[])=ks[i]:=fun hi=>by simp [List.getD,hi]
 rw [g hi,g hj] at z
 exact (List.getElem_inj hn).mp z
section
variable {X:Cx} {pins:List (Addr × Obj)} {σ:St} {H:Hp} {s:Shared}
theorem lL {A:Around} {E:Value->Shared->Prop} {P:PySem.Fin->Shared->Prop} {H0:Hp} {D kS:Addr} {e1:Nat} {st:SortSt} {out:List Value} {ys zs:List V} (hout:(arrOf st).map (·.2)=List.toArray out) (hz:out.length < 64) (hf:failedOf st=none)
  (I:Inv X pins σ H s) (h0:H0 kS=none) (h1:H0 D=none) (sm:Same H0 H) (hD:H D=some (.ext fun h=>h.get? D=some (seqObj "list" #[] e1))) (hk:H kS=some (.lst ys)) (rv:Vals zs out.reverse)
  (h:∀ H2 s2,Inv X pins σ H2 s2->Same H0 H2->H2 D=some (.lst zs)->P (.done (.ret .none)) s2):wpAny (model X.prog X.w) A (ksk_tail D true e1 (.ref kS) st) P E s:=by
 have ne:D ≠ kS:=dY hD hk (by intro z; cases z)
 have hzl:zs.length=out.length:=by rw [rv.length,List.length_reverse]
 obtain ⟨lz,its,n,rk,lk,ek⟩:=I.lstM hk
 have I1:=I.lset (t':=s.toks) (f:=fun _=>#[]) (its':=[]) (ys:=[]) hk ek rfl .nil (Nat.zero_le _)
 have hD1:upd H kS (.lst []) D=some (.ext fun h=>h.get? D=some (seqObj "list" #[] e1)):=by rw [ao ne]; exact hD
 have eD:(s.heap.update kS (Obj.mapSeq fun _=>#[])).get? D=some (seqObj "list" #[] e1):=(show ObjOk X.prog X.w _ _ D (.ext _) from I1.hok D _ hD1).1
 have q:=get?_update_seq eD (fun _=>List.toArray out.reverse)
 have I2:Inv X pins σ (upd (upd H kS (.lst [])) D (.lst zs)) { s with heap:=(s.heap.update kS (Obj.mapSeq fun _=>#[])).update D (Obj.mapSeq fun _=>List.toArray out.reverse),toks:=s.toks }:=
  I1.write (x:=D) (e:=D) (by rw [hD1]; exact trivial) (.inl rfl) (fun b' u hb hu=>(Heap.get?_update_other _ _ (Ne.symm hb)).trans hu) ⟨_,q⟩ ⟨by rw [hzl,sizeLine_eq]; omega,out.reverse,_,rv,q⟩
 unfold ksk_tail
 dsimp only
 rw [hout,kat_outs,show katRev true out=out.reverse from if_pos rfl]
 refine wpAny_bind (listUpdate_at ek rfl ?_ (by rw [List.size_toArray,<- lk]; exact lz) (Nat.zero_le _))
 refine wpAny_bind (wpAny_letGo ?_)
 refine wpAny_bind (seqEpoch_at eD rfl ?_)
 refine wpAny_bind (listUpdate_at eD rfl ?_ (Nat.zero_le _) (by rw [List.size_toArray,List.length_reverse,sizeLine_eq]; omega))
 rw [hf]
 simp only [bne_self_eq_false,Bool.false_eq_true,if_false]
 refine wpAny_pure (h _ _ I2 (fun c o e=>?_) ac)
 rw [ao (ah e h1),ao (ah e h0)]
 exact sm c o e
end
end L2
namespace L2
open PySem PySem.Spec PyProof.Rows PySem.W
theorem jC {α:Type} {l:List α} {d:α} {i:Nat} (h:i < l.length):l.getD i d=l[i]:=by simp [List.getD,h]
theorem map_range {α:Type} (l:List α) (d:α):(List.range l.length).map (fun i=>l.getD i d)=l:=by
 apply List.ext_getElem
 ·simp
 ·intro i h1 h2
  rw [List.getElem_map,List.getElem_range,jC h2]
def pick {α:Type} (p:Array Nat) (xs:List α) (d:α):List α:=p.toList.map fun i=>xs.reverse.getD i d
theorem pick_perm {α:Type} {p:Array Nat} {xs:List α} {d:α} (hp:Pm xs.length p):((pick p xs d).reverse).Perm xs:=by
 refine (List.reverse_perm _).trans (((hp.map _).trans ?_).trans (List.reverse_perm xs))
 rw [show List.map (fun i=>xs.reverse.getD i d) (List.range xs.length)=xs.reverse by rw [<- List.length_reverse (as:=xs)]; exact map_range _ _]
theorem Pm.mem {n:Nat} {p:Array Nat} (hp:Pm n p) {i:Nat} (h:i ∈ p.toList):i < n:=List.mem_range.mp (hp.mem_iff.mp h)
theorem pick_vals {p:Array Nat} {xs:List V} {us:List Value} (hp:Pm xs.length p) (rv:Vals xs us):Vals (pick p xs .non) (pick p us Value.none):=by
 have r:=rv.reverse
 have go:∀ l:List Nat,(∀ i ∈ l,i < xs.length)->Vals (l.map fun i=>xs.reverse.getD i .non) (l.map fun i=>us.reverse.getD i Value.none):=by
  intro l
  induction l with
  | nil=>intro _; exact .nil
  | cons i l ih=>
   intro h
   have hi:i < xs.reverse.length:=by rw [List.length_reverse]; exact h i (by simp)
   refine .cons ?_ (ih fun j hj=>h j (by simp [hj]))
   obtain ⟨u,e,q⟩:=r.get (List.getElem?_eq_getElem hi)
   show RelV (xs.reverse.getD i .non) (us.reverse.getD i Value.none)
   rw [jC hi,List.getD_eq_getElem?_getD,e]
   exact q
 exact go _ fun i hi=>hp.mem hi
theorem pick_pair {p:Array Nat} {xs:List V} {key:V->Int × List Int} (hp:Pm xs.length p) (hs:So (kAt (xs.map key).reverse) p xs.length):((pick p xs .non).reverse).Pairwise fun x y=>klt (key y) (key x)=true:=by
 rw [List.pairwise_reverse]
 unfold pick
 rw [List.pairwise_map,List.pairwise_iff_getElem]
 intro i j hi hj hij
 rw [Array.length_toList,hp.sz] at hi hj
 have z:=hs i j hij hj
 unfold kAt at z
 have g:∀ k (hk:k < xs.length),key (xs.reverse.getD (p.getD k 0) .non)=(xs.map key).reverse.getD (p.getD k 0) (0,[]):=fun k hk=>by
  have h1:p.getD k 0 < xs.length:=hp.lt hk
  rw [jC (by rw [List.length_reverse]; exact h1),jC (by rw [List.length_reverse,List.length_map]; exact h1)]
  simp
 rw [<- g i hi,<- g j hj,gd_at (by rw [hp.sz]; exact hi),gd_at (by rw [hp.sz]; exact hj)] at z
 exact z
section
variable {X:Cx} {pins:List (Addr × Obj)} {σ:St} {H:Hp} {s:Shared}
theorem sort_end {A:Around} {E:Value->Shared->Prop} {P:PySem.Fin->Shared->Prop} {H0:Hp} {D kS:Addr} {e1:Nat} {xs ys:List V} {us its:List Value} {key:V->Int × List Int} (hu:A.units + 64 < cLine)
  (I:Inv X pins σ H s) (h0:H0 kS=none) (h1:H0 D=none) (sm:Same H0 H) (hD:H D=some (.ext fun h=>h.get? D=some (seqObj "list" #[] e1))) (hk:H kS=some (.lst ys)) (kr:KeysR X.K H ys (xs.map key)) (ru:Vals ys us) (rv:Vals xs its)
  (h64:xs.length < 64) (nd:(xs.map key).Nodup)
  (h:∀ H2 s2 zs,Inv X pins σ H2 s2->Same H0 H2->H2 D=some (.lst zs)->zs.Perm xs->zs.Pairwise (fun x y=>klt (key y) (key x)=true)->P (.done (.ret .none)) s2):wpAny (model X.prog X.w) A (ksk_end D true its.toArray e1 (.ref kS) us.toArray) P E s:=by
 have lx:=rv.length
 have lu:=ru.length
 have ly:ys.length=xs.length:=by have:=Paired.length kr; rw [List.length_map] at this; exact this
 have hl:us.length=its.length:=by omega
 unfold ksk_end
 dsimp only
 rw [if_pos rfl]
 refine wpAny_bind (wpAny_rule ?_)
 by_cases h2:its.toArray.size < 2
 ·rw [if_pos h2,if_pos h2]
  refine wpAny_bind (wpAny_pure ?_)
  rw [StateT.run_pure]
  refine wpAny_bind (wpAny_pure ?_)
  dsimp only
  rw [kat_pairs true hl,show katRev true us=us.reverse from if_pos rfl,show katRev true its=its.reverse from if_pos rfl]
  refine lL (st:=SortSt.mk' general' _ #[] 7 none) (out:=its.reverse) (zs:=xs) ?_ (by rw [List.length_reverse]; omega) rfl I h0 h1 sm hD hk (by rw [List.reverse_reverse]; exact rv) fun H2 s2 I2 sm2 q=>h H2 s2 xs I2 sm2 q (.refl _) ?_
  ·show Array.map (·.2) ((us.reverse.toArray).zip (its.reverse.toArray))=_
   apply Array.toList_inj.mp
   rw [Array.toList_map,ksk_zip]
   exact List.map_snd_zip (by simp [hl])
  ·rw [List.size_toArray] at h2
   match xs,(by omega:xs.length < 2) with
   | [],_=>exact .nil
   | [x],_=>exact List.pairwise_singleton _ _
 ·rw [if_neg h2,if_neg h2]
  rw [List.size_toArray] at h2
  obtain ⟨fs,t1,t2,t3⟩:=kU I kr ru
  refine wpAny_bind (kat_kind (T:=.type "int") t1 (by omega) (fun v hv=>?_) (by decide) ?_)
  ·obtain ⟨n,t,rfl⟩:=t3 v hv
   exact Looks.of_pure rfl
  rw [show (Value.type "int" != Value.type "tuple")=true by decide,kat_pairs true hl,show katRev true us=us.reverse from if_pos rfl,show katRev true its=its.reverse from if_pos rfl]
  have tot:=kAt_tot (ks:=(xs.map key).reverse) ((List.reverse_perm _).nodup_iff.mpr nd)
  rw [List.length_reverse,List.length_map] at tot
  obtain ⟨hp,hs⟩:=ev_sort tot (by omega)
  refine wpAny_bind (wpAny_mono (kat_run (vs:=its.reverse) (ks:=us.reverse) (G:=fun p s'=>p=ev (kAt (xs.map key).reverse) (kas_sort xs.length)/\s'=s)
   (Q:=fun st' s'=>s'=s/\failedOf st'=none/\arrOf st'=(ev (kAt (xs.map key).reverse) (kas_sort xs.length)).map (kas_item ((List.toArray us.reverse).zip (List.toArray its.reverse))))
   (by rw [List.length_reverse,List.length_reverse]; exact hl) (by rw [List.length_reverse]; omega) (by rw [List.length_reverse]; omega) (fun p st' s' a1 a2 a3 a4=>⟨a4.2,a3,by rw [<- a4.1]; exact a2⟩) ?_) ?_ fun _ _ x=>x)
  ·rw [List.length_reverse,<- lx]
   refine wp_ev (c:=kAt (xs.map key).reverse) (fun i j C hi hj hC=>?_) (inr_sort (by omega)) ⟨rfl,rfl⟩
   show wpAny _ _ (keyLt' _ (us.reverse.getD i Value.none) (us.reverse.getD j Value.none)) C _ s
   have at_:∀ i,i < xs.length->∃ y u,us.reverse.getD i Value.none=u/\RelV y u/\KeyR X.K H y ((xs.map key).reverse.getD i (0,[])):=fun i hi=>by
    have hi':xs.length - 1 - i < ys.length:=by omega
    obtain ⟨k,ek,kk⟩:=KeysR.get kr (List.getElem?_eq_getElem hi')
    obtain ⟨u,eu,ru'⟩:=ru.get (List.getElem?_eq_getElem hi')
    refine ⟨ys[xs.length - 1 - i],u,?_,ru',?_⟩
    ·rw [List.getD_eq_getElem?_getD,List.getElem?_reverse (by omega),show us.length - 1 - i=xs.length - 1 - i by omega,eu]
     rfl
    ·rw [List.getD_eq_getElem?_getD,List.getElem?_reverse (by rw [List.length_map]; exact hi),List.length_map,ek]
     exact kk
   obtain ⟨y1,u1,e1,r1,k1⟩:=at_ i hi
   obtain ⟨y2,u2,e2,r2,k2⟩:=at_ j hj
   rw [e1,e2]
   exact key_lt hu I k1 k2 r1 r2 hC
  ·rintro ⟨⟨⟩,st'⟩ s' ⟨es,hf,har⟩
   dsimp only at es hf har ⊢
   subst es
   refine lL (out:=pick (ev (kAt (xs.map key).reverse) (kas_sort xs.length)) its Value.none) (zs:=(pick (ev (kAt (xs.map key).reverse) (kas_sort xs.length)) xs .non).reverse) (kat_snds (by rw [List.length_reverse,List.length_reverse]; exact hl) har) ?_ hf I h0 h1 sm hD hk (pick_vals hp rv).reverse
    fun H2 s2 I2 sm2 q=>h H2 s2 _ I2 sm2 q (pick_perm hp) (pick_pair hp hs)
   unfold pick
   rw [List.length_map,Array.length_toList,hp.sz]
   exact h64
end
end L2
namespace L2
open PySem PySem.Spec PyProof.Rows PySem.W
section
variable {X:Cx} {pins:List (Addr × Obj)} {σ:St} {H:Hp} {s:Shared}
def KeyF (X:Cx) (pins:List (Addr × Obj)) (σ:St) (A:Around) (f:Value) (H0:Hp) (xs:List V) (key:V->Int × List Int):Prop:=
 ∀ x ∈ xs,∀ u H1 s1,RelV x u->Inv X pins σ H1 s1->Same H0 H1->wpAny (model X.prog X.w) A (call f [u]) (fun k s2=>∃ y H2,Inv X pins σ H2 s2/\RelV y k/\Same H1 H2/\KeyR X.K H2 y (key x)) (fun _ _=>False) s1
theorem sort_tree {A:Around} {E:Value->Shared->Prop} {P:PySem.Fin->Shared->Prop} {H0:Hp} {D:Addr} {f:Value} {xs:List V} {key:V->Int × List Int} (hu:A.units + 64 < cLine)
  (I:Inv X pins σ H s) (h1:H0 D=none) (sm:Same H0 H) (hD:H D=some (.lst xs)) (h64:xs.length < 64) (nd:(xs.map key).Nodup) (hf:KeyF X pins σ A f H0 xs key)
  (h:∀ H2 s2 zs,Inv X pins σ H2 s2->Same H0 H2->H2 D=some (.lst zs)->zs.Perm xs->zs.Pairwise (fun x y=>klt (key y) (key x)=true)->P (.done (.ret .none)) s2):wpAny (model X.prog X.w) A (ksk_tree D f true) P E s:=by
 obtain ⟨lz,its,n,rv,lk,e⟩:=I.lstM hD
 have q:=get?_update_seq e (fun _=>#[])
 have I1:Inv X pins σ (upd H D (.ext fun h=>h.get? D=some (seqObj "list" #[] (if ((#[]:Array Value).size == its.toArray.size)=true then n else n + 1)))) { s with heap:=s.heap.update D (Obj.mapSeq fun _=>#[]),toks:=s.toks }:=
  I.write (x:=D) (e:=D) (by rw [hD]; exact trivial) (.inl rfl) (fun b' u hb hu=>(Heap.get?_update_other _ _ (Ne.symm hb)).trans hu) ⟨_,q⟩ ⟨q,⟨_,q⟩,fun _ _ p k=>k _ p⟩
 have I2:=I1.laid (t':=s.toks) (o:=.tup xs) (fun b ob z=>Heap.get?_push_of_some { cls:=.type "tuple",data:=.seq its.toArray } z) (Nat.le_refl _) ⟨by rw [sizeLine_eq]; omega,its,rv,IsTup.new _ _⟩
 have I3:=I2.lnew (t':=s.toks) (ys:=[]) (its:=[]) .nil (Nat.zero_le _)
 have nT:=I1.fresh
 have nK:=I2.fresh
 have hD1:upd H D (.ext fun h=>h.get? D=some (seqObj "list" #[] (if ((#[]:Array Value).size == its.toArray.size)=true then n else n + 1))) D=some (.ext fun h=>h.get? D=some (seqObj "list" #[] (if ((#[]:Array Value).size == its.toArray.size)=true then n else n + 1))):=ac
 have s1:Same H0 (upd H D (.ext fun h=>h.get? D=some (seqObj "list" #[] (if ((#[]:Array Value).size == its.toArray.size)=true then n else n + 1)))):=sm.put h1
 have hD2:=Same.new (o:=.tup xs) nT _ _ hD1
 have s2:=s1.trans (Same.new (o:=.tup xs) nT)
 have hD3:=Same.new (o:=.lst []) nK _ _ hD2
 have s3:=s2.trans (Same.new (o:=.lst []) nK)
 have hK0:=s2.free nK
 unfold ksk_tree
 refine wpAny_bind (listItems_at e rfl ?_)
 refine wpAny_bind (listUpdate_at e rfl ?_ (by rw [List.size_toArray,sizeLine_eq]; omega) (Nat.zero_le _))
 refine wpAny_bind (seqEpoch_at q rfl ?_)
 refine wpAny_bind (wpAny_newTuple ?_ (by show its.length <= _; rw [sizeLine_eq]; omega))
 refine wpAny_bind (wpAny_newList ?_ (Nat.zero_le _))
 refine wpAny_holding ?_
 unfold ksk_rest
 refine wpAny_bind (wpAny_rule ?_)
 first
  | rw [List.forIn_toArray]
  | (rw [<- Array.forIn_toList]; simp only [List.toList_toArray])
  | rw [<- Array.forIn_toList]
 refine wpAny_bind (kX (all:=xs) hK0 h64 hf (fun u s1 C hc=>?_) (fun H4 s4 ys ks I4 sm4 hD4 hk4 kr ek=>?_) xs [] its [] _ _ rfl rv I3 s3 hD3 ac .nil)
 ·refine wpAny_bind (wpAny_attempt (wpAny_mono hc (fun k s5 ⟨ks,m,eo,hz,hC⟩=>?_) fun _ _ z=>z.elim))
  dsimp only
  refine wpAny_bind (listUpdate_at eo rfl ?_ (by rw [List.size_toArray,sizeLine_eq]; omega) (Nat.le_trans (Nat.le_of_eq (Array.size_push ..)) (by rw [List.size_toArray,sizeLine_eq]; omega)))
  exact wpAny_pure ⟨rfl,hC⟩
 ·dsimp only
  obtain ⟨_,us,m,ru,_,eo⟩:=I4.lstM hk4
  refine wpAny_bind (listItems_at eo rfl ?_)
  subst ek
  exact sort_end hu I4 hK0 h1 sm4 hD4 hk4 kr ru rv h64 nd h
end
end L2
namespace L2
open PySem PySem.Spec PyProof.Rows PySem.W
def DRaw (d:Addr) (es:Array DictEntry) (ep:Nat) (h:Heap):Prop:=∃ o,h.get? d=some o/\o.ExactDict/\o.data=.dict es ep
section
variable {prog:Program} {w:World} {A:Around} {E:Value->Shared->Prop} {s:Shared} {d it:Addr} {es:Array DictEntry} {ep i:Nat}
theorem DRaw.typeIs (h:DRaw d es ep s.heap):s.TypeIs (.ref d) "dict":=let ⟨o,ho,hc,_⟩:=h; ⟨o,ho,hc.1⟩
theorem DRaw.at {h h':Heap} (x:DRaw d es ep h) (e:∀ o,h.get? d=some o->h'.get? d=some o):DRaw d es ep h':=let ⟨o,ho,r⟩:=x; ⟨o,e _ ho,r⟩
theorem iter_raw {Q:Value->Shared->Prop} (hd:(d == sysModules)=false) (hm:DRaw d es ep s.heap)
  (hQ:Q (.ref s.heap.objs.size) { s with heap:=s.heap.push { cls:=.type "dict_keyiterator",data:=.fields #[.ref d,.int 0 0,.int es.size 0,.int ep 0] } }):wpAny (model prog w) A (pyIter (.ref d)) Q E s:=by
 have hT:=hm.typeIs
 obtain ⟨o,ho,_,hdat⟩:=id hm
 refine wpAny_pyIter_slot hT F.slot_dict_iter (wpAny_call_entry F.slot_dict_iter hT F.entry_dict_iter ?_ (F.args_dict_iter_1 _))
 unfold Builtin.«dict.__iter__» Builtin.Dict.dictSlotNone
 refine wpAny_bind (wpAny_bind (wpAny_notOrdered_dict hT (wpAny_pure ?_)))
 show wpAny _ _ (Builtin.Dict.showsAll d >>= _) _ _ s
 unfold Builtin.Dict.showsAll
 rw [if_neg (by rw [hd]; exact Bool.false_ne_true)]
 refine wpAny_bind (wpAny_pure (wpAny_bind (wpAny_dictEntries ho hdat (wpAny_bind (wpAny_dictEpoch ho hdat ?_)))))
 refine wpAny_bind (wpAny_newObj_type (wpAny_pure ⟨_,rfl, "dict_keyiterator",_,⟨_,Heap.get?_push_size _ rfl,rfl⟩,F.slot_dict_keyiterator_next.lookup,?_⟩))
 simpa [rawInt] using hQ
theorem iE {Q:Option Value->Shared->Prop} (hh:A.handled=none) (hit:s.heap.IsKeyIter it d i es.size ep) (hm:DRaw d es ep s.heap)
  (h1:∀ (hi:i < es.size) h',h'.IsKeyIter it d (i + 1) es.size ep->Heap.SameBut it s.heap h'->Q (some es[i].key) { s with heap:=h' })
  (h2:es.size <= i->∀ h',Heap.ExtBut it s.heap h'->Q none { s with heap:=h' }):wpAny (model prog w) A (pyNext (.ref it)) Q E s:=by
 obtain ⟨o,ho,hc,hd⟩:=id hit
 obtain ⟨od,hod,_,hdd⟩:=id hm
 have hT:=hit.typeIs
 unfold pyNext
 refine wpAny_bind (wpAny_attempt (wpAny_callSpecial?_slot (name:=Str.ofString "__next__") hT F.slot_dict_keyiterator_next (wpAny_call_entry F.slot_dict_keyiterator_next hT F.entry_dict_keyiterator_next ?_ (F.args_dict_keyiterator_next_1 _))))
 refine wpAny_bind (wpAny_pure (wpAny_bind (wpAny_bind ?_)))
 first | refine wpAny_bind (wpAny_typeNameOfWhole_keyiter hT (wpAny_pure ?_)) | refine wpAny_bind (wpAny_typeNameOf_keyiter hT (wpAny_pure ?_))
 refine wpAny_bind (wpAny_fieldsOf ho hd ?_)
 simp only [show Builtin.Dict_items.ownsTuple "dict_keyiterator" = false by decide,Bool.false_eq_true,if_false]
 show wpAny _ _ (if (Value.ref d == Value.none)=true then _ else _) _ _ s
 rw [if_neg (show ¬ ((Value.ref d == Value.none)=true) from Bool.false_ne_true)]
 refine wpAny_bind (wpAny_pure (wpAny_bind (wpAny_dictEntries hod hdd ?_)))
 rw [if_neg (by simp)]
 refine wpAny_bind (wpAny_pure (wpAny_bind (wpAny_dictEpoch hod hdd ?_)))
 rw [if_neg (by simp)]
 refine wpAny_pure ?_
 by_cases hlt:i < es.size
 ·simp only [show ¬ ((i:Int) < 0) from by omega,if_false,Int.toNat_natCast,Array.getElem?_eq_getElem hlt]
  refine wpAny_bind ?_
  first | refine wpAny_bind (wpAny_typeNameOfWhole_keyiter hT (wpAny_pure ?_)) | refine wpAny_bind (wpAny_typeNameOf_keyiter hT (wpAny_pure ?_))
  refine wpAny_bind (wpAny_isOneOf_keyiter hT ?_)
  show wpAny _ _ (setField (.ref it) 1 (rawInt ((i:Int) + 1)) >>= _) _ _ s
  refine wpAny_bind (wpAny_setField ho hd (by simp) ?_)
  have hit':(s.heap.update it (Obj.mapFields (·.setIfInBounds 1 (rawInt ((i:Int) + 1))))).IsKeyIter it d (i + 1) es.size ep:=
   ⟨_,Heap.get?_update_self _ ho (Obj.isFreed_of_fields (Obj.data_mapFields hd _)),(Obj.cls_mapFields ..).trans hc,by rw [Obj.data_mapFields hd]; simp [rawInt]⟩
  refine wpAny_bind (wpAny_holding (wpAny_bind (wpAny_isOneOf_keyiter (s:={ s with heap:=s.heap.update it (Obj.mapFields (·.setIfInBounds 1 (rawInt ((i:Int) + 1)))) }) hit'.typeIs ?_)))
  show wpAny _ _ (pure es[i].key) _ _ _
  exact wpAny_pure (wpAny_pure ⟨_,rfl,wpAny_pure (h1 hlt _ hit' (Heap.SameBut.update ..))⟩)
 ·simp only [show ¬ ((i:Int) < 0) from by omega,if_false,Int.toNat_natCast,Array.getElem?_eq_none (Nat.le_of_not_lt hlt)]
  refine wpAny_bind ?_
  first | refine wpAny_bind (wpAny_typeNameOfWhole_keyiter hT (wpAny_pure ?_)) | refine wpAny_bind (wpAny_typeNameOf_keyiter hT (wpAny_pure ?_))
  show wpAny _ _ (setField (.ref it) 0 .none >>= _) _ _ s
  refine wpAny_bind (wpAny_setField ho hd (by simp) ?_)
  show wpAny _ _ (newExc (.type "StopIteration") [] >>= _) _ _ _
  refine wpAny_bind ?_
  simp only [newExc,newTuple]
  refine wpAny_bind (wpAny_newObj_type ?_ (by size_fits))
  refine wpAny_bind (m:=firstArgMember _ _) (wpAny_of_eq (a:=Value.none) (by first | rfl | (simp only [firstArgMember]; rfl)) ?_)
  refine wpAny_newObj_type ?_ (by size_fits)
  simp only [raiseNew]
  refine wpAny_bind (wpAny_handled ?_)
  rw [show A.in1.handled=none from hh]
  refine wpAny_bind (wpAny_pure (wpAny_throw ?_))
  refine wpAny_bind (wpAny_isInstance (T := "StopIteration") (b:=true) ⟨_,Heap.get?_push_size _ rfl,rfl⟩ isSubtype_stop ?_)
  exact wpAny_pure (h2 (Nat.le_of_not_lt hlt) _ (((Heap.SameBut.update ..).extBut.push _).push _))
theorem walks_raw (hh:A.handled=none) (it d:Addr) (hne:d ≠ it) (es:Array DictEntry) (ep:Nat) :
  Walks prog w A it [it,d] [it] es.size (fun i v=>∃ hi:i < es.size,v=es[i].key) (fun i h=>h.IsKeyIter it d i es.size ep/\DRaw d es ep h) where
 sub:=fun b hb=>by simp at hb; simp [hb]
 frame:=fun _ _ _ st hk=>⟨st.1.at fun o e=>hk it (by simp) o e,st.2.at fun o e=>hk d (by simp) o e⟩
 item:=fun i s Q E hi st hQ=>iE hh st.1 st.2 (fun hi h' hit' hs'=>hQ _ h' s.toks ⟨hi,rfl⟩ ⟨hit',st.2.at fun o e=>hs'.extBut d o hne e⟩ fun b o hb e=>hs'.extBut b o (fun h=>hb (by simp [h])) e) fun hge=>absurd hi (Nat.not_lt.mpr hge)
 done:=fun s Q E st hQ=>iE hh st.1 st.2 (fun hi=>absurd hi (Nat.lt_irrefl _)) fun _ h' he'=>hQ h' s.toks fun b o hb e=>he' b o (fun h=>hb (by simp [h])) e
 self:=fun _ _ _ _ st hQ=>wpAny_pyIter_keyiter st.1 hQ
theorem src_raw (lo:(d == sysModules)=false):KdlSrc prog w "dict" d d es.size (fun i v=>∃ hi:i < es.size,v=es[i].key) (DRaw d es ep) where
 type:=fun _ hm=>hm.typeIs
 there:=fun _ ⟨_,ho,_⟩=>⟨Heap.lt_size ho,Heap.lt_size ho⟩
 keep:=fun _ _ hm hk=>hm.at fun o e=>hk d (.inl rfl) o e
 notList:=by decide
 notTuple:=by decide
 hint:=fun _ _ _ _ hm hq=>kdl_hint_dict hm.typeIs hq
 iter:=fun _ s hh hm=>⟨_,_,(fun _ _ hq=>iter_raw lo hm hq),walks_raw hh _ d (Nat.ne_of_lt (let ⟨_,ho,_⟩:=hm; Heap.lt_size ho)) es ep,⟨⟨_,Heap.get?_push_size _ rfl,rfl,rfl⟩,hm.at fun o e=>Heap.get?_push_of_some _ e⟩⟩
end
end L2
namespace L2
open PySem PySem.Spec PyProof.Rows PySem.W
section
variable {X:Cx} {pins:List (Addr × Obj)} {σ:St} {H:Hp} {s:Shared}
def Src (K:Frag) (H:Hp) (x:V) (B:List V->Prop):Prop:=
 (∃ l xs,x=.ref l/\SqL K H l xs/\B xs)\/∃ d kvs,x=.ref d/\H d=some (.dT kvs)/\∀ as,Paired (fun (p:List Key × V) (a:Addr)=>H a=some (.tup (p.1.map kV))) kvs as->B (as.map V.ref)
theorem collect_src {E:Value->Shared->Prop} {A:Around} {x:V} {u:Value} {B:List V->Prop} {R:List Value->Shared->Prop} (hh:A.handled=none) (I:Inv X pins σ H s) (rx:RelV x u) (hs:Src X.K H x B)
  (h:∀ h' tk its xs,B xs->Vals xs its->(∀ b o,s.heap.get? b=some o->h'.get? b=some o)->xs.length <= sizeLine->R its { s with heap:=h',toks:=tk }):wpAny (model X.prog X.w) A (collect u) R E s:=by
 rcases hs with ⟨l,xs,rfl,hl,hB⟩ | ⟨d,kvs,rfl,hd,hB⟩
 ·cases rx
  obtain ⟨its,rv,p,hz⟩:=I.list hl
  refine collect_list (vs:=its) p.isList (h _ s.toks its xs hB rv (fun b o q=>?_) hz) (by rw [<- rv.length]; exact hz)
  have hlt:b < s.heap.objs.size:=Heap.lt_size q
  rw [Heap.get?_update_ne _ _ _ _ (Nat.ne_of_lt hlt),Heap.get?_push_ne _ _ _ (Nat.ne_of_lt hlt)]
  exact q
 ·cases rx
  obtain ⟨hz,hm,es3,kt,o,es,ep,h1,h2,h3,h4,h5⟩:=(show ObjOk X.prog X.w H s.heap d (.dT kvs) from I.hok d _ hd)
  have hsz:es.size=kvs.length:=by rw [<- Array.length_toList,h4,List.length_map,<- Paired.length kt]
  refine kdu_collect (src_raw (es:=es) (ep:=ep) hm) hh ⟨o,h1,h2,h3⟩ (by rw [hsz]; exact hz) fun h' tk acc hk ha=>?_
  have go:∀ {l:List (List Key × V)} {m:List (List Key × Addr × Value)},Paired (fun (p:List Key × V) (q:List Key × Addr × Value)=>p.1=q.1/\H q.2.1=some (.tup (p.1.map kV))/\RelV p.2 q.2.2) l m->
    Paired (fun (p:List Key × V) (a:Addr)=>H a=some (.tup (p.1.map kV))) l (m.map (·.2.1)):=by
   intro l m q
   induction q with
   | nil=>exact .nil
   | cons hq t ih=>exact .cons hq.2.1 ih
  have ke:acc.toList=(es3.map (·.2.1)).map Value.ref:=by
   apply List.ext_getElem?
   intro j
   rw [Array.getElem?_toList]
   by_cases hj:j < es.size
   ·have hj':j < acc.size:=by rw [ha.1]; exact hj
    obtain ⟨_,e⟩:=ha.2 j acc[j] (Array.getElem?_eq_getElem hj')
    rw [Array.getElem?_eq_getElem hj',e]
    have e2:es.toList[j]? = (es3.map (entryOfKey (tupleKind (bq X.prog X.w))))[j]?:=by rw [h4]
    rw [Array.getElem?_toList,Array.getElem?_eq_getElem hj,List.getElem?_map] at e2
    rw [List.getElem?_map,List.getElem?_map]
    cases e3:es3[j]? with
    | none=>rw [e3] at e2; cases e2
    | some q=>
     rw [e3] at e2
     show some es[j].key=some (Value.ref q.2.1)
     have e4:es[j]=entryOfKey (tupleKind (bq X.prog X.w)) q:=Option.some.inj e2
     rw [e4]
     rfl
   ·rw [Array.getElem?_eq_none (by rw [ha.1]; omega)]
    symm
    apply List.getElem?_eq_none
    rw [List.length_map,List.length_map,<- Paired.length kt]
    omega
  have vals:∀ l:List Addr,Vals (l.map V.ref) (l.map Value.ref):=by
   intro l
   induction l with
   | nil=>exact .nil
   | cons a l ih=>exact .cons rfl ih
  rw [ke]
  exact h h' tk _ _ (hB _ (go kt)) (vals _) hk (by rw [List.length_map,List.length_map,<- Paired.length kt]; exact hz)
theorem call_sorted {E:Value->Shared->Prop} {x:V} {u:Value} {f:Addr} {B:List V->Prop} {Q:Value->Shared->Prop} (hh:X.A.handled=none) (hu:X.A.in1.in1.units + 64 < cLine) (I:Inv X pins σ H s) (rx:RelV x u) (hs:Src X.K H x B)
  (hB:∀ xs,B xs->xs.length < 64/\∃ key:V->Int × List Int,(xs.map key).Nodup/\KeyF X pins σ X.A.in1.in1 (.ref f) H xs key/\
   ∀ D H2 s2 zs,H D=none->Inv X pins σ H2 s2->Same H H2->H2 D=some (.lst zs)->zs.Perm xs->zs.Pairwise (fun x y=>klt (key y) (key x)=true)->Q (.ref D) s2) :
  wpAny (model X.prog X.w) X.A (call (.builtin "sorted") [u] [(Str.ofString "key",.ref f),(Str.ofString "reverse",.bool true)]) Q E s:=by
 refine call_function_entry_kw kind_sorted plain_sorted entry_sorted (ksk_s2 _ _ _) ?_
 unfold Builtin.«sorted»
 refine wpAny_bind (m:=checkCount "sorted" 1 1 _) (wpAny_pure ?_)
 refine wpAny_bind (collect_src (A:=X.A.in1) hh I rx hs fun h' tk its xs src rv hk' hz=>?_)
 obtain ⟨h64,key,nd,kf,h⟩:=hB xs src
 have I1:Inv X pins σ H { s with heap:=h',toks:=tk }:=I.kept hk'
 have I2:=I1.lnew (t':=tk) rv hz
 refine wpAny_bind (wpAny_newList ?_ (by rw [<- rv.length]; exact hz))
 refine wpAny_bind (wpAny_holding (wpAny_call_entry_kw slot_list_sort ⟨_,Heap.get?_push_size _ rfl,rfl⟩ entry_list_sort ?_ (ksk_l2 _ _ _)))
 rw [ksk_t2]
 refine sort_tree (key:=key) hu I2 I1.fresh (Same.new I1.fresh) ac h64 nd kf fun H2 s2 zs I3 sm q pm pw=>⟨_,rfl,wpAny_pure ⟨_,rfl,h _ H2 s2 zs I1.fresh I3 sm q pm pw⟩⟩
end
end L2
namespace L2
open PySem PySem.Spec PyProof.Rows PySem.W
def SortB (K:Frag) (sp:Sp) (H1:Hp) (Q:VK) (xs:List V):Prop:=xs.length < 64/\∃ key:V->Int × List Int,(xs.map key).Nodup/\(∀ y ∈ xs,∀ H2,Same H1 H2->sp [y] H2 (fun z H3=>Same H2 H3/\KeyR K H3 z (key y)) E0)/\
 ∀ D H2 zs,H1 D=none->Same H1 H2->H2 D=some (.lst zs)->zs.Perm xs->zs.Pairwise (fun x y=>klt (key y) (key x)=true)->Q (.ref D) H2
def tSort (K:Frag) (sp:Sp) (te:TE):TE:=fun σ H Q=>te σ H fun x H1=>Src K H1 x (SortB K sp H1 Q)
section
variable {X:Cx} {p pos kp k1 k2 kp2:Pos} {e:Expr} {te:TE}
theorem key_fn {pins:List (Addr × Obj)} {σ:St} {A:Around} {k:Nat} {sp:Sp} {f:Addr} {fd:FuncData} {ps:List Str} {H0:Hp} {xs:List V} {key:V->Int × List Int} (F:aI X.prog X.w X.K X.mg X.base CX0 k f fd ps sp) (hb:Binds X.K fd ps []) (hr:Room k X.A.in1.in1)
  (h:∀ y ∈ xs,∀ H2,Same H0 H2->sp [y] H2 (fun z H3=>Same H2 H3/\KeyR X.K H3 z (key y)) E0):KeyF X pins σ X.A.in1.in1 (.ref f) H0 xs key:=by
 intro x hx u H1 s1 rx I sm
 have h':=h x hx H1 sm
 have r2:Vals [x] [u]:=.cons rx .nil
 have hl:([u] ++ []).length=ps.length:=F.len _ _ _ _ h'
 refine wpAny_call (codeAny_mono (F.run X.A.in1.in1 X.stack s1 H1 ⟨[u],[]⟩ [u] [x] _ E0 hr I.env0.in1.in1 (hb s1 [u] I.kIn hl) r2 h') fun r s' hq=>?_)
 cases r with
 | error e=>exact hq
 | ok fl=>
  cases fl with
  | ret v=>
   obtain ⟨y,H2,I2,ry,q1,q2⟩:=I.after hq
   exact ⟨y,H2,I2,ry,q1,q2⟩
  | next=>exact False.elim hq
  | brk=>exact False.elim hq
  | cont=>exact False.elim hq
theorem pe_sortK (T:Blt X.mg) {x:Str} {k:Nat} {sp:Sp} {j:Nat} (F:FnB X.prog X.w X.K X.mg X.base k x sp) (hr:Room (k + 2) X.A) (he:PE X e te) (hg:Gl X "sorted":=by rfl) (hgx:Gl X x:=by rfl) (hdb:(x == ("__debug__" : Str))=false:=by decide)
  (hs:starEach [e] X.env=[(false,eval e X.env)]:=by rfl) :
  PE X (.Call (.Name "sorted" p) [e] [⟨some "key",.Name x kp,k1⟩,⟨some "reverse",.Constant (.bool true) j kp2,k2⟩] pos) (tSort X.K sp te):=by
 obtain ⟨f,fd,ps,F',hm,hk,hb⟩:=F.ex
 intro pins s σ H Q I h
 refine wpAny_Call_Name_kw (fM I hg T.sorted boot_sorted ?_)
 refine callWith_kw ?_ (by rw [hs]; rfl) (by rw [hs]; rfl)
 refine thn ((aa he af hs) pos pins s σ H (fun vs H1=>match vs with | [v]=>Src X.K H1 v (SortB X.K sp H1 Q) | _=>False) I h) fun us s1 ⟨vs,H1,I1,r1,q1⟩=>?_
 match vs,r1,q1 with
 | [v],r1,q1=>
  obtain ⟨u,rfl,ru⟩:=r1.one
  refine thn ((pk_cons (jt (v:=.ref f) hgx hm rfl hdb) (pk_cons bQ pk_nil)) pos pins s1 σ H1 (fun zs H2=>zs=[V.ref f,.bl true]/\H2=H1) I1 ⟨rfl,rfl⟩) fun ws s2 ⟨zs,H2,I2,r2,e1,e2⟩=>?_
  subst e1 e2
  obtain ⟨w1,w2,rfl,rw1,rw2⟩:=r2.two
  cases rw1
  cases rw2
  refine call_sorted (f:=f) hr.hd hr.in1.in1.units I2 ru q1 fun xs ⟨h64,key,nd,hk1,hq⟩=>⟨h64,key,nd,key_fn (A:=X.A) F' hb hr.in1.in1 hk1,fun D H3 s3 zs nD I3 sm q pm pw=>⟨.ref D,H3,I3,rfl,hq D H3 zs nD sm q pm pw⟩⟩
end
end L2
namespace L2
open PySem PySem.Spec PyProof.Rows PySem.W
def Itd (d:Addr) (o:Obj) (u:HO) (vs:List V):It:=⟨fun i H=>H d=some (.frz o u)/\i < vs.length,fun i H x H'=>H'=H/\vs[i]? = some x,fun i H=>H d=some (.frz o u)/\vs.length <= i⟩
theorem turn_dict {P:Program} {w:World} {K:Frag} {tg:Expr} {d it:Addr} {o:Obj} {u:HO} {es:Array DictEntry} {ep:Nat} {vs:List V} (hx:o.ExactDict) (hd:o.data=.dict es ep) (rv:Vals vs (es.toList.map (·.key))) :
  m7 P w K tg (Itd d o u vs) [it] it (fun i h=>h.IsKeyIter it d i es.size ep) where
 mem:=by simp
 obj:=fun i h st b hb=>by
  have e:b=it:=by simpa using hb
  subst e
  obtain ⟨o,e,c,d⟩:=st
  exact ⟨o,e,fun v z=>by rw [d] at z; cases z⟩
 keep:=fun i h h' st k=>st.at fun o e=>k it (by simp) o e
 item:=by
  intro X hP hw hK hc i pins s σ H E I hf st hg
  subst hP hw hK
  obtain ⟨hD,hi⟩:=(show H d=some (.frz o u)/\i < vs.length from hg)
  have hl:vs.length=es.size:=by rw [rv.length]; simp
  have ho:s.heap.get? d=some o:=(show ObjOk X.prog X.w H s.heap d (.frz o u) from I.hok d _ hD).1
  obtain ⟨f0,f1,f2,f3,f4,f5⟩:=hf it (by simp)
  refine iE (I.ok.hd hc) st ⟨o,ho,hx,hd⟩ (fun hi' h' st' sb=>?_) fun hge=>absurd hi (by omega)
  have I1:Inv X pins σ H { s with heap:=h' }:=I.turned (t':=s.toks) (fun b o hb e=>(sb.2 b hb).trans e) f0 f1 f3 f4 f5
  obtain ⟨x,hxi⟩:∃ x,vs[i]? = some x:=⟨_,List.getElem?_eq_getElem hi⟩
  obtain ⟨v,hv,rx⟩:=rv.get hxi
  have hv':es[i].key=v:=by
   rw [List.getElem?_map,Array.getElem?_toList,Array.getElem?_eq_getElem hi'] at hv
   exact Option.some.inj hv
  obtain ⟨ob,e,c,dd⟩:=id st'
  exact ⟨_,rfl,go_of (s:={ s with heap:=h' }) e c dd (by decide) ⟨x,H,I1,by rw [hv']; exact rx,⟨rfl,hxi⟩,st',fun b hb=>(hf b hb).1⟩⟩
 done:=by
  intro X hP hw hK hc i pins s σ H E I hf st hg
  subst hP hw hK
  obtain ⟨hD,hi⟩:=(show H d=some (.frz o u)/\vs.length <= i from hg)
  have hl:vs.length=es.size:=by rw [rv.length]; simp
  have ho:s.heap.get? d=some o:=(show ObjOk X.prog X.w H s.heap d (.frz o u) from I.hok d _ hD).1
  obtain ⟨f0,f1,f2,f3,f4,f5⟩:=hf it (by simp)
  exact iE (I.ok.hd hc) st ⟨o,ho,hx,hd⟩ (fun hi'=>absurd hi' (by omega)) fun _ h' eb=>⟨rfl,I.turned (t':=s.toks) (fun b o hb e=>eb b o hb e) f0 f1 f3 f4 f5⟩
 self:=fun _ _ _ _ _ st h=>wpAny_pyIter_keyiter st h
def iDict (tl:TE):TI:=fun σ H R=>tl σ H fun x H1=>∃ d kvs,x=.ref d/\H1 d=some (.dT kvs)/\∀ o as,Paired (fun (p:List Key × V) (a:Addr)=>H1 a=some (.tup (p.1.map kV))) kvs as->R (Itd d o (.dT kvs) (as.map V.ref)) (upd H1 d (.frz o (.dT kvs)))
theorem dict_keys {P:Program} {w:World} {H:Hp} {kvs:List (List Key × V)} {m:List (List Key × Addr × Value)} (q:Paired (fun (p:List Key × V) (q:List Key × Addr × Value)=>p.1=q.1/\H q.2.1=some (.tup (p.1.map kV))/\RelV p.2 q.2.2) kvs m) :
  Paired (fun (p:List Key × V) (a:Addr)=>H a=some (.tup (p.1.map kV))) kvs (m.map (·.2.1))/\Vals ((m.map (·.2.1)).map V.ref) ((m.map (entryOfKey (tupleKind (bq P w)))).map (·.key)):=by
 induction q with
 | nil=>exact ⟨.nil,.nil⟩
 | cons hq t ih=>exact ⟨.cons hq.2.1 ih.1,.cons rfl ih.2⟩
theorem pi_dict {X:Cx} {tg l:Expr} {tl:TE} (hl:PE X l tl):PI X tg l (iDict tl):=by
 intro pins s σ H R I h
 refine thn (hl pins s σ H _ I h) fun v s1 ⟨x,H1,I1,r1,q1⟩=>?_
 obtain ⟨d,kvs,e,hd,q⟩:=q1
 subst e
 cases r1
 obtain ⟨hz,hm,es3,kt,o,es,ep,h1,h2,h3,h4,h5⟩:=id (show ObjOk X.prog X.w H1 s1.heap d (.dT kvs) from I1.hok d _ hd)
 obtain ⟨k1,k2⟩:=dict_keys (P:=X.prog) (w:=X.w) kt
 have go:∀ {l:List (List Key × V)} {m:List (List Key × Addr × Value)},Paired (fun (p:List Key × V) (q:List Key × Addr × Value)=>p.1=q.1/\H1 q.2.1=some (.tup (p.1.map kV))/\RelV p.2 q.2.2) l m->
   Paired (fun (p:List Key × V) (q:List Key × Addr × Value)=>p.1=q.1/\upd H1 d (.frz o (.dT kvs)) q.2.1=some (.tup (p.1.map kV))/\RelV p.2 q.2.2) l m:=by
  intro l m q
  induction q with
  | nil=>exact .nil
  | cons hq t ih=>exact .cons ⟨hq.1,by rw [ao (dY hq.2.1 hd (by intro z; cases z))]; exact hq.2.1,hq.2.2⟩ ih
 have I2:Inv X pins σ (upd H1 d (.frz o (.dT kvs))) { s1 with heap:=s1.heap,toks:=s1.toks }:=I1.write (x:=d) (e:=d) (by rw [hd]; exact trivial) (.inl rfl) (fun _ _ _ z=>z) ⟨_,h1⟩ ⟨h1,hz,hm,es3,go kt,o,es,ep,h1,h2,h3,h4,h5⟩
 rw [<- h4] at k2
 refine iter_raw hm ⟨o,h1,h2,h3⟩ ?_
 refine ⟨s1.heap.objs.size,[s1.heap.objs.size],_,_,_,rfl,I2.kept (t':=s1.toks) fun b o e=>Heap.get?_push_of_some _ e,turn_dict (u:=.dT kvs) h2 h3 k2,⟨_,Heap.get?_push_size _ rfl,rfl,rfl⟩,fun b hb=>?_,q o _ k1⟩
 have e:b=s1.heap.objs.size:=by simpa using hb
 subst e
 exact I2.fpOk (Nat.le_refl _) (I2.hok.fresh (Nat.le_refl _))
end L2
namespace L2
open PySem PySem.Spec PyProof.Rows PySem.W
theorem hu1 {k:Nat} {A:Around} (hr:Room k A):A.units + 1 < cLine:=by have:=hr.un; omega
theorem kpi_dict {X:Cx} {tg e:Expr} {te:TE} (K:Frag) (hK:X.K=K) (hl:PE X e te):PI X tg e (iDict te):=pi_dict hl
end L2
namespace L2
open PySem PySem.Spec PyProof.Rows PySem.W
def kI (k:List Int):List Key:=k.map Sum.inl
theorem kI_inj {a b:List Int} (h:kI a=kI b):a=b:=by
 induction a generalizing b with
 | nil=>cases b with
  | nil=>rfl
  | cons y b=>cases h
 | cons x a ih=>cases b with
  | nil=>cases h
  | cons y b=>
   have h':(Sum.inl x:Key) :: kI a=Sum.inl y :: kI b:=h
   injection h' with h1 h2
   injection h1 with h1
   rw [h1,ih h2]
theorem kI_kV (k:List Int):(kI k).map kV=k.map V.int:=by
 unfold kI
 rw [List.map_map]
 rfl
section
variable {α:Type}
def bS (m:List (List Int × α)) (k:List Int):Option α:=(m.find? fun p=>decide (p.1=k)).map (·.2)
def fQ (m:List (List Int × α)) (k:List Int) (x:α):List (List Int × α):=if (bS m k).isSome then m.map (fun p=>if p.1=k then (p.1,x) else p) else m ++ [(k,x)]
theorem aval_nil (k:List Int):bS ([]:List (List Int × α)) k=none:=rfl
theorem bG {p:List Int × α} {r:List (List Int × α)} {k:List Int} (e:p.1=k):bS (p :: r) k=some p.2:=by simp [bS,List.find?_cons,e]
theorem bf {p:List Int × α} {r:List (List Int × α)} {k:List Int} (e:¬ p.1=k):bS (p :: r) k=bS r k:=by simp [bS,List.find?_cons,e]
theorem aval_none {k:List Int}:∀ {m:List (List Int × α)},bS m k=none↔¬ k ∈ m.map (·.1)
 | []=>by simp [aval_nil]
 | p :: r=>by
  by_cases e:p.1=k
  ·rw [bG e]
   simp [e]
  ·rw [bf e,aval_none (m:=r),List.map_cons,List.mem_cons]
   exact ⟨fun h z=>z.elim (fun z=>e z.symm) h,fun h z=>h (.inr z)⟩
theorem db {k:List Int} {x:α}:∀ {m:List (List Int × α)},bS m k=some x->(k,x) ∈ m
 | p :: r,h=>by
  by_cases e:p.1=k
  ·rw [bG e] at h
   have:p=(k,x):=Prod.ext e (Option.some.inj h)
   rw [this]; simp
  ·rw [bf e] at h
   exact List.mem_cons.mpr (.inr (db h))
theorem jr {k:List Int} {x:α}:∀ {m:List (List Int × α)},(m.map (·.1)).Nodup->(k,x) ∈ m->bS m k=some x
 | p :: r,hn,h=>by
  have hn':(p.1 :: r.map (·.1)).Nodup:=hn
  obtain ⟨h1,h2⟩:=List.nodup_cons.mp hn'
  rcases List.mem_cons.mp h with z | z
  ·rw [<- z]
   exact bG rfl
  ·have:k ∈ r.map (·.1):=List.mem_map.mpr ⟨_,z,rfl⟩
   rw [bf (fun e=>h1 (by rw [e]; exact this))]
   exact jr h2 z
theorem aput_keys (m:List (List Int × α)) (k:List Int) (x:α):(fQ m k x).map (·.1)=if (bS m k).isSome then m.map (·.1) else m.map (·.1) ++ [k]:=by
 unfold fQ
 split
 ·rw [List.map_map]
  apply List.map_congr_left
  intro p _
  show (if p.1=k then (p.1,x) else p).1=p.1
  split<;>rfl
 ·rw [List.map_append]; rfl
theorem aput_nodup {m:List (List Int × α)} {k:List Int} {x:α} (h:(m.map (·.1)).Nodup):((fQ m k x).map (·.1)).Nodup:=by
 rw [aput_keys]
 split
 ·exact h
 ·rename_i hs
  have hn:bS m k=none:=by
   cases e:bS m k with
   | none=>rfl
   | some y=>rw [e] at hs; exact absurd rfl hs
  exact List.nodup_append.mpr ⟨h,by simp,fun a ha b hb=>by
   rw [List.mem_singleton.mp hb]
   intro z
   exact aval_none.mp hn (by rw [<- z]; exact ha)⟩
theorem fE {m:List (List Int × α)} {k:List Int} {x:α} {p:List Int × α} (h:p ∈ fQ m k x):p=(k,x)\/p ∈ m:=by
 unfold fQ at h
 split at h
 ·obtain ⟨q,hq,e⟩:=List.mem_map.mp h
  by_cases hk:q.1=k
  ·rw [if_pos hk] at e
   exact .inl (by rw [<- e,hk])
  ·rw [if_neg hk] at e
   exact .inr (by rw [<- e]; exact hq)
 ·rcases List.mem_append.mp h with z | z
  ·exact .inr z
  ·exact .inl (List.mem_singleton.mp z)
theorem aput_len (m:List (List Int × α)) (k:List Int) (x:α):(fQ m k x).length <= m.length + 1:=by
 unfold fQ
 split
 ·rw [List.length_map]; omega
 ·rw [List.length_append]; simp
def DictR (R:V->α->Prop) (kvs:List (List Key × V)) (m:List (List Int × α)):Prop:=Paired (fun (p:List Key × V) (q:List Int × α)=>p.1=kI q.1/\R p.2 q.2) kvs m
theorem DictR.mono {R R':V->α->Prop} (h:∀ v x,R v x->R' v x):∀ {kvs:List (List Key × V)} {m:List (List Int × α)},DictR R kvs m->DictR R' kvs m
 | _,_,.nil=>.nil
 | _,_,.cons q r=>.cons ⟨q.1,h _ _ q.2⟩ (DictR.mono h r)
theorem DictR.val {R:V->α->Prop} (k:List Int):∀ {kvs:List (List Key × V)} {m:List (List Int × α)},DictR R kvs m->(gB kvs (kI k)=none/\bS m k=none)\/∃ v x,gB kvs (kI k)=some v/\bS m k=some x/\R v x
 | _,_,.nil=>.inl ⟨rfl,rfl⟩
 | p :: _,q' :: _,.cons q r=>by
  by_cases e:q'.1=k
  ·exact .inr ⟨p.2,q'.2,iI (by rw [q.1,e]),bG e,q.2⟩
  ·rw [ik (fun z=>e (kI_inj (q.1.symm.trans z))),bf e]
   exact DictR.val k r
theorem DictR.put {R:V->α->Prop} {k:List Int} {v:V} {x:α} (hx:R v x) {kvs:List (List Key × V)} {m:List (List Int × α)} (h:DictR R kvs m):DictR R (gJ kvs (kI k) v) (fQ m k x):=by
 unfold gJ fQ
 rw [jN]
 rcases h.val k with ⟨e1,e2⟩ | ⟨v',x',e1,e2,_⟩
 ·rw [e1,e2]
  have go:∀ {kvs:List (List Key × V)} {m:List (List Int × α)},DictR R kvs m->DictR R (kvs ++ [(kI k,v)]) (m ++ [(k,x)]):=by
   intro kvs m h
   induction h with
   | nil=>exact .cons ⟨rfl,hx⟩ .nil
   | cons q r ih=>exact .cons q ih
  exact go h
 ·rw [e1,e2]
  have go:∀ {kvs:List (List Key × V)} {m:List (List Int × α)},DictR R kvs m->DictR R (kvs.map fun kv=>if kv.1=kI k then (kv.1,v) else kv) (m.map fun p=>if p.1=k then (p.1,x) else p):=by
   intro kvs m h
   induction h with
   | nil=>exact .nil
   | @cons p q ps qs hq r ih=>
    refine .cons ?_ ih
    dsimp only
    by_cases e:q.1=k
    ·rw [if_pos (by rw [hq.1,e]),if_pos e]
     exact ⟨hq.1,hx⟩
    ·rw [if_neg (fun z=>e (kI_inj (hq.1.symm.trans z))),if_neg e]
     exact hq
  exact go h
theorem DictR.tups {R:V->α->Prop} {H:Hp}:∀ {kvs:List (List Key × V)} {m:List (List Int × α)} {as:List Addr},DictR R kvs m->Paired (fun (p:List Key × V) (a:Addr)=>H a=some (.tup (p.1.map kV))) kvs as->
  Paired (fun (a:Addr) (q:List Int × α)=>H a=some (.tup (q.1.map V.int))) as m
 | _,_,_,.nil,.nil=>.nil
 | _,_,_,.cons q r,.cons t ts=>.cons (by rw [q.1,kI_kV] at t; exact t) (DictR.tups r ts)
end
theorem i7 {β:Type} {lt:β->β->Bool} (irr:∀ a,lt a a=false) (tr:∀ a b c,lt a b=true->lt b c=true->lt a c=true):∀ {xs ys:List β},xs.Perm ys->xs.Pairwise (fun a b=>lt b a=true)->ys.Pairwise (fun a b=>lt b a=true)->xs=ys
 | [],ys,p,_,_=>(List.nil_perm.mp p).symm
 | x :: xs,[],p,_,_=>by have:=p.length_eq; simp at this
 | x :: xs,y :: ys,p,h1,h2=>by
  obtain ⟨a1,a2⟩:=List.pairwise_cons.mp h1
  obtain ⟨b1,b2⟩:=List.pairwise_cons.mp h2
  have e:x=y:=by
   have mx:x ∈ y :: ys:=p.mem_iff.mp (by simp)
   have my:y ∈ x :: xs:=p.mem_iff.mpr (by simp)
   rcases List.mem_cons.mp mx with z | z
   ·exact z
   ·rcases List.mem_cons.mp my with w | w
    ·exact w.symm
    ·have c1:=b1 x z
     have c2:=a1 y w
     have:=tr _ _ _ c1 c2
     rw [irr] at this
     cases this
  subst e
  rw [i7 irr tr ((List.perm_cons x).mp p) a2 b2]
end L2
namespace L2
open PySem PySem.Spec PyProof.Rows PySem.W
variable {X:Cx}
def ddn (ns:List Int):Nat:=(firstMet (fun i=>ns.getD i 0) ns.length).length
theorem call_set_of (hc:X.calm=true):cY X (.type "set") (fun xs H Q=>∃ p ns,xs=[.ref p]/\SqL X.K H p (ns.map V.int)/\ns.length < 4000/\∀ a S,H a=none->Q (.ref a) (upd H a (.set S (ddn ns)))):=by
 intro pins s σ H xs us Q I r h
 obtain ⟨p,ns,rfl,hq,hn,q⟩:=h
 obtain ⟨u,rfl,rx⟩:=fm r
 cases rx
 obtain ⟨its,r',pl,hz⟩:=I.list hq
 have hlen:=r'.length
 rw [List.length_map] at hlen
 have hi:IntsAre its.toArray.toList ns:=gD r'
 have hsz:its.toArray.size=ns.length:=by rw [List.size_toArray]; omega
 refine PySem.call_set_list (items:=its.toArray) (ns:=ns) (I.ok.hd hc) pl.isList hi (by rw [hsz]; unfold scanBound; omega) fun h' tk hS kp=>?_
 rw [hsz] at hS
 exact ⟨.ref s.heap.objs.size,_,I.laid (t':=tk) (fun b u e=>kp b u (Heap.lt_size e) e) (Nat.le_refl _) (show ObjOk X.prog X.w _ h' _ (.set _ (ddn ns)) from hS),rfl,q _ _ (I.hok.fresh (Nat.le_refl _))⟩
theorem kH:cY X (.builtin "len") (fun xs H Q=>∃ a S n,xs=[.ref a]/\H a=some (.set S n)/\Q (.int n) H):=by
 intro pins s σ H xs us Q I r h
 obtain ⟨a,S,n,rfl,ha,q⟩:=h
 obtain ⟨u,rfl,rx⟩:=fm r
 cases rx
 have hs:=(I.hok a _ ha)
 obtain ⟨o,es,ep,t,ho,hex,hd,el,mem,hb,hf,hn⟩:s.heap.SetOf (intKind X.prog X.w) a S n:=hs
 refine PySem.call_len_set ho hex hd hf (by unfold scanBound at hb; omega) ⟨.int n,H,I.tok _,⟨_,by rw [hn]⟩,q⟩
section
variable {K:Frag} {e:Expr} {te:TE} {p pos:Pos}
theorem boot_set':bootBuiltins "set"=some (.type "set"):=by decide +kernel
def rSet (K:Frag):List V->Hp->VK->Prop:=fun xs H Q=>∃ p ns,xs=[.ref p]/\SqL K H p (ns.map V.int)/\ns.length < 4000/\∀ a S,H a=none->Q (.ref a) (upd H a (.set S (ddn ns)))
def rLenS:List V->Hp->VK->Prop:=fun xs H Q=>∃ a S n,xs=[.ref a]/\H a=some (.set S n)/\Q (.int n) H
theorem kpl_set (nset:X.mg "set" = none) (ha:PE X e te) (hK:X.K=K:=by rfl) (hc:X.calm=true:=by rfl) (hg:Gl X "set":=by rfl) (hs:starEach [e] X.env=[(false,eval e X.env)]:=by rfl):PE X (.Call (.Name "set" p) [e] [] pos) (tCB (rSet K) (bJ te dI)):=by
 subst hK; exact eE (call_set_of hc) hg nset boot_set' (aa ha af hs) (by decide) (by decide) hs
theorem kpl_lenS (T:Blt X.mg) (ha:PE X e te) (hg:Gl X "len":=by rfl) (hs:starEach [e] X.env=[(false,eval e X.env)]:=by rfl):PE X (.Call (.Name "len" p) [e] [] pos) (tCB rLenS (bJ te dI)):=
 cb kH hg T.len PySem.boot_len (aa ha af hs) (by decide) (by decide) hs
end
theorem ddn_le_one {ns:List Int}:decide (ddn ns < 2)=decide (∀ a ∈ ns,∀ b ∈ ns,a=b):=by
 have any:=firstMet_any (fun i=>ns.getD i 0) ns.length
 have hmap:(List.range ns.length).map (fun i=>ns.getD i 0)=ns:=by
  apply List.ext_getElem
  ·simp
  ·intro i h1 h2
   simp only [List.getElem_map,List.getElem_range,List.getD_eq_getElem?_getD]
   rw [List.getElem?_eq_getElem h2]
   rfl
 rw [hmap] at any
 have nd:(firstMet (fun i=>ns.getD i 0) ns.length).Nodup:=by
  have go:∀ k,(firstMet (fun i=>ns.getD i 0) k).Nodup:=by
   intro k
   induction k with
   | zero=>rw [firstMet_zero]; exact List.nodup_nil
   | succ k ih=>
    rw [firstMet_succ]
    unfold step_dedup
    split
    ·exact ih
    ·rename_i h
     refine List.nodup_append.mpr ⟨ih,by simp,fun a ha b hb=>?_⟩
     rw [List.mem_singleton.mp hb]
     intro z
     apply h
     rw [List.any_eq_true]
     exact ⟨a,ha,by rw [z]; simp⟩
  exact go _
 have mem:∀ a,a ∈ firstMet (fun i=>ns.getD i 0) ns.length↔a ∈ ns:=fun a=>by
  have:=any a
  constructor
  ·intro h
   have h1:(firstMet (fun i=>ns.getD i 0) ns.length).any (· == a)=true:=List.any_eq_true.mpr ⟨a,h,by simp⟩
   rw [this] at h1
   obtain ⟨b,hb,e⟩:=List.any_eq_true.mp h1
   rw [<- eq_of_beq e]; exact hb
  ·intro h
   have h1:ns.any (· == a)=true:=List.any_eq_true.mpr ⟨a,h,by simp⟩
   rw [<- this] at h1
   obtain ⟨b,hb,e⟩:=List.any_eq_true.mp h1
   rw [<- eq_of_beq e]; exact hb
 unfold ddn
 generalize firstMet (fun i=>ns.getD i 0) ns.length=f at *
 apply decide_eq_decide.mpr
 constructor
 ·intro h a ha b hb
  have ha:=(mem a).mpr ha
  have hb:=(mem b).mpr hb
  match f,h with
  | [],_=>cases ha
  | [x],_=>rw [List.mem_singleton.mp ha,List.mem_singleton.mp hb]
 ·intro h
  match f,nd,mem with
  | [],_,_=>decide
  | [x],_,_=>show 1 < 2; decide
  | x :: y :: r,nd,mem=>
   have:=h x ((mem x).mp (by simp)) y ((mem y).mp (by simp))
   exact absurd this (by
    have:=(List.nodup_cons.mp nd).1
    intro z; apply this; rw [z]; simp)
end L2
namespace L2
open PySem PySem.Spec PyProof.Rows PySem.W
section
variable {prog:Program} {w:World} {A:Around} {E:Value->Shared->Prop} {s:Shared} {d it v:Addr} {es:Array DictEntry} {ep i:Nat}
end
end L2
namespace L2
open PySem PySem.Spec PyProof.Rows PySem.W
end L2
namespace L2
open PySem PySem.Spec PyProof.Rows PySem.W
section
variable {X:Cx} {K:Frag} {e st:Expr} {te:TE} {ts:TO} {pos p2:Pos}
end
theorem comp_zipS {t1 t2:Bool} {K K':Frag} {a b:Addr} {xs ys:List V} {te:TE} {Q:VK} {rest:St} {src:List (Option Nat)} {σ:St} {H0:Hp} (f:V->V->V) (hσ:bW src σ=none :: none :: rest) (hx:SqV t1 K H0 a xs) (hy:SqV t2 K H0 b ys) (hl:xs.length <= sizeLine)
  (he:∀ (i:Nat) x y H (R:VK),xs[i]? = some x->ys[i]? = some y->Same H0 H->(∀ H',Same H H'->R (f x y) H')->te (some x :: some y :: rest) H R)
  (hd:∀ acc H,H0 acc=none->Same H0 H->H acc=some (.lst (List.zipWith f xs ys))->Q (.ref acc) H) :
  cT (Itz t1 t2 K a b) src (gTup K' 2 (iq (cI 0) (iq (cI 1) gNil))) tYes te σ H0 Q:=by
 intro acc hacc
 rw [hσ]
 have hlen:(List.zipWith f xs ys).length=min xs.length ys.length:=List.length_zipWith
 refine eO (n:=min xs.length ys.length) (fun i zs σ H=>Same H0 H/\zs=(List.zipWith f xs ys).take i/\∃ u v,σ=u :: v :: rest) (by omega) ⟨Same.new hacc,rfl,none,none,rfl⟩ ?_ ?_ ?_ ?_
 ·rintro i zs σ H hi hz ⟨sm,_⟩
  exact ⟨xs,ys,xs[i]'(by omega),ys[i]'(by omega),sm.sqV hx,sm.sqV hy,by simp,by simp⟩
 ·rintro zs σ H hz ⟨sm,_⟩
  refine ⟨xs,ys,sm.sqV hx,sm.sqV hy,?_⟩
  omega
 ·rintro i zs σ H x H' hi hz hzl ⟨sm,ez,u,v,rfl⟩ ⟨p,x1,y1,rfl,hp,rfl,gx,gy⟩
  have hx1:=gx xs (sm.sqV hx)
  have hy1:=gy ys (sm.sqV hy)
  have pacc:acc ≠ p:=ah hz hp
  have hp0:H0 p=none:=sm.free hp
  refine ⟨p,[x1,y1],rfl,SqT.of ac,rfl,x1,[y1],rfl,y1,[],rfl,rfl,?_⟩
  show te (some x1 :: some y1 :: rest) _ _
  refine he i x1 y1 _ _ hx1 hy1 (sm.put hp0) fun H2 s2=>?_
  refine ⟨zs,s2 _ _ (by rw [ao pacc]; exact hz),by omega,zs ++ [f x1 y1],ac,by rw [List.length_append,List.length_singleton]; omega,((sm.put hp0).trans s2).put hacc,?_,_,_,rfl⟩
  rw [iu f xs ys i x1 y1 hx1 hy1,ez]
 ·rintro zs σ H hz hzl ⟨sm,ez,_⟩
  refine hd acc H hacc sm ?_
  rw [hz,ez,List.take_of_length_le (by omega)]
end L2
namespace L2
open PySem PySem.Spec PyProof.Rows PySem.W
section
variable {X:Cx} {p pos:Pos} {e:Expr} {te:TE} {K:Frag}
def rMax1 (t:Bool) (K:Frag):List V->Hp->VK->Prop:=fun xs H Q=>∃ (p:Addr) (ns:List Int),xs=[.ref p]/\SqV t K H p (ns.map V.int)/\ns ≠ []/\∀ m,m ∈ ns->(∀ x ∈ ns,x <= m)->Q (.int m) H
def rMin1 (t:Bool) (K:Frag):List V->Hp->VK->Prop:=fun xs H Q=>∃ (p:Addr) (ns:List Int),xs=[.ref p]/\SqV t K H p (ns.map V.int)/\ns ≠ []/\∀ m,m ∈ ns->(∀ x ∈ ns,m <= x)->Q (.int m) H
theorem call_max1 (hc:X.calm=true) (t:Bool):cY X (.builtin "max") (rMax1 t X.K):=by
 intro pins s σ H xs us Q I rv h
 obtain ⟨p,ns,rfl,q,hne,hq⟩:=h
 obtain ⟨u,rfl,ru⟩:=fm rv
 cases ru
 obtain ⟨its,rb,po,z⟩:=I.seqV q
 have hh:X.A.in1.handled=none:=I.ok.hd hc
 have hlen:=rb.length
 rw [List.length_map] at hlen
 have hpos:0 < ns.length:=List.length_pos_iff.mpr hne
 have hval:∀ (i:Nat) (v:Value),its.toArray[i]? = some v->∃ t,v=Value.int (ns.getD i 0) t:=by
  intro i v hv
  have hv':its[i]? = some v:=by simpa using hv
  have hil:i < its.length:=(List.getElem?_eq_some_iff.mp hv').1
  have hb:(ns.map V.int)[i]? = some (.int (ns.getD i 0)):=by
   rw [List.getElem?_map,List.getD_eq_getElem?_getD,List.getElem?_eq_getElem (by omega)]
   rfl
  obtain ⟨u,hu,ru⟩:=rb.get hb
  rw [hv'] at hu
  cases hu
  exact ru
 refine call_max_walk (f8 po fun o hi=>?_)
 have hlt:p < s.heap.objs.size:=by obtain ⟨ob,e⟩:=po.obj; exact Heap.lt_size e
 refine ⟨s.heap.objs.size,_,_,_,_,_,_,rfl,Walks.sq t hh s.heap.objs.size p (Nat.ne_of_lt hlt) its.toArray,⟨hi,po.at fun o' e=>Heap.get?_push_of_some _ e⟩,fun b hb=>?_,?_,CmpOf.ints_gt (fun i=>ns.getD i 0) hval,fun v h' tk hP hk=>?_⟩
 ·show b < (s.heap.push o).objs.size
  rw [Heap.size_push]
  rcases List.mem_cons.mp hb with rfl | hb
  ·exact Nat.lt_succ_self _
  ·rcases List.mem_cons.mp hb with rfl | hb
   ·exact Nat.lt_succ_of_lt hlt
   ·cases hb
 ·rw [List.size_toArray]
  omega
 ·have I1:Inv X pins σ H { s with heap:=s.heap.push o,toks:=s.toks }:=I.kept fun b u e=>Heap.get?_push_of_some _ e
  have fp:eM X pins H s.heap.objs.size:=I.fpOk (Nat.le_refl _) (I.hok.fresh (Nat.le_refl _))
  have I2:Inv X pins σ H { s with heap:=h',toks:=tk }:=by
   have:=I1.turnedN (fp:=[s.heap.objs.size]) (h':=h') (t':=tk) (fun b ob hb e=>hk b ob hb e) (fun b hb=>by have e:b=s.heap.objs.size:=by simpa using hb
                                                                                                           subst e; exact fp)
   exact this
  obtain ⟨g1,g2⟩:=argBest_gt (fun i=>ns.getD i 0) (its.toArray.size - 1)
  rw [List.size_toArray] at g1 g2 hP
  obtain ⟨tv,rfl⟩:=hval _ _ hP
  have hi2:argBest (fun i j=>decide (ns.getD i 0 > ns.getD j 0)) (its.length - 1) < ns.length:=by omega
  refine ⟨.int (ns.getD (argBest (fun i j=>decide (ns.getD i 0 > ns.getD j 0)) (its.length - 1)) 0),H,I2,⟨tv,rfl⟩,hq _ ?_ fun x hx=>?_⟩
  ·rw [List.getD_eq_getElem?_getD,List.getElem?_eq_getElem hi2]
   exact List.getElem_mem hi2
  ·obtain ⟨j,hj,rfl⟩:=List.getElem_of_mem hx
   have:=g2 j (by omega)
   rw [List.getD_eq_getElem?_getD (i:=j),List.getElem?_eq_getElem hj] at this
   exact this
theorem call_min1 (hc:X.calm=true) (t:Bool):cY X (.builtin "min") (rMin1 t X.K):=by
 intro pins s σ H xs us Q I rv h
 obtain ⟨p,ns,rfl,q,hne,hq⟩:=h
 obtain ⟨u,rfl,ru⟩:=fm rv
 cases ru
 obtain ⟨its,rb,po,z⟩:=I.seqV q
 have hh:X.A.in1.handled=none:=I.ok.hd hc
 have hlen:=rb.length
 rw [List.length_map] at hlen
 have hpos:0 < ns.length:=List.length_pos_iff.mpr hne
 have hval:∀ (i:Nat) (v:Value),its.toArray[i]? = some v->∃ t,v=Value.int (ns.getD i 0) t:=by
  intro i v hv
  have hv':its[i]? = some v:=by simpa using hv
  have hil:i < its.length:=(List.getElem?_eq_some_iff.mp hv').1
  have hb:(ns.map V.int)[i]? = some (.int (ns.getD i 0)):=by
   rw [List.getElem?_map,List.getD_eq_getElem?_getD,List.getElem?_eq_getElem (by omega)]
   rfl
  obtain ⟨u,hu,ru⟩:=rb.get hb
  rw [hv'] at hu
  cases hu
  exact ru
 refine call_min_walk (f8 po fun o hi=>?_)
 have hlt:p < s.heap.objs.size:=by obtain ⟨ob,e⟩:=po.obj; exact Heap.lt_size e
 refine ⟨s.heap.objs.size,_,_,_,_,_,_,rfl,Walks.sq t hh s.heap.objs.size p (Nat.ne_of_lt hlt) its.toArray,⟨hi,po.at fun o' e=>Heap.get?_push_of_some _ e⟩,fun b hb=>?_,?_,CmpOf.ints_lt (fun i=>ns.getD i 0) hval,fun v h' tk hP hk=>?_⟩
 ·show b < (s.heap.push o).objs.size
  rw [Heap.size_push]
  rcases List.mem_cons.mp hb with rfl | hb
  ·exact Nat.lt_succ_self _
  ·rcases List.mem_cons.mp hb with rfl | hb
   ·exact Nat.lt_succ_of_lt hlt
   ·cases hb
 ·rw [List.size_toArray]
  omega
 ·have I1:Inv X pins σ H { s with heap:=s.heap.push o,toks:=s.toks }:=I.kept fun b u e=>Heap.get?_push_of_some _ e
  have fp:eM X pins H s.heap.objs.size:=I.fpOk (Nat.le_refl _) (I.hok.fresh (Nat.le_refl _))
  have I2:Inv X pins σ H { s with heap:=h',toks:=tk }:=by
   have:=I1.turnedN (fp:=[s.heap.objs.size]) (h':=h') (t':=tk) (fun b ob hb e=>hk b ob hb e) (fun b hb=>by have e:b=s.heap.objs.size:=by simpa using hb
                                                                                                           subst e; exact fp)
   exact this
  obtain ⟨g1,g2⟩:=argBest_lt (fun i=>ns.getD i 0) (its.toArray.size - 1)
  rw [List.size_toArray] at g1 g2 hP
  obtain ⟨tv,rfl⟩:=hval _ _ hP
  have hi2:argBest (fun i j=>decide (ns.getD i 0 < ns.getD j 0)) (its.length - 1) < ns.length:=by omega
  refine ⟨.int (ns.getD (argBest (fun i j=>decide (ns.getD i 0 < ns.getD j 0)) (its.length - 1)) 0),H,I2,⟨tv,rfl⟩,hq _ ?_ fun x hx=>?_⟩
  ·rw [List.getD_eq_getElem?_getD,List.getElem?_eq_getElem hi2]
   exact List.getElem_mem hi2
  ·obtain ⟨j,hj,rfl⟩:=List.getElem_of_mem hx
   have:=g2 j (by omega)
   rw [List.getD_eq_getElem?_getD (i:=j),List.getElem?_eq_getElem hj] at this
   exact this
theorem kh (T:Blt X.mg) (ha:PE X e te) (b:Bool) (hK:X.K=K:=by rfl) (hc:X.calm=true:=by rfl) (hg:Gl X "max":=by rfl) (hs:starEach [e] X.env=[(false,eval e X.env)]:=by rfl):PE X (.Call (.Name "max" p) [e] [] pos) (tCB (rMax1 b K) (bJ te dI)):=by
 subst hK
 exact cb (call_max1 hc b) hg T.max lH (aa ha af hs) (by decide) (by decide) hs
theorem kpl_min1 (T:Blt X.mg) (ha:PE X e te) (b:Bool) (hK:X.K=K:=by rfl) (hc:X.calm=true:=by rfl) (hg:Gl X "min":=by rfl) (hs:starEach [e] X.env=[(false,eval e X.env)]:=by rfl):PE X (.Call (.Name "min" p) [e] [] pos) (tCB (rMin1 b K) (bJ te dI)):=by
 subst hK
 exact cb (call_min1 hc b) hg T.min lK (aa ha af hs) (by decide) (by decide) hs
end
end L2
namespace L2
open PySem PySem.Spec PyProof.Rows PySem.W
theorem for_zip {t1 t2:Bool} {K:Frag} {a b:Addr} {xs ys:List V} {g:TG} {tb:TS} {D:j8} {σ:St} {H:Hp} (Pv:Nat->St->Hp->Prop) (h0:Pv 0 σ H) (hl:∀ i σ H,i <= min xs.length ys.length->Pv i σ H->SqV t1 K H a xs/\SqV t2 K H b ys)
  (hs:∀ (i:Nat) x y σ H p,xs[i]? = some x->ys[i]? = some y->Pv i σ H->H p=none->g (.ref p) σ (upd H p (.tup [x,y])) fun σ2 H2=>tb { D with nx:=Pv (i + 1),ct:=Pv (i + 1),bk:=D.nx } σ2 H2) (hd:∀ σ H,Pv (min xs.length ys.length) σ H->D.nx σ H) :
  ∃ W:Nat->Nat->St->Hp->Prop,(∃ m,W 0 m σ H)/\∀ i m σ H,W i m σ H->
   ((Itz t1 t2 K a b).stop i H/\D.nx σ H)\/((Itz t1 t2 K a b).go i H/\∃ N:St->Hp->Prop,(∀ σ' H',N σ' H'->∃ m',m' < m/\W (i + 1) m' σ' H')/\∀ x H',(Itz t1 t2 K a b).yld i H x H'->g x σ H' fun σ2 H2=>tb { D with nx:=N,ct:=N,bk:=D.nx } σ2 H2):=by
 refine ⟨fun i m σ H=>m=min xs.length ys.length - i/\i <= min xs.length ys.length/\Pv i σ H,⟨min xs.length ys.length,by simp,Nat.zero_le _,h0⟩,?_⟩
 rintro i m σ H ⟨rfl,hi,p⟩
 obtain ⟨q1,q2⟩:=hl i σ H hi p
 by_cases hlt:i < min xs.length ys.length
 ·have hx:i < xs.length:=by omega
  have hy:i < ys.length:=by omega
  refine .inr ⟨⟨xs,ys,xs[i],ys[i],q1,q2,by simp [hx],by simp [hy]⟩,Pv (i + 1),fun σ' H' p'=>⟨min xs.length ys.length - (i + 1),by omega,rfl,hlt,p'⟩,fun x H' y=>?_⟩
  obtain ⟨l,x1,y1,rfl,hl1,rfl,g1,g2⟩:=y
  exact hs i x1 y1 σ _ l (g1 xs q1) (g2 ys q2) p hl1
 ·have e:i=min xs.length ys.length:=by omega
  subst e
  refine .inl ⟨⟨xs,ys,q1,q2,?_⟩,hd σ H p⟩
  omega
end L2
namespace L2
open PySem PySem.Spec PyProof.Rows PySem.W
theorem g7:∀ (names:List (Str × NameKind)) (n:Nat) (acc:List (Str × Addr)) (x:Str) (c:Nat),(cellsFrom n names acc).lookup x=some c->(n <= c/\(x,NameKind.cell) ∈ names)\/acc.lookup x=some c
 | [],n,acc,x,c,h=>.inr h
 | (m,k) :: r,n,acc,x,c,h=>by
  unfold cellsFrom at h
  split at h
  ·rename_i hk
   rcases g7 r (n + 1) _ x c h with ⟨a,b⟩ | z
   ·exact .inl ⟨by omega,List.mem_cons_of_mem _ b⟩
   ·cases hx:x == m with
    | true=>
     simp only [List.lookup_cons,hx] at z
     cases z
     have e:x=m:=by simpa using hx
     have e2:k=NameKind.cell:=by simpa using hk
     subst e e2
     exact .inl ⟨Nat.le_refl _,List.mem_cons_self⟩
    | false=>
     simp only [List.lookup_cons,hx] at z
     exact .inr z
  ·rcases g7 r n acc x c h with ⟨a,b⟩ | z
   ·exact .inl ⟨a,List.mem_cons_of_mem _ b⟩
   ·exact .inr z
theorem jx:∀ (names:List (Str × NameKind)) (n:Nat) (acc:List (Str × Addr)) (x:Str),(∃ c,acc.lookup x=some c)->∃ c,(cellsFrom n names acc).lookup x=some c
 | [],n,acc,x,h=>h
 | (m,k) :: r,n,acc,x,h=>by
  unfold cellsFrom
  split
  ·refine jx r (n + 1) _ x ?_
   cases hx:x == m with
   | true=>exact ⟨n,by simp only [List.lookup_cons,hx]⟩
   | false=>
    obtain ⟨c,h⟩:=h
    exact ⟨c,by simp only [List.lookup_cons,hx]; exact h⟩
  ·exact jx r n acc x h
theorem cf_has:∀ (names:List (Str × NameKind)) (n:Nat) (acc:List (Str × Addr)) (x:Str),(x,NameKind.cell) ∈ names->∃ c,(cellsFrom n names acc).lookup x=some c
 | [],n,acc,x,h=>absurd h (by simp)
 | (m,k) :: r,n,acc,x,h=>by
  unfold cellsFrom
  rcases List.mem_cons.mp h with e | e
  ·cases e
   rw [if_pos (by decide)]
   exact jx r (n + 1) _ m ⟨n,by simp [List.lookup_cons]⟩
  ·split
   ·exact cf_has r (n + 1) _ x e
   ·exact cf_has r n acc x e
theorem jy:∀ (names:List (Str × NameKind)) (n:Nat) (acc:List (Str × Addr)) (x:Str),(x,NameKind.cell) ∉ names->(cellsFrom n names acc).lookup x=acc.lookup x
 | [],n,acc,x,h=>rfl
 | (m,k) :: r,n,acc,x,h=>by
  have h':(x,NameKind.cell) ∉ r:=fun z=>h (List.mem_cons_of_mem _ z)
  unfold cellsFrom
  split
  ·rename_i hk
   rw [jy r (n + 1) _ x h']
   cases hx:x == m with
   | true=>
    have e:x=m:=by simpa using hx
    have e2:k=NameKind.cell:=by simpa using hk
    subst e e2
    exact absurd List.mem_cons_self h
   | false=>simp only [List.lookup_cons,hx]
  ·exact jy r n acc x h'
theorem cf_own:∀ (names:List (Str × NameKind)) (n:Nat) (acc:List (Str × Addr)) (x:Str) (c:Nat),((x,NameKind.cell) ∈ names\/∀ c:Nat,acc.lookup x=some c->n <= c)->(∀ c,acc.lookup x=some c->True)->(cellsFrom n names acc).lookup x=some c->(x,NameKind.cell) ∈ names->n <= c
 | [],n,acc,x,c,_,_,_,h=>absurd h (by simp)
 | (m,k) :: r,n,acc,x,c,h0,h1,h,hm=>by
  by_cases hr:(x,NameKind.cell) ∈ r
  ·unfold cellsFrom at h
   split at h
   ·have:=cf_own r (n + 1) _ x c (.inl hr) (fun _ _=>trivial) h hr
    omega
   ·exact cf_own r n acc x c (.inl hr) (fun _ _=>trivial) h hr
  ·have e:(x,NameKind.cell)=(m,k):=by
    rcases List.mem_cons.mp hm with z | z
    ·exact z
    ·exact absurd z hr
   cases e
   unfold cellsFrom at h
   rw [if_pos (by decide),jy r (n + 1) _ m hr] at h
   simp [List.lookup_cons] at h
   exact Nat.le_of_eq h
theorem cf_inj:∀ (names:List (Str × NameKind)) (n:Nat) (acc:List (Str × Addr)) (x y:Str) (c:Nat),(∀ (z:Str) (a:Nat),acc.lookup z=some a->a < n)->(cellsFrom n names acc).lookup x=some c->(cellsFrom n names acc).lookup y=some c->n <= c->x=y
 | [],n,acc,x,y,c,h,h1,h2,hc=>absurd (h x c h1) (by omega)
 | (m,k) :: r,n,acc,x,y,c,h,h1,h2,hc=>by
  unfold cellsFrom at h1 h2
  split at h1
  ·rename_i hk
   rw [if_pos hk] at h2
   by_cases hn:n + 1 <= c
   ·refine cf_inj r (n + 1) _ x y c (fun z a e=>?_) h1 h2 hn
    cases hz:z == m with
    | true=>
     simp only [List.lookup_cons,hz] at e
     cases e
     omega
    | false=>
     simp only [List.lookup_cons,hz] at e
     have:=h z a e
     omega
   ·have go:∀ z,(cellsFrom (n + 1) r ((m,n) :: acc)).lookup z=some c->z=m:=fun z e=>by
     rcases g7 r (n + 1) _ z c e with ⟨a,_⟩ | a
     ·omega
     ·cases hz:z == m with
      | true=>simpa using hz
      | false=>
       simp only [List.lookup_cons,hz] at a
       have:=h z c a
       omega
    rw [go x h1,go y h2]
  ·rename_i hk
   rw [if_neg hk] at h2
   exact cf_inj r n acc x y c h h1 h2 hc
theorem lZ:∀ (names:List (Str × NameKind)) (h:Heap) (acc:List (Str × Addr)) (x:Str) (c:Nat),(cellsFrom h.objs.size names acc).lookup x=some c->acc.lookup x=some c\/((pushCells h names).IsCell c none/\h.objs.size <= c)
 | [],h,acc,x,c,e=>.inl e
 | (m,k) :: r,h,acc,x,c,e=>by
  unfold cellsFrom at e
  unfold pushCells
  split at e
  ·rename_i hk
   rw [if_pos hk]
   have e':(cellsFrom (h.push { cls:=.type "cell",data:=.cell none }).objs.size r ((m,h.objs.size) :: acc)).lookup x=some c:=by rw [Heap.size_push]; exact e
   rcases lZ r (h.push { cls:=.type "cell",data:=.cell none }) _ x c e' with z | ⟨z,z2⟩
   ·cases hx:x == m with
    | true=>
     simp only [List.lookup_cons,hx] at z
     cases z
     exact .inr ⟨⟨_,pushCells_keeps r _ _ _ (Heap.get?_push_size _ rfl),rfl⟩,Nat.le_refl _⟩
    | false=>
     simp only [List.lookup_cons,hx] at z
     exact .inl z
   ·rw [Heap.size_push] at z2
    exact .inr ⟨z,by omega⟩
  ·rename_i hk
   rw [if_neg hk]
   exact lZ r h acc x c e
theorem newEnvC {M:Model} {A:Around} {E:Value->Shared->Prop} {s:Shared} {scope:Scope} {globals:Addr} {cl:List (Str × Addr)} {qual:Str} {env:Env} {Q:Env->Shared->Prop}
  (hQ:Q (newEnv scope s.heap.objs.size globals (cellsFrom (s.heap.objs.size + 1) scope.names cl) qual none .none (some env) builtinsNs) { s with heap:=pushCells (s.heap.push { cls:=.type "dict",data:=.dict #[] }) scope.names }) :
  wpAny M A (newFunctionEnv scope globals cl [] qual none .none (some env)) Q E s:=by
 simp only [newFunctionEnv,Option.isSome_some,if_true]
 refine wpAny_bind (wpAny_alloc ?_)
 refine wpAny_bind (wpAny_layCells _ (fun name kind cells=>by cases hkc:kind == NameKind.cell<;>simp [hkc]) _ _ _ _ ?_)
 rw [show ({ s with heap:=s.heap.push { cls:=.type "dict",data:=.dict #[] } }:Shared).heap.objs.size=s.heap.objs.size + 1 from Heap.size_push ..]
 rw [List.forIn_nil]
 exact wpAny_bind (wpAny_pure (wpAny_pure hQ))
def m9 (outer scope:Scope):Bool:=
 scope.kind == .function && outer.kind == .function && scope.names.all fun x=>(x.2 != .cell || scope.names.lookup x.1 == some .cell) && (x.2 != .local || scope.names.lookup x.1 == some .local) && (x.2 != .free || (outer.names.lookup x.1 == some .cell || outer.names.lookup x.1 == some .free))
structure CompFactsC (X:Cx) (scope:Scope):Prop where
 kind:scope.kind=.function
 own:∀ x ∈ scope.names,x.2=.cell->scope.names.lookup x.1=some .cell
 names:∀ x ∈ scope.names,x.2=.local->scope.names.lookup x.1=some .local
 free:∀ x ∈ scope.names,x.2=.free->X.env.kindOf x.1=some .cell\/X.env.kindOf x.1=some .free
theorem compFactsC {X:Cx} {scope:Scope} (h:m9 X.env.scope scope=true):CompFactsC X scope:=by
 unfold m9 at h
 simp only [Bool.and_eq_true,beq_iff_eq,List.all_eq_true,Bool.or_eq_true,bne_iff_ne] at h
 obtain ⟨⟨h1,_⟩,h2⟩:=h
 refine ⟨h1,fun x hx e=>?_,fun x hx e=>?_,fun x hx e=>?_⟩
 ·rcases (h2 x hx).1.1 with z | z
  ·exact absurd e z
  ·exact z
 ·rcases (h2 x hx).1.2 with z | z
  ·exact absurd e z
  ·exact z
 ·rcases (h2 x hx).2 with z | z
  ·exact absurd e z
  ·exact z
abbrev j7 (scope:Scope) (L:Addr) (env:Env):List (Str × Addr):=cellsFrom (L + 1) scope.names (cy env scope.names [])
def kK (X:Cx) (N:List Str) (scope:Scope) (s:Shared) (H:Hp) (ex:List Addr):Cx where
 prog:=X.prog
 w:=X.w
 K:=X.K
 mg:=X.mg
 base:=X.base
 A:=X.A
 N:=N
 s₀:=s
 H₀:=H
 env:=compEnvC scope (j7 scope s.heap.objs.size X.env) s.heap.objs.size X.env
 outer:=X.stack
 stack:=X.stack
 ex:=ex
 fn:=fun x=>scope.names.lookup x == some .cell
 calm:=X.calm
 pn:=[]
 xe:=fun _ _=>False
theorem CompFactsC.cells {X:Cx} {scope:Scope} (f:CompFactsC X scope) (ok:X.Ok):∀ x ∈ scope.names,x.2=.free->∃ c,X.env.cells.lookup x.1=some c:=fun x hx e=>ok.has x.1 (f.free x hx e)
theorem CompFactsC.cl {X:Cx} {scope:Scope} (f:CompFactsC X scope) (ok:X.Ok) {n:Str} {c:Addr} (h:(cy X.env scope.names []).lookup n=some c):X.env.cells.lookup n=some c:=by
 rcases cls_in _ _ _ _ (f.cells ok) h with z | z
 ·exact z
 ·cases z
theorem CompFactsC.kf {X:Cx} {scope:Scope} {x:Str} (h:(relabel scope X.env).names.lookup x=some .cell\/(relabel scope X.env).names.lookup x=some .free):scope.names.lookup x=some .free\/scope.names.lookup x=some .cell:=by
 unfold relabel at h
 simp only at h
 rw [cH] at h
 cases e:scope.names.lookup x with
 | none=>rw [e] at h; rcases h with z | z<;>cases z
 | some k=>
  rw [e] at h
  simp only [Option.map_some,Option.some.injEq] at h
  cases k with
  | free=>exact .inl rfl
  | cell=>exact .inr rfl
  | _=>simp at h
theorem CompFactsC.nofree {X:Cx} {scope:Scope} (f:CompFactsC X scope) {x:Str} (h:scope.names.lookup x=some .free):(x,NameKind.cell) ∉ scope.names:=fun z=>by
 have:=f.own _ z rfl
 simp only at this
 rw [h] at this
 cases this
section
variable {X:Cx} {pins:List (Addr × Obj)} {σ:St} {H:Hp} {s:Shared}
theorem CompFactsC.lk {scope:Scope} (f:CompFactsC X scope) (I:Inv X pins σ H s) {x:Str} {c:Nat} (h:(j7 scope s.heap.objs.size X.env).lookup x=some c):(X.env.cells.lookup x=some c/\c < s.heap.objs.size)\/s.heap.objs.size < c:=by
 rcases g7 _ _ _ _ _ h with ⟨a,_⟩ | z
 ·exact .inr a
 ·have z':=f.cl I.ok z
  obtain ⟨v,o,ho,_⟩:=I.cell x c z'
  exact .inl ⟨z',Heap.lt_size ho⟩
theorem comp_startC {N:List Str} {src:List (Option Nat)} {scope:Scope} {ex:List Addr} {h1:Heap} {m:Str->Option Value} {tk:Nat} (I:Inv X pins σ H s) (f:CompFactsC X scope) (hsrc:ij X.N N src scope=true)
  (hex:∀ b ∈ ex,b < s.heap.objs.size/\b ≠ X.env.locals/\b ∉ X.fs/\(∀ x c,X.env.cells.lookup x=some c->c ≠ b)/\∀ o,X.base.get? b ≠ some o)
  (hn:h1.Ns s.heap.objs.size m) (hk:∀ b o,s.heap.get? b=some o->h1.get? b=some o) (hcl:∀ (x:Str) (c:Nat),(j7 scope s.heap.objs.size X.env).lookup x=some c->s.heap.objs.size < c->∃ v,h1.IsCell c v) :
  Inv (kK X N scope s H ex) [] (bW src σ) H { s with heap:=h1,toks:=tk }:=by
 obtain ⟨hlen,hix⟩:=srcOk_ix hsrc
 have ok:=I.ok
 have fsL:∀ b ∈ frs X.stack,b ∈ X.env.locals :: X.fs:=I.stkSub
 have clLt:∀ (z:Str) (a:Nat),(cy X.env scope.names []).lookup z=some a->a < s.heap.objs.size + 1:=fun z a e=>by
  obtain ⟨v,o,ho,_⟩:=I.cell z a (f.cl ok e)
  exact Nat.lt_succ_of_lt (Heap.lt_size ho)
 refine ⟨⟨ok.mod,f.kind,ok.glob,ok.blt,Nat.le_refl _,fun x y c h1 h2=>?_,fun x hx=>?_,fun x c hx e=>?_,ok.hd,ok.frames,.inl rfl,fun b hb=>⟨Nat.ne_of_lt (hex b hb).1,fun x c e=>?_⟩,I.bs,Nat.le_trans ok.bsz I.sz,fun b o e hb=>(hex b hb).2.2.2.2 o e,fun b hb hb'=>?_,I.stack,I.stkFree⟩,
  rfl,I.bare,Un.kept hk,⟨m,hn,fun i x v e1 e2 e3=>?_⟩,fun x c e=>?_,I.hok.fresh (Nat.le_refl _),fun x c e=>?_,fun p hp=>absurd (show p ∈ ([]:List (Addr × Obj)) from hp) (by simp),I.hok.kept hk,?_⟩
 ·rcases f.lk I h1 with ⟨a,a'⟩ | a
  ·rcases f.lk I h2 with ⟨b,_⟩ | b
   ·exact ok.inj x y c a b
   ·exact absurd b (Nat.lt_asymm a')
  ·exact cf_inj _ _ _ _ _ _ clLt h1 h2 a
 ·rcases CompFactsC.kf hx with z | z
  ·exact jx _ _ _ _ (ii _ _ _ (PySem.mem_of_lookup z))
  ·exact cf_has _ _ _ _ (PySem.mem_of_lookup z)
 ·have hx':scope.names.lookup x=some .cell:=by simpa [kK] using hx
  have:=cf_own _ _ _ _ _ (.inl (PySem.mem_of_lookup hx')) (fun _ _=>trivial) e (PySem.mem_of_lookup hx')
  exact Nat.le_of_succ_le this
 ·rcases f.lk I e with ⟨a,_⟩ | a
  ·exact (hex b hb).2.2.2.1 x c a
  ·exact fun z=>absurd (hex b hb).1 (Nat.lt_asymm (z ▸ a))
 ·rcases List.mem_cons.mp (fsL b hb') with z | z
  ·exact (hex b hb).2.1 z
  ·exact (hex b hb).2.2.1 z
 ·have e2':(bW src σ)[i]? = some (some v):=e2
  unfold bW at e2'
  rw [List.getElem?_map] at e2'
  cases hs:src[i]? with
  | none=>rw [hs] at e2'; cases e2'
  | some o=>
   rw [hs] at e2'
   cases o with
   | none=>cases e2'
   | some j=>
    obtain ⟨q1,q2⟩:=hix i x j e1 hs
    have e4:σ[j]? = some (some v):=by
     simp only [Option.map_some,Option.bind_some,Option.some.injEq] at e2'
     cases z:σ[j]? with
     | none=>rw [z] at e2'; cases e2'
     | some o=>rw [z] at e2'; simp only [Option.join_some] at e2'; rw [e2']
    have kx:=f.free (x,.free) (PySem.mem_of_lookup q2) rfl
    obtain ⟨mX,hnX,hl⟩:=I.loc
    obtain ⟨u,r,l⟩:=hl j x v q1 e4 (by rcases kx with z | z; exact .inr (.inl z); exact .inr (.inr z))
    refine ⟨u,r,.inr ⟨CompFacts.fk (X:=X) q2,?_⟩⟩
    rcases l with ⟨l,_⟩ | ⟨_,c,ec,ic⟩
    ·rcases kx with z | z
     ·rw [z] at l; cases l
     ·rw [z] at l; cases l
    ·obtain ⟨c',hc'⟩:=ii (env:=X.env) scope.names [] x (PySem.mem_of_lookup q2)
     have z:=f.cl ok hc'
     rw [ec] at z
     cases z
     obtain ⟨oc,ho,hd⟩:=ic
     refine ⟨c,?_,oc,hk c oc ho,hd⟩
     show (j7 scope s.heap.objs.size X.env).lookup x=some c
     rw [jy _ _ _ _ (f.nofree q2)]
     exact hc'
 ·rcases f.lk I e with ⟨a,_⟩ | a
  ·obtain ⟨v,o,ho,hd⟩:=I.cell x c a
   exact ⟨v,o,hk c o ho,hd⟩
  ·exact hcl x c e a
 ·rcases f.lk I e with ⟨a,_⟩ | a
  ·exact I.freeC x c a
  ·exact I.hok.fresh (Nat.le_of_lt a)
 ·show (bW src σ).length=N.length
  unfold bW
  rw [List.length_map]
  exact hlen
theorem comp_runC {elt tg iter:Expr} {ifs:List Expr} {scope:Scope} {pos:Pos} {N:List Str} {src:List (Option Nat)} {g:TG} {tt:TT} {te:TE} (use:Option (Value->Sem Unit)) (PQ:Value->Shared->Prop) (E:Value->Shared->Prop)
  (hcalm:X.calm=true) (f:CompFactsC X scope) (hsrc:ij X.N N src scope=true)
  (hb:∀ (s:Shared) (H:Hp) (ex:List Addr),PG (kK X N scope s H ex) tg g/\PIf (kK X N scope s H ex) ifs tt/\PE (kK X N scope s H ex) elt te)
  {it:Addr} {fp:List Addr} {tn:Nat->Heap->Prop} {J:It} (I:Inv X pins σ H s) (T:m7 X.prog X.w X.K tg J fp it tn) (st:tn 0 s.heap) (hf:∀ b ∈ fp,eM X pins H b) {Q:VK}
  (h:cT J src g tt te σ H Q)
  (hfin:∀ (acc C:Addr) (s':Shared) (H':Hp) (m:Str->Option Value),s'.heap.Ns C m->eM X pins H' C->(∀ h',Heap.SameBut C s'.heap h'->Inv X pins σ H' { s' with heap:=h' })->Q (.ref acc) H'->compPost (model X.prog X.w) X.A E use PQ (.ref acc) C (.ok .next) s') :
  wpAny (model X.prog X.w) X.A (newList []) (fun acc s₃=>
   wpAny (model X.prog X.w) X.A (newFunctionEnv scope X.env.globals (cy X.env scope.names []) [] X.env.qual none .none (some X.env)) (fun cenv s₄=>
    codeAny (model X.prog X.w) X.A (.compStart (.ListComp elt [⟨tg,iter,ifs,0⟩] scope pos) 0 (.ref it) acc { cenv with scope:=relabel scope X.env }) (compPost (model X.prog X.w) X.A E use PQ acc cenv.locals) s₄) E s₃) E s:=by
 have ok:=I.ok
 have I3:Inv X pins σ (upd H s.heap.objs.size (.lst [])) { s with heap:=s.heap.push { cls:=.type "list",data:=.seq ([]:List Value).toArray },toks:=s.toks }:=I.lnew (ys:=[]) (its:=[]) .nil (Nat.zero_le _)
 obtain ⟨W,⟨m0,w0⟩,turn⟩:=h s.heap.objs.size (I.hok.fresh (Nat.le_refl _))
 refine wpAny_newObj_type (newEnvC ?_)
 dsimp only
 generalize hs3:({ s with heap:=s.heap.push { cls:=.type "list",data:=.seq ([]:List Value).toArray },toks:=s.toks }:Shared)=s3 at I3
 have e3:s3.heap=s.heap.push { cls:=.type "list",data:=.seq ([]:List Value).toArray }:=by rw [<- hs3]
 rw [<- e3]
 have hk:∀ b o,s3.heap.get? b=some o->(pushCells (s3.heap.push { cls:=.type "dict",data:=.dict #[] }) scope.names).get? b=some o:=fun b o e=>pushCells_keeps _ _ b o (Heap.get?_push_of_some _ e)
 have hns₁':(pushCells (s3.heap.push { cls:=.type "dict",data:=.dict #[] }) scope.names).Ns s3.heap.objs.size (fun _=>none):=(Heap.Ns.new s3.heap (.type "dict")).keeps (pushCells_keeps _ _)
 have hcl:∀ (x:Str) (c:Nat),(j7 scope s3.heap.objs.size X.env).lookup x=some c->s3.heap.objs.size < c->∃ v,(pushCells (s3.heap.push { cls:=.type "dict",data:=.dict #[] }) scope.names).IsCell c v:=fun x c e hc=>by
  have e':(cellsFrom (s3.heap.push { cls:=.type "dict",data:=.dict #[] }).objs.size scope.names (cy X.env scope.names [])).lookup x=some c:=by rw [Heap.size_push]; exact e
  rcases lZ _ _ _ _ _ e' with z | z
  ·obtain ⟨v,o,ho,_⟩:=I3.cell x c (f.cl ok z)
   exact absurd (Heap.lt_size ho) (Nat.lt_asymm hc)
  ·exact ⟨none,z.1⟩
 generalize pushCells (s3.heap.push { cls:=.type "dict",data:=.dict #[] }) scope.names=h₁ at *
 have up3:∀ b o,s.heap.get? b=some o->s3.heap.get? b=some o:=fun b o e=>by rw [e3]; exact Heap.get?_push_of_some _ e
 have nacc:∀ b ∈ fp,b ≠ s.heap.objs.size:=fun b hb z=>by
  obtain ⟨o,e,_⟩:=T.obj 0 _ st b hb
  exact absurd (Heap.lt_size e) (by rw [z]; exact Nat.lt_irrefl _)
 have hex:∀ b ∈ fp,b < s3.heap.objs.size/\b ≠ X.env.locals/\b ∉ X.fs/\(∀ x c,X.env.cells.lookup x=some c->c ≠ b)/\∀ o,X.base.get? b ≠ some o:=fun b hb=>by
  obtain ⟨o,e,_⟩:=T.obj 0 _ st b hb
  obtain ⟨f0,f1,f2,f3,f4,f5⟩:=hf b hb
  refine ⟨Heap.lt_size (up3 b o e),f1,f2,f4,fun o' z=>?_⟩
  rcases f3 with q | q
  ·exact ok.noex b o' z q
  ·exact absurd (Nat.lt_of_lt_of_le (Heap.lt_size (ok.bs b o' z).1) q) (Nat.lt_irrefl _)
 have IY0:Inv (kK X N scope s3 (upd H s.heap.objs.size (.lst [])) fp) [] (bW src σ) (upd H s.heap.objs.size (.lst [])) { s3 with heap:=h₁,toks:=s.toks }:=
  comp_startC (tk:=s.toks) I3 f hsrc hex hns₁' hk hcl
 generalize hY:kK X N scope s3 (upd H s.heap.objs.size (.lst [])) fp=Y at IY0
 have hb':PG Y tg g/\PIf Y ifs tt/\PE Y elt te:=by rw [<- hY]; exact hb s3 _ fp
 obtain ⟨hg,ht,he⟩:=hb'
 have Yp:Y.prog=X.prog:=by rw [<- hY]; rfl
 have Yw:Y.w=X.w:=by rw [<- hY]; rfl
 have YK:Y.K=X.K:=by rw [<- hY]; rfl
 have YA:Y.A=X.A:=by rw [<- hY]; rfl
 have Yc:Y.calm=true:=by rw [<- hY]; exact hcalm
 have Yx:Y.xe=fun _ _=>False:=by rw [<- hY]; rfl
 have Ye:Y.env=compEnvC scope (j7 scope s3.heap.objs.size X.env) s3.heap.objs.size X.env:=by rw [<- hY]; rfl
 have Ys:Y.s₀=s3:=by rw [<- hY]; rfl
 have YH:Y.H₀=upd H s.heap.objs.size (.lst []):=by rw [<- hY]; rfl
 have Yf:Y.fs=frs X.stack:=by rw [<- hY]; rfl
 have Yex:Y.ex=fp:=by rw [<- hY]; rfl
 have Ypn:Y.pn=[]:=by rw [<- hY]; rfl
 have stat:∀ {H':Hp},(∀ b ∈ fp,H' b=none)->∀ b ∈ fp,eM Y [] H' b:=fun {H'} hn b hb=>by
  obtain ⟨x1,x2,x3,x4,x5⟩:=hex b hb
  refine ⟨hn b hb,?_,?_,.inl (by rw [Yex]; exact hb),?_,fun p hp=>?_⟩
  ·rw [Ye]; exact Nat.ne_of_lt x1
  ·rw [Yf]
   intro z
   rcases List.mem_cons.mp (I.stkSub b z) with q | q
   ·exact x2 q
   ·exact x3 q
  ·rw [Ye]
   intro x c e
   rcases f.lk I3 e with ⟨a,_⟩ | a
   ·exact x4 x c a
   ·exact fun z=>absurd x1 (Nat.lt_asymm (z ▸ a))
  ·rw [Ypn] at hp
   exact absurd hp (by simp)
 have loop:∀ s4:Shared,s4=({ s3 with heap:=h₁,toks:=s.toks }:Shared)->
   codeAny (model X.prog X.w) X.A (.compLoop (.ListComp elt [⟨tg,iter,ifs,0⟩] scope pos) 0 (.ref it) (.ref s.heap.objs.size) (compEnvC scope (j7 scope s3.heap.objs.size X.env) s3.heap.objs.size X.env))
    (compPost (model X.prog X.w) X.A E use PQ (.ref s.heap.objs.size) s3.heap.objs.size) s4:=by
  rintro s4 rfl
  refine io (fun n s'=>∃ i σ' H',Inv Y [] σ' H' s'/\tn i s'.heap/\(∀ b ∈ fp,H' b=none)/\W i n σ' H') ?_ m0
   ⟨0,bW src σ,_,IY0,T.keep 0 _ _ st fun b hb o e=>hk b o (up3 b o e),fun b hb=>by rw [ao (nacc b hb)]; exact (hf b hb).1,w0⟩
  rintro n s5 ⟨i,σ5,H5,I5,st5,fr5,w5⟩
  rcases turn i n σ5 H5 w5 with ⟨stop,qn⟩ | ⟨go,Nn,hNn,step⟩
  ·have q:=T.done Y Yp Yw YK Yc i [] s5 σ5 H5 (fun _ _=>False) I5 (stat fr5) st5 stop
   rw [YA] at q
   refine thn q fun r s6 ⟨hr,I6⟩=>?_
   subst hr
   obtain ⟨m6,hn6,_⟩:=id I6.loc
   have eL:Y.env.locals=s3.heap.objs.size:=by rw [Ye]; rfl
   rw [eL] at hn6
   refine hfin s.heap.objs.size s3.heap.objs.size s6 H5 m6 hn6 (I3.fpOk (Nat.le_refl _) (by have z:=I6.free; rw [eL] at z; exact z)) (fun h' sb=>?_) qn
   ·have b6:=I6.base
    rw [Ys,YH,Yf,Yex] at b6
    have ne:∀ b o,s3.heap.get? b=some o->b ≠ s3.heap.objs.size:=fun b o e=>Nat.ne_of_lt (Heap.lt_size e)
    have u6:Un (frs X.stack) fp (upd H s.heap.objs.size (.lst [])) H5 s3.heap h':=
     ⟨fun b o e n hb hx=>(sb.2 b (ne b o e)).trans (b6.keep b o e n hb hx),fun b o e n hb hx=>by
       obtain ⟨sl,z⟩:=b6.slot b o e n hb hx
       exact ⟨sl,(sb.2 b (ne b o e)).trans z⟩,b6.free,fun b o e hx=>by
       obtain ⟨o',z⟩:=b6.there b o e hx
       exact ⟨o',(sb.2 b (ne b o e)).trans z⟩,b6.tups,b6.frzs,b6.tbls⟩
    have fL:H5 s3.heap.objs.size=none:=by
     have z:=I6.free
     rw [eL] at z
     exact z
    have hok6:HOk X.prog X.w H5 h':=by
     have z:=I6.hok
     rw [Yp,Yw] at z
     intro b ob e
     refine (z b ob e).stay (fun c w' hc q=>(sb.2 c ?_).trans q) (fun _ q=>q) fun _ _ q=>q
     rintro rfl
     rcases hc with rfl | hc
     ·rw [fL] at e; cases e
     ·rw [fL] at hc; cases hc
    have os6:s6.os=s3.os:=by
     have z:=I6.os
     rw [Ys] at z
     exact z
    refine Inv.call' (s':={ s6 with heap:=h' }) I3 os6 u6 hok6 I6.bare fun b hb=>?_
    obtain ⟨f0,f1,f2,f3,f4,f5⟩:=hf b hb
    exact ⟨f3,f1,f4,f5⟩
  ·have q:=T.item Y Yp Yw YK Yc i [] s5 σ5 H5 (fun _ _=>False) I5 (stat fr5) st5 go
   rw [YA] at q
   refine thn q fun r s6 ⟨u,hr,h6⟩=>?_
   subst hr
   refine thn h6 fun _ s7 ⟨x,H7,I7,r7,y7,st7,fr7⟩=>?_
   have I7':=I7.pinned (stat fr7) (T.obj _ _ st7)
   have back:∀ {σ9:St} {H9:Hp} {s9:Shared},Inv Y ([] ++ iX fp s7.heap) σ9 H9 s9->tn (i + 1) s9.heap/\∀ b ∈ fp,H9 b=none:=fun {σ9 H9 s9} I9=>
    ⟨T.keep _ _ _ st7 fun b hb o e=>(I9.pin (b,o) (List.mem_append_right _ (List.mem_append_right _ (cN hb e)))).1,fun b hb=>by
     obtain ⟨o,e,d⟩:=T.obj _ _ st7 b hb
     exact (I9.pin (b,o) (List.mem_append_right _ (List.mem_append_right _ (cN hb e)))).2.1⟩
   have g1:=hg _ s7 σ5 H7 x u _ I7' r7 (step x H7 y7)
   rw [YA,Yx,Yp,Yw,Ye] at g1
   refine thn g1 fun _ s8 ⟨σ8,H8,I8,q8⟩=>?_
   have g2:=ht _ s8 σ8 H8 _ I8 q8
   rw [YA,Yx,Yp,Yw,Ye] at g2
   refine thn g2 fun b s9 ⟨H9,I9,q9⟩=>?_
   cases b with
   | false=>
    simp only [Bool.false_eq_true,if_false] at q9 ⊢
    obtain ⟨m',hm,w9⟩:=hNn _ _ q9
    exact ⟨m',hm,i + 1,σ8,H9,I9.unpinned,(back I9).1,(back I9).2,w9⟩
   | true=>
    simp only [if_true] at q9 ⊢
    have g3:=he _ s9 σ8 H9 _ I9 q9
    rw [YA,Yx,Yp,Yw,Ye] at g3
    refine thn g3 fun yv s10 ⟨y,H10,I10,r10,ys,hys,hz,n10⟩=>?_
    obtain ⟨m',hm,w10⟩:=hNn _ _ n10
    have g4:=cQ (X:=Y) _ s10 σ8 H10 (.ref s.heap.objs.size) [y] (.ref s.heap.objs.size) [yv] (fun _ H11=>H11=upd H10 s.heap.objs.size (.lst (ys ++ [y]))) I10 rfl (.cons r10 .nil) ⟨_,ys,y,rfl,rfl,hys,hz,rfl⟩
    rw [YA,Yx,Yp,Yw] at g4
    refine thn g4 fun _ s11 ⟨_,H11,I11,_,e11⟩=>?_
    subst e11
    exact ⟨m',hm,i + 1,σ8,_,I11.unpinned,(back I11).1,(back I11).2,w10⟩
 have q:=loop _ rfl
 have eqs:({ s3 with heap:=h₁,toks:=s.toks }:Shared)={ s with heap:=h₁,toks:=s.toks }:=by rw [<- hs3]
 rw [eqs] at q
 have stn:tn 0 h₁:=T.keep 0 _ _ st fun b hb o e=>hk b o (up3 b o e)
 exact codeAny_compStart_list q (T.self X.A 0 _ _ _ stn q)
theorem pe_compC {elt tg iter:Expr} {ifs:List Expr} {scope:Scope} {pos:Pos} {N:List Str} {src:List (Option Nat)} {wi:TI} {g:TG} {tt:TT} {te:TE}
  (hcalm:X.calm=true) (hsc:m9 X.env.scope scope=true) (hsrc:ij X.N N src scope=true) (hi:PI X tg iter wi)
  (hb:∀ (s:Shared) (H:Hp) (ex:List Addr),PG (kK X N scope s H ex) tg g/\PIf (kK X N scope s H ex) ifs tt/\PE (kK X N scope s H ex) elt te)
  (hs:∀ x,foldedSetIterable iter X.env x=pure x:=by intro _; rfl) :
  PE X (.ListComp elt [⟨tg,iter,ifs,0⟩] scope pos) (tComp src wi g tt te):=by
 intro pins s σ H Q I h
 have f:=compFactsC hsc
 rw [eval_ListComp]
 refine wpAny_comprehension_free (use:=none) rfl hs (gM (f.cells I.ok)) f.kind f.names (thn (hi pins s σ H _ I h) fun v s1 h1=>thn h1 fun itv s2 h2=>?_)
 obtain ⟨it,fp,tn,J,H2,rfl,I2,T,st2,f2,q2⟩:=h2
 refine comp_runC (N:=N) (src:=src) none (EP X pins σ Q) X.xe hcalm f hsrc hb I2 T st2 f2 q2 ?_
 intro acc C s' H' m hn _ hI hq
 exact ⟨m,hn,fun h' sb=>⟨.ref acc,H',hI h' sb,rfl,hq⟩⟩
end
end L2
namespace L2
open PySem PySem.Spec PyProof.Rows
theorem Room.m {j k:Nat} {A:Around} (r:Room k A) (h:j <= k:=by first | decide | exact Nat.le_refl _):Room j A:=r.mono h
theorem FnScope.i {N P:List Str} {sc:Scope} (a:sc.kind=.function:=by rfl) (b:sc.isCoroutine=false:=by rfl) (c:sc.isGenerator=false:=by rfl) (d:N.Nodup:=by decide +kernel) (e:N.take P.length=P:=by rfl)
  (f:∀ x ∈ P,sc.names.lookup x=some .local\/sc.names.lookup x=some .cell:=by decide +kernel) (g:∀ y ∈ sc.names,y.2 ≠ .free:=by decide +kernel):FnScope N P sc:=⟨a,b,c,d,e,f,g⟩
def AllA:Nat->(List Value->Prop)->Prop
 | 0,p=>p []
 | n + 1,p=>∀ v,AllA n fun r=>p (v :: r)
theorem AllA.all:∀ {n:Nat} {p:List Value->Prop},AllA n p->∀ us:List Value,us.length=n->p us
 | 0,_,h,[],_=>h
 | _ + 1,_,h,v :: r,e=>AllA.all (h v) r (Nat.succ.inj e)
def DefIn (K:Frag) (n:Str) (st:Stmt):Prop:=∃ f fd,nsIn K mainGlobals n=some (some (.ref f))/\Fun K n n st f fd
theorem DefIn.mk {K:Frag} {n:Str} {st:Stmt} {f:Addr} {oc:Value} {od an:Option Addr} {osl:Array (Option Value)} {kV doc pm cdv ct:Value} (a:nsIn K mainGlobals n=some (some (.ref f))) (l:K.lookup f=some ⟨oc,od,.func (fnOf n n (bd st) (aT st) (al st) .none kV doc pm an cdv ct),osl⟩)
  (c:codeIn K cdv n=true) (k:keepIn K (.ref f)=true):DefIn K n st:=⟨f,_,a,gL l c k⟩
section
variable {P:Program} {w:World} {K:Frag} {mg:Str->Option Value} {base h:Heap} {n:Str} {st:Stmt} {k:Nat} {sp:Sp} {ps:List Str}
def BindsOk (n:Str) (st:Stmt) (ps:List Str):Prop:=∀ (kV doc pm:Value) (an:Option Addr) (cdv ct:Value),AllA ps.length fun us=>bindArgs (fnOf n n (bd st) (aT st) (al st) .none kV doc pm an cdv ct) ⟨us,[]⟩=pure (ps.zip us)
theorem BindsOk.b (h:BindsOk n st ps) {f:Addr} {fd:FuncData} (F:Fun K n n st f fd):Binds K fd ps []:=F.binds fun a b c d e g=>(h a b c d e g).all
theorem DefIn.fb (X:K.In h) (G:h.Ns mainGlobals mg) (d:DefIn K n st) (o:∀ {f fd},Fun K n n st f fd->aI P w K mg base CX0 k f fd ps sp) (b:BindsOk n st ps:=by (repeat intro _); rfl):FnB P w K mg base k n sp:=
 let ⟨f,fd,a,F⟩:=d
 ⟨f,fd,ps,o F,mg_of X G a,F.kp,b.b F⟩
theorem DefIn.fx (X:K.In h) (G:h.Ns mainGlobals mg) (d:DefIn K n st) (o:∀ {f fd},Fun K n n st f fd->aI P w K mg base (CXE P w) k f fd ps sp) (b:BindsOk n st ps:=by (repeat intro _); rfl):FnBX P w K mg base k n sp:=
 let ⟨f,fd,a,F⟩:=d
 ⟨f,fd,ps,o F,mg_of X G a,F.kp,b.b F⟩
theorem DefIn.law {fa:Addr} {x:Str} (X:K.In h) (G:h.Ns mainGlobals mg) (d:DefIn K n st) (e:mg n=some (.ref fa))
  (o:∀ {fd} {base:Heap},Fun K n n st fa fd->K.In base->base.Ns mainGlobals mg->aI P w K mg base CX0 k fa fd ps sp) (b:BindsOk n st [x]:=by (repeat intro _); rfl) :
  ∃ fd:FuncData,(∀ (s:Shared) (v:Value),BindsTo s fd ⟨[v],[]⟩ [(x,v)])/\∀ base:Heap,K.In base->base.Ns mainGlobals mg->aI P w K mg base CX0 k fa fd ps sp:=by
 obtain ⟨f,fd,a,F⟩:=d
 cases e.symm.trans (mg_of X G a)
 obtain ⟨oc,od,kV,doc,pm,an,cdv,ct,osl,rfl,lk,hcd⟩:=id F.ex
 exact ⟨_,fun s v=>.of_eq (b kV doc pm an cdv ct v),fun base=>o F⟩
end
@[irreducible] def QE:=PE
@[irreducible] def QA:=PA
@[irreducible] def QS:=PS
@[irreducible] def QSs:=PSs
theorem qE:PE=QE:=by unfold QE; rfl
theorem qA:PA=QA:=by unfold QA; rfl
theorem qS:PS=QS:=by unfold QS; rfl
theorem qSs:PSs=QSs:=by unfold QSs; rfl
theorem uSs {X:Cx} {st:List Stmt} {t:TS} (h:QSs X st t):PSs X st t:=qSs ▸ h
def eP:=qE ▸ @aZ
def hX:=qE ▸ @bo
def qkpl_list:=qE ▸ @kpl_list
def kB:=qE ▸ @f6
def cS:=qE ▸ @bQ
def j5:=qE ▸ @bj
def bB:=qE ▸ @ae
def eR:=qE ▸ @aE
def js:=qE ▸ @gU
def bP:=qE ▸ @au
def bV:=qE ▸ @jE
def qpe_str:=qE ▸ @mz
def cD:=qE ▸ @l6
def dE:=qE ▸ @az
def lU:=qE ▸ @aW
def qpv:=qE ▸ @pv
def aj:=qE ▸ qA ▸ @aa
def qpl_max:=qE ▸ qA ▸ @pl_max
def qpl_min:=qE ▸ qA ▸ @pl_min
def bc:=qE ▸ qA ▸ @aw
def qpe_fnX:=qE ▸ qA ▸ @pe_fnX
def aU:=qE ▸ qA ▸ @bb
def gf:=qE ▸ qA ▸ @bM
def ay:=qA ▸ @af
def qpi_range2:=qA ▸ @lB
def qps_asg:=qE ▸ qS ▸ @fA
def dU:=qE ▸ qS ▸ @aq
def cg:=qE ▸ qS ▸ @aA
def qps_setc:=qE ▸ qS ▸ @mM
def qps_for:=qS ▸ qSs ▸ @dh
def iP:=qS ▸ qSs ▸ @aJ
def aN:=qS ▸ qSs ▸ @ag
def cf:=qS ▸ qSs ▸ @ak
def eG:=qSs ▸ @aB
end L2
set_option exponentiation.threshold 5000
namespace K
open PySem L2 PyProof.Rows
def top (i:Nat):Stmt:=PySem.Challenge.pw_relationladder_k15_rows_known.main.body.getD i (.Pass ⟨0,0,0,0⟩)
abbrev cG:Stmt:=top 6
abbrev iS:Stmt:=top 7
abbrev aR:Stmt:=inClass (top 12) 1
abbrev aL:Stmt:=inClass (top 12) 2
abbrev bp:Stmt:=inClass (top 13) 0
abbrev bh:Stmt:=inClass (top 13) 2
abbrev bn:Stmt:=inClass (top 13) 3
abbrev gX:Stmt:=top 14
abbrev cw:Stmt:=top 15
abbrev i3:Stmt:=top 16
abbrev eU:Stmt:=top 18
abbrev jR:Stmt:=top 19
abbrev jQ:Stmt:=top 20
abbrev gw:Stmt:=top 21
abbrev bu:Stmt:=inClass (top 24) 0
abbrev bF:Stmt:=inClass (top 24) 1
abbrev bE:Stmt:=inClass (top 24) 2
abbrev kA:Stmt:=top 25
abbrev iR:Stmt:=top 26
abbrev gS:Stmt:=top 27
abbrev mD:Stmt:=top 28
abbrev jH:Stmt:=top 30
abbrev gG:Stmt:=top 31
abbrev dC:Stmt:=top 32
abbrev fV:Stmt:=top 33
abbrev ff:Stmt:=top 35
abbrev fS:Stmt:=top 36
abbrev gW:Stmt:=top 37
abbrev fI:Stmt:=top 38
abbrev eZ:Stmt:=top 39
abbrev eC:Stmt:=top 40
abbrev e7:Stmt:=top 41
abbrev gO:Stmt:=top 42
abbrev dn:Stmt:=top 43
abbrev fh:Stmt:=top 44
abbrev dD:Stmt:=top 45
abbrev fz:Stmt:=top 46
abbrev eW:Stmt:=top 47
abbrev eA:Stmt:=top 48
abbrev fJ:Stmt:=top 49
abbrev cV:Stmt:=top 50
abbrev dA:Stmt:=top 51
abbrev gP:Stmt:=top 52
abbrev gE:Stmt:=top 53
abbrev cL:Stmt:=top 54
abbrev eV:Stmt:=top 55
abbrev fO:Stmt:=top 56
abbrev cJ:Stmt:=top 57
abbrev cK:Stmt:=top 58
abbrev dH:Stmt:=top 59
abbrev eS:Stmt:=top 60
abbrev dm:Stmt:=top 61
abbrev cm:Stmt:=top 62
abbrev dj:Stmt:=top 63
abbrev di:Stmt:=top 64
abbrev cB:Stmt:=top 65
abbrev fG:Stmt:=top 66
abbrev eB:Stmt:=top 67
abbrev s_law:Stmt:=top 68
theorem nd_0:(["_law_part", "_law_number_here"]:List Str).Nodup:=by decide +kernel
theorem nd_1:(["_law_product_here", "_law_come", "_law_prime_here"]:List Str).Nodup:=by decide +kernel
theorem nd_2:(["often"]:List Str).Nodup:=by decide +kernel
theorem aC {j:Int} (h:0 <= j) (h2:j < 2 ^ 63):j.natAbs < 2 ^ 4000:=by
 have h3:j.natAbs < 2 ^ 63:=by omega
 exact Nat.lt_of_lt_of_le h3 (Nat.pow_le_pow_right (by decide) (by decide))
theorem fK {i j:Int} (h:0 < j) (h2:j < 2 ^ 63):CDivA i j:=⟨by omega,aC (by omega) h2⟩
theorem at_int (ns:List Int) {k:Int} (h0:0 <= k) (h1:k < ns.length):∃ z,atI (ns.map V.int) k=some (V.int z):=by
 obtain ⟨n,rfl⟩:=Int.eq_ofNat_of_zero_le h0
 have hn:n < ns.length:=by omega
 exact ⟨ns[n],bN (by rw [List.getElem?_map,List.getElem?_eq_getElem hn]; rfl)⟩
def spCell (K:Frag):Sp:=fun vs H Q _=>∃ (a:Addr) (ns:List Int) (k:Int),vs=[.ref a,.int k]/\SqL K H a (ns.map V.int)/\ns.length <= 63/\0 <= k/\k <= 100/\∀ r:Int,Q (.int r) H
def gv (a b:Int):Int:=(a * 48271 + 7919 * b * b + 17) % 2147483647
def BagOk (a b:Int) (k:Nat):Prop:=b=0\/(0 <= a/\a < 2147483647/\0 < b/\b <= k)
def spBag (K:Frag):Sp:=fun vs H Q _=>∃ (a:Addr) (ns:List Int) (k:Int),vs=[.ref a,.int k]/\SqL K H a (ns.map V.int)/\ns.length <= 63/\0 <= k/\k <= 99/\
 ∀ (p:Addr) (a b:Int),H p=none->BagOk a b 100->Q (.ref p) (upd H p (.lst [.int a,.int b]))
def cF:Sp:=fun vs H Q _=>∃ (p:Addr) (a b m:Int) (k:Nat),vs=[.ref p,.int m]/\H p=some (.lst [.int a,.int b])/\BagOk a b k/\k <= 1000000/\0 < m/\m.natAbs < 2 ^ 4000/\
 ∀ r a' b',0 <= r->r < m->BagOk a' b' (k + 1)->Q (.int r) (upd H p (.lst [.int a',.int b']))
section
variable {P:Program} {w:World} {K:Frag} {mg:Str->Option Value} {base:Heap}
theorem sc__law_cell:FnScope ["_law_script", "_law_k", "_law_seed", "_law_some"] ["_law_script", "_law_k"] (al fS):=.i
theorem ok_cell {f:Addr} {fd:FuncData} (F:Fun K "_law_cell" "_law_cell" fS f fd) (T:Blt mg):aI P w K mg base CX0 1 f fd ["_law_script", "_law_k"] (spCell K):=by
 refine F.ok sc__law_cell (fun vs H Q E h=>?_) (fun cdv A outer s H vs Q E hr h=>?_)
 ·obtain ⟨a,ns,k,rfl,_⟩:=h
  rfl
 ·obtain ⟨a,ns,k,rfl,hS,hl,hk0,hk1,q⟩:=h
  have hln:((ns.map V.int).length:Int)=ns.length:=by rw [List.length_map]
  refine ⟨_,(ag (aJ (az ib (pv 1) (bo K T (pv 0)) (ar _))
(ak (aq (aE (aD K rfl) (pv 0) (pv 1) (fun _ _=>rfl))))
aB)
(ag (aA (i:=2) sc__law_cell.nd rfl (Or.inl rfl) (au bC (pv 1) ae))
(ag (aJ (az dR (bo K T (pv 0)) ae (ar _))
(ak (aA (i:=2) sc__law_cell.nd rfl (Or.inl rfl) (au aP (pv 2) (au bO (aE (aD K rfl) (pv 0) (au bO (pv 1) (bo K T (pv 0))) (fun _ _=>rfl)) ae))))
aB)
(ag (aA (i:=3) sc__law_cell.nd rfl (Or.inl rfl) (au bO (au bC (pv 2) ae) ae))
(ak (aq (au bO (au cE (au bC (pv 3) (au aP (au aP (pv 3) (au bC ae (pv 1))) ae)) ae) ae))))))),?_⟩
  refine ⟨_,rfl,_,rfl,a,_,rfl,.inl hS,_,_,rfl,rfl,_,rfl,?_⟩
  refine bD (fun h=>?_) (fun h=>?_)
  ·have h':k < ns.length:=by have:=of_decide_eq_true h; omega
   obtain ⟨z,hz⟩:=at_int ns hk0 h'
   exact ⟨_,rfl,_,rfl,a,_,_,_,rfl,rfl,hS,hz,q _⟩
  ·refine ⟨_,rfl,_,_,rfl,rfl,.inl ⟨by omega,by omega⟩,?_⟩
   refine ⟨_,rfl,a,_,rfl,.inl hS,_,_,rfl,rfl,_,rfl,?_⟩
   have fin:∀ sd:Int,(0:Int) <= sd * 48271 % 65537/\sd * 48271 % 65537 < 65537:=fun sd=>⟨Int.emod_nonneg _ (by decide),Int.emod_lt_of_pos _ (by decide)⟩
   refine bD (fun h=>?_) (fun h=>?_)
   ·have h':0 < (ns.length:Int):=by have:=of_decide_eq_true h; omega
    obtain ⟨z,hz⟩:=at_int ns (k:=k % ((ns.map V.int).length:Int)) (Int.emod_nonneg _ (by omega)) (by have:=Int.emod_lt_of_pos k (b:=((ns.map V.int).length:Int)) (by omega); omega)
    refine ⟨_,rfl,_,rfl,_,rfl,_,rfl,a,_,rfl,.inl hS,_,_,rfl,rfl,(by show (0:Int) < _; omega),a,_,_,_,rfl,rfl,hS,hz,_,_,rfl,rfl,(by show (0:Int) < 65537; decide),_,_,rfl,rfl,?_⟩
    have f1:=fin (k * 7919 + z % 65537)
    refine ⟨_,rfl,_,_,rfl,rfl,.inr ⟨by decide,by decide⟩,_,_,rfl,rfl,(by show (0:Int) < 65537; decide),?_⟩
    exact ⟨_,rfl,_,rfl,_,rfl,_,_,rfl,rfl,.inl ⟨by decide,by decide⟩,_,_,rfl,rfl,_,_,rfl,rfl,_,_,rfl,rfl,.inl ⟨Int.lt_of_lt_of_le (by decide) f1.1,Int.lt_of_lt_of_le f1.2 (by decide)⟩,_,_,rfl,rfl,fK (by decide) (by decide),_,_,rfl,rfl,(by show (0:Int) < 65521; decide),q _⟩
   ·have f1:=fin (k * 7919)
    refine ⟨_,rfl,_,_,rfl,rfl,.inr ⟨by decide,by decide⟩,_,_,rfl,rfl,(by show (0:Int) < 65537; decide),?_⟩
    exact ⟨_,rfl,_,rfl,_,rfl,_,_,rfl,rfl,.inl ⟨by decide,by decide⟩,_,_,rfl,rfl,_,_,rfl,rfl,_,_,rfl,rfl,.inl ⟨Int.lt_of_lt_of_le (by decide) f1.1,Int.lt_of_lt_of_le f1.2 (by decide)⟩,_,_,rfl,rfl,fK (by decide) (by decide),_,_,rfl,rfl,(by show (0:Int) < 65521; decide),q _⟩
theorem sc__law_bag:FnScope ["_law_script", "_law_at", "_law_cell_here"] ["_law_script", "_law_at"] (al gW):=.i
theorem ok_bag {f:Addr} {fd:FuncData} (F:Fun K "_law_bag" "_law_bag" gW f fd) (G_law_cell:FnB P w K mg base 1 "_law_cell" (spCell K)):aI P w K mg base CX0 2 f fd ["_law_script", "_law_at"] (spBag K):=by
 refine F.ok sc__law_bag (fun vs H Q E h=>?_) (fun cdv A outer s H vs Q E hr h=>?_)
 ·obtain ⟨a,ns,k,rfl,_⟩:=h
  rfl
 ·obtain ⟨a,ns,k,rfl,hS,hl,hk0,hk1,q⟩:=h
  refine ⟨_,(ag (aA (i:=2) sc__law_bag.nd rfl (Or.inl rfl) (aw G_law_cell hr.m (aa (pv 0) (aa (pv 1) af))))
(ag (aJ (PW.pt (bR (az op_ge (pv 2) (au eT ae ae) (ar _)) (bL (az je (pv 2) (pe_un un_neg (au eT ae ae)) (ar _)))))
(ak (aq (bb (aa (pv 2) (aa ae af)))))
aB)
(ak (aq (bb (aa (au bO (pv 2) ae) (aa (au aP (pv 1) ae) af))))))),?_⟩
  refine ⟨_,rfl,_,rfl,a,ns,k,rfl,hS,hl,hk0,by omega,fun r=>?_⟩
  refine ⟨_,rfl,_,_,rfl,rfl,⟨by decide,by decide,by decide⟩,_,_,rfl,rfl,_,rfl,?_⟩
  have f1:(0:Int) <= r % 2147483647/\r % 2147483647 < 2147483647:=⟨Int.emod_nonneg _ (by decide),Int.emod_lt_of_pos _ (by decide)⟩
  refine bD (fun h=>?_) (fun h=>?_)
  ·refine aH ?_
   exact ⟨_,rfl,by show 2 <= sizeLine; decide,fun p hp=>q p r 0 hp (.inl rfl)⟩
  ·refine ⟨_,rfl,_,_,rfl,rfl,⟨by decide,by decide,by decide⟩,_,rfl,_,_,rfl,rfl,_,rfl,?_⟩
   refine bD (fun h=>?_) (fun h=>?_)
   ·exact ⟨_,rfl,by show 2 <= sizeLine; decide,fun p hp=>q p r 0 hp (.inl rfl)⟩
   ·exact ⟨_,rfl,_,_,rfl,rfl,(by show (0:Int) < 2147483647; decide),_,rfl,_,_,rfl,rfl,by show 2 <= sizeLine; decide,fun p hp=>q p _ _ hp (.inr ⟨f1.1,f1.2,by omega,by omega⟩)⟩
theorem sc__law_take:FnScope ["_law_bag_here", "_law_many", "_law_some"] ["_law_bag_here", "_law_many"] (al fI):=.i
theorem ok_take {f:Addr} {fd:FuncData} (F:Fun K "_law_take" "_law_take" fI f fd):aI P w K mg base CX0 1 f fd ["_law_bag_here", "_law_many"] cF:=by
 refine F.ok sc__law_take (fun vs H Q E h=>?_) (fun cdv A outer s H vs Q E hr h=>?_)
 ·obtain ⟨p,a,b,m,k,rfl,_⟩:=h
  rfl
 ·obtain ⟨p,a,b,m,k,rfl,hp,hb,hk,hm,hm2,q⟩:=h
  refine ⟨_,(ag (aJ (az bH (aE (aD K rfl) (pv 0) ae (fun _ _=>rfl)) ae (ar _))
(ag (aA (i:=2) sc__law_take.nd rfl (Or.inl rfl) (au bO (aE (aD K rfl) (pv 0) ae (fun _ _=>rfl)) (pv 1)))
(ag (fA (au cE (aE (aD K rfl) (pv 0) ae (fun _ _=>rfl)) (pv 1)) (lV (pv 0) ae iB))
(ak (aq (pv 2)))))
aB)
(ag (fA (au bO (au aP (au aP (au bC (aE (aD K rfl) (pv 0) ae (fun _ _=>rfl)) ae) (au bC (au bC ae (aE (aD K rfl) (pv 0) ae (fun _ _=>rfl))) (aE (aD K rfl) (pv 0) ae (fun _ _=>rfl)))) ae) ae) (lV (pv 0) ae iB))
(ag (fA (au aP (aE (aD K rfl) (pv 0) ae (fun _ _=>rfl)) ae) (lV (pv 0) ae iB))
(ak (aq (au bO (au bO (au bC (aE (aD K rfl) (pv 0) ae (fun _ _=>rfl)) ae) ae) (pv 1))))))),?_⟩
  have e0:∀ (a b:Int) (H':Hp),H' p=some (.lst [.int a,.int b])->SqL K H' p [.int a,.int b]:=fun a b H' h=>SqL.of h
  refine ⟨_,rfl,p,_,_,_,rfl,rfl,e0 a b H hp,rfl,rfl,_,rfl,?_⟩
  refine bD (fun h=>?_) (fun h=>?_)
  ·have hb0:b=0:=by simpa using h
   refine ⟨_,rfl,p,_,_,_,rfl,rfl,e0 a b H hp,rfl,_,rfl,_,_,rfl,rfl,hm,?_⟩
   refine ⟨_,rfl,p,_,_,_,rfl,rfl,e0 a b H hp,rfl,_,rfl,_,_,rfl,rfl,⟨by omega,hm2⟩,_,rfl,p,_,_,_,rfl,rfl,hp,rfl,?_⟩
   refine ⟨_,rfl,?_⟩
   exact q _ _ _ (Int.emod_nonneg _ (by omega)) (Int.emod_lt_of_pos _ hm) (.inl hb0)
  ·have hb0:b ≠ 0:=by simpa using h
   rcases hb with z | ⟨a0,a1,b0,b1⟩
   ·exact absurd z hb0
   refine ⟨_,rfl,p,_,_,_,rfl,rfl,e0 a b H hp,rfl,_,_,rfl,rfl,.inl ⟨by omega,by omega⟩,_,rfl,p,_,_,_,rfl,rfl,e0 a b H hp,rfl,_,_,rfl,rfl,.inl ⟨by decide,by decide⟩,_,rfl,p,_,_,_,rfl,rfl,e0 a b H hp,rfl,_,_,rfl,rfl,.inr ⟨by omega,by omega⟩,_,_,rfl,rfl,_,_,rfl,rfl,_,_,rfl,rfl,(by show (0:Int) < 2147483647; decide),_,rfl,p,_,_,_,rfl,rfl,hp,rfl,?_⟩
   have a0':0 <= gv a b:=Int.emod_nonneg _ (by decide)
   have a1':gv a b < 2147483647:=Int.emod_lt_of_pos _ (by decide)
   refine ⟨_,rfl,p,_,_,_,rfl,rfl,e0 (gv a b) b _ ac,rfl,_,_,rfl,rfl,_,rfl,p,[.int (gv a b),.int b],_,_,rfl,rfl,ac,rfl,?_⟩
   refine ⟨_,rfl,p,_,_,_,rfl,rfl,e0 (gv a b) (b + 1) _ ac,rfl,_,_,rfl,rfl,.inl ⟨by omega,by omega⟩,_,_,rfl,rfl,(by show (0:Int) < 2147483629; decide),_,rfl,_,_,rfl,rfl,hm,?_⟩
   have e:upd (upd H p (.lst [.int (gv a b),.int b])) p (.lst [.int (gv a b),.int (b + 1)])=upd H p (.lst [.int (gv a b),.int (b + 1)]):=cW
   have z:=q (gv a b * 69621 % 2147483629 % m) (gv a b) (b + 1) (Int.emod_nonneg _ (by omega)) (Int.emod_lt_of_pos _ hm) (.inr ⟨a0',a1',by omega,by omega⟩)
   rw [<- e] at z
   exact z
end
def dO (K:Frag):Sp:=fun vs H Q _=>∃ (v:V) (t:Value) (b c:Bool),vs=[v]/\TyOf K H v t/\kitOne K t (.type "int")=some b/\kitOne K t (.type "bool")=some c/\Q (.bl (b && !c)) H
theorem BagOk.mono {a b:Int} {j k:Nat} (h:BagOk a b j) (hk:j <= k):BagOk a b k:=by
 rcases h with h | ⟨h1,h2,h3,h4⟩
 ·exact .inl h
 ·exact .inr ⟨h1,h2,h3,by omega⟩
section
variable {P:Program} {w:World} {K:Frag} {mg:Str->Option Value} {base:Heap}
theorem kJ:FnScope ["_law_found"] ["_law_found"] (al e7):=.i
theorem ok_whole {f:Addr} {fd:FuncData} (F:Fun K "_law_whole" "_law_whole" e7 f fd) (T:Blt mg):aI P w K mg base CX0 1 f fd ["_law_found"] (dO K):=by
 refine F.ok kJ (fun vs H Q E h=>?_) (fun cdv A outer s H vs Q E hr h=>?_)
 ·obtain ⟨v,t,b,c,rfl,_⟩:=h
  rfl
 ·obtain ⟨v,t,b,c,rfl,ty,h1,h2,q⟩:=h
  refine ⟨_,(ak (aq (cr (bX K T (pv 0) T.int gh) (bY (pe_not (bX K T (pv 0) T.bool gC)))))),?_⟩
  refine ⟨_,rfl,t,b,ty,h1,_,rfl,?_⟩
  cases b with
  | false=>exact aO q
  | true=>exact aH ⟨_,rfl,t,c,ty,h2,_,rfl,q⟩
end
theorem mt {K:Frag} {H:Hp} {a:Addr} {xs:List V} (h:SqT K H a xs):SqV true K H a xs:=h
theorem bZ {K:Frag} {H:Hp} {a:Addr} {xs:List V} (h:SqL K H a xs):SqV false K H a xs:=h
def v2 (f:Int->Int->V):V->V->V:=fun x y=>match x,y with
 | .int i,.int j=>f i j
 | _,_=>.non
def v1 (f:Int->V):V->V:=fun x=>match x with
 | .int i=>f i
 | _=>.non
theorem zip_v2 (f:Int->Int->V):∀ ns ms:List Int,List.zipWith (v2 f) (ns.map V.int) (ms.map V.int)=List.zipWith f ns ms
 | [],_=>rfl
 | _ :: _,[]=>rfl
 | n :: ns,m :: ms=>congrArg (f n m :: ·) (zip_v2 f ns ms)
theorem map_v1 (f:Int->V) (ns:List Int):(ns.map V.int).map (v1 f)=ns.map f:=by
 rw [List.map_map]; rfl
theorem zw_map {α:Type} (g:α->V) (f:Int->Int->α):∀ ns ms:List Int,List.zipWith (fun i j=>g (f i j)) ns ms=(List.zipWith f ns ms).map g
 | [],_=>rfl
 | _ :: _,[]=>rfl
 | n :: ns,m :: ms=>congrArg (g (f n m) :: ·) (zw_map g f ns ms)
theorem fe {ns:List Int} {i:Nat} {x:V} (h:(ns.map V.int)[i]? = some x):∃ z,ns[i]? = some z/\x=.int z:=by
 rw [List.getElem?_map] at h
 cases e:ns[i]? with
 | none=>rw [e] at h; cases h
 | some z=>rw [e] at h; exact ⟨z,rfl,(Option.some.inj h).symm⟩
theorem cZ:((10:Int) ^ (10:Int).toNat)=10000000000:=by decide +kernel
def jA:Sp:=fun vs H Q _=>∃ (p:Addr) (a b:Int) (k:Nat),vs=[.ref p]/\H p=some (.lst [.int a,.int b])/\BagOk a b k/\k <= 900000/\
 ∀ (r a' b':Int),0 <= r->r < 1000000000000000000000000000000->BagOk a' b' (k + 3)->Q (.int r) (upd H p (.lst [.int a',.int b']))
def jM:Sp:=fun vs H Q _=>∃ (p:Addr) (a b:Int) (k:Nat),vs=[.ref p]/\H p=some (.lst [.int a,.int b])/\BagOk a b k/\k <= 800000/\
 ∀ (r a' b':Int),-1000000000000000000000000000000 < r->r < 1000000000000000000000000000000->BagOk a' b' (k + 4)->Q (.int r) (upd H p (.lst [.int a',.int b']))
section
variable {P:Program} {w:World} {K:Frag} {mg:Str->Option Value} {base:Heap}
theorem sc__law_great:FnScope ["_law_bag_here", "_law_high"] ["_law_bag_here"] (al eZ):=.i
theorem ok_great {f:Addr} {fd:FuncData} (F:Fun K "_law_great" "_law_great" eZ f fd) (G_law_take:FnB P w K mg base 1 "_law_take" cF):aI P w K mg base CX0 2 f fd ["_law_bag_here"] jA:=by
 refine F.ok sc__law_great (fun vs H Q E h=>?_) (fun cdv A outer s H vs Q E hr h=>?_)
 ·obtain ⟨p,a,b,k,rfl,_⟩:=h
  rfl
 ·obtain ⟨p,a,b,k,rfl,hp,hb,hk,q⟩:=h
  refine ⟨_,(ag (aA (i:=1) sc__law_great.nd rfl (Or.inl rfl) (au aP (au bC (aw G_law_take hr.m (aa (pv 0) (aa (au eT ae ae) af))) (au eT ae ae)) (aw G_law_take hr.m (aa (pv 0) (aa (au eT ae ae) af)))))
(ak (aq (au aP (au bC (pv 1) (au eT ae ae)) (aw G_law_take hr.m (aa (pv 0) (aa (au eT ae ae) af))))))),?_⟩
  refine ⟨_,rfl,_,_,rfl,rfl,⟨by decide,by decide,by decide⟩,p,a,b,_,k,rfl,hp,hb,by omega,by rw [cZ]; decide,by rw [cZ]; exact aC (by decide) (by decide),fun r1 a1 b1 r10 r11 hb1=>?_⟩
  rw [cZ] at r11
  refine ⟨_,_,rfl,rfl,⟨by decide,by decide,by decide⟩,_,_,rfl,rfl,.inl ⟨by omega,by omega⟩,?_⟩
  refine ⟨_,rfl,_,_,rfl,rfl,⟨by decide,by decide,by decide⟩,p,a1,b1,_,k + 1,rfl,ac,hb1,by omega,by rw [cZ]; decide,by rw [cZ]; exact aC (by decide) (by decide),fun r2 a2 b2 r20 r21 hb2=>?_⟩
  rw [cZ] at r21
  refine ⟨_,_,rfl,rfl,?_⟩
  refine ⟨_,rfl,_,_,rfl,rfl,⟨by decide,by decide,by decide⟩,_,_,rfl,rfl,.inr (by rw [cZ]; exact ⟨by decide,by decide⟩),?_⟩
  refine ⟨_,rfl,_,_,rfl,rfl,⟨by decide,by decide,by decide⟩,p,a2,b2,_,k + 2,rfl,ac,hb2,by omega,by rw [cZ]; decide,by rw [cZ]; exact aC (by decide) (by decide),fun r3 a3 b3 r30 r31 hb3=>?_⟩
  rw [cZ] at r31
  refine ⟨_,_,rfl,rfl,?_⟩
  rw [cW,cW,cZ]
  exact q _ a3 b3 (by omega) (by omega) hb3
theorem kz:FnScope ["_law_bag_here"] ["_law_bag_here"] (al eC):=.i
theorem ok_signed {f:Addr} {fd:FuncData} (F:Fun K "_law_signed" "_law_signed" eC f fd) (G_law_take:FnB P w K mg base 1 "_law_take" cF) (G_law_great:FnB P w K mg base 2 "_law_great" jA):aI P w K mg base CX0 3 f fd ["_law_bag_here"] jM:=by
 refine F.ok kz (fun vs H Q E h=>?_) (fun cdv A outer s H vs Q E hr h=>?_)
 ·obtain ⟨p,a,b,k,rfl,_⟩:=h
  rfl
 ·obtain ⟨p,a,b,k,rfl,hp,hb,hk,q⟩:=h
  refine ⟨_,(ak (aq (au bC (au bx (au bC ae (aw G_law_take hr.m (aa (pv 0) (aa ae af)))) ae) (aw G_law_great hr.m (aa (pv 0) af))))),?_⟩
  refine ⟨_,rfl,p,a,b,2,k,rfl,hp,hb,by omega,by decide,aC (by decide) (by decide),fun r1 a1 b1 r10 r11 hb1=>?_⟩
  refine ⟨_,_,rfl,rfl,.inl ⟨by decide,by decide⟩,_,_,rfl,rfl,?_⟩
  refine ⟨_,rfl,p,a1,b1,k + 1,rfl,ac,hb1,by omega,fun r2 a2 b2 r20 r21 hb2=>?_⟩
  refine ⟨_,_,rfl,rfl,.inl ⟨by omega,by omega⟩,?_⟩
  rw [cW]
  have h01:r1=0\/r1=1:=by omega
  refine q _ a2 b2 ?_ ?_ hb2
  ·rcases h01 with z | z<;>rw [z]<;>omega
  ·rcases h01 with z | z<;>rw [z]<;>omega
end
def jD:Sp:=fun vs H Q _=>∃ (a b:Int),vs=[.int a,.int b]/\b ≠ 0/\b.natAbs < 2 ^ 4000/\∀ t,H t=none->Q (.ref t) (upd H t (.tup [.int (nrm a b).1,.int (nrm a b).2]))
section
variable {P:Program} {w:World} {K:Frag} {mg:Str->Option Value} {base:Heap}
theorem sc__law_low:FnScope ["_law_top", "_law_bottom", "_law_one", "_law_other"] ["_law_top", "_law_bottom"] (al gO):=.i
theorem ok_low {f:Addr} {fd:FuncData} (F:Fun K "_law_low" "_law_low" gO f fd) (T:Blt mg):aI P w K mg base CX0 1 f fd ["_law_top", "_law_bottom"] jD:=by
 refine F.ok sc__law_low (fun vs H Q E h=>?_) (fun cdv A outer s H vs Q E hr h=>?_)
 ·obtain ⟨a,b,rfl,_⟩:=h
  rfl
 ·obtain ⟨a,b,rfl,hb,hbs,q⟩:=h
  refine ⟨_,(ag (aA (i:=2) sc__law_low.nd rfl (Or.inl rfl) (mw T (pv 0)))
(ag (aA (i:=3) sc__law_low.nd rfl (Or.inl rfl) (mw T (pv 1)))
(ag (fu PassesOwn.never (az dR (pv 3) ae (ar _))
(ak (ps_par (i:=2) (j:=3) rfl sc__law_low.nd rfl rfl (by decide) rfl rfl (aa (pv 3) (aa (au bO (pv 2) (pv 3)) af)) rfl)))
(ag (aJ (az ib (pv 1) ae (ar _))
(ak (aA (i:=2) sc__law_low.nd rfl (Or.inl rfl) (au bx ae (pv 2))))
aB)
(ak (aq (bM (aa (au cE (pv 0) (pv 2)) (aa (au cE (pv 1) (pv 2)) af))))))))),?_⟩
  refine ⟨_,rfl,_,rfl,_,rfl,_,rfl,?_⟩
  refine fP (fun σ H'=>∃ x y:Nat,σ=[some (.int a),some (.int b),some (.int x),some (.int y)]/\H'=H/\Nat.gcd x y=Int.gcd a b) (fun σ _=>match σ with | [_,_,_,some (.int y)]=>y.toNat | _=>0) ⟨a.natAbs,b.natAbs,?_,rfl,rfl⟩ ?_ ?_
  ·have e1:(if a < 0 then -a else a)=(a.natAbs:Int):=by split<;>omega
   have e2:(if b < 0 then -b else b)=(b.natAbs:Int):=by split<;>omega
   rw [e1,e2]
   rfl
  ·rintro σ H2 ⟨x,y,rfl,rfl,hg⟩
   refine ⟨_,rfl,_,_,rfl,rfl,_,rfl,bD (fun h=>?_) (fun h=>?_)⟩
   ·have hy:0 < y:=by have:=of_decide_eq_true h; omega
    refine ⟨_,rfl,_,rfl,_,rfl,_,_,rfl,rfl,(by show (0:Int) < (y:Int); omega),_,_,rfl,⟨y,x % y,?_,rfl,?_⟩,?_⟩
    ·rfl
    ·rw [<- hg,Nat.gcd_comm x y,Nat.gcd_rec y x,Nat.gcd_comm]
    ·show ((x:Int) % (y:Int)).toNat < (y:Int).toNat
     have h1:=Int.emod_lt_of_pos (x:Int) (show (0:Int) < y by omega)
     have h2:=Int.emod_nonneg (x:Int) (show (y:Int) ≠ 0 by omega)
     omega
   ·have hy:y=0:=by
     have h1:¬ (0:Int) < (y:Int):=fun z=>h (decide_eq_true z)
     omega
    subst hy
    rw [Nat.gcd_zero_right] at hg
    subst hg
    have hgp:0 < Int.gcd a b:=Int.gcd_pos_of_ne_zero_right a hb
    have hgl:Int.gcd a b <= b.natAbs:=Nat.le_of_dvd (by omega) (Nat.gcd_dvd_right a.natAbs b.natAbs)
    have sm:(Int.gcd a b) < 2 ^ 4000:=Nat.lt_of_le_of_lt hgl hbs
    refine ⟨_,rfl,_,_,rfl,rfl,_,rfl,bD (fun h=>?_) (fun h=>?_)⟩
    ·have hb0:b < 0:=of_decide_eq_true h
     refine ⟨_,rfl,_,_,rfl,rfl,?_⟩
     have sm2:CDivA a (0 - (Int.gcd a b:Int)):=⟨by omega,by rw [show (0 - (Int.gcd a b:Int)).natAbs=Int.gcd a b by omega]; exact sm⟩
     refine ⟨_,rfl,_,rfl,_,_,rfl,rfl,sm2,_,rfl,_,rfl,_,_,rfl,rfl,sm2,(by show 2 <= sizeLine; decide),fun t ht=>?_⟩
     have z:=q t ht
     unfold nrm at z
     rw [if_pos hb0] at z
     rw [show 0 - (Int.gcd a b:Int) = -(Int.gcd a b:Int) by omega]
     exact z
    ·have hb0:¬ b < 0:=fun z=>h (decide_eq_true z)
     have sm2:CDivA a (Int.gcd a b:Int):=⟨by omega,by rw [Int.natAbs_natCast]; exact sm⟩
     refine ⟨_,rfl,_,rfl,_,_,rfl,rfl,sm2,_,rfl,_,rfl,_,_,rfl,rfl,sm2,(by show 2 <= sizeLine; decide),fun t ht=>?_⟩
     have z:=q t ht
     unfold nrm at z
     rw [if_neg hb0] at z
     exact z
  ·rintro σ H Q Q' hq ⟨x,hx,i,j,e1,e2,b,hb,h⟩
   exact ⟨x,hx,i,j,e1,e2,b,hb,hq _ _ h⟩
end
def cU (n:Int) (i:Nat):List Int:=((List.range i).map fun j:Nat=>(2:Int) + (j:Int)).filter fun d=>decide (d * d <= n)
def gR (n:Int):Bool:=decide (1 < n) && (cU n 98).all fun d=>decide (0 < n % d)
def PrimeOk (p:Int):Prop:=p=0\/(2 <= p/\p <= 9973/\gR p=true)
theorem iz (n:Int) (i:Nat):cU n (i + 1)=if (2 + (i:Int)) * (2 + (i:Int)) <= n then cU n i ++ [2 + (i:Int)] else cU n i:=by
 unfold cU
 rw [List.range_succ,List.map_append,List.filter_append]
 by_cases h:(2 + (i:Int)) * (2 + (i:Int)) <= n
 ·rw [if_pos h]
  simp [h]
 ·rw [if_neg h]
  simp [h]
theorem mem_parts {n d:Int} {i:Nat}:d ∈ cU n i↔2 <= d/\d < 2 + (i:Int)/\d * d <= n:=by
 unfold cU
 rw [List.mem_filter,List.mem_map]
 constructor
 ·rintro ⟨⟨j,hj,rfl⟩,h⟩
  have:=List.mem_range.mp hj
  exact ⟨by omega,by omega,of_decide_eq_true h⟩
 ·rintro ⟨h1,h2,h3⟩
  exact ⟨⟨(d - 2).toNat,List.mem_range.mpr (by omega),by omega⟩,decide_eq_true h3⟩
theorem isPb_iff {n:Int}:gR n=true↔1 < n/\∀ d,2 <= d->d < 100->d * d <= n->0 < n % d:=by
 unfold gR
 rw [Bool.and_eq_true,List.all_eq_true]
 constructor
 ·rintro ⟨h1,h2⟩
  exact ⟨of_decide_eq_true h1,fun d a b c=>of_decide_eq_true (h2 d (mem_parts.mpr ⟨a,by omega,c⟩))⟩
 ·rintro ⟨h1,h2⟩
  refine ⟨decide_eq_true h1,fun d hd=>?_⟩
  obtain ⟨a,b,c⟩:=mem_parts.mp hd
  exact decide_eq_true (h2 d a (by omega) c)
theorem isPb_2:gR 2=true:=by decide +kernel
def jW:Sp:=fun vs H Q _=>∃ n:Int,vs=[.int n]/\∀ H',Same H H'->Q (.bl (gR n)) H'
section
variable {P:Program} {w:World} {K:Frag} {mg:Str->Option Value} {base:Heap}
theorem sc__law_is_prime:FnScope ["_law_number_here", "_law_parts"] ["_law_number_here"] (al dn):=.i
theorem ok_lawprime {f:Addr} {fd:FuncData} (F:Fun K "_law_is_prime" "_law_is_prime" dn f fd) (T:Blt mg):aI P w K mg base CX0 1 f fd ["_law_number_here"] jW:=by
 refine F.ok sc__law_is_prime (fun vs H Q E h=>?_) (fun cdv A outer s H vs Q E hr h=>?_)
 ·obtain ⟨n,rfl,_⟩:=h
  rfl
 ·obtain ⟨n,rfl,q⟩:=h
  refine ⟨_,(ag (mM (i:=1) sc__law_is_prime.nd rfl (Or.inl rfl) (N:=["_law_part", "_law_number_here"]) (src:=[none,some 0]) rfl rfl rfl (by exact (lB rfl T.range (aa ae (aa ae af)))) (fun _ _ _=>by exact ⟨by exact (bU (i:=0) nd_0 rfl rfl),(fg (az je (au bC (pv 0) (pv 0)) (pv 1) (ar _))),by exact (pv 0)⟩))
(ak (aq (cr (aV dR (pv 0) ae (ar _)) (bY (dM K T (by exact bj (N:=["_law_part", "_law_number_here"]) (src:=[none,some 0]) rfl rfl rfl (by exact (aZ K rfl (pv 1))) (fun _ _ _=>by exact ⟨by exact (bU (i:=0) nd_0 rfl rfl),bi,by exact (aV dR (au bO (pv 1) (pv 0)) ae (ar _))⟩)) false)))))),?_⟩
  refine ⟨_,_,rfl,⟨by decide,by decide,by decide,by decide⟩,be (n:=98) (σ0:=[none,some (.int n)]) rfl (fun acc i zs σ H'=>∃ u:Option V,σ=[u,some (.int n)]/\zs=(cU n i).map V.int/\Same H H') (by decide) (fun acc hacc=>⟨none,rfl,rfl,Same.new hacc⟩) ?_ ?_ ?_ ?_⟩
  ·rintro acc i zs σ H' hacc hi hz _
   exact hi
  ·rintro acc zs σ H' hacc hz _
   exact Nat.le_refl 98
  ·rintro acc i zs σ H' x H'' hacc hi hz hzl ⟨u,rfl,rfl,sm⟩ ⟨rfl,rfl⟩
   refine ⟨_,rfl,_,rfl,_,_,rfl,rfl,.inl ⟨by omega,by omega⟩,_,rfl,_,_,rfl,rfl,_,rfl,bD (fun h=>?_) (fun h=>?_)⟩
   ·have h':(2 + (i:Int)) * (2 + (i:Int)) <= n:=of_decide_eq_true h
    refine ⟨_,rfl,_,hz,eI (by omega),_,ac,by rw [List.length_append,List.length_singleton]; omega,_,rfl,?_,sm.put hacc⟩
    rw [iz,if_pos h',List.map_append]
    rfl
   ·have h':¬ (2 + (i:Int)) * (2 + (i:Int)) <= n:=fun z=>h (decide_eq_true z)
    refine ⟨_,hz,by omega,_,rfl,?_,sm⟩
    rw [iz,if_neg h']
  ·rintro acc zs σ H' hacc hz hzl ⟨u,rfl,rfl,sm⟩
   refine ⟨_,rfl,_,_,rfl,rfl,_,rfl,bD (fun h=>?_) (fun h=>?_)⟩
   ·have h1:(1:Int) < n:=of_decide_eq_true h
    refine ⟨_,rfl,acc,rfl,⟨_,SqL.of hz⟩,comp_lst (v1 fun d=>.bl (decide (0 < n % d))) rfl (SqL.of hz) (Nat.le_of_lt (eI (by omega))) (fun i x H1 R hx sm1 hR=>?_) (fun acc2 H1 hacc2 sm1 hl1=>?_)⟩
    ·obtain ⟨z,hz',rfl⟩:=fe hx
     obtain ⟨z2,_,_⟩:=mem_parts.mp (List.mem_of_getElem? hz')
     exact ⟨_,rfl,_,rfl,_,_,rfl,rfl,(by show (0:Int) < z; omega),_,_,rfl,rfl,hR⟩
    ·rw [map_v1] at hl1
     have e1:(cU n 98).map (fun d=>V.bl (decide (0 < n % d)))=((cU n 98).map fun d=>decide (0 < n % d)).map V.bl:=by rw [List.map_map]; rfl
     rw [e1] at hl1
     refine ⟨acc2,_,rfl,bZ (SqL.of hl1),?_⟩
     have z:=q H1 (sm.trans sm1)
     unfold gR at z
     rw [decide_eq_true h1,Bool.true_and] at z
     rw [List.all_map]
     exact z
   ·have h1:¬ (1:Int) < n:=fun z=>h (decide_eq_true z)
    have z:=q H' sm
    unfold gR at z
    rw [decide_eq_false h1,Bool.false_and] at z
    exact z
end
def spPrime:Sp:=fun vs H Q _=>∃ (p:Addr) (a b:Int) (k:Nat),vs=[.ref p]/\H p=some (.lst [.int a,.int b])/\BagOk a b k/\k <= 900000/\
 ∀ (r a' b':Int) (H':Hp),PrimeOk r->H' p=some (.lst [.int a',.int b'])->BagOk a' b' (k + 2)->(∀ c o,H c=some o->c ≠ p->H' c=some o)->Q (.int r) H'
section
variable {P:Program} {w:World} {K:Frag} {mg:Str->Option Value} {base:Heap}
theorem sc__law_prime:FnScope ["_law_bag_here", "_law_way", "_law_number_here"] ["_law_bag_here"] (al fh):=.i
theorem ok_prime {f:Addr} {fd:FuncData} (F:Fun K "_law_prime" "_law_prime" fh f fd) (G_law_take:FnB P w K mg base 1 "_law_take" cF) (G_law_is_prime:FnB P w K mg base 1 "_law_is_prime" jW):aI P w K mg base CX0 2 f fd ["_law_bag_here"] spPrime:=by
 refine F.ok sc__law_prime (fun vs H Q E h=>?_) (fun cdv A outer s H vs Q E hr h=>?_)
 ·obtain ⟨p,a,b,k,rfl,_⟩:=h
  rfl
 ·obtain ⟨p,a,b,k,rfl,hp,hb,hk,q⟩:=h
  refine ⟨_,(ag (aA (i:=1) sc__law_prime.nd rfl (Or.inl rfl) (aw G_law_take hr.m (aa (pv 0) (aa ae af))))
(ag (aJ (az ib (pv 1) ae (ar _))
(ak (aq ae))
aB)
(ag (aJ (az ib (pv 1) ae (ar _))
(ak (aq (aE (aD K rfl) (bb (aa ae (aa ae (aa ae af)))) (au bx (pv 1) ae) (fun _ _=>rfl))))
aB)
(ag (aA (i:=2) sc__law_prime.nd rfl (Or.inl rfl) (au aP ae (aw G_law_take hr.m (aa (pv 0) (aa ae af)))))
(ag (fu PassesOwn.never (aY (aW (aw G_law_is_prime hr.m (aa (pv 2) af))))
(ak (aA (i:=2) sc__law_prime.nd rfl (Or.inl rfl) (au bx (pv 2) ae))))
(ak (aq (pv 2)))))))),?_⟩
  refine ⟨_,rfl,p,a,b,8,k,rfl,hp,hb,by omega,by decide,aC (by decide) (by decide),fun r1 a1 b1 r10 r11 hb1=>?_⟩
  have k1:∀ o c o',H c=some o'->c ≠ p->(upd H p o) c=some o':=fun o c o' e hc=>by rw [ao hc]; exact e
  refine ⟨_,rfl,_,_,rfl,rfl,_,rfl,bD (fun h=>?_) (fun h=>?_)⟩
  ·exact q 0 a1 b1 _ (.inl rfl) ac (hb1.mono (by omega)) (k1 _)
  have h4:¬ r1 < 4:=fun z=>h (decide_eq_true z)
  refine ⟨_,rfl,_,_,rfl,rfl,_,rfl,bD (fun h=>?_) (fun h=>?_)⟩
  ·have h7:r1 < 7:=of_decide_eq_true h
   refine ⟨(by show 3 <= sizeLine; decide),fun q1 n1=>?_⟩
   have pq:p ≠ q1:=ah (o:=.lst [.int a1,.int b1]) ac n1
   obtain ⟨v,hat,hv⟩:∃ v:Int,atI [V.int 2,V.int 3,V.int 7] (r1 - 4)=some (.int v)/\PrimeOk v:=by
    have h:r1=4\/r1=5\/r1=6:=by omega
    rcases h with rfl | rfl | rfl
    ·exact ⟨2,rfl,.inr ⟨by decide,by decide,by decide +kernel⟩⟩
    ·exact ⟨3,rfl,.inr ⟨by decide,by decide,by decide +kernel⟩⟩
    ·exact ⟨7,rfl,.inr ⟨by decide,by decide,by decide +kernel⟩⟩
   refine ⟨_,rfl,_,_,rfl,rfl,q1,_,_,_,rfl,rfl,SqL.of ac,hat,?_⟩
   exact q v a1 b1 _ hv (by rw [ao pq,ac]) (hb1.mono (by omega)) fun c o e hc=>by rw [ao (ah (k1 _ c o e hc) n1)]; exact k1 _ c o e hc
  ·refine ⟨_,rfl,p,a1,b1,9972,k + 1,rfl,ac,hb1,by omega,by decide,aC (by decide) (by decide),fun r2 a2 b2 r20 r21 hb2=>?_⟩
   refine ⟨_,_,rfl,rfl,?_⟩
   rw [cW]
   refine fP (fun σ H'=>∃ n:Int,σ=[some (.ref p),some (.int r1),some (.int n)]/\2 <= n/\n <= 9973/\Same (upd H p (.lst [.int a2,.int b2])) H') (fun σ _=>match σ with | [_,_,some (.int n)]=>n.toNat | _=>0) ⟨_,rfl,by omega,by omega,Same.refl _⟩ ?_ ?_
   ·rintro σ H2 ⟨n,rfl,n2,n9,sm⟩
    refine ⟨_,rfl,n,rfl,fun H3 sm3=>⟨_,rfl,?_⟩⟩
    cases hn:gR n with
    | false=>
     refine aH ⟨_,rfl,_,_,rfl,rfl,⟨_,rfl,?_,by omega,sm.trans sm3⟩,?_⟩
     ·have:n ≠ 2:=fun z=>by rw [z,isPb_2] at hn; cases hn
      omega
     ·show (n - 1).toNat < n.toNat
      omega
    | true=>
     refine aO ⟨_,rfl,?_⟩
     have s:=sm.trans sm3
     exact q n a2 b2 H3 (.inr ⟨n2,n9,hn⟩) (s _ _ ac) hb2 fun c o e hc=>s _ _ (k1 _ c o e hc)
   ·rintro σ H Q Q' hq ⟨x,hx,n,e,h⟩
    refine ⟨x,hx,n,e,fun H' s=>?_⟩
    obtain ⟨b,hb,z⟩:=h H' s
    exact ⟨b,hb,hq _ _ z⟩
end
def lv:Sp:=fun vs H Q _=>∃ n:Int,vs=[.int n]/\Q (.bl (decide (2 <= n/\n <= 9973) && gR n)) H
section
variable {P:Program} {w:World} {K:Frag} {mg:Str->Option Value} {base:Heap}
theorem sc_is_prime:FnScope ["whole", "divisor"] ["whole"] (al gX):=.i
theorem ok_isprime {f:Addr} {fd:FuncData} {tk tk2:Tok} (F:Fun K "is_prime" "is_prime" gX f fd) (cLeast:mg "LEAST_PRIME"=some (.int 2 tk)) (cGreatest:mg "GREATEST_PRIME"=some (.int 9973 tk2)):aI P w K mg base CX0 1 f fd ["whole"] lv:=by
 refine F.ok sc_is_prime (fun vs H Q E h=>?_) (fun cdv A outer s H vs Q E hr h=>?_)
 ·obtain ⟨n,rfl,_⟩:=h
  rfl
 ·obtain ⟨n,rfl,q⟩:=h
  refine ⟨_,(ag (aJ (PW.pt (bR (az ib (pv 0) (jt (v:=.int 2) rfl cLeast ⟨_,rfl⟩) (ar _)) (bL (az dR (pv 0) (jt (v:=.int 9973) rfl cGreatest ⟨_,rfl⟩) (ar _)))))
(ak (aq bQ))
aB)
(ag (aA (i:=1) sc_is_prime.nd rfl (Or.inl rfl) ae)
(ag (fu PassesOwn.never (az je (au bC (pv 1) (pv 1)) (pv 0) (ar _))
(ag (aJ (az bH (au bO (pv 0) (pv 1)) ae (ar _))
(ak (aq bQ))
aB)
(ak (aA (i:=1) sc_is_prime.nd rfl (Or.inl rfl) (au aP (pv 1) ae)))))
(ak (aq bQ))))),?_⟩
  have no:¬ (2 <= n/\n <= 9973)->Q (.bl false) H:=fun h=>by
   rw [decide_eq_false h,Bool.false_and] at q
   exact q
  refine ⟨_,rfl,_,_,rfl,rfl,_,rfl,bD (fun h=>?_) (fun h=>?_)⟩
  ·have h1:n < 2:=of_decide_eq_true h
   exact aH (no (by omega))
  have h1:¬ n < 2:=fun z=>h (decide_eq_true z)
  refine ⟨_,rfl,_,_,rfl,rfl,_,rfl,bD (fun h=>?_) (fun h=>?_)⟩
  ·have h2:9973 < n:=of_decide_eq_true h
   exact no (by omega)
  have h2:¬ 9973 < n:=fun z=>h (decide_eq_true z)
  rw [decide_eq_true (show 2 <= n/\n <= 9973 by omega),Bool.true_and] at q
  refine fP (fun σ H'=>∃ d:Int,σ=[some (.int n),some (.int d)]/\H'=H/\2 <= d/\d <= 101/\∀ e,2 <= e->e < d->0 < n % e) (fun σ _=>match σ with | [_,some (.int d)]=>(200 - d).toNat | _=>0) ⟨2,rfl,rfl,by omega,by omega,fun e h1 h2=>by omega⟩ ?_ ?_
  ·rintro σ H2 ⟨d,rfl,rfl,hd2,hd1,hall⟩
   refine ⟨_,rfl,_,rfl,_,_,rfl,rfl,.inl ⟨by omega,by omega⟩,_,rfl,_,_,rfl,rfl,_,rfl,bD (fun h=>?_) (fun h=>?_)⟩
   ·have hdd:d * d <= n:=of_decide_eq_true h
    have hd100:d < 100:=Int.not_le.mp fun z=>by
     have:=Int.mul_le_mul z z (by omega) (by omega)
     omega
    refine ⟨_,rfl,_,rfl,_,_,rfl,rfl,(by show (0:Int) < d; omega),rfl,_,rfl,bD (fun h=>?_) (fun h=>?_)⟩
    ·have h0:n % d=0:=by
      have:=of_decide_eq_true h
      injection this
     have e:gR n=false:=by
      cases hp:gR n with
      | false=>rfl
      | true=>
       have:=(isPb_iff.mp hp).2 d hd2 hd100 hdd
       omega
     rw [e] at q
     exact q
    ·have h0:n % d ≠ 0:=fun z=>h (decide_eq_true (congrArg V.int z))
     have h00:=Int.emod_nonneg n (show d ≠ 0 by omega)
     refine ⟨_,rfl,_,_,rfl,rfl,⟨d + 1,rfl,rfl,by omega,by omega,fun e e1 e2=>?_⟩,?_⟩
     ·by_cases ee:e=d
      ·rw [ee]; omega
      ·exact hall e e1 (by omega)
     ·show (200 - (d + 1)).toNat < (200 - d).toNat
      omega
   ·have hdd:¬ d * d <= n:=fun z=>h (decide_eq_true z)
    have e:gR n=true:=isPb_iff.mpr ⟨by omega,fun e e1 e2 e3=>hall e e1 (Int.not_le.mp fun z=>by
     have:=Int.mul_le_mul z z (by omega) (by omega)
     omega)⟩
    rw [e] at q
    exact q
  ·rintro σ H Q Q' hq ⟨x,hx,x2,hx2,i,j,e1,e2,c,y,hy,i2,j2,e3,e4,b,hb,h⟩
   exact ⟨x,hx,x2,hx2,i,j,e1,e2,c,y,hy,i2,j2,e3,e4,b,hb,hq _ _ h⟩
end
def spGcd:Sp:=fun vs H Q _=>∃ a b:Int,vs=[.int a,.int b]/\Q (.int (Int.gcd a b)) H
section
variable {P:Program} {w:World} {K:Frag} {mg:Str->Option Value} {base:Heap}
theorem sc_greatest_divisor:FnScope ["one", "other", "first", "second", "rest"] ["one", "other"] (al cw):=.i
theorem ok_gcd {f:Addr} {fd:FuncData} (F:Fun K "greatest_divisor" "greatest_divisor" cw f fd) (T:Blt mg):aI P w K mg base CX0 1 f fd ["one", "other"] spGcd:=by
 refine F.ok sc_greatest_divisor (fun vs H Q E h=>?_) (fun cdv A outer s H vs Q E hr h=>?_)
 ·obtain ⟨a,b,rfl,_⟩:=h
  rfl
 ·obtain ⟨a,b,rfl,q⟩:=h
  refine ⟨_,(ag (aA (i:=2) sc_greatest_divisor.nd rfl (Or.inl rfl) (mw T (pv 0)))
(ag (aA (i:=3) sc_greatest_divisor.nd rfl (Or.inl rfl) (mw T (pv 1)))
(ag (fu PassesOwn.never (az iw (pv 3) ae (ar _))
(ag (aA (i:=4) sc_greatest_divisor.nd rfl (Or.inl rfl) (au bO (pv 2) (pv 3)))
(ag (aA (i:=2) sc_greatest_divisor.nd rfl (Or.inl rfl) (pv 3))
(ak (aA (i:=3) sc_greatest_divisor.nd rfl (Or.inl rfl) (pv 4))))))
(ak (aq (pv 2)))))),?_⟩
  refine ⟨_,rfl,_,rfl,_,rfl,_,rfl,?_⟩
  refine fP (fun σ H'=>∃ (x y:Nat) (u:Option V),σ=[some (.int a),some (.int b),some (.int x),some (.int y),u]/\H'=H/\Nat.gcd x y=Int.gcd a b) (fun σ _=>match σ with | [_,_,_,some (.int y),_]=>y.toNat | _=>0) ⟨a.natAbs,b.natAbs,none,?_,rfl,rfl⟩ ?_ ?_
  ·have e1:(if a < 0 then -a else a)=(a.natAbs:Int):=by split<;>omega
   have e2:(if b < 0 then -b else b)=(b.natAbs:Int):=by split<;>omega
   rw [e1,e2]
   rfl
  ·rintro σ H2 ⟨x,y,u,rfl,rfl,hg⟩
   refine ⟨_,rfl,rfl,_,rfl,?_⟩
   by_cases hy:y=0
   ·subst hy
    refine jP rfl ?_
    rw [Nat.gcd_zero_right] at hg
    subst hg
    exact ⟨_,rfl,q⟩
   ·rw [decide_eq_false (show ¬ V.int (y:Int)=V.int 0 from fun z=>by injection z; omega)]
    refine aH ⟨_,rfl,_,rfl,_,_,rfl,rfl,(by show (0:Int) < (y:Int); omega),_,rfl,_,rfl,⟨y,x % y,some (.int ((x:Int) % (y:Int))),?_,rfl,?_⟩,?_⟩
    ·rfl
    ·rw [<- hg,Nat.gcd_comm x y,Nat.gcd_rec y x,Nat.gcd_comm]
    ·show ((x:Int) % (y:Int)).toNat < (y:Int).toNat
     have h1:=Int.emod_lt_of_pos (x:Int) (show (0:Int) < y by omega)
     have h2:=Int.emod_nonneg (x:Int) (show (y:Int) ≠ 0 by omega)
     omega
  ·rintro σ H Q Q' hq ⟨x,hx,e1,b,hb,h⟩
   exact ⟨x,hx,e1,b,hb,hq _ _ h⟩
end
def NumsAt (CF CR:Addr) (H:Hp) (x:Addr) (p:Int):Prop:=(p=0/\∃ dx,H x=some (.ins CF dx []))\/(p ≠ 0/\∃ dx,H x=some (.ins CR dx [("modulus",.int p)]))
def nh (CR:Addr):Sp:=fun vs H Q _=>∃ (x dx:Addr) (p:Int),vs=[.ref x,.int p]/\H x=some (.ins CR dx [])/\PrimeOk p/\p ≠ 0/\Q .non (upd H x (.ins CR dx [("modulus",.int p)]))
def spNums (CF CR:Addr):Sp:=fun vs H Q _=>∃ p:Int,vs=[.int p]/\PrimeOk p/\∀ (x:Addr) (H':Hp),Same H H'->NumsAt CF CR H' x p->Q (.ref x) H'
section
variable {P:Program} {w:World} {K:Frag} {mg:Str->Option Value} {base:Heap}
theorem g0:FnScope ["self", "prime"] ["self", "prime"] (al bp):=.i
theorem ok_rinit {f CR:Addr} {fd:FuncData} (F:Fun K "__init__" "Rests.__init__" bp f fd) (cl:Cls K CR) (nM:NoAttr K CR "modulus") (Gis_prime:FnB P w K mg base 1 "is_prime" lv):aI P w K mg base CX0 2 f fd ["self", "prime"] (nh CR):=by
 refine F.ok g0 (fun vs H Q E h=>?_) (fun cdv A outer s H vs Q E hr h=>?_)
 ·obtain ⟨x,dx,p,rfl,_⟩:=h
  rfl
 ·obtain ⟨x,dx,p,rfl,hx,hp,p0,q⟩:=h
  refine ⟨_,(ag (aJ (aY (aW (aw Gis_prime hr.m (aa (pv 1) af))))
(ak ps_never)
aB)
(ak (ps_fld (pv 0) (pv 1) rfl))),?_⟩
  rcases hp with z | ⟨h1,h2,h3⟩
  ·exact absurd z p0
  refine ⟨_,rfl,p,rfl,_,rfl,?_⟩
  rw [decide_eq_true ⟨h1,h2⟩,h3]
  refine aO ⟨_,rfl,_,rfl,x,CR,dx,[],rfl,hx,cl,nM,(by show 0 < 1000; decide),?_⟩
  exact q
theorem jn:FnScope ["_law_prime_here"] ["_law_prime_here"] (al dD):=.i
theorem ok_nums {f CF CR:Addr} {fd:FuncData} (F:Fun K "_law_numbers" "_law_numbers" dD f fd) (MFractions:Mk0 K CF) (AFractions:mg "Fractions"=some (.ref CF)) (MRests:MkB P w K mg base 2 CR "Rests" (nh CR)):aI P w K mg base CX0 4 f fd ["_law_prime_here"] (spNums CF CR):=by
 refine F.ok jn (fun vs H Q E h=>?_) (fun cdv A outer s H vs Q E hr h=>?_)
 ·obtain ⟨p,rfl,_⟩:=h
  rfl
 ·obtain ⟨p,rfl,hp,q⟩:=h
  refine ⟨_,(ag (aJ (az bH (pv 0) ae (ar _))
(ak (aq (pe_mk0 MFractions AFractions)))
aB)
(ak (aq (pe_mkB MRests hr.m (aa (pv 0) af))))),?_⟩
  refine ⟨_,rfl,rfl,_,rfl,bD (fun h=>?_) (fun h=>?_)⟩
  ·have h0:p=0:=by
    have:=of_decide_eq_true h
    injection this
   intro x dx nx ndx ne
   exact q x _ ((Same.new ndx).put nx) (.inl ⟨h0,dx,ac⟩)
  ·have h0:p ≠ 0:=fun z=>h (decide_eq_true (congrArg V.int z))
   refine ⟨_,rfl,fun x dx nx ndx ne=>?_⟩
   refine ⟨x,dx,p,rfl,ac,hp,h0,rfl,?_⟩
   exact q x _ (((Same.new ndx).put nx).put nx) (.inr ⟨h0,dx,ac⟩)
end
def isI:V->Bool
 | .int _=>true
 | _=>false
def nnI:V->Bool
 | .int i=>decide (0 <= i)
 | _=>false
def Typed (K:Frag) (H:Hp) (x:V):Prop:=∃ (t:Value) (b c:Bool),TyOf K H x t/\kitOne K t (.type "int")=some b/\kitOne K t (.type "bool")=some c/\(b && !c)=isI x
theorem Typed.same {K:Frag} {H H':Hp} {x:V} (s:Same H H') (h:Typed K H x):Typed K H' x:=by
 obtain ⟨t,b,c,ty,h1,h2,e⟩:=h
 exact ⟨t,b,c,ty.same s,h1,h2,e⟩
theorem Typed.int {K:Frag} {H:Hp} (i:Int):Typed K H (.int i):=⟨_,true,false,.int i,rfl,rfl,rfl⟩
theorem Typed.tup {K:Frag} {H:Hp} {a:Addr} {xs:List V} (h:H a=some (.tup xs)):Typed K H (.ref a):=⟨_,false,false,.tup h,rfl,rfl,rfl⟩
theorem eY {K:Frag} {H:Hp} (ns:List Int):∀ x ∈ ns.map V.int,Typed K H x:=fun x hx=>by
 obtain ⟨z,_,rfl⟩:=List.mem_map.mp hx
 exact .int z
def NumIs (P:Int) (H:Hp) (v:V):Prop:=(P ≠ 0/\∃ r,v=.int r/\0 <= r/\r < P)\/(P=0/\∃ (t:Addr) (n d:Int),v=.ref t/\H t=some (.tup [.int n,.int d])/\0 < d/\Int.gcd n d=1/\n.natAbs < 10 ^ 31/\d.natAbs < 10 ^ 31)
theorem pow31:(10:Nat) ^ 31 < 2 ^ 2000:=by decide +kernel
theorem pow2000:(2:Nat) ^ 2000 < 2 ^ 4000:=Nat.pow_lt_pow_right (by decide) (by decide)
def Thing (K:Frag) (H:Hp) (v:V):Prop:=Typed K H v/\((∃ t,TyOf K H v t/\kitOne K t (.type "tuple")=some false/\∀ a,v=.ref a->∃ xs,H a=some (.lst xs)) \/
 ∃ a xs,v=.ref a/\H a=some (.tup xs)/\xs.length <= 1000/\(∀ x ∈ xs,Typed K H x)/\∀ i,V.int i ∈ xs->i.natAbs < 2 ^ 2000)
def gY:List V->Bool
 | [.int n,.int d]=>decide (1 <= d) && decide (Int.gcd n d=1)
 | _=>false
def fracV (H:Hp):V->Bool
 | .ref a=>match H a with
  | some (.tup xs)=>gY xs
  | _=>false
 | _=>false
def restV (P:Int):V->Bool
 | .int i=>decide (0 <= i) && decide (i < P)
 | _=>false
def fo (P:Int) (H:Hp) (v:V):Bool:=if P=0 then fracV H v else restV P v
theorem du {H:Hp} {a:Addr} {xs:List V} (h:H a=some (.tup xs)):fracV H (.ref a)=gY xs:=by
 show (match H a with | some (.tup xs)=>gY xs | _=>false)=_
 rw [h]
theorem eK {H:Hp} {v:V} (h:∀ a,v=.ref a->∃ xs,H a=some (.lst xs)):fracV H v=false:=by
 cases v with
 | ref a=>
  obtain ⟨xs,e⟩:=h a rfl
  show (match H a with | some (.tup xs)=>gY xs | _=>false)=_
  rw [e]
 | _=>rfl
def Soft (H H':Hp):Prop:=∀ c o,H c=some o->H' c=some o\/∃ xs ys,o=.lst xs/\H' c=some (.lst ys)
theorem Soft.of {H H':Hp} (s:Same H H'):Soft H H':=fun c o e=>.inl (s c o e)
theorem Soft.but {H H':Hp} {p:Addr} {xs ys:List V} (hp:H p=some (.lst xs)) (hp':H' p=some (.lst ys)) (k:∀ c o,H c=some o->c ≠ p->H' c=some o):Soft H H':=fun c o e=>by
 by_cases hc:c=p
 ·subst hc
  rw [hp] at e
  exact .inr ⟨xs,ys,(Option.some.inj e).symm,hp'⟩
 ·exact .inl (k c o e hc)
theorem TyOf.soft {K:Frag} {H H':Hp} {x:V} {t:Value} (s:Soft H H') (h:TyOf K H x t):TyOf K H' x t:=by
 cases h with
 | non=>exact .non
 | bl b=>exact .bl b
 | int i=>exact .int i
 | str x=>exact .str x
 | flt x=>exact .flt x
 | lst e=>
  rcases s _ _ e with z | ⟨xs,ys,_,z⟩
  ·exact .lst z
  ·exact .lst z
 | frz e=>
  rcases s _ _ e with z | ⟨xs,ys,z,_⟩
  ·exact .frz z
  ·cases z
 | tup e=>
  rcases s _ _ e with z | ⟨xs,ys,z,_⟩
  ·exact .tup z
  ·cases z
 | dK e=>
  rcases s _ _ e with z | ⟨xs,ys,z,_⟩
  ·exact .dK z
  ·cases z
 | dT e=>
  rcases s _ _ e with z | ⟨xs,ys,z,_⟩
  ·exact .dT z
  ·cases z
 | ins e cl ha hn htk hm=>
  rcases s _ _ e with z | ⟨xs,ys,z,_⟩
  ·exact .ins z cl ha hn htk hm
  ·cases z
theorem Typed.soft {K:Frag} {H H':Hp} {x:V} (s:Soft H H') (h:Typed K H x):Typed K H' x:=by
 obtain ⟨t,b,c,ty,h1,h2,e⟩:=h
 exact ⟨t,b,c,TyOf.soft s ty,h1,h2,e⟩
theorem Thing.soft {K:Frag} {H H':Hp} {v:V} (s:Soft H H') (h:Thing K H v):Thing K H' v:=by
 obtain ⟨ty,⟨t,ty2,e,hn⟩ | ⟨a,xs,rfl,ha,hl,hty,hb⟩⟩:=h
 ·refine ⟨ty.soft s,.inl ⟨t,TyOf.soft s ty2,e,fun a ea=>?_⟩⟩
  obtain ⟨xs,hx⟩:=hn a ea
  rcases s _ _ hx with z | ⟨_,ys,_,z⟩
  ·exact ⟨_,z⟩
  ·exact ⟨_,z⟩
 ·rcases s _ _ ha with z | ⟨_,_,z,_⟩
  ·exact ⟨.tup z,.inr ⟨a,xs,rfl,z,hl,fun x hx=>(hty x hx).soft s,hb⟩⟩
  ·cases z
theorem fY {K:Frag} {P:Int} {H H':Hp} {v:V} (s:Soft H H') (h:Thing K H v):fo P H' v=fo P H v:=by
 unfold fo
 by_cases h0:P=0
 ·rw [if_pos h0,if_pos h0]
  obtain ⟨_,⟨t,ty2,e,hn⟩ | ⟨a,xs,rfl,ha,hl,hty,hb⟩⟩:=h
  ·rw [eK hn,eK]
   intro a ea
   obtain ⟨xs,hx⟩:=hn a ea
   rcases s _ _ hx with z | ⟨_,ys,_,z⟩
   ·exact ⟨_,z⟩
   ·exact ⟨_,z⟩
  ·rcases s _ _ ha with z | ⟨_,_,z,_⟩
   ·rw [du ha,du z]
   ·cases z
 ·rw [if_neg h0,if_neg h0]
def spNumber:Sp:=fun vs H Q _=>∃ (p:Addr) (P a b:Int) (g:Bool) (k:Nat),vs=[.int P,.ref p,.bl g]/\PrimeOk P/\H p=some (.lst [.int a,.int b])/\BagOk a b k/\k <= 700000/\
 ∀ (v:V) (a' b':Int) (H':Hp),NumIs P H' v->H' p=some (.lst [.int a',.int b'])->BagOk a' b' (k + 8)->(∀ c o,H c=some o->c ≠ p->H' c=some o)->Q v H'
def spLike (K:Frag):Sp:=fun vs H Q _=>∃ (P:Int) (v:V),vs=[.int P,v]/\PrimeOk P/\Thing K H v/\∀ H',Same H H'->Q (.bl (fo P H v)) H'
section
variable {P:Program} {w:World} {K:Frag} {mg:Str->Option Value} {base:Heap}
theorem fN:FnScope ["_law_prime_here", "_law_bag_here", "_law_great_here"] ["_law_prime_here", "_law_bag_here", "_law_great_here"] (al cV):=.i
theorem ok_number {f:Addr} {fd:FuncData} (F:Fun K "_law_number" "_law_number" cV f fd) (T:Blt mg) (G_law_take:FnB P w K mg base 1 "_law_take" cF) (G_law_great:FnB P w K mg base 2 "_law_great" jA) (G_law_signed:FnB P w K mg base 3 "_law_signed" jM) (G_law_low:FnB P w K mg base 1 "_law_low" jD) :
  aI P w K mg base CX0 4 f fd ["_law_prime_here", "_law_bag_here", "_law_great_here"] spNumber:=by
 refine F.ok fN (fun vs H Q E h=>?_) (fun cdv A outer s H vs Q E hr h=>?_)
 ·obtain ⟨p,P,a,b,g,k,rfl,_⟩:=h
  rfl
 ·obtain ⟨p,P,a,b,g,k,rfl,hP,hp,hb,hk,q⟩:=h
  refine ⟨_,(ag (aJ (az dR (pv 0) ae (ar _))
(ak (aq (aw G_law_take hr.m (aa (pv 1) (aa (pv 0) af)))))
aB)
(ag (aJ (aW (pv 2))
(ak (aq (aw G_law_low hr.m (aa (aw G_law_signed hr.m (aa (pv 1) af)) (aa (pl_max T (aa ae (aa (aw G_law_great hr.m (aa (pv 1) af)) af))) af)))))
aB)
(ak (aq (aw G_law_low hr.m (aa (au bx (aw G_law_take hr.m (aa (pv 1) (aa ae af))) ae) (aa (au aP ae (au cE (aw G_law_take hr.m (aa (pv 1) (aa ae af))) ae)) af))))))),?_⟩
  have k1:∀ o c o',H c=some o'->c ≠ p->(upd H p o) c=some o':=fun o c o' e hc=>by rw [ao hc]; exact e
  refine ⟨_,rfl,_,_,rfl,rfl,_,rfl,bD (fun h=>?_) (fun h=>?_)⟩
  ·have h0:0 < P:=of_decide_eq_true h
   have h9:P <= 9973:=by rcases hP with z | ⟨_,z,_⟩<;>omega
   refine ⟨_,rfl,_,rfl,p,a,b,P,k,rfl,hp,hb,by omega,h0,aC (by omega) (by omega),fun r a1 b1 r0 r1 hb1=>?_⟩
   exact q _ a1 b1 _ (.inl ⟨by omega,r,rfl,r0,r1⟩) ac (hb1.mono (by omega)) (k1 _)
  have h0:P=0:=by
   have h1:¬ 0 < P:=fun z=>h (decide_eq_true z)
   rcases hP with z | ⟨z,_⟩<;>omega
  have low:∀ (n d a' b':Int) (t:Addr),0 < d->n.natAbs < 10 ^ 31->d.natAbs < 10 ^ 31->BagOk a' b' (k + 8)->(upd H p (.lst [.int a',.int b'])) t=none->
    Q (.ref t) (upd (upd H p (.lst [.int a',.int b'])) t (.tup [.int (nrm n d).1,.int (nrm n d).2])):=fun n d a' b' t hd hn hd2 hb' ht=>by
   have pt:p ≠ t:=ah (o:=.lst [.int a',.int b']) ac ht
   have hl:=jL n d (by omega)
   refine q _ a' b' _ (.inr ⟨h0,t,_,_,rfl,ac,ju n d (by omega),ip n d (by omega),Nat.lt_of_le_of_lt hl.1 hn,Nat.lt_of_le_of_lt hl.2 hd2⟩) (by rw [ao pt,ac]) hb' fun c o e hc=>?_
   rw [ao (ah (k1 _ c o e hc) ht)]
   exact k1 _ c o e hc
  have big:∀ d:Int,d.natAbs < 10 ^ 31->d.natAbs < 2 ^ 4000:=fun d h=>Nat.lt_trans h (Nat.lt_trans pow31 pow2000)
  refine ⟨_,rfl,_,rfl,?_⟩
  cases g with
  | true=>
   refine aH ⟨_,rfl,p,a,b,k,rfl,hp,hb,by omega,fun r1 a1 b1 r10 r11 hb1=>?_⟩
   refine ⟨_,rfl,p,a1,b1,k + 4,rfl,ac,hb1,by omega,fun r2 a2 b2 r20 r21 hb2=>?_⟩
   refine ⟨_,_,rfl,?_⟩
   rw [cW]
   have hm:(1:Int) <= (if r2 > 1 then r2 else 1)/\(if r2 > 1 then r2 else 1) < 1000000000000000000000000000000:=by split<;>omega
   generalize (if r2 > 1 then r2 else 1)=m at hm
   refine ⟨r1,m,rfl,by omega,big _ (by omega),fun t ht=>?_⟩
   exact low r1 m a2 b2 t (by omega) (by omega) (by omega) (hb2.mono (by omega)) ht
  | false=>
   refine aO ⟨_,rfl,p,a,b,7,k,rfl,hp,hb,by omega,by decide,aC (by decide) (by decide),fun r1 a1 b1 r10 r11 hb1=>?_⟩
   refine ⟨_,_,rfl,rfl,?_⟩
   refine ⟨_,rfl,p,a1,b1,8,k + 1,rfl,ac,hb1,by omega,by decide,aC (by decide) (by decide),fun r2 a2 b2 r20 r21 hb2=>?_⟩
   refine ⟨_,_,rfl,rfl,fK (by decide) (by decide),_,_,rfl,rfl,?_⟩
   rw [cW]
   have hm:(1:Int) <= 1 + r2.fdiv 7/\1 + r2.fdiv 7 < 100:=by
    rw [Int.fdiv_eq_ediv_of_nonneg _ (by decide)]
    omega
   refine ⟨r1 - 3,1 + r2.fdiv 7,rfl,by omega,big _ (by omega),fun t ht=>?_⟩
   exact low (r1 - 3) (1 + r2.fdiv 7) a2 b2 t (by omega) (by omega) (by omega) (hb2.mono (by omega)) ht
theorem gl:FnScope ["_law_prime_here", "_law_found"] ["_law_prime_here", "_law_found"] (al cm):=.i
theorem ok_like {f:Addr} {fd:FuncData} (F:Fun K "_law_number_like" "_law_number_like" cm f fd) (T:Blt mg) (G_law_whole:FnB P w K mg base 1 "_law_whole" (dO K)) (G_law_low:FnB P w K mg base 1 "_law_low" jD) :
  aI P w K mg base CX0 2 f fd ["_law_prime_here", "_law_found"] (spLike K):=by
 refine F.ok gl (fun vs H Q E h=>?_) (fun cdv A outer s H vs Q E hr h=>?_)
 ·obtain ⟨P,v,rfl,_⟩:=h
  rfl
 ·obtain ⟨P,v,rfl,hP,⟨ty,hv⟩,q⟩:=h
  refine ⟨_,(ag (aJ (az dR (pv 0) ae (ar _))
(ak (aq (cr (aw G_law_whole hr.m (aa (pv 1) af)) (bY (pe_chain je ib ae (pv 1) (pv 0))))))
aB)
(ag (aJ (PW.pt (bR (aY (aW (bX K T (pv 1) T.tuple cx))) (bR (az iw (bo K T (pv 1)) ae (ar _)) (bR (aY (aW (aw G_law_whole hr.m (aa (aE (aF K rfl) (pv 1) ae (fun _ _=>rfl)) af)))) (bL (aY (aW (aw G_law_whole hr.m (aa (aE (aF K rfl) (pv 1) ae (fun _ _=>rfl)) af)))))))))
(ak (aq bQ))
aB)
(ak (aq (cr (aV dR (aE (aF K rfl) (pv 1) ae (fun _ _=>rfl)) ae (ar _)) (bY (aV (keqD K rfl hr.units) (aw G_law_low hr.m (aa (aE (aF K rfl) (pv 1) ae (fun _ _=>rfl)) (aa (aE (aF K rfl) (pv 1) ae (fun _ _=>rfl)) af))) (pv 1) (ar _)))))))),?_⟩
  refine ⟨_,rfl,_,_,rfl,rfl,_,rfl,bD (fun h=>?_) (fun h=>?_)⟩
  ·have h0:0 < P:=of_decide_eq_true h
   have z:=q H (Same.refl H)
   unfold fo at z
   rw [if_neg (by omega)] at z
   obtain ⟨t,b,c,ty,h1,h2,e⟩:=ty
   refine ⟨_,rfl,v,t,b,c,rfl,ty,h1,h2,_,rfl,?_⟩
   rw [e]
   cases v with
   | int i=>
    refine aH ⟨_,rfl,_,_,rfl,rfl,_,rfl,?_⟩
    by_cases hi:0 <= i
    ·rw [decide_eq_true hi]
     refine aH ⟨_,rfl,_,_,rfl,rfl,?_⟩
     have z':Q (.bl (decide (0 <= i) && decide (i < P))) H:=z
     rw [decide_eq_true hi,Bool.true_and] at z'
     exact z'
    ·rw [decide_eq_false hi]
     have z':Q (.bl (decide (0 <= i) && decide (i < P))) H:=z
     rw [decide_eq_false hi,Bool.false_and] at z'
     exact aO z'
   | _=>exact aO z
  ·have h0:P=0:=by
    have h1:¬ 0 < P:=fun z=>h (decide_eq_true z)
    rcases hP with z | ⟨z,_⟩<;>omega
   unfold fo at q
   rw [if_pos h0] at q
   rcases hv with ⟨t,ty,e,hn⟩ | ⟨a,xs,rfl,ha,hl,hty,hbd⟩
   ·rw [eK hn] at q
    exact ⟨_,rfl,t,false,ty,e,_,rfl,aH (aH (q H (Same.refl H)))⟩
   ·rw [du ha] at q
    refine ⟨_,rfl,_,true,.tup ha,rfl,_,rfl,aO ?_⟩
    refine ⟨_,rfl,a,xs,rfl,.inr (SqT.of ha),rfl,_,rfl,?_⟩
    by_cases hL:(xs.length:Int)=2
    ·refine jP (congrArg V.int hL) ?_
     match xs,hL with
     | [x,y],_=>
     obtain ⟨t1,b1,c1,ty1,h11,h12,e1⟩:=hty x (by simp)
     obtain ⟨t2,b2,c2,ty2,h21,h22,e2⟩:=hty y (by simp)
     refine ⟨_,rfl,a,_,_,_,rfl,rfl,SqT.of ha,rfl,x,t1,b1,c1,rfl,ty1,h11,h12,_,rfl,?_⟩
     rw [e1]
     cases x with
     | int n=>
      refine aO ?_
      refine ⟨_,rfl,a,_,_,_,rfl,rfl,SqT.of ha,rfl,y,t2,b2,c2,rfl,ty2,h21,h22,_,rfl,?_⟩
      rw [e2]
      cases y with
      | int d=>
       refine aO ?_
       refine ⟨_,rfl,a,_,_,_,rfl,rfl,SqT.of ha,rfl,_,_,rfl,rfl,_,rfl,?_⟩
       have q':∀ H',Same H H'->Q (.bl (decide (1 <= d) && decide (Int.gcd n d=1))) H':=q
       by_cases hd:0 < d
       ·rw [decide_eq_true (show 1 <= d by omega),Bool.true_and] at q'
        rw [decide_eq_true hd]
        refine aH ⟨_,rfl,a,_,_,_,rfl,rfl,SqT.of ha,rfl,_,rfl,a,_,_,_,rfl,rfl,SqT.of ha,rfl,n,d,rfl,by omega,Nat.lt_trans (hbd d (by simp)) pow2000,fun t nt=>?_⟩
        have st:=Same.new (o:=.tup [.int (nrm n d).1,.int (nrm n d).2]) nt
        refine ⟨_,rfl,dB [(nrm n d).1,(nrm n d).2],dB [n,d],dW (SqT.of ac),dW (SqT.of (st _ _ ha)),bI _,bI _,?_⟩
        rw [ft]
        have ed:decide ([(nrm n d).1,(nrm n d).2]=[n,d])=decide (Int.gcd n d=1):=by
         apply decide_eq_decide.mpr
         rw [<- fw n d hd]
         constructor
         ·intro z
          injection z with z1 z2
          injection z2 with z2
          exact Prod.ext z1 z2
         ·intro z
          rw [z]
        rw [ed]
        exact q' _ st
       ·rw [decide_eq_false (show ¬ 1 <= d by omega),Bool.false_and] at q'
        rw [decide_eq_false hd]
        exact aO (q' H (Same.refl H))
      | _=>exact aH (q H (Same.refl H))
     | _=>exact aH (aH (by cases y<;>exact q H (Same.refl H)))
    ·have e0:(!decide (V.int (xs.length:Int)=V.int 2))=true:=by
      rw [decide_eq_false (fun z=>hL (by injection z))]; rfl
     rw [e0]
     have z:=q H (Same.refl H)
     have ep:gY xs=false:=by
      unfold gY
      split
      ·exact absurd rfl hL
      ·rfl
     rw [ep] at z
     exact aH (aH z)
end
def At (P:Int) (H:Hp) (v:V) (x:Int × Int):Prop:=(P=0/\∃ t,v=.ref t/\H t=some (.tup [.int x.1,.int x.2]))\/(P ≠ 0/\v=.int x.1/\x.2=1)
theorem At.mono {P:Int} {H H':Hp} {v:V} {x:Int × Int} (h:At P H v x) (k:∀ t xs,H t=some (.tup xs)->H' t=some (.tup xs)):At P H' v x:=by
 rcases h with ⟨h0,t,rfl,e⟩ | h
 ·exact .inl ⟨h0,t,rfl,k _ _ e⟩
 ·exact .inr h
theorem At.same {P:Int} {H H':Hp} {v:V} {x:Int × Int} (h:At P H v x) (s:Same H H'):At P H' v x:=h.mono fun t xs e=>s _ _ e
theorem pow_1000:(2:Nat) ^ 1900 < 2 ^ 4000:=Nat.pow_lt_pow_right (by decide) (by decide)
theorem mulSz {a b:Int} (h1:a.natAbs < 2 ^ 1900) (h2:b.natAbs < 2 ^ 1900):IntMulOk a b:=mulOk (Nat.lt_trans h1 pow_1000) (Nat.lt_trans h2 pow_1000)
theorem mulSz2 {a b:Int} (h1:a.natAbs < 2 ^ 1900) (h2:b.natAbs < 2 ^ 1900):(a * b).natAbs < 2 ^ 4000:=Nat.lt_of_lt_of_le (j3 h1 h2) (iH (by decide))
def l3 (CN:Addr):Sp:=fun vs H Q E=>∃ (x:V) (a b:Int),vs=[x,.int a,.int b]/\(b=0->E (.ref CN) none H)/\(b ≠ 0->b.natAbs < 2 ^ 4000/\∀ t,H t=none->Q (.ref t) (upd H t (.tup [.int (nrm a b).1,.int (nrm a b).2])))
section
variable {P:Program} {w:World} {K:Frag} {mg:Str->Option Value} {base:Heap}
theorem sc_Fractions_of:FnScope ["self", "top", "bottom", "common"] ["self", "top", "bottom"] (al aL):=.i
theorem ok_fofx {f C_NoNumber:Addr} {fd:FuncData} (F:FunD K "of" "Fractions.of" aL f fd) (Ggreatest_divisor:FnB P w K mg base 1 "greatest_divisor" spGcd) (ANoNumber:mg "NoNumber"=some (.ref C_NoNumber)) (xc:XCl K C_NoNumber) :
  aI P w K mg base (CXE P w) 2 f fd ["self", "top", "bottom"] (l3 C_NoNumber):=by
 refine F.okX sc_Fractions_of (fun vs H Q E h=>?_) (fun cdv A outer s H vs Q E hr h=>?_)
 ·obtain ⟨x,a,b,rfl,_⟩:=h
  rfl
 ·obtain ⟨x,a,b,rfl,hz,hq⟩:=h
  refine ⟨_,(ag (aJ (az bH (pv 2) ae (ar _))
(ak (ko xc.ek ANoNumber (aa mz af)))
aB)
(ag (aJ (az bH (pv 2) ae (ar _))
(ak (aq (bM (aa (pv 1) (aa ae af)))))
aB)
(ag (aA (i:=3) sc_Fractions_of.nd rfl (Or.inl rfl) (aw Ggreatest_divisor hr.m (aa (pv 1) (aa (pv 2) af))))
(ag (aJ (az ib (pv 2) ae (ar _))
(ak (aA (i:=3) sc_Fractions_of.nd rfl (Or.inl rfl) (pe_un un_neg (pv 3))))
aB)
(ak (aq (bM (aa (au cE (pv 1) (pv 3)) (aa (au cE (pv 2) (pv 3)) af))))))))),?_⟩
  refine ⟨_,rfl,rfl,_,rfl,?_⟩
  by_cases hb:b=0
  ·subst hb
   rw [decide_eq_true rfl]
   exact aH ⟨(by show 1 <= sizeLine; decide),hz rfl⟩
  obtain ⟨hbs,q⟩:=hq hb
  rw [decide_eq_false (show ¬ V.int b=V.int 0 from fun z=>hb (by injection z))]
  refine aO ⟨_,rfl,rfl,_,rfl,bD (fun h=>?_) (fun h=>?_)⟩
  ·have h1:b=1:=by
    have:=of_decide_eq_true h
    injection this
   subst h1
   refine ⟨_,rfl,(by show 2 <= sizeLine; decide),fun t ht=>?_⟩
   have z:=q t ht
   rw [(fw a 1 (by decide)).mpr (Int.gcd_one_right ..)] at z
   exact z
  ·refine ⟨_,rfl,_,rfl,a,b,rfl,?_⟩
   have hgp:0 < Int.gcd a b:=Int.gcd_pos_of_ne_zero_right a hb
   have hgl:Int.gcd a b <= b.natAbs:=Nat.le_of_dvd (by omega) (Nat.gcd_dvd_right a.natAbs b.natAbs)
   have sm:(Int.gcd a b) < 2 ^ 4000:=Nat.lt_of_le_of_lt hgl hbs
   refine ⟨_,rfl,_,_,rfl,rfl,_,rfl,bD (fun h=>?_) (fun h=>?_)⟩
   ·have hb0:b < 0:=of_decide_eq_true h
    refine ⟨_,rfl,_,rfl,?_⟩
    have sm2:CDivA a (-(Int.gcd a b:Int)):=⟨by omega,by rw [Int.natAbs_neg,Int.natAbs_natCast]; exact sm⟩
    refine ⟨_,rfl,_,rfl,_,_,rfl,rfl,sm2,_,rfl,_,rfl,_,_,rfl,rfl,sm2,(by show 2 <= sizeLine; decide),fun t ht=>?_⟩
    have z:=q t ht
    unfold nrm at z
    rw [if_pos hb0] at z
    exact z
   ·have hb0:¬ b < 0:=fun z=>h (decide_eq_true z)
    have sm2:CDivA a (Int.gcd a b:Int):=⟨by omega,by rw [Int.natAbs_natCast]; exact sm⟩
    refine ⟨_,rfl,_,rfl,_,_,rfl,rfl,sm2,_,rfl,_,rfl,_,_,rfl,rfl,sm2,(by show 2 <= sizeLine; decide),fun t ht=>?_⟩
    have z:=q t ht
    unfold nrm at z
    rw [if_neg hb0] at z
    exact z
end
theorem PrimeOk.b {P:Int} (h:PrimeOk P):0 <= P/\P <= 9973/\P ≠ 1:=by
 rcases h with h | ⟨h1,h2,_⟩<;>omega
def spLOp (g:Int->Int × Int->Int × Int->Int × Int):Sp:=fun vs H Q _=>∃ (P:Int) (u v:V) (x y:Int × Int),vs=[.int P,u,v]/\PrimeOk P/\At P H u x/\At P H v y/\OkN P x/\OkN P y/\Sz 1900 x/\Sz 1900 y/\∀ r H',Same H H'->At P H' r (g P x y)->Q r H'
section
variable {P:Program} {w:World} {K:Frag} {mg:Str->Option Value} {base:Heap}
theorem mq:FnScope ["_law_prime_here", "_law_one", "_law_other"] ["_law_prime_here", "_law_one", "_law_other"] (al fz):=.i
theorem ok_lplus {f:Addr} {fd:FuncData} (F:Fun K "_law_plus" "_law_plus" fz f fd) (G_law_low:FnB P w K mg base 1 "_law_low" jD):aI P w K mg base CX0 2 f fd ["_law_prime_here", "_law_one", "_law_other"] (spLOp eN):=by
 refine F.ok mq (fun vs H Q E h=>?_) (fun cdv A outer s H vs Q E hr h=>?_)
 ·obtain ⟨P,u,v,x,y,rfl,_⟩:=h
  rfl
 ·obtain ⟨P,u,v,x,y,rfl,hP,hu,hv,ox,oy,sx,sy,q⟩:=h
  refine ⟨_,(ag (aJ (az bH (pv 0) ae (ar _))
(ak (aq (aw G_law_low hr.m (aa (au aP (au im (aE (aF K rfl) (pv 1) ae (fun _ _=>rfl)) (aE (aF K rfl) (pv 2) ae (fun _ _=>rfl))) (au im (aE (aF K rfl) (pv 2) ae (fun _ _=>rfl)) (aE (aF K rfl) (pv 1) ae (fun _ _=>rfl)))) (aa (au im (aE (aF K rfl) (pv 1) ae (fun _ _=>rfl)) (aE (aF K rfl) (pv 2) ae (fun _ _=>rfl))) af)))))
aB)
(ak (aq (au bO (au aP (pv 1) (pv 2)) (pv 0))))),?_⟩
  unfold eN at q
  refine ⟨_,rfl,rfl,_,rfl,bD (fun h=>?_) (fun h=>?_)⟩
  ·have h0:P=0:=by have:=of_decide_eq_true h; injection this
   rcases hu with ⟨_,s,rfl,hs⟩ | ⟨z,_⟩
   ·rcases hv with ⟨_,t,rfl,ht⟩ | ⟨z,_⟩
    ·rw [if_pos h0] at q
     refine ⟨_,rfl,s,_,_,_,rfl,rfl,SqT.of hs,rfl,_,rfl,t,_,_,_,rfl,rfl,SqT.of ht,rfl,_,_,rfl,rfl,mulSz sx.1 sy.2,_,rfl,t,_,_,_,rfl,rfl,SqT.of ht,rfl,_,rfl,s,_,_,_,rfl,rfl,SqT.of hs,rfl,_,_,rfl,rfl,mulSz sy.1 sx.2,_,_,rfl,rfl,?_⟩
     refine ⟨_,rfl,s,_,_,_,rfl,rfl,SqT.of hs,rfl,_,rfl,t,_,_,_,rfl,rfl,SqT.of ht,rfl,_,_,rfl,rfl,mulSz sx.2 sy.2,_,_,rfl,gd ox.den oy.den,mulSz2 sx.2 sy.2,fun r nr=>?_⟩
     exact q _ _ (Same.new nr) (.inl ⟨h0,r,rfl,ac⟩)
    ·exact absurd h0 z
   ·exact absurd h0 z
  ·have h0:P ≠ 0:=fun z=>h (decide_eq_true (congrArg V.int z))
   have hPp:0 < P:=by have:=hP.b; omega
   rcases hu with ⟨z,_⟩ | ⟨_,rfl,_⟩
   ·exact absurd z h0
   ·rcases hv with ⟨z,_⟩ | ⟨_,rfl,_⟩
    ·exact absurd z h0
    ·rw [if_neg h0] at q
     exact ⟨_,rfl,_,rfl,_,_,rfl,rfl,_,rfl,_,_,rfl,rfl,hPp,q _ H (Same.refl H) (.inr ⟨h0,rfl,rfl⟩)⟩
end
section
variable {P:Program} {w:World} {K:Frag} {mg:Str->Option Value} {base:Heap}
theorem kQ:FnScope ["_law_prime_here", "_law_one", "_law_other"] ["_law_prime_here", "_law_one", "_law_other"] (al eW):=.i
theorem ok_ltimes {f:Addr} {fd:FuncData} (F:Fun K "_law_times" "_law_times" eW f fd) (G_law_low:FnB P w K mg base 1 "_law_low" jD):aI P w K mg base CX0 2 f fd ["_law_prime_here", "_law_one", "_law_other"] (spLOp jh):=by
 refine F.ok kQ (fun vs H Q E h=>?_) (fun cdv A outer s H vs Q E hr h=>?_)
 ·obtain ⟨P,u,v,x,y,rfl,_⟩:=h
  rfl
 ·obtain ⟨P,u,v,x,y,rfl,hP,hu,hv,ox,oy,sx,sy,q⟩:=h
  refine ⟨_,(ag (aJ (az bH (pv 0) ae (ar _))
(ak (aq (aw G_law_low hr.m (aa (au im (aE (aF K rfl) (pv 1) ae (fun _ _=>rfl)) (aE (aF K rfl) (pv 2) ae (fun _ _=>rfl))) (aa (au im (aE (aF K rfl) (pv 1) ae (fun _ _=>rfl)) (aE (aF K rfl) (pv 2) ae (fun _ _=>rfl))) af)))))
aB)
(ak (aq (au bO (au bC (pv 1) (pv 2)) (pv 0))))),?_⟩
  unfold jh at q
  refine ⟨_,rfl,rfl,_,rfl,bD (fun h=>?_) (fun h=>?_)⟩
  ·have h0:P=0:=by have:=of_decide_eq_true h; injection this
   rcases hu with ⟨_,s,rfl,hs⟩ | ⟨z,_⟩
   ·rcases hv with ⟨_,t,rfl,ht⟩ | ⟨z,_⟩
    ·rw [if_pos h0] at q
     refine ⟨_,rfl,s,_,_,_,rfl,rfl,SqT.of hs,rfl,_,rfl,t,_,_,_,rfl,rfl,SqT.of ht,rfl,_,_,rfl,rfl,mulSz sx.1 sy.1,?_⟩
     refine ⟨_,rfl,s,_,_,_,rfl,rfl,SqT.of hs,rfl,_,rfl,t,_,_,_,rfl,rfl,SqT.of ht,rfl,_,_,rfl,rfl,mulSz sx.2 sy.2,_,_,rfl,gd ox.den oy.den,mulSz2 sx.2 sy.2,fun r nr=>?_⟩
     exact q _ _ (Same.new nr) (.inl ⟨h0,r,rfl,ac⟩)
    ·exact absurd h0 z
   ·exact absurd h0 z
  ·have h0:P ≠ 0:=fun z=>h (decide_eq_true (congrArg V.int z))
   have hb:=hP.b
   have hPp:0 < P:=by omega
   rcases hu with ⟨z,_⟩ | ⟨_,rfl,_⟩
   ·exact absurd z h0
   ·rcases hv with ⟨z,_⟩ | ⟨_,rfl,_⟩
    ·exact absurd z h0
    ·rw [if_neg h0] at q
     rcases ox with ⟨z,_⟩ | ⟨_,x0,x1,_⟩
     ·exact absurd z h0
     exact ⟨_,rfl,_,rfl,_,_,rfl,rfl,.inl ⟨by omega,by omega⟩,_,rfl,_,_,rfl,rfl,hPp,q _ H (Same.refl H) (.inr ⟨h0,rfl,rfl⟩)⟩
end
def jY:Sp:=fun vs H Q _=>∃ P:Int,vs=[.int P]/\PrimeOk P/\∀ r H',Same H H'->At P H' r (0,1)->Q r H'
section
variable {P:Program} {w:World} {K:Frag} {mg:Str->Option Value} {base:Heap}
theorem kl:FnScope ["_law_prime_here"] ["_law_prime_here"] (al eA):=.i
theorem ok_nought {f:Addr} {fd:FuncData} (F:Fun K "_law_nought" "_law_nought" eA f fd) (T:Blt mg):aI P w K mg base CX0 1 f fd ["_law_prime_here"] jY:=by
 refine F.ok kl (fun vs H Q E h=>?_) (fun cdv A outer s H vs Q E hr h=>?_)
 ·obtain ⟨P,rfl,_⟩:=h
  rfl
 ·obtain ⟨P,rfl,hP,q⟩:=h
  refine ⟨_,(ak (aq (aE (aD K rfl) (bb (aa (bM (aa ae (aa ae af))) (aa ae af))) (eE lA (by rfl) T.int gh (aa (aV dR (pv 0) ae (ar _)) af)) (fun _ _=>rfl)))),?_⟩
  refine ⟨(by show 2 <= sizeLine; decide),fun t nt=>?_⟩
  refine ⟨(by show 2 <= sizeLine; decide),fun l nl=>?_⟩
  have s1:=Same.new (o:=.tup [.int 0,.int 1]) nt
  have s2:=Same.new (o:=.lst [.ref t,.int 0]) nl
  have hb:=hP.b
  by_cases h0:P=0
  ·refine ⟨_,rfl,_,_,rfl,rfl,.inr ⟨_,rfl,l,_,_,_,rfl,rfl,SqL.of ac,(by rw [decide_eq_false (by omega)]; rfl),?_⟩⟩
   exact q _ _ (s1.trans s2) (.inl ⟨h0,t,rfl,s2 _ _ ac⟩)
  ·refine ⟨_,rfl,_,_,rfl,rfl,.inr ⟨_,rfl,l,_,_,_,rfl,rfl,SqL.of ac,(by rw [decide_eq_true (by omega)]; rfl),?_⟩⟩
   exact q _ _ (s1.trans s2) (.inr ⟨h0,rfl,rfl⟩)
end
def mK:Sp:=fun vs H Q _=>∃ P:Int,vs=[.int P]/\PrimeOk P/\∀ r H',Same H H'->At P H' r (1,1)->Q r H'
section
variable {P:Program} {w:World} {K:Frag} {mg:Str->Option Value} {base:Heap}
theorem m5:FnScope ["_law_prime_here"] ["_law_prime_here"] (al fJ):=.i
theorem ok_unit {f:Addr} {fd:FuncData} (F:Fun K "_law_unit" "_law_unit" fJ f fd) (T:Blt mg):aI P w K mg base CX0 1 f fd ["_law_prime_here"] mK:=by
 refine F.ok m5 (fun vs H Q E h=>?_) (fun cdv A outer s H vs Q E hr h=>?_)
 ·obtain ⟨P,rfl,_⟩:=h
  rfl
 ·obtain ⟨P,rfl,hP,q⟩:=h
  refine ⟨_,(ak (aq (aE (aD K rfl) (bb (aa (bM (aa ae (aa ae af))) (aa ae af))) (eE lA (by rfl) T.int gh (aa (aV dR (pv 0) ae (ar _)) af)) (fun _ _=>rfl)))),?_⟩
  refine ⟨(by show 2 <= sizeLine; decide),fun t nt=>?_⟩
  refine ⟨(by show 2 <= sizeLine; decide),fun l nl=>?_⟩
  have s1:=Same.new (o:=.tup [.int 1,.int 1]) nt
  have s2:=Same.new (o:=.lst [.ref t,.int 1]) nl
  have hb:=hP.b
  by_cases h0:P=0
  ·refine ⟨_,rfl,_,_,rfl,rfl,.inr ⟨_,rfl,l,_,_,_,rfl,rfl,SqL.of ac,(by rw [decide_eq_false (by omega)]; rfl),?_⟩⟩
   exact q _ _ (s1.trans s2) (.inl ⟨h0,t,rfl,s2 _ _ ac⟩)
  ·refine ⟨_,rfl,_,_,rfl,rfl,.inr ⟨_,rfl,l,_,_,_,rfl,rfl,SqL.of ac,(by rw [decide_eq_true (by omega)]; rfl),?_⟩⟩
   exact q _ _ (s1.trans s2) (.inr ⟨h0,rfl,rfl⟩)
end
def dN (P:Int) (x:Int × Int):PyData:=if P=0 then dB [x.1,x.2] else .int x.1
theorem jT {K:Frag} {P:Int} {H:Hp} {v:V} {x:Int × Int} (h:At P H v x):DR K H (dN P x) v:=by
 unfold dN
 rcases h with ⟨h0,t,rfl,e⟩ | ⟨h0,rfl,_⟩
 ·rw [if_pos h0]
  exact dW (ns:=[x.1,x.2]) (SqT.of e)
 ·rw [if_neg h0]
  exact .int _
theorem cO (P:Int) (x:Int × Int):SeqAt.shaped (dN P x)=true:=by
 unfold dN
 split
 ·exact bI _
 ·rfl
theorem At.thing {K:Frag} {P:Int} {H:Hp} {v:V} {x:Int × Int} (h:At P H v x) (o:OkN P x) (s:Sz 1900 x):Thing K H v/\fo P H v=true:=by
 have p2:(2:Nat) ^ 1900 < 2 ^ 2000:=Nat.pow_lt_pow_right (by decide) (by decide)
 rcases h with ⟨h0,t,rfl,e⟩ | ⟨h0,rfl,_⟩
 ·rcases o with ⟨_,hd,hg⟩ | ⟨z,_⟩
  ·refine ⟨⟨.tup e,.inr ⟨t,_,rfl,e,by show 2 <= 1000; decide,eY [x.1,x.2],fun i hi=>?_⟩⟩,?_⟩
   ·have h:i=x.1\/i=x.2:=by
     rcases List.mem_cons.mp hi with z | z
     ·injection z with z; exact .inl z
     ·rcases List.mem_cons.mp z with z | z
      ·injection z with z; exact .inr z
      ·cases z
    rcases h with rfl | rfl
    ·exact Nat.lt_trans s.1 p2
    ·exact Nat.lt_trans s.2 p2
   ·unfold fo
    rw [if_pos h0,du e]
    show (decide (1 <= x.2) && decide (Int.gcd x.1 x.2=1))=true
    rw [decide_eq_true (show 1 <= x.2 by omega),decide_eq_true hg]
    rfl
  ·exact absurd h0 z
 ·rcases o with ⟨z,_⟩ | ⟨_,r0,r1,_⟩
  ·exact absurd z h0
  ·refine ⟨⟨.int _,.inl ⟨_,.int _,rfl,fun a z=>by cases z⟩⟩,?_⟩
   unfold fo
   rw [if_neg h0]
   show (decide (0 <= x.1) && decide (x.1 < P))=true
   rw [decide_eq_true r0,decide_eq_true r1]
   rfl
def spDeg (K:Frag):Sp:=fun vs H Q _=>∃ (a:Addr) (ns:List Int),vs=[.ref a]/\SqT K H a (ns.map V.int)/\Q (.int ns.sum) H
section
variable {P:Program} {w:World} {K:Frag} {mg:Str->Option Value} {base:Heap}
theorem sc_degree:FnScope ["one"] ["one"] (al jR):=.i
theorem ok_degree {f:Addr} {fd:FuncData} (F:Fun K "degree" "degree" jR f fd) (T:Blt mg):aI P w K mg base CX0 1 f fd ["one"] (spDeg K):=by
 refine F.ok sc_degree (fun vs H Q E h=>?_) (fun cdv A outer s H vs Q E hr h=>?_)
 ·obtain ⟨a,ns,rfl,_⟩:=h
  rfl
 ·obtain ⟨a,ns,rfl,ha,q⟩:=h
  refine ⟨_,(ak (aq (iF K T (pv 0) true))),?_⟩
  exact ⟨_,rfl,a,ns,rfl,mt ha,q⟩
end
abbrev am:=List Int × (Int × Int)
def PartR (P:Int) (H:Hp) (v:V) (p:am):Prop:=∃ (t k:Addr) (u:V),v=.ref t/\H t=some (.tup [.ref k,u])/\H k=some (.tup (p.1.map V.int))/\At P H u p.2
abbrev PartsR (P:Int) (H:Hp):List V->List am->Prop:=Paired (PartR P H)
theorem PartR.mono {P:Int} {H H':Hp} {v:V} {p:am} (k:∀ t xs,H t=some (.tup xs)->H' t=some (.tup xs)) (h:PartR P H v p):PartR P H' v p:=by
 obtain ⟨t,c,u,rfl,h1,h2,h3⟩:=h
 exact ⟨t,c,u,rfl,k _ _ h1,k _ _ h2,h3.mono k⟩
theorem PartsR.mono {P:Int} {H H':Hp} (k:∀ t xs,H t=some (.tup xs)->H' t=some (.tup xs)):∀ {vs:List V} {ps:List am},PartsR P H vs ps->PartsR P H' vs ps
 | _,_,.nil=>.nil
 | _,_,.cons q r=>.cons (q.mono k) (PartsR.mono k r)
theorem PartsR.at_ {P:Int} {H:Hp}:∀ {vs:List V} {ps:List am} {i:Nat} {v:V},PartsR P H vs ps->vs[i]? = some v->∃ p,ps[i]? = some p/\PartR P H v p
 | _,_,0,v,.cons q r,e=>by cases e; exact ⟨_,rfl,q⟩
 | _ :: _,_ :: _,i + 1,v,.cons q r,e=>PartsR.at_ (i:=i) r e
theorem cP {α β:Type} {R:α->β->Prop}:∀ {xs:List α} {ys:List β} {i:Nat} {x:α} {y:β},Paired R xs ys->xs[i]? = some x->ys[i]? = some y->R x y
 | _,_,0,x,y,.cons q r,e1,e2=>by cases e1; cases e2; exact q
 | _ :: _,_ :: _,i + 1,x,y,.cons q r,e1,e2=>cP (i:=i) r e1 e2
def cA (P:Int) (m:List am) (p:am):List am:=fQ m p.1 (eN P ((bS m p.1).getD (0,1)) p.2)
def acc (P:Int) (ps:List am):List am:=ps.foldl (cA P) []
theorem acc_snoc (P:Int) (ps:List am) (p:am):acc P (ps ++ [p])=cA P (acc P ps) p:=by
 unfold acc
 rw [List.foldl_append]
 rfl
theorem iC {P:Int} {ps:List am} {i:Nat} {p:am} (h:ps[i]? = some p):acc P (ps.take (i + 1))=cA P (acc P (ps.take i)) p:=by
 rw [List.take_add_one,h]
 exact acc_snoc P _ p
def fj (P:Int) (ps:List am):Prop:=(∀ p ∈ ps,OkN P p.2/\Sz 1900 p.2)/\∀ i,∀ p ∈ acc P (ps.take i),Sz 1900 p.2
theorem lF (P:Int) (ps:List am):((acc P ps).map (·.1)).Nodup:=by
 unfold acc
 have go:∀ (ps m:List am),(m.map (·.1)).Nodup->((ps.foldl (cA P) m).map (·.1)).Nodup:=by
  intro ps
  induction ps with
  | nil=>intro m h; exact h
  | cons p ps ih=>intro m h; exact ih _ (aput_nodup h)
 exact go ps [] (by simp)
theorem mR (P:Int) (ps:List am):(acc P ps).length <= ps.length:=by
 unfold acc
 have go:∀ (ps m:List am),(ps.foldl (cA P) m).length <= m.length + ps.length:=by
  intro ps
  induction ps with
  | nil=>intro m; simp
  | cons p ps ih=>
   intro m
   have h1:=ih (cA P m p)
   have h2:(cA P m p).length <= m.length + 1:=aput_len _ _ _
   show (ps.foldl (cA P) (cA P m p)).length <= _
   rw [List.length_cons]
   omega
 simpa using go ps []
theorem iN {P:Int} (hP:0 <= P) (h1:P ≠ 1) {ps:List am} (h:∀ p ∈ ps,OkN P p.2):∀ p ∈ acc P ps,OkN P p.2:=by
 unfold acc
 have go:∀ (ps m:List am),(∀ p ∈ ps,OkN P p.2)->(∀ p ∈ m,OkN P p.2)->∀ p ∈ ps.foldl (cA P) m,OkN P p.2:=by
  intro ps
  induction ps with
  | nil=>intro m _ h; exact h
  | cons p ps ih=>
   intro m hp hm
   refine ih _ (fun q hq=>hp q (by simp [hq])) fun q hq=>?_
   rcases fE hq with z | z
   ·rw [z]
    refine mV hP ?_ (hp p (by simp))
    cases e:bS m p.1 with
    | none=>exact dc hP h1
    | some y=>exact hm _ (db e)
   ·exact hm q z
 exact go ps [] h (fun p hp=>nomatch hp)
def nz (p:am):Bool:=decide (p.2 ≠ (0,1))
def hk (p:am):Int × List Int:=(p.1.sum,p.1)
def IsSum (P:Int) (ps out:List am):Prop:=out.Perm ((acc P ps).filter nz)/\out.Pairwise fun a b=>klt (hk b) (hk a)=true
theorem mm {P:Int} {ps a b:List am} (h1:IsSum P ps a) (h2:IsSum P ps b):a=b:=
 i7 (lt:=fun x y=>klt (hk x) (hk y)) (fun _=>mO _) (fun _ _ _=>i0) (h1.1.trans h2.1.symm) h1.2 h2.2
theorem jp {P:Int} {x y:Int × Int} (hx:OkN P x) (hy:OkN P y):PyData.eqv (dN P x) (dN P y)=decide (x=y):=by
 unfold dN
 by_cases h0:P=0
 ·rw [if_pos h0,if_pos h0,ft]
  apply decide_eq_decide.mpr
  constructor
  ·intro z
   injection z with z1 z2
   injection z2 with z2
   exact Prod.ext z1 z2
  ·intro z; rw [z]
 ·rw [if_neg h0,if_neg h0]
  rcases hx with ⟨z,_⟩ | ⟨_,_,_,x2⟩
  ·exact absurd z h0
  rcases hy with ⟨z,_⟩ | ⟨_,_,_,y2⟩
  ·exact absurd z h0
  have e:PyData.eqv (.int x.1) (.int y.1)=decide (x.1=y.1):=by simp only [PyData.eqv]; rfl
  rw [e]
  apply decide_eq_decide.mpr
  exact ⟨fun z=>Prod.ext z (x2.trans y2.symm),fun z=>by rw [z]⟩
theorem sz_01:Sz 1900 (0,1):=⟨Nat.pow_pos (by decide),Nat.one_lt_two_pow (by decide)⟩
def vI:V->Int
 | .int i=>i
 | _=>0
def tupI (H:Hp):V->List Int
 | .ref k=>match H k with
  | some (.tup xs)=>xs.map vI
  | _=>[]
 | _=>[]
def keyK (H:Hp) (v:V):Int × List Int:=((tupI H v).sum,tupI H v)
def hW (H:Hp):V->Int × List Int
 | .ref t=>match H t with
  | some (.tup (k :: _))=>keyK H k
  | _=>(0,[])
 | _=>(0,[])
theorem mf {H:Hp} {k:Addr} {ns:List Int} (h:H k=some (.tup (ns.map V.int))):tupI H (.ref k)=ns:=by
 show (match H k with | some (.tup xs)=>xs.map vI | _=>[])=ns
 rw [h]
 show (ns.map V.int).map vI=ns
 rw [List.map_map]
 exact List.map_id'' (fun _=>rfl) ns
theorem PartR.key {P:Int} {H:Hp} {v:V} {p:am} (h:PartR P H v p):hW H v=hk p:=by
 obtain ⟨t,k,u,rfl,h1,h2,_⟩:=h
 show (match H t with | some (.tup (k :: _))=>keyK H k | _=>(0,[]))=hk p
 rw [h1]
 show keyK H (.ref k)=hk p
 unfold keyK hk
 rw [mf h2]
theorem PartsR.keys {P:Int} {H:Hp}:∀ {vs:List V} {ps:List am},PartsR P H vs ps->vs.map (hW H)=ps.map hk
 | _,_,.nil=>rfl
 | _,_,.cons q r=>by rw [List.map_cons,List.map_cons,q.key,PartsR.keys r]
theorem hk_nodup {ps:List am} (h:(ps.map (·.1)).Nodup):(ps.map hk).Nodup:=by
 have e:ps.map hk=(ps.map (·.1)).map (fun k:List Int=>(k.sum,k)):=by rw [List.map_map]; rfl
 rw [e]
 exact List.Pairwise.map _ (fun a b hab z=>hab (congrArg Prod.snd z)) h
theorem PartsR.perm {P:Int} {H:Hp} {vs ws:List V} {ps:List am} (h:PartsR P H vs ps) (p:ws.Perm vs):∃ qs:List am,qs.Perm ps/\PartsR P H ws qs:=by
 have go:∀ {ws vs:List V},ws.Perm vs->∀ ps:List am,PartsR P H vs ps->∃ qs:List am,qs.Perm ps/\PartsR P H ws qs:=by
  intro ws vs p
  induction p with
  | nil=>intro ps h; exact ⟨ps,.refl _,h⟩
  | cons x p ih=>
   intro ps h
   cases h with
   | cons q r=>
    obtain ⟨qs,e,h'⟩:=ih _ r
    exact ⟨_ :: qs,e.cons _,.cons q h'⟩
  | swap x y l=>
   intro ps h
   cases h with
   | cons q r=>cases r with
    | cons q2 r=>exact ⟨_ :: _ :: _,.swap _ _ _,.cons q2 (.cons q r)⟩
  | trans p1 p2 ih1 ih2=>
   intro ps h
   obtain ⟨qs,e,h'⟩:=ih2 _ h
   obtain ⟨rs,e2,h2⟩:=ih1 _ h'
   exact ⟨rs,e2.trans e,h2⟩
 exact go p ps h
theorem PartsR.fall {P:Int} {H:Hp} {lt:Int × List Int->Int × List Int->Bool}:∀ {vs:List V} {ps:List am},PartsR P H vs ps->vs.Pairwise (fun x y=>lt (hW H y) (hW H x)=true)->ps.Pairwise (fun a b=>lt (hk b) (hk a)=true):=by
 intro vs ps h hp
 have z:(vs.map (hW H)).Pairwise (fun a b=>lt b a=true):=List.pairwise_map.mpr hp
 rw [h.keys] at z
 exact List.pairwise_map.mp z
theorem PartsR.snoc {P:Int} {H:Hp} {v:V} {p:am} (q:PartR P H v p):∀ {vs:List V} {ps:List am},PartsR P H vs ps->PartsR P H (vs ++ [v]) (ps ++ [p])
 | _,_,.nil=>.cons q .nil
 | _,_,.cons a r=>.cons a (PartsR.snoc q r)
theorem PartsR.mem {P:Int} {H:Hp}:∀ {vs:List V} {ps:List am} {v:V},PartsR P H vs ps->v ∈ vs->∃ p ∈ ps,PartR P H v p
 | _,_,v,.cons q r,hv=>by
  rcases List.mem_cons.mp hv with rfl | hv
  ·exact ⟨_,by simp,q⟩
  ·obtain ⟨p,hp,h⟩:=PartsR.mem r hv
   exact ⟨p,by simp [hp],h⟩
theorem jf {ps:List am} {i:Nat} {p:am} (h:ps[i]? = some p):(ps.take (i + 1)).filter nz=(ps.take i).filter nz ++ (if nz p=true then [p] else []):=by
 rw [List.take_add_one,h,List.filter_append]
 congr 1
 show List.filter nz [p]=_
 by_cases e:nz p=true
 ·rw [if_pos e]; simp [e]
 ·rw [if_neg e]; simp [e]
theorem zero_if (P:Int):(if P=0 then ((0:Int),(1:Int)) else (0 % P,1))=(0,1):=by
 split
 ·rfl
 ·rw [Int.zero_emod]
def spKey (K:Frag):Sp:=fun vs H Q _=>∃ (t k:Addr) (u:V) (ns:List Int),vs=[.ref t]/\H t=some (.tup [.ref k,u])/\SqT K H k (ns.map V.int)/\∀ r,H r=none->Q (.ref r) (upd H r (.tup [.int ns.sum,.ref k]))
def mn:Sp:=fun vs H Q _=>∃ (l:Addr) (P:Int) (ts:List V) (ps:List am),vs=[.int P,.ref l]/\PrimeOk P/\H l=some (.lst ts)/\PartsR P H ts ps/\ps.length <= 60/\fj P ps/\
 ∀ (d:Addr) (rs:List V) (out:List am) (H':Hp),H d=none->Same H H'->H' d=some (.lst rs)->PartsR P H' rs out->IsSum P ps out->Q (.ref d) H'
section
variable {P:Program} {w:World} {K:Frag} {mg:Str->Option Value} {base:Heap}
theorem sc__law_key:FnScope ["_law_part"] ["_law_part"] (al gP):=.i
theorem ok_lkey {f:Addr} {fd:FuncData} (F:Fun K "_law_key" "_law_key" gP f fd) (T:Blt mg):aI P w K mg base CX0 1 f fd ["_law_part"] (spKey K):=by
 refine F.ok sc__law_key (fun vs H Q E h=>?_) (fun cdv A outer s H vs Q E hr h=>?_)
 ·obtain ⟨t,k,u,ns,rfl,_⟩:=h
  rfl
 ·obtain ⟨t,k,u,ns,rfl,ht,hk,q⟩:=h
  refine ⟨_,(ak (aq (bM (aa (iF K T (aE (aF K rfl) (pv 0) ae (fun _ _=>rfl)) true) (aa (aE (aF K rfl) (pv 0) ae (fun _ _=>rfl)) af))))),?_⟩
  exact ⟨_,rfl,t,_,_,_,rfl,rfl,SqT.of ht,rfl,k,ns,rfl,mt hk,_,rfl,t,_,_,_,rfl,rfl,SqT.of ht,rfl,by show 2 <= sizeLine; decide,q⟩
theorem sc__law_sum:FnScope ["_law_prime_here", "_law_parts", "_law_come", "_law_product_here", "_law_number_here", "_law_found"] ["_law_prime_here", "_law_parts"] (al gE):=.i
theorem ok_lsum {f:Addr} {fd:FuncData} (F:Fun K "_law_sum" "_law_sum" gE f fd) (T:Blt mg) (G_law_plus:FnB P w K mg base 2 "_law_plus" (spLOp eN)) (G_law_nought:FnB P w K mg base 1 "_law_nought" jY) (G_law_key:FnB P w K mg base 1 "_law_key" (spKey K)) :
  aI P w K mg base CX0 4 f fd ["_law_prime_here", "_law_parts"] mn:=by
 refine F.ok sc__law_sum (fun vs H Q E h=>?_) (fun cdv A outer s H vs Q E hr h=>?_)
 ·obtain ⟨l,P,ts,ps,rfl,_⟩:=h
  rfl
 ·obtain ⟨l,P,ts,ps,rfl,hP,hl,hps,hn,hok,q⟩:=h
  have hB:=hP.b
  refine ⟨_,(ag (aA (i:=2) sc__law_sum.nd rfl (Or.inr rfl) pe_dnewT)
(ag (dh PassesOwn.never rfl (aZ K rfl (pv 1)) (dJ K (i:=3) (j:=4) rfl rfl sc__law_sum.nd rfl rfl rfl rfl)
(ak (ps_dput (hu1 hr) (pv 2) (pv 3) (aw G_law_plus hr.m (aa (pv 0) (aa (pe_dget2 (hu1 hr) (pv 2) (pv 3) (aw G_law_nought hr.m (aa (pv 0) af)) ⟨rfl,rfl,rfl,rfl⟩) (aa (pv 4) af)))) rfl)))
(ag (mM (i:=5) sc__law_sum.nd rfl (Or.inl rfl) (N:=["_law_product_here", "_law_come", "_law_prime_here"]) (src:=[none,some 2,some 0]) rfl rfl rfl (by exact (kpi_dict K rfl (pv 2))) (fun _ _ _=>by exact ⟨by exact (bU (i:=0) nd_1 rfl rfl),(fg (az (kneD K rfl hr.units) (pe_dget (hu1 hr) (pv 1) (pv 0) (fun _ _=>rfl)) (aw G_law_nought hr.m (aa (pv 2) af)) (ar _))),by exact (bM (aa (pv 0) (aa (pe_dget (hu1 hr) (pv 1) (pv 0) (fun _ _=>rfl)) af)))⟩))
(ak (aq (pe_sortK T G_law_key hr.m (pv 5))))))),?_⟩
  have lt:ts.length=ps.length:=Paired.length hps
  intro d hd
  have dl:d ≠ l:=fun z=>by rw [z,hl] at hd; cases hd
  refine ⟨_,rfl,l,rfl,⟨_,SqL.of (by rw [ao dl.symm]; exact hl)⟩,dF (xs:=ts) (fun i σ H'=>∃ (x3 x4:Option V) (kvs:List (List Key × V)),σ=[some (.int P),some (.ref l),some (.ref d),x3,x4,none]/\Same H H'/\H' d=some (.dT kvs)/\DictR (At P H') kvs (acc P (ps.take i))) ?_ ?_ ?_ ?_⟩
  ·exact ⟨none,none,[],rfl,Same.new hd,ac,.nil⟩
  ·rintro i σ H' _ ⟨x3,x4,kvs,rfl,sm,_⟩
   exact SqL.of (sm _ _ hl)
  ·rintro i x σ H1 hx ⟨x3,x4,kvs,rfl,sm,hd1,dr⟩
   obtain ⟨p,ep,t,k,u,rfl,ht,hk,hu⟩:=hps.at_ hx
   have tk:∀ t xs,H t=some (.tup xs)->H1 t=some (.tup xs):=fun t xs e=>sm _ _ e
   refine ⟨t,_,rfl,SqT.of (sm _ _ ht),rfl,_,_,rfl,_,_,rfl,rfl,?_⟩
   refine ⟨_,rfl,_,rfl,d,rfl,.inr ⟨kvs,.inl hd1⟩,_,rfl,_,rfl,P,rfl,hP,fun r H2 s2 a0=>?_⟩
   have hk2:H2 k=some (.tup ((kI p.1).map kV)):=by rw [kI_kV]; exact s2 _ _ (sm _ _ hk)
   refine ⟨_,DGet.t (s2 _ _ hd1) hk2,?_⟩
   have mp:p ∈ ps:=List.mem_of_getElem? ep
   obtain ⟨op,zp⟩:=hok.1 p mp
   have okm:∀ q ∈ acc P (ps.take i),OkN P q.2:=iN hB.1 hB.2.2 fun q hq=>(hok.1 q (List.mem_of_mem_take hq)).1
   have hw:At P H2 ((gB kvs (kI p.1)).getD r) ((bS (acc P (ps.take i)) p.1).getD (0,1))/\OkN P ((bS (acc P (ps.take i)) p.1).getD (0,1))/\Sz 1900 ((bS (acc P (ps.take i)) p.1).getD (0,1)):=by
    rcases dr.val p.1 with ⟨e1,e2⟩ | ⟨v,y,e1,e2,ra⟩
    ·rw [e1,e2]
     exact ⟨a0,dc hB.1 hB.2.2,sz_01⟩
    ·rw [e1,e2]
     exact ⟨ra.same s2,okm _ (db e2),hok.2 i _ (db e2)⟩
   refine ⟨_,rfl,P,_,u,_,p.2,rfl,hP,hw.1,(hu.same (sm.trans s2)),hw.2.1,op,hw.2.2,zp,fun r3 H3 s3 a3=>?_⟩
   refine ⟨_,rfl,_,rfl,d,_,rfl,DPut.t (k:=kI p.1) (s3 _ _ (s2 _ _ hd1)) (s3 _ _ hk2) ?_,?_⟩
   ·have h1:kvs.length=(acc P (ps.take i)).length:=Paired.length dr
    have h2:=mR P (ps.take i)
    rw [List.length_take] at h2
    rw [h1,sizeLine_eq]
    omega
   ·have d3:H3 d=some (.dT kvs):=s3 _ _ (s2 _ _ hd1)
    have keep:∀ c o,H3 c=some o->c ≠ d->upd H3 d (.dT (gJ kvs (kI p.1) r3)) c=some o:=fun c o e hc=>by rw [ao hc]; exact e
    have tk3:∀ t xs,H3 t=some (.tup xs)->upd H3 d (.dT (gJ kvs (kI p.1) r3)) t=some (.tup xs):=fun t xs e=>keep t _ e (dY e d3 (by intro z; cases z))
    refine ⟨_,_,_,rfl,fun c o e=>keep c o (s3 _ _ (s2 _ _ (sm c o e))) (ah e hd),ac,?_⟩
    rw [iC ep]
    exact DictR.put (a3.mono tk3) (dr.mono fun v x z=>((z.same s2).same s3).mono tk3)
  ·rintro σ H1 ⟨x3,x4,kvs,rfl,sm,hd1,dr⟩
   rw [lt,List.take_length] at dr
   have nd:=lF P ps
   have lm:=mR P ps
   have okm:∀ q ∈ acc P ps,OkN P q.2:=iN hB.1 hB.2.2 fun q hq=>(hok.1 q hq).1
   unfold IsSum at q
   generalize acc P ps=m at *
   refine ⟨_,rfl,d,kvs,rfl,hd1,fun o as pk=>?_⟩
   have tp:=dr.tups pk
   have la:as.length=m.length:=Paired.length tp
   have keep:∀ c u,H1 c=some u->c ≠ d->upd H1 d (.frz o (.dT kvs)) c=some u:=fun c u e hc=>by rw [ao hc]; exact e
   have tk:∀ t xs,H1 t=some (.tup xs)->upd H1 d (.frz o (.dT kvs)) t=some (.tup xs):=fun t xs e=>keep t _ e (dY e hd1 (by intro z; cases z))
   have smF:Same H (upd H1 d (.frz o (.dT kvs))):=fun c u e=>keep c u (sm c u e) (ah e hd)
   have hfz:upd H1 d (.frz o (.dT kvs)) d=some (.frz o (.dT kvs)):=ac
   have dr':DictR (At P (upd H1 d (.frz o (.dT kvs)))) kvs m:=dr.mono fun v x z=>z.mono tk
   have tpF:∀ (i:Nat) (a:Addr) (p:am),as[i]? = some a->m[i]? = some p->upd H1 d (.frz o (.dT kvs)) a=some (.tup (p.1.map V.int)):=fun i a p h1 h2=>tk _ _ (show H1 a=some (.tup (p.1.map V.int)) from cP (R:=fun (a:Addr) (q:am)=>H1 a=some (.tup (q.1.map V.int))) tp h1 h2)
   generalize upd H1 d (.frz o (.dT kvs))=HF at *
   refine be (n:=m.length) (σ0:=[none,some (.ref d),some (.int P)]) rfl (fun acc i zs σ H'=>∃ u:Option V,σ=[u,some (.ref d),some (.int P)]/\Same HF H'/\PartsR P H' zs ((m.take i).filter nz)) (by rw [sizeLine_eq]; omega) (fun acc hacc=>⟨none,rfl,Same.new hacc,.nil⟩) ?_ ?_ ?_ ?_
   ·rintro acc i zs σ H' hacc hi hz ⟨u,rfl,sm',_⟩
    exact ⟨sm' _ _ hfz,by rw [List.length_map,la]; exact hi⟩
   ·rintro acc zs σ H' hacc hz ⟨u,rfl,sm',_⟩
    exact ⟨sm' _ _ hfz,by rw [List.length_map,la]; exact Nat.le_refl _⟩
   ·rintro acc i zs σ H9 x H' hacc hi hz hzl ⟨u,rfl,sm',pr⟩ ⟨rfl,hx⟩
    obtain ⟨a,ea,rfl⟩:∃ a,as[i]? = some a/\x=.ref a:=by
     rw [List.getElem?_map] at hx
     cases e:as[i]? with
     | none=>rw [e] at hx; cases hx
     | some a=>rw [e] at hx; exact ⟨a,rfl,(Option.some.inj hx).symm⟩
    obtain ⟨p,ep⟩:∃ p,m[i]? = some p:=⟨_,List.getElem?_eq_getElem hi⟩
    have mp:p ∈ m:=List.mem_of_getElem? ep
    have ha:=tpF i a p ea ep
    obtain ⟨v,e1,av⟩:∃ v,gB kvs (kI p.1)=some v/\At P HF v p.2:=by
     rcases dr'.val p.1 with ⟨_,e2⟩ | ⟨v,y,e1,e2,ra⟩
     ·rw [jr nd (show (p.1,p.2) ∈ m from mp)] at e2; cases e2
     ·rw [jr nd (show (p.1,p.2) ∈ m from mp)] at e2
      cases e2
      exact ⟨v,e1,ra⟩
    have dg:∀ H2,Same HF H2->DGet H2 d (.ref a) (some v):=fun H2 s2=>.inr ⟨kvs,kI p.1,a,.inr ⟨o,s2 _ _ hfz⟩,rfl,by rw [kI_kV]; exact s2 _ _ ha,e1.symm⟩
    refine ⟨_,rfl,_,rfl,d,v,rfl,dg H' sm',_,rfl,P,rfl,hP,fun r H3 s3 a3=>?_⟩
    have s3':=sm'.trans s3
    refine ⟨dN P p.2,dN P (0,1),jT (av.same s3'),jT a3,cO _ _,cO _ _,?_⟩
    rw [jp (okm p mp) (dc hB.1 hB.2.2)]
    have en:(!decide (p.2=(0,1)))=nz p:=by unfold nz; rw [decide_not]
    rw [en]
    have pr3:=pr.mono fun t xs e=>s3 _ _ e
    refine ⟨_,rfl,bD (fun h=>?_) (fun h=>?_)⟩
    ·refine ⟨_,rfl,_,rfl,_,rfl,d,v,rfl,dg H3 s3',by show 2 <= sizeLine; decide,fun t nt=>?_⟩
     have s4:=Same.new (o:=.tup [.ref a,v]) nt
     have s4':=s3'.trans s4
     have hz4:=s4 _ _ (s3 _ _ hz)
     have keep4:∀ c u,(upd H3 t (.tup [.ref a,v])) c=some u->c ≠ acc->upd (upd H3 t (.tup [.ref a,v])) acc (.lst (zs ++ [.ref t])) c=some u:=fun c u e hc=>by rw [ao hc]; exact e
     have tk4:∀ c xs,(upd H3 t (.tup [.ref a,v])) c=some (.tup xs)->upd (upd H3 t (.tup [.ref a,v])) acc (.lst (zs ++ [.ref t])) c=some (.tup xs):=fun c xs e=>keep4 c _ e (dY e hz4 (by intro z; cases z))
     refine ⟨zs,hz4,by rw [sizeLine_eq]; omega,_,ac,by rw [List.length_append,List.length_singleton]; omega,_,rfl,fun c u e=>keep4 c u (s4' c u e) (ah e hacc),?_⟩
     rw [jf ep,if_pos h]
     exact (PartsR.snoc (p:=p) ⟨t,a,v,rfl,ac,s4' _ _ ha,av.same s4'⟩ (pr3.mono fun t xs e=>s4 _ _ e)).mono tk4
    ·refine ⟨zs,s3 _ _ hz,by omega,_,rfl,s3',?_⟩
     rw [jf ep,if_neg h,List.append_nil]
     exact pr3
   ·rintro acc zs σ H' hacc hz hzl ⟨u,rfl,sm',pr⟩
    rw [List.take_length] at pr
    have sub:((m.filter nz).map (·.1)).Nodup:=(List.Sublist.map _ List.filter_sublist).nodup nd
    refine ⟨_,rfl,.inl ⟨acc,zs,rfl,SqL.of hz,by omega,hW H',?_,fun y hy H2 s2=>?_,fun D H2 ws nD s2 hD pm pw=>?_⟩⟩
    ·rw [pr.keys]
     exact hk_nodup sub
    ·obtain ⟨p,hp,h⟩:=pr.mem hy
     rw [h.key]
     obtain ⟨t,k,u,rfl,h1,h2,_⟩:=h
     exact ⟨t,k,u,p.1,rfl,s2 _ _ h1,SqT.of (s2 _ _ h2),fun r nr=>⟨Same.new nr,r,k,rfl,ac,SqT.of (Same.new nr _ _ (s2 _ _ h2))⟩⟩
    ·obtain ⟨qs,e,h'⟩:=pr.perm pm
     refine q D ws qs H2 ?_ ((smF.trans sm').trans s2) hD (h'.mono fun t xs e=>s2 _ _ e) ⟨e,h'.fall pw⟩
     exact (smF.trans sm').free nD
end
theorem cop_of {p f:Int} (h2:2 <= p) (h9:p <= 9973) (hp:gR p=true) (f0:0 < f) (f1:f < p):Int.gcd p f=1:=by
 have hg0:0 < Int.gcd p f:=Int.gcd_pos_of_ne_zero_left f (by omega)
 have hgp:((Int.gcd p f:Nat):Int) ∣ p:=Int.gcd_dvd_left ..
 have hgf:((Int.gcd p f:Nat):Int) ∣ f:=Int.gcd_dvd_right ..
 generalize Int.gcd p f=g at *
 have gle:(g:Int) <= f:=Int.le_of_dvd f0 hgf
 obtain ⟨h,e⟩:=hgp
 by_cases g1:g=1
 ·exact g1
 exfalso
 have g2:2 <= (g:Int):=by omega
 have hh:2 <= h:=by
  rcases Int.lt_or_le h 2 with z | z
  ·have:=Int.mul_le_mul_of_nonneg_left (show h <= 1 by omega) (show 0 <= (g:Int) by omega)
   omega
  ·exact z
 have key:∀ d k:Int,2 <= d->d <= k->p=d * k->False:=fun d k d2 dk ep=>by
  have hdd:d * d <= p:=by rw [ep]; exact Int.mul_le_mul_of_nonneg_left dk (by omega)
  have hd100:d < 100:=Int.not_le.mp fun z=>by
   have:=Int.mul_le_mul z z (by omega) (by omega)
   omega
  have h0:=(isPb_iff.mp hp).2 d d2 hd100 hdd
  have:p % d=0:=by rw [ep]; exact Int.mul_emod_right d k
  omega
 rcases Int.le_total (g:Int) h with z | z
 ·exact key g h g2 z e
 ·exact key h g hh z (by rw [e,Int.mul_comm])
theorem jX {a b p:Int} (h:p ∣ a - b):a % p=b % p:=Int.emod_eq_emod_iff_emod_sub_eq_zero.mpr (Int.emod_eq_zero_of_dvd h)
theorem jq (a p:Int):p ∣ a - a % p:=⟨a / p,by rw [Int.emod_def]; omega⟩
def spInv:Sp:=fun vs H Q _=>∃ (w p:Int),vs=[.int w,.int p]/\2 <= p/\p <= 9973/\gR p=true/\w % p ≠ 0/\∀ r:Int,0 <= r->r < p->(r * w) % p=1->Q (.int r) H
section
variable {P:Program} {w:World} {K:Frag} {mg:Str->Option Value} {base:Heap}
theorem sc_inverse:FnScope ["whole", "prime", "rest", "share", "following", "following_share", "often", "further", "further_share"] ["whole", "prime"] (al i3):=.i
theorem ok_inverse {f:Addr} {fd:FuncData} (F:Fun K "inverse" "inverse" i3 f fd):aI P w K mg base CX0 1 f fd ["whole", "prime"] spInv:=by
 refine F.ok sc_inverse (fun vs H Q E h=>?_) (fun cdv A outer s H vs Q E hr h=>?_)
 ·obtain ⟨a,p,rfl,_⟩:=h
  rfl
 ·obtain ⟨a,p,rfl,h2,h9,hp,ha,q⟩:=h
  refine ⟨_,(ag (aA (i:=2) sc_inverse.nd rfl (Or.inl rfl) (pv 1))
(ag (aA (i:=3) sc_inverse.nd rfl (Or.inl rfl) ae)
(ag (aA (i:=4) sc_inverse.nd rfl (Or.inl rfl) (au bO (pv 0) (pv 1)))
(ag (aA (i:=5) sc_inverse.nd rfl (Or.inl rfl) ae)
(ag (fu PassesOwn.never (az iw (pv 4) ae (ar _))
(ag (aA (i:=6) sc_inverse.nd rfl (Or.inl rfl) (au cE (pv 2) (pv 4)))
(ag (aA (i:=7) sc_inverse.nd rfl (Or.inl rfl) (au bx (pv 2) (au bC (pv 6) (pv 4))))
(ag (aA (i:=8) sc_inverse.nd rfl (Or.inl rfl) (au bx (pv 3) (au bC (pv 6) (pv 5))))
(ag (aA (i:=2) sc_inverse.nd rfl (Or.inl rfl) (pv 4))
(ag (aA (i:=3) sc_inverse.nd rfl (Or.inl rfl) (pv 5))
(ag (aA (i:=4) sc_inverse.nd rfl (Or.inl rfl) (pv 7))
(ak (aA (i:=5) sc_inverse.nd rfl (Or.inl rfl) (pv 8))))))))))
(ak (aq (au bO (pv 5) (pv 1))))))))),?_⟩
  refine ⟨_,rfl,_,rfl,_,rfl,_,_,rfl,rfl,(by show (0:Int) < p; omega),?_⟩
  have m0:=Int.emod_nonneg a (show p ≠ 0 by omega)
  have m1:=Int.emod_lt_of_pos a (show 0 < p by omega)
  refine fP (fun σ H'=>∃ (R S F G:Int) (u6 u7 u8:Option V),σ=[some (.int a),some (.int p),some (.int R),some (.int S),some (.int F),some (.int G),u6,u7,u8]/\H'=H/\1 <= F/\F < R/\R <= p/\Int.gcd R F=1/\p ∣ S * a - R/\p ∣ G * a - F)
   (fun σ _=>match σ with | [_,_,_,_,some (.int F),_,_,_,_]=>F.toNat | _=>0) ⟨p,0,a % p,1,none,none,none,rfl,rfl,by omega,m1,Int.le_refl p,cop_of h2 h9 hp (by omega) m1,⟨-1,by omega⟩,by rw [Int.one_mul]; exact jq a p⟩ ?_ ?_
  ·rintro σ H2 ⟨R,S,F,G,u6,u7,u8,rfl,rfl,f1,fR,Rp,hg,d1,d2⟩
   refine ⟨_,rfl,rfl,_,rfl,?_⟩
   by_cases hF:F=1
   ·subst hF
    refine jP rfl ?_
    refine ⟨_,rfl,_,rfl,_,_,rfl,rfl,(by show (0:Int) < p; omega),?_⟩
    refine q _ (Int.emod_nonneg _ (by omega)) (Int.emod_lt_of_pos _ (by omega)) ?_
    have e1:(G % p * a) % p=1 % p:=by
     apply jX
     obtain ⟨k1,e1⟩:=d2
     obtain ⟨k2,e2⟩:=jq G p
     refine ⟨k1 - k2 * a,?_⟩
     have e3:G % p=G - p * k2:=by omega
     rw [e3,Int.sub_mul,Int.mul_sub,Int.mul_assoc]
     omega
    rw [e1]
    exact Int.emod_eq_of_lt (by decide) (by omega)
   ·rw [decide_eq_false (show ¬ V.int F=V.int 1 from fun z=>hF (by injection z))]
    have eq:R.fdiv F=R / F:=Int.fdiv_eq_ediv_of_nonneg _ (by omega)
    have q0:0 <= R / F:=Int.ediv_nonneg (by omega) (by omega)
    have q1:R / F <= R:=Int.ediv_le_self F (by omega)
    refine aH ⟨_,rfl,_,rfl,_,_,rfl,rfl,fK (by omega) (by omega),?_⟩
    refine ⟨_,rfl,_,rfl,_,rfl,_,_,rfl,rfl,.inr ⟨by omega,by omega⟩,_,_,rfl,rfl,?_⟩
    refine ⟨_,rfl,_,rfl,_,rfl,_,_,rfl,rfl,.inl ⟨by omega,by omega⟩,_,_,rfl,rfl,?_⟩
    rw [eq]
    have eF:R - R / F * F=R % F:=by rw [Int.emod_def,Int.mul_comm]
    have r0:=Int.emod_nonneg R (show F ≠ 0 by omega)
    have r1:=Int.emod_lt_of_pos R (show 0 < F by omega)
    have rn:R % F ≠ 0:=fun z=>by
     have hd:F ∣ R:=Int.dvd_of_emod_eq_zero z
     have:Nat.gcd R.natAbs F.natAbs=F.natAbs:=Nat.gcd_eq_right (Int.natAbs_dvd_natAbs.mpr hd)
     have hg':Nat.gcd R.natAbs F.natAbs=1:=hg
     omega
    refine ⟨_,rfl,_,rfl,_,rfl,_,rfl,⟨F,G,R - R / F * F,S - R / F * G,_,_,_,rfl,rfl,by omega,by omega,by omega,?_,d2,?_⟩,?_⟩
    ·rw [eF,Int.emod_def,Int.gcd_comm]
     rw [Int.gcd_sub_mul_left_left]
     exact hg
    ·obtain ⟨k1,e1⟩:=d1
     obtain ⟨k2,e2⟩:=d2
     refine ⟨k1 - R / F * k2,?_⟩
     have e3:(S - R / F * G) * a - (R - R / F * F)=(S * a - R) - R / F * (G * a - F):=by
      rw [Int.sub_mul,Int.mul_sub,Int.mul_assoc]
      omega
     rw [e3,e1,e2,Int.mul_sub,Int.mul_left_comm]
    ·show (R - R / F * F).toNat < F.toNat
     omega
  ·rintro σ H Q Q' hq ⟨x,hx,e1,b,hb,h⟩
   exact ⟨x,hx,e1,b,hb,hq _ _ h⟩
end
def mC (CR CN:Addr):Sp:=fun vs H Q E=>∃ (x dx:Addr) (p a b:Int),vs=[.ref x,.int a,.int b]/\H x=some (.ins CR dx [("modulus",.int p)])/\2 <= p/\p <= 9973/\gR p=true/\
 (b % p=0->E (.ref CN) none H)/\(b % p ≠ 0->∀ r:Int,0 <= r->r < p->(r * b) % p=a % p->Q (.int r) H)
section
variable {P:Program} {w:World} {K:Frag} {mg:Str->Option Value} {base:Heap}
theorem sc_Rests_of:FnScope ["self", "top", "bottom"] ["self", "top", "bottom"] (al bn):=.i
theorem ok_rofx {f CR C_NoNumber:Addr} {fd:FuncData} (F:FunD K "of" "Rests.of" bn f fd) (cl:Cls K CR) (nM:NoAttr K CR "modulus") (Ginverse:FnB P w K mg base 1 "inverse" spInv) (ANoNumber:mg "NoNumber"=some (.ref C_NoNumber)) (xc:XCl K C_NoNumber) :
  aI P w K mg base (CXE P w) 2 f fd ["self", "top", "bottom"] (mC CR C_NoNumber):=by
 refine F.okX sc_Rests_of (fun vs H Q E h=>?_) (fun cdv A outer s H vs Q E hr h=>?_)
 ·obtain ⟨x,dx,p,a,b,rfl,_⟩:=h
  rfl
 ·obtain ⟨x,dx,p,a,b,rfl,hx,h2,h9,hp,qn,qy⟩:=h
  refine ⟨_,(ag (aJ (az bH (au bO (pv 2) (iT (pv 0) rfl)) ae (ar _))
(ak (ko xc.ek ANoNumber (aa mz af)))
aB)
(ak (aq (au bO (au bC (pv 1) (aw Ginverse hr.m (aa (pv 2) (aa (iT (pv 0) rfl) af)))) (iT (pv 0) rfl))))),?_⟩
  have p0:(0:Int) < p:=by omega
  refine ⟨_,rfl,_,rfl,x,CR,dx,_,_,rfl,hx,cl,nM,rfl,_,_,rfl,rfl,p0,rfl,_,rfl,?_⟩
  by_cases hb:b % p=0
  ·rw [decide_eq_true (congrArg V.int hb)]
   exact aH ⟨(by show 1 <= sizeLine; decide),qn hb⟩
  ·rw [decide_eq_false (show ¬ V.int (b % p)=V.int 0 from fun z=>hb (by injection z))]
   refine aO ⟨_,rfl,_,rfl,_,rfl,x,CR,dx,_,_,rfl,hx,cl,nM,rfl,b,p,rfl,h2,h9,hp,hb,fun r r0 r1 hr'=>?_⟩
   refine ⟨_,_,rfl,rfl,.inr ⟨by omega,by omega⟩,_,rfl,x,CR,dx,_,_,rfl,hx,cl,nM,rfl,_,_,rfl,rfl,p0,?_⟩
   refine qy hb _ (Int.emod_nonneg _ (by omega)) (Int.emod_lt_of_pos _ p0) ?_
   apply jX
   obtain ⟨k1,e1⟩:=jq (a * r) p
   obtain ⟨k2,e2⟩:=jq (r * b) p
   rw [hr'] at e2
   refine ⟨a * k2 - k1 * b,?_⟩
   have e3:a * r % p=a * r - p * k1:=by omega
   have e4:r * b=1 + p * k2:=by omega
   rw [e3,Int.sub_mul,Int.mul_assoc,e4,Int.mul_add,Int.mul_sub,Int.mul_one,Int.mul_left_comm,Int.mul_assoc]
   omega
end
theorem NumsAt.mono {CF CR x:Addr} {p:Int} {H H':Hp} (h:NumsAt CF CR H x p) (k:∀ o,H x=some o->H' x=some o):NumsAt CF CR H' x p:=by
 rcases h with ⟨h0,dx,e⟩ | ⟨h0,dx,e⟩
 ·exact .inl ⟨h0,dx,k _ e⟩
 ·exact .inr ⟨h0,dx,k _ e⟩
theorem mod_no {m:Str} (e:(m == ("modulus" : Str))=false) (v:V):List.lookup m [(("modulus" : Str),v)]=none:=by
 simp only [List.lookup,e]
theorem of_go {CF CR C_NoNumber x:Addr} {P a:Int} {vs dvs:List V} {H:Hp} {σ:L2.St} {R:VK} {ta:TE} {t:TA} (hP:PrimeOk P) (hN:NumsAt CF CR H x P) (hv:vs ++ dvs=[.int a,.int 1]) (ha:∀ Z:VK,Z (.ref x) H->ta σ H Z) (ht:∀ Z:List V->Hp->Prop,Z vs H->t σ H Z)
  (hR:∀ r H',Same H H'->At P H' r (if P=0 then (a,1) else (a % P,1))->R r H') :
  tOrE (g9 CF "of" (l3 C_NoNumber) dvs E0 ta t) (g9 CR "of" (mC CR C_NoNumber) dvs E0 ta t) σ H R:=by
 rcases hN with ⟨h0,dx,e⟩ | ⟨h0,dx,e⟩
 ·rw [if_pos h0] at hR
  refine .inl (ha _ ⟨x,dx,[],rfl,e,rfl,ht _ ⟨.ref x,a,1,by rw [hv],fun z=>absurd z (by decide),fun _=>⟨by decide +kernel,fun r nr=>?_⟩⟩⟩)
  rw [(fw a 1 (by decide)).mpr (Int.gcd_one_right ..)]
  exact hR _ _ (Same.new nr) (.inl ⟨h0,r,rfl,ac⟩)
 ·rw [if_neg h0] at hR
  rcases hP with z | ⟨h2,h9,hp⟩
  ·exact absurd z h0
  have e1:(1:Int) % P=1:=Int.emod_eq_of_lt (by decide) (by omega)
  refine .inr (ha _ ⟨x,dx,_,rfl,e,mod_no (by decide +kernel) _,ht _ ⟨x,dx,P,a,1,by rw [hv],e,h2,h9,hp,(fun z=>absurd (e1.symm.trans z) (by decide)),fun _ r r0 r1 hr=>?_⟩⟩)
  rw [Int.mul_one,Int.emod_eq_of_lt r0 r1] at hr
  rw [hr]
  exact hR _ _ (Same.refl H) (.inr ⟨h0,rfl,rfl⟩)
def fU (CG:Addr) (H:Hp) (g x:Addr) (L:Int):Prop:=∃ dx,H g=some (.ins CG dx [("kind",.ref x),("width",.int L)])
def spRNum (CG:Addr):Sp:=fun vs H Q _=>∃ (g x:Addr) (L:Int),vs=[.ref g]/\fU CG H g x L/\Q (.ref x) H
def spRLet (CG:Addr):Sp:=fun vs H Q _=>∃ (g x:Addr) (L:Int),vs=[.ref g]/\fU CG H g x L/\Q (.int L) H
section
variable {P:Program} {w:World} {K:Frag} {mg:Str->Option Value} {base:Heap}
theorem jj:FnScope ["self"] ["self"] (al bF):=.i
theorem ok_rnum {f CG:Addr} {fd:FuncData} (F:Fun K "numbers" "Ring.numbers" bF f fd) (cl:Cls K CG) (nA:NoAttr K CG "kind"):aI P w K mg base CX0 1 f fd ["self"] (spRNum CG):=by
 refine F.ok jj (fun vs H Q E h=>?_) (fun cdv A outer s H vs Q E hr h=>?_)
 ·obtain ⟨g,x,L,rfl,_⟩:=h
  rfl
 ·obtain ⟨g,x,L,rfl,⟨dx,hg⟩,q⟩:=h
  refine ⟨_,(ak (aq (iT (pv 0) rfl))),?_⟩
  exact ⟨_,rfl,g,CG,dx,_,_,rfl,hg,cl,nA,rfl,q⟩
theorem jk:FnScope ["self"] ["self"] (al bE):=.i
theorem ok_rlet {f CG:Addr} {fd:FuncData} (F:Fun K "letters" "Ring.letters" bE f fd) (cl:Cls K CG) (nA:NoAttr K CG "width"):aI P w K mg base CX0 1 f fd ["self"] (spRLet CG):=by
 refine F.ok jk (fun vs H Q E h=>?_) (fun cdv A outer s H vs Q E hr h=>?_)
 ·obtain ⟨g,x,L,rfl,_⟩:=h
  rfl
 ·obtain ⟨g,x,L,rfl,⟨dx,hg⟩,q⟩:=h
  refine ⟨_,(ak (aq (iT (pv 0) rfl))),?_⟩
  exact ⟨_,rfl,g,CG,dx,_,_,rfl,hg,cl,nA,rfl,q⟩
end
theorem fi {P:Int} {x:Int × Int} (h:OkN P x):eN P (0,1) x=x:=by
 unfold eN
 rcases h with ⟨h0,hd,hg⟩ | ⟨h0,a,b,c⟩
 ·rw [if_pos h0]
  show nrm (0 * x.2 + x.1 * 1) (1 * x.2)=x
  rw [Int.zero_mul,Int.zero_add,Int.mul_one,Int.one_mul]
  exact (fw x.1 x.2 hd).mpr hg
 ·rw [if_neg h0]
  show ((0 + x.1) % P,1)=x
  rw [Int.zero_add,Int.emod_eq_of_lt a b]
  exact Prod.ext rfl c.symm
def dP (P:Int) (p:am):PyData:=.tuple [dB p.1,dN P p.2]
def dS (P:Int) (out:List am):PyData:=.list (out.map (dP P))
theorem dP_ok (P:Int) (p:am):(dP P p).canLay0=true/\(dP P p).depth <= 2:=by
 have h1:=bI p.1
 have h2:=cO P p.2
 have d1:(dB p.1).depth <= 1:=by simp [dB,PyData.depth,PySem.W.ke_depthAll]
 have d2:(dN P p.2).depth <= 1:=by
  unfold dN
  split
  ·simp [dB,PyData.depth,PyData.depthAll]
  ·simp [PyData.depth]
 refine ⟨?_,?_⟩
 ·simp only [dP,PyData.canLay0,PyData.canLayAll0,SeqAt.canLay_of_shaped h1,SeqAt.canLay_of_shaped h2,Bool.and_true]
 ·simp only [dP,PyData.depth,PyData.depthAll]
  omega
theorem dS_all (P:Int):∀ out:List am,PyData.canLayAll0 (out.map (dP P))=true/\PyData.depthAll (out.map (dP P)) <= 2
 | []=>⟨rfl,by simp [PyData.depthAll]⟩
 | p :: r=>by
  obtain ⟨a,b⟩:=dP_ok P p
  obtain ⟨c,d⟩:=dS_all P r
  refine ⟨by simp only [List.map_cons,PyData.canLayAll0,a,c,Bool.and_true],?_⟩
  simp only [List.map_cons,PyData.depthAll]
  omega
theorem ba (P:Int) (out:List am):SeqAt.shaped (dS P out)=true:=by
 obtain ⟨c,d⟩:=dS_all P out
 unfold SeqAt.shaped dS
 rw [Bool.and_eq_true]
 refine ⟨by simp only [PyData.canLay0,c],decide_eq_true ?_⟩
 simp only [PyData.depth]
 omega
theorem lf {K:Frag} {P:Int} {H:Hp}:∀ {ts:List V} {ps:List am},PartsR P H ts ps->DRs K H (ps.map (dP P)) ts
 | _,_,.nil=>.nil
 | _,_,.cons ⟨t,k,u,e,h1,h2,h3⟩ r=>by
  rw [e]
  exact .cons (.tup (SqT.of h1) (.cons (dW (SqT.of h2)) (.cons (jT h3) .nil))) (lf r)
theorem eh {K:Frag} {P:Int} {H:Hp} {l:Addr} {ts:List V} {ps:List am} (hl:H l=some (.lst ts)) (h:PartsR P H ts ps):DR K H (dS P ps) (.ref l):=.lst (SqL.of hl) (lf h)
theorem acc_sz {P:Int} (hP:PrimeOk P) {ps:List am} (h:∀ p ∈ ps,OkN P p.2/\Sz 103 p.2):∀ i,i <= ps.length->∀ p ∈ acc P (ps.take i),Sz (104 * i + 103) p.2
 | 0,_,p,hp=>by simp [acc] at hp
 | i + 1,hi,p,hp=>by
  have hB:=hP.b
  obtain ⟨q,eq⟩:∃ q,ps[i]? = some q:=⟨_,List.getElem?_eq_getElem (by omega)⟩
  have ih:=acc_sz hP h i (by omega)
  have okm:∀ q ∈ acc P (ps.take i),OkN P q.2:=iN hB.1 hB.2.2 fun q hq=>(h q (List.mem_of_mem_take hq)).1
  obtain ⟨oq,zq⟩:=h q (List.mem_of_getElem? eq)
  rw [iC eq] at hp
  rcases fE hp with z | z
  ·rw [z]
   have hw:OkN P ((bS (acc P (ps.take i)) q.1).getD (0,1))/\Sz (104 * i + 103) ((bS (acc P (ps.take i)) q.1).getD (0,1)):=by
    cases e:bS (acc P (ps.take i)) q.1 with
    | none=>exact ⟨dc hB.1 hB.2.2,⟨Nat.pow_pos (by decide),Nat.one_lt_two_pow (by omega)⟩⟩
    | some y=>exact ⟨okm _ (db e),ih _ (db e)⟩
   exact (jv hB.1 hB.2.1 hw.1 oq hw.2 zq (by omega)).1.mono (by omega)
  ·exact (ih p z).mono (by omega)
theorem acc_self {P:Int} {ps:List am} (hn:(ps.map (·.1)).Nodup) (h:∀ p ∈ ps,OkN P p.2):∀ i,i <= ps.length->acc P (ps.take i)=ps.take i
 | 0,_=>by simp [acc]
 | i + 1,hi=>by
  obtain ⟨q,eq⟩:∃ q,ps[i]? = some q:=⟨_,List.getElem?_eq_getElem (by omega)⟩
  rw [iC eq,acc_self hn h i (by omega)]
  have hv:bS (ps.take i) q.1=none:=by
   apply aval_none.mpr
   intro hm
   have e1:ps.take (i + 1)=ps.take i ++ [q]:=by rw [List.take_add_one,eq]; rfl
   have hs:((ps.take (i + 1)).map (·.1)).Nodup:=(List.Sublist.map _ (List.take_sublist _ _)).nodup hn
   rw [e1,List.map_append,List.nodup_append] at hs
   exact hs.2.2 q.1 hm q.1 (by simp) rfl
  unfold cA fQ
  rw [hv]
  show ps.take i ++ [(q.1,eN P (0,1) q.2)]=ps.take (i + 1)
  rw [fi (h q (List.mem_of_getElem? eq)),List.take_add_one,eq]
  rfl
theorem gc {P:Int} {ps:List am} (hn:(ps.map (·.1)).Nodup) (h:∀ p ∈ ps,OkN P p.2):acc P ps=ps:=by
 have z:=acc_self hn h ps.length (Nat.le_refl _)
 rw [List.take_length] at z
 exact z
theorem acc_from {P:Int} {ps:List am}:∀ p ∈ acc P ps,∃ q ∈ ps,q.1=p.1:=by
 unfold acc
 have go:∀ (rs m:List am),(∀ r ∈ rs,r ∈ ps)->(∀ p ∈ m,∃ q ∈ ps,q.1=p.1)->∀ p ∈ rs.foldl (cA P) m,∃ q ∈ ps,q.1=p.1:=by
  intro rs
  induction rs with
  | nil=>intro m _ h; exact h
  | cons r rs ih=>
   intro m hr hm
   refine ih _ (fun q hq=>hr q (by simp [hq])) fun p hp=>?_
   rcases fE hp with z | z
   ·exact ⟨r,hr r (by simp),by rw [z]⟩
   ·exact hm p z
 exact go ps [] (fun r hr=>hr) (fun p hp=>nomatch hp)
def co (m:List am) (k:List Int):Int × Int:=(bS m k).getD (0,1)
theorem co_nil (k:List Int):co [] k=(0,1):=rfl
theorem co_pos {p:am} {r:List am} {k:List Int} (e:p.1=k):co (p :: r) k=p.2:=by unfold co; rw [bG e]; rfl
theorem co_neg {p:am} {r:List am} {k:List Int} (e:¬ p.1=k):co (p :: r) k=co r k:=by unfold co; rw [bf e]
theorem co_of {m:List am} (hn:(m.map (·.1)).Nodup) {p:am} (h:p ∈ m):co m p.1=p.2:=by
 unfold co
 rw [jr hn (show (p.1,p.2) ∈ m from h)]
 rfl
theorem co_none {m:List am} {k:List Int} (h:¬ k ∈ m.map (·.1)):co m k=(0,1):=by
 unfold co
 rw [aval_none.mpr h]
 rfl
theorem g8 (m:List am) (k:List Int):(k,co m k) ∈ m\/(co m k=(0,1)/\¬ k ∈ m.map (·.1)):=by
 unfold co
 cases e:bS m k with
 | none=>exact .inr ⟨rfl,aval_none.mp e⟩
 | some y=>exact .inl (db e)
theorem co_ok {P:Int} (hB:0 <= P) (h1:P ≠ 1) {m:List am} (h:∀ p ∈ m,OkN P p.2) (k:List Int):OkN P (co m k):=by
 rcases g8 m k with z | ⟨z,_⟩
 ·exact h _ z
 ·rw [z]; exact dc hB h1
theorem aval_put (m:List am) (k:List Int) (x:Int × Int):bS (fQ m k x) k=some x:=by
 unfold fQ
 split
 ·rename_i hs
  induction m with
  | nil=>cases hs
  | cons p r ih=>
   rw [List.map_cons]
   by_cases e:p.1=k
   ·rw [if_pos e]; exact bG e
   ·rw [if_neg e,bf e]
    exact ih (by rw [bf e] at hs; exact hs)
 ·rename_i hs
  have hn:bS m k=none:=by
   cases e:bS m k with
   | none=>rfl
   | some y=>rw [e] at hs; exact absurd rfl hs
  clear hs
  induction m with
  | nil=>exact bG rfl
  | cons p r ih=>
   by_cases e:p.1=k
   ·rw [bG e] at hn; cases hn
   ·rw [List.cons_append,bf e]
    rw [bf e] at hn
    exact ih hn
theorem aval_put_ne (m:List am) {k k':List Int} (h:k' ≠ k) (x:Int × Int):bS (fQ m k x) k'=bS m k':=by
 unfold fQ
 split
 ·rename_i hs
  clear hs
  induction m with
  | nil=>rfl
  | cons p r ih=>
   rw [List.map_cons]
   by_cases e:p.1=k
   ·have e':¬ p.1=k':=fun z=>h (z.symm.trans e)
    rw [if_pos e,bf (p:=(p.1,x)) e',bf e']
    exact ih
   ·rw [if_neg e]
    by_cases e':p.1=k'
    ·rw [bG e',bG e']
    ·rw [bf e',bf e']
     exact ih
 ·induction m with
  | nil=>exact bf (p:=(k,x)) (fun z=>h z.symm)
  | cons p r ih=>
   rename_i hs
   rw [List.cons_append]
   by_cases e':p.1=k'
   ·rw [bG e',bG e']
   ·rw [bf e',bf e']
    apply ih
    intro z
    apply hs
    by_cases e:p.1=k
    ·rw [bG e]; rfl
    ·rw [bf e]; exact z
theorem gz {P:Int} {x:Int × Int} (h:OkN P x):eN P x (0,1)=x:=by
 unfold eN
 rcases h with ⟨h0,hd,hg⟩ | ⟨h0,a,b,c⟩
 ·rw [if_pos h0]
  show nrm (x.1 * 1 + 0 * x.2) (x.2 * 1)=x
  rw [Int.zero_mul,Int.add_zero,Int.mul_one,Int.mul_one]
  exact (fw x.1 x.2 hd).mpr hg
 ·rw [if_neg h0]
  show ((x.1 + 0) % P,1)=x
  rw [Int.add_zero,Int.emod_eq_of_lt a b]
  exact Prod.ext rfl c.symm
theorem co_fold {P:Int} (hB:0 <= P) (h1:P ≠ 1):∀ (b m:List am) (k:List Int),(b.map (·.1)).Nodup->(∀ p ∈ b,OkN P p.2)->(∀ p ∈ m,OkN P p.2)->co (b.foldl (cA P) m) k=eN P (co m k) (co b k)
 | [],m,k,_,_,hm=>by
  rw [co_nil,gz (co_ok hB h1 hm k)]
  rfl
 | p :: r,m,k,hn,hb,hm=>by
  have hn':(p.1 :: r.map (·.1)).Nodup:=hn
  obtain ⟨n1,n2⟩:=List.nodup_cons.mp hn'
  have hm':∀ q ∈ cA P m p,OkN P q.2:=fun q hq=>by
   rcases fE hq with z | z
   ·rw [z]; exact mV hB (co_ok hB h1 hm p.1) (hb p (by simp))
   ·exact hm q z
  rw [List.foldl_cons,co_fold hB h1 r (cA P m p) k n2 (fun q hq=>hb q (by simp [hq])) hm']
  by_cases e:p.1=k
  ·subst e
   rw [co_pos rfl,co_none n1]
   have e2:co (cA P m p) p.1=eN P (co m p.1) p.2:=by
    unfold cA
    show ((bS (fQ m p.1 _) p.1).getD (0,1))=_
    rw [aval_put]
    rfl
   rw [e2,gz (mV hB (co_ok hB h1 hm p.1) (hb p (by simp)))]
  ·rw [co_neg e]
   have e2:co (cA P m p) k=co m k:=by
    unfold cA
    show ((bS (fQ m p.1 _) k).getD (0,1))=_
    rw [aval_put_ne _ (fun z=>e z.symm)]
    rfl
   rw [e2]
theorem co_two {P:Int} (hB:0 <= P) (h1:P ≠ 1) {a b:List am} (na:(a.map (·.1)).Nodup) (nb:(b.map (·.1)).Nodup) (ha:∀ p ∈ a,OkN P p.2) (hb:∀ p ∈ b,OkN P p.2) (k:List Int):co (acc P (a ++ b)) k=eN P (co a k) (co b k):=by
 have e:acc P (a ++ b)=b.foldl (cA P) (acc P a):=by unfold acc; rw [List.foldl_append]
 rw [e,gc na ha]
 exact co_fold hB h1 b a k nb hb ha
def gu (a b:am):Prop:=klt (hk b) (hk a)=true
theorem fall_nodup {a:List am} (h:a.Pairwise gu):(a.map (·.1)).Nodup:=by
 rw [List.Nodup,List.pairwise_map]
 refine h.imp fun {x y} z e=>?_
 unfold gu at z
 have e2:hk x=hk y:=by unfold hk; rw [e]
 rw [e2,mO] at z
 cases z
theorem IsSum.nz {P:Int} {ps out:List am} (h:IsSum P ps out):∀ p ∈ out,K.nz p=true:=fun p hp=>(List.mem_filter.mp (h.1.mem_iff.mp hp)).2
theorem IsSum.mem {P:Int} {ps out:List am} (h:IsSum P ps out):∀ p ∈ out,p ∈ acc P ps:=fun p hp=>(List.mem_filter.mp (h.1.mem_iff.mp hp)).1
def Canon (P L:Int) (z:Nat) (ps:List am):Prop:=ps.Pairwise gu/\∀ p ∈ ps,OkN P p.2/\Sz z p.2/\nz p=true/\(p.1.length:Int)=L/\∀ e ∈ p.1,0 <= e
theorem Canon.nodup {P L:Int} {z:Nat} {ps:List am} (h:Canon P L z ps):(ps.map (·.1)).Nodup:=fall_nodup h.1
theorem fH {P:Int} {ps:List am} (hn:(ps.map (·.1)).Nodup) (h:∀ p ∈ ps,OkN P p.2/\Sz 1900 p.2):fj P ps:=by
 refine ⟨h,fun i q hq=>?_⟩
 have sub:((ps.take i).map (·.1)).Nodup:=(List.Sublist.map _ (List.take_sublist _ _)).nodup hn
 rw [gc sub fun q hq=>(h q (List.mem_of_mem_take hq)).1] at hq
 exact (h q (List.mem_of_mem_take hq)).2
theorem Canon.sumOk {P L:Int} {z:Nat} {ps:List am} (h:Canon P L z ps) (hz:z <= 1900):fj P ps:=fH h.nodup fun p hp=>⟨(h.2 p hp).1,(h.2 p hp).2.1.mono hz⟩
theorem sz_01' {z:Nat} (hz:1 <= z):Sz z (0,1):=⟨Nat.pow_pos (by decide),Nat.one_lt_two_pow (by omega)⟩
theorem acc_two_sz {P:Int} (hP:PrimeOk P) {a b:List am} {x y z:Nat} (na:(a.map (·.1)).Nodup) (nb:(b.map (·.1)).Nodup) (ha:∀ p ∈ a,OkN P p.2/\Sz x p.2) (hb:∀ p ∈ b,OkN P p.2/\Sz y p.2) (hx:x <= z) (hy:y <= z) (h14:14 <= x) (hy1:1 <= y) (hz:∀ k u v,(k,u) ∈ a->(k,v) ∈ b->Sz z (eN P u v)):∀ p ∈ acc P (a ++ b),Sz z p.2:=by
 have hB:=hP.b
 intro p hp
 have e:=co_of (lF P (a ++ b)) hp
 rw [co_two hB.1 hB.2.2 na nb (fun p hp=>(ha p hp).1) (fun p hp=>(hb p hp).1)] at e
 rw [<- e]
 rcases g8 a p.1 with c1 | ⟨c1,_⟩
 ·rcases g8 b p.1 with c2 | ⟨c2,_⟩
  ·exact hz _ _ _ c1 c2
  ·rw [c2,gz (ha _ c1).1]
   exact (ha _ c1).2.mono hx
 ·rw [c1]
  rcases g8 b p.1 with c2 | ⟨c2,_⟩
  ·rw [fi (hb _ c2).1]
   exact (hb _ c2).2.mono hy
  ·rw [c2,fi (dc hB.1 hB.2.2)]
   exact sz_01' (by omega)
theorem sumOk_two {P:Int} (hP:PrimeOk P) {a b:List am} {x y:Nat} (na:(a.map (·.1)).Nodup) (nb:(b.map (·.1)).Nodup) (ha:∀ p ∈ a,OkN P p.2/\Sz x p.2) (hb:∀ p ∈ b,OkN P p.2/\Sz y p.2) (hx:x <= 1900) (hy:y <= 1900) (h14:14 <= x) (hy1:1 <= y) (hz:∀ k u v,(k,u) ∈ a->(k,v) ∈ b->Sz 1900 (eN P u v)):fj P (a ++ b):=by
 refine ⟨fun p hp=>?_,fun i p hp=>?_⟩
 ·rcases List.mem_append.mp hp with z | z
  ·exact ⟨(ha p z).1,(ha p z).2.mono hx⟩
  ·exact ⟨(hb p z).1,(hb p z).2.mono hy⟩
 ·rw [List.take_append] at hp
  have na':((a.take i).map (·.1)).Nodup:=(List.Sublist.map _ (List.take_sublist _ _)).nodup na
  have nb':((b.take (i - a.length)).map (·.1)).Nodup:=(List.Sublist.map _ (List.take_sublist _ _)).nodup nb
  exact acc_two_sz hP na' nb' (fun p hp=>ha p (List.mem_of_mem_take hp)) (fun p hp=>hb p (List.mem_of_mem_take hp)) hx hy h14 hy1 (fun k u v h1 h2=>hz k u v (List.mem_of_mem_take h1) (List.mem_of_mem_take h2)) p hp
theorem ok_zero1 {P:Int} {x:Int × Int} (h:OkN P x) (h0:x.1=0):x=(0,1):=by
 rcases h with ⟨_,hd,hg⟩ | ⟨_,_,_,c⟩
 ·rw [h0,Int.zero_gcd] at hg
  exact Prod.ext h0 (show x.2=1 by omega)
 ·exact Prod.ext h0 c
theorem mul_nz {P:Int} {x y:Int × Int} (hP:PrimeOk P) (ox:OkN P x) (oy:OkN P y) (hx:x ≠ (0,1)) (hy:y ≠ (0,1)):jh P x y ≠ (0,1):=by
 have x0:x.1 ≠ 0:=fun z=>hx (ok_zero1 ox z)
 have y0:y.1 ≠ 0:=fun z=>hy (ok_zero1 oy z)
 intro e
 unfold jh at e
 by_cases h:P=0
 ·rw [if_pos h] at e
  have d:=gd ox.den oy.den
  have e2:=nrm_eq (x.1 * y.1) (x.2 * y.2) d
  rw [e,Int.zero_mul,Int.mul_one] at e2
  rcases Int.mul_eq_zero.mp e2.symm with z | z
  ·exact x0 z
  ·exact y0 z
 ·rw [if_neg h] at e
  rcases hP with z | ⟨h2,h9,hp⟩
  ·exact absurd z h
  rcases ox with ⟨z,_⟩ | ⟨_,x1,x2,_⟩
  ·exact absurd z h
  rcases oy with ⟨z,_⟩ | ⟨_,y1,y2,_⟩
  ·exact absurd z h
  have e1:(x.1 * y.1) % P=0:=congrArg Prod.fst e
  have hd:P ∣ x.1 * y.1:=Int.dvd_of_emod_eq_zero e1
  obtain ⟨j,ej⟩:=idvd (cop_of h2 h9 hp (by omega) x2) hd
  rcases Int.lt_trichotomy j 0 with z | z | z
  ·have:=Int.mul_le_mul_of_nonneg_left (show j <= -1 by omega) (show 0 <= P by omega)
   omega
  ·rw [z,Int.mul_zero] at ej
   omega
  ·have:=Int.mul_le_mul_of_nonneg_left (show 1 <= j by omega) (show 0 <= P by omega)
   omega
theorem nn_ints (ns:List Int) (h:∀ e ∈ ns,0 <= e):(ns.map V.int).all nnI=true:=by
 rw [List.all_eq_true]
 intro x hx
 obtain ⟨z,hz,rfl⟩:=List.mem_map.mp hx
 exact decide_eq_true (h z hz)
def gq (xs:List V) (L:Int):Bool:=decide ((xs.length:Int)=L) && xs.all nnI
def spIsProd (K:Frag):Sp:=fun vs H Q _=>∃ (v:V) (L:Int),vs=[v,.int L]/\
 ((∃ t,TyOf K H v t/\kitOne K t (.type "tuple")=some false/\Q (.bl false) H) \/
   ∃ a xs,v=.ref a/\H a=some (.tup xs)/\xs.length <= 1000/\(∀ x ∈ xs,Typed K H x)/\∀ H',Same H H'->Q (.bl (gq xs L)) H')
section
variable {P:Program} {w:World} {K:Frag} {mg:Str->Option Value} {base:Heap}
theorem gN:FnScope ["thing"] ["thing"] (al cG):=.i
theorem ok_iswhole {f:Addr} {fd:FuncData} (F:Fun K "is_whole_number" "is_whole_number" cG f fd) (T:Blt mg):aI P w K mg base CX0 1 f fd ["thing"] (dO K):=by
 refine F.ok gN (fun vs H Q E h=>?_) (fun cdv A outer s H vs Q E hr h=>?_)
 ·obtain ⟨v,t,b,c,rfl,_⟩:=h
  rfl
 ·obtain ⟨v,t,b,c,rfl,ty,h1,h2,q⟩:=h
  refine ⟨_,(ak (aq (cr (bX K T (pv 0) T.int gh) (bY (pe_not (bX K T (pv 0) T.bool gC)))))),?_⟩
  refine ⟨_,rfl,t,b,ty,h1,_,rfl,?_⟩
  cases b with
  | false=>exact aO q
  | true=>exact aH ⟨_,rfl,t,c,ty,h2,_,rfl,q⟩
theorem kE:FnScope ["thing", "letters"] ["thing", "letters"] (al eU):=.i
theorem lY {f:Addr} {fd:FuncData} (F:Fun K "is_product" "is_product" eU f fd) (T:Blt mg) (Gis_whole_number:FnB P w K mg base 1 "is_whole_number" (dO K)):aI P w K mg base CX0 2 f fd ["thing", "letters"] (spIsProd K):=by
 refine F.ok kE (fun vs H Q E h=>?_) (fun cdv A outer s H vs Q E hr h=>?_)
 ·obtain ⟨v,L,rfl,_⟩:=h
  rfl
 ·obtain ⟨v,L,rfl,h⟩:=h
  refine ⟨_,(ag (aJ (PW.pt (bR (aY (aW (bX K T (pv 0) T.tuple cx))) (bL (az iw (bo K T (pv 0)) (pv 1) (ar _)))))
(ak (aq bQ))
aB)
(ak (aq (dM K T (by exact bj (N:=["often"]) (src:=[none]) rfl rfl rfl (by exact (kpi_tup K rfl (pv 0))) (fun _ _ _=>by exact ⟨by exact (bU (i:=0) nd_2 rfl rfl),bi,by exact (cr (aw Gis_whole_number hr.m (aa (pv 0) af)) (bY (aV op_ge (pv 0) ae (ar _))))⟩)) false)))),?_⟩
  rcases h with ⟨t,ty,e,q⟩ | ⟨a,xs,rfl,ha,hl,hty,q⟩
  ·exact ⟨_,rfl,t,false,ty,e,_,rfl,aH (aH q)⟩
  ·refine ⟨_,rfl,_,true,.tup ha,rfl,_,rfl,aO ?_⟩
   refine ⟨_,rfl,a,xs,rfl,.inr (SqT.of ha),_,rfl,rfl,_,rfl,?_⟩
   by_cases hL:(xs.length:Int)=L
   ·refine jP (congrArg V.int hL) ?_
    refine ⟨_,rfl,a,rfl,⟨_,SqT.of ha⟩,comp_tup (fun x=>.bl (nnI x)) rfl (SqT.of ha) (Nat.le_of_lt (eI hl)) (fun i x H1 R hx sm hR=>?_) (fun acc H1 hacc sm hl1=>?_)⟩
    ·obtain ⟨t,b,c,ty,h1,h2,e⟩:=(hty x (List.mem_of_getElem? hx)).same sm
     refine ⟨_,rfl,x,t,b,c,rfl,ty,h1,h2,_,rfl,?_⟩
     rw [e]
     cases x with
     | int i=>exact aH ⟨_,rfl,_,_,rfl,rfl,hR⟩
     | _=>exact aO hR
    ·have e1:xs.map (fun x=>V.bl (nnI x))=(xs.map nnI).map V.bl:=by rw [List.map_map]; rfl
     rw [e1] at hl1
     refine ⟨acc,_,rfl,bZ (SqL.of hl1),?_⟩
     have z:=q H1 sm
     unfold gq at z
     rw [decide_eq_true hL,Bool.true_and] at z
     rw [List.all_map]
     exact z
   ·have e0:(!decide (V.int (xs.length:Int)=V.int L))=true:=by
     rw [decide_eq_false (fun z=>hL (by injection z))]; rfl
    rw [e0]
    have z:=q H (Same.refl H)
    unfold gq at z
    rw [decide_eq_false hL,Bool.false_and] at z
    exact aH z
end
def spPair (K:Frag):Sp:=fun vs H Q _=>∃ v,vs=[v]/\((∃ t,TyOf K H v t/\kitOne K t (.type "tuple")=some false/\Q (.bl false) H)\/∃ a xs,v=.ref a/\H a=some (.tup xs)/\Q (.bl (decide ((xs.length:Int)=2))) H)
def spFIs (K:Frag):Sp:=fun vs H Q _=>∃ (x v:V),vs=[x,v]/\Thing K H v/\Q (.bl (fracV H v)) H
def spRIs (K:Frag) (CR:Addr):Sp:=fun vs H Q _=>∃ (x dx:Addr) (p:Int) (v:V),vs=[.ref x,v]/\H x=some (.ins CR dx [("modulus",.int p)])/\Typed K H v/\Q (.bl (restV p v)) H
section
variable {P:Program} {w:World} {K:Frag} {mg:Str->Option Value} {base:Heap}
theorem sc_is_pair:FnScope ["thing"] ["thing"] (al iS):=.i
theorem ok_pair {f:Addr} {fd:FuncData} (F:Fun K "is_pair" "is_pair" iS f fd) (T:Blt mg):aI P w K mg base CX0 1 f fd ["thing"] (spPair K):=by
 refine F.ok sc_is_pair (fun vs H Q E h=>?_) (fun cdv A outer s H vs Q E hr h=>?_)
 ·obtain ⟨v,rfl,_⟩:=h
  rfl
 ·obtain ⟨v,rfl,h⟩:=h
  refine ⟨_,(ak (aq (cr (bX K T (pv 0) T.tuple cx) (bY (aV bH (bo K T (pv 0)) ae (ar _)))))),?_⟩
  rcases h with ⟨t,ty,e,q⟩ | ⟨a,xs,rfl,ha,q⟩
  ·exact ⟨_,rfl,t,false,ty,e,_,rfl,aO q⟩
  ·refine ⟨_,rfl,_,true,.tup ha,rfl,_,rfl,aH ?_⟩
   refine ⟨_,rfl,a,xs,rfl,.inr (SqT.of ha),rfl,?_⟩
   rw [show decide (V.int (xs.length:Int)=V.int 2)=decide ((xs.length:Int)=2) from decide_eq_decide.mpr ⟨fun z=>by injection z,fun z=>congrArg V.int z⟩]
   exact q
theorem fc:FnScope ["self", "thing"] ["self", "thing"] (al aR):=.i
theorem ok_fis {f:Addr} {fd:FuncData} (F:Fun K "is_number" "Fractions.is_number" aR f fd) (Gis_pair:FnB P w K mg base 1 "is_pair" (spPair K)) (Gis_whole_number:FnB P w K mg base 1 "is_whole_number" (dO K)) (Ggreatest_divisor:FnB P w K mg base 1 "greatest_divisor" spGcd) :
  aI P w K mg base CX0 2 f fd ["self", "thing"] (spFIs K):=by
 refine F.ok fc (fun vs H Q E h=>?_) (fun cdv A outer s H vs Q E hr h=>?_)
 ·obtain ⟨x,v,rfl,_⟩:=h
  rfl
 ·obtain ⟨x,v,rfl,⟨ty,hv⟩,q⟩:=h
  refine ⟨_,(ag (aJ (PW.pt (bR (aY (aW (aw Gis_pair hr.m (aa (pv 1) af)))) (bR (aY (aW (aw Gis_whole_number hr.m (aa (aE (aF K rfl) (pv 1) ae (fun _ _=>rfl)) af)))) (bL (aY (aW (aw Gis_whole_number hr.m (aa (aE (aF K rfl) (pv 1) ae (fun _ _=>rfl)) af))))))))
(ak (aq bQ))
aB)
(ak (aq (cr (aV op_ge (aE (aF K rfl) (pv 1) ae (fun _ _=>rfl)) ae (ar _)) (bY (aV bH (aw Ggreatest_divisor hr.m (aa (aE (aF K rfl) (pv 1) ae (fun _ _=>rfl)) (aa (aE (aF K rfl) (pv 1) ae (fun _ _=>rfl)) af))) ae (ar _))))))),?_⟩
  rcases hv with ⟨t,ty,e,hn⟩ | ⟨a,xs,rfl,ha,hl,hty,hbd⟩
  ·rw [eK hn] at q
   exact ⟨_,rfl,v,rfl,.inl ⟨t,ty,e,_,rfl,aH (aH q)⟩⟩
  ·rw [du ha] at q
   refine ⟨_,rfl,.ref a,rfl,.inr ⟨a,xs,rfl,ha,_,rfl,?_⟩⟩
   by_cases hL:(xs.length:Int)=2
   ·rw [decide_eq_true hL]
    refine aO ?_
    match xs,hL with
    | [x,y],_=>
    obtain ⟨t1,b1,c1,ty1,h11,h12,e1⟩:=hty x (by simp)
    obtain ⟨t2,b2,c2,ty2,h21,h22,e2⟩:=hty y (by simp)
    refine ⟨_,rfl,a,_,_,_,rfl,rfl,SqT.of ha,rfl,x,t1,b1,c1,rfl,ty1,h11,h12,_,rfl,?_⟩
    rw [e1]
    cases x with
    | int n=>
     refine aO ?_
     refine ⟨_,rfl,a,_,_,_,rfl,rfl,SqT.of ha,rfl,y,t2,b2,c2,rfl,ty2,h21,h22,_,rfl,?_⟩
     rw [e2]
     cases y with
     | int d=>
      refine aO ?_
      refine ⟨_,rfl,a,_,_,_,rfl,rfl,SqT.of ha,rfl,_,_,rfl,rfl,_,rfl,?_⟩
      have q':Q (.bl (decide (1 <= d) && decide (Int.gcd n d=1))) H:=q
      by_cases hd:1 <= d
      ·rw [decide_eq_true hd,Bool.true_and] at q'
       rw [decide_eq_true hd]
       refine aH ⟨_,rfl,a,_,_,_,rfl,rfl,SqT.of ha,rfl,_,rfl,a,_,_,_,rfl,rfl,SqT.of ha,rfl,n,d,rfl,rfl,?_⟩
       rw [show decide (V.int (Int.gcd n d:Int)=V.int 1)=decide (Int.gcd n d=1) from decide_eq_decide.mpr ⟨fun z=>by injection z with z; omega,fun z=>by rw [z]; rfl⟩]
       exact q'
      ·rw [decide_eq_false hd,Bool.false_and] at q'
       rw [decide_eq_false hd]
       exact aO q'
     | _=>exact aH q
    | _=>exact aH (aH (by cases y<;>exact q))
   ·rw [decide_eq_false hL]
    have ep:gY xs=false:=by
     unfold gY
     split
     ·exact absurd rfl hL
     ·rfl
    rw [ep] at q
    exact aH (aH q)
theorem gH:FnScope ["self", "thing"] ["self", "thing"] (al bh):=.i
theorem ok_ris {f CR:Addr} {fd:FuncData} (F:Fun K "is_number" "Rests.is_number" bh f fd) (cl:Cls K CR) (nM:NoAttr K CR "modulus") (Gis_whole_number:FnB P w K mg base 1 "is_whole_number" (dO K)):aI P w K mg base CX0 2 f fd ["self", "thing"] (spRIs K CR):=by
 refine F.ok gH (fun vs H Q E h=>?_) (fun cdv A outer s H vs Q E hr h=>?_)
 ·obtain ⟨x,dx,p,v,rfl,_⟩:=h
  rfl
 ·obtain ⟨x,dx,p,v,rfl,hx,ty,q⟩:=h
  refine ⟨_,(ak (aq (cr (aw Gis_whole_number hr.m (aa (pv 1) af)) (cr (aV je ae (pv 1) (ar _)) (bY (aV ib (pv 1) (iT (pv 0) rfl) (ar _))))))),?_⟩
  obtain ⟨t,b,c,ty,h1,h2,e⟩:=ty
  refine ⟨_,rfl,v,t,b,c,rfl,ty,h1,h2,_,rfl,?_⟩
  rw [e]
  cases v with
  | int i=>
   refine aH ⟨_,rfl,_,_,rfl,rfl,_,rfl,?_⟩
   have q':Q (.bl (decide (0 <= i) && decide (i < p))) H:=q
   by_cases hi:0 <= i
   ·rw [decide_eq_true hi,Bool.true_and] at q'
    rw [decide_eq_true hi]
    exact aH ⟨_,rfl,_,rfl,x,CR,dx,_,_,rfl,hx,cl,nM,rfl,_,_,rfl,rfl,q'⟩
   ·rw [decide_eq_false hi,Bool.false_and] at q'
    rw [decide_eq_false hi]
    exact aO q'
  | _=>exact aO q
end
theorem mod_is (v:V):List.lookup ("is_number" : Str) [(("modulus" : Str),v)]=none:=by
 have e:(("is_number" : Str) == ("modulus" : Str))=false:=by decide +kernel
 simp only [List.lookup,e]
theorem isnum_go {K:Frag} {CF CR x:Addr} {p:Int} {v:V} {H:Hp} {σ:L2.St} {R:VK} {ta:TE} {t:TA} (hN:NumsAt CF CR H x p) (hT:Thing K H v) (ha:∀ Z:VK,Z (.ref x) H->ta σ H Z) (ht:∀ Z:List V->Hp->Prop,Z [v] H->t σ H Z) (hR:R (.bl (fo p H v)) H) :
  tOrE (g9 CF "is_number" (spFIs K) [] E0 ta t) (g9 CR "is_number" (spRIs K CR) [] E0 ta t) σ H R:=by
 rcases hN with ⟨h0,dx,e⟩ | ⟨h0,dx,e⟩
 ·unfold fo at hR
  rw [if_pos h0] at hR
  exact .inl (ha _ ⟨x,dx,[],rfl,e,rfl,ht _ ⟨_,v,rfl,hT,hR⟩⟩)
 ·unfold fo at hR
  rw [if_neg h0] at hR
  exact .inr (ha _ ⟨x,dx,_,rfl,e,mod_is _,ht _ ⟨x,dx,p,v,rfl,e,hT.1,hR⟩⟩)
def iQ:Sp:=fun vs H Q _=>∃ (p:Addr) (P a b:Int) (k:Nat),vs=[.int P,.ref p,.bl false]/\PrimeOk P/\H p=some (.lst [.int a,.int b])/\BagOk a b k/\k <= 700000/\
 ∀ (v:V) (x:Int × Int) (a' b':Int) (H':Hp),At P H' v x->OkN P x->(P=0->Sz 2 x)->H' p=some (.lst [.int a',.int b'])->BagOk a' b' (k + 2)->(∀ c o,H c=some o->c ≠ p->H' c=some o)->Q v H'
section
variable {P:Program} {w:World} {K:Frag} {mg:Str->Option Value} {base:Heap}
theorem ok_number0 {f:Addr} {fd:FuncData} (F:Fun K "_law_number" "_law_number" cV f fd) (T:Blt mg) (G_law_take:FnB P w K mg base 1 "_law_take" cF) (G_law_great:FnB P w K mg base 2 "_law_great" jA) (G_law_signed:FnB P w K mg base 3 "_law_signed" jM) (G_law_low:FnB P w K mg base 1 "_law_low" jD) :
  aI P w K mg base CX0 4 f fd ["_law_prime_here", "_law_bag_here", "_law_great_here"] iQ:=by
 refine F.ok fN (fun vs H Q E h=>?_) (fun cdv A outer s H vs Q E hr h=>?_)
 ·obtain ⟨p,P,a,b,k,rfl,_⟩:=h
  rfl
 ·obtain ⟨p,P,a,b,k,rfl,hP,hp,hb,hk,q⟩:=h
  refine ⟨_,(ag (aJ (az dR (pv 0) ae (ar _))
(ak (aq (aw G_law_take hr.m (aa (pv 1) (aa (pv 0) af)))))
aB)
(ag (aJ (aW (pv 2))
(ak (aq (aw G_law_low hr.m (aa (aw G_law_signed hr.m (aa (pv 1) af)) (aa (pl_max T (aa ae (aa (aw G_law_great hr.m (aa (pv 1) af)) af))) af)))))
aB)
(ak (aq (aw G_law_low hr.m (aa (au bx (aw G_law_take hr.m (aa (pv 1) (aa ae af))) ae) (aa (au aP ae (au cE (aw G_law_take hr.m (aa (pv 1) (aa ae af))) ae)) af))))))),?_⟩
  have k1:∀ o c o',H c=some o'->c ≠ p->(upd H p o) c=some o':=fun o c o' e hc=>by rw [ao hc]; exact e
  refine ⟨_,rfl,_,_,rfl,rfl,_,rfl,bD (fun h=>?_) (fun h=>?_)⟩
  ·have h0:0 < P:=of_decide_eq_true h
   have h9:P <= 9973:=by rcases hP with z | ⟨_,z,_⟩<;>omega
   refine ⟨_,rfl,_,rfl,p,a,b,P,k,rfl,hp,hb,by omega,h0,aC (by omega) (by omega),fun r a1 b1 r0 r1 hb1=>?_⟩
   exact q _ (r,1) a1 b1 _ (.inr ⟨by omega,rfl,rfl⟩) (.inr ⟨by omega,r0,r1,rfl⟩) (fun z=>absurd z (by omega)) ac (hb1.mono (by omega)) (k1 _)
  have h0:P=0:=by
   have h1:¬ 0 < P:=fun z=>h (decide_eq_true z)
   rcases hP with z | ⟨z,_⟩<;>omega
  refine ⟨_,rfl,_,rfl,?_⟩
  refine aO ⟨_,rfl,p,a,b,7,k,rfl,hp,hb,by omega,by decide,aC (by decide) (by decide),fun r1 a1 b1 r10 r11 hb1=>?_⟩
  refine ⟨_,_,rfl,rfl,?_⟩
  refine ⟨_,rfl,p,a1,b1,8,k + 1,rfl,ac,hb1,by omega,by decide,aC (by decide) (by decide),fun r2 a2 b2 r20 r21 hb2=>?_⟩
  refine ⟨_,_,rfl,rfl,fK (by decide) (by decide),_,_,rfl,rfl,?_⟩
  rw [cW]
  have hm:(1:Int) <= 1 + r2.fdiv 7/\1 + r2.fdiv 7 < 4:=by
   rw [Int.fdiv_eq_ediv_of_nonneg _ (by decide)]
   omega
  refine ⟨r1 - 3,1 + r2.fdiv 7,rfl,by omega,aC (by omega) (by omega),fun t ht=>?_⟩
  generalize 1 + r2.fdiv 7=dd at *
  have pt:p ≠ t:=ah (o:=.lst [.int a2,.int b2]) ac ht
  have hl:=jL (r1 - 3) dd (by omega)
  refine q _ (nrm (r1 - 3) dd) a2 b2 _ (.inl ⟨h0,t,rfl,ac⟩) (.inl ⟨h0,ju _ _ (by omega),ip _ _ (by omega)⟩) (fun _=>⟨Nat.lt_of_le_of_lt hl.1 (by show (r1 - 3).natAbs < 4; omega),Nat.lt_of_le_of_lt hl.2 (by show dd.natAbs < 4; omega)⟩) (by rw [ao pt,ac]) (hb2.mono (by omega)) fun c o e hc=>?_
  rw [ao (ah (k1 _ c o e hc) ht)]
  exact k1 _ c o e hc
end
def mj:Sp:=fun vs H Q _=>∃ (p:Addr) (L M a b:Int) (k:Nat),vs=[.int L,.int M,.ref p]/\1 <= L/\L <= 4/\0 <= M/\M <= 1000/\H p=some (.lst [.int a,.int b])/\BagOk a b k/\k <= 100000/\
 ∀ (t:Addr) (es:List Int) (a' b':Int) (H':Hp),(es.length:Int)=L->(∀ e ∈ es,0 <= e)->es.sum=M->H' t=some (.tup (es.map V.int))->H' p=some (.lst [.int a',.int b'])->BagOk a' b' (k + 6)->(∀ c o,H c=some o->c ≠ p->H' c=some o)->Q (.ref t) H'
section
variable {P:Program} {w:World} {K:Frag} {mg:Str->Option Value} {base:Heap}
theorem sc__law_product:FnScope ["_law_letters", "_law_many", "_law_bag_here", "_law_found", "_law_left", "_law_letter", "_law_here"] ["_law_letters", "_law_many", "_law_bag_here"] (al dA):=.i
theorem ok_product {f:Addr} {fd:FuncData} (F:Fun K "_law_product" "_law_product" dA f fd) (T:Blt mg) (G_law_take:FnB P w K mg base 1 "_law_take" cF):aI P w K mg base CX0 2 f fd ["_law_letters", "_law_many", "_law_bag_here"] mj:=by
 refine F.ok sc__law_product (fun vs H Q E h=>?_) (fun cdv A outer s H vs Q E hr h=>?_)
 ·obtain ⟨p,L,M,a,b,k,rfl,_⟩:=h
  rfl
 ·obtain ⟨p,L,M,a,b,k,rfl,hL1,hL4,hM0,hM1,hp,hb,hk,q⟩:=h
  refine ⟨_,(ag (aA (i:=3) sc__law_product.nd rfl (Or.inl rfl) (bb af))
(ag (aA (i:=4) sc__law_product.nd rfl (Or.inl rfl) (pv 1))
(ag (dh PassesOwn.never rfl (cR rfl T.range (aa (au bx (pv 0) ae) af)) (aM (i:=5) sc__law_product.nd rfl (Or.inl rfl))
(ag (aA (i:=6) sc__law_product.nd rfl (Or.inl rfl) (aw G_law_take hr.m (aa (pv 2) (aa (au aP (pv 4) ae) af))))
(ag (gg (lD PySem.F.plainAttrs_list PySem.F.slot_list_append PySem.F.type_list_append cQ (pv 3) (aa (pv 6) af)))
(ak (aA (i:=4) sc__law_product.nd rfl (Or.inl rfl) (au bx (pv 4) (pv 6)))))))
(ak (aq (f6 K T (au cu (pv 3) (bb (aa (pv 4) af))))))))),?_⟩
  refine ⟨Nat.zero_le _,fun l hl=>?_⟩
  have pl:p ≠ l:=ah hp hl
  refine ⟨_,rfl,?_⟩
  refine ⟨_,rfl,_,_,rfl,rfl,_,rfl,by omega,by omega,gi (n:=(L - 1).toNat) (fun i σ H'=>∃ (es:List Int) (left a b:Int) (x5 x6:Option V),σ=[some (.int L),some (.int M),some (.ref p),some (.ref l),some (.int left),x5,x6]/\es.length=i/\(∀ e ∈ es,0 <= e)/\0 <= left/\(left <= M/\es.sum + left=M)/\
    H' l=some (.lst (es.map V.int))/\H' p=some (.lst [.int a,.int b])/\BagOk a b (k + i)/\(∀ c o,H c=some o->c ≠ p->H' c=some o)) ?_ ?_ ?_⟩
  ·refine ⟨[],M,a,b,none,none,rfl,rfl,fun e he=>absurd he (by simp),hM0,⟨Int.le_refl _,by simp⟩,ac,(by rw [ao pl]; exact hp),hb,fun c o e hc=>?_⟩
   rw [ao (ah e hl)]
   exact e
  ·rintro i σ H2 hi ⟨es,left,a2,b2,x5,x6,rfl,hlen,hnn,hl0,⟨hlM,hsm⟩,hl2,hp2,hb2,kp⟩
   refine ⟨_,rfl,_,rfl,_,_,rfl,rfl,p,a2,b2,_,k + i,rfl,hp2,hb2,by omega,by omega,aC (by omega) (by omega),fun r3 a3 b3 r30 r31 hb3=>?_⟩
   have hl3:(upd H2 p (.lst [.int a3,.int b3])) l=some (.lst (es.map V.int)):=by rw [ao pl.symm]; exact hl2
   refine ⟨_,rfl,.inl ⟨rfl,_,SqL.of hl3⟩,_,rfl,l,_,_,rfl,rfl,hl3,eI (by rw [List.length_map]; omega),?_⟩
   refine ⟨_,rfl,_,rfl,_,_,rfl,rfl,?_⟩
   refine ⟨es ++ [r3],left - r3,a3,b3,_,_,rfl,by rw [List.length_append,List.length_singleton,hlen],fun e he=>?_,by omega,⟨by omega,by rw [List.sum_append]; simp; omega⟩,by rw [ac,List.map_append]; rfl,by rw [ao pl,ac],by rw [show k + (i + 1)=k + i + 1 by omega]; exact hb3,fun c o e hc=>?_⟩
   ·rcases List.mem_append.mp he with z | z
    ·exact hnn e z
    ·rw [List.mem_singleton.mp z]; exact r30
   ·rw [ao (ah e hl),ao hc]
    exact kp c o e hc
  ·rintro σ H2 ⟨es,left,a2,b2,x5,x6,rfl,hlen,hnn,hl0,⟨hlM,hsm⟩,hl2,hp2,hb2,kp⟩
   refine ⟨_,rfl,_,rfl,(by show 1 <= sizeLine; decide),fun l1 n1=>?_⟩
   have s1:=Same.new (o:=.lst [.int left]) n1
   have h4:(10:Nat) <= sizeLine:=by decide
   refine ⟨l,l1,_,_,rfl,rfl,s1 _ _ hl2,ac,by rw [List.length_map,List.length_singleton]; omega,fun l2 n2=>?_⟩
   have s2:=Same.new (o:=.lst (es.map V.int ++ [.int left])) n2
   refine ⟨l2,_,rfl,SqL.of ac,fun t ht=>?_⟩
   have s3:=Same.new (o:=.tup (es.map V.int ++ [.int left])) ht
   have sm:=(s1.trans s2).trans s3
   refine q t (es ++ [left]) a2 b2 _ (by rw [List.length_append,List.length_singleton]; omega) (fun e he=>?_) (by rw [List.sum_append]; simp; omega) (by rw [ac,List.map_append]; rfl) (sm _ _ hp2) (hb2.mono (by omega)) (fun c o e hc=>sm c o (kp c o e hc))
   rcases List.mem_append.mp he with z | z
   ·exact hnn e z
   ·rw [List.mem_singleton.mp z]; exact hl0
end
theorem nd_3:(["part", "ring"]:List Str).Nodup:=by decide +kernel
theorem nd_4:(["part", "behind"]:List Str).Nodup:=by decide +kernel
theorem nd_5:(["_law_number_here"]:List Str).Nodup:=by decide +kernel
theorem lexGt_lt:∀ a b:List Int,lexGt a b=HT.lexLt b a
 | [],[]=>rfl
 | [],_ :: _=>rfl
 | _ :: _,[]=>rfl
 | x :: a,y :: b=>by
  rw [HT.lexLt_cons,<- lexGt_lt a b]
  unfold lexGt lexV gtI
  by_cases e:x=y
  ·subst e
   simp [goOp]
  ·rw [if_neg (fun z=>e z.symm)]
   have e2:(x == y)=false:=by simpa using e
   show goOp ((x == y,decide (y < x)) :: _) _=_
   rw [e2]
   rfl
theorem hgt_klt (a b:List Int):hgt a.sum a b.sum b=klt (b.sum,b) (a.sum,a):=by
 unfold hgt klt gtI
 by_cases h:a.sum=b.sum
 ·rw [if_pos h,if_pos h.symm]
  by_cases e:a=b
  ·rw [if_pos e,if_pos e.symm]
  ·rw [if_neg e,if_neg (fun z=>e z.symm)]
   exact lexGt_lt a b
 ·rw [if_neg h,if_neg (fun z=>h z.symm)]
def NoTup (K:Frag) (H:Hp) (v:V):Prop:=∃ t,TyOf K H v t/\kitOne K t (.type "tuple")=some false/\∀ a,v=.ref a->∃ xs,H a=some (.lst xs)
theorem NoTup.soft {K:Frag} {H H':Hp} {v:V} (s:Soft H H') (h:NoTup K H v):NoTup K H' v:=by
 obtain ⟨t,ty,e,hn⟩:=h
 refine ⟨t,TyOf.soft s ty,e,fun a ea=>?_⟩
 obtain ⟨xs,hx⟩:=hn a ea
 rcases s _ _ hx with z | ⟨_,ys,_,z⟩
 ·exact ⟨_,z⟩
 ·exact ⟨_,z⟩
def Item (K:Frag) (H:Hp) (x:V):Prop:=NoTup K H x\/(∃ a xs,x=.ref a/\H a=some (.tup xs)/\(xs.length:Int) ≠ 2) \/
 ∃ a u w,x=.ref a/\H a=some (.tup [u,w])/\(NoTup K H u\/∃ c es,u=.ref c/\H c=some (.tup es)/\es.length <= 1000/\(∀ e ∈ es,Typed K H e)/\Thing K H w)
theorem Soft.tup {H H':Hp} {a:Addr} {xs:List V} (s:Soft H H') (h:H a=some (.tup xs)):H' a=some (.tup xs):=by
 rcases s _ _ h with z | ⟨_,_,z,_⟩
 ·exact z
 ·cases z
theorem Item.soft {K:Frag} {H H':Hp} {x:V} (s:Soft H H') (h:Item K H x):Item K H' x:=by
 rcases h with h | ⟨a,xs,rfl,ha,hl⟩ | ⟨a,u,w,rfl,ha,h | ⟨c,es,rfl,hc,hl,hty,hw⟩⟩
 ·exact .inl (h.soft s)
 ·exact .inr (.inl ⟨a,xs,rfl,s.tup ha,hl⟩)
 ·exact .inr (.inr ⟨a,u,w,rfl,s.tup ha,.inl (h.soft s)⟩)
 ·exact .inr (.inr ⟨a,_,w,rfl,s.tup ha,.inr ⟨c,es,rfl,s.tup hc,hl,fun e he=>(hty e he).soft s,hw.soft s⟩⟩)
def itemV (P L:Int) (H:Hp):V->Bool
 | .ref a=>match H a with
  | some (.tup [.ref c,w])=>match H c with
   | some (.tup es)=>gq es L && fo P H w
   | _=>false
  | _=>false
 | _=>false
def gK (H:Hp):V->Int × Int
 | .int i=>(i,1)
 | .ref t=>match H t with
  | some (.tup [.int n,.int d])=>(n,d)
  | _=>(0,1)
 | _=>(0,1)
def nzV (H:Hp):V->Bool
 | .ref a=>match H a with
  | some (.tup [_,w])=>decide (gK H w ≠ (0,1))
  | _=>false
 | _=>false
def partV (P L:Int) (H:Hp) (x:V):Bool:=itemV P L H x && nzV H x
theorem de {K:Frag} {P L:Int} {H:Hp} {x:V} (h:NoTup K H x):itemV P L H x=false:=by
 obtain ⟨t,ty,e,hn⟩:=h
 cases x with
 | ref a=>
  obtain ⟨xs,hx⟩:=hn a rfl
  unfold itemV
  simp only [hx]
 | _=>rfl
theorem cM {P L:Int} {H:Hp} {a:Addr} {xs:List V} (ha:H a=some (.tup xs)) (hl:(xs.length:Int) ≠ 2):itemV P L H (.ref a)=false:=by
 unfold itemV
 simp only [ha]
 split
 ·rename_i h
  injection h with h
  injection h with h
  subst h
  exact absurd rfl hl
 ·rfl
theorem dq {K:Frag} {P L:Int} {H:Hp} {a:Addr} {u w:V} (ha:H a=some (.tup [u,w])) (h:NoTup K H u):itemV P L H (.ref a)=false:=by
 obtain ⟨t,ty,e,hn⟩:=h
 unfold itemV
 simp only [ha]
 cases u with
 | ref c=>
  obtain ⟨xs,hx⟩:=hn c rfl
  simp only [hx]
 | _=>rfl
theorem cX {P L:Int} {H:Hp} {a c:Addr} {w:V} {es:List V} (ha:H a=some (.tup [.ref c,w])) (hc:H c=some (.tup es)):itemV P L H (.ref a)=(gq es L && fo P H w):=by
 unfold itemV
 simp only [ha,hc]
theorem mH {H:Hp} {a:Addr} {u w:V} (ha:H a=some (.tup [u,w])):nzV H (.ref a)=decide (gK H w ≠ (0,1)):=by
 unfold nzV
 simp only [ha]
theorem numP_soft {K:Frag} {H H':Hp} {w:V} (s:Soft H H') (h:Thing K H w):gK H' w=gK H w:=by
 obtain ⟨_,⟨t,ty2,e,hn⟩ | ⟨a,xs,rfl,ha,hl,hty,hb⟩⟩:=h
 ·cases w with
  | ref a=>
   obtain ⟨xs,hx⟩:=hn a rfl
   unfold gK
   rcases s _ _ hx with z | ⟨_,ys,_,z⟩
   ·simp only [hx,z]
   ·simp only [hx,z]
  | _=>rfl
 ·unfold gK
  simp only [ha,s.tup ha]
theorem j0 {K:Frag} {P L:Int} {H H':Hp} {x:V} (s:Soft H H') (h:Item K H x):partV P L H' x=partV P L H x:=by
 have h':=h.soft s
 rcases h with h | ⟨a,xs,rfl,ha,hl⟩ | ⟨a,u,w,rfl,ha,h⟩
 ·unfold partV
  rw [de h,de (h.soft s),Bool.false_and,Bool.false_and]
 ·unfold partV
  rw [cM ha hl,cM (s.tup ha) hl,Bool.false_and,Bool.false_and]
 ·rcases h with h | ⟨c,es,rfl,hc,hl,hty,hw⟩
  ·unfold partV
   rw [dq ha h,dq (s.tup ha) (h.soft s),Bool.false_and,Bool.false_and]
  ·unfold partV
   rw [cX ha hc,cX (s.tup ha) (s.tup hc),mH ha,mH (s.tup ha),fY s hw,numP_soft s hw]
theorem num_at {K:Frag} {P:Int} (hP:PrimeOk P) {H:Hp} {w:V} (h:Thing K H w) (hv:fo P H w=true):At P H w (gK H w)/\OkN P (gK H w):=by
 unfold fo at hv
 by_cases h0:P=0
 ·rw [if_pos h0] at hv
  obtain ⟨_,⟨t,ty2,e,hn⟩ | ⟨a,xs,rfl,ha,hl,hty,hb⟩⟩:=h
  ·rw [eK hn] at hv
   cases hv
  ·rw [du ha] at hv
   unfold gY at hv
   split at hv
   ·rename_i n d
    have hd:=(Bool.and_eq_true _ _).mp hv
    have e:gK H (.ref a)=(n,d):=by
     unfold gK
     simp only [ha]
    rw [e]
    exact ⟨.inl ⟨h0,a,rfl,ha⟩,.inl ⟨h0,by have:=of_decide_eq_true hd.1; show 0 < d; omega,of_decide_eq_true hd.2⟩⟩
   ·cases hv
 ·rw [if_neg h0] at hv
  cases w with
  | int i=>
   have hd:=(Bool.and_eq_true _ _).mp (show (decide (0 <= i) && decide (i < P))=true from hv)
   exact ⟨.inr ⟨h0,rfl,rfl⟩,.inr ⟨h0,of_decide_eq_true hd.1,of_decide_eq_true hd.2,rfl⟩⟩
  | _=>cases hv
theorem lW {P:Int} {H:Hp} {w:V} {x:Int × Int} (h:At P H w x):gK H w=x:=by
 rcases h with ⟨h0,t,rfl,e⟩ | ⟨h0,rfl,e⟩
 ·unfold gK
  simp only [e]
 ·exact Prod.ext rfl e.symm
theorem PartR.item {K:Frag} {P L:Int} {H:Hp} {v:V} {p:am} (h:PartR P H v p) (o:OkN P p.2) (s:Sz 1900 p.2) (hl:p.1.length <= 10):Item K H v:=by
 obtain ⟨t,k,u,rfl,h1,h2,h3⟩:=h
 exact .inr (.inr ⟨t,_,u,rfl,h1,.inr ⟨k,_,rfl,h2,by rw [List.length_map]; omega,eY _,(h3.thing (K:=K) o s).1⟩⟩)
theorem PartR.itemV {F:Frag} {P L:Int} {H:Hp} {v:V} {p:am} (h:PartR P H v p) (o:OkN P p.2) (s:Sz 1900 p.2) (hl:(p.1.length:Int)=L) (hn:∀ e ∈ p.1,0 <= e):K.itemV P L H v=true:=by
 obtain ⟨t,k,u,rfl,h1,h2,h3⟩:=h
 rw [cX h1 h2,(h3.thing (K:=F) o s).2,Bool.and_true]
 unfold gq
 rw [List.length_map,decide_eq_true hl,nn_ints _ hn]
 rfl
theorem PartR.partV {F:Frag} {P L:Int} {H:Hp} {v:V} {p:am} (h:PartR P H v p) (o:OkN P p.2) (s:Sz 1900 p.2) (hl:(p.1.length:Int)=L) (hn:∀ e ∈ p.1,0 <= e):K.partV P L H v=nz p:=by
 have e:=h.itemV (F:=F) o s hl hn
 obtain ⟨t,k,u,rfl,h1,h2,h3⟩:=h
 unfold K.partV
 rw [e,mH h1,lW h3]
 rfl
def adj (ps:List am):Bool:=(List.zipWith (fun a b=>klt (hk b) (hk a)) ps ps.tail).all id
def et (ps:List am):Bool:=ps.all nz && adj ps
theorem fF:∀ {ps:List am},adj ps=true↔ps.Pairwise fun a b=>klt (hk b) (hk a)=true
 | []=>by simp [adj]
 | [a]=>by simp [adj]
 | a :: b :: r=>by
  have ih:=fF (ps:=b :: r)
  have e:adj (a :: b :: r)=(klt (hk b) (hk a) && adj (b :: r)):=rfl
  rw [e,Bool.and_eq_true,ih,List.pairwise_cons (a:=a)]
  constructor
  ·rintro ⟨h1,h2⟩
   refine ⟨fun c hc=>?_,h2⟩
   rcases List.mem_cons.mp hc with rfl | hc
   ·exact h1
   ·exact i0 ((List.pairwise_cons.mp h2).1 c hc) h1
  ·rintro ⟨h1,h2⟩
   exact ⟨h1 b (by simp),h2⟩
theorem fall_nodup' {ps:List am} (h:ps.Pairwise fun a b=>klt (hk b) (hk a)=true):(ps.map (·.1)).Nodup:=by
 rw [List.Nodup,List.pairwise_map]
 refine h.imp fun {a b} hab z=>?_
 have e:hk a=hk b:=by unfold hk; rw [z]
 rw [e,mO] at hab
 cases hab
theorem canon_iff {P:Int} {ps out:List am} (ok:∀ p ∈ ps,OkN P p.2) (h:IsSum P ps out):decide (out=ps)=et ps:=by
 by_cases hc:et ps=true
 ·rw [hc]
  apply decide_eq_true
  unfold et at hc
  rw [Bool.and_eq_true,fF] at hc
  have nd:=fall_nodup' hc.2
  have e:IsSum P ps ps:=⟨by rw [gc nd ok,List.filter_eq_self.mpr (List.all_eq_true.mp hc.1)],hc.2⟩
  exact mm h e
 ·rw [Bool.eq_false_iff.mpr hc]
  apply decide_eq_false
  rintro rfl
  apply hc
  unfold et
  rw [Bool.and_eq_true,fF]
  exact ⟨List.all_eq_true.mpr fun q hq=>(List.mem_filter.mp (h.1.mem_iff.mp hq)).2,h.2⟩
theorem eqv_dP2 {P:Int} {p q:am} (hp:OkN P p.2) (hq:OkN P q.2):PyData.eqv (dP P p) (dP P q)=decide (p=q):=by
 have e:PyData.eqv (dP P p) (dP P q)=(PyData.eqv (dB p.1) (dB q.1) && PyData.eqv (dN P p.2) (dN P q.2)):=by
  unfold dP
  simp [PyData.eqv,PyData.eqvAll]
 rw [e,ft,jp hp hq,<- Bool.decide_and]
 exact decide_eq_decide.mpr ⟨fun z=>Prod.ext z.1 z.2,fun z=>⟨by rw [z],by rw [z]⟩⟩
theorem eqv_dS2 {P:Int}:∀ {a b:List am},(∀ p ∈ a,OkN P p.2)->(∀ p ∈ b,OkN P p.2)->PyData.eqv (dS P a) (dS P b)=decide (a=b)
 | [],[],_,_=>by simp [dS,PyData.eqv,PyData.eqvAll]
 | [],_ :: _,_,_=>by simp [dS,PyData.eqv,PyData.eqvAll]
 | _ :: _,[],_,_=>by simp [dS,PyData.eqv,PyData.eqvAll]
 | p :: a,q :: b,ha,hb=>by
  have ih:=eqv_dS2 (P:=P) (a:=a) (b:=b) (fun r hr=>ha r (by simp [hr])) fun r hr=>hb r (by simp [hr])
  have e:PyData.eqv (dS P (p :: a)) (dS P (q :: b))=(PyData.eqv (dP P p) (dP P q) && PyData.eqv (dS P a) (dS P b)):=by
   unfold dS
   simp [PyData.eqv,PyData.eqvAll]
  rw [e,ih,eqv_dP2 (ha p (by simp)) (hb q (by simp)),<- Bool.decide_and]
  exact decide_eq_decide.mpr ⟨fun z=>by rw [z.1,z.2],fun z=>by injection z with z1 z2; exact ⟨z1,z2⟩⟩
theorem li {F:Frag} {P L:Int} {H:Hp}:∀ {ts:List V} {ps:List am},PartsR P H ts ps->(∀ q ∈ ps,OkN P q.2/\Sz 1900 q.2)->(∀ q ∈ ps,(q.1.length:Int)=L/\q.1.length <= 10/\∀ e ∈ q.1,0 <= e)->ts.map (partV P L H)=ps.map nz
 | _,_,.nil,_,_=>rfl
 | _,_,.cons a r,ok,hL=>by
  rw [List.map_cons,List.map_cons,a.partV (F:=F) (ok _ (by simp)).1 (ok _ (by simp)).2 (hL _ (by simp)).1 (hL _ (by simp)).2.2,li (F:=F) r (fun q hq=>ok q (by simp [hq])) fun q hq=>hL q (by simp [hq])]
def SThing (K:Frag) (P L:Int) (H:Hp) (p:Addr) (v:V) (b:Bool):Prop:=
 (b=false/\∃ t,TyOf K H v t/\kitOne K t (.type "list")=some false) \/
 (b=false/\∃ l xs,v=.ref l/\l ≠ p/\H l=some (.lst xs)/\xs.length <= 60/\(∀ x ∈ xs,Item K H x)/\∃ x ∈ xs,itemV P L H x=false) \/
 ∃ l ts ps,v=.ref l/\l ≠ p/\H l=some (.lst ts)/\PartsR P H ts ps/\ps.length <= 60/\fj P ps/\(∀ q ∈ ps,(q.1.length:Int)=L/\q.1.length <= 10/\∀ e ∈ q.1,0 <= e)/\b=et ps
def spHeight (K:Frag):Sp:=fun vs H Q _=>∃ (a:Addr) (ns:List Int),vs=[.ref a]/\SqT K H a (ns.map V.int)/\∀ t,H t=none->Q (.ref t) (upd H t (.tup [.int ns.sum,.ref a]))
def spAbove (K:Frag):Sp:=fun vs H Q _=>∃ (a b:Addr) (ns ms:List Int),vs=[.ref a,.ref b]/\SqT K H a (ns.map V.int)/\SqT K H b (ms.map V.int)/\∀ H',Same H H'->Q (.bl (hgt ns.sum ns ms.sum ms)) H'
section
variable {P:Program} {w:World} {K:Frag} {mg:Str->Option Value} {base:Heap}
theorem sc_height:FnScope ["one"] ["one"] (al jQ):=.i
theorem ok_height {f:Addr} {fd:FuncData} (F:Fun K "height" "height" jQ f fd) (Gdegree:FnB P w K mg base 1 "degree" (spDeg K)):aI P w K mg base CX0 2 f fd ["one"] (spHeight K):=by
 refine F.ok sc_height (fun vs H Q E h=>?_) (fun cdv A outer s H vs Q E hr h=>?_)
 ·obtain ⟨a,ns,rfl,_⟩:=h
  rfl
 ·obtain ⟨a,ns,rfl,ha,q⟩:=h
  refine ⟨_,(ak (aq (bM (aa (aw Gdegree hr.m (aa (pv 0) af)) (aa (pv 0) af))))),?_⟩
  exact ⟨_,rfl,a,ns,rfl,ha,_,rfl,by show 2 <= sizeLine; decide,q⟩
theorem sc_is_above:FnScope ["one", "other"] ["one", "other"] (al gw):=.i
theorem ok_above {f:Addr} {fd:FuncData} (F:Fun K "is_above" "is_above" gw f fd) (Gheight:FnB P w K mg base 2 "height" (spHeight K)):aI P w K mg base CX0 3 f fd ["one", "other"] (spAbove K):=by
 refine F.ok sc_is_above (fun vs H Q E h=>?_) (fun cdv A outer s H vs Q E hr h=>?_)
 ·obtain ⟨a,b,ns,ms,rfl,_⟩:=h
  rfl
 ·obtain ⟨a,b,ns,ms,rfl,ha,hb,q⟩:=h
  refine ⟨_,(ak (aq (aV (kgtP (k:=0) (K:=K) rfl (hr.mono (by decide))) (aw Gheight hr.m (aa (pv 0) af)) (aw Gheight hr.m (aa (pv 1) af)) (ar _)))),?_⟩
  refine ⟨_,rfl,a,ns,rfl,ha,fun t1 n1=>?_⟩
  have s1:=Same.new (o:=.tup [.int ns.sum,.ref a]) n1
  refine ⟨_,rfl,b,ms,rfl,s1.sqT hb,fun t2 n2=>?_⟩
  have s2:=Same.new (o:=.tup [.int ms.sum,.ref b]) n2
  exact ⟨t1,t2,a,b,ns.sum,ms.sum,ns,ms,rfl,rfl,SqT.of (s2 _ _ ac),SqT.of ac,(s1.trans s2).sqT ha,(s1.trans s2).sqT hb,q _ (s1.trans s2)⟩
end
theorem cut_lo (xs:List V) (n:Nat) (h:n <= xs.length):hU xs (some (n:Int)) none=xs.drop n:=by
 unfold hU
 rw [HT.sIx_nat,HT.sIx_none,Nat.min_eq_left h]
 exact List.take_of_length_le (by rw [List.length_drop]; exact Nat.le_refl _)
theorem cut_hi (xs:List V) (n:Nat) (h:n <= xs.length):hU xs none (some (n:Int))=xs.take n:=by
 unfold hU
 rw [HT.sIx_nat,HT.sIx_none,Nat.min_eq_left h]
 simp
def spPart (K:Frag) (CF CR CG:Addr):Sp:=fun vs H Q _=>∃ (g x:Addr) (P L:Int) (v:V),vs=[.ref g,v]/\PrimeOk P/\fU CG H g x L/\NumsAt CF CR H x P/\Item K H v/\∀ H',Same H H'->Q (.bl (partV P L H v)) H'
section
variable {P:Program} {w:World} {K:Frag} {mg:Str->Option Value} {base:Heap}
theorem sc_is_part:FnScope ["ring", "thing"] ["ring", "thing"] (al iR):=.i
theorem ok_part {f CF CR CG C_NoNumber:Addr} {fd:FuncData} (F:Fun K "is_part" "is_part" iR f fd) (Gis_pair:FnB P w K mg base 1 "is_pair" (spPair K)) (Gis_product:FnB P w K mg base 2 "is_product" (spIsProd K)) (MtRn:MtB P w K mg base 1 CG "numbers" (spRNum CG)) (MtRl:MtB P w K mg base 1 CG "letters" (spRLet CG))
  (MtF:MtB P w K mg base 2 CF "is_number" (spFIs K)) (MtR:MtB P w K mg base 2 CR "is_number" (spRIs K CR)) (MtOf1:MtBX P w K mg base 2 CF "of" [.int 1] (l3 C_NoNumber)) (MtRf1:MtBX P w K mg base 2 CR "of" [.int 1] (mC CR C_NoNumber)) :
  aI P w K mg base CX0 3 f fd ["ring", "thing"] (spPart K CF CR CG):=by
 refine F.ok sc_is_part (fun vs H Q E h=>?_) (fun cdv A outer s H vs Q E hr h=>?_)
 ·obtain ⟨g,x,P,L,v,rfl,_⟩:=h
  rfl
 ·obtain ⟨g,x,P,L,v,rfl,hP,hG,hN,hv,q⟩:=h
  have hB:=hP.b
  refine ⟨_,(ag (aJ (PW.pt (bR (aY (aW (aw Gis_pair hr.m (aa (pv 1) af)))) (bL (aY (aW (aw Gis_product hr.m (aa (aE (aF K rfl) (pv 1) ae (fun _ _=>rfl)) (aa (km MtRl hr.m (pv 0)) af))))))))
(ak (aq bQ))
aB)
(ak (aq (cr (pe_two (pe_mt MtF hr.m (km MtRn hr.m (pv 0)) (aa (aE (aF K rfl) (pv 1) ae (fun _ _=>rfl)) af)) (pe_mt MtR hr.m (km MtRn hr.m (pv 0)) (aa (aE (aF K rfl) (pv 1) ae (fun _ _=>rfl)) af))) (bY (aV (kneD K rfl hr.units) (aE (aF K rfl) (pv 1) ae (fun _ _=>rfl)) (pe_two (pe_mtX MtOf1 hr.m passE0 (km MtRn hr.m (pv 0)) (aa ae af)) (pe_mtX MtRf1 hr.m passE0 (km MtRn hr.m (pv 0)) (aa ae af))) (ar _))))))),?_⟩
  obtain ⟨dxg,hg⟩:=id hG
  rcases hv with ⟨t,ty,e,hn⟩ | ⟨a,xs,rfl,ha,hl⟩ | ⟨a,u,w,rfl,ha,h⟩
  ·have z:=q H (Same.refl H)
   unfold partV at z
   rw [de ⟨t,ty,e,hn⟩] at z
   exact ⟨_,rfl,v,rfl,.inl ⟨t,ty,e,_,rfl,aH (aH z)⟩⟩
  ·have z:=q H (Same.refl H)
   unfold partV at z
   rw [cM ha hl] at z
   refine ⟨_,rfl,_,rfl,.inr ⟨a,xs,rfl,ha,_,rfl,?_⟩⟩
   rw [decide_eq_false hl]
   exact aH (aH z)
  refine ⟨_,rfl,_,rfl,.inr ⟨a,_,rfl,ha,_,rfl,aO ?_⟩⟩
  refine ⟨_,rfl,a,_,_,_,rfl,rfl,SqT.of ha,rfl,_,rfl,g,dxg,_,rfl,hg,rfl,g,x,L,rfl,hG,u,L,rfl,?_⟩
  rcases h with ⟨t,ty,e,hn⟩ | ⟨c,es,rfl,hc,hl,hty,hw⟩
  ·have z:=q H (Same.refl H)
   unfold partV at z
   rw [dq ha ⟨t,ty,e,hn⟩] at z
   exact .inl ⟨t,ty,e,_,rfl,aH z⟩
  refine .inr ⟨c,es,rfl,hc,hl,hty,fun H1 s1=>⟨_,rfl,?_⟩⟩
  unfold partV at q
  rw [cX ha hc,mH ha] at q
  by_cases hp:gq es L=true
  ·rw [hp] at q ⊢
   refine aO ?_
   have ha1:=s1 _ _ ha
   have hg1:=s1 _ _ hg
   have hG1:fU CG H1 g x L:=⟨dxg,hg1⟩
   have hN1:=hN.mono fun o e=>s1 _ _ e
   have hw1:=hw.soft (Soft.of s1)
   refine isnum_go hN1 hw1 (fun Z z=>⟨_,rfl,g,dxg,_,rfl,hg1,rfl,g,x,L,rfl,hG1,z⟩) (fun Z z=>⟨_,rfl,a,_,_,_,rfl,rfl,SqT.of ha1,rfl,z⟩) ?_
   rw [fY (Soft.of s1) hw]
   by_cases hv:fo P H w=true
   ·rw [hv] at q ⊢
    refine ⟨_,rfl,aH ?_⟩
    obtain ⟨at1,ok1⟩:=num_at hP hw hv
    refine ⟨_,rfl,a,_,_,_,rfl,rfl,SqT.of ha1,rfl,?_⟩
    refine of_go hP hN1 (a:=0) (vs:=[.int 0]) (dvs:=[.int 1]) rfl (fun Z z=>⟨_,rfl,g,dxg,_,rfl,hg1,rfl,g,x,L,rfl,hG1,z⟩) (fun Z z=>z) fun r H2 s2 a2=>?_
    rw [zero_if] at a2
    refine ⟨dN P (gK H w),dN P (0,1),jT ((at1.same s1).same s2),jT a2,cO _ _,cO _ _,?_⟩
    rw [jp ok1 (dc hB.1 hB.2.2)]
    have z:=q H2 (s1.trans s2)
    rw [decide_not] at z
    exact z
   ·rw [Bool.eq_false_iff.mpr hv] at q ⊢
    exact ⟨_,rfl,aO (q H1 s1)⟩
  ·rw [Bool.eq_false_iff.mpr hp] at q ⊢
   exact aH (q H1 s1)
theorem cut_from (ts:List V):hU ts (some 1) none=ts.drop 1:=by
 unfold hU HT.sIx
 cases ts with
 | nil=>rfl
 | cons a r=>
  have e1:¬ ((1:Int) < 0):=by decide
  simp [e1]
theorem zip_keys {P:Int} {H:Hp} {ts:List V} {ps:List am} (h:PartsR P H ts ps):List.zipWith (fun x y=>V.bl (klt (hW H y) (hW H x))) ts (ts.drop 1)=(List.zipWith (fun a b=>klt (hk b) (hk a)) ps ps.tail).map V.bl:=by
 have e:=h.keys
 have e1:List.zipWith (fun x y=>V.bl (klt (hW H y) (hW H x))) ts (ts.drop 1)=List.zipWith (fun a b=>V.bl (klt b a)) (ts.map (hW H)) ((ts.map (hW H)).drop 1):=by
  rw [<- List.map_drop,List.zipWith_map]
 rw [e1,e,<- List.map_drop,List.zipWith_map,List.map_zipWith,List.drop_one]
def spIsSum (K:Frag) (CF CR CG:Addr):Sp:=fun vs H Q _=>∃ (g x p:Addr) (P L:Int) (v:V) (b:Bool),vs=[.ref g,v]/\PrimeOk P/\fU CG H g x L/\NumsAt CF CR H x P/\SThing K P L H p v b/\∀ H',Same H H'->Q (.bl b) H'
theorem sc_is_sum:FnScope ["ring", "thing"] ["ring", "thing"] (al kA):=.i
theorem ok_issum {f CF CR CG:Addr} {fd:FuncData} (F:Fun K "is_sum" "is_sum" kA f fd) (T:Blt mg) (Gis_part:FnB P w K mg base 3 "is_part" (spPart K CF CR CG)) (Gis_above:FnB P w K mg base 3 "is_above" (spAbove K)) :
  aI P w K mg base CX0 4 f fd ["ring", "thing"] (spIsSum K CF CR CG):=by
 refine F.ok sc_is_sum (fun vs H Q E h=>?_) (fun cdv A outer s H vs Q E hr h=>?_)
 ·obtain ⟨g,x,p,P,L,v,b,rfl,_⟩:=h
  rfl
 ·obtain ⟨g,x,p,P,L,v,b,rfl,hP,hG,hN,hv,q⟩:=h
  refine ⟨_,(ag (aJ (PW.pt (bR (aY (aW (bX K T (pv 1) T.list cv))) (bL (aY (aW (dM K T (by exact bj (N:=["part", "ring"]) (src:=[none,some 0]) rfl rfl rfl (by exact (aZ K rfl (pv 1))) (fun _ _ _=>by exact ⟨by exact (bU (i:=0) nd_3 rfl rfl),bi,by exact (aw Gis_part hr.m (aa (pv 1) (aa (pv 0) af)))⟩)) false))))))
(ak (aq bQ))
aB)
(ak (aq (dM K T (by exact bj (N:=["part", "behind"]) (src:=[none,none]) rfl rfl rfl (by exact (ir K false false rfl rfl T.zip (aa (pv 1) (aa (jE (bT K rfl) (pv 1) (l6 ae) cC) af)))) (fun _ _ _=>by exact ⟨by exact (dJ K (i:=0) (j:=1) rfl rfl nd_4 rfl rfl rfl rfl),bi,by exact (aw Gis_above hr.m (aa (aE (aF K rfl) (pv 0) ae (fun _ _=>rfl)) (aa (aE (aF K rfl) (pv 1) ae (fun _ _=>rfl)) af)))⟩)) false)))),?_⟩
  obtain ⟨dxg,hg⟩:=id hG
  rcases hv with ⟨rfl,t,ty,e⟩ | ⟨rfl,l,xs,rfl,_,hl,hn,hI,y,hy,hyv⟩ | ⟨l,ts,ps,rfl,_,hl,hps,hn,hok,hL,rfl⟩
  ·exact ⟨_,rfl,t,false,ty,e,_,rfl,aH (aH (q H (Same.refl H)))⟩
  ·refine ⟨_,rfl,_,true,.lst hl,rfl,_,rfl,aO ?_⟩
   refine ⟨_,rfl,l,rfl,⟨_,SqL.of hl⟩,kW (fun x=>.bl (partV P L H x)) rfl (SqL.of hl) (by rw [sizeLine_eq]; omega) (fun i v H1 R hx sm hR=>?_) (fun acc H1 hacc sm hl1=>?_)⟩
   ·have hi:=(hI v (List.mem_of_getElem? hx))
    refine ⟨_,rfl,_,rfl,g,x,P,L,v,rfl,hP,⟨dxg,sm _ _ hg⟩,hN.mono fun o e=>sm _ _ e,hi.soft (Soft.of sm),fun H2 s2=>?_⟩
    rw [j0 (Soft.of sm) hi]
    exact hR H2 s2
   ·have e1:xs.map (fun x=>V.bl (partV P L H x))=(xs.map (partV P L H)).map V.bl:=by rw [List.map_map]; rfl
    rw [e1] at hl1
    refine ⟨acc,_,rfl,bZ (SqL.of hl1),_,rfl,?_⟩
    have e2:(xs.map (partV P L H)).all id=false:=by
     rw [List.all_map,List.all_eq_false]
     refine ⟨y,hy,?_⟩
     show ¬ partV P L H y=true
     unfold partV
     rw [hyv,Bool.false_and]
     decide
    rw [e2]
    exact aH (q H1 sm)
  ·have lt:ts.length=ps.length:=Paired.length hps
   refine ⟨_,rfl,_,true,.lst hl,rfl,_,rfl,aO ?_⟩
   refine ⟨_,rfl,l,rfl,⟨_,SqL.of hl⟩,kW (fun x=>.bl (partV P L H x)) rfl (SqL.of hl) (by rw [sizeLine_eq]; omega) (fun i v H1 R hx sm hR=>?_) (fun acc H1 hacc sm hl1=>?_)⟩
   ·obtain ⟨r,er,hr⟩:=hps.at_ hx
    have mr:=List.mem_of_getElem? er
    have hi:Item K H v:=hr.item (L:=L) (hok.1 r mr).1 (hok.1 r mr).2 (hL r mr).2.1
    refine ⟨_,rfl,_,rfl,g,x,P,L,v,rfl,hP,⟨dxg,sm _ _ hg⟩,hN.mono fun o e=>sm _ _ e,hi.soft (Soft.of sm),fun H2 s2=>?_⟩
    rw [j0 (Soft.of sm) hi]
    exact hR H2 s2
   ·have e1:ts.map (fun x=>V.bl (partV P L H x))=(ps.map nz).map V.bl:=by rw [<- li (F:=K) hps hok.1 hL,List.map_map]; rfl
    rw [e1] at hl1
    refine ⟨acc,_,rfl,bZ (SqL.of hl1),_,rfl,?_⟩
    have z:=q
    unfold et at z
    rw [List.all_map]
    show if (!(ps.all nz))=true then _ else _
    by_cases hz:ps.all nz=true
    ·rw [hz] at z ⊢
     refine aO ?_
     refine ⟨_,rfl,_,rfl,_,rfl,l,ts,rfl,SqL.of (sm _ _ hl),fun l2 n2=>?_⟩
     have s2:=Same.new (o:=.lst (hU ts (some 1) none)) n2
     have hcut:hU ts (some 1) none=ts.drop 1:=cut_from ts
     rw [hcut] at s2 ⊢
     have hl2:(upd H1 l2 (.lst (ts.drop 1))) l2=some (.lst (ts.drop 1)):=ac
     generalize upd H1 l2 (.lst (ts.drop 1))=H2 at *
     have s12:=sm.trans s2
     refine ⟨l,l2,rfl,⟨_,bZ (SqL.of (s12 _ _ hl))⟩,⟨_,bZ (SqL.of hl2)⟩,comp_zipS (fun x y=>.bl (klt (hW H y) (hW H x))) rfl (bZ (SqL.of (s12 _ _ hl))) (bZ (SqL.of hl2)) (by rw [sizeLine_eq]; omega) (fun i v v' H3 R hx hy s3 hR=>?_) (fun acc H3 hacc s3 hl3=>?_)⟩
     ·rw [List.getElem?_drop] at hy
      obtain ⟨r,er,hr⟩:=hps.at_ hx
      obtain ⟨r',er',hr'⟩:=hps.at_ hy
      rw [hr.key,hr'.key] at hR
      obtain ⟨t,k,u,rfl,h1,h2,_⟩:=hr
      obtain ⟨t',k',u',rfl,h1',h2',_⟩:=hr'
      have s:=s12.trans s3
      refine ⟨_,rfl,t,_,_,_,rfl,rfl,SqT.of (s _ _ h1),rfl,_,rfl,t',_,_,_,rfl,rfl,SqT.of (s _ _ h1'),rfl,k,k',r.1,r'.1,rfl,SqT.of (s _ _ h2),SqT.of (s _ _ h2'),fun H4 s4=>?_⟩
      rw [hgt_klt]
      exact hR H4 s4
     ·rw [zip_keys hps] at hl3
      refine ⟨acc,_,rfl,bZ (SqL.of hl3),?_⟩
      exact z H3 (s12.trans s3)
    ·rw [Bool.eq_false_iff.mpr hz] at z ⊢
     exact aH (z H1 sm)
end
def spSLike2 (K:Frag):Sp:=fun vs H Q _=>∃ (p:Addr) (P L:Int) (v:V) (b:Bool),vs=[.int P,.int L,v]/\PrimeOk P/\SThing K P L H p v b/\∀ H',Same H H'->Q (.bl b) H'
section
variable {P:Program} {w:World} {K:Frag} {mg:Str->Option Value} {base:Heap}
theorem sc__law_sum_like:FnScope ["_law_prime_here", "_law_letters", "_law_found", "_law_part"] ["_law_prime_here", "_law_letters", "_law_found"] (al dj):=.i
set_option maxHeartbeats 1000000 in
theorem ok_slike2 {f:Addr} {fd:FuncData} (F:Fun K "_law_sum_like" "_law_sum_like" dj f fd) (T:Blt mg) (G_law_whole:FnB P w K mg base 1 "_law_whole" (dO K)) (G_law_number_like:FnB P w K mg base 2 "_law_number_like" (spLike K)) (G_law_sum:FnB P w K mg base 4 "_law_sum" mn) :
  aI P w K mg base CX0 5 f fd ["_law_prime_here", "_law_letters", "_law_found"] (spSLike2 K):=by
 refine F.ok sc__law_sum_like (fun vs H Q E h=>?_) (fun cdv A outer s H vs Q E hr h=>?_)
 ·obtain ⟨p,P,L,v,b,rfl,_⟩:=h
  rfl
 ·obtain ⟨p,P,L,v,b,rfl,hP,hv,q⟩:=h
  refine ⟨_,(ag (aJ (aY (aW (bX K T (pv 2) T.list cv)))
(ak (aq bQ))
aB)
(ag (dh PassesOwn.never rfl (aZ K rfl (pv 2)) (aM (i:=3) sc__law_sum_like.nd rfl (Or.inl rfl))
(ag (aJ (PW.pt (bR (aY (aW (bX K T (pv 3) T.tuple cx))) (bR (az iw (bo K T (pv 3)) ae (ar _)) (bL (aY (aW (bX K T (aE (aF K rfl) (pv 3) ae (fun _ _=>rfl)) T.tuple cx)))))))
(ak (aq bQ))
aB)
(ag (aJ (PW.pt (bR (az iw (bo K T (aE (aF K rfl) (pv 3) ae (fun _ _=>rfl))) (pv 1) (ar _)) (bL (aY (aW (aw G_law_number_like hr.m (aa (pv 0) (aa (aE (aF K rfl) (pv 3) ae (fun _ _=>rfl)) af))))))))
(ak (aq bQ))
aB)
(ak (aJ (aY (aW (dM K T (by exact bj (N:=["_law_number_here"]) (src:=[none]) rfl rfl rfl (by exact (kpi_tup K rfl (aE (aF K rfl) (pv 3) ae (fun _ _=>rfl)))) (fun _ _ _=>by exact ⟨by exact (bU (i:=0) nd_5 rfl rfl),bi,by exact (cr (aw G_law_whole hr.m (aa (pv 0) af)) (bY (aV op_ge (pv 0) ae (ar _))))⟩)) false)))
(ak (aq bQ))
aB)))))
(ak (aq (aV (keqD K rfl hr.units) (aw G_law_sum hr.m (aa (pv 0) (aa (pv 2) af))) (pv 2) (ar _)))))),?_⟩
  have key:(∃ t,b=false/\TyOf K H v t/\kitOne K t (.type "list")=some false)\/∃ l xs,v=.ref l/\H l=some (.lst xs)/\(∀ x ∈ xs,Item K H x)/\(∀ x ∈ xs,itemV P L H x=false->b=false)/\((∀ x ∈ xs,itemV P L H x=true)->∃ ps,PartsR P H xs ps/\ps.length <= 60/\fj P ps/\b=et ps):=by
   rcases hv with ⟨rfl,t,ty,e⟩ | ⟨rfl,l,xs,rfl,_,hl,hn,hI,y,hy,hyv⟩ | ⟨l,ts,ps,rfl,_,hl,hps,hn,hok,hL,rfl⟩
   ·exact .inl ⟨t,rfl,ty,e⟩
   ·refine .inr ⟨l,xs,rfl,hl,hI,fun _ _ _=>rfl,fun z=>?_⟩
    rw [z y hy] at hyv
    cases hyv
   ·refine .inr ⟨l,ts,rfl,hl,fun x hx=>?_,fun x hx z=>?_,fun _=>⟨ps,hps,hn,hok,rfl⟩⟩
    ·obtain ⟨r,mr,hr⟩:=hps.mem hx
     exact hr.item (L:=L) (hok.1 r mr).1 (hok.1 r mr).2 (hL r mr).2.1
    ·obtain ⟨r,mr,hr⟩:=hps.mem hx
     rw [hr.itemV (F:=K) (hok.1 r mr).1 (hok.1 r mr).2 (hL r mr).1 (hL r mr).2.2] at z
     cases z
  rcases key with ⟨t,rfl,ty,e⟩ | ⟨l,xs,rfl,hl,hI,hbad,hend⟩
  ·exact ⟨_,rfl,t,false,ty,e,_,rfl,aH (q H (Same.refl H))⟩
  refine ⟨_,rfl,_,true,.lst hl,rfl,_,rfl,aO ?_⟩
  refine ⟨_,rfl,l,rfl,⟨_,SqL.of hl⟩,dF (xs:=xs) (fun i σ H'=>∃ x3:Option V,σ=[some (.int P),some (.int L),some (.ref l),x3]/\Same H H'/\∀ v ∈ xs.take i,itemV P L H v=true) ?_ ?_ ?_ ?_⟩
  ·exact ⟨none,rfl,Same.refl _,fun v hv=>by simp at hv⟩
  ·rintro i σ H' _ ⟨x3,rfl,sm,_⟩
   exact SqL.of (sm _ _ hl)
  ·rintro i v σ H1 hx ⟨x3,rfl,sm,hT⟩
   have mv:=List.mem_of_getElem? hx
   have bad:itemV P L H v=false->∀ H',Same H1 H'->Q (.bl false) H':=fun z H' s'=>by
    have z2:=q H' (sm.trans s')
    rw [hbad v mv z] at z2
    exact z2
   have good:itemV P L H v=true->∀ v ∈ xs.take (i + 1),itemV P L H v=true:=fun z u hu=>by
    rw [List.take_add_one,hx] at hu
    rcases List.mem_append.mp hu with hu | hu
    ·exact hT u hu
    ·simp at hu
     subst hu
     exact z
   rcases hI v mv with h | ⟨a,ys,rfl,ha,hn⟩ | ⟨a,u,w,rfl,ha,h⟩
   ·obtain ⟨t,ty,e,hn⟩:=h.soft (Soft.of sm)
    exact ⟨_,rfl,t,false,ty,e,_,rfl,aH (aH (bad (de h) H1 (Same.refl _)))⟩
   ·have ha1:=sm _ _ ha
    refine ⟨_,rfl,_,true,.tup ha1,rfl,_,rfl,aO ?_⟩
    refine ⟨_,rfl,a,_,rfl,.inr (SqT.of ha1),rfl,_,rfl,?_⟩
    rw [show decide (V.int (ys.length:Int)=V.int 2)=false from decide_eq_false fun z=>hn (by injection z)]
    exact aH (aH (bad (cM ha hn) H1 (Same.refl _)))
   have ha1:=sm _ _ ha
   refine ⟨_,rfl,_,true,.tup ha1,rfl,_,rfl,aO ?_⟩
   refine ⟨_,rfl,a,_,rfl,.inr (SqT.of ha1),rfl,_,rfl,jP rfl ?_⟩
   rcases h with h | ⟨c,es,rfl,hc,hle,hty,hw⟩
   ·obtain ⟨t,ty,e,hn⟩:=h.soft (Soft.of sm)
    exact ⟨_,rfl,a,_,_,_,rfl,rfl,SqT.of ha1,rfl,t,false,ty,e,_,rfl,aH (bad (dq ha h) H1 (Same.refl _))⟩
   have hc1:=sm _ _ hc
   have iv:=cX (P:=P) (L:=L) ha hc
   refine ⟨_,rfl,a,_,_,_,rfl,rfl,SqT.of ha1,rfl,_,true,.tup hc1,rfl,_,rfl,aO ?_⟩
   refine ⟨_,rfl,a,_,_,_,rfl,rfl,SqT.of ha1,rfl,c,_,rfl,.inr (SqT.of hc1),_,rfl,rfl,_,rfl,?_⟩
   by_cases hL:(es.length:Int)=L
   ·refine jP (congrArg V.int hL) ?_
    refine ⟨_,rfl,_,rfl,a,_,_,_,rfl,rfl,SqT.of ha1,rfl,P,w,rfl,hP,hw.soft (Soft.of sm),fun H3 s3=>?_⟩
    rw [fY (Soft.of sm) hw]
    by_cases hnv:fo P H w=true
    ·rw [hnv]
     refine ⟨_,rfl,aO ?_⟩
     have ha3:=s3 _ _ ha1
     have hc3:=s3 _ _ hc1
     have sm3:=sm.trans s3
     refine ⟨_,rfl,a,_,_,_,rfl,rfl,SqT.of ha3,rfl,c,rfl,⟨_,SqT.of hc3⟩,comp_tup (fun x=>.bl (nnI x)) rfl (SqT.of hc3) (Nat.le_of_lt (eI hle)) (fun i x H4 R hx4 sm4 hR=>?_) (fun acc4 H4 hacc4 sm4 hl4=>?_)⟩
     ·obtain ⟨t,b,c,ty,h1,h2,e⟩:=(hty x (List.mem_of_getElem? hx4)).same (sm3.trans sm4)
      refine ⟨_,rfl,x,t,b,c,rfl,ty,h1,h2,_,rfl,?_⟩
      rw [e]
      cases x with
      | int i=>exact aH ⟨_,rfl,_,_,rfl,rfl,hR⟩
      | _=>exact aO hR
     ·have e1:es.map (fun x=>V.bl (nnI x))=(es.map nnI).map V.bl:=by rw [List.map_map]; rfl
      rw [e1] at hl4
      refine ⟨acc4,_,rfl,bZ (SqL.of hl4),_,rfl,?_⟩
      rw [List.all_map]
      show if (!(es.all nnI))=true then _ else _
      rw [hnv,Bool.and_true] at iv
      unfold gq at iv
      rw [decide_eq_true hL,Bool.true_and] at iv
      by_cases hz:es.all nnI=true
      ·rw [hz] at iv ⊢
       exact aO ⟨_,rfl,sm3.trans sm4,good iv⟩
      ·rw [Bool.eq_false_iff.mpr hz] at iv ⊢
       exact aH (bad iv H4 (s3.trans sm4))
    ·rw [Bool.eq_false_iff.mpr hnv,Bool.and_false] at iv
     rw [Bool.eq_false_iff.mpr hnv]
     exact ⟨_,rfl,aH (bad iv H3 s3)⟩
   ·have e0:(!decide (V.int (es.length:Int)=V.int L))=true:=by
     rw [decide_eq_false (fun z=>hL (by injection z))]; rfl
    rw [e0]
    unfold gq at iv
    rw [decide_eq_false hL,Bool.false_and,Bool.false_and] at iv
    exact aH (aH (bad iv H1 (Same.refl _)))
  ·rintro σ H1 ⟨x3,rfl,sm,hT⟩
   rw [List.take_length] at hT
   obtain ⟨ps,hps,hn,hok,rfl⟩:=hend hT
   refine ⟨_,rfl,_,rfl,l,P,xs,ps,rfl,hP,sm _ _ hl,hps.mono (fun t xs e=>sm _ _ e),hn,hok,fun d rs out H2 nd s2 hd po is=>?_⟩
   refine ⟨_,rfl,dS P out,dS P ps,eh hd po,eh (s2 _ _ (sm _ _ hl)) (hps.mono (fun t xs e=>s2 _ _ (sm _ _ e))),ba _ _,ba _ _,?_⟩
   have hB:=hP.b
   have okm:∀ q ∈ acc P ps,OkN P q.2:=iN hB.1 hB.2.2 fun q hq=>(hok.1 q hq).1
   rw [eqv_dS2 (fun r hr=>okm r (List.mem_filter.mp (is.1.mem_iff.mp hr)).1) (fun r hr=>(hok.1 r hr).1),canon_iff (fun r hr=>(hok.1 r hr).1) is]
   exact q H2 (sm.trans s2)
end
theorem itemV_soft {K:Frag} {P L:Int} {H H':Hp} {x:V} (s:Soft H H') (h:Item K H x):itemV P L H' x=itemV P L H x:=by
 rcases h with h | ⟨a,xs,rfl,ha,hl⟩ | ⟨a,u,w,rfl,ha,h⟩
 ·rw [de h,de (h.soft s)]
 ·rw [cM ha hl,cM (s.tup ha) hl]
 ·rcases h with h | ⟨c,es,rfl,hc,hl,hty,hw⟩
  ·rw [dq ha h,dq (s.tup ha) (h.soft s)]
  ·rw [cX ha hc,cX (s.tup ha) (s.tup hc),fY s hw]
theorem SThing.keep {K:Frag} {P L:Int} {H H':Hp} {p:Addr} {v:V} {b:Bool} (s:Soft H H') (k:∀ c o,H c=some o->c ≠ p->H' c=some o) (h:SThing K P L H p v b):SThing K P L H' p v b:=by
 rcases h with ⟨rfl,t,ty,e⟩ | ⟨rfl,l,xs,rfl,lp,hl,hn,hI,y,hy,hyv⟩ | ⟨l,ts,ps,rfl,lp,hl,hps,hn,hok,hL,rfl⟩
 ·exact .inl ⟨rfl,t,TyOf.soft s ty,e⟩
 ·exact .inr (.inl ⟨rfl,l,xs,rfl,lp,k _ _ hl lp,hn,fun x hx=>(hI x hx).soft s,y,hy,by rw [itemV_soft s (hI y hy)]; exact hyv⟩)
 ·exact .inr (.inr ⟨l,ts,ps,rfl,lp,k _ _ hl lp,hps.mono fun t xs e=>s.tup e,hn,hok,hL,rfl⟩)
def STh (K:Frag) (P L:Int) (H:Hp) (p:Addr) (v:V):Prop:=∃ b,SThing K P L H p v b
theorem STh.same {K:Frag} {P L:Int} {H H':Hp} {p:Addr} {v:V} (s:Same H H') (h:STh K P L H p v):STh K P L H' p v:=by
 obtain ⟨b,h⟩:=h
 exact ⟨b,h.keep (Soft.of s) fun c o e _=>s c o e⟩
theorem STh.plain {K:Frag} {P L:Int} {H:Hp} {p:Addr} {v:V} (t:Value) (h:TyOf K H v t) (e:kitOne K t (.type "list")=some false):STh K P L H p v:=⟨false,.inl ⟨rfl,t,h,e⟩⟩
theorem bad_list {K:Frag} {P L:Int} {H:Hp} {p z:Addr} {xs:List V} (zp:z ≠ p) (hz:H z=some (.lst xs)) (hn:xs.length <= 60) (hI:∀ x ∈ xs,Item K H x) {y:V} (hy:y ∈ xs) (hv:itemV P L H y=false):STh K P L H p (.ref z):=⟨false,.inr (.inl ⟨rfl,z,xs,rfl,zp,hz,hn,hI,y,hy,hv⟩)⟩
theorem sand {K:Frag} {σ:L2.St} {H:Hp} {Q:VK} {tv ta tb:TE} {tin:TA} {l:Addr} {ts:List V} {i:Nat} (G:List V->Hp->Prop) (hl:H l=some (.lst ts)) (hi:i < ts.length) (hn:ts.length <= 20) (hv:∀ (H:Hp) (Z:VK),Z (.ref l) H->tv σ H Z) (ha:∀ (H:Hp) (Z:VK),Z (.int (i:Int)) H->ta σ H Z) (hb:∀ (H:Hp) (Z:VK),Z (.int ((i:Int) + 1)) H->tb σ H Z)
  (hin:∀ (H1:Hp) (Z:List V->Hp->Prop),Same H H1->(∀ xs H2,Same H1 H2->G xs H2->Z xs H2)->tin σ H1 Z) (hG:∀ xs H2 H3,Same H2 H3->G xs H2->G xs H3) (hg:∀ xs H2,G xs H2->xs.length <= 5)
  (hQ:∀ z xs H',H z=none->Same H H'->G xs H'->H' z=some (.lst (ts.take i ++ xs ++ ts.drop (i + 1)))->Q (.ref z) H') :
  tOp rCat (tOp rCat (tSl (rSlL K) tv ia (tPart ta)) (tLst tin)) (tSl (rSlL K) tv (tPart tb) ia) σ H Q:=by
 refine hv _ _ (ha _ _ ⟨_,rfl,l,ts,rfl,SqL.of hl,fun p1 n1=>?_⟩)
 rw [cut_hi ts i (by omega)]
 have s1:=Same.new (o:=.lst (ts.take i)) n1
 have h1:(upd H p1 (.lst (ts.take i))) p1=some (.lst (ts.take i)):=ac
 generalize upd H p1 (.lst (ts.take i))=H1 at *
 refine hin _ _ s1 fun xs H2 s2 g2=>⟨?_,fun p2 n2=>?_⟩
 ·have:=hg xs H2 g2
  rw [sizeLine_eq]
  omega
 have lx:=hg xs H2 g2
 have s3:=Same.new (o:=.lst xs) n2
 have h2:(upd H2 p2 (.lst xs)) p2=some (.lst xs):=ac
 have g3:=hG _ _ _ s3 g2
 generalize upd H2 p2 (.lst xs)=H3 at *
 refine ⟨p1,p2,_,_,rfl,rfl,s3 _ _ (s2 _ _ h1),h2,?_,fun p3 n3=>?_⟩
 ·rw [List.length_take,sizeLine_eq]
  omega
 have s4:=Same.new (o:=.lst (ts.take i ++ xs)) n3
 have h3:(upd H3 p3 (.lst (ts.take i ++ xs))) p3=some (.lst (ts.take i ++ xs)):=ac
 have g4:=hG _ _ _ s4 g3
 generalize upd H3 p3 (.lst (ts.take i ++ xs))=H4 at *
 have sl:=((s1.trans s2).trans s3).trans s4
 refine hv _ _ (hb _ _ ⟨_,rfl,l,ts,rfl,SqL.of (sl _ _ hl),fun p4 n4=>?_⟩)
 rw [show ((i:Int) + 1)=((i + 1:Nat):Int) by omega,cut_lo ts (i + 1) (by omega)]
 have s5:=Same.new (o:=.lst (ts.drop (i + 1))) n4
 have h4:(upd H4 p4 (.lst (ts.drop (i + 1)))) p4=some (.lst (ts.drop (i + 1))):=ac
 have g5:=hG _ _ _ s5 g4
 generalize upd H4 p4 (.lst (ts.drop (i + 1)))=H5 at *
 refine ⟨p3,p4,_,_,rfl,rfl,s5 _ _ h3,h4,?_,fun p5 n5=>?_⟩
 ·rw [List.length_append,List.length_take,List.length_drop,sizeLine_eq]
  omega
 have s6:=Same.new (o:=.lst (ts.take i ++ xs ++ ts.drop (i + 1))) n5
 exact hQ p5 xs _ ((sl.trans s5).free n5) ((sl.trans s5).trans s6) (hG _ _ _ s6 g5) ac
theorem ThingT {K:Frag} {H:Hp} {a:Addr} {n d:Int} (h:H a=some (.tup [.int n,.int d])) (hn:n.natAbs < 1000) (hd:d.natAbs < 1000):Thing K H (.ref a):=⟨.tup h,.inr ⟨a,_,rfl,h,by show 2 <= 1000; decide,eY [n,d],fun i hi=>by
 have p3:(1000:Nat) < 2 ^ 2000:=Nat.lt_trans (by decide:1000 < 10 ^ 31) pow31
 have h:i=n\/i=d:=by
  rcases List.mem_cons.mp hi with z | z
  ·injection z with z; exact .inl z
  ·rcases List.mem_cons.mp z with z | z
   ·injection z with z; exact .inr z
   ·cases z
 rcases h with rfl | rfl
 ·exact Nat.lt_trans hn p3
 ·exact Nat.lt_trans hd p3⟩⟩
theorem at_any (xs:List V) {k:Int} (h0:0 <= k) (h1:k < (xs.length:Int)):∃ z,atI xs k=some z/\z ∈ xs:=by
 obtain ⟨n,rfl⟩:=Int.eq_ofNat_of_zero_le h0
 have hn:n < xs.length:=by omega
 exact ⟨xs[n],bN (List.getElem?_eq_getElem hn),List.getElem_mem hn⟩
theorem i6 {α β:Type} {R:α->β->Prop}:∀ {xs:List α} {ys:List β} (n:Nat),Paired R xs ys->Paired R (xs.take n) (ys.take n)
 | _,_,0,_=>by rw [List.take_zero,List.take_zero]; exact .nil
 | _,_,n + 1,.nil=>.nil
 | _,_,n + 1,.cons q r=>.cons q (i6 n r)
theorem gI {α β:Type} {R:α->β->Prop}:∀ {xs xs':List α} {ys ys':List β},Paired R xs ys->Paired R xs' ys'->Paired R (xs ++ xs') (ys ++ ys')
 | _,_,_,_,.nil,h=>h
 | _,_,_,_,.cons q r,h=>.cons q (gI r h)
theorem paired_rev {α β:Type} {R:α->β->Prop}:∀ {xs:List α} {ys:List β},Paired R xs ys->Paired R xs.reverse ys.reverse
 | _,_,.nil=>.nil
 | _,_,.cons q r=>by
  rw [List.reverse_cons,List.reverse_cons]
  exact gI (paired_rev r) (.cons q .nil)
def EntR (P:Int) (H:Hp) (v:V) (e:List am):Prop:=∃ l ts,v=.ref l/\H l=some (.lst ts)/\PartsR P H ts e
def RowR (P:Int) (H:Hp) (v:V) (row:List (List am)):Prop:=∃ r es,v=.ref r/\H r=some (.lst es)/\Paired (EntR P H) es row
theorem ap {α β:Type} {R S:α->β->Prop} (h:∀ x y,R x y->S x y):∀ {xs:List α} {ys:List β},Paired R xs ys->Paired S xs ys
 | _,_,.nil=>.nil
 | _,_,.cons q r=>.cons (h _ _ q) (ap h r)
theorem aG {α β:Type} {R:α->β->Prop}:∀ {xs:List α} {ys:List β} {i:Nat} {x:α},Paired R xs ys->xs[i]? = some x->∃ y,ys[i]? = some y/\R x y
 | _,_,0,x,.cons q r,e=>by cases e; exact ⟨_,rfl,q⟩
 | _ :: _,_ :: _,i + 1,x,.cons q r,e=>aG (i:=i) r e
theorem bg {α β:Type} {R:α->β->Prop} {x:α} {y:β} (h:R x y):∀ {xs:List α} {ys:List β},Paired R xs ys->Paired R (xs ++ [x]) (ys ++ [y])
 | _,_,.nil=>.cons h .nil
 | _,_,.cons q r=>.cons q (bg h r)
theorem dG {α β:Type} {R:α->β->Prop}:∀ {xs:List α} {ys:List β} {x:α},Paired R xs ys->x ∈ xs->∃ y ∈ ys,R x y
 | _,_,x,.cons q r,hx=>by
  rcases List.mem_cons.mp hx with rfl | hx
  ·exact ⟨_,by simp,q⟩
  ·obtain ⟨y,hy,h⟩:=dG r hx
   exact ⟨y,by simp [hy],h⟩
theorem EntR.same {P:Int} {H H':Hp} {v:V} {e:List am} (s:Same H H') (h:EntR P H v e):EntR P H' v e:=by
 obtain ⟨l,ts,rfl,hl,pr⟩:=h
 exact ⟨l,ts,rfl,s _ _ hl,pr.mono fun t xs e=>s _ _ e⟩
theorem RowR.same {P:Int} {H H':Hp} {v:V} {row:List (List am)} (s:Same H H') (h:RowR P H v row):RowR P H' v row:=by
 obtain ⟨r,es,rfl,hr,pr⟩:=h
 exact ⟨r,es,rfl,s _ _ hr,ap (fun _ _=>EntR.same s) pr⟩
def KeepB (p:Addr) (H H':Hp):Prop:=(∃ xs,H p=some (.lst xs))/\(∃ ys,H' p=some (.lst ys))/\∀ c o,H c=some o->c ≠ p->H' c=some o
theorem KeepB.put {p:Addr} {H:Hp} {xs ys:List V} (h:H p=some (.lst xs)):KeepB p H (upd H p (.lst ys)):=⟨⟨_,h⟩,⟨_,ac⟩,fun c o e hc=>by rw [ao hc]; exact e⟩
def KeepA (av:List Addr) (H H':Hp):Prop:=(∀ t xs,H t=some (.tup xs)->H' t=some (.tup xs))/\∀ c o,H c=some o->c ∉ av->H' c=some o
theorem KeepA.of {av:List Addr} {H H':Hp} (s:Same H H'):KeepA av H H':=⟨fun t xs e=>s _ _ e,fun c o e _=>s c o e⟩
theorem KeepA.trans {av:List Addr} {H H1 H2:Hp} (a:KeepA av H H1) (b:KeepA av H1 H2):KeepA av H H2:=⟨fun t xs e=>b.1 t xs (a.1 t xs e),fun c o e hc=>b.2 c o (a.2 c o e hc) hc⟩
theorem KeepA.bag {av:List Addr} {p:Addr} {H H':Hp} {xs:List V} (hp:H p=some (.lst xs)) (k:∀ c o,H c=some o->c ≠ p->H' c=some o) (m:p ∈ av):KeepA av H H':=
 ⟨fun t ys e=>k t _ e (dY e hp (by intro z; cases z)),fun c o e hc=>k c o e fun z=>hc (by rw [z]; exact m)⟩
theorem KeepA.put {av:List Addr} {r:Addr} {H:Hp} {xs ys:List V} (h:H r=some (.lst xs)) (m:r ∈ av):KeepA av H (upd H r (.lst ys)):=KeepA.bag h (fun c o e hc=>by rw [ao hc]; exact e) m
def EntA (av:List Addr) (P:Int) (H:Hp) (v:V) (e:List am):Prop:=∃ l ts,v=.ref l/\l ∉ av/\H l=some (.lst ts)/\PartsR P H ts e
theorem EntA.keep {av:List Addr} {P:Int} {H H':Hp} {v:V} {e:List am} (k:KeepA av H H') (h:EntA av P H v e):EntA av P H' v e:=by
 obtain ⟨l,ts,rfl,lp,hl,pr⟩:=h
 exact ⟨l,ts,rfl,lp,k.2 _ _ hl lp,pr.mono k.1⟩
theorem EntA.ent {av:List Addr} {P:Int} {H:Hp} {v:V} {e:List am} (h:EntA av P H v e):EntR P H v e:=by
 obtain ⟨l,ts,rfl,_,hl,pr⟩:=h
 exact ⟨l,ts,rfl,hl,pr⟩
def EntF (H0:Hp) (r:Addr) (P:Int) (H:Hp) (v:V) (e:List am):Prop:=∃ l ts,v=.ref l/\H0 l=none/\l ≠ r/\H l=some (.lst ts)/\PartsR P H ts e
theorem EntF.keep {H0:Hp} {p r:Addr} {o:HO} {P:Int} {H H':Hp} {v:V} {e:List am} (hp:H0 p=some o) (k:KeepA [p,r] H H') (h:EntF H0 r P H v e):EntF H0 r P H' v e:=by
 obtain ⟨l,ts,rfl,l0,lr,hl,pr⟩:=h
 have lp:l ≠ p:=fun z=>by rw [z,hp] at l0; cases l0
 exact ⟨l,ts,rfl,l0,lr,k.2 _ _ hl (by simp [lp,lr]),pr.mono k.1⟩
theorem EntF.keepA {H0:Hp} {av:List Addr} {r:Addr} {P:Int} {H H':Hp} {v:V} {e:List am} (hav:∀ a ∈ av,a=r\/H0 a ≠ none) (k:KeepA av H H') (h:EntF H0 r P H v e):EntF H0 r P H' v e:=by
 obtain ⟨l,ts,rfl,l0,lr,hl,pr⟩:=h
 refine ⟨l,ts,rfl,l0,lr,k.2 _ _ hl (fun m=>?_),pr.mono k.1⟩
 rcases hav l m with z | z
 ·exact lr z
 ·exact z l0
theorem EntF.ent {H0:Hp} {r:Addr} {P:Int} {H:Hp} {v:V} {e:List am} (h:EntF H0 r P H v e):EntR P H v e:=by
 obtain ⟨l,ts,rfl,_,_,hl,pr⟩:=h
 exact ⟨l,ts,rfl,hl,pr⟩
theorem bw {p d:Addr} {o:HO} {H H':Hp} (k:∀ c o,H c=some o->c ≠ p->H' c=some o) (hp:H' p=some o) (hd:H' d=none):H d=none:=by
 cases e:H d with
 | none=>rfl
 | some x=>
  by_cases z:d=p
  ·rw [z,hp] at hd; cases hd
  ·rw [k d x e z] at hd; cases hd
theorem ki {α β:Type} {R:α->β->Prop} {y:β}:∀ {xs:List α} {ys:List β} {i:Nat} {x:α},Paired R xs ys->xs[i]? = some x->R x y->Paired R xs (ys.set i y)
 | _,_,0,x,.cons q r,e,h=>by cases e; exact .cons h r
 | _ :: _,_ :: _,i + 1,x,.cons q r,e,h=>.cons q (ki (i:=i) r e h)
theorem jg {α β:Type} {R:α->β->Prop} {x:α} {y:β} (h:R x y):∀ {xs:List α} {ys:List β} (i:Nat),Paired R xs ys->Paired R (xs.set i x) (ys.set i y)
 | _,_,_,.nil=>.nil
 | _,_,0,.cons q r=>.cons h r
 | _,_,i + 1,.cons q r=>.cons q (jg h i r)
def EntOk (P L:Int) (S:Nat) (h c:Int) (e:List am):Prop:=Canon P L S e/\e.length <= 3/\∀ q ∈ e,q.1.sum + c=h/\q.1.sum <= 4
def RowOk (P L:Int) (S:Nat) (cs:List Int) (row:List (List am)):Prop:=∃ h,Paired (EntOk P L S h) cs row/\∃ e ∈ row,e ≠ []
theorem Canon.mono {P L:Int} {y z:Nat} {ps:List am} (h:Canon P L y ps) (hz:y <= z):Canon P L z ps:=⟨h.1,fun p hp=>⟨(h.2 p hp).1,(h.2 p hp).2.1.mono hz,(h.2 p hp).2.2⟩⟩
theorem EntOk.mono {P L:Int} {y z:Nat} {h c:Int} {e:List am} (k:EntOk P L y h c e) (hz:y <= z):EntOk P L z h c e:=⟨k.1.mono hz,k.2⟩
theorem RowOk.mono {P L:Int} {y z:Nat} {cs:List Int} {row:List (List am)} (k:RowOk P L y cs row) (hz:y <= z):RowOk P L z cs row:=by
 obtain ⟨h,p,e⟩:=k
 exact ⟨h,ap (fun _ _ k=>k.mono hz) p,e⟩
def aX:List Int->List (List am)->Option Int
 | c :: cs,e :: row=>match e with
  | q :: _=>some (c + q.1.sum)
  | []=>aX cs row
 | _,_=>none
def bA (cs:List Int) (row:List (List am)):V:=match aX cs row with
 | some h=>.int h
 | none=>.non
theorem dQ {cs:List Int}:∀ {row:List (List am)},row.length=cs.length->(aX cs row=none↔∀ e ∈ row,e=[]):=by
 induction cs with
 | nil=>intro row h; cases row with
  | nil=>simp [aX]
  | cons e r=>simp at h
 | cons c cs ih=>
  intro row h
  cases row with
  | nil=>simp at h
  | cons e r=>
   have h':r.length=cs.length:=by simpa using h
   cases e with
   | nil=>
    rw [show aX (c :: cs) ([] :: r)=aX cs r from rfl,ih h']
    simp
   | cons q t=>
    rw [show aX (c :: cs) ((q :: t) :: r)=some (c + q.1.sum) from rfl]
    simp
theorem ml {P:Int} (hP:PrimeOk P) {S:Nat} (hS:14 <= S) {ps:List am} (h:∀ p ∈ ps,OkN P p.2/\Sz S p.2):∀ i,i <= ps.length->∀ p ∈ acc P (ps.take i),Sz ((S + 1) * i) p.2
 | 0,_,p,hp=>by simp [acc] at hp
 | i + 1,hi,p,hp=>by
  have hB:=hP.b
  obtain ⟨q,eq⟩:∃ q,ps[i]? = some q:=⟨_,List.getElem?_eq_getElem (by omega)⟩
  have ih:=ml hP hS h i (by omega)
  have okm:∀ q ∈ acc P (ps.take i),OkN P q.2:=iN hB.1 hB.2.2 fun q hq=>(h q (List.mem_of_mem_take hq)).1
  obtain ⟨oq,zq⟩:=h q (List.mem_of_getElem? eq)
  have e3:(S + 1) * (i + 1)=(S + 1) * i + (S + 1):=Nat.mul_succ _ _
  rw [iC eq] at hp
  rcases fE hp with z | z
  ·rw [z]
   show Sz ((S + 1) * (i + 1)) (eN P ((bS (acc P (ps.take i)) q.1).getD (0,1)) q.2)
   cases e:bS (acc P (ps.take i)) q.1 with
   | none=>
    show Sz _ (eN P (0,1) q.2)
    rw [fi oq]
    exact zq.mono (by omega)
   | some y=>
    have my:=db e
    have sy:Sz ((S + 1) * i) y:=ih _ my
    have pos:1 <= i:=by
     cases i with
     | zero=>simp [acc] at my
     | succ j=>omega
    have e4:S + 1 <= (S + 1) * i:=Nat.le_mul_of_pos_right _ pos
    exact (jv hB.1 hB.2.1 (okm _ my) oq sy zq (by omega)).1.mono (by omega)
  ·exact (ih p z).mono (by omega)
theorem acc_szA {P:Int} (hP:PrimeOk P) {S n:Nat} (hS:14 <= S) {ps:List am} (h:∀ p ∈ ps,OkN P p.2/\Sz S p.2) (hn:ps.length <= n) (i:Nat):∀ p ∈ acc P (ps.take i),Sz ((S + 1) * n) p.2:=fun p hp=>by
 by_cases hi:i <= ps.length
 ·exact (ml hP hS h i hi p hp).mono (Nat.mul_le_mul_left _ (by omega))
 ·rw [List.take_of_length_le (by omega)] at hp
  exact (ml hP hS h ps.length (Nat.le_refl _) p (by rw [List.take_length]; exact hp)).mono (Nat.mul_le_mul_left _ hn)
theorem sumOk_n {P:Int} (hP:PrimeOk P) {S n:Nat} (hS:14 <= S) {ps:List am} (h:∀ p ∈ ps,OkN P p.2/\Sz S p.2) (hn:ps.length <= n) (h1:S <= 1900) (h2:(S + 1) * n <= 1900):fj P ps:=⟨fun p hp=>⟨(h p hp).1,(h p hp).2.mono h1⟩,fun i p hp=>(acc_szA hP hS h hn i p hp).mono h2⟩
theorem canon_n {P L:Int} (hP:PrimeOk P) {S n:Nat} (hS:14 <= S) {ps out:List am} (h:∀ p ∈ ps,OkN P p.2/\Sz S p.2/\(p.1.length:Int)=L/\∀ e ∈ p.1,0 <= e) (hn:ps.length <= n) (hs:IsSum P ps out):Canon P L ((S + 1) * n) out/\out.length <= n/\∀ q ∈ out,∃ r ∈ ps,r.1=q.1:=by
 have hB:=hP.b
 have h':∀ p ∈ ps,OkN P p.2/\Sz S p.2:=fun p hp=>⟨(h p hp).1,(h p hp).2.1⟩
 have fr:∀ q ∈ out,∃ r ∈ ps,r.1=q.1:=fun q hq=>acc_from q (hs.mem q hq)
 refine ⟨⟨hs.2,fun q hq=>⟨iN hB.1 hB.2.2 (fun p hp=>(h p hp).1) q (hs.mem q hq),acc_szA hP hS h' hn ps.length q (by rw [List.take_length]; exact hs.mem q hq),hs.nz q hq,?_⟩⟩,?_,fr⟩
 ·obtain ⟨r,hr,e⟩:=fr q hq
  rw [<- e]
  exact (h r hr).2.2
 ·have e1:=hs.1.length_eq
  have e2:=List.length_filter_le nz (acc P ps)
  have e3:=mR P ps
  omega
def RowA (av:List Addr) (P:Int) (H:Hp) (v:V) (row:List (List am)):Prop:=∃ r es,v=.ref r/\r ∉ av/\H r=some (.lst es)/\Paired (EntA av P H) es row
theorem RowA.keep {av:List Addr} {P:Int} {H H':Hp} {v:V} {row:List (List am)} (k:KeepA av H H') (h:RowA av P H v row):RowA av P H' v row:=by
 obtain ⟨r,es,rfl,ra,hr,pr⟩:=h
 exact ⟨r,es,rfl,ra,k.2 _ _ hr ra,ap (fun _ _=>EntA.keep k) pr⟩
theorem RowA.row {av:List Addr} {P:Int} {H:Hp} {v:V} {row:List (List am)} (h:RowA av P H v row):RowR P H v row:=by
 obtain ⟨r,es,rfl,_,hr,pr⟩:=h
 exact ⟨r,es,rfl,hr,ap (fun _ _=>EntA.ent) pr⟩
theorem copy_go {K:Frag} {P:Int} {src:List (Option Nat)} {σ rest:L2.St} {H0:Hp} {a:Addr} {es:List V} {row:List (List am)} {Q:VK} (hσ:bW src σ=none :: rest) (ha:H0 a=some (.lst es)) (pr:Paired (EntR P H0) es row) (hl:es.length <= 60)
  (hd:∀ acc es' H',H0 acc=none->Same H0 H'->H' acc=some (.lst es')->Paired (EntF H0 acc P H') es' row->Q (.ref acc) H'):cT (Itl K a) src (cI 0) tYes (tCB (rListT K) (bJ (gk 0) dI)) σ H0 Q:=by
 have le:es.length=row.length:=Paired.length pr
 refine be (n:=es.length) (σ0:=none :: rest) hσ (fun acc i ws σ H'=>∃ u:Option V,σ=u :: rest/\Same H0 H'/\Paired (EntF H0 acc P H') ws (row.take i)) (by rw [sizeLine_eq]; omega) (fun acc hacc=>⟨none,rfl,Same.new hacc,by rw [List.take_zero]; exact .nil⟩) ?_ ?_ ?_ ?_
 ·rintro acc i ws σ H' hacc hi hz ⟨u,rfl,sm,_⟩
  exact ⟨es,es[i],SqL.of (sm _ _ ha),by simp [hi]⟩
 ·rintro acc ws σ H' hacc hz ⟨u,rfl,sm,_⟩
  exact ⟨es,SqL.of (sm _ _ ha),Nat.le_refl _⟩
 ·rintro acc i ws σ H1 x H' hacc hi hz hzl ⟨u,rfl,sm,pw⟩ ⟨rfl,gx⟩
  have hx:=gx es (SqL.of (sm _ _ ha))
  obtain ⟨e,ee,l,ts,rfl,hl1,pe⟩:=aG pr hx
  refine ⟨_,rfl,l,ts,rfl,.inl (SqL.of (sm _ _ hl1)),fun l2 n2=>?_⟩
  have s2:=Same.new (o:=.lst ts) n2
  have h2:(upd H' l2 (.lst ts)) l2=some (.lst ts):=ac
  have la:l2 ≠ acc:=(ah hz n2).symm
  generalize upd H' l2 (.lst ts)=H2 at *
  have hz2:=s2 _ _ hz
  have k:KeepA [acc] H' (upd H2 acc (.lst (ws ++ [.ref l2]))):=(KeepA.of s2).trans (KeepA.put hz2 (by simp))
  have k2:KeepA [acc] H2 (upd H2 acc (.lst (ws ++ [.ref l2]))):=KeepA.put hz2 (by simp)
  refine ⟨ws,hz2,by rw [sizeLine_eq]; omega,_,ac,by rw [List.length_append,List.length_singleton]; omega,_,rfl,(sm.trans s2).put hacc,?_⟩
  rw [List.take_add_one,ee]
  refine bg ?_ (ap (fun _ _=>EntF.keepA (av:=[acc]) (fun a ha=>.inl (by simpa using ha)) k) pw)
  exact ⟨l2,ts,rfl,sm.free n2,la,by rw [ao la]; exact h2,(pe.mono fun t xs e=>s2 _ _ (sm _ _ e)).mono k2.1⟩
 ·rintro acc ws σ H1 hacc hz hzl ⟨u,rfl,sm,pw⟩
  rw [le,List.take_length] at pw
  exact hd acc ws H1 hacc sm hz pw
theorem nd_6:(["_law_place", "_law_base", "_law_bag_here", "_law_near"]:List Str).Nodup:=by decide +kernel
def spCols:Sp:=fun vs H Q _=>∃ (p:Addr) (N M a b:Int) (k:Nat),vs=[.int N,.int M,.ref p]/\1 <= N/\N <= 3/\1 <= M/\M <= 5/\H p=some (.lst [.int a,.int b])/\BagOk a b k/\k <= 100000/\
 ∀ (l:Addr) (cs:List Int) (a' b':Int) (H':Hp),H l=none->H' l=some (.lst (cs.map V.int))->(cs.length:Int)=N->(∀ c ∈ cs,-18 <= c/\c <= 21)->H' p=some (.lst [.int a',.int b'])->BagOk a' b' (k + 4)->(∀ c o,H c=some o->c ≠ p->H' c=some o)->Q (.ref l) H'
def spWide:Sp:=fun vs H Q _=>∃ (p:Addr) (a b:Int) (k:Nat),vs=[.ref p]/\H p=some (.lst [.int a,.int b])/\BagOk a b k/\k <= 100000/\
 ∀ (v:V) (x:Int × Int) (a' b':Int) (H':Hp),At 0 H' v x->OkN 0 x->Sz 35 x->H' p=some (.lst [.int a',.int b'])->BagOk a' b' (k + 3)->(∀ c o,H c=some o->c ≠ p->H' c=some o)->Q v H'
def ig:Sp:=fun vs H Q _=>∃ (c r:Addr) (P:Int) (cs:List Int) (es:List V) (row:List (List am)),vs=[.ref c,.ref r]/\H c=some (.lst (cs.map V.int))/\H r=some (.lst es)/\Paired (EntR P H) es row/\row.length <= 60/\∀ H',Same H H'->Q (bA cs row) H'
theorem jd {cs:List Int}:∀ {row:List (List am)} {i:Nat},(∀ j < i,∀ e,row[j]? = some e->e=[])->aX cs row=aX (cs.drop i) (row.drop i):=by
 induction cs with
 | nil=>
  intro row i h
  cases row<;>cases i<;>simp [aX]
 | cons c cs ih=>
  intro row i h
  cases i with
  | zero=>rfl
  | succ i=>
   cases row with
   | nil=>simp [aX]
   | cons e r=>
    have e0:e=[]:=h 0 (by omega) e rfl
    subst e0
    exact ih fun j hj e he=>h (j + 1) (by omega) e he
theorem iG (x:V) (xs:List V):atI (x :: xs) 0=some x:=bN (xs:=x :: xs) (j:=0) rfl
theorem fZ (P:Int) (out:List am):PyData.eqv (dS P out) (dS P [])=decide (out=[]):=by
 cases out with
 | nil=>exact SeqAt.eqv_refl _ (SeqAt.canLay_of_shaped (ba P []))
 | cons p r=>
  rw [decide_eq_false (by simp)]
  simp [dS,PyData.eqv,PyData.eqvAll]
section
variable {P:Program} {w:World} {K:Frag} {mg:Str->Option Value} {base:Heap}
theorem sc__law_columns:FnScope ["_law_many", "_law_near", "_law_bag_here", "_law_base"] ["_law_many", "_law_near", "_law_bag_here"] (al dH):=.i
theorem ok_cols {f:Addr} {fd:FuncData} (F:Fun K "_law_columns" "_law_columns" dH f fd) (T:Blt mg) (G_law_take:FnB P w K mg base 1 "_law_take" cF):aI P w K mg base CX0 2 f fd ["_law_many", "_law_near", "_law_bag_here"] spCols:=by
 refine F.ok sc__law_columns (fun vs H Q E h=>?_) (fun cdv A outer s H vs Q E hr h=>?_)
 ·obtain ⟨p,N,M,a,b,k,rfl,_⟩:=h
  rfl
 ·obtain ⟨p,N,M,a,b,k,rfl,N1,N3,M1,M5,hp,hb,hk,q⟩:=h
  refine ⟨_,(ag (aA (i:=3) sc__law_columns.nd rfl (Or.inr rfl) (au bx (aw G_law_take hr.m (aa (pv 2) (aa ae af))) ae))
(ak (aq (by exact bj (N:=["_law_place", "_law_base", "_law_bag_here", "_law_near"]) (src:=[none,some 3,some 2,some 1]) rfl rfl rfl (by exact (cR rfl T.range (aa (pv 0) af))) (fun _ _ _=>by exact ⟨by exact (bU (i:=0) nd_6 rfl rfl),bi,by exact (au bx (au aP (pv 1) (aw G_law_take hr.m (aa (pv 2) (aa (pv 3) af)))) ae)⟩))))),?_⟩
  refine ⟨_,rfl,p,a,b,35,k,rfl,hp,hb,by omega,by decide,aC (by decide) (by decide),fun r1 a1 b1 r10 r11 hb1=>⟨_,_,rfl,rfl,?_⟩⟩
  have k1:=KeepB.put (ys:=[.int a1,.int b1]) hp
  have hp1:(upd H p (.lst [.int a1,.int b1])) p=some (.lst [.int a1,.int b1]):=ac
  generalize upd H p (.lst [.int a1,.int b1])=H1 at *
  refine ⟨_,rfl,N,rfl,by omega,by omega,be (n:=N.toNat) (σ0:=[none,some (.int (r1 - 17)),some (.ref p),some (.int M)]) rfl (fun acc i ws σ H'=>∃ (u:Option V) (cs:List Int) (a b:Int),σ=[u,some (.int (r1 - 17)),some (.ref p),some (.int M)]/\ws=cs.map V.int/\cs.length=i/\(∀ c ∈ cs,-18 <= c/\c <= 21)/\H' p=some (.lst [.int a,.int b])/\BagOk a b (k + 1 + i)/\∀ c o,H1 c=some o->c ≠ p->H' c=some o)
   (by rw [sizeLine_eq]; omega) (fun acc hacc=>⟨none,[],a1,b1,rfl,rfl,rfl,fun c hc=>absurd hc (by simp),by rw [ao (ah hp1 hacc)]; exact hp1,hb1,fun c o e hc=>by rw [ao (ah e hacc)]; exact e⟩) ?_ ?_ ?_ ?_⟩
  ·rintro acc i ws σ H' hacc hi hz _
   exact hi
  ·rintro acc ws σ H' hacc hz _
   exact Nat.le_refl _
  ·rintro acc i ws σ H2 x H' hacc hi hz hzl ⟨u,cs,a2,b2,rfl,rfl,lc,okc,hp2,hb2,kp2⟩ ⟨rfl,rfl⟩
   have pne:p ≠ acc:=ah hp1 hacc
   refine ⟨_,rfl,_,rfl,_,rfl,p,a2,b2,M,_,rfl,hp2,hb2,by omega,by omega,aC (by omega) (by omega),fun r3 a3 b3 r30 r31 hb3=>⟨_,_,rfl,rfl,_,_,rfl,rfl,?_⟩⟩
   refine ⟨cs.map V.int,by rw [ao pne.symm]; exact hz,by rw [List.length_map,sizeLine_eq]; omega,_,ac,by rw [List.length_append,List.length_singleton]; omega,_,cs ++ [r1 - 17 + r3 - 1],a3,b3,rfl,by rw [List.map_append]; rfl,by rw [List.length_append,lc]; rfl,fun c hc=>?_,by rw [ao pne,ac],by rw [show k + 1 + (i + 1)=k + 1 + i + 1 by omega]; exact hb3,fun c o e hc=>?_⟩
   ·rcases List.mem_append.mp hc with z | z
    ·exact okc c z
    ·rw [List.mem_singleton.mp z]
     omega
   ·rw [ao (ah e hacc),ao hc]
    exact kp2 c o e hc
  ·rintro acc ws σ H2 hacc hz hzl ⟨u,cs,a2,b2,rfl,rfl,lc,okc,hp2,hb2,kp2⟩
   have an:H acc=none:=by
    cases e:H acc with
    | none=>rfl
    | some o=>
     by_cases z:acc=p
     ·rw [z,hp1] at hacc; cases hacc
     ·rw [k1.2.2 acc o e z] at hacc; cases hacc
   exact q acc cs a2 b2 H2 an hz (by omega) okc hp2 (hb2.mono (by omega)) fun c o e hc=>kp2 c o (k1.2.2 c o e hc) hc
theorem mi:FnScope ["_law_bag_here"] ["_law_bag_here"] (al fO):=.i
theorem ok_wide {f:Addr} {fd:FuncData} (F:Fun K "_law_wide" "_law_wide" fO f fd) (G_law_take:FnB P w K mg base 1 "_law_take" cF) (G_law_low:FnB P w K mg base 1 "_law_low" jD):aI P w K mg base CX0 2 f fd ["_law_bag_here"] spWide:=by
 refine F.ok mi (fun vs H Q E h=>?_) (fun cdv A outer s H vs Q E hr h=>?_)
 ·obtain ⟨p,a,b,k,rfl,_⟩:=h
  rfl
 ·obtain ⟨p,a,b,k,rfl,hp,hb,hk,q⟩:=h
  refine ⟨_,(ak (aq (aw G_law_low hr.m (aa (au bC (au bx (au bC ae (aw G_law_take hr.m (aa (pv 0) (aa ae af)))) ae) (aw G_law_take hr.m (aa (pv 0) (aa (au eT ae ae) af)))) (aa (au aP ae (aw G_law_take hr.m (aa (pv 0) (aa (au bx (au eT ae ae) ae) af)))) af))))),?_⟩
  refine ⟨_,rfl,p,a,b,2,k,rfl,hp,hb,by omega,by decide,aC (by decide) (by decide),fun r1 a1 b1 r10 r11 hb1=>?_⟩
  refine ⟨_,_,rfl,rfl,.inl ⟨by decide,by decide⟩,_,_,rfl,rfl,?_⟩
  refine ⟨_,rfl,_,_,rfl,rfl,⟨by decide,by decide,by decide⟩,p,a1,b1,_,k + 1,rfl,ac,hb1,by omega,by rw [cZ]; decide,by rw [cZ]; exact aC (by decide) (by decide),fun r2 a2 b2 r20 r21 hb2=>?_⟩
  rw [cZ] at r21
  refine ⟨_,_,rfl,rfl,.inl ⟨by omega,by omega⟩,?_⟩
  refine ⟨_,rfl,_,_,rfl,rfl,⟨by decide,by decide,by decide⟩,_,_,rfl,rfl,p,a2,b2,_,k + 2,rfl,ac,hb2,by omega,by rw [cZ]; decide,by rw [cZ]; exact aC (by decide) (by decide),fun r3 a3 b3 r30 r31 hb3=>?_⟩
  rw [cZ] at r31
  refine ⟨_,_,rfl,rfl,_,_,rfl,by omega,aC (by omega) (by omega),fun t ht=>?_⟩
  rw [cW,cW] at ht ⊢
  have h01:r1=0\/r1=1:=by omega
  have hb4:((2 * r1 - 1) * r2).natAbs < 2 ^ 35:=by
   rcases h01 with z | z<;>subst z<;>omega
  have pt:p ≠ t:=ah (o:=.lst [.int a3,.int b3]) ac ht
  generalize (2 * r1 - 1) * r2=n at *
  have hl:=jL n (1 + r3) (by omega)
  refine q _ (nrm n (1 + r3)) a3 b3 _ (.inl ⟨rfl,t,rfl,ac⟩) (.inl ⟨rfl,ju _ _ (by omega),ip _ _ (by omega)⟩) ⟨Nat.lt_of_le_of_lt hl.1 hb4,Nat.lt_of_le_of_lt hl.2 (by omega)⟩ (by rw [ao pt,ac]) hb3 fun c o e hc=>?_
  have e1:upd H p (.lst [.int a3,.int b3]) c=some o:=by rw [ao hc]; exact e
  rw [ao (ah e1 ht)]
  exact e1
theorem sc__law_level:FnScope ["_law_columns_here", "_law_row", "_law_column", "_law_entry"] ["_law_columns_here", "_law_row"] (al eV):=.i
theorem ok_llevel {f:Addr} {fd:FuncData} (F:Fun K "_law_level" "_law_level" eV f fd) (T:Blt mg):aI P w K mg base CX0 1 f fd ["_law_columns_here", "_law_row"] ig:=by
 refine F.ok sc__law_level (fun vs H Q E h=>?_) (fun cdv A outer s H vs Q E hr h=>?_)
 ·obtain ⟨c,r,P,cs,es,row,rfl,_⟩:=h
  rfl
 ·obtain ⟨c,r,P,cs,es,row,rfl,hc,hr',pr,hn,q⟩:=h
  have le:es.length=row.length:=Paired.length pr
  refine ⟨_,(ag (dh PassesOwn.never rfl (ir K false false rfl rfl T.zip (aa (pv 0) (aa (pv 1) af))) (dJ K (i:=2) (j:=3) rfl rfl sc__law_level.nd rfl rfl rfl rfl)
(ak (aJ (az (kneD K rfl hr.units) (pv 3) (bb af) (ar _))
(ak (aq (au aP (pv 2) (iF K T (aE (aF K rfl) (aE (aD K rfl) (pv 3) ae (fun _ _=>rfl)) ae (fun _ _=>rfl)) true))))
aB)))
(ak (aq gU))),?_⟩
  refine ⟨_,rfl,_,rfl,c,r,rfl,⟨_,bZ (SqL.of hc)⟩,⟨_,bZ (SqL.of hr')⟩,for_zip (xs:=cs.map V.int) (ys:=es) (fun i σ H'=>∃ x2 x3:Option V,σ=[some (.ref c),some (.ref r),x2,x3]/\Same H H'/\∀ j < i,∀ e,row[j]? = some e->e=[]) ?_ ?_ ?_ ?_⟩
  ·exact ⟨none,none,rfl,Same.refl _,fun j hj=>absurd hj (by omega)⟩
  ·rintro i σ H1 hi ⟨x2,x3,rfl,sm,_⟩
   exact ⟨bZ (SqL.of (sm _ _ hc)),bZ (SqL.of (sm _ _ hr'))⟩
  ·rintro i x y σ H1 p hx hy ⟨x2,x3,rfl,sm,hz⟩ np
   obtain ⟨z,hz1,rfl⟩:=fe hx
   obtain ⟨e,he,l,ts,rfl,hl,pe⟩:=aG pr hy
   have s1:=sm.trans (Same.new (o:=.tup [.int z,.ref l]) np)
   refine ⟨p,_,rfl,SqT.of ac,rfl,_,_,rfl,_,_,rfl,rfl,?_⟩
   refine ⟨_,rfl,Nat.zero_le _,fun l2 n2=>?_⟩
   have s2:=s1.trans (Same.new (o:=.lst []) n2)
   have h2:(upd (upd H1 p (.tup [.int z,.ref l])) l2 (.lst [])) l2=some (.lst []):=ac
   generalize upd (upd H1 p (.tup [.int z,.ref l])) l2 (.lst [])=H2 at *
   refine ⟨dS P e,dS P [],eh (s2 _ _ hl) (pe.mono fun t xs e=>s2 _ _ e),eh h2 .nil,ba _ _,ba _ _,_,rfl,?_⟩
   rw [fZ]
   cases e with
   | nil=>
    refine aO ⟨_,_,rfl,s2,fun j hj e' he'=>?_⟩
    by_cases h:j < i
    ·exact hz j h e' he'
    ·have:j=i:=by omega
     subst this
     rw [he] at he'
     exact (Option.some.inj he').symm
   | cons q0 t0=>
    cases pe with
    | cons pq pt=>
     obtain ⟨tq,kq,uq,rfl,h1,h2',h3⟩:=pq
     refine aH ⟨_,rfl,_,rfl,l,_,_,_,rfl,rfl,SqL.of (s2 _ _ hl),iG _ _,tq,_,_,_,rfl,rfl,SqT.of (s2 _ _ h1),rfl,kq,_,rfl,mt (SqT.of (s2 _ _ h2')),_,_,rfl,rfl,?_⟩
     have z1:=q H2 s2
     unfold bA at z1
     rw [jd hz,List.drop_eq_getElem_cons (l:=cs) (by exact (List.getElem?_eq_some_iff.mp hz1).1),List.drop_eq_getElem_cons (l:=row) (by exact (List.getElem?_eq_some_iff.mp he).1),(List.getElem?_eq_some_iff.mp hz1).2,(List.getElem?_eq_some_iff.mp he).2] at z1
     exact z1
  ·rintro σ H1 ⟨x2,x3,rfl,sm,hz⟩
   have z1:=q H1 sm
   unfold bA at z1
   rw [jd hz,List.length_map,le] at z1
   have e0:aX (cs.drop (min cs.length row.length)) (row.drop (min cs.length row.length))=none:=by
    rcases Nat.le_total cs.length row.length with h | h
    ·rw [Nat.min_eq_left h,List.drop_length]
     rfl
    ·rw [Nat.min_eq_right h,List.drop_length (l:=row)]
     cases cs.drop row.length<;>rfl
   rw [e0] at z1
   exact z1
end
def spDrawn:Sp:=fun vs H Q _=>∃ (p c:Addr) (P L M N a b:Int) (g:Bool) (k:Nat) (cs:List Int),vs=[.int P,.int L,.ref c,.int M,.int N,.bl g,.ref p]/\PrimeOk P/\(g=true->P=0)/\1 <= L/\L <= 4/\0 <= M/\M <= 4/\0 <= N/\N <= 3/\H c=some (.lst (cs.map V.int))/\c ≠ p/\1 <= cs.length/\cs.length <= 3/\H p=some (.lst [.int a,.int b])/\BagOk a b k/\k <= 50000/\
 ∀ (r:Addr) (es:List V) (row:List (List am)) (a' b':Int) (H':Hp),H r=none->H' r=some (.lst es)->Paired (EntF H r P H') es row->RowOk P L 110 cs row->H' p=some (.lst [.int a',.int b'])->BagOk a' b' (k + 300)->(∀ c o,H c=some o->c ≠ p->H' c=some o)->Q (.ref r) H'
def jz (P L h c:Int) (q:am):Prop:=OkN P q.2/\Sz 35 q.2/\(q.1.length:Int)=L/\(∀ e ∈ q.1,0 <= e)/\q.1.sum + c=h/\q.1.sum <= 4
theorem ent_drawn {P L h c:Int} (hP:PrimeOk P) {ps out:List am} (hn:ps.length <= 3) (ok:∀ q ∈ ps,jz P L h c q) (is:IsSum P ps out):EntOk P L 110 h c out:=by
 obtain ⟨cn,ln,fr⟩:=canon_n (L:=L) hP (S:=35) (by decide) (fun q hq=>⟨(ok q hq).1,(ok q hq).2.1,(ok q hq).2.2.1,(ok q hq).2.2.2.1⟩) hn is
 refine ⟨cn.mono (by decide),ln,fun q hq=>?_⟩
 obtain ⟨r,hr,e⟩:=fr q hq
 rw [<- e]
 exact (ok r hr).2.2.2.2
theorem mY {P L h c:Int} (hP:PrimeOk P) {ps:List am} (hn:ps.length <= 3) (ok:∀ q ∈ ps,jz P L h c q):fj P ps:=sumOk_n hP (S:=35) (n:=3) (by decide) (fun q hq=>⟨(ok q hq).1,(ok q hq).2.1⟩) hn (by decide) (by decide)
theorem sz_num0 {P:Int} (hP:PrimeOk P) {x:Int × Int} (o:OkN P x) (h:P=0->Sz 2 x):Sz 14 x:=by
 by_cases h0:P=0
 ·exact (h h0).mono (by decide)
 ·have hB:=hP.b
  rcases o with ⟨z,_⟩ | ⟨_,x0,x1,x2⟩
  ·exact absurd z h0
  ·exact ⟨by show x.1.natAbs < 2 ^ 14; omega,by rw [x2]; decide⟩
theorem ixN_nat {n i:Nat} (h:i < n):ixN n (i:Int)=some i:=by
 unfold ixN
 rw [if_pos (by omega)]
 simp
 omega
section
variable {P:Program} {w:World} {K:Frag} {mg:Str->Option Value} {base:Heap}
theorem sc__law_drawn_row:FnScope ["_law_prime_here", "_law_letters", "_law_columns_here", "_law_most", "_law_parts", "_law_great_here", "_law_bag_here", "_law_at", "_law_height", "_law_row", "_law_column", "_law_many", "_law_some", "_law_k", "_law_number_here"] ["_law_prime_here", "_law_letters", "_law_columns_here", "_law_most", "_law_parts", "_law_great_here", "_law_bag_here"] (al cJ):=.i
set_option maxHeartbeats 4000000 in
theorem ok_drawn {f:Addr} {fd:FuncData} (F:Fun K "_law_drawn_row" "_law_drawn_row" cJ f fd) (T:Blt mg) (G_law_take:FnB P w K mg base 1 "_law_take" cF) (G_law_number:FnB P w K mg base 4 "_law_number" iQ) (G_law_wide:FnB P w K mg base 2 "_law_wide" spWide) (G_law_product:FnB P w K mg base 2 "_law_product" mj) (G_law_sum:FnB P w K mg base 4 "_law_sum" mn) (G_law_level:FnB P w K mg base 1 "_law_level" ig) (G_law_unit:FnB P w K mg base 1 "_law_unit" mK) :
  aI P w K mg base CX0 5 f fd ["_law_prime_here", "_law_letters", "_law_columns_here", "_law_most", "_law_parts", "_law_great_here", "_law_bag_here"] spDrawn:=by
 refine F.ok sc__law_drawn_row (fun vs H Q E h=>?_) (fun cdv A outer s H vs Q E hr h=>?_)
 ·obtain ⟨p,c,P,L,M,N,a,b,g,k,cs,rfl,_⟩:=h
  rfl
 ·obtain ⟨p,c,P,L,M,N,a,b,g,k,cs,rfl,hP,hg,L1,L4,M0,M4,N0,N3,hc,cp,c1,c3,hp,hb,hk,q⟩:=h
  have hB:=hP.b
  refine ⟨_,(ag (aA (i:=7) sc__law_drawn_row.nd rfl (Or.inl rfl) (aw G_law_take hr.m (aa (pv 6) (aa (bo K T (pv 2)) af))))
(ag (aA (i:=8) sc__law_drawn_row.nd rfl (Or.inl rfl) (au aP (aE (aD K rfl) (pv 2) (pv 7) (fun _ _=>rfl)) (aw G_law_take hr.m (aa (pv 6) (aa (au aP (pv 3) ae) af)))))
(ag (aA (i:=9) sc__law_drawn_row.nd rfl (Or.inl rfl) (bb af))
(ag (dh PassesOwn.never rfl (aZ K rfl (pv 2)) (aM (i:=10) sc__law_drawn_row.nd rfl (Or.inl rfl))
(ag (aA (i:=11) sc__law_drawn_row.nd rfl (Or.inl rfl) (au bx (pv 8) (pv 10)))
(ag (aA (i:=12) sc__law_drawn_row.nd rfl (Or.inl rfl) (bb af))
(ag (aJ (pt_chain je je ae (pv 11) (pv 3))
(ak (dh PassesOwn.never rfl (cR rfl T.range (aa (aw G_law_take hr.m (aa (pv 6) (aa (au aP (pv 4) ae) af))) af)) (aM (i:=13) sc__law_drawn_row.nd rfl (Or.inl rfl))
(ag (aA (i:=14) sc__law_drawn_row.nd rfl (Or.inl rfl) (aw G_law_number hr.m (aa (pv 0) (aa (pv 6) (aa bQ af)))))
(ag (aJ (aW (pv 5))
(ak (aA (i:=14) sc__law_drawn_row.nd rfl (Or.inl rfl) (aw G_law_wide hr.m (aa (pv 6) af))))
aB)
(ak (gg (lD PySem.F.plainAttrs_list PySem.F.slot_list_append PySem.F.type_list_append cQ (pv 12) (aa (bM (aa (aw G_law_product hr.m (aa (pv 1) (aa (pv 11) (aa (pv 6) af)))) (aa (pv 14) af))) af))))))))
aB)
(ak (gg (lD PySem.F.plainAttrs_list PySem.F.slot_list_append PySem.F.type_list_append cQ (pv 9) (aa (aw G_law_sum hr.m (aa (pv 0) (aa (pv 12) af))) af))))))))
(ag (aJ (az op_isN (aw G_law_level hr.m (aa (pv 2) (aa (pv 9) af))) gU (ar _))
(ak (fA (bb (aa (bM (aa (aw G_law_product hr.m (aa (pv 1) (aa (au bx (pv 8) (aE (aD K rfl) (pv 2) (pv 7) (fun _ _=>rfl))) (aa (pv 6) af)))) (aa (aw G_law_unit hr.m (aa (pv 0) af)) af))) af)) (lV (pv 9) (pv 7) iB)))
aB)
(ak (aq (pv 9)))))))),?_⟩
  refine ⟨_,rfl,_,rfl,c,_,rfl,.inl (SqL.of hc),p,a,b,_,k,rfl,hp,hb,by omega,by rw [List.length_map]; omega,by rw [List.length_map]; exact aC (by omega) (by omega),fun r1 a1 b1 r10 r11 hb1=>?_⟩
  have k1:∀ c o,H c=some o->c ≠ p->upd H p (.lst [.int a1,.int b1]) c=some o:=fun c o e hc=>by rw [ao hc]; exact e
  have hp1:(upd H p (.lst [.int a1,.int b1])) p=some (.lst [.int a1,.int b1]):=ac
  generalize upd H p (.lst [.int a1,.int b1])=H1 at *
  obtain ⟨i,rfl⟩:=Int.eq_ofNat_of_zero_le r10
  rw [List.length_map] at r11
  have hi:i < cs.length:=by omega
  obtain ⟨ci,eci⟩:∃ ci,cs[i]? = some ci:=⟨_,List.getElem?_eq_getElem hi⟩
  have eciV:(cs.map V.int)[i]? = some (.int ci):=by rw [List.getElem?_map,eci]; rfl
  refine ⟨_,rfl,_,rfl,c,_,_,_,rfl,rfl,SqL.of (k1 _ _ hc cp),bN eciV,_,rfl,_,rfl,_,_,rfl,rfl,p,a1,b1,_,k + 1,rfl,hp1,hb1,by omega,by omega,aC (by omega) (by omega),fun r2 a2 b2 r20 r21 hb2=>⟨_,_,rfl,rfl,?_⟩⟩
  have k2:∀ c o,H c=some o->c ≠ p->upd H1 p (.lst [.int a2,.int b2]) c=some o:=fun c o e hc=>by rw [ao hc]; exact k1 c o e hc
  have hp2:(upd H1 p (.lst [.int a2,.int b2])) p=some (.lst [.int a2,.int b2]):=ac
  generalize upd H1 p (.lst [.int a2,.int b2])=H2 at *
  refine ⟨Nat.zero_le _,fun r nr=>?_⟩
  have rp:r ≠ p:=(ah hp2 nr).symm
  have rc:r ≠ c:=(ah (k2 _ _ hc cp) nr).symm
  have hr3:(upd H2 r (.lst [])) r=some (.lst []):=ac
  have s3:=Same.new (o:=.lst []) nr
  have hp3:=s3 _ _ hp2
  generalize upd H2 r (.lst [])=H3 at *
  refine ⟨_,rfl,c,rfl,⟨_,SqL.of (s3 _ _ (k2 _ _ hc cp))⟩,dF (xs:=cs.map V.int) (fun j σ H'=>∃ (es:List V) (row:List (List am)) (a b:Int) (x10 x11 x12 x13 x14:Option V),σ=[some (.int P),some (.int L),some (.ref c),some (.int M),some (.int N),some (.bl g),some (.ref p),some (.int (i:Int)),some (.int (ci + r2)),some (.ref r),x10,x11,x12,x13,x14]/\
    H' r=some (.lst es)/\Paired (EntF H r P H') es row/\Paired (EntOk P L 110 (ci + r2)) (cs.take j) row/\H' p=some (.lst [.int a,.int b])/\BagOk a b (k + 2 + 60 * j)/\∀ c o,H2 c=some o->c ≠ p->H' c=some o) ?_ ?_ ?_ ?_⟩
  ·exact ⟨[],[],a2,b2,none,none,none,none,none,rfl,hr3,.nil,by rw [List.take_zero]; exact .nil,hp3,hb2,fun c o e _=>s3 c o e⟩
  ·rintro j σ H' _ ⟨es,row,a,b,x10,x11,x12,x13,x14,rfl,_,_,_,_,_,kp⟩
   exact SqL.of (kp _ _ (k2 _ _ hc cp) cp)
  ·rintro j v σ H4 hx ⟨es,row,a4,b4,x10,x11,x12,x13,x14,rfl,hr4,pr4,ok4,hp4,hb4,kp4⟩
   obtain ⟨cj,ecj,rfl⟩:=fe hx
   have jl:j < cs.length:=(List.getElem?_eq_some_iff.mp ecj).1
   have lrow:row.length=j:=by rw [<- Paired.length ok4,List.length_take]; omega
   have les:es.length=row.length:=Paired.length pr4
   refine ⟨_,rfl,_,rfl,_,_,rfl,rfl,?_⟩
   refine ⟨Nat.zero_le _,fun so ns=>?_⟩
   have sp:so ≠ p:=(ah hp4 ns).symm
   have sr:so ≠ r:=(ah hr4 ns).symm
   have s5:=Same.new (o:=.lst []) ns
   have hs5:(upd H4 so (.lst [])) so=some (.lst []):=ac
   have hp5:=s5 _ _ hp4
   generalize upd H4 so (.lst [])=H5 at *
   dsimp only
   refine jw (t:=kg _ _ _) (fun σ' H'=>∃ (ts:List V) (ps:List am) (a b:Int) (x13 x14:Option V),σ'=[some (.int P),some (.int L),some (.ref c),some (.int M),some (.int N),some (.bl g),some (.ref p),some (.int (i:Int)),some (.int (ci + r2)),some (.ref r),some (.int cj),some (.int (ci + r2 - cj)),some (.ref so),x13,x14]/\H' so=some (.lst ts)/\PartsR P H' ts ps/\ps.length <= 3/\(∀ q ∈ ps,jz P L (ci + r2) cj q)/\H' p=some (.lst [.int a,.int b])/\BagOk a b (k + 2 + 60 * j + 50)/\∀ c o,H4 c=some o->c ≠ p->H' c=some o) (fun R hR=>?_) ?_
   ·refine ⟨_,rfl,_,_,rfl,rfl,_,rfl,?_⟩
    have none5:∀ c o,H4 c=some o->c ≠ p->H5 c=some o:=fun c o e _=>s5 c o e
    by_cases h1:0 <= ci + r2 - cj
    ·rw [decide_eq_true h1]
     refine aH ⟨_,rfl,_,_,rfl,rfl,_,rfl,?_⟩
     by_cases h2:ci + r2 - cj <= M
     ·rw [decide_eq_true h2]
      refine aH ⟨_,rfl,_,rfl,_,_,rfl,rfl,p,a4,b4,_,_,rfl,hp5,hb4,by omega,by omega,aC (by omega) (by omega),fun n6 a6 b6 n60 n61 hb6=>?_⟩
      have k6:∀ c o,H5 c=some o->c ≠ p->upd H5 p (.lst [.int a6,.int b6]) c=some o:=fun c o e hc=>by rw [ao hc]; exact e
      have hp6:(upd H5 p (.lst [.int a6,.int b6])) p=some (.lst [.int a6,.int b6]):=ac
      have hs6:=k6 _ _ hs5 sp
      generalize upd H5 p (.lst [.int a6,.int b6])=H6 at *
      refine ⟨n6,rfl,by omega,by omega,gi (n:=n6.toNat) (fun m σ H'=>∃ (ts:List V) (ps:List am) (a b:Int) (x13 x14:Option V),σ=[some (.int P),some (.int L),some (.ref c),some (.int M),some (.int N),some (.bl g),some (.ref p),some (.int (i:Int)),some (.int (ci + r2)),some (.ref r),some (.int cj),some (.int (ci + r2 - cj)),some (.ref so),x13,x14]/\H' so=some (.lst ts)/\PartsR P H' ts ps/\ps.length=m/\(∀ q ∈ ps,jz P L (ci + r2) cj q)/\H' p=some (.lst [.int a,.int b])/\BagOk a b (k + 2 + 60 * j + 1 + 12 * m)/\∀ c o,H6 c=some o->c ≠ p->c ≠ so->H' c=some o) ?_ ?_ ?_⟩
      ·exact ⟨[],[],a6,b6,_,_,rfl,hs6,.nil,rfl,fun q hq=>absurd hq (by simp),hp6,hb6,fun c o e _ _=>e⟩
      ·rintro m σ H7 hm ⟨ts,ps,a7,b7,y13,y14,rfl,hs7,pr7,ln7,ok7,hp7,hb7,kp7⟩
       refine ⟨_,rfl,_,rfl,p,P,a7,b7,_,rfl,hP,hp7,hb7,by omega,fun v x a8 b8 H8 av ox sx hp8 hb8 kp8=>?_⟩
       have sx14:=sz_num0 hP ox sx
       have ks8:=KeepA.bag (av:=[p]) hp7 kp8 (by simp)
       dsimp only
       refine jw (t:=kg _ _ _) (fun σ' H'=>∃ (v:V) (x:Int × Int) (a b:Int),σ'=[some (.int P),some (.int L),some (.ref c),some (.int M),some (.int N),some (.bl g),some (.ref p),some (.int (i:Int)),some (.int (ci + r2)),some (.ref r),some (.int cj),some (.int (ci + r2 - cj)),some (.ref so),some (.int (0 + (m:Int))),some v]/\At P H' v x/\OkN P x/\Sz 35 x/\H' p=some (.lst [.int a,.int b])/\BagOk a b (k + 2 + 60 * j + 1 + 12 * m + 5)/\∀ c o,H7 c=some o->c ≠ p->H' c=some o) (fun R' hR'=>?_) ?_
       ·refine ⟨_,rfl,_,rfl,?_⟩
        cases g with
        | false=>exact aO (hR' _ _ ⟨v,x,a8,b8,rfl,av,ox,sx14.mono (by decide),hp8,hb8.mono (by omega),kp8⟩)
        | true=>
         have h0:=hg rfl
         subst h0
         refine aH ⟨_,rfl,p,a8,b8,_,rfl,hp8,hb8,by omega,fun v9 x9 a9 b9 H9 av9 ox9 sx9 hp9 hb9 kp9=>?_⟩
         exact hR' _ _ ⟨v9,x9,a9,b9,rfl,av9,ox9,sx9,hp9,hb9.mono (by omega),fun c o e hc=>kp9 c o (kp8 c o e hc) hc⟩
       rintro σ' H9 ⟨v9,x9,a9,b9,rfl,av9,ox9,sx9,hp9,hb9,kp9⟩
       have hs9:=kp9 _ _ hs7 sp
       refine ⟨_,rfl,.inl ⟨rfl,_,SqL.of hs9⟩,?_⟩
       refine ⟨_,rfl,_,rfl,_,rfl,p,L,_,a9,b9,_,rfl,L1,L4,h1,by omega,hp9,hb9,by omega,fun t es9 a10 b10 H10 le10 nn10 sm10 ht10 hp10 hb10 kp10=>?_⟩
       refine ⟨_,rfl,(by show 2 <= sizeLine; decide),fun t11 n11=>?_⟩
       have s11:=Same.new (o:=.tup [.ref t,v9]) n11
       have h11:(upd H10 t11 (.tup [.ref t,v9])) t11=some (.tup [.ref t,v9]):=ac
       generalize upd H10 t11 (.tup [.ref t,v9])=H11 at *
       have ka:KeepA [p] H9 H11:=(KeepA.bag hp9 kp10 (by simp)).trans (.of s11)
       have kb:KeepA [p] H7 H11:=(KeepA.bag hp7 kp9 (by simp)).trans ka
       have hs11:=ka.2 _ _ hs9 (by simp [sp])
       refine ⟨so,_,_,rfl,rfl,hs11,by rw [Paired.length pr7,ln7,sizeLine_eq]; omega,?_⟩
       have kc:KeepA [so] H11 (upd H11 so (.lst (ts ++ [.ref t11]))):=KeepA.put hs11 (by simp)
       refine ⟨ts ++ [.ref t11],ps ++ [(es9,x9)],a10,b10,_,_,rfl,ac,PartsR.snoc ⟨t11,t,v9,rfl,kc.1 _ _ h11,kc.1 _ _ (s11 _ _ ht10),((av9.mono ka.1).mono kc.1)⟩ ((pr7.mono kb.1).mono kc.1),by rw [List.length_append,ln7]; rfl,fun q hq=>?_,by rw [ao sp.symm]; exact s11 _ _ hp10,hb10.mono (by omega),fun c o e hc hcs=>?_⟩
       ·rcases List.mem_append.mp hq with z | z
        ·exact ok7 q z
        ·rw [List.mem_singleton.mp z]
         exact ⟨ox9,sx9,le10,nn10,by show es9.sum + cj=ci + r2; omega,by show es9.sum <= 4; omega⟩
       ·rw [ao hcs]
        exact s11 _ _ (kp10 c o (kp9 c o (kp7 c o e hc hcs) hc) hc)
      ·rintro σ H7 ⟨ts,ps,a7,b7,y13,y14,rfl,hs7,pr7,ln7,ok7,hp7,hb7,kp7⟩
       exact hR _ _ ⟨ts,ps,a7,b7,_,_,rfl,hs7,pr7,by omega,ok7,hp7,hb7.mono (by omega),fun c o e hc=>kp7 c o (k6 c o (s5 c o e) hc) hc (ah e ns)⟩
     ·rw [decide_eq_false h2]
      exact aO (hR _ _ ⟨[],[],a4,b4,_,_,rfl,hs5,.nil,by decide,fun q hq=>absurd hq (by simp),hp5,hb4.mono (by omega),none5⟩)
    ·rw [decide_eq_false h1]
     exact aO ⟨_,rfl,aO (hR _ _ ⟨[],[],a4,b4,_,_,rfl,hs5,.nil,by decide,fun q hq=>absurd hq (by simp),hp5,hb4.mono (by omega),none5⟩)⟩
   rintro σ' H6 ⟨ts,ps,a6,b6,x13',x14',rfl,hs6,pr6,ln6,ok6,hp6,hb6,kp6⟩
   have hr6:=kp6 _ _ hr4 rp
   refine ⟨_,rfl,.inl ⟨rfl,_,SqL.of hr6⟩,?_⟩
   refine ⟨_,rfl,_,rfl,so,P,ts,ps,rfl,hP,hs6,pr6,by omega,mY hP ln6 ok6,fun d rs out H7 nd s7 hd po is=>?_⟩
   have hr7:=s7 _ _ hr6
   have dp:d ≠ p:=(ah hp6 nd).symm
   have dr:d ≠ r:=(ah hr6 nd).symm
   refine ⟨r,_,_,rfl,rfl,hr7,by rw [les,lrow,sizeLine_eq]; omega,?_⟩
   have ka:KeepA [p,r] H4 (upd H7 r (.lst (es ++ [.ref d]))):=((KeepA.bag hp4 kp6 (by simp)).trans (.of s7)).trans (KeepA.put hr7 (by simp))
   have kb:KeepA [p,r] H7 (upd H7 r (.lst (es ++ [.ref d]))):=KeepA.put hr7 (by simp)
   refine ⟨es ++ [.ref d],row ++ [out],a6,b6,_,_,_,_,_,rfl,ac,bg ?_ (ap (fun _ _=>EntF.keep hp ka) pr4),?_,by rw [ao rp.symm]; exact s7 _ _ hp6,hb6.mono (by omega),fun c o e hc=>?_⟩
   ·exact ⟨d,rs,rfl,bw (fun c o e hc=>kp6 c o (kp4 c o (k2 c o e hc) hc) hc) hp6 nd,dr,by rw [ao dr]; exact hd,po.mono kb.1⟩
   ·rw [List.take_add_one,ecj]
    exact bg (ent_drawn hP ln6 ok6 is) ok4
   ·rw [ao (ah e nr)]
    exact s7 _ _ (kp6 c o (kp4 c o e hc) hc)
  rintro σ H4 ⟨es,row,a4,b4,x10,x11,x12,x13,x14,rfl,hr4,pr4,ok4,hp4,hb4,kp4⟩
  have k04:∀ c o,H c=some o->c ≠ p->H4 c=some o:=fun c o e hc=>kp4 c o (k2 c o e hc) hc
  have hr0:H r=none:=by
   cases e:H r with
   | none=>rfl
   | some o=>rw [k2 r o e rp] at nr; cases nr
  rw [List.length_map] at ok4 hb4
  rw [List.take_length] at ok4
  have lrow:row.length=cs.length:=(Paired.length ok4).symm
  have les:es.length=row.length:=Paired.length pr4
  refine ⟨_,rfl,_,rfl,c,r,P,cs,es,row,rfl,k04 _ _ hc cp,hr4,ap (fun _ _=>EntF.ent) pr4,by omega,fun H5 s5=>⟨rfl,_,rfl,?_⟩⟩
  have hp5:=s5 _ _ hp4
  have hr5:=s5 _ _ hr4
  have pr5:Paired (EntF H r P H5) es row:=ap (fun _ _=>EntF.keep hp (.of s5)) pr4
  cases hlv:aX cs row with
  | some hv=>
   have e1:bA cs row=.int hv:=by unfold bA; rw [hlv]
   rw [e1]
   refine aO ⟨_,rfl,q r es row a4 b4 H5 hr0 hr5 pr5 ⟨ci + r2,ok4,?_⟩ hp5 (hb4.mono (by omega)) fun c o e hc=>s5 _ _ (k04 c o e hc)⟩
   have hn:¬ ∀ e ∈ row,e=[]:=fun z=>by rw [(dQ lrow).mpr z] at hlv; cases hlv
   exact Classical.byContradiction fun z=>hn fun e he=>Classical.byContradiction fun z2=>z ⟨e,he,z2⟩
  | none=>
   have e1:bA cs row=.non:=by unfold bA; rw [hlv]
   have hall:=(dQ lrow).mp hlv
   rw [e1]
   refine aH ⟨_,rfl,_,rfl,_,rfl,_,rfl,c,_,_,_,rfl,rfl,SqL.of (s5 _ _ (k04 _ _ hc cp)),bN eciV,_,_,rfl,rfl,_,rfl,p,L,_,a4,b4,_,rfl,L1,L4,by omega,by omega,hp5,hb4,by omega,fun t es6 a6 b6 H6 le6 nn6 sm6 ht6 hp6 hb6 kp6=>?_⟩
   refine ⟨_,rfl,P,rfl,hP,fun u7 H7 s7 a7=>⟨(by show 2 <= sizeLine; decide),fun t8 n8=>⟨(by show 1 <= sizeLine; decide),fun l9 n9=>?_⟩⟩⟩
   have s8:=Same.new (o:=.tup [.ref t,u7]) n8
   have h8:(upd H7 t8 (.tup [.ref t,u7])) t8=some (.tup [.ref t,u7]):=ac
   generalize upd H7 t8 (.tup [.ref t,u7])=H8 at *
   have s9:=Same.new (o:=.lst [.ref t8]) n9
   have h9:(upd H8 l9 (.lst [.ref t8])) l9=some (.lst [.ref t8]):=ac
   have hp8:=s8 _ _ (s7 _ _ hp6)
   have lp9:l9 ≠ p:=(ah hp8 n9).symm
   have hr8:=s8 _ _ (s7 _ _ (kp6 _ _ hr5 rp))
   have lr9:l9 ≠ r:=(ah hr8 n9).symm
   generalize upd H8 l9 (.lst [.ref t8])=H9 at *
   have hr9:=s9 _ _ hr8
   refine ⟨_,rfl,_,rfl,r,es,_,i,rfl,rfl,hr9,ixN_nat (by omega),?_⟩
   have ka:KeepA [p,r] H5 H9:=(KeepA.bag hp5 kp6 (by simp)).trans (.of ((s7.trans s8).trans s9))
   have kb:KeepA [p,r] H9 (upd H9 r (.lst (es.set i (.ref l9)))):=KeepA.put hr9 (by simp)
   have hm:es6.sum=r2:=by omega
   have e6:EntOk P L 110 (ci + r2) ci [(es6,(1,1))]:=by
    refine ⟨⟨List.pairwise_singleton _ _,fun q hq=>?_⟩,by show 1 <= 3; decide,fun q hq=>?_⟩
    ·rw [List.mem_singleton.mp hq]
     refine ⟨?_,⟨Nat.one_lt_two_pow (by decide),Nat.one_lt_two_pow (by decide)⟩,(by show decide (((1:Int),(1:Int)) ≠ (0,1))=true; decide),le6,nn6⟩
     by_cases h0:P=0
     ·exact .inl ⟨h0,(by show (0:Int) < 1; decide),(by show Int.gcd 1 1=1; decide)⟩
     ·exact .inr ⟨h0,(by show (0:Int) <= 1; decide),(by show 1 < P; omega),rfl⟩
    ·rw [List.mem_singleton.mp hq]
     exact ⟨by show es6.sum + ci=ci + r2; omega,by show es6.sum <= 4; omega⟩
   refine ⟨_,rfl,q r (es.set i (.ref l9)) (row.set i [(es6,(1,1))]) a6 b6 _ hr0 ac (jg ?_ i (ap (fun _ _=>EntF.keep hp (ka.trans kb)) pr5)) ⟨ci + r2,ki ok4 eci e6,[(es6,(1,1))],?_,by simp⟩ (by rw [ao rp.symm]; exact s9 _ _ hp8) (hb6.mono (by omega)) fun c o e hc=>?_⟩
   ·exact ⟨l9,_,rfl,bw (fun c o e hc=>s8 _ _ (s7 _ _ (kp6 c o (s5 _ _ (k04 c o e hc)) hc))) hp8 n9,lr9,by rw [ao lr9]; exact h9,.cons ⟨t8,t,u7,rfl,kb.1 _ _ (s9 _ _ h8),kb.1 _ _ (s9 _ _ (s8 _ _ (s7 _ _ ht6))),(((a7.same s8).same s9).mono kb.1)⟩ .nil⟩
   ·exact List.mem_set (by omega) _
   ·rw [ao (fun z=>by rw [z,hr0] at e; cases e)]
    exact s9 _ _ (s8 _ _ (s7 _ _ (kp6 c o (s5 _ _ (k04 c o e hc)) hc)))
end
theorem nd_7:(["_law_a", "_law_b"]:List Str).Nodup:=by decide +kernel
def gm (a b:List Int):List Int:=List.zipWith (· + ·) a b
def kP (P:Int) (a:am) (ps:List am):List am:=ps.map fun b=>(gm a.1 b.1,jh P a.2 b.2)
def ce (P:Int) (ps qs:List am):List am:=ps.flatMap fun a=>kP P a qs
def j4:Sp:=fun vs H Q _=>∃ (l l2:Addr) (P:Int) (ts us:List V) (ps qs:List am),vs=[.int P,.ref l,.ref l2]/\PrimeOk P/\H l=some (.lst ts)/\PartsR P H ts ps/\H l2=some (.lst us)/\PartsR P H us qs/\ps.length * qs.length <= 60/\(∀ p ∈ ps,OkN P p.2/\Sz 1900 p.2/\p.1.length <= 10)/\(∀ p ∈ qs,OkN P p.2/\Sz 1900 p.2)/\fj P (ce P ps qs)/\
 ∀ (d:Addr) (rs:List V) (out:List am) (H':Hp),H d=none->Same H H'->H' d=some (.lst rs)->PartsR P H' rs out->IsSum P (ce P ps qs) out->Q (.ref d) H'
theorem iV (P:Int) (ps qs:List am):(ce P ps qs).length=ps.length * qs.length:=by
 unfold ce kP
 induction ps with
 | nil=>simp
 | cons a r ih=>
  rw [List.flatMap_cons,List.length_append,ih,List.length_map,List.length_cons,Nat.add_mul]
  omega
theorem prods_snoc (P:Int) (ps:List am) (a:am) (qs:List am):ce P (ps ++ [a]) qs=ce P ps qs ++ kP P a qs:=by
 unfold ce
 rw [List.flatMap_append]
 simp
section
variable {P:Program} {w:World} {K:Frag} {mg:Str->Option Value} {base:Heap}
theorem sc__law_sum_times:FnScope ["_law_prime_here", "_law_one", "_law_other", "_law_parts", "_law_product_here", "_law_number_here", "_law_there", "_law_second"] ["_law_prime_here", "_law_one", "_law_other"] (al cL):=.i
set_option maxHeartbeats 1000000 in
theorem ok_ltimesS {f:Addr} {fd:FuncData} (F:Fun K "_law_sum_times" "_law_sum_times" cL f fd) (T:Blt mg) (G_law_times:FnB P w K mg base 2 "_law_times" (spLOp jh)) (G_law_sum:FnB P w K mg base 4 "_law_sum" mn):aI P w K mg base CX0 5 f fd ["_law_prime_here", "_law_one", "_law_other"] j4:=by
 refine F.ok sc__law_sum_times (fun vs H Q E h=>?_) (fun cdv A outer s H vs Q E hr h=>?_)
 ·obtain ⟨l,l2,P,ts,us,ps,qs,rfl,_⟩:=h
  rfl
 ·obtain ⟨l,l2,P,ts,us,ps,qs,rfl,hP,hl,pr,hl2,pr2,hn,okp,okq,sok,q⟩:=h
  refine ⟨_,(ag (aA (i:=3) sc__law_sum_times.nd rfl (Or.inl rfl) (bb af))
(ag (dh PassesOwn.never rfl (aZ K rfl (pv 1)) (dJ K (i:=4) (j:=5) rfl rfl sc__law_sum_times.nd rfl rfl rfl rfl)
(ak (dh PassesOwn.never rfl (aZ K rfl (pv 2)) (dJ K (i:=6) (j:=7) rfl rfl sc__law_sum_times.nd rfl rfl rfl rfl)
(ak (gg (lD PySem.F.plainAttrs_list PySem.F.slot_list_append PySem.F.type_list_append cQ (pv 3) (aa (bM (aa (f6 K T (by exact bj (N:=["_law_a", "_law_b"]) (src:=[none,none]) rfl rfl rfl (by exact (ir K true true rfl rfl T.zip (aa (pv 4) (aa (pv 6) af)))) (fun _ _ _=>by exact ⟨by exact (dJ K (i:=0) (j:=1) rfl rfl nd_7 rfl rfl rfl rfl),bi,by exact (au aP (pv 0) (pv 1))⟩))) (aa (aw G_law_times hr.m (aa (pv 0) (aa (pv 5) (aa (pv 7) af)))) af))) af)))))))
(ak (aq (aw G_law_sum hr.m (aa (pv 0) (aa (pv 3) af))))))),?_⟩
  refine ⟨Nat.zero_le _,fun d nd=>?_⟩
  have s1:=Same.new (o:=.lst []) nd
  have hd1:(upd H d (.lst [])) d=some (.lst []):=ac
  generalize upd H d (.lst [])=H1 at *
  have lt:ts.length=ps.length:=Paired.length pr
  have lu:us.length=qs.length:=Paired.length pr2
  refine ⟨_,rfl,l,rfl,⟨_,SqL.of (s1 _ _ hl)⟩,dF (xs:=ts) (fun i σ H'=>∃ (ws:List V) (x4 x5 x6 x7:Option V),σ=[some (.int P),some (.ref l),some (.ref l2),some (.ref d),x4,x5,x6,x7]/\Same H H'/\H' d=some (.lst ws)/\PartsR P H' ws (ce P (ps.take i) qs)) ?_ ?_ ?_ ?_⟩
  ·exact ⟨[],none,none,none,none,rfl,s1,hd1,by rw [List.take_zero]; exact .nil⟩
  ·rintro i σ H' _ ⟨ws,x4,x5,x6,x7,rfl,sm,_⟩
   exact SqL.of (sm _ _ hl)
  ·rintro i v σ H2 hx ⟨ws,x4,x5,x6,x7,rfl,sm,hd2,pw⟩
   obtain ⟨a,ea,ta,ka,ua,rfl,h1,h2,h3⟩:=pr.at_ hx
   have ma:a ∈ ps:=List.mem_of_getElem? ea
   refine ⟨ta,_,rfl,SqT.of (sm _ _ h1),rfl,_,_,rfl,_,_,rfl,rfl,?_⟩
   refine ⟨_,rfl,l2,rfl,⟨_,SqL.of (sm _ _ hl2)⟩,dF (xs:=us) (fun j σ H'=>∃ (ws:List V) (x6 x7:Option V),σ=[some (.int P),some (.ref l),some (.ref l2),some (.ref d),some (.ref ka),some ua,x6,x7]/\Same H H'/\H' d=some (.lst ws)/\PartsR P H' ws (ce P (ps.take i) qs ++ kP P a (qs.take j))) ?_ ?_ ?_ ?_⟩
   ·exact ⟨ws,_,_,rfl,sm,hd2,by rw [List.take_zero,show kP P a []=[] from rfl,List.append_nil]; exact pw⟩
   ·rintro j σ H' _ ⟨ws,x6,x7,rfl,sm,_⟩
    exact SqL.of (sm _ _ hl2)
   ·rintro j v σ H3 hy ⟨ws3,y6,y7,rfl,sm3,hd3,pw3⟩
    obtain ⟨b,eb,tb,kb,ub,rfl,g1,g2,g3⟩:=pr2.at_ hy
    have mb:b ∈ qs:=List.mem_of_getElem? eb
    refine ⟨tb,_,rfl,SqT.of (sm3 _ _ g1),rfl,_,_,rfl,_,_,rfl,rfl,?_⟩
    refine ⟨_,rfl,.inl ⟨rfl,_,SqL.of hd3⟩,?_⟩
    have lk:(a.1.map V.int).length <= sizeLine:=by rw [List.length_map,sizeLine_eq]; have:=(okp a ma).2.2; omega
    refine ⟨_,rfl,_,rfl,ka,kb,rfl,⟨_,mt (SqT.of (sm3 _ _ h2))⟩,⟨_,mt (SqT.of (sm3 _ _ g2))⟩,comp_zip (v2 fun i j=>.int (i + j)) rfl (mt (SqT.of (sm3 _ _ h2))) (mt (SqT.of (sm3 _ _ g2))) lk (fun i x y H4 R hx hy s4 hR=>?_) (fun acc H4 hacc s4 hl4=>?_)⟩
    ·obtain ⟨z,_,rfl⟩:=fe hx
     obtain ⟨z',_,rfl⟩:=fe hy
     exact ⟨_,rfl,_,rfl,_,_,rfl,rfl,hR⟩
    ·rw [zip_v2,zw_map V.int] at hl4
     refine ⟨acc,_,rfl,SqL.of hl4,fun t5 n5=>?_⟩
     have s5:=Same.new (o:=.tup ((List.zipWith (· + ·) a.1 b.1).map V.int)) n5
     have h5:(upd H4 t5 (.tup ((List.zipWith (· + ·) a.1 b.1).map V.int))) t5=some (.tup ((List.zipWith (· + ·) a.1 b.1).map V.int)):=ac
     generalize upd H4 t5 (.tup ((List.zipWith (· + ·) a.1 b.1).map V.int))=H5 at *
     have s35:=s4.trans s5
     have sm5:=sm3.trans s35
     refine ⟨_,rfl,_,rfl,_,rfl,P,ua,ub,a.2,b.2,rfl,hP,h3.same sm5,g3.same sm5,(okp a ma).1,(okq b mb).1,(okp a ma).2.1,(okq b mb).2,fun u6 H6 s6 a6=>?_⟩
     refine ⟨(by show 2 <= sizeLine; decide),fun t7 n7=>?_⟩
     have s7:=Same.new (o:=.tup [.ref t5,u6]) n7
     have h7:(upd H6 t7 (.tup [.ref t5,u6])) t7=some (.tup [.ref t5,u6]):=ac
     generalize upd H6 t7 (.tup [.ref t5,u6])=H7 at *
     have s37:=(s35.trans s6).trans s7
     have hd7:=s37 _ _ hd3
     have lw:ws3.length <= 60:=by
      have e:=Paired.length pw3
      have e1:=iV P (ps.take i) qs
      have e2:(kP P a (qs.take j)).length=(qs.take j).length:=List.length_map _
      rw [List.length_append,e1,e2,List.length_take,List.length_take] at e
      have il:i < ps.length:=(List.getElem?_eq_some_iff.mp ea).1
      have jl:j < qs.length:=(List.getElem?_eq_some_iff.mp eb).1
      rw [Nat.min_eq_left (Nat.le_of_lt il),Nat.min_eq_left (Nat.le_of_lt jl)] at e
      have e3:(i + 1) * qs.length <= ps.length * qs.length:=Nat.mul_le_mul_right _ il
      rw [Nat.add_mul] at e3
      omega
     refine ⟨d,_,_,rfl,rfl,hd7,by rw [sizeLine_eq]; omega,?_⟩
     have kc:KeepA [d] H7 (upd H7 d (.lst (ws3 ++ [.ref t7]))):=KeepA.put hd7 (by simp)
     refine ⟨ws3 ++ [.ref t7],_,_,rfl,fun c o e=>?_,ac,?_⟩
     ·rw [ao (ah e nd)]
      exact s37 _ _ (sm3 _ _ e)
     ·have e8:kP P a (qs.take (j + 1))=kP P a (qs.take j) ++ [(gm a.1 b.1,jh P a.2 b.2)]:=by
       unfold kP
       rw [List.take_add_one,eb,List.map_append]
       rfl
      rw [e8,<- List.append_assoc]
      exact PartsR.snoc ⟨t7,t5,u6,rfl,kc.1 _ _ h7,kc.1 _ _ (s7 _ _ (s6 _ _ h5)),(a6.same s7).mono kc.1⟩ ((pw3.mono fun t xs e=>s37 _ _ e).mono kc.1)
   ·rintro σ H3 ⟨ws3,y6,y7,rfl,sm3,hd3,pw3⟩
    refine ⟨ws3,_,_,_,_,rfl,sm3,hd3,?_⟩
    rw [lu,List.take_length] at pw3
    rw [List.take_add_one,ea]
    rw [show ps.take i ++ (some a).toList=ps.take i ++ [a] from rfl,prods_snoc]
    exact pw3
  ·rintro σ H2 ⟨ws,x4,x5,x6,x7,rfl,sm,hd2,pw⟩
   rw [lt,List.take_length] at pw
   refine ⟨_,rfl,_,rfl,d,P,ws,_,rfl,hP,hd2,pw,by rw [iV]; exact hn,sok,fun dd rs out H3 n3 s3 hd3 po is=>?_⟩
   exact q dd rs out H3 (sm.free n3) (sm.trans s3) hd3 po is
end
theorem zadd_len {a b:List Int} (h:a.length=b.length):(gm a b).length=b.length:=by
 unfold gm
 rw [List.length_zipWith,h,Nat.min_self]
theorem zadd_inj {b:List Int}:∀ {a a':List Int},a.length=b.length->a'.length=b.length->gm a b=gm a' b->a=a':=by
 induction b with
 | nil=>
  intro a a' h1 h2 _
  rw [List.length_eq_zero_iff.mp h1,List.length_eq_zero_iff.mp h2]
 | cons z b ih=>
  intro a a' h1 h2 e
  cases a with
  | nil=>simp at h1
  | cons x a=>
   cases a' with
   | nil=>simp at h2
   | cons y a'=>
    have e':(x + z) :: gm a b=(y + z) :: gm a' b:=e
    injection e' with e1 e2
    rw [ih (by simpa using h1) (by simpa using h2) e2,show x=y by omega]
theorem lE:∀ {a b:List Int},a.length=b.length->(gm a b).sum=a.sum + b.sum
 | [],[],_=>rfl
 | [],_ :: _,h=>by simp at h
 | _ :: _,[],h=>by simp at h
 | x :: a,y :: b,h=>by
  show ((x + y) :: gm a b).sum=_
  rw [List.sum_cons,List.sum_cons,List.sum_cons,lE (by simpa using h)]
  omega
theorem zadd_nn:∀ {a b:List Int},(∀ e ∈ a,0 <= e)->(∀ e ∈ b,0 <= e)->∀ e ∈ gm a b,0 <= e
 | [],_,_,_,e,he=>by simp [gm] at he
 | _ :: _,[],_,_,e,he=>by simp [gm] at he
 | x :: a,y :: b,ha,hb,e,he=>by
  rcases List.mem_cons.mp (show e ∈ (x + y) :: gm a b from he) with z | z
  ·have:=ha x (by simp)
   have:=hb y (by simp)
   omega
  ·exact zadd_nn (fun e he=>ha e (by simp [he])) (fun e he=>hb e (by simp [he])) e z
structure ByOk (P L:Int) (b:List Int) (n:Int × Int):Prop where
 len:(b.length:Int)=L
 nn:∀ e ∈ b,0 <= e
 ok:OkN P n
 sz:Sz 14 n
 nz:n ≠ (0,1)
theorem prods_one (P:Int) (e:List am) (b:am):ce P e [b]=e.map fun q=>(gm q.1 b.1,jh P q.2 b.2):=by
 unfold ce kP
 induction e with
 | nil=>rfl
 | cons q r ih=>rw [List.flatMap_cons,ih]; rfl
theorem i9 {P L:Int} (hP:PrimeOk P) {S:Nat} (hS:14 <= S) {e:List am} {b:List Int} {n:Int × Int} (c:Canon P L S e) (hb:ByOk P L b n):((ce P e [(b,n)]).map (·.1)).Nodup/\∀ q ∈ ce P e [(b,n)],OkN P q.2/\Sz (S + 15) q.2/\K.nz q=true/\(q.1.length:Int)=L/\(∀ x ∈ q.1,0 <= x)/\∃ r ∈ e,q.1.sum=r.1.sum + b.sum:=by
 have hB:=hP.b
 have ln:∀ q ∈ e,q.1.length=b.length:=fun q hq=>by have:=(c.2 q hq).2.2.2.1; have:=hb.len; omega
 rw [prods_one]
 refine ⟨?_,fun q hq=>?_⟩
 ·rw [List.map_map]
  have nd:=c.nodup
  rw [List.Nodup,List.pairwise_map] at nd ⊢
  refine nd.imp_of_mem fun {x y} hx hy hxy z=>hxy (zadd_inj (ln x hx) (ln y hy) z)
 ·obtain ⟨r,hr,rfl⟩:=List.mem_map.mp hq
  obtain ⟨o,sz,nzr,len,nn⟩:=c.2 r hr
  refine ⟨okN_mul hB.1 o hb.ok,(jv hB.1 hB.2.1 o hb.ok sz hb.sz hS).2.2.mono (by omega),?_,?_,zadd_nn nn hb.nn,r,hr,lE (ln r hr)⟩
  ·have:r.2 ≠ (0,1):=of_decide_eq_true nzr
   exact decide_eq_true (mul_nz hP o hb.ok this hb.nz)
  ·show ((gm r.1 b).length:Int)=L
   rw [zadd_len (ln r hr)]
   exact hb.len
theorem ja {P L:Int} (hP:PrimeOk P) {S:Nat} (hS:14 <= S) (hS2:S + 15 <= 1900) {e:List am} {b:List Int} {n:Int × Int} (c:Canon P L S e) (hb:ByOk P L b n):fj P (ce P e [(b,n)]):=by
 obtain ⟨nd,ok⟩:=i9 hP hS c hb
 exact fH nd fun q hq=>⟨(ok q hq).1,(ok q hq).2.1.mono hS2⟩
theorem i8 {P L:Int} (hP:PrimeOk P) {S:Nat} (hS:14 <= S) {e out:List am} {b:List Int} {n:Int × Int} (c:Canon P L S e) (hb:ByOk P L b n) (is:IsSum P (ce P e [(b,n)]) out):Canon P L (S + 15) out/\out.length=e.length/\∀ q ∈ out,∃ r ∈ e,q.1.sum=r.1.sum + b.sum:=by
 obtain ⟨nd,ok⟩:=i9 hP hS c hb
 have e1:acc P (ce P e [(b,n)])=ce P e [(b,n)]:=gc nd fun q hq=>(ok q hq).1
 have e2:(ce P e [(b,n)]).filter K.nz=ce P e [(b,n)]:=List.filter_eq_self.mpr fun q hq=>(ok q hq).2.2.1
 have pm:=is.1
 rw [e1,e2] at pm
 have mem:∀ q ∈ out,q ∈ ce P e [(b,n)]:=fun q hq=>pm.mem_iff.mp hq
 refine ⟨⟨is.2,fun q hq=>?_⟩,?_,fun q hq=>(ok q (mem q hq)).2.2.2.2.2⟩
 ·have z:=ok q (mem q hq)
  exact ⟨z.1,z.2.1,z.2.2.1,z.2.2.2.1,z.2.2.2.2.1⟩
 ·rw [pm.length_eq,iV]
  simp
theorem ent_times {P L h c:Int} (hP:PrimeOk P) {S:Nat} (hS:14 <= S) {e out:List am} {b:List Int} {n:Int × Int} (k:EntOk P L S h c e) (hb:ByOk P L b n) (b1:b.sum=1) (h3:∀ q ∈ e,q.1.sum <= 3) (is:IsSum P (ce P e [(b,n)]) out):EntOk P L (S + 15) (h + 1) c out/\out.length=e.length:=by
 obtain ⟨cn,ln,sm⟩:=i8 hP hS k.1 hb is
 refine ⟨⟨cn,by rw [ln]; exact k.2.1,fun q hq=>?_⟩,ln⟩
 obtain ⟨r,hr,e1⟩:=sm q hq
 have z:=k.2.2 r hr
 have z3:=h3 r hr
 omega
theorem nd_8:(["_law_letter"]:List Str).Nodup:=by decide +kernel
theorem nd_9:(["_law_place", "_law_unit_here", "_law_at"]:List Str).Nodup:=by decide +kernel
theorem nd_10:(["_law_part", "_law_place", "_law_at"]:List Str).Nodup:=by decide +kernel
theorem nd_11:(["_law_entry"]:List Str).Nodup:=by decide +kernel
theorem nd_12:(["_law_entry", "_law_prime_here", "_law_by"]:List Str).Nodup:=by decide +kernel
def mU:Sp:=fun vs H Q _=>∃ (p c rw:Addr) (P L a b:Int) (k S:Nat) (cs:List Int) (ws:List V) (rows:List (List (List am))),vs=[.int P,.int L,.ref c,.ref rw,.ref p]/\PrimeOk P/\1 <= L/\L <= 4/\H c=some (.lst (cs.map V.int))/\c ≠ p/\1 <= cs.length/\cs.length <= 3/\H rw=some (.lst ws)/\rw ≠ p/\Paired (RowA [p] P H) ws rows/\rows ≠ []/\rows.length <= 5/\14 <= S/\S <= 1000/\(∀ row ∈ rows,RowOk P L S cs row)/\H p=some (.lst [.int a,.int b])/\BagOk a b k/\k <= 50000/\
 ∀ (r:Addr) (es:List V) (row:List (List am)) (a' b':Int) (H':Hp),H r=none->H' r=some (.lst es)->Paired (EntF H r P H') es row->RowOk P L (S + 15) cs row->H' p=some (.lst [.int a',.int b'])->BagOk a' b' (k + 50)->(∀ c o,H c=some o->c ≠ p->H' c=some o)->Q (.ref r) H'
theorem one_ok {P L:Int} (hP:PrimeOk P) {b:List Int} (h:(b.length:Int)=L) (nn:∀ e ∈ b,0 <= e):ByOk P L b (1,1):=by
 have hB:=hP.b
 refine ⟨h,nn,?_,⟨Nat.one_lt_two_pow (by decide),Nat.one_lt_two_pow (by decide)⟩,by decide⟩
 by_cases h0:P=0
 ·exact .inl ⟨h0,(by show (0:Int) < 1; decide),(by show Int.gcd 1 1=1; decide)⟩
 ·exact .inr ⟨h0,(by show (0:Int) <= 1; decide),(by show 1 < P; omega),rfl⟩
theorem ent_unit {P L h c:Int} (hP:PrimeOk P) {b:List Int} (hl:(b.length:Int)=L) (nn:∀ e ∈ b,0 <= e) (hs:b.sum + c=h) (h4:b.sum <= 4) {S:Nat} (hS:14 <= S):EntOk P L S h c [(b,(1,1))]:=by
 have z:=one_ok hP hl nn
 refine ⟨⟨List.pairwise_singleton _ _,fun q hq=>?_⟩,by show 1 <= 3; decide,fun q hq=>?_⟩
 ·rw [List.mem_singleton.mp hq]
  exact ⟨z.ok,z.sz.mono hS,(by show decide (((1:Int),(1:Int)) ≠ (0,1))=true; decide),hl,nn⟩
 ·rw [List.mem_singleton.mp hq]
  exact ⟨hs,h4⟩
theorem ent_nil {P L h c:Int} {S:Nat}:EntOk P L S h c []:=⟨⟨.nil,fun q hq=>by cases hq⟩,by show 0 <= 3; decide,fun q hq=>by cases hq⟩
theorem EntF.from {H0 H0':Hp} {r:Addr} {P:Int} {H:Hp} {v:V} {e:List am} (b:∀ l,H0' l=none->H0 l=none) (h:EntF H0' r P H v e):EntF H0 r P H v e:=by
 obtain ⟨l,ts,rfl,l0,lr,hl,pr⟩:=h
 exact ⟨l,ts,rfl,b l l0,lr,hl,pr⟩
def ef (n i:Nat) (e:List am):List (List am):=(List.range n).map fun j=>if j=i then e else []
theorem mT (n i:Nat) (e:List am):ef (n + 1) i e=ef n i e ++ [if n=i then e else []]:=by
 unfold ef
 rw [List.range_succ,List.map_append]
 rfl
theorem unitRow_ok {P L:Int} {S:Nat} {h:Int} {e:List am} {i:Nat} {ci:Int}:∀ {cs:List Int},cs[i]? = some ci->EntOk P L S h ci e->Paired (EntOk P L S h) cs (ef cs.length i e):=by
 intro cs hi he
 have go:∀ (cs:List Int) (k:Nat),(∀ j c,cs[j]? = some c->k + j=i->c=ci)->Paired (EntOk P L S h) cs ((List.range cs.length).map fun j=>if k + j=i then e else []):=by
  intro cs
  induction cs with
  | nil=>intro k _; exact .nil
  | cons c r ih=>
   intro k hc
   rw [List.length_cons,List.range_succ_eq_map,List.map_cons,List.map_map]
   refine .cons ?_ ?_
   ·by_cases z:k + 0=i
    ·rw [if_pos z,hc 0 c rfl z]
     exact he
    ·rw [if_neg z]
     exact ent_nil
   ·have z:=ih (k + 1) fun j c' hj hk=>hc (j + 1) c' hj (by omega)
    have e1:((fun j=>if k + j=i then e else []) ∘ Nat.succ)=fun j=>if k + 1 + j=i then e else []:=by
     funext j
     show (if k + (j + 1)=i then e else [])=_
     rw [show k + (j + 1)=k + 1 + j by omega]
    rw [e1]
    exact z
 have z:=go cs 0 fun j c hj hk=>by
  rw [Nat.zero_add] at hk
  subst hk
  rw [hi] at hj
  exact (Option.some.inj hj).symm
 unfold ef
 simpa using z
section
variable {P:Program} {w:World} {K:Frag} {mg:Str->Option Value} {base:Heap}
theorem sc__law_again_row:FnScope ["_law_prime_here", "_law_letters", "_law_columns_here", "_law_rows", "_law_bag_here", "_law_row", "_law_way", "_law_at", "_law_unit_here", "_law_by"] ["_law_prime_here", "_law_letters", "_law_columns_here", "_law_rows", "_law_bag_here"] (al cK):=.i
set_option maxHeartbeats 4000000 in
theorem ok_again {f:Addr} {fd:FuncData} (F:Fun K "_law_again_row" "_law_again_row" cK f fd) (T:Blt mg) (G_law_take:FnB P w K mg base 1 "_law_take" cF) (G_law_number:FnB P w K mg base 4 "_law_number" iQ) (G_law_product:FnB P w K mg base 2 "_law_product" mj) (G_law_sum_times:FnB P w K mg base 5 "_law_sum_times" j4) (G_law_nought:FnB P w K mg base 1 "_law_nought" jY) (G_law_unit:FnB P w K mg base 1 "_law_unit" mK) :
  aI P w K mg base CX0 6 f fd ["_law_prime_here", "_law_letters", "_law_columns_here", "_law_rows", "_law_bag_here"] mU:=by
 refine F.ok sc__law_again_row (fun vs H Q E h=>?_) (fun cdv A outer s H vs Q E hr h=>?_)
 ·obtain ⟨p,c,rw,P,L,a,b,k,S,cs,ws,rows,rfl,_⟩:=h
  rfl
 ·obtain ⟨p,c,rw,P,L,a,b,k,S,cs,ws,rows,rfl,hP,L1,L4,hc,cp,c1,c3,hrw,rwp,prs,rne,r5,hS,hS2,okr,hp,hb,hk,q⟩:=h
  have hB:=hP.b
  have lw:ws.length=rows.length:=Paired.length prs
  have lpos:1 <= rows.length:=by
   cases rows with
   | nil=>exact absurd rfl rne
   | cons x r=>rw [List.length_cons]; omega
  refine ⟨_,(ag (aA (i:=5) sc__law_again_row.nd rfl (Or.inl rfl) (aE (aD K rfl) (pv 3) (aw G_law_take hr.m (aa (pv 4) (aa (bo K T (pv 3)) af))) (fun _ _=>rfl)))
(ag (aA (i:=6) sc__law_again_row.nd rfl (Or.inl rfl) (aw G_law_take hr.m (aa (pv 4) (aa ae af))))
(ag (aJ (az bH (pv 6) ae (ar _))
(ag (aA (i:=7) sc__law_again_row.nd rfl (Or.inr rfl) (aw G_law_take hr.m (aa (pv 4) (aa (bo K T (pv 2)) af))))
(ag (aA (i:=8) sc__law_again_row.nd rfl (Or.inr rfl) (bb (aa (bM (aa (f6 K T (by exact bj (N:=["_law_letter"]) (src:=[none]) rfl rfl rfl (by exact (cR rfl T.range (aa (pv 1) af))) (fun _ _ _=>by exact ⟨by exact (bU (i:=0) nd_8 rfl rfl),bi,by exact ae⟩))) (aa (aw G_law_unit hr.m (aa (pv 0) af)) af))) af)))
(ak (aq (by exact pe_compC (N:=["_law_place", "_law_unit_here", "_law_at"]) (src:=[none,some 8,some 7]) rfl rfl rfl (by exact (cR rfl T.range (aa (bo K T (pv 2)) af))) (fun _ _ _=>by exact ⟨by exact (aM (i:=0) nd_9 rfl (Or.inr rfl)),bi,by exact (by exact bj (N:=["_law_part", "_law_place", "_law_at"]) (src:=[none,some 0,some 2]) rfl rfl rfl (by exact (aZ K rfl (pv 1))) (fun _ _ _=>by exact ⟨by exact (bU (i:=0) nd_10 rfl rfl),(fg (az bH (pv 1) (pv 2) (ar _))),by exact (pv 0)⟩))⟩))))))
aB)
(ag (aJ (PW.pt (bR (az bH (pv 6) ae (ar _)) (bL (az dR (kh T (by exact bj (N:=["_law_entry"]) (src:=[none]) rfl rfl rfl (by exact (aZ K rfl (pv 5))) (fun _ _ _=>by exact ⟨by exact (bU (i:=0) nd_11 rfl rfl),(fg (az (kneD K rfl hr.units) (pv 0) (bb af) (ar _))),by exact (iF K T (aE (aF K rfl) (aE (aD K rfl) (pv 0) ae (fun _ _=>rfl)) ae (fun _ _=>rfl)) true)⟩)) false) ae (ar _)))))
(ak (aq (by exact bj (N:=["_law_entry"]) (src:=[none]) rfl rfl rfl (by exact (aZ K rfl (pv 5))) (fun _ _ _=>by exact ⟨by exact (bU (i:=0) nd_11 rfl rfl),bi,by exact (kpl_list K T (pv 0))⟩))))
aB)
(ag (aA (i:=9) sc__law_again_row.nd rfl (Or.inr rfl) (bb (aa (bM (aa (aw G_law_product hr.m (aa (pv 1) (aa ae (aa (pv 4) af)))) (aa (aw G_law_number hr.m (aa (pv 0) (aa (pv 4) (aa bQ af)))) af))) af)))
(ag (aJ (az (keqD K rfl hr.units) (aE (aF K rfl) (aE (aD K rfl) (pv 9) ae (fun _ _=>rfl)) ae (fun _ _=>rfl)) (aw G_law_nought hr.m (aa (pv 0) af)) (ar _))
(ak (aA (i:=9) sc__law_again_row.nd rfl (Or.inr rfl) (bb (aa (bM (aa (aE (aF K rfl) (aE (aD K rfl) (pv 9) ae (fun _ _=>rfl)) ae (fun _ _=>rfl)) (aa (aw G_law_unit hr.m (aa (pv 0) af)) af))) af))))
aB)
(ak (aq (by exact bj (N:=["_law_entry", "_law_prime_here", "_law_by"]) (src:=[none,some 0,some 9]) rfl rfl rfl (by exact (aZ K rfl (pv 5))) (fun _ _ _=>by exact ⟨by exact (bU (i:=0) nd_12 rfl rfl),bi,by exact (aw G_law_sum_times hr.m (aa (pv 1) (aa (pv 0) (aa (pv 2) af))))⟩)))))))))),?_⟩
  refine ⟨_,rfl,_,rfl,_,rfl,rw,ws,rfl,.inl (SqL.of hrw),p,a,b,_,k,rfl,hp,hb,by omega,by omega,aC (by omega) (by omega),fun r1 a1 b1 r10 r11 hb1=>?_⟩
  have k1:∀ c o,H c=some o->c ≠ p->upd H p (.lst [.int a1,.int b1]) c=some o:=fun c o e hc=>by rw [ao hc]; exact e
  have hp1:(upd H p (.lst [.int a1,.int b1])) p=some (.lst [.int a1,.int b1]):=ac
  generalize upd H p (.lst [.int a1,.int b1])=H1 at *
  obtain ⟨i,rfl⟩:=Int.eq_ofNat_of_zero_le r10
  have hi:i < ws.length:=by omega
  obtain ⟨v,ev⟩:∃ v,ws[i]? = some v:=⟨_,List.getElem?_eq_getElem hi⟩
  obtain ⟨row,er,r,es,rfl,rp,hr1,pe⟩:=aG prs ev
  obtain ⟨ht,okh,e0,me0,ne0⟩:=okr row (List.mem_of_getElem? er)
  have rp:r ≠ p:=by simpa using rp
  have lrow:row.length=cs.length:=(Paired.length okh).symm
  have les:es.length=row.length:=Paired.length pe
  refine ⟨rw,ws,_,_,rfl,rfl,SqL.of (k1 _ _ hrw rwp),bN ev,?_⟩
  refine ⟨_,rfl,p,a1,b1,4,k + 1,rfl,hp1,hb1,by omega,by decide,aC (by decide) (by decide),fun wy a2 b2 wy0 wy1 hb2=>?_⟩
  have k2:∀ c o,H c=some o->c ≠ p->upd H1 p (.lst [.int a2,.int b2]) c=some o:=fun c o e hc=>by rw [ao hc]; exact k1 c o e hc
  have hp2:(upd H1 p (.lst [.int a2,.int b2])) p=some (.lst [.int a2,.int b2]):=ac
  generalize upd H1 p (.lst [.int a2,.int b2])=H2 at *
  have ka2:KeepA [p] H H2:=KeepA.bag hp k2 (by simp)
  have hr2:=k2 _ _ hr1 rp
  have pe2:Paired (EntA [p] P H2) es row:=ap (fun _ _=>EntA.keep ka2) pe
  refine ⟨_,rfl,rfl,_,rfl,bD (fun h=>?_) (fun h=>?_)⟩
  ·refine ⟨_,rfl,_,rfl,c,_,rfl,.inl (SqL.of (k2 _ _ hc cp)),p,a2,b2,_,k + 2,rfl,hp2,hb2,by omega,by rw [List.length_map]; omega,by rw [List.length_map]; exact aC (by omega) (by omega),fun at3 a3 b3 r30 r31 hb3=>?_⟩
   have k3:∀ c o,H c=some o->c ≠ p->upd H2 p (.lst [.int a3,.int b3]) c=some o:=fun c o e hc=>by rw [ao hc]; exact k2 c o e hc
   have hp3:(upd H2 p (.lst [.int a3,.int b3])) p=some (.lst [.int a3,.int b3]):=ac
   generalize upd H2 p (.lst [.int a3,.int b3])=H3 at *
   obtain ⟨ai,rfl⟩:=Int.eq_ofNat_of_zero_le r30
   rw [List.length_map] at r31
   obtain ⟨ci,eci⟩:∃ ci,cs[ai]? = some ci:=⟨_,List.getElem?_eq_getElem (by omega)⟩
   refine ⟨_,rfl,L,rfl,by omega,by omega,be (n:=L.toNat) (σ0:=[none]) rfl (fun acc i ws σ H'=>∃ u:Option V,σ=[u]/\Same H3 H'/\ws=(List.replicate i (0:Int)).map V.int) (by rw [sizeLine_eq]; omega) (fun acc hacc=>⟨none,rfl,Same.new hacc,rfl⟩) ?_ ?_ ?_ ?_⟩
   ·rintro acc i ws σ H' hacc hi hz _
    exact hi
   ·rintro acc ws σ H' hacc hz _
    exact Nat.le_refl _
   ·rintro acc j ws σ H' x H'' hacc hj hz hzl ⟨u,rfl,sm,rfl⟩ ⟨rfl,rfl⟩
    refine ⟨_,hz,(by rw [sizeLine_eq]; omega),_,ac,by rw [List.length_append,List.length_singleton]; omega,_,rfl,sm.put hacc,?_⟩
    rw [List.replicate_succ',List.map_append]
    rfl
   rintro acc ws σ H4 hacc hz hzl ⟨u,rfl,s4,rfl⟩
   refine ⟨acc,_,rfl,SqL.of hz,fun c5 n5=>?_⟩
   have s5:=Same.new (o:=.tup ((List.replicate L.toNat (0:Int)).map V.int)) n5
   have h5:(upd H4 c5 (.tup ((List.replicate L.toNat (0:Int)).map V.int))) c5=some (.tup ((List.replicate L.toNat (0:Int)).map V.int)):=ac
   generalize upd H4 c5 (.tup ((List.replicate L.toNat (0:Int)).map V.int))=H5 at *
   refine ⟨_,rfl,P,rfl,hP,fun u6 H6 s6 a6=>⟨(by show 2 <= sizeLine; decide),fun t7 n7=>⟨(by show 1 <= sizeLine; decide),fun l8 n8=>?_⟩⟩⟩
   have s7:=Same.new (o:=.tup [.ref c5,u6]) n7
   have h7:(upd H6 t7 (.tup [.ref c5,u6])) t7=some (.tup [.ref c5,u6]):=ac
   generalize upd H6 t7 (.tup [.ref c5,u6])=H7 at *
   have s8:=Same.new (o:=.lst [.ref t7]) n8
   have h8:(upd H7 l8 (.lst [.ref t7])) l8=some (.lst [.ref t7]):=ac
   generalize upd H7 l8 (.lst [.ref t7])=H8 at *
   have s38:=(((s4.trans s5).trans s6).trans s7).trans s8
   have k8:∀ c o,H c=some o->c ≠ p->H8 c=some o:=fun c o e hc=>s38 _ _ (k3 c o e hc)
   have hp8:=s38 _ _ hp3
   have zl:((List.replicate L.toNat (0:Int)).length:Int)=L:=by rw [List.length_replicate]; omega
   have zn:∀ e ∈ List.replicate L.toNat (0:Int),0 <= e:=fun e he=>by rw [List.eq_of_mem_replicate he]; decide
   have zs:(List.replicate L.toNat (0:Int)).sum=0:=by simp
   have pu:PartR P H8 (.ref t7) (List.replicate L.toNat 0,(1,1)):=⟨t7,c5,u6,rfl,s8 _ _ h7,s8 _ _ (s7 _ _ (s6 _ _ h5)),(a6.same s7).same s8⟩
   refine ⟨_,rfl,c,_,rfl,.inl (SqL.of (k8 _ _ hc cp)),_,rfl,by omega,by rw [List.length_map]; omega,be (n:=cs.length) (σ0:=[none,some (.ref l8),some (.int (ai:Int))]) rfl (fun acc j ws σ H'=>∃ u:Option V,σ=[u,some (.ref l8),some (.int (ai:Int))]/\Same H8 H'/\Paired (EntF H acc P H') ws (ef j ai [(List.replicate L.toNat 0,(1,1))])) (by rw [sizeLine_eq]; omega) (fun acc hacc=>⟨none,rfl,Same.new hacc,.nil⟩) ?_ ?_ ?_ ?_⟩
   ·rintro acc i ws σ H' hacc hi hz _
    rw [List.length_map]
    exact hi
   ·rintro acc ws σ H' hacc hz _
    show _ <= _
    rw [List.length_map]
    omega
   ·rintro acc j ws σ H9 x H' hacc hj hz hzl ⟨u,rfl,s9,pw⟩ ⟨rfl,rfl⟩
    refine ⟨_,rfl,l8,rfl,⟨_,SqL.of (s9 _ _ h8)⟩,be (n:=1) (σ0:=[none,some (.int (0 + (j:Int))),some (.int (ai:Int))]) rfl (fun acc2 i ws2 σ H2'=>∃ u:Option V,σ=[u,some (.int (0 + (j:Int))),some (.int (ai:Int))]/\Same H' H2'/\ws2=if i=1/\j=ai then [.ref t7] else []) (by show 1 <= sizeLine; decide) (fun acc2 hacc2=>⟨none,rfl,Same.new hacc2,by simp⟩) ?_ ?_ ?_ ?_⟩
    ·rintro acc2 i ws2 σ H2' hacc2 hi hz2 ⟨u,rfl,s10,_⟩
     have:i=0:=by omega
     subst this
     exact ⟨_,.ref t7,SqL.of (s10 _ _ (s9 _ _ h8)),rfl⟩
    ·rintro acc2 ws2 σ H2' hacc2 hz2 ⟨u,rfl,s10,_⟩
     exact ⟨_,SqL.of (s10 _ _ (s9 _ _ h8)),Nat.le_refl _⟩
    ·rintro acc2 i ws2 σ H10 x2 H10' hacc2 hi hz2 hzl2 ⟨u,rfl,s10,rfl⟩ ⟨rfl,gx⟩
     have:i=0:=by omega
     subst this
     have hx:=gx _ (SqL.of (s10 _ _ (s9 _ _ h8)))
     cases hx
     refine ⟨_,rfl,_,rfl,rfl,_,rfl,bD (fun h=>?_) (fun h=>?_)⟩
     ·have hj:j=ai:=by have:=of_decide_eq_true h; injection this with this; omega
      refine ⟨_,rfl,_,hz2,(by rw [if_neg (by simp)]; show 0 < sizeLine; decide),_,ac,by rw [if_neg (by simp)]; show 1 <= 1; decide,_,rfl,s10.put hacc2,?_⟩
      rw [if_neg (by simp),if_pos ⟨rfl,hj⟩]
      rfl
     ·have hj:¬ j=ai:=fun z=>h (decide_eq_true (by rw [z]; congr 1; omega))
      refine ⟨_,hz2,by rw [if_neg (by simp)]; show 0 <= 1; decide,_,rfl,s10,?_⟩
      rw [if_neg (by simp),if_neg (fun z=>hj z.2)]
    ·rintro acc2 ws2 σ H10 hacc2 hz2 hzl2 ⟨u,rfl,s10,e2⟩
     have la:acc2 ≠ acc:=fun z=>by rw [z,hz] at hacc2; cases hacc2
     have hz3:=s10 _ _ hz
     have ka:KeepA [acc] H' (upd H10 acc (.lst (ws ++ [.ref acc2]))):=(KeepA.of s10).trans (KeepA.put hz3 (by simp))
     have kb:KeepA [acc] H10 (upd H10 acc (.lst (ws ++ [.ref acc2]))):=KeepA.put hz3 (by simp)
     have lws:ws.length=j:=by rw [Paired.length pw]; unfold ef; rw [List.length_map,List.length_range]
     refine ⟨ws,hz3,by rw [lws,sizeLine_eq]; omega,_,ac,by rw [List.length_append,List.length_singleton]; omega,_,rfl,(s9.trans s10).put hacc,?_⟩
     rw [mT]
     refine bg ?_ (ap (fun _ _=>EntF.keepA (av:=[acc]) (fun a ha=>.inl (by simpa using ha)) ka) pw)
     refine ⟨acc2,ws2,rfl,bw (fun c o e hc=>s9 _ _ (k8 c o e hc)) (s9 _ _ hp8) hacc2,la,by rw [ao la]; exact hz2,?_⟩
     rw [e2]
     by_cases hj:j=ai
     ·rw [if_pos ⟨rfl,hj⟩,if_pos hj]
      exact .cons ((pu.mono fun t xs e=>s10 _ _ (s9 _ _ e)).mono kb.1) .nil
     ·rw [if_neg (fun z=>hj z.2),if_neg hj]
      exact .nil
   ·rintro acc ws σ H9 hacc hz hzl ⟨u,rfl,s9,pw⟩
    refine q acc ws _ a3 b3 H9 (bw k8 hp8 hacc) hz pw ⟨ci,unitRow_ok eci (ent_unit hP zl zn (by rw [zs]; omega) (by rw [zs]; decide) (by omega)),[(List.replicate L.toNat 0,(1,1))],?_,by simp⟩ (s9 _ _ hp8) (hb3.mono (by omega)) fun c o e hc=>s9 _ _ (k8 c o e hc)
    unfold ef
    refine List.mem_map.mpr ⟨ai,List.mem_range.mpr (by omega),if_pos rfl⟩
  have er2:Paired (EntR P H2) es row:=ap (fun _ _=>EntA.ent) pe2
  have okS:RowOk P L (S + 15) cs row:=RowOk.mono ⟨ht,okh,e0,me0,ne0⟩ (by omega)
  refine ⟨_,rfl,rfl,_,rfl,bD (fun h1=>aH ?_) (fun h1=>?_)⟩
  ·refine ⟨_,rfl,r,rfl,⟨_,SqL.of hr2⟩,copy_go rfl hr2 er2 (by omega) fun acc es' H3 hacc s3 h3 pw=>?_⟩
   exact q acc es' row a2 b2 H3 (bw k2 hp2 hacc) h3 (ap (fun _ _=>EntF.from fun l z=>bw k2 hp2 z) pw) okS (s3 _ _ hp2) (hb2.mono (by omega)) fun c o e hc=>s3 _ _ (k2 c o e hc)
  refine ⟨_,rfl,r,rfl,⟨_,SqL.of hr2⟩,be (n:=es.length) (σ0:=[none]) rfl (fun acc i ws σ H'=>∃ (u:Option V) (ds:List Int),σ=[u]/\Same H2 H'/\ws=ds.map V.int/\ds.length <= i/\∀ j < i,∀ q t,row[j]? = some (q :: t)->q.1.sum ∈ ds) (by rw [sizeLine_eq]; omega) (fun acc hacc=>⟨none,[],rfl,Same.new hacc,rfl,Nat.le_refl _,fun j hj=>absurd hj (by omega)⟩) ?_ ?_ ?_ ?_⟩
  ·rintro acc i ws σ H' hacc hi hz ⟨u,ds,rfl,sm,_⟩
   exact ⟨es,es[i],SqL.of (sm _ _ hr2),by simp [hi]⟩
  ·rintro acc ws σ H' hacc hz ⟨u,ds,rfl,sm,_⟩
   exact ⟨es,SqL.of (sm _ _ hr2),Nat.le_refl _⟩
  ·rintro acc i ws σ H3 x H' hacc hi hz hzl ⟨u,ds,rfl,sm,rfl,ld,hd⟩ ⟨rfl,gx⟩
   have hx:=gx es (SqL.of (sm _ _ hr2))
   obtain ⟨e,ee,l,ts,rfl,hl,pe'⟩:=aG er2 hx
   refine ⟨_,rfl,Nat.zero_le _,fun l4 n4=>?_⟩
   have s4:=Same.new (o:=.lst []) n4
   have h4:(upd H' l4 (.lst [])) l4=some (.lst []):=ac
   generalize upd H' l4 (.lst [])=H4 at *
   have sm4:=sm.trans s4
   refine ⟨dS P e,dS P [],eh (sm4 _ _ hl) (pe'.mono fun t xs e=>sm4 _ _ e),eh h4 .nil,ba _ _,ba _ _,_,rfl,?_⟩
   rw [fZ]
   cases e with
   | nil=>
    refine aO ⟨_,s4 _ _ hz,by rw [List.length_map]; omega,_,ds,rfl,sm4,rfl,by omega,fun j hj q t hjt=>?_⟩
    by_cases h:j < i
    ·exact hd j h q t hjt
    ·have:j=i:=by omega
     subst this
     rw [ee] at hjt
     cases hjt
   | cons q0 t0=>
    cases pe' with
    | cons pq pt=>
     obtain ⟨tq,kq,uq,rfl,g1,g2,g3⟩:=pq
     refine aH ⟨_,rfl,l,_,_,_,rfl,rfl,SqL.of (sm4 _ _ hl),iG _ _,tq,_,_,_,rfl,rfl,SqT.of (sm4 _ _ g1),rfl,kq,_,rfl,mt (SqT.of (sm4 _ _ g2)),?_⟩
     refine ⟨_,s4 _ _ hz,by rw [List.length_map,sizeLine_eq]; omega,_,ac,by rw [List.length_append,List.length_map,List.length_singleton]; omega,_,ds ++ [q0.1.sum],rfl,sm4.put hacc,by rw [List.map_append]; rfl,by rw [List.length_append,List.length_singleton]; omega,fun j hj q t hjt=>?_⟩
     by_cases h:j < i
     ·exact List.mem_append_left _ (hd j h q t hjt)
     ·have:j=i:=by omega
      subst this
      rw [ee] at hjt
      cases hjt
      simp
  rintro acc ws σ H3 hacc hz hzl ⟨u,ds,rfl,s3,rfl,ld,hd⟩
  have dmem:∀ e ∈ row,∀ q t,e=q :: t->q.1.sum ∈ ds:=fun e he q t z=>by
   obtain ⟨j,hj,rfl⟩:=List.getElem_of_mem he
   exact hd j (by omega) q t (by rw [List.getElem?_eq_getElem hj,z])
  have dne:ds ≠ []:=by
   cases e0 with
   | nil=>exact absurd rfl ne0
   | cons q0 t0=>
    intro z
    have:=dmem _ me0 q0 t0 rfl
    rw [z] at this
    cases this
  have hp3:=s3 _ _ hp2
  have hr3:=s3 _ _ hr2
  have er3:Paired (EntR P H3) es row:=ap (fun _ _=>EntR.same s3) er2
  have k3:∀ c o,H c=some o->c ≠ p->H3 c=some o:=fun c o e hc=>s3 _ _ (k2 c o e hc)
  refine ⟨acc,ds,rfl,bZ (SqL.of hz),dne,fun m hm hmx=>⟨_,_,rfl,rfl,_,rfl,bD (fun h2=>?_) (fun h2=>?_)⟩⟩
  ·refine ⟨_,rfl,r,rfl,⟨_,SqL.of hr3⟩,copy_go rfl hr3 er3 (by omega) fun acc es' H4 hacc s4 h4 pw=>?_⟩
   exact q acc es' row a2 b2 H4 (bw k3 hp3 hacc) h4 (ap (fun _ _=>EntF.from fun l z=>bw k3 hp3 z) pw) okS (s4 _ _ hp3) (hb2.mono (by omega)) fun c o e hc=>s4 _ _ (k3 c o e hc)
  have m3:m <= 3:=by
   have:¬ 3 < m:=fun z=>h2 (decide_eq_true z)
   omega
  refine ⟨_,rfl,_,rfl,p,L,1,a2,b2,k + 2,rfl,L1,L4,by decide,by decide,hp3,hb2,by omega,fun t bs a4 b4 H4 le4 nn4 sm4 ht4 hp4 hb4 kp4=>?_⟩
  refine ⟨_,rfl,_,rfl,p,P,a4,b4,_,rfl,hP,hp4,hb4,by omega,fun v x a5 b5 H5 av ox sx hp5 hb5 kp5=>?_⟩
  refine ⟨(by show 2 <= sizeLine; decide),fun t6 n6=>⟨(by show 1 <= sizeLine; decide),fun l7 n7=>?_⟩⟩
  have k45:=KeepA.bag (av:=[p]) hp4 kp5 (by simp)
  have s6:=Same.new (o:=.tup [.ref t,v]) n6
  have h6:(upd H5 t6 (.tup [.ref t,v])) t6=some (.tup [.ref t,v]):=ac
  generalize upd H5 t6 (.tup [.ref t,v])=H6 at *
  have s7:=Same.new (o:=.lst [.ref t6]) n7
  have h7:(upd H6 l7 (.lst [.ref t6])) l7=some (.lst [.ref t6]):=ac
  generalize upd H6 l7 (.lst [.ref t6])=H7 at *
  have s57:=s6.trans s7
  have p7:PartR P H7 (.ref t6) (bs,x):=⟨t6,t,v,rfl,s7 _ _ h6,s57 _ _ (k45.1 _ _ ht4),av.same s57⟩
  have k7:∀ c o,H c=some o->c ≠ p->H7 c=some o:=fun c o e hc=>s57 _ _ (kp5 c o (kp4 c o (k3 c o e hc) hc) hc)
  have hp7:=s57 _ _ hp5
  have hr7:H7 r=some (.lst es):=s57 _ _ (kp5 _ _ (kp4 _ _ hr3 rp) rp)
  have ka7:KeepA [p] H H7:=KeepA.bag hp k7 (by simp)
  have pe7:Paired (EntR P H7) es row:=ap (fun _ _ z=>(EntA.keep ka7 z).ent) pe
  dsimp only
  refine jw (t:=kg _ _ _) (fun σ' H'=>∃ (l8:Addr) (t8:Addr) (n8:Int × Int),σ'=[some (.int P),some (.int L),some (.ref c),some (.ref rw),some (.ref p),some (.ref r),some (.int wy),none,none,some (.ref l8)]/\Same H7 H'/\H' l8=some (.lst [.ref t8])/\PartR P H' (.ref t8) (bs,n8)/\ByOk P L bs n8) (fun R hR=>?_) ?_
  ·refine ⟨_,rfl,l7,_,_,_,rfl,rfl,SqL.of h7,iG _ _,t6,_,_,_,rfl,rfl,SqT.of (s7 _ _ h6),rfl,_,rfl,P,rfl,hP,fun r8 H8 s8 a8=>?_⟩
   refine ⟨dN P x,dN P (0,1),jT ((av.same s57).same s8),jT a8,cO _ _,cO _ _,_,rfl,?_⟩
   rw [jp ox (dc hB.1 hB.2.2)]
   refine bD (fun h3=>?_) (fun h3=>?_)
   ·refine ⟨_,rfl,l7,_,_,_,rfl,rfl,SqL.of (s8 _ _ h7),iG _ _,t6,_,_,_,rfl,rfl,SqT.of (s8 _ _ (s7 _ _ h6)),rfl,_,rfl,P,rfl,hP,fun u9 H9 s9 a9=>⟨(by show 2 <= sizeLine; decide),fun t10 n10=>⟨(by show 1 <= sizeLine; decide),fun l11 n11=>?_⟩⟩⟩
    have s10:=Same.new (o:=.tup [.ref t,u9]) n10
    have h10:(upd H9 t10 (.tup [.ref t,u9])) t10=some (.tup [.ref t,u9]):=ac
    generalize upd H9 t10 (.tup [.ref t,u9])=H10 at *
    have s11:=Same.new (o:=.lst [.ref t10]) n11
    refine hR _ _ ⟨l11,t10,(1,1),rfl,((s8.trans s9).trans s10).trans s11,ac,⟨t10,t,u9,rfl,s11 _ _ h10,s11 _ _ (s10 _ _ (s9 _ _ (s8 _ _ (s57 _ _ (k45.1 _ _ ht4))))),(a9.same s10).same s11⟩,one_ok hP le4 nn4⟩
   ·exact hR _ _ ⟨l7,t6,x,rfl,s8,s8 _ _ h7,p7.mono fun t xs e=>s8 _ _ e,⟨le4,nn4,ox,sz_num0 hP ox sx,fun z=>h3 (decide_eq_true z)⟩⟩
  rintro σ' H8 ⟨l8,t8,n8,rfl,s8,h8,p8,by8⟩
  have hr8:=s8 _ _ hr7
  have hp8:=s8 _ _ hp7
  have pe8:Paired (EntR P H8) es row:=ap (fun _ _=>EntR.same s8) pe7
  have k8:∀ c o,H c=some o->c ≠ p->H8 c=some o:=fun c o e hc=>s8 _ _ (k7 c o e hc)
  refine ⟨_,rfl,r,rfl,⟨_,SqL.of hr8⟩,be (n:=es.length) (σ0:=[none,some (.int P),some (.ref l8)]) rfl (fun acc i ws σ H'=>∃ (u:Option V) (row':List (List am)),σ=[u,some (.int P),some (.ref l8)]/\Same H8 H'/\Paired (EntF H acc P H') ws row'/\Paired (EntOk P L (S + 15) (ht + 1)) (cs.take i) row'/\∀ (j:Nat) (e e':List am),row[j]? = some e->row'[j]? = some e'->e'.length=e.length) (by rw [sizeLine_eq]; omega) (fun acc hacc=>⟨none,[],rfl,Same.new hacc,.nil,by rw [List.take_zero]; exact .nil,fun j e e' _ z=>by cases z⟩) ?_ ?_ ?_ ?_⟩
  ·rintro acc i ws σ H' hacc hi hz ⟨u,row',rfl,sm,_⟩
   exact ⟨es,es[i],SqL.of (sm _ _ hr8),by simp [hi]⟩
  ·rintro acc ws σ H' hacc hz ⟨u,row',rfl,sm,_⟩
   exact ⟨es,SqL.of (sm _ _ hr8),Nat.le_refl _⟩
  ·rintro acc i ws σ H9 x9 H' hacc hi hz hzl ⟨u,row',rfl,sm,pw,okw,hlen⟩ ⟨rfl,gx⟩
   have hx:=gx es (SqL.of (sm _ _ hr8))
   obtain ⟨e,ee,l,ts,rfl,hl,pe'⟩:=aG pe8 hx
   have ic:i < cs.length:=by omega
   obtain ⟨ci,eci⟩:∃ ci,cs[i]? = some ci:=⟨_,List.getElem?_eq_getElem ic⟩
   have oke:EntOk P L S ht ci e:=cP okh eci ee
   have h3e:∀ q ∈ e,q.1.sum <= 3:=fun q hq=>by
    cases e with
    | nil=>cases hq
    | cons q0 t0=>
     have z0:=hmx _ (dmem _ (List.mem_of_getElem? ee) q0 t0 rfl)
     have z1:=(oke.2.2 q hq).1
     have z2:=(oke.2.2 q0 (by simp)).1
     omega
   have lrow':row'.length=i:=by rw [<- Paired.length okw,List.length_take]; omega
   have lws:ws.length=i:=by rw [Paired.length pw,lrow']
   refine ⟨_,rfl,_,rfl,_,rfl,l,l8,P,ts,[.ref t8],e,[(bs,n8)],rfl,hP,sm _ _ hl,pe'.mono (fun t xs e=>sm _ _ e),sm _ _ h8,.cons (p8.mono fun t xs e=>sm _ _ e) .nil,(by have:=oke.2.1; show e.length * 1 <= 60; omega),fun q hq=>⟨(oke.1.2 q hq).1,(oke.1.2 q hq).2.1.mono (by omega),by have:=(oke.1.2 q hq).2.2.2.1; omega⟩,fun q hq=>by rw [List.mem_singleton.mp hq]; exact ⟨by8.ok,by8.sz.mono (by decide)⟩,ja hP hS (by omega) oke.1 by8,fun d rs out H10 nd s10 hd10 po is=>?_⟩
   obtain ⟨okt,lnt⟩:=ent_times hP hS oke by8 sm4 h3e is
   have hz10:=s10 _ _ hz
   have da:d ≠ acc:=fun z=>by rw [z,hz] at nd; cases nd
   have ka:KeepA [acc] H' (upd H10 acc (.lst (ws ++ [.ref d]))):=(KeepA.of s10).trans (KeepA.put hz10 (by simp))
   have kb:KeepA [acc] H10 (upd H10 acc (.lst (ws ++ [.ref d]))):=KeepA.put hz10 (by simp)
   refine ⟨ws,hz10,by rw [lws,sizeLine_eq]; omega,_,ac,by rw [List.length_append,List.length_singleton]; omega,_,row' ++ [out],rfl,(sm.trans s10).put hacc,bg ?_ (ap (fun _ _=>EntF.keepA (av:=[acc]) (fun a ha=>.inl (by simpa using ha)) ka) pw),?_,fun j e1 e2 z1 z2=>?_⟩
   ·exact ⟨d,rs,rfl,bw (fun c o e hc=>sm _ _ (k8 c o e hc)) (sm _ _ hp8) nd,da,by rw [ao da]; exact hd10,po.mono kb.1⟩
   ·rw [List.take_add_one,eci]
    exact bg okt okw
   ·by_cases hj:j < row'.length
    ·rw [List.getElem?_append_left hj] at z2
     exact hlen j e1 e2 z1 z2
    ·rw [List.getElem?_append_right (by omega)] at z2
     have hj0:j - row'.length=0:=by
      have:=(List.getElem?_eq_some_iff.mp z2).1
      simp at this
      omega
     rw [hj0] at z2
     have:j=i:=by omega
     subst this
     rw [ee] at z1
     cases z1
     cases z2
     exact lnt
  ·rintro acc ws σ H9 hacc hz hzl ⟨u,row',rfl,sm,pw,okw,hlen⟩
   rw [les,lrow,List.take_length] at okw
   refine q acc ws row' a5 b5 H9 (bw k8 hp8 hacc) hz pw ⟨ht + 1,okw,?_⟩ (sm _ _ hp8) (hb5.mono (by omega)) fun c o e hc=>sm _ _ (k8 c o e hc)
   obtain ⟨j,hj,rfl⟩:=List.getElem_of_mem me0
   have lr':row'.length=row.length:=by rw [<- Paired.length okw,lrow]
   have hj':j < row'.length:=by omega
   refine ⟨row'[j],List.getElem_mem hj',fun z=>ne0 ?_⟩
   have e1:=hlen j _ _ (List.getElem?_eq_getElem hj) (List.getElem?_eq_getElem hj')
   rw [z] at e1
   exact List.length_eq_zero_iff.mp e1.symm
end
theorem nd_13:(["_law_place", "_law_row"]:List Str).Nodup:=by decide +kernel
theorem nd_14:(["_law_place", "_law_entry", "_law_at"]:List Str).Nodup:=by decide +kernel
theorem pg_pairC {X:Cx} (F:Frag) {i j:Nat} {x y:Str} {p1 p2 pos:Pos} {k:Nat} (hK:X.K=F) (hc:X.calm=true) (hN:X.N.Nodup) (hi:X.N[i]? = some x) (hj:X.N[j]? = some y) (hx:Loc X.env.scope x) (fx:X.fn x=true\/X.env.scope.names.lookup x=some .local) (hy:Loc X.env.scope y) (fy:X.fn y=true\/X.env.scope.names.lookup y=some .local) :
  PG X (.Tuple [.Name x p1,.Name y p2] k pos) (gTup F 2 (iq (cI i) (iq (cI j) gNil))):=by
 subst hK
 exact gA hc (aQ (aM hN hi hx fx) (aQ (aM hN hj hy fy) eX))
def lq:Sp:=fun vs H Q _=>∃ (r:Addr) (P L:Int) (S:Nat) (cs:List Int) (es:List V) (row:List (List am)),vs=[.ref r]/\H r=some (.lst es)/\Paired (EntR P H) es row/\RowOk P L S cs row/\cs.length <= 3/\
 ∀ (r':Addr) (es':List V) (row':List (List am)) (H':Hp),H r'=none->Same H H'->H' r'=some (.lst es')->Paired (EntF H r' P H') es' row'->RowOk P L S cs row'->Q (.ref r') H'
def dX (row:List (List am)) (n i:Nat):List (List am):=(List.range n).map fun j=>if j=i then (row.getD j []).take 1 else []
theorem mP (row:List (List am)) (n i:Nat):dX row (n + 1) i=dX row n i ++ [if n=i then (row.getD n []).take 1 else []]:=by
 unfold dX
 rw [List.range_succ,List.map_append]
 rfl
theorem ent_take {P L:Int} {S:Nat} {h c:Int} {e:List am} (k:EntOk P L S h c e):EntOk P L S h c (e.take 1):=
 ⟨⟨k.1.1.sublist (List.take_sublist _ _),fun p hp=>k.1.2 p (List.mem_of_mem_take hp)⟩,by have:=k.2.1; rw [List.length_take]; omega,fun q hq=>k.2.2 q (List.mem_of_mem_take hq)⟩
theorem partRow_ok {P L:Int} {S:Nat} {h:Int} {i:Nat}:∀ {cs:List Int} {row:List (List am)},Paired (EntOk P L S h) cs row->Paired (EntOk P L S h) cs (dX row row.length i):=by
 intro cs row pr
 have go:∀ (cs:List Int) (row:List (List am)) (k:Nat),Paired (EntOk P L S h) cs row->Paired (EntOk P L S h) cs ((List.range row.length).map fun j=>if k + j=i then (row.getD j []).take 1 else []):=by
  intro cs
  induction cs with
  | nil=>intro row k pr; cases pr; exact .nil
  | cons c r ih=>
   intro row k pr
   cases pr with
   | cons he hr=>
    rename_i e rr
    rw [List.length_cons,List.range_succ_eq_map,List.map_cons,List.map_map]
    refine .cons ?_ ?_
    ·show EntOk P L S h c (if k + 0=i then e.take 1 else [])
     split
     ·exact ent_take he
     ·exact ent_nil
    ·have z:=ih rr (k + 1) hr
     have e1:((fun j=>if k + j=i then ((e :: rr).getD j []).take 1 else []) ∘ Nat.succ)=fun j=>if k + 1 + j=i then (rr.getD j []).take 1 else []:=by
      funext j
      show (if k + (j + 1)=i then ((e :: rr).getD (j + 1) []).take 1 else [])=_
      rw [show k + (j + 1)=k + 1 + j by omega]
      rfl
     rw [e1]
     exact z
 have z:=go cs row 0 pr
 unfold dX
 simpa using z
theorem cut_to1 (ts:List V):hU ts none (some 1)=ts.take 1:=by
 cases ts with
 | nil=>rfl
 | cons a r=>exact cut_hi (a :: r) 1 (by simp)
section
variable {P:Program} {w:World} {K:Frag} {mg:Str->Option Value} {base:Heap}
theorem sc__law_one_part:FnScope ["_law_row", "_law_at"] ["_law_row"] (al dm):=.i
set_option maxHeartbeats 1000000 in
theorem ok_onepart {f:Addr} {fd:FuncData} (F:Fun K "_law_one_part" "_law_one_part" dm f fd) (T:Blt mg):aI P w K mg base CX0 1 f fd ["_law_row"] lq:=by
 refine F.ok sc__law_one_part (fun vs H Q E h=>?_) (fun cdv A outer s H vs Q E hr h=>?_)
 ·obtain ⟨r,P,L,S,cs,es,row,rfl,_⟩:=h
  rfl
 ·obtain ⟨r,P,L,S,cs,es,row,rfl,hr',pr,⟨ht,okh,e0,me0,ne0⟩,c3,q⟩:=h
  have lrow:row.length=cs.length:=(Paired.length okh).symm
  have les:es.length=row.length:=Paired.length pr
  refine ⟨_,(ag (aA (i:=1) sc__law_one_part.nd rfl (Or.inr rfl) (kh T (by exact bj (N:=["_law_place", "_law_row"]) (src:=[none,some 0]) rfl rfl rfl (by exact (cR rfl T.range (aa (bo K T (pv 0)) af))) (fun _ _ _=>by exact ⟨by exact (bU (i:=0) nd_13 rfl rfl),(fg (az (kneD K rfl hr.units) (aE (aD K rfl) (pv 1) (pv 0) (fun _ _=>rfl)) (bb af) (ar _))),by exact (pv 0)⟩)) false))
(ak (aq (by exact pe_compC (N:=["_law_place", "_law_entry", "_law_at"]) (src:=[none,none,some 1]) rfl rfl rfl (by exact (kpi_enum K rfl rfl T.enum (aa (pv 0) af))) (fun _ _ _=>by exact ⟨by exact (pg_pairC K (i:=0) (j:=1) rfl rfl nd_14 rfl rfl (Or.inr rfl) (Or.inl rfl) (Or.inl rfl) (Or.inr rfl)),bi,by exact (by exact bj (N:=["_law_part", "_law_place", "_law_at"]) (src:=[none,some 0,some 2]) rfl rfl rfl (by exact (aZ K rfl (jE (bT K rfl) (pv 1) cC (l6 ae)))) (fun _ _ _=>by exact ⟨by exact (bU (i:=0) nd_10 rfl rfl),(fg (az bH (pv 1) (pv 2) (ar _))),by exact (pv 0)⟩))⟩))))),?_⟩
  refine ⟨_,rfl,r,_,rfl,.inl (SqL.of hr'),_,rfl,by omega,by omega,be (n:=es.length) (σ0:=[none,some (.ref r)]) rfl (fun acc i ws σ H'=>∃ (u:Option V) (ds:List Int),σ=[u,some (.ref r)]/\Same H H'/\ws=ds.map V.int/\ds.length <= i/\(∀ x ∈ ds,∃ (j:Nat) (e:List am),x=(j:Int)/\row[j]? = some e/\e ≠ [])/\∀ j < i,∀ q t,row[j]? = some (q :: t)->(j:Int) ∈ ds) (by rw [sizeLine_eq]; omega) (fun acc hacc=>⟨none,[],rfl,Same.new hacc,rfl,Nat.le_refl _,fun x hx=>absurd hx (by simp),fun j hj=>absurd hj (by omega)⟩) ?_ ?_ ?_ ?_⟩
  ·rintro acc i ws σ H' hacc hi hz _
   exact hi
  ·rintro acc ws σ H' hacc hz _
   exact Nat.le_refl _
  ·rintro acc i ws σ H3 x H' hacc hi hz hzl ⟨u,ds,rfl,sm,rfl,ld,hds,hd⟩ ⟨rfl,rfl⟩
   have hx:es[i]? = some es[i]:=List.getElem?_eq_getElem hi
   obtain ⟨e,ee,l,ts,el,hl,pe'⟩:=aG pr hx
   have hx':es[i]? = some (.ref l):=by rw [hx,el]
   refine ⟨_,rfl,_,rfl,r,es,_,_,rfl,rfl,SqL.of (sm _ _ hr'),(by rw [Int.zero_add]; exact bN hx'),Nat.zero_le _,fun l4 n4=>?_⟩
   have s4:=Same.new (o:=.lst []) n4
   have h4:(upd H' l4 (.lst [])) l4=some (.lst []):=ac
   generalize upd H' l4 (.lst [])=H4 at *
   have sm4:=sm.trans s4
   refine ⟨dS P e,dS P [],eh (sm4 _ _ hl) (pe'.mono fun t xs e=>sm4 _ _ e),eh h4 .nil,ba _ _,ba _ _,_,rfl,?_⟩
   rw [fZ]
   cases e with
   | nil=>
    refine aO ⟨_,s4 _ _ hz,by rw [List.length_map]; omega,_,ds,rfl,sm4,rfl,by omega,hds,fun j hj q t hjt=>?_⟩
    by_cases h:j < i
    ·exact hd j h q t hjt
    ·have:j=i:=by omega
     subst this
     rw [ee] at hjt
     cases hjt
   | cons q0 t0=>
    refine aH ⟨_,rfl,_,s4 _ _ hz,by rw [List.length_map,sizeLine_eq]; omega,_,ac,by rw [List.length_append,List.length_map,List.length_singleton]; omega,_,ds ++ [(i:Int)],rfl,sm4.put hacc,by rw [List.map_append,Int.zero_add]; rfl,by rw [List.length_append,List.length_singleton]; omega,fun x hx=>?_,fun j hj q t hjt=>?_⟩
    ·rcases List.mem_append.mp hx with z | z
     ·exact hds x z
     ·exact ⟨i,q0 :: t0,List.mem_singleton.mp z,ee,by simp⟩
    ·by_cases h:j < i
     ·exact List.mem_append_left _ (hd j h q t hjt)
     ·have:j=i:=by omega
      subst this
      simp
  rintro acc ws σ H3 hacc hz hzl ⟨u,ds,rfl,s3,rfl,ld,hds,hd⟩
  have dne:ds ≠ []:=by
   obtain ⟨j,hj,rfl⟩:=List.getElem_of_mem me0
   cases e:row[j] with
   | nil=>exact absurd e ne0
   | cons q0 t0=>
    intro z
    have:=hd j (by omega) q0 t0 (by rw [List.getElem?_eq_getElem hj,e])
    rw [z] at this
    cases this
  refine ⟨acc,ds,rfl,bZ (SqL.of hz),dne,fun m hm hmx=>?_⟩
  obtain ⟨ai,ea,rfl,eea,nea⟩:=hds m hm
  have hr3:=s3 _ _ hr'
  refine ⟨_,rfl,r,rfl,⟨_,SqL.of hr3⟩,be (n:=es.length) (σ0:=[none,none,some (.int (ai:Int))]) rfl (fun acc j ws σ H'=>∃ u v:Option V,σ=[u,v,some (.int (ai:Int))]/\Same H3 H'/\Paired (EntF H acc P H') ws (dX row j ai)) (by rw [sizeLine_eq]; omega) (fun acc hacc=>⟨none,none,rfl,Same.new hacc,.nil⟩) ?_ ?_ ?_ ?_⟩
  ·rintro acc j ws σ H' hacc hj hz ⟨u,v,rfl,sm,_⟩
   exact ⟨es,es[j],SqL.of (sm _ _ hr3),by simp [hj]⟩
  ·rintro acc ws σ H' hacc hz ⟨u,v,rfl,sm,_⟩
   exact ⟨es,SqL.of (sm _ _ hr3),Nat.le_refl _⟩
  ·rintro acc j ws σ H9 x H' hacc hj hz hzl ⟨u,v,rfl,s9,pw⟩ ⟨pp,x1,rfl,npp,rfl,gx⟩
   have hx:=gx es (SqL.of (s9 _ _ hr3))
   obtain ⟨e,ee,l,ts,rfl,hl,pe'⟩:=aG pr hx
   have s10:=Same.new (o:=.tup [.int (j:Int),.ref l]) npp
   have h10:(upd H9 pp (.tup [.int (j:Int),.ref l])) pp=some (.tup [.int (j:Int),.ref l]):=ac
   generalize upd H9 pp (.tup [.int (j:Int),.ref l])=H10 at *
   have sA:=(s3.trans s9).trans s10
   refine ⟨pp,_,rfl,SqT.of h10,rfl,_,_,rfl,_,_,rfl,rfl,?_⟩
   refine ⟨_,rfl,_,rfl,l,ts,rfl,SqL.of (sA _ _ hl),fun l11 n11=>?_⟩
   have hcut:hU ts none (some 1)=ts.take 1:=cut_to1 ts
   rw [hcut]
   have s11:=Same.new (o:=.lst (ts.take 1)) n11
   have h11:(upd H10 l11 (.lst (ts.take 1))) l11=some (.lst (ts.take 1)):=ac
   generalize upd H10 l11 (.lst (ts.take 1))=H11 at *
   have pt:PartsR P H11 (ts.take 1) (e.take 1):=i6 1 (pe'.mono fun t xs e=>s11 _ _ (sA _ _ e))
   have l1:(ts.take 1).length <= 1:=by rw [List.length_take]; omega
   refine ⟨l11,rfl,⟨_,SqL.of h11⟩,be (n:=(ts.take 1).length) (σ0:=[none,some (.int (j:Int)),some (.int (ai:Int))]) rfl (fun acc2 i ws2 σ H2'=>∃ u:Option V,σ=[u,some (.int (j:Int)),some (.int (ai:Int))]/\Same H11 H2'/\ws2=if j=ai then (ts.take 1).take i else []) (by rw [sizeLine_eq]; omega) (fun acc2 hacc2=>⟨none,rfl,Same.new hacc2,by simp⟩) ?_ ?_ ?_ ?_⟩
   ·rintro acc2 i ws2 σ H2' hacc2 hi hz2 ⟨u,rfl,s12,_⟩
    exact ⟨_,(ts.take 1)[i],SqL.of (s12 _ _ h11),List.getElem?_eq_getElem hi⟩
   ·rintro acc2 ws2 σ H2' hacc2 hz2 ⟨u,rfl,s12,_⟩
    exact ⟨_,SqL.of (s12 _ _ h11),Nat.le_refl _⟩
   ·rintro acc2 i ws2 σ H12 x2 H12' hacc2 hi hz2 hzl2 ⟨u,rfl,s12,rfl⟩ ⟨rfl,gx2⟩
    have hx2:=gx2 _ (SqL.of (s12 _ _ h11))
    refine ⟨_,rfl,_,rfl,rfl,_,rfl,bD (fun h=>?_) (fun h=>?_)⟩
    ·have hj:j=ai:=by have:=of_decide_eq_true h; injection this with this; omega
     rw [if_pos hj] at hz2 hzl2 ⊢
     refine ⟨_,rfl,_,hz2,(by rw [sizeLine_eq]; omega),_,ac,by rw [List.length_append,List.length_singleton]; omega,_,rfl,s12.put hacc2,?_⟩
     rw [List.take_add_one (l:=ts.take 1),hx2]
     rfl
    ·have hj:¬ j=ai:=fun z=>h (decide_eq_true (by rw [z]))
     rw [if_neg hj] at hz2 hzl2
     refine ⟨_,hz2,Nat.zero_le _,_,rfl,s12,?_⟩
     rw [if_neg hj]
   ·rintro acc2 ws2 σ H12 hacc2 hz2 hzl2 ⟨u,rfl,s12,e2⟩
    rw [List.take_length] at e2
    have hzA:=s11 _ _ (s10 _ _ hz)
    have la:acc2 ≠ acc:=fun z=>by rw [z,hzA] at hacc2; cases hacc2
    have hz3:=s12 _ _ hzA
    have sB:=(s10.trans s11).trans s12
    have ka:KeepA [acc] H9 (upd H12 acc (.lst (ws ++ [.ref acc2]))):=(KeepA.of sB).trans (KeepA.put hz3 (by simp))
    have kb:KeepA [acc] H12 (upd H12 acc (.lst (ws ++ [.ref acc2]))):=KeepA.put hz3 (by simp)
    have lws:ws.length=j:=by rw [Paired.length pw]; unfold dX; rw [List.length_map,List.length_range]
    refine ⟨ws,hz3,by rw [lws,sizeLine_eq]; omega,_,ac,by rw [List.length_append,List.length_singleton]; omega,_,_,rfl,(s9.trans sB).put hacc,?_⟩
    rw [mP]
    refine bg ?_ (ap (fun _ _=>EntF.keepA (av:=[acc]) (fun a ha=>.inl (by simpa using ha)) ka) pw)
    refine ⟨acc2,ws2,rfl,(sA.trans s11).free hacc2,la,by rw [ao la]; exact hz2,?_⟩
    rw [e2]
    by_cases hj:j=ai
    ·rw [if_pos hj,if_pos hj,List.getD_eq_getElem?_getD,ee]
     exact (pt.mono fun t xs e=>s12 _ _ e).mono kb.1
    ·rw [if_neg hj,if_neg hj]
     exact .nil
  ·rintro acc ws σ H9 hacc hz hzl ⟨u,v,rfl,s9,pw⟩
   rw [les] at pw
   refine q acc ws _ H9 (s3.free hacc) (s3.trans s9) hz pw ⟨ht,partRow_ok okh,ea.take 1,?_,fun z=>nea ?_⟩
   ·unfold dX
    have hl:ai < row.length:=(List.getElem?_eq_some_iff.mp eea).1
    refine List.mem_map.mpr ⟨ai,List.mem_range.mpr hl,?_⟩
    rw [if_pos rfl,List.getD_eq_getElem?_getD,eea]
    rfl
   ·cases ea with
    | nil=>rfl
    | cons x r=>simp at z
end
def TableOk (P L:Int) (cs:List Int) (rows:List (List (List am))):Prop:=PrimeOk P/\1 <= L/\L <= 4/\1 <= cs.length/\cs.length <= 3/\(∀ c ∈ cs,-18 <= c/\c <= 21)/\1 <= rows.length/\rows.length <= 5/\∀ row ∈ rows,RowOk P L 200 cs row
def spTable (K:Frag):Sp:=fun vs H Q _=>∃ (a:Addr) (ns:List Int) (k:Int),vs=[.ref a,.int k]/\SqL K H a (ns.map V.int)/\ns.length <= 63/\0 <= k/\k <= 50/\
 ∀ (t c rw:Addr) (P L:Int) (cs:List Int) (ws:List V) (rows:List (List (List am))) (H':Hp),Same H H'->H' t=some (.tup [.int P,.int L,.ref c,.ref rw])->H' c=some (.lst (cs.map V.int))->H' rw=some (.lst ws)->Paired (RowR P H') ws rows->TableOk P L cs rows->Q (.ref t) H'
def TabI (H:Hp) (a p:Addr) (ad wy lo hi:Int) (fl:Bool) (k:Nat) (σ:L2.St) (H':Hp):Prop:=∃ (c:Addr) (P L N M Q:Int) (cs:List Int) (x y:Int),σ=[some (.ref a),some (.int ad),some (.ref p),some (.int wy),some (.int P),some (.int L),some (.int N),some (.ref c),some (.int M),some (.int Q),none,none,none]/\PrimeOk P/\(fl=true->wy=7->P=0)/\(lo <= L/\L <= hi)/\(1 <= N/\N <= 5)/\(0 <= M/\M <= 4)/\(0 <= Q/\Q <= 3)/\
 H' c=some (.lst (cs.map V.int))/\c ≠ p/\(1 <= cs.length/\cs.length <= 3)/\(∀ c ∈ cs,-18 <= c/\c <= 21)/\H' p=some (.lst [.int x,.int y])/\BagOk x y k/\(∀ c o,H c=some o->H' c=some o)/\H p=none
theorem RowR.fresh {P:Int} {H H':Hp} {v:V} {row:List (List am)} {p:Addr} (np:H p=none) (s:Same H H') (h:RowR P H v row):RowA [p] P H' v row:=by
 obtain ⟨r,es,rfl,hr,pr⟩:=h
 refine ⟨r,es,rfl,by simpa using ah hr np,s _ _ hr,ap (fun v e z=>?_) pr⟩
 obtain ⟨l,ts,rfl,hl,pe⟩:=z
 exact ⟨l,ts,rfl,by simpa using ah hl np,s _ _ hl,pe.mono fun t xs e=>s _ _ e⟩
section
variable {P:Program} {w:World} {K:Frag} {mg:Str->Option Value} {base:Heap}
theorem sc__law_table:FnScope ["_law_script", "_law_at", "_law_bag_here", "_law_way", "_law_prime_here", "_law_letters", "_law_many", "_law_columns_here", "_law_most", "_law_parts", "_law_rows", "_law_k", "_law_row"] ["_law_script", "_law_at"] (al eS):=.i
set_option maxHeartbeats 4000000 in
theorem ok_table {f:Addr} {fd:FuncData} (F:Fun K "_law_table" "_law_table" eS f fd) (T:Blt mg) (G_law_bag:FnB P w K mg base 2 "_law_bag" (spBag K)) (G_law_take:FnB P w K mg base 1 "_law_take" cF) (G_law_prime:FnB P w K mg base 2 "_law_prime" spPrime) (G_law_columns:FnB P w K mg base 2 "_law_columns" spCols) (G_law_drawn_row:FnB P w K mg base 5 "_law_drawn_row" spDrawn) (G_law_again_row:FnB P w K mg base 6 "_law_again_row" mU) (G_law_one_part:FnB P w K mg base 1 "_law_one_part" lq) :
  aI P w K mg base CX0 7 f fd ["_law_script", "_law_at"] (spTable K):=by
 refine F.ok sc__law_table (fun vs H Q E h=>?_) (fun cdv A outer s H vs Q E hr h=>?_)
 ·obtain ⟨a,ns,k,rfl,_⟩:=h
  rfl
 ·obtain ⟨a,ns,ad,rfl,hS,hlen,ad0,ad50,q⟩:=h
  refine ⟨_,(ag (aA (i:=2) sc__law_table.nd rfl (Or.inl rfl) (aw G_law_bag hr.m (aa (pv 0) (aa (pv 1) af))))
(ag (aA (i:=3) sc__law_table.nd rfl (Or.inl rfl) (aw G_law_take hr.m (aa (pv 2) (aa ae af))))
(ag (aA (i:=4) sc__law_table.nd rfl (Or.inl rfl) (aw G_law_prime hr.m (aa (pv 2) af)))
(ag (aA (i:=5) sc__law_table.nd rfl (Or.inl rfl) (au aP ae (aw G_law_take hr.m (aa (pv 2) (aa ae af)))))
(ag (aA (i:=6) sc__law_table.nd rfl (Or.inl rfl) (au aP ae (aw G_law_take hr.m (aa (pv 2) (aa ae af)))))
(ag (aA (i:=7) sc__law_table.nd rfl (Or.inl rfl) (aw G_law_columns hr.m (aa (aE (aD K rfl) (bb (aa (au aP ae (aw G_law_take hr.m (aa (pv 2) (aa ae af)))) (aa ae af))) (au bx (pv 5) ae) (fun _ _=>rfl)) (aa ae (aa (pv 2) af)))))
(ag (ps_par (i:=8) (j:=9) rfl sc__law_table.nd rfl rfl (by decide) rfl rfl (aa (au bx ae (pv 5)) (aa (au bx ae (pv 5)) af)) rfl)
(ag (aJ (az bH (pv 4) ae (ar _))
(ak (ps_par (i:=6) (j:=9) rfl sc__law_table.nd rfl rfl (by decide) rfl rfl (aa (pl_min T (aa (pv 6) (aa (au bx ae (bo K T (pv 7))) af))) (aa ae af)) rfl))
aB)
(ag (aJ (az bH (pv 3) ae (ar _))
(ag (aA (i:=6) sc__law_table.nd rfl (Or.inl rfl) ae)
(ak (aA (i:=7) sc__law_table.nd rfl (Or.inl rfl) (aw G_law_columns hr.m (aa (aE (aD K rfl) (bb (aa ae (aa ae af))) (au bx (pv 5) ae) (fun _ _=>rfl)) (aa ae (aa (pv 2) af)))))))
aB)
(ag (aJ (az bH (pv 3) ae (ar _))
(ag (fA (bM (aa ae (aa ae (aa ae af)))) (gA rfl (by exact aQ (by exact (aM (i:=5) sc__law_table.nd rfl (Or.inl rfl))) (by exact aQ (by exact (aM (i:=8) sc__law_table.nd rfl (Or.inl rfl))) (by exact aQ (by exact (aM (i:=9) sc__law_table.nd rfl (Or.inl rfl))) eX)))))
(ak (aA (i:=7) sc__law_table.nd rfl (Or.inl rfl) (aw G_law_columns hr.m (aa (au aP ae (aw G_law_take hr.m (aa (pv 2) (aa ae af)))) (aa ae (aa (pv 2) af)))))))
aB)
(ag (aJ (az bH (pv 3) ae (ar _))
(ak (fA (bM (aa ae (aa ae (aa ae (aa ae (aa ae af)))))) (gA rfl (by exact aQ (by exact (aM (i:=5) sc__law_table.nd rfl (Or.inl rfl))) (by exact aQ (by exact (aM (i:=6) sc__law_table.nd rfl (Or.inl rfl))) (by exact aQ (by exact (aM (i:=8) sc__law_table.nd rfl (Or.inl rfl))) (by exact aQ (by exact (aM (i:=9) sc__law_table.nd rfl (Or.inl rfl))) (by exact aQ (by exact (aM (i:=4) sc__law_table.nd rfl (Or.inl rfl))) eX))))))))
aB)
(ag (aJ (az bH (pv 3) ae (ar _))
(ag (fA (bM (aa ae (aa ae (aa ae (aa ae af))))) (gA rfl (by exact aQ (by exact (aM (i:=5) sc__law_table.nd rfl (Or.inl rfl))) (by exact aQ (by exact (aM (i:=6) sc__law_table.nd rfl (Or.inl rfl))) (by exact aQ (by exact (aM (i:=8) sc__law_table.nd rfl (Or.inl rfl))) (by exact aQ (by exact (aM (i:=9) sc__law_table.nd rfl (Or.inl rfl))) eX))))))
(ak (aA (i:=7) sc__law_table.nd rfl (Or.inl rfl) (aw G_law_columns hr.m (aa ae (aa ae (aa (pv 2) af)))))))
aB)
(ag (aA (i:=10) sc__law_table.nd rfl (Or.inl rfl) (bb af))
(ag (dh PassesOwn.never rfl (cR rfl T.range (aa (pv 6) af)) (aM (i:=11) sc__law_table.nd rfl (Or.inl rfl))
(ag (aA (i:=2) sc__law_table.nd rfl (Or.inl rfl) (aw G_law_bag hr.m (aa (pv 0) (aa (au aP (au aP (pv 1) ae) (pv 11)) af))))
(ag (aA (i:=12) sc__law_table.nd rfl (Or.inl rfl) (aw G_law_drawn_row hr.m (aa (pv 4) (aa (pv 5) (aa (pv 7) (aa (pv 8) (aa (pv 9) (aa (aV bH (pv 3) ae (ar _)) (aa (pv 2) af)))))))))
(ag (aJ (PW.pt (pw_and (az dR (pv 11) ae (ar _)) (pw_and1 (PW.pt (bR (az bH (pv 3) ae (ar _)) (bL (az bH (pv 3) ae (ar _))))))))
(ak (aA (i:=12) sc__law_table.nd rfl (Or.inl rfl) (aw G_law_again_row hr.m (aa (pv 4) (aa (pv 5) (aa (pv 7) (aa (pv 10) (aa (pv 2) af))))))))
aB)
(ag (aJ (az bH (pv 3) ae (ar _))
(ak (aA (i:=12) sc__law_table.nd rfl (Or.inl rfl) (aw G_law_one_part hr.m (aa (pv 12) af))))
aB)
(ak (gg (lD PySem.F.plainAttrs_list PySem.F.slot_list_append PySem.F.type_list_append cQ (pv 10) (aa (pv 12) af)))))))))
(ak (aq (bM (aa (pv 4) (aa (pv 5) (aa (pv 7) (aa (pv 10) af))))))))))))))))))))),?_⟩
  refine ⟨_,rfl,_,rfl,a,ns,ad,rfl,hS,hlen,ad0,by omega,fun p x1 y1 np hb1=>?_⟩
  have s1:=Same.new (o:=.lst [.int x1,.int y1]) np
  have hp1:(upd H p (.lst [.int x1,.int y1])) p=some (.lst [.int x1,.int y1]):=ac
  generalize upd H p (.lst [.int x1,.int y1])=H1 at *
  refine ⟨_,rfl,p,x1,y1,8,100,rfl,hp1,hb1,by decide,by decide,aC (by decide) (by decide),fun wy x2 y2 wy0 wy8 hb2=>?_⟩
  have k2:∀ c o,H c=some o->upd H1 p (.lst [.int x2,.int y2]) c=some o:=fun c o e=>by rw [ao (ah e np)]; exact s1 _ _ e
  have hp2:(upd H1 p (.lst [.int x2,.int y2])) p=some (.lst [.int x2,.int y2]):=ac
  generalize upd H1 p (.lst [.int x2,.int y2])=H2 at *
  refine ⟨_,rfl,p,x2,y2,_,rfl,hp2,hb2,by decide,fun P x3 y3 H3 hP hp3 hb3 kp3=>?_⟩
  refine ⟨_,rfl,p,x3,y3,2,_,rfl,hp3,hb3,by decide,by decide,aC (by decide) (by decide),fun l4 x4 y4 l40 l41 hb4=>⟨_,_,rfl,rfl,?_⟩⟩
  have hp4:(upd H3 p (.lst [.int x4,.int y4])) p=some (.lst [.int x4,.int y4]):=ac
  have k4:∀ c o,H c=some o->upd H3 p (.lst [.int x4,.int y4]) c=some o:=fun c o e=>by rw [ao (ah e np)]; exact kp3 _ _ (k2 c o e) (ah e np)
  generalize upd H3 p (.lst [.int x4,.int y4])=H4 at *
  refine ⟨_,rfl,p,x4,y4,3,_,rfl,hp4,hb4,by decide,by decide,aC (by decide) (by decide),fun n5 x5 y5 n50 n51 hb5=>⟨_,_,rfl,rfl,?_⟩⟩
  have hp5:(upd H4 p (.lst [.int x5,.int y5])) p=some (.lst [.int x5,.int y5]):=ac
  have k5:∀ c o,H c=some o->upd H4 p (.lst [.int x5,.int y5]) c=some o:=fun c o e=>by rw [ao (ah e np)]; exact k4 c o e
  generalize upd H4 p (.lst [.int x5,.int y5])=H5 at *
  refine ⟨_,rfl,p,x5,y5,2,_,rfl,hp5,hb5,by decide,by decide,aC (by decide) (by decide),fun n6 x6 y6 n60 n61 hb6=>⟨_,_,rfl,rfl,(by show 2 <= sizeLine; decide),fun l7 n7=>?_⟩⟩
  have hp6:(upd H5 p (.lst [.int x6,.int y6])) p=some (.lst [.int x6,.int y6]):=ac
  have k6:∀ c o,H c=some o->upd H5 p (.lst [.int x6,.int y6]) c=some o:=fun c o e=>by rw [ao (ah e np)]; exact k5 c o e
  generalize upd H5 p (.lst [.int x6,.int y6])=H6 at *
  have s7:=Same.new (o:=.lst [.int (1 + n6),.int 1]) n7
  have h7:(upd H6 l7 (.lst [.int (1 + n6),.int 1])) l7=some (.lst [.int (1 + n6),.int 1]):=ac
  have hp7:=s7 _ _ hp6
  generalize upd H6 l7 (.lst [.int (1 + n6),.int 1])=H7 at *
  obtain ⟨nc,hat,nc1,nc2⟩:∃ nc:Int,atI [V.int (1 + n6),.int 1] (2 + l4 - 2)=some (.int nc)/\1 <= nc/\nc <= 2:=by
   have h01:l4=0\/l4=1:=by omega
   rcases h01 with z | z
   ·subst z; exact ⟨1 + n6,rfl,by omega,by omega⟩
   ·subst z; exact ⟨1,rfl,by omega,by omega⟩
  refine ⟨_,rfl,_,_,rfl,rfl,l7,_,_,_,rfl,rfl,SqL.of h7,hat,_,rfl,p,nc,3,x6,y6,_,rfl,nc1,by omega,by decide,by decide,hp7,hb6,by decide,fun c8 cs8 x8 y8 H8 n8 h8 lc8 oc8 hp8 hb8 kp8=>?_⟩
  have c8p:c8 ≠ p:=(ah hp7 n8).symm
  have k8:∀ c o,H c=some o->H8 c=some o:=fun c o e=>kp8 _ _ (s7 _ _ (k6 c o e)) (ah e np)
  refine ⟨_,rfl,_,_,rfl,rfl,_,rfl,_,_,rfl,rfl,_,_,rfl,?_⟩
  dsimp only
  refine fX (t:=kg _ _ _) (TabI H a p ad wy 2 3 false 200) (fun R hR=>?_) ?_
  ·refine ⟨_,rfl,rfl,_,rfl,bD (fun h=>?_) (fun h=>?_)⟩
   ·refine ⟨_,rfl,_,rfl,c8,_,rfl,.inl (SqL.of h8),_,_,rfl,rfl,_,_,rfl,_,_,rfl,hR _ _ ⟨c8,P,_,_,_,_,cs8,x8,y8,rfl,hP,fun z=>(by cases z),⟨by omega,by omega⟩,⟨?_,?_⟩,⟨by omega,by omega⟩,⟨by decide,by decide⟩,h8,c8p,⟨by omega,by omega⟩,oc8,hp8,hb8.mono (by decide),k8,np⟩⟩
    ·rw [List.length_map]; split<;>omega
    ·rw [List.length_map]; split<;>omega
   ·exact hR _ _ ⟨c8,P,_,_,_,_,cs8,x8,y8,rfl,hP,fun z=>(by cases z),⟨by omega,by omega⟩,⟨by omega,by omega⟩,⟨by omega,by omega⟩,⟨by omega,by omega⟩,h8,c8p,⟨by omega,by omega⟩,oc8,hp8,hb8.mono (by decide),k8,np⟩
  clear hP h8 lc8 oc8 hp8 hb8 kp8 c8p k8
  rintro σ9 H9 ⟨c,P,L,N,M,Q',cs,x,y,rfl,hP,f7,⟨L1,L4⟩,⟨N1,N5⟩,⟨M0,M4⟩,⟨Q0,Q3⟩,hc,cp,⟨c1,c3⟩,oc,hp,hb,kp,_⟩
  refine fX (t:=kg _ _ _) (TabI H a p ad wy 2 3 false 220) (fun R hR=>?_) ?_
  ·refine ⟨_,rfl,rfl,_,rfl,bD (fun h=>?_) (fun h=>?_)⟩
   ·refine ⟨(by show 2 <= sizeLine; decide),fun l10 n10=>?_⟩
    have s10:=Same.new (o:=.lst [.int 3,.int 1]) n10
    have h10:(upd H9 l10 (.lst [.int 3,.int 1])) l10=some (.lst [.int 3,.int 1]):=ac
    generalize upd H9 l10 (.lst [.int 3,.int 1])=H10 at *
    obtain ⟨nc,hat,nc1,nc2⟩:∃ nc:Int,atI [V.int 3,.int 1] (L - 2)=some (.int nc)/\1 <= nc/\nc <= 3:=by
     have h01:L=2\/L=3:=by omega
     rcases h01 with z | z
     ·subst z; exact ⟨3,rfl,by decide,by decide⟩
     ·subst z; exact ⟨1,rfl,by decide,by decide⟩
    refine ⟨_,rfl,_,_,rfl,rfl,l10,_,_,_,rfl,rfl,SqL.of h10,hat,_,rfl,p,nc,3,x,y,_,rfl,nc1,nc2,by decide,by decide,s10 _ _ hp,hb,by decide,fun c' cs' x' y' H' n' h' lc' oc' hp' hb' kp'=>?_⟩
    exact hR _ _ ⟨c',P,L,5,M,Q',cs',x',y',rfl,hP,fun z=>(by cases z),⟨L1,L4⟩,⟨by decide,by decide⟩,⟨M0,M4⟩,⟨Q0,Q3⟩,h',(ah (s10 _ _ hp) n').symm,⟨by omega,by omega⟩,oc',hp',hb'.mono (by decide),fun c o e=>kp' _ _ (s10 _ _ (kp c o e)) (ah e np),np⟩
   ·exact hR _ _ ⟨c,P,L,N,M,Q',cs,x,y,rfl,hP,fun z=>(by cases z),⟨L1,L4⟩,⟨N1,N5⟩,⟨M0,M4⟩,⟨Q0,Q3⟩,hc,cp,⟨c1,c3⟩,oc,hp,hb.mono (by decide),kp,np⟩
  clear hP f7 L1 L4 N1 N5 M0 M4 Q0 Q3 hc cp c1 c3 oc hp hb kp
  rintro σ9 H9 ⟨c,P,L,N,M,Q',cs,x,y,rfl,hP,f7,⟨L1,L4⟩,⟨N1,N5⟩,⟨M0,M4⟩,⟨Q0,Q3⟩,hc,cp,⟨c1,c3⟩,oc,hp,hb,kp,_⟩
  refine fX (t:=kg _ _ _) (TabI H a p ad wy 1 3 false 240) (fun R hR=>?_) ?_
  ·refine ⟨_,rfl,rfl,_,rfl,bD (fun h=>?_) (fun h=>?_)⟩
   ·refine ⟨(by show 3 <= sizeLine; decide),fun t10 n10=>?_⟩
    have s10:=Same.new (o:=.tup [.int 1,.int 4,.int 1]) n10
    have h10:(upd H9 t10 (.tup [.int 1,.int 4,.int 1])) t10=some (.tup [.int 1,.int 4,.int 1]):=ac
    generalize upd H9 t10 (.tup [.int 1,.int 4,.int 1])=H10 at *
    refine ⟨t10,_,rfl,SqT.of h10,rfl,_,_,rfl,_,_,rfl,_,_,rfl,rfl,?_⟩
    refine ⟨_,rfl,p,x,y,3,_,rfl,s10 _ _ hp,hb,by decide,by decide,aC (by decide) (by decide),fun r11 x11 y11 r110 r111 hb11=>⟨_,_,rfl,rfl,?_⟩⟩
    refine ⟨_,rfl,p,1 + r11,3,x11,y11,_,rfl,by omega,by omega,by decide,by decide,ac,hb11,by decide,fun c' cs' x' y' H' n' h' lc' oc' hp' hb' kp'=>?_⟩
    exact hR _ _ ⟨c',P,1,N,4,1,cs',x',y',rfl,hP,fun z=>(by cases z),⟨by decide,by decide⟩,⟨N1,N5⟩,⟨by decide,by decide⟩,⟨by decide,by decide⟩,h',(ah (o:=.lst [.int x11,.int y11]) ac n').symm,⟨by omega,by omega⟩,oc',hp',hb'.mono (by decide),fun c o e=>kp' _ _ (by rw [ao (ah e np)]; exact s10 _ _ (kp c o e)) (ah e np),np⟩
   ·exact hR _ _ ⟨c,P,L,N,M,Q',cs,x,y,rfl,hP,fun z=>(by cases z),⟨by omega,L4⟩,⟨N1,N5⟩,⟨M0,M4⟩,⟨Q0,Q3⟩,hc,cp,⟨c1,c3⟩,oc,hp,hb.mono (by decide),kp,np⟩
  clear hP f7 L1 L4 N1 N5 M0 M4 Q0 Q3 hc cp c1 c3 oc hp hb kp
  rintro σ9 H9 ⟨c,P,L,N,M,Q',cs,x,y,rfl,hP,f7,⟨L1,L4⟩,⟨N1,N5⟩,⟨M0,M4⟩,⟨Q0,Q3⟩,hc,cp,⟨c1,c3⟩,oc,hp,hb,kp,_⟩
  refine fX (t:=kg _ _ _) (TabI H a p ad wy 1 3 true 240) (fun R hR=>?_) ?_
  ·refine ⟨_,rfl,rfl,_,rfl,bD (fun h=>?_) (fun h=>?_)⟩
   ·refine ⟨(by show 5 <= sizeLine; decide),fun t10 n10=>?_⟩
    have s10:=Same.new (o:=.tup [.int 2,.int 2,.int 1,.int 2,.int 0]) n10
    have h10:(upd H9 t10 (.tup [.int 2,.int 2,.int 1,.int 2,.int 0])) t10=some (.tup [.int 2,.int 2,.int 1,.int 2,.int 0]):=ac
    generalize upd H9 t10 (.tup [.int 2,.int 2,.int 1,.int 2,.int 0])=H10 at *
    refine ⟨t10,_,rfl,SqT.of h10,rfl,_,_,rfl,_,_,rfl,_,_,rfl,_,_,rfl,_,_,rfl,rfl,?_⟩
    exact hR _ _ ⟨c,0,2,2,1,2,cs,x,y,rfl,.inl rfl,fun _ _=>rfl,⟨by decide,by decide⟩,⟨by decide,by decide⟩,⟨by decide,by decide⟩,⟨by decide,by decide⟩,s10 _ _ hc,cp,⟨c1,c3⟩,oc,s10 _ _ hp,hb,fun c o e=>s10 _ _ (kp c o e),np⟩
   ·exact hR _ _ ⟨c,P,L,N,M,Q',cs,x,y,rfl,hP,fun _ z=>absurd (decide_eq_true (congrArg V.int z)) h,⟨L1,L4⟩,⟨N1,N5⟩,⟨M0,M4⟩,⟨Q0,Q3⟩,hc,cp,⟨c1,c3⟩,oc,hp,hb,kp,np⟩
  clear hP f7 L1 L4 N1 N5 M0 M4 Q0 Q3 hc cp c1 c3 oc hp hb kp
  rintro σ9 H9 ⟨c,P,L,N,M,Q',cs,x,y,rfl,hP,f7,⟨L1,L4⟩,⟨N1,N5⟩,⟨M0,M4⟩,⟨Q0,Q3⟩,hc,cp,⟨c1,c3⟩,oc,hp,hb,kp,_⟩
  refine fX (t:=kg _ _ _) (TabI H a p ad wy 1 4 true 260) (fun R hR=>?_) ?_
  ·refine ⟨_,rfl,rfl,_,rfl,bD (fun h=>?_) (fun h=>?_)⟩
   ·refine ⟨(by show 4 <= sizeLine; decide),fun t10 n10=>?_⟩
    have s10:=Same.new (o:=.tup [.int 4,.int 5,.int 4,.int 1]) n10
    have h10:(upd H9 t10 (.tup [.int 4,.int 5,.int 4,.int 1])) t10=some (.tup [.int 4,.int 5,.int 4,.int 1]):=ac
    generalize upd H9 t10 (.tup [.int 4,.int 5,.int 4,.int 1])=H10 at *
    refine ⟨t10,_,rfl,SqT.of h10,rfl,_,_,rfl,_,_,rfl,_,_,rfl,_,_,rfl,rfl,?_⟩
    refine ⟨_,rfl,p,3,5,x,y,_,rfl,by decide,by decide,by decide,by decide,s10 _ _ hp,hb,by decide,fun c' cs' x' y' H' n' h' lc' oc' hp' hb' kp'=>?_⟩
    exact hR _ _ ⟨c',P,4,5,4,1,cs',x',y',rfl,hP,f7,⟨by decide,by decide⟩,⟨by decide,by decide⟩,⟨by decide,by decide⟩,⟨by decide,by decide⟩,h',(ah (s10 _ _ hp) n').symm,⟨by omega,by omega⟩,oc',hp',hb'.mono (by decide),fun c o e=>kp' _ _ (s10 _ _ (kp c o e)) (ah e np),np⟩
   ·exact hR _ _ ⟨c,P,L,N,M,Q',cs,x,y,rfl,hP,f7,⟨L1,by omega⟩,⟨N1,N5⟩,⟨M0,M4⟩,⟨Q0,Q3⟩,hc,cp,⟨c1,c3⟩,oc,hp,hb.mono (by decide),kp,np⟩
  clear hP f7 L1 L4 N1 N5 M0 M4 Q0 Q3 hc cp c1 c3 oc hp hb kp
  rintro σ9 H9 ⟨c,P,L,N,M,Q',cs,x,y,rfl,hP,f7,⟨L1,L4⟩,⟨N1,N5⟩,⟨M0,M4⟩,⟨Q0,Q3⟩,hc,cp,⟨c1,c3⟩,oc,hp,hb,kp,_⟩
  have sH9:Same H H9:=kp
  have f7:=f7 rfl
  clear hp hb cp kp
  refine ⟨Nat.zero_le _,fun rw nrw=>?_⟩
  have s10:=Same.new (o:=.lst []) nrw
  have h10:(upd H9 rw (.lst [])) rw=some (.lst []):=ac
  generalize upd H9 rw (.lst [])=H10 at *
  refine ⟨_,rfl,N,rfl,by omega,by omega,gi (n:=N.toNat) (fun i σ H'=>∃ (x2 x11 x12:Option V) (ws:List V) (rows:List (List (List am))),σ=[some (.ref a),some (.int ad),x2,some (.int wy),some (.int P),some (.int L),some (.int N),some (.ref c),some (.int M),some (.int Q'),some (.ref rw),x11,x12]/\Same H9 H'/\H' rw=some (.lst ws)/\Paired (RowA [rw] P H') ws rows/\rows.length=i/\∀ row ∈ rows,RowOk P L (110 + 15 * i) cs row) ?_ ?_ ?_⟩
  ·exact ⟨_,none,none,[],[],rfl,s10,h10,.nil,rfl,fun row hr=>by cases hr⟩
  ·rintro i σ H11 hi ⟨x2,x11,x12,ws,rows,rfl,s11,h11,prs,lr,okr⟩
   have sH11:=sH9.trans s11
   refine ⟨_,rfl,_,rfl,_,_,rfl,rfl,_,rfl,_,_,rfl,rfl,a,ns,_,rfl,sH11.seq hS,hlen,by omega,by omega,fun p' x12' y12 np' hb12=>?_⟩
   have s12:=Same.new (o:=.lst [.int x12',.int y12]) np'
   have hp12:(upd H11 p' (.lst [.int x12',.int y12])) p'=some (.lst [.int x12',.int y12]):=ac
   generalize upd H11 p' (.lst [.int x12',.int y12])=H12 at *
   have hc11:=s11 _ _ hc
   have cp':c ≠ p':=ah hc11 np'
   have rwp':rw ≠ p':=ah h11 np'
   refine ⟨_,rfl,_,rfl,_,rfl,_,rfl,_,rfl,_,rfl,rfl,_,rfl,p',c,P,L,M,Q',x12',y12,_,100,cs,rfl,hP,(fun z=>f7 (by have:=of_decide_eq_true z; injection this)),L1,L4,M0,M4,Q0,Q3,s12 _ _ hc11,cp',c1,c3,hp12,hb12,by decide,fun r es row x13 y13 H13 nr hr13 pr13 ok13 hp13 hb13 kp13=>?_⟩
   have s13:Same H11 H13:=fun c o e=>kp13 _ _ (s12 _ _ e) (ah e np')
   have pr13':Paired (EntF H11 r P H13) es row:=ap (fun _ _=>EntF.from fun l z=>s12.free z) pr13
   dsimp only
   have hrw13:=s13 _ _ h11
   have again:∀ (Z:VK),0 < i->(∀ (r:Addr) (es:List V) (row:List (List am)) (H':Hp),Same H11 H'->H11 r=none->H' r=some (.lst es)->Paired (EntF H11 r P H') es row->RowOk P L (110 + 15 * (i + 1)) cs row->Z (.ref r) H')->
     tCall mU [] E0 (bJ (gk 4) (bJ (gk 5) (bJ (gk 7) (bJ (gk 10) (bJ (gk 2) dI))))) [some (.ref a),some (.int ad),some (.ref p'),some (.int wy),some (.int P),some (.int L),some (.int N),some (.ref c),some (.int M),some (.int Q'),some (.ref rw),some (.int (0 + (i:Int))),some (.ref r)] H13 Z:=fun Z hi0 hZ=>by
    refine ⟨_,rfl,_,rfl,_,rfl,_,rfl,_,rfl,p',c,rw,P,L,x13,y13,_,110 + 15 * i,cs,ws,rows,rfl,hP,L1,L4,s13 _ _ hc11,cp',c1,c3,hrw13,rwp',ap (fun _ _ z=>z.row.fresh np' s13) prs,(fun z=>by rw [z] at lr; simp at lr; omega),by omega,by omega,by omega,okr,hp13,hb13,by decide,fun r2 es2 row2 x14 y14 H14 nr2 hr2 pr2 ok2 hp14 hb14 kp14=>?_⟩
    exact hZ r2 es2 row2 H14 (fun c o e=>kp14 _ _ (s13 _ _ e) (ah e np')) (s13.free nr2) hr2 (ap (fun _ _=>EntF.from fun l z=>s13.free z) pr2) (ok2.mono (by omega))
   refine jw (t:=kg _ _ _) (fun σ' H'=>∃ (r:Addr) (es:List V) (row:List (List am)),σ'=[some (.ref a),some (.int ad),some (.ref p'),some (.int wy),some (.int P),some (.int L),some (.int N),some (.ref c),some (.int M),some (.int Q'),some (.ref rw),some (.int (0 + (i:Int))),some (.ref r)]/\Same H11 H'/\H11 r=none/\H' r=some (.lst es)/\Paired (EntF H11 r P H') es row/\RowOk P L (110 + 15 * (i + 1)) cs row) (fun R hR=>?_) ?_
   ·have plain:=hR _ _ ⟨r,es,row,rfl,s13,s12.free nr,hr13,pr13',ok13.mono (by omega)⟩
    refine ⟨_,rfl,_,_,rfl,rfl,_,rfl,bD (fun hk=>?_) (fun hk=>aO plain)⟩
    have hi0:0 < i:=by have:=of_decide_eq_true hk; omega
    refine ⟨_,rfl,rfl,_,rfl,bD (fun h4=>aH ?_) (fun h4=>?_)⟩
    ·exact again _ hi0 fun r2 es2 row2 H14 z1 z2 z3 z4 z5=>hR _ _ ⟨r2,es2,row2,rfl,z1,z2,z3,z4,z5⟩
    ·refine ⟨_,rfl,rfl,_,rfl,bD (fun h5=>?_) (fun h5=>plain)⟩
     exact again _ hi0 fun r2 es2 row2 H14 z1 z2 z3 z4 z5=>hR _ _ ⟨r2,es2,row2,rfl,z1,z2,z3,z4,z5⟩
   clear again pr13 pr13' ok13 nr hr13
   rintro σ' H14 ⟨r,es,row,rfl,s14,nr,hr14,pr14,ok14⟩
   refine fX (t:=kg _ _ _) (fun σ' H'=>∃ (r:Addr) (es:List V) (row:List (List am)),σ'=[some (.ref a),some (.int ad),some (.ref p'),some (.int wy),some (.int P),some (.int L),some (.int N),some (.ref c),some (.int M),some (.int Q'),some (.ref rw),some (.int (0 + (i:Int))),some (.ref r)]/\Same H11 H'/\H11 r=none/\H' r=some (.lst es)/\Paired (EntF H11 r P H') es row/\RowOk P L (110 + 15 * (i + 1)) cs row) (fun R hR=>?_) ?_
   ·refine ⟨_,rfl,rfl,_,rfl,bD (fun h6=>?_) (fun h6=>hR _ _ ⟨r,es,row,rfl,s14,nr,hr14,pr14,ok14⟩)⟩
    refine ⟨_,rfl,r,P,L,_,cs,es,row,rfl,hr14,ap (fun _ _=>EntF.ent) pr14,ok14,c3,fun r2 es2 row2 H15 nr2 s15 hr2 pr2 ok2=>?_⟩
    exact hR _ _ ⟨r2,es2,row2,rfl,s14.trans s15,s14.free nr2,hr2,ap (fun _ _=>EntF.from fun l z=>s14.free z) pr2,ok2⟩
   clear pr14 ok14 nr hr14 s14
   rintro σ' H14 ⟨r,es,row,rfl,s14,nr,hr14,pr14,ok14⟩
   have hrw14:=s14 _ _ h11
   have rrw:r ≠ rw:=(ah h11 nr).symm
   have lws:ws.length=i:=by rw [Paired.length prs,lr]
   refine ⟨_,rfl,.inl ⟨rfl,_,SqL.of hrw14⟩,_,rfl,rw,_,_,rfl,rfl,hrw14,by rw [lws,sizeLine_eq]; omega,?_⟩
   have ka:KeepA [rw] H11 (upd H14 rw (.lst (ws ++ [.ref r]))):=(KeepA.of s14).trans (KeepA.put hrw14 (by simp))
   have kb:KeepA [rw] H14 (upd H14 rw (.lst (ws ++ [.ref r]))):=KeepA.put hrw14 (by simp)
   refine ⟨_,_,_,ws ++ [.ref r],rows ++ [row],rfl,fun c o e=>?_,ac,bg ?_ (ap (fun _ _=>RowA.keep ka) prs),by rw [List.length_append,lr]; rfl,fun row' hr'=>?_⟩
   ·rw [ao (ah e nrw)]
    exact s14 _ _ (s11 _ _ e)
   ·refine RowA.keep kb ⟨r,es,rfl,by simpa using rrw,hr14,ap (fun v e z=>?_) pr14⟩
    obtain ⟨l,ts,rfl,l0,_,hl,pe⟩:=z
    exact ⟨l,ts,rfl,by simpa using (ah h11 l0).symm,hl,pe⟩
   ·rcases List.mem_append.mp hr' with z | z
    ·exact (okr row' z).mono (by omega)
    ·rw [List.mem_singleton.mp z]
     exact ok14
  ·rintro σ H11 ⟨x2,x11,x12,ws,rows,rfl,s11,h11,prs,lr,okr⟩
   refine ⟨_,rfl,_,rfl,_,rfl,_,rfl,(by show 4 <= sizeLine; decide),fun t nt=>?_⟩
   have s12:=Same.new (o:=.tup [.int P,.int L,.ref c,.ref rw]) nt
   exact q t c rw P L cs ws rows _ ((sH9.trans s11).trans s12) ac (s12 _ _ (s11 _ _ hc)) (s12 _ _ h11) (ap (fun _ _ z=>z.row.same s12) prs) ⟨hP,L1,L4,c1,c3,oc,by omega,by omega,fun row hr=>(okr row hr).mono (by omega)⟩
end
theorem nd_15:(["own", "entry"]:List Str).Nodup:=by decide +kernel
def lvl (ps:List am):Bool:=match ps with
 | []=>true
 | p :: r=>decide (p.1.sum=((p :: r).getLast (by simp)).1.sum)
def lP:Sp:=fun vs H Q _=>∃ (l:Addr) (P:Int) (ts:List V) (ps:List am),vs=[.ref l]/\H l=some (.lst ts)/\PartsR P H ts ps/\∀ H',Same H H'->Q (.bl (lvl ps)) H'
def spLevel:Sp:=fun vs H Q _=>∃ (l:Addr) (P:Int) (ts:List V) (ps:List am),vs=[.ref l]/\H l=some (.lst ts)/\PartsR P H ts ps/\∀ H',Same H H'->Q (match ps with | []=>.non | p :: _=>.int p.1.sum) H'
theorem atI_last {xs:List V} {x:V} (h:xs.getLast? = some x):atI xs (-1)=some x:=by
 have hn:0 < xs.length:=by
  cases xs with
  | nil=>cases h
  | cons y r=>simp
 have e0:ixN xs.length (-1)=some (xs.length - 1):=by
  unfold ixN
  rw [if_neg (by decide)]
  first
  | (rw [if_pos (by omega)]; congr 1; omega)
  | (simp; omega)
  | (split<;>simp_all<;>omega)
 have e:atI xs (-1)=xs[xs.length - 1]?:=by
  unfold atI
  rw [e0]
  rfl
 rw [e,<- h,List.getLast?_eq_getElem?]
section
variable {P:Program} {w:World} {K:Frag} {mg:Str->Option Value} {base:Heap}
theorem sc_is_level:FnScope ["one"] ["one"] (al gS):=.i
theorem ok_islevel {f:Addr} {fd:FuncData} (F:Fun K "is_level" "is_level" gS f fd) (Gdegree:FnB P w K mg base 1 "degree" (spDeg K)):aI P w K mg base CX0 2 f fd ["one"] lP:=by
 refine F.ok sc_is_level (fun vs H Q E h=>?_) (fun cdv A outer s H vs Q E hr h=>?_)
 ·obtain ⟨l,P,ts,ps,rfl,_⟩:=h
  rfl
 ·obtain ⟨l,P,ts,ps,rfl,hl,hps,q⟩:=h
  refine ⟨_,(ak (aq (pe_or (aV (keqD K rfl hr.units) (pv 0) (bb af) (ar _)) (bY (aV bH (aw Gdegree hr.m (aa (aE (aF K rfl) (aE (aD K rfl) (pv 0) ae (fun _ _=>rfl)) ae (fun _ _=>rfl)) af)) (aw Gdegree hr.m (aa (aE (aF K rfl) (aE (aD K rfl) (pv 0) (pe_un un_neg ae) (fun _ _=>rfl)) ae (fun _ _=>rfl)) af)) (ar _)))))),?_⟩
  refine ⟨_,rfl,Nat.zero_le _,fun e ne=>?_⟩
  have s1:=Same.new (o:=.lst []) ne
  have hl1:=s1 _ _ hl
  have pr1:=hps.mono fun t xs e=>s1 _ _ e
  refine ⟨dS P ps,dS P [],eh hl1 pr1,eh ac .nil,ba _ _,ba _ _,?_⟩
  rw [fZ]
  cases ps with
  | nil=>exact ⟨_,rfl,aH (q _ s1)⟩
  | cons p r=>
   rw [decide_eq_false (by simp)]
   refine ⟨_,rfl,aO ?_⟩
   have lt:ts.length=(p :: r).length:=Paired.length hps
   obtain ⟨p0,e0,t0,k0,u0,ev0,h01,h02,_⟩:=pr1.at_ (i:=0) (List.getElem?_eq_getElem (show 0 < ts.length by rw [lt]; simp))
   obtain ⟨p9,e9,t9,k9,u9,ev9,h91,h92,_⟩:=pr1.at_ (i:=ts.length - 1) (List.getElem?_eq_getElem (show ts.length - 1 < ts.length by rw [lt]; simp))
   have ep0:p=p0:=Option.some.inj e0
   have ep9:(p :: r).getLast (by simp)=p9:=by
    rw [lt] at e9
    rw [List.getLast_eq_getElem]
    rw [List.getElem?_eq_getElem (by simp)] at e9
    exact Option.some.inj e9
   refine ⟨_,rfl,l,_,_,_,rfl,rfl,SqL.of hl1,(bN (j:=0) (by rw [List.getElem?_eq_getElem (show 0 < ts.length by rw [lt]; simp),ev0])),t0,_,_,_,rfl,rfl,SqT.of h01,rfl,k0,p0.1,rfl,SqT.of h02,?_⟩
   refine ⟨_,rfl,_,rfl,l,_,_,_,rfl,rfl,SqL.of hl1,(atI_last (by rw [List.getLast?_eq_getElem?,List.getElem?_eq_getElem (show ts.length - 1 < ts.length by rw [lt]; simp),ev9])),t9,_,_,_,rfl,rfl,SqT.of h91,rfl,k9,p9.1,rfl,SqT.of h92,rfl,?_⟩
   have z:Q (.bl (decide (p.1.sum=((p :: r).getLast (by simp)).1.sum))) _:=q _ s1
   rw [ep9,ep0] at z
   have e:decide (V.int p0.1.sum=V.int p9.1.sum)=decide (p0.1.sum=p9.1.sum):=decide_eq_decide.mpr ⟨fun z=>by injection z,fun z=>by rw [z]⟩
   rw [e]
   exact z
theorem sc_level:FnScope ["one"] ["one"] (al mD):=.i
theorem ok_level {f:Addr} {fd:FuncData} (F:Fun K "level" "level" mD f fd) (Gdegree:FnB P w K mg base 1 "degree" (spDeg K)):aI P w K mg base CX0 2 f fd ["one"] spLevel:=by
 refine F.ok sc_level (fun vs H Q E h=>?_) (fun cdv A outer s H vs Q E hr h=>?_)
 ·obtain ⟨l,P,ts,ps,rfl,_⟩:=h
  rfl
 ·obtain ⟨l,P,ts,ps,rfl,hl,hps,q⟩:=h
  refine ⟨_,(ag (aJ (az (keqD K rfl hr.units) (pv 0) (bb af) (ar _))
(ak (aq gU))
aB)
(ak (aq (aw Gdegree hr.m (aa (aE (aF K rfl) (aE (aD K rfl) (pv 0) ae (fun _ _=>rfl)) ae (fun _ _=>rfl)) af))))),?_⟩
  refine ⟨_,rfl,Nat.zero_le _,fun e ne=>?_⟩
  have s1:=Same.new (o:=.lst []) ne
  have hl1:=s1 _ _ hl
  have pr1:=hps.mono fun t xs e=>s1 _ _ e
  refine ⟨dS P ps,dS P [],eh hl1 pr1,eh ac .nil,ba _ _,ba _ _,?_⟩
  rw [fZ]
  cases ps with
  | nil=>exact ⟨_,rfl,aH (q _ s1)⟩
  | cons p r=>
   rw [decide_eq_false (by simp)]
   refine ⟨_,rfl,aO ?_⟩
   have lt:ts.length=(p :: r).length:=Paired.length hps
   obtain ⟨p0,e0,t0,k0,u0,ev0,h01,h02,_⟩:=pr1.at_ (i:=0) (List.getElem?_eq_getElem (show 0 < ts.length by rw [lt]; simp))
   have ep0:p=p0:=Option.some.inj e0
   subst ep0
   exact ⟨_,rfl,l,_,_,_,rfl,rfl,SqL.of hl1,(bN (j:=0) (by rw [List.getElem?_eq_getElem (show 0 < ts.length by rw [lt]; simp),ev0])),t0,_,_,_,rfl,rfl,SqT.of h01,rfl,k0,p.1,rfl,SqT.of h02,q _ s1⟩
end
def lv1 (c:Int):List am->List Int
 | q :: _=>[c + q.1.sum]
 | []=>[]
def aK:List Int->List (List am)->List Int
 | c :: cs,e :: r=>lv1 c e ++ aK cs r
 | _,_=>[]
theorem iA {c:Int} {e:List am}:∀ {cs:List Int} {r:List (List am)},cs.length=r.length->aK (cs ++ [c]) (r ++ [e])=aK cs r ++ lv1 c e
 | [],[],_=>by
  show lv1 c e ++ []=_
  rw [List.append_nil]
  rfl
 | [],_ :: _,h=>by simp at h
 | _ :: _,[],h=>by simp at h
 | d :: cs,f :: r,h=>by
  show lv1 d f ++ aK (cs ++ [c]) (r ++ [e])=lv1 d f ++ aK cs r ++ _
  rw [iA (by simpa using h),List.append_assoc]
theorem fB:∀ (cs:List Int) (r:List (List am)),(aK cs r).length <= r.length
 | [],_=>by simp [aK]
 | _ :: _,[]=>by simp [aK]
 | d :: cs,f :: r=>by
  have z:=fB cs r
  show (lv1 d f ++ aK cs r).length <= _
  rw [List.length_append,List.length_cons]
  cases f<;>simp [lv1]<;>omega
theorem jb:∀ (cs:List Int) (r:List (List am)),aX cs r=(aK cs r).head?
 | [],_=>by simp [aK,aX]
 | _ :: _,[]=>by simp [aK,aX]
 | d :: cs,f :: r=>by
  cases f with
  | nil=>
   show aX cs r=(aK cs r).head?
   exact jb cs r
  | cons q t=>rfl
def dL (ns:List Int):PyData:=.list (ns.map .int)
theorem dr_dL {K:Frag} {H:Hp} {l:Addr} {ns:List Int} (h:H l=some (.lst (ns.map V.int))):DR K H (dL ns) (.ref l):=.lst (SqL.of h) (kn ns)
theorem gj (ns:List Int):SeqAt.shaped (dL ns)=true:=by
 simp [dL,SeqAt.shaped,PyData.canLay0,PyData.depth,PySem.W.ke_canLayAll0,PySem.W.ke_depthAll]
theorem eqv_dL (ns ms:List Int):PyData.eqv (dL ns) (dL ms)=decide (ns=ms):=by
 simp only [dL,PyData.eqv]; exact fD ns ms
def spELev:Sp:=fun vs H Q _=>∃ (c r:Addr) (P:Int) (cs:List Int) (es:List V) (row:List (List am)),vs=[.ref c,.ref r]/\H c=some (.lst (cs.map V.int))/\H r=some (.lst es)/\Paired (EntR P H) es row/\row.length=cs.length/\row.length <= 60/\∀ l H',H l=none->Same H H'->H' l=some (.lst ((aK cs row).map V.int))->Q (.ref l) H'
section
variable {P:Program} {w:World} {K:Frag} {mg:Str->Option Value} {base:Heap}
theorem jo:FnScope ["columns", "row"] ["columns", "row"] (al dC):=.i
theorem ok_elev {f:Addr} {fd:FuncData} (F:Fun K "entry_levels" "entry_levels" dC f fd) (T:Blt mg) (Glevel:FnB P w K mg base 2 "level" spLevel):aI P w K mg base CX0 3 f fd ["columns", "row"] spELev:=by
 refine F.ok jo (fun vs H Q E h=>?_) (fun cdv A outer s H vs Q E hr h=>?_)
 ·obtain ⟨c,r,P,cs,es,row,rfl,_⟩:=h
  rfl
 ·obtain ⟨c,r,P,cs,es,row,rfl,hc,hr',pr,lrc,hn,q⟩:=h
  have le:es.length=row.length:=Paired.length pr
  refine ⟨_,(ak (aq (by exact bj (N:=["own", "entry"]) (src:=[none,none]) rfl rfl rfl (by exact (ir K false false rfl rfl T.zip (aa (pv 0) (aa (pv 1) af)))) (fun _ _ _=>by exact ⟨by exact (dJ K (i:=0) (j:=1) rfl rfl nd_15 rfl rfl rfl rfl),(fg (az (kneD K rfl hr.units) (pv 1) (bb af) (ar _))),by exact (au aP (pv 0) (aw Glevel hr.m (aa (pv 1) af)))⟩)))),?_⟩
  refine ⟨_,rfl,_,rfl,c,r,rfl,⟨_,bZ (SqL.of hc)⟩,⟨_,bZ (SqL.of hr')⟩,be (n:=es.length) (σ0:=[none,none]) rfl (fun acc i ws σ H'=>∃ u v:Option V,σ=[u,v]/\Same H H'/\ws=(aK (cs.take i) (row.take i)).map V.int) (by rw [sizeLine_eq]; omega) (fun acc hacc=>⟨none,none,rfl,Same.new hacc,rfl⟩) ?_ ?_ ?_ ?_⟩
  ·rintro acc i ws σ H' hacc hi hz ⟨u,v,rfl,sm,_⟩
   exact ⟨cs.map V.int,es,(cs.map V.int)[i]'(by rw [List.length_map]; omega),es[i],bZ (SqL.of (sm _ _ hc)),bZ (SqL.of (sm _ _ hr')),List.getElem?_eq_getElem _,by simp [hi]⟩
  ·rintro acc ws σ H' hacc hz ⟨u,v,rfl,sm,_⟩
   exact ⟨cs.map V.int,es,bZ (SqL.of (sm _ _ hc)),bZ (SqL.of (sm _ _ hr')),.inr (Nat.le_refl _)⟩
  ·rintro acc i ws σ H1 x H' hacc hi hz hzl ⟨u,v,rfl,sm,rfl⟩ ⟨p,x1,y1,rfl,np,rfl,gx,gy⟩
   have hx:=gx _ (bZ (SqL.of (sm _ _ hc)))
   have hy:=gy _ (bZ (SqL.of (sm _ _ hr')))
   obtain ⟨z,ez,rfl⟩:=fe hx
   obtain ⟨e,ee,l,ts,rfl,hl,pe⟩:=aG pr hy
   have s2:=Same.new (o:=.tup [.int z,.ref l]) np
   have h2:(upd H1 p (.tup [.int z,.ref l])) p=some (.tup [.int z,.ref l]):=ac
   generalize upd H1 p (.tup [.int z,.ref l])=H2 at *
   have ic:i < cs.length:=(List.getElem?_eq_some_iff.mp ez).1
   have lt:(cs.take i).length=(row.take i).length:=by rw [List.length_take,List.length_take,lrc]
   have e1:aK (cs.take (i + 1)) (row.take (i + 1))=aK (cs.take i) (row.take i) ++ lv1 z e:=by
    rw [List.take_add_one,List.take_add_one,ez,ee]
    exact iA lt
   have ll:=fB (cs.take i) (row.take i)
   rw [List.length_take] at ll
   refine ⟨p,_,rfl,SqT.of h2,rfl,_,_,rfl,_,_,rfl,rfl,?_⟩
   refine ⟨_,rfl,Nat.zero_le _,fun l4 n4=>?_⟩
   have s4:=Same.new (o:=.lst []) n4
   have h4:(upd H2 l4 (.lst [])) l4=some (.lst []):=ac
   generalize upd H2 l4 (.lst [])=H4 at *
   have sm4:=(sm.trans s2).trans s4
   refine ⟨dS P e,dS P [],eh (sm4 _ _ hl) (pe.mono fun t xs e=>sm4 _ _ e),eh h4 .nil,ba _ _,ba _ _,_,rfl,?_⟩
   rw [fZ]
   have hz4:=s4 _ _ (s2 _ _ hz)
   cases e with
   | nil=>
    refine aO ⟨_,hz4,by rw [List.length_map]; omega,_,_,rfl,sm4,?_⟩
    rw [e1,show lv1 z []=[] from rfl,List.append_nil]
   | cons q0 t0=>
    refine aH ⟨_,rfl,_,rfl,l,P,ts,q0 :: t0,rfl,sm4 _ _ hl,pe.mono (fun t xs e=>sm4 _ _ e),fun H5 s5=>⟨_,_,rfl,rfl,?_⟩⟩
    refine ⟨_,s5 _ _ hz4,by rw [List.length_map,sizeLine_eq]; omega,_,ac,by rw [List.length_append,List.length_map,List.length_singleton]; omega,_,_,rfl,(sm4.trans s5).put hacc,?_⟩
    rw [e1,List.map_append]
    rfl
  ·rintro acc ws σ H1 hacc hz hzl ⟨u,v,rfl,sm,rfl⟩
   refine q acc H1 hacc sm ?_
   rw [hz,List.take_of_length_le (by omega),List.take_of_length_le (by omega)]
theorem sc_row_level:FnScope ["columns", "row", "levels"] ["columns", "row"] (al fV):=.i
theorem ok_rlev {f:Addr} {fd:FuncData} (F:Fun K "row_level" "row_level" fV f fd) (T:Blt mg) (Gentry_levels:FnB P w K mg base 3 "entry_levels" spELev):aI P w K mg base CX0 4 f fd ["columns", "row"] (fun vs H Q E=>∃ (c r:Addr) (P:Int) (cs:List Int) (es:List V) (row:List (List am)),vs=[.ref c,.ref r]/\H c=some (.lst (cs.map V.int))/\H r=some (.lst es)/\Paired (EntR P H) es row/\row.length=cs.length/\row.length <= 60/\∀ H',Same H H'->Q (bA cs row) H'):=by
 refine F.ok sc_row_level (fun vs H Q E h=>?_) (fun cdv A outer s H vs Q E hr h=>?_)
 ·obtain ⟨c,r,P,cs,es,row,rfl,_⟩:=h
  rfl
 ·obtain ⟨c,r,P,cs,es,row,rfl,hc,hr',pr,lrc,hn,q⟩:=h
  refine ⟨_,(ag (aA (i:=2) sc_row_level.nd rfl (Or.inl rfl) (aw Gentry_levels hr.m (aa (pv 0) (aa (pv 1) af))))
(ag (aJ (az (keqD K rfl hr.units) (pv 2) (bb af) (ar _))
(ak (aq gU))
aB)
(ak (aq (aE (aD K rfl) (pv 2) ae (fun _ _=>rfl)))))),?_⟩
  refine ⟨_,rfl,_,rfl,c,r,P,cs,es,row,rfl,hc,hr',pr,lrc,hn,fun l H1 nl s1 hl=>?_⟩
  refine ⟨_,rfl,Nat.zero_le _,fun l2 n2=>?_⟩
  have s2:=Same.new (o:=.lst []) n2
  have h2:(upd H1 l2 (.lst [])) l2=some (.lst []):=ac
  generalize upd H1 l2 (.lst [])=H2 at *
  refine ⟨dL (aK cs row),dL [],dr_dL (s2 _ _ hl),dr_dL h2,gj _,gj _,_,rfl,?_⟩
  rw [eqv_dL]
  have z:=q H2 (s1.trans s2)
  unfold bA at z
  rw [jb] at z
  have hl2:=s2 _ _ hl
  cases e:aK cs row with
  | nil=>
   rw [e] at z
   exact aH z
  | cons x xs=>
   rw [e] at z hl2
   exact aO ⟨_,rfl,l,_,_,_,rfl,rfl,SqL.of hl2,iG _ _,z⟩
end
theorem nd_16:(["entry", "ring"]:List Str).Nodup:=by decide +kernel
theorem nd_17:(["row", "ring", "columns"]:List Str).Nodup:=by decide +kernel
def NL (K:Frag) (H:Hp) (v:V):Prop:=∃ t,TyOf K H v t/\kitOne K t (.type "list")=some false
theorem NL.soft {K:Frag} {H H':Hp} {v:V} (s:Soft H H') (h:NL K H v):NL K H' v:=by
 obtain ⟨t,ty,e⟩:=h
 exact ⟨t,TyOf.soft s ty,e⟩
def EntS (P L:Int) (H:Hp) (p:Addr) (x:V) (ps:List am):Prop:=∃ l ts,x=.ref l/\l ≠ p/\H l=some (.lst ts)/\PartsR P H ts ps/\ps.length <= 60/\fj P ps/\(∀ q ∈ ps,(q.1.length:Int)=L/\q.1.length <= 10/\∀ e ∈ q.1,0 <= e)/\et ps=true
theorem EntS.sthing {K:Frag} {P L:Int} {H:Hp} {p:Addr} {x:V} {ps:List am} (h:EntS P L H p x ps):SThing K P L H p x true:=by
 obtain ⟨l,ts,rfl,lp,hl,pr,ln,ok,hL,cn⟩:=h
 exact .inr (.inr ⟨l,ts,ps,rfl,lp,hl,pr,ln,ok,hL,cn.symm⟩)
theorem SThing.ents {K:Frag} {P L:Int} {H:Hp} {p:Addr} {x:V} (h:SThing K P L H p x true):∃ ps,EntS P L H p x ps:=by
 rcases h with ⟨z,_⟩ | ⟨z,_⟩ | ⟨l,ts,ps,rfl,lp,hl,pr,ln,ok,hL,cn⟩
 ·cases z
 ·cases z
 ·exact ⟨ps,l,ts,rfl,lp,hl,pr,ln,ok,hL,cn.symm⟩
theorem EntS.keep {P L:Int} {H H':Hp} {p:Addr} {x:V} {ps:List am} (s:Soft H H') (k:∀ c o,H c=some o->c ≠ p->H' c=some o) (h:EntS P L H p x ps):EntS P L H' p x ps:=by
 obtain ⟨l,ts,rfl,lp,hl,pr,r⟩:=h
 exact ⟨l,ts,rfl,lp,k _ _ hl lp,pr.mono fun t xs e=>s.tup e,r⟩
theorem EntS.ent {P L:Int} {H:Hp} {p:Addr} {x:V} {ps:List am} (h:EntS P L H p x ps):EntR P H x ps:=by
 obtain ⟨l,ts,rfl,lp,hl,pr,_⟩:=h
 exact ⟨l,ts,rfl,hl,pr⟩
theorem PartR.det {P:Int} {H:Hp} {v:V} {p q:am} (h:PartR P H v p) (h':PartR P H v q):p=q:=by
 obtain ⟨t,k,u,rfl,h1,h2,h3⟩:=h
 obtain ⟨t',k',u',e,g1,g2,g3⟩:=h'
 cases e
 rw [h1] at g1
 cases g1
 have e1:p.1=q.1:=by rw [<- mf h2,<- mf g2]
 have e2:p.2=q.2:=by rw [<- lW h3,<- lW g3]
 exact Prod.ext e1 e2
theorem PartsR.det {P:Int} {H:Hp}:∀ {vs:List V} {ps qs:List am},PartsR P H vs ps->PartsR P H vs qs->ps=qs
 | _,_,_,.nil,.nil=>rfl
 | _,_,_,.cons a r,.cons b s=>by rw [a.det b,PartsR.det r s]
theorem EntS.det {P L:Int} {H:Hp} {p:Addr} {x:V} {ps qs:List am} (h:EntS P L H p x ps) (h':EntS P L H p x qs):ps=qs:=by
 obtain ⟨l,ts,rfl,_,hl,pr,_⟩:=h
 obtain ⟨l',ts',e,_,hl',pr',_⟩:=h'
 cases e
 rw [hl] at hl'
 cases hl'
 exact pr.det pr'
theorem NL.nolist {K:Frag} {H:Hp} {l:Addr} {xs:List V} (h:NL K H (.ref l)) (hl:H l=some (.lst xs)):False:=by
 obtain ⟨t,ty,e⟩:=h
 cases ty with
 | lst z=>
  have e2:kitOne K (Value.type "list") (.type "list")=some true:=rfl
  rw [e2] at e
  cases e
 | frz z=>rw [hl] at z; cases z
 | tup z=>rw [hl] at z; cases z
 | dK z=>rw [hl] at z; cases z
 | dT z=>rw [hl] at z; cases z
 | ins z cl ha hn htk hm=>rw [hl] at z; cases z
theorem SThing.noent {K:Frag} {P L:Int} {H:Hp} {p:Addr} {x:V} {ps:List am} (h:SThing K P L H p x false) (h':EntS P L H p x ps):False:=by
 obtain ⟨l,ts,rfl,lp,hl,pr,ln,ok,hL,cn⟩:=h'
 rcases h with ⟨_,t,ty,e⟩ | ⟨_,l',xs,e,_,hl',_,_,y,hy,hyv⟩ | ⟨l',ts',qs,e,_,hl',pr',_,_,_,cq⟩
 ·exact NL.nolist ⟨t,ty,e⟩ hl
 ·cases e
  rw [hl] at hl'
  cases hl'
  obtain ⟨r,mr,hr⟩:=pr.mem hy
  rw [hr.itemV (F:=K) (ok.1 r mr).1 (ok.1 r mr).2 (hL r mr).1 (hL r mr).2.2] at hyv
  cases hyv
 ·cases e
  rw [hl] at hl'
  cases hl'
  rw [pr.det pr',<- cq] at cn
  cases cn
def gs (ns:List Int):Bool:=decide (∀ a ∈ ns,∀ b ∈ ns,a=b)
def rowB (cs:List Int) (pss:List (List am)):Bool:=pss.all lvl && gs (aK cs pss)
def RThing (K:Frag) (P L:Int) (H:Hp) (p:Addr) (cs:List Int) (v:V) (o:Option (List (List am))):Prop:=(o=none/\NL K H v) \/
 ∃ l xs bs,v=.ref l/\l ≠ p/\H l=some (.lst xs)/\xs.length <= 60/\Paired (SThing K P L H p) xs bs/\((o=none/\(xs.length ≠ cs.length\/false ∈ bs))\/(xs.length=cs.length/\∃ pss,Paired (EntS P L H p) xs pss/\o=if rowB cs pss=true then some pss else none))
theorem RThing.keep {K:Frag} {P L:Int} {H H':Hp} {p:Addr} {cs:List Int} {v:V} {o:Option (List (List am))} (s:Soft H H') (k:∀ c o,H c=some o->c ≠ p->H' c=some o) (h:RThing K P L H p cs v o):RThing K P L H' p cs v o:=by
 rcases h with ⟨rfl,h⟩ | ⟨l,xs,bs,rfl,lp,hl,ln,pb,h⟩
 ·exact .inl ⟨rfl,h.soft s⟩
 ·refine .inr ⟨l,xs,bs,rfl,lp,k _ _ hl lp,ln,ap (fun _ _ z=>z.keep s k) pb,?_⟩
  rcases h with h | ⟨e,pss,ps,rfl⟩
  ·exact .inl h
  ·exact .inr ⟨e,pss,ap (fun _ _ z=>z.keep s k) ps,rfl⟩
def kF (cs:List Int):Option (List (List am))->Bool
 | none=>false
 | some pss=>(aX cs pss).isSome
def TThing (K:Frag) (P L:Int) (H:Hp) (p:Addr) (cs:List Int) (v:V) (b:Bool):Prop:=(b=false/\NL K H v) \/
 ∃ l xs os,v=.ref l/\l ≠ p/\H l=some (.lst xs)/\xs.length <= 60/\Paired (RThing K P L H p cs) xs os/\b=os.all (kF cs)
def mh (K:Frag) (CF CR CG:Addr):Sp:=fun vs H Q _=>∃ (g x p c:Addr) (P L:Int) (cs:List Int) (v:V) (o:Option (List (List am))),vs=[.ref g,.ref c,v]/\PrimeOk P/\fU CG H g x L/\NumsAt CF CR H x P/\H c=some (.lst (cs.map V.int))/\cs.length <= 60/\RThing K P L H p cs v o/\∀ H',Same H H'->Q (.bl o.isSome) H'
def lR (K:Frag) (CF CR CG:Addr):Sp:=fun vs H Q _=>∃ (g x p c:Addr) (P L:Int) (cs:List Int) (v:V) (b:Bool),vs=[.ref g,.ref c,v]/\PrimeOk P/\fU CG H g x L/\NumsAt CF CR H x P/\H c=some (.lst (cs.map V.int))/\cs.length <= 60/\TThing K P L H p cs v b/\∀ H',Same H H'->Q (.bl b) H'
def spRLev:Sp:=fun vs H Q E=>∃ (c r:Addr) (P:Int) (cs:List Int) (es:List V) (row:List (List am)),vs=[.ref c,.ref r]/\H c=some (.lst (cs.map V.int))/\H r=some (.lst es)/\Paired (EntR P H) es row/\row.length=cs.length/\row.length <= 60/\∀ H',Same H H'->Q (bA cs row) H'
section
variable {P:Program} {w:World} {K:Frag} {mg:Str->Option Value} {base:Heap}
theorem sc_is_row:FnScope ["ring", "columns", "thing"] ["ring", "columns", "thing"] (al jH):=.i
set_option maxHeartbeats 1000000 in
theorem ok_isrow {f CF CR CG:Addr} {fd:FuncData} (F:Fun K "is_row" "is_row" jH f fd) (T:Blt mg) (nset:mg "set" = none) (Gis_sum:FnB P w K mg base 4 "is_sum" (spIsSum K CF CR CG)) (Gis_level:FnB P w K mg base 2 "is_level" lP) (Gentry_levels:FnB P w K mg base 3 "entry_levels" spELev) :
  aI P w K mg base CX0 5 f fd ["ring", "columns", "thing"] (mh K CF CR CG):=by
 refine F.ok sc_is_row (fun vs H Q E h=>?_) (fun cdv A outer s H vs Q E hr h=>?_)
 ·obtain ⟨g,x,p,c,P,L,cs,v,o,rfl,_⟩:=h
  rfl
 ·obtain ⟨g,x,p,c,P,L,cs,v,o,rfl,hP,hG,hN,hc,hcl,hv,q⟩:=h
  refine ⟨_,(ag (aJ (PW.pt (bR (aY (aW (bX K T (pv 2) T.list cv))) (bL (az iw (bo K T (pv 2)) (bo K T (pv 1)) (ar _)))))
(ak (aq bQ))
aB)
(ag (aJ (aY (aW (dM K T (by exact bj (N:=["entry", "ring"]) (src:=[none,some 0]) rfl rfl rfl (by exact (aZ K rfl (pv 2))) (fun _ _ _=>by exact ⟨by exact (bU (i:=0) nd_16 rfl rfl),bi,by exact (cr (aw Gis_sum hr.m (aa (pv 1) (aa (pv 0) af))) (bY (aw Gis_level hr.m (aa (pv 0) af))))⟩)) false)))
(ak (aq bQ))
aB)
(ak (aq (aV je (kpl_lenS T (kpl_set nset (aw Gentry_levels hr.m (aa (pv 1) (aa (pv 2) af))))) ae (ar _)))))),?_⟩
  obtain ⟨dxg,hg⟩:=id hG
  rcases hv with ⟨rfl,t,ty,e⟩ | ⟨l,xs,bs,rfl,lp,hl,ln,pb,h⟩
  ·exact ⟨_,rfl,t,false,ty,e,_,rfl,aH (aH (q H (Same.refl H)))⟩
  refine ⟨_,rfl,_,true,.lst hl,rfl,_,rfl,aO ?_⟩
  refine ⟨_,rfl,l,xs,rfl,.inl (SqL.of hl),_,rfl,c,_,rfl,.inl (SqL.of hc),rfl,_,rfl,?_⟩
  have lb:xs.length=bs.length:=Paired.length pb
  by_cases hlen:xs.length=cs.length
  ·rw [show decide (V.int (xs.length:Int)=V.int ((cs.map V.int).length:Int))=true from decide_eq_true (by rw [List.length_map,hlen])]
   refine aO ?_
   refine ⟨_,rfl,l,rfl,⟨_,SqL.of hl⟩,be (n:=xs.length) (σ0:=[none,some (.ref g)]) rfl (fun acc i ws σ H'=>∃ (u:Option V) (ls:List Bool),σ=[u,some (.ref g)]/\Same H H'/\ws=ls.map V.bl/\ls.length=i/\∀ (j:Nat) (b:Bool),j < i->bs[j]? = some b->∃ c,ls[j]? = some c/\(b=false->c=false)/\∀ (y:V) (ps:List am),xs[j]? = some y->EntS P L H p y ps->c=lvl ps) (by rw [sizeLine_eq]; omega) (fun acc hacc=>⟨none,[],rfl,Same.new hacc,rfl,rfl,fun j b hj=>absurd hj (by omega)⟩) ?_ ?_ ?_ ?_⟩
   ·rintro acc i ws σ H' hacc hi hz ⟨u,ls,rfl,sm,_⟩
    exact ⟨xs,xs[i],SqL.of (sm _ _ hl),by simp [hi]⟩
   ·rintro acc ws σ H' hacc hz ⟨u,ls,rfl,sm,_⟩
    exact ⟨xs,SqL.of (sm _ _ hl),Nat.le_refl _⟩
   ·rintro acc i ws σ H1 y H' hacc hi hz hzl ⟨u,ls,rfl,sm,rfl,ll,hls⟩ ⟨rfl,gx⟩
    have hy:=gx xs (SqL.of (sm _ _ hl))
    obtain ⟨b,eb,sb⟩:=aG pb hy
    have sb1:=sb.keep (Soft.of sm) fun c o e _=>sm c o e
    refine ⟨_,rfl,_,rfl,g,x,p,P,L,y,b,rfl,hP,⟨dxg,sm _ _ hg⟩,hN.mono fun o e=>sm _ _ e,sb1,fun H2 s2=>⟨_,rfl,?_⟩⟩
    have fin:∀ (cc:Bool) (H3:Hp),Same H' H3->(b=false->cc=false)->(∀ ps,EntS P L H p y ps->cc=lvl ps)->∃ ys,H3 acc=some (.lst ys)/\ys.length < sizeLine/\∃ zs,(upd H3 acc (.lst (ys ++ [.bl cc]))) acc=some (.lst zs)/\zs.length <= i + 1/\∃ (u':Option V) (ls':List Bool),[some y,some (V.ref g)]=[u',some (.ref g)]/\Same H (upd H3 acc (.lst (ys ++ [.bl cc])))/\zs=ls'.map V.bl/\ls'.length=i + 1/\∀ (j:Nat) (b:Bool),j < i + 1->bs[j]? = some b->∃ c,ls'[j]? = some c/\(b=false->c=false)/\∀ (y:V) (ps:List am),xs[j]? = some y->EntS P L H p y ps->c=lvl ps:=fun cc H3 s3 h1 h2=>by
     refine ⟨_,s3 _ _ hz,by rw [List.length_map,sizeLine_eq]; omega,_,ac,by rw [List.length_append,List.length_map,List.length_singleton]; omega,_,ls ++ [cc],rfl,(sm.trans s3).put hacc,by rw [List.map_append]; rfl,by rw [List.length_append,ll]; rfl,fun j b' hj hb'=>?_⟩
     by_cases hj':j < i
     ·obtain ⟨c',z1,z2⟩:=hls j b' hj' hb'
      exact ⟨c',by rw [List.getElem?_append_left (by omega)]; exact z1,z2⟩
     ·have:j=i:=by omega
      subst this
      rw [eb] at hb'
      cases hb'
      refine ⟨cc,by rw [List.getElem?_append_right (by omega),ll,Nat.sub_self]; rfl,h1,fun y' ps hy' he=>?_⟩
      rw [hy] at hy'
      cases hy'
      exact h2 ps he
    cases b with
    | false=>
     refine aO (fin false H2 s2 (fun _=>rfl) fun ps he=>?_)
     exact absurd he (fun z=>sb.noent z)
    | true=>
     obtain ⟨ps,he⟩:=sb.ents
     obtain ⟨l1,ts1,rfl,lp1,hl1,pr1,_⟩:=id he
     have sm2:=sm.trans s2
     refine aH ⟨_,rfl,l1,P,ts1,ps,rfl,sm2 _ _ hl1,pr1.mono (fun t xs e=>sm2 _ _ e),fun H3 s3=>?_⟩
     exact fin (lvl ps) H3 (s2.trans s3) (fun z=>by cases z) fun ps' he'=>by rw [EntS.det he he']
   ·rintro acc ws σ H1 hacc hz hzl ⟨u,ls,rfl,sm,rfl,ll,hls⟩
    refine ⟨acc,ls,rfl,bZ (SqL.of hz),_,rfl,?_⟩
    rcases h with ⟨rfl,hf⟩ | ⟨_,pss,pe,rfl⟩
    ·have hf:false ∈ bs:=by
      rcases hf with z | z
      ·exact absurd hlen z
      ·exact z
     obtain ⟨j,hj,ej⟩:=List.getElem_of_mem hf
     obtain ⟨cc,z1,z2,_⟩:=hls j false (by omega) (by rw [List.getElem?_eq_getElem hj,ej])
     have e2:ls.all id=false:=by
      rw [List.all_eq_false]
      exact ⟨false,by rw [<- z2 rfl]; exact List.mem_of_getElem? z1,by decide⟩
     rw [e2]
     exact aH (q H1 sm)
    ·have els:ls=pss.map lvl:=by
      have lp:xs.length=pss.length:=Paired.length pe
      refine List.ext_getElem? fun j=>?_
      by_cases hj:j < xs.length
      ·obtain ⟨ps,ep,he⟩:=aG pe (List.getElem?_eq_getElem hj)
       obtain ⟨b,eb⟩:∃ b,bs[j]? = some b:=⟨_,List.getElem?_eq_getElem (by omega)⟩
       obtain ⟨cc,z1,_,z3⟩:=hls j b (by omega) eb
       rw [z1,z3 _ ps (List.getElem?_eq_getElem hj) he,List.getElem?_map,ep]
       rfl
      ·rw [List.getElem?_eq_none (by omega),List.getElem?_eq_none (by rw [List.length_map]; omega)]
     have eal:ls.all id=pss.all lvl:=by rw [els,List.all_map]; rfl
     rw [eal]
     have z:=q
     unfold rowB at z
     by_cases hl1:pss.all lvl=true
     ·rw [hl1] at z ⊢
      refine aO ?_
      have lpc:pss.length=cs.length:=by rw [<- Paired.length pe]; exact hlen
      refine ⟨_,rfl,_,rfl,c,l,P,cs,xs,pss,rfl,sm _ _ hc,sm _ _ hl,ap (fun _ _ y=>y.ent.same sm) pe,lpc,by omega,fun l2 H2 n2 s2 h2=>?_⟩
      have lll:=fB cs pss
      refine ⟨l2,aK cs pss,rfl,SqL.of h2,by omega,fun sa S nsa=>?_⟩
      have s3:=Same.new (o:=.set S (ddn (aK cs pss))) nsa
      refine ⟨sa,S,_,rfl,ac,_,_,rfl,rfl,?_⟩
      have e3:decide ((ddn (aK cs pss):Int) <= 1)=gs (aK cs pss):=by
       unfold gs
       rw [<- ddn_le_one]
       exact decide_eq_decide.mpr ⟨fun z=>by omega,fun z=>by omega⟩
      show Q (.bl (decide ((ddn (aK cs pss):Int) <= 1))) _
      rw [e3]
      have z1:=z _ ((sm.trans s2).trans s3)
      cases hs:gs (aK cs pss) with
      | true=>rw [hs] at z1; exact z1
      | false=>rw [hs] at z1; exact z1
     ·rw [Bool.eq_false_iff.mpr hl1] at z ⊢
      exact aH (z H1 sm)
  ·rw [show decide (V.int (xs.length:Int)=V.int ((cs.map V.int).length:Int))=false from decide_eq_false fun z=>hlen (by injection z with z; rw [List.length_map] at z; omega)]
   have ho:o=none:=by
    rcases h with ⟨z,_⟩ | ⟨z,_⟩
    ·exact z
    ·exact absurd z hlen
   subst ho
   exact aH (q H (Same.refl H))
theorem sc_is_table:FnScope ["ring", "columns", "thing"] ["ring", "columns", "thing"] (al gG):=.i
theorem ok_istable {f CF CR CG:Addr} {fd:FuncData} (F:Fun K "is_table" "is_table" gG f fd) (T:Blt mg) (Gis_row:FnB P w K mg base 5 "is_row" (mh K CF CR CG)) (Grow_level:FnB P w K mg base 4 "row_level" spRLev) :
  aI P w K mg base CX0 6 f fd ["ring", "columns", "thing"] (lR K CF CR CG):=by
 refine F.ok sc_is_table (fun vs H Q E h=>?_) (fun cdv A outer s H vs Q E hr h=>?_)
 ·obtain ⟨g,x,p,c,P,L,cs,v,b,rfl,_⟩:=h
  rfl
 ·obtain ⟨g,x,p,c,P,L,cs,v,b,rfl,hP,hG,hN,hc,hcl,hv,q⟩:=h
  refine ⟨_,(ag (aJ (aY (aW (bX K T (pv 2) T.list cv)))
(ak (aq bQ))
aB)
(ak (aq (dM K T (by exact bj (N:=["row", "ring", "columns"]) (src:=[none,some 0,some 1]) rfl rfl rfl (by exact (aZ K rfl (pv 2))) (fun _ _ _=>by exact ⟨by exact (bU (i:=0) nd_17 rfl rfl),bi,by exact (cr (aw Gis_row hr.m (aa (pv 1) (aa (pv 2) (aa (pv 0) af)))) (bY (aV op_notN (aw Grow_level hr.m (aa (pv 2) (aa (pv 0) af))) gU (ar _))))⟩)) false)))),?_⟩
  obtain ⟨dxg,hg⟩:=id hG
  rcases hv with ⟨rfl,t,ty,e⟩ | ⟨l,xs,os,rfl,lp,hl,ln,po,rfl⟩
  ·exact ⟨_,rfl,t,false,ty,e,_,rfl,aH (q H (Same.refl H))⟩
  refine ⟨_,rfl,_,true,.lst hl,rfl,_,rfl,aO ?_⟩
  have lo:xs.length=os.length:=Paired.length po
  refine ⟨_,rfl,l,rfl,⟨_,SqL.of hl⟩,be (n:=xs.length) (σ0:=[none,some (.ref g),some (.ref c)]) rfl (fun acc i ws σ H'=>∃ u:Option V,σ=[u,some (.ref g),some (.ref c)]/\Same H H'/\ws=((os.take i).map (kF cs)).map V.bl) (by rw [sizeLine_eq]; omega) (fun acc hacc=>⟨none,rfl,Same.new hacc,rfl⟩) ?_ ?_ ?_ ?_⟩
  ·rintro acc i ws σ H' hacc hi hz ⟨u,rfl,sm,_⟩
   exact ⟨xs,xs[i],SqL.of (sm _ _ hl),by simp [hi]⟩
  ·rintro acc ws σ H' hacc hz ⟨u,rfl,sm,_⟩
   exact ⟨xs,SqL.of (sm _ _ hl),Nat.le_refl _⟩
  ·rintro acc i ws σ H1 y H' hacc hi hz hzl ⟨u,rfl,sm,rfl⟩ ⟨rfl,gx⟩
   have hy:=gx xs (SqL.of (sm _ _ hl))
   obtain ⟨o,eo,ro⟩:=aG po hy
   have ro1:=ro.keep (Soft.of sm) fun c o e _=>sm c o e
   have fin:∀ (H3:Hp),Same H' H3->∃ ys,H3 acc=some (.lst ys)/\ys.length < sizeLine/\∃ zs,(upd H3 acc (.lst (ys ++ [.bl (kF cs o)]))) acc=some (.lst zs)/\zs.length <= i + 1/\∃ u':Option V,[some y,some (V.ref g),some (V.ref c)]=[u',some (.ref g),some (.ref c)]/\Same H (upd H3 acc (.lst (ys ++ [.bl (kF cs o)])))/\zs=((os.take (i + 1)).map (kF cs)).map V.bl:=fun H3 s3=>by
    refine ⟨_,s3 _ _ hz,by rw [List.length_map,List.length_map,List.length_take,sizeLine_eq]; omega,_,ac,by rw [List.length_append,List.length_map,List.length_map,List.length_take,List.length_singleton]; omega,_,rfl,(sm.trans s3).put hacc,?_⟩
    rw [List.take_add_one,eo,List.map_append,List.map_append]
    rfl
   refine ⟨_,rfl,_,rfl,_,rfl,g,x,p,c,P,L,cs,y,o,rfl,hP,⟨dxg,sm _ _ hg⟩,hN.mono (fun o e=>sm _ _ e),sm _ _ hc,hcl,ro1,fun H2 s2=>⟨_,rfl,?_⟩⟩
   cases o with
   | none=>exact aO (fin H2 s2)
   | some pss=>
    refine aH ?_
    rcases ro with ⟨z,_⟩ | ⟨l1,xs1,bs1,rfl,lp1,hl1,ln1,pb1,h1⟩
    ·cases z
    rcases h1 with ⟨z,_⟩ | ⟨e1,pss',pe1,z⟩
    ·cases z
    have epp:pss=pss':=by
     split at z
     ·cases z; rfl
     ·cases z
    subst epp
    have sm2:=sm.trans s2
    have lpc:pss.length=cs.length:=by rw [<- Paired.length pe1]; exact e1
    refine ⟨_,rfl,_,rfl,c,l1,P,cs,xs1,pss,rfl,sm2 _ _ hc,sm2 _ _ hl1,ap (fun _ _ y=>y.ent.same sm2) pe1,lpc,by omega,fun H3 s3=>⟨rfl,?_⟩⟩
    have e4:(!decide (bA cs pss=.non))=kF cs (some pss):=by
     show (!decide (bA cs pss=.non))=(aX cs pss).isSome
     unfold bA
     cases aX cs pss<;>rfl
    have z:=fin H3 (s2.trans s3)
    rw [<- e4] at z
    exact z
  ·rintro acc ws σ H1 hacc hz hzl ⟨u,rfl,sm,rfl⟩
   refine ⟨acc,_,rfl,bZ (SqL.of hz),?_⟩
   have z:=q H1 sm
   rw [List.take_of_length_le (by omega),List.all_map]
   exact z
end
theorem nd_18:(["_law_entry", "_law_prime_here", "_law_letters"]:List Str).Nodup:=by decide +kernel
theorem nd_19:(["_law_product_here", "_law_number_here", "_law_column"]:List Str).Nodup:=by decide +kernel
theorem klt_deg {p q:am} (h:gu p q):q.1.sum <= p.1.sum:=by
 unfold gu at h
 rw [mW] at h
 by_cases e:(hk q).1=(hk p).1
 ·have e':q.1.sum=p.1.sum:=e
  omega
 ·rw [if_neg e] at h
  have:(hk q).1 < (hk p).1:=of_decide_eq_true h
  have:q.1.sum < p.1.sum:=this
  omega
theorem last_le:∀ {l:List am} (hne:l ≠ []),l.Pairwise gu->∀ q ∈ l,(l.getLast hne).1.sum <= q.1.sum
 | [p],_,_,q,hq=>by rw [List.mem_singleton.mp hq]; exact Int.le_refl _
 | p :: p' :: r,_,hp,q,hq=>by
  obtain ⟨h1,h2⟩:=List.pairwise_cons.mp hp
  have ih:=last_le (l:=p' :: r) (by simp) h2
  rw [List.getLast_cons (by simp)]
  rcases List.mem_cons.mp hq with rfl | hq
  ·have a:=ih p' (by simp)
   have b:=klt_deg (h1 p' (by simp))
   omega
  ·exact ih q hq
theorem lvl_is {ps:List am} (h:ps.Pairwise gu):lvl ps=decide (∀ a ∈ ps.map (·.1.sum),∀ b ∈ ps.map (·.1.sum),a=b):=by
 cases ps with
 | nil=>
  show true=_
  exact (decide_eq_true (fun a ha=>absurd ha (by simp))).symm
 | cons p r=>
  show decide (p.1.sum=((p :: r).getLast (by simp)).1.sum)=_
  apply decide_eq_decide.mpr
  have hl:=last_le (l:=p :: r) (by simp) h
  have hf:∀ q ∈ p :: r,q.1.sum <= p.1.sum:=fun q hq=>by
   rcases List.mem_cons.mp hq with rfl | hq
   ·exact Int.le_refl _
   ·exact klt_deg ((List.pairwise_cons.mp h).1 q hq)
  constructor
  ·intro e a ha b hb
   obtain ⟨q,hq,rfl⟩:=List.mem_map.mp ha
   obtain ⟨q',hq',rfl⟩:=List.mem_map.mp hb
   have:=hl q hq
   have:=hl q' hq'
   have:=hf q hq
   have:=hf q' hq'
   omega
  ·intro e
   exact e _ (List.mem_map.mpr ⟨p,by simp,rfl⟩) _ (List.mem_map.mpr ⟨_,List.getLast_mem (by simp),rfl⟩)
def bK:List Int->List (List am)->List Int
 | c :: cs,e :: r=>e.map (fun q=>c + q.1.sum) ++ bK cs r
 | _,_=>[]
theorem jS {c:Int} {e:List am}:∀ {cs:List Int} {r:List (List am)},cs.length=r.length->bK (cs ++ [c]) (r ++ [e])=bK cs r ++ e.map (fun q=>c + q.1.sum)
 | [],[],_=>by simp [bK]
 | [],_ :: _,h=>by simp at h
 | _ :: _,[],h=>by simp at h
 | d :: cs,f :: r,h=>by
  show f.map (fun q=>d + q.1.sum) ++ bK (cs ++ [c]) (r ++ [e])=f.map (fun q=>d + q.1.sum) ++ bK cs r ++ _
  rw [jS (by simpa using h),List.append_assoc]
theorem lT {n:Nat}:∀ (cs:List Int) (r:List (List am)),(∀ e ∈ r,e.length <= n)->(bK cs r).length <= n * r.length
 | [],_,_=>by simp [bK]
 | _ :: _,[],_=>by simp [bK]
 | d :: cs,f :: r,h=>by
  have z:=lT cs r fun e he=>h e (by simp [he])
  have zf:=h f (by simp)
  show (f.map (fun q=>d + q.1.sum) ++ bK cs r).length <= _
  rw [List.length_append,List.length_map,List.length_cons,Nat.mul_succ]
  omega
theorem gQ:∀ (cs:List Int) (r:List (List am)),∀ x ∈ aK cs r,x ∈ bK cs r
 | [],_,x,hx=>by simp [aK] at hx
 | _ :: _,[],x,hx=>by simp [aK] at hx
 | d :: cs,f :: r,x,hx=>by
  rcases List.mem_append.mp (show x ∈ lv1 d f ++ aK cs r from hx) with z | z
  ·cases f with
   | nil=>cases z
   | cons q t=>
    rw [List.mem_singleton.mp (show x ∈ [d + q.1.sum] from z)]
    exact List.mem_append_left _ (by simp)
  ·exact List.mem_append_right _ (gQ cs r x z)
theorem j6:∀ (cs:List Int) (r:List (List am)),r.all lvl=true->(∀ e ∈ r,e.Pairwise gu)->∀ x ∈ bK cs r,x ∈ aK cs r
 | [],_,_,_,x,hx=>by simp [bK] at hx
 | _ :: _,[],_,_,x,hx=>by simp [bK] at hx
 | d :: cs,f :: r,hl,hf,x,hx=>by
  rw [List.all_cons,Bool.and_eq_true] at hl
  rcases List.mem_append.mp (show x ∈ f.map (fun q=>d + q.1.sum) ++ bK cs r from hx) with z | z
  ·obtain ⟨q,hq,rfl⟩:=List.mem_map.mp z
   have l1:=hl.1
   rw [lvl_is (hf f (by simp))] at l1
   have l2:=of_decide_eq_true l1
   cases f with
   | nil=>cases hq
   | cons q0 t=>
    have e:q.1.sum=q0.1.sum:=l2 _ (List.mem_map.mpr ⟨q,hq,rfl⟩) _ (List.mem_map.mpr ⟨q0,by simp,rfl⟩)
    rw [e]
    exact List.mem_append_left _ (by simp [lv1])
  ·exact List.mem_append_right _ (j6 cs r hl.2 (fun e he=>hf e (by simp [he])) x z)
theorem mZ {cs:List Int} {r:List (List am)} (hf:∀ e ∈ r,e.Pairwise gu) (hn:r.length=cs.length):rowB cs r=gs (bK cs r):=by
 unfold rowB gs
 by_cases hl:r.all lvl=true
 ·rw [hl,Bool.true_and]
  refine decide_eq_decide.mpr ⟨fun h a ha b hb=>h a (j6 cs r hl hf a ha) b (j6 cs r hl hf b hb),fun h a ha b hb=>h a (gQ cs r a ha) b (gQ cs r b hb)⟩
 ·rw [Bool.eq_false_iff.mpr hl,Bool.false_and]
  symm
  apply decide_eq_false
  intro h
  apply hl
  rw [List.all_eq_true]
  intro e he
  rw [lvl_is (hf e he)]
  apply decide_eq_true
  intro a ha b hb
  obtain ⟨q,hq,rfl⟩:=List.mem_map.mp ha
  obtain ⟨q',hq',rfl⟩:=List.mem_map.mp hb
  obtain ⟨c,hc⟩:∃ c:Int,∀ q ∈ e,c + q.1.sum ∈ bK cs r:=by
   have go:∀ (cs:List Int) (r:List (List am)),r.length=cs.length->e ∈ r->∃ c:Int,∀ q ∈ e,c + q.1.sum ∈ bK cs r:=by
    intro cs
    induction cs with
    | nil=>intro r hr he; rw [List.length_eq_zero_iff.mp hr] at he; cases he
    | cons d cs ih=>
     intro r hr he
     cases r with
     | nil=>cases he
     | cons f r=>
      rcases List.mem_cons.mp he with z | z
      ·subst z
       exact ⟨d,fun q hq=>List.mem_append_left _ (List.mem_map.mpr ⟨q,hq,rfl⟩)⟩
      ·obtain ⟨c,hc⟩:=ih r (by simpa using hr) z
       exact ⟨c,fun q hq=>List.mem_append_right _ (hc q hq)⟩
   exact go cs r hn he
  have:=h _ (hc q hq) _ (hc q' hq')
  omega
theorem sameL_mm {ns:List Int} {m M:Int} (hm:m ∈ ns) (hM:M ∈ ns) (h1:∀ x ∈ ns,m <= x) (h2:∀ x ∈ ns,x <= M):gs ns=decide (m=M):=by
 unfold gs
 refine decide_eq_decide.mpr ⟨fun h=>h m hm M hM,fun h a ha b hb=>?_⟩
 have:=h1 a ha
 have:=h2 a ha
 have:=h1 b hb
 have:=h2 b hb
 omega
def iU (K:Frag):Sp:=fun vs H Q _=>∃ (p c:Addr) (P L:Int) (cs:List Int) (v:V) (o:Option (List (List am))),vs=[.int P,.int L,.ref c,v]/\PrimeOk P/\H c=some (.lst (cs.map V.int))/\cs.length <= 60/\RThing K P L H p cs v o/\∀ H',Same H H'->Q (.bl o.isSome) H'
def lS (K:Frag):Sp:=fun vs H Q _=>∃ (p c:Addr) (P L:Int) (cs:List Int) (v:V) (b:Bool),vs=[.int P,.int L,.ref c,v]/\PrimeOk P/\H c=some (.lst (cs.map V.int))/\cs.length <= 60/\TThing K P L H p cs v b/\∀ H',Same H H'->Q (.bl b) H'
section
variable {P:Program} {w:World} {K:Frag} {mg:Str->Option Value} {base:Heap}
theorem sc__law_row_like:FnScope ["_law_prime_here", "_law_letters", "_law_columns_here", "_law_found", "_law_levels", "_law_column", "_law_entry"] ["_law_prime_here", "_law_letters", "_law_columns_here", "_law_found"] (al di):=.i
set_option maxHeartbeats 1000000 in
theorem ok_rowlike {f:Addr} {fd:FuncData} (F:Fun K "_law_row_like" "_law_row_like" di f fd) (T:Blt mg) (G_law_sum_like:FnB P w K mg base 5 "_law_sum_like" (spSLike2 K)):aI P w K mg base CX0 6 f fd ["_law_prime_here", "_law_letters", "_law_columns_here", "_law_found"] (iU K):=by
 refine F.ok sc__law_row_like (fun vs H Q E h=>?_) (fun cdv A outer s H vs Q E hr h=>?_)
 ·obtain ⟨p,c,P,L,cs,v,o,rfl,_⟩:=h
  rfl
 ·obtain ⟨p,c,P,L,cs,v,o,rfl,hP,hc,hcl,hv,q⟩:=h
  refine ⟨_,(ag (aJ (PW.pt (bR (aY (aW (bX K T (pv 3) T.list cv))) (bL (az iw (bo K T (pv 3)) (bo K T (pv 2)) (ar _)))))
(ak (aq bQ))
aB)
(ag (aJ (aY (aW (dM K T (by exact bj (N:=["_law_entry", "_law_prime_here", "_law_letters"]) (src:=[none,some 0,some 1]) rfl rfl rfl (by exact (aZ K rfl (pv 3))) (fun _ _ _=>by exact ⟨by exact (bU (i:=0) nd_18 rfl rfl),bi,by exact (aw G_law_sum_like hr.m (aa (pv 1) (aa (pv 2) (aa (pv 0) af))))⟩)) false)))
(ak (aq bQ))
aB)
(ag (aA (i:=4) sc__law_row_like.nd rfl (Or.inl rfl) (bb af))
(ag (dh PassesOwn.never rfl (ir K false false rfl rfl T.zip (aa (pv 2) (aa (pv 3) af))) (gA rfl (by exact aQ (by exact (aM (i:=5) sc__law_row_like.nd rfl (Or.inr rfl))) (by exact aQ (by exact (aM (i:=6) sc__law_row_like.nd rfl (Or.inl rfl))) eX)))
(ak (gg (lD PySem.F.plainAttrs_list PySem.F.slot_list_extend PySem.F.type_list_extend mt_extend (pv 4) (aa (by exact bj (N:=["_law_product_here", "_law_number_here", "_law_column"]) (src:=[none,none,some 5]) rfl rfl rfl (by exact (aZ K rfl (pv 6))) (fun _ _ _=>by exact ⟨by exact (dJ K (i:=0) (j:=1) rfl rfl nd_19 rfl rfl rfl rfl),bi,by exact (au aP (pv 2) (iF K T (pv 0) true))⟩)) af)))))
(ak (aq (pe_or (aV (keqD K rfl hr.units) (pv 4) (bb af) (ar _)) (bY (aV bH (kpl_min1 T (pv 4) false) (kh T (pv 4) false) (ar _)))))))))),?_⟩
  rcases hv with ⟨rfl,t,ty,e⟩ | ⟨l,xs,bs,rfl,lp,hl,ln,pb,h⟩
  ·exact ⟨_,rfl,t,false,ty,e,_,rfl,aH (aH (q H (Same.refl H)))⟩
  refine ⟨_,rfl,_,true,.lst hl,rfl,_,rfl,aO ?_⟩
  refine ⟨_,rfl,l,xs,rfl,.inl (SqL.of hl),_,rfl,c,_,rfl,.inl (SqL.of hc),rfl,_,rfl,?_⟩
  have lb:xs.length=bs.length:=Paired.length pb
  by_cases hlen:xs.length=cs.length
  ·rw [show decide (V.int (xs.length:Int)=V.int ((cs.map V.int).length:Int))=true from decide_eq_true (by rw [List.length_map,hlen])]
   refine aO ?_
   refine ⟨_,rfl,l,rfl,⟨_,SqL.of hl⟩,be (n:=xs.length) (σ0:=[none,some (.int P),some (.int L)]) rfl (fun acc i ws σ H'=>∃ u:Option V,σ=[u,some (.int P),some (.int L)]/\Same H H'/\ws=(bs.take i).map V.bl) (by rw [sizeLine_eq]; omega) (fun acc hacc=>⟨none,rfl,Same.new hacc,rfl⟩) ?_ ?_ ?_ ?_⟩
   ·rintro acc i ws σ H' hacc hi hz ⟨u,rfl,sm,_⟩
    exact ⟨xs,xs[i],SqL.of (sm _ _ hl),by simp [hi]⟩
   ·rintro acc ws σ H' hacc hz ⟨u,rfl,sm,_⟩
    exact ⟨xs,SqL.of (sm _ _ hl),Nat.le_refl _⟩
   ·rintro acc i ws σ H1 y H' hacc hi hz hzl ⟨u,rfl,sm,rfl⟩ ⟨rfl,gx⟩
    have hy:=gx xs (SqL.of (sm _ _ hl))
    obtain ⟨b,eb,sb⟩:=aG pb hy
    have sb1:=sb.keep (Soft.of sm) fun c o e _=>sm c o e
    refine ⟨_,rfl,_,rfl,_,rfl,p,P,L,y,b,rfl,hP,sb1,fun H2 s2=>?_⟩
    refine ⟨_,s2 _ _ hz,by rw [List.length_map,List.length_take,sizeLine_eq]; omega,_,ac,by rw [List.length_append,List.length_map,List.length_take,List.length_singleton]; omega,_,rfl,(sm.trans s2).put hacc,?_⟩
    rw [List.take_add_one,eb,List.map_append]
    rfl
   rintro acc ws σ H1 hacc hz hzl ⟨u,rfl,sm,rfl⟩
   rw [List.take_of_length_le (by omega)] at hz
   refine ⟨acc,bs,rfl,bZ (SqL.of hz),_,rfl,?_⟩
   rcases h with ⟨rfl,hf⟩ | ⟨_,pss,pe,rfl⟩
   ·have hf:false ∈ bs:=by
     rcases hf with z | z
     ·exact absurd hlen z
     ·exact z
    have e2:bs.all id=false:=by
     rw [List.all_eq_false]
     exact ⟨false,hf,by decide⟩
    rw [e2]
    exact aH (q H1 sm)
   have e2:bs.all id=true:=by
    rw [List.all_eq_true]
    intro b hb
    obtain ⟨j,hj,rfl⟩:=List.getElem_of_mem hb
    cases eb:bs[j] with
    | true=>rfl
    | false=>
     obtain ⟨ps,_,he⟩:=aG pe (List.getElem?_eq_getElem (show j < xs.length by omega))
     have sb:SThing K P L H p xs[j] bs[j]:=cP pb (List.getElem?_eq_getElem (by omega)) (List.getElem?_eq_getElem hj)
     rw [eb] at sb
     exact absurd he (fun z=>sb.noent z)
   rw [e2]
   refine aO ⟨Nat.zero_le _,fun d nd=>?_⟩
   have s2:=Same.new (o:=.lst []) nd
   have hd2:(upd H1 d (.lst [])) d=some (.lst []):=ac
   generalize upd H1 d (.lst [])=H2 at *
   have sm2:=sm.trans s2
   have lpc:pss.length=cs.length:=by rw [<- Paired.length pe]; exact hlen
   have l60:∀ e ∈ pss,e.length <= 60:=fun e he=>by
    obtain ⟨j,hj,rfl⟩:=List.getElem_of_mem he
    obtain ⟨ps,e1,he⟩:=aG pe (List.getElem?_eq_getElem (show j < xs.length by omega))
    rw [List.getElem?_eq_getElem hj] at e1
    cases e1
    obtain ⟨_,_,_,_,_,_,z,_⟩:=he
    exact z
   refine ⟨_,rfl,_,rfl,c,l,rfl,⟨_,bZ (SqL.of (sm2 _ _ hc))⟩,⟨_,bZ (SqL.of (sm2 _ _ hl))⟩,for_zip (xs:=cs.map V.int) (ys:=xs) (fun i σ H'=>∃ x5 x6:Option V,σ=[some (.int P),some (.int L),some (.ref c),some (.ref l),some (.ref d),x5,x6]/\Same H1 H'/\H' d=some (.lst ((bK (cs.take i) (pss.take i)).map V.int))) ?_ ?_ ?_ ?_⟩
   ·exact ⟨none,none,rfl,s2,hd2⟩
   ·rintro i σ H3 hi ⟨x5,x6,rfl,s3,_⟩
    exact ⟨bZ (SqL.of (s3 _ _ (sm _ _ hc))),bZ (SqL.of (s3 _ _ (sm _ _ hl)))⟩
   ·rintro i x y σ H3 pp hx hy ⟨x5,x6,rfl,s3,hd3⟩ np
    obtain ⟨z,ez,rfl⟩:=fe hx
    obtain ⟨e,ee,he⟩:=aG pe hy
    obtain ⟨l1,ts,rfl,lp1,hl1,pe1,ln1,_⟩:=id he
    have s4:=Same.new (o:=.tup [.int z,.ref l1]) np
    have h4:(upd H3 pp (.tup [.int z,.ref l1])) pp=some (.tup [.int z,.ref l1]):=ac
    generalize upd H3 pp (.tup [.int z,.ref l1])=H4 at *
    have sm4:=(sm.trans s3).trans s4
    have hd4:=s4 _ _ hd3
    have lt:ts.length=e.length:=Paired.length pe1
    refine ⟨pp,_,rfl,SqT.of h4,rfl,_,_,rfl,_,_,rfl,rfl,?_⟩
    refine ⟨_,rfl,.inl ⟨rfl,_,SqL.of hd4⟩,?_⟩
    refine ⟨_,rfl,l1,rfl,⟨_,SqL.of (sm4 _ _ hl1)⟩,be (n:=ts.length) (σ0:=[none,none,some (.int z)]) rfl (fun acc j ws σ H'=>∃ u v:Option V,σ=[u,v,some (.int z)]/\Same H4 H'/\ws=((e.take j).map (fun q=>z + q.1.sum)).map V.int) (by rw [sizeLine_eq]; omega) (fun acc hacc=>⟨none,none,rfl,Same.new hacc,rfl⟩) ?_ ?_ ?_ ?_⟩
    ·rintro acc j ws σ H' hacc hj hz ⟨u,v,rfl,s5,_⟩
     exact ⟨ts,ts[j],SqL.of (s5 _ _ (sm4 _ _ hl1)),by simp [hj]⟩
    ·rintro acc ws σ H' hacc hz ⟨u,v,rfl,s5,_⟩
     exact ⟨ts,SqL.of (s5 _ _ (sm4 _ _ hl1)),Nat.le_refl _⟩
    ·rintro acc j ws σ H5 y H' hacc hj hz hzl ⟨u,v,rfl,s5,rfl⟩ ⟨rfl,gx⟩
     have hy:=gx ts (SqL.of (s5 _ _ (sm4 _ _ hl1)))
     obtain ⟨q0,eq0,t0,k0,u0,rfl,g1,g2,g3⟩:=pe1.at_ hy
     have sm5:=sm4.trans s5
     refine ⟨t0,_,rfl,SqT.of (sm5 _ _ g1),rfl,_,_,rfl,_,_,rfl,rfl,?_⟩
     refine ⟨_,rfl,_,rfl,k0,_,rfl,mt (SqT.of (sm5 _ _ g2)),_,_,rfl,rfl,?_⟩
     refine ⟨_,hz,by rw [List.length_map,List.length_map,List.length_take,sizeLine_eq]; omega,_,ac,by rw [List.length_append,List.length_map,List.length_map,List.length_take,List.length_singleton]; omega,_,_,rfl,s5.put hacc,?_⟩
     rw [List.take_add_one,eq0,List.map_append,List.map_append]
     rfl
    ·rintro acc ws σ H5 hacc hz hzl ⟨u,v,rfl,s5,rfl⟩
     rw [List.take_of_length_le (by omega)] at hz
     have hd5:=s5 _ _ hd4
     have ll:=lT (n:=60) (cs.take i) (pss.take i) fun e he=>l60 e (List.mem_of_mem_take he)
     have lt2:(pss.take i).length <= 60:=by rw [List.length_take]; omega
     have lll:60 * (pss.take i).length <= 60 * 60:=Nat.mul_le_mul_left _ lt2
     refine ⟨d,acc,_,_,rfl,rfl,hd5,hz,by rw [List.length_map,List.length_map,List.length_map,sizeLine_eq]; omega,?_⟩
     refine ⟨_,_,rfl,fun c o e=>?_,?_⟩
     ·rw [ao (ah e nd)]
      exact s5 _ _ (s4 _ _ (s3 _ _ e))
     ·rw [ac,List.take_add_one,List.take_add_one,ez,ee]
      rw [show cs.take i ++ (some z).toList=cs.take i ++ [z] from rfl,show pss.take i ++ (some e).toList=pss.take i ++ [e] from rfl,jS (by rw [List.length_take,List.length_take,lpc]),List.map_append]
   ·rintro σ H3 ⟨x5,x6,rfl,s3,hd3⟩
    have em:min (cs.map V.int).length xs.length=cs.length:=by rw [List.length_map,hlen,Nat.min_self]
    rw [em,List.take_length,<- lpc,List.take_length] at hd3
    refine ⟨_,rfl,Nat.zero_le _,fun l4 n4=>?_⟩
    have s4:=Same.new (o:=.lst []) n4
    have h4:(upd H3 l4 (.lst [])) l4=some (.lst []):=ac
    generalize upd H3 l4 (.lst [])=H4 at *
    have hd4:=s4 _ _ hd3
    refine ⟨dL (bK cs pss),dL [],dr_dL hd4,dr_dL h4,gj _,gj _,_,rfl,?_⟩
    rw [eqv_dL]
    have hfall:∀ e ∈ pss,e.Pairwise gu:=fun e he=>by
     obtain ⟨j,hj,rfl⟩:=List.getElem_of_mem he
     obtain ⟨ps,e1,he⟩:=aG pe (List.getElem?_eq_getElem (show j < xs.length by omega))
     rw [List.getElem?_eq_getElem hj] at e1
     cases e1
     obtain ⟨_,_,_,_,_,_,_,_,_,cn⟩:=he
     unfold et at cn
     rw [Bool.and_eq_true,fF] at cn
     exact cn.2
    have z:=q H4 ((sm.trans s3).trans s4)
    rw [mZ hfall lpc] at z
    have zz:∀ b:Bool,(if b=true then some pss else none).isSome=b:=fun b=>by cases b<;>rfl
    rw [zz] at z
    by_cases hne:bK cs pss=[]
    ·rw [decide_eq_true hne]
     refine aH ?_
     have:gs (bK cs pss)=true:=by unfold gs; rw [hne]; exact decide_eq_true (fun a ha=>by cases ha)
     rw [this] at z
     exact z
    ·rw [decide_eq_false hne]
     refine aO ⟨_,rfl,d,_,rfl,bZ (SqL.of hd4),hne,fun m hm h1=>⟨_,rfl,d,_,rfl,bZ (SqL.of hd4),hne,fun M hM h2=>⟨rfl,?_⟩⟩⟩
     rw [sameL_mm hm hM h1 h2] at z
     rw [show decide (V.int m=V.int M)=decide (m=M) from decide_eq_decide.mpr ⟨fun z=>by injection z,fun z=>by rw [z]⟩]
     exact z
  ·rw [show decide (V.int (xs.length:Int)=V.int ((cs.map V.int).length:Int))=false from decide_eq_false fun z=>hlen (by injection z with z; rw [List.length_map] at z; omega)]
   have ho:o=none:=by
    rcases h with ⟨z,_⟩ | ⟨z,_⟩
    ·exact z
    ·exact absurd z hlen
   subst ho
   exact aH (q H (Same.refl H))
theorem sc__law_table_like:FnScope ["_law_prime_here", "_law_letters", "_law_columns_here", "_law_found", "_law_row"] ["_law_prime_here", "_law_letters", "_law_columns_here", "_law_found"] (al cB):=.i
theorem ok_tablike {f:Addr} {fd:FuncData} (F:Fun K "_law_table_like" "_law_table_like" cB f fd) (T:Blt mg) (G_law_row_like:FnB P w K mg base 6 "_law_row_like" (iU K)) (G_law_level:FnB P w K mg base 1 "_law_level" ig):aI P w K mg base CX0 7 f fd ["_law_prime_here", "_law_letters", "_law_columns_here", "_law_found"] (lS K):=by
 refine F.ok sc__law_table_like (fun vs H Q E h=>?_) (fun cdv A outer s H vs Q E hr h=>?_)
 ·obtain ⟨p,c,P,L,cs,v,b,rfl,_⟩:=h
  rfl
 ·obtain ⟨p,c,P,L,cs,v,b,rfl,hP,hc,hcl,hv,q⟩:=h
  refine ⟨_,(ag (aJ (aY (aW (bX K T (pv 3) T.list cv)))
(ak (aq bQ))
aB)
(ag (dh PassesOwn.never rfl (aZ K rfl (pv 3)) (aM (i:=4) sc__law_table_like.nd rfl (Or.inl rfl))
(ak (aJ (PW.pt (bR (aY (aW (aw G_law_row_like hr.m (aa (pv 0) (aa (pv 1) (aa (pv 2) (aa (pv 4) af))))))) (bL (az op_isN (aw G_law_level hr.m (aa (pv 2) (aa (pv 4) af))) gU (ar _)))))
(ak (aq bQ))
aB)))
(ak (aq bQ)))),?_⟩
  rcases hv with ⟨rfl,t,ty,e⟩ | ⟨l,xs,os,rfl,lp,hl,ln,po,rfl⟩
  ·exact ⟨_,rfl,t,false,ty,e,_,rfl,aH (q H (Same.refl H))⟩
  refine ⟨_,rfl,_,true,.lst hl,rfl,_,rfl,aO ?_⟩
  have lo:xs.length=os.length:=Paired.length po
  refine ⟨_,rfl,l,rfl,⟨_,SqL.of hl⟩,dF (xs:=xs) (fun i σ H'=>∃ x4:Option V,σ=[some (.int P),some (.int L),some (.ref c),some (.ref l),x4]/\Same H H'/\∀ o ∈ os.take i,kF cs o=true) ?_ ?_ ?_ ?_⟩
  ·exact ⟨none,rfl,Same.refl _,fun o ho=>by simp at ho⟩
  ·rintro i σ H' _ ⟨x4,rfl,sm,_⟩
   exact SqL.of (sm _ _ hl)
  ·rintro i y σ H1 hx ⟨x4,rfl,sm,hT⟩
   obtain ⟨o,eo,ro⟩:=aG po hx
   have ro1:=ro.keep (Soft.of sm) fun c o e _=>sm c o e
   have bad:kF cs o=false->∀ H3,Same H1 H3->Q (.bl false) H3:=fun z H3 s3=>by
    have z2:=q H3 (sm.trans s3)
    rw [show os.all (kF cs)=false from List.all_eq_false.mpr ⟨o,List.mem_of_getElem? eo,by rw [z]; decide⟩] at z2
    exact z2
   refine ⟨_,rfl,_,rfl,_,rfl,_,rfl,p,c,P,L,cs,y,o,rfl,hP,sm _ _ hc,hcl,ro1,fun H2 s2=>⟨_,rfl,?_⟩⟩
   cases o with
   | none=>exact aH (aH (bad rfl H2 s2))
   | some pss=>
    refine aO ?_
    rcases ro with ⟨z,_⟩ | ⟨l1,xs1,bs1,rfl,lp1,hl1,ln1,pb1,h1⟩
    ·cases z
    rcases h1 with ⟨z,_⟩ | ⟨e1,pss',pe1,z⟩
    ·cases z
    have epp:pss=pss':=by
     split at z
     ·cases z; rfl
     ·cases z
    subst epp
    have sm2:=sm.trans s2
    have lpc:pss.length=cs.length:=by rw [<- Paired.length pe1]; exact e1
    refine ⟨_,rfl,_,rfl,c,l1,P,cs,xs1,pss,rfl,sm2 _ _ hc,sm2 _ _ hl1,ap (fun _ _ y=>y.ent.same sm2) pe1,by omega,fun H3 s3=>⟨rfl,_,rfl,?_⟩⟩
    cases hlv:aX cs pss with
    | none=>
     have e5:bA cs pss=.non:=by unfold bA; rw [hlv]
     rw [e5]
     exact aH (bad (by show (aX cs pss).isSome=false; rw [hlv]; rfl) H3 (s2.trans s3))
    | some hh=>
     have e5:bA cs pss=.int hh:=by unfold bA; rw [hlv]
     rw [e5]
     refine aO ⟨_,rfl,sm2.trans s3,fun o' ho'=>?_⟩
     rw [List.take_add_one,eo] at ho'
     rcases List.mem_append.mp ho' with z | z
     ·exact hT o' z
     ·simp at z
      subst z
      show (aX cs pss).isSome=true
      rw [hlv]
      rfl
  ·rintro σ H1 ⟨x4,rfl,sm,hT⟩
   rw [lo,List.take_length] at hT
   have z:=q H1 sm
   rw [List.all_eq_true.mpr hT] at z
   exact z
end
theorem nd_20:(["_law_entry", "_law_other"]:List Str).Nodup:=by decide +kernel
def RTh (K:Frag) (P L:Int) (H:Hp) (p:Addr) (cs:List Int) (v:V):Prop:=∃ o,RThing K P L H p cs v o
def TTh (K:Frag) (P L:Int) (H:Hp) (p:Addr) (cs:List Int) (v:V):Prop:=∃ b,TThing K P L H p cs v b
theorem TThing.keep {K:Frag} {P L:Int} {H H':Hp} {p:Addr} {cs:List Int} {v:V} {b:Bool} (s:Soft H H') (k:∀ c o,H c=some o->c ≠ p->H' c=some o) (h:TThing K P L H p cs v b):TThing K P L H' p cs v b:=by
 rcases h with ⟨rfl,h⟩ | ⟨l,xs,os,rfl,lp,hl,ln,po,e⟩
 ·exact .inl ⟨rfl,h.soft s⟩
 ·exact .inr ⟨l,xs,os,rfl,lp,k _ _ hl lp,ln,ap (fun _ _ z=>z.keep s k) po,e⟩
theorem dv {α β:Type} {R:α->β->Prop}:∀ {xs:List α},(∀ x ∈ xs,∃ y,R x y)->∃ ys,Paired R xs ys
 | [],_=>⟨[],.nil⟩
 | x :: xs,h=>by
  obtain ⟨y,hy⟩:=h x (by simp)
  obtain ⟨ys,hys⟩:=dv (xs:=xs) fun z hz=>h z (by simp [hz])
  exact ⟨y :: ys,.cons hy hys⟩
theorem kD {K:Frag} {P L:Int} {H:Hp} {p l:Addr} {cs:List Int} {xs:List V} (lp:l ≠ p) (hl:H l=some (.lst xs)) (ln:xs.length <= 60) (h:∀ x ∈ xs,STh K P L H p x):RTh K P L H p cs (.ref l):=by
 obtain ⟨bs,pb⟩:=dv h
 by_cases hlen:xs.length=cs.length
 ·by_cases hf:false ∈ bs
  ·exact ⟨none,.inr ⟨l,xs,bs,rfl,lp,hl,ln,pb,.inl ⟨rfl,.inr hf⟩⟩⟩
  ·have:∀ x ∈ xs,∃ ps,EntS P L H p x ps:=fun x hx=>by
    obtain ⟨b,mb,sb⟩:=dG pb hx
    cases b with
    | false=>exact absurd mb hf
    | true=>exact sb.ents
   obtain ⟨pss,pe⟩:=dv this
   exact ⟨_,.inr ⟨l,xs,bs,rfl,lp,hl,ln,pb,.inr ⟨hlen,pss,pe,rfl⟩⟩⟩
 ·exact ⟨none,.inr ⟨l,xs,bs,rfl,lp,hl,ln,pb,.inl ⟨rfl,.inl hlen⟩⟩⟩
theorem fT {K:Frag} {P L:Int} {H:Hp} {p l:Addr} {cs:List Int} {xs:List V} (lp:l ≠ p) (hl:H l=some (.lst xs)) (ln:xs.length <= 60) (h:∀ x ∈ xs,RTh K P L H p cs x):TTh K P L H p cs (.ref l):=by
 obtain ⟨os,po⟩:=dv h
 exact ⟨_,.inr ⟨l,xs,os,rfl,lp,hl,ln,po,rfl⟩⟩
def ETh (K:Frag) (P L:Int) (H:Hp) (p:Addr) (cs:List Int) (v:V):Prop:=STh K P L H p v/\RTh K P L H p cs v/\TTh K P L H p cs v
def GTh (K:Frag) (P L:Int) (H:Hp) (p:Addr) (cs:List Int) (v:V):Prop:=RTh K P L H p cs v/\TTh K P L H p cs v
theorem ETh.keep {K:Frag} {P L:Int} {H H':Hp} {p:Addr} {cs:List Int} {v:V} (s:Soft H H') (k:∀ c o,H c=some o->c ≠ p->H' c=some o) (h:ETh K P L H p cs v):ETh K P L H' p cs v:=by
 obtain ⟨⟨a,ha⟩,⟨b,hb⟩,c,hc⟩:=h
 exact ⟨⟨a,ha.keep s k⟩,⟨b,hb.keep s k⟩,c,hc.keep s k⟩
theorem GTh.keep {K:Frag} {P L:Int} {H H':Hp} {p:Addr} {cs:List Int} {v:V} (s:Soft H H') (k:∀ c o,H c=some o->c ≠ p->H' c=some o) (h:GTh K P L H p cs v):GTh K P L H' p cs v:=by
 obtain ⟨⟨b,hb⟩,c,hc⟩:=h
 exact ⟨⟨b,hb.keep s k⟩,c,hc.keep s k⟩
theorem ETh.same {K:Frag} {P L:Int} {H H':Hp} {p:Addr} {cs:List Int} {v:V} (s:Same H H') (h:ETh K P L H p cs v):ETh K P L H' p cs v:=h.keep (Soft.of s) fun c o e _=>s c o e
theorem GTh.same {K:Frag} {P L:Int} {H H':Hp} {p:Addr} {cs:List Int} {v:V} (s:Same H H') (h:GTh K P L H p cs v):GTh K P L H' p cs v:=h.keep (Soft.of s) fun c o e _=>s c o e
theorem all_cons {α:Type} {R:α->Prop} {y:α} {xs:List α} (h:R y) (r:∀ x ∈ xs,R x):∀ x ∈ y :: xs,R x:=fun x hx=>by
 rcases List.mem_cons.mp hx with z | z
 ·subst z; exact h
 ·exact r x z
theorem br {α:Type} {R:α->Prop}:∀ x ∈ ([]:List α),R x:=fun x hx=>by cases hx
theorem dZ {α:Type} {R:α->Prop} {xs ys:List α} (h:∀ x ∈ xs,R x) (r:∀ x ∈ ys,R x):∀ x ∈ xs ++ ys,R x:=fun x hx=>(List.mem_append.mp hx).elim (h x) (r x)
theorem NL.eth {K:Frag} {P L:Int} {H:Hp} {p:Addr} {cs:List Int} {v:V} (h:NL K H v):ETh K P L H p cs v:=by
 obtain ⟨t,ty,e⟩:=h
 exact ⟨.plain t ty e,⟨none,.inl ⟨rfl,t,ty,e⟩⟩,false,.inl ⟨rfl,t,ty,e⟩⟩
theorem iM {K:Frag} {H:Hp} {a:Addr} {xs:List V} (h:H a=some (.tup xs)):NL K H (.ref a):=⟨_,.tup h,rfl⟩
theorem eth_flat {K:Frag} {P L:Int} {H:Hp} {p l:Addr} {cs:List Int} {xs:List V} (lp:l ≠ p) (hl:H l=some (.lst xs)) (ln:xs.length <= 60) (h:∀ x ∈ xs,NL K H x) (st:STh K P L H p (.ref l)):ETh K P L H p cs (.ref l):=
 ⟨st,kD lp hl ln fun x hx=>((h x hx).eth (cs:=cs)).1,fT lp hl ln fun x hx=>((h x hx).eth (P:=P) (L:=L)).2.1⟩
theorem parts_nl {K:Frag} {P:Int} {H:Hp} {ts:List V} {ps:List am} (pr:PartsR P H ts ps):∀ x ∈ ts,NL K H x:=fun x hx=>by
 obtain ⟨r,_,t,k,u,rfl,h1,_⟩:=pr.mem hx
 exact iM h1
theorem gb {K:Frag} {P L:Int} {H:Hp} {p l:Addr} {cs:List Int} {ts:List V} {ps:List am} (lp:l ≠ p) (hl:H l=some (.lst ts)) (pr:PartsR P H ts ps) (ln:ps.length <= 60) (ok:fj P ps) (hL:∀ q ∈ ps,(q.1.length:Int)=L/\q.1.length <= 10/\∀ e ∈ q.1,0 <= e):ETh K P L H p cs (.ref l):=
 eth_flat lp hl (by rw [Paired.length pr]; exact ln) (parts_nl pr) ⟨_,.inr (.inr ⟨l,ts,ps,rfl,lp,hl,pr,ln,ok,hL,rfl⟩)⟩
theorem eth_ent {K:Frag} {P L:Int} {H:Hp} {p:Addr} {cs:List Int} {v:V} {e:List am} {S:Nat} (h:EntA [p] P H v e) (c:Canon P L S e) (ln:e.length <= 60) (hS:S <= 1900) (L4:L <= 4):ETh K P L H p cs v:=by
 obtain ⟨l,ts,rfl,lp,hl,pr⟩:=h
 exact gb (by simpa using lp) hl pr ln (c.sumOk hS) fun q hq=>⟨(c.2 q hq).2.2.2.1,by have:=(c.2 q hq).2.2.2.1; omega,(c.2 q hq).2.2.2.2⟩
theorem eJ {K:Frag} {P L:Int} {H:Hp} {p l:Addr} {cs:List Int} {xs:List V} (lp:l ≠ p) (hl:H l=some (.lst xs)) (ln:xs.length <= 60) (h:∀ x ∈ xs,ETh K P L H p cs x):GTh K P L H p cs (.ref l):=⟨kD lp hl ln fun x hx=>(h x hx).1,fT lp hl ln fun x hx=>(h x hx).2.1⟩
def kj (K:Frag):Sp:=fun vs H Q _=>∃ (r p:Addr) (P L a b:Int) (k:Nat) (cs:List Int) (es:List V) (row:List (List am)),vs=[.int P,.int L,.ref r,.ref p]/\PrimeOk P/\1 <= L/\L <= 4/\H r=some (.lst es)/\r ≠ p/\Paired (EntA [p] P H) es row/\RowOk P L 200 cs row/\1 <= cs.length/\cs.length <= 3/\H p=some (.lst [.int a,.int b])/\BagOk a b k/\k <= 1000/\
 ∀ (v:V) (a' b':Int) (H':Hp),GTh K P L H' p cs v->H' p=some (.lst [.int a',.int b'])->BagOk a' b' (k + 20)->(∀ c o,H c=some o->c ≠ p->H' c=some o)->Q v H'
structure Env15 (K:Frag) (P L:Int) (H:Hp) (p r:Addr) (cs:List Int) (es:List V) (d:V) (a b:Int):Prop where
 hr:H r=some (.lst es)
 rp:r ≠ p
 hp:H p=some (.lst [.int a,.int b])
 he:∀ x ∈ es,ETh K P L H p cs x
 hd:ETh K P L H p cs d
 hs:STh K P L H p (.ref r)
theorem Env15.same {K:Frag} {P L:Int} {H H':Hp} {p r:Addr} {cs:List Int} {es:List V} {d:V} {a b:Int} (e:Env15 K P L H p r cs es d a b) (s:Same H H'):Env15 K P L H' p r cs es d a b:=⟨s _ _ e.hr,e.rp,s _ _ e.hp,fun x hx=>(e.he x hx).same s,e.hd.same s,e.hs.same s⟩
theorem Env15.keep {K:Frag} {P L:Int} {H H':Hp} {p r:Addr} {cs:List Int} {es:List V} {d:V} {a b a' b':Int} (e:Env15 K P L H p r cs es d a b) (hp':H' p=some (.lst [.int a',.int b'])) (k:∀ c o,H c=some o->c ≠ p->H' c=some o):Env15 K P L H' p r cs es d a' b':=by
 have s:Soft H H':=Soft.but e.hp hp' k
 obtain ⟨v,hv⟩:=e.hs
 exact ⟨k _ _ e.hr e.rp,e.rp,hp',fun x hx=>(e.he x hx).keep s k,e.hd.keep s k,v,hv.keep s k⟩
theorem mQ {K:Frag} {P L:Int} {H:Hp} {p l:Addr} {cs:List Int} (lp:l ≠ p) (hl:H l=some (.lst [])):ETh K P L H p cs (.ref l):=gb lp hl .nil (Nat.zero_le _) ⟨fun p hp=>(by cases hp),fun i p hp=>(by simp [acc] at hp)⟩ fun q hq=>(by cases hq)
theorem m8 {K:Frag} {P L:Int} {H:Hp} {p l:Addr} {cs:List Int} {x:V} (lp:l ≠ p) (hl:H l=some (.lst [x])) (nl:NL K H x) (it:Item K H x) (iv:itemV P L H x=false):ETh K P L H p cs (.ref l):=
 eth_flat lp hl (by show 1 <= 60; decide) (all_cons nl br) (bad_list lp hl (by show 1 <= 60; decide) (all_cons it br) (y:=x) (by simp) iv)
theorem eth_one {K:Frag} {P L:Int} (hP:PrimeOk P) {H:Hp} {p l t8 t9 t10:Addr} {cs:List Int} (lp:l ≠ p) (hl:H l=some (.lst [.ref t10])) (h8:H t8=some (.tup [.int 1])) (h9:H t9=some (.tup [.int 1,.int 1])) (h10:H t10=some (.tup [.ref t8,.ref t9])):ETh K P L H p cs (.ref l):=by
 have th:Thing K H (.ref t9):=ThingT h9 (by decide) (by decide)
 have it:Item K H (.ref t10):=.inr (.inr ⟨t10,_,_,rfl,h10,.inr ⟨t8,_,rfl,h8,by show 1 <= 1000; decide,eY [1],th⟩⟩)
 by_cases hv:itemV P L H (.ref t10)=true
 ·rw [cX h10 h8,Bool.and_eq_true] at hv
  obtain ⟨at1,ok1⟩:=num_at hP th hv.2
  have e1:gK H (.ref t9)=(1,1):=by unfold gK; simp only [h9]
  rw [e1] at at1 ok1
  have hL:((1:Nat):Int)=L:=by
   have z:=hv.1
   unfold gq at z
   rw [Bool.and_eq_true] at z
   exact of_decide_eq_true z.1
  refine gb (ps:=[([1],(1,1))]) lp hl (.cons ⟨t10,t8,.ref t9,rfl,h10,h8,at1⟩ .nil) (by show 1 <= 60; decide) (fH (by simp) fun q hq=>?_) fun q hq=>?_
  ·rw [List.mem_singleton.mp hq]
   exact ⟨ok1,Nat.one_lt_two_pow (by decide),Nat.one_lt_two_pow (by decide)⟩
  ·rw [List.mem_singleton.mp hq]
   exact ⟨hL,by show 1 <= 10; decide,fun e he=>by rw [List.mem_singleton.mp he]; decide⟩
 ·exact m8 lp hl (iM h10) it (Bool.eq_false_iff.mpr hv)
theorem eth_two {K:Frag} {P L:Int} (hP:PrimeOk P) {H:Hp} {p l:Addr} {cs:List Int} {ts us:List V} {x y:List am} {S S':Nat} (lp:l ≠ p) (hl:H l=some (.lst (ts ++ us))) (p1:PartsR P H ts x) (p2:PartsR P H us y) (c1:Canon P L S x) (c2:Canon P L S' y) (h1:14 <= S) (h2:14 <= S') (h3:S + S' + 1 <= 1900) (lx:x.length <= 30) (ly:y.length <= 30) (L4:L <= 4):ETh K P L H p cs (.ref l):=by
 have hB:=hP.b
 refine gb lp hl (gI p1 p2) (by rw [List.length_append]; omega) (sumOk_two hP c1.nodup c2.nodup (fun q hq=>⟨(c1.2 q hq).1,(c1.2 q hq).2.1⟩) (fun q hq=>⟨(c2.2 q hq).1,(c2.2 q hq).2.1⟩) (by omega) (by omega) h1 (by omega) fun k u v hu hv=>?_) fun q hq=>?_
 ·exact (jv hB.1 hB.2.1 (c1.2 _ hu).1 (c2.2 _ hv).1 (c1.2 _ hu).2.1 (c2.2 _ hv).2.1 h1).1.mono h3
 ·rcases List.mem_append.mp hq with z | z
  ·exact ⟨(c1.2 q z).2.2.2.1,by have:=(c1.2 q z).2.2.2.1; omega,(c1.2 q z).2.2.2.2⟩
  ·exact ⟨(c2.2 q z).2.2.2.1,by have:=(c2.2 q z).2.2.2.1; omega,(c2.2 q z).2.2.2.2⟩
theorem jZ {K:Frag} {P L:Int} {σ:L2.St} {H:Hp} {Q:VK} {tv ta tb:TE} {tin:TA} {p r:Addr} {cs:List Int} {es:List V} {d:V} {a b:Int} {i:Nat} (o:Env15 K P L H p r cs es d a b) (hi:i < es.length) (hn:es.length <= 20) (hv:∀ (H:Hp) (Z:VK),Z (.ref r) H->tv σ H Z) (ha:∀ (H:Hp) (Z:VK),Z (.int (i:Int)) H->ta σ H Z) (hb:∀ (H:Hp) (Z:VK),Z (.int ((i:Int) + 1)) H->tb σ H Z)
  (hin:∀ (H1:Hp) (Z:List V->Hp->Prop),Same H H1->(∀ x H2,Same H1 H2->ETh K P L H2 p cs x->Z [x] H2)->tin σ H1 Z)
  (hQ:∀ z H',H z=none->Same H H'->GTh K P L H' p cs (.ref z)->Q (.ref z) H') :
  tOp rCat (tOp rCat (tSl (rSlL K) tv ia (tPart ta)) (tLst tin)) (tSl (rSlL K) tv (tPart tb) ia) σ H Q:=by
 refine sand (fun xs H2=>∃ x,xs=[x]/\ETh K P L H2 p cs x) o.hr hi hn hv ha hb (fun H1 Z s1 hz=>hin H1 Z s1 fun x H2 s2 h1=>hz _ _ s2 ⟨x,rfl,h1⟩) ?_ ?_ fun z xs H' nz s' g hz=>?_
 ·rintro xs H2 H3 s ⟨x,rfl,h1⟩
  exact ⟨x,rfl,h1.same s⟩
 ·rintro xs H2 ⟨x,rfl,_⟩
  show 1 <= 5
  decide
 ·obtain ⟨x,rfl,h1⟩:=g
  refine hQ z H' nz s' (eJ (ah o.hp nz).symm hz ?_ fun y hy=>?_)
  ·rw [List.length_append,List.length_append,List.length_take,List.length_drop]
   show _ + 1 + _ <= 60
   omega
  ·rcases List.mem_append.mp hy with hy | hy
   ·rcases List.mem_append.mp hy with hy | hy
    ·exact (o.he y (List.mem_of_mem_take hy)).same s'
    ·rw [List.mem_singleton.mp hy]; exact h1
   ·exact (o.he y (List.mem_of_mem_drop hy)).same s'
section
variable {P:Program} {w:World} {K:Frag} {mg:Str->Option Value} {base:Heap}
theorem sc__law_spoilt:FnScope ["_law_prime_here", "_law_letters", "_law_row", "_law_bag_here", "_law_at", "_law_letter", "_law_other", "_law_none", "_law_some"] ["_law_prime_here", "_law_letters", "_law_row", "_law_bag_here"] (al eB):=.i
section
set_option maxHeartbeats 1500000 in
theorem ok_spoilt {f:Addr} {fd:FuncData} (F:Fun K "_law_spoilt" "_law_spoilt" eB f fd) (T:Blt mg) (G_law_take:FnB P w K mg base 1 "_law_take" cF) (G_law_product:FnB P w K mg base 2 "_law_product" mj) (G_law_unit:FnB P w K mg base 1 "_law_unit" mK) (G_law_sum_times:FnB P w K mg base 5 "_law_sum_times" j4):aI P w K mg base CX0 6 f fd ["_law_prime_here", "_law_letters", "_law_row", "_law_bag_here"] (kj K):=by
 refine F.ok sc__law_spoilt (fun vs H Q E h=>?_) (fun cdv A outer s H vs Q E hr h=>?_)
 ·obtain ⟨r,p,P,L,a,b,k,cs,es,row,rfl,_⟩:=h
  rfl
 ·obtain ⟨r,p,P,L,a,b,k,cs,es,row,rfl,hP,L1,L4,hr',rp,pr,⟨ht,okh,e0,me0,ne0⟩,c1,c3,hp,hb,hk,q⟩:=h
  have hB:=hP.b
  have lrow:row.length=cs.length:=(Paired.length okh).symm
  have les:es.length=row.length:=Paired.length pr
  refine ⟨_,uSs (aN (cg (i:=4) sc__law_spoilt.nd rfl (Or.inl rfl) (bc G_law_take hr.m (aj (qpv 3) (aj (hX K T (qpv 2)) ay))))
(aN (cg (i:=5) sc__law_spoilt.nd rfl (Or.inl rfl) (aU (aj (gf (aj (bc G_law_product hr.m (aj (qpv 1) (aj bB (aj (qpv 3) ay)))) (aj (bc G_law_unit hr.m (aj (qpv 0) ay)) ay))) ay)))
(aN (cg (i:=6) sc__law_spoilt.nd rfl (Or.inr rfl) (bc G_law_sum_times hr.m (aj (qpv 0) (aj (eR (aD K rfl) (qpv 2) (qpv 4) (fun _ _=>rfl)) (aj (qpv 5) ay)))))
(aN (cg (i:=7) sc__law_spoilt.nd rfl (Or.inl rfl) (eR (aD K rfl) (aU (aj js (aj qpe_str (aj (aU (aj js ay)) (aj (aU (aj (gf (aj (gf (aj bB ay)) (aj (gf (aj bB (aj bB ay))) ay))) ay)) (aj (bP cu (eR (aD K rfl) (qpv 2) (qpv 4) (fun _ _=>rfl)) (eR (aD K rfl) (qpv 2) (qpv 4) (fun _ _=>rfl))) (aj (bP cu (qpv 6) (eR (aD K rfl) (qpv 2) (qpv 4) (fun _ _=>rfl))) (aj bB (aj (gf ay) (aj (aU (aj (gf ay) ay)) ay)))))))))) (bc G_law_take hr.m (aj (qpv 3) (aj bB ay))) (fun _ _=>rfl)))
(aN (cg (i:=8) sc__law_spoilt.nd rfl (Or.inl rfl) (aU (aj (bP cu (bP cu (bV (bT K rfl) (qpv 2) cC (cD (qpv 4))) (aU (aj (qpv 6) ay))) (bV (bT K rfl) (qpv 2) (cD (bP aP (qpv 4) bB)) cC)) (aj (bP cu (bP cu (bV (bT K rfl) (qpv 2) cC (cD (qpv 4))) (aU (aj (qpv 7) ay))) (bV (bT K rfl) (qpv 2) (cD (bP aP (qpv 4) bB)) cC)) (aj (bP cu (qpv 2) (aU (aj (aU ay) ay))) (aj (bV (bT K rfl) (qpv 2) (cD bB) cC) ay))))))
(aN (cg (i:=8) sc__law_spoilt.nd rfl (Or.inl rfl) (bP cu (qpv 8) (aU (aj (kB K T (qpv 2)) (aj qpe_str (aj js (aj cS (aj (eR (aD K rfl) (qpv 2) (qpv 4) (fun _ _=>rfl)) (aj (aU (aj (qpv 2) ay)) (aj (bP cu (bP cu (bV (bT K rfl) (qpv 2) cC (cD (qpv 4))) (aU (aj (aU ay) ay))) (bV (bT K rfl) (qpv 2) (cD (bP aP (qpv 4) bB)) cC)) ay))))))))))
(aN (cg (i:=8) sc__law_spoilt.nd rfl (Or.inl rfl) (bP cu (qpv 8) (aU (aj (by exact j5 (N:=["_law_entry"]) (src:=[none]) rfl rfl rfl (by exact (eP K rfl (qpv 2))) (fun _ _ _=>by exact ⟨by exact (bU (i:=0) nd_11 rfl rfl),bi,by exact (aU ay)⟩)) (aj (by exact j5 (N:=["_law_entry", "_law_other"]) (src:=[none,some 6]) rfl rfl rfl (by exact (eP K rfl (qpv 2))) (fun _ _ _=>by exact ⟨by exact (bU (i:=0) nd_20 rfl rfl),bi,by exact (qpv 1)⟩)) ay)))))
(cf (dU (eR (aD K rfl) (qpv 8) (bc G_law_take hr.m (aj (qpv 3) (aj (hX K T (qpv 8)) ay))) (fun _ _=>rfl))))))))))),?_⟩
  refine ⟨_,rfl,_,rfl,r,es,rfl,.inl (SqL.of hr'),p,a,b,_,k,rfl,hp,hb,by omega,by omega,aC (by omega) (by omega),fun r1 a1 b1 r10 r11 hb1=>?_⟩
  have k1:∀ c o,H c=some o->c ≠ p->upd H p (.lst [.int a1,.int b1]) c=some o:=fun c o e hc=>by rw [ao hc]; exact e
  have hp1:(upd H p (.lst [.int a1,.int b1])) p=some (.lst [.int a1,.int b1]):=ac
  generalize upd H p (.lst [.int a1,.int b1])=H1 at *
  obtain ⟨i,rfl⟩:=Int.eq_ofNat_of_zero_le r10
  have hi:i < es.length:=by omega
  refine ⟨_,rfl,_,rfl,p,L,1,a1,b1,_,rfl,L1,L4,by decide,by decide,hp1,hb1,by omega,fun t bs a2 b2 H2 le2 nn2 sm2 ht2 hp2 hb2 kp2=>?_⟩
  refine ⟨_,rfl,P,rfl,hP,fun u3 H3 s3 a3=>⟨(by show 2 <= sizeLine; decide),fun t4 n4=>⟨(by show 1 <= sizeLine; decide),fun l5 n5=>?_⟩⟩⟩
  have s4:=Same.new (o:=.tup [.ref t,u3]) n4
  have h4:(upd H3 t4 (.tup [.ref t,u3])) t4=some (.tup [.ref t,u3]):=ac
  generalize upd H3 t4 (.tup [.ref t,u3])=H4 at *
  have s5:=Same.new (o:=.lst [.ref t4]) n5
  have h5:(upd H4 l5 (.lst [.ref t4])) l5=some (.lst [.ref t4]):=ac
  generalize upd H4 l5 (.lst [.ref t4])=H5 at *
  have s25:=(s3.trans s4).trans s5
  have p5:PartR P H5 (.ref t4) (bs,(1,1)):=⟨t4,t,u3,rfl,s5 _ _ h4,s5 _ _ (s4 _ _ (s3 _ _ ht2)),(a3.same s4).same s5⟩
  have k5:∀ c o,H c=some o->c ≠ p->H5 c=some o:=fun c o e hc=>s25 _ _ (kp2 c o (k1 c o e hc) hc)
  have hp5:=s25 _ _ hp2
  have by5:=one_ok hP le2 nn2
  have ka5:KeepA [p] H H5:=KeepA.bag hp k5 (by simp)
  have pr5:Paired (EntA [p] P H5) es row:=ap (fun _ _=>EntA.keep ka5) pr
  have hr5:=k5 _ _ hr' rp
  obtain ⟨ci,eci⟩:∃ ci,cs[i]? = some ci:=⟨_,List.getElem?_eq_getElem (by omega)⟩
  obtain ⟨x,ex⟩:∃ x,es[i]? = some x:=⟨_,List.getElem?_eq_getElem hi⟩
  obtain ⟨e,ee,hxe⟩:=aG pr5 ex
  have oke:EntOk P L 200 ht ci e:=cP okh eci ee
  obtain ⟨l,ts,rfl,lp,hl,pe⟩:=id hxe
  have lp:l ≠ p:=by simpa using lp
  have le3:=oke.2.1
  refine ⟨_,rfl,_,rfl,_,rfl,r,es,_,_,rfl,rfl,SqL.of hr5,bN ex,_,rfl,l,l5,P,ts,[.ref t4],e,[(bs,(1,1))],rfl,hP,hl,pe,h5,.cons p5 .nil,(by show e.length * 1 <= 60; omega),fun q hq=>⟨(oke.1.2 q hq).1,(oke.1.2 q hq).2.1.mono (by decide),by have:=(oke.1.2 q hq).2.2.2.1; omega⟩,fun q hq=>by rw [List.mem_singleton.mp hq]; exact ⟨by5.ok,by5.sz.mono (by decide)⟩,ja hP (by decide) (by decide) oke.1 by5,fun d ds out H6 nd s6 hd6 po is=>?_⟩
  obtain ⟨cno,lno,_⟩:=i8 hP (by decide) oke.1 by5 is
  have dp:d ≠ p:=(ah hp5 nd).symm
  have hp6:=s6 _ _ hp5
  have hl6:=s6 _ _ hl
  have pe6:=pe.mono fun t xs e=>s6 _ _ e
  have pr6:Paired (EntA [p] P H6) es row:=ap (fun _ _=>EntA.keep (.of s6)) pr5
  have E6:Env15 K P L H6 p r cs es (.ref d) a2 b2:=by
   refine ⟨s6 _ _ hr5,rp,hp6,fun x hx=>?_,eth_ent (S:=215) ⟨d,ds,rfl,by simpa using dp,hd6,po⟩ cno (by omega) (by decide) L4,?_⟩
   rotate_left
   ·have it:∀ x ∈ es,NoTup K H6 x:=fun x hx=>by
     obtain ⟨e',_,l',ts',rfl,_,hl',_⟩:=dG pr6 hx
     exact ⟨_,.lst hl',rfl,fun a z=>by cases z; exact ⟨_,hl'⟩⟩
    exact bad_list rp (s6 _ _ hr5) (by omega) (fun x hx=>.inl (it x hx)) (y:=.ref l) (List.mem_of_getElem? ex) (de (it _ (List.mem_of_getElem? ex)))
   obtain ⟨j,hj,rfl⟩:=List.getElem_of_mem hx
   obtain ⟨e',ee',he'⟩:=aG pr6 (List.getElem?_eq_getElem hj)
   obtain ⟨c',ec'⟩:∃ c',cs[j]? = some c':=⟨_,List.getElem?_eq_getElem (by omega)⟩
   have ok':EntOk P L 200 ht c' e':=cP okh ec' ee'
   exact eth_ent he' ok'.1 (by have:=ok'.2.1; omega) (by decide) L4
  have k6:∀ c o,H c=some o->c ≠ p->H6 c=some o:=fun c o e hc=>s6 _ _ (k5 c o e hc)
  refine ⟨(by show 1 <= sizeLine; decide),fun l7 n7=>?_⟩
  have s7:=Same.new (o:=.lst [.non]) n7
  have h7:(upd H6 l7 (.lst [.non])) l7=some (.lst [.non]):=ac
  have lp7:l7 ≠ p:=(ah hp6 n7).symm
  generalize upd H6 l7 (.lst [.non])=H7 at *
  refine ⟨(by show 1 <= sizeLine; decide),fun t8 n8=>?_⟩
  have s8:=Same.new (o:=.tup [.int 1]) n8
  have h8:(upd H7 t8 (.tup [.int 1])) t8=some (.tup [.int 1]):=ac
  generalize upd H7 t8 (.tup [.int 1])=H8 at *
  refine ⟨(by show 2 <= sizeLine; decide),fun t9 n9=>?_⟩
  have s9:=Same.new (o:=.tup [.int 1,.int 1]) n9
  have h9:(upd H8 t9 (.tup [.int 1,.int 1])) t9=some (.tup [.int 1,.int 1]):=ac
  generalize upd H8 t9 (.tup [.int 1,.int 1])=H9 at *
  refine ⟨(by show 2 <= sizeLine; decide),fun t10 n10=>?_⟩
  have s10:=Same.new (o:=.tup [.ref t8,.ref t9]) n10
  have h10:(upd H9 t10 (.tup [.ref t8,.ref t9])) t10=some (.tup [.ref t8,.ref t9]):=ac
  generalize upd H9 t10 (.tup [.ref t8,.ref t9])=H10 at *
  refine ⟨(by show 1 <= sizeLine; decide),fun l11 n11=>?_⟩
  have s610:=((s7.trans s8).trans s9).trans s10
  have lp11:l11 ≠ p:=(ah (s610 _ _ hp6) n11).symm
  have s11:=Same.new (o:=.lst [.ref t10]) n11
  have h11:(upd H10 l11 (.lst [.ref t10])) l11=some (.lst [.ref t10]):=ac
  generalize upd H10 l11 (.lst [.ref t10])=H11 at *
  have s611:=s610.trans s11
  have E11:=E6.same s611
  have T7:ETh K P L H11 p cs (.ref l7):=by
   have hno:NoTup K H11 .non:=⟨_,.non,rfl,fun a e=>by cases e⟩
   exact m8 lp7 ((((s8.trans s9).trans s10).trans s11) _ _ h7) ⟨_,.non,rfl⟩ (.inl hno) (de hno)
  have T11:ETh K P L H11 p cs (.ref l11):=eth_one hP lp11 h11 (((s9.trans s10).trans s11) _ _ h8) ((s10.trans s11) _ _ h9) (s11 _ _ h10)
  have hl11:=s611 _ _ hl6
  refine ⟨_,rfl,_,rfl,r,es,_,_,rfl,rfl,SqL.of E11.hr,bN ex,_,rfl,_,rfl,r,es,_,_,rfl,rfl,SqL.of E11.hr,bN ex,l,l,_,_,rfl,rfl,hl11,hl11,by rw [Paired.length pe,sizeLine_eq]; omega,fun l12 n12=>?_⟩
  have s12:=Same.new (o:=.lst (ts ++ ts)) n12
  have h12:(upd H11 l12 (.lst (ts ++ ts))) l12=some (.lst (ts ++ ts)):=ac
  have lp12:l12 ≠ p:=(ah E11.hp n12).symm
  generalize upd H11 l12 (.lst (ts ++ ts))=H12 at *
  have s612:=s611.trans s12
  have pe12:=pe6.mono fun t xs e=>s612 _ _ e
  have T12:ETh K P L H12 p cs (.ref l12):=eth_two hP lp12 h12 pe12 pe12 oke.1 oke.1 (by decide) (by decide) (by decide) (by omega) (by omega) L4
  have E12:=E11.same s12
  refine ⟨_,rfl,_,rfl,_,rfl,r,es,_,_,rfl,rfl,SqL.of E12.hr,bN ex,d,l,_,_,rfl,rfl,s612 _ _ hd6,s612 _ _ hl6,by rw [Paired.length po,Paired.length pe,sizeLine_eq]; omega,fun l13 n13=>?_⟩
  have s13:=Same.new (o:=.lst (ds ++ ts)) n13
  have h13:(upd H12 l13 (.lst (ds ++ ts))) l13=some (.lst (ds ++ ts)):=ac
  have lp13:l13 ≠ p:=(ah E12.hp n13).symm
  generalize upd H12 l13 (.lst (ds ++ ts))=H13 at *
  have s613:=s612.trans s13
  have T13:ETh K P L H13 p cs (.ref l13):=eth_two hP lp13 h13 (po.mono fun t xs e=>s613 _ _ e) (pe6.mono fun t xs e=>s613 _ _ e) cno oke.1 (by decide) (by decide) (by decide) (by omega) (by omega) L4
  have E13:=E12.same s13
  refine ⟨Nat.zero_le _,fun t14 n14=>?_⟩
  have s14:=Same.new (o:=.tup []) n14
  have h14:(upd H13 t14 (.tup [])) t14=some (.tup []):=ac
  generalize upd H13 t14 (.tup [])=H14 at *
  refine ⟨Nat.zero_le _,fun t15 n15=>?_⟩
  have s15:=Same.new (o:=.tup []) n15
  have h15:(upd H14 t15 (.tup [])) t15=some (.tup []):=ac
  generalize upd H14 t15 (.tup [])=H15 at *
  refine ⟨(by show 1 <= sizeLine; decide),fun l16 n16=>?_⟩
  have s16:=Same.new (o:=.lst [.ref t15]) n16
  have h16:(upd H15 l16 (.lst [.ref t15])) l16=some (.lst [.ref t15]):=ac
  have lp16:l16 ≠ p:=(ah ((s14.trans s15) _ _ E13.hp) n16).symm
  generalize upd H15 l16 (.lst [.ref t15])=H16 at *
  have s1316:=(s14.trans s15).trans s16
  have E16:=E13.same s1316
  have T16:ETh K P L H16 p cs (.ref l16):=m8 lp16 h16 (iM (s16 _ _ h15)) (.inr (.inl ⟨t15,[],rfl,s16 _ _ h15,by decide⟩)) (cM (s16 _ _ h15) (by decide))
  have T14:ETh K P L H16 p cs (.ref t14):=(iM ((s15.trans s16) _ _ h14)).eth
  have Ws:∀ x ∈ [V.non,.str "0",.ref l7,.ref l11,.ref l12,.ref l13,.int 3,.ref t14,.ref l16],ETh K P L H16 p cs x:=all_cons (NL.eth ⟨_,.non,rfl⟩) (all_cons (NL.eth ⟨_,.str _,rfl⟩) (all_cons (T7.same ((s12.trans s13).trans s1316)) (all_cons (T11.same ((s12.trans s13).trans s1316)) (all_cons (T12.same (s13.trans s1316)) (all_cons (T13.same s1316) (all_cons (NL.eth ⟨_,.int _,rfl⟩) (all_cons T14 (all_cons T16 br))))))))
  refine ⟨(by show 9 <= sizeLine; decide),fun l17 n17=>?_⟩
  have e17:([V.non,.str "0",.ref l7,.ref l11,.ref l12,.ref l13,.int 3,.ref t14,.ref l16]:List V).length=9:=rfl
  generalize ([V.non,.str "0",.ref l7,.ref l11,.ref l12,.ref l13,.int 3,.ref t14,.ref l16]:List V)=ws at *
  have s17:=Same.new (o:=.lst ws) n17
  have h17:(upd H16 l17 (.lst ws)) l17=some (.lst ws):=ac
  have lp17:l17 ≠ p:=(ah E16.hp n17).symm
  generalize upd H16 l17 (.lst ws)=H17 at *
  have E17:=E16.same s17
  refine ⟨_,rfl,p,a2,b2,9,_,rfl,E17.hp,hb2,by omega,by decide,aC (by decide) (by decide),fun r18 a18 b18 r180 r181 hb18=>?_⟩
  have k18:∀ c o,H17 c=some o->c ≠ p->upd H17 p (.lst [.int a18,.int b18]) c=some o:=fun c o e hc=>by rw [ao hc]; exact e
  have hp18:(upd H17 p (.lst [.int a18,.int b18])) p=some (.lst [.int a18,.int b18]):=ac
  obtain ⟨w,hat,hw⟩:=at_any ws r180 (by rw [e17]; exact r181)
  have sf18:=Soft.but E17.hp hp18 k18
  have E18:=E17.keep hp18 k18
  have W18:=((Ws w hw).same s17).keep sf18 k18
  have h18:=k18 _ _ h17 lp17
  have kk18:∀ c o,H c=some o->c ≠ p->upd H17 p (.lst [.int a18,.int b18]) c=some o:=fun c o e hc=>k18 c o (s17 _ _ (s1316 _ _ (s613 _ _ (k6 c o e hc)))) hc
  generalize upd H17 p (.lst [.int a18,.int b18])=H18 at *
  refine ⟨l17,ws,r18,w,rfl,rfl,SqL.of h18,hat,?_⟩
  clear h18 hat hw sf18 k18 Ws T7 T11 T12 T13 T14 T16 E6 E11 E12 E13 E16 E17 h7 h8 h9 h10 h11 h12 h13 h14 h15 h16 h17 s7 s8 s9 s10 s11 s12 s13 s14 s15 s16 s17 s610 s611 s612 s613 s1316 n7 n8 n9 n10 n11 n12 n13 n14 n15 n16 n17 k6 hl11 pe12 e17 lp7 lp11 lp12 lp13 lp16 lp17
  have hes:es.length <= 3:=by omega
  refine jZ (K:=K) (i:=i) (tv:=gk 2) (ta:=gk 4) E18 hi (by omega) (fun H Z z=>⟨_,rfl,z⟩) (fun H Z z=>⟨_,rfl,z⟩) (fun H Z z=>⟨_,rfl,_,_,rfl,rfl,z⟩) (fun H1 Z s1 hz=>⟨_,rfl,hz _ _ (Same.refl _) (E18.hd.same s1)⟩) fun z19 H19 n19 s19 T19=>?_
  have E19:=E18.same s19
  have W19:=W18.same s19
  refine jZ (K:=K) (i:=i) (tv:=gk 2) (ta:=gk 4) E19 hi (by omega) (fun H Z z=>⟨_,rfl,z⟩) (fun H Z z=>⟨_,rfl,z⟩) (fun H Z z=>⟨_,rfl,_,_,rfl,rfl,z⟩) (fun H1 Z s1 hz=>⟨_,rfl,hz _ _ (Same.refl _) (W19.same s1)⟩) fun z20 H20 n20 s20 T20=>?_
  have E20:=E19.same s20
  refine ⟨_,rfl,Nat.zero_le _,fun l21 n21=>⟨(by show 1 <= sizeLine; decide),fun l22 n22=>?_⟩⟩
  have s21:=Same.new (o:=.lst []) n21
  have h21:(upd H20 l21 (.lst [])) l21=some (.lst []):=ac
  have lp21:l21 ≠ p:=(ah E20.hp n21).symm
  generalize upd H20 l21 (.lst [])=H21 at *
  have s22:=Same.new (o:=.lst [.ref l21]) n22
  have h22:(upd H21 l22 (.lst [.ref l21])) l22=some (.lst [.ref l21]):=ac
  generalize upd H21 l22 (.lst [.ref l21])=H22 at *
  have E22:=E20.same (s21.trans s22)
  refine ⟨r,l22,_,_,rfl,rfl,E22.hr,h22,by rw [sizeLine_eq]; show _ + 1 <= _; omega,fun z23 n23=>?_⟩
  have s23:=Same.new (o:=.lst (es ++ [.ref l21])) n23
  have h23:(upd H22 z23 (.lst (es ++ [.ref l21]))) z23=some (.lst (es ++ [.ref l21])):=ac
  have lp23:z23 ≠ p:=(ah E22.hp n23).symm
  generalize upd H22 z23 (.lst (es ++ [.ref l21]))=H23 at *
  have E23:=E22.same s23
  have T23:GTh K P L H23 p cs (.ref z23):=eJ lp23 h23 (by rw [List.length_append]; show _ + 1 <= 60; omega) (dZ E23.he (all_cons (mQ lp21 ((s22.trans s23) _ _ h21)) br))
  refine ⟨_,rfl,_,rfl,r,es,rfl,SqL.of E23.hr,fun z24 n24=>?_⟩
  rw [cut_from]
  have s24:=Same.new (o:=.lst (es.drop 1)) n24
  have h24:(upd H23 z24 (.lst (es.drop 1))) z24=some (.lst (es.drop 1)):=ac
  have lp24:z24 ≠ p:=(ah E23.hp n24).symm
  generalize upd H23 z24 (.lst (es.drop 1))=H24 at *
  have E24:=E23.same s24
  have T24:GTh K P L H24 p cs (.ref z24):=eJ lp24 h24 (by rw [List.length_drop]; omega) fun x hx=>E24.he x (List.mem_of_mem_drop hx)
  have s1923:=(s20.trans ((s21.trans s22).trans s23)).trans s24
  have Ts:∀ x ∈ [V.ref z19,.ref z20,.ref z23,.ref z24],GTh K P L H24 p cs x:=all_cons (T19.same s1923) (all_cons (T20.same (((s21.trans s22).trans s23).trans s24)) (all_cons (T23.same s24) (all_cons T24 br)))
  refine ⟨(by show 4 <= sizeLine; decide),fun l25 n25=>?_⟩
  have e25:([V.ref z19,.ref z20,.ref z23,.ref z24]:List V).length=4:=rfl
  generalize ([V.ref z19,.ref z20,.ref z23,.ref z24]:List V)=xs25 at *
  have s25':=Same.new (o:=.lst xs25) n25
  have h25:(upd H24 l25 (.lst xs25)) l25=some (.lst xs25):=ac
  generalize upd H24 l25 (.lst xs25)=H25 at *
  have E25:=E24.same s25'
  have Ts:∀ x ∈ xs25,GTh K P L H25 p cs x:=fun x hx=>(Ts x hx).same s25'
  have kk25:∀ c o,H c=some o->c ≠ p->H25 c=some o:=fun c o e hc=>s25' _ _ (s1923 _ _ (s19 _ _ (kk18 c o e hc)))
  clear T19 T20 T23 T24 E18 E19 E20 E22 E23 E24 W18 W19 s19 s20 s21 s22 s23 s24 s1923 s25' kk18 h21 h22 h23 h24 n19 n20 n21 n22 n23 n24 n25
  refine ⟨_,rfl,?_⟩
  refine ⟨_,rfl,r,es,rfl,SqL.of E25.hr,fun t26 n26=>?_⟩
  have s26:=Same.new (o:=.tup es) n26
  have h26:(upd H25 t26 (.tup es)) t26=some (.tup es):=ac
  generalize upd H25 t26 (.tup es)=H26 at *
  have E26:=E25.same s26
  refine ⟨_,rfl,_,rfl,r,es,_,_,rfl,rfl,SqL.of E26.hr,bN ex,?_⟩
  refine ⟨_,rfl,(by show 1 <= sizeLine; decide),fun l27 n27=>?_⟩
  have s27:=Same.new (o:=.lst [.ref r]) n27
  have h27:(upd H26 l27 (.lst [.ref r])) l27=some (.lst [.ref r]):=ac
  have lp27:l27 ≠ p:=(ah E26.hp n27).symm
  generalize upd H26 l27 (.lst [.ref r])=H27 at *
  have E27:=E26.same s27
  have R27:GTh K P L H27 p cs (.ref r):=eJ rp E27.hr (by omega) E27.he
  have T27:GTh K P L H27 p cs (.ref l27):=⟨kD lp27 h27 (by show 1 <= 60; decide) (all_cons E27.hs br),fT lp27 h27 (by show 1 <= 60; decide) (all_cons R27.1 br)⟩
  refine jZ (K:=K) (i:=i) (tv:=gk 2) (ta:=gk 4) E27 hi (by omega) (fun H Z z=>⟨_,rfl,z⟩) (fun H Z z=>⟨_,rfl,z⟩) (fun H Z z=>⟨_,rfl,_,_,rfl,rfl,z⟩) (fun H1 Z s1 hz=>⟨Nat.zero_le _,fun l2 n2=>hz _ _ (Same.new n2) (mQ (ah (s1 _ _ E27.hp) n2).symm ac)⟩) fun z28 H28 n28 s28 T28=>?_
  have E28:=E27.same s28
  have xm:V.ref l ∈ es:=List.mem_of_getElem? ex
  have N26:ETh K P L H28 p cs (.ref t26):=(iM ((s27.trans s28) _ _ h26)).eth
  refine ⟨(by show 7 <= sizeLine; decide),fun l29 n29=>?_⟩
  have Ts:∀ x ∈ xs25 ++ [.ref t26,.str "",.non,.bl true,.ref l,.ref l27,.ref z28],GTh K P L H28 p cs x:=dZ (fun x hx=>(Ts x hx).same ((s26.trans s27).trans s28)) (all_cons N26.2 (all_cons (NL.eth ⟨_,.str _,rfl⟩).2 (all_cons (NL.eth ⟨_,.non,rfl⟩).2 (all_cons (NL.eth ⟨_,.bl _,rfl⟩).2 (all_cons (E28.he _ xm).2 (all_cons (T27.same s28) (all_cons T28 br)))))))
  have s29:=Same.new (o:=.lst [.ref t26,.str "",.non,.bl true,.ref l,.ref l27,.ref z28]) n29
  have h29:(upd H28 l29 (.lst [.ref t26,.str "",.non,.bl true,.ref l,.ref l27,.ref z28])) l29=some (.lst [.ref t26,.str "",.non,.bl true,.ref l,.ref l27,.ref z28]):=ac
  generalize upd H28 l29 (.lst [.ref t26,.str "",.non,.bl true,.ref l,.ref l27,.ref z28])=H29 at *
  refine ⟨l25,l29,_,_,rfl,rfl,(((s26.trans s27).trans s28).trans s29) _ _ h25,h29,(by rw [e25,sizeLine_eq]; show 4 + 7 <= _; omega),fun l30 n30=>?_⟩
  have e30:(xs25 ++ [V.ref t26,.str "",.non,.bl true,.ref l,.ref l27,.ref z28]).length=11:=by rw [List.length_append,e25]; rfl
  generalize (xs25 ++ [V.ref t26,.str "",.non,.bl true,.ref l,.ref l27,.ref z28]:List V)=xs30 at *
  have s30:=Same.new (o:=.lst xs30) n30
  have h30:(upd H29 l30 (.lst xs30)) l30=some (.lst xs30):=ac
  generalize upd H29 l30 (.lst xs30)=H30 at *
  have E30:=E28.same (s29.trans s30)
  have Ts:∀ x ∈ xs30,GTh K P L H30 p cs x:=fun x hx=>(Ts x hx).same (s29.trans s30)
  have kk30:∀ c o,H c=some o->c ≠ p->H30 c=some o:=fun c o e hc=>(((s26.trans s27).trans s28).trans (s29.trans s30)) _ _ (kk25 c o e hc)
  refine ⟨_,rfl,?_⟩
  refine ⟨_,rfl,r,rfl,⟨_,SqL.of E30.hr⟩,be (n:=es.length) (σ0:=[none]) rfl (fun acc i ws σ H'=>∃ u:Option V,σ=[u]/\Same H30 H'/\ws.length=i/\∀ x ∈ ws,∃ l,x=.ref l/\l ≠ p/\l ≠ acc/\H' l=some (.lst [])) (by rw [sizeLine_eq]; omega) (fun acc hacc=>⟨none,rfl,Same.new hacc,rfl,br⟩) ?_ ?_ ?_ ?_⟩
  ·rintro acc j ws σ H' hacc hj hz ⟨u,rfl,sm,_⟩
   exact ⟨es,es[j],SqL.of (sm _ _ E30.hr),by simp [hj]⟩
  ·rintro acc ws σ H' hacc hz ⟨u,rfl,sm,_⟩
   exact ⟨es,SqL.of (sm _ _ E30.hr),Nat.le_refl _⟩
  ·rintro acc j ws σ H31 y H' hacc hj hz hzl ⟨u,rfl,sm,lw,hw⟩ ⟨rfl,gx⟩
   refine ⟨Nat.zero_le _,fun l32 n32=>?_⟩
   have s32:=Same.new (o:=.lst []) n32
   have h32:(upd H' l32 (.lst [])) l32=some (.lst []):=ac
   have la:l32 ≠ acc:=fun z=>by rw [z,hz] at n32; cases n32
   have lp32:l32 ≠ p:=(ah (sm _ _ E30.hp) n32).symm
   generalize upd H' l32 (.lst [])=H32 at *
   refine ⟨ws,s32 _ _ hz,by rw [sizeLine_eq]; omega,_,ac,by rw [List.length_append,List.length_singleton]; omega,_,rfl,(sm.trans s32).put hacc,by rw [List.length_append,lw]; rfl,dZ (fun x hx=>?_) (all_cons ⟨l32,rfl,lp32,la,by rw [ao la]; exact h32⟩ br)⟩
   obtain ⟨l',rfl,z1,z2,z3⟩:=hw x hx
   exact ⟨l',rfl,z1,z2,by rw [ao z2]; exact s32 _ _ z3⟩
  rintro acc33 ws33 σ H33 n33 h33 hzl ⟨u,rfl,s33,lw,hw⟩
  have lp33:acc33 ≠ p:=(ah E30.hp n33).symm
  have T33:GTh K P L H33 p cs (.ref acc33):=eJ lp33 h33 (by omega) fun x hx=>by
   obtain ⟨l',rfl,z1,z2,z3⟩:=hw x hx
   exact mQ z1 z3
  have E33:=E30.same s33
  refine ⟨_,rfl,r,rfl,⟨_,SqL.of E33.hr⟩,be (n:=es.length) (σ0:=[none,some (.ref d)]) rfl (fun acc i ws σ H'=>∃ u:Option V,σ=[u,some (.ref d)]/\Same H33 H'/\ws.length=i/\∀ x ∈ ws,x=.ref d) (by rw [sizeLine_eq]; omega) (fun acc hacc=>⟨none,rfl,Same.new hacc,rfl,br⟩) ?_ ?_ ?_ ?_⟩
  ·rintro acc j ws σ H' hacc hj hz ⟨u,rfl,sm,_⟩
   exact ⟨es,es[j],SqL.of (sm _ _ E33.hr),by simp [hj]⟩
  ·rintro acc ws σ H' hacc hz ⟨u,rfl,sm,_⟩
   exact ⟨es,SqL.of (sm _ _ E33.hr),Nat.le_refl _⟩
  ·rintro acc j ws σ H31 y H' hacc hj hz hzl ⟨u,rfl,sm,lw,hw⟩ ⟨rfl,gx⟩
   exact ⟨_,rfl,ws,hz,by rw [sizeLine_eq]; omega,_,ac,by rw [List.length_append,List.length_singleton]; omega,_,rfl,sm.put hacc,by rw [List.length_append,lw]; rfl,dZ hw (all_cons rfl br)⟩
  rintro acc34 ws34 σ H34 n34 h34 hzl ⟨u,rfl,s34,lw,hw⟩
  have lp34:acc34 ≠ p:=(ah E33.hp n34).symm
  have E34:=E33.same s34
  have T34:GTh K P L H34 p cs (.ref acc34):=eJ lp34 h34 (by omega) fun x hx=>by rw [hw x hx]; exact E34.hd
  refine ⟨(by show 2 <= sizeLine; decide),fun l35 n35=>?_⟩
  have Ts:∀ x ∈ xs30 ++ [.ref acc33,.ref acc34],GTh K P L H34 p cs x:=dZ (fun x hx=>(Ts x hx).same (s33.trans s34)) (all_cons (T33.same s34) (all_cons T34 br))
  have s35:=Same.new (o:=.lst [.ref acc33,.ref acc34]) n35
  have h35:(upd H34 l35 (.lst [.ref acc33,.ref acc34])) l35=some (.lst [.ref acc33,.ref acc34]):=ac
  generalize upd H34 l35 (.lst [.ref acc33,.ref acc34])=H35 at *
  refine ⟨l30,l35,_,_,rfl,rfl,((s33.trans s34).trans s35) _ _ h30,h35,(by rw [e30,sizeLine_eq]; show 11 + 2 <= _; omega),fun l36 n36=>?_⟩
  have e36:(xs30 ++ [V.ref acc33,.ref acc34]).length=13:=by rw [List.length_append,e30]; rfl
  generalize (xs30 ++ [V.ref acc33,.ref acc34]:List V)=xs36 at *
  have s36:=Same.new (o:=.lst xs36) n36
  have h36:(upd H35 l36 (.lst xs36)) l36=some (.lst xs36):=ac
  have E35:=E34.same s35
  have lp36:l36 ≠ p:=(ah E35.hp n36).symm
  generalize upd H35 l36 (.lst xs36)=H36 at *
  have E36:=E35.same s36
  have Ts:∀ x ∈ xs36,GTh K P L H36 p cs x:=fun x hx=>(Ts x hx).same (s35.trans s36)
  have kk36:∀ c o,H c=some o->c ≠ p->H36 c=some o:=fun c o e hc=>(((s33.trans s34).trans s35).trans s36) _ _ (kk30 c o e hc)
  refine ⟨_,rfl,_,rfl,_,rfl,l36,xs36,rfl,.inl (SqL.of h36),p,a18,b18,_,_,rfl,E36.hp,hb18,by omega,by rw [e36]; decide,by rw [e36]; exact aC (by decide) (by decide),fun r37 a37 b37 r370 r371 hb37=>?_⟩
  obtain ⟨v,hat,hv⟩:=at_any xs36 r370 r371
  refine ⟨l36,_,_,_,rfl,rfl,SqL.of (by rw [ao lp36]; exact h36),hat,?_⟩
  have k37:∀ c o,H36 c=some o->c ≠ p->upd H36 p (.lst [.int a37,.int b37]) c=some o:=fun c o e hc=>by rw [ao hc]; exact e
  exact q v a37 b37 _ ((Ts v hv).keep (Soft.but E36.hp ac k37) k37) ac (hb37.mono (by omega)) fun c o e hc=>k37 c o (kk36 c o e hc) hc
end
end
theorem nd_21:(["_law_row"]:List Str).Nodup:=by decide +kernel
theorem nd_22:(["_law_column"]:List Str).Nodup:=by decide +kernel
def spTruth:Sp:=fun vs H Q _=>∃ b c:Bool,vs=[.bl b,.bl c]/\Q (.bl (decide (b=c))) H
section
variable {P:Program} {w:World} {K:Frag} {mg:Str->Option Value} {base:Heap}
theorem kN:FnScope ["_law_found", "_law_due"] ["_law_found", "_law_due"] (al ff):=.i
theorem ok_truth {f:Addr} {fd:FuncData} (F:Fun K "_law_truth" "_law_truth" ff f fd) (T:Blt mg):aI P w K mg base CX0 1 f fd ["_law_found", "_law_due"] spTruth:=by
 refine F.ok kN (fun vs H Q E h=>?_) (fun cdv A outer s H vs Q E hr h=>?_)
 ·obtain ⟨b,c,rfl,_⟩:=h
  rfl
 ·obtain ⟨b,c,rfl,q⟩:=h
  refine ⟨_,(ak (aq (cr (bX K T (pv 0) T.bool gC) (bY (aV bH (pv 0) (pv 1) (ar _)))))),?_⟩
  refine ⟨_,rfl,_,true,.bl b,rfl,_,rfl,aH ?_⟩
  refine ⟨_,rfl,_,rfl,rfl,?_⟩
  have e:decide (V.bl b=V.bl c)=decide (b=c):=by cases b<;>cases c<;>rfl
  rw [e]
  exact q
end
def jI (CG CN:Addr):Sp:=fun vs H Q E=>∃ (g dx:Addr) (v:V) (L:Int),vs=[.ref g,v,.int L]/\H g=some (.ins CG dx [])/\(¬ (1 <= L/\L <= 4)->E (.ref CN) none H)/\
 (1 <= L->L <= 4->Q .non (upd (upd H g (.ins CG dx [("kind",v)])) g (.ins CG dx [("kind",v),("width",.int L)])))
def mF (CF CR CG CN:Addr):Sp:=fun vs H Q E=>∃ P L:Int,vs=[.int P,.int L]/\PrimeOk P/\(¬ (1 <= L/\L <= 4)->∀ H',Same H H'->E (.ref CN) none H')/\
 (1 <= L->L <= 4->∀ (g x:Addr) (H':Hp),Same H H'->NumsAt CF CR H' x P->fU CG H' g x L->Q (.ref g) H')
section
variable {P:Program} {w:World} {K:Frag} {mg:Str->Option Value} {base:Heap}
theorem iO:FnScope ["self", "numbers", "letters"] ["self", "numbers", "letters"] (al bu):=.i
theorem ok_ginit {f CG C_NoRing:Addr} {fd:FuncData} {tk:Tok} (F:Fun K "__init__" "Ring.__init__" bu f fd) (cl:Cls K CG) (nK:NoAttr K CG "kind") (nW:NoAttr K CG "width") (cMost:mg "MOST_LETTERS"=some (.int 4 tk)) (ANoRing:mg "NoRing"=some (.ref C_NoRing)) (xc:XCl K C_NoRing) :
  aI P w K mg base (CXE P w) 2 f fd ["self", "numbers", "letters"] (jI CG C_NoRing):=by
 refine F.okX iO (fun vs H Q E h=>?_) (fun cdv A outer s H vs Q E hr h=>?_)
 ·obtain ⟨g,dx,v,L,rfl,_⟩:=h
  rfl
 ·obtain ⟨g,dx,v,L,rfl,hg,qn,qy⟩:=h
  refine ⟨_,(ag (aJ (PW.pt (bR (az ib (pv 2) ae (ar _)) (bL (az dR (pv 2) (jt (v:=.int 4) rfl cMost ⟨_,rfl⟩) (ar _)))))
(ak (ko xc.ek ANoRing (aa mz af)))
aB)
(ag (ps_fld (pv 0) (pv 1) rfl)
(ak (ps_fld (pv 0) (pv 2) rfl)))),?_⟩
  have bad:¬ (1 <= L/\L <= 4)->E (.ref C_NoRing) none H:=qn
  refine ⟨_,rfl,_,_,rfl,rfl,_,rfl,bD (fun h=>?_) (fun h=>?_)⟩
  ·have h1:L < 1:=of_decide_eq_true h
   exact aH ⟨(by show 1 <= sizeLine; decide),bad (by omega)⟩
  ·have h1:¬ L < 1:=fun z=>h (decide_eq_true z)
   refine ⟨_,rfl,_,_,rfl,rfl,_,rfl,bD (fun h=>?_) (fun h=>?_)⟩
   ·have h4:L > 4:=of_decide_eq_true h
    exact ⟨(by show 1 <= sizeLine; decide),bad (by omega)⟩
   ·have h4:¬ L > 4:=fun z=>h (decide_eq_true z)
    exact ⟨_,rfl,_,rfl,g,CG,dx,_,rfl,hg,cl,nK,(by decide),_,rfl,_,rfl,g,CG,dx,_,rfl,ac,cl,nW,(by show (1:Nat) < 1000; decide),qy (by omega) (by omega)⟩
theorem mE:FnScope ["_law_prime_here", "_law_letters"] ["_law_prime_here", "_law_letters"] (al fG):=.i
theorem ok_ring {f CF CR CG C_NoRing:Addr} {fd:FuncData} (F:Fun K "_law_ring" "_law_ring" fG f fd) (G_law_numbers:FnB P w K mg base 4 "_law_numbers" (spNums CF CR)) (MRing:MkBX P w K mg base 2 CG "Ring" (jI CG C_NoRing)) :
  aI P w K mg base (CXE P w) 5 f fd ["_law_prime_here", "_law_letters"] (mF CF CR CG C_NoRing):=by
 refine F.okX mE (fun vs H Q E h=>?_) (fun cdv A outer s H vs Q E hr h=>?_)
 ·obtain ⟨P,L,rfl,_⟩:=h
  rfl
 ·obtain ⟨P,L,rfl,hP,qn,qy⟩:=h
  refine ⟨_,(ak (aq (pe_mkX MRing hr.m passes_on (aa (aw G_law_numbers hr.m (aa (pv 0) af)) (aa (pv 1) af))))),?_⟩
  refine ⟨_,rfl,P,rfl,hP,fun x H1 s1 hN=>⟨_,rfl,fun g dx ng ndx ne=>?_⟩⟩
  have s2:Same H1 (upd (upd H1 dx (.own g)) g (.ins CG dx [])):=(Same.new ndx).put ng
  refine ⟨g,dx,.ref x,L,rfl,ac,fun hL=>qn hL _ (s1.trans s2),fun h1 h4=>⟨rfl,qy h1 h4 g x _ ?_ ?_ ⟨dx,ac⟩⟩⟩
  ·intro c o e
   have e1:=s1 c o e
   have hc:c ≠ g:=ah e1 ng
   rw [ao hc,ao hc,ao hc,ao (ah e1 ndx)]
   exact e1
  ·refine hN.mono fun o e=>?_
   have hc:x ≠ g:=ah e ng
   rw [ao hc,ao hc,ao hc,ao (ah e ndx)]
   exact e
end
def spLaw (K:Frag):Sp:=fun vs H Q _=>∃ (a:Addr) (ns:List Int),vs=[.ref a]/\SqL K H a (ns.map V.int)/\ns.length <= 63/\∀ H',Q (.bl true) H'
theorem ent_s {P L:Int} {H:Hp} {p:Addr} {x:V} {e:List am} {h c:Int} (L4:L <= 4) (k:EntOk P L 200 h c e) (z:EntA [p] P H x e):EntS P L H p x e:=by
 obtain ⟨l,ts,rfl,lp,hl,pr⟩:=z
 refine ⟨l,ts,rfl,by simpa using lp,hl,pr,by have:=k.2.1; omega,k.1.sumOk (by decide),fun q hq=>⟨(k.1.2 q hq).2.2.2.1,by have:=(k.1.2 q hq).2.2.2.1; omega,(k.1.2 q hq).2.2.2.2⟩,?_⟩
 unfold et
 rw [Bool.and_eq_true,fF]
 exact ⟨List.all_eq_true.mpr fun q hq=>(k.1.2 q hq).2.2.1,k.1.1⟩
theorem mS {P L h:Int} {S:Nat}:∀ {cs:List Int} {row:List (List am)},Paired (EntOk P L S h) cs row->∀ x ∈ bK cs row,x=h
 | _,_,.nil,x,hx=>by simp [bK] at hx
 | _,_,.cons k r,x,hx=>by
  rcases List.mem_append.mp hx with z | z
  ·obtain ⟨q,hq,rfl⟩:=List.mem_map.mp z
   have:=(k.2.2 q hq).1
   omega
  ·exact mS r x z
theorem row_b {P L h:Int} {S:Nat} {cs:List Int} {row:List (List am)} (k:Paired (EntOk P L S h) cs row):rowB cs row=true:=by
 rw [mZ (fun e he=>?_) (Paired.length k).symm]
 ·exact decide_eq_true fun a ha b hb=>by rw [mS k a ha,mS k b hb]
 ·obtain ⟨j,hj,rfl⟩:=List.getElem_of_mem he
  have hj':j < cs.length:=by rw [Paired.length k]; exact hj
  have z:EntOk P L S h cs[j] row[j]:=cP k (List.getElem?_eq_getElem hj') (List.getElem?_eq_getElem hj)
  exact z.1.1
theorem ents_s {P L h:Int} {H:Hp} {p:Addr} (L4:L <= 4):∀ {cs:List Int} {es:List V} {row:List (List am)},Paired (EntOk P L 200 h) cs row->Paired (EntA [p] P H) es row->Paired (EntS P L H p) es row
 | _,_,_,.nil,.nil=>.nil
 | _,_,_,.cons k r,.cons z s=>.cons (ent_s L4 k z) (ents_s L4 r s)
theorem iZ {K:Frag} {P L:Int} {H:Hp} {p:Addr} {cs:List Int} {v:V} {row:List (List am)} (L4:L <= 4) (c3:cs.length <= 3) (z:RowA [p] P H v row) (k:RowOk P L 200 cs row):RThing K P L H p cs v (some row):=by
 obtain ⟨r,es,rfl,rp,hr,pr⟩:=z
 obtain ⟨h,ok,_⟩:=k
 have l1:cs.length=row.length:=Paired.length ok
 have l2:es.length=row.length:=Paired.length pr
 have ps:=ents_s L4 ok pr
 have pb:∃ bs,Paired (SThing K P L H p) es bs:=dv fun x hx=>by
  obtain ⟨e,_,he⟩:=dG ps hx
  exact ⟨true,he.sthing⟩
 obtain ⟨bs,pb⟩:=pb
 refine .inr ⟨r,es,bs,rfl,by simpa using rp,hr,by omega,pb,.inr ⟨by omega,row,ps,?_⟩⟩
 rw [row_b ok]
 rfl
theorem row_lev {P L:Int} {S:Nat} {cs:List Int} {row:List (List am)} (k:RowOk P L S cs row):∃ h,aX cs row=some h:=by
 obtain ⟨h,ok,e,me,ne⟩:=k
 cases z:aX cs row with
 | some h=>exact ⟨h,rfl⟩
 | none=>exact absurd ((dQ (Paired.length ok).symm).mp z e me) ne
theorem rows_all {P L:Int} {cs:List Int}:∀ {rows:List (List (List am))},(∀ row ∈ rows,RowOk P L 200 cs row)->(rows.map some).all (kF cs)=true
 | [],_=>rfl
 | row :: rows,h=>by
  obtain ⟨z,e⟩:=row_lev (h row (by simp))
  rw [List.map_cons,List.all_cons,rows_all fun r hr=>h r (by simp [hr])]
  show ((aX cs row).isSome && true)=true
  rw [e]
  rfl
theorem RowR.ins {P:Int} {H:Hp} {v:V} {row:List (List am)} {p c d:Addr} {fs:List (Str × V)} (hp:H p=some (.ins c d fs)) (h:RowR P H v row):RowA [p] P H v row:=by
 obtain ⟨r,es,rfl,hr,pr⟩:=h
 refine ⟨r,es,rfl,by simpa using dY hr hp (by intro z; cases z),hr,ap (fun v e z=>?_) pr⟩
 obtain ⟨l,ts,rfl,hl,pe⟩:=z
 exact ⟨l,ts,rfl,by simpa using dY hl hp (by intro z; cases z),hl,pe⟩
theorem fW {α β γ:Type} {R:α->β->Prop} {S:α->γ->Prop} {f:β->γ}:∀ {xs:List α} {ys:List β},(∀ x y,y ∈ ys->R x y->S x (f y))->Paired R xs ys->Paired S xs (ys.map f)
 | _,_,_,.nil=>.nil
 | _,_,h,.cons q r=>.cons (h _ _ (by simp) q) (fW (fun x y hy=>h x y (by simp [hy])) r)
theorem tab_thing {K:Frag} {P L:Int} {H:Hp} {p l:Addr} {cs:List Int} {ws:List V} {rows:List (List (List am))} (L4:L <= 4) (c3:cs.length <= 3) (lp:l ≠ p) (hl:H l=some (.lst ws)) (ln:ws.length <= 60) (pr:Paired (RowA [p] P H) ws rows) (ok:∀ row ∈ rows,RowOk P L 200 cs row):TThing K P L H p cs (.ref l) true:=
 .inr ⟨l,ws,rows.map some,rfl,lp,hl,ln,fW (fun x row hr z=>iZ L4 c3 z (ok row hr)) pr,(rows_all ok).symm⟩
theorem nk {K:Frag} {P L:Int} {H:Hp} {p l:Addr} {cs:List Int} {xs:List V} (lp:l ≠ p) (hl:H l=some (.lst xs)) (ln:xs.length=cs.length) (l60:cs.length <= 60) (h:∀ x ∈ xs,∃ l,x=.ref l/\l ≠ p/\H l=some (.lst [])):RThing K P L H p cs (.ref l) (some (List.replicate cs.length []))/\Paired (EntR P H) xs (List.replicate cs.length []):=by
 have e0:∀ x ∈ xs,EntS P L H p x []:=fun x hx=>by
  obtain ⟨l',rfl,z1,z2⟩:=h x hx
  exact ⟨l',[],rfl,z1,z2,.nil,Nat.zero_le _,⟨fun p hp=>(by cases hp),fun i p hp=>(by simp [acc] at hp)⟩,fun q hq=>(by cases hq),rfl⟩
 have pe:Paired (EntS P L H p) xs (List.replicate cs.length []):=by
  rw [<- ln]
  clear hl ln h
  induction xs with
  | nil=>exact .nil
  | cons x r ih=>
   rw [List.length_cons,List.replicate_succ]
   exact .cons (e0 x (by simp)) (ih fun y hy=>e0 y (by simp [hy]))
 have pb:∃ bs,Paired (SThing K P L H p) xs bs:=dv fun x hx=>⟨true,(e0 x hx).sthing⟩
 obtain ⟨bs,pb⟩:=pb
 have rb:rowB cs (List.replicate cs.length [])=true:=by
  rw [mZ (fun e he=>by rw [List.eq_of_mem_replicate he]; exact .nil) (List.length_replicate ..)]
  have:bK cs (List.replicate cs.length [])=[]:=by
   have go:∀ (cs:List Int) (r:List (List am)),(∀ e ∈ r,e=[])->bK cs r=[]:=by
    intro cs
    induction cs with
    | nil=>intro r _; rfl
    | cons c cs ih=>
     intro r hr
     cases r with
     | nil=>rfl
     | cons e r=>
      rw [hr e (by simp)]
      exact ih r fun e he=>hr e (by simp [he])
   exact go cs _ fun e he=>List.eq_of_mem_replicate he
  rw [this]
  exact decide_eq_true (fun a ha=>by cases ha)
 refine ⟨.inr ⟨l,xs,bs,rfl,lp,hl,by omega,pb,.inr ⟨ln,_,pe,?_⟩⟩,ap (fun _ _ z=>z.ent) pe⟩
 rw [rb]
 rfl
theorem jF (cs:List Int):aX cs (List.replicate cs.length [])=none:=(dQ (List.length_replicate ..)).mpr fun e he=>List.eq_of_mem_replicate he
section
variable {P:Program} {w:World} {K:Frag} {mg:Str->Option Value} {base:Heap}
theorem sc_law:FnScope ["_law_script", "_law_prime_here", "_law_letters", "_law_columns_here", "_law_rows", "_law_ring_here", "_law_noughts", "_law_row", "_law_k", "_law_bag_here", "_law_at", "_law_thing", "_law_table_here"] ["_law_script"] (al s_law):=.i
set_option maxHeartbeats 1500000 in
theorem ok_law {f CF CR CG C_NoRing:Addr} {fd:FuncData} (F:Fun K "law" "law" s_law f fd) (T:Blt mg) (G_law_table:FnB P w K mg base 7 "_law_table" (spTable K)) (G_law_bag:FnB P w K mg base 2 "_law_bag" (spBag K)) (G_law_take:FnB P w K mg base 1 "_law_take" cF) (G_law_whole:FnB P w K mg base 1 "_law_whole" (dO K)) (G_law_truth:FnB P w K mg base 1 "_law_truth" spTruth) (G_law_level:FnB P w K mg base 1 "_law_level" ig)
  (X_law_ring:FnBX P w K mg base 5 "_law_ring" (mF CF CR CG C_NoRing)) (G_law_spoilt:FnB P w K mg base 6 "_law_spoilt" (kj K)) (G_law_row_like:FnB P w K mg base 6 "_law_row_like" (iU K)) (G_law_table_like:FnB P w K mg base 7 "_law_table_like" (lS K)) (Gis_row:FnB P w K mg base 5 "is_row" (mh K CF CR CG)) (Gis_table:FnB P w K mg base 6 "is_table" (lR K CF CR CG)) (Grow_level:FnB P w K mg base 4 "row_level" spRLev) :
  aI P w K mg base CX0 8 f fd ["_law_script"] (spLaw K):=by
 refine F.ok sc_law (fun vs H Q E h=>?_) (fun cdv A outer s H vs Q E hr h=>?_)
 ·obtain ⟨a,ns,rfl,_⟩:=h
  rfl
 ·obtain ⟨a,ns,rfl,hS,hlen,q⟩:=h
  refine ⟨_,uSs (aN (qps_asg (bc G_law_table hr.m (aj (qpv 0) (aj bB ay))) (gA rfl (by exact aQ (by exact (aM (i:=1) sc_law.nd rfl (Or.inl rfl))) (by exact aQ (by exact (aM (i:=2) sc_law.nd rfl (Or.inl rfl))) (by exact aQ (by exact (aM (i:=3) sc_law.nd rfl (Or.inl rfl))) (by exact aQ (by exact (aM (i:=4) sc_law.nd rfl (Or.inl rfl))) eX))))))
(aN (cg (i:=5) sc_law.nd rfl (Or.inl rfl) (qpe_fnX X_law_ring hr.m passE0 (aj (qpv 1) (aj (qpv 2) ay))))
(aN (iP (PW.pt (bR (dE eQ (bc Gis_table hr.m (aj (qpv 5) (aj (qpv 3) (aj (by exact j5 (N:=["_law_row"]) (src:=[none]) rfl rfl rfl (by exact (eP K rfl (qpv 4))) (fun _ _ _=>by exact ⟨by exact (bU (i:=0) nd_21 rfl rfl),bi,by exact (qkpl_list K T (qpv 0))⟩)) ay)))) cS (ar _)) (bL (dE eQ (bc Gis_table hr.m (aj (qpv 5) (aj (qpv 3) (aj (aU ay) ay)))) cS (ar _)))))
(cf (dU cS))
eG)
(aN (qps_setc (i:=6) sc_law.nd rfl (Or.inl rfl) (N:=["_law_column"]) (src:=[none]) rfl rfl rfl (by exact (eP K rfl (qpv 3))) (fun _ _ _=>by exact ⟨by exact (bU (i:=0) nd_22 rfl rfl),bi,by exact (aU ay)⟩))
(aN (iP (PW.pt (bR (dE eQ (bc Gis_row hr.m (aj (qpv 5) (aj (qpv 3) (aj (qpv 6) ay)))) cS (ar _)) (bL (dE op_notN (bc Grow_level hr.m (aj (qpv 3) (aj (qpv 6) ay))) js (ar _)))))
(cf (dU cS))
eG)
(aN (iP (PW.pt (bR (dE eQ (bc Gis_table hr.m (aj (qpv 5) (aj (qpv 3) (aj (bP cu (qpv 4) (aU (aj (qpv 6) ay))) ay)))) cS (ar _)) (bL (dE eQ (bc Gis_row hr.m (aj (qpv 5) (aj (aU ay) (aj (aU ay) ay)))) cS (ar _)))))
(cf (dU cS))
eG)
(aN (qps_for PassesOwn.never rfl (eP K rfl (qpv 4)) (aM (i:=7) sc_law.nd rfl (Or.inl rfl))
(cf (iP (PW.pt (bR (dE iw (bc Grow_level hr.m (aj (qpv 3) (aj (qpv 7) ay))) (bc G_law_level hr.m (aj (qpv 3) (aj (qpv 7) ay))) (ar _)) (bL (aY (lU (bc G_law_whole hr.m (aj (bc Grow_level hr.m (aj (qpv 3) (aj (qpv 7) ay))) ay)))))))
(cf (dU cS))
eG)))
(aN (qps_for PassesOwn.never rfl (qpi_range2 rfl T.range (aj bB (aj (qpl_max T (aj bB (aj (qpl_min T (aj bB (aj (hX K T (qpv 0)) ay))) ay))) ay))) (aM (i:=8) sc_law.nd rfl (Or.inl rfl))
(aN (cg (i:=9) sc_law.nd rfl (Or.inl rfl) (bc G_law_bag hr.m (aj (qpv 0) (aj (qpv 8) ay))))
(aN (cg (i:=10) sc_law.nd rfl (Or.inl rfl) (bc G_law_take hr.m (aj (qpv 9) (aj (hX K T (qpv 4)) ay))))
(aN (cg (i:=11) sc_law.nd rfl (Or.inl rfl) (bc G_law_spoilt hr.m (aj (qpv 1) (aj (qpv 2) (aj (eR (aD K rfl) (qpv 4) (qpv 10) (fun _ _=>rfl)) (aj (qpv 9) ay))))))
(aN (iP (aY (lU (bc G_law_truth hr.m (aj (bc Gis_row hr.m (aj (qpv 5) (aj (qpv 3) (aj (qpv 11) ay)))) (aj (bc G_law_row_like hr.m (aj (qpv 1) (aj (qpv 2) (aj (qpv 3) (aj (qpv 11) ay))))) ay)))))
(cf (dU cS))
eG)
(aN (cg (i:=12) sc_law.nd rfl (Or.inl rfl) (eR (aD K rfl) (aU (aj (bP cu (bP cu (bV (bT K rfl) (qpv 4) cC (cD (qpv 10))) (aU (aj (qpv 11) ay))) (bV (bT K rfl) (qpv 4) (cD (bP aP (qpv 10) bB)) cC)) (aj (kB K T (qpv 4)) (aj (aU (aj (qpv 11) ay)) (aj (qpv 11) ay))))) (bc G_law_take hr.m (aj (qpv 9) (aj bB ay))) (fun _ _=>rfl)))
(cf (iP (aY (lU (bc G_law_truth hr.m (aj (bc Gis_table hr.m (aj (qpv 5) (aj (qpv 3) (aj (qpv 12) ay)))) (aj (bc G_law_table_like hr.m (aj (qpv 1) (aj (qpv 2) (aj (qpv 3) (aj (qpv 12) ay))))) ay)))))
(cf (dU cS))
eG))))))))
(cf (dU cS)))))))))),?_⟩
  refine ⟨_,rfl,a,ns,0,rfl,hS,hlen,by decide,by decide,fun t c rw P L cs ws rows H1 s1 ht hc hrw prs ⟨hP,L1,L4,c1,c3,oc,r1,r5,okr⟩=>?_⟩
  refine ⟨t,_,rfl,SqT.of ht,rfl,_,_,rfl,_,_,rfl,_,_,rfl,_,_,rfl,rfl,?_⟩
  refine ⟨_,rfl,_,rfl,P,L,rfl,hP,fun hL=>absurd ⟨L1,L4⟩ hL,fun _ _ g x H2 s2 hN hG=>?_⟩
  obtain ⟨dxg,hg⟩:=id hG
  have hc2:=s2 _ _ hc
  have hrw2:=s2 _ _ hrw
  have lw:ws.length=rows.length:=Paired.length prs
  have prs2:Paired (RowR P H2) ws rows:=ap (fun _ _ z=>z.same s2) prs
  have gne:∀ {H':Hp} {l:Addr} {xs:List V},Same H2 H'->H' l=some (.lst xs)->l ≠ g:=fun s e=>dY e (s _ _ hg) (by intro z; cases z)
  refine ⟨_,rfl,_,rfl,_,rfl,rw,rfl,⟨_,SqL.of hrw2⟩,be (n:=ws.length) (σ0:=[none]) rfl (fun acc i vs σ H'=>∃ u:Option V,σ=[u]/\Same H2 H'/\Paired (fun (x:V) (row:List (List am))=>∃ l es,x=.ref l/\l ≠ acc/\H' l=some (.lst es)/\Paired (EntR P H2) es row) vs (rows.take i)) (by rw [sizeLine_eq]; omega) (fun acc hacc=>⟨none,rfl,Same.new hacc,by rw [List.take_zero]; exact .nil⟩) ?_ ?_ ?_ ?_⟩
  ·rintro acc i vs σ H' hacc hi hz ⟨u,rfl,sm,_⟩
   exact ⟨ws,ws[i],SqL.of (sm _ _ hrw2),by simp [hi]⟩
  ·rintro acc vs σ H' hacc hz ⟨u,rfl,sm,_⟩
   exact ⟨ws,SqL.of (sm _ _ hrw2),Nat.le_refl _⟩
  ·rintro acc i vs σ H3 y H' hacc hi hz hzl ⟨u,rfl,sm,pv'⟩ ⟨rfl,gx⟩
   have hy:=gx ws (SqL.of (sm _ _ hrw2))
   obtain ⟨row,er,r,es,rfl,hr2,pe⟩:=aG prs2 hy
   refine ⟨_,rfl,r,es,rfl,.inl (SqL.of (sm _ _ hr2)),fun l4 n4=>?_⟩
   have s4:=Same.new (o:=.lst es) n4
   have h4:(upd H' l4 (.lst es)) l4=some (.lst es):=ac
   have la:l4 ≠ acc:=fun z=>by rw [z,hz] at n4; cases n4
   generalize upd H' l4 (.lst es)=H4 at *
   refine ⟨vs,s4 _ _ hz,by rw [sizeLine_eq]; omega,_,ac,by rw [List.length_append,List.length_singleton]; omega,_,rfl,(sm.trans s4).put hacc,?_⟩
   rw [List.take_add_one,er]
   refine bg ⟨l4,es,rfl,la,by rw [ao la]; exact h4,pe⟩ (ap (fun x row z=>?_) pv')
   obtain ⟨l',es',rfl,z1,z2,z3⟩:=z
   exact ⟨l',es',rfl,z1,by rw [ao z1]; exact s4 _ _ z2,z3⟩
  rintro acc3 vs3 σ H3 n3 h3 hzl ⟨u,rfl,s3,pv3⟩
  rw [lw,List.take_length] at pv3
  have lv3:vs3.length=rows.length:=Paired.length pv3
  have TT3:TThing K P L H3 g cs (.ref acc3) true:=tab_thing L4 c3 (gne s3 h3) h3 (by omega) (ap (fun x row z=>by
   obtain ⟨l',es',rfl,z1,z2,z3⟩:=z
   exact RowR.ins (s3 _ _ hg) ⟨l',es',rfl,z2,ap (fun _ _ z=>z.same s3) z3⟩) pv3) okr
  refine ⟨g,x,g,c,P,L,cs,_,true,rfl,hP,⟨dxg,s3 _ _ hg⟩,hN.mono (fun o e=>s3 _ _ e),s3 _ _ hc2,by omega,TT3,fun H4 s4=>⟨_,_,rfl,rfl,_,rfl,aO ?_⟩⟩
  have s24:=s3.trans s4
  refine ⟨_,rfl,_,rfl,Nat.zero_le _,fun l5 n5=>?_⟩
  have s5:=Same.new (o:=.lst []) n5
  have h5:(upd H4 l5 (.lst [])) l5=some (.lst []):=ac
  generalize upd H4 l5 (.lst [])=H5 at *
  have s25:=s24.trans s5
  refine ⟨g,x,g,c,P,L,cs,_,true,rfl,hP,⟨dxg,s25 _ _ hg⟩,hN.mono (fun o e=>s25 _ _ e),s25 _ _ hc2,by omega,.inr ⟨l5,[],[],rfl,gne s25 h5,h5,Nat.zero_le _,.nil,rfl⟩,fun H6 s6=>⟨_,_,rfl,rfl,_,rfl,aO ?_⟩⟩
  have s26:=s25.trans s6
  have hc6:=s26 _ _ hc2
  refine ⟨_,rfl,c,rfl,⟨_,SqL.of hc6⟩,be (n:=(cs.map V.int).length) (σ0:=[none]) rfl (fun acc i vs σ H'=>∃ u:Option V,σ=[u]/\Same H6 H'/\vs.length=i/\∀ x ∈ vs,∃ l,x=.ref l/\l ≠ acc/\H' l=some (.lst [])) (by rw [List.length_map,sizeLine_eq]; omega) (fun acc hacc=>⟨none,rfl,Same.new hacc,rfl,br⟩) ?_ ?_ ?_ ?_⟩
  ·rintro acc j vs σ H' hacc hj hz ⟨u,rfl,sm,_⟩
   exact ⟨_,(cs.map V.int)[j],SqL.of (sm _ _ hc6),List.getElem?_eq_getElem hj⟩
  ·rintro acc vs σ H' hacc hz ⟨u,rfl,sm,_⟩
   exact ⟨_,SqL.of (sm _ _ hc6),Nat.le_refl _⟩
  ·rintro acc j vs σ H31 y H' hacc hj hz hzl ⟨u,rfl,sm,lw',hw⟩ ⟨rfl,gx⟩
   rw [List.length_map] at hj
   refine ⟨Nat.zero_le _,fun l32 n32=>?_⟩
   have s32:=Same.new (o:=.lst []) n32
   have h32:(upd H' l32 (.lst [])) l32=some (.lst []):=ac
   have la:l32 ≠ acc:=fun z=>by rw [z,hz] at n32; cases n32
   generalize upd H' l32 (.lst [])=H32 at *
   refine ⟨vs,s32 _ _ hz,by rw [sizeLine_eq]; omega,_,ac,by rw [List.length_append,List.length_singleton]; omega,_,rfl,(sm.trans s32).put hacc,by rw [List.length_append,lw']; rfl,dZ (fun x hx=>?_) (all_cons ⟨l32,rfl,la,by rw [ao la]; exact h32⟩ br)⟩
   obtain ⟨l',rfl,z1,z2⟩:=hw x hx
   exact ⟨l',rfl,z1,by rw [ao z1]; exact s32 _ _ z2⟩
  rintro nl vs7 σ H7 n7 h7 hzl ⟨u,rfl,s7,lv7,hw7⟩
  rw [List.length_map] at lv7
  have s27:=s26.trans s7
  have hw7':∀ x ∈ vs7,∃ l,x=.ref l/\l ≠ g/\H7 l=some (.lst []):=fun x hx=>by
   obtain ⟨l',rfl,_,z2⟩:=hw7 x hx
   exact ⟨l',rfl,gne s27 z2,z2⟩
  obtain ⟨NT7,NE7⟩:=nk (K:=K) (P:=P) (L:=L) (cs:=cs) (gne s27 h7) h7 lv7 (by omega) hw7'
  refine ⟨_,rfl,_,rfl,_,rfl,g,x,g,c,P,L,cs,_,_,rfl,hP,⟨dxg,s27 _ _ hg⟩,hN.mono (fun o e=>s27 _ _ e),s27 _ _ hc2,by omega,NT7,fun H8 s8=>⟨_,_,rfl,rfl,_,rfl,aO ?_⟩⟩
  have s28:=s27.trans s8
  refine ⟨_,rfl,_,rfl,c,nl,P,cs,vs7,_,rfl,s28 _ _ hc2,s8 _ _ h7,ap (fun _ _ z=>z.same s8) NE7,List.length_replicate ..,by rw [List.length_replicate]; omega,fun H9 s9=>⟨rfl,_,rfl,?_⟩⟩
  have e9:bA cs (List.replicate cs.length [])=.non:=by unfold bA; rw [jF]
  rw [e9]
  refine aO ?_
  have s29:=s28.trans s9
  have s79:=s8.trans s9
  refine ⟨_,rfl,_,rfl,_,rfl,_,rfl,(by show 1 <= sizeLine; decide),fun l10 n10=>?_⟩
  have s10:=Same.new (o:=.lst [.ref nl]) n10
  have h10:(upd H9 l10 (.lst [.ref nl])) l10=some (.lst [.ref nl]):=ac
  generalize upd H9 l10 (.lst [.ref nl])=H10 at *
  have s210:=s29.trans s10
  refine ⟨rw,l10,_,_,rfl,rfl,s210 _ _ hrw2,h10,by rw [sizeLine_eq]; show _ + 1 <= _; omega,fun l11 n11=>?_⟩
  have s11:=Same.new (o:=.lst (ws ++ [.ref nl])) n11
  have h11:(upd H10 l11 (.lst (ws ++ [.ref nl]))) l11=some (.lst (ws ++ [.ref nl])):=ac
  generalize upd H10 l11 (.lst (ws ++ [.ref nl]))=H11 at *
  have s211:=s210.trans s11
  have s711:=(s79.trans s10).trans s11
  have TT11:TThing K P L H11 g cs (.ref l11) false:=by
   refine .inr ⟨l11,ws ++ [.ref nl],rows.map some ++ [some (List.replicate cs.length [])],rfl,gne s211 h11,h11,by rw [List.length_append]; show _ + 1 <= 60; omega,bg (NT7.keep (Soft.of s711) fun c o e _=>s711 c o e) (fW (fun x row hr z=>iZ L4 c3 (RowR.ins (s211 _ _ hg) (z.same s211)) (okr row hr)) prs2),?_⟩
   rw [List.all_append]
   show false=(_ && ((aX cs (List.replicate cs.length [])).isSome && true))
   rw [jF]
   exact (Bool.and_false _).symm
  refine ⟨g,x,g,c,P,L,cs,_,false,rfl,hP,⟨dxg,s211 _ _ hg⟩,hN.mono (fun o e=>s211 _ _ e),s211 _ _ hc2,by omega,TT11,fun H12 s12=>⟨_,_,rfl,rfl,_,rfl,aO ?_⟩⟩
  have s212:=s211.trans s12
  refine ⟨_,rfl,Nat.zero_le _,fun l13 n13=>⟨Nat.zero_le _,fun l14 n14=>?_⟩⟩
  have s13:=Same.new (o:=.lst []) n13
  have h13:(upd H12 l13 (.lst [])) l13=some (.lst []):=ac
  generalize upd H12 l13 (.lst [])=H13 at *
  have s14:=Same.new (o:=.lst []) n14
  have h14:(upd H13 l14 (.lst [])) l14=some (.lst []):=ac
  generalize upd H13 l14 (.lst [])=H14 at *
  have s214:=(s212.trans s13).trans s14
  refine ⟨g,x,g,l13,P,L,[],_,some [],rfl,hP,⟨dxg,s214 _ _ hg⟩,hN.mono (fun o e=>s214 _ _ e),s14 _ _ h13,Nat.zero_le _,.inr ⟨l14,[],[],rfl,gne s214 h14,h14,Nat.zero_le _,.nil,.inr ⟨rfl,[],.nil,rfl⟩⟩,fun H15 s15=>⟨_,_,rfl,rfl,_,rfl,aO ?_⟩⟩
  have s215:=s214.trans s15
  refine ⟨_,rfl,rw,rfl,⟨_,SqL.of (s215 _ _ hrw2)⟩,dF (xs:=ws) (fun i σ H'=>∃ x7:Option V,σ=[some (.ref a),some (.int P),some (.int L),some (.ref c),some (.ref rw),some (.ref g),some (.ref nl),x7,none,none,none,none,none]/\Same H2 H') ?_ ?_ ?_ ?_⟩
  ·exact ⟨none,rfl,s215⟩
  ·rintro i σ H' _ ⟨x7,rfl,sm⟩
   exact SqL.of (sm _ _ hrw2)
  ·rintro i y σ H16 hx ⟨x7,rfl,s16⟩
   obtain ⟨row,er,r,es,rfl,hr2,pe⟩:=aG prs2 hx
   have okrow:=okr row (List.mem_of_getElem? er)
   obtain ⟨hh,elv⟩:=row_lev okrow
   obtain ⟨ht,okh,_⟩:=okrow
   have lrc:row.length=cs.length:=(Paired.length okh).symm
   have ev:bA cs row=.int hh:=by unfold bA; rw [elv]
   refine ⟨_,rfl,_,rfl,c,r,P,cs,es,row,rfl,s16 _ _ hc2,s16 _ _ hr2,ap (fun _ _ z=>z.same s16) pe,lrc,by omega,fun H17 s17=>?_⟩
   have s217:=s16.trans s17
   refine ⟨_,rfl,_,rfl,c,r,P,cs,es,row,rfl,s217 _ _ hc2,s217 _ _ hr2,ap (fun _ _ z=>z.same s217) pe,by omega,fun H18 s18=>?_⟩
   have s218:=s217.trans s18
   rw [ev]
   refine ⟨rfl,_,rfl,jP rfl ?_⟩
   refine ⟨_,rfl,_,rfl,c,r,P,cs,es,row,rfl,s218 _ _ hc2,s218 _ _ hr2,ap (fun _ _ z=>z.same s218) pe,lrc,by omega,fun H19 s19=>?_⟩
   rw [ev]
   exact ⟨.int hh,_,true,false,rfl,.int hh,rfl,rfl,_,rfl,aO ⟨_,rfl,s218.trans s19⟩⟩
  rintro σ H16 ⟨x7,rfl,s16⟩
  have smH:=(s1.trans s2).trans s16
  have hln:((ns.map V.int).length:Int) <= 63:=by rw [List.length_map]; omega
  have hJ:∀ n:Int,n <= 63->(8:Int) <= (if (if n < 19 then n else 19) > 8 then (if n < 19 then n else 19) else 8)/\(if (if n < 19 then n else 19) > 8 then (if n < 19 then n else 19) else 8) <= 19:=fun n hn=>by split<;>split<;>omega
  have hJ:=hJ _ hln
  refine ⟨_,rfl,a,_,rfl,.inl (smH.seq hS),_,_,rfl,_,_,rfl,_,_,rfl,⟨by decide,by decide,by omega,by omega⟩,gi (lo:=7) (fun i σ H'=>∃ x8 x9 x10 x11 x12:Option V,σ=[some (.ref a),some (.int P),some (.int L),some (.ref c),some (.ref rw),some (.ref g),some (.ref nl),x7,x8,x9,x10,x11,x12]/\Same H2 H')
   ⟨none,none,none,none,none,rfl,s16⟩ ?_ ?_⟩
  ·rintro i σ H17 hi ⟨x8,x9,x10,x11,x12,rfl,s17⟩
   refine ⟨_,rfl,_,rfl,a,ns,_,rfl,((s1.trans s2).trans s17).seq hS,hlen,by omega,by omega,fun p x18 y18 np hb18=>?_⟩
   have s18:=Same.new (o:=.lst [.int x18,.int y18]) np
   have hp18:(upd H17 p (.lst [.int x18,.int y18])) p=some (.lst [.int x18,.int y18]):=ac
   generalize upd H17 p (.lst [.int x18,.int y18])=H18 at *
   have s218:=s17.trans s18
   refine ⟨_,rfl,_,rfl,rw,ws,rfl,.inl (SqL.of (s218 _ _ hrw2)),p,x18,y18,_,100,rfl,hp18,hb18,by decide,by omega,aC (by omega) (by omega),fun r19 x19 y19 r190 r191 hb19=>?_⟩
   have k19:∀ c o,H17 c=some o->upd H18 p (.lst [.int x19,.int y19]) c=some o:=fun c o e=>by rw [ao (ah e np)]; exact s18 _ _ e
   have hp19:(upd H18 p (.lst [.int x19,.int y19])) p=some (.lst [.int x19,.int y19]):=ac
   generalize upd H18 p (.lst [.int x19,.int y19])=H19 at *
   have s19:Same H17 H19:=k19
   have s219:=s17.trans s19
   obtain ⟨j,rfl⟩:=Int.eq_ofNat_of_zero_le r190
   have hj:j < ws.length:=by omega
   obtain ⟨y,ey⟩:∃ y,ws[j]? = some y:=⟨_,List.getElem?_eq_getElem hj⟩
   have prs17:Paired (RowR P H17) ws rows:=ap (fun _ _ z=>z.same s17) prs2
   have prs19:Paired (RowA [p] P H19) ws rows:=ap (fun _ _ z=>z.fresh np s19) prs17
   obtain ⟨row,er,r,es,rfl,rp,hr19,pe19⟩:=aG prs19 ey
   have rp:r ≠ p:=by simpa using rp
   refine ⟨_,rfl,_,rfl,_,rfl,_,rfl,rw,ws,_,_,rfl,rfl,SqL.of (s219 _ _ hrw2),bN ey,_,rfl,r,p,P,L,x19,y19,_,cs,es,row,rfl,hP,L1,L4,hr19,rp,pe19,okr row (List.mem_of_getElem? er),c1,c3,hp19,hb19,by decide,fun v x20 y20 H20 G20 hp20 hb20 k20=>?_⟩
   have s20:Same H17 H20:=fun c o e=>k20 _ _ (s19 _ _ e) (ah e np)
   have s220:=s17.trans s20
   obtain ⟨⟨o,RT⟩,bt,TT⟩:=id G20
   refine ⟨_,rfl,_,rfl,_,rfl,g,x,p,c,P,L,cs,v,o,rfl,hP,⟨dxg,s220 _ _ hg⟩,hN.mono (fun o e=>s220 _ _ e),s220 _ _ hc2,by omega,RT,fun H21 s21=>?_⟩
   refine ⟨_,rfl,_,rfl,_,rfl,_,rfl,p,c,P,L,cs,v,o,rfl,hP,s21 _ _ (s220 _ _ hc2),by omega,RT.keep (Soft.of s21) (fun c o e _=>s21 c o e),fun H22 s22=>?_⟩
   refine ⟨_,_,rfl,?_⟩
   rw [decide_eq_true rfl]
   refine ⟨_,rfl,aO ?_⟩
   have s2022:=s21.trans s22
   have G22:=G20.same s2022
   have hp22:=s2022 _ _ hp20
   have s1722:=s20.trans s2022
   have s222:=s17.trans s1722
   have prs22:Paired (RowA [p] P H22) ws rows:=ap (fun _ _ z=>z.fresh np s1722) prs17
   have R22:∀ x ∈ ws,RTh K P L H22 p cs x:=fun x hx=>by
    obtain ⟨row',mr,z⟩:=dG prs22 hx
    exact ⟨_,iZ L4 c3 z (okr row' mr)⟩
   refine sand (K:=K) (i:=j) (tv:=gk 4) (ta:=gk 10) (fun xs H2=>∃ v',xs=[v']/\RTh K P L H2 p cs v') (s222 _ _ hrw2) hj (by omega) (fun H Z z=>⟨_,rfl,z⟩) (fun H Z z=>⟨_,rfl,z⟩) (fun H Z z=>⟨_,rfl,_,_,rfl,rfl,z⟩) (fun H1 Z s1 hz=>⟨_,rfl,hz _ _ (Same.refl _) ⟨v,rfl,(G22.same s1).1⟩⟩) ?_ ?_ fun z23 xs23 H23 n23 s23 g23 h23=>?_
   ·rintro xs H2' H3' s ⟨v',rfl,o',h'⟩
    exact ⟨v',rfl,o',h'.keep (Soft.of s) fun c o e _=>s c o e⟩
   ·rintro xs H2' ⟨v',rfl,_⟩
    show 1 <= 5
    decide
   obtain ⟨v',rfl,rv'⟩:=g23
   have lp23:z23 ≠ p:=(ah hp22 n23).symm
   have R23:∀ x ∈ ws,RTh K P L H23 p cs x:=fun x hx=>by
    obtain ⟨o',h'⟩:=R22 x hx
    exact ⟨o',h'.keep (Soft.of s23) fun c o e _=>s23 c o e⟩
   have T23:TTh K P L H23 p cs (.ref z23):=fT lp23 h23 (by rw [List.length_append,List.length_append,List.length_take,List.length_drop]; show _ + 1 + _ <= 60; omega) (dZ (dZ (fun x hx=>R23 x (List.mem_of_mem_take hx)) (all_cons rv' br)) fun x hx=>R23 x (List.mem_of_mem_drop hx))
   have s223:=s222.trans s23
   refine ⟨_,rfl,rw,ws,rfl,SqL.of (s223 _ _ hrw2),fun t24 n24=>?_⟩
   have s24':=Same.new (o:=.tup ws) n24
   have h24:(upd H23 t24 (.tup ws)) t24=some (.tup ws):=ac
   generalize upd H23 t24 (.tup ws)=H24 at *
   refine ⟨_,rfl,(by show 1 <= sizeLine; decide),fun l25 n25=>?_⟩
   have s25':=Same.new (o:=.lst [v]) n25
   have h25:(upd H24 l25 (.lst [v])) l25=some (.lst [v]):=ac
   have hp24:=s24' _ _ (s23 _ _ hp22)
   have lp25:l25 ≠ p:=(ah hp24 n25).symm
   generalize upd H24 l25 (.lst [v])=H25 at *
   have s2325:=s24'.trans s25'
   have G25:=G22.same (s23.trans s2325)
   have T25:TTh K P L H25 p cs (.ref l25):=fT lp25 h25 (by show 1 <= 60; decide) (all_cons G25.1 br)
   have T24:TTh K P L H25 p cs (.ref t24):=((iM (s25' _ _ h24)).eth (P:=P) (L:=L) (p:=p) (cs:=cs)).2.2
   have Ts:∀ x ∈ [V.ref z23,.ref t24,.ref l25,v],TTh K P L H25 p cs x:=by
    obtain ⟨b',h'⟩:=T23
    exact all_cons ⟨b',h'.keep (Soft.of s2325) fun c o e _=>s2325 c o e⟩ (all_cons T24 (all_cons T25 (all_cons G25.2 br)))
   refine ⟨_,rfl,(by show 4 <= sizeLine; decide),fun l26 n26=>?_⟩
   have e26:([V.ref z23,.ref t24,.ref l25,v]:List V).length=4:=rfl
   generalize ([V.ref z23,.ref t24,.ref l25,v]:List V)=xs26 at *
   have s26':=Same.new (o:=.lst xs26) n26
   have h26:(upd H25 l26 (.lst xs26)) l26=some (.lst xs26):=ac
   have hp25:=s25' _ _ hp24
   have lp26:l26 ≠ p:=(ah hp25 n26).symm
   generalize upd H25 l26 (.lst xs26)=H26 at *
   have hp26:=s26' _ _ hp25
   refine ⟨_,rfl,p,x20,y20,4,_,rfl,hp26,hb20,by decide,by decide,aC (by decide) (by decide),fun r27 x27 y27 r270 r271 hb27=>?_⟩
   obtain ⟨tv,hat,htv⟩:=at_any xs26 r270 (by rw [e26]; exact r271)
   obtain ⟨b27,T27⟩:=Ts tv htv
   have T26:TThing K P L H26 p cs tv b27:=T27.keep (Soft.of s26') fun c o e _=>s26' c o e
   have k27:∀ c o,H26 c=some o->c ≠ p->upd H26 p (.lst [.int x27,.int y27]) c=some o:=fun c o e hc=>by rw [ao hc]; exact e
   have T27':=T26.keep (Soft.but hp26 ac k27) k27
   have h27:=k27 _ _ h26 lp26
   have s1727:Same H17 (upd H26 p (.lst [.int x27,.int y27])):=fun c o e=>k27 c o (s26' _ _ (s2325 _ _ (s23 _ _ (s1722 _ _ e)))) (ah e np)
   generalize upd H26 p (.lst [.int x27,.int y27])=H27 at *
   have s227:=s17.trans s1727
   refine ⟨l26,xs26,_,tv,rfl,rfl,SqL.of h27,hat,?_⟩
   refine ⟨_,rfl,_,rfl,_,rfl,g,x,p,c,P,L,cs,tv,b27,rfl,hP,⟨dxg,s227 _ _ hg⟩,hN.mono (fun o e=>s227 _ _ e),s227 _ _ hc2,by omega,T27',fun H28 s28'=>?_⟩
   refine ⟨_,rfl,_,rfl,_,rfl,_,rfl,p,c,P,L,cs,tv,b27,rfl,hP,s28' _ _ (s227 _ _ hc2),by omega,T27'.keep (Soft.of s28') (fun c o e _=>s28' c o e),fun H29 s29'=>?_⟩
   refine ⟨_,_,rfl,?_⟩
   rw [decide_eq_true rfl]
   exact ⟨_,rfl,aO ⟨_,_,_,_,_,rfl,(s227.trans s28').trans s29'⟩⟩
  ·rintro σ H17 _
   exact q H17
end
set_option maxHeartbeats 4000000 in
theorem all_mk {l:PySem.W.OpenLaw} {w:World} {K:Frag} {h:Heap} {mg:Str->Option Value} {fa:Addr} (X:K.In h) (G:h.Ns mainGlobals mg) (hfa:mg "law"=some (.ref fa))
  (d0:DefIn K "is_whole_number" cG) (d1:DefIn K "is_pair" iS) (d2:DefIn K "is_prime" gX) (d3:DefIn K "greatest_divisor" cw) (d4:DefIn K "inverse" i3) (d5:DefIn K "is_product" eU) (d6:DefIn K "degree" jR) (d7:DefIn K "height" jQ) (d8:DefIn K "is_above" gw) (d9:DefIn K "is_sum" kA) (d10:DefIn K "is_part" iR) (d11:DefIn K "is_level" gS) (d12:DefIn K "level" mD) (d13:DefIn K "is_row" jH) (d14:DefIn K "is_table" gG) (d15:DefIn K "entry_levels" dC) (d16:DefIn K "row_level" fV) (d17:DefIn K "_law_truth" ff) (d18:DefIn K "_law_cell" fS) (d19:DefIn K "_law_bag" gW) (d20:DefIn K "_law_take" fI) (d21:DefIn K "_law_great" eZ) (d22:DefIn K "_law_signed" eC) (d23:DefIn K "_law_whole" e7) (d24:DefIn K "_law_low" gO) (d25:DefIn K "_law_is_prime" dn) (d26:DefIn K "_law_prime" fh) (d27:DefIn K "_law_numbers" dD) (d28:DefIn K "_law_plus" fz) (d29:DefIn K "_law_times" eW) (d30:DefIn K "_law_nought" eA) (d31:DefIn K "_law_unit" fJ) (d32:DefIn K "_law_number" cV) (d33:DefIn K "_law_product" dA) (d34:DefIn K "_law_key" gP) (d35:DefIn K "_law_sum" gE) (d36:DefIn K "_law_sum_times" cL) (d37:DefIn K "_law_level" eV) (d38:DefIn K "_law_wide" fO) (d39:DefIn K "_law_drawn_row" cJ) (d40:DefIn K "_law_again_row" cK) (d41:DefIn K "_law_columns" dH) (d42:DefIn K "_law_table" eS) (d43:DefIn K "_law_one_part" dm) (d44:DefIn K "_law_number_like" cm) (d45:DefIn K "_law_sum_like" dj) (d46:DefIn K "_law_row_like" di) (d47:DefIn K "_law_table_like" cB) (d48:DefIn K "_law_ring" fG) (d49:DefIn K "_law_spoilt" eB) (d50:DefIn K "law" s_law)
  {C_Fractions:Addr} (aC_Fractions:nsIn K mainGlobals "Fractions"=some (some (.ref C_Fractions))) (pg_Fractions:plainGet K C_Fractions Str.empty=true) (hd_Fractions:hasDictIn K C_Fractions=true) (po_Fractions:plainOver K C_Fractions=true) (sa_Fractions:findIn K (.ref C_Fractions) "__setattr__"=some (some (.builtin "object.__setattr__"))) (mk_Fractions:makesIn K C_Fractions=true) (kc_Fractions:keepIn K (.ref C_Fractions)=true)
  (in_Fractions:findIn K (.ref C_Fractions) "__init__"=some (some (.builtin "object.__init__")))
  {f_Fractions_is_number:Addr} {od_Fractions_is_number an_Fractions_is_number:Option Addr} {sl_Fractions_is_number:Array (Option Value)} {oc_Fractions_is_number kV_Fractions_is_number dc_Fractions_is_number pm_Fractions_is_number cd_Fractions_is_number ct_Fractions_is_number:Value}
  (me_Fractions_is_number:findIn K (.ref C_Fractions) "is_number"=some (some (.ref f_Fractions_is_number))) (fn_Fractions_is_number:isFn K (.ref f_Fractions_is_number)=true) (l_Fractions_is_number:K.lookup f_Fractions_is_number=some ⟨oc_Fractions_is_number,od_Fractions_is_number,.func (fnOf "is_number" "Fractions.is_number" (bd aR) (aT aR) (al aR) .none kV_Fractions_is_number dc_Fractions_is_number pm_Fractions_is_number an_Fractions_is_number cd_Fractions_is_number ct_Fractions_is_number),sl_Fractions_is_number⟩) (c_Fractions_is_number:codeIn K cd_Fractions_is_number "Fractions.is_number"=true) (k_Fractions_is_number:keepIn K (.ref f_Fractions_is_number)=true)
  {Td_Fractions_of:Addr} {dc_d_Fractions_of:Value} {dd_d_Fractions_of:Option Addr} {tkd_Fractions_of:Tok} {nd_Fractions_of:Nat} {sld_Fractions_of:Array (Option Value)}
  {f_Fractions_of:Addr} {od_Fractions_of an_Fractions_of:Option Addr} {sl_Fractions_of:Array (Option Value)} {oc_Fractions_of kV_Fractions_of dc_Fractions_of pm_Fractions_of cd_Fractions_of ct_Fractions_of:Value}
  (me_Fractions_of:findIn K (.ref C_Fractions) "of"=some (some (.ref f_Fractions_of))) (fn_Fractions_of:isFn K (.ref f_Fractions_of)=true) (l_Fractions_of:K.lookup f_Fractions_of=some ⟨oc_Fractions_of,od_Fractions_of,.func (fnOf "of" "Fractions.of" (bd aL) (aT aL) (al aL) (.ref Td_Fractions_of) kV_Fractions_of dc_Fractions_of pm_Fractions_of an_Fractions_of cd_Fractions_of ct_Fractions_of),sl_Fractions_of⟩) (c_Fractions_of:codeIn K cd_Fractions_of "Fractions.of"=true) (k_Fractions_of:keepIn K (.ref f_Fractions_of)=true)
  (ld_Fractions_of:K.lookup Td_Fractions_of=some ⟨dc_d_Fractions_of,dd_d_Fractions_of,.seq #[.int 1 tkd_Fractions_of] nd_Fractions_of,sld_Fractions_of⟩)
  {C_Rests:Addr} (aC_Rests:nsIn K mainGlobals "Rests"=some (some (.ref C_Rests))) (pg_Rests:plainGet K C_Rests Str.empty=true) (hd_Rests:hasDictIn K C_Rests=true) (po_Rests:plainOver K C_Rests=true) (sa_Rests:findIn K (.ref C_Rests) "__setattr__"=some (some (.builtin "object.__setattr__"))) (mk_Rests:makesIn K C_Rests=true) (kc_Rests:keepIn K (.ref C_Rests)=true)
  (na_Rests_modulus:findIn K (.ref C_Rests) "modulus"=some none)
  {f_Rests___init__:Addr} {od_Rests___init__ an_Rests___init__:Option Addr} {sl_Rests___init__:Array (Option Value)} {oc_Rests___init__ kV_Rests___init__ dc_Rests___init__ pm_Rests___init__ cd_Rests___init__ ct_Rests___init__:Value}
  (me_Rests___init__:findIn K (.ref C_Rests) "__init__"=some (some (.ref f_Rests___init__))) (fn_Rests___init__:isFn K (.ref f_Rests___init__)=true) (l_Rests___init__:K.lookup f_Rests___init__=some ⟨oc_Rests___init__,od_Rests___init__,.func (fnOf "__init__" "Rests.__init__" (bd bp) (aT bp) (al bp) .none kV_Rests___init__ dc_Rests___init__ pm_Rests___init__ an_Rests___init__ cd_Rests___init__ ct_Rests___init__),sl_Rests___init__⟩) (c_Rests___init__:codeIn K cd_Rests___init__ "Rests.__init__"=true) (k_Rests___init__:keepIn K (.ref f_Rests___init__)=true)
  {f_Rests_is_number:Addr} {od_Rests_is_number an_Rests_is_number:Option Addr} {sl_Rests_is_number:Array (Option Value)} {oc_Rests_is_number kV_Rests_is_number dc_Rests_is_number pm_Rests_is_number cd_Rests_is_number ct_Rests_is_number:Value}
  (me_Rests_is_number:findIn K (.ref C_Rests) "is_number"=some (some (.ref f_Rests_is_number))) (fn_Rests_is_number:isFn K (.ref f_Rests_is_number)=true) (l_Rests_is_number:K.lookup f_Rests_is_number=some ⟨oc_Rests_is_number,od_Rests_is_number,.func (fnOf "is_number" "Rests.is_number" (bd bh) (aT bh) (al bh) .none kV_Rests_is_number dc_Rests_is_number pm_Rests_is_number an_Rests_is_number cd_Rests_is_number ct_Rests_is_number),sl_Rests_is_number⟩) (c_Rests_is_number:codeIn K cd_Rests_is_number "Rests.is_number"=true) (k_Rests_is_number:keepIn K (.ref f_Rests_is_number)=true)
  {Td_Rests_of:Addr} {dc_d_Rests_of:Value} {dd_d_Rests_of:Option Addr} {tkd_Rests_of:Tok} {nd_Rests_of:Nat} {sld_Rests_of:Array (Option Value)}
  {f_Rests_of:Addr} {od_Rests_of an_Rests_of:Option Addr} {sl_Rests_of:Array (Option Value)} {oc_Rests_of kV_Rests_of dc_Rests_of pm_Rests_of cd_Rests_of ct_Rests_of:Value}
  (me_Rests_of:findIn K (.ref C_Rests) "of"=some (some (.ref f_Rests_of))) (fn_Rests_of:isFn K (.ref f_Rests_of)=true) (l_Rests_of:K.lookup f_Rests_of=some ⟨oc_Rests_of,od_Rests_of,.func (fnOf "of" "Rests.of" (bd bn) (aT bn) (al bn) (.ref Td_Rests_of) kV_Rests_of dc_Rests_of pm_Rests_of an_Rests_of cd_Rests_of ct_Rests_of),sl_Rests_of⟩) (c_Rests_of:codeIn K cd_Rests_of "Rests.of"=true) (k_Rests_of:keepIn K (.ref f_Rests_of)=true)
  (ld_Rests_of:K.lookup Td_Rests_of=some ⟨dc_d_Rests_of,dd_d_Rests_of,.seq #[.int 1 tkd_Rests_of] nd_Rests_of,sld_Rests_of⟩)
  {C_Ring:Addr} (aC_Ring:nsIn K mainGlobals "Ring"=some (some (.ref C_Ring))) (pg_Ring:plainGet K C_Ring Str.empty=true) (hd_Ring:hasDictIn K C_Ring=true) (po_Ring:plainOver K C_Ring=true) (sa_Ring:findIn K (.ref C_Ring) "__setattr__"=some (some (.builtin "object.__setattr__"))) (mk_Ring:makesIn K C_Ring=true) (kc_Ring:keepIn K (.ref C_Ring)=true)
  (na_Ring_kind:findIn K (.ref C_Ring) "kind"=some none)
  (na_Ring_width:findIn K (.ref C_Ring) "width"=some none)
  {f_Ring___init__:Addr} {od_Ring___init__ an_Ring___init__:Option Addr} {sl_Ring___init__:Array (Option Value)} {oc_Ring___init__ kV_Ring___init__ dc_Ring___init__ pm_Ring___init__ cd_Ring___init__ ct_Ring___init__:Value}
  (me_Ring___init__:findIn K (.ref C_Ring) "__init__"=some (some (.ref f_Ring___init__))) (fn_Ring___init__:isFn K (.ref f_Ring___init__)=true) (l_Ring___init__:K.lookup f_Ring___init__=some ⟨oc_Ring___init__,od_Ring___init__,.func (fnOf "__init__" "Ring.__init__" (bd bu) (aT bu) (al bu) .none kV_Ring___init__ dc_Ring___init__ pm_Ring___init__ an_Ring___init__ cd_Ring___init__ ct_Ring___init__),sl_Ring___init__⟩) (c_Ring___init__:codeIn K cd_Ring___init__ "Ring.__init__"=true) (k_Ring___init__:keepIn K (.ref f_Ring___init__)=true)
  {f_Ring_numbers:Addr} {od_Ring_numbers an_Ring_numbers:Option Addr} {sl_Ring_numbers:Array (Option Value)} {oc_Ring_numbers kV_Ring_numbers dc_Ring_numbers pm_Ring_numbers cd_Ring_numbers ct_Ring_numbers:Value}
  (me_Ring_numbers:findIn K (.ref C_Ring) "numbers"=some (some (.ref f_Ring_numbers))) (fn_Ring_numbers:isFn K (.ref f_Ring_numbers)=true) (l_Ring_numbers:K.lookup f_Ring_numbers=some ⟨oc_Ring_numbers,od_Ring_numbers,.func (fnOf "numbers" "Ring.numbers" (bd bF) (aT bF) (al bF) .none kV_Ring_numbers dc_Ring_numbers pm_Ring_numbers an_Ring_numbers cd_Ring_numbers ct_Ring_numbers),sl_Ring_numbers⟩) (c_Ring_numbers:codeIn K cd_Ring_numbers "Ring.numbers"=true) (k_Ring_numbers:keepIn K (.ref f_Ring_numbers)=true)
  {f_Ring_letters:Addr} {od_Ring_letters an_Ring_letters:Option Addr} {sl_Ring_letters:Array (Option Value)} {oc_Ring_letters kV_Ring_letters dc_Ring_letters pm_Ring_letters cd_Ring_letters ct_Ring_letters:Value}
  (me_Ring_letters:findIn K (.ref C_Ring) "letters"=some (some (.ref f_Ring_letters))) (fn_Ring_letters:isFn K (.ref f_Ring_letters)=true) (l_Ring_letters:K.lookup f_Ring_letters=some ⟨oc_Ring_letters,od_Ring_letters,.func (fnOf "letters" "Ring.letters" (bd bE) (aT bE) (al bE) .none kV_Ring_letters dc_Ring_letters pm_Ring_letters an_Ring_letters cd_Ring_letters ct_Ring_letters),sl_Ring_letters⟩) (c_Ring_letters:codeIn K cd_Ring_letters "Ring.letters"=true) (k_Ring_letters:keepIn K (.ref f_Ring_letters)=true)
  {C_NoNumber:Addr} (aC_NoNumber:nsIn K mainGlobals "NoNumber"=some (some (.ref C_NoNumber)))
  (ek_NoNumber:excIn K C_NoNumber jV "ValueError.__new__"=true) (ga_NoNumber:findIn K (.ref C_NoNumber) "__getattribute__"=some (some (.builtin "BaseException.__getattribute__"))) (gt_NoNumber:findIn K (.ref C_NoNumber) "__getattr__"=some none) (ca_NoNumber:findIn K (.ref C_NoNumber) "__class__"=some (some (.builtin "object.__class__"))) (mo_NoNumber:mroIn K C_NoNumber (.type "object")=some true) (mb_NoNumber:mroIn K C_NoNumber (.type "BaseException")=some true) (dg_NoNumber:specialIn K (.builtin "object.__class__") "__get__"=some (some (.builtin "getset_descriptor.__get__"))) (dt_NoNumber:takesIn K (.builtin "object.__class__")=some true)
  {C_NoRing:Addr} (aC_NoRing:nsIn K mainGlobals "NoRing"=some (some (.ref C_NoRing)))
  (ek_NoRing:excIn K C_NoRing jV "ValueError.__new__"=true) (ga_NoRing:findIn K (.ref C_NoRing) "__getattribute__"=some (some (.builtin "BaseException.__getattribute__"))) (gt_NoRing:findIn K (.ref C_NoRing) "__getattr__"=some none) (ca_NoRing:findIn K (.ref C_NoRing) "__class__"=some (some (.builtin "object.__class__"))) (mo_NoRing:mroIn K C_NoRing (.type "object")=some true) (mb_NoRing:mroIn K C_NoRing (.type "BaseException")=some true) (dg_NoRing:specialIn K (.builtin "object.__class__") "__get__"=some (some (.builtin "getset_descriptor.__get__"))) (dt_NoRing:takesIn K (.builtin "object.__class__")=some true)
  (zn_set:nsIn K mainGlobals "set"=some none)
  {tk_LEAST_PRIME:Tok} (g_LEAST_PRIME:nsIn K mainGlobals "LEAST_PRIME"=some (some (.int 2 tk_LEAST_PRIME)))
  {tk_GREATEST_PRIME:Tok} (g_GREATEST_PRIME:nsIn K mainGlobals "GREATEST_PRIME"=some (some (.int 9973 tk_GREATEST_PRIME)))
  {tk_MOST_LETTERS:Tok} (g_MOST_LETTERS:nsIn K mainGlobals "MOST_LETTERS"=some (some (.int 4 tk_MOST_LETTERS)))
  (z0:nsIn K mainGlobals "len"=some none) (z1:nsIn K mainGlobals "range"=some none) (z2:nsIn K mainGlobals "zip"=some none) (z3:nsIn K mainGlobals "all"=some none) (z4:nsIn K mainGlobals "sum"=some none) (z5:nsIn K mainGlobals "max"=some none) (z6:nsIn K mainGlobals "min"=some none) (z7:nsIn K mainGlobals "abs"=some none) (z8:nsIn K mainGlobals "tuple"=some none) (z9:nsIn K mainGlobals "list"=some none) (z10:nsIn K mainGlobals "int"=some none) (z11:nsIn K mainGlobals "bool"=some none) (z12:nsIn K mainGlobals "isinstance"=some none) (z13:nsIn K mainGlobals "enumerate"=some none) (z14:nsIn K mainGlobals "sorted"=some none) (z15:nsIn K mainGlobals "set"=some none) (z16:nsIn K mainGlobals "str"=some none) :
  ∃ fd:FuncData,(∀ (s:Shared) (v:Value),BindsTo s fd ⟨[v],[]⟩ [("_law_script",v)])/\∀ base:Heap,K.In base->base.Ns mainGlobals mg->aI l.prog w K mg base CX0 8 fa fd ["_law_script"] (spLaw K):=by
 have T:Blt mg:=⟨mg_none_of X G z0,mg_none_of X G z1,mg_none_of X G z2,mg_none_of X G z3,mg_none_of X G z4,mg_none_of X G z5,mg_none_of X G z6,mg_none_of X G z7,mg_none_of X G z8,mg_none_of X G z9,mg_none_of X G z10,mg_none_of X G z11,mg_none_of X G z12,mg_none_of X G z13,mg_none_of X G z14,mg_none_of X G z15,mg_none_of X G z16⟩
 refine d50.law X G hfa fun {_} {base} F50 _ _=>?_
 have M {k n sp} (h:FnB l.prog w K mg base k n sp):=h
 have cl_Fractions:Cls K C_Fractions:=⟨pg_Fractions,hd_Fractions,po_Fractions,sa_Fractions⟩
 have A_Fractions:=mg_of X G aC_Fractions
 have F_Fractions_is_number:=gL (st:=aR) l_Fractions_is_number c_Fractions_is_number k_Fractions_is_number
 have b_Fractions_is_number:=F_Fractions_is_number.binds (ps:=["self", "thing"]) fun _ _ _ _ _ _ us hl=>match us,hl with | [_,_],_=>rfl
 have m_Fractions_is_number:g6 K C_Fractions "is_number" f_Fractions_is_number:=⟨me_Fractions_is_number,fn_Fractions_is_number,k_Fractions_is_number⟩
 have F_Fractions_of:=funD_mk (st:=aL) l_Fractions_of c_Fractions_of k_Fractions_of
 have b_Fractions_of:Binds K (fnOf "of" "Fractions.of" (bd aL) (aT aL) (al aL) (.ref Td_Fractions_of) kV_Fractions_of dc_Fractions_of pm_Fractions_of an_Fractions_of cd_Fractions_of ct_Fractions_of) ["self", "top", "bottom"] []:=fun s us X hl=>match us,hl with | [_,_,_],_=>BindsTo.of_defaults rfl (X _ _ ld_Fractions_of) rfl rfl rfl
 have bd_Fractions_of:Binds K (fnOf "of" "Fractions.of" (bd aL) (aT aL) (al aL) (.ref Td_Fractions_of) kV_Fractions_of dc_Fractions_of pm_Fractions_of an_Fractions_of cd_Fractions_of ct_Fractions_of) ["self", "top", "bottom"] [.int 1 tkd_Fractions_of]:=fun s us X hl=>by
  obtain ⟨z1,z2,rfl⟩:=two_of hl
  exact BindsTo.of_defaults rfl (X _ _ ld_Fractions_of) rfl rfl rfl
 have m_Fractions_of:g6 K C_Fractions "of" f_Fractions_of:=⟨me_Fractions_of,fn_Fractions_of,k_Fractions_of⟩
 have cl_Rests:Cls K C_Rests:=⟨pg_Rests,hd_Rests,po_Rests,sa_Rests⟩
 have A_Rests:=mg_of X G aC_Rests
 have F_Rests___init__:=gL (st:=bp) l_Rests___init__ c_Rests___init__ k_Rests___init__
 have b_Rests___init__:=F_Rests___init__.binds (ps:=["self", "prime"]) fun _ _ _ _ _ _ us hl=>match us,hl with | [_,_],_=>rfl
 have m_Rests___init__:g6 K C_Rests "__init__" f_Rests___init__:=⟨me_Rests___init__,fn_Rests___init__,k_Rests___init__⟩
 have F_Rests_is_number:=gL (st:=bh) l_Rests_is_number c_Rests_is_number k_Rests_is_number
 have b_Rests_is_number:=F_Rests_is_number.binds (ps:=["self", "thing"]) fun _ _ _ _ _ _ us hl=>match us,hl with | [_,_],_=>rfl
 have m_Rests_is_number:g6 K C_Rests "is_number" f_Rests_is_number:=⟨me_Rests_is_number,fn_Rests_is_number,k_Rests_is_number⟩
 have F_Rests_of:=funD_mk (st:=bn) l_Rests_of c_Rests_of k_Rests_of
 have b_Rests_of:Binds K (fnOf "of" "Rests.of" (bd bn) (aT bn) (al bn) (.ref Td_Rests_of) kV_Rests_of dc_Rests_of pm_Rests_of an_Rests_of cd_Rests_of ct_Rests_of) ["self", "top", "bottom"] []:=fun s us X hl=>match us,hl with | [_,_,_],_=>BindsTo.of_defaults rfl (X _ _ ld_Rests_of) rfl rfl rfl
 have bd_Rests_of:Binds K (fnOf "of" "Rests.of" (bd bn) (aT bn) (al bn) (.ref Td_Rests_of) kV_Rests_of dc_Rests_of pm_Rests_of an_Rests_of cd_Rests_of ct_Rests_of) ["self", "top", "bottom"] [.int 1 tkd_Rests_of]:=fun s us X hl=>by
  obtain ⟨z1,z2,rfl⟩:=two_of hl
  exact BindsTo.of_defaults rfl (X _ _ ld_Rests_of) rfl rfl rfl
 have m_Rests_of:g6 K C_Rests "of" f_Rests_of:=⟨me_Rests_of,fn_Rests_of,k_Rests_of⟩
 have cl_Ring:Cls K C_Ring:=⟨pg_Ring,hd_Ring,po_Ring,sa_Ring⟩
 have A_Ring:=mg_of X G aC_Ring
 have F_Ring___init__:=gL (st:=bu) l_Ring___init__ c_Ring___init__ k_Ring___init__
 have b_Ring___init__:=F_Ring___init__.binds (ps:=["self", "numbers", "letters"]) fun _ _ _ _ _ _ us hl=>match us,hl with | [_,_,_],_=>rfl
 have m_Ring___init__:g6 K C_Ring "__init__" f_Ring___init__:=⟨me_Ring___init__,fn_Ring___init__,k_Ring___init__⟩
 have F_Ring_numbers:=gL (st:=bF) l_Ring_numbers c_Ring_numbers k_Ring_numbers
 have b_Ring_numbers:=F_Ring_numbers.binds (ps:=["self"]) fun _ _ _ _ _ _ us hl=>match us,hl with | [_],_=>rfl
 have m_Ring_numbers:g6 K C_Ring "numbers" f_Ring_numbers:=⟨me_Ring_numbers,fn_Ring_numbers,k_Ring_numbers⟩
 have F_Ring_letters:=gL (st:=bE) l_Ring_letters c_Ring_letters k_Ring_letters
 have b_Ring_letters:=F_Ring_letters.binds (ps:=["self"]) fun _ _ _ _ _ _ us hl=>match us,hl with | [_],_=>rfl
 have m_Ring_letters:g6 K C_Ring "letters" f_Ring_letters:=⟨me_Ring_letters,fn_Ring_letters,k_Ring_letters⟩
 have A_NoNumber:=mg_of X G aC_NoNumber
 have x_NoNumber:XCl K C_NoNumber:=⟨ek_NoNumber,ga_NoNumber,gt_NoNumber,ca_NoNumber,mo_NoNumber,mb_NoNumber,dg_NoNumber,dt_NoNumber⟩
 have A_NoRing:=mg_of X G aC_NoRing
 have x_NoRing:XCl K C_NoRing:=⟨ek_NoRing,ga_NoRing,gt_NoRing,ca_NoRing,mo_NoRing,mb_NoRing,dg_NoRing,dt_NoRing⟩
 have n_set:=mg_none_of X G zn_set
 have g_LEAST_PRIME:=mg_of X G g_LEAST_PRIME
 have g_GREATEST_PRIME:=mg_of X G g_GREATEST_PRIME
 have g_MOST_LETTERS:=mg_of X G g_MOST_LETTERS
 have G_law_cell:=M (d18.fb X G fun F=>ok_cell F T)
 have G_law_bag:=M (d19.fb X G fun F=>ok_bag F G_law_cell)
 have G_law_take:=M (d20.fb X G fun F=>ok_take F)
 have G_law_whole:=M (d23.fb X G fun F=>ok_whole F T)
 have G_law_great:=M (d21.fb X G fun F=>ok_great F G_law_take)
 have G_law_signed:=M (d22.fb X G fun F=>ok_signed F G_law_take G_law_great)
 have G_law_low:=M (d24.fb X G fun F=>ok_low F T)
 have G_law_is_prime:=M (d25.fb X G fun F=>ok_lawprime F T)
 have G_law_prime:=M (d26.fb X G fun F=>ok_prime F G_law_take G_law_is_prime)
 have G_law_truth:=M (d17.fb X G fun F=>ok_truth F T)
 have Gis_prime:=M (d2.fb X G fun F=>ok_isprime F g_LEAST_PRIME g_GREATEST_PRIME)
 have Ggreatest_divisor:=M (d3.fb X G fun F=>ok_gcd F T)
 have Ginverse:=M (d4.fb X G fun F=>ok_inverse F)
 have Gdegree:=M (d6.fb X G fun F=>ok_degree F T)
 have Gheight:=M (d7.fb X G fun F=>ok_height F Gdegree)
 have Gis_above:=M (d8.fb X G fun F=>ok_above F Gheight)
 have MRests:MkB l.prog w K mg base 2 C_Rests "Rests" (nh C_Rests):=⟨⟨_,_,_,ok_rinit F_Rests___init__ cl_Rests na_Rests_modulus Gis_prime,⟨mk_Rests,me_Rests___init__,fn_Rests___init__,kc_Rests⟩,b_Rests___init__⟩,A_Rests⟩
 have G_law_numbers:=M (d27.fb X G fun F=>ok_nums F ⟨mk_Fractions,in_Fractions,kc_Fractions⟩ A_Fractions MRests)
 have G_law_number:=M (d32.fb X G fun F=>ok_number0 F T G_law_take G_law_great G_law_signed G_law_low)
 have G_law_number_like:=M (d44.fb X G fun F=>ok_like F T G_law_whole G_law_low)
 have G_law_plus:=M (d28.fb X G fun F=>ok_lplus F G_law_low)
 have G_law_times:=M (d29.fb X G fun F=>ok_ltimes F G_law_low)
 have G_law_nought:=M (d30.fb X G fun F=>ok_nought F T)
 have G_law_unit:=M (d31.fb X G fun F=>ok_unit F T)
 have G_law_key:=M (d34.fb X G fun F=>ok_lkey F T)
 have G_law_sum:=M (d35.fb X G fun F=>ok_lsum F T G_law_plus G_law_nought G_law_key)
 have G_law_product:=M (d33.fb X G fun F=>ok_product F T G_law_take)
 have G_law_sum_times:=M (d36.fb X G fun F=>ok_ltimesS F T G_law_times G_law_sum)
 have G_law_level:=M (d37.fb X G fun F=>ok_llevel F T)
 have G_law_wide:=M (d38.fb X G fun F=>ok_wide F G_law_take G_law_low)
 have G_law_columns:=M (d41.fb X G fun F=>ok_cols F T G_law_take)
 have G_law_drawn_row:=M (d39.fb X G fun F=>ok_drawn F T G_law_take G_law_number G_law_wide G_law_product G_law_sum G_law_level G_law_unit)
 have G_law_again_row:=M (d40.fb X G fun F=>ok_again F T G_law_take G_law_number G_law_product G_law_sum_times G_law_nought G_law_unit)
 have G_law_one_part:=M (d43.fb X G fun F=>ok_onepart F T)
 have G_law_table:=M (d42.fb X G fun F=>ok_table F T G_law_bag G_law_take G_law_prime G_law_columns G_law_drawn_row G_law_again_row G_law_one_part)
 have G_law_sum_like:=M (d45.fb X G fun F=>ok_slike2 F T G_law_whole G_law_number_like G_law_sum)
 have G_law_row_like:=M (d46.fb X G fun F=>ok_rowlike F T G_law_sum_like)
 have G_law_table_like:=M (d47.fb X G fun F=>ok_tablike F T G_law_row_like G_law_level)
 have G_law_spoilt:=M (d49.fb X G fun F=>ok_spoilt F T G_law_take G_law_product G_law_unit G_law_sum_times)
 have Gis_whole_number:=M (d0.fb X G fun F=>ok_iswhole F T)
 have Gis_pair:=M (d1.fb X G fun F=>ok_pair F T)
 have Gis_product:=M (d5.fb X G fun F=>lY F T Gis_whole_number)
 have MtOf1:MtBX l.prog w K mg base 2 C_Fractions "of" [.int 1] (l3 C_NoNumber):=⟨⟨_,_,_,_,ok_fofx F_Fractions_of Ggreatest_divisor A_NoNumber x_NoNumber,m_Fractions_of,bd_Fractions_of,.cons ⟨_,rfl⟩ .nil⟩,cl_Fractions⟩
 have MtRf1:MtBX l.prog w K mg base 2 C_Rests "of" [.int 1] (mC C_Rests C_NoNumber):=⟨⟨_,_,_,_,ok_rofx F_Rests_of cl_Rests na_Rests_modulus Ginverse A_NoNumber x_NoNumber,m_Rests_of,bd_Rests_of,.cons ⟨_,rfl⟩ .nil⟩,cl_Rests⟩
 have MtF:MtB l.prog w K mg base 2 C_Fractions "is_number" (spFIs K):=⟨⟨_,_,_,ok_fis F_Fractions_is_number Gis_pair Gis_whole_number Ggreatest_divisor,m_Fractions_is_number,b_Fractions_is_number⟩,cl_Fractions⟩
 have MtR:MtB l.prog w K mg base 2 C_Rests "is_number" (spRIs K C_Rests):=⟨⟨_,_,_,ok_ris F_Rests_is_number cl_Rests na_Rests_modulus Gis_whole_number,m_Rests_is_number,b_Rests_is_number⟩,cl_Rests⟩
 have MtRn:MtB l.prog w K mg base 1 C_Ring "numbers" (spRNum C_Ring):=⟨⟨_,_,_,ok_rnum F_Ring_numbers cl_Ring na_Ring_kind,m_Ring_numbers,b_Ring_numbers⟩,cl_Ring⟩
 have MtRl:MtB l.prog w K mg base 1 C_Ring "letters" (spRLet C_Ring):=⟨⟨_,_,_,ok_rlet F_Ring_letters cl_Ring na_Ring_width,m_Ring_letters,b_Ring_letters⟩,cl_Ring⟩
 have MRing:MkBX l.prog w K mg base 2 C_Ring "Ring" (jI C_Ring C_NoRing):=⟨⟨_,_,_,ok_ginit F_Ring___init__ cl_Ring na_Ring_kind na_Ring_width g_MOST_LETTERS A_NoRing x_NoRing,⟨mk_Ring,me_Ring___init__,fn_Ring___init__,kc_Ring⟩,b_Ring___init__⟩,A_Ring⟩
 have X_law_ring:FnBX l.prog w K mg base 5 "_law_ring" (mF C_Fractions C_Rests C_Ring C_NoRing):=d48.fx X G fun F=>ok_ring F G_law_numbers MRing
 have Gis_part:=M (d10.fb X G fun F=>ok_part F Gis_pair Gis_product MtRn MtRl MtF MtR MtOf1 MtRf1)
 have Gis_sum:=M (d9.fb X G fun F=>ok_issum F T Gis_part Gis_above)
 have Gis_level:=M (d11.fb X G fun F=>ok_islevel F Gdegree)
 have Glevel:=M (d12.fb X G fun F=>ok_level F Gdegree)
 have Gentry_levels:=M (d15.fb X G fun F=>ok_elev F T Glevel)
 have Grow_level:=M (d16.fb X G fun F=>ok_rlev F T Gentry_levels)
 have Gis_row:=M (d13.fb X G fun F=>ok_isrow F T n_set Gis_sum Gis_level Gentry_levels)
 have Gis_table:=M (d14.fb X G fun F=>ok_istable F T Gis_row Grow_level)
 exact ok_law F50 T G_law_table G_law_bag G_law_take G_law_whole G_law_truth G_law_level X_law_ring G_law_spoilt G_law_row_like G_law_table_like Gis_row Gis_table Grow_level
theorem walk {l:PySem.W.OpenLaw} {q:Program} {loose:List Str} {XP:(Str->Option Value)->Heap->Prop} {YP:World->Heap->Prop} {d:DefRec} {K:Params->Frag} (hn:l.most=some 63) (hdf:d.params.defaults=[])
  (hY:∀ (w:World) (h:Heap),YP w h->(K w.params).In h)
  (F:∀ (w:World) (mg:Str->Option Value) (fa:Addr) (h:Heap),(K w.params).In h->h.Ns mainGlobals mg->mg d.name=some (.ref fa)->
   ∃ fd:FuncData,(∀ (s:Shared) (u:Value),BindsTo s fd ⟨[u],[]⟩ [("_law_script",u)])/\∀ base:Heap,(K w.params).In base->base.Ns mainGlobals mg->aI l.prog w (K w.params) mg base CX0 8 fa fd ["_law_script"] (spLaw (K w.params))) :
  PySem.W.WalkO q loose XP YP l.row.toRowW d [] (fun f vs=>PySem.call f vs):=
 L2.walk_of (n:=63) (k:=8) (x := "_law_script") (CX:=fun _=>CX0) (sp:=fun w=>spLaw (K w.params)) hn (by decide) hdf ⟨rfl,by decide,by decide⟩ hY F (fun _ _ a ns hl _ hS=>⟨a,ns,rfl,hS,hl,fun _=>rfl⟩) fun _ _ _ _ _ z=>z
end K
def PySem.W.Fast.tw13056037659390196451:Nat:=0
def PySem.W.Fast.tw11843788152119445790:Nat:=0
def PySem.W.Fast.tw2912577017629568168:Nat:=0
def PySem.W.Fast.tw15240935750429310256:Nat:=0
def PySem.W.Fast.tw15425530324400584731:Nat:=0
def PySem.W.Fast.tw9783059500385511484:Nat:=0
def PySem.W.Fast.tw16715354097955889776:Nat:=0
def PySem.W.Fast.tw5312636234668615125:Nat:=0
def PySem.W.Fast.tw194562946730845075:Nat:=0
def PySem.W.Fast.tw2302153487165134809:Nat:=0
def PySem.W.Fast.tw4778798796170408476:Nat:=0
def PySem.W.Fast.tw11742261875499423930:Nat:=0
def PySem.W.Fast.tw13617243413780183129:Nat:=0
def PySem.W.Fast.tw6248514635261057008:Nat:=0
def PySem.W.Fast.tw4005288722467209833:Nat:=0
def PySem.W.Fast.tw5351021072014728357:Nat:=0
def PySem.W.Fast.tw11398926113552304128:Nat:=0
def PySem.W.Fast.tw13111902195881663055:Nat:=0
def PySem.W.Fast.tw6877818351997851923:Nat:=0
def PySem.W.Fast.tw8360339831454914272:Nat:=0
def PySem.W.Fast.tw342162505595159655:Nat:=0
def PySem.W.Fast.tw5066784647415672066:Nat:=0
def PySem.W.Fast.tw18267101746407362535:Nat:=0
def PySem.W.Fast.tw15785526911313191100:Nat:=0
def PySem.W.Fast.tw3286030287049371568:Nat:=0
def PySem.W.Fast.tw6576252301096996256:Nat:=0
def PySem.W.Fast.tw8185316825853721827:Nat:=0
def PySem.W.Fast.tw10877353839642633268:Nat:=0
def PySem.W.Fast.tw9840833145978496744:Nat:=0
def PySem.W.Fast.tw8092797712648495239:Nat:=0
def PySem.W.Fast.tw14270950650073811887:Nat:=0
def PySem.W.Fast.tw9441254372350230019:Nat:=0
def PySem.W.Fast.tw16659426087740906800:Nat:=0
def PySem.W.Fast.tw12680419251397667722:Nat:=0
def PySem.W.Fast.tw14872747273353302797:Nat:=0
def PySem.W.Fast.tw8091620667255406450:Nat:=0
def PySem.W.Fast.tw17810536146265218603:Nat:=0
def PySem.W.Fast.tw16721679291989499580:Nat:=0
def PySem.W.Fast.tw16842218886441065888:Nat:=0
def PySem.W.Fast.tw10039014610385058401:Nat:=0
def PySem.W.Fast.tw12452323675835379025:Nat:=0
def PySem.W.Fast.tw1605655393160603751:Nat:=0
def PySem.W.Fast.tw6202627177517964450:Nat:=0
def PySem.W.Fast.tw15510124576642236417:Nat:=0
def PySem.W.Fast.tw11488125612028129211:Nat:=0
def PySem.W.Fast.tw3012827062569266497:Nat:=0
def PySem.W.Fast.tw12686894971525147274:Nat:=0
def PySem.W.Fast.tw3538521841457356940:Nat:=0
def PySem.W.Fast.tw2685131184899742139:Nat:=0
def PySem.W.Fast.tw15632355556540219848:Nat:=0
def PySem.W.Fast.tw14579320127309548114:Nat:=0
def PySem.W.Fast.tw244178673492979143:Nat:=0
def PySem.W.Fast.tw7163671737082980280:Nat:=0
def PySem.W.Fast.tw13573897182935786887:Nat:=0
def PySem.W.Fast.tw13150000038707119219:Nat:=0
def PySem.W.Fast.tw7066231225261606784:Nat:=0
def PySem.W.Fast.tw4297526994120894140:Nat:=0
def PySem.W.Fast.tw18200276432835949463:Nat:=0
def PySem.W.Fast.tw174266381312944069:Nat:=0
def PySem.W.Fast.tw18392337144194547588:Nat:=0
def PySem.W.Fast.tw10377551662331204021:Nat:=0
def PySem.W.Fast.tw13156182743786529032:Nat:=0
def PySem.W.Fast.tw16701976035440122386:Nat:=0
def PySem.W.Fast.tw11815947659767913044:Nat:=0
def PySem.W.Fast.tw7103691930137751715:Nat:=0
def PySem.W.Fast.tw9246321430482204862:Nat:=0
def PySem.W.Fast.tw3429258679318005643:Nat:=0
def PySem.W.Fast.tw10583384364792204622:Nat:=0
def PySem.W.Fast.tw15196149328875651501:Nat:=0
def PySem.W.Fast.tw5660436929799946607:Nat:=0
def PySem.W.Fast.tw10974948996685634832:Nat:=0
def PySem.W.Fast.tw531440809014919784:Nat:=0
def PySem.W.Fast.tw3181815961364250824:Nat:=0
def PySem.W.Fast.tw8258382092961524637:Nat:=0
def PySem.W.Fast.tw9394021151220100044:Nat:=0
def PySem.W.Fast.tw2488250582868141013:Nat:=0
def PySem.W.Fast.tw14410345375405523799:Nat:=0
def PySem.W.Fast.tw11813361609494622776:Nat:=0
def PySem.W.Fast.tw4606096107239304925:Nat:=0
def PySem.W.Fast.tw9625963162958986575:Nat:=0
def PySem.W.Fast.tw717708762593834725:Nat:=0
def PySem.W.Fast.tw5629637654564660436:Nat:=0
def PySem.W.Fast.tw15053504293454344352:Nat:=0
def PySem.W.Fast.tw17234535587428746434:Nat:=0
def PySem.W.Fast.tw9237350824087633127:Nat:=0
def PySem.W.Fast.tw7077530029301472991:Nat:=0
def PySem.W.Fast.tw2327113859109143910:Nat:=0
def PySem.W.Fast.tw9397205497874055053:Nat:=0
def PySem.W.Fast.tw6195740071008293630:Nat:=0
def PySem.W.Fast.tw16102640227832893893:Nat:=0
def PySem.W.Fast.tw12246723983293220800:Nat:=0
def PySem.W.Fast.tw9800283693465231357:Nat:=0
def PySem.W.Fast.tw14625548666190444194:Nat:=0
def PySem.W.Fast.tw6806172808715620779:Nat:=0
def PySem.W.Fast.tw9696186454249516745:Nat:=0
def PySem.W.Fast.tw14374273611808580028:Nat:=0
def PySem.W.Fast.tw7190871581081775797:Nat:=0
def PySem.W.Fast.tw2906569935647380979:Nat:=0
def PySem.W.Fast.tw4691555450815867399:Nat:=0
def PySem.W.Fast.tw4123238703968309168:Nat:=0
def PySem.W.Fast.tw1678459084038852549:Nat:=0
def PySem.W.Fast.tw7365807608670730701:Nat:=0
def PySem.W.Fast.tw15484637349098454389:Nat:=0
def PySem.W.Fast.tw11134294463675908520:Nat:=0
def PySem.W.Fast.tw14241791485018454500:Nat:=0
def PySem.W.Fast.tw6550652501035590497:Nat:=0
def PySem.W.Fast.tw15449918975769362272:Nat:=0
def PySem.W.Fast.tw17040785351050221086:Nat:=0
def PySem.W.Fast.tw11314084687550367780:Nat:=0
def PySem.W.Fast.tw2488265927963100843:Nat:=0
def PySem.W.Fast.tw14447282400791890868:Nat:=0
def PySem.W.Fast.tw2815595065139780313:Nat:=0
def PySem.W.Fast.tw3916308726896119593:Nat:=0
def PySem.W.Fast.tw5833396963819513347:Nat:=0
def PySem.W.Fast.tw2393236855300760003:Nat:=0
def PySem.W.Fast.tw6505723257792301934:Nat:=0
def PySem.W.Fast.tw8300747687633913268:Nat:=0
def PySem.W.Fast.tw2081823629791985508:Nat:=0
def PySem.W.Fast.tw1103563781471028518:Nat:=0
def PySem.W.Fast.tw11952711339751437716:Nat:=0
def PySem.W.Fast.tw5791958198310352388:Nat:=0
def PySem.W.Fast.tw7802051167113725862:Nat:=0
def PySem.W.Fast.tw9530536308094298916:Nat:=0
def PySem.W.Fast.tw4873537642509203950:Nat:=0
def PySem.W.Fast.tw8694106644093818216:Nat:=0
def PySem.W.Fast.tw15061100827170901671:Nat:=0
def PySem.W.Fast.tw2007863314616358974:Nat:=0
def PySem.W.Fast.tw9921003892650101644:Nat:=0
def PySem.W.Fast.tw12422380089245937117:Nat:=0
def PySem.W.Fast.tw1251369238891156643:Nat:=0
def PySem.W.Fast.tw37240260741841390:Nat:=0
def PySem.W.Fast.tw11010001755691908645:Nat:=0
def PySem.W.Fast.tw3831188965755585331:Nat:=0
def PySem.W.Fast.tw958710913364072013:Nat:=0
def PySem.W.Fast.tw3533001397164374624:Nat:=0
def PySem.W.Fast.tw648018121717192849:Nat:=0
def PySem.W.Fast.tw6891676777442041648:Nat:=0
def PySem.W.Fast.tw15679948473361196569:Nat:=0
def PySem.W.Fast.tw17838775603800555494:Nat:=0
def PySem.W.Fast.tw9936103704366339019:Nat:=0
def PySem.W.Fast.tw7363443195988424310:Nat:=0
def PySem.W.Fast.tw7421818815697577564:Nat:=0
def PySem.W.Fast.tw921660593690947326:Nat:=0
def PySem.W.Fast.tw4542504699313880093:Nat:=0
def PySem.W.Fast.tw7141584831768878578:Nat:=0
def PySem.W.Fast.tw8158166752284611623:Nat:=0
def PySem.W.Fast.tw14719627484777168428:Nat:=0
def PySem.W.Fast.tw8450595397248782065:Nat:=0
def PySem.W.Fast.tw15059918497785153724:Nat:=0
def PySem.W.Fast.tw1118784042017609595:Nat:=0
def PySem.W.Fast.tw17546442482354784985:Nat:=0
def PySem.W.Fast.tw10211011133207142895:Nat:=0
def PySem.W.Fast.tw8490614294951482807:Nat:=0
def PySem.W.Fast.tw935659743282988425:Nat:=0
def PySem.W.Fast.tw4110520111667123058:Nat:=0
def PySem.W.Fast.tw8188951711936213920:Nat:=0
def PySem.W.Fast.tw17460097721289181428:Nat:=0
def PySem.W.Fast.tw7567730837376003991:Nat:=0
def PySem.W.Fast.tw1464002903029050275:Nat:=0
def PySem.W.Fast.tw3895573585733508456:Nat:=0
def PySem.W.Fast.tw11300758602778377413:Nat:=0
def PySem.W.Fast.tw11951992833012658103:Nat:=0
def PySem.W.Fast.tw9483757188870208278:Nat:=0
def PySem.W.Fast.tw14393721488532517570:Nat:=0
def PySem.W.Fast.tw12844048912946674222:Nat:=0
def PySem.W.Fast.tw15638354843034474348:Nat:=0
def PySem.W.Fast.tw18378126896830067585:Nat:=0
def PySem.W.Fast.tw17127782207561616907:Nat:=0
def PySem.W.Fast.tw1923710137734909469:Nat:=0
def PySem.W.Fast.tw5409959598722247504:Nat:=0
def PySem.W.Fast.tw3498668831660278565:Nat:=0
def PySem.W.Fast.tw17835903896795728340:Nat:=0
def PySem.W.Fast.tw2707136504750269894:Nat:=0
def PySem.W.Fast.tw16269705740519494202:Nat:=0
def PySem.W.Fast.tw10122625158971115466:Nat:=0
def PySem.W.Fast.tw11833158925963790528:Nat:=0
def PySem.W.Fast.tw11332374758109464285:Nat:=0
def PySem.W.Fast.tw17241357311053285675:Nat:=0
def PySem.W.Fast.tw8293500905042925062:Nat:=0
def PySem.W.Fast.tw18910878988768804:Nat:=0
def PySem.W.Fast.tw3109945642280170416:Nat:=0
def PySem.W.Fast.tw12422436992596973029:Nat:=0
def PySem.W.Fast.tw6698398296041912004:Nat:=0
def PySem.W.Fast.tw5024230645673572188:Nat:=0
def PySem.W.Fast.tw15569429687320039653:Nat:=0
open PySem PySem.W PyProof.Rows
set_option maxRecDepth 100000 in
set_option maxHeartbeats 0 in
theorem PySem.Challenge.cw_relationladder_k15_rows_known_holds : PySem.Challenge.rw_relationladder_k15_rows_known.Holds := by
 w_on; o_law; k_head; (case hw=>w_witness2)
 k_fill
 refine K.walk (l:=PySem.Challenge.rw_relationladder_k15_rows_known) rfl rfl (fun w h Y=>PySem.W.kIn_of Y) ?F
 case F=>
  intro w mg fa h KX G hmg
  refine' K.all_mk KX G hmg ?d0 ?d1 ?d2 ?d3 ?d4 ?d5 ?d6 ?d7 ?d8 ?d9 ?d10 ?d11 ?d12 ?d13 ?d14 ?d15 ?d16 ?d17 ?d18 ?d19 ?d20 ?d21 ?d22 ?d23 ?d24 ?d25 ?d26 ?d27 ?d28 ?d29 ?d30 ?d31 ?d32 ?d33 ?d34 ?d35 ?d36 ?d37 ?d38 ?d39 ?d40 ?d41 ?d42 ?d43 ?d44 ?d45 ?d46 ?d47 ?d48 ?d49 ?d50 ?aC_Fractions ?pg_Fractions ?hd_Fractions ?po_Fractions ?sa_Fractions ?mk_Fractions ?kc_Fractions ?in_Fractions ?me_Fractions_is_number ?fn_Fractions_is_number ?l_Fractions_is_number ?c_Fractions_is_number ?k_Fractions_is_number ?me_Fractions_of ?fn_Fractions_of ?l_Fractions_of ?c_Fractions_of ?k_Fractions_of ?ld_Fractions_of ?aC_Rests ?pg_Rests ?hd_Rests ?po_Rests ?sa_Rests ?mk_Rests ?kc_Rests ?na_Rests_modulus ?me_Rests___init__ ?fn_Rests___init__ ?l_Rests___init__ ?c_Rests___init__ ?k_Rests___init__ ?me_Rests_is_number ?fn_Rests_is_number ?l_Rests_is_number ?c_Rests_is_number ?k_Rests_is_number ?me_Rests_of ?fn_Rests_of ?l_Rests_of ?c_Rests_of ?k_Rests_of ?ld_Rests_of ?aC_Ring ?pg_Ring ?hd_Ring ?po_Ring ?sa_Ring ?mk_Ring ?kc_Ring ?na_Ring_kind ?na_Ring_width ?me_Ring___init__ ?fn_Ring___init__ ?l_Ring___init__ ?c_Ring___init__ ?k_Ring___init__ ?me_Ring_numbers ?fn_Ring_numbers ?l_Ring_numbers ?c_Ring_numbers ?k_Ring_numbers ?me_Ring_letters ?fn_Ring_letters ?l_Ring_letters ?c_Ring_letters ?k_Ring_letters ?aC_NoNumber ?ek_NoNumber ?ga_NoNumber ?gt_NoNumber ?ca_NoNumber ?mo_NoNumber ?mb_NoNumber ?dg_NoNumber ?dt_NoNumber ?aC_NoRing ?ek_NoRing ?ga_NoRing ?gt_NoRing ?ca_NoRing ?mo_NoRing ?mb_NoRing ?dg_NoRing ?dt_NoRing ?zn_set ?g_LEAST_PRIME ?g_GREATEST_PRIME ?g_MOST_LETTERS ?z0 ?z1 ?z2 ?z3 ?z4 ?z5 ?z6 ?z7 ?z8 ?z9 ?z10 ?z11 ?z12 ?z13 ?z14 ?z15 ?z16
  (case d0|d1|d2|d3|d4|d5|d6|d7|d8|d9|d10|d11|d12|d13|d14|d15|d16|d17|d18|d19=>refine' .mk ?a ?l ?c ?k; (case a=>k_is); (case l=>k_is); (case c=>k_is); (case k=>k_is))
  (case d20|d21|d22|d23|d24|d25|d26|d27|d28|d29|d30|d31|d32|d33|d34|d35|d36|d37|d38|d39=>refine' .mk ?a ?l ?c ?k; (case a=>k_is); (case l=>k_is); (case c=>k_is); (case k=>k_is))
  (case d40|d41|d42|d43|d44|d45|d46|d47|d48|d49|d50=>refine' .mk ?a ?l ?c ?k; (case a=>k_is); (case l=>k_is); (case c=>k_is); (case k=>k_is))
  (case aC_Fractions|pg_Fractions|hd_Fractions|po_Fractions|sa_Fractions|mk_Fractions|kc_Fractions|in_Fractions|me_Fractions_is_number|fn_Fractions_is_number|l_Fractions_is_number|c_Fractions_is_number|k_Fractions_is_number|me_Fractions_of|fn_Fractions_of|l_Fractions_of|c_Fractions_of|k_Fractions_of|ld_Fractions_of|aC_Rests=>k_is)
  (case pg_Rests|hd_Rests|po_Rests|sa_Rests|mk_Rests|kc_Rests|na_Rests_modulus|me_Rests___init__|fn_Rests___init__|l_Rests___init__|c_Rests___init__|k_Rests___init__|me_Rests_is_number|fn_Rests_is_number|l_Rests_is_number|c_Rests_is_number|k_Rests_is_number|me_Rests_of|fn_Rests_of|l_Rests_of=>k_is)
  (case c_Rests_of|k_Rests_of|ld_Rests_of|aC_Ring|pg_Ring|hd_Ring|po_Ring|sa_Ring|mk_Ring|kc_Ring|na_Ring_kind|na_Ring_width|me_Ring___init__|fn_Ring___init__|l_Ring___init__|c_Ring___init__|k_Ring___init__|me_Ring_numbers|fn_Ring_numbers|l_Ring_numbers=>k_is)
  (case c_Ring_numbers|k_Ring_numbers|me_Ring_letters|fn_Ring_letters|l_Ring_letters|c_Ring_letters|k_Ring_letters|aC_NoNumber=>k_is)
  (case ek_NoNumber=>first | k_is | k_exc | kit_is | kts_exm)
  (case ga_NoNumber|gt_NoNumber|ca_NoNumber|mo_NoNumber|mb_NoNumber|dg_NoNumber|dt_NoNumber|aC_NoRing=>k_is)
  (case ek_NoRing=>first | k_is | k_exc | kit_is | kts_exm)
  (case ga_NoRing|gt_NoRing|ca_NoRing|mo_NoRing|mb_NoRing|dg_NoRing|dt_NoRing|zn_set|g_LEAST_PRIME|g_GREATEST_PRIME|g_MOST_LETTERS|z0|z1|z2|z3|z4|z5|z6|z7|z8=>k_is)
  (case z9|z10|z11|z12|z13|z14|z15|z16=>k_is)
