import PyProof.Rows.All
import Wide.All
import OpenK.AllK
import Wide.FinOn
import Lean
import PyProof.EqAt
import PyProof.EqKinds
import PyProof.TupleCall
import KE.KMinKey
import PySem.Challenge.RW_relationladder_k41_rank
set_option Elab.async false
set_option linter.all false
set_option maxRecDepth 100000
open PySem.W (instObj Frag lookIn plainGet hasDictIn findIn isFn plainOver makesIn emptyDict keepIn kitOne kia_one fnOf codeIn nsIn mg_of mg_none_of)
open List (filterMap_cons mem_cons_self mem_cons_of_mem mem_append_right length_cons map_cons length_map append_nil of_mem_zip length_take getElem?_append_left getElem?_map mem_of_getElem? length_append size_toArray length_singleton forIn_cons lookup_cons all_eq_true forIn_nil mem_cons not_mem_nil getD_eq_getElem?_getD getElem?_eq_getElem mem_range getElem_mem length_zipWith reverse_cons length_reverse map_map range_succ map_append filter_append mem_filter take_add_one length_range getElem_range map_congr_left getElem?_eq_none getElem_map take_append_of_le_length take_length getElem?_concat_length)
open PySem.Heap (lt_size get?_push_of_some get?_push_size size_push)
namespace L2
open PySem PySem.Spec PyProof.Rows
abbrev Key:=Sum Int Str
def keyIs:Key->Value->Bool
 | .inl k,v=>Value.isInt k v
 | .inr x,v=>Value.isStrOf x v
def keyH (w:World):Key->Int
 | .inl k=>hashInt k
 | .inr x=>hashStr w x
theorem aQ:∀ {k:Key} {v:Value},keyIs k v=true->(∃ i t,k=Sum.inl i/\v=Value.int i t)\/(∃ x t,k=Sum.inr x/\v=Value.str x t)
 | .inl i,v,h=>by
  obtain ⟨t,e⟩:=Value.isInt_shape (k:=i) (v:=v) h
  exact .inl ⟨i,t,rfl,e⟩
 | .inr x,v,h=>by
  obtain ⟨t,e⟩:=Value.isStrOf_shape (x:=x) (v:=v) h
  exact .inr ⟨x,t,rfl,e⟩
theorem key_ll (a b:Int):decide ((Sum.inl a:Key)=Sum.inl b)=(a == b):=by
 by_cases e:a=b
 ·subst e; simp
 ·have h:¬ (Sum.inl a:Key)=Sum.inl b:=λq=>e (Sum.inl.inj q)
  rw [decide_eq_false h]
  exact (beq_eq_false_iff_ne.mpr e).symm
theorem key_rr (a b:Str):decide ((Sum.inr a:Key)=Sum.inr b)=decide (a=b):=by
 by_cases e:a=b
 ·subst e; simp
 ·have h:¬ (Sum.inr a:Key)=Sum.inr b:=λq=>e (Sum.inr.inj q)
  rw [decide_eq_false h,decide_eq_false e]
theorem key_lr (a:Int) (b:Str):decide ((Sum.inl a:Key)=Sum.inr b)=false:=decide_eq_false (λq=>nomatch q)
theorem key_rl (a:Str) (b:Int):decide ((Sum.inr a:Key)=Sum.inl b)=false:=decide_eq_false (λq=>nomatch q)
def mixKind (prog:Program) (w:World):PySem.KeyKind prog w Key where
 is:=keyIs
 hash:=keyH w
 inj:=λv a b ha hb=>by
  rcases aQ ha with ⟨i,t,rfl,rfl⟩ | ⟨x,t,rfl,rfl⟩
  ·rcases aQ hb with ⟨j,u,rfl,e⟩ | ⟨y,u,rfl,e⟩
   ·injection e with e1 _; rw [e1]
   ·exact nomatch e
  ·rcases aQ hb with ⟨j,u,rfl,e⟩ | ⟨y,u,rfl,e⟩
   ·exact nomatch e
   ·injection e with e1 _; rw [e1]
 byValue:=λk v h=>by
  rcases aQ h with ⟨i,t,rfl,rfl⟩ | ⟨x,t,rfl,rfl⟩<;>rfl
 pyHash:=λhv h=>by
  rcases aQ hv with ⟨i,t,rfl,rfl⟩ | ⟨x,t,rfl,rfl⟩
  ·exact wpAny_pyHash_int h
  ·exact wpAny_pyHash_str h
 eqBool:=λhu hv h=>by
  rcases aQ hu with ⟨i,t,rfl,rfl⟩ | ⟨x,t,rfl,rfl⟩
  ·rcases aQ hv with ⟨j,u,rfl,rfl⟩ | ⟨y,u,rfl,rfl⟩
   ·rw [key_ll] at h; exact wpAny_eqBool_int h
   ·rw [key_lr] at h; exact SeqAt.EqAt.int_str i t y u _ _ _ _ h
  ·rcases aQ hv with ⟨j,u,rfl,rfl⟩ | ⟨y,u,rfl,rfl⟩
   ·rw [key_rl] at h; exact SeqAt.EqAt.str_int x t j u _ _ _ _ h
   ·rw [key_rr] at h; exact wpAny_eqBool_str h
 «strs»:=λk x t v h=>by
  rcases aQ h with ⟨i,u,rfl,e⟩ | ⟨y,u,rfl,e⟩
  ·exact nomatch e
  ·injection e with e1 _
   subst e1
   cases v<;>rfl
inductive V where
 | non | bl (b:Bool) | int (i:Int) | str (x:Str) | byt (b:Array UInt8) | flt (b:UInt64) | ref (a:Addr) | ty (n:String)
 deriving DecidableEq
def g7:V->Value->Prop
 | .non,u=>u=Value.none
 | .bl b,u=>u=Value.bool b
 | .int i,u=>∃ t,u=Value.int i t
 | .str x,u=>∃ t,u=Value.str x t
 | .byt b,u=>∃ t,u=Value.bytes b t
 | .flt b,u=>∃ t,u=Value.float b t
 | .ref a,u=>u=Value.ref a
 | .ty n,u=>u=Value.type n
abbrev g6:List V->List Value->Prop:=Paired g7
theorem g6.length {xs:List V} {us:List Value} (r:g6 xs us):xs.length=us.length:=Paired.length r
theorem g6.get:∀ {xs:List V} {us:List Value} {i:Nat} {x:V},g6 xs us->xs[i]? = some x->∃ u,us[i]? = some u/\g7 x u
 | _,_,_,_,.nil,e=>by simp at e
 | _,_,0,_,.cons r _,e=>by simp at e; subst e; exact ⟨_,rfl,r⟩
 | _,_,i+1,x,.cons _ t,e=>by
  obtain ⟨u,h1,h2⟩:=g6.get (i:=i) (x:=x) t (by simpa using e)
  exact ⟨u,by simpa using h1,h2⟩
theorem g6.set {x:V} {u:Value} (r:g7 x u):∀ {xs:List V} {us:List Value} (i:Nat),g6 xs us->g6 (xs.set i x) (us.set i u)
 | _,_,_,.nil=>.nil
 | _,_,0,.cons _ t=>.cons r t
 | _,_,i+1,.cons q t=>.cons q (g6.set r i t)
theorem g6.append:∀ {xs ys:List V} {us ws:List Value},g6 xs us->g6 ys ws->g6 (xs++ys) (us++ws)
 | _,_,_,_,.nil,s=>s
 | _,_,_,_,.cons r t,s=>.cons r (g6.append t s)
theorem g6.take:∀ {xs:List V} {us:List Value} (n:Nat),g6 xs us->g6 (xs.take n) (us.take n)
 | _,_,0,_=>.nil
 | _,_,_+1,.nil=>.nil
 | _,_,n+1,.cons r t=>.cons r (g6.take n t)
theorem g6.drop:∀ {xs:List V} {us:List Value} (n:Nat),g6 xs us->g6 (xs.drop n) (us.drop n)
 | _,_,0,r=>r
 | _,_,_+1,.nil=>.nil
 | _,_,n+1,.cons _ t=>g6.drop n t
def RelO:Option V->Option Value->Prop
 | some v,some u=>g7 v u
 | none,none=>True
 | _,_=>False
def KV {κ:Type}:List (κ × V)->List (κ × Value)->Prop:=Paired λ(p:κ × V) (q:κ × Value)=>p.1=q.1/\g7 p.2 q.2
def kV:Key->V
 | .inl i=>.int i
 | .inr x=>.str x
inductive HO where
 | lst (xs:List V)
 | tup (xs:List V)
 | dK (kvs:List (Key × V)) | dT (kvs:List (List Key × V))
 | set (S:Int->Bool) (n:Nat)
 | ins (C dx:Addr) (fs:List (Str × V))
 | own (x:Addr)
 | xd (fs:List (Str × V))
 | met (f x:Addr)
 | rng (lo hi:Int)
 | frz (o:Obj) (u:HO)
 | tbl (ps:Array Value)
 | ext (φ:Heap->Prop)
abbrev Hp:=Addr->Option HO
def upd (H:Hp) (a:Addr) (o:HO):Hp:=λb=>if b=a then some o else H b
theorem af {H:Hp} {a:Addr} {o:HO}:upd H a o a=some o:=by unfold upd; rw [if_pos rfl]
theorem ar {H:Hp} {a b:Addr} {o:HO} (h:b ≠ a):upd H a o b=H b:=by unfold upd; rw [if_neg h]
theorem bz {H:Hp} {a:Addr} {o u:HO}:upd (upd H a o) a u=upd H a u:=by
 funext b; unfold upd; split<;>rfl
theorem eI {H:Hp} {a b:Addr} {o u:HO} (h:H a=some o) (h':H b=some u) (d:o ≠ u):a ≠ b:=by
 intro e; subst e; rw [h] at h'; exact d (Option.some.inj h')
theorem al {H:Hp} {a b:Addr} {o:HO} (h:H a=some o) (h':H b=none):a ≠ b:=by
 intro e; subst e; rw [h] at h'; cases h'
section
variable (P:Program) (w:World)
def ig (H:Hp) (h:Heap) (a:Addr):HO->Prop
 | .lst xs=>xs.length<=sizeLine/\∃ (its:List Value) (n:Nat),g6 xs its/\h.get? a=some { cls:=.type "list",data:=.seq its.toArray n }
 | .tup xs=>xs.length<=sizeLine/\∃ its:List Value,g6 xs its/\IsTup h a its.toArray
 | .dK kvs=>kvs.length<=sizeLine/\(a == sysModules)=false/\∃ vs,KV kvs vs/\h.DictOf (mixKind P w) a vs
 | .dT kvs=>kvs.length<=sizeLine/\(a == sysModules)=false/\∃ xs:List (List Key × Addr × Value),
   Paired (λ(p:List Key × V) (q:List Key × Addr × Value)=>p.1=q.1/\H q.2.1=some (.tup (p.1.map kV))/\g7 p.2 q.2.2) kvs xs/\
   ∃ o es ep,h.get? a=some o/\o.ExactDict/\o.data=.dict es ep/\es.toList=xs.map (entryOfKey (tupleKind (mixKind P w)))/\(xs.map (·.1)).Nodup
 | .set S n=>h.SetOf (intKind P w) a S n
 | .ins C dx fs=>H dx=some (.own a)/\fs.length<=1000/\dx ≠ a/\h.get? a=some (instObj C dx)/\
   ∃ mA,h.Ns1 dx mA/\(∀ f,RelO (fs.lookup f) (mA f))/\PySem.Within mA (fs.map (·.1))
 | .own _=>∃ o,h.get? a=some o
 | .xd fs=>∃ mA,h.Ns1 a mA/\∀ f,RelO (fs.lookup f) (mA f)
 | .rng lo hi=>∃ t u v,h.get? a=some { cls:=.type "range",data:=.fields #[.int lo t,.int hi u,.int 1 v] }
 | .frz o u=>h.get? a=some o/\ig H h a u
 | .tbl ps=>h.get? a=some { cls:=.none,data:=.fields ps }
 | .met f x=>h.get? a=some (PySem.W.methodObj (.ref f) (.ref x))
 | .ext φ=>φ h/\(∃ o,h.get? a=some o)/\∀ h1 h2:Heap,φ h1->(∀ o,h1.get? a=some o->h2.get? a=some o)->φ h2
def HOk (H:Hp) (h:Heap):Prop:=∀ a o,H a=some o->ig P w H h a o
end
section
variable {P:Program} {w:World} {H H':Hp} {h h':Heap} {a:Addr} {o:HO}
theorem ig.lt (x:ig P w H h a o):a<h.objs.size:=by
 cases o with
 | lst xs=>obtain ⟨_,_,_,_,e⟩:=x; exact lt_size e
 | tup xs=>obtain ⟨_,_,_,p⟩:=x; exact p.lt
 | dK kvs=>obtain ⟨_,_,_,_,o,_,_,e,_⟩:=x; exact lt_size e
 | dT kvs=>obtain ⟨_,_,_,_,o,_,_,e,_⟩:=x; exact lt_size e
 | set S n=>obtain ⟨o,_,_,_,e,_⟩:=x; exact lt_size e
 | ins C dx fs=>obtain ⟨_,_,_,e,_⟩:=x; exact lt_size e
 | own y=>obtain ⟨_,e⟩:=x; exact lt_size e
 | xd fs=>obtain ⟨_,⟨_,_,_,e,_⟩,_⟩:=x; exact lt_size e
 | rng lo hi=>obtain ⟨_,_,_,e⟩:=x; exact lt_size e
 | frz ob u=>obtain ⟨e,_⟩:=x; exact lt_size e
 | tbl ps=>exact lt_size (show h.get? a=some _ from x)
 | met f y=>exact lt_size (show h.get? a=some _ from x)
 | ext φ=>obtain ⟨_,⟨_,e⟩,_⟩:=x; exact lt_size e
theorem Paired.mapP {α β:Type} {F G:α->β->Prop}:∀ {l₁:List α} {l₂:List β},Paired F l₁ l₂->(∀ a b,F a b->G a b)->Paired G l₁ l₂
 | _,_,.nil,_=>.nil
 | _,_,.cons r t,f=>.cons (f _ _ r) (Paired.mapP t f)
theorem ig.stay (x:ig P w H h a o) (k:∀ b u,(b=a\/H b=some (.own a))->h.get? b=some u->h'.get? b=some u)
  (ho:∀ b,H b=some (.own a)->H' b=some (.own a)) (ht:∀ b xs,H b=some (.tup xs)->H' b=some (.tup xs)):ig P w H' h' a o:=by
 induction o with
 | lst xs=>obtain ⟨z,its,n,r,e⟩:=x; exact ⟨z,its,n,r,k _ _ (.inl rfl) e⟩
 | tup xs=>obtain ⟨z,its,r,ob,e,c⟩:=x; exact ⟨z,its,r,ob,k _ _ (.inl rfl) e,c⟩
 | dK kvs=>obtain ⟨z,y,vs,r,ob,es,ep,e,c⟩:=x; exact ⟨z,y,vs,r,ob,es,ep,k _ _ (.inl rfl) e,c⟩
 | dT kvs=>
  obtain ⟨z,y,xs,r,ob,es,ep,e,c⟩:=x
  exact ⟨z,y,xs,Paired.mapP r λp q z=>⟨z.1,ht _ _ z.2.1,z.2.2⟩,ob,es,ep,k _ _ (.inl rfl) e,c⟩
 | set S n=>obtain ⟨ob,es,ep,t,e,c⟩:=x; exact ⟨ob,es,ep,t,k _ _ (.inl rfl) e,c⟩
 | ins C dx fs=>
  obtain ⟨d,z,ne,e,mA,⟨od,es,ep,e2,c⟩,r⟩:=x
  exact ⟨ho _ d,z,ne,k _ _ (.inl rfl) e,mA,⟨od,es,ep,k _ _ (.inr d) e2,c⟩,r⟩
 | own y=>obtain ⟨ob,e⟩:=x; exact ⟨ob,k _ _ (.inl rfl) e⟩
 | xd fs=>obtain ⟨mA,⟨od,es,ep,e,c⟩,r⟩:=x; exact ⟨mA,⟨od,es,ep,k _ _ (.inl rfl) e,c⟩,r⟩
 | rng lo hi=>obtain ⟨t,u,v,e⟩:=x; exact ⟨t,u,v,k _ _ (.inl rfl) e⟩
 | frz ob u ih=>obtain ⟨e,q⟩:=x; exact ⟨k _ _ (.inl rfl) e,ih q⟩
 | tbl ps=>
  have e:h.get? a=some { cls:=.none,data:=.fields ps }:=x
  show h'.get? a=some { cls:=.none,data:=.fields ps }
  exact k a _ (.inl rfl) e
 | met f y=>
  have e:h.get? a=some (PySem.W.methodObj (.ref f) (.ref y)):=x
  show h'.get? a=some (PySem.W.methodObj (.ref f) (.ref y))
  exact k a _ (.inl rfl) e
 | ext φ=>obtain ⟨p,⟨o,e⟩,st⟩:=x; exact ⟨st _ _ p λo q=>k _ _ (.inl rfl) q,⟨o,k _ _ (.inl rfl) e⟩,st⟩
theorem HOk.lt (x:HOk P w H h) (e:H a=some o):a<h.objs.size:=(x a o e).lt
theorem HOk.fresh (x:HOk P w H h) (e:h.objs.size<=a):H a=none:=by
 cases q:H a with
 | none=>rfl
 | some u=>exact absurd (Nat.lt_of_lt_of_le (x.lt q) e) (Nat.lt_irrefl _)
theorem HOk.kept (x:HOk P w H h) (k:∀ b u,h.get? b=some u->h'.get? b=some u):HOk P w H h':=λa o e=>
 (x a o e).stay (λb u _ q=>k b u q) (λ_ q=>q) λ_ _ q=>q
theorem HOk.laid (x:HOk P w H h) (k:∀ b u,h.get? b=some u->h'.get? b=some u) (hp:h.objs.size<=a) (new:ig P w (upd H a o) h' a o):HOk P w (upd H a o) h':=λb u e=>by
 have hn:=x.fresh hp
 by_cases hb:b=a
 ·subst hb; rw [af] at e; cases e; exact new
 ·rw [ar hb] at e
  exact (x b u e).stay (λc v _ q=>k c v q) (λc q=>by rw [ar (al q hn)]; exact q) λc xs q=>by rw [ar (al q hn)]; exact q
end
def Rd (H:Hp) (a:Addr) (u:HO):Prop:=H a=some u\/∃ o,H a=some (.frz o u)
theorem Rd.ok {P:Program} {w:World} {H:Hp} {h:Heap} {a:Addr} {u:HO} (r:Rd H a u) (x:HOk P w H h):ig P w H h a u:=by
 rcases r with r | ⟨o,r⟩
 ·exact x a u r
 ·obtain ⟨_,q⟩:=x a _ r
  exact q
def Mut:Option HO->Prop
 | some (.lst _)=>True
 | some (.dK _)=>True
 | some (.dT _)=>True
 | some (.set _ _)=>True
 | some (.ins _ _ _)=>True
 | some (.ext _)=>True
 | _=>False
section
variable {P:Program} {w:World} {H:Hp} {h h':Heap} {x e:Addr} {o':HO}
theorem HOk.write (ok:HOk P w H h) (mu:Mut (H x)) (he:e=x\/H e=some (.own x)) (k:∀ b u,b ≠ e->h.get? b=some u->h'.get? b=some u) (heo:∃ u,h'.get? e=some u)
  (new:ig P w (upd H x o') h' x o'):HOk P w (upd H x o') h':=λb u q=>by
 have nown:∀ c y,H c=some (.own y)->c ≠ x:=λc y r z=>by subst z; rw [r] at mu; exact mu
 have ntup:∀ c xs,H c=some (.tup xs)->c ≠ x:=λc xs r z=>by subst z; rw [r] at mu; exact mu
 by_cases hb:b=x
 ·subst hb; rw [af] at q; cases q; exact new
 ·rw [ar hb] at q
  by_cases hbe:b=e
  ·have q':H b=some (.own x):=by
    rcases he with z | z
    ·exact absurd (hbe.trans z) hb
    ·rw [hbe]; exact z
   rw [q] at q'; cases q'
   obtain ⟨v,hv⟩:=heo
   exact ⟨v,by rw [hbe]; exact hv⟩
  ·refine (ok b u q).stay (λc v hc r=>k c v ?_ r) (λc r=>by rw [ar (nown c b r)]; exact r) λc xs r=>by rw [ar (ntup c xs r)]; exact r
   rcases hc with rfl | hc
   ·exact hbe
   ·rintro rfl
    rcases he with z | z
    ·exact nown c b hc z
    ·rw [hc] at z; cases z; exact hb rfl
end
structure Un (fs ex:List Addr) (H H':Hp) (h h':Heap):Prop where
 keep:∀ b o,h.get? b=some o->H b=none->b ∉ fs->b ∉ ex->h'.get? b=some o
 slot:∀ b o,h.get? b=some o->H b=none->b ∈ fs->b ∉ ex->∃ sl,h'.get? b=some { o with slots:=sl }
 free:∀ b o,h.get? b=some o->H b=none->b ∉ ex->H' b=none
 there:∀ b o,h.get? b=some o->b ∉ ex->∃ o',h'.get? b=some o'
 tups:∀ b xs,H b=some (.tup xs)->H' b=some (.tup xs)
 frzs:∀ b o u,H b=some (.frz o u)->H' b=some (.frz o u)
 tbls:∀ b ps,H b=some (.tbl ps)->∃ more,H' b=some (.tbl (ps++more))
section
variable {fs fs' ex ex':List Addr} {H H1 H2:Hp} {h h1 h2 h':Heap} {a x e:Addr} {o:HO}
theorem Un.any (u:Un fs ex H H1 h h1) {b:Addr} {ob:Obj} (q:h.get? b=some ob) (n:H b=none) (hx:b ∉ ex):∃ sl,h1.get? b=some { ob with slots:=sl }:=by
 by_cases hb:b ∈ fs
 ·exact u.slot b ob q n hb hx
 ·exact ⟨ob.slots,u.keep b ob q n hb hx⟩
theorem Un.kept (k:∀ b u,h.get? b=some u->h'.get? b=some u):Un fs ex H H h h':=
 ⟨λb ob q _ _ _=>k b ob q,λb ob q _ _ _=>⟨ob.slots,k b ob q⟩,λ_ _ _ n _=>n,λb ob q _=>⟨ob,k b ob q⟩,λ_ _ q=>q,λ_ _ _ q=>q,λ_ ps q=>⟨#[],by rw [q]; simp⟩⟩
theorem Un.refl:Un fs ex H H h h:=Un.kept λ_ _ q=>q
theorem Un.laid (k:∀ b u,h.get? b=some u->h'.get? b=some u) (hp:h.objs.size<=a) (hn:H a=none):Un fs ex H (upd H a o) h h' where
 keep:=λb u q _ _ _=>k b u q
 slot:=λb u q _ _ _=>⟨u.slots,k b u q⟩
 free:=λb u q n _=>by rw [ar (Nat.ne_of_lt (Nat.lt_of_lt_of_le (lt_size q) hp))]; exact n
 there:=λb u q _=>⟨u,k b u q⟩
 tups:=λb xs q=>by rw [ar (al q hn)]; exact q
 frzs:=λb u xs q=>by rw [ar (al q hn)]; exact q
 tbls:=λb ps q=>⟨#[],by rw [ar (al q hn),q]; simp⟩
theorem Un.write (mu:Mut (H x)) (he:e=x\/H e=some (.own x)) (k:∀ b u,b ≠ e->h.get? b=some u->h'.get? b=some u) (heo:∃ u,h'.get? e=some u):Un fs ex H (upd H x o) h h':=by
 have hx:∀ b,H b=none->b ≠ x:=λb n z=>by subst z; rw [n] at mu; exact mu
 have hb:∀ b,H b=none->b ≠ e:=λb n z=>by
  subst z
  rcases he with r | r
  ·exact hx b n r
  ·rw [n] at r; cases r
 have hm:∀ b u,H b=some u->¬ Mut (some u)->b ≠ x:=λb u q nm z=>by subst z; rw [q] at mu; exact nm mu
 refine ⟨λb u q n _ _=>k b u (hb b n) q,λb u q n _ _=>⟨u.slots,k b u (hb b n) q⟩,λb u q n _=>by rw [ar (hx b n)]; exact n,λb u q _=>?_,
  λb xs q=>by rw [ar (hm b _ q λz=>z)]; exact q,λb u xs q=>by rw [ar (hm b _ q λz=>z)]; exact q,λb ps q=>⟨#[],by rw [ar (hm b _ q λz=>z),q]; simp⟩⟩
 by_cases hbe:b=e
 ·subst hbe; exact heo
 ·exact ⟨u,k b u hbe q⟩
end
def trk (h:Heap) (H:Hp):List Addr:=(List.range h.objs.size).filter λa=>(H a).isSome
def gE (h:Heap) (H:Hp):Heap:=PySem.W.hideAll h (trk h H)
theorem hidT_size (h:Heap) (H:Hp):(gE h H).objs.size=h.objs.size:=PySem.W.hideAll_size _ _
theorem hidT_get {h:Heap} {H:Hp} {b:Addr} {o:Obj} (e:h.get? b=some o) (n:H b=none):(gE h H).get? b=some o:=
 PySem.W.hideAll_get _ e λhm=>by
  have q:(H b).isSome=true:=(List.mem_filter.mp hm).2
  rw [n] at q; simp at q
theorem of_hidT {h:Heap} {H:Hp} {b:Addr} {o:Obj} (e:(gE h H).get? b=some o):h.get? b=some o/\H b=none:=by
 have e':h.get? b=some o:=PySem.W.of_hideAll (trk h H) e
 refine ⟨e',?_⟩
 cases q:H b with
 | none=>rfl
 | some x=>
  have hm:b ∈ trk h H:=List.mem_filter.mpr ⟨List.mem_range.mpr (lt_size e'),by simp [q]⟩
  have z:(gE h H).get? b=none:=PySem.W.hideAll_none (trk h H) hm
  rw [z] at e; cases e
structure Mod (K:Frag) (mg:Str->Option Value) (base:Heap):Prop where
 kin:K.In base
 glob:base.Ns mainGlobals mg
 blt:∃ mb,base.Ns builtinsNs mb/\∀ x:Str,x ≠ "__name__"->mb x=bootBuiltins x
 nolimit:base.NoLimit
structure Cx where
 prog:Program
 w:World
 K:Frag
 mg:Str->Option Value
 base:Heap
 A:Around
 N:List Str
 s₀:Shared
 H₀:Hp
 env:Env
 outer:List Env
 stack:List Env
 ex:List Addr
 fn:Str->Bool
 calm:Bool
 pn:List (Addr × Obj)
 xe:Value->Shared->Prop
def frs (l:List Env):List Addr:=l.filterMap (·.frame)
abbrev Cx.fs (X:Cx):List Addr:=frs X.outer
def Vis (sc:Scope) (x:Str):Prop:=sc.names.lookup x=some .local\/sc.names.lookup x=some .cell\/sc.names.lookup x=some .free
def Loc (sc:Scope) (x:Str):Prop:=sc.names.lookup x=some .local\/sc.names.lookup x=some .cell
def Look (env:Env) (h:Heap) (m:Str->Option Value) (x:Str) (u:Value):Prop:=
 (env.kindOf x=some .local/\m x=some u)\/((env.kindOf x=some .cell\/env.kindOf x=some .free)/\∃ c,env.cells.lookup x=some c/\h.IsCell c (some u))
structure Cx.Ok (X:Cx):Prop where
 mod:Mod X.K X.mg X.base
 kind:X.env.scope.kind=.function
 glob:X.env.globals=mainGlobals
 blt:X.env.builtins=builtinsNs
 above:X.s₀.heap.objs.size<=X.env.locals
 inj:∀ x y c,X.env.cells.lookup x=some c->X.env.cells.lookup y=some c->x=y
 has:∀ x,(X.env.kindOf x=some .cell\/X.env.kindOf x=some .free)->∃ c,X.env.cells.lookup x=some c
 cab:∀ x c,X.fn x=true->X.env.cells.lookup x=some c->X.s₀.heap.objs.size<=c
 hd:X.calm=true->X.A.handled=none
 frames:X.A.frames=some X.stack
 stk:X.stack=X.outer\/(X.stack=X.env::X.outer/\X.env.frame=some X.env.locals)
 exf:∀ b ∈ X.ex,b ≠ X.env.locals/\∀ x c,X.env.cells.lookup x=some c->c ≠ b
 bs:∀ b o,X.base.get? b=some o->X.s₀.heap.get? b=some o/\X.H₀ b=none
 bsz:X.base.objs.size<=X.s₀.heap.objs.size
 noex:∀ b o,X.base.get? b=some o->b ∉ X.ex
 exfs:∀ b ∈ X.ex,b ∉ X.fs
 funs:X.s₀.heap.FunFrames X.base X.outer
 frf:∀ b ∈ X.fs,X.H₀ b=none
structure Inv (X:Cx) (pins:List (Addr × Obj)) (σ:List (Option V)) (H:Hp) (s:Shared):Prop where
 ok:X.Ok
 os:s.os=X.s₀.os
 bare:AllBare s.gens
 base:Un X.fs X.ex X.H₀ H X.s₀.heap s.heap
 loc:∃ m,s.heap.Ns X.env.locals m/\∀ (i:Nat) (x:Str) (v:V),X.N[i]? = some x->σ[i]? = some (some v)->Vis X.env.scope x->∃ u,g7 v u/\Look X.env s.heap m x u
 cell:∀ x c,X.env.cells.lookup x=some c->∃ v,s.heap.IsCell c v
 free:H X.env.locals=none
 freeC:∀ x c,X.env.cells.lookup x=some c->H c=none
 pin:∀ p ∈ X.pn++pins,s.heap.get? p.1=some p.2/\H p.1=none/\p.1 ≠ X.env.locals/\p.1 ∉ X.fs/\∀ v,p.2.data ≠ .cell v
 hok:HOk X.prog X.w H s.heap
 len:σ.length=X.N.length
section
variable {X:Cx} {pins:List (Addr × Obj)} {σ:List (Option V)} {H H':Hp} {s:Shared} {h':Heap}
theorem Cx.Ok.nofr (ok:X.Ok) {b:Addr} {o:Obj} (e:X.base.get? b=some o):b ∉ X.fs:=λhb=>by
 have:=(ok.funs.mem hb).1
 rw [e] at this; cases this
theorem Inv.bs (I:Inv X pins σ H s):∀ b o,X.base.get? b=some o->s.heap.get? b=some o/\H b=none:=λb o e=>
 ⟨I.base.keep b o (I.ok.bs b o e).1 (I.ok.bs b o e).2 (I.ok.nofr e) (I.ok.noex b o e),I.base.free b o (I.ok.bs b o e).1 (I.ok.bs b o e).2 (I.ok.noex b o e)⟩
theorem Inv.bk (I:Inv X pins σ H s):∀ b o,X.base.get? b=some o->s.heap.get? b=some o:=λb o e=>(I.bs b o e).1
theorem Inv.mod (I:Inv X pins σ H s):Mod X.K X.mg X.base:=I.ok.mod
theorem Inv.kIn (I:Inv X pins σ H s):X.K.In s.heap:=I.ok.mod.kin.keeps I.bk
theorem Inv.lt (I:Inv X pins σ H s):X.env.locals<s.heap.objs.size:=let ⟨_,hn,_⟩:=I.loc; hn.lt
theorem Inv.sz (I:Inv X pins σ H s):X.s₀.heap.objs.size<=s.heap.objs.size:=Nat.le_trans I.ok.above (Nat.le_of_lt I.lt)
theorem Inv.nofs (I:Inv X pins σ H s) {a:Addr} (h:s.heap.objs.size<=a):a ∉ X.fs:=λhb=>by
 obtain ⟨_,o,ho,_⟩:=I.ok.funs.mem hb
 exact absurd (Nat.lt_of_lt_of_le (lt_size ho) (Nat.le_trans I.sz h)) (Nat.lt_irrefl _)
theorem Inv.cne (I:Inv X pins σ H s):∀ x c,X.env.cells.lookup x=some c->c ≠ X.env.locals:=λx c e z=>by
 obtain ⟨v,o,ho,hd⟩:=I.cell x c e
 obtain ⟨m,⟨o',es,ep,ho',hd',_⟩,_⟩:=I.loc
 rw [z,ho'] at ho; cases ho; rw [hd'] at hd; cases hd
theorem Inv.funs (I:Inv X pins σ H s):s.heap.FunFrames X.base X.outer:=by
 have all:∀ (l:List Env),(∀ b ∈ frs l,b ∈ X.fs)->X.s₀.heap.FunFrames X.base l->s.heap.FunFrames X.base l:=by
  intro l
  induction l with
  | nil=>intro _ _; trivial
  | cons env r ih=>
   intro hs hl
   obtain ⟨hk,⟨L,o,hf,hn,ho,hd⟩,hr⟩:=hl
   have hL:L ∈ X.fs:=hs L (by unfold frs; rw [filterMap_cons,hf]; exact mem_cons_self)
   obtain ⟨sl,e⟩:=I.base.slot L o ho (I.ok.frf L hL) hL λz=>I.ok.exfs L z hL
   exact ⟨hk,⟨L,_,hf,hn,e,hd⟩,ih (λb hb=>hs b (by unfold frs; rw [filterMap_cons,hf]; exact mem_cons_of_mem _ hb)) hr⟩
 exact all X.outer (λ_ hb=>hb) I.ok.funs
theorem Inv.stack (I:Inv X pins σ H s):s.heap.FunFrames X.base X.stack:=by
 rcases I.ok.stk with e | ⟨e,hf⟩
 ·rw [e]; exact I.funs
 ·rw [e]
  obtain ⟨m,hn,_⟩:=I.loc
  refine .cons (by rw [I.ok.kind]; decide) hf hn ?_ I.funs
  exact Heap.get?_none_of_le (Nat.le_trans I.ok.bsz I.ok.above)
theorem Inv.stkSub (I:Inv X pins σ H s):∀ b ∈ frs X.stack,b ∈ X.env.locals::X.fs:=λb hb=>by
 rcases I.ok.stk with e | ⟨e,hf⟩
 ·rw [e] at hb; exact mem_cons_of_mem _ hb
 ·rw [e] at hb
  unfold frs at hb
  rw [filterMap_cons,hf] at hb
  exact hb
theorem Inv.stkFree (I:Inv X pins σ H s):∀ b ∈ frs X.stack,H b=none:=λb hb=>by
 rcases List.mem_cons.mp (I.stkSub b hb) with e | hb
 ·rw [e]; exact I.free
 ·obtain ⟨_,o,ho,_⟩:=I.ok.funs.mem hb
  exact I.base.free b o ho (I.ok.frf b hb) λz=>I.ok.exfs b z hb
theorem Inv.step {g':Array GenState} {t':Nat} {d':Drawn} {ch:List Addr} (I:Inv X pins σ H s)
  (hch:∀ b ∈ ch,(b ∈ X.ex\/X.s₀.heap.objs.size<=b)/\b ≠ X.env.locals/\(∀ x c,X.env.cells.lookup x=some c->c ≠ b)/\∀ p ∈ X.pn++pins,p.1 ≠ b)
  (keep:∀ b o,b ≠ X.env.locals->b ∉ X.fs->b ∉ ch->s.heap.get? b=some o->H b=none->h'.get? b=some o)
  (slot:∀ b o,b ≠ X.env.locals->b ∈ X.fs->b ∉ ch->s.heap.get? b=some o->H b=none->∃ sl,h'.get? b=some { o with slots:=sl }) (free:∀ b o,b ∉ ch->s.heap.get? b=some o->H b=none->H' b=none)
  (there:∀ b o,b ∉ ch->s.heap.get? b=some o->∃ o',h'.get? b=some o')
  (tups:∀ b xs,H b=some (.tup xs)->H' b=some (.tup xs)) (frzs:∀ b o u,H b=some (.frz o u)->H' b=some (.frz o u)) (tbls:∀ b ps,H b=some (.tbl ps)->∃ more,H' b=some (.tbl (ps++more)))
  (ns:∀ m,s.heap.Ns X.env.locals m->h'.Ns X.env.locals m) (hok:HOk X.prog X.w H' h') (hg:AllBare g') :
  Inv X pins σ H' { s with heap:=h',gens:=g',drawn:=d',toks:=t' }:=by
 have neL:∀ b o,X.s₀.heap.get? b=some o->b ≠ X.env.locals:=λb o e=>Nat.ne_of_lt (Nat.lt_of_lt_of_le (lt_size e) I.ok.above)
 have neC:∀ b o,X.s₀.heap.get? b=some o->b ∉ X.ex->b ∉ ch:=λb o e hx hb=>by
  rcases (hch b hb).1 with z | z
  ·exact hx z
  ·exact absurd (Nat.lt_of_lt_of_le (lt_size e) z) (Nat.lt_irrefl _)
 have cellK:∀ x c,X.env.cells.lookup x=some c->∀ v,s.heap.IsCell c v->h'.IsCell c v:=λx c e v ⟨o,ho,hd⟩=>by
  have nch:c ∉ ch:=λz=>(hch c z).2.2.1 x c e rfl
  by_cases hc:c ∈ X.fs
  ·obtain ⟨sl,q⟩:=slot c o (I.cne x c e) hc nch ho (I.freeC x c e)
   exact ⟨_,q,hd⟩
  ·exact ⟨o,keep c o (I.cne x c e) hc nch ho (I.freeC x c e),hd⟩
 refine ⟨I.ok,I.os,hg,⟨λb o e n hb hx=>?_,λb o e n hb hx=>?_,λb o e n hx=>?_,λb o e hx=>?_,λb xs e=>tups b xs (I.base.tups b xs e),λb o xs e=>frzs b o xs (I.base.frzs b o xs e),λb ps e=>?_⟩,?_,λx c e=>?_,?_,λx c e=>?_,λp hp=>?_,hok,I.len⟩
 ·exact keep b o (neL b o e) hb (neC b o e hx) (I.base.keep b o e n hb hx) (I.base.free b o e n hx)
 ·obtain ⟨sl,e1⟩:=I.base.slot b o e n hb hx
  obtain ⟨sl',e2⟩:=slot b _ (neL b o e) hb (neC b o e hx) e1 (I.base.free b o e n hx)
  exact ⟨sl',e2⟩
 ·obtain ⟨o',e1⟩:=I.base.there b o e hx
  exact free b o' (neC b o e hx) e1 (I.base.free b o e n hx)
 ·obtain ⟨o',e1⟩:=I.base.there b o e hx
  exact there b o' (neC b o e hx) e1
 ·obtain ⟨m1,e1⟩:=I.base.tbls b ps e
  obtain ⟨m2,e2⟩:=tbls b _ e1
  exact ⟨m1++m2,by rw [e2,Array.append_assoc]⟩
 ·obtain ⟨m,hn,hl⟩:=I.loc
  refine ⟨m,ns m hn,λi x v e1 e2 e3=>?_⟩
  obtain ⟨u,r,l⟩:=hl i x v e1 e2 e3
  refine ⟨u,r,?_⟩
  rcases l with l | ⟨k,c,e,z⟩
  ·exact .inl l
  ·exact .inr ⟨k,c,e,cellK x c e _ z⟩
 ·obtain ⟨v,z⟩:=I.cell x c e
  exact ⟨v,cellK x c e v z⟩
 ·obtain ⟨m,⟨o,_,_,ho,_⟩,_⟩:=I.loc
  exact free _ o (λz=>(hch _ z).2.1 rfl) ho I.free
 ·obtain ⟨v,o,ho,hd⟩:=I.cell x c e
  exact free c o (λz=>(hch c z).2.2.1 x c e rfl) ho (I.freeC x c e)
 ·obtain ⟨e,n,ne,nf,d⟩:=I.pin p hp
  have nch:p.1 ∉ ch:=λz=>(hch p.1 z).2.2.2 p hp rfl
  exact ⟨keep p.1 p.2 ne nf nch e n,free p.1 p.2 nch e n,ne,nf,d⟩
theorem Inv.un {t':Nat} (I:Inv X pins σ H s) (u:Un X.fs [] H H' s.heap h') (hok:HOk X.prog X.w H' h'):Inv X pins σ H' { s with heap:=h',toks:=t' }:=by
 obtain ⟨m,⟨o,es,ep,ho,r⟩,_⟩:=id I.loc
 obtain ⟨sl,hL⟩:=u.any ho I.free (by simp)
 exact I.step (g':=s.gens) (d':=s.drawn) (ch:=[]) (λ_ z=>nomatch z) (λb o _ hb _ e n=>u.keep b o e n hb (by simp)) (λb o _ hb _ e n=>u.slot b o e n hb (by simp)) (λb o _ e n=>u.free b o e n (by simp)) (λb o _ e=>u.there b o e (by simp)) u.tups u.frzs u.tbls (λm' hm=>by
  obtain ⟨o',es',ep',ho',r'⟩:=hm
  rw [ho] at ho'; cases ho'
  exact ⟨_,es',ep',hL,r'⟩) hok I.bare
theorem Inv.call {g':Array GenState} {t':Nat} {d':Drawn} {ch:List Addr} (I:Inv X pins σ H s) (u:Un (frs X.stack) ch H H' s.heap h') (hok:HOk X.prog X.w H' h') (hg:AllBare g')
  (hch:∀ b ∈ ch,(b ∈ X.ex\/X.s₀.heap.objs.size<=b)/\b ≠ X.env.locals/\(∀ x c,X.env.cells.lookup x=some c->c ≠ b)/\∀ p ∈ X.pn++pins,p.1 ≠ b) :
  Inv X pins σ H' { s with heap:=h',gens:=g',drawn:=d',toks:=t' }:=by
 obtain ⟨m,⟨o,es,ep,ho,r⟩,_⟩:=id I.loc
 obtain ⟨sl,hL⟩:=u.any ho I.free λz=>(hch _ z).2.1 rfl
 exact I.step (ch:=ch) hch (λb o hL hb hc e n=>u.keep b o e n (λz=>(List.mem_cons.mp (I.stkSub b z)).elim hL hb) hc) (λb o _ _ hc e n=>u.any e n hc) (λb o hc e n=>u.free b o e n hc) (λb o hc e=>u.there b o e hc) u.tups u.frzs u.tbls (λm' hm=>by
  obtain ⟨o',es',ep',ho',r'⟩:=hm
  rw [ho] at ho'; cases ho'
  exact ⟨_,es',ep',hL,r'⟩) hok hg
theorem Inv.turned {t':Nat} {it:Addr} (I:Inv X pins σ H s) (k:∀ b o,b ≠ it->s.heap.get? b=some o->h'.get? b=some o) (hn:H it=none) (hL:it ≠ X.env.locals)
  (h1:it ∈ X.ex\/X.s₀.heap.objs.size<=it) (h2:∀ x c,X.env.cells.lookup x=some c->c ≠ it) (h3:∀ p ∈ X.pn++pins,p.1 ≠ it):Inv X pins σ H { s with heap:=h',toks:=t' }:=by
 have nit:∀ b u,H b=some u->b ≠ it:=λb u e z=>by rw [z,hn] at e; cases e
 refine I.step (g':=s.gens) (d':=s.drawn) (ch:=[it]) (λb hb=>?_) (λb o _ _ hc e _=>k b o (λz=>hc (by simp [z])) e) (λb o _ _ hc e _=>⟨o.slots,k b o (λz=>hc (by simp [z])) e⟩) (λ_ _ _ _ n=>n)
  (λb o hc e=>⟨o,k b o (λz=>hc (by simp [z])) e⟩) (λ_ _ e=>e) (λ_ _ _ e=>e) (λb ps e=>⟨#[],by rw [e]; simp⟩) (λm hm=>?_) (λb u e=>?_) I.bare
 ·have e:b=it:=by simpa using hb
  subst e
  exact ⟨h1,hL,h2,h3⟩
 ·obtain ⟨o,es,ep,ho,r⟩:=hm
  exact ⟨o,es,ep,k _ o (Ne.symm hL) ho,r⟩
 ·refine (I.hok b u e).stay (λc v hc q=>k c v ?_ q) (λ_ q=>q) λ_ _ q=>q
  rcases hc with z | z
  ·rw [z]; exact nit b u e
  ·exact nit c _ z
theorem Inv.tok (I:Inv X pins σ H s) (t:Nat):Inv X pins σ H { s with toks:=t }:=I.un (h':=s.heap) (t':=t) Un.refl I.hok
theorem Inv.kept {t':Nat} (I:Inv X pins σ H s) (k:∀ b u,s.heap.get? b=some u->h'.get? b=some u):Inv X pins σ H { s with heap:=h',toks:=t' }:=I.un (Un.kept k) (I.hok.kept k)
theorem Inv.laid {a:Addr} {o:HO} {t':Nat} (I:Inv X pins σ H s) (k:∀ b u,s.heap.get? b=some u->h'.get? b=some u) (hp:s.heap.objs.size<=a) (new:ig X.prog X.w (upd H a o) h' a o) :
  Inv X pins σ (upd H a o) { s with heap:=h',toks:=t' }:=I.un (Un.laid k hp (I.hok.fresh hp)) (I.hok.laid k hp new)
theorem Inv.write {x e:Addr} {o:HO} {t':Nat} (I:Inv X pins σ H s) (mu:Mut (H x)) (he:e=x\/H e=some (.own x)) (k:∀ b u,b ≠ e->s.heap.get? b=some u->h'.get? b=some u) (heo:∃ u,h'.get? e=some u)
  (new:ig X.prog X.w (upd H x o) h' x o):Inv X pins σ (upd H x o) { s with heap:=h',toks:=t' }:=I.un (Un.write mu he k heo) (I.hok.write mu he k heo new)
theorem Inv.pins_of {pins':List (Addr × Obj)} (I:Inv X pins σ H s) (h:∀ p ∈ pins',s.heap.get? p.1=some p.2/\H p.1=none/\p.1 ≠ X.env.locals/\p.1 ∉ X.fs/\∀ v,p.2.data ≠ .cell v):Inv X pins' σ H s:=
 ⟨I.ok,I.os,I.bare,I.base,I.loc,I.cell,I.free,I.freeC,λp hp=>(List.mem_append.mp hp).elim (λz=>I.pin p (List.mem_append_left _ z)) (h p),I.hok,I.len⟩
theorem nodup_ix {N:List Str} (hN:N.Nodup) {i j:Nat} {x:Str} (a:N[i]? = some x) (b:N[j]? = some x):i=j:=by
 obtain ⟨h1,e1⟩:=List.getElem?_eq_some_iff.mp a
 obtain ⟨h2,e2⟩:=List.getElem?_eq_some_iff.mp b
 exact (List.getElem_inj hN).mp (e1.trans e2.symm)
theorem eh {M:Model} {A:Around} {E:Value->Shared->Prop} {i:Nat} {x:Str} {v:V} {u:Value} {Q:Unit->Shared->Prop} (I:Inv X pins σ H s) (hN:X.N.Nodup) (hi:X.N[i]? = some x) (hx:Loc X.env.scope x) (r:g7 v u)
  (h:∀ s',Inv X pins (σ.set i (some v)) H s'->(∃ a,Heap.SameBut a s.heap s'.heap/\(a=X.env.locals\/X.env.cells.lookup x=some a))->Q () s') (hf:X.fn x=true\/X.env.scope.names.lookup x=some .local:=by first | exact .inl rfl | exact .inr rfl | assumption):wpAny M A (storeName X.env x u) Q E s:=by
 obtain ⟨m,hn,hl⟩:=id I.loc
 have hcls:(X.env.scope.kind == .class || (X.env.scope.kind == .module && X.env.locals != X.env.globals))=false:=by rw [I.ok.kind]; rfl
 have hiσ:i<σ.length:=by rw [I.len]; exact (List.getElem?_eq_some_iff.mp hi).1
 have cne:=I.cne
 have tracked:∀ {a:Addr} {h':Heap},(∃ o,s.heap.get? a=some o/\H a=none)->Heap.SameBut a s.heap h'->HOk X.prog X.w H h':=λ{a h'} ha hs b ob e=>by
  obtain ⟨_,_,hfree⟩:=ha
  refine (I.hok b ob e).stay (λc w' hc q=>(hs.2 c ?_).trans q) (λ_ q=>q) λ_ _ q=>q
  rintro rfl
  rcases hc with rfl | hc
  ·rw [hfree] at e; cases e
  ·rw [hfree] at hc; cases hc
 rcases hx with hk | hk
 ·refine wpAny_storeName_local hk hn (λh' hn' hs=>?_) hcls
  obtain ⟨oL,_,_,hoL,_⟩:=id hn
  refine h _ ⟨I.ok,I.os,I.bare,⟨λb o e n hb hx=>?_,λb o e n hb hx=>?_,I.base.free,λb o e hx=>?_,I.base.tups,I.base.frzs,I.base.tbls⟩,⟨_,hn',λj y v' e1 e2 e3=>?_⟩,λy c e=>?_,I.free,I.freeC,λp hp=>?_,tracked ⟨oL,hoL,I.free⟩ hs,by simpa using I.len⟩ ⟨_,hs,.inl rfl⟩
  ·exact (hs.2 b (Nat.ne_of_lt (Nat.lt_of_lt_of_le (lt_size e) I.ok.above))).trans (I.base.keep b o e n hb hx)
  ·obtain ⟨sl,e1⟩:=I.base.slot b o e n hb hx
   exact ⟨sl,(hs.2 b (Nat.ne_of_lt (Nat.lt_of_lt_of_le (lt_size e) I.ok.above))).trans e1⟩
  ·obtain ⟨o',e1⟩:=I.base.there b o e hx
   exact ⟨o',(hs.2 b (Nat.ne_of_lt (Nat.lt_of_lt_of_le (lt_size e) I.ok.above))).trans e1⟩
  ·by_cases hj:j=i
   ·subst hj
    rw [hi] at e1; cases e1
    rw [List.getElem?_set_self hiσ] at e2
    cases e2
    exact ⟨u,r,.inl ⟨hk,by simp⟩⟩
   ·rw [List.getElem?_set_ne (Ne.symm hj)] at e2
    obtain ⟨u',r',q⟩:=hl j y v' e1 e2 e3
    refine ⟨u',r',?_⟩
    rcases q with ⟨k,e⟩ | ⟨k,c,e,z⟩
    ·refine .inl ⟨k,?_⟩
     have:y ≠ x:=λe=>hj (nodup_ix hN e1 (e ▸ hi))
     simp [this,e]
    ·exact .inr ⟨k,c,e,z.sameBut hs (cne y c e)⟩
  ·obtain ⟨w',z⟩:=I.cell y c e
   exact ⟨w',z.sameBut hs (cne y c e)⟩
  ·obtain ⟨e,n,ne,nf,d⟩:=I.pin p hp
   exact ⟨(hs.2 p.1 ne).trans e,n,ne,nf,d⟩
 ·have hfn:X.fn x=true:=by
   rcases hf with z | z
   ·exact z
   ·rw [z] at hk; cases hk
  obtain ⟨c,hc⟩:=I.ok.has x (.inl hk)
  obtain ⟨w',z⟩:=I.cell x c hc
  refine wpAny_storeName_cell I.ok.kind hk hc z (λh' hc' hs=>?_)
  obtain ⟨oc,hoc,hocd⟩:=id z
  refine h { s with heap:=h' } ⟨I.ok,I.os,I.bare,⟨λb o e n hb hx=>?_,λb o e n hb hx=>?_,I.base.free,λb o e hx=>?_,I.base.tups,I.base.frzs,I.base.tbls⟩,⟨m,hn.sameBut hs (Ne.symm (cne x c hc)),λj y v' e1 e2 e3=>?_⟩,λy c' e=>?_,I.free,I.freeC,λp hp=>?_,tracked ⟨oc,hoc,I.freeC x c hc⟩ hs,by simpa using I.len⟩ ⟨c,hs,.inr hc⟩
  ·exact (hs.2 b (Nat.ne_of_lt (Nat.lt_of_lt_of_le (lt_size e) (I.ok.cab x c hfn hc)))).trans (I.base.keep b o e n hb hx)
  ·obtain ⟨sl,e1⟩:=I.base.slot b o e n hb hx
   exact ⟨sl,(hs.2 b (Nat.ne_of_lt (Nat.lt_of_lt_of_le (lt_size e) (I.ok.cab x c hfn hc)))).trans e1⟩
  ·obtain ⟨o',e1⟩:=I.base.there b o e hx
   exact ⟨o',(hs.2 b (Nat.ne_of_lt (Nat.lt_of_lt_of_le (lt_size e) (I.ok.cab x c hfn hc)))).trans e1⟩
  ·by_cases hj:j=i
   ·subst hj
    rw [hi] at e1; cases e1
    rw [List.getElem?_set_self hiσ] at e2
    cases e2
    exact ⟨u,r,.inr ⟨.inl hk,c,hc,hc'⟩⟩
   ·rw [List.getElem?_set_ne (Ne.symm hj)] at e2
    obtain ⟨u',r',q⟩:=hl j y v' e1 e2 e3
    refine ⟨u',r',?_⟩
    rcases q with q | ⟨k,c',e,z'⟩
    ·exact .inl q
    ·refine .inr ⟨k,c',e,z'.sameBut hs ?_⟩
     rintro rfl
     exact hj (nodup_ix hN e1 (I.ok.inj _ _ _ e hc ▸ hi))
  ·by_cases hcc:c'=c
   ·subst hcc; exact ⟨_,hc'⟩
   ·obtain ⟨w2,z2⟩:=I.cell y c' e
    exact ⟨w2,z2.sameBut hs hcc⟩
  ·obtain ⟨e,n,ne,nf,d⟩:=I.pin p hp
   refine ⟨(hs.2 p.1 ?_).trans e,n,ne,nf,d⟩
   intro q
   rw [q,hoc] at e
   have q':oc=p.2:=Option.some.inj e
   exact d w' (by rw [<- q']; exact hocd)
theorem dw {M:Model} {A:Around} {E:Value->Shared->Prop} {i:Nat} {x:Str} {v:V} {u:Value} {Q:Unit->Shared->Prop} (I:Inv X pins σ H s) (hN:X.N.Nodup) (hi:X.N[i]? = some x) (hx:Loc X.env.scope x) (r:g7 v u)
  (h:∀ s',Inv X pins (σ.set i (some v)) H s'->Q () s') (hf:X.fn x=true\/X.env.scope.names.lookup x=some .local:=by first | exact .inl rfl | exact .inr rfl | assumption):wpAny M A (storeName X.env x u) Q E s:=
 eh I hN hi hx r (λs' I' _=>h s' I') hf
theorem Inv.call' {s':Shared} {ch:List Addr} (I:Inv X pins σ H s) (ho:s'.os=s.os) (u:Un (frs X.stack) ch H H' s.heap s'.heap) (hok:HOk X.prog X.w H' s'.heap) (hg:AllBare s'.gens)
  (hch:∀ b ∈ ch,(b ∈ X.ex\/X.s₀.heap.objs.size<=b)/\b ≠ X.env.locals/\(∀ x c,X.env.cells.lookup x=some c->c ≠ b)/\∀ p ∈ X.pn++pins,p.1 ≠ b):Inv X pins σ H' s':=by
 obtain ⟨h',g',d',t',o'⟩:=s'
 have e:o'=s.os:=ho
 subst e
 exact I.call (g':=g') (t':=t') (d':=d') u hok hg hch
end
abbrev XK:=Value->Option Addr->Hp->Prop
abbrev St:=List (Option V)
abbrev VK:=V->Hp->Prop
abbrev TE:=St->Hp->VK->Prop
abbrev TT:=St->Hp->(Bool->Hp->Prop)->Prop
abbrev TA:=St->Hp->(List V->Hp->Prop)->Prop
structure eP where
 nx:St->Hp->Prop
 rt:VK
 bk:St->Hp->Prop:=λ_ _=>False
 ct:St->Hp->Prop:=λ_ _=>False
abbrev TS:=eP->St->Hp->Prop
def EP (X:Cx) (pins:List (Addr × Obj)) (σ:St) (Q:VK) (u:Value) (s':Shared):Prop:=∃ v H',Inv X pins σ H' s'/\g7 v u/\Q v H'
def TP (X:Cx) (pins:List (Addr × Obj)) (σ:St) (Q:Bool->Hp->Prop) (b:Bool) (s':Shared):Prop:=∃ H',Inv X pins σ H' s'/\Q b H'
def AP (X:Cx) (pins:List (Addr × Obj)) (σ:St) (Q:List V->Hp->Prop) (us:List Value) (s':Shared):Prop:=∃ vs H',Inv X pins σ H' s'/\g6 vs us/\Q vs H'
def SP (X:Cx) (pins:List (Addr × Obj)) (D:eP) (f:Flow) (s':Shared):Prop:=
 match f with
 | .next=>∃ σ' H',Inv X pins σ' H' s'/\D.nx σ' H'
 | .brk=>∃ σ' H',Inv X pins σ' H' s'/\D.bk σ' H'
 | .cont=>∃ σ' H',Inv X pins σ' H' s'/\D.ct σ' H'
 | .ret u=>∃ v σ' H',Inv X pins σ' H' s'/\g7 v u/\D.rt v H'
def PE (X:Cx) (e:Expr) (t:TE):Prop:=
 ∀ (pins:List (Addr × Obj)) (s:Shared) (σ:St) (H:Hp) (Q:VK),Inv X pins σ H s->t σ H Q->wpAny (model X.prog X.w) X.A (eval e X.env) (EP X pins σ Q) X.xe s
def PT (X:Cx) (e:Expr) (t:TT):Prop:=
 ∀ (pins:List (Addr × Obj)) (s:Shared) (σ:St) (H:Hp) (Q:Bool->Hp->Prop),Inv X pins σ H s->t σ H Q->wpAny (model X.prog X.w) X.A (isTrue e X.env (eval e X.env)) (TP X pins σ Q) X.xe s
def PW (X:Cx) (e:Expr) (t:TT):Prop:=
 ∀ (whole:Sem Value) (pins:List (Addr × Obj)) (s:Shared) (σ:St) (H:Hp) (Q:Bool->Hp->Prop),Inv X pins σ H s->t σ H Q->wpAny (model X.prog X.w) X.A (isTrue e X.env whole) (TP X pins σ Q) X.xe s
theorem PW.pt {X:Cx} {e:Expr} {t:TT} (h:PW X e t):PT X e t:=h _
def PA (X:Cx) (es:List Expr) (t:TA):Prop:=
 ∀ (pos:Pos) (pins:List (Addr × Obj)) (s:Shared) (σ:St) (H:Hp) (Q:List V->Hp->Prop),Inv X pins σ H s->t σ H Q->wpAny (model X.prog X.w) X.A (spliced (backTo pos (starEach es X.env))) (AP X pins σ Q) X.xe s
def PS (X:Cx) (st:Stmt) (t:TS):Prop:=
 ∀ (pins:List (Addr × Obj)) (s:Shared) (σ:St) (H:Hp) (D:eP),Inv X pins σ H s->t D σ H->wpAny (model X.prog X.w) X.A (exec st X.env) (SP X pins D) X.xe s
def PSs (X:Cx) (st:List Stmt) (t:TS):Prop:=
 ∀ (pins:List (Addr × Obj)) (s:Shared) (σ:St) (H:Hp) (D:eP),Inv X pins σ H s->t D σ H->wpAny (model X.prog X.w) X.A (execs st X.env) (SP X pins D) X.xe s
theorem thn {α:Type} {t:Sem α} {Q Q':α->Shared->Prop} {M:Model} {A:Around} {E:Value->Shared->Prop} {s:Shared} (h:wpAny M A t Q E s) (hQ:∀ a s,Q a s->Q' a s):wpAny M A t Q' E s:=wpAny_mono h hQ λ_ _ x=>x
section
variable {X:Cx}
theorem bin {a b:Expr} {ta tb:TE} (ha:PE X a ta) (hb:PE X b tb) {pins:List (Addr × Obj)} {s:Shared} {σ:St} {H:Hp} {R:V->V->Hp->Prop} (I:Inv X pins σ H s) (h:ta σ H λx H1=>tb σ H1 λy H2=>R x y H2)
  {α:Type} {Q:α->Shared->Prop} {f:Value->Value->Sem α}
  (hf:∀ v u s2 x y H2,Inv X pins σ H2 s2->g7 x v->g7 y u->R x y H2->wpAny (model X.prog X.w) X.A (f v u) Q X.xe s2) :
  wpAny (model X.prog X.w) X.A (eval a X.env) (λv s₁=>wpAny (model X.prog X.w) X.A (eval b X.env) (λu s₂=>wpAny (model X.prog X.w) X.A (f v u) Q X.xe s₂) X.xe s₁) X.xe s:=by
 refine thn (ha pins s σ H _ I h) λv s1 ⟨x,H1,I1,r1,q1⟩=>?_
 refine thn (hb pins s1 σ H1 _ I1 q1) λu s2 ⟨y,H2,I2,r2,q2⟩=>?_
 exact hf v u s2 x y H2 I2 r1 r2 q2
def tVar (i:Nat):TE:=λσ H Q=>∃ v,σ[i]? = some (some v)/\Q v H
def tC (v:V):TE:=λ_ H Q=>Q v H
theorem pe_var {i:Nat} {x:Str} {pos:Pos} (hN:X.N[i]? = some x) (hv:Vis X.env.scope x) (hd:(x == ("__debug__" : Str))=false:=by decide) (hcd:(x == ("__classdict__" : Str))=false:=by decide):PE X (.Name x pos) (tVar i):=by
 intro pins s σ H Q I h
 obtain ⟨v,e,h⟩:=h
 obtain ⟨m,hn,hl⟩:=I.loc
 obtain ⟨u,r,l⟩:=hl i x v hN e hv
 have fin:EP X pins σ Q u s:=⟨v,H,I,r,h⟩
 rcases l with ⟨hk,hm⟩ | ⟨hk,c,hc,hcell⟩
 ·exact wpAny_Name (wpAny_loadName_local I.ok.kind hk hn hm fin) hd
 ·rcases hk with hk | hk
  ·exact wpAny_Name (wpAny_loadName_cell I.ok.kind hk hc hcell fin) hd
  ·exact wpAny_Name (wpAny_loadName_free I.ok.kind hk hc hcell fin hcd) hd
theorem ac {i j pos}:PE X (.Constant (.int i) j pos) (tC (.int i)):=λ_ _ _ H _ I h=>wpAny_Constant_int ⟨.int i,H,I.tok _,⟨_,rfl⟩,h⟩
theorem fO {b j pos}:PE X (.Constant (.bool b) j pos) (tC (.bl b)):=λ_ _ _ H _ I h=>Constant_bool ⟨.bl b,H,I,rfl,h⟩
def Gl (X:Cx) (x:Str):Prop:=X.env.kindOf x=some .globalImplicit
theorem fh {E:Value->Shared->Prop} {pins:List (Addr × Obj)} {s:Shared} {σ:St} {H:Hp} {x:Str} {u:Value} {pos:Pos} {Q:Value->Shared->Prop} (I:Inv X pins σ H s) (hg:Gl X x) (hm:X.mg x=some u) (h:Q u s)
  (hd:(x == ("__debug__" : Str))=false:=by decide):wpAny (model X.prog X.w) X.A (eval (.Name x pos) X.env) Q E s:=
 Calls.Name_function_global I.ok.kind hg (Calls.loadGlobal_global (by rw [I.ok.glob]; exact I.mod.glob.keeps I.bk) hm h) hd
theorem dg {E:Value->Shared->Prop} {pins:List (Addr × Obj)} {s:Shared} {σ:St} {H:Hp} {x:Str} {u:Value} {pos:Pos} {Q:Value->Shared->Prop} (I:Inv X pins σ H s) (hg:Gl X x) (hm:X.mg x=none) (hv:bootBuiltins x=some u) (h:Q u s)
  (hn:x ≠ "__name__":=by decide) (hd:(x == ("__debug__" : Str))=false:=by decide):wpAny (model X.prog X.w) X.A (eval (.Name x pos) X.env) Q E s:=by
 obtain ⟨mb,h1,h2⟩:=I.mod.blt
 exact Calls.Name_function_global I.ok.kind hg (Calls.loadGlobal_builtin (by rw [I.ok.glob]; exact I.mod.glob.keeps I.bk) hm (by rw [I.ok.blt]; exact h1.keeps I.bk) ((h2 x hn).trans hv) h) hd
theorem pe_glob {x:Str} {v:V} {u:Value} {pos:Pos} (hg:Gl X x) (hm:X.mg x=some u) (r:g7 v u) (hd:(x == ("__debug__" : Str))=false:=by decide):PE X (.Name x pos) (tC v):=
 λ_ _ _ H _ I h=>fh I hg hm ⟨v,H,I,r,h⟩ hd
theorem pe_bltn {x:Str} {v:V} {u:Value} {pos:Pos} (hg:Gl X x) (hm:X.mg x=none) (hv:bootBuiltins x=some u) (r:g7 v u) (hn:x ≠ "__name__":=by decide) (hd:(x == ("__debug__" : Str))=false:=by decide):PE X (.Name x pos) (tC v):=
 λ_ _ _ H _ I h=>dg I hg hm hv ⟨v,H,I,r,h⟩ hn hd
variable {a b:Expr} {ta tb:TE} {pos:Pos}
def PC (X:Cx) (op:CmpOp) (a b:Expr) (t:TE):Prop:=
 ∀ (pins:List (Addr × Obj)) (s:Shared) (σ:St) (H:Hp) (Q:VK),Inv X pins σ H s->t σ H Q->
  wpAny (model X.prog X.w) X.A (eval a X.env) (λv s₁=>wpAny (model X.prog X.w) X.A (eval b X.env) (λu s₂=>wpAny (model X.prog X.w) X.A (compareOp op v u) (EP X pins σ Q) X.xe s₂) X.xe s₁) X.xe s
def tB (t:TE):TT:=λσ H Q=>t σ H λx H1=>∃ c,x=.bl c/\Q c H1
theorem pt_cmp {op:CmpOp} {t:TE} (h:PC X op a b t) (h1:behindInMarks op b=false:=by first | exact nobehind _ (by decide) (by decide) | rfl):PT X (.Compare a [op] [b] pos) (tB t):=by
 intro pins s σ H Q I hw
 refine wpAny_isTrue_Compare1 (thn (h pins s σ H _ I hw) λv s1 h1=>thn h1 λu s2 h2=>thn h2 λc s3 ⟨x,H1,I1,r1,q1⟩=>?_) h1
 obtain ⟨d,rfl,q⟩:=q1
 cases r1
 exact wpAny_truthy_bool ⟨H1,I1,q⟩
theorem fI {e:Expr} {t:TE} (h:PE X e t) (he:∀ whole,isTrue e X.env whole=(do let v <- whole; standAt e.pos; holding [v] (truthy v)):=by intro _; rfl):PT X e (tB t):=by
 intro pins s σ H Q I hw
 refine isTrue_plain (thn (h pins s σ H _ I hw) λv s1 ⟨x,H1,I1,r1,q1⟩=>?_) (he _)
 obtain ⟨d,rfl,q⟩:=q1
 cases r1
 exact wpAny_truthy_bool ⟨H1,I1,q⟩
variable {tA tB':TT} {rest:List Expr}
def tAnd (t u:TT):TT:=λσ H Q=>t σ H λc H1=>if c=true then u σ H1 Q else Q false H1
def tOr (t u:TT):TT:=λσ H Q=>t σ H λc H1=>if c=true then Q true H1 else u σ H1 Q
def tNot (t:TT):TT:=λσ H Q=>t σ H λc H1=>Q (!c) H1
theorem gB (ha:PT X a tA):PW X (.BoolOp .And [a] pos) tA:=by
 intro wh pins s σ H Q I h
 refine isTrue_and (thn (ha pins s σ H Q I h) λc s1 e=>?_)
 cases c with
 | true=>exact isTrue_and_nil e
 | false=>exact e
theorem pw_or1 (ha:PT X a tA):PW X (.BoolOp .Or [a] pos) tA:=by
 intro wh pins s σ H Q I h
 refine isTrue_or (thn (ha pins s σ H Q I h) λc s1 e=>?_)
 cases c with
 | false=>exact isTrue_or_nil e
 | true=>exact e
theorem pw_and (ha:PT X a tA) (hb:PW X (.BoolOp .And (b::rest) pos) tB'):PW X (.BoolOp .And (a::b::rest) pos) (tAnd tA tB'):=by
 intro wh pins s σ H Q I h
 refine isTrue_and (thn (ha pins s σ H _ I h) λc s1 ⟨H1,I1,q1⟩=>?_)
 cases c with
 | true=>exact hb wh pins s1 σ H1 Q I1 q1
 | false=>exact ⟨H1,I1,q1⟩
theorem pw_or (ha:PT X a tA) (hb:PW X (.BoolOp .Or (b::rest) pos) tB'):PW X (.BoolOp .Or (a::b::rest) pos) (tOr tA tB'):=by
 intro wh pins s σ H Q I h
 refine isTrue_or (thn (ha pins s σ H _ I h) λc s1 ⟨H1,I1,q1⟩=>?_)
 cases c with
 | true=>exact ⟨H1,I1,q1⟩
 | false=>exact hb wh pins s1 σ H1 Q I1 q1
theorem pt_not (ha:PT X a tA):PT X (.UnaryOp .Not a pos) (tNot tA):=by
 intro pins s σ H Q I h
 exact isTrue_not (ha pins s σ H (λc H1=>Q (!c) H1) I h)
def tAndV (ta tb:TE):TE:=λσ H Q=>ta σ H λx H1=>∃ c,x=.bl c/\if c=true then tb σ H1 Q else Q (.bl false) H1
def tNotV (ta:TE):TE:=λσ H Q=>ta σ H λx H1=>∃ c,x=.bl c/\Q (.bl (!c)) H1
theorem pe_one {op} {t:TE} (h:PE X a t):PE X (.BoolOp op [a] pos) t:=λpins s σ H Q I hw=>BoolOp_one (h pins s σ H Q I hw)
theorem pe_and (ha:PE X a ta) (hb:PE X (.BoolOp .And (b::rest) pos) tb):PE X (.BoolOp .And (a::b::rest) pos) (tAndV ta tb):=by
 intro pins s σ H Q I h
 refine BoolOp_and (thn (ha pins s σ H _ I h) λv s1 ⟨x,H1,I1,r1,q1⟩=>?_)
 obtain ⟨c,rfl,q1⟩:=q1
 cases r1
 refine wpAny_truthy_bool ?_
 cases c with
 | true=>exact hb pins s1 σ H1 Q I1 q1
 | false=>exact ⟨.bl false,H1,I1,rfl,q1⟩
theorem pe_not (ha:PE X a ta):PE X (.UnaryOp .Not a pos) (tNotV ta):=by
 intro pins s σ H Q I h
 refine UnaryOp_ (thn (ha pins s σ H _ I h) λv s1 ⟨x,H1,I1,r1,q1⟩=>?_)
 obtain ⟨c,rfl,q1⟩:=q1
 cases r1
 exact not_of (wpAny_truthy_bool ⟨.bl (!c),H1,I1,rfl,q1⟩)
end
def SqL (K:Frag) (H:Hp) (a:Addr) (xs:List V):Prop:=
 Rd H a (.lst xs) \/
  ∃ (o:Obj) (its:Array Value) (n:Nat),K.lookup a=some o/\o.cls=.type "list"/\o.dict=none/\o.data=.seq its n/\its.size<=sizeLine/\g6 xs its.toList
def SqT (K:Frag) (H:Hp) (a:Addr) (xs:List V):Prop:=
 Rd H a (.tup xs) \/
  ∃ (o:Obj) (its:Array Value) (n:Nat),K.lookup a=some o/\o.cls=.type "tuple"/\o.data=.seq its n/\its.size<=sizeLine/\g6 xs its.toList
def absV:Value->Option V
 | .none=>some .non
 | .bool b=>some (.bl b)
 | .int i _=>some (.int i)
 | .str x _=>some (.str x)
 | .bytes b _=>some (.byt b)
 | .float b _=>some (.flt b)
 | .ref a=>some (.ref a)
 | .type n=>some (.ty n)
 | _=>none
theorem g7.abs {x:V} {u:Value} (r:g7 x u):absV u=some x:=by
 cases x with
 | non=>cases r; rfl
 | bl _=>cases r; rfl
 | int _=>obtain ⟨t,rfl⟩:=r; rfl
 | str _=>obtain ⟨t,rfl⟩:=r; rfl
 | byt _=>obtain ⟨t,rfl⟩:=r; rfl
 | flt _=>obtain ⟨t,rfl⟩:=r; rfl
 | ref _=>cases r; rfl
 | ty _=>cases r; rfl
theorem g7.inj {x y:V} {u:Value} (r:g7 x u) (q:g7 y u):x=y:=Option.some.inj (r.abs.symm.trans q.abs)
theorem g6.inj:∀ {xs ys:List V} {us:List Value},g6 xs us->g6 ys us->xs=ys
 | _,_,_,.nil,.nil=>rfl
 | _,_,_,.cons r t,.cons r' t'=>by rw [r.inj r',g6.inj t t']
section
variable {X:Cx} {pins:List (Addr × Obj)} {σ:St} {H:Hp} {s:Shared} {a:Addr} {xs ys:List V}
theorem SqL.of {K:Frag} (h:H a=some (.lst xs)):SqL K H a xs:=.inl (.inl h)
theorem SqT.of {K:Frag} (h:H a=some (.tup xs)):SqT K H a xs:=.inl (.inl h)
theorem Inv.list (I:Inv X pins σ H s) (h:SqL X.K H a xs):∃ its:List Value,g6 xs its/\PlainL s.heap a its.toArray/\xs.length<=sizeLine:=by
 rcases h with h | ⟨o,its,n,hk,hc,hd,hs,hz,r⟩
 ·obtain ⟨z,its,n,r,e⟩:=h.ok I.hok
  exact ⟨its,r,⟨_,n,e,rfl,rfl,rfl⟩,z⟩
 ·refine ⟨its.toList,r,⟨o,n,I.kIn a o hk,hc,hd,by simpa using hs⟩,?_⟩
  have e:=r.length
  simp only [Array.length_toList] at e
  omega
theorem Inv.tuple (I:Inv X pins σ H s) (h:SqT X.K H a xs):∃ its:List Value,g6 xs its/\IsTup s.heap a its.toArray/\xs.length<=sizeLine:=by
 rcases h with h | ⟨o,its,n,hk,hc,hs,hz,r⟩
 ·obtain ⟨z,its,r,p⟩:=h.ok I.hok
  exact ⟨its,r,p,z⟩
 ·refine ⟨its.toList,r,⟨o,I.kIn a o hk,hc,n,by simpa using hs⟩,?_⟩
  have e:=r.length
  simp only [Array.length_toList] at e
  omega
theorem Inv.list_inj (I:Inv X pins σ H s) (h:SqL X.K H a xs) (h':SqL X.K H a ys):xs=ys:=by
 obtain ⟨its,r,⟨o,n,e,_,_,d⟩,_⟩:=I.list h
 obtain ⟨its',r',⟨o',n',e',_,_,d'⟩,_⟩:=I.list h'
 rw [e] at e'; cases e'
 rw [d] at d'
 injection d' with d1 _
 have:its=its':=by simpa using congrArg Array.toList d1
 subst this
 exact r.inj r'
theorem Inv.tuple_inj (I:Inv X pins σ H s) (h:SqT X.K H a xs) (h':SqT X.K H a ys):xs=ys:=by
 obtain ⟨its,r,⟨o,e,_,n,d⟩,_⟩:=I.tuple h
 obtain ⟨its',r',⟨o',e',_,n',d'⟩,_⟩:=I.tuple h'
 rw [e] at e'; cases e'
 rw [d] at d'
 injection d' with d1 _
 have:its=its':=by simpa using congrArg Array.toList d1
 subst this
 exact r.inj r'
end
abbrev Cx.wish (X:Cx) (E:Value->Shared->Prop):Cx:={ X with xe:=E }
abbrev Cx.nox (X:Cx):Cx:=X.wish λ_ _=>False
theorem Cx.Ok.wish {X:Cx} (ok:X.Ok) (E:Value->Shared->Prop):(X.wish E).Ok:=
 ⟨ok.mod,ok.kind,ok.glob,ok.blt,ok.above,ok.inj,ok.has,ok.cab,ok.hd,ok.frames,ok.stk,ok.exf,ok.bs,ok.bsz,ok.noex,ok.exfs,ok.funs,ok.frf⟩
theorem Cx.Ok.unwish {X:Cx} {E:Value->Shared->Prop} (ok:(X.wish E).Ok):X.Ok:=
 ⟨ok.mod,ok.kind,ok.glob,ok.blt,ok.above,ok.inj,ok.has,ok.cab,ok.hd,ok.frames,ok.stk,ok.exf,ok.bs,ok.bsz,ok.noex,ok.exfs,ok.funs,ok.frf⟩
section
variable {X:Cx} {pins:List (Addr × Obj)} {σ:St} {H:Hp} {s:Shared} {E:Value->Shared->Prop}
theorem Inv.wish (I:Inv X pins σ H s) (E:Value->Shared->Prop):Inv (X.wish E) pins σ H s:=⟨I.ok.wish E,I.os,I.bare,I.base,I.loc,I.cell,I.free,I.freeC,I.pin,I.hok,I.len⟩
theorem Inv.unwish (I:Inv (X.wish E) pins σ H s):Inv X pins σ H s:=⟨I.ok.unwish,I.os,I.bare,I.base,I.loc,I.cell,I.free,I.freeC,I.pin,I.hok,I.len⟩
theorem SP.unwish {D:eP} {f:Flow} {s':Shared} (h:SP (X.wish E) pins D f s'):SP X pins D f s':=by
 cases f with
 | next=>obtain ⟨σ',H',I,q⟩:=h; exact ⟨σ',H',I.unwish,q⟩
 | brk=>obtain ⟨σ',H',I,q⟩:=h; exact ⟨σ',H',I.unwish,q⟩
 | cont=>obtain ⟨σ',H',I,q⟩:=h; exact ⟨σ',H',I.unwish,q⟩
 | ret u=>obtain ⟨v,σ',H',I,r,q⟩:=h; exact ⟨v,σ',H',I.unwish,r,q⟩
theorem PSs.nox {st:List Stmt} {t:TS} (h:PSs X.nox st t):PSs X st t:=λpins s σ H D I hw=>
 wpAny_mono (h pins s σ H D (I.wish _) hw) (λ_ _ q=>q.unwish) λ_ _ z=>False.elim z
end
section
variable {X:Cx} {st:Stmt} {rest:List Stmt} {t u:TS} {e:Expr} {te:TE} {pos:Pos}
def tNext:TS:=λD σ H=>D.nx σ H
def tSeq (t u:TS):TS:=λD σ H=>t { D with nx:=u D } σ H
theorem aC:PSs X [] tNext:=λ_ _ σ H _ I h=>wpAny_execs_nil ⟨σ,H,I,h⟩
theorem ae (h1:PS X st t) (h2:PSs X rest u):PSs X (st::rest) (tSeq t u):=by
 intro pins s σ H D I h
 refine wpAny_execs_cons (thn (h1 pins s σ H { D with nx:=u D } I h) λf s1 q=>?_)
 cases f with
 | next=>
  obtain ⟨σ',H',I',q⟩:=q
  exact h2 pins s1 σ' H' D I' q
 | ret v=>exact q
 | brk=>exact q
 | cont=>exact q
theorem ah (h1:PS X st t):PSs X [st] t:=by
 intro pins s σ H D I h
 refine wpAny_execs_cons (thn (h1 pins s σ H D I h) λf s1 q=>?_)
 cases f with
 | next=>exact wpAny_execs_nil q
 | ret v=>exact q
 | brk=>exact q
 | cont=>exact q
theorem Inv.quiet {pins:List (Addr × Obj)} {σ:St} {H:Hp} {s:Shared} (I:Inv X pins σ H s):interactive X.env=false:=by simp [interactive,I.ok.kind]
def tDrop (te:TE):TS:=λD σ H=>te σ H λ_ H1=>D.nx σ H1
theorem gI (he:PE X e te) (hs:swapsWith e none pos.line X.env=pure false:=by rfl):PS X (.Expr e pos) (tDrop te):=by
 intro pins s σ H D I h
 exact wpAny_Expr_any (thn (he pins s σ H _ I h) λv s1 ⟨x,H1,I1,r1,q1⟩=>⟨σ,H1,I1,q1⟩) I.quiet hs
def tRet (te:TE):TS:=λD σ H=>te σ H D.rt
theorem ao (he:PE X e te):PS X (.Return (some e) pos) (tRet te):=by
 intro pins s σ H D I h
 exact wpAny_Return_some (thn (he pins s σ H _ I h) λv s1 ⟨x,H1,I1,r1,q1⟩=>⟨x,σ,H1,I1,r1,q1⟩)
def tIfS (c:TT) (t u:TS):TS:=λD σ H=>c σ H λb H1=>if b=true then t D σ H1 else u D σ H1
theorem aR {c:Expr} {a b:List Stmt} {tc:TT} (hc:PT X c tc) (ha:PSs X a t) (hb:PSs X b u):PS X (.If c a b pos) (tIfS tc t u):=by
 intro pins s σ H D I h
 refine wpAny_If (thn (hc pins s σ H _ I h) λd s1 ⟨H1,I1,q1⟩=>?_)
 cases d with
 | true=>exact ha pins s1 σ H1 D I1 q1
 | false=>exact hb pins s1 σ H1 D I1 q1
def tNever:TS:=λ_ _ _=>False
theorem ps_never:PS X st tNever:=λ_ _ _ _ _ _ h=>h.elim
end
abbrev TG:=V->St->Hp->(St->Hp->Prop)->Prop
abbrev TGs:=List V->St->Hp->(St->Hp->Prop)->Prop
def PG (X:Cx) (target:Expr) (t:TG):Prop:=
 ∀ (pins:List (Addr × Obj)) (s:Shared) (σ:St) (H:Hp) (v:V) (u:Value) (Q:St->Hp->Prop),Inv X pins σ H s->g7 v u->t v σ H Q->
  wpAny (model X.prog X.w) X.A (assign target X.env u) (λ_ s'=>∃ σ' H',Inv X pins σ' H' s'/\Q σ' H') X.xe s
def PGs (X:Cx) (ts:List Expr) (t:TGs):Prop:=
 ∀ (pins:List (Addr × Obj)) (s:Shared) (σ:St) (H:Hp) (vs:List V) (us:List Value) (Q:St->Hp->Prop),Inv X pins σ H s->g6 vs us->t vs σ H Q->
  wpAny (model X.prog X.w) X.A (assignInOrder ((assignEach ts X.env).map (·.2)) us) (λ_ s'=>∃ σ' H',Inv X pins σ' H' s'/\Q σ' H') X.xe s
abbrev TSet:=V->V->V->Hp->(Hp->Prop)->Prop
def PSet (X:Cx) (t:TSet):Prop:=
 ∀ (pins:List (Addr × Obj)) (s:Shared) (σ:St) (H:Hp) (o i v:V) (ov iv u:Value) (Q:Hp->Prop),Inv X pins σ H s->g7 o ov->g7 i iv->g7 v u->t o i v H Q->
  wpAny (model X.prog X.w) X.A (setItem ov iv u) (λ_ s'=>∃ H',Inv X pins σ H' s'/\Q H') X.xe s
section
variable {X:Cx} {pos:Pos}
def bi (i:Nat):TG:=λv σ H Q=>Q (σ.set i (some v)) H
theorem b9 {i:Nat} {x:Str} (hN:X.N.Nodup) (hi:X.N[i]? = some x) (hx:Loc X.env.scope x) (hf:X.fn x=true\/X.env.scope.names.lookup x=some .local:=by first | exact .inl rfl | exact .inr rfl | assumption):PG X (.Name x pos) (bi i):=by
 intro pins s σ H v u Q I r h
 exact wpAny_assign_Name (dw I hN hi hx r (λs' I'=>⟨_,H,I',h⟩) hf)
def gNil:TGs:=λvs σ H Q=>vs=[]/\Q σ H
def fK (t:TG) (u:TGs):TGs:=λvs σ H Q=>∃ v r,vs=v::r/\t v σ H λσ' H'=>u r σ' H' Q
theorem pgs_nil:PGs X [] gNil:=by
 intro pins s σ H vs us Q I r h
 obtain ⟨e,h⟩:=h
 subst e
 cases r
 exact assignInOrder_nil ⟨σ,H,I,h⟩
theorem pgs_cons {e:Expr} {es:List Expr} {t:TG} {u:TGs} (h1:PG X e t) (h2:PGs X es u)
  (hs:(assignEach (e::es) X.env).map (·.2)=assign e X.env::(assignEach es X.env).map (·.2):=by rfl):PGs X (e::es) (fK t u):=by
 intro pins s σ H vs us Q I r h
 obtain ⟨v,vr,e1,h⟩:=h
 subst e1
 cases r with
 | cons r rr=>
  rw [hs]
  refine assignInOrder_cons (thn (h1 pins s σ H _ _ _ I r h) λ_ s1 ⟨σ1,H1,I1,q1⟩=>?_)
  exact h2 pins s1 σ1 H1 _ _ Q I1 rr q1
def gTup (K:Frag) (n:Nat) (t:TGs):TG:=λv σ H Q=>∃ a xs,v=.ref a/\SqT K H a xs/\xs.length=n/\t xs σ H Q
theorem pg_tup {es:List Expr} {k:Nat} {t:TGs} {n:Nat} (hc:X.calm=true) (h:PGs X es t)
  (hn:(assignEach es X.env).length=n:=by rfl) (hst:(assignEach es X.env).findIdx? (·.1)=none:=by rfl):PG X (.Tuple es k pos) (gTup X.K n t):=by
 intro pins s σ H v u Q I r hw
 obtain ⟨a,xs,e1,hq,hl,hw⟩:=hw
 subst e1
 cases r
 obtain ⟨its,rv,ht,hz⟩:=I.tuple hq
 refine assign_Tuple_tuple (I.ok.hd hc) ht (by simp [hn,<- hl,rv.length]) hst λh' hx=>?_
 have I1:Inv X pins σ H { s with heap:=h' }:=I.kept (t':=s.toks) λb o e=>hx b o (Nat.ne_of_lt (lt_size e)) e
 exact h pins _ σ H xs _ Q I1 (by simpa using rv) hw
def gSub (to ti:TE) (t:TSet):TG:=λv σ H Q=>to σ H λo H1=>ti σ H1 λi H2=>t o i v H2 λH3=>Q σ H3
theorem pg_sub {o i:Expr} {to ti:TE} {t:TSet} (ho:PE X o to) (hi:PE X i ti) (hs:PSet X t)
  (ha:∀ v,assign (.Subscript o i pos) X.env v=(do
   let ov <- holding [v] (eval o X.env)
   let iv <- holding [v,ov] (eval i X.env)
   standAt pos
   holding [v,ov,iv] (setItem ov iv v)
   release [v,ov,iv] []):=by intro _; rfl):PG X (.Subscript o i pos) (gSub to ti t):=by
 intro pins s σ H v u Q I r h
 rw [ha]
 refine wpAny_bind (wpAny_holding (thn (ho pins s σ H _ I h) λov s1 ⟨x,H1,I1,r1,q1⟩=>?_))
 refine wpAny_bind (wpAny_holding (thn (hi pins s1 σ H1 _ I1 q1) λiv s2 ⟨y,H2,I2,r2,q2⟩=>?_))
 refine wpAny_bind (wpAny_standAt (wpAny_bind (wpAny_holding (thn (hs pins s2 σ H2 x y v ov iv u _ I2 r1 r2 r q2) λ_ s3 ⟨H3,I3,q3⟩=>?_))))
 exact wpAny_release ⟨σ,H3,I3,q3⟩
def tAsg (te:TE) (g:TG):TS:=λD σ H=>te σ H λx H1=>g x σ H1 D.nx
theorem ps_asg {tg e:Expr} {te:TE} {g:TG} (he:PE X e te) (hg:PG X tg g) (hs:swapsWithSole [tg] e pos.line X.env=pure false:=by rfl) (hw:swappedStores [tg] e X.env=pure none:=by rfl)
  (h1:(assignEach [tg] X.env).map (·.2)=[assign tg X.env]:=by rfl):PS X (.Assign [tg] e pos) (tAsg te g):=by
 intro pins s σ H D I h
 refine wpAny_Assign_stores (thn (he pins s σ H _ I h) λv s1 ⟨x,H1,I1,r1,q1⟩=>?_) hs hw
 rw [h1]
 exact thn (hg pins s1 σ H1 x v _ I1 r1 q1) λ_ s2 q=>q
theorem aq {i:Nat} {x:Str} {e:Expr} {te:TE} {pos':Pos} (hN:X.N.Nodup) (hi:X.N[i]? = some x) (hx:Loc X.env.scope x) (he:PE X e te) (hs:swapsWith e (some (.Name x pos')) pos.line X.env=pure false:=by rfl) (hf:X.fn x=true\/X.env.scope.names.lookup x=some .local:=by first | exact .inl rfl | exact .inr rfl | assumption) :
  PS X (.Assign [.Name x pos'] e pos) (tAsg te (bi i)):=by
 intro pins s σ H D I h
 refine wpAny_Assign_Name (thn (he pins s σ H _ I h) λv s1 ⟨y,H1,I1,r1,q1⟩=>?_) hs
 exact dw I1 hN hi hx r1 (λs2 I2=>⟨_,H1,I2,q1⟩) hf
def tPar (i j:Nat) (ta:TA):TS:=λD σ H=>ta σ H λvs H1=>∃ v w,vs=[v,w]/\D.nx ((σ.set i (some v)).set j (some w)) H1
theorem ps_par {i j:Nat} {x y:Str} {a b:Expr} {ta:TA} {px py pt:Pos} {kt k2 pt2} (hc:X.calm=true) (hN:X.N.Nodup) (hi:X.N[i]? = some x) (hj:X.N[j]? = some y) (hij:i ≠ j)
  (hx:X.env.scope.names.lookup x=some .local) (hy:X.env.scope.names.lookup y=some .local) (ha:PA X [a,b] ta)
  (hw:swappedStores [.Tuple [.Name x px,.Name y py] kt pt] (.Tuple [a,b] k2 pt2) X.env=pure (some [x,y]))
  (hs:swapsWithSole [.Tuple [.Name x px,.Name y py] kt pt] (.Tuple [a,b] k2 pt2) pos.line X.env=pure false:=by rfl) :
  PS X (.Assign [.Tuple [.Name x px,.Name y py] kt pt] (.Tuple [a,b] k2 pt2) pos) (tPar i j ta):=by
 intro pins s σ H D I h
 rw [exec_Assign_arm]
 refine wpAny_bind (wpAny_standAt ?_)
 rw [hs]
 refine wpAny_bind (wpAny_pure ?_)
 rw [if_neg (by decide)]
 refine wpAny_bind (Tuple_ (thn (ha _ pins s σ H _ I h) λus s1 ⟨vs,H1,I1,r1,q1⟩=>?_))
 obtain ⟨v,w,e1,q1⟩:=q1
 subst e1
 obtain ⟨u1,u2,rfl,rv,rw'⟩:∃ u1 u2,us=[u1,u2]/\g7 v u1/\g7 w u2:=by
  cases r1 with
  | cons p q=>
   cases q with
   | cons p' q'=>
    cases q'
    exact ⟨_,_,rfl,p,p'⟩
 refine wpAny_newObj_type ?_ (by show 2<=sizeLine; decide)
 have I2:Inv X pins σ H1 { s1 with heap:=s1.heap.push { cls:=.type "tuple",data:=.seq [u1,u2].toArray } }:=I1.kept (t':=s1.toks) λb o e=>get?_push_of_some _ e
 rw [hw]
 refine wpAny_bind (wpAny_pure ?_)
 show wpAny (model X.prog X.w) X.A (do rule "assign.swapped-stores"; let items <- unpackItems (.ref s1.heap.objs.size) 2 none; assignInOrder [λv=>bindName X.env y v,λv=>bindName X.env x v] items.reverse; pure Flow.next) _ _ _
 refine wpAny_bind (wpAny_rule (wpAny_bind (unpackItems_tuple (items:=#[u1,u2]) (I.ok.hd hc) (IsTup.new s1.heap _) λh' hx'=>?_)))
 have I3:=I2.kept (h':=h') (t':=s1.toks) λb o e=>hx' b o (Nat.ne_of_lt (lt_size e)) e
 show wpAny _ _ (assignInOrder [λv=>bindName X.env y v,λv=>bindName X.env x v] [u2,u1] >>= λ_=>pure Flow.next) _ _ _
 refine wpAny_bind (assignInOrder_cons (wpAny_bindName (dw I3 hN hj (.inl hy) rw' (λs2 I4=>?_) (.inr hy))))
 refine assignInOrder_cons (wpAny_bindName (dw I4 hN hi (.inl hx) rv (λs3 I5=>assignInOrder_nil (wpAny_pure ?_)) (.inr hx)))
 rw [List.set_comm _ _ (Ne.symm hij)] at I5
 exact ⟨_,H1,I5,q1⟩
end
section
variable {X:Cx} {pos:Pos}
def tWhile (c:TT) (tb:TS):TS:=λD σ H=>∃ W:Nat->St->Hp->Prop,(∃ m,W m σ H)/\∀ m σ H,W m σ H->
 c σ H λb H1=>if b=true then ∃ N:St->Hp->Prop,(∀ σ' H',N σ' H'->∃ m',m' < m/\W m' σ' H')/\tb { D with nx:=N,ct:=N,bk:=D.nx } σ H1 else D.nx σ H1
theorem dM {c:Expr} {body:List Stmt} {tc:TT} {tb:TS} (hp:PassesOwn (model X.prog X.w) X.A X.env X.xe) (hc:PT X c tc) (hb:PSs X body tb):PS X (.While c body [] pos) (tWhile tc tb):=by
 intro pins s σ H D I h
 obtain ⟨W,⟨m0,w0⟩,turn⟩:=h
 refine wpAny_While (codeAny_whileLoop (λn s'=>∃ σ' H',Inv X pins σ' H' s'/\W n σ' H') ?_ m0 ⟨σ,H,I,w0⟩)
 rintro n s1 ⟨σ1,H1,I1,w1⟩
 refine wpAny_passesOwn hp (thn (hc pins s1 σ1 H1 _ I1 (turn n σ1 H1 w1)) λb s2 ⟨H2,I2,q2⟩=>?_)
 cases b with
 | true=>
  obtain ⟨N,hN,q2⟩:=q2
  rw [if_pos rfl]
  refine wpAny_passesOwn hp (thn (hb pins s2 σ1 H2 _ I2 q2) λf s3 q3=>?_)
  cases f with
  | next=>
   obtain ⟨σ3,H3,I3,n3⟩:=q3
   obtain ⟨m',hm,w3⟩:=hN σ3 H3 n3
   exact ⟨m',hm,σ3,H3,I3,w3⟩
  | cont=>
   obtain ⟨σ3,H3,I3,n3⟩:=q3
   obtain ⟨m',hm,w3⟩:=hN σ3 H3 n3
   exact ⟨m',hm,σ3,H3,I3,w3⟩
  | brk=>exact q3
  | ret v=>exact q3
 | false=>
  rw [if_neg Bool.false_ne_true]
  exact wpAny_execs_nil ⟨σ1,H2,I2,q2⟩
end
structure It where
 go:Nat->Hp->Prop
 yld:Nat->Hp->V->Hp->Prop
 stop:Nat->Hp->Prop
def cH (X:Cx) (pins:List (Addr × Obj)) (H:Hp) (b:Addr):Prop:=
 H b=none/\b ≠ X.env.locals/\b ∉ X.fs/\(b ∈ X.ex\/X.s₀.heap.objs.size<=b)/\(∀ x c,X.env.cells.lookup x=some c->c ≠ b)/\∀ p ∈ X.pn++pins,p.1 ≠ b
theorem Inv.fpOk {X:Cx} {pins:List (Addr × Obj)} {σ:St} {H H':Hp} {s:Shared} {b:Addr} (I:Inv X pins σ H s) (hb:s.heap.objs.size<=b) (hn:H' b=none):cH X pins H' b:=by
 refine ⟨hn,Nat.ne_of_gt (Nat.lt_of_lt_of_le I.lt hb),I.nofs hb,.inr (Nat.le_trans I.sz hb),λx c e z=>?_,λp hp z=>?_⟩
 ·obtain ⟨v,q⟩:=I.cell x c e
  exact absurd (Nat.lt_of_lt_of_le q.lt (by rw [z]; exact hb)) (Nat.lt_irrefl _)
 ·exact absurd (Nat.lt_of_lt_of_le (lt_size (I.pin p hp).1) (by rw [z]; exact hb)) (Nat.lt_irrefl _)
structure Turn (P:Program) (w:World) (K:Frag) (tg:Expr) (J:It) (fp:List Addr) (it:Addr) (tn:Nat->Heap->Prop):Prop where
 mem:it ∈ fp
 obj:∀ i h,tn i h->∀ b ∈ fp,∃ o,h.get? b=some o/\∀ v,o.data ≠ .cell v
 keep:∀ i h h',tn i h->(∀ b ∈ fp,∀ o,h.get? b=some o->h'.get? b=some o)->tn i h'
 item:∀ (X:Cx),X.prog=P->X.w=w->X.K=K->X.calm=true->∀ (i:Nat) (pins:List (Addr × Obj)) (s:Shared) (σ:St) (H:Hp) (E:Value->Shared->Prop),Inv X pins σ H s->(∀ b ∈ fp,cH X pins H b)->tn i s.heap->J.go i H->
  wpAny (model P w) X.A (pyNext (.ref it)) (λr s1=>∃ u,r=some u/\
   wpAny (model P w) X.A (letOwnedTupleGo tg (.ref it) u) (λ_ s2=>∃ x H',Inv X pins σ H' s2/\g7 x u/\J.yld i H x H'/\tn (i+1) s2.heap/\∀ b ∈ fp,H' b=none) E s1) E s
 done:∀ (X:Cx),X.prog=P->X.w=w->X.K=K->X.calm=true->∀ (i:Nat) (pins:List (Addr × Obj)) (s:Shared) (σ:St) (H:Hp) (E:Value->Shared->Prop),Inv X pins σ H s->(∀ b ∈ fp,cH X pins H b)->tn i s.heap->J.stop i H->
  wpAny (model P w) X.A (pyNext (.ref it)) (λr s1=>r=none/\Inv X pins σ H s1) E s
 self:∀ (A:Around) (i:Nat) (s:Shared) (Q:Value->Shared->Prop) (E:Value->Shared->Prop),tn i s.heap->Q (.ref it) s->wpAny (model P w) A (pyIter (.ref it)) Q E s
abbrev TI:=St->Hp->(It->Hp->Prop)->Prop
def PIE (X:Cx) (pins:List (Addr × Obj)) (σ:St) (tg:Expr) (R:It->Hp->Prop) (itv:Value) (s2:Shared):Prop:=
 ∃ (it:Addr) (fp:List Addr) (tn:Nat->Heap->Prop) (J:It) (H':Hp),itv=.ref it/\Inv X pins σ H' s2/\Turn X.prog X.w X.K tg J fp it tn/\tn 0 s2.heap/\(∀ b ∈ fp,cH X pins H' b)/\R J H'
def PI (X:Cx) (tg iter:Expr) (wi:TI):Prop:=
 ∀ (pins:List (Addr × Obj)) (s:Shared) (σ:St) (H:Hp) (R:It->Hp->Prop),Inv X pins σ H s->wi σ H R->
  wpAny (model X.prog X.w) X.A (eval iter X.env) (λv s1=>wpAny (model X.prog X.w) X.A (pyIter v) (PIE X pins σ tg R) X.xe s1) X.xe s
theorem go_of {M:Model} {A:Around} {E:Value->Shared->Prop} {s:Shared} {tg:Expr} {it:Addr} {u:Value} {o:Obj} {n:String} {vs:Array Value} {Q:Unit->Shared->Prop} (ho:s.heap.get? it=some o) (hc:o.cls=.type n) (hd:o.data=.fields vs)
  (hn:["enumerate", "zip", "dict_itemiterator", "dict_reverseitemiterator", "odict_iterator", "itertools.zip_longest", "itertools.pairwise"].contains n=false) (hQ:Q () s):wpAny M A (letOwnedTupleGo tg (.ref it) u) Q E s:=by
 unfold letOwnedTupleGo
 cases tg<;>first
  | exact wpAny_pure hQ
  | (cases u<;>first
    | exact wpAny_pure hQ
    | (refine wpAny_bind (wpAny_load ho ?_)
       rw [hc,hd]
       show wpAny M A (if (["enumerate", "zip", "dict_itemiterator", "dict_reverseitemiterator", "odict_iterator", "itertools.zip_longest", "itertools.pairwise"].contains n && vs[0]? == some (rawInt _))=true then _ else _) Q E s
       rw [if_neg (by intro h; rw [hn,Bool.false_and] at h; cases h)]
       exact wpAny_pure hQ))
def Itl (K:Frag) (a:Addr):It:=
 ⟨λi H=>∃ xs x,SqL K H a xs/\xs[i]? = some x,λi H x H'=>H'=H/\∀ xs,SqL K H a xs->xs[i]? = some x,λi H=>∃ xs,SqL K H a xs/\xs.length<=i⟩
def Itr (lo:Int) (n:Nat):It:=⟨λi _=>i<n,λi H x H'=>H'=H/\x=.int (lo+i),λi _=>n<=i⟩
theorem turn_list {P:Program} {w:World} {K:Frag} {tg:Expr} (a it:Addr):Turn P w K tg (Itl K a) [it] it (λi h=>h.IsListIter it a i) where
 mem:=by simp
 obj:=λi h st b hb=>by
  have e:b=it:=by simpa using hb
  subst e
  obtain ⟨o,e,c,d⟩:=st
  exact ⟨o,e,λv z=>by rw [d] at z; cases z⟩
 keep:=λi h h' st k=>st.at λo e=>k it (by simp) o e
 item:=by
  intro X hP hw hK hc i pins s σ H E I hf st hg
  subst hP hw hK
  obtain ⟨xs,x,hq,hx⟩:=hg
  obtain ⟨its,rv,p,hz⟩:=I.list hq
  obtain ⟨u,hu,ru⟩:=rv.get hx
  obtain ⟨f0,f1,f2,f3,f4,f5⟩:=hf it (by simp)
  refine wpAny_pyNext_list_item st p.isList (x:=u) (by simpa using hu) λh' st' sb=>?_
  have I1:Inv X pins σ H { s with heap:=h' }:=I.turned (t':=s.toks) (λb o hb e=>(sb.2 b hb).trans e) f0 f1 f3 f4 f5
  obtain ⟨o,e,c,d⟩:=id st'
  exact ⟨u,rfl,go_of (s:={ s with heap:=h' }) e c d (by decide) ⟨x,H,I1,ru,⟨rfl,λys hy=>by rw [I.list_inj hy hq]; exact hx⟩,st',λb hb=>(hf b hb).1⟩⟩
 done:=by
  intro X hP hw hK hc i pins s σ H E I hf st hg
  subst hP hw hK
  obtain ⟨xs,hq,hx⟩:=hg
  obtain ⟨its,rv,p,hz⟩:=I.list hq
  obtain ⟨f0,f1,f2,f3,f4,f5⟩:=hf it (by simp)
  have hl:=rv.length
  exact wpAny_pyNext_list_end (I.ok.hd hc) st p.isList (by simp; omega) λh' eb=>⟨rfl,I.turned (t':=s.toks) (λb o hb e=>eb b o hb e) f0 f1 f3 f4 f5⟩
 self:=λ_ _ _ _ _ st h=>wpAny_pyIter_listiter st h
theorem turn_range {P:Program} {w:World} {K:Frag} {tg:Expr} (it:Addr) (lo:Int) (n:Nat):Turn P w K tg (Itr lo n) [it] it (λi h=>IsRangeIter h it (lo+(i:Nat)*1) ((n:Int)-(i:Nat)) 1) where
 mem:=by simp
 obj:=λi h st b hb=>by
  have e:b=it:=by simpa using hb
  subst e
  exact ⟨_,st,λv z=>by
   have z':Data.fields _=Data.cell v:=z
   cases z'⟩
 keep:=λi h h' st k=>k it (by simp) _ st
 item:=by
  intro X hP hw hK hc i pins s σ H E I hf st hg
  subst hP hw hK
  obtain ⟨f0,f1,f2,f3,f4,f5⟩:=hf it (by simp)
  have W:=Walks.range (prog:=X.prog) (w:=X.w) (I.ok.hd hc) it lo 1 n
  refine W.item i s _ _ hg st λv h' tk hv st' kk=>?_
  obtain ⟨t,rfl⟩:=hv
  have I1:Inv X pins σ H { s with heap:=h',toks:=tk }:=I.turned (λb o hb e=>kk b o (by simpa using hb) e) f0 f1 f3 f4 f5
  refine ⟨_,rfl,go_of (s:={ s with heap:=h',toks:=tk }) (n := "range_iterator") st' rfl rfl (by decide) ⟨.int (lo+i),H,I1,⟨t,?_⟩,⟨rfl,rfl⟩,st',λb hb=>(hf b hb).1⟩⟩
  rw [Int.mul_one]
 done:=by
  intro X hP hw hK hc i pins s σ H E I hf st hg
  subst hP hw hK
  obtain ⟨f0,f1,f2,f3,f4,f5⟩:=hf it (by simp)
  exact wpAny_pyNext_range_end (I.ok.hd hc) st (by have:n<=i:=hg; omega) λh' eb=>⟨rfl,I.turned (t':=s.toks) (λb o hb e=>eb b o hb e) f0 f1 f3 f4 f5⟩
 self:=λ_ _ _ _ _ st h=>wpAny_pyIter_rangeiter st h
section
variable {X:Cx} {tg:Expr}
def iList (K:Frag) (tl:TE):TI:=λσ H R=>tl σ H λx H1=>∃ a,x=.ref a/\(∃ xs,SqL K H1 a xs)/\R (Itl K a) H1
theorem pi_list {l:Expr} {tl:TE} (hl:PE X l tl):PI X tg l (iList X.K tl):=by
 intro pins s σ H R I h
 refine thn (hl pins s σ H _ I h) λv s1 ⟨x,H1,I1,r1,q1⟩=>?_
 obtain ⟨a,e,⟨xs,hq⟩,q⟩:=q1
 subst e
 cases r1
 obtain ⟨its,rv,p,hz⟩:=I1.list hq
 refine wpAny_pyIter_list p.isList ?_
 refine ⟨s1.heap.objs.size,[s1.heap.objs.size],_,_,H1,rfl,I1.kept (t':=s1.toks) λb o e=>get?_push_of_some _ e,turn_list a _,⟨_,get?_push_size _ rfl,rfl,rfl⟩,λb hb=>?_,q⟩
 have e:b=s1.heap.objs.size:=by simpa using hb
 subst e
 exact I1.fpOk (Nat.le_refl _) (I1.hok.fresh (Nat.le_refl _))
theorem range_it {pins:List (Addr × Obj)} {σ:St} {H:Hp} {s:Shared} {R:It->Hp->Prop} {E:Value->Shared->Prop} {lo hi:Int} {t u v:Tok} {tk:Nat} (I:Inv X pins σ H s) (h1:-(2 ^ 62)<=lo) (h2:lo<2 ^ 62) (h3:-(2 ^ 62)<=hi) (h4:hi<2 ^ 62)
  (q:R (Itr lo (hi-lo).toNat) H):wpAny (model X.prog X.w) X.A (pyIter (.ref s.heap.objs.size)) (PIE X pins σ tg R) E { s with heap:=s.heap.push { cls:=.type "range",data:=.fields #[.int lo t,.int hi u,.int 1 v] },toks:=tk }:=by
 refine wpAny_pyIter_range (IsRange.new ..) (small_one h1 h2 h3 h4) ?_
 have I1:Inv X pins σ H { s with heap:=s.heap.push { cls:=.type "range",data:=.fields #[.int lo t,.int hi u,.int 1 v] },toks:=tk }:=I.kept λb o e=>get?_push_of_some _ e
 refine ⟨(s.heap.push { cls:=.type "range",data:=.fields #[.int lo t,.int hi u,.int 1 v] }).objs.size,[(s.heap.push { cls:=.type "range",data:=.fields #[.int lo t,.int hi u,.int 1 v] }).objs.size],_,_,H,rfl,
  I1.kept (t':=tk) λb o e=>get?_push_of_some _ e,turn_range _ lo (hi-lo).toNat,?_,λb hb=>?_,q⟩
 ·have e1:lo+((0:Nat):Int)*1=lo:=by simp
  have e2:(((hi-lo).toNat:Nat):Int)-((0:Nat):Int)=Builtin.Range.rangeSize lo hi 1:=by rw [rangeSize_one]; split<;>omega
  show IsRangeIter _ _ (lo+((0:Nat):Int)*1) ((((hi-lo).toNat:Nat):Int)-((0:Nat):Int)) 1
  rw [e1,e2]
  exact get?_push_size _ rfl
 ·have e:b=(s.heap.push { cls:=.type "range",data:=.fields #[.int lo t,.int hi u,.int 1 v] }).objs.size:=by simpa using hb
  subst e
  exact I1.fpOk (Nat.le_refl _) (I1.hok.fresh (Nat.le_refl _))
def iRng1 (ta:TA):TI:=λσ H R=>ta σ H λvs H1=>∃ j:Int,vs=[.int j]/\-(2 ^ 62)<=j/\j<2 ^ 62/\R (Itr 0 j.toNat) H1
def iRng2 (ta:TA):TI:=λσ H R=>ta σ H λvs H1=>∃ i j:Int,vs=[.int i,.int j]/\(-(2 ^ 62)<=i/\i<2 ^ 62/\-(2 ^ 62)<=j/\j<2 ^ 62)/\R (Itr i (j-i).toNat) H1
theorem bE {a:Expr} {ta:TA} {p pos:Pos} (hg:Gl X "range") (hm:X.mg "range" = none) (ha:PA X [a] ta) (hs:starEach [a] X.env=[(false,eval a X.env)]:=by rfl):PI X tg (.Call (.Name "range" p) [a] [] pos) (iRng1 ta):=by
 intro pins s σ H R I h
 refine Call_ (dg I hg hm boot_range (PyProof.Rows.callWith_type1 (thn (ha pos pins s σ H _ I h) λus s1 ⟨vs,H1,I1,r1,q1⟩=>?_) hs rfl))
 obtain ⟨j,e,q1,q2,q⟩:=q1
 subst e
 cases r1 with
 | cons r rr=>
  cases rr
  obtain ⟨t,rfl⟩:=r
  exact call_range_1 (range_it I1 (by omega) (by omega) q1 q2 (by simpa using q))
theorem pi_range2 {a b:Expr} {ta:TA} {p pos:Pos} (hg:Gl X "range") (hm:X.mg "range" = none) (ha:PA X [a,b] ta) (hs:starEach [a,b] X.env=[(false,eval a X.env),(false,eval b X.env)]:=by rfl) (hs2:starEach [b] X.env=[(false,eval b X.env)]:=by rfl) :
  PI X tg (.Call (.Name "range" p) [a,b] [] pos) (iRng2 ta):=by
 intro pins s σ H R I h
 refine Call_ (dg I hg hm boot_range (PyProof.Rows.callWith_type1 (thn (ha pos pins s σ H _ I h) λus s1 ⟨vs,H1,I1,r1,q1⟩=>?_) (by rw [hs,hs2]) (by rw [hs2]; rfl)))
 obtain ⟨i,j,e,⟨q1,q2,q3,q4⟩,q⟩:=q1
 subst e
 cases r1 with
 | cons r rr=>
  cases rr with
  | cons r' rr=>
   cases rr
   obtain ⟨t,rfl⟩:=r
   obtain ⟨t',rfl⟩:=r'
   exact call_range_2 (range_it I1 q1 q2 q3 q4 q)
def tFor (wi:TI) (g:TG) (tb:TS):TS:=λD σ H=>wi σ H λJ H1=>∃ W:Nat->Nat->St->Hp->Prop,(∃ m,W 0 m σ H1)/\∀ i m σ H,W i m σ H->
 (J.stop i H/\D.nx σ H)\/(J.go i H/\∃ N:St->Hp->Prop,(∀ σ' H',N σ' H'->∃ m',m' < m/\W (i+1) m' σ' H')/\∀ x H',J.yld i H x H'->g x σ H' λσ2 H2=>tb { D with nx:=N,ct:=N,bk:=D.nx } σ2 H2)
def eE (fp:List Addr) (h:Heap):List (Addr × Obj):=fp.filterMap λb=>(h.get? b).map λo=>(b,o)
theorem bD {fp:List Addr} {h:Heap} {b:Addr} {o:Obj} (hb:b ∈ fp) (e:h.get? b=some o):(b,o) ∈ eE fp h:=List.mem_filterMap.mpr ⟨b,hb,by rw [e]; rfl⟩
theorem of_pinsAt {fp:List Addr} {h:Heap} {p:Addr × Obj} (hp:p ∈ eE fp h):p.1 ∈ fp/\h.get? p.1=some p.2:=by
 obtain ⟨b,hb,e⟩:=List.mem_filterMap.mp hp
 cases q:h.get? b with
 | none=>rw [q] at e; cases e
 | some o=>
  rw [q] at e
  have e':(b,o)=p:=Option.some.inj e
  subst e'
  exact ⟨hb,q⟩
theorem Inv.pinned {pins:List (Addr × Obj)} {σ:St} {H:Hp} {s:Shared} {fp:List Addr} (I:Inv X pins σ H s) (hf:∀ b ∈ fp,cH X pins H b) (ho:∀ b ∈ fp,∃ o,s.heap.get? b=some o/\∀ v,o.data ≠ .cell v):Inv X (pins++eE fp s.heap) σ H s:=
 I.pins_of λp hp=>(List.mem_append.mp hp).elim (λz=>I.pin p (mem_append_right _ z)) λz=>by
  obtain ⟨hb,e⟩:=of_pinsAt z
  obtain ⟨f0,f1,f2,_⟩:=hf p.1 hb
  obtain ⟨o,e',d⟩:=ho p.1 hb
  rw [e] at e'; cases e'
  exact ⟨e,f0,f1,f2,d⟩
theorem Inv.unpinned {pins pl:List (Addr × Obj)} {σ:St} {H:Hp} {s:Shared} (I:Inv X (pins++pl) σ H s):Inv X pins σ H s:=I.pins_of λp hp=>I.pin p (mem_append_right _ (List.mem_append_left _ hp))
theorem cG {iter:Expr} {body:List Stmt} {wi:TI} {g:TG} {tb:TS} {pos:Pos} (hp:PassesOwn (model X.prog X.w) X.A X.env X.xe) (hc:X.calm=true) (hi:PI X tg iter wi) (hg:PG X tg g) (hb:PSs X body tb)
  (hs:∀ x,foldedSetIterable iter X.env x=pure x:=by intro _; rfl):PS X (.For tg iter body [] pos) (tFor wi g tb):=by
 intro pins s σ H D I h
 refine wpAny_For (thn (hi pins s σ H _ I h) λv s1 h1=>thn h1 λitv s2 h2=>?_) hs
 obtain ⟨it,fp,tn,J,H2,e,I2,T,st2,f2,W,⟨m0,w0⟩,turn⟩:=h2
 subst e
 have stat:∀ {H':Hp},(∀ b ∈ fp,H' b=none)->∀ b ∈ fp,cH X pins H' b:=λhn b hb=>⟨hn b hb,(f2 b hb).2⟩
 refine codeAny_forLoop_any (λn s'=>∃ i σ' H',Inv X pins σ' H' s'/\tn i s'.heap/\(∀ b ∈ fp,H' b=none)/\W i n σ' H') ?_ m0 ⟨0,σ,H2,I2,st2,λb hb=>(f2 b hb).1,w0⟩
 rintro n s3 ⟨i,σ3,H3,I3,st3,fr3,w3⟩
 rcases turn i n σ3 H3 w3 with ⟨stop,qn⟩ | ⟨go,N,hN,step⟩
 ·refine wpAny_passesOwn hp (thn (T.done X rfl rfl rfl hc i pins s3 σ3 H3 X.xe I3 (stat fr3) st3 stop) λr s4 ⟨hr,I4⟩=>?_)
  subst hr
  exact wpAny_execs_nil ⟨σ3,H3,I4,qn⟩
 ·refine wpAny_passesOwn hp (thn (T.item X rfl rfl rfl hc i pins s3 σ3 H3 X.xe I3 (stat fr3) st3 go) λr s4 ⟨u,hr,h4⟩=>?_)
  subst hr
  refine wpAny_passesOwn hp (thn h4 λ_ s5 ⟨x,H5,I5,r5,y5,st5,fr5⟩=>?_)
  have I5':=I5.pinned (stat fr5) (T.obj _ _ st5)
  refine wpAny_passesOwn hp (thn (hg _ s5 σ3 H5 x u _ I5' r5 (step x H5 y5)) λ_ s6 ⟨σ6,H6,I6,q6⟩=>?_)
  refine wpAny_passesOwn hp (thn (hb _ s6 σ6 H6 _ I6 q6) λf s7 q7=>?_)
  have again:∀ {σ7:St} {H7:Hp},Inv X (pins++eE fp s5.heap) σ7 H7 s7->N σ7 H7->∃ m,m<n/\∃ i σ' H',Inv X pins σ' H' s7/\tn i s7.heap/\(∀ b ∈ fp,H' b=none)/\W i m σ' H':=λ{σ7 H7} I7 n7=>by
   obtain ⟨m',hm,w7⟩:=hN σ7 H7 n7
   refine ⟨m',hm,i+1,σ7,H7,I7.unpinned,T.keep _ _ _ st5 λb hb o e=>(I7.pin (b,o) (mem_append_right _ (mem_append_right _ (bD hb e)))).1,λb hb=>?_,w7⟩
   obtain ⟨o,e,d⟩:=T.obj _ _ st5 b hb
   exact (I7.pin (b,o) (mem_append_right _ (mem_append_right _ (bD hb e)))).2.1
  cases f with
  | next=>obtain ⟨σ7,H7,I7,n7⟩:=q7; exact again I7 n7
  | cont=>obtain ⟨σ7,H7,I7,n7⟩:=q7; exact again I7 n7
  | brk=>obtain ⟨σ7,H7,I7,q7⟩:=q7; exact ⟨σ7,H7,I7.unpinned,q7⟩
  | ret v=>obtain ⟨x7,σ7,H7,I7,r7,q7⟩:=q7; exact ⟨x7,σ7,H7,I7.unpinned,r7,q7⟩
end
theorem for_list {K:Frag} {a:Addr} {xs:List V} {g:TG} {tb:TS} {D:eP} {σ:St} {H:Hp} (Pv:Nat->St->Hp->Prop) (h0:Pv 0 σ H) (hl:∀ i σ H,i<=xs.length->Pv i σ H->SqL K H a xs)
  (hs:∀ i x σ H,xs[i]? = some x->Pv i σ H->g x σ H λσ2 H2=>tb { D with nx:=Pv (i+1),ct:=Pv (i+1),bk:=D.nx } σ2 H2) (hd:∀ σ H,Pv xs.length σ H->D.nx σ H) :
  ∃ W:Nat->Nat->St->Hp->Prop,(∃ m,W 0 m σ H)/\∀ i m σ H,W i m σ H->
   ((Itl K a).stop i H/\D.nx σ H)\/((Itl K a).go i H/\∃ N:St->Hp->Prop,(∀ σ' H',N σ' H'->∃ m',m' < m/\W (i+1) m' σ' H')/\∀ x H',(Itl K a).yld i H x H'->g x σ H' λσ2 H2=>tb { D with nx:=N,ct:=N,bk:=D.nx } σ2 H2):=by
 refine ⟨λi m σ H=>m=xs.length-i/\i<=xs.length/\Pv i σ H,⟨xs.length,by simp,Nat.zero_le _,h0⟩,?_⟩
 rintro i m σ H ⟨rfl,hi,p⟩
 have q:=hl i σ H hi p
 by_cases hlt:i<xs.length
 ·refine .inr ⟨⟨xs,xs[i],q,by simp [hlt]⟩,Pv (i+1),λσ' H' p'=>⟨xs.length-(i+1),by omega,rfl,hlt,p'⟩,λx H' y=>?_⟩
  obtain ⟨e,y⟩:=y
  subst e
  exact hs i x σ _ (y xs q) p
 ·have e:i=xs.length:=by omega
  subst e
  exact .inl ⟨⟨xs,q,Nat.le_refl _⟩,hd σ H p⟩
theorem gr {lo:Int} {n:Nat} {g:TG} {tb:TS} {D:eP} {σ:St} {H:Hp} (Pv:Nat->St->Hp->Prop) (h0:Pv 0 σ H)
  (hs:∀ i σ H,i<n->Pv i σ H->g (.int (lo+i)) σ H λσ2 H2=>tb { D with nx:=Pv (i+1),ct:=Pv (i+1),bk:=D.nx } σ2 H2) (hd:∀ σ H,Pv n σ H->D.nx σ H) :
  ∃ W:Nat->Nat->St->Hp->Prop,(∃ m,W 0 m σ H)/\∀ i m σ H,W i m σ H->
   ((Itr lo n).stop i H/\D.nx σ H)\/((Itr lo n).go i H/\∃ N:St->Hp->Prop,(∀ σ' H',N σ' H'->∃ m',m' < m/\W (i+1) m' σ' H')/\∀ x H',(Itr lo n).yld i H x H'->g x σ H' λσ2 H2=>tb { D with nx:=N,ct:=N,bk:=D.nx } σ2 H2):=by
 refine ⟨λi m σ H=>m=n-i/\i<=n/\Pv i σ H,⟨n,by simp,Nat.zero_le _,h0⟩,?_⟩
 rintro i m σ H ⟨rfl,hi,p⟩
 by_cases hlt:i<n
 ·refine .inr ⟨hlt,Pv (i+1),λσ' H' p'=>⟨n-(i+1),by omega,rfl,hlt,p'⟩,λx H' y=>?_⟩
  obtain ⟨e,y⟩:=y
  subst e y
  exact hs i σ _ hlt p
 ·have e:i=n:=by omega
  subst e
  exact .inl ⟨Nat.le_refl _,hd σ H p⟩
theorem dW {c:TT} {tb:TS} {D:eP} {σ:St} {H:Hp} (Pv:St->Hp->Prop) (μ:St->Hp->Nat) (h0:Pv σ H)
  (hs:∀ σ H,Pv σ H->c σ H λb H1=>if b=true then tb { D with nx:=λσ' H'=>Pv σ' H'/\μ σ' H' < μ σ H,ct:=λσ' H'=>Pv σ' H'/\μ σ' H' < μ σ H,bk:=D.nx } σ H1 else D.nx σ H1)
  (mono:∀ σ H Q Q',(∀ b H1,Q b H1->Q' b H1)->c σ H Q->c σ H Q'):tWhile c tb D σ H:=by
 refine ⟨λm σ H=>m=μ σ H/\Pv σ H,⟨_,rfl,h0⟩,?_⟩
 rintro m σ H ⟨rfl,p⟩
 refine mono σ H _ _ (λb H1 q=>?_) (hs σ H p)
 cases b with
 | true=>exact ⟨_,λσ' H' ⟨p',l⟩=>⟨_,l,rfl,p'⟩,q⟩
 | false=>exact q
abbrev R2:=V->V->Hp->VK->Prop
def OpR (X:Cx) (f:Value->Value->Sem Value) (r:R2):Prop:=
 ∀ (pins:List (Addr × Obj)) (s:Shared) (σ:St) (H:Hp) (x y:V) (v u:Value) (Q:VK),Inv X pins σ H s->g7 x v->g7 y u->r x y H Q->
  wpAny (model X.prog X.w) X.A (f v u) (EP X pins σ Q) X.xe s
def UnR (X:Cx) (f:Value->Sem Value) (r:V->Hp->VK->Prop):Prop:=
 ∀ (pins:List (Addr × Obj)) (s:Shared) (σ:St) (H:Hp) (x:V) (v:Value) (Q:VK),Inv X pins σ H s->g7 x v->r x H Q->
  wpAny (model X.prog X.w) X.A (f v) (EP X pins σ Q) X.xe s
def dc (X:Cx) (f:Value) (r:List V->Hp->VK->Prop):Prop:=
 ∀ (pins:List (Addr × Obj)) (s:Shared) (σ:St) (H:Hp) (xs:List V) (us:List Value) (Q:VK),Inv X pins σ H s->g6 xs us->r xs H Q->
  wpAny (model X.prog X.w) X.A (call f us) (EP X pins σ Q) X.xe s
def tOp (r:R2) (ta tb:TE):TE:=λσ H Q=>ta σ H λx H1=>tb σ H1 λy H2=>r x y H2 Q
def tUn (r:V->Hp->VK->Prop) (ta:TE):TE:=λσ H Q=>ta σ H λx H1=>r x H1 Q
def rI (C:Int->Int->Prop) (g:Int->Int->V):R2:=λx y H Q=>∃ i j,x=.int i/\y=.int j/\C i j/\Q (g i j) H
def rI0 (g:Int->Int->V):R2:=λx y H Q=>∃ i j,x=.int i/\y=.int j/\Q (g i j) H
def rU (g:Int->V):V->Hp->VK->Prop:=λx H Q=>∃ i,x=.int i/\Q (g i) H
section
variable {X:Cx} {a b c:Expr} {ta tb tc:TE} {pos:Pos}
theorem binT (ha:PE X a ta) (hb:PE X b tb) {pins:List (Addr × Obj)} {s:Shared} {σ:St} {H:Hp} {R:V->V->Hp->Prop} (I:Inv X pins σ H s)
  (h:ta σ H λx H1=>tb σ H1 λy H2=>R x y H2) {Q:Value->Shared->Prop} {f:Value->Value->Sem Value}
  (hf:∀ v u s2 x y H2,Inv X pins σ H2 s2->g7 x v->g7 y u->R x y H2->wpAny (model X.prog X.w) X.A (f v u) Q X.xe s2) :
  wpAny (model X.prog X.w) X.A (eval a X.env) (λv s₁=>wpAny (model X.prog X.w) X.A (eval b X.env) (λu s₂=>wpAny (model X.prog X.w) X.A (f v u) Q X.xe s₂) X.xe s₁) X.xe s:=by
 refine thn (ha pins s σ H _ I h) λv s1 ⟨x,H1,I1,r1,q1⟩=>?_
 refine thn (hb pins s1 σ H1 _ I1 q1) λu s2 ⟨y,H2,I2,r2,q2⟩=>?_
 exact hf v u s2 x y H2 I2 r1 r2 q2
theorem ai {op:Operator} {r:R2} (ho:OpR X (binaryOp op) r) (ha:PE X a ta) (hb:PE X b tb):PE X (.BinOp a op b pos) (tOp r ta tb):=by
 intro pins s σ H Q I h
 exact wpAny_BinOp (binT ha hb I h λv u s2 x y H2 I2 rx ry q=>ho pins s2 σ H2 x y v u Q I2 rx ry q)
theorem pe_un {op:UnaryOp} {r:V->Hp->VK->Prop} (ho:UnR X (unaryOp op) r) (ha:PE X a ta):PE X (.UnaryOp op a pos) (tUn r ta):=by
 intro pins s σ H Q I h
 exact UnaryOp_ (thn (ha pins s σ H _ I h) λv s1 ⟨x,H1,I1,r1,q1⟩=>ho pins s1 σ H1 x v Q I1 r1 q1)
theorem opI {f:Value->Value->Sem Value} {C:Int->Int->Prop} {g:Int->Int->Int}
  (rule:∀ (i j:Int) (t u:Tok) (s:Shared) (Q:Value->Shared->Prop) (E:Value->Shared->Prop),C i j->Q (.int (g i j) s.toks) { s with toks:=s.toks+1 }->wpAny (model X.prog X.w) X.A (f (.int i t) (.int j u)) Q E s) :
  OpR X f (rI C λi j=>.int (g i j)):=by
 intro pins s σ H x y v u Q I rx ry h
 obtain ⟨i,j,rfl,rfl,hc,q⟩:=h
 obtain ⟨t,rfl⟩:=rx
 obtain ⟨t',rfl⟩:=ry
 exact rule i j t t' s _ _ hc ⟨.int (g i j),H,I.tok _,⟨_,rfl⟩,q⟩
theorem opI0 {f:Value->Value->Sem Value} {g:Int->Int->Int}
  (rule:∀ (i j:Int) (t u:Tok) (s:Shared) (Q:Value->Shared->Prop) (E:Value->Shared->Prop),Q (.int (g i j) s.toks) { s with toks:=s.toks+1 }->wpAny (model X.prog X.w) X.A (f (.int i t) (.int j u)) Q E s) :
  OpR X f (rI0 λi j=>.int (g i j)):=by
 intro pins s σ H x y v u Q I rx ry h
 obtain ⟨i,j,rfl,rfl,q⟩:=h
 obtain ⟨t,rfl⟩:=rx
 obtain ⟨t',rfl⟩:=ry
 exact rule i j t t' s _ _ ⟨.int (g i j),H,I.tok _,⟨_,rfl⟩,q⟩
theorem opB0 {f:Value->Value->Sem Value} {g:Int->Int->Bool}
  (rule:∀ (i j:Int) (t u:Tok) (s:Shared) (Q:Value->Shared->Prop) (E:Value->Shared->Prop),Q (.bool (g i j)) s->wpAny (model X.prog X.w) X.A (f (.int i t) (.int j u)) Q E s) :
  OpR X f (rI0 λi j=>.bl (g i j)):=by
 intro pins s σ H x y v u Q I rx ry h
 obtain ⟨i,j,rfl,rfl,q⟩:=h
 obtain ⟨t,rfl⟩:=rx
 obtain ⟨t',rfl⟩:=ry
 exact rule i j t t' s _ _ ⟨.bl (g i j),H,I,rfl,q⟩
def CPow (i j:Int):Prop:=0<=j/\j<=1000000/\i.natAbs<2 ^ 64
def CMul (i j:Int):Prop:=(-(2 ^ 64)<i/\i<2 ^ 64)\/(-(2 ^ 64)<j/\j<2 ^ 64)
theorem CMul.ok {i j:Int} (h:CMul i j):IntMulOk i j:=by
 rcases h with ⟨h1,h2⟩ | ⟨h1,h2⟩
 ·exact .of_left (intBits_le_64 h1 h2)
 ·exact .of_right (intBits_le_64 h1 h2)
theorem two_pow_nn (k:Nat):(0:Int)<=2 ^ k:=by
 rw [two_pow_cast]
 exact Int.natCast_nonneg _
theorem bb:OpR X (binaryOp .Add) (rI0 λi j=>.int (i+j)):=opI0 λ_ _ _ _ _ _ _ q=>add_int q
theorem bA:OpR X (binaryOp .Sub) (rI0 λi j=>.int (i-j)):=opI0 λ_ _ _ _ _ _ _ q=>sub_int q
theorem aW:OpR X (binaryOp .Mult) (rI CMul λi j=>.int (i*j)):=opI λ_ _ _ _ _ _ _ hc q=>mul_int q hc.ok
theorem aV:OpR X (binaryOp .Mod) (rI (λ_ j=>0<j) λi j=>.int (i % j)):=opI λi j _ _ _ _ _ hc q=>by
 have h1:(0:Int)<j:=hc
 exact mod_int' (by omega) (by rw [Int.fmod_eq_emod_of_nonneg i (by omega)]; exact q)
theorem cj:OpR X (binaryOp .Pow) (rI CPow λi j=>.int (i ^ j.toNat)):=opI λ_ _ _ _ _ _ _ hc q=>pow_int_small hc.1 hc.2.1 hc.2.2 q
theorem op_shr:OpR X (binaryOp .RShift) (rI (λ_ j=>0<=j) λi j=>.int (i / 2 ^ j.toNat)):=opI λi j _ _ _ _ _ hc q=>
 rshift_int hc (by rw [Int.fdiv_eq_ediv_of_nonneg i (two_pow_nn _)]; exact q)
theorem op_and:OpR X (binaryOp .BitAnd) (rI0 λi j=>.int (Builtin.bitAnd i j)):=opI0 λ_ _ _ _ _ _ _ q=>and_int q
theorem unI {f:Value->Sem Value} {g:Int->Int}
  (rule:∀ (i:Int) (t:Tok) (s:Shared) (Q:Value->Shared->Prop) (E:Value->Shared->Prop),Q (.int (g i) s.toks) { s with toks:=s.toks+1 }->wpAny (model X.prog X.w) X.A (f (.int i t)) Q E s) :
  UnR X f (rU λi=>.int (g i)):=by
 intro pins s σ H x v Q I rx h
 obtain ⟨i,rfl,q⟩:=h
 obtain ⟨t,rfl⟩:=rx
 exact rule i t s _ _ ⟨.int (g i),H,I.tok _,⟨_,rfl⟩,q⟩
theorem un_neg:UnR X (unaryOp .USub) (rU λi=>.int (-i)):=unI λ_ _ _ _ _ q=>neg_int q
end
def scal:V->V->Bool
 | .non,.non=>true | .non,.int _=>true | .int _,.non=>true | .non,.bl _=>true | .bl _,.non=>true | .non,.str _=>true | .str _,.non=>true
 | .int _,.int _=>true | .bl _,.bl _=>true | .str _,.str _=>true | .byt _,.byt _=>true
 | .int _,.str _=>true | .str _,.int _=>true | .bl _,.str _=>true | .str _,.bl _=>true
 | _,_=>false
def rEq:R2:=λx y H Q=>scal x y=true/\Q (.bl (decide (x=y))) H
def rNe:R2:=λx y H Q=>scal x y=true/\Q (.bl (!decide (x=y))) H
theorem dec_int {i j:Int}:decide (V.int i=V.int j)=(i == j):=by
 rw [Bool.eq_iff_iff]
 simp
theorem dec_bl {i j:Bool}:decide (V.bl i=V.bl j)=(i == j):=by
 rw [Bool.eq_iff_iff]
 simp
theorem dec_str {i j:Str}:decide (V.str i=V.str j)=(i == j):=by
 rw [Bool.eq_iff_iff]
 simp
theorem dec_byt {i j:Array UInt8}:decide (V.byt i=V.byt j)=(i.toList == j.toList):=by
 rw [Bool.eq_iff_iff]
 cases i
 cases j
 simp
section
variable {X:Cx} {a b c:Expr} {ta tb tc:TE} {pos:Pos}
theorem aF {pins:List (Addr × Obj)} {σ:St} {H:Hp} {s:Shared} {Q:VK} {k k':Bool} (I:Inv X pins σ H s) (q:Q (.bl k) H) (e:k=k'):EP X pins σ Q (.bool k') s:=by
 subst e
 exact ⟨.bl k,H,I,rfl,q⟩
theorem bZ:OpR X (compareOp .Eq) rEq:=by
 intro pins s σ H x y v u Q I rx ry h
 obtain ⟨hs,q⟩:=h
 cases x with
 | non=>
  cases rx
  cases y with
  | non=>cases ry; exact PySem.EqNone.eq_none_none (aF I q (by simp))
  | bl j=>cases ry; exact PySem.EqNone.eq_none_bool (aF I q (by simp))
  | int j=>obtain ⟨t',rfl⟩:=ry; exact PySem.EqNone.eq_none_int (aF I q (by simp))
  | str j=>obtain ⟨t',rfl⟩:=ry; exact PySem.EqNone.eq_none_str (aF I q (by simp))
  | _=>exact absurd (show false=true from hs) Bool.false_ne_true
 | bl i=>
  cases rx
  cases y with
  | non=>cases ry; exact PySem.EqNone.eq_bool_none (aF I q (by simp))
  | bl j=>cases ry; exact eq_bool (aF I q dec_bl)
  | str j=>obtain ⟨t',rfl⟩:=ry; exact PySem.EqMixed.eq_bool_str (aF I q (by simp))
  | _=>exact absurd (show false=true from hs) Bool.false_ne_true
 | int i=>
  obtain ⟨t,rfl⟩:=rx
  cases y with
  | non=>cases ry; exact PySem.EqNone.eq_int_none (aF I q (by simp))
  | int j=>obtain ⟨t',rfl⟩:=ry; exact eq_int (aF I q dec_int)
  | str j=>obtain ⟨t',rfl⟩:=ry; exact PySem.EqMixed.eq_int_str (aF I q (by simp))
  | _=>exact absurd (show false=true from hs) Bool.false_ne_true
 | str i=>
  obtain ⟨t,rfl⟩:=rx
  cases y with
  | non=>cases ry; exact PySem.EqNone.eq_str_none (aF I q (by simp))
  | bl j=>cases ry; exact PySem.EqMixed.eq_str_bool (aF I q (by simp))
  | int j=>obtain ⟨t',rfl⟩:=ry; exact PySem.EqMixed.eq_str_int (aF I q (by simp))
  | str j=>obtain ⟨t',rfl⟩:=ry; exact eq_str (aF I q dec_str)
  | _=>exact absurd (show false=true from hs) Bool.false_ne_true
 | byt i=>
  obtain ⟨t,rfl⟩:=rx
  cases y with
  | byt j=>obtain ⟨t',rfl⟩:=ry; exact PySem.W.eq_bytes (aF I q dec_byt)
  | _=>exact absurd (show false=true from hs) Bool.false_ne_true
 | _=>cases y<;>exact absurd (show false=true from hs) Bool.false_ne_true
theorem op_ne:OpR X (compareOp .NotEq) rNe:=by
 intro pins s σ H x y v u Q I rx ry h
 obtain ⟨hs,q⟩:=h
 cases x with
 | non=>
  cases rx
  cases y with
  | non=>cases ry; exact PySem.EqNone.ne_none_none (aF I q (by simp))
  | bl j=>cases ry; exact PySem.EqNone.ne_none_bool (aF I q (by simp))
  | int j=>obtain ⟨t',rfl⟩:=ry; exact PySem.EqNone.ne_none_int (aF I q (by simp))
  | str j=>obtain ⟨t',rfl⟩:=ry; exact PySem.EqNone.ne_none_str (aF I q (by simp))
  | _=>exact absurd (show false=true from hs) Bool.false_ne_true
 | bl i=>
  cases rx
  cases y with
  | non=>cases ry; exact PySem.EqNone.ne_bool_none (aF I q (by simp))
  | bl j=>cases ry; exact ne_bool (aF I q (congrArg not dec_bl))
  | str j=>obtain ⟨t',rfl⟩:=ry; exact PySem.EqMixed.ne_bool_str (aF I q (by simp))
  | _=>exact absurd (show false=true from hs) Bool.false_ne_true
 | int i=>
  obtain ⟨t,rfl⟩:=rx
  cases y with
  | non=>cases ry; exact PySem.EqNone.ne_int_none (aF I q (by simp))
  | int j=>obtain ⟨t',rfl⟩:=ry; exact ne_int (aF I q (congrArg not dec_int))
  | str j=>obtain ⟨t',rfl⟩:=ry; exact PySem.EqMixed.ne_int_str (aF I q (by simp))
  | _=>exact absurd (show false=true from hs) Bool.false_ne_true
 | str i=>
  obtain ⟨t,rfl⟩:=rx
  cases y with
  | non=>cases ry; exact PySem.EqNone.ne_str_none (aF I q (by simp))
  | bl j=>cases ry; exact PySem.EqMixed.ne_str_bool (aF I q (by simp))
  | int j=>obtain ⟨t',rfl⟩:=ry; exact PySem.EqMixed.ne_str_int (aF I q (by simp))
  | str j=>obtain ⟨t',rfl⟩:=ry; exact ne_str (aF I q (congrArg not dec_str))
  | _=>exact absurd (show false=true from hs) Bool.false_ne_true
 | byt i=>
  obtain ⟨t,rfl⟩:=rx
  cases y with
  | byt j=>obtain ⟨t',rfl⟩:=ry; exact PySem.W.ne_bytes (aF I q (congrArg not dec_byt))
  | _=>exact absurd (show false=true from hs) Bool.false_ne_true
 | _=>cases y<;>exact absurd (show false=true from hs) Bool.false_ne_true
theorem op_lt:OpR X (compareOp .Lt) (rI0 λi j=>.bl (decide (i<j))):=opB0 λ_ _ _ _ _ _ _ q=>lt_int q
theorem op_le:OpR X (compareOp .LtE) (rI0 λi j=>.bl (decide (i<=j))):=opB0 λ_ _ _ _ _ _ _ q=>le_int q
theorem da:OpR X (compareOp .Gt) (rI0 λi j=>.bl (decide (j<i))):=opB0 λ_ _ _ _ _ _ _ q=>gt_int q
theorem op_ge:OpR X (compareOp .GtE) (rI0 λi j=>.bl (decide (j<=i))):=opB0 λ_ _ _ _ _ _ _ q=>ge_int q
theorem aA (b:Expr) {op:CmpOp} (h:op ≠ .In:=by decide) (h2:op ≠ .NotIn:=by decide):behindInMarks op b=false:=by
 have e1:(op == CmpOp.In)=false:=by cases op<;>first | rfl | exact absurd rfl h
 have e2:(op == CmpOp.NotIn)=false:=by cases op<;>first | rfl | exact absurd rfl h2
 cases b<;>simp [behindInMarks,e1,e2]
theorem eZ {op:CmpOp} {r:R2} (ho:OpR X (compareOp op) r) (ha:PE X a ta) (hb:PE X b tb) (hm:behindInMarks op b=false):PE X (.Compare a [op] [b] pos) (tOp r ta tb):=by
 intro pins s σ H Q I h
 exact wpAny_Compare1 (binT ha hb I h λv u s2 x y H2 I2 rx ry q=>ho pins s2 σ H2 x y v u Q I2 rx ry q) hm
def tTest (t:TE):TT:=λσ H Q=>t σ H λx H'=>∃ k,x=.bl k/\Q k H'
theorem az {op:CmpOp} {r:R2} (ho:OpR X (compareOp op) r) (ha:PE X a ta) (hb:PE X b tb) (hm:behindInMarks op b=false):PT X (.Compare a [op] [b] pos) (tTest (tOp r ta tb)):=by
 intro pins s σ H Q I h
 refine wpAny_isTrue_Compare1 (thn (ha pins s σ H _ I h) λv s1 ⟨x,H1,I1,r1,q1⟩=>thn (hb pins s1 σ H1 _ I1 q1) λu s2 ⟨y,H2,I2,r2,q2⟩=>
  thn (ho pins s2 σ H2 x y v u _ I2 r1 r2 q2) λc s3 ⟨z,H3,I3,r3,k,e,q3⟩=>?_) hm
 subst e
 cases r3
 exact wpAny_truthy_bool ⟨H3,I3,q3⟩
theorem gu:(sizeLine:Nat)<2 ^ 63:=by rw [sizeLine_eq]; decide
theorem gb {x:V} {us:List Value} (r:g6 [x] us):∃ u,us=[u]/\g7 x u:=by
 cases r with
 | cons r1 r2=>cases r2; exact ⟨_,rfl,r1⟩
theorem vals2 {x y:V} {us:List Value} (r:g6 [x,y] us):∃ u w',us=[u,w']/\g7 x u/\g7 y w':=by
 cases r with
 | cons r1 r2=>
  cases r2 with
  | cons r3 r4=>cases r4; exact ⟨_,_,rfl,r1,r3⟩
theorem call_abs:dc X (.builtin "abs") (λxs H Q=>∃ i,xs=[.int i]/\Q (.int (if i<0 then -i else i)) H):=by
 intro pins s σ H xs us Q I r h
 obtain ⟨i,rfl,q⟩:=h
 obtain ⟨u,rfl,t,rfl⟩:=gb r
 exact call_abs_int λu tk=>⟨.int (if i<0 then -i else i),H,I.tok _,⟨_,rfl⟩,q⟩
theorem call_max2 (hc:X.calm=true):dc X (.builtin "max") (λxs H Q=>∃ i j,xs=[.int i,.int j]/\Q (.int (if j > i then j else i)) H):=by
 intro pins s σ H xs us Q I r h
 obtain ⟨i,j,rfl,q⟩:=h
 obtain ⟨u,w',rfl,⟨t,rfl⟩,⟨t',rfl⟩⟩:=vals2 r
 refine max_two_ints (I.ok.hd hc) λh' tk k=>⟨_,H,I.kept k,?_,q⟩
 by_cases hj:j > i
 ·rw [if_pos hj,if_pos hj]; exact ⟨_,rfl⟩
 ·rw [if_neg hj,if_neg hj]; exact ⟨_,rfl⟩
theorem call_int1:dc X (.type "int") (λxs H Q=>(∃ i,xs=[.int i]/\Q (.int i) H)\/∃ k,xs=[.bl k]/\Q (.int (if k then 1 else 0)) H):=by
 intro pins s σ H xs us Q I r h
 rcases h with ⟨i,rfl,q⟩ | ⟨k,rfl,q⟩
 ·obtain ⟨u,rfl,t,rfl⟩:=gb r
  exact call_int_int ⟨.int i,H,I,⟨_,rfl⟩,q⟩
 ·obtain ⟨u,rfl,r1⟩:=gb r
  cases r1
  exact call_int_bool ⟨.int (if k then 1 else 0),H,I.tok _,⟨_,rfl⟩,q⟩
end
structure ObjM (h:Heap) (x dx C:Addr) (mA:Str->Option Value):Prop where
 obj:h.get? x=some (instObj C dx)
 ns:h.Ns1 dx mA
 ne:dx ≠ x
theorem lookIn_ns {h:Heap} {dx:Addr} {mA:Str->Option Value} (n:h.Ns1 dx mA):∃ od,h.get? dx=some od/\∀ name,lookIn name od=some (mA name):=by
 obtain ⟨o,es,ep,ho,hd,hk,_,hm⟩:=n
 refine ⟨o,ho,λname=>?_⟩
 have e:=hm name
 unfold nsFind findBy at e
 rw [<- Array.find?_toList] at e
 unfold lookIn
 rw [hd]
 dsimp only
 split
 ·rename_i y q
  rw [q] at e
  exact congrArg some e
 ·rename_i q
  rw [q] at e
  have a:es.toList.any (·.refKey)=false:=by
   rw [List.any_eq_false]
   intro y hy
   obtain ⟨z,t,hkey⟩:=hk y (Array.mem_toList_iff.mp hy)
   simp [DictEntry.refKey,hkey]
  have a':¬ es.toList.any (·.refKey)=true:=by rw [a]; exact Bool.false_ne_true
  rw [if_neg a']
  exact congrArg some e
theorem ObjM.look {h:Heap} {x dx C:Addr} {mA:Str->Option Value} (I:ObjM h x dx C mA):∃ od,PySem.W.InstAt h x (instObj C dx) C (some od)/\∀ name,lookIn name od=some (mA name):=
 let ⟨od,ho,hl⟩:=lookIn_ns I.ns
 ⟨od,⟨I.obj,rfl,rfl,ho⟩,hl⟩
section
variable {prog:Program} {w:World} {A:Around} {E:Value->Shared->Prop} {s:Shared} {K:Frag} {x dx C f:Addr} {mA:Str->Option Value} {name:Str} {v:Value}
theorem get_map {expr:Bool} {Q:Value->Shared->Prop} (X:K.In s.heap) (I:ObjM s.heap x dx C mA) (hg:plainGet K C name=true) (hh:hasDictIn K C=true)
  (ha:findIn K (.ref C) name=some none) (hv:mA name=some v) (hv':PySem.W.handedIn v=true) (h:Q v { s with toks:=s.toks+1 }) :
  wpAny (model prog w) A (getAttr (.ref x) name expr) Q E s:=by
 obtain ⟨od,J,hl⟩:=I.look
 exact PySem.W.get_value X J (PySem.W.plainGet_of hg).1 (PySem.W.findObj_own hh ha rfl (by rw [hl,hv])) hv' h
theorem get_meth {pl:Sem Bool} {Q:Value × List Value->Shared->Prop} (X:K.In s.heap) (I:ObjM s.heap x dx C mA) (hg:plainGet K C name=true)
  (hf:findIn K (.ref C) name=some (some (.ref f))) (ht:isFn K (.ref f)=true) (hv:mA name=none) (h:Q (.ref f,[.ref x]) s) :
  wpAny (model prog w) A (getMethod (.ref x) name pl) Q E s:=by
 obtain ⟨od,J,hl⟩:=I.look
 exact PySem.W.method_fn X J (PySem.W.plainGet_of hg).1 (PySem.W.plainGet_of hg).2 hf (beq_iff_eq.mp ht) (by show (lookIn name od).map (·.isSome)=some false; rw [hl,hv]; rfl) h
theorem set_map {ns:List Str} {Q:Unit->Shared->Prop} (X:K.In s.heap) (I:ObjM s.heap x dx C mA)
  (hs:findIn K (.ref C) "__setattr__"=some (some (.builtin "object.__setattr__"))) (hp:plainOver K C=true) (ht:PySem.W.takerIn K C name=some none) (hh:hasDictIn K C=true)
  (hw:PySem.Within mA ns) (hsz:ns.length<=sizeLine)
  (h:∀ h',ObjM h' x dx C (λy=>if y=name then some v else mA y)->Heap.SameBut dx s.heap h'->Q () { s with heap:=h',toks:=s.toks+2 }) :
  wpAny (model prog w) A (setAttr (.ref x) name v) Q E s:=by
 obtain ⟨od,J,hl⟩:=I.look
 refine PySem.W.set_plain X J hs (PySem.W.osa_open (s:={ s with toks:=s.toks+1 }) (r:=none) X J hp ht λb=>?_)
 obtain ⟨cd,hc,hd'⟩:=PySem.W.any_some hh
 have hx:s.heap.get? x=some ⟨.ref C,some dx,.plain,#[]⟩:=I.obj
 refine wpAny_bind (wpAny_pure (wpAny_bind (wpAny_bind (wpAny_loadPart hx (wpAny_bind (PySem.W.Looks.here (s:={ s with toks:=s.toks+1 }) (PySem.W.looks_clsIn X hc) ?_))))))
 rw [hd']
 refine wpAny_pure (a:=some dx) (wpAny_bind (wpAny_pure (wpAny_bind ?_)))
 refine wpAny_nsSet1 (s:={ s with toks:=s.toks+1 }) I.ns λh' hn2 hs2=>?_
 obtain ⟨oD,esD,epD,hoD,hdD,hcD⟩:=hn2.count (PySem.Within.cons name v hw)
 refine wpAny_bind (wpAny_lookBehind hoD (by rw [hdD]; exact pastItsLine_dict (Nat.le_trans hcD (by rw [length_cons]; omega))) ?_)
 exact wpAny_pure (h _ ⟨(hs2.2 _ (Ne.symm I.ne)).trans I.obj,hn2,I.ne⟩ hs2)
theorem make_map {R:Result->Shared->Prop} {vs:List Value} {kw:List (Str × Value)} (X:K.In s.heap) (hm:makesIn K C=true)
  (hi:findIn K (.ref C) "__init__"=some (some (.ref f))) (hf:PySem.W.typeIn K (.ref f)=some (.type "function"))
  (h:codeAny (model prog w) (A.under (.builtin "type.__call__" ⟨.ref C::vs,kw⟩)) (.call (.ref f) ⟨.ref (s.heap.objs.size+1)::vs,kw⟩) (PySem.W.InitBack (s.heap.objs.size+1) R)
   { s with heap:=(s.heap.push emptyDict).push (instObj C s.heap.objs.size) }) :
  codeAny (model prog w) A (.call (.ref C) ⟨vs,kw⟩) R s:=by
 obtain ⟨hh,g,d,t,os⟩:=s
 exact PySem.W.make_core (PySem.W.makes_of X hm) (PySem.W.looks_findIn X hi) (λself=>PySem.W.bind_fn X self hf) (.inl rfl) h
theorem make_map0 {R:Result->Shared->Prop} (X:K.In s.heap) (hm:makesIn K C=true)
  (hi:findIn K (.ref C) "__init__"=some (some (.builtin "object.__init__")))
  (hb:∀ self,PySem.W.Looks (model prog w) s.heap (bindSpecial (.builtin "object.__init__") self) (.builtin "object.__init__",[self]))
  (h:codeAny (model prog w) (A.under (.builtin "type.__call__" ⟨[.ref C],[]⟩)) (.call (.builtin "object.__init__") ⟨[.ref (s.heap.objs.size+1)],[]⟩) (PySem.W.InitBack (s.heap.objs.size+1) R)
   { s with heap:=(s.heap.push emptyDict).push (instObj C s.heap.objs.size) }) :
  codeAny (model prog w) A (.call (.ref C) ⟨[],[]⟩) R s:=by
 obtain ⟨hh,g,d,t,os⟩:=s
 exact PySem.W.make_core (PySem.W.makes_of X hm) (PySem.W.looks_findIn X hi) hb (.inr ⟨rfl,rfl⟩) h
end
def cZ (f:Str) (v:V):List (Str × V)->List (Str × V)
 | []=>[(f,v)]
 | (g,x)::r=>if g=f then (g,v)::r else (g,x)::cZ f v r
theorem eJ (f g:Str) (v:V):∀ fs:List (Str × V),(cZ f v fs).lookup g=if g=f then some v else fs.lookup g
 | []=>by
  show List.lookup g [(f,v)]=_
  by_cases h:g=f
  ·have hb:(g == f)=true:=beq_iff_eq.mpr h
   simp only [List.lookup,hb,if_pos h]
  ·have hb:(g == f)=false:=beq_eq_false_iff_ne.mpr h
   simp only [List.lookup,hb,if_neg h]
 | (k,x)::r=>by
  have ih:=eJ f g v r
  rw [show cZ f v ((k,x)::r)=(if k=f then (k,v)::r else (k,x)::cZ f v r) from rfl]
  by_cases hk:k=f
  ·rw [if_pos hk]
   by_cases h:g=k
   ·have hb:(g == k)=true:=beq_iff_eq.mpr h
    simp only [List.lookup,hb,if_pos (h.trans hk)]
   ·have hb:(g == k)=false:=beq_eq_false_iff_ne.mpr h
    simp only [List.lookup,hb,if_neg (λe:g=f=>h (e.trans hk.symm))]
  ·rw [if_neg hk]
   by_cases h:g=k
   ·have hb:(g == k)=true:=beq_iff_eq.mpr h
    simp only [List.lookup,hb,if_neg (λe:g=f=>hk (h.symm.trans e))]
   ·have hb:(g == k)=false:=beq_eq_false_iff_ne.mpr h
    simp only [List.lookup,hb]
    exact ih
theorem eB (f:Str) (v:V):∀ fs:List (Str × V),f ∈ (cZ f v fs).map (·.1)/\∀ g,g ∈ fs.map (·.1)->g ∈ (cZ f v fs).map (·.1)
 | []=>⟨by simp [cZ],λg h=>by simp at h⟩
 | (k,x)::r=>by
  obtain ⟨i1,i2⟩:=eB f v r
  rw [show cZ f v ((k,x)::r)=(if k=f then (k,v)::r else (k,x)::cZ f v r) from rfl]
  by_cases hk:k=f
  ·rw [if_pos hk]
   subst hk
   exact ⟨by simp,λg h=>by simpa using h⟩
  ·rw [if_neg hk]
   refine ⟨?_,λg h=>?_⟩
   ·rw [map_cons]
    exact mem_cons_of_mem _ i1
   ·rw [map_cons] at h ⊢
    rcases List.mem_cons.mp h with e | e
    ·exact List.mem_cons.mpr (.inl e)
    ·exact mem_cons_of_mem _ (i2 g e)
theorem eM (f:Str) (v:V):∀ fs:List (Str × V),(cZ f v fs).length<=fs.length+1
 | []=>by simp [cZ]
 | (k,x)::r=>by
  have ih:=eM f v r
  rw [show cZ f v ((k,x)::r)=(if k=f then (k,v)::r else (k,x)::cZ f v r) from rfl]
  by_cases hk:k=f
  ·rw [if_pos hk,length_cons,length_cons]; omega
  ·rw [if_neg hk,length_cons,length_cons]; omega
theorem RelO.some_of {v:V} {o:Option Value} (r:RelO (some v) o):∃ u,o=some u/\g7 v u:=by
 cases o with
 | none=>exact (show False from r).elim
 | some u=>exact ⟨u,rfl,r⟩
theorem RelO.none_of {o:Option Value} (r:RelO none o):o=none:=by
 cases o with
 | none=>rfl
 | some u=>exact (show False from r).elim
theorem handed_of {v:V} {u:Value} (r:g7 v u):PySem.W.handedIn u=true:=by
 cases v with
 | non=>cases (show u=Value.none from r); rfl
 | bl b=>cases (show u=Value.bool b from r); rfl
 | int i=>obtain ⟨t,e⟩:=(show ∃ t,u=Value.int i t from r); cases e; rfl
 | str x=>obtain ⟨t,e⟩:=(show ∃ t,u=Value.str x t from r); cases e; rfl
 | byt b=>obtain ⟨t,e⟩:=(show ∃ t,u=Value.bytes b t from r); cases e; rfl
 | flt b=>obtain ⟨t,e⟩:=(show ∃ t,u=Value.float b t from r); cases e; rfl
 | ref a=>cases (show u=Value.ref a from r); rfl
 | ty n=>cases (show u=Value.type n from r); rfl
section
variable {P:Program} {w:World} {H H':Hp} {h h':Heap} {a C dx:Addr} {fs fs':List (Str × V)}
theorem fe (hok:HOk P w H h) (e:H a=some (.ins C dx fs)):∃ mA,ObjM h a dx C mA/\(∀ f,RelO (fs.lookup f) (mA f))/\PySem.Within mA (fs.map (·.1))/\fs.length<=1000/\H dx=some (.own a):=by
 obtain ⟨d,z,ne,ob,mA,n,r,q⟩:=(show ig P w H h a (.ins C dx fs) from hok a _ e)
 exact ⟨mA,⟨ob,n,ne⟩,r,q,z,d⟩
end
structure Cls (K:Frag) (C:Addr):Prop where
 pg:plainGet K C Str.empty=true
 hd:hasDictIn K C=true
 po:plainOver K C=true
 sa:findIn K (.ref C) "__setattr__"=some (some (.builtin "object.__setattr__"))
theorem Cls.get {K:Frag} {C:Addr} (c:Cls K C) (f:Str):plainGet K C f=true:=c.pg
def NoAttr (K:Frag) (C:Addr) (f:Str):Prop:=findIn K (.ref C) f=some none
theorem NoAttr.taker {K:Frag} {C:Addr} {f:Str} (n:NoAttr K C f):PySem.W.takerIn K C f=some none:=by
 unfold PySem.W.takerIn
 rw [show findIn K (.ref C) f=some none from n]
 rfl
structure Meth (K:Frag) (C:Addr) (m:Str) (f:Addr):Prop where
 at_:findIn K (.ref C) m=some (some (.ref f))
 fn:isFn K (.ref f)=true
 kp:keepIn K (.ref f)=true
section
variable {X:Cx} {pins:List (Addr × Obj)} {σ:St} {H:Hp} {s:Shared} {a C dx:Addr} {fs:List (Str × V)} {f:Str} {v:V} {A:Around} {E:Value->Shared->Prop}
theorem getattr_ok {b:Bool} {Q:Value->Shared->Prop} (I:Inv X pins σ H s) (e:H a=some (.ins C dx fs)) (c:Cls X.K C) (n:NoAttr X.K C f) (l:fs.lookup f=some v)
  (h:∀ u s',Inv X pins σ H s'->g7 v u->Q u s'):wpAny (model X.prog X.w) A (getAttr (.ref a) f b) Q E s:=by
 obtain ⟨mA,O,r,_,_,_⟩:=fe I.hok e
 obtain ⟨u,hu,ru⟩:=RelO.some_of (v:=v) (o:=mA f) (by rw [<- l]; exact r f)
 exact get_map I.kIn O (c.get f) c.hd n hu (handed_of ru) (h u _ (I.tok _) ru)
theorem fi {m:Str} {g:Addr} {pl:Sem Bool} {Q:Value × List Value->Shared->Prop} (I:Inv X pins σ H s) (e:H a=some (.ins C dx fs)) (c:Cls X.K C) (k:Meth X.K C m g) (l:fs.lookup m=none)
  (h:Q (.ref g,[.ref a]) s):wpAny (model X.prog X.w) A (getMethod (.ref a) m pl) Q E s:=by
 obtain ⟨mA,O,r,_,_,_⟩:=fe I.hok e
 have hn:mA m=none:=RelO.none_of (by rw [<- l]; exact r m)
 exact get_meth I.kIn O (c.get m) k.at_ k.fn hn h
theorem setattr_ok {y:V} {u:Value} {Q:Unit->Shared->Prop} (I:Inv X pins σ H s) (e:H a=some (.ins C dx fs)) (c:Cls X.K C) (n:NoAttr X.K C f) (hl:fs.length<1000) (ry:g7 y u)
  (h:∀ s',Inv X pins σ (upd H a (.ins C dx (cZ f y fs))) s'->Q () s'):wpAny (model X.prog X.w) A (setAttr (.ref a) f u) Q E s:=by
 obtain ⟨mA,O,r,wi,_,ho⟩:=fe I.hok e
 have hz:(fs.map (·.1)).length<=sizeLine:=by rw [length_map,sizeLine_eq]; omega
 refine set_map I.kIn O c.sa c.po n.taker c.hd wi hz λh' O' sb=>h _ ?_
 have hd:∃ o,h'.get? dx=some o:=let ⟨o,_,_,e',_⟩:=O'.ns; ⟨o,e'⟩
 refine I.write (x:=a) (e:=dx) (by rw [e]; exact True.intro) (.inr ho) (λb q hb z=>(sb.2 b hb).trans z) hd ?_
 refine ⟨by rw [ar O.ne]; exact ho,?_,O.ne,O'.obj,_,O'.ns,λg=>?_,λg hg=>?_⟩
 ·have:=eM f y fs; omega
 ·show RelO ((cZ f y fs).lookup g) (if g=f then some u else mA g)
  rw [eJ]
  by_cases q:g=f
  ·rw [if_pos q,if_pos q]; exact ry
  ·rw [if_neg q,if_neg q]; exact r g
 ·by_cases q:g=f
  ·rw [q]; exact (eB f y fs).1
  ·refine (eB f y fs).2 g (wi g λz=>hg ?_)
   show (if g=f then some u else mA g)=none
   rw [if_neg q]; exact z
theorem Inv.made (I:Inv X pins σ H s):Inv X pins σ (upd (upd H s.heap.objs.size (.own (s.heap.objs.size+1))) (s.heap.objs.size+1) (.ins C s.heap.objs.size []))
  { s with heap:=(s.heap.push emptyDict).push (instObj C s.heap.objs.size) }:=by
 have e1:(s.heap.push emptyDict).get? s.heap.objs.size=some emptyDict:=get?_push_size s.heap rfl
 have e2:((s.heap.push emptyDict).push (instObj C s.heap.objs.size)).get? (s.heap.objs.size+1)=some (instObj C s.heap.objs.size):=by
  have:=get?_push_size (s.heap.push emptyDict) (o:=instObj C s.heap.objs.size) rfl
  rwa [size_push] at this
 have e3:(s.heap.push emptyDict).Ns s.heap.objs.size (λ_=>none):=⟨emptyDict,#[],_,e1,rfl,(λe he=>absurd he (by simp)),λ_=>rfl⟩
 have I1:=I.laid (a:=s.heap.objs.size) (o:=.own (s.heap.objs.size+1)) (h':=s.heap.push emptyDict) (t':=s.toks) (λb u q=>get?_push_of_some _ q) (Nat.le_refl _) ⟨_,e1⟩
 refine I1.laid (a:=s.heap.objs.size+1) (o:=.ins C s.heap.objs.size []) (t':=s.toks) (λb u q=>get?_push_of_some _ q) (Nat.le_of_eq (size_push _ _)) ?_
 have ne:s.heap.objs.size ≠ s.heap.objs.size+1:=Nat.ne_of_lt (Nat.lt_succ_self _)
 refine ⟨by rw [ar ne,af],Nat.zero_le _,ne,e2,λ_=>none,(Heap.Ns1.of_empty e3).at λo q=>get?_push_of_some _ q,λ_=>True.intro,λy hy=>absurd rfl hy⟩
theorem attr_of {prog:Program} {w:World} {env:Env} {e:Expr} {f:Str} {pos:Pos} {s:Shared} {Q:Value->Shared->Prop} (hb:attributeBase e f env (eval e env)=eval e env)
  (h:wpAny (model prog w) A (eval e env) (λo s₁=>wpAny (model prog w) A (getAttr o f true) Q E s₁) E s):wpAny (model prog w) A (eval (.Attribute e f pos) env) Q E s:=
 Attribute_any_ h (by rw [arm_eval_Attribute,hb])
end
def tFld (K:Frag) (ta:TE) (f:Str):TE:=λσ H Q=>ta σ H λx H1=>∃ a C dx fs v,x=.ref a/\H1 a=some (.ins C dx fs)/\Cls K C/\NoAttr K C f/\fs.lookup f=some v/\Q v H1
def sFld (K:Frag) (ta tv:TE) (f:Str):TS:=λD σ H=>tv σ H λy H1=>ta σ H1 λx H2=>∃ a C dx fs,x=.ref a/\H2 a=some (.ins C dx fs)/\Cls K C/\NoAttr K C f/\fs.length<1000/\
 D.nx σ (upd H2 a (.ins C dx (cZ f y fs)))
section
variable {X:Cx} {o e value:Expr} {f:Str} {pos pos' tpos:Pos} {ta tv:TE}
theorem pe_fld (he:PE X e ta) (hb:attributeBase e f X.env (eval e X.env)=eval e X.env):PE X (.Attribute e f pos) (tFld X.K ta f):=by
 intro pins s σ H Q I h
 refine attr_of hb (thn (he pins s σ H _ I h) λu s1 ⟨x,H1,I1,rx,a,C,dx,fs,v,ex,ea,c,n,l,q⟩=>?_)
 subst ex
 obtain rfl:u=Value.ref a:=rx
 exact getattr_ok I1 ea c n l λu' s2 I2 ru=>⟨v,H1,I2,ru,q⟩
theorem ps_fld (ha:PE X o ta) (hv:PE X value tv) (hs:swapsWith value (some (.Attribute o f pos')) pos.line X.env=pure false):PS X (.Assign [.Attribute o f pos'] value pos) (sFld X.K ta tv f):=by
 intro pins s σ H D I h
 refine plainObj_wpAny_Assign_Attribute (thn (hv pins s σ H _ I h) λu s1 ⟨y,H1,I1,ry,q⟩=>thn (ha pins s1 σ H1 _ I1 q) λov s2 ⟨x,H2,I2,rx,a,C,dx,fs,ex,ea,c,n,l,q2⟩=>?_) hs
 subst ex
 obtain rfl:ov=Value.ref a:=rx
 exact setattr_ok I2 ea c n l ry λs3 I3=>⟨σ,_,I3,q2⟩
theorem methcall_of {pl:Sem Bool} {m:Str} {apos:Pos} {args:List Expr} {pins:List (Addr × Obj)} {s:Shared} {σ:St} {H:Hp} {Q:Value->Shared->Prop} {te:TE} (he:PE X e te) (I:Inv X pins σ H s)
  (h:te σ H λx H1=>∃ a C dx fs g,x=.ref a/\H1 a=some (.ins C dx fs)/\Cls X.K C/\Meth X.K C m g/\fs.lookup m=none/\
   ∀ s1,Inv X pins σ H1 s1->wpAny (model X.prog X.w) X.A (callWith pos (.ref g) [.ref a] (backTo pos (starEach args X.env)) (backToKw pos (keywordEach [] X.env))) Q X.xe s1)
  (ht:eval (.Call (.Attribute e m apos) args [] pos) X.env=(do
   let ov <- eval e X.env
   standAt apos.atName
   let (f,first) <- holding [ov] (getMethod ov m pl)
   callWith pos f first (backTo pos (starEach args X.env)) (backToKw pos (keywordEach [] X.env)))) :
  wpAny (model X.prog X.w) X.A (eval (.Call (.Attribute e m apos) args [] pos) X.env) Q X.xe s:=by
 refine PySem.W.methodCall_KW (pl:=pl) (thn (he pins s σ H _ I h) λu s1 ⟨x,H1,I1,rx,a,C,dx,fs,g,ex,ea,c,k,l,q⟩=>?_) ht
 subst ex
 obtain rfl:u=Value.ref a:=rx
 exact fi I1 ea c k l (q s1 I1)
end
section
variable {X:Cx} {pins:List (Addr × Obj)} {σ:St} {H:Hp} {s:Shared} {A:Around} {E:Value->Shared->Prop} {Q:Value->Shared->Prop} {c:Value} {b:Bool}
inductive TyOf (K:Frag) (H:Hp):V->Value->Prop where
 | non:TyOf K H .non (.type "NoneType")
 | bl (x:Bool):TyOf K H (.bl x) (.type "bool")
 | int (i:Int):TyOf K H (.int i) (.type "int")
 | str (x:Str):TyOf K H (.str x) (.type "str")
 | flt (x:UInt64):TyOf K H (.flt x) (.type "float")
 | lst {a:Addr} {xs:List V} (e:H a=some (.lst xs)):TyOf K H (.ref a) (.type "list")
 | frz {a:Addr} {o:Obj} {xs:List V} (e:H a=some (.frz o (.lst xs))):TyOf K H (.ref a) (.type "list")
 | tup {a:Addr} {xs:List V} (e:H a=some (.tup xs)):TyOf K H (.ref a) (.type "tuple")
 | dK {a:Addr} {kvs:List (Key × V)} (e:H a=some (.dK kvs)):TyOf K H (.ref a) (.type "dict")
 | dT {a:Addr} {kvs:List (List Key × V)} (e:H a=some (.dT kvs)):TyOf K H (.ref a) (.type "dict")
 | ins {a C dx:Addr} {fs:List (Str × V)} (e:H a=some (.ins C dx fs)) (cl:Cls K C) (ha:findIn K (.ref C) "__class__"=some (some (.builtin "object.__class__")))
   (hn:PySem.W.specialIn K (.builtin "object.__class__") "__get__"=some (some (.builtin "getset_descriptor.__get__"))) (htk:PySem.W.takesIn K (.builtin "object.__class__")=some true)
   (hm:PySem.W.mroIn K C (.type "object")=some true):TyOf K H (.ref a) (.ref C)
theorem isinst_ok {x:V} {u t:Value} (I:Inv X pins σ H s) (rx:g7 x u) (ty:TyOf X.K H x t) (e:kitOne X.K t c=some b) (h:∀ tk,Q (.bool b) { s with toks:=tk }) :
  wpAny (model X.prog X.w) A (call (.builtin "isinstance") [u,c]) Q E s:=by
 cases ty with
 | non=>cases (show u=Value.none from rx); exact kia_one PySem.W.kitx_none I.kIn True.intro e (λz=>nomatch z) h
 | bl y=>cases (show u=Value.bool y from rx); exact kia_one PySem.W.kitx_bool I.kIn True.intro e (λz=>nomatch z) h
 | int i=>obtain ⟨t,q⟩:=(show ∃ t,u=Value.int i t from rx); cases q; exact kia_one PySem.W.kitx_int I.kIn True.intro e (λz=>nomatch z) h
 | str y=>obtain ⟨t,q⟩:=(show ∃ t,u=Value.str y t from rx); cases q; exact kia_one PySem.W.kitx_str I.kIn True.intro e (λz=>nomatch z) h
 | flt y=>obtain ⟨t,q⟩:=(show ∃ t,u=Value.float y t from rx); cases q; exact kia_one PySem.W.kitx_float I.kIn True.intro e (λz=>nomatch z) h
 | @lst a xs ea=>
  cases (show u=Value.ref a from rx)
  obtain ⟨_,_,n,_,h1⟩:=(show ig X.prog X.w H s.heap a (.lst xs) from I.hok a _ ea)
  exact kia_one PySem.W.kitx_list I.kIn ⟨_,h1,rfl⟩ e (λz=>nomatch z) h
 | @frz a ob xs ea=>
  cases (show u=Value.ref a from rx)
  obtain ⟨_,_,_,n,_,h1⟩:=(show ig X.prog X.w H s.heap a (.frz ob (.lst xs)) from I.hok a _ ea)
  exact kia_one PySem.W.kitx_list I.kIn ⟨_,h1,rfl⟩ e (λz=>nomatch z) h
 | @tup a xs ea=>
  cases (show u=Value.ref a from rx)
  obtain ⟨_,_,_,p⟩:=(show ig X.prog X.w H s.heap a (.tup xs) from I.hok a _ ea)
  obtain ⟨o,h1,h2,_⟩:=p
  exact kia_one PySem.W.kitx_tuple I.kIn ⟨o,h1,h2⟩ e (λz=>nomatch z) h
 | @dK a kvs ea=>
  cases (show u=Value.ref a from rx)
  obtain ⟨_,_,vs,_,p⟩:=(show ig X.prog X.w H s.heap a (.dK kvs) from I.hok a _ ea)
  obtain ⟨o,es,ep,h1,h2,_⟩:=p
  exact kia_one PySem.W.kitx_dict I.kIn ⟨o,h1,h2.1⟩ e (λz=>nomatch z) h
 | @dT a kvs ea=>
  cases (show u=Value.ref a from rx)
  obtain ⟨_,_,xs,_,o,es,ep,h1,h2,_⟩:=(show ig X.prog X.w H s.heap a (.dT kvs) from I.hok a _ ea)
  exact kia_one PySem.W.kitx_dict I.kIn ⟨o,h1,h2.1⟩ e (λz=>nomatch z) h
 | @ins a C dx fs ea cl ha hn htk hm=>
  cases (show u=Value.ref a from rx)
  obtain ⟨mA,O,_⟩:=fe I.hok ea
  obtain ⟨od,J,_⟩:=O.look
  exact kia_one (PySem.W.kitx_own (cl.get _) cl.hd ha hn htk hm) I.kIn J e (λz=>nomatch z) h
end
structure hZ (k:Nat) (A:Around):Prop where
 hd:A.handled=none
 dp:A.depth+3*k+5<recursionLimit
 un:A.units+16*k+200<cLine
theorem hZ.mono {j k:Nat} {A:Around} (r:hZ k A) (h:j<=k):hZ j A:=⟨r.hd,by have:=r.dp; omega,by have:=r.un; omega⟩
theorem hZ.deeper {k:Nat} {A:Around} (r:hZ (k+1) A) (env:Env):hZ k (A.deeper env):=
 ⟨r.hd,by have:=r.dp; show A.depth+1+3*k+5<_; omega,by have:=r.un; show A.units+3+16*k+200<_; omega⟩
theorem make_depth {A:Around} {C:Addr} {us:List Value} {kw:List (Str × Value)}:(A.under (.builtin "type.__call__" ⟨.ref C::us,kw⟩)).depth=A.depth+1:=by
 first | rfl | simp [Around.under,Code.weight,Code.isCreation,Code.isGuard,Code.isCaller,Code.frames,Code.isFrame,guardIds]
theorem make_units {A:Around} {C:Addr} {us:List Value} {kw:List (Str × Value)}:(A.under (.builtin "type.__call__" ⟨.ref C::us,kw⟩)).units=A.units+1:=by
 first | rfl | simp [Around.under,Code.cUnits,Code.frames,Code.isFrame]
theorem hZ.make {k:Nat} {A:Around} (r:hZ (k+1) A) (C:Addr) (us:List Value) (kw:List (Str × Value)):hZ k (A.under (.builtin "type.__call__" ⟨.ref C::us,kw⟩)):=
 ⟨r.hd,by have:=r.dp; rw [make_depth]; omega,by have:=r.un; rw [make_units]; omega⟩
theorem hZ.depth {k:Nat} {A:Around} (r:hZ k A):A.depth<recursionLimit:=by have:=r.dp; omega
theorem hZ.units {k:Nat} {A:Around} (r:hZ k A):A.units+64<cLine:=by have:=r.un; omega
def de:TA:=λ_ H Q=>Q [] H
def cC (ta:TE) (tr:TA):TA:=λσ H Q=>ta σ H λx H1=>tr σ H1 λxs H2=>Q (x::xs) H2
section
variable {X:Cx} {e:Expr} {es:List Expr} {te:TE} {t:TA} {pos:Pos}
theorem ag:PA X [] de:=λ_ _ _ _ H Q I h=>Calls.spliced_nil ⟨[],H,I,.nil,h⟩
theorem aa (ha:PE X e te) (hr:PA X es t) (hs:starEach (e::es) X.env=(false,eval e X.env)::starEach es X.env:=by rfl):PA X (e::es) (cC te t):=by
 intro pos pins s σ H Q I h
 rw [hs]
 show wpAny _ _ (spliced ((false,eval e X.env)::backTo pos (starEach es X.env))) _ _ s
 refine Calls.spliced_cons (thn (ha pins s σ H _ I h) λu s1 ⟨x,H1,I1,r1,q1⟩=>?_)
 exact thn (hr pos pins s1 σ H1 _ I1 q1) λus s2 ⟨xs,H2,I2,r2,q2⟩=>⟨x::xs,H2,I2,.cons r1 r2,q2⟩
def tTup (t:TA):TE:=λσ H Q=>t σ H λxs H1=>xs.length<=sizeLine/\∀ p,H1 p=none->Q (.ref p) (upd H1 p (.tup xs))
def tLst (t:TA):TE:=λσ H Q=>t σ H λxs H1=>xs.length<=sizeLine/\∀ p,H1 p=none->Q (.ref p) (upd H1 p (.lst xs))
theorem en {x1} (h:PA X es t):PE X (.Tuple es x1 pos) (tTup t):=by
 intro pins s σ H Q I hq
 refine wpAny_Tuple_spliced (thn (h pos pins s σ H _ I hq) λus s1 ⟨xs,H1,I1,r,z,q⟩=>⟨by rw [<- r.length]; exact z,?_⟩)
 have hf:H1 s1.heap.objs.size=none:=I1.hok.fresh (Nat.le_refl _)
 refine ⟨.ref s1.heap.objs.size,upd H1 s1.heap.objs.size (.tup xs),I1.laid (t':=s1.toks) (λb u e=>get?_push_of_some _ e) (Nat.le_refl _) ?_,rfl,q _ hf⟩
 exact ⟨z,us,r,⟨_,get?_push_size _ rfl,rfl,_,rfl⟩⟩
theorem bL (h:PA X es t):PE X (.List es pos) (tLst t):=by
 intro pins s σ H Q I hq
 refine wpAny_List_spliced (thn (h pos pins s σ H _ I hq) λus s1 ⟨xs,H1,I1,r,z,q⟩=>⟨by rw [<- r.length]; exact z,?_⟩)
 have hf:H1 s1.heap.objs.size=none:=I1.hok.fresh (Nat.le_refl _)
 refine ⟨.ref s1.heap.objs.size,upd H1 s1.heap.objs.size (.lst xs),I1.laid (t':=s1.toks) (λb u e=>get?_push_of_some _ e) (Nat.le_refl _) ?_,rfl,q _ hf⟩
 exact ⟨z,us,0,r,get?_push_size _ rfl⟩
end
abbrev Sp:=List V->Hp->VK->XK->Prop
abbrev CXT:=List Env->Hp->Shared->XK->Value->Shared->Prop
structure Env0 (P:Program) (w:World) (K:Frag) (mg:Str->Option Value) (base:Heap) (A:Around) (outer:List Env) (s:Shared) (H:Hp):Prop where
 frames:A.frames=some outer
 mod:Mod K mg base
 bs:∀ b o,base.get? b=some o->s.heap.get? b=some o/\H b=none
 bsz:base.objs.size<=s.heap.objs.size
 funs:s.heap.FunFrames base outer
 frf:∀ b ∈ frs outer,H b=none
 hok:HOk P w H s.heap
 bare:AllBare s.gens
def CE (outer:List Env) (P:Program) (w:World) (H:Hp) (s:Shared) (Q:VK) (u:Value) (s':Shared):Prop:=
 ∃ v H',s'.os=s.os/\AllBare s'.gens/\Un (frs outer) [] H H' s.heap s'.heap/\HOk P w H' s'.heap/\g7 v u/\Q v H'
def CR (CX:CXT) (outer:List Env) (P:Program) (w:World) (H:Hp) (s:Shared) (Q:VK) (E:XK) (r:Result) (s':Shared):Prop:=
 match r with
 | .ok (.ret u)=>CE outer P w H s Q u s'
 | .ok _=>False
 | .error e=>CX outer H s E e s'
structure aI (P:Program) (w:World) (K:Frag) (mg:Str->Option Value) (base:Heap) (CX:CXT) (k:Nat) (f:Addr) (fd:FuncData) (ps:List Str) (sp:Sp):Prop where
 len:∀ vs H Q E,sp vs H Q E->vs.length=ps.length
 run:∀ (A:Around) (outer:List Env) (s:Shared) (H:Hp) (args:Args) (us:List Value) (vs:List V) (Q:VK) (E:XK),hZ k A->Env0 P w K mg base A outer s H->BindsTo s fd args (ps.zip us)->g6 vs us->sp vs H Q E->
  codeAny (model P w) A (.call (.ref f) args) (CR CX outer P w H s Q E) s
theorem Env0.make {P:Program} {w:World} {K:Frag} {mg:Str->Option Value} {base:Heap} {A:Around} {outer:List Env} {s:Shared} {H:Hp} (e:Env0 P w K mg base A outer s H) (C:Addr) (us:List Value) (kw:List (Str × Value)) :
  Env0 P w K mg base (A.under (.builtin "type.__call__" ⟨.ref C::us,kw⟩)) outer s H:=⟨by first | exact e.frames | (simpa [Around.under,Code.envs,Code.isFrame,pushEnvs] using e.frames),e.mod,e.bs,e.bsz,e.funs,e.frf,e.hok,e.bare⟩
section
variable {X:Cx} {pins:List (Addr × Obj)} {σ:St} {H:Hp} {s s':Shared}
theorem Inv.env0 (I:Inv X pins σ H s):Env0 X.prog X.w X.K X.mg X.base X.A X.stack s H:=
 ⟨I.ok.frames,I.ok.mod,I.bs,Nat.le_trans I.ok.bsz I.sz,I.stack,I.stkFree,I.hok,I.bare⟩
theorem Inv.after {Q:VK} {u:Value} (I:Inv X pins σ H s) (h:CE X.stack X.prog X.w H s Q u s'):EP X pins σ Q u s':=by
 obtain ⟨v,H',os,bare,un,hok,r,q⟩:=h
 obtain ⟨hh,g,d,t,os'⟩:=s'
 obtain rfl:os'=s.os:=os
 exact ⟨v,H',I.call (h':=hh) (g':=g) (d':=d) (t':=t) (ch:=[]) un hok bare (λb z=>absurd z (by simp)),r,q⟩
end
def tCall (sp:Sp) (dvs:List V) (E:XK) (t:TA):TE:=λσ H Q=>t σ H λvs H1=>sp (vs++dvs) H1 Q E
def tMeth (C:Addr) (m:Str) (sp:Sp) (dvs:List V) (E:XK) (ta:TE) (t:TA):TE:=λσ H Q=>ta σ H λx H1=>∃ a dx fs,x=.ref a/\H1 a=some (.ins C dx fs)/\fs.lookup m=none/\
 t σ H1 λvs H2=>sp (x::(vs++dvs)) H2 Q E
def tMake (C:Addr) (sp:Sp) (dvs:List V) (E:XK) (t:TA):TE:=λσ H Q=>t σ H λvs H1=>∀ x dx,H1 x=none->H1 dx=none->dx ≠ x->
 sp (.ref x::(vs++dvs)) (upd (upd H1 dx (.own x)) x (.ins C dx [])) (λv H2=>v=.non/\Q (.ref x) H2) E
def Binds (K:Frag) (fd:FuncData) (ps:List Str) (ds:List Value):Prop:=
 ∀ (s:Shared) (us:List Value),K.In s.heap->(us++ds).length=ps.length->BindsTo s fd ⟨us,[]⟩ (ps.zip (us++ds))
theorem Binds.all {K:Frag} {fd:FuncData} {ps:List Str} (h:∀ us:List Value,us.length=ps.length->bindArgs fd ⟨us,[]⟩=pure (ps.zip us)):Binds K fd ps []:=λs us _ hl=>by
 rw [append_nil] at hl ⊢
 exact .of_eq (h us hl)
def et (CX:CXT) (X:Cx) (E:XK):Prop:=∀ (pins:List (Addr × Obj)) (σ:St) (H:Hp) (s:Shared) (e:Value) (s':Shared),Inv X pins σ H s->CX X.stack H s E e s'->X.xe e s'
section
variable {X:Cx} {CX:CXT} {k:Nat} {f C:Addr} {fd:FuncData} {ps:List Str} {sp:Sp} {dvs:List V} {ds:List Value} {E:XK} {x m:Str} {p pos apos:Pos} {e o:Expr} {es:List Expr} {ta:TE} {t:TA}
theorem run_fn {pins:List (Addr × Obj)} {σ:St} {H:Hp} {s:Shared} {Q:VK} {us:List Value} {vs:List V} (F:aI X.prog X.w X.K X.mg X.base CX k f fd ps sp) (hr:hZ k X.A) (hb:Binds X.K fd ps ds) (hd:g6 dvs ds) (hx:et CX X E)
  (I:Inv X pins σ H s) (r:g6 vs us) (h:sp (vs++dvs) H Q E):wpAny (model X.prog X.w) X.A (call (.ref f) us) (EP X pins σ Q) X.xe s:=by
 have r2:g6 (vs++dvs) (us++ds):=r.append hd
 have hl:(us++ds).length=ps.length:=by rw [<- r2.length]; exact F.len _ _ _ _ h
 refine wpAny_call (codeAny_mono (F.run X.A X.stack s H ⟨us,[]⟩ (us++ds) (vs++dvs) Q E hr I.env0 (hb s us I.kIn hl) r2 h) λr s' hq=>?_)
 cases r with
 | error e=>exact hx pins σ H s e s' I hq
 | ok fl=>
  cases fl with
  | ret u=>exact I.after hq
  | next=>exact False.elim hq
  | brk=>exact False.elim hq
  | cont=>exact False.elim hq
theorem pe_call (F:aI X.prog X.w X.K X.mg X.base CX k f fd ps sp) (hr:hZ k X.A) (hg:Gl X x) (hm:X.mg x=some (.ref f)) (hk:keepIn X.K (.ref f)=true) (hb:Binds X.K fd ps ds) (hd:g6 dvs ds) (hx:et CX X E)
  (ha:PA X (e::es) t) (hdb:(x == ("__debug__" : Str))=false:=by decide) (he:starEach (e::es) X.env=(false,eval e X.env)::starEach es X.env:=by rfl) (hpl:(backTo pos (starEach es X.env)).any (·.1)=false:=by rfl) :
  PE X (.Call (.Name x p) (e::es) [] pos) (tCall sp dvs E t):=by
 intro pins s σ H Q I h
 refine wpAny_Call_Name_kw (fh I hg hm ?_ hdb)
 refine PySem.W.callWith_K (h₀:=X.base) I.ok.mod.kin hk (thn (ha pos pins s σ H _ I h) λus s1 ⟨vs,H1,I1,r,q⟩=>⟨I1.kIn,?_⟩) he hpl
 exact run_fn F hr hb hd hx I1 r q
theorem pe_meth0 {pl:Sem Bool} (he:PE X o ta) (c:Cls X.K C) (hm:Meth X.K C m f) (F:aI X.prog X.w X.K X.mg X.base CX k f fd ps sp) (hr:hZ k X.A) (hb:Binds X.K fd ps ds) (hd:g6 dvs ds) (hx:et CX X E)
  (ht:eval (.Call (.Attribute o m apos) [] [] pos) X.env=(do
   let ov <- eval o X.env
   standAt apos.atName
   let (f,first) <- holding [ov] (getMethod ov m pl)
   callWith pos f first (backTo pos (starEach [] X.env)) (backToKw pos (keywordEach [] X.env))):=by rfl) :
  PE X (.Call (.Attribute o m apos) [] [] pos) (tMeth C m sp dvs E ta de):=by
 intro pins s σ H Q I h
 refine PySem.W.methodCall_KW (pl:=pl) (thn (he pins s σ H _ I h) λu s1 ⟨x,H1,I1,rx,a,dx,fs,ex,ea,l,q⟩=>?_) ht
 subst ex
 obtain rfl:u=Value.ref a:=rx
 refine fi I1 ea c hm l ?_
 exact PySem.W.callWith_K0 (first:=[.ref a]) I1.kIn hm.kp (run_fn (us:=[.ref a]) (vs:=[.ref a]) F hr hb hd hx I1 (.cons rfl .nil) q)
structure Mk (K:Frag) (C f:Addr):Prop where
 makes:makesIn K C=true
 init:findIn K (.ref C) "__init__"=some (some (.ref f))
 fn:isFn K (.ref f)=true
 kp:keepIn K (.ref C)=true
theorem run_make {pins:List (Addr × Obj)} {σ:St} {H:Hp} {s:Shared} {Q:VK} {us:List Value} {vs:List V} (M:Mk X.K C f) (F:aI X.prog X.w X.K X.mg X.base CX k f fd ps sp) (hr:hZ (k+1) X.A) (hb:Binds X.K fd ps ds) (hd:g6 dvs ds)
  (hx:et CX X E) (I:Inv X pins σ H s) (r:g6 vs us)
  (h:∀ x dx,H x=none->H dx=none->dx ≠ x->sp (.ref x::(vs++dvs)) (upd (upd H dx (.own x)) x (.ins C dx [])) (λv H2=>v=.non/\Q (.ref x) H2) E) :
  wpAny (model X.prog X.w) X.A (call (.ref C) us) (EP X pins σ Q) X.xe s:=by
 have hq:=h (s.heap.objs.size+1) s.heap.objs.size (I.hok.fresh (Nat.le_succ _)) (I.hok.fresh (Nat.le_refl _)) (Nat.ne_of_lt (Nat.lt_succ_self _))
 have I2:=Inv.made (C:=C) I
 have r2:g6 (V.ref (s.heap.objs.size+1)::(vs++dvs)) (Value.ref (s.heap.objs.size+1)::(us++ds)):=.cons rfl (r.append hd)
 have hl:(Value.ref (s.heap.objs.size+1)::us++ds).length=ps.length:=by
  have e:=r2.length
  rw [F.len _ _ _ _ hq] at e
  exact e.symm
 refine wpAny_call (make_map (f:=f) I.kIn M.makes M.init (beq_iff_eq.mp M.fn) (codeAny_mono (F.run _ X.stack _ _ ⟨Value.ref (s.heap.objs.size+1)::us,[]⟩ (Value.ref (s.heap.objs.size+1)::(us++ds)) _ _ E (hr.make C us [])
  (I2.env0.make C us []) (hb _ (Value.ref (s.heap.objs.size+1)::us) I2.kIn hl) r2 hq) λr s' hq'=>?_))
 cases r with
 | error e=>exact hx pins σ _ _ e s' I2 hq'
 | ok fl=>
  cases fl with
  | ret u=>
   obtain ⟨v,H',I3,rv,ev,q3⟩:=I2.after hq'
   subst ev
   exact ⟨rv,⟨V.ref (s.heap.objs.size+1),H',I3,rfl,q3⟩⟩
  | next=>exact False.elim hq'
  | brk=>exact False.elim hq'
  | cont=>exact False.elim hq'
theorem pe_make (M:Mk X.K C f) (F:aI X.prog X.w X.K X.mg X.base CX k f fd ps sp) (hr:hZ (k+1) X.A) (hg:Gl X x) (hm:X.mg x=some (.ref C)) (hb:Binds X.K fd ps ds) (hd:g6 dvs ds) (hx:et CX X E)
  (ha:PA X (e::es) t) (hdb:(x == ("__debug__" : Str))=false:=by decide) (he:starEach (e::es) X.env=(false,eval e X.env)::starEach es X.env:=by rfl) (hpl:(backTo pos (starEach es X.env)).any (·.1)=false:=by rfl) :
  PE X (.Call (.Name x p) (e::es) [] pos) (tMake C sp dvs E t):=by
 intro pins s σ H Q I h
 refine wpAny_Call_Name_kw (fh I hg hm ?_ hdb)
 refine PySem.W.callWith_K (h₀:=X.base) I.ok.mod.kin M.kp (thn (ha pos pins s σ H _ I h) λus s1 ⟨vs,H1,I1,r,q⟩=>⟨I1.kIn,?_⟩) he hpl
 exact run_make M F hr hb hd hx I1 r q
end
structure g0 (N P:List Str) (sc:Scope):Prop where
 kind:sc.kind=.function
 co:sc.isCoroutine=false
 gen:sc.isGenerator=false
 nd:N.Nodup
 pre:N.take P.length=P
 par:∀ x ∈ P,sc.names.lookup x=some .local\/sc.names.lookup x=some .cell
 nofree:∀ y ∈ sc.names,y.2 ≠ .free
theorem gm {kindOf:Str->Option NameKind} {x:Str}:∀ {binds:List (Str × Value)} {m:Str->Option Value},(∀ v,(x,v) ∉ binds)->bindL kindOf binds m x=m x
 | [],_,_=>rfl
 | (n,v)::r,m,h=>by
  unfold bindL
  rw [gm λw hw=>h w (mem_cons_of_mem _ hw)]
  split
  ·have:x ≠ n:=by rintro rfl; exact h v mem_cons_self
   simp [this]
  ·rfl
theorem fX {kindOf:Str->Option NameKind} {x:Str}:∀ {binds:List (Str × Value)} {m:Str->Option Value},(∀ v,(x,v) ∉ binds)->bindC kindOf binds m x=m x
 | [],_,_=>rfl
 | (n,v)::r,m,h=>by
  unfold bindC
  rw [fX λw hw=>h w (mem_cons_of_mem _ hw)]
  split
  ·rfl
  ·have:x ≠ n:=by rintro rfl; exact h v mem_cons_self
   simp [this]
theorem f9 {kindOf:Str->Option NameKind} {x:Str} {v:Value}:∀ {P:List Str} {vs:List Value} {i:Nat} {m:Str->Option Value},P.Nodup->P[i]? = some x->vs[i]? = some v->kindOf x=some .local->
  bindL kindOf (P.zip vs) m x=some v
 | [],_,_,_,_,h,_,_=>by simp at h
 | _::_,[],_,_,_,_,h,_=>by simp at h
 | p::P,w::vs,0,m,nd,h1,h2,hk=>by
  simp at h1 h2; subst h1; subst h2
  show bindL kindOf ((p,w)::P.zip vs) m p=_
  unfold bindL
  rw [gm λv hv=>(List.nodup_cons.mp nd).1 (of_mem_zip hv).1,if_pos hk]
  simp
 | p::P,w::vs,i+1,m,nd,h1,h2,hk=>by
  show bindL kindOf ((p,w)::P.zip vs) m x=_
  unfold bindL
  exact f9 (i:=i) (List.nodup_cons.mp nd).2 (by simpa using h1) (by simpa using h2) hk
theorem fY {kindOf:Str->Option NameKind} {x:Str} {v:Value}:∀ {P:List Str} {vs:List Value} {i:Nat} {m:Str->Option Value},P.Nodup->P[i]? = some x->vs[i]? = some v->kindOf x ≠ some .local->
  bindC kindOf (P.zip vs) m x=some v
 | [],_,_,_,_,h,_,_=>by simp at h
 | _::_,[],_,_,_,_,h,_=>by simp at h
 | p::P,w::vs,0,m,nd,h1,h2,hk=>by
  simp at h1 h2; subst h1; subst h2
  show bindC kindOf ((p,w)::P.zip vs) m p=_
  unfold bindC
  rw [fX λv hv=>(List.nodup_cons.mp nd).1 (of_mem_zip hv).1,if_neg hk]
  simp
 | p::P,w::vs,i+1,m,nd,h1,h2,hk=>by
  show bindC kindOf ((p,w)::P.zip vs) m x=_
  unfold bindC
  exact fY (i:=i) (List.nodup_cons.mp nd).2 (by simpa using h1) (by simpa using h2) hk
def dQ (N:List Str) (vs:List V):St:=vs.map some++List.replicate (N.length-vs.length) none
def cxOf (CX:CXT) (P:Program) (w:World) (K:Frag) (mg:Str->Option Value) (base:Heap) (N:List Str) (qual:Str) (scope:Scope) (f:Addr) (cd:Value) (A:Around) (outer:List Env) (s:Shared) (H:Hp) (E:XK):Cx where
 prog:=P
 w:=w
 K:=K
 mg:=mg
 base:=base
 A:=A.deeper (envOfC qual scope s.heap.objs.size f cd)
 N:=N
 s₀:=s
 H₀:=H
 env:=envOfC qual scope s.heap.objs.size f cd
 outer:=outer
 stack:=envOfC qual scope s.heap.objs.size f cd::outer
 ex:=[]
 calm:=true
 fn:=λ_=>true
 pn:=[]
 xe:=λe s'=>wpAny (model P w) (A.deeper (envOfC qual scope s.heap.objs.size f cd)) (leaving (envOfC qual scope s.heap.objs.size f cd) e) (λ_ s''=>CX outer H s E e s'') (λe' s''=>CX outer H s E e' s'') s'
theorem cell_has {sc:Scope} {n:Nat} {x:Str} (h:sc.names.lookup x=some .cell):∃ c,(cellsFrom n sc.names []).lookup x=some c:=by
 have q:=PySem.W.cellsFrom_some sc.names n [] (.inl h)
 exact Option.isSome_iff_exists.mp q
theorem inv_start {CX:CXT} {P:Program} {w:World} {K:Frag} {mg:Str->Option Value} {base:Heap} {N ps:List Str} {qual:Str} {scope:Scope} {f:Addr} {cd:Value} {A:Around} {outer:List Env} {s s1:Shared} {H:Hp} {E:XK} {us:List Value} {vs:List V}
  (S:g0 N ps scope) (hd:A.handled=none) (e0:Env0 P w K mg base A outer s H) (hl:vs.length=ps.length) (r:g6 vs us)
  (x:InCallC s s.heap.objs.size (bindL (envOfC qual scope s.heap.objs.size f cd).kindOf (ps.zip us) λ_=>none) (cellsFrom (s.heap.objs.size+1) scope.names []) (bindC (envOfC qual scope s.heap.objs.size f cd).kindOf (ps.zip us) λ_=>none) s1) :
  Inv (cxOf CX P w K mg base N qual scope f cd A outer s H E) [] (dQ N vs) H s1:=by
 have hpl:ps.length<=N.length:=by have:=congrArg List.length S.pre; rw [length_take] at this; omega
 obtain ⟨h1,tk,rfl,hk⟩:=x.done
 have noA:∀ b:Addr,b ∉ (cxOf CX P w K mg base N qual scope f cd A outer s H E).ex:=λb z=>absurd (show b ∈ ([]:List Addr) from z) (by simp)
 refine ⟨⟨e0.mod,S.kind,rfl,rfl,Nat.le_refl _,λy z c h1 h2=>?_,λy hy=>?_,λy c _ h=>?_,λ_=>hd,Around.frames_deeper e0.frames,.inr ⟨rfl,rfl⟩,λb z=>absurd z (noA b),e0.bs,e0.bsz,λb _ _=>noA b,λb z=>absurd z (noA b),e0.funs,e0.frf⟩,
  rfl,e0.bare,Un.kept hk,⟨_,x.toInCall.ns,λi y v h1 h2 h3=>?_⟩,λy c h=>⟨_,x.cell y c h⟩,e0.hok.fresh (Nat.le_refl _),λy c h=>?_,λp hp=>absurd (show p ∈ ([]:List (Addr × Obj)) from hp) (by simp),e0.hok.kept hk,?_⟩
 ·exact name_of_addr x.apart (PySem.mem_of_lookup h1) (PySem.mem_of_lookup h2)
 ·have hy:scope.names.lookup y=some .cell\/scope.names.lookup y=some .free:=hy
  rcases hy with hy | hy
  ·exact cell_has hy
  ·exact absurd rfl (S.nofree _ (PySem.mem_of_lookup hy))
 ·exact Nat.le_of_lt (x.above y c (PySem.mem_of_lookup h))
 ·have hi:i<vs.length:=by
   unfold dQ at h2
   by_cases hi:i<vs.length
   ·exact hi
   ·rw [List.getElem?_append_right (by simpa using hi)] at h2
    rw [List.getElem?_replicate] at h2
    split at h2<;>cases h2
  have ha:vs[i]? = some v:=by
   unfold dQ at h2
   rw [getElem?_append_left (by simpa using hi),getElem?_map] at h2
   cases e:vs[i]? with
   | none=>rw [e] at h2; cases h2
   | some a=>rw [e] at h2; cases h2; rfl
  obtain ⟨u,hu,rv⟩:=r.get ha
  have hp:ps[i]? = some y:=by
   rw [<- S.pre,List.getElem?_take_of_lt (by omega)]; exact h1
  have ndP:ps.Nodup:=by rw [<- S.pre]; exact S.nd.sublist (List.take_sublist _ _)
  refine ⟨u,rv,?_⟩
  rcases S.par y (mem_of_getElem? hp) with k | k
  ·exact .inl ⟨k,f9 ndP hp hu k⟩
  ·obtain ⟨c,e⟩:=cell_has (n:=s.heap.objs.size+1) k
   refine .inr ⟨.inl k,c,e,?_⟩
   have q:=x.cell y c e
   rw [fY ndP hp hu (by show scope.names.lookup y ≠ _; rw [k]; decide)] at q
   exact q
 ·exact e0.hok.fresh (Nat.le_of_lt (x.above y c (PySem.mem_of_lookup h)))
 ·unfold dQ
  show _=N.length
  rw [length_append,length_map,List.length_replicate]
  omega
theorem fn_of {CX:CXT} {P:Program} {w:World} {K:Frag} {mg:Str->Option Value} {base:Heap} {k:Nat} {f:Addr} {name qual:Str} {params:Arguments} {body:List Stmt} {scope:Scope} {dV kV doc pm cdv ct oc:Value} {an od:Option Addr}
  {osl:Array (Option Value)} {N ps:List Str} {sp:Sp} (lk:K.lookup f=some ⟨oc,od,.func (fnOf name qual params body scope dV kV doc pm an cdv ct),osl⟩) (hcd:codeIn K cdv qual=true) (S:g0 N ps scope)
  (len:∀ vs H Q E,sp vs H Q E->vs.length=ps.length)
  (hbody:∀ (A:Around) (outer:List Env) (s:Shared) (H:Hp) (vs:List V) (Q:VK) (E:XK),hZ k (A.deeper (envOfC qual scope s.heap.objs.size f cdv))->sp vs H Q E->
   ∃ t,PSs (cxOf CX P w K mg base N qual scope f cdv A outer s H E) body t/\t { nx:=λ_ H'=>Q .non H',rt:=Q } (dQ N vs) H) :
  aI P w K mg base CX (k+1) f (fnOf name qual params body scope dV kV doc pm an cdv ct) ps sp:=by
 refine ⟨len,λA outer s H args us vs Q E hr e0 hb r hsp=>?_⟩
 have hl:=len _ _ _ _ hsp
 have KX:K.In s.heap:=e0.mod.kin.keeps λb o e=>(e0.bs b o e).1
 have lim:s.heap.NoLimit:=e0.mod.nolimit.keeps λb o e=>(e0.bs b o e).1
 have hkind:∀ y ∈ ps.zip us,scope.names.lookup y.1=some .local\/(scope.names.lookup y.1=some .cell/\((cellsFrom (s.heap.objs.size+1) scope.names []).lookup y.1).isSome=true):=λ⟨n,v⟩ hy=>by
  rcases S.par n (of_mem_zip hy).1 with q | q
  ·exact .inl q
  ·exact .inr ⟨q,PySem.W.cellsFrom_some _ _ _ (.inl q)⟩
 refine codeAny_call_function hr.depth (KX _ _ lk) rfl S.co S.gen rfl (PySem.W.codeRec_of KX hcd) (hb _ _ _ _ ?_)
 refine wpAny_newFunctionEnv_cells S.kind hkind λenv he s1 x=>?_
 subst he
 refine ⟨lim.keeps x.toInCall.keep,codeAny_func ?_⟩
 obtain ⟨t,ht,hq⟩:=hbody A outer s H vs Q E (hr.deeper _) hsp
 have I:Inv (cxOf CX P w K mg base N qual scope f cdv A outer s H E) [] (dQ N vs) H s1:=inv_start S hr.hd e0 hl r x
 refine wpAny_mono (ht [] s1 (dQ N vs) H _ I hq) (λfl s' hs=>?_) λe s' hs=>hs
 have fin:∀ {σ':St} {H':Hp} {v:V} {u:Value},Inv (cxOf CX P w K mg base N qual scope f cdv A outer s H E) [] σ' H' s'->g7 v u->Q v H'->CE outer P w H s Q u s':=
  λ{σ' H' v u} J rv q=>⟨v,H',J.os,J.bare,J.base,J.hok,rv,q⟩
 cases fl with
 | ret u=>
  obtain ⟨v,σ',H',J,rv,q⟩:=hs
  exact fin J rv q
 | next=>
  obtain ⟨σ',H',J,q⟩:=hs
  exact fin (v:=V.non) (u:=Value.none) J rfl q
 | brk=>
  obtain ⟨_,_,_,q⟩:=hs
  exact False.elim q
 | cont=>
  obtain ⟨_,_,_,q⟩:=hs
  exact False.elim q
section
variable {X:Cx} {x:Str} {p pos:Pos} {e:Expr} {es:List Expr} {t:TA} {id T:String} {r:List V->Hp->VK->Prop}
def tCB (r:List V->Hp->VK->Prop) (t:TA):TE:=λσ H Q=>t σ H λvs H1=>r vs H1 Q
theorem cD (hc:dc X (.builtin id) r) (hg:Gl X x) (hm:X.mg x=none) (hv:bootBuiltins x=some (.builtin id)) (ha:PA X (e::es) t) (hn:x ≠ "__name__":=by decide) (hdb:(x == ("__debug__" : Str))=false:=by decide)
  (he:starEach (e::es) X.env=(false,eval e X.env)::starEach es X.env:=by rfl) (hpl:(backTo pos (starEach es X.env)).any (·.1)=false:=by rfl):PE X (.Call (.Name x p) (e::es) [] pos) (tCB r t):=by
 intro pins s σ H Q I h
 refine wpAny_Call_Name_kw (dg I hg hm hv ?_ hn hdb)
 exact PyProof.Rows.callWith_builtin1 (thn (ha pos pins s σ H _ I h) λus s1 ⟨vs,H1,I1,r1,q1⟩=>hc pins s1 σ H1 vs us Q I1 r1 q1) he hpl
theorem gq (hc:dc X (.type T) r) (hg:Gl X x) (hm:X.mg x=none) (hv:bootBuiltins x=some (.type T)) (ha:PA X (e::es) t) (hn:x ≠ "__name__":=by decide) (hdb:(x == ("__debug__" : Str))=false:=by decide)
  (he:starEach (e::es) X.env=(false,eval e X.env)::starEach es X.env:=by rfl) (hpl:(backTo pos (starEach es X.env)).any (·.1)=false:=by rfl):PE X (.Call (.Name x p) (e::es) [] pos) (tCB r t):=by
 intro pins s σ H Q I h
 refine wpAny_Call_Name_kw (dg I hg hm hv ?_ hn hdb)
 exact PyProof.Rows.callWith_type1 (thn (ha pos pins s σ H _ I h) λus s1 ⟨vs,H1,I1,r1,q1⟩=>hc pins s1 σ H1 vs us Q I1 r1 q1) he hpl
end
end L2
namespace HT
open PySem PyProof.Rows
section
variable {prog:Program} {w:World} {A:Around} {E:Value->Shared->Prop} {s:Shared}
def sIx (n d:Nat):Option Int->Nat
 | none=>d
 | some v=>if v<0 then (v+(n:Int)).toNat else min v.toNat n
end
end HT
namespace L2
open PySem PySem.Spec PyProof.Rows
abbrev TO:=St->Hp->(Option Int->Hp->Prop)->Prop
def PO (X:Cx) (e:Option Expr) (t:TO):Prop:=
 ∀ (pins:List (Addr × Obj)) (s:Shared) (σ:St) (H:Hp) (Q:Option Int->Hp->Prop),Inv X pins σ H s->t σ H Q->
  wpAny (model X.prog X.w) X.A (evalPart e X.env) (λu s'=>∃ o H',Inv X pins σ H' s'/\IsPart u o/\Q o H') X.xe s
def tPart (t:TE):TO:=λσ H Q=>t σ H λx H1=>∃ i,x=.int i/\Q (some i) H1
section
variable {X:Cx} {e:Expr} {te:TE} {lo hi:Option Expr} {tl th:TO} {pos p2:Pos}
theorem po_some (h:PE X e te):PO X (some e) (tPart te):=by
 intro pins s σ H Q I hw
 rw [evalPart_some]
 refine thn (h pins s σ H _ I hw) λu s1 ⟨x,H1,I1,r1,q1⟩=>?_
 obtain ⟨i,rfl,q⟩:=q1
 obtain ⟨t,rfl⟩:=r1
 exact ⟨some i,H1,I1,.int i t,q⟩
def SlR (X:Cx) (r:V->Option Int->Option Int->Hp->VK->Prop):Prop:=
 ∀ (pins:List (Addr × Obj)) (s:Shared) (σ:St) (H:Hp) (x:V) (v vl vu:Value) (lo hi:Option Int) (sl:Addr) (Q:VK),Inv X pins σ H s->g7 x v->s.heap.IsSliceOf sl vl vu .none->IsPart vl lo->IsPart vu hi->r x lo hi H Q->
  ∃ T id,typeLookup (.type T) "__getitem__" = pure (some (.builtin id))/\s.TypeIs v T/\wpAny (model X.prog X.w) X.A (getItem v (.ref sl)) (EP X pins σ Q) X.xe s
def cutV (xs:List V) (lo hi:Option Int):List V:=(xs.drop (HT.sIx xs.length 0 lo)).take (HT.sIx xs.length xs.length hi-HT.sIx xs.length 0 lo)
theorem cutV_length (xs:List V) (lo hi:Option Int):(cutV xs lo hi).length<=xs.length:=by
 unfold cutV
 rw [length_take,List.length_drop]
 omega
end
def ixN (n:Nat) (i:Int):Option Nat:=if 0<=i then (if i<n then some i.toNat else none) else if -(n:Int)<=i then some (i+n).toNat else none
def atI {α:Type} (xs:List α) (i:Int):Option α:=(ixN xs.length i).bind λj=>xs[j]?
theorem ixN_seq {n:Nat} {i:Int} {j:Nat} (h:ixN n i=some j):seqIndex? i n=some j/\j<n/\-(n:Int)<=i/\i<n:=by
 unfold ixN at h
 by_cases h0:0<=i
 ·rw [if_pos h0] at h
  by_cases h1:i<n
  ·rw [if_pos h1] at h
   have e:i.toNat=j:=Option.some.inj h
   exact ⟨by rw [seqIndex_of h0 h1,e],by omega,by omega,h1⟩
  ·rw [if_neg h1] at h; cases h
 ·rw [if_neg h0] at h
  by_cases h1:-(n:Int)<=i
  ·rw [if_pos h1] at h
   have e:(i+n).toNat=j:=Option.some.inj h
   exact ⟨by rw [seqIndex_neg (by omega) h1,e],by omega,h1,by omega⟩
  ·rw [if_neg h1] at h; cases h
theorem atI_get {α:Type} {xs:List α} {i:Int} {v:α} (h:atI xs i=some v):∃ j,seqIndex? i xs.length=some j/\xs[j]? = some v/\j<xs.length/\-(xs.length:Int)<=i/\i<xs.length:=by
 unfold atI at h
 cases e:ixN xs.length i with
 | none=>rw [e] at h; cases h
 | some j=>
  rw [e] at h
  obtain ⟨h1,h2,h3,h4⟩:=ixN_seq e
  exact ⟨j,h1,h,h2,h3,h4⟩
theorem bh {α:Type} {xs:List α} {j:Nat} {v:α} (h:xs[j]? = some v):atI xs (j:Int)=some v:=by
 have hj:j<xs.length:=(List.getElem?_eq_some_iff.mp h).1
 have e:ixN xs.length (j:Int)=some j:=by
  unfold ixN
  rw [if_pos (by omega),if_pos (by omega)]; simp
 unfold atI; rw [e]; exact h
def PlainIx (b:Expr):Prop:=∀ o i,subscripted b false o i=operate [o,i] (getItem o i)
def IxR (X:Cx) (r:R2):Prop:=
 ∀ (value slice:Expr) (pins:List (Addr × Obj)) (s:Shared) (σ:St) (H:Hp) (x y:V) (v u:Value) (Q:VK),Inv X pins σ H s->g7 x v->g7 y u->r x y H Q->
  subscripted slice false v u=operate [v,u] (getItem v u)->wpAny (model X.prog X.w) X.A (subscriptTail value slice v u) (EP X pins σ Q) X.xe s
def MtR (X:Cx) (id:String) (r:V->List V->Hp->VK->Prop):Prop:=
 ∀ (pins:List (Addr × Obj)) (s:Shared) (σ:St) (H:Hp) (x:V) (xs:List V) (v:Value) (us:List Value) (Q:VK),Inv X pins σ H s->g7 x v->g6 xs us->r x xs H Q->
  wpAny (model X.prog X.w) X.A (call (.builtin id) (v::us)) (EP X pins σ Q) X.xe s
section
variable {X:Cx} {a b:Expr} {ta tb:TE} {pos:Pos}
theorem aE {r:R2} (hr:IxR X r) (ha:PE X a ta) (hb:PE X b tb) (hs:PlainIx b):PE X (.Subscript a b pos) (tOp r ta tb):=by
 intro pins s σ H Q I h
 exact Subscript_ (binT ha hb I h λv u s2 x y H2 I2 rx ry q=>hr a b pins s2 σ H2 x y v u Q I2 rx ry q (hs _ _))
def rIxL (K:Frag):R2:=λx y H Q=>∃ p xs i v,x=.ref p/\y=.int i/\SqL K H p xs/\atI xs i=some v/\Q v H
def rIxT (K:Frag):R2:=λx y H Q=>∃ p xs i v,x=.ref p/\y=.int i/\SqT K H p xs/\atI xs i=some v/\Q v H
theorem ix_list:IxR X (rIxL X.K):=by
 intro value slice pins s σ H x y v u Q I rx ry h hs
 obtain ⟨p,xs,i,z,rfl,rfl,hq,he,q⟩:=h
 cases rx
 obtain ⟨t,rfl⟩:=ry
 obtain ⟨its,r,pl,hz⟩:=I.list hq
 obtain ⟨j,h1,h2,h3,h4,h5⟩:=atI_get he
 obtain ⟨w,ew,rw'⟩:=r.get h2
 have hl:=r.length
 have hn:=gu
 have fin:EP X pins σ Q w s:=⟨z,H,I,rw',q⟩
 by_cases h0:0<=i
 ·have hj:i.toNat=j:=by
   rw [seqIndex_of h0 h5] at h1
   exact Option.some.inj h1
  exact item_listR pl.isList h0 (by omega) (by rw [hj]; simpa using ew) fin hs
 ·have hj:(i+(its.toArray.size:Int)).toNat=j:=by
   rw [seqIndex_neg (by omega) h4] at h1
   rw [size_toArray,<- hl]
   exact Option.some.inj h1
  exact subscriptTail_builtinR (x:=w) pl.isList.typeIs slot_list_getitem.lookup
   (wpAny_getItem_list_neg (Q:=λr s'=>r=w/\EP X pins σ Q r s') pl.isList (by omega) (by rw [size_toArray]<;>omega) (by omega) (by rw [hj]; simpa using ew) ⟨rfl,fin⟩) hs
theorem ix_tup:IxR X (rIxT X.K):=by
 intro value slice pins s σ H x y v u Q I rx ry h hs
 obtain ⟨p,xs,i,z,rfl,rfl,hq,he,q⟩:=h
 cases rx
 obtain ⟨t,rfl⟩:=ry
 obtain ⟨its,r,pl,hz⟩:=I.tuple hq
 obtain ⟨j,h1,h2,h3,h4,h5⟩:=atI_get he
 obtain ⟨w,ew,rw'⟩:=r.get h2
 have hl:=r.length
 have hn:=gu
 have fin:EP X pins σ Q w s:=⟨z,H,I,rw',q⟩
 exact subscriptTail_builtinR (x:=w) pl.typeIs slot_tuple_getitem.lookup
  (getItem_tuple (j:=j) (Q:=λr s'=>r=w/\EP X pins σ Q r s') pl (by omega) (by omega) (by rw [size_toArray,<- hl]; exact h1) (by simpa using ew) ⟨rfl,fin⟩) hs
theorem mapSeq_set (its:List Value) (n j:Nat) (u:Value):Obj.mapSeq (·.setIfInBounds j u) { cls:=.type "list",data:=.seq its.toArray n }={ cls:=.type "list",data:=.seq (its.set j u).toArray n }:=by
 simp [Obj.mapSeq]
theorem Inv.lst {pins:List (Addr × Obj)} {σ:St} {H:Hp} {s:Shared} {p:Addr} {xs:List V} (I:Inv X pins σ H s) (h:H p=some (.lst xs)) :
  ∃ (its:List Value) (n:Nat),g6 xs its/\s.heap.get? p=some { cls:=.type "list",data:=.seq its.toArray n }/\xs.length<=sizeLine:=by
 obtain ⟨z,its,n,r,e⟩:=I.hok p _ h
 exact ⟨its,n,r,e,z⟩
theorem Inv.lstUpd {pins:List (Addr × Obj)} {σ:St} {H:Hp} {s:Shared} {p:Addr} {xs ys:List V} {its its':List Value} {n n':Nat} {f:Obj->Obj} (I:Inv X pins σ H s) (h:H p=some (.lst xs))
  (ho:s.heap.get? p=some { cls:=.type "list",data:=.seq its.toArray n }) (hf:f { cls:=.type "list",data:=.seq its.toArray n }={ cls:=.type "list",data:=.seq its'.toArray n' }) (r:g6 ys its') (hz:ys.length<=sizeLine) (t:Nat) :
  Inv X pins σ (upd H p (.lst ys)) { s with heap:=s.heap.update p f,toks:=t }:=by
 have e:(s.heap.update p f).get? p=some { cls:=.type "list",data:=.seq its'.toArray n' }:=by
  rw [Heap.get?_update_self f ho (by rw [hf]<;>rfl),hf]
 refine I.write (x:=p) (e:=p) (by rw [h]; trivial) (.inl rfl) (λb u hb q=>(Heap.get?_update_other _ _ (Ne.symm hb)).trans q) ⟨_,e⟩ ?_
 exact ⟨hz,its',n',r,e⟩
def rSetL:V->V->V->Hp->(Hp->Prop)->Prop:=λo i v H Q=>∃ p xs k j,o=.ref p/\i=.int k/\H p=some (.lst xs)/\ixN xs.length k=some j/\Q (upd H p (.lst (xs.set j v)))
theorem fo:PSet X rSetL:=by
 intro pins s σ H o i v ov iv u Q I ro ri rv h
 obtain ⟨p,xs,k,j,rfl,rfl,hp,hj,q⟩:=h
 cases ro
 obtain ⟨t,rfl⟩:=ri
 obtain ⟨its,n,r,ho,hz⟩:=I.lst hp
 obtain ⟨h1,h2,h3,h4⟩:=ixN_seq hj
 have hl:=r.length
 have hn:=gu
 have I':Inv X pins σ (upd H p (.lst (xs.set j v))) { s with heap:=s.heap.update p (Obj.mapSeq (·.setIfInBounds j u)) }:=
  I.lstUpd hp ho (mapSeq_set its n j u) (r.set rv j) (by rw [List.length_set]; exact hz) s.toks
 by_cases h0:0<=k
 ·have hk:k.toNat=j:=by
   rw [seqIndex_of h0 h4] at h1
   exact Option.some.inj h1
  exact PySem.W.ki_setAt ho h0 (by omega) (by rw [size_toArray,<- hl]; exact h4) (by rw [hk]; exact ⟨_,I',q⟩)
 ·have hk:(k+(its.toArray.size:Int)).toNat=j:=by
   rw [seqIndex_neg (by omega) h3] at h1
   rw [size_toArray,<- hl]
   exact Option.some.inj h1
  exact PySem.W.ki_setBack ho (by omega) (by rw [size_toArray,<- hl]; exact h3) (by omega) (by rw [hk]; exact ⟨_,I',q⟩)
theorem gK (lo hi:Option Int) (n:Nat):(sliceBounds lo hi none n).1=((HT.sIx n 0 lo:Nat):Int)/\(sliceBounds lo hi none n).2.1=((HT.sIx n n hi:Nat):Int)/\(sliceBounds lo hi none n).2.2=1:=by
 refine ⟨?_,?_,rfl⟩
 ·cases lo with
  | none=>simp [sliceBounds,HT.sIx]
  | some i=>
   simp only [sliceBounds,HT.sIx,Option.getD_none,show (1:Int) > 0 by decide,if_true]
   by_cases h:i<0
   ·simp only [h,if_true]<;>omega
   ·simp only [h,if_false]<;>omega
 ·cases hi with
  | none=>simp [sliceBounds,HT.sIx]
  | some i=>
   simp only [sliceBounds,HT.sIx,Option.getD_none,show (1:Int) > 0 by decide,if_true]
   by_cases h:i<0
   ·simp only [h,if_true]<;>omega
   ·simp only [h,if_false]<;>omega
theorem fV (its:List Value) (lo hi:Option Int):slicePick its.toArray lo hi none=((its.drop (HT.sIx its.length 0 lo)).take (HT.sIx its.length its.length hi-HT.sIx its.length 0 lo)).toArray:=by
 obtain ⟨h1,h2,h3⟩:=gK lo hi its.toArray.size
 unfold slicePick
 rw [h1,h2,h3]
 simp only [sliceRange_one,pick_run,size_toArray]<;>rfl
def rSlL (K:Frag):V->Option Int->Option Int->Hp->VK->Prop:=λx lo hi H Q=>∃ a xs,x=.ref a/\SqL K H a xs/\∀ p,H p=none->Q (.ref p) (upd H p (.lst (cutV xs lo hi)))
theorem sl_list:SlR X (rSlL X.K):=by
 intro pins s σ H x v vl vu lo hi sl Q I rx hs pl pu h
 obtain ⟨a,xs,rfl,hx,q⟩:=h
 cases rx
 obtain ⟨its,r,ht,hz⟩:=I.list hx
 have hlen:=r.length
 refine ⟨"list",_,slot_list_getitem.lookup,ht.isList.typeIs,?_⟩
 refine wpAny_getItem_list_slice ht.isList hs pl pu .none (by simp) ?_ (by rw [size_toArray]<;>omega)
 rw [fV,<- hlen]
 refine ⟨.ref s.heap.objs.size,_,I.laid (t':=s.toks) (o:=.lst (cutV xs lo hi)) (λb ob q=>get?_push_of_some _ q) (Nat.le_refl _) ?_,rfl,q _ (I.hok.fresh (Nat.le_refl _))⟩
 exact ⟨Nat.le_trans (cutV_length xs lo hi) hz,_,0,(r.drop (HT.sIx xs.length 0 lo)).take (HT.sIx xs.length xs.length hi-HT.sIx xs.length 0 lo),get?_push_size _ rfl⟩
theorem gW:dc X (.builtin "len") (λxs H Q=>∃ p ys,xs=[.ref p]/\(SqL X.K H p ys\/SqT X.K H p ys)/\Q (.int ys.length) H):=by
 intro pins s σ H xs us Q I r h
 obtain ⟨p,ys,rfl,hq,q⟩:=h
 obtain ⟨u,rfl,rx⟩:=gb r
 cases rx
 have hn:=gu
 rcases hq with hq | hq
 ·obtain ⟨its,r',pl,hz⟩:=I.list hq
  have hlen:=r'.length
  exact Calls.call_len_list pl.isList (by simp only [size_toArray]<;>omega) ⟨.int ys.length,H,I.tok _,⟨s.toks+1,by rw [size_toArray,hlen]⟩,q⟩
 ·obtain ⟨its,r',pl,hz⟩:=I.tuple hq
  have hlen:=r'.length
  exact len_tuple pl (by simp only [size_toArray]<;>omega) ⟨.int ys.length,H,I.tok _,⟨s.toks+1,by rw [size_toArray,hlen]⟩,q⟩
theorem gJ:dc X (.type "list") (λxs H Q=>∃ p ys,xs=[.ref p]/\(SqL X.K H p ys\/SqT X.K H p ys)/\∀ l,H l=none->Q (.ref l) (upd H l (.lst ys))):=by
 intro pins s σ H xs us Q I r h
 obtain ⟨p,ys,rfl,hq,q⟩:=h
 obtain ⟨u,rfl,rx⟩:=gb r
 cases rx
 have fin:∀ (its:List Value),g6 ys its->ys.length<=sizeLine->∀ (h':Heap) (c':Nat),(∀ b o',s.heap.get? b=some o'->h'.get? b=some o')->
   h'.get? s.heap.objs.size=some { cls:=.type "list",dict:=none,data:=.seq its.toArray c',slots:=#[] }->EP X pins σ Q (.ref s.heap.objs.size) { s with heap:=h' }:=λits r' hz h' c' kp e=>
  ⟨.ref s.heap.objs.size,_,I.laid (t':=s.toks) kp (Nat.le_refl _) (show ig X.prog X.w _ h' _ (.lst ys) from ⟨hz,its,c',r',e⟩),rfl,q _ (I.hok.fresh (Nat.le_refl _))⟩
 rcases hq with hq | hq
 ·obtain ⟨its,r',pl,hz⟩:=I.list hq
  have hlen:=r'.length
  obtain ⟨o,ho,hc,n,hd⟩:=pl.isList
  exact call_list_seq p (.inl rfl) ho hc hd (λh' c' kp e=>fin its r' hz h' c' kp e) (by simp only [size_toArray]<;>omega)
 ·obtain ⟨its,r',pl,hz⟩:=I.tuple hq
  have hlen:=r'.length
  obtain ⟨o,ho,hc,n,hd⟩:=pl
  exact call_list_seq p (.inr rfl) ho hc hd (λh' c' kp e=>fin its r' hz h' c' kp e) (by simp only [size_toArray]<;>omega)
def tyV (K:Frag) (T:String) (x:V) (H:Hp):Prop:=match x with
 | .str _=>T = "str"
 | .int _=>T = "int"
 | .ref p=>(T = "list"/\∃ xs,SqL K H p xs)\/(T = "tuple"/\∃ o,K.lookup p=some o/\o.cls=.type "tuple"/\o.dict=none) \/
   (T = "dict"/\((∃ kvs,H p=some (.dK kvs))\/∃ kvs,H p=some (.dT kvs)))\/(T = "set"/\∃ S n,H p=some (.set S n))
 | _=>False
theorem tyV_is {pins:List (Addr × Obj)} {σ:St} {H:Hp} {s:Shared} {T:String} {x:V} {v:Value} (I:Inv X pins σ H s) (r:g7 x v) (ty:tyV X.K T x H) :
  s.TypeIs v T/\∀ a,v=.ref a->∃ ob,s.heap.get? a=some ob/\ob.dict=none:=by
 cases x with
 | str z=>
  obtain ⟨t,rfl⟩:=r
  cases (show T = "str" from ty)
  exact ⟨typeIs_str s z t,λ_ e=>nomatch e⟩
 | int i=>
  obtain ⟨t,rfl⟩:=r
  cases (show T = "int" from ty)
  exact ⟨typeIs_int s i t,λ_ e=>nomatch e⟩
 | ref p=>
  cases r
  rcases ty with ⟨rfl,xs,hq⟩ | ⟨rfl,o,hk,hc,hd⟩ | ⟨rfl,hk⟩ | ⟨rfl,S,n,hk⟩
  ·obtain ⟨its,_,pl,_⟩:=I.list hq
   refine ⟨pl.isList.typeIs,λa e=>?_⟩
   cases e
   obtain ⟨o,n,e,c,hd,_⟩:=pl
   exact ⟨o,e,hd⟩
  ·refine ⟨⟨o,I.kIn p o hk,hc⟩,λa e=>?_⟩
   cases e
   exact ⟨o,I.kIn _ o hk,hd⟩
  ·have z:∃ o,s.heap.get? p=some o/\o.ExactDict:=by
    rcases hk with ⟨kvs,hk⟩ | ⟨kvs,hk⟩
    ·obtain ⟨_,_,_,_,o,_,_,e,ex,_⟩:=I.hok p _ hk
     exact ⟨o,e,ex⟩
    ·obtain ⟨_,_,_,_,o,_,_,e,ex,_⟩:=I.hok p _ hk
     exact ⟨o,e,ex⟩
   obtain ⟨o,e,ex⟩:=z
   refine ⟨⟨o,e,ex.1⟩,λa e2=>?_⟩
   cases e2
   exact ⟨o,e,ex.2.1⟩
  ·obtain ⟨o,_,_,_,e,ex,_⟩:=I.hok p _ hk
   refine ⟨⟨o,e,ex.1⟩,λa e2=>?_⟩
   cases e2
   exact ⟨o,e,ex.2.1⟩
 | _=>exact False.elim ty
def tBM (K:Frag) (T:String) (r:V->List V->Hp->VK->Prop) (to:TE) (t:TA):TE:=λσ H Q=>to σ H λx H1=>tyV K T x H1/\t σ H1 λxs H2=>r x xs H2 Q
variable {o e:Expr} {es:List Expr} {to:TE} {t:TA} {name:Str} {apos cpos:Pos} {T id:String} {r:V->List V->Hp->VK->Prop}
theorem pe_bm (pa:PlainAttrs T) (slot:Slot T name id) (hty:typeOf (.builtin id)=pure (.type "method_descriptor")) (hm:MtR X id r) (ho:PE X o to) (ha:PA X (e::es) t)
  (hbase:attributeBase o name X.env (eval o X.env)=eval o X.env:=by rfl)
  (hfew:((backTo cpos (starEach (e::es) X.env)).all (λx=>!x.1) && (backToKw cpos (keywordEach [] X.env)).all (λx=>x.1.isSome)
   && decide ((e::es).length+([]:List Keyword).length+(if ([]:List Keyword).isEmpty then 0 else 1)<30))=true:=by rfl)
  (hline:(apos.endLine == cpos.line)=true:=by rfl) (hs:starEach (e::es) X.env=(false,eval e X.env)::starEach es X.env:=by rfl) (hplain:(backTo cpos (starEach es X.env)).any (·.1)=false:=by rfl) :
  PE X (.Call (.Attribute o name apos) (e::es) [] cpos) (tBM X.K T r to t):=by
 intro pins s σ H Q I h
 refine wpAny_Call_method_late hbase hfew hline rfl (thn (ho pins s σ H _ I h) λv s1 ⟨x,H1,I1,r1,ty,q1⟩=>?_)
 obtain ⟨h1,h2⟩:=tyV_is I1 r1 ty
 refine ⟨T,id,pa,slot,hty,h1,h2,?_⟩
 have hA:=ha cpos pins s1 σ H1 _ I1 q1
 rw [hs] at hA ⊢
 refine Calls.callWith_builtin (by show (false || (backTo cpos (starEach es X.env)).any (·.1))=false; rw [hplain]<;>rfl) (Calls.evalArgs_plain ?_)
 exact thn hA λus s2 ⟨vs,H2,I2,r2,q2⟩=>hm pins s2 σ H2 x vs v us Q I2 r1 r2 q2
end
def MtM (X:Cx) (id:String) (r:V->List V->Hp->VK->Prop):Prop:=
 ∀ (pins:List (Addr × Obj)) (s:Shared) (σ:St) (H:Hp) (x:V) (xs:List V) (v:Value) (us:List Value) (Q:VK),Inv X pins σ H s->g7 x v->g6 xs us->r x xs H Q->
  wpAny (model X.prog X.w) X.A (call (.builtin id) (v::us)) (EP X pins σ Q) X.xe s
theorem g6.one:∀ {x:V} {us:List Value},g6 [x] us->∃ u,us=[u]/\g7 x u
 | _,_,.cons r .nil=>⟨_,rfl,r⟩
section
variable {X:Cx} {pins:List (Addr × Obj)} {σ:St} {H:Hp} {s:Shared} {l b:Addr} {xs ys zs:List V}
theorem Inv.lset {its its':List Value} {n:Nat} {f:Array Value->Array Value} {t':Nat} (I:Inv X pins σ H s) (hH:H l=some (.lst xs))
  (e:s.heap.get? l=some { cls:=.type "list",data:=.seq its.toArray n }) (hf:f its.toArray=its'.toArray) (hv:g6 ys its') (hz:ys.length<=sizeLine) :
  Inv X pins σ (upd H l (.lst ys)) { s with heap:=s.heap.update l (Obj.mapSeq f),toks:=t' }:=by
 have q:=PySem.IsL.update e f
 rw [hf] at q
 refine I.write (x:=l) (e:=l) (by rw [hH]; exact trivial) (.inl rfl) (λb' u hb hu=>(Heap.get?_update_other s.heap (Obj.mapSeq f) (Ne.symm hb)).trans hu) ⟨_,q⟩ ?_
 exact ⟨hz,its',_,hv,q⟩
theorem Inv.lnew {its:List Value} {t':Nat} (I:Inv X pins σ H s) (hv:g6 ys its) (hz:ys.length<=sizeLine) :
  Inv X pins σ (upd H s.heap.objs.size (.lst ys)) { s with heap:=s.heap.push { cls:=.type "list",data:=.seq its.toArray },toks:=t' }:=
 I.laid (λ_ _ q=>get?_push_of_some _ q) (Nat.le_refl _) ⟨hz,its,0,hv,get?_push_size _ rfl⟩
theorem Inv.lstM (I:Inv X pins σ H s) (hH:H l=some (.lst xs)):xs.length<=sizeLine/\∃ (its:List Value) (n:Nat),g6 xs its/\xs.length=its.length/\s.heap.get? l=some { cls:=.type "list",data:=.seq its.toArray n }:=by
 obtain ⟨z,its,n,r,e⟩:=I.hok l _ hH
 exact ⟨z,its,n,r,r.length,e⟩
end
section
variable {X:Cx}
def rAppend:V->List V->Hp->VK->Prop:=λx vs H Q=>∃ l xs y,x=.ref l/\vs=[y]/\H l=some (.lst xs)/\xs.length<sizeLine/\Q .non (upd H l (.lst (xs++[y])))
theorem eD:MtM X "list.append" rAppend:=by
 intro pins s σ H x vs v us Q I rx rv h
 obtain ⟨l,xs,y,rfl,rfl,hH,hz,q⟩:=h
 cases rx
 obtain ⟨u,rfl,ru⟩:=rv.one
 obtain ⟨z,its,n,r,hl,e⟩:=I.lstM hH
 refine call_meets F.slot_list_append ⟨_,e,rfl⟩ F.entry_list_append (F.args_list_append_2 _ _) (PySem.list_append l its.toArray n u (by rw [size_toArray]; omega)) ⟨e,?_⟩
 refine ⟨.non,_,I.lset (its':=its++[u]) hH e (by simp) (r.append (.cons ru .nil)) ?_,rfl,q⟩
 rw [length_append,length_singleton]
 omega
end
end L2
namespace Att
open PySem PySem.W PySem.Calls PyProof.Rows
theorem eQ {P:Params} {h:Heap}:∀ (ns:List Int) (vs:List Value),WellAll P h vs (ns.map WData.int)->IntsAre vs ns:=by
 intro ns
 induction ns with
 | nil=>
  intro vs w
  rw [List.map_nil] at w
  cases w
  exact .nil
 | cons n ns ih=>
  intro vs w
  rw [map_cons] at w
  cases w with
  | cons a b=>
   cases a
   exact .cons _ _ (ih _ b)
theorem script_of {l:OpenLaw} {n:Nat} (hn:l.most=some n) {P:Params} {h:Heap} {args:List WData} {vals:List Value}
  (hpre:l.row.toRowW.claim.pre args=true) (hwl:WellAll P h vals args) :
  ∃ a vs ns,vals=[Value.ref a]/\args=[WData.list (ns.map WData.int)]/\h.get? a=some { cls:=.type "list",data:=.seq vs.toArray }/\IntsAre vs ns/\ns.length<=n:=by
 have hsh:WShape.hasAll [] args [.list .int]=true:=(pre_splitW hpre).1
 have hc:l.pre.holds [] { args:=args }=true:=(pre_splitW hpre).2
 obtain ⟨d,r,rfl,h1,h2⟩:=hasAllW_cons hsh
 obtain rfl:=hasAllW_nil h2
 obtain ⟨xs,rfl,h3⟩:=hasW_list h1
 obtain ⟨ns,rfl⟩:=items_int h3
 have hlen:ns.length<=n:=by
  unfold OpenLaw.pre at hc
  have h4:(WTm.not (.lt (.lit (.int (n:Int))) (.len (.arg 0)))).holds [] { args:=[.list (ns.map .int)] }=true:=by
   have h4:=(holds_andW hc).1
   rw [hn] at h4
   exact h4
  have h5:=condW_of h4 (w_not (w_lt w_lit (w_len_list (w_arg rfl))))
  rw [length_map] at h5
  refine Nat.le_of_not_lt λq=>?_
  have q':(n:Int)<((ns.length:Nat):Int):=by omega
  first
   | (rw [decide_eq_true q'] at h5; exact absurd h5 (by decide))
   | (simp at h5; omega)
 cases hwl with
 | cons w1 w2=>
  cases w2
  cases w1 with
  | list ho hall=>exact ⟨_,_,ns,rfl,rfl,ho,eQ ns _ hall,hlen⟩
theorem post_true (l:OpenLaw) (args:List WData):l.row.toRowW.claim.post args (.bool true) args=true:=
 postW_of (r:=l.row.toRowW) (X:=(true == true))
  (show WShape.has [] (.bool true) .bool=true by first | rfl | decide | simp [WShape.has,WShape.arms,WShape.armsAll])
  (show (WTm.eq .res (.lit (.bool true))).value [] { args:=args,res:=some (.bool true),after:=args }=some (.bool (true == true)) from w_eq_bool (w_res rfl) w_lit) rfl
theorem attach_call {l:OpenLaw} {n:Nat} {q:Program} {loose:List Str} {XP:(Str->Option Value)->Heap->Prop} {YP:World->Heap->Prop} {d:DefRec}
  (hn:l.most=some n) (hdf:d.params.defaults=[])
  (call:∀ (w:World) (s₀ s₁:Shared) (mg mb:Str->Option Value) (fa:Addr) (o:Obj) (pm cd doc:Value) (a:Addr) (vs:List Value) (ns:List Int),
   Ground q loose [] XP w s₀ mg mb s₁.heap->YP w s₁.heap->
   s₁.heap.get? fa=some o->o.data=.func (docDef d.name d.params d.body d.scope pm cd doc)->s₁.heap.CodeRec cd d.name->mg d.name=some (.ref fa)->
   s₁.heap.get? a=some { cls:=.type "list",data:=.seq vs.toArray }->IntsAre vs ns->ns.length<=n->s₁.gens = #[]->
   codeAny (model l.prog w) callerA (.call (.ref fa) ⟨[.ref a],[]⟩) (λr s'=>r=.ok (.ret (.bool true))/\OldK s₁.heap s'.heap/\s'.os=s₁.os/\AllBare s'.gens) s₁) :
  WalkO q loose XP YP l.row.toRowW d [] (λf vs=>PySem.call f vs):=by
 intro w s₀ s₁ mg mb G Y fa o pm cd doc dV kV ho hd hcd hD hmg hg args vals as hpre hlay hrd hwl hlo
 obtain rfl:dV=.none:=Dflts.none hD hdf
 obtain rfl:kV=.none:=Dflts.noKw hD
 obtain ⟨a,vs,ns,rfl,rfl,hobj,hints,hlen⟩:=script_of hn hpre hwl
 refine enter_call (codeAny_mono (call w s₀ s₁ mg mb fa o pm cd doc a vs ns G Y ho (fd_plain hd) hcd hmg hobj hints hlen hg) λr s' hq=>?_)
 obtain ⟨rfl,h2,h3,h4⟩:=hq
 exact ⟨.inl ⟨.bool true,.bool true,[],rfl,λ_=>rfl,.bool true,post_true l _,λ_=>⟨List.Pairwise.nil,λ_ hm=>(nomatch hm)⟩⟩,h2,h3,h4⟩
end Att
namespace L2
open PySem PySem.Spec PyProof.Rows
theorem f7:∀ {vs:List Value} {ns:List Int},IntsAre vs ns->g6 (ns.map V.int) vs
 | _,_,.nil=>.nil
 | _,_,.cons n t h=>.cons ⟨t,rfl⟩ (f7 h)
def Only (H:Hp):Prop:=∀ b,H b=none\/∃ o xs,H b=some (.frz o (.lst xs))
theorem law_call {P:Program} {w:World} {K:Frag} {mg mb:Str->Option Value} {CX:CXT} {k:Nat} {fa a:Addr} {fd:FuncData} {x:Str} {sp:Sp} {s₁:Shared} {vs:List Value} {ns:List Int}
  (KX:K.In s₁.heap) (hns:s₁.heap.Ns mainGlobals mg) (hb:s₁.heap.Ns builtinsNs mb) (hbb:∀ x:Str,x ≠ "__name__"->mb x=bootBuiltins x) (hlim:s₁.heap.NoLimit) (hg:s₁.gens = #[])
  (ha:s₁.heap.get? a=some { cls:=.type "list",data:=.seq vs.toArray }) (hi:IntsAre vs ns) (hl:ns.length<=sizeLine) (hr:hZ k callerA)
  (F:∀ base:Heap,K.In base->base.Ns mainGlobals mg->aI P w K mg base CX k fa fd [x] sp) (hbind:∀ (s:Shared) (u:Value),BindsTo s fd ⟨[u],[]⟩ [(x,u)])
  (hsp:∀ H:Hp,Only H->SqL K H a (ns.map V.int)->sp [.ref a] H (λv _=>v=.bl true) λ_ _ _=>False)
  (hCX:∀ H e s',CX [] H s₁ (λ_ _ _=>False) e s'->False) :
  codeAny (model P w) callerA (.call (.ref fa) ⟨[.ref a],[]⟩) (λr s'=>r=.ok (.ret (.bool true))/\OldK s₁.heap s'.heap/\s'.os=s₁.os/\AllBare s'.gens) s₁:=by
 have rv:=f7 hi
 have lenV:=hi.length
 have core:∀ H:Hp,Only H->SqL K H a (ns.map V.int)->HOk P w H s₁.heap->(∀ b,H b ≠ none->b=a)->(H a ≠ none->K.lookup a=none)->
   codeAny (model P w) callerA (.call (.ref fa) ⟨[.ref a],[]⟩) (λr s'=>r=.ok (.ret (.bool true))/\OldK s₁.heap s'.heap/\s'.os=s₁.os/\AllBare s'.gens) s₁:=by
  intro H hO hS hok hA hK
  have base_of:∀ {b:Addr} {o:Obj},s₁.heap.get? b=some o->H b=none->(gE s₁.heap H).get? b=some o:=λe n=>hidT_get e n
  have noA:∀ {b:Addr} {o:Obj} {es:Array DictEntry} {ep:Nat},s₁.heap.get? b=some o->o.data=.dict es ep->H b=none:=λ{b o es ep} e d=>by
   cases q:H b with
   | none=>rfl
   | some u=>
    have e':b=a:=hA b (by rw [q]; simp)
    subst e'
    rw [ha] at e; cases e
    have d':Data.seq vs.toArray _=Data.dict es ep:=d
    cases d'
  have nsK:∀ {b:Addr} {m:Str->Option Value},s₁.heap.Ns b m->(gE s₁.heap H).Ns b m:=λ{b m} ⟨o,es,ep,e,d,r⟩=>⟨o,es,ep,base_of e (noA e d),d,r⟩
  have hKb:K.In (gE s₁.heap H):=λb o e=>base_of (KX b o e) (by
   cases q:H b with
   | none=>rfl
   | some u=>
    have e':b=a:=hA b (by rw [q]; simp)
    subst e'
    rw [hK (by rw [q]; simp)] at e; cases e)
  have hM:Mod K mg (gE s₁.heap H):=⟨hKb,nsK hns,⟨mb,nsK hb,hbb⟩,let ⟨mc,h1,h2⟩:=hlim; ⟨mc,nsK h1,h2⟩⟩
  have e0:Env0 P w K mg (gE s₁.heap H) callerA [] s₁ H:=⟨rfl,hM,λb o e=>of_hidT e,Nat.le_of_eq (hidT_size _ _),trivial,λb hb=>absurd (show b ∈ ([]:List Addr) from hb) (by simp),hok,.of_eq hg⟩
  refine codeAny_mono ((F _ hKb (nsK hns)).run callerA [] s₁ H ⟨[.ref a],[]⟩ [.ref a] [.ref a] _ _ hr e0 (hbind s₁ (.ref a)) (.cons rfl .nil) (hsp H hO hS)) λr s' h=>?_
  cases r with
  | error e=>exact (hCX H e s' h).elim
  | ok fl=>
   cases fl with
   | next=>exact False.elim h
   | brk=>exact False.elim h
   | cont=>exact False.elim h
   | ret u=>
    obtain ⟨v,H',os,bare,un,hok',r',q⟩:=h
    have q':v=.bl true:=q
    subst q'
    obtain rfl:u=Value.bool true:=r'
    refine ⟨rfl,OldK.of_keep λb o e=>?_,os,bare⟩
    cases q:H b with
    | none=>exact un.keep b o e q (by intro z; exact absurd (show b ∈ ([]:List Addr) from z) (by simp)) (by simp)
    | some u=>
     rcases hO b with z | ⟨ob,xs,z⟩
     ·rw [q] at z; cases z
     ·have z2:=un.frzs b ob _ z
      obtain ⟨e1,_⟩:=hok b _ z
      obtain ⟨e2,_⟩:=hok' b _ z2
      rw [e] at e1; cases e1
      exact e2
 cases hk:K.lookup a with
 | some o=>
  have e:=KX a o hk
  rw [ha] at e
  cases e
  refine core (λ_=>none) (λ_=>.inl rfl) (.inr ⟨_,vs.toArray,_,hk,rfl,rfl,rfl,by rw [size_toArray,lenV]; exact hl,by simpa using rv⟩) (λb u z=>by have z':(none:Option HO)=some u:=z; cases z') (λb z=>absurd rfl z) λz=>absurd rfl z
 | none=>
  refine core (λb=>if b=a then some (.frz { cls:=.type "list",data:=.seq vs.toArray } (.lst (ns.map V.int))) else none) (λb=>?_) (.inl (.inr ⟨{ cls:=.type "list",data:=.seq vs.toArray },if_pos rfl⟩)) (λb u z=>?_) (λb z=>?_) λ_=>hk
  ·by_cases hb:b=a
   ·exact .inr ⟨_,_,if_pos hb⟩
   ·exact .inl (if_neg hb)
  ·by_cases hb:b=a
   ·have z':=(if_pos hb).symm.trans z
    cases z'
    subst hb
    exact ⟨ha,by rw [length_map]; exact hl,vs,_,rv,ha⟩
   ·have z':=(if_neg hb).symm.trans z
    cases z'
  ·by_cases hb:b=a
   ·exact hb
   ·exact absurd (if_neg hb) z
theorem walk_of {l:PySem.W.OpenLaw} {n k:Nat} {q:Program} {loose:List Str} {XP:(Str->Option Value)->Heap->Prop} {YP:World->Heap->Prop} {d:DefRec} {K:Params->Frag} {CX:World->CXT} {sp:World->Sp} {x:Str}
  (hn:l.most=some n) (hn2:n<=sizeLine) (hdf:d.params.defaults=[]) (hr:hZ k callerA)
  (hY:∀ (w:World) (h:Heap),YP w h->(K w.params).In h)
  (F:∀ (w:World) (mg:Str->Option Value) (fa:Addr) (h:Heap),(K w.params).In h->h.Ns mainGlobals mg->mg d.name=some (.ref fa)->
   ∃ fd:FuncData,(∀ (s:Shared) (u:Value),BindsTo s fd ⟨[u],[]⟩ [(x,u)])/\
    ∀ base:Heap,(K w.params).In base->base.Ns mainGlobals mg->aI l.prog w (K w.params) mg base (CX w) k fa fd [x] (sp w))
  (hsp:∀ (w:World) (H:Hp) (a:Addr) (ns:List Int),ns.length<=n->Only H->SqL (K w.params) H a (ns.map V.int)->sp w [.ref a] H (λv _=>v=.bl true) λ_ _ _=>False)
  (hCX:∀ (w:World) (H:Hp) (s:Shared) (e:Value) (s':Shared),CX w [] H s (λ_ _ _=>False) e s'->False) :
  PySem.W.WalkO q loose XP YP l.row.toRowW d [] (λf vs=>PySem.call f vs):=by
 refine Att.attach_call hn hdf λw s₀ s₁ mg mb fa o pm cd doc a vs ns G Y ho hd hcd hmg hobj hints hlen hg=>?_
 have KX:=hY w _ Y
 obtain ⟨fd,hb,hF⟩:=F w mg fa _ KX G.T.g hmg
 exact law_call KX G.T.g G.T.b G.T.builtins G.T.nolimit hg hobj hints (Nat.le_trans hlen hn2) hr hF hb (λH hO hS=>hsp w H a ns hlen hO hS) λH e s'=>hCX w H s₁ e s'
def inClass (s:Stmt) (j:Nat):Stmt:=match s with
 | .ClassDef _ _ _ body _ _ _ _ _ _ _=>body.getD j (.Pass ⟨0,0,0,0⟩)
 | _=>.Pass ⟨0,0,0,0⟩
def bR (s:Stmt):Arguments:=match s with
 | .FunctionDef _ a _ _ _ _ _ _ _ _=>a
 | _=>{ posonlyargs:=[],args:=[],vararg:=none,kwonlyargs:=[],kw_defaults:=[],kwarg:=none,defaults:=[] }
def bx (s:Stmt):List Stmt:=match s with
 | .FunctionDef _ _ b _ _ _ _ _ _ _=>b
 | _=>[]
def aj (s:Stmt):Scope:=match s with
 | .FunctionDef _ _ _ _ _ _ sc _ _ _=>sc
 | _=>{ kind:=.function,names:=[],isGenerator:=false,isCoroutine:=false }
abbrev CX0:CXT:=λ_ _ _ _ _ _=>False
abbrev E0:XK:=λ_ _ _=>False
theorem pass0 {X:Cx}:et CX0 X E0:=λ_ _ _ _ _ _ _ h=>h.elim
structure Fun (K:Frag) (x qual:Str) (st:Stmt) (f:Addr) (fd:FuncData):Prop where
 ex:∃ (oc:Value) (od:Option Addr) (kV doc pm:Value) (an:Option Addr) (cdv ct:Value) (osl:Array (Option Value)),
  fd=fnOf x qual (bR st) (bx st) (aj st) .none kV doc pm an cdv ct/\K.lookup f=some ⟨oc,od,.func fd,osl⟩/\codeIn K cdv qual=true
 kp:keepIn K (.ref f)=true
section
variable {P:Program} {w:World} {K:Frag} {mg:Str->Option Value} {base:Heap}
theorem Fun.ok {x qual:Str} {st:Stmt} {f:Addr} {fd:FuncData} {N ps:List Str} {k:Nat} {sp:Sp} (F:Fun K x qual st f fd) (S:g0 N ps (aj st)) (len:∀ vs H Q E,sp vs H Q E->vs.length=ps.length)
  (hbody:∀ (cdv:Value) (A:Around) (outer:List Env) (s:Shared) (H:Hp) (vs:List V) (Q:VK) (E:XK),hZ k (A.deeper (envOfC qual (aj st) s.heap.objs.size f cdv))->sp vs H Q E->
   ∃ t,PSs (cxOf CX0 P w K mg base N qual (aj st) f cdv A outer s H E).nox (bx st) t/\t { nx:=λ_ H'=>Q .non H',rt:=Q } (dQ N vs) H):aI P w K mg base CX0 (k+1) f fd ps sp:=by
 obtain ⟨oc,od,kV,doc,pm,an,cdv,ct,osl,rfl,lk,hcd⟩:=F.ex
 refine fn_of lk hcd S len λA outer s H vs Q E hr hsp=>?_
 obtain ⟨t,h,q⟩:=hbody cdv A outer s H vs Q E hr hsp
 exact ⟨t,h.nox,q⟩
theorem Fun.binds {x qual:Str} {st:Stmt} {f:Addr} {fd:FuncData} {ps:List Str} (F:Fun K x qual st f fd)
  (h:∀ (kV doc pm:Value) (an:Option Addr) (cdv ct:Value) (us:List Value),us.length=ps.length->bindArgs (fnOf x qual (bR st) (bx st) (aj st) .none kV doc pm an cdv ct) ⟨us,[]⟩=pure (ps.zip us)):Binds K fd ps []:=by
 obtain ⟨oc,od,kV,doc,pm,an,cdv,ct,osl,rfl,lk,hcd⟩:=F.ex
 exact .all (h kV doc pm an cdv ct)
theorem gv {x qual:Str} {st:Stmt} {f:Addr} {oc:Value} {od an:Option Addr} {osl:Array (Option Value)} {kV doc pm cdv ct:Value} (l:K.lookup f=some ⟨oc,od,.func (fnOf x qual (bR st) (bx st) (aj st) .none kV doc pm an cdv ct),osl⟩)
  (c:codeIn K cdv qual=true) (k:keepIn K (.ref f)=true):Fun K x qual st f (fnOf x qual (bR st) (bx st) (aj st) .none kV doc pm an cdv ct):=⟨⟨oc,od,kV,doc,pm,an,cdv,ct,osl,rfl,l,c⟩,k⟩
end
theorem gd {n:Nat} (h:n<=1000):n<sizeLine:=Nat.lt_of_le_of_lt h (by decide)
section
variable {X:Cx}
theorem pv (i:Nat) {x:Str} {pos:Pos} (hN:X.N[i]? = some x:=by rfl) (hv:Vis X.env.scope x:=by first | exact Or.inl rfl | exact Or.inr (Or.inl rfl) | exact Or.inr (Or.inr rfl)) (hd:(x == ("__debug__" : Str))=false:=by decide)
  (hcd:(x == ("__classdict__" : Str))=false:=by decide):PE X (.Name x pos) (tVar i):=pe_var hN hv hd hcd
end
theorem eo {A B:Prop} (h:B):if false=true then A else B:=by
 rw [if_neg Bool.false_ne_true]
 exact h
theorem iteT {A B:Prop} (h:A):if true=true then A else B:=by
 rw [if_pos rfl]
 exact h
theorem bc {c A B:Prop} [Decidable c] (h1:c->A) (h2:¬ c->B):if c then A else B:=by
 by_cases h:c
 ·rw [if_pos h]
  exact h1 h
 ·rw [if_neg h]
  exact h2 h
theorem iteNS {c A B:Prop} [Decidable c] (hc:c) (h:B):if (!decide c)=true then A else B:=by
 rw [decide_eq_true hc]
 exact eo h
def gY (H H':Hp):Prop:=∀ b o,H b=some o->H' b=some o
theorem gY.refl (H:Hp):gY H H:=λ_ _ h=>h
theorem gY.trans {H H1 H2:Hp} (a:gY H H1) (b:gY H1 H2):gY H H2:=λc o h=>b c o (a c o h)
theorem gY.free {H H':Hp} (e:gY H H') {l:Addr} (h:H' l=Option.none):H l=Option.none:=by
 cases q:H l with
 | none=>rfl
 | some o=>
  rw [e l o q] at h
  cases h
theorem gY.seq {K:Frag} {H H':Hp} {a:Addr} {xs:List V} (e:gY H H') (h:SqL K H a xs):SqL K H' a xs:=by
 rcases h with (h | ⟨o,h⟩) | h
 ·exact .inl (.inl (e _ _ h))
 ·exact .inl (.inr ⟨o,e _ _ h⟩)
 ·exact .inr h
section
variable {prog:Program} {w:World} {A:Around} {R:Result->Shared->Prop} {s:Shared}
theorem dE {elt target iter:Expr} {ifs:List Expr} {scope:Scope} {pos:Pos} {it acc:Value} {env:Env} (I:Nat->Shared->Prop)
  (turn:∀ n s,I n s->wpAny (model prog w) A (pyNext it) (λr s₁=>match r with
   | none=>R (.ok .next) s₁
   | some v=>wpAny (model prog w) A (letOwnedTupleGo target it v) (λ_ s₁'=>wpAny (model prog w) A (assign target env v) (λ_ s₂=>
     wpAny (model prog w) A (forIn ifs true λc r=>if r=true then do let ok <- isTrue c env (eval c env); pure (ForInStep.yield ok) else pure (ForInStep.yield r)) (λok s₃=>
      if ok=true then wpAny (model prog w) A (eval elt env) (λx s₄=>
       wpAny (model prog w) A (call (.builtin "list.append") [acc,x]) (λ_ s₅=>∃ m,m<n/\I m s₅) (λ_ _=>False) s₄) (λ_ _=>False) s₃
      else ∃ m,m<n/\I m s₃) (λ_ _=>False) s₂) (λ_ _=>False) s₁') (λ_ _=>False) s₁) (λ_ _=>False) s)
  (n:Nat) (h:I n s) :
  codeAny (model prog w) A (.compLoop (.ListComp elt [⟨target,iter,ifs,0⟩] scope pos) 0 it acc env) R s:=by
 refine codeAny_loop rfl I (λn s hI=>?_) n h
 show wpAny _ A ((compTurn (.ListComp elt [⟨target,iter,ifs,0⟩] scope pos) 0 it acc env).onRaise (λx=>do noteFrame x env; theTreesLotGoes x)) _ _ s
 refine wpAny_noted ?_
 rw [compTurn_list]
 refine wpAny_bind (wpAny_standAt (wpAny_bind (wpAny_mono (turn n s hI) (λr s₁ h₁=>?_) λ_ _ h'=>h'.elim)))
 cases r with
 | none=>exact wpAny_pure h₁
 | some v=>
  refine wpAny_bind (wpAny_mono h₁ (λ_ s₁' h₁'=>?_) λ_ _ h'=>h'.elim)
  refine wpAny_bind (wpAny_mono h₁' (λ_ s₂ h₂=>wpAny_bind (wpAny_mono h₂ (λok s₃ h₃=>?_) λ_ _ h'=>h'.elim)) λ_ _ h'=>h'.elim)
  cases ok with
  | false=>exact wpAny_pure ⟨rfl,h₃⟩
  | true=>
   exact wpAny_bind (wpAny_bind (wpAny_mono h₃ (λx s₄ h₄=>wpAny_bind (wpAny_mono h₄ (λ_ s₅ h₅=>wpAny_pure (wpAny_pure ⟨rfl,h₅⟩)) λ_ _ h'=>h'.elim)) λ_ _ h'=>h'.elim))
end
def bq (env:Env):List (Str × NameKind)->List (Str × Addr)->List (Str × Addr)
 | [],cs=>cs
 | (n,k)::r,cs=>bq env r (if k == .free then (n,(env.cells.lookup n).getD 0)::cs else cs)
theorem fP {env:Env}:∀ (l:List (Str × NameKind)) (cs:List (Str × Addr)),(∀ x ∈ l,x.2=.free->∃ c,env.cells.lookup x.1=some c)->
  (do let r <- forIn l cs (λ(x:Str × NameKind) (cs:List (Str × Addr))=>if (x.2 == .free)=true then do let a <- cellOf env x.1; pure (ForInStep.yield ((x.1,a)::cs)) else pure (ForInStep.yield cs)); pure r:Sem (List (Str × Addr)))=pure (bq env l cs)
 | [],cs,_=>rfl
 | (n,k)::r,cs,h=>by
  have ih:=λcs'=>fP (env:=env) r cs' λx hx=>h x (mem_cons_of_mem _ hx)
  rw [forIn_cons]
  cases hk:(k == NameKind.free) with
  | false=>
   simp only [hk,Bool.false_eq_true,if_false]
   show (do let r <- forIn r cs _; pure r:Sem _)=_
   rw [ih]
   simp only [bq,hk,Bool.false_eq_true,if_false]
  | true=>
   obtain ⟨c,hc⟩:=h (n,k) mem_cons_self (by simpa using hk)
   have hco:cellOf env n=pure c:=by unfold cellOf; simp only at hc; rw [hc]
   simp only [hk,if_true,hco]
   show (do let r <- forIn r ((n,c)::cs) _; pure r:Sem _)=_
   rw [ih]
   simp only at hc
   simp only [bq,hk,if_true,hc,Option.getD_some]
theorem dh {env:Env} {scope:Scope} (h:∀ x ∈ scope.names,x.2=.free->∃ c,env.cells.lookup x.1=some c):closureFor scope env=pure (bq env scope.names []):=by
 have q:=fP scope.names [] h
 unfold closureFor
 exact congrArg (λ(m:Sem (List (Str × Addr)))=>m >>= pure) q
theorem cls_in {env:Env}:∀ (l:List (Str × NameKind)) (cs:List (Str × Addr)) (n:Str) (c:Addr),(∀ x ∈ l,x.2=.free->∃ c,env.cells.lookup x.1=some c)->
  (bq env l cs).lookup n=some c->env.cells.lookup n=some c\/cs.lookup n=some c
 | [],cs,n,c,_,h=>.inr h
 | (m,k)::r,cs,n,c,hf,h=>by
  have ih:=cls_in r (if (k == .free)=true then (m,(env.cells.lookup m).getD 0)::cs else cs) n c (λx hx=>hf x (mem_cons_of_mem _ hx)) h
  cases hk:(k == NameKind.free) with
  | false=>
   simp only [hk,Bool.false_eq_true,if_false] at ih
   exact ih
  | true=>
   simp only [hk,if_true] at ih
   rcases ih with ih | ih
   ·exact .inl ih
   ·cases hx:n == m with
    | true=>
     simp only [lookup_cons,hx] at ih
     obtain ⟨c',hc'⟩:=hf (m,k) mem_cons_self (by simpa using hk)
     simp only at hc'
     rw [hc'] at ih
     have e:n=m:=by simpa using hx
     subst e
     exact .inl (hc'.trans ih)
    | false=>
     simp only [lookup_cons,hx] at ih
     exact .inr ih
theorem cls_keep {env:Env}:∀ (l:List (Str × NameKind)) (cs:List (Str × Addr)) (n:Str),(∃ c,cs.lookup n=some c)->∃ c,(bq env l cs).lookup n=some c
 | [],cs,n,h=>h
 | (m,k)::r,cs,n,⟨c,h⟩=>by
  refine cls_keep r _ n ?_
  by_cases hk:(k == NameKind.free)=true
  ·rw [if_pos hk]
   cases hx:n == m with
   | true=>exact ⟨(env.cells.lookup m).getD 0,by simp only [lookup_cons,hx]⟩
   | false=>exact ⟨c,by simp only [lookup_cons,hx]; exact h⟩
  ·rw [if_neg hk]
   exact ⟨c,h⟩
theorem dF {env:Env}:∀ (l:List (Str × NameKind)) (cs:List (Str × Addr)) (n:Str),(n,NameKind.free) ∈ l->∃ c,(bq env l cs).lookup n=some c
 | [],_,_,h=>absurd h (by simp)
 | (m,k)::r,cs,n,h=>by
  rcases List.mem_cons.mp h with e | e
  ·cases e
   refine cls_keep r _ _ ?_
   exact ⟨_,by simp [lookup_cons]; rfl⟩
  ·exact dF r _ n e
theorem bw {env:Env}:∀ (names:List (Str × NameKind)) (x:Str),
  (names.map λ(n,k)=>if (k == NameKind.free && env.scope.kind == .function && env.kindOf n == some .cell) then (n,NameKind.cell) else (n,k)).lookup x
   = (names.lookup x).map λk=>if (k == NameKind.free && env.scope.kind == .function && env.kindOf x == some .cell)=true then NameKind.cell else k
 | [],x=>rfl
 | (n,k)::r,x=>by
  have ih:=bw (env:=env) r x
  show List.lookup x ((if (k == NameKind.free && env.scope.kind == .function && env.kindOf n == some .cell)=true then (n,NameKind.cell) else (n,k))::_)=_
  cases hx:x == n with
  | true=>
   have e:x=n:=by simpa using hx
   subst e
   by_cases hc:(k == NameKind.free && env.scope.kind == .function && env.kindOf x == some .cell)=true
   ·rw [if_pos hc]; simp only [lookup_cons,hx,Option.map_some]; rw [if_pos hc]
   ·rw [if_neg hc]; simp only [lookup_cons,hx,Option.map_some]; rw [if_neg hc]
  | false=>
   by_cases hc:(k == NameKind.free && env.scope.kind == .function && env.kindOf n == some .cell)=true
   ·rw [if_pos hc]; simp only [lookup_cons,hx]; exact ih
   ·rw [if_neg hc]; simp only [lookup_cons,hx]; exact ih
def gU (outer scope:Scope):Bool:=
 scope.kind == .function && outer.kind == .function && scope.names.all λx=>x.2 != .cell && (x.2 != .local || scope.names.lookup x.1 == some .local) && (x.2 != .free || (outer.names.lookup x.1 == some .cell || outer.names.lookup x.1 == some .free))
def dR (XN N:List Str) (src:List (Option Nat)) (scope:Scope):Bool:=
 src.length == N.length && (List.range N.length).all λi=>match src[i]?.join with
  | none=>true
  | some j=>N[i]? == XN[j]? && (N[i]?).any λx=>scope.names.lookup x == some .free
def aY (src:List (Option Nat)) (σ:St):St:=src.map λo=>o.bind λj=>(σ[j]?).join
def cxC (X:Cx) (N:List Str) (scope:Scope) (s:Shared) (H:Hp) (ex:List Addr):Cx where
 prog:=X.prog
 w:=X.w
 K:=X.K
 mg:=X.mg
 base:=X.base
 A:=X.A
 N:=N
 s₀:=s
 H₀:=H
 env:=compEnvC scope (bq X.env scope.names []) s.heap.objs.size X.env
 outer:=X.stack
 stack:=X.stack
 ex:=ex
 fn:=λ_=>false
 calm:=X.calm
 pn:=[]
 xe:=λ_ _=>False
structure h8 (X:Cx) (scope:Scope):Prop where
 kind:scope.kind=.function
 nocell:∀ x ∈ scope.names,x.2 ≠ .cell
 names:∀ x ∈ scope.names,x.2=.local->scope.names.lookup x.1=some .local
 free:∀ x ∈ scope.names,x.2=.free->X.env.kindOf x.1=some .cell\/X.env.kindOf x.1=some .free
theorem ga {X:Cx} {scope:Scope} (h:gU X.env.scope scope=true):h8 X scope:=by
 unfold gU at h
 simp only [Bool.and_eq_true,beq_iff_eq,all_eq_true,Bool.or_eq_true,bne_iff_ne] at h
 obtain ⟨⟨h1,_⟩,h2⟩:=h
 refine ⟨h1,λx hx=>(h2 x hx).1.1,λx hx e=>?_,λx hx e=>?_⟩
 ·rcases (h2 x hx).1.2 with z | z
  ·exact absurd e z
  ·exact z
 ·rcases (h2 x hx).2 with z | z
  ·exact absurd e z
  ·exact z
theorem h8.cells {X:Cx} {scope:Scope} (f:h8 X scope) (ok:X.Ok):∀ x ∈ scope.names,x.2=.free->∃ c,X.env.cells.lookup x.1=some c:=λx hx e=>ok.has x.1 (f.free x hx e)
theorem h8.cl {X:Cx} {scope:Scope} (f:h8 X scope) (ok:X.Ok) {n:Str} {c:Addr} (h:(bq X.env scope.names []).lookup n=some c):X.env.cells.lookup n=some c:=by
 rcases cls_in _ _ _ _ (f.cells ok) h with z | z
 ·exact z
 ·cases z
theorem h8.kf {X:Cx} {scope:Scope} (f:h8 X scope) {x:Str} (h:(relabel scope X.env).names.lookup x=some .cell\/(relabel scope X.env).names.lookup x=some .free):scope.names.lookup x=some .free:=by
 unfold relabel at h
 simp only at h
 rw [bw] at h
 cases e:scope.names.lookup x with
 | none=>rw [e] at h; rcases h with z | z<;>cases z
 | some k=>
  rw [e] at h
  simp only [Option.map_some,Option.some.injEq] at h
  cases k with
  | free=>rfl
  | cell=>exact absurd rfl (f.nocell _ (PySem.mem_of_lookup e))
  | _=>simp at h
theorem h8.fk {X:Cx} {scope:Scope} {x:Str} (h:scope.names.lookup x=some .free):(relabel scope X.env).names.lookup x=some .cell\/(relabel scope X.env).names.lookup x=some .free:=by
 unfold relabel
 simp only
 rw [bw,h]
 simp only [Option.map_some,Option.some.injEq]
 split
 ·exact .inl rfl
 ·exact .inr rfl
theorem srcOk_ix {XN N:List Str} {src:List (Option Nat)} {scope:Scope} (h:dR XN N src scope=true):src.length=N.length/\∀ (i:Nat) (x:Str) (j:Nat),N[i]? = some x->src[i]? = some (some j)->XN[j]? = some x/\scope.names.lookup x=some .free:=by
 unfold dR at h
 simp only [Bool.and_eq_true,beq_iff_eq,all_eq_true] at h
 refine ⟨h.1,λi x j h1 h2=>?_⟩
 have hi:i<N.length:=(List.getElem?_eq_some_iff.mp h1).1
 have q:=h.2 i (List.mem_range.mpr hi)
 rw [h2,h1] at q
 simp only [Option.join_some,Bool.and_eq_true,beq_iff_eq,Option.any_some] at q
 exact ⟨q.1.symm,q.2⟩
section
variable {X:Cx} {pins:List (Addr × Obj)} {σ:St} {H:Hp} {s:Shared}
theorem comp_start {N:List Str} {src:List (Option Nat)} {scope:Scope} {ex:List Addr} {h1:Heap} {m:Str->Option Value} {tk:Nat} (I:Inv X pins σ H s) (f:h8 X scope) (hsrc:dR X.N N src scope=true)
  (hex:∀ b ∈ ex,b<s.heap.objs.size/\b ≠ X.env.locals/\b ∉ X.fs/\(∀ x c,X.env.cells.lookup x=some c->c ≠ b)/\∀ o,X.base.get? b ≠ some o)
  (hn:h1.Ns s.heap.objs.size m) (hk:∀ b o,s.heap.get? b=some o->h1.get? b=some o) :
  Inv (cxC X N scope s H ex) [] (aY src σ) H { s with heap:=h1,toks:=tk }:=by
 obtain ⟨hlen,hix⟩:=srcOk_ix hsrc
 have ok:=I.ok
 have cellL:∀ x c,(bq X.env scope.names []).lookup x=some c->∃ v,s.heap.IsCell c v:=λx c e=>I.cell x c (f.cl ok e)
 have cellLt:∀ x c,(bq X.env scope.names []).lookup x=some c->c<s.heap.objs.size:=λx c e=>by
  obtain ⟨v,o,ho,_⟩:=cellL x c e
  exact lt_size ho
 have fsL:∀ b ∈ frs X.stack,b ∈ X.env.locals::X.fs:=I.stkSub
 refine ⟨⟨ok.mod,f.kind,ok.glob,ok.blt,Nat.le_refl _,λx y c h1 h2=>ok.inj x y c (f.cl ok h1) (f.cl ok h2),λx hx=>?_,λx c hx=>?_,ok.hd,ok.frames,.inl rfl,λb hb=>⟨Nat.ne_of_lt (hex b hb).1,λx c e=>(hex b hb).2.2.2.1 x c (f.cl ok e)⟩,I.bs,Nat.le_trans ok.bsz I.sz,λb o e hb=>(hex b hb).2.2.2.2 o e,λb hb hb'=>?_,I.stack,I.stkFree⟩,
  rfl,I.bare,Un.kept hk,⟨m,hn,λi x v e1 e2 e3=>?_⟩,λx c e=>?_,I.hok.fresh (Nat.le_refl _),λx c e=>I.freeC x c (f.cl ok e),λp hp=>absurd (show p ∈ ([]:List (Addr × Obj)) from hp) (by simp),I.hok.kept hk,?_⟩
 ·exact dF _ _ _ (PySem.mem_of_lookup (f.kf hx))
 ·cases hx
 ·rcases List.mem_cons.mp (fsL b hb') with z | z
  ·exact (hex b hb).2.1 z
  ·exact (hex b hb).2.2.1 z
 ·have e2':(aY src σ)[i]? = some (some v):=e2
  unfold aY at e2'
  rw [getElem?_map] at e2'
  cases hs:src[i]? with
  | none=>rw [hs] at e2'; cases e2'
  | some o=>
   rw [hs] at e2'
   cases o with
   | none=>cases e2'
   | some j=>
    obtain ⟨q1,q2⟩:=hix i x j e1 hs
    have e4:σ[j]? = some (some v):=by
     simp only [Option.map_some,Option.bind_some,Option.some.injEq] at e2'
     cases z:σ[j]? with
     | none=>rw [z] at e2'; cases e2'
     | some o=>rw [z] at e2'; simp only [Option.join_some] at e2'; rw [e2']
    have kx:=f.free (x,.free) (PySem.mem_of_lookup q2) rfl
    obtain ⟨mX,hnX,hl⟩:=I.loc
    obtain ⟨u,r,l⟩:=hl j x v q1 e4 (by rcases kx with z | z; exact .inr (.inl z); exact .inr (.inr z))
    refine ⟨u,r,.inr ⟨h8.fk (X:=X) q2,?_⟩⟩
    rcases l with ⟨l,_⟩ | ⟨_,c,ec,ic⟩
    ·rcases kx with z | z
     ·rw [z] at l; cases l
     ·rw [z] at l; cases l
    ·obtain ⟨c',hc'⟩:=dF (env:=X.env) scope.names [] x (PySem.mem_of_lookup q2)
     have z:=f.cl ok hc'
     rw [ec] at z
     cases z
     obtain ⟨oc,ho,hd⟩:=ic
     exact ⟨c,hc',oc,hk c oc ho,hd⟩
 ·obtain ⟨v,o,ho,hd⟩:=cellL x c e
  exact ⟨v,o,hk c o ho,hd⟩
 ·show (aY src σ).length=N.length
  unfold aY
  rw [length_map]
  exact hlen
def PIf (X:Cx) (ifs:List Expr) (t:TT):Prop:=
 ∀ (pins:List (Addr × Obj)) (s:Shared) (σ:St) (H:Hp) (Q:Bool->Hp->Prop),Inv X pins σ H s->t σ H Q->
  wpAny (model X.prog X.w) X.A (forIn ifs true λc r=>if r=true then do let ok <- isTrue c X.env (eval c X.env); pure (ForInStep.yield ok) else pure (ForInStep.yield r)) (TP X pins σ Q) X.xe s
def fq:TT:=λ_ H Q=>Q true H
theorem aX:PIf X [] fq:=λpins s σ H Q I h=>wpAny_pure ⟨H,I,h⟩
theorem gs {c:Expr} {t:TT} (hc:PT X c t):PIf X [c] t:=by
 intro pins s σ H Q I h
 rw [forIn_cons]
 simp only [if_true]
 refine wpAny_bind (wpAny_bind (thn (hc pins s σ H Q I h) λb s1 q=>wpAny_pure ?_))
 exact wpAny_pure q
def be (J:It) (src:List (Option Nat)) (g:TG) (tt:TT) (te:TE) (σ:St) (H1:Hp) (Q:VK):Prop:=∀ acc,H1 acc=none->
 ∃ W:Nat->Nat->St->Hp->Prop,(∃ m,W 0 m (aY src σ) (upd H1 acc (.lst [])))/\∀ i m σ H,W i m σ H->
  (J.stop i H/\Q (.ref acc) H)\/(J.go i H/\∃ N:St->Hp->Prop,(∀ σ' H',N σ' H'->∃ m',m' < m/\W (i+1) m' σ' H')/\∀ x H',J.yld i H x H'->g x σ H' λσ2 H2=>tt σ2 H2 λb H3=>
   if b=true then te σ2 H3 λy H4=>∃ ys,H4 acc=some (.lst ys)/\ys.length<sizeLine/\N σ2 (upd H4 acc (.lst (ys++[y]))) else N σ2 H3)
def tComp (src:List (Option Nat)) (wi:TI) (g:TG) (tt:TT) (te:TE):TE:=λσ H Q=>wi σ H λJ H1=>be J src g tt te σ H1 Q
theorem comp_run {elt tg iter:Expr} {ifs:List Expr} {scope:Scope} {pos:Pos} {N:List Str} {src:List (Option Nat)} {g:TG} {tt:TT} {te:TE} (use:Option (Value->Sem Unit)) (PQ:Value->Shared->Prop) (E:Value->Shared->Prop)
  (hcalm:X.calm=true) (f:h8 X scope) (hsrc:dR X.N N src scope=true)
  (hb:∀ (s:Shared) (H:Hp) (ex:List Addr),PG (cxC X N scope s H ex) tg g/\PIf (cxC X N scope s H ex) ifs tt/\PE (cxC X N scope s H ex) elt te)
  {it:Addr} {fp:List Addr} {tn:Nat->Heap->Prop} {J:It} (I:Inv X pins σ H s) (T:Turn X.prog X.w X.K tg J fp it tn) (st:tn 0 s.heap) (hf:∀ b ∈ fp,cH X pins H b) {Q:VK}
  (h:be J src g tt te σ H Q)
  (hfin:∀ (acc C:Addr) (s':Shared) (H':Hp) (m:Str->Option Value),s'.heap.Ns C m->cH X pins H' C->(∀ h',Heap.SameBut C s'.heap h'->Inv X pins σ H' { s' with heap:=h' })->Q (.ref acc) H'->compPost (model X.prog X.w) X.A E use PQ (.ref acc) C (.ok .next) s') :
  wpAny (model X.prog X.w) X.A (newList []) (λacc s₃=>
   wpAny (model X.prog X.w) X.A (newFunctionEnv scope X.env.globals (bq X.env scope.names []) [] X.env.qual none .none (some X.env)) (λcenv s₄=>
    codeAny (model X.prog X.w) X.A (.compStart (.ListComp elt [⟨tg,iter,ifs,0⟩] scope pos) 0 (.ref it) acc { cenv with scope:=relabel scope X.env }) (compPost (model X.prog X.w) X.A E use PQ acc cenv.locals) s₄) E s₃) E s:=by
 have ok:=I.ok
 have I3:Inv X pins σ (upd H s.heap.objs.size (.lst [])) { s with heap:=s.heap.push { cls:=.type "list",data:=.seq ([]:List Value).toArray },toks:=s.toks }:=I.lnew (ys:=[]) (its:=[]) .nil (Nat.zero_le _)
 obtain ⟨W,⟨m0,w0⟩,turn⟩:=h s.heap.objs.size (I.hok.fresh (Nat.le_refl _))
 refine wpAny_newObj_type (wpAny_newFunctionEnv f.nocell (by intro y hy; simp at hy) (λh₁ hns₁ hsb₁=>?_) f.kind)
 dsimp only at hns₁ hsb₁ ⊢
 generalize hs3:({ s with heap:=s.heap.push { cls:=.type "list",data:=.seq ([]:List Value).toArray },toks:=s.toks }:Shared)=s3 at I3
 have e3:s3.heap=s.heap.push { cls:=.type "list",data:=.seq ([]:List Value).toArray }:=by rw [<- hs3]
 have hk:∀ b o,s3.heap.get? b=some o->h₁.get? b=some o:=λb o e=>by
  rw [e3] at e
  exact hsb₁.extBut b o (Nat.ne_of_lt (lt_size e)) (get?_push_of_some _ e)
 have up3:∀ b o,s.heap.get? b=some o->s3.heap.get? b=some o:=λb o e=>by rw [e3]; exact get?_push_of_some _ e
 have nacc:∀ b ∈ fp,b ≠ s.heap.objs.size:=λb hb z=>by
  obtain ⟨o,e,_⟩:=T.obj 0 _ st b hb
  exact absurd (lt_size e) (by rw [z]; exact Nat.lt_irrefl _)
 have hex:∀ b ∈ fp,b<s3.heap.objs.size/\b ≠ X.env.locals/\b ∉ X.fs/\(∀ x c,X.env.cells.lookup x=some c->c ≠ b)/\∀ o,X.base.get? b ≠ some o:=λb hb=>by
  obtain ⟨o,e,_⟩:=T.obj 0 _ st b hb
  obtain ⟨f0,f1,f2,f3,f4,f5⟩:=hf b hb
  refine ⟨lt_size (up3 b o e),f1,f2,f4,λo' z=>?_⟩
  rcases f3 with q | q
  ·exact ok.noex b o' z q
  ·exact absurd (Nat.lt_of_lt_of_le (lt_size (ok.bs b o' z).1) q) (Nat.lt_irrefl _)
 have hns₁':h₁.Ns s3.heap.objs.size (λx=>([]:List (Str × Value)).reverse.lookup x):=by rw [e3]; exact hns₁
 have IY0:Inv (cxC X N scope s3 (upd H s.heap.objs.size (.lst [])) fp) [] (aY src σ) (upd H s.heap.objs.size (.lst [])) { s3 with heap:=h₁,toks:=s.toks+([]:List (Str × Value)).length }:=
  comp_start (tk:=s.toks+([]:List (Str × Value)).length) I3 f hsrc hex hns₁' hk
 generalize hY:cxC X N scope s3 (upd H s.heap.objs.size (.lst [])) fp=Y at IY0
 have hb':PG Y tg g/\PIf Y ifs tt/\PE Y elt te:=by rw [<- hY]; exact hb s3 _ fp
 obtain ⟨hg,ht,he⟩:=hb'
 have Yp:Y.prog=X.prog:=by rw [<- hY]; rfl
 have Yw:Y.w=X.w:=by rw [<- hY]; rfl
 have YK:Y.K=X.K:=by rw [<- hY]; rfl
 have YA:Y.A=X.A:=by rw [<- hY]; rfl
 have Yc:Y.calm=true:=by rw [<- hY]; exact hcalm
 have Yx:Y.xe=λ_ _=>False:=by rw [<- hY]; rfl
 have Ye:Y.env=compEnvC scope (bq X.env scope.names []) s3.heap.objs.size X.env:=by rw [<- hY]; rfl
 have Ys:Y.s₀=s3:=by rw [<- hY]; rfl
 have YH:Y.H₀=upd H s.heap.objs.size (.lst []):=by rw [<- hY]; rfl
 have Yf:Y.fs=frs X.stack:=by rw [<- hY]; rfl
 have Yex:Y.ex=fp:=by rw [<- hY]; rfl
 have Ypn:Y.pn=[]:=by rw [<- hY]; rfl
 have stat:∀ {H':Hp},(∀ b ∈ fp,H' b=none)->∀ b ∈ fp,cH Y [] H' b:=λ{H'} hn b hb=>by
  obtain ⟨x1,x2,x3,x4,x5⟩:=hex b hb
  refine ⟨hn b hb,?_,?_,.inl (by rw [Yex]; exact hb),?_,λp hp=>?_⟩
  ·rw [Ye]; exact Nat.ne_of_lt x1
  ·rw [Yf]
   intro z
   rcases List.mem_cons.mp (I.stkSub b z) with q | q
   ·exact x2 q
   ·exact x3 q
  ·rw [Ye]
   intro x c e
   exact x4 x c (f.cl ok e)
  ·rw [Ypn] at hp
   exact absurd hp (by simp)
 have loop:∀ s4:Shared,s4=({ s3 with heap:=h₁,toks:=s.toks+([]:List (Str × Value)).length }:Shared)->
   codeAny (model X.prog X.w) X.A (.compLoop (.ListComp elt [⟨tg,iter,ifs,0⟩] scope pos) 0 (.ref it) (.ref s.heap.objs.size) (compEnvC scope (bq X.env scope.names []) s3.heap.objs.size X.env))
    (compPost (model X.prog X.w) X.A E use PQ (.ref s.heap.objs.size) s3.heap.objs.size) s4:=by
  rintro s4 rfl
  refine dE (λn s'=>∃ i σ' H',Inv Y [] σ' H' s'/\tn i s'.heap/\(∀ b ∈ fp,H' b=none)/\W i n σ' H') ?_ m0
   ⟨0,aY src σ,_,IY0,T.keep 0 _ _ st λb hb o e=>hk b o (up3 b o e),λb hb=>by rw [ar (nacc b hb)]; exact (hf b hb).1,w0⟩
  rintro n s5 ⟨i,σ5,H5,I5,st5,fr5,w5⟩
  rcases turn i n σ5 H5 w5 with ⟨stop,qn⟩ | ⟨go,Nn,hNn,step⟩
  ·have q:=T.done Y Yp Yw YK Yc i [] s5 σ5 H5 (λ_ _=>False) I5 (stat fr5) st5 stop
   rw [YA] at q
   refine thn q λr s6 ⟨hr,I6⟩=>?_
   subst hr
   obtain ⟨m6,hn6,_⟩:=id I6.loc
   have eL:Y.env.locals=s3.heap.objs.size:=by rw [Ye]; rfl
   rw [eL] at hn6
   refine hfin s.heap.objs.size s3.heap.objs.size s6 H5 m6 hn6 (I3.fpOk (Nat.le_refl _) (by have z:=I6.free; rw [eL] at z; exact z)) (λh' sb=>?_) qn
   ·have b6:=I6.base
    rw [Ys,YH,Yf,Yex] at b6
    have ne:∀ b o,s3.heap.get? b=some o->b ≠ s3.heap.objs.size:=λb o e=>Nat.ne_of_lt (lt_size e)
    have u6:Un (frs X.stack) fp (upd H s.heap.objs.size (.lst [])) H5 s3.heap h':=
     ⟨λb o e n hb hx=>(sb.2 b (ne b o e)).trans (b6.keep b o e n hb hx),λb o e n hb hx=>by
       obtain ⟨sl,z⟩:=b6.slot b o e n hb hx
       exact ⟨sl,(sb.2 b (ne b o e)).trans z⟩,b6.free,λb o e hx=>by
       obtain ⟨o',z⟩:=b6.there b o e hx
       exact ⟨o',(sb.2 b (ne b o e)).trans z⟩,b6.tups,b6.frzs,b6.tbls⟩
    have fL:H5 s3.heap.objs.size=none:=by
     have z:=I6.free
     rw [eL] at z
     exact z
    have hok6:HOk X.prog X.w H5 h':=by
     have z:=I6.hok
     rw [Yp,Yw] at z
     intro b ob e
     refine (z b ob e).stay (λc w' hc q=>(sb.2 c ?_).trans q) (λ_ q=>q) λ_ _ q=>q
     rintro rfl
     rcases hc with rfl | hc
     ·rw [fL] at e; cases e
     ·rw [fL] at hc; cases hc
    have os6:s6.os=s3.os:=by
     have z:=I6.os
     rw [Ys] at z
     exact z
    refine Inv.call' (s':={ s6 with heap:=h' }) I3 os6 u6 hok6 I6.bare λb hb=>?_
    obtain ⟨f0,f1,f2,f3,f4,f5⟩:=hf b hb
    exact ⟨f3,f1,f4,f5⟩
  ·have q:=T.item Y Yp Yw YK Yc i [] s5 σ5 H5 (λ_ _=>False) I5 (stat fr5) st5 go
   rw [YA] at q
   refine thn q λr s6 ⟨u,hr,h6⟩=>?_
   subst hr
   refine thn h6 λ_ s7 ⟨x,H7,I7,r7,y7,st7,fr7⟩=>?_
   have I7':=I7.pinned (stat fr7) (T.obj _ _ st7)
   have back:∀ {σ9:St} {H9:Hp} {s9:Shared},Inv Y ([]++eE fp s7.heap) σ9 H9 s9->tn (i+1) s9.heap/\∀ b ∈ fp,H9 b=none:=λ{σ9 H9 s9} I9=>
    ⟨T.keep _ _ _ st7 λb hb o e=>(I9.pin (b,o) (mem_append_right _ (mem_append_right _ (bD hb e)))).1,λb hb=>by
     obtain ⟨o,e,d⟩:=T.obj _ _ st7 b hb
     exact (I9.pin (b,o) (mem_append_right _ (mem_append_right _ (bD hb e)))).2.1⟩
   have g1:=hg _ s7 σ5 H7 x u _ I7' r7 (step x H7 y7)
   rw [YA,Yx,Yp,Yw,Ye] at g1
   refine thn g1 λ_ s8 ⟨σ8,H8,I8,q8⟩=>?_
   have g2:=ht _ s8 σ8 H8 _ I8 q8
   rw [YA,Yx,Yp,Yw,Ye] at g2
   refine thn g2 λb s9 ⟨H9,I9,q9⟩=>?_
   cases b with
   | false=>
    simp only [Bool.false_eq_true,if_false] at q9 ⊢
    obtain ⟨m',hm,w9⟩:=hNn _ _ q9
    exact ⟨m',hm,i+1,σ8,H9,I9.unpinned,(back I9).1,(back I9).2,w9⟩
   | true=>
    simp only [if_true] at q9 ⊢
    have g3:=he _ s9 σ8 H9 _ I9 q9
    rw [YA,Yx,Yp,Yw,Ye] at g3
    refine thn g3 λyv s10 ⟨y,H10,I10,r10,ys,hys,hz,n10⟩=>?_
    obtain ⟨m',hm,w10⟩:=hNn _ _ n10
    have g4:=eD (X:=Y) _ s10 σ8 H10 (.ref s.heap.objs.size) [y] (.ref s.heap.objs.size) [yv] (λ_ H11=>H11=upd H10 s.heap.objs.size (.lst (ys++[y]))) I10 rfl (.cons r10 .nil) ⟨_,ys,y,rfl,rfl,hys,hz,rfl⟩
    rw [YA,Yx,Yp,Yw] at g4
    refine thn g4 λ_ s11 ⟨_,H11,I11,_,e11⟩=>?_
    subst e11
    exact ⟨m',hm,i+1,σ8,_,I11.unpinned,(back I11).1,(back I11).2,w10⟩
 have q:=loop _ rfl
 have eqs:({ s3 with heap:=h₁,toks:=s.toks+([]:List (Str × Value)).length }:Shared)={ s with heap:=h₁,toks:=s.toks+([]:List (Str × Value)).length }:=by rw [<- hs3]
 rw [eqs] at q
 rw [e3] at q
 have stn:tn 0 h₁:=T.keep 0 _ _ st λb hb o e=>hk b o (up3 b o e)
 exact codeAny_compStart_list q (T.self X.A 0 _ _ _ stn q)
theorem cW {elt tg iter:Expr} {ifs:List Expr} {scope:Scope} {pos:Pos} {N:List Str} {src:List (Option Nat)} {wi:TI} {g:TG} {tt:TT} {te:TE}
  (hcalm:X.calm=true) (hsc:gU X.env.scope scope=true) (hsrc:dR X.N N src scope=true) (hi:PI X tg iter wi)
  (hb:∀ (s:Shared) (H:Hp) (ex:List Addr),PG (cxC X N scope s H ex) tg g/\PIf (cxC X N scope s H ex) ifs tt/\PE (cxC X N scope s H ex) elt te)
  (hs:∀ x,foldedSetIterable iter X.env x=pure x:=by intro _; rfl) :
  PE X (.ListComp elt [⟨tg,iter,ifs,0⟩] scope pos) (tComp src wi g tt te):=by
 intro pins s σ H Q I h
 have f:=ga hsc
 rw [eval_ListComp]
 refine wpAny_comprehension_free (use:=none) rfl hs (dh (f.cells I.ok)) f.kind f.names (thn (hi pins s σ H _ I h) λv s1 h1=>thn h1 λitv s2 h2=>?_)
 obtain ⟨it,fp,tn,J,H2,rfl,I2,T,st2,f2,q2⟩:=h2
 refine comp_run (N:=N) (src:=src) none (EP X pins σ Q) X.xe hcalm f hsrc hb I2 T st2 f2 q2 ?_
 intro acc C s' H' m hn _ hI hq
 exact ⟨m,hn,λh' sb=>⟨.ref acc,H',hI h' sb,rfl,hq⟩⟩
theorem bt {i:Nat} {y:Str} {py spos:Pos} {elt tg iter:Expr} {ifs:List Expr} {scope:Scope} {pos:Pos} {N:List Str} {src:List (Option Nat)} {wi:TI} {g:TG} {tt:TT} {te:TE}
  (hN:X.N.Nodup) (hix:X.N[i]? = some y) (hx:Loc X.env.scope y)
  (hcalm:X.calm=true) (hsc:gU X.env.scope scope=true) (hsrc:dR X.N N src scope=true) (hi:PI X tg iter wi)
  (hb:∀ (s:Shared) (H:Hp) (ex:List Addr),PG (cxC X N scope s H ex) tg g/\PIf (cxC X N scope s H ex) ifs tt/\PE (cxC X N scope s H ex) elt te)
  (hs:∀ x,foldedSetIterable iter X.env x=pure x:=by intro _; rfl)
  (hsw:swapsWith (.ListComp elt [⟨tg,iter,ifs,0⟩] scope pos) (some (.Name y py)) spos.line X.env=pure true:=by rfl)
  (hf:X.fn y=true\/X.env.scope.names.lookup y=some .local:=by first | exact .inl rfl | exact .inr rfl | assumption) :
  PS X (.Assign [.Name y py] (.ListComp elt [⟨tg,iter,ifs,0⟩] scope pos) spos) (tAsg (tComp src wi g tt te) (bi i)):=by
 intro pins s σ H D I h
 have f:=ga hsc
 rw [exec_Assign_Name_used _ _ _ _ hsw]
 refine wpAny_bind (wpAny_standAt (wpAny_bind ?_))
 show wpAny _ X.A (do let _ <- comprehension (.ListComp elt [⟨tg,iter,ifs,0⟩] scope pos) scope X.env _ (newList []) false (eval iter X.env) (some (assign (.Name y py) X.env))) _ _ s
 refine wpAny_bind (wpAny_mono (wpAny_comprehension_free (use:=some (assign (.Name y py) X.env)) (Q:=λ_ s'=>SP X pins D .next s') rfl hs (dh (f.cells I.ok)) f.kind f.names
  (thn (hi pins s σ H _ I h) λv s1 h1=>thn h1 λitv s2 h2=>?_)) (λ_ s' hq=>wpAny_pure (wpAny_pure hq)) λ_ _ e=>e)
 obtain ⟨it,fp,tn,J,H2,rfl,I2,T,st2,f2,q2⟩:=h2
 refine comp_run (N:=N) (src:=src) (some (assign (.Name y py) X.env)) (λ_ s'=>SP X pins D .next s') X.xe hcalm f hsrc hb I2 T st2 f2 (Q:=λx H1=>bi i x σ H1 D.nx) q2 ?_
 intro acc C s' H' m hn fpC hI hq
 obtain ⟨c0,c1,c2,c3,c4,c5⟩:=fpC
 have I':Inv X pins σ H' s':=hI s'.heap (Heap.SameBut.refl ..)
 show wpAny _ X.A (assign (.Name y py) X.env (.ref acc)) _ _ _
 refine wpAny_assign_Name (eh (v:=.ref acc) I' hN hix hx rfl (λs2 J2 ⟨a,sb,ha⟩=>?_) hf)
 have hCa:C ≠ a:=by
  rcases ha with rfl | ha
  ·exact c1
  ·exact λz=>c4 y a ha z.symm
 refine ⟨m,hn.sameBut sb hCa,λh' sb'=>?_⟩
 exact ⟨_,H',J2.turned (t':=s2.toks) (λb o hb e=>(sb'.2 b hb).trans e) c0 c1 c3 c4 c5,hq⟩
end
def SqI (t:Bool) (h:Heap) (it l:Addr) (i:Nat):Prop:=if t=true then h.IsTupleIter it l i else h.IsListIter it l i
def SqO (t:Bool) (h:Heap) (l:Addr) (xs:Array Value):Prop:=if t=true then h.IsTuple l xs else h.IsList l xs
def SqV (t:Bool) (K:Frag) (H:Hp) (a:Addr) (xs:List V):Prop:=if t=true then SqT K H a xs else SqL K H a xs
theorem SqI.at {t:Bool} {h h':Heap} {it l:Addr} {i:Nat} (x:SqI t h it l i) (k:∀ o,h.get? it=some o->h'.get? it=some o):SqI t h' it l i:=by
 cases t
 ·exact Heap.IsListIter.at x k
 ·obtain ⟨o,ho,r⟩:=(show h.IsTupleIter it l i from x)
  exact (show h'.IsTupleIter it l i from ⟨o,k o ho,r⟩)
theorem SqI.obj {t:Bool} {h:Heap} {it l:Addr} {i:Nat} (x:SqI t h it l i):∃ o,h.get? it=some o/\∀ v,o.data ≠ .cell v:=by
 cases t
 ·obtain ⟨o,ho,_,d⟩:=(show h.IsListIter it l i from x)
  exact ⟨o,ho,λv z=>by rw [d] at z; cases z⟩
 ·obtain ⟨o,ho,_,d⟩:=(show h.IsTupleIter it l i from x)
  exact ⟨o,ho,λv z=>by rw [d] at z; cases z⟩
theorem SqO.at {t:Bool} {h h':Heap} {l:Addr} {xs:Array Value} (x:SqO t h l xs) (k:∀ o,h.get? l=some o->h'.get? l=some o):SqO t h' l xs:=by
 cases t
 ·obtain ⟨o,ho,r⟩:=(show h.IsList l xs from x)
  exact (show h'.IsList l xs from ⟨o,k o ho,r⟩)
 ·obtain ⟨o,ho,r⟩:=(show h.IsTuple l xs from x)
  exact (show h'.IsTuple l xs from ⟨o,k o ho,r⟩)
theorem SqO.obj {t:Bool} {h:Heap} {l:Addr} {xs:Array Value} (x:SqO t h l xs):∃ o,h.get? l=some o:=by
 cases t
 ·obtain ⟨o,ho,r⟩:=(show h.IsList l xs from x)
  exact ⟨o,ho⟩
 ·obtain ⟨o,ho,r⟩:=(show h.IsTuple l xs from x)
  exact ⟨o,ho⟩
theorem Inv.seqV {X:Cx} {pins:List (Addr × Obj)} {σ:St} {H:Hp} {s:Shared} {t:Bool} {a:Addr} {xs:List V} (I:Inv X pins σ H s) (h:SqV t X.K H a xs):∃ its:List Value,g6 xs its/\SqO t s.heap a its.toArray/\xs.length<=sizeLine:=by
 cases t
 ·obtain ⟨its,r,p,z⟩:=I.list (show SqL X.K H a xs from h)
  exact ⟨its,r,p.isList,z⟩
 ·obtain ⟨its,r,p,z⟩:=I.tuple (show SqT X.K H a xs from h)
  exact ⟨its,r,p,z⟩
theorem Inv.seqV_inj {X:Cx} {pins:List (Addr × Obj)} {σ:St} {H:Hp} {s:Shared} {t:Bool} {a:Addr} {xs ys:List V} (I:Inv X pins σ H s) (h:SqV t X.K H a xs) (h':SqV t X.K H a ys):xs=ys:=by
 cases t
 ·exact I.list_inj h h'
 ·exact I.tuple_inj h h'
section
variable {prog:Program} {w:World} {A:Around} {E:Value->Shared->Prop} {s:Shared}
theorem dY {it l:Addr} {i:Nat} {items:Array Value} {x:Value} {Q:Value->Shared->Prop} (hit:s.heap.IsTupleIter it l i)
  (hl:s.heap.IsTuple l items) (hx:items[i]? = some x)
  (hQ:∀ h',h'.IsTupleIter it l (i+1)->Heap.SameBut it s.heap h'->Q x { s with heap:=h' }) :
  wpAny (model prog w) A (Builtin.SmallTypes.nextOf (.ref it)) Q E s:=by
 obtain ⟨o,ho,hc,hd⟩:=id hit
 obtain ⟨ol,hol,_,nl,hdl⟩:=hl
 unfold Builtin.SmallTypes.nextOf
 refine wpAny_bind (wpAny_callSpecial?_slot (name:=Str.ofString "__next__") hit.typeIs F.slot_tuple_iterator_next
  (wpAny_call_entry F.slot_tuple_iterator_next hit.typeIs F.entry_tuple_iterator_next ?_ (F.args_tuple_iterator_next_1 _)))
 show wpAny _ _ (field (.ref it) 0 >>= _) _ _ s
 refine wpAny_bind (wpAny_field ho hd (x:=.ref l) rfl ?_)
 show wpAny _ _ (if (Value.ref l == Value.none)=true then _ else _) _ _ s
 rw [if_neg (show ¬ ((Value.ref l == Value.none)=true) from Bool.false_ne_true)]
 show wpAny _ _ (field (.ref it) 1 >>= _) _ _ s
 refine wpAny_bind (wpAny_field ho hd (x:=.int i 0) rfl ?_)
 show wpAny _ _ (seqItems? (.ref l) >>= _) _ _ s
 refine wpAny_bind (wpAny_seqItems hol hdl ?_)
 simp only [Int.toNat_natCast,hx]
 refine wpAny_bind (wpAny_setField ho hd (by simp) (wpAny_pure ⟨x,rfl,wpAny_pure (hQ _ ?_ (Heap.SameBut.update ..))⟩))
 exact ⟨_,Heap.get?_update_self _ ho (Obj.isFreed_of_fields (Obj.data_mapFields hd _)),(Obj.cls_mapFields ..).trans hc,by
  rw [Obj.data_mapFields hd]; simp [rawInt]⟩
theorem er {it l:Addr} {i:Nat} {items:Array Value} {Q:Value->Shared->Prop} (hh:A.handled=none)
  (hit:s.heap.IsTupleIter it l i) (hl:s.heap.IsTuple l items) (hx:items[i]? = none)
  (hE:∀ h' e,Heap.ExtBut it s.heap h'->(∃ o,h'.get? e=some o/\o.cls=.type "StopIteration")->E (.ref e) { s with heap:=h' }) :
  wpAny (model prog w) A (Builtin.SmallTypes.nextOf (.ref it)) Q E s:=by
 obtain ⟨o,ho,hc,hd⟩:=id hit
 obtain ⟨ol,hol,_,nl,hdl⟩:=hl
 unfold Builtin.SmallTypes.nextOf
 refine wpAny_bind (wpAny_callSpecial?_slot (name:=Str.ofString "__next__") hit.typeIs F.slot_tuple_iterator_next
  (wpAny_call_entry F.slot_tuple_iterator_next hit.typeIs F.entry_tuple_iterator_next ?_ (F.args_tuple_iterator_next_1 _)))
 show wpAny _ _ (field (.ref it) 0 >>= _) _ _ s
 refine wpAny_bind (wpAny_field ho hd (x:=.ref l) rfl ?_)
 show wpAny _ _ (if (Value.ref l == Value.none)=true then _ else _) _ _ s
 rw [if_neg (show ¬ ((Value.ref l == Value.none)=true) from Bool.false_ne_true)]
 show wpAny _ _ (field (.ref it) 1 >>= _) _ _ s
 refine wpAny_bind (wpAny_field ho hd (x:=.int i 0) rfl ?_)
 show wpAny _ _ (seqItems? (.ref l) >>= _) _ _ s
 refine wpAny_bind (wpAny_seqItems hol hdl ?_)
 simp only [Int.toNat_natCast,hx]
 refine wpAny_bind (wpAny_rule (wpAny_bind (wpAny_setField ho hd (by simp) ?_)))
 show wpAny _ _ (newExc (.type "StopIteration") [] >>= _) _ _ _
 refine wpAny_bind ?_
 simp only [newExc,newTuple]
 refine wpAny_bind (wpAny_newObj_type ?_ (by size_fits))
 refine wpAny_bind (m:=firstArgMember _ _) (wpAny_of_eq (a:=Value.none) (by first | rfl | (simp only [firstArgMember]; rfl)) ?_)
 refine wpAny_newObj_type ?_ (by size_fits)
 simp only [raiseNew]
 refine wpAny_bind (wpAny_handled ?_)
 first | rw [show A.in1.handled=none from hh] | rw [hh]
 refine wpAny_bind (wpAny_pure (wpAny_throw ?_))
 exact hE _ _ (((Heap.SameBut.update ..).extBut.push _).push _) ⟨_,get?_push_size _ rfl,rfl⟩
theorem cE {t:Bool} {it l:Addr} {i:Nat} {items:Array Value} {x:Value} {Q:Value->Shared->Prop} (hit:SqI t s.heap it l i)
  (hl:SqO t s.heap l items) (hx:items[i]? = some x)
  (hQ:∀ h',SqI t h' it l (i+1)->Heap.SameBut it s.heap h'->Q x { s with heap:=h' }) :
  wpAny (model prog w) A (Builtin.SmallTypes.nextOf (.ref it)) Q E s:=by
 cases t
 ·exact wpAny_nextOf_list_item hit hl hx hQ
 ·exact dY hit hl hx hQ
theorem fS {t:Bool} {it l:Addr} {i:Nat} {items:Array Value} {Q:Value->Shared->Prop} (hh:A.handled=none)
  (hit:SqI t s.heap it l i) (hl:SqO t s.heap l items) (hx:items[i]? = none)
  (hE:∀ h' e,Heap.ExtBut it s.heap h'->(∃ o,h'.get? e=some o/\o.cls=.type "StopIteration")->E (.ref e) { s with heap:=h' }) :
  wpAny (model prog w) A (Builtin.SmallTypes.nextOf (.ref it)) Q E s:=by
 cases t
 ·exact wpAny_nextOf_list_end hh hit hl hx hE
 ·exact er hh hit hl hx hE
theorem pyIter_sq {t:Bool} {l:Addr} {items:Array Value} {Q:Value->Shared->Prop} (hl:SqO t s.heap l items)
  (hQ:∀ o,SqI t (s.heap.push o) s.heap.objs.size l 0->Q (.ref s.heap.objs.size) { s with heap:=s.heap.push o }):wpAny (model prog w) A (pyIter (.ref l)) Q E s:=by
 cases t
 ·exact wpAny_pyIter_list hl (hQ _ (show Heap.IsListIter _ _ _ _ from ⟨_,get?_push_size _ rfl,rfl,rfl⟩))
 ·exact wpAny_pyIter_tuple hl (hQ _ (show Heap.IsTupleIter _ _ _ _ from ⟨_,get?_push_size _ rfl,rfl,rfl⟩))
theorem zipN_item {t1 t2:Bool} {z TI TO i1 i2 l1 l2:Addr} {k1 k2:Nat} {xs ys:Array Value} {x y a b:Value} {Q:Value->Shared->Prop} (D:ZipApart z TI TO i1 i2 l1 l2)
  (hz:IsZip s.heap z TI TO .none) (hTI:IsPair s.heap TI (.ref i1) (.ref i2)) (hTO:IsPair s.heap TO a b)
  (h1:SqI t1 s.heap i1 l1 k1) (h2:SqI t2 s.heap i2 l2 k2) (hl1:SqO t1 s.heap l1 xs) (hl2:SqO t2 s.heap l2 ys) (hx:xs[k1]? = some x) (hy:ys[k2]? = some y)
  (hQ:∀ h',IsZip h' z TI TO (rawInt s.heap.objs.size)->IsPair h' TO x y->SqI t1 h' i1 l1 (k1+1)->SqI t2 h' i2 l2 (k2+1)->IsPair h' s.heap.objs.size x y->h'.objs.size=s.heap.objs.size+1->
   (∀ c o,c ≠ z->c ≠ TO->c ≠ i1->c ≠ i2->s.heap.get? c=some o->h'.get? c=some o)->Q (.ref s.heap.objs.size) { s with heap:=h' }) :
  wpAny (model prog w) A (Builtin.«zip.__next__» ⟨[.ref z],[]⟩) (λfin s'=>∃ v,fin=.done (.ret v)/\Q v s') E s:=by
 show wpAny _ _ (field (.ref z) 2 >>= _) _ _ _
 refine wpAny_bind (wpAny_field hz rfl (x:=.bool false) rfl ?_)
 show wpAny _ _ (field (.ref z) 3 >>= _) _ _ _
 refine wpAny_bind (wpAny_field hz rfl (x:=.ref TI) rfl ?_)
 refine wpAny_bind (wpAny_seqItems hTI rfl ?_)
 show wpAny _ _ (Builtin.SmallTypes.ownedTupleIsFree (.ref z) >>= _) _ _ _
 refine wpAny_bind ?_
 unfold Builtin.SmallTypes.ownedTupleIsFree
 refine wpAny_bind (wpAny_field hz rfl (x:=.none) rfl (wpAny_pure ?_))
 simp only [if_true]
 refine wpAny_bind (wpAny_rule ?_)
 refine wpAny_bind (wpAny_field hz rfl (x:=.ref TO) rfl ?_)
 refine wpAny_bind (wpAny_setField_rec hz (by simp) λh₁ hz₁ hs₁=>?_)
 replace hz₁:IsZip h₁ z TI TO .ellipsis:=hz₁
 refine wpAny_bind ?_
 simp only [List.zipIdx_cons,List.zipIdx_nil,forIn_cons,forIn_nil]
 refine wpAny_bind (wpAny_bind (wpAny_onRaise ?_))
 show wpAny _ _ (Builtin.SmallTypes.nextOf (.ref i1) >>= _) _ _ _
 refine wpAny_bind (cE (h1.at λo e=>hs₁.extBut _ _ D.i1z e) (hl1.at λo e=>hs₁.extBut _ _ D.l1z e) hx λh₂ h1₂ hs₂=>wpAny_pure ?_)
 have hTO₂:IsPair h₂ TO a b:=hs₂.extBut _ _ D.TOi1 (hs₁.extBut _ _ D.TOz hTO)
 refine wpAny_bind (wpAny_seqItems hTO₂ rfl ?_)
 refine wpAny_bind (wpAny_updateSeq_pair hTO₂ λh₃ hTO₃ hs₃=>?_)
 replace hTO₃:IsPair h₃ TO x b:=hTO₃
 refine wpAny_bind (wpAny_letGo (wpAny_pure ?_))
 refine wpAny_bind (wpAny_bind (wpAny_onRaise ?_))
 show wpAny _ _ (Builtin.SmallTypes.nextOf (.ref i2) >>= _) _ _ _
 refine wpAny_bind (cE (h2.at λo e=>hs₃.extBut _ _ D.TOi2.symm (hs₂.extBut _ _ D.i12.symm (hs₁.extBut _ _ D.i2z e)))
  (hl2.at λo e=>hs₃.extBut _ _ D.l2TO (hs₂.extBut _ _ D.l2i1 (hs₁.extBut _ _ D.l2z e))) hy λh₄ h2₄ hs₄=>wpAny_pure ?_)
 have hTO₄:IsPair h₄ TO x b:=hs₄.extBut _ _ D.TOi2 hTO₃
 refine wpAny_bind (wpAny_seqItems hTO₄ rfl ?_)
 refine wpAny_bind (wpAny_updateSeq_pair hTO₄ λh₅ hTO₅ hs₅=>?_)
 replace hTO₅:IsPair h₅ TO x y:=hTO₅
 refine wpAny_bind (wpAny_letGo (wpAny_pure (wpAny_pure ?_)))
 refine wpAny_bind (wpAny_seqItems hTO₅ rfl ?_)
 refine wpAny_bind (wpAny_newTuple ?_)
 have hsz:h₅.objs.size=s.heap.objs.size:=by rw [hs₅.1,hs₄.1,hs₃.1,hs₂.1,hs₁.1]
 have hz₅:IsZip h₅ z TI TO .ellipsis:=hs₅.extBut _ _ D.TOz.symm (hs₄.extBut _ _ D.i2z.symm (hs₃.extBut _ _ D.TOz.symm (hs₂.extBut _ _ D.i1z.symm hz₁)))
 have hk₅:∀ c o,c ≠ z->c ≠ TO->c ≠ i1->c ≠ i2->s.heap.get? c=some o->h₅.get? c=some o:=λc o c1 c2 c3 c4 e=>
  hs₅.extBut _ _ c2 (hs₄.extBut _ _ c4 (hs₃.extBut _ _ c2 (hs₂.extBut _ _ c3 (hs₁.extBut _ _ c1 e))))
 have h1₅:SqI t1 h₅ i1 l1 (k1+1):=h1₂.at λo e=>hs₅.extBut _ _ D.TOi1.symm (hs₄.extBut _ _ D.i12 (hs₃.extBut _ _ D.TOi1.symm e))
 have h2₅:SqI t2 h₅ i2 l2 (k2+1):=h2₄.at λo e=>hs₅.extBut _ _ D.TOi2.symm e
 have hzlt:z<h₅.objs.size:=lt_size hz₅
 have hTOlt:TO<h₅.objs.size:=lt_size hTO₅
 show wpAny _ _ (Builtin.SmallTypes.ownedTupleHandOut (.ref z) (.ref h₅.objs.size) >>= _) _ _ _
 refine wpAny_bind ?_
 unfold Builtin.SmallTypes.ownedTupleHandOut
 have hz₆:IsZip (h₅.push { cls:=.type "tuple",data:=.seq #[x,y] }) z TI TO .ellipsis:=get?_push_of_some _ hz₅
 refine wpAny_bind (wpAny_setField_rec hz₆ (by simp) λh₇ hz₇ hs₇=>?_)
 replace hz₇:IsZip h₇ z TI TO (rawInt h₅.objs.size):=hz₇
 refine wpAny_setField_rec hz₇ (by simp) λh₈ hz₈ hs₈=>?_
 replace hz₈:IsZip h₈ z TI TO (rawInt h₅.objs.size):=hz₈
 have up:∀ c o,c ≠ z->h₅.get? c=some o->h₈.get? c=some o:=λc o c1 e=>hs₈.extBut _ _ c1 (hs₇.extBut _ _ c1 (get?_push_of_some _ e))
 have hT₈:IsPair h₈ h₅.objs.size x y:=hs₈.extBut _ _ (Nat.ne_of_gt hzlt) (hs₇.extBut _ _ (Nat.ne_of_gt hzlt) (get?_push_size _ rfl))
 have hz8:h₈.objs.size=h₅.objs.size+1:=by rw [hs₈.1,hs₇.1,size_push]
 rw [hsz] at hz₈ hT₈ hz8
 refine wpAny_pure ⟨_,rfl,?_⟩
 show Q (.ref h₅.objs.size) _
 rw [hsz]
 exact hQ h₈ hz₈ (up _ _ D.TOz hTO₅) (h1₅.at λo e=>up _ o D.i1z e) (h2₅.at λo e=>up _ o D.i2z e) hT₈ hz8 λc o c1 c2 c3 c4 e=>up c o c1 (hk₅ c o c1 c2 c3 c4 e)
theorem zipN_end {t1 t2:Bool} {z TI TO i1 i2 l1 l2:Addr} {k1 k2:Nat} {xs ys:Array Value} {a b:Value} {Q:PySem.Fin->Shared->Prop} (hh:A.handled=none) (D:ZipApart z TI TO i1 i2 l1 l2)
  (hz:IsZip s.heap z TI TO .none) (hTI:IsPair s.heap TI (.ref i1) (.ref i2)) (hTO:IsPair s.heap TO a b)
  (h1:SqI t1 s.heap i1 l1 k1) (h2:SqI t2 s.heap i2 l2 k2) (hl1:SqO t1 s.heap l1 xs) (hl2:SqO t2 s.heap l2 ys) (hend:xs[k1]? = none\/ys[k2]? = none)
  (hE:∀ h' e,(∀ c o,c ≠ z->c ≠ TO->c ≠ i1->c ≠ i2->s.heap.get? c=some o->h'.get? c=some o)->(∃ o,h'.get? e=some o/\o.cls=.type "StopIteration")->E (.ref e) { s with heap:=h' }) :
  wpAny (model prog w) A (Builtin.«zip.__next__» ⟨[.ref z],[]⟩) Q E s:=by
 show wpAny _ _ (field (.ref z) 2 >>= _) _ _ _
 refine wpAny_bind (wpAny_field hz rfl (x:=.bool false) rfl ?_)
 show wpAny _ _ (field (.ref z) 3 >>= _) _ _ _
 refine wpAny_bind (wpAny_field hz rfl (x:=.ref TI) rfl ?_)
 refine wpAny_bind (wpAny_seqItems hTI rfl ?_)
 show wpAny _ _ (Builtin.SmallTypes.ownedTupleIsFree (.ref z) >>= _) _ _ _
 refine wpAny_bind ?_
 unfold Builtin.SmallTypes.ownedTupleIsFree
 refine wpAny_bind (wpAny_field hz rfl (x:=.none) rfl (wpAny_pure ?_))
 simp only [if_true]
 refine wpAny_bind (wpAny_rule ?_)
 refine wpAny_bind (wpAny_field hz rfl (x:=.ref TO) rfl ?_)
 refine wpAny_bind (wpAny_setField_rec hz (by simp) λh₁ hz₁ hs₁=>?_)
 replace hz₁:IsZip h₁ z TI TO .ellipsis:=hz₁
 refine wpAny_bind ?_
 simp only [List.zipIdx_cons,List.zipIdx_nil,forIn_cons,forIn_nil]
 refine wpAny_bind (wpAny_bind (wpAny_onRaise ?_))
 show wpAny _ _ (Builtin.SmallTypes.nextOf (.ref i1) >>= _) _ _ _
 cases hx:xs[k1]? with
 | none=>
  refine wpAny_bind (fS hh (h1.at λo e=>hs₁.extBut _ _ D.i1z e) (hl1.at λo e=>hs₁.extBut _ _ D.l1z e) hx λh₂ e hs₂ he=>?_)
  obtain ⟨oe,hoe,hce⟩:=he
  have hz₂:IsZip h₂ z TI TO .ellipsis:=hs₂ _ _ D.i1z.symm hz₁
  have hez:e ≠ z:=λx=>by subst x; rw [hz₂] at hoe; cases hoe; simp at hce
  refine wpAny_setField_rec hz₂ (by simp) λh₃ _ hs₃=>hE h₃ e (λc o c1 _ c3 _ x=>hs₃.extBut _ _ c1 (hs₂ _ _ c3 (hs₁.extBut _ _ c1 x))) ⟨oe,hs₃.extBut _ _ hez hoe,hce⟩
 | some x=>
  have hy:ys[k2]? = none:=by rcases hend with h | h; rw [hx] at h; cases h; exact h
  refine wpAny_bind (cE (h1.at λo e=>hs₁.extBut _ _ D.i1z e) (hl1.at λo e=>hs₁.extBut _ _ D.l1z e) hx λh₂ h1₂ hs₂=>wpAny_pure ?_)
  have hTO₂:IsPair h₂ TO a b:=hs₂.extBut _ _ D.TOi1 (hs₁.extBut _ _ D.TOz hTO)
  refine wpAny_bind (wpAny_seqItems hTO₂ rfl ?_)
  refine wpAny_bind (wpAny_updateSeq_pair hTO₂ λh₃ hTO₃ hs₃=>?_)
  refine wpAny_bind (wpAny_letGo (wpAny_pure ?_))
  refine wpAny_bind (wpAny_bind (wpAny_onRaise ?_))
  show wpAny _ _ (Builtin.SmallTypes.nextOf (.ref i2) >>= _) _ _ _
  refine wpAny_bind (fS hh (h2.at λo e=>hs₃.extBut _ _ D.TOi2.symm (hs₂.extBut _ _ D.i12.symm (hs₁.extBut _ _ D.i2z e)))
   (hl2.at λo e=>hs₃.extBut _ _ D.l2TO (hs₂.extBut _ _ D.l2i1 (hs₁.extBut _ _ D.l2z e))) hy λh₄ e hs₄ he=>?_)
  obtain ⟨oe,hoe,hce⟩:=he
  have hz₄:IsZip h₄ z TI TO .ellipsis:=hs₄ _ _ D.i2z.symm (hs₃.extBut _ _ D.TOz.symm (hs₂.extBut _ _ D.i1z.symm hz₁))
  have hez:e ≠ z:=λx=>by subst x; rw [hz₄] at hoe; cases hoe; simp at hce
  refine wpAny_setField_rec hz₄ (by simp) λh₅ _ hs₅=>hE h₅ e (λc o c1 c2 c3 c4 x=>hs₅.extBut _ _ c1 (hs₄ _ _ c4 (hs₃.extBut _ _ c2 (hs₂.extBut _ _ c3 (hs₁.extBut _ _ c1 x))))) ⟨oe,hs₅.extBut _ _ hez hoe,hce⟩
theorem eF {t1 t2:Bool} {z TI TO i1 i2 l1 l2:Addr} {k1 k2:Nat} {xs ys:Array Value} {x y a b:Value} {Q:Option Value->Shared->Prop} (D:ZipApart z TI TO i1 i2 l1 l2)
  (hz:IsZip s.heap z TI TO .none) (hTI:IsPair s.heap TI (.ref i1) (.ref i2)) (hTO:IsPair s.heap TO a b)
  (h1:SqI t1 s.heap i1 l1 k1) (h2:SqI t2 s.heap i2 l2 k2) (hl1:SqO t1 s.heap l1 xs) (hl2:SqO t2 s.heap l2 ys) (hx:xs[k1]? = some x) (hy:ys[k2]? = some y)
  (hQ:∀ h',IsZip h' z TI TO (rawInt s.heap.objs.size)->IsPair h' TO x y->SqI t1 h' i1 l1 (k1+1)->SqI t2 h' i2 l2 (k2+1)->IsPair h' s.heap.objs.size x y->h'.objs.size=s.heap.objs.size+1->
   (∀ c o,c ≠ z->c ≠ TO->c ≠ i1->c ≠ i2->s.heap.get? c=some o->h'.get? c=some o)->Q (some (.ref s.heap.objs.size)) { s with heap:=h' }) :
  wpAny (model prog w) A (pyNext (.ref z)) Q E s:=by
 have hT:s.TypeIs (.ref z) "zip":=⟨_,hz,rfl⟩
 unfold pyNext
 exact wpAny_bind (wpAny_attempt (wpAny_callSpecial?_slot (name:=Str.ofString "__next__") hT F.slot_zip_next
  (wpAny_call_entry F.slot_zip_next hT F.entry_zip_next
   (zipN_item D hz hTI hTO h1 h2 hl1 hl2 hx hy λh' a1 a2 a3 a4 a5 a6 a7=>wpAny_pure (hQ h' a1 a2 a3 a4 a5 a6 a7)) (F.args_zip_next_1 _))))
theorem eS {t1 t2:Bool} {z TI TO i1 i2 l1 l2:Addr} {k1 k2:Nat} {xs ys:Array Value} {a b:Value} {Q:Option Value->Shared->Prop} (hh:A.handled=none) (D:ZipApart z TI TO i1 i2 l1 l2)
  (hz:IsZip s.heap z TI TO .none) (hTI:IsPair s.heap TI (.ref i1) (.ref i2)) (hTO:IsPair s.heap TO a b)
  (h1:SqI t1 s.heap i1 l1 k1) (h2:SqI t2 s.heap i2 l2 k2) (hl1:SqO t1 s.heap l1 xs) (hl2:SqO t2 s.heap l2 ys) (hend:xs[k1]? = none\/ys[k2]? = none)
  (hQ:∀ h',(∀ c o,c ≠ z->c ≠ TO->c ≠ i1->c ≠ i2->s.heap.get? c=some o->h'.get? c=some o)->Q none { s with heap:=h' }):wpAny (model prog w) A (pyNext (.ref z)) Q E s:=by
 have hT:s.TypeIs (.ref z) "zip":=⟨_,hz,rfl⟩
 unfold pyNext
 refine wpAny_bind (wpAny_attempt (wpAny_callSpecial?_slot (name:=Str.ofString "__next__") hT F.slot_zip_next
  (wpAny_call_entry F.slot_zip_next hT F.entry_zip_next (zipN_end hh D hz hTI hTO h1 h2 hl1 hl2 hend λh' e hk he=>?_) (F.args_zip_next_1 _))))
 obtain ⟨o,ho,hc⟩:=he
 refine wpAny_bind (wpAny_isInstance (T := "StopIteration") (b:=true) ⟨o,ho,hc⟩ isSubtype_stop ?_)
 exact wpAny_pure (hQ _ hk)
end
def itObj (t:Bool) (l:Addr):Obj:=if t=true then { cls:=.type "tuple_iterator",data:=.fields #[.ref l,.int 0 0] } else { cls:=.type "list_iterator",data:=.fields #[.ref l,.int 0 0] }
theorem itObj_is {t:Bool} {h:Heap} {it l:Addr} (e:h.get? it=some (itObj t l)):SqI t h it l 0:=by
 cases t
 ·exact (show h.IsListIter it l 0 from ⟨_,e,rfl,rfl⟩)
 ·exact (show h.IsTupleIter it l 0 from ⟨_,e,rfl,rfl⟩)
abbrev zpH1 (t1:Bool) (h:Heap) (l1:Addr):Heap:=h.push (itObj t1 l1)
abbrev zpH2 (t1 t2:Bool) (h:Heap) (l1 l2:Addr):Heap:=(zpH1 t1 h l1).push (itObj t2 l2)
abbrev zpH3 (t1 t2:Bool) (h:Heap) (l1 l2:Addr):Heap:=(zpH2 t1 t2 h l1 l2).push { cls:=.type "tuple",data:=.seq #[.ref h.objs.size,.ref (zpH1 t1 h l1).objs.size] }
abbrev zpH4 (t1 t2:Bool) (h:Heap) (l1 l2:Addr):Heap:=(zpH3 t1 t2 h l1 l2).push { cls:=.type "tuple",data:=.seq #[.none,.none] }
abbrev zpH5 (t1 t2:Bool) (h:Heap) (l1 l2:Addr):Heap:=(zpH4 t1 t2 h l1 l2).push { cls:=.type "zip",data:=.fields #[.none,.bool false,.bool false,.ref (zpH2 t1 t2 h l1 l2).objs.size,.ref (zpH3 t1 t2 h l1 l2).objs.size] }
set_option maxHeartbeats 8000000 in
theorem meets_zipN (t1 t2:Bool) (l1 l2:Addr) (xs ys:Array Value) :
  Meets (Builtin.«zip.__new__» ⟨[.type "zip",.ref l1,.ref l2],[]⟩) (λ_ R s=>SqO t1 s.heap l1 xs/\SqO t2 s.heap l2 ys/\
   R (.ok (.ret (.ref (zpH4 t1 t2 s.heap l1 l2).objs.size))) { s with heap:=zpH5 t1 t2 s.heap l1 l2 }):=
 .of_wp λprog w A R s h=>by
  obtain ⟨hp,g,d,tk,os⟩:=s; obtain ⟨hl1,hl2,h⟩:=h
  have hsub:=sub_zip
  cases t1<;>cases t2
  ·have hL1:Heap.IsList (Shared.heap ⟨hp,g,d,tk,os⟩) l1 xs:=hl1
   have hL2:Heap.IsList (Shared.heap ⟨hp.push { cls:=.type "list_iterator",data:=.fields #[.ref l1,.int 0 0] },g,d,tk,os⟩) l2 ys:=Heap.IsList.push hl2 _
   wp_walk using wpAny_pyIter_list hL1,wpAny_pyIter_list hL2
   exact ⟨_,rfl,h⟩
  ·have hL1:Heap.IsList (Shared.heap ⟨hp,g,d,tk,os⟩) l1 xs:=hl1
   have hL2:Heap.IsTuple (Shared.heap ⟨hp.push { cls:=.type "list_iterator",data:=.fields #[.ref l1,.int 0 0] },g,d,tk,os⟩) l2 ys:=Heap.IsTuple.push hl2 _
   wp_walk using wpAny_pyIter_list hL1,wpAny_pyIter_tuple hL2
   exact ⟨_,rfl,h⟩
  ·have hL1:Heap.IsTuple (Shared.heap ⟨hp,g,d,tk,os⟩) l1 xs:=hl1
   have hL2:Heap.IsList (Shared.heap ⟨hp.push { cls:=.type "tuple_iterator",data:=.fields #[.ref l1,.int 0 0] },g,d,tk,os⟩) l2 ys:=Heap.IsList.push hl2 _
   wp_walk using wpAny_pyIter_tuple hL1,wpAny_pyIter_list hL2
   exact ⟨_,rfl,h⟩
  ·have hL1:Heap.IsTuple (Shared.heap ⟨hp,g,d,tk,os⟩) l1 xs:=hl1
   have hL2:Heap.IsTuple (Shared.heap ⟨hp.push { cls:=.type "tuple_iterator",data:=.fields #[.ref l1,.int 0 0] },g,d,tk,os⟩) l2 ys:=Heap.IsTuple.push hl2 _
   wp_walk using wpAny_pyIter_tuple hL1,wpAny_pyIter_tuple hL2
   exact ⟨_,rfl,h⟩
section
variable {prog:Program} {w:World} {A:Around} {E:Value->Shared->Prop} {s:Shared}
theorem call_zipN {t1 t2:Bool} {l1 l2:Addr} {xs ys:Array Value} {Q:Value->Shared->Prop} (hl1:SqO t1 s.heap l1 xs) (hl2:SqO t2 s.heap l2 ys)
  (h:∀ h',IsZip h' (s.heap.objs.size+4) (s.heap.objs.size+2) (s.heap.objs.size+3) .none->IsPair h' (s.heap.objs.size+2) (.ref s.heap.objs.size) (.ref (s.heap.objs.size+1))->
   IsPair h' (s.heap.objs.size+3) .none .none->SqI t1 h' s.heap.objs.size l1 0->SqI t2 h' (s.heap.objs.size+1) l2 0->h'.objs.size=s.heap.objs.size+5->
   (∀ c o,s.heap.get? c=some o->h'.get? c=some o)->Q (.ref (s.heap.objs.size+4)) { s with heap:=h' }) :
  wpAny (model prog w) A (call (.type "zip") [.ref l1,.ref l2]) Q E s:=by
 refine callType_new F.called_zip (by decide) (F.typeCall_zip_2 _ _) (F.newCall_zip_2 _ _) (λobj=>F.args_object_init_3 obj _ _) F.entry_zip_new
  (meets_zipN t1 t2 l1 l2 xs ys) ⟨hl1,hl2,?_⟩
 have fr:∀ t l,(itObj t l).isFreed=false:=λt l=>by cases t<;>rfl
 have z1:(zpH1 t1 s.heap l1).objs.size=s.heap.objs.size+1:=size_push ..
 have z2:(zpH2 t1 t2 s.heap l1 l2).objs.size=s.heap.objs.size+2:=by rw [size_push,z1]
 have z3:(zpH3 t1 t2 s.heap l1 l2).objs.size=s.heap.objs.size+3:=by rw [size_push,z2]
 have z4:(zpH4 t1 t2 s.heap l1 l2).objs.size=s.heap.objs.size+4:=by rw [size_push,z3]
 have z5:(zpH5 t1 t2 s.heap l1 l2).objs.size=s.heap.objs.size+5:=by rw [size_push,z4]
 have g5:(zpH5 t1 t2 s.heap l1 l2).get? (zpH4 t1 t2 s.heap l1 l2).objs.size=some _:=get?_push_size _ rfl
 have g4:(zpH5 t1 t2 s.heap l1 l2).get? (zpH3 t1 t2 s.heap l1 l2).objs.size=some _:=get?_push_of_some _ (get?_push_size _ rfl)
 have g3:(zpH5 t1 t2 s.heap l1 l2).get? (zpH2 t1 t2 s.heap l1 l2).objs.size=some _:=get?_push_of_some _ (get?_push_of_some _ (get?_push_size _ rfl))
 have g2:(zpH5 t1 t2 s.heap l1 l2).get? (zpH1 t1 s.heap l1).objs.size=some _:=get?_push_of_some _ (get?_push_of_some _ (get?_push_of_some _ (get?_push_size _ (fr t2 l2))))
 have g1:(zpH5 t1 t2 s.heap l1 l2).get? s.heap.objs.size=some _:=get?_push_of_some _ (get?_push_of_some _ (get?_push_of_some _ (get?_push_of_some _ (get?_push_size _ (fr t1 l1)))))
 show _/\_
 rw [z2,z3,z4] at g5
 rw [z1,z2] at g3
 rw [z3] at g4
 rw [z1] at g2
 rw [z4]
 exact ⟨⟨_,g5,rfl⟩,h _ g5 g3 g4 (itObj_is g1) (itObj_is g2) z5 λc o x=>
  get?_push_of_some _ (get?_push_of_some _ (get?_push_of_some _ (get?_push_of_some _ (get?_push_of_some _ x))))⟩
end
def Itz (t1 t2:Bool) (K:Frag) (a b:Addr):It:=
 ⟨λi H=>∃ xs ys x y,SqV t1 K H a xs/\SqV t2 K H b ys/\xs[i]? = some x/\ys[i]? = some y,
  λi H v H'=>∃ p x y,v=.ref p/\H p=none/\H'=upd H p (.tup [x,y])/\(∀ xs,SqV t1 K H a xs->xs[i]? = some x)/\∀ ys,SqV t2 K H b ys->ys[i]? = some y,
  λi H=>∃ xs ys,SqV t1 K H a xs/\SqV t2 K H b ys/\(xs.length<=i\/ys.length<=i)⟩
def Zst (t1 t2:Bool) (z TI TO i1 i2 a b:Addr) (i:Nat) (h:Heap):Prop:=
 IsZip h z TI TO .none/\IsPair h TI (.ref i1) (.ref i2)/\(∃ x y,IsPair h TO x y)/\SqI t1 h i1 a i/\SqI t2 h i2 b i
structure ZDist (z TI TO i1 i2:Addr):Prop where
 TIz:TI ≠ z
 TOz:TO ≠ z
 i1z:i1 ≠ z
 i2z:i2 ≠ z
 TITO:TI ≠ TO
 TIi1:TI ≠ i1
 TIi2:TI ≠ i2
 TOi1:TO ≠ i1
 TOi2:TO ≠ i2
 i12:i1 ≠ i2
theorem Inv.turnedN {X:Cx} {pins:List (Addr × Obj)} {σ:St} {H:Hp} {s:Shared} {h':Heap} {t':Nat} {fp:List Addr} (I:Inv X pins σ H s) (k:∀ b o,b ∉ fp->s.heap.get? b=some o->h'.get? b=some o) (hf:∀ b ∈ fp,cH X pins H b):Inv X pins σ H { s with heap:=h',toks:=t' }:=by
 have nit:∀ b u,H b=some u->b ∉ fp:=λb u e z=>by rw [(hf b z).1] at e; cases e
 refine I.step (g':=s.gens) (d':=s.drawn) (ch:=fp) (λb hb=>?_) (λb o _ _ hc e _=>k b o hc e) (λb o _ _ hc e _=>⟨o.slots,k b o hc e⟩) (λ_ _ _ _ n=>n)
  (λb o hc e=>⟨o,k b o hc e⟩) (λ_ _ e=>e) (λ_ _ _ e=>e) (λb ps e=>⟨#[],by rw [e]; simp⟩) (λm hm=>?_) (λb u e=>?_) I.bare
 ·obtain ⟨f0,f1,f2,f3,f4,f5⟩:=hf b hb
  exact ⟨f3,f1,f4,f5⟩
 ·obtain ⟨o,es,ep,ho,r⟩:=hm
  exact ⟨o,es,ep,k _ o (λz=>(hf _ z).2.1 rfl) ho,r⟩
 ·refine (I.hok b u e).stay (λc v hc q=>k c v ?_ q) (λ_ q=>q) λ_ _ q=>q
  rcases hc with z | z
  ·rw [z]; exact nit b u e
  ·exact nit c _ z
theorem zdist (n:Nat):ZDist (n+4) (n+2) (n+3) n (n+1):=by
 constructor<;>(intro h; have h':(_:Nat)=_:=h; omega)
theorem cN {X:Cx} {pins:List (Addr × Obj)} {σ:St} {H:Hp} {s:Shared} {fp:List Addr} {t:Bool} {l:Addr} {vs:List V} (I:Inv X pins σ H s) (hf:∀ b ∈ fp,cH X pins H b) (q:SqV t X.K H l vs):l ∉ fp:=λhl=>by
 have hn:=hf l hl
 have old:∀ o,X.K.lookup l=some o->False:=λo hk=>by
  rcases hn.2.2.2.1 with z' | z'
  ·exact I.ok.noex l o (I.ok.mod.kin l o hk) z'
  ·exact absurd (Nat.lt_of_lt_of_le (lt_size (I.ok.bs l o (I.ok.mod.kin l o hk)).1) z') (Nat.lt_irrefl _)
 cases t
 ·rcases (show SqL X.K H l vs from q) with (q | ⟨o,q⟩) | ⟨o,_,_,hk,_⟩
  ·rw [hn.1] at q; cases q
  ·rw [hn.1] at q; cases q
  ·exact old o hk
 ·rcases (show SqT X.K H l vs from q) with (q | ⟨o,q⟩) | ⟨o,_,_,hk,_⟩
  ·rw [hn.1] at q; cases q
  ·rw [hn.1] at q; cases q
  ·exact old o hk
theorem turn_zip {P:Program} {w:World} {K:Frag} {es:List Expr} {ek:Nat} {ep:Pos} {t1 t2:Bool} (a b z TI TO i1 i2:Addr) (D:ZDist z TI TO i1 i2) :
  Turn P w K (.Tuple es ek ep) (Itz t1 t2 K a b) [z,TI,TO,i1,i2] z (Zst t1 t2 z TI TO i1 i2 a b) where
 mem:=by simp
 obj:=λi h ⟨hz,hTI,⟨x,y,hTO⟩,h1,h2⟩ c hc=>by
  simp only [mem_cons,not_mem_nil,or_false] at hc
  rcases hc with rfl | rfl | rfl | rfl | rfl
  ·exact ⟨_,hz,λv z=>by cases z⟩
  ·exact ⟨_,hTI,λv z=>by cases z⟩
  ·exact ⟨_,hTO,λv z=>by cases z⟩
  ·exact h1.obj
  ·exact h2.obj
 keep:=λi h h' ⟨hz,hTI,⟨x,y,hTO⟩,h1,h2⟩ k=>
  ⟨k z (by simp) _ hz,k TI (by simp) _ hTI,⟨x,y,k TO (by simp) _ hTO⟩,h1.at λo e=>k i1 (by simp) o e,h2.at λo e=>k i2 (by simp) o e⟩
 item:=by
  intro X hP hw hK hc i pins s σ H E I hf st hg
  subst hP hw hK
  obtain ⟨xs,ys,x,y,qx,qy,hx,hy⟩:=hg
  obtain ⟨hz,hTI,⟨xo,yo,hTO⟩,h1,h2⟩:=st
  obtain ⟨ix,rx,px,zx⟩:=I.seqV qx
  obtain ⟨iy,ry,py,zy⟩:=I.seqV qy
  obtain ⟨u,hu,ru⟩:=rx.get hx
  obtain ⟨v,hv,rv⟩:=ry.get hy
  have inFp:∀ c,c ∈ [z,TI,TO,i1,i2]->H c=none:=λc hc=>(hf c hc).1
  have na:=cN I hf qx
  have nb:=cN I hf qy
  simp only [mem_cons,not_mem_nil,or_false,not_or] at na nb
  have DA:ZipApart z TI TO i1 i2 a b:=⟨D.TIz,D.TOz,D.i1z,D.i2z,D.TITO,D.TIi1,D.TIi2,D.TOi1,D.TOi2,D.i12,na.1,na.2.2.1,na.2.2.2.1,na.2.2.2.2,nb.1,nb.2.2.1,nb.2.2.2.1,nb.2.2.2.2⟩
  refine eF DA hz hTI hTO h1 h2 px py (x:=u) (y:=v) (by simpa using hu) (by simpa using hv) λh' a1 a2 a3 a4 a5 a6 hk=>?_
  refine ⟨_,rfl,wpAny_letOwnedTupleGo_zip a1 λh'' hz'' sb=>?_⟩
  have kk:∀ c o,c ∉ [z,TI,TO,i1,i2]->s.heap.get? c=some o->h''.get? c=some o:=λc o hc e=>by
   simp only [mem_cons,not_mem_nil,or_false,not_or] at hc
   exact (sb.2 c hc.1).trans (hk c o hc.1 hc.2.2.1 hc.2.2.2.1 hc.2.2.2.2 e)
  have lt5:∀ c ∈ [z,TI,TO,i1,i2],c<s.heap.objs.size:=λc hc=>by
   simp only [mem_cons,not_mem_nil,or_false] at hc
   rcases hc with rfl | rfl | rfl | rfl | rfl
   ·exact lt_size hz
   ·exact lt_size hTI
   ·exact lt_size hTO
   ·obtain ⟨o,e,_⟩:=h1.obj; exact lt_size e
   ·obtain ⟨o,e,_⟩:=h2.obj; exact lt_size e
  have nT:s.heap.objs.size ∉ [z,TI,TO,i1,i2]:=λhc=>absurd (lt5 _ hc) (Nat.lt_irrefl _)
  have hT:h''.get? s.heap.objs.size=some { cls:=.type "tuple",data:=.seq #[u,v] }:=(sb.2 _ (λe=>nT (by simp [e]))).trans a5
  have fresh:H s.heap.objs.size=none:=I.hok.fresh (Nat.le_refl _)
  have gT:(s.heap.push { cls:=.type "tuple",data:=.seq #[u,v] }).get? s.heap.objs.size=some { cls:=.type "tuple",data:=.seq #[u,v] }:=get?_push_size _ rfl
  have I1:Inv X pins σ (upd H s.heap.objs.size (.tup [x,y])) { s with heap:=s.heap.push { cls:=.type "tuple",data:=.seq #[u,v] },toks:=s.toks }:=
   I.laid (λb o e=>get?_push_of_some _ e) (Nat.le_refl _) ⟨by show 2<=sizeLine; decide,[u,v],.cons ru (.cons rv .nil),_,gT,rfl,_,rfl⟩
  have fp1:∀ c ∈ [z,TI,TO,i1,i2],cH X pins (upd H s.heap.objs.size (.tup [x,y])) c:=λc hc=>
   ⟨by rw [ar (Nat.ne_of_lt (lt5 c hc))]; exact (hf c hc).1,(hf c hc).2⟩
  have I2:=I1.turnedN (h':=h'') (t':=s.toks) (fp:=[z,TI,TO,i1,i2]) (λc o hc e=>by
   rcases Heap.get?_push_cases e with ⟨e1,e2⟩ | e1
   ·rw [e1,e2]
    exact hT
   ·exact kk c o hc e1) fp1
  refine ⟨.ref s.heap.objs.size,_,I2,rfl,⟨_,x,y,rfl,fresh,rfl,λxs' q=>by rw [I.seqV_inj q qx]; exact hx,λys' q=>by rw [I.seqV_inj q qy]; exact hy⟩,?_,λc hc=>(fp1 c hc).1⟩
  exact ⟨hz'',(sb.2 _ D.TIz).trans (hk _ _ D.TIz D.TITO D.TIi1 D.TIi2 hTI),⟨u,v,(sb.2 _ D.TOz).trans a2⟩,a3.at λo e=>(sb.2 _ D.i1z).trans e,a4.at λo e=>(sb.2 _ D.i2z).trans e⟩
 done:=by
  intro X hP hw hK hc i pins s σ H E I hf st hg
  subst hP hw hK
  obtain ⟨xs,ys,qx,qy,hend⟩:=hg
  obtain ⟨hz,hTI,⟨xo,yo,hTO⟩,h1,h2⟩:=st
  obtain ⟨ix,rx,px,zx⟩:=I.seqV qx
  obtain ⟨iy,ry,py,zy⟩:=I.seqV qy
  have na:=cN I hf qx
  have nb:=cN I hf qy
  simp only [mem_cons,not_mem_nil,or_false,not_or] at na nb
  have DA:ZipApart z TI TO i1 i2 a b:=⟨D.TIz,D.TOz,D.i1z,D.i2z,D.TITO,D.TIi1,D.TIi2,D.TOi1,D.TOi2,D.i12,na.1,na.2.2.1,na.2.2.2.1,na.2.2.2.2,nb.1,nb.2.2.1,nb.2.2.2.1,nb.2.2.2.2⟩
  have lx:=rx.length
  have ly:=ry.length
  refine eS (I.ok.hd hc) DA hz hTI hTO h1 h2 px py ?_ λh' hk=>⟨rfl,I.turnedN (t':=s.toks) (λc o hc e=>?_) hf⟩
  ·rcases hend with q | q
   ·exact .inl (by simp; omega)
   ·exact .inr (by simp; omega)
  ·simp only [mem_cons,not_mem_nil,or_false,not_or] at hc
   exact hk c o hc.1 hc.2.2.1 hc.2.2.2.1 hc.2.2.2.2 e
 self:=λ_ _ _ _ _ st h=>wpAny_pyIter_zip st.1 h
def iZip (t1 t2:Bool) (K:Frag) (ta:TA):TI:=λσ H R=>ta σ H λvs H1=>∃ a b,vs=[.ref a,.ref b]/\(∃ xs,SqV t1 K H1 a xs)/\(∃ ys,SqV t2 K H1 b ys)/\R (Itz t1 t2 K a b) H1
theorem pi_zip {X:Cx} (t1 t2:Bool) {es:List Expr} {ek:Nat} {ep:Pos} {a b:Expr} {ta:TA} {p pos:Pos} (hg:Gl X "zip") (hm:X.mg "zip" = none) (ha:PA X [a,b] ta) (hs:starEach [a,b] X.env=[(false,eval a X.env),(false,eval b X.env)]:=by rfl) (hs2:starEach [b] X.env=[(false,eval b X.env)]:=by rfl) :
  PI X (.Tuple es ek ep) (.Call (.Name "zip" p) [a,b] [] pos) (iZip t1 t2 X.K ta):=by
 intro pins s σ H R I h
 refine Call_ (dg I hg hm boot_zip (PyProof.Rows.callWith_type1 (thn (ha pos pins s σ H _ I h) λus s1 ⟨vs,H1,I1,r1,q1⟩=>?_) (by rw [hs,hs2]) (by rw [hs2]; rfl)))
 obtain ⟨l1,l2,e,⟨xs,qx⟩,⟨ys,qy⟩,q⟩:=q1
 subst e
 cases r1 with
 | cons r rr=>
  cases rr with
  | cons r' rr=>
   cases rr
   cases r
   cases r'
   obtain ⟨ix,rx,px,zx⟩:=I1.seqV qx
   obtain ⟨iy,ry,py,zy⟩:=I1.seqV qy
   refine call_zipN px py λh' a1 a2 a3 a4 a5 a6 a7=>?_
   have I2:Inv X pins σ H1 { s1 with heap:=h',toks:=s1.toks }:=I1.kept a7
   refine wpAny_pyIter_zip (s:={ s1 with heap:=h' }) a1 ?_
   refine ⟨_,[s1.heap.objs.size+4,s1.heap.objs.size+2,s1.heap.objs.size+3,s1.heap.objs.size,s1.heap.objs.size+1],_,_,H1,rfl,I2,turn_zip l1 l2 (s1.heap.objs.size+4) (s1.heap.objs.size+2) (s1.heap.objs.size+3) s1.heap.objs.size (s1.heap.objs.size+1) (zdist _),⟨a1,a2,⟨_,_,a3⟩,a4,a5⟩,λb hb=>?_,q⟩
   have hb':s1.heap.objs.size<=b:=by
    simp only [mem_cons,not_mem_nil,or_false] at hb
    rcases hb with rfl | rfl | rfl | rfl | rfl
    ·exact Nat.le_add_right _ _
    ·exact Nat.le_add_right _ _
    ·exact Nat.le_add_right _ _
    ·exact Nat.le_refl _
    ·exact Nat.le_add_right _ _
   exact I1.fpOk hb' (I1.hok.fresh hb')
mutual
inductive DR (K:Frag) (H:Hp):PyData->V->Prop
 | non:DR K H .none .non
 | bl (b:Bool):DR K H (.bool b) (.bl b)
 | int (i:Int):DR K H (.int i) (.int i)
 | str (x:Str):DR K H (.str x) (.str x)
 | tup {a:Addr} {vs:List V} {ds:List PyData}:SqT K H a vs->DRs K H ds vs->DR K H (.tuple ds) (.ref a)
 | lst {a:Addr} {vs:List V} {ds:List PyData}:SqL K H a vs->DRs K H ds vs->DR K H (.list ds) (.ref a)
inductive DRs (K:Frag) (H:Hp):List PyData->List V->Prop
 | nil:DRs K H [] []
 | cons {d:PyData} {v:V} {ds:List PyData} {vs:List V}:DR K H d v->DRs K H ds vs->DRs K H (d::ds) (v::vs)
end
section
variable {X:Cx} {pins:List (Addr × Obj)} {σ:St} {H:Hp} {s:Shared}
mutual
theorem DR.reads (I:Inv X pins σ H s):∀ {d:PyData} {v:V} {u:Value},DR X.K H d v->g7 v u->∃ as,Reads s.heap u d as
 | _,_,_,.non,r=>by cases (show _=Value.none from r); exact ⟨_,.none⟩
 | _,_,_,.bl b,r=>by cases (show _=Value.bool b from r); exact ⟨_,.bool b⟩
 | _,_,_,.int i,r=>by obtain ⟨t,q⟩:=(show ∃ t,_=Value.int i t from r); subst q; exact ⟨_,.int i t⟩
 | _,_,_,.str x,r=>by obtain ⟨t,q⟩:=(show ∃ t,_=Value.str x t from r); subst q; exact ⟨_,.str x t⟩
 | _,_,_,.tup (a:=a) q qs,r=>by
  cases (show _=Value.ref a from r)
  obtain ⟨its,rv,⟨o,e,c,n,d⟩,z⟩:=I.tuple q
  obtain ⟨as,ra⟩:=DRs.reads I qs rv
  exact ⟨as,.tuple e c d (by simpa using ra)⟩
 | _,_,_,.lst (a:=a) q qs,r=>by
  cases (show _=Value.ref a from r)
  obtain ⟨its,rv,⟨o,n,e,c,_,d⟩,z⟩:=I.list q
  obtain ⟨as,ra⟩:=DRs.reads I qs rv
  exact ⟨_,.list e c d (by simpa using ra)⟩
theorem DRs.reads (I:Inv X pins σ H s):∀ {ds:List PyData} {vs:List V} {us:List Value},DRs X.K H ds vs->g6 vs us->∃ as,ReadsAll s.heap us ds as
 | _,_,_,.nil,r=>by cases r; exact ⟨_,.nil⟩
 | _,_,_,.cons q qs,r=>by
  cases r with
  | cons r rr=>
   obtain ⟨as,ra⟩:=DR.reads I q r
   obtain ⟨bs,rb⟩:=DRs.reads I qs rr
   exact ⟨_,.cons ra rb⟩
end
def rEqD (K:Frag):R2:=λx y H Q=>∃ d e,DR K H d x/\DR K H e y/\SeqAt.shaped d=true/\SeqAt.shaped e=true/\Q (.bl (PyData.eqv d e)) H
def rNeD (K:Frag):R2:=λx y H Q=>∃ d e,DR K H d x/\DR K H e y/\SeqAt.shaped d=true/\SeqAt.shaped e=true/\Q (.bl (!PyData.eqv d e)) H
theorem op_eqD (hu:X.A.units+64<cLine):OpR X (compareOp .Eq) (rEqD X.K):=by
 intro pins s σ H x y v u Q I rx ry h
 obtain ⟨d,e,dx,dy,sx,sy,q⟩:=h
 obtain ⟨as,ra⟩:=dx.reads I rx
 obtain ⟨bs,rb⟩:=dy.reads I ry
 exact eq_dataH ra rb sx sy hu ⟨.bl _,H,I,rfl,q⟩
theorem op_neD (hu:X.A.units+64<cLine):OpR X (compareOp .NotEq) (rNeD X.K):=by
 intro pins s σ H x y v u Q I rx ry h
 obtain ⟨d,e,dx,dy,sx,sy,q⟩:=h
 obtain ⟨as,ra⟩:=dx.reads I rx
 obtain ⟨bs,rb⟩:=dy.reads I ry
 exact ne_dataH ra rb sx sy hu ⟨.bl _,H,I,rfl,q⟩
end
def eN (ns:List Int):PyData:=.tuple (ns.map .int)
theorem dD {K:Frag} {H:Hp}:∀ ns:List Int,DRs K H (ns.map PyData.int) (ns.map V.int)
 | []=>.nil
 | n::r=>.cons (.int n) (dD r)
theorem dr_ints {K:Frag} {H:Hp} {a:Addr} {ns:List Int} (h:SqT K H a (ns.map V.int)):DR K H (eN ns) (.ref a):=.tup h (dD ns)
theorem shaped_ints (ns:List Int):SeqAt.shaped (eN ns)=true:=by
 simp [eN,SeqAt.shaped,PyData.canLay0,PyData.depth,PySem.W.ke_canLayAll0,PySem.W.ke_depthAll]
theorem eO:∀ ns ms:List Int,PyData.eqvAll (ns.map PyData.int) (ms.map PyData.int)=decide (ns=ms)
 | [],[]=>by simp [PyData.eqvAll]
 | [],_::_=>by simp [PyData.eqvAll]
 | _::_,[]=>by simp [PyData.eqvAll]
 | a::r,b::t=>by
  simp only [map_cons,PyData.eqvAll,PyData.eqv,eO r t]
  by_cases h:a=b<;>by_cases h':r=t<;>simp [h,h']
theorem eqv_ints (ns ms:List Int):PyData.eqv (eN ns) (eN ms)=decide (ns=ms):=by
 simp only [eN,PyData.eqv]; exact eO ns ms
section
variable {X:Cx}
theorem Walks.sq {prog:Program} {w:World} {A:Around} (t:Bool) (hh:A.handled=none) (I ax:Addr) (hne:ax ≠ I) (items:Array Value) :
  Walks prog w A I [I,ax] [I] items.size (λi v=>items[i]? = some v) (λi h=>SqI t h I ax i/\SqO t h ax items):=by
 cases t
 ·exact Walks.list hh I ax hne items
 ·exact Walks.tuple hh I ax hne items
theorem call_allV (hc:X.calm=true) (t:Bool):dc X (.builtin "all") (λxs H Q=>∃ (p:Addr) (bs:List Bool),xs=[.ref p]/\SqV t X.K H p (bs.map V.bl)/\Q (.bl (bs.all id)) H):=by
 intro pins s σ H xs us Q I rv h
 obtain ⟨p,bs,rfl,q,hq⟩:=h
 obtain ⟨u,rfl,ru⟩:=gb rv
 cases ru
 obtain ⟨its,rb,po,z⟩:=I.seqV q
 have hh:X.A.in1.handled=none:=I.ok.hd hc
 refine call_all_walk (pyIter_sq po λo hi=>?_)
 have hlt:p<s.heap.objs.size:=by obtain ⟨ob,e⟩:=po.obj; exact lt_size e
 refine ⟨s.heap.objs.size,_,_,_,_,_,λi=>bs.getD i false,rfl,Walks.sq t hh s.heap.objs.size p (Nat.ne_of_lt hlt) its.toArray,⟨hi,po.at λo' e=>get?_push_of_some _ e⟩,?_,λh' tk hk=>?_⟩
 ·intro i v s' Q' E' hv hQ
  have hv':its[i]? = some v:=by simpa using hv
  have hlen:=rb.length
  have hil:i<its.length:=(List.getElem?_eq_some_iff.mp hv').1
  rw [length_map] at hlen
  have hb:(bs.map V.bl)[i]? = some (.bl (bs.getD i false)):=by
   rw [getElem?_map,getD_eq_getElem?_getD,getElem?_eq_getElem (by omega)]
   rfl
  obtain ⟨u,hu,ru⟩:=rb.get hb
  rw [hv'] at hu
  cases hu
  cases (show v=Value.bool _ from ru)
  exact wpAny_truthy_bool hQ
 ·have I1:Inv X pins σ H { s with heap:=s.heap.push o,toks:=s.toks }:=I.kept λb u e=>get?_push_of_some _ e
  have fp:cH X pins H s.heap.objs.size:=I.fpOk (Nat.le_refl _) (I.hok.fresh (Nat.le_refl _))
  have I2:Inv X pins σ H { s with heap:=h',toks:=tk }:=by
   have:=I1.turnedN (fp:=[s.heap.objs.size]) (h':=h') (t':=tk) (λb ob hb e=>hk b ob hb e) (λb hb=>by have e:b=s.heap.objs.size:=by simpa using hb
                                                                                                     subst e; exact fp)
   exact this
  refine ⟨.bl (bs.all id),H,I2,?_,hq⟩
  show Value.bool _=Value.bool _
  congr 1
  have hlen:=rb.length
  rw [length_map] at hlen
  have hsz:its.toArray.size=bs.length:=by simp [hlen]
  rw [hsz]
  rw [Bool.eq_iff_iff]
  simp only [all_eq_true,mem_range]
  constructor
  ·intro h b hb
   obtain ⟨i,hi,rfl⟩:=List.getElem_of_mem hb
   have:=h i hi
   simpa [getD_eq_getElem?_getD,getElem?_eq_getElem hi] using this
  ·intro h i hi
   have:=h (bs[i]) (getElem_mem hi)
   simpa [getD_eq_getElem?_getD,getElem?_eq_getElem hi] using this
end
end L2
namespace L2
open PySem PySem.Spec PyProof.Rows
section
variable {X:Cx} {pos:Pos}
def rIsT (K:Frag):List V->Hp->VK->Prop:=λxs H Q=>∃ (x:V) (t:Value) (c:String) (b:Bool),xs=[x,.ty c]/\TyOf K H x t/\kitOne K t (.type c)=some b/\Q (.bl b) H
theorem call_isT:dc X (.builtin "isinstance") (rIsT X.K):=by
 intro pins s σ H xs us Q I rv h
 obtain ⟨x,t,c,b,rfl,ty,e,q⟩:=h
 obtain ⟨u,u',rfl,r1,r2⟩:=vals2 rv
 cases (show u'=Value.type c from r2)
 exact isinst_ok I r1 ty e λtk=>⟨.bl b,H,I.tok tk,rfl,q⟩
theorem boot_isinst:bootBuiltins "isinstance"=some (.builtin "isinstance"):=by decide +kernel
theorem boot_all':bootBuiltins "all"=some (.builtin "all"):=by decide +kernel
theorem boot_max':bootBuiltins "max"=some (.builtin "max"):=by decide +kernel
theorem boot_abs':bootBuiltins "abs"=some (.builtin "abs"):=by decide +kernel
theorem boot_list':bootBuiltins "list"=some (.type "list"):=by decide +kernel
theorem gn:bootBuiltins "int"=some (.type "int"):=by decide +kernel
theorem boot_bool':bootBuiltins "bool"=some (.type "bool"):=by decide +kernel
theorem bu:OpR X (binaryOp .Mult) (rI IntMulOk λi j=>.int (i*j)):=opI λ_ _ _ _ _ _ _ hc q=>mul_int q hc
end
structure FnB (P:Program) (w:World) (K:Frag) (mg:Str->Option Value) (base:Heap) (k:Nat) (x:Str) (sp:Sp):Prop where
 ex:∃ f fd ps,aI P w K mg base CX0 k f fd ps sp/\mg x=some (.ref f)/\keepIn K (.ref f)=true/\Binds K fd ps []
structure Blt (mg:Str->Option Value):Prop where
 len:mg "len" = none
 range:mg "range" = none
 zip:mg "zip" = none
 all:mg "all" = none
 sum:mg "sum" = none
 max:mg "max" = none
 min:mg "min" = none
 abs:mg "abs" = none
 tuple:mg "tuple" = none
 list:mg "list" = none
 int:mg "int" = none
 bool:mg "bool" = none
 isinst:mg "isinstance" = none
 enum:mg "enumerate" = none
 sorted:mg "sorted" = none
 set:mg "set" = none
 str:mg "str" = none
section
variable {X:Cx} {p pos:Pos} {e e2:Expr} {es:List Expr} {t:TA} {te te2:TE}
theorem ay {x:Str} {k:Nat} {sp:Sp} (F:FnB X.prog X.w X.K X.mg X.base k x sp) (hr:hZ k X.A) (ha:PA X (e::es) t) (hg:Gl X x:=by rfl) (hdb:(x == ("__debug__" : Str))=false:=by decide)
  (he:starEach (e::es) X.env=(false,eval e X.env)::starEach es X.env:=by rfl) (hpl:(backTo pos (starEach es X.env)).any (·.1)=false:=by rfl):PE X (.Call (.Name x p) (e::es) [] pos) (tCall sp [] E0 t):=by
 obtain ⟨f,fd,ps,F',hm,hk,hb⟩:=F.ex
 exact pe_call F' hr hg hm hk hb .nil pass0 ha hdb he hpl
theorem pl_len (T:Blt X.mg) (ha:PE X e te) (hg:Gl X "len":=by rfl) (hs:starEach [e] X.env=[(false,eval e X.env)]:=by rfl):PE X (.Call (.Name "len" p) [e] [] pos) (tCB (λxs H Q=>∃ p ys,xs=[.ref p]/\(SqL X.K H p ys\/SqT X.K H p ys)/\Q (.int ys.length) H) (cC te de)):=
 cD gW hg T.len PySem.boot_len (aa ha ag hs) (by decide) (by decide) hs
theorem pl_all (T:Blt X.mg) (ha:PE X e te) (b:Bool) (hc:X.calm=true:=by rfl) (hg:Gl X "all":=by rfl) (hs:starEach [e] X.env=[(false,eval e X.env)]:=by rfl):PE X (.Call (.Name "all" p) [e] [] pos) (tCB (λxs H Q=>∃ (p:Addr) (bs:List Bool),xs=[.ref p]/\SqV b X.K H p (bs.map V.bl)/\Q (.bl (bs.all id)) H) (cC te de)):=
 cD (call_allV hc b) hg T.all boot_all' (aa ha ag hs) (by decide) (by decide) hs
theorem pl_max (T:Blt X.mg) (ha:PA X [e,e2] t) (hc:X.calm=true:=by rfl) (hg:Gl X "max":=by rfl) (he:starEach [e,e2] X.env=(false,eval e X.env)::starEach [e2] X.env:=by rfl) (hpl:(backTo pos (starEach [e2] X.env)).any (·.1)=false:=by rfl) :
  PE X (.Call (.Name "max" p) [e,e2] [] pos) (tCB (λxs H Q=>∃ i j,xs=[.int i,.int j]/\Q (.int (if j > i then j else i)) H) t):=
 cD (call_max2 hc) hg T.max boot_max' ha (by decide) (by decide) he hpl
theorem gC (T:Blt X.mg) (ha:PE X e te) (hg:Gl X "abs":=by rfl) (hs:starEach [e] X.env=[(false,eval e X.env)]:=by rfl):PE X (.Call (.Name "abs" p) [e] [] pos) (tCB (λxs H Q=>∃ i,xs=[.int i]/\Q (.int (if i<0 then -i else i)) H) (cC te de)):=
 cD call_abs hg T.abs boot_abs' (aa ha ag hs) (by decide) (by decide) hs
def rIsM (K:Frag):List V->Hp->VK->Prop:=λxs H Q=>match xs with
 | [x,.ty c]=>∃ (t:Value) (b:Bool),TyOf K H x t/\kitOne K t (.type c)=some b/\Q (.bl b) H
 | _=>False
theorem call_isM:dc X (.builtin "isinstance") (rIsM X.K):=by
 intro pins s σ H xs us Q I rv h
 unfold rIsM at h
 split at h
 ·obtain ⟨t,b,ty,e,q⟩:=h
  exact call_isT pins s σ H _ us Q I rv ⟨_,t,_,b,rfl,ty,e,q⟩
 ·exact h.elim
theorem pl_is {cn:Str} {c:String} {p2:Pos} (T:Blt X.mg) (ha:PE X e te) (hm:X.mg cn=none) (hv:bootBuiltins cn=some (.type c)) (hg:Gl X "isinstance":=by rfl) (hg2:Gl X cn:=by rfl) (hn:cn ≠ "__name__":=by decide) (hd:(cn == ("__debug__" : Str))=false:=by decide)
  (he:starEach [e,.Name cn p2] X.env=(false,eval e X.env)::starEach [.Name cn p2] X.env:=by rfl) (he2:starEach [.Name cn p2] X.env=[(false,eval (.Name cn p2) X.env)]:=by rfl) :
  PE X (.Call (.Name "isinstance" p) [e,.Name cn p2] [] pos) (tCB (rIsM X.K) (cC te (cC (tC (.ty c)) de))):=
 cD (X:=X) (p:=p) (pos:=pos) call_isM hg T.isinst boot_isinst (aa ha (aa (pe_bltn (v:=.ty c) (pos:=p2) hg2 hm hv rfl hn hd) ag he2) he) (by decide) (by decide) he (by rw [he2]; rfl)
end
theorem ft {J:It} {n:Nat} {acc:Addr} {g:TG} {tt:TT} {te:TE} {Q:VK} {σ0:St} {H0:Hp} (Pv:Nat->List V->St->Hp->Prop) (hn:n<=sizeLine) (h0:Pv 0 [] σ0 (upd H0 acc (.lst [])))
  (hgo:∀ i zs σ H,i<n->H acc=some (.lst zs)->Pv i zs σ H->J.go i H)
  (hst:∀ zs σ H,H acc=some (.lst zs)->Pv n zs σ H->J.stop n H)
  (hs:∀ i zs σ H x H',i<n->H acc=some (.lst zs)->zs.length<=i->Pv i zs σ H->J.yld i H x H'->g x σ H' λσ2 H2=>tt σ2 H2 λb H3=>
   if b=true then te σ2 H3 λy H4=>∃ ys,H4 acc=some (.lst ys)/\ys.length<sizeLine/\∃ zs,(upd H4 acc (.lst (ys++[y]))) acc=some (.lst zs)/\zs.length<=i+1/\Pv (i+1) zs σ2 (upd H4 acc (.lst (ys++[y])))
   else ∃ zs,H3 acc=some (.lst zs)/\zs.length<=i+1/\Pv (i+1) zs σ2 H3)
  (hd:∀ zs σ H,H acc=some (.lst zs)->zs.length<=n->Pv n zs σ H->Q (.ref acc) H) :
  ∃ W:Nat->Nat->St->Hp->Prop,(∃ m,W 0 m σ0 (upd H0 acc (.lst [])))/\∀ i m σ H,W i m σ H->
   (J.stop i H/\Q (.ref acc) H)\/(J.go i H/\∃ N:St->Hp->Prop,(∀ σ' H',N σ' H'->∃ m',m' < m/\W (i+1) m' σ' H')/\∀ x H',J.yld i H x H'->g x σ H' λσ2 H2=>tt σ2 H2 λb H3=>
    if b=true then te σ2 H3 λy H4=>∃ ys,H4 acc=some (.lst ys)/\ys.length<sizeLine/\N σ2 (upd H4 acc (.lst (ys++[y]))) else N σ2 H3):=by
 refine ⟨λi m σ H=>m=n-i/\i<=n/\∃ zs,H acc=some (.lst zs)/\zs.length<=i/\Pv i zs σ H,⟨n,by simp,Nat.zero_le _,[],af,Nat.le_refl _,h0⟩,?_⟩
 rintro i m σ H ⟨rfl,hi,zs,hz,hl,p⟩
 by_cases hlt:i<n
 ·refine .inr ⟨hgo i zs σ H hlt hz p,λσ' H'=>∃ zs,H' acc=some (.lst zs)/\zs.length<=i+1/\Pv (i+1) zs σ' H',λσ' H' p'=>⟨n-(i+1),by omega,rfl,hlt,p'⟩,λx H' y=>?_⟩
  exact hs i zs σ H x H' hlt hz hl p y
 ·have e:i=n:=by omega
  subst e
  exact .inl ⟨hst zs σ H hz p,hd zs σ H hz hl p⟩
theorem gY.sqT {K:Frag} {H H':Hp} {a:Addr} {xs:List V} (e:gY H H') (h:SqT K H a xs):SqT K H' a xs:=by
 rcases h with (h | ⟨o,h⟩) | h
 ·exact .inl (.inl (e _ _ h))
 ·exact .inl (.inr ⟨o,e _ _ h⟩)
 ·exact .inr h
theorem gY.sqV {t:Bool} {K:Frag} {H H':Hp} {a:Addr} {xs:List V} (e:gY H H') (h:SqV t K H a xs):SqV t K H' a xs:=by
 cases t
 ·exact gY.seq e h
 ·exact gY.sqT e h
theorem gY.new {H:Hp} {a:Addr} {o:HO} (h:H a=none):gY H (upd H a o):=λb u e=>by rw [ar (al e h)]; exact e
theorem gY.put {H H':Hp} {a:Addr} {o:HO} (s:gY H H') (h:H a=none):gY H (upd H' a o):=λb u e=>by rw [ar (al e h)]; exact s b u e
theorem gN {α β γ:Type} (f:α->β->γ):∀ (xs:List α) (ys:List β) (i:Nat) (x:α) (y:β),xs[i]? = some x->ys[i]? = some y->(List.zipWith f xs ys).take (i+1)=(List.zipWith f xs ys).take i++[f x y]:=by
 intro xs ys i x y hx hy
 rw [List.take_succ,List.getElem?_zipWith,hx,hy]
 rfl
theorem take_map {α β:Type} (f:α->β) (xs:List α) (i:Nat) (x:α) (hx:xs[i]? = some x):(xs.map f).take (i+1)=(xs.map f).take i++[f x]:=by
 rw [List.take_succ,getElem?_map,hx]
 rfl
theorem comp_zip {t1 t2:Bool} {K K':Frag} {a b:Addr} {xs ys:List V} {te:TE} {Q:VK} {rest:St} {src:List (Option Nat)} {σ:St} {H0:Hp} (f:V->V->V) (hσ:aY src σ=none::none::rest) (hx:SqV t1 K H0 a xs) (hy:SqV t2 K H0 b ys) (hl:xs.length<=sizeLine)
  (he:∀ (i:Nat) x y H (R:VK),xs[i]? = some x->ys[i]? = some y->gY H0 H->R (f x y) H->te (some x::some y::rest) H R)
  (hd:∀ acc H,H0 acc=none->gY H0 H->H acc=some (.lst (List.zipWith f xs ys))->Q (.ref acc) H) :
  be (Itz t1 t2 K a b) src (gTup K' 2 (fK (bi 0) (fK (bi 1) gNil))) fq te σ H0 Q:=by
 intro acc hacc
 rw [hσ]
 have hlen:(List.zipWith f xs ys).length=min xs.length ys.length:=length_zipWith
 refine ft (n:=min xs.length ys.length) (λi zs σ H=>gY H0 H/\zs=(List.zipWith f xs ys).take i/\∃ u v,σ=u::v::rest) (by omega) ⟨gY.new hacc,rfl,none,none,rfl⟩ ?_ ?_ ?_ ?_
 ·rintro i zs σ H hi hz ⟨sm,_⟩
  exact ⟨xs,ys,xs[i]'(by omega),ys[i]'(by omega),sm.sqV hx,sm.sqV hy,by simp,by simp⟩
 ·rintro zs σ H hz ⟨sm,_⟩
  refine ⟨xs,ys,sm.sqV hx,sm.sqV hy,?_⟩
  omega
 ·rintro i zs σ H x H' hi hz hzl ⟨sm,ez,u,v,rfl⟩ ⟨p,x1,y1,rfl,hp,rfl,gx,gy⟩
  have hx1:=gx xs (sm.sqV hx)
  have hy1:=gy ys (sm.sqV hy)
  have pacc:acc ≠ p:=al hz hp
  have hp0:H0 p=none:=sm.free hp
  refine ⟨p,[x1,y1],rfl,SqT.of af,rfl,x1,[y1],rfl,y1,[],rfl,rfl,?_⟩
  show te (some x1::some y1::rest) _ _
  refine he i x1 y1 _ _ hx1 hy1 (sm.put hp0) ?_
  refine ⟨zs,by rw [ar pacc]; exact hz,by omega,zs++[f x1 y1],af,by rw [length_append,length_singleton]; omega,(sm.put hp0).put hacc,?_,_,_,rfl⟩
  rw [gN f xs ys i x1 y1 hx1 hy1,ez]
 ·rintro zs σ H hz hzl ⟨sm,ez,_⟩
  refine hd acc H hacc sm ?_
  rw [hz,ez,List.take_of_length_le (by omega)]
theorem bP {J:It} {n:Nat} {src:List (Option Nat)} {g:TG} {tt:TT} {te:TE} {Q:VK} {σ σ0:St} {H0:Hp} (hσ:aY src σ=σ0) (Pv:Addr->Nat->List V->St->Hp->Prop) (hn:n<=sizeLine) (h0:∀ acc,H0 acc=none->Pv acc 0 [] σ0 (upd H0 acc (.lst [])))
  (hgo:∀ acc i zs σ H,H0 acc=none->i<n->H acc=some (.lst zs)->Pv acc i zs σ H->J.go i H)
  (hst:∀ acc zs σ H,H0 acc=none->H acc=some (.lst zs)->Pv acc n zs σ H->J.stop n H)
  (hs:∀ acc i zs σ H x H',H0 acc=none->i<n->H acc=some (.lst zs)->zs.length<=i->Pv acc i zs σ H->J.yld i H x H'->g x σ H' λσ2 H2=>tt σ2 H2 λb H3=>
   if b=true then te σ2 H3 λy H4=>∃ ys,H4 acc=some (.lst ys)/\ys.length<sizeLine/\∃ zs,(upd H4 acc (.lst (ys++[y]))) acc=some (.lst zs)/\zs.length<=i+1/\Pv acc (i+1) zs σ2 (upd H4 acc (.lst (ys++[y])))
   else ∃ zs,H3 acc=some (.lst zs)/\zs.length<=i+1/\Pv acc (i+1) zs σ2 H3)
  (hd:∀ acc zs σ H,H0 acc=none->H acc=some (.lst zs)->zs.length<=n->Pv acc n zs σ H->Q (.ref acc) H):be J src g tt te σ H0 Q:=by
 intro acc hacc
 rw [hσ]
 exact ft (Pv acc) hn (h0 acc hacc) (λi zs σ H=>hgo acc i zs σ H hacc) (λzs σ H=>hst acc zs σ H hacc) (λi zs σ H x H'=>hs acc i zs σ H x H' hacc) (λzs σ H=>hd acc zs σ H hacc)
theorem bX {X:Cx} {i:Nat} {x:Str} {pos:Pos} (hN:X.N.Nodup) (hi:X.N[i]? = some x) (hx:X.env.scope.names.lookup x=some .local):PG X (.Name x pos) (bi i):=b9 hN hi (.inl hx) (.inr hx)
section
variable {X:Cx} (K:Frag) {p pos:Pos} {e e2:Expr} {es:List Expr} {t:TA} {te te2:TE}
theorem cU {i j:Nat} {x y:Str} {p1 p2 pos:Pos} {k:Nat} (hK:X.K=K) (hc:X.calm=true) (hN:X.N.Nodup) (hi:X.N[i]? = some x) (hj:X.N[j]? = some y) (hx:X.env.scope.names.lookup x=some .local) (hy:X.env.scope.names.lookup y=some .local) :
  PG X (.Tuple [.Name x p1,.Name y p2] k pos) (gTup K 2 (fK (bi i) (fK (bi j) gNil))):=by
 subst hK
 exact pg_tup hc (pgs_cons (bX hN hi hx) (pgs_cons (bX hN hj hy) pgs_nil))
theorem aB (hK:X.K=K):IxR X (rIxL K):=hK ▸ ix_list
theorem aJ (hK:X.K=K):IxR X (rIxT K):=hK ▸ ix_tup
theorem keqD (hK:X.K=K) (hu:X.A.units+64<cLine):OpR X (compareOp .Eq) (rEqD K):=hK ▸ op_eqD hu
theorem kneD (hK:X.K=K) (hu:X.A.units+64<cLine):OpR X (compareOp .NotEq) (rNeD K):=hK ▸ op_neD hu
theorem aO {tg:Expr} (hK:X.K=K) (hl:PE X e te):PI X tg e (iList K te):=hK ▸ pi_list hl
theorem gD (t1 t2:Bool) {es:List Expr} {ek:Nat} {ep:Pos} {a b:Expr} {ta:TA} (hK:X.K=K) (hg:Gl X "zip") (hm:X.mg "zip" = none) (ha:PA X [a,b] ta) (hs:starEach [a,b] X.env=[(false,eval a X.env),(false,eval b X.env)]:=by rfl) (hs2:starEach [b] X.env=[(false,eval b X.env)]:=by rfl) :
  PI X (.Tuple es ek ep) (.Call (.Name "zip" p) [a,b] [] pos) (iZip t1 t2 K ta):=hK ▸ pi_zip t1 t2 hg hm ha hs hs2
def rLen (K:Frag):List V->Hp->VK->Prop:=λxs H Q=>∃ p ys,xs=[.ref p]/\(SqL K H p ys\/SqT K H p ys)/\Q (.int ys.length) H
def rAll (b:Bool) (K:Frag):List V->Hp->VK->Prop:=λxs H Q=>∃ (p:Addr) (bs:List Bool),xs=[.ref p]/\SqV b K H p (bs.map V.bl)/\Q (.bl (bs.all id)) H
theorem cV (T:Blt X.mg) (ha:PE X e te) (hK:X.K=K:=by rfl) (hg:Gl X "len":=by rfl) (hs:starEach [e] X.env=[(false,eval e X.env)]:=by rfl):PE X (.Call (.Name "len" p) [e] [] pos) (tCB (rLen K) (cC te de)):=by
 subst hK; exact pl_len T ha hg hs
theorem kpl_all (T:Blt X.mg) (ha:PE X e te) (b:Bool) (hK:X.K=K:=by rfl) (hc:X.calm=true:=by rfl) (hg:Gl X "all":=by rfl) (hs:starEach [e] X.env=[(false,eval e X.env)]:=by rfl):PE X (.Call (.Name "all" p) [e] [] pos) (tCB (rAll b K) (cC te de)):=by
 subst hK; exact pl_all T ha b hc hg hs
theorem kpl_is {cn:Str} {c:String} {p2:Pos} (T:Blt X.mg) (ha:PE X e te) (hm:X.mg cn=none) (hv:bootBuiltins cn=some (.type c)) (hK:X.K=K:=by rfl) (hg:Gl X "isinstance":=by rfl) (hg2:Gl X cn:=by rfl) (hn:cn ≠ "__name__":=by decide) (hd:(cn == ("__debug__" : Str))=false:=by decide)
  (he:starEach [e,.Name cn p2] X.env=(false,eval e X.env)::starEach [.Name cn p2] X.env:=by rfl) (he2:starEach [.Name cn p2] X.env=[(false,eval (.Name cn p2) X.env)]:=by rfl) :
  PE X (.Call (.Name "isinstance" p) [e,.Name cn p2] [] pos) (tCB (rIsM K) (cC te (cC (tC (.ty c)) de))):=by
 subst hK; exact pl_is T ha hm hv hg hg2 hn hd he he2
end
section
variable {X:Cx} (K:Frag) {p pos:Pos} {e e2:Expr} {es:List Expr} {t:TA} {te te2:TE}
def rListT (K:Frag):List V->Hp->VK->Prop:=λxs H Q=>∃ p ys,xs=[.ref p]/\(SqL K H p ys\/SqT K H p ys)/\∀ l,H l=none->Q (.ref l) (upd H l (.lst ys))
theorem fm (T:Blt X.mg) (ha:PE X e te) (hK:X.K=K:=by rfl) (hg:Gl X "list":=by rfl) (hs:starEach [e] X.env=[(false,eval e X.env)]:=by rfl):PE X (.Call (.Name "list" p) [e] [] pos) (tCB (rListT K) (cC te de)):=by
 subst hK; exact gq gJ hg T.list boot_list' (aa ha ag hs) (by decide) (by decide) hs
end
theorem TyOf.same {K:Frag} {H H':Hp} {x:V} {t:Value} (s:gY H H') (h:TyOf K H x t):TyOf K H' x t:=by
 cases h with
 | non=>exact .non
 | bl b=>exact .bl b
 | int i=>exact .int i
 | str x=>exact .str x
 | flt x=>exact .flt x
 | lst e=>exact .lst (s _ _ e)
 | frz e=>exact .frz (s _ _ e)
 | tup e=>exact .tup (s _ _ e)
 | dK e=>exact .dK (s _ _ e)
 | dT e=>exact .dT (s _ _ e)
 | ins e cl ha hn htk hm=>exact .ins (s _ _ e) cl ha hn htk hm
theorem e7 {t u:TS} {D:eP} {σ:St} {H:Hp} (M:St->Hp->Prop) (h1:∀ R:St->Hp->Prop,(∀ σ' H',M σ' H'->R σ' H')->t { D with nx:=R } σ H) (h2:∀ σ' H',M σ' H'->u D σ' H'):tSeq t u D σ H:=h1 (u D) h2
theorem set_cut {i:Nat} {x:V} {t u:TS} {D:eP} {σ:St} {H:Hp} (M:St->Hp->Prop) (h1:∀ R:St->Hp->Prop,(∀ σ' H',M σ' H'->R σ' H')->t { D with nx:=R } (σ.set i (some x)) H) (h2:∀ σ' H',M σ' H'->u D σ' H'):bi i x σ H (tSeq t u D):=h1 (u D) h2
def Ite (K:Frag) (a:Addr):It:=
 ⟨λi H=>∃ xs x,SqL K H a xs/\xs[i]? = some x,
  λi H v H'=>∃ p x,v=.ref p/\H p=none/\H'=upd H p (.tup [.int i,x])/\∀ xs,SqL K H a xs->xs[i]? = some x,
  λi H=>∃ xs,SqL K H a xs/\xs.length<=i⟩
theorem turn_enum {P:Program} {w:World} {K:Frag} {es:List Expr} {ek:Nat} {ep:Pos} (a e it:Addr) (hne:e ≠ it) :
  Turn P w K (.Tuple es ek ep) (Ite K a) [e,it] e (λi h=>(∃ old,IsEnum h e it ((i:Nat):Int) old)/\h.IsListIter it a i) where
 mem:=by simp
 obj:=λi h ⟨⟨old,he⟩,hi⟩ c hc=>by
  simp only [mem_cons,not_mem_nil,or_false] at hc
  rcases hc with rfl | rfl
  ·exact ⟨_,he,λv z=>by cases z⟩
  ·obtain ⟨o,ho,_,d⟩:=hi
   exact ⟨o,ho,λv z=>by rw [d] at z; cases z⟩
 keep:=λi h h' ⟨⟨old,he⟩,hi⟩ k=>⟨⟨old,k e (by simp) _ he⟩,hi.at λo q=>k it (by simp) o q⟩
 item:=by
  intro X hP hw hK hc i pins s σ H E I hf st hg
  subst hP hw hK
  obtain ⟨xs,x,qx,hx⟩:=hg
  obtain ⟨⟨old,he⟩,hi⟩:=st
  obtain ⟨ix,rx,px,zx⟩:=I.list qx
  obtain ⟨u,hu,ru⟩:=rx.get hx
  have na:=cN (t:=false) I hf qx
  simp only [mem_cons,not_mem_nil,or_false,not_or] at na
  refine wpAny_pyNext_enum_item he hi px.isList (x:=u) (by simpa using hu) hne λh' a1 a2 a3 a4 hk=>?_
  refine ⟨_,rfl,wpAny_letOwnedTupleGo_enum a1 λh'' he'' sb=>?_⟩
  have lt2:∀ c ∈ [e,it],c<s.heap.objs.size:=λc hc=>by
   simp only [mem_cons,not_mem_nil,or_false] at hc
   rcases hc with rfl | rfl
   ·exact lt_size he
   ·obtain ⟨o,ho,_⟩:=hi; exact lt_size ho
  have nT:s.heap.objs.size ∉ [e,it]:=λhc=>absurd (lt2 _ hc) (Nat.lt_irrefl _)
  have kk:∀ c o,c ∉ [e,it]->s.heap.get? c=some o->h''.get? c=some o:=λc o hc q=>by
   simp only [mem_cons,not_mem_nil,or_false,not_or] at hc
   exact (sb.2 c hc.1).trans (hk c o hc.1 hc.2 q)
  have hT:h''.get? s.heap.objs.size=some { cls:=.type "tuple",data:=.seq #[.int i s.toks,u] }:=(sb.2 _ (λz=>nT (by simp [z]))).trans a3
  have fresh:H s.heap.objs.size=none:=I.hok.fresh (Nat.le_refl _)
  have gT:(s.heap.push { cls:=.type "tuple",data:=.seq #[.int i s.toks,u] }).get? s.heap.objs.size=some { cls:=.type "tuple",data:=.seq #[.int i s.toks,u] }:=get?_push_size _ rfl
  have I1:Inv X pins σ (upd H s.heap.objs.size (.tup [.int i,x])) { s with heap:=s.heap.push { cls:=.type "tuple",data:=.seq #[.int i s.toks,u] },toks:=s.toks+1 }:=
   I.laid (λb o q=>get?_push_of_some _ q) (Nat.le_refl _) ⟨by show 2<=sizeLine; decide,[.int i s.toks,u],.cons ⟨_,rfl⟩ (.cons ru .nil),_,gT,rfl,_,rfl⟩
  have fp1:∀ c ∈ [e,it],cH X pins (upd H s.heap.objs.size (.tup [.int i,x])) c:=λc hc=>
   ⟨by rw [ar (Nat.ne_of_lt (lt2 c hc))]; exact (hf c hc).1,(hf c hc).2⟩
  have I2:=I1.turnedN (h':=h'') (t':=s.toks+1) (fp:=[e,it]) (λc o hc q=>by
   rcases Heap.get?_push_cases q with ⟨e1,e2⟩ | e1
   ·rw [e1,e2]
    exact hT
   ·exact kk c o hc e1) fp1
  refine ⟨.ref s.heap.objs.size,_,I2,rfl,⟨_,x,rfl,fresh,rfl,λxs' q=>by rw [I.list_inj q qx]; exact hx⟩,⟨⟨u,?_⟩,a2.extBut sb.extBut hne.symm⟩,λc hc=>(fp1 c hc).1⟩
  have e1:((i+1:Nat):Int)=(i:Int)+1:=by push_cast; rfl
  rw [e1]
  exact he''
 done:=by
  intro X hP hw hK hc i pins s σ H E I hf st hg
  subst hP hw hK
  obtain ⟨xs,qx,hend⟩:=hg
  obtain ⟨⟨old,he⟩,hi⟩:=st
  obtain ⟨ix,rx,px,zx⟩:=I.list qx
  have lx:=rx.length
  refine wpAny_pyNext_enum_end (I.ok.hd hc) he hi px.isList (by simp; omega) λh' eb=>⟨rfl,I.turnedN (fp:=[e,it]) (t':=s.toks) (λc o hc q=>?_) hf⟩
  simp only [mem_cons,not_mem_nil,or_false,not_or] at hc
  exact eb c o hc.2 q
 self:=λ_ _ _ _ _ st h=>by
  obtain ⟨⟨old,he⟩,_⟩:=st
  exact wpAny_pyIter_enum he h
def iEnum (K:Frag) (ta:TA):TI:=λσ H R=>ta σ H λvs H1=>∃ a,vs=[.ref a]/\(∃ xs,SqL K H1 a xs)/\R (Ite K a) H1
theorem kpi_enum {X:Cx} (K:Frag) {es:List Expr} {ek:Nat} {ep:Pos} {a:Expr} {ta:TA} {p pos:Pos} (hK:X.K=K) (hg:Gl X "enumerate") (hm:X.mg "enumerate" = none) (ha:PA X [a] ta) (hs:starEach [a] X.env=[(false,eval a X.env)]:=by rfl) :
  PI X (.Tuple es ek ep) (.Call (.Name "enumerate" p) [a] [] pos) (iEnum K ta):=by
 subst hK
 intro pins s σ H R I h
 refine Call_ (dg I hg hm boot_enumerate (PyProof.Rows.callWith_type1 (thn (ha pos pins s σ H _ I h) λus s1 ⟨vs,H1,I1,r1,q1⟩=>?_) hs rfl))
 obtain ⟨l,e,⟨xs,qx⟩,q⟩:=q1
 subst e
 cases r1 with
 | cons r rr=>
  cases rr
  cases r
  obtain ⟨ix,rx,px,zx⟩:=I1.list qx
  refine call_enumerate_list px.isList λh' a1 a2 a3 a4=>?_
  have I2:Inv X pins σ H1 { s1 with heap:=h',toks:=s1.toks }:=I1.kept a4
  refine wpAny_pyIter_enum (s:={ s1 with heap:=h' }) a1 ?_
  refine ⟨_,[s1.heap.objs.size+1,s1.heap.objs.size],_,_,H1,rfl,I2,turn_enum l (s1.heap.objs.size+1) s1.heap.objs.size (Nat.succ_ne_self _),⟨⟨.none,a1⟩,a2⟩,λb hb=>?_,q⟩
  have hb':s1.heap.objs.size<=b:=by
   simp only [mem_cons,not_mem_nil,or_false] at hb
   rcases hb with rfl | rfl
   ·exact Nat.le_add_right _ _
   ·exact Nat.le_refl _
  exact I1.fpOk hb' (I1.hok.fresh hb')
def tOrE (t1 t2:TE):TE:=λσ H Q=>t1 σ H Q\/t2 σ H Q
def tMk0 (C:Addr):TE:=λσ H Q=>∀ x dx,H x=none->H dx=none->dx ≠ x->Q (.ref x) (upd (upd H dx (.own x)) x (.ins C dx []))
section
variable {X:Cx} {C:Addr} {x:Str} {p pos apos:Pos} {e o:Expr} {es:List Expr} {te ta t1 t2:TE} {t:TA}
theorem pe_two (h1:PE X e t1) (h2:PE X e t2):PE X e (tOrE t1 t2):=λpins s σ H Q I h=>h.elim (h1 pins s σ H Q I) (h2 pins s σ H Q I)
structure Mk0 (K:Frag) (C:Addr):Prop where
 makes:makesIn K C=true
 init:findIn K (.ref C) "__init__"=some (some (.builtin "object.__init__"))
 kp:keepIn K (.ref C)=true
theorem pe_mk0 (M:Mk0 X.K C) (hm:X.mg x=some (.ref C)) (hg:Gl X x:=by rfl) (hdb:(x == ("__debug__" : Str))=false:=by decide):PE X (.Call (.Name x p) [] [] pos) (tMk0 C):=by
 intro pins s σ H Q I h
 refine wpAny_Call_Name_kw (fh I hg hm ?_ hdb)
 have hq:=h (s.heap.objs.size+1) s.heap.objs.size (I.hok.fresh (Nat.le_succ _)) (I.hok.fresh (Nat.le_refl _)) (Nat.ne_of_lt (Nat.lt_succ_self _))
 have I2:=Inv.made (C:=C) I
 refine PySem.W.callWith_K0 I.kIn M.kp (wpAny_call (make_map0 I.kIn M.makes M.init (λself=>PySem.W.Looks.of_pure (PySem.W.oi_bind self)) ?_))
 have Y:=PySem.W.makes_of (M:=model X.prog X.w) I.kIn M.makes
 have hx:((s.heap.push emptyDict).push (instObj C s.heap.objs.size)).get? (s.heap.objs.size+1)=some (instObj C s.heap.objs.size):=by
  have:=get?_push_size (s.heap.push emptyDict) (o:=instObj C s.heap.objs.size) rfl
  rwa [size_push] at this
 have y1:PySem.W.Looks (model X.prog X.w) ((s.heap.push emptyDict).push (instObj C s.heap.objs.size)) (typeOf (.ref (s.heap.objs.size+1))) (.ref C):=(PySem.W.Looks.ld hx).andThen .now
 have y2:PySem.W.Looks (model X.prog X.w) ((s.heap.push emptyDict).push (instObj C s.heap.objs.size)) (isInstance (.ref (s.heap.objs.size+1)) (.type "object")) true:=y1.andThen (Y.top.keeps λb o e=>get?_push_of_some _ (get?_push_of_some _ e))
 obtain ⟨hh,g,d,tk,os⟩:=s
 refine codeAny_call_builtin PySem.W.oi_plain PySem.W.entry_oi (@PySem.W.check_slot (model X.prog X.w) _ _ _ "object.__init__" "object" "__init__" (.ref (hh.objs.size+1)) [] [] _ PySem.W.oi_kind PySem.W.oi_split y2 (PySem.W.oi_args (.ref (hh.objs.size+1))) ?_)
 rw [PySem.W.oi_run]
 exact wpAny_pure (And.intro rfl ⟨V.ref (hh.objs.size+1),_,I2,rfl,hq⟩)
end
structure MtB (P:Program) (w:World) (K:Frag) (mg:Str->Option Value) (base:Heap) (k:Nat) (C:Addr) (m:Str) (sp:Sp):Prop where
 ex:∃ f fd ps,aI P w K mg base CX0 k f fd ps sp/\Meth K C m f/\Binds K fd ps []
 cl:Cls K C
structure MkB (P:Program) (w:World) (K:Frag) (mg:Str->Option Value) (base:Heap) (k:Nat) (C:Addr) (x:Str) (sp:Sp):Prop where
 ex:∃ f fd ps,aI P w K mg base CX0 k f fd ps sp/\Mk K C f/\Binds K fd ps []
 at_:mg x=some (.ref C)
section
variable {X:Cx} {C:Addr} {x m:Str} {k:Nat} {sp:Sp} {p pos apos:Pos} {e o:Expr} {es:List Expr} {te ta:TE} {t:TA}
theorem pe_mkB (M:MkB X.prog X.w X.K X.mg X.base k C x sp) (hr:hZ (k+1) X.A) (ha:PA X (e::es) t) (hg:Gl X x:=by rfl) (hdb:(x == ("__debug__" : Str))=false:=by decide)
  (he:starEach (e::es) X.env=(false,eval e X.env)::starEach es X.env:=by rfl) (hpl:(backTo pos (starEach es X.env)).any (·.1)=false:=by rfl) :
  PE X (.Call (.Name x p) (e::es) [] pos) (tMake C sp [] E0 t):=by
 obtain ⟨f,fd,ps,F,hm,hb⟩:=M.ex
 exact pe_make hm F hr hg M.at_ hb .nil pass0 ha hdb he hpl
end
end L2
namespace L2
def nrm (a b:Int):Int × Int:=if b<0 then (a.fdiv (-(Int.gcd a b:Int)),b.fdiv (-(Int.gcd a b:Int))) else (a.fdiv (Int.gcd a b:Int),b.fdiv (Int.gcd a b:Int))
theorem fA (a b:Int) (h:b ≠ 0):∃ (g:Nat) (a' b':Int),0<g/\Int.gcd a b=g/\a=g*a'/\b=g*b'/\Int.gcd a' b'=1/\nrm a b=(if b<0 then (-a',-b') else (a',b')):=by
 have hg:0<Int.gcd a b:=Int.gcd_pos_of_ne_zero_right a h
 obtain ⟨a',ha⟩:=Int.gcd_dvd_left (a:=a) (b:=b)
 obtain ⟨b',hb⟩:=Int.gcd_dvd_right (a:=a) (b:=b)
 have hg0:(Int.gcd a b:Int) ≠ 0:=by omega
 refine ⟨Int.gcd a b,a',b',hg,rfl,ha,hb,?_,?_⟩
 ·have e:Int.gcd (Int.gcd a b*a') (Int.gcd a b*b')=Int.gcd a b*Int.gcd a' b':=by
   rw [Int.gcd_mul_left]; rfl
  rw [<- ha,<- hb] at e
  have:Int.gcd a b*1=Int.gcd a b*Int.gcd a' b':=by omega
  exact (Nat.eq_of_mul_eq_mul_left hg this).symm
 ·unfold nrm
  generalize hG:(Int.gcd a b:Int)=G at *
  have f1:a.fdiv G=a':=by rw [ha]; exact Int.mul_fdiv_cancel_left _ hg0
  have f2:b.fdiv G=b':=by rw [hb]; exact Int.mul_fdiv_cancel_left _ hg0
  have f3:a.fdiv (-G) = -a':=by rw [ha,show G*a'=(-G)*(-a') by rw [Int.neg_mul_neg]]; exact Int.mul_fdiv_cancel_left _ (by omega)
  have f4:b.fdiv (-G) = -b':=by rw [hb,show G*b'=(-G)*(-b') by rw [Int.neg_mul_neg]]; exact Int.mul_fdiv_cancel_left _ (by omega)
  rw [f1,f2,f3,f4]
theorem bS (a b:Int) (h:b ≠ 0):0<(nrm a b).2:=by
 obtain ⟨g,a',b',hg,_,ha,hb,_,e⟩:=fA a b h
 rw [e]
 by_cases hb0:b<0
 ·rw [if_pos hb0]
  show 0 < -b'
  have:¬ 0<=b':=λz=>by have:=Int.mul_nonneg (show (0:Int)<=g by omega) z; omega
  omega
 ·rw [if_neg hb0]
  show 0<b'
  have:¬ b' <= 0:=λz=>by have:=Int.mul_nonneg (show (0:Int)<=g by omega) (show 0 <= -b' by omega); rw [Int.mul_neg] at this; omega
  omega
theorem bQ (a b:Int) (h:b ≠ 0):Int.gcd (nrm a b).1 (nrm a b).2=1:=by
 obtain ⟨g,a',b',hg,_,ha,hb,c,e⟩:=fA a b h
 rw [e]
 split
 ·show Int.gcd (-a') (-b')=1
  rw [Int.neg_gcd,Int.gcd_neg]
  exact c
 ·exact c
theorem eG (a b:Int) (h:b ≠ 0):(nrm a b).1*b=a*(nrm a b).2:=by
 obtain ⟨g,a',b',hg,_,ha,hb,c,e⟩:=fA a b h
 rw [e]
 split
 ·show -a' * b=a * -b'
  rw [ha,hb,Int.neg_mul,Int.mul_neg,Int.mul_left_comm,Int.mul_assoc]
 ·show a' * b=a*b'
  rw [ha,hb,Int.mul_left_comm,Int.mul_assoc]
theorem c8 (g:Nat) (x:Int) (hg:0<g):x.natAbs<=((g:Int)*x).natAbs:=by
 rw [Int.natAbs_mul,Int.natAbs_natCast]
 exact Nat.le_mul_of_pos_left _ hg
theorem fR (a b:Int) (h:b ≠ 0):(nrm a b).1.natAbs<=a.natAbs/\(nrm a b).2.natAbs<=b.natAbs:=by
 obtain ⟨g,a',b',hg,_,ha,hb,c,e⟩:=fA a b h
 have h1:=c8 g a' hg
 have h2:=c8 g b' hg
 rw [<- ha] at h1
 rw [<- hb] at h2
 rw [e]
 split
 ·exact ⟨by show (-a').natAbs<=_; omega,by show (-b').natAbs<=_; omega⟩
 ·exact ⟨h1,h2⟩
theorem fC (a b:Int) (h:0<b):nrm a b=(a,b)↔Int.gcd a b=1:=by
 obtain ⟨g,a',b',hg,eg,ha,hb,c,e⟩:=fA a b (by omega)
 constructor
 ·intro z
  have:=bQ a b (by omega)
  rw [z] at this
  exact this
 ·intro z
  rw [z] at eg
  subst eg
  rw [e,if_neg (by omega)]
  rw [show a'=a by omega,show b'=b by omega]
theorem idvd {k m n:Int} (h:Int.gcd k m=1) (hd:k ∣ m*n):k ∣ n:=Int.natAbs_dvd_natAbs.mp (Nat.Coprime.dvd_of_dvd_mul_left (show Nat.Coprime k.natAbs m.natAbs from h) (by rw [<- Int.natAbs_mul]; exact Int.natAbs_dvd_natAbs.mpr hd))
theorem low_one {n d n' d':Int} (h1:0<d) (h2:0<d') (c1:Int.gcd n d=1) (c2:Int.gcd n' d'=1) (e:n*d'=n' * d):n=n'/\d=d':=by
 have g1:Int.gcd d n=1:=by rw [Int.gcd_comm]; exact c1
 have g2:Int.gcd d' n'=1:=by rw [Int.gcd_comm]; exact c2
 have d1:d ∣ d':=idvd g1 (show d ∣ n*d' from ⟨n',by rw [e,Int.mul_comm]⟩)
 have d2:d' ∣ d:=idvd g2 (show d' ∣ n' * d from ⟨n,by rw [<- e,Int.mul_comm]⟩)
 have ed:d=d':=Int.dvd_antisymm (by omega) (by omega) d1 d2
 subst ed
 exact ⟨Int.eq_of_mul_eq_mul_right (by omega) e,rfl⟩
end L2
namespace L2
open PySem PySem.Spec PyProof.Rows
theorem fD {K:Frag} {a:Addr} {xs:List V} {te:TE} {Q:VK} {rest:St} {src:List (Option Nat)} {σ:St} {H0:Hp} (f:V->V) (hσ:aY src σ=none::rest) (hx:SqL K H0 a xs) (hl:xs.length<=sizeLine)
  (he:∀ (i:Nat) x H (R:VK),xs[i]? = some x->gY H0 H->R (f x) H->te (some x::rest) H R)
  (hd:∀ acc H,H0 acc=none->gY H0 H->H acc=some (.lst (xs.map f))->Q (.ref acc) H) :
  be (Itl K a) src (bi 0) fq te σ H0 Q:=by
 intro acc hacc
 rw [hσ]
 have hlen:(xs.map f).length=xs.length:=length_map ..
 refine ft (n:=xs.length) (λi zs σ H=>gY H0 H/\zs=(xs.map f).take i/\∃ u,σ=u::rest) (by omega) ⟨gY.new hacc,rfl,none,rfl⟩ ?_ ?_ ?_ ?_
 ·rintro i zs σ H hi hz ⟨sm,_⟩
  exact ⟨xs,xs[i],sm.seq hx,by simp⟩
 ·rintro zs σ H hz ⟨sm,_⟩
  exact ⟨xs,sm.seq hx,Nat.le_refl _⟩
 ·rintro i zs σ H x H' hi hz hzl ⟨sm,ez,u,rfl⟩ ⟨rfl,gx⟩
  have hx1:=gx xs (sm.seq hx)
  show te (some x::rest) _ _
  refine he i x _ _ hx1 sm ?_
  refine ⟨zs,hz,by omega,zs++[f x],af,by rw [length_append,length_singleton]; omega,sm.put hacc,?_,_,rfl⟩
  rw [take_map f xs i x hx1,ez]
 ·rintro zs σ H hz hzl ⟨sm,ez,_⟩
  refine hd acc H hacc sm ?_
  rw [hz,ez,List.take_of_length_le (by omega)]
end L2
set_option exponentiation.threshold 5000
namespace L2
open PySem PySem.Spec PyProof.Rows
def bj (P:Int) (x y:Int × Int):Int × Int:=if P=0 then nrm (x.1*y.2+y.1*x.2) (x.2*y.2) else ((x.1+y.1) % P,1)
def aP (P:Int) (x y:Int × Int):Int × Int:=if P=0 then nrm (x.1*y.1) (x.2*y.2) else ((x.1*y.1) % P,1)
def c7 (P:Int) (x:Int × Int):Int × Int:=if P=0 then (0-x.1,x.2) else ((0-x.1) % P,1)
def OkN (P:Int) (x:Int × Int):Prop:=(P=0/\0<x.2/\Int.gcd x.1 x.2=1)\/(P ≠ 0/\0<=x.1/\x.1<P/\x.2=1)
theorem ff {a b:Int} (h:b ≠ 0):OkN 0 (nrm a b):=.inl ⟨rfl,bS a b h,bQ a b h⟩
theorem dJ {P a:Int} (h:0<=P) (h0:P ≠ 0):OkN P (a % P,1):=.inr ⟨h0,Int.emod_nonneg a h0,Int.emod_lt_of_pos a (by omega),rfl⟩
theorem OkN.den {P:Int} {x:Int × Int} (h:OkN P x):0<x.2:=by
 rcases h with ⟨_,h,_⟩ | ⟨_,_,_,h⟩<;>omega
theorem eX {x y:Int × Int} (h1:0<x.2) (h2:0<y.2):x.2*y.2 ≠ 0:=λz=>by have:=Int.mul_pos h1 h2; omega
theorem dA {P:Int} {x y:Int × Int} (hP:0<=P) (h1:OkN P x) (h2:OkN P y):OkN P (bj P x y):=by
 unfold bj
 split
 ·rename_i h; subst h; exact ff (eX h1.den h2.den)
 ·exact dJ hP ‹_›
theorem bJ {P:Int} {x y:Int × Int} (hP:0<=P) (h1:OkN P x) (h2:OkN P y):OkN P (aP P x y):=by
 unfold aP
 split
 ·rename_i h; subst h; exact ff (eX h1.den h2.den)
 ·exact dJ hP ‹_›
theorem cY {P:Int} {x:Int × Int} (hP:0<=P) (h1:OkN P x):OkN P (c7 P x):=by
 unfold c7
 split
 ·rcases h1 with ⟨h,a,b⟩ | ⟨h,_⟩
  ·refine .inl ⟨h,a,?_⟩
   show Int.gcd (0-x.1) x.2=1
   rw [show 0-x.1 = -x.1 by omega,Int.neg_gcd]
   exact b
  ·exact absurd ‹_› h
 ·exact dJ hP ‹_›
theorem bU {P:Int} (hP:0<=P) (h2:P ≠ 1):OkN P (0,1):=by
 by_cases h:P=0
 ·exact .inl ⟨h,by decide,by decide⟩
 ·exact .inr ⟨h,by decide,by show (0:Int)<P; omega,rfl⟩
def Sz (k:Nat) (x:Int × Int):Prop:=x.1.natAbs<2 ^ k/\x.2.natAbs<2 ^ k
theorem gz {a b:Int} {i j:Nat} (h1:a.natAbs<2 ^ i) (h2:b.natAbs<2 ^ j):(a*b).natAbs<2 ^ (i+j):=by
 rw [Int.natAbs_mul,Nat.pow_add]
 exact Nat.mul_lt_mul'' h1 h2
theorem gQ {i j:Nat} (h:i<=j):2 ^ i<=2 ^ j:=Nat.pow_le_pow_right (by decide) h
theorem Sz.mono {i j:Nat} {x:Int × Int} (h:Sz i x) (hij:i<=j):Sz j x:=⟨Nat.lt_of_lt_of_le h.1 (gQ hij),Nat.lt_of_lt_of_le h.2 (gQ hij)⟩
theorem sz_nrm {a b:Int} {k:Nat} (hb:b ≠ 0) (h1:a.natAbs<2 ^ k) (h2:b.natAbs<2 ^ k):Sz k (nrm a b):=⟨Nat.lt_of_le_of_lt (fR a b hb).1 h1,Nat.lt_of_le_of_lt (fR a b hb).2 h2⟩
section
variable {X:Cx} {C:Addr} {x m:Str} {k:Nat} {sp:Sp} {p pos apos:Pos} {e o:Expr} {es:List Expr} {te ta:TE} {t:TA}
theorem gO {pl:Sem Bool} (M:MtB X.prog X.w X.K X.mg X.base k C m sp) (hr:hZ k X.A) (he:PE X o ta)
  (ht:eval (.Call (.Attribute o m apos) [] [] pos) X.env=(do
   let ov <- eval o X.env
   standAt apos.atName
   let (f,first) <- holding [ov] (getMethod ov m pl)
   callWith pos f first (backTo pos (starEach [] X.env)) (backToKw pos (keywordEach [] X.env))):=by rfl) :
  PE X (.Call (.Attribute o m apos) [] [] pos) (tMeth C m sp [] E0 ta de):=by
 obtain ⟨f,fd,ps,F,hm,hb⟩:=M.ex
 exact pe_meth0 he M.cl hm F hr hb .nil pass0 ht
end
end L2
namespace L2
open PySem PySem.Spec PyProof.Rows PySem.W
end L2
namespace L2
open PySem PySem.Spec PyProof.Rows
end L2
namespace L2
open PySem PySem.Spec PyProof.Rows PySem.W
section
variable {n:Nat} (h0:0<n)
include h0
end
section
variable {α:Type}
def eU (m:List (List Int × α)) (k:List Int):Option α:=(m.find? λp=>decide (p.1=k)).map (·.2)
def aput (m:List (List Int × α)) (k:List Int) (x:α):List (List Int × α):=if (eU m k).isSome then m.map (λp=>if p.1=k then (p.1,x) else p) else m++[(k,x)]
theorem aval_nil (k:List Int):eU ([]:List (List Int × α)) k=none:=rfl
theorem aval_pos {p:List Int × α} {r:List (List Int × α)} {k:List Int} (e:p.1=k):eU (p::r) k=some p.2:=by simp [eU,List.find?_cons,e]
theorem aval_neg {p:List Int × α} {r:List (List Int × α)} {k:List Int} (e:¬ p.1=k):eU (p::r) k=eU r k:=by simp [eU,List.find?_cons,e]
theorem aval_mem {k:List Int} {x:α}:∀ {m:List (List Int × α)},eU m k=some x->(k,x) ∈ m
 | p::r,h=>by
  by_cases e:p.1=k
  ·rw [aval_pos e] at h
   have:p=(k,x):=Prod.ext e (Option.some.inj h)
   rw [this]; simp
  ·rw [aval_neg e] at h
   exact List.mem_cons.mpr (.inr (aval_mem h))
theorem aput_mem {m:List (List Int × α)} {k:List Int} {x:α} {p:List Int × α} (h:p ∈ aput m k x):p=(k,x)\/p ∈ m:=by
 unfold aput at h
 split at h
 ·obtain ⟨q,hq,e⟩:=List.mem_map.mp h
  by_cases hk:q.1=k
  ·rw [if_pos hk] at e
   exact .inl (by rw [<- e,hk])
  ·rw [if_neg hk] at e
   exact .inr (by rw [<- e]; exact hq)
 ·rcases List.mem_append.mp h with z | z
  ·exact .inr z
  ·exact .inl (List.mem_singleton.mp z)
theorem aput_len (m:List (List Int × α)) (k:List Int) (x:α):(aput m k x).length<=m.length+1:=by
 unfold aput
 split
 ·rw [length_map]; omega
 ·rw [length_append]; simp
end
variable {X:Cx}
end L2
namespace L2
open PySem PySem.Spec PyProof.Rows PySem.W
section
variable {X:Cx} {K:Frag} {e st:Expr} {te:TE} {ts:TO} {pos p2:Pos}
def tRev (K:Frag) (te:TE) (ts:TO):TE:=λσ H Q=>te σ H λx H1=>ts σ H1 λk H2=>k=some (-1)/\∃ a xs,x=.ref a/\SqL K H2 a xs/\∀ p,H2 p=none->Q (.ref p) (upd H2 p (.lst xs.reverse))
theorem g6.rev {xs:List V} {us:List Value} (r:g6 xs us):g6 xs.reverse us.reverse:=by
 induction r with
 | nil=>exact .nil
 | cons a r ih=>
  rw [reverse_cons,reverse_cons]
  exact ih.append (.cons a .nil)
theorem pe_rev (hK:X.K=K) (he:PE X e te) (hs:PO X (some st) ts):PE X (.Subscript e (.Slice none none (some st) p2) pos) (tRev K te ts):=by
 subst hK
 intro pins s σ H Q I h
 refine Subscript_ (thn (he pins s σ H _ I h) λv s1 ⟨x,H1,I1,r1,q1⟩=>?_)
 refine wpAny_Slice ?_
 rw [evalPart_none]
 refine wpAny_pure ?_
 refine wpAny_pure ?_
 refine thn (hs pins s1 σ H1 _ I1 q1) λvs s3 ⟨k,H3,I3,ps,q3⟩=>?_
 obtain ⟨rfl,a,xs,rfl,hx,q⟩:=q3
 have I4:Inv X pins σ H3 { s3 with heap:=s3.heap.push { cls:=.type "slice",data:=.fields #[.none,.none,vs] } }:=I3.kept (t':=s3.toks) λb ob q=>get?_push_of_some _ q
 cases r1
 obtain ⟨its,r,ht,hz⟩:=I4.list hx
 have hlen:=r.length
 show wpAny (model X.prog X.w) X.A (subscriptTail e (.Slice none none (some st) p2) (.ref a) (.ref s3.heap.objs.size)) (EP X pins σ Q) X.xe { s3 with heap:=s3.heap.push { cls:=.type "slice",data:=.fields #[.none,.none,vs] } }
 refine tail_any (ops:=[.ref a,.ref s3.heap.objs.size]) ht.isList.typeIs slot_list_getitem.lookup ?_ (by with_unfolding_all rfl)
 refine wpAny_getItem_list_slice ht.isList (Heap.IsSliceOf.new ..) .none .none ps (by simp) ?_ (by rw [size_toArray]<;>omega)
 rw [krv_pick]
 refine ⟨.ref _,_,I4.laid (o:=.lst xs.reverse) (λb ob q=>get?_push_of_some _ q) (Nat.le_refl _) ?_,rfl,q _ (I4.hok.fresh (Nat.le_refl _))⟩
 exact ⟨by rw [length_reverse]; exact hz,_,0,r.rev,get?_push_size _ rfl⟩
end
theorem dH:∀ (names:List (Str × NameKind)) (n:Nat) (acc:List (Str × Addr)) (x:Str) (c:Nat),(cellsFrom n names acc).lookup x=some c->(n<=c/\(x,NameKind.cell) ∈ names)\/acc.lookup x=some c
 | [],n,acc,x,c,h=>.inr h
 | (m,k)::r,n,acc,x,c,h=>by
  unfold cellsFrom at h
  split at h
  ·rename_i hk
   rcases dH r (n+1) _ x c h with ⟨a,b⟩ | z
   ·exact .inl ⟨by omega,mem_cons_of_mem _ b⟩
   ·cases hx:x == m with
    | true=>
     simp only [lookup_cons,hx] at z
     cases z
     have e:x=m:=by simpa using hx
     have e2:k=NameKind.cell:=by simpa using hk
     subst e e2
     exact .inl ⟨Nat.le_refl _,mem_cons_self⟩
    | false=>
     simp only [lookup_cons,hx] at z
     exact .inr z
  ·rcases dH r n acc x c h with ⟨a,b⟩ | z
   ·exact .inl ⟨a,mem_cons_of_mem _ b⟩
   ·exact .inr z
theorem fg:∀ (names:List (Str × NameKind)) (n:Nat) (acc:List (Str × Addr)) (x:Str),(∃ c,acc.lookup x=some c)->∃ c,(cellsFrom n names acc).lookup x=some c
 | [],n,acc,x,h=>h
 | (m,k)::r,n,acc,x,h=>by
  unfold cellsFrom
  split
  ·refine fg r (n+1) _ x ?_
   cases hx:x == m with
   | true=>exact ⟨n,by simp only [lookup_cons,hx]⟩
   | false=>
    obtain ⟨c,h⟩:=h
    exact ⟨c,by simp only [lookup_cons,hx]; exact h⟩
  ·exact fg r n acc x h
theorem cf_has:∀ (names:List (Str × NameKind)) (n:Nat) (acc:List (Str × Addr)) (x:Str),(x,NameKind.cell) ∈ names->∃ c,(cellsFrom n names acc).lookup x=some c
 | [],n,acc,x,h=>absurd h (by simp)
 | (m,k)::r,n,acc,x,h=>by
  unfold cellsFrom
  rcases List.mem_cons.mp h with e | e
  ·cases e
   rw [if_pos (by decide)]
   exact fg r (n+1) _ m ⟨n,by simp [lookup_cons]⟩
  ·split
   ·exact cf_has r (n+1) _ x e
   ·exact cf_has r n acc x e
theorem eY:∀ (names:List (Str × NameKind)) (n:Nat) (acc:List (Str × Addr)) (x:Str),(x,NameKind.cell) ∉ names->(cellsFrom n names acc).lookup x=acc.lookup x
 | [],n,acc,x,h=>rfl
 | (m,k)::r,n,acc,x,h=>by
  have h':(x,NameKind.cell) ∉ r:=λz=>h (mem_cons_of_mem _ z)
  unfold cellsFrom
  split
  ·rename_i hk
   rw [eY r (n+1) _ x h']
   cases hx:x == m with
   | true=>
    have e:x=m:=by simpa using hx
    have e2:k=NameKind.cell:=by simpa using hk
    subst e e2
    exact absurd mem_cons_self h
   | false=>simp only [lookup_cons,hx]
  ·exact eY r n acc x h'
theorem cf_own:∀ (names:List (Str × NameKind)) (n:Nat) (acc:List (Str × Addr)) (x:Str) (c:Nat),((x,NameKind.cell) ∈ names\/∀ c:Nat,acc.lookup x=some c->n<=c)->(∀ c,acc.lookup x=some c->True)->(cellsFrom n names acc).lookup x=some c->(x,NameKind.cell) ∈ names->n<=c
 | [],n,acc,x,c,_,_,_,h=>absurd h (by simp)
 | (m,k)::r,n,acc,x,c,h0,h1,h,hm=>by
  by_cases hr:(x,NameKind.cell) ∈ r
  ·unfold cellsFrom at h
   split at h
   ·have:=cf_own r (n+1) _ x c (.inl hr) (λ_ _=>trivial) h hr
    omega
   ·exact cf_own r n acc x c (.inl hr) (λ_ _=>trivial) h hr
  ·have e:(x,NameKind.cell)=(m,k):=by
    rcases List.mem_cons.mp hm with z | z
    ·exact z
    ·exact absurd z hr
   cases e
   unfold cellsFrom at h
   rw [if_pos (by decide),eY r (n+1) _ m hr] at h
   simp [lookup_cons] at h
   exact Nat.le_of_eq h
theorem cf_inj:∀ (names:List (Str × NameKind)) (n:Nat) (acc:List (Str × Addr)) (x y:Str) (c:Nat),(∀ (z:Str) (a:Nat),acc.lookup z=some a->a<n)->(cellsFrom n names acc).lookup x=some c->(cellsFrom n names acc).lookup y=some c->n<=c->x=y
 | [],n,acc,x,y,c,h,h1,h2,hc=>absurd (h x c h1) (by omega)
 | (m,k)::r,n,acc,x,y,c,h,h1,h2,hc=>by
  unfold cellsFrom at h1 h2
  split at h1
  ·rename_i hk
   rw [if_pos hk] at h2
   by_cases hn:n+1<=c
   ·refine cf_inj r (n+1) _ x y c (λz a e=>?_) h1 h2 hn
    cases hz:z == m with
    | true=>
     simp only [lookup_cons,hz] at e
     cases e
     omega
    | false=>
     simp only [lookup_cons,hz] at e
     have:=h z a e
     omega
   ·have go:∀ z,(cellsFrom (n+1) r ((m,n)::acc)).lookup z=some c->z=m:=λz e=>by
     rcases dH r (n+1) _ z c e with ⟨a,_⟩ | a
     ·omega
     ·cases hz:z == m with
      | true=>simpa using hz
      | false=>
       simp only [lookup_cons,hz] at a
       have:=h z c a
       omega
    rw [go x h1,go y h2]
  ·rename_i hk
   rw [if_neg hk] at h2
   exact cf_inj r n acc x y c h h1 h2 hc
theorem gH:∀ (names:List (Str × NameKind)) (h:Heap) (acc:List (Str × Addr)) (x:Str) (c:Nat),(cellsFrom h.objs.size names acc).lookup x=some c->acc.lookup x=some c\/((pushCells h names).IsCell c none/\h.objs.size<=c)
 | [],h,acc,x,c,e=>.inl e
 | (m,k)::r,h,acc,x,c,e=>by
  unfold cellsFrom at e
  unfold pushCells
  split at e
  ·rename_i hk
   rw [if_pos hk]
   have e':(cellsFrom (h.push { cls:=.type "cell",data:=.cell none }).objs.size r ((m,h.objs.size)::acc)).lookup x=some c:=by rw [size_push]; exact e
   rcases gH r (h.push { cls:=.type "cell",data:=.cell none }) _ x c e' with z | ⟨z,z2⟩
   ·cases hx:x == m with
    | true=>
     simp only [lookup_cons,hx] at z
     cases z
     exact .inr ⟨⟨_,pushCells_keeps r _ _ _ (get?_push_size _ rfl),rfl⟩,Nat.le_refl _⟩
    | false=>
     simp only [lookup_cons,hx] at z
     exact .inl z
   ·rw [size_push] at z2
    exact .inr ⟨z,by omega⟩
  ·rename_i hk
   rw [if_neg hk]
   exact gH r h acc x c e
theorem newEnvC {M:Model} {A:Around} {E:Value->Shared->Prop} {s:Shared} {scope:Scope} {globals:Addr} {cl:List (Str × Addr)} {qual:Str} {env:Env} {Q:Env->Shared->Prop}
  (hQ:Q (newEnv scope s.heap.objs.size globals (cellsFrom (s.heap.objs.size+1) scope.names cl) qual none .none (some env) builtinsNs) { s with heap:=pushCells (s.heap.push { cls:=.type "dict",data:=.dict #[] }) scope.names }) :
  wpAny M A (newFunctionEnv scope globals cl [] qual none .none (some env)) Q E s:=by
 simp only [newFunctionEnv,Option.isSome_some,if_true]
 refine wpAny_bind (wpAny_alloc ?_)
 refine wpAny_bind (wpAny_layCells _ (λname kind cells=>by cases hkc:kind == NameKind.cell<;>simp [hkc]) _ _ _ _ ?_)
 rw [show ({ s with heap:=s.heap.push { cls:=.type "dict",data:=.dict #[] } }:Shared).heap.objs.size=s.heap.objs.size+1 from size_push ..]
 rw [forIn_nil]
 exact wpAny_bind (wpAny_pure (wpAny_pure hQ))
def gL (outer scope:Scope):Bool:=
 scope.kind == .function && outer.kind == .function && scope.names.all λx=>(x.2 != .cell || scope.names.lookup x.1 == some .cell) && (x.2 != .local || scope.names.lookup x.1 == some .local) && (x.2 != .free || (outer.names.lookup x.1 == some .cell || outer.names.lookup x.1 == some .free))
structure hC (X:Cx) (scope:Scope):Prop where
 kind:scope.kind=.function
 own:∀ x ∈ scope.names,x.2=.cell->scope.names.lookup x.1=some .cell
 names:∀ x ∈ scope.names,x.2=.local->scope.names.lookup x.1=some .local
 free:∀ x ∈ scope.names,x.2=.free->X.env.kindOf x.1=some .cell\/X.env.kindOf x.1=some .free
theorem compFactsC {X:Cx} {scope:Scope} (h:gL X.env.scope scope=true):hC X scope:=by
 unfold gL at h
 simp only [Bool.and_eq_true,beq_iff_eq,all_eq_true,Bool.or_eq_true,bne_iff_ne] at h
 obtain ⟨⟨h1,_⟩,h2⟩:=h
 refine ⟨h1,λx hx e=>?_,λx hx e=>?_,λx hx e=>?_⟩
 ·rcases (h2 x hx).1.1 with z | z
  ·exact absurd e z
  ·exact z
 ·rcases (h2 x hx).1.2 with z | z
  ·exact absurd e z
  ·exact z
 ·rcases (h2 x hx).2 with z | z
  ·exact absurd e z
  ·exact z
abbrev fw (scope:Scope) (L:Addr) (env:Env):List (Str × Addr):=cellsFrom (L+1) scope.names (bq env scope.names [])
def fU (X:Cx) (N:List Str) (scope:Scope) (s:Shared) (H:Hp) (ex:List Addr):Cx where
 prog:=X.prog
 w:=X.w
 K:=X.K
 mg:=X.mg
 base:=X.base
 A:=X.A
 N:=N
 s₀:=s
 H₀:=H
 env:=compEnvC scope (fw scope s.heap.objs.size X.env) s.heap.objs.size X.env
 outer:=X.stack
 stack:=X.stack
 ex:=ex
 fn:=λx=>scope.names.lookup x == some .cell
 calm:=X.calm
 pn:=[]
 xe:=λ_ _=>False
theorem hC.cells {X:Cx} {scope:Scope} (f:hC X scope) (ok:X.Ok):∀ x ∈ scope.names,x.2=.free->∃ c,X.env.cells.lookup x.1=some c:=λx hx e=>ok.has x.1 (f.free x hx e)
theorem hC.cl {X:Cx} {scope:Scope} (f:hC X scope) (ok:X.Ok) {n:Str} {c:Addr} (h:(bq X.env scope.names []).lookup n=some c):X.env.cells.lookup n=some c:=by
 rcases cls_in _ _ _ _ (f.cells ok) h with z | z
 ·exact z
 ·cases z
theorem hC.kf {X:Cx} {scope:Scope} {x:Str} (h:(relabel scope X.env).names.lookup x=some .cell\/(relabel scope X.env).names.lookup x=some .free):scope.names.lookup x=some .free\/scope.names.lookup x=some .cell:=by
 unfold relabel at h
 simp only at h
 rw [bw] at h
 cases e:scope.names.lookup x with
 | none=>rw [e] at h; rcases h with z | z<;>cases z
 | some k=>
  rw [e] at h
  simp only [Option.map_some,Option.some.injEq] at h
  cases k with
  | free=>exact .inl rfl
  | cell=>exact .inr rfl
  | _=>simp at h
theorem hC.nofree {X:Cx} {scope:Scope} (f:hC X scope) {x:Str} (h:scope.names.lookup x=some .free):(x,NameKind.cell) ∉ scope.names:=λz=>by
 have:=f.own _ z rfl
 simp only at this
 rw [h] at this
 cases this
section
variable {X:Cx} {pins:List (Addr × Obj)} {σ:St} {H:Hp} {s:Shared}
theorem hC.lk {scope:Scope} (f:hC X scope) (I:Inv X pins σ H s) {x:Str} {c:Nat} (h:(fw scope s.heap.objs.size X.env).lookup x=some c):(X.env.cells.lookup x=some c/\c<s.heap.objs.size)\/s.heap.objs.size<c:=by
 rcases dH _ _ _ _ _ h with ⟨a,_⟩ | z
 ·exact .inr a
 ·have z':=f.cl I.ok z
  obtain ⟨v,o,ho,_⟩:=I.cell x c z'
  exact .inl ⟨z',lt_size ho⟩
theorem comp_startC {N:List Str} {src:List (Option Nat)} {scope:Scope} {ex:List Addr} {h1:Heap} {m:Str->Option Value} {tk:Nat} (I:Inv X pins σ H s) (f:hC X scope) (hsrc:dR X.N N src scope=true)
  (hex:∀ b ∈ ex,b<s.heap.objs.size/\b ≠ X.env.locals/\b ∉ X.fs/\(∀ x c,X.env.cells.lookup x=some c->c ≠ b)/\∀ o,X.base.get? b ≠ some o)
  (hn:h1.Ns s.heap.objs.size m) (hk:∀ b o,s.heap.get? b=some o->h1.get? b=some o) (hcl:∀ (x:Str) (c:Nat),(fw scope s.heap.objs.size X.env).lookup x=some c->s.heap.objs.size<c->∃ v,h1.IsCell c v) :
  Inv (fU X N scope s H ex) [] (aY src σ) H { s with heap:=h1,toks:=tk }:=by
 obtain ⟨hlen,hix⟩:=srcOk_ix hsrc
 have ok:=I.ok
 have fsL:∀ b ∈ frs X.stack,b ∈ X.env.locals::X.fs:=I.stkSub
 have clLt:∀ (z:Str) (a:Nat),(bq X.env scope.names []).lookup z=some a->a<s.heap.objs.size+1:=λz a e=>by
  obtain ⟨v,o,ho,_⟩:=I.cell z a (f.cl ok e)
  exact Nat.lt_succ_of_lt (lt_size ho)
 refine ⟨⟨ok.mod,f.kind,ok.glob,ok.blt,Nat.le_refl _,λx y c h1 h2=>?_,λx hx=>?_,λx c hx e=>?_,ok.hd,ok.frames,.inl rfl,λb hb=>⟨Nat.ne_of_lt (hex b hb).1,λx c e=>?_⟩,I.bs,Nat.le_trans ok.bsz I.sz,λb o e hb=>(hex b hb).2.2.2.2 o e,λb hb hb'=>?_,I.stack,I.stkFree⟩,
  rfl,I.bare,Un.kept hk,⟨m,hn,λi x v e1 e2 e3=>?_⟩,λx c e=>?_,I.hok.fresh (Nat.le_refl _),λx c e=>?_,λp hp=>absurd (show p ∈ ([]:List (Addr × Obj)) from hp) (by simp),I.hok.kept hk,?_⟩
 ·rcases f.lk I h1 with ⟨a,a'⟩ | a
  ·rcases f.lk I h2 with ⟨b,_⟩ | b
   ·exact ok.inj x y c a b
   ·exact absurd b (Nat.lt_asymm a')
  ·exact cf_inj _ _ _ _ _ _ clLt h1 h2 a
 ·rcases hC.kf hx with z | z
  ·exact fg _ _ _ _ (dF _ _ _ (PySem.mem_of_lookup z))
  ·exact cf_has _ _ _ _ (PySem.mem_of_lookup z)
 ·have hx':scope.names.lookup x=some .cell:=by simpa [fU] using hx
  have:=cf_own _ _ _ _ _ (.inl (PySem.mem_of_lookup hx')) (λ_ _=>trivial) e (PySem.mem_of_lookup hx')
  exact Nat.le_of_succ_le this
 ·rcases f.lk I e with ⟨a,_⟩ | a
  ·exact (hex b hb).2.2.2.1 x c a
  ·exact λz=>absurd (hex b hb).1 (Nat.lt_asymm (z ▸ a))
 ·rcases List.mem_cons.mp (fsL b hb') with z | z
  ·exact (hex b hb).2.1 z
  ·exact (hex b hb).2.2.1 z
 ·have e2':(aY src σ)[i]? = some (some v):=e2
  unfold aY at e2'
  rw [getElem?_map] at e2'
  cases hs:src[i]? with
  | none=>rw [hs] at e2'; cases e2'
  | some o=>
   rw [hs] at e2'
   cases o with
   | none=>cases e2'
   | some j=>
    obtain ⟨q1,q2⟩:=hix i x j e1 hs
    have e4:σ[j]? = some (some v):=by
     simp only [Option.map_some,Option.bind_some,Option.some.injEq] at e2'
     cases z:σ[j]? with
     | none=>rw [z] at e2'; cases e2'
     | some o=>rw [z] at e2'; simp only [Option.join_some] at e2'; rw [e2']
    have kx:=f.free (x,.free) (PySem.mem_of_lookup q2) rfl
    obtain ⟨mX,hnX,hl⟩:=I.loc
    obtain ⟨u,r,l⟩:=hl j x v q1 e4 (by rcases kx with z | z; exact .inr (.inl z); exact .inr (.inr z))
    refine ⟨u,r,.inr ⟨h8.fk (X:=X) q2,?_⟩⟩
    rcases l with ⟨l,_⟩ | ⟨_,c,ec,ic⟩
    ·rcases kx with z | z
     ·rw [z] at l; cases l
     ·rw [z] at l; cases l
    ·obtain ⟨c',hc'⟩:=dF (env:=X.env) scope.names [] x (PySem.mem_of_lookup q2)
     have z:=f.cl ok hc'
     rw [ec] at z
     cases z
     obtain ⟨oc,ho,hd⟩:=ic
     refine ⟨c,?_,oc,hk c oc ho,hd⟩
     show (fw scope s.heap.objs.size X.env).lookup x=some c
     rw [eY _ _ _ _ (f.nofree q2)]
     exact hc'
 ·rcases f.lk I e with ⟨a,_⟩ | a
  ·obtain ⟨v,o,ho,hd⟩:=I.cell x c a
   exact ⟨v,o,hk c o ho,hd⟩
  ·exact hcl x c e a
 ·rcases f.lk I e with ⟨a,_⟩ | a
  ·exact I.freeC x c a
  ·exact I.hok.fresh (Nat.le_of_lt a)
 ·show (aY src σ).length=N.length
  unfold aY
  rw [length_map]
  exact hlen
theorem comp_runC {elt tg iter:Expr} {ifs:List Expr} {scope:Scope} {pos:Pos} {N:List Str} {src:List (Option Nat)} {g:TG} {tt:TT} {te:TE} (use:Option (Value->Sem Unit)) (PQ:Value->Shared->Prop) (E:Value->Shared->Prop)
  (hcalm:X.calm=true) (f:hC X scope) (hsrc:dR X.N N src scope=true)
  (hb:∀ (s:Shared) (H:Hp) (ex:List Addr),PG (fU X N scope s H ex) tg g/\PIf (fU X N scope s H ex) ifs tt/\PE (fU X N scope s H ex) elt te)
  {it:Addr} {fp:List Addr} {tn:Nat->Heap->Prop} {J:It} (I:Inv X pins σ H s) (T:Turn X.prog X.w X.K tg J fp it tn) (st:tn 0 s.heap) (hf:∀ b ∈ fp,cH X pins H b) {Q:VK}
  (h:be J src g tt te σ H Q)
  (hfin:∀ (acc C:Addr) (s':Shared) (H':Hp) (m:Str->Option Value),s'.heap.Ns C m->cH X pins H' C->(∀ h',Heap.SameBut C s'.heap h'->Inv X pins σ H' { s' with heap:=h' })->Q (.ref acc) H'->compPost (model X.prog X.w) X.A E use PQ (.ref acc) C (.ok .next) s') :
  wpAny (model X.prog X.w) X.A (newList []) (λacc s₃=>
   wpAny (model X.prog X.w) X.A (newFunctionEnv scope X.env.globals (bq X.env scope.names []) [] X.env.qual none .none (some X.env)) (λcenv s₄=>
    codeAny (model X.prog X.w) X.A (.compStart (.ListComp elt [⟨tg,iter,ifs,0⟩] scope pos) 0 (.ref it) acc { cenv with scope:=relabel scope X.env }) (compPost (model X.prog X.w) X.A E use PQ acc cenv.locals) s₄) E s₃) E s:=by
 have ok:=I.ok
 have I3:Inv X pins σ (upd H s.heap.objs.size (.lst [])) { s with heap:=s.heap.push { cls:=.type "list",data:=.seq ([]:List Value).toArray },toks:=s.toks }:=I.lnew (ys:=[]) (its:=[]) .nil (Nat.zero_le _)
 obtain ⟨W,⟨m0,w0⟩,turn⟩:=h s.heap.objs.size (I.hok.fresh (Nat.le_refl _))
 refine wpAny_newObj_type (newEnvC ?_)
 dsimp only
 generalize hs3:({ s with heap:=s.heap.push { cls:=.type "list",data:=.seq ([]:List Value).toArray },toks:=s.toks }:Shared)=s3 at I3
 have e3:s3.heap=s.heap.push { cls:=.type "list",data:=.seq ([]:List Value).toArray }:=by rw [<- hs3]
 rw [<- e3]
 have hk:∀ b o,s3.heap.get? b=some o->(pushCells (s3.heap.push { cls:=.type "dict",data:=.dict #[] }) scope.names).get? b=some o:=λb o e=>pushCells_keeps _ _ b o (get?_push_of_some _ e)
 have hns₁':(pushCells (s3.heap.push { cls:=.type "dict",data:=.dict #[] }) scope.names).Ns s3.heap.objs.size (λ_=>none):=(Heap.Ns.new s3.heap (.type "dict")).keeps (pushCells_keeps _ _)
 have hcl:∀ (x:Str) (c:Nat),(fw scope s3.heap.objs.size X.env).lookup x=some c->s3.heap.objs.size<c->∃ v,(pushCells (s3.heap.push { cls:=.type "dict",data:=.dict #[] }) scope.names).IsCell c v:=λx c e hc=>by
  have e':(cellsFrom (s3.heap.push { cls:=.type "dict",data:=.dict #[] }).objs.size scope.names (bq X.env scope.names [])).lookup x=some c:=by rw [size_push]; exact e
  rcases gH _ _ _ _ _ e' with z | z
  ·obtain ⟨v,o,ho,_⟩:=I3.cell x c (f.cl ok z)
   exact absurd (lt_size ho) (Nat.lt_asymm hc)
  ·exact ⟨none,z.1⟩
 generalize pushCells (s3.heap.push { cls:=.type "dict",data:=.dict #[] }) scope.names=h₁ at *
 have up3:∀ b o,s.heap.get? b=some o->s3.heap.get? b=some o:=λb o e=>by rw [e3]; exact get?_push_of_some _ e
 have nacc:∀ b ∈ fp,b ≠ s.heap.objs.size:=λb hb z=>by
  obtain ⟨o,e,_⟩:=T.obj 0 _ st b hb
  exact absurd (lt_size e) (by rw [z]; exact Nat.lt_irrefl _)
 have hex:∀ b ∈ fp,b<s3.heap.objs.size/\b ≠ X.env.locals/\b ∉ X.fs/\(∀ x c,X.env.cells.lookup x=some c->c ≠ b)/\∀ o,X.base.get? b ≠ some o:=λb hb=>by
  obtain ⟨o,e,_⟩:=T.obj 0 _ st b hb
  obtain ⟨f0,f1,f2,f3,f4,f5⟩:=hf b hb
  refine ⟨lt_size (up3 b o e),f1,f2,f4,λo' z=>?_⟩
  rcases f3 with q | q
  ·exact ok.noex b o' z q
  ·exact absurd (Nat.lt_of_lt_of_le (lt_size (ok.bs b o' z).1) q) (Nat.lt_irrefl _)
 have IY0:Inv (fU X N scope s3 (upd H s.heap.objs.size (.lst [])) fp) [] (aY src σ) (upd H s.heap.objs.size (.lst [])) { s3 with heap:=h₁,toks:=s.toks }:=
  comp_startC (tk:=s.toks) I3 f hsrc hex hns₁' hk hcl
 generalize hY:fU X N scope s3 (upd H s.heap.objs.size (.lst [])) fp=Y at IY0
 have hb':PG Y tg g/\PIf Y ifs tt/\PE Y elt te:=by rw [<- hY]; exact hb s3 _ fp
 obtain ⟨hg,ht,he⟩:=hb'
 have Yp:Y.prog=X.prog:=by rw [<- hY]; rfl
 have Yw:Y.w=X.w:=by rw [<- hY]; rfl
 have YK:Y.K=X.K:=by rw [<- hY]; rfl
 have YA:Y.A=X.A:=by rw [<- hY]; rfl
 have Yc:Y.calm=true:=by rw [<- hY]; exact hcalm
 have Yx:Y.xe=λ_ _=>False:=by rw [<- hY]; rfl
 have Ye:Y.env=compEnvC scope (fw scope s3.heap.objs.size X.env) s3.heap.objs.size X.env:=by rw [<- hY]; rfl
 have Ys:Y.s₀=s3:=by rw [<- hY]; rfl
 have YH:Y.H₀=upd H s.heap.objs.size (.lst []):=by rw [<- hY]; rfl
 have Yf:Y.fs=frs X.stack:=by rw [<- hY]; rfl
 have Yex:Y.ex=fp:=by rw [<- hY]; rfl
 have Ypn:Y.pn=[]:=by rw [<- hY]; rfl
 have stat:∀ {H':Hp},(∀ b ∈ fp,H' b=none)->∀ b ∈ fp,cH Y [] H' b:=λ{H'} hn b hb=>by
  obtain ⟨x1,x2,x3,x4,x5⟩:=hex b hb
  refine ⟨hn b hb,?_,?_,.inl (by rw [Yex]; exact hb),?_,λp hp=>?_⟩
  ·rw [Ye]; exact Nat.ne_of_lt x1
  ·rw [Yf]
   intro z
   rcases List.mem_cons.mp (I.stkSub b z) with q | q
   ·exact x2 q
   ·exact x3 q
  ·rw [Ye]
   intro x c e
   rcases f.lk I3 e with ⟨a,_⟩ | a
   ·exact x4 x c a
   ·exact λz=>absurd x1 (Nat.lt_asymm (z ▸ a))
  ·rw [Ypn] at hp
   exact absurd hp (by simp)
 have loop:∀ s4:Shared,s4=({ s3 with heap:=h₁,toks:=s.toks }:Shared)->
   codeAny (model X.prog X.w) X.A (.compLoop (.ListComp elt [⟨tg,iter,ifs,0⟩] scope pos) 0 (.ref it) (.ref s.heap.objs.size) (compEnvC scope (fw scope s3.heap.objs.size X.env) s3.heap.objs.size X.env))
    (compPost (model X.prog X.w) X.A E use PQ (.ref s.heap.objs.size) s3.heap.objs.size) s4:=by
  rintro s4 rfl
  refine dE (λn s'=>∃ i σ' H',Inv Y [] σ' H' s'/\tn i s'.heap/\(∀ b ∈ fp,H' b=none)/\W i n σ' H') ?_ m0
   ⟨0,aY src σ,_,IY0,T.keep 0 _ _ st λb hb o e=>hk b o (up3 b o e),λb hb=>by rw [ar (nacc b hb)]; exact (hf b hb).1,w0⟩
  rintro n s5 ⟨i,σ5,H5,I5,st5,fr5,w5⟩
  rcases turn i n σ5 H5 w5 with ⟨stop,qn⟩ | ⟨go,Nn,hNn,step⟩
  ·have q:=T.done Y Yp Yw YK Yc i [] s5 σ5 H5 (λ_ _=>False) I5 (stat fr5) st5 stop
   rw [YA] at q
   refine thn q λr s6 ⟨hr,I6⟩=>?_
   subst hr
   obtain ⟨m6,hn6,_⟩:=id I6.loc
   have eL:Y.env.locals=s3.heap.objs.size:=by rw [Ye]; rfl
   rw [eL] at hn6
   refine hfin s.heap.objs.size s3.heap.objs.size s6 H5 m6 hn6 (I3.fpOk (Nat.le_refl _) (by have z:=I6.free; rw [eL] at z; exact z)) (λh' sb=>?_) qn
   ·have b6:=I6.base
    rw [Ys,YH,Yf,Yex] at b6
    have ne:∀ b o,s3.heap.get? b=some o->b ≠ s3.heap.objs.size:=λb o e=>Nat.ne_of_lt (lt_size e)
    have u6:Un (frs X.stack) fp (upd H s.heap.objs.size (.lst [])) H5 s3.heap h':=
     ⟨λb o e n hb hx=>(sb.2 b (ne b o e)).trans (b6.keep b o e n hb hx),λb o e n hb hx=>by
       obtain ⟨sl,z⟩:=b6.slot b o e n hb hx
       exact ⟨sl,(sb.2 b (ne b o e)).trans z⟩,b6.free,λb o e hx=>by
       obtain ⟨o',z⟩:=b6.there b o e hx
       exact ⟨o',(sb.2 b (ne b o e)).trans z⟩,b6.tups,b6.frzs,b6.tbls⟩
    have fL:H5 s3.heap.objs.size=none:=by
     have z:=I6.free
     rw [eL] at z
     exact z
    have hok6:HOk X.prog X.w H5 h':=by
     have z:=I6.hok
     rw [Yp,Yw] at z
     intro b ob e
     refine (z b ob e).stay (λc w' hc q=>(sb.2 c ?_).trans q) (λ_ q=>q) λ_ _ q=>q
     rintro rfl
     rcases hc with rfl | hc
     ·rw [fL] at e; cases e
     ·rw [fL] at hc; cases hc
    have os6:s6.os=s3.os:=by
     have z:=I6.os
     rw [Ys] at z
     exact z
    refine Inv.call' (s':={ s6 with heap:=h' }) I3 os6 u6 hok6 I6.bare λb hb=>?_
    obtain ⟨f0,f1,f2,f3,f4,f5⟩:=hf b hb
    exact ⟨f3,f1,f4,f5⟩
  ·have q:=T.item Y Yp Yw YK Yc i [] s5 σ5 H5 (λ_ _=>False) I5 (stat fr5) st5 go
   rw [YA] at q
   refine thn q λr s6 ⟨u,hr,h6⟩=>?_
   subst hr
   refine thn h6 λ_ s7 ⟨x,H7,I7,r7,y7,st7,fr7⟩=>?_
   have I7':=I7.pinned (stat fr7) (T.obj _ _ st7)
   have back:∀ {σ9:St} {H9:Hp} {s9:Shared},Inv Y ([]++eE fp s7.heap) σ9 H9 s9->tn (i+1) s9.heap/\∀ b ∈ fp,H9 b=none:=λ{σ9 H9 s9} I9=>
    ⟨T.keep _ _ _ st7 λb hb o e=>(I9.pin (b,o) (mem_append_right _ (mem_append_right _ (bD hb e)))).1,λb hb=>by
     obtain ⟨o,e,d⟩:=T.obj _ _ st7 b hb
     exact (I9.pin (b,o) (mem_append_right _ (mem_append_right _ (bD hb e)))).2.1⟩
   have g1:=hg _ s7 σ5 H7 x u _ I7' r7 (step x H7 y7)
   rw [YA,Yx,Yp,Yw,Ye] at g1
   refine thn g1 λ_ s8 ⟨σ8,H8,I8,q8⟩=>?_
   have g2:=ht _ s8 σ8 H8 _ I8 q8
   rw [YA,Yx,Yp,Yw,Ye] at g2
   refine thn g2 λb s9 ⟨H9,I9,q9⟩=>?_
   cases b with
   | false=>
    simp only [Bool.false_eq_true,if_false] at q9 ⊢
    obtain ⟨m',hm,w9⟩:=hNn _ _ q9
    exact ⟨m',hm,i+1,σ8,H9,I9.unpinned,(back I9).1,(back I9).2,w9⟩
   | true=>
    simp only [if_true] at q9 ⊢
    have g3:=he _ s9 σ8 H9 _ I9 q9
    rw [YA,Yx,Yp,Yw,Ye] at g3
    refine thn g3 λyv s10 ⟨y,H10,I10,r10,ys,hys,hz,n10⟩=>?_
    obtain ⟨m',hm,w10⟩:=hNn _ _ n10
    have g4:=eD (X:=Y) _ s10 σ8 H10 (.ref s.heap.objs.size) [y] (.ref s.heap.objs.size) [yv] (λ_ H11=>H11=upd H10 s.heap.objs.size (.lst (ys++[y]))) I10 rfl (.cons r10 .nil) ⟨_,ys,y,rfl,rfl,hys,hz,rfl⟩
    rw [YA,Yx,Yp,Yw] at g4
    refine thn g4 λ_ s11 ⟨_,H11,I11,_,e11⟩=>?_
    subst e11
    exact ⟨m',hm,i+1,σ8,_,I11.unpinned,(back I11).1,(back I11).2,w10⟩
 have q:=loop _ rfl
 have eqs:({ s3 with heap:=h₁,toks:=s.toks }:Shared)={ s with heap:=h₁,toks:=s.toks }:=by rw [<- hs3]
 rw [eqs] at q
 have stn:tn 0 h₁:=T.keep 0 _ _ st λb hb o e=>hk b o (up3 b o e)
 exact codeAny_compStart_list q (T.self X.A 0 _ _ _ stn q)
end
end L2
namespace L2
open PySem PySem.Spec PyProof.Rows
theorem hZ.m {j k:Nat} {A:Around} (r:hZ k A) (h:j<=k:=by first | decide | exact Nat.le_refl _):hZ j A:=r.mono h
theorem g0.i {N P:List Str} {sc:Scope} (a:sc.kind=.function:=by rfl) (b:sc.isCoroutine=false:=by rfl) (c:sc.isGenerator=false:=by rfl) (d:N.Nodup:=by decide +kernel) (e:N.take P.length=P:=by rfl)
  (f:∀ x ∈ P,sc.names.lookup x=some .local\/sc.names.lookup x=some .cell:=by decide +kernel) (g:∀ y ∈ sc.names,y.2 ≠ .free:=by decide +kernel):g0 N P sc:=⟨a,b,c,d,e,f,g⟩
def AllA:Nat->(List Value->Prop)->Prop
 | 0,p=>p []
 | n+1,p=>∀ v,AllA n λr=>p (v::r)
theorem AllA.all:∀ {n:Nat} {p:List Value->Prop},AllA n p->∀ us:List Value,us.length=n->p us
 | 0,_,h,[],_=>h
 | _+1,_,h,v::r,e=>AllA.all (h v) r (Nat.succ.inj e)
def g9 (K:Frag) (n:Str) (st:Stmt):Prop:=∃ f fd,nsIn K mainGlobals n=some (some (.ref f))/\Fun K n n st f fd
theorem g9.mk {K:Frag} {n:Str} {st:Stmt} {f:Addr} {oc:Value} {od an:Option Addr} {osl:Array (Option Value)} {kV doc pm cdv ct:Value} (a:nsIn K mainGlobals n=some (some (.ref f))) (l:K.lookup f=some ⟨oc,od,.func (fnOf n n (bR st) (bx st) (aj st) .none kV doc pm an cdv ct),osl⟩)
  (c:codeIn K cdv n=true) (k:keepIn K (.ref f)=true):g9 K n st:=⟨f,_,a,gv l c k⟩
section
variable {P:Program} {w:World} {K:Frag} {mg:Str->Option Value} {base h:Heap} {n:Str} {st:Stmt} {k:Nat} {sp:Sp} {ps:List Str}
def BindsOk (n:Str) (st:Stmt) (ps:List Str):Prop:=∀ (kV doc pm:Value) (an:Option Addr) (cdv ct:Value),AllA ps.length λus=>bindArgs (fnOf n n (bR st) (bx st) (aj st) .none kV doc pm an cdv ct) ⟨us,[]⟩=pure (ps.zip us)
theorem BindsOk.b (h:BindsOk n st ps) {f:Addr} {fd:FuncData} (F:Fun K n n st f fd):Binds K fd ps []:=F.binds λa b c d e g=>(h a b c d e g).all
theorem g9.fb (X:K.In h) (G:h.Ns mainGlobals mg) (d:g9 K n st) (o:∀ {f fd},Fun K n n st f fd->aI P w K mg base CX0 k f fd ps sp) (b:BindsOk n st ps:=by (repeat intro _); rfl):FnB P w K mg base k n sp:=
 let ⟨f,fd,a,F⟩:=d
 ⟨f,fd,ps,o F,mg_of X G a,F.kp,b.b F⟩
theorem g9.law {fa:Addr} {x:Str} (X:K.In h) (G:h.Ns mainGlobals mg) (d:g9 K n st) (e:mg n=some (.ref fa))
  (o:∀ {fd} {base:Heap},Fun K n n st fa fd->K.In base->base.Ns mainGlobals mg->aI P w K mg base CX0 k fa fd ps sp) (b:BindsOk n st [x]:=by (repeat intro _); rfl) :
  ∃ fd:FuncData,(∀ (s:Shared) (v:Value),BindsTo s fd ⟨[v],[]⟩ [(x,v)])/\∀ base:Heap,K.In base->base.Ns mainGlobals mg->aI P w K mg base CX0 k fa fd ps sp:=by
 obtain ⟨f,fd,a,F⟩:=d
 cases e.symm.trans (mg_of X G a)
 obtain ⟨oc,od,kV,doc,pm,an,cdv,ct,osl,rfl,lk,hcd⟩:=id F.ex
 exact ⟨_,λs v=>.of_eq (b kV doc pm an cdv ct v),λbase=>o F⟩
end
theorem bmA {X:Cx} (K:Frag) (hK:X.K=K) {o e:Expr} {es:List Expr} {to:TE} {t:TA} {apos cpos:Pos} (ho:PE X o to) (ha:PA X (e::es) t)
  (hbase:attributeBase o "append" X.env (eval o X.env)=eval o X.env:=by rfl)
  (hfew:((backTo cpos (starEach (e::es) X.env)).all (λx=>!x.1) && (backToKw cpos (keywordEach [] X.env)).all (λx=>x.1.isSome)
   && decide ((e::es).length+([]:List Keyword).length+(if ([]:List Keyword).isEmpty then 0 else 1)<30))=true:=by rfl)
  (hline:(apos.endLine == cpos.line)=true:=by rfl) (hs:starEach (e::es) X.env=(false,eval e X.env)::starEach es X.env:=by rfl) (hplain:(backTo cpos (starEach es X.env)).any (·.1)=false:=by rfl) :
  PE X (.Call (.Attribute o "append" apos) (e::es) [] cpos) (tBM K "list" rAppend to t):=hK ▸ pe_bm PySem.F.plainAttrs_list PySem.F.slot_list_append PySem.F.type_list_append eD ho ha hbase hfew hline hs hplain
section
variable {P:Program} {w:World} {K:Frag} {mg:Str->Option Value} {base:Heap}
theorem Fun.o {x qual:Str} {st:Stmt} {f:Addr} {fd:FuncData} {N ps:List Str} {k:Nat} {sp:Sp} (F:Fun K x qual st f fd) (S:g0 N ps (aj st))
  (hbody:∀ (cdv:Value) (A:Around) (outer:List Env) (s:Shared) (H:Hp) (vs:List V) (Q:VK) (E:XK),hZ k (A.deeper (envOfC qual (aj st) s.heap.objs.size f cdv))->sp vs H Q E->
   ∃ t,PSs (cxOf CX0 P w K mg base N qual (aj st) f cdv A outer s H E).nox (bx st) t/\t { nx:=λ_ H'=>Q .non H',rt:=Q } (dQ N vs) H)
  (len:∀ vs H Q E,sp vs H Q E->vs.length=ps.length:=by intro _ _ _ _ h; repeat first | (cases h.1; rfl) | obtain ⟨_,h⟩:=h):aI P w K mg base CX0 (k+1) f fd ps sp:=F.ok S len hbody
end
end L2
namespace L2
open PySem PySem.Spec PyProof.Rows PySem.W
end L2
namespace L2
open PySem PySem.Spec PyProof.Rows
end L2
namespace L2
open PySem PySem.Spec PyProof.Rows PySem.W
section
variable {X:Cx} {pins:List (Addr × Obj)} {σ:St} {H:Hp} {s:Shared}
theorem ps_setcC {i:Nat} {y:Str} {py spos:Pos} {elt tg iter:Expr} {ifs:List Expr} {scope:Scope} {pos:Pos} {N:List Str} {src:List (Option Nat)} {wi:TI} {g:TG} {tt:TT} {te:TE}
  (hN:X.N.Nodup) (hix:X.N[i]? = some y) (hx:Loc X.env.scope y)
  (hcalm:X.calm=true) (hsc:gL X.env.scope scope=true) (hsrc:dR X.N N src scope=true) (hi:PI X tg iter wi)
  (hb:∀ (s:Shared) (H:Hp) (ex:List Addr),PG (fU X N scope s H ex) tg g/\PIf (fU X N scope s H ex) ifs tt/\PE (fU X N scope s H ex) elt te)
  (hs:∀ x,foldedSetIterable iter X.env x=pure x:=by intro _; rfl)
  (hsw:swapsWith (.ListComp elt [⟨tg,iter,ifs,0⟩] scope pos) (some (.Name y py)) spos.line X.env=pure true:=by rfl)
  (hf:X.fn y=true\/X.env.scope.names.lookup y=some .local:=by first | exact .inl rfl | exact .inr rfl | assumption) :
  PS X (.Assign [.Name y py] (.ListComp elt [⟨tg,iter,ifs,0⟩] scope pos) spos) (tAsg (tComp src wi g tt te) (bi i)):=by
 intro pins s σ H D I h
 have f:=compFactsC hsc
 rw [exec_Assign_Name_used _ _ _ _ hsw]
 refine wpAny_bind (wpAny_standAt (wpAny_bind ?_))
 show wpAny _ X.A (do let _ <- comprehension (.ListComp elt [⟨tg,iter,ifs,0⟩] scope pos) scope X.env _ (newList []) false (eval iter X.env) (some (assign (.Name y py) X.env))) _ _ s
 refine wpAny_bind (wpAny_mono (wpAny_comprehension_free (use:=some (assign (.Name y py) X.env)) (Q:=λ_ s'=>SP X pins D .next s') rfl hs (dh (f.cells I.ok)) f.kind f.names
  (thn (hi pins s σ H _ I h) λv s1 h1=>thn h1 λitv s2 h2=>?_)) (λ_ s' hq=>wpAny_pure (wpAny_pure hq)) λ_ _ e=>e)
 obtain ⟨it,fp,tn,J,H2,rfl,I2,T,st2,f2,q2⟩:=h2
 refine comp_runC (N:=N) (src:=src) (some (assign (.Name y py) X.env)) (λ_ s'=>SP X pins D .next s') X.xe hcalm f hsrc hb I2 T st2 f2 (Q:=λx H1=>bi i x σ H1 D.nx) q2 ?_
 intro acc C s' H' m hn fpC hI hq
 obtain ⟨c0,c1,c2,c3,c4,c5⟩:=fpC
 have I':Inv X pins σ H' s':=hI s'.heap (Heap.SameBut.refl ..)
 show wpAny _ X.A (assign (.Name y py) X.env (.ref acc)) _ _ _
 refine wpAny_assign_Name (eh (v:=.ref acc) I' hN hix hx rfl (λs2 J2 ⟨a,sb,ha⟩=>?_) hf)
 have hCa:C ≠ a:=by
  rcases ha with rfl | ha
  ·exact c1
  ·exact λz=>c4 y a ha z.symm
 refine ⟨m,hn.sameBut sb hCa,λh' sb'=>?_⟩
 exact ⟨_,H',J2.turned (t':=s2.toks) (λb o hb e=>(sb'.2 b hb).trans e) c0 c1 c3 c4 c5,hq⟩
end
end L2
set_option exponentiation.threshold 9000
namespace K
open PySem L2 PyProof.Rows
variable {P:Program} {w:World} {K:Frag} {mg:Str->Option Value} {base:Heap}
def top (i:Nat):Stmt:=PySem.Challenge.pw_relationladder_k41_rank.main.body.getD i (.Pass ⟨0,0,0,0⟩)
abbrev aH:Stmt:=inClass (top 8) 0
abbrev aL:Stmt:=inClass (top 9) 0
abbrev aZ:Stmt:=inClass (top 9) 1
abbrev bC:Stmt:=top 10
abbrev dj:Stmt:=top 11
abbrev bp:Stmt:=top 12
abbrev bF:Stmt:=top 14
abbrev s_rank:Stmt:=top 16
abbrev bM:Stmt:=top 17
abbrev cB:Stmt:=top 18
abbrev cM:Stmt:=top 20
abbrev dq:Stmt:=top 21
abbrev cR:Stmt:=top 22
abbrev cr:Stmt:=top 23
abbrev di:Stmt:=top 24
abbrev bN:Stmt:=top 25
abbrev cm:Stmt:=top 26
abbrev bW:Stmt:=top 27
abbrev cJ:Stmt:=top 28
abbrev cT:Stmt:=top 29
abbrev cq:Stmt:=top 30
abbrev cc:Stmt:=top 31
abbrev cL:Stmt:=top 32
abbrev cO:Stmt:=top 33
abbrev cx:Stmt:=top 34
abbrev ce:Stmt:=top 35
abbrev bG:Stmt:=top 36
abbrev cF:Stmt:=top 37
abbrev cI:Stmt:=top 38
abbrev cS:Stmt:=top 39
abbrev s_law:Stmt:=top 40
theorem nd_0:(["_law_part", "_law_number_here"]:List Str).Nodup:=by decide +kernel
def CDivA (_ j:Int):Prop:=j ≠ 0/\j.natAbs<2 ^ 8800
theorem CDivA.ok {i j:Int} (h:CDivA i j):Builtin.divisionGoesByPylong i j=false:=by
 refine PyProof.noPylong_of_log2 ?_
 by_cases h0:j.natAbs=0
 ·rw [h0]; decide +kernel
 ·have h30:j.natAbs.log2<8800:=(Nat.log2_lt h0).mpr h.2
  omega
theorem br {X:Cx}:OpR X (binaryOp .FloorDiv) (rI CDivA λi j=>.int (i.fdiv j)):=opI λ_ _ _ _ _ _ _ hc q=>floordiv_int hc.1 q (.inl hc.ok)
theorem fu {i j:Int} (hi:i.natAbs<2 ^ 8800) (hj:j.natAbs<2 ^ 8800):IntMulOk i j:=by
 have bits:∀ {k:Int},k.natAbs<2 ^ 8800->Builtin.Int.intBits k<=8800:=λ{k} h=>by
  unfold Builtin.Int.intBits
  split
  ·omega
  ·rename_i h0
   have h0':k.natAbs ≠ 0:=by intro z; apply h0; simp; omega
   have:=(Nat.log2_lt h0').mpr h
   omega
 have h1:=bits hi
 have h2:=bits hj
 unfold IntMulOk
 have h3:Builtin.Int.intTooBig ((Builtin.Int.intBits i:Int)+Builtin.Int.intBits j)=false:=by
  unfold Builtin.Int.intTooBig
  rw [decide_eq_false_iff_not]
  have:bitsLine=2 ^ 27:=rfl
  rw [this]
  omega
 rw [h3]
 simp
theorem bT {K:Frag} {a:Addr} {xs:List V} {g:TG} {tb:TS} {D:eP} {σ:L2.St} {H:Hp} (Pv:Nat->L2.St->Hp->Prop) (h0:Pv 0 σ H) (hl:∀ i σ H,i<=xs.length->Pv i σ H->SqL K H a xs)
  (hs:∀ i x σ H,xs[i]? = some x->Pv i σ H->∀ N B:L2.St->Hp->Prop,(∀ σ' H',Pv (i+1) σ' H'->N σ' H')->g x σ H λσ2 H2=>tb { nx:=N,ct:=N,bk:=B,rt:=D.rt } σ2 H2) (hd:∀ σ H,Pv xs.length σ H->D.nx σ H) :
  ∃ W:Nat->Nat->L2.St->Hp->Prop,(∃ m,W 0 m σ H)/\∀ i m σ H,W i m σ H->
   ((Itl K a).stop i H/\D.nx σ H)\/((Itl K a).go i H/\∃ N:L2.St->Hp->Prop,(∀ σ' H',N σ' H'->∃ m',m' < m/\W (i+1) m' σ' H')/\∀ x H',(Itl K a).yld i H x H'->g x σ H' λσ2 H2=>tb { D with nx:=N,ct:=N,bk:=D.nx } σ2 H2):=
 for_list Pv h0 hl (λi x σ H e p=>hs i x σ H e p _ _ λ_ _ z=>z) hd
theorem for_rangeN {lo:Int} {n:Nat} {g:TG} {tb:TS} {D:eP} {σ:L2.St} {H:Hp} (Pv:Nat->L2.St->Hp->Prop) (h0:Pv 0 σ H)
  (hs:∀ i σ H,i<n->Pv i σ H->∀ N B:L2.St->Hp->Prop,(∀ σ' H',Pv (i+1) σ' H'->N σ' H')->g (.int (lo+i)) σ H λσ2 H2=>tb { nx:=N,ct:=N,bk:=B,rt:=D.rt } σ2 H2) (hd:∀ σ H,Pv n σ H->D.nx σ H) :
  ∃ W:Nat->Nat->L2.St->Hp->Prop,(∃ m,W 0 m σ H)/\∀ i m σ H,W i m σ H->
   ((Itr lo n).stop i H/\D.nx σ H)\/((Itr lo n).go i H/\∃ N:L2.St->Hp->Prop,(∀ σ' H',N σ' H'->∃ m',m' < m/\W (i+1) m' σ' H')/\∀ x H',(Itr lo n).yld i H x H'->g x σ H' λσ2 H2=>tb { D with nx:=N,ct:=N,bk:=D.nx } σ2 H2):=
 gr Pv h0 (λi σ H e p=>hs i σ H e p _ _ λ_ _ z=>z) hd
theorem aD {j:Int} (h:0<=j) (h2:j<2 ^ 63):j.natAbs<2 ^ 8800:=by
 have h3:j.natAbs<2 ^ 63:=by omega
 exact Nat.lt_of_lt_of_le h3 (Nat.pow_le_pow_right (by decide) (by decide))
theorem dX {i j:Int} (h:0<j) (h2:j<2 ^ 63):CDivA i j:=⟨by omega,aD (by omega) h2⟩
theorem at_int (ns:List Int) {k:Int} (h0:0<=k) (h1:k<ns.length):∃ z,atI (ns.map V.int) k=some (V.int z):=by
 obtain ⟨n,rfl⟩:=Int.eq_ofNat_of_zero_le h0
 have hn:n<ns.length:=by omega
 exact ⟨ns[n],bh (by rw [getElem?_map,getElem?_eq_getElem hn]; rfl)⟩
def spCell (K:Frag):Sp:=λvs H Q _=>∃ (a:Addr) (ns:List Int) (k:Int),vs=[.ref a,.int k]/\SqL K H a (ns.map V.int)/\ns.length<=63/\0<=k/\k<=100/\∀ r:Int,Q (.int r) H
def c9 (a b:Int):Int:=(a*48271+7919*b*b+17) % 2147483647
def hJ (a b:Int) (k:Nat):Prop:=b=0\/(0<=a/\a<2147483647/\0<b/\b<=k)
def spBag (K:Frag):Sp:=λvs H Q _=>∃ (a:Addr) (ns:List Int) (k:Int),vs=[.ref a,.int k]/\SqL K H a (ns.map V.int)/\ns.length<=63/\0<=k/\k<=99/\
 ∀ (p:Addr) (a b:Int),H p=none->hJ a b 100->Q (.ref p) (upd H p (.lst [.int a,.int b]))
def cw:Sp:=λvs H Q _=>∃ (p:Addr) (a b m:Int) (k:Nat),vs=[.ref p,.int m]/\H p=some (.lst [.int a,.int b])/\hJ a b k/\k<=1000000/\0<m/\m.natAbs<2 ^ 8800/\
 ∀ r a' b',0<=r->r<m->hJ a' b' (k+1)->Q (.int r) (upd H p (.lst [.int a',.int b']))
theorem iB:g0 ["_law_script", "_law_k", "_law_seed", "_law_some"] ["_law_script", "_law_k"] (aj cM):=.i
theorem ok_cell {f:Addr} {fd:FuncData} (F:Fun K "_law_cell" "_law_cell" cM f fd) (T:Blt mg):aI P w K mg base CX0 1 f fd ["_law_script", "_law_k"] (spCell K):=by
 refine F.o iB λ_ _ _ _ H _ Q _ hr h=>?_
 ·obtain ⟨a,ns,k,rfl,hS,hl,hk0,hk1,q⟩:=h
  have hln:((ns.map V.int).length:Int)=ns.length:=by rw [length_map]
  refine ⟨_,(ae (aR (az op_lt (pv 1) (cV K T (pv 0)) (aA _))
(ah (ao (aE (aB K rfl) (pv 0) (pv 1) (λ_ _=>rfl))))
aC)
(ae (aq (i:=2) iB.nd rfl (Or.inl rfl) (ai aW (pv 1) ac))
(ae (aR (az da (cV K T (pv 0)) ac (aA _))
(ah (aq (i:=2) iB.nd rfl (Or.inl rfl) (ai bb (pv 2) (ai aV (aE (aB K rfl) (pv 0) (ai aV (pv 1) (cV K T (pv 0))) (λ_ _=>rfl)) ac))))
aC)
(ae (aq (i:=3) iB.nd rfl (Or.inl rfl) (ai aV (ai aW (pv 2) ac) ac))
(ah (ao (ai aV (ai br (ai aW (pv 3) (ai bb (ai bb (pv 3) (ai aW ac (pv 1))) ac)) ac) ac))))))),?_⟩
  refine ⟨_,rfl,_,rfl,a,_,rfl,.inl hS,_,_,rfl,rfl,_,rfl,?_⟩
  refine bc (λh=>?_) (λh=>?_)
  ·have h':k<ns.length:=by have:=of_decide_eq_true h; omega
   obtain ⟨z,hz⟩:=at_int ns hk0 h'
   exact ⟨_,rfl,_,rfl,a,_,_,_,rfl,rfl,hS,hz,q _⟩
  ·refine ⟨_,rfl,_,_,rfl,rfl,.inl ⟨by omega,by omega⟩,?_⟩
   refine ⟨_,rfl,a,_,rfl,.inl hS,_,_,rfl,rfl,_,rfl,?_⟩
   have fin:∀ sd:Int,(0:Int)<=sd*48271 % 65537/\sd*48271 % 65537<65537:=λsd=>⟨Int.emod_nonneg _ (by decide),Int.emod_lt_of_pos _ (by decide)⟩
   refine bc (λh=>?_) (λh=>?_)
   ·have h':0<(ns.length:Int):=by have:=of_decide_eq_true h; omega
    obtain ⟨z,hz⟩:=at_int ns (k:=k % ((ns.map V.int).length:Int)) (Int.emod_nonneg _ (by omega)) (by have:=Int.emod_lt_of_pos k (b:=((ns.map V.int).length:Int)) (by omega); omega)
    refine ⟨_,rfl,_,rfl,_,rfl,_,rfl,a,_,rfl,.inl hS,_,_,rfl,rfl,(by show (0:Int)<_; omega),a,_,_,_,rfl,rfl,hS,hz,_,_,rfl,rfl,(by show (0:Int)<65537; decide),_,_,rfl,rfl,?_⟩
    have f1:=fin (k*7919+z % 65537)
    refine ⟨_,rfl,_,_,rfl,rfl,.inr ⟨by decide,by decide⟩,_,_,rfl,rfl,(by show (0:Int)<65537; decide),?_⟩
    exact ⟨_,rfl,_,rfl,_,rfl,_,_,rfl,rfl,.inl ⟨by decide,by decide⟩,_,_,rfl,rfl,_,_,rfl,rfl,_,_,rfl,rfl,.inl ⟨Int.lt_of_lt_of_le (by decide) f1.1,Int.lt_of_lt_of_le f1.2 (by decide)⟩,_,_,rfl,rfl,dX (by decide) (by decide),_,_,rfl,rfl,(by show (0:Int)<65521; decide),q _⟩
   ·have f1:=fin (k*7919)
    refine ⟨_,rfl,_,_,rfl,rfl,.inr ⟨by decide,by decide⟩,_,_,rfl,rfl,(by show (0:Int)<65537; decide),?_⟩
    exact ⟨_,rfl,_,rfl,_,rfl,_,_,rfl,rfl,.inl ⟨by decide,by decide⟩,_,_,rfl,rfl,_,_,rfl,rfl,_,_,rfl,rfl,.inl ⟨Int.lt_of_lt_of_le (by decide) f1.1,Int.lt_of_lt_of_le f1.2 (by decide)⟩,_,_,rfl,rfl,dX (by decide) (by decide),_,_,rfl,rfl,(by show (0:Int)<65521; decide),q _⟩
theorem sc__law_bag:g0 ["_law_script", "_law_at", "_law_cell_here"] ["_law_script", "_law_at"] (aj dq):=.i
theorem ok_bag {f:Addr} {fd:FuncData} (F:Fun K "_law_bag" "_law_bag" dq f fd) (jQ:FnB P w K mg base 1 "_law_cell" (spCell K)):aI P w K mg base CX0 2 f fd ["_law_script", "_law_at"] (spBag K):=by
 refine F.o sc__law_bag λ_ _ _ _ H _ Q _ hr h=>?_
 ·obtain ⟨a,ns,k,rfl,hS,hl,hk0,hk1,q⟩:=h
  refine ⟨_,(ae (aq (i:=2) sc__law_bag.nd rfl (Or.inl rfl) (ay jQ hr.m (aa (pv 0) (aa (pv 1) ag))))
(ae (aR (PW.pt (pw_or (az op_ge (pv 2) (ai cj ac ac) (aA _)) (pw_or1 (az op_le (pv 2) (pe_un un_neg (ai cj ac ac)) (aA _)))))
(ah (ao (bL (aa (pv 2) (aa ac ag)))))
aC)
(ah (ao (bL (aa (ai aV (pv 2) ac) (aa (ai bb (pv 1) ac) ag))))))),?_⟩
  refine ⟨_,rfl,_,rfl,a,ns,k,rfl,hS,hl,hk0,by omega,λr=>?_⟩
  refine ⟨_,rfl,_,_,rfl,rfl,⟨by decide,by decide,by decide⟩,_,_,rfl,rfl,_,rfl,?_⟩
  have f1:(0:Int)<=r % 2147483647/\r % 2147483647<2147483647:=⟨Int.emod_nonneg _ (by decide),Int.emod_lt_of_pos _ (by decide)⟩
  refine bc (λh=>?_) (λh=>?_)
  ·refine iteT ?_
   exact ⟨_,rfl,by show 2<=sizeLine; decide,λp hp=>q p r 0 hp (.inl rfl)⟩
  ·refine ⟨_,rfl,_,_,rfl,rfl,⟨by decide,by decide,by decide⟩,_,rfl,_,_,rfl,rfl,_,rfl,?_⟩
   refine bc (λh=>?_) (λh=>?_)
   ·exact ⟨_,rfl,by show 2<=sizeLine; decide,λp hp=>q p r 0 hp (.inl rfl)⟩
   ·exact ⟨_,rfl,_,_,rfl,rfl,(by show (0:Int)<2147483647; decide),_,rfl,_,_,rfl,rfl,by show 2<=sizeLine; decide,λp hp=>q p _ _ hp (.inr ⟨f1.1,f1.2,by omega,by omega⟩)⟩
theorem sc__law_take:g0 ["_law_bag_here", "_law_many", "_law_some"] ["_law_bag_here", "_law_many"] (aj cR):=.i
theorem ok_take {f:Addr} {fd:FuncData} (F:Fun K "_law_take" "_law_take" cR f fd):aI P w K mg base CX0 1 f fd ["_law_bag_here", "_law_many"] cw:=by
 refine F.o sc__law_take λ_ _ _ _ H _ Q _ hr h=>?_
 ·obtain ⟨p,a,b,m,k,rfl,hp,hb,hk,hm,hm2,q⟩:=h
  refine ⟨_,(ae (aR (az bZ (aE (aB K rfl) (pv 0) ac (λ_ _=>rfl)) ac (aA _))
(ae (aq (i:=2) sc__law_take.nd rfl (Or.inl rfl) (ai aV (aE (aB K rfl) (pv 0) ac (λ_ _=>rfl)) (pv 1)))
(ae (ps_asg (ai br (aE (aB K rfl) (pv 0) ac (λ_ _=>rfl)) (pv 1)) (pg_sub (pv 0) ac fo))
(ah (ao (pv 2)))))
aC)
(ae (ps_asg (ai aV (ai bb (ai bb (ai aW (aE (aB K rfl) (pv 0) ac (λ_ _=>rfl)) ac) (ai aW (ai aW ac (aE (aB K rfl) (pv 0) ac (λ_ _=>rfl))) (aE (aB K rfl) (pv 0) ac (λ_ _=>rfl)))) ac) ac) (pg_sub (pv 0) ac fo))
(ae (ps_asg (ai bb (aE (aB K rfl) (pv 0) ac (λ_ _=>rfl)) ac) (pg_sub (pv 0) ac fo))
(ah (ao (ai aV (ai aV (ai aW (aE (aB K rfl) (pv 0) ac (λ_ _=>rfl)) ac) ac) (pv 1))))))),?_⟩
  have e0:∀ (a b:Int) (H':Hp),H' p=some (.lst [.int a,.int b])->SqL K H' p [.int a,.int b]:=λa b H' h=>SqL.of h
  refine ⟨_,rfl,p,_,_,_,rfl,rfl,e0 a b H hp,rfl,rfl,_,rfl,?_⟩
  refine bc (λh=>?_) (λh=>?_)
  ·have hb0:b=0:=by simpa using h
   refine ⟨_,rfl,p,_,_,_,rfl,rfl,e0 a b H hp,rfl,_,rfl,_,_,rfl,rfl,hm,?_⟩
   refine ⟨_,rfl,p,_,_,_,rfl,rfl,e0 a b H hp,rfl,_,rfl,_,_,rfl,rfl,⟨by omega,hm2⟩,_,rfl,p,_,_,_,rfl,rfl,hp,rfl,?_⟩
   refine ⟨_,rfl,?_⟩
   exact q _ _ _ (Int.emod_nonneg _ (by omega)) (Int.emod_lt_of_pos _ hm) (.inl hb0)
  ·have hb0:b ≠ 0:=by simpa using h
   rcases hb with z | ⟨a0,a1,b0,b1⟩
   ·exact absurd z hb0
   refine ⟨_,rfl,p,_,_,_,rfl,rfl,e0 a b H hp,rfl,_,_,rfl,rfl,.inl ⟨by omega,by omega⟩,_,rfl,p,_,_,_,rfl,rfl,e0 a b H hp,rfl,_,_,rfl,rfl,.inl ⟨by decide,by decide⟩,_,rfl,p,_,_,_,rfl,rfl,e0 a b H hp,rfl,_,_,rfl,rfl,.inr ⟨by omega,by omega⟩,_,_,rfl,rfl,_,_,rfl,rfl,_,_,rfl,rfl,(by show (0:Int)<2147483647; decide),_,rfl,p,_,_,_,rfl,rfl,hp,rfl,?_⟩
   have a0':0<=c9 a b:=Int.emod_nonneg _ (by decide)
   have a1':c9 a b<2147483647:=Int.emod_lt_of_pos _ (by decide)
   refine ⟨_,rfl,p,_,_,_,rfl,rfl,e0 (c9 a b) b _ af,rfl,_,_,rfl,rfl,_,rfl,p,[.int (c9 a b),.int b],_,_,rfl,rfl,af,rfl,?_⟩
   refine ⟨_,rfl,p,_,_,_,rfl,rfl,e0 (c9 a b) (b+1) _ af,rfl,_,_,rfl,rfl,.inl ⟨by omega,by omega⟩,_,_,rfl,rfl,(by show (0:Int)<2147483629; decide),_,rfl,_,_,rfl,rfl,hm,?_⟩
   have e:upd (upd H p (.lst [.int (c9 a b),.int b])) p (.lst [.int (c9 a b),.int (b+1)])=upd H p (.lst [.int (c9 a b),.int (b+1)]):=bz
   have z:=q (c9 a b*69621 % 2147483629 % m) (c9 a b) (b+1) (Int.emod_nonneg _ (by omega)) (Int.emod_lt_of_pos _ hm) (.inr ⟨a0',a1',by omega,by omega⟩)
   rw [<- e] at z
   exact z
def spWhole (K:Frag):Sp:=λvs H Q _=>∃ (v:V) (t:Value) (b c:Bool),vs=[v]/\TyOf K H v t/\kitOne K t (.type "int")=some b/\kitOne K t (.type "bool")=some c/\Q (.bl (b && !c)) H
theorem spWhole.int {K:Frag} {i:Int} {H:Hp} {Q:VK} {E:XK} (q:Q (.bl true) H):spWhole K [.int i] H Q E:=⟨_,_,true,false,rfl,.int i,rfl,rfl,q⟩
theorem hJ.mono {a b:Int} {j k:Nat} (h:hJ a b j) (hk:j<=k):hJ a b k:=by
 rcases h with h | ⟨h1,h2,h3,h4⟩
 ·exact .inl h
 ·exact .inr ⟨h1,h2,h3,by omega⟩
theorem fW:g0 ["_law_found"] ["_law_found"] (aj cr):=.i
theorem ok_whole {f:Addr} {fd:FuncData} (F:Fun K "_law_whole" "_law_whole" cr f fd) (T:Blt mg):aI P w K mg base CX0 1 f fd ["_law_found"] (spWhole K):=by
 refine F.o fW λ_ _ _ _ H _ Q _ hr h=>?_
 ·obtain ⟨v,t,b,c,rfl,ty,h1,h2,q⟩:=h
  refine ⟨_,(ah (ao (pe_and (kpl_is K T (pv 0) T.int gn) (pe_one (pe_not (kpl_is K T (pv 0) T.bool boot_bool')))))),?_⟩
  refine ⟨_,rfl,t,b,ty,h1,_,rfl,?_⟩
  cases b with
  | false=>exact eo q
  | true=>exact iteT ⟨_,rfl,t,c,ty,h2,_,rfl,q⟩
theorem dr {K:Frag} {H:Hp} {a:Addr} {xs:List V} (h:SqL K H a xs):SqV false K H a xs:=h
def v2 (f:Int->Int->V):V->V->V:=λx y=>match x,y with
 | .int i,.int j=>f i j
 | _,_=>.non
def v1 (f:Int->V):V->V:=λx=>match x with
 | .int i=>f i
 | _=>.non
theorem zip_v2 (f:Int->Int->V):∀ ns ms:List Int,List.zipWith (v2 f) (ns.map V.int) (ms.map V.int)=List.zipWith f ns ms
 | [],_=>rfl
 | _::_,[]=>rfl
 | n::ns,m::ms=>congrArg (f n m :: ·) (zip_v2 f ns ms)
theorem map_v1 (f:Int->V) (ns:List Int):(ns.map V.int).map (v1 f)=ns.map f:=by
 rw [map_map]; rfl
theorem zw_map {α:Type} (g:α->V) (f:Int->Int->α):∀ ns ms:List Int,List.zipWith (λi j=>g (f i j)) ns ms=(List.zipWith f ns ms).map g
 | [],_=>rfl
 | _::_,[]=>rfl
 | n::ns,m::ms=>congrArg (g (f n m) :: ·) (zw_map g f ns ms)
theorem dP {ns:List Int} {i:Nat} {x:V} (h:(ns.map V.int)[i]? = some x):∃ z,ns[i]? = some z/\x=.int z:=by
 rw [getElem?_map] at h
 cases e:ns[i]? with
 | none=>rw [e] at h; cases h
 | some z=>rw [e] at h; exact ⟨z,rfl,(Option.some.inj h).symm⟩
theorem bK:((10:Int) ^ (10:Int).toNat)=10000000000:=by decide +kernel
def eV:Sp:=λvs H Q _=>∃ (p:Addr) (a b:Int) (k:Nat),vs=[.ref p]/\H p=some (.lst [.int a,.int b])/\hJ a b k/\k<=900000/\
 ∀ (r a' b':Int),0<=r->r<1000000000000000000000000000000->hJ a' b' (k+3)->Q (.int r) (upd H p (.lst [.int a',.int b']))
def fj:Sp:=λvs H Q _=>∃ (p:Addr) (a b:Int) (k:Nat),vs=[.ref p]/\H p=some (.lst [.int a,.int b])/\hJ a b k/\k<=800000/\
 ∀ (r a' b':Int),-1000000000000000000000000000000<r->r<1000000000000000000000000000000->hJ a' b' (k+4)->Q (.int r) (upd H p (.lst [.int a',.int b']))
theorem sc__law_great:g0 ["_law_bag_here", "_law_high"] ["_law_bag_here"] (aj cx):=.i
theorem ok_great {f:Addr} {fd:FuncData} (F:Fun K "_law_great" "_law_great" cx f fd) (iX:FnB P w K mg base 1 "_law_take" cw):aI P w K mg base CX0 2 f fd ["_law_bag_here"] eV:=by
 refine F.o sc__law_great λ_ _ _ _ H _ Q _ hr h=>?_
 ·obtain ⟨p,a,b,k,rfl,hp,hb,hk,q⟩:=h
  refine ⟨_,(ae (aq (i:=1) sc__law_great.nd rfl (Or.inl rfl) (ai bb (ai aW (ay iX hr.m (aa (pv 0) (aa (ai cj ac ac) ag))) (ai cj ac ac)) (ay iX hr.m (aa (pv 0) (aa (ai cj ac ac) ag)))))
(ah (ao (ai bb (ai aW (pv 1) (ai cj ac ac)) (ay iX hr.m (aa (pv 0) (aa (ai cj ac ac) ag))))))),?_⟩
  refine ⟨_,rfl,_,_,rfl,rfl,⟨by decide,by decide,by decide⟩,p,a,b,_,k,rfl,hp,hb,by omega,by rw [bK]; decide,by rw [bK]; exact aD (by decide) (by decide),λr1 a1 b1 r10 r11 hb1=>?_⟩
  rw [bK] at r11
  refine ⟨_,_,rfl,rfl,⟨by decide,by decide,by decide⟩,_,_,rfl,rfl,.inl ⟨by omega,by omega⟩,?_⟩
  refine ⟨_,rfl,_,_,rfl,rfl,⟨by decide,by decide,by decide⟩,p,a1,b1,_,k+1,rfl,af,hb1,by omega,by rw [bK]; decide,by rw [bK]; exact aD (by decide) (by decide),λr2 a2 b2 r20 r21 hb2=>?_⟩
  rw [bK] at r21
  refine ⟨_,_,rfl,rfl,?_⟩
  refine ⟨_,rfl,_,_,rfl,rfl,⟨by decide,by decide,by decide⟩,_,_,rfl,rfl,.inr (by rw [bK]; exact ⟨by decide,by decide⟩),?_⟩
  refine ⟨_,rfl,_,_,rfl,rfl,⟨by decide,by decide,by decide⟩,p,a2,b2,_,k+2,rfl,af,hb2,by omega,by rw [bK]; decide,by rw [bK]; exact aD (by decide) (by decide),λr3 a3 b3 r30 r31 hb3=>?_⟩
  rw [bK] at r31
  refine ⟨_,_,rfl,rfl,?_⟩
  rw [bz,bz,bK]
  exact q _ a3 b3 (by omega) (by omega) hb3
theorem fQ:g0 ["_law_bag_here"] ["_law_bag_here"] (aj ce):=.i
theorem ok_signed {f:Addr} {fd:FuncData} (F:Fun K "_law_signed" "_law_signed" ce f fd) (iX:FnB P w K mg base 1 "_law_take" cw) (i5:FnB P w K mg base 2 "_law_great" eV):aI P w K mg base CX0 3 f fd ["_law_bag_here"] fj:=by
 refine F.o fQ λ_ _ _ _ H _ Q _ hr h=>?_
 ·obtain ⟨p,a,b,k,rfl,hp,hb,hk,q⟩:=h
  refine ⟨_,(ah (ao (ai aW (ai bA (ai aW ac (ay iX hr.m (aa (pv 0) (aa ac ag)))) ac) (ay i5 hr.m (aa (pv 0) ag))))),?_⟩
  refine ⟨_,rfl,p,a,b,2,k,rfl,hp,hb,by omega,by decide,aD (by decide) (by decide),λr1 a1 b1 r10 r11 hb1=>?_⟩
  refine ⟨_,_,rfl,rfl,.inl ⟨by decide,by decide⟩,_,_,rfl,rfl,?_⟩
  refine ⟨_,rfl,p,a1,b1,k+1,rfl,af,hb1,by omega,λr2 a2 b2 r20 r21 hb2=>?_⟩
  refine ⟨_,_,rfl,rfl,.inl ⟨by omega,by omega⟩,?_⟩
  rw [bz]
  have h01:r1=0\/r1=1:=by omega
  refine q _ a2 b2 ?_ ?_ hb2
  ·rcases h01 with z | z<;>rw [z]<;>omega
  ·rcases h01 with z | z<;>rw [z]<;>omega
def fF:Sp:=λvs H Q _=>∃ (a b:Int),vs=[.int a,.int b]/\b ≠ 0/\b.natAbs<2 ^ 8800/\∀ t,H t=none->Q (.ref t) (upd H t (.tup [.int (nrm a b).1,.int (nrm a b).2]))
theorem ir:g0 ["_law_top", "_law_bottom", "_law_one", "_law_other"] ["_law_top", "_law_bottom"] (aj di):=.i
theorem ok_low {f:Addr} {fd:FuncData} (F:Fun K "_law_low" "_law_low" di f fd) (T:Blt mg):aI P w K mg base CX0 1 f fd ["_law_top", "_law_bottom"] fF:=by
 refine F.o ir λ_ _ _ _ H _ Q _ hr h=>?_
 ·obtain ⟨a,b,rfl,hb,hbs,q⟩:=h
  refine ⟨_,(ae (aq (i:=2) ir.nd rfl (Or.inl rfl) (gC T (pv 0)))
(ae (aq (i:=3) ir.nd rfl (Or.inl rfl) (gC T (pv 1)))
(ae (dM PassesOwn.never (az da (pv 3) ac (aA _))
(ah (ps_par (i:=2) (j:=3) rfl ir.nd rfl rfl (by decide) rfl rfl (aa (pv 3) (aa (ai aV (pv 2) (pv 3)) ag)) rfl)))
(ae (aR (az op_lt (pv 1) ac (aA _))
(ah (aq (i:=2) ir.nd rfl (Or.inl rfl) (ai bA ac (pv 2))))
aC)
(ah (ao (en (aa (ai br (pv 0) (pv 2)) (aa (ai br (pv 1) (pv 2)) ag))))))))),?_⟩
  refine ⟨_,rfl,_,rfl,_,rfl,_,rfl,?_⟩
  refine dW (λσ H'=>∃ x y:Nat,σ=[some (.int a),some (.int b),some (.int x),some (.int y)]/\H'=H/\Nat.gcd x y=Int.gcd a b) (λσ _=>match σ with | [_,_,_,some (.int y)]=>y.toNat | _=>0) ⟨a.natAbs,b.natAbs,?_,rfl,rfl⟩ ?_ ?_
  ·have e1:(if a<0 then -a else a)=(a.natAbs:Int):=by split<;>omega
   have e2:(if b<0 then -b else b)=(b.natAbs:Int):=by split<;>omega
   rw [e1,e2]
   rfl
  ·rintro σ H2 ⟨x,y,rfl,rfl,hg⟩
   refine ⟨_,rfl,_,_,rfl,rfl,_,rfl,bc (λh=>?_) (λh=>?_)⟩
   ·have hy:0<y:=by have:=of_decide_eq_true h; omega
    refine ⟨_,rfl,_,rfl,_,rfl,_,_,rfl,rfl,(by show (0:Int)<(y:Int); omega),_,_,rfl,⟨y,x % y,?_,rfl,?_⟩,?_⟩
    ·rfl
    ·rw [<- hg,Nat.gcd_comm x y,Nat.gcd_rec y x,Nat.gcd_comm]
    ·show ((x:Int) % (y:Int)).toNat<(y:Int).toNat
     have h1:=Int.emod_lt_of_pos (x:Int) (show (0:Int)<y by omega)
     have h2:=Int.emod_nonneg (x:Int) (show (y:Int) ≠ 0 by omega)
     omega
   ·have hy:y=0:=by
     have h1:¬ (0:Int)<(y:Int):=λz=>h (decide_eq_true z)
     omega
    subst hy
    rw [Nat.gcd_zero_right] at hg
    subst hg
    have hgp:0<Int.gcd a b:=Int.gcd_pos_of_ne_zero_right a hb
    have hgl:Int.gcd a b<=b.natAbs:=Nat.le_of_dvd (by omega) (Nat.gcd_dvd_right a.natAbs b.natAbs)
    have sm:(Int.gcd a b)<2 ^ 8800:=Nat.lt_of_le_of_lt hgl hbs
    refine ⟨_,rfl,_,_,rfl,rfl,_,rfl,bc (λh=>?_) (λh=>?_)⟩
    ·have hb0:b<0:=of_decide_eq_true h
     refine ⟨_,rfl,_,_,rfl,rfl,?_⟩
     have sm2:CDivA a (0-(Int.gcd a b:Int)):=⟨by omega,by rw [show (0-(Int.gcd a b:Int)).natAbs=Int.gcd a b by omega]; exact sm⟩
     refine ⟨_,rfl,_,rfl,_,_,rfl,rfl,sm2,_,rfl,_,rfl,_,_,rfl,rfl,sm2,(by show 2<=sizeLine; decide),λt ht=>?_⟩
     have z:=q t ht
     unfold nrm at z
     rw [if_pos hb0] at z
     rw [show 0-(Int.gcd a b:Int) = -(Int.gcd a b:Int) by omega]
     exact z
    ·have hb0:¬ b<0:=λz=>h (decide_eq_true z)
     have sm2:CDivA a (Int.gcd a b:Int):=⟨by omega,by rw [Int.natAbs_natCast]; exact sm⟩
     refine ⟨_,rfl,_,rfl,_,_,rfl,rfl,sm2,_,rfl,_,rfl,_,_,rfl,rfl,sm2,(by show 2<=sizeLine; decide),λt ht=>?_⟩
     have z:=q t ht
     unfold nrm at z
     rw [if_neg hb0] at z
     exact z
  ·rintro σ H Q Q' hq ⟨x,hx,i,j,e1,e2,b,hb,h⟩
   exact ⟨x,hx,i,j,e1,e2,b,hb,hq _ _ h⟩
def bI (n:Int) (i:Nat):List Int:=((List.range i).map λj:Nat=>(2:Int)+(j:Int)).filter λd=>decide (d*d<=n)
def eu (n:Int):Bool:=decide (1<n) && (bI n 98).all λd=>decide (0<n % d)
def gZ (p:Int):Prop:=p=0\/(2<=p/\p<=9973/\eu p=true)
theorem dz (n:Int) (i:Nat):bI n (i+1)=if (2+(i:Int))*(2+(i:Int))<=n then bI n i++[2+(i:Int)] else bI n i:=by
 unfold bI
 rw [range_succ,map_append,filter_append]
 by_cases h:(2+(i:Int))*(2+(i:Int))<=n
 ·rw [if_pos h]
  simp [h]
 ·rw [if_neg h]
  simp [h]
theorem mem_parts {n d:Int} {i:Nat}:d ∈ bI n i↔2<=d/\d<2+(i:Int)/\d*d<=n:=by
 unfold bI
 rw [mem_filter,List.mem_map]
 constructor
 ·rintro ⟨⟨j,hj,rfl⟩,h⟩
  have:=List.mem_range.mp hj
  exact ⟨by omega,by omega,of_decide_eq_true h⟩
 ·rintro ⟨h1,h2,h3⟩
  exact ⟨⟨(d-2).toNat,List.mem_range.mpr (by omega),by omega⟩,decide_eq_true h3⟩
theorem isPb_iff {n:Int}:eu n=true↔1<n/\∀ d,2<=d->d<100->d*d<=n->0<n % d:=by
 unfold eu
 rw [Bool.and_eq_true,all_eq_true]
 constructor
 ·rintro ⟨h1,h2⟩
  exact ⟨of_decide_eq_true h1,λd a b c=>of_decide_eq_true (h2 d (mem_parts.mpr ⟨a,by omega,c⟩))⟩
 ·rintro ⟨h1,h2⟩
  refine ⟨decide_eq_true h1,λd hd=>?_⟩
  obtain ⟨a,b,c⟩:=mem_parts.mp hd
  exact decide_eq_true (h2 d a (by omega) c)
theorem isPb_2:eu 2=true:=by decide +kernel
def fz:Sp:=λvs H Q _=>∃ n:Int,vs=[.int n]/\∀ H',gY H H'->Q (.bl (eu n)) H'
theorem iF:g0 ["_law_number_here", "_law_parts"] ["_law_number_here"] (aj bN):=.i
theorem ok_lawprime {f:Addr} {fd:FuncData} (F:Fun K "_law_is_prime" "_law_is_prime" bN f fd) (T:Blt mg):aI P w K mg base CX0 1 f fd ["_law_number_here"] fz:=by
 refine F.o iF λ_ _ _ _ H _ Q _ hr h=>?_
 ·obtain ⟨n,rfl,q⟩:=h
  refine ⟨_,(ae (bt (i:=1) iF.nd rfl (Or.inl rfl) (N:=["_law_part", "_law_number_here"]) (src:=[none,some 0]) rfl rfl rfl (by exact (pi_range2 rfl T.range (aa ac (aa ac ag)))) (λ_ _ _=>by exact ⟨by exact (bX (i:=0) nd_0 rfl rfl),(gs (az op_le (ai aW (pv 0) (pv 0)) (pv 1) (aA _))),by exact (pv 0)⟩))
(ah (ao (pe_and (eZ da (pv 0) ac (aA _)) (pe_one (kpl_all K T (by exact cW (N:=["_law_part", "_law_number_here"]) (src:=[none,some 0]) rfl rfl rfl (by exact (aO K rfl (pv 1))) (λ_ _ _=>by exact ⟨by exact (bX (i:=0) nd_0 rfl rfl),aX,by exact (eZ da (ai aV (pv 1) (pv 0)) ac (aA _))⟩)) false)))))),?_⟩
  refine ⟨_,_,rfl,⟨by decide,by decide,by decide,by decide⟩,bP (n:=98) (σ0:=[none,some (.int n)]) rfl (λacc i zs σ H'=>∃ u:Option V,σ=[u,some (.int n)]/\zs=(bI n i).map V.int/\gY H H') (by decide) (λacc hacc=>⟨none,rfl,rfl,gY.new hacc⟩) ?_ ?_ ?_ ?_⟩
  ·rintro acc i zs σ H' hacc hi hz _
   exact hi
  ·rintro acc zs σ H' hacc hz _
   exact Nat.le_refl 98
  ·rintro acc i zs σ H' x H'' hacc hi hz hzl ⟨u,rfl,rfl,sm⟩ ⟨rfl,rfl⟩
   refine ⟨_,rfl,_,rfl,_,_,rfl,rfl,.inl ⟨by omega,by omega⟩,_,rfl,_,_,rfl,rfl,_,rfl,bc (λh=>?_) (λh=>?_)⟩
   ·have h':(2+(i:Int))*(2+(i:Int))<=n:=of_decide_eq_true h
    refine ⟨_,rfl,_,hz,gd (by omega),_,af,by rw [length_append,length_singleton]; omega,_,rfl,?_,sm.put hacc⟩
    rw [dz,if_pos h',map_append]
    rfl
   ·have h':¬ (2+(i:Int))*(2+(i:Int))<=n:=λz=>h (decide_eq_true z)
    refine ⟨_,hz,by omega,_,rfl,?_,sm⟩
    rw [dz,if_neg h']
  ·rintro acc zs σ H' hacc hz hzl ⟨u,rfl,rfl,sm⟩
   refine ⟨_,rfl,_,_,rfl,rfl,_,rfl,bc (λh=>?_) (λh=>?_)⟩
   ·have h1:(1:Int)<n:=of_decide_eq_true h
    refine ⟨_,rfl,acc,rfl,⟨_,SqL.of hz⟩,fD (v1 λd=>.bl (decide (0<n % d))) rfl (SqL.of hz) (Nat.le_of_lt (gd (by omega))) (λi x H1 R hx sm1 hR=>?_) (λacc2 H1 hacc2 sm1 hl1=>?_)⟩
    ·obtain ⟨z,hz',rfl⟩:=dP hx
     obtain ⟨z2,_,_⟩:=mem_parts.mp (mem_of_getElem? hz')
     exact ⟨_,rfl,_,rfl,_,_,rfl,rfl,(by show (0:Int)<z; omega),_,_,rfl,rfl,hR⟩
    ·rw [map_v1] at hl1
     have e1:(bI n 98).map (λd=>V.bl (decide (0<n % d)))=((bI n 98).map λd=>decide (0<n % d)).map V.bl:=by rw [map_map]; rfl
     rw [e1] at hl1
     refine ⟨acc2,_,rfl,dr (SqL.of hl1),?_⟩
     have z:=q H1 (sm.trans sm1)
     unfold eu at z
     rw [decide_eq_true h1,Bool.true_and] at z
     rw [List.all_map]
     exact z
   ·have h1:¬ (1:Int)<n:=λz=>h (decide_eq_true z)
    have z:=q H' sm
    unfold eu at z
    rw [decide_eq_false h1,Bool.false_and] at z
    exact z
def spPrime:Sp:=λvs H Q _=>∃ (p:Addr) (a b:Int) (k:Nat),vs=[.ref p]/\H p=some (.lst [.int a,.int b])/\hJ a b k/\k<=900000/\
 ∀ (r a' b':Int) (H':Hp),gZ r->H' p=some (.lst [.int a',.int b'])->hJ a' b' (k+2)->(∀ c o,H c=some o->c ≠ p->H' c=some o)->Q (.int r) H'
theorem iw:g0 ["_law_bag_here", "_law_way", "_law_number_here"] ["_law_bag_here"] (aj cm):=.i
theorem ok_prime {f:Addr} {fd:FuncData} (F:Fun K "_law_prime" "_law_prime" cm f fd) (iX:FnB P w K mg base 1 "_law_take" cw) (jw:FnB P w K mg base 1 "_law_is_prime" fz):aI P w K mg base CX0 2 f fd ["_law_bag_here"] spPrime:=by
 refine F.o iw λ_ _ _ _ H _ Q _ hr h=>?_
 ·obtain ⟨p,a,b,k,rfl,hp,hb,hk,q⟩:=h
  refine ⟨_,(ae (aq (i:=1) iw.nd rfl (Or.inl rfl) (ay iX hr.m (aa (pv 0) (aa ac ag))))
(ae (aR (az op_lt (pv 1) ac (aA _))
(ah (ao ac))
aC)
(ae (aR (az op_lt (pv 1) ac (aA _))
(ah (ao (aE (aB K rfl) (bL (aa ac (aa ac (aa ac ag)))) (ai bA (pv 1) ac) (λ_ _=>rfl))))
aC)
(ae (aq (i:=2) iw.nd rfl (Or.inl rfl) (ai bb ac (ay iX hr.m (aa (pv 0) (aa ac ag)))))
(ae (dM PassesOwn.never (pt_not (fI (ay jw hr.m (aa (pv 2) ag))))
(ah (aq (i:=2) iw.nd rfl (Or.inl rfl) (ai bA (pv 2) ac))))
(ah (ao (pv 2)))))))),?_⟩
  refine ⟨_,rfl,p,a,b,8,k,rfl,hp,hb,by omega,by decide,aD (by decide) (by decide),λr1 a1 b1 r10 r11 hb1=>?_⟩
  have k1:∀ o c o',H c=some o'->c ≠ p->(upd H p o) c=some o':=λo c o' e hc=>by rw [ar hc]; exact e
  refine ⟨_,rfl,_,_,rfl,rfl,_,rfl,bc (λh=>?_) (λh=>?_)⟩
  ·exact q 0 a1 b1 _ (.inl rfl) af (hb1.mono (by omega)) (k1 _)
  have h4:¬ r1<4:=λz=>h (decide_eq_true z)
  refine ⟨_,rfl,_,_,rfl,rfl,_,rfl,bc (λh=>?_) (λh=>?_)⟩
  ·have h7:r1<7:=of_decide_eq_true h
   refine ⟨(by show 3<=sizeLine; decide),λq1 n1=>?_⟩
   have pq:p ≠ q1:=al (o:=.lst [.int a1,.int b1]) af n1
   obtain ⟨v,hat,hv⟩:∃ v:Int,atI [V.int 2,V.int 3,V.int 7] (r1-4)=some (.int v)/\gZ v:=by
    have h:r1=4\/r1=5\/r1=6:=by omega
    rcases h with rfl | rfl | rfl
    ·exact ⟨2,rfl,.inr ⟨by decide,by decide,by decide +kernel⟩⟩
    ·exact ⟨3,rfl,.inr ⟨by decide,by decide,by decide +kernel⟩⟩
    ·exact ⟨7,rfl,.inr ⟨by decide,by decide,by decide +kernel⟩⟩
   refine ⟨_,rfl,_,_,rfl,rfl,q1,_,_,_,rfl,rfl,SqL.of af,hat,?_⟩
   exact q v a1 b1 _ hv (by rw [ar pq,af]) (hb1.mono (by omega)) λc o e hc=>by rw [ar (al (k1 _ c o e hc) n1)]; exact k1 _ c o e hc
  ·refine ⟨_,rfl,p,a1,b1,9972,k+1,rfl,af,hb1,by omega,by decide,aD (by decide) (by decide),λr2 a2 b2 r20 r21 hb2=>?_⟩
   refine ⟨_,_,rfl,rfl,?_⟩
   rw [bz]
   refine dW (λσ H'=>∃ n:Int,σ=[some (.ref p),some (.int r1),some (.int n)]/\2<=n/\n<=9973/\gY (upd H p (.lst [.int a2,.int b2])) H') (λσ _=>match σ with | [_,_,some (.int n)]=>n.toNat | _=>0) ⟨_,rfl,by omega,by omega,gY.refl _⟩ ?_ ?_
   ·rintro σ H2 ⟨n,rfl,n2,n9,sm⟩
    refine ⟨_,rfl,n,rfl,λH3 sm3=>⟨_,rfl,?_⟩⟩
    cases hn:eu n with
    | false=>
     refine iteT ⟨_,rfl,_,_,rfl,rfl,⟨_,rfl,?_,by omega,sm.trans sm3⟩,?_⟩
     ·have:n ≠ 2:=λz=>by rw [z,isPb_2] at hn; cases hn
      omega
     ·show (n-1).toNat<n.toNat
      omega
    | true=>
     refine eo ⟨_,rfl,?_⟩
     have s:=sm.trans sm3
     exact q n a2 b2 H3 (.inr ⟨n2,n9,hn⟩) (s _ _ af) hb2 λc o e hc=>s _ _ (k1 _ c o e hc)
   ·rintro σ H Q Q' hq ⟨x,hx,n,e,h⟩
    refine ⟨x,hx,n,e,λH' s=>?_⟩
    obtain ⟨b,hb,z⟩:=h H' s
    exact ⟨b,hb,hq _ _ z⟩
def gi:Sp:=λvs H Q _=>∃ n:Int,vs=[.int n]/\Q (.bl (decide (2<=n/\n<=9973) && eu n)) H
theorem sc_is_prime:g0 ["whole", "divisor"] ["whole"] (aj dj):=.i
theorem ok_isprime {f:Addr} {fd:FuncData} {tk tk2:Tok} (F:Fun K "is_prime" "is_prime" dj f fd) (cLeast:mg "LEAST_PRIME"=some (.int 2 tk)) (cGreatest:mg "GREATEST_PRIME"=some (.int 9973 tk2)):aI P w K mg base CX0 1 f fd ["whole"] gi:=by
 refine F.o sc_is_prime λ_ _ _ _ H _ Q _ hr h=>?_
 ·obtain ⟨n,rfl,q⟩:=h
  refine ⟨_,(ae (aR (PW.pt (pw_or (az op_lt (pv 0) (pe_glob (v:=.int 2) rfl cLeast ⟨_,rfl⟩) (aA _)) (pw_or1 (az da (pv 0) (pe_glob (v:=.int 9973) rfl cGreatest ⟨_,rfl⟩) (aA _)))))
(ah (ao fO))
aC)
(ae (aq (i:=1) sc_is_prime.nd rfl (Or.inl rfl) ac)
(ae (dM PassesOwn.never (az op_le (ai aW (pv 1) (pv 1)) (pv 0) (aA _))
(ae (aR (az bZ (ai aV (pv 0) (pv 1)) ac (aA _))
(ah (ao fO))
aC)
(ah (aq (i:=1) sc_is_prime.nd rfl (Or.inl rfl) (ai bb (pv 1) ac)))))
(ah (ao fO))))),?_⟩
  have no:¬ (2<=n/\n<=9973)->Q (.bl false) H:=λh=>by
   rw [decide_eq_false h,Bool.false_and] at q
   exact q
  refine ⟨_,rfl,_,_,rfl,rfl,_,rfl,bc (λh=>?_) (λh=>?_)⟩
  ·have h1:n<2:=of_decide_eq_true h
   exact iteT (no (by omega))
  have h1:¬ n<2:=λz=>h (decide_eq_true z)
  refine ⟨_,rfl,_,_,rfl,rfl,_,rfl,bc (λh=>?_) (λh=>?_)⟩
  ·have h2:9973<n:=of_decide_eq_true h
   exact no (by omega)
  have h2:¬ 9973<n:=λz=>h (decide_eq_true z)
  rw [decide_eq_true (show 2<=n/\n<=9973 by omega),Bool.true_and] at q
  refine dW (λσ H'=>∃ d:Int,σ=[some (.int n),some (.int d)]/\H'=H/\2<=d/\d<=101/\∀ e,2<=e->e<d->0<n % e) (λσ _=>match σ with | [_,some (.int d)]=>(200-d).toNat | _=>0) ⟨2,rfl,rfl,by omega,by omega,λe h1 h2=>by omega⟩ ?_ ?_
  ·rintro σ H2 ⟨d,rfl,rfl,hd2,hd1,hall⟩
   refine ⟨_,rfl,_,rfl,_,_,rfl,rfl,.inl ⟨by omega,by omega⟩,_,rfl,_,_,rfl,rfl,_,rfl,bc (λh=>?_) (λh=>?_)⟩
   ·have hdd:d*d<=n:=of_decide_eq_true h
    have hd100:d<100:=Int.not_le.mp λz=>by
     have:=Int.mul_le_mul z z (by omega) (by omega)
     omega
    refine ⟨_,rfl,_,rfl,_,_,rfl,rfl,(by show (0:Int)<d; omega),rfl,_,rfl,bc (λh=>?_) (λh=>?_)⟩
    ·have h0:n % d=0:=by
      have:=of_decide_eq_true h
      injection this
     have e:eu n=false:=by
      cases hp:eu n with
      | false=>rfl
      | true=>
       have:=(isPb_iff.mp hp).2 d hd2 hd100 hdd
       omega
     rw [e] at q
     exact q
    ·have h0:n % d ≠ 0:=λz=>h (decide_eq_true (congrArg V.int z))
     have h00:=Int.emod_nonneg n (show d ≠ 0 by omega)
     refine ⟨_,rfl,_,_,rfl,rfl,⟨d+1,rfl,rfl,by omega,by omega,λe e1 e2=>?_⟩,?_⟩
     ·by_cases ee:e=d
      ·rw [ee]; omega
      ·exact hall e e1 (by omega)
     ·show (200-(d+1)).toNat<(200-d).toNat
      omega
   ·have hdd:¬ d*d<=n:=λz=>h (decide_eq_true z)
    have e:eu n=true:=isPb_iff.mpr ⟨by omega,λe e1 e2 e3=>hall e e1 (Int.not_le.mp λz=>by
     have:=Int.mul_le_mul z z (by omega) (by omega)
     omega)⟩
    rw [e] at q
    exact q
  ·rintro σ H Q Q' hq ⟨x,hx,x2,hx2,i,j,e1,e2,c,y,hy,i2,j2,e3,e4,b,hb,h⟩
   exact ⟨x,hx,x2,hx2,i,j,e1,e2,c,y,hy,i2,j2,e3,e4,b,hb,hq _ _ h⟩
def spGcd:Sp:=λvs H Q _=>∃ a b:Int,vs=[.int a,.int b]/\Q (.int (Int.gcd a b)) H
theorem hU:g0 ["one", "other", "first", "second", "rest"] ["one", "other"] (aj bp):=.i
theorem ok_gcd {f:Addr} {fd:FuncData} (F:Fun K "greatest_divisor" "greatest_divisor" bp f fd) (T:Blt mg):aI P w K mg base CX0 1 f fd ["one", "other"] spGcd:=by
 refine F.o hU λ_ _ _ _ H _ Q _ hr h=>?_
 ·obtain ⟨a,b,rfl,q⟩:=h
  refine ⟨_,(ae (aq (i:=2) hU.nd rfl (Or.inl rfl) (gC T (pv 0)))
(ae (aq (i:=3) hU.nd rfl (Or.inl rfl) (gC T (pv 1)))
(ae (dM PassesOwn.never (az op_ne (pv 3) ac (aA _))
(ae (aq (i:=4) hU.nd rfl (Or.inl rfl) (ai aV (pv 2) (pv 3)))
(ae (aq (i:=2) hU.nd rfl (Or.inl rfl) (pv 3))
(ah (aq (i:=3) hU.nd rfl (Or.inl rfl) (pv 4))))))
(ah (ao (pv 2)))))),?_⟩
  refine ⟨_,rfl,_,rfl,_,rfl,_,rfl,?_⟩
  refine dW (λσ H'=>∃ (x y:Nat) (u:Option V),σ=[some (.int a),some (.int b),some (.int x),some (.int y),u]/\H'=H/\Nat.gcd x y=Int.gcd a b) (λσ _=>match σ with | [_,_,_,some (.int y),_]=>y.toNat | _=>0) ⟨a.natAbs,b.natAbs,none,?_,rfl,rfl⟩ ?_ ?_
  ·have e1:(if a<0 then -a else a)=(a.natAbs:Int):=by split<;>omega
   have e2:(if b<0 then -b else b)=(b.natAbs:Int):=by split<;>omega
   rw [e1,e2]
   rfl
  ·rintro σ H2 ⟨x,y,u,rfl,rfl,hg⟩
   refine ⟨_,rfl,rfl,_,rfl,?_⟩
   by_cases hy:y=0
   ·subst hy
    refine iteNS rfl ?_
    rw [Nat.gcd_zero_right] at hg
    subst hg
    exact ⟨_,rfl,q⟩
   ·rw [decide_eq_false (show ¬ V.int (y:Int)=V.int 0 from λz=>by injection z; omega)]
    refine iteT ⟨_,rfl,_,rfl,_,_,rfl,rfl,(by show (0:Int)<(y:Int); omega),_,rfl,_,rfl,⟨y,x % y,some (.int ((x:Int) % (y:Int))),?_,rfl,?_⟩,?_⟩
    ·rfl
    ·rw [<- hg,Nat.gcd_comm x y,Nat.gcd_rec y x,Nat.gcd_comm]
    ·show ((x:Int) % (y:Int)).toNat<(y:Int).toNat
     have h1:=Int.emod_lt_of_pos (x:Int) (show (0:Int)<y by omega)
     have h2:=Int.emod_nonneg (x:Int) (show (y:Int) ≠ 0 by omega)
     omega
  ·rintro σ H Q Q' hq ⟨x,hx,e1,b,hb,h⟩
   exact ⟨x,hx,e1,b,hb,hq _ _ h⟩
def NumsAt (CF CR:Addr) (H:Hp) (x:Addr) (p:Int):Prop:=(p=0/\∃ dx,H x=some (.ins CF dx []))\/(p ≠ 0/\∃ dx,H x=some (.ins CR dx [("modulus",.int p)]))
def gS (CR:Addr):Sp:=λvs H Q _=>∃ (x dx:Addr) (p:Int),vs=[.ref x,.int p]/\H x=some (.ins CR dx [])/\gZ p/\p ≠ 0/\Q .non (upd H x (.ins CR dx [("modulus",.int p)]))
def spNums (CF CR:Addr):Sp:=λvs H Q _=>∃ p:Int,vs=[.int p]/\gZ p/\∀ (x:Addr) (H':Hp),gY H H'->NumsAt CF CR H' x p->Q (.ref x) H'
theorem dL:g0 ["self", "prime"] ["self", "prime"] (aj aL):=.i
theorem ok_rinit {f CR:Addr} {fd:FuncData} (F:Fun K "__init__" "Rests.__init__" aL f fd) (cl:Cls K CR) (nM:NoAttr K CR "modulus") (jX:FnB P w K mg base 1 "is_prime" gi):aI P w K mg base CX0 2 f fd ["self", "prime"] (gS CR):=by
 refine F.o dL λ_ _ _ _ H _ Q _ hr h=>?_
 ·obtain ⟨x,dx,p,rfl,hx,hp,p0,q⟩:=h
  refine ⟨_,(ae (aR (pt_not (fI (ay jX hr.m (aa (pv 1) ag))))
(ah ps_never)
aC)
(ah (ps_fld (pv 0) (pv 1) rfl))),?_⟩
  rcases hp with z | ⟨h1,h2,h3⟩
  ·exact absurd z p0
  refine ⟨_,rfl,p,rfl,_,rfl,?_⟩
  rw [decide_eq_true ⟨h1,h2⟩,h3]
  refine eo ⟨_,rfl,_,rfl,x,CR,dx,[],rfl,hx,cl,nM,(by show 0<1000; decide),?_⟩
  exact q
theorem eT:g0 ["_law_prime_here"] ["_law_prime_here"] (aj bW):=.i
theorem ok_nums {f CF CR:Addr} {fd:FuncData} (F:Fun K "_law_numbers" "_law_numbers" bW f fd) (MFractions:Mk0 K CF) (AFractions:mg "Fractions"=some (.ref CF)) (k0:MkB P w K mg base 2 CR "Rests" (gS CR)):aI P w K mg base CX0 4 f fd ["_law_prime_here"] (spNums CF CR):=by
 refine F.o eT λ_ _ _ _ H _ Q _ hr h=>?_
 ·obtain ⟨p,rfl,hp,q⟩:=h
  refine ⟨_,(ae (aR (az bZ (pv 0) ac (aA _))
(ah (ao (pe_mk0 MFractions AFractions)))
aC)
(ah (ao (pe_mkB k0 hr.m (aa (pv 0) ag))))),?_⟩
  refine ⟨_,rfl,rfl,_,rfl,bc (λh=>?_) (λh=>?_)⟩
  ·have h0:p=0:=by
    have:=of_decide_eq_true h
    injection this
   intro x dx nx ndx ne
   exact q x _ ((gY.new ndx).put nx) (.inl ⟨h0,dx,af⟩)
  ·have h0:p ≠ 0:=λz=>h (decide_eq_true (congrArg V.int z))
   refine ⟨_,rfl,λx dx nx ndx ne=>?_⟩
   refine ⟨x,dx,p,rfl,af,hp,h0,rfl,?_⟩
   exact q x _ (((gY.new ndx).put nx).put nx) (.inr ⟨h0,dx,af⟩)
def NumIs (P:Int) (H:Hp) (v:V):Prop:=(P ≠ 0/\∃ r,v=.int r/\0<=r/\r<P)\/(P=0/\∃ (t:Addr) (n d:Int),v=.ref t/\H t=some (.tup [.int n,.int d])/\0<d/\Int.gcd n d=1/\n.natAbs<10 ^ 31/\d.natAbs<10 ^ 31)
theorem pow31:(10:Nat) ^ 31<2 ^ 5000:=by decide +kernel
theorem pow2000:(2:Nat) ^ 5000<2 ^ 8800:=Nat.pow_lt_pow_right (by decide) (by decide)
def spNumber:Sp:=λvs H Q _=>∃ (p:Addr) (P a b:Int) (g:Bool) (k:Nat),vs=[.int P,.ref p,.bl g]/\gZ P/\H p=some (.lst [.int a,.int b])/\hJ a b k/\k<=700000/\
 ∀ (v:V) (a' b':Int) (H':Hp),NumIs P H' v->H' p=some (.lst [.int a',.int b'])->hJ a' b' (k+8)->(∀ c o,H c=some o->c ≠ p->H' c=some o)->Q v H'
theorem cQ:g0 ["_law_prime_here", "_law_bag_here", "_law_great_here"] ["_law_prime_here", "_law_bag_here", "_law_great_here"] (aj bG):=.i
theorem ok_number {f:Addr} {fd:FuncData} (F:Fun K "_law_number" "_law_number" bG f fd) (T:Blt mg) (iX:FnB P w K mg base 1 "_law_take" cw) (i5:FnB P w K mg base 2 "_law_great" eV) (jh:FnB P w K mg base 3 "_law_signed" fj) (iY:FnB P w K mg base 1 "_law_low" fF) :
  aI P w K mg base CX0 4 f fd ["_law_prime_here", "_law_bag_here", "_law_great_here"] spNumber:=by
 refine F.o cQ λ_ _ _ _ H _ Q _ hr h=>?_
 ·obtain ⟨p,P,a,b,g,k,rfl,hP,hp,hb,hk,q⟩:=h
  refine ⟨_,(ae (aR (az da (pv 0) ac (aA _))
(ah (ao (ay iX hr.m (aa (pv 1) (aa (pv 0) ag)))))
aC)
(ae (aR (fI (pv 2))
(ah (ao (ay iY hr.m (aa (ay jh hr.m (aa (pv 1) ag)) (aa (pl_max T (aa ac (aa (ay i5 hr.m (aa (pv 1) ag)) ag))) ag)))))
aC)
(ah (ao (ay iY hr.m (aa (ai bA (ay iX hr.m (aa (pv 1) (aa ac ag))) ac) (aa (ai bb ac (ai br (ay iX hr.m (aa (pv 1) (aa ac ag))) ac)) ag))))))),?_⟩
  have k1:∀ o c o',H c=some o'->c ≠ p->(upd H p o) c=some o':=λo c o' e hc=>by rw [ar hc]; exact e
  refine ⟨_,rfl,_,_,rfl,rfl,_,rfl,bc (λh=>?_) (λh=>?_)⟩
  ·have h0:0<P:=of_decide_eq_true h
   have h9:P<=9973:=by rcases hP with z | ⟨_,z,_⟩<;>omega
   refine ⟨_,rfl,_,rfl,p,a,b,P,k,rfl,hp,hb,by omega,h0,aD (by omega) (by omega),λr a1 b1 r0 r1 hb1=>?_⟩
   exact q _ a1 b1 _ (.inl ⟨by omega,r,rfl,r0,r1⟩) af (hb1.mono (by omega)) (k1 _)
  have h0:P=0:=by
   have h1:¬ 0<P:=λz=>h (decide_eq_true z)
   rcases hP with z | ⟨z,_⟩<;>omega
  have low:∀ (n d a' b':Int) (t:Addr),0<d->n.natAbs<10 ^ 31->d.natAbs<10 ^ 31->hJ a' b' (k+8)->(upd H p (.lst [.int a',.int b'])) t=none->
    Q (.ref t) (upd (upd H p (.lst [.int a',.int b'])) t (.tup [.int (nrm n d).1,.int (nrm n d).2])):=λn d a' b' t hd hn hd2 hb' ht=>by
   have pt:p ≠ t:=al (o:=.lst [.int a',.int b']) af ht
   have hl:=fR n d (by omega)
   refine q _ a' b' _ (.inr ⟨h0,t,_,_,rfl,af,bS n d (by omega),bQ n d (by omega),Nat.lt_of_le_of_lt hl.1 hn,Nat.lt_of_le_of_lt hl.2 hd2⟩) (by rw [ar pt,af]) hb' λc o e hc=>?_
   rw [ar (al (k1 _ c o e hc) ht)]
   exact k1 _ c o e hc
  have big:∀ d:Int,d.natAbs<10 ^ 31->d.natAbs<2 ^ 8800:=λd h=>Nat.lt_trans h (Nat.lt_trans pow31 pow2000)
  refine ⟨_,rfl,_,rfl,?_⟩
  cases g with
  | true=>
   refine iteT ⟨_,rfl,p,a,b,k,rfl,hp,hb,by omega,λr1 a1 b1 r10 r11 hb1=>?_⟩
   refine ⟨_,rfl,p,a1,b1,k+4,rfl,af,hb1,by omega,λr2 a2 b2 r20 r21 hb2=>?_⟩
   refine ⟨_,_,rfl,?_⟩
   rw [bz]
   have hm:(1:Int)<=(if r2 > 1 then r2 else 1)/\(if r2 > 1 then r2 else 1)<1000000000000000000000000000000:=by split<;>omega
   generalize (if r2 > 1 then r2 else 1)=m at hm
   refine ⟨r1,m,rfl,by omega,big _ (by omega),λt ht=>?_⟩
   exact low r1 m a2 b2 t (by omega) (by omega) (by omega) (hb2.mono (by omega)) ht
  | false=>
   refine eo ⟨_,rfl,p,a,b,7,k,rfl,hp,hb,by omega,by decide,aD (by decide) (by decide),λr1 a1 b1 r10 r11 hb1=>?_⟩
   refine ⟨_,_,rfl,rfl,?_⟩
   refine ⟨_,rfl,p,a1,b1,8,k+1,rfl,af,hb1,by omega,by decide,aD (by decide) (by decide),λr2 a2 b2 r20 r21 hb2=>?_⟩
   refine ⟨_,_,rfl,rfl,dX (by decide) (by decide),_,_,rfl,rfl,?_⟩
   rw [bz]
   have hm:(1:Int)<=1+r2.fdiv 7/\1+r2.fdiv 7<100:=by
    rw [Int.fdiv_eq_ediv_of_nonneg _ (by decide)]
    omega
   refine ⟨r1-3,1+r2.fdiv 7,rfl,by omega,big _ (by omega),λt ht=>?_⟩
   exact low (r1-3) (1+r2.fdiv 7) a2 b2 t (by omega) (by omega) (by omega) (hb2.mono (by omega)) ht
def At (P:Int) (H:Hp) (v:V) (x:Int × Int):Prop:=(P=0/\∃ t,v=.ref t/\H t=some (.tup [.int x.1,.int x.2]))\/(P ≠ 0/\v=.int x.1/\x.2=1)
theorem At.mono {P:Int} {H H':Hp} {v:V} {x:Int × Int} (h:At P H v x) (k:∀ t xs,H t=some (.tup xs)->H' t=some (.tup xs)):At P H' v x:=by
 rcases h with ⟨h0,t,rfl,e⟩ | h
 ·exact .inl ⟨h0,t,rfl,k _ _ e⟩
 ·exact .inr h
theorem At.same {P:Int} {H H':Hp} {v:V} {x:Int × Int} (h:At P H v x) (s:gY H H'):At P H' v x:=h.mono λt xs e=>s _ _ e
theorem pow_1000:(2:Nat) ^ 4300<2 ^ 8800:=Nat.pow_lt_pow_right (by decide) (by decide)
theorem mulSz {a b:Int} (h1:a.natAbs<2 ^ 4300) (h2:b.natAbs<2 ^ 4300):IntMulOk a b:=fu (Nat.lt_trans h1 pow_1000) (Nat.lt_trans h2 pow_1000)
theorem mulSz2 {a b:Int} (h1:a.natAbs<2 ^ 4300) (h2:b.natAbs<2 ^ 4300):(a*b).natAbs<2 ^ 8800:=Nat.lt_of_lt_of_le (gz h1 h2) (gQ (by decide))
theorem gZ.b {P:Int} (h:gZ P):0<=P/\P<=9973/\P ≠ 1:=by
 rcases h with h | ⟨h1,h2,_⟩<;>omega
def f8 (g:Int->Int × Int->Int × Int->Int × Int):Sp:=λvs H Q _=>∃ (P:Int) (u v:V) (x y:Int × Int),vs=[.int P,u,v]/\gZ P/\At P H u x/\At P H v y/\OkN P x/\OkN P y/\Sz 4300 x/\Sz 4300 y/\∀ r H',gY H H'->At P H' r (g P x y)->Q r H'
theorem gM:g0 ["_law_prime_here", "_law_one", "_law_other"] ["_law_prime_here", "_law_one", "_law_other"] (aj cT):=.i
theorem ok_lplus {f:Addr} {fd:FuncData} (F:Fun K "_law_plus" "_law_plus" cT f fd) (iY:FnB P w K mg base 1 "_law_low" fF):aI P w K mg base CX0 2 f fd ["_law_prime_here", "_law_one", "_law_other"] (f8 bj):=by
 refine F.o gM λ_ _ _ _ H _ Q _ hr h=>?_
 ·obtain ⟨P,u,v,x,y,rfl,hP,hu,hv,ox,oy,sx,sy,q⟩:=h
  refine ⟨_,(ae (aR (az bZ (pv 0) ac (aA _))
(ah (ao (ay iY hr.m (aa (ai bb (ai bu (aE (aJ K rfl) (pv 1) ac (λ_ _=>rfl)) (aE (aJ K rfl) (pv 2) ac (λ_ _=>rfl))) (ai bu (aE (aJ K rfl) (pv 2) ac (λ_ _=>rfl)) (aE (aJ K rfl) (pv 1) ac (λ_ _=>rfl)))) (aa (ai bu (aE (aJ K rfl) (pv 1) ac (λ_ _=>rfl)) (aE (aJ K rfl) (pv 2) ac (λ_ _=>rfl))) ag)))))
aC)
(ah (ao (ai aV (ai bb (pv 1) (pv 2)) (pv 0))))),?_⟩
  unfold bj at q
  refine ⟨_,rfl,rfl,_,rfl,bc (λh=>?_) (λh=>?_)⟩
  ·have h0:P=0:=by have:=of_decide_eq_true h; injection this
   rcases hu with ⟨_,s,rfl,hs⟩ | ⟨z,_⟩
   ·rcases hv with ⟨_,t,rfl,ht⟩ | ⟨z,_⟩
    ·rw [if_pos h0] at q
     refine ⟨_,rfl,s,_,_,_,rfl,rfl,SqT.of hs,rfl,_,rfl,t,_,_,_,rfl,rfl,SqT.of ht,rfl,_,_,rfl,rfl,mulSz sx.1 sy.2,_,rfl,t,_,_,_,rfl,rfl,SqT.of ht,rfl,_,rfl,s,_,_,_,rfl,rfl,SqT.of hs,rfl,_,_,rfl,rfl,mulSz sy.1 sx.2,_,_,rfl,rfl,?_⟩
     refine ⟨_,rfl,s,_,_,_,rfl,rfl,SqT.of hs,rfl,_,rfl,t,_,_,_,rfl,rfl,SqT.of ht,rfl,_,_,rfl,rfl,mulSz sx.2 sy.2,_,_,rfl,eX ox.den oy.den,mulSz2 sx.2 sy.2,λr nr=>?_⟩
     exact q _ _ (gY.new nr) (.inl ⟨h0,r,rfl,af⟩)
    ·exact absurd h0 z
   ·exact absurd h0 z
  ·have h0:P ≠ 0:=λz=>h (decide_eq_true (congrArg V.int z))
   have hPp:0<P:=by have:=hP.b; omega
   rcases hu with ⟨z,_⟩ | ⟨_,rfl,_⟩
   ·exact absurd z h0
   ·rcases hv with ⟨z,_⟩ | ⟨_,rfl,_⟩
    ·exact absurd z h0
    ·rw [if_neg h0] at q
     exact ⟨_,rfl,_,rfl,_,_,rfl,rfl,_,rfl,_,_,rfl,rfl,hPp,q _ H (gY.refl H) (.inr ⟨h0,rfl,rfl⟩)⟩
theorem fT:g0 ["_law_prime_here", "_law_one", "_law_other"] ["_law_prime_here", "_law_one", "_law_other"] (aj cq):=.i
theorem ok_ltimes {f:Addr} {fd:FuncData} (F:Fun K "_law_times" "_law_times" cq f fd) (iY:FnB P w K mg base 1 "_law_low" fF):aI P w K mg base CX0 2 f fd ["_law_prime_here", "_law_one", "_law_other"] (f8 aP):=by
 refine F.o fT λ_ _ _ _ H _ Q _ hr h=>?_
 ·obtain ⟨P,u,v,x,y,rfl,hP,hu,hv,ox,oy,sx,sy,q⟩:=h
  refine ⟨_,(ae (aR (az bZ (pv 0) ac (aA _))
(ah (ao (ay iY hr.m (aa (ai bu (aE (aJ K rfl) (pv 1) ac (λ_ _=>rfl)) (aE (aJ K rfl) (pv 2) ac (λ_ _=>rfl))) (aa (ai bu (aE (aJ K rfl) (pv 1) ac (λ_ _=>rfl)) (aE (aJ K rfl) (pv 2) ac (λ_ _=>rfl))) ag)))))
aC)
(ah (ao (ai aV (ai aW (pv 1) (pv 2)) (pv 0))))),?_⟩
  unfold aP at q
  refine ⟨_,rfl,rfl,_,rfl,bc (λh=>?_) (λh=>?_)⟩
  ·have h0:P=0:=by have:=of_decide_eq_true h; injection this
   rcases hu with ⟨_,s,rfl,hs⟩ | ⟨z,_⟩
   ·rcases hv with ⟨_,t,rfl,ht⟩ | ⟨z,_⟩
    ·rw [if_pos h0] at q
     refine ⟨_,rfl,s,_,_,_,rfl,rfl,SqT.of hs,rfl,_,rfl,t,_,_,_,rfl,rfl,SqT.of ht,rfl,_,_,rfl,rfl,mulSz sx.1 sy.1,?_⟩
     refine ⟨_,rfl,s,_,_,_,rfl,rfl,SqT.of hs,rfl,_,rfl,t,_,_,_,rfl,rfl,SqT.of ht,rfl,_,_,rfl,rfl,mulSz sx.2 sy.2,_,_,rfl,eX ox.den oy.den,mulSz2 sx.2 sy.2,λr nr=>?_⟩
     exact q _ _ (gY.new nr) (.inl ⟨h0,r,rfl,af⟩)
    ·exact absurd h0 z
   ·exact absurd h0 z
  ·have h0:P ≠ 0:=λz=>h (decide_eq_true (congrArg V.int z))
   have hb:=hP.b
   have hPp:0<P:=by omega
   rcases hu with ⟨z,_⟩ | ⟨_,rfl,_⟩
   ·exact absurd z h0
   ·rcases hv with ⟨z,_⟩ | ⟨_,rfl,_⟩
    ·exact absurd z h0
    ·rw [if_neg h0] at q
     rcases ox with ⟨z,_⟩ | ⟨_,x0,x1,_⟩
     ·exact absurd z h0
     exact ⟨_,rfl,_,rfl,_,_,rfl,rfl,.inl ⟨by omega,by omega⟩,_,rfl,_,_,rfl,rfl,hPp,q _ H (gY.refl H) (.inr ⟨h0,rfl,rfl⟩)⟩
def fJ:Sp:=λvs H Q _=>∃ P:Int,vs=[.int P]/\gZ P/\∀ r H',gY H H'->At P H' r (0,1)->Q r H'
theorem fB:g0 ["_law_prime_here"] ["_law_prime_here"] (aj cc):=.i
theorem ok_nought {f:Addr} {fd:FuncData} (F:Fun K "_law_nought" "_law_nought" cc f fd) (T:Blt mg):aI P w K mg base CX0 1 f fd ["_law_prime_here"] fJ:=by
 refine F.o fB λ_ _ _ _ H _ Q _ hr h=>?_
 ·obtain ⟨P,rfl,hP,q⟩:=h
  refine ⟨_,(ah (ao (aE (aB K rfl) (bL (aa (en (aa ac (aa ac ag))) (aa ac ag))) (gq call_int1 (by rfl) T.int gn (aa (eZ da (pv 0) ac (aA _)) ag)) (λ_ _=>rfl)))),?_⟩
  refine ⟨(by show 2<=sizeLine; decide),λt nt=>?_⟩
  refine ⟨(by show 2<=sizeLine; decide),λl nl=>?_⟩
  have s1:=gY.new (o:=.tup [.int 0,.int 1]) nt
  have s2:=gY.new (o:=.lst [.ref t,.int 0]) nl
  have hb:=hP.b
  by_cases h0:P=0
  ·refine ⟨_,rfl,_,_,rfl,rfl,.inr ⟨_,rfl,l,_,_,_,rfl,rfl,SqL.of af,(by rw [decide_eq_false (by omega)]; rfl),?_⟩⟩
   exact q _ _ (s1.trans s2) (.inl ⟨h0,t,rfl,s2 _ _ af⟩)
  ·refine ⟨_,rfl,_,_,rfl,rfl,.inr ⟨_,rfl,l,_,_,_,rfl,rfl,SqL.of af,(by rw [decide_eq_true (by omega)]; rfl),?_⟩⟩
   exact q _ _ (s1.trans s2) (.inr ⟨h0,rfl,rfl⟩)
def spLess:Sp:=λvs H Q _=>∃ (P:Int) (u:V) (x:Int × Int),vs=[.int P,u]/\gZ P/\At P H u x/\∀ r H',gY H H'->At P H' r (c7 P x)->Q r H'
theorem gw:g0 ["_law_prime_here", "_law_number_here"] ["_law_prime_here", "_law_number_here"] (aj cL):=.i
theorem ok_less {f:Addr} {fd:FuncData} (F:Fun K "_law_less" "_law_less" cL f fd):aI P w K mg base CX0 1 f fd ["_law_prime_here", "_law_number_here"] spLess:=by
 refine F.o gw λ_ _ _ _ H _ Q _ hr h=>?_
 ·obtain ⟨P,u,x,rfl,hP,hu,q⟩:=h
  refine ⟨_,(ae (aR (az bZ (pv 0) ac (aA _))
(ah (ao (en (aa (ai bA ac (aE (aJ K rfl) (pv 1) ac (λ_ _=>rfl))) (aa (aE (aJ K rfl) (pv 1) ac (λ_ _=>rfl)) ag)))))
aC)
(ah (ao (ai aV (ai bA ac (pv 1)) (pv 0))))),?_⟩
  unfold c7 at q
  refine ⟨_,rfl,rfl,_,rfl,bc (λh=>?_) (λh=>?_)⟩
  ·have h0:P=0:=by have:=of_decide_eq_true h; injection this
   rcases hu with ⟨_,s,rfl,hs⟩ | ⟨z,_⟩
   ·rw [if_pos h0] at q
    refine ⟨_,rfl,s,_,_,_,rfl,rfl,SqT.of hs,rfl,_,_,rfl,rfl,_,rfl,s,_,_,_,rfl,rfl,SqT.of hs,rfl,(by show 2<=sizeLine; decide),λr nr=>?_⟩
    exact q _ _ (gY.new nr) (.inl ⟨h0,r,rfl,af⟩)
   ·exact absurd h0 z
  ·have h0:P ≠ 0:=λz=>h (decide_eq_true (congrArg V.int z))
   have hPp:0<P:=by have:=hP.b; omega
   rcases hu with ⟨z,_⟩ | ⟨_,rfl,_⟩
   ·exact absurd z h0
   ·rw [if_neg h0] at q
    exact ⟨_,rfl,_,_,rfl,rfl,_,rfl,_,_,rfl,rfl,hPp,q _ H (gY.refl H) (.inr ⟨h0,rfl,rfl⟩)⟩
def dN (P:Int) (x:Int × Int):PyData:=if P=0 then eN [x.1,x.2] else .int x.1
theorem dr_at {K:Frag} {P:Int} {H:Hp} {v:V} {x:Int × Int} (h:At P H v x):DR K H (dN P x) v:=by
 unfold dN
 rcases h with ⟨h0,t,rfl,e⟩ | ⟨h0,rfl,_⟩
 ·rw [if_pos h0]
  exact dr_ints (ns:=[x.1,x.2]) (SqT.of e)
 ·rw [if_neg h0]
  exact .int _
theorem gh (P:Int) (x:Int × Int):SeqAt.shaped (dN P x)=true:=by
 unfold dN
 split
 ·exact shaped_ints _
 ·rfl
def gj:Sp:=λvs H Q _=>∃ (p:Addr) (P a b:Int) (k:Nat),vs=[.int P,.ref p,.bl false]/\gZ P/\H p=some (.lst [.int a,.int b])/\hJ a b k/\k<=700000/\
 ∀ (v:V) (x:Int × Int) (a' b':Int) (H':Hp),At P H' v x->OkN P x->(P=0->Sz 2 x)->H' p=some (.lst [.int a',.int b'])->hJ a' b' (k+2)->(∀ c o,H c=some o->c ≠ p->H' c=some o)->Q v H'
theorem ok_number0 {f:Addr} {fd:FuncData} (F:Fun K "_law_number" "_law_number" bG f fd) (T:Blt mg) (iX:FnB P w K mg base 1 "_law_take" cw) (i5:FnB P w K mg base 2 "_law_great" eV) (jh:FnB P w K mg base 3 "_law_signed" fj) (iY:FnB P w K mg base 1 "_law_low" fF) :
  aI P w K mg base CX0 4 f fd ["_law_prime_here", "_law_bag_here", "_law_great_here"] gj:=by
 refine F.o cQ λ_ _ _ _ H _ Q _ hr h=>?_
 ·obtain ⟨p,P,a,b,k,rfl,hP,hp,hb,hk,q⟩:=h
  refine ⟨_,(ae (aR (az da (pv 0) ac (aA _))
(ah (ao (ay iX hr.m (aa (pv 1) (aa (pv 0) ag)))))
aC)
(ae (aR (fI (pv 2))
(ah (ao (ay iY hr.m (aa (ay jh hr.m (aa (pv 1) ag)) (aa (pl_max T (aa ac (aa (ay i5 hr.m (aa (pv 1) ag)) ag))) ag)))))
aC)
(ah (ao (ay iY hr.m (aa (ai bA (ay iX hr.m (aa (pv 1) (aa ac ag))) ac) (aa (ai bb ac (ai br (ay iX hr.m (aa (pv 1) (aa ac ag))) ac)) ag))))))),?_⟩
  have k1:∀ o c o',H c=some o'->c ≠ p->(upd H p o) c=some o':=λo c o' e hc=>by rw [ar hc]; exact e
  refine ⟨_,rfl,_,_,rfl,rfl,_,rfl,bc (λh=>?_) (λh=>?_)⟩
  ·have h0:0<P:=of_decide_eq_true h
   have h9:P<=9973:=by rcases hP with z | ⟨_,z,_⟩<;>omega
   refine ⟨_,rfl,_,rfl,p,a,b,P,k,rfl,hp,hb,by omega,h0,aD (by omega) (by omega),λr a1 b1 r0 r1 hb1=>?_⟩
   exact q _ (r,1) a1 b1 _ (.inr ⟨by omega,rfl,rfl⟩) (.inr ⟨by omega,r0,r1,rfl⟩) (λz=>absurd z (by omega)) af (hb1.mono (by omega)) (k1 _)
  have h0:P=0:=by
   have h1:¬ 0<P:=λz=>h (decide_eq_true z)
   rcases hP with z | ⟨z,_⟩<;>omega
  refine ⟨_,rfl,_,rfl,?_⟩
  refine eo ⟨_,rfl,p,a,b,7,k,rfl,hp,hb,by omega,by decide,aD (by decide) (by decide),λr1 a1 b1 r10 r11 hb1=>?_⟩
  refine ⟨_,_,rfl,rfl,?_⟩
  refine ⟨_,rfl,p,a1,b1,8,k+1,rfl,af,hb1,by omega,by decide,aD (by decide) (by decide),λr2 a2 b2 r20 r21 hb2=>?_⟩
  refine ⟨_,_,rfl,rfl,dX (by decide) (by decide),_,_,rfl,rfl,?_⟩
  rw [bz]
  have hm:(1:Int)<=1+r2.fdiv 7/\1+r2.fdiv 7<4:=by
   rw [Int.fdiv_eq_ediv_of_nonneg _ (by decide)]
   omega
  refine ⟨r1-3,1+r2.fdiv 7,rfl,by omega,aD (by omega) (by omega),λt ht=>?_⟩
  generalize 1+r2.fdiv 7=dd at *
  have pt:p ≠ t:=al (o:=.lst [.int a2,.int b2]) af ht
  have hl:=fR (r1-3) dd (by omega)
  refine q _ (nrm (r1-3) dd) a2 b2 _ (.inl ⟨h0,t,rfl,af⟩) (.inl ⟨h0,bS _ _ (by omega),bQ _ _ (by omega)⟩) (λ_=>⟨Nat.lt_of_le_of_lt hl.1 (by show (r1-3).natAbs<4; omega),Nat.lt_of_le_of_lt hl.2 (by show dd.natAbs<4; omega)⟩) (by rw [ar pt,af]) (hb2.mono (by omega)) λc o e hc=>?_
  rw [ar (al (k1 _ c o e hc) ht)]
  exact k1 _ c o e hc
abbrev c6:=List Int × (Int × Int)
def lstep (P:Int) (m:List c6) (p:c6):List c6:=aput m p.1 (bj P ((eU m p.1).getD (0,1)) p.2)
def acc (P:Int) (ps:List c6):List c6:=ps.foldl (lstep P) []
theorem acc_ok {P:Int} (hP:0<=P) (h1:P ≠ 1) {ps:List c6} (h:∀ p ∈ ps,OkN P p.2):∀ p ∈ acc P ps,OkN P p.2:=by
 unfold acc
 have go:∀ (ps m:List c6),(∀ p ∈ ps,OkN P p.2)->(∀ p ∈ m,OkN P p.2)->∀ p ∈ ps.foldl (lstep P) m,OkN P p.2:=by
  intro ps
  induction ps with
  | nil=>intro m _ h; exact h
  | cons p ps ih=>
   intro m hp hm
   refine ih _ (λq hq=>hp q (by simp [hq])) λq hq=>?_
   rcases aput_mem hq with z | z
   ·rw [z]
    refine dA hP ?_ (hp p (by simp))
    cases e:eU m p.1 with
    | none=>exact bU hP h1
    | some y=>exact hm _ (aval_mem e)
   ·exact hm q z
 exact go ps [] h (λp hp=>nomatch hp)
theorem eqv_dN2 {P:Int} {x y:Int × Int} (hx:OkN P x) (hy:OkN P y):PyData.eqv (dN P x) (dN P y)=decide (x=y):=by
 unfold dN
 by_cases h0:P=0
 ·rw [if_pos h0,if_pos h0,eqv_ints]
  apply decide_eq_decide.mpr
  constructor
  ·intro z
   injection z with z1 z2
   injection z2 with z2
   exact Prod.ext z1 z2
  ·intro z; rw [z]
 ·rw [if_neg h0,if_neg h0]
  rcases hx with ⟨z,_⟩ | ⟨_,_,_,x2⟩
  ·exact absurd z h0
  rcases hy with ⟨z,_⟩ | ⟨_,_,_,y2⟩
  ·exact absurd z h0
  have e:PyData.eqv (.int x.1) (.int y.1)=decide (x.1=y.1):=by simp only [PyData.eqv]; rfl
  rw [e]
  apply decide_eq_decide.mpr
  exact ⟨λz=>Prod.ext z (x2.trans y2.symm),λz=>by rw [z]⟩
theorem add_zero_l {P:Int} {x:Int × Int} (h:OkN P x):bj P (0,1) x=x:=by
 unfold bj
 rcases h with ⟨h0,hd,hg⟩ | ⟨h0,a,b,c⟩
 ·rw [if_pos h0]
  show nrm (0*x.2+x.1*1) (1*x.2)=x
  rw [Int.zero_mul,Int.zero_add,Int.mul_one,Int.one_mul]
  exact (fC x.1 x.2 hd).mpr hg
 ·rw [if_neg h0]
  show ((0+x.1) % P,1)=x
  rw [Int.zero_add,Int.emod_eq_of_lt a b]
  exact Prod.ext rfl c.symm
theorem ak {α β:Type} {R S:α->β->Prop} (h:∀ x y,R x y->S x y):∀ {xs:List α} {ys:List β},Paired R xs ys->Paired S xs ys
 | _,_,.nil=>.nil
 | _,_,.cons q r=>.cons (h _ _ q) (ak h r)
theorem aG {α β:Type} {R:α->β->Prop}:∀ {xs:List α} {ys:List β} {i:Nat} {x:α},Paired R xs ys->xs[i]? = some x->∃ y,ys[i]? = some y/\R x y
 | _,_,0,x,.cons q r,e=>by cases e; exact ⟨_,rfl,q⟩
 | _::_,_::_,i+1,x,.cons q r,e=>aG (i:=i) r e
theorem aK {α β:Type} {R:α->β->Prop} {x:α} {y:β} (h:R x y):∀ {xs:List α} {ys:List β},Paired R xs ys->Paired R (xs++[x]) (ys++[y])
 | _,_,.nil=>.cons h .nil
 | _,_,.cons q r=>.cons q (aK h r)
def fpl (a b:Int × Int):Int × Int:=if a.2=b.2 then (a.1+b.1,a.2) else (a.1*(b.2.fdiv (Int.gcd a.2 b.2:Int))+b.1*(a.2.fdiv (Int.gcd a.2 b.2:Int)),a.2*(b.2.fdiv (Int.gcd a.2 b.2:Int)))
def val (P:Int) (x:Int × Int):Int × Int:=if P=0 then nrm x.1 x.2 else (x.1 % P,1)
theorem gg {g u:Int} (hg:0<g) (h:0<g*u):0<u:=by
 rcases Int.lt_or_le 0 u with z | z
 ·exact z
 ·have:=Int.mul_le_mul_of_nonneg_left z (show 0<=g by omega)
  rw [Int.mul_zero] at this
  omega
theorem fdiv_gcd {a b:Int} (ha:0<a) (hb:0<b):a=(Int.gcd a b:Int)*a.fdiv (Int.gcd a b:Int)/\b=(Int.gcd a b:Int)*b.fdiv (Int.gcd a b:Int)/\0<(Int.gcd a b:Int)/\0<a.fdiv (Int.gcd a b:Int)/\0<b.fdiv (Int.gcd a b:Int):=by
 have hg:0<Int.gcd a b:=Int.gcd_pos_of_ne_zero_left b (by omega)
 have hg':(0:Int)<(Int.gcd a b:Int):=by omega
 obtain ⟨u,hu⟩:=Int.gcd_dvd_left (a:=a) (b:=b)
 obtain ⟨v,hv⟩:=Int.gcd_dvd_right (a:=a) (b:=b)
 have e1:a.fdiv (Int.gcd a b:Int)=u:=by
  have:((Int.gcd a b:Int)*u).fdiv (Int.gcd a b:Int)=u:=Int.mul_fdiv_cancel_left u (by omega)
  rw [<- hu] at this; exact this
 have e2:b.fdiv (Int.gcd a b:Int)=v:=by
  have:((Int.gcd a b:Int)*v).fdiv (Int.gcd a b:Int)=v:=Int.mul_fdiv_cancel_left v (by omega)
  rw [<- hv] at this; exact this
 rw [e1,e2]
 refine ⟨hu,hv,hg',?_,?_⟩
 ·exact gg hg' (by rw [<- hu]; exact ha)
 ·exact gg hg' (by rw [<- hv]; exact hb)
theorem val_ok {P:Int} {x:Int × Int} (hP:0<=P) (h:0<x.2):OkN P (val P x):=by
 unfold val
 split
 ·rename_i e; subst e; exact ff (by omega)
 ·exact dJ hP ‹_›
def gstep (m:List c6) (q:c6):List c6:=aput m q.1 (match eU m q.1 with | some y=>fpl y q.2 | none=>q.2)
def gath (ts:List c6):List c6:=ts.foldl gstep []
theorem gath_take {ts:List c6} {i:Nat} {p:c6} (h:ts[i]? = some p):gath (ts.take (i+1))=gstep (gath (ts.take i)) p:=by
 unfold gath
 rw [take_add_one,h,List.foldl_append]
 rfl
theorem gath_len (ts:List c6):∀ i,(gath (ts.take i)).length<=i
 | 0=>by simp [gath]
 | i+1=>by
  cases e:ts[i]? with
  | none=>
   have h1:ts.take (i+1)=ts.take i:=by rw [take_add_one,e]; simp
   rw [h1]
   have:=gath_len ts i
   omega
  | some q=>
   rw [gath_take e]
   have h1:=gath_len ts i
   have h2:=aput_len (gath (ts.take i)) q.1 (match eU (gath (ts.take i)) q.1 with | some y=>fpl y q.2 | none=>q.2)
   unfold gstep
   omega
structure CS (R:Type) where
 add:R->R->R
 mul:R->R->R
 zero:R
 one:R
 add_comm:∀ x y,add x y=add y x
 add_assoc:∀ x y z,add (add x y) z=add x (add y z)
 zero_add:∀ x,add zero x=x
 mul_comm:∀ x y,mul x y=mul y x
 mul_assoc:∀ x y z,mul (mul x y) z=mul x (mul y z)
 one_mul:∀ x,mul one x=x
 zero_mul:∀ x,mul zero x=zero
 mul_add:∀ x y z,mul x (add y z)=add (mul x y) (mul x z)
namespace CS
variable {R:Type} (S:CS R)
theorem add_zero (x:R):S.add x S.zero=x:=by rw [S.add_comm,S.zero_add]
theorem mul_zero (x:R):S.mul x S.zero=S.zero:=by rw [S.mul_comm,S.zero_mul]
theorem add_mul (x y z:R):S.mul (S.add x y) z=S.add (S.mul x z) (S.mul y z):=by rw [S.mul_comm,S.mul_add,S.mul_comm z,S.mul_comm z]
theorem add4 (a b c d:R):S.add (S.add a b) (S.add c d)=S.add (S.add a c) (S.add b d):=by
 rw [S.add_assoc,S.add_assoc,<- S.add_assoc b,S.add_comm b c,S.add_assoc c]
end CS
theorem du {a b c d:Int} (hb:b ≠ 0) (hd:d ≠ 0) (e:a*d=c*b):nrm a b=nrm c d:=by
 have e1:=eG a b hb
 have e2:=eG c d hd
 have key:(nrm a b).1*(nrm c d).2=(nrm c d).1*(nrm a b).2:=by
  generalize nrm a b=x at *
  generalize nrm c d=y at *
  obtain ⟨n1,m1⟩:=x
  obtain ⟨n2,m2⟩:=y
  simp only at *
  have hbd:b*d ≠ 0:=Int.mul_ne_zero hb hd
  apply Int.eq_of_mul_eq_mul_right hbd
  grind
 obtain ⟨p,q⟩:=low_one (bS a b hb) (bS c d hd) (bQ a b hb) (bQ c d hd) key
 exact Prod.ext p q
def Raw (P:Int) (x:Int × Int):Prop:=0<x.2/\(P ≠ 0->x.2=1)
theorem am {P:Int} {x:Int × Int} (h:OkN P x):Raw P x:=by
 rcases h with ⟨h0,h1,_⟩ | ⟨h0,_,_,h3⟩
 ·exact ⟨h1,λz=>absurd h0 z⟩
 ·exact ⟨by omega,λ_=>h3⟩
theorem ba {P:Int} {x:Int × Int} (h:OkN P x):_root_.K.val P x=x:=by
 unfold _root_.K.val
 rcases h with ⟨h0,h1,h2⟩ | ⟨h0,h1,h2,h3⟩
 ·rw [if_pos h0]
  exact (fC x.1 x.2 h1).mpr h2
 ·rw [if_neg h0,Int.emod_eq_of_lt h1 h2]
  exact Prod.ext rfl h3.symm
theorem aN {P:Int} {x y:Int × Int} (hx:Raw P x) (hy:Raw P y) (e:x.1*y.2=y.1*x.2):val P x=val P y:=by
 unfold val
 by_cases h0:P=0
 ·rw [if_pos h0,if_pos h0]
  exact du (by have:=hx.1; omega) (by have:=hy.1; omega) e
 ·rw [if_neg h0,if_neg h0]
  rw [hx.2 h0,hy.2 h0,Int.mul_one,Int.mul_one] at e
  rw [e]
theorem e9 {x:Int × Int} (hx:0<x.2):Raw 0 (nrm x.1 x.2)/\(nrm x.1 x.2).1*x.2=x.1*(nrm x.1 x.2).2:=⟨⟨bS _ _ (by omega),λz=>absurd rfl z⟩,eG _ _ (by omega)⟩
theorem dO {P:Int} {x y:Int × Int} (hx:Raw P x) (hy:Raw P y):bj P (val P x) (val P y)=val P (x.1*y.2+y.1*x.2,x.2*y.2):=by
 by_cases h0:P=0
 ·subst h0
  have e1:val 0 x=nrm x.1 x.2:=by unfold val; rw [if_pos rfl]
  have e2:val 0 y=nrm y.1 y.2:=by unfold val; rw [if_pos rfl]
  obtain ⟨a1,a2⟩:=e9 hx.1
  obtain ⟨b1,b2⟩:=e9 hy.1
  rw [e1,e2]
  unfold bj val
  rw [if_pos rfl,if_pos rfl]
  generalize nrm x.1 x.2=u at *
  generalize nrm y.1 y.2=v at *
  have:=Int.mul_pos a1.1 b1.1
  have:=Int.mul_pos hx.1 hy.1
  refine du (by omega) (by omega) ?_
  grind
 ·unfold bj val
  rw [if_neg h0,if_neg h0,if_neg h0,if_neg h0]
  refine Prod.ext ?_ rfl
  show (x.1 % P+y.1 % P) % P=(x.1*y.2+y.1*x.2) % P
  rw [hx.2 h0,hy.2 h0,Int.mul_one,Int.mul_one,<- Int.add_emod]
theorem ck {P:Int} {x y:Int × Int} (hx:Raw P x) (hy:Raw P y):aP P (val P x) (val P y)=val P (x.1*y.1,x.2*y.2):=by
 by_cases h0:P=0
 ·subst h0
  have e1:val 0 x=nrm x.1 x.2:=by unfold val; rw [if_pos rfl]
  have e2:val 0 y=nrm y.1 y.2:=by unfold val; rw [if_pos rfl]
  obtain ⟨a1,a2⟩:=e9 hx.1
  obtain ⟨b1,b2⟩:=e9 hy.1
  rw [e1,e2]
  unfold aP val
  rw [if_pos rfl,if_pos rfl]
  generalize nrm x.1 x.2=u at *
  generalize nrm y.1 y.2=v at *
  have:=Int.mul_pos a1.1 b1.1
  have:=Int.mul_pos hx.1 hy.1
  refine du (by omega) (by omega) ?_
  grind
 ·unfold aP val
  rw [if_neg h0,if_neg h0,if_neg h0,if_neg h0]
  refine Prod.ext ?_ rfl
  show (x.1 % P*(y.1 % P)) % P=(x.1*y.1) % P
  rw [<- Int.mul_emod]
theorem bH {P:Int} {x y:Int × Int} (hx:Raw P x) (hy:Raw P y):Raw P (x.1*y.2+y.1*x.2,x.2*y.2):=
 ⟨Int.mul_pos hx.1 hy.1,λh=>by show x.2*y.2=1; rw [hx.2 h,hy.2 h]; rfl⟩
theorem a9 {P:Int} {x y:Int × Int} (hx:Raw P x) (hy:Raw P y):Raw P (x.1*y.1,x.2*y.2):=
 ⟨Int.mul_pos hx.1 hy.1,λh=>by show x.2*y.2=1; rw [hx.2 h,hy.2 h]; rfl⟩
abbrev Nb (P:Int):={ x:Int × Int // OkN P x }
theorem okN_1 {P:Int} (hP:gZ P):OkN P (1,1):=by
 have hB:=hP.b
 by_cases h0:P=0
 ·exact .inl ⟨h0,by decide,rfl⟩
 ·exact .inr ⟨h0,by decide,by show (1:Int)<P; omega,rfl⟩
theorem cg {P:Int} {x y:Int × Int} (hx:OkN P x) (hy:OkN P y):bj P x y=val P (x.1*y.2+y.1*x.2,x.2*y.2):=by
 have:=dO (am hx) (am hy)
 rwa [ba hx,ba hy] at this
theorem bv {P:Int} {x y:Int × Int} (hx:OkN P x) (hy:OkN P y):aP P x y=val P (x.1*y.1,x.2*y.2):=by
 have:=ck (am hx) (am hy)
 rwa [ba hx,ba hy] at this
def nb {P:Int} (hP:gZ P):CS (Nb P) where
 add x y:=⟨bj P x.1 y.1,dA hP.b.1 x.2 y.2⟩
 mul x y:=⟨aP P x.1 y.1,bJ hP.b.1 x.2 y.2⟩
 zero:=⟨(0,1),bU hP.b.1 hP.b.2.2⟩
 one:=⟨(1,1),okN_1 hP⟩
 add_comm x y:=Subtype.ext (by
  show bj P x.1 y.1=bj P y.1 x.1
  rw [cg x.2 y.2,cg y.2 x.2]
  exact aN (bH (am x.2) (am y.2)) (bH (am y.2) (am x.2)) (by dsimp only; grind))
 add_assoc x y z:=Subtype.ext (by
  show bj P (bj P x.1 y.1) z.1=bj P x.1 (bj P y.1 z.1)
  have e1:=cg x.2 y.2
  have e2:=cg y.2 z.2
  have a:=bH (am x.2) (am y.2)
  have b:=bH (am y.2) (am z.2)
  have f1:=dO a (am z.2)
  have f2:=dO (am x.2) b
  rw [<- e1,ba z.2] at f1
  rw [<- e2,ba x.2] at f2
  rw [f1,f2]
  exact aN (bH a (am z.2)) (bH (am x.2) b) (by dsimp only; grind))
 zero_add x:=Subtype.ext (add_zero_l x.2)
 mul_comm x y:=Subtype.ext (by
  show aP P x.1 y.1=aP P y.1 x.1
  rw [bv x.2 y.2,bv y.2 x.2]
  exact aN (a9 (am x.2) (am y.2)) (a9 (am y.2) (am x.2)) (by dsimp only; grind))
 mul_assoc x y z:=Subtype.ext (by
  show aP P (aP P x.1 y.1) z.1=aP P x.1 (aP P y.1 z.1)
  have e1:=bv x.2 y.2
  have e2:=bv y.2 z.2
  have a:=a9 (am x.2) (am y.2)
  have b:=a9 (am y.2) (am z.2)
  have f1:=ck a (am z.2)
  have f2:=ck (am x.2) b
  rw [<- e1,ba z.2] at f1
  rw [<- e2,ba x.2] at f2
  rw [f1,f2]
  exact aN (a9 a (am z.2)) (a9 (am x.2) b) (by dsimp only; grind))
 one_mul x:=Subtype.ext (by
  show aP P (1,1) x.1=x.1
  rw [bv (okN_1 hP) x.2]
  show val P (1*x.1.1,1*x.1.2)=x.1
  rw [Int.one_mul,Int.one_mul]
  exact ba x.2)
 zero_mul x:=Subtype.ext (by
  show aP P (0,1) x.1=(0,1)
  have hz:OkN P (0,1):=bU hP.b.1 hP.b.2.2
  rw [bv hz x.2]
  refine (aN (a9 (am hz) (am x.2)) (am hz) ?_).trans (ba hz)
  dsimp only
  grind)
 mul_add x y z:=Subtype.ext (by
  show aP P x.1 (bj P y.1 z.1)=bj P (aP P x.1 y.1) (aP P x.1 z.1)
  have a:=bH (am y.2) (am z.2)
  have b:=a9 (am x.2) (am y.2)
  have d:=a9 (am x.2) (am z.2)
  have f1:=ck (am x.2) a
  have f2:=dO b d
  rw [<- cg y.2 z.2,ba x.2] at f1
  rw [<- bv x.2 y.2,<- bv x.2 z.2] at f2
  rw [f1,f2]
  exact aN (a9 (am x.2) a) (bH b d) (by dsimp only; grind))
def Rw (B M:Nat) (x:Int × Int):Prop:=0<x.2/\x.2.natAbs ∣ B/\x.1.natAbs<=M*x.2.natAbs
theorem Rw.mono {B C M N:Nat} {x:Int × Int} (h:Rw B M x) (h1:B ∣ C) (h2:M<=N):Rw C N x:=
 ⟨h.1,Nat.dvd_trans h.2.1 h1,Nat.le_trans h.2.2 (Nat.mul_le_mul_right _ h2)⟩
theorem Rw.sz {B M z:Nat} {x:Int × Int} (h:Rw B M x) (hB:0<B) (hM:1<=M) (hz:M*B<2 ^ z):Sz z x:=by
 have h1:x.2.natAbs<=B:=Nat.le_of_dvd hB h.2.1
 have h2:M*x.2.natAbs<=M*B:=Nat.mul_le_mul_left _ h1
 have h3:B<=M*B:=Nat.le_mul_of_pos_left _ hM
 exact ⟨Nat.lt_of_le_of_lt (Nat.le_trans h.2.2 h2) hz,by omega⟩
theorem dvd_cop {n d b a:Int} (hg:Int.gcd n d=1) (e:n*b=a*d):d.natAbs ∣ b.natAbs:=by
 have h1:d.natAbs ∣ n.natAbs*b.natAbs:=by
  rw [<- Int.natAbs_mul,e,Int.natAbs_mul]
  exact Nat.dvd_mul_left _ _
 exact Nat.Coprime.dvd_of_dvd_mul_left (Nat.Coprime.symm (show Nat.gcd n.natAbs d.natAbs=1 from hg)) h1
theorem rw_low {B M:Nat} {a b:Int} {u:Int × Int} (hb:0<b) (hd:0<u.2) (hg:Int.gcd u.1 u.2=1) (e:u.1*b=a*u.2) (hB:∃ c:Int,u.1*B=c*u.2) (ha:a.natAbs<=M*b.natAbs):Rw B M u:=by
 obtain ⟨c,hc⟩:=hB
 refine ⟨hd,by simpa using dvd_cop hg hc,?_⟩
 have e1:u.1.natAbs*b.natAbs=a.natAbs*u.2.natAbs:=by rw [<- Int.natAbs_mul,e,Int.natAbs_mul]
 have hb':0<b.natAbs:=by omega
 refine Nat.le_of_mul_le_mul_right (c:=b.natAbs) ?_ hb'
 rw [e1]
 calc a.natAbs*u.2.natAbs<=M*b.natAbs*u.2.natAbs:=Nat.mul_le_mul_right _ ha
  _=M*u.2.natAbs*b.natAbs:=by ac_rfl
theorem rw_nrm {B M:Nat} {x:Int × Int} (h:Rw B M x):Rw B M (nrm x.1 x.2):=by
 have h0:=h.1
 have hb:x.2 ≠ 0:=by omega
 have e:=eG x.1 x.2 hb
 obtain ⟨k,hk⟩:=h.2.1
 refine rw_low (a:=x.1) (b:=x.2) h0 (bS _ _ hb) (bQ _ _ hb) e ⟨x.1*k,?_⟩ h.2.2
 have hB:(B:Int)=x.2*k:=by rw [hk]; rw [Int.natCast_mul,Int.natAbs_of_nonneg (by omega)]
 rw [hB]
 generalize nrm x.1 x.2=u at *
 have f1:u.1*(x.2*k)=u.1*x.2*k:=by ac_rfl
 have f2:x.1*u.2*k=x.1*k*u.2:=by ac_rfl
 rw [f1,e,f2]
theorem rw_key {u v a b c d k l B:Int} (e:u*(b*d)=(a*d+c*b)*v) (h1:B=b*k) (h2:B=d*l):u*B*(b*d)=(a*k+c*l)*v*(b*d):=by
 have f1:u*B*(b*d)=(u*(b*d))*B:=by ac_rfl
 have f2:(a*d+c*b)*v*B=a*d*v*B+c*b*v*B:=by rw [Int.add_mul,Int.add_mul]
 have f3:a*d*v*B=a*k*(v*(b*d)):=by rw [h1]; ac_rfl
 have f4:c*b*v*B=c*l*(v*(b*d)):=by rw [h2]; ac_rfl
 rw [f1,e,f2,f3,f4,<- Int.add_mul,Int.mul_assoc]
theorem rw_mod {B M:Nat} {P a:Int} (hP:0<=P) (h0:P ≠ 0) (h9:P<=9973) (hM:2 ^ 14<=M):Rw B M (a % P,1):=by
 refine ⟨Int.one_pos,Nat.one_dvd _,?_⟩
 have h1:=Int.emod_nonneg a h0
 have h2:=Int.emod_lt_of_pos a (show 0<P by omega)
 show (a % P).natAbs<=M*1
 have:(2:Nat) ^ 14=16384:=rfl
 omega
theorem rw_addN {P:Int} {B M N:Nat} {x y:Int × Int} (hP:gZ P) (hM:2 ^ 14<=M) (hx:Rw B M x) (hy:Rw B N y):Rw B (M+N) (bj P x y):=by
 have hB:=hP.b
 unfold bj
 split
 ·have px:=hx.1
  have py:=hy.1
  have pd:=Int.mul_pos px py
  have hb:x.2*y.2 ≠ 0:=by omega
  have e:=eG (x.1*y.2+y.1*x.2) (x.2*y.2) hb
  obtain ⟨k,hk⟩:=hx.2.1
  obtain ⟨l,hl⟩:=hy.2.1
  have h1:(B:Int)=x.2*k:=by rw [hk]; rw [Int.natCast_mul,Int.natAbs_of_nonneg (by omega)]
  have h2:(B:Int)=y.2*l:=by rw [hl]; rw [Int.natCast_mul,Int.natAbs_of_nonneg (by omega)]
  refine rw_low pd (bS _ _ hb) (bQ _ _ hb) e ⟨x.1*k+y.1*l,?_⟩ ?_
  ·generalize nrm (x.1*y.2+y.1*x.2) (x.2*y.2)=u at *
   exact Int.eq_of_mul_eq_mul_right hb (rw_key e h1 h2)
  ·rw [Int.natAbs_mul]
   calc (x.1*y.2+y.1*x.2).natAbs<=(x.1*y.2).natAbs+(y.1*x.2).natAbs:=Int.natAbs_add_le _ _
    _=x.1.natAbs*y.2.natAbs+y.1.natAbs*x.2.natAbs:=by rw [Int.natAbs_mul,Int.natAbs_mul]
    _<=M*x.2.natAbs*y.2.natAbs+N*y.2.natAbs*x.2.natAbs:=Nat.add_le_add (Nat.mul_le_mul_right _ hx.2.2) (Nat.mul_le_mul_right _ hy.2.2)
    _=(M+N)*(x.2.natAbs*y.2.natAbs):=by rw [Nat.add_mul]; congr 1<;>ac_rfl
 ·exact rw_mod hB.1 ‹_› hB.2.1 (by omega)
theorem rw_raw {B C M N:Nat} {x y:Int × Int} (hx:Rw B M x) (hy:Rw C N y):Rw (B*C) (M*N) (x.1*y.1,x.2*y.2):=by
 refine ⟨Int.mul_pos hx.1 hy.1,?_,?_⟩
 ·show (x.2*y.2).natAbs ∣ B*C
  rw [Int.natAbs_mul]
  exact Nat.mul_dvd_mul hx.2.1 hy.2.1
 ·show (x.1*y.1).natAbs<=M*N*(x.2*y.2).natAbs
  rw [Int.natAbs_mul,Int.natAbs_mul]
  calc x.1.natAbs*y.1.natAbs<=(M*x.2.natAbs)*(N*y.2.natAbs):=Nat.mul_le_mul hx.2.2 hy.2.2
   _=M*N*(x.2.natAbs*y.2.natAbs):=by ac_rfl
theorem gR {P:Int} {B C M N:Nat} {x y:Int × Int} (hP:gZ P) (hM:2 ^ 14<=M*N) (hx:Rw B M x) (hy:Rw C N y):Rw (B*C) (M*N) (aP P x y):=by
 have hB:=hP.b
 unfold aP
 split
 ·exact rw_nrm (rw_raw hx hy)
 ·exact rw_mod hB.1 ‹_› hB.2.1 hM
theorem rw_list {P:Int} {z:Nat}:∀ {ps:List c6},(∀ p ∈ ps,OkN P p.2/\Sz z p.2)->∃ B,0<B/\B<=2 ^ (z*ps.length)/\∀ p ∈ ps,Rw B (2 ^ z) p.2
 | [],_=>⟨1,by decide,by simp,λp hp=>nomatch hp⟩
 | p::ps,h=>by
  obtain ⟨B,h1,h2,h3⟩:=rw_list (ps:=ps) λq hq=>h q (by simp [hq])
  obtain ⟨op,sp⟩:=h p (by simp)
  have dp:=op.den
  refine ⟨p.2.2.natAbs*B,Nat.mul_pos (by omega) h1,?_,λq hq=>?_⟩
  ·rw [length_cons,Nat.mul_add,Nat.mul_one,Nat.add_comm,Nat.pow_add]
   exact Nat.mul_le_mul (Nat.le_of_lt sp.2) h2
  ·rcases List.mem_cons.mp hq with rfl | hq
   ·refine ⟨dp,Nat.dvd_mul_right _ _,Nat.le_trans (Nat.le_of_lt sp.1) (Nat.le_mul_of_pos_right _ (by omega))⟩
   ·exact (h3 q hq).mono (Nat.dvd_mul_left _ _) (Nat.le_refl _)
theorem cop_of {p f:Int} (h2:2<=p) (h9:p<=9973) (hp:eu p=true) (f0:0<f) (f1:f<p):Int.gcd p f=1:=by
 have hg0:0<Int.gcd p f:=Int.gcd_pos_of_ne_zero_left f (by omega)
 have hgp:((Int.gcd p f:Nat):Int) ∣ p:=Int.gcd_dvd_left ..
 have hgf:((Int.gcd p f:Nat):Int) ∣ f:=Int.gcd_dvd_right ..
 generalize Int.gcd p f=g at *
 have gle:(g:Int)<=f:=Int.le_of_dvd f0 hgf
 obtain ⟨h,e⟩:=hgp
 by_cases g1:g=1
 ·exact g1
 exfalso
 have g2:2<=(g:Int):=by omega
 have hh:2<=h:=by
  rcases Int.lt_or_le h 2 with z | z
  ·have:=Int.mul_le_mul_of_nonneg_left (show h<=1 by omega) (show 0<=(g:Int) by omega)
   omega
  ·exact z
 have key:∀ d k:Int,2<=d->d<=k->p=d*k->False:=λd k d2 dk ep=>by
  have hdd:d*d<=p:=by rw [ep]; exact Int.mul_le_mul_of_nonneg_left dk (by omega)
  have hd100:d<100:=Int.not_le.mp λz=>by
   have:=Int.mul_le_mul z z (by omega) (by omega)
   omega
  have h0:=(isPb_iff.mp hp).2 d d2 hd100 hdd
  have:p % d=0:=by rw [ep]; exact Int.mul_emod_right d k
  omega
 rcases Int.le_total (g:Int) h with z | z
 ·exact key g h g2 z e
 ·exact key h g hh z (by rw [e,Int.mul_comm])
abbrev Vz:=Nat->Int
def ix (r:Vz):(List Nat->Int)->List Nat->Int
 | _,[]=>0
 | f,c::cs=>r c*f cs-ix r (λl=>f (c::l)) cs
def det:List Vz->List Nat->Int
 | []=>λ_=>1
 | r::rs=>ix r (det rs)
theorem ix_zero (r:Vz):∀ {f:List Nat->Int} {cs:List Nat},(∀ l,f l=0)->ix r f cs=0
 | f,[],_=>rfl
 | f,c::cs,h=>by
  show r c*f cs-ix r (λl=>f (c::l)) cs=0
  rw [h,ix_zero r λl=>h (c::l)]
  simp
theorem ix_off {r:Vz}:∀ {f:List Nat->Int} {cs:List Nat},(∀ c ∈ cs,r c=0)->ix r f cs=0
 | f,[],_=>rfl
 | f,c::cs,h=>by
  show r c*f cs-ix r (λl=>f (c::l)) cs=0
  rw [h c (by simp),ix_off λd hd=>h d (by simp [hd])]
  simp
theorem ix_lin (a b:Int) (r s:Vz):∀ (f:List Nat->Int) (cs:List Nat),ix (λj=>a*r j+b*s j) f cs=a*ix r f cs+b*ix s f cs
 | f,[]=>by simp [ix]
 | f,c::cs=>by
  show (a*r c+b*s c)*f cs-ix _ (λl=>f (c::l)) cs=a*(r c*f cs-ix r (λl=>f (c::l)) cs)+b*(s c*f cs-ix s (λl=>f (c::l)) cs)
  rw [ix_lin a b r s _ cs]
  grind
theorem ix_flin (r:Vz) (a b:Int):∀ (f g:List Nat->Int) (cs:List Nat),ix r (λl=>a*f l+b*g l) cs=a*ix r f cs+b*ix r g cs
 | f,g,[]=>by simp [ix]
 | f,g,c::cs=>by
  show r c*(a*f cs+b*g cs)-ix r (λl=>a*f (c::l)+b*g (c::l)) cs=a*(r c*f cs-ix r (λl=>f (c::l)) cs)+b*(r c*g cs-ix r (λl=>g (c::l)) cs)
  rw [ix_flin r a b (λl=>f (c::l)) (λl=>g (c::l)) cs]
  grind
theorem ix_anti (r s:Vz):∀ (f:List Nat->Int) (cs:List Nat),ix r (ix s f) cs+ix s (ix r f) cs=0
 | f,[]=>rfl
 | f,c::cs=>by
  have e:∀ r s:Vz,ix r (ix s f) (c::cs)=r c*ix s f cs-s c*ix r f cs+ix r (ix s λl=>f (c::l)) cs:=λr s=>by
   show r c*ix s f cs-ix r (λl=>s c*f l-ix s (λm=>f (c::m)) l) cs=_
   have:=ix_flin r (s c) (-1) f (ix s λm=>f (c::m)) cs
   rw [show (λl=>s c*f l-ix s (λm=>f (c::m)) l)=λl=>s c*f l + -1*ix s (λm=>f (c::m)) l from funext λl=>by omega,this]
   omega
  have ih:=ix_anti r s (λl=>f (c::l)) cs
  rw [e r s,e s r]
  omega
theorem fM (r s:Vz) (rs:List Vz) (cs:List Nat):det (r::s::rs) cs = - det (s::r::rs) cs:=by
 have:=ix_anti r s (det rs) cs
 show ix r (ix s (det rs)) cs = - ix s (ix r (det rs)) cs
 omega
theorem det_mem {v:Vz}:∀ {rs:List Vz} {cs:List Nat},v ∈ rs->det (v::rs) cs=0
 | r::rs,cs,h=>by
  rcases List.mem_cons.mp h with rfl | h
  ·have:=fM v v rs cs
   omega
  ·rw [fM]
   have:det (r::v::rs) cs=0:=ix_zero r λl=>det_mem h
   omega
inductive Comb (rs:List Vz) (d:Int) (v:Vz):Vz->Prop
 | base:Comb rs d v λj=>d*v j
 | add {u:Vz} {a:Int} {r:Vz}:Comb rs d v u->r ∈ rs->Comb rs d v λj=>u j+a*r j
theorem bV {rs:List Vz} {d:Int} {v u:Vz} (h:Comb rs d v u) (cs:List Nat):det (u::rs) cs=d*det (v::rs) cs:=by
 induction h with
 | base=>
  have:=ix_lin d 0 v v (det rs) cs
  rw [show (λj=>d*v j+0*v j)=λj=>d*v j from funext λj=>by omega] at this
  show ix (λj=>d*v j) (det rs) cs=d*ix v (det rs) cs
  rw [this]
  omega
 | @add u a r _ hr ih=>
  have:=ix_lin 1 a u r (det rs) cs
  rw [show (λj=>1*u j+a*r j)=λj=>u j+a*r j from funext λj=>by omega] at this
  have z:det (r::rs) cs=0:=det_mem hr
  have z':ix r (det rs) cs=0:=z
  have ih':ix u (det rs) cs=d*det (v::rs) cs:=ih
  show ix (λj=>u j+a*r j) (det rs) cs=_
  rw [this,z',ih']
  omega
theorem dU {u:Vz} {rs:List Vz} {cs:List Nat} (h:∀ c ∈ cs,u c=0) (j:Nat):det (u::rs) (j::cs)=u j*det rs cs:=by
 show u j*det rs cs-ix u (λl=>det rs (j::l)) cs=_
 rw [ix_off h]
 omega
theorem sylvester {rs:List Vz} {cs:List Nat} {v w u t:Vz} {d e:Int} (hu:Comb rs d v u) (ht:Comb rs e w t) (zu:∀ c ∈ cs,u c=0) (zt:∀ c ∈ cs,t c=0) (hd:d ≠ 0) (he:e ≠ 0) (j c:Nat) :
  det rs cs*det (v::w::rs) (j::c::cs)=det (w::rs) (c::cs)*det (v::rs) (j::cs)-det (v::rs) (c::cs)*det (w::rs) (j::cs):=by
 have a1:=bV hu (j::cs)
 have a2:=bV hu (c::cs)
 have b1:=bV ht (j::cs)
 have b2:=bV ht (c::cs)
 rw [dU zu] at a1 a2
 rw [dU zt] at b1 b2
 have c1:det (u::w::rs) (j::c::cs)=d*det (v::w::rs) (j::c::cs):=by
  have hu':Comb (w::rs) d v u:=by
   clear a1 a2 zu
   induction hu with
   | base=>exact .base
   | add _ hr ih=>exact .add ih (by simp [hr])
  exact bV hu' _
 have c2:det (t::u::rs) (j::c::cs)=e*det (w::u::rs) (j::c::cs):=by
  have ht':Comb (u::rs) e w t:=by
   clear b1 b2 zt
   induction ht with
   | base=>exact .base
   | add _ hr ih=>exact .add ih (by simp [hr])
  exact bV ht' _
 have c3:det (t::u::rs) (j::c::cs)=t j*(u c*det rs cs)-u j*(t c*det rs cs):=by
  have z:det (t::u::rs) (j::c::cs)=t j*det (u::rs) (c::cs)-(t c*det (u::rs) (j::cs)-ix t (λl=>det (u::rs) (j::c::l)) cs):=rfl
  rw [z,ix_off zt,dU zu,dU zu]
  grind
 have c4:=fM w u rs (j::c::cs)
 have key:d*e*(det rs cs*det (v::w::rs) (j::c::cs))=d*e*(det (w::rs) (c::cs)*det (v::rs) (j::cs)-det (v::rs) (c::cs)*det (w::rs) (j::cs)):=by
  generalize det rs cs=D at *
  generalize det (v::w::rs) (j::c::cs)=G at *
  generalize det (u::w::rs) (j::c::cs)=G1 at *
  generalize det (w::u::rs) (j::c::cs)=G2 at *
  generalize det (t::u::rs) (j::c::cs)=G3 at *
  generalize det (w::rs) (c::cs)=E1 at *
  generalize det (v::rs) (j::cs)=A1 at *
  generalize det (v::rs) (c::cs)=B1 at *
  generalize det (w::rs) (j::cs)=C1 at *
  grind
 exact Int.eq_of_mul_eq_mul_left (Int.mul_ne_zero hd he) key
theorem ix_le {r:Vz} {X Y:Nat} (hr:∀ c,(r c).natAbs<=X):∀ {f:List Nat->Int} {cs:List Nat},(∀ l,l.length+1=cs.length->(f l).natAbs<=Y)->(ix r f cs).natAbs<=cs.length*(X*Y)
 | f,[],_=>by simp [ix]
 | f,c::cs,h=>by
  have ih:=ix_le hr (f:=λl=>f (c::l)) (cs:=cs) λl hl=>h (c::l) (by simp [hl])
  have h0:=h cs rfl
  have h1:=Nat.mul_le_mul (hr c) h0
  rw [<- Int.natAbs_mul] at h1
  show (r c*f cs-ix r (λl=>f (c::l)) cs).natAbs<=_
  rw [length_cons,Nat.add_mul,Nat.one_mul]
  omega
def db:List Nat->Nat
 | []=>1
 | x::xs=>6*x*db xs
theorem det_le:∀ {rs:List Vz} {Xs:List Nat} {cs:List Nat},Paired (λ(r:Vz) X=>∀ c,(r c).natAbs<=X) rs Xs->cs.length<=6->(det rs cs).natAbs<=db Xs
 | _,_,cs,.nil,_=>by simp [det,db]
 | r::rs,X::Xs,cs,.cons h t,hc=>by
  have:=ix_le h (f:=det rs) (Y:=db Xs) (cs:=cs) λl hl=>det_le t (by omega)
  refine Nat.le_trans this ?_
  show cs.length*(X*db Xs)<=6*X*db Xs
  rw [Nat.mul_assoc]
  exact Nat.mul_le_mul_right _ hc
theorem gk:∀ (n:Nat) {l:List Nat},l.Nodup->(∀ x ∈ l,x<n)->l.length<=n
 | 0,l,_,h=>by
  match l,h with
  | [],_=>exact Nat.le_refl _
  | x::_,h=>exact absurd (h x (by simp)) (Nat.not_lt_zero _)
 | n+1,l,nd,h=>by
  have:=gk n (l:=l.erase n) (nd.erase n) λx hx=>by
   have h1:=(List.Nodup.mem_erase_iff nd).mp hx
   have:=h x h1.2
   omega
  have:=List.length_erase (a:=n) (l:=l)
  split at this<;>omega
theorem nodup_all {n:Nat} {l:List Nat} (nd:l.Nodup) (h:∀ x ∈ l,x<n) (hl:l.length=n):l.Perm (List.range n):=by
 refine (List.perm_ext_iff_of_nodup nd List.nodup_range).mpr λa=>⟨λha=>List.mem_range.mpr (h a ha),λha=>?_⟩
 have ha:=List.mem_range.mp ha
 apply Decidable.byContradiction
 intro hn
 have:=gk n (l:=a::l) (List.nodup_cons.mpr ⟨hn,nd⟩) λx hx=>by
  rcases List.mem_cons.mp hx with rfl | hx
  ·exact ha
  ·exact h x hx
 rw [length_cons] at this
 omega
def ci:List Nat->Nat
 | []=>1
 | x::l=>x*ci l
theorem prodL_perm {a b:List Nat} (h:a.Perm b):ci a=ci b:=by
 induction h with
 | nil=>rfl
 | cons x _ ih=>show x*_=x*_; rw [ih]
 | swap x y l=>show y*(x*ci l)=x*(y*ci l); ac_rfl
 | trans _ _ i1 i2=>exact i1.trans i2
theorem fZ (p a:Nat):∀ l:List Nat,ci (l.map λi=>(i+1)*a % p) % p=(a ^ l.length*ci (l.map (· + 1))) % p
 | []=>by simp [ci]
 | i::l=>by
  show ((i+1)*a % p*ci (l.map _)) % p=(a ^ (l.length+1)*((i+1)*ci (l.map (· + 1)))) % p
  rw [Nat.mul_mod,Nat.mod_mod,fZ p a l,<- Nat.mul_mod,Nat.pow_succ]
  congr 1
  ac_rfl
theorem f6 {p:Nat}:∀ {l:List Nat},(∀ x ∈ l,Nat.Coprime x p)->Nat.Coprime (ci l) p
 | [],_=>Nat.coprime_one_left p
 | x::l,h=>Nat.Coprime.mul_left (h x (by simp)) (f6 λy hy=>h y (by simp [hy]))
theorem fermat {p a:Nat} (h2:2<=p) (cop:∀ f,0<f->f<p->Nat.Coprime f p) (a0:0<a) (a1:a<p):a ^ (p-1) % p=1:=by
 have ca:=cop a a0 a1
 have nz:∀ i,i<p-1->0<(i+1)*a % p:=λi hi=>by
  rcases Nat.eq_zero_or_pos ((i+1)*a % p) with z | z
  ·exfalso
   have d:p ∣ (i+1)*a:=Nat.dvd_of_mod_eq_zero z
   have d2:=(Nat.Coprime.symm ca).dvd_of_dvd_mul_right d
   have:=Nat.le_of_dvd (by omega) d2
   omega
  ·exact z
 have inj:∀ i j,i<j->j<p-1->(i+1)*a % p ≠ (j+1)*a % p:=λi j hij hj e=>by
  have d:p ∣ (j+1)*a-(i+1)*a:=Nat.dvd_of_mod_eq_zero (Nat.sub_mod_eq_zero_of_mod_eq e.symm)
  rw [<- Nat.sub_mul] at d
  have d2:=(Nat.Coprime.symm ca).dvd_of_dvd_mul_right d
  have:=Nat.le_of_dvd (by omega) d2
  omega
 have nd:((List.range (p-1)).map λi=>(i+1)*a % p-1).Nodup:=by
  rw [List.Nodup,List.pairwise_map,List.pairwise_iff_getElem]
  intro i j hi hj hij
  rw [length_range] at hi hj
  rw [getElem_range,getElem_range]
  have:=inj i j hij hj
  have:=nz i hi
  have:=nz j hj
  omega
 have pm:=nodup_all (n:=p-1) nd (λx hx=>by
  obtain ⟨i,hi,rfl⟩:=List.mem_map.mp hx
  have:=nz i (List.mem_range.mp hi)
  have:=Nat.mod_lt ((i+1)*a) (show 0<p by omega)
  omega) (by rw [length_map,length_range])
 have e1:=prodL_perm (pm.map (· + 1))
 rw [map_map] at e1
 have e2:(List.range (p-1)).map ((· + 1) ∘ λi=>(i+1)*a % p-1)=(List.range (p-1)).map λi=>(i+1)*a % p:=
  map_congr_left λi hi=>by
   have:=nz i (List.mem_range.mp hi)
   show (i+1)*a % p-1+1=_
   omega
 rw [e2] at e1
 have e3:=fZ p a (List.range (p-1))
 rw [e1,length_range] at e3
 have cp:Nat.Coprime (ci ((List.range (p-1)).map (· + 1))) p:=f6 λx hx=>by
  obtain ⟨i,hi,rfl⟩:=List.mem_map.mp hx
  have:=List.mem_range.mp hi
  exact cop (i+1) (by omega) (by omega)
 generalize ci ((List.range (p-1)).map (· + 1))=R at *
 have ap:1<=a ^ (p-1):=Nat.pow_pos a0
 have d:p ∣ a ^ (p-1)*R-R:=Nat.dvd_of_mod_eq_zero (Nat.sub_mod_eq_zero_of_mod_eq e3.symm)
 have d':p ∣ (a ^ (p-1)-1)*R:=by rw [Nat.sub_mul,Nat.one_mul]; exact d
 have d2:=(Nat.Coprime.symm cp).dvd_of_dvd_mul_right d'
 obtain ⟨c,hc⟩:=d2
 rw [show a ^ (p-1)=1+p*c by omega,Nat.add_mul_mod_self_left]
 exact Nat.mod_eq_of_lt (by omega)
structure FL (R:Type) extends CS R where
 neg:R->R
 add_neg:∀ x,add x (neg x)=zero
 div:R->R->R
 div_mul:∀ x y,y ≠ zero->mul (div x y) y=x
namespace FL
variable {R:Type} (S:FL R)
theorem mul_ne {x y:R} (hx:x ≠ S.zero) (hy:y ≠ S.zero):S.mul x y ≠ S.zero:=λz=>hx (by
 have h:=S.div_mul S.one y hy
 have:S.mul x (S.mul (S.div S.one y) y)=x:=by rw [h,S.mul_comm,S.one_mul]
 rw [<- this,S.mul_comm (S.div S.one y),<- S.mul_assoc,z,S.zero_mul])
theorem neg_add (x:R):S.add (S.neg x) x=S.zero:=by rw [S.add_comm,S.add_neg]
theorem neg_mul (x y:R):S.mul (S.neg x) y=S.neg (S.mul x y):=by
 have h:S.add (S.mul x y) (S.mul (S.neg x) y)=S.zero:=by rw [<- CS.add_mul,S.add_neg,S.zero_mul]
 have:=congrArg (S.add (S.neg (S.mul x y))) h
 rw [<- S.add_assoc,S.neg_add,S.zero_add,CS.add_zero] at this
 exact this
abbrev Vf (R:Type):=Nat->R
def Sp:List (Vf R)->Vf R->Prop
 | [],v=>∀ j,v j=S.zero
 | g::G,v=>∃ (c:R) (w:Vf R),Sp G w/\∀ j,v j=S.add (S.mul c (g j)) (w j)
theorem Sp.zero:∀ G:List (Vf R),S.Sp G λ_=>S.zero
 | []=>λ_=>rfl
 | g::G=>⟨S.zero,λ_=>S.zero,Sp.zero G,λj=>by rw [S.zero_mul,S.zero_add]⟩
theorem Sp.add:∀ {G:List (Vf R)} {v w:Vf R},S.Sp G v->S.Sp G w->S.Sp G λj=>S.add (v j) (w j)
 | [],v,w,h1,h2=>λj=>by dsimp only; rw [h1,h2,S.zero_add]
 | g::G,v,w,⟨c,u,hu,e1⟩,⟨d,t,ht,e2⟩=>⟨S.add c d,_,Sp.add hu ht,λj=>by dsimp only; rw [e1,e2,CS.add_mul,CS.add4]⟩
theorem Sp.mul (a:R):∀ {G:List (Vf R)} {v:Vf R},S.Sp G v->S.Sp G λj=>S.mul a (v j)
 | [],v,h=>λj=>by dsimp only; rw [h,CS.mul_zero]
 | g::G,v,⟨c,u,hu,e⟩=>⟨S.mul a c,_,Sp.mul a hu,λj=>by dsimp only; rw [e,S.mul_add,S.mul_assoc]⟩
theorem Sp.eq {G:List (Vf R)} {v w:Vf R} (h:S.Sp G v) (e:∀ j,w j=v j):S.Sp G w:=by rw [show w=v from funext e]; exact h
theorem Sp.mem:∀ {G:List (Vf R)} {v:Vf R},v ∈ G->S.Sp G v
 | g::G,v,h=>by
  rcases List.mem_cons.mp h with rfl | h
  ·exact ⟨S.one,_,Sp.zero S G,λj=>by rw [S.one_mul,CS.add_zero]⟩
  ·exact ⟨S.zero,v,Sp.mem h,λj=>by rw [S.zero_mul,S.zero_add]⟩
theorem Sp.trans {H:List (Vf R)}:∀ {G:List (Vf R)} {v:Vf R},(∀ g ∈ G,S.Sp H g)->S.Sp G v->S.Sp H v
 | [],v,_,h=>(Sp.zero S H).eq S h
 | g::G,v,hG,⟨c,u,hu,e⟩=>((Sp.mul S c (hG g (by simp))).add S (Sp.trans (λk hk=>hG k (by simp [hk])) hu)).eq S e
theorem Sp.off {p:Nat}:∀ {G:List (Vf R)} {v:Vf R},(∀ g ∈ G,g p=S.zero)->S.Sp G v->v p=S.zero
 | [],v,_,h=>h p
 | g::G,v,hG,⟨c,u,hu,e⟩=>by rw [e,hG g (by simp),CS.mul_zero,S.zero_add,Sp.off (λk hk=>hG k (by simp [hk])) hu]
def Tri:List (Nat × Vf R)->Prop
 | []=>True
 | k::K=>k.2 k.1 ≠ S.zero/\(∀ q ∈ K,q.2 k.1=S.zero)/\Tri K
def red (g:Vf R) (p:Nat) (v:Vf R):Vf R:=λj=>S.add (v j) (S.mul (S.neg (S.div (v p) (g p))) (g j))
theorem red_at {g:Vf R} {p:Nat} (hg:g p ≠ S.zero) (v:Vf R):S.red g p v p=S.zero:=by
 show S.add (v p) (S.mul (S.neg (S.div (v p) (g p))) (g p))=S.zero
 rw [S.neg_mul,S.div_mul _ _ hg,S.add_neg]
theorem red_back (g:Vf R) (p:Nat) (v:Vf R) (j:Nat):v j=S.add (S.mul (S.div (v p) (g p)) (g j)) (S.red g p v j):=by
 show v j=S.add _ (S.add (v j) (S.mul (S.neg _) (g j)))
 rw [S.neg_mul,S.add_comm (v j),<- S.add_assoc,S.add_neg,S.zero_add]
theorem Sp.split {g:Vf R} {p:Nat}:∀ {A B:List (Vf R)} {w:Vf R},S.Sp (A++g::B) w->∃ (c:R) (u:Vf R),S.Sp ((A++B).map (S.red g p)) u/\∀ j,w j=S.add (S.mul c (g j)) (u j)
 | [],B,w,⟨c,u,hu,e⟩=>by
  have go:∀ {B:List (Vf R)} {u:Vf R},S.Sp B u->∃ (c:R) (t:Vf R),S.Sp (B.map (S.red g p)) t/\∀ j,u j=S.add (S.mul c (g j)) (t j):=by
   intro B
   induction B with
   | nil=>intro u h; exact ⟨S.zero,u,h,λj=>by rw [S.zero_mul,S.zero_add]⟩
   | cons b B ih=>
    intro u h
    obtain ⟨a,t,ht,e⟩:=h
    obtain ⟨c,s,hs,e2⟩:=ih ht
    refine ⟨S.add (S.mul a (S.div (b p) (g p))) c,_,⟨a,s,hs,λj=>rfl⟩,λj=>?_⟩
    rw [e,e2,S.red_back g p b j]
    rw [S.mul_add,<- S.mul_assoc,CS.add_mul,CS.add4]
  obtain ⟨d,t,ht,e2⟩:=go hu
  exact ⟨S.add c d,t,ht,λj=>by rw [e,e2,CS.add_mul,S.add_assoc]⟩
 | a::A,B,w,⟨c,u,hu,e⟩=>by
  obtain ⟨d,t,ht,e2⟩:=Sp.split (p:=p) hu
  refine ⟨S.add (S.mul c (S.div (a p) (g p))) d,_,⟨c,t,ht,λj=>rfl⟩,λj=>?_⟩
  rw [e,e2,S.red_back g p a j]
  rw [S.mul_add,<- S.mul_assoc,CS.add_mul,CS.add4]
theorem tri_le:∀ {K:List (Nat × Vf R)} {G:List (Vf R)},S.Tri K->(∀ q ∈ K,S.Sp G q.2)->K.length<=G.length
 | [],G,_,_=>Nat.zero_le _
 | k::K,G,⟨h1,h2,h3⟩,hG=>by
  have ex:∃ g ∈ G,g k.1 ≠ S.zero:=by
   apply Classical.byContradiction
   intro z
   exact h1 ((hG k (by simp)).off S λg hg=>Classical.byContradiction λy=>z ⟨g,hg,y⟩)
  obtain ⟨g,hg,gp⟩:=ex
  obtain ⟨A,B,rfl⟩:=List.append_of_mem hg
  have:=tri_le (K:=K) (G:=(A++B).map (S.red g k.1)) h3 λq hq=>by
   obtain ⟨c,u,hu,e⟩:=(hG q (by simp [hq])).split S (p:=k.1)
   have u0:u k.1=S.zero:=hu.off S λt ht=>by
    obtain ⟨v,_,rfl⟩:=List.mem_map.mp ht
    exact S.red_at gp v
   have e0:=e k.1
   rw [h2 q hq,u0,CS.add_zero] at e0
   have c0:c=S.zero:=Classical.byContradiction λz=>S.mul_ne z gp e0.symm
   exact hu.eq S λj=>by rw [e,c0,S.zero_mul,S.zero_add]
  rw [length_map,length_append] at this
  rw [length_cons,length_append,length_cons]
  omega
theorem Sp.turn:∀ {K:List (Vf R)} {v:Nat->Vf R},(∀ i,S.Sp K (v i))->∃ A:List (Vf R),A.length=K.length/\∀ j,S.Sp A λi=>v i j
 | [],v,h=>⟨[],rfl,λj i=>h i j⟩
 | k::K,v,h=>by
  have hc:∀ i,∃ (c:R) (w:Vf R),S.Sp K w/\∀ j,v i j=S.add (S.mul c (k j)) (w j):=h
  obtain ⟨c,hc⟩:=Classical.axiomOfChoice hc
  obtain ⟨w,hw⟩:=Classical.axiomOfChoice hc
  obtain ⟨A,la,hA⟩:=Sp.turn (v:=w) λi=>(hw i).1
  exact ⟨c::A,by rw [length_cons,length_cons,la],λj=>⟨k j,_,hA j,λi=>by dsimp only; rw [(hw i).2 j,S.mul_comm]⟩⟩
def clear (K:List (Nat × Vf R)) (v:Vf R):Vf R:=K.foldl (λu k=>S.red k.2 k.1 u) v
theorem clear_sp:∀ {K:List (Nat × Vf R)} {v:Vf R},∃ w,S.Sp (K.map (·.2)) w/\∀ j,v j=S.add (w j) (S.clear K v j)
 | [],v=>⟨_,Sp.zero S [],λj=>(S.zero_add _).symm⟩
 | k::K,v=>by
  obtain ⟨w,hw,e⟩:=clear_sp (K:=K) (v:=S.red k.2 k.1 v)
  refine ⟨_,⟨S.div (v k.1) (k.2 k.1),w,hw,λj=>rfl⟩,λj=>?_⟩
  rw [S.red_back k.2 k.1 v j,e j,S.add_assoc]
  rfl
theorem clear_off:∀ {K:List (Nat × Vf R)} {v:Vf R} {p:Nat},(∀ q ∈ K,q.2 p=S.zero)->v p=S.zero->S.clear K v p=S.zero
 | [],v,p,_,h=>h
 | k::K,v,p,hK,h=>clear_off (K:=K) (λq hq=>hK q (by simp [hq])) (by
   show S.add (v p) (S.mul _ (k.2 p))=S.zero
   rw [hK k (by simp),CS.mul_zero,h,S.zero_add])
theorem clear_at:∀ {K:List (Nat × Vf R)} {v:Vf R},S.Tri K->∀ q ∈ K,S.clear K v q.1=S.zero
 | k::K,v,⟨h1,h2,h3⟩,q,hq=>by
  rcases List.mem_cons.mp hq with rfl | hq
  ·exact S.clear_off (K:=K) h2 (S.red_at h1 v)
  ·exact clear_at h3 q hq
theorem Tri.snoc:∀ {K:List (Nat × Vf R)} {p:Nat} {u:Vf R},S.Tri K->(∀ q ∈ K,u q.1=S.zero)->u p ≠ S.zero->S.Tri (K++[(p,u)])
 | [],p,u,_,_,h=>⟨h,λq hq=>(nomatch hq),trivial⟩
 | k::K,p,u,⟨h1,h2,h3⟩,hz,h=>⟨h1,λq hq=>by
   rcases List.mem_append.mp hq with z | z
   ·exact h2 q z
   ·rw [List.mem_singleton.mp z]
    exact hz k (by simp),Tri.snoc h3 (λq hq=>hz q (by simp [hq])) h⟩
theorem tri_zero:∀ {K:List (Nat × Vf R)} {u:Vf R},S.Tri K->S.Sp (K.map (·.2)) u->(∀ q ∈ K,u q.1=S.zero)->∀ j,u j=S.zero
 | [],u,_,h,_=>h
 | k::K,u,⟨h1,h2,h3⟩,⟨c,w,hw,e⟩,hz=>by
  have w0:w k.1=S.zero:=hw.off S λt ht=>by
   obtain ⟨q,hq,rfl⟩:=List.mem_map.mp ht
   exact h2 q hq
  have e0:=e k.1
  rw [hz k (by simp),w0,CS.add_zero] at e0
  have c0:c=S.zero:=Classical.byContradiction λz=>S.mul_ne z h1 e0.symm
  have e':∀ j,u j=w j:=λj=>by rw [e,c0,S.zero_mul,S.zero_add]
  intro j
  rw [e']
  exact tri_zero h3 hw (λq hq=>by rw [<- e']; exact hz q (by simp [hq])) j
def Keeps (K:List (Nat × Vf R)) (vs:List (Vf R)):Prop:=S.Tri K/\(∀ v ∈ vs,S.Sp (K.map (·.2)) v)/\∀ q ∈ K,S.Sp vs q.2
theorem keeps_le {K L:List (Nat × Vf R)} {vs ws G:List (Vf R)} (hL:S.Keeps L ws) (hG:∀ w ∈ ws,S.Sp G w):L.length<=G.length:=
 S.tri_le hL.1 λq hq=>(hL.2.2 q hq).trans S hG
theorem keeps_same {K L:List (Nat × Vf R)} {vs ws:List (Vf R)} (hK:S.Keeps K vs) (hL:S.Keeps L ws) (h:∀ w,w ∈ ws↔w ∈ vs):L.length=K.length:=by
 have a:=S.keeps_le (K:=K) (vs:=vs) hL λw hw=>hK.2.1 w ((h w).mp hw)
 have b:=S.keeps_le (K:=K) (vs:=vs) hK λw hw=>hL.2.1 w ((h w).mpr hw)
 rw [length_map] at a b
 omega
theorem keeps_turn {K L:List (Nat × Vf R)} {v:Nat->Vf R} {m n:Nat} (hm:∀ i,m<=i->∀ j,v i j=S.zero) (hn:∀ j,n<=j->∀ i,v i j=S.zero) (hK:S.Keeps K ((List.range m).map v)) (hL:S.Keeps L ((List.range n).map λj i=>v i j)):L.length=K.length:=by
 have all:∀ i,S.Sp (K.map (·.2)) (v i):=λi=>by
  by_cases h:i<m
  ·exact hK.2.1 _ (List.mem_map.mpr ⟨i,List.mem_range.mpr h,rfl⟩)
  ·exact (Sp.zero S _).eq S (hm i (by omega))
 have all':∀ j,S.Sp (L.map (·.2)) λi=>v i j:=λj=>by
  by_cases h:j<n
  ·exact hL.2.1 _ (List.mem_map.mpr ⟨j,List.mem_range.mpr h,rfl⟩)
  ·exact (Sp.zero S _).eq S (hn j (by omega))
 obtain ⟨A,la,hA⟩:=Sp.turn S all
 obtain ⟨B,lb,hB⟩:=Sp.turn S all'
 have a:=S.keeps_le (K:=K) (vs:=[]) (G:=A) hL λw hw=>by
  obtain ⟨j,_,rfl⟩:=List.mem_map.mp hw
  exact hA j
 have b:=S.keeps_le (K:=K) (vs:=[]) (G:=B) hK λw hw=>by
  obtain ⟨i,_,rfl⟩:=List.mem_map.mp hw
  exact hB i
 rw [length_map] at la lb
 omega
theorem Keeps.step {K:List (Nat × Vf R)} {vs:List (Vf R)} {v:Vf R} (h:S.Keeps K vs):(∀ j,S.clear K v j=S.zero)/\S.Keeps K (vs++[v])\/∀ p,S.clear K v p ≠ S.zero->S.Keeps (K++[(p,S.clear K v)]) (vs++[v]):=by
 obtain ⟨w,hw,e⟩:=S.clear_sp (K:=K) (v:=v)
 by_cases z:∀ j,S.clear K v j=S.zero
 ·refine .inl ⟨z,h.1,λu hu=>?_,λq hq=>(h.2.2 q hq).trans S λg hg=>Sp.mem S (by simp [hg])⟩
  rcases List.mem_append.mp hu with y | y
  ·exact h.2.1 u y
  ·rw [List.mem_singleton.mp y]
   exact hw.eq S λj=>by rw [e,z,CS.add_zero]
 ·refine .inr λp hp=>⟨Tri.snoc S h.1 (S.clear_at h.1) hp,λu hu=>?_,λq hq=>?_⟩
  ·rw [map_append]
   have up:∀ {t:Vf R},S.Sp (K.map (·.2)) t->S.Sp (K.map (·.2)++[S.clear K v]) t:=λht=>ht.trans S λg hg=>Sp.mem S (by simp only [List.mem_append]; exact .inl hg)
   rcases List.mem_append.mp hu with y | y
   ·exact up (h.2.1 u y)
   ·rw [List.mem_singleton.mp y]
    exact ((up hw).add S (Sp.mem S (v:=S.clear K v) (by simp))).eq S e
  ·have upv:∀ {t:Vf R},S.Sp vs t->S.Sp (vs++[v]) t:=λht=>ht.trans S λg hg=>Sp.mem S (by simp [hg])
   rcases List.mem_append.mp hq with y | y
   ·exact upv (h.2.2 q y)
   ·rw [List.mem_singleton.mp y]
    have hw':S.Sp vs w:=hw.trans S λg hg=>by
     obtain ⟨q,hq,rfl⟩:=List.mem_map.mp hg
     exact h.2.2 q hq
    refine ((Sp.mem S (G:=vs++[v]) (v:=v) (by simp)).add S ((upv hw').mul S (S.neg S.one))).eq S λj=>?_
    show S.clear K v j=S.add (v j) (S.mul (S.neg S.one) (w j))
    rw [e j,S.neg_mul,S.one_mul,S.add_comm (w j),S.add_assoc,S.add_neg,CS.add_zero]
end FL
def bkN (P a:Int):Int:=((a.toNat ^ (P.toNat-2) % P.toNat:Nat):Int)
def cy (P:Int) (x y:Int × Int):Int × Int:=if P=0 then nrm (x.1*y.2) (x.2*y.1) else ((x.1*bkN P y.1) % P,1)
theorem bk_one {P a:Int} (hP:gZ P) (h0:P ≠ 0) (a0:0<a) (a1:a<P):bkN P a*a % P=1:=by
 rcases hP with z | ⟨p2,p9,pb⟩
 ·exact absurd z h0
 obtain ⟨p,rfl⟩:=Int.eq_ofNat_of_zero_le (show 0<=P by omega)
 obtain ⟨n,rfl⟩:=Int.eq_ofNat_of_zero_le (show 0<=a by omega)
 have cop:∀ f,0<f->f<p->Nat.Coprime f p:=λf h1 h2=>by
  have:=cop_of p2 p9 pb (f:=(f:Int)) (by omega) (by omega)
  exact Nat.Coprime.symm (by simpa using this)
 have f:=fermat (p:=p) (a:=n) (by omega) cop (by omega) (by omega)
 unfold bkN
 rw [Int.toNat_natCast,Int.toNat_natCast,<- Int.natCast_mul,<- Int.natCast_emod]
 have e:n ^ (p-2) % p*n % p=1:=by
  rw [Nat.mod_mul_mod,<- Nat.pow_succ,show (p-2).succ=p-1 by omega]
  exact f
 rw [e]
 rfl
theorem cA {P:Int} {x y:Int × Int} (hP:gZ P) (hx:OkN P x) (hy:OkN P y) (h:y ≠ (0,1)):OkN P (cy P x y):=by
 unfold cy
 split
 ·rename_i h0
  subst h0
  have dx:=hx.den
  have y0:y.1 ≠ 0:=λz=>h (by
   rcases hy with ⟨_,h1,h2⟩ | ⟨w,_⟩
   ·rw [z,Int.gcd_zero_left] at h2
    exact Prod.ext z (by show y.2=1; omega)
   ·exact absurd rfl w)
  exact ff (Int.mul_ne_zero (by omega) y0)
 ·exact dJ hP.b.1 ‹_›
theorem gA {P:Int} {y:Int × Int} (hy:OkN P y) (h:y ≠ (0,1)):y.1 ≠ 0:=λz=>h (by
 rcases hy with ⟨_,h1,h2⟩ | ⟨_,_,_,h3⟩
 ·rw [z,Int.gcd_zero_left] at h2
  exact Prod.ext z (by show y.2=1; omega)
 ·exact Prod.ext z h3)
theorem divN_mul {P:Int} {x y:Int × Int} (hP:gZ P) (hx:OkN P x) (hy:OkN P y) (h:y ≠ (0,1)):aP P (cy P x y) y=x:=by
 have y0:=gA hy h
 have od:=cA hP hx hy h
 by_cases h0:P=0
 ·rw [bv od hy]
  refine (aN (a9 (am od) (am hy)) (am hx) ?_).trans (ba hx)
  have e:cy P x y=nrm (x.1*y.2) (x.2*y.1):=by unfold cy; rw [if_pos h0]
  have q:=eG (x.1*y.2) (x.2*y.1) (Int.mul_ne_zero (by have:=hx.den; omega) y0)
  rw [<- e] at q
  generalize cy P x y=u at *
  dsimp only
  grind
 ·have hB:=hP.b
  unfold cy aP
  rw [if_neg h0,if_neg h0]
  rcases hx with ⟨z,_⟩ | ⟨_,x1,x2,x3⟩
  ·exact absurd z h0
  rcases hy with ⟨z,_⟩ | ⟨_,y1,y2,y3⟩
  ·exact absurd z h0
  have b:=bk_one hP h0 (a:=y.1) (by omega) y2
  refine Prod.ext ?_ x3.symm
  show x.1*bkN P y.1 % P*y.1 % P=x.1
  rw [Int.mul_emod,Int.emod_emod_of_dvd _ (Int.dvd_refl P),<- Int.mul_emod,Int.mul_assoc,Int.mul_emod,b,Int.mul_one,Int.emod_emod_of_dvd _ (Int.dvd_refl P),Int.emod_eq_of_lt x1 x2]
theorem add_negN {P:Int} {x:Int × Int} (hP:gZ P) (hx:OkN P x):bj P x (c7 P x)=(0,1):=by
 have hB:=hP.b
 have on:=cY hB.1 hx
 have hz:OkN P (0,1):=bU hB.1 hB.2.2
 by_cases h0:P=0
 ·rw [cg hx on]
  refine (aN (bH (am hx) (am on)) (am hz) ?_).trans (ba hz)
  unfold c7
  rw [if_pos h0]
  dsimp only
  grind
 ·unfold bj c7
  rw [if_neg h0,if_neg h0]
  refine Prod.ext ?_ rfl
  show (x.1+(0-x.1) % P) % P=0
  rw [Int.add_emod,Int.emod_emod_of_dvd _ (Int.dvd_refl P),<- Int.add_emod]
  rw [show x.1+(0-x.1)=0 by omega]
  exact Int.zero_emod P
open Classical in
noncomputable def nbF {P:Int} (hP:gZ P):FL (Nb P) where
 toCS:=nb hP
 neg x:=⟨c7 P x.1,cY hP.b.1 x.2⟩
 add_neg x:=Subtype.ext (add_negN hP x.2)
 div x y:=if h:y.1 ≠ (0,1) then ⟨cy P x.1 y.1,cA hP x.2 y.2 h⟩ else (nb hP).zero
 div_mul x y h:=by
  have h':y.1 ≠ (0,1):=λz=>h (Subtype.ext z)
  rw [dif_pos h']
  exact Subtype.ext (divN_mul hP x.2 y.2 h')
section
variable {P:Int} (hP:gZ P)
def io (z:Int):Nb P:=⟨val P (z,1),val_ok hP.b.1 Int.one_pos⟩
theorem aT {P:Int} (z:Int):Raw P (z,1):=⟨Int.one_pos,λ_=>rfl⟩
theorem io_add (a b:Int):io hP (a+b)=(nb hP).add (io hP a) (io hP b):=Subtype.ext (by
 show val P (a+b,1)=bj P (val P (a,1)) (val P (b,1))
 rw [dO (aT a) (aT b)]
 exact aN (aT _) (bH (aT a) (aT b)) (by dsimp only; grind))
theorem bn (a b:Int):io hP (a*b)=(nb hP).mul (io hP a) (io hP b):=Subtype.ext (by
 show val P (a*b,1)=aP P (val P (a,1)) (val P (b,1))
 rw [ck (aT a) (aT b)]
 exact aN (aT _) (a9 (aT a) (aT b)) (by dsimp only; grind))
theorem e5:io hP 0=(nb hP).zero:=Subtype.ext (by
 show val P (0,1)=(0,1)
 exact ba (bU hP.b.1 hP.b.2.2))
theorem io_one:io hP 1=(nb hP).one:=Subtype.ext (by
 show val P (1,1)=(1,1)
 exact ba (okN_1 hP))
theorem io_neg (a:Int):io hP (-a)=(nbF hP).neg (io hP a):=by
 have h:(nb hP).add (io hP a) (io hP (-a))=(nb hP).zero:=by rw [<- io_add,Int.add_right_neg,e5]
 have:=congrArg ((nb hP).add ((nbF hP).neg (io hP a))) h
 rw [<- (nb hP).add_assoc] at this
 have e:(nb hP).add ((nbF hP).neg (io hP a)) (io hP a)=(nb hP).zero:=(nbF hP).neg_add _
 rw [e,(nb hP).zero_add,CS.add_zero] at this
 exact this
theorem io_mod (h0:P ≠ 0) (a:Int):io hP (a % P)=io hP a:=Subtype.ext (by
 show val P (a % P,1)=val P (a,1)
 unfold val
 rw [if_neg h0,if_neg h0]
 refine Prod.ext ?_ rfl
 show a % P % P=a % P
 exact Int.emod_emod_of_dvd a (Int.dvd_refl P))
theorem eA (h0:P=0) {a:Int} (ha:a ≠ 0):io hP a ≠ (nb hP).zero:=λz=>ha (by
 have e:val P (a,1)=(0,1):=congrArg Subtype.val z
 unfold val at e
 rw [if_pos h0,(fC a 1 Int.one_pos).mpr (by rw [Int.gcd_one])] at e
 exact congrArg Prod.fst e)
theorem io_neP (h0:P ≠ 0) {a:Int} (h1:0<=a) (h2:a<P) (ha:a ≠ 0):io hP a ≠ (nb hP).zero:=λz=>ha (by
 have e:val P (a,1)=(0,1):=congrArg Subtype.val z
 unfold val at e
 rw [if_neg h0] at e
 have:=congrArg Prod.fst e
 dsimp only at this
 rwa [Int.emod_eq_of_lt h1 h2] at this)
theorem io_frac (x:Nb P):(nb hP).mul (io hP x.1.2) x=io hP x.1.1:=Subtype.ext (by
 show aP P (val P (x.1.2,1)) x.1=val P (x.1.1,1)
 have:=ck (P:=P) (aT x.1.2) (am x.2)
 rw [ba x.2] at this
 rw [this]
 exact aN (a9 (aT _) (am x.2)) (aT _) (by dsimp only; grind))
end
def Rsi (Ws:List Vz) (i:Nat):List Vz:=(Ws.take i).reverse
def csi (ps:List Nat) (i:Nat):List Nat:=(ps.take i).reverse
def Dt (Ws:List Vz) (ps:List Nat) (i:Nat):Int:=det (Rsi Ws i) (csi ps i)
def Lf (Ws:List Vz) (ps:List Nat) (V:Vz) (i j:Nat):Int:=det (V::Rsi Ws i) (j::csi ps i)
theorem dC {Ws:List Vz} {i:Nat} {W:Vz} (h:Ws[i]? = some W):Rsi Ws (i+1)=W::Rsi Ws i:=by
 unfold Rsi
 rw [take_add_one,h,List.reverse_append]
 rfl
theorem dI {ps:List Nat} {i p:Nat} (h:ps[i]? = some p):csi ps (i+1)=p::csi ps i:=by
 unfold csi
 rw [take_add_one,h,List.reverse_append]
 rfl
theorem Comb.scale {rs:List Vz} {d:Int} {v u:Vz} (a:Int) (h:Comb rs d v u):Comb rs (a*d) v λj=>a*u j:=by
 induction h with
 | base=>
  have:=Comb.base (rs:=rs) (d:=a*d) (v:=v)
  rwa [show (λj=>a*d*v j)=λj=>a*(d*v j) from funext λj=>by rw [Int.mul_assoc]] at this
 | @add u b r _ hr ih=>
  have:=ih.add (a:=a*b) hr
  rwa [show (λj=>a*u j+a*b*r j)=λj=>a*(u j+b*r j) from funext λj=>by grind] at this
theorem Comb.more {rs:List Vz} {d e b:Int} {v u w t:Vz} (h:Comb rs d v u) (ht:Comb rs e w t):Comb (w::rs) d v λj=>u j+b*t j:=by
 induction ht with
 | base=>
  have hu:Comb (w::rs) d v u:=by
   induction h with
   | base=>exact .base
   | add _ hr ih=>exact .add ih (by simp [hr])
  have:=hu.add (a:=b*e) (r:=w) (by simp)
  rwa [show (λj=>u j+b*e*w j)=λj=>u j+b*(e*w j) from funext λj=>by rw [Int.mul_assoc]] at this
 | @add t a r _ hr ih=>
  have:=ih.add (a:=b*a) (r:=r) (by simp [hr])
  rwa [show (λj=>u j+b*t j+b*a*r j)=λj=>u j+b*(t j+a*r j) from funext λj=>by grind] at this
section
variable {Ws:List Vz} {ps:List Nat}
theorem fc (hl:ps.length=Ws.length) (hD:∀ i,i<=Ws.length->Dt Ws ps i ≠ 0):∀ i,i<=Ws.length->∀ V,∃ (u:Vz) (d:Int),d ≠ 0/\Comb (Rsi Ws i) d V u/\∀ c ∈ csi ps i,u c=0
 | 0,_,V=>⟨λj=>1*V j,1,by decide,.base,λc hc=>by simp [csi] at hc⟩
 | i+1,hi,V=>by
  obtain ⟨u,d,d0,cu,zu⟩:=fc hl hD i (by omega) V
  have eW:Ws[i]? = some Ws[i]:=getElem?_eq_getElem (by omega)
  have ep:ps[i]? = some ps[i]:=getElem?_eq_getElem (by omega)
  obtain ⟨t,e,e0,ct,zt⟩:=fc hl hD i (by omega) Ws[i]
  have t0:t ps[i] ≠ 0:=λz=>by
   have a:=bV ct (ps[i]::csi ps i)
   rw [dU zt,z,Int.zero_mul] at a
   have b:=hD (i+1) hi
   unfold Dt at b
   rw [dC eW,dI ep] at b
   exact Int.mul_ne_zero e0 b a.symm
  rw [dC eW,dI ep]
  refine ⟨_,t ps[i]*d,Int.mul_ne_zero t0 d0,(cu.scale (t ps[i])).more (b:=- u ps[i]) ct,λc hc=>?_⟩
  rcases List.mem_cons.mp hc with rfl | hc
  ·grind
  ·rw [zu c hc,zt c hc]
   simp
theorem bareiss (hl:ps.length=Ws.length) (hD:∀ i,i<=Ws.length->Dt Ws ps i ≠ 0) {i p:Nat} {W:Vz} (eW:Ws[i]? = some W) (ep:ps[i]? = some p) (V:Vz) (j:Nat) :
  Dt Ws ps (i+1)*Lf Ws ps V i j-Lf Ws ps V i p*Lf Ws ps W i j=Dt Ws ps i*Lf Ws ps V (i+1) j:=by
 have hi:i<Ws.length:=(List.getElem?_eq_some_iff.mp eW).1
 obtain ⟨u,d,d0,cu,zu⟩:=fc hl hD i (by omega) V
 obtain ⟨t,e,e0,ct,zt⟩:=fc hl hD i (by omega) W
 have s:=sylvester cu ct zu zt d0 e0 j p
 unfold Dt Lf
 rw [dC eW,dI ep]
 exact s.symm
theorem cP {i p:Nat} {W:Vz} (eW:Ws[i]? = some W) (ep:ps[i]? = some p):Lf Ws ps W i p=Dt Ws ps (i+1):=by
 unfold Dt Lf
 rw [dC eW,dI ep]
theorem Lf_zero (V:Vz) (j:Nat):Lf Ws ps V 0 j=V j:=by
 show det [V] [j]=V j
 show V j*1-0=V j
 omega
theorem Dt_zero:Dt Ws ps 0=1:=rfl
theorem cK (X:Nat):∀ n,db (List.replicate n X)=(6*X) ^ n
 | 0=>rfl
 | n+1=>by
  rw [List.replicate_succ]
  show 6*X*db (List.replicate n X)=_
  rw [cK X n,Nat.pow_succ,Nat.mul_comm]
theorem cv {α β:Type} {R:α->β->Prop} {b:β}:∀ {xs:List α},(∀ x ∈ xs,R x b)->Paired R xs (List.replicate xs.length b)
 | [],_=>.nil
 | x::xs,h=>.cons (h x (by simp)) (cv λy hy=>h y (by simp [hy]))
theorem rsi_mem {i:Nat} {W:Vz} (h:W ∈ Rsi Ws i):W ∈ Ws:=List.mem_of_mem_take (List.mem_reverse.mp h)
theorem rsi_len (i:Nat) (hi:i<=Ws.length):(Rsi Ws i).length=i:=by
 unfold Rsi
 rw [length_reverse,length_take]
 omega
theorem Dt_le {X i:Nat} (hl:ps.length=Ws.length) (hi:i<=Ws.length) (h6:i<=6) (hX:∀ W ∈ Ws,∀ c,(W c).natAbs<=X):(Dt Ws ps i).natAbs<=(6*X) ^ i:=by
 have:=det_le (cs:=csi ps i) (cv (b:=X) λ(W:Vz) (hW:W ∈ Rsi Ws i)=>hX W (rsi_mem hW)) (by unfold csi; rw [length_reverse,length_take]; omega)
 rwa [cK,rsi_len i hi] at this
theorem Lf_le {X Y i:Nat} {V:Vz} (hl:ps.length=Ws.length) (hi:i<=Ws.length) (h6:i<6) (hX:∀ W ∈ Ws,∀ c,(W c).natAbs<=X) (hV:∀ c,(V c).natAbs<=Y) (j:Nat):(Lf Ws ps V i j).natAbs<=6*Y*(6*X) ^ i:=by
 have:=det_le (cs:=j::csi ps i) (.cons hV (cv (b:=X) λ(W:Vz) (hW:W ∈ Rsi Ws i)=>hX W (rsi_mem hW))) (by unfold csi; rw [length_cons,length_reverse,length_take]; omega)
 show _<=_
 have e:db (Y::List.replicate (Rsi Ws i).length X)=6*Y*(6*X) ^ i:=by
  show 6*Y*db _=_
  rw [cK,rsi_len i hi]
 rw [e] at this
 exact this
end
def vz (l:List Int):Vz:=λj=>l.getD j 0
theorem cf {l:List Int} {j:Nat} (h:j<l.length):vz l j=l[j]:=by
 unfold vz
 simp [List.getD,h]
theorem bO {l:List Int} {j:Nat} (h:l.length<=j):vz l j=0:=by
 unfold vz
 simp [List.getD,getElem?_eq_none h]
section
variable {P:Int} (hP:gZ P)
abbrev Vn (P:Int):=Nat->Nb P
def Prp (f:Vz) (u:Vn P):Prop:=∃ c:Nb P,c ≠ (nb hP).zero/\∀ j,io hP (f j)=(nb hP).mul c (u j)
theorem io_sub (a b c d:Int):io hP (a*b-c*d)=(nb hP).add ((nb hP).mul (io hP a) (io hP b)) ((nbF hP).neg ((nb hP).mul (io hP c) (io hP d))):=by
 rw [show a*b-c*d=a*b + -(c*d) by omega,io_add,io_neg,bn,bn]
theorem prp_step {f g f':Vz} {u k:Vn P} {p:Nat} {q:Int} (hf:Prp hP f u) (hg:Prp hP g k) (kp:k p ≠ (nb hP).zero) (hq:io hP q ≠ (nb hP).zero)
  (h:∀ j,q*f' j=g p*f j-f p*g j\/(P ≠ 0/\q=1/\f' j=(g p*f j-f p*g j) % P)):Prp hP f' ((nbF hP).red k p u):=by
 obtain ⟨c,c0,ec⟩:=hf
 obtain ⟨d,d0,ed⟩:=hg
 have mn:∀ {x y:Nb P},x ≠ (nb hP).zero->y ≠ (nb hP).zero->(nb hP).mul x y ≠ (nb hP).zero:=λh1 h2=>(nbF hP).mul_ne h1 h2
 have key:∀ j,(nb hP).mul (io hP q) (io hP (f' j))=(nb hP).mul ((nb hP).mul (nb hP |>.mul c d) (k p)) ((nbF hP).red k p u j):=λj=>by
  have e1:(nb hP).mul (io hP q) (io hP (f' j))=io hP (g p*f j-f p*g j):=by
   rcases h j with e | ⟨h0,h1,e⟩
   ·rw [<- bn,e]
   ·rw [h1,io_one,(nb hP).one_mul,e,io_mod hP h0]
  rw [e1,io_sub,ec,ec,ed,ed]
  show (nb hP).add _ ((nbF hP).neg _)=(nb hP).mul _ ((nb hP).add (u j) ((nb hP).mul ((nbF hP).neg ((nbF hP).div (u p) (k p))) (k j)))
  rw [(nb hP).mul_add]
  have nm:∀ x y:Nb P,(nb hP).mul ((nbF hP).neg x) y=(nbF hP).neg ((nb hP).mul x y):=(nbF hP).neg_mul
  have dm:(nb hP).mul ((nbF hP).div (u p) (k p)) (k p)=u p:=(nbF hP).div_mul _ _ kp
  have a1:(nb hP).mul ((nb hP).mul d (k p)) ((nb hP).mul c (u j))=(nb hP).mul ((nb hP).mul ((nb hP).mul c d) (k p)) (u j):=by
   rw [(nb hP).mul_comm c d,(nb hP).mul_assoc d c,(nb hP).mul_assoc d,(nb hP).mul_assoc d,(nb hP).mul_comm c (k p),(nb hP).mul_assoc (k p) c]
  have a2:(nb hP).mul ((nb hP).mul ((nb hP).mul c d) (k p)) ((nb hP).mul ((nbF hP).div (u p) (k p)) (k j))=(nb hP).mul ((nb hP).mul c (u p)) ((nb hP).mul d (k j)):=by
   rw [(nb hP).mul_assoc,<- (nb hP).mul_assoc (k p),(nb hP).mul_comm (k p),dm,(nb hP).mul_assoc,(nb hP).mul_assoc,<- (nb hP).mul_assoc d,(nb hP).mul_comm d (u p),(nb hP).mul_assoc]
  rw [a1,nm,(nb hP).mul_comm _ ((nbF hP).neg _),nm,(nb hP).mul_comm _ ((nb hP).mul ((nb hP).mul c d) (k p)),a2]
 refine ⟨(nbF hP).div ((nb hP).mul ((nb hP).mul c d) (k p)) (io hP q),λz=>?_,λj=>?_⟩
 ·have e:=(nbF hP).div_mul ((nb hP).mul ((nb hP).mul c d) (k p)) (io hP q) hq
  rw [z] at e
  have e':(nb hP).zero=(nb hP).mul ((nb hP).mul c d) (k p):=by rw [<- e]; exact ((nb hP).zero_mul _).symm
  exact mn (mn c0 d0) kp e'.symm
 ·have e:(nb hP).mul ((nbF hP).div ((nb hP).mul ((nb hP).mul c d) (k p)) (io hP q)) (io hP q)=(nb hP).mul ((nb hP).mul c d) (k p):=(nbF hP).div_mul _ _ hq
  have kj:=key j
  generalize (nbF hP).div ((nb hP).mul ((nb hP).mul c d) (k p)) (io hP q)=t at *
  have f1:(nb hP).mul (io hP q) (io hP (f' j))=(nb hP).mul (io hP q) ((nb hP).mul t ((nbF hP).red k p u j)):=by
   rw [kj,<- (nb hP).mul_assoc,(nb hP).mul_comm (io hP q) t,e]
  have can:∀ x y:Nb P,(nb hP).mul (io hP q) x=(nb hP).mul (io hP q) y->x=y:=λx y z=>by
   have i1:=(nbF hP).div_mul (nb hP).one (io hP q) hq
   have i1:(nb hP).mul ((nbF hP).div (nb hP).one (io hP q)) (io hP q)=(nb hP).one:=i1
   rw [<- (nb hP).one_mul x,<- (nb hP).one_mul y,<- i1,(nb hP).mul_assoc,(nb hP).mul_assoc,z]
  exact can _ _ f1
theorem dS {f:Vz} {u:Vn P} (h:Prp hP f u) {j:Nat} (hj:P ≠ 0->0<=f j/\f j<P):f j=0↔u j=(nb hP).zero:=by
 obtain ⟨c,c0,e⟩:=h
 have ej:=e j
 constructor
 ·intro z
  rw [z,e5] at ej
  exact Classical.byContradiction λy=>(nbF hP).mul_ne c0 y ej.symm
 ·intro z
  rw [z,CS.mul_zero] at ej
  by_cases h0:P=0
  ·exact Classical.byContradiction λy=>eA hP h0 y ej
  ·exact Classical.byContradiction λy=>io_neP hP h0 (hj h0).1 (hj h0).2 y ej
structure KI (n:Nat) (Ws:List Vz) (ps:List Nat) (K:List (Nat × Vn P)) (ls:List (List Int)):Prop where
 l1:ps.length=Ws.length
 l2:K.length=Ws.length
 l3:ls.length=Ws.length
 D:P=0->∀ i,i<=Ws.length->Dt Ws ps i ≠ 0
 at_:∀ (i:Nat) (W:Vz) (p:Nat) (k:Nat × Vn P) (l:List Int),Ws[i]? = some W->ps[i]? = some p->K[i]? = some k->ls[i]? = some l->
  k.1=p/\p<n/\l.length=n/\(P ≠ 0->∀ x ∈ l,0<=x/\x<P)/\(P=0->∀ j,j<n->vz l j=Lf Ws ps W i j)/\Prp hP (vz l) k.2/\k.2 p ≠ (nb hP).zero
structure LI (n:Nat) (Ws:List Vz) (ps:List Nat) (K:List (Nat × Vn P)) (V:Vz) (v:Vn P) (i:Nat) (l:List Int):Prop where
 len:l.length=n
 rg:P ≠ 0->∀ x ∈ l,0<=x/\x<P
 lf:P=0->∀ j,j<n->vz l j=Lf Ws ps V i j
 pr:Prp hP (vz l) ((nbF hP).clear (K.take i) v)
def clr (P:Int) (p:Nat) (l o:List Int) (d:Int):List Int:=(List.zipWith (λa b=>vz o p*a-vz l p*b) l o).map λz=>if P=0 then z.fdiv d else z % P
theorem dn {K:List (Nat × Vn P)} {i:Nat} {k:Nat × Vn P} (h:K[i]? = some k) (v:Vn P):(nbF hP).clear (K.take (i+1)) v=(nbF hP).red k.2 k.1 ((nbF hP).clear (K.take i) v):=by
 unfold FL.clear
 rw [take_add_one,h,List.foldl_append]
 rfl
theorem vz_mem {l:List Int} (hl:∀ x ∈ l,0<=x/\x<P) (hP0:0<P) (j:Nat):0<=vz l j/\vz l j<P:=by
 by_cases h:j<l.length
 ·rw [cf h]
  exact hl _ (getElem_mem h)
 ·rw [bO (by omega)]
  exact ⟨Int.le_refl _,hP0⟩
theorem LI.step {n:Nat} {Ws:List Vz} {ps:List Nat} {K:List (Nat × Vn P)} {ls:List (List Int)} {V:Vz} {v:Vn P} {i p:Nat} {l o:List Int} (hK:KI hP n Ws ps K ls) (h:LI hP n Ws ps K V v i l) (ho:ls[i]? = some o) (hp:ps[i]? = some p) :
  LI hP n Ws ps K V v (i+1) (clr P p l o (Dt Ws ps i))/\vz o p ≠ 0/\(P=0->vz o p=Dt Ws ps (i+1)):=by
 have hB:=hP.b
 have hi:i<Ws.length:=by rw [<- hK.l3]; exact (List.getElem?_eq_some_iff.mp ho).1
 have eW:Ws[i]? = some Ws[i]:=getElem?_eq_getElem hi
 have hi2:i<K.length:=by rw [hK.l2]; exact hi
 have eK:K[i]? = some K[i]:=getElem?_eq_getElem hi2
 obtain ⟨k1,k2,k3,k4,k5,k6,k7⟩:=hK.at_ i _ _ _ _ eW hp eK ho
 have lz:(List.zipWith (λa b=>vz o p*a-vz l p*b) l o).length=n:=by rw [length_zipWith,h.len,k3,Nat.min_self]
 have lc:(clr P p l o (Dt Ws ps i)).length=n:=by unfold clr; rw [length_map,lz]
 have at_:∀ j,j<n->vz (clr P p l o (Dt Ws ps i)) j=if P=0 then (vz o p*vz l j-vz l p*vz o j).fdiv (Dt Ws ps i) else (vz o p*vz l j-vz l p*vz o j) % P:=λj hj=>by
  rw [cf (l:=clr P p l o (Dt Ws ps i)) (j:=j) (by omega),cf (l:=l) (j:=j) (by rw [h.len]; exact hj),cf (l:=o) (j:=j) (by omega)]
  unfold clr
  rw [getElem_map,List.getElem_zipWith]
 have ex:P=0->∀ j,j<n->vz o p*vz l j-vz l p*vz o j=Dt Ws ps i*Lf Ws ps V (i+1) j:=λh0 j hj=>by
  rw [k5 h0 p k2,k5 h0 j hj,h.lf h0 j hj,h.lf h0 p k2,cP eW hp]
  exact bareiss hK.l1 (hK.D h0) eW hp V j
 have op:vz o p ≠ 0:=λz=>k7 ((dS hP k6 λh0=>vz_mem (k4 h0) (by omega) p).mp z)
 refine ⟨⟨lc,λh0 x hx=>?_,λh0 j hj=>?_,?_⟩,op,λh0=>by rw [k5 h0 p k2,cP eW hp]⟩
 ·unfold clr at hx
  obtain ⟨z,_,rfl⟩:=List.mem_map.mp hx
  rw [if_neg h0]
  exact ⟨Int.emod_nonneg _ h0,Int.emod_lt_of_pos _ (by omega)⟩
 ·rw [at_ j hj,if_pos h0,ex h0 j hj]
  exact Int.mul_fdiv_cancel_left _ (hK.D h0 i (by omega))
 ·rw [dn hP eK]
  subst k1
  by_cases h0:P=0
  ·refine prp_step hP (q:=Dt Ws ps i) h.pr k6 k7 (eA hP h0 (hK.D h0 i (by omega))) λj=>.inl ?_
   by_cases hj:j<n
   ·rw [at_ j hj,if_pos h0,ex h0 j hj,Int.mul_fdiv_cancel_left _ (hK.D h0 i (by omega))]
   ·rw [bO (l:=clr P _ l o _) (j:=j) (by omega),bO (l:=l) (j:=j) (by have:=h.len; omega),bO (l:=o) (j:=j) (by omega)]
    simp
  ·have i1:io hP 1 ≠ (nb hP).zero:=λz=>by
    rw [io_one] at z
    have:=congrArg (λy:Nb P=>y.1.1) z
    exact absurd this (by show ¬ (1:Int)=0; decide)
   refine prp_step hP (q:=1) h.pr k6 k7 i1 λj=>?_
   by_cases hj:j<n
   ·exact .inr ⟨h0,rfl,by rw [at_ j hj,if_neg h0]⟩
   ·left
    rw [bO (l:=clr P _ l o _) (j:=j) (by omega),bO (l:=l) (j:=j) (by have:=h.len; omega),bO (l:=o) (j:=j) (by omega)]
    simp
theorem KI.snoc {n:Nat} {Ws:List Vz} {ps:List Nat} {K:List (Nat × Vn P)} {ls:List (List Int)} {V:Vz} {v:Vn P} {p:Nat} {l:List Int} (hK:KI hP n Ws ps K ls) (h:LI hP n Ws ps K V v Ws.length l) (hp:p<n) (z:vz l p ≠ 0) :
  KI hP n (Ws++[V]) (ps++[p]) (K++[(p,(nbF hP).clear K v)]) (ls++[l]):=by
 have l1:=hK.l1
 have l2:=hK.l2
 have l3:=hK.l3
 have tk:∀ i,i<=Ws.length->Rsi (Ws++[V]) i=Rsi Ws i/\csi (ps++[p]) i=csi ps i:=λi hi=>by
  unfold Rsi csi
  rw [take_append_of_le_length hi,take_append_of_le_length (by omega)]
  exact ⟨rfl,rfl⟩
 have kt:K.take Ws.length=K:=by rw [<- l2]; exact take_length ..
 have e1:(Ws++[V])[Ws.length]? = some V:=by simp
 have e2:(ps++[p])[Ws.length]? = some p:=by rw [<- l1]; simp
 refine ⟨by simp [l1],by simp [l2],by simp [l3],λh0 i hi=>?_,λi W q k o a1 a2 a3 a4=>?_⟩
 ·rw [length_append,length_singleton] at hi
  by_cases hi':i<=Ws.length
  ·unfold Dt
   rw [(tk i hi').1,(tk i hi').2]
   exact hK.D h0 i hi'
  ·obtain rfl:i=Ws.length+1:=by omega
   rw [<- cP e1 e2]
   unfold Lf
   rw [(tk _ (Nat.le_refl _)).1,(tk _ (Nat.le_refl _)).2]
   have:=h.lf h0 p hp
   unfold Lf at this
   rw [<- this]
   exact z
 ·by_cases hi:i<Ws.length
  ·rw [getElem?_append_left hi] at a1
   rw [getElem?_append_left (by omega)] at a2
   rw [getElem?_append_left (by omega)] at a3
   rw [getElem?_append_left (by omega)] at a4
   obtain ⟨k1,k2,k3,k4,k5,k6,k7⟩:=hK.at_ i W q k o a1 a2 a3 a4
   refine ⟨k1,k2,k3,k4,λh0 j hj=>?_,k6,k7⟩
   rw [k5 h0 j hj]
   unfold Lf
   rw [(tk i (by omega)).1,(tk i (by omega)).2]
  ·have hi':i=Ws.length:=by
    have:=(List.getElem?_eq_some_iff.mp a1).1
    rw [length_append,length_singleton] at this
    omega
   subst hi'
   rw [e1] at a1
   rw [e2] at a2
   cases a1
   cases a2
   rw [<- l2] at a3
   rw [<- l3] at a4
   simp only [getElem?_concat_length,Option.some.injEq] at a3 a4
   subst a3 a4
   refine ⟨rfl,hp,h.len,h.rg,λh0 j hj=>?_,?_,λy=>?_⟩
   ·rw [h.lf h0 j hj]
    unfold Lf
    rw [(tk _ (Nat.le_refl _)).1,(tk _ (Nat.le_refl _)).2]
   ·have:=h.pr
    rwa [kt] at this
   ·have pr:=h.pr
    rw [kt] at pr
    exact z ((dS hP pr λh0=>vz_mem (h.rg h0) (by have:=hP.b; omega) p).mpr y)
theorem KI.nil (n:Nat):KI hP n [] [] [] []:=⟨rfl,rfl,rfl,λ_ i hi=>by
 obtain rfl:i=0:=by simpa using hi
 exact Int.one_ne_zero,λi W p k l a=>by simp at a⟩
end
section
variable {P:Int} (hP:gZ P)
instance:Std.Associative (nb hP).mul:=⟨(nb hP).mul_assoc⟩
instance:Std.Commutative (nb hP).mul:=⟨(nb hP).mul_comm⟩
theorem io_can {q:Int} (hq:io hP q ≠ (nb hP).zero) {x y:Nb P} (z:(nb hP).mul (io hP q) x=(nb hP).mul (io hP q) y):x=y:=by
 have i1:(nb hP).mul ((nbF hP).div (nb hP).one (io hP q)) (io hP q)=(nb hP).one:=(nbF hP).div_mul _ _ hq
 rw [<- (nb hP).one_mul x,<- (nb hP).one_mul y,<- i1,(nb hP).mul_assoc,(nb hP).mul_assoc,z]
structure LK (n X0 L0:Nat) (Ws:List Vz) (ps:List Nat) (es:List Int) (K:List (Nat × Vn P)):Prop where
 l1:ps.length=Ws.length
 l2:K.length=Ws.length
 l3:es.length=Ws.length
 D:∀ i,i<=Ws.length->Dt Ws ps i ≠ 0
 X:∀ W ∈ Ws,∀ c,(W c).natAbs<=X0
 L:∀ e ∈ es,e ≠ 0/\e.natAbs<=L0
 at_:∀ (i:Nat) (W:Vz) (p:Nat) (e:Int) (k:Nat × Vn P),Ws[i]? = some W->ps[i]? = some p->es[i]? = some e->K[i]? = some k->
  k.1=p/\p<n/\(∀ j,j<n->io hP (Lf Ws ps W i j)=(nb hP).mul (io hP (Dt Ws ps i*e)) (k.2 j))/\k.2 p ≠ (nb hP).zero
def LL (n:Nat) (Ws:List Vz) (ps:List Nat) (K:List (Nat × Vn P)) (V:Vz) (e:Int) (v:Vn P) (i:Nat):Prop:=∀ j,j<n->io hP (Lf Ws ps V i j)=(nb hP).mul (io hP (Dt Ws ps i*e)) ((nbF hP).clear (K.take i) v j)
theorem LK.off {n X0 L0:Nat} {Ws:List Vz} {ps:List Nat} {es:List Int} {K:List (Nat × Vn P)} (h0:P=0) (hK:LK hP n X0 L0 Ws ps es K) {V W:Vz} {e f:Int} {v:Vn P} {i p:Nat} {k:Nat × Vn P} (h:LL hP n Ws ps K V e v i) (eW:Ws[i]? = some W) (ep:ps[i]? = some p) (ee:es[i]? = some f) (eK:K[i]? = some k) (j:Nat) (hj:j<n) :
  (nb hP).mul (io hP (Dt Ws ps i*(Dt Ws ps (i+1)*e))) ((nb hP).mul ((nbF hP).div ((nbF hP).clear (K.take i) v p) (k.2 p)) (k.2 j))=io hP (Lf Ws ps V i p*Lf Ws ps W i j):=by
 obtain ⟨k1,k2,k3,k4⟩:=hK.at_ i W p f k eW ep ee eK
 have hi:i<Ws.length:=(List.getElem?_eq_some_iff.mp eW).1
 have f0:=(hK.L f (mem_of_getElem? ee)).1
 have D0:=hK.D i (by omega)
 have dm:(nb hP).mul ((nbF hP).div ((nbF hP).clear (K.take i) v p) (k.2 p)) (k.2 p)=(nbF hP).clear (K.take i) v p:=(nbF hP).div_mul _ _ k4
 have a1:=h p k2
 have a2:=k3 j hj
 have a3:=k3 p k2
 rw [cP eW ep] at a3
 generalize (nbF hP).clear (K.take i) v p=U at *
 generalize (nbF hP).div U (k.2 p)=q at *
 rw [bn hP (Lf Ws ps V i p),a1,a2,<- dm,bn,bn hP (Dt Ws ps (i+1)),a3,bn,bn]
 generalize io hP (Dt Ws ps i)=D
 generalize io hP e=E
 generalize io hP f=F
 generalize k.2 p=kp
 generalize k.2 j=kj
 ac_rfl
theorem LL.step {n X0 L0:Nat} {Ws:List Vz} {ps:List Nat} {es:List Int} {K:List (Nat × Vn P)} (h0:P=0) (hK:LK hP n X0 L0 Ws ps es K) {V W:Vz} {e f:Int} {v:Vn P} {i p:Nat} {k:Nat × Vn P} (h:LL hP n Ws ps K V e v i) (eW:Ws[i]? = some W) (ep:ps[i]? = some p) (ee:es[i]? = some f) (eK:K[i]? = some k):LL hP n Ws ps K V e v (i+1):=λj hj=>by
 have hi:i<Ws.length:=(List.getElem?_eq_some_iff.mp eW).1
 have D0:=hK.D i (by omega)
 have off:=hK.off hP h0 h eW ep ee eK j hj
 obtain ⟨k1,k2,k3,k4⟩:=hK.at_ i W p f k eW ep ee eK
 refine io_can hP (eA hP h0 D0) ?_
 rw [<- bn,<- bareiss hK.l1 hK.D eW ep V j,dn hP eK,io_sub,h j hj]
 show _=(nb hP).mul (io hP (Dt Ws ps i)) ((nb hP).mul _ ((nb hP).add _ ((nb hP).mul ((nbF hP).neg _) (k.2 j))))
 have nm:∀ x y:Nb P,(nb hP).mul ((nbF hP).neg x) y=(nbF hP).neg ((nb hP).mul x y):=(nbF hP).neg_mul
 rw [k1,nm,(nb hP).mul_add,(nb hP).mul_add]
 congr 1
 ·rw [bn,bn]
  ac_rfl
 ·have e1:∀ x:Nb P,(nb hP).mul (io hP (Dt Ws ps i)) ((nb hP).mul (io hP (Dt Ws ps (i+1)*e)) ((nbF hP).neg x))=(nbF hP).neg ((nb hP).mul (io hP (Dt Ws ps i*(Dt Ws ps (i+1)*e))) x):=λx=>by
   rw [(nb hP).mul_comm _ ((nbF hP).neg x),nm,(nb hP).mul_comm _ ((nbF hP).neg _),nm,(nb hP).mul_comm _ (io hP (Dt Ws ps i)),(nb hP).mul_comm x,<- (nb hP).mul_assoc,<- bn]
  rw [e1,off,bn]
theorem LK.snoc {n X0 L0:Nat} {Ws:List Vz} {ps:List Nat} {es:List Int} {K:List (Nat × Vn P)} (h0:P=0) (hK:LK hP n X0 L0 Ws ps es K) {V:Vz} {e:Int} {v:Vn P} {p:Nat} (h:LL hP n Ws ps K V e v Ws.length) (hp:p<n) (hX:∀ c,(V c).natAbs<=X0) (hL:e ≠ 0/\e.natAbs<=L0) (z:(nbF hP).clear K v p ≠ (nb hP).zero) :
  LK hP n X0 L0 (Ws++[V]) (ps++[p]) (es++[e]) (K++[(p,(nbF hP).clear K v)]):=by
 have l1:=hK.l1
 have l2:=hK.l2
 have l3:=hK.l3
 have tk:∀ i,i<=Ws.length->Rsi (Ws++[V]) i=Rsi Ws i/\csi (ps++[p]) i=csi ps i:=λi hi=>by
  unfold Rsi csi
  rw [take_append_of_le_length hi,take_append_of_le_length (by omega)]
  exact ⟨rfl,rfl⟩
 have kt:K.take Ws.length=K:=by rw [<- l2]; exact take_length ..
 have e1:(Ws++[V])[Ws.length]? = some V:=by simp
 have e2:(ps++[p])[Ws.length]? = some p:=by rw [<- l1]; simp
 have lt:∀ (W:Vz) i j,i<=Ws.length->Lf (Ws++[V]) (ps++[p]) W i j=Lf Ws ps W i j:=λW i j hi=>by unfold Lf; rw [(tk i hi).1,(tk i hi).2]
 have dt:∀ i,i<=Ws.length->Dt (Ws++[V]) (ps++[p]) i=Dt Ws ps i:=λi hi=>by unfold Dt; rw [(tk i hi).1,(tk i hi).2]
 have hv:∀ j,j<n->io hP (Lf Ws ps V Ws.length j)=(nb hP).mul (io hP (Dt Ws ps Ws.length*e)) ((nbF hP).clear K v j):=λj hj=>by
  have:=h j hj
  rwa [kt] at this
 refine ⟨by simp [l1],by simp [l2],by simp [l3],λi hi=>?_,λW hW=>?_,λf hf=>?_,λi W q f k a1 a2 a3 a4=>?_⟩
 ·rw [length_append,length_singleton] at hi
  by_cases hi':i<=Ws.length
  ·rw [dt i hi']
   exact hK.D i hi'
  ·obtain rfl:i=Ws.length+1:=by omega
   rw [<- cP e1 e2,lt _ _ _ (Nat.le_refl _)]
   intro y
   have:=hv p hp
   rw [y,e5] at this
   exact (nbF hP).mul_ne (eA hP h0 (Int.mul_ne_zero (hK.D _ (Nat.le_refl _)) hL.1)) z this.symm
 ·rcases List.mem_append.mp hW with y | y
  ·exact hK.X W y
  ·rw [List.mem_singleton.mp y]
   exact hX
 ·rcases List.mem_append.mp hf with y | y
  ·exact hK.L f y
  ·rw [List.mem_singleton.mp y]
   exact hL
 ·by_cases hi:i<Ws.length
  ·rw [getElem?_append_left hi] at a1
   rw [getElem?_append_left (by omega)] at a2
   rw [getElem?_append_left (by omega)] at a3
   rw [getElem?_append_left (by omega)] at a4
   obtain ⟨k1,k2,k3,k4⟩:=hK.at_ i W q f k a1 a2 a3 a4
   refine ⟨k1,k2,λj hj=>?_,k4⟩
   rw [lt _ _ _ (by omega),dt _ (by omega)]
   exact k3 j hj
  ·have hi':i=Ws.length:=by
    have:=(List.getElem?_eq_some_iff.mp a1).1
    rw [length_append,length_singleton] at this
    omega
   subst hi'
   rw [e1] at a1
   rw [e2] at a2
   cases a1
   cases a2
   rw [<- l3] at a3
   rw [<- l2] at a4
   simp only [getElem?_concat_length,Option.some.injEq] at a3 a4
   subst a3 a4
   refine ⟨rfl,hp,λj hj=>?_,z⟩
   rw [lt _ _ _ (Nat.le_refl _),dt _ (Nat.le_refl _)]
   exact hv j hj
theorem LK.nil (n X0 L0:Nat):LK hP n X0 L0 [] [] [] []:=⟨rfl,rfl,rfl,λi hi=>by
 obtain rfl:i=0:=by simpa using hi
 exact Int.one_ne_zero,λW hW=>(nomatch hW),λe he=>(nomatch he),λi W p e k a=>by simp at a⟩
theorem gF (h0:P=0) {x:Nb P} {a b:Int} {z:Nat} (hb:b ≠ 0) (e:(nb hP).mul (io hP b) x=io hP a) (h1:a.natAbs<2 ^ z) (h2:b.natAbs<2 ^ z):Sz z x.1:=by
 have q:=io_frac hP x
 have k:io hP (b*x.1.1)=io hP (a*x.1.2):=by
  rw [bn,bn,<- q,<- e]
  ac_rfl
 have k':b*x.1.1=a*x.1.2:=by
  have:=Classical.byContradiction λy:¬ b*x.1.1-a*x.1.2=0=>eA hP h0 y (by
   rw [show b*x.1.1-a*x.1.2=b*x.1.1 + -(a*x.1.2) by omega,io_add,io_neg,k]
   exact (nbF hP).add_neg _)
  omega
 rcases x.2 with ⟨_,d0,g⟩ | ⟨y,_⟩
 ·have d1:x.1.2.natAbs ∣ b.natAbs:=dvd_cop g (b:=b) (a:=a) (by rw [Int.mul_comm]; exact k')
  have d2:x.1.2.natAbs<=b.natAbs:=Nat.le_of_dvd (by omega) d1
  refine ⟨?_,by omega⟩
  obtain ⟨c,hc⟩:=d1
  have hm:b.natAbs*x.1.1.natAbs=a.natAbs*x.1.2.natAbs:=by rw [<- Int.natAbs_mul,k',Int.natAbs_mul]
  rw [hc,Nat.mul_assoc,Nat.mul_comm a.natAbs] at hm
  have hm:=Nat.eq_of_mul_eq_mul_left (by omega:0<x.1.2.natAbs) hm
  have c1:1<=c:=by
   rcases Nat.eq_zero_or_pos c with y | y
   ·subst y; omega
   ·exact y
  have:=Nat.le_mul_of_pos_left x.1.1.natAbs c1
  omega
 ·exact absurd h0 y
end
theorem nd_1:(["own", "taken", "first", "factor"]:List Str).Nodup:=by decide +kernel
theorem nd_2:(["whole", "prime"]:List Str).Nodup:=by decide +kernel
theorem nd_3:(["whole", "divisor"]:List Str).Nodup:=by decide +kernel
theorem nd_4:(["number", "numbers"]:List Str).Nodup:=by decide +kernel
theorem nd_5:(["fraction", "bottom"]:List Str).Nodup:=by decide +kernel
def spWide:Sp:=λvs H Q _=>∃ (p:Addr) (a b:Int) (k:Nat),vs=[.ref p]/\H p=some (.lst [.int a,.int b])/\hJ a b k/\k<=100000/\
 ∀ (v:V) (x:Int × Int) (a' b':Int) (H':Hp),At 0 H' v x->OkN 0 x->Sz 35 x->H' p=some (.lst [.int a',.int b'])->hJ a' b' (k+3)->(∀ c o,H c=some o->c ≠ p->H' c=some o)->Q v H'
theorem gG:g0 ["_law_bag_here"] ["_law_bag_here"] (aj cF):=.i
theorem ok_wide {f:Addr} {fd:FuncData} (F:Fun K "_law_wide" "_law_wide" cF f fd) (iX:FnB P w K mg base 1 "_law_take" cw) (iY:FnB P w K mg base 1 "_law_low" fF):aI P w K mg base CX0 2 f fd ["_law_bag_here"] spWide:=by
 refine F.o gG λ_ _ _ _ H _ Q _ hr h=>?_
 ·obtain ⟨p,a,b,k,rfl,hp,hb,hk,q⟩:=h
  refine ⟨_,(ah (ao (ay iY hr.m (aa (ai aW (ai bA (ai aW ac (ay iX hr.m (aa (pv 0) (aa ac ag)))) ac) (ay iX hr.m (aa (pv 0) (aa (ai cj ac ac) ag)))) (aa (ai bb ac (ay iX hr.m (aa (pv 0) (aa (ai bA (ai cj ac ac) ac) ag)))) ag))))),?_⟩
  refine ⟨_,rfl,p,a,b,2,k,rfl,hp,hb,by omega,by decide,aD (by decide) (by decide),λr1 a1 b1 r10 r11 hb1=>?_⟩
  refine ⟨_,_,rfl,rfl,.inl ⟨by decide,by decide⟩,_,_,rfl,rfl,?_⟩
  refine ⟨_,rfl,_,_,rfl,rfl,⟨by decide,by decide,by decide⟩,p,a1,b1,_,k+1,rfl,af,hb1,by omega,by rw [bK]; decide,by rw [bK]; exact aD (by decide) (by decide),λr2 a2 b2 r20 r21 hb2=>?_⟩
  rw [bK] at r21
  refine ⟨_,_,rfl,rfl,.inl ⟨by omega,by omega⟩,?_⟩
  refine ⟨_,rfl,_,_,rfl,rfl,⟨by decide,by decide,by decide⟩,_,_,rfl,rfl,p,a2,b2,_,k+2,rfl,af,hb2,by omega,by rw [bK]; decide,by rw [bK]; exact aD (by decide) (by decide),λr3 a3 b3 r30 r31 hb3=>?_⟩
  rw [bK] at r31
  refine ⟨_,_,rfl,rfl,_,_,rfl,by omega,aD (by omega) (by omega),λt ht=>?_⟩
  rw [bz,bz] at ht ⊢
  have h01:r1=0\/r1=1:=by omega
  have hb4:((2*r1-1)*r2).natAbs<2 ^ 35:=by
   rcases h01 with z | z<;>subst z<;>omega
  have pt:p ≠ t:=al (o:=.lst [.int a3,.int b3]) af ht
  generalize (2*r1-1)*r2=n at *
  have hl:=fR n (1+r3) (by omega)
  refine q _ (nrm n (1+r3)) a3 b3 _ (.inl ⟨rfl,t,rfl,af⟩) (.inl ⟨rfl,bS _ _ (by omega),bQ _ _ (by omega)⟩) ⟨Nat.lt_of_le_of_lt hl.1 hb4,Nat.lt_of_le_of_lt hl.2 (by omega)⟩ (by rw [ar pt,af]) hb3 λc o e hc=>?_
  have e1:upd H p (.lst [.int a3,.int b3]) c=some o:=by rw [ar hc]; exact e
  rw [ar (al e1 ht)]
  exact e1
theorem NumsAt.mono {CF CR x:Addr} {p:Int} {H H':Hp} (h:NumsAt CF CR H x p) (k:∀ o,H x=some o->H' x=some o):NumsAt CF CR H' x p:=by
 rcases h with ⟨h0,dx,e⟩ | ⟨h0,dx,e⟩
 ·exact .inl ⟨h0,dx,k _ e⟩
 ·exact .inr ⟨h0,dx,k _ e⟩
theorem mod_no {m:Str} (e:(m == ("modulus" : Str))=false) (v:V):List.lookup m [(("modulus" : Str),v)]=none:=by
 simp only [List.lookup,e]
def spFPr:Sp:=λvs H Q _=>∃ x:V,vs=[x]/\Q (.int 0) H
def spRPr (CR:Addr):Sp:=λvs H Q _=>∃ (x dx:Addr) (p:Int),vs=[.ref x]/\H x=some (.ins CR dx [("modulus",.int p)])/\Q (.int p) H
def Fr (H:Hp) (t:Addr) (x:Int × Int):Prop:=H t=some (.tup [.int x.1,.int x.2])
def spTB (CF CR:Addr):Sp:=λvs H Q _=>∃ (x:Addr) (P:Int) (u:V) (a:Int × Int),vs=[.ref x,u]/\NumsAt CF CR H x P/\At P H u a/\∀ t H',gY H H'->Fr H' t a->Q (.ref t) H'
theorem df:g0 ["self"] ["self"] (aj aH):=.i
theorem ok_fpr {f:Addr} {fd:FuncData} (F:Fun K "prime" "Fractions.prime" aH f fd):aI P w K mg base CX0 1 f fd ["self"] spFPr:=by
 refine F.o df λ_ _ _ _ H _ Q _ hr h=>?_
 ·obtain ⟨x,rfl,q⟩:=h
  exact ⟨_,(ah (ao ac)),q⟩
theorem fx:g0 ["self"] ["self"] (aj aZ):=.i
theorem ok_rpr {f CR:Addr} {fd:FuncData} (F:Fun K "prime" "Rests.prime" aZ f fd) (cl:Cls K CR) (nM:NoAttr K CR "modulus"):aI P w K mg base CX0 1 f fd ["self"] (spRPr CR):=by
 refine F.o fx λ_ _ _ _ H _ Q _ hr h=>?_
 ·obtain ⟨x,dx,p,rfl,hx,q⟩:=h
  exact ⟨_,(ah (ao (pe_fld (pv 0) rfl))),⟨_,rfl,x,CR,dx,_,_,rfl,hx,cl,nM,rfl,q⟩⟩
theorem dG:g0 ["numbers", "number"] ["numbers", "number"] (aj bC):=.i
theorem ok_tb {f CF CR:Addr} {fd:FuncData} (F:Fun K "top_and_bottom" "top_and_bottom" bC f fd) (kI:MtB P w K mg base 1 CF "prime" spFPr) (kJ:MtB P w K mg base 1 CR "prime" (spRPr CR)):aI P w K mg base CX0 2 f fd ["numbers", "number"] (spTB CF CR):=by
 refine F.o dG λ_ _ _ _ H _ Q _ hr h=>?_
 ·obtain ⟨x,P,u,a,rfl,hN,hu,q⟩:=h
  refine ⟨_,(ae (aR (az bZ (pe_two (gO kI hr.m (pv 0)) (gO kJ hr.m (pv 0))) ac (aA _))
(ah (ao (pv 1)))
aC)
(ah (ao (en (aa (pv 1) (aa ac ag)))))),?_⟩
  rcases hN with ⟨h0,dx,e⟩ | ⟨h0,dx,e⟩
  ·rcases hu with ⟨_,t,rfl,ht⟩ | ⟨z,_⟩
   ·exact .inl ⟨_,rfl,x,dx,_,rfl,e,rfl,.ref x,rfl,rfl,_,rfl,iteT ⟨_,rfl,q t H (gY.refl _) ht⟩⟩
   ·exact absurd h0 z
  ·rcases hu with ⟨z,_⟩ | ⟨_,rfl,h1⟩
   ·exact absurd z h0
   ·refine .inr ⟨_,rfl,x,dx,_,rfl,e,mod_no (by decide +kernel) _,x,dx,P,rfl,e,rfl,_,rfl,?_⟩
    rw [decide_eq_false (show ¬ V.int P=V.int 0 from λz=>h0 (by injection z))]
    refine eo ⟨_,rfl,(by show 2<=sizeLine; decide),λt nt=>q t _ (gY.new nt) ?_⟩
    show upd H t (.tup [.int a.1,.int 1]) t=some (.tup [.int a.1,.int a.2])
    rw [h1,af]
def spLM:Sp:=λvs H Q _=>∃ a b:Nat,vs=[.int a,.int b]/\0<a/\0<b/\a<2 ^ 4300/\b<2 ^ 4300/\Q (.int (Nat.lcm a b)) H
def RowN (P:Int) (H:Hp) (v:V) (xs:List (Int × Int)):Prop:=∃ l us,v=.ref l/\H l=some (.lst us)/\Paired (At P H) us xs
def spWN (CF CR:Addr):Sp:=λvs H Q _=>∃ (x l:Addr) (P:Int) (us:List V) (xs:List (Int × Int)) (B M:Nat),vs=[.ref x,.ref l]/\gZ P/\NumsAt CF CR H x P/\H l=some (.lst us)/\Paired (At P H) us xs/\xs.length<=6/\(∀ y ∈ xs,OkN P y/\Rw B M y)/\0<B/\1<=M/\M*B<2 ^ 4300/\
 ∀ (d:Addr) (ns:List Int) (b:Nat) (H':Hp),H d=none->gY H H'->H' d=some (.lst (ns.map V.int))->ns.length=xs.length->0<b->b ∣ B->(P ≠ 0->b=1)->(∀ (j:Nat) (y:Int × Int) (z:Int),xs[j]? = some y->ns[j]? = some z->z*y.2=y.1*b)->Q (.ref d) H'
def spCl:Sp:=λvs H Q _=>∃ (P:Int) (p:Nat) (l o:Addr) (ls os:List Int) (d:Int),vs=[.int P,.int p,.ref l,.ref o,.int d]/\0<=P/\P<10000/\H l=some (.lst (ls.map V.int))/\H o=some (.lst (os.map V.int))/\ls.length=os.length/\p<ls.length/\ls.length<=6/\(∀ z ∈ ls,z.natAbs<2 ^ 8800)/\(∀ z ∈ os,z.natAbs<2 ^ 8800)/\(P=0->d ≠ 0/\d.natAbs<2 ^ 8800)/\
 ∀ (r:Addr) (H':Hp),H r=none->gY H H'->H' r=some (.lst ((clr P p ls os d).map V.int))->Q (.ref r) H'
theorem lcm_eq {a b:Nat} (ha:0<a):(a:Int).fdiv (Int.gcd a b:Int)*b=(Nat.lcm a b:Int):=by
 have hg:0<Nat.gcd a b:=Nat.gcd_pos_of_pos_left b ha
 obtain ⟨c,hc⟩:=Nat.gcd_dvd_left a b
 have e1:(Int.gcd (a:Int) (b:Int))=Nat.gcd a b:=rfl
 have e2:(a:Int).fdiv (Nat.gcd a b:Int)=c:=by
  conv=>lhs; rw [hc]
  rw [Int.natCast_mul]
  have e3:Nat.gcd (Nat.gcd a b*c) b=Nat.gcd a b:=by rw [<- hc]
  rw [e3]
  exact Int.mul_fdiv_cancel_left _ (by omega)
 rw [e1,e2,<- Int.natCast_mul]
 congr 1
 unfold Nat.lcm
 refine (Nat.div_eq_of_eq_mul_right hg ?_).symm
 conv=>lhs; rw [hc]
 rw [Nat.mul_assoc]
theorem dZ:g0 ["one", "other"] ["one", "other"] (aj bF):=.i
theorem ok_lm {f:Addr} {fd:FuncData} (F:Fun K "least_multiple" "least_multiple" bF f fd) (jm:FnB P w K mg base 1 "greatest_divisor" spGcd):aI P w K mg base CX0 2 f fd ["one", "other"] spLM:=by
 refine F.o dZ λ_ _ _ _ H _ Q _ hr h=>?_
 ·obtain ⟨a,b,rfl,ha,hb,sa,sb,q⟩:=h
  refine ⟨_,(ah (ao (ai bu (ai br (pv 0) (ay jm hr.m (aa (pv 0) (aa (pv 1) ag)))) (pv 1)))),?_⟩
  have hg:0<Nat.gcd a b:=Nat.gcd_pos_of_pos_left b ha
  have gl:Nat.gcd a b<=a:=Nat.le_of_dvd ha (Nat.gcd_dvd_left a b)
  have p88:(2:Nat) ^ 4300<2 ^ 8800:=Nat.pow_lt_pow_right (by decide) (by decide)
  have cd:CDivA (a:Int) (Int.gcd (a:Int) (b:Int):Int):=⟨by show ((Nat.gcd a b:Nat):Int) ≠ 0; omega,by show (((Nat.gcd a b:Nat):Int)).natAbs<_; rw [Int.natAbs_natCast]; omega⟩
  have dl:((a:Int).fdiv (Int.gcd (a:Int) (b:Int):Int)).natAbs<=a:=by
   have e:=(fdiv_gcd (a:=(a:Int)) (b:=(b:Int)) (by omega) (by omega)).1
   have h1:=congrArg Int.natAbs e
   rw [Int.natAbs_mul,Int.natAbs_natCast,Int.natAbs_natCast] at h1
   have:1<=Int.gcd (a:Int) (b:Int):=hg
   have:=Nat.le_mul_of_pos_left ((a:Int).fdiv (Int.gcd (a:Int) (b:Int):Int)).natAbs this
   omega
  refine ⟨_,rfl,_,rfl,_,rfl,_,_,rfl,_,_,rfl,rfl,cd,_,rfl,_,_,rfl,rfl,fu (by omega) (by rw [Int.natAbs_natCast]; omega),?_⟩
  show Q (.int ((a:Int).fdiv (Int.gcd (a:Int) (b:Int):Int)*(b:Int))) H
  rw [lcm_eq ha]
  exact q
theorem iu:g0 ["prime", "place", "left", "other", "divisor", "first", "factor", "found"] ["prime", "place", "left", "other", "divisor"] (aj cB):=.i
theorem ok_clear {f:Addr} {fd:FuncData} (F:Fun K "cleared_at" "cleared_at" cB f fd) (T:Blt mg):aI P w K mg base CX0 1 f fd ["prime", "place", "left", "other", "divisor"] spCl:=by
 refine F.o iu λ_ _ _ _ H _ Q _ hr h=>?_
 ·obtain ⟨P,p,l,o,ls,os,d,rfl,P0,P1,hl,ho,lo,pl,l6,bl,bo,hd,q⟩:=h
  refine ⟨_,(ae (aq (i:=5) iu.nd rfl (Or.inr rfl) (aE (aB K rfl) (pv 3) (pv 1) (λ_ _=>rfl)))
(ae (aq (i:=6) iu.nd rfl (Or.inr rfl) (aE (aB K rfl) (pv 2) (pv 1) (λ_ _=>rfl)))
(ae (bt (i:=7) iu.nd rfl (Or.inl rfl) (N:=["own", "taken", "first", "factor"]) (src:=[none,none,some 5,some 6]) rfl rfl rfl (by exact (gD K false false rfl rfl T.zip (aa (pv 2) (aa (pv 3) ag)))) (λ_ _ _=>by exact ⟨by exact (cU K (i:=0) (j:=1) rfl rfl nd_1 rfl rfl rfl rfl),aX,by exact (ai bA (ai bu (pv 2) (pv 0)) (ai bu (pv 3) (pv 1)))⟩))
(ae (aR (az op_ne (pv 0) ac (aA _))
(ah (ao (by exact cW (N:=["whole", "prime"]) (src:=[none,some 0]) rfl rfl rfl (by exact (aO K rfl (pv 7))) (λ_ _ _=>by exact ⟨by exact (bX (i:=0) nd_2 rfl rfl),aX,by exact (ai aV (pv 0) (pv 1))⟩))))
aC)
(ah (ao (by exact cW (N:=["whole", "divisor"]) (src:=[none,some 4]) rfl rfl rfl (by exact (aO K rfl (pv 7))) (λ_ _ _=>by exact ⟨by exact (bX (i:=0) nd_3 rfl rfl),aX,by exact (ai br (pv 0) (pv 1))⟩)))))))),?_⟩
  have mz:∀ {k:Nat} (zs:List Int) (h:k<zs.length),atI (zs.map V.int) (k:Int)=some (.int (vz zs k)):=λ{k} zs h=>bh (by rw [getElem?_map,getElem?_eq_getElem h,cf h]; rfl)
  have vo:(vz os p).natAbs<2 ^ 8800:=by rw [cf (by omega)]; exact bo _ (getElem_mem _)
  have vl:(vz ls p).natAbs<2 ^ 8800:=by rw [cf pl]; exact bl _ (getElem_mem _)
  refine ⟨_,rfl,_,rfl,o,_,_,_,rfl,rfl,SqL.of ho,mz os (by omega),?_⟩
  refine ⟨_,rfl,_,rfl,l,_,_,_,rfl,rfl,SqL.of hl,mz ls pl,?_⟩
  refine ⟨_,rfl,_,rfl,l,o,rfl,⟨_,dr (SqL.of hl)⟩,⟨_,dr (SqL.of ho)⟩,comp_zip (v2 λi j=>.int (vz os p*i-vz ls p*j)) rfl (dr (SqL.of hl)) (dr (SqL.of ho)) (by rw [length_map,sizeLine_eq]; omega) (λi x y H4 R hx hy s4 hR=>?_) (λacc H4 hacc s4 hl4=>?_)⟩
  ·obtain ⟨z,ez,rfl⟩:=dP hx
   obtain ⟨z',ez',rfl⟩:=dP hy
   exact ⟨_,rfl,_,rfl,_,_,rfl,rfl,fu vo (bl _ (mem_of_getElem? ez)),_,rfl,_,rfl,_,_,rfl,rfl,fu vl (bo _ (mem_of_getElem? ez')),_,_,rfl,rfl,hR⟩
  ·rw [zip_v2,zw_map V.int] at hl4
   have lz:((List.zipWith (λi j=>vz os p*i-vz ls p*j) ls os).map V.int).length<=sizeLine:=by rw [length_map,length_zipWith,sizeLine_eq]; omega
   refine ⟨_,rfl,rfl,_,rfl,bc (λh=>?_) (λh=>?_)⟩
   ·have h0:P ≠ 0:=λz=>by rw [z] at h; cases h
    refine ⟨_,rfl,acc,rfl,⟨_,SqL.of hl4⟩,fD (v1 λi=>.int (i % P)) rfl (SqL.of hl4) lz (λi x H5 R hx s5 hR=>?_) (λr H5 nr s5 hr5=>?_)⟩
    ·obtain ⟨z,ez,rfl⟩:=dP hx
     exact ⟨_,rfl,_,rfl,_,_,rfl,rfl,(by show 0<P; omega),hR⟩
    ·refine q r H5 (s4.free nr) (s4.trans s5) ?_
     rw [hr5,map_v1]
     unfold clr
     rw [map_map]
     refine congrArg (λl=>some (HO.lst l)) (map_congr_left λz _=>?_)
     show V.int (z % P)=V.int (if P=0 then z.fdiv d else z % P)
     rw [if_neg h0]
   ·have h0:P=0:=Decidable.byContradiction λz=>h (by rw [decide_eq_false λy=>z (by injection y)]; rfl)
    refine ⟨_,rfl,acc,rfl,⟨_,SqL.of hl4⟩,fD (v1 λi=>.int (i.fdiv d)) rfl (SqL.of hl4) lz (λi x H5 R hx s5 hR=>?_) (λr H5 nr s5 hr5=>?_)⟩
    ·obtain ⟨z,ez,rfl⟩:=dP hx
     exact ⟨_,rfl,_,rfl,_,_,rfl,rfl,⟨(hd h0).1,(hd h0).2⟩,hR⟩
    ·refine q r H5 (s4.free nr) (s4.trans s5) ?_
     rw [hr5,map_v1]
     unfold clr
     rw [map_map]
     refine congrArg (λl=>some (HO.lst l)) (map_congr_left λz _=>?_)
     show V.int (z.fdiv d)=V.int (if P=0 then z.fdiv d else z % P)
     rw [if_pos h0]
theorem ii:g0 ["numbers", "own", "fractions", "bottom", "fraction"] ["numbers", "own"] (aj bM):=.i
theorem ok_wholes {f CF CR:Addr} {fd:FuncData} (F:Fun K "whole_numbers" "whole_numbers" bM f fd) (ju:FnB P w K mg base 2 "top_and_bottom" (spTB CF CR)) (jv:FnB P w K mg base 2 "least_multiple" spLM):aI P w K mg base CX0 3 f fd ["numbers", "own"] (spWN CF CR):=by
 refine F.o ii λ_ _ _ _ H _ Q _ hr h=>?_
 ·obtain ⟨x,l,P,us,xs,B,M,rfl,hP,hN,hl,pu,l6,okx,B0,M1,hz,q⟩:=h
  refine ⟨_,(ae (bt (i:=2) ii.nd rfl (Or.inl rfl) (N:=["number", "numbers"]) (src:=[none,some 0]) rfl rfl rfl (by exact (aO K rfl (pv 1))) (λ_ _ _=>by exact ⟨by exact (bX (i:=0) nd_4 rfl rfl),aX,by exact (ay ju hr.m (aa (pv 1) (aa (pv 0) ag)))⟩))
(ae (aq (i:=3) ii.nd rfl (Or.inr rfl) ac)
(ae (cG PassesOwn.never rfl (aO K rfl (pv 2)) (b9 (i:=4) ii.nd rfl (Or.inl rfl))
(ah (aq (i:=3) ii.nd rfl (Or.inr rfl) (ay jv hr.m (aa (pv 3) (aa (aE (aJ K rfl) (pv 4) ac (λ_ _=>rfl)) ag))))))
(ah (ao (by exact cW (N:=["fraction", "bottom"]) (src:=[none,some 3]) rfl rfl rfl (by exact (aO K rfl (pv 2))) (λ_ _ _=>by exact ⟨by exact (bX (i:=0) nd_5 rfl rfl),aX,by exact (ai bu (aE (aJ K rfl) (pv 0) ac (λ_ _=>rfl)) (ai br (pv 1) (aE (aJ K rfl) (pv 0) ac (λ_ _=>rfl))))⟩))))))),?_⟩
  have lu:us.length=xs.length:=Paired.length pu
  refine ⟨_,rfl,l,rfl,⟨_,SqL.of hl⟩,bP (n:=us.length) (σ0:=[none,some (.ref x)]) rfl (λacc i ws σ H'=>∃ u:Option V,σ=[u,some (.ref x)]/\gY H H'/\Paired (λv y=>∃ t,v=.ref t/\Fr H' t y) ws (xs.take i)) (by rw [sizeLine_eq]; omega) (λacc hacc=>⟨none,rfl,gY.new hacc,.nil⟩) ?_ ?_ ?_ ?_⟩
  ·rintro acc i ws σ H' hacc hi hz ⟨u,rfl,sm,_⟩
   exact ⟨us,_,SqL.of (sm _ _ hl),getElem?_eq_getElem hi⟩
  ·rintro acc ws σ H' hacc hz ⟨u,rfl,sm,_⟩
   exact ⟨us,SqL.of (sm _ _ hl),Nat.le_refl _⟩
  ·rintro acc i ws σ H9 x' H' hacc hi hz hzl ⟨u,rfl,sm,pr⟩ ⟨rfl,hx⟩
   have hx:=hx us (SqL.of (sm _ _ hl))
   obtain ⟨y,ey,av⟩:=aG pu hx
   have lw:ws.length=(xs.take i).length:=Paired.length pr
   refine ⟨_,rfl,_,rfl,x,P,x',y,rfl,hN.mono λo e=>sm _ _ e,av.same sm,λt H2 s2 ht=>?_⟩
   have hz2:=s2 _ _ hz
   have kc:∀ c xs',H2 c=some (.tup xs')->upd H2 acc (.lst (ws++[.ref t])) c=some (.tup xs'):=λc xs' e=>by rw [ar (eI e hz2 (by intro z; cases z))]; exact e
   refine ⟨ws,hz2,by rw [sizeLine_eq]; rw [length_take] at lw; omega,_,af,by rw [length_append,length_singleton]; omega,_,rfl,λc o e=>by rw [ar (al e hacc)]; exact s2 _ _ (sm _ _ e),?_⟩
   rw [take_add_one,ey]
   exact aK ⟨t,rfl,kc _ _ ht⟩ (ak (λv y z=>by obtain ⟨t',e,h'⟩:=z; exact ⟨t',e,kc _ _ (s2 _ _ h')⟩) pr)
  ·rintro fr ws σ H1 hfr hz1 hzl ⟨u,rfl,s1,pr⟩
   rw [lu,take_length] at pr
   have lw:ws.length=xs.length:=Paired.length pr
   have dv {i:Nat} {y:Int × Int} (ey:xs[i]? = some y):0<y.2/\y.2.natAbs ∣ B/\y.2.natAbs<2 ^ 4300/\y.1.natAbs<2 ^ 4300:=by
    obtain ⟨o,r⟩:=okx y (mem_of_getElem? ey)
    have sz:=r.sz (z:=4300) B0 M1 hz
    exact ⟨r.1,r.2.1,sz.2,sz.1⟩
   have B43:B<2 ^ 4300:=Nat.lt_of_le_of_lt (Nat.le_mul_of_pos_left _ M1) hz
   have p88:(2:Nat) ^ 4300<2 ^ 8800:=Nat.pow_lt_pow_right (by decide) (by decide)
   refine ⟨_,rfl,fr,rfl,⟨_,SqL.of hz1⟩,bT (xs:=ws) (λi σ H'=>∃ (x4:Option V) (b:Nat),σ=[some (.ref x),some (.ref l),some (.ref fr),some (.int b),x4]/\gY H1 H'/\0<b/\b ∣ B/\(P ≠ 0->b=1)/\∀ y ∈ xs.take i,y.2.natAbs ∣ b) ?_ ?_ ?_ ?_⟩
   ·exact ⟨none,1,rfl,gY.refl _,by decide,Nat.one_dvd _,λ_=>rfl,λy hy=>by simp at hy⟩
   ·rintro i σ H' _ ⟨x4,b,rfl,sm,_⟩
    exact SqL.of (sm _ _ hz1)
   ·rintro i v σ H2 hv ⟨x4,b,rfl,sm,b0,bB,b1,bd⟩ N0 C0 hN0
    obtain ⟨y,ey,t,rfl,ht⟩:=aG pr hv
    obtain ⟨d0,dB,d43,_⟩:=dv ey
    have ht:=sm _ _ ht
    refine ⟨_,rfl,_,rfl,t,_,_,_,rfl,rfl,SqT.of ht,rfl,b,y.2.natAbs,by rw [Int.natAbs_of_nonneg (by omega)]; rfl,b0,by omega,Nat.lt_of_le_of_lt (Nat.le_of_dvd B0 bB) B43,d43,?_⟩
    refine hN0 _ _ ⟨_,Nat.lcm b y.2.natAbs,rfl,sm,Nat.lcm_pos b0 (by omega),Nat.lcm_dvd bB dB,λh0=>?_,λy' hy'=>?_⟩
    ·have oy:=(okx y (mem_of_getElem? ey)).1
     rw [b1 h0,(am oy).2 h0]
     rfl
    ·rw [take_add_one,ey] at hy'
     rcases List.mem_append.mp hy' with z | z
     ·exact Nat.dvd_trans (bd y' z) (Nat.dvd_lcm_left _ _)
     ·rw [List.mem_singleton.mp z]
      exact Nat.dvd_lcm_right _ _
   ·rintro σ H2 ⟨x4,b,rfl,s2,b0,bB,b1,bd⟩
    rw [lw,take_length] at bd
    have s12:=s1.trans s2
    refine ⟨_,rfl,fr,rfl,⟨_,SqL.of (s2 _ _ hz1)⟩,bP (n:=ws.length) (σ0:=[none,some (.int b)]) rfl (λacc i zs σ H'=>∃ (u:Option V) (ns:List Int),σ=[u,some (.int b)]/\gY H2 H'/\zs=ns.map V.int/\ns.length=i/\∀ (j:Nat) (y:Int × Int) (z:Int),xs[j]? = some y->ns[j]? = some z->z*y.2=y.1*b) (by rw [sizeLine_eq]; omega) (λacc hacc=>⟨none,[],rfl,gY.new hacc,rfl,rfl,λj y z _ e=>by simp at e⟩) ?_ ?_ ?_ ?_⟩
    ·rintro acc i zs σ H' hacc hi hz ⟨u,ns,rfl,sm,_⟩
     exact ⟨ws,_,SqL.of (sm _ _ (s2 _ _ hz1)),getElem?_eq_getElem hi⟩
    ·rintro acc zs σ H' hacc hz ⟨u,ns,rfl,sm,_⟩
     exact ⟨ws,SqL.of (sm _ _ (s2 _ _ hz1)),Nat.le_refl _⟩
    ·rintro acc i zs σ H9 x' H' hacc hi hz3 hzl ⟨u,ns,rfl,sm,rfl,ln,rel⟩ ⟨rfl,hx⟩
     have hx:=hx ws (SqL.of (sm _ _ (s2 _ _ hz1)))
     obtain ⟨y,ey,t,rfl,ht⟩:=aG pr hx
     obtain ⟨d0,dB,d43,n43⟩:=dv ey
     have ht:=sm _ _ (s2 _ _ ht)
     obtain ⟨c,hc⟩:=bd y (mem_of_getElem? ey)
     have ef:(b:Int).fdiv y.2=c:=by
      rw [hc,Int.natCast_mul,Int.natAbs_of_nonneg (by omega)]
      exact Int.mul_fdiv_cancel_left _ (by omega)
     have cb:c<=b:=by rw [hc]; exact Nat.le_mul_of_pos_left _ (by omega)
     have bB':=Nat.le_of_dvd B0 bB
     refine ⟨_,rfl,t,_,_,_,rfl,rfl,SqT.of ht,rfl,_,rfl,_,rfl,t,_,_,_,rfl,rfl,SqT.of ht,rfl,_,_,rfl,rfl,⟨by omega,by omega⟩,_,_,rfl,rfl,fu (by omega) (by rw [ef,Int.natAbs_natCast]; omega),?_⟩
     refine ⟨_,hz3,by rw [length_map,sizeLine_eq]; omega,_,af,by rw [length_append,length_map,length_singleton]; omega,_,ns++[y.1*(b:Int).fdiv y.2],rfl,sm.put hacc,by rw [map_append]; rfl,by rw [length_append,length_singleton,ln],λj y' z ey' ez=>?_⟩
     by_cases hj:j<ns.length
     ·rw [getElem?_append_left hj] at ez
      exact rel j y' z ey' ez
     ·have hj':j=ns.length:=by
       have:=(List.getElem?_eq_some_iff.mp ez).1
       rw [length_append,length_singleton] at this
       omega
      subst hj'
      rw [ln,ey] at ey'
      cases ey'
      simp only [getElem?_concat_length,Option.some.injEq] at ez
      rw [<- ez,ef,hc,Int.natCast_mul,Int.natAbs_of_nonneg (by omega),Int.mul_assoc,Int.mul_comm (c:Int)]
    ·rintro d zs σ H3 hd hz3 hzl ⟨u,ns,rfl,s3,rfl,ln,rel⟩
     exact q d ns b H3 (s12.free hd) (s12.trans s3) hz3 (by rw [ln,lw]) b0 bB b1 rel
theorem nd_6:(["place", "whole"]:List Str).Nodup:=by decide +kernel
open Classical in
noncomputable def vec {P:Int} (hP:gZ P) (xs:List (Int × Int)):Vn P:=λj=>if h:OkN P (xs.getD j (0,1)) then ⟨_,h⟩ else (nb hP).zero
theorem eC {P:Int} (hP:gZ P) {xs:List (Int × Int)} {j:Nat} {y:Int × Int} (e:xs[j]? = some y) (o:OkN P y):vec hP xs j=⟨y,o⟩:=by
 have e':xs.getD j (0,1)=y:=by simp [List.getD,e]
 unfold vec
 subst e'
 rw [dif_pos o]
theorem bf {P:Int} (hP:gZ P) {xs:List (Int × Int)} {j:Nat} (h:xs.length<=j):vec hP xs j=(nb hP).zero:=by
 have e':xs.getD j (0,1)=(0,1):=by simp [List.getD,getElem?_eq_none h]
 unfold vec
 split
 ·exact Subtype.ext e'
 ·rfl
theorem vec_io {P:Int} (hP:gZ P) {xs:List (Int × Int)} {ns:List Int} {b:Int} (ok:∀ y ∈ xs,OkN P y) (ln:ns.length=xs.length) (rel:∀ (j:Nat) (y:Int × Int) (z:Int),xs[j]? = some y->ns[j]? = some z->z*y.2=y.1*b) (j:Nat):io hP (vz ns j)=(nb hP).mul (io hP b) (vec hP xs j):=by
 by_cases h:j<xs.length
 ·have ey:xs[j]? = some xs[j]:=getElem?_eq_getElem h
  have ez:ns[j]? = some (vz ns j):=by rw [getElem?_eq_getElem (by omega),cf (by omega)]
  have oy:=ok _ (getElem_mem h)
  rw [eC hP ey oy]
  have r:=rel j _ _ ey ez
  refine Subtype.ext ?_
  show val P (vz ns j,1)=aP P (val P (b,1)) xs[j]
  have:=ck (P:=P) (aT b) (am oy)
  rw [ba oy] at this
  rw [this]
  exact aN (aT _) (a9 (aT _) (am oy)) (by dsimp only; grind)
 ·rw [bO (by omega),bf hP (by omega),CS.mul_zero,e5]
def RowB (P:Int) (n:Nat) (B:Nat) (xs:List (Int × Int)):Prop:=xs.length=n/\0<B/\B<=2 ^ 1260/\∀ y ∈ xs,OkN P y/\Rw B (2 ^ 53) y
def spRank (CF CR:Addr):Sp:=λvs H Q _=>∃ (x l:Addr) (P:Int) (hP:gZ P) (n:Nat) (ws:List V) (rows:List (List (Int × Int))),vs=[.ref x,.ref l]/\NumsAt CF CR H x P/\H l=some (.lst ws)/\Paired (RowN P H) ws rows/\rows.length<=6/\n<=6/\(∀ xs ∈ rows,∃ B,RowB P n B xs)/\
 ∀ (K:List (Nat × Vn P)) (H':Hp),(nbF hP).Keeps K (rows.map (vec hP))->gY H H'->Q (.int K.length) H'
theorem RowN.same {P:Int} {H H':Hp} {v:V} {xs:List (Int × Int)} (s:gY H H') (h:RowN P H v xs):RowN P H' v xs:=by
 obtain ⟨l,us,e,h1,h2⟩:=h
 exact ⟨l,us,e,s _ _ h1,ak (λ_ _ z=>z.same s) h2⟩
def KpR (d:Addr) (H:Hp) (v:V) (q:Nat × List Int):Prop:=∃ t l,v=.ref t/\l ≠ d/\H t=some (.tup [.int q.1,.ref l])/\H l=some (.lst (q.2.map V.int))
theorem KpR.same {d:Addr} {H H':Hp} {v:V} {q:Nat × List Int} (s:gY H H') (h:KpR d H v q):KpR d H' v q:=by
 obtain ⟨t,l,e,n,h1,h2⟩:=h
 exact ⟨t,l,e,n,s _ _ h1,s _ _ h2⟩
theorem KpR.put {d:Addr} {H:Hp} {v:V} {q:Nat × List Int} {xs ys:List V} (hd:H d=some (.lst xs)) (h:KpR d H v q):KpR d (upd H d (.lst ys)) v q:=by
 obtain ⟨t,l,e,n,h1,h2⟩:=h
 exact ⟨t,l,e,n,by rw [ar (eI h1 hd (by intro z; cases z))]; exact h1,by rw [ar n]; exact h2⟩
theorem fH {P:Int} (hP:gZ P) {K:List (Nat × Vn P)} {vs:List (Vn P)} {v:Vn P} (h:(nbF hP).Keeps K vs) (z:∀ j,(nbF hP).clear K v j=(nb hP).zero):(nbF hP).Keeps K (vs++[v]):=by
 obtain ⟨w,hw,e⟩:=(nbF hP).clear_sp (K:=K) (v:=v)
 refine ⟨h.1,λu hu=>?_,λq hq=>(h.2.2 q hq).trans _ λg hg=>FL.Sp.mem _ (by simp [hg])⟩
 rcases List.mem_append.mp hu with y | y
 ·exact h.2.1 u y
 ·rw [List.mem_singleton.mp y]
  exact hw.eq _ λj=>by rw [e,z]; exact CS.add_zero _ _
def XB:Nat:=2 ^ 1313
theorem xb_pow:∀ i,i<6->6*XB*(6*XB) ^ i<2 ^ 8800:=λi hi=>by
 have h1:6*XB<=2 ^ 1316:=by unfold XB; rw [show (2:Nat) ^ 1316=8*2 ^ 1313 by rw [<- Nat.pow_add 2 3 1313]]; exact Nat.mul_le_mul_right _ (by decide)
 rw [Nat.mul_comm,<- Nat.pow_succ]
 refine Nat.lt_of_le_of_lt (Nat.pow_le_pow_left h1 _) ?_
 rw [<- Nat.pow_mul]
 exact Nat.pow_lt_pow_right (by decide) (by omega)
theorem xb_pow':∀ i,i<=6->(6*XB) ^ i<2 ^ 8800:=λi hi=>by
 have h1:6*XB<=2 ^ 1316:=by unfold XB; rw [show (2:Nat) ^ 1316=8*2 ^ 1313 by rw [<- Nat.pow_add 2 3 1313]]; exact Nat.mul_le_mul_right _ (by decide)
 refine Nat.lt_of_le_of_lt (Nat.pow_le_pow_left h1 _) ?_
 rw [<- Nat.pow_mul]
 exact Nat.pow_lt_pow_right (by decide) (by omega)
def nzp (l:List Int) (n:Nat):List Nat:=(List.range n).filter λj=>!decide (V.int (vz l j)=V.int 0)
theorem zip_at {α β:Type} {xs:List α} {ys:List β} {i:Nat} {q:α × β} (h:(xs.zip ys)[i]? = some q):xs[i]? = some q.1/\ys[i]? = some q.2:=by
 rw [List.getElem?_zip_eq_some] at h
 exact h
theorem nzp_step (l:List Int) (j:Nat):nzp l (j+1)=nzp l j++if (!decide (V.int (vz l j)=V.int 0))=true then [j] else []:=by
 unfold nzp
 rw [range_succ,filter_append]
 congr 1
 simp only [List.filter_cons,List.filter_nil]
theorem nzp_mem {l:List Int} {n p:Nat}:p ∈ nzp l n↔p<n/\vz l p ≠ 0:=by
 unfold nzp
 rw [mem_filter,mem_range]
 refine and_congr Iff.rfl ⟨λh z=>?_,λh=>?_⟩
 ·rw [z] at h
  cases h
 ·rw [decide_eq_false λz=>h (by injection z)]
  rfl
def dIL (ns:List Int):PyData:=.list (ns.map .int)
theorem cX (ns:List Int):SeqAt.shaped (dIL ns)=true:=by
 simp [dIL,SeqAt.shaped,PyData.canLay0,PyData.depth,PySem.W.ke_canLayAll0,PySem.W.ke_depthAll]
theorem iq:g0 ["numbers", "lists", "kept_lists", "own", "left", "divisor", "place", "other", "places"] ["numbers", "lists"] (aj s_rank):=.i
set_option maxHeartbeats 1000000 in
theorem ok_rank {f CF CR:Addr} {fd:FuncData} (F:Fun K "rank" "rank" s_rank f fd) (T:Blt mg) (kI:MtB P w K mg base 1 CF "prime" spFPr) (kJ:MtB P w K mg base 1 CR "prime" (spRPr CR)) (jx:FnB P w K mg base 3 "whole_numbers" (spWN CF CR)) (jM:FnB P w K mg base 1 "cleared_at" spCl):aI P w K mg base CX0 4 f fd ["numbers", "lists"] (spRank CF CR):=by
 refine F.o iq λ_ _ _ _ H _ Q _ hr h=>?_
 ·obtain ⟨x,l,P,hP,n,ws,rows,rfl,hN,hl,pr,r6,n6,okr,q⟩:=h
  have hB:=hP.b
  refine ⟨_,(ae (aq (i:=2) iq.nd rfl (Or.inl rfl) (bL ag))
(ae (cG PassesOwn.never rfl (aO K rfl (pv 1)) (b9 (i:=3) iq.nd rfl (Or.inl rfl))
(ae (aq (i:=4) iq.nd rfl (Or.inl rfl) (ay jx hr.m (aa (pv 0) (aa (pv 3) ag))))
(ae (aq (i:=5) iq.nd rfl (Or.inl rfl) ac)
(ae (cG PassesOwn.never rfl (aO K rfl (pv 2)) (cU K (i:=6) (j:=7) rfl rfl iq.nd rfl rfl rfl rfl)
(ae (aq (i:=4) iq.nd rfl (Or.inl rfl) (ay jM hr.m (aa (pe_two (gO kI hr.m (pv 0)) (gO kJ hr.m (pv 0))) (aa (pv 6) (aa (pv 4) (aa (pv 7) (aa (pv 5) ag)))))))
(ah (aq (i:=5) iq.nd rfl (Or.inl rfl) (aE (aB K rfl) (pv 7) (pv 6) (λ_ _=>rfl))))))
(ae (bt (i:=8) iq.nd rfl (Or.inl rfl) (N:=["place", "whole"]) (src:=[none,none]) rfl rfl rfl (by exact (kpi_enum K rfl rfl T.enum (aa (pv 4) ag))) (λ_ _ _=>by exact ⟨by exact (cU K (i:=0) (j:=1) rfl rfl nd_6 rfl rfl rfl rfl),(gs (az op_ne (pv 1) ac (aA _))),by exact (pv 0)⟩))
(ah (aR (az (kneD K rfl hr.units) (pv 8) (bL ag) (aA _))
(ah (gI (bmA K rfl (pv 2) (aa (en (aa (aE (aB K rfl) (pv 8) ac (λ_ _=>rfl)) (aa (pv 4) ag))) ag))))
aC)))))))
(ah (ao (cV K T (pv 2)))))),?_⟩
  have lw:ws.length=rows.length:=Paired.length pr
  refine ⟨Nat.zero_le _,λd hd=>?_⟩
  have s0:=gY.new (o:=.lst []) hd
  have hd0:(upd H d (.lst [])) d=some (.lst []):=af
  generalize upd H d (.lst [])=H0 at *
  refine ⟨_,rfl,l,rfl,⟨_,SqL.of (s0 _ _ hl)⟩,bT (xs:=ws) (λi σ H'=>∃ (x3 x4 x5 x6 x7 x8:Option V) (ks:List V) (Ws:List Vz) (ps:List Nat) (Kv:List (Nat × Vn P)) (ls:List (List Int)),σ=[some (.ref x),some (.ref l),some (.ref d),x3,x4,x5,x6,x7,x8]/\gY H H'/\H' d=some (.lst ks)/\Paired (KpR d H') ks (ps.zip ls)/\KI hP n Ws ps Kv ls/\Ws.length<=i/\(P=0->∀ W ∈ Ws,∀ c,(W c).natAbs<=XB)/\(nbF hP).Keeps Kv ((rows.take i).map (vec hP))) ?_ ?_ ?_ ?_⟩
  ·exact ⟨none,none,none,none,none,none,[],[],[],[],[],rfl,s0,hd0,.nil,KI.nil hP n,Nat.zero_le _,λ_ W hW=>(nomatch hW),trivial,λv hv=>by simp at hv,λq hq=>(nomatch hq)⟩
  ·rintro i σ H' _ ⟨x3,x4,x5,x6,x7,x8,ks,Ws,ps,Kv,ls,rfl,sm,_⟩
   exact SqL.of (sm _ _ hl)
  ·rintro i v σ H1 hv ⟨x3,x4,x5,x6,x7,x8,ks,Ws,ps,Kv,ls,rfl,s1,hd1,pk,ki,wl,wb,kp⟩ N0 C0 hN0
   obtain ⟨xs,ex,o,us,rfl,ho,pu⟩:=aG pr hv
   have hi:i<rows.length:=(List.getElem?_eq_some_iff.mp ex).1
   obtain ⟨B,xl,B0,B1,okx⟩:=okr xs (mem_of_getElem? ex)
   have ln0 (j:Nat) (ns:List Int) (e:vz ns j ≠ 0):j<ns.length:=Nat.lt_of_not_le λz=>e (bO z)
   have p53:2 ^ 53*B<2 ^ 4300:=Nat.lt_of_le_of_lt (Nat.mul_le_mul_left _ B1) (by rw [<- Nat.pow_add]; exact Nat.pow_lt_pow_right (by decide) (by decide))
   refine ⟨_,rfl,_,rfl,x,o,P,us,xs,B,2 ^ 53,rfl,hP,hN.mono λo e=>s1 _ _ e,s1 _ _ ho,ak (λ_ _ z=>z.same s1) pu,by omega,okx,B0,by decide,p53,λdl ns b H2 hdl s2 hl2 ln b0 bB b1 rel=>?_⟩
   have n0:P ≠ 0->∀ z ∈ ns,0<=z/\z<P:=λh0 z hz=>by
    obtain ⟨j,hj,rfl⟩:=List.mem_iff_getElem.mp hz
    have hj':j<xs.length:=by omega
    have r:=rel j _ _ (getElem?_eq_getElem hj') (getElem?_eq_getElem hj)
    rw [b1 h0] at r
    rcases (okx _ (getElem_mem hj')).1 with ⟨y,_⟩ | ⟨_,e2,e3,e4⟩
    ·exact absurd y h0
    ·rw [e4] at r
     omega
   have nX:∀ c,(vz ns c).natAbs<=XB:=λc=>by
    by_cases hc:c<ns.length
    ·have hj':c<xs.length:=by omega
     have r:=rel c _ _ (getElem?_eq_getElem hj') (getElem?_eq_getElem hc)
     obtain ⟨_,e1,_,e2⟩:=okx _ (getElem_mem hj')
     rw [cf hc]
     have r:=congrArg Int.natAbs r
     rw [Int.natAbs_mul,Int.natAbs_mul,Int.natAbs_natCast] at r
     have bl:b<=2 ^ 1260:=Nat.le_trans (Nat.le_of_dvd B0 bB) B1
     have h1:=Nat.mul_le_mul e2 bl
     rw [<- r] at h1
     have h2:ns[c].natAbs*(xs[c]).2.natAbs<=XB*(xs[c]).2.natAbs:=by
      refine Nat.le_trans h1 (Nat.le_of_eq ?_)
      unfold XB
      rw [show (1313:Nat)=53+1260 from rfl,Nat.pow_add,Nat.mul_assoc,Nat.mul_comm (xs[c]).2.natAbs,Nat.mul_assoc]
     exact Nat.le_of_mul_le_mul_right h2 (by omega)
    ·rw [bO (by omega)]
     exact Nat.zero_le _
   have li0:LI hP n Ws ps Kv (vz ns) (vec hP xs) 0 ns:=⟨by omega,n0,λ_ j _=>(Lf_zero _ _).symm,io hP b,λz=>?_,λj=>vec_io hP (λy hy=>(okx y hy).1) ln rel j⟩
   rotate_left
   ·by_cases h0:P=0
    ·exact eA hP h0 (by omega) z
    ·rw [b1 h0] at z
     exact io_neP hP h0 (by decide) (by have:=hP; rcases this with y | y<;>omega) (by decide) z
   have n6':n<=6:=n6
   have lfb:∀ {V:Vz} {i:Nat},P=0->i<6->i<=Ws.length->(∀ c,(V c).natAbs<=XB)->∀ j,(Lf Ws ps V i j).natAbs<2 ^ 8800:=λh0 h6 hi hV j=>Nat.lt_of_le_of_lt (Lf_le ki.l1 hi h6 (wb h0) hV j) (xb_pow _ h6)
   have w6:Ws.length<6:=by omega
   have lkz:ks.length=Ws.length:=by
    have:=Paired.length pk
    rw [List.length_zip,ki.l1,ki.l3,Nat.min_self] at this
    exact this
   have small:∀ {ms:List Int},P ≠ 0->(∀ z ∈ ms,0<=z/\z<P)->∀ z ∈ ms,z.natAbs<2 ^ 8800:=λh0 h z hz=>by
    have:=h z hz
    exact Nat.lt_trans (show z.natAbs<2 ^ 14 by omega) (Nat.pow_lt_pow_right (by decide) (by decide))
   have vzb:∀ {ms:List Int},ms.length=n->(∀ j,j<n->(vz ms j).natAbs<2 ^ 8800)->∀ z ∈ ms,z.natAbs<2 ^ 8800:=λhm h z hz=>by
    obtain ⟨j,hj,rfl⟩:=List.mem_iff_getElem.mp hz
    have:=h j (by omega)
    rwa [cf hj] at this
   refine ⟨_,rfl,d,rfl,⟨_,SqL.of (s2 _ _ hd1)⟩,bT (xs:=ks) (λk σ H'=>∃ (x6 x7:Option V) (cl:Addr) (cur:List Int) (dv:Int),σ=[some (.ref x),some (.ref l),some (.ref d),some (.ref o),some (.ref cl),some (.int dv),x6,x7,x8]/\gY H1 H'/\H1 cl=none/\H' cl=some (.lst (cur.map V.int))/\LI hP n Ws ps Kv (vz ns) (vec hP xs) k cur/\(P=0->dv=Dt Ws ps k)) ?_ ?_ ?_ ?_⟩
   ·exact ⟨x6,x7,dl,ns,1,rfl,s2,hdl,hl2,li0,λ_=>Dt_zero.symm⟩
   ·rintro k σ H' _ ⟨x6,x7,cl,cur,dv,rfl,sm,_⟩
    exact SqL.of (sm _ _ hd1)
   ·rintro k v σ H3 hv3 ⟨x6,x7,cl,cur,dv,rfl,s3,ncl,hcl,li,edv⟩ N1 C1 hN1
    obtain ⟨q,eq,t,la,rfl,_,ht,hla⟩:=aG pk hv3
    obtain ⟨ep,el⟩:=zip_at eq
    have kW:k<Ws.length:=by rw [<- ki.l3]; exact (List.getElem?_eq_some_iff.mp el).1
    have eW:Ws[k]? = some Ws[k]:=getElem?_eq_getElem kW
    have eK:Kv[k]? = some (Kv[k]'(by rw [ki.l2]; exact kW)):=getElem?_eq_getElem _
    obtain ⟨k1,k2,k3,k4,k5,k6,k7⟩:=ki.at_ k _ _ _ _ eW ep eK el
    obtain ⟨st,op,od⟩:=LI.step hP ki li el ep
    have cn:=li.len
    have hcb:∀ z ∈ cur,z.natAbs<2 ^ 8800:=by
     by_cases h0:P=0
     ·exact vzb cn λj hj=>by rw [li.lf h0 j hj]; exact lfb h0 (by omega) (by omega) nX j
     ·exact small h0 (li.rg h0)
    have hob:∀ z ∈ q.2,z.natAbs<2 ^ 8800:=by
     by_cases h0:P=0
     ·exact vzb k3 λj hj=>by rw [k5 h0 j hj]; exact lfb h0 (by omega) (by omega) (wb h0 _ (getElem_mem kW)) j
     ·exact small h0 (k4 h0)
    have fin:∀ Q',(∀ (r:Addr) (H':Hp),H3 r=none->gY H3 H'->H' r=some (.lst ((clr P q.1 cur q.2 dv).map V.int))->Q' (.ref r) H')->spCl [.int P,.int q.1,.ref cl,.ref la,.int dv] H3 Q' E0:=λQ' h'=>⟨P,q.1,cl,la,cur,q.2,dv,rfl,hB.1,by omega,hcl,s3 _ _ hla,by omega,by omega,by omega,hcb,hob,λh0=>⟨by rw [edv h0]; exact ki.D h0 _ (by omega),by rw [edv h0]; exact Nat.lt_of_le_of_lt (Dt_le ki.l1 (by omega) (by omega) (wb h0)) (xb_pow' _ (by omega))⟩,h'⟩
    have ed:clr P q.1 cur q.2 dv=clr P q.1 cur q.2 (Dt Ws ps k):=by
     by_cases h0:P=0
     ·rw [edv h0]
     ·unfold clr
      simp only [if_neg h0]
    refine ⟨t,_,rfl,SqT.of (s3 _ _ ht),rfl,_,_,rfl,_,_,rfl,rfl,?_⟩
    have sA:=s1.trans s3
    have mo:atI (q.2.map V.int) (q.1:Int)=some (.int (vz q.2 q.1)):=bh (by rw [getElem?_map,getElem?_eq_getElem (by omega),cf (by omega)]; rfl)
    rcases hN with ⟨h0,dx,e⟩ | ⟨h0,dx,e⟩
    ·have fin0:=fin
     rw [h0] at fin0
     refine .inl ⟨_,rfl,x,dx,_,rfl,sA _ _ e,rfl,.ref x,rfl,_,rfl,_,rfl,_,rfl,_,rfl,?_⟩
     dsimp only [de]
     show spCl [.int 0,.int q.1,.ref cl,.ref la,.int dv] H3 _ E0
     refine fin0 _ λr H4 nr s4 hr=>?_
     rw [<- h0,ed] at hr
     exact ⟨_,rfl,_,rfl,la,_,_,_,rfl,rfl,SqL.of (s4 _ _ (s3 _ _ hla)),mo,hN1 _ _ ⟨_,_,r,_,_,rfl,s3.trans s4,s3.free nr,hr,st,od⟩⟩
    ·refine .inr ⟨_,rfl,x,dx,_,rfl,sA _ _ e,mod_no (by decide +kernel) _,x,dx,P,rfl,sA _ _ e,_,rfl,_,rfl,_,rfl,_,rfl,?_⟩
     dsimp only [de]
     show spCl [.int P,.int q.1,.ref cl,.ref la,.int dv] H3 _ E0
     refine fin _ λr H4 nr s4 hr=>?_
     rw [ed] at hr
     exact ⟨_,rfl,_,rfl,la,_,_,_,rfl,rfl,SqL.of (s4 _ _ (s3 _ _ hla)),mo,hN1 _ _ ⟨_,_,r,_,_,rfl,s3.trans s4,s3.free nr,hr,st,od⟩⟩
   ·rintro σ H3 ⟨x6,x7,cl,cur,dv,rfl,s3,ncl,hcl,li,edv⟩
    rw [lkz] at li
    have cn:=li.len
    refine ⟨_,rfl,cl,rfl,⟨_,SqL.of hcl⟩,bP (n:=cur.length) (σ0:=[none,none]) rfl (λacc i ws σ H'=>∃ (u v:Option V),σ=[u,v]/\gY H3 H'/\ws=((nzp cur i).map λj:Nat=>(j:Int)).map V.int) (by rw [sizeLine_eq]; omega) (λacc hacc=>⟨none,none,rfl,gY.new hacc,rfl⟩) ?_ ?_ ?_ ?_⟩
    ·rintro acc j zs σ H' hacc hj hz ⟨u,v,rfl,sm,_⟩
     exact ⟨_,_,SqL.of (sm _ _ hcl),getElem?_eq_getElem (by rw [length_map]; exact hj)⟩
    ·rintro acc zs σ H' hacc hz ⟨u,v,rfl,sm,_⟩
     exact ⟨_,SqL.of (sm _ _ hcl),by rw [length_map]; exact Nat.le_refl _⟩
    ·rintro acc j zs σ H' x' H4 hacc hj hz hzl ⟨u,v,rfl,sm,rfl⟩ ⟨pp,y,rfl,npp,rfl,hy⟩
     have hy:=hy _ (SqL.of (sm _ _ hcl))
     rw [getElem?_map,getElem?_eq_getElem hj,<- cf hj] at hy
     obtain rfl:V.int (vz cur j)=y:=by injection hy
     have hz4:=(gY.new (o:=.tup [.int (j:Int),.int (vz cur j)]) npp) _ _ hz
     have nj:=nzp_step cur j
     have sj:gY H3 (upd H' pp (.tup [.int (j:Int),.int (vz cur j)])):=sm.put (sm.free npp)
     refine ⟨pp,_,rfl,SqT.of af,rfl,_,_,rfl,_,_,rfl,rfl,_,rfl,rfl,_,rfl,bc (λh=>?_) (λh=>?_)⟩
     ·rw [if_pos h] at nj
      refine ⟨_,rfl,_,hz4,by rw [sizeLine_eq]; omega,_,af,by rw [length_append,length_singleton]; omega,_,_,rfl,sj.put hacc,?_⟩
      rw [nj,map_append,map_append]
      rfl
     ·rw [if_neg h,append_nil] at nj
      exact ⟨_,hz4,by omega,_,_,rfl,sj,by rw [nj]⟩
    ·rintro pl zs σ H4 hpl hz4 hzl ⟨u,v,rfl,s4,rfl⟩
     rw [cn] at hz4
     refine ⟨_,rfl,Nat.zero_le _,λem hem=>?_⟩
     have s5:=s4.trans (gY.new (o:=.lst []) hem)
     have h5:(upd H4 em (.lst [])) em=some (.lst []):=af
     have hz5:=(gY.new (o:=.lst []) hem) _ _ hz4
     generalize upd H4 em (.lst [])=H5 at *
     have s35:=s3.trans s5
     have lip:=li.pr
     rw [show Kv.take Ws.length=Kv by rw [<- ki.l2]; exact take_length ..] at lip
     have rgp:∀ j,P ≠ 0->0<=vz cur j/\vz cur j<P:=λj h0=>vz_mem (li.rg h0) (by omega) j
     refine ⟨dIL _,dIL [],.lst (SqL.of hz5) (dD _),.lst (SqL.of h5) .nil,cX _,cX _,_,rfl,bc (λh=>?_) (λh=>?_)⟩
     ·cases hn:nzp cur n with
      | nil=>rw [hn] at h; exact absurd h (by decide)
      | cons p0 rest=>
       obtain ⟨pn,pz⟩:=nzp_mem.mp (show p0 ∈ nzp cur n by rw [hn]; exact mem_cons_self ..)
       rw [hn] at hz5
       have cz:(nbF hP).clear Kv (vec hP xs) p0 ≠ (nb hP).zero:=λz=>pz ((dS hP lip (rgp p0)).mpr z)
       have hd5:=s35 _ _ hd1
       refine ⟨_,rfl,(.inl ⟨rfl,_,SqL.of hd5⟩),_,rfl,pl,_,_,.int (p0:Int),rfl,rfl,SqL.of hz5,bh (j:=0) rfl,_,rfl,(by show 2<=sizeLine; decide),λt nt=>?_⟩
       have s6:=gY.new (o:=.tup [.int (p0:Int),.ref cl]) nt
       have h6:(upd H5 t (.tup [.int (p0:Int),.ref cl])) t=some (.tup [.int (p0:Int),.ref cl]):=af
       generalize upd H5 t (.tup [.int (p0:Int),.ref cl])=H6 at *
       have s36:=s35.trans s6
       have hd6:=s6 _ _ hd5
       refine ⟨d,ks,_,rfl,rfl,hd6,by rw [sizeLine_eq]; omega,?_⟩
       refine hN0 _ _ ⟨_,_,_,_,_,_,ks++[.ref t],Ws++[vz ns],ps++[p0],Kv++[(p0,(nbF hP).clear Kv (vec hP xs))],ls++[cur],rfl,(s1.trans s36).put hd,af,?_,KI.snoc hP ki li pn pz,by rw [length_append,length_singleton]; omega,λh0 W hW=>?_,?_⟩
       ·rw [List.zip_append (by rw [ki.l1,ki.l3])]
        exact aK (KpR.put hd6 ⟨t,cl,rfl,λz=>(by rw [z,hd1] at ncl; cases ncl),h6,s6 _ _ (s5 _ _ hcl)⟩) (ak (λ_ _ z=>(z.same s36).put hd6) pk)
       ·rcases List.mem_append.mp hW with y | y
        ·exact wb h0 W y
        ·rw [List.mem_singleton.mp y]
         exact nX
       ·rw [take_add_one,ex,map_append]
        rcases FL.Keeps.step _ (v:=vec hP xs) kp with y | y
        ·exact absurd (y.1 p0) cz
        ·exact y p0 cz
     ·have hn:nzp cur n=[]:=by
       cases hn:nzp cur n with
       | nil=>rfl
       | cons p0 rest=>rw [hn] at h; exact absurd rfl h
      refine hN0 _ _ ⟨_,_,_,_,_,_,ks,Ws,ps,Kv,ls,rfl,s1.trans s35,s35 _ _ hd1,ak (λ_ _ z=>z.same s35) pk,ki,by omega,wb,?_⟩
      rw [take_add_one,ex,map_append]
      refine fH hP kp λj=>(dS hP lip (rgp j)).mp ?_
      by_cases hj:j<n
      ·exact Classical.byContradiction λz=>(by have:=nzp_mem.mpr ⟨hj,z⟩; rw [hn] at this; cases this)
      ·exact bO (by omega)
  ·rintro σ H1 ⟨x3,x4,x5,x6,x7,x8,ks,Ws,ps,Kv,ls,rfl,s1,hd1,pk,ki,wl,wb,kp⟩
   rw [lw,take_length] at kp
   have lk:ks.length=Kv.length:=by
    have:=Paired.length pk
    rw [List.length_zip,ki.l1,ki.l3,Nat.min_self] at this
    rw [this,ki.l2]
   refine ⟨_,rfl,d,_,rfl,.inl (SqL.of hd1),?_⟩
   show Q (.int (ks.length:Nat)) H1
   rw [lk]
   exact q Kv H1 kp s1
def spBack:Sp:=λvs H Q _=>∃ p n:Nat,vs=[.int p,.int n]/\2<=p/\p<=9973/\n<p/\Q (.int ((n ^ (p-2) % p:Nat):Int)) H
def spOver:Sp:=λvs H Q _=>∃ (P:Int) (u v:V) (x y:Int × Int),vs=[.int P,u,v]/\gZ P/\At P H u x/\At P H v y/\OkN P x/\OkN P y/\y ≠ (0,1)/\Sz 4300 x/\Sz 4300 y/\∀ r H',gY H H'->At P H' r (cy P x y)->Q r H'
theorem pow_bit (n p e i:Nat):n ^ (e % 2 ^ (i+1)) % p=if e / 2 ^ i % 2=1 then (n ^ (e % 2 ^ i) % p)*(n ^ 2 ^ i % p) % p else n ^ (e % 2 ^ i) % p:=by
 have h:e % 2 ^ (i+1)=e % 2 ^ i+2 ^ i*(e / 2 ^ i % 2):=by
  rw [Nat.pow_succ,Nat.mod_mul]
 split
 ·rename_i z
  rw [h,z,Nat.mul_one,Nat.pow_add,Nat.mul_mod]
 ·rename_i z
  rw [h,show e / 2 ^ i % 2=0 by omega,Nat.mul_zero,Nat.add_zero]
theorem bit_one (p i:Nat) (h:2<=p):(λi j=>V.int (Builtin.bitAnd i j)) (((p:Int)-2) / 2 ^ ((0:Int)+(i:Int)).toNat) 1=V.int (((p-2) / 2 ^ i % 2:Nat):Int):=by
 have e:(((p:Int)-2) / 2 ^ ((0:Int)+(i:Int)).toNat)=(((p-2) / 2 ^ i:Nat):Int):=by
  rw [show ((0:Int)+(i:Int)).toNat=i by omega,Int.natCast_ediv,Int.natCast_pow,Int.natCast_sub h]
  rfl
 rw [e]
 show V.int (((((p-2) / 2 ^ i) &&& 1:Nat)):Int)=_
 rw [Nat.and_one_is_mod]
theorem im:g0 ["_law_prime_here", "_law_number_here", "_law_found", "_law_bit"] ["_law_prime_here", "_law_number_here"] (aj cJ):=.i
theorem ok_back {f:Addr} {fd:FuncData} (F:Fun K "_law_back" "_law_back" cJ f fd) (T:Blt mg):aI P w K mg base CX0 1 f fd ["_law_prime_here", "_law_number_here"] spBack:=by
 refine F.o im λ_ _ _ _ H _ Q _ hr h=>?_
 ·obtain ⟨p,n,rfl,h2,h9,hn,q⟩:=h
  refine ⟨_,(ae (aq (i:=2) im.nd rfl (Or.inl rfl) ac)
(ae (cG PassesOwn.never rfl (bE rfl T.range (aa ac ag)) (b9 (i:=3) im.nd rfl (Or.inl rfl))
(ae (aR (az bZ (ai op_and (ai op_shr (ai bA (pv 0) ac) (pv 3)) ac) ac (aA _))
(ah (aq (i:=2) im.nd rfl (Or.inl rfl) (ai aV (ai aW (pv 2) (pv 1)) (pv 0))))
aC)
(ah (aq (i:=1) im.nd rfl (Or.inl rfl) (ai aV (ai aW (pv 1) (pv 1)) (pv 0))))))
(ah (ao (pv 2))))),?_⟩
  refine ⟨_,rfl,by decide,by decide,gr (n:=14) (λi σ H'=>∃ x3:Option V,σ=[some (.int p),some (.int ((n ^ 2 ^ i % p:Nat):Int)),some (.int ((n ^ ((p-2) % 2 ^ i) % p:Nat):Int)),x3]/\H'=H) ⟨none,?_,rfl⟩ ?_ ?_⟩
  ·rw [show (2:Nat) ^ 0=1 from rfl,Nat.mod_one,Nat.pow_one,Nat.pow_zero,Nat.mod_eq_of_lt hn,Nat.mod_eq_of_lt (by omega:1<p)]
   rfl
  ·rintro i σ H2 hi ⟨x3,rfl,rfl⟩
   have l1:n ^ 2 ^ i % p<p:=Nat.mod_lt _ (by omega)
   have l2:n ^ ((p-2) % 2 ^ i) % p<p:=Nat.mod_lt _ (by omega)
   have pb:=pow_bit n p (p-2) i
   have ps:n ^ 2 ^ (i+1) % p=(n ^ 2 ^ i % p)*(n ^ 2 ^ i % p) % p:=by rw [<- Nat.mul_mod,<- Nat.pow_add,Nat.pow_succ,Nat.mul_two]
   generalize n ^ 2 ^ i % p=a at *
   generalize n ^ 2 ^ (i+1) % p=a' at *
   generalize n ^ ((p-2) % 2 ^ i) % p=b at *
   generalize n ^ ((p-2) % 2 ^ (i+1)) % p=b' at *
   refine e7 (t:=tIfS _ _ _) (λσ' H'=>σ'=[some (.int p),some (.int (a:Int)),some (.int (b':Int)),some (.int (0+(i:Int)))]/\H'=H2) (λR hR=>?_) ?_
   ·refine ⟨_,rfl,_,_,rfl,rfl,_,rfl,_,_,rfl,rfl,(by show (0:Int)<=0+(i:Int); omega),_,_,rfl,rfl,rfl,_,rfl,bc (λh=>?_) (λh=>?_)⟩
    ·refine ⟨_,rfl,_,rfl,_,_,rfl,rfl,.inl ⟨by omega,by omega⟩,_,rfl,_,_,rfl,rfl,(by show (0:Int)<p; omega),?_⟩
     refine hR _ _ ⟨?_,rfl⟩
     have z:(p-2) / 2 ^ i % 2=1:=by
      have:=of_decide_eq_true h
      rw [bit_one p i h2] at this
      injection this with this
      omega
     rw [if_pos z] at pb
     rw [pb,Int.natCast_emod,Int.natCast_mul]
     rfl
    ·refine hR _ _ ⟨?_,rfl⟩
     have z:¬ (p-2) / 2 ^ i % 2=1:=λz=>h (by rw [bit_one p i h2,z]; rfl)
     rw [if_neg z] at pb
     rw [pb]
     rfl
   rintro σ' H3 ⟨rfl,rfl⟩
   refine ⟨_,rfl,_,rfl,_,_,rfl,rfl,.inl ⟨by omega,by omega⟩,_,rfl,_,_,rfl,rfl,(by show (0:Int)<p; omega),?_⟩
   refine ⟨some (.int (0+(i:Int))),?_,rfl⟩
   rw [ps,Int.natCast_emod,Int.natCast_mul]
   rfl
  ·rintro σ H2 ⟨x3,rfl,rfl⟩
   rw [Nat.mod_eq_of_lt (show p-2<2 ^ 14 by omega)]
   exact ⟨_,rfl,q⟩
theorem gP:g0 ["_law_prime_here", "_law_one", "_law_other"] ["_law_prime_here", "_law_one", "_law_other"] (aj cO):=.i
theorem ok_over {f:Addr} {fd:FuncData} (F:Fun K "_law_over" "_law_over" cO f fd) (iY:FnB P w K mg base 1 "_law_low" fF) (jR:FnB P w K mg base 1 "_law_back" spBack):aI P w K mg base CX0 2 f fd ["_law_prime_here", "_law_one", "_law_other"] spOver:=by
 refine F.o gP λ_ _ _ _ H _ Q _ hr h=>?_
 ·obtain ⟨P,u,v,x,y,rfl,hP,hu,hv,ox,oy,yz,sx,sy,q⟩:=h
  refine ⟨_,(ae (aR (az bZ (pv 0) ac (aA _))
(ah (ao (ay iY hr.m (aa (ai bu (aE (aJ K rfl) (pv 1) ac (λ_ _=>rfl)) (aE (aJ K rfl) (pv 2) ac (λ_ _=>rfl))) (aa (ai bu (aE (aJ K rfl) (pv 1) ac (λ_ _=>rfl)) (aE (aJ K rfl) (pv 2) ac (λ_ _=>rfl))) ag)))))
aC)
(ah (ao (ai aV (ai aW (pv 1) (ay jR hr.m (aa (pv 0) (aa (pv 2) ag)))) (pv 0))))),?_⟩
  have y0:=gA oy yz
  have p88:(2:Nat) ^ 4300<2 ^ 8800:=Nat.pow_lt_pow_right (by decide) (by decide)
  unfold cy at q
  refine ⟨_,rfl,rfl,_,rfl,bc (λh=>?_) (λh=>?_)⟩
  ·have h0:P=0:=by have:=of_decide_eq_true h; injection this
   rw [if_pos h0] at q
   rcases hu with ⟨_,t1,rfl,g1⟩ | ⟨z,_⟩
   ·rcases hv with ⟨_,t2,rfl,g2⟩ | ⟨z,_⟩
    ·have d1:=ox.den
     have m2:(x.2*y.1).natAbs<2 ^ 8800:=Nat.lt_of_lt_of_le (gz sx.2 sy.1) (Nat.pow_le_pow_right (by decide) (by decide))
     refine ⟨_,rfl,t1,_,_,_,rfl,rfl,SqT.of g1,rfl,_,rfl,t2,_,_,_,rfl,rfl,SqT.of g2,rfl,_,_,rfl,rfl,fu (Nat.lt_trans sx.1 p88) (Nat.lt_trans sy.2 p88),_,rfl,t1,_,_,_,rfl,rfl,SqT.of g1,rfl,_,rfl,t2,_,_,_,rfl,rfl,SqT.of g2,rfl,_,_,rfl,rfl,fu (Nat.lt_trans sx.2 p88) (Nat.lt_trans sy.1 p88),_,_,rfl,Int.mul_ne_zero (by omega) y0,m2,λt nt=>?_⟩
     exact q _ _ (gY.new nt) (.inl ⟨h0,t,rfl,af⟩)
    ·exact absurd h0 z
   ·exact absurd h0 z
  ·have h0:P ≠ 0:=λz=>h (decide_eq_true (congrArg V.int z))
   have hB:=hP.b
   rw [if_neg h0] at q
   rcases hu with ⟨z,_⟩ | ⟨_,rfl,e1⟩
   ·exact absurd z h0
   rcases hv with ⟨z,_⟩ | ⟨_,rfl,e2⟩
   ·exact absurd z h0
   rcases ox with ⟨z,_⟩ | ⟨_,x1,x2,_⟩
   ·exact absurd z h0
   rcases oy with ⟨z,_⟩ | ⟨_,y1,y2,_⟩
   ·exact absurd z h0
   have bl:bkN P y.1<P:=by
    unfold bkN
    have:=Nat.mod_lt (y.1.toNat ^ (P.toNat-2)) (show 0<P.toNat by omega)
    omega
   have b0:0<=bkN P y.1:=Int.natCast_nonneg _
   refine ⟨_,rfl,_,rfl,_,rfl,P.toNat,y.1.toNat,by rw [Int.toNat_of_nonneg (by omega),Int.toNat_of_nonneg (by omega)]; rfl,by omega,by omega,by omega,?_⟩
   refine ⟨_,_,rfl,rfl,.inl ⟨by omega,by omega⟩,_,rfl,_,_,rfl,rfl,(by show (0:Int)<P; omega),?_⟩
   exact q _ H (gY.refl H) (.inr ⟨h0,rfl,rfl⟩)
theorem nd_7:(["_law_a", "_law_b", "_law_prime_here", "_law_by"]:List Str).Nodup:=by decide +kernel
theorem nd_8:(["_law_place", "_law_left", "_law_prime_here"]:List Str).Nodup:=by decide +kernel
theorem snoc_rel {α:Type} {Rel:Nat->α->Prop} {row:List α} {e:α} {i:Nat} (lr:row.length=i) (rel:∀ j e,row[j]? = some e->Rel j e) (re:Rel i e):∀ j e',(row++[e])[j]? = some e'->Rel j e':=λj e' ej=>by
 by_cases hj:j<row.length
 ·rw [getElem?_append_left hj] at ej
  exact rel j e' ej
 ·have hj':j=row.length:=by
   have:=(List.getElem?_eq_some_iff.mp ej).1
   rw [length_append,length_singleton] at this
   omega
  subst hj'
  simp only [getElem?_concat_length,Option.some.injEq] at ej
  subst ej
  rw [lr]
  exact re
theorem fv {J:It} {n:Nat} {src:List (Option Nat)} {g:TG} {te:TE} {Q:VK} {σ σ0:L2.St} {H0:Hp} {P:Int} (hσ:aY src σ=σ0) (Sh:L2.St->Prop) (Rel:Nat->Int × Int->Prop) (hn:n<=60) (h0:Sh σ0)
  (hgo:∀ i H,i<n->gY H0 H->J.go i H) (hst:∀ H,gY H0 H->J.stop n H)
  (turn:∀ i σ H x H' (R:L2.St->VK),i<n->Sh σ->gY H0 H->J.yld i H x H'->(∀ σ2 v y H2,Sh σ2->gY H H2->At P H2 v y->Rel i y->R σ2 v H2)->g x σ H' λσ2 H2=>te σ2 H2 (R σ2))
  (hd:∀ acc us ys H,H0 acc=none->gY H0 H->H acc=some (.lst us)->Paired (At P H) us ys->ys.length=n->(∀ i y,ys[i]? = some y->Rel i y)->Q (.ref acc) H) :
  be J src g fq te σ H0 Q:=by
 refine bP (n:=n) (σ0:=σ0) hσ (λacc i zs σ H=>Sh σ/\gY H0 H/\∃ ys,Paired (At P H) zs ys/\ys.length=i/\∀ j y,ys[j]? = some y->Rel j y) (by rw [sizeLine_eq]; omega) (λacc hacc=>⟨h0,gY.new hacc,[],.nil,rfl,λj e z=>by simp at z⟩) ?_ ?_ ?_ ?_
 ·rintro acc i zs σ H hacc hi hz ⟨_,sm,_⟩
  exact hgo i H hi sm
 ·rintro acc zs σ H hacc hz ⟨_,sm,_⟩
  exact hst H sm
 ·rintro acc i zs σ H x H' hacc hi hz hzl ⟨sh,sm,ys,pr,lr,rel⟩ hy
  refine turn i σ H x H' (λσ2 y H4=>∃ ys,H4 acc=some (.lst ys)/\ys.length<sizeLine/\∃ zs,(upd H4 acc (.lst (ys++[y]))) acc=some (.lst zs)/\zs.length<=i+1/\Sh σ2/\gY H0 (upd H4 acc (.lst (ys++[y])))/\∃ row,Paired (At P (upd H4 acc (.lst (ys++[y])))) zs row/\row.length=i+1/\∀ j e,row[j]? = some e->Rel j e) hi sh sm hy λσ2 v y H2 sh2 s2 av re=>?_
  have hz2:=s2 _ _ hz
  have kt:∀ t xs,H2 t=some (.tup xs)->(upd H2 acc (.lst (zs++[v]))) t=some (.tup xs):=λt xs e=>by rw [ar (eI e hz2 (by intro z; cases z))]; exact e
  refine ⟨zs,hz2,by rw [sizeLine_eq]; omega,_,af,by rw [length_append,length_singleton]; omega,sh2,λc o e=>?_,ys++[y],aK (av.mono kt) (ak (λ_ _ z=>(z.same s2).mono kt) pr),by rw [length_append,lr]; rfl,snoc_rel lr rel re⟩
  rw [ar (al e hacc)]
  exact s2 _ _ (sm c o e)
 ·rintro acc zs σ H hacc hz hzl ⟨_,sm,row,pr,lr,rel⟩
  exact hd acc zs row H hacc sm hz pr lr rel
theorem gc {K K':Frag} {r1 r2:Addr} {es1 es2:List V} {src:List (Option Nat)} {te:TE} {Q:VK} {σ rest:L2.St} {H0:Hp} {P:Int} (hσ:aY src σ=none::none::rest) (Rel:Nat->Int × Int->Prop) (h1:H0 r1=some (.lst es1)) (h2:H0 r2=some (.lst es2)) (hl:es1.length=es2.length) (hn:es1.length<=60)
  (turn:∀ i v1 v2 H (R:VK),es1[i]? = some v1->es2[i]? = some v2->gY H0 H->(∀ v y H2,gY H H2->At P H2 v y->Rel i y->R v H2)->te (some v1::some v2::rest) H R)
  (hd:∀ acc us ys H,H0 acc=none->gY H0 H->H acc=some (.lst us)->Paired (At P H) us ys->ys.length=es1.length->(∀ i y,ys[i]? = some y->Rel i y)->Q (.ref acc) H) :
  be (Itz false false K r1 r2) src (gTup K' 2 (fK (bi 0) (fK (bi 1) gNil))) fq te σ H0 Q:=
 fv hσ (λσ=>∃ u v,σ=u::v::rest) Rel hn ⟨none,none,rfl⟩ (λi H hi sm=>⟨es1,es2,_,_,dr (SqL.of (sm _ _ h1)),dr (SqL.of (sm _ _ h2)),getElem?_eq_getElem hi,getElem?_eq_getElem (by omega)⟩) (λH sm=>⟨es1,es2,dr (SqL.of (sm _ _ h1)),dr (SqL.of (sm _ _ h2)),.inl (Nat.le_refl _)⟩)
  (λi σ H x H' R hi ⟨u,v,e⟩ sm ⟨p,x1,y1,ex,np,eH,gx,gy⟩ k=>by
   subst e ex eH
   have s2:=gY.new (o:=.tup [x1,y1]) np
   refine ⟨p,_,rfl,SqT.of af,rfl,_,_,rfl,_,_,rfl,rfl,?_⟩
   exact turn i x1 y1 _ (R (some x1::some y1::rest)) (gx _ (dr (SqL.of (sm _ _ h1)))) (gy _ (dr (SqL.of (sm _ _ h2)))) (sm.trans s2) λv y H2 s3=>k _ v y H2 ⟨_,_,rfl⟩ (s2.trans s3)) hd
theorem gf {K:Frag} {r:Addr} {es:List V} {src:List (Option Nat)} {te:TE} {Q:VK} {σ rest:L2.St} {H0:Hp} {P:Int} (hσ:aY src σ=none::rest) (Rel:Nat->Int × Int->Prop) (hr:H0 r=some (.lst es)) (hn:es.length<=60)
  (turn:∀ i v H (R:VK),es[i]? = some v->gY H0 H->(∀ v y H2,gY H H2->At P H2 v y->Rel i y->R v H2)->te (some v::rest) H R)
  (hd:∀ acc us ys H,H0 acc=none->gY H0 H->H acc=some (.lst us)->Paired (At P H) us ys->ys.length=es.length->(∀ i y,ys[i]? = some y->Rel i y)->Q (.ref acc) H) :
  be (Itl K r) src (bi 0) fq te σ H0 Q:=
 fv hσ (λσ=>∃ u,σ=u::rest) Rel hn ⟨none,rfl⟩ (λi H hi sm=>⟨es,_,SqL.of (sm _ _ hr),getElem?_eq_getElem hi⟩) (λH sm=>⟨es,SqL.of (sm _ _ hr),Nat.le_refl _⟩)
  (λi σ H x H' R hi ⟨u,e⟩ sm ⟨e',hx⟩ k=>by
   subst e e'
   exact turn i x H' (R (some x::rest)) (hx es (SqL.of (sm _ _ hr))) sm λv y H2=>k _ v y H2 ⟨_,rfl⟩) hd
theorem comp_numR {lo:Int} {n:Nat} {src:List (Option Nat)} {te:TE} {Q:VK} {σ rest:L2.St} {H0:Hp} {P:Int} (hσ:aY src σ=none::rest) (Rel:Nat->Int × Int->Prop) (hn:n<=60)
  (turn:∀ i H (R:VK),i<n->gY H0 H->(∀ v y H2,gY H H2->At P H2 v y->Rel i y->R v H2)->te (some (.int (lo+i))::rest) H R)
  (hd:∀ acc us ys H,H0 acc=none->gY H0 H->H acc=some (.lst us)->Paired (At P H) us ys->ys.length=n->(∀ i y,ys[i]? = some y->Rel i y)->Q (.ref acc) H) :
  be (Itr lo n) src (bi 0) fq te σ H0 Q:=
 fv hσ (λσ=>∃ u,σ=u::rest) Rel hn ⟨none,rfl⟩ (λi H hi sm=>hi) (λH sm=>Nat.le_refl _)
  (λi σ H x H' R hi ⟨u,e⟩ sm ⟨e',hx⟩ k=>by
   subst e e' hx
   exact turn i H' (R (some (.int (lo+i))::rest)) hi sm λv y H2=>k _ v y H2 ⟨_,rfl⟩) hd
theorem comp_bag {lo:Int} {n k c:Nat} {src:List (Option Nat)} {te:TE} {Q:VK} {σ rest:L2.St} {H0:Hp} {P:Int} {bg:Addr} {a0 b0:Int} (hσ:aY src σ=none::rest) (Rel:Int × Int->Prop) (hn:n<=60) (hb:H0 bg=some (.lst [.int a0,.int b0])) (hk:hJ a0 b0 k)
  (turn:∀ (i:Nat) (a b:Int) H (R:VK),i<n->H bg=some (.lst [.int a,.int b])->hJ a b (k+c*i)->(∀ c o,H0 c=some o->c ≠ bg->H c=some o)->(∀ v y (a' b':Int) H2,At P H2 v y->Rel y->H2 bg=some (.lst [.int a',.int b'])->hJ a' b' (k+c*(i+1))->(∀ c o,H c=some o->c ≠ bg->H2 c=some o)->R v H2)->te (some (.int (lo+i))::rest) H R)
  (hd:∀ acc us ys (a b:Int) H,H0 acc=none->(∀ c o,H0 c=some o->c ≠ bg->H c=some o)->H bg=some (.lst [.int a,.int b])->hJ a b (k+c*n)->H acc=some (.lst us)->Paired (At P H) us ys->ys.length=n->(∀ y ∈ ys,Rel y)->Q (.ref acc) H) :
  be (Itr lo n) src (bi 0) fq te σ H0 Q:=by
 refine bP (n:=n) (σ0:=none::rest) hσ (λacc i zs σ H=>(∃ u,σ=u::rest)/\(∀ c o,H0 c=some o->c ≠ bg->H c=some o)/\(∃ a b:Int,H bg=some (.lst [.int a,.int b])/\hJ a b (k+c*i))/\∃ ys,Paired (At P H) zs ys/\ys.length=i/\∀ y ∈ ys,Rel y) (by rw [sizeLine_eq]; omega) (λacc hacc=>⟨⟨_,rfl⟩,λc o e _=>gY.new hacc c o e,⟨a0,b0,gY.new hacc _ _ hb,hk⟩,[],.nil,rfl,λy hy=>(nomatch hy)⟩) ?_ ?_ ?_ ?_
 ·rintro acc i zs σ H hacc hi hz ⟨_,sm,_⟩
  exact hi
 ·rintro acc zs σ H hacc hz ⟨_,sm,_⟩
  exact Nat.le_refl _
 ·rintro acc i zs σ H x H' hacc hi hz hzl ⟨⟨u,rfl⟩,sm,⟨a,b,hbg,hbk⟩,ys,pr,lr,rel⟩ ⟨rfl,rfl⟩
  have ab:acc ≠ bg:=λz=>by rw [z,hb] at hacc; cases hacc
  refine turn i a b H' (λv H4=>∃ ys,H4 acc=some (.lst ys)/\ys.length<sizeLine/\∃ zs,(upd H4 acc (.lst (ys++[v]))) acc=some (.lst zs)/\zs.length<=i+1/\(∃ u,_=u::rest)/\_) hi hbg hbk sm λv y a' b' H2 av re hb2 hk2 s2=>?_
  have hz2:=s2 _ _ hz ab
  have kt:∀ t xs,H2 t=some (.tup xs)->(upd H2 acc (.lst (zs++[v]))) t=some (.tup xs):=λt xs e=>by rw [ar (eI e hz2 (by intro z; cases z))]; exact e
  refine ⟨zs,hz2,by rw [sizeLine_eq]; omega,_,af,by rw [length_append,length_singleton]; omega,⟨_,rfl⟩,λc o e nc=>?_,⟨a',b',by rw [ar ab.symm]; exact hb2,hk2⟩,ys++[y],aK (av.mono kt) (ak (λ_ _ z=>(z.mono λt xs e=>s2 _ _ e (eI e hbg (by intro z; cases z))).mono kt) pr),by rw [length_append,lr]; rfl,λy' hy'=>?_⟩
  ·rw [ar (al e hacc)]
   exact s2 _ _ (sm c o e nc) nc
  ·rcases List.mem_append.mp hy' with z | z
   ·exact rel y' z
   ·rw [List.mem_singleton.mp z]
    exact re
 ·rintro acc zs σ H hacc hz hzl ⟨_,sm,⟨a,b,hbg,hbk⟩,ys,pr,lr,rel⟩
  exact hd acc zs ys a b H hacc sm hbg hbk hz pr lr rel
def RowL {P:Int} (hP:gZ P) (n:Nat) (rows:List (List (Int × Int))) (i:Nat) (xs:List (Int × Int)):Prop:=(∃ B,RowB P n B xs)/\((∃ B,0<B/\B<=2 ^ 210/\∀ y ∈ xs,Rw B (2 ^ 35) y)\/(nbF hP).Sp ((rows.take i).map (vec hP)) (vec hP xs))
def spLRank:Sp:=λvs H Q _=>∃ (l:Addr) (P:Int) (hP:gZ P) (n:Nat) (ws:List V) (rows:List (List (Int × Int))),vs=[.int P,.ref l]/\H l=some (.lst ws)/\Paired (RowN P H) ws rows/\rows.length<=6/\n<=6/\(∀ (i:Nat) (xs:List (Int × Int)),rows[i]? = some xs->RowL hP n rows i xs)/\
 ∀ (K:List (Nat × Vn P)) (H':Hp),(nbF hP).Keeps K (rows.map (vec hP))->gY H H'->Q (.int K.length) H'
theorem pw245 {i:Nat} (h:i<=5):(6*2 ^ 245) ^ i<=2 ^ 1240:=by
 have h1:6*2 ^ 245<=2 ^ 248:=by rw [show (2:Nat) ^ 248=8*2 ^ 245 by rw [<- Nat.pow_add 2 3 245]]; exact Nat.mul_le_mul_right _ (by decide)
 refine Nat.le_trans (Nat.pow_le_pow_left h1 _) ?_
 rw [<- Nat.pow_mul]
 exact Nat.pow_le_pow_right (by decide) (by omega)
theorem aM {a b i j k:Nat} (h1:a<=2 ^ i) (h2:b<=2 ^ j) (h:i+j<=k):a*b<=2 ^ k:=by
 refine Nat.le_trans (Nat.mul_le_mul h1 h2) ?_
 rw [<- Nat.pow_add]
 exact Nat.pow_le_pow_right (by decide) h
theorem bY {a i k:Nat} (h1:a<=2 ^ i) (h:i<k):a<2 ^ k:=Nat.lt_of_le_of_lt h1 (Nat.pow_lt_pow_right (by decide) h)
theorem LL.all {P:Int} (hP:gZ P) {n X0 L0:Nat} {Ws:List Vz} {ps:List Nat} {es:List Int} {K:List (Nat × Vn P)} (h0:P=0) (hK:LK hP n X0 L0 Ws ps es K) {V:Vz} {e:Int} {v:Vn P} (h:LL hP n Ws ps K V e v 0):∀ i,i<=Ws.length->LL hP n Ws ps K V e v i
 | 0,_=>h
 | i+1,hi=>(LL.all hP h0 hK h i (by omega)).step hP h0 hK (getElem?_eq_getElem (by omega)) (getElem?_eq_getElem (by have:=hK.l1; omega)) (getElem?_eq_getElem (by have:=hK.l3; omega)) (getElem?_eq_getElem (by have:=hK.l2; omega))
theorem sz41 {P:Int} (hP:gZ P) {n:Nat} {Ws:List Vz} {ps:List Nat} {es:List Int} {K:List (Nat × Vn P)} (h0:P=0) (hK:LK hP n (2 ^ 245) (2 ^ 210) Ws ps es K) (hl:Ws.length<=5) {V W:Vz} {e f:Int} {v:Vn P} {i p:Nat} {k:Nat × Vn P} (h:LL hP n Ws ps K V e v i) (hV:∀ c,(V c).natAbs<=2 ^ 1313) (he:e ≠ 0/\e.natAbs<=2 ^ 1260) (eW:Ws[i]? = some W) (ep:ps[i]? = some p) (ee:es[i]? = some f) (eK:K[i]? = some k) {j:Nat} (hj:j<n) :
  Sz 2557 ((nbF hP).clear (K.take i) v j).1/\Sz 1489 (k.2 j).1/\Sz 4045 ((nb hP).mul ((nbF hP).div ((nbF hP).clear (K.take i) v p) (k.2 p)) (k.2 j)).1:=by
 have hi:i<Ws.length:=(List.getElem?_eq_some_iff.mp eW).1
 obtain ⟨k1,k2,k3,k4⟩:=hK.at_ i W p f k eW ep ee eK
 have f1:=hK.L f (mem_of_getElem? ee)
 have D0:=hK.D i (by omega)
 have D1:=hK.D (i+1) (by omega)
 have d0:(Dt Ws ps i).natAbs<=2 ^ 1240:=Nat.le_trans (Dt_le hK.l1 (by omega) (by omega) hK.X) (pw245 (by omega))
 have d1:(Dt Ws ps (i+1)).natAbs<=2 ^ 1240:=Nat.le_trans (Dt_le hK.l1 (by omega) (by omega) hK.X) (pw245 (by omega))
 have e8:6<=2 ^ 3:=by decide
 have lw:∀ j,(Lf Ws ps W i j).natAbs<=2 ^ 1488:=λj=>Nat.le_trans (Lf_le hK.l1 (by omega) (by omega) hK.X (hK.X W (mem_of_getElem? eW)) j) (aM (aM e8 (Nat.le_refl (2 ^ 245)) (by decide:3+245<=248)) (pw245 (by omega)) (by decide))
 have lv:∀ j,(Lf Ws ps V i j).natAbs<=2 ^ 2556:=λj=>Nat.le_trans (Lf_le hK.l1 (by omega) (by omega) hK.X hV j) (aM (aM e8 (Nat.le_refl (2 ^ 1313)) (by decide:3+1313<=1316)) (pw245 (by omega)) (by decide))
 refine ⟨gF hP h0 (Int.mul_ne_zero D0 he.1) (h j hj).symm (bY (lv j) (by decide)) ?_,gF hP h0 (Int.mul_ne_zero D0 f1.1) (k3 j hj).symm (bY (lw j) (by decide)) ?_,gF hP h0 (Int.mul_ne_zero D0 (Int.mul_ne_zero D1 he.1)) (hK.off hP h0 h eW ep ee eK j hj) ?_ ?_⟩
 ·rw [Int.natAbs_mul]
  exact bY (aM d0 he.2 (Nat.le_refl _)) (by decide)
 ·rw [Int.natAbs_mul]
  exact bY (aM d0 f1.2 (Nat.le_refl _)) (by decide)
 ·rw [Int.natAbs_mul]
  exact bY (aM (lv p) (lw j) (Nat.le_refl _)) (by decide)
 ·rw [Int.natAbs_mul,Int.natAbs_mul]
  exact bY (aM d0 (aM d1 he.2 (Nat.le_refl _)) (Nat.le_refl _)) (by decide)
def wh (B:Nat) (xs:List (Int × Int)):List Int:=xs.map λy=>y.1*((B / y.2.natAbs:Nat):Int)
theorem wh_rel {P:Int} {B M:Nat} {xs:List (Int × Int)} (h:∀ y ∈ xs,OkN P y/\Rw B M y) (j:Nat) (y:Int × Int) (z:Int) (ey:xs[j]? = some y) (ez:(wh B xs)[j]? = some z):z*y.2=y.1*B:=by
 unfold wh at ez
 rw [getElem?_map,ey] at ez
 obtain ⟨_,y0,yB,_⟩:=h y (mem_of_getElem? ey)
 have ez:y.1*((B / y.2.natAbs:Nat):Int)=z:=by injection ez
 obtain ⟨c,hc⟩:=yB
 rw [<- ez,Int.mul_assoc]
 congr 1
 rw [hc,Nat.mul_div_cancel_left _ (by omega),Int.natCast_mul,Int.natAbs_of_nonneg (by omega),Int.mul_comm]
theorem wh_le {P:Int} {B M:Nat} {xs:List (Int × Int)} (h:∀ y ∈ xs,OkN P y/\Rw B M y) (c:Nat):(vz (wh B xs) c).natAbs<=M*B:=by
 by_cases hc:c<xs.length
 ·have hc':c<(wh B xs).length:=by unfold wh; rw [length_map]; exact hc
  have r:=wh_rel h c _ _ (getElem?_eq_getElem hc) (getElem?_eq_getElem hc')
  obtain ⟨_,e1,_,e2⟩:=h _ (getElem_mem hc)
  rw [cf hc']
  have r:=congrArg Int.natAbs r
  rw [Int.natAbs_mul,Int.natAbs_mul,Int.natAbs_natCast] at r
  have h1:=Nat.mul_le_mul_right B e2
  rw [<- r,Nat.mul_right_comm] at h1
  exact Nat.le_of_mul_le_mul_right h1 (by omega)
 ·rw [bO (by unfold wh; rw [length_map]; omega)]
  exact Nat.zero_le _
theorem ll0 {P:Int} (hP:gZ P) {n B M:Nat} {xs:List (Int × Int)} (h:∀ y ∈ xs,OkN P y/\Rw B M y) (Ws:List Vz) (ps:List Nat) (K:List (Nat × Vn P)):LL hP n Ws ps K (vz (wh B xs)) B (vec hP xs) 0:=λj _=>by
 rw [Lf_zero,Dt_zero,Int.one_mul]
 exact vec_io hP (λy hy=>(h y hy).1) (by unfold wh; rw [length_map]) (wh_rel h) j
theorem sz_p {P:Int} {y:Int × Int} (hP:gZ P) (h0:P ≠ 0) (o:OkN P y):Sz 4300 y:=by
 have hB:=hP.b
 rcases o with ⟨z,_⟩ | ⟨_,h1,h2,h3⟩
 ·exact absurd z h0
 ·have:Sz 14 y:=⟨by omega,by rw [h3]; decide⟩
  exact this.mono (by decide)
theorem sz_neg {P:Int} {y:Int × Int} {k:Nat} (h0:P=0) (h:Sz k y):Sz k (c7 P y):=by
 unfold c7
 rw [if_pos h0]
 refine ⟨?_,h.2⟩
 have:=h.1
 show (0-y.1).natAbs<_
 rwa [Int.zero_sub,Int.natAbs_neg]
noncomputable def kv {P:Int} (hP:gZ P) (qs:List (Nat × List (Int × Int))):List (Nat × Vn P):=qs.map λq=>(q.1,vec hP q.2)
def KpN (P:Int) (d:Addr) (H:Hp) (v:V) (q:Nat × List (Int × Int)):Prop:=∃ t l us,v=.ref t/\l ≠ d/\H t=some (.tup [.int q.1,.ref l])/\H l=some (.lst us)/\Paired (At P H) us q.2
theorem KpN.same {P:Int} {d:Addr} {H H':Hp} {v:V} {q:Nat × List (Int × Int)} (s:gY H H') (h:KpN P d H v q):KpN P d H' v q:=by
 obtain ⟨t,l,us,e,n,h1,h2,h3⟩:=h
 exact ⟨t,l,us,e,n,s _ _ h1,s _ _ h2,ak (λ_ _ z=>z.same s) h3⟩
theorem KpN.put {P:Int} {d:Addr} {H:Hp} {v:V} {q:Nat × List (Int × Int)} {xs ys:List V} (hd:H d=some (.lst xs)) (h:KpN P d H v q):KpN P d (upd H d (.lst ys)) v q:=by
 obtain ⟨t,l,us,e,n,h1,h2,h3⟩:=h
 have kt:∀ t xs',H t=some (.tup xs')->(upd H d (.lst ys)) t=some (.tup xs'):=λt xs' e=>by rw [ar (eI e hd (by intro z; cases z))]; exact e
 exact ⟨t,l,us,e,n,kt _ _ h1,by rw [ar n]; exact h2,ak (λ_ _ z=>z.mono kt) h3⟩
def clN (P:Int) (p:Nat) (l o:List (Int × Int)) (j:Nat):Int × Int:=bj P (l.getD j (0,1)) (aP P (c7 P (cy P (l.getD p (0,1)) (o.getD p (0,1)))) (o.getD j (0,1)))
theorem aU {P:Int} (hP:gZ P) {n:Nat} {m:List (Int × Int)} {j:Nat} (lm:m.length=n) (om:∀ y ∈ m,OkN P y) (hj:j<n):(vec hP m j).1=m.getD j (0,1):=by
 have e:m[j]? = some m[j]:=getElem?_eq_getElem (by omega)
 rw [eC hP e (om _ (getElem_mem _))]
 simp [List.getD,e]
theorem clN_ok {P:Int} (hP:gZ P) {n p j:Nat} {l o:List (Int × Int)} (ll:l.length=n) (lo:o.length=n) (hp:p<n) (hj:j<n) (ol:∀ y ∈ l,OkN P y) (oo:∀ y ∈ o,OkN P y) (np:vec hP o p ≠ (nb hP).zero):OkN P (clN P p l o j):=by
 have op:(vec hP o p).1 ≠ (0,1):=λz=>np (Subtype.ext z)
 unfold clN
 rw [<- aU hP ll ol hj,<- aU hP ll ol hp,<- aU hP lo oo hp,<- aU hP lo oo hj]
 exact dA hP.b.1 (vec hP l j).2 (bJ hP.b.1 (cY hP.b.1 (cA hP (vec hP l p).2 (vec hP o p).2 op)) (vec hP o j).2)
theorem nbF_div {P:Int} (hP:gZ P) {x y:Nb P} (h:y.1 ≠ (0,1)):((nbF hP).div x y).1=cy P x.1 y.1:=by
 show (if h:y.1 ≠ (0,1) then (⟨cy P x.1 y.1,cA hP x.2 y.2 h⟩:Nb P) else (nb hP).zero).1=_
 rw [dif_pos h]
theorem mulN_neg {P:Int} (hP:gZ P) {x y:Int × Int} (hx:OkN P x) (hy:OkN P y):aP P (c7 P x) y=c7 P (aP P x y):=congrArg Subtype.val ((nbF hP).neg_mul ⟨x,hx⟩ ⟨y,hy⟩)
theorem aS {R:V->Int × Int->Prop} {us:List V} {m:List (Int × Int)} {j:Nat} (h:Paired R us m) (hj:j<m.length):∃ u,us[j]? = some u/\R u (m.getD j (0,1)):=by
 have e:us[j]? = some (us[j]'(by rw [Paired.length h]; exact hj)):=getElem?_eq_getElem _
 obtain ⟨y,ey,r⟩:=aG h e
 refine ⟨_,e,?_⟩
 rw [show m.getD j (0,1)=y by simp [List.getD,ey]]
 exact r
theorem bm {P:Int} {m:List (Int × Int)} {j:Nat} (om:∀ y ∈ m,OkN P y) (hj:j<m.length):OkN P (m.getD j (0,1)):=by
 rw [show m.getD j (0,1)=m[j] by simp [List.getD,getElem?_eq_getElem hj]]
 exact om _ (getElem_mem hj)
theorem vec_cl {P:Int} (hP:gZ P) {n p:Nat} {l o zs:List (Int × Int)} (ll:l.length=n) (lo:o.length=n) (lz:zs.length=n) (hp:p<n) (ol:∀ y ∈ l,OkN P y) (oo:∀ y ∈ o,OkN P y) (np:vec hP o p ≠ (nb hP).zero) (h:∀ j y,zs[j]? = some y->y=clN P p l o j):vec hP zs=(nbF hP).red (vec hP o) p (vec hP l):=by
 have at_:∀ {m:List (Int × Int)} {j:Nat},m.length=n->(∀ y ∈ m,OkN P y)->j<n->(vec hP m j).1=m.getD j (0,1):=λ{m j} lm om hj=>by
  have e:m[j]? = some m[j]:=getElem?_eq_getElem (by omega)
  rw [eC hP e (om _ (getElem_mem _))]
  simp [List.getD,e]
 funext j
 by_cases hj:j<n
 ·have e:zs[j]? = some zs[j]:=getElem?_eq_getElem (by omega)
  have ez:=h j _ e
  have op:(vec hP o p).1 ≠ (0,1):=λz=>np (Subtype.ext z)
  have ok:OkN P zs[j]:=by
   rw [ez]
   unfold clN
   rw [<- at_ ll ol hj,<- at_ ll ol hp,<- at_ lo oo hp,<- at_ lo oo hj]
   exact dA hP.b.1 (vec hP l j).2 (bJ hP.b.1 (cY hP.b.1 (cA hP (vec hP l p).2 (vec hP o p).2 op)) (vec hP o j).2)
  rw [eC hP e ok]
  refine Subtype.ext ?_
  show zs[j]=((nb hP).add (vec hP l j) ((nb hP).mul ((nbF hP).neg (if h:(vec hP o p).1 ≠ (0,1) then ⟨cy P (vec hP l p).1 (vec hP o p).1,cA hP (vec hP l p).2 (vec hP o p).2 h⟩ else (nb hP).zero)) (vec hP o j))).1
  rw [dif_pos op,ez]
  show clN P p l o j=bj P (vec hP l j).1 (aP P (c7 P (cy P (vec hP l p).1 (vec hP o p).1)) (vec hP o j).1)
  unfold clN
  rw [at_ ll ol hj,at_ ll ol hp,at_ lo oo hp,at_ lo oo hj]
 ·rw [bf hP (by omega)]
  show (nb hP).zero=(nb hP).add (vec hP l j) ((nb hP).mul _ (vec hP o j))
  rw [bf hP (xs:=l) (j:=j) (by omega),bf hP (xs:=o) (j:=j) (by omega),CS.mul_zero,CS.add_zero]
def nzq (l:List (Int × Int)) (n:Nat):List Nat:=(List.range n).filter λj=>!decide (l.getD j (0,1)=(0,1))
theorem nzq_step (l:List (Int × Int)) (j:Nat):nzq l (j+1)=nzq l j++if (!decide (l.getD j (0,1)=(0,1)))=true then [j] else []:=by
 unfold nzq
 rw [range_succ,filter_append]
 congr 1
 simp only [List.filter_cons,List.filter_nil]
theorem nzq_mem {l:List (Int × Int)} {n p:Nat}:p ∈ nzq l n↔p<n/\l.getD p (0,1) ≠ (0,1):=by
 unfold nzq
 rw [mem_filter,mem_range]
 refine and_congr Iff.rfl ⟨λh z=>?_,λh=>?_⟩
 ·rw [z] at h
  cases h
 ·rw [decide_eq_false h]
  rfl
theorem sp_clear {P:Int} (hP:gZ P) {K:List (Nat × Vn P)} {vs:List (Vn P)} {v:Vn P} (h:(nbF hP).Keeps K vs) (hv:(nbF hP).Sp vs v) (j:Nat):(nbF hP).clear K v j=(nb hP).zero:=by
 have h1:(nbF hP).Sp (K.map (·.2)) v:=hv.trans _ h.2.1
 obtain ⟨w,hw,e⟩:=(nbF hP).clear_sp (K:=K) (v:=v)
 have h2:(nbF hP).Sp (K.map (·.2)) ((nbF hP).clear K v):=(h1.add _ (hw.mul _ ((nbF hP).neg (nbF hP).one))).eq _ λj=>by
  show (nbF hP).clear K v j=(nbF hP).add (v j) ((nbF hP).mul ((nbF hP).neg (nbF hP).one) (w j))
  rw [e j,(nbF hP).neg_mul,(nbF hP).one_mul,(nbF hP).add_comm (w j),(nbF hP).add_assoc,(nbF hP).add_neg]
  exact (CS.add_zero _ _).symm
 exact FL.tri_zero _ h.1 h2 (λq hq=>(nbF hP).clear_at h.1 q hq) j
theorem ie:g0 ["_law_prime_here", "_law_rows_here", "_law_kept", "_law_row", "_law_left", "_law_place", "_law_other", "_law_by", "_law_places"] ["_law_prime_here", "_law_rows_here"] (aj cS):=.i
set_option maxHeartbeats 1000000 in
theorem ok_lrank {f:Addr} {fd:FuncData} (F:Fun K "_law_rank" "_law_rank" cS f fd) (T:Blt mg) (jl:FnB P w K mg base 2 "_law_plus" (f8 bj)) (i8:FnB P w K mg base 2 "_law_times" (f8 aP)) (jS:FnB P w K mg base 1 "_law_less" spLess) (jT:FnB P w K mg base 2 "_law_over" spOver) (jc:FnB P w K mg base 1 "_law_nought" fJ):aI P w K mg base CX0 3 f fd ["_law_prime_here", "_law_rows_here"] spLRank:=by
 refine F.o ie λ_ _ _ _ H _ Q _ hr h=>?_
 ·obtain ⟨l,P,hP,n,ws,rows,rfl,hl,pr,r6,n6,okr,q⟩:=h
  have hB:=hP.b
  refine ⟨_,(ae (aq (i:=2) ie.nd rfl (Or.inl rfl) (bL ag))
(ae (cG PassesOwn.never rfl (aO K rfl (pv 1)) (b9 (i:=3) ie.nd rfl (Or.inl rfl))
(ae (aq (i:=4) ie.nd rfl (Or.inr rfl) (fm K T (pv 3)))
(ae (cG PassesOwn.never rfl (aO K rfl (pv 2)) (cU K (i:=5) (j:=6) rfl rfl ie.nd rfl rfl rfl rfl)
(ae (aq (i:=7) ie.nd rfl (Or.inr rfl) (ay jS hr.m (aa (pv 0) (aa (ay jT hr.m (aa (pv 0) (aa (aE (aB K rfl) (pv 4) (pv 5) (λ_ _=>rfl)) (aa (aE (aB K rfl) (pv 6) (pv 5) (λ_ _=>rfl)) ag)))) ag))))
(ah (aq (i:=4) ie.nd rfl (Or.inr rfl) (by exact cW (N:=["_law_a", "_law_b", "_law_prime_here", "_law_by"]) (src:=[none,none,some 0,some 7]) rfl rfl rfl (by exact (gD K false false rfl rfl T.zip (aa (pv 4) (aa (pv 6) ag)))) (λ_ _ _=>by exact ⟨by exact (cU K (i:=0) (j:=1) rfl rfl nd_7 rfl rfl rfl rfl),aX,by exact (ay jl hr.m (aa (pv 2) (aa (pv 0) (aa (ay i8 hr.m (aa (pv 2) (aa (pv 3) (aa (pv 1) ag)))) ag))))⟩))))))
(ae (bt (i:=8) ie.nd rfl (Or.inl rfl) (N:=["_law_place", "_law_left", "_law_prime_here"]) (src:=[none,some 4,some 0]) rfl rfl rfl (by exact (bE rfl T.range (aa (cV K T (pv 4)) ag))) (λ_ _ _=>by exact ⟨by exact (bX (i:=0) nd_8 rfl rfl),(gs (az (kneD K rfl hr.units) (aE (aB K rfl) (pv 1) (pv 0) (λ_ _=>rfl)) (ay jc hr.m (aa (pv 2) ag)) (aA _))),by exact (pv 0)⟩))
(ah (aR (az (kneD K rfl hr.units) (pv 8) (bL ag) (aA _))
(ah (gI (bmA K rfl (pv 2) (aa (en (aa (aE (aB K rfl) (pv 8) ac (λ_ _=>rfl)) (aa (pv 4) ag))) ag))))
aC))))))
(ah (ao (cV K T (pv 2)))))),?_⟩
  have lw:ws.length=rows.length:=Paired.length pr
  refine ⟨Nat.zero_le _,λd hd=>?_⟩
  have s0:=gY.new (o:=.lst []) hd
  have hd0:(upd H d (.lst [])) d=some (.lst []):=af
  generalize upd H d (.lst [])=H0 at *
  refine ⟨_,rfl,l,rfl,⟨_,SqL.of (s0 _ _ hl)⟩,bT (xs:=ws) (λi σ H'=>∃ (x3 x4 x5 x6 x7 x8:Option V) (ks:List V) (qs:List (Nat × List (Int × Int))),σ=[some (.int P),some (.ref l),some (.ref d),x3,x4,x5,x6,x7,x8]/\gY H H'/\H' d=some (.lst ks)/\Paired (KpN P d H') ks qs/\qs.length<=i/\(∀ q ∈ qs,q.1<n/\q.2.length=n/\(∀ y ∈ q.2,OkN P y)/\vec hP q.2 q.1 ≠ (nb hP).zero)/\(P=0->∃ Ws es,LK hP n (2 ^ 245) (2 ^ 210) Ws (qs.map (·.1)) es (kv hP qs))/\(nbF hP).Keeps (kv hP qs) ((rows.take i).map (vec hP))) ?_ ?_ ?_ ?_⟩
  ·exact ⟨none,none,none,none,none,none,[],[],rfl,s0,hd0,.nil,Nat.zero_le _,λq hq=>(nomatch hq),λ_=>⟨[],[],LK.nil hP n _ _⟩,trivial,λv hv=>by simp at hv,λq hq=>(nomatch hq)⟩
  ·rintro i σ H' _ ⟨x3,x4,x5,x6,x7,x8,ks,qs,rfl,sm,_⟩
   exact SqL.of (sm _ _ hl)
  ·rintro i v σ H1 hv ⟨x3,x4,x5,x6,x7,x8,ks,qs,rfl,s1,hd1,pk,wl,okq,lk,kp⟩ N0 C0 hN0
   obtain ⟨xs,ex,o,us,rfl,ho,pu⟩:=aG pr hv
   have hi:i<rows.length:=(List.getElem?_eq_some_iff.mp ex).1
   obtain ⟨⟨B,xl,B0,B1,okx⟩,alt⟩:=okr i xs ex
   have lu:us.length=xs.length:=Paired.length pu
   have lkz:ks.length=qs.length:=Paired.length pk
   refine ⟨_,rfl,o,us,rfl,.inl (SqL.of (s1 _ _ ho)),λdl ndl=>?_⟩
   have s2:=gY.new (o:=.lst us) ndl
   have hl2:(upd H1 dl (.lst us)) dl=some (.lst us):=af
   generalize upd H1 dl (.lst us)=H2 at *
   refine ⟨_,rfl,d,rfl,⟨_,SqL.of (s2 _ _ hd1)⟩,bT (xs:=ks) (λk σ H'=>∃ (x5 x6 x7:Option V) (cl:Addr) (cu:List V) (cur:List (Int × Int)),σ=[some (.int P),some (.ref l),some (.ref d),some (.ref o),some (.ref cl),x5,x6,x7,x8]/\gY H1 H'/\H1 cl=none/\H' cl=some (.lst cu)/\Paired (At P H') cu cur/\cur.length=n/\(∀ y ∈ cur,OkN P y)/\vec hP cur=(nbF hP).clear ((kv hP qs).take k) (vec hP xs)) ?_ ?_ ?_ ?_⟩
   ·exact ⟨x5,x6,x7,dl,us,xs,rfl,s2,ndl,hl2,ak (λ_ _ z=>(z.same s1).same s2) pu,xl,λy hy=>(okx y hy).1,rfl⟩
   ·rintro k σ H' _ ⟨x5,x6,x7,cl,cu,cur,rfl,sm,_⟩
    exact SqL.of (sm _ _ hd1)
   ·rintro k v σ H3 hv3 ⟨x5,x6,x7,cl,cu,cur,rfl,s3,ncl,hcl,pc,cn,okc,vc⟩ N1 C1 hN1
    obtain ⟨q',eq,t,la,ou,rfl,_,ht,hla,po⟩:=aG pk hv3
    obtain ⟨q1,q2,q3,q4⟩:=okq q' (mem_of_getElem? eq)
    have ht:=s3 _ _ ht
    have hla:=s3 _ _ hla
    have po:=ak (λ_ _ (z:At P H1 _ _)=>z.same s3) po
    have lcu:cu.length=cur.length:=Paired.length pc
    have lou:ou.length=q'.2.length:=Paired.length po
    have eK:(kv hP qs)[k]? = some (q'.1,vec hP q'.2):=by unfold kv; rw [getElem?_map,eq]; rfl
    have op:(vec hP q'.2 q'.1).1 ≠ (0,1):=λz=>q4 (Subtype.ext z)
    have og:q'.2.getD q'.1 (0,1) ≠ (0,1):=by rw [<- aU hP q2 q3 q1]; exact op
    have ocg:=bm okc (show q'.1<cur.length by omega)
    have oog:=bm q3 (show q'.1<q'.2.length by omega)
    have odv:=cA hP ocg oog og
    have szs:∀ j,j<n->Sz 4300 (cur.getD j (0,1))/\Sz 4300 (q'.2.getD j (0,1))/\Sz 4300 (cy P (cur.getD q'.1 (0,1)) (q'.2.getD q'.1 (0,1)))/\Sz 4300 (aP P (c7 P (cy P (cur.getD q'.1 (0,1)) (q'.2.getD q'.1 (0,1)))) (q'.2.getD j (0,1))):=λj hj=>by
     have oj:=bm okc (show j<cur.length by omega)
     have oo:=bm q3 (show j<q'.2.length by omega)
     by_cases h0:P=0
     ·obtain ⟨Ws,es,hK⟩:=lk h0
      have wl':Ws.length=qs.length:=by rw [<- hK.l2]; unfold kv; rw [length_map]
      have kq:k<qs.length:=(List.getElem?_eq_some_iff.mp eq).1
      have ep:(qs.map (·.1))[k]? = some q'.1:=by rw [getElem?_map,eq]; rfl
      have L:=LL.all hP h0 hK (ll0 hP okx Ws (qs.map (·.1)) (kv hP qs)) k (by omega)
      have hV:∀ c,(vz (wh B xs) c).natAbs<=2 ^ 1313:=λc=>Nat.le_trans (wh_le okx c) (aM (Nat.le_refl _) B1 (by decide))
      have S:=λ{j:Nat} (hj:j<n)=>sz41 hP h0 hK (by omega) L hV ⟨by omega,by rw [Int.natAbs_natCast]; exact B1⟩ (getElem?_eq_getElem (by omega)) ep (getElem?_eq_getElem (by have:=hK.l3; omega)) eK hj
      rw [<- vc] at S
      obtain ⟨a1,a2,a3⟩:=S hj
      obtain ⟨b1,b2,_⟩:=S q1
      rw [aU hP cn okc hj] at a1
      rw [aU hP cn okc q1] at b1
      have a2:Sz 1489 (vec hP q'.2 j).1:=a2
      have b2:Sz 1489 (vec hP q'.2 q'.1).1:=b2
      rw [aU hP q2 q3 hj] at a2
      rw [aU hP q2 q3 q1] at b2
      have a3:Sz 4045 (aP P ((nbF hP).div (vec hP cur q'.1) (vec hP q'.2 q'.1)).1 (vec hP q'.2 j).1):=a3
      rw [nbF_div hP op,aU hP cn okc q1,aU hP q2 q3 q1,aU hP q2 q3 hj] at a3
      refine ⟨a1.mono (by decide),a2.mono (by decide),?_,?_⟩
      ·unfold cy
       rw [if_pos h0]
       have d1:=ocg.den
       exact sz_nrm (Int.mul_ne_zero (by omega) (gA oog og)) (Nat.lt_of_lt_of_le (gz b1.1 b2.2) (Nat.pow_le_pow_right (by decide) (by decide))) (Nat.lt_of_lt_of_le (gz b1.2 b2.1) (Nat.pow_le_pow_right (by decide) (by decide)))
      ·rw [mulN_neg hP odv oo]
       exact (sz_neg h0 a3).mono (by decide)
     ·exact ⟨sz_p hP h0 oj,sz_p hP h0 oo,sz_p hP h0 odv,sz_p hP h0 (bJ hB.1 (cY hB.1 odv) oo)⟩
    obtain ⟨c1,ec1,ac1⟩:=aS pc (show q'.1<cur.length by omega)
    obtain ⟨o1,eo1,ao1⟩:=aS po (show q'.1<q'.2.length by omega)
    obtain ⟨z1,z2,z3,_⟩:=szs q'.1 q1
    refine ⟨t,_,rfl,SqT.of ht,rfl,_,_,rfl,_,_,rfl,rfl,?_⟩
    refine ⟨_,rfl,_,rfl,_,rfl,_,rfl,cl,_,_,c1,rfl,rfl,SqL.of hcl,bh ec1,_,rfl,_,rfl,la,_,_,o1,rfl,rfl,SqL.of hla,bh eo1,P,c1,o1,_,_,rfl,hP,ac1,ao1,ocg,oog,og,z1,z2,λr4 H4 s4 a4=>?_⟩
    refine ⟨P,r4,_,rfl,hP,a4,λr5 H5 s5 a5=>?_⟩
    have s35:=s4.trans s5
    have ong:=cY hB.1 odv
    have zng:Sz 4300 (c7 P (cy P (cur.getD q'.1 (0,1)) (q'.2.getD q'.1 (0,1)))):=by
     by_cases h0:P=0
     ·exact sz_neg h0 z3
     ·exact sz_p hP h0 ong
    refine ⟨_,rfl,_,rfl,cl,la,rfl,⟨_,dr (SqL.of (s35 _ _ hcl))⟩,⟨_,dr (SqL.of (s35 _ _ hla))⟩,gc (P:=P) (rest:=[some (.int P),some r5]) rfl (λj y=>y=clN P q'.1 cur q'.2 j) (s35 _ _ hcl) (s35 _ _ hla) (by omega) (by omega) (λj v1 v2 H6 R e1 e2 s6 kk=>?_) (λacc zu zs H6 nacc s6 hz pz lz rel=>?_)⟩
    ·have hj:j<n:=by have:=(List.getElem?_eq_some_iff.mp e1).1; omega
     obtain ⟨u1,g1,w1⟩:=aS pc (show j<cur.length by omega)
     obtain ⟨u2,g2,w2⟩:=aS po (show j<q'.2.length by omega)
     rw [e1] at g1
     rw [e2] at g2
     cases g1
     cases g2
     obtain ⟨y1,y2,_,y4⟩:=szs j hj
     have oj:=bm okc (show j<cur.length by omega)
     have oo:=bm q3 (show j<q'.2.length by omega)
     refine ⟨_,rfl,_,rfl,_,rfl,_,rfl,_,rfl,P,r5,v2,_,_,rfl,hP,a5.same s6,w2.same (s35.trans s6),ong,oo,zng,y2,λr7 H7 s7 a7=>?_⟩
     exact ⟨P,v1,r7,_,_,rfl,hP,(w1.same (s35.trans s6)).same s7,a7,oj,bJ hB.1 ong oo,y1,y4,λr8 H8 s8 a8=>kk r8 _ H8 (s7.trans s8) a8 rfl⟩
    ·have s36:=s3.trans (s35.trans s6)
     refine hN1 _ _ ⟨_,_,_,acc,zu,zs,rfl,s36,(s3.trans s35).free nacc,hz,pz,by omega,λy hy=>?_,?_⟩
     ·obtain ⟨j,hj,rfl⟩:=List.mem_iff_getElem.mp hy
      rw [rel j _ (getElem?_eq_getElem hj)]
      exact clN_ok hP cn q2 q1 (by omega) okc q3 q4
     ·rw [dn hP eK,<- vc]
      exact vec_cl hP cn q2 (by omega) q1 okc q3 q4 rel
   ·rintro σ H3 ⟨x5,x6,x7,cl,cu,cur,rfl,s3,ncl,hcl,pc,cn,okc,vc⟩
    have lcu:cu.length=cur.length:=Paired.length pc
    rw [show (kv hP qs).take ks.length=kv hP qs by rw [lkz,<- show (kv hP qs).length=qs.length by unfold kv; rw [length_map]]; exact take_length ..] at vc
    refine ⟨_,rfl,cl,_,rfl,.inl (SqL.of hcl),_,rfl,by show -(2 ^ 62)<=((cu.length:Nat):Int); omega,by show ((cu.length:Nat):Int)<2 ^ 62; omega,bP (n:=n) (σ0:=[none,some (.ref cl),some (.int P)]) rfl (λacc i ws σ H'=>∃ (u:Option V),σ=[u,some (.ref cl),some (.int P)]/\gY H3 H'/\ws=((nzq cur i).map λj:Nat=>(j:Int)).map V.int) (by rw [sizeLine_eq]; omega) (λacc hacc=>⟨none,rfl,gY.new hacc,rfl⟩) ?_ ?_ ?_ ?_⟩
    ·rintro acc j zs σ H' hacc hj hz ⟨u,rfl,sm,_⟩
     show j<((cu.length:Nat):Int).toNat
     omega
    ·rintro acc zs σ H' hacc hz ⟨u,rfl,sm,_⟩
     show ((cu.length:Nat):Int).toNat<=n
     omega
    ·rintro acc j zs σ H' x' H4 hacc hj hz hzl ⟨u,rfl,sm,rfl⟩ ⟨rfl,rfl⟩
     obtain ⟨u1,g1,w1⟩:=aS pc (show j<cur.length by omega)
     have oj:=bm okc (show j<cur.length by omega)
     have nj:=nzq_step cur j
     refine ⟨_,rfl,_,rfl,cl,_,_,u1,rfl,rfl,SqL.of (sm _ _ hcl),(by rw [Int.zero_add]; exact bh g1),_,rfl,P,rfl,hP,λr8 H8 s8 a8=>?_⟩
     refine ⟨dN P (cur.getD j (0,1)),dN P (0,1),dr_at ((w1.same sm).same s8),dr_at a8,gh _ _,gh _ _,_,rfl,?_⟩
     rw [eqv_dN2 oj (bU hB.1 hB.2.2)]
     have hz8:=s8 _ _ hz
     refine bc (λh=>?_) (λh=>?_)
     ·rw [if_pos h] at nj
      refine ⟨_,rfl,_,hz8,by rw [sizeLine_eq]; omega,_,af,by rw [length_append,length_singleton]; omega,_,rfl,(sm.trans s8).put hacc,?_⟩
      rw [nj,map_append,map_append,Int.zero_add]
      rfl
     ·rw [if_neg h,append_nil] at nj
      exact ⟨_,hz8,by omega,_,rfl,sm.trans s8,by rw [nj]⟩
    ·rintro pl zs σ H4 hpl hz4 hzl ⟨u,rfl,s4,rfl⟩
     refine ⟨_,rfl,Nat.zero_le _,λem hem=>?_⟩
     have s5:=s4.trans (gY.new (o:=.lst []) hem)
     have h5:(upd H4 em (.lst [])) em=some (.lst []):=af
     have hz5:=(gY.new (o:=.lst []) hem) _ _ hz4
     generalize upd H4 em (.lst [])=H5 at *
     have s35:=s3.trans s5
     have vg:∀ j,j<n->(cur.getD j (0,1)=(0,1)↔(nbF hP).clear (kv hP qs) (vec hP xs) j=(nb hP).zero):=λj hj=>by
      rw [<- vc,<- aU hP cn okc hj]
      exact ⟨λz=>Subtype.ext z,λz=>congrArg Subtype.val z⟩
     refine ⟨dIL _,dIL [],.lst (SqL.of hz5) (dD _),.lst (SqL.of h5) .nil,cX _,cX _,_,rfl,bc (λh=>?_) (λh=>?_)⟩
     ·cases hn:nzq cur n with
      | nil=>rw [hn] at h; exact absurd h (by decide)
      | cons p0 rest=>
       obtain ⟨pn,pz⟩:=nzq_mem.mp (show p0 ∈ nzq cur n by rw [hn]; exact mem_cons_self ..)
       rw [hn] at hz5
       have cz:(nbF hP).clear (kv hP qs) (vec hP xs) p0 ≠ (nb hP).zero:=λz=>pz ((vg p0 pn).mpr z)
       have hd5:=s35 _ _ hd1
       refine ⟨_,rfl,(.inl ⟨rfl,_,SqL.of hd5⟩),_,rfl,pl,_,_,.int (p0:Int),rfl,rfl,SqL.of hz5,bh (j:=0) rfl,_,rfl,(by show 2<=sizeLine; decide),λt nt=>?_⟩
       have s6:=gY.new (o:=.tup [.int (p0:Int),.ref cl]) nt
       have h6:(upd H5 t (.tup [.int (p0:Int),.ref cl])) t=some (.tup [.int (p0:Int),.ref cl]):=af
       generalize upd H5 t (.tup [.int (p0:Int),.ref cl])=H6 at *
       have s36:=s35.trans s6
       have hd6:=s6 _ _ hd5
       refine ⟨d,ks,_,rfl,rfl,hd6,by rw [sizeLine_eq]; omega,?_⟩
       have ek:kv hP (qs++[(p0,cur)])=kv hP qs++[(p0,(nbF hP).clear (kv hP qs) (vec hP xs))]:=by
        unfold kv at vc ⊢
        rw [map_append,<- vc]
        rfl
       refine hN0 _ _ ⟨_,_,_,_,_,_,ks++[.ref t],qs++[(p0,cur)],rfl,(s1.trans s36).put hd,af,?_,by rw [length_append,length_singleton]; omega,λq hq=>?_,λh0=>?_,?_⟩
       ·exact aK (KpN.put hd6 ⟨t,cl,cu,rfl,λz=>(by rw [z,hd1] at ncl; cases ncl),h6,s6 _ _ (s5 _ _ hcl),ak (λ_ _ z=>(z.same s5).same s6) pc⟩) (ak (λ_ _ z=>(z.same s36).put hd6) pk)
       ·rcases List.mem_append.mp hq with y | y
        ·exact okq q y
        ·rw [List.mem_singleton.mp y]
         exact ⟨pn,cn,okc,by rw [vc]; exact cz⟩
       ·obtain ⟨Ws,es,hK⟩:=lk h0
        have wl':Ws.length=qs.length:=by rw [<- hK.l2]; unfold kv; rw [length_map]
        rcases alt with ⟨C,C0,C1,okC⟩ | sp
        ·have okb:∀ y ∈ xs,OkN P y/\Rw C (2 ^ 35) y:=λy hy=>⟨(okx y hy).1,okC y hy⟩
         have L:=LL.all hP h0 hK (ll0 hP okb Ws (qs.map (·.1)) (kv hP qs)) Ws.length (Nat.le_refl _)
         rw [ek,map_append]
         exact ⟨_,_,LK.snoc hP h0 hK L pn (λc=>Nat.le_trans (wh_le okb c) (aM (Nat.le_refl _) C1 (by decide))) ⟨by omega,by rw [Int.natAbs_natCast]; exact C1⟩ cz⟩
        ·exact absurd (sp_clear hP kp sp p0) cz
       ·rw [take_add_one,ex,map_append,ek]
        rcases FL.Keeps.step _ (v:=vec hP xs) kp with y | y
        ·exact absurd (y.1 p0) cz
        ·exact y p0 cz
     ·have hn:nzq cur n=[]:=by
       cases hn:nzq cur n with
       | nil=>rfl
       | cons p0 rest=>rw [hn] at h; exact absurd rfl h
      refine hN0 _ _ ⟨_,_,_,_,_,_,ks,qs,rfl,s1.trans s35,s35 _ _ hd1,ak (λ_ _ z=>z.same s35) pk,by omega,okq,lk,?_⟩
      rw [take_add_one,ex,map_append]
      refine fH hP kp λj=>?_
      by_cases hj:j<n
      ·refine (vg j hj).mp (Classical.byContradiction λz=>?_)
       have:=nzq_mem.mpr ⟨hj,z⟩
       rw [hn] at this
       cases this
      ·rw [<- vc]
       exact bf hP (by omega)
  ·rintro σ H1 ⟨x3,x4,x5,x6,x7,x8,ks,qs,rfl,s1,hd1,pk,wl,okq,lk,kp⟩
   rw [lw,take_length] at kp
   have lk:ks.length=(kv hP qs).length:=by
    unfold kv
    rw [length_map]
    exact Paired.length pk
   refine ⟨_,rfl,d,_,rfl,.inl (SqL.of hd1),?_⟩
   show Q (.int (ks.length:Nat)) H1
   rw [lk]
   exact q _ H1 kp s1
theorem nd_9:(["_law_place", "_law_prime_here", "_law_bag_here"]:List Str).Nodup:=by decide +kernel
theorem nd_10:(["_law_place", "_law_bag_here"]:List Str).Nodup:=by decide +kernel
theorem nd_11:(["_law_a", "_law_prime_here", "_law_by"]:List Str).Nodup:=by decide +kernel
theorem nd_12:(["_law_place", "_law_prime_here"]:List Str).Nodup:=by decide +kernel
section
variable {P:Int} (hP:gZ P)
def Kd (n:Nat) (rows:List (List (Int × Int))) (xs:List (Int × Int)):Prop:=xs.length=n/\(∀ y ∈ xs,OkN P y)/\((∀ y ∈ xs,Sz 35 y)\/((nbF hP).Sp (rows.map (vec hP)) (vec hP xs)/\∀ (Bp:Nat->Nat) (M:Nat),2 ^ 14<=M->(∀ xs' ∈ rows,∀ (p:Nat) (y:Int × Int),xs'[p]? = some y->Rw (Bp p) M y)->∀ (p:Nat) (y:Int × Int),xs[p]? = some y->Rw (6*Bp p) (8*M) y))
def ij (n:Nat) (rows:List (List (Int × Int))):Prop:=(∀ (i:Nat) (xs:List (Int × Int)),rows[i]? = some xs->xs.length=n/\(∀ y ∈ xs,OkN P y)/\((∃ B,0<B/\B<=2 ^ 210/\∀ y ∈ xs,Rw B (2 ^ 35) y)\/(nbF hP).Sp ((rows.take i).map (vec hP)) (vec hP xs)))/\
 ∃ Bp:Nat->Nat,(∀ p,0<Bp p/\Bp p<=2 ^ (35*rows.length))/\∀ xs ∈ rows,∀ (p:Nat) (y:Int × Int),xs[p]? = some y->Rw (Bp p) (2 ^ (35+3*rows.length)) y
theorem ij.nil (n:Nat):ij hP n []:=⟨λi xs h=>by simp at h,λ_=>1,λp=>⟨Nat.one_pos,Nat.le_refl _⟩,λxs h=>(nomatch h)⟩
theorem ij.snoc {n:Nat} {rows:List (List (Int × Int))} {xs:List (Int × Int)} (n6:n<=6) (h:ij hP n rows) (k:Kd hP n rows xs):ij hP n (rows++[xs]):=by
 obtain ⟨h1,Bp,hb,hr⟩:=h
 obtain ⟨kl,ko,kk⟩:=k
 refine ⟨λi xs' e=>?_,?_⟩
 ·by_cases hi:i<rows.length
  ·rw [getElem?_append_left hi] at e
   rw [take_append_of_le_length (by omega)]
   exact h1 i xs' e
  ·have hi':i=rows.length:=by
    have:=(List.getElem?_eq_some_iff.mp e).1
    rw [length_append,length_singleton] at this
    omega
   subst hi'
   simp only [getElem?_concat_length,Option.some.injEq] at e
   subst e
   refine ⟨kl,ko,?_⟩
   rcases kk with b | ⟨s,_⟩
   ·obtain ⟨B,B0,B1,B2⟩:=rw_list (P:=P) (z:=35) (ps:=xs.map λy=>(([]:List Int),y)) (λp hp=>by
     obtain ⟨y,hy,rfl⟩:=List.mem_map.mp hp
     exact ⟨ko y hy,b y hy⟩)
    rw [length_map] at B1
    exact .inl ⟨B,B0,Nat.le_trans B1 (Nat.pow_le_pow_right (by decide) (by omega)),λy hy=>B2 ([],y) (List.mem_map.mpr ⟨y,hy,rfl⟩)⟩
   ·rw [take_append_of_le_length (Nat.le_refl _),take_length]
    exact .inr s
 ·have e1:(rows++[xs]).length=rows.length+1:=by simp
  rw [e1]
  have p8:2 ^ (35+3*(rows.length+1))=8*2 ^ (35+3*rows.length):=by rw [show 35+3*(rows.length+1)=3+(35+3*rows.length) by omega,Nat.pow_add]
  have p35:2 ^ (35*(rows.length+1))=2 ^ 35*2 ^ (35*rows.length):=by rw [show 35*(rows.length+1)=35+35*rows.length by omega,Nat.pow_add]
  have M0:=Nat.two_pow_pos (35+3*rows.length)
  rcases kk with b | ⟨_,s⟩
  ·have g:∀ p,0<(xs.getD p (0,1)).2.natAbs/\(xs.getD p (0,1)).2.natAbs<2 ^ 35:=λp=>by
    by_cases hp:p<xs.length
    ·rw [show xs.getD p (0,1)=xs[p] by simp [List.getD,getElem?_eq_getElem hp]]
     have:=(ko _ (getElem_mem hp)).den
     exact ⟨by omega,(b _ (getElem_mem hp)).2⟩
    ·rw [show xs.getD p (0,1)=(0,1) by simp [List.getD,getElem?_eq_none (show xs.length<=p by omega)]]
     decide
   refine ⟨λp=>(xs.getD p (0,1)).2.natAbs*Bp p,λp=>⟨Nat.mul_pos (g p).1 (hb p).1,?_⟩,λxs' hx p y ey=>?_⟩
   ·rw [p35]
    exact Nat.mul_le_mul (Nat.le_of_lt (g p).2) (hb p).2
   ·rcases List.mem_append.mp hx with z | z
    ·exact (hr xs' z p y ey).mono (Nat.dvd_mul_left _ _) (by omega)
    ·rw [List.mem_singleton.mp z] at ey
     have e2:xs.getD p (0,1)=y:=by simp [List.getD,ey]
     have gp:=g p
     dsimp only
     rw [e2] at gp ⊢
     have d:=(ko y (mem_of_getElem? ey)).den
     refine ⟨d,Nat.dvd_mul_right _ _,?_⟩
     have h1:=(b y (mem_of_getElem? ey)).1
     have h2:2 ^ 35<=2 ^ (35+3*(rows.length+1)):=Nat.pow_le_pow_right (by decide) (by omega)
     have h3:=Nat.le_mul_of_pos_right (2 ^ (35+3*(rows.length+1))) gp.1
     omega
  ·refine ⟨λp=>6*Bp p,λp=>⟨Nat.mul_pos (by decide) (hb p).1,?_⟩,λxs' hx p y ey=>?_⟩
   ·rw [p35]
    exact Nat.mul_le_mul (by decide) (hb p).2
   ·rcases List.mem_append.mp hx with z | z
    ·exact (hr xs' z p y ey).mono (Nat.dvd_mul_left _ _) (by omega)
    ·rw [List.mem_singleton.mp z] at ey
     rw [p8]
     exact s Bp _ (Nat.le_trans (by decide:2 ^ 14<=2 ^ 35) (Nat.pow_le_pow_right (by decide) (by omega))) hr p y ey
theorem kd_nought {n:Nat} {rows:List (List (Int × Int))} {xs:List (Int × Int)} (l:xs.length=n) (h:∀ y ∈ xs,y=(0,1)):Kd hP n rows xs:=⟨l,λy hy=>by rw [h y hy]; exact bU hP.b.1 hP.b.2.2,.inl λy hy=>by rw [h y hy]; exact ⟨by decide,by decide⟩⟩
theorem kd_copy {n:Nat} {rows:List (List (Int × Int))} {xs:List (Int × Int)} (h:ij hP n rows) (hx:xs ∈ rows):Kd hP n rows xs:=by
 obtain ⟨i,hi,e⟩:=List.mem_iff_getElem.mp hx
 have:=h.1 i xs (by rw [getElem?_eq_getElem hi,e])
 exact ⟨this.1,this.2.1,.inr ⟨FL.Sp.mem _ (List.mem_map.mpr ⟨xs,hx,rfl⟩),λBp M _ hr p y ey=>(hr xs hx p y ey).mono (Nat.dvd_mul_left _ _) (by omega)⟩⟩
theorem fE {y:Int × Int} (o:OkN P y) (z:P=0->Sz 2 y) (h0:P=0):Rw 6 3 y:=by
 have d:=o.den
 obtain ⟨h1,h2⟩:=z h0
 have:y.2.natAbs=1\/y.2.natAbs=2\/y.2.natAbs=3:=by omega
 refine ⟨d,?_,by omega⟩
 rcases this with e | e | e<;>rw [e]<;>decide
theorem kd_mix {n:Nat} {rows:List (List (Int × Int))} {a b xs:List (Int × Int)} {u v:Int × Int} (h:ij hP n rows) (ha:a ∈ rows) (hb:b ∈ rows) (ou:OkN P u) (ov:OkN P v) (zu:P=0->Sz 2 u) (zv:P=0->Sz 2 v) (l:xs.length=n) (e:∀ j y,xs[j]? = some y->y=bj P (aP P u (a.getD j (0,1))) (aP P v (b.getD j (0,1)))):Kd hP n rows xs:=by
 obtain ⟨i,hi,ei⟩:=List.mem_iff_getElem.mp ha
 obtain ⟨j,hj,ej⟩:=List.mem_iff_getElem.mp hb
 obtain ⟨a1,a2,_⟩:=h.1 i a (by rw [getElem?_eq_getElem hi,ei])
 obtain ⟨b1,b2,_⟩:=h.1 j b (by rw [getElem?_eq_getElem hj,ej])
 have ok:∀ y ∈ xs,OkN P y:=λy hy=>by
  obtain ⟨p,hp,rfl⟩:=List.mem_iff_getElem.mp hy
  rw [e p _ (getElem?_eq_getElem hp)]
  exact dA hP.b.1 (bJ hP.b.1 ou (bm a2 (by omega))) (bJ hP.b.1 ov (bm b2 (by omega)))
 refine ⟨l,ok,.inr ⟨?_,λBp M hM hr p y ey=>?_⟩⟩
 ·refine (((FL.Sp.mem _ (List.mem_map.mpr ⟨a,ha,rfl⟩)).mul _ (⟨u,ou⟩:Nb P)).add _ ((FL.Sp.mem _ (List.mem_map.mpr ⟨b,hb,rfl⟩)).mul _ (⟨v,ov⟩:Nb P))).eq _ λp=>?_
  by_cases hp:p<n
  ·have ex:xs[p]? = some (xs[p]'(by omega)):=getElem?_eq_getElem _
   have ez:=e p _ ex
   rw [eC hP ex (ok _ (getElem_mem _))]
   refine Subtype.ext ?_
   show xs[p]'(by omega)=bj P (aP P u (vec hP a p).1) (aP P v (vec hP b p).1)
   rw [aU hP a1 a2 hp,aU hP b1 b2 hp]
   exact ez
  ·show vec hP xs p=(nb hP).add ((nb hP).mul _ (vec hP a p)) ((nb hP).mul _ (vec hP b p))
   rw [bf hP (xs:=xs) (by omega),bf hP (xs:=a) (by omega),bf hP (xs:=b) (by omega),CS.mul_zero,CS.mul_zero,CS.add_zero]
 ·have hp:p<n:=by have:=(List.getElem?_eq_some_iff.mp ey).1; omega
  have oy:=ok y (mem_of_getElem? ey)
  by_cases h0:P=0
  ·have ra:=hr a ha p (a.getD p (0,1)) (by simp [List.getD,getElem?_eq_getElem (show p<a.length by omega)])
   have rb:=hr b hb p (b.getD p (0,1)) (by simp [List.getD,getElem?_eq_getElem (show p<b.length by omega)])
   rw [e p y ey]
   exact (rw_addN hP (by omega) (gR hP (by omega) (fE ou zu h0) ra) (gR hP (by omega) (fE ov zv h0) rb)).mono (Nat.dvd_refl _) (by omega)
  ·have hB:=hP.b
   rcases oy with ⟨z,_⟩ | ⟨_,y1,y2,y3⟩
   ·exact absurd z h0
   ·refine ⟨by omega,by rw [y3]; exact Nat.one_dvd _,?_⟩
    rw [y3]
    show y.1.natAbs<=8*M*1
    omega
theorem ij.sz {n:Nat} {rows:List (List (Int × Int))} (r6:rows.length<=6) (h:ij hP n rows) {a:List (Int × Int)} (ha:a ∈ rows) {j:Nat} (hj:j<n):OkN P (a.getD j (0,1))/\Sz 4300 (a.getD j (0,1))/\∀ u:Int × Int,OkN P u->(P=0->Sz 2 u)->Sz 4300 (aP P u (a.getD j (0,1))):=by
 obtain ⟨h1,Bp,hb,hr⟩:=h
 obtain ⟨i,hi,e⟩:=List.mem_iff_getElem.mp ha
 obtain ⟨a1,a2,_⟩:=h1 i a (by rw [getElem?_eq_getElem hi,e])
 have oa:=bm a2 (show j<a.length by omega)
 have ra:=hr a ha j (a.getD j (0,1)) (by simp [List.getD,getElem?_eq_getElem (show j<a.length by omega)])
 have hB:=hb j
 have B1:Bp j<=2 ^ 210:=Nat.le_trans hB.2 (Nat.pow_le_pow_right (by decide) (by omega))
 have M1:2 ^ (35+3*rows.length)<=2 ^ 53:=Nat.pow_le_pow_right (by decide) (by omega)
 have M0:2 ^ 14<=2 ^ (35+3*rows.length):=Nat.pow_le_pow_right (by decide) (by omega)
 refine ⟨oa,ra.sz hB.1 (by omega) (bY (aM M1 B1 (Nat.le_refl _)) (by decide)),λu ou zu=>?_⟩
 by_cases h0:P=0
 ·refine (gR hP (by omega) (fE ou zu h0) ra).sz (by omega) (by omega) (bY (aM (aM (show 3<=2 ^ 2 by decide) M1 (Nat.le_refl _)) (aM (show 6<=2 ^ 3 by decide) B1 (Nat.le_refl _)) (Nat.le_refl _)) (by decide))
 ·exact sz_p hP h0 (bJ hP.b.1 ou oa)
theorem sz_u {P:Int} (hP:gZ P) {u:Int × Int} {k:Nat} (hk:14<=k) (ou:OkN P u) (zu:P=0->Sz 2 u):Sz k u:=by
 by_cases h0:P=0
 ·exact (zu h0).mono (by omega)
 ·have hB:=hP.b
  rcases ou with ⟨z,_⟩ | ⟨_,h1,h2,h3⟩
  ·exact absurd z h0
  ·have:Sz 14 u:=⟨by omega,by rw [h3]; decide⟩
   exact this.mono hk
def pb (Bp:Nat->Nat):Nat->Nat
 | 0=>1
 | n+1=>pb Bp n*Bp n
theorem pb_dvd {Bp:Nat->Nat} {p:Nat}:∀ {n:Nat},p<n->Bp p ∣ pb Bp n
 | n+1,h=>by
  by_cases e:p=n
  ·rw [e]
   exact Nat.dvd_mul_left _ _
  ·exact Nat.dvd_trans (pb_dvd (n:=n) (by omega)) (Nat.dvd_mul_right _ _)
theorem pb_le {Bp:Nat->Nat} (h:∀ p,0<Bp p/\Bp p<=2 ^ 210):∀ n,0<pb Bp n/\pb Bp n<=2 ^ (210*n)
 | 0=>⟨Nat.one_pos,Nat.le_refl _⟩
 | n+1=>by
  obtain ⟨h1,h2⟩:=pb_le h n
  refine ⟨Nat.mul_pos h1 (h n).1,?_⟩
  rw [show 210*(n+1)=210*n+210 by omega,Nat.pow_add]
  exact Nat.mul_le_mul h2 (h n).2
theorem ij.fit {n:Nat} {rows:List (List (Int × Int))} (n6:n<=6) (r6:rows.length<=6) (h:ij hP n rows):(∀ xs ∈ rows,∃ B,RowB P n B xs)/\∀ p,p<n->∃ B,RowB P rows.length B (rows.map λxs=>xs.getD p (0,1)):=by
 obtain ⟨h1,Bp,hb,hr⟩:=h
 have hb':∀ p,0<Bp p/\Bp p<=2 ^ 210:=λp=>⟨(hb p).1,Nat.le_trans (hb p).2 (Nat.pow_le_pow_right (by decide) (by omega))⟩
 have M53:2 ^ (35+3*rows.length)<=2 ^ 53:=Nat.pow_le_pow_right (by decide) (by omega)
 have at_:∀ xs ∈ rows,xs.length=n/\∀ y ∈ xs,OkN P y:=λxs hx=>by
  obtain ⟨i,hi,e⟩:=List.mem_iff_getElem.mp hx
  have:=h1 i xs (by rw [getElem?_eq_getElem hi,e])
  exact ⟨this.1,this.2.1⟩
 refine ⟨λxs hx=>⟨pb Bp n,(at_ xs hx).1,(pb_le hb' n).1,Nat.le_trans (pb_le hb' n).2 (Nat.pow_le_pow_right (by decide) (by omega)),λy hy=>⟨(at_ xs hx).2 y hy,?_⟩⟩,λp hp=>⟨Bp p,by rw [length_map],(hb' p).1,Nat.le_trans (hb' p).2 (Nat.pow_le_pow_right (by decide) (by decide)),λy hy=>?_⟩⟩
 ·obtain ⟨p,hp,rfl⟩:=List.mem_iff_getElem.mp hy
  exact (hr xs hx p _ (getElem?_eq_getElem hp)).mono (pb_dvd (by have:=(at_ xs hx).1; omega)) M53
 ·obtain ⟨xs,hx,rfl⟩:=List.mem_map.mp hy
  have hp':p<xs.length:=by have:=(at_ xs hx).1; omega
  refine ⟨bm (at_ xs hx).2 hp',(hr xs hx p _ (by simp [List.getD,getElem?_eq_getElem hp'])).mono (Nat.dvd_refl _) M53⟩
end
def spRows41 (K:Frag):Sp:=λvs H Q _=>∃ (s:Addr) (P:Int) (hP:gZ P) (m n:Nat) (ns:List Int),vs=[.int P,.int m,.int n,.ref s]/\m<=6/\n<=6/\SqL K H s (ns.map V.int)/\ns.length<=63/\
 ∀ (d:Addr) (ws:List V) (rows:List (List (Int × Int))) (H':Hp),gY H H'->H' d=some (.lst ws)->Paired (RowN P H') ws rows->rows.length=m->ij hP n rows->Q (.ref d) H'
def RowD (d:Addr) (P:Int) (H:Hp) (v:V) (xs:List (Int × Int)):Prop:=∃ l us,v=.ref l/\l ≠ d/\H l=some (.lst us)/\Paired (At P H) us xs
theorem RowD.same {d:Addr} {P:Int} {H H':Hp} {v:V} {xs:List (Int × Int)} (s:gY H H') (h:RowD d P H v xs):RowD d P H' v xs:=by
 obtain ⟨l,us,e,n,h1,h2⟩:=h
 exact ⟨l,us,e,n,s _ _ h1,ak (λ_ _ z=>z.same s) h2⟩
theorem RowD.put {d:Addr} {P:Int} {H:Hp} {v:V} {xs:List (Int × Int)} {as bs:List V} (hd:H d=some (.lst as)) (h:RowD d P H v xs):RowD d P (upd H d (.lst bs)) v xs:=by
 obtain ⟨l,us,e,n,h1,h2⟩:=h
 have kt:∀ t xs',H t=some (.tup xs')->(upd H d (.lst bs)) t=some (.tup xs'):=λt xs' e=>by rw [ar (eI e hd (by intro z; cases z))]; exact e
 exact ⟨l,us,e,n,by rw [ar n]; exact h1,ak (λ_ _ z=>z.mono kt) h2⟩
theorem g8:g0 ["_law_prime_here", "_law_many", "_law_size", "_law_script", "_law_rows_here", "_law_k", "_law_bag_here", "_law_way", "_law_row", "_law_one", "_law_other", "_law_by", "_law_parts"] ["_law_prime_here", "_law_many", "_law_size", "_law_script"] (aj cI):=.i
set_option maxHeartbeats 1000000 in
theorem ok_rows {f:Addr} {fd:FuncData} (F:Fun K "_law_rows" "_law_rows" cI f fd) (T:Blt mg) (jt:FnB P w K mg base 2 "_law_bag" (spBag K)) (iX:FnB P w K mg base 1 "_law_take" cw) (ji:FnB P w K mg base 4 "_law_number" gj) (jU:FnB P w K mg base 2 "_law_wide" spWide) (jl:FnB P w K mg base 2 "_law_plus" (f8 bj)) (i8:FnB P w K mg base 2 "_law_times" (f8 aP)) (jc:FnB P w K mg base 1 "_law_nought" fJ):aI P w K mg base CX0 5 f fd ["_law_prime_here", "_law_many", "_law_size", "_law_script"] (spRows41 K):=by
 refine F.o g8 λ_ _ _ _ H _ Q _ hr h=>?_
 ·obtain ⟨s,P,hP,m,n,ns,rfl,m6,n6,hs,hns,q⟩:=h
  have hB:=hP.b
  refine ⟨_,(ae (aq (i:=4) g8.nd rfl (Or.inl rfl) (bL ag))
(ae (cG PassesOwn.never rfl (bE rfl T.range (aa (pv 1) ag)) (b9 (i:=5) g8.nd rfl (Or.inl rfl))
(ae (aq (i:=6) g8.nd rfl (Or.inr rfl) (ay jt hr.m (aa (pv 3) (aa (ai bb ac (pv 5)) ag))))
(ae (aq (i:=7) g8.nd rfl (Or.inl rfl) (ay iX hr.m (aa (pv 6) (aa ac ag))))
(ae (bt (i:=8) g8.nd rfl (Or.inl rfl) (N:=["_law_place", "_law_prime_here", "_law_bag_here"]) (src:=[none,some 0,some 6]) rfl rfl rfl (by exact (bE rfl T.range (aa (pv 2) ag))) (λ_ _ _=>by exact ⟨by exact (bX (i:=0) nd_9 rfl rfl),aX,by exact (ay ji hr.m (aa (pv 1) (aa (pv 2) (aa fO ag))))⟩))
(ae (aR (PW.pt (pw_and (az bZ (pv 7) ac (aA _)) (gB (az bZ (pv 0) ac (aA _)))))
(ah (bt (i:=8) g8.nd rfl (Or.inl rfl) (N:=["_law_place", "_law_bag_here"]) (src:=[none,some 6]) rfl rfl rfl (by exact (bE rfl T.range (aa (pv 2) ag))) (λ_ _ _=>by exact ⟨by exact (bX (i:=0) nd_10 rfl rfl),aX,by exact (ay jU hr.m (aa (pv 1) ag))⟩)))
aC)
(ae (aR (PW.pt (pw_and (az bZ (pv 7) ac (aA _)) (gB (az da (pv 5) ac (aA _)))))
(ae (aq (i:=9) g8.nd rfl (Or.inl rfl) (aE (aB K rfl) (pv 4) (ay iX hr.m (aa (pv 6) (aa (pv 5) ag))) (λ_ _=>rfl)))
(ae (aq (i:=10) g8.nd rfl (Or.inl rfl) (aE (aB K rfl) (pv 4) (ay iX hr.m (aa (pv 6) (aa (pv 5) ag))) (λ_ _=>rfl)))
(ae (aq (i:=11) g8.nd rfl (Or.inr rfl) (bL (aa (ay ji hr.m (aa (pv 0) (aa (pv 6) (aa fO ag)))) (aa (ay ji hr.m (aa (pv 0) (aa (pv 6) (aa fO ag)))) ag))))
(ae (bt (i:=12) g8.nd rfl (Or.inl rfl) (N:=["_law_a", "_law_prime_here", "_law_by"]) (src:=[none,some 0,some 11]) rfl rfl rfl (by exact (aO K rfl (pv 9))) (λ_ _ _=>by exact ⟨by exact (bX (i:=0) nd_11 rfl rfl),aX,by exact (ay i8 hr.m (aa (pv 1) (aa (aE (aB K rfl) (pv 2) ac (λ_ _=>rfl)) (aa (pv 0) ag))))⟩))
(ah (bt (i:=8) g8.nd rfl (Or.inl rfl) (N:=["_law_a", "_law_b", "_law_prime_here", "_law_by"]) (src:=[none,none,some 0,some 11]) rfl rfl rfl (by exact (gD K false false rfl rfl T.zip (aa (pv 12) (aa (pv 10) ag)))) (λ_ _ _=>by exact ⟨by exact (cU K (i:=0) (j:=1) rfl rfl nd_7 rfl rfl rfl rfl),aX,by exact (ay jl hr.m (aa (pv 2) (aa (pv 0) (aa (ay i8 hr.m (aa (pv 2) (aa (aE (aB K rfl) (pv 3) ac (λ_ _=>rfl)) (aa (pv 1) ag)))) ag))))⟩)))))))
aC)
(ae (aR (PW.pt (pw_and (az bZ (pv 7) ac (aA _)) (gB (az da (pv 5) ac (aA _)))))
(ah (aq (i:=8) g8.nd rfl (Or.inl rfl) (fm K T (aE (aB K rfl) (pv 4) (ai bA (pv 5) ac) (λ_ _=>rfl)))))
aC)
(ae (aR (az bZ (pv 7) ac (aA _))
(ah (bt (i:=8) g8.nd rfl (Or.inl rfl) (N:=["_law_place", "_law_prime_here"]) (src:=[none,some 0]) rfl rfl rfl (by exact (bE rfl T.range (aa (pv 2) ag))) (λ_ _ _=>by exact ⟨by exact (bX (i:=0) nd_12 rfl rfl),aX,by exact (ay jc hr.m (aa (pv 1) ag))⟩)))
aC)
(ah (gI (bmA K rfl (pv 4) (aa (pv 8) ag))))))))))))
(ah (ao (pv 4))))),?_⟩
  refine ⟨Nat.zero_le _,λd hd=>?_⟩
  have s0:=gY.new (o:=.lst []) hd
  have hd0:(upd H d (.lst [])) d=some (.lst []):=af
  generalize upd H d (.lst [])=H0 at *
  refine ⟨_,rfl,_,rfl,by omega,by omega,for_rangeN (n:=m) (λi σ H'=>∃ (x5 x6 x7 x8 x9 x10 x11 x12:Option V) (ws:List V) (rows:List (List (Int × Int))),σ=[some (.int P),some (.int m),some (.int n),some (.ref s),some (.ref d),x5,x6,x7,x8,x9,x10,x11,x12]/\gY H H'/\H' d=some (.lst ws)/\Paired (RowD d P H') ws rows/\rows.length=i/\ij hP n rows) ?_ ?_ ?_⟩
  ·exact ⟨none,none,none,none,none,none,none,none,[],[],rfl,s0,hd0,.nil,rfl,ij.nil hP n⟩
  ·rintro i σ H1 hi ⟨x5,x6,x7,x8,x9,x10,x11,x12,ws,rows,rfl,s1,hd1,pr,lr,rk⟩ N0 C0 hN0
   have lw:ws.length=rows.length:=Paired.length pr
   refine ⟨_,rfl,_,rfl,_,_,rfl,rfl,s,ns,_,rfl,s1.seq hs,hns,by omega,by omega,λbg a1 b1 nbg hb1=>?_⟩
   refine ⟨_,rfl,bg,a1,b1,6,100,rfl,af,hb1,by decide,by decide,aD (by decide) (by decide),λwy a2 b2 w0 w6 hb2=>?_⟩
   rw [bz]
   have s2:=gY.new (o:=.lst [.int a2,.int b2]) nbg
   have hbg2:(upd H1 bg (.lst [.int a2,.int b2])) bg=some (.lst [.int a2,.int b2]):=af
   generalize upd H1 bg (.lst [.int a2,.int b2])=H2 at *
   refine ⟨_,rfl,_,rfl,by omega,by omega,comp_bag (P:=P) (n:=n) (k:=101) (c:=2) (rest:=[some (.int P),some (.ref bg)]) rfl (λy=>OkN P y/\Sz 35 y) (by omega) hbg2 hb2 (λj a b H R hj hb hk kp kk=>?_) (λrl us ys a3 b3 H3 nrl kp3 hb3 hk3 hrl pys lys rel=>?_)⟩
   ·exact ⟨_,rfl,_,rfl,bg,P,a,b,_,rfl,hP,hb,hk,by omega,λv y a' b' H2 av oy zy hb' hk' kp'=>kk v y a' b' H2 av ⟨oy,sz_u hP (by decide) oy zy⟩ hb' hk' kp'⟩
   have s13:gY H1 H3:=λc o e=>kp3 c o (s2 _ _ e) (al e nbg)
   have bk3:hJ a3 b3 200:=hk3.mono (by omega)
   dsimp only
   refine set_cut (t:=tIfS _ _ _) (λσ' H'=>∃ (x9 x10 x11 x12:Option V) (rl:Addr) (us:List V) (ys:List (Int × Int)) (a b:Int),σ'=[some (.int P),some (.int m),some (.int n),some (.ref s),some (.ref d),some (.int (0+(i:Int))),some (.ref bg),some (.int wy),some (.ref rl),x9,x10,x11,x12]/\gY H1 H'/\H' bg=some (.lst [.int a,.int b])/\hJ a b 200/\H1 rl=none/\H' rl=some (.lst us)/\Paired (At P H') us ys/\Kd hP n rows ys) (λR hR=>?_) ?_
   ·have fin:=hR _ _ ⟨x9,x10,x11,x12,rl,us,ys,a3,b3,rfl,s13,hb3,bk3,s2.free nrl,hrl,pys,lys,λy hy=>(rel y hy).1,.inl λy hy=>(rel y hy).2⟩
    refine ⟨_,rfl,rfl,_,rfl,bc (λh5=>⟨_,rfl,rfl,_,rfl,bc (λh0=>?_) (λ_=>fin)⟩) (λ_=>eo fin)⟩
    have h0:P=0:=by have:=of_decide_eq_true h0; injection this
    refine ⟨_,rfl,_,rfl,by omega,by omega,comp_bag (P:=P) (n:=n) (k:=113) (c:=3) (rest:=[some (.ref bg)]) rfl (λy=>OkN P y/\Sz 35 y) (by omega) hb3 (hk3.mono (by omega)) (λj a b H R hj hb hk kp kk=>?_) (λrl us ys a4 b4 H4 nrl kp4 hb4 hk4 hrl pys lys rel=>?_)⟩
    ·exact ⟨_,rfl,bg,a,b,_,rfl,hb,hk,by omega,λv y a' b' H2 av oy zy hb' hk' kp'=>kk v y a' b' H2 (by rw [h0]; exact av) ⟨by rw [h0]; exact oy,zy⟩ hb' hk' kp'⟩
    ·exact hR _ _ ⟨x9,x10,x11,x12,rl,us,ys,a4,b4,rfl,λc o e=>kp4 c o (s13 _ _ e) (al e nbg),hb4,hk4.mono (by omega),s13.free nrl,hrl,pys,lys,λy hy=>(rel y hy).1,.inl λy hy=>(rel y hy).2⟩
   rintro σ' H4 ⟨x9,x10,x11,x12,rl,us,ys,a4,b4,rfl,s4,hb4,bk4,nrl,hrl,pys,kd⟩
   refine e7 (t:=tIfS _ _ _) (λσ' H'=>∃ (x9 x10 x11 x12:Option V) (rl:Addr) (us:List V) (ys:List (Int × Int)),σ'=[some (.int P),some (.int m),some (.int n),some (.ref s),some (.ref d),some (.int (0+(i:Int))),some (.ref bg),some (.int wy),some (.ref rl),x9,x10,x11,x12]/\gY H1 H'/\H1 rl=none/\H' rl=some (.lst us)/\Paired (At P H') us ys/\Kd hP n rows ys) (λR hR=>?_) ?_
   ·have fin:=hR _ _ ⟨x9,x10,x11,x12,rl,us,ys,rfl,s4,nrl,hrl,pys,kd⟩
    refine ⟨_,rfl,rfl,_,rfl,bc (λh5=>⟨_,rfl,_,_,rfl,rfl,_,rfl,bc (λh0=>?_) (λ_=>fin)⟩) (λ_=>eo fin)⟩
    have i0:0<i:=by have:=of_decide_eq_true h0; omega
    have r6:rows.length<=6:=by omega
    have pick:∀ r:Int,0<=r->r<0+(i:Int)->∃ (l:Addr) (us:List V) (xs:List (Int × Int)),atI ws r=some (.ref l)/\xs ∈ rows/\H1 l=some (.lst us)/\Paired (At P H1) us xs:=λr h1 h2=>by
     have ew:ws[r.toNat]? = some (ws[r.toNat]'(by omega)):=getElem?_eq_getElem _
     obtain ⟨xs,exs,l6,us6,e6,_,h6,p6⟩:=aG pr ew
     rw [e6] at ew
     refine ⟨l6,us6,xs,?_,mem_of_getElem? exs,h6,p6⟩
     rw [show r=((r.toNat:Nat):Int) by omega]
     exact bh ew
    refine ⟨_,rfl,_,rfl,_,rfl,bg,a4,b4,_,200,rfl,hb4,bk4,by decide,by omega,aD (by omega) (by omega),λr1 a5 b5 r10 r11 hb5=>?_⟩
    obtain ⟨l1,us1,xs1,at1,m1,h1,p1⟩:=pick r1 r10 r11
    have s5:gY H1 (upd H4 bg (.lst [.int a5,.int b5])):=s4.put nbg
    have hbg5:(upd H4 bg (.lst [.int a5,.int b5])) bg=some (.lst [.int a5,.int b5]):=af
    generalize upd H4 bg (.lst [.int a5,.int b5])=H5 at *
    refine ⟨d,ws,r1,_,rfl,rfl,SqL.of (s5 _ _ hd1),at1,?_⟩
    refine ⟨_,rfl,_,rfl,_,rfl,bg,a5,b5,_,201,rfl,hbg5,hb5,by decide,by omega,aD (by omega) (by omega),λr2 a6 b6 r20 r21 hb6=>?_⟩
    obtain ⟨l2,us2,xs2,at2,m2,h2,p2⟩:=pick r2 r20 r21
    have s6:gY H1 (upd H5 bg (.lst [.int a6,.int b6])):=s5.put nbg
    have hbg6:(upd H5 bg (.lst [.int a6,.int b6])) bg=some (.lst [.int a6,.int b6]):=af
    generalize upd H5 bg (.lst [.int a6,.int b6])=H6 at *
    refine ⟨d,ws,r2,_,rfl,rfl,SqL.of (s6 _ _ hd1),at2,?_⟩
    refine ⟨_,rfl,_,rfl,bg,P,a6,b6,202,rfl,hP,hbg6,hb6,by decide,λu x7 a7 b7 H7 au ou zu hb7 bk7 kp7=>?_⟩
    refine ⟨_,rfl,_,rfl,bg,P,a7,b7,_,rfl,hP,hb7,bk7,by decide,λv x8 a8 b8 H8 av ov zv hb8 bk8 kp8=>?_⟩
    have au:=au.mono λt xs e=>kp8 _ _ e (eI e hb7 (by intro z; cases z))
    have s8:gY H1 H8:=λc o e=>kp8 _ _ (kp7 _ _ (s6 _ _ e) (al e nbg)) (al e nbg)
    refine ⟨(by show 2<=sizeLine; decide),λbl nbl=>?_⟩
    have s89:=gY.new (o:=.lst [u,v]) nbl
    have hbl:(upd H8 bl (.lst [u,v])) bl=some (.lst [u,v]):=af
    generalize upd H8 bl (.lst [u,v])=H9 at *
    have s9:=s8.trans s89
    have au:=au.same s89
    have av:=av.same s89
    have l1n:xs1.length=n:=by obtain ⟨j,hj,e⟩:=List.mem_iff_getElem.mp m1; exact (rk.1 j xs1 (by rw [getElem?_eq_getElem hj,e])).1
    have l2n:xs2.length=n:=by obtain ⟨j,hj,e⟩:=List.mem_iff_getElem.mp m2; exact (rk.1 j xs2 (by rw [getElem?_eq_getElem hj,e])).1
    have lu1:us1.length=xs1.length:=Paired.length p1
    have lu2:us2.length=xs2.length:=Paired.length p2
    refine ⟨_,rfl,l1,rfl,⟨_,SqL.of (s9 _ _ h1)⟩,gf (P:=P) (rest:=[some (.int P),some (.ref bl)]) rfl (λj y=>y=aP P x7 (xs1.getD j (0,1))) (s9 _ _ h1) (by omega) (λj v1 H R ev sm kk=>?_) (λpl zu' zs H10 npl s10 hpl pz lz rel=>?_)⟩
    ·have hj:j<n:=by have:=(List.getElem?_eq_some_iff.mp ev).1; omega
     obtain ⟨w1,g1,aw⟩:=aS p1 (show j<xs1.length by omega)
     rw [ev] at g1
     cases g1
     obtain ⟨q1,q2,q3⟩:=rk.sz hP r6 m1 hj
     exact ⟨_,rfl,_,rfl,bl,_,_,u,rfl,rfl,SqL.of (sm _ _ hbl),bh (j:=0) rfl,_,rfl,P,u,v1,_,_,rfl,hP,au.same sm,aw.same (s9.trans sm),ou,q1,sz_u hP (by decide) ou zu,q2,λr H' s a=>kk r _ H' s a rfl⟩
    ·have s910:=s9.trans s10
     have lzu:zu'.length=zs.length:=Paired.length pz
     refine ⟨_,rfl,_,rfl,pl,l2,rfl,⟨_,dr (SqL.of hpl)⟩,⟨_,dr (SqL.of (s910 _ _ h2))⟩,gc (P:=P) (rest:=[some (.int P),some (.ref bl)]) rfl (λj y=>y=bj P (aP P x7 (xs1.getD j (0,1))) (aP P x8 (xs2.getD j (0,1)))) hpl (s910 _ _ h2) (by omega) (by omega) (λj v1 v2 H R e1 e2 sm kk=>?_) (λr11 us11 ys11 H11 n11 s11 h11 p11 l11 rel11=>?_)⟩
     ·have hj:j<n:=by have:=(List.getElem?_eq_some_iff.mp e1).1; omega
      obtain ⟨w1,g1,aw1⟩:=aS pz (show j<zs.length by omega)
      rw [e1] at g1
      cases g1
      obtain ⟨w2,g2,aw2⟩:=aS p2 (show j<xs2.length by omega)
      rw [e2] at g2
      cases g2
      obtain ⟨q1,q2,q3⟩:=rk.sz hP r6 m2 hj
      obtain ⟨t1,t2,t3⟩:=rk.sz hP r6 m1 hj
      have ez:zs.getD j (0,1)=aP P x7 (xs1.getD j (0,1)):=by
       have hj':j<zs.length:=by omega
       rw [show zs.getD j (0,1)=zs[j] by simp [List.getD,getElem?_eq_getElem hj']]
       exact rel j _ (getElem?_eq_getElem hj')
      rw [ez] at aw1
      refine ⟨_,rfl,_,rfl,_,rfl,_,rfl,bl,_,_,v,rfl,rfl,SqL.of (sm _ _ (s10 _ _ hbl)),bh (j:=1) rfl,_,rfl,P,v,v2,_,_,rfl,hP,(av.same s10).same sm,aw2.same (s910.trans sm),ov,q1,sz_u hP (by decide) ov zv,q2,λr7 H7 s7 a7=>?_⟩
      exact ⟨P,v1,r7,_,_,rfl,hP,(aw1.same sm).same s7,a7,bJ hB.1 ou t1,bJ hB.1 ov q1,t3 _ ou zu,q3 _ ov zv,λr8 H8 s8 a8=>kk r8 _ H8 (s7.trans s8) a8 rfl⟩
     ·exact hR _ _ ⟨_,_,_,_,r11,us11,ys11,rfl,s910.trans s11,s910.free n11,h11,p11,kd_mix hP rk m1 m2 ou ov zu zv (by omega) rel11⟩
   rintro σ' H5 ⟨x9,x10,x11,x12,rl,us,ys,rfl,s5,nrl,hrl,pys,kd⟩
   refine e7 (t:=tIfS _ _ _) (λσ' H'=>∃ (x9 x10 x11 x12:Option V) (rl:Addr) (us:List V) (ys:List (Int × Int)),σ'=[some (.int P),some (.int m),some (.int n),some (.ref s),some (.ref d),some (.int (0+(i:Int))),some (.ref bg),some (.int wy),some (.ref rl),x9,x10,x11,x12]/\gY H1 H'/\H1 rl=none/\H' rl=some (.lst us)/\Paired (At P H') us ys/\Kd hP n rows ys) (λR hR=>?_) ?_
   ·have fin:=hR _ _ ⟨x9,x10,x11,x12,rl,us,ys,rfl,s5,nrl,hrl,pys,kd⟩
    refine ⟨_,rfl,rfl,_,rfl,bc (λh5=>⟨_,rfl,_,_,rfl,rfl,_,rfl,bc (λh0=>?_) (λ_=>fin)⟩) (λ_=>eo fin)⟩
    have i0:0<i:=by have:=of_decide_eq_true h0; omega
    have ew:ws[i-1]? = some (ws[i-1]'(by omega)):=getElem?_eq_getElem _
    obtain ⟨xs,exs,l6,us6,e6,_,h6,p6⟩:=aG pr ew
    rw [e6] at ew
    refine ⟨_,rfl,_,rfl,_,_,rfl,rfl,d,_,_,_,rfl,rfl,SqL.of (s5 _ _ hd1),(by show atI ws (0+(i:Int)-1)=_; rw [show (0+(i:Int)-1)=((i-1:Nat):Int) by omega]; exact bh ew),l6,us6,rfl,.inl (SqL.of (s5 _ _ h6)),λr7 n7=>?_⟩
    exact hR _ _ ⟨_,_,_,_,r7,us6,xs,rfl,s5.trans (gY.new n7),s5.free n7,af,ak (λ_ _ z=>(z.same s5).same (gY.new n7)) p6,kd_copy hP rk (mem_of_getElem? exs)⟩
   rintro σ' H5 ⟨x9,x10,x11,x12,rl,us,ys,rfl,s5,nrl,hrl,pys,kd⟩
   refine e7 (t:=tIfS _ _ _) (λσ' H'=>∃ (x9 x10 x11 x12:Option V) (rl:Addr) (us:List V) (ys:List (Int × Int)),σ'=[some (.int P),some (.int m),some (.int n),some (.ref s),some (.ref d),some (.int (0+(i:Int))),some (.ref bg),some (.int wy),some (.ref rl),x9,x10,x11,x12]/\gY H1 H'/\H1 rl=none/\H' rl=some (.lst us)/\Paired (At P H') us ys/\Kd hP n rows ys) (λR hR=>?_) ?_
   ·have fin:=hR _ _ ⟨x9,x10,x11,x12,rl,us,ys,rfl,s5,nrl,hrl,pys,kd⟩
    refine ⟨_,rfl,rfl,_,rfl,bc (λh5=>?_) (λ_=>fin)⟩
    refine ⟨_,rfl,_,rfl,by omega,by omega,comp_numR (P:=P) (n:=n) (rest:=[some (.int P)]) rfl (λ_ y=>y=(0,1)) (by omega) (λj H R hj sm kk=>?_) (λr7 us7 ys7 H7 n7 s7 h7 p7 l7 rel=>?_)⟩
    ·exact ⟨_,rfl,P,rfl,hP,λr H2 s2 a2=>kk r _ H2 s2 a2 rfl⟩
    ·exact hR _ _ ⟨_,_,_,_,r7,us7,ys7,rfl,s5.trans s7,s5.free n7,h7,p7,kd_nought hP l7 λy hy=>by obtain ⟨j,hj,e⟩:=List.mem_iff_getElem.mp hy; exact rel j y (by rw [getElem?_eq_getElem hj,e])⟩
   rintro σ' H5 ⟨x9,x10,x11,x12,rl,us,ys,rfl,s5,nrl,hrl,pys,kd⟩
   have hd5:=s5 _ _ hd1
   refine ⟨_,rfl,(.inl ⟨rfl,_,SqL.of hd5⟩),_,rfl,d,ws,_,rfl,rfl,hd5,by rw [sizeLine_eq]; omega,hN0 _ _ ⟨_,_,_,_,_,_,_,_,ws++[.ref rl],rows++[ys],rfl,(s1.trans s5).put hd,af,?_,by rw [length_append,length_singleton,lr],rk.snoc hP n6 kd⟩⟩
   exact aK (RowD.put hd5 ⟨rl,us,rfl,λz=>(by rw [z,hd1] at nrl; cases nrl),hrl,pys⟩) (ak (λ_ _ z=>(z.same s5).put hd5) pr)
  ·rintro σ H1 ⟨x5,x6,x7,x8,x9,x10,x11,x12,ws,rows,rfl,s1,hd1,pr,lr,rk⟩
   exact ⟨_,rfl,q d ws rows H1 s1 hd1 (ak (λv xs z=>by obtain ⟨l,us,e,_,h1,h2⟩:=z; exact ⟨l,us,e,h1,h2⟩) pr) lr rk⟩
theorem nd_13:(["_law_place", "_law_rows_here"]:List Str).Nodup:=by decide +kernel
theorem nd_14:(["_law_row", "_law_place"]:List Str).Nodup:=by decide +kernel
theorem nd_15:(["_law_row"]:List Str).Nodup:=by decide +kernel
def spLaw (K:Frag):Sp:=λvs H Q _=>∃ (a:Addr) (ns:List Int),vs=[.ref a]/\SqL K H a (ns.map V.int)/\ns.length<=63/\∀ H',Q (.bl true) H'
def dRN (P:Int) (xs:List (Int × Int)):PyData:=.list (xs.map (dN P))
def dRNs (P:Int) (rows:List (List (Int × Int))):PyData:=.list (rows.map (dRN P))
def Lay (n:Nat) (d:PyData):Prop:=d.canLay0=true/\d.depth<=n
theorem lay_all {n:Nat}:∀ {ds:List PyData},(∀ d ∈ ds,Lay n d)->PyData.canLayAll0 ds=true/\PyData.depthAll ds<=n
 | [],_=>⟨rfl,by simp [PyData.depthAll]⟩
 | d::r,h=>by
  obtain ⟨a,b⟩:=h d mem_cons_self
  obtain ⟨c,e⟩:=lay_all λd hd=>h d (mem_cons_of_mem _ hd)
  refine ⟨by simp only [PyData.canLayAll0,a,c,Bool.and_true],?_⟩
  simp only [PyData.depthAll]
  omega
theorem lay_list {n:Nat} {ds:List PyData} (h:∀ d ∈ ds,Lay n d):Lay (n+1) (.list ds):=by
 obtain ⟨a,b⟩:=lay_all h
 refine ⟨by simp only [PyData.canLay0,a],?_⟩
 simp only [PyData.depth]
 omega
theorem Lay.sh {n:Nat} {d:PyData} (h:Lay n d) (k:n<=64):SeqAt.shaped d=true:=by
 unfold SeqAt.shaped
 rw [Bool.and_eq_true]
 exact ⟨h.1,decide_eq_true (Nat.le_trans h.2 k)⟩
theorem lay_dN (P:Int) (x:Int × Int):Lay 1 (dN P x):=by
 unfold dN
 split
 ·exact ⟨rfl,by simp [eN,PyData.depth,PyData.depthAll]⟩
 ·exact ⟨rfl,by simp [PyData.depth]⟩
theorem fN (P:Int) (rows:List (List (Int × Int))):Lay 3 (dRNs P rows):=lay_list λd hd=>by
 obtain ⟨xs,_,rfl⟩:=List.mem_map.mp hd
 refine lay_list λd hd=>?_
 obtain ⟨y,_,rfl⟩:=List.mem_map.mp hd
 exact lay_dN P y
theorem drs_at {K:Frag} {P:Int} {H:Hp}:∀ {us:List V} {xs:List (Int × Int)},Paired (At P H) us xs->DRs K H (xs.map (dN P)) us
 | _,_,.nil=>.nil
 | _,_,.cons q r=>.cons (dr_at q) (drs_at r)
theorem fy {K:Frag} {P:Int} {H:Hp}:∀ {ws:List V} {rows:List (List (Int × Int))},Paired (RowN P H) ws rows->DRs K H (rows.map (dRN P)) ws
 | _,_,.nil=>.nil
 | _,_,.cons ⟨l,us,e,h1,h2⟩ r=>by
  rw [e]
  exact .cons (.lst (SqL.of h1) (drs_at h2)) (fy r)
theorem copyN {K:Frag} {P:Int} {src:List (Option Nat)} {σ rest:L2.St} {H0:Hp} {a:Addr} {ws:List V} {rows:List (List (Int × Int))} {Q:VK} (hσ:aY src σ=none::rest) (ha:H0 a=some (.lst ws)) (pr:Paired (RowN P H0) ws rows) (hl:ws.length<=60)
  (hd:∀ acc zs H',H0 acc=none->gY H0 H'->H' acc=some (.lst zs)->Paired (RowN P H') zs rows->Q (.ref acc) H'):be (Itl K a) src (bi 0) fq (tCB (rListT K) (cC (tVar 0) de)) σ H0 Q:=by
 have lw:ws.length=rows.length:=Paired.length pr
 refine bP (n:=ws.length) (σ0:=none::rest) hσ (λacc i zs σ H=>(∃ u,σ=u::rest)/\gY H0 H/\Paired (RowD acc P H) zs (rows.take i)) (by rw [sizeLine_eq]; omega) (λacc hacc=>⟨⟨_,rfl⟩,gY.new hacc,.nil⟩) ?_ ?_ ?_ ?_
 ·rintro acc i zs σ H hacc hi hz ⟨_,sm,_⟩
  exact ⟨ws,_,SqL.of (sm _ _ ha),getElem?_eq_getElem hi⟩
 ·rintro acc zs σ H hacc hz ⟨_,sm,_⟩
  exact ⟨ws,SqL.of (sm _ _ ha),Nat.le_refl _⟩
 ·rintro acc i zs σ H x H' hacc hi hz hzl ⟨⟨u,rfl⟩,sm,pz⟩ ⟨rfl,hx⟩
  have hx:=hx ws (SqL.of (sm _ _ ha))
  obtain ⟨xs,ex,l,us,rfl,hl',pu⟩:=aG pr hx
  refine ⟨_,rfl,l,us,rfl,.inl (SqL.of (sm _ _ hl')),λr nr=>?_⟩
  have s2:=gY.new (o:=.lst us) nr
  have h2:(upd H' r (.lst us)) r=some (.lst us):=af
  generalize upd H' r (.lst us)=H2 at *
  have hz2:=s2 _ _ hz
  refine ⟨zs,hz2,by rw [sizeLine_eq]; omega,_,af,by rw [length_append,length_singleton]; omega,⟨_,rfl⟩,(sm.trans s2).put hacc,?_⟩
  rw [take_add_one,ex]
  exact aK (RowD.put hz2 ⟨r,us,rfl,(al hz nr).symm,h2,ak (λ_ _ z=>(z.same sm).same s2) pu⟩) (ak (λ_ _ z=>(z.same s2).put hz2) pz)
 ·rintro acc zs σ H hacc hz hzl ⟨_,sm,pz⟩
  rw [lw,take_length] at pz
  exact hd acc zs H hacc sm hz (ak (λv xs z=>by obtain ⟨l,us,e,_,h1,h2⟩:=z; exact ⟨l,us,e,h1,h2⟩) pz)
def eR (rows:List (List (Int × Int))) (p:Nat):List (Int × Int):=rows.map λxs=>xs.getD p (0,1)
theorem turnN {K:Frag} {P:Int} {n:Nat} {src:List (Option Nat)} {σ:L2.St} {H0:Hp} {a:Addr} {ws:List V} {rows:List (List (Int × Int))} {Q:VK} (hσ:aY src σ=[none,some (.ref a)]) (ha:H0 a=some (.lst ws)) (pr:Paired (RowN P H0) ws rows) (hl:ws.length<=60) (hn:n<=60) (hr:∀ xs ∈ rows,xs.length=n)
  (hd:∀ acc zs H',H0 acc=none->gY H0 H'->H' acc=some (.lst zs)->Paired (RowN P H') zs ((List.range n).map (eR rows))->Q (.ref acc) H'):be (Itr 0 n) src (bi 0) fq (tComp [none,some 0] (iList K (tVar 1)) (bi 0) fq (tOp (rIxL K) (tVar 0) (tVar 1))) σ H0 Q:=by
 have lw:ws.length=rows.length:=Paired.length pr
 refine bP (n:=n) (σ0:=[none,some (.ref a)]) hσ (λacc i zs σ H=>(∃ u,σ=[u,some (.ref a)])/\gY H0 H/\Paired (RowD acc P H) zs ((List.range i).map (eR rows))) (by rw [sizeLine_eq]; omega) (λacc hacc=>⟨⟨_,rfl⟩,gY.new hacc,.nil⟩) ?_ ?_ ?_ ?_
 ·rintro acc i zs σ H hacc hi hz ⟨_,sm,_⟩
  exact hi
 ·rintro acc zs σ H hacc hz ⟨_,sm,_⟩
  exact Nat.le_refl _
 ·rintro acc i zs σ H x H' hacc hi hz hzl ⟨⟨u,rfl⟩,sm,pz⟩ ⟨rfl,rfl⟩
  refine ⟨_,rfl,a,rfl,⟨_,SqL.of (sm _ _ ha)⟩,gf (P:=P) (rest:=[some (.int (0+(i:Int)))]) rfl (λj y=>∃ xs,rows[j]? = some xs/\y=xs.getD i (0,1)) (sm _ _ ha) hl (λj v H R ev s2 kk=>?_) (λr us ys H2 nr s2 hr2 pu lu rel=>?_)⟩
  ·obtain ⟨xs,ex,l,us,rfl,hl',pu⟩:=aG pr ev
   obtain ⟨u1,g1,a1⟩:=aS pu (show i<xs.length by rw [hr xs (mem_of_getElem? ex)]; exact hi)
   exact ⟨_,rfl,_,rfl,l,us,_,u1,rfl,rfl,SqL.of (s2 _ _ (sm _ _ hl')),(by rw [Int.zero_add]; exact bh g1),kk u1 _ H (gY.refl _) ((a1.same sm).same s2) ⟨xs,ex,rfl⟩⟩
  ·have hz2:=s2 _ _ hz
   have ey:ys=eR rows i:=by
    refine List.ext_getElem (by unfold eR; rw [length_map,lu,lw]) λj h1 h2=>?_
    obtain ⟨xs,ex,e⟩:=rel j _ (getElem?_eq_getElem h1)
    rw [e]
    simp only [eR,getElem_map]
    rw [getElem?_eq_getElem (by rw [lu,lw] at h1; exact h1)] at ex
    cases ex
    rfl
   subst ey
   refine ⟨zs,hz2,by rw [sizeLine_eq]; omega,_,af,by rw [length_append,length_singleton]; omega,⟨_,rfl⟩,(sm.trans s2).put hacc,?_⟩
   rw [range_succ,map_append]
   exact aK (RowD.put hz2 ⟨r,us,rfl,(al hz nr).symm,hr2,pu⟩) (ak (λ_ _ z=>(z.same s2).put hz2) pz)
 ·rintro acc zs σ H hacc hz hzl ⟨_,sm,pz⟩
  exact hd acc zs H hacc sm hz (ak (λv xs z=>by obtain ⟨l,us,e,_,h1,h2⟩:=z; exact ⟨l,us,e,h1,h2⟩) pz)
theorem turn_len {P:Int} (hP:gZ P) {n:Nat} {rows:List (List (Int × Int))} (hl:∀ xs ∈ rows,xs.length=n/\∀ y ∈ xs,OkN P y) {K L:List (Nat × Vn P)} (hK:(nbF hP).Keeps K (rows.map (vec hP))) (hL:(nbF hP).Keeps L (((List.range n).map (eR rows)).map (vec hP))):L.length=K.length:=by
 have o1:∀ i,rows.length<=i->rows.getD i []=[]:=λi hi=>by simp [List.getD,getElem?_eq_none hi]
 have o2:∀ {i},(h:i<rows.length)->rows.getD i []=rows[i]:=λh=>by simp [List.getD,getElem?_eq_getElem h]
 refine FL.keeps_turn (nbF hP) (v:=λi=>vec hP (rows.getD i [])) (m:=rows.length) (n:=n) (λi hi j=>?_) (λj hj i=>?_) ?_ ?_
 ·rw [o1 i hi]
  exact bf hP (Nat.zero_le _)
 ·by_cases hi:i<rows.length
  ·rw [o2 hi]
   exact bf hP (by rw [(hl _ (getElem_mem hi)).1]; exact hj)
  ·rw [o1 i (by omega)]
   exact bf hP (Nat.zero_le _)
 ·rw [show ((List.range rows.length).map λi=>vec hP (rows.getD i []))=rows.map (vec hP) from List.ext_getElem (by simp) λi h1 h2=>by
   rw [getElem_map,getElem_map,getElem_range,o2 (by simpa using h2)]]
  exact hK
 ·rw [map_map] at hL
  rw [show ((List.range n).map λj i=>vec hP (rows.getD i []) j)=(List.range n).map (vec hP ∘ eR rows) from map_congr_left λp hp=>by
   have hp:=List.mem_range.mp hp
   funext i
   show vec hP (rows.getD i []) p=vec hP (eR rows p) i
   by_cases hi:i<rows.length
   ·obtain ⟨l1,l2⟩:=hl _ (getElem_mem hi)
    have e:(eR rows p)[i]? = some (rows[i].getD p (0,1)):=by
     unfold eR
     rw [getElem?_map,getElem?_eq_getElem hi]
     rfl
    rw [o2 hi,eC hP e (bm l2 (by omega))]
    exact Subtype.ext (aU hP l1 l2 hp)
   ·rw [o1 i (by omega),bf hP (Nat.zero_le _),bf hP (by unfold eR; rw [length_map]; omega)]]
  exact hL
def Told {P:Int} (hP:gZ P) (H:Hp) (r:Nat) (v:V):Prop:=∃ (c:Addr) (n:Nat) (vs:List V) (rows:List (List (Int × Int))),v=.ref c/\H c=some (.lst vs)/\Paired (RowN P H) vs rows/\rows.length<=6/\n<=6/\(∀ xs ∈ rows,∃ B,RowB P n B xs)/\∀ K:List (Nat × Vn P),(nbF hP).Keeps K (rows.map (vec hP))->K.length=r
theorem fG {α β:Type} {R:α->β->Prop}:∀ {xs:List α} {ys:List β},Paired R xs ys->Paired R xs.reverse ys.reverse
 | _,_,.nil=>.nil
 | _,_,.cons q r=>by
  rw [reverse_cons,reverse_cons]
  exact aK q (fG r)
theorem ip:g0 ["_law_script", "_law_bag_here", "_law_prime_here", "_law_many", "_law_size", "_law_rows_here", "_law_due", "_law_turned", "_law_some", "_law_handed", "_law_told"] ["_law_script"] (aj s_law):=.i
set_option maxHeartbeats 1000000 in
theorem ok_law {f CF CR:Addr} {fd:FuncData} (F:Fun K "law" "law" s_law f fd) (T:Blt mg) (jt:FnB P w K mg base 2 "_law_bag" (spBag K)) (jN:FnB P w K mg base 2 "_law_prime" spPrime) (iX:FnB P w K mg base 1 "_law_take" cw) (jV:FnB P w K mg base 5 "_law_rows" (spRows41 K)) (jW:FnB P w K mg base 3 "_law_rank" spLRank) (jp:FnB P w K mg base 4 "_law_numbers" (spNums CF CR)) (jO:FnB P w K mg base 1 "_law_whole" (spWhole K)) (kZ:FnB P w K mg base 4 "rank" (spRank CF CR)):aI P w K mg base CX0 6 f fd ["_law_script"] (spLaw K):=by
 refine F.o ip λ_ _ _ _ H _ Q _ hr h=>?_
 ·obtain ⟨a,ns,rfl,hS,hlen,q⟩:=h
  have hu:=hr.units
  refine ⟨_,(ae (aq (i:=1) ip.nd rfl (Or.inl rfl) (ay jt hr.m (aa (pv 0) (aa ac ag))))
(ae (aq (i:=2) ip.nd rfl (Or.inl rfl) (ay jN hr.m (aa (pv 1) ag)))
(ae (aq (i:=3) ip.nd rfl (Or.inl rfl) (ay iX hr.m (aa (pv 1) (aa ac ag))))
(ae (aq (i:=4) ip.nd rfl (Or.inl rfl) (ay iX hr.m (aa (pv 1) (aa ac ag))))
(ae (aq (i:=5) ip.nd rfl (Or.inr rfl) (ay jV hr.m (aa (pv 2) (aa (pv 3) (aa (pv 4) (aa (pv 0) ag))))))
(ae (aq (i:=6) ip.nd rfl (Or.inl rfl) (ay jW hr.m (aa (pv 2) (aa (pv 5) ag))))
(ae (ps_setcC (i:=7) ip.nd rfl (Or.inl rfl) (N:=["_law_place", "_law_rows_here"]) (src:=[none,some 5]) rfl rfl rfl (by exact (bE rfl T.range (aa (pv 4) ag))) (λ_ _ _=>by exact ⟨by exact (b9 (i:=0) nd_13 rfl (Or.inr rfl)),aX,by exact (by exact cW (N:=["_law_row", "_law_place"]) (src:=[none,some 0]) rfl rfl rfl (by exact (aO K rfl (pv 1))) (λ_ _ _=>by exact ⟨by exact (bX (i:=0) nd_14 rfl rfl),aX,by exact (aE (aB K rfl) (pv 0) (pv 1) (λ_ _=>rfl))⟩))⟩))
(ae (cG PassesOwn.never rfl (aO K rfl (bL (aa (pv 5) (aa (pe_rev (K:=K) rfl (pv 5) (po_some (pe_un un_neg ac))) (aa (pv 7) ag))))) (b9 (i:=8) ip.nd rfl (Or.inl rfl))
(ae (bt (i:=9) ip.nd rfl (Or.inl rfl) (N:=["_law_row"]) (src:=[none]) rfl rfl rfl (by exact (aO K rfl (pv 8))) (λ_ _ _=>by exact ⟨by exact (bX (i:=0) nd_15 rfl rfl),aX,by exact (fm K T (pv 0))⟩))
(ae (aq (i:=10) ip.nd rfl (Or.inl rfl) (ay kZ hr.m (aa (ay jp hr.m (aa (pv 2) ag)) (aa (pv 9) ag))))
(ah (aR (PW.pt (pw_or (pt_not (fI (ay jO hr.m (aa (pv 10) ag)))) (pw_or (az (kneD K rfl hu) (pv 10) (pv 6) (aA _)) (pw_or1 (az (kneD K rfl hu) (pv 9) (pv 8) (aA _))))))
(ah (ao fO))
aC)))))
(ah (ao (eZ (keqD K rfl hu) (ay kZ hr.m (aa (ay jp hr.m (aa (pv 2) ag)) (aa (bL ag) ag))) ac (aA _)))))))))))),?_⟩
  refine ⟨_,rfl,a,ns,0,rfl,hS,hlen,by decide,by decide,λp0 a1 b1 hp0 hb1=>?_⟩
  refine ⟨_,rfl,p0,a1,b1,100,rfl,af,hb1,by decide,λP a2 b2 H1 hP hp1 hb2 kp1=>?_⟩
  have hB:=hP.b
  have sm1:gY H H1:=λc o e=>kp1 c o (by rw [ar (al e hp0)]; exact e) (al e hp0)
  refine ⟨_,rfl,p0,a2,b2,7,102,rfl,hp1,hb2,by decide,by decide,aD (by decide) (by decide),λm' a3 b3 m0 m7 hb3=>?_⟩
  have sm2:gY H (upd H1 p0 (.lst [.int a3,.int b3])):=sm1.put hp0
  have hp2:(upd H1 p0 (.lst [.int a3,.int b3])) p0=some (.lst [.int a3,.int b3]):=af
  generalize upd H1 p0 (.lst [.int a3,.int b3])=H2 at *
  refine ⟨_,rfl,p0,a3,b3,7,103,rfl,hp2,hb3,by decide,by decide,aD (by decide) (by decide),λn' a4 b4 n0 n7 hb4=>?_⟩
  have sm3:gY H (upd H2 p0 (.lst [.int a4,.int b4])):=sm2.put hp0
  generalize upd H2 p0 (.lst [.int a4,.int b4])=H3 at *
  obtain ⟨m,rfl⟩:∃ k:Nat,m'=k:=⟨m'.toNat,by omega⟩
  obtain ⟨n,rfl⟩:∃ k:Nat,n'=k:=⟨n'.toNat,by omega⟩
  refine ⟨_,rfl,_,rfl,_,rfl,_,rfl,a,P,hP,m,n,ns,rfl,by omega,by omega,sm3.seq hS,hlen,λd ws rows H4 s4 hd pr lr rk=>?_⟩
  have n6:n<=6:=by omega
  have r6:rows.length<=6:=by omega
  obtain ⟨ft1,ft2⟩:=rk.fit hP n6 r6
  have hl:∀ xs ∈ rows,xs.length=n/\∀ y ∈ xs,OkN P y:=λxs hx=>by
   obtain ⟨i,hi,e⟩:=List.mem_iff_getElem.mp hx
   have:=rk.1 i xs (by rw [getElem?_eq_getElem hi,e])
   exact ⟨this.1,this.2.1⟩
  refine ⟨_,rfl,_,rfl,d,P,hP,n,ws,rows,rfl,hd,pr,r6,n6,λi xs e=>⟨ft1 xs (mem_of_getElem? e),(rk.1 i xs e).2.2⟩,λKK H5 kp s5=>?_⟩
  have hd5:=s5 _ _ hd
  have pr5:Paired (RowN P H5) ws rows:=ak (λ_ _ z=>z.same s5) pr
  have lw:ws.length=rows.length:=Paired.length pr
  refine ⟨_,rfl,_,rfl,by omega,by omega,turnN (P:=P) (n:=n) rfl hd5 pr5 (by omega) (by omega) (λxs hx=>(hl xs hx).1) λtr tz H6 ntr s6 htr ptr=>?_⟩
  refine ⟨_,rfl,_,rfl,_,rfl,_,rfl,rfl,d,ws,rfl,SqL.of (s6 _ _ hd5),λrv nrv=>?_⟩
  have s7:=gY.new (o:=.lst ws.reverse) nrv
  have hrv:(upd H6 rv (.lst ws.reverse)) rv=some (.lst ws.reverse):=af
  generalize upd H6 rv (.lst ws.reverse)=H7 at *
  refine ⟨_,rfl,(by show 3<=sizeLine; decide),λsl nsl=>?_⟩
  have s8:=gY.new (o:=.lst [.ref d,.ref rv,.ref tr]) nsl
  have hsl:(upd H7 sl (.lst [.ref d,.ref rv,.ref tr])) sl=some (.lst [.ref d,.ref rv,.ref tr]):=af
  generalize upd H7 sl (.lst [.ref d,.ref rv,.ref tr])=H8 at *
  have s68:=s7.trans s8
  have s58:=s6.trans s68
  have pr8:Paired (RowN P H8) ws rows:=ak (λ_ _ z=>z.same s58) pr5
  have told:∀ v ∈ [V.ref d,.ref rv,.ref tr],Told hP H8 KK.length v:=λv hv=>by
   simp only [mem_cons,not_mem_nil,or_false] at hv
   rcases hv with rfl | rfl | rfl
   ·exact ⟨d,n,ws,rows,rfl,s58 _ _ hd5,pr8,r6,n6,ft1,λL hL=>FL.keeps_same (nbF hP) kp hL λw=>Iff.rfl⟩
   ·exact ⟨rv,n,ws.reverse,rows.reverse,rfl,s8 _ _ hrv,fG pr8,by rw [length_reverse]; exact r6,n6,λxs hx=>ft1 xs (List.mem_reverse.mp hx),λL hL=>FL.keeps_same (nbF hP) kp hL λw=>by rw [List.map_reverse,List.mem_reverse]⟩
   ·refine ⟨tr,rows.length,tz,(List.range n).map (eR rows),rfl,s68 _ _ htr,ak (λ_ _ z=>z.same s68) ptr,by rw [length_map,length_range]; exact n6,r6,λxs hx=>?_,λL hL=>turn_len hP hl kp hL⟩
    obtain ⟨p,hp,rfl⟩:=List.mem_map.mp hx
    exact ft2 p (List.mem_range.mp hp)
  refine ⟨sl,rfl,⟨_,SqL.of hsl⟩,bT (xs:=[.ref d,.ref rv,.ref tr]) (λi σ H'=>∃ x8 x9 x10:Option V,σ=[some (.ref a),some (.ref p0),some (.int P),some (.int m),some (.int n),some (.ref d),some (.int (KK.length:Nat)),some (.ref tr),x8,x9,x10]/\gY H8 H') ?_ ?_ ?_ ?_⟩
  ·exact ⟨none,none,none,rfl,gY.refl _⟩
  ·rintro i σ H' _ ⟨x8,x9,x10,rfl,sm⟩
   exact SqL.of (sm _ _ hsl)
  ·rintro i v σ H9 hv ⟨x8,x9,x10,rfl,s9⟩ N0 C0 hN0
   obtain ⟨c,n',vs,rws,rfl,hc,pc,rw6,n6',fit,tl⟩:=told v (mem_of_getElem? hv)
   have hc:=s9 _ _ hc
   have pc:Paired (RowN P H9) vs rws:=ak (λ_ _ z=>z.same s9) pc
   have lv:vs.length=rws.length:=Paired.length pc
   refine ⟨_,rfl,c,rfl,⟨_,SqL.of hc⟩,copyN (P:=P) (rest:=[]) rfl hc pc (by omega) λhh hz H10 nhh s10 hhh ph=>?_⟩
   refine ⟨_,rfl,P,rfl,hP,λx H11 s11 hN=>?_⟩
   refine ⟨_,rfl,x,hh,P,hP,n',hz,rws,rfl,hN,s11 _ _ hhh,ak (λ_ _ z=>z.same s11) ph,rw6,n6',fit,λL H12 kL s12=>?_⟩
   have el:=tl L kL
   rw [el]
   have s1112:=s11.trans s12
   refine ⟨_,rfl,?_⟩
   dsimp only [de]
   refine spWhole.int (K:=K) (i:=((KK.length:Nat):Int)) ?_
   refine ⟨true,rfl,eo ?_⟩
   refine ⟨_,rfl,_,rfl,.int _,.int _,.int _,.int _,rfl,rfl,_,rfl,?_⟩
   rw [show PyData.eqv (.int ((KK.length:Nat):Int)) (.int ((KK.length:Nat):Int))=true by simp [PyData.eqv]]
   refine eo ?_
   refine ⟨_,rfl,_,rfl,dRNs P rws,dRNs P rws,.lst (SqL.of (s1112 _ _ hhh)) (fy (ak (λ_ _ z=>z.same s1112) ph)),.lst (SqL.of (s1112 _ _ (s10 _ _ hc))) (fy (ak (λ_ _ z=>(z.same s10).same s1112) pc)),(fN P rws).sh (by decide),(fN P rws).sh (by decide),_,rfl,?_⟩
   rw [SeqAt.eqv_refl (dRNs P rws) (fN P rws).1]
   exact eo (hN0 _ _ ⟨_,_,_,rfl,s9.trans (s10.trans s1112)⟩)
  ·rintro σ H9 ⟨x8,x9,x10,rfl,s9⟩
   refine ⟨_,rfl,P,rfl,hP,λx H10 s10 hN=>?_⟩
   refine ⟨Nat.zero_le _,λe ne=>?_⟩
   refine ⟨x,e,P,hP,0,[],[],rfl,hN.mono λo z=>gY.new ne _ _ z,af,.nil,by decide,by decide,λxs hx=>(nomatch hx),λL H11 kL s11=>?_⟩
   have e0:L.length=0:=Nat.le_zero.mp (FL.keeps_le (nbF hP) (K:=[]) (vs:=[]) (G:=[]) kL λw hw=>(nomatch hw))
   rw [e0]
   exact ⟨.int 0,.int 0,.int _,.int _,rfl,rfl,q _⟩
set_option maxHeartbeats 4000000 in
theorem all_mk {l:PySem.W.OpenLaw} {w:World} {K:Frag} {h:Heap} {mg:Str->Option Value} {fa:Addr} (X:K.In h) (G:h.Ns mainGlobals mg) (hfa:mg "law"=some (.ref fa))
  (d0:g9 K "top_and_bottom" bC) (d1:g9 K "is_prime" dj) (d2:g9 K "greatest_divisor" bp) (d3:g9 K "least_multiple" bF) (d4:g9 K "rank" s_rank) (d5:g9 K "whole_numbers" bM) (d6:g9 K "cleared_at" cB) (d7:g9 K "_law_cell" cM) (d8:g9 K "_law_bag" dq) (d9:g9 K "_law_take" cR) (d10:g9 K "_law_whole" cr) (d11:g9 K "_law_low" di) (d12:g9 K "_law_is_prime" bN) (d13:g9 K "_law_prime" cm) (d14:g9 K "_law_numbers" bW) (d15:g9 K "_law_back" cJ) (d16:g9 K "_law_plus" cT) (d17:g9 K "_law_times" cq) (d18:g9 K "_law_nought" cc) (d19:g9 K "_law_less" cL) (d20:g9 K "_law_over" cO) (d21:g9 K "_law_great" cx) (d22:g9 K "_law_signed" ce) (d23:g9 K "_law_number" bG) (d24:g9 K "_law_wide" cF) (d25:g9 K "_law_rows" cI) (d26:g9 K "_law_rank" cS) (d27:g9 K "law" s_law)
  {iZ:Addr} (jE:nsIn K mainGlobals "Fractions"=some (some (.ref iZ))) (jF:plainGet K iZ Str.empty=true) (jG:hasDictIn K iZ=true) (jH:plainOver K iZ=true) (jI:findIn K (.ref iZ) "__setattr__"=some (some (.builtin "object.__setattr__"))) (jJ:makesIn K iZ=true) (jK:keepIn K (.ref iZ)=true)
  (jL:findIn K (.ref iZ) "__init__"=some (some (.builtin "object.__init__")))
  {i4:Addr} {jY jZ:Option Addr} {j0:Array (Option Value)} {j1 j3 j4 j5 jA j6:Value}
  (jj:findIn K (.ref iZ) "prime"=some (some (.ref i4))) (jk:isFn K (.ref i4)=true) (jn:K.lookup i4=some ⟨j1,jY,.func (fnOf "prime" "Fractions.prime" (bR aH) (bx aH) (aj aH) .none j3 j4 j5 jZ jA j6),j0⟩) (jo:codeIn K jA "Fractions.prime"=true) (i9:keepIn K (.ref i4)=true)
  {i3:Addr} (ky:nsIn K mainGlobals "Rests"=some (some (.ref i3))) (kz:plainGet K i3 Str.empty=true) (kA:hasDictIn K i3=true) (kB:plainOver K i3=true) (kC:findIn K (.ref i3) "__setattr__"=some (some (.builtin "object.__setattr__"))) (kD:makesIn K i3=true) (kE:keepIn K (.ref i3)=true)
  (jd:findIn K (.ref i3) "modulus"=some none)
  {i6:Addr} {j7 j8:Option Addr} {j9:Array (Option Value)} {ka kb ke kg jD kh:Value}
  (ja:findIn K (.ref i3) "__init__"=some (some (.ref i6))) (jb:isFn K (.ref i6)=true) (jr:K.lookup i6=some ⟨ka,j7,.func (fnOf "__init__" "Rests.__init__" (bR aL) (bx aL) (aj aL) .none kb ke kg j8 jD kh),j9⟩) (js:codeIn K jD "Rests.__init__"=true) (je:keepIn K (.ref i6)=true)
  {jf:Addr} {kK kM:Option Addr} {kN:Array (Option Value)} {kO kP kQ kR jP kS:Value}
  (jy:findIn K (.ref i3) "prime"=some (some (.ref jf))) (jz:isFn K (.ref jf)=true) (jB:K.lookup jf=some ⟨kO,kK,.func (fnOf "prime" "Rests.prime" (bR aZ) (bx aZ) (aj aZ) .none kP kQ kR kM jP kS),kN⟩) (jC:codeIn K jP "Rests.prime"=true) (jq:keepIn K (.ref jf)=true)
  {kT:Tok} (jg:nsIn K mainGlobals "LEAST_PRIME"=some (some (.int 2 kT)))
  {km:Tok} (i7:nsIn K mainGlobals "GREATEST_PRIME"=some (some (.int 9973 km)))
  (z0:nsIn K mainGlobals "len"=some none) (z1:nsIn K mainGlobals "range"=some none) (z2:nsIn K mainGlobals "zip"=some none) (z3:nsIn K mainGlobals "all"=some none) (z4:nsIn K mainGlobals "sum"=some none) (z5:nsIn K mainGlobals "max"=some none) (z6:nsIn K mainGlobals "min"=some none) (z7:nsIn K mainGlobals "abs"=some none) (z8:nsIn K mainGlobals "tuple"=some none) (z9:nsIn K mainGlobals "list"=some none) (z10:nsIn K mainGlobals "int"=some none) (z11:nsIn K mainGlobals "bool"=some none) (z12:nsIn K mainGlobals "isinstance"=some none) (z13:nsIn K mainGlobals "enumerate"=some none) (z14:nsIn K mainGlobals "sorted"=some none) (z15:nsIn K mainGlobals "set"=some none) (z16:nsIn K mainGlobals "str"=some none) :
  ∃ fd:FuncData,(∀ (s:Shared) (v:Value),BindsTo s fd ⟨[v],[]⟩ [("_law_script",v)])/\∀ base:Heap,K.In base->base.Ns mainGlobals mg->aI l.prog w K mg base CX0 6 fa fd ["_law_script"] (spLaw K):=by
 have T:Blt mg:=⟨mg_none_of X G z0,mg_none_of X G z1,mg_none_of X G z2,mg_none_of X G z3,mg_none_of X G z4,mg_none_of X G z5,mg_none_of X G z6,mg_none_of X G z7,mg_none_of X G z8,mg_none_of X G z9,mg_none_of X G z10,mg_none_of X G z11,mg_none_of X G z12,mg_none_of X G z13,mg_none_of X G z14,mg_none_of X G z15,mg_none_of X G z16⟩
 refine d27.law X G hfa λ{_} {base} F27 _ _=>?_
 have M {k n sp} (h:FnB l.prog w K mg base k n sp):=h
 have k8:Cls K iZ:=⟨jF,jG,jH,jI⟩
 have k9:=mg_of X G jE
 have kn:=gv (st:=aH) jn jo i9
 have kr:=kn.binds (ps:=["self"]) λ_ _ _ _ _ _ us hl=>match us,hl with | [_],_=>rfl
 have ku:Meth K iZ "prime" i4:=⟨jj,jk,i9⟩
 have kF:Cls K i3:=⟨kz,kA,kB,kC⟩
 have lh:=mg_of X G ky
 have kG:=gv (st:=aL) jr js je
 have kH:=kG.binds (ps:=["self", "prime"]) λ_ _ _ _ _ _ us hl=>match us,hl with | [_,_],_=>rfl
 have lg:Meth K i3 "__init__" i6:=⟨ja,jb,je⟩
 have kU:=gv (st:=aZ) jB jC jq
 have kX:=kU.binds (ps:=["self"]) λ_ _ _ _ _ _ us hl=>match us,hl with | [_],_=>rfl
 have kY:Meth K i3 "prime" jf:=⟨jy,jz,jq⟩
 have jg:=mg_of X G jg
 have i7:=mg_of X G i7
 have jQ:=M (d7.fb X G λF=>ok_cell F T)
 have jt:=M (d8.fb X G λF=>ok_bag F jQ)
 have iX:=M (d9.fb X G λF=>ok_take F)
 have jO:=M (d10.fb X G λF=>ok_whole F T)
 have i5:=M (d21.fb X G λF=>ok_great F iX)
 have jh:=M (d22.fb X G λF=>ok_signed F iX i5)
 have iY:=M (d11.fb X G λF=>ok_low F T)
 have jw:=M (d12.fb X G λF=>ok_lawprime F T)
 have jN:=M (d13.fb X G λF=>ok_prime F iX jw)
 have jX:=M (d1.fb X G λF=>ok_isprime F jg i7)
 have jm:=M (d2.fb X G λF=>ok_gcd F T)
 have k0:MkB l.prog w K mg base 2 i3 "Rests" (gS i3):=⟨⟨_,_,_,ok_rinit kG kF jd jX,⟨kD,ja,jb,kE⟩,kH⟩,lh⟩
 have jp:=M (d14.fb X G λF=>ok_nums F ⟨jJ,jL,jK⟩ k9 k0)
 have ji:=M (d23.fb X G λF=>ok_number0 F T iX i5 jh iY)
 have jl:=M (d16.fb X G λF=>ok_lplus F iY)
 have i8:=M (d17.fb X G λF=>ok_ltimes F iY)
 have jc:=M (d18.fb X G λF=>ok_nought F T)
 have jS:=M (d19.fb X G λF=>ok_less F)
 have jU:=M (d24.fb X G λF=>ok_wide F iX iY)
 have jR:=M (d15.fb X G λF=>ok_back F T)
 have jT:=M (d20.fb X G λF=>ok_over F iY jR)
 have jV:=M (d25.fb X G λF=>ok_rows F T jt iX ji jU jl i8 jc)
 have jW:=M (d26.fb X G λF=>ok_lrank F T jl i8 jS jT jc)
 have kI:MtB l.prog w K mg base 1 iZ "prime" spFPr:=⟨⟨_,_,_,ok_fpr kn,ku,kr⟩,k8⟩
 have kJ:MtB l.prog w K mg base 1 i3 "prime" (spRPr i3):=⟨⟨_,_,_,ok_rpr kU kF jd,kY,kX⟩,kF⟩
 have ju:=M (d0.fb X G λF=>ok_tb F kI kJ)
 have jv:=M (d3.fb X G λF=>ok_lm F jm)
 have jx:=M (d5.fb X G λF=>ok_wholes F ju jv)
 have jM:=M (d6.fb X G λF=>ok_clear F T)
 have kZ:=M (d4.fb X G λF=>ok_rank F T kI kJ jx jM)
 exact ok_law F27 T jt jN iX jV jW jp jO kZ
theorem walk {l:PySem.W.OpenLaw} {q:Program} {loose:List Str} {XP:(Str->Option Value)->Heap->Prop} {YP:World->Heap->Prop} {d:DefRec} {K:Params->Frag} (hn:l.most=some 63) (hdf:d.params.defaults=[])
  (hY:∀ (w:World) (h:Heap),YP w h->(K w.params).In h)
  (F:∀ (w:World) (mg:Str->Option Value) (fa:Addr) (h:Heap),(K w.params).In h->h.Ns mainGlobals mg->mg d.name=some (.ref fa)->
   ∃ fd:FuncData,(∀ (s:Shared) (u:Value),BindsTo s fd ⟨[u],[]⟩ [("_law_script",u)])/\∀ base:Heap,(K w.params).In base->base.Ns mainGlobals mg->aI l.prog w (K w.params) mg base CX0 6 fa fd ["_law_script"] (spLaw (K w.params))) :
  PySem.W.WalkO q loose XP YP l.row.toRowW d [] (λf vs=>PySem.call f vs):=
 L2.walk_of (n:=63) (k:=6) (x := "_law_script") (CX:=λ_=>CX0) (sp:=λw=>spLaw (K w.params)) hn (by decide) hdf ⟨rfl,by decide,by decide⟩ hY F (λ_ _ a ns hl _ hS=>⟨a,ns,rfl,hS,hl,λ_=>rfl⟩) λ_ _ _ _ _ z=>z
end K
namespace PySem.W.Fast
def tw1046066629424375514:=0
def tw13737807627306838081:=0
def tw176658339089966879:=0
def tw6382943536608769705:=0
def tw46769842450727054:=0
def tw4207332438004469172:=0
def tw6279913709296490756:=0
def tw4265835081994883210:=0
def tw12156619581666663207:=0
def tw17377590875946519939:=0
def tw13676266578429370650:=0
def tw1264284010227519713:=0
def tw11414892856764787154:=0
def tw8645014793552279949:=0
def tw17687561250527594947:=0
def tw5201132096739501303:=0
def tw18377409357011363530:=0
def tw535107694739294622:=0
def tw3428090202280757341:=0
def tw10814726734897558112:=0
def tw4965529170835891072:=0
def tw5788998592316941534:=0
def tw6219214867179824489:=0
def tw14596262061835147066:=0
def tw109437415194135387:=0
def tw8045979210524431996:=0
def tw3527622387474902442:=0
def tw11782907649550585713:=0
def tw653261610965168215:=0
def tw3673230389474629391:=0
def tw2302208071681490829:=0
def tw8020728146055364212:=0
def tw9035492776854070890:=0
def tw1470303589045910233:=0
def tw15549626757069487158:=0
def tw2487824995835003899:=0
def tw5868536090120376156:=0
def tw14688463714652186609:=0
def tw15481781964662669281:=0
def tw3543906153949153750:=0
def tw13759645338698345302:=0
def tw18191717745271747301:=0
def tw3025005743462801785:=0
def tw1341307703432538615:=0
def tw6549072805888258846:=0
def tw14591768818397775603:=0
def tw5963654813439881734:=0
def tw11547023758970037524:=0
def tw14189515715465237969:=0
def tw15288028162801466335:=0
def tw9591945158341327790:=0
def tw16168995587622197316:=0
def tw13233450124682129779:=0
def tw15877988801497202734:=0
def tw6345477298366637803:=0
def tw17043121224253177437:=0
def tw2576115355547245819:=0
def tw13752722675665842335:=0
def tw16191486660115000731:=0
def tw18080688547482593775:=0
def tw11345779744484575264:=0
def tw9789208435479892391:=0
def tw6447855390807581758:=0
def tw14794904363861327123:=0
def tw3214949808896417147:=0
def tw18383756562122809855:=0
def tw5062405892508522864:=0
def tw7393844583089378890:=0
def tw12512891174861946164:=0
def tw11433648842498610117:=0
def tw7457044655882845408:=0
def tw14310911449436198717:=0
def tw13155809867647447371:=0
def tw4367409935720898021:=0
def tw17985172754884058801:=0
def tw14926812222238663688:=0
def tw5038511028932980755:=0
def tw15397996715315803932:=0
def tw1003224229724358357:=0
def tw10745256841096117966:=0
def tw18326582923857081034:=0
def tw13959755089205521178:=0
def tw15234764747706767779:=0
def tw7050586768436700712:=0
def tw12190877649510691796:=0
def tw16458010496929757290:=0
def tw3312376227359895840:=0
def tw250901573277230722:=0
def tw9736217140722268224:=0
def tw18125137076971192377:=0
def tw5665800628304907953:=0
def tw11373893675834311153:=0
def tw7404342508812156560:=0
def tw6597650957188905374:=0
def tw11287372800835042695:=0
def tw17427342503662407727:=0
def tw14222359575408587298:=0
def tw13727287429629850431:=0
def tw5525845002697348969:=0
def tw11310667637701667795:=0
def tw11129250194273498035:=0
def tw572503069756502091:=0
def tw2552981632309446479:=0
def tw9688063654780374213:=0
def tw12127048314131031690:=0
def tw2103741744383653802:=0
def tw14447414748936409547:=0
def tw11107241693946057085:=0
def tw17442752737471075966:=0
def tw15571361540410349316:=0
def tw2465817596271691816:=0
def tw17419289010779469099:=0
def tw17751169951148810270:=0
def tw11871265396248610688:=0
def tw1854733164058555:=0
def tw18084617219570876496:=0
def tw2301426024531573648:=0
def tw5945009935255823600:=0
def tw17487472283259945933:=0
def tw17625829160193197322:=0
def tw7818341205208061251:=0
def tw9217580365702840181:=0
def tw3605866031589410711:=0
def tw10625177025249191548:=0
def tw13069918645037858386:=0
end PySem.W.Fast
open PySem PySem.W PyProof.Rows
set_option maxRecDepth 100000 in
set_option maxHeartbeats 0 in
theorem PySem.Challenge.cw_relationladder_k41_rank_holds : PySem.Challenge.rw_relationladder_k41_rank.Holds := by
 w_on; o_law; k_head; (case hw=>w_witness2)
 k_fill
 refine K.walk (l:=PySem.Challenge.rw_relationladder_k41_rank) rfl rfl (λw h Y=>PySem.W.kIn_of Y) ?F
 case F=>
  intro w mg fa h KX G hmg
  refine' K.all_mk KX G hmg ?d0 ?d1 ?d2 ?d3 ?d4 ?d5 ?d6 ?d7 ?d8 ?d9 ?d10 ?d11 ?d12 ?d13 ?d14 ?d15 ?d16 ?d17 ?d18 ?d19 ?d20 ?d21 ?d22 ?d23 ?d24 ?d25 ?d26 ?d27 ?jE ?jF ?jG ?jH ?jI ?jJ ?jK ?jL ?jj ?jk ?jn ?jo ?i9 ?ky ?kz ?kA ?kB ?kC ?kD ?kE ?jd ?ja ?jb ?jr ?js ?je ?jy ?jz ?jB ?jC ?jq ?jg ?i7 ?z0 ?z1 ?z2 ?z3 ?z4 ?z5 ?z6 ?z7 ?z8 ?z9 ?z10 ?z11 ?z12 ?z13 ?z14 ?z15 ?z16
  (case d0|d1|d2|d3|d4|d5|d6|d7|d8|d9|d10|d11|d12|d13|d14|d15|d16|d17|d18|d19=>refine' .mk ?a ?l ?c ?k; (case a=>k_is); (case l=>k_is); (case c=>k_is); (case k=>k_is))
  (case d20|d21|d22|d23|d24|d25|d26|d27=>refine' .mk ?a ?l ?c ?k; (case a=>k_is); (case l=>k_is); (case c=>k_is); (case k=>k_is))
  (case jE|jF|jG|jH|jI|jJ|jK|jL|jj|jk|jn|jo|i9|ky|kz|kA|kB|kC|kD|kE=>k_is)
  (case jd|ja|jb|jr|js|je|jy|jz|jB|jC|jq|jg|i7|z0|z1|z2|z3|z4|z5|z6=>k_is)
  (case z7|z8|z9|z10|z11|z12|z13|z14|z15|z16=>k_is)
