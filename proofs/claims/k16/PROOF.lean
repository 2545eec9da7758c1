import PyProof.Rows.All
import Wide.All
import OpenK.AllK
import Wide.FinOn
import Lean
import PyProof.EqAt
import PyProof.EqKinds
import PyProof.TupleCall
import PySem.Challenge.RW_relationladder_k16_rows_mixed
set_option Elab.async false
set_option linter.all false
set_option maxRecDepth 100000
open PySem.W (instObj hideAll_get Frag lookIn plainGet hasDictIn findIn isFn plainOver makesIn emptyDict keepIn specialIn takesIn mroIn kitOne kia_one fnOf codeIn excIn nsIn mg_of mg_none_of)
open List (filterMap_cons mem_cons_self mem_cons_of_mem mem_append_left getElem_inj getElem?_set_self getElem?_set_ne mem_append_right length_cons map_cons length_map append_nil of_mem_zip length_take getElem?_append_right getElem?_append_left getElem?_map take_sublist mem_of_getElem? length_append length_replicate zip_cons_cons length_nil map_nil size_toArray length_singleton forIn_cons lookup_cons all_eq_true forIn_nil mem_cons not_mem_nil getD_eq_getElem?_getD getElem?_eq_getElem getElem_of_mem getElem_mem take_succ sum_append take_of_length_le length_range find?_cons any_cons map_append length_reverse reverse_perm pairwise_map pairwise_singleton getElem?_eq_none map_map range_succ foldl_append take_add_one mem_of_mem_take take_length length_filter_le take_zero flatMap_cons flatMap_append append_assoc sum_cons countP_singleton)
open PySem.Heap (lt_size get?_push_of_some get?_push_size size_push get?_update_self get?_update_other get?_push_cases)
namespace L2
open PySem PySem.Spec PyProof.Rows
abbrev Key:=Sum Int Str
def mC:Key->Value->Bool
 | .inl k,v=>Value.isInt k v
 | .inr x,v=>Value.isStrOf x v
def keyH (w:World):Key->Int
 | .inl k=>hashInt k
 | .inr x=>hashStr w x
theorem bv:∀ {k:Key} {v:Value},mC k v=true->(∃ i t,k=Sum.inl i/\v=Value.int i t)\/(∃ x t,k=Sum.inr x/\v=Value.str x t)
 | .inl i,v,h=>by
  obtain ⟨t,e⟩:=Value.isInt_shape (k:=i) (v:=v) h
  exact .inl ⟨i,t,rfl,e⟩
 | .inr x,v,h=>by
  obtain ⟨t,e⟩:=Value.isStrOf_shape (x:=x) (v:=v) h
  exact .inr ⟨x,t,rfl,e⟩
theorem keyIs_int (i:Int) (t:Tok):mC (.inl i) (.int i t)=true:=by simp [mC,Value.isInt]
theorem keyIs_str (x:Str) (t:Tok):mC (.inr x) (.str x t)=true:=by simp [mC,Value.isStrOf]
theorem key_ll (a b:Int):decide ((Sum.inl a:Key)=Sum.inl b)=(a == b):=by
 by_cases e:a=b
 ·subst e; simp
 ·have h:¬ (Sum.inl a:Key)=Sum.inl b:=λq=>e (Sum.inl.inj q)
  rw [decide_eq_false h]
  exact (beq_eq_false_iff_ne.mpr e).symm
theorem key_rr (a b:Str):decide ((Sum.inr a:Key)=Sum.inr b)=decide (a=b):=by
 by_cases e:a=b
 ·subst e; simp
 ·have h:¬ (Sum.inr a:Key)=Sum.inr b:=λq=>e (Sum.inr.inj q)
  rw [decide_eq_false h,decide_eq_false e]
theorem key_lr (a:Int) (b:Str):decide ((Sum.inl a:Key)=Sum.inr b)=false:=decide_eq_false (λq=>nomatch q)
theorem key_rl (a:Str) (b:Int):decide ((Sum.inr a:Key)=Sum.inl b)=false:=decide_eq_false (λq=>nomatch q)
def bg (prog:Program) (w:World):PySem.KeyKind prog w Key where
 is:=mC
 hash:=keyH w
 inj:=λv a b ha hb=>by
  rcases bv ha with ⟨i,t,rfl,rfl⟩ | ⟨x,t,rfl,rfl⟩
  ·rcases bv hb with ⟨j,u,rfl,e⟩ | ⟨y,u,rfl,e⟩
   ·injection e with e1 _; rw [e1]
   ·exact nomatch e
  ·rcases bv hb with ⟨j,u,rfl,e⟩ | ⟨y,u,rfl,e⟩
   ·exact nomatch e
   ·injection e with e1 _; rw [e1]
 byValue:=λk v h=>by
  rcases bv h with ⟨i,t,rfl,rfl⟩ | ⟨x,t,rfl,rfl⟩<;>rfl
 pyHash:=λhv h=>by
  rcases bv hv with ⟨i,t,rfl,rfl⟩ | ⟨x,t,rfl,rfl⟩
  ·exact wpAny_pyHash_int h
  ·exact wpAny_pyHash_str h
 eqBool:=λhu hv h=>by
  rcases bv hu with ⟨i,t,rfl,rfl⟩ | ⟨x,t,rfl,rfl⟩
  ·rcases bv hv with ⟨j,u,rfl,rfl⟩ | ⟨y,u,rfl,rfl⟩
   ·rw [key_ll] at h; exact wpAny_eqBool_int h
   ·rw [key_lr] at h; exact SeqAt.EqAt.int_str i t y u _ _ _ _ h
  ·rcases bv hv with ⟨j,u,rfl,rfl⟩ | ⟨y,u,rfl,rfl⟩
   ·rw [key_rl] at h; exact SeqAt.EqAt.str_int x t j u _ _ _ _ h
   ·rw [key_rr] at h; exact wpAny_eqBool_str h
 «strs»:=λk x t v h=>by
  rcases bv h with ⟨i,u,rfl,e⟩ | ⟨y,u,rfl,e⟩
  ·exact nomatch e
  ·injection e with e1 _
   subst e1
   cases v<;>rfl
theorem mixKind_int (prog:Program) (w:World) (i:Int) (t:Tok):(bg prog w).is (.inl i) (.int i t)=true:=keyIs_int i t
theorem mixKind_str (prog:Program) (w:World) (x:Str) (t:Tok):(bg prog w).is (.inr x) (.str x t)=true:=keyIs_str x t
inductive V where
 | non | bl (b:Bool) | int (i:Int) | str (x:Str) | byt (b:Array UInt8) | flt (b:UInt64) | ref (a:Addr) | ty (n:String)
 deriving DecidableEq
def o4:V->Value->Prop
 | .non,u=>u=Value.none
 | .bl b,u=>u=Value.bool b
 | .int i,u=>∃ t,u=Value.int i t
 | .str x,u=>∃ t,u=Value.str x t
 | .byt b,u=>∃ t,u=Value.bytes b t
 | .flt b,u=>∃ t,u=Value.float b t
 | .ref a,u=>u=Value.ref a
 | .ty n,u=>u=Value.type n
abbrev o0:List V->List Value->Prop:=Paired o4
theorem o0.length {xs:List V} {us:List Value} (r:o0 xs us):xs.length=us.length:=Paired.length r
theorem o0.get:∀ {xs:List V} {us:List Value} {i:Nat} {x:V},o0 xs us->xs[i]? = some x->∃ u,us[i]? = some u/\o4 x u
 | _,_,_,_,.nil,e=>by simp at e
 | _,_,0,_,.cons r _,e=>by simp at e; subst e; exact ⟨_,rfl,r⟩
 | _,_,i+1,x,.cons _ t,e=>by
  obtain ⟨u,h1,h2⟩:=o0.get (i:=i) (x:=x) t (by simpa using e)
  exact ⟨u,by simpa using h1,h2⟩
theorem o0.set {x:V} {u:Value} (r:o4 x u):∀ {xs:List V} {us:List Value} (i:Nat),o0 xs us->o0 (xs.set i x) (us.set i u)
 | _,_,_,.nil=>.nil
 | _,_,0,.cons _ t=>.cons r t
 | _,_,i+1,.cons q t=>.cons q (o0.set r i t)
theorem o0.append:∀ {xs ys:List V} {us ws:List Value},o0 xs us->o0 ys ws->o0 (xs++ys) (us++ws)
 | _,_,_,_,.nil,s=>s
 | _,_,_,_,.cons r t,s=>.cons r (o0.append t s)
theorem o0.take:∀ {xs:List V} {us:List Value} (n:Nat),o0 xs us->o0 (xs.take n) (us.take n)
 | _,_,0,_=>.nil
 | _,_,_+1,.nil=>.nil
 | _,_,n+1,.cons r t=>.cons r (o0.take n t)
theorem o0.drop:∀ {xs:List V} {us:List Value} (n:Nat),o0 xs us->o0 (xs.drop n) (us.drop n)
 | _,_,0,r=>r
 | _,_,_+1,.nil=>.nil
 | _,_,n+1,.cons _ t=>o0.drop n t
def RelO:Option V->Option Value->Prop
 | some v,some u=>o4 v u
 | none,none=>True
 | _,_=>False
def KV {κ:Type}:List (κ × V)->List (κ × Value)->Prop:=Paired λ(p:κ × V) (q:κ × Value)=>p.1=q.1/\o4 p.2 q.2
def kV:Key->V
 | .inl i=>.int i
 | .inr x=>.str x
inductive HO where
 | lst (xs:List V)
 | tup (xs:List V)
 | dK (kvs:List (Key × V)) | dT (kvs:List (List Key × V))
 | set (S:Int->Bool) (n:Nat)
 | ins (C dx:Addr) (fs:List (Str × V))
 | own (x:Addr)
 | xd (fs:List (Str × V))
 | met (f x:Addr)
 | rng (lo hi:Int)
 | frz (o:Obj) (u:HO)
 | tbl (ps:Array Value)
 | ext (φ:Heap->Prop)
abbrev Hp:=Addr->Option HO
def upd (H:Hp) (a:Addr) (o:HO):Hp:=λb=>if b=a then some o else H b
theorem ac {H:Hp} {a:Addr} {o:HO}:upd H a o a=some o:=by unfold upd; rw [if_pos rfl]
theorem ao {H:Hp} {a b:Addr} {o:HO} (h:b ≠ a):upd H a o b=H b:=by unfold upd; rw [if_neg h]
theorem cS {H:Hp} {a:Addr} {o u:HO}:upd (upd H a o) a u=upd H a u:=by
 funext b; unfold upd; split<;>rfl
theorem bW {H:Hp} {a b:Addr} {o u:HO} (h:H a=some o) (h':H b=some u) (d:o ≠ u):a ≠ b:=by
 intro e; subst e; rw [h] at h'; exact d (Option.some.inj h')
theorem ah {H:Hp} {a b:Addr} {o:HO} (h:H a=some o) (h':H b=none):a ≠ b:=by
 intro e; subst e; rw [h] at h'; cases h'
section
variable (P:Program) (w:World)
def pd (H:Hp) (h:Heap) (a:Addr):HO->Prop
 | .lst xs=>xs.length<=sizeLine/\∃ (its:List Value) (n:Nat),o0 xs its/\h.get? a=some { cls:=.type "list",data:=.seq its.toArray n }
 | .tup xs=>xs.length<=sizeLine/\∃ its:List Value,o0 xs its/\IsTup h a its.toArray
 | .dK kvs=>kvs.length<=sizeLine/\(a == sysModules)=false/\∃ vs,KV kvs vs/\h.DictOf (bg P w) a vs
 | .dT kvs=>kvs.length<=sizeLine/\(a == sysModules)=false/\∃ xs:List (List Key × Addr × Value),
   Paired (λ(p:List Key × V) (q:List Key × Addr × Value)=>p.1=q.1/\H q.2.1=some (.tup (p.1.map kV))/\o4 p.2 q.2.2) kvs xs/\
   ∃ o es ep,h.get? a=some o/\o.ExactDict/\o.data=.dict es ep/\es.toList=xs.map (entryOfKey (tupleKind (bg P w)))/\(xs.map (·.1)).Nodup
 | .set S n=>h.SetOf (intKind P w) a S n
 | .ins C dx fs=>H dx=some (.own a)/\fs.length<=1000/\dx ≠ a/\h.get? a=some (instObj C dx)/\
   ∃ mA,h.Ns1 dx mA/\(∀ f,RelO (fs.lookup f) (mA f))/\PySem.Within mA (fs.map (·.1))
 | .own _=>∃ o,h.get? a=some o
 | .xd fs=>∃ mA,h.Ns1 a mA/\∀ f,RelO (fs.lookup f) (mA f)
 | .rng lo hi=>∃ t u v,h.get? a=some { cls:=.type "range",data:=.fields #[.int lo t,.int hi u,.int 1 v] }
 | .frz o u=>h.get? a=some o/\pd H h a u
 | .tbl ps=>h.get? a=some { cls:=.none,data:=.fields ps }
 | .met f x=>h.get? a=some (PySem.W.methodObj (.ref f) (.ref x))
 | .ext φ=>φ h/\(∃ o,h.get? a=some o)/\∀ h1 h2:Heap,φ h1->(∀ o,h1.get? a=some o->h2.get? a=some o)->φ h2
def HOk (H:Hp) (h:Heap):Prop:=∀ a o,H a=some o->pd P w H h a o
end
section
variable {P:Program} {w:World} {H H':Hp} {h h':Heap} {a:Addr} {o:HO}
theorem pd.lt (x:pd P w H h a o):a<h.objs.size:=by
 cases o with
 | lst xs=>obtain ⟨_,_,_,_,e⟩:=x; exact lt_size e
 | tup xs=>obtain ⟨_,_,_,p⟩:=x; exact p.lt
 | dK kvs=>obtain ⟨_,_,_,_,o,_,_,e,_⟩:=x; exact lt_size e
 | dT kvs=>obtain ⟨_,_,_,_,o,_,_,e,_⟩:=x; exact lt_size e
 | set S n=>obtain ⟨o,_,_,_,e,_⟩:=x; exact lt_size e
 | ins C dx fs=>obtain ⟨_,_,_,e,_⟩:=x; exact lt_size e
 | own y=>obtain ⟨_,e⟩:=x; exact lt_size e
 | xd fs=>obtain ⟨_,⟨_,_,_,e,_⟩,_⟩:=x; exact lt_size e
 | rng lo hi=>obtain ⟨_,_,_,e⟩:=x; exact lt_size e
 | frz ob u=>obtain ⟨e,_⟩:=x; exact lt_size e
 | tbl ps=>exact lt_size (show h.get? a=some _ from x)
 | met f y=>exact lt_size (show h.get? a=some _ from x)
 | ext φ=>obtain ⟨_,⟨_,e⟩,_⟩:=x; exact lt_size e
theorem Paired.mapP {α β:Type} {F G:α->β->Prop}:∀ {l₁:List α} {l₂:List β},Paired F l₁ l₂->(∀ a b,F a b->G a b)->Paired G l₁ l₂
 | _,_,.nil,_=>.nil
 | _,_,.cons r t,f=>.cons (f _ _ r) (Paired.mapP t f)
theorem pd.stay (x:pd P w H h a o) (k:∀ b u,(b=a\/H b=some (.own a))->h.get? b=some u->h'.get? b=some u)
  (ho:∀ b,H b=some (.own a)->H' b=some (.own a)) (ht:∀ b xs,H b=some (.tup xs)->H' b=some (.tup xs)):pd P w H' h' a o:=by
 induction o with
 | lst xs=>obtain ⟨z,its,n,r,e⟩:=x; exact ⟨z,its,n,r,k _ _ (.inl rfl) e⟩
 | tup xs=>obtain ⟨z,its,r,ob,e,c⟩:=x; exact ⟨z,its,r,ob,k _ _ (.inl rfl) e,c⟩
 | dK kvs=>obtain ⟨z,y,vs,r,ob,es,ep,e,c⟩:=x; exact ⟨z,y,vs,r,ob,es,ep,k _ _ (.inl rfl) e,c⟩
 | dT kvs=>
  obtain ⟨z,y,xs,r,ob,es,ep,e,c⟩:=x
  exact ⟨z,y,xs,Paired.mapP r λp q z=>⟨z.1,ht _ _ z.2.1,z.2.2⟩,ob,es,ep,k _ _ (.inl rfl) e,c⟩
 | set S n=>obtain ⟨ob,es,ep,t,e,c⟩:=x; exact ⟨ob,es,ep,t,k _ _ (.inl rfl) e,c⟩
 | ins C dx fs=>
  obtain ⟨d,z,ne,e,mA,⟨od,es,ep,e2,c⟩,r⟩:=x
  exact ⟨ho _ d,z,ne,k _ _ (.inl rfl) e,mA,⟨od,es,ep,k _ _ (.inr d) e2,c⟩,r⟩
 | own y=>obtain ⟨ob,e⟩:=x; exact ⟨ob,k _ _ (.inl rfl) e⟩
 | xd fs=>obtain ⟨mA,⟨od,es,ep,e,c⟩,r⟩:=x; exact ⟨mA,⟨od,es,ep,k _ _ (.inl rfl) e,c⟩,r⟩
 | rng lo hi=>obtain ⟨t,u,v,e⟩:=x; exact ⟨t,u,v,k _ _ (.inl rfl) e⟩
 | frz ob u ih=>obtain ⟨e,q⟩:=x; exact ⟨k _ _ (.inl rfl) e,ih q⟩
 | tbl ps=>
  have e:h.get? a=some { cls:=.none,data:=.fields ps }:=x
  show h'.get? a=some { cls:=.none,data:=.fields ps }
  exact k a _ (.inl rfl) e
 | met f y=>
  have e:h.get? a=some (PySem.W.methodObj (.ref f) (.ref y)):=x
  show h'.get? a=some (PySem.W.methodObj (.ref f) (.ref y))
  exact k a _ (.inl rfl) e
 | ext φ=>obtain ⟨p,⟨o,e⟩,st⟩:=x; exact ⟨st _ _ p λo q=>k _ _ (.inl rfl) q,⟨o,k _ _ (.inl rfl) e⟩,st⟩
theorem HOk.lt (x:HOk P w H h) (e:H a=some o):a<h.objs.size:=(x a o e).lt
theorem HOk.fresh (x:HOk P w H h) (e:h.objs.size<=a):H a=none:=by
 cases q:H a with
 | none=>rfl
 | some u=>exact absurd (Nat.lt_of_lt_of_le (x.lt q) e) (Nat.lt_irrefl _)
theorem HOk.kept (x:HOk P w H h) (k:∀ b u,h.get? b=some u->h'.get? b=some u):HOk P w H h':=λa o e=>
 (x a o e).stay (λb u _ q=>k b u q) (λ_ q=>q) λ_ _ q=>q
theorem HOk.laid (x:HOk P w H h) (k:∀ b u,h.get? b=some u->h'.get? b=some u) (hp:h.objs.size<=a) (new:pd P w (upd H a o) h' a o):HOk P w (upd H a o) h':=λb u e=>by
 have hn:=x.fresh hp
 by_cases hb:b=a
 ·subst hb; rw [ac] at e; cases e; exact new
 ·rw [ao hb] at e
  exact (x b u e).stay (λc v _ q=>k c v q) (λc q=>by rw [ao (ah q hn)]; exact q) λc xs q=>by rw [ao (ah q hn)]; exact q
end
def Rd (H:Hp) (a:Addr) (u:HO):Prop:=H a=some u\/∃ o,H a=some (.frz o u)
theorem Rd.ok {P:Program} {w:World} {H:Hp} {h:Heap} {a:Addr} {u:HO} (r:Rd H a u) (x:HOk P w H h):pd P w H h a u:=by
 rcases r with r | ⟨o,r⟩
 ·exact x a u r
 ·obtain ⟨_,q⟩:=x a _ r
  exact q
def Mut:Option HO->Prop
 | some (.lst _)=>True
 | some (.dK _)=>True
 | some (.dT _)=>True
 | some (.set _ _)=>True
 | some (.ins _ _ _)=>True
 | some (.ext _)=>True
 | _=>False
section
variable {P:Program} {w:World} {H:Hp} {h h':Heap} {x e:Addr} {o':HO}
theorem HOk.write (ok:HOk P w H h) (mu:Mut (H x)) (he:e=x\/H e=some (.own x)) (k:∀ b u,b ≠ e->h.get? b=some u->h'.get? b=some u) (heo:∃ u,h'.get? e=some u)
  (new:pd P w (upd H x o') h' x o'):HOk P w (upd H x o') h':=λb u q=>by
 have nown:∀ c y,H c=some (.own y)->c ≠ x:=λc y r z=>by subst z; rw [r] at mu; exact mu
 have ntup:∀ c xs,H c=some (.tup xs)->c ≠ x:=λc xs r z=>by subst z; rw [r] at mu; exact mu
 by_cases hb:b=x
 ·subst hb; rw [ac] at q; cases q; exact new
 ·rw [ao hb] at q
  by_cases hbe:b=e
  ·have q':H b=some (.own x):=by
    rcases he with z | z
    ·exact absurd (hbe.trans z) hb
    ·rw [hbe]; exact z
   rw [q] at q'; cases q'
   obtain ⟨v,hv⟩:=heo
   exact ⟨v,by rw [hbe]; exact hv⟩
  ·refine (ok b u q).stay (λc v hc r=>k c v ?_ r) (λc r=>by rw [ao (nown c b r)]; exact r) λc xs r=>by rw [ao (ntup c xs r)]; exact r
   rcases hc with rfl | hc
   ·exact hbe
   ·rintro rfl
    rcases he with z | z
    ·exact nown c b hc z
    ·rw [hc] at z; cases z; exact hb rfl
end
structure Un (fs ex:List Addr) (H H':Hp) (h h':Heap):Prop where
 keep:∀ b o,h.get? b=some o->H b=none->b ∉ fs->b ∉ ex->h'.get? b=some o
 slot:∀ b o,h.get? b=some o->H b=none->b ∈ fs->b ∉ ex->∃ sl,h'.get? b=some { o with slots:=sl }
 free:∀ b o,h.get? b=some o->H b=none->b ∉ ex->H' b=none
 there:∀ b o,h.get? b=some o->b ∉ ex->∃ o',h'.get? b=some o'
 tups:∀ b xs,H b=some (.tup xs)->H' b=some (.tup xs)
 frzs:∀ b o u,H b=some (.frz o u)->H' b=some (.frz o u)
 tbls:∀ b ps,H b=some (.tbl ps)->∃ more,H' b=some (.tbl (ps++more))
section
variable {fs fs' ex ex':List Addr} {H H1 H2:Hp} {h h1 h2 h':Heap} {a x e:Addr} {o:HO}
theorem Un.any (u:Un fs ex H H1 h h1) {b:Addr} {ob:Obj} (q:h.get? b=some ob) (n:H b=none) (hx:b ∉ ex):∃ sl,h1.get? b=some { ob with slots:=sl }:=by
 by_cases hb:b ∈ fs
 ·exact u.slot b ob q n hb hx
 ·exact ⟨ob.slots,u.keep b ob q n hb hx⟩
theorem Un.kept (k:∀ b u,h.get? b=some u->h'.get? b=some u):Un fs ex H H h h':=
 ⟨λb ob q _ _ _=>k b ob q,λb ob q _ _ _=>⟨ob.slots,k b ob q⟩,λ_ _ _ n _=>n,λb ob q _=>⟨ob,k b ob q⟩,λ_ _ q=>q,λ_ _ _ q=>q,λ_ ps q=>⟨#[],by rw [q]; simp⟩⟩
theorem Un.refl:Un fs ex H H h h:=Un.kept λ_ _ q=>q
theorem Un.laid (k:∀ b u,h.get? b=some u->h'.get? b=some u) (hp:h.objs.size<=a) (hn:H a=none):Un fs ex H (upd H a o) h h' where
 keep:=λb u q _ _ _=>k b u q
 slot:=λb u q _ _ _=>⟨u.slots,k b u q⟩
 free:=λb u q n _=>by rw [ao (Nat.ne_of_lt (Nat.lt_of_lt_of_le (lt_size q) hp))]; exact n
 there:=λb u q _=>⟨u,k b u q⟩
 tups:=λb xs q=>by rw [ao (ah q hn)]; exact q
 frzs:=λb u xs q=>by rw [ao (ah q hn)]; exact q
 tbls:=λb ps q=>⟨#[],by rw [ao (ah q hn),q]; simp⟩
theorem Un.write (mu:Mut (H x)) (he:e=x\/H e=some (.own x)) (k:∀ b u,b ≠ e->h.get? b=some u->h'.get? b=some u) (heo:∃ u,h'.get? e=some u):Un fs ex H (upd H x o) h h':=by
 have hx:∀ b,H b=none->b ≠ x:=λb n z=>by subst z; rw [n] at mu; exact mu
 have hb:∀ b,H b=none->b ≠ e:=λb n z=>by
  subst z
  rcases he with r | r
  ·exact hx b n r
  ·rw [n] at r; cases r
 have hm:∀ b u,H b=some u->¬ Mut (some u)->b ≠ x:=λb u q nm z=>by subst z; rw [q] at mu; exact nm mu
 refine ⟨λb u q n _ _=>k b u (hb b n) q,λb u q n _ _=>⟨u.slots,k b u (hb b n) q⟩,λb u q n _=>by rw [ao (hx b n)]; exact n,λb u q _=>?_,
  λb xs q=>by rw [ao (hm b _ q λz=>z)]; exact q,λb u xs q=>by rw [ao (hm b _ q λz=>z)]; exact q,λb ps q=>⟨#[],by rw [ao (hm b _ q λz=>z),q]; simp⟩⟩
 by_cases hbe:b=e
 ·subst hbe; exact heo
 ·exact ⟨u,k b u hbe q⟩
end
def trk (h:Heap) (H:Hp):List Addr:=(List.range h.objs.size).filter λa=>(H a).isSome
def nS (h:Heap) (H:Hp):Heap:=PySem.W.hideAll h (trk h H)
theorem hidT_size (h:Heap) (H:Hp):(nS h H).objs.size=h.objs.size:=PySem.W.hideAll_size _ _
theorem hidT_get {h:Heap} {H:Hp} {b:Addr} {o:Obj} (e:h.get? b=some o) (n:H b=none):(nS h H).get? b=some o:=
 hideAll_get _ e λhm=>by
  have q:(H b).isSome=true:=(List.mem_filter.mp hm).2
  rw [n] at q; simp at q
theorem of_hidT {h:Heap} {H:Hp} {b:Addr} {o:Obj} (e:(nS h H).get? b=some o):h.get? b=some o/\H b=none:=by
 have e':h.get? b=some o:=PySem.W.of_hideAll (trk h H) e
 refine ⟨e',?_⟩
 cases q:H b with
 | none=>rfl
 | some x=>
  have hm:b ∈ trk h H:=List.mem_filter.mpr ⟨List.mem_range.mpr (lt_size e'),by simp [q]⟩
  have z:(nS h H).get? b=none:=PySem.W.hideAll_none (trk h H) hm
  rw [z] at e; cases e
structure Mod (K:Frag) (mg:Str->Option Value) (base:Heap):Prop where
 kin:K.In base
 glob:base.Ns mainGlobals mg
 blt:∃ mb,base.Ns builtinsNs mb/\∀ x:Str,x ≠ "__name__"->mb x=bootBuiltins x
 nolimit:base.NoLimit
structure Cx where
 prog:Program
 w:World
 K:Frag
 mg:Str->Option Value
 base:Heap
 A:Around
 N:List Str
 s₀:Shared
 H₀:Hp
 env:Env
 outer:List Env
 stack:List Env
 ex:List Addr
 fn:Str->Bool
 calm:Bool
 pn:List (Addr × Obj)
 xe:Value->Shared->Prop
def frs (l:List Env):List Addr:=l.filterMap (·.frame)
abbrev Cx.fs (X:Cx):List Addr:=frs X.outer
def Vis (sc:Scope) (x:Str):Prop:=sc.names.lookup x=some .local\/sc.names.lookup x=some .cell\/sc.names.lookup x=some .free
def Loc (sc:Scope) (x:Str):Prop:=sc.names.lookup x=some .local\/sc.names.lookup x=some .cell
def Look (env:Env) (h:Heap) (m:Str->Option Value) (x:Str) (u:Value):Prop:=
 (env.kindOf x=some .local/\m x=some u)\/((env.kindOf x=some .cell\/env.kindOf x=some .free)/\∃ c,env.cells.lookup x=some c/\h.IsCell c (some u))
structure Cx.Ok (X:Cx):Prop where
 mod:Mod X.K X.mg X.base
 kind:X.env.scope.kind=.function
 glob:X.env.globals=mainGlobals
 blt:X.env.builtins=builtinsNs
 above:X.s₀.heap.objs.size<=X.env.locals
 inj:∀ x y c,X.env.cells.lookup x=some c->X.env.cells.lookup y=some c->x=y
 has:∀ x,(X.env.kindOf x=some .cell\/X.env.kindOf x=some .free)->∃ c,X.env.cells.lookup x=some c
 cab:∀ x c,X.fn x=true->X.env.cells.lookup x=some c->X.s₀.heap.objs.size<=c
 hd:X.calm=true->X.A.handled=none
 frames:X.A.frames=some X.stack
 stk:X.stack=X.outer\/(X.stack=X.env::X.outer/\X.env.frame=some X.env.locals)
 exf:∀ b ∈ X.ex,b ≠ X.env.locals/\∀ x c,X.env.cells.lookup x=some c->c ≠ b
 bs:∀ b o,X.base.get? b=some o->X.s₀.heap.get? b=some o/\X.H₀ b=none
 bsz:X.base.objs.size<=X.s₀.heap.objs.size
 noex:∀ b o,X.base.get? b=some o->b ∉ X.ex
 exfs:∀ b ∈ X.ex,b ∉ X.fs
 funs:X.s₀.heap.FunFrames X.base X.outer
 frf:∀ b ∈ X.fs,X.H₀ b=none
structure Inv (X:Cx) (pins:List (Addr × Obj)) (σ:List (Option V)) (H:Hp) (s:Shared):Prop where
 ok:X.Ok
 os:s.os=X.s₀.os
 bare:AllBare s.gens
 base:Un X.fs X.ex X.H₀ H X.s₀.heap s.heap
 loc:∃ m,s.heap.Ns X.env.locals m/\∀ (i:Nat) (x:Str) (v:V),X.N[i]? = some x->σ[i]? = some (some v)->Vis X.env.scope x->∃ u,o4 v u/\Look X.env s.heap m x u
 cell:∀ x c,X.env.cells.lookup x=some c->∃ v,s.heap.IsCell c v
 free:H X.env.locals=none
 freeC:∀ x c,X.env.cells.lookup x=some c->H c=none
 pin:∀ p ∈ X.pn++pins,s.heap.get? p.1=some p.2/\H p.1=none/\p.1 ≠ X.env.locals/\p.1 ∉ X.fs/\∀ v,p.2.data ≠ .cell v
 hok:HOk X.prog X.w H s.heap
 len:σ.length=X.N.length
section
variable {X:Cx} {pins:List (Addr × Obj)} {σ:List (Option V)} {H H':Hp} {s:Shared} {h':Heap}
theorem Cx.Ok.nofr (ok:X.Ok) {b:Addr} {o:Obj} (e:X.base.get? b=some o):b ∉ X.fs:=λhb=>by
 have:=(ok.funs.mem hb).1
 rw [e] at this; cases this
theorem Inv.bs (I:Inv X pins σ H s):∀ b o,X.base.get? b=some o->s.heap.get? b=some o/\H b=none:=λb o e=>
 ⟨I.base.keep b o (I.ok.bs b o e).1 (I.ok.bs b o e).2 (I.ok.nofr e) (I.ok.noex b o e),I.base.free b o (I.ok.bs b o e).1 (I.ok.bs b o e).2 (I.ok.noex b o e)⟩
theorem Inv.bk (I:Inv X pins σ H s):∀ b o,X.base.get? b=some o->s.heap.get? b=some o:=λb o e=>(I.bs b o e).1
theorem Inv.mod (I:Inv X pins σ H s):Mod X.K X.mg X.base:=I.ok.mod
theorem Inv.kIn (I:Inv X pins σ H s):X.K.In s.heap:=I.ok.mod.kin.keeps I.bk
theorem Inv.lt (I:Inv X pins σ H s):X.env.locals<s.heap.objs.size:=let ⟨_,hn,_⟩:=I.loc; hn.lt
theorem Inv.sz (I:Inv X pins σ H s):X.s₀.heap.objs.size<=s.heap.objs.size:=Nat.le_trans I.ok.above (Nat.le_of_lt I.lt)
theorem Inv.nofs (I:Inv X pins σ H s) {a:Addr} (h:s.heap.objs.size<=a):a ∉ X.fs:=λhb=>by
 obtain ⟨_,o,ho,_⟩:=I.ok.funs.mem hb
 exact absurd (Nat.lt_of_lt_of_le (lt_size ho) (Nat.le_trans I.sz h)) (Nat.lt_irrefl _)
theorem Inv.cne (I:Inv X pins σ H s):∀ x c,X.env.cells.lookup x=some c->c ≠ X.env.locals:=λx c e z=>by
 obtain ⟨v,o,ho,hd⟩:=I.cell x c e
 obtain ⟨m,⟨o',es,ep,ho',hd',_⟩,_⟩:=I.loc
 rw [z,ho'] at ho; cases ho; rw [hd'] at hd; cases hd
theorem Inv.funs (I:Inv X pins σ H s):s.heap.FunFrames X.base X.outer:=by
 have all:∀ (l:List Env),(∀ b ∈ frs l,b ∈ X.fs)->X.s₀.heap.FunFrames X.base l->s.heap.FunFrames X.base l:=by
  intro l
  induction l with
  | nil=>intro _ _; trivial
  | cons env r ih=>
   intro hs hl
   obtain ⟨hk,⟨L,o,hf,hn,ho,hd⟩,hr⟩:=hl
   have hL:L ∈ X.fs:=hs L (by unfold frs; rw [filterMap_cons,hf]; exact mem_cons_self)
   obtain ⟨sl,e⟩:=I.base.slot L o ho (I.ok.frf L hL) hL λz=>I.ok.exfs L z hL
   exact ⟨hk,⟨L,_,hf,hn,e,hd⟩,ih (λb hb=>hs b (by unfold frs; rw [filterMap_cons,hf]; exact mem_cons_of_mem _ hb)) hr⟩
 exact all X.outer (λ_ hb=>hb) I.ok.funs
theorem Inv.stack (I:Inv X pins σ H s):s.heap.FunFrames X.base X.stack:=by
 rcases I.ok.stk with e | ⟨e,hf⟩
 ·rw [e]; exact I.funs
 ·rw [e]
  obtain ⟨m,hn,_⟩:=I.loc
  refine .cons (by rw [I.ok.kind]; decide) hf hn ?_ I.funs
  exact Heap.get?_none_of_le (Nat.le_trans I.ok.bsz I.ok.above)
theorem Inv.stkSub (I:Inv X pins σ H s):∀ b ∈ frs X.stack,b ∈ X.env.locals::X.fs:=λb hb=>by
 rcases I.ok.stk with e | ⟨e,hf⟩
 ·rw [e] at hb; exact mem_cons_of_mem _ hb
 ·rw [e] at hb
  unfold frs at hb
  rw [filterMap_cons,hf] at hb
  exact hb
theorem Inv.stkFree (I:Inv X pins σ H s):∀ b ∈ frs X.stack,H b=none:=λb hb=>by
 rcases List.mem_cons.mp (I.stkSub b hb) with e | hb
 ·rw [e]; exact I.free
 ·obtain ⟨_,o,ho,_⟩:=I.ok.funs.mem hb
  exact I.base.free b o ho (I.ok.frf b hb) λz=>I.ok.exfs b z hb
theorem Inv.step {g':Array GenState} {t':Nat} {d':Drawn} {ch:List Addr} (I:Inv X pins σ H s)
  (hch:∀ b ∈ ch,(b ∈ X.ex\/X.s₀.heap.objs.size<=b)/\b ≠ X.env.locals/\(∀ x c,X.env.cells.lookup x=some c->c ≠ b)/\∀ p ∈ X.pn++pins,p.1 ≠ b)
  (keep:∀ b o,b ≠ X.env.locals->b ∉ X.fs->b ∉ ch->s.heap.get? b=some o->H b=none->h'.get? b=some o)
  (slot:∀ b o,b ≠ X.env.locals->b ∈ X.fs->b ∉ ch->s.heap.get? b=some o->H b=none->∃ sl,h'.get? b=some { o with slots:=sl }) (free:∀ b o,b ∉ ch->s.heap.get? b=some o->H b=none->H' b=none)
  (there:∀ b o,b ∉ ch->s.heap.get? b=some o->∃ o',h'.get? b=some o')
  (tups:∀ b xs,H b=some (.tup xs)->H' b=some (.tup xs)) (frzs:∀ b o u,H b=some (.frz o u)->H' b=some (.frz o u)) (tbls:∀ b ps,H b=some (.tbl ps)->∃ more,H' b=some (.tbl (ps++more)))
  (ns:∀ m,s.heap.Ns X.env.locals m->h'.Ns X.env.locals m) (hok:HOk X.prog X.w H' h') (hg:AllBare g') :
  Inv X pins σ H' { s with heap:=h',gens:=g',drawn:=d',toks:=t' }:=by
 have neL:∀ b o,X.s₀.heap.get? b=some o->b ≠ X.env.locals:=λb o e=>Nat.ne_of_lt (Nat.lt_of_lt_of_le (lt_size e) I.ok.above)
 have neC:∀ b o,X.s₀.heap.get? b=some o->b ∉ X.ex->b ∉ ch:=λb o e hx hb=>by
  rcases (hch b hb).1 with z | z
  ·exact hx z
  ·exact absurd (Nat.lt_of_lt_of_le (lt_size e) z) (Nat.lt_irrefl _)
 have cellK:∀ x c,X.env.cells.lookup x=some c->∀ v,s.heap.IsCell c v->h'.IsCell c v:=λx c e v ⟨o,ho,hd⟩=>by
  have nch:c ∉ ch:=λz=>(hch c z).2.2.1 x c e rfl
  by_cases hc:c ∈ X.fs
  ·obtain ⟨sl,q⟩:=slot c o (I.cne x c e) hc nch ho (I.freeC x c e)
   exact ⟨_,q,hd⟩
  ·exact ⟨o,keep c o (I.cne x c e) hc nch ho (I.freeC x c e),hd⟩
 refine ⟨I.ok,I.os,hg,⟨λb o e n hb hx=>?_,λb o e n hb hx=>?_,λb o e n hx=>?_,λb o e hx=>?_,λb xs e=>tups b xs (I.base.tups b xs e),λb o xs e=>frzs b o xs (I.base.frzs b o xs e),λb ps e=>?_⟩,?_,λx c e=>?_,?_,λx c e=>?_,λp hp=>?_,hok,I.len⟩
 ·exact keep b o (neL b o e) hb (neC b o e hx) (I.base.keep b o e n hb hx) (I.base.free b o e n hx)
 ·obtain ⟨sl,e1⟩:=I.base.slot b o e n hb hx
  obtain ⟨sl',e2⟩:=slot b _ (neL b o e) hb (neC b o e hx) e1 (I.base.free b o e n hx)
  exact ⟨sl',e2⟩
 ·obtain ⟨o',e1⟩:=I.base.there b o e hx
  exact free b o' (neC b o e hx) e1 (I.base.free b o e n hx)
 ·obtain ⟨o',e1⟩:=I.base.there b o e hx
  exact there b o' (neC b o e hx) e1
 ·obtain ⟨m1,e1⟩:=I.base.tbls b ps e
  obtain ⟨m2,e2⟩:=tbls b _ e1
  exact ⟨m1++m2,by rw [e2,Array.append_assoc]⟩
 ·obtain ⟨m,hn,hl⟩:=I.loc
  refine ⟨m,ns m hn,λi x v e1 e2 e3=>?_⟩
  obtain ⟨u,r,l⟩:=hl i x v e1 e2 e3
  refine ⟨u,r,?_⟩
  rcases l with l | ⟨k,c,e,z⟩
  ·exact .inl l
  ·exact .inr ⟨k,c,e,cellK x c e _ z⟩
 ·obtain ⟨v,z⟩:=I.cell x c e
  exact ⟨v,cellK x c e v z⟩
 ·obtain ⟨m,⟨o,_,_,ho,_⟩,_⟩:=I.loc
  exact free _ o (λz=>(hch _ z).2.1 rfl) ho I.free
 ·obtain ⟨v,o,ho,hd⟩:=I.cell x c e
  exact free c o (λz=>(hch c z).2.2.1 x c e rfl) ho (I.freeC x c e)
 ·obtain ⟨e,n,ne,nf,d⟩:=I.pin p hp
  have nch:p.1 ∉ ch:=λz=>(hch p.1 z).2.2.2 p hp rfl
  exact ⟨keep p.1 p.2 ne nf nch e n,free p.1 p.2 nch e n,ne,nf,d⟩
theorem Inv.un {t':Nat} (I:Inv X pins σ H s) (u:Un X.fs [] H H' s.heap h') (hok:HOk X.prog X.w H' h'):Inv X pins σ H' { s with heap:=h',toks:=t' }:=by
 obtain ⟨m,⟨o,es,ep,ho,r⟩,_⟩:=id I.loc
 obtain ⟨sl,hL⟩:=u.any ho I.free (by simp)
 exact I.step (g':=s.gens) (d':=s.drawn) (ch:=[]) (λ_ z=>nomatch z) (λb o _ hb _ e n=>u.keep b o e n hb (by simp)) (λb o _ hb _ e n=>u.slot b o e n hb (by simp)) (λb o _ e n=>u.free b o e n (by simp)) (λb o _ e=>u.there b o e (by simp)) u.tups u.frzs u.tbls (λm' hm=>by
  obtain ⟨o',es',ep',ho',r'⟩:=hm
  rw [ho] at ho'; cases ho'
  exact ⟨_,es',ep',hL,r'⟩) hok I.bare
theorem Inv.call {g':Array GenState} {t':Nat} {d':Drawn} {ch:List Addr} (I:Inv X pins σ H s) (u:Un (frs X.stack) ch H H' s.heap h') (hok:HOk X.prog X.w H' h') (hg:AllBare g')
  (hch:∀ b ∈ ch,(b ∈ X.ex\/X.s₀.heap.objs.size<=b)/\b ≠ X.env.locals/\(∀ x c,X.env.cells.lookup x=some c->c ≠ b)/\∀ p ∈ X.pn++pins,p.1 ≠ b) :
  Inv X pins σ H' { s with heap:=h',gens:=g',drawn:=d',toks:=t' }:=by
 obtain ⟨m,⟨o,es,ep,ho,r⟩,_⟩:=id I.loc
 obtain ⟨sl,hL⟩:=u.any ho I.free λz=>(hch _ z).2.1 rfl
 exact I.step (ch:=ch) hch (λb o hL hb hc e n=>u.keep b o e n (λz=>(List.mem_cons.mp (I.stkSub b z)).elim hL hb) hc) (λb o _ _ hc e n=>u.any e n hc) (λb o hc e n=>u.free b o e n hc) (λb o hc e=>u.there b o e hc) u.tups u.frzs u.tbls (λm' hm=>by
  obtain ⟨o',es',ep',ho',r'⟩:=hm
  rw [ho] at ho'; cases ho'
  exact ⟨_,es',ep',hL,r'⟩) hok hg
theorem Inv.turned {t':Nat} {it:Addr} (I:Inv X pins σ H s) (k:∀ b o,b ≠ it->s.heap.get? b=some o->h'.get? b=some o) (hn:H it=none) (hL:it ≠ X.env.locals)
  (h1:it ∈ X.ex\/X.s₀.heap.objs.size<=it) (h2:∀ x c,X.env.cells.lookup x=some c->c ≠ it) (h3:∀ p ∈ X.pn++pins,p.1 ≠ it):Inv X pins σ H { s with heap:=h',toks:=t' }:=by
 have nit:∀ b u,H b=some u->b ≠ it:=λb u e z=>by rw [z,hn] at e; cases e
 refine I.step (g':=s.gens) (d':=s.drawn) (ch:=[it]) (λb hb=>?_) (λb o _ _ hc e _=>k b o (λz=>hc (by simp [z])) e) (λb o _ _ hc e _=>⟨o.slots,k b o (λz=>hc (by simp [z])) e⟩) (λ_ _ _ _ n=>n)
  (λb o hc e=>⟨o,k b o (λz=>hc (by simp [z])) e⟩) (λ_ _ e=>e) (λ_ _ _ e=>e) (λb ps e=>⟨#[],by rw [e]; simp⟩) (λm hm=>?_) (λb u e=>?_) I.bare
 ·have e:b=it:=by simpa using hb
  subst e
  exact ⟨h1,hL,h2,h3⟩
 ·obtain ⟨o,es,ep,ho,r⟩:=hm
  exact ⟨o,es,ep,k _ o (Ne.symm hL) ho,r⟩
 ·refine (I.hok b u e).stay (λc v hc q=>k c v ?_ q) (λ_ q=>q) λ_ _ q=>q
  rcases hc with z | z
  ·rw [z]; exact nit b u e
  ·exact nit c _ z
theorem Inv.tok (I:Inv X pins σ H s) (t:Nat):Inv X pins σ H { s with toks:=t }:=I.un (h':=s.heap) (t':=t) Un.refl I.hok
theorem Inv.kept {t':Nat} (I:Inv X pins σ H s) (k:∀ b u,s.heap.get? b=some u->h'.get? b=some u):Inv X pins σ H { s with heap:=h',toks:=t' }:=I.un (Un.kept k) (I.hok.kept k)
theorem Inv.laid {a:Addr} {o:HO} {t':Nat} (I:Inv X pins σ H s) (k:∀ b u,s.heap.get? b=some u->h'.get? b=some u) (hp:s.heap.objs.size<=a) (new:pd X.prog X.w (upd H a o) h' a o) :
  Inv X pins σ (upd H a o) { s with heap:=h',toks:=t' }:=I.un (Un.laid k hp (I.hok.fresh hp)) (I.hok.laid k hp new)
theorem Inv.write {x e:Addr} {o:HO} {t':Nat} (I:Inv X pins σ H s) (mu:Mut (H x)) (he:e=x\/H e=some (.own x)) (k:∀ b u,b ≠ e->s.heap.get? b=some u->h'.get? b=some u) (heo:∃ u,h'.get? e=some u)
  (new:pd X.prog X.w (upd H x o) h' x o):Inv X pins σ (upd H x o) { s with heap:=h',toks:=t' }:=I.un (Un.write mu he k heo) (I.hok.write mu he k heo new)
theorem Inv.pins_of {pins':List (Addr × Obj)} (I:Inv X pins σ H s) (h:∀ p ∈ pins',s.heap.get? p.1=some p.2/\H p.1=none/\p.1 ≠ X.env.locals/\p.1 ∉ X.fs/\∀ v,p.2.data ≠ .cell v):Inv X pins' σ H s:=
 ⟨I.ok,I.os,I.bare,I.base,I.loc,I.cell,I.free,I.freeC,λp hp=>(List.mem_append.mp hp).elim (λz=>I.pin p (mem_append_left _ z)) (h p),I.hok,I.len⟩
theorem nodup_ix {N:List Str} (hN:N.Nodup) {i j:Nat} {x:Str} (a:N[i]? = some x) (b:N[j]? = some x):i=j:=by
 obtain ⟨h1,e1⟩:=List.getElem?_eq_some_iff.mp a
 obtain ⟨h2,e2⟩:=List.getElem?_eq_some_iff.mp b
 exact (getElem_inj hN).mp (e1.trans e2.symm)
theorem mE {M:Model} {A:Around} {E:Value->Shared->Prop} {i:Nat} {x:Str} {v:V} {u:Value} {Q:Unit->Shared->Prop} (I:Inv X pins σ H s) (hN:X.N.Nodup) (hi:X.N[i]? = some x) (hx:Loc X.env.scope x) (r:o4 v u)
  (h:∀ s',Inv X pins (σ.set i (some v)) H s'->(∃ a,Heap.SameBut a s.heap s'.heap/\(a=X.env.locals\/X.env.cells.lookup x=some a))->Q () s') (hf:X.fn x=true\/X.env.scope.names.lookup x=some .local:=by first | exact .inl rfl | exact .inr rfl | assumption):wpAny M A (storeName X.env x u) Q E s:=by
 obtain ⟨m,hn,hl⟩:=id I.loc
 have hcls:(X.env.scope.kind == .class || (X.env.scope.kind == .module && X.env.locals != X.env.globals))=false:=by rw [I.ok.kind]; rfl
 have hiσ:i<σ.length:=by rw [I.len]; exact (List.getElem?_eq_some_iff.mp hi).1
 have cne:=I.cne
 have tracked:∀ {a:Addr} {h':Heap},(∃ o,s.heap.get? a=some o/\H a=none)->Heap.SameBut a s.heap h'->HOk X.prog X.w H h':=λ{a h'} ha hs b ob e=>by
  obtain ⟨_,_,hfree⟩:=ha
  refine (I.hok b ob e).stay (λc w' hc q=>(hs.2 c ?_).trans q) (λ_ q=>q) λ_ _ q=>q
  rintro rfl
  rcases hc with rfl | hc
  ·rw [hfree] at e; cases e
  ·rw [hfree] at hc; cases hc
 rcases hx with hk | hk
 ·refine wpAny_storeName_local hk hn (λh' hn' hs=>?_) hcls
  obtain ⟨oL,_,_,hoL,_⟩:=id hn
  refine h _ ⟨I.ok,I.os,I.bare,⟨λb o e n hb hx=>?_,λb o e n hb hx=>?_,I.base.free,λb o e hx=>?_,I.base.tups,I.base.frzs,I.base.tbls⟩,⟨_,hn',λj y v' e1 e2 e3=>?_⟩,λy c e=>?_,I.free,I.freeC,λp hp=>?_,tracked ⟨oL,hoL,I.free⟩ hs,by simpa using I.len⟩ ⟨_,hs,.inl rfl⟩
  ·exact (hs.2 b (Nat.ne_of_lt (Nat.lt_of_lt_of_le (lt_size e) I.ok.above))).trans (I.base.keep b o e n hb hx)
  ·obtain ⟨sl,e1⟩:=I.base.slot b o e n hb hx
   exact ⟨sl,(hs.2 b (Nat.ne_of_lt (Nat.lt_of_lt_of_le (lt_size e) I.ok.above))).trans e1⟩
  ·obtain ⟨o',e1⟩:=I.base.there b o e hx
   exact ⟨o',(hs.2 b (Nat.ne_of_lt (Nat.lt_of_lt_of_le (lt_size e) I.ok.above))).trans e1⟩
  ·by_cases hj:j=i
   ·subst hj
    rw [hi] at e1; cases e1
    rw [getElem?_set_self hiσ] at e2
    cases e2
    exact ⟨u,r,.inl ⟨hk,by simp⟩⟩
   ·rw [getElem?_set_ne (Ne.symm hj)] at e2
    obtain ⟨u',r',q⟩:=hl j y v' e1 e2 e3
    refine ⟨u',r',?_⟩
    rcases q with ⟨k,e⟩ | ⟨k,c,e,z⟩
    ·refine .inl ⟨k,?_⟩
     have:y ≠ x:=λe=>hj (nodup_ix hN e1 (e ▸ hi))
     simp [this,e]
    ·exact .inr ⟨k,c,e,z.sameBut hs (cne y c e)⟩
  ·obtain ⟨w',z⟩:=I.cell y c e
   exact ⟨w',z.sameBut hs (cne y c e)⟩
  ·obtain ⟨e,n,ne,nf,d⟩:=I.pin p hp
   exact ⟨(hs.2 p.1 ne).trans e,n,ne,nf,d⟩
 ·have hfn:X.fn x=true:=by
   rcases hf with z | z
   ·exact z
   ·rw [z] at hk; cases hk
  obtain ⟨c,hc⟩:=I.ok.has x (.inl hk)
  obtain ⟨w',z⟩:=I.cell x c hc
  refine wpAny_storeName_cell I.ok.kind hk hc z (λh' hc' hs=>?_)
  obtain ⟨oc,hoc,hocd⟩:=id z
  refine h { s with heap:=h' } ⟨I.ok,I.os,I.bare,⟨λb o e n hb hx=>?_,λb o e n hb hx=>?_,I.base.free,λb o e hx=>?_,I.base.tups,I.base.frzs,I.base.tbls⟩,⟨m,hn.sameBut hs (Ne.symm (cne x c hc)),λj y v' e1 e2 e3=>?_⟩,λy c' e=>?_,I.free,I.freeC,λp hp=>?_,tracked ⟨oc,hoc,I.freeC x c hc⟩ hs,by simpa using I.len⟩ ⟨c,hs,.inr hc⟩
  ·exact (hs.2 b (Nat.ne_of_lt (Nat.lt_of_lt_of_le (lt_size e) (I.ok.cab x c hfn hc)))).trans (I.base.keep b o e n hb hx)
  ·obtain ⟨sl,e1⟩:=I.base.slot b o e n hb hx
   exact ⟨sl,(hs.2 b (Nat.ne_of_lt (Nat.lt_of_lt_of_le (lt_size e) (I.ok.cab x c hfn hc)))).trans e1⟩
  ·obtain ⟨o',e1⟩:=I.base.there b o e hx
   exact ⟨o',(hs.2 b (Nat.ne_of_lt (Nat.lt_of_lt_of_le (lt_size e) (I.ok.cab x c hfn hc)))).trans e1⟩
  ·by_cases hj:j=i
   ·subst hj
    rw [hi] at e1; cases e1
    rw [getElem?_set_self hiσ] at e2
    cases e2
    exact ⟨u,r,.inr ⟨.inl hk,c,hc,hc'⟩⟩
   ·rw [getElem?_set_ne (Ne.symm hj)] at e2
    obtain ⟨u',r',q⟩:=hl j y v' e1 e2 e3
    refine ⟨u',r',?_⟩
    rcases q with q | ⟨k,c',e,z'⟩
    ·exact .inl q
    ·refine .inr ⟨k,c',e,z'.sameBut hs ?_⟩
     rintro rfl
     exact hj (nodup_ix hN e1 (I.ok.inj _ _ _ e hc ▸ hi))
  ·by_cases hcc:c'=c
   ·subst hcc; exact ⟨_,hc'⟩
   ·obtain ⟨w2,z2⟩:=I.cell y c' e
    exact ⟨w2,z2.sameBut hs hcc⟩
  ·obtain ⟨e,n,ne,nf,d⟩:=I.pin p hp
   refine ⟨(hs.2 p.1 ?_).trans e,n,ne,nf,d⟩
   intro q
   rw [q,hoc] at e
   have q':oc=p.2:=Option.some.inj e
   exact d w' (by rw [<- q']; exact hocd)
theorem iN {M:Model} {A:Around} {E:Value->Shared->Prop} {i:Nat} {x:Str} {v:V} {u:Value} {Q:Unit->Shared->Prop} (I:Inv X pins σ H s) (hN:X.N.Nodup) (hi:X.N[i]? = some x) (hx:Loc X.env.scope x) (r:o4 v u)
  (h:∀ s',Inv X pins (σ.set i (some v)) H s'->Q () s') (hf:X.fn x=true\/X.env.scope.names.lookup x=some .local:=by first | exact .inl rfl | exact .inr rfl | assumption):wpAny M A (storeName X.env x u) Q E s:=
 mE I hN hi hx r (λs' I' _=>h s' I') hf
theorem Inv.call' {s':Shared} {ch:List Addr} (I:Inv X pins σ H s) (ho:s'.os=s.os) (u:Un (frs X.stack) ch H H' s.heap s'.heap) (hok:HOk X.prog X.w H' s'.heap) (hg:AllBare s'.gens)
  (hch:∀ b ∈ ch,(b ∈ X.ex\/X.s₀.heap.objs.size<=b)/\b ≠ X.env.locals/\(∀ x c,X.env.cells.lookup x=some c->c ≠ b)/\∀ p ∈ X.pn++pins,p.1 ≠ b):Inv X pins σ H' s':=by
 obtain ⟨h',g',d',t',o'⟩:=s'
 have e:o'=s.os:=ho
 subst e
 exact I.call (g':=g') (t':=t') (d':=d') u hok hg hch
end
abbrev XK:=Value->Option Addr->Hp->Prop
abbrev St:=List (Option V)
abbrev VK:=V->Hp->Prop
abbrev TE:=St->Hp->VK->Prop
abbrev TT:=St->Hp->(Bool->Hp->Prop)->Prop
abbrev TA:=St->Hp->(List V->Hp->Prop)->Prop
structure fJ where
 nx:St->Hp->Prop
 rt:VK
 bk:St->Hp->Prop:=λ_ _=>False
 ct:St->Hp->Prop:=λ_ _=>False
abbrev TS:=fJ->St->Hp->Prop
def EP (X:Cx) (pins:List (Addr × Obj)) (σ:St) (Q:VK) (u:Value) (s':Shared):Prop:=∃ v H',Inv X pins σ H' s'/\o4 v u/\Q v H'
def TP (X:Cx) (pins:List (Addr × Obj)) (σ:St) (Q:Bool->Hp->Prop) (b:Bool) (s':Shared):Prop:=∃ H',Inv X pins σ H' s'/\Q b H'
def AP (X:Cx) (pins:List (Addr × Obj)) (σ:St) (Q:List V->Hp->Prop) (us:List Value) (s':Shared):Prop:=∃ vs H',Inv X pins σ H' s'/\o0 vs us/\Q vs H'
def SP (X:Cx) (pins:List (Addr × Obj)) (D:fJ) (f:Flow) (s':Shared):Prop:=
 match f with
 | .next=>∃ σ' H',Inv X pins σ' H' s'/\D.nx σ' H'
 | .brk=>∃ σ' H',Inv X pins σ' H' s'/\D.bk σ' H'
 | .cont=>∃ σ' H',Inv X pins σ' H' s'/\D.ct σ' H'
 | .ret u=>∃ v σ' H',Inv X pins σ' H' s'/\o4 v u/\D.rt v H'
def PE (X:Cx) (e:Expr) (t:TE):Prop:=
 ∀ (pins:List (Addr × Obj)) (s:Shared) (σ:St) (H:Hp) (Q:VK),Inv X pins σ H s->t σ H Q->wpAny (model X.prog X.w) X.A (eval e X.env) (EP X pins σ Q) X.xe s
def PT (X:Cx) (e:Expr) (t:TT):Prop:=
 ∀ (pins:List (Addr × Obj)) (s:Shared) (σ:St) (H:Hp) (Q:Bool->Hp->Prop),Inv X pins σ H s->t σ H Q->wpAny (model X.prog X.w) X.A (isTrue e X.env (eval e X.env)) (TP X pins σ Q) X.xe s
def PW (X:Cx) (e:Expr) (t:TT):Prop:=
 ∀ (whole:Sem Value) (pins:List (Addr × Obj)) (s:Shared) (σ:St) (H:Hp) (Q:Bool->Hp->Prop),Inv X pins σ H s->t σ H Q->wpAny (model X.prog X.w) X.A (isTrue e X.env whole) (TP X pins σ Q) X.xe s
theorem PW.pt {X:Cx} {e:Expr} {t:TT} (h:PW X e t):PT X e t:=h _
def PA (X:Cx) (es:List Expr) (t:TA):Prop:=
 ∀ (pos:Pos) (pins:List (Addr × Obj)) (s:Shared) (σ:St) (H:Hp) (Q:List V->Hp->Prop),Inv X pins σ H s->t σ H Q->wpAny (model X.prog X.w) X.A (spliced (backTo pos (starEach es X.env))) (AP X pins σ Q) X.xe s
def PS (X:Cx) (st:Stmt) (t:TS):Prop:=
 ∀ (pins:List (Addr × Obj)) (s:Shared) (σ:St) (H:Hp) (D:fJ),Inv X pins σ H s->t D σ H->wpAny (model X.prog X.w) X.A (exec st X.env) (SP X pins D) X.xe s
def PSs (X:Cx) (st:List Stmt) (t:TS):Prop:=
 ∀ (pins:List (Addr × Obj)) (s:Shared) (σ:St) (H:Hp) (D:fJ),Inv X pins σ H s->t D σ H->wpAny (model X.prog X.w) X.A (execs st X.env) (SP X pins D) X.xe s
theorem thn {α:Type} {t:Sem α} {Q Q':α->Shared->Prop} {M:Model} {A:Around} {E:Value->Shared->Prop} {s:Shared} (h:wpAny M A t Q E s) (hQ:∀ a s,Q a s->Q' a s):wpAny M A t Q' E s:=wpAny_mono h hQ λ_ _ x=>x
section
variable {X:Cx}
theorem bin {a b:Expr} {ta tb:TE} (ha:PE X a ta) (hb:PE X b tb) {pins:List (Addr × Obj)} {s:Shared} {σ:St} {H:Hp} {R:V->V->Hp->Prop} (I:Inv X pins σ H s) (h:ta σ H λx H1=>tb σ H1 λy H2=>R x y H2)
  {α:Type} {Q:α->Shared->Prop} {f:Value->Value->Sem α}
  (hf:∀ v u s2 x y H2,Inv X pins σ H2 s2->o4 x v->o4 y u->R x y H2->wpAny (model X.prog X.w) X.A (f v u) Q X.xe s2) :
  wpAny (model X.prog X.w) X.A (eval a X.env) (λv s₁=>wpAny (model X.prog X.w) X.A (eval b X.env) (λu s₂=>wpAny (model X.prog X.w) X.A (f v u) Q X.xe s₂) X.xe s₁) X.xe s:=by
 refine thn (ha pins s σ H _ I h) λv s1 ⟨x,H1,I1,r1,q1⟩=>?_
 refine thn (hb pins s1 σ H1 _ I1 q1) λu s2 ⟨y,H2,I2,r2,q2⟩=>?_
 exact hf v u s2 x y H2 I2 r1 r2 q2
def tVar (i:Nat):TE:=λσ H Q=>∃ v,σ[i]? = some (some v)/\Q v H
def tC (v:V):TE:=λ_ H Q=>Q v H
theorem pe_var {i:Nat} {x:Str} {pos:Pos} (hN:X.N[i]? = some x) (hv:Vis X.env.scope x) (hd:(x == ("__debug__" : Str))=false:=by decide) (hcd:(x == ("__classdict__" : Str))=false:=by decide):PE X (.Name x pos) (tVar i):=by
 intro pins s σ H Q I h
 obtain ⟨v,e,h⟩:=h
 obtain ⟨m,hn,hl⟩:=I.loc
 obtain ⟨u,r,l⟩:=hl i x v hN e hv
 have fin:EP X pins σ Q u s:=⟨v,H,I,r,h⟩
 rcases l with ⟨hk,hm⟩ | ⟨hk,c,hc,hcell⟩
 ·exact wpAny_Name (wpAny_loadName_local I.ok.kind hk hn hm fin) hd
 ·rcases hk with hk | hk
  ·exact wpAny_Name (wpAny_loadName_cell I.ok.kind hk hc hcell fin) hd
  ·exact wpAny_Name (wpAny_loadName_free I.ok.kind hk hc hcell fin hcd) hd
theorem af {i j pos}:PE X (.Constant (.int i) j pos) (tC (.int i)):=λ_ _ _ H _ I h=>wpAny_Constant_int ⟨.int i,H,I.tok _,⟨_,rfl⟩,h⟩
theorem bV {b j pos}:PE X (.Constant (.bool b) j pos) (tC (.bl b)):=λ_ _ _ H _ I h=>Constant_bool ⟨.bl b,H,I,rfl,h⟩
theorem pe_non {j pos}:PE X (.Constant .none j pos) (tC .non):=λ_ _ _ H _ I h=>Constant_none ⟨.non,H,I,rfl,h⟩
theorem pe_str {x j pos}:PE X (.Constant (.str x) j pos) (tC (.str x)):=λ_ _ _ H _ I h=>Calls.Constant_str ⟨.str x,H,I.tok _,⟨_,rfl⟩,h⟩
def Gl (X:Cx) (x:Str):Prop:=X.env.kindOf x=some .globalImplicit
theorem iX {E:Value->Shared->Prop} {pins:List (Addr × Obj)} {s:Shared} {σ:St} {H:Hp} {x:Str} {u:Value} {pos:Pos} {Q:Value->Shared->Prop} (I:Inv X pins σ H s) (hg:Gl X x) (hm:X.mg x=some u) (h:Q u s)
  (hd:(x == ("__debug__" : Str))=false:=by decide):wpAny (model X.prog X.w) X.A (eval (.Name x pos) X.env) Q E s:=
 Calls.Name_function_global I.ok.kind hg (Calls.loadGlobal_global (by rw [I.ok.glob]; exact I.mod.glob.keeps I.bk) hm h) hd
theorem gg {E:Value->Shared->Prop} {pins:List (Addr × Obj)} {s:Shared} {σ:St} {H:Hp} {x:Str} {u:Value} {pos:Pos} {Q:Value->Shared->Prop} (I:Inv X pins σ H s) (hg:Gl X x) (hm:X.mg x=none) (hv:bootBuiltins x=some u) (h:Q u s)
  (hn:x ≠ "__name__":=by decide) (hd:(x == ("__debug__" : Str))=false:=by decide):wpAny (model X.prog X.w) X.A (eval (.Name x pos) X.env) Q E s:=by
 obtain ⟨mb,h1,h2⟩:=I.mod.blt
 exact Calls.Name_function_global I.ok.kind hg (Calls.loadGlobal_builtin (by rw [I.ok.glob]; exact I.mod.glob.keeps I.bk) hm (by rw [I.ok.blt]; exact h1.keeps I.bk) ((h2 x hn).trans hv) h) hd
theorem jQ {x:Str} {v:V} {u:Value} {pos:Pos} (hg:Gl X x) (hm:X.mg x=some u) (r:o4 v u) (hd:(x == ("__debug__" : Str))=false:=by decide):PE X (.Name x pos) (tC v):=
 λ_ _ _ H _ I h=>iX I hg hm ⟨v,H,I,r,h⟩ hd
theorem pe_bltn {x:Str} {v:V} {u:Value} {pos:Pos} (hg:Gl X x) (hm:X.mg x=none) (hv:bootBuiltins x=some u) (r:o4 v u) (hn:x ≠ "__name__":=by decide) (hd:(x == ("__debug__" : Str))=false:=by decide):PE X (.Name x pos) (tC v):=
 λ_ _ _ H _ I h=>gg I hg hm hv ⟨v,H,I,r,h⟩ hn hd
variable {a b:Expr} {ta tb:TE} {pos:Pos}
def PC (X:Cx) (op:CmpOp) (a b:Expr) (t:TE):Prop:=
 ∀ (pins:List (Addr × Obj)) (s:Shared) (σ:St) (H:Hp) (Q:VK),Inv X pins σ H s->t σ H Q->
  wpAny (model X.prog X.w) X.A (eval a X.env) (λv s₁=>wpAny (model X.prog X.w) X.A (eval b X.env) (λu s₂=>wpAny (model X.prog X.w) X.A (compareOp op v u) (EP X pins σ Q) X.xe s₂) X.xe s₁) X.xe s
def tB (t:TE):TT:=λσ H Q=>t σ H λx H1=>∃ c,x=.bl c/\Q c H1
theorem pt_cmp {op:CmpOp} {t:TE} (h:PC X op a b t) (h1:behindInMarks op b=false:=by first | exact nobehind _ (by decide) (by decide) | rfl):PT X (.Compare a [op] [b] pos) (tB t):=by
 intro pins s σ H Q I hw
 refine wpAny_isTrue_Compare1 (thn (h pins s σ H _ I hw) λv s1 h1=>thn h1 λu s2 h2=>thn h2 λc s3 ⟨x,H1,I1,r1,q1⟩=>?_) h1
 obtain ⟨d,rfl,q⟩:=q1
 cases r1
 exact wpAny_truthy_bool ⟨H1,I1,q⟩
theorem bR {e:Expr} {t:TE} (h:PE X e t) (he:∀ whole,isTrue e X.env whole=(do let v <- whole; standAt e.pos; holding [v] (truthy v)):=by intro _; rfl):PT X e (tB t):=by
 intro pins s σ H Q I hw
 refine isTrue_plain (thn (h pins s σ H _ I hw) λv s1 ⟨x,H1,I1,r1,q1⟩=>?_) (he _)
 obtain ⟨d,rfl,q⟩:=q1
 cases r1
 exact wpAny_truthy_bool ⟨H1,I1,q⟩
variable {tA tB':TT} {rest:List Expr}
def tAnd (t u:TT):TT:=λσ H Q=>t σ H λc H1=>if c=true then u σ H1 Q else Q false H1
def tOr (t u:TT):TT:=λσ H Q=>t σ H λc H1=>if c=true then Q true H1 else u σ H1 Q
def tNot (t:TT):TT:=λσ H Q=>t σ H λc H1=>Q (!c) H1
theorem pw_and1 (ha:PT X a tA):PW X (.BoolOp .And [a] pos) tA:=by
 intro wh pins s σ H Q I h
 refine isTrue_and (thn (ha pins s σ H Q I h) λc s1 e=>?_)
 cases c with
 | true=>exact isTrue_and_nil e
 | false=>exact e
theorem ft (ha:PT X a tA):PW X (.BoolOp .Or [a] pos) tA:=by
 intro wh pins s σ H Q I h
 refine isTrue_or (thn (ha pins s σ H Q I h) λc s1 e=>?_)
 cases c with
 | false=>exact isTrue_or_nil e
 | true=>exact e
theorem pw_and (ha:PT X a tA) (hb:PW X (.BoolOp .And (b::rest) pos) tB'):PW X (.BoolOp .And (a::b::rest) pos) (tAnd tA tB'):=by
 intro wh pins s σ H Q I h
 refine isTrue_and (thn (ha pins s σ H _ I h) λc s1 ⟨H1,I1,q1⟩=>?_)
 cases c with
 | true=>exact hb wh pins s1 σ H1 Q I1 q1
 | false=>exact ⟨H1,I1,q1⟩
theorem fH (ha:PT X a tA) (hb:PW X (.BoolOp .Or (b::rest) pos) tB'):PW X (.BoolOp .Or (a::b::rest) pos) (tOr tA tB'):=by
 intro wh pins s σ H Q I h
 refine isTrue_or (thn (ha pins s σ H _ I h) λc s1 ⟨H1,I1,q1⟩=>?_)
 cases c with
 | true=>exact ⟨H1,I1,q1⟩
 | false=>exact hb wh pins s1 σ H1 Q I1 q1
theorem cE (ha:PT X a tA):PT X (.UnaryOp .Not a pos) (tNot tA):=by
 intro pins s σ H Q I h
 exact isTrue_not (ha pins s σ H (λc H1=>Q (!c) H1) I h)
def tAndV (ta tb:TE):TE:=λσ H Q=>ta σ H λx H1=>∃ c,x=.bl c/\if c=true then tb σ H1 Q else Q (.bl false) H1
def tOrV (ta tb:TE):TE:=λσ H Q=>ta σ H λx H1=>∃ c,x=.bl c/\if c=true then Q (.bl true) H1 else tb σ H1 Q
def tNotV (ta:TE):TE:=λσ H Q=>ta σ H λx H1=>∃ c,x=.bl c/\Q (.bl (!c)) H1
theorem jd {op} {t:TE} (h:PE X a t):PE X (.BoolOp op [a] pos) t:=λpins s σ H Q I hw=>BoolOp_one (h pins s σ H Q I hw)
theorem jW (ha:PE X a ta) (hb:PE X (.BoolOp .And (b::rest) pos) tb):PE X (.BoolOp .And (a::b::rest) pos) (tAndV ta tb):=by
 intro pins s σ H Q I h
 refine BoolOp_and (thn (ha pins s σ H _ I h) λv s1 ⟨x,H1,I1,r1,q1⟩=>?_)
 obtain ⟨c,rfl,q1⟩:=q1
 cases r1
 refine wpAny_truthy_bool ?_
 cases c with
 | true=>exact hb pins s1 σ H1 Q I1 q1
 | false=>exact ⟨.bl false,H1,I1,rfl,q1⟩
theorem pe_or (ha:PE X a ta) (hb:PE X (.BoolOp .Or (b::rest) pos) tb):PE X (.BoolOp .Or (a::b::rest) pos) (tOrV ta tb):=by
 intro pins s σ H Q I h
 refine BoolOp_or (thn (ha pins s σ H _ I h) λv s1 ⟨x,H1,I1,r1,q1⟩=>?_)
 obtain ⟨c,rfl,q1⟩:=q1
 cases r1
 refine wpAny_truthy_bool ?_
 cases c with
 | false=>exact hb pins s1 σ H1 Q I1 q1
 | true=>exact ⟨.bl true,H1,I1,rfl,q1⟩
theorem pe_not (ha:PE X a ta):PE X (.UnaryOp .Not a pos) (tNotV ta):=by
 intro pins s σ H Q I h
 refine UnaryOp_ (thn (ha pins s σ H _ I h) λv s1 ⟨x,H1,I1,r1,q1⟩=>?_)
 obtain ⟨c,rfl,q1⟩:=q1
 cases r1
 exact not_of (wpAny_truthy_bool ⟨.bl (!c),H1,I1,rfl,q1⟩)
def tIf (t:TT) (ta tb:TE):TE:=λσ H Q=>t σ H λc H1=>if c=true then ta σ H1 Q else tb σ H1 Q
theorem pe_ifExp {c:Expr} (hc:PT X c tA) (ha:PE X a ta) (hb:PE X b tb):PE X (.IfExp c a b pos) (tIf tA ta tb):=by
 intro pins s σ H Q I h
 refine wpAny_IfExp (thn (hc pins s σ H _ I h) λd s1 ⟨H1,I1,q1⟩=>?_)
 cases d with
 | true=>exact ha pins s1 σ H1 Q I1 q1
 | false=>exact hb pins s1 σ H1 Q I1 q1
end
def SqL (K:Frag) (H:Hp) (a:Addr) (xs:List V):Prop:=
 Rd H a (.lst xs) \/
  ∃ (o:Obj) (its:Array Value) (n:Nat),K.lookup a=some o/\o.cls=.type "list"/\o.dict=none/\o.data=.seq its n/\its.size<=sizeLine/\o0 xs its.toList
def SqT (K:Frag) (H:Hp) (a:Addr) (xs:List V):Prop:=
 Rd H a (.tup xs) \/
  ∃ (o:Obj) (its:Array Value) (n:Nat),K.lookup a=some o/\o.cls=.type "tuple"/\o.data=.seq its n/\its.size<=sizeLine/\o0 xs its.toList
def absV:Value->Option V
 | .none=>some .non
 | .bool b=>some (.bl b)
 | .int i _=>some (.int i)
 | .str x _=>some (.str x)
 | .bytes b _=>some (.byt b)
 | .float b _=>some (.flt b)
 | .ref a=>some (.ref a)
 | .type n=>some (.ty n)
 | _=>none
theorem o4.abs {x:V} {u:Value} (r:o4 x u):absV u=some x:=by
 cases x with
 | non=>cases r; rfl
 | bl _=>cases r; rfl
 | int _=>obtain ⟨t,rfl⟩:=r; rfl
 | str _=>obtain ⟨t,rfl⟩:=r; rfl
 | byt _=>obtain ⟨t,rfl⟩:=r; rfl
 | flt _=>obtain ⟨t,rfl⟩:=r; rfl
 | ref _=>cases r; rfl
 | ty _=>cases r; rfl
theorem o4.inj {x y:V} {u:Value} (r:o4 x u) (q:o4 y u):x=y:=Option.some.inj (r.abs.symm.trans q.abs)
theorem o0.inj:∀ {xs ys:List V} {us:List Value},o0 xs us->o0 ys us->xs=ys
 | _,_,_,.nil,.nil=>rfl
 | _,_,_,.cons r t,.cons r' t'=>by rw [r.inj r',o0.inj t t']
section
variable {X:Cx} {pins:List (Addr × Obj)} {σ:St} {H:Hp} {s:Shared} {a:Addr} {xs ys:List V}
theorem SqL.of {K:Frag} (h:H a=some (.lst xs)):SqL K H a xs:=.inl (.inl h)
theorem SqT.of {K:Frag} (h:H a=some (.tup xs)):SqT K H a xs:=.inl (.inl h)
theorem Inv.list (I:Inv X pins σ H s) (h:SqL X.K H a xs):∃ its:List Value,o0 xs its/\PlainL s.heap a its.toArray/\xs.length<=sizeLine:=by
 rcases h with h | ⟨o,its,n,hk,hc,hd,hs,hz,r⟩
 ·obtain ⟨z,its,n,r,e⟩:=h.ok I.hok
  exact ⟨its,r,⟨_,n,e,rfl,rfl,rfl⟩,z⟩
 ·refine ⟨its.toList,r,⟨o,n,I.kIn a o hk,hc,hd,by simpa using hs⟩,?_⟩
  have e:=r.length
  simp only [Array.length_toList] at e
  omega
theorem Inv.tuple (I:Inv X pins σ H s) (h:SqT X.K H a xs):∃ its:List Value,o0 xs its/\IsTup s.heap a its.toArray/\xs.length<=sizeLine:=by
 rcases h with h | ⟨o,its,n,hk,hc,hs,hz,r⟩
 ·obtain ⟨z,its,r,p⟩:=h.ok I.hok
  exact ⟨its,r,p,z⟩
 ·refine ⟨its.toList,r,⟨o,I.kIn a o hk,hc,n,by simpa using hs⟩,?_⟩
  have e:=r.length
  simp only [Array.length_toList] at e
  omega
theorem Inv.list_inj (I:Inv X pins σ H s) (h:SqL X.K H a xs) (h':SqL X.K H a ys):xs=ys:=by
 obtain ⟨its,r,⟨o,n,e,_,_,d⟩,_⟩:=I.list h
 obtain ⟨its',r',⟨o',n',e',_,_,d'⟩,_⟩:=I.list h'
 rw [e] at e'; cases e'
 rw [d] at d'
 injection d' with d1 _
 have:its=its':=by simpa using congrArg Array.toList d1
 subst this
 exact r.inj r'
theorem Inv.tuple_inj (I:Inv X pins σ H s) (h:SqT X.K H a xs) (h':SqT X.K H a ys):xs=ys:=by
 obtain ⟨its,r,⟨o,e,_,n,d⟩,_⟩:=I.tuple h
 obtain ⟨its',r',⟨o',e',_,n',d'⟩,_⟩:=I.tuple h'
 rw [e] at e'; cases e'
 rw [d] at d'
 injection d' with d1 _
 have:its=its':=by simpa using congrArg Array.toList d1
 subst this
 exact r.inj r'
end
abbrev Cx.wish (X:Cx) (E:Value->Shared->Prop):Cx:={ X with xe:=E }
abbrev Cx.nox (X:Cx):Cx:=X.wish λ_ _=>False
theorem Cx.Ok.wish {X:Cx} (ok:X.Ok) (E:Value->Shared->Prop):(X.wish E).Ok:=
 ⟨ok.mod,ok.kind,ok.glob,ok.blt,ok.above,ok.inj,ok.has,ok.cab,ok.hd,ok.frames,ok.stk,ok.exf,ok.bs,ok.bsz,ok.noex,ok.exfs,ok.funs,ok.frf⟩
theorem Cx.Ok.unwish {X:Cx} {E:Value->Shared->Prop} (ok:(X.wish E).Ok):X.Ok:=
 ⟨ok.mod,ok.kind,ok.glob,ok.blt,ok.above,ok.inj,ok.has,ok.cab,ok.hd,ok.frames,ok.stk,ok.exf,ok.bs,ok.bsz,ok.noex,ok.exfs,ok.funs,ok.frf⟩
section
variable {X:Cx} {pins:List (Addr × Obj)} {σ:St} {H:Hp} {s:Shared} {E:Value->Shared->Prop}
theorem Inv.wish (I:Inv X pins σ H s) (E:Value->Shared->Prop):Inv (X.wish E) pins σ H s:=⟨I.ok.wish E,I.os,I.bare,I.base,I.loc,I.cell,I.free,I.freeC,I.pin,I.hok,I.len⟩
theorem Inv.unwish (I:Inv (X.wish E) pins σ H s):Inv X pins σ H s:=⟨I.ok.unwish,I.os,I.bare,I.base,I.loc,I.cell,I.free,I.freeC,I.pin,I.hok,I.len⟩
theorem SP.unwish {D:fJ} {f:Flow} {s':Shared} (h:SP (X.wish E) pins D f s'):SP X pins D f s':=by
 cases f with
 | next=>obtain ⟨σ',H',I,q⟩:=h; exact ⟨σ',H',I.unwish,q⟩
 | brk=>obtain ⟨σ',H',I,q⟩:=h; exact ⟨σ',H',I.unwish,q⟩
 | cont=>obtain ⟨σ',H',I,q⟩:=h; exact ⟨σ',H',I.unwish,q⟩
 | ret u=>obtain ⟨v,σ',H',I,r,q⟩:=h; exact ⟨v,σ',H',I.unwish,r,q⟩
theorem PSs.nox {st:List Stmt} {t:TS} (h:PSs X.nox st t):PSs X st t:=λpins s σ H D I hw=>
 wpAny_mono (h pins s σ H D (I.wish _) hw) (λ_ _ q=>q.unwish) λ_ _ z=>False.elim z
end
section
variable {X:Cx} {st:Stmt} {rest:List Stmt} {t u:TS} {e:Expr} {te:TE} {pos:Pos}
def tNext:TS:=λD σ H=>D.nx σ H
def bB (t u:TS):TS:=λD σ H=>t { D with nx:=u D } σ H
theorem aA:PSs X [] tNext:=λ_ _ σ H _ I h=>wpAny_execs_nil ⟨σ,H,I,h⟩
theorem ag (h1:PS X st t) (h2:PSs X rest u):PSs X (st::rest) (bB t u):=by
 intro pins s σ H D I h
 refine wpAny_execs_cons (thn (h1 pins s σ H { D with nx:=u D } I h) λf s1 q=>?_)
 cases f with
 | next=>
  obtain ⟨σ',H',I',q⟩:=q
  exact h2 pins s1 σ' H' D I' q
 | ret v=>exact q
 | brk=>exact q
 | cont=>exact q
theorem ak (h1:PS X st t):PSs X [st] t:=by
 intro pins s σ H D I h
 refine wpAny_execs_cons (thn (h1 pins s σ H D I h) λf s1 q=>?_)
 cases f with
 | next=>exact wpAny_execs_nil q
 | ret v=>exact q
 | brk=>exact q
 | cont=>exact q
theorem Inv.quiet {pins:List (Addr × Obj)} {σ:St} {H:Hp} {s:Shared} (I:Inv X pins σ H s):interactive X.env=false:=by simp [interactive,I.ok.kind]
def tDrop (te:TE):TS:=λD σ H=>te σ H λ_ H1=>D.nx σ H1
theorem bh (he:PE X e te) (hs:swapsWith e none pos.line X.env=pure false:=by rfl):PS X (.Expr e pos) (tDrop te):=by
 intro pins s σ H D I h
 exact wpAny_Expr_any (thn (he pins s σ H _ I h) λv s1 ⟨x,H1,I1,r1,q1⟩=>⟨σ,H1,I1,q1⟩) I.quiet hs
def tRet (te:TE):TS:=λD σ H=>te σ H D.rt
theorem ar (he:PE X e te):PS X (.Return (some e) pos) (tRet te):=by
 intro pins s σ H D I h
 exact wpAny_Return_some (thn (he pins s σ H _ I h) λv s1 ⟨x,H1,I1,r1,q1⟩=>⟨x,σ,H1,I1,r1,q1⟩)
def jp (c:TT) (t u:TS):TS:=λD σ H=>c σ H λb H1=>if b=true then t D σ H1 else u D σ H1
theorem aH {c:Expr} {a b:List Stmt} {tc:TT} (hc:PT X c tc) (ha:PSs X a t) (hb:PSs X b u):PS X (.If c a b pos) (jp tc t u):=by
 intro pins s σ H D I h
 refine wpAny_If (thn (hc pins s σ H _ I h) λd s1 ⟨H1,I1,q1⟩=>?_)
 cases d with
 | true=>exact ha pins s1 σ H1 D I1 q1
 | false=>exact hb pins s1 σ H1 D I1 q1
def tNever:TS:=λ_ _ _=>False
theorem ps_never:PS X st tNever:=λ_ _ _ _ _ _ h=>h.elim
end
abbrev TG:=V->St->Hp->(St->Hp->Prop)->Prop
abbrev TGs:=List V->St->Hp->(St->Hp->Prop)->Prop
def PG (X:Cx) (target:Expr) (t:TG):Prop:=
 ∀ (pins:List (Addr × Obj)) (s:Shared) (σ:St) (H:Hp) (v:V) (u:Value) (Q:St->Hp->Prop),Inv X pins σ H s->o4 v u->t v σ H Q->
  wpAny (model X.prog X.w) X.A (assign target X.env u) (λ_ s'=>∃ σ' H',Inv X pins σ' H' s'/\Q σ' H') X.xe s
def PGs (X:Cx) (ts:List Expr) (t:TGs):Prop:=
 ∀ (pins:List (Addr × Obj)) (s:Shared) (σ:St) (H:Hp) (vs:List V) (us:List Value) (Q:St->Hp->Prop),Inv X pins σ H s->o0 vs us->t vs σ H Q->
  wpAny (model X.prog X.w) X.A (assignInOrder ((assignEach ts X.env).map (·.2)) us) (λ_ s'=>∃ σ' H',Inv X pins σ' H' s'/\Q σ' H') X.xe s
abbrev TSet:=V->V->V->Hp->(Hp->Prop)->Prop
def PSet (X:Cx) (t:TSet):Prop:=
 ∀ (pins:List (Addr × Obj)) (s:Shared) (σ:St) (H:Hp) (o i v:V) (ov iv u:Value) (Q:Hp->Prop),Inv X pins σ H s->o4 o ov->o4 i iv->o4 v u->t o i v H Q->
  wpAny (model X.prog X.w) X.A (setItem ov iv u) (λ_ s'=>∃ H',Inv X pins σ H' s'/\Q H') X.xe s
section
variable {X:Cx} {pos:Pos}
def cC (i:Nat):TG:=λv σ H Q=>Q (σ.set i (some v)) H
theorem aF {i:Nat} {x:Str} (hN:X.N.Nodup) (hi:X.N[i]? = some x) (hx:Loc X.env.scope x) (hf:X.fn x=true\/X.env.scope.names.lookup x=some .local:=by first | exact .inl rfl | exact .inr rfl | assumption):PG X (.Name x pos) (cC i):=by
 intro pins s σ H v u Q I r h
 exact wpAny_assign_Name (iN I hN hi hx r (λs' I'=>⟨_,H,I',h⟩) hf)
def gNil:TGs:=λvs σ H Q=>vs=[]/\Q σ H
def iJ (t:TG) (u:TGs):TGs:=λvs σ H Q=>∃ v r,vs=v::r/\t v σ H λσ' H'=>u r σ' H' Q
theorem eA:PGs X [] gNil:=by
 intro pins s σ H vs us Q I r h
 obtain ⟨e,h⟩:=h
 subst e
 cases r
 exact assignInOrder_nil ⟨σ,H,I,h⟩
theorem aK {e:Expr} {es:List Expr} {t:TG} {u:TGs} (h1:PG X e t) (h2:PGs X es u)
  (hs:(assignEach (e::es) X.env).map (·.2)=assign e X.env::(assignEach es X.env).map (·.2):=by rfl):PGs X (e::es) (iJ t u):=by
 intro pins s σ H vs us Q I r h
 obtain ⟨v,vr,e1,h⟩:=h
 subst e1
 cases r with
 | cons r rr=>
  rw [hs]
  refine assignInOrder_cons (thn (h1 pins s σ H _ _ _ I r h) λ_ s1 ⟨σ1,H1,I1,q1⟩=>?_)
  exact h2 pins s1 σ1 H1 _ _ Q I1 rr q1
def gTup (K:Frag) (n:Nat) (t:TGs):TG:=λv σ H Q=>∃ a xs,v=.ref a/\SqT K H a xs/\xs.length=n/\t xs σ H Q
theorem gb {es:List Expr} {k:Nat} {t:TGs} {n:Nat} (hc:X.calm=true) (h:PGs X es t)
  (hn:(assignEach es X.env).length=n:=by rfl) (hst:(assignEach es X.env).findIdx? (·.1)=none:=by rfl):PG X (.Tuple es k pos) (gTup X.K n t):=by
 intro pins s σ H v u Q I r hw
 obtain ⟨a,xs,e1,hq,hl,hw⟩:=hw
 subst e1
 cases r
 obtain ⟨its,rv,ht,hz⟩:=I.tuple hq
 refine assign_Tuple_tuple (I.ok.hd hc) ht (by simp [hn,<- hl,rv.length]) hst λh' hx=>?_
 have I1:Inv X pins σ H { s with heap:=h' }:=I.kept (t':=s.toks) λb o e=>hx b o (Nat.ne_of_lt (lt_size e)) e
 exact h pins _ σ H xs _ Q I1 (by simpa using rv) hw
def gSub (to ti:TE) (t:TSet):TG:=λv σ H Q=>to σ H λo H1=>ti σ H1 λi H2=>t o i v H2 λH3=>Q σ H3
theorem jV {o i:Expr} {to ti:TE} {t:TSet} (ho:PE X o to) (hi:PE X i ti) (hs:PSet X t)
  (ha:∀ v,assign (.Subscript o i pos) X.env v=(do
   let ov <- holding [v] (eval o X.env)
   let iv <- holding [v,ov] (eval i X.env)
   standAt pos
   holding [v,ov,iv] (setItem ov iv v)
   release [v,ov,iv] []):=by intro _; rfl):PG X (.Subscript o i pos) (gSub to ti t):=by
 intro pins s σ H v u Q I r h
 rw [ha]
 refine wpAny_bind (wpAny_holding (thn (ho pins s σ H _ I h) λov s1 ⟨x,H1,I1,r1,q1⟩=>?_))
 refine wpAny_bind (wpAny_holding (thn (hi pins s1 σ H1 _ I1 q1) λiv s2 ⟨y,H2,I2,r2,q2⟩=>?_))
 refine wpAny_bind (wpAny_standAt (wpAny_bind (wpAny_holding (thn (hs pins s2 σ H2 x y v ov iv u _ I2 r1 r2 r q2) λ_ s3 ⟨H3,I3,q3⟩=>?_))))
 exact wpAny_release ⟨σ,H3,I3,q3⟩
def tAsg (te:TE) (g:TG):TS:=λD σ H=>te σ H λx H1=>g x σ H1 D.nx
theorem fq {tg e:Expr} {te:TE} {g:TG} (he:PE X e te) (hg:PG X tg g) (hs:swapsWithSole [tg] e pos.line X.env=pure false:=by rfl) (hw:swappedStores [tg] e X.env=pure none:=by rfl)
  (h1:(assignEach [tg] X.env).map (·.2)=[assign tg X.env]:=by rfl):PS X (.Assign [tg] e pos) (tAsg te g):=by
 intro pins s σ H D I h
 refine wpAny_Assign_stores (thn (he pins s σ H _ I h) λv s1 ⟨x,H1,I1,r1,q1⟩=>?_) hs hw
 rw [h1]
 exact thn (hg pins s1 σ H1 x v _ I1 r1 q1) λ_ s2 q=>q
theorem au {i:Nat} {x:Str} {e:Expr} {te:TE} {pos':Pos} (hN:X.N.Nodup) (hi:X.N[i]? = some x) (hx:Loc X.env.scope x) (he:PE X e te) (hs:swapsWith e (some (.Name x pos')) pos.line X.env=pure false:=by rfl) (hf:X.fn x=true\/X.env.scope.names.lookup x=some .local:=by first | exact .inl rfl | exact .inr rfl | assumption) :
  PS X (.Assign [.Name x pos'] e pos) (tAsg te (cC i)):=by
 intro pins s σ H D I h
 refine wpAny_Assign_Name (thn (he pins s σ H _ I h) λv s1 ⟨y,H1,I1,r1,q1⟩=>?_) hs
 exact iN I1 hN hi hx r1 (λs2 I2=>⟨_,H1,I2,q1⟩) hf
def tPar (i j:Nat) (ta:TA):TS:=λD σ H=>ta σ H λvs H1=>∃ v w,vs=[v,w]/\D.nx ((σ.set i (some v)).set j (some w)) H1
theorem ps_par {i j:Nat} {x y:Str} {a b:Expr} {ta:TA} {px py pt:Pos} {kt k2 pt2} (hc:X.calm=true) (hN:X.N.Nodup) (hi:X.N[i]? = some x) (hj:X.N[j]? = some y) (hij:i ≠ j)
  (hx:X.env.scope.names.lookup x=some .local) (hy:X.env.scope.names.lookup y=some .local) (ha:PA X [a,b] ta)
  (hw:swappedStores [.Tuple [.Name x px,.Name y py] kt pt] (.Tuple [a,b] k2 pt2) X.env=pure (some [x,y]))
  (hs:swapsWithSole [.Tuple [.Name x px,.Name y py] kt pt] (.Tuple [a,b] k2 pt2) pos.line X.env=pure false:=by rfl) :
  PS X (.Assign [.Tuple [.Name x px,.Name y py] kt pt] (.Tuple [a,b] k2 pt2) pos) (tPar i j ta):=by
 intro pins s σ H D I h
 rw [exec_Assign_arm]
 refine wpAny_bind (wpAny_standAt ?_)
 rw [hs]
 refine wpAny_bind (wpAny_pure ?_)
 rw [if_neg (by decide)]
 refine wpAny_bind (Tuple_ (thn (ha _ pins s σ H _ I h) λus s1 ⟨vs,H1,I1,r1,q1⟩=>?_))
 obtain ⟨v,w,e1,q1⟩:=q1
 subst e1
 obtain ⟨u1,u2,rfl,rv,rw'⟩:∃ u1 u2,us=[u1,u2]/\o4 v u1/\o4 w u2:=by
  cases r1 with
  | cons p q=>
   cases q with
   | cons p' q'=>
    cases q'
    exact ⟨_,_,rfl,p,p'⟩
 refine wpAny_newObj_type ?_ (by show 2<=sizeLine; decide)
 have I2:Inv X pins σ H1 { s1 with heap:=s1.heap.push { cls:=.type "tuple",data:=.seq [u1,u2].toArray } }:=I1.kept (t':=s1.toks) λb o e=>get?_push_of_some _ e
 rw [hw]
 refine wpAny_bind (wpAny_pure ?_)
 show wpAny (model X.prog X.w) X.A (do rule "assign.swapped-stores"; let items <- unpackItems (.ref s1.heap.objs.size) 2 none; assignInOrder [λv=>bindName X.env y v,λv=>bindName X.env x v] items.reverse; pure Flow.next) _ _ _
 refine wpAny_bind (wpAny_rule (wpAny_bind (unpackItems_tuple (items:=#[u1,u2]) (I.ok.hd hc) (IsTup.new s1.heap _) λh' hx'=>?_)))
 have I3:=I2.kept (h':=h') (t':=s1.toks) λb o e=>hx' b o (Nat.ne_of_lt (lt_size e)) e
 show wpAny _ _ (assignInOrder [λv=>bindName X.env y v,λv=>bindName X.env x v] [u2,u1] >>= λ_=>pure Flow.next) _ _ _
 refine wpAny_bind (assignInOrder_cons (wpAny_bindName (iN I3 hN hj (.inl hy) rw' (λs2 I4=>?_) (.inr hy))))
 refine assignInOrder_cons (wpAny_bindName (iN I4 hN hi (.inl hx) rv (λs3 I5=>assignInOrder_nil (wpAny_pure ?_)) (.inr hx)))
 rw [List.set_comm _ _ (Ne.symm hij)] at I5
 exact ⟨_,H1,I5,q1⟩
end
section
variable {X:Cx} {pos:Pos}
def tWhile (c:TT) (tb:TS):TS:=λD σ H=>∃ W:Nat->St->Hp->Prop,(∃ m,W m σ H)/\∀ m σ H,W m σ H->
 c σ H λb H1=>if b=true then ∃ N:St->Hp->Prop,(∀ σ' H',N σ' H'->∃ m',m' < m/\W m' σ' H')/\tb { D with nx:=N,ct:=N,bk:=D.nx } σ H1 else D.nx σ H1
theorem gh {c:Expr} {body:List Stmt} {tc:TT} {tb:TS} (hp:PassesOwn (model X.prog X.w) X.A X.env X.xe) (hc:PT X c tc) (hb:PSs X body tb):PS X (.While c body [] pos) (tWhile tc tb):=by
 intro pins s σ H D I h
 obtain ⟨W,⟨m0,w0⟩,turn⟩:=h
 refine wpAny_While (codeAny_whileLoop (λn s'=>∃ σ' H',Inv X pins σ' H' s'/\W n σ' H') ?_ m0 ⟨σ,H,I,w0⟩)
 rintro n s1 ⟨σ1,H1,I1,w1⟩
 refine wpAny_passesOwn hp (thn (hc pins s1 σ1 H1 _ I1 (turn n σ1 H1 w1)) λb s2 ⟨H2,I2,q2⟩=>?_)
 cases b with
 | true=>
  obtain ⟨N,hN,q2⟩:=q2
  rw [if_pos rfl]
  refine wpAny_passesOwn hp (thn (hb pins s2 σ1 H2 _ I2 q2) λf s3 q3=>?_)
  cases f with
  | next=>
   obtain ⟨σ3,H3,I3,n3⟩:=q3
   obtain ⟨m',hm,w3⟩:=hN σ3 H3 n3
   exact ⟨m',hm,σ3,H3,I3,w3⟩
  | cont=>
   obtain ⟨σ3,H3,I3,n3⟩:=q3
   obtain ⟨m',hm,w3⟩:=hN σ3 H3 n3
   exact ⟨m',hm,σ3,H3,I3,w3⟩
  | brk=>exact q3
  | ret v=>exact q3
 | false=>
  rw [if_neg Bool.false_ne_true]
  exact wpAny_execs_nil ⟨σ1,H2,I2,q2⟩
end
structure It where
 go:Nat->Hp->Prop
 yld:Nat->Hp->V->Hp->Prop
 stop:Nat->Hp->Prop
def eO (X:Cx) (pins:List (Addr × Obj)) (H:Hp) (b:Addr):Prop:=
 H b=none/\b ≠ X.env.locals/\b ∉ X.fs/\(b ∈ X.ex\/X.s₀.heap.objs.size<=b)/\(∀ x c,X.env.cells.lookup x=some c->c ≠ b)/\∀ p ∈ X.pn++pins,p.1 ≠ b
theorem Inv.fpOk {X:Cx} {pins:List (Addr × Obj)} {σ:St} {H H':Hp} {s:Shared} {b:Addr} (I:Inv X pins σ H s) (hb:s.heap.objs.size<=b) (hn:H' b=none):eO X pins H' b:=by
 refine ⟨hn,Nat.ne_of_gt (Nat.lt_of_lt_of_le I.lt hb),I.nofs hb,.inr (Nat.le_trans I.sz hb),λx c e z=>?_,λp hp z=>?_⟩
 ·obtain ⟨v,q⟩:=I.cell x c e
  exact absurd (Nat.lt_of_lt_of_le q.lt (by rw [z]; exact hb)) (Nat.lt_irrefl _)
 ·exact absurd (Nat.lt_of_lt_of_le (lt_size (I.pin p hp).1) (by rw [z]; exact hb)) (Nat.lt_irrefl _)
structure lE (P:Program) (w:World) (K:Frag) (tg:Expr) (J:It) (fp:List Addr) (it:Addr) (tn:Nat->Heap->Prop):Prop where
 mem:it ∈ fp
 obj:∀ i h,tn i h->∀ b ∈ fp,∃ o,h.get? b=some o/\∀ v,o.data ≠ .cell v
 keep:∀ i h h',tn i h->(∀ b ∈ fp,∀ o,h.get? b=some o->h'.get? b=some o)->tn i h'
 item:∀ (X:Cx),X.prog=P->X.w=w->X.K=K->X.calm=true->∀ (i:Nat) (pins:List (Addr × Obj)) (s:Shared) (σ:St) (H:Hp) (E:Value->Shared->Prop),Inv X pins σ H s->(∀ b ∈ fp,eO X pins H b)->tn i s.heap->J.go i H->
  wpAny (model P w) X.A (pyNext (.ref it)) (λr s1=>∃ u,r=some u/\
   wpAny (model P w) X.A (letOwnedTupleGo tg (.ref it) u) (λ_ s2=>∃ x H',Inv X pins σ H' s2/\o4 x u/\J.yld i H x H'/\tn (i+1) s2.heap/\∀ b ∈ fp,H' b=none) E s1) E s
 done:∀ (X:Cx),X.prog=P->X.w=w->X.K=K->X.calm=true->∀ (i:Nat) (pins:List (Addr × Obj)) (s:Shared) (σ:St) (H:Hp) (E:Value->Shared->Prop),Inv X pins σ H s->(∀ b ∈ fp,eO X pins H b)->tn i s.heap->J.stop i H->
  wpAny (model P w) X.A (pyNext (.ref it)) (λr s1=>r=none/\Inv X pins σ H s1) E s
 self:∀ (A:Around) (i:Nat) (s:Shared) (Q:Value->Shared->Prop) (E:Value->Shared->Prop),tn i s.heap->Q (.ref it) s->wpAny (model P w) A (pyIter (.ref it)) Q E s
abbrev TI:=St->Hp->(It->Hp->Prop)->Prop
def PIE (X:Cx) (pins:List (Addr × Obj)) (σ:St) (tg:Expr) (R:It->Hp->Prop) (itv:Value) (s2:Shared):Prop:=
 ∃ (it:Addr) (fp:List Addr) (tn:Nat->Heap->Prop) (J:It) (H':Hp),itv=.ref it/\Inv X pins σ H' s2/\lE X.prog X.w X.K tg J fp it tn/\tn 0 s2.heap/\(∀ b ∈ fp,eO X pins H' b)/\R J H'
def PI (X:Cx) (tg iter:Expr) (wi:TI):Prop:=
 ∀ (pins:List (Addr × Obj)) (s:Shared) (σ:St) (H:Hp) (R:It->Hp->Prop),Inv X pins σ H s->wi σ H R->
  wpAny (model X.prog X.w) X.A (eval iter X.env) (λv s1=>wpAny (model X.prog X.w) X.A (pyIter v) (PIE X pins σ tg R) X.xe s1) X.xe s
theorem go_of {M:Model} {A:Around} {E:Value->Shared->Prop} {s:Shared} {tg:Expr} {it:Addr} {u:Value} {o:Obj} {n:String} {vs:Array Value} {Q:Unit->Shared->Prop} (ho:s.heap.get? it=some o) (hc:o.cls=.type n) (hd:o.data=.fields vs)
  (hn:["enumerate", "zip", "dict_itemiterator", "dict_reverseitemiterator", "odict_iterator", "itertools.zip_longest", "itertools.pairwise"].contains n=false) (hQ:Q () s):wpAny M A (letOwnedTupleGo tg (.ref it) u) Q E s:=by
 unfold letOwnedTupleGo
 cases tg<;>first
  | exact wpAny_pure hQ
  | (cases u<;>first
    | exact wpAny_pure hQ
    | (refine wpAny_bind (wpAny_load ho ?_)
       rw [hc,hd]
       show wpAny M A (if (["enumerate", "zip", "dict_itemiterator", "dict_reverseitemiterator", "odict_iterator", "itertools.zip_longest", "itertools.pairwise"].contains n && vs[0]? == some (rawInt _))=true then _ else _) Q E s
       rw [if_neg (by intro h; rw [hn,Bool.false_and] at h; cases h)]
       exact wpAny_pure hQ))
def Itl (K:Frag) (a:Addr):It:=
 ⟨λi H=>∃ xs x,SqL K H a xs/\xs[i]? = some x,λi H x H'=>H'=H/\∀ xs,SqL K H a xs->xs[i]? = some x,λi H=>∃ xs,SqL K H a xs/\xs.length<=i⟩
def Itt (K:Frag) (a:Addr):It:=
 ⟨λi H=>∃ xs x,SqT K H a xs/\xs[i]? = some x,λi H x H'=>H'=H/\∀ xs,SqT K H a xs->xs[i]? = some x,λi H=>∃ xs,SqT K H a xs/\xs.length<=i⟩
def Itr (lo:Int) (n:Nat):It:=⟨λi _=>i<n,λi H x H'=>H'=H/\x=.int (lo+i),λi _=>n<=i⟩
theorem turn_list {P:Program} {w:World} {K:Frag} {tg:Expr} (a it:Addr):lE P w K tg (Itl K a) [it] it (λi h=>h.IsListIter it a i) where
 mem:=by simp
 obj:=λi h st b hb=>by
  have e:b=it:=by simpa using hb
  subst e
  obtain ⟨o,e,c,d⟩:=st
  exact ⟨o,e,λv z=>by rw [d] at z; cases z⟩
 keep:=λi h h' st k=>st.at λo e=>k it (by simp) o e
 item:=by
  intro X hP hw hK hc i pins s σ H E I hf st hg
  subst hP hw hK
  obtain ⟨xs,x,hq,hx⟩:=hg
  obtain ⟨its,rv,p,hz⟩:=I.list hq
  obtain ⟨u,hu,ru⟩:=rv.get hx
  obtain ⟨f0,f1,f2,f3,f4,f5⟩:=hf it (by simp)
  refine wpAny_pyNext_list_item st p.isList (x:=u) (by simpa using hu) λh' st' sb=>?_
  have I1:Inv X pins σ H { s with heap:=h' }:=I.turned (t':=s.toks) (λb o hb e=>(sb.2 b hb).trans e) f0 f1 f3 f4 f5
  obtain ⟨o,e,c,d⟩:=id st'
  exact ⟨u,rfl,go_of (s:={ s with heap:=h' }) e c d (by decide) ⟨x,H,I1,ru,⟨rfl,λys hy=>by rw [I.list_inj hy hq]; exact hx⟩,st',λb hb=>(hf b hb).1⟩⟩
 done:=by
  intro X hP hw hK hc i pins s σ H E I hf st hg
  subst hP hw hK
  obtain ⟨xs,hq,hx⟩:=hg
  obtain ⟨its,rv,p,hz⟩:=I.list hq
  obtain ⟨f0,f1,f2,f3,f4,f5⟩:=hf it (by simp)
  have hl:=rv.length
  exact wpAny_pyNext_list_end (I.ok.hd hc) st p.isList (by simp; omega) λh' eb=>⟨rfl,I.turned (t':=s.toks) (λb o hb e=>eb b o hb e) f0 f1 f3 f4 f5⟩
 self:=λ_ _ _ _ _ st h=>wpAny_pyIter_listiter st h
theorem turn_tuple {P:Program} {w:World} {K:Frag} {tg:Expr} (a it:Addr):lE P w K tg (Itt K a) [it] it (λi h=>h.IsTupleIter it a i) where
 mem:=by simp
 obj:=λi h st b hb=>by
  have e:b=it:=by simpa using hb
  subst e
  obtain ⟨o,e,c,d⟩:=st
  exact ⟨o,e,λv z=>by rw [d] at z; cases z⟩
 keep:=λi h h' st k=>st.at λo e=>k it (by simp) o e
 item:=by
  intro X hP hw hK hc i pins s σ H E I hf st hg
  subst hP hw hK
  obtain ⟨xs,x,hq,hx⟩:=hg
  obtain ⟨its,rv,p,hz⟩:=I.tuple hq
  obtain ⟨u,hu,ru⟩:=rv.get hx
  obtain ⟨f0,f1,f2,f3,f4,f5⟩:=hf it (by simp)
  refine wpAny_pyNext_tuple_item st (show s.heap.IsTuple a its.toArray from p) (x:=u) (by simpa using hu) λh' st' sb=>?_
  have I1:Inv X pins σ H { s with heap:=h' }:=I.turned (t':=s.toks) (λb o hb e=>(sb.2 b hb).trans e) f0 f1 f3 f4 f5
  obtain ⟨o,e,c,d⟩:=id st'
  exact ⟨u,rfl,go_of (s:={ s with heap:=h' }) e c d (by decide) ⟨x,H,I1,ru,⟨rfl,λys hy=>by rw [I.tuple_inj hy hq]; exact hx⟩,st',λb hb=>(hf b hb).1⟩⟩
 done:=by
  intro X hP hw hK hc i pins s σ H E I hf st hg
  subst hP hw hK
  obtain ⟨xs,hq,hx⟩:=hg
  obtain ⟨its,rv,p,hz⟩:=I.tuple hq
  obtain ⟨f0,f1,f2,f3,f4,f5⟩:=hf it (by simp)
  have hl:=rv.length
  exact wpAny_pyNext_tuple_end (I.ok.hd hc) st (show s.heap.IsTuple a its.toArray from p) (by simp; omega) λh' eb=>⟨rfl,I.turned (t':=s.toks) (λb o hb e=>eb b o hb e) f0 f1 f3 f4 f5⟩
 self:=λ_ _ _ _ _ st h=>wpAny_pyIter_tupleiter st h
theorem turn_range {P:Program} {w:World} {K:Frag} {tg:Expr} (it:Addr) (lo:Int) (n:Nat):lE P w K tg (Itr lo n) [it] it (λi h=>IsRangeIter h it (lo+(i:Nat)*1) ((n:Int)-(i:Nat)) 1) where
 mem:=by simp
 obj:=λi h st b hb=>by
  have e:b=it:=by simpa using hb
  subst e
  exact ⟨_,st,λv z=>by
   have z':Data.fields _=Data.cell v:=z
   cases z'⟩
 keep:=λi h h' st k=>k it (by simp) _ st
 item:=by
  intro X hP hw hK hc i pins s σ H E I hf st hg
  subst hP hw hK
  obtain ⟨f0,f1,f2,f3,f4,f5⟩:=hf it (by simp)
  have W:=Walks.range (prog:=X.prog) (w:=X.w) (I.ok.hd hc) it lo 1 n
  refine W.item i s _ _ hg st λv h' tk hv st' kk=>?_
  obtain ⟨t,rfl⟩:=hv
  have I1:Inv X pins σ H { s with heap:=h',toks:=tk }:=I.turned (λb o hb e=>kk b o (by simpa using hb) e) f0 f1 f3 f4 f5
  refine ⟨_,rfl,go_of (s:={ s with heap:=h',toks:=tk }) (n := "range_iterator") st' rfl rfl (by decide) ⟨.int (lo+i),H,I1,⟨t,?_⟩,⟨rfl,rfl⟩,st',λb hb=>(hf b hb).1⟩⟩
  rw [Int.mul_one]
 done:=by
  intro X hP hw hK hc i pins s σ H E I hf st hg
  subst hP hw hK
  obtain ⟨f0,f1,f2,f3,f4,f5⟩:=hf it (by simp)
  exact wpAny_pyNext_range_end (I.ok.hd hc) st (by have:n<=i:=hg; omega) λh' eb=>⟨rfl,I.turned (t':=s.toks) (λb o hb e=>eb b o hb e) f0 f1 f3 f4 f5⟩
 self:=λ_ _ _ _ _ st h=>wpAny_pyIter_rangeiter st h
section
variable {X:Cx} {tg:Expr}
def iList (K:Frag) (tl:TE):TI:=λσ H R=>tl σ H λx H1=>∃ a,x=.ref a/\(∃ xs,SqL K H1 a xs)/\R (Itl K a) H1
def iTup (K:Frag) (tl:TE):TI:=λσ H R=>tl σ H λx H1=>∃ a,x=.ref a/\(∃ xs,SqT K H1 a xs)/\R (Itt K a) H1
theorem pi_list {l:Expr} {tl:TE} (hl:PE X l tl):PI X tg l (iList X.K tl):=by
 intro pins s σ H R I h
 refine thn (hl pins s σ H _ I h) λv s1 ⟨x,H1,I1,r1,q1⟩=>?_
 obtain ⟨a,e,⟨xs,hq⟩,q⟩:=q1
 subst e
 cases r1
 obtain ⟨its,rv,p,hz⟩:=I1.list hq
 refine wpAny_pyIter_list p.isList ?_
 refine ⟨s1.heap.objs.size,[s1.heap.objs.size],_,_,H1,rfl,I1.kept (t':=s1.toks) λb o e=>get?_push_of_some _ e,turn_list a _,⟨_,get?_push_size _ rfl,rfl,rfl⟩,λb hb=>?_,q⟩
 have e:b=s1.heap.objs.size:=by simpa using hb
 subst e
 exact I1.fpOk (Nat.le_refl _) (I1.hok.fresh (Nat.le_refl _))
theorem pi_tup {l:Expr} {tl:TE} (hl:PE X l tl):PI X tg l (iTup X.K tl):=by
 intro pins s σ H R I h
 refine thn (hl pins s σ H _ I h) λv s1 ⟨x,H1,I1,r1,q1⟩=>?_
 obtain ⟨a,e,⟨xs,hq⟩,q⟩:=q1
 subst e
 cases r1
 obtain ⟨its,rv,p,hz⟩:=I1.tuple hq
 refine wpAny_pyIter_tuple (show s1.heap.IsTuple a its.toArray from p) ?_
 refine ⟨s1.heap.objs.size,[s1.heap.objs.size],_,_,H1,rfl,I1.kept (t':=s1.toks) λb o e=>get?_push_of_some _ e,turn_tuple a _,⟨_,get?_push_size _ rfl,rfl,rfl⟩,λb hb=>?_,q⟩
 have e:b=s1.heap.objs.size:=by simpa using hb
 subst e
 exact I1.fpOk (Nat.le_refl _) (I1.hok.fresh (Nat.le_refl _))
theorem range_it {pins:List (Addr × Obj)} {σ:St} {H:Hp} {s:Shared} {R:It->Hp->Prop} {E:Value->Shared->Prop} {lo hi:Int} {t u v:Tok} {tk:Nat} (I:Inv X pins σ H s) (h1:-(2 ^ 62)<=lo) (h2:lo<2 ^ 62) (h3:-(2 ^ 62)<=hi) (h4:hi<2 ^ 62)
  (q:R (Itr lo (hi-lo).toNat) H):wpAny (model X.prog X.w) X.A (pyIter (.ref s.heap.objs.size)) (PIE X pins σ tg R) E { s with heap:=s.heap.push { cls:=.type "range",data:=.fields #[.int lo t,.int hi u,.int 1 v] },toks:=tk }:=by
 refine wpAny_pyIter_range (IsRange.new ..) (small_one h1 h2 h3 h4) ?_
 have I1:Inv X pins σ H { s with heap:=s.heap.push { cls:=.type "range",data:=.fields #[.int lo t,.int hi u,.int 1 v] },toks:=tk }:=I.kept λb o e=>get?_push_of_some _ e
 refine ⟨(s.heap.push { cls:=.type "range",data:=.fields #[.int lo t,.int hi u,.int 1 v] }).objs.size,[(s.heap.push { cls:=.type "range",data:=.fields #[.int lo t,.int hi u,.int 1 v] }).objs.size],_,_,H,rfl,
  I1.kept (t':=tk) λb o e=>get?_push_of_some _ e,turn_range _ lo (hi-lo).toNat,?_,λb hb=>?_,q⟩
 ·have e1:lo+((0:Nat):Int)*1=lo:=by simp
  have e2:(((hi-lo).toNat:Nat):Int)-((0:Nat):Int)=Builtin.Range.rangeSize lo hi 1:=by rw [rangeSize_one]; split<;>omega
  show IsRangeIter _ _ (lo+((0:Nat):Int)*1) ((((hi-lo).toNat:Nat):Int)-((0:Nat):Int)) 1
  rw [e1,e2]
  exact get?_push_size _ rfl
 ·have e:b=(s.heap.push { cls:=.type "range",data:=.fields #[.int lo t,.int hi u,.int 1 v] }).objs.size:=by simpa using hb
  subst e
  exact I1.fpOk (Nat.le_refl _) (I1.hok.fresh (Nat.le_refl _))
def iRng1 (ta:TA):TI:=λσ H R=>ta σ H λvs H1=>∃ j:Int,vs=[.int j]/\-(2 ^ 62)<=j/\j<2 ^ 62/\R (Itr 0 j.toNat) H1
def iRng2 (ta:TA):TI:=λσ H R=>ta σ H λvs H1=>∃ i j:Int,vs=[.int i,.int j]/\(-(2 ^ 62)<=i/\i<2 ^ 62/\-(2 ^ 62)<=j/\j<2 ^ 62)/\R (Itr i (j-i).toNat) H1
theorem ba {a:Expr} {ta:TA} {p pos:Pos} (hg:Gl X "range") (hm:X.mg "range" = none) (ha:PA X [a] ta) (hs:starEach [a] X.env=[(false,eval a X.env)]:=by rfl):PI X tg (.Call (.Name "range" p) [a] [] pos) (iRng1 ta):=by
 intro pins s σ H R I h
 refine Call_ (gg I hg hm boot_range (PyProof.Rows.callWith_type1 (thn (ha pos pins s σ H _ I h) λus s1 ⟨vs,H1,I1,r1,q1⟩=>?_) hs rfl))
 obtain ⟨j,e,q1,q2,q⟩:=q1
 subst e
 cases r1 with
 | cons r rr=>
  cases rr
  obtain ⟨t,rfl⟩:=r
  exact call_range_1 (range_it I1 (by omega) (by omega) q1 q2 (by simpa using q))
theorem mf {a b:Expr} {ta:TA} {p pos:Pos} (hg:Gl X "range") (hm:X.mg "range" = none) (ha:PA X [a,b] ta) (hs:starEach [a,b] X.env=[(false,eval a X.env),(false,eval b X.env)]:=by rfl) (hs2:starEach [b] X.env=[(false,eval b X.env)]:=by rfl) :
  PI X tg (.Call (.Name "range" p) [a,b] [] pos) (iRng2 ta):=by
 intro pins s σ H R I h
 refine Call_ (gg I hg hm boot_range (PyProof.Rows.callWith_type1 (thn (ha pos pins s σ H _ I h) λus s1 ⟨vs,H1,I1,r1,q1⟩=>?_) (by rw [hs,hs2]) (by rw [hs2]; rfl)))
 obtain ⟨i,j,e,⟨q1,q2,q3,q4⟩,q⟩:=q1
 subst e
 cases r1 with
 | cons r rr=>
  cases rr with
  | cons r' rr=>
   cases rr
   obtain ⟨t,rfl⟩:=r
   obtain ⟨t',rfl⟩:=r'
   exact call_range_2 (range_it I1 q1 q2 q3 q4 q)
def tFor (wi:TI) (g:TG) (tb:TS):TS:=λD σ H=>wi σ H λJ H1=>∃ W:Nat->Nat->St->Hp->Prop,(∃ m,W 0 m σ H1)/\∀ i m σ H,W i m σ H->
 (J.stop i H/\D.nx σ H)\/(J.go i H/\∃ N:St->Hp->Prop,(∀ σ' H',N σ' H'->∃ m',m' < m/\W (i+1) m' σ' H')/\∀ x H',J.yld i H x H'->g x σ H' λσ2 H2=>tb { D with nx:=N,ct:=N,bk:=D.nx } σ2 H2)
def jm (fp:List Addr) (h:Heap):List (Addr × Obj):=fp.filterMap λb=>(h.get? b).map λo=>(b,o)
theorem cO {fp:List Addr} {h:Heap} {b:Addr} {o:Obj} (hb:b ∈ fp) (e:h.get? b=some o):(b,o) ∈ jm fp h:=List.mem_filterMap.mpr ⟨b,hb,by rw [e]; rfl⟩
theorem of_pinsAt {fp:List Addr} {h:Heap} {p:Addr × Obj} (hp:p ∈ jm fp h):p.1 ∈ fp/\h.get? p.1=some p.2:=by
 obtain ⟨b,hb,e⟩:=List.mem_filterMap.mp hp
 cases q:h.get? b with
 | none=>rw [q] at e; cases e
 | some o=>
  rw [q] at e
  have e':(b,o)=p:=Option.some.inj e
  subst e'
  exact ⟨hb,q⟩
theorem Inv.pinned {pins:List (Addr × Obj)} {σ:St} {H:Hp} {s:Shared} {fp:List Addr} (I:Inv X pins σ H s) (hf:∀ b ∈ fp,eO X pins H b) (ho:∀ b ∈ fp,∃ o,s.heap.get? b=some o/\∀ v,o.data ≠ .cell v):Inv X (pins++jm fp s.heap) σ H s:=
 I.pins_of λp hp=>(List.mem_append.mp hp).elim (λz=>I.pin p (mem_append_right _ z)) λz=>by
  obtain ⟨hb,e⟩:=of_pinsAt z
  obtain ⟨f0,f1,f2,_⟩:=hf p.1 hb
  obtain ⟨o,e',d⟩:=ho p.1 hb
  rw [e] at e'; cases e'
  exact ⟨e,f0,f1,f2,d⟩
theorem Inv.unpinned {pins pl:List (Addr × Obj)} {σ:St} {H:Hp} {s:Shared} (I:Inv X (pins++pl) σ H s):Inv X pins σ H s:=I.pins_of λp hp=>I.pin p (mem_append_right _ (mem_append_left _ hp))
theorem bc {iter:Expr} {body:List Stmt} {wi:TI} {g:TG} {tb:TS} {pos:Pos} (hp:PassesOwn (model X.prog X.w) X.A X.env X.xe) (hc:X.calm=true) (hi:PI X tg iter wi) (hg:PG X tg g) (hb:PSs X body tb)
  (hs:∀ x,foldedSetIterable iter X.env x=pure x:=by intro _; rfl):PS X (.For tg iter body [] pos) (tFor wi g tb):=by
 intro pins s σ H D I h
 refine wpAny_For (thn (hi pins s σ H _ I h) λv s1 h1=>thn h1 λitv s2 h2=>?_) hs
 obtain ⟨it,fp,tn,J,H2,e,I2,T,st2,f2,W,⟨m0,w0⟩,turn⟩:=h2
 subst e
 have stat:∀ {H':Hp},(∀ b ∈ fp,H' b=none)->∀ b ∈ fp,eO X pins H' b:=λhn b hb=>⟨hn b hb,(f2 b hb).2⟩
 refine codeAny_forLoop_any (λn s'=>∃ i σ' H',Inv X pins σ' H' s'/\tn i s'.heap/\(∀ b ∈ fp,H' b=none)/\W i n σ' H') ?_ m0 ⟨0,σ,H2,I2,st2,λb hb=>(f2 b hb).1,w0⟩
 rintro n s3 ⟨i,σ3,H3,I3,st3,fr3,w3⟩
 rcases turn i n σ3 H3 w3 with ⟨stop,qn⟩ | ⟨go,N,hN,step⟩
 ·refine wpAny_passesOwn hp (thn (T.done X rfl rfl rfl hc i pins s3 σ3 H3 X.xe I3 (stat fr3) st3 stop) λr s4 ⟨hr,I4⟩=>?_)
  subst hr
  exact wpAny_execs_nil ⟨σ3,H3,I4,qn⟩
 ·refine wpAny_passesOwn hp (thn (T.item X rfl rfl rfl hc i pins s3 σ3 H3 X.xe I3 (stat fr3) st3 go) λr s4 ⟨u,hr,h4⟩=>?_)
  subst hr
  refine wpAny_passesOwn hp (thn h4 λ_ s5 ⟨x,H5,I5,r5,y5,st5,fr5⟩=>?_)
  have I5':=I5.pinned (stat fr5) (T.obj _ _ st5)
  refine wpAny_passesOwn hp (thn (hg _ s5 σ3 H5 x u _ I5' r5 (step x H5 y5)) λ_ s6 ⟨σ6,H6,I6,q6⟩=>?_)
  refine wpAny_passesOwn hp (thn (hb _ s6 σ6 H6 _ I6 q6) λf s7 q7=>?_)
  have again:∀ {σ7:St} {H7:Hp},Inv X (pins++jm fp s5.heap) σ7 H7 s7->N σ7 H7->∃ m,m<n/\∃ i σ' H',Inv X pins σ' H' s7/\tn i s7.heap/\(∀ b ∈ fp,H' b=none)/\W i m σ' H':=λ{σ7 H7} I7 n7=>by
   obtain ⟨m',hm,w7⟩:=hN σ7 H7 n7
   refine ⟨m',hm,i+1,σ7,H7,I7.unpinned,T.keep _ _ _ st5 λb hb o e=>(I7.pin (b,o) (mem_append_right _ (mem_append_right _ (cO hb e)))).1,λb hb=>?_,w7⟩
   obtain ⟨o,e,d⟩:=T.obj _ _ st5 b hb
   exact (I7.pin (b,o) (mem_append_right _ (mem_append_right _ (cO hb e)))).2.1
  cases f with
  | next=>obtain ⟨σ7,H7,I7,n7⟩:=q7; exact again I7 n7
  | cont=>obtain ⟨σ7,H7,I7,n7⟩:=q7; exact again I7 n7
  | brk=>obtain ⟨σ7,H7,I7,q7⟩:=q7; exact ⟨σ7,H7,I7.unpinned,q7⟩
  | ret v=>obtain ⟨x7,σ7,H7,I7,r7,q7⟩:=q7; exact ⟨x7,σ7,H7,I7.unpinned,r7,q7⟩
end
theorem gd {K:Frag} {a:Addr} {xs:List V} {g:TG} {tb:TS} {D:fJ} {σ:St} {H:Hp} (Pv:Nat->St->Hp->Prop) (h0:Pv 0 σ H) (hl:∀ i σ H,i<=xs.length->Pv i σ H->SqL K H a xs)
  (hs:∀ i x σ H,xs[i]? = some x->Pv i σ H->g x σ H λσ2 H2=>tb { D with nx:=Pv (i+1),ct:=Pv (i+1),bk:=D.nx } σ2 H2) (hd:∀ σ H,Pv xs.length σ H->D.nx σ H) :
  ∃ W:Nat->Nat->St->Hp->Prop,(∃ m,W 0 m σ H)/\∀ i m σ H,W i m σ H->
   ((Itl K a).stop i H/\D.nx σ H)\/((Itl K a).go i H/\∃ N:St->Hp->Prop,(∀ σ' H',N σ' H'->∃ m',m' < m/\W (i+1) m' σ' H')/\∀ x H',(Itl K a).yld i H x H'->g x σ H' λσ2 H2=>tb { D with nx:=N,ct:=N,bk:=D.nx } σ2 H2):=by
 refine ⟨λi m σ H=>m=xs.length-i/\i<=xs.length/\Pv i σ H,⟨xs.length,by simp,Nat.zero_le _,h0⟩,?_⟩
 rintro i m σ H ⟨rfl,hi,p⟩
 have q:=hl i σ H hi p
 by_cases hlt:i<xs.length
 ·refine .inr ⟨⟨xs,xs[i],q,by simp [hlt]⟩,Pv (i+1),λσ' H' p'=>⟨xs.length-(i+1),by omega,rfl,hlt,p'⟩,λx H' y=>?_⟩
  obtain ⟨e,y⟩:=y
  subst e
  exact hs i x σ _ (y xs q) p
 ·have e:i=xs.length:=by omega
  subst e
  exact .inl ⟨⟨xs,q,Nat.le_refl _⟩,hd σ H p⟩
theorem i5 {lo:Int} {n:Nat} {g:TG} {tb:TS} {D:fJ} {σ:St} {H:Hp} (Pv:Nat->St->Hp->Prop) (h0:Pv 0 σ H)
  (hs:∀ i σ H,i<n->Pv i σ H->g (.int (lo+i)) σ H λσ2 H2=>tb { D with nx:=Pv (i+1),ct:=Pv (i+1),bk:=D.nx } σ2 H2) (hd:∀ σ H,Pv n σ H->D.nx σ H) :
  ∃ W:Nat->Nat->St->Hp->Prop,(∃ m,W 0 m σ H)/\∀ i m σ H,W i m σ H->
   ((Itr lo n).stop i H/\D.nx σ H)\/((Itr lo n).go i H/\∃ N:St->Hp->Prop,(∀ σ' H',N σ' H'->∃ m',m' < m/\W (i+1) m' σ' H')/\∀ x H',(Itr lo n).yld i H x H'->g x σ H' λσ2 H2=>tb { D with nx:=N,ct:=N,bk:=D.nx } σ2 H2):=by
 refine ⟨λi m σ H=>m=n-i/\i<=n/\Pv i σ H,⟨n,by simp,Nat.zero_le _,h0⟩,?_⟩
 rintro i m σ H ⟨rfl,hi,p⟩
 by_cases hlt:i<n
 ·refine .inr ⟨hlt,Pv (i+1),λσ' H' p'=>⟨n-(i+1),by omega,rfl,hlt,p'⟩,λx H' y=>?_⟩
  obtain ⟨e,y⟩:=y
  subst e y
  exact hs i σ _ hlt p
 ·have e:i=n:=by omega
  subst e
  exact .inl ⟨Nat.le_refl _,hd σ H p⟩
theorem gr {c:TT} {tb:TS} {D:fJ} {σ:St} {H:Hp} (Pv:St->Hp->Prop) (μ:St->Hp->Nat) (h0:Pv σ H)
  (hs:∀ σ H,Pv σ H->c σ H λb H1=>if b=true then tb { D with nx:=λσ' H'=>Pv σ' H'/\μ σ' H' < μ σ H,ct:=λσ' H'=>Pv σ' H'/\μ σ' H' < μ σ H,bk:=D.nx } σ H1 else D.nx σ H1)
  (mono:∀ σ H Q Q',(∀ b H1,Q b H1->Q' b H1)->c σ H Q->c σ H Q'):tWhile c tb D σ H:=by
 refine ⟨λm σ H=>m=μ σ H/\Pv σ H,⟨_,rfl,h0⟩,?_⟩
 rintro m σ H ⟨rfl,p⟩
 refine mono σ H _ _ (λb H1 q=>?_) (hs σ H p)
 cases b with
 | true=>exact ⟨_,λσ' H' ⟨p',l⟩=>⟨_,l,rfl,p'⟩,q⟩
 | false=>exact q
abbrev R2:=V->V->Hp->VK->Prop
def OpR (X:Cx) (f:Value->Value->Sem Value) (r:R2):Prop:=
 ∀ (pins:List (Addr × Obj)) (s:Shared) (σ:St) (H:Hp) (x y:V) (v u:Value) (Q:VK),Inv X pins σ H s->o4 x v->o4 y u->r x y H Q->
  wpAny (model X.prog X.w) X.A (f v u) (EP X pins σ Q) X.xe s
def UnR (X:Cx) (f:Value->Sem Value) (r:V->Hp->VK->Prop):Prop:=
 ∀ (pins:List (Addr × Obj)) (s:Shared) (σ:St) (H:Hp) (x:V) (v:Value) (Q:VK),Inv X pins σ H s->o4 x v->r x H Q->
  wpAny (model X.prog X.w) X.A (f v) (EP X pins σ Q) X.xe s
def dE (X:Cx) (f:Value) (r:List V->Hp->VK->Prop):Prop:=
 ∀ (pins:List (Addr × Obj)) (s:Shared) (σ:St) (H:Hp) (xs:List V) (us:List Value) (Q:VK),Inv X pins σ H s->o0 xs us->r xs H Q->
  wpAny (model X.prog X.w) X.A (call f us) (EP X pins σ Q) X.xe s
def tOp (r:R2) (ta tb:TE):TE:=λσ H Q=>ta σ H λx H1=>tb σ H1 λy H2=>r x y H2 Q
def tUn (r:V->Hp->VK->Prop) (ta:TE):TE:=λσ H Q=>ta σ H λx H1=>r x H1 Q
def rI (C:Int->Int->Prop) (g:Int->Int->V):R2:=λx y H Q=>∃ i j,x=.int i/\y=.int j/\C i j/\Q (g i j) H
def rI0 (g:Int->Int->V):R2:=λx y H Q=>∃ i j,x=.int i/\y=.int j/\Q (g i j) H
def rU (g:Int->V):V->Hp->VK->Prop:=λx H Q=>∃ i,x=.int i/\Q (g i) H
section
variable {X:Cx} {a b c:Expr} {ta tb tc:TE} {pos:Pos}
theorem binT (ha:PE X a ta) (hb:PE X b tb) {pins:List (Addr × Obj)} {s:Shared} {σ:St} {H:Hp} {R:V->V->Hp->Prop} (I:Inv X pins σ H s)
  (h:ta σ H λx H1=>tb σ H1 λy H2=>R x y H2) {Q:Value->Shared->Prop} {f:Value->Value->Sem Value}
  (hf:∀ v u s2 x y H2,Inv X pins σ H2 s2->o4 x v->o4 y u->R x y H2->wpAny (model X.prog X.w) X.A (f v u) Q X.xe s2) :
  wpAny (model X.prog X.w) X.A (eval a X.env) (λv s₁=>wpAny (model X.prog X.w) X.A (eval b X.env) (λu s₂=>wpAny (model X.prog X.w) X.A (f v u) Q X.xe s₂) X.xe s₁) X.xe s:=by
 refine thn (ha pins s σ H _ I h) λv s1 ⟨x,H1,I1,r1,q1⟩=>?_
 refine thn (hb pins s1 σ H1 _ I1 q1) λu s2 ⟨y,H2,I2,r2,q2⟩=>?_
 exact hf v u s2 x y H2 I2 r1 r2 q2
theorem ap {op:Operator} {r:R2} (ho:OpR X (binaryOp op) r) (ha:PE X a ta) (hb:PE X b tb):PE X (.BinOp a op b pos) (tOp r ta tb):=by
 intro pins s σ H Q I h
 exact wpAny_BinOp (binT ha hb I h λv u s2 x y H2 I2 rx ry q=>ho pins s2 σ H2 x y v u Q I2 rx ry q)
theorem pe_un {op:UnaryOp} {r:V->Hp->VK->Prop} (ho:UnR X (unaryOp op) r) (ha:PE X a ta):PE X (.UnaryOp op a pos) (tUn r ta):=by
 intro pins s σ H Q I h
 exact UnaryOp_ (thn (ha pins s σ H _ I h) λv s1 ⟨x,H1,I1,r1,q1⟩=>ho pins s1 σ H1 x v Q I1 r1 q1)
theorem opI {f:Value->Value->Sem Value} {C:Int->Int->Prop} {g:Int->Int->Int}
  (rule:∀ (i j:Int) (t u:Tok) (s:Shared) (Q:Value->Shared->Prop) (E:Value->Shared->Prop),C i j->Q (.int (g i j) s.toks) { s with toks:=s.toks+1 }->wpAny (model X.prog X.w) X.A (f (.int i t) (.int j u)) Q E s) :
  OpR X f (rI C λi j=>.int (g i j)):=by
 intro pins s σ H x y v u Q I rx ry h
 obtain ⟨i,j,rfl,rfl,hc,q⟩:=h
 obtain ⟨t,rfl⟩:=rx
 obtain ⟨t',rfl⟩:=ry
 exact rule i j t t' s _ _ hc ⟨.int (g i j),H,I.tok _,⟨_,rfl⟩,q⟩
theorem opI0 {f:Value->Value->Sem Value} {g:Int->Int->Int}
  (rule:∀ (i j:Int) (t u:Tok) (s:Shared) (Q:Value->Shared->Prop) (E:Value->Shared->Prop),Q (.int (g i j) s.toks) { s with toks:=s.toks+1 }->wpAny (model X.prog X.w) X.A (f (.int i t) (.int j u)) Q E s) :
  OpR X f (rI0 λi j=>.int (g i j)):=by
 intro pins s σ H x y v u Q I rx ry h
 obtain ⟨i,j,rfl,rfl,q⟩:=h
 obtain ⟨t,rfl⟩:=rx
 obtain ⟨t',rfl⟩:=ry
 exact rule i j t t' s _ _ ⟨.int (g i j),H,I.tok _,⟨_,rfl⟩,q⟩
theorem opB0 {f:Value->Value->Sem Value} {g:Int->Int->Bool}
  (rule:∀ (i j:Int) (t u:Tok) (s:Shared) (Q:Value->Shared->Prop) (E:Value->Shared->Prop),Q (.bool (g i j)) s->wpAny (model X.prog X.w) X.A (f (.int i t) (.int j u)) Q E s) :
  OpR X f (rI0 λi j=>.bl (g i j)):=by
 intro pins s σ H x y v u Q I rx ry h
 obtain ⟨i,j,rfl,rfl,q⟩:=h
 obtain ⟨t,rfl⟩:=rx
 obtain ⟨t',rfl⟩:=ry
 exact rule i j t t' s _ _ ⟨.bl (g i j),H,I,rfl,q⟩
def CPow (i j:Int):Prop:=0<=j/\j<=1000000/\i.natAbs<2 ^ 64
def CMul (i j:Int):Prop:=(-(2 ^ 64)<i/\i<2 ^ 64)\/(-(2 ^ 64)<j/\j<2 ^ 64)
theorem CMul.ok {i j:Int} (h:CMul i j):IntMulOk i j:=by
 rcases h with ⟨h1,h2⟩ | ⟨h1,h2⟩
 ·exact .of_left (intBits_le_64 h1 h2)
 ·exact .of_right (intBits_le_64 h1 h2)
theorem aL:OpR X (binaryOp .Add) (rI0 λi j=>.int (i+j)):=opI0 λ_ _ _ _ _ _ _ q=>add_int q
theorem bf:OpR X (binaryOp .Sub) (rI0 λi j=>.int (i-j)):=opI0 λ_ _ _ _ _ _ _ q=>sub_int q
theorem bx:OpR X (binaryOp .Mult) (rI CMul λi j=>.int (i*j)):=opI λ_ _ _ _ _ _ _ hc q=>mul_int q hc.ok
theorem bA:OpR X (binaryOp .Mod) (rI (λ_ j=>0<j) λi j=>.int (i % j)):=opI λi j _ _ _ _ _ hc q=>by
 have h1:(0:Int)<j:=hc
 exact mod_int' (by omega) (by rw [Int.fmod_eq_emod_of_nonneg i (by omega)]; exact q)
theorem fA:OpR X (binaryOp .Pow) (rI CPow λi j=>.int (i ^ j.toNat)):=opI λ_ _ _ _ _ _ _ hc q=>pow_int_small hc.1 hc.2.1 hc.2.2 q
theorem unI {f:Value->Sem Value} {g:Int->Int}
  (rule:∀ (i:Int) (t:Tok) (s:Shared) (Q:Value->Shared->Prop) (E:Value->Shared->Prop),Q (.int (g i) s.toks) { s with toks:=s.toks+1 }->wpAny (model X.prog X.w) X.A (f (.int i t)) Q E s) :
  UnR X f (rU λi=>.int (g i)):=by
 intro pins s σ H x v Q I rx h
 obtain ⟨i,rfl,q⟩:=h
 obtain ⟨t,rfl⟩:=rx
 exact rule i t s _ _ ⟨.int (g i),H,I.tok _,⟨_,rfl⟩,q⟩
theorem nI:UnR X (unaryOp .USub) (rU λi=>.int (-i)):=unI λ_ _ _ _ _ q=>neg_int q
end
def scal:V->V->Bool
 | .non,.non=>true | .non,.int _=>true | .int _,.non=>true | .non,.bl _=>true | .bl _,.non=>true | .non,.str _=>true | .str _,.non=>true
 | .int _,.int _=>true | .bl _,.bl _=>true | .str _,.str _=>true | .byt _,.byt _=>true
 | .int _,.str _=>true | .str _,.int _=>true | .bl _,.str _=>true | .str _,.bl _=>true
 | _,_=>false
def rEq:R2:=λx y H Q=>scal x y=true/\Q (.bl (decide (x=y))) H
def rNe:R2:=λx y H Q=>scal x y=true/\Q (.bl (!decide (x=y))) H
theorem dec_int {i j:Int}:decide (V.int i=V.int j)=(i == j):=by
 rw [Bool.eq_iff_iff]
 simp
theorem dec_bl {i j:Bool}:decide (V.bl i=V.bl j)=(i == j):=by
 rw [Bool.eq_iff_iff]
 simp
theorem dec_str {i j:Str}:decide (V.str i=V.str j)=(i == j):=by
 rw [Bool.eq_iff_iff]
 simp
theorem dec_byt {i j:Array UInt8}:decide (V.byt i=V.byt j)=(i.toList == j.toList):=by
 rw [Bool.eq_iff_iff]
 cases i
 cases j
 simp
section
variable {X:Cx} {a b c:Expr} {ta tb tc:TE} {pos:Pos}
theorem aQ {pins:List (Addr × Obj)} {σ:St} {H:Hp} {s:Shared} {Q:VK} {k k':Bool} (I:Inv X pins σ H s) (q:Q (.bl k) H) (e:k=k'):EP X pins σ Q (.bool k') s:=by
 subst e
 exact ⟨.bl k,H,I,rfl,q⟩
theorem bM:OpR X (compareOp .Eq) rEq:=by
 intro pins s σ H x y v u Q I rx ry h
 obtain ⟨hs,q⟩:=h
 cases x with
 | non=>
  cases rx
  cases y with
  | non=>cases ry; exact PySem.EqNone.eq_none_none (aQ I q (by simp))
  | bl j=>cases ry; exact PySem.EqNone.eq_none_bool (aQ I q (by simp))
  | int j=>obtain ⟨t',rfl⟩:=ry; exact PySem.EqNone.eq_none_int (aQ I q (by simp))
  | str j=>obtain ⟨t',rfl⟩:=ry; exact PySem.EqNone.eq_none_str (aQ I q (by simp))
  | _=>exact absurd (show false=true from hs) Bool.false_ne_true
 | bl i=>
  cases rx
  cases y with
  | non=>cases ry; exact PySem.EqNone.eq_bool_none (aQ I q (by simp))
  | bl j=>cases ry; exact eq_bool (aQ I q dec_bl)
  | str j=>obtain ⟨t',rfl⟩:=ry; exact PySem.EqMixed.eq_bool_str (aQ I q (by simp))
  | _=>exact absurd (show false=true from hs) Bool.false_ne_true
 | int i=>
  obtain ⟨t,rfl⟩:=rx
  cases y with
  | non=>cases ry; exact PySem.EqNone.eq_int_none (aQ I q (by simp))
  | int j=>obtain ⟨t',rfl⟩:=ry; exact eq_int (aQ I q dec_int)
  | str j=>obtain ⟨t',rfl⟩:=ry; exact PySem.EqMixed.eq_int_str (aQ I q (by simp))
  | _=>exact absurd (show false=true from hs) Bool.false_ne_true
 | str i=>
  obtain ⟨t,rfl⟩:=rx
  cases y with
  | non=>cases ry; exact PySem.EqNone.eq_str_none (aQ I q (by simp))
  | bl j=>cases ry; exact PySem.EqMixed.eq_str_bool (aQ I q (by simp))
  | int j=>obtain ⟨t',rfl⟩:=ry; exact PySem.EqMixed.eq_str_int (aQ I q (by simp))
  | str j=>obtain ⟨t',rfl⟩:=ry; exact eq_str (aQ I q dec_str)
  | _=>exact absurd (show false=true from hs) Bool.false_ne_true
 | byt i=>
  obtain ⟨t,rfl⟩:=rx
  cases y with
  | byt j=>obtain ⟨t',rfl⟩:=ry; exact PySem.W.eq_bytes (aQ I q dec_byt)
  | _=>exact absurd (show false=true from hs) Bool.false_ne_true
 | _=>cases y<;>exact absurd (show false=true from hs) Bool.false_ne_true
theorem mM:OpR X (compareOp .NotEq) rNe:=by
 intro pins s σ H x y v u Q I rx ry h
 obtain ⟨hs,q⟩:=h
 cases x with
 | non=>
  cases rx
  cases y with
  | non=>cases ry; exact PySem.EqNone.ne_none_none (aQ I q (by simp))
  | bl j=>cases ry; exact PySem.EqNone.ne_none_bool (aQ I q (by simp))
  | int j=>obtain ⟨t',rfl⟩:=ry; exact PySem.EqNone.ne_none_int (aQ I q (by simp))
  | str j=>obtain ⟨t',rfl⟩:=ry; exact PySem.EqNone.ne_none_str (aQ I q (by simp))
  | _=>exact absurd (show false=true from hs) Bool.false_ne_true
 | bl i=>
  cases rx
  cases y with
  | non=>cases ry; exact PySem.EqNone.ne_bool_none (aQ I q (by simp))
  | bl j=>cases ry; exact ne_bool (aQ I q (congrArg not dec_bl))
  | str j=>obtain ⟨t',rfl⟩:=ry; exact PySem.EqMixed.ne_bool_str (aQ I q (by simp))
  | _=>exact absurd (show false=true from hs) Bool.false_ne_true
 | int i=>
  obtain ⟨t,rfl⟩:=rx
  cases y with
  | non=>cases ry; exact PySem.EqNone.ne_int_none (aQ I q (by simp))
  | int j=>obtain ⟨t',rfl⟩:=ry; exact ne_int (aQ I q (congrArg not dec_int))
  | str j=>obtain ⟨t',rfl⟩:=ry; exact PySem.EqMixed.ne_int_str (aQ I q (by simp))
  | _=>exact absurd (show false=true from hs) Bool.false_ne_true
 | str i=>
  obtain ⟨t,rfl⟩:=rx
  cases y with
  | non=>cases ry; exact PySem.EqNone.ne_str_none (aQ I q (by simp))
  | bl j=>cases ry; exact PySem.EqMixed.ne_str_bool (aQ I q (by simp))
  | int j=>obtain ⟨t',rfl⟩:=ry; exact PySem.EqMixed.ne_str_int (aQ I q (by simp))
  | str j=>obtain ⟨t',rfl⟩:=ry; exact ne_str (aQ I q (congrArg not dec_str))
  | _=>exact absurd (show false=true from hs) Bool.false_ne_true
 | byt i=>
  obtain ⟨t,rfl⟩:=rx
  cases y with
  | byt j=>obtain ⟨t',rfl⟩:=ry; exact PySem.W.ne_bytes (aQ I q (congrArg not dec_byt))
  | _=>exact absurd (show false=true from hs) Bool.false_ne_true
 | _=>cases y<;>exact absurd (show false=true from hs) Bool.false_ne_true
theorem jC:OpR X (compareOp .Lt) (rI0 λi j=>.bl (decide (i<j))):=opB0 λ_ _ _ _ _ _ _ q=>lt_int q
theorem gM:OpR X (compareOp .LtE) (rI0 λi j=>.bl (decide (i<=j))):=opB0 λ_ _ _ _ _ _ _ q=>le_int q
theorem dZ:OpR X (compareOp .Gt) (rI0 λi j=>.bl (decide (j<i))):=opB0 λ_ _ _ _ _ _ _ q=>gt_int q
theorem op_ge:OpR X (compareOp .GtE) (rI0 λi j=>.bl (decide (j<=i))):=opB0 λ_ _ _ _ _ _ _ q=>ge_int q
theorem op_isN:OpR X (compareOp .Is) (λx y H Q=>y=.non/\Q (.bl (decide (x=.non))) H):=by
 intro pins s σ H x y v u Q I rx ry h
 obtain ⟨rfl,q⟩:=h
 cases ry
 refine is_none_gen (aQ I q ?_)
 cases x<;>first
  | (cases rx; rfl)
  | (obtain ⟨t,rfl⟩:=rx; rfl)
theorem ay (b:Expr) {op:CmpOp} (h:op ≠ .In:=by decide) (h2:op ≠ .NotIn:=by decide):behindInMarks op b=false:=by
 have e1:(op == CmpOp.In)=false:=by cases op<;>first | rfl | exact absurd rfl h
 have e2:(op == CmpOp.NotIn)=false:=by cases op<;>first | rfl | exact absurd rfl h2
 cases b<;>simp [behindInMarks,e1,e2]
theorem bZ {op:CmpOp} {r:R2} (ho:OpR X (compareOp op) r) (ha:PE X a ta) (hb:PE X b tb) (hm:behindInMarks op b=false):PE X (.Compare a [op] [b] pos) (tOp r ta tb):=by
 intro pins s σ H Q I h
 exact wpAny_Compare1 (binT ha hb I h λv u s2 x y H2 I2 rx ry q=>ho pins s2 σ H2 x y v u Q I2 rx ry q) hm
def tTest (t:TE):TT:=λσ H Q=>t σ H λx H'=>∃ k,x=.bl k/\Q k H'
theorem aw {op:CmpOp} {r:R2} (ho:OpR X (compareOp op) r) (ha:PE X a ta) (hb:PE X b tb) (hm:behindInMarks op b=false):PT X (.Compare a [op] [b] pos) (tTest (tOp r ta tb)):=by
 intro pins s σ H Q I h
 refine wpAny_isTrue_Compare1 (thn (ha pins s σ H _ I h) λv s1 ⟨x,H1,I1,r1,q1⟩=>thn (hb pins s1 σ H1 _ I1 q1) λu s2 ⟨y,H2,I2,r2,q2⟩=>
  thn (ho pins s2 σ H2 x y v u _ I2 r1 r2 q2) λc s3 ⟨z,H3,I3,r3,k,e,q3⟩=>?_) hm
 subst e
 cases r3
 exact wpAny_truthy_bool ⟨H3,I3,q3⟩
def tChain (r r':R2) (ta tb tc:TE):TE:=λσ H Q=>ta σ H λx H1=>tb σ H1 λy H2=>r x y H2 λz H3=>∃ k,z=.bl k/\
 (if k=true then tc σ H3 λw' H4=>r' y w' H4 Q else Q (.bl false) H3)
theorem pe_chain {op op':CmpOp} {r r':R2} (ho:OpR X (compareOp op) r) (ho':OpR X (compareOp op') r') (ha:PE X a ta) (hb:PE X b tb) (hc:PE X c tc)
  (hm:lastMarks [op,op'] [b,c]=false:=by with_unfolding_all rfl):PE X (.Compare a [op,op'] [b,c] pos) (tChain r r' ta tb tc):=by
 intro pins s σ H Q I h
 refine Compare_chain (thn (ha pins s σ H _ I h) λv s1 ⟨x,H1,I1,r1,q1⟩=>chain_link (thn (hb pins s1 σ H1 _ I1 q1) λu s2 ⟨y,H2,I2,r2,q2⟩=>
  thn (ho pins s2 σ H2 x y v u _ I2 r1 r2 q2) λd s3 ⟨z,H3,I3,r3,k,e,q3⟩=>?_)) hm
 subst e
 cases r3
 refine wpAny_truthy_bool ?_
 cases k with
 | false=>exact ite_ff ⟨.bl false,H3,I3,rfl,q3⟩
 | true=>exact ite_tt (chain_last (thn (hc pins s3 σ H3 _ I3 q3) λw' s4 ⟨z',H4,I4,r4,q4⟩=>ho' pins s4 σ H4 y z' u w' Q I4 r2 r4 q4))
theorem kG {op op':CmpOp} {r r':R2} (ho:OpR X (compareOp op) r) (ho':OpR X (compareOp op') r') (ha:PE X a ta) (hb:PE X b tb) (hc:PE X c tc)
  (hm:lastMarks [op,op'] [b,c]=false:=by with_unfolding_all rfl):PT X (.Compare a [op,op'] [b,c] pos) (tTest (tChain r r' ta tb tc)):=by
 intro pins s σ H Q I h
 refine isTrue_chain (thn (ha pins s σ H _ I h) λv s1 ⟨x,H1,I1,r1,q1⟩=>test_link (thn (hb pins s1 σ H1 _ I1 q1) λu s2 ⟨y,H2,I2,r2,q2⟩=>
  thn (ho pins s2 σ H2 x y v u _ I2 r1 r2 q2) λd s3 ⟨z,H3,I3,r3,k,e,q3⟩=>?_)) hm
 subst e
 cases r3
 refine wpAny_truthy_bool ?_
 cases k with
 | false=>
  obtain ⟨k',e',q'⟩:=q3
  cases e'
  exact ite_ff ⟨H3,I3,q'⟩
 | true=>
  refine ite_tt (test_last (thn (hc pins s3 σ H3 _ I3 q3) λw' s4 ⟨z',H4,I4,r4,q4⟩=>thn (ho' pins s4 σ H4 y z' u w' _ I4 r2 r4 q4) λd' s5 ⟨z2,H5,I5,r5,k2,e2,q5⟩=>?_))
  subst e2
  cases r5
  exact wpAny_truthy_bool ⟨H5,I5,q5⟩
theorem nO:(sizeLine:Nat)<2 ^ 63:=by rw [sizeLine_eq]; decide
theorem gO {x:V} {us:List Value} (r:o0 [x] us):∃ u,us=[u]/\o4 x u:=by
 cases r with
 | cons r1 r2=>cases r2; exact ⟨_,rfl,r1⟩
theorem vals2 {x y:V} {us:List Value} (r:o0 [x,y] us):∃ u w',us=[u,w']/\o4 x u/\o4 y w':=by
 cases r with
 | cons r1 r2=>
  cases r2 with
  | cons r3 r4=>cases r4; exact ⟨_,_,rfl,r1,r3⟩
theorem call_abs:dE X (.builtin "abs") (λxs H Q=>∃ i,xs=[.int i]/\Q (.int (if i<0 then -i else i)) H):=by
 intro pins s σ H xs us Q I r h
 obtain ⟨i,rfl,q⟩:=h
 obtain ⟨u,rfl,t,rfl⟩:=gO r
 exact call_abs_int λu tk=>⟨.int (if i<0 then -i else i),H,I.tok _,⟨_,rfl⟩,q⟩
theorem call_max2 (hc:X.calm=true):dE X (.builtin "max") (λxs H Q=>∃ i j,xs=[.int i,.int j]/\Q (.int (if j > i then j else i)) H):=by
 intro pins s σ H xs us Q I r h
 obtain ⟨i,j,rfl,q⟩:=h
 obtain ⟨u,w',rfl,⟨t,rfl⟩,⟨t',rfl⟩⟩:=vals2 r
 refine max_two_ints (I.ok.hd hc) λh' tk k=>⟨_,H,I.kept k,?_,q⟩
 by_cases hj:j > i
 ·rw [if_pos hj,if_pos hj]; exact ⟨_,rfl⟩
 ·rw [if_neg hj,if_neg hj]; exact ⟨_,rfl⟩
theorem call_min2 (hc:X.calm=true):dE X (.builtin "min") (λxs H Q=>∃ i j,xs=[.int i,.int j]/\Q (.int (if j<i then j else i)) H):=by
 intro pins s σ H xs us Q I r h
 obtain ⟨i,j,rfl,q⟩:=h
 obtain ⟨u,w',rfl,⟨t,rfl⟩,⟨t',rfl⟩⟩:=vals2 r
 refine min_two_ints (I.ok.hd hc) λh' tk k=>⟨_,H,I.kept k,?_,q⟩
 by_cases hj:j<i
 ·rw [if_pos hj,if_pos hj]; exact ⟨_,rfl⟩
 ·rw [if_neg hj,if_neg hj]; exact ⟨_,rfl⟩
theorem mz:dE X (.type "int") (λxs H Q=>(∃ i,xs=[.int i]/\Q (.int i) H)\/∃ k,xs=[.bl k]/\Q (.int (if k then 1 else 0)) H):=by
 intro pins s σ H xs us Q I r h
 rcases h with ⟨i,rfl,q⟩ | ⟨k,rfl,q⟩
 ·obtain ⟨u,rfl,t,rfl⟩:=gO r
  exact call_int_int ⟨.int i,H,I,⟨_,rfl⟩,q⟩
 ·obtain ⟨u,rfl,r1⟩:=gO r
  cases r1
  exact call_int_bool ⟨.int (if k then 1 else 0),H,I.tok _,⟨_,rfl⟩,q⟩
end
structure ObjM (h:Heap) (x dx C:Addr) (mA:Str->Option Value):Prop where
 obj:h.get? x=some (instObj C dx)
 ns:h.Ns1 dx mA
 ne:dx ≠ x
theorem lookIn_ns {h:Heap} {dx:Addr} {mA:Str->Option Value} (n:h.Ns1 dx mA):∃ od,h.get? dx=some od/\∀ name,lookIn name od=some (mA name):=by
 obtain ⟨o,es,ep,ho,hd,hk,_,hm⟩:=n
 refine ⟨o,ho,λname=>?_⟩
 have e:=hm name
 unfold nsFind findBy at e
 rw [<- Array.find?_toList] at e
 unfold lookIn
 rw [hd]
 dsimp only
 split
 ·rename_i y q
  rw [q] at e
  exact congrArg some e
 ·rename_i q
  rw [q] at e
  have a:es.toList.any (·.refKey)=false:=by
   rw [List.any_eq_false]
   intro y hy
   obtain ⟨z,t,hkey⟩:=hk y (Array.mem_toList_iff.mp hy)
   simp [DictEntry.refKey,hkey]
  have a':¬ es.toList.any (·.refKey)=true:=by rw [a]; exact Bool.false_ne_true
  rw [if_neg a']
  exact congrArg some e
theorem ObjM.look {h:Heap} {x dx C:Addr} {mA:Str->Option Value} (I:ObjM h x dx C mA):∃ od,PySem.W.InstAt h x (instObj C dx) C (some od)/\∀ name,lookIn name od=some (mA name):=
 let ⟨od,ho,hl⟩:=lookIn_ns I.ns
 ⟨od,⟨I.obj,rfl,rfl,ho⟩,hl⟩
section
variable {prog:Program} {w:World} {A:Around} {E:Value->Shared->Prop} {s:Shared} {K:Frag} {x dx C f:Addr} {mA:Str->Option Value} {name:Str} {v:Value}
theorem get_map {expr:Bool} {Q:Value->Shared->Prop} (X:K.In s.heap) (I:ObjM s.heap x dx C mA) (hg:plainGet K C name=true) (hh:hasDictIn K C=true)
  (ha:findIn K (.ref C) name=some none) (hv:mA name=some v) (hv':PySem.W.handedIn v=true) (h:Q v { s with toks:=s.toks+1 }) :
  wpAny (model prog w) A (getAttr (.ref x) name expr) Q E s:=by
 obtain ⟨od,J,hl⟩:=I.look
 exact PySem.W.get_value X J (PySem.W.plainGet_of hg).1 (PySem.W.findObj_own hh ha rfl (by rw [hl,hv])) hv' h
theorem get_meth {pl:Sem Bool} {Q:Value × List Value->Shared->Prop} (X:K.In s.heap) (I:ObjM s.heap x dx C mA) (hg:plainGet K C name=true)
  (hf:findIn K (.ref C) name=some (some (.ref f))) (ht:isFn K (.ref f)=true) (hv:mA name=none) (h:Q (.ref f,[.ref x]) s) :
  wpAny (model prog w) A (getMethod (.ref x) name pl) Q E s:=by
 obtain ⟨od,J,hl⟩:=I.look
 exact PySem.W.method_fn X J (PySem.W.plainGet_of hg).1 (PySem.W.plainGet_of hg).2 hf (beq_iff_eq.mp ht) (by show (lookIn name od).map (·.isSome)=some false; rw [hl,hv]; rfl) h
theorem set_map {ns:List Str} {Q:Unit->Shared->Prop} (X:K.In s.heap) (I:ObjM s.heap x dx C mA)
  (hs:findIn K (.ref C) "__setattr__"=some (some (.builtin "object.__setattr__"))) (hp:plainOver K C=true) (ht:PySem.W.takerIn K C name=some none) (hh:hasDictIn K C=true)
  (hw:PySem.Within mA ns) (hsz:ns.length<=sizeLine)
  (h:∀ h',ObjM h' x dx C (λy=>if y=name then some v else mA y)->Heap.SameBut dx s.heap h'->Q () { s with heap:=h',toks:=s.toks+2 }) :
  wpAny (model prog w) A (setAttr (.ref x) name v) Q E s:=by
 obtain ⟨od,J,hl⟩:=I.look
 refine PySem.W.set_plain X J hs (PySem.W.osa_open (s:={ s with toks:=s.toks+1 }) (r:=none) X J hp ht λb=>?_)
 obtain ⟨cd,hc,hd'⟩:=PySem.W.any_some hh
 have hx:s.heap.get? x=some ⟨.ref C,some dx,.plain,#[]⟩:=I.obj
 refine wpAny_bind (wpAny_pure (wpAny_bind (wpAny_bind (wpAny_loadPart hx (wpAny_bind (PySem.W.Looks.here (s:={ s with toks:=s.toks+1 }) (PySem.W.looks_clsIn X hc) ?_))))))
 rw [hd']
 refine wpAny_pure (a:=some dx) (wpAny_bind (wpAny_pure (wpAny_bind ?_)))
 refine wpAny_nsSet1 (s:={ s with toks:=s.toks+1 }) I.ns λh' hn2 hs2=>?_
 obtain ⟨oD,esD,epD,hoD,hdD,hcD⟩:=hn2.count (PySem.Within.cons name v hw)
 refine wpAny_bind (wpAny_lookBehind hoD (by rw [hdD]; exact pastItsLine_dict (Nat.le_trans hcD (by rw [length_cons]; omega))) ?_)
 exact wpAny_pure (h _ ⟨(hs2.2 _ (Ne.symm I.ne)).trans I.obj,hn2,I.ne⟩ hs2)
theorem make_map {R:Result->Shared->Prop} {vs:List Value} {kw:List (Str × Value)} (X:K.In s.heap) (hm:makesIn K C=true)
  (hi:findIn K (.ref C) "__init__"=some (some (.ref f))) (hf:PySem.W.typeIn K (.ref f)=some (.type "function"))
  (h:codeAny (model prog w) (A.under (.builtin "type.__call__" ⟨.ref C::vs,kw⟩)) (.call (.ref f) ⟨.ref (s.heap.objs.size+1)::vs,kw⟩) (PySem.W.InitBack (s.heap.objs.size+1) R)
   { s with heap:=(s.heap.push emptyDict).push (instObj C s.heap.objs.size) }) :
  codeAny (model prog w) A (.call (.ref C) ⟨vs,kw⟩) R s:=by
 obtain ⟨hh,g,d,t,os⟩:=s
 exact PySem.W.make_core (PySem.W.makes_of X hm) (PySem.W.looks_findIn X hi) (λself=>PySem.W.bind_fn X self hf) (.inl rfl) h
theorem make_map0 {R:Result->Shared->Prop} (X:K.In s.heap) (hm:makesIn K C=true)
  (hi:findIn K (.ref C) "__init__"=some (some (.builtin "object.__init__")))
  (hb:∀ self,PySem.W.Looks (model prog w) s.heap (bindSpecial (.builtin "object.__init__") self) (.builtin "object.__init__",[self]))
  (h:codeAny (model prog w) (A.under (.builtin "type.__call__" ⟨[.ref C],[]⟩)) (.call (.builtin "object.__init__") ⟨[.ref (s.heap.objs.size+1)],[]⟩) (PySem.W.InitBack (s.heap.objs.size+1) R)
   { s with heap:=(s.heap.push emptyDict).push (instObj C s.heap.objs.size) }) :
  codeAny (model prog w) A (.call (.ref C) ⟨[],[]⟩) R s:=by
 obtain ⟨hh,g,d,t,os⟩:=s
 exact PySem.W.make_core (PySem.W.makes_of X hm) (PySem.W.looks_findIn X hi) hb (.inr ⟨rfl,rfl⟩) h
end
def gK (f:Str) (v:V):List (Str × V)->List (Str × V)
 | []=>[(f,v)]
 | (g,x)::r=>if g=f then (g,v)::r else (g,x)::gK f v r
theorem jr (f g:Str) (v:V):∀ fs:List (Str × V),(gK f v fs).lookup g=if g=f then some v else fs.lookup g
 | []=>by
  show List.lookup g [(f,v)]=_
  by_cases h:g=f
  ·have hb:(g == f)=true:=beq_iff_eq.mpr h
   simp only [List.lookup,hb,if_pos h]
  ·have hb:(g == f)=false:=beq_eq_false_iff_ne.mpr h
   simp only [List.lookup,hb,if_neg h]
 | (k,x)::r=>by
  have ih:=jr f g v r
  rw [show gK f v ((k,x)::r)=(if k=f then (k,v)::r else (k,x)::gK f v r) from rfl]
  by_cases hk:k=f
  ·rw [if_pos hk]
   by_cases h:g=k
   ·have hb:(g == k)=true:=beq_iff_eq.mpr h
    simp only [List.lookup,hb,if_pos (h.trans hk)]
   ·have hb:(g == k)=false:=beq_eq_false_iff_ne.mpr h
    simp only [List.lookup,hb,if_neg (λe:g=f=>h (e.trans hk.symm))]
  ·rw [if_neg hk]
   by_cases h:g=k
   ·have hb:(g == k)=true:=beq_iff_eq.mpr h
    simp only [List.lookup,hb,if_neg (λe:g=f=>hk (h.symm.trans e))]
   ·have hb:(g == k)=false:=beq_eq_false_iff_ne.mpr h
    simp only [List.lookup,hb]
    exact ih
theorem i7 (f:Str) (v:V):∀ fs:List (Str × V),f ∈ (gK f v fs).map (·.1)/\∀ g,g ∈ fs.map (·.1)->g ∈ (gK f v fs).map (·.1)
 | []=>⟨by simp [gK],λg h=>by simp at h⟩
 | (k,x)::r=>by
  obtain ⟨i1,i2⟩:=i7 f v r
  rw [show gK f v ((k,x)::r)=(if k=f then (k,v)::r else (k,x)::gK f v r) from rfl]
  by_cases hk:k=f
  ·rw [if_pos hk]
   subst hk
   exact ⟨by simp,λg h=>by simpa using h⟩
  ·rw [if_neg hk]
   refine ⟨?_,λg h=>?_⟩
   ·rw [map_cons]
    exact mem_cons_of_mem _ i1
   ·rw [map_cons] at h ⊢
    rcases List.mem_cons.mp h with e | e
    ·exact List.mem_cons.mpr (.inl e)
    ·exact mem_cons_of_mem _ (i2 g e)
theorem jy (f:Str) (v:V):∀ fs:List (Str × V),(gK f v fs).length<=fs.length+1
 | []=>by simp [gK]
 | (k,x)::r=>by
  have ih:=jy f v r
  rw [show gK f v ((k,x)::r)=(if k=f then (k,v)::r else (k,x)::gK f v r) from rfl]
  by_cases hk:k=f
  ·rw [if_pos hk,length_cons,length_cons]; omega
  ·rw [if_neg hk,length_cons,length_cons]; omega
theorem RelO.some_of {v:V} {o:Option Value} (r:RelO (some v) o):∃ u,o=some u/\o4 v u:=by
 cases o with
 | none=>exact (show False from r).elim
 | some u=>exact ⟨u,rfl,r⟩
theorem RelO.none_of {o:Option Value} (r:RelO none o):o=none:=by
 cases o with
 | none=>rfl
 | some u=>exact (show False from r).elim
theorem handed_of {v:V} {u:Value} (r:o4 v u):PySem.W.handedIn u=true:=by
 cases v with
 | non=>cases (show u=Value.none from r); rfl
 | bl b=>cases (show u=Value.bool b from r); rfl
 | int i=>obtain ⟨t,e⟩:=(show ∃ t,u=Value.int i t from r); cases e; rfl
 | str x=>obtain ⟨t,e⟩:=(show ∃ t,u=Value.str x t from r); cases e; rfl
 | byt b=>obtain ⟨t,e⟩:=(show ∃ t,u=Value.bytes b t from r); cases e; rfl
 | flt b=>obtain ⟨t,e⟩:=(show ∃ t,u=Value.float b t from r); cases e; rfl
 | ref a=>cases (show u=Value.ref a from r); rfl
 | ty n=>cases (show u=Value.type n from r); rfl
section
variable {P:Program} {w:World} {H H':Hp} {h h':Heap} {a C dx:Addr} {fs fs':List (Str × V)}
theorem jN (hok:HOk P w H h) (e:H a=some (.ins C dx fs)):∃ mA,ObjM h a dx C mA/\(∀ f,RelO (fs.lookup f) (mA f))/\PySem.Within mA (fs.map (·.1))/\fs.length<=1000/\H dx=some (.own a):=by
 obtain ⟨d,z,ne,ob,mA,n,r,q⟩:=(show pd P w H h a (.ins C dx fs) from hok a _ e)
 exact ⟨mA,⟨ob,n,ne⟩,r,q,z,d⟩
end
structure Cls (K:Frag) (C:Addr):Prop where
 pg:plainGet K C Str.empty=true
 hd:hasDictIn K C=true
 po:plainOver K C=true
 sa:findIn K (.ref C) "__setattr__"=some (some (.builtin "object.__setattr__"))
theorem Cls.get {K:Frag} {C:Addr} (c:Cls K C) (f:Str):plainGet K C f=true:=c.pg
def pQ (K:Frag) (C:Addr) (f:Str):Prop:=findIn K (.ref C) f=some none
theorem pQ.taker {K:Frag} {C:Addr} {f:Str} (n:pQ K C f):PySem.W.takerIn K C f=some none:=by
 unfold PySem.W.takerIn
 rw [show findIn K (.ref C) f=some none from n]
 rfl
structure fN (K:Frag) (C:Addr) (m:Str) (f:Addr):Prop where
 at_:findIn K (.ref C) m=some (some (.ref f))
 fn:isFn K (.ref f)=true
 kp:keepIn K (.ref f)=true
section
variable {X:Cx} {pins:List (Addr × Obj)} {σ:St} {H:Hp} {s:Shared} {a C dx:Addr} {fs:List (Str × V)} {f:Str} {v:V} {A:Around} {E:Value->Shared->Prop}
theorem getattr_ok {b:Bool} {Q:Value->Shared->Prop} (I:Inv X pins σ H s) (e:H a=some (.ins C dx fs)) (c:Cls X.K C) (n:pQ X.K C f) (l:fs.lookup f=some v)
  (h:∀ u s',Inv X pins σ H s'->o4 v u->Q u s'):wpAny (model X.prog X.w) A (getAttr (.ref a) f b) Q E s:=by
 obtain ⟨mA,O,r,_,_,_⟩:=jN I.hok e
 obtain ⟨u,hu,ru⟩:=RelO.some_of (v:=v) (o:=mA f) (by rw [<- l]; exact r f)
 exact get_map I.kIn O (c.get f) c.hd n hu (handed_of ru) (h u _ (I.tok _) ru)
theorem gW {m:Str} {g:Addr} {pl:Sem Bool} {Q:Value × List Value->Shared->Prop} (I:Inv X pins σ H s) (e:H a=some (.ins C dx fs)) (c:Cls X.K C) (k:fN X.K C m g) (l:fs.lookup m=none)
  (h:Q (.ref g,[.ref a]) s):wpAny (model X.prog X.w) A (getMethod (.ref a) m pl) Q E s:=by
 obtain ⟨mA,O,r,_,_,_⟩:=jN I.hok e
 have hn:mA m=none:=RelO.none_of (by rw [<- l]; exact r m)
 exact get_meth I.kIn O (c.get m) k.at_ k.fn hn h
theorem setattr_ok {y:V} {u:Value} {Q:Unit->Shared->Prop} (I:Inv X pins σ H s) (e:H a=some (.ins C dx fs)) (c:Cls X.K C) (n:pQ X.K C f) (hl:fs.length<1000) (ry:o4 y u)
  (h:∀ s',Inv X pins σ (upd H a (.ins C dx (gK f y fs))) s'->Q () s'):wpAny (model X.prog X.w) A (setAttr (.ref a) f u) Q E s:=by
 obtain ⟨mA,O,r,wi,_,ho⟩:=jN I.hok e
 have hz:(fs.map (·.1)).length<=sizeLine:=by rw [length_map,sizeLine_eq]; omega
 refine set_map I.kIn O c.sa c.po n.taker c.hd wi hz λh' O' sb=>h _ ?_
 have hd:∃ o,h'.get? dx=some o:=let ⟨o,_,_,e',_⟩:=O'.ns; ⟨o,e'⟩
 refine I.write (x:=a) (e:=dx) (by rw [e]; exact True.intro) (.inr ho) (λb q hb z=>(sb.2 b hb).trans z) hd ?_
 refine ⟨by rw [ao O.ne]; exact ho,?_,O.ne,O'.obj,_,O'.ns,λg=>?_,λg hg=>?_⟩
 ·have:=jy f y fs; omega
 ·show RelO ((gK f y fs).lookup g) (if g=f then some u else mA g)
  rw [jr]
  by_cases q:g=f
  ·rw [if_pos q,if_pos q]; exact ry
  ·rw [if_neg q,if_neg q]; exact r g
 ·by_cases q:g=f
  ·rw [q]; exact (i7 f y fs).1
  ·refine (i7 f y fs).2 g (wi g λz=>hg ?_)
   show (if g=f then some u else mA g)=none
   rw [if_neg q]; exact z
theorem Inv.made (I:Inv X pins σ H s):Inv X pins σ (upd (upd H s.heap.objs.size (.own (s.heap.objs.size+1))) (s.heap.objs.size+1) (.ins C s.heap.objs.size []))
  { s with heap:=(s.heap.push emptyDict).push (instObj C s.heap.objs.size) }:=by
 have e1:(s.heap.push emptyDict).get? s.heap.objs.size=some emptyDict:=get?_push_size s.heap rfl
 have e2:((s.heap.push emptyDict).push (instObj C s.heap.objs.size)).get? (s.heap.objs.size+1)=some (instObj C s.heap.objs.size):=by
  have:=get?_push_size (s.heap.push emptyDict) (o:=instObj C s.heap.objs.size) rfl
  rwa [size_push] at this
 have e3:(s.heap.push emptyDict).Ns s.heap.objs.size (λ_=>none):=⟨emptyDict,#[],_,e1,rfl,(λe he=>absurd he (by simp)),λ_=>rfl⟩
 have I1:=I.laid (a:=s.heap.objs.size) (o:=.own (s.heap.objs.size+1)) (h':=s.heap.push emptyDict) (t':=s.toks) (λb u q=>get?_push_of_some _ q) (Nat.le_refl _) ⟨_,e1⟩
 refine I1.laid (a:=s.heap.objs.size+1) (o:=.ins C s.heap.objs.size []) (t':=s.toks) (λb u q=>get?_push_of_some _ q) (Nat.le_of_eq (size_push _ _)) ?_
 have ne:s.heap.objs.size ≠ s.heap.objs.size+1:=Nat.ne_of_lt (Nat.lt_succ_self _)
 refine ⟨by rw [ao ne,ac],Nat.zero_le _,ne,e2,λ_=>none,(Heap.Ns1.of_empty e3).at λo q=>get?_push_of_some _ q,λ_=>True.intro,λy hy=>absurd rfl hy⟩
theorem attr_of {prog:Program} {w:World} {env:Env} {e:Expr} {f:Str} {pos:Pos} {s:Shared} {Q:Value->Shared->Prop} (hb:attributeBase e f env (eval e env)=eval e env)
  (h:wpAny (model prog w) A (eval e env) (λo s₁=>wpAny (model prog w) A (getAttr o f true) Q E s₁) E s):wpAny (model prog w) A (eval (.Attribute e f pos) env) Q E s:=
 Attribute_any_ h (by rw [arm_eval_Attribute,hb])
end
def tFld (K:Frag) (ta:TE) (f:Str):TE:=λσ H Q=>ta σ H λx H1=>∃ a C dx fs v,x=.ref a/\H1 a=some (.ins C dx fs)/\Cls K C/\pQ K C f/\fs.lookup f=some v/\Q v H1
def sFld (K:Frag) (ta tv:TE) (f:Str):TS:=λD σ H=>tv σ H λy H1=>ta σ H1 λx H2=>∃ a C dx fs,x=.ref a/\H2 a=some (.ins C dx fs)/\Cls K C/\pQ K C f/\fs.length<1000/\
 D.nx σ (upd H2 a (.ins C dx (gK f y fs)))
section
variable {X:Cx} {o e value:Expr} {f:Str} {pos pos' tpos:Pos} {ta tv:TE}
theorem hW (he:PE X e ta) (hb:attributeBase e f X.env (eval e X.env)=eval e X.env):PE X (.Attribute e f pos) (tFld X.K ta f):=by
 intro pins s σ H Q I h
 refine attr_of hb (thn (he pins s σ H _ I h) λu s1 ⟨x,H1,I1,rx,a,C,dx,fs,v,ex,ea,c,n,l,q⟩=>?_)
 subst ex
 obtain rfl:u=Value.ref a:=rx
 exact getattr_ok I1 ea c n l λu' s2 I2 ru=>⟨v,H1,I2,ru,q⟩
theorem ps_fld (ha:PE X o ta) (hv:PE X value tv) (hs:swapsWith value (some (.Attribute o f pos')) pos.line X.env=pure false):PS X (.Assign [.Attribute o f pos'] value pos) (sFld X.K ta tv f):=by
 intro pins s σ H D I h
 refine plainObj_wpAny_Assign_Attribute (thn (hv pins s σ H _ I h) λu s1 ⟨y,H1,I1,ry,q⟩=>thn (ha pins s1 σ H1 _ I1 q) λov s2 ⟨x,H2,I2,rx,a,C,dx,fs,ex,ea,c,n,l,q2⟩=>?_) hs
 subst ex
 obtain rfl:ov=Value.ref a:=rx
 exact setattr_ok I2 ea c n l ry λs3 I3=>⟨σ,_,I3,q2⟩
theorem methcall_of {pl:Sem Bool} {m:Str} {apos:Pos} {args:List Expr} {pins:List (Addr × Obj)} {s:Shared} {σ:St} {H:Hp} {Q:Value->Shared->Prop} {te:TE} (he:PE X e te) (I:Inv X pins σ H s)
  (h:te σ H λx H1=>∃ a C dx fs g,x=.ref a/\H1 a=some (.ins C dx fs)/\Cls X.K C/\fN X.K C m g/\fs.lookup m=none/\
   ∀ s1,Inv X pins σ H1 s1->wpAny (model X.prog X.w) X.A (callWith pos (.ref g) [.ref a] (backTo pos (starEach args X.env)) (backToKw pos (keywordEach [] X.env))) Q X.xe s1)
  (ht:eval (.Call (.Attribute e m apos) args [] pos) X.env=(do
   let ov <- eval e X.env
   standAt apos.atName
   let (f,first) <- holding [ov] (getMethod ov m pl)
   callWith pos f first (backTo pos (starEach args X.env)) (backToKw pos (keywordEach [] X.env)))) :
  wpAny (model X.prog X.w) X.A (eval (.Call (.Attribute e m apos) args [] pos) X.env) Q X.xe s:=by
 refine PySem.W.methodCall_KW (pl:=pl) (thn (he pins s σ H _ I h) λu s1 ⟨x,H1,I1,rx,a,C,dx,fs,g,ex,ea,c,k,l,q⟩=>?_) ht
 subst ex
 obtain rfl:u=Value.ref a:=rx
 exact gW I1 ea c k l (q s1 I1)
end
section
variable {X:Cx} {pins:List (Addr × Obj)} {σ:St} {H:Hp} {s:Shared} {A:Around} {E:Value->Shared->Prop} {Q:Value->Shared->Prop} {c:Value} {b:Bool}
inductive pT (K:Frag) (H:Hp):V->Value->Prop where
 | non:pT K H .non (.type "NoneType")
 | bl (x:Bool):pT K H (.bl x) (.type "bool")
 | int (i:Int):pT K H (.int i) (.type "int")
 | str (x:Str):pT K H (.str x) (.type "str")
 | flt (x:UInt64):pT K H (.flt x) (.type "float")
 | lst {a:Addr} {xs:List V} (e:H a=some (.lst xs)):pT K H (.ref a) (.type "list")
 | frz {a:Addr} {o:Obj} {xs:List V} (e:H a=some (.frz o (.lst xs))):pT K H (.ref a) (.type "list")
 | tup {a:Addr} {xs:List V} (e:H a=some (.tup xs)):pT K H (.ref a) (.type "tuple")
 | dK {a:Addr} {kvs:List (Key × V)} (e:H a=some (.dK kvs)):pT K H (.ref a) (.type "dict")
 | dT {a:Addr} {kvs:List (List Key × V)} (e:H a=some (.dT kvs)):pT K H (.ref a) (.type "dict")
 | ins {a C dx:Addr} {fs:List (Str × V)} (e:H a=some (.ins C dx fs)) (cl:Cls K C) (ha:findIn K (.ref C) "__class__"=some (some (.builtin "object.__class__")))
   (hn:specialIn K (.builtin "object.__class__") "__get__"=some (some (.builtin "getset_descriptor.__get__"))) (htk:takesIn K (.builtin "object.__class__")=some true)
   (hm:mroIn K C (.type "object")=some true):pT K H (.ref a) (.ref C)
theorem isinst_ok {x:V} {u t:Value} (I:Inv X pins σ H s) (rx:o4 x u) (ty:pT X.K H x t) (e:kitOne X.K t c=some b) (h:∀ tk,Q (.bool b) { s with toks:=tk }) :
  wpAny (model X.prog X.w) A (call (.builtin "isinstance") [u,c]) Q E s:=by
 cases ty with
 | non=>cases (show u=Value.none from rx); exact kia_one PySem.W.kitx_none I.kIn True.intro e (λz=>nomatch z) h
 | bl y=>cases (show u=Value.bool y from rx); exact kia_one PySem.W.kitx_bool I.kIn True.intro e (λz=>nomatch z) h
 | int i=>obtain ⟨t,q⟩:=(show ∃ t,u=Value.int i t from rx); cases q; exact kia_one PySem.W.kitx_int I.kIn True.intro e (λz=>nomatch z) h
 | str y=>obtain ⟨t,q⟩:=(show ∃ t,u=Value.str y t from rx); cases q; exact kia_one PySem.W.kitx_str I.kIn True.intro e (λz=>nomatch z) h
 | flt y=>obtain ⟨t,q⟩:=(show ∃ t,u=Value.float y t from rx); cases q; exact kia_one PySem.W.kitx_float I.kIn True.intro e (λz=>nomatch z) h
 | @lst a xs ea=>
  cases (show u=Value.ref a from rx)
  obtain ⟨_,_,n,_,h1⟩:=(show pd X.prog X.w H s.heap a (.lst xs) from I.hok a _ ea)
  exact kia_one PySem.W.kitx_list I.kIn ⟨_,h1,rfl⟩ e (λz=>nomatch z) h
 | @frz a ob xs ea=>
  cases (show u=Value.ref a from rx)
  obtain ⟨_,_,_,n,_,h1⟩:=(show pd X.prog X.w H s.heap a (.frz ob (.lst xs)) from I.hok a _ ea)
  exact kia_one PySem.W.kitx_list I.kIn ⟨_,h1,rfl⟩ e (λz=>nomatch z) h
 | @tup a xs ea=>
  cases (show u=Value.ref a from rx)
  obtain ⟨_,_,_,p⟩:=(show pd X.prog X.w H s.heap a (.tup xs) from I.hok a _ ea)
  obtain ⟨o,h1,h2,_⟩:=p
  exact kia_one PySem.W.kitx_tuple I.kIn ⟨o,h1,h2⟩ e (λz=>nomatch z) h
 | @dK a kvs ea=>
  cases (show u=Value.ref a from rx)
  obtain ⟨_,_,vs,_,p⟩:=(show pd X.prog X.w H s.heap a (.dK kvs) from I.hok a _ ea)
  obtain ⟨o,es,ep,h1,h2,_⟩:=p
  exact kia_one PySem.W.kitx_dict I.kIn ⟨o,h1,h2.1⟩ e (λz=>nomatch z) h
 | @dT a kvs ea=>
  cases (show u=Value.ref a from rx)
  obtain ⟨_,_,xs,_,o,es,ep,h1,h2,_⟩:=(show pd X.prog X.w H s.heap a (.dT kvs) from I.hok a _ ea)
  exact kia_one PySem.W.kitx_dict I.kIn ⟨o,h1,h2.1⟩ e (λz=>nomatch z) h
 | @ins a C dx fs ea cl ha hn htk hm=>
  cases (show u=Value.ref a from rx)
  obtain ⟨mA,O,_⟩:=jN I.hok ea
  obtain ⟨od,J,_⟩:=O.look
  exact kia_one (PySem.W.kitx_own (cl.get _) cl.hd ha hn htk hm) I.kIn J e (λz=>nomatch z) h
end
structure ph (k:Nat) (A:Around):Prop where
 hd:A.handled=none
 dp:A.depth+3*k+5<recursionLimit
 un:A.units+16*k+200<cLine
theorem ph.mono {j k:Nat} {A:Around} (r:ph k A) (h:j<=k):ph j A:=⟨r.hd,by have:=r.dp; omega,by have:=r.un; omega⟩
theorem ph.deeper {k:Nat} {A:Around} (r:ph (k+1) A) (env:Env):ph k (A.deeper env):=
 ⟨r.hd,by have:=r.dp; show A.depth+1+3*k+5<_; omega,by have:=r.un; show A.units+3+16*k+200<_; omega⟩
theorem ph.in1 {k:Nat} {A:Around} (r:ph (k+1) A):ph k A.in1:=
 ⟨r.hd,by have:=r.dp; show A.depth+3*k+5<_; omega,by have:=r.un; show A.units+1+16*k+200<_; omega⟩
theorem make_depth {A:Around} {C:Addr} {us:List Value} {kw:List (Str × Value)}:(A.under (.builtin "type.__call__" ⟨.ref C::us,kw⟩)).depth=A.depth+1:=by
 first | rfl | simp [Around.under,Code.weight,Code.isCreation,Code.isGuard,Code.isCaller,Code.frames,Code.isFrame,guardIds]
theorem make_units {A:Around} {C:Addr} {us:List Value} {kw:List (Str × Value)}:(A.under (.builtin "type.__call__" ⟨.ref C::us,kw⟩)).units=A.units+1:=by
 first | rfl | simp [Around.under,Code.cUnits,Code.frames,Code.isFrame]
theorem ph.make {k:Nat} {A:Around} (r:ph (k+1) A) (C:Addr) (us:List Value) (kw:List (Str × Value)):ph k (A.under (.builtin "type.__call__" ⟨.ref C::us,kw⟩)):=
 ⟨r.hd,by have:=r.dp; rw [make_depth]; omega,by have:=r.un; rw [make_units]; omega⟩
theorem ph.depth {k:Nat} {A:Around} (r:ph k A):A.depth<recursionLimit:=by have:=r.dp; omega
theorem ph.units {k:Nat} {A:Around} (r:ph k A):A.units+64<cLine:=by have:=r.un; omega
def eT:TA:=λ_ H Q=>Q [] H
def bL (ta:TE) (tr:TA):TA:=λσ H Q=>ta σ H λx H1=>tr σ H1 λxs H2=>Q (x::xs) H2
section
variable {X:Cx} {e:Expr} {es:List Expr} {te:TE} {t:TA} {pos:Pos}
theorem ae:PA X [] eT:=λ_ _ _ _ H Q I h=>Calls.spliced_nil ⟨[],H,I,.nil,h⟩
theorem aa (ha:PE X e te) (hr:PA X es t) (hs:starEach (e::es) X.env=(false,eval e X.env)::starEach es X.env:=by rfl):PA X (e::es) (bL te t):=by
 intro pos pins s σ H Q I h
 rw [hs]
 show wpAny _ _ (spliced ((false,eval e X.env)::backTo pos (starEach es X.env))) _ _ s
 refine Calls.spliced_cons (thn (ha pins s σ H _ I h) λu s1 ⟨x,H1,I1,r1,q1⟩=>?_)
 exact thn (hr pos pins s1 σ H1 _ I1 q1) λus s2 ⟨xs,H2,I2,r2,q2⟩=>⟨x::xs,H2,I2,.cons r1 r2,q2⟩
def tTup (t:TA):TE:=λσ H Q=>t σ H λxs H1=>xs.length<=sizeLine/\∀ p,H1 p=none->Q (.ref p) (upd H1 p (.tup xs))
def tLst (t:TA):TE:=λσ H Q=>t σ H λxs H1=>xs.length<=sizeLine/\∀ p,H1 p=none->Q (.ref p) (upd H1 p (.lst xs))
theorem aT {x1} (h:PA X es t):PE X (.Tuple es x1 pos) (tTup t):=by
 intro pins s σ H Q I hq
 refine wpAny_Tuple_spliced (thn (h pos pins s σ H _ I hq) λus s1 ⟨xs,H1,I1,r,z,q⟩=>⟨by rw [<- r.length]; exact z,?_⟩)
 have hf:H1 s1.heap.objs.size=none:=I1.hok.fresh (Nat.le_refl _)
 refine ⟨.ref s1.heap.objs.size,upd H1 s1.heap.objs.size (.tup xs),I1.laid (t':=s1.toks) (λb u e=>get?_push_of_some _ e) (Nat.le_refl _) ?_,rfl,q _ hf⟩
 exact ⟨z,us,r,⟨_,get?_push_size _ rfl,rfl,_,rfl⟩⟩
theorem aI (h:PA X es t):PE X (.List es pos) (tLst t):=by
 intro pins s σ H Q I hq
 refine wpAny_List_spliced (thn (h pos pins s σ H _ I hq) λus s1 ⟨xs,H1,I1,r,z,q⟩=>⟨by rw [<- r.length]; exact z,?_⟩)
 have hf:H1 s1.heap.objs.size=none:=I1.hok.fresh (Nat.le_refl _)
 refine ⟨.ref s1.heap.objs.size,upd H1 s1.heap.objs.size (.lst xs),I1.laid (t':=s1.toks) (λb u e=>get?_push_of_some _ e) (Nat.le_refl _) ?_,rfl,q _ hf⟩
 exact ⟨z,us,0,r,get?_push_size _ rfl⟩
end
abbrev Sp:=List V->Hp->VK->XK->Prop
abbrev CXT:=List Env->Hp->Shared->XK->Value->Shared->Prop
structure Env0 (P:Program) (w:World) (K:Frag) (mg:Str->Option Value) (base:Heap) (A:Around) (outer:List Env) (s:Shared) (H:Hp):Prop where
 frames:A.frames=some outer
 mod:Mod K mg base
 bs:∀ b o,base.get? b=some o->s.heap.get? b=some o/\H b=none
 bsz:base.objs.size<=s.heap.objs.size
 funs:s.heap.FunFrames base outer
 frf:∀ b ∈ frs outer,H b=none
 hok:HOk P w H s.heap
 bare:AllBare s.gens
def CE (outer:List Env) (P:Program) (w:World) (H:Hp) (s:Shared) (Q:VK) (u:Value) (s':Shared):Prop:=
 ∃ v H',s'.os=s.os/\AllBare s'.gens/\Un (frs outer) [] H H' s.heap s'.heap/\HOk P w H' s'.heap/\o4 v u/\Q v H'
def CR (CX:CXT) (outer:List Env) (P:Program) (w:World) (H:Hp) (s:Shared) (Q:VK) (E:XK) (r:Result) (s':Shared):Prop:=
 match r with
 | .ok (.ret u)=>CE outer P w H s Q u s'
 | .ok _=>False
 | .error e=>CX outer H s E e s'
structure oY (P:Program) (w:World) (K:Frag) (mg:Str->Option Value) (base:Heap) (CX:CXT) (k:Nat) (f:Addr) (fd:FuncData) (ps:List Str) (sp:Sp):Prop where
 len:∀ vs H Q E,sp vs H Q E->vs.length=ps.length
 run:∀ (A:Around) (outer:List Env) (s:Shared) (H:Hp) (args:Args) (us:List Value) (vs:List V) (Q:VK) (E:XK),ph k A->Env0 P w K mg base A outer s H->BindsTo s fd args (ps.zip us)->o0 vs us->sp vs H Q E->
  codeAny (model P w) A (.call (.ref f) args) (CR CX outer P w H s Q E) s
theorem oY.mono {P:Program} {w:World} {K:Frag} {mg:Str->Option Value} {base:Heap} {CX:CXT} {j k:Nat} {f:Addr} {fd:FuncData} {ps:List Str} {sp:Sp} (F:oY P w K mg base CX j f fd ps sp) (h:j<=k) :
  oY P w K mg base CX k f fd ps sp:=⟨F.len,λA outer s H args us vs Q E hr=>F.run A outer s H args us vs Q E (hr.mono h)⟩
theorem Env0.make {P:Program} {w:World} {K:Frag} {mg:Str->Option Value} {base:Heap} {A:Around} {outer:List Env} {s:Shared} {H:Hp} (e:Env0 P w K mg base A outer s H) (C:Addr) (us:List Value) (kw:List (Str × Value)) :
  Env0 P w K mg base (A.under (.builtin "type.__call__" ⟨.ref C::us,kw⟩)) outer s H:=⟨by first | exact e.frames | (simpa [Around.under,Code.envs,Code.isFrame,pushEnvs] using e.frames),e.mod,e.bs,e.bsz,e.funs,e.frf,e.hok,e.bare⟩
theorem Env0.in1 {P:Program} {w:World} {K:Frag} {mg:Str->Option Value} {base:Heap} {A:Around} {outer:List Env} {s:Shared} {H:Hp} (e:Env0 P w K mg base A outer s H) :
  Env0 P w K mg base A.in1 outer s H:=⟨e.frames,e.mod,e.bs,e.bsz,e.funs,e.frf,e.hok,e.bare⟩
section
variable {X:Cx} {pins:List (Addr × Obj)} {σ:St} {H:Hp} {s s':Shared}
theorem Inv.env0 (I:Inv X pins σ H s):Env0 X.prog X.w X.K X.mg X.base X.A X.stack s H:=
 ⟨I.ok.frames,I.ok.mod,I.bs,Nat.le_trans I.ok.bsz I.sz,I.stack,I.stkFree,I.hok,I.bare⟩
theorem Inv.after {Q:VK} {u:Value} (I:Inv X pins σ H s) (h:CE X.stack X.prog X.w H s Q u s'):EP X pins σ Q u s':=by
 obtain ⟨v,H',os,bare,un,hok,r,q⟩:=h
 obtain ⟨hh,g,d,t,os'⟩:=s'
 obtain rfl:os'=s.os:=os
 exact ⟨v,H',I.call (h':=hh) (g':=g) (d':=d) (t':=t) (ch:=[]) un hok bare (λb z=>absurd z (by simp)),r,q⟩
end
def tCall (sp:Sp) (dvs:List V) (E:XK) (t:TA):TE:=λσ H Q=>t σ H λvs H1=>sp (vs++dvs) H1 Q E
def fT (C:Addr) (m:Str) (sp:Sp) (dvs:List V) (E:XK) (ta:TE) (t:TA):TE:=λσ H Q=>ta σ H λx H1=>∃ a dx fs,x=.ref a/\H1 a=some (.ins C dx fs)/\fs.lookup m=none/\
 t σ H1 λvs H2=>sp (x::(vs++dvs)) H2 Q E
def tMake (C:Addr) (sp:Sp) (dvs:List V) (E:XK) (t:TA):TE:=λσ H Q=>t σ H λvs H1=>∀ x dx,H1 x=none->H1 dx=none->dx ≠ x->
 sp (.ref x::(vs++dvs)) (upd (upd H1 dx (.own x)) x (.ins C dx [])) (λv H2=>v=.non/\Q (.ref x) H2) E
def pK (K:Frag) (fd:FuncData) (ps:List Str) (ds:List Value):Prop:=
 ∀ (s:Shared) (us:List Value),K.In s.heap->(us++ds).length=ps.length->BindsTo s fd ⟨us,[]⟩ (ps.zip (us++ds))
theorem pK.all {K:Frag} {fd:FuncData} {ps:List Str} (h:∀ us:List Value,us.length=ps.length->bindArgs fd ⟨us,[]⟩=pure (ps.zip us)):pK K fd ps []:=λs us _ hl=>by
 rw [append_nil] at hl ⊢
 exact .of_eq (h us hl)
def dn (CX:CXT) (X:Cx) (E:XK):Prop:=∀ (pins:List (Addr × Obj)) (σ:St) (H:Hp) (s:Shared) (e:Value) (s':Shared),Inv X pins σ H s->CX X.stack H s E e s'->X.xe e s'
section
variable {X:Cx} {CX:CXT} {k:Nat} {f C:Addr} {fd:FuncData} {ps:List Str} {sp:Sp} {dvs:List V} {ds:List Value} {E:XK} {x m:Str} {p pos apos:Pos} {e o:Expr} {es:List Expr} {ta:TE} {t:TA}
theorem run_fn {pins:List (Addr × Obj)} {σ:St} {H:Hp} {s:Shared} {Q:VK} {us:List Value} {vs:List V} (F:oY X.prog X.w X.K X.mg X.base CX k f fd ps sp) (hr:ph k X.A) (hb:pK X.K fd ps ds) (hd:o0 dvs ds) (hx:dn CX X E)
  (I:Inv X pins σ H s) (r:o0 vs us) (h:sp (vs++dvs) H Q E):wpAny (model X.prog X.w) X.A (call (.ref f) us) (EP X pins σ Q) X.xe s:=by
 have r2:o0 (vs++dvs) (us++ds):=r.append hd
 have hl:(us++ds).length=ps.length:=by rw [<- r2.length]; exact F.len _ _ _ _ h
 refine wpAny_call (codeAny_mono (F.run X.A X.stack s H ⟨us,[]⟩ (us++ds) (vs++dvs) Q E hr I.env0 (hb s us I.kIn hl) r2 h) λr s' hq=>?_)
 cases r with
 | error e=>exact hx pins σ H s e s' I hq
 | ok fl=>
  cases fl with
  | ret u=>exact I.after hq
  | next=>exact False.elim hq
  | brk=>exact False.elim hq
  | cont=>exact False.elim hq
theorem pe_call (F:oY X.prog X.w X.K X.mg X.base CX k f fd ps sp) (hr:ph k X.A) (hg:Gl X x) (hm:X.mg x=some (.ref f)) (hk:keepIn X.K (.ref f)=true) (hb:pK X.K fd ps ds) (hd:o0 dvs ds) (hx:dn CX X E)
  (ha:PA X (e::es) t) (hdb:(x == ("__debug__" : Str))=false:=by decide) (he:starEach (e::es) X.env=(false,eval e X.env)::starEach es X.env:=by rfl) (hpl:(backTo pos (starEach es X.env)).any (·.1)=false:=by rfl) :
  PE X (.Call (.Name x p) (e::es) [] pos) (tCall sp dvs E t):=by
 intro pins s σ H Q I h
 refine wpAny_Call_Name_kw (iX I hg hm ?_ hdb)
 refine PySem.W.callWith_K (h₀:=X.base) I.ok.mod.kin hk (thn (ha pos pins s σ H _ I h) λus s1 ⟨vs,H1,I1,r,q⟩=>⟨I1.kIn,?_⟩) he hpl
 exact run_fn F hr hb hd hx I1 r q
theorem pe_meth {pl:Sem Bool} (he:PE X o ta) (c:Cls X.K C) (hm:fN X.K C m f) (F:oY X.prog X.w X.K X.mg X.base CX k f fd ps sp) (hr:ph k X.A) (hb:pK X.K fd ps ds) (hd:o0 dvs ds) (hx:dn CX X E) (ha:PA X (e::es) t)
  (hst:starEach (e::es) X.env=(false,eval e X.env)::starEach es X.env:=by rfl) (hpl:(backTo pos (starEach es X.env)).any (·.1)=false:=by rfl)
  (ht:eval (.Call (.Attribute o m apos) (e::es) [] pos) X.env=(do
   let ov <- eval o X.env
   standAt apos.atName
   let (f,first) <- holding [ov] (getMethod ov m pl)
   callWith pos f first (backTo pos (starEach (e::es) X.env)) (backToKw pos (keywordEach [] X.env))):=by rfl) :
  PE X (.Call (.Attribute o m apos) (e::es) [] pos) (fT C m sp dvs E ta t):=by
 intro pins s σ H Q I h
 refine PySem.W.methodCall_KW (pl:=pl) (thn (he pins s σ H _ I h) λu s1 ⟨x,H1,I1,rx,a,dx,fs,ex,ea,l,q⟩=>?_) ht
 subst ex
 obtain rfl:u=Value.ref a:=rx
 refine gW I1 ea c hm l ?_
 refine PySem.W.callWith_K (first:=[.ref a]) (h₀:=X.base) I.ok.mod.kin hm.kp (thn (ha pos pins s1 σ H1 _ I1 q) λus s2 ⟨vs,H2,I2,r,q2⟩=>⟨I2.kIn,?_⟩) hst hpl
 exact run_fn (us:=.ref a::us) (vs:=.ref a::vs) F hr hb hd hx I2 (.cons rfl r) q2
theorem pe_meth0 {pl:Sem Bool} (he:PE X o ta) (c:Cls X.K C) (hm:fN X.K C m f) (F:oY X.prog X.w X.K X.mg X.base CX k f fd ps sp) (hr:ph k X.A) (hb:pK X.K fd ps ds) (hd:o0 dvs ds) (hx:dn CX X E)
  (ht:eval (.Call (.Attribute o m apos) [] [] pos) X.env=(do
   let ov <- eval o X.env
   standAt apos.atName
   let (f,first) <- holding [ov] (getMethod ov m pl)
   callWith pos f first (backTo pos (starEach [] X.env)) (backToKw pos (keywordEach [] X.env))):=by rfl) :
  PE X (.Call (.Attribute o m apos) [] [] pos) (fT C m sp dvs E ta eT):=by
 intro pins s σ H Q I h
 refine PySem.W.methodCall_KW (pl:=pl) (thn (he pins s σ H _ I h) λu s1 ⟨x,H1,I1,rx,a,dx,fs,ex,ea,l,q⟩=>?_) ht
 subst ex
 obtain rfl:u=Value.ref a:=rx
 refine gW I1 ea c hm l ?_
 exact PySem.W.callWith_K0 (first:=[.ref a]) I1.kIn hm.kp (run_fn (us:=[.ref a]) (vs:=[.ref a]) F hr hb hd hx I1 (.cons rfl .nil) q)
structure Mk (K:Frag) (C f:Addr):Prop where
 makes:makesIn K C=true
 init:findIn K (.ref C) "__init__"=some (some (.ref f))
 fn:isFn K (.ref f)=true
 kp:keepIn K (.ref C)=true
theorem run_make {pins:List (Addr × Obj)} {σ:St} {H:Hp} {s:Shared} {Q:VK} {us:List Value} {vs:List V} (M:Mk X.K C f) (F:oY X.prog X.w X.K X.mg X.base CX k f fd ps sp) (hr:ph (k+1) X.A) (hb:pK X.K fd ps ds) (hd:o0 dvs ds)
  (hx:dn CX X E) (I:Inv X pins σ H s) (r:o0 vs us)
  (h:∀ x dx,H x=none->H dx=none->dx ≠ x->sp (.ref x::(vs++dvs)) (upd (upd H dx (.own x)) x (.ins C dx [])) (λv H2=>v=.non/\Q (.ref x) H2) E) :
  wpAny (model X.prog X.w) X.A (call (.ref C) us) (EP X pins σ Q) X.xe s:=by
 have hq:=h (s.heap.objs.size+1) s.heap.objs.size (I.hok.fresh (Nat.le_succ _)) (I.hok.fresh (Nat.le_refl _)) (Nat.ne_of_lt (Nat.lt_succ_self _))
 have I2:=Inv.made (C:=C) I
 have r2:o0 (V.ref (s.heap.objs.size+1)::(vs++dvs)) (Value.ref (s.heap.objs.size+1)::(us++ds)):=.cons rfl (r.append hd)
 have hl:(Value.ref (s.heap.objs.size+1)::us++ds).length=ps.length:=by
  have e:=r2.length
  rw [F.len _ _ _ _ hq] at e
  exact e.symm
 refine wpAny_call (make_map (f:=f) I.kIn M.makes M.init (beq_iff_eq.mp M.fn) (codeAny_mono (F.run _ X.stack _ _ ⟨Value.ref (s.heap.objs.size+1)::us,[]⟩ (Value.ref (s.heap.objs.size+1)::(us++ds)) _ _ E (hr.make C us [])
  (I2.env0.make C us []) (hb _ (Value.ref (s.heap.objs.size+1)::us) I2.kIn hl) r2 hq) λr s' hq'=>?_))
 cases r with
 | error e=>exact hx pins σ _ _ e s' I2 hq'
 | ok fl=>
  cases fl with
  | ret u=>
   obtain ⟨v,H',I3,rv,ev,q3⟩:=I2.after hq'
   subst ev
   exact ⟨rv,⟨V.ref (s.heap.objs.size+1),H',I3,rfl,q3⟩⟩
  | next=>exact False.elim hq'
  | brk=>exact False.elim hq'
  | cont=>exact False.elim hq'
theorem pe_make (M:Mk X.K C f) (F:oY X.prog X.w X.K X.mg X.base CX k f fd ps sp) (hr:ph (k+1) X.A) (hg:Gl X x) (hm:X.mg x=some (.ref C)) (hb:pK X.K fd ps ds) (hd:o0 dvs ds) (hx:dn CX X E)
  (ha:PA X (e::es) t) (hdb:(x == ("__debug__" : Str))=false:=by decide) (he:starEach (e::es) X.env=(false,eval e X.env)::starEach es X.env:=by rfl) (hpl:(backTo pos (starEach es X.env)).any (·.1)=false:=by rfl) :
  PE X (.Call (.Name x p) (e::es) [] pos) (tMake C sp dvs E t):=by
 intro pins s σ H Q I h
 refine wpAny_Call_Name_kw (iX I hg hm ?_ hdb)
 refine PySem.W.callWith_K (h₀:=X.base) I.ok.mod.kin M.kp (thn (ha pos pins s σ H _ I h) λus s1 ⟨vs,H1,I1,r,q⟩=>⟨I1.kIn,?_⟩) he hpl
 exact run_make M F hr hb hd hx I1 r q
end
def PK (X:Cx) (kws:List Keyword) (t:TA):Prop:=
 ∀ (pos:Pos) (pins:List (Addr × Obj)) (s:Shared) (σ:St) (H:Hp) (Q:List V->Hp->Prop),Inv X pins σ H s->t σ H Q->wpAny (model X.prog X.w) X.A (evalAll ((backToKw pos (keywordEach kws X.env)).map (·.2))) (AP X pins σ Q) X.xe s
section
variable {X:Cx} {CX:CXT} {k:Nat} {f C:Addr} {fd:FuncData} {ps ks:List Str} {sp:Sp} {E:XK} {x m:Str} {p pos apos kpos:Pos} {e o:Expr} {es:List Expr} {kws:List Keyword} {te ta:TE} {t tk:TA} {nm:Option Str}
theorem pk_nil:PK X [] eT:=λ_ _ _ _ H Q I h=>wpAny_evalAll_nil ⟨[],H,I,.nil,h⟩
theorem pk_cons (ha:PE X e te) (hr:PK X kws t):PK X (⟨nm,e,kpos⟩ :: kws) (bL te t):=by
 intro pos pins s σ H Q I h
 show wpAny _ _ (evalAll ((do let v <- eval e X.env; standAt pos; pure v)::(backToKw pos (keywordEach kws X.env)).map (·.2))) _ _ s
 refine wpAny_evalAll_cons (wpAny_bind (thn (ha pins s σ H _ I h) λu s1 ⟨x,H1,I1,r1,q1⟩=>wpAny_bind (wpAny_standAt (wpAny_pure ?_))))
 exact thn (hr pos pins s1 σ H1 _ I1 q1) λus s2 ⟨xs,H2,I2,r2,q2⟩=>⟨x::xs,H2,I2,.cons r1 r2,q2⟩
variable {g:List Value->List Value->List Value} {gV:List V->List V->List V}
end
structure oW (N P:List Str) (sc:Scope):Prop where
 kind:sc.kind=.function
 co:sc.isCoroutine=false
 gen:sc.isGenerator=false
 nd:N.Nodup
 pre:N.take P.length=P
 par:∀ x ∈ P,sc.names.lookup x=some .local\/sc.names.lookup x=some .cell
 nofree:∀ y ∈ sc.names,y.2 ≠ .free
theorem mw {kindOf:Str->Option NameKind} {x:Str}:∀ {binds:List (Str × Value)} {m:Str->Option Value},(∀ v,(x,v) ∉ binds)->bindL kindOf binds m x=m x
 | [],_,_=>rfl
 | (n,v)::r,m,h=>by
  unfold bindL
  rw [mw λw hw=>h w (mem_cons_of_mem _ hw)]
  split
  ·have:x ≠ n:=by rintro rfl; exact h v mem_cons_self
   simp [this]
  ·rfl
theorem mQ {kindOf:Str->Option NameKind} {x:Str}:∀ {binds:List (Str × Value)} {m:Str->Option Value},(∀ v,(x,v) ∉ binds)->bindC kindOf binds m x=m x
 | [],_,_=>rfl
 | (n,v)::r,m,h=>by
  unfold bindC
  rw [mQ λw hw=>h w (mem_cons_of_mem _ hw)]
  split
  ·rfl
  ·have:x ≠ n:=by rintro rfl; exact h v mem_cons_self
   simp [this]
theorem lX {kindOf:Str->Option NameKind} {x:Str} {v:Value}:∀ {P:List Str} {vs:List Value} {i:Nat} {m:Str->Option Value},P.Nodup->P[i]? = some x->vs[i]? = some v->kindOf x=some .local->
  bindL kindOf (P.zip vs) m x=some v
 | [],_,_,_,_,h,_,_=>by simp at h
 | _::_,[],_,_,_,_,h,_=>by simp at h
 | p::P,w::vs,0,m,nd,h1,h2,hk=>by
  simp at h1 h2; subst h1; subst h2
  show bindL kindOf ((p,w)::P.zip vs) m p=_
  unfold bindL
  rw [mw λv hv=>(List.nodup_cons.mp nd).1 (of_mem_zip hv).1,if_pos hk]
  simp
 | p::P,w::vs,i+1,m,nd,h1,h2,hk=>by
  show bindL kindOf ((p,w)::P.zip vs) m x=_
  unfold bindL
  exact lX (i:=i) (List.nodup_cons.mp nd).2 (by simpa using h1) (by simpa using h2) hk
theorem mP {kindOf:Str->Option NameKind} {x:Str} {v:Value}:∀ {P:List Str} {vs:List Value} {i:Nat} {m:Str->Option Value},P.Nodup->P[i]? = some x->vs[i]? = some v->kindOf x ≠ some .local->
  bindC kindOf (P.zip vs) m x=some v
 | [],_,_,_,_,h,_,_=>by simp at h
 | _::_,[],_,_,_,_,h,_=>by simp at h
 | p::P,w::vs,0,m,nd,h1,h2,hk=>by
  simp at h1 h2; subst h1; subst h2
  show bindC kindOf ((p,w)::P.zip vs) m p=_
  unfold bindC
  rw [mQ λv hv=>(List.nodup_cons.mp nd).1 (of_mem_zip hv).1,if_neg hk]
  simp
 | p::P,w::vs,i+1,m,nd,h1,h2,hk=>by
  show bindC kindOf ((p,w)::P.zip vs) m x=_
  unfold bindC
  exact mP (i:=i) (List.nodup_cons.mp nd).2 (by simpa using h1) (by simpa using h2) hk
def fU (N:List Str) (vs:List V):St:=vs.map some++List.replicate (N.length-vs.length) none
def dw (CX:CXT) (P:Program) (w:World) (K:Frag) (mg:Str->Option Value) (base:Heap) (N:List Str) (qual:Str) (scope:Scope) (f:Addr) (cd:Value) (A:Around) (outer:List Env) (s:Shared) (H:Hp) (E:XK):Cx where
 prog:=P
 w:=w
 K:=K
 mg:=mg
 base:=base
 A:=A.deeper (envOfC qual scope s.heap.objs.size f cd)
 N:=N
 s₀:=s
 H₀:=H
 env:=envOfC qual scope s.heap.objs.size f cd
 outer:=outer
 stack:=envOfC qual scope s.heap.objs.size f cd::outer
 ex:=[]
 calm:=true
 fn:=λ_=>true
 pn:=[]
 xe:=λe s'=>wpAny (model P w) (A.deeper (envOfC qual scope s.heap.objs.size f cd)) (leaving (envOfC qual scope s.heap.objs.size f cd) e) (λ_ s''=>CX outer H s E e s'') (λe' s''=>CX outer H s E e' s'') s'
theorem cell_has {sc:Scope} {n:Nat} {x:Str} (h:sc.names.lookup x=some .cell):∃ c,(cellsFrom n sc.names []).lookup x=some c:=by
 have q:=PySem.W.cellsFrom_some sc.names n [] (.inl h)
 exact Option.isSome_iff_exists.mp q
theorem inv_start {CX:CXT} {P:Program} {w:World} {K:Frag} {mg:Str->Option Value} {base:Heap} {N ps:List Str} {qual:Str} {scope:Scope} {f:Addr} {cd:Value} {A:Around} {outer:List Env} {s s1:Shared} {H:Hp} {E:XK} {us:List Value} {vs:List V}
  (S:oW N ps scope) (hd:A.handled=none) (e0:Env0 P w K mg base A outer s H) (hl:vs.length=ps.length) (r:o0 vs us)
  (x:InCallC s s.heap.objs.size (bindL (envOfC qual scope s.heap.objs.size f cd).kindOf (ps.zip us) λ_=>none) (cellsFrom (s.heap.objs.size+1) scope.names []) (bindC (envOfC qual scope s.heap.objs.size f cd).kindOf (ps.zip us) λ_=>none) s1) :
  Inv (dw CX P w K mg base N qual scope f cd A outer s H E) [] (fU N vs) H s1:=by
 have hpl:ps.length<=N.length:=by have:=congrArg List.length S.pre; rw [length_take] at this; omega
 obtain ⟨h1,tk,rfl,hk⟩:=x.done
 have noA:∀ b:Addr,b ∉ (dw CX P w K mg base N qual scope f cd A outer s H E).ex:=λb z=>absurd (show b ∈ ([]:List Addr) from z) (by simp)
 refine ⟨⟨e0.mod,S.kind,rfl,rfl,Nat.le_refl _,λy z c h1 h2=>?_,λy hy=>?_,λy c _ h=>?_,λ_=>hd,Around.frames_deeper e0.frames,.inr ⟨rfl,rfl⟩,λb z=>absurd z (noA b),e0.bs,e0.bsz,λb _ _=>noA b,λb z=>absurd z (noA b),e0.funs,e0.frf⟩,
  rfl,e0.bare,Un.kept hk,⟨_,x.toInCall.ns,λi y v h1 h2 h3=>?_⟩,λy c h=>⟨_,x.cell y c h⟩,e0.hok.fresh (Nat.le_refl _),λy c h=>?_,λp hp=>absurd (show p ∈ ([]:List (Addr × Obj)) from hp) (by simp),e0.hok.kept hk,?_⟩
 ·exact name_of_addr x.apart (PySem.mem_of_lookup h1) (PySem.mem_of_lookup h2)
 ·have hy:scope.names.lookup y=some .cell\/scope.names.lookup y=some .free:=hy
  rcases hy with hy | hy
  ·exact cell_has hy
  ·exact absurd rfl (S.nofree _ (PySem.mem_of_lookup hy))
 ·exact Nat.le_of_lt (x.above y c (PySem.mem_of_lookup h))
 ·have hi:i<vs.length:=by
   unfold fU at h2
   by_cases hi:i<vs.length
   ·exact hi
   ·rw [getElem?_append_right (by simpa using hi)] at h2
    rw [List.getElem?_replicate] at h2
    split at h2<;>cases h2
  have ha:vs[i]? = some v:=by
   unfold fU at h2
   rw [getElem?_append_left (by simpa using hi),getElem?_map] at h2
   cases e:vs[i]? with
   | none=>rw [e] at h2; cases h2
   | some a=>rw [e] at h2; cases h2; rfl
  obtain ⟨u,hu,rv⟩:=r.get ha
  have hp:ps[i]? = some y:=by
   rw [<- S.pre,List.getElem?_take_of_lt (by omega)]; exact h1
  have ndP:ps.Nodup:=by rw [<- S.pre]; exact S.nd.sublist (take_sublist _ _)
  refine ⟨u,rv,?_⟩
  rcases S.par y (mem_of_getElem? hp) with k | k
  ·exact .inl ⟨k,lX ndP hp hu k⟩
  ·obtain ⟨c,e⟩:=cell_has (n:=s.heap.objs.size+1) k
   refine .inr ⟨.inl k,c,e,?_⟩
   have q:=x.cell y c e
   rw [mP ndP hp hu (by show scope.names.lookup y ≠ _; rw [k]; decide)] at q
   exact q
 ·exact e0.hok.fresh (Nat.le_of_lt (x.above y c (PySem.mem_of_lookup h)))
 ·unfold fU
  show _=N.length
  rw [length_append,length_map,length_replicate]
  omega
theorem fn_of {CX:CXT} {P:Program} {w:World} {K:Frag} {mg:Str->Option Value} {base:Heap} {k:Nat} {f:Addr} {name qual:Str} {params:Arguments} {body:List Stmt} {scope:Scope} {dV kV doc pm cdv ct oc:Value} {an od:Option Addr}
  {osl:Array (Option Value)} {N ps:List Str} {sp:Sp} (lk:K.lookup f=some ⟨oc,od,.func (fnOf name qual params body scope dV kV doc pm an cdv ct),osl⟩) (hcd:codeIn K cdv qual=true) (S:oW N ps scope)
  (len:∀ vs H Q E,sp vs H Q E->vs.length=ps.length)
  (hbody:∀ (A:Around) (outer:List Env) (s:Shared) (H:Hp) (vs:List V) (Q:VK) (E:XK),ph k (A.deeper (envOfC qual scope s.heap.objs.size f cdv))->sp vs H Q E->
   ∃ t,PSs (dw CX P w K mg base N qual scope f cdv A outer s H E) body t/\t { nx:=λ_ H'=>Q .non H',rt:=Q } (fU N vs) H) :
  oY P w K mg base CX (k+1) f (fnOf name qual params body scope dV kV doc pm an cdv ct) ps sp:=by
 refine ⟨len,λA outer s H args us vs Q E hr e0 hb r hsp=>?_⟩
 have hl:=len _ _ _ _ hsp
 have KX:K.In s.heap:=e0.mod.kin.keeps λb o e=>(e0.bs b o e).1
 have lim:s.heap.NoLimit:=e0.mod.nolimit.keeps λb o e=>(e0.bs b o e).1
 have hkind:∀ y ∈ ps.zip us,scope.names.lookup y.1=some .local\/(scope.names.lookup y.1=some .cell/\((cellsFrom (s.heap.objs.size+1) scope.names []).lookup y.1).isSome=true):=λ⟨n,v⟩ hy=>by
  rcases S.par n (of_mem_zip hy).1 with q | q
  ·exact .inl q
  ·exact .inr ⟨q,PySem.W.cellsFrom_some _ _ _ (.inl q)⟩
 refine codeAny_call_function hr.depth (KX _ _ lk) rfl S.co S.gen rfl (PySem.W.codeRec_of KX hcd) (hb _ _ _ _ ?_)
 refine wpAny_newFunctionEnv_cells S.kind hkind λenv he s1 x=>?_
 subst he
 refine ⟨lim.keeps x.toInCall.keep,codeAny_func ?_⟩
 obtain ⟨t,ht,hq⟩:=hbody A outer s H vs Q E (hr.deeper _) hsp
 have I:Inv (dw CX P w K mg base N qual scope f cdv A outer s H E) [] (fU N vs) H s1:=inv_start S hr.hd e0 hl r x
 refine wpAny_mono (ht [] s1 (fU N vs) H _ I hq) (λfl s' hs=>?_) λe s' hs=>hs
 have fin:∀ {σ':St} {H':Hp} {v:V} {u:Value},Inv (dw CX P w K mg base N qual scope f cdv A outer s H E) [] σ' H' s'->o4 v u->Q v H'->CE outer P w H s Q u s':=
  λ{σ' H' v u} J rv q=>⟨v,H',J.os,J.bare,J.base,J.hok,rv,q⟩
 cases fl with
 | ret u=>
  obtain ⟨v,σ',H',J,rv,q⟩:=hs
  exact fin J rv q
 | next=>
  obtain ⟨σ',H',J,q⟩:=hs
  exact fin (v:=V.non) (u:=Value.none) J rfl q
 | brk=>
  obtain ⟨_,_,_,q⟩:=hs
  exact False.elim q
 | cont=>
  obtain ⟨_,_,_,q⟩:=hs
  exact False.elim q
section
variable {X:Cx} {x:Str} {p pos:Pos} {e:Expr} {es:List Expr} {t:TA} {id T:String} {r:List V->Hp->VK->Prop}
def tCB (r:List V->Hp->VK->Prop) (t:TA):TE:=λσ H Q=>t σ H λvs H1=>r vs H1 Q
theorem cJ (hc:dE X (.builtin id) r) (hg:Gl X x) (hm:X.mg x=none) (hv:bootBuiltins x=some (.builtin id)) (ha:PA X (e::es) t) (hn:x ≠ "__name__":=by decide) (hdb:(x == ("__debug__" : Str))=false:=by decide)
  (he:starEach (e::es) X.env=(false,eval e X.env)::starEach es X.env:=by rfl) (hpl:(backTo pos (starEach es X.env)).any (·.1)=false:=by rfl):PE X (.Call (.Name x p) (e::es) [] pos) (tCB r t):=by
 intro pins s σ H Q I h
 refine wpAny_Call_Name_kw (gg I hg hm hv ?_ hn hdb)
 exact PyProof.Rows.callWith_builtin1 (thn (ha pos pins s σ H _ I h) λus s1 ⟨vs,H1,I1,r1,q1⟩=>hc pins s1 σ H1 vs us Q I1 r1 q1) he hpl
theorem gG (hc:dE X (.type T) r) (hg:Gl X x) (hm:X.mg x=none) (hv:bootBuiltins x=some (.type T)) (ha:PA X (e::es) t) (hn:x ≠ "__name__":=by decide) (hdb:(x == ("__debug__" : Str))=false:=by decide)
  (he:starEach (e::es) X.env=(false,eval e X.env)::starEach es X.env:=by rfl) (hpl:(backTo pos (starEach es X.env)).any (·.1)=false:=by rfl):PE X (.Call (.Name x p) (e::es) [] pos) (tCB r t):=by
 intro pins s σ H Q I h
 refine wpAny_Call_Name_kw (gg I hg hm hv ?_ hn hdb)
 exact PyProof.Rows.callWith_type1 (thn (ha pos pins s σ H _ I h) λus s1 ⟨vs,H1,I1,r1,q1⟩=>hc pins s1 σ H1 vs us Q I1 r1 q1) he hpl
end
end L2
namespace HT
open PySem PyProof.Rows
def lexLt:List Int->List Int->Bool
 | [],[]=>false
 | [],_::_=>true
 | _::_,[]=>false
 | x::xs,y::ys=>if x=y then lexLt xs ys else decide (x<y)
theorem lexLt_cons (x y:Int) (xs ys:List Int):lexLt (x::xs) (y::ys)=if x=y then lexLt xs ys else decide (x<y):=rfl
theorem lD:lexLt [] []=false:=rfl
theorem kB (y:Int) (ys:List Int):lexLt [] (y::ys)=true:=rfl
theorem kN (x:Int) (xs:List Int):lexLt (x::xs) []=false:=rfl
theorem eqAt_int (A:Around) (s:Shared) (a:Int) (t:Tok) (c:Int) (u:Tok):∃ e,SeqAt.EqAt A s (.int a t) (.int c u) e/\(e=true↔a=c):=
 ⟨(a == c),SeqAt.EqAt.int_int a t c u,by simp⟩
theorem rcLt_int (A:Around) (s:Shared) (a:Int) (t:Tok) (c:Int) (u:Tok) (prog:Program) (w:World) (E:Value->Shared->Prop) (Q:Value->Shared->Prop) (h:Q (.bool (decide (a<c))) s) :
  wpAny (model prog w) A (richCompare .Lt (.int a t) (.int c u)) Q E s:=
 (PyProof.Rows.lt_int h:wpAny (model prog w) A (compareOp .Lt (.int a t) (.int c u)) Q E s)
section
open PySem.SeqAt
open PySem.AutoSeq1 (wpAny_loadPart')
open PySem.MeetsSeq PySem.MeetsSeq2 PySem.MeetsSeq3
theorem lI (l b:Addr) (items items2:Array Value) (n n2:Nat) (dd dd2:Option Addr) (sl sl2:Array (Option Value)) (ns ms:List Int) (hi:IntsAre items.toList ns) (hj:IntsAre items2.toList ms) :
  Meets (Builtin.«tuple.__lt__» ⟨[.ref l,.ref b],[]⟩)
   (λ_ R s=>s.heap.get? l=some { cls:=.type "tuple",dict:=dd,data:=.seq items n,slots:=sl }/\s.heap.get? b=some { cls:=.type "tuple",dict:=dd2,data:=.seq items2 n2,slots:=sl2 }/\
    R (.ok (.ret (.bool (lexLt ns ms)))) s):=
 .of_wp λprog w A R s h=>by
  obtain ⟨hp,g,d,tk,os⟩:=s; obtain ⟨hl,hb,h⟩:=h
  have f2:=AutoSeq1.sub_tuple_tuple
  have z1:items.size=ns.length:=by rw [<- hi.length]; simp
  have z2:items2.size=ms.length:=by rw [<- hj.length]; simp
  wp_walk using wpAny_loadPart' hl,wpAny_loadPart' hb,wpAny_forIn_list _ (λrest b s'=>b.1=none/\s'=⟨hp,g,d,tk,os⟩/\∃ (vs ws:List Value) (ns' ms':List Int),rest=vs.zip ws/\
   IntsAre vs ns'/\IntsAre ws ms'/\ns'.length+items2.size=ms'.length+items.size/\R (.ok (.ret (.bool (lexLt ns' ms')))) ⟨hp,g,d,tk,os⟩) _
  case turn=>
   rintro ⟨y,x⟩ rest b s' ⟨hb',rfl,vs,ws,ns',ms',hz,hvi,hwi,hlen,hR⟩
   cases hvi with
   | nil=>rw [List.zip_nil_left] at hz; cases hz
   | cons a t hvi'=>
    cases hwi with
    | nil=>rw [List.zip_nil_right] at hz; cases hz
    | cons c u hwi'=>
     rw [zip_cons_cons] at hz
     injection hz with hyx hrest
     injection hyx with hy hx
     subst hy hx
     rw [lexLt_cons] at hR
     simp only [length_cons] at hlen
     obtain ⟨e,he,hiff⟩:=eqAt_int A.in1 ⟨hp,g,d,tk,os⟩ a t c u
     refine wpAny_bind (he prog w _ _ ?_)
     cases e with
     | true=>
      rw [if_pos (hiff.mp rfl)] at hR
      wp_walk
      exact ⟨rfl,rfl,_,_,_,_,hrest,hvi',hwi',by omega,hR⟩
     | false=>
      rw [if_neg (λq=>absurd (hiff.mpr q) Bool.false_ne_true)] at hR
      have hri:=rcLt_int A.in1 ⟨hp,g,d,tk,os⟩ a t c u prog w
      wp_walk using hri
      exact ⟨_,rfl,by simpa using hR⟩
  case fin=>
   rintro ⟨b1,b2⟩ s' ⟨hb',rfl,vs,ws,ns',ms',hz,hvi,hwi,hlen,hR⟩
   simp only at hb'
   subst hb'
   have hv:lexLt ns' ms'=decide (items.size<items2.size):=by
    cases hvi with
    | nil=>
     cases hwi with
     | nil=>
      simp only [length_nil] at hlen
      rw [lD]
      exact (decide_eq_false (by omega)).symm
     | cons c u hw=>
      simp only [length_nil,length_cons] at hlen
      rw [kB]
      exact (decide_eq_true (by omega)).symm
    | cons a t hv=>
     cases hwi with
     | nil=>
      simp only [length_nil,length_cons] at hlen
      rw [kN]
      exact (decide_eq_false (by omega)).symm
     | cons c u hw=>
      rw [zip_cons_cons] at hz
      cases hz
   rw [hv] at hR
   wp_walk
   exact ⟨_,rfl,by simpa [Builtin.Tuple.tupleCompareSizes] using hR⟩
  case h=>
   exact ⟨rfl,rfl,items.toList,items2.toList,ns,ms,rfl,hi,hj,by omega,h⟩
end
section
variable {prog:Program} {w:World} {A:Around} {E:Value->Shared->Prop} {s:Shared}
theorem lt_tupInts {l b:Addr} {items items2:Array Value} {ns ms:List Int} {Q:Value->Shared->Prop} (hl:IsTup s.heap l items) (hb:IsTup s.heap b items2) (hi:IntsAre items.toList ns) (hj:IntsAre items2.toList ms)
  (hu:A.units<cLine) (h:Q (.bool (lexLt ns ms)) s):wpAny (model prog w) A (compareOp .Lt (.ref l) (.ref b)) Q E s:=by
 obtain ⟨⟨cls,dd,data,sl⟩,ho,hc,n,hd⟩:=id hl
 obtain ⟨⟨cls2,dd2,data2,sl2⟩,ho2,hc2,n2,hd2⟩:=id hb
 simp only at hc hd hc2 hd2
 subst hc hd hc2 hd2
 exact richCompare_meets_room (op:=.Lt) ⟨_,ho,rfl⟩ ⟨_,ho2,rfl⟩ PySem.F.slot_tuple_lt PySem.F.entry_tuple_lt (PySem.F.args_tuple_lt_2 _ _) (lI l b items items2 n n2 dd dd2 sl sl2 ns ms hi hj)
  ⟨ho,ho2,show Value.bool (lexLt ns ms) ≠ Value.notImplemented/\Q (.bool (lexLt ns ms)) s from ⟨(λx=>nomatch x),h⟩⟩ hu
def sIx (n d:Nat):Option Int->Nat
 | none=>d
 | some v=>if v<0 then (v+(n:Int)).toNat else min v.toNat n
theorem sIx_none (n d:Nat):sIx n d none=d:=rfl
theorem sIx_nat (n d k:Nat):sIx n d (some (k:Int))=min k n:=by
 show (if (k:Int)<0 then ((k:Int)+(n:Int)).toNat else min (k:Int).toNat n)=min k n
 rw [if_neg (by omega),Int.toNat_natCast]
end
end HT
namespace L2
open PySem PySem.Spec PyProof.Rows
abbrev TO:=St->Hp->(Option Int->Hp->Prop)->Prop
def PO (X:Cx) (e:Option Expr) (t:TO):Prop:=
 ∀ (pins:List (Addr × Obj)) (s:Shared) (σ:St) (H:Hp) (Q:Option Int->Hp->Prop),Inv X pins σ H s->t σ H Q->
  wpAny (model X.prog X.w) X.A (evalPart e X.env) (λu s'=>∃ o H',Inv X pins σ H' s'/\IsPart u o/\Q o H') X.xe s
def tNoPart:TO:=λ_ H Q=>Q none H
def tPart (t:TE):TO:=λσ H Q=>t σ H λx H1=>∃ i,x=.int i/\Q (some i) H1
theorem kU {ns:List Int}:∀ {us:List Value},o0 (ns.map V.int) us->IntsAre us ns:=by
 induction ns with
 | nil=>intro us r; rw [map_nil] at r; cases r; exact .nil
 | cons n ns ih=>
  intro us r
  rw [map_cons] at r
  cases r with
  | cons r1 r2=>
   obtain ⟨t,e⟩:=r1
   subst e
   exact .cons n t (ih r2)
section
variable {X:Cx} {e:Expr} {te:TE} {lo hi:Option Expr} {tl th:TO} {pos p2:Pos}
theorem po_none:PO X none tNoPart:=by
 intro pins s σ H Q I h
 rw [evalPart_none]
 exact wpAny_pure ⟨none,H,I,.none,h⟩
theorem po_some (h:PE X e te):PO X (some e) (tPart te):=by
 intro pins s σ H Q I hw
 rw [evalPart_some]
 refine thn (h pins s σ H _ I hw) λu s1 ⟨x,H1,I1,r1,q1⟩=>?_
 obtain ⟨i,rfl,q⟩:=q1
 obtain ⟨t,rfl⟩:=r1
 exact ⟨some i,H1,I1,.int i t,q⟩
def SlR (X:Cx) (r:V->Option Int->Option Int->Hp->VK->Prop):Prop:=
 ∀ (pins:List (Addr × Obj)) (s:Shared) (σ:St) (H:Hp) (x:V) (v vl vu:Value) (lo hi:Option Int) (sl:Addr) (Q:VK),Inv X pins σ H s->o4 x v->s.heap.IsSliceOf sl vl vu .none->IsPart vl lo->IsPart vu hi->r x lo hi H Q->
  ∃ T id,typeLookup (.type T) "__getitem__" = pure (some (.builtin id))/\s.TypeIs v T/\wpAny (model X.prog X.w) X.A (getItem v (.ref sl)) (EP X pins σ Q) X.xe s
def tSl (r:V->Option Int->Option Int->Hp->VK->Prop) (te:TE) (tl th:TO):TE:=λσ H Q=>te σ H λx H1=>tl σ H1 λl H2=>th σ H2 λu H3=>r x l u H3 Q
theorem pe_slice {r:V->Option Int->Option Int->Hp->VK->Prop} (hr:SlR X r) (he:PE X e te) (hl:PO X lo tl) (hu:PO X hi th):PE X (.Subscript e (.Slice lo hi none p2) pos) (tSl r te tl th):=by
 intro pins s σ H Q I h
 refine Subscript_ (thn (he pins s σ H _ I h) λv s1 ⟨x,H1,I1,r1,q1⟩=>?_)
 refine wpAny_Slice (thn (hl pins s1 σ H1 _ I1 q1) λvl s2 ⟨l,H2,I2,pl,q2⟩=>thn (hu pins s2 σ H2 _ I2 q2) λvu s3 ⟨u,H3,I3,pu,q3⟩=>?_)
 rw [evalPart_none]
 refine wpAny_pure ?_
 have I4:Inv X pins σ H3 { s3 with heap:=s3.heap.push { cls:=.type "slice",data:=.fields #[vl,vu,.none] } }:=I3.kept (t':=s3.toks) λb ob q=>get?_push_of_some _ q
 obtain ⟨T,id,hT,ht,hg⟩:=hr pins { s3 with heap:=s3.heap.push { cls:=.type "slice",data:=.fields #[vl,vu,.none] } } σ H3 x v vl vu l u s3.heap.objs.size Q I4 r1 (Heap.IsSliceOf.new ..) pl pu q3
 show wpAny (model X.prog X.w) X.A (subscriptTail e (.Slice lo hi none p2) v (.ref s3.heap.objs.size)) (EP X pins σ Q) X.xe { s3 with heap:=s3.heap.push { cls:=.type "slice",data:=.fields #[vl,vu,.none] } }
 exact tail_any (ops:=[.ref s3.heap.objs.size,v]) ht hT hg (by with_unfolding_all rfl)
def cutV (xs:List V) (lo hi:Option Int):List V:=(xs.drop (HT.sIx xs.length 0 lo)).take (HT.sIx xs.length xs.length hi-HT.sIx xs.length 0 lo)
theorem cutV_length (xs:List V) (lo hi:Option Int):(cutV xs lo hi).length<=xs.length:=by
 unfold cutV
 rw [length_take,List.length_drop]
 omega
end
def ixN (n:Nat) (i:Int):Option Nat:=if 0<=i then (if i<n then some i.toNat else none) else if -(n:Int)<=i then some (i+n).toNat else none
def atI {α:Type} (xs:List α) (i:Int):Option α:=(ixN xs.length i).bind λj=>xs[j]?
theorem ixN_seq {n:Nat} {i:Int} {j:Nat} (h:ixN n i=some j):seqIndex? i n=some j/\j<n/\-(n:Int)<=i/\i<n:=by
 unfold ixN at h
 by_cases h0:0<=i
 ·rw [if_pos h0] at h
  by_cases h1:i<n
  ·rw [if_pos h1] at h
   have e:i.toNat=j:=Option.some.inj h
   exact ⟨by rw [seqIndex_of h0 h1,e],by omega,by omega,h1⟩
  ·rw [if_neg h1] at h; cases h
 ·rw [if_neg h0] at h
  by_cases h1:-(n:Int)<=i
  ·rw [if_pos h1] at h
   have e:(i+n).toNat=j:=Option.some.inj h
   exact ⟨by rw [seqIndex_neg (by omega) h1,e],by omega,h1,by omega⟩
  ·rw [if_neg h1] at h; cases h
theorem atI_get {α:Type} {xs:List α} {i:Int} {v:α} (h:atI xs i=some v):∃ j,seqIndex? i xs.length=some j/\xs[j]? = some v/\j<xs.length/\-(xs.length:Int)<=i/\i<xs.length:=by
 unfold atI at h
 cases e:ixN xs.length i with
 | none=>rw [e] at h; cases h
 | some j=>
  rw [e] at h
  obtain ⟨h1,h2,h3,h4⟩:=ixN_seq e
  exact ⟨j,h1,h,h2,h3,h4⟩
theorem dA {α:Type} {xs:List α} {j:Nat} {v:α} (h:xs[j]? = some v):atI xs (j:Int)=some v:=by
 have hj:j<xs.length:=(List.getElem?_eq_some_iff.mp h).1
 have e:ixN xs.length (j:Int)=some j:=by
  unfold ixN
  rw [if_pos (by omega),if_pos (by omega)]; simp
 unfold atI; rw [e]; exact h
def PlainIx (b:Expr):Prop:=∀ o i,subscripted b false o i=operate [o,i] (getItem o i)
def IxR (X:Cx) (r:R2):Prop:=
 ∀ (value slice:Expr) (pins:List (Addr × Obj)) (s:Shared) (σ:St) (H:Hp) (x y:V) (v u:Value) (Q:VK),Inv X pins σ H s->o4 x v->o4 y u->r x y H Q->
  subscripted slice false v u=operate [v,u] (getItem v u)->wpAny (model X.prog X.w) X.A (subscriptTail value slice v u) (EP X pins σ Q) X.xe s
def MtR (X:Cx) (id:String) (r:V->List V->Hp->VK->Prop):Prop:=
 ∀ (pins:List (Addr × Obj)) (s:Shared) (σ:St) (H:Hp) (x:V) (xs:List V) (v:Value) (us:List Value) (Q:VK),Inv X pins σ H s->o4 x v->o0 xs us->r x xs H Q->
  wpAny (model X.prog X.w) X.A (call (.builtin id) (v::us)) (EP X pins σ Q) X.xe s
section
variable {X:Cx} {a b:Expr} {ta tb:TE} {pos:Pos}
theorem aB {r:R2} (hr:IxR X r) (ha:PE X a ta) (hb:PE X b tb) (hs:PlainIx b):PE X (.Subscript a b pos) (tOp r ta tb):=by
 intro pins s σ H Q I h
 exact Subscript_ (binT ha hb I h λv u s2 x y H2 I2 rx ry q=>hr a b pins s2 σ H2 x y v u Q I2 rx ry q (hs _ _))
def rIxL (K:Frag):R2:=λx y H Q=>∃ p xs i v,x=.ref p/\y=.int i/\SqL K H p xs/\atI xs i=some v/\Q v H
def rIxT (K:Frag):R2:=λx y H Q=>∃ p xs i v,x=.ref p/\y=.int i/\SqT K H p xs/\atI xs i=some v/\Q v H
theorem ix_list:IxR X (rIxL X.K):=by
 intro value slice pins s σ H x y v u Q I rx ry h hs
 obtain ⟨p,xs,i,z,rfl,rfl,hq,he,q⟩:=h
 cases rx
 obtain ⟨t,rfl⟩:=ry
 obtain ⟨its,r,pl,hz⟩:=I.list hq
 obtain ⟨j,h1,h2,h3,h4,h5⟩:=atI_get he
 obtain ⟨w,ew,rw'⟩:=r.get h2
 have hl:=r.length
 have hn:=nO
 have fin:EP X pins σ Q w s:=⟨z,H,I,rw',q⟩
 by_cases h0:0<=i
 ·have hj:i.toNat=j:=by
   rw [seqIndex_of h0 h5] at h1
   exact Option.some.inj h1
  exact item_listR pl.isList h0 (by omega) (by rw [hj]; simpa using ew) fin hs
 ·have hj:(i+(its.toArray.size:Int)).toNat=j:=by
   rw [seqIndex_neg (by omega) h4] at h1
   rw [size_toArray,<- hl]
   exact Option.some.inj h1
  exact subscriptTail_builtinR (x:=w) pl.isList.typeIs slot_list_getitem.lookup
   (wpAny_getItem_list_neg (Q:=λr s'=>r=w/\EP X pins σ Q r s') pl.isList (by omega) (by rw [size_toArray]<;>omega) (by omega) (by rw [hj]; simpa using ew) ⟨rfl,fin⟩) hs
theorem ix_tup:IxR X (rIxT X.K):=by
 intro value slice pins s σ H x y v u Q I rx ry h hs
 obtain ⟨p,xs,i,z,rfl,rfl,hq,he,q⟩:=h
 cases rx
 obtain ⟨t,rfl⟩:=ry
 obtain ⟨its,r,pl,hz⟩:=I.tuple hq
 obtain ⟨j,h1,h2,h3,h4,h5⟩:=atI_get he
 obtain ⟨w,ew,rw'⟩:=r.get h2
 have hl:=r.length
 have hn:=nO
 have fin:EP X pins σ Q w s:=⟨z,H,I,rw',q⟩
 exact subscriptTail_builtinR (x:=w) pl.typeIs slot_tuple_getitem.lookup
  (getItem_tuple (j:=j) (Q:=λr s'=>r=w/\EP X pins σ Q r s') pl (by omega) (by omega) (by rw [size_toArray,<- hl]; exact h1) (by simpa using ew) ⟨rfl,fin⟩) hs
theorem mapSeq_set (its:List Value) (n j:Nat) (u:Value):Obj.mapSeq (·.setIfInBounds j u) { cls:=.type "list",data:=.seq its.toArray n }={ cls:=.type "list",data:=.seq (its.set j u).toArray n }:=by
 simp [Obj.mapSeq]
theorem Inv.lst {pins:List (Addr × Obj)} {σ:St} {H:Hp} {s:Shared} {p:Addr} {xs:List V} (I:Inv X pins σ H s) (h:H p=some (.lst xs)) :
  ∃ (its:List Value) (n:Nat),o0 xs its/\s.heap.get? p=some { cls:=.type "list",data:=.seq its.toArray n }/\xs.length<=sizeLine:=by
 obtain ⟨z,its,n,r,e⟩:=I.hok p _ h
 exact ⟨its,n,r,e,z⟩
theorem Inv.lstUpd {pins:List (Addr × Obj)} {σ:St} {H:Hp} {s:Shared} {p:Addr} {xs ys:List V} {its its':List Value} {n n':Nat} {f:Obj->Obj} (I:Inv X pins σ H s) (h:H p=some (.lst xs))
  (ho:s.heap.get? p=some { cls:=.type "list",data:=.seq its.toArray n }) (hf:f { cls:=.type "list",data:=.seq its.toArray n }={ cls:=.type "list",data:=.seq its'.toArray n' }) (r:o0 ys its') (hz:ys.length<=sizeLine) (t:Nat) :
  Inv X pins σ (upd H p (.lst ys)) { s with heap:=s.heap.update p f,toks:=t }:=by
 have e:(s.heap.update p f).get? p=some { cls:=.type "list",data:=.seq its'.toArray n' }:=by
  rw [get?_update_self f ho (by rw [hf]<;>rfl),hf]
 refine I.write (x:=p) (e:=p) (by rw [h]; trivial) (.inl rfl) (λb u hb q=>(get?_update_other _ _ (Ne.symm hb)).trans q) ⟨_,e⟩ ?_
 exact ⟨hz,its',n',r,e⟩
def rSetL:V->V->V->Hp->(Hp->Prop)->Prop:=λo i v H Q=>∃ p xs k j,o=.ref p/\i=.int k/\H p=some (.lst xs)/\ixN xs.length k=some j/\Q (upd H p (.lst (xs.set j v)))
theorem gn:PSet X rSetL:=by
 intro pins s σ H o i v ov iv u Q I ro ri rv h
 obtain ⟨p,xs,k,j,rfl,rfl,hp,hj,q⟩:=h
 cases ro
 obtain ⟨t,rfl⟩:=ri
 obtain ⟨its,n,r,ho,hz⟩:=I.lst hp
 obtain ⟨h1,h2,h3,h4⟩:=ixN_seq hj
 have hl:=r.length
 have hn:=nO
 have I':Inv X pins σ (upd H p (.lst (xs.set j v))) { s with heap:=s.heap.update p (Obj.mapSeq (·.setIfInBounds j u)) }:=
  I.lstUpd hp ho (mapSeq_set its n j u) (r.set rv j) (by rw [List.length_set]; exact hz) s.toks
 by_cases h0:0<=k
 ·have hk:k.toNat=j:=by
   rw [seqIndex_of h0 h4] at h1
   exact Option.some.inj h1
  exact PySem.W.ki_setAt ho h0 (by omega) (by rw [size_toArray,<- hl]; exact h4) (by rw [hk]; exact ⟨_,I',q⟩)
 ·have hk:(k+(its.toArray.size:Int)).toNat=j:=by
   rw [seqIndex_neg (by omega) h3] at h1
   rw [size_toArray,<- hl]
   exact Option.some.inj h1
  exact PySem.W.ki_setBack ho (by omega) (by rw [size_toArray,<- hl]; exact h3) (by omega) (by rw [hk]; exact ⟨_,I',q⟩)
theorem og (lo hi:Option Int) (n:Nat):(sliceBounds lo hi none n).1=((HT.sIx n 0 lo:Nat):Int)/\(sliceBounds lo hi none n).2.1=((HT.sIx n n hi:Nat):Int)/\(sliceBounds lo hi none n).2.2=1:=by
 refine ⟨?_,?_,rfl⟩
 ·cases lo with
  | none=>simp [sliceBounds,HT.sIx]
  | some i=>
   simp only [sliceBounds,HT.sIx,Option.getD_none,show (1:Int) > 0 by decide,if_true]
   by_cases h:i<0
   ·simp only [h,if_true]<;>omega
   ·simp only [h,if_false]<;>omega
 ·cases hi with
  | none=>simp [sliceBounds,HT.sIx]
  | some i=>
   simp only [sliceBounds,HT.sIx,Option.getD_none,show (1:Int) > 0 by decide,if_true]
   by_cases h:i<0
   ·simp only [h,if_true]<;>omega
   ·simp only [h,if_false]<;>omega
theorem lA (its:List Value) (lo hi:Option Int):slicePick its.toArray lo hi none=((its.drop (HT.sIx its.length 0 lo)).take (HT.sIx its.length its.length hi-HT.sIx its.length 0 lo)).toArray:=by
 obtain ⟨h1,h2,h3⟩:=og lo hi its.toArray.size
 unfold slicePick
 rw [h1,h2,h3]
 simp only [sliceRange_one,pick_run,size_toArray]<;>rfl
def rSlL (K:Frag):V->Option Int->Option Int->Hp->VK->Prop:=λx lo hi H Q=>∃ a xs,x=.ref a/\SqL K H a xs/\∀ p,H p=none->Q (.ref p) (upd H p (.lst (cutV xs lo hi)))
theorem sl_list:SlR X (rSlL X.K):=by
 intro pins s σ H x v vl vu lo hi sl Q I rx hs pl pu h
 obtain ⟨a,xs,rfl,hx,q⟩:=h
 cases rx
 obtain ⟨its,r,ht,hz⟩:=I.list hx
 have hlen:=r.length
 refine ⟨"list",_,slot_list_getitem.lookup,ht.isList.typeIs,?_⟩
 refine wpAny_getItem_list_slice ht.isList hs pl pu .none (by simp) ?_ (by rw [size_toArray]<;>omega)
 rw [lA,<- hlen]
 refine ⟨.ref s.heap.objs.size,_,I.laid (t':=s.toks) (o:=.lst (cutV xs lo hi)) (λb ob q=>get?_push_of_some _ q) (Nat.le_refl _) ?_,rfl,q _ (I.hok.fresh (Nat.le_refl _))⟩
 exact ⟨Nat.le_trans (cutV_length xs lo hi) hz,_,0,(r.drop (HT.sIx xs.length 0 lo)).take (HT.sIx xs.length xs.length hi-HT.sIx xs.length 0 lo),get?_push_size _ rfl⟩
theorem nN:dE X (.builtin "len") (λxs H Q=>∃ p ys,xs=[.ref p]/\(SqL X.K H p ys\/SqT X.K H p ys)/\Q (.int ys.length) H):=by
 intro pins s σ H xs us Q I r h
 obtain ⟨p,ys,rfl,hq,q⟩:=h
 obtain ⟨u,rfl,rx⟩:=gO r
 cases rx
 have hn:=nO
 rcases hq with hq | hq
 ·obtain ⟨its,r',pl,hz⟩:=I.list hq
  have hlen:=r'.length
  exact Calls.call_len_list pl.isList (by simp only [size_toArray]<;>omega) ⟨.int ys.length,H,I.tok _,⟨s.toks+1,by rw [size_toArray,hlen]⟩,q⟩
 ·obtain ⟨its,r',pl,hz⟩:=I.tuple hq
  have hlen:=r'.length
  exact len_tuple pl (by simp only [size_toArray]<;>omega) ⟨.int ys.length,H,I.tok _,⟨s.toks+1,by rw [size_toArray,hlen]⟩,q⟩
theorem oO:dE X (.type "list") (λxs H Q=>∃ p ys,xs=[.ref p]/\(SqL X.K H p ys\/SqT X.K H p ys)/\∀ l,H l=none->Q (.ref l) (upd H l (.lst ys))):=by
 intro pins s σ H xs us Q I r h
 obtain ⟨p,ys,rfl,hq,q⟩:=h
 obtain ⟨u,rfl,rx⟩:=gO r
 cases rx
 have fin:∀ (its:List Value),o0 ys its->ys.length<=sizeLine->∀ (h':Heap) (c':Nat),(∀ b o',s.heap.get? b=some o'->h'.get? b=some o')->
   h'.get? s.heap.objs.size=some { cls:=.type "list",dict:=none,data:=.seq its.toArray c',slots:=#[] }->EP X pins σ Q (.ref s.heap.objs.size) { s with heap:=h' }:=λits r' hz h' c' kp e=>
  ⟨.ref s.heap.objs.size,_,I.laid (t':=s.toks) kp (Nat.le_refl _) (show pd X.prog X.w _ h' _ (.lst ys) from ⟨hz,its,c',r',e⟩),rfl,q _ (I.hok.fresh (Nat.le_refl _))⟩
 rcases hq with hq | hq
 ·obtain ⟨its,r',pl,hz⟩:=I.list hq
  have hlen:=r'.length
  obtain ⟨o,ho,hc,n,hd⟩:=pl.isList
  exact call_list_seq p (.inl rfl) ho hc hd (λh' c' kp e=>fin its r' hz h' c' kp e) (by simp only [size_toArray]<;>omega)
 ·obtain ⟨its,r',pl,hz⟩:=I.tuple hq
  have hlen:=r'.length
  obtain ⟨o,ho,hc,n,hd⟩:=pl
  exact call_list_seq p (.inr rfl) ho hc hd (λh' c' kp e=>fin its r' hz h' c' kp e) (by simp only [size_toArray]<;>omega)
theorem lJ:dE X (.type "tuple") (λxs H Q=>∃ p ys,xs=[.ref p]/\((SqL X.K H p ys/\∀ l,H l=none->Q (.ref l) (upd H l (.tup ys)))\/(SqT X.K H p ys/\Q (.ref p) H))):=by
 intro pins s σ H xs us Q I r h
 obtain ⟨p,ys,rfl,h⟩:=h
 obtain ⟨u,rfl,rx⟩:=gO r
 cases rx
 rcases h with ⟨hq,q⟩ | ⟨hq,q⟩
 ·obtain ⟨its,r',pl,hz⟩:=I.list hq
  have hlen:=r'.length
  refine call_tuple_list pl.isList (λh' kp=>?_) (by simp only [size_toArray]<;>omega)
  have I1:Inv X pins σ H { s with heap:=h' }:=I.kept (t':=s.toks) kp
  have I2:Inv X pins σ (upd H h'.objs.size (.tup ys)) { s with heap:=h'.push { cls:=.type "tuple",data:=.seq its.toArray } }:=
   I1.laid (t':=s.toks) (λb o e=>get?_push_of_some _ e) (Nat.le_refl _) (show pd X.prog X.w _ _ _ (.tup ys) from ⟨hz,its,r',IsTup.new _ _⟩)
  exact ⟨.ref h'.objs.size,_,I2,rfl,q _ (I1.hok.fresh (Nat.le_refl _))⟩
 ·obtain ⟨its,r',pl,hz⟩:=I.tuple hq
  exact call_tuple_same pl ⟨.ref p,H,I,rfl,q⟩
def tyV (K:Frag) (T:String) (x:V) (H:Hp):Prop:=match x with
 | .str _=>T = "str"
 | .int _=>T = "int"
 | .ref p=>(T = "list"/\∃ xs,SqL K H p xs)\/(T = "tuple"/\∃ o,K.lookup p=some o/\o.cls=.type "tuple"/\o.dict=none) \/
   (T = "dict"/\((∃ kvs,H p=some (.dK kvs))\/∃ kvs,H p=some (.dT kvs)))\/(T = "set"/\∃ S n,H p=some (.set S n))
 | _=>False
theorem tyV_is {pins:List (Addr × Obj)} {σ:St} {H:Hp} {s:Shared} {T:String} {x:V} {v:Value} (I:Inv X pins σ H s) (r:o4 x v) (ty:tyV X.K T x H) :
  s.TypeIs v T/\∀ a,v=.ref a->∃ ob,s.heap.get? a=some ob/\ob.dict=none:=by
 cases x with
 | str z=>
  obtain ⟨t,rfl⟩:=r
  cases (show T = "str" from ty)
  exact ⟨typeIs_str s z t,λ_ e=>nomatch e⟩
 | int i=>
  obtain ⟨t,rfl⟩:=r
  cases (show T = "int" from ty)
  exact ⟨typeIs_int s i t,λ_ e=>nomatch e⟩
 | ref p=>
  cases r
  rcases ty with ⟨rfl,xs,hq⟩ | ⟨rfl,o,hk,hc,hd⟩ | ⟨rfl,hk⟩ | ⟨rfl,S,n,hk⟩
  ·obtain ⟨its,_,pl,_⟩:=I.list hq
   refine ⟨pl.isList.typeIs,λa e=>?_⟩
   cases e
   obtain ⟨o,n,e,c,hd,_⟩:=pl
   exact ⟨o,e,hd⟩
  ·refine ⟨⟨o,I.kIn p o hk,hc⟩,λa e=>?_⟩
   cases e
   exact ⟨o,I.kIn _ o hk,hd⟩
  ·have z:∃ o,s.heap.get? p=some o/\o.ExactDict:=by
    rcases hk with ⟨kvs,hk⟩ | ⟨kvs,hk⟩
    ·obtain ⟨_,_,_,_,o,_,_,e,ex,_⟩:=I.hok p _ hk
     exact ⟨o,e,ex⟩
    ·obtain ⟨_,_,_,_,o,_,_,e,ex,_⟩:=I.hok p _ hk
     exact ⟨o,e,ex⟩
   obtain ⟨o,e,ex⟩:=z
   refine ⟨⟨o,e,ex.1⟩,λa e2=>?_⟩
   cases e2
   exact ⟨o,e,ex.2.1⟩
  ·obtain ⟨o,_,_,_,e,ex,_⟩:=I.hok p _ hk
   refine ⟨⟨o,e,ex.1⟩,λa e2=>?_⟩
   cases e2
   exact ⟨o,e,ex.2.1⟩
 | _=>exact False.elim ty
def tBM0 (K:Frag) (T:String) (r:V->List V->Hp->VK->Prop) (to:TE):TE:=λσ H Q=>to σ H λx H1=>tyV K T x H1/\r x [] H1 Q
def tBM (K:Frag) (T:String) (r:V->List V->Hp->VK->Prop) (to:TE) (t:TA):TE:=λσ H Q=>to σ H λx H1=>tyV K T x H1/\t σ H1 λxs H2=>r x xs H2 Q
variable {o e:Expr} {es:List Expr} {to:TE} {t:TA} {name:Str} {apos cpos:Pos} {T id:String} {r:V->List V->Hp->VK->Prop}
theorem pe_bm0 (pa:PlainAttrs T) (slot:Slot T name id) (hty:typeOf (.builtin id)=pure (.type "method_descriptor")) (hm:MtR X id r) (ho:PE X o to)
  (hbase:attributeBase o name X.env (eval o X.env)=eval o X.env:=by rfl) (hline:(apos.endLine == cpos.line)=true:=by rfl):PE X (.Call (.Attribute o name apos) [] [] cpos) (tBM0 X.K T r to):=by
 intro pins s σ H Q I h
 refine wpAny_Call_method0_late hbase hline (thn (ho pins s σ H _ I h) λv s1 ⟨x,H1,I1,r1,ty,q1⟩=>?_)
 obtain ⟨h1,h2⟩:=tyV_is I1 r1 ty
 exact ⟨T,id,pa,slot,hty,h1,h2,Calls.callWith_builtin rfl (PySem.evalArgs_none (hm pins s1 σ H1 x [] v [] Q I1 r1 .nil q1))⟩
theorem pe_bm (pa:PlainAttrs T) (slot:Slot T name id) (hty:typeOf (.builtin id)=pure (.type "method_descriptor")) (hm:MtR X id r) (ho:PE X o to) (ha:PA X (e::es) t)
  (hbase:attributeBase o name X.env (eval o X.env)=eval o X.env:=by rfl)
  (hfew:((backTo cpos (starEach (e::es) X.env)).all (λx=>!x.1) && (backToKw cpos (keywordEach [] X.env)).all (λx=>x.1.isSome)
   && decide ((e::es).length+([]:List Keyword).length+(if ([]:List Keyword).isEmpty then 0 else 1)<30))=true:=by rfl)
  (hline:(apos.endLine == cpos.line)=true:=by rfl) (hs:starEach (e::es) X.env=(false,eval e X.env)::starEach es X.env:=by rfl) (hplain:(backTo cpos (starEach es X.env)).any (·.1)=false:=by rfl) :
  PE X (.Call (.Attribute o name apos) (e::es) [] cpos) (tBM X.K T r to t):=by
 intro pins s σ H Q I h
 refine wpAny_Call_method_late hbase hfew hline rfl (thn (ho pins s σ H _ I h) λv s1 ⟨x,H1,I1,r1,ty,q1⟩=>?_)
 obtain ⟨h1,h2⟩:=tyV_is I1 r1 ty
 refine ⟨T,id,pa,slot,hty,h1,h2,?_⟩
 have hA:=ha cpos pins s1 σ H1 _ I1 q1
 rw [hs] at hA ⊢
 refine Calls.callWith_builtin (by show (false || (backTo cpos (starEach es X.env)).any (·.1))=false; rw [hplain]<;>rfl) (Calls.evalArgs_plain ?_)
 exact thn hA λus s2 ⟨vs,H2,I2,r2,q2⟩=>hm pins s2 σ H2 x vs v us Q I2 r1 r2 q2
end
def MtM (X:Cx) (id:String) (r:V->List V->Hp->VK->Prop):Prop:=
 ∀ (pins:List (Addr × Obj)) (s:Shared) (σ:St) (H:Hp) (x:V) (xs:List V) (v:Value) (us:List Value) (Q:VK),Inv X pins σ H s->o4 x v->o0 xs us->r x xs H Q->
  wpAny (model X.prog X.w) X.A (call (.builtin id) (v::us)) (EP X pins σ Q) X.xe s
theorem o0.one:∀ {x:V} {us:List Value},o0 [x] us->∃ u,us=[u]/\o4 x u
 | _,_,.cons r .nil=>⟨_,rfl,r⟩
theorem o0.two:∀ {x y:V} {us:List Value},o0 [x,y] us->∃ u v,us=[u,v]/\o4 x u/\o4 y v
 | _,_,_,.cons r (.cons q .nil)=>⟨_,_,rfl,r,q⟩
theorem o0.reverse {xs:List V} {us:List Value} (h:o0 xs us):o0 xs.reverse us.reverse:=by
 induction h with
 | nil=>exact .nil
 | cons r t ih=>rw [List.reverse_cons,List.reverse_cons]; exact o0.append ih (.cons r .nil)
section
variable {X:Cx} {pins:List (Addr × Obj)} {σ:St} {H:Hp} {s:Shared} {l b:Addr} {xs ys zs:List V}
theorem Inv.lset {its its':List Value} {n:Nat} {f:Array Value->Array Value} {t':Nat} (I:Inv X pins σ H s) (hH:H l=some (.lst xs))
  (e:s.heap.get? l=some { cls:=.type "list",data:=.seq its.toArray n }) (hf:f its.toArray=its'.toArray) (hv:o0 ys its') (hz:ys.length<=sizeLine) :
  Inv X pins σ (upd H l (.lst ys)) { s with heap:=s.heap.update l (Obj.mapSeq f),toks:=t' }:=by
 have q:=PySem.IsL.update e f
 rw [hf] at q
 refine I.write (x:=l) (e:=l) (by rw [hH]; exact trivial) (.inl rfl) (λb' u hb hu=>(get?_update_other s.heap (Obj.mapSeq f) (Ne.symm hb)).trans hu) ⟨_,q⟩ ?_
 exact ⟨hz,its',_,hv,q⟩
theorem Inv.lnew {its:List Value} {t':Nat} (I:Inv X pins σ H s) (hv:o0 ys its) (hz:ys.length<=sizeLine) :
  Inv X pins σ (upd H s.heap.objs.size (.lst ys)) { s with heap:=s.heap.push { cls:=.type "list",data:=.seq its.toArray },toks:=t' }:=
 I.laid (λ_ _ q=>get?_push_of_some _ q) (Nat.le_refl _) ⟨hz,its,0,hv,get?_push_size _ rfl⟩
theorem Inv.fresh (I:Inv X pins σ H s):H s.heap.objs.size=none:=I.hok.fresh (Nat.le_refl _)
theorem Inv.lstM (I:Inv X pins σ H s) (hH:H l=some (.lst xs)):xs.length<=sizeLine/\∃ (its:List Value) (n:Nat),o0 xs its/\xs.length=its.length/\s.heap.get? l=some { cls:=.type "list",data:=.seq its.toArray n }:=by
 obtain ⟨z,its,n,r,e⟩:=I.hok l _ hH
 exact ⟨z,its,n,r,r.length,e⟩
theorem notLongL {n:Nat} (h:n<=sizeLine):Builtin.List.listTooLong n=false:=by
 unfold Builtin.List.listTooLong
 exact decide_eq_false (by omega)
end
section
variable {X:Cx}
def rAppend:V->List V->Hp->VK->Prop:=λx vs H Q=>∃ l xs y,x=.ref l/\vs=[y]/\H l=some (.lst xs)/\xs.length<sizeLine/\Q .non (upd H l (.lst (xs++[y])))
theorem jg:MtM X "list.append" rAppend:=by
 intro pins s σ H x vs v us Q I rx rv h
 obtain ⟨l,xs,y,rfl,rfl,hH,hz,q⟩:=h
 cases rx
 obtain ⟨u,rfl,ru⟩:=rv.one
 obtain ⟨z,its,n,r,hl,e⟩:=I.lstM hH
 refine call_meets F.slot_list_append ⟨_,e,rfl⟩ F.entry_list_append (F.args_list_append_2 _ _) (PySem.list_append l its.toArray n u (by rw [size_toArray]; omega)) ⟨e,?_⟩
 refine ⟨.non,_,I.lset (its':=its++[u]) hH e (by simp) (r.append (.cons ru .nil)) ?_,rfl,q⟩
 rw [length_append,length_singleton]
 omega
def rExtend:V->List V->Hp->VK->Prop:=λx vs H Q=>∃ l b xs zs,x=.ref l/\vs=[.ref b]/\H l=some (.lst xs)/\H b=some (.lst zs)/\xs.length+zs.length<=sizeLine/\Q .non (upd H l (.lst (xs++zs)))
theorem mt_extend:MtM X "list.extend" rExtend:=by
 intro pins s σ H x vs v us Q I rx rv h
 obtain ⟨l,b,xs,zs,rfl,rfl,hH,hB,hz,q⟩:=h
 cases rx
 obtain ⟨u,rfl,ru⟩:=rv.one
 cases ru
 obtain ⟨z,its,n,r,hl,e⟩:=I.lstM hH
 obtain ⟨z2,its2,n2,r2,hl2,e2⟩:=I.lstM hB
 have hsz:its.toArray.size+its2.toArray.size<=sizeLine:=by rw [size_toArray,size_toArray]; omega
 have hlong:¬ (!its.toArray.isEmpty && Builtin.List.listTooLong (its.toArray.size+its2.toArray.size))=true:=by
  rw [notLongL hsz,Bool.and_false]
  exact Bool.false_ne_true
 refine call_meets F.slot_list_extend ⟨_,e,rfl⟩ F.entry_list_extend (F.args_list_extend_2 _ _)
  (AutoSeq1.list_extend_list_list_0 l its.toArray n b its2.toArray n2 hlong (by rw [size_toArray]; omega) (by omega)) ⟨e,e2,?_⟩
 refine ⟨.non,_,I.lset (its':=its++its2) hH e (by simp) (r.append r2) ?_,rfl,q⟩
 rw [length_append]
 omega
def rCat:R2:=λx y H Q=>∃ l b xs zs,x=.ref l/\y=.ref b/\H l=some (.lst xs)/\H b=some (.lst zs)/\xs.length+zs.length<=sizeLine/\∀ p,H p=none->Q (.ref p) (upd H p (.lst (xs++zs)))
theorem kn:OpR X (binaryOp .Add) rCat:=by
 intro pins s σ H x y v u Q I rx ry h
 obtain ⟨l,b,xs,zs,rfl,rfl,hH,hB,hz,q⟩:=h
 cases rx
 cases ry
 obtain ⟨z,its,n,r,hl,e⟩:=I.lstM hH
 obtain ⟨z2,its2,n2,r2,hl2,e2⟩:=I.lstM hB
 refine PySem.P.add_list e e2 ?_ (by rw [size_toArray,size_toArray]; omega)
 have ea:its.toArray++its2.toArray=(its++its2).toArray:=by simp
 rw [ea]
 exact ⟨.ref _,_,I.lnew (t':=s.toks) (r.append r2) (by rw [length_append]; omega),rfl,q _ I.fresh⟩
end
section
variable {prog:Program} {w:World} {A:Around} {E:Value->Shared->Prop} {s:Shared}
end
section
variable {X:Cx}
end
end L2
namespace Att
open PySem PySem.W PySem.Calls PyProof.Rows
theorem jH {P:Params} {h:Heap}:∀ (ns:List Int) (vs:List Value),WellAll P h vs (ns.map WData.int)->IntsAre vs ns:=by
 intro ns
 induction ns with
 | nil=>
  intro vs w
  rw [map_nil] at w
  cases w
  exact .nil
 | cons n ns ih=>
  intro vs w
  rw [map_cons] at w
  cases w with
  | cons a b=>
   cases a
   exact .cons _ _ (ih _ b)
theorem script_of {l:OpenLaw} {n:Nat} (hn:l.most=some n) {P:Params} {h:Heap} {args:List WData} {vals:List Value}
  (hpre:l.row.toRowW.claim.pre args=true) (hwl:WellAll P h vals args) :
  ∃ a vs ns,vals=[Value.ref a]/\args=[WData.list (ns.map WData.int)]/\h.get? a=some { cls:=.type "list",data:=.seq vs.toArray }/\IntsAre vs ns/\ns.length<=n:=by
 have hsh:WShape.hasAll [] args [.list .int]=true:=(pre_splitW hpre).1
 have hc:l.pre.holds [] { args:=args }=true:=(pre_splitW hpre).2
 obtain ⟨d,r,rfl,h1,h2⟩:=hasAllW_cons hsh
 obtain rfl:=hasAllW_nil h2
 obtain ⟨xs,rfl,h3⟩:=hasW_list h1
 obtain ⟨ns,rfl⟩:=items_int h3
 have hlen:ns.length<=n:=by
  unfold OpenLaw.pre at hc
  have h4:(WTm.not (.lt (.lit (.int (n:Int))) (.len (.arg 0)))).holds [] { args:=[.list (ns.map .int)] }=true:=by
   have h4:=(holds_andW hc).1
   rw [hn] at h4
   exact h4
  have h5:=condW_of h4 (w_not (w_lt w_lit (w_len_list (w_arg rfl))))
  rw [length_map] at h5
  refine Nat.le_of_not_lt λq=>?_
  have q':(n:Int)<((ns.length:Nat):Int):=by omega
  first
   | (rw [decide_eq_true q'] at h5; exact absurd h5 (by decide))
   | (simp at h5; omega)
 cases hwl with
 | cons w1 w2=>
  cases w2
  cases w1 with
  | list ho hall=>exact ⟨_,_,ns,rfl,rfl,ho,jH ns _ hall,hlen⟩
theorem post_true (l:OpenLaw) (args:List WData):l.row.toRowW.claim.post args (.bool true) args=true:=
 postW_of (r:=l.row.toRowW) (X:=(true == true))
  (show WShape.has [] (.bool true) .bool=true by first | rfl | decide | simp [WShape.has,WShape.arms,WShape.armsAll])
  (show (WTm.eq .res (.lit (.bool true))).value [] { args:=args,res:=some (.bool true),after:=args }=some (.bool (true == true)) from w_eq_bool (w_res rfl) w_lit) rfl
theorem attach_call {l:OpenLaw} {n:Nat} {q:Program} {loose:List Str} {XP:(Str->Option Value)->Heap->Prop} {YP:World->Heap->Prop} {d:DefRec}
  (hn:l.most=some n) (hdf:d.params.defaults=[])
  (call:∀ (w:World) (s₀ s₁:Shared) (mg mb:Str->Option Value) (fa:Addr) (o:Obj) (pm cd doc:Value) (a:Addr) (vs:List Value) (ns:List Int),
   Ground q loose [] XP w s₀ mg mb s₁.heap->YP w s₁.heap->
   s₁.heap.get? fa=some o->o.data=.func (docDef d.name d.params d.body d.scope pm cd doc)->s₁.heap.CodeRec cd d.name->mg d.name=some (.ref fa)->
   s₁.heap.get? a=some { cls:=.type "list",data:=.seq vs.toArray }->IntsAre vs ns->ns.length<=n->s₁.gens = #[]->
   codeAny (model l.prog w) callerA (.call (.ref fa) ⟨[.ref a],[]⟩) (λr s'=>r=.ok (.ret (.bool true))/\OldK s₁.heap s'.heap/\s'.os=s₁.os/\AllBare s'.gens) s₁) :
  WalkO q loose XP YP l.row.toRowW d [] (λf vs=>PySem.call f vs):=by
 intro w s₀ s₁ mg mb G Y fa o pm cd doc dV kV ho hd hcd hD hmg hg args vals as hpre hlay hrd hwl hlo
 obtain rfl:dV=.none:=Dflts.none hD hdf
 obtain rfl:kV=.none:=Dflts.noKw hD
 obtain ⟨a,vs,ns,rfl,rfl,hobj,hints,hlen⟩:=script_of hn hpre hwl
 refine enter_call (codeAny_mono (call w s₀ s₁ mg mb fa o pm cd doc a vs ns G Y ho (fd_plain hd) hcd hmg hobj hints hlen hg) λr s' hq=>?_)
 obtain ⟨rfl,h2,h3,h4⟩:=hq
 exact ⟨.inl ⟨.bool true,.bool true,[],rfl,λ_=>rfl,.bool true,post_true l _,λ_=>⟨List.Pairwise.nil,λ_ hm=>(nomatch hm)⟩⟩,h2,h3,h4⟩
section
variable {prog:Program} {w:World} {A:Around} {E:Value->Shared->Prop} {s:Shared} {K:Frag}
end
end Att
namespace L2
open PySem PySem.Spec PyProof.Rows
theorem lN:∀ {vs:List Value} {ns:List Int},IntsAre vs ns->o0 (ns.map V.int) vs
 | _,_,.nil=>.nil
 | _,_,.cons n t h=>.cons ⟨t,rfl⟩ (lN h)
def Only (H:Hp):Prop:=∀ b,H b=none\/∃ o xs,H b=some (.frz o (.lst xs))
theorem law_call {P:Program} {w:World} {K:Frag} {mg mb:Str->Option Value} {CX:CXT} {k:Nat} {fa a:Addr} {fd:FuncData} {x:Str} {sp:Sp} {s₁:Shared} {vs:List Value} {ns:List Int}
  (KX:K.In s₁.heap) (hns:s₁.heap.Ns mainGlobals mg) (hb:s₁.heap.Ns builtinsNs mb) (hbb:∀ x:Str,x ≠ "__name__"->mb x=bootBuiltins x) (hlim:s₁.heap.NoLimit) (hg:s₁.gens = #[])
  (ha:s₁.heap.get? a=some { cls:=.type "list",data:=.seq vs.toArray }) (hi:IntsAre vs ns) (hl:ns.length<=sizeLine) (hr:ph k callerA)
  (F:∀ base:Heap,K.In base->base.Ns mainGlobals mg->oY P w K mg base CX k fa fd [x] sp) (hbind:∀ (s:Shared) (u:Value),BindsTo s fd ⟨[u],[]⟩ [(x,u)])
  (hsp:∀ H:Hp,Only H->SqL K H a (ns.map V.int)->sp [.ref a] H (λv _=>v=.bl true) λ_ _ _=>False)
  (hCX:∀ H e s',CX [] H s₁ (λ_ _ _=>False) e s'->False) :
  codeAny (model P w) callerA (.call (.ref fa) ⟨[.ref a],[]⟩) (λr s'=>r=.ok (.ret (.bool true))/\OldK s₁.heap s'.heap/\s'.os=s₁.os/\AllBare s'.gens) s₁:=by
 have rv:=lN hi
 have lenV:=hi.length
 have core:∀ H:Hp,Only H->SqL K H a (ns.map V.int)->HOk P w H s₁.heap->(∀ b,H b ≠ none->b=a)->(H a ≠ none->K.lookup a=none)->
   codeAny (model P w) callerA (.call (.ref fa) ⟨[.ref a],[]⟩) (λr s'=>r=.ok (.ret (.bool true))/\OldK s₁.heap s'.heap/\s'.os=s₁.os/\AllBare s'.gens) s₁:=by
  intro H hO hS hok hA hK
  have base_of:∀ {b:Addr} {o:Obj},s₁.heap.get? b=some o->H b=none->(nS s₁.heap H).get? b=some o:=λe n=>hidT_get e n
  have noA:∀ {b:Addr} {o:Obj} {es:Array DictEntry} {ep:Nat},s₁.heap.get? b=some o->o.data=.dict es ep->H b=none:=λ{b o es ep} e d=>by
   cases q:H b with
   | none=>rfl
   | some u=>
    have e':b=a:=hA b (by rw [q]; simp)
    subst e'
    rw [ha] at e; cases e
    have d':Data.seq vs.toArray _=Data.dict es ep:=d
    cases d'
  have nsK:∀ {b:Addr} {m:Str->Option Value},s₁.heap.Ns b m->(nS s₁.heap H).Ns b m:=λ{b m} ⟨o,es,ep,e,d,r⟩=>⟨o,es,ep,base_of e (noA e d),d,r⟩
  have hKb:K.In (nS s₁.heap H):=λb o e=>base_of (KX b o e) (by
   cases q:H b with
   | none=>rfl
   | some u=>
    have e':b=a:=hA b (by rw [q]; simp)
    subst e'
    rw [hK (by rw [q]; simp)] at e; cases e)
  have hM:Mod K mg (nS s₁.heap H):=⟨hKb,nsK hns,⟨mb,nsK hb,hbb⟩,let ⟨mc,h1,h2⟩:=hlim; ⟨mc,nsK h1,h2⟩⟩
  have e0:Env0 P w K mg (nS s₁.heap H) callerA [] s₁ H:=⟨rfl,hM,λb o e=>of_hidT e,Nat.le_of_eq (hidT_size _ _),trivial,λb hb=>absurd (show b ∈ ([]:List Addr) from hb) (by simp),hok,.of_eq hg⟩
  refine codeAny_mono ((F _ hKb (nsK hns)).run callerA [] s₁ H ⟨[.ref a],[]⟩ [.ref a] [.ref a] _ _ hr e0 (hbind s₁ (.ref a)) (.cons rfl .nil) (hsp H hO hS)) λr s' h=>?_
  cases r with
  | error e=>exact (hCX H e s' h).elim
  | ok fl=>
   cases fl with
   | next=>exact False.elim h
   | brk=>exact False.elim h
   | cont=>exact False.elim h
   | ret u=>
    obtain ⟨v,H',os,bare,un,hok',r',q⟩:=h
    have q':v=.bl true:=q
    subst q'
    obtain rfl:u=Value.bool true:=r'
    refine ⟨rfl,OldK.of_keep λb o e=>?_,os,bare⟩
    cases q:H b with
    | none=>exact un.keep b o e q (by intro z; exact absurd (show b ∈ ([]:List Addr) from z) (by simp)) (by simp)
    | some u=>
     rcases hO b with z | ⟨ob,xs,z⟩
     ·rw [q] at z; cases z
     ·have z2:=un.frzs b ob _ z
      obtain ⟨e1,_⟩:=hok b _ z
      obtain ⟨e2,_⟩:=hok' b _ z2
      rw [e] at e1; cases e1
      exact e2
 cases hk:K.lookup a with
 | some o=>
  have e:=KX a o hk
  rw [ha] at e
  cases e
  refine core (λ_=>none) (λ_=>.inl rfl) (.inr ⟨_,vs.toArray,_,hk,rfl,rfl,rfl,by rw [size_toArray,lenV]; exact hl,by simpa using rv⟩) (λb u z=>by have z':(none:Option HO)=some u:=z; cases z') (λb z=>absurd rfl z) λz=>absurd rfl z
 | none=>
  refine core (λb=>if b=a then some (.frz { cls:=.type "list",data:=.seq vs.toArray } (.lst (ns.map V.int))) else none) (λb=>?_) (.inl (.inr ⟨{ cls:=.type "list",data:=.seq vs.toArray },if_pos rfl⟩)) (λb u z=>?_) (λb z=>?_) λ_=>hk
  ·by_cases hb:b=a
   ·exact .inr ⟨_,_,if_pos hb⟩
   ·exact .inl (if_neg hb)
  ·by_cases hb:b=a
   ·have z':=(if_pos hb).symm.trans z
    cases z'
    subst hb
    exact ⟨ha,by rw [length_map]; exact hl,vs,_,rv,ha⟩
   ·have z':=(if_neg hb).symm.trans z
    cases z'
  ·by_cases hb:b=a
   ·exact hb
   ·exact absurd (if_neg hb) z
theorem walk_of {l:PySem.W.OpenLaw} {n k:Nat} {q:Program} {loose:List Str} {XP:(Str->Option Value)->Heap->Prop} {YP:World->Heap->Prop} {d:DefRec} {K:Params->Frag} {CX:World->CXT} {sp:World->Sp} {x:Str}
  (hn:l.most=some n) (hn2:n<=sizeLine) (hdf:d.params.defaults=[]) (hr:ph k callerA)
  (hY:∀ (w:World) (h:Heap),YP w h->(K w.params).In h)
  (F:∀ (w:World) (mg:Str->Option Value) (fa:Addr) (h:Heap),(K w.params).In h->h.Ns mainGlobals mg->mg d.name=some (.ref fa)->
   ∃ fd:FuncData,(∀ (s:Shared) (u:Value),BindsTo s fd ⟨[u],[]⟩ [(x,u)])/\
    ∀ base:Heap,(K w.params).In base->base.Ns mainGlobals mg->oY l.prog w (K w.params) mg base (CX w) k fa fd [x] (sp w))
  (hsp:∀ (w:World) (H:Hp) (a:Addr) (ns:List Int),ns.length<=n->Only H->SqL (K w.params) H a (ns.map V.int)->sp w [.ref a] H (λv _=>v=.bl true) λ_ _ _=>False)
  (hCX:∀ (w:World) (H:Hp) (s:Shared) (e:Value) (s':Shared),CX w [] H s (λ_ _ _=>False) e s'->False) :
  PySem.W.WalkO q loose XP YP l.row.toRowW d [] (λf vs=>PySem.call f vs):=by
 refine Att.attach_call hn hdf λw s₀ s₁ mg mb fa o pm cd doc a vs ns G Y ho hd hcd hmg hobj hints hlen hg=>?_
 have KX:=hY w _ Y
 obtain ⟨fd,hb,hF⟩:=F w mg fa _ KX G.T.g hmg
 exact law_call KX G.T.g G.T.b G.T.builtins G.T.nolimit hg hobj hints (Nat.le_trans hlen hn2) hr hF hb (λH hO hS=>hsp w H a ns hlen hO hS) λH e s'=>hCX w H s₁ e s'
def inClass (s:Stmt) (j:Nat):Stmt:=match s with
 | .ClassDef _ _ _ body _ _ _ _ _ _ _=>body.getD j (.Pass ⟨0,0,0,0⟩)
 | _=>.Pass ⟨0,0,0,0⟩
def aR (s:Stmt):Arguments:=match s with
 | .FunctionDef _ a _ _ _ _ _ _ _ _=>a
 | _=>{ posonlyargs:=[],args:=[],vararg:=none,kwonlyargs:=[],kw_defaults:=[],kwarg:=none,defaults:=[] }
def aM (s:Stmt):List Stmt:=match s with
 | .FunctionDef _ _ b _ _ _ _ _ _ _=>b
 | _=>[]
def am (s:Stmt):Scope:=match s with
 | .FunctionDef _ _ _ _ _ _ sc _ _ _=>sc
 | _=>{ kind:=.function,names:=[],isGenerator:=false,isCoroutine:=false }
abbrev CX0:CXT:=λ_ _ _ _ _ _=>False
abbrev E0:XK:=λ_ _ _=>False
theorem pass0 {X:Cx}:dn CX0 X E0:=λ_ _ _ _ _ _ _ h=>h.elim
structure Fun (K:Frag) (x qual:Str) (st:Stmt) (f:Addr) (fd:FuncData):Prop where
 ex:∃ (oc:Value) (od:Option Addr) (kV doc pm:Value) (an:Option Addr) (cdv ct:Value) (osl:Array (Option Value)),
  fd=fnOf x qual (aR st) (aM st) (am st) .none kV doc pm an cdv ct/\K.lookup f=some ⟨oc,od,.func fd,osl⟩/\codeIn K cdv qual=true
 kp:keepIn K (.ref f)=true
section
variable {P:Program} {w:World} {K:Frag} {mg:Str->Option Value} {base:Heap}
theorem Fun.ok {x qual:Str} {st:Stmt} {f:Addr} {fd:FuncData} {N ps:List Str} {k:Nat} {sp:Sp} (F:Fun K x qual st f fd) (S:oW N ps (am st)) (len:∀ vs H Q E,sp vs H Q E->vs.length=ps.length)
  (hbody:∀ (cdv:Value) (A:Around) (outer:List Env) (s:Shared) (H:Hp) (vs:List V) (Q:VK) (E:XK),ph k (A.deeper (envOfC qual (am st) s.heap.objs.size f cdv))->sp vs H Q E->
   ∃ t,PSs (dw CX0 P w K mg base N qual (am st) f cdv A outer s H E).nox (aM st) t/\t { nx:=λ_ H'=>Q .non H',rt:=Q } (fU N vs) H):oY P w K mg base CX0 (k+1) f fd ps sp:=by
 obtain ⟨oc,od,kV,doc,pm,an,cdv,ct,osl,rfl,lk,hcd⟩:=F.ex
 refine fn_of lk hcd S len λA outer s H vs Q E hr hsp=>?_
 obtain ⟨t,h,q⟩:=hbody cdv A outer s H vs Q E hr hsp
 exact ⟨t,h.nox,q⟩
theorem Fun.binds {x qual:Str} {st:Stmt} {f:Addr} {fd:FuncData} {ps:List Str} (F:Fun K x qual st f fd)
  (h:∀ (kV doc pm:Value) (an:Option Addr) (cdv ct:Value) (us:List Value),us.length=ps.length->bindArgs (fnOf x qual (aR st) (aM st) (am st) .none kV doc pm an cdv ct) ⟨us,[]⟩=pure (ps.zip us)):pK K fd ps []:=by
 obtain ⟨oc,od,kV,doc,pm,an,cdv,ct,osl,rfl,lk,hcd⟩:=F.ex
 exact .all (h kV doc pm an cdv ct)
theorem eM {x qual:Str} {st:Stmt} {f:Addr} {oc:Value} {od an:Option Addr} {osl:Array (Option Value)} {kV doc pm cdv ct:Value} (l:K.lookup f=some ⟨oc,od,.func (fnOf x qual (aR st) (aM st) (am st) .none kV doc pm an cdv ct),osl⟩)
  (c:codeIn K cdv qual=true) (k:keepIn K (.ref f)=true):Fun K x qual st f (fnOf x qual (aR st) (aM st) (am st) .none kV doc pm an cdv ct):=⟨⟨oc,od,kV,doc,pm,an,cdv,ct,osl,rfl,l,c⟩,k⟩
end
theorem gE {n:Nat} (h:n<=1000):n<sizeLine:=Nat.lt_of_le_of_lt h (by decide)
section
variable {X:Cx}
theorem pv (i:Nat) {x:Str} {pos:Pos} (hN:X.N[i]? = some x:=by rfl) (hv:Vis X.env.scope x:=by first | exact Or.inl rfl | exact Or.inr (Or.inl rfl) | exact Or.inr (Or.inr rfl)) (hd:(x == ("__debug__" : Str))=false:=by decide)
  (hcd:(x == ("__classdict__" : Str))=false:=by decide):PE X (.Name x pos) (tVar i):=pe_var hN hv hd hcd
end
theorem br {A B:Prop} (h:B):if false=true then A else B:=by
 rw [if_neg Bool.false_ne_true]
 exact h
theorem bF {A B:Prop} (h:A):if true=true then A else B:=by
 rw [if_pos rfl]
 exact h
theorem bu {c A B:Prop} [Decidable c] (h1:c->A) (h2:¬ c->B):if c then A else B:=by
 by_cases h:c
 ·rw [if_pos h]
  exact h1 h
 ·rw [if_neg h]
  exact h2 h
theorem iteNS {c A B:Prop} [Decidable c] (hc:c) (h:B):if (!decide c)=true then A else B:=by
 rw [decide_eq_true hc]
 exact br h
def oS (H H':Hp):Prop:=∀ b o,H b=some o->H' b=some o
theorem oS.refl (H:Hp):oS H H:=λ_ _ h=>h
theorem oS.trans {H H1 H2:Hp} (a:oS H H1) (b:oS H1 H2):oS H H2:=λc o h=>b c o (a c o h)
theorem oS.free {H H':Hp} (e:oS H H') {l:Addr} (h:H' l=Option.none):H l=Option.none:=by
 cases q:H l with
 | none=>rfl
 | some o=>
  rw [e l o q] at h
  cases h
theorem oS.seq {K:Frag} {H H':Hp} {a:Addr} {xs:List V} (e:oS H H') (h:SqL K H a xs):SqL K H' a xs:=by
 rcases h with (h | ⟨o,h⟩) | h
 ·exact .inl (.inl (e _ _ h))
 ·exact .inl (.inr ⟨o,e _ _ h⟩)
 ·exact .inr h
section
variable {prog:Program} {w:World} {A:Around} {R:Result->Shared->Prop} {s:Shared}
theorem iB {elt target iter:Expr} {ifs:List Expr} {scope:Scope} {pos:Pos} {it acc:Value} {env:Env} (I:Nat->Shared->Prop)
  (turn:∀ n s,I n s->wpAny (model prog w) A (pyNext it) (λr s₁=>match r with
   | none=>R (.ok .next) s₁
   | some v=>wpAny (model prog w) A (letOwnedTupleGo target it v) (λ_ s₁'=>wpAny (model prog w) A (assign target env v) (λ_ s₂=>
     wpAny (model prog w) A (forIn ifs true λc r=>if r=true then do let ok <- isTrue c env (eval c env); pure (ForInStep.yield ok) else pure (ForInStep.yield r)) (λok s₃=>
      if ok=true then wpAny (model prog w) A (eval elt env) (λx s₄=>
       wpAny (model prog w) A (call (.builtin "list.append") [acc,x]) (λ_ s₅=>∃ m,m<n/\I m s₅) (λ_ _=>False) s₄) (λ_ _=>False) s₃
      else ∃ m,m<n/\I m s₃) (λ_ _=>False) s₂) (λ_ _=>False) s₁') (λ_ _=>False) s₁) (λ_ _=>False) s)
  (n:Nat) (h:I n s) :
  codeAny (model prog w) A (.compLoop (.ListComp elt [⟨target,iter,ifs,0⟩] scope pos) 0 it acc env) R s:=by
 refine codeAny_loop rfl I (λn s hI=>?_) n h
 show wpAny _ A ((compTurn (.ListComp elt [⟨target,iter,ifs,0⟩] scope pos) 0 it acc env).onRaise (λx=>do noteFrame x env; theTreesLotGoes x)) _ _ s
 refine wpAny_noted ?_
 rw [compTurn_list]
 refine wpAny_bind (wpAny_standAt (wpAny_bind (wpAny_mono (turn n s hI) (λr s₁ h₁=>?_) λ_ _ h'=>h'.elim)))
 cases r with
 | none=>exact wpAny_pure h₁
 | some v=>
  refine wpAny_bind (wpAny_mono h₁ (λ_ s₁' h₁'=>?_) λ_ _ h'=>h'.elim)
  refine wpAny_bind (wpAny_mono h₁' (λ_ s₂ h₂=>wpAny_bind (wpAny_mono h₂ (λok s₃ h₃=>?_) λ_ _ h'=>h'.elim)) λ_ _ h'=>h'.elim)
  cases ok with
  | false=>exact wpAny_pure ⟨rfl,h₃⟩
  | true=>
   exact wpAny_bind (wpAny_bind (wpAny_mono h₃ (λx s₄ h₄=>wpAny_bind (wpAny_mono h₄ (λ_ s₅ h₅=>wpAny_pure (wpAny_pure ⟨rfl,h₅⟩)) λ_ _ h'=>h'.elim)) λ_ _ h'=>h'.elim))
end
def cy (env:Env):List (Str × NameKind)->List (Str × Addr)->List (Str × Addr)
 | [],cs=>cs
 | (n,k)::r,cs=>cy env r (if k == .free then (n,(env.cells.lookup n).getD 0)::cs else cs)
theorem j5 {env:Env}:∀ (l:List (Str × NameKind)) (cs:List (Str × Addr)),(∀ x ∈ l,x.2=.free->∃ c,env.cells.lookup x.1=some c)->
  (do let r <- forIn l cs (λ(x:Str × NameKind) (cs:List (Str × Addr))=>if (x.2 == .free)=true then do let a <- cellOf env x.1; pure (ForInStep.yield ((x.1,a)::cs)) else pure (ForInStep.yield cs)); pure r:Sem (List (Str × Addr)))=pure (cy env l cs)
 | [],cs,_=>rfl
 | (n,k)::r,cs,h=>by
  have ih:=λcs'=>j5 (env:=env) r cs' λx hx=>h x (mem_cons_of_mem _ hx)
  rw [forIn_cons]
  cases hk:(k == NameKind.free) with
  | false=>
   simp only [hk,Bool.false_eq_true,if_false]
   show (do let r <- forIn r cs _; pure r:Sem _)=_
   rw [ih]
   simp only [cy,hk,Bool.false_eq_true,if_false]
  | true=>
   obtain ⟨c,hc⟩:=h (n,k) mem_cons_self (by simpa using hk)
   have hco:cellOf env n=pure c:=by unfold cellOf; simp only at hc; rw [hc]
   simp only [hk,if_true,hco]
   show (do let r <- forIn r ((n,c)::cs) _; pure r:Sem _)=_
   rw [ih]
   simp only at hc
   simp only [cy,hk,if_true,hc,Option.getD_some]
theorem hX {env:Env} {scope:Scope} (h:∀ x ∈ scope.names,x.2=.free->∃ c,env.cells.lookup x.1=some c):closureFor scope env=pure (cy env scope.names []):=by
 have q:=j5 scope.names [] h
 unfold closureFor
 exact congrArg (λ(m:Sem (List (Str × Addr)))=>m >>= pure) q
theorem cls_in {env:Env}:∀ (l:List (Str × NameKind)) (cs:List (Str × Addr)) (n:Str) (c:Addr),(∀ x ∈ l,x.2=.free->∃ c,env.cells.lookup x.1=some c)->
  (cy env l cs).lookup n=some c->env.cells.lookup n=some c\/cs.lookup n=some c
 | [],cs,n,c,_,h=>.inr h
 | (m,k)::r,cs,n,c,hf,h=>by
  have ih:=cls_in r (if (k == .free)=true then (m,(env.cells.lookup m).getD 0)::cs else cs) n c (λx hx=>hf x (mem_cons_of_mem _ hx)) h
  cases hk:(k == NameKind.free) with
  | false=>
   simp only [hk,Bool.false_eq_true,if_false] at ih
   exact ih
  | true=>
   simp only [hk,if_true] at ih
   rcases ih with ih | ih
   ·exact .inl ih
   ·cases hx:n == m with
    | true=>
     simp only [lookup_cons,hx] at ih
     obtain ⟨c',hc'⟩:=hf (m,k) mem_cons_self (by simpa using hk)
     simp only at hc'
     rw [hc'] at ih
     have e:n=m:=by simpa using hx
     subst e
     exact .inl (hc'.trans ih)
    | false=>
     simp only [lookup_cons,hx] at ih
     exact .inr ih
theorem cls_keep {env:Env}:∀ (l:List (Str × NameKind)) (cs:List (Str × Addr)) (n:Str),(∃ c,cs.lookup n=some c)->∃ c,(cy env l cs).lookup n=some c
 | [],cs,n,h=>h
 | (m,k)::r,cs,n,⟨c,h⟩=>by
  refine cls_keep r _ n ?_
  by_cases hk:(k == NameKind.free)=true
  ·rw [if_pos hk]
   cases hx:n == m with
   | true=>exact ⟨(env.cells.lookup m).getD 0,by simp only [lookup_cons,hx]⟩
   | false=>exact ⟨c,by simp only [lookup_cons,hx]; exact h⟩
  ·rw [if_neg hk]
   exact ⟨c,h⟩
theorem iH {env:Env}:∀ (l:List (Str × NameKind)) (cs:List (Str × Addr)) (n:Str),(n,NameKind.free) ∈ l->∃ c,(cy env l cs).lookup n=some c
 | [],_,_,h=>absurd h (by simp)
 | (m,k)::r,cs,n,h=>by
  rcases List.mem_cons.mp h with e | e
  ·cases e
   refine cls_keep r _ _ ?_
   exact ⟨_,by simp [lookup_cons]; rfl⟩
  ·exact iH r _ n e
theorem cG {env:Env}:∀ (names:List (Str × NameKind)) (x:Str),
  (names.map λ(n,k)=>if (k == NameKind.free && env.scope.kind == .function && env.kindOf n == some .cell) then (n,NameKind.cell) else (n,k)).lookup x
   = (names.lookup x).map λk=>if (k == NameKind.free && env.scope.kind == .function && env.kindOf x == some .cell)=true then NameKind.cell else k
 | [],x=>rfl
 | (n,k)::r,x=>by
  have ih:=cG (env:=env) r x
  show List.lookup x ((if (k == NameKind.free && env.scope.kind == .function && env.kindOf n == some .cell)=true then (n,NameKind.cell) else (n,k))::_)=_
  cases hx:x == n with
  | true=>
   have e:x=n:=by simpa using hx
   subst e
   by_cases hc:(k == NameKind.free && env.scope.kind == .function && env.kindOf x == some .cell)=true
   ·rw [if_pos hc]; simp only [lookup_cons,hx,Option.map_some]; rw [if_pos hc]
   ·rw [if_neg hc]; simp only [lookup_cons,hx,Option.map_some]; rw [if_neg hc]
  | false=>
   by_cases hc:(k == NameKind.free && env.scope.kind == .function && env.kindOf n == some .cell)=true
   ·rw [if_pos hc]; simp only [lookup_cons,hx]; exact ih
   ·rw [if_neg hc]; simp only [lookup_cons,hx]; exact ih
def oz (outer scope:Scope):Bool:=
 scope.kind == .function && outer.kind == .function && scope.names.all λx=>x.2 != .cell && (x.2 != .local || scope.names.lookup x.1 == some .local) && (x.2 != .free || (outer.names.lookup x.1 == some .cell || outer.names.lookup x.1 == some .free))
def iT (XN N:List Str) (src:List (Option Nat)) (scope:Scope):Bool:=
 src.length == N.length && (List.range N.length).all λi=>match src[i]?.join with
  | none=>true
  | some j=>N[i]? == XN[j]? && (N[i]?).any λx=>scope.names.lookup x == some .free
def bK (src:List (Option Nat)) (σ:St):St:=src.map λo=>o.bind λj=>(σ[j]?).join
def cxC (X:Cx) (N:List Str) (scope:Scope) (s:Shared) (H:Hp) (ex:List Addr):Cx where
 prog:=X.prog
 w:=X.w
 K:=X.K
 mg:=X.mg
 base:=X.base
 A:=X.A
 N:=N
 s₀:=s
 H₀:=H
 env:=compEnvC scope (cy X.env scope.names []) s.heap.objs.size X.env
 outer:=X.stack
 stack:=X.stack
 ex:=ex
 fn:=λ_=>false
 calm:=X.calm
 pn:=[]
 xe:=λ_ _=>False
structure pI (X:Cx) (scope:Scope):Prop where
 kind:scope.kind=.function
 nocell:∀ x ∈ scope.names,x.2 ≠ .cell
 names:∀ x ∈ scope.names,x.2=.local->scope.names.lookup x.1=some .local
 free:∀ x ∈ scope.names,x.2=.free->X.env.kindOf x.1=some .cell\/X.env.kindOf x.1=some .free
theorem mU {X:Cx} {scope:Scope} (h:oz X.env.scope scope=true):pI X scope:=by
 unfold oz at h
 simp only [Bool.and_eq_true,beq_iff_eq,all_eq_true,Bool.or_eq_true,bne_iff_ne] at h
 obtain ⟨⟨h1,_⟩,h2⟩:=h
 refine ⟨h1,λx hx=>(h2 x hx).1.1,λx hx e=>?_,λx hx e=>?_⟩
 ·rcases (h2 x hx).1.2 with z | z
  ·exact absurd e z
  ·exact z
 ·rcases (h2 x hx).2 with z | z
  ·exact absurd e z
  ·exact z
theorem pI.cells {X:Cx} {scope:Scope} (f:pI X scope) (ok:X.Ok):∀ x ∈ scope.names,x.2=.free->∃ c,X.env.cells.lookup x.1=some c:=λx hx e=>ok.has x.1 (f.free x hx e)
theorem pI.cl {X:Cx} {scope:Scope} (f:pI X scope) (ok:X.Ok) {n:Str} {c:Addr} (h:(cy X.env scope.names []).lookup n=some c):X.env.cells.lookup n=some c:=by
 rcases cls_in _ _ _ _ (f.cells ok) h with z | z
 ·exact z
 ·cases z
theorem pI.kf {X:Cx} {scope:Scope} (f:pI X scope) {x:Str} (h:(relabel scope X.env).names.lookup x=some .cell\/(relabel scope X.env).names.lookup x=some .free):scope.names.lookup x=some .free:=by
 unfold relabel at h
 simp only at h
 rw [cG] at h
 cases e:scope.names.lookup x with
 | none=>rw [e] at h; rcases h with z | z<;>cases z
 | some k=>
  rw [e] at h
  simp only [Option.map_some,Option.some.injEq] at h
  cases k with
  | free=>rfl
  | cell=>exact absurd rfl (f.nocell _ (PySem.mem_of_lookup e))
  | _=>simp at h
theorem pI.fk {X:Cx} {scope:Scope} {x:Str} (h:scope.names.lookup x=some .free):(relabel scope X.env).names.lookup x=some .cell\/(relabel scope X.env).names.lookup x=some .free:=by
 unfold relabel
 simp only
 rw [cG,h]
 simp only [Option.map_some,Option.some.injEq]
 split
 ·exact .inl rfl
 ·exact .inr rfl
theorem srcOk_ix {XN N:List Str} {src:List (Option Nat)} {scope:Scope} (h:iT XN N src scope=true):src.length=N.length/\∀ (i:Nat) (x:Str) (j:Nat),N[i]? = some x->src[i]? = some (some j)->XN[j]? = some x/\scope.names.lookup x=some .free:=by
 unfold iT at h
 simp only [Bool.and_eq_true,beq_iff_eq,all_eq_true] at h
 refine ⟨h.1,λi x j h1 h2=>?_⟩
 have hi:i<N.length:=(List.getElem?_eq_some_iff.mp h1).1
 have q:=h.2 i (List.mem_range.mpr hi)
 rw [h2,h1] at q
 simp only [Option.join_some,Bool.and_eq_true,beq_iff_eq,Option.any_some] at q
 exact ⟨q.1.symm,q.2⟩
section
variable {X:Cx} {pins:List (Addr × Obj)} {σ:St} {H:Hp} {s:Shared}
theorem comp_start {N:List Str} {src:List (Option Nat)} {scope:Scope} {ex:List Addr} {h1:Heap} {m:Str->Option Value} {tk:Nat} (I:Inv X pins σ H s) (f:pI X scope) (hsrc:iT X.N N src scope=true)
  (hex:∀ b ∈ ex,b<s.heap.objs.size/\b ≠ X.env.locals/\b ∉ X.fs/\(∀ x c,X.env.cells.lookup x=some c->c ≠ b)/\∀ o,X.base.get? b ≠ some o)
  (hn:h1.Ns s.heap.objs.size m) (hk:∀ b o,s.heap.get? b=some o->h1.get? b=some o) :
  Inv (cxC X N scope s H ex) [] (bK src σ) H { s with heap:=h1,toks:=tk }:=by
 obtain ⟨hlen,hix⟩:=srcOk_ix hsrc
 have ok:=I.ok
 have cellL:∀ x c,(cy X.env scope.names []).lookup x=some c->∃ v,s.heap.IsCell c v:=λx c e=>I.cell x c (f.cl ok e)
 have cellLt:∀ x c,(cy X.env scope.names []).lookup x=some c->c<s.heap.objs.size:=λx c e=>by
  obtain ⟨v,o,ho,_⟩:=cellL x c e
  exact lt_size ho
 have fsL:∀ b ∈ frs X.stack,b ∈ X.env.locals::X.fs:=I.stkSub
 refine ⟨⟨ok.mod,f.kind,ok.glob,ok.blt,Nat.le_refl _,λx y c h1 h2=>ok.inj x y c (f.cl ok h1) (f.cl ok h2),λx hx=>?_,λx c hx=>?_,ok.hd,ok.frames,.inl rfl,λb hb=>⟨Nat.ne_of_lt (hex b hb).1,λx c e=>(hex b hb).2.2.2.1 x c (f.cl ok e)⟩,I.bs,Nat.le_trans ok.bsz I.sz,λb o e hb=>(hex b hb).2.2.2.2 o e,λb hb hb'=>?_,I.stack,I.stkFree⟩,
  rfl,I.bare,Un.kept hk,⟨m,hn,λi x v e1 e2 e3=>?_⟩,λx c e=>?_,I.hok.fresh (Nat.le_refl _),λx c e=>I.freeC x c (f.cl ok e),λp hp=>absurd (show p ∈ ([]:List (Addr × Obj)) from hp) (by simp),I.hok.kept hk,?_⟩
 ·exact iH _ _ _ (PySem.mem_of_lookup (f.kf hx))
 ·cases hx
 ·rcases List.mem_cons.mp (fsL b hb') with z | z
  ·exact (hex b hb).2.1 z
  ·exact (hex b hb).2.2.1 z
 ·have e2':(bK src σ)[i]? = some (some v):=e2
  unfold bK at e2'
  rw [getElem?_map] at e2'
  cases hs:src[i]? with
  | none=>rw [hs] at e2'; cases e2'
  | some o=>
   rw [hs] at e2'
   cases o with
   | none=>cases e2'
   | some j=>
    obtain ⟨q1,q2⟩:=hix i x j e1 hs
    have e4:σ[j]? = some (some v):=by
     simp only [Option.map_some,Option.bind_some,Option.some.injEq] at e2'
     cases z:σ[j]? with
     | none=>rw [z] at e2'; cases e2'
     | some o=>rw [z] at e2'; simp only [Option.join_some] at e2'; rw [e2']
    have kx:=f.free (x,.free) (PySem.mem_of_lookup q2) rfl
    obtain ⟨mX,hnX,hl⟩:=I.loc
    obtain ⟨u,r,l⟩:=hl j x v q1 e4 (by rcases kx with z | z; exact .inr (.inl z); exact .inr (.inr z))
    refine ⟨u,r,.inr ⟨pI.fk (X:=X) q2,?_⟩⟩
    rcases l with ⟨l,_⟩ | ⟨_,c,ec,ic⟩
    ·rcases kx with z | z
     ·rw [z] at l; cases l
     ·rw [z] at l; cases l
    ·obtain ⟨c',hc'⟩:=iH (env:=X.env) scope.names [] x (PySem.mem_of_lookup q2)
     have z:=f.cl ok hc'
     rw [ec] at z
     cases z
     obtain ⟨oc,ho,hd⟩:=ic
     exact ⟨c,hc',oc,hk c oc ho,hd⟩
 ·obtain ⟨v,o,ho,hd⟩:=cellL x c e
  exact ⟨v,o,hk c o ho,hd⟩
 ·show (bK src σ).length=N.length
  unfold bK
  rw [length_map]
  exact hlen
def PIf (X:Cx) (ifs:List Expr) (t:TT):Prop:=
 ∀ (pins:List (Addr × Obj)) (s:Shared) (σ:St) (H:Hp) (Q:Bool->Hp->Prop),Inv X pins σ H s->t σ H Q->
  wpAny (model X.prog X.w) X.A (forIn ifs true λc r=>if r=true then do let ok <- isTrue c X.env (eval c X.env); pure (ForInStep.yield ok) else pure (ForInStep.yield r)) (TP X pins σ Q) X.xe s
def nB:TT:=λ_ H Q=>Q true H
theorem aP:PIf X [] nB:=λpins s σ H Q I h=>wpAny_pure ⟨H,I,h⟩
theorem fF {c:Expr} {t:TT} (hc:PT X c t):PIf X [c] t:=by
 intro pins s σ H Q I h
 rw [forIn_cons]
 simp only [if_true]
 refine wpAny_bind (wpAny_bind (thn (hc pins s σ H Q I h) λb s1 q=>wpAny_pure ?_))
 exact wpAny_pure q
def bX (J:It) (src:List (Option Nat)) (g:TG) (tt:TT) (te:TE) (σ:St) (H1:Hp) (Q:VK):Prop:=∀ acc,H1 acc=none->
 ∃ W:Nat->Nat->St->Hp->Prop,(∃ m,W 0 m (bK src σ) (upd H1 acc (.lst [])))/\∀ i m σ H,W i m σ H->
  (J.stop i H/\Q (.ref acc) H)\/(J.go i H/\∃ N:St->Hp->Prop,(∀ σ' H',N σ' H'->∃ m',m' < m/\W (i+1) m' σ' H')/\∀ x H',J.yld i H x H'->g x σ H' λσ2 H2=>tt σ2 H2 λb H3=>
   if b=true then te σ2 H3 λy H4=>∃ ys,H4 acc=some (.lst ys)/\ys.length<sizeLine/\N σ2 (upd H4 acc (.lst (ys++[y]))) else N σ2 H3)
def tComp (src:List (Option Nat)) (wi:TI) (g:TG) (tt:TT) (te:TE):TE:=λσ H Q=>wi σ H λJ H1=>bX J src g tt te σ H1 Q
theorem comp_run {elt tg iter:Expr} {ifs:List Expr} {scope:Scope} {pos:Pos} {N:List Str} {src:List (Option Nat)} {g:TG} {tt:TT} {te:TE} (use:Option (Value->Sem Unit)) (PQ:Value->Shared->Prop) (E:Value->Shared->Prop)
  (hcalm:X.calm=true) (f:pI X scope) (hsrc:iT X.N N src scope=true)
  (hb:∀ (s:Shared) (H:Hp) (ex:List Addr),PG (cxC X N scope s H ex) tg g/\PIf (cxC X N scope s H ex) ifs tt/\PE (cxC X N scope s H ex) elt te)
  {it:Addr} {fp:List Addr} {tn:Nat->Heap->Prop} {J:It} (I:Inv X pins σ H s) (T:lE X.prog X.w X.K tg J fp it tn) (st:tn 0 s.heap) (hf:∀ b ∈ fp,eO X pins H b) {Q:VK}
  (h:bX J src g tt te σ H Q)
  (hfin:∀ (acc C:Addr) (s':Shared) (H':Hp) (m:Str->Option Value),s'.heap.Ns C m->eO X pins H' C->(∀ h',Heap.SameBut C s'.heap h'->Inv X pins σ H' { s' with heap:=h' })->Q (.ref acc) H'->compPost (model X.prog X.w) X.A E use PQ (.ref acc) C (.ok .next) s') :
  wpAny (model X.prog X.w) X.A (newList []) (λacc s₃=>
   wpAny (model X.prog X.w) X.A (newFunctionEnv scope X.env.globals (cy X.env scope.names []) [] X.env.qual none .none (some X.env)) (λcenv s₄=>
    codeAny (model X.prog X.w) X.A (.compStart (.ListComp elt [⟨tg,iter,ifs,0⟩] scope pos) 0 (.ref it) acc { cenv with scope:=relabel scope X.env }) (compPost (model X.prog X.w) X.A E use PQ acc cenv.locals) s₄) E s₃) E s:=by
 have ok:=I.ok
 have I3:Inv X pins σ (upd H s.heap.objs.size (.lst [])) { s with heap:=s.heap.push { cls:=.type "list",data:=.seq ([]:List Value).toArray },toks:=s.toks }:=I.lnew (ys:=[]) (its:=[]) .nil (Nat.zero_le _)
 obtain ⟨W,⟨m0,w0⟩,turn⟩:=h s.heap.objs.size (I.hok.fresh (Nat.le_refl _))
 refine wpAny_newObj_type (wpAny_newFunctionEnv f.nocell (by intro y hy; simp at hy) (λh₁ hns₁ hsb₁=>?_) f.kind)
 dsimp only at hns₁ hsb₁ ⊢
 generalize hs3:({ s with heap:=s.heap.push { cls:=.type "list",data:=.seq ([]:List Value).toArray },toks:=s.toks }:Shared)=s3 at I3
 have e3:s3.heap=s.heap.push { cls:=.type "list",data:=.seq ([]:List Value).toArray }:=by rw [<- hs3]
 have hk:∀ b o,s3.heap.get? b=some o->h₁.get? b=some o:=λb o e=>by
  rw [e3] at e
  exact hsb₁.extBut b o (Nat.ne_of_lt (lt_size e)) (get?_push_of_some _ e)
 have up3:∀ b o,s.heap.get? b=some o->s3.heap.get? b=some o:=λb o e=>by rw [e3]; exact get?_push_of_some _ e
 have nacc:∀ b ∈ fp,b ≠ s.heap.objs.size:=λb hb z=>by
  obtain ⟨o,e,_⟩:=T.obj 0 _ st b hb
  exact absurd (lt_size e) (by rw [z]; exact Nat.lt_irrefl _)
 have hex:∀ b ∈ fp,b<s3.heap.objs.size/\b ≠ X.env.locals/\b ∉ X.fs/\(∀ x c,X.env.cells.lookup x=some c->c ≠ b)/\∀ o,X.base.get? b ≠ some o:=λb hb=>by
  obtain ⟨o,e,_⟩:=T.obj 0 _ st b hb
  obtain ⟨f0,f1,f2,f3,f4,f5⟩:=hf b hb
  refine ⟨lt_size (up3 b o e),f1,f2,f4,λo' z=>?_⟩
  rcases f3 with q | q
  ·exact ok.noex b o' z q
  ·exact absurd (Nat.lt_of_lt_of_le (lt_size (ok.bs b o' z).1) q) (Nat.lt_irrefl _)
 have hns₁':h₁.Ns s3.heap.objs.size (λx=>([]:List (Str × Value)).reverse.lookup x):=by rw [e3]; exact hns₁
 have IY0:Inv (cxC X N scope s3 (upd H s.heap.objs.size (.lst [])) fp) [] (bK src σ) (upd H s.heap.objs.size (.lst [])) { s3 with heap:=h₁,toks:=s.toks+([]:List (Str × Value)).length }:=
  comp_start (tk:=s.toks+([]:List (Str × Value)).length) I3 f hsrc hex hns₁' hk
 generalize hY:cxC X N scope s3 (upd H s.heap.objs.size (.lst [])) fp=Y at IY0
 have hb':PG Y tg g/\PIf Y ifs tt/\PE Y elt te:=by rw [<- hY]; exact hb s3 _ fp
 obtain ⟨hg,ht,he⟩:=hb'
 have Yp:Y.prog=X.prog:=by rw [<- hY]; rfl
 have Yw:Y.w=X.w:=by rw [<- hY]; rfl
 have YK:Y.K=X.K:=by rw [<- hY]; rfl
 have YA:Y.A=X.A:=by rw [<- hY]; rfl
 have Yc:Y.calm=true:=by rw [<- hY]; exact hcalm
 have Yx:Y.xe=λ_ _=>False:=by rw [<- hY]; rfl
 have Ye:Y.env=compEnvC scope (cy X.env scope.names []) s3.heap.objs.size X.env:=by rw [<- hY]; rfl
 have Ys:Y.s₀=s3:=by rw [<- hY]; rfl
 have YH:Y.H₀=upd H s.heap.objs.size (.lst []):=by rw [<- hY]; rfl
 have Yf:Y.fs=frs X.stack:=by rw [<- hY]; rfl
 have Yex:Y.ex=fp:=by rw [<- hY]; rfl
 have Ypn:Y.pn=[]:=by rw [<- hY]; rfl
 have stat:∀ {H':Hp},(∀ b ∈ fp,H' b=none)->∀ b ∈ fp,eO Y [] H' b:=λ{H'} hn b hb=>by
  obtain ⟨x1,x2,x3,x4,x5⟩:=hex b hb
  refine ⟨hn b hb,?_,?_,.inl (by rw [Yex]; exact hb),?_,λp hp=>?_⟩
  ·rw [Ye]; exact Nat.ne_of_lt x1
  ·rw [Yf]
   intro z
   rcases List.mem_cons.mp (I.stkSub b z) with q | q
   ·exact x2 q
   ·exact x3 q
  ·rw [Ye]
   intro x c e
   exact x4 x c (f.cl ok e)
  ·rw [Ypn] at hp
   exact absurd hp (by simp)
 have loop:∀ s4:Shared,s4=({ s3 with heap:=h₁,toks:=s.toks+([]:List (Str × Value)).length }:Shared)->
   codeAny (model X.prog X.w) X.A (.compLoop (.ListComp elt [⟨tg,iter,ifs,0⟩] scope pos) 0 (.ref it) (.ref s.heap.objs.size) (compEnvC scope (cy X.env scope.names []) s3.heap.objs.size X.env))
    (compPost (model X.prog X.w) X.A E use PQ (.ref s.heap.objs.size) s3.heap.objs.size) s4:=by
  rintro s4 rfl
  refine iB (λn s'=>∃ i σ' H',Inv Y [] σ' H' s'/\tn i s'.heap/\(∀ b ∈ fp,H' b=none)/\W i n σ' H') ?_ m0
   ⟨0,bK src σ,_,IY0,T.keep 0 _ _ st λb hb o e=>hk b o (up3 b o e),λb hb=>by rw [ao (nacc b hb)]; exact (hf b hb).1,w0⟩
  rintro n s5 ⟨i,σ5,H5,I5,st5,fr5,w5⟩
  rcases turn i n σ5 H5 w5 with ⟨stop,qn⟩ | ⟨go,Nn,hNn,step⟩
  ·have q:=T.done Y Yp Yw YK Yc i [] s5 σ5 H5 (λ_ _=>False) I5 (stat fr5) st5 stop
   rw [YA] at q
   refine thn q λr s6 ⟨hr,I6⟩=>?_
   subst hr
   obtain ⟨m6,hn6,_⟩:=id I6.loc
   have eL:Y.env.locals=s3.heap.objs.size:=by rw [Ye]; rfl
   rw [eL] at hn6
   refine hfin s.heap.objs.size s3.heap.objs.size s6 H5 m6 hn6 (I3.fpOk (Nat.le_refl _) (by have z:=I6.free; rw [eL] at z; exact z)) (λh' sb=>?_) qn
   ·have b6:=I6.base
    rw [Ys,YH,Yf,Yex] at b6
    have ne:∀ b o,s3.heap.get? b=some o->b ≠ s3.heap.objs.size:=λb o e=>Nat.ne_of_lt (lt_size e)
    have u6:Un (frs X.stack) fp (upd H s.heap.objs.size (.lst [])) H5 s3.heap h':=
     ⟨λb o e n hb hx=>(sb.2 b (ne b o e)).trans (b6.keep b o e n hb hx),λb o e n hb hx=>by
       obtain ⟨sl,z⟩:=b6.slot b o e n hb hx
       exact ⟨sl,(sb.2 b (ne b o e)).trans z⟩,b6.free,λb o e hx=>by
       obtain ⟨o',z⟩:=b6.there b o e hx
       exact ⟨o',(sb.2 b (ne b o e)).trans z⟩,b6.tups,b6.frzs,b6.tbls⟩
    have fL:H5 s3.heap.objs.size=none:=by
     have z:=I6.free
     rw [eL] at z
     exact z
    have hok6:HOk X.prog X.w H5 h':=by
     have z:=I6.hok
     rw [Yp,Yw] at z
     intro b ob e
     refine (z b ob e).stay (λc w' hc q=>(sb.2 c ?_).trans q) (λ_ q=>q) λ_ _ q=>q
     rintro rfl
     rcases hc with rfl | hc
     ·rw [fL] at e; cases e
     ·rw [fL] at hc; cases hc
    have os6:s6.os=s3.os:=by
     have z:=I6.os
     rw [Ys] at z
     exact z
    refine Inv.call' (s':={ s6 with heap:=h' }) I3 os6 u6 hok6 I6.bare λb hb=>?_
    obtain ⟨f0,f1,f2,f3,f4,f5⟩:=hf b hb
    exact ⟨f3,f1,f4,f5⟩
  ·have q:=T.item Y Yp Yw YK Yc i [] s5 σ5 H5 (λ_ _=>False) I5 (stat fr5) st5 go
   rw [YA] at q
   refine thn q λr s6 ⟨u,hr,h6⟩=>?_
   subst hr
   refine thn h6 λ_ s7 ⟨x,H7,I7,r7,y7,st7,fr7⟩=>?_
   have I7':=I7.pinned (stat fr7) (T.obj _ _ st7)
   have back:∀ {σ9:St} {H9:Hp} {s9:Shared},Inv Y ([]++jm fp s7.heap) σ9 H9 s9->tn (i+1) s9.heap/\∀ b ∈ fp,H9 b=none:=λ{σ9 H9 s9} I9=>
    ⟨T.keep _ _ _ st7 λb hb o e=>(I9.pin (b,o) (mem_append_right _ (mem_append_right _ (cO hb e)))).1,λb hb=>by
     obtain ⟨o,e,d⟩:=T.obj _ _ st7 b hb
     exact (I9.pin (b,o) (mem_append_right _ (mem_append_right _ (cO hb e)))).2.1⟩
   have g1:=hg _ s7 σ5 H7 x u _ I7' r7 (step x H7 y7)
   rw [YA,Yx,Yp,Yw,Ye] at g1
   refine thn g1 λ_ s8 ⟨σ8,H8,I8,q8⟩=>?_
   have g2:=ht _ s8 σ8 H8 _ I8 q8
   rw [YA,Yx,Yp,Yw,Ye] at g2
   refine thn g2 λb s9 ⟨H9,I9,q9⟩=>?_
   cases b with
   | false=>
    simp only [Bool.false_eq_true,if_false] at q9 ⊢
    obtain ⟨m',hm,w9⟩:=hNn _ _ q9
    exact ⟨m',hm,i+1,σ8,H9,I9.unpinned,(back I9).1,(back I9).2,w9⟩
   | true=>
    simp only [if_true] at q9 ⊢
    have g3:=he _ s9 σ8 H9 _ I9 q9
    rw [YA,Yx,Yp,Yw,Ye] at g3
    refine thn g3 λyv s10 ⟨y,H10,I10,r10,ys,hys,hz,n10⟩=>?_
    obtain ⟨m',hm,w10⟩:=hNn _ _ n10
    have g4:=jg (X:=Y) _ s10 σ8 H10 (.ref s.heap.objs.size) [y] (.ref s.heap.objs.size) [yv] (λ_ H11=>H11=upd H10 s.heap.objs.size (.lst (ys++[y]))) I10 rfl (.cons r10 .nil) ⟨_,ys,y,rfl,rfl,hys,hz,rfl⟩
    rw [YA,Yx,Yp,Yw] at g4
    refine thn g4 λ_ s11 ⟨_,H11,I11,_,e11⟩=>?_
    subst e11
    exact ⟨m',hm,i+1,σ8,_,I11.unpinned,(back I11).1,(back I11).2,w10⟩
 have q:=loop _ rfl
 have eqs:({ s3 with heap:=h₁,toks:=s.toks+([]:List (Str × Value)).length }:Shared)={ s with heap:=h₁,toks:=s.toks+([]:List (Str × Value)).length }:=by rw [<- hs3]
 rw [eqs] at q
 rw [e3] at q
 have stn:tn 0 h₁:=T.keep 0 _ _ st λb hb o e=>hk b o (up3 b o e)
 exact codeAny_compStart_list q (T.self X.A 0 _ _ _ stn q)
theorem aO {elt tg iter:Expr} {ifs:List Expr} {scope:Scope} {pos:Pos} {N:List Str} {src:List (Option Nat)} {wi:TI} {g:TG} {tt:TT} {te:TE}
  (hcalm:X.calm=true) (hsc:oz X.env.scope scope=true) (hsrc:iT X.N N src scope=true) (hi:PI X tg iter wi)
  (hb:∀ (s:Shared) (H:Hp) (ex:List Addr),PG (cxC X N scope s H ex) tg g/\PIf (cxC X N scope s H ex) ifs tt/\PE (cxC X N scope s H ex) elt te)
  (hs:∀ x,foldedSetIterable iter X.env x=pure x:=by intro _; rfl) :
  PE X (.ListComp elt [⟨tg,iter,ifs,0⟩] scope pos) (tComp src wi g tt te):=by
 intro pins s σ H Q I h
 have f:=mU hsc
 rw [eval_ListComp]
 refine wpAny_comprehension_free (use:=none) rfl hs (hX (f.cells I.ok)) f.kind f.names (thn (hi pins s σ H _ I h) λv s1 h1=>thn h1 λitv s2 h2=>?_)
 obtain ⟨it,fp,tn,J,H2,rfl,I2,T,st2,f2,q2⟩:=h2
 refine comp_run (N:=N) (src:=src) none (EP X pins σ Q) X.xe hcalm f hsrc hb I2 T st2 f2 q2 ?_
 intro acc C s' H' m hn _ hI hq
 exact ⟨m,hn,λh' sb=>⟨.ref acc,H',hI h' sb,rfl,hq⟩⟩
theorem oB {i:Nat} {y:Str} {py spos:Pos} {elt tg iter:Expr} {ifs:List Expr} {scope:Scope} {pos:Pos} {N:List Str} {src:List (Option Nat)} {wi:TI} {g:TG} {tt:TT} {te:TE}
  (hN:X.N.Nodup) (hix:X.N[i]? = some y) (hx:Loc X.env.scope y)
  (hcalm:X.calm=true) (hsc:oz X.env.scope scope=true) (hsrc:iT X.N N src scope=true) (hi:PI X tg iter wi)
  (hb:∀ (s:Shared) (H:Hp) (ex:List Addr),PG (cxC X N scope s H ex) tg g/\PIf (cxC X N scope s H ex) ifs tt/\PE (cxC X N scope s H ex) elt te)
  (hs:∀ x,foldedSetIterable iter X.env x=pure x:=by intro _; rfl)
  (hsw:swapsWith (.ListComp elt [⟨tg,iter,ifs,0⟩] scope pos) (some (.Name y py)) spos.line X.env=pure true:=by rfl)
  (hf:X.fn y=true\/X.env.scope.names.lookup y=some .local:=by first | exact .inl rfl | exact .inr rfl | assumption) :
  PS X (.Assign [.Name y py] (.ListComp elt [⟨tg,iter,ifs,0⟩] scope pos) spos) (tAsg (tComp src wi g tt te) (cC i)):=by
 intro pins s σ H D I h
 have f:=mU hsc
 rw [exec_Assign_Name_used _ _ _ _ hsw]
 refine wpAny_bind (wpAny_standAt (wpAny_bind ?_))
 show wpAny _ X.A (do let _ <- comprehension (.ListComp elt [⟨tg,iter,ifs,0⟩] scope pos) scope X.env _ (newList []) false (eval iter X.env) (some (assign (.Name y py) X.env))) _ _ s
 refine wpAny_bind (wpAny_mono (wpAny_comprehension_free (use:=some (assign (.Name y py) X.env)) (Q:=λ_ s'=>SP X pins D .next s') rfl hs (hX (f.cells I.ok)) f.kind f.names
  (thn (hi pins s σ H _ I h) λv s1 h1=>thn h1 λitv s2 h2=>?_)) (λ_ s' hq=>wpAny_pure (wpAny_pure hq)) λ_ _ e=>e)
 obtain ⟨it,fp,tn,J,H2,rfl,I2,T,st2,f2,q2⟩:=h2
 refine comp_run (N:=N) (src:=src) (some (assign (.Name y py) X.env)) (λ_ s'=>SP X pins D .next s') X.xe hcalm f hsrc hb I2 T st2 f2 (Q:=λx H1=>cC i x σ H1 D.nx) q2 ?_
 intro acc C s' H' m hn fpC hI hq
 obtain ⟨c0,c1,c2,c3,c4,c5⟩:=fpC
 have I':Inv X pins σ H' s':=hI s'.heap (Heap.SameBut.refl ..)
 show wpAny _ X.A (assign (.Name y py) X.env (.ref acc)) _ _ _
 refine wpAny_assign_Name (mE (v:=.ref acc) I' hN hix hx rfl (λs2 J2 ⟨a,sb,ha⟩=>?_) hf)
 have hCa:C ≠ a:=by
  rcases ha with rfl | ha
  ·exact c1
  ·exact λz=>c4 y a ha z.symm
 refine ⟨m,hn.sameBut sb hCa,λh' sb'=>?_⟩
 exact ⟨_,H',J2.turned (t':=s2.toks) (λb o hb e=>(sb'.2 b hb).trans e) c0 c1 c3 c4 c5,hq⟩
end
def SqI (t:Bool) (h:Heap) (it l:Addr) (i:Nat):Prop:=if t=true then h.IsTupleIter it l i else h.IsListIter it l i
def SqO (t:Bool) (h:Heap) (l:Addr) (xs:Array Value):Prop:=if t=true then h.IsTuple l xs else h.IsList l xs
def SqV (t:Bool) (K:Frag) (H:Hp) (a:Addr) (xs:List V):Prop:=if t=true then SqT K H a xs else SqL K H a xs
theorem SqI.at {t:Bool} {h h':Heap} {it l:Addr} {i:Nat} (x:SqI t h it l i) (k:∀ o,h.get? it=some o->h'.get? it=some o):SqI t h' it l i:=by
 cases t
 ·exact Heap.IsListIter.at x k
 ·obtain ⟨o,ho,r⟩:=(show h.IsTupleIter it l i from x)
  exact (show h'.IsTupleIter it l i from ⟨o,k o ho,r⟩)
theorem SqI.obj {t:Bool} {h:Heap} {it l:Addr} {i:Nat} (x:SqI t h it l i):∃ o,h.get? it=some o/\∀ v,o.data ≠ .cell v:=by
 cases t
 ·obtain ⟨o,ho,_,d⟩:=(show h.IsListIter it l i from x)
  exact ⟨o,ho,λv z=>by rw [d] at z; cases z⟩
 ·obtain ⟨o,ho,_,d⟩:=(show h.IsTupleIter it l i from x)
  exact ⟨o,ho,λv z=>by rw [d] at z; cases z⟩
theorem SqO.at {t:Bool} {h h':Heap} {l:Addr} {xs:Array Value} (x:SqO t h l xs) (k:∀ o,h.get? l=some o->h'.get? l=some o):SqO t h' l xs:=by
 cases t
 ·obtain ⟨o,ho,r⟩:=(show h.IsList l xs from x)
  exact (show h'.IsList l xs from ⟨o,k o ho,r⟩)
 ·obtain ⟨o,ho,r⟩:=(show h.IsTuple l xs from x)
  exact (show h'.IsTuple l xs from ⟨o,k o ho,r⟩)
theorem SqO.obj {t:Bool} {h:Heap} {l:Addr} {xs:Array Value} (x:SqO t h l xs):∃ o,h.get? l=some o:=by
 cases t
 ·obtain ⟨o,ho,r⟩:=(show h.IsList l xs from x)
  exact ⟨o,ho⟩
 ·obtain ⟨o,ho,r⟩:=(show h.IsTuple l xs from x)
  exact ⟨o,ho⟩
theorem Inv.seqV {X:Cx} {pins:List (Addr × Obj)} {σ:St} {H:Hp} {s:Shared} {t:Bool} {a:Addr} {xs:List V} (I:Inv X pins σ H s) (h:SqV t X.K H a xs):∃ its:List Value,o0 xs its/\SqO t s.heap a its.toArray/\xs.length<=sizeLine:=by
 cases t
 ·obtain ⟨its,r,p,z⟩:=I.list (show SqL X.K H a xs from h)
  exact ⟨its,r,p.isList,z⟩
 ·obtain ⟨its,r,p,z⟩:=I.tuple (show SqT X.K H a xs from h)
  exact ⟨its,r,p,z⟩
theorem Inv.seqV_inj {X:Cx} {pins:List (Addr × Obj)} {σ:St} {H:Hp} {s:Shared} {t:Bool} {a:Addr} {xs ys:List V} (I:Inv X pins σ H s) (h:SqV t X.K H a xs) (h':SqV t X.K H a ys):xs=ys:=by
 cases t
 ·exact I.list_inj h h'
 ·exact I.tuple_inj h h'
section
variable {prog:Program} {w:World} {A:Around} {E:Value->Shared->Prop} {s:Shared}
theorem iC {it l:Addr} {i:Nat} {items:Array Value} {x:Value} {Q:Value->Shared->Prop} (hit:s.heap.IsTupleIter it l i)
  (hl:s.heap.IsTuple l items) (hx:items[i]? = some x)
  (hQ:∀ h',h'.IsTupleIter it l (i+1)->Heap.SameBut it s.heap h'->Q x { s with heap:=h' }) :
  wpAny (model prog w) A (Builtin.SmallTypes.nextOf (.ref it)) Q E s:=by
 obtain ⟨o,ho,hc,hd⟩:=id hit
 obtain ⟨ol,hol,_,nl,hdl⟩:=hl
 unfold Builtin.SmallTypes.nextOf
 refine wpAny_bind (wpAny_callSpecial?_slot (name:=Str.ofString "__next__") hit.typeIs F.slot_tuple_iterator_next
  (wpAny_call_entry F.slot_tuple_iterator_next hit.typeIs F.entry_tuple_iterator_next ?_ (F.args_tuple_iterator_next_1 _)))
 show wpAny _ _ (field (.ref it) 0 >>= _) _ _ s
 refine wpAny_bind (wpAny_field ho hd (x:=.ref l) rfl ?_)
 show wpAny _ _ (if (Value.ref l == Value.none)=true then _ else _) _ _ s
 rw [if_neg (show ¬ ((Value.ref l == Value.none)=true) from Bool.false_ne_true)]
 show wpAny _ _ (field (.ref it) 1 >>= _) _ _ s
 refine wpAny_bind (wpAny_field ho hd (x:=.int i 0) rfl ?_)
 show wpAny _ _ (seqItems? (.ref l) >>= _) _ _ s
 refine wpAny_bind (wpAny_seqItems hol hdl ?_)
 simp only [Int.toNat_natCast,hx]
 refine wpAny_bind (wpAny_setField ho hd (by simp) (wpAny_pure ⟨x,rfl,wpAny_pure (hQ _ ?_ (Heap.SameBut.update ..))⟩))
 exact ⟨_,get?_update_self _ ho (Obj.isFreed_of_fields (Obj.data_mapFields hd _)),(Obj.cls_mapFields ..).trans hc,by
  rw [Obj.data_mapFields hd]; simp [rawInt]⟩
theorem jq {it l:Addr} {i:Nat} {items:Array Value} {Q:Value->Shared->Prop} (hh:A.handled=none)
  (hit:s.heap.IsTupleIter it l i) (hl:s.heap.IsTuple l items) (hx:items[i]? = none)
  (hE:∀ h' e,Heap.ExtBut it s.heap h'->(∃ o,h'.get? e=some o/\o.cls=.type "StopIteration")->E (.ref e) { s with heap:=h' }) :
  wpAny (model prog w) A (Builtin.SmallTypes.nextOf (.ref it)) Q E s:=by
 obtain ⟨o,ho,hc,hd⟩:=id hit
 obtain ⟨ol,hol,_,nl,hdl⟩:=hl
 unfold Builtin.SmallTypes.nextOf
 refine wpAny_bind (wpAny_callSpecial?_slot (name:=Str.ofString "__next__") hit.typeIs F.slot_tuple_iterator_next
  (wpAny_call_entry F.slot_tuple_iterator_next hit.typeIs F.entry_tuple_iterator_next ?_ (F.args_tuple_iterator_next_1 _)))
 show wpAny _ _ (field (.ref it) 0 >>= _) _ _ s
 refine wpAny_bind (wpAny_field ho hd (x:=.ref l) rfl ?_)
 show wpAny _ _ (if (Value.ref l == Value.none)=true then _ else _) _ _ s
 rw [if_neg (show ¬ ((Value.ref l == Value.none)=true) from Bool.false_ne_true)]
 show wpAny _ _ (field (.ref it) 1 >>= _) _ _ s
 refine wpAny_bind (wpAny_field ho hd (x:=.int i 0) rfl ?_)
 show wpAny _ _ (seqItems? (.ref l) >>= _) _ _ s
 refine wpAny_bind (wpAny_seqItems hol hdl ?_)
 simp only [Int.toNat_natCast,hx]
 refine wpAny_bind (wpAny_rule (wpAny_bind (wpAny_setField ho hd (by simp) ?_)))
 show wpAny _ _ (newExc (.type "StopIteration") [] >>= _) _ _ _
 refine wpAny_bind ?_
 simp only [newExc,newTuple]
 refine wpAny_bind (wpAny_newObj_type ?_ (by size_fits))
 refine wpAny_bind (m:=firstArgMember _ _) (wpAny_of_eq (a:=Value.none) (by first | rfl | (simp only [firstArgMember]; rfl)) ?_)
 refine wpAny_newObj_type ?_ (by size_fits)
 simp only [raiseNew]
 refine wpAny_bind (wpAny_handled ?_)
 first | rw [show A.in1.handled=none from hh] | rw [hh]
 refine wpAny_bind (wpAny_pure (wpAny_throw ?_))
 exact hE _ _ (((Heap.SameBut.update ..).extBut.push _).push _) ⟨_,get?_push_size _ rfl,rfl⟩
theorem gf {t:Bool} {it l:Addr} {i:Nat} {items:Array Value} {x:Value} {Q:Value->Shared->Prop} (hit:SqI t s.heap it l i)
  (hl:SqO t s.heap l items) (hx:items[i]? = some x)
  (hQ:∀ h',SqI t h' it l (i+1)->Heap.SameBut it s.heap h'->Q x { s with heap:=h' }) :
  wpAny (model prog w) A (Builtin.SmallTypes.nextOf (.ref it)) Q E s:=by
 cases t
 ·exact wpAny_nextOf_list_item hit hl hx hQ
 ·exact iC hit hl hx hQ
theorem li {t:Bool} {it l:Addr} {i:Nat} {items:Array Value} {Q:Value->Shared->Prop} (hh:A.handled=none)
  (hit:SqI t s.heap it l i) (hl:SqO t s.heap l items) (hx:items[i]? = none)
  (hE:∀ h' e,Heap.ExtBut it s.heap h'->(∃ o,h'.get? e=some o/\o.cls=.type "StopIteration")->E (.ref e) { s with heap:=h' }) :
  wpAny (model prog w) A (Builtin.SmallTypes.nextOf (.ref it)) Q E s:=by
 cases t
 ·exact wpAny_nextOf_list_end hh hit hl hx hE
 ·exact jq hh hit hl hx hE
theorem gw {t:Bool} {l:Addr} {items:Array Value} {Q:Value->Shared->Prop} (hl:SqO t s.heap l items)
  (hQ:∀ o,SqI t (s.heap.push o) s.heap.objs.size l 0->Q (.ref s.heap.objs.size) { s with heap:=s.heap.push o }):wpAny (model prog w) A (pyIter (.ref l)) Q E s:=by
 cases t
 ·exact wpAny_pyIter_list hl (hQ _ (show Heap.IsListIter _ _ _ _ from ⟨_,get?_push_size _ rfl,rfl,rfl⟩))
 ·exact wpAny_pyIter_tuple hl (hQ _ (show Heap.IsTupleIter _ _ _ _ from ⟨_,get?_push_size _ rfl,rfl,rfl⟩))
theorem zipN_item {t1 t2:Bool} {z TI TO i1 i2 l1 l2:Addr} {k1 k2:Nat} {xs ys:Array Value} {x y a b:Value} {Q:Value->Shared->Prop} (D:ZipApart z TI TO i1 i2 l1 l2)
  (hz:IsZip s.heap z TI TO .none) (hTI:IsPair s.heap TI (.ref i1) (.ref i2)) (hTO:IsPair s.heap TO a b)
  (h1:SqI t1 s.heap i1 l1 k1) (h2:SqI t2 s.heap i2 l2 k2) (hl1:SqO t1 s.heap l1 xs) (hl2:SqO t2 s.heap l2 ys) (hx:xs[k1]? = some x) (hy:ys[k2]? = some y)
  (hQ:∀ h',IsZip h' z TI TO (rawInt s.heap.objs.size)->IsPair h' TO x y->SqI t1 h' i1 l1 (k1+1)->SqI t2 h' i2 l2 (k2+1)->IsPair h' s.heap.objs.size x y->h'.objs.size=s.heap.objs.size+1->
   (∀ c o,c ≠ z->c ≠ TO->c ≠ i1->c ≠ i2->s.heap.get? c=some o->h'.get? c=some o)->Q (.ref s.heap.objs.size) { s with heap:=h' }) :
  wpAny (model prog w) A (Builtin.«zip.__next__» ⟨[.ref z],[]⟩) (λfin s'=>∃ v,fin=.done (.ret v)/\Q v s') E s:=by
 show wpAny _ _ (field (.ref z) 2 >>= _) _ _ _
 refine wpAny_bind (wpAny_field hz rfl (x:=.bool false) rfl ?_)
 show wpAny _ _ (field (.ref z) 3 >>= _) _ _ _
 refine wpAny_bind (wpAny_field hz rfl (x:=.ref TI) rfl ?_)
 refine wpAny_bind (wpAny_seqItems hTI rfl ?_)
 show wpAny _ _ (Builtin.SmallTypes.ownedTupleIsFree (.ref z) >>= _) _ _ _
 refine wpAny_bind ?_
 unfold Builtin.SmallTypes.ownedTupleIsFree
 refine wpAny_bind (wpAny_field hz rfl (x:=.none) rfl (wpAny_pure ?_))
 simp only [if_true]
 refine wpAny_bind (wpAny_rule ?_)
 refine wpAny_bind (wpAny_field hz rfl (x:=.ref TO) rfl ?_)
 refine wpAny_bind (wpAny_setField_rec hz (by simp) λh₁ hz₁ hs₁=>?_)
 replace hz₁:IsZip h₁ z TI TO .ellipsis:=hz₁
 refine wpAny_bind ?_
 simp only [List.zipIdx_cons,List.zipIdx_nil,forIn_cons,forIn_nil]
 refine wpAny_bind (wpAny_bind (wpAny_onRaise ?_))
 show wpAny _ _ (Builtin.SmallTypes.nextOf (.ref i1) >>= _) _ _ _
 refine wpAny_bind (gf (h1.at λo e=>hs₁.extBut _ _ D.i1z e) (hl1.at λo e=>hs₁.extBut _ _ D.l1z e) hx λh₂ h1₂ hs₂=>wpAny_pure ?_)
 have hTO₂:IsPair h₂ TO a b:=hs₂.extBut _ _ D.TOi1 (hs₁.extBut _ _ D.TOz hTO)
 refine wpAny_bind (wpAny_seqItems hTO₂ rfl ?_)
 refine wpAny_bind (wpAny_updateSeq_pair hTO₂ λh₃ hTO₃ hs₃=>?_)
 replace hTO₃:IsPair h₃ TO x b:=hTO₃
 refine wpAny_bind (wpAny_letGo (wpAny_pure ?_))
 refine wpAny_bind (wpAny_bind (wpAny_onRaise ?_))
 show wpAny _ _ (Builtin.SmallTypes.nextOf (.ref i2) >>= _) _ _ _
 refine wpAny_bind (gf (h2.at λo e=>hs₃.extBut _ _ D.TOi2.symm (hs₂.extBut _ _ D.i12.symm (hs₁.extBut _ _ D.i2z e)))
  (hl2.at λo e=>hs₃.extBut _ _ D.l2TO (hs₂.extBut _ _ D.l2i1 (hs₁.extBut _ _ D.l2z e))) hy λh₄ h2₄ hs₄=>wpAny_pure ?_)
 have hTO₄:IsPair h₄ TO x b:=hs₄.extBut _ _ D.TOi2 hTO₃
 refine wpAny_bind (wpAny_seqItems hTO₄ rfl ?_)
 refine wpAny_bind (wpAny_updateSeq_pair hTO₄ λh₅ hTO₅ hs₅=>?_)
 replace hTO₅:IsPair h₅ TO x y:=hTO₅
 refine wpAny_bind (wpAny_letGo (wpAny_pure (wpAny_pure ?_)))
 refine wpAny_bind (wpAny_seqItems hTO₅ rfl ?_)
 refine wpAny_bind (wpAny_newTuple ?_)
 have hsz:h₅.objs.size=s.heap.objs.size:=by rw [hs₅.1,hs₄.1,hs₃.1,hs₂.1,hs₁.1]
 have hz₅:IsZip h₅ z TI TO .ellipsis:=hs₅.extBut _ _ D.TOz.symm (hs₄.extBut _ _ D.i2z.symm (hs₃.extBut _ _ D.TOz.symm (hs₂.extBut _ _ D.i1z.symm hz₁)))
 have hk₅:∀ c o,c ≠ z->c ≠ TO->c ≠ i1->c ≠ i2->s.heap.get? c=some o->h₅.get? c=some o:=λc o c1 c2 c3 c4 e=>
  hs₅.extBut _ _ c2 (hs₄.extBut _ _ c4 (hs₃.extBut _ _ c2 (hs₂.extBut _ _ c3 (hs₁.extBut _ _ c1 e))))
 have h1₅:SqI t1 h₅ i1 l1 (k1+1):=h1₂.at λo e=>hs₅.extBut _ _ D.TOi1.symm (hs₄.extBut _ _ D.i12 (hs₃.extBut _ _ D.TOi1.symm e))
 have h2₅:SqI t2 h₅ i2 l2 (k2+1):=h2₄.at λo e=>hs₅.extBut _ _ D.TOi2.symm e
 have hzlt:z<h₅.objs.size:=lt_size hz₅
 have hTOlt:TO<h₅.objs.size:=lt_size hTO₅
 show wpAny _ _ (Builtin.SmallTypes.ownedTupleHandOut (.ref z) (.ref h₅.objs.size) >>= _) _ _ _
 refine wpAny_bind ?_
 unfold Builtin.SmallTypes.ownedTupleHandOut
 have hz₆:IsZip (h₅.push { cls:=.type "tuple",data:=.seq #[x,y] }) z TI TO .ellipsis:=get?_push_of_some _ hz₅
 refine wpAny_bind (wpAny_setField_rec hz₆ (by simp) λh₇ hz₇ hs₇=>?_)
 replace hz₇:IsZip h₇ z TI TO (rawInt h₅.objs.size):=hz₇
 refine wpAny_setField_rec hz₇ (by simp) λh₈ hz₈ hs₈=>?_
 replace hz₈:IsZip h₈ z TI TO (rawInt h₅.objs.size):=hz₈
 have up:∀ c o,c ≠ z->h₅.get? c=some o->h₈.get? c=some o:=λc o c1 e=>hs₈.extBut _ _ c1 (hs₇.extBut _ _ c1 (get?_push_of_some _ e))
 have hT₈:IsPair h₈ h₅.objs.size x y:=hs₈.extBut _ _ (Nat.ne_of_gt hzlt) (hs₇.extBut _ _ (Nat.ne_of_gt hzlt) (get?_push_size _ rfl))
 have hz8:h₈.objs.size=h₅.objs.size+1:=by rw [hs₈.1,hs₇.1,size_push]
 rw [hsz] at hz₈ hT₈ hz8
 refine wpAny_pure ⟨_,rfl,?_⟩
 show Q (.ref h₅.objs.size) _
 rw [hsz]
 exact hQ h₈ hz₈ (up _ _ D.TOz hTO₅) (h1₅.at λo e=>up _ o D.i1z e) (h2₅.at λo e=>up _ o D.i2z e) hT₈ hz8 λc o c1 c2 c3 c4 e=>up c o c1 (hk₅ c o c1 c2 c3 c4 e)
theorem zipN_end {t1 t2:Bool} {z TI TO i1 i2 l1 l2:Addr} {k1 k2:Nat} {xs ys:Array Value} {a b:Value} {Q:PySem.Fin->Shared->Prop} (hh:A.handled=none) (D:ZipApart z TI TO i1 i2 l1 l2)
  (hz:IsZip s.heap z TI TO .none) (hTI:IsPair s.heap TI (.ref i1) (.ref i2)) (hTO:IsPair s.heap TO a b)
  (h1:SqI t1 s.heap i1 l1 k1) (h2:SqI t2 s.heap i2 l2 k2) (hl1:SqO t1 s.heap l1 xs) (hl2:SqO t2 s.heap l2 ys) (hend:xs[k1]? = none\/ys[k2]? = none)
  (hE:∀ h' e,(∀ c o,c ≠ z->c ≠ TO->c ≠ i1->c ≠ i2->s.heap.get? c=some o->h'.get? c=some o)->(∃ o,h'.get? e=some o/\o.cls=.type "StopIteration")->E (.ref e) { s with heap:=h' }) :
  wpAny (model prog w) A (Builtin.«zip.__next__» ⟨[.ref z],[]⟩) Q E s:=by
 show wpAny _ _ (field (.ref z) 2 >>= _) _ _ _
 refine wpAny_bind (wpAny_field hz rfl (x:=.bool false) rfl ?_)
 show wpAny _ _ (field (.ref z) 3 >>= _) _ _ _
 refine wpAny_bind (wpAny_field hz rfl (x:=.ref TI) rfl ?_)
 refine wpAny_bind (wpAny_seqItems hTI rfl ?_)
 show wpAny _ _ (Builtin.SmallTypes.ownedTupleIsFree (.ref z) >>= _) _ _ _
 refine wpAny_bind ?_
 unfold Builtin.SmallTypes.ownedTupleIsFree
 refine wpAny_bind (wpAny_field hz rfl (x:=.none) rfl (wpAny_pure ?_))
 simp only [if_true]
 refine wpAny_bind (wpAny_rule ?_)
 refine wpAny_bind (wpAny_field hz rfl (x:=.ref TO) rfl ?_)
 refine wpAny_bind (wpAny_setField_rec hz (by simp) λh₁ hz₁ hs₁=>?_)
 replace hz₁:IsZip h₁ z TI TO .ellipsis:=hz₁
 refine wpAny_bind ?_
 simp only [List.zipIdx_cons,List.zipIdx_nil,forIn_cons,forIn_nil]
 refine wpAny_bind (wpAny_bind (wpAny_onRaise ?_))
 show wpAny _ _ (Builtin.SmallTypes.nextOf (.ref i1) >>= _) _ _ _
 cases hx:xs[k1]? with
 | none=>
  refine wpAny_bind (li hh (h1.at λo e=>hs₁.extBut _ _ D.i1z e) (hl1.at λo e=>hs₁.extBut _ _ D.l1z e) hx λh₂ e hs₂ he=>?_)
  obtain ⟨oe,hoe,hce⟩:=he
  have hz₂:IsZip h₂ z TI TO .ellipsis:=hs₂ _ _ D.i1z.symm hz₁
  have hez:e ≠ z:=λx=>by subst x; rw [hz₂] at hoe; cases hoe; simp at hce
  refine wpAny_setField_rec hz₂ (by simp) λh₃ _ hs₃=>hE h₃ e (λc o c1 _ c3 _ x=>hs₃.extBut _ _ c1 (hs₂ _ _ c3 (hs₁.extBut _ _ c1 x))) ⟨oe,hs₃.extBut _ _ hez hoe,hce⟩
 | some x=>
  have hy:ys[k2]? = none:=by rcases hend with h | h; rw [hx] at h; cases h; exact h
  refine wpAny_bind (gf (h1.at λo e=>hs₁.extBut _ _ D.i1z e) (hl1.at λo e=>hs₁.extBut _ _ D.l1z e) hx λh₂ h1₂ hs₂=>wpAny_pure ?_)
  have hTO₂:IsPair h₂ TO a b:=hs₂.extBut _ _ D.TOi1 (hs₁.extBut _ _ D.TOz hTO)
  refine wpAny_bind (wpAny_seqItems hTO₂ rfl ?_)
  refine wpAny_bind (wpAny_updateSeq_pair hTO₂ λh₃ hTO₃ hs₃=>?_)
  refine wpAny_bind (wpAny_letGo (wpAny_pure ?_))
  refine wpAny_bind (wpAny_bind (wpAny_onRaise ?_))
  show wpAny _ _ (Builtin.SmallTypes.nextOf (.ref i2) >>= _) _ _ _
  refine wpAny_bind (li hh (h2.at λo e=>hs₃.extBut _ _ D.TOi2.symm (hs₂.extBut _ _ D.i12.symm (hs₁.extBut _ _ D.i2z e)))
   (hl2.at λo e=>hs₃.extBut _ _ D.l2TO (hs₂.extBut _ _ D.l2i1 (hs₁.extBut _ _ D.l2z e))) hy λh₄ e hs₄ he=>?_)
  obtain ⟨oe,hoe,hce⟩:=he
  have hz₄:IsZip h₄ z TI TO .ellipsis:=hs₄ _ _ D.i2z.symm (hs₃.extBut _ _ D.TOz.symm (hs₂.extBut _ _ D.i1z.symm hz₁))
  have hez:e ≠ z:=λx=>by subst x; rw [hz₄] at hoe; cases hoe; simp at hce
  refine wpAny_setField_rec hz₄ (by simp) λh₅ _ hs₅=>hE h₅ e (λc o c1 c2 c3 c4 x=>hs₅.extBut _ _ c1 (hs₄ _ _ c4 (hs₃.extBut _ _ c2 (hs₂.extBut _ _ c3 (hs₁.extBut _ _ c1 x))))) ⟨oe,hs₅.extBut _ _ hez hoe,hce⟩
theorem jn {t1 t2:Bool} {z TI TO i1 i2 l1 l2:Addr} {k1 k2:Nat} {xs ys:Array Value} {x y a b:Value} {Q:Option Value->Shared->Prop} (D:ZipApart z TI TO i1 i2 l1 l2)
  (hz:IsZip s.heap z TI TO .none) (hTI:IsPair s.heap TI (.ref i1) (.ref i2)) (hTO:IsPair s.heap TO a b)
  (h1:SqI t1 s.heap i1 l1 k1) (h2:SqI t2 s.heap i2 l2 k2) (hl1:SqO t1 s.heap l1 xs) (hl2:SqO t2 s.heap l2 ys) (hx:xs[k1]? = some x) (hy:ys[k2]? = some y)
  (hQ:∀ h',IsZip h' z TI TO (rawInt s.heap.objs.size)->IsPair h' TO x y->SqI t1 h' i1 l1 (k1+1)->SqI t2 h' i2 l2 (k2+1)->IsPair h' s.heap.objs.size x y->h'.objs.size=s.heap.objs.size+1->
   (∀ c o,c ≠ z->c ≠ TO->c ≠ i1->c ≠ i2->s.heap.get? c=some o->h'.get? c=some o)->Q (some (.ref s.heap.objs.size)) { s with heap:=h' }) :
  wpAny (model prog w) A (pyNext (.ref z)) Q E s:=by
 have hT:s.TypeIs (.ref z) "zip":=⟨_,hz,rfl⟩
 unfold pyNext
 exact wpAny_bind (wpAny_attempt (wpAny_callSpecial?_slot (name:=Str.ofString "__next__") hT F.slot_zip_next
  (wpAny_call_entry F.slot_zip_next hT F.entry_zip_next
   (zipN_item D hz hTI hTO h1 h2 hl1 hl2 hx hy λh' a1 a2 a3 a4 a5 a6 a7=>wpAny_pure (hQ h' a1 a2 a3 a4 a5 a6 a7)) (F.args_zip_next_1 _))))
theorem jE {t1 t2:Bool} {z TI TO i1 i2 l1 l2:Addr} {k1 k2:Nat} {xs ys:Array Value} {a b:Value} {Q:Option Value->Shared->Prop} (hh:A.handled=none) (D:ZipApart z TI TO i1 i2 l1 l2)
  (hz:IsZip s.heap z TI TO .none) (hTI:IsPair s.heap TI (.ref i1) (.ref i2)) (hTO:IsPair s.heap TO a b)
  (h1:SqI t1 s.heap i1 l1 k1) (h2:SqI t2 s.heap i2 l2 k2) (hl1:SqO t1 s.heap l1 xs) (hl2:SqO t2 s.heap l2 ys) (hend:xs[k1]? = none\/ys[k2]? = none)
  (hQ:∀ h',(∀ c o,c ≠ z->c ≠ TO->c ≠ i1->c ≠ i2->s.heap.get? c=some o->h'.get? c=some o)->Q none { s with heap:=h' }):wpAny (model prog w) A (pyNext (.ref z)) Q E s:=by
 have hT:s.TypeIs (.ref z) "zip":=⟨_,hz,rfl⟩
 unfold pyNext
 refine wpAny_bind (wpAny_attempt (wpAny_callSpecial?_slot (name:=Str.ofString "__next__") hT F.slot_zip_next
  (wpAny_call_entry F.slot_zip_next hT F.entry_zip_next (zipN_end hh D hz hTI hTO h1 h2 hl1 hl2 hend λh' e hk he=>?_) (F.args_zip_next_1 _))))
 obtain ⟨o,ho,hc⟩:=he
 refine wpAny_bind (wpAny_isInstance (T := "StopIteration") (b:=true) ⟨o,ho,hc⟩ isSubtype_stop ?_)
 exact wpAny_pure (hQ _ hk)
end
def itObj (t:Bool) (l:Addr):Obj:=if t=true then { cls:=.type "tuple_iterator",data:=.fields #[.ref l,.int 0 0] } else { cls:=.type "list_iterator",data:=.fields #[.ref l,.int 0 0] }
theorem itObj_is {t:Bool} {h:Heap} {it l:Addr} (e:h.get? it=some (itObj t l)):SqI t h it l 0:=by
 cases t
 ·exact (show h.IsListIter it l 0 from ⟨_,e,rfl,rfl⟩)
 ·exact (show h.IsTupleIter it l 0 from ⟨_,e,rfl,rfl⟩)
abbrev zpH1 (t1:Bool) (h:Heap) (l1:Addr):Heap:=h.push (itObj t1 l1)
abbrev zpH2 (t1 t2:Bool) (h:Heap) (l1 l2:Addr):Heap:=(zpH1 t1 h l1).push (itObj t2 l2)
abbrev zpH3 (t1 t2:Bool) (h:Heap) (l1 l2:Addr):Heap:=(zpH2 t1 t2 h l1 l2).push { cls:=.type "tuple",data:=.seq #[.ref h.objs.size,.ref (zpH1 t1 h l1).objs.size] }
abbrev zpH4 (t1 t2:Bool) (h:Heap) (l1 l2:Addr):Heap:=(zpH3 t1 t2 h l1 l2).push { cls:=.type "tuple",data:=.seq #[.none,.none] }
abbrev zpH5 (t1 t2:Bool) (h:Heap) (l1 l2:Addr):Heap:=(zpH4 t1 t2 h l1 l2).push { cls:=.type "zip",data:=.fields #[.none,.bool false,.bool false,.ref (zpH2 t1 t2 h l1 l2).objs.size,.ref (zpH3 t1 t2 h l1 l2).objs.size] }
set_option maxHeartbeats 8000000 in
theorem meets_zipN (t1 t2:Bool) (l1 l2:Addr) (xs ys:Array Value) :
  Meets (Builtin.«zip.__new__» ⟨[.type "zip",.ref l1,.ref l2],[]⟩) (λ_ R s=>SqO t1 s.heap l1 xs/\SqO t2 s.heap l2 ys/\
   R (.ok (.ret (.ref (zpH4 t1 t2 s.heap l1 l2).objs.size))) { s with heap:=zpH5 t1 t2 s.heap l1 l2 }):=
 .of_wp λprog w A R s h=>by
  obtain ⟨hp,g,d,tk,os⟩:=s; obtain ⟨hl1,hl2,h⟩:=h
  have hsub:=sub_zip
  cases t1<;>cases t2
  ·have hL1:Heap.IsList (Shared.heap ⟨hp,g,d,tk,os⟩) l1 xs:=hl1
   have hL2:Heap.IsList (Shared.heap ⟨hp.push { cls:=.type "list_iterator",data:=.fields #[.ref l1,.int 0 0] },g,d,tk,os⟩) l2 ys:=Heap.IsList.push hl2 _
   wp_walk using wpAny_pyIter_list hL1,wpAny_pyIter_list hL2
   exact ⟨_,rfl,h⟩
  ·have hL1:Heap.IsList (Shared.heap ⟨hp,g,d,tk,os⟩) l1 xs:=hl1
   have hL2:Heap.IsTuple (Shared.heap ⟨hp.push { cls:=.type "list_iterator",data:=.fields #[.ref l1,.int 0 0] },g,d,tk,os⟩) l2 ys:=Heap.IsTuple.push hl2 _
   wp_walk using wpAny_pyIter_list hL1,wpAny_pyIter_tuple hL2
   exact ⟨_,rfl,h⟩
  ·have hL1:Heap.IsTuple (Shared.heap ⟨hp,g,d,tk,os⟩) l1 xs:=hl1
   have hL2:Heap.IsList (Shared.heap ⟨hp.push { cls:=.type "tuple_iterator",data:=.fields #[.ref l1,.int 0 0] },g,d,tk,os⟩) l2 ys:=Heap.IsList.push hl2 _
   wp_walk using wpAny_pyIter_tuple hL1,wpAny_pyIter_list hL2
   exact ⟨_,rfl,h⟩
  ·have hL1:Heap.IsTuple (Shared.heap ⟨hp,g,d,tk,os⟩) l1 xs:=hl1
   have hL2:Heap.IsTuple (Shared.heap ⟨hp.push { cls:=.type "tuple_iterator",data:=.fields #[.ref l1,.int 0 0] },g,d,tk,os⟩) l2 ys:=Heap.IsTuple.push hl2 _
   wp_walk using wpAny_pyIter_tuple hL1,wpAny_pyIter_tuple hL2
   exact ⟨_,rfl,h⟩
section
variable {prog:Program} {w:World} {A:Around} {E:Value->Shared->Prop} {s:Shared}
theorem call_zipN {t1 t2:Bool} {l1 l2:Addr} {xs ys:Array Value} {Q:Value->Shared->Prop} (hl1:SqO t1 s.heap l1 xs) (hl2:SqO t2 s.heap l2 ys)
  (h:∀ h',IsZip h' (s.heap.objs.size+4) (s.heap.objs.size+2) (s.heap.objs.size+3) .none->IsPair h' (s.heap.objs.size+2) (.ref s.heap.objs.size) (.ref (s.heap.objs.size+1))->
   IsPair h' (s.heap.objs.size+3) .none .none->SqI t1 h' s.heap.objs.size l1 0->SqI t2 h' (s.heap.objs.size+1) l2 0->h'.objs.size=s.heap.objs.size+5->
   (∀ c o,s.heap.get? c=some o->h'.get? c=some o)->Q (.ref (s.heap.objs.size+4)) { s with heap:=h' }) :
  wpAny (model prog w) A (call (.type "zip") [.ref l1,.ref l2]) Q E s:=by
 refine callType_new F.called_zip (by decide) (F.typeCall_zip_2 _ _) (F.newCall_zip_2 _ _) (λobj=>F.args_object_init_3 obj _ _) F.entry_zip_new
  (meets_zipN t1 t2 l1 l2 xs ys) ⟨hl1,hl2,?_⟩
 have fr:∀ t l,(itObj t l).isFreed=false:=λt l=>by cases t<;>rfl
 have z1:(zpH1 t1 s.heap l1).objs.size=s.heap.objs.size+1:=size_push ..
 have z2:(zpH2 t1 t2 s.heap l1 l2).objs.size=s.heap.objs.size+2:=by rw [size_push,z1]
 have z3:(zpH3 t1 t2 s.heap l1 l2).objs.size=s.heap.objs.size+3:=by rw [size_push,z2]
 have z4:(zpH4 t1 t2 s.heap l1 l2).objs.size=s.heap.objs.size+4:=by rw [size_push,z3]
 have z5:(zpH5 t1 t2 s.heap l1 l2).objs.size=s.heap.objs.size+5:=by rw [size_push,z4]
 have g5:(zpH5 t1 t2 s.heap l1 l2).get? (zpH4 t1 t2 s.heap l1 l2).objs.size=some _:=get?_push_size _ rfl
 have g4:(zpH5 t1 t2 s.heap l1 l2).get? (zpH3 t1 t2 s.heap l1 l2).objs.size=some _:=get?_push_of_some _ (get?_push_size _ rfl)
 have g3:(zpH5 t1 t2 s.heap l1 l2).get? (zpH2 t1 t2 s.heap l1 l2).objs.size=some _:=get?_push_of_some _ (get?_push_of_some _ (get?_push_size _ rfl))
 have g2:(zpH5 t1 t2 s.heap l1 l2).get? (zpH1 t1 s.heap l1).objs.size=some _:=get?_push_of_some _ (get?_push_of_some _ (get?_push_of_some _ (get?_push_size _ (fr t2 l2))))
 have g1:(zpH5 t1 t2 s.heap l1 l2).get? s.heap.objs.size=some _:=get?_push_of_some _ (get?_push_of_some _ (get?_push_of_some _ (get?_push_of_some _ (get?_push_size _ (fr t1 l1)))))
 show _/\_
 rw [z2,z3,z4] at g5
 rw [z1,z2] at g3
 rw [z3] at g4
 rw [z1] at g2
 rw [z4]
 exact ⟨⟨_,g5,rfl⟩,h _ g5 g3 g4 (itObj_is g1) (itObj_is g2) z5 λc o x=>
  get?_push_of_some _ (get?_push_of_some _ (get?_push_of_some _ (get?_push_of_some _ (get?_push_of_some _ x))))⟩
end
def Itz (t1 t2:Bool) (K:Frag) (a b:Addr):It:=
 ⟨λi H=>∃ xs ys x y,SqV t1 K H a xs/\SqV t2 K H b ys/\xs[i]? = some x/\ys[i]? = some y,
  λi H v H'=>∃ p x y,v=.ref p/\H p=none/\H'=upd H p (.tup [x,y])/\(∀ xs,SqV t1 K H a xs->xs[i]? = some x)/\∀ ys,SqV t2 K H b ys->ys[i]? = some y,
  λi H=>∃ xs ys,SqV t1 K H a xs/\SqV t2 K H b ys/\(xs.length<=i\/ys.length<=i)⟩
def Zst (t1 t2:Bool) (z TI TO i1 i2 a b:Addr) (i:Nat) (h:Heap):Prop:=
 IsZip h z TI TO .none/\IsPair h TI (.ref i1) (.ref i2)/\(∃ x y,IsPair h TO x y)/\SqI t1 h i1 a i/\SqI t2 h i2 b i
structure ZDist (z TI TO i1 i2:Addr):Prop where
 TIz:TI ≠ z
 TOz:TO ≠ z
 i1z:i1 ≠ z
 i2z:i2 ≠ z
 TITO:TI ≠ TO
 TIi1:TI ≠ i1
 TIi2:TI ≠ i2
 TOi1:TO ≠ i1
 TOi2:TO ≠ i2
 i12:i1 ≠ i2
theorem Inv.turnedN {X:Cx} {pins:List (Addr × Obj)} {σ:St} {H:Hp} {s:Shared} {h':Heap} {t':Nat} {fp:List Addr} (I:Inv X pins σ H s) (k:∀ b o,b ∉ fp->s.heap.get? b=some o->h'.get? b=some o) (hf:∀ b ∈ fp,eO X pins H b):Inv X pins σ H { s with heap:=h',toks:=t' }:=by
 have nit:∀ b u,H b=some u->b ∉ fp:=λb u e z=>by rw [(hf b z).1] at e; cases e
 refine I.step (g':=s.gens) (d':=s.drawn) (ch:=fp) (λb hb=>?_) (λb o _ _ hc e _=>k b o hc e) (λb o _ _ hc e _=>⟨o.slots,k b o hc e⟩) (λ_ _ _ _ n=>n)
  (λb o hc e=>⟨o,k b o hc e⟩) (λ_ _ e=>e) (λ_ _ _ e=>e) (λb ps e=>⟨#[],by rw [e]; simp⟩) (λm hm=>?_) (λb u e=>?_) I.bare
 ·obtain ⟨f0,f1,f2,f3,f4,f5⟩:=hf b hb
  exact ⟨f3,f1,f4,f5⟩
 ·obtain ⟨o,es,ep,ho,r⟩:=hm
  exact ⟨o,es,ep,k _ o (λz=>(hf _ z).2.1 rfl) ho,r⟩
 ·refine (I.hok b u e).stay (λc v hc q=>k c v ?_ q) (λ_ q=>q) λ_ _ q=>q
  rcases hc with z | z
  ·rw [z]; exact nit b u e
  ·exact nit c _ z
theorem zdist (n:Nat):ZDist (n+4) (n+2) (n+3) n (n+1):=by
 constructor<;>(intro h; have h':(_:Nat)=_:=h; omega)
theorem fK {X:Cx} {pins:List (Addr × Obj)} {σ:St} {H:Hp} {s:Shared} {fp:List Addr} {t:Bool} {l:Addr} {vs:List V} (I:Inv X pins σ H s) (hf:∀ b ∈ fp,eO X pins H b) (q:SqV t X.K H l vs):l ∉ fp:=λhl=>by
 have hn:=hf l hl
 have old:∀ o,X.K.lookup l=some o->False:=λo hk=>by
  rcases hn.2.2.2.1 with z' | z'
  ·exact I.ok.noex l o (I.ok.mod.kin l o hk) z'
  ·exact absurd (Nat.lt_of_lt_of_le (lt_size (I.ok.bs l o (I.ok.mod.kin l o hk)).1) z') (Nat.lt_irrefl _)
 cases t
 ·rcases (show SqL X.K H l vs from q) with (q | ⟨o,q⟩) | ⟨o,_,_,hk,_⟩
  ·rw [hn.1] at q; cases q
  ·rw [hn.1] at q; cases q
  ·exact old o hk
 ·rcases (show SqT X.K H l vs from q) with (q | ⟨o,q⟩) | ⟨o,_,_,hk,_⟩
  ·rw [hn.1] at q; cases q
  ·rw [hn.1] at q; cases q
  ·exact old o hk
theorem turn_zip {P:Program} {w:World} {K:Frag} {es:List Expr} {ek:Nat} {ep:Pos} {t1 t2:Bool} (a b z TI TO i1 i2:Addr) (D:ZDist z TI TO i1 i2) :
  lE P w K (.Tuple es ek ep) (Itz t1 t2 K a b) [z,TI,TO,i1,i2] z (Zst t1 t2 z TI TO i1 i2 a b) where
 mem:=by simp
 obj:=λi h ⟨hz,hTI,⟨x,y,hTO⟩,h1,h2⟩ c hc=>by
  simp only [mem_cons,not_mem_nil,or_false] at hc
  rcases hc with rfl | rfl | rfl | rfl | rfl
  ·exact ⟨_,hz,λv z=>by cases z⟩
  ·exact ⟨_,hTI,λv z=>by cases z⟩
  ·exact ⟨_,hTO,λv z=>by cases z⟩
  ·exact h1.obj
  ·exact h2.obj
 keep:=λi h h' ⟨hz,hTI,⟨x,y,hTO⟩,h1,h2⟩ k=>
  ⟨k z (by simp) _ hz,k TI (by simp) _ hTI,⟨x,y,k TO (by simp) _ hTO⟩,h1.at λo e=>k i1 (by simp) o e,h2.at λo e=>k i2 (by simp) o e⟩
 item:=by
  intro X hP hw hK hc i pins s σ H E I hf st hg
  subst hP hw hK
  obtain ⟨xs,ys,x,y,qx,qy,hx,hy⟩:=hg
  obtain ⟨hz,hTI,⟨xo,yo,hTO⟩,h1,h2⟩:=st
  obtain ⟨ix,rx,px,zx⟩:=I.seqV qx
  obtain ⟨iy,ry,py,zy⟩:=I.seqV qy
  obtain ⟨u,hu,ru⟩:=rx.get hx
  obtain ⟨v,hv,rv⟩:=ry.get hy
  have inFp:∀ c,c ∈ [z,TI,TO,i1,i2]->H c=none:=λc hc=>(hf c hc).1
  have na:=fK I hf qx
  have nb:=fK I hf qy
  simp only [mem_cons,not_mem_nil,or_false,not_or] at na nb
  have DA:ZipApart z TI TO i1 i2 a b:=⟨D.TIz,D.TOz,D.i1z,D.i2z,D.TITO,D.TIi1,D.TIi2,D.TOi1,D.TOi2,D.i12,na.1,na.2.2.1,na.2.2.2.1,na.2.2.2.2,nb.1,nb.2.2.1,nb.2.2.2.1,nb.2.2.2.2⟩
  refine jn DA hz hTI hTO h1 h2 px py (x:=u) (y:=v) (by simpa using hu) (by simpa using hv) λh' a1 a2 a3 a4 a5 a6 hk=>?_
  refine ⟨_,rfl,wpAny_letOwnedTupleGo_zip a1 λh'' hz'' sb=>?_⟩
  have kk:∀ c o,c ∉ [z,TI,TO,i1,i2]->s.heap.get? c=some o->h''.get? c=some o:=λc o hc e=>by
   simp only [mem_cons,not_mem_nil,or_false,not_or] at hc
   exact (sb.2 c hc.1).trans (hk c o hc.1 hc.2.2.1 hc.2.2.2.1 hc.2.2.2.2 e)
  have lt5:∀ c ∈ [z,TI,TO,i1,i2],c<s.heap.objs.size:=λc hc=>by
   simp only [mem_cons,not_mem_nil,or_false] at hc
   rcases hc with rfl | rfl | rfl | rfl | rfl
   ·exact lt_size hz
   ·exact lt_size hTI
   ·exact lt_size hTO
   ·obtain ⟨o,e,_⟩:=h1.obj; exact lt_size e
   ·obtain ⟨o,e,_⟩:=h2.obj; exact lt_size e
  have nT:s.heap.objs.size ∉ [z,TI,TO,i1,i2]:=λhc=>absurd (lt5 _ hc) (Nat.lt_irrefl _)
  have hT:h''.get? s.heap.objs.size=some { cls:=.type "tuple",data:=.seq #[u,v] }:=(sb.2 _ (λe=>nT (by simp [e]))).trans a5
  have fresh:H s.heap.objs.size=none:=I.hok.fresh (Nat.le_refl _)
  have gT:(s.heap.push { cls:=.type "tuple",data:=.seq #[u,v] }).get? s.heap.objs.size=some { cls:=.type "tuple",data:=.seq #[u,v] }:=get?_push_size _ rfl
  have I1:Inv X pins σ (upd H s.heap.objs.size (.tup [x,y])) { s with heap:=s.heap.push { cls:=.type "tuple",data:=.seq #[u,v] },toks:=s.toks }:=
   I.laid (λb o e=>get?_push_of_some _ e) (Nat.le_refl _) ⟨by show 2<=sizeLine; decide,[u,v],.cons ru (.cons rv .nil),_,gT,rfl,_,rfl⟩
  have fp1:∀ c ∈ [z,TI,TO,i1,i2],eO X pins (upd H s.heap.objs.size (.tup [x,y])) c:=λc hc=>
   ⟨by rw [ao (Nat.ne_of_lt (lt5 c hc))]; exact (hf c hc).1,(hf c hc).2⟩
  have I2:=I1.turnedN (h':=h'') (t':=s.toks) (fp:=[z,TI,TO,i1,i2]) (λc o hc e=>by
   rcases get?_push_cases e with ⟨e1,e2⟩ | e1
   ·rw [e1,e2]
    exact hT
   ·exact kk c o hc e1) fp1
  refine ⟨.ref s.heap.objs.size,_,I2,rfl,⟨_,x,y,rfl,fresh,rfl,λxs' q=>by rw [I.seqV_inj q qx]; exact hx,λys' q=>by rw [I.seqV_inj q qy]; exact hy⟩,?_,λc hc=>(fp1 c hc).1⟩
  exact ⟨hz'',(sb.2 _ D.TIz).trans (hk _ _ D.TIz D.TITO D.TIi1 D.TIi2 hTI),⟨u,v,(sb.2 _ D.TOz).trans a2⟩,a3.at λo e=>(sb.2 _ D.i1z).trans e,a4.at λo e=>(sb.2 _ D.i2z).trans e⟩
 done:=by
  intro X hP hw hK hc i pins s σ H E I hf st hg
  subst hP hw hK
  obtain ⟨xs,ys,qx,qy,hend⟩:=hg
  obtain ⟨hz,hTI,⟨xo,yo,hTO⟩,h1,h2⟩:=st
  obtain ⟨ix,rx,px,zx⟩:=I.seqV qx
  obtain ⟨iy,ry,py,zy⟩:=I.seqV qy
  have na:=fK I hf qx
  have nb:=fK I hf qy
  simp only [mem_cons,not_mem_nil,or_false,not_or] at na nb
  have DA:ZipApart z TI TO i1 i2 a b:=⟨D.TIz,D.TOz,D.i1z,D.i2z,D.TITO,D.TIi1,D.TIi2,D.TOi1,D.TOi2,D.i12,na.1,na.2.2.1,na.2.2.2.1,na.2.2.2.2,nb.1,nb.2.2.1,nb.2.2.2.1,nb.2.2.2.2⟩
  have lx:=rx.length
  have ly:=ry.length
  refine jE (I.ok.hd hc) DA hz hTI hTO h1 h2 px py ?_ λh' hk=>⟨rfl,I.turnedN (t':=s.toks) (λc o hc e=>?_) hf⟩
  ·rcases hend with q | q
   ·exact .inl (by simp; omega)
   ·exact .inr (by simp; omega)
  ·simp only [mem_cons,not_mem_nil,or_false,not_or] at hc
   exact hk c o hc.1 hc.2.2.1 hc.2.2.2.1 hc.2.2.2.2 e
 self:=λ_ _ _ _ _ st h=>wpAny_pyIter_zip st.1 h
def iZip (t1 t2:Bool) (K:Frag) (ta:TA):TI:=λσ H R=>ta σ H λvs H1=>∃ a b,vs=[.ref a,.ref b]/\(∃ xs,SqV t1 K H1 a xs)/\(∃ ys,SqV t2 K H1 b ys)/\R (Itz t1 t2 K a b) H1
theorem pi_zip {X:Cx} (t1 t2:Bool) {es:List Expr} {ek:Nat} {ep:Pos} {a b:Expr} {ta:TA} {p pos:Pos} (hg:Gl X "zip") (hm:X.mg "zip" = none) (ha:PA X [a,b] ta) (hs:starEach [a,b] X.env=[(false,eval a X.env),(false,eval b X.env)]:=by rfl) (hs2:starEach [b] X.env=[(false,eval b X.env)]:=by rfl) :
  PI X (.Tuple es ek ep) (.Call (.Name "zip" p) [a,b] [] pos) (iZip t1 t2 X.K ta):=by
 intro pins s σ H R I h
 refine Call_ (gg I hg hm boot_zip (PyProof.Rows.callWith_type1 (thn (ha pos pins s σ H _ I h) λus s1 ⟨vs,H1,I1,r1,q1⟩=>?_) (by rw [hs,hs2]) (by rw [hs2]; rfl)))
 obtain ⟨l1,l2,e,⟨xs,qx⟩,⟨ys,qy⟩,q⟩:=q1
 subst e
 cases r1 with
 | cons r rr=>
  cases rr with
  | cons r' rr=>
   cases rr
   cases r
   cases r'
   obtain ⟨ix,rx,px,zx⟩:=I1.seqV qx
   obtain ⟨iy,ry,py,zy⟩:=I1.seqV qy
   refine call_zipN px py λh' a1 a2 a3 a4 a5 a6 a7=>?_
   have I2:Inv X pins σ H1 { s1 with heap:=h',toks:=s1.toks }:=I1.kept a7
   refine wpAny_pyIter_zip (s:={ s1 with heap:=h' }) a1 ?_
   refine ⟨_,[s1.heap.objs.size+4,s1.heap.objs.size+2,s1.heap.objs.size+3,s1.heap.objs.size,s1.heap.objs.size+1],_,_,H1,rfl,I2,turn_zip l1 l2 (s1.heap.objs.size+4) (s1.heap.objs.size+2) (s1.heap.objs.size+3) s1.heap.objs.size (s1.heap.objs.size+1) (zdist _),⟨a1,a2,⟨_,_,a3⟩,a4,a5⟩,λb hb=>?_,q⟩
   have hb':s1.heap.objs.size<=b:=by
    simp only [mem_cons,not_mem_nil,or_false] at hb
    rcases hb with rfl | rfl | rfl | rfl | rfl
    ·exact Nat.le_add_right _ _
    ·exact Nat.le_add_right _ _
    ·exact Nat.le_add_right _ _
    ·exact Nat.le_refl _
    ·exact Nat.le_add_right _ _
   exact I1.fpOk hb' (I1.hok.fresh hb')
mutual
inductive DR (K:Frag) (H:Hp):PyData->V->Prop
 | non:DR K H .none .non
 | bl (b:Bool):DR K H (.bool b) (.bl b)
 | int (i:Int):DR K H (.int i) (.int i)
 | str (x:Str):DR K H (.str x) (.str x)
 | tup {a:Addr} {vs:List V} {ds:List PyData}:SqT K H a vs->DRs K H ds vs->DR K H (.tuple ds) (.ref a)
 | lst {a:Addr} {vs:List V} {ds:List PyData}:SqL K H a vs->DRs K H ds vs->DR K H (.list ds) (.ref a)
inductive DRs (K:Frag) (H:Hp):List PyData->List V->Prop
 | nil:DRs K H [] []
 | cons {d:PyData} {v:V} {ds:List PyData} {vs:List V}:DR K H d v->DRs K H ds vs->DRs K H (d::ds) (v::vs)
end
section
variable {X:Cx} {pins:List (Addr × Obj)} {σ:St} {H:Hp} {s:Shared}
mutual
theorem DR.reads (I:Inv X pins σ H s):∀ {d:PyData} {v:V} {u:Value},DR X.K H d v->o4 v u->∃ as,Reads s.heap u d as
 | _,_,_,.non,r=>by cases (show _=Value.none from r); exact ⟨_,.none⟩
 | _,_,_,.bl b,r=>by cases (show _=Value.bool b from r); exact ⟨_,.bool b⟩
 | _,_,_,.int i,r=>by obtain ⟨t,q⟩:=(show ∃ t,_=Value.int i t from r); subst q; exact ⟨_,.int i t⟩
 | _,_,_,.str x,r=>by obtain ⟨t,q⟩:=(show ∃ t,_=Value.str x t from r); subst q; exact ⟨_,.str x t⟩
 | _,_,_,.tup (a:=a) q qs,r=>by
  cases (show _=Value.ref a from r)
  obtain ⟨its,rv,⟨o,e,c,n,d⟩,z⟩:=I.tuple q
  obtain ⟨as,ra⟩:=DRs.reads I qs rv
  exact ⟨as,.tuple e c d (by simpa using ra)⟩
 | _,_,_,.lst (a:=a) q qs,r=>by
  cases (show _=Value.ref a from r)
  obtain ⟨its,rv,⟨o,n,e,c,_,d⟩,z⟩:=I.list q
  obtain ⟨as,ra⟩:=DRs.reads I qs rv
  exact ⟨_,.list e c d (by simpa using ra)⟩
theorem DRs.reads (I:Inv X pins σ H s):∀ {ds:List PyData} {vs:List V} {us:List Value},DRs X.K H ds vs->o0 vs us->∃ as,ReadsAll s.heap us ds as
 | _,_,_,.nil,r=>by cases r; exact ⟨_,.nil⟩
 | _,_,_,.cons q qs,r=>by
  cases r with
  | cons r rr=>
   obtain ⟨as,ra⟩:=DR.reads I q r
   obtain ⟨bs,rb⟩:=DRs.reads I qs rr
   exact ⟨_,.cons ra rb⟩
end
def rEqD (K:Frag):R2:=λx y H Q=>∃ d e,DR K H d x/\DR K H e y/\SeqAt.shaped d=true/\SeqAt.shaped e=true/\Q (.bl (PyData.eqv d e)) H
def rNeD (K:Frag):R2:=λx y H Q=>∃ d e,DR K H d x/\DR K H e y/\SeqAt.shaped d=true/\SeqAt.shaped e=true/\Q (.bl (!PyData.eqv d e)) H
theorem op_eqD (hu:X.A.units+64<cLine):OpR X (compareOp .Eq) (rEqD X.K):=by
 intro pins s σ H x y v u Q I rx ry h
 obtain ⟨d,e,dx,dy,sx,sy,q⟩:=h
 obtain ⟨as,ra⟩:=dx.reads I rx
 obtain ⟨bs,rb⟩:=dy.reads I ry
 exact eq_dataH ra rb sx sy hu ⟨.bl _,H,I,rfl,q⟩
theorem op_neD (hu:X.A.units+64<cLine):OpR X (compareOp .NotEq) (rNeD X.K):=by
 intro pins s σ H x y v u Q I rx ry h
 obtain ⟨d,e,dx,dy,sx,sy,q⟩:=h
 obtain ⟨as,ra⟩:=dx.reads I rx
 obtain ⟨bs,rb⟩:=dy.reads I ry
 exact ne_dataH ra rb sx sy hu ⟨.bl _,H,I,rfl,q⟩
end
def eW (ns:List Int):PyData:=.tuple (ns.map .int)
theorem kQ {K:Frag} {H:Hp}:∀ ns:List Int,DRs K H (ns.map PyData.int) (ns.map V.int)
 | []=>.nil
 | n::r=>.cons (.int n) (kQ r)
theorem gA {K:Frag} {H:Hp} {a:Addr} {ns:List Int} (h:SqT K H a (ns.map V.int)):DR K H (eW ns) (.ref a):=.tup h (kQ ns)
theorem cA (ns:List Int):SeqAt.shaped (eW ns)=true:=by
 simp [eW,SeqAt.shaped,PyData.canLay0,PyData.depth,PySem.W.ke_canLayAll0,PySem.W.ke_depthAll]
theorem fX:∀ ns ms:List Int,PyData.eqvAll (ns.map PyData.int) (ms.map PyData.int)=decide (ns=ms)
 | [],[]=>by simp [PyData.eqvAll]
 | [],_::_=>by simp [PyData.eqvAll]
 | _::_,[]=>by simp [PyData.eqvAll]
 | a::r,b::t=>by
  simp only [map_cons,PyData.eqvAll,PyData.eqv,fX r t]
  by_cases h:a=b<;>by_cases h':r=t<;>simp [h,h']
theorem kZ (ns ms:List Int):PyData.eqv (eW ns) (eW ms)=decide (ns=ms):=by
 simp only [eW,PyData.eqv]; exact fX ns ms
section
variable {X:Cx}
theorem Walks.sq {prog:Program} {w:World} {A:Around} (t:Bool) (hh:A.handled=none) (I ax:Addr) (hne:ax ≠ I) (items:Array Value) :
  Walks prog w A I [I,ax] [I] items.size (λi v=>items[i]? = some v) (λi h=>SqI t h I ax i/\SqO t h ax items):=by
 cases t
 ·exact Walks.list hh I ax hne items
 ·exact Walks.tuple hh I ax hne items
theorem call_allV (hc:X.calm=true) (t:Bool):dE X (.builtin "all") (λxs H Q=>∃ (p:Addr) (bs:List Bool),xs=[.ref p]/\SqV t X.K H p (bs.map V.bl)/\Q (.bl (bs.all id)) H):=by
 intro pins s σ H xs us Q I rv h
 obtain ⟨p,bs,rfl,q,hq⟩:=h
 obtain ⟨u,rfl,ru⟩:=gO rv
 cases ru
 obtain ⟨its,rb,po,z⟩:=I.seqV q
 have hh:X.A.in1.handled=none:=I.ok.hd hc
 refine call_all_walk (gw po λo hi=>?_)
 have hlt:p<s.heap.objs.size:=by obtain ⟨ob,e⟩:=po.obj; exact lt_size e
 refine ⟨s.heap.objs.size,_,_,_,_,_,λi=>bs.getD i false,rfl,Walks.sq t hh s.heap.objs.size p (Nat.ne_of_lt hlt) its.toArray,⟨hi,po.at λo' e=>get?_push_of_some _ e⟩,?_,λh' tk hk=>?_⟩
 ·intro i v s' Q' E' hv hQ
  have hv':its[i]? = some v:=by simpa using hv
  have hlen:=rb.length
  have hil:i<its.length:=(List.getElem?_eq_some_iff.mp hv').1
  rw [length_map] at hlen
  have hb:(bs.map V.bl)[i]? = some (.bl (bs.getD i false)):=by
   rw [getElem?_map,getD_eq_getElem?_getD,getElem?_eq_getElem (by omega)]
   rfl
  obtain ⟨u,hu,ru⟩:=rb.get hb
  rw [hv'] at hu
  cases hu
  cases (show v=Value.bool _ from ru)
  exact wpAny_truthy_bool hQ
 ·have I1:Inv X pins σ H { s with heap:=s.heap.push o,toks:=s.toks }:=I.kept λb u e=>get?_push_of_some _ e
  have fp:eO X pins H s.heap.objs.size:=I.fpOk (Nat.le_refl _) (I.hok.fresh (Nat.le_refl _))
  have I2:Inv X pins σ H { s with heap:=h',toks:=tk }:=by
   have:=I1.turnedN (fp:=[s.heap.objs.size]) (h':=h') (t':=tk) (λb ob hb e=>hk b ob hb e) (λb hb=>by have e:b=s.heap.objs.size:=by simpa using hb
                                                                                                     subst e; exact fp)
   exact this
  refine ⟨.bl (bs.all id),H,I2,?_,hq⟩
  show Value.bool _=Value.bool _
  congr 1
  have hlen:=rb.length
  rw [length_map] at hlen
  have hsz:its.toArray.size=bs.length:=by simp [hlen]
  rw [hsz]
  rw [Bool.eq_iff_iff]
  simp only [all_eq_true,List.mem_range]
  constructor
  ·intro h b hb
   obtain ⟨i,hi,rfl⟩:=getElem_of_mem hb
   have:=h i hi
   simpa [getD_eq_getElem?_getD,getElem?_eq_getElem hi] using this
  ·intro h i hi
   have:=h (bs[i]) (getElem_mem hi)
   simpa [getD_eq_getElem?_getD,getElem?_eq_getElem hi] using this
theorem preSum_list (ns:List Int):∀ k,k<=ns.length->preSum (λi=>ns.getD i 0) k=(ns.take k).sum:=by
 intro k
 induction k with
 | zero=>intro _; rfl
 | succ k ih=>
  intro h
  have e:=ih (by omega)
  show preSum _ k+_=_
  rw [e,take_succ,sum_append,getElem?_eq_getElem (by omega)]
  show _+ns.getD k 0=_
  rw [getD_eq_getElem?_getD,getElem?_eq_getElem (by omega)]
  simp
theorem call_sumV (hc:X.calm=true) (t:Bool):dE X (.builtin "sum") (λxs H Q=>∃ (p:Addr) (ns:List Int),xs=[.ref p]/\SqV t X.K H p (ns.map V.int)/\Q (.int ns.sum) H):=by
 intro pins s σ H xs us Q I rv h
 obtain ⟨p,ns,rfl,q,hq⟩:=h
 obtain ⟨u,rfl,ru⟩:=gO rv
 cases ru
 obtain ⟨its,rb,po,z⟩:=I.seqV q
 have hh:X.A.in1.handled=none:=I.ok.hd hc
 refine call_sum_walkG (gw po λo hi=>?_)
 have hlt:p<s.heap.objs.size:=by obtain ⟨ob,e⟩:=po.obj; exact lt_size e
 refine ⟨s.heap.objs.size,_,_,_,_,_,λi=>ns.getD i 0,rfl,Walks.sq t hh s.heap.objs.size p (Nat.ne_of_lt hlt) its.toArray,⟨hi,po.at λo' e=>get?_push_of_some _ e⟩,λb hb=>?_,?_,λh' tk t' hk=>?_⟩
 ·show b<(s.heap.push o).objs.size
  rw [size_push]
  rcases List.mem_cons.mp hb with rfl | hb
  ·exact Nat.lt_succ_self _
  ·rcases List.mem_cons.mp hb with rfl | hb
   ·exact Nat.lt_succ_of_lt hlt
   ·cases hb
 ·intro i v hv
  have hv':its[i]? = some v:=by simpa using hv
  have hlen:=rb.length
  have hil:i<its.length:=(List.getElem?_eq_some_iff.mp hv').1
  rw [length_map] at hlen
  have hb:(ns.map V.int)[i]? = some (.int (ns.getD i 0)):=by
   rw [getElem?_map,getD_eq_getElem?_getD,getElem?_eq_getElem (by omega)]
   rfl
  obtain ⟨u,hu,ru⟩:=rb.get hb
  rw [hv'] at hu
  cases hu
  exact ru
 ·have I1:Inv X pins σ H { s with heap:=s.heap.push o,toks:=s.toks }:=I.kept λb u e=>get?_push_of_some _ e
  have fp:eO X pins H s.heap.objs.size:=I.fpOk (Nat.le_refl _) (I.hok.fresh (Nat.le_refl _))
  have I2:Inv X pins σ H { s with heap:=h',toks:=tk }:=by
   have:=I1.turnedN (fp:=[s.heap.objs.size]) (h':=h') (t':=tk) (λb ob hb e=>hk b ob hb e) (λb hb=>by have e:b=s.heap.objs.size:=by simpa using hb
                                                                                                     subst e; exact fp)
   exact this
  have hlen:=rb.length
  rw [length_map] at hlen
  have hsz:its.toArray.size=ns.length:=by simp [hlen]
  refine ⟨.int ns.sum,H,I2,⟨t',?_⟩,hq⟩
  rw [hsz,preSum_list ns _ (Nat.le_refl _),take_of_length_le (Nat.le_refl _)]
end
end L2
namespace L2
open PySem PySem.Spec PyProof.Rows
section
variable {X:Cx} {pos:Pos}
def rIsT (K:Frag):List V->Hp->VK->Prop:=λxs H Q=>∃ (x:V) (t:Value) (c:String) (b:Bool),xs=[x,.ty c]/\pT K H x t/\kitOne K t (.type c)=some b/\Q (.bl b) H
theorem call_isT:dE X (.builtin "isinstance") (rIsT X.K):=by
 intro pins s σ H xs us Q I rv h
 obtain ⟨x,t,c,b,rfl,ty,e,q⟩:=h
 obtain ⟨u,u',rfl,r1,r2⟩:=vals2 rv
 cases (show u'=Value.type c from r2)
 exact isinst_ok I r1 ty e λtk=>⟨.bl b,H,I.tok tk,rfl,q⟩
theorem boot_isinst:bootBuiltins "isinstance"=some (.builtin "isinstance"):=by decide +kernel
theorem boot_all':bootBuiltins "all"=some (.builtin "all"):=by decide +kernel
theorem boot_sum':bootBuiltins "sum"=some (.builtin "sum"):=by decide +kernel
theorem mK:bootBuiltins "max"=some (.builtin "max"):=by decide +kernel
theorem mh:bootBuiltins "min"=some (.builtin "min"):=by decide +kernel
theorem boot_abs':bootBuiltins "abs"=some (.builtin "abs"):=by decide +kernel
theorem dW:bootBuiltins "tuple"=some (.type "tuple"):=by decide +kernel
theorem gY:bootBuiltins "list"=some (.type "list"):=by decide +kernel
theorem jk:bootBuiltins "int"=some (.type "int"):=by decide +kernel
theorem boot_bool':bootBuiltins "bool"=some (.type "bool"):=by decide +kernel
theorem bE:OpR X (binaryOp .Mult) (rI IntMulOk λi j=>.int (i*j)):=opI λ_ _ _ _ _ _ _ hc q=>mul_int q hc
end
structure FnB (P:Program) (w:World) (K:Frag) (mg:Str->Option Value) (base:Heap) (k:Nat) (x:Str) (sp:Sp):Prop where
 ex:∃ f fd ps,oY P w K mg base CX0 k f fd ps sp/\mg x=some (.ref f)/\keepIn K (.ref f)=true/\pK K fd ps []
structure Blt (mg:Str->Option Value):Prop where
 len:mg "len" = none
 range:mg "range" = none
 zip:mg "zip" = none
 all:mg "all" = none
 sum:mg "sum" = none
 max:mg "max" = none
 min:mg "min" = none
 abs:mg "abs" = none
 tuple:mg "tuple" = none
 list:mg "list" = none
 int:mg "int" = none
 bool:mg "bool" = none
 isinst:mg "isinstance" = none
 enum:mg "enumerate" = none
 sorted:mg "sorted" = none
 set:mg "set" = none
 str:mg "str" = none
section
variable {X:Cx} {p pos:Pos} {e e2:Expr} {es:List Expr} {t:TA} {te te2:TE}
theorem aq {x:Str} {k:Nat} {sp:Sp} (F:FnB X.prog X.w X.K X.mg X.base k x sp) (hr:ph k X.A) (ha:PA X (e::es) t) (hg:Gl X x:=by rfl) (hdb:(x == ("__debug__" : Str))=false:=by decide)
  (he:starEach (e::es) X.env=(false,eval e X.env)::starEach es X.env:=by rfl) (hpl:(backTo pos (starEach es X.env)).any (·.1)=false:=by rfl):PE X (.Call (.Name x p) (e::es) [] pos) (tCall sp [] E0 t):=by
 obtain ⟨f,fd,ps,F',hm,hk,hb⟩:=F.ex
 exact pe_call F' hr hg hm hk hb .nil pass0 ha hdb he hpl
theorem pl_len (T:Blt X.mg) (ha:PE X e te) (hg:Gl X "len":=by rfl) (hs:starEach [e] X.env=[(false,eval e X.env)]:=by rfl):PE X (.Call (.Name "len" p) [e] [] pos) (tCB (λxs H Q=>∃ p ys,xs=[.ref p]/\(SqL X.K H p ys\/SqT X.K H p ys)/\Q (.int ys.length) H) (bL te eT)):=
 cJ nN hg T.len PySem.boot_len (aa ha ae hs) (by decide) (by decide) hs
theorem pl_all (T:Blt X.mg) (ha:PE X e te) (b:Bool) (hc:X.calm=true:=by rfl) (hg:Gl X "all":=by rfl) (hs:starEach [e] X.env=[(false,eval e X.env)]:=by rfl):PE X (.Call (.Name "all" p) [e] [] pos) (tCB (λxs H Q=>∃ (p:Addr) (bs:List Bool),xs=[.ref p]/\SqV b X.K H p (bs.map V.bl)/\Q (.bl (bs.all id)) H) (bL te eT)):=
 cJ (call_allV hc b) hg T.all boot_all' (aa ha ae hs) (by decide) (by decide) hs
theorem pl_sum (T:Blt X.mg) (ha:PE X e te) (b:Bool) (hc:X.calm=true:=by rfl) (hg:Gl X "sum":=by rfl) (hs:starEach [e] X.env=[(false,eval e X.env)]:=by rfl):PE X (.Call (.Name "sum" p) [e] [] pos) (tCB (λxs H Q=>∃ (p:Addr) (ns:List Int),xs=[.ref p]/\SqV b X.K H p (ns.map V.int)/\Q (.int ns.sum) H) (bL te eT)):=
 cJ (call_sumV hc b) hg T.sum boot_sum' (aa ha ae hs) (by decide) (by decide) hs
theorem pl_tuple (T:Blt X.mg) (ha:PE X e te) (hg:Gl X "tuple":=by rfl) (hs:starEach [e] X.env=[(false,eval e X.env)]:=by rfl):PE X (.Call (.Name "tuple" p) [e] [] pos) (tCB (λxs H Q=>∃ p ys,xs=[.ref p]/\SqL X.K H p ys/\∀ l,H l=none->Q (.ref l) (upd H l (.tup ys))) (bL te eT)):=by
 refine gG (r:=λxs H Q=>∃ p ys,xs=[.ref p]/\SqL X.K H p ys/\∀ l,H l=none->Q (.ref l) (upd H l (.tup ys))) ?_ hg T.tuple dW (aa ha ae hs) (by decide) (by decide) hs
 intro pins s σ H xs us Q I rv h
 obtain ⟨p,ys,rfl,q,hq⟩:=h
 exact lJ pins s σ H _ us Q I rv ⟨p,ys,rfl,.inl ⟨q,hq⟩⟩
theorem pl_max (T:Blt X.mg) (ha:PA X [e,e2] t) (hc:X.calm=true:=by rfl) (hg:Gl X "max":=by rfl) (he:starEach [e,e2] X.env=(false,eval e X.env)::starEach [e2] X.env:=by rfl) (hpl:(backTo pos (starEach [e2] X.env)).any (·.1)=false:=by rfl) :
  PE X (.Call (.Name "max" p) [e,e2] [] pos) (tCB (λxs H Q=>∃ i j,xs=[.int i,.int j]/\Q (.int (if j > i then j else i)) H) t):=
 cJ (call_max2 hc) hg T.max mK ha (by decide) (by decide) he hpl
theorem pl_min (T:Blt X.mg) (ha:PA X [e,e2] t) (hc:X.calm=true:=by rfl) (hg:Gl X "min":=by rfl) (he:starEach [e,e2] X.env=(false,eval e X.env)::starEach [e2] X.env:=by rfl) (hpl:(backTo pos (starEach [e2] X.env)).any (·.1)=false:=by rfl) :
  PE X (.Call (.Name "min" p) [e,e2] [] pos) (tCB (λxs H Q=>∃ i j,xs=[.int i,.int j]/\Q (.int (if j<i then j else i)) H) t):=
 cJ (call_min2 hc) hg T.min mh ha (by decide) (by decide) he hpl
theorem oI (T:Blt X.mg) (ha:PE X e te) (hg:Gl X "abs":=by rfl) (hs:starEach [e] X.env=[(false,eval e X.env)]:=by rfl):PE X (.Call (.Name "abs" p) [e] [] pos) (tCB (λxs H Q=>∃ i,xs=[.int i]/\Q (.int (if i<0 then -i else i)) H) (bL te eT)):=
 cJ call_abs hg T.abs boot_abs' (aa ha ae hs) (by decide) (by decide) hs
def rIsM (K:Frag):List V->Hp->VK->Prop:=λxs H Q=>match xs with
 | [x,.ty c]=>∃ (t:Value) (b:Bool),pT K H x t/\kitOne K t (.type c)=some b/\Q (.bl b) H
 | _=>False
theorem call_isM:dE X (.builtin "isinstance") (rIsM X.K):=by
 intro pins s σ H xs us Q I rv h
 unfold rIsM at h
 split at h
 ·obtain ⟨t,b,ty,e,q⟩:=h
  exact call_isT pins s σ H _ us Q I rv ⟨_,t,_,b,rfl,ty,e,q⟩
 ·exact h.elim
theorem pl_is {cn:Str} {c:String} {p2:Pos} (T:Blt X.mg) (ha:PE X e te) (hm:X.mg cn=none) (hv:bootBuiltins cn=some (.type c)) (hg:Gl X "isinstance":=by rfl) (hg2:Gl X cn:=by rfl) (hn:cn ≠ "__name__":=by decide) (hd:(cn == ("__debug__" : Str))=false:=by decide)
  (he:starEach [e,.Name cn p2] X.env=(false,eval e X.env)::starEach [.Name cn p2] X.env:=by rfl) (he2:starEach [.Name cn p2] X.env=[(false,eval (.Name cn p2) X.env)]:=by rfl) :
  PE X (.Call (.Name "isinstance" p) [e,.Name cn p2] [] pos) (tCB (rIsM X.K) (bL te (bL (tC (.ty c)) eT))):=
 cJ (X:=X) (p:=p) (pos:=pos) call_isM hg T.isinst boot_isinst (aa ha (aa (pe_bltn (v:=.ty c) (pos:=p2) hg2 hm hv rfl hn hd) ae he2) he) (by decide) (by decide) he (by rw [he2]; rfl)
end
theorem iI {J:It} {n:Nat} {acc:Addr} {g:TG} {tt:TT} {te:TE} {Q:VK} {σ0:St} {H0:Hp} (Pv:Nat->List V->St->Hp->Prop) (hn:n<=sizeLine) (h0:Pv 0 [] σ0 (upd H0 acc (.lst [])))
  (hgo:∀ i zs σ H,i<n->H acc=some (.lst zs)->Pv i zs σ H->J.go i H)
  (hst:∀ zs σ H,H acc=some (.lst zs)->Pv n zs σ H->J.stop n H)
  (hs:∀ i zs σ H x H',i<n->H acc=some (.lst zs)->zs.length<=i->Pv i zs σ H->J.yld i H x H'->g x σ H' λσ2 H2=>tt σ2 H2 λb H3=>
   if b=true then te σ2 H3 λy H4=>∃ ys,H4 acc=some (.lst ys)/\ys.length<sizeLine/\∃ zs,(upd H4 acc (.lst (ys++[y]))) acc=some (.lst zs)/\zs.length<=i+1/\Pv (i+1) zs σ2 (upd H4 acc (.lst (ys++[y])))
   else ∃ zs,H3 acc=some (.lst zs)/\zs.length<=i+1/\Pv (i+1) zs σ2 H3)
  (hd:∀ zs σ H,H acc=some (.lst zs)->zs.length<=n->Pv n zs σ H->Q (.ref acc) H) :
  ∃ W:Nat->Nat->St->Hp->Prop,(∃ m,W 0 m σ0 (upd H0 acc (.lst [])))/\∀ i m σ H,W i m σ H->
   (J.stop i H/\Q (.ref acc) H)\/(J.go i H/\∃ N:St->Hp->Prop,(∀ σ' H',N σ' H'->∃ m',m' < m/\W (i+1) m' σ' H')/\∀ x H',J.yld i H x H'->g x σ H' λσ2 H2=>tt σ2 H2 λb H3=>
    if b=true then te σ2 H3 λy H4=>∃ ys,H4 acc=some (.lst ys)/\ys.length<sizeLine/\N σ2 (upd H4 acc (.lst (ys++[y]))) else N σ2 H3):=by
 refine ⟨λi m σ H=>m=n-i/\i<=n/\∃ zs,H acc=some (.lst zs)/\zs.length<=i/\Pv i zs σ H,⟨n,by simp,Nat.zero_le _,[],ac,Nat.le_refl _,h0⟩,?_⟩
 rintro i m σ H ⟨rfl,hi,zs,hz,hl,p⟩
 by_cases hlt:i<n
 ·refine .inr ⟨hgo i zs σ H hlt hz p,λσ' H'=>∃ zs,H' acc=some (.lst zs)/\zs.length<=i+1/\Pv (i+1) zs σ' H',λσ' H' p'=>⟨n-(i+1),by omega,rfl,hlt,p'⟩,λx H' y=>?_⟩
  exact hs i zs σ H x H' hlt hz hl p y
 ·have e:i=n:=by omega
  subst e
  exact .inl ⟨hst zs σ H hz p,hd zs σ H hz hl p⟩
theorem oS.sqT {K:Frag} {H H':Hp} {a:Addr} {xs:List V} (e:oS H H') (h:SqT K H a xs):SqT K H' a xs:=by
 rcases h with (h | ⟨o,h⟩) | h
 ·exact .inl (.inl (e _ _ h))
 ·exact .inl (.inr ⟨o,e _ _ h⟩)
 ·exact .inr h
theorem oS.sqV {t:Bool} {K:Frag} {H H':Hp} {a:Addr} {xs:List V} (e:oS H H') (h:SqV t K H a xs):SqV t K H' a xs:=by
 cases t
 ·exact oS.seq e h
 ·exact oS.sqT e h
theorem oS.new {H:Hp} {a:Addr} {o:HO} (h:H a=none):oS H (upd H a o):=λb u e=>by rw [ao (ah e h)]; exact e
theorem oS.put {H H':Hp} {a:Addr} {o:HO} (s:oS H H') (h:H a=none):oS H (upd H' a o):=λb u e=>by rw [ao (ah e h)]; exact s b u e
theorem nP {α β γ:Type} (f:α->β->γ):∀ (xs:List α) (ys:List β) (i:Nat) (x:α) (y:β),xs[i]? = some x->ys[i]? = some y->(List.zipWith f xs ys).take (i+1)=(List.zipWith f xs ys).take i++[f x y]:=by
 intro xs ys i x y hx hy
 rw [take_succ,List.getElem?_zipWith,hx,hy]
 rfl
theorem take_map {α β:Type} (f:α->β) (xs:List α) (i:Nat) (x:α) (hx:xs[i]? = some x):(xs.map f).take (i+1)=(xs.map f).take i++[f x]:=by
 rw [take_succ,getElem?_map,hx]
 rfl
theorem comp_zip {t1 t2:Bool} {K K':Frag} {a b:Addr} {xs ys:List V} {te:TE} {Q:VK} {rest:St} {src:List (Option Nat)} {σ:St} {H0:Hp} (f:V->V->V) (hσ:bK src σ=none::none::rest) (hx:SqV t1 K H0 a xs) (hy:SqV t2 K H0 b ys) (hl:xs.length<=sizeLine)
  (he:∀ (i:Nat) x y H (R:VK),xs[i]? = some x->ys[i]? = some y->oS H0 H->R (f x y) H->te (some x::some y::rest) H R)
  (hd:∀ acc H,H0 acc=none->oS H0 H->H acc=some (.lst (List.zipWith f xs ys))->Q (.ref acc) H) :
  bX (Itz t1 t2 K a b) src (gTup K' 2 (iJ (cC 0) (iJ (cC 1) gNil))) nB te σ H0 Q:=by
 intro acc hacc
 rw [hσ]
 have hlen:(List.zipWith f xs ys).length=min xs.length ys.length:=List.length_zipWith
 refine iI (n:=min xs.length ys.length) (λi zs σ H=>oS H0 H/\zs=(List.zipWith f xs ys).take i/\∃ u v,σ=u::v::rest) (by omega) ⟨oS.new hacc,rfl,none,none,rfl⟩ ?_ ?_ ?_ ?_
 ·rintro i zs σ H hi hz ⟨sm,_⟩
  exact ⟨xs,ys,xs[i]'(by omega),ys[i]'(by omega),sm.sqV hx,sm.sqV hy,by simp,by simp⟩
 ·rintro zs σ H hz ⟨sm,_⟩
  refine ⟨xs,ys,sm.sqV hx,sm.sqV hy,?_⟩
  omega
 ·rintro i zs σ H x H' hi hz hzl ⟨sm,ez,u,v,rfl⟩ ⟨p,x1,y1,rfl,hp,rfl,gx,gy⟩
  have hx1:=gx xs (sm.sqV hx)
  have hy1:=gy ys (sm.sqV hy)
  have pacc:acc ≠ p:=ah hz hp
  have hp0:H0 p=none:=sm.free hp
  refine ⟨p,[x1,y1],rfl,SqT.of ac,rfl,x1,[y1],rfl,y1,[],rfl,rfl,?_⟩
  show te (some x1::some y1::rest) _ _
  refine he i x1 y1 _ _ hx1 hy1 (sm.put hp0) ?_
  refine ⟨zs,by rw [ao pacc]; exact hz,by omega,zs++[f x1 y1],ac,by rw [length_append,length_singleton]; omega,(sm.put hp0).put hacc,?_,_,_,rfl⟩
  rw [nP f xs ys i x1 y1 hx1 hy1,ez]
 ·rintro zs σ H hz hzl ⟨sm,ez,_⟩
  refine hd acc H hacc sm ?_
  rw [hz,ez,take_of_length_le (by omega)]
theorem comp_tup {K:Frag} {a:Addr} {xs:List V} {te:TE} {Q:VK} {rest:St} {src:List (Option Nat)} {σ:St} {H0:Hp} (f:V->V) (hσ:bK src σ=none::rest) (hx:SqT K H0 a xs) (hl:xs.length<=sizeLine)
  (he:∀ (i:Nat) x H (R:VK),xs[i]? = some x->oS H0 H->R (f x) H->te (some x::rest) H R)
  (hd:∀ acc H,H0 acc=none->oS H0 H->H acc=some (.lst (xs.map f))->Q (.ref acc) H) :
  bX (Itt K a) src (cC 0) nB te σ H0 Q:=by
 intro acc hacc
 rw [hσ]
 have hlen:(xs.map f).length=xs.length:=length_map ..
 refine iI (n:=xs.length) (λi zs σ H=>oS H0 H/\zs=(xs.map f).take i/\∃ u,σ=u::rest) (by omega) ⟨oS.new hacc,rfl,none,rfl⟩ ?_ ?_ ?_ ?_
 ·rintro i zs σ H hi hz ⟨sm,_⟩
  exact ⟨xs,xs[i],sm.sqT hx,by simp⟩
 ·rintro zs σ H hz ⟨sm,_⟩
  exact ⟨xs,sm.sqT hx,Nat.le_refl _⟩
 ·rintro i zs σ H x H' hi hz hzl ⟨sm,ez,u,rfl⟩ ⟨rfl,gx⟩
  have hx1:=gx xs (sm.sqT hx)
  show te (some x::rest) _ _
  refine he i x _ _ hx1 sm ?_
  refine ⟨zs,hz,by omega,zs++[f x],ac,by rw [length_append,length_singleton]; omega,sm.put hacc,?_,_,rfl⟩
  rw [take_map f xs i x hx1,ez]
 ·rintro zs σ H hz hzl ⟨sm,ez,_⟩
  refine hd acc H hacc sm ?_
  rw [hz,ez,take_of_length_le (by omega)]
theorem aX {J:It} {n:Nat} {src:List (Option Nat)} {g:TG} {tt:TT} {te:TE} {Q:VK} {σ σ0:St} {H0:Hp} (hσ:bK src σ=σ0) (Pv:Addr->Nat->List V->St->Hp->Prop) (hn:n<=sizeLine) (h0:∀ acc,H0 acc=none->Pv acc 0 [] σ0 (upd H0 acc (.lst [])))
  (hgo:∀ acc i zs σ H,H0 acc=none->i<n->H acc=some (.lst zs)->Pv acc i zs σ H->J.go i H)
  (hst:∀ acc zs σ H,H0 acc=none->H acc=some (.lst zs)->Pv acc n zs σ H->J.stop n H)
  (hs:∀ acc i zs σ H x H',H0 acc=none->i<n->H acc=some (.lst zs)->zs.length<=i->Pv acc i zs σ H->J.yld i H x H'->g x σ H' λσ2 H2=>tt σ2 H2 λb H3=>
   if b=true then te σ2 H3 λy H4=>∃ ys,H4 acc=some (.lst ys)/\ys.length<sizeLine/\∃ zs,(upd H4 acc (.lst (ys++[y]))) acc=some (.lst zs)/\zs.length<=i+1/\Pv acc (i+1) zs σ2 (upd H4 acc (.lst (ys++[y])))
   else ∃ zs,H3 acc=some (.lst zs)/\zs.length<=i+1/\Pv acc (i+1) zs σ2 H3)
  (hd:∀ acc zs σ H,H0 acc=none->H acc=some (.lst zs)->zs.length<=n->Pv acc n zs σ H->Q (.ref acc) H):bX J src g tt te σ H0 Q:=by
 intro acc hacc
 rw [hσ]
 exact iI (Pv acc) hn (h0 acc hacc) (λi zs σ H=>hgo acc i zs σ H hacc) (λzs σ H=>hst acc zs σ H hacc) (λi zs σ H x H'=>hs acc i zs σ H x H' hacc) (λzs σ H=>hd acc zs σ H hacc)
theorem bP {X:Cx} {i:Nat} {x:Str} {pos:Pos} (hN:X.N.Nodup) (hi:X.N[i]? = some x) (hx:X.env.scope.names.lookup x=some .local):PG X (.Name x pos) (cC i):=aF hN hi (.inl hx) (.inr hx)
section
variable {X:Cx} (K:Frag) {p pos:Pos} {e e2:Expr} {es:List Expr} {t:TA} {te te2:TE}
theorem bw {i j:Nat} {x y:Str} {p1 p2 pos:Pos} {k:Nat} (hK:X.K=K) (hc:X.calm=true) (hN:X.N.Nodup) (hi:X.N[i]? = some x) (hj:X.N[j]? = some y) (hx:X.env.scope.names.lookup x=some .local) (hy:X.env.scope.names.lookup y=some .local) :
  PG X (.Tuple [.Name x p1,.Name y p2] k pos) (gTup K 2 (iJ (cC i) (iJ (cC j) gNil))):=by
 subst hK
 exact gb hc (aK (bP hN hi hx) (aK (bP hN hj hy) eA))
theorem aE (hK:X.K=K):IxR X (rIxL K):=hK ▸ ix_list
theorem az (hK:X.K=K):IxR X (rIxT K):=hK ▸ ix_tup
theorem ksl_list (hK:X.K=K):SlR X (rSlL K):=hK ▸ sl_list
theorem keqD (hK:X.K=K) (hu:X.A.units+64<cLine):OpR X (compareOp .Eq) (rEqD K):=hK ▸ op_eqD hu
theorem kneD (hK:X.K=K) (hu:X.A.units+64<cLine):OpR X (compareOp .NotEq) (rNeD K):=hK ▸ op_neD hu
theorem aG {tg:Expr} (hK:X.K=K) (hl:PE X e te):PI X tg e (iList K te):=hK ▸ pi_list hl
theorem kpi_tup {tg:Expr} (hK:X.K=K) (hl:PE X e te):PI X tg e (iTup K te):=hK ▸ pi_tup hl
theorem dB (t1 t2:Bool) {es:List Expr} {ek:Nat} {ep:Pos} {a b:Expr} {ta:TA} (hK:X.K=K) (hg:Gl X "zip") (hm:X.mg "zip" = none) (ha:PA X [a,b] ta) (hs:starEach [a,b] X.env=[(false,eval a X.env),(false,eval b X.env)]:=by rfl) (hs2:starEach [b] X.env=[(false,eval b X.env)]:=by rfl) :
  PI X (.Tuple es ek ep) (.Call (.Name "zip" p) [a,b] [] pos) (iZip t1 t2 K ta):=hK ▸ pi_zip t1 t2 hg hm ha hs hs2
def rLen (K:Frag):List V->Hp->VK->Prop:=λxs H Q=>∃ p ys,xs=[.ref p]/\(SqL K H p ys\/SqT K H p ys)/\Q (.int ys.length) H
def rAll (b:Bool) (K:Frag):List V->Hp->VK->Prop:=λxs H Q=>∃ (p:Addr) (bs:List Bool),xs=[.ref p]/\SqV b K H p (bs.map V.bl)/\Q (.bl (bs.all id)) H
def rSum (b:Bool) (K:Frag):List V->Hp->VK->Prop:=λxs H Q=>∃ (p:Addr) (ns:List Int),xs=[.ref p]/\SqV b K H p (ns.map V.int)/\Q (.int ns.sum) H
def rTuple (K:Frag):List V->Hp->VK->Prop:=λxs H Q=>∃ p ys,xs=[.ref p]/\SqL K H p ys/\∀ l,H l=none->Q (.ref l) (upd H l (.tup ys))
theorem bq (T:Blt X.mg) (ha:PE X e te) (hK:X.K=K:=by rfl) (hg:Gl X "len":=by rfl) (hs:starEach [e] X.env=[(false,eval e X.env)]:=by rfl):PE X (.Call (.Name "len" p) [e] [] pos) (tCB (rLen K) (bL te eT)):=by
 subst hK; exact pl_len T ha hg hs
theorem jO (T:Blt X.mg) (ha:PE X e te) (b:Bool) (hK:X.K=K:=by rfl) (hc:X.calm=true:=by rfl) (hg:Gl X "all":=by rfl) (hs:starEach [e] X.env=[(false,eval e X.env)]:=by rfl):PE X (.Call (.Name "all" p) [e] [] pos) (tCB (rAll b K) (bL te eT)):=by
 subst hK; exact pl_all T ha b hc hg hs
theorem iL (T:Blt X.mg) (ha:PE X e te) (b:Bool) (hK:X.K=K:=by rfl) (hc:X.calm=true:=by rfl) (hg:Gl X "sum":=by rfl) (hs:starEach [e] X.env=[(false,eval e X.env)]:=by rfl):PE X (.Call (.Name "sum" p) [e] [] pos) (tCB (rSum b K) (bL te eT)):=by
 subst hK; exact pl_sum T ha b hc hg hs
theorem gC (T:Blt X.mg) (ha:PE X e te) (hK:X.K=K:=by rfl) (hg:Gl X "tuple":=by rfl) (hs:starEach [e] X.env=[(false,eval e X.env)]:=by rfl):PE X (.Call (.Name "tuple" p) [e] [] pos) (tCB (rTuple K) (bL te eT)):=by
 subst hK; exact pl_tuple T ha hg hs
theorem gS {cn:Str} {c:String} {p2:Pos} (T:Blt X.mg) (ha:PE X e te) (hm:X.mg cn=none) (hv:bootBuiltins cn=some (.type c)) (hK:X.K=K:=by rfl) (hg:Gl X "isinstance":=by rfl) (hg2:Gl X cn:=by rfl) (hn:cn ≠ "__name__":=by decide) (hd:(cn == ("__debug__" : Str))=false:=by decide)
  (he:starEach [e,.Name cn p2] X.env=(false,eval e X.env)::starEach [.Name cn p2] X.env:=by rfl) (he2:starEach [.Name cn p2] X.env=[(false,eval (.Name cn p2) X.env)]:=by rfl) :
  PE X (.Call (.Name "isinstance" p) [e,.Name cn p2] [] pos) (tCB (rIsM K) (bL te (bL (tC (.ty c)) eT))):=by
 subst hK; exact pl_is T ha hm hv hg hg2 hn hd he he2
end
section
variable {X:Cx} (K:Frag) {p pos:Pos} {e e2:Expr} {es:List Expr} {t:TA} {te te2:TE}
def rListT (K:Frag):List V->Hp->VK->Prop:=λxs H Q=>∃ p ys,xs=[.ref p]/\(SqL K H p ys\/SqT K H p ys)/\∀ l,H l=none->Q (.ref l) (upd H l (.lst ys))
theorem kl (T:Blt X.mg) (ha:PE X e te) (hK:X.K=K:=by rfl) (hg:Gl X "list":=by rfl) (hs:starEach [e] X.env=[(false,eval e X.env)]:=by rfl):PE X (.Call (.Name "list" p) [e] [] pos) (tCB (rListT K) (bL te eT)):=by
 subst hK; exact gG oO hg T.list gY (aa ha ae hs) (by decide) (by decide) hs
end
theorem pT.same {K:Frag} {H H':Hp} {x:V} {t:Value} (s:oS H H') (h:pT K H x t):pT K H' x t:=by
 cases h with
 | non=>exact .non
 | bl b=>exact .bl b
 | int i=>exact .int i
 | str x=>exact .str x
 | flt x=>exact .flt x
 | lst e=>exact .lst (s _ _ e)
 | frz e=>exact .frz (s _ _ e)
 | tup e=>exact .tup (s _ _ e)
 | dK e=>exact .dK (s _ _ e)
 | dT e=>exact .dT (s _ _ e)
 | ins e cl ha hn htk hm=>exact .ins (s _ _ e) cl ha hn htk hm
theorem gB {t u:TS} {D:fJ} {σ:St} {H:Hp} (M:St->Hp->Prop) (h1:∀ R:St->Hp->Prop,(∀ σ' H',M σ' H'->R σ' H')->t { D with nx:=R } σ H) (h2:∀ σ' H',M σ' H'->u D σ' H'):bB t u D σ H:=h1 (u D) h2
theorem gs {i:Nat} {x:V} {t u:TS} {D:fJ} {σ:St} {H:Hp} (M:St->Hp->Prop) (h1:∀ R:St->Hp->Prop,(∀ σ' H',M σ' H'->R σ' H')->t { D with nx:=R } (σ.set i (some x)) H) (h2:∀ σ' H',M σ' H'->u D σ' H'):cC i x σ H (bB t u D):=h1 (u D) h2
section
open PySem.SeqAt
open PySem.AutoSeq1 (wpAny_loadPart')
open PySem.MeetsSeq PySem.MeetsSeq2 PySem.MeetsSeq3
end
theorem ints_inj:∀ {ns ms:List Int},ns.map V.int=ms.map V.int->ns=ms
 | [],[],_=>rfl
 | [],_::_,h=>by cases h
 | _::_,[],h=>by cases h
 | n::ns,m::ms,h=>by
  rw [map_cons,map_cons] at h
  injection h with h1 h2
  injection h1 with h1
  rw [h1,ints_inj h2]
section
variable {X:Cx} {K:Frag}
end
def Ite (K:Frag) (a:Addr):It:=
 ⟨λi H=>∃ xs x,SqL K H a xs/\xs[i]? = some x,
  λi H v H'=>∃ p x,v=.ref p/\H p=none/\H'=upd H p (.tup [.int i,x])/\∀ xs,SqL K H a xs->xs[i]? = some x,
  λi H=>∃ xs,SqL K H a xs/\xs.length<=i⟩
theorem turn_enum {P:Program} {w:World} {K:Frag} {es:List Expr} {ek:Nat} {ep:Pos} (a e it:Addr) (hne:e ≠ it) :
  lE P w K (.Tuple es ek ep) (Ite K a) [e,it] e (λi h=>(∃ old,IsEnum h e it ((i:Nat):Int) old)/\h.IsListIter it a i) where
 mem:=by simp
 obj:=λi h ⟨⟨old,he⟩,hi⟩ c hc=>by
  simp only [mem_cons,not_mem_nil,or_false] at hc
  rcases hc with rfl | rfl
  ·exact ⟨_,he,λv z=>by cases z⟩
  ·obtain ⟨o,ho,_,d⟩:=hi
   exact ⟨o,ho,λv z=>by rw [d] at z; cases z⟩
 keep:=λi h h' ⟨⟨old,he⟩,hi⟩ k=>⟨⟨old,k e (by simp) _ he⟩,hi.at λo q=>k it (by simp) o q⟩
 item:=by
  intro X hP hw hK hc i pins s σ H E I hf st hg
  subst hP hw hK
  obtain ⟨xs,x,qx,hx⟩:=hg
  obtain ⟨⟨old,he⟩,hi⟩:=st
  obtain ⟨ix,rx,px,zx⟩:=I.list qx
  obtain ⟨u,hu,ru⟩:=rx.get hx
  have na:=fK (t:=false) I hf qx
  simp only [mem_cons,not_mem_nil,or_false,not_or] at na
  refine wpAny_pyNext_enum_item he hi px.isList (x:=u) (by simpa using hu) hne λh' a1 a2 a3 a4 hk=>?_
  refine ⟨_,rfl,wpAny_letOwnedTupleGo_enum a1 λh'' he'' sb=>?_⟩
  have lt2:∀ c ∈ [e,it],c<s.heap.objs.size:=λc hc=>by
   simp only [mem_cons,not_mem_nil,or_false] at hc
   rcases hc with rfl | rfl
   ·exact lt_size he
   ·obtain ⟨o,ho,_⟩:=hi; exact lt_size ho
  have nT:s.heap.objs.size ∉ [e,it]:=λhc=>absurd (lt2 _ hc) (Nat.lt_irrefl _)
  have kk:∀ c o,c ∉ [e,it]->s.heap.get? c=some o->h''.get? c=some o:=λc o hc q=>by
   simp only [mem_cons,not_mem_nil,or_false,not_or] at hc
   exact (sb.2 c hc.1).trans (hk c o hc.1 hc.2 q)
  have hT:h''.get? s.heap.objs.size=some { cls:=.type "tuple",data:=.seq #[.int i s.toks,u] }:=(sb.2 _ (λz=>nT (by simp [z]))).trans a3
  have fresh:H s.heap.objs.size=none:=I.hok.fresh (Nat.le_refl _)
  have gT:(s.heap.push { cls:=.type "tuple",data:=.seq #[.int i s.toks,u] }).get? s.heap.objs.size=some { cls:=.type "tuple",data:=.seq #[.int i s.toks,u] }:=get?_push_size _ rfl
  have I1:Inv X pins σ (upd H s.heap.objs.size (.tup [.int i,x])) { s with heap:=s.heap.push { cls:=.type "tuple",data:=.seq #[.int i s.toks,u] },toks:=s.toks+1 }:=
   I.laid (λb o q=>get?_push_of_some _ q) (Nat.le_refl _) ⟨by show 2<=sizeLine; decide,[.int i s.toks,u],.cons ⟨_,rfl⟩ (.cons ru .nil),_,gT,rfl,_,rfl⟩
  have fp1:∀ c ∈ [e,it],eO X pins (upd H s.heap.objs.size (.tup [.int i,x])) c:=λc hc=>
   ⟨by rw [ao (Nat.ne_of_lt (lt2 c hc))]; exact (hf c hc).1,(hf c hc).2⟩
  have I2:=I1.turnedN (h':=h'') (t':=s.toks+1) (fp:=[e,it]) (λc o hc q=>by
   rcases get?_push_cases q with ⟨e1,e2⟩ | e1
   ·rw [e1,e2]
    exact hT
   ·exact kk c o hc e1) fp1
  refine ⟨.ref s.heap.objs.size,_,I2,rfl,⟨_,x,rfl,fresh,rfl,λxs' q=>by rw [I.list_inj q qx]; exact hx⟩,⟨⟨u,?_⟩,a2.extBut sb.extBut hne.symm⟩,λc hc=>(fp1 c hc).1⟩
  have e1:((i+1:Nat):Int)=(i:Int)+1:=by push_cast; rfl
  rw [e1]
  exact he''
 done:=by
  intro X hP hw hK hc i pins s σ H E I hf st hg
  subst hP hw hK
  obtain ⟨xs,qx,hend⟩:=hg
  obtain ⟨⟨old,he⟩,hi⟩:=st
  obtain ⟨ix,rx,px,zx⟩:=I.list qx
  have lx:=rx.length
  refine wpAny_pyNext_enum_end (I.ok.hd hc) he hi px.isList (by simp; omega) λh' eb=>⟨rfl,I.turnedN (fp:=[e,it]) (t':=s.toks) (λc o hc q=>?_) hf⟩
  simp only [mem_cons,not_mem_nil,or_false,not_or] at hc
  exact eb c o hc.2 q
 self:=λ_ _ _ _ _ st h=>by
  obtain ⟨⟨old,he⟩,_⟩:=st
  exact wpAny_pyIter_enum he h
def iEnum (K:Frag) (ta:TA):TI:=λσ H R=>ta σ H λvs H1=>∃ a,vs=[.ref a]/\(∃ xs,SqL K H1 a xs)/\R (Ite K a) H1
theorem kpi_enum {X:Cx} (K:Frag) {es:List Expr} {ek:Nat} {ep:Pos} {a:Expr} {ta:TA} {p pos:Pos} (hK:X.K=K) (hg:Gl X "enumerate") (hm:X.mg "enumerate" = none) (ha:PA X [a] ta) (hs:starEach [a] X.env=[(false,eval a X.env)]:=by rfl) :
  PI X (.Tuple es ek ep) (.Call (.Name "enumerate" p) [a] [] pos) (iEnum K ta):=by
 subst hK
 intro pins s σ H R I h
 refine Call_ (gg I hg hm boot_enumerate (PyProof.Rows.callWith_type1 (thn (ha pos pins s σ H _ I h) λus s1 ⟨vs,H1,I1,r1,q1⟩=>?_) hs rfl))
 obtain ⟨l,e,⟨xs,qx⟩,q⟩:=q1
 subst e
 cases r1 with
 | cons r rr=>
  cases rr
  cases r
  obtain ⟨ix,rx,px,zx⟩:=I1.list qx
  refine call_enumerate_list px.isList λh' a1 a2 a3 a4=>?_
  have I2:Inv X pins σ H1 { s1 with heap:=h',toks:=s1.toks }:=I1.kept a4
  refine wpAny_pyIter_enum (s:={ s1 with heap:=h' }) a1 ?_
  refine ⟨_,[s1.heap.objs.size+1,s1.heap.objs.size],_,_,H1,rfl,I2,turn_enum l (s1.heap.objs.size+1) s1.heap.objs.size (Nat.succ_ne_self _),⟨⟨.none,a1⟩,a2⟩,λb hb=>?_,q⟩
  have hb':s1.heap.objs.size<=b:=by
   simp only [mem_cons,not_mem_nil,or_false] at hb
   rcases hb with rfl | rfl
   ·exact Nat.le_add_right _ _
   ·exact Nat.le_refl _
  exact I1.fpOk hb' (I1.hok.fresh hb')
def tOrE (t1 t2:TE):TE:=λσ H Q=>t1 σ H Q\/t2 σ H Q
def tMk0 (C:Addr):TE:=λσ H Q=>∀ x dx,H x=none->H dx=none->dx ≠ x->Q (.ref x) (upd (upd H dx (.own x)) x (.ins C dx []))
section
variable {X:Cx} {C:Addr} {x:Str} {p pos apos:Pos} {e o:Expr} {es:List Expr} {te ta t1 t2:TE} {t:TA}
theorem gU (h1:PE X e t1) (h2:PE X e t2):PE X e (tOrE t1 t2):=λpins s σ H Q I h=>h.elim (h1 pins s σ H Q I) (h2 pins s σ H Q I)
structure Mk0 (K:Frag) (C:Addr):Prop where
 makes:makesIn K C=true
 init:findIn K (.ref C) "__init__"=some (some (.builtin "object.__init__"))
 kp:keepIn K (.ref C)=true
theorem pe_mk0 (M:Mk0 X.K C) (hm:X.mg x=some (.ref C)) (hg:Gl X x:=by rfl) (hdb:(x == ("__debug__" : Str))=false:=by decide):PE X (.Call (.Name x p) [] [] pos) (tMk0 C):=by
 intro pins s σ H Q I h
 refine wpAny_Call_Name_kw (iX I hg hm ?_ hdb)
 have hq:=h (s.heap.objs.size+1) s.heap.objs.size (I.hok.fresh (Nat.le_succ _)) (I.hok.fresh (Nat.le_refl _)) (Nat.ne_of_lt (Nat.lt_succ_self _))
 have I2:=Inv.made (C:=C) I
 refine PySem.W.callWith_K0 I.kIn M.kp (wpAny_call (make_map0 I.kIn M.makes M.init (λself=>PySem.W.Looks.of_pure (PySem.W.oi_bind self)) ?_))
 have Y:=PySem.W.makes_of (M:=model X.prog X.w) I.kIn M.makes
 have hx:((s.heap.push emptyDict).push (instObj C s.heap.objs.size)).get? (s.heap.objs.size+1)=some (instObj C s.heap.objs.size):=by
  have:=get?_push_size (s.heap.push emptyDict) (o:=instObj C s.heap.objs.size) rfl
  rwa [size_push] at this
 have y1:PySem.W.Looks (model X.prog X.w) ((s.heap.push emptyDict).push (instObj C s.heap.objs.size)) (typeOf (.ref (s.heap.objs.size+1))) (.ref C):=(PySem.W.Looks.ld hx).andThen .now
 have y2:PySem.W.Looks (model X.prog X.w) ((s.heap.push emptyDict).push (instObj C s.heap.objs.size)) (isInstance (.ref (s.heap.objs.size+1)) (.type "object")) true:=y1.andThen (Y.top.keeps λb o e=>get?_push_of_some _ (get?_push_of_some _ e))
 obtain ⟨hh,g,d,tk,os⟩:=s
 refine codeAny_call_builtin PySem.W.oi_plain PySem.W.entry_oi (@PySem.W.check_slot (model X.prog X.w) _ _ _ "object.__init__" "object" "__init__" (.ref (hh.objs.size+1)) [] [] _ PySem.W.oi_kind PySem.W.oi_split y2 (PySem.W.oi_args (.ref (hh.objs.size+1))) ?_)
 rw [PySem.W.oi_run]
 exact wpAny_pure (And.intro rfl ⟨V.ref (hh.objs.size+1),_,I2,rfl,hq⟩)
end
structure MtB (P:Program) (w:World) (K:Frag) (mg:Str->Option Value) (base:Heap) (k:Nat) (C:Addr) (m:Str) (sp:Sp):Prop where
 ex:∃ f fd ps,oY P w K mg base CX0 k f fd ps sp/\fN K C m f/\pK K fd ps []
 cl:Cls K C
structure MkB (P:Program) (w:World) (K:Frag) (mg:Str->Option Value) (base:Heap) (k:Nat) (C:Addr) (x:Str) (sp:Sp):Prop where
 ex:∃ f fd ps,oY P w K mg base CX0 k f fd ps sp/\Mk K C f/\pK K fd ps []
 at_:mg x=some (.ref C)
section
variable {X:Cx} {C:Addr} {x m:Str} {k:Nat} {sp:Sp} {p pos apos:Pos} {e o:Expr} {es:List Expr} {te ta:TE} {t:TA}
theorem pe_mt {pl:Sem Bool} (M:MtB X.prog X.w X.K X.mg X.base k C m sp) (hr:ph k X.A) (he:PE X o ta) (ha:PA X (e::es) t)
  (hst:starEach (e::es) X.env=(false,eval e X.env)::starEach es X.env:=by rfl) (hpl:(backTo pos (starEach es X.env)).any (·.1)=false:=by rfl)
  (ht:eval (.Call (.Attribute o m apos) (e::es) [] pos) X.env=(do
   let ov <- eval o X.env
   standAt apos.atName
   let (f,first) <- holding [ov] (getMethod ov m pl)
   callWith pos f first (backTo pos (starEach (e::es) X.env)) (backToKw pos (keywordEach [] X.env))):=by rfl) :
  PE X (.Call (.Attribute o m apos) (e::es) [] pos) (fT C m sp [] E0 ta t):=by
 obtain ⟨f,fd,ps,F,hm,hb⟩:=M.ex
 exact pe_meth he M.cl hm F hr hb .nil pass0 ha hst hpl ht
theorem pe_mkB (M:MkB X.prog X.w X.K X.mg X.base k C x sp) (hr:ph (k+1) X.A) (ha:PA X (e::es) t) (hg:Gl X x:=by rfl) (hdb:(x == ("__debug__" : Str))=false:=by decide)
  (he:starEach (e::es) X.env=(false,eval e X.env)::starEach es X.env:=by rfl) (hpl:(backTo pos (starEach es X.env)).any (·.1)=false:=by rfl) :
  PE X (.Call (.Name x p) (e::es) [] pos) (tMake C sp [] E0 t):=by
 obtain ⟨f,fd,ps,F,hm,hb⟩:=M.ex
 exact pe_make hm F hr hg M.at_ hb .nil pass0 ha hdb he hpl
end
end L2
namespace L2
def nrm (a b:Int):Int × Int:=if b<0 then (a.fdiv (-(Int.gcd a b:Int)),b.fdiv (-(Int.gcd a b:Int))) else (a.fdiv (Int.gcd a b:Int),b.fdiv (Int.gcd a b:Int))
theorem kW (a b:Int) (h:b ≠ 0):∃ (g:Nat) (a' b':Int),0<g/\Int.gcd a b=g/\a=g*a'/\b=g*b'/\Int.gcd a' b'=1/\nrm a b=(if b<0 then (-a',-b') else (a',b')):=by
 have hg:0<Int.gcd a b:=Int.gcd_pos_of_ne_zero_right a h
 obtain ⟨a',ha⟩:=Int.gcd_dvd_left (a:=a) (b:=b)
 obtain ⟨b',hb⟩:=Int.gcd_dvd_right (a:=a) (b:=b)
 have hg0:(Int.gcd a b:Int) ≠ 0:=by omega
 refine ⟨Int.gcd a b,a',b',hg,rfl,ha,hb,?_,?_⟩
 ·have e:Int.gcd (Int.gcd a b*a') (Int.gcd a b*b')=Int.gcd a b*Int.gcd a' b':=by
   rw [Int.gcd_mul_left]; rfl
  rw [<- ha,<- hb] at e
  have:Int.gcd a b*1=Int.gcd a b*Int.gcd a' b':=by omega
  exact (Nat.eq_of_mul_eq_mul_left hg this).symm
 ·unfold nrm
  generalize hG:(Int.gcd a b:Int)=G at *
  have f1:a.fdiv G=a':=by rw [ha]; exact Int.mul_fdiv_cancel_left _ hg0
  have f2:b.fdiv G=b':=by rw [hb]; exact Int.mul_fdiv_cancel_left _ hg0
  have f3:a.fdiv (-G) = -a':=by rw [ha,show G*a'=(-G)*(-a') by rw [Int.neg_mul_neg]]; exact Int.mul_fdiv_cancel_left _ (by omega)
  have f4:b.fdiv (-G) = -b':=by rw [hb,show G*b'=(-G)*(-b') by rw [Int.neg_mul_neg]]; exact Int.mul_fdiv_cancel_left _ (by omega)
  rw [f1,f2,f3,f4]
theorem bY (a b:Int) (h:b ≠ 0):0<(nrm a b).2:=by
 obtain ⟨g,a',b',hg,_,ha,hb,_,e⟩:=kW a b h
 rw [e]
 by_cases hb0:b<0
 ·rw [if_pos hb0]
  show 0 < -b'
  have:¬ 0<=b':=λz=>by have:=Int.mul_nonneg (show (0:Int)<=g by omega) z; omega
  omega
 ·rw [if_neg hb0]
  show 0<b'
  have:¬ b' <= 0:=λz=>by have:=Int.mul_nonneg (show (0:Int)<=g by omega) (show 0 <= -b' by omega); rw [Int.mul_neg] at this; omega
  omega
theorem cD (a b:Int) (h:b ≠ 0):Int.gcd (nrm a b).1 (nrm a b).2=1:=by
 obtain ⟨g,a',b',hg,_,ha,hb,c,e⟩:=kW a b h
 rw [e]
 split
 ·show Int.gcd (-a') (-b')=1
  rw [Int.neg_gcd,Int.gcd_neg]
  exact c
 ·exact c
theorem dv (a b:Int) (h:b ≠ 0):(nrm a b).1*b=a*(nrm a b).2:=by
 obtain ⟨g,a',b',hg,_,ha,hb,c,e⟩:=kW a b h
 rw [e]
 split
 ·show -a' * b=a * -b'
  rw [ha,hb,Int.neg_mul,Int.mul_neg,Int.mul_left_comm,Int.mul_assoc]
 ·show a' * b=a*b'
  rw [ha,hb,Int.mul_left_comm,Int.mul_assoc]
theorem gN (g:Nat) (x:Int) (hg:0<g):x.natAbs<=((g:Int)*x).natAbs:=by
 rw [Int.natAbs_mul,Int.natAbs_natCast]
 exact Nat.le_mul_of_pos_left _ hg
theorem kR (a b:Int) (h:b ≠ 0):(nrm a b).1.natAbs<=a.natAbs/\(nrm a b).2.natAbs<=b.natAbs:=by
 obtain ⟨g,a',b',hg,_,ha,hb,c,e⟩:=kW a b h
 have h1:=gN g a' hg
 have h2:=gN g b' hg
 rw [<- ha] at h1
 rw [<- hb] at h2
 rw [e]
 split
 ·exact ⟨by show (-a').natAbs<=_; omega,by show (-b').natAbs<=_; omega⟩
 ·exact ⟨h1,h2⟩
theorem eQ (a b:Int) (h:0<b):nrm a b=(a,b)↔Int.gcd a b=1:=by
 obtain ⟨g,a',b',hg,eg,ha,hb,c,e⟩:=kW a b (by omega)
 constructor
 ·intro z
  have:=cD a b (by omega)
  rw [z] at this
  exact this
 ·intro z
  rw [z] at eg
  subst eg
  rw [e,if_neg (by omega)]
  rw [show a'=a by omega,show b'=b by omega]
theorem idvd {k m n:Int} (h:Int.gcd k m=1) (hd:k ∣ m*n):k ∣ n:=Int.natAbs_dvd_natAbs.mp (Nat.Coprime.dvd_of_dvd_mul_left (show Nat.Coprime k.natAbs m.natAbs from h) (by rw [<- Int.natAbs_mul]; exact Int.natAbs_dvd_natAbs.mpr hd))
theorem mZ {n d n' d':Int} (h1:0<d) (h2:0<d') (c1:Int.gcd n d=1) (c2:Int.gcd n' d'=1) (e:n*d'=n' * d):n=n'/\d=d':=by
 have g1:Int.gcd d n=1:=by rw [Int.gcd_comm]; exact c1
 have g2:Int.gcd d' n'=1:=by rw [Int.gcd_comm]; exact c2
 have d1:d ∣ d':=idvd g1 (show d ∣ n*d' from ⟨n',by rw [e,Int.mul_comm]⟩)
 have d2:d' ∣ d:=idvd g2 (show d' ∣ n' * d from ⟨n,by rw [<- e,Int.mul_comm]⟩)
 have ed:d=d':=Int.dvd_antisymm (by omega) (by omega) d1 d2
 subst ed
 exact ⟨Int.eq_of_mul_eq_mul_right (by omega) e,rfl⟩
end L2
namespace L2
open PySem PySem.Spec PyProof.Rows
theorem comp_lst {K:Frag} {a:Addr} {xs:List V} {te:TE} {Q:VK} {rest:St} {src:List (Option Nat)} {σ:St} {H0:Hp} (f:V->V) (hσ:bK src σ=none::rest) (hx:SqL K H0 a xs) (hl:xs.length<=sizeLine)
  (he:∀ (i:Nat) x H (R:VK),xs[i]? = some x->oS H0 H->R (f x) H->te (some x::rest) H R)
  (hd:∀ acc H,H0 acc=none->oS H0 H->H acc=some (.lst (xs.map f))->Q (.ref acc) H) :
  bX (Itl K a) src (cC 0) nB te σ H0 Q:=by
 intro acc hacc
 rw [hσ]
 have hlen:(xs.map f).length=xs.length:=length_map ..
 refine iI (n:=xs.length) (λi zs σ H=>oS H0 H/\zs=(xs.map f).take i/\∃ u,σ=u::rest) (by omega) ⟨oS.new hacc,rfl,none,rfl⟩ ?_ ?_ ?_ ?_
 ·rintro i zs σ H hi hz ⟨sm,_⟩
  exact ⟨xs,xs[i],sm.seq hx,by simp⟩
 ·rintro zs σ H hz ⟨sm,_⟩
  exact ⟨xs,sm.seq hx,Nat.le_refl _⟩
 ·rintro i zs σ H x H' hi hz hzl ⟨sm,ez,u,rfl⟩ ⟨rfl,gx⟩
  have hx1:=gx xs (sm.seq hx)
  show te (some x::rest) _ _
  refine he i x _ _ hx1 sm ?_
  refine ⟨zs,hz,by omega,zs++[f x],ac,by rw [length_append,length_singleton]; omega,sm.put hacc,?_,_,rfl⟩
  rw [take_map f xs i x hx1,ez]
 ·rintro zs σ H hz hzl ⟨sm,ez,_⟩
  refine hd acc H hacc sm ?_
  rw [hz,ez,take_of_length_le (by omega)]
end L2
set_option exponentiation.threshold 5000
namespace L2
open PySem PySem.Spec PyProof.Rows
def aS (P:Int) (x y:Int × Int):Int × Int:=if P=0 then nrm (x.1*y.2+y.1*x.2) (x.2*y.2) else ((x.1+y.1) % P,1)
def fI (P:Int) (x y:Int × Int):Int × Int:=if P=0 then nrm (x.1*y.2-y.1*x.2) (x.2*y.2) else ((x.1-y.1) % P,1)
def du (P:Int) (x y:Int × Int):Int × Int:=if P=0 then nrm (x.1*y.1) (x.2*y.2) else ((x.1*y.1) % P,1)
def cq (P:Int) (x:Int × Int):Int × Int:=if P=0 then (0-x.1,x.2) else ((0-x.1) % P,1)
def OkN (P:Int) (x:Int × Int):Prop:=(P=0/\0<x.2/\Int.gcd x.1 x.2=1)\/(P ≠ 0/\0<=x.1/\x.1<P/\x.2=1)
theorem jI {a b:Int} (h:b ≠ 0):OkN 0 (nrm a b):=.inl ⟨rfl,bY a b h,cD a b h⟩
theorem iQ {P a:Int} (h:0<=P) (h0:P ≠ 0):OkN P (a % P,1):=.inr ⟨h0,Int.emod_nonneg a h0,Int.emod_lt_of_pos a (by omega),rfl⟩
theorem OkN.den {P:Int} {x:Int × Int} (h:OkN P x):0<x.2:=by
 rcases h with ⟨_,h,_⟩ | ⟨_,_,_,h⟩<;>omega
theorem bC {x y:Int × Int} (h1:0<x.2) (h2:0<y.2):x.2*y.2 ≠ 0:=λz=>by have:=Int.mul_pos h1 h2; omega
theorem iV {P:Int} {x y:Int × Int} (hP:0<=P) (h1:OkN P x) (h2:OkN P y):OkN P (aS P x y):=by
 unfold aS
 split
 ·rename_i h; subst h; exact jI (bC h1.den h2.den)
 ·exact iQ hP ‹_›
theorem okN_sub {P:Int} {x y:Int × Int} (hP:0<=P) (h1:OkN P x) (h2:OkN P y):OkN P (fI P x y):=by
 unfold fI
 split
 ·rename_i h; subst h; exact jI (bC h1.den h2.den)
 ·exact iQ hP ‹_›
theorem nC {P:Int} {x y:Int × Int} (hP:0<=P) (h1:OkN P x) (h2:OkN P y):OkN P (du P x y):=by
 unfold du
 split
 ·rename_i h; subst h; exact jI (bC h1.den h2.den)
 ·exact iQ hP ‹_›
theorem okN_neg {P:Int} {x:Int × Int} (hP:0<=P) (h1:OkN P x):OkN P (cq P x):=by
 unfold cq
 split
 ·rcases h1 with ⟨h,a,b⟩ | ⟨h,_⟩
  ·refine .inl ⟨h,a,?_⟩
   show Int.gcd (0-x.1) x.2=1
   rw [show 0-x.1 = -x.1 by omega,Int.neg_gcd]
   exact b
  ·exact absurd ‹_› h
 ·exact iQ hP ‹_›
theorem cI {P:Int} (hP:0<=P) (h2:P ≠ 1):OkN P (0,1):=by
 by_cases h:P=0
 ·exact .inl ⟨h,by decide,by decide⟩
 ·exact .inr ⟨h,by decide,by show (0:Int)<P; omega,rfl⟩
theorem ow {P:Int} {x y:Int × Int}:aS P x (cq P y)=fI P x y:=by
 unfold aS fI cq
 by_cases h:P=0
 ·rw [if_pos h,if_pos h,if_pos h]
  show nrm (x.1*y.2+(0-y.1)*x.2) (x.2*y.2)=_
  rw [Int.sub_mul,Int.zero_mul,show x.1*y.2+(0-y.1*x.2)=x.1*y.2-y.1*x.2 by omega]
 ·rw [if_neg h,if_neg h,if_neg h]
  show ((x.1+(0-y.1) % P) % P,(1:Int))=_
  rw [Int.add_emod_emod,show x.1+(0-y.1)=x.1-y.1 by omega]
theorem sub_self {P:Int} {x:Int × Int} (hP:0<=P) (h1:OkN P x):fI P x x=(0,1):=by
 unfold fI
 by_cases h:P=0
 ·rw [if_pos h,Int.sub_self]
  have hd:=bC h1.den h1.den
  have e:=dv 0 (x.2*x.2) hd
  rw [Int.zero_mul] at e
  have z:(nrm 0 (x.2*x.2)).1=0:=(Int.mul_eq_zero.mp e).resolve_right hd
  have c:=cD 0 (x.2*x.2) hd
  have p:=bY 0 (x.2*x.2) hd
  rw [z,Int.zero_gcd] at c
  exact Prod.ext z (show (nrm 0 (x.2*x.2)).2=1 by omega)
 ·rw [if_neg h,Int.sub_self,Int.zero_emod]
theorem add_sub {P:Int} {x y:Int × Int} (hP:0<=P) (h1:OkN P x) (h2:OkN P y):aS P (fI P x y) y=x:=by
 by_cases h:P=0
 ·have hxy:=bC h1.den h2.den
  have hs:fI P x y=nrm (x.1*y.2-y.1*x.2) (x.2*y.2):=by unfold fI; rw [if_pos h]
  have sp:=okN_sub hP h1 h2
  have hd2:=bC sp.den h2.den
  have ha:aS P (fI P x y) y=nrm ((fI P x y).1*y.2+y.1*(fI P x y).2) ((fI P x y).2*y.2):=by
   show (if P=0 then _ else _)=_
   rw [if_pos h]
  have e1:=dv (x.1*y.2-y.1*x.2) (x.2*y.2) hxy
  rw [<- hs] at e1
  generalize fI P x y=s at *
  have e2:=dv (s.1*y.2+y.1*s.2) (s.2*y.2) hd2
  have p2:=bY (s.1*y.2+y.1*s.2) (s.2*y.2) hd2
  have c2:=cD (s.1*y.2+y.1*s.2) (s.2*y.2) hd2
  rw [ha]
  generalize nrm (s.1*y.2+y.1*s.2) (s.2*y.2)=r at *
  have hx:0<x.2/\Int.gcd x.1 x.2=1:=by
   rcases h1 with ⟨_,a,b⟩ | ⟨z,_⟩
   ·exact ⟨a,b⟩
   ·exact absurd h z
  have hy:=h2.den
  have hsd:=sp.den
  obtain ⟨x1,x2⟩:=x
  obtain ⟨y1,y2⟩:=y
  obtain ⟨s1,s2⟩:=s
  obtain ⟨r1,r2⟩:=r
  simp only at *
  have key:r1*x2=x1*r2:=by
   have hne:s2*y2*y2 ≠ 0:=λz=>by
    have:=Int.mul_pos (Int.mul_pos hsd hy) hy
    omega
   apply Int.eq_of_mul_eq_mul_right hne
   have f1:r1*x2*(s2*y2*y2)=r1*(s2*y2)*(x2*y2):=by ac_rfl
   have f2:x1*r2*(s2*y2*y2)=(x1*y2*s2)*(r2*y2):=by ac_rfl
   rw [f1,e2,f2]
   have f3:(s1*y2+y1*s2)*r2*(x2*y2)=(s1*(x2*y2)+y1*s2*x2)*(r2*y2):=by
    rw [Int.add_mul,Int.add_mul,Int.add_mul]
    have g1:s1*y2*r2*(x2*y2)=s1*(x2*y2)*(r2*y2):=by ac_rfl
    have g2:y1*s2*r2*(x2*y2)=y1*s2*x2*(r2*y2):=by ac_rfl
    rw [g1,g2]
   rw [f3,e1,Int.sub_mul]
   have f4:y1*s2*x2=y1*x2*s2:=by ac_rfl
   rw [f4,show x1*y2*s2-y1*x2*s2+y1*x2*s2=x1*y2*s2 by omega]
  obtain ⟨a,b⟩:=mZ p2 hx.1 c2 hx.2 key
  exact Prod.ext a b
 ·rcases h1 with ⟨z,_⟩ | ⟨_,a,b,c⟩
  ·exact absurd z h
  ·have hs:fI P x y=((x.1-y.1) % P,1):=by unfold fI; rw [if_neg h]
   rw [hs]
   unfold aS
   rw [if_neg h]
   refine Prod.ext ?_ c.symm
   show ((x.1-y.1) % P+y.1) % P=x.1
   rw [Int.emod_add_emod,show x.1-y.1+y.1=x.1 by omega]
   exact Int.emod_eq_of_lt a b
def Sz (k:Nat) (x:Int × Int):Prop:=x.1.natAbs<2 ^ k/\x.2.natAbs<2 ^ k
theorem eI {a b:Int} {i j:Nat} (h1:a.natAbs<2 ^ i) (h2:b.natAbs<2 ^ j):(a*b).natAbs<2 ^ (i+j):=by
 rw [Int.natAbs_mul,Nat.pow_add]
 exact Nat.mul_lt_mul'' h1 h2
theorem sz_add {a b:Int} {k:Nat} (h1:a.natAbs<2 ^ k) (h2:b.natAbs<2 ^ k):(a+b).natAbs<2 ^ (k+1)/\(a-b).natAbs<2 ^ (k+1):=by
 rw [Nat.pow_succ]
 omega
theorem dY {i j:Nat} (h:i<=j):2 ^ i<=2 ^ j:=Nat.pow_le_pow_right (by decide) h
theorem Sz.mono {i j:Nat} {x:Int × Int} (h:Sz i x) (hij:i<=j):Sz j x:=⟨Nat.lt_of_lt_of_le h.1 (dY hij),Nat.lt_of_lt_of_le h.2 (dY hij)⟩
theorem m9 {a b:Int} {k:Nat} (hb:b ≠ 0) (h1:a.natAbs<2 ^ k) (h2:b.natAbs<2 ^ k):Sz k (nrm a b):=⟨Nat.lt_of_le_of_lt (kR a b hb).1 h1,Nat.lt_of_le_of_lt (kR a b hb).2 h2⟩
theorem kF {P a:Int} (h:0<=P) (h0:P ≠ 0) (h9:P<=9973) {k:Nat} (hk:14<=k):Sz k (a % P,1):=by
 have h1:=Int.emod_nonneg a h0
 have h2:=Int.emod_lt_of_pos a (show 0<P by omega)
 have h3:2 ^ 14<=2 ^ k:=dY hk
 exact ⟨by show (a % P).natAbs<2 ^ k; omega,by show (1:Int).natAbs<2 ^ k; omega⟩
theorem dC {P:Int} {x y:Int × Int} {i j:Nat} (hP:0<=P) (h9:P<=9973) (o1:OkN P x) (o2:OkN P y) (h1:Sz i x) (h2:Sz j y) (hi:14<=i):Sz (i+j+1) (aS P x y)/\Sz (i+j+1) (fI P x y)/\Sz (i+j+1) (du P x y):=by
 have d:=bC o1.den o2.den
 have m1:=eI h1.1 h2.2
 have m2:=eI h2.1 h1.2
 rw [Nat.add_comm j i] at m2
 have m3:=eI h1.2 h2.2
 have m4:=eI h1.1 h2.1
 have a:=sz_add m1 m2
 have le:2 ^ (i+j)<=2 ^ (i+j+1):=dY (by omega)
 refine ⟨?_,?_,?_⟩
 ·unfold aS
  split
  ·exact m9 d a.1 (by omega)
  ·exact kF hP ‹_› h9 (by omega)
 ·unfold fI
  split
  ·exact m9 d a.2 (by omega)
  ·exact kF hP ‹_› h9 (by omega)
 ·unfold du
  split
  ·exact m9 d (by omega) (by omega)
  ·exact kF hP ‹_› h9 (by omega)
structure FunD (K:Frag) (x qual:Str) (st:Stmt) (f:Addr) (fd:FuncData):Prop where
 ex:∃ (oc:Value) (od:Option Addr) (dV kV doc pm:Value) (an:Option Addr) (cdv ct:Value) (osl:Array (Option Value)),
  fd=fnOf x qual (aR st) (aM st) (am st) dV kV doc pm an cdv ct/\K.lookup f=some ⟨oc,od,.func fd,osl⟩/\codeIn K cdv qual=true
 kp:keepIn K (.ref f)=true
section
variable {P:Program} {w:World} {K:Frag} {mg:Str->Option Value} {base:Heap}
theorem funD_mk {x qual:Str} {st:Stmt} {f:Addr} {oc:Value} {od an:Option Addr} {osl:Array (Option Value)} {dV kV doc pm cdv ct:Value} (l:K.lookup f=some ⟨oc,od,.func (fnOf x qual (aR st) (aM st) (am st) dV kV doc pm an cdv ct),osl⟩)
  (c:codeIn K cdv qual=true) (k:keepIn K (.ref f)=true):FunD K x qual st f (fnOf x qual (aR st) (aM st) (am st) dV kV doc pm an cdv ct):=⟨⟨oc,od,dV,kV,doc,pm,an,cdv,ct,osl,rfl,l,c⟩,k⟩
end
structure Fly (P:Program) (w:World) (outer:List Env) (H:Hp) (s:Shared) (x:Addr) (cls:Value) (B:Heap) (H':Hp) (s':Shared):Prop where
 os:s'.os=s.os
 bare:AllBare s'.gens
 fly:∃ a0,Heap.FlyingW B outer x cls a0 s'.heap
 keep:∀ b o,s.heap.get? b=some o->H b=none->b ∉ frs outer->B.get? b=some o
 there:∀ b o,s.heap.get? b=some o->b ∉ frs outer->∃ o',B.get? b=some o'
 slot:∀ b o,s.heap.get? b=some o->b ∈ frs outer->∃ sl,s'.heap.get? b=some { o with slots:=sl }
 free:∀ b o,s.heap.get? b=some o->H b=none->H' b=none
 tups:∀ b xs,H b=some (.tup xs)->H' b=some (.tup xs)
 frzs:∀ b o u,H b=some (.frz o u)->H' b=some (.frz o u)
 tbls:∀ b ps,H b=some (.tbl ps)->∃ more,H' b=some (.tbl (ps++more))
 hok:HOk P w H' B
def CXE (P:Program) (w:World):CXT:=λouter H s E e s'=>∃ x cls B H',e=.ref x/\Fly P w outer H s x cls B H' s'/\E cls none H'
theorem dO {X:Cx} {P:Program} {w:World}:dn (CXE P w) X E0:=λ_ _ _ _ _ _ _ ⟨_,_,_,_,_,_,z⟩=>z.elim
section
variable {P:Program} {w:World} {K:Frag} {mg:Str->Option Value} {base:Heap} {N:List Str} {qual:Str} {scope:Scope} {f:Addr} {cd:Value} {A:Around} {outer:List Env} {s₀ s:Shared} {H₀ H:Hp} {E:XK} {pins:List (Addr × Obj)} {σ:St}
theorem xe_raise {h':Heap} {e:Addr} {cls:Value} {args:List Value} (I:Inv (dw (CXE P w) P w K mg base N qual scope f cd A outer s₀ H₀ E) pins σ H s) (hx:Heap.MadeExcOf s.heap h' e cls args) (q:E cls none H) :
  (dw (CXE P w) P w K mg base N qual scope f cd A outer s₀ H₀ E).xe (.ref e) { s with heap:=h' }:=by
 show wpAny (model P w) (A.deeper (envOfC qual scope s₀.heap.objs.size f cd)) (leaving (envOfC qual scope s₀.heap.objs.size f cd) (.ref e)) (λ_ s''=>CXE P w outer H₀ s₀ E (.ref e) s'') (λe' s''=>CXE P w outer H₀ s₀ E e' s'') { s with heap:=h' }
 have hst:s.heap.FunFrames base (envOfC qual scope s₀.heap.objs.size f cd::outer):=I.stack
 have noEx:∀ b:Addr,b ∉ (dw (CXE P w) P w K mg base N qual scope f cd A outer s₀ H₀ E).ex:=λb z=>absurd (show b ∈ ([]:List Addr) from z) (by simp)
 have nL:∀ b o,s₀.heap.get? b=some o->b ∉ frs outer->b ∉ frs (envOfC qual scope s₀.heap.objs.size f cd::outer):=λb o e1 hb hm=>by
  rcases List.mem_cons.mp (I.stkSub b hm) with z | z
  ·have hlt:=lt_size e1
   rw [show b=s₀.heap.objs.size from z] at hlt
   exact absurd hlt (Nat.lt_irrefl _)
  ·exact hb z
 refine wpAny_leaves_madeW (base:=PySem.W.hideAll s.heap (frs (envOfC qual scope s₀.heap.objs.size f cd::outer))) (h:=s.heap) I.ok.frames rfl (λb o z=>PySem.W.of_hideAll _ z)
  (PySem.W.funFrames_hide hst λenv he a ha=>List.mem_filterMap.mpr ⟨env,he,ha⟩) hx λh'' t fl _ _ up=>?_
 refine ⟨e,cls,_,H,rfl,⟨I.os,I.bare,⟨_,fl⟩,λb o e1 n hb=>?_,λb o e1 hb=>?_,λb o e1 hb=>?_,λb o e1 n=>I.base.free b o e1 n (noEx b),I.base.tups,I.base.frzs,I.base.tbls,λa ob ea=>?_⟩,q⟩
 ·exact hideAll_get _ (I.base.keep b o e1 n hb (noEx b)) (nL b o e1 hb)
 ·obtain ⟨o',e2⟩:=I.base.there b o e1 (noEx b)
  exact ⟨o',hideAll_get _ e2 (nL b o e1 hb)⟩
 ·obtain ⟨sl,e2⟩:=I.base.slot b o e1 (I.ok.frf b hb) hb (noEx b)
  obtain ⟨_,o3,e3,hd⟩:=I.ok.funs.mem hb
  have e1':(dw (CXE P w) P w K mg base N qual scope f cd A outer s₀ H₀ E).s₀.heap.get? b=some o:=e1
  rw [e1'] at e3
  cases e3
  obtain ⟨sl2,e4⟩:=up b _ (hx.keeps b _ e2) hd
  exact ⟨sl2,e4⟩
 ·refine (I.hok a ob ea).stay (λb u hb e2=>hideAll_get _ e2 λhm=>?_) (λ_ z=>z) λ_ _ z=>z
  have hn:=I.stkFree b hm
  rcases hb with z | z
  ·rw [z,ea] at hn; cases hn
  ·rw [z] at hn; cases hn
theorem passes_on:dn (CXE P w) (dw (CXE P w) P w K mg base N qual scope f cd A outer s₀ H₀ E) E:=by
 intro pins σ H s e s' I hx
 obtain ⟨x,cls,B,H',rfl,F,q⟩:=hx
 show wpAny (model P w) (A.deeper (envOfC qual scope s₀.heap.objs.size f cd)) (leaving (envOfC qual scope s₀.heap.objs.size f cd) (.ref x)) (λ_ s''=>CXE P w outer H₀ s₀ E (.ref x) s'') (λe' s''=>CXE P w outer H₀ s₀ E e' s'') s'
 have noEx:∀ b:Addr,b ∉ (dw (CXE P w) P w K mg base N qual scope f cd A outer s₀ H₀ E).ex:=λb z=>absurd (show b ∈ ([]:List Addr) from z) (by simp)
 have nL:∀ b o,s₀.heap.get? b=some o->b ∉ frs outer->b ∉ frs (envOfC qual scope s₀.heap.objs.size f cd::outer):=λb o e1 hb hm=>by
  rcases List.mem_cons.mp (I.stkSub b hm) with z | z
  ·have hlt:=lt_size e1
   rw [show b=s₀.heap.objs.size from z] at hlt
   exact absurd hlt (Nat.lt_irrefl _)
  ·exact hb z
 obtain ⟨a0,fl⟩:=F.fly
 refine wpAny_leaves_onW (base:=B) I.ok.frames rfl fl λh'' fl2 up=>?_
 refine ⟨x,cls,B,H',rfl,⟨F.os.trans I.os,F.bare,⟨_,fl2⟩,λb o e1 n hb=>?_,λb o e1 hb=>?_,λb o e1 hb=>?_,λb o e1 n=>?_,λb xs e1=>F.tups b xs (I.base.tups b xs e1),λb o u e1=>F.frzs b o u (I.base.frzs b o u e1),λb ps e1=>?_,F.hok⟩,q⟩
 ·exact F.keep b o (I.base.keep b o e1 n hb (noEx b)) (I.base.free b o e1 n (noEx b)) (nL b o e1 hb)
 ·obtain ⟨o',e2⟩:=I.base.there b o e1 (noEx b)
  exact F.there b o' e2 (nL b o e1 hb)
 ·obtain ⟨sl,e2⟩:=I.base.slot b o e1 (I.ok.frf b hb) hb (noEx b)
  obtain ⟨_,o3,e3,hd⟩:=I.ok.funs.mem hb
  have e1':(dw (CXE P w) P w K mg base N qual scope f cd A outer s₀ H₀ E).s₀.heap.get? b=some o:=e1
  rw [e1'] at e3
  cases e3
  have hb':b ∈ frs (envOfC qual scope s₀.heap.objs.size f cd::outer):=by
   obtain ⟨env,he,hf⟩:=List.mem_filterMap.mp hb
   exact List.mem_filterMap.mpr ⟨env,mem_cons_of_mem _ he,hf⟩
  obtain ⟨sl2,e4⟩:=F.slot b _ e2 hb'
  obtain ⟨sl3,e5⟩:=up b _ e4 hd
  exact ⟨sl3,e5⟩
 ·obtain ⟨o',e2⟩:=I.base.there b o e1 (noEx b)
  exact F.free b o' e2 (I.base.free b o e1 n (noEx b))
 ·obtain ⟨m1,e2⟩:=I.base.tbls b ps e1
  obtain ⟨m2,e3⟩:=F.tbls b _ e2
  exact ⟨m1++m2,by rw [e3,Array.append_assoc]⟩
end
abbrev lf:List Value:=[.type "ValueError",.type "Exception",.type "BaseException",.type "object"]
abbrev ExcK (K:Frag) (C:Addr):Prop:=excIn K C lf "ValueError.__new__"=true
theorem exc_obj {K:Frag} {h:Heap} {C:Addr} (X:K.In h) (q:ExcK K C):∃ bm N nm qn bs hdct sn sub ab col dd k0 k1 k2 k3 k5 mN,
  h.get? C=some (excClassObj nm qn C N bs bm hdct sn sub ab col dd k0 k1 k2 k3 k5 "ValueError.__new__")/\h.Ns N mN/\mN "__init__" = none/\OwnTail h lf bm:=by
 have q':=q
 unfold ExcK excIn at q'
 cases hl:K.lookup C with
 | none=>rw [hl] at q'; cases q'
 | some ob=>
  rw [hl] at q'
  obtain ⟨oc,od,oda,osl⟩:=ob
  split at q'
  ·rename_i dz cz sz heq
   cases heq
   split at q'
   ·rename_i Cz bz z0 z1 z2 z3 nz z5 hm hs
    rw [Bool.and_eq_true,Bool.and_eq_true,Bool.and_eq_true,Bool.and_eq_true,Bool.and_eq_true] at q'
    obtain ⟨⟨⟨⟨⟨w1,w2⟩,w3⟩,w4⟩,w5⟩,w6⟩:=q'
    obtain ⟨c1,c2,c3,c4,c5,c6,c7,c8,c9,c10,c11⟩:=cz
    have e1:=beq_iff_eq.mp w1
    have e2:=beq_iff_eq.mp w2
    have e6:=beq_iff_eq.mp w6
    have e3:c11=false:=by simpa using w3
    have em:c3=.ref Cz::bz:=hm
    subst e1 e2 e3 em
    have es:osl = #[z0,z1,z2,z3,some (.builtin "ValueError.__new__"),z5]:=by
     cases osl
     simp only at hs
     rw [hs]
    subst es
    exact ⟨bz,_,_,_,_,_,_,_,_,_,_,_,_,_,_,_,_,X _ _ hl,.of_isNs (PySem.W.isNs_of_in X w5),PySem.W.nsMap_none_of_in X w5 e6,PySem.W.tail_of_in X w4⟩
   ·cases q'
  ·cases q'
def tRaise (E:XK) (C:Addr) (t:TA):TS:=λ_ σ H=>t σ H λvs H1=>vs.length<=sizeLine/\E (.ref C) none H1
section
variable {P:Program} {w:World} {K:Frag} {mg:Str->Option Value} {base:Heap} {N:List Str} {qual:Str} {scope:Scope} {f:Addr} {cd:Value} {A:Around} {outer:List Env} {s₀:Shared} {H₀:Hp} {E:XK}
theorem kM {C:Addr} {x:Str} {np cpos pos:Pos} {e₀:Expr} {es:List Expr} {t:TA} (hC:ExcK K C) (hm:mg x=some (.ref C)) (ha:PA (dw (CXE P w) P w K mg base N qual scope f cd A outer s₀ H₀ E) (e₀::es) t)
  (hg:Gl (dw (CXE P w) P w K mg base N qual scope f cd A outer s₀ H₀ E) x:=by rfl) (hd:(x == ("__debug__" : Str))=false:=by decide)
  (he:starEach (e₀::es) (dw (CXE P w) P w K mg base N qual scope f cd A outer s₀ H₀ E).env=(false,eval e₀ (dw (CXE P w) P w K mg base N qual scope f cd A outer s₀ H₀ E).env)::starEach es (dw (CXE P w) P w K mg base N qual scope f cd A outer s₀ H₀ E).env:=by rfl)
  (hpl:(backTo cpos (starEach es (dw (CXE P w) P w K mg base N qual scope f cd A outer s₀ H₀ E).env)).any (·.1)=false:=by rfl) :
  PS (dw (CXE P w) P w K mg base N qual scope f cd A outer s₀ H₀ E) (.Raise (some (.Call (.Name x np) (e₀::es) [] cpos)) none pos) (tRaise E C t):=by
 intro pins s σ H D I h
 obtain ⟨bm,Nn,nm,qn,bs,hdct,sn,sub,ab,col,dd,k0,k1,k2,k3,k5,mN,hCo,hN,hni,T⟩:=exc_obj I.mod.kin hC
 have any0:(backTo cpos (starEach (e₀::es) (dw (CXE P w) P w K mg base N qual scope f cd A outer s₀ H₀ E).env)).any (·.1)=false:=by
  rw [he]
  show (false || (backTo cpos (starEach es _)).any (·.1))=false
  rw [hpl]; rfl
 refine wpAny_Raise_call_subU (C:=C) (nm:=nm) (q:=qn) (N:=Nn) (bs:=bs) (bm:=bm) (hdct:=hdct) (sn:=sn) (sub:=sub) (ab:=ab) (col:=col) (dd:=dd) (k0:=k0) (k1:=k1) (k2:=k2) (k3:=k3) (k5:=k5)
  PySem.F.excBase_ValueError (bmB:=lf) (by decide +kernel) PySem.F.excBase_ValueError (mN:=mN) (T.hasType PySem.F.excBase_ValueError.hasBase) (I.ok.hd rfl) any0 hni (iX I hg hm ⟨rfl,?_⟩ hd)
 have a1:=ha cpos pins s σ H _ I h
 rw [he] at a1 ⊢
 refine Calls.evalArgs_plain (wpAny_mono a1 (λus s2 z=>?_) λ_ _ z=>z)
 obtain ⟨vs,H2,I2,r,hlen,q⟩:=z
 exact ⟨rfl,by rw [<- r.length]; exact hlen,I2.bk _ _ hCo,hN.keeps I2.bk,T.keeps I2.bk,λh' e mk=>xe_raise I2 mk q⟩
end
section
variable {P:Program} {w:World} {K:Frag} {mg:Str->Option Value} {base:Heap}
theorem Fun.okX {x qual:Str} {st:Stmt} {f:Addr} {fd:FuncData} {N ps:List Str} {k:Nat} {sp:Sp} (F:Fun K x qual st f fd) (S:oW N ps (am st)) (len:∀ vs H Q E,sp vs H Q E->vs.length=ps.length)
  (hbody:∀ (cdv:Value) (A:Around) (outer:List Env) (s:Shared) (H:Hp) (vs:List V) (Q:VK) (E:XK),ph k (A.deeper (envOfC qual (am st) s.heap.objs.size f cdv))->sp vs H Q E->
   ∃ t,PSs (dw (CXE P w) P w K mg base N qual (am st) f cdv A outer s H E) (aM st) t/\t { nx:=λ_ H'=>Q .non H',rt:=Q } (fU N vs) H):oY P w K mg base (CXE P w) (k+1) f fd ps sp:=by
 obtain ⟨oc,od,kV,doc,pm,an,cdv,ct,osl,rfl,lk,hcd⟩:=F.ex
 exact fn_of lk hcd S len λA outer s H vs Q E hr hsp=>hbody cdv A outer s H vs Q E hr hsp
theorem FunD.okX {x qual:Str} {st:Stmt} {f:Addr} {fd:FuncData} {N ps:List Str} {k:Nat} {sp:Sp} (F:FunD K x qual st f fd) (S:oW N ps (am st)) (len:∀ vs H Q E,sp vs H Q E->vs.length=ps.length)
  (hbody:∀ (cdv:Value) (A:Around) (outer:List Env) (s:Shared) (H:Hp) (vs:List V) (Q:VK) (E:XK),ph k (A.deeper (envOfC qual (am st) s.heap.objs.size f cdv))->sp vs H Q E->
   ∃ t,PSs (dw (CXE P w) P w K mg base N qual (am st) f cdv A outer s H E) (aM st) t/\t { nx:=λ_ H'=>Q .non H',rt:=Q } (fU N vs) H):oY P w K mg base (CXE P w) (k+1) f fd ps sp:=by
 obtain ⟨oc,od,dV,kV,doc,pm,an,cdv,ct,osl,rfl,lk,hcd⟩:=F.ex
 exact fn_of lk hcd S len λA outer s H vs Q E hr hsp=>hbody cdv A outer s H vs Q E hr hsp
end
structure FnBX (P:Program) (w:World) (K:Frag) (mg:Str->Option Value) (base:Heap) (k:Nat) (x:Str) (sp:Sp):Prop where
 ex:∃ f fd ps,oY P w K mg base (CXE P w) k f fd ps sp/\mg x=some (.ref f)/\keepIn K (.ref f)=true/\pK K fd ps []
structure gZ (P:Program) (w:World) (K:Frag) (mg:Str->Option Value) (base:Heap) (k:Nat) (C:Addr) (m:Str) (dvs:List V) (sp:Sp):Prop where
 ex:∃ f fd ps ds,oY P w K mg base (CXE P w) k f fd ps sp/\fN K C m f/\pK K fd ps ds/\o0 dvs ds
 cl:Cls K C
structure MkBX (P:Program) (w:World) (K:Frag) (mg:Str->Option Value) (base:Heap) (k:Nat) (C:Addr) (x:Str) (sp:Sp):Prop where
 ex:∃ f fd ps,oY P w K mg base (CXE P w) k f fd ps sp/\Mk K C f/\pK K fd ps []
 at_:mg x=some (.ref C)
section
variable {X:Cx} {C:Addr} {x m:Str} {k:Nat} {sp:Sp} {dvs:List V} {p pos apos:Pos} {e o:Expr} {es:List Expr} {te ta:TE} {t:TA} {E:XK}
theorem pe_fnX (F:FnBX X.prog X.w X.K X.mg X.base k x sp) (hr:ph k X.A) (hx:dn (CXE X.prog X.w) X E) (ha:PA X (e::es) t) (hg:Gl X x:=by rfl) (hdb:(x == ("__debug__" : Str))=false:=by decide)
  (he:starEach (e::es) X.env=(false,eval e X.env)::starEach es X.env:=by rfl) (hpl:(backTo pos (starEach es X.env)).any (·.1)=false:=by rfl) :
  PE X (.Call (.Name x p) (e::es) [] pos) (tCall sp [] E t):=by
 obtain ⟨f,fd,ps,F,hm,hk,hb⟩:=F.ex
 exact pe_call F hr hg hm hk hb .nil hx ha hdb he hpl
theorem eE {pl:Sem Bool} (M:gZ X.prog X.w X.K X.mg X.base k C m dvs sp) (hr:ph k X.A) (hx:dn (CXE X.prog X.w) X E) (he:PE X o ta) (ha:PA X (e::es) t)
  (hst:starEach (e::es) X.env=(false,eval e X.env)::starEach es X.env:=by rfl) (hpl:(backTo pos (starEach es X.env)).any (·.1)=false:=by rfl)
  (ht:eval (.Call (.Attribute o m apos) (e::es) [] pos) X.env=(do
   let ov <- eval o X.env
   standAt apos.atName
   let (f,first) <- holding [ov] (getMethod ov m pl)
   callWith pos f first (backTo pos (starEach (e::es) X.env)) (backToKw pos (keywordEach [] X.env))):=by rfl) :
  PE X (.Call (.Attribute o m apos) (e::es) [] pos) (fT C m sp dvs E ta t):=by
 obtain ⟨f,fd,ps,ds,F,hm,hb,hv⟩:=M.ex
 exact pe_meth he M.cl hm F hr hb hv hx ha hst hpl ht
theorem pe_mkX (M:MkBX X.prog X.w X.K X.mg X.base k C x sp) (hr:ph (k+1) X.A) (hx:dn (CXE X.prog X.w) X E) (ha:PA X (e::es) t) (hg:Gl X x:=by rfl) (hdb:(x == ("__debug__" : Str))=false:=by decide)
  (he:starEach (e::es) X.env=(false,eval e X.env)::starEach es X.env:=by rfl) (hpl:(backTo pos (starEach es X.env)).any (·.1)=false:=by rfl) :
  PE X (.Call (.Name x p) (e::es) [] pos) (tMake C sp [] E t):=by
 obtain ⟨f,fd,ps,F,hm,hb⟩:=M.ex
 exact pe_make hm F hr hg M.at_ hb .nil hx ha hdb he hpl
end
section
variable {X:Cx} {C:Addr} {x m:Str} {k:Nat} {sp:Sp} {dvs:List V} {ds:List Value} {p pos apos:Pos} {e o:Expr} {es:List Expr} {te ta:TE} {t:TA} {E:XK} {f:Addr} {fd:FuncData} {ps:List Str}
end
section
variable {X:Cx} {pins:List (Addr × Obj)} {σ:St} {H H1 H':Hp} {s s1 s':Shared} {x C:Addr} {cls:Value} {B h:Heap}
end
structure XCl (K:Frag) (D:Addr):Prop where
 ek:ExcK K D
 ga:findIn K (.ref D) "__getattribute__"=some (some (.builtin "BaseException.__getattribute__"))
 gt:findIn K (.ref D) "__getattr__"=some none
 ca:findIn K (.ref D) "__class__"=some (some (.builtin "object.__class__"))
 mo:mroIn K D (.type "object")=some true
 mb:mroIn K D (.type "BaseException")=some true
 dg:specialIn K (.builtin "object.__class__") "__get__"=some (some (.builtin "getset_descriptor.__get__"))
 dt:takesIn K (.builtin "object.__class__")=some true
section
variable {prog:Program} {w:World} {A:Around} {E:Value->Shared->Prop} {s:Shared} {K:Frag} {x D:Addr}
end
theorem two_of {us:List Value} {d:Value} (h:(us++[d]).length=3):∃ a b,us=[a,b]:=by
 rw [length_append,length_singleton] at h
 match us,h with
 | [a,b],_=>exact ⟨a,b,rfl⟩
section
variable {X:Cx} {C:Addr} {x m:Str} {k:Nat} {sp:Sp} {p pos apos:Pos} {e o:Expr} {es:List Expr} {te ta:TE} {t:TA}
theorem fG {pl:Sem Bool} (M:MtB X.prog X.w X.K X.mg X.base k C m sp) (hr:ph k X.A) (he:PE X o ta)
  (ht:eval (.Call (.Attribute o m apos) [] [] pos) X.env=(do
   let ov <- eval o X.env
   standAt apos.atName
   let (f,first) <- holding [ov] (getMethod ov m pl)
   callWith pos f first (backTo pos (starEach [] X.env)) (backToKw pos (keywordEach [] X.env))):=by rfl) :
  PE X (.Call (.Attribute o m apos) [] [] pos) (fT C m sp [] E0 ta eT):=by
 obtain ⟨f,fd,ps,F,hm,hb⟩:=M.ex
 exact pe_meth0 he M.cl hm F hr hb .nil pass0 ht
end
section
variable {P:Program} {w:World} {K:Frag} {mg:Str->Option Value} {base:Heap}
end
end L2
namespace L2
open PySem PySem.Spec PyProof.Rows PySem.W
def ev {α:Type} (c:Nat->Nat->Bool):KasT α->α
 | .ret a=>a
 | .ask i j k=>ev c (k (c i j))
theorem gz {α β:Type} {c:Nat->Nat->Bool} {f:α->KasT β}:∀ t:KasT α,ev c (t.bind f)=ev c (f (ev c t))
 | .ret _=>rfl
 | .ask i j k=>gz (k (c i j))
structure Tot (n:Nat) (c:Nat->Nat->Bool):Prop where
 tr:∀ i j k,i<n->j<n->k<n->c i j=true->c j k=true->c i k=true
 to:∀ i j,i<n->j<n->i ≠ j->c i j=false->c j i=true
def Pm (n:Nat) (p:Array Nat):Prop:=p.toList.Perm (List.range n)
section
variable {n:Nat} {c:Nat->Nat->Bool} {p:Array Nat}
theorem Pm.sz (h:Pm n p):p.size=n:=by
 have:=h.length_eq
 rw [length_range] at this
 rw [<- this]; rfl
theorem gd_at {i:Nat} (hi:i<p.size):p.getD i 0=p[i]:=by simp [Array.getD,hi]
theorem gd_q (p:Array Nat) (i:Nat):p.getD i 0=(p[i]?).getD 0:=by simp [Array.getD_eq_getD_getElem?]
theorem Pm.lt (h:Pm n p) {i:Nat} (hi:i<n):p.getD i 0<n:=by
 have hs:=h.sz
 rw [gd_at (by omega)]
 exact List.mem_range.mp (h.mem_iff.mp (by rw [Array.mem_toList_iff]; exact Array.getElem_mem _))
theorem Pm.inj (h:Pm n p) {i j:Nat} (hi:i<n) (hj:j<n) (hne:i ≠ j):p.getD i 0 ≠ p.getD j 0:=by
 have hs:=h.sz
 have nd:p.toList.Nodup:=h.nodup_iff.mpr List.nodup_range
 intro z
 rw [gd_at (by omega),gd_at (by omega)] at z
 exact hne ((getElem_inj (h₀:=by rw [Array.length_toList]; omega) (h₁:=by rw [Array.length_toList]; omega) nd).mp (by rw [Array.getElem_toList,Array.getElem_toList]; exact z))
theorem Pm.of {q:Array Nat} (h:Pm n p) (e:q.Perm p):Pm n q:=(Array.perm_iff_toList_perm.mp e).trans h
def So (c:Nat->Nat->Bool) (p:Array Nat) (k:Nat):Prop:=∀ i j,i<j->j<k->c (p.getD i 0) (p.getD j 0)=true
def De (c:Nat->Nat->Bool) (p:Array Nat) (k:Nat):Prop:=∀ i j,i<j->j<k->c (p.getD j 0) (p.getD i 0)=true
theorem Tot.other (T:Tot n c) (hp:Pm n p) {i j:Nat} (hi:i<n) (hj:j<n) (hne:i ≠ j) (h:¬ c (p.getD i 0) (p.getD j 0)=true):c (p.getD j 0) (p.getD i 0)=true:=
 T.to _ _ (hp.lt hi) (hp.lt hj) (hp.inj hi hj hne) (by simpa using h)
theorem Tot.trp (T:Tot n c) (hp:Pm n p) {i j k:Nat} (hi:i<n) (hj:j<n) (hk:k<n) (h1:c (p.getD i 0) (p.getD j 0)=true) (h2:c (p.getD j 0) (p.getD k 0)=true):c (p.getD i 0) (p.getD k 0)=true:=
 T.tr _ _ _ (hp.lt hi) (hp.lt hj) (hp.lt hk) h1 h2
theorem So.step (T:Tot n c) (hp:Pm n p) {m:Nat} (h1:1<=m) (hm:m<n) (hs:So c p m) (h:c (p.getD (m-1) 0) (p.getD m 0)=true):So c p (m+1):=λi j hij hj=>by
 by_cases e:j=m
 ·subst e
  by_cases e2:i=j-1
  ·rw [e2]; exact h
  ·exact T.trp hp (by omega) (by omega) hm (hs i (j-1) (by omega) (by omega)) h
 ·exact hs i j hij (by omega)
theorem De.step (T:Tot n c) (hp:Pm n p) {m:Nat} (h1:1<=m) (hm:m<n) (hs:De c p m) (h:c (p.getD m 0) (p.getD (m-1) 0)=true):De c p (m+1):=λi j hij hj=>by
 by_cases e:j=m
 ·subst e
  by_cases e2:i=j-1
  ·rw [e2]; exact h
  ·exact T.trp hp hm (by omega) (by omega) h (hs i (j-1) (by omega) (by omega))
 ·exact hs i j hij (by omega)
theorem ev_asc (T:Tot n c) (hp:Pm n p):∀ f m,1<=m->m+f<=n->So c p m->m<=ev c (kas_asc p f m)/\ev c (kas_asc p f m)<=m+f/\So c p (ev c (kas_asc p f m))/\(ev c (kas_asc p f m)<m+f->c (p.getD (ev c (kas_asc p f m)) 0) (p.getD (ev c (kas_asc p f m)-1) 0)=true)
 | 0,m,_,_,hs=>⟨Nat.le_refl _,Nat.le_refl _,hs,λh=>absurd h (Nat.lt_irrefl _)⟩
 | f+1,m,h1,h2,hs=>by
  by_cases hc:c (p.getD m 0) (p.getD (m-1) 0)=true
  ·have e:ev c (kas_asc p (f+1) m)=m:=by
    show ev c (if c (p.getD m 0) (p.getD (m-1) 0)=true then .ret m else kas_asc p f (m+1))=m
    rw [if_pos hc]; rfl
   rw [e]
   exact ⟨Nat.le_refl _,by omega,hs,λ_=>hc⟩
  ·have e:ev c (kas_asc p (f+1) m)=ev c (kas_asc p f (m+1)):=by
    show ev c (if c (p.getD m 0) (p.getD (m-1) 0)=true then .ret m else kas_asc p f (m+1))=_
    rw [if_neg hc]
   rw [e]
   obtain ⟨a,b,d,g⟩:=ev_asc T hp f (m+1) (by omega) (by omega) (hs.step T hp h1 (by omega) (T.other hp (by omega) (by omega) (by omega) hc))
   exact ⟨by omega,by omega,d,λh=>g (by omega)⟩
theorem ev_desc (T:Tot n c) (hp:Pm n p):∀ f m,1<=m->m+f<=n->De c p m->∃ r,ev c (kas_desc f p m 0)=(p,r,0)/\m<=r/\r<=m+f/\De c p r
 | 0,m,_,_,hs=>⟨m,rfl,Nat.le_refl _,Nat.le_refl _,hs⟩
 | f+1,m,h1,h2,hs=>by
  by_cases hc:c (p.getD m 0) (p.getD (m-1) 0)=true
  ·obtain ⟨r,e,a,b,d⟩:=ev_desc T hp f (m+1) (by omega) (by omega) (hs.step T hp h1 (by omega) hc)
   refine ⟨r,?_,by omega,by omega,d⟩
   rw [<- e]
   show ev c (if c (p.getD m 0) (p.getD (m-1) 0)=true then (if 0 > 0 then kas_desc f (kas_rev p (m-(0+1)) m) (m+1) 0 else kas_desc f p (m+1) 0) else _)=_
   rw [if_pos hc,if_neg (by decide)]
  ·refine ⟨m,?_,Nat.le_refl _,by omega,hs⟩
   have ho:=T.other hp (show m<n by omega) (show m-1<n by omega) (by omega) hc
   show ev c (if c (p.getD m 0) (p.getD (m-1) 0)=true then _ else .ask (p.getD (m-1) 0) (p.getD m 0) λd=>if d=true then .ret (p,m,0) else kas_desc f p (m+1) (0+1))=_
   rw [if_neg hc]
   show ev c (if c (p.getD (m-1) 0) (p.getD m 0)=true then .ret (p,m,0) else kas_desc f p (m+1) (0+1))=_
   rw [if_pos ho]
   rfl
theorem gd_rev {j:Nat} (hj:j<=p.size) (k:Nat):(kas_rev p 0 j).getD k 0=if k<j then p.getD (j-1-k) 0 else p.getD k 0:=by
 rw [gd_q]
 unfold kas_rev
 rw [getElem?_mirror_all hj]
 by_cases h:k<j
 ·rw [if_pos ⟨Nat.zero_le _,h⟩,if_pos h,gd_q,Nat.zero_add]
 ·rw [if_neg (λz=>h z.2),if_neg h,gd_q]
theorem rev_pm (hp:Pm n p) (j:Nat):Pm n (kas_rev p 0 j):=hp.of (mirror_perm _ _ _ _)
theorem De.rev {k:Nat} (hk:k<=p.size) (h:De c p k):So c (kas_rev p 0 k) k:=λi j hij hj=>by
 rw [gd_rev hk,gd_rev hk,if_pos (by omega),if_pos hj]
 exact h (k-1-j) (k-1-i) (by omega) (by omega)
theorem ev_count (T:Tot n c) (hp:Pm n p) (hn:1<=n):∃ m q,ev c (kas_count n p)=(m,q)/\1<=m/\m<=n/\Pm n q/\So c q m:=by
 have s1:So c p 1:=λi j hij hj=>by omega
 obtain ⟨a,b,d,g⟩:=ev_asc T hp (n-1) 1 (Nat.le_refl _) (by omega) s1
 unfold kas_count
 rw [gz]
 generalize ev c (kas_asc p (n-1) 1)=r at *
 by_cases h1:(r == n)=true
 ·rw [if_pos h1]
  exact ⟨r,p,rfl,a,by omega,hp,d⟩
 ·rw [if_neg h1]
  have hr:r ≠ n:=by simpa using h1
  by_cases h2:r > 1
  ·rw [if_pos h2]
   show ∃ m q,ev c (if c (p.getD 0 0) (p.getD (r-1) 0)=true then .ret (r,p) else _)=(m,q)/\_
   rw [if_pos (d 0 (r-1) (by omega) (by omega))]
   exact ⟨r,p,rfl,a,by omega,hp,d⟩
  ·rw [if_neg h2]
   have r1:r=1:=by omega
   subst r1
   have d1:De c p 2:=λi j hij hj=>by
    have:i=0/\j=1:=by omega
    rw [this.1,this.2]
    exact g (by omega)
   unfold kas_descPart
   rw [gz]
   obtain ⟨k,e,ka,kb,kd⟩:=ev_desc T hp (n-(1+1)) (1+1) (by decide) (by omega) d1
   rw [e]
   show ∃ m q,ev c (if 0 > 0 then _ else kas_tail3 k n p)=(m,q)/\_
   rw [if_neg (by decide)]
   unfold kas_tail3
   rw [gz]
   have hq:=rev_pm hp k
   have sq:=De.rev (by rw [hp.sz]; omega) kd
   obtain ⟨a',b',d',_⟩:=ev_asc T hq (n-k) k (by omega) (by omega) sq
   exact ⟨_,_,rfl,by omega,by omega,hq,d'⟩
theorem ku (T:Tot n c) (hp:Pm n p) {k:Nat} (hk:k<n) (hs:So c p k):∀ f l r,r<=l+f->l<=r->r<=k->(∀ i,i<l->c (p.getD i 0) (p.getD k 0)=true)->(∀ i,r<=i->i<k->c (p.getD k 0) (p.getD i 0)=true)->
  ev c (kas_place p k f l r)<=k/\(∀ i,i<ev c (kas_place p k f l r)->c (p.getD i 0) (p.getD k 0)=true)/\(∀ i,ev c (kas_place p k f l r)<=i->i<k->c (p.getD k 0) (p.getD i 0)=true)
 | 0,l,r,h1,h2,h3,lo,hi=>⟨by show l<=k; omega,lo,λi hl hik=>hi i (by have:l<=i:=hl; omega) hik⟩
 | f+1,l,r,h1,h2,h3,lo,hi=>by
  by_cases hlr:l ≥ r
  ·have e:ev c (kas_place p k (f+1) l r)=l:=by
    show ev c (if l ≥ r then .ret l else _)=l
    rw [if_pos hlr]; rfl
   rw [e]
   exact ⟨by omega,lo,λi hl hik=>hi i (by omega) hik⟩
  ·have e:ev c (kas_place p k (f+1) l r)=ev c (if c (p.getD k 0) (p.getD ((l+r) / 2) 0)=true then kas_place p k f l ((l+r) / 2) else kas_place p k f ((l+r) / 2+1) r):=by
    show ev c (if l ≥ r then .ret l else .ask (p.getD k 0) (p.getD ((l+r) / 2) 0) λd=>if d=true then kas_place p k f l ((l+r) / 2) else kas_place p k f ((l+r) / 2+1) r)=_
    rw [if_neg hlr]; rfl
   rw [e]
   by_cases hc:c (p.getD k 0) (p.getD ((l+r) / 2) 0)=true
   ·rw [if_pos hc]
    refine ku T hp hk hs f l ((l+r) / 2) (by omega) (by omega) (by omega) lo λi hi1 hi2=>?_
    by_cases ei:i=(l+r) / 2
    ·rw [ei]; exact hc
    ·exact T.trp hp hk (by omega) (by omega) hc (hs _ i (by omega) hi2)
   ·rw [if_neg hc]
    have ho:=T.other hp hk (show (l+r) / 2<n by omega) (by omega) hc
    refine ku T hp hk hs f ((l+r) / 2+1) r (by omega) (by omega) h3 (λi hi1=>?_) hi
    by_cases ei:i=(l+r) / 2
    ·rw [ei]; exact ho
    ·exact T.trp hp (by omega) (by omega) hk (hs i _ (by omega) (by omega)) ho
theorem mF {k d:Nat} (hk:k<p.size) (hd:d<=k) (x:Nat):(bubble p k d).getD x 0=if x=k-d then p.getD k 0 else if k-d<x/\x<=k then p.getD (x-1) 0 else p.getD x 0:=by
 rw [gd_q,getElem?_bubble hk d hd]
 by_cases h:x=k-d
 ·rw [if_pos h,if_pos h,gd_q]
 ·rw [if_neg h,if_neg h]
  by_cases h2:k-d<x/\x<=k
  ·rw [if_pos h2,if_pos h2,gd_q]
  ·rw [if_neg h2,if_neg h2,gd_q]
theorem So.put (hp:Pm n p) {k q:Nat} (hk:k<n) (hq:q<=k) (hs:So c p k) (lo:∀ i,i<q->c (p.getD i 0) (p.getD k 0)=true) (hi:∀ i,q<=i->i<k->c (p.getD k 0) (p.getD i 0)=true):So c (bubble p k (k-q)) (k+1):=λi j hij hj=>by
 have hz:=hp.sz
 rw [mF (by omega) (by omega),mF (by omega) (by omega),show k-(k-q)=q by omega]
 by_cases i1:i=q
 ·rw [if_pos i1,if_neg (by omega),if_pos (by omega)]
  exact hi (j-1) (by omega) (by omega)
 ·rw [if_neg i1]
  by_cases i2:q<i/\i<=k
  ·rw [if_pos i2,if_neg (by omega),if_pos (by omega)]
   exact hs _ _ (by omega) (by omega)
  ·rw [if_neg i2]
   by_cases j1:j=q
   ·rw [if_pos j1]
    exact lo i (by omega)
   ·rw [if_neg j1]
    by_cases j2:q<j/\j<=k
    ·rw [if_pos j2]
     exact hs _ _ (by omega) (by omega)
    ·rw [if_neg j2]
     exact hs _ _ hij (by omega)
end
theorem ev_bin {n:Nat} {c:Nat->Nat->Bool} (T:Tot n c):∀ (f:Nat) (p:Array Nat) (k:Nat),Pm n p->k+f=n->So c p k->Pm n (ev c (kas_bin f p k))/\So c (ev c (kas_bin f p k)) n
 | 0,p,k,hp,hk,hs=>⟨hp,by rw [<- show k=n by omega]; exact hs⟩
 | f+1,p,k,hp,hk,hs=>by
  have e:ev c (kas_bin (f+1) p k)=ev c (kas_bin f (bubble p k (k-ev c (kas_place p k k 0 k))) (k+1)):=by
   show ev c ((kas_place p k k 0 k).bind λl=>kas_bin f (bubble p k (k-l)) (k+1))=_
   rw [gz]
  rw [e]
  obtain ⟨a,lo,hi⟩:=ku T hp (show k<n by omega) hs k 0 k (by omega) (by omega) (Nat.le_refl _) (λi h=>absurd h (by omega)) (λi h1 h2=>by omega)
  exact ev_bin T f _ (k+1) (hp.of (bubble_perm _ _ _)) (by omega) (hs.put hp (by omega) a lo hi)
theorem ev_sort {n:Nat} {c:Nat->Nat->Bool} (T:Tot n c) (hn:1<=n):Pm n (ev c (kas_sort n))/\So c (ev c (kas_sort n)) n:=by
 have hp:Pm n (List.toArray (List.range n)):=List.Perm.refl _
 obtain ⟨m,q,e,a,b,hq,hs⟩:=ev_count T hp hn
 unfold kas_sort
 rw [gz,e]
 dsimp only
 by_cases h:m<n
 ·rw [if_pos h]
  exact ev_bin T _ q _ hq (by omega) (by rw [show max m 1=m by omega]; exact hs)
 ·rw [if_neg h]
  exact ⟨hq,by rw [<- show m=n by omega]; exact hs⟩
end L2
namespace L2
open PySem PySem.Spec PyProof.Rows
section
variable {κ:Type} [DecidableEq κ]
def gL (kvs:List (κ × V)) (k:κ):Option V:=(kvs.find? λkv=>decide (kv.1=k)).map (·.2)
def cQ (kvs:List (κ × V)) (k:κ) (v:V):List (κ × V):=
 if (kvs.any λkv=>decide (kv.1=k))=true then kvs.map (λkv=>if kv.1=k then (kv.1,v) else kv) else kvs++[(k,v)]
theorem iO {p:κ × V} {r:List (κ × V)} {k:κ} (e:p.1=k):gL (p::r) k=some p.2:=by simp [gL,find?_cons,e]
theorem iG {p:κ × V} {r:List (κ × V)} {k:κ} (e:¬ p.1=k):gL (p::r) k=gL r k:=by simp [gL,find?_cons,e]
theorem j8 (k:κ):∀ kvs:List (κ × V),(kvs.any λkv=>decide (kv.1=k))=(gL kvs k).isSome
 | []=>rfl
 | p::r=>by
  rw [any_cons]
  by_cases e:p.1=k
  ·simp only [iO e,decide_eq_true e,Bool.true_or,Option.isSome_some]
  ·rw [iG e,decide_eq_false e,Bool.false_or]; exact j8 k r
theorem jD (kvs:List (κ × V)) (k:κ) (v:V):(cQ kvs k v).length<=kvs.length+1:=by
 unfold cQ
 split
 ·rw [length_map]; omega
 ·rw [length_append,length_cons,length_nil]; omega
theorem RelO.isSome_eq {o:Option V} {u:Option Value} (r:RelO o u):o.isSome=u.isSome:=by
 cases o with
 | none=>cases u with
  | none=>rfl
  | some _=>exact (show False from r).elim
 | some _=>cases u with
  | none=>exact (show False from r).elim
  | some _=>rfl
theorem RelO.getD {o:Option V} {u:Option Value} {d:V} {d':Value} (r:RelO o u) (rd:o4 d d'):o4 (o.getD d) (u.getD d'):=by
 cases o with
 | none=>cases u with
  | none=>exact rd
  | some _=>exact (show False from r).elim
 | some _=>cases u with
  | none=>exact (show False from r).elim
  | some _=>exact r
theorem KV.val {kvs:List (κ × V)} {vs:List (κ × Value)} (r:KV kvs vs) (k:κ):RelO (gL kvs k) (valueAt vs k):=by
 unfold KV at r
 induction r with
 | nil=>exact True.intro
 | @cons p q ps qs h t ih=>
  obtain ⟨h1,h2⟩:=h
  by_cases e:p.1=k
  ·have e':q.1=k:=h1.symm.trans e
   have b:valueAt (q::qs) k=some q.2:=by simp [valueAt,find?_cons,e']
   rw [iO e,b]; exact h2
  ·have e':¬ q.1=k:=λz=>e (h1.trans z)
   have b:valueAt (q::qs) k=valueAt qs k:=by simp [valueAt,find?_cons,e']
   rw [iG e,b]; exact ih
theorem KV.any {kvs:List (κ × V)} {vs:List (κ × Value)} (r:KV kvs vs) (k:κ):(kvs.any λkv=>decide (kv.1=k))=vs.any λkv=>decide (kv.1=k):=by
 unfold KV at r
 induction r with
 | nil=>rfl
 | cons h t ih=>rw [any_cons,any_cons,ih,h.1]
theorem KV.repl {kvs:List (κ × V)} {vs:List (κ × Value)} (r:KV kvs vs) (k:κ) {y:V} {u:Value} (ry:o4 y u) :
  KV (kvs.map λkv=>if kv.1=k then (kv.1,y) else kv) (vs.map λkv=>if kv.1=k then (kv.1,u) else kv):=by
 unfold KV at r ⊢
 induction r with
 | nil=>exact .nil
 | @cons p q ps qs h t ih=>
  rw [map_cons,map_cons]
  refine .cons ?_ ih
  obtain ⟨h1,h2⟩:=h
  by_cases e:p.1=k
  ·rw [if_pos e,if_pos (h1.symm.trans e)]; exact ⟨h1,ry⟩
  ·rw [if_neg e,if_neg (λz=>e (h1.trans z))]; exact ⟨h1,h2⟩
theorem KV.put {kvs:List (κ × V)} {vs:List (κ × Value)} (r:KV kvs vs) (k:κ) {y:V} {u:Value} (ry:o4 y u):KV (cQ kvs k y) (stored vs k u):=by
 unfold cQ stored
 rw [r.any k]
 by_cases e:(vs.any λkv=>decide (kv.1=k))=true
 ·rw [if_pos e,if_pos e]; exact r.repl k ry
 ·rw [if_neg e,if_neg e]; exact Paired.snoc r ⟨rfl,ry⟩
theorem KV.length {kvs:List (κ × V)} {vs:List (κ × Value)} (r:KV kvs vs):kvs.length=vs.length:=Paired.length r
end
theorem kV_is {P:Program} {w:World} {k:Key} {u:Value} (r:o4 (kV k) u):(bg P w).is k u=true:=by
 cases k with
 | inl i=>obtain ⟨t,e⟩:=(show ∃ t,u=Value.int i t from r); subst e; exact mixKind_int P w i t
 | inr x=>obtain ⟨t,e⟩:=(show ∃ t,u=Value.str x t from r); subst e; exact mixKind_str P w x t
theorem lW {P:Program} {w:World}:∀ {ks:List Key} {us:List Value},o0 (ks.map kV) us->ItemsAre (bg P w) ks us
 | [],_,r=>by rw [map_nil] at r; cases r; exact .nil
 | k::ks,_,r=>by
  rw [map_cons] at r
  cases r with
  | cons h t=>exact .cons (kV_is h) (lW t)
abbrev KT (H:Hp):List (List Key × V)->List (List Key × Addr × Value)->Prop:=Paired λp q=>p.1=q.1/\H q.2.1=some (.tup (p.1.map kV))/\o4 p.2 q.2.2
theorem KT.val {H:Hp} {kvs:List (List Key × V)} {xs:List (List Key × Addr × Value)} (r:KT H kvs xs) (k:List Key):RelO (gL kvs k) ((atKey xs k).map (·.2)):=by
 induction r with
 | nil=>exact True.intro
 | @cons p q ps qs h t ih=>
  obtain ⟨h1,_,h2⟩:=h
  by_cases e:p.1=k
  ·have e':q.1=k:=h1.symm.trans e
   have b:atKey (q::qs) k=some q.2:=by simp [atKey,find?_cons,e']
   rw [iO e,b]; exact h2
  ·have e':¬ q.1=k:=λz=>e (h1.trans z)
   have b:atKey (q::qs) k=atKey qs k:=by simp [atKey,find?_cons,e']
   rw [iG e,b]; exact ih
theorem KT.repl {H:Hp} {kvs:List (List Key × V)} {xs:List (List Key × Addr × Value)} (r:KT H kvs xs) (k:List Key) {y:V} {u:Value} (ry:o4 y u) :
  KT H (kvs.map λkv=>if kv.1=k then (kv.1,y) else kv) (xs.map (putAt k u)):=by
 induction r with
 | nil=>exact .nil
 | @cons p q ps qs h t ih=>
  rw [map_cons,map_cons]
  refine .cons ?_ ih
  obtain ⟨h1,h2,h3⟩:=h
  unfold putAt
  by_cases e:p.1=k
  ·rw [if_pos e,if_pos (h1.symm.trans e)]; exact ⟨h1,h2,ry⟩
  ·rw [if_neg e,if_neg (λz=>e (h1.trans z))]; exact ⟨h1,h2,h3⟩
theorem KT.put {H:Hp} {kvs:List (List Key × V)} {xs:List (List Key × Addr × Value)} (r:KT H kvs xs) (k:List Key) {b:Addr} {y:V} {u:Value} (hb:H b=some (.tup (k.map kV))) (ry:o4 y u) :
  KT H (cQ kvs k y) (storedH xs k b u):=by
 have e:(kvs.any λkv=>decide (kv.1=k))=(atKey xs k).isSome:=by
  rw [j8,(r.val k).isSome_eq,Option.isSome_map]
 unfold cQ storedH
 rw [e]
 by_cases q:(atKey xs k).isSome=true
 ·rw [if_pos q,if_pos q]; exact r.repl k ry
 ·rw [if_neg q,if_neg q]; exact Paired.snoc r ⟨rfl,hb,ry⟩
theorem KT.keeps {H H':Hp} {kvs:List (List Key × V)} {xs:List (List Key × Addr × Value)} (r:KT H kvs xs) (ht:∀ b ys,H b=some (.tup ys)->H' b=some (.tup ys)):KT H' kvs xs:=
 Paired.mapP r λ_ _ z=>⟨z.1,ht _ _ z.2.1,z.2.2⟩
section
variable {P:Program} {w:World} {H:Hp} {h:Heap} {a:Addr}
theorem rd_of {u:HO} (ok:HOk P w H h) (e:Rd H a u):pd P w H h a u:=e.ok ok
theorem mS {kvs:List (Key × V)} (ok:HOk P w H h) (e:Rd H a (.dK kvs)):kvs.length<=sizeLine/\(a == sysModules)=false/\∃ vs,KV kvs vs/\h.DictOf (bg P w) a vs:=
 show pd P w H h a (.dK kvs) from rd_of ok e
theorem dk_of {kvs:List (Key × V)} (ok:HOk P w H h) (e:H a=some (.dK kvs)):kvs.length<=sizeLine/\(a == sysModules)=false/\∃ vs,KV kvs vs/\h.DictOf (bg P w) a vs:=mS ok (.inl e)
theorem kH {ks:List Key} (ok:HOk P w H h) (e:H a=some (.tup (ks.map kV))):(tupleKind (bg P w)).is h ks a:=by
 obtain ⟨_,its,r,o,h1,h2,n,h3⟩:=(show pd P w H h a (.tup (ks.map kV)) from ok a _ e)
 exact ⟨o,its.toArray,n,h1,h2,h3,by simpa using lW r⟩
theorem mG {kvs:List (List Key × V)} (ok:HOk P w H h) (e:Rd H a (.dT kvs)):kvs.length<=sizeLine/\(a == sysModules)=false/\
  ∃ xs,KT H kvs xs/\h.DictOfH (tupleKind (bg P w)) a xs:=by
 obtain ⟨z,y,xs,r,o,es,ep,h1,h2,h3,h4,h5⟩:=(show pd P w H h a (.dT kvs) from rd_of ok e)
 refine ⟨z,y,xs,r,o,es,ep,h1,h2,h3,h4,λx hx=>?_,h5⟩
 have all:∀ {l:List (List Key × V)} {m:List (List Key × Addr × Value)},KT H l m->∀ x ∈ m,(tupleKind (bg P w)).is h x.1 x.2.1:=by
  intro l m q
  induction q with
  | nil=>intro x hx; exact nomatch hx
  | @cons p q ps qs hq t ih=>
   intro x hx
   rcases List.mem_cons.mp hx with e | hx
   ·subst e
    exact kH ok (by rw [<- hq.1]; exact hq.2.1)
   ·exact ih x hx
 exact all r x hx
theorem dt_of {kvs:List (List Key × V)} (ok:HOk P w H h) (e:H a=some (.dT kvs)):kvs.length<=sizeLine/\(a == sysModules)=false/\
  ∃ xs,KT H kvs xs/\h.DictOfH (tupleKind (bg P w)) a xs:=mG ok (.inl e)
end
def DGet (H:Hp) (a:Addr) (y:V) (r:Option V):Prop:=
 (∃ kvs k,Rd H a (.dK kvs)/\y=kV k/\r=gL kvs k)\/∃ kvs k b,Rd H a (.dT kvs)/\y=.ref b/\H b=some (.tup (k.map kV))/\r=gL kvs k
def DPut (H:Hp) (a:Addr) (y v:V) (H':Hp):Prop:=
 (∃ kvs k,H a=some (.dK kvs)/\y=kV k/\kvs.length<sizeLine/\H'=upd H a (.dK (cQ kvs k v))) \/
 ∃ kvs k b,H a=some (.dT kvs)/\y=.ref b/\H b=some (.tup (k.map kV))/\kvs.length<sizeLine/\H'=upd H a (.dT (cQ kvs k v))
theorem DGet.t {H:Hp} {a b:Addr} {kvs:List (List Key × V)} {k:List Key} (e:H a=some (.dT kvs)) (eb:H b=some (.tup (k.map kV))):DGet H a (.ref b) (gL kvs k):=.inr ⟨kvs,k,b,.inl e,rfl,eb,rfl⟩
theorem DPut.t {H:Hp} {a b:Addr} {kvs:List (List Key × V)} {k:List Key} {v:V} (e:H a=some (.dT kvs)) (eb:H b=some (.tup (k.map kV))) (hl:kvs.length<sizeLine) :
  DPut H a (.ref b) v (upd H a (.dT (cQ kvs k v))):=.inr ⟨kvs,k,b,e,rfl,eb,hl,rfl⟩
section
variable {X:Cx} {pins:List (Addr × Obj)} {σ:St} {H:Hp} {s:Shared} {a:Addr} {y v:V} {u r:Value} {o:Option V} {A:Around} {E:Value->Shared->Prop}
theorem Inv.big (I:Inv X pins σ H s):sysModules<s.heap.objs.size:=by
 have h:mainGlobals<s.heap.objs.size:=(I.mod.glob.keeps I.bk).lt
 exact Nat.lt_trans (by decide) h
theorem d_getItem {Q:Value->Shared->Prop} (hu:A.units+1<cLine) (I:Inv X pins σ H s) (g:DGet H a y (some v)) (ry:o4 y u) (h:∀ w' s',Inv X pins σ H s'->o4 v w'->Q w' s') :
  wpAny (model X.prog X.w) A (getItem (.ref a) u) Q E s:=by
 rcases g with ⟨kvs,k,e,ey,l⟩ | ⟨kvs,k,b,e,ey,eb,l⟩
 ·subst ey
  obtain ⟨z,hd,vs,rel,dd⟩:=mS I.hok e
  obtain ⟨w',hw,rw'⟩:=RelO.some_of (v:=v) (o:=valueAt vs k) (by rw [l]; exact rel.val k)
  exact wpAny_getItem_of (kV_is ry) dd.mapOf hw (h w' _ (I.tok _) rw')
 ·subst ey
  cases (show u=Value.ref b from ry)
  obtain ⟨z,hd,xs,rel,dd⟩:=mG I.hok e
  obtain ⟨w',hw,rw'⟩:=RelO.some_of (v:=v) (o:=(atKey xs k).map (·.2)) (by rw [l]; exact rel.val k)
  obtain ⟨p,hp,hp2⟩:=Option.map_eq_some_iff.mp hw
  refine wpAny_getItem_heap (tupleKind_room_in1 hu) (kH I.hok eb) dd hp ?_
  rw [hp2]
  exact h w' _ (I.tok _) rw'
theorem d_in {Q:Value->Shared->Prop} (hu:A.units+1<cLine) (I:Inv X pins σ H s) (g:DGet H a y o) (ry:o4 y u) (h:∀ s',Inv X pins σ H s'->Q (.bool o.isSome) s') :
  wpAny (model X.prog X.w) A (compareOp .In u (.ref a)) Q E s:=by
 rcases g with ⟨kvs,k,e,ey,l⟩ | ⟨kvs,k,b,e,ey,eb,l⟩
 ·subst ey
  obtain ⟨z,hd,vs,rel,dd⟩:=mS I.hok e
  refine wpAny_in_of (kV_is ry) hd dd.mapOf ?_
  rw [<- (rel.val k).isSome_eq,<- l]
  exact h _ (I.tok _)
 ·subst ey
  cases (show u=Value.ref b from ry)
  obtain ⟨z,hd,xs,rel,dd⟩:=mG I.hok e
  refine wpAny_in_heap (tupleKind_room_in1 hu) (kH I.hok eb) hd dd ?_
  have q:=(rel.val k).isSome_eq
  rw [Option.isSome_map] at q
  rw [<- q,<- l]
  exact h _ (I.tok _)
theorem d_write {h':Heap} {t':Nat} {ob:HO} (I:Inv X pins σ H s) (mu:Mut (H a)) (hs:Heap.SameBut a s.heap h') (he:∃ q,h'.get? a=some q) (new:pd X.prog X.w (upd H a ob) h' a ob) :
  Inv X pins σ (upd H a ob) { s with heap:=h',toks:=t' }:=
 I.write (x:=a) (e:=a) mu (.inl rfl) (λb q hb z=>(hs.2 b hb).trans z) he new
theorem dk_new {P:Program} {w:World} {H':Hp} {h':Heap} {kvs:List (Key × V)} {vs:List (Key × Value)} (z:kvs.length<=sizeLine) (hd:(a == sysModules)=false) (rel:KV kvs vs) (dd:h'.DictOf (bg P w) a vs) :
  pd P w H' h' a (.dK kvs):=⟨z,hd,vs,rel,dd⟩
theorem d_setItem {H':Hp} {Q:Unit->Shared->Prop} (hu:A.units+1<cLine) (I:Inv X pins σ H s) (g:DPut H a y v H') (ry:o4 y u) (rv:o4 v r) (h:∀ s',Inv X pins σ H' s'->Q () s') :
  wpAny (model X.prog X.w) A (setItem (.ref a) u r) Q E s:=by
 rcases g with ⟨kvs,k,e,ey,l,eH⟩ | ⟨kvs,k,b,e,ey,eb,l,eH⟩
 ·subst ey eH
  obtain ⟨z,hd,vs,rel,dd⟩:=dk_of I.hok e
  have hz:vs.length<=sizeLine:=by rw [<- rel.length]; exact z
  have hl:(cQ kvs k v).length<=sizeLine:=by have:=jD kvs k v; omega
  refine wpAny_setItem_pairs (hsz:=hz) (kV_is ry) dd λh' dd' hs=>h _ ?_
  have he:∃ q,h'.get? a=some q:=let ⟨q,_,_,hq,_⟩:=dd'; ⟨q,hq⟩
  exact d_write I (by rw [e]; exact True.intro) hs he (dk_new hl hd (rel.put k rv) dd')
 ·subst ey eH
  cases (show u=Value.ref b from ry)
  obtain ⟨z,hd,xs,rel,dd⟩:=dt_of I.hok e
  have hz:xs.length<=sizeLine:=by rw [<- Paired.length rel]; exact z
  have hl:(cQ kvs k v).length<=sizeLine:=by have:=jD kvs k v; omega
  refine wpAny_setItem_heap (hsz:=hz) (tupleKind_room_in1 hu) (kH I.hok eb) dd λh' dd' hs=>h _ ?_
  obtain ⟨q,es,ep,hq,h2,h3,h4,_,h5⟩:=dd'
  refine d_write I (by rw [e]; exact True.intro) hs ⟨q,hq⟩ ⟨hl,hd,_,(rel.put k eb rv).keeps λc ys ec=>?_,q,es,ep,hq,h2,h3,h4,h5⟩
  rw [ao (bW ec e (λz=>nomatch z))]
  exact ec
end
section
variable {X:Cx} {pins:List (Addr × Obj)} {σ:St} {H:Hp} {s:Shared} {a:Addr} {kvs:List (Key × V)} {k:Key} {u:Value} {A:Around} {E:Value->Shared->Prop}
end
def NoSl (i:Expr):Prop:=∀ ov iv,subscripted i false ov iv=operate [ov,iv] (getItem ov iv)
theorem subD_of {prog:Program} {w:World} {A:Around} {E:Value->Shared->Prop} {s:Shared} {env:Env} {value slice:Expr} {pos:Pos} {T id:String} {Q:Value->Shared->Prop}
  (hl:typeLookup (.type T) "__getitem__" = pure (some (.builtin id))) (hs:NoSl slice)
  (h:wpAny (model prog w) A (eval value env) (λo s₁=>wpAny (model prog w) A (eval slice env) (λi s₂=>s₂.TypeIs o T/\wpAny (model prog w) A (getItem o i) Q E s₂) E s₁) E s) :
  wpAny (model prog w) A (eval (.Subscript value slice pos) env) Q E s:=by
 refine Subscript_ (wpAny_mono h (λo s₁ h₁=>wpAny_mono h₁ (λi s₂ h₂=>?_) λ_ _ x=>x) λ_ _ x=>x)
 obtain ⟨hT,h₂⟩:=h₂
 unfold subscriptTail
 refine wpAny_bind ?_
 rw [getitemInPython_of_ne hT.not_modules]
 refine wpAny_bind (wpAny_specialOf hT hl ?_)
 have fin:wpAny (model prog w) A (subscripted slice false o i) (λr s₃=>wpAny (model prog w) A (letTemporaryGo value o r >>= λ_=>pure r) Q E s₃) E s₂:=by
  rw [hs o i]
  exact wpAny_operating (wpAny_mono h₂ (λr s₃ h₃=>wpAny_bind (wpAny_letTemporaryGo (wpAny_pure h₃))) λ_ _ x=>x)
 first
  | exact wpAny_pure (wpAny_bind fin)
  | exact wpAny_bind (wpAny_pure (wpAny_bind fin))
  | exact wpAny_bind fin
theorem dict_typeIs {X:Cx} {pins:List (Addr × Obj)} {σ:St} {H:Hp} {s:Shared} {a:Addr} {y:V} {o:Option V} (I:Inv X pins σ H s) (g:DGet H a y o):s.TypeIs (.ref a) "dict":=by
 rcases g with ⟨kvs,k,e,_,_⟩ | ⟨kvs,k,b,e,_,_,_⟩
 ·obtain ⟨_,_,vs,_,dd⟩:=mS I.hok e
  exact dd.typeIs
 ·obtain ⟨_,_,xs,_,dd⟩:=mG I.hok e
  exact dd.typeIs
def tDGet (td ty:TE):TE:=λσ H Q=>td σ H λx H1=>ty σ H1 λy H2=>∃ a v,x=.ref a/\DGet H2 a y (some v)/\Q v H2
def tDIn (ty td:TE):TE:=λσ H Q=>ty σ H λy H1=>td σ H1 λx H2=>∃ a o,x=.ref a/\DGet H2 a y o/\Q (.bl o.isSome) H2
def sDPut (td ty tv:TE):TS:=λD σ H=>tv σ H λv H1=>td σ H1 λx H2=>ty σ H2 λy H3=>∃ a H4,x=.ref a/\DPut H3 a y v H4/\D.nx σ H4
section
variable {X:Cx} {o i e value:Expr} {pos pos' tpos:Pos} {td ty tv:TE}
theorem eY (hu:X.A.units+1<cLine) (ho:PE X o td) (hi:PE X i ty) (hs:NoSl i):PE X (.Subscript o i pos) (tDGet td ty):=by
 intro pins s σ H Q I h
 refine subD_of PySem.F.slot_dict_getitem.lookup hs (thn (ho pins s σ H _ I h) λu s1 ⟨x,H1,I1,rx,q1⟩=>thn (hi pins s1 σ H1 _ I1 q1) λiv s2 ⟨y,H2,I2,ry,a,v,ex,g,q2⟩=>?_)
 subst ex
 obtain rfl:u=Value.ref a:=rx
 exact ⟨dict_typeIs I2 g,d_getItem hu I2 g ry λw' s3 I3 rw'=>⟨v,H2,I3,rw',q2⟩⟩
theorem pc_din (hu:X.A.units+1<cLine) (hi:PE X i ty) (ho:PE X o td):PC X .In i o (tDIn ty td):=by
 intro pins s σ H Q I h
 refine thn (hi pins s σ H _ I h) λiv s1 ⟨y,H1,I1,ry,q1⟩=>thn (ho pins s1 σ H1 _ I1 q1) λu s2 ⟨x,H2,I2,rx,a,ov,ex,g,q2⟩=>?_
 subst ex
 obtain rfl:u=Value.ref a:=rx
 exact d_in hu I2 g ry λs3 I3=>⟨.bl ov.isSome,H2,I3,rfl,q2⟩
theorem nk (hu:X.A.units+1<cLine) (ho:PE X o td) (hi:PE X i ty) (hv:PE X value tv) (hs:swapsWith value (some (.Subscript o i pos')) pos.line X.env=pure false) :
  PS X (.Assign [.Subscript o i pos'] value pos) (sDPut td ty tv):=by
 intro pins s σ H D I h
 refine wpAny_Assign_Subscript (thn (hv pins s σ H _ I h) λr s1 ⟨v,H1,I1,rv,q1⟩=>thn (ho pins s1 σ H1 _ I1 q1) λu s2 ⟨x,H2,I2,rx,q2⟩=>thn (hi pins s2 σ H2 _ I2 q2) λiv s3 ⟨y,H3,I3,ry,a,H4,ex,g,q3⟩=>?_) hs
 subst ex
 obtain rfl:u=Value.ref a:=rx
 exact d_setItem hu I3 g ry rv λs4 I4=>⟨σ,H4,I4,q3⟩
end
theorem dt_empty {P:Program} {w:World} {H:Hp} (h:Heap) (hb:sysModules<h.objs.size):pd P w H (h.push { cls:=.type "dict",data:=.dict #[] }) h.objs.size (.dT []):=
 ⟨Nat.zero_le _,beq_eq_false_iff_ne.mpr (Ne.symm (Nat.ne_of_lt hb)),[],.nil,_,#[],0,get?_push_size _ rfl,⟨rfl,rfl,rfl⟩,rfl,rfl,List.nodup_nil⟩
def tDNewT:TE:=λ_ H Q=>∀ p,H p=none->Q (.ref p) (upd H p (.dT []))
section
variable {X:Cx} {pos:Pos}
theorem kT:PE X (.Dict [] [] pos) tDNewT:=λpins s σ H Q I h=>
 wpAny_Dict_empty ⟨.ref s.heap.objs.size,_,I.laid (a:=s.heap.objs.size) (o:=.dT []) (t':=s.toks) (λ_ _ q=>get?_push_of_some _ q) (Nat.le_refl _) (dt_empty s.heap I.big),rfl,h _ (I.hok.fresh (Nat.le_refl _))⟩
end
structure M2 (X:Cx) (o:Expr) (m:Str) (apos:Pos) (e f:Expr) (cpos:Pos):Prop where
 base:attributeBase o m X.env (eval o X.env)=eval o X.env
 few:((backTo cpos (starEach [e,f] X.env)).all (λx=>!x.1) && (backToKw cpos (keywordEach [] X.env)).all (λx=>x.1.isSome)
  && decide (([e,f]:List Expr).length+([]:List Keyword).length+(if ([]:List Keyword).isEmpty then 0 else 1)<30))=true
 line:(apos.endLine == cpos.line)=true
 trees:backTo cpos (starEach [e,f] X.env)=[(false,eval e X.env),(false,eval f X.env)]
def IsD (H:Hp) (a:Addr):Prop:=(∃ kvs,Rd H a (.dK kvs))\/∃ kvs,Rd H a (.dT kvs)
theorem isD_at {X:Cx} {pins:List (Addr × Obj)} {σ:St} {H:Hp} {s:Shared} {a:Addr} (I:Inv X pins σ H s) (d:IsD H a) :
  s.TypeIs (.ref a) "dict"/\(∀ b,Value.ref a=.ref b->∃ ob,s.heap.get? b=some ob/\ob.dict=none)/\(a == sysModules)=false:=by
 rcases d with ⟨kvs,e⟩ | ⟨kvs,e⟩
 ·obtain ⟨_,hd,vs,_,dd⟩:=mS I.hok e
  refine ⟨dd.typeIs,λb q=>?_,hd⟩
  cases q
  obtain ⟨ob,_,_,h1,h2,_⟩:=dd
  exact ⟨ob,h1,h2.2.1⟩
 ·obtain ⟨_,hd,xs,_,dd⟩:=mG I.hok e
  refine ⟨dd.typeIs,λb q=>?_,hd⟩
  cases q
  obtain ⟨ob,_,_,h1,h2,_⟩:=dd
  exact ⟨ob,h1,h2.2.1⟩
section
variable {X:Cx} {pins:List (Addr × Obj)} {σ:St} {H:Hp} {s:Shared} {a:Addr} {y d:V} {u r:Value} {o:Option V} {A:Around} {E:Value->Shared->Prop}
theorem d_get2 {Q:Value->Shared->Prop} (hu:A.units+1<cLine) (I:Inv X pins σ H s) (g:DGet H a y o) (ry:o4 y u) (rd:o4 d r) (h:∀ w' s',Inv X pins σ H s'->o4 (o.getD d) w'->Q w' s') :
  wpAny (model X.prog X.w) A (call (.builtin "dict.get") [.ref a,u,r]) Q E s:=by
 rcases g with ⟨kvs,k,e,ey,l⟩ | ⟨kvs,k,b,e,ey,eb,l⟩
 ·subst ey
  obtain ⟨z,hd,vs,rel,dd⟩:=mS I.hok e
  refine call_meetsIn PySem.F.slot_dict_get dd.typeIs PySem.F.entry_dict_get (PySem.F.args_dict_get_3 _ _ _) (meets_dict_get_default (bg X.prog X.w) a (kV_is ry) hd r) ⟨_,dd.mapOf,h _ _ (I.tok _) ?_⟩
  rw [l]
  exact (rel.val k).getD rd
 ·subst ey
  cases (show u=Value.ref b from ry)
  obtain ⟨z,hd,xs,rel,dd⟩:=mG I.hok e
  refine call_meetsIn PySem.F.slot_dict_get dd.typeIs PySem.F.entry_dict_get (PySem.F.args_dict_get_3 _ _ _) (meetsH_dict_get_default (tupleKind (bg X.prog X.w)) a b hd r) ⟨tupleKind_room_in1 hu,k,xs,kH I.hok eb,dd,h _ _ (I.tok _) ?_⟩
  rw [l]
  exact (rel.val k).getD rd
end
def tDGet2 (td ty tx:TE):TE:=λσ H Q=>td σ H λx H1=>∃ a,x=.ref a/\IsD H1 a/\ty σ H1 λy H2=>tx σ H2 λz H3=>∃ o,DGet H3 a y o/\Q (o.getD z) H3
section
variable {X:Cx} {o e f:Expr} {apos cpos:Pos} {td ty tx:TE}
theorem pe_dget2 (hu:X.A.units+1<cLine) (ho:PE X o td) (he:PE X e ty) (hf:PE X f tx) (m:M2 X o "get" apos e f cpos):PE X (.Call (.Attribute o "get" apos) [e,f] [] cpos) (tDGet2 td ty tx):=by
 intro pins s σ H Q I h
 refine wpAny_Call_method m.base m.few m.line PySem.F.plainAttrs_dict PySem.F.slot_dict_get PySem.F.type_dict_get (thn (ho pins s σ H _ I h) λu s1 ⟨x,H1,I1,rx,a,ex,d,q1⟩=>?_)
 subst ex
 obtain rfl:u=Value.ref a:=rx
 obtain ⟨t1,t2,_⟩:=isD_at I1 d
 refine ⟨t1,t2,?_⟩
 rw [m.trees]
 refine Calls.callWith_builtin rfl (Calls.evalArgs_plain (Calls.spliced_cons (thn (he pins s1 σ H1 _ I1 q1) λiv s2 ⟨y,H2,I2,ry,q2⟩=>
  Calls.spliced_cons (thn (hf pins s2 σ H2 _ I2 q2) λfv s3 ⟨z,H3,I3,rz,ov,g,q3⟩=>Calls.spliced_nil ?_))))
 exact d_get2 hu I3 g ry rz λw' s4 I4 rw'=>⟨_,H3,I4,rw',q3⟩
end
section
variable {X:Cx} {pins:List (Addr × Obj)} {σ:St} {H:Hp} {s:Shared} {a:Addr} {kvs:List (Key × V)} {A:Around} {E:Value->Shared->Prop}
end
section
variable {X:Cx} {pins:List (Addr × Obj)} {σ:St} {H:Hp} {s:Shared} {a:Addr} {y:V} {u:Value} {A:Around} {E:Value->Shared->Prop}
end
section
variable {κ:Type} [DecidableEq κ]
end
end L2
namespace L2
open PySem PySem.Spec PyProof.Rows PySem.W
def InR {α:Type} (n:Nat) (P:α->Prop):KasT α->Prop
 | .ret a=>P a
 | .ask i j k=>i<n/\j<n/\∀ b,InR n P (k b)
theorem InR.bind {α β:Type} {n:Nat} {P:α->Prop} {Q:β->Prop} {f:α->KasT β}:∀ {t:KasT α},InR n P t->(∀ a,P a->InR n Q (f a))->InR n Q (t.bind f)
 | .ret a,h,hf=>hf a h
 | .ask i j k,h,hf=>⟨h.1,h.2.1,λb=>InR.bind (h.2.2 b) hf⟩
theorem InR.ite {α:Type} {n:Nat} {P:α->Prop} {c:Prop} [Decidable c] {t u:KasT α} (h1:InR n P t) (h2:InR n P u):InR n P (if c then t else u):=by
 split
 ·exact h1
 ·exact h2
def Lo (n:Nat) (p:Array Nat):Prop:=∀ x ∈ p,x<n
theorem Lo.at {n:Nat} {p:Array Nat} (h:Lo n p) (h0:0<n) (i:Nat):p.getD i 0<n:=by
 rw [gd_q]
 cases e:p[i]? with
 | none=>exact h0
 | some x=>exact h x (Array.mem_of_getElem? e)
theorem Lo.of {n:Nat} {p q:Array Nat} (h:Lo n p) (e:q.Perm p):Lo n q:=λx hx=>h x (e.mem_iff.mp hx)
section
variable {n:Nat} (h0:0<n)
include h0
theorem oE {p:Array Nat} (hp:Lo n p):∀ f m,InR n (λ_=>True) (kas_asc p f m)
 | 0,m=>trivial
 | f+1,m=>⟨hp.at h0 _,hp.at h0 _,λb=>.ite trivial (oE hp f (m+1))⟩
theorem iz:∀ f p m q,Lo n p->InR n (λr=>Lo n r.1) (kas_desc f p m q)
 | 0,p,m,q,hp=>hp
 | f+1,p,m,q,hp=>⟨hp.at h0 _,hp.at h0 _,λb=>.ite (.ite (iz f _ _ _ (hp.of (mirror_perm _ _ _ _))) (iz f _ _ _ hp))
   ⟨hp.at h0 _,hp.at h0 _,λd=>.ite hp (iz f _ _ _ hp)⟩⟩
theorem mO {p:Array Nat} (hp:Lo n p) (m k:Nat):InR n (λr=>Lo n r.2) (kas_tail3 m k p):=
 (oE h0 (hp.of (mirror_perm _ _ _ _)) _ _).bind λ_ _=>hp.of (mirror_perm _ _ _ _)
theorem iw {p:Array Nat} (hp:Lo n p) (m k:Nat):InR n (λr=>Lo n r.2) (kas_descPart m k p):=
 (iz h0 _ _ _ _ hp).bind λr hr=>.ite (mO h0 (hr.of (mirror_perm _ _ _ _)) _ _) (mO h0 hr _ _)
theorem inr_count {p:Array Nat} (hp:Lo n p) (k:Nat):InR n (λr=>Lo n r.2) (kas_count k p):=
 (oE h0 hp _ _).bind λm _=>.ite hp (.ite ⟨hp.at h0 _,hp.at h0 _,λc=>.ite hp (iw h0 (hp.of (mirror_perm _ _ _ _)) _ _)⟩ (iw h0 hp _ _))
theorem jo {p:Array Nat} (hp:Lo n p) (k:Nat):∀ f l r,InR n (λ_=>True) (kas_place p k f l r)
 | 0,l,r=>trivial
 | f+1,l,r=>.ite trivial ⟨hp.at h0 _,hp.at h0 _,λc=>.ite (jo hp k f _ _) (jo hp k f _ _)⟩
theorem inr_bin:∀ f p k,Lo n p->InR n (λ_=>True) (kas_bin f p k)
 | 0,p,k,hp=>trivial
 | f+1,p,k,hp=>(jo h0 hp k _ _ _).bind λl _=>inr_bin f _ _ (hp.of (bubble_perm _ _ _))
theorem inr_sort:InR n (λ_=>True) (kas_sort n):=
 (inr_count h0 (λx hx=>by simpa using hx) n).bind λr hr=>.ite (inr_bin h0 _ _ _ hr) trivial
end
theorem wp_ev {α:Type} {n:Nat} {c:Nat->Nat->Bool} {cmp:Nat->Nat->(Bool->Shared->Prop)->Shared->Prop} {P:α->Prop} {Q:α->Shared->Prop} {s:Shared} (h:∀ i j C,i<n->j<n->C (c i j) s->cmp i j C s) :
  ∀ {t:KasT α},InR n P t->Q (ev c t) s->t.kasWp cmp Q s
 | .ret a,_,q=>q
 | .ask i j k,r,q=>h i j _ r.1 r.2.1 (wp_ev h (r.2.2 (c i j)) q)
def klt (a b:Int × List Int):Bool:=if a.1=b.1 then (if a.2=b.2 then false else HT.lexLt a.2 b.2) else decide (a.1<b.1)
section
variable {X:Cx} {pins:List (Addr × Obj)} {σ:St} {H:Hp} {s:Shared}
def KeyR (K:Frag) (H:Hp) (y:V) (k:Int × List Int):Prop:=∃ a t,y=.ref a/\H a=some (.tup [.int k.1,.ref t])/\SqT K H t (k.2.map V.int)
theorem key_lt {A:Around} {E:Value->Shared->Prop} {x y:V} {u v:Value} {j k:Int × List Int} {Q:Bool->Shared->Prop} (hu:A.units+64<cLine) (I:Inv X pins σ H s) (hx:KeyR X.K H x j) (hy:KeyR X.K H y k) (rx:o4 x u) (ry:o4 y v)
  (h:Q (klt j k) s):wpAny (model X.prog X.w) A (keyLt' (tuples' true) u v) Q E s:=by
 obtain ⟨a,ta,rfl,ha,hta⟩:=hx
 obtain ⟨b,tb,rfl,hb,htb⟩:=hy
 cases rx
 cases ry
 obtain ⟨_,its,r1,p1⟩:=(show pd X.prog X.w H s.heap a (.tup _) from I.hok a _ ha)
 obtain ⟨_,its2,r2,p2⟩:=(show pd X.prog X.w H s.heap b (.tup _) from I.hok b _ hb)
 obtain ⟨⟨cls,dd,data,sl⟩,ho,hc,n,hd⟩:=id p1
 obtain ⟨⟨cls2,dd2,data2,sl2⟩,ho2,hc2,n2,hd2⟩:=id p2
 cases r1 with
 | cons q1 r1=>cases r1 with
  | cons q2 r1=>
   cases r1
   cases r2 with
   | cons q3 r2=>cases r2 with
    | cons q4 r2=>
     cases r2
     obtain ⟨t1,rfl⟩:=q1
     obtain ⟨t3,rfl⟩:=q3
     cases q2
     cases q4
     refine kat_lt ho hd ho2 hd2 (kat_cons (wpAny_eqBool_int (kat_go (λe=>kat_yes ?_) λe=>kat_no ?_)))
     ·have e1:j.1=k.1:=by simpa using e
      unfold klt at h
      rw [if_pos e1] at h
      obtain ⟨as,ra⟩:=(gA hta).reads I rfl
      obtain ⟨bs,rb⟩:=(gA htb).reads I rfl
      obtain ⟨jts,r3,p3,_⟩:=I.tuple hta
      obtain ⟨jts2,r4,p4,_⟩:=I.tuple htb
      have eqr:SeqAt.EqAt A s (.ref ta) (.ref tb) (decide (j.2=k.2)):=by
       by_cases hab:ta=tb
       ·subst hab
        rw [decide_eq_true (ints_inj (I.tuple_inj hta htb))]
        exact SeqAt.EqAt.same _
       ·exact SeqAt.EqAt.of_refs hab λprog w E Q' hq=>eq_dataH ra rb (cA _) (cA _) hu (by rw [kZ]; exact hq)
      refine kat_cons (eqr _ _ _ _ ?_)
      refine kat_go (λe=>kat_yes (kat_nil ?_)) λe=>kat_no ?_
      ·rw [if_pos (of_decide_eq_true e)] at h
       exact h
      ·rw [if_neg (of_decide_eq_false e)] at h
       exact kat_one _ _ (HT.lt_tupInts p3 p4 (kU r3) (kU r4) (by omega) h)
     ·have e1:¬ j.1=k.1:=by simpa using e
      unfold klt at h
      rw [if_neg e1] at h
      exact oneLt_int h
end
section
variable {X:Cx} {pins:List (Addr × Obj)} {σ:St} {H:Hp} {s:Shared}
theorem KeyR.but {K:Frag} {H H':Hp} {p:Addr} {xs:List V} {y:V} {k:Int × List Int} (hp:H p=some (.lst xs)) (hk:∀ c o,H c=some o->c ≠ p->H' c=some o) (h:KeyR K H y k):KeyR K H' y k:=by
 obtain ⟨a,t,rfl,ha,ht⟩:=h
 refine ⟨a,t,rfl,hk _ _ ha (bW ha hp (by intro z; cases z)),?_⟩
 rcases ht with (h | ⟨o,h⟩) | h
 ·exact .inl (.inl (hk _ _ h (bW h hp (by intro z; cases z))))
 ·exact .inl (.inr ⟨o,hk _ _ h (bW h hp (by intro z; cases z))⟩)
 ·exact .inr h
theorem KeyR.same {K:Frag} {H H':Hp} {y:V} {k:Int × List Int} (e:oS H H') (h:KeyR K H y k):KeyR K H' y k:=by
 obtain ⟨a,t,rfl,ha,ht⟩:=h
 exact ⟨a,t,rfl,e _ _ ha,e.sqT ht⟩
abbrev pP (K:Frag) (H:Hp):List V->List (Int × List Int)->Prop:=Paired (KeyR K H)
theorem pP.imp {K:Frag} {H H':Hp} (hh:∀ y k,KeyR K H y k->KeyR K H' y k):∀ {ys:List V} {ks:List (Int × List Int)},pP K H ys ks->pP K H' ys ks
 | _,_,.nil=>.nil
 | _,_,.cons q r=>.cons (hh _ _ q) (pP.imp hh r)
theorem pP.snoc {K:Frag} {H:Hp} {y:V} {k:Int × List Int} (q:KeyR K H y k):∀ {ys:List V} {ks:List (Int × List Int)},pP K H ys ks->pP K H (ys++[y]) (ks++[k])
 | _,_,.nil=>.cons q .nil
 | _,_,.cons p r=>.cons p (pP.snoc q r)
theorem pP.get {K:Frag} {H:Hp}:∀ {ys:List V} {ks:List (Int × List Int)} {i:Nat} {y:V},pP K H ys ks->ys[i]? = some y->∃ k,ks[i]? = some k/\KeyR K H y k
 | _,_,0,y,.cons q r,e=>by cases e; exact ⟨_,rfl,q⟩
 | _::_,_::_,i+1,y,.cons q r,e=>pP.get (i:=i) r e
theorem lY (I:Inv X pins σ H s):∀ {ys:List V} {ks:List (Int × List Int)} {us:List Value},pP X.K H ys ks->o0 ys us->∃ fs:List Value,KatTups s.heap us fs/\fs.length=us.length/\∀ v ∈ fs,∃ n t,v=Value.int n t
 | _,_,_,.nil,.nil=>⟨[],.nil,rfl,λ_ h=>nomatch h⟩
 | _,_,_,.cons q r,.cons p v=>by
  obtain ⟨fs,h1,h2,h3⟩:=lY I r v
  obtain ⟨a,t,rfl,ha,ht⟩:=q
  cases p
  obtain ⟨_,its,r1,p1⟩:=(show pd X.prog X.w H s.heap a (.tup _) from I.hok a _ ha)
  obtain ⟨⟨cls,dd,data,sl⟩,ho,hc,n,hd⟩:=id p1
  cases r1 with
  | cons q1 r1=>
   obtain ⟨t1,rfl⟩:=q1
   refine ⟨.int _ t1::fs,.cons ho hc hd rfl h1,by simp [h2],λv hv=>?_⟩
   rcases List.mem_cons.mp hv with rfl | hv
   ·exact ⟨_,_,rfl⟩
   ·exact h3 v hv
theorem mr {A:Around} {E:Value->Shared->Prop} {f:Value} {H0:Hp} {D kS:Addr} {φ:Heap->Prop} {key:V->Int × List Int} {body:Value->PUnit->Sem (ForInStep PUnit)} {R:PUnit->Shared->Prop} {all:List V}
  (h0:H0 kS=none) (hn:all.length<64)
  (hf:∀ x ∈ all,∀ u H1 s1,o4 x u->Inv X pins σ H1 s1->oS H0 H1->wpAny (model X.prog X.w) A (call f [u]) (λk s2=>∃ y H2,Inv X pins σ H2 s2/\o4 y k/\oS H1 H2/\KeyR X.K H2 y (key x)) (λ_ _=>False) s1)
  (hb:∀ u (s1:Shared) (C:Shared->Prop),wpAny (model X.prog X.w) A (call f [u]) (λk s2=>∃ (ks:List Value) (n:Nat),s2.heap.get? kS=some (seqObj "list" (List.toArray ks) n)/\ks.length<64/\C { s2 with heap:=s2.heap.update kS (Obj.mapSeq (·.push k)) }) (λ_ _=>False) s1->
   wpAny (model X.prog X.w) A (body u ⟨⟩) (λr s2=>r=.yield ⟨⟩/\C s2) E s1)
  (hR:∀ H1 s1 ys ks,Inv X pins σ H1 s1->oS H0 H1->H1 D=some (.ext φ)->H1 kS=some (.lst ys)->pP X.K H1 ys ks->ks=all.map key->R ⟨⟩ s1) :
  ∀ (r pre:List V) (us:List Value) (ys:List V) (H1:Hp) (s1:Shared),all=pre++r->o0 r us->Inv X pins σ H1 s1->oS H0 H1->H1 D=some (.ext φ)->H1 kS=some (.lst ys)->pP X.K H1 ys (pre.map key)->
   wpAny (model X.prog X.w) A (forIn us PUnit.unit body) R E s1
 | [],pre,us,ys,H1,s1,ea,rv,I,sm,hD,hk,kr=>by
  cases rv
  rw [forIn_nil]
  exact wpAny_pure (hR H1 s1 ys _ I sm hD hk kr (by rw [ea,append_nil]))
 | x::r,pre,us,ys,H1,s1,ea,rv,I,sm,hD,hk,kr=>by
  cases rv with
  | cons q rv=>
   rename_i u us
   rw [forIn_cons]
   have hx:x ∈ all:=by rw [ea]; simp
   have hyl:ys.length=pre.length:=by have:=Paired.length kr; rw [length_map] at this; exact this
   have hal:all.length=pre.length+(r.length+1):=by rw [ea,length_append,length_cons]
   refine wpAny_bind (wpAny_mono (hb u s1 (λs2=>wpAny (model X.prog X.w) A (forIn us PUnit.unit body) R E s2) (wpAny_mono (hf x hx u H1 s1 q I sm) (λk s2 ⟨y,H2,I2,ry,sm2,ky⟩=>?_) λ_ _ z=>z)) (λz s2 ⟨ez,hz⟩=>?_) λ_ _ z=>z)
   ·obtain ⟨_,its,n,rk,lk,ek⟩:=I2.lstM (sm2 _ _ hk)
    refine ⟨its,n,ek,by omega,?_⟩
    have I3:=I2.lset (t':=s2.toks) (f:=(·.push k)) (its':=its++[k]) (ys:=ys++[y]) (sm2 _ _ hk) ek (by simp) (rk.append (.cons ry .nil)) (by rw [length_append,length_singleton,sizeLine_eq]; omega)
    have keep:∀ c o,H2 c=some o->c ≠ kS->upd H2 kS (.lst (ys++[y])) c=some o:=λc o e ne=>by rw [ao ne]; exact e
    refine mr h0 hn hf hb hR r (pre++[x]) us (ys++[y]) _ _ (by rw [ea]; simp) rv I3 (λc o e=>?_) ?_ ac ?_
    ·exact keep c o (sm2 _ _ (sm c o e)) (ah e h0)
    ·exact keep D _ (sm2 _ _ hD) (bW hD hk (by intro z; cases z))
    ·rw [map_append]
     exact pP.snoc (ky.but (sm2 _ _ hk) keep) (pP.imp (λ_ _ z=>(z.same sm2).but (sm2 _ _ hk) keep) kr)
   ·subst ez
    exact hz
end
theorem mJ:∀ {a b c:List Int},HT.lexLt a b=true->HT.lexLt b c=true->HT.lexLt a c=true
 | [],[],_,h,_=>by simp [HT.lexLt] at h
 | [],_::_,[],_,h=>by simp [HT.lexLt] at h
 | [],_::_,_::_,_,_=>rfl
 | _::_,[],_,h,_=>by simp [HT.lexLt] at h
 | _::_,_::_,[],_,h=>by simp [HT.lexLt] at h
 | x::a,y::b,z::c,h1,h2=>by
  rw [HT.lexLt_cons] at h1 h2 ⊢
  by_cases e1:x=y
  ·subst e1
   rw [if_pos rfl] at h1
   by_cases e2:x=z
   ·rw [if_pos e2] at h2 ⊢
    exact mJ h1 h2
   ·rw [if_neg e2] at h2 ⊢
    exact h2
  ·rw [if_neg e1] at h1
   have l1:=of_decide_eq_true h1
   by_cases e2:y=z
   ·subst e2
    rw [if_neg e1]
    exact h1
   ·rw [if_neg e2] at h2
    have l2:=of_decide_eq_true h2
    rw [if_neg (by omega)]
    exact decide_eq_true (by omega)
theorem lV:∀ {a b:List Int},a ≠ b->HT.lexLt a b=false->HT.lexLt b a=true
 | [],[],h,_=>absurd rfl h
 | [],_::_,_,h=>by simp [HT.lexLt] at h
 | _::_,[],_,_=>rfl
 | x::a,y::b,h,h1=>by
  rw [HT.lexLt_cons] at h1 ⊢
  by_cases e:x=y
  ·subst e
   rw [if_pos rfl] at h1 ⊢
   exact lV (λz=>h (by rw [z])) h1
  ·rw [if_neg e] at h1
   rw [if_neg (λz=>e z.symm)]
   have:=of_decide_eq_false h1
   exact decide_eq_true (by omega)
theorem nq:∀ a:List Int,HT.lexLt a a=false
 | []=>rfl
 | x::a=>by rw [HT.lexLt_cons,if_pos rfl]; exact nq a
theorem klt_eq (a b:Int × List Int):klt a b=if a.1=b.1 then HT.lexLt a.2 b.2 else decide (a.1<b.1):=by
 unfold klt
 by_cases e:a.2=b.2
 ·rw [if_pos e,e,nq]
 ·rw [if_neg e]
theorem ja {a b c:Int × List Int} (h1:klt a b=true) (h2:klt b c=true):klt a c=true:=by
 rw [klt_eq] at *
 by_cases e1:a.1=b.1
 ·rw [if_pos e1] at h1
  by_cases e2:b.1=c.1
  ·rw [if_pos e2] at h2
   rw [if_pos (e1.trans e2)]
   exact mJ h1 h2
  ·rw [if_neg e2] at h2
   rw [if_neg (by rw [e1]; exact e2),e1]
   exact h2
 ·rw [if_neg e1] at h1
  have l1:=of_decide_eq_true h1
  by_cases e2:b.1=c.1
  ·rw [if_neg (by rw [<- e2]; exact e1),<- e2]
   exact h1
  ·rw [if_neg e2] at h2
   have l2:=of_decide_eq_true h2
   rw [if_neg (by omega)]
   exact decide_eq_true (by omega)
theorem klt_total {a b:Int × List Int} (h:a ≠ b) (h1:klt a b=false):klt b a=true:=by
 rw [klt_eq] at *
 by_cases e:a.1=b.1
 ·rw [if_pos e] at h1
  rw [if_pos e.symm]
  exact lV (λz=>h (Prod.ext e z)) h1
 ·rw [if_neg e] at h1
  have:=of_decide_eq_false h1
  rw [if_neg (λz=>e z.symm)]
  exact decide_eq_true (by omega)
theorem nJ (a:Int × List Int):klt a a=false:=by rw [klt_eq,if_pos rfl,nq]
def kAt (ks:List (Int × List Int)) (i j:Nat):Bool:=klt (ks.getD i (0,[])) (ks.getD j (0,[]))
theorem kAt_tot {ks:List (Int × List Int)} (hn:ks.Nodup):Tot ks.length (kAt ks):=by
 refine ⟨λi j k _ _ _=>ja,λi j hi hj hne h=>klt_total (λz=>hne ?_) h⟩
 have g:∀ {i:Nat} (hi:i<ks.length),ks.getD i (0,[])=ks[i]:=λhi=>by simp [List.getD,hi]
 rw [g hi,g hj] at z
 exact (getElem_inj hn).mp z
section
variable {X:Cx} {pins:List (Addr × Obj)} {σ:St} {H:Hp} {s:Shared}
theorem lZ {A:Around} {E:Value->Shared->Prop} {P:PySem.Fin->Shared->Prop} {H0:Hp} {D kS:Addr} {e1:Nat} {st:SortSt} {out:List Value} {ys zs:List V} (hout:(arrOf st).map (·.2)=List.toArray out) (hz:out.length<64) (hf:failedOf st=none)
  (I:Inv X pins σ H s) (h0:H0 kS=none) (h1:H0 D=none) (sm:oS H0 H) (hD:H D=some (.ext λh=>h.get? D=some (seqObj "list" #[] e1))) (hk:H kS=some (.lst ys)) (rv:o0 zs out.reverse)
  (h:∀ H2 s2,Inv X pins σ H2 s2->oS H0 H2->H2 D=some (.lst zs)->P (.done (.ret .none)) s2):wpAny (model X.prog X.w) A (ksk_tail D true e1 (.ref kS) st) P E s:=by
 have ne:D ≠ kS:=bW hD hk (by intro z; cases z)
 have hzl:zs.length=out.length:=by rw [rv.length,length_reverse]
 obtain ⟨lz,its,n,rk,lk,ek⟩:=I.lstM hk
 have I1:=I.lset (t':=s.toks) (f:=λ_=>#[]) (its':=[]) (ys:=[]) hk ek rfl .nil (Nat.zero_le _)
 have hD1:upd H kS (.lst []) D=some (.ext λh=>h.get? D=some (seqObj "list" #[] e1)):=by rw [ao ne]; exact hD
 have eD:(s.heap.update kS (Obj.mapSeq λ_=>#[])).get? D=some (seqObj "list" #[] e1):=(show pd X.prog X.w _ _ D (.ext _) from I1.hok D _ hD1).1
 have q:=get?_update_seq eD (λ_=>List.toArray out.reverse)
 have I2:Inv X pins σ (upd (upd H kS (.lst [])) D (.lst zs)) { s with heap:=(s.heap.update kS (Obj.mapSeq λ_=>#[])).update D (Obj.mapSeq λ_=>List.toArray out.reverse),toks:=s.toks }:=
  I1.write (x:=D) (e:=D) (by rw [hD1]; exact trivial) (.inl rfl) (λb' u hb hu=>(get?_update_other _ _ (Ne.symm hb)).trans hu) ⟨_,q⟩ ⟨by rw [hzl,sizeLine_eq]; omega,out.reverse,_,rv,q⟩
 unfold ksk_tail
 dsimp only
 rw [hout,kat_outs,show katRev true out=out.reverse from if_pos rfl]
 refine wpAny_bind (listUpdate_at ek rfl ?_ (by rw [size_toArray,<- lk]; exact lz) (Nat.zero_le _))
 refine wpAny_bind (wpAny_letGo ?_)
 refine wpAny_bind (seqEpoch_at eD rfl ?_)
 refine wpAny_bind (listUpdate_at eD rfl ?_ (Nat.zero_le _) (by rw [size_toArray,length_reverse,sizeLine_eq]; omega))
 rw [hf]
 simp only [bne_self_eq_false,Bool.false_eq_true,if_false]
 refine wpAny_pure (h _ _ I2 (λc o e=>?_) ac)
 rw [ao (ah e h1),ao (ah e h0)]
 exact sm c o e
end
theorem jJ {α:Type} {l:List α} {d:α} {i:Nat} (h:i<l.length):l.getD i d=l[i]:=by simp [List.getD,h]
theorem map_range {α:Type} (l:List α) (d:α):(List.range l.length).map (λi=>l.getD i d)=l:=by
 apply List.ext_getElem
 ·simp
 ·intro i h1 h2
  rw [List.getElem_map,List.getElem_range,jJ h2]
def pick {α:Type} (p:Array Nat) (xs:List α) (d:α):List α:=p.toList.map λi=>xs.reverse.getD i d
theorem pick_perm {α:Type} {p:Array Nat} {xs:List α} {d:α} (hp:Pm xs.length p):((pick p xs d).reverse).Perm xs:=by
 refine (reverse_perm _).trans (((hp.map _).trans ?_).trans (reverse_perm xs))
 rw [show List.map (λi=>xs.reverse.getD i d) (List.range xs.length)=xs.reverse by rw [<- length_reverse (as:=xs)]; exact map_range _ _]
theorem Pm.mem {n:Nat} {p:Array Nat} (hp:Pm n p) {i:Nat} (h:i ∈ p.toList):i<n:=List.mem_range.mp (hp.mem_iff.mp h)
theorem pick_vals {p:Array Nat} {xs:List V} {us:List Value} (hp:Pm xs.length p) (rv:o0 xs us):o0 (pick p xs .non) (pick p us Value.none):=by
 have r:=rv.reverse
 have go:∀ l:List Nat,(∀ i ∈ l,i<xs.length)->o0 (l.map λi=>xs.reverse.getD i .non) (l.map λi=>us.reverse.getD i Value.none):=by
  intro l
  induction l with
  | nil=>intro _; exact .nil
  | cons i l ih=>
   intro h
   have hi:i<xs.reverse.length:=by rw [length_reverse]; exact h i (by simp)
   refine .cons ?_ (ih λj hj=>h j (by simp [hj]))
   obtain ⟨u,e,q⟩:=r.get (getElem?_eq_getElem hi)
   show o4 (xs.reverse.getD i .non) (us.reverse.getD i Value.none)
   rw [jJ hi,getD_eq_getElem?_getD,e]
   exact q
 exact go _ λi hi=>hp.mem hi
theorem pick_pair {p:Array Nat} {xs:List V} {key:V->Int × List Int} (hp:Pm xs.length p) (hs:So (kAt (xs.map key).reverse) p xs.length):((pick p xs .non).reverse).Pairwise λx y=>klt (key y) (key x)=true:=by
 rw [List.pairwise_reverse]
 unfold pick
 rw [pairwise_map,List.pairwise_iff_getElem]
 intro i j hi hj hij
 rw [Array.length_toList,hp.sz] at hi hj
 have z:=hs i j hij hj
 unfold kAt at z
 have g:∀ k (hk:k<xs.length),key (xs.reverse.getD (p.getD k 0) .non)=(xs.map key).reverse.getD (p.getD k 0) (0,[]):=λk hk=>by
  have h1:p.getD k 0<xs.length:=hp.lt hk
  rw [jJ (by rw [length_reverse]; exact h1),jJ (by rw [length_reverse,length_map]; exact h1)]
  simp
 rw [<- g i hi,<- g j hj,gd_at (by rw [hp.sz]; exact hi),gd_at (by rw [hp.sz]; exact hj)] at z
 exact z
section
variable {X:Cx} {pins:List (Addr × Obj)} {σ:St} {H:Hp} {s:Shared}
theorem sort_end {A:Around} {E:Value->Shared->Prop} {P:PySem.Fin->Shared->Prop} {H0:Hp} {D kS:Addr} {e1:Nat} {xs ys:List V} {us its:List Value} {key:V->Int × List Int} (hu:A.units+64<cLine)
  (I:Inv X pins σ H s) (h0:H0 kS=none) (h1:H0 D=none) (sm:oS H0 H) (hD:H D=some (.ext λh=>h.get? D=some (seqObj "list" #[] e1))) (hk:H kS=some (.lst ys)) (kr:pP X.K H ys (xs.map key)) (ru:o0 ys us) (rv:o0 xs its)
  (h64:xs.length<64) (nd:(xs.map key).Nodup)
  (h:∀ H2 s2 zs,Inv X pins σ H2 s2->oS H0 H2->H2 D=some (.lst zs)->zs.Perm xs->zs.Pairwise (λx y=>klt (key y) (key x)=true)->P (.done (.ret .none)) s2):wpAny (model X.prog X.w) A (ksk_end D true its.toArray e1 (.ref kS) us.toArray) P E s:=by
 have lx:=rv.length
 have lu:=ru.length
 have ly:ys.length=xs.length:=by have:=Paired.length kr; rw [length_map] at this; exact this
 have hl:us.length=its.length:=by omega
 unfold ksk_end
 dsimp only
 rw [if_pos rfl]
 refine wpAny_bind (wpAny_rule ?_)
 by_cases h2:its.toArray.size<2
 ·rw [if_pos h2,if_pos h2]
  refine wpAny_bind (wpAny_pure ?_)
  rw [StateT.run_pure]
  refine wpAny_bind (wpAny_pure ?_)
  dsimp only
  rw [kat_pairs true hl,show katRev true us=us.reverse from if_pos rfl,show katRev true its=its.reverse from if_pos rfl]
  refine lZ (st:=SortSt.mk' general' _ #[] 7 none) (out:=its.reverse) (zs:=xs) ?_ (by rw [length_reverse]; omega) rfl I h0 h1 sm hD hk (by rw [List.reverse_reverse]; exact rv) λH2 s2 I2 sm2 q=>h H2 s2 xs I2 sm2 q (.refl _) ?_
  ·show Array.map (·.2) ((us.reverse.toArray).zip (its.reverse.toArray))=_
   apply Array.toList_inj.mp
   rw [Array.toList_map,ksk_zip]
   exact List.map_snd_zip (by simp [hl])
  ·rw [size_toArray] at h2
   match xs,(by omega:xs.length<2) with
   | [],_=>exact .nil
   | [x],_=>exact pairwise_singleton _ _
 ·rw [if_neg h2,if_neg h2]
  rw [size_toArray] at h2
  obtain ⟨fs,t1,t2,t3⟩:=lY I kr ru
  refine wpAny_bind (kat_kind (T:=.type "int") t1 (by omega) (λv hv=>?_) (by decide) ?_)
  ·obtain ⟨n,t,rfl⟩:=t3 v hv
   exact Looks.of_pure rfl
  rw [show (Value.type "int" != Value.type "tuple")=true by decide,kat_pairs true hl,show katRev true us=us.reverse from if_pos rfl,show katRev true its=its.reverse from if_pos rfl]
  have tot:=kAt_tot (ks:=(xs.map key).reverse) ((reverse_perm _).nodup_iff.mpr nd)
  rw [length_reverse,length_map] at tot
  obtain ⟨hp,hs⟩:=ev_sort tot (by omega)
  refine wpAny_bind (wpAny_mono (kat_run (vs:=its.reverse) (ks:=us.reverse) (G:=λp s'=>p=ev (kAt (xs.map key).reverse) (kas_sort xs.length)/\s'=s)
   (Q:=λst' s'=>s'=s/\failedOf st'=none/\arrOf st'=(ev (kAt (xs.map key).reverse) (kas_sort xs.length)).map (kas_item ((List.toArray us.reverse).zip (List.toArray its.reverse))))
   (by rw [length_reverse,length_reverse]; exact hl) (by rw [length_reverse]; omega) (by rw [length_reverse]; omega) (λp st' s' a1 a2 a3 a4=>⟨a4.2,a3,by rw [<- a4.1]; exact a2⟩) ?_) ?_ λ_ _ x=>x)
  ·rw [length_reverse,<- lx]
   refine wp_ev (c:=kAt (xs.map key).reverse) (λi j C hi hj hC=>?_) (inr_sort (by omega)) ⟨rfl,rfl⟩
   show wpAny _ _ (keyLt' _ (us.reverse.getD i Value.none) (us.reverse.getD j Value.none)) C _ s
   have at_:∀ i,i<xs.length->∃ y u,us.reverse.getD i Value.none=u/\o4 y u/\KeyR X.K H y ((xs.map key).reverse.getD i (0,[])):=λi hi=>by
    have hi':xs.length-1-i<ys.length:=by omega
    obtain ⟨k,ek,kk⟩:=pP.get kr (getElem?_eq_getElem hi')
    obtain ⟨u,eu,ru'⟩:=ru.get (getElem?_eq_getElem hi')
    refine ⟨ys[xs.length-1-i],u,?_,ru',?_⟩
    ·rw [getD_eq_getElem?_getD,List.getElem?_reverse (by omega),show us.length-1-i=xs.length-1-i by omega,eu]
     rfl
    ·rw [getD_eq_getElem?_getD,List.getElem?_reverse (by rw [length_map]; exact hi),length_map,ek]
     exact kk
   obtain ⟨y1,u1,e1,r1,k1⟩:=at_ i hi
   obtain ⟨y2,u2,e2,r2,k2⟩:=at_ j hj
   rw [e1,e2]
   exact key_lt hu I k1 k2 r1 r2 hC
  ·rintro ⟨⟨⟩,st'⟩ s' ⟨es,hf,har⟩
   dsimp only at es hf har ⊢
   subst es
   refine lZ (out:=pick (ev (kAt (xs.map key).reverse) (kas_sort xs.length)) its Value.none) (zs:=(pick (ev (kAt (xs.map key).reverse) (kas_sort xs.length)) xs .non).reverse) (kat_snds (by rw [length_reverse,length_reverse]; exact hl) har) ?_ hf I h0 h1 sm hD hk (pick_vals hp rv).reverse
    λH2 s2 I2 sm2 q=>h H2 s2 _ I2 sm2 q (pick_perm hp) (pick_pair hp hs)
   unfold pick
   rw [length_map,Array.length_toList,hp.sz]
   exact h64
end
section
variable {X:Cx} {pins:List (Addr × Obj)} {σ:St} {H:Hp} {s:Shared}
def KeyF (X:Cx) (pins:List (Addr × Obj)) (σ:St) (A:Around) (f:Value) (H0:Hp) (xs:List V) (key:V->Int × List Int):Prop:=
 ∀ x ∈ xs,∀ u H1 s1,o4 x u->Inv X pins σ H1 s1->oS H0 H1->wpAny (model X.prog X.w) A (call f [u]) (λk s2=>∃ y H2,Inv X pins σ H2 s2/\o4 y k/\oS H1 H2/\KeyR X.K H2 y (key x)) (λ_ _=>False) s1
theorem sort_tree {A:Around} {E:Value->Shared->Prop} {P:PySem.Fin->Shared->Prop} {H0:Hp} {D:Addr} {f:Value} {xs:List V} {key:V->Int × List Int} (hu:A.units+64<cLine)
  (I:Inv X pins σ H s) (h1:H0 D=none) (sm:oS H0 H) (hD:H D=some (.lst xs)) (h64:xs.length<64) (nd:(xs.map key).Nodup) (hf:KeyF X pins σ A f H0 xs key)
  (h:∀ H2 s2 zs,Inv X pins σ H2 s2->oS H0 H2->H2 D=some (.lst zs)->zs.Perm xs->zs.Pairwise (λx y=>klt (key y) (key x)=true)->P (.done (.ret .none)) s2):wpAny (model X.prog X.w) A (ksk_tree D f true) P E s:=by
 obtain ⟨lz,its,n,rv,lk,e⟩:=I.lstM hD
 have q:=get?_update_seq e (λ_=>#[])
 have I1:Inv X pins σ (upd H D (.ext λh=>h.get? D=some (seqObj "list" #[] (if ((#[]:Array Value).size == its.toArray.size)=true then n else n+1)))) { s with heap:=s.heap.update D (Obj.mapSeq λ_=>#[]),toks:=s.toks }:=
  I.write (x:=D) (e:=D) (by rw [hD]; exact trivial) (.inl rfl) (λb' u hb hu=>(get?_update_other _ _ (Ne.symm hb)).trans hu) ⟨_,q⟩ ⟨q,⟨_,q⟩,λ_ _ p k=>k _ p⟩
 have I2:=I1.laid (t':=s.toks) (o:=.tup xs) (λb ob z=>get?_push_of_some { cls:=.type "tuple",data:=.seq its.toArray } z) (Nat.le_refl _) ⟨by rw [sizeLine_eq]; omega,its,rv,IsTup.new _ _⟩
 have I3:=I2.lnew (t':=s.toks) (ys:=[]) (its:=[]) .nil (Nat.zero_le _)
 have nT:=I1.fresh
 have nK:=I2.fresh
 have hD1:upd H D (.ext λh=>h.get? D=some (seqObj "list" #[] (if ((#[]:Array Value).size == its.toArray.size)=true then n else n+1))) D=some (.ext λh=>h.get? D=some (seqObj "list" #[] (if ((#[]:Array Value).size == its.toArray.size)=true then n else n+1))):=ac
 have s1:oS H0 (upd H D (.ext λh=>h.get? D=some (seqObj "list" #[] (if ((#[]:Array Value).size == its.toArray.size)=true then n else n+1)))):=sm.put h1
 have hD2:=oS.new (o:=.tup xs) nT _ _ hD1
 have s2:=s1.trans (oS.new (o:=.tup xs) nT)
 have hD3:=oS.new (o:=.lst []) nK _ _ hD2
 have s3:=s2.trans (oS.new (o:=.lst []) nK)
 have hK0:=s2.free nK
 unfold ksk_tree
 refine wpAny_bind (listItems_at e rfl ?_)
 refine wpAny_bind (listUpdate_at e rfl ?_ (by rw [size_toArray,sizeLine_eq]; omega) (Nat.zero_le _))
 refine wpAny_bind (seqEpoch_at q rfl ?_)
 refine wpAny_bind (wpAny_newTuple ?_ (by show its.length<=_; rw [sizeLine_eq]; omega))
 refine wpAny_bind (wpAny_newList ?_ (Nat.zero_le _))
 refine wpAny_holding ?_
 unfold ksk_rest
 refine wpAny_bind (wpAny_rule ?_)
 first
  | rw [List.forIn_toArray]
  | (rw [<- Array.forIn_toList]; simp only [List.toList_toArray])
  | rw [<- Array.forIn_toList]
 refine wpAny_bind (mr (all:=xs) hK0 h64 hf (λu s1 C hc=>?_) (λH4 s4 ys ks I4 sm4 hD4 hk4 kr ek=>?_) xs [] its [] _ _ rfl rv I3 s3 hD3 ac .nil)
 ·refine wpAny_bind (wpAny_attempt (wpAny_mono hc (λk s5 ⟨ks,m,eo,hz,hC⟩=>?_) λ_ _ z=>z.elim))
  dsimp only
  refine wpAny_bind (listUpdate_at eo rfl ?_ (by rw [size_toArray,sizeLine_eq]; omega) (Nat.le_trans (Nat.le_of_eq (Array.size_push ..)) (by rw [size_toArray,sizeLine_eq]; omega)))
  exact wpAny_pure ⟨rfl,hC⟩
 ·dsimp only
  obtain ⟨_,us,m,ru,_,eo⟩:=I4.lstM hk4
  refine wpAny_bind (listItems_at eo rfl ?_)
  subst ek
  exact sort_end hu I4 hK0 h1 sm4 hD4 hk4 kr ru rv h64 nd h
end
def DRaw (d:Addr) (es:Array DictEntry) (ep:Nat) (h:Heap):Prop:=∃ o,h.get? d=some o/\o.ExactDict/\o.data=.dict es ep
section
variable {prog:Program} {w:World} {A:Around} {E:Value->Shared->Prop} {s:Shared} {d it:Addr} {es:Array DictEntry} {ep i:Nat}
theorem DRaw.typeIs (h:DRaw d es ep s.heap):s.TypeIs (.ref d) "dict":=let ⟨o,ho,hc,_⟩:=h; ⟨o,ho,hc.1⟩
theorem DRaw.at {h h':Heap} (x:DRaw d es ep h) (e:∀ o,h.get? d=some o->h'.get? d=some o):DRaw d es ep h':=let ⟨o,ho,r⟩:=x; ⟨o,e _ ho,r⟩
theorem iter_raw {Q:Value->Shared->Prop} (hd:(d == sysModules)=false) (hm:DRaw d es ep s.heap)
  (hQ:Q (.ref s.heap.objs.size) { s with heap:=s.heap.push { cls:=.type "dict_keyiterator",data:=.fields #[.ref d,.int 0 0,.int es.size 0,.int ep 0] } }):wpAny (model prog w) A (pyIter (.ref d)) Q E s:=by
 have hT:=hm.typeIs
 obtain ⟨o,ho,_,hdat⟩:=id hm
 refine wpAny_pyIter_slot hT F.slot_dict_iter (wpAny_call_entry F.slot_dict_iter hT F.entry_dict_iter ?_ (F.args_dict_iter_1 _))
 unfold Builtin.«dict.__iter__» Builtin.Dict.dictSlotNone
 refine wpAny_bind (wpAny_bind (wpAny_notOrdered_dict hT (wpAny_pure ?_)))
 show wpAny _ _ (Builtin.Dict.showsAll d >>= _) _ _ s
 unfold Builtin.Dict.showsAll
 rw [if_neg (by rw [hd]; exact Bool.false_ne_true)]
 refine wpAny_bind (wpAny_pure (wpAny_bind (wpAny_dictEntries ho hdat (wpAny_bind (wpAny_dictEpoch ho hdat ?_)))))
 refine wpAny_bind (wpAny_newObj_type (wpAny_pure ⟨_,rfl, "dict_keyiterator",_,⟨_,get?_push_size _ rfl,rfl⟩,F.slot_dict_keyiterator_next.lookup,?_⟩))
 simpa [rawInt] using hQ
theorem io {Q:Option Value->Shared->Prop} (hh:A.handled=none) (hit:s.heap.IsKeyIter it d i es.size ep) (hm:DRaw d es ep s.heap)
  (h1:∀ (hi:i<es.size) h',h'.IsKeyIter it d (i+1) es.size ep->Heap.SameBut it s.heap h'->Q (some es[i].key) { s with heap:=h' })
  (h2:es.size<=i->∀ h',Heap.ExtBut it s.heap h'->Q none { s with heap:=h' }):wpAny (model prog w) A (pyNext (.ref it)) Q E s:=by
 obtain ⟨o,ho,hc,hd⟩:=id hit
 obtain ⟨od,hod,_,hdd⟩:=id hm
 have hT:=hit.typeIs
 unfold pyNext
 refine wpAny_bind (wpAny_attempt (wpAny_callSpecial?_slot (name:=Str.ofString "__next__") hT F.slot_dict_keyiterator_next (wpAny_call_entry F.slot_dict_keyiterator_next hT F.entry_dict_keyiterator_next ?_ (F.args_dict_keyiterator_next_1 _))))
 refine wpAny_bind (wpAny_pure (wpAny_bind (wpAny_bind ?_)))
 first | refine wpAny_bind (wpAny_typeNameOfWhole_keyiter hT (wpAny_pure ?_)) | refine wpAny_bind (wpAny_typeNameOf_keyiter hT (wpAny_pure ?_))
 refine wpAny_bind (wpAny_fieldsOf ho hd ?_)
 simp only [show Builtin.Dict_items.ownsTuple "dict_keyiterator" = false by decide,Bool.false_eq_true,if_false]
 show wpAny _ _ (if (Value.ref d == Value.none)=true then _ else _) _ _ s
 rw [if_neg (show ¬ ((Value.ref d == Value.none)=true) from Bool.false_ne_true)]
 refine wpAny_bind (wpAny_pure (wpAny_bind (wpAny_dictEntries hod hdd ?_)))
 rw [if_neg (by simp)]
 refine wpAny_bind (wpAny_pure (wpAny_bind (wpAny_dictEpoch hod hdd ?_)))
 rw [if_neg (by simp)]
 refine wpAny_pure ?_
 by_cases hlt:i<es.size
 ·simp only [show ¬ ((i:Int)<0) from by omega,if_false,Int.toNat_natCast,Array.getElem?_eq_getElem hlt]
  refine wpAny_bind ?_
  first | refine wpAny_bind (wpAny_typeNameOfWhole_keyiter hT (wpAny_pure ?_)) | refine wpAny_bind (wpAny_typeNameOf_keyiter hT (wpAny_pure ?_))
  refine wpAny_bind (wpAny_isOneOf_keyiter hT ?_)
  show wpAny _ _ (setField (.ref it) 1 (rawInt ((i:Int)+1)) >>= _) _ _ s
  refine wpAny_bind (wpAny_setField ho hd (by simp) ?_)
  have hit':(s.heap.update it (Obj.mapFields (·.setIfInBounds 1 (rawInt ((i:Int)+1))))).IsKeyIter it d (i+1) es.size ep:=
   ⟨_,get?_update_self _ ho (Obj.isFreed_of_fields (Obj.data_mapFields hd _)),(Obj.cls_mapFields ..).trans hc,by rw [Obj.data_mapFields hd]; simp [rawInt]⟩
  refine wpAny_bind (wpAny_holding (wpAny_bind (wpAny_isOneOf_keyiter (s:={ s with heap:=s.heap.update it (Obj.mapFields (·.setIfInBounds 1 (rawInt ((i:Int)+1)))) }) hit'.typeIs ?_)))
  show wpAny _ _ (pure es[i].key) _ _ _
  exact wpAny_pure (wpAny_pure ⟨_,rfl,wpAny_pure (h1 hlt _ hit' (Heap.SameBut.update ..))⟩)
 ·simp only [show ¬ ((i:Int)<0) from by omega,if_false,Int.toNat_natCast,Array.getElem?_eq_none (Nat.le_of_not_lt hlt)]
  refine wpAny_bind ?_
  first | refine wpAny_bind (wpAny_typeNameOfWhole_keyiter hT (wpAny_pure ?_)) | refine wpAny_bind (wpAny_typeNameOf_keyiter hT (wpAny_pure ?_))
  show wpAny _ _ (setField (.ref it) 0 .none >>= _) _ _ s
  refine wpAny_bind (wpAny_setField ho hd (by simp) ?_)
  show wpAny _ _ (newExc (.type "StopIteration") [] >>= _) _ _ _
  refine wpAny_bind ?_
  simp only [newExc,newTuple]
  refine wpAny_bind (wpAny_newObj_type ?_ (by size_fits))
  refine wpAny_bind (m:=firstArgMember _ _) (wpAny_of_eq (a:=Value.none) (by first | rfl | (simp only [firstArgMember]; rfl)) ?_)
  refine wpAny_newObj_type ?_ (by size_fits)
  simp only [raiseNew]
  refine wpAny_bind (wpAny_handled ?_)
  rw [show A.in1.handled=none from hh]
  refine wpAny_bind (wpAny_pure (wpAny_throw ?_))
  refine wpAny_bind (wpAny_isInstance (T := "StopIteration") (b:=true) ⟨_,get?_push_size _ rfl,rfl⟩ isSubtype_stop ?_)
  exact wpAny_pure (h2 (Nat.le_of_not_lt hlt) _ (((Heap.SameBut.update ..).extBut.push _).push _))
theorem walks_raw (hh:A.handled=none) (it d:Addr) (hne:d ≠ it) (es:Array DictEntry) (ep:Nat) :
  Walks prog w A it [it,d] [it] es.size (λi v=>∃ hi:i<es.size,v=es[i].key) (λi h=>h.IsKeyIter it d i es.size ep/\DRaw d es ep h) where
 sub:=λb hb=>by simp at hb; simp [hb]
 frame:=λ_ _ _ st hk=>⟨st.1.at λo e=>hk it (by simp) o e,st.2.at λo e=>hk d (by simp) o e⟩
 item:=λi s Q E hi st hQ=>io hh st.1 st.2 (λhi h' hit' hs'=>hQ _ h' s.toks ⟨hi,rfl⟩ ⟨hit',st.2.at λo e=>hs'.extBut d o hne e⟩ λb o hb e=>hs'.extBut b o (λh=>hb (by simp [h])) e) λhge=>absurd hi (Nat.not_lt.mpr hge)
 done:=λs Q E st hQ=>io hh st.1 st.2 (λhi=>absurd hi (Nat.lt_irrefl _)) λ_ h' he'=>hQ h' s.toks λb o hb e=>he' b o (λh=>hb (by simp [h])) e
 self:=λ_ _ _ _ st hQ=>wpAny_pyIter_keyiter st.1 hQ
theorem src_raw (lo:(d == sysModules)=false):KdlSrc prog w "dict" d d es.size (λi v=>∃ hi:i<es.size,v=es[i].key) (DRaw d es ep) where
 type:=λ_ hm=>hm.typeIs
 there:=λ_ ⟨_,ho,_⟩=>⟨lt_size ho,lt_size ho⟩
 keep:=λ_ _ hm hk=>hm.at λo e=>hk d (.inl rfl) o e
 notList:=by decide
 notTuple:=by decide
 hint:=λ_ _ _ _ hm hq=>kdl_hint_dict hm.typeIs hq
 iter:=λ_ s hh hm=>⟨_,_,(λ_ _ hq=>iter_raw lo hm hq),walks_raw hh _ d (Nat.ne_of_lt (let ⟨_,ho,_⟩:=hm; lt_size ho)) es ep,⟨⟨_,get?_push_size _ rfl,rfl,rfl⟩,hm.at λo e=>get?_push_of_some _ e⟩⟩
end
section
variable {X:Cx} {pins:List (Addr × Obj)} {σ:St} {H:Hp} {s:Shared}
def Src (K:Frag) (H:Hp) (x:V) (B:List V->Prop):Prop:=
 (∃ l xs,x=.ref l/\SqL K H l xs/\B xs)\/∃ d kvs,x=.ref d/\H d=some (.dT kvs)/\∀ as,Paired (λ(p:List Key × V) (a:Addr)=>H a=some (.tup (p.1.map kV))) kvs as->B (as.map V.ref)
theorem collect_src {E:Value->Shared->Prop} {A:Around} {x:V} {u:Value} {B:List V->Prop} {R:List Value->Shared->Prop} (hh:A.handled=none) (I:Inv X pins σ H s) (rx:o4 x u) (hs:Src X.K H x B)
  (h:∀ h' tk its xs,B xs->o0 xs its->(∀ b o,s.heap.get? b=some o->h'.get? b=some o)->xs.length<=sizeLine->R its { s with heap:=h',toks:=tk }):wpAny (model X.prog X.w) A (collect u) R E s:=by
 rcases hs with ⟨l,xs,rfl,hl,hB⟩ | ⟨d,kvs,rfl,hd,hB⟩
 ·cases rx
  obtain ⟨its,rv,p,hz⟩:=I.list hl
  refine collect_list (vs:=its) p.isList (h _ s.toks its xs hB rv (λb o q=>?_) hz) (by rw [<- rv.length]; exact hz)
  have hlt:b<s.heap.objs.size:=lt_size q
  rw [Heap.get?_update_ne _ _ _ _ (Nat.ne_of_lt hlt),Heap.get?_push_ne _ _ _ (Nat.ne_of_lt hlt)]
  exact q
 ·cases rx
  obtain ⟨hz,hm,es3,kt,o,es,ep,h1,h2,h3,h4,h5⟩:=(show pd X.prog X.w H s.heap d (.dT kvs) from I.hok d _ hd)
  have hsz:es.size=kvs.length:=by rw [<- Array.length_toList,h4,length_map,<- Paired.length kt]
  refine kdu_collect (src_raw (es:=es) (ep:=ep) hm) hh ⟨o,h1,h2,h3⟩ (by rw [hsz]; exact hz) λh' tk acc hk ha=>?_
  have go:∀ {l:List (List Key × V)} {m:List (List Key × Addr × Value)},Paired (λ(p:List Key × V) (q:List Key × Addr × Value)=>p.1=q.1/\H q.2.1=some (.tup (p.1.map kV))/\o4 p.2 q.2.2) l m->
    Paired (λ(p:List Key × V) (a:Addr)=>H a=some (.tup (p.1.map kV))) l (m.map (·.2.1)):=by
   intro l m q
   induction q with
   | nil=>exact .nil
   | cons hq t ih=>exact .cons hq.2.1 ih
  have ke:acc.toList=(es3.map (·.2.1)).map Value.ref:=by
   apply List.ext_getElem?
   intro j
   rw [Array.getElem?_toList]
   by_cases hj:j<es.size
   ·have hj':j<acc.size:=by rw [ha.1]; exact hj
    obtain ⟨_,e⟩:=ha.2 j acc[j] (Array.getElem?_eq_getElem hj')
    rw [Array.getElem?_eq_getElem hj',e]
    have e2:es.toList[j]? = (es3.map (entryOfKey (tupleKind (bg X.prog X.w))))[j]?:=by rw [h4]
    rw [Array.getElem?_toList,Array.getElem?_eq_getElem hj,getElem?_map] at e2
    rw [getElem?_map,getElem?_map]
    cases e3:es3[j]? with
    | none=>rw [e3] at e2; cases e2
    | some q=>
     rw [e3] at e2
     show some es[j].key=some (Value.ref q.2.1)
     have e4:es[j]=entryOfKey (tupleKind (bg X.prog X.w)) q:=Option.some.inj e2
     rw [e4]
     rfl
   ·rw [Array.getElem?_eq_none (by rw [ha.1]; omega)]
    symm
    apply getElem?_eq_none
    rw [length_map,length_map,<- Paired.length kt]
    omega
  have vals:∀ l:List Addr,o0 (l.map V.ref) (l.map Value.ref):=by
   intro l
   induction l with
   | nil=>exact .nil
   | cons a l ih=>exact .cons rfl ih
  rw [ke]
  exact h h' tk _ _ (hB _ (go kt)) (vals _) hk (by rw [length_map,length_map,<- Paired.length kt]; exact hz)
theorem call_sorted {E:Value->Shared->Prop} {x:V} {u:Value} {f:Addr} {B:List V->Prop} {Q:Value->Shared->Prop} (hh:X.A.handled=none) (hu:X.A.in1.in1.units+64<cLine) (I:Inv X pins σ H s) (rx:o4 x u) (hs:Src X.K H x B)
  (hB:∀ xs,B xs->xs.length<64/\∃ key:V->Int × List Int,(xs.map key).Nodup/\KeyF X pins σ X.A.in1.in1 (.ref f) H xs key/\
   ∀ D H2 s2 zs,H D=none->Inv X pins σ H2 s2->oS H H2->H2 D=some (.lst zs)->zs.Perm xs->zs.Pairwise (λx y=>klt (key y) (key x)=true)->Q (.ref D) s2) :
  wpAny (model X.prog X.w) X.A (call (.builtin "sorted") [u] [(Str.ofString "key",.ref f),(Str.ofString "reverse",.bool true)]) Q E s:=by
 refine call_function_entry_kw kind_sorted plain_sorted entry_sorted (ksk_s2 _ _ _) ?_
 unfold Builtin.«sorted»
 refine wpAny_bind (m:=checkCount "sorted" 1 1 _) (wpAny_pure ?_)
 refine wpAny_bind (collect_src (A:=X.A.in1) hh I rx hs λh' tk its xs src rv hk' hz=>?_)
 obtain ⟨h64,key,nd,kf,h⟩:=hB xs src
 have I1:Inv X pins σ H { s with heap:=h',toks:=tk }:=I.kept hk'
 have I2:=I1.lnew (t':=tk) rv hz
 refine wpAny_bind (wpAny_newList ?_ (by rw [<- rv.length]; exact hz))
 refine wpAny_bind (wpAny_holding (wpAny_call_entry_kw slot_list_sort ⟨_,get?_push_size _ rfl,rfl⟩ entry_list_sort ?_ (ksk_l2 _ _ _)))
 rw [ksk_t2]
 refine sort_tree (key:=key) hu I2 I1.fresh (oS.new I1.fresh) ac h64 nd kf λH2 s2 zs I3 sm q pm pw=>⟨_,rfl,wpAny_pure ⟨_,rfl,h _ H2 s2 zs I1.fresh I3 sm q pm pw⟩⟩
end
def SortB (K:Frag) (sp:Sp) (H1:Hp) (Q:VK) (xs:List V):Prop:=xs.length<64/\∃ key:V->Int × List Int,(xs.map key).Nodup/\(∀ y ∈ xs,∀ H2,oS H1 H2->sp [y] H2 (λz H3=>oS H2 H3/\KeyR K H3 z (key y)) E0)/\
 ∀ D H2 zs,H1 D=none->oS H1 H2->H2 D=some (.lst zs)->zs.Perm xs->zs.Pairwise (λx y=>klt (key y) (key x)=true)->Q (.ref D) H2
def tSort (K:Frag) (sp:Sp) (te:TE):TE:=λσ H Q=>te σ H λx H1=>Src K H1 x (SortB K sp H1 Q)
section
variable {X:Cx} {p pos kp k1 k2 kp2:Pos} {e:Expr} {te:TE}
theorem key_fn {pins:List (Addr × Obj)} {σ:St} {A:Around} {k:Nat} {sp:Sp} {f:Addr} {fd:FuncData} {ps:List Str} {H0:Hp} {xs:List V} {key:V->Int × List Int} (F:oY X.prog X.w X.K X.mg X.base CX0 k f fd ps sp) (hb:pK X.K fd ps []) (hr:ph k X.A.in1.in1)
  (h:∀ y ∈ xs,∀ H2,oS H0 H2->sp [y] H2 (λz H3=>oS H2 H3/\KeyR X.K H3 z (key y)) E0):KeyF X pins σ X.A.in1.in1 (.ref f) H0 xs key:=by
 intro x hx u H1 s1 rx I sm
 have h':=h x hx H1 sm
 have r2:o0 [x] [u]:=.cons rx .nil
 have hl:([u]++[]).length=ps.length:=F.len _ _ _ _ h'
 refine wpAny_call (codeAny_mono (F.run X.A.in1.in1 X.stack s1 H1 ⟨[u],[]⟩ [u] [x] _ E0 hr I.env0.in1.in1 (hb s1 [u] I.kIn hl) r2 h') λr s' hq=>?_)
 cases r with
 | error e=>exact hq
 | ok fl=>
  cases fl with
  | ret v=>
   obtain ⟨y,H2,I2,ry,q1,q2⟩:=I.after hq
   exact ⟨y,H2,I2,ry,q1,q2⟩
  | next=>exact False.elim hq
  | brk=>exact False.elim hq
  | cont=>exact False.elim hq
theorem pe_sortK (T:Blt X.mg) {x:Str} {k:Nat} {sp:Sp} {j:Nat} (F:FnB X.prog X.w X.K X.mg X.base k x sp) (hr:ph (k+2) X.A) (he:PE X e te) (hg:Gl X "sorted":=by rfl) (hgx:Gl X x:=by rfl) (hdb:(x == ("__debug__" : Str))=false:=by decide)
  (hs:starEach [e] X.env=[(false,eval e X.env)]:=by rfl) :
  PE X (.Call (.Name "sorted" p) [e] [⟨some "key",.Name x kp,k1⟩,⟨some "reverse",.Constant (.bool true) j kp2,k2⟩] pos) (tSort X.K sp te):=by
 obtain ⟨f,fd,ps,F',hm,hk,hb⟩:=F.ex
 intro pins s σ H Q I h
 refine wpAny_Call_Name_kw (gg I hg T.sorted boot_sorted ?_)
 refine callWith_kw ?_ (by rw [hs]; rfl) (by rw [hs]; rfl)
 refine thn ((aa he ae hs) pos pins s σ H (λvs H1=>match vs with | [v]=>Src X.K H1 v (SortB X.K sp H1 Q) | _=>False) I h) λus s1 ⟨vs,H1,I1,r1,q1⟩=>?_
 match vs,r1,q1 with
 | [v],r1,q1=>
  obtain ⟨u,rfl,ru⟩:=r1.one
  refine thn ((pk_cons (jQ (v:=.ref f) hgx hm rfl hdb) (pk_cons bV pk_nil)) pos pins s1 σ H1 (λzs H2=>zs=[V.ref f,.bl true]/\H2=H1) I1 ⟨rfl,rfl⟩) λws s2 ⟨zs,H2,I2,r2,e1,e2⟩=>?_
  subst e1 e2
  obtain ⟨w1,w2,rfl,rw1,rw2⟩:=r2.two
  cases rw1
  cases rw2
  refine call_sorted (f:=f) hr.hd hr.in1.in1.units I2 ru q1 λxs ⟨h64,key,nd,hk1,hq⟩=>⟨h64,key,nd,key_fn (A:=X.A) F' hb hr.in1.in1 hk1,λD H3 s3 zs nD I3 sm q pm pw=>⟨.ref D,H3,I3,rfl,hq D H3 zs nD sm q pm pw⟩⟩
end
def Itd (d:Addr) (o:Obj) (u:HO) (vs:List V):It:=⟨λi H=>H d=some (.frz o u)/\i<vs.length,λi H x H'=>H'=H/\vs[i]? = some x,λi H=>H d=some (.frz o u)/\vs.length<=i⟩
theorem turn_dict {P:Program} {w:World} {K:Frag} {tg:Expr} {d it:Addr} {o:Obj} {u:HO} {es:Array DictEntry} {ep:Nat} {vs:List V} (hx:o.ExactDict) (hd:o.data=.dict es ep) (rv:o0 vs (es.toList.map (·.key))) :
  lE P w K tg (Itd d o u vs) [it] it (λi h=>h.IsKeyIter it d i es.size ep) where
 mem:=by simp
 obj:=λi h st b hb=>by
  have e:b=it:=by simpa using hb
  subst e
  obtain ⟨o,e,c,d⟩:=st
  exact ⟨o,e,λv z=>by rw [d] at z; cases z⟩
 keep:=λi h h' st k=>st.at λo e=>k it (by simp) o e
 item:=by
  intro X hP hw hK hc i pins s σ H E I hf st hg
  subst hP hw hK
  obtain ⟨hD,hi⟩:=(show H d=some (.frz o u)/\i<vs.length from hg)
  have hl:vs.length=es.size:=by rw [rv.length]; simp
  have ho:s.heap.get? d=some o:=(show pd X.prog X.w H s.heap d (.frz o u) from I.hok d _ hD).1
  obtain ⟨f0,f1,f2,f3,f4,f5⟩:=hf it (by simp)
  refine io (I.ok.hd hc) st ⟨o,ho,hx,hd⟩ (λhi' h' st' sb=>?_) λhge=>absurd hi (by omega)
  have I1:Inv X pins σ H { s with heap:=h' }:=I.turned (t':=s.toks) (λb o hb e=>(sb.2 b hb).trans e) f0 f1 f3 f4 f5
  obtain ⟨x,hxi⟩:∃ x,vs[i]? = some x:=⟨_,getElem?_eq_getElem hi⟩
  obtain ⟨v,hv,rx⟩:=rv.get hxi
  have hv':es[i].key=v:=by
   rw [getElem?_map,Array.getElem?_toList,Array.getElem?_eq_getElem hi'] at hv
   exact Option.some.inj hv
  obtain ⟨ob,e,c,dd⟩:=id st'
  exact ⟨_,rfl,go_of (s:={ s with heap:=h' }) e c dd (by decide) ⟨x,H,I1,by rw [hv']; exact rx,⟨rfl,hxi⟩,st',λb hb=>(hf b hb).1⟩⟩
 done:=by
  intro X hP hw hK hc i pins s σ H E I hf st hg
  subst hP hw hK
  obtain ⟨hD,hi⟩:=(show H d=some (.frz o u)/\vs.length<=i from hg)
  have hl:vs.length=es.size:=by rw [rv.length]; simp
  have ho:s.heap.get? d=some o:=(show pd X.prog X.w H s.heap d (.frz o u) from I.hok d _ hD).1
  obtain ⟨f0,f1,f2,f3,f4,f5⟩:=hf it (by simp)
  exact io (I.ok.hd hc) st ⟨o,ho,hx,hd⟩ (λhi'=>absurd hi' (by omega)) λ_ h' eb=>⟨rfl,I.turned (t':=s.toks) (λb o hb e=>eb b o hb e) f0 f1 f3 f4 f5⟩
 self:=λ_ _ _ _ _ st h=>wpAny_pyIter_keyiter st h
def iDict (tl:TE):TI:=λσ H R=>tl σ H λx H1=>∃ d kvs,x=.ref d/\H1 d=some (.dT kvs)/\∀ o as,Paired (λ(p:List Key × V) (a:Addr)=>H1 a=some (.tup (p.1.map kV))) kvs as->R (Itd d o (.dT kvs) (as.map V.ref)) (upd H1 d (.frz o (.dT kvs)))
theorem ml {P:Program} {w:World} {H:Hp} {kvs:List (List Key × V)} {m:List (List Key × Addr × Value)} (q:Paired (λ(p:List Key × V) (q:List Key × Addr × Value)=>p.1=q.1/\H q.2.1=some (.tup (p.1.map kV))/\o4 p.2 q.2.2) kvs m) :
  Paired (λ(p:List Key × V) (a:Addr)=>H a=some (.tup (p.1.map kV))) kvs (m.map (·.2.1))/\o0 ((m.map (·.2.1)).map V.ref) ((m.map (entryOfKey (tupleKind (bg P w)))).map (·.key)):=by
 induction q with
 | nil=>exact ⟨.nil,.nil⟩
 | cons hq t ih=>exact ⟨.cons hq.2.1 ih.1,.cons rfl ih.2⟩
theorem pi_dict {X:Cx} {tg l:Expr} {tl:TE} (hl:PE X l tl):PI X tg l (iDict tl):=by
 intro pins s σ H R I h
 refine thn (hl pins s σ H _ I h) λv s1 ⟨x,H1,I1,r1,q1⟩=>?_
 obtain ⟨d,kvs,e,hd,q⟩:=q1
 subst e
 cases r1
 obtain ⟨hz,hm,es3,kt,o,es,ep,h1,h2,h3,h4,h5⟩:=id (show pd X.prog X.w H1 s1.heap d (.dT kvs) from I1.hok d _ hd)
 obtain ⟨k1,k2⟩:=ml (P:=X.prog) (w:=X.w) kt
 have go:∀ {l:List (List Key × V)} {m:List (List Key × Addr × Value)},Paired (λ(p:List Key × V) (q:List Key × Addr × Value)=>p.1=q.1/\H1 q.2.1=some (.tup (p.1.map kV))/\o4 p.2 q.2.2) l m->
   Paired (λ(p:List Key × V) (q:List Key × Addr × Value)=>p.1=q.1/\upd H1 d (.frz o (.dT kvs)) q.2.1=some (.tup (p.1.map kV))/\o4 p.2 q.2.2) l m:=by
  intro l m q
  induction q with
  | nil=>exact .nil
  | cons hq t ih=>exact .cons ⟨hq.1,by rw [ao (bW hq.2.1 hd (by intro z; cases z))]; exact hq.2.1,hq.2.2⟩ ih
 have I2:Inv X pins σ (upd H1 d (.frz o (.dT kvs))) { s1 with heap:=s1.heap,toks:=s1.toks }:=I1.write (x:=d) (e:=d) (by rw [hd]; exact trivial) (.inl rfl) (λ_ _ _ z=>z) ⟨_,h1⟩ ⟨h1,hz,hm,es3,go kt,o,es,ep,h1,h2,h3,h4,h5⟩
 rw [<- h4] at k2
 refine iter_raw hm ⟨o,h1,h2,h3⟩ ?_
 refine ⟨s1.heap.objs.size,[s1.heap.objs.size],_,_,_,rfl,I2.kept (t':=s1.toks) λb o e=>get?_push_of_some _ e,turn_dict (u:=.dT kvs) h2 h3 k2,⟨_,get?_push_size _ rfl,rfl,rfl⟩,λb hb=>?_,q o _ k1⟩
 have e:b=s1.heap.objs.size:=by simpa using hb
 subst e
 exact I2.fpOk (Nat.le_refl _) (I2.hok.fresh (Nat.le_refl _))
theorem hu1 {k:Nat} {A:Around} (hr:ph k A):A.units+1<cLine:=by have:=hr.un; omega
theorem kpi_dict {X:Cx} {tg e:Expr} {te:TE} (K:Frag) (hK:X.K=K) (hl:PE X e te):PI X tg e (iDict te):=pi_dict hl
def kI (k:List Int):List Key:=k.map Sum.inl
theorem kI_inj {a b:List Int} (h:kI a=kI b):a=b:=by
 induction a generalizing b with
 | nil=>cases b with
  | nil=>rfl
  | cons y b=>cases h
 | cons x a ih=>cases b with
  | nil=>cases h
  | cons y b=>
   have h':(Sum.inl x:Key)::kI a=Sum.inl y::kI b:=h
   injection h' with h1 h2
   injection h1 with h1
   rw [h1,ih h2]
theorem mT (k:List Int):(kI k).map kV=k.map V.int:=by
 unfold kI
 rw [map_map]
 rfl
section
variable {α:Type}
def bn (m:List (List Int × α)) (k:List Int):Option α:=(m.find? λp=>decide (p.1=k)).map (·.2)
def cR (m:List (List Int × α)) (k:List Int) (x:α):List (List Int × α):=if (bn m k).isSome then m.map (λp=>if p.1=k then (p.1,x) else p) else m++[(k,x)]
theorem aval_nil (k:List Int):bn ([]:List (List Int × α)) k=none:=rfl
theorem bp {p:List Int × α} {r:List (List Int × α)} {k:List Int} (e:p.1=k):bn (p::r) k=some p.2:=by simp [bn,find?_cons,e]
theorem aU {p:List Int × α} {r:List (List Int × α)} {k:List Int} (e:¬ p.1=k):bn (p::r) k=bn r k:=by simp [bn,find?_cons,e]
theorem qg {k:List Int}:∀ {m:List (List Int × α)},bn m k=none↔¬ k ∈ m.map (·.1)
 | []=>by simp [aval_nil]
 | p::r=>by
  by_cases e:p.1=k
  ·rw [bp e]
   simp [e]
  ·rw [aU e,qg (m:=r),map_cons,mem_cons]
   exact ⟨λh z=>z.elim (λz=>e z.symm) h,λh z=>h (.inr z)⟩
theorem bo {k:List Int} {x:α}:∀ {m:List (List Int × α)},bn m k=some x->(k,x) ∈ m
 | p::r,h=>by
  by_cases e:p.1=k
  ·rw [bp e] at h
   have:p=(k,x):=Prod.ext e (Option.some.inj h)
   rw [this]; simp
  ·rw [aU e] at h
   exact List.mem_cons.mpr (.inr (bo h))
theorem gH {k:List Int} {x:α}:∀ {m:List (List Int × α)},(m.map (·.1)).Nodup->(k,x) ∈ m->bn m k=some x
 | p::r,hn,h=>by
  have hn':(p.1::r.map (·.1)).Nodup:=hn
  obtain ⟨h1,h2⟩:=List.nodup_cons.mp hn'
  rcases List.mem_cons.mp h with z | z
  ·rw [<- z]
   exact bp rfl
  ·have:k ∈ r.map (·.1):=List.mem_map.mpr ⟨_,z,rfl⟩
   rw [aU (λe=>h1 (by rw [e]; exact this))]
   exact gH h2 z
theorem aput_keys (m:List (List Int × α)) (k:List Int) (x:α):(cR m k x).map (·.1)=if (bn m k).isSome then m.map (·.1) else m.map (·.1)++[k]:=by
 unfold cR
 split
 ·rw [map_map]
  apply List.map_congr_left
  intro p _
  show (if p.1=k then (p.1,x) else p).1=p.1
  split<;>rfl
 ·rw [map_append]; rfl
theorem aput_nodup {m:List (List Int × α)} {k:List Int} {x:α} (h:(m.map (·.1)).Nodup):((cR m k x).map (·.1)).Nodup:=by
 rw [aput_keys]
 split
 ·exact h
 ·rename_i hs
  have hn:bn m k=none:=by
   cases e:bn m k with
   | none=>rfl
   | some y=>rw [e] at hs; exact absurd rfl hs
  exact List.nodup_append.mpr ⟨h,by simp,λa ha b hb=>by
   rw [List.mem_singleton.mp hb]
   intro z
   exact qg.mp hn (by rw [<- z]; exact ha)⟩
theorem cX {m:List (List Int × α)} {k:List Int} {x:α} {p:List Int × α} (h:p ∈ cR m k x):p=(k,x)\/p ∈ m:=by
 unfold cR at h
 split at h
 ·obtain ⟨q,hq,e⟩:=List.mem_map.mp h
  by_cases hk:q.1=k
  ·rw [if_pos hk] at e
   exact .inl (by rw [<- e,hk])
  ·rw [if_neg hk] at e
   exact .inr (by rw [<- e]; exact hq)
 ·rcases List.mem_append.mp h with z | z
  ·exact .inr z
  ·exact .inl (List.mem_singleton.mp z)
theorem aput_len (m:List (List Int × α)) (k:List Int) (x:α):(cR m k x).length<=m.length+1:=by
 unfold cR
 split
 ·rw [length_map]; omega
 ·rw [length_append]; simp
def pi (R:V->α->Prop) (kvs:List (List Key × V)) (m:List (List Int × α)):Prop:=Paired (λ(p:List Key × V) (q:List Int × α)=>p.1=kI q.1/\R p.2 q.2) kvs m
theorem pi.mono {R R':V->α->Prop} (h:∀ v x,R v x->R' v x):∀ {kvs:List (List Key × V)} {m:List (List Int × α)},pi R kvs m->pi R' kvs m
 | _,_,.nil=>.nil
 | _,_,.cons q r=>.cons ⟨q.1,h _ _ q.2⟩ (pi.mono h r)
theorem pi.val {R:V->α->Prop} (k:List Int):∀ {kvs:List (List Key × V)} {m:List (List Int × α)},pi R kvs m->(gL kvs (kI k)=none/\bn m k=none)\/∃ v x,gL kvs (kI k)=some v/\bn m k=some x/\R v x
 | _,_,.nil=>.inl ⟨rfl,rfl⟩
 | p::_,q' :: _,.cons q r=>by
  by_cases e:q'.1=k
  ·exact .inr ⟨p.2,q'.2,iO (by rw [q.1,e]),bp e,q.2⟩
  ·rw [iG (λz=>e (kI_inj (q.1.symm.trans z))),aU e]
   exact pi.val k r
theorem pi.put {R:V->α->Prop} {k:List Int} {v:V} {x:α} (hx:R v x) {kvs:List (List Key × V)} {m:List (List Int × α)} (h:pi R kvs m):pi R (cQ kvs (kI k) v) (cR m k x):=by
 unfold cQ cR
 rw [j8]
 rcases h.val k with ⟨e1,e2⟩ | ⟨v',x',e1,e2,_⟩
 ·rw [e1,e2]
  have go:∀ {kvs:List (List Key × V)} {m:List (List Int × α)},pi R kvs m->pi R (kvs++[(kI k,v)]) (m++[(k,x)]):=by
   intro kvs m h
   induction h with
   | nil=>exact .cons ⟨rfl,hx⟩ .nil
   | cons q r ih=>exact .cons q ih
  exact go h
 ·rw [e1,e2]
  have go:∀ {kvs:List (List Key × V)} {m:List (List Int × α)},pi R kvs m->pi R (kvs.map λkv=>if kv.1=kI k then (kv.1,v) else kv) (m.map λp=>if p.1=k then (p.1,x) else p):=by
   intro kvs m h
   induction h with
   | nil=>exact .nil
   | @cons p q ps qs hq r ih=>
    refine .cons ?_ ih
    dsimp only
    by_cases e:q.1=k
    ·rw [if_pos (by rw [hq.1,e]),if_pos e]
     exact ⟨hq.1,hx⟩
    ·rw [if_neg (λz=>e (kI_inj (hq.1.symm.trans z))),if_neg e]
     exact hq
  exact go h
theorem pi.tups {R:V->α->Prop} {H:Hp}:∀ {kvs:List (List Key × V)} {m:List (List Int × α)} {as:List Addr},pi R kvs m->Paired (λ(p:List Key × V) (a:Addr)=>H a=some (.tup (p.1.map kV))) kvs as->
  Paired (λ(a:Addr) (q:List Int × α)=>H a=some (.tup (q.1.map V.int))) as m
 | _,_,_,.nil,.nil=>.nil
 | _,_,_,.cons q r,.cons t ts=>.cons (by rw [q.1,mT] at t; exact t) (pi.tups r ts)
end
theorem fY {β:Type} {lt:β->β->Bool} (irr:∀ a,lt a a=false) (tr:∀ a b c,lt a b=true->lt b c=true->lt a c=true):∀ {xs ys:List β},xs.Perm ys->xs.Pairwise (λa b=>lt b a=true)->ys.Pairwise (λa b=>lt b a=true)->xs=ys
 | [],ys,p,_,_=>(List.nil_perm.mp p).symm
 | x::xs,[],p,_,_=>by have:=p.length_eq; simp at this
 | x::xs,y::ys,p,h1,h2=>by
  obtain ⟨a1,a2⟩:=List.pairwise_cons.mp h1
  obtain ⟨b1,b2⟩:=List.pairwise_cons.mp h2
  have e:x=y:=by
   have mx:x ∈ y::ys:=p.mem_iff.mp (by simp)
   have my:y ∈ x::xs:=p.mem_iff.mpr (by simp)
   rcases List.mem_cons.mp mx with z | z
   ·exact z
   ·rcases List.mem_cons.mp my with w | w
    ·exact w.symm
    ·have c1:=b1 x z
     have c2:=a1 y w
     have:=tr _ _ _ c1 c2
     rw [irr] at this
     cases this
  subst e
  rw [fY irr tr ((List.perm_cons x).mp p) a2 b2]
variable {X:Cx}
section
variable {K:Frag} {e:Expr} {te:TE} {p pos:Pos}
end
end L2
namespace L2
open PySem PySem.Spec PyProof.Rows PySem.W
section
variable {prog:Program} {w:World} {A:Around} {E:Value->Shared->Prop} {s:Shared} {d it v:Addr} {es:Array DictEntry} {ep i:Nat}
theorem items_raw {Q:Value->Shared->Prop} (hd:(d == sysModules)=false) (hm:DRaw d es ep s.heap)
  (hQ:Q (.ref s.heap.objs.size) { s with heap:=s.heap.push { cls:=.type "dict_items",data:=.fields #[.ref d] } }):wpAny (model prog w) A (call (.builtin "dict.items") [.ref d]) Q E s:=by
 have hT:=hm.typeIs
 refine wpAny_call_entry F.slot_dict_items hT F.entry_dict_items ?_ (F.args_dict_items_1 _)
 unfold Builtin.«dict.items» Builtin.Dict.noArgs
 refine wpAny_bind (wpAny_bind (wpAny_notOrdered_dict hT (wpAny_pure ?_)))
 show wpAny _ _ (Builtin.Dict.showsAll d >>= _) _ _ s
 unfold Builtin.Dict.showsAll
 rw [if_neg (by rw [hd]; exact Bool.false_ne_true)]
 exact wpAny_bind (wpAny_pure (wpAny_bind (wpAny_newObj_type (wpAny_pure ⟨_,rfl,hQ⟩))))
theorem iterI_raw {Q:Value->Shared->Prop} (hv:s.heap.IsItemsView v d) (hm:DRaw d es ep s.heap)
  (hQ:Q (.ref s.heap.objs.size) { s with heap:=s.heap.push { cls:=.type "dict_itemiterator",data:=.fields #[.none,.bool false,.ref d,.int 0 0,.int es.size 0,.int ep 0,.none,.none] } }):wpAny (model prog w) A (pyIter (.ref v)) Q E s:=by
 obtain ⟨ov,hov,hcv,hdv⟩:=id hv
 obtain ⟨o,ho,_,hdat⟩:=id hm
 refine wpAny_pyIter_slot hv.typeIs F.slot_dict_items_iter (wpAny_call_entry F.slot_dict_items_iter hv.typeIs F.entry_dict_items_iter ?_ (F.args_dict_items_iter_1 _))
 unfold Builtin.«dict_items.__iter__» Builtin.Dict_items.dictOf
 refine wpAny_bind (wpAny_pure (wpAny_bind (wpAny_bind (wpAny_field hov hdv (x:=.ref d) rfl (wpAny_pure ?_)))))
 refine wpAny_bind ?_
 unfold Builtin.Dict_items.newIterator
 refine wpAny_bind (wpAny_dictEntries ho hdat (wpAny_bind (wpAny_dictEpoch ho hdat ?_)))
 simp only [show Builtin.Dict_items.ownsTuple "dict_itemiterator"=true by decide,if_true]
 refine wpAny_newObj_type (wpAny_pure ⟨_,rfl, "dict_itemiterator",_,⟨_,get?_push_size _ rfl,rfl⟩,F.slot_dict_itemiterator_next.lookup,?_⟩)
  (by simp only [sizeOk,Builtin.Dict_items.ownedTupleFields,size_toArray,length_append,length_cons,length_nil,sizeLine_eq]; omega)
 simpa [rawInt,Builtin.Dict_items.ownedTupleFields] using hQ
theorem lP {ok ov:Value} {Q:Option Value->Shared->Prop} (hh:A.handled=none) (hit:IsItemIter s.heap it d i es.size ep ok ov) (hm:DRaw d es ep s.heap)
  (h1:∀ (hi:i<es.size) h',IsItemIterOut h' it d (i+1) es.size ep es[i].key es[i].val s.heap.objs.size->h'.get? s.heap.objs.size=some { cls:=.type "tuple",data:=.seq #[es[i].key,es[i].val] }->
   (∀ b o,b ≠ it->s.heap.get? b=some o->h'.get? b=some o)->Q (some (.ref s.heap.objs.size)) { s with heap:=h' })
  (h2:es.size<=i->∀ h',Heap.ExtBut it s.heap h'->Q none { s with heap:=h' }):wpAny (model prog w) A (pyNext (.ref it)) Q E s:=by
 obtain ⟨hp,g,dr,tk,os⟩:=s
 obtain ⟨od,hod,_,hdd⟩:=id hm
 have hT:Shared.TypeIs ⟨hp,g,dr,tk,os⟩ (.ref it) "dict_itemiterator":=⟨_,hit,rfl⟩
 unfold pyNext
 refine wpAny_bind (wpAny_attempt (wpAny_callSpecial?_slot (name:=Str.ofString "__next__") hT F.slot_dict_itemiterator_next (wpAny_call_entry F.slot_dict_itemiterator_next hT F.entry_dict_itemiterator_next ?_ (F.args_dict_itemiterator_next_1 _))))
 refine wpAny_bind (wpAny_pure (wpAny_bind (wpAny_bind ?_)))
 first | refine wpAny_bind (wpAny_typeNameOfWhole_itemiter hT (wpAny_pure ?_)) | refine wpAny_bind (wpAny_typeNameOf_itemiter hT (wpAny_pure ?_))
 refine wpAny_bind (wpAny_fieldsOf hit rfl ?_)
 simp only [show Builtin.Dict_items.ownsTuple "dict_itemiterator"=true by decide,if_true]
 show wpAny _ _ (if (Value.ref d == Value.none)=true then _ else _) _ _ _
 rw [if_neg (show ¬ ((Value.ref d == Value.none)=true) from Bool.false_ne_true)]
 refine wpAny_bind (wpAny_pure (wpAny_bind (wpAny_dictEntries hod hdd ?_)))
 rw [if_neg (by simp)]
 refine wpAny_bind (wpAny_pure (wpAny_bind (wpAny_dictEpoch hod hdd ?_)))
 rw [if_neg (by simp)]
 refine wpAny_pure ?_
 by_cases hlt:i<es.size
 ·simp only [show ¬ ((i:Int)<0) from by omega,if_false,Int.toNat_natCast,Array.getElem?_eq_getElem hlt]
  refine wpAny_bind ?_
  first | refine wpAny_bind (wpAny_typeNameOfWhole_itemiter hT (wpAny_pure ?_)) | refine wpAny_bind (wpAny_typeNameOf_itemiter hT (wpAny_pure ?_))
  refine wpAny_bind (wpAny_isOneOf_itemiter hT ?_)
  show wpAny _ _ (setField (.ref it) 3 (rawInt ((i:Int)+1)) >>= _) _ _ ⟨hp,g,dr,tk,os⟩
  refine wpAny_bind (wpAny_setField_rec hit (by simp) λk1 e1 b1=>?_)
  replace b1:Heap.SameBut it hp k1:=b1
  replace e1:IsItemIter k1 it d (i+1) es.size ep ok ov:=by
   have e:((i+1:Nat):Int)=(i:Int)+1:=by omega
   unfold IsItemIter; rw [e]; simpa [rawInt] using e1
  have hT1:Shared.TypeIs ⟨k1,g,dr,tk,os⟩ (.ref it) "dict_itemiterator":=⟨_,e1,rfl⟩
  refine wpAny_bind (wpAny_holding (wpAny_bind (wpAny_isOneOf_itemiter hT1 (wpAny_bind (wpAny_isOneOf_itemiter hT1 ?_)))))
  show wpAny _ _ (Builtin.Dict_items.pairFromOwner (.ref it) 6 es[i].key es[i].val) _ _ ⟨k1,g,dr,tk,os⟩
  unfold Builtin.Dict_items.pairFromOwner
  refine wpAny_bind (wpAny_newTuple ?_)
  have e2:IsItemIter (k1.push { cls:=.type "tuple",data:=.seq #[es[i].key,es[i].val] }) it d (i+1) es.size ep ok ov:=get?_push_of_some _ e1
  generalize hk2:k1.push { cls:=.type "tuple",data:=.seq #[es[i].key,es[i].val] }=k2 at e2
  have z1:k1.objs.size=hp.objs.size:=b1.1
  have hil:it<hp.objs.size:=lt_size hit
  have t2:k2.get? hp.objs.size=some { cls:=.type "tuple",data:=.seq #[es[i].key,es[i].val] }:=by rw [<- hk2,<- z1]; exact get?_push_size _ rfl
  have c2:∀ b o,b ≠ it->hp.get? b=some o->k2.get? b=some o:=λb o hb e=>by rw [<- hk2]; exact get?_push_of_some _ (b1.extBut b o hb e)
  show wpAny _ _ (Builtin.Dict_items.ownedTupleIsFree (.ref it) >>= _) _ _ ⟨k2,g,dr,tk,os⟩
  rw [z1]
  clear hk2 e1 b1 hT1 z1 k1
  refine wpAny_bind ?_
  unfold Builtin.Dict_items.ownedTupleIsFree
  refine wpAny_bind (wpAny_field e2 rfl (x:=.none) rfl (wpAny_pure ?_))
  simp only [if_true]
  refine wpAny_bind (wpAny_field e2 rfl (x:=ok) rfl (wpAny_bind (wpAny_field e2 rfl (x:=ov) rfl (wpAny_bind (wpAny_setField_rec e2 (by simp) λk3 e3 b3=>?_)))))
  replace b3:Heap.SameBut it k2 k3:=b3
  replace e3:IsItemIter k3 it d (i+1) es.size ep es[i].key ov:=e3
  refine wpAny_bind (wpAny_setField_rec e3 (by simp) λk4 e4 b4=>?_)
  replace b4:Heap.SameBut it k3 k4:=b4
  replace e4:IsItemIter k4 it d (i+1) es.size ep es[i].key es[i].val:=e4
  refine wpAny_bind (wpAny_setField_rec e4 (by simp) λk5 e5 b5=>?_)
  replace b5:Heap.SameBut it k4 k5:=b5
  replace e5:IsItemIterOut k5 it d (i+1) es.size ep es[i].key es[i].val hp.objs.size:=e5
  refine wpAny_bind (wpAny_setField_rec e5 (by simp) λk6 e6 b6=>?_)
  replace b6:Heap.SameBut it k5 k6:=b6
  replace e6:IsItemIterOut k6 it d (i+1) es.size ep es[i].key es[i].val hp.objs.size:=e6
  have ne:=Nat.ne_of_gt hil
  refine wpAny_bind (wpAny_letGo (wpAny_pure (wpAny_pure ⟨_,rfl,wpAny_pure (h1 hlt k6 e6 (b6.extBut _ _ ne (b5.extBut _ _ ne (b4.extBut _ _ ne (b3.extBut _ _ ne t2)))) λb o hb e=>?_)⟩)))
  exact b6.extBut b o hb (b5.extBut b o hb (b4.extBut b o hb (b3.extBut b o hb (c2 b o hb e))))
 ·simp only [show ¬ ((i:Int)<0) from by omega,if_false,Int.toNat_natCast,Array.getElem?_eq_none (Nat.le_of_not_lt hlt)]
  refine wpAny_bind ?_
  first | refine wpAny_bind (wpAny_typeNameOfWhole_itemiter hT (wpAny_pure ?_)) | refine wpAny_bind (wpAny_typeNameOf_itemiter hT (wpAny_pure ?_))
  show wpAny _ _ (setField (.ref it) 2 .none >>= _) _ _ _
  refine wpAny_bind (wpAny_setField hit rfl (by simp) ?_)
  show wpAny _ _ (newExc (.type "StopIteration") [] >>= _) _ _ _
  refine wpAny_bind ?_
  simp only [newExc,newTuple]
  refine wpAny_bind (wpAny_newObj_type ?_ (by size_fits))
  refine wpAny_bind (m:=firstArgMember _ _) (wpAny_of_eq (a:=Value.none) (by first | rfl | (simp only [firstArgMember]; rfl)) ?_)
  refine wpAny_newObj_type ?_ (by size_fits)
  simp only [raiseNew]
  refine wpAny_bind (wpAny_handled ?_)
  rw [show A.in1.handled=none from hh]
  refine wpAny_bind (wpAny_pure (wpAny_throw ?_))
  refine wpAny_bind (wpAny_isInstance (T := "StopIteration") (b:=true) ⟨_,get?_push_size _ rfl,rfl⟩ isSubtype_stop ?_)
  exact wpAny_pure (h2 (Nat.le_of_not_lt hlt) _ (((Heap.SameBut.update ..).extBut.push _).push _))
end
def mB (v d:Addr):HO:=.ext λh=>h.IsItemsView v d
def Iti (d:Addr) (o:Obj) (u:HO) (kv:List (V × V)):It:=
 ⟨λi H=>H d=some (.frz o u)/\i<kv.length,λi H x H'=>∃ p k y,x=.ref p/\H p=none/\H'=upd H p (.tup [k,y])/\kv[i]? = some (k,y),λi H=>H d=some (.frz o u)/\kv.length<=i⟩
theorem turn_items {P:Program} {w:World} {K:Frag} {tes:List Expr} {tk:Nat} {tp:Pos} {d it:Addr} {o:Obj} {u:HO} {es:Array DictEntry} {ep:Nat} {kv:List (V × V)} (hx:o.ExactDict) (hd:o.data=.dict es ep)
  (r1:o0 (kv.map (·.1)) (es.toList.map (·.key))) (r2:o0 (kv.map (·.2)) (es.toList.map (·.val))) :
  lE P w K (.Tuple tes tk tp) (Iti d o u kv) [it] it (λi h=>∃ ok ov,IsItemIter h it d i es.size ep ok ov) where
 mem:=by simp
 obj:=λi h ⟨ok,ov,st⟩ b hb=>by
  have e:b=it:=by simpa using hb
  subst e
  exact ⟨_,st,λv z=>by cases z⟩
 keep:=λi h h' ⟨ok,ov,st⟩ k=>⟨ok,ov,k it (by simp) _ st⟩
 item:=by
  intro X hP hw hK hc i pins s σ H E I hf st hg
  subst hP hw hK
  obtain ⟨hD,hi⟩:=(show H d=some (.frz o u)/\i<kv.length from hg)
  obtain ⟨ok,ov,st⟩:=st
  have ho:s.heap.get? d=some o:=(show pd X.prog X.w H s.heap d (.frz o u) from I.hok d _ hD).1
  refine lP (I.ok.hd hc) st ⟨o,ho,hx,hd⟩ (λhi' h' a1 a5 hk=>?_) λhge=>absurd hi (by have:=r1.length; simp at this; omega)
  refine ⟨_,rfl,wpAny_letOwnedTupleGo_items a1 λh'' hz'' sb=>?_⟩
  obtain ⟨⟨x,y⟩,hxy⟩:∃ q,kv[i]? = some q:=⟨_,getElem?_eq_getElem hi⟩
  obtain ⟨v1,hv1,rx⟩:=r1.get (i:=i) (x:=x) (by rw [getElem?_map,hxy]; rfl)
  obtain ⟨v2,hv2,ry⟩:=r2.get (i:=i) (x:=y) (by rw [getElem?_map,hxy]; rfl)
  have e1:es[i].key=v1:=by
   rw [getElem?_map,Array.getElem?_toList,Array.getElem?_eq_getElem hi'] at hv1
   exact Option.some.inj hv1
  have e2:es[i].val=v2:=by
   rw [getElem?_map,Array.getElem?_toList,Array.getElem?_eq_getElem hi'] at hv2
   exact Option.some.inj hv2
  rw [e1,e2] at a5
  have lit:it<s.heap.objs.size:=lt_size st
  have nit:s.heap.objs.size ≠ it:=Nat.ne_of_gt lit
  have hT:h''.get? s.heap.objs.size=some { cls:=.type "tuple",data:=.seq #[v1,v2] }:=(sb.2 _ nit).trans a5
  have fresh:H s.heap.objs.size=none:=I.hok.fresh (Nat.le_refl _)
  have gT:(s.heap.push { cls:=.type "tuple",data:=.seq #[v1,v2] }).get? s.heap.objs.size=some { cls:=.type "tuple",data:=.seq #[v1,v2] }:=get?_push_size _ rfl
  have I1:Inv X pins σ (upd H s.heap.objs.size (.tup [x,y])) { s with heap:=s.heap.push { cls:=.type "tuple",data:=.seq #[v1,v2] },toks:=s.toks }:=
   I.laid (λb o e=>get?_push_of_some _ e) (Nat.le_refl _) ⟨by show 2<=sizeLine; decide,[v1,v2],.cons rx (.cons ry .nil),_,gT,rfl,_,rfl⟩
  have fp1:∀ c ∈ [it],eO X pins (upd H s.heap.objs.size (.tup [x,y])) c:=λc hc=>by
   have e:c=it:=by simpa using hc
   subst e
   exact ⟨by rw [ao nit.symm]; exact (hf c hc).1,(hf c hc).2⟩
  have I2:=I1.turnedN (h':=h'') (t':=s.toks) (fp:=[it]) (λc o hc e=>by
   have hc':c ≠ it:=by simpa using hc
   rcases get?_push_cases e with ⟨e1,e2⟩ | e1
   ·rw [e1,e2]
    exact hT
   ·exact (sb.2 c hc').trans (hk c o hc' e1)) fp1
  exact ⟨.ref s.heap.objs.size,_,I2,rfl,⟨_,x,y,rfl,fresh,rfl,hxy⟩,⟨_,_,hz''⟩,λc hc=>(fp1 c hc).1⟩
 done:=by
  intro X hP hw hK hc i pins s σ H E I hf st hg
  subst hP hw hK
  obtain ⟨hD,hi⟩:=(show H d=some (.frz o u)/\kv.length<=i from hg)
  obtain ⟨ok,ov,st⟩:=st
  have ho:s.heap.get? d=some o:=(show pd X.prog X.w H s.heap d (.frz o u) from I.hok d _ hD).1
  refine lP (I.ok.hd hc) st ⟨o,ho,hx,hd⟩ (λhi'=>absurd hi' (by have:=r1.length; simp at this; omega)) λ_ h' eb=>⟨rfl,I.turnedN (t':=s.toks) (λc o hc e=>eb c o (by simpa using hc) e) hf⟩
 self:=λ_ _ _ _ _ ⟨_,_,st⟩ h=>kcp_self st h
def rItems:V->List V->Hp->VK->Prop:=λx vs H Q=>∃ d kvs,x=.ref d/\vs=[]/\H d=some (.dT kvs)/\∀ v,H v=none->Q (.ref v) (upd H v (mB v d))
theorem mt_items {X:Cx}:MtR X "dict.items" rItems:=by
 intro pins s σ H x xs v us Q I rx rv h
 obtain ⟨d,kvs,rfl,rfl,hd,q⟩:=h
 cases rx
 cases rv
 obtain ⟨hz,hm,es3,kt,o,es,ep,h1,h2,h3,h4,h5⟩:=id (show pd X.prog X.w H s.heap d (.dT kvs) from I.hok d _ hd)
 refine items_raw hm ⟨o,h1,h2,h3⟩ ?_
 have gV:(s.heap.push { cls:=.type "dict_items",data:=.fields #[.ref d] }).get? s.heap.objs.size=some { cls:=.type "dict_items",data:=.fields #[.ref d] }:=get?_push_size _ rfl
 refine ⟨.ref s.heap.objs.size,_,I.laid (t':=s.toks) (λb o e=>get?_push_of_some _ e) (Nat.le_refl _) ?_,rfl,q _ (I.hok.fresh (Nat.le_refl _))⟩
 exact ⟨⟨_,gV,rfl,rfl⟩,⟨_,gV⟩,λk1 k2 ⟨o,e,c⟩ k=>⟨o,k o e,c⟩⟩
def iItems (tl:TE):TI:=λσ H R=>tl σ H λx H1=>∃ v d kvs,x=.ref v/\H1 v=some (mB v d)/\H1 d=some (.dT kvs)/\∀ o as,Paired (λ(p:List Key × V) (a:Addr)=>H1 a=some (.tup (p.1.map kV))) kvs as->R (Iti d o (.dT kvs) ((as.map V.ref).zip (kvs.map (·.2)))) (upd H1 d (.frz o (.dT kvs)))
theorem dict_vals {P:Program} {w:World} {H:Hp} {kvs:List (List Key × V)} {m:List (List Key × Addr × Value)} (q:Paired (λ(p:List Key × V) (q:List Key × Addr × Value)=>p.1=q.1/\H q.2.1=some (.tup (p.1.map kV))/\o4 p.2 q.2.2) kvs m) :
  o0 (kvs.map (·.2)) ((m.map (entryOfKey (tupleKind (bg P w)))).map (·.val)):=by
 induction q with
 | nil=>exact .nil
 | cons hq t ih=>exact .cons hq.2.2 ih
theorem pi_items {X:Cx} {tes:List Expr} {tk:Nat} {tp:Pos} {l:Expr} {tl:TE} (hl:PE X l tl):PI X (.Tuple tes tk tp) l (iItems tl):=by
 intro pins s σ H R I h
 refine thn (hl pins s σ H _ I h) λv s1 ⟨x,H1,I1,r1,q1⟩=>?_
 obtain ⟨vw,d,kvs,e,hv,hd,q⟩:=q1
 subst e
 cases r1
 obtain ⟨hz,hm,es3,kt,o,es,ep,h1,h2,h3,h4,h5⟩:=id (show pd X.prog X.w H1 s1.heap d (.dT kvs) from I1.hok d _ hd)
 obtain ⟨k1,k2⟩:=ml (P:=X.prog) (w:=X.w) kt
 have k3:=dict_vals (P:=X.prog) (w:=X.w) kt
 have hview:s1.heap.IsItemsView vw d:=(show pd X.prog X.w H1 s1.heap vw (mB vw d) from I1.hok vw _ hv).1
 have go:∀ {l:List (List Key × V)} {m:List (List Key × Addr × Value)},Paired (λ(p:List Key × V) (q:List Key × Addr × Value)=>p.1=q.1/\H1 q.2.1=some (.tup (p.1.map kV))/\o4 p.2 q.2.2) l m->
   Paired (λ(p:List Key × V) (q:List Key × Addr × Value)=>p.1=q.1/\upd H1 d (.frz o (.dT kvs)) q.2.1=some (.tup (p.1.map kV))/\o4 p.2 q.2.2) l m:=by
  intro l m q
  induction q with
  | nil=>exact .nil
  | cons hq t ih=>exact .cons ⟨hq.1,by rw [ao (bW hq.2.1 hd (by intro z; cases z))]; exact hq.2.1,hq.2.2⟩ ih
 have I2:Inv X pins σ (upd H1 d (.frz o (.dT kvs))) { s1 with heap:=s1.heap,toks:=s1.toks }:=I1.write (x:=d) (e:=d) (by rw [hd]; exact trivial) (.inl rfl) (λ_ _ _ z=>z) ⟨_,h1⟩ ⟨h1,hz,hm,es3,go kt,o,es,ep,h1,h2,h3,h4,h5⟩
 rw [<- h4] at k2 k3
 have len:((es3.map (·.2.1)).map V.ref).length=(kvs.map (·.2)).length:=by
  have:=Paired.length kt
  simp only [length_map]
  omega
 refine iterI_raw hview ⟨o,h1,h2,h3⟩ ?_
 refine ⟨s1.heap.objs.size,[s1.heap.objs.size],_,_,_,rfl,I2.kept (t':=s1.toks) λb o e=>get?_push_of_some _ e,turn_items (u:=.dT kvs) h2 h3 (kv:=((es3.map (·.2.1)).map V.ref).zip (kvs.map (·.2))) (by rw [List.map_fst_zip (Nat.le_of_eq len)]; exact k2) (by rw [List.map_snd_zip (Nat.le_of_eq len.symm)]; exact k3),⟨_,_,get?_push_size _ rfl⟩,λb hb=>?_,q o _ k1⟩
 have e:b=s1.heap.objs.size:=by simpa using hb
 subst e
 exact I2.fpOk (Nat.le_refl _) (I2.hok.fresh (Nat.le_refl _))
theorem kpi_items {X:Cx} {tes:List Expr} {tk:Nat} {tp apos cpos:Pos} {o:Expr} {to:TE} (K:Frag) (hK:X.K=K) (ho:PE X o to)
  (hbase:attributeBase o "items" X.env (eval o X.env)=eval o X.env:=by rfl) (hline:(apos.endLine == cpos.line)=true:=by rfl) :
  PI X (.Tuple tes tk tp) (.Call (.Attribute o "items" apos) [] [] cpos) (iItems (tBM0 K "dict" rItems to)):=by
 subst hK
 exact pi_items (pe_bm0 PySem.F.plainAttrs_dict PySem.F.slot_dict_items PySem.F.type_dict_items mt_items ho hbase hline)
section
variable {X:Cx} {K:Frag} {e st:Expr} {te:TE} {ts:TO} {pos p2:Pos}
end
section
variable {X:Cx} {p pos:Pos} {e:Expr} {te:TE} {K:Frag}
def rMax1 (t:Bool) (K:Frag):List V->Hp->VK->Prop:=λxs H Q=>∃ (p:Addr) (ns:List Int),xs=[.ref p]/\SqV t K H p (ns.map V.int)/\ns ≠ []/\∀ m,m ∈ ns->(∀ x ∈ ns,x<=m)->Q (.int m) H
def rMin1 (t:Bool) (K:Frag):List V->Hp->VK->Prop:=λxs H Q=>∃ (p:Addr) (ns:List Int),xs=[.ref p]/\SqV t K H p (ns.map V.int)/\ns ≠ []/\∀ m,m ∈ ns->(∀ x ∈ ns,m<=x)->Q (.int m) H
theorem call_max1 (hc:X.calm=true) (t:Bool):dE X (.builtin "max") (rMax1 t X.K):=by
 intro pins s σ H xs us Q I rv h
 obtain ⟨p,ns,rfl,q,hne,hq⟩:=h
 obtain ⟨u,rfl,ru⟩:=gO rv
 cases ru
 obtain ⟨its,rb,po,z⟩:=I.seqV q
 have hh:X.A.in1.handled=none:=I.ok.hd hc
 have hlen:=rb.length
 rw [length_map] at hlen
 have hpos:0<ns.length:=List.length_pos_iff.mpr hne
 have hval:∀ (i:Nat) (v:Value),its.toArray[i]? = some v->∃ t,v=Value.int (ns.getD i 0) t:=by
  intro i v hv
  have hv':its[i]? = some v:=by simpa using hv
  have hil:i<its.length:=(List.getElem?_eq_some_iff.mp hv').1
  have hb:(ns.map V.int)[i]? = some (.int (ns.getD i 0)):=by
   rw [getElem?_map,getD_eq_getElem?_getD,getElem?_eq_getElem (by omega)]
   rfl
  obtain ⟨u,hu,ru⟩:=rb.get hb
  rw [hv'] at hu
  cases hu
  exact ru
 refine call_max_walk (gw po λo hi=>?_)
 have hlt:p<s.heap.objs.size:=by obtain ⟨ob,e⟩:=po.obj; exact lt_size e
 refine ⟨s.heap.objs.size,_,_,_,_,_,_,rfl,Walks.sq t hh s.heap.objs.size p (Nat.ne_of_lt hlt) its.toArray,⟨hi,po.at λo' e=>get?_push_of_some _ e⟩,λb hb=>?_,?_,CmpOf.ints_gt (λi=>ns.getD i 0) hval,λv h' tk hP hk=>?_⟩
 ·show b<(s.heap.push o).objs.size
  rw [size_push]
  rcases List.mem_cons.mp hb with rfl | hb
  ·exact Nat.lt_succ_self _
  ·rcases List.mem_cons.mp hb with rfl | hb
   ·exact Nat.lt_succ_of_lt hlt
   ·cases hb
 ·rw [size_toArray]
  omega
 ·have I1:Inv X pins σ H { s with heap:=s.heap.push o,toks:=s.toks }:=I.kept λb u e=>get?_push_of_some _ e
  have fp:eO X pins H s.heap.objs.size:=I.fpOk (Nat.le_refl _) (I.hok.fresh (Nat.le_refl _))
  have I2:Inv X pins σ H { s with heap:=h',toks:=tk }:=by
   have:=I1.turnedN (fp:=[s.heap.objs.size]) (h':=h') (t':=tk) (λb ob hb e=>hk b ob hb e) (λb hb=>by have e:b=s.heap.objs.size:=by simpa using hb
                                                                                                     subst e; exact fp)
   exact this
  obtain ⟨g1,g2⟩:=argBest_gt (λi=>ns.getD i 0) (its.toArray.size-1)
  rw [size_toArray] at g1 g2 hP
  obtain ⟨tv,rfl⟩:=hval _ _ hP
  have hi2:argBest (λi j=>decide (ns.getD i 0 > ns.getD j 0)) (its.length-1)<ns.length:=by omega
  refine ⟨.int (ns.getD (argBest (λi j=>decide (ns.getD i 0 > ns.getD j 0)) (its.length-1)) 0),H,I2,⟨tv,rfl⟩,hq _ ?_ λx hx=>?_⟩
  ·rw [getD_eq_getElem?_getD,getElem?_eq_getElem hi2]
   exact getElem_mem hi2
  ·obtain ⟨j,hj,rfl⟩:=getElem_of_mem hx
   have:=g2 j (by omega)
   rw [getD_eq_getElem?_getD (i:=j),getElem?_eq_getElem hj] at this
   exact this
theorem call_min1 (hc:X.calm=true) (t:Bool):dE X (.builtin "min") (rMin1 t X.K):=by
 intro pins s σ H xs us Q I rv h
 obtain ⟨p,ns,rfl,q,hne,hq⟩:=h
 obtain ⟨u,rfl,ru⟩:=gO rv
 cases ru
 obtain ⟨its,rb,po,z⟩:=I.seqV q
 have hh:X.A.in1.handled=none:=I.ok.hd hc
 have hlen:=rb.length
 rw [length_map] at hlen
 have hpos:0<ns.length:=List.length_pos_iff.mpr hne
 have hval:∀ (i:Nat) (v:Value),its.toArray[i]? = some v->∃ t,v=Value.int (ns.getD i 0) t:=by
  intro i v hv
  have hv':its[i]? = some v:=by simpa using hv
  have hil:i<its.length:=(List.getElem?_eq_some_iff.mp hv').1
  have hb:(ns.map V.int)[i]? = some (.int (ns.getD i 0)):=by
   rw [getElem?_map,getD_eq_getElem?_getD,getElem?_eq_getElem (by omega)]
   rfl
  obtain ⟨u,hu,ru⟩:=rb.get hb
  rw [hv'] at hu
  cases hu
  exact ru
 refine call_min_walk (gw po λo hi=>?_)
 have hlt:p<s.heap.objs.size:=by obtain ⟨ob,e⟩:=po.obj; exact lt_size e
 refine ⟨s.heap.objs.size,_,_,_,_,_,_,rfl,Walks.sq t hh s.heap.objs.size p (Nat.ne_of_lt hlt) its.toArray,⟨hi,po.at λo' e=>get?_push_of_some _ e⟩,λb hb=>?_,?_,CmpOf.ints_lt (λi=>ns.getD i 0) hval,λv h' tk hP hk=>?_⟩
 ·show b<(s.heap.push o).objs.size
  rw [size_push]
  rcases List.mem_cons.mp hb with rfl | hb
  ·exact Nat.lt_succ_self _
  ·rcases List.mem_cons.mp hb with rfl | hb
   ·exact Nat.lt_succ_of_lt hlt
   ·cases hb
 ·rw [size_toArray]
  omega
 ·have I1:Inv X pins σ H { s with heap:=s.heap.push o,toks:=s.toks }:=I.kept λb u e=>get?_push_of_some _ e
  have fp:eO X pins H s.heap.objs.size:=I.fpOk (Nat.le_refl _) (I.hok.fresh (Nat.le_refl _))
  have I2:Inv X pins σ H { s with heap:=h',toks:=tk }:=by
   have:=I1.turnedN (fp:=[s.heap.objs.size]) (h':=h') (t':=tk) (λb ob hb e=>hk b ob hb e) (λb hb=>by have e:b=s.heap.objs.size:=by simpa using hb
                                                                                                     subst e; exact fp)
   exact this
  obtain ⟨g1,g2⟩:=argBest_lt (λi=>ns.getD i 0) (its.toArray.size-1)
  rw [size_toArray] at g1 g2 hP
  obtain ⟨tv,rfl⟩:=hval _ _ hP
  have hi2:argBest (λi j=>decide (ns.getD i 0<ns.getD j 0)) (its.length-1)<ns.length:=by omega
  refine ⟨.int (ns.getD (argBest (λi j=>decide (ns.getD i 0<ns.getD j 0)) (its.length-1)) 0),H,I2,⟨tv,rfl⟩,hq _ ?_ λx hx=>?_⟩
  ·rw [getD_eq_getElem?_getD,getElem?_eq_getElem hi2]
   exact getElem_mem hi2
  ·obtain ⟨j,hj,rfl⟩:=getElem_of_mem hx
   have:=g2 j (by omega)
   rw [getD_eq_getElem?_getD (i:=j),getElem?_eq_getElem hj] at this
   exact this
theorem j9 (T:Blt X.mg) (ha:PE X e te) (b:Bool) (hK:X.K=K:=by rfl) (hc:X.calm=true:=by rfl) (hg:Gl X "max":=by rfl) (hs:starEach [e] X.env=[(false,eval e X.env)]:=by rfl):PE X (.Call (.Name "max" p) [e] [] pos) (tCB (rMax1 b K) (bL te eT)):=by
 subst hK
 exact cJ (call_max1 hc b) hg T.max mK (aa ha ae hs) (by decide) (by decide) hs
theorem kpl_min1 (T:Blt X.mg) (ha:PE X e te) (b:Bool) (hK:X.K=K:=by rfl) (hc:X.calm=true:=by rfl) (hg:Gl X "min":=by rfl) (hs:starEach [e] X.env=[(false,eval e X.env)]:=by rfl):PE X (.Call (.Name "min" p) [e] [] pos) (tCB (rMin1 b K) (bL te eT)):=by
 subst hK
 exact cJ (call_min1 hc b) hg T.min mh (aa ha ae hs) (by decide) (by decide) hs
end
theorem m8 {t1 t2:Bool} {K:Frag} {a b:Addr} {xs ys:List V} {g:TG} {tb:TS} {D:fJ} {σ:St} {H:Hp} (Pv:Nat->St->Hp->Prop) (h0:Pv 0 σ H) (hl:∀ i σ H,i<=min xs.length ys.length->Pv i σ H->SqV t1 K H a xs/\SqV t2 K H b ys)
  (hs:∀ (i:Nat) x y σ H p,xs[i]? = some x->ys[i]? = some y->Pv i σ H->H p=none->g (.ref p) σ (upd H p (.tup [x,y])) λσ2 H2=>tb { D with nx:=Pv (i+1),ct:=Pv (i+1),bk:=D.nx } σ2 H2) (hd:∀ σ H,Pv (min xs.length ys.length) σ H->D.nx σ H) :
  ∃ W:Nat->Nat->St->Hp->Prop,(∃ m,W 0 m σ H)/\∀ i m σ H,W i m σ H->
   ((Itz t1 t2 K a b).stop i H/\D.nx σ H)\/((Itz t1 t2 K a b).go i H/\∃ N:St->Hp->Prop,(∀ σ' H',N σ' H'->∃ m',m' < m/\W (i+1) m' σ' H')/\∀ x H',(Itz t1 t2 K a b).yld i H x H'->g x σ H' λσ2 H2=>tb { D with nx:=N,ct:=N,bk:=D.nx } σ2 H2):=by
 refine ⟨λi m σ H=>m=min xs.length ys.length-i/\i<=min xs.length ys.length/\Pv i σ H,⟨min xs.length ys.length,by simp,Nat.zero_le _,h0⟩,?_⟩
 rintro i m σ H ⟨rfl,hi,p⟩
 obtain ⟨q1,q2⟩:=hl i σ H hi p
 by_cases hlt:i<min xs.length ys.length
 ·have hx:i<xs.length:=by omega
  have hy:i<ys.length:=by omega
  refine .inr ⟨⟨xs,ys,xs[i],ys[i],q1,q2,by simp [hx],by simp [hy]⟩,Pv (i+1),λσ' H' p'=>⟨min xs.length ys.length-(i+1),by omega,rfl,hlt,p'⟩,λx H' y=>?_⟩
  obtain ⟨l,x1,y1,rfl,hl1,rfl,g1,g2⟩:=y
  exact hs i x1 y1 σ _ l (g1 xs q1) (g2 ys q2) p hl1
 ·have e:i=min xs.length ys.length:=by omega
  subst e
  refine .inl ⟨⟨xs,ys,q1,q2,?_⟩,hd σ H p⟩
  omega
theorem iK:∀ (names:List (Str × NameKind)) (n:Nat) (acc:List (Str × Addr)) (x:Str) (c:Nat),(cellsFrom n names acc).lookup x=some c->(n<=c/\(x,NameKind.cell) ∈ names)\/acc.lookup x=some c
 | [],n,acc,x,c,h=>.inr h
 | (m,k)::r,n,acc,x,c,h=>by
  unfold cellsFrom at h
  split at h
  ·rename_i hk
   rcases iK r (n+1) _ x c h with ⟨a,b⟩ | z
   ·exact .inl ⟨by omega,mem_cons_of_mem _ b⟩
   ·cases hx:x == m with
    | true=>
     simp only [lookup_cons,hx] at z
     cases z
     have e:x=m:=by simpa using hx
     have e2:k=NameKind.cell:=by simpa using hk
     subst e e2
     exact .inl ⟨Nat.le_refl _,mem_cons_self⟩
    | false=>
     simp only [lookup_cons,hx] at z
     exact .inr z
  ·rcases iK r n acc x c h with ⟨a,b⟩ | z
   ·exact .inl ⟨a,mem_cons_of_mem _ b⟩
   ·exact .inr z
theorem jS:∀ (names:List (Str × NameKind)) (n:Nat) (acc:List (Str × Addr)) (x:Str),(∃ c,acc.lookup x=some c)->∃ c,(cellsFrom n names acc).lookup x=some c
 | [],n,acc,x,h=>h
 | (m,k)::r,n,acc,x,h=>by
  unfold cellsFrom
  split
  ·refine jS r (n+1) _ x ?_
   cases hx:x == m with
   | true=>exact ⟨n,by simp only [lookup_cons,hx]⟩
   | false=>
    obtain ⟨c,h⟩:=h
    exact ⟨c,by simp only [lookup_cons,hx]; exact h⟩
  ·exact jS r n acc x h
theorem cf_has:∀ (names:List (Str × NameKind)) (n:Nat) (acc:List (Str × Addr)) (x:Str),(x,NameKind.cell) ∈ names->∃ c,(cellsFrom n names acc).lookup x=some c
 | [],n,acc,x,h=>absurd h (by simp)
 | (m,k)::r,n,acc,x,h=>by
  unfold cellsFrom
  rcases List.mem_cons.mp h with e | e
  ·cases e
   rw [if_pos (by decide)]
   exact jS r (n+1) _ m ⟨n,by simp [lookup_cons]⟩
  ·split
   ·exact cf_has r (n+1) _ x e
   ·exact cf_has r n acc x e
theorem jR:∀ (names:List (Str × NameKind)) (n:Nat) (acc:List (Str × Addr)) (x:Str),(x,NameKind.cell) ∉ names->(cellsFrom n names acc).lookup x=acc.lookup x
 | [],n,acc,x,h=>rfl
 | (m,k)::r,n,acc,x,h=>by
  have h':(x,NameKind.cell) ∉ r:=λz=>h (mem_cons_of_mem _ z)
  unfold cellsFrom
  split
  ·rename_i hk
   rw [jR r (n+1) _ x h']
   cases hx:x == m with
   | true=>
    have e:x=m:=by simpa using hx
    have e2:k=NameKind.cell:=by simpa using hk
    subst e e2
    exact absurd mem_cons_self h
   | false=>simp only [lookup_cons,hx]
  ·exact jR r n acc x h'
theorem cf_own:∀ (names:List (Str × NameKind)) (n:Nat) (acc:List (Str × Addr)) (x:Str) (c:Nat),((x,NameKind.cell) ∈ names\/∀ c:Nat,acc.lookup x=some c->n<=c)->(∀ c,acc.lookup x=some c->True)->(cellsFrom n names acc).lookup x=some c->(x,NameKind.cell) ∈ names->n<=c
 | [],n,acc,x,c,_,_,_,h=>absurd h (by simp)
 | (m,k)::r,n,acc,x,c,h0,h1,h,hm=>by
  by_cases hr:(x,NameKind.cell) ∈ r
  ·unfold cellsFrom at h
   split at h
   ·have:=cf_own r (n+1) _ x c (.inl hr) (λ_ _=>trivial) h hr
    omega
   ·exact cf_own r n acc x c (.inl hr) (λ_ _=>trivial) h hr
  ·have e:(x,NameKind.cell)=(m,k):=by
    rcases List.mem_cons.mp hm with z | z
    ·exact z
    ·exact absurd z hr
   cases e
   unfold cellsFrom at h
   rw [if_pos (by decide),jR r (n+1) _ m hr] at h
   simp [lookup_cons] at h
   exact Nat.le_of_eq h
theorem cf_inj:∀ (names:List (Str × NameKind)) (n:Nat) (acc:List (Str × Addr)) (x y:Str) (c:Nat),(∀ (z:Str) (a:Nat),acc.lookup z=some a->a<n)->(cellsFrom n names acc).lookup x=some c->(cellsFrom n names acc).lookup y=some c->n<=c->x=y
 | [],n,acc,x,y,c,h,h1,h2,hc=>absurd (h x c h1) (by omega)
 | (m,k)::r,n,acc,x,y,c,h,h1,h2,hc=>by
  unfold cellsFrom at h1 h2
  split at h1
  ·rename_i hk
   rw [if_pos hk] at h2
   by_cases hn:n+1<=c
   ·refine cf_inj r (n+1) _ x y c (λz a e=>?_) h1 h2 hn
    cases hz:z == m with
    | true=>
     simp only [lookup_cons,hz] at e
     cases e
     omega
    | false=>
     simp only [lookup_cons,hz] at e
     have:=h z a e
     omega
   ·have go:∀ z,(cellsFrom (n+1) r ((m,n)::acc)).lookup z=some c->z=m:=λz e=>by
     rcases iK r (n+1) _ z c e with ⟨a,_⟩ | a
     ·omega
     ·cases hz:z == m with
      | true=>simpa using hz
      | false=>
       simp only [lookup_cons,hz] at a
       have:=h z c a
       omega
    rw [go x h1,go y h2]
  ·rename_i hk
   rw [if_neg hk] at h2
   exact cf_inj r n acc x y c h h1 h2 hc
theorem oG:∀ (names:List (Str × NameKind)) (h:Heap) (acc:List (Str × Addr)) (x:Str) (c:Nat),(cellsFrom h.objs.size names acc).lookup x=some c->acc.lookup x=some c\/((pushCells h names).IsCell c none/\h.objs.size<=c)
 | [],h,acc,x,c,e=>.inl e
 | (m,k)::r,h,acc,x,c,e=>by
  unfold cellsFrom at e
  unfold pushCells
  split at e
  ·rename_i hk
   rw [if_pos hk]
   have e':(cellsFrom (h.push { cls:=.type "cell",data:=.cell none }).objs.size r ((m,h.objs.size)::acc)).lookup x=some c:=by rw [size_push]; exact e
   rcases oG r (h.push { cls:=.type "cell",data:=.cell none }) _ x c e' with z | ⟨z,z2⟩
   ·cases hx:x == m with
    | true=>
     simp only [lookup_cons,hx] at z
     cases z
     exact .inr ⟨⟨_,pushCells_keeps r _ _ _ (get?_push_size _ rfl),rfl⟩,Nat.le_refl _⟩
    | false=>
     simp only [lookup_cons,hx] at z
     exact .inl z
   ·rw [size_push] at z2
    exact .inr ⟨z,by omega⟩
  ·rename_i hk
   rw [if_neg hk]
   exact oG r h acc x c e
theorem newEnvC {M:Model} {A:Around} {E:Value->Shared->Prop} {s:Shared} {scope:Scope} {globals:Addr} {cl:List (Str × Addr)} {qual:Str} {env:Env} {Q:Env->Shared->Prop}
  (hQ:Q (newEnv scope s.heap.objs.size globals (cellsFrom (s.heap.objs.size+1) scope.names cl) qual none .none (some env) builtinsNs) { s with heap:=pushCells (s.heap.push { cls:=.type "dict",data:=.dict #[] }) scope.names }) :
  wpAny M A (newFunctionEnv scope globals cl [] qual none .none (some env)) Q E s:=by
 simp only [newFunctionEnv,Option.isSome_some,if_true]
 refine wpAny_bind (wpAny_alloc ?_)
 refine wpAny_bind (wpAny_layCells _ (λname kind cells=>by cases hkc:kind == NameKind.cell<;>simp [hkc]) _ _ _ _ ?_)
 rw [show ({ s with heap:=s.heap.push { cls:=.type "dict",data:=.dict #[] } }:Shared).heap.objs.size=s.heap.objs.size+1 from size_push ..]
 rw [forIn_nil]
 exact wpAny_bind (wpAny_pure (wpAny_pure hQ))
def oN (outer scope:Scope):Bool:=
 scope.kind == .function && outer.kind == .function && scope.names.all λx=>(x.2 != .cell || scope.names.lookup x.1 == some .cell) && (x.2 != .local || scope.names.lookup x.1 == some .local) && (x.2 != .free || (outer.names.lookup x.1 == some .cell || outer.names.lookup x.1 == some .free))
structure pj (X:Cx) (scope:Scope):Prop where
 kind:scope.kind=.function
 own:∀ x ∈ scope.names,x.2=.cell->scope.names.lookup x.1=some .cell
 names:∀ x ∈ scope.names,x.2=.local->scope.names.lookup x.1=some .local
 free:∀ x ∈ scope.names,x.2=.free->X.env.kindOf x.1=some .cell\/X.env.kindOf x.1=some .free
theorem compFactsC {X:Cx} {scope:Scope} (h:oN X.env.scope scope=true):pj X scope:=by
 unfold oN at h
 simp only [Bool.and_eq_true,beq_iff_eq,all_eq_true,Bool.or_eq_true,bne_iff_ne] at h
 obtain ⟨⟨h1,_⟩,h2⟩:=h
 refine ⟨h1,λx hx e=>?_,λx hx e=>?_,λx hx e=>?_⟩
 ·rcases (h2 x hx).1.1 with z | z
  ·exact absurd e z
  ·exact z
 ·rcases (h2 x hx).1.2 with z | z
  ·exact absurd e z
  ·exact z
 ·rcases (h2 x hx).2 with z | z
  ·exact absurd e z
  ·exact z
abbrev ko (scope:Scope) (L:Addr) (env:Env):List (Str × Addr):=cellsFrom (L+1) scope.names (cy env scope.names [])
def lC (X:Cx) (N:List Str) (scope:Scope) (s:Shared) (H:Hp) (ex:List Addr):Cx where
 prog:=X.prog
 w:=X.w
 K:=X.K
 mg:=X.mg
 base:=X.base
 A:=X.A
 N:=N
 s₀:=s
 H₀:=H
 env:=compEnvC scope (ko scope s.heap.objs.size X.env) s.heap.objs.size X.env
 outer:=X.stack
 stack:=X.stack
 ex:=ex
 fn:=λx=>scope.names.lookup x == some .cell
 calm:=X.calm
 pn:=[]
 xe:=λ_ _=>False
theorem pj.cells {X:Cx} {scope:Scope} (f:pj X scope) (ok:X.Ok):∀ x ∈ scope.names,x.2=.free->∃ c,X.env.cells.lookup x.1=some c:=λx hx e=>ok.has x.1 (f.free x hx e)
theorem pj.cl {X:Cx} {scope:Scope} (f:pj X scope) (ok:X.Ok) {n:Str} {c:Addr} (h:(cy X.env scope.names []).lookup n=some c):X.env.cells.lookup n=some c:=by
 rcases cls_in _ _ _ _ (f.cells ok) h with z | z
 ·exact z
 ·cases z
theorem pj.kf {X:Cx} {scope:Scope} {x:Str} (h:(relabel scope X.env).names.lookup x=some .cell\/(relabel scope X.env).names.lookup x=some .free):scope.names.lookup x=some .free\/scope.names.lookup x=some .cell:=by
 unfold relabel at h
 simp only at h
 rw [cG] at h
 cases e:scope.names.lookup x with
 | none=>rw [e] at h; rcases h with z | z<;>cases z
 | some k=>
  rw [e] at h
  simp only [Option.map_some,Option.some.injEq] at h
  cases k with
  | free=>exact .inl rfl
  | cell=>exact .inr rfl
  | _=>simp at h
theorem pj.nofree {X:Cx} {scope:Scope} (f:pj X scope) {x:Str} (h:scope.names.lookup x=some .free):(x,NameKind.cell) ∉ scope.names:=λz=>by
 have:=f.own _ z rfl
 simp only at this
 rw [h] at this
 cases this
section
variable {X:Cx} {pins:List (Addr × Obj)} {σ:St} {H:Hp} {s:Shared}
theorem pj.lk {scope:Scope} (f:pj X scope) (I:Inv X pins σ H s) {x:Str} {c:Nat} (h:(ko scope s.heap.objs.size X.env).lookup x=some c):(X.env.cells.lookup x=some c/\c<s.heap.objs.size)\/s.heap.objs.size<c:=by
 rcases iK _ _ _ _ _ h with ⟨a,_⟩ | z
 ·exact .inr a
 ·have z':=f.cl I.ok z
  obtain ⟨v,o,ho,_⟩:=I.cell x c z'
  exact .inl ⟨z',lt_size ho⟩
theorem comp_startC {N:List Str} {src:List (Option Nat)} {scope:Scope} {ex:List Addr} {h1:Heap} {m:Str->Option Value} {tk:Nat} (I:Inv X pins σ H s) (f:pj X scope) (hsrc:iT X.N N src scope=true)
  (hex:∀ b ∈ ex,b<s.heap.objs.size/\b ≠ X.env.locals/\b ∉ X.fs/\(∀ x c,X.env.cells.lookup x=some c->c ≠ b)/\∀ o,X.base.get? b ≠ some o)
  (hn:h1.Ns s.heap.objs.size m) (hk:∀ b o,s.heap.get? b=some o->h1.get? b=some o) (hcl:∀ (x:Str) (c:Nat),(ko scope s.heap.objs.size X.env).lookup x=some c->s.heap.objs.size<c->∃ v,h1.IsCell c v) :
  Inv (lC X N scope s H ex) [] (bK src σ) H { s with heap:=h1,toks:=tk }:=by
 obtain ⟨hlen,hix⟩:=srcOk_ix hsrc
 have ok:=I.ok
 have fsL:∀ b ∈ frs X.stack,b ∈ X.env.locals::X.fs:=I.stkSub
 have clLt:∀ (z:Str) (a:Nat),(cy X.env scope.names []).lookup z=some a->a<s.heap.objs.size+1:=λz a e=>by
  obtain ⟨v,o,ho,_⟩:=I.cell z a (f.cl ok e)
  exact Nat.lt_succ_of_lt (lt_size ho)
 refine ⟨⟨ok.mod,f.kind,ok.glob,ok.blt,Nat.le_refl _,λx y c h1 h2=>?_,λx hx=>?_,λx c hx e=>?_,ok.hd,ok.frames,.inl rfl,λb hb=>⟨Nat.ne_of_lt (hex b hb).1,λx c e=>?_⟩,I.bs,Nat.le_trans ok.bsz I.sz,λb o e hb=>(hex b hb).2.2.2.2 o e,λb hb hb'=>?_,I.stack,I.stkFree⟩,
  rfl,I.bare,Un.kept hk,⟨m,hn,λi x v e1 e2 e3=>?_⟩,λx c e=>?_,I.hok.fresh (Nat.le_refl _),λx c e=>?_,λp hp=>absurd (show p ∈ ([]:List (Addr × Obj)) from hp) (by simp),I.hok.kept hk,?_⟩
 ·rcases f.lk I h1 with ⟨a,a'⟩ | a
  ·rcases f.lk I h2 with ⟨b,_⟩ | b
   ·exact ok.inj x y c a b
   ·exact absurd b (Nat.lt_asymm a')
  ·exact cf_inj _ _ _ _ _ _ clLt h1 h2 a
 ·rcases pj.kf hx with z | z
  ·exact jS _ _ _ _ (iH _ _ _ (PySem.mem_of_lookup z))
  ·exact cf_has _ _ _ _ (PySem.mem_of_lookup z)
 ·have hx':scope.names.lookup x=some .cell:=by simpa [lC] using hx
  have:=cf_own _ _ _ _ _ (.inl (PySem.mem_of_lookup hx')) (λ_ _=>trivial) e (PySem.mem_of_lookup hx')
  exact Nat.le_of_succ_le this
 ·rcases f.lk I e with ⟨a,_⟩ | a
  ·exact (hex b hb).2.2.2.1 x c a
  ·exact λz=>absurd (hex b hb).1 (Nat.lt_asymm (z ▸ a))
 ·rcases List.mem_cons.mp (fsL b hb') with z | z
  ·exact (hex b hb).2.1 z
  ·exact (hex b hb).2.2.1 z
 ·have e2':(bK src σ)[i]? = some (some v):=e2
  unfold bK at e2'
  rw [getElem?_map] at e2'
  cases hs:src[i]? with
  | none=>rw [hs] at e2'; cases e2'
  | some o=>
   rw [hs] at e2'
   cases o with
   | none=>cases e2'
   | some j=>
    obtain ⟨q1,q2⟩:=hix i x j e1 hs
    have e4:σ[j]? = some (some v):=by
     simp only [Option.map_some,Option.bind_some,Option.some.injEq] at e2'
     cases z:σ[j]? with
     | none=>rw [z] at e2'; cases e2'
     | some o=>rw [z] at e2'; simp only [Option.join_some] at e2'; rw [e2']
    have kx:=f.free (x,.free) (PySem.mem_of_lookup q2) rfl
    obtain ⟨mX,hnX,hl⟩:=I.loc
    obtain ⟨u,r,l⟩:=hl j x v q1 e4 (by rcases kx with z | z; exact .inr (.inl z); exact .inr (.inr z))
    refine ⟨u,r,.inr ⟨pI.fk (X:=X) q2,?_⟩⟩
    rcases l with ⟨l,_⟩ | ⟨_,c,ec,ic⟩
    ·rcases kx with z | z
     ·rw [z] at l; cases l
     ·rw [z] at l; cases l
    ·obtain ⟨c',hc'⟩:=iH (env:=X.env) scope.names [] x (PySem.mem_of_lookup q2)
     have z:=f.cl ok hc'
     rw [ec] at z
     cases z
     obtain ⟨oc,ho,hd⟩:=ic
     refine ⟨c,?_,oc,hk c oc ho,hd⟩
     show (ko scope s.heap.objs.size X.env).lookup x=some c
     rw [jR _ _ _ _ (f.nofree q2)]
     exact hc'
 ·rcases f.lk I e with ⟨a,_⟩ | a
  ·obtain ⟨v,o,ho,hd⟩:=I.cell x c a
   exact ⟨v,o,hk c o ho,hd⟩
  ·exact hcl x c e a
 ·rcases f.lk I e with ⟨a,_⟩ | a
  ·exact I.freeC x c a
  ·exact I.hok.fresh (Nat.le_of_lt a)
 ·show (bK src σ).length=N.length
  unfold bK
  rw [length_map]
  exact hlen
theorem comp_runC {elt tg iter:Expr} {ifs:List Expr} {scope:Scope} {pos:Pos} {N:List Str} {src:List (Option Nat)} {g:TG} {tt:TT} {te:TE} (use:Option (Value->Sem Unit)) (PQ:Value->Shared->Prop) (E:Value->Shared->Prop)
  (hcalm:X.calm=true) (f:pj X scope) (hsrc:iT X.N N src scope=true)
  (hb:∀ (s:Shared) (H:Hp) (ex:List Addr),PG (lC X N scope s H ex) tg g/\PIf (lC X N scope s H ex) ifs tt/\PE (lC X N scope s H ex) elt te)
  {it:Addr} {fp:List Addr} {tn:Nat->Heap->Prop} {J:It} (I:Inv X pins σ H s) (T:lE X.prog X.w X.K tg J fp it tn) (st:tn 0 s.heap) (hf:∀ b ∈ fp,eO X pins H b) {Q:VK}
  (h:bX J src g tt te σ H Q)
  (hfin:∀ (acc C:Addr) (s':Shared) (H':Hp) (m:Str->Option Value),s'.heap.Ns C m->eO X pins H' C->(∀ h',Heap.SameBut C s'.heap h'->Inv X pins σ H' { s' with heap:=h' })->Q (.ref acc) H'->compPost (model X.prog X.w) X.A E use PQ (.ref acc) C (.ok .next) s') :
  wpAny (model X.prog X.w) X.A (newList []) (λacc s₃=>
   wpAny (model X.prog X.w) X.A (newFunctionEnv scope X.env.globals (cy X.env scope.names []) [] X.env.qual none .none (some X.env)) (λcenv s₄=>
    codeAny (model X.prog X.w) X.A (.compStart (.ListComp elt [⟨tg,iter,ifs,0⟩] scope pos) 0 (.ref it) acc { cenv with scope:=relabel scope X.env }) (compPost (model X.prog X.w) X.A E use PQ acc cenv.locals) s₄) E s₃) E s:=by
 have ok:=I.ok
 have I3:Inv X pins σ (upd H s.heap.objs.size (.lst [])) { s with heap:=s.heap.push { cls:=.type "list",data:=.seq ([]:List Value).toArray },toks:=s.toks }:=I.lnew (ys:=[]) (its:=[]) .nil (Nat.zero_le _)
 obtain ⟨W,⟨m0,w0⟩,turn⟩:=h s.heap.objs.size (I.hok.fresh (Nat.le_refl _))
 refine wpAny_newObj_type (newEnvC ?_)
 dsimp only
 generalize hs3:({ s with heap:=s.heap.push { cls:=.type "list",data:=.seq ([]:List Value).toArray },toks:=s.toks }:Shared)=s3 at I3
 have e3:s3.heap=s.heap.push { cls:=.type "list",data:=.seq ([]:List Value).toArray }:=by rw [<- hs3]
 rw [<- e3]
 have hk:∀ b o,s3.heap.get? b=some o->(pushCells (s3.heap.push { cls:=.type "dict",data:=.dict #[] }) scope.names).get? b=some o:=λb o e=>pushCells_keeps _ _ b o (get?_push_of_some _ e)
 have hns₁':(pushCells (s3.heap.push { cls:=.type "dict",data:=.dict #[] }) scope.names).Ns s3.heap.objs.size (λ_=>none):=(Heap.Ns.new s3.heap (.type "dict")).keeps (pushCells_keeps _ _)
 have hcl:∀ (x:Str) (c:Nat),(ko scope s3.heap.objs.size X.env).lookup x=some c->s3.heap.objs.size<c->∃ v,(pushCells (s3.heap.push { cls:=.type "dict",data:=.dict #[] }) scope.names).IsCell c v:=λx c e hc=>by
  have e':(cellsFrom (s3.heap.push { cls:=.type "dict",data:=.dict #[] }).objs.size scope.names (cy X.env scope.names [])).lookup x=some c:=by rw [size_push]; exact e
  rcases oG _ _ _ _ _ e' with z | z
  ·obtain ⟨v,o,ho,_⟩:=I3.cell x c (f.cl ok z)
   exact absurd (lt_size ho) (Nat.lt_asymm hc)
  ·exact ⟨none,z.1⟩
 generalize pushCells (s3.heap.push { cls:=.type "dict",data:=.dict #[] }) scope.names=h₁ at *
 have up3:∀ b o,s.heap.get? b=some o->s3.heap.get? b=some o:=λb o e=>by rw [e3]; exact get?_push_of_some _ e
 have nacc:∀ b ∈ fp,b ≠ s.heap.objs.size:=λb hb z=>by
  obtain ⟨o,e,_⟩:=T.obj 0 _ st b hb
  exact absurd (lt_size e) (by rw [z]; exact Nat.lt_irrefl _)
 have hex:∀ b ∈ fp,b<s3.heap.objs.size/\b ≠ X.env.locals/\b ∉ X.fs/\(∀ x c,X.env.cells.lookup x=some c->c ≠ b)/\∀ o,X.base.get? b ≠ some o:=λb hb=>by
  obtain ⟨o,e,_⟩:=T.obj 0 _ st b hb
  obtain ⟨f0,f1,f2,f3,f4,f5⟩:=hf b hb
  refine ⟨lt_size (up3 b o e),f1,f2,f4,λo' z=>?_⟩
  rcases f3 with q | q
  ·exact ok.noex b o' z q
  ·exact absurd (Nat.lt_of_lt_of_le (lt_size (ok.bs b o' z).1) q) (Nat.lt_irrefl _)
 have IY0:Inv (lC X N scope s3 (upd H s.heap.objs.size (.lst [])) fp) [] (bK src σ) (upd H s.heap.objs.size (.lst [])) { s3 with heap:=h₁,toks:=s.toks }:=
  comp_startC (tk:=s.toks) I3 f hsrc hex hns₁' hk hcl
 generalize hY:lC X N scope s3 (upd H s.heap.objs.size (.lst [])) fp=Y at IY0
 have hb':PG Y tg g/\PIf Y ifs tt/\PE Y elt te:=by rw [<- hY]; exact hb s3 _ fp
 obtain ⟨hg,ht,he⟩:=hb'
 have Yp:Y.prog=X.prog:=by rw [<- hY]; rfl
 have Yw:Y.w=X.w:=by rw [<- hY]; rfl
 have YK:Y.K=X.K:=by rw [<- hY]; rfl
 have YA:Y.A=X.A:=by rw [<- hY]; rfl
 have Yc:Y.calm=true:=by rw [<- hY]; exact hcalm
 have Yx:Y.xe=λ_ _=>False:=by rw [<- hY]; rfl
 have Ye:Y.env=compEnvC scope (ko scope s3.heap.objs.size X.env) s3.heap.objs.size X.env:=by rw [<- hY]; rfl
 have Ys:Y.s₀=s3:=by rw [<- hY]; rfl
 have YH:Y.H₀=upd H s.heap.objs.size (.lst []):=by rw [<- hY]; rfl
 have Yf:Y.fs=frs X.stack:=by rw [<- hY]; rfl
 have Yex:Y.ex=fp:=by rw [<- hY]; rfl
 have Ypn:Y.pn=[]:=by rw [<- hY]; rfl
 have stat:∀ {H':Hp},(∀ b ∈ fp,H' b=none)->∀ b ∈ fp,eO Y [] H' b:=λ{H'} hn b hb=>by
  obtain ⟨x1,x2,x3,x4,x5⟩:=hex b hb
  refine ⟨hn b hb,?_,?_,.inl (by rw [Yex]; exact hb),?_,λp hp=>?_⟩
  ·rw [Ye]; exact Nat.ne_of_lt x1
  ·rw [Yf]
   intro z
   rcases List.mem_cons.mp (I.stkSub b z) with q | q
   ·exact x2 q
   ·exact x3 q
  ·rw [Ye]
   intro x c e
   rcases f.lk I3 e with ⟨a,_⟩ | a
   ·exact x4 x c a
   ·exact λz=>absurd x1 (Nat.lt_asymm (z ▸ a))
  ·rw [Ypn] at hp
   exact absurd hp (by simp)
 have loop:∀ s4:Shared,s4=({ s3 with heap:=h₁,toks:=s.toks }:Shared)->
   codeAny (model X.prog X.w) X.A (.compLoop (.ListComp elt [⟨tg,iter,ifs,0⟩] scope pos) 0 (.ref it) (.ref s.heap.objs.size) (compEnvC scope (ko scope s3.heap.objs.size X.env) s3.heap.objs.size X.env))
    (compPost (model X.prog X.w) X.A E use PQ (.ref s.heap.objs.size) s3.heap.objs.size) s4:=by
  rintro s4 rfl
  refine iB (λn s'=>∃ i σ' H',Inv Y [] σ' H' s'/\tn i s'.heap/\(∀ b ∈ fp,H' b=none)/\W i n σ' H') ?_ m0
   ⟨0,bK src σ,_,IY0,T.keep 0 _ _ st λb hb o e=>hk b o (up3 b o e),λb hb=>by rw [ao (nacc b hb)]; exact (hf b hb).1,w0⟩
  rintro n s5 ⟨i,σ5,H5,I5,st5,fr5,w5⟩
  rcases turn i n σ5 H5 w5 with ⟨stop,qn⟩ | ⟨go,Nn,hNn,step⟩
  ·have q:=T.done Y Yp Yw YK Yc i [] s5 σ5 H5 (λ_ _=>False) I5 (stat fr5) st5 stop
   rw [YA] at q
   refine thn q λr s6 ⟨hr,I6⟩=>?_
   subst hr
   obtain ⟨m6,hn6,_⟩:=id I6.loc
   have eL:Y.env.locals=s3.heap.objs.size:=by rw [Ye]; rfl
   rw [eL] at hn6
   refine hfin s.heap.objs.size s3.heap.objs.size s6 H5 m6 hn6 (I3.fpOk (Nat.le_refl _) (by have z:=I6.free; rw [eL] at z; exact z)) (λh' sb=>?_) qn
   ·have b6:=I6.base
    rw [Ys,YH,Yf,Yex] at b6
    have ne:∀ b o,s3.heap.get? b=some o->b ≠ s3.heap.objs.size:=λb o e=>Nat.ne_of_lt (lt_size e)
    have u6:Un (frs X.stack) fp (upd H s.heap.objs.size (.lst [])) H5 s3.heap h':=
     ⟨λb o e n hb hx=>(sb.2 b (ne b o e)).trans (b6.keep b o e n hb hx),λb o e n hb hx=>by
       obtain ⟨sl,z⟩:=b6.slot b o e n hb hx
       exact ⟨sl,(sb.2 b (ne b o e)).trans z⟩,b6.free,λb o e hx=>by
       obtain ⟨o',z⟩:=b6.there b o e hx
       exact ⟨o',(sb.2 b (ne b o e)).trans z⟩,b6.tups,b6.frzs,b6.tbls⟩
    have fL:H5 s3.heap.objs.size=none:=by
     have z:=I6.free
     rw [eL] at z
     exact z
    have hok6:HOk X.prog X.w H5 h':=by
     have z:=I6.hok
     rw [Yp,Yw] at z
     intro b ob e
     refine (z b ob e).stay (λc w' hc q=>(sb.2 c ?_).trans q) (λ_ q=>q) λ_ _ q=>q
     rintro rfl
     rcases hc with rfl | hc
     ·rw [fL] at e; cases e
     ·rw [fL] at hc; cases hc
    have os6:s6.os=s3.os:=by
     have z:=I6.os
     rw [Ys] at z
     exact z
    refine Inv.call' (s':={ s6 with heap:=h' }) I3 os6 u6 hok6 I6.bare λb hb=>?_
    obtain ⟨f0,f1,f2,f3,f4,f5⟩:=hf b hb
    exact ⟨f3,f1,f4,f5⟩
  ·have q:=T.item Y Yp Yw YK Yc i [] s5 σ5 H5 (λ_ _=>False) I5 (stat fr5) st5 go
   rw [YA] at q
   refine thn q λr s6 ⟨u,hr,h6⟩=>?_
   subst hr
   refine thn h6 λ_ s7 ⟨x,H7,I7,r7,y7,st7,fr7⟩=>?_
   have I7':=I7.pinned (stat fr7) (T.obj _ _ st7)
   have back:∀ {σ9:St} {H9:Hp} {s9:Shared},Inv Y ([]++jm fp s7.heap) σ9 H9 s9->tn (i+1) s9.heap/\∀ b ∈ fp,H9 b=none:=λ{σ9 H9 s9} I9=>
    ⟨T.keep _ _ _ st7 λb hb o e=>(I9.pin (b,o) (mem_append_right _ (mem_append_right _ (cO hb e)))).1,λb hb=>by
     obtain ⟨o,e,d⟩:=T.obj _ _ st7 b hb
     exact (I9.pin (b,o) (mem_append_right _ (mem_append_right _ (cO hb e)))).2.1⟩
   have g1:=hg _ s7 σ5 H7 x u _ I7' r7 (step x H7 y7)
   rw [YA,Yx,Yp,Yw,Ye] at g1
   refine thn g1 λ_ s8 ⟨σ8,H8,I8,q8⟩=>?_
   have g2:=ht _ s8 σ8 H8 _ I8 q8
   rw [YA,Yx,Yp,Yw,Ye] at g2
   refine thn g2 λb s9 ⟨H9,I9,q9⟩=>?_
   cases b with
   | false=>
    simp only [Bool.false_eq_true,if_false] at q9 ⊢
    obtain ⟨m',hm,w9⟩:=hNn _ _ q9
    exact ⟨m',hm,i+1,σ8,H9,I9.unpinned,(back I9).1,(back I9).2,w9⟩
   | true=>
    simp only [if_true] at q9 ⊢
    have g3:=he _ s9 σ8 H9 _ I9 q9
    rw [YA,Yx,Yp,Yw,Ye] at g3
    refine thn g3 λyv s10 ⟨y,H10,I10,r10,ys,hys,hz,n10⟩=>?_
    obtain ⟨m',hm,w10⟩:=hNn _ _ n10
    have g4:=jg (X:=Y) _ s10 σ8 H10 (.ref s.heap.objs.size) [y] (.ref s.heap.objs.size) [yv] (λ_ H11=>H11=upd H10 s.heap.objs.size (.lst (ys++[y]))) I10 rfl (.cons r10 .nil) ⟨_,ys,y,rfl,rfl,hys,hz,rfl⟩
    rw [YA,Yx,Yp,Yw] at g4
    refine thn g4 λ_ s11 ⟨_,H11,I11,_,e11⟩=>?_
    subst e11
    exact ⟨m',hm,i+1,σ8,_,I11.unpinned,(back I11).1,(back I11).2,w10⟩
 have q:=loop _ rfl
 have eqs:({ s3 with heap:=h₁,toks:=s.toks }:Shared)={ s with heap:=h₁,toks:=s.toks }:=by rw [<- hs3]
 rw [eqs] at q
 have stn:tn 0 h₁:=T.keep 0 _ _ st λb hb o e=>hk b o (up3 b o e)
 exact codeAny_compStart_list q (T.self X.A 0 _ _ _ stn q)
theorem pe_compC {elt tg iter:Expr} {ifs:List Expr} {scope:Scope} {pos:Pos} {N:List Str} {src:List (Option Nat)} {wi:TI} {g:TG} {tt:TT} {te:TE}
  (hcalm:X.calm=true) (hsc:oN X.env.scope scope=true) (hsrc:iT X.N N src scope=true) (hi:PI X tg iter wi)
  (hb:∀ (s:Shared) (H:Hp) (ex:List Addr),PG (lC X N scope s H ex) tg g/\PIf (lC X N scope s H ex) ifs tt/\PE (lC X N scope s H ex) elt te)
  (hs:∀ x,foldedSetIterable iter X.env x=pure x:=by intro _; rfl) :
  PE X (.ListComp elt [⟨tg,iter,ifs,0⟩] scope pos) (tComp src wi g tt te):=by
 intro pins s σ H Q I h
 have f:=compFactsC hsc
 rw [eval_ListComp]
 refine wpAny_comprehension_free (use:=none) rfl hs (hX (f.cells I.ok)) f.kind f.names (thn (hi pins s σ H _ I h) λv s1 h1=>thn h1 λitv s2 h2=>?_)
 obtain ⟨it,fp,tn,J,H2,rfl,I2,T,st2,f2,q2⟩:=h2
 refine comp_runC (N:=N) (src:=src) none (EP X pins σ Q) X.xe hcalm f hsrc hb I2 T st2 f2 q2 ?_
 intro acc C s' H' m hn _ hI hq
 exact ⟨m,hn,λh' sb=>⟨.ref acc,H',hI h' sb,rfl,hq⟩⟩
end
end L2
namespace L2
open PySem PySem.Spec PyProof.Rows
theorem ph.m {j k:Nat} {A:Around} (r:ph k A) (h:j<=k:=by first | decide | exact Nat.le_refl _):ph j A:=r.mono h
theorem oW.i {N P:List Str} {sc:Scope} (a:sc.kind=.function:=by rfl) (b:sc.isCoroutine=false:=by rfl) (c:sc.isGenerator=false:=by rfl) (d:N.Nodup:=by decide +kernel) (e:N.take P.length=P:=by rfl)
  (f:∀ x ∈ P,sc.names.lookup x=some .local\/sc.names.lookup x=some .cell:=by decide +kernel) (g:∀ y ∈ sc.names,y.2 ≠ .free:=by decide +kernel):oW N P sc:=⟨a,b,c,d,e,f,g⟩
def AllA:Nat->(List Value->Prop)->Prop
 | 0,p=>p []
 | n+1,p=>∀ v,AllA n λr=>p (v::r)
theorem AllA.all:∀ {n:Nat} {p:List Value->Prop},AllA n p->∀ us:List Value,us.length=n->p us
 | 0,_,h,[],_=>h
 | _+1,_,h,v::r,e=>AllA.all (h v) r (Nat.succ.inj e)
def o5 (K:Frag) (n:Str) (st:Stmt):Prop:=∃ f fd,nsIn K mainGlobals n=some (some (.ref f))/\Fun K n n st f fd
theorem o5.mk {K:Frag} {n:Str} {st:Stmt} {f:Addr} {oc:Value} {od an:Option Addr} {osl:Array (Option Value)} {kV doc pm cdv ct:Value} (a:nsIn K mainGlobals n=some (some (.ref f))) (l:K.lookup f=some ⟨oc,od,.func (fnOf n n (aR st) (aM st) (am st) .none kV doc pm an cdv ct),osl⟩)
  (c:codeIn K cdv n=true) (k:keepIn K (.ref f)=true):o5 K n st:=⟨f,_,a,eM l c k⟩
section
variable {P:Program} {w:World} {K:Frag} {mg:Str->Option Value} {base h:Heap} {n:Str} {st:Stmt} {k:Nat} {sp:Sp} {ps:List Str}
def BindsOk (n:Str) (st:Stmt) (ps:List Str):Prop:=∀ (kV doc pm:Value) (an:Option Addr) (cdv ct:Value),AllA ps.length λus=>bindArgs (fnOf n n (aR st) (aM st) (am st) .none kV doc pm an cdv ct) ⟨us,[]⟩=pure (ps.zip us)
theorem BindsOk.b (h:BindsOk n st ps) {f:Addr} {fd:FuncData} (F:Fun K n n st f fd):pK K fd ps []:=F.binds λa b c d e g=>(h a b c d e g).all
theorem o5.fb (X:K.In h) (G:h.Ns mainGlobals mg) (d:o5 K n st) (o:∀ {f fd},Fun K n n st f fd->oY P w K mg base CX0 k f fd ps sp) (b:BindsOk n st ps:=by (repeat intro _); rfl):FnB P w K mg base k n sp:=
 let ⟨f,fd,a,F⟩:=d
 ⟨f,fd,ps,o F,mg_of X G a,F.kp,b.b F⟩
theorem o5.fx (X:K.In h) (G:h.Ns mainGlobals mg) (d:o5 K n st) (o:∀ {f fd},Fun K n n st f fd->oY P w K mg base (CXE P w) k f fd ps sp) (b:BindsOk n st ps:=by (repeat intro _); rfl):FnBX P w K mg base k n sp:=
 let ⟨f,fd,a,F⟩:=d
 ⟨f,fd,ps,o F,mg_of X G a,F.kp,b.b F⟩
theorem o5.law {fa:Addr} {x:Str} (X:K.In h) (G:h.Ns mainGlobals mg) (d:o5 K n st) (e:mg n=some (.ref fa))
  (o:∀ {fd} {base:Heap},Fun K n n st fa fd->K.In base->base.Ns mainGlobals mg->oY P w K mg base CX0 k fa fd ps sp) (b:BindsOk n st [x]:=by (repeat intro _); rfl) :
  ∃ fd:FuncData,(∀ (s:Shared) (v:Value),BindsTo s fd ⟨[v],[]⟩ [(x,v)])/\∀ base:Heap,K.In base->base.Ns mainGlobals mg->oY P w K mg base CX0 k fa fd ps sp:=by
 obtain ⟨f,fd,a,F⟩:=d
 cases e.symm.trans (mg_of X G a)
 obtain ⟨oc,od,kV,doc,pm,an,cdv,ct,osl,rfl,lk,hcd⟩:=id F.ex
 exact ⟨_,λs v=>.of_eq (b kV doc pm an cdv ct v),λbase=>o F⟩
end
theorem bmA {X:Cx} (K:Frag) (hK:X.K=K) {o e:Expr} {es:List Expr} {to:TE} {t:TA} {apos cpos:Pos} (ho:PE X o to) (ha:PA X (e::es) t)
  (hbase:attributeBase o "append" X.env (eval o X.env)=eval o X.env:=by rfl)
  (hfew:((backTo cpos (starEach (e::es) X.env)).all (λx=>!x.1) && (backToKw cpos (keywordEach [] X.env)).all (λx=>x.1.isSome)
   && decide ((e::es).length+([]:List Keyword).length+(if ([]:List Keyword).isEmpty then 0 else 1)<30))=true:=by rfl)
  (hline:(apos.endLine == cpos.line)=true:=by rfl) (hs:starEach (e::es) X.env=(false,eval e X.env)::starEach es X.env:=by rfl) (hplain:(backTo cpos (starEach es X.env)).any (·.1)=false:=by rfl) :
  PE X (.Call (.Attribute o "append" apos) (e::es) [] cpos) (tBM K "list" rAppend to t):=hK ▸ pe_bm PySem.F.plainAttrs_list PySem.F.slot_list_append PySem.F.type_list_append jg ho ha hbase hfew hline hs hplain
theorem bmE {X:Cx} (K:Frag) (hK:X.K=K) {o e:Expr} {es:List Expr} {to:TE} {t:TA} {apos cpos:Pos} (ho:PE X o to) (ha:PA X (e::es) t)
  (hbase:attributeBase o "extend" X.env (eval o X.env)=eval o X.env:=by rfl)
  (hfew:((backTo cpos (starEach (e::es) X.env)).all (λx=>!x.1) && (backToKw cpos (keywordEach [] X.env)).all (λx=>x.1.isSome)
   && decide ((e::es).length+([]:List Keyword).length+(if ([]:List Keyword).isEmpty then 0 else 1)<30))=true:=by rfl)
  (hline:(apos.endLine == cpos.line)=true:=by rfl) (hs:starEach (e::es) X.env=(false,eval e X.env)::starEach es X.env:=by rfl) (hplain:(backTo cpos (starEach es X.env)).any (·.1)=false:=by rfl) :
  PE X (.Call (.Attribute o "extend" apos) (e::es) [] cpos) (tBM K "list" rExtend to t):=hK ▸ pe_bm PySem.F.plainAttrs_list PySem.F.slot_list_extend PySem.F.type_list_extend mt_extend ho ha hbase hfew hline hs hplain
section
variable {P:Program} {w:World} {K:Frag} {mg:Str->Option Value} {base:Heap}
theorem Fun.o {x qual:Str} {st:Stmt} {f:Addr} {fd:FuncData} {N ps:List Str} {k:Nat} {sp:Sp} (F:Fun K x qual st f fd) (S:oW N ps (am st))
  (hbody:∀ (cdv:Value) (A:Around) (outer:List Env) (s:Shared) (H:Hp) (vs:List V) (Q:VK) (E:XK),ph k (A.deeper (envOfC qual (am st) s.heap.objs.size f cdv))->sp vs H Q E->
   ∃ t,PSs (dw CX0 P w K mg base N qual (am st) f cdv A outer s H E).nox (aM st) t/\t { nx:=λ_ H'=>Q .non H',rt:=Q } (fU N vs) H)
  (len:∀ vs H Q E,sp vs H Q E->vs.length=ps.length:=by intro _ _ _ _ h; repeat first | (cases h.1; rfl) | obtain ⟨_,h⟩:=h):oY P w K mg base CX0 (k+1) f fd ps sp:=F.ok S len hbody
end
end L2
set_option exponentiation.threshold 9000
namespace K
open PySem L2 PyProof.Rows
variable {P:Program} {w:World} {K:Frag} {mg:Str->Option Value} {base:Heap}
def top (i:Nat):Stmt:=PySem.Challenge.pw_relationladder_k16_rows_mixed.main.body.getD i (.Pass ⟨0,0,0,0⟩)
abbrev aY:Stmt:=inClass (top 9) 0
abbrev aJ:Stmt:=inClass (top 9) 2
abbrev bi:Stmt:=inClass (top 9) 3
abbrev aZ:Stmt:=inClass (top 9) 5
abbrev bj:Stmt:=inClass (top 10) 0
abbrev bH:Stmt:=inClass (top 10) 1
abbrev be:Stmt:=inClass (top 10) 3
abbrev bT:Stmt:=inClass (top 10) 4
abbrev bG:Stmt:=inClass (top 10) 6
abbrev cL:Stmt:=top 11
abbrev db:Stmt:=top 12
abbrev ij:Stmt:=top 13
abbrev ck:Stmt:=top 14
abbrev jb:Stmt:=top 15
abbrev dc:Stmt:=top 17
abbrev ki:Stmt:=top 18
abbrev kE:Stmt:=top 19
abbrev bt:Stmt:=inClass (top 22) 0
abbrev bD:Stmt:=inClass (top 22) 1
abbrev lg:Stmt:=top 23
abbrev s_plus:Stmt:=top 24
abbrev oQ:Stmt:=top 25
abbrev oo:Stmt:=top 26
abbrev dq:Stmt:=top 27
abbrev g6:Stmt:=top 28
abbrev jY:Stmt:=top 29
abbrev gQ:Stmt:=top 31
abbrev f6:Stmt:=top 32
abbrev fO:Stmt:=top 33
abbrev jc:Stmt:=top 34
abbrev hJ:Stmt:=top 35
abbrev gj:Stmt:=top 37
abbrev g9:Stmt:=top 38
abbrev gi:Stmt:=top 39
abbrev fc:Stmt:=top 40
abbrev eK:Stmt:=top 41
abbrev fC:Stmt:=top 42
abbrev ib:Stmt:=top 43
abbrev di:Stmt:=top 44
abbrev fo:Stmt:=top 45
abbrev dF:Stmt:=top 46
abbrev f8:Stmt:=top 47
abbrev fm:Stmt:=top 48
abbrev eN:Stmt:=top 49
abbrev fS:Stmt:=top 50
abbrev cV:Stmt:=top 51
abbrev dJ:Stmt:=top 52
abbrev gX:Stmt:=top 53
abbrev g7:Stmt:=top 54
abbrev cP:Stmt:=top 55
abbrev fw:Stmt:=top 56
abbrev ff:Stmt:=top 57
abbrev gq:Stmt:=top 58
abbrev cK:Stmt:=top 59
abbrev cN:Stmt:=top 60
abbrev dH:Stmt:=top 61
abbrev fi:Stmt:=top 62
abbrev dh:Stmt:=top 63
abbrev eG:Stmt:=top 64
abbrev cg:Stmt:=top 65
abbrev dj:Stmt:=top 66
abbrev df:Stmt:=top 67
abbrev fV:Stmt:=top 68
abbrev cF:Stmt:=top 69
abbrev cM:Stmt:=top 70
abbrev fg:Stmt:=top 71
abbrev de:Stmt:=top 72
abbrev s_law:Stmt:=top 73
theorem nd_0:(["_law_part", "_law_number_here"]:List Str).Nodup:=by decide +kernel
theorem nd_1:(["_law_product_here", "_law_come", "_law_prime_here"]:List Str).Nodup:=by decide +kernel
theorem nd_2:(["product", "found", "nought"]:List Str).Nodup:=by decide +kernel
def CDivA (_ j:Int):Prop:=j ≠ 0/\j.natAbs<2 ^ 6000
theorem CDivA.ok {i j:Int} (h:CDivA i j):Builtin.divisionGoesByPylong i j=false:=by
 refine PyProof.noPylong_of_log2 ?_
 by_cases h0:j.natAbs=0
 ·rw [h0]; decide +kernel
 ·have h30:j.natAbs.log2<6000:=(Nat.log2_lt h0).mpr h.2
  omega
theorem bS {X:Cx}:OpR X (binaryOp .FloorDiv) (rI CDivA λi j=>.int (i.fdiv j)):=opI λ_ _ _ _ _ _ _ hc q=>floordiv_int hc.1 q (.inl hc.ok)
theorem mulOk {i j:Int} (hi:i.natAbs<2 ^ 6000) (hj:j.natAbs<2 ^ 6000):IntMulOk i j:=by
 have bits:∀ {k:Int},k.natAbs<2 ^ 6000->Builtin.Int.intBits k<=6000:=λ{k} h=>by
  unfold Builtin.Int.intBits
  split
  ·omega
  ·rename_i h0
   have h0':k.natAbs ≠ 0:=by intro z; apply h0; simp; omega
   have:=(Nat.log2_lt h0').mpr h
   omega
 have h1:=bits hi
 have h2:=bits hj
 unfold IntMulOk
 have h3:Builtin.Int.intTooBig ((Builtin.Int.intBits i:Int)+Builtin.Int.intBits j)=false:=by
  unfold Builtin.Int.intTooBig
  rw [decide_eq_false_iff_not]
  have:bitsLine=2 ^ 27:=rfl
  rw [this]
  omega
 rw [h3]
 simp
theorem sq2 {a b z:TS} {D:fJ} {σ:L2.St} {H:Hp} (o:∀ R,R=z->(bB a (bB b R)) D σ H):(bB a (bB b z)) D σ H:=o z rfl
theorem sq3 {a b c z:TS} {D:fJ} {σ:L2.St} {H:Hp} (o:∀ R,R=z->(bB a (bB b (bB c R))) D σ H):(bB a (bB b (bB c z))) D σ H:=o z rfl
theorem sq7 {a b c d e f g z:TS} {D:fJ} {σ:L2.St} {H:Hp} (o:∀ R,R=z->(bB a (bB b (bB c (bB d (bB e (bB f (bB g R))))))) D σ H):(bB a (bB b (bB c (bB d (bB e (bB f (bB g z))))))) D σ H:=o z rfl
theorem sq8 {a b c d e f g h z:TS} {D:fJ} {σ:L2.St} {H:Hp} (o:∀ R,R=z->(bB a (bB b (bB c (bB d (bB e (bB f (bB g (bB h R)))))))) D σ H):(bB a (bB b (bB c (bB d (bB e (bB f (bB g (bB h z)))))))) D σ H:=o z rfl
theorem cx {K:Frag} {a:Addr} {xs:List V} {g:TG} {tb:TS} {D:fJ} {σ:L2.St} {H:Hp} (Pv:Nat->L2.St->Hp->Prop) (h0:Pv 0 σ H) (hl:∀ i σ H,i<=xs.length->Pv i σ H->SqL K H a xs)
  (hs:∀ i x σ H,xs[i]? = some x->Pv i σ H->∀ N B:L2.St->Hp->Prop,(∀ σ' H',Pv (i+1) σ' H'->N σ' H')->g x σ H λσ2 H2=>tb { nx:=N,ct:=N,bk:=B,rt:=D.rt } σ2 H2) (hd:∀ σ H,Pv xs.length σ H->D.nx σ H) :
  ∃ W:Nat->Nat->L2.St->Hp->Prop,(∃ m,W 0 m σ H)/\∀ i m σ H,W i m σ H->
   ((Itl K a).stop i H/\D.nx σ H)\/((Itl K a).go i H/\∃ N:L2.St->Hp->Prop,(∀ σ' H',N σ' H'->∃ m',m' < m/\W (i+1) m' σ' H')/\∀ x H',(Itl K a).yld i H x H'->g x σ H' λσ2 H2=>tb { D with nx:=N,ct:=N,bk:=D.nx } σ2 H2):=
 gd Pv h0 hl (λi x σ H e p=>hs i x σ H e p _ _ λ_ _ z=>z) hd
theorem cu {lo:Int} {n:Nat} {g:TG} {tb:TS} {D:fJ} {σ:L2.St} {H:Hp} (Pv:Nat->L2.St->Hp->Prop) (h0:Pv 0 σ H)
  (hs:∀ i σ H,i<n->Pv i σ H->∀ N B:L2.St->Hp->Prop,(∀ σ' H',Pv (i+1) σ' H'->N σ' H')->g (.int (lo+i)) σ H λσ2 H2=>tb { nx:=N,ct:=N,bk:=B,rt:=D.rt } σ2 H2) (hd:∀ σ H,Pv n σ H->D.nx σ H) :
  ∃ W:Nat->Nat->L2.St->Hp->Prop,(∃ m,W 0 m σ H)/\∀ i m σ H,W i m σ H->
   ((Itr lo n).stop i H/\D.nx σ H)\/((Itr lo n).go i H/\∃ N:L2.St->Hp->Prop,(∀ σ' H',N σ' H'->∃ m',m' < m/\W (i+1) m' σ' H')/\∀ x H',(Itr lo n).yld i H x H'->g x σ H' λσ2 H2=>tb { D with nx:=N,ct:=N,bk:=D.nx } σ2 H2):=
 i5 Pv h0 (λi σ H e p=>hs i σ H e p _ _ λ_ _ z=>z) hd
theorem for_zipN {t1 t2:Bool} {K:Frag} {a b:Addr} {xs ys:List V} {g:TG} {tb:TS} {D:fJ} {σ:L2.St} {H:Hp} (Pv:Nat->L2.St->Hp->Prop) (h0:Pv 0 σ H) (hl:∀ i σ H,i<=min xs.length ys.length->Pv i σ H->SqV t1 K H a xs/\SqV t2 K H b ys)
  (hs:∀ (i:Nat) x y σ H p,xs[i]? = some x->ys[i]? = some y->Pv i σ H->H p=none->∀ N B:L2.St->Hp->Prop,(∀ σ' H',Pv (i+1) σ' H'->N σ' H')->g (.ref p) σ (upd H p (.tup [x,y])) λσ2 H2=>tb { nx:=N,ct:=N,bk:=B,rt:=D.rt } σ2 H2) (hd:∀ σ H,Pv (min xs.length ys.length) σ H->D.nx σ H) :
  ∃ W:Nat->Nat->L2.St->Hp->Prop,(∃ m,W 0 m σ H)/\∀ i m σ H,W i m σ H->
   ((Itz t1 t2 K a b).stop i H/\D.nx σ H)\/((Itz t1 t2 K a b).go i H/\∃ N:L2.St->Hp->Prop,(∀ σ' H',N σ' H'->∃ m',m' < m/\W (i+1) m' σ' H')/\∀ x H',(Itz t1 t2 K a b).yld i H x H'->g x σ H' λσ2 H2=>tb { D with nx:=N,ct:=N,bk:=D.nx } σ2 H2):=
 m8 Pv h0 hl (λi x y σ H p e1 e2 q n=>hs i x y σ H p e1 e2 q n _ _ λ_ _ z=>z) hd
theorem aD {j:Int} (h:0<=j) (h2:j<2 ^ 63):j.natAbs<2 ^ 6000:=by
 have h3:j.natAbs<2 ^ 63:=by omega
 exact Nat.lt_of_lt_of_le h3 (Nat.pow_le_pow_right (by decide) (by decide))
theorem gm {i j:Int} (h:0<j) (h2:j<2 ^ 63):CDivA i j:=⟨by omega,aD (by omega) h2⟩
theorem at_int (ns:List Int) {k:Int} (h0:0<=k) (h1:k<ns.length):∃ z,atI (ns.map V.int) k=some (V.int z):=by
 obtain ⟨n,rfl⟩:=Int.eq_ofNat_of_zero_le h0
 have hn:n<ns.length:=by omega
 exact ⟨ns[n],dA (by rw [getElem?_map,getElem?_eq_getElem hn]; rfl)⟩
def spCell (K:Frag):Sp:=λvs H Q _=>∃ (a:Addr) (ns:List Int) (k:Int),vs=[.ref a,.int k]/\SqL K H a (ns.map V.int)/\ns.length<=63/\0<=k/\k<=100/\∀ r:Int,Q (.int r) H
def gP (a b:Int):Int:=(a*48271+7919*b*b+17) % 2147483647
def pc (a b:Int) (k:Nat):Prop:=b=0\/(0<=a/\a<2147483647/\0<b/\b<=k)
def spBag (K:Frag):Sp:=λvs H Q _=>∃ (a:Addr) (ns:List Int) (k:Int),vs=[.ref a,.int k]/\SqL K H a (ns.map V.int)/\ns.length<=63/\0<=k/\k<=99/\
 ∀ (p:Addr) (a b:Int),H p=none->pc a b 100->Q (.ref p) (upd H p (.lst [.int a,.int b]))
def cw:Sp:=λvs H Q _=>∃ (p:Addr) (a b m:Int) (k:Nat),vs=[.ref p,.int m]/\H p=some (.lst [.int a,.int b])/\pc a b k/\k<=1000000/\0<m/\m.natAbs<2 ^ 6000/\
 ∀ r a' b',0<=r->r<m->pc a' b' (k+1)->Q (.int r) (upd H p (.lst [.int a',.int b']))
theorem qc:oW ["_law_script", "_law_k", "_law_seed", "_law_some"] ["_law_script", "_law_k"] (am gj):=.i
theorem ok_cell {f:Addr} {fd:FuncData} (F:Fun K "_law_cell" "_law_cell" gj f fd) (T:Blt mg):oY P w K mg base CX0 1 f fd ["_law_script", "_law_k"] (spCell K):=by
 refine F.o qc λ_ _ _ _ H _ Q _ hr h=>?_
 ·obtain ⟨a,ns,k,rfl,hS,hl,hk0,hk1,q⟩:=h
  have hln:((ns.map V.int).length:Int)=ns.length:=by rw [length_map]
  refine ⟨_,(ag (aH (aw jC (pv 1) (bq K T (pv 0)) (ay _))
(ak (ar (aB (aE K rfl) (pv 0) (pv 1) (λ_ _=>rfl))))
aA)
(ag (au (i:=2) qc.nd rfl (Or.inl rfl) (ap bx (pv 1) af))
(ag (aH (aw dZ (bq K T (pv 0)) af (ay _))
(ak (au (i:=2) qc.nd rfl (Or.inl rfl) (ap aL (pv 2) (ap bA (aB (aE K rfl) (pv 0) (ap bA (pv 1) (bq K T (pv 0))) (λ_ _=>rfl)) af))))
aA)
(ag (au (i:=3) qc.nd rfl (Or.inl rfl) (ap bA (ap bx (pv 2) af) af))
(ak (ar (ap bA (ap bS (ap bx (pv 3) (ap aL (ap aL (pv 3) (ap bx af (pv 1))) af)) af) af))))))),?_⟩
  refine ⟨_,rfl,_,rfl,a,_,rfl,.inl hS,_,_,rfl,rfl,_,rfl,?_⟩
  refine bu (λh=>?_) (λh=>?_)
  ·have h':k<ns.length:=by have:=of_decide_eq_true h; omega
   obtain ⟨z,hz⟩:=at_int ns hk0 h'
   exact ⟨_,rfl,_,rfl,a,_,_,_,rfl,rfl,hS,hz,q _⟩
  ·refine ⟨_,rfl,_,_,rfl,rfl,.inl ⟨by omega,by omega⟩,?_⟩
   refine ⟨_,rfl,a,_,rfl,.inl hS,_,_,rfl,rfl,_,rfl,?_⟩
   have fin:∀ sd:Int,(0:Int)<=sd*48271 % 65537/\sd*48271 % 65537<65537:=λsd=>⟨Int.emod_nonneg _ (by decide),Int.emod_lt_of_pos _ (by decide)⟩
   refine bu (λh=>?_) (λh=>?_)
   ·have h':0<(ns.length:Int):=by have:=of_decide_eq_true h; omega
    obtain ⟨z,hz⟩:=at_int ns (k:=k % ((ns.map V.int).length:Int)) (Int.emod_nonneg _ (by omega)) (by have:=Int.emod_lt_of_pos k (b:=((ns.map V.int).length:Int)) (by omega); omega)
    refine ⟨_,rfl,_,rfl,_,rfl,_,rfl,a,_,rfl,.inl hS,_,_,rfl,rfl,(by show (0:Int)<_; omega),a,_,_,_,rfl,rfl,hS,hz,_,_,rfl,rfl,(by show (0:Int)<65537; decide),_,_,rfl,rfl,?_⟩
    have f1:=fin (k*7919+z % 65537)
    refine ⟨_,rfl,_,_,rfl,rfl,.inr ⟨by decide,by decide⟩,_,_,rfl,rfl,(by show (0:Int)<65537; decide),?_⟩
    exact ⟨_,rfl,_,rfl,_,rfl,_,_,rfl,rfl,.inl ⟨by decide,by decide⟩,_,_,rfl,rfl,_,_,rfl,rfl,_,_,rfl,rfl,.inl ⟨Int.lt_of_lt_of_le (by decide) f1.1,Int.lt_of_lt_of_le f1.2 (by decide)⟩,_,_,rfl,rfl,gm (by decide) (by decide),_,_,rfl,rfl,(by show (0:Int)<65521; decide),q _⟩
   ·have f1:=fin (k*7919)
    refine ⟨_,rfl,_,_,rfl,rfl,.inr ⟨by decide,by decide⟩,_,_,rfl,rfl,(by show (0:Int)<65537; decide),?_⟩
    exact ⟨_,rfl,_,rfl,_,rfl,_,_,rfl,rfl,.inl ⟨by decide,by decide⟩,_,_,rfl,rfl,_,_,rfl,rfl,_,_,rfl,rfl,.inl ⟨Int.lt_of_lt_of_le (by decide) f1.1,Int.lt_of_lt_of_le f1.2 (by decide)⟩,_,_,rfl,rfl,gm (by decide) (by decide),_,_,rfl,rfl,(by show (0:Int)<65521; decide),q _⟩
theorem sc__law_bag:oW ["_law_script", "_law_at", "_law_cell_here"] ["_law_script", "_law_at"] (am g9):=.i
theorem ok_bag {f:Addr} {fd:FuncData} (F:Fun K "_law_bag" "_law_bag" g9 f fd) (vo:FnB P w K mg base 1 "_law_cell" (spCell K)):oY P w K mg base CX0 2 f fd ["_law_script", "_law_at"] (spBag K):=by
 refine F.o sc__law_bag λ_ _ _ _ H _ Q _ hr h=>?_
 ·obtain ⟨a,ns,k,rfl,hS,hl,hk0,hk1,q⟩:=h
  refine ⟨_,(ag (au (i:=2) sc__law_bag.nd rfl (Or.inl rfl) (aq vo hr.m (aa (pv 0) (aa (pv 1) ae))))
(ag (aH (PW.pt (fH (aw op_ge (pv 2) (ap fA af af) (ay _)) (ft (aw gM (pv 2) (pe_un nI (ap fA af af)) (ay _)))))
(ak (ar (aI (aa (pv 2) (aa af ae)))))
aA)
(ak (ar (aI (aa (ap bA (pv 2) af) (aa (ap aL (pv 1) af) ae))))))),?_⟩
  refine ⟨_,rfl,_,rfl,a,ns,k,rfl,hS,hl,hk0,by omega,λr=>?_⟩
  refine ⟨_,rfl,_,_,rfl,rfl,⟨by decide,by decide,by decide⟩,_,_,rfl,rfl,_,rfl,?_⟩
  have f1:(0:Int)<=r % 2147483647/\r % 2147483647<2147483647:=⟨Int.emod_nonneg _ (by decide),Int.emod_lt_of_pos _ (by decide)⟩
  refine bu (λh=>?_) (λh=>?_)
  ·refine bF ?_
   exact ⟨_,rfl,by show 2<=sizeLine; decide,λp hp=>q p r 0 hp (.inl rfl)⟩
  ·refine ⟨_,rfl,_,_,rfl,rfl,⟨by decide,by decide,by decide⟩,_,rfl,_,_,rfl,rfl,_,rfl,?_⟩
   refine bu (λh=>?_) (λh=>?_)
   ·exact ⟨_,rfl,by show 2<=sizeLine; decide,λp hp=>q p r 0 hp (.inl rfl)⟩
   ·exact ⟨_,rfl,_,_,rfl,rfl,(by show (0:Int)<2147483647; decide),_,rfl,_,_,rfl,rfl,by show 2<=sizeLine; decide,λp hp=>q p _ _ hp (.inr ⟨f1.1,f1.2,by omega,by omega⟩)⟩
theorem sc__law_take:oW ["_law_bag_here", "_law_many", "_law_some"] ["_law_bag_here", "_law_many"] (am gi):=.i
theorem ok_take {f:Addr} {fd:FuncData} (F:Fun K "_law_take" "_law_take" gi f fd):oY P w K mg base CX0 1 f fd ["_law_bag_here", "_law_many"] cw:=by
 refine F.o sc__law_take λ_ _ _ _ H _ Q _ hr h=>?_
 ·obtain ⟨p,a,b,m,k,rfl,hp,hb,hk,hm,hm2,q⟩:=h
  refine ⟨_,(ag (aH (aw bM (aB (aE K rfl) (pv 0) af (λ_ _=>rfl)) af (ay _))
(ag (au (i:=2) sc__law_take.nd rfl (Or.inl rfl) (ap bA (aB (aE K rfl) (pv 0) af (λ_ _=>rfl)) (pv 1)))
(ag (fq (ap bS (aB (aE K rfl) (pv 0) af (λ_ _=>rfl)) (pv 1)) (jV (pv 0) af gn))
(ak (ar (pv 2)))))
aA)
(ag (fq (ap bA (ap aL (ap aL (ap bx (aB (aE K rfl) (pv 0) af (λ_ _=>rfl)) af) (ap bx (ap bx af (aB (aE K rfl) (pv 0) af (λ_ _=>rfl))) (aB (aE K rfl) (pv 0) af (λ_ _=>rfl)))) af) af) (jV (pv 0) af gn))
(ag (fq (ap aL (aB (aE K rfl) (pv 0) af (λ_ _=>rfl)) af) (jV (pv 0) af gn))
(ak (ar (ap bA (ap bA (ap bx (aB (aE K rfl) (pv 0) af (λ_ _=>rfl)) af) af) (pv 1))))))),?_⟩
  have e0:∀ (a b:Int) (H':Hp),H' p=some (.lst [.int a,.int b])->SqL K H' p [.int a,.int b]:=λa b H' h=>SqL.of h
  refine ⟨_,rfl,p,_,_,_,rfl,rfl,e0 a b H hp,rfl,rfl,_,rfl,?_⟩
  refine bu (λh=>?_) (λh=>?_)
  ·have hb0:b=0:=by simpa using h
   refine ⟨_,rfl,p,_,_,_,rfl,rfl,e0 a b H hp,rfl,_,rfl,_,_,rfl,rfl,hm,?_⟩
   refine ⟨_,rfl,p,_,_,_,rfl,rfl,e0 a b H hp,rfl,_,rfl,_,_,rfl,rfl,⟨by omega,hm2⟩,_,rfl,p,_,_,_,rfl,rfl,hp,rfl,?_⟩
   refine ⟨_,rfl,?_⟩
   exact q _ _ _ (Int.emod_nonneg _ (by omega)) (Int.emod_lt_of_pos _ hm) (.inl hb0)
  ·have hb0:b ≠ 0:=by simpa using h
   rcases hb with z | ⟨a0,a1,b0,b1⟩
   ·exact absurd z hb0
   refine ⟨_,rfl,p,_,_,_,rfl,rfl,e0 a b H hp,rfl,_,_,rfl,rfl,.inl ⟨by omega,by omega⟩,_,rfl,p,_,_,_,rfl,rfl,e0 a b H hp,rfl,_,_,rfl,rfl,.inl ⟨by decide,by decide⟩,_,rfl,p,_,_,_,rfl,rfl,e0 a b H hp,rfl,_,_,rfl,rfl,.inr ⟨by omega,by omega⟩,_,_,rfl,rfl,_,_,rfl,rfl,_,_,rfl,rfl,(by show (0:Int)<2147483647; decide),_,rfl,p,_,_,_,rfl,rfl,hp,rfl,?_⟩
   have a0':0<=gP a b:=Int.emod_nonneg _ (by decide)
   have a1':gP a b<2147483647:=Int.emod_lt_of_pos _ (by decide)
   refine ⟨_,rfl,p,_,_,_,rfl,rfl,e0 (gP a b) b _ ac,rfl,_,_,rfl,rfl,_,rfl,p,[.int (gP a b),.int b],_,_,rfl,rfl,ac,rfl,?_⟩
   refine ⟨_,rfl,p,_,_,_,rfl,rfl,e0 (gP a b) (b+1) _ ac,rfl,_,_,rfl,rfl,.inl ⟨by omega,by omega⟩,_,_,rfl,rfl,(by show (0:Int)<2147483629; decide),_,rfl,_,_,rfl,rfl,hm,?_⟩
   have e:upd (upd H p (.lst [.int (gP a b),.int b])) p (.lst [.int (gP a b),.int (b+1)])=upd H p (.lst [.int (gP a b),.int (b+1)]):=cS
   have z:=q (gP a b*69621 % 2147483629 % m) (gP a b) (b+1) (Int.emod_nonneg _ (by omega)) (Int.emod_lt_of_pos _ hm) (.inr ⟨a0',a1',by omega,by omega⟩)
   rw [<- e] at z
   exact z
def nj (K:Frag):Sp:=λvs H Q _=>∃ (v:V) (t:Value) (b c:Bool),vs=[v]/\pT K H v t/\kitOne K t (.type "int")=some b/\kitOne K t (.type "bool")=some c/\Q (.bl (b && !c)) H
theorem pc.mono {a b:Int} {j k:Nat} (h:pc a b j) (hk:j<=k):pc a b k:=by
 rcases h with h | ⟨h1,h2,h3,h4⟩
 ·exact .inl h
 ·exact .inr ⟨h1,h2,h3,by omega⟩
theorem lF:oW ["_law_found"] ["_law_found"] (am fC):=.i
theorem ok_whole {f:Addr} {fd:FuncData} (F:Fun K "_law_whole" "_law_whole" fC f fd) (T:Blt mg):oY P w K mg base CX0 1 f fd ["_law_found"] (nj K):=by
 refine F.o lF λ_ _ _ _ H _ Q _ hr h=>?_
 ·obtain ⟨v,t,b,c,rfl,ty,h1,h2,q⟩:=h
  refine ⟨_,(ak (ar (jW (gS K T (pv 0) T.int jk) (jd (pe_not (gS K T (pv 0) T.bool boot_bool')))))),?_⟩
  refine ⟨_,rfl,t,b,ty,h1,_,rfl,?_⟩
  cases b with
  | false=>exact br q
  | true=>exact bF ⟨_,rfl,t,c,ty,h2,_,rfl,q⟩
theorem ji {K:Frag} {H:Hp} {a:Addr} {xs:List V} (h:SqT K H a xs):SqV true K H a xs:=h
theorem bJ {K:Frag} {H:Hp} {a:Addr} {xs:List V} (h:SqL K H a xs):SqV false K H a xs:=h
def v2 (f:Int->Int->V):V->V->V:=λx y=>match x,y with
 | .int i,.int j=>f i j
 | _,_=>.non
def v1 (f:Int->V):V->V:=λx=>match x with
 | .int i=>f i
 | _=>.non
theorem zip_v2 (f:Int->Int->V):∀ ns ms:List Int,List.zipWith (v2 f) (ns.map V.int) (ms.map V.int)=List.zipWith f ns ms
 | [],_=>rfl
 | _::_,[]=>rfl
 | n::ns,m::ms=>congrArg (f n m :: ·) (zip_v2 f ns ms)
theorem map_v1 (f:Int->V) (ns:List Int):(ns.map V.int).map (v1 f)=ns.map f:=by
 rw [map_map]; rfl
theorem zw_map {α:Type} (g:α->V) (f:Int->Int->α):∀ ns ms:List Int,List.zipWith (λi j=>g (f i j)) ns ms=(List.zipWith f ns ms).map g
 | [],_=>rfl
 | _::_,[]=>rfl
 | n::ns,m::ms=>congrArg (g (f n m) :: ·) (zw_map g f ns ms)
theorem cW {ns:List Int} {i:Nat} {x:V} (h:(ns.map V.int)[i]? = some x):∃ z,ns[i]? = some z/\x=.int z:=by
 rw [getElem?_map] at h
 cases e:ns[i]? with
 | none=>rw [e] at h; cases h
 | some z=>rw [e] at h; exact ⟨z,rfl,(Option.some.inj h).symm⟩
theorem all_tt {α:Type}:∀ xs:List α,((xs.map λ_=>true).all id)=true
 | []=>rfl
 | _::r=>all_tt r
theorem cY:((10:Int) ^ (10:Int).toNat)=10000000000:=by decide +kernel
def jM:Sp:=λvs H Q _=>∃ (p:Addr) (a b:Int) (k:Nat),vs=[.ref p]/\H p=some (.lst [.int a,.int b])/\pc a b k/\k<=900000/\
 ∀ (r a' b':Int),0<=r->r<1000000000000000000000000000000->pc a' b' (k+3)->Q (.int r) (upd H p (.lst [.int a',.int b']))
def km:Sp:=λvs H Q _=>∃ (p:Addr) (a b:Int) (k:Nat),vs=[.ref p]/\H p=some (.lst [.int a,.int b])/\pc a b k/\k<=800000/\
 ∀ (r a' b':Int),-1000000000000000000000000000000<r->r<1000000000000000000000000000000->pc a' b' (k+4)->Q (.int r) (upd H p (.lst [.int a',.int b']))
theorem sc__law_great:oW ["_law_bag_here", "_law_high"] ["_law_bag_here"] (am fc):=.i
theorem ok_great {f:Addr} {fd:FuncData} (F:Fun K "_law_great" "_law_great" fc f fd) (qO:FnB P w K mg base 1 "_law_take" cw):oY P w K mg base CX0 2 f fd ["_law_bag_here"] jM:=by
 refine F.o sc__law_great λ_ _ _ _ H _ Q _ hr h=>?_
 ·obtain ⟨p,a,b,k,rfl,hp,hb,hk,q⟩:=h
  refine ⟨_,(ag (au (i:=1) sc__law_great.nd rfl (Or.inl rfl) (ap aL (ap bx (aq qO hr.m (aa (pv 0) (aa (ap fA af af) ae))) (ap fA af af)) (aq qO hr.m (aa (pv 0) (aa (ap fA af af) ae)))))
(ak (ar (ap aL (ap bx (pv 1) (ap fA af af)) (aq qO hr.m (aa (pv 0) (aa (ap fA af af) ae))))))),?_⟩
  refine ⟨_,rfl,_,_,rfl,rfl,⟨by decide,by decide,by decide⟩,p,a,b,_,k,rfl,hp,hb,by omega,by rw [cY]; decide,by rw [cY]; exact aD (by decide) (by decide),λr1 a1 b1 r10 r11 hb1=>?_⟩
  rw [cY] at r11
  refine ⟨_,_,rfl,rfl,⟨by decide,by decide,by decide⟩,_,_,rfl,rfl,.inl ⟨by omega,by omega⟩,?_⟩
  refine ⟨_,rfl,_,_,rfl,rfl,⟨by decide,by decide,by decide⟩,p,a1,b1,_,k+1,rfl,ac,hb1,by omega,by rw [cY]; decide,by rw [cY]; exact aD (by decide) (by decide),λr2 a2 b2 r20 r21 hb2=>?_⟩
  rw [cY] at r21
  refine ⟨_,_,rfl,rfl,?_⟩
  refine ⟨_,rfl,_,_,rfl,rfl,⟨by decide,by decide,by decide⟩,_,_,rfl,rfl,.inr (by rw [cY]; exact ⟨by decide,by decide⟩),?_⟩
  refine ⟨_,rfl,_,_,rfl,rfl,⟨by decide,by decide,by decide⟩,p,a2,b2,_,k+2,rfl,ac,hb2,by omega,by rw [cY]; decide,by rw [cY]; exact aD (by decide) (by decide),λr3 a3 b3 r30 r31 hb3=>?_⟩
  rw [cY] at r31
  refine ⟨_,_,rfl,rfl,?_⟩
  rw [cS,cS,cY]
  exact q _ a3 b3 (by omega) (by omega) hb3
theorem kC:oW ["_law_bag_here"] ["_law_bag_here"] (am eK):=.i
theorem ok_signed {f:Addr} {fd:FuncData} (F:Fun K "_law_signed" "_law_signed" eK f fd) (qO:FnB P w K mg base 1 "_law_take" cw) (rj:FnB P w K mg base 2 "_law_great" jM):oY P w K mg base CX0 3 f fd ["_law_bag_here"] km:=by
 refine F.o kC λ_ _ _ _ H _ Q _ hr h=>?_
 ·obtain ⟨p,a,b,k,rfl,hp,hb,hk,q⟩:=h
  refine ⟨_,(ak (ar (ap bx (ap bf (ap bx af (aq qO hr.m (aa (pv 0) (aa af ae)))) af) (aq rj hr.m (aa (pv 0) ae))))),?_⟩
  refine ⟨_,rfl,p,a,b,2,k,rfl,hp,hb,by omega,by decide,aD (by decide) (by decide),λr1 a1 b1 r10 r11 hb1=>?_⟩
  refine ⟨_,_,rfl,rfl,.inl ⟨by decide,by decide⟩,_,_,rfl,rfl,?_⟩
  refine ⟨_,rfl,p,a1,b1,k+1,rfl,ac,hb1,by omega,λr2 a2 b2 r20 r21 hb2=>?_⟩
  refine ⟨_,_,rfl,rfl,.inl ⟨by omega,by omega⟩,?_⟩
  rw [cS]
  have h01:r1=0\/r1=1:=by omega
  refine q _ a2 b2 ?_ ?_ hb2
  ·rcases h01 with z | z<;>rw [z]<;>omega
  ·rcases h01 with z | z<;>rw [z]<;>omega
def j0:Sp:=λvs H Q _=>∃ (a b:Int),vs=[.int a,.int b]/\b ≠ 0/\b.natAbs<2 ^ 6000/\∀ t,H t=none->Q (.ref t) (upd H t (.tup [.int (nrm a b).1,.int (nrm a b).2]))
theorem pZ:oW ["_law_top", "_law_bottom", "_law_one", "_law_other"] ["_law_top", "_law_bottom"] (am ib):=.i
theorem ok_low {f:Addr} {fd:FuncData} (F:Fun K "_law_low" "_law_low" ib f fd) (T:Blt mg):oY P w K mg base CX0 1 f fd ["_law_top", "_law_bottom"] j0:=by
 refine F.o pZ λ_ _ _ _ H _ Q _ hr h=>?_
 ·obtain ⟨a,b,rfl,hb,hbs,q⟩:=h
  refine ⟨_,(ag (au (i:=2) pZ.nd rfl (Or.inl rfl) (oI T (pv 0)))
(ag (au (i:=3) pZ.nd rfl (Or.inl rfl) (oI T (pv 1)))
(ag (gh PassesOwn.never (aw dZ (pv 3) af (ay _))
(ak (ps_par (i:=2) (j:=3) rfl pZ.nd rfl rfl (by decide) rfl rfl (aa (pv 3) (aa (ap bA (pv 2) (pv 3)) ae)) rfl)))
(ag (aH (aw jC (pv 1) af (ay _))
(ak (au (i:=2) pZ.nd rfl (Or.inl rfl) (ap bf af (pv 2))))
aA)
(ak (ar (aT (aa (ap bS (pv 0) (pv 2)) (aa (ap bS (pv 1) (pv 2)) ae))))))))),?_⟩
  refine ⟨_,rfl,_,rfl,_,rfl,_,rfl,?_⟩
  refine gr (λσ H'=>∃ x y:Nat,σ=[some (.int a),some (.int b),some (.int x),some (.int y)]/\H'=H/\Nat.gcd x y=Int.gcd a b) (λσ _=>match σ with | [_,_,_,some (.int y)]=>y.toNat | _=>0) ⟨a.natAbs,b.natAbs,?_,rfl,rfl⟩ ?_ ?_
  ·have e1:(if a<0 then -a else a)=(a.natAbs:Int):=by split<;>omega
   have e2:(if b<0 then -b else b)=(b.natAbs:Int):=by split<;>omega
   rw [e1,e2]
   rfl
  ·rintro σ H2 ⟨x,y,rfl,rfl,hg⟩
   refine ⟨_,rfl,_,_,rfl,rfl,_,rfl,bu (λh=>?_) (λh=>?_)⟩
   ·have hy:0<y:=by have:=of_decide_eq_true h; omega
    refine ⟨_,rfl,_,rfl,_,rfl,_,_,rfl,rfl,(by show (0:Int)<(y:Int); omega),_,_,rfl,⟨y,x % y,?_,rfl,?_⟩,?_⟩
    ·rfl
    ·rw [<- hg,Nat.gcd_comm x y,Nat.gcd_rec y x,Nat.gcd_comm]
    ·show ((x:Int) % (y:Int)).toNat<(y:Int).toNat
     have h1:=Int.emod_lt_of_pos (x:Int) (show (0:Int)<y by omega)
     have h2:=Int.emod_nonneg (x:Int) (show (y:Int) ≠ 0 by omega)
     omega
   ·have hy:y=0:=by
     have h1:¬ (0:Int)<(y:Int):=λz=>h (decide_eq_true z)
     omega
    subst hy
    rw [Nat.gcd_zero_right] at hg
    subst hg
    have hgp:0<Int.gcd a b:=Int.gcd_pos_of_ne_zero_right a hb
    have hgl:Int.gcd a b<=b.natAbs:=Nat.le_of_dvd (by omega) (Nat.gcd_dvd_right a.natAbs b.natAbs)
    have sm:(Int.gcd a b)<2 ^ 6000:=Nat.lt_of_le_of_lt hgl hbs
    refine ⟨_,rfl,_,_,rfl,rfl,_,rfl,bu (λh=>?_) (λh=>?_)⟩
    ·have hb0:b<0:=of_decide_eq_true h
     refine ⟨_,rfl,_,_,rfl,rfl,?_⟩
     have sm2:CDivA a (0-(Int.gcd a b:Int)):=⟨by omega,by rw [show (0-(Int.gcd a b:Int)).natAbs=Int.gcd a b by omega]; exact sm⟩
     refine ⟨_,rfl,_,rfl,_,_,rfl,rfl,sm2,_,rfl,_,rfl,_,_,rfl,rfl,sm2,(by show 2<=sizeLine; decide),λt ht=>?_⟩
     have z:=q t ht
     unfold nrm at z
     rw [if_pos hb0] at z
     rw [show 0-(Int.gcd a b:Int) = -(Int.gcd a b:Int) by omega]
     exact z
    ·have hb0:¬ b<0:=λz=>h (decide_eq_true z)
     have sm2:CDivA a (Int.gcd a b:Int):=⟨by omega,by rw [Int.natAbs_natCast]; exact sm⟩
     refine ⟨_,rfl,_,rfl,_,_,rfl,rfl,sm2,_,rfl,_,rfl,_,_,rfl,rfl,sm2,(by show 2<=sizeLine; decide),λt ht=>?_⟩
     have z:=q t ht
     unfold nrm at z
     rw [if_neg hb0] at z
     exact z
  ·rintro σ H Q Q' hq ⟨x,hx,i,j,e1,e2,b,hb,h⟩
   exact ⟨x,hx,i,j,e1,e2,b,hb,hq _ _ h⟩
def cU (n:Int) (i:Nat):List Int:=((List.range i).map λj:Nat=>(2:Int)+(j:Int)).filter λd=>decide (d*d<=n)
def ig (n:Int):Bool:=decide (1<n) && (cU n 98).all λd=>decide (0<n % d)
def oU (p:Int):Prop:=p=0\/(2<=p/\p<=9973/\ig p=true)
theorem iW (n:Int) (i:Nat):cU n (i+1)=if (2+(i:Int))*(2+(i:Int))<=n then cU n i++[2+(i:Int)] else cU n i:=by
 unfold cU
 rw [range_succ,map_append,List.filter_append]
 by_cases h:(2+(i:Int))*(2+(i:Int))<=n
 ·rw [if_pos h]
  simp [h]
 ·rw [if_neg h]
  simp [h]
theorem mem_parts {n d:Int} {i:Nat}:d ∈ cU n i↔2<=d/\d<2+(i:Int)/\d*d<=n:=by
 unfold cU
 rw [List.mem_filter,List.mem_map]
 constructor
 ·rintro ⟨⟨j,hj,rfl⟩,h⟩
  have:=List.mem_range.mp hj
  exact ⟨by omega,by omega,of_decide_eq_true h⟩
 ·rintro ⟨h1,h2,h3⟩
  exact ⟨⟨(d-2).toNat,List.mem_range.mpr (by omega),by omega⟩,decide_eq_true h3⟩
theorem isPb_iff {n:Int}:ig n=true↔1<n/\∀ d,2<=d->d<100->d*d<=n->0<n % d:=by
 unfold ig
 rw [Bool.and_eq_true,all_eq_true]
 constructor
 ·rintro ⟨h1,h2⟩
  exact ⟨of_decide_eq_true h1,λd a b c=>of_decide_eq_true (h2 d (mem_parts.mpr ⟨a,by omega,c⟩))⟩
 ·rintro ⟨h1,h2⟩
  refine ⟨decide_eq_true h1,λd hd=>?_⟩
  obtain ⟨a,b,c⟩:=mem_parts.mp hd
  exact decide_eq_true (h2 d a (by omega) c)
theorem isPb_2:ig 2=true:=by decide +kernel
def lj:Sp:=λvs H Q _=>∃ n:Int,vs=[.int n]/\∀ H',oS H H'->Q (.bl (ig n)) H'
theorem ql:oW ["_law_number_here", "_law_parts"] ["_law_number_here"] (am di):=.i
theorem ok_lawprime {f:Addr} {fd:FuncData} (F:Fun K "_law_is_prime" "_law_is_prime" di f fd) (T:Blt mg):oY P w K mg base CX0 1 f fd ["_law_number_here"] lj:=by
 refine F.o ql λ_ _ _ _ H _ Q _ hr h=>?_
 ·obtain ⟨n,rfl,q⟩:=h
  refine ⟨_,(ag (oB (i:=1) ql.nd rfl (Or.inl rfl) (N:=["_law_part", "_law_number_here"]) (src:=[none,some 0]) rfl rfl rfl (by exact (mf rfl T.range (aa af (aa af ae)))) (λ_ _ _=>by exact ⟨by exact (bP (i:=0) nd_0 rfl rfl),(fF (aw gM (ap bx (pv 0) (pv 0)) (pv 1) (ay _))),by exact (pv 0)⟩))
(ak (ar (jW (bZ dZ (pv 0) af (ay _)) (jd (jO K T (by exact aO (N:=["_law_part", "_law_number_here"]) (src:=[none,some 0]) rfl rfl rfl (by exact (aG K rfl (pv 1))) (λ_ _ _=>by exact ⟨by exact (bP (i:=0) nd_0 rfl rfl),aP,by exact (bZ dZ (ap bA (pv 1) (pv 0)) af (ay _))⟩)) false)))))),?_⟩
  refine ⟨_,_,rfl,⟨by decide,by decide,by decide,by decide⟩,aX (n:=98) (σ0:=[none,some (.int n)]) rfl (λacc i zs σ H'=>∃ u:Option V,σ=[u,some (.int n)]/\zs=(cU n i).map V.int/\oS H H') (by decide) (λacc hacc=>⟨none,rfl,rfl,oS.new hacc⟩) ?_ ?_ ?_ ?_⟩
  ·rintro acc i zs σ H' hacc hi hz _
   exact hi
  ·rintro acc zs σ H' hacc hz _
   exact Nat.le_refl 98
  ·rintro acc i zs σ H' x H'' hacc hi hz hzl ⟨u,rfl,rfl,sm⟩ ⟨rfl,rfl⟩
   refine ⟨_,rfl,_,rfl,_,_,rfl,rfl,.inl ⟨by omega,by omega⟩,_,rfl,_,_,rfl,rfl,_,rfl,bu (λh=>?_) (λh=>?_)⟩
   ·have h':(2+(i:Int))*(2+(i:Int))<=n:=of_decide_eq_true h
    refine ⟨_,rfl,_,hz,gE (by omega),_,ac,by rw [length_append,length_singleton]; omega,_,rfl,?_,sm.put hacc⟩
    rw [iW,if_pos h',map_append]
    rfl
   ·have h':¬ (2+(i:Int))*(2+(i:Int))<=n:=λz=>h (decide_eq_true z)
    refine ⟨_,hz,by omega,_,rfl,?_,sm⟩
    rw [iW,if_neg h']
  ·rintro acc zs σ H' hacc hz hzl ⟨u,rfl,rfl,sm⟩
   refine ⟨_,rfl,_,_,rfl,rfl,_,rfl,bu (λh=>?_) (λh=>?_)⟩
   ·have h1:(1:Int)<n:=of_decide_eq_true h
    refine ⟨_,rfl,acc,rfl,⟨_,SqL.of hz⟩,comp_lst (v1 λd=>.bl (decide (0<n % d))) rfl (SqL.of hz) (Nat.le_of_lt (gE (by omega))) (λi x H1 R hx sm1 hR=>?_) (λacc2 H1 hacc2 sm1 hl1=>?_)⟩
    ·obtain ⟨z,hz',rfl⟩:=cW hx
     obtain ⟨z2,_,_⟩:=mem_parts.mp (mem_of_getElem? hz')
     exact ⟨_,rfl,_,rfl,_,_,rfl,rfl,(by show (0:Int)<z; omega),_,_,rfl,rfl,hR⟩
    ·rw [map_v1] at hl1
     have e1:(cU n 98).map (λd=>V.bl (decide (0<n % d)))=((cU n 98).map λd=>decide (0<n % d)).map V.bl:=by rw [map_map]; rfl
     rw [e1] at hl1
     refine ⟨acc2,_,rfl,bJ (SqL.of hl1),?_⟩
     have z:=q H1 (sm.trans sm1)
     unfold ig at z
     rw [decide_eq_true h1,Bool.true_and] at z
     rw [List.all_map]
     exact z
   ·have h1:¬ (1:Int)<n:=λz=>h (decide_eq_true z)
    have z:=q H' sm
    unfold ig at z
    rw [decide_eq_false h1,Bool.false_and] at z
    exact z
def spPrime:Sp:=λvs H Q _=>∃ (p:Addr) (a b:Int) (k:Nat),vs=[.ref p]/\H p=some (.lst [.int a,.int b])/\pc a b k/\k<=900000/\
 ∀ (r a' b':Int) (H':Hp),oU r->H' p=some (.lst [.int a',.int b'])->pc a' b' (k+2)->(∀ c o,H c=some o->c ≠ p->H' c=some o)->Q (.int r) H'
theorem p6:oW ["_law_bag_here", "_law_way", "_law_number_here"] ["_law_bag_here"] (am fo):=.i
theorem ok_prime {f:Addr} {fd:FuncData} (F:Fun K "_law_prime" "_law_prime" fo f fd) (qO:FnB P w K mg base 1 "_law_take" cw) (tM:FnB P w K mg base 1 "_law_is_prime" lj):oY P w K mg base CX0 2 f fd ["_law_bag_here"] spPrime:=by
 refine F.o p6 λ_ _ _ _ H _ Q _ hr h=>?_
 ·obtain ⟨p,a,b,k,rfl,hp,hb,hk,q⟩:=h
  refine ⟨_,(ag (au (i:=1) p6.nd rfl (Or.inl rfl) (aq qO hr.m (aa (pv 0) (aa af ae))))
(ag (aH (aw jC (pv 1) af (ay _))
(ak (ar af))
aA)
(ag (aH (aw jC (pv 1) af (ay _))
(ak (ar (aB (aE K rfl) (aI (aa af (aa af (aa af ae)))) (ap bf (pv 1) af) (λ_ _=>rfl))))
aA)
(ag (au (i:=2) p6.nd rfl (Or.inl rfl) (ap aL af (aq qO hr.m (aa (pv 0) (aa af ae)))))
(ag (gh PassesOwn.never (cE (bR (aq tM hr.m (aa (pv 2) ae))))
(ak (au (i:=2) p6.nd rfl (Or.inl rfl) (ap bf (pv 2) af))))
(ak (ar (pv 2)))))))),?_⟩
  refine ⟨_,rfl,p,a,b,8,k,rfl,hp,hb,by omega,by decide,aD (by decide) (by decide),λr1 a1 b1 r10 r11 hb1=>?_⟩
  have k1:∀ o c o',H c=some o'->c ≠ p->(upd H p o) c=some o':=λo c o' e hc=>by rw [ao hc]; exact e
  refine ⟨_,rfl,_,_,rfl,rfl,_,rfl,bu (λh=>?_) (λh=>?_)⟩
  ·exact q 0 a1 b1 _ (.inl rfl) ac (hb1.mono (by omega)) (k1 _)
  have h4:¬ r1<4:=λz=>h (decide_eq_true z)
  refine ⟨_,rfl,_,_,rfl,rfl,_,rfl,bu (λh=>?_) (λh=>?_)⟩
  ·have h7:r1<7:=of_decide_eq_true h
   refine ⟨(by show 3<=sizeLine; decide),λq1 n1=>?_⟩
   have pq:p ≠ q1:=ah (o:=.lst [.int a1,.int b1]) ac n1
   obtain ⟨v,hat,hv⟩:∃ v:Int,atI [V.int 2,V.int 3,V.int 7] (r1-4)=some (.int v)/\oU v:=by
    have h:r1=4\/r1=5\/r1=6:=by omega
    rcases h with rfl | rfl | rfl
    ·exact ⟨2,rfl,.inr ⟨by decide,by decide,by decide +kernel⟩⟩
    ·exact ⟨3,rfl,.inr ⟨by decide,by decide,by decide +kernel⟩⟩
    ·exact ⟨7,rfl,.inr ⟨by decide,by decide,by decide +kernel⟩⟩
   refine ⟨_,rfl,_,_,rfl,rfl,q1,_,_,_,rfl,rfl,SqL.of ac,hat,?_⟩
   exact q v a1 b1 _ hv (by rw [ao pq,ac]) (hb1.mono (by omega)) λc o e hc=>by rw [ao (ah (k1 _ c o e hc) n1)]; exact k1 _ c o e hc
  ·refine ⟨_,rfl,p,a1,b1,9972,k+1,rfl,ac,hb1,by omega,by decide,aD (by decide) (by decide),λr2 a2 b2 r20 r21 hb2=>?_⟩
   refine ⟨_,_,rfl,rfl,?_⟩
   rw [cS]
   refine gr (λσ H'=>∃ n:Int,σ=[some (.ref p),some (.int r1),some (.int n)]/\2<=n/\n<=9973/\oS (upd H p (.lst [.int a2,.int b2])) H') (λσ _=>match σ with | [_,_,some (.int n)]=>n.toNat | _=>0) ⟨_,rfl,by omega,by omega,oS.refl _⟩ ?_ ?_
   ·rintro σ H2 ⟨n,rfl,n2,n9,sm⟩
    refine ⟨_,rfl,n,rfl,λH3 sm3=>⟨_,rfl,?_⟩⟩
    cases hn:ig n with
    | false=>
     refine bF ⟨_,rfl,_,_,rfl,rfl,⟨_,rfl,?_,by omega,sm.trans sm3⟩,?_⟩
     ·have:n ≠ 2:=λz=>by rw [z,isPb_2] at hn; cases hn
      omega
     ·show (n-1).toNat<n.toNat
      omega
    | true=>
     refine br ⟨_,rfl,?_⟩
     have s:=sm.trans sm3
     exact q n a2 b2 H3 (.inr ⟨n2,n9,hn⟩) (s _ _ ac) hb2 λc o e hc=>s _ _ (k1 _ c o e hc)
   ·rintro σ H Q Q' hq ⟨x,hx,n,e,h⟩
    refine ⟨x,hx,n,e,λH' s=>?_⟩
    obtain ⟨b,hb,z⟩:=h H' s
    exact ⟨b,hb,hq _ _ z⟩
def mm:Sp:=λvs H Q _=>∃ n:Int,vs=[.int n]/\Q (.bl (decide (2<=n/\n<=9973) && ig n)) H
theorem sc_is_prime:oW ["whole", "divisor"] ["whole"] (am ij):=.i
theorem ok_isprime {f:Addr} {fd:FuncData} {tk tk2:Tok} (F:Fun K "is_prime" "is_prime" ij f fd) (cLeast:mg "LEAST_PRIME"=some (.int 2 tk)) (cGreatest:mg "GREATEST_PRIME"=some (.int 9973 tk2)):oY P w K mg base CX0 1 f fd ["whole"] mm:=by
 refine F.o sc_is_prime λ_ _ _ _ H _ Q _ hr h=>?_
 ·obtain ⟨n,rfl,q⟩:=h
  refine ⟨_,(ag (aH (PW.pt (fH (aw jC (pv 0) (jQ (v:=.int 2) rfl cLeast ⟨_,rfl⟩) (ay _)) (ft (aw dZ (pv 0) (jQ (v:=.int 9973) rfl cGreatest ⟨_,rfl⟩) (ay _)))))
(ak (ar bV))
aA)
(ag (au (i:=1) sc_is_prime.nd rfl (Or.inl rfl) af)
(ag (gh PassesOwn.never (aw gM (ap bx (pv 1) (pv 1)) (pv 0) (ay _))
(ag (aH (aw bM (ap bA (pv 0) (pv 1)) af (ay _))
(ak (ar bV))
aA)
(ak (au (i:=1) sc_is_prime.nd rfl (Or.inl rfl) (ap aL (pv 1) af)))))
(ak (ar bV))))),?_⟩
  have no:¬ (2<=n/\n<=9973)->Q (.bl false) H:=λh=>by
   rw [decide_eq_false h,Bool.false_and] at q
   exact q
  refine ⟨_,rfl,_,_,rfl,rfl,_,rfl,bu (λh=>?_) (λh=>?_)⟩
  ·have h1:n<2:=of_decide_eq_true h
   exact bF (no (by omega))
  have h1:¬ n<2:=λz=>h (decide_eq_true z)
  refine ⟨_,rfl,_,_,rfl,rfl,_,rfl,bu (λh=>?_) (λh=>?_)⟩
  ·have h2:9973<n:=of_decide_eq_true h
   exact no (by omega)
  have h2:¬ 9973<n:=λz=>h (decide_eq_true z)
  rw [decide_eq_true (show 2<=n/\n<=9973 by omega),Bool.true_and] at q
  refine gr (λσ H'=>∃ d:Int,σ=[some (.int n),some (.int d)]/\H'=H/\2<=d/\d<=101/\∀ e,2<=e->e<d->0<n % e) (λσ _=>match σ with | [_,some (.int d)]=>(200-d).toNat | _=>0) ⟨2,rfl,rfl,by omega,by omega,λe h1 h2=>by omega⟩ ?_ ?_
  ·rintro σ H2 ⟨d,rfl,rfl,hd2,hd1,hall⟩
   refine ⟨_,rfl,_,rfl,_,_,rfl,rfl,.inl ⟨by omega,by omega⟩,_,rfl,_,_,rfl,rfl,_,rfl,bu (λh=>?_) (λh=>?_)⟩
   ·have hdd:d*d<=n:=of_decide_eq_true h
    have hd100:d<100:=Int.not_le.mp λz=>by
     have:=Int.mul_le_mul z z (by omega) (by omega)
     omega
    refine ⟨_,rfl,_,rfl,_,_,rfl,rfl,(by show (0:Int)<d; omega),rfl,_,rfl,bu (λh=>?_) (λh=>?_)⟩
    ·have h0:n % d=0:=by
      have:=of_decide_eq_true h
      injection this
     have e:ig n=false:=by
      cases hp:ig n with
      | false=>rfl
      | true=>
       have:=(isPb_iff.mp hp).2 d hd2 hd100 hdd
       omega
     rw [e] at q
     exact q
    ·have h0:n % d ≠ 0:=λz=>h (decide_eq_true (congrArg V.int z))
     have h00:=Int.emod_nonneg n (show d ≠ 0 by omega)
     refine ⟨_,rfl,_,_,rfl,rfl,⟨d+1,rfl,rfl,by omega,by omega,λe e1 e2=>?_⟩,?_⟩
     ·by_cases ee:e=d
      ·rw [ee]; omega
      ·exact hall e e1 (by omega)
     ·show (200-(d+1)).toNat<(200-d).toNat
      omega
   ·have hdd:¬ d*d<=n:=λz=>h (decide_eq_true z)
    have e:ig n=true:=isPb_iff.mpr ⟨by omega,λe e1 e2 e3=>hall e e1 (Int.not_le.mp λz=>by
     have:=Int.mul_le_mul z z (by omega) (by omega)
     omega)⟩
    rw [e] at q
    exact q
  ·rintro σ H Q Q' hq ⟨x,hx,x2,hx2,i,j,e1,e2,c,y,hy,i2,j2,e3,e4,b,hb,h⟩
   exact ⟨x,hx,x2,hx2,i,j,e1,e2,c,y,hy,i2,j2,e3,e4,b,hb,hq _ _ h⟩
def spGcd:Sp:=λvs H Q _=>∃ a b:Int,vs=[.int a,.int b]/\Q (.int (Int.gcd a b)) H
theorem pE:oW ["one", "other", "first", "second", "rest"] ["one", "other"] (am ck):=.i
theorem ok_gcd {f:Addr} {fd:FuncData} (F:Fun K "greatest_divisor" "greatest_divisor" ck f fd) (T:Blt mg):oY P w K mg base CX0 1 f fd ["one", "other"] spGcd:=by
 refine F.o pE λ_ _ _ _ H _ Q _ hr h=>?_
 ·obtain ⟨a,b,rfl,q⟩:=h
  refine ⟨_,(ag (au (i:=2) pE.nd rfl (Or.inl rfl) (oI T (pv 0)))
(ag (au (i:=3) pE.nd rfl (Or.inl rfl) (oI T (pv 1)))
(ag (gh PassesOwn.never (aw mM (pv 3) af (ay _))
(ag (au (i:=4) pE.nd rfl (Or.inl rfl) (ap bA (pv 2) (pv 3)))
(ag (au (i:=2) pE.nd rfl (Or.inl rfl) (pv 3))
(ak (au (i:=3) pE.nd rfl (Or.inl rfl) (pv 4))))))
(ak (ar (pv 2)))))),?_⟩
  refine ⟨_,rfl,_,rfl,_,rfl,_,rfl,?_⟩
  refine gr (λσ H'=>∃ (x y:Nat) (u:Option V),σ=[some (.int a),some (.int b),some (.int x),some (.int y),u]/\H'=H/\Nat.gcd x y=Int.gcd a b) (λσ _=>match σ with | [_,_,_,some (.int y),_]=>y.toNat | _=>0) ⟨a.natAbs,b.natAbs,none,?_,rfl,rfl⟩ ?_ ?_
  ·have e1:(if a<0 then -a else a)=(a.natAbs:Int):=by split<;>omega
   have e2:(if b<0 then -b else b)=(b.natAbs:Int):=by split<;>omega
   rw [e1,e2]
   rfl
  ·rintro σ H2 ⟨x,y,u,rfl,rfl,hg⟩
   refine ⟨_,rfl,rfl,_,rfl,?_⟩
   by_cases hy:y=0
   ·subst hy
    refine iteNS rfl ?_
    rw [Nat.gcd_zero_right] at hg
    subst hg
    exact ⟨_,rfl,q⟩
   ·rw [decide_eq_false (show ¬ V.int (y:Int)=V.int 0 from λz=>by injection z; omega)]
    refine bF ⟨_,rfl,_,rfl,_,_,rfl,rfl,(by show (0:Int)<(y:Int); omega),_,rfl,_,rfl,⟨y,x % y,some (.int ((x:Int) % (y:Int))),?_,rfl,?_⟩,?_⟩
    ·rfl
    ·rw [<- hg,Nat.gcd_comm x y,Nat.gcd_rec y x,Nat.gcd_comm]
    ·show ((x:Int) % (y:Int)).toNat<(y:Int).toNat
     have h1:=Int.emod_lt_of_pos (x:Int) (show (0:Int)<y by omega)
     have h2:=Int.emod_nonneg (x:Int) (show (y:Int) ≠ 0 by omega)
     omega
  ·rintro σ H Q Q' hq ⟨x,hx,e1,b,hb,h⟩
   exact ⟨x,hx,e1,b,hb,hq _ _ h⟩
def pC (CF CR:Addr) (H:Hp) (x:Addr) (p:Int):Prop:=(p=0/\∃ dx,H x=some (.ins CF dx []))\/(p ≠ 0/\∃ dx,H x=some (.ins CR dx [("modulus",.int p)]))
def nG (CR:Addr):Sp:=λvs H Q _=>∃ (x dx:Addr) (p:Int),vs=[.ref x,.int p]/\H x=some (.ins CR dx [])/\oU p/\p ≠ 0/\Q .non (upd H x (.ins CR dx [("modulus",.int p)]))
def spNums (CF CR:Addr):Sp:=λvs H Q _=>∃ p:Int,vs=[.int p]/\oU p/\∀ (x:Addr) (H':Hp),oS H H'->pC CF CR H' x p->Q (.ref x) H'
theorem iA:oW ["self", "prime"] ["self", "prime"] (am bj):=.i
theorem ok_rinit {f CR:Addr} {fd:FuncData} (F:Fun K "__init__" "Rests.__init__" bj f fd) (cl:Cls K CR) (nM:pQ K CR "modulus") (vE:FnB P w K mg base 1 "is_prime" mm):oY P w K mg base CX0 2 f fd ["self", "prime"] (nG CR):=by
 refine F.o iA λ_ _ _ _ H _ Q _ hr h=>?_
 ·obtain ⟨x,dx,p,rfl,hx,hp,p0,q⟩:=h
  refine ⟨_,(ag (aH (cE (bR (aq vE hr.m (aa (pv 1) ae))))
(ak ps_never)
aA)
(ak (ps_fld (pv 0) (pv 1) rfl))),?_⟩
  rcases hp with z | ⟨h1,h2,h3⟩
  ·exact absurd z p0
  refine ⟨_,rfl,p,rfl,_,rfl,?_⟩
  rw [decide_eq_true ⟨h1,h2⟩,h3]
  refine br ⟨_,rfl,_,rfl,x,CR,dx,[],rfl,hx,cl,nM,(by show 0<1000; decide),?_⟩
  exact q
theorem jG:oW ["_law_prime_here"] ["_law_prime_here"] (am dF):=.i
theorem ok_nums {f CF CR:Addr} {fd:FuncData} (F:Fun K "_law_numbers" "_law_numbers" dF f fd) (MFractions:Mk0 K CF) (AFractions:mg "Fractions"=some (.ref CF)) (yy:MkB P w K mg base 2 CR "Rests" (nG CR)):oY P w K mg base CX0 4 f fd ["_law_prime_here"] (spNums CF CR):=by
 refine F.o jG λ_ _ _ _ H _ Q _ hr h=>?_
 ·obtain ⟨p,rfl,hp,q⟩:=h
  refine ⟨_,(ag (aH (aw bM (pv 0) af (ay _))
(ak (ar (pe_mk0 MFractions AFractions)))
aA)
(ak (ar (pe_mkB yy hr.m (aa (pv 0) ae))))),?_⟩
  refine ⟨_,rfl,rfl,_,rfl,bu (λh=>?_) (λh=>?_)⟩
  ·have h0:p=0:=by
    have:=of_decide_eq_true h
    injection this
   intro x dx nx ndx ne
   exact q x _ ((oS.new ndx).put nx) (.inl ⟨h0,dx,ac⟩)
  ·have h0:p ≠ 0:=λz=>h (decide_eq_true (congrArg V.int z))
   refine ⟨_,rfl,λx dx nx ndx ne=>?_⟩
   refine ⟨x,dx,p,rfl,ac,hp,h0,rfl,?_⟩
   exact q x _ (((oS.new ndx).put nx).put nx) (.inr ⟨h0,dx,ac⟩)
def isI:V->Bool
 | .int _=>true
 | _=>false
def Typed (K:Frag) (H:Hp) (x:V):Prop:=∃ (t:Value) (b c:Bool),pT K H x t/\kitOne K t (.type "int")=some b/\kitOne K t (.type "bool")=some c/\(b && !c)=isI x
theorem Typed.int {K:Frag} {H:Hp} (i:Int):Typed K H (.int i):=⟨_,true,false,.int i,rfl,rfl,rfl⟩
theorem Typed.tup {K:Frag} {H:Hp} {a:Addr} {xs:List V} (h:H a=some (.tup xs)):Typed K H (.ref a):=⟨_,false,false,.tup h,rfl,rfl,rfl⟩
theorem typed_ints {K:Frag} {H:Hp} (ns:List Int):∀ x ∈ ns.map V.int,Typed K H x:=λx hx=>by
 obtain ⟨z,_,rfl⟩:=List.mem_map.mp hx
 exact .int z
def NumIs (P:Int) (H:Hp) (v:V):Prop:=(P ≠ 0/\∃ r,v=.int r/\0<=r/\r<P)\/(P=0/\∃ (t:Addr) (n d:Int),v=.ref t/\H t=some (.tup [.int n,.int d])/\0<d/\Int.gcd n d=1/\n.natAbs<10 ^ 31/\d.natAbs<10 ^ 31)
theorem pow31:(10:Nat) ^ 31<2 ^ 3000:=by decide +kernel
theorem pow2000:(2:Nat) ^ 3000<2 ^ 6000:=Nat.pow_lt_pow_right (by decide) (by decide)
def Thing (K:Frag) (H:Hp) (v:V):Prop:=Typed K H v/\((∃ t,pT K H v t/\kitOne K t (.type "tuple")=some false/\∀ a,v=.ref a->∃ xs,H a=some (.lst xs)) \/
 ∃ a xs,v=.ref a/\H a=some (.tup xs)/\xs.length<=1000/\(∀ x ∈ xs,Typed K H x)/\∀ i,V.int i ∈ xs->i.natAbs<2 ^ 3000)
def mI:List V->Bool
 | [.int n,.int d]=>decide (1<=d) && decide (Int.gcd n d=1)
 | _=>false
def fracV (H:Hp):V->Bool
 | .ref a=>match H a with
  | some (.tup xs)=>mI xs
  | _=>false
 | _=>false
def restV (P:Int):V->Bool
 | .int i=>decide (0<=i) && decide (i<P)
 | _=>false
def numV (P:Int) (H:Hp) (v:V):Bool:=if P=0 then fracV H v else restV P v
theorem lU {H:Hp} {a:Addr} {xs:List V} (h:H a=some (.tup xs)):fracV H (.ref a)=mI xs:=by
 show (match H a with | some (.tup xs)=>mI xs | _=>false)=_
 rw [h]
theorem fracV_not {H:Hp} {v:V} (h:∀ a,v=.ref a->∃ xs,H a=some (.lst xs)):fracV H v=false:=by
 cases v with
 | ref a=>
  obtain ⟨xs,e⟩:=h a rfl
  show (match H a with | some (.tup xs)=>mI xs | _=>false)=_
  rw [e]
 | _=>rfl
def spNumber:Sp:=λvs H Q _=>∃ (p:Addr) (P a b:Int) (g:Bool) (k:Nat),vs=[.int P,.ref p,.bl g]/\oU P/\H p=some (.lst [.int a,.int b])/\pc a b k/\k<=700000/\
 ∀ (v:V) (a' b':Int) (H':Hp),NumIs P H' v->H' p=some (.lst [.int a',.int b'])->pc a' b' (k+8)->(∀ c o,H c=some o->c ≠ p->H' c=some o)->Q v H'
def spLike (K:Frag):Sp:=λvs H Q _=>∃ (P:Int) (v:V),vs=[.int P,v]/\oU P/\Thing K H v/\∀ H',oS H H'->Q (.bl (numV P H v)) H'
theorem fW:oW ["_law_prime_here", "_law_bag_here", "_law_great_here"] ["_law_prime_here", "_law_bag_here", "_law_great_here"] (am cV):=.i
theorem ok_number {f:Addr} {fd:FuncData} (F:Fun K "_law_number" "_law_number" cV f fd) (T:Blt mg) (qO:FnB P w K mg base 1 "_law_take" cw) (rj:FnB P w K mg base 2 "_law_great" jM) (sg:FnB P w K mg base 3 "_law_signed" km) (qV:FnB P w K mg base 1 "_law_low" j0) :
  oY P w K mg base CX0 4 f fd ["_law_prime_here", "_law_bag_here", "_law_great_here"] spNumber:=by
 refine F.o fW λ_ _ _ _ H _ Q _ hr h=>?_
 ·obtain ⟨p,P,a,b,g,k,rfl,hP,hp,hb,hk,q⟩:=h
  refine ⟨_,(ag (aH (aw dZ (pv 0) af (ay _))
(ak (ar (aq qO hr.m (aa (pv 1) (aa (pv 0) ae)))))
aA)
(ag (aH (bR (pv 2))
(ak (ar (aq qV hr.m (aa (aq sg hr.m (aa (pv 1) ae)) (aa (pl_max T (aa af (aa (aq rj hr.m (aa (pv 1) ae)) ae))) ae)))))
aA)
(ak (ar (aq qV hr.m (aa (ap bf (aq qO hr.m (aa (pv 1) (aa af ae))) af) (aa (ap aL af (ap bS (aq qO hr.m (aa (pv 1) (aa af ae))) af)) ae))))))),?_⟩
  have k1:∀ o c o',H c=some o'->c ≠ p->(upd H p o) c=some o':=λo c o' e hc=>by rw [ao hc]; exact e
  refine ⟨_,rfl,_,_,rfl,rfl,_,rfl,bu (λh=>?_) (λh=>?_)⟩
  ·have h0:0<P:=of_decide_eq_true h
   have h9:P<=9973:=by rcases hP with z | ⟨_,z,_⟩<;>omega
   refine ⟨_,rfl,_,rfl,p,a,b,P,k,rfl,hp,hb,by omega,h0,aD (by omega) (by omega),λr a1 b1 r0 r1 hb1=>?_⟩
   exact q _ a1 b1 _ (.inl ⟨by omega,r,rfl,r0,r1⟩) ac (hb1.mono (by omega)) (k1 _)
  have h0:P=0:=by
   have h1:¬ 0<P:=λz=>h (decide_eq_true z)
   rcases hP with z | ⟨z,_⟩<;>omega
  have low:∀ (n d a' b':Int) (t:Addr),0<d->n.natAbs<10 ^ 31->d.natAbs<10 ^ 31->pc a' b' (k+8)->(upd H p (.lst [.int a',.int b'])) t=none->
    Q (.ref t) (upd (upd H p (.lst [.int a',.int b'])) t (.tup [.int (nrm n d).1,.int (nrm n d).2])):=λn d a' b' t hd hn hd2 hb' ht=>by
   have pt:p ≠ t:=ah (o:=.lst [.int a',.int b']) ac ht
   have hl:=kR n d (by omega)
   refine q _ a' b' _ (.inr ⟨h0,t,_,_,rfl,ac,bY n d (by omega),cD n d (by omega),Nat.lt_of_le_of_lt hl.1 hn,Nat.lt_of_le_of_lt hl.2 hd2⟩) (by rw [ao pt,ac]) hb' λc o e hc=>?_
   rw [ao (ah (k1 _ c o e hc) ht)]
   exact k1 _ c o e hc
  have big:∀ d:Int,d.natAbs<10 ^ 31->d.natAbs<2 ^ 6000:=λd h=>Nat.lt_trans h (Nat.lt_trans pow31 pow2000)
  refine ⟨_,rfl,_,rfl,?_⟩
  cases g with
  | true=>
   refine bF ⟨_,rfl,p,a,b,k,rfl,hp,hb,by omega,λr1 a1 b1 r10 r11 hb1=>?_⟩
   refine ⟨_,rfl,p,a1,b1,k+4,rfl,ac,hb1,by omega,λr2 a2 b2 r20 r21 hb2=>?_⟩
   refine ⟨_,_,rfl,?_⟩
   rw [cS]
   have hm:(1:Int)<=(if r2 > 1 then r2 else 1)/\(if r2 > 1 then r2 else 1)<1000000000000000000000000000000:=by split<;>omega
   generalize (if r2 > 1 then r2 else 1)=m at hm
   refine ⟨r1,m,rfl,by omega,big _ (by omega),λt ht=>?_⟩
   exact low r1 m a2 b2 t (by omega) (by omega) (by omega) (hb2.mono (by omega)) ht
  | false=>
   refine br ⟨_,rfl,p,a,b,7,k,rfl,hp,hb,by omega,by decide,aD (by decide) (by decide),λr1 a1 b1 r10 r11 hb1=>?_⟩
   refine ⟨_,_,rfl,rfl,?_⟩
   refine ⟨_,rfl,p,a1,b1,8,k+1,rfl,ac,hb1,by omega,by decide,aD (by decide) (by decide),λr2 a2 b2 r20 r21 hb2=>?_⟩
   refine ⟨_,_,rfl,rfl,gm (by decide) (by decide),_,_,rfl,rfl,?_⟩
   rw [cS]
   have hm:(1:Int)<=1+r2.fdiv 7/\1+r2.fdiv 7<100:=by
    rw [Int.fdiv_eq_ediv_of_nonneg _ (by decide)]
    omega
   refine ⟨r1-3,1+r2.fdiv 7,rfl,by omega,big _ (by omega),λt ht=>?_⟩
   exact low (r1-3) (1+r2.fdiv 7) a2 b2 t (by omega) (by omega) (by omega) (hb2.mono (by omega)) ht
theorem gJ:oW ["_law_prime_here", "_law_found"] ["_law_prime_here", "_law_found"] (am cg):=.i
theorem ok_like {f:Addr} {fd:FuncData} (F:Fun K "_law_number_like" "_law_number_like" cg f fd) (T:Blt mg) (rl:FnB P w K mg base 1 "_law_whole" (nj K)) (qV:FnB P w K mg base 1 "_law_low" j0) :
  oY P w K mg base CX0 2 f fd ["_law_prime_here", "_law_found"] (spLike K):=by
 refine F.o gJ λ_ _ _ _ H _ Q _ hr h=>?_
 ·obtain ⟨P,v,rfl,hP,⟨ty,hv⟩,q⟩:=h
  refine ⟨_,(ag (aH (aw dZ (pv 0) af (ay _))
(ak (ar (jW (aq rl hr.m (aa (pv 1) ae)) (jd (pe_chain gM jC af (pv 1) (pv 0))))))
aA)
(ag (aH (PW.pt (fH (cE (bR (gS K T (pv 1) T.tuple dW))) (fH (aw mM (bq K T (pv 1)) af (ay _)) (fH (cE (bR (aq rl hr.m (aa (aB (az K rfl) (pv 1) af (λ_ _=>rfl)) ae)))) (ft (cE (bR (aq rl hr.m (aa (aB (az K rfl) (pv 1) af (λ_ _=>rfl)) ae)))))))))
(ak (ar bV))
aA)
(ak (ar (jW (bZ dZ (aB (az K rfl) (pv 1) af (λ_ _=>rfl)) af (ay _)) (jd (bZ (keqD K rfl hr.units) (aq qV hr.m (aa (aB (az K rfl) (pv 1) af (λ_ _=>rfl)) (aa (aB (az K rfl) (pv 1) af (λ_ _=>rfl)) ae))) (pv 1) (ay _)))))))),?_⟩
  refine ⟨_,rfl,_,_,rfl,rfl,_,rfl,bu (λh=>?_) (λh=>?_)⟩
  ·have h0:0<P:=of_decide_eq_true h
   have z:=q H (oS.refl H)
   unfold numV at z
   rw [if_neg (by omega)] at z
   obtain ⟨t,b,c,ty,h1,h2,e⟩:=ty
   refine ⟨_,rfl,v,t,b,c,rfl,ty,h1,h2,_,rfl,?_⟩
   rw [e]
   cases v with
   | int i=>
    refine bF ⟨_,rfl,_,_,rfl,rfl,_,rfl,?_⟩
    by_cases hi:0<=i
    ·rw [decide_eq_true hi]
     refine bF ⟨_,rfl,_,_,rfl,rfl,?_⟩
     have z':Q (.bl (decide (0<=i) && decide (i<P))) H:=z
     rw [decide_eq_true hi,Bool.true_and] at z'
     exact z'
    ·rw [decide_eq_false hi]
     have z':Q (.bl (decide (0<=i) && decide (i<P))) H:=z
     rw [decide_eq_false hi,Bool.false_and] at z'
     exact br z'
   | _=>exact br z
  ·have h0:P=0:=by
    have h1:¬ 0<P:=λz=>h (decide_eq_true z)
    rcases hP with z | ⟨z,_⟩<;>omega
   unfold numV at q
   rw [if_pos h0] at q
   rcases hv with ⟨t,ty,e,hn⟩ | ⟨a,xs,rfl,ha,hl,hty,hbd⟩
   ·rw [fracV_not hn] at q
    exact ⟨_,rfl,t,false,ty,e,_,rfl,bF (bF (q H (oS.refl H)))⟩
   ·rw [lU ha] at q
    refine ⟨_,rfl,_,true,.tup ha,rfl,_,rfl,br ?_⟩
    refine ⟨_,rfl,a,xs,rfl,.inr (SqT.of ha),rfl,_,rfl,?_⟩
    by_cases hL:(xs.length:Int)=2
    ·refine iteNS (congrArg V.int hL) ?_
     match xs,hL with
     | [x,y],_=>
     obtain ⟨t1,b1,c1,ty1,h11,h12,e1⟩:=hty x (by simp)
     obtain ⟨t2,b2,c2,ty2,h21,h22,e2⟩:=hty y (by simp)
     refine ⟨_,rfl,a,_,_,_,rfl,rfl,SqT.of ha,rfl,x,t1,b1,c1,rfl,ty1,h11,h12,_,rfl,?_⟩
     rw [e1]
     cases x with
     | int n=>
      refine br ?_
      refine ⟨_,rfl,a,_,_,_,rfl,rfl,SqT.of ha,rfl,y,t2,b2,c2,rfl,ty2,h21,h22,_,rfl,?_⟩
      rw [e2]
      cases y with
      | int d=>
       refine br ?_
       refine ⟨_,rfl,a,_,_,_,rfl,rfl,SqT.of ha,rfl,_,_,rfl,rfl,_,rfl,?_⟩
       have q':∀ H',oS H H'->Q (.bl (decide (1<=d) && decide (Int.gcd n d=1))) H':=q
       by_cases hd:0<d
       ·rw [decide_eq_true (show 1<=d by omega),Bool.true_and] at q'
        rw [decide_eq_true hd]
        refine bF ⟨_,rfl,a,_,_,_,rfl,rfl,SqT.of ha,rfl,_,rfl,a,_,_,_,rfl,rfl,SqT.of ha,rfl,n,d,rfl,by omega,Nat.lt_trans (hbd d (by simp)) pow2000,λt nt=>?_⟩
        have st:=oS.new (o:=.tup [.int (nrm n d).1,.int (nrm n d).2]) nt
        refine ⟨_,rfl,eW [(nrm n d).1,(nrm n d).2],eW [n,d],gA (SqT.of ac),gA (SqT.of (st _ _ ha)),cA _,cA _,?_⟩
        rw [kZ]
        have ed:decide ([(nrm n d).1,(nrm n d).2]=[n,d])=decide (Int.gcd n d=1):=by
         apply decide_eq_decide.mpr
         rw [<- eQ n d hd]
         constructor
         ·intro z
          injection z with z1 z2
          injection z2 with z2
          exact Prod.ext z1 z2
         ·intro z
          rw [z]
        rw [ed]
        exact q' _ st
       ·rw [decide_eq_false (show ¬ 1<=d by omega),Bool.false_and] at q'
        rw [decide_eq_false hd]
        exact br (q' H (oS.refl H))
      | _=>exact bF (q H (oS.refl H))
     | _=>exact bF (bF (by cases y<;>exact q H (oS.refl H)))
    ·have e0:(!decide (V.int (xs.length:Int)=V.int 2))=true:=by
      rw [decide_eq_false (λz=>hL (by injection z))]; rfl
     rw [e0]
     have z:=q H (oS.refl H)
     have ep:mI xs=false:=by
      unfold mI
      split
      ·exact absurd rfl hL
      ·rfl
     rw [ep] at z
     exact bF (bF z)
def At (P:Int) (H:Hp) (v:V) (x:Int × Int):Prop:=(P=0/\∃ t,v=.ref t/\H t=some (.tup [.int x.1,.int x.2]))\/(P ≠ 0/\v=.int x.1/\x.2=1)
theorem At.mono {P:Int} {H H':Hp} {v:V} {x:Int × Int} (h:At P H v x) (k:∀ t xs,H t=some (.tup xs)->H' t=some (.tup xs)):At P H' v x:=by
 rcases h with ⟨h0,t,rfl,e⟩ | h
 ·exact .inl ⟨h0,t,rfl,k _ _ e⟩
 ·exact .inr h
theorem At.same {P:Int} {H H':Hp} {v:V} {x:Int × Int} (h:At P H v x) (s:oS H H'):At P H' v x:=h.mono λt xs e=>s _ _ e
theorem iE:(2:Nat) ^ 2900<2 ^ 6000:=Nat.pow_lt_pow_right (by decide) (by decide)
theorem dQ {a b:Int} (h1:a.natAbs<2 ^ 2900) (h2:b.natAbs<2 ^ 2900):IntMulOk a b:=mulOk (Nat.lt_trans h1 iE) (Nat.lt_trans h2 iE)
theorem oP {a b:Int} (h1:a.natAbs<2 ^ 2900) (h2:b.natAbs<2 ^ 2900):(a*b).natAbs<2 ^ 6000:=Nat.lt_of_lt_of_le (eI h1 h2) (dY (by decide))
def dU (CN:Addr):Sp:=λvs H Q E=>∃ (x:V) (a b:Int),vs=[x,.int a,.int b]/\(b=0->E (.ref CN) none H)/\(b ≠ 0->b.natAbs<2 ^ 6000/\∀ t,H t=none->Q (.ref t) (upd H t (.tup [.int (nrm a b).1,.int (nrm a b).2])))
theorem qd:oW ["self", "top", "bottom", "common"] ["self", "top", "bottom"] (am aJ):=.i
theorem ok_fofx {f qP:Addr} {fd:FuncData} (F:FunD K "of" "Fractions.of" aJ f fd) (qZ:FnB P w K mg base 1 "greatest_divisor" spGcd) (ANoNumber:mg "NoNumber"=some (.ref qP)) (xc:XCl K qP) :
  oY P w K mg base (CXE P w) 2 f fd ["self", "top", "bottom"] (dU qP):=by
 refine F.okX qd (λvs H Q E h=>?_) (λcdv A outer s H vs Q E hr h=>?_)
 ·obtain ⟨x,a,b,rfl,_⟩:=h
  rfl
 ·obtain ⟨x,a,b,rfl,hz,hq⟩:=h
  refine ⟨_,(ag (aH (aw bM (pv 2) af (ay _))
(ak (kM xc.ek ANoNumber (aa pe_str ae)))
aA)
(ag (aH (aw bM (pv 2) af (ay _))
(ak (ar (aT (aa (pv 1) (aa af ae)))))
aA)
(ag (au (i:=3) qd.nd rfl (Or.inl rfl) (aq qZ hr.m (aa (pv 1) (aa (pv 2) ae))))
(ag (aH (aw jC (pv 2) af (ay _))
(ak (au (i:=3) qd.nd rfl (Or.inl rfl) (pe_un nI (pv 3))))
aA)
(ak (ar (aT (aa (ap bS (pv 1) (pv 3)) (aa (ap bS (pv 2) (pv 3)) ae))))))))),?_⟩
  refine ⟨_,rfl,rfl,_,rfl,?_⟩
  by_cases hb:b=0
  ·subst hb
   rw [decide_eq_true rfl]
   exact bF ⟨(by show 1<=sizeLine; decide),hz rfl⟩
  obtain ⟨hbs,q⟩:=hq hb
  rw [decide_eq_false (show ¬ V.int b=V.int 0 from λz=>hb (by injection z))]
  refine br ⟨_,rfl,rfl,_,rfl,bu (λh=>?_) (λh=>?_)⟩
  ·have h1:b=1:=by
    have:=of_decide_eq_true h
    injection this
   subst h1
   refine ⟨_,rfl,(by show 2<=sizeLine; decide),λt ht=>?_⟩
   have z:=q t ht
   rw [(eQ a 1 (by decide)).mpr (Int.gcd_one_right ..)] at z
   exact z
  ·refine ⟨_,rfl,_,rfl,a,b,rfl,?_⟩
   have hgp:0<Int.gcd a b:=Int.gcd_pos_of_ne_zero_right a hb
   have hgl:Int.gcd a b<=b.natAbs:=Nat.le_of_dvd (by omega) (Nat.gcd_dvd_right a.natAbs b.natAbs)
   have sm:(Int.gcd a b)<2 ^ 6000:=Nat.lt_of_le_of_lt hgl hbs
   refine ⟨_,rfl,_,_,rfl,rfl,_,rfl,bu (λh=>?_) (λh=>?_)⟩
   ·have hb0:b<0:=of_decide_eq_true h
    refine ⟨_,rfl,_,rfl,?_⟩
    have sm2:CDivA a (-(Int.gcd a b:Int)):=⟨by omega,by rw [Int.natAbs_neg,Int.natAbs_natCast]; exact sm⟩
    refine ⟨_,rfl,_,rfl,_,_,rfl,rfl,sm2,_,rfl,_,rfl,_,_,rfl,rfl,sm2,(by show 2<=sizeLine; decide),λt ht=>?_⟩
    have z:=q t ht
    unfold nrm at z
    rw [if_pos hb0] at z
    exact z
   ·have hb0:¬ b<0:=λz=>h (decide_eq_true z)
    have sm2:CDivA a (Int.gcd a b:Int):=⟨by omega,by rw [Int.natAbs_natCast]; exact sm⟩
    refine ⟨_,rfl,_,rfl,_,_,rfl,rfl,sm2,_,rfl,_,rfl,_,_,rfl,rfl,sm2,(by show 2<=sizeLine; decide),λt ht=>?_⟩
    have z:=q t ht
    unfold nrm at z
    rw [if_neg hb0] at z
    exact z
def j3 (CF:Addr) (g:Int × Int->Int × Int->Int × Int):Sp:=λvs H Q _=>∃ (x dx s t:Addr) (a b:Int × Int),vs=[.ref x,.ref s,.ref t]/\H x=some (.ins CF dx [])/\H s=some (.tup [.int a.1,.int a.2])/\H t=some (.tup [.int b.1,.int b.2])/\0<a.2/\0<b.2/\Sz 2900 a/\Sz 2900 b/\
 ∀ r,H r=none->Q (.ref r) (upd H r (.tup [.int (nrm (g a b).1 (g a b).2).1,.int (nrm (g a b).1 (g a b).2).2]))
def kh (CR:Addr) (g:Int->Int->Int):Sp:=λvs H Q _=>∃ (x dx:Addr) (p a b:Int),vs=[.ref x,.int a,.int b]/\H x=some (.ins CR dx [("modulus",.int p)])/\0<p/\p<=9973/\0<=a/\a<p/\0<=b/\b<p/\Q (.int (g a b % p)) H
theorem iF:oW ["self", "one", "other"] ["self", "one", "other"] (am bi):=.i
theorem ok_fplus {f CF qP:Addr} {fd:FuncData} (F:Fun K "plus" "Fractions.plus" bi f fd) (vp:gZ P w K mg base 2 CF "of" [] (dU qP)):oY P w K mg base CX0 3 f fd ["self", "one", "other"] (j3 CF λa b=>(a.1*b.2+b.1*a.2,a.2*b.2)):=by
 refine F.o iF λ_ _ _ _ H _ Q _ hr h=>?_
 ·obtain ⟨x,dx,s,t,a,b,rfl,hx,hs,ht,ha,hb,sa,sb,q⟩:=h
  refine ⟨_,(ak (ar (eE vp hr.m dO (pv 0) (aa (ap aL (ap bE (aB (az K rfl) (pv 1) af (λ_ _=>rfl)) (aB (az K rfl) (pv 2) af (λ_ _=>rfl))) (ap bE (aB (az K rfl) (pv 2) af (λ_ _=>rfl)) (aB (az K rfl) (pv 1) af (λ_ _=>rfl)))) (aa (ap bE (aB (az K rfl) (pv 1) af (λ_ _=>rfl)) (aB (az K rfl) (pv 2) af (λ_ _=>rfl))) ae))))),?_⟩
  refine ⟨_,rfl,x,dx,[],rfl,hx,rfl,_,rfl,s,_,_,_,rfl,rfl,SqT.of hs,rfl,_,rfl,t,_,_,_,rfl,rfl,SqT.of ht,rfl,_,_,rfl,rfl,dQ sa.1 sb.2,_,rfl,t,_,_,_,rfl,rfl,SqT.of ht,rfl,_,rfl,s,_,_,_,rfl,rfl,SqT.of hs,rfl,_,_,rfl,rfl,dQ sb.1 sa.2,_,_,rfl,rfl,?_⟩
  refine ⟨_,rfl,s,_,_,_,rfl,rfl,SqT.of hs,rfl,_,rfl,t,_,_,_,rfl,rfl,SqT.of ht,rfl,_,_,rfl,rfl,dQ sa.2 sb.2,_,_,_,rfl,λz=>absurd z (bC ha hb),λ_=>⟨oP sa.2 sb.2,q⟩⟩
theorem lK:oW ["self", "one", "other"] ["self", "one", "other"] (am bT):=.i
theorem ok_rplus {f CR:Addr} {fd:FuncData} (F:Fun K "plus" "Rests.plus" bT f fd) (cl:Cls K CR) (nM:pQ K CR "modulus"):oY P w K mg base CX0 1 f fd ["self", "one", "other"] (kh CR (· + ·)):=by
 refine F.o lK λ_ _ _ _ H _ Q _ hr h=>?_
 ·obtain ⟨x,dx,p,a,b,rfl,hx,hp,hp9,a0,a1,b0,b1,q⟩:=h
  refine ⟨_,(ak (ar (ap bA (ap aL (pv 1) (pv 2)) (hW (pv 0) rfl)))),?_⟩
  exact ⟨_,rfl,_,rfl,_,_,rfl,rfl,_,rfl,x,CR,dx,_,_,rfl,hx,cl,nM,rfl,_,_,rfl,rfl,hp,q⟩
theorem oU.b {P:Int} (h:oU P):0<=P/\P<=9973/\P ≠ 1:=by
 rcases h with h | ⟨h1,h2,_⟩<;>omega
def spLOp (g:Int->Int × Int->Int × Int->Int × Int):Sp:=λvs H Q _=>∃ (P:Int) (u v:V) (x y:Int × Int),vs=[.int P,u,v]/\oU P/\At P H u x/\At P H v y/\OkN P x/\OkN P y/\Sz 2900 x/\Sz 2900 y/\∀ r H',oS H H'->At P H' r (g P x y)->Q r H'
theorem oj:oW ["_law_prime_here", "_law_one", "_law_other"] ["_law_prime_here", "_law_one", "_law_other"] (am f8):=.i
theorem ok_lplus {f:Addr} {fd:FuncData} (F:Fun K "_law_plus" "_law_plus" f8 f fd) (qV:FnB P w K mg base 1 "_law_low" j0):oY P w K mg base CX0 2 f fd ["_law_prime_here", "_law_one", "_law_other"] (spLOp aS):=by
 refine F.o oj λ_ _ _ _ H _ Q _ hr h=>?_
 ·obtain ⟨P,u,v,x,y,rfl,hP,hu,hv,ox,oy,sx,sy,q⟩:=h
  refine ⟨_,(ag (aH (aw bM (pv 0) af (ay _))
(ak (ar (aq qV hr.m (aa (ap aL (ap bE (aB (az K rfl) (pv 1) af (λ_ _=>rfl)) (aB (az K rfl) (pv 2) af (λ_ _=>rfl))) (ap bE (aB (az K rfl) (pv 2) af (λ_ _=>rfl)) (aB (az K rfl) (pv 1) af (λ_ _=>rfl)))) (aa (ap bE (aB (az K rfl) (pv 1) af (λ_ _=>rfl)) (aB (az K rfl) (pv 2) af (λ_ _=>rfl))) ae)))))
aA)
(ak (ar (ap bA (ap aL (pv 1) (pv 2)) (pv 0))))),?_⟩
  unfold aS at q
  refine ⟨_,rfl,rfl,_,rfl,bu (λh=>?_) (λh=>?_)⟩
  ·have h0:P=0:=by have:=of_decide_eq_true h; injection this
   rcases hu with ⟨_,s,rfl,hs⟩ | ⟨z,_⟩
   ·rcases hv with ⟨_,t,rfl,ht⟩ | ⟨z,_⟩
    ·rw [if_pos h0] at q
     refine ⟨_,rfl,s,_,_,_,rfl,rfl,SqT.of hs,rfl,_,rfl,t,_,_,_,rfl,rfl,SqT.of ht,rfl,_,_,rfl,rfl,dQ sx.1 sy.2,_,rfl,t,_,_,_,rfl,rfl,SqT.of ht,rfl,_,rfl,s,_,_,_,rfl,rfl,SqT.of hs,rfl,_,_,rfl,rfl,dQ sy.1 sx.2,_,_,rfl,rfl,?_⟩
     refine ⟨_,rfl,s,_,_,_,rfl,rfl,SqT.of hs,rfl,_,rfl,t,_,_,_,rfl,rfl,SqT.of ht,rfl,_,_,rfl,rfl,dQ sx.2 sy.2,_,_,rfl,bC ox.den oy.den,oP sx.2 sy.2,λr nr=>?_⟩
     exact q _ _ (oS.new nr) (.inl ⟨h0,r,rfl,ac⟩)
    ·exact absurd h0 z
   ·exact absurd h0 z
  ·have h0:P ≠ 0:=λz=>h (decide_eq_true (congrArg V.int z))
   have hPp:0<P:=by have:=hP.b; omega
   rcases hu with ⟨z,_⟩ | ⟨_,rfl,_⟩
   ·exact absurd z h0
   ·rcases hv with ⟨z,_⟩ | ⟨_,rfl,_⟩
    ·exact absurd z h0
    ·rw [if_neg h0] at q
     exact ⟨_,rfl,_,rfl,_,_,rfl,rfl,_,rfl,_,_,rfl,rfl,hPp,q _ H (oS.refl H) (.inr ⟨h0,rfl,rfl⟩)⟩
theorem lB:oW ["_law_prime_here", "_law_one", "_law_other"] ["_law_prime_here", "_law_one", "_law_other"] (am fm):=.i
theorem ok_ltimes {f:Addr} {fd:FuncData} (F:Fun K "_law_times" "_law_times" fm f fd) (qV:FnB P w K mg base 1 "_law_low" j0):oY P w K mg base CX0 2 f fd ["_law_prime_here", "_law_one", "_law_other"] (spLOp du):=by
 refine F.o lB λ_ _ _ _ H _ Q _ hr h=>?_
 ·obtain ⟨P,u,v,x,y,rfl,hP,hu,hv,ox,oy,sx,sy,q⟩:=h
  refine ⟨_,(ag (aH (aw bM (pv 0) af (ay _))
(ak (ar (aq qV hr.m (aa (ap bE (aB (az K rfl) (pv 1) af (λ_ _=>rfl)) (aB (az K rfl) (pv 2) af (λ_ _=>rfl))) (aa (ap bE (aB (az K rfl) (pv 1) af (λ_ _=>rfl)) (aB (az K rfl) (pv 2) af (λ_ _=>rfl))) ae)))))
aA)
(ak (ar (ap bA (ap bx (pv 1) (pv 2)) (pv 0))))),?_⟩
  unfold du at q
  refine ⟨_,rfl,rfl,_,rfl,bu (λh=>?_) (λh=>?_)⟩
  ·have h0:P=0:=by have:=of_decide_eq_true h; injection this
   rcases hu with ⟨_,s,rfl,hs⟩ | ⟨z,_⟩
   ·rcases hv with ⟨_,t,rfl,ht⟩ | ⟨z,_⟩
    ·rw [if_pos h0] at q
     refine ⟨_,rfl,s,_,_,_,rfl,rfl,SqT.of hs,rfl,_,rfl,t,_,_,_,rfl,rfl,SqT.of ht,rfl,_,_,rfl,rfl,dQ sx.1 sy.1,?_⟩
     refine ⟨_,rfl,s,_,_,_,rfl,rfl,SqT.of hs,rfl,_,rfl,t,_,_,_,rfl,rfl,SqT.of ht,rfl,_,_,rfl,rfl,dQ sx.2 sy.2,_,_,rfl,bC ox.den oy.den,oP sx.2 sy.2,λr nr=>?_⟩
     exact q _ _ (oS.new nr) (.inl ⟨h0,r,rfl,ac⟩)
    ·exact absurd h0 z
   ·exact absurd h0 z
  ·have h0:P ≠ 0:=λz=>h (decide_eq_true (congrArg V.int z))
   have hb:=hP.b
   have hPp:0<P:=by omega
   rcases hu with ⟨z,_⟩ | ⟨_,rfl,_⟩
   ·exact absurd z h0
   ·rcases hv with ⟨z,_⟩ | ⟨_,rfl,_⟩
    ·exact absurd z h0
    ·rw [if_neg h0] at q
     rcases ox with ⟨z,_⟩ | ⟨_,x0,x1,_⟩
     ·exact absurd z h0
     exact ⟨_,rfl,_,rfl,_,_,rfl,rfl,.inl ⟨by omega,by omega⟩,_,rfl,_,_,rfl,rfl,hPp,q _ H (oS.refl H) (.inr ⟨h0,rfl,rfl⟩)⟩
def kK:Sp:=λvs H Q _=>∃ P:Int,vs=[.int P]/\oU P/\∀ r H',oS H H'->At P H' r (0,1)->Q r H'
theorem j6:oW ["_law_prime_here"] ["_law_prime_here"] (am eN):=.i
theorem ok_nought {f:Addr} {fd:FuncData} (F:Fun K "_law_nought" "_law_nought" eN f fd) (T:Blt mg):oY P w K mg base CX0 1 f fd ["_law_prime_here"] kK:=by
 refine F.o j6 λ_ _ _ _ H _ Q _ hr h=>?_
 ·obtain ⟨P,rfl,hP,q⟩:=h
  refine ⟨_,(ak (ar (aB (aE K rfl) (aI (aa (aT (aa af (aa af ae))) (aa af ae))) (gG mz (by rfl) T.int jk (aa (bZ dZ (pv 0) af (ay _)) ae)) (λ_ _=>rfl)))),?_⟩
  refine ⟨(by show 2<=sizeLine; decide),λt nt=>?_⟩
  refine ⟨(by show 2<=sizeLine; decide),λl nl=>?_⟩
  have s1:=oS.new (o:=.tup [.int 0,.int 1]) nt
  have s2:=oS.new (o:=.lst [.ref t,.int 0]) nl
  have hb:=hP.b
  by_cases h0:P=0
  ·refine ⟨_,rfl,_,_,rfl,rfl,.inr ⟨_,rfl,l,_,_,_,rfl,rfl,SqL.of ac,(by rw [decide_eq_false (by omega)]; rfl),?_⟩⟩
   exact q _ _ (s1.trans s2) (.inl ⟨h0,t,rfl,s2 _ _ ac⟩)
  ·refine ⟨_,rfl,_,_,rfl,rfl,.inr ⟨_,rfl,l,_,_,_,rfl,rfl,SqL.of ac,(by rw [decide_eq_true (by omega)]; rfl),?_⟩⟩
   exact q _ _ (s1.trans s2) (.inr ⟨h0,rfl,rfl⟩)
def spUnit:Sp:=λvs H Q _=>∃ P:Int,vs=[.int P]/\oU P/\∀ r H',oS H H'->At P H' r (1,1)->Q r H'
theorem nU:oW ["_law_prime_here"] ["_law_prime_here"] (am fS):=.i
theorem ok_unit {f:Addr} {fd:FuncData} (F:Fun K "_law_unit" "_law_unit" fS f fd) (T:Blt mg):oY P w K mg base CX0 1 f fd ["_law_prime_here"] spUnit:=by
 refine F.o nU λ_ _ _ _ H _ Q _ hr h=>?_
 ·obtain ⟨P,rfl,hP,q⟩:=h
  refine ⟨_,(ak (ar (aB (aE K rfl) (aI (aa (aT (aa af (aa af ae))) (aa af ae))) (gG mz (by rfl) T.int jk (aa (bZ dZ (pv 0) af (ay _)) ae)) (λ_ _=>rfl)))),?_⟩
  refine ⟨(by show 2<=sizeLine; decide),λt nt=>?_⟩
  refine ⟨(by show 2<=sizeLine; decide),λl nl=>?_⟩
  have s1:=oS.new (o:=.tup [.int 1,.int 1]) nt
  have s2:=oS.new (o:=.lst [.ref t,.int 1]) nl
  have hb:=hP.b
  by_cases h0:P=0
  ·refine ⟨_,rfl,_,_,rfl,rfl,.inr ⟨_,rfl,l,_,_,_,rfl,rfl,SqL.of ac,(by rw [decide_eq_false (by omega)]; rfl),?_⟩⟩
   exact q _ _ (s1.trans s2) (.inl ⟨h0,t,rfl,s2 _ _ ac⟩)
  ·refine ⟨_,rfl,_,_,rfl,rfl,.inr ⟨_,rfl,l,_,_,_,rfl,rfl,SqL.of ac,(by rw [decide_eq_true (by omega)]; rfl),?_⟩⟩
   exact q _ _ (s1.trans s2) (.inr ⟨h0,rfl,rfl⟩)
def dN (P:Int) (x:Int × Int):PyData:=if P=0 then eW [x.1,x.2] else .int x.1
theorem iP {K:Frag} {P:Int} {H:Hp} {v:V} {x:Int × Int} (h:At P H v x):DR K H (dN P x) v:=by
 unfold dN
 rcases h with ⟨h0,t,rfl,e⟩ | ⟨h0,rfl,_⟩
 ·rw [if_pos h0]
  exact gA (ns:=[x.1,x.2]) (SqT.of e)
 ·rw [if_neg h0]
  exact .int _
theorem bU (P:Int) (x:Int × Int):SeqAt.shaped (dN P x)=true:=by
 unfold dN
 split
 ·exact cA _
 ·rfl
theorem At.thing {K:Frag} {P:Int} {H:Hp} {v:V} {x:Int × Int} (h:At P H v x) (o:OkN P x) (s:Sz 2900 x):Thing K H v/\numV P H v=true:=by
 have p2:(2:Nat) ^ 2900<2 ^ 3000:=Nat.pow_lt_pow_right (by decide) (by decide)
 rcases h with ⟨h0,t,rfl,e⟩ | ⟨h0,rfl,_⟩
 ·rcases o with ⟨_,hd,hg⟩ | ⟨z,_⟩
  ·refine ⟨⟨.tup e,.inr ⟨t,_,rfl,e,by show 2<=1000; decide,typed_ints [x.1,x.2],λi hi=>?_⟩⟩,?_⟩
   ·have h:i=x.1\/i=x.2:=by
     rcases List.mem_cons.mp hi with z | z
     ·injection z with z; exact .inl z
     ·rcases List.mem_cons.mp z with z | z
      ·injection z with z; exact .inr z
      ·cases z
    rcases h with rfl | rfl
    ·exact Nat.lt_trans s.1 p2
    ·exact Nat.lt_trans s.2 p2
   ·unfold numV
    rw [if_pos h0,lU e]
    show (decide (1<=x.2) && decide (Int.gcd x.1 x.2=1))=true
    rw [decide_eq_true (show 1<=x.2 by omega),decide_eq_true hg]
    rfl
  ·exact absurd h0 z
 ·rcases o with ⟨z,_⟩ | ⟨_,r0,r1,_⟩
  ·exact absurd z h0
  ·refine ⟨⟨.int _,.inl ⟨_,.int _,rfl,λa z=>by cases z⟩⟩,?_⟩
   unfold numV
   rw [if_neg h0]
   show (decide (0<=x.1) && decide (x.1<P))=true
   rw [decide_eq_true r0,decide_eq_true r1]
   rfl
def spDeg (K:Frag):Sp:=λvs H Q _=>∃ (a:Addr) (ns:List Int),vs=[.ref a]/\SqT K H a (ns.map V.int)/\Q (.int ns.sum) H
theorem sc_degree:oW ["one"] ["one"] (am ki):=.i
theorem ok_degree {f:Addr} {fd:FuncData} (F:Fun K "degree" "degree" ki f fd) (T:Blt mg):oY P w K mg base CX0 1 f fd ["one"] (spDeg K):=by
 refine F.o sc_degree λ_ _ _ _ H _ Q _ hr h=>?_
 ·obtain ⟨a,ns,rfl,ha,q⟩:=h
  refine ⟨_,(ak (ar (iL K T (pv 0) true))),?_⟩
  exact ⟨_,rfl,a,ns,rfl,ji ha,q⟩
abbrev aj:=List Int × (Int × Int)
def PartR (P:Int) (H:Hp) (v:V) (p:aj):Prop:=∃ (t k:Addr) (u:V),v=.ref t/\H t=some (.tup [.ref k,u])/\H k=some (.tup (p.1.map V.int))/\At P H u p.2
abbrev oV (P:Int) (H:Hp):List V->List aj->Prop:=Paired (PartR P H)
theorem PartR.mono {P:Int} {H H':Hp} {v:V} {p:aj} (k:∀ t xs,H t=some (.tup xs)->H' t=some (.tup xs)) (h:PartR P H v p):PartR P H' v p:=by
 obtain ⟨t,c,u,rfl,h1,h2,h3⟩:=h
 exact ⟨t,c,u,rfl,k _ _ h1,k _ _ h2,h3.mono k⟩
theorem oV.mono {P:Int} {H H':Hp} (k:∀ t xs,H t=some (.tup xs)->H' t=some (.tup xs)):∀ {vs:List V} {ps:List aj},oV P H vs ps->oV P H' vs ps
 | _,_,.nil=>.nil
 | _,_,.cons q r=>.cons (q.mono k) (oV.mono k r)
theorem oV.at_ {P:Int} {H:Hp}:∀ {vs:List V} {ps:List aj} {i:Nat} {v:V},oV P H vs ps->vs[i]? = some v->∃ p,ps[i]? = some p/\PartR P H v p
 | _,_,0,v,.cons q r,e=>by cases e; exact ⟨_,rfl,q⟩
 | _::_,_::_,i+1,v,.cons q r,e=>oV.at_ (i:=i) r e
theorem aV {α β:Type} {R:α->β->Prop}:∀ {xs:List α} {ys:List β} {i:Nat} {x:α} {y:β},Paired R xs ys->xs[i]? = some x->ys[i]? = some y->R x y
 | _,_,0,x,y,.cons q r,e1,e2=>by cases e1; cases e2; exact q
 | _::_,_::_,i+1,x,y,.cons q r,e1,e2=>aV (i:=i) r e1 e2
def bN (P:Int) (m:List aj) (p:aj):List aj:=cR m p.1 (aS P ((bn m p.1).getD (0,1)) p.2)
def acc (P:Int) (ps:List aj):List aj:=ps.foldl (bN P) []
theorem iU (P:Int) (ps:List aj) (p:aj):acc P (ps++[p])=bN P (acc P ps) p:=by
 unfold acc
 rw [foldl_append]
 rfl
theorem eX {P:Int} {ps:List aj} {i:Nat} {p:aj} (h:ps[i]? = some p):acc P (ps.take (i+1))=bN P (acc P (ps.take i)) p:=by
 rw [take_add_one,h]
 exact iU P _ p
def bO (P:Int) (ps:List aj):Prop:=(∀ p ∈ ps,OkN P p.2/\Sz 2900 p.2)/\∀ i,∀ p ∈ acc P (ps.take i),Sz 2900 p.2
theorem eS (P:Int) (ps:List aj):((acc P ps).map (·.1)).Nodup:=by
 unfold acc
 have go:∀ (ps m:List aj),(m.map (·.1)).Nodup->((ps.foldl (bN P) m).map (·.1)).Nodup:=by
  intro ps
  induction ps with
  | nil=>intro m h; exact h
  | cons p ps ih=>intro m h; exact ih _ (aput_nodup h)
 exact go ps [] (by simp)
theorem eZ (P:Int) (ps:List aj):(acc P ps).length<=ps.length:=by
 unfold acc
 have go:∀ (ps m:List aj),(ps.foldl (bN P) m).length<=m.length+ps.length:=by
  intro ps
  induction ps with
  | nil=>intro m; simp
  | cons p ps ih=>
   intro m
   have h1:=ih (bN P m p)
   have h2:(bN P m p).length<=m.length+1:=aput_len _ _ _
   show (ps.foldl (bN P) (bN P m p)).length<=_
   rw [length_cons]
   omega
 simpa using go ps []
theorem dG {P:Int} (hP:0<=P) (h1:P ≠ 1) {ps:List aj} (h:∀ p ∈ ps,OkN P p.2):∀ p ∈ acc P ps,OkN P p.2:=by
 unfold acc
 have go:∀ (ps m:List aj),(∀ p ∈ ps,OkN P p.2)->(∀ p ∈ m,OkN P p.2)->∀ p ∈ ps.foldl (bN P) m,OkN P p.2:=by
  intro ps
  induction ps with
  | nil=>intro m _ h; exact h
  | cons p ps ih=>
   intro m hp hm
   refine ih _ (λq hq=>hp q (by simp [hq])) λq hq=>?_
   rcases cX hq with z | z
   ·rw [z]
    refine iV hP ?_ (hp p (by simp))
    cases e:bn m p.1 with
    | none=>exact cI hP h1
    | some y=>exact hm _ (bo e)
   ·exact hm q z
 exact go ps [] h (λp hp=>nomatch hp)
def nz (p:aj):Bool:=decide (p.2 ≠ (0,1))
def hk (p:aj):Int × List Int:=(p.1.sum,p.1)
def o7 (P:Int) (ps out:List aj):Prop:=out.Perm ((acc P ps).filter nz)/\out.Pairwise λa b=>klt (hk b) (hk a)=true
theorem fD {P:Int} {ps a b:List aj} (h1:o7 P ps a) (h2:o7 P ps b):a=b:=
 fY (lt:=λx y=>klt (hk x) (hk y)) (λ_=>nJ _) (λ_ _ _=>ja) (h1.1.trans h2.1.symm) h1.2 h2.2
theorem jP {P:Int} {x y:Int × Int} (hx:OkN P x) (hy:OkN P y):PyData.eqv (dN P x) (dN P y)=decide (x=y):=by
 unfold dN
 by_cases h0:P=0
 ·rw [if_pos h0,if_pos h0,kZ]
  apply decide_eq_decide.mpr
  constructor
  ·intro z
   injection z with z1 z2
   injection z2 with z2
   exact Prod.ext z1 z2
  ·intro z; rw [z]
 ·rw [if_neg h0,if_neg h0]
  rcases hx with ⟨z,_⟩ | ⟨_,_,_,x2⟩
  ·exact absurd z h0
  rcases hy with ⟨z,_⟩ | ⟨_,_,_,y2⟩
  ·exact absurd z h0
  have e:PyData.eqv (.int x.1) (.int y.1)=decide (x.1=y.1):=by simp only [PyData.eqv]; rfl
  rw [e]
  apply decide_eq_decide.mpr
  exact ⟨λz=>Prod.ext z (x2.trans y2.symm),λz=>by rw [z]⟩
theorem sz_01:Sz 2900 (0,1):=⟨Nat.pow_pos (by decide),Nat.one_lt_two_pow (by decide)⟩
def vI:V->Int
 | .int i=>i
 | _=>0
def tupI (H:Hp):V->List Int
 | .ref k=>match H k with
  | some (.tup xs)=>xs.map vI
  | _=>[]
 | _=>[]
def lH (H:Hp) (v:V):Int × List Int:=((tupI H v).sum,tupI H v)
def keyP (H:Hp):V->Int × List Int
 | .ref t=>match H t with
  | some (.tup (k::_))=>lH H k
  | _=>(0,[])
 | _=>(0,[])
theorem jK {H:Hp} {k:Addr} {ns:List Int} (h:H k=some (.tup (ns.map V.int))):tupI H (.ref k)=ns:=by
 show (match H k with | some (.tup xs)=>xs.map vI | _=>[])=ns
 rw [h]
 show (ns.map V.int).map vI=ns
 rw [map_map]
 exact List.map_id'' (λ_=>rfl) ns
theorem PartR.key {P:Int} {H:Hp} {v:V} {p:aj} (h:PartR P H v p):keyP H v=hk p:=by
 obtain ⟨t,k,u,rfl,h1,h2,_⟩:=h
 show (match H t with | some (.tup (k::_))=>lH H k | _=>(0,[]))=hk p
 rw [h1]
 show lH H (.ref k)=hk p
 unfold lH hk
 rw [jK h2]
theorem oV.keys {P:Int} {H:Hp}:∀ {vs:List V} {ps:List aj},oV P H vs ps->vs.map (keyP H)=ps.map hk
 | _,_,.nil=>rfl
 | _,_,.cons q r=>by rw [map_cons,map_cons,q.key,oV.keys r]
theorem hk_nodup {ps:List aj} (h:(ps.map (·.1)).Nodup):(ps.map hk).Nodup:=by
 have e:ps.map hk=(ps.map (·.1)).map (λk:List Int=>(k.sum,k)):=by rw [map_map]; rfl
 rw [e]
 exact List.Pairwise.map _ (λa b hab z=>hab (congrArg Prod.snd z)) h
theorem oV.perm {P:Int} {H:Hp} {vs ws:List V} {ps:List aj} (h:oV P H vs ps) (p:ws.Perm vs):∃ qs:List aj,qs.Perm ps/\oV P H ws qs:=by
 have go:∀ {ws vs:List V},ws.Perm vs->∀ ps:List aj,oV P H vs ps->∃ qs:List aj,qs.Perm ps/\oV P H ws qs:=by
  intro ws vs p
  induction p with
  | nil=>intro ps h; exact ⟨ps,.refl _,h⟩
  | cons x p ih=>
   intro ps h
   cases h with
   | cons q r=>
    obtain ⟨qs,e,h'⟩:=ih _ r
    exact ⟨_::qs,e.cons _,.cons q h'⟩
  | swap x y l=>
   intro ps h
   cases h with
   | cons q r=>cases r with
    | cons q2 r=>exact ⟨_::_::_,.swap _ _ _,.cons q2 (.cons q r)⟩
  | trans p1 p2 ih1 ih2=>
   intro ps h
   obtain ⟨qs,e,h'⟩:=ih2 _ h
   obtain ⟨rs,e2,h2⟩:=ih1 _ h'
   exact ⟨rs,e2.trans e,h2⟩
 exact go p ps h
theorem oV.fall {P:Int} {H:Hp} {lt:Int × List Int->Int × List Int->Bool}:∀ {vs:List V} {ps:List aj},oV P H vs ps->vs.Pairwise (λx y=>lt (keyP H y) (keyP H x)=true)->ps.Pairwise (λa b=>lt (hk b) (hk a)=true):=by
 intro vs ps h hp
 have z:(vs.map (keyP H)).Pairwise (λa b=>lt b a=true):=List.pairwise_map.mpr hp
 rw [h.keys] at z
 exact List.pairwise_map.mp z
theorem oV.snoc {P:Int} {H:Hp} {v:V} {p:aj} (q:PartR P H v p):∀ {vs:List V} {ps:List aj},oV P H vs ps->oV P H (vs++[v]) (ps++[p])
 | _,_,.nil=>.cons q .nil
 | _,_,.cons a r=>.cons a (oV.snoc q r)
theorem oV.mem {P:Int} {H:Hp}:∀ {vs:List V} {ps:List aj} {v:V},oV P H vs ps->v ∈ vs->∃ p ∈ ps,PartR P H v p
 | _,_,v,.cons q r,hv=>by
  rcases List.mem_cons.mp hv with rfl | hv
  ·exact ⟨_,by simp,q⟩
  ·obtain ⟨p,hp,h⟩:=oV.mem r hv
   exact ⟨p,by simp [hp],h⟩
theorem dX {ps:List aj} {i:Nat} {p:aj} (h:ps[i]? = some p):(ps.take (i+1)).filter nz=(ps.take i).filter nz++(if nz p=true then [p] else []):=by
 rw [take_add_one,h,List.filter_append]
 congr 1
 show List.filter nz [p]=_
 by_cases e:nz p=true
 ·rw [if_pos e]; simp [e]
 ·rw [if_neg e]; simp [e]
theorem paired_perm {α β:Type} {R:α->β->Prop} {ws vs:List α} (p:ws.Perm vs):∀ ps:List β,Paired R vs ps->∃ qs:List β,qs.Perm ps/\Paired R ws qs:=by
 induction p with
 | nil=>intro ps h; exact ⟨ps,.refl _,h⟩
 | cons x p ih=>
  intro ps h
  cases h with
  | cons q r=>
   obtain ⟨qs,e,h'⟩:=ih _ r
   exact ⟨_::qs,e.cons _,.cons q h'⟩
 | swap x y l=>
  intro ps h
  cases h with
  | cons q r=>cases r with
   | cons q2 r=>exact ⟨_::_::_,.swap _ _ _,.cons q2 (.cons q r)⟩
 | trans p1 p2 ih1 ih2=>
  intro ps h
  obtain ⟨qs,e,h'⟩:=ih2 _ h
  obtain ⟨rs,e2,h2⟩:=ih1 _ h'
  exact ⟨rs,e2.trans e,h2⟩
def ProdR (H:Hp) (v:V) (p:aj):Prop:=∃ a,v=.ref a/\H a=some (.tup (p.1.map V.int))
theorem prod_of {H:Hp}:∀ {as:List Addr} {m:List aj},Paired (λ(a:Addr) (q:aj)=>H a=some (.tup (q.1.map V.int))) as m->Paired (ProdR H) (as.map V.ref) m
 | _,_,.nil=>.nil
 | _,_,.cons q r=>.cons ⟨_,rfl,q⟩ (prod_of r)
theorem i8 {H:Hp}:∀ {vs:List V} {m:List aj},Paired (ProdR H) vs m->vs.map (lH H)=m.map hk
 | _,_,.nil=>rfl
 | _,_,.cons ⟨a,e,q⟩ r=>by
  rw [map_cons,map_cons,i8 r,e]
  unfold lH hk
  rw [jK q]
theorem prod_mem {H:Hp}:∀ {vs:List V} {ps:List aj} {v:V},Paired (ProdR H) vs ps->v ∈ vs->∃ p ∈ ps,ProdR H v p
 | _,_,v,.cons q r,hv=>by
  rcases List.mem_cons.mp hv with rfl | hv
  ·exact ⟨_,by simp,q⟩
  ·obtain ⟨p,hp,h⟩:=prod_mem r hv
   exact ⟨p,by simp [hp],h⟩
theorem zero_if (P:Int):(if P=0 then ((0:Int),(1:Int)) else (0 % P,1))=(0,1):=by
 split
 ·rfl
 ·rw [Int.zero_emod]
def spKey (K:Frag):Sp:=λvs H Q _=>∃ (t k:Addr) (u:V) (ns:List Int),vs=[.ref t]/\H t=some (.tup [.ref k,u])/\SqT K H k (ns.map V.int)/\∀ r,H r=none->Q (.ref r) (upd H r (.tup [.int ns.sum,.ref k]))
def fu:Sp:=λvs H Q _=>∃ (l:Addr) (P:Int) (ts:List V) (ps:List aj),vs=[.int P,.ref l]/\oU P/\H l=some (.lst ts)/\oV P H ts ps/\ps.length<=60/\bO P ps/\
 ∀ (d:Addr) (rs:List V) (out:List aj) (H':Hp),H d=none->oS H H'->H' d=some (.lst rs)->oV P H' rs out->o7 P ps out->Q (.ref d) H'
theorem sc__law_key:oW ["_law_part"] ["_law_part"] (am gX):=.i
theorem ok_lkey {f:Addr} {fd:FuncData} (F:Fun K "_law_key" "_law_key" gX f fd) (T:Blt mg):oY P w K mg base CX0 1 f fd ["_law_part"] (spKey K):=by
 refine F.o sc__law_key λ_ _ _ _ H _ Q _ hr h=>?_
 ·obtain ⟨t,k,u,ns,rfl,ht,hk,q⟩:=h
  refine ⟨_,(ak (ar (aT (aa (iL K T (aB (az K rfl) (pv 0) af (λ_ _=>rfl)) true) (aa (aB (az K rfl) (pv 0) af (λ_ _=>rfl)) ae))))),?_⟩
  exact ⟨_,rfl,t,_,_,_,rfl,rfl,SqT.of ht,rfl,k,ns,rfl,ji hk,_,rfl,t,_,_,_,rfl,rfl,SqT.of ht,rfl,by show 2<=sizeLine; decide,q⟩
theorem qf:oW ["_law_prime_here", "_law_parts", "_law_come", "_law_product_here", "_law_number_here", "_law_found"] ["_law_prime_here", "_law_parts"] (am g7):=.i
theorem ok_lsum {f:Addr} {fd:FuncData} (F:Fun K "_law_sum" "_law_sum" g7 f fd) (T:Blt mg) (vq:FnB P w K mg base 2 "_law_plus" (spLOp aS)) (rq:FnB P w K mg base 1 "_law_nought" kK) (vF:FnB P w K mg base 1 "_law_key" (spKey K)) :
  oY P w K mg base CX0 4 f fd ["_law_prime_here", "_law_parts"] fu:=by
 refine F.o qf λ_ _ _ _ H _ Q _ hr h=>?_
 ·obtain ⟨l,P,ts,ps,rfl,hP,hl,hps,hn,hok,q⟩:=h
  have hB:=hP.b
  refine ⟨_,(ag (au (i:=2) qf.nd rfl (Or.inr rfl) kT)
(ag (bc PassesOwn.never rfl (aG K rfl (pv 1)) (bw K (i:=3) (j:=4) rfl rfl qf.nd rfl rfl rfl rfl)
(ak (nk (hu1 hr) (pv 2) (pv 3) (aq vq hr.m (aa (pv 0) (aa (pe_dget2 (hu1 hr) (pv 2) (pv 3) (aq rq hr.m (aa (pv 0) ae)) ⟨rfl,rfl,rfl,rfl⟩) (aa (pv 4) ae)))) rfl)))
(ag (oB (i:=5) qf.nd rfl (Or.inl rfl) (N:=["_law_product_here", "_law_come", "_law_prime_here"]) (src:=[none,some 2,some 0]) rfl rfl rfl (by exact (kpi_dict K rfl (pv 2))) (λ_ _ _=>by exact ⟨by exact (bP (i:=0) nd_1 rfl rfl),(fF (aw (kneD K rfl hr.units) (eY (hu1 hr) (pv 1) (pv 0) (λ_ _=>rfl)) (aq rq hr.m (aa (pv 2) ae)) (ay _))),by exact (aT (aa (pv 0) (aa (eY (hu1 hr) (pv 1) (pv 0) (λ_ _=>rfl)) ae)))⟩))
(ak (ar (pe_sortK T vF hr.m (pv 5))))))),?_⟩
  have lt:ts.length=ps.length:=Paired.length hps
  intro d hd
  have dl:d ≠ l:=λz=>by rw [z,hl] at hd; cases hd
  refine ⟨_,rfl,l,rfl,⟨_,SqL.of (by rw [ao dl.symm]; exact hl)⟩,gd (xs:=ts) (λi σ H'=>∃ (x3 x4:Option V) (kvs:List (List Key × V)),σ=[some (.int P),some (.ref l),some (.ref d),x3,x4,none]/\oS H H'/\H' d=some (.dT kvs)/\pi (At P H') kvs (acc P (ps.take i))) ?_ ?_ ?_ ?_⟩
  ·exact ⟨none,none,[],rfl,oS.new hd,ac,.nil⟩
  ·rintro i σ H' _ ⟨x3,x4,kvs,rfl,sm,_⟩
   exact SqL.of (sm _ _ hl)
  ·rintro i x σ H1 hx ⟨x3,x4,kvs,rfl,sm,hd1,dr⟩
   obtain ⟨p,ep,t,k,u,rfl,ht,hk,hu⟩:=hps.at_ hx
   have tk:∀ t xs,H t=some (.tup xs)->H1 t=some (.tup xs):=λt xs e=>sm _ _ e
   refine ⟨t,_,rfl,SqT.of (sm _ _ ht),rfl,_,_,rfl,_,_,rfl,rfl,?_⟩
   refine ⟨_,rfl,_,rfl,d,rfl,.inr ⟨kvs,.inl hd1⟩,_,rfl,_,rfl,P,rfl,hP,λr H2 s2 a0=>?_⟩
   have hk2:H2 k=some (.tup ((kI p.1).map kV)):=by rw [mT]; exact s2 _ _ (sm _ _ hk)
   refine ⟨_,DGet.t (s2 _ _ hd1) hk2,?_⟩
   have mp:p ∈ ps:=mem_of_getElem? ep
   obtain ⟨op,zp⟩:=hok.1 p mp
   have okm:∀ q ∈ acc P (ps.take i),OkN P q.2:=dG hB.1 hB.2.2 λq hq=>(hok.1 q (mem_of_mem_take hq)).1
   have hw:At P H2 ((gL kvs (kI p.1)).getD r) ((bn (acc P (ps.take i)) p.1).getD (0,1))/\OkN P ((bn (acc P (ps.take i)) p.1).getD (0,1))/\Sz 2900 ((bn (acc P (ps.take i)) p.1).getD (0,1)):=by
    rcases dr.val p.1 with ⟨e1,e2⟩ | ⟨v,y,e1,e2,ra⟩
    ·rw [e1,e2]
     exact ⟨a0,cI hB.1 hB.2.2,sz_01⟩
    ·rw [e1,e2]
     exact ⟨ra.same s2,okm _ (bo e2),hok.2 i _ (bo e2)⟩
   refine ⟨_,rfl,P,_,u,_,p.2,rfl,hP,hw.1,(hu.same (sm.trans s2)),hw.2.1,op,hw.2.2,zp,λr3 H3 s3 a3=>?_⟩
   refine ⟨_,rfl,_,rfl,d,_,rfl,DPut.t (k:=kI p.1) (s3 _ _ (s2 _ _ hd1)) (s3 _ _ hk2) ?_,?_⟩
   ·have h1:kvs.length=(acc P (ps.take i)).length:=Paired.length dr
    have h2:=eZ P (ps.take i)
    rw [length_take] at h2
    rw [h1,sizeLine_eq]
    omega
   ·have d3:H3 d=some (.dT kvs):=s3 _ _ (s2 _ _ hd1)
    have keep:∀ c o,H3 c=some o->c ≠ d->upd H3 d (.dT (cQ kvs (kI p.1) r3)) c=some o:=λc o e hc=>by rw [ao hc]; exact e
    have tk3:∀ t xs,H3 t=some (.tup xs)->upd H3 d (.dT (cQ kvs (kI p.1) r3)) t=some (.tup xs):=λt xs e=>keep t _ e (bW e d3 (by intro z; cases z))
    refine ⟨_,_,_,rfl,λc o e=>keep c o (s3 _ _ (s2 _ _ (sm c o e))) (ah e hd),ac,?_⟩
    rw [eX ep]
    exact pi.put (a3.mono tk3) (dr.mono λv x z=>((z.same s2).same s3).mono tk3)
  ·rintro σ H1 ⟨x3,x4,kvs,rfl,sm,hd1,dr⟩
   rw [lt,take_length] at dr
   have nd:=eS P ps
   have lm:=eZ P ps
   have okm:∀ q ∈ acc P ps,OkN P q.2:=dG hB.1 hB.2.2 λq hq=>(hok.1 q hq).1
   unfold o7 at q
   generalize acc P ps=m at *
   refine ⟨_,rfl,d,kvs,rfl,hd1,λo as pk=>?_⟩
   have tp:=dr.tups pk
   have la:as.length=m.length:=Paired.length tp
   have keep:∀ c u,H1 c=some u->c ≠ d->upd H1 d (.frz o (.dT kvs)) c=some u:=λc u e hc=>by rw [ao hc]; exact e
   have tk:∀ t xs,H1 t=some (.tup xs)->upd H1 d (.frz o (.dT kvs)) t=some (.tup xs):=λt xs e=>keep t _ e (bW e hd1 (by intro z; cases z))
   have smF:oS H (upd H1 d (.frz o (.dT kvs))):=λc u e=>keep c u (sm c u e) (ah e hd)
   have hfz:upd H1 d (.frz o (.dT kvs)) d=some (.frz o (.dT kvs)):=ac
   have dr':pi (At P (upd H1 d (.frz o (.dT kvs)))) kvs m:=dr.mono λv x z=>z.mono tk
   have tpF:∀ (i:Nat) (a:Addr) (p:aj),as[i]? = some a->m[i]? = some p->upd H1 d (.frz o (.dT kvs)) a=some (.tup (p.1.map V.int)):=λi a p h1 h2=>tk _ _ (show H1 a=some (.tup (p.1.map V.int)) from aV (R:=λ(a:Addr) (q:aj)=>H1 a=some (.tup (q.1.map V.int))) tp h1 h2)
   generalize upd H1 d (.frz o (.dT kvs))=HF at *
   refine aX (n:=m.length) (σ0:=[none,some (.ref d),some (.int P)]) rfl (λacc i zs σ H'=>∃ u:Option V,σ=[u,some (.ref d),some (.int P)]/\oS HF H'/\oV P H' zs ((m.take i).filter nz)) (by rw [sizeLine_eq]; omega) (λacc hacc=>⟨none,rfl,oS.new hacc,.nil⟩) ?_ ?_ ?_ ?_
   ·rintro acc i zs σ H' hacc hi hz ⟨u,rfl,sm',_⟩
    exact ⟨sm' _ _ hfz,by rw [length_map,la]; exact hi⟩
   ·rintro acc zs σ H' hacc hz ⟨u,rfl,sm',_⟩
    exact ⟨sm' _ _ hfz,by rw [length_map,la]; exact Nat.le_refl _⟩
   ·rintro acc i zs σ H9 x H' hacc hi hz hzl ⟨u,rfl,sm',pr⟩ ⟨rfl,hx⟩
    obtain ⟨a,ea,rfl⟩:∃ a,as[i]? = some a/\x=.ref a:=by
     rw [getElem?_map] at hx
     cases e:as[i]? with
     | none=>rw [e] at hx; cases hx
     | some a=>rw [e] at hx; exact ⟨a,rfl,(Option.some.inj hx).symm⟩
    obtain ⟨p,ep⟩:∃ p,m[i]? = some p:=⟨_,getElem?_eq_getElem hi⟩
    have mp:p ∈ m:=mem_of_getElem? ep
    have ha:=tpF i a p ea ep
    obtain ⟨v,e1,av⟩:∃ v,gL kvs (kI p.1)=some v/\At P HF v p.2:=by
     rcases dr'.val p.1 with ⟨_,e2⟩ | ⟨v,y,e1,e2,ra⟩
     ·rw [gH nd (show (p.1,p.2) ∈ m from mp)] at e2; cases e2
     ·rw [gH nd (show (p.1,p.2) ∈ m from mp)] at e2
      cases e2
      exact ⟨v,e1,ra⟩
    have dg:∀ H2,oS HF H2->DGet H2 d (.ref a) (some v):=λH2 s2=>.inr ⟨kvs,kI p.1,a,.inr ⟨o,s2 _ _ hfz⟩,rfl,by rw [mT]; exact s2 _ _ ha,e1.symm⟩
    refine ⟨_,rfl,_,rfl,d,v,rfl,dg H' sm',_,rfl,P,rfl,hP,λr H3 s3 a3=>?_⟩
    have s3':=sm'.trans s3
    refine ⟨dN P p.2,dN P (0,1),iP (av.same s3'),iP a3,bU _ _,bU _ _,?_⟩
    rw [jP (okm p mp) (cI hB.1 hB.2.2)]
    have en:(!decide (p.2=(0,1)))=nz p:=by unfold nz; rw [decide_not]
    rw [en]
    have pr3:=pr.mono λt xs e=>s3 _ _ e
    refine ⟨_,rfl,bu (λh=>?_) (λh=>?_)⟩
    ·refine ⟨_,rfl,_,rfl,_,rfl,d,v,rfl,dg H3 s3',by show 2<=sizeLine; decide,λt nt=>?_⟩
     have s4:=oS.new (o:=.tup [.ref a,v]) nt
     have s4':=s3'.trans s4
     have hz4:=s4 _ _ (s3 _ _ hz)
     have keep4:∀ c u,(upd H3 t (.tup [.ref a,v])) c=some u->c ≠ acc->upd (upd H3 t (.tup [.ref a,v])) acc (.lst (zs++[.ref t])) c=some u:=λc u e hc=>by rw [ao hc]; exact e
     have tk4:∀ c xs,(upd H3 t (.tup [.ref a,v])) c=some (.tup xs)->upd (upd H3 t (.tup [.ref a,v])) acc (.lst (zs++[.ref t])) c=some (.tup xs):=λc xs e=>keep4 c _ e (bW e hz4 (by intro z; cases z))
     refine ⟨zs,hz4,by rw [sizeLine_eq]; omega,_,ac,by rw [length_append,length_singleton]; omega,_,rfl,λc u e=>keep4 c u (s4' c u e) (ah e hacc),?_⟩
     rw [dX ep,if_pos h]
     exact (oV.snoc (p:=p) ⟨t,a,v,rfl,ac,s4' _ _ ha,av.same s4'⟩ (pr3.mono λt xs e=>s4 _ _ e)).mono tk4
    ·refine ⟨zs,s3 _ _ hz,by omega,_,rfl,s3',?_⟩
     rw [dX ep,if_neg h,append_nil]
     exact pr3
   ·rintro acc zs σ H' hacc hz hzl ⟨u,rfl,sm',pr⟩
    rw [take_length] at pr
    have sub:((m.filter nz).map (·.1)).Nodup:=(List.Sublist.map _ List.filter_sublist).nodup nd
    refine ⟨_,rfl,.inl ⟨acc,zs,rfl,SqL.of hz,by omega,keyP H',?_,λy hy H2 s2=>?_,λD H2 ws nD s2 hD pm pw=>?_⟩⟩
    ·rw [pr.keys]
     exact hk_nodup sub
    ·obtain ⟨p,hp,h⟩:=pr.mem hy
     rw [h.key]
     obtain ⟨t,k,u,rfl,h1,h2,_⟩:=h
     exact ⟨t,k,u,p.1,rfl,s2 _ _ h1,SqT.of (s2 _ _ h2),λr nr=>⟨oS.new nr,r,k,rfl,ac,SqT.of (oS.new nr _ _ (s2 _ _ h2))⟩⟩
    ·obtain ⟨qs,e,h'⟩:=pr.perm pm
     refine q D ws qs H2 ?_ ((smF.trans sm').trans s2) hD (h'.mono λt xs e=>s2 _ _ e) ⟨e,h'.fall pw⟩
     exact (smF.trans sm').free nD
theorem cop_of {p f:Int} (h2:2<=p) (h9:p<=9973) (hp:ig p=true) (f0:0<f) (f1:f<p):Int.gcd p f=1:=by
 have hg0:0<Int.gcd p f:=Int.gcd_pos_of_ne_zero_left f (by omega)
 have hgp:((Int.gcd p f:Nat):Int) ∣ p:=Int.gcd_dvd_left ..
 have hgf:((Int.gcd p f:Nat):Int) ∣ f:=Int.gcd_dvd_right ..
 generalize Int.gcd p f=g at *
 have gle:(g:Int)<=f:=Int.le_of_dvd f0 hgf
 obtain ⟨h,e⟩:=hgp
 by_cases g1:g=1
 ·exact g1
 exfalso
 have g2:2<=(g:Int):=by omega
 have hh:2<=h:=by
  rcases Int.lt_or_le h 2 with z | z
  ·have:=Int.mul_le_mul_of_nonneg_left (show h<=1 by omega) (show 0<=(g:Int) by omega)
   omega
  ·exact z
 have key:∀ d k:Int,2<=d->d<=k->p=d*k->False:=λd k d2 dk ep=>by
  have hdd:d*d<=p:=by rw [ep]; exact Int.mul_le_mul_of_nonneg_left dk (by omega)
  have hd100:d<100:=Int.not_le.mp λz=>by
   have:=Int.mul_le_mul z z (by omega) (by omega)
   omega
  have h0:=(isPb_iff.mp hp).2 d d2 hd100 hdd
  have:p % d=0:=by rw [ep]; exact Int.mul_emod_right d k
  omega
 rcases Int.le_total (g:Int) h with z | z
 ·exact key g h g2 z e
 ·exact key h g hh z (by rw [e,Int.mul_comm])
theorem jZ {a b p:Int} (h:p ∣ a-b):a % p=b % p:=Int.emod_eq_emod_iff_emod_sub_eq_zero.mpr (Int.emod_eq_zero_of_dvd h)
theorem jL (a p:Int):p ∣ a-a % p:=⟨a / p,by rw [Int.emod_def]; omega⟩
def spInv:Sp:=λvs H Q _=>∃ (w p:Int),vs=[.int w,.int p]/\2<=p/\p<=9973/\ig p=true/\w % p ≠ 0/\∀ r:Int,0<=r->r<p->(r*w) % p=1->Q (.int r) H
theorem pF:oW ["whole", "prime", "rest", "share", "following", "following_share", "often", "further", "further_share"] ["whole", "prime"] (am jb):=.i
theorem ok_inverse {f:Addr} {fd:FuncData} (F:Fun K "inverse" "inverse" jb f fd):oY P w K mg base CX0 1 f fd ["whole", "prime"] spInv:=by
 refine F.o pF λ_ _ _ _ H _ Q _ hr h=>?_
 ·obtain ⟨a,p,rfl,h2,h9,hp,ha,q⟩:=h
  refine ⟨_,(ag (au (i:=2) pF.nd rfl (Or.inl rfl) (pv 1))
(ag (au (i:=3) pF.nd rfl (Or.inl rfl) af)
(ag (au (i:=4) pF.nd rfl (Or.inl rfl) (ap bA (pv 0) (pv 1)))
(ag (au (i:=5) pF.nd rfl (Or.inl rfl) af)
(ag (gh PassesOwn.never (aw mM (pv 4) af (ay _))
(ag (au (i:=6) pF.nd rfl (Or.inl rfl) (ap bS (pv 2) (pv 4)))
(ag (au (i:=7) pF.nd rfl (Or.inl rfl) (ap bf (pv 2) (ap bx (pv 6) (pv 4))))
(ag (au (i:=8) pF.nd rfl (Or.inl rfl) (ap bf (pv 3) (ap bx (pv 6) (pv 5))))
(ag (au (i:=2) pF.nd rfl (Or.inl rfl) (pv 4))
(ag (au (i:=3) pF.nd rfl (Or.inl rfl) (pv 5))
(ag (au (i:=4) pF.nd rfl (Or.inl rfl) (pv 7))
(ak (au (i:=5) pF.nd rfl (Or.inl rfl) (pv 8))))))))))
(ak (ar (ap bA (pv 5) (pv 1))))))))),?_⟩
  refine ⟨_,rfl,_,rfl,_,rfl,_,_,rfl,rfl,(by show (0:Int)<p; omega),?_⟩
  have m0:=Int.emod_nonneg a (show p ≠ 0 by omega)
  have m1:=Int.emod_lt_of_pos a (show 0<p by omega)
  refine gr (λσ H'=>∃ (R S F G:Int) (u6 u7 u8:Option V),σ=[some (.int a),some (.int p),some (.int R),some (.int S),some (.int F),some (.int G),u6,u7,u8]/\H'=H/\1<=F/\F<R/\R<=p/\Int.gcd R F=1/\p ∣ S*a-R/\p ∣ G*a-F)
   (λσ _=>match σ with | [_,_,_,_,some (.int F),_,_,_,_]=>F.toNat | _=>0) ⟨p,0,a % p,1,none,none,none,rfl,rfl,by omega,m1,Int.le_refl p,cop_of h2 h9 hp (by omega) m1,⟨-1,by omega⟩,by rw [Int.one_mul]; exact jL a p⟩ ?_ ?_
  ·rintro σ H2 ⟨R,S,F,G,u6,u7,u8,rfl,rfl,f1,fR,Rp,hg,d1,d2⟩
   refine ⟨_,rfl,rfl,_,rfl,?_⟩
   by_cases hF:F=1
   ·subst hF
    refine iteNS rfl ?_
    refine ⟨_,rfl,_,rfl,_,_,rfl,rfl,(by show (0:Int)<p; omega),?_⟩
    refine q _ (Int.emod_nonneg _ (by omega)) (Int.emod_lt_of_pos _ (by omega)) ?_
    have e1:(G % p*a) % p=1 % p:=by
     apply jZ
     obtain ⟨k1,e1⟩:=d2
     obtain ⟨k2,e2⟩:=jL G p
     refine ⟨k1-k2*a,?_⟩
     have e3:G % p=G-p*k2:=by omega
     rw [e3,Int.sub_mul,Int.mul_sub,Int.mul_assoc]
     omega
    rw [e1]
    exact Int.emod_eq_of_lt (by decide) (by omega)
   ·rw [decide_eq_false (show ¬ V.int F=V.int 1 from λz=>hF (by injection z))]
    have eq:R.fdiv F=R / F:=Int.fdiv_eq_ediv_of_nonneg _ (by omega)
    have q0:0<=R / F:=Int.ediv_nonneg (by omega) (by omega)
    have q1:R / F<=R:=Int.ediv_le_self F (by omega)
    refine bF ⟨_,rfl,_,rfl,_,_,rfl,rfl,gm (by omega) (by omega),?_⟩
    refine ⟨_,rfl,_,rfl,_,rfl,_,_,rfl,rfl,.inr ⟨by omega,by omega⟩,_,_,rfl,rfl,?_⟩
    refine ⟨_,rfl,_,rfl,_,rfl,_,_,rfl,rfl,.inl ⟨by omega,by omega⟩,_,_,rfl,rfl,?_⟩
    rw [eq]
    have eF:R-R / F*F=R % F:=by rw [Int.emod_def,Int.mul_comm]
    have r0:=Int.emod_nonneg R (show F ≠ 0 by omega)
    have r1:=Int.emod_lt_of_pos R (show 0<F by omega)
    have rn:R % F ≠ 0:=λz=>by
     have hd:F ∣ R:=Int.dvd_of_emod_eq_zero z
     have:Nat.gcd R.natAbs F.natAbs=F.natAbs:=Nat.gcd_eq_right (Int.natAbs_dvd_natAbs.mpr hd)
     have hg':Nat.gcd R.natAbs F.natAbs=1:=hg
     omega
    refine ⟨_,rfl,_,rfl,_,rfl,_,rfl,⟨F,G,R-R / F*F,S-R / F*G,_,_,_,rfl,rfl,by omega,by omega,by omega,?_,d2,?_⟩,?_⟩
    ·rw [eF,Int.emod_def,Int.gcd_comm]
     rw [Int.gcd_sub_mul_left_left]
     exact hg
    ·obtain ⟨k1,e1⟩:=d1
     obtain ⟨k2,e2⟩:=d2
     refine ⟨k1-R / F*k2,?_⟩
     have e3:(S-R / F*G)*a-(R-R / F*F)=(S*a-R)-R / F*(G*a-F):=by
      rw [Int.sub_mul,Int.mul_sub,Int.mul_assoc]
      omega
     rw [e3,e1,e2,Int.mul_sub,Int.mul_left_comm]
    ·show (R-R / F*F).toNat<F.toNat
     omega
  ·rintro σ H Q Q' hq ⟨x,hx,e1,b,hb,h⟩
   exact ⟨x,hx,e1,b,hb,hq _ _ h⟩
def fE (CR CN:Addr):Sp:=λvs H Q E=>∃ (x dx:Addr) (p a b:Int),vs=[.ref x,.int a,.int b]/\H x=some (.ins CR dx [("modulus",.int p)])/\2<=p/\p<=9973/\ig p=true/\
 (b % p=0->E (.ref CN) none H)/\(b % p ≠ 0->∀ r:Int,0<=r->r<p->(r*b) % p=a % p->Q (.int r) H)
theorem sc_Rests_of:oW ["self", "top", "bottom"] ["self", "top", "bottom"] (am be):=.i
theorem ok_rofx {f CR qP:Addr} {fd:FuncData} (F:FunD K "of" "Rests.of" be f fd) (cl:Cls K CR) (nM:pQ K CR "modulus") (vt:FnB P w K mg base 1 "inverse" spInv) (ANoNumber:mg "NoNumber"=some (.ref qP)) (xc:XCl K qP) :
  oY P w K mg base (CXE P w) 2 f fd ["self", "top", "bottom"] (fE CR qP):=by
 refine F.okX sc_Rests_of (λvs H Q E h=>?_) (λcdv A outer s H vs Q E hr h=>?_)
 ·obtain ⟨x,dx,p,a,b,rfl,_⟩:=h
  rfl
 ·obtain ⟨x,dx,p,a,b,rfl,hx,h2,h9,hp,qn,qy⟩:=h
  refine ⟨_,(ag (aH (aw bM (ap bA (pv 2) (hW (pv 0) rfl)) af (ay _))
(ak (kM xc.ek ANoNumber (aa pe_str ae)))
aA)
(ak (ar (ap bA (ap bx (pv 1) (aq vt hr.m (aa (pv 2) (aa (hW (pv 0) rfl) ae)))) (hW (pv 0) rfl))))),?_⟩
  have p0:(0:Int)<p:=by omega
  refine ⟨_,rfl,_,rfl,x,CR,dx,_,_,rfl,hx,cl,nM,rfl,_,_,rfl,rfl,p0,rfl,_,rfl,?_⟩
  by_cases hb:b % p=0
  ·rw [decide_eq_true (congrArg V.int hb)]
   exact bF ⟨(by show 1<=sizeLine; decide),qn hb⟩
  ·rw [decide_eq_false (show ¬ V.int (b % p)=V.int 0 from λz=>hb (by injection z))]
   refine br ⟨_,rfl,_,rfl,_,rfl,x,CR,dx,_,_,rfl,hx,cl,nM,rfl,b,p,rfl,h2,h9,hp,hb,λr r0 r1 hr'=>?_⟩
   refine ⟨_,_,rfl,rfl,.inr ⟨by omega,by omega⟩,_,rfl,x,CR,dx,_,_,rfl,hx,cl,nM,rfl,_,_,rfl,rfl,p0,?_⟩
   refine qy hb _ (Int.emod_nonneg _ (by omega)) (Int.emod_lt_of_pos _ p0) ?_
   apply jZ
   obtain ⟨k1,e1⟩:=jL (a*r) p
   obtain ⟨k2,e2⟩:=jL (r*b) p
   rw [hr'] at e2
   refine ⟨a*k2-k1*b,?_⟩
   have e3:a*r % p=a*r-p*k1:=by omega
   have e4:r*b=1+p*k2:=by omega
   rw [e3,Int.sub_mul,Int.mul_assoc,e4,Int.mul_add,Int.mul_sub,Int.mul_one,Int.mul_left_comm,Int.mul_assoc]
   omega
theorem pC.mono {CF CR x:Addr} {p:Int} {H H':Hp} (h:pC CF CR H x p) (k:∀ o,H x=some o->H' x=some o):pC CF CR H' x p:=by
 rcases h with ⟨h0,dx,e⟩ | ⟨h0,dx,e⟩
 ·exact .inl ⟨h0,dx,k _ e⟩
 ·exact .inr ⟨h0,dx,k _ e⟩
theorem mV {m:Str} (e:(m == ("modulus" : Str))=false) (v:V):List.lookup m [(("modulus" : Str),v)]=none:=by
 simp only [List.lookup,e]
theorem op_go {CF CR x:Addr} {P:Int} {u v:V} {a b:Int × Int} {H:Hp} {σ:L2.St} {R:VK} {ta:TE} {t:TA} {m:Str} (gF:Int × Int->Int × Int->Int × Int) (gR:Int->Int->Int) (res:Int × Int) (hres:res=if P=0 then nrm (gF a b).1 (gF a b).2 else (gR a.1 b.1 % P,1)) (hm:(m == ("modulus" : Str))=false)
  (hP:oU P) (hN:pC CF CR H x P) (h1:At P H u a) (h2:At P H v b) (o1:OkN P a) (o2:OkN P b) (s1:Sz 2900 a) (s2:Sz 2900 b) (ha:∀ Z:VK,Z (.ref x) H->ta σ H Z) (ht:∀ Z:List V->Hp->Prop,Z [u,v] H->t σ H Z) (hR:∀ r H',oS H H'->At P H' r res->R r H') :
  tOrE (fT CF m (j3 CF gF) [] E0 ta t) (fT CR m (kh CR gR) [] E0 ta t) σ H R:=by
 subst hres
 rcases hN with ⟨h0,dx,e⟩ | ⟨h0,dx,e⟩
 ·rcases h1 with ⟨_,s,rfl,hs⟩ | ⟨z,_⟩
  ·rcases h2 with ⟨_,t',rfl,ht'⟩ | ⟨z,_⟩
   ·rw [if_pos h0] at hR
    exact .inl (ha _ ⟨x,dx,[],rfl,e,rfl,ht _ ⟨x,dx,s,t',a,b,rfl,e,hs,ht',o1.den,o2.den,s1,s2,λr nr=>hR _ _ (oS.new nr) (.inl ⟨h0,r,rfl,ac⟩)⟩⟩)
   ·exact absurd h0 z
  ·exact absurd h0 z
 ·rcases h1 with ⟨z,_⟩ | ⟨_,rfl,_⟩
  ·exact absurd z h0
  ·rcases h2 with ⟨z,_⟩ | ⟨_,rfl,_⟩
   ·exact absurd z h0
   ·rw [if_neg h0] at hR
    have hb:=hP.b
    rcases o1 with ⟨z,_⟩ | ⟨_,x0,x1,_⟩
    ·exact absurd z h0
    rcases o2 with ⟨z,_⟩ | ⟨_,y0,y1,_⟩
    ·exact absurd z h0
    exact .inr (ha _ ⟨x,dx,_,rfl,e,mV hm _,ht _ ⟨x,dx,P,_,_,rfl,e,by omega,hb.2.1,x0,x1,y0,y1,hR _ _ (oS.refl H) (.inr ⟨h0,rfl,rfl⟩)⟩⟩)
theorem of_go {CF CR qP x:Addr} {P a:Int} {vs dvs:List V} {H:Hp} {σ:L2.St} {R:VK} {ta:TE} {t:TA} (hP:oU P) (hN:pC CF CR H x P) (hv:vs++dvs=[.int a,.int 1]) (ha:∀ Z:VK,Z (.ref x) H->ta σ H Z) (ht:∀ Z:List V->Hp->Prop,Z vs H->t σ H Z)
  (hR:∀ r H',oS H H'->At P H' r (if P=0 then (a,1) else (a % P,1))->R r H') :
  tOrE (fT CF "of" (dU qP) dvs E0 ta t) (fT CR "of" (fE CR qP) dvs E0 ta t) σ H R:=by
 rcases hN with ⟨h0,dx,e⟩ | ⟨h0,dx,e⟩
 ·rw [if_pos h0] at hR
  refine .inl (ha _ ⟨x,dx,[],rfl,e,rfl,ht _ ⟨.ref x,a,1,by rw [hv],λz=>absurd z (by decide),λ_=>⟨by decide +kernel,λr nr=>?_⟩⟩⟩)
  rw [(eQ a 1 (by decide)).mpr (Int.gcd_one_right ..)]
  exact hR _ _ (oS.new nr) (.inl ⟨h0,r,rfl,ac⟩)
 ·rw [if_neg h0] at hR
  rcases hP with z | ⟨h2,h9,hp⟩
  ·exact absurd z h0
  have e1:(1:Int) % P=1:=Int.emod_eq_of_lt (by decide) (by omega)
  refine .inr (ha _ ⟨x,dx,_,rfl,e,mV (by decide +kernel) _,ht _ ⟨x,dx,P,a,1,by rw [hv],e,h2,h9,hp,(λz=>absurd (e1.symm.trans z) (by decide)),λ_ r r0 r1 hr=>?_⟩⟩)
  rw [Int.mul_one,Int.emod_eq_of_lt r0 r1] at hr
  rw [hr]
  exact hR _ _ (oS.refl H) (.inr ⟨h0,rfl,rfl⟩)
def spHeight (K:Frag):Sp:=λvs H Q _=>∃ (a:Addr) (ns:List Int),vs=[.ref a]/\SqT K H a (ns.map V.int)/\∀ t,H t=none->Q (.ref t) (upd H t (.tup [.int ns.sum,.ref a]))
theorem sc_height:oW ["one"] ["one"] (am kE):=.i
theorem ok_height {f:Addr} {fd:FuncData} (F:Fun K "height" "height" kE f fd) (xz:FnB P w K mg base 1 "degree" (spDeg K)):oY P w K mg base CX0 2 f fd ["one"] (spHeight K):=by
 refine F.o sc_height λ_ _ _ _ H _ Q _ hr h=>?_
 ·obtain ⟨a,ns,rfl,ha,q⟩:=h
  refine ⟨_,(ak (ar (aT (aa (aq xz hr.m (aa (pv 0) ae)) (aa (pv 0) ae))))),?_⟩
  exact ⟨_,rfl,a,ns,rfl,ha,_,rfl,by show 2<=sizeLine; decide,q⟩
def cH (CG:Addr) (H:Hp) (g x:Addr) (L:Int):Prop:=∃ dx,H g=some (.ins CG dx [("kind",.ref x),("width",.int L)])
def g0 (CG:Addr):Sp:=λvs H Q _=>∃ (g x:Addr) (L:Int),vs=[.ref g]/\cH CG H g x L/\Q (.ref x) H
theorem jF:oW ["self"] ["self"] (am bD):=.i
theorem ok_rnum {f CG:Addr} {fd:FuncData} (F:Fun K "numbers" "Ring.numbers" bD f fd) (cl:Cls K CG) (nA:pQ K CG "kind"):oY P w K mg base CX0 1 f fd ["self"] (g0 CG):=by
 refine F.o jF λ_ _ _ _ H _ Q _ hr h=>?_
 ·obtain ⟨g,x,L,rfl,⟨dx,hg⟩,q⟩:=h
  refine ⟨_,(ak (ar (hW (pv 0) rfl))),?_⟩
  exact ⟨_,rfl,g,CG,dx,_,_,rfl,hg,cl,nA,rfl,q⟩
def spSum (CF CR CG:Addr):Sp:=λvs H Q _=>∃ (g x l:Addr) (P L:Int) (ts:List V) (ps:List aj),vs=[.ref g,.ref l]/\oU P/\cH CG H g x L/\pC CF CR H x P/\H l=some (.lst ts)/\oV P H ts ps/\ps.length<=60/\bO P ps/\
 ∀ (d:Addr) (rs:List V) (out:List aj) (H':Hp),H d=none->oS H H'->H' d=some (.lst rs)->oV P H' rs out->o7 P ps out->Q (.ref d) H'
theorem cf {P:Int} {x:Int × Int} (h:OkN P x):aS P (0,1) x=x:=by
 unfold aS
 rcases h with ⟨h0,hd,hg⟩ | ⟨h0,a,b,c⟩
 ·rw [if_pos h0]
  show nrm (0*x.2+x.1*1) (1*x.2)=x
  rw [Int.zero_mul,Int.zero_add,Int.mul_one,Int.one_mul]
  exact (eQ x.1 x.2 hd).mpr hg
 ·rw [if_neg h0]
  show ((0+x.1) % P,1)=x
  rw [Int.zero_add,Int.emod_eq_of_lt a b]
  exact Prod.ext rfl c.symm
theorem qb:oW ["ring", "parts", "numbers", "found", "product", "number", "nought", "falling"] ["ring", "parts"] (am lg):=.i
theorem ok_sumof {f CF CR CG qP:Addr} {fd:FuncData} (F:Fun K "sum_of" "sum_of" lg f fd) (T:Blt mg) (xA:FnB P w K mg base 2 "height" (spHeight K)) (si:MtB P w K mg base 1 CG "numbers" (g0 CG))
  (yN:MtB P w K mg base 3 CF "plus" (j3 CF λa b=>(a.1*b.2+b.1*a.2,a.2*b.2))) (yO:MtB P w K mg base 3 CR "plus" (kh CR (· + ·)))
  (uw:gZ P w K mg base 2 CF "of" [.int 1] (dU qP)) (ux:gZ P w K mg base 2 CR "of" [.int 1] (fE CR qP)) :
  oY P w K mg base CX0 5 f fd ["ring", "parts"] (spSum CF CR CG):=by
 refine F.o qb λ_ _ _ _ H _ Q _ hr h=>?_
 ·obtain ⟨g,x,l,P,L,ts,ps,rfl,hP,hg,hN,hl,hps,hn,hok,q⟩:=h
  have hB:=hP.b
  refine ⟨_,(ag (au (i:=2) qb.nd rfl (Or.inl rfl) (fG si hr.m (pv 0)))
(ag (au (i:=3) qb.nd rfl (Or.inr rfl) kT)
(ag (bc PassesOwn.never rfl (aG K rfl (pv 1)) (bw K (i:=4) (j:=5) rfl rfl qb.nd rfl rfl rfl rfl)
(ak (nk (hu1 hr) (pv 3) (pv 4) (pe_ifExp (pt_cmp (pc_din (hu1 hr) (pv 4) (pv 3))) (gU (pe_mt yN hr.m (pv 2) (aa (eY (hu1 hr) (pv 3) (pv 4) (λ_ _=>rfl)) (aa (pv 5) ae))) (pe_mt yO hr.m (pv 2) (aa (eY (hu1 hr) (pv 3) (pv 4) (λ_ _=>rfl)) (aa (pv 5) ae)))) (pv 5)) rfl)))
(ag (au (i:=6) qb.nd rfl (Or.inr rfl) (gU (eE uw hr.m dO (pv 2) (aa af ae)) (eE ux hr.m dO (pv 2) (aa af ae))))
(ag (au (i:=7) qb.nd rfl (Or.inl rfl) (pe_sortK T xA hr.m (pv 3)))
(ak (ar (by exact aO (N:=["product", "found", "nought"]) (src:=[none,some 3,some 6]) rfl rfl rfl (by exact (aG K rfl (pv 7))) (λ_ _ _=>by exact ⟨by exact (bP (i:=0) nd_2 rfl rfl),(fF (aw (kneD K rfl hr.units) (eY (hu1 hr) (pv 1) (pv 0) (λ_ _=>rfl)) (pv 2) (ay _))),by exact (aT (aa (pv 0) (aa (eY (hu1 hr) (pv 1) (pv 0) (λ_ _=>rfl)) ae)))⟩))))))))),?_⟩
  have lt:ts.length=ps.length:=Paired.length hps
  obtain ⟨dxg,hg'⟩:=id hg
  refine ⟨_,rfl,g,dxg,_,rfl,hg',rfl,g,x,L,rfl,hg,?_⟩
  intro d hd
  have dl:d ≠ l:=λz=>by rw [z,hl] at hd; cases hd
  refine ⟨_,rfl,l,rfl,⟨_,SqL.of (by rw [ao dl.symm]; exact hl)⟩,gd (xs:=ts) (λi σ H'=>∃ (x4 x5:Option V) (kvs:List (List Key × V)),σ=[some (.ref g),some (.ref l),some (.ref x),some (.ref d),x4,x5,none,none]/\oS H H'/\H' d=some (.dT kvs)/\pi (At P H') kvs (acc P (ps.take i))) ?_ ?_ ?_ ?_⟩
  ·exact ⟨none,none,[],rfl,oS.new hd,ac,.nil⟩
  ·rintro i σ H' _ ⟨x3,x4,kvs,rfl,sm,_⟩
   exact SqL.of (sm _ _ hl)
  ·rintro i v σ H1 hx ⟨x3,x4,kvs,rfl,sm,hd1,dr⟩
   obtain ⟨p,ep,t,k,u,rfl,ht,hk,hu⟩:=hps.at_ hx
   refine ⟨t,_,rfl,SqT.of (sm _ _ ht),rfl,_,_,rfl,_,_,rfl,rfl,?_⟩
   have hk1:H1 k=some (.tup ((kI p.1).map kV)):=by rw [mT]; exact sm _ _ hk
   have mp:p ∈ ps:=mem_of_getElem? ep
   obtain ⟨op,zp⟩:=hok.1 p mp
   have okm:∀ q ∈ acc P (ps.take i),OkN P q.2:=dG hB.1 hB.2.2 λq hq=>(hok.1 q (mem_of_mem_take hq)).1
   have hlen:kvs.length<sizeLine:=by
    have h1:kvs.length=(acc P (ps.take i)).length:=Paired.length dr
    have h2:=eZ P (ps.take i)
    rw [length_take] at h2
    rw [h1,sizeLine_eq]
    omega
   have fin:∀ r3 H3,oS H1 H3->At P H3 r3 (aS P ((bn (acc P (ps.take i)) p.1).getD (0,1)) p.2)->∃ (x4 x5:Option V) (kvs':List (List Key × V)),[some (V.ref g),some (.ref l),some (.ref x),some (.ref d),some (.ref k),some u,none,none]=[some (.ref g),some (.ref l),some (.ref x),some (.ref d),x4,x5,none,none]/\oS H (upd H3 d (.dT (cQ kvs (kI p.1) r3)))/\(upd H3 d (.dT (cQ kvs (kI p.1) r3))) d=some (.dT kvs')/\pi (At P (upd H3 d (.dT (cQ kvs (kI p.1) r3)))) kvs' (acc P (ps.take (i+1))):=λr3 H3 s3 a3=>by
    have d3:H3 d=some (.dT kvs):=s3 _ _ hd1
    have keep:∀ c o,H3 c=some o->c ≠ d->upd H3 d (.dT (cQ kvs (kI p.1) r3)) c=some o:=λc o e hc=>by rw [ao hc]; exact e
    have tk3:∀ t xs,H3 t=some (.tup xs)->upd H3 d (.dT (cQ kvs (kI p.1) r3)) t=some (.tup xs):=λt xs e=>keep t _ e (bW e d3 (by intro z; cases z))
    refine ⟨_,_,_,rfl,λc o e=>keep c o (s3 _ _ (sm c o e)) (ah e hd),ac,?_⟩
    rw [eX ep]
    exact pi.put (a3.mono tk3) (dr.mono λv x z=>(z.same s3).mono tk3)
   have put:∀ r3 H3,oS H1 H3->DPut H3 d (.ref k) r3 (upd H3 d (.dT (cQ kvs (kI p.1) r3))):=λr3 H3 s3=>DPut.t (k:=kI p.1) (s3 _ _ hd1) (s3 _ _ hk1) hlen
   refine ⟨_,rfl,_,rfl,d,_,rfl,DGet.t hd1 hk1,_,rfl,?_⟩
   rcases dr.val p.1 with ⟨e1,e2⟩ | ⟨v,y,e1,e2,ra⟩
   ·rw [e1]
    rw [e2] at fin
    refine br ⟨_,rfl,_,rfl,_,rfl,d,_,rfl,put _ H1 (oS.refl _),fin _ H1 (oS.refl _) ?_⟩
    show At P H1 u (aS P (0,1) p.2)
    rw [cf op]
    exact hu.same sm
   ·rw [e1]
    rw [e2] at fin
    refine bF (op_go _ _ (aS P y p.2) (by unfold aS; rfl) (by decide +kernel) hP (hN.mono λo e=>sm _ _ e) ra (hu.same sm) (okm _ (bo e2)) op (hok.2 i _ (bo e2)) zp (λZ z=>⟨_,rfl,z⟩) (λZ z=>⟨_,rfl,_,rfl,d,v,rfl,(by rw [<- e1]; exact DGet.t hd1 hk1),_,rfl,z⟩) λr3 H3 s3 a3=>?_)
    exact ⟨_,rfl,_,rfl,d,_,rfl,put _ H3 s3,fin _ H3 s3 a3⟩
  ·rintro σ H1 ⟨x3,x4,kvs,rfl,sm,hd1,dr⟩
   rw [lt,take_length] at dr
   have nd:=eS P ps
   have lm:=eZ P ps
   have okm:∀ q ∈ acc P ps,OkN P q.2:=dG hB.1 hB.2.2 λq hq=>(hok.1 q hq).1
   unfold o7 at q
   generalize acc P ps=m at *
   refine of_go (a:=0) hP (hN.mono λo e=>sm _ _ e) rfl (λZ z=>⟨_,rfl,z⟩) (λZ z=>z) λr H2 s2 A2=>?_
   rw [zero_if] at A2
   have hd2:=s2 _ _ hd1
   have dr2:pi (At P H2) kvs m:=dr.mono λv x z=>z.same s2
   have sm2:=sm.trans s2
   refine ⟨_,rfl,.inr ⟨d,kvs,rfl,hd2,λas pk=>?_⟩⟩
   have tp:=prod_of (dr2.tups pk)
   have la:(as.map V.ref).length=m.length:=Paired.length tp
   generalize as.map V.ref=vs at *
   refine ⟨by omega,lH H2,by rw [i8 tp]; exact hk_nodup nd,λy hy H3 s3=>?_,λD H3 zs nD s3 hD pm pw=>?_⟩
   ·obtain ⟨p,hp,a,rfl,ha⟩:=prod_mem tp hy
    refine ⟨a,p.1,rfl,SqT.of (s3 _ _ ha),λt nt=>⟨oS.new nt,t,a,rfl,?_,?_⟩⟩
    ·rw [ac]
     unfold lH
     rw [jK ha]
    ·unfold lH
     rw [jK ha]
     exact SqT.of (oS.new nt _ _ (s3 _ _ ha))
   ·obtain ⟨qs,pe,pq⟩:=paired_perm pm m tp
    have lq:zs.length=qs.length:=Paired.length pq
    have lz:qs.length=m.length:=pe.length_eq
    have fall:qs.Pairwise λa b=>klt (hk b) (hk a)=true:=by
     have z:(zs.map (lH H2)).Pairwise (λa b=>klt b a=true):=List.pairwise_map.mpr pw
     rw [i8 pq] at z
     exact List.pairwise_map.mp z
    refine ⟨_,rfl,D,rfl,⟨_,SqL.of hD⟩,aX (n:=zs.length) (σ0:=[none,some (.ref d),some r]) rfl (λacc i ws σ H'=>∃ u:Option V,σ=[u,some (.ref d),some r]/\oS H3 H'/\oV P H' ws ((qs.take i).filter nz)) (by rw [sizeLine_eq]; omega) (λacc hacc=>⟨none,rfl,oS.new hacc,.nil⟩) ?_ ?_ ?_ ?_⟩
    ·rintro acc i ws σ H' hacc hi hz ⟨u,rfl,sm',_⟩
     exact ⟨zs,_,SqL.of (sm' _ _ hD),getElem?_eq_getElem hi⟩
    ·rintro acc ws σ H' hacc hz ⟨u,rfl,sm',_⟩
     exact ⟨zs,SqL.of (sm' _ _ hD),Nat.le_refl _⟩
    ·rintro acc i ws σ H9 x' H' hacc hi hz hzl ⟨u,rfl,sm',pr⟩ ⟨rfl,hx⟩
     have hx:=hx zs (SqL.of (sm' _ _ hD))
     obtain ⟨p,ep⟩:∃ p,qs[i]? = some p:=⟨_,getElem?_eq_getElem (by omega)⟩
     obtain ⟨a,rfl,ha⟩:=(aV (R:=ProdR H2) pq hx ep)
     have mp:p ∈ m:=pe.mem_iff.mp (mem_of_getElem? ep)
     have s3':=s3.trans sm'
     obtain ⟨v,e1,av⟩:∃ v,gL kvs (kI p.1)=some v/\At P H2 v p.2:=by
      rcases dr2.val p.1 with ⟨_,e2⟩ | ⟨v,y,e1,e2,ra⟩
      ·rw [gH nd (show (p.1,p.2) ∈ m from mp)] at e2; cases e2
      ·rw [gH nd (show (p.1,p.2) ∈ m from mp)] at e2
       cases e2
       exact ⟨v,e1,ra⟩
     have dg:DGet H' d (.ref a) (some v):=.inr ⟨kvs,kI p.1,a,.inl (s3' _ _ hd2),rfl,by rw [mT]; exact s3' _ _ ha,e1.symm⟩
     refine ⟨_,rfl,_,rfl,d,v,rfl,dg,_,rfl,dN P p.2,dN P (0,1),iP (av.same s3'),iP (A2.same s3'),bU _ _,bU _ _,?_⟩
     rw [jP (okm p mp) (cI hB.1 hB.2.2)]
     have en:(!decide (p.2=(0,1)))=nz p:=by unfold nz; rw [decide_not]
     rw [en]
     refine ⟨_,rfl,bu (λh=>?_) (λh=>?_)⟩
     ·refine ⟨_,rfl,_,rfl,_,rfl,d,v,rfl,dg,by show 2<=sizeLine; decide,λt nt=>?_⟩
      have s4:=oS.new (o:=.tup [.ref a,v]) nt
      have hz4:=s4 _ _ hz
      have keep4:∀ c u,(upd H' t (.tup [.ref a,v])) c=some u->c ≠ acc->upd (upd H' t (.tup [.ref a,v])) acc (.lst (ws++[.ref t])) c=some u:=λc u e hc=>by rw [ao hc]; exact e
      have tk4:∀ c xs,(upd H' t (.tup [.ref a,v])) c=some (.tup xs)->upd (upd H' t (.tup [.ref a,v])) acc (.lst (ws++[.ref t])) c=some (.tup xs):=λc xs e=>keep4 c _ e (bW e hz4 (by intro z; cases z))
      refine ⟨ws,hz4,by rw [sizeLine_eq]; omega,_,ac,by rw [length_append,length_singleton]; omega,_,rfl,λc u e=>keep4 c u (s4 _ _ (sm' c u e)) (ah e hacc),?_⟩
      rw [dX ep,if_pos h]
      exact (oV.snoc (p:=p) ⟨t,a,v,rfl,ac,s4 _ _ (s3' _ _ ha),(av.same s3').same s4⟩ (pr.mono λt xs e=>s4 _ _ e)).mono tk4
     ·refine ⟨ws,hz,by omega,_,rfl,sm',?_⟩
      rw [dX ep,if_neg h,append_nil]
      exact pr
    ·rintro acc ws σ H' hacc hz hzl ⟨u,rfl,sm',pr⟩
     rw [lq,take_length] at pr
     refine q acc ws _ H' ?_ ((sm2.trans s3).trans sm') hz pr ⟨pe.filter _,fall.filter _⟩
     exact (sm2.trans s3).free hacc
theorem nd_3:(["_law_number_here"]:List Str).Nodup:=by decide +kernel
def dP (P:Int) (p:aj):PyData:=.tuple [eW p.1,dN P p.2]
def dS (P:Int) (out:List aj):PyData:=.list (out.map (dP P))
theorem dP_ok (P:Int) (p:aj):(dP P p).canLay0=true/\(dP P p).depth<=2:=by
 have h1:=cA p.1
 have h2:=bU P p.2
 have d1:(eW p.1).depth<=1:=by simp [eW,PyData.depth,PySem.W.ke_depthAll]
 have d2:(dN P p.2).depth<=1:=by
  unfold dN
  split
  ·simp [eW,PyData.depth,PyData.depthAll]
  ·simp [PyData.depth]
 refine ⟨?_,?_⟩
 ·simp only [dP,PyData.canLay0,PyData.canLayAll0,SeqAt.canLay_of_shaped h1,SeqAt.canLay_of_shaped h2,Bool.and_true]
 ·simp only [dP,PyData.depth,PyData.depthAll]
  omega
theorem dS_all (P:Int):∀ out:List aj,PyData.canLayAll0 (out.map (dP P))=true/\PyData.depthAll (out.map (dP P))<=2
 | []=>⟨rfl,by simp [PyData.depthAll]⟩
 | p::r=>by
  obtain ⟨a,b⟩:=dP_ok P p
  obtain ⟨c,d⟩:=dS_all P r
  refine ⟨by simp only [map_cons,PyData.canLayAll0,a,c,Bool.and_true],?_⟩
  simp only [map_cons,PyData.depthAll]
  omega
theorem bI (P:Int) (out:List aj):SeqAt.shaped (dS P out)=true:=by
 obtain ⟨c,d⟩:=dS_all P out
 unfold SeqAt.shaped dS
 rw [Bool.and_eq_true]
 refine ⟨by simp only [PyData.canLay0,c],decide_eq_true ?_⟩
 simp only [PyData.depth]
 omega
theorem eqv_dS (P:Int) (out:List aj):PyData.eqv (dS P out) (dS P out)=true:=SeqAt.eqv_refl _ (SeqAt.canLay_of_shaped (bI P out))
theorem lQ {K:Frag} {P:Int} {H:Hp}:∀ {ts:List V} {ps:List aj},oV P H ts ps->DRs K H (ps.map (dP P)) ts
 | _,_,.nil=>.nil
 | _,_,.cons ⟨t,k,u,e,h1,h2,h3⟩ r=>by
  rw [e]
  exact .cons (.tup (SqT.of h1) (.cons (gA (SqT.of h2)) (.cons (iP h3) .nil))) (lQ r)
theorem gc {K:Frag} {P:Int} {H:Hp} {l:Addr} {ts:List V} {ps:List aj} (hl:H l=some (.lst ts)) (h:oV P H ts ps):DR K H (dS P ps) (.ref l):=.lst (SqL.of hl) (lQ h)
def spSLike (K:Frag):Sp:=λvs H Q _=>∃ (l:Addr) (P L:Int) (ts:List V) (ps:List aj),vs=[.int P,.int L,.ref l]/\oU P/\H l=some (.lst ts)/\oV P H ts ps/\ps.length<=60/\bO P ps/\o7 P ps ps/\(∀ q ∈ ps,(q.1.length:Int)=L/\q.1.length<=10/\∀ e ∈ q.1,0<=e)/\
 ∀ H',oS H H'->Q (.bl true) H'
theorem qm:oW ["_law_prime_here", "_law_letters", "_law_found", "_law_part"] ["_law_prime_here", "_law_letters", "_law_found"] (am dj):=.i
theorem ok_slike {f:Addr} {fd:FuncData} (F:Fun K "_law_sum_like" "_law_sum_like" dj f fd) (T:Blt mg) (rl:FnB P w K mg base 1 "_law_whole" (nj K)) (sJ:FnB P w K mg base 2 "_law_number_like" (spLike K)) (qS:FnB P w K mg base 4 "_law_sum" fu) :
  oY P w K mg base CX0 5 f fd ["_law_prime_here", "_law_letters", "_law_found"] (spSLike K):=by
 refine F.o qm λ_ _ _ _ H _ Q _ hr h=>?_
 ·obtain ⟨l,P,L,ts,ps,rfl,hP,hl,hps,hn,hok,hsum,hL,q⟩:=h
  refine ⟨_,(ag (aH (cE (bR (gS K T (pv 2) T.list gY)))
(ak (ar bV))
aA)
(ag (bc PassesOwn.never rfl (aG K rfl (pv 2)) (aF (i:=3) qm.nd rfl (Or.inl rfl))
(ag (aH (PW.pt (fH (cE (bR (gS K T (pv 3) T.tuple dW))) (fH (aw mM (bq K T (pv 3)) af (ay _)) (ft (cE (bR (gS K T (aB (az K rfl) (pv 3) af (λ_ _=>rfl)) T.tuple dW)))))))
(ak (ar bV))
aA)
(ag (aH (PW.pt (fH (aw mM (bq K T (aB (az K rfl) (pv 3) af (λ_ _=>rfl))) (pv 1) (ay _)) (ft (cE (bR (aq sJ hr.m (aa (pv 0) (aa (aB (az K rfl) (pv 3) af (λ_ _=>rfl)) ae))))))))
(ak (ar bV))
aA)
(ak (aH (cE (bR (jO K T (by exact aO (N:=["_law_number_here"]) (src:=[none]) rfl rfl rfl (by exact (kpi_tup K rfl (aB (az K rfl) (pv 3) af (λ_ _=>rfl)))) (λ_ _ _=>by exact ⟨by exact (bP (i:=0) nd_3 rfl rfl),aP,by exact (jW (aq rl hr.m (aa (pv 0) ae)) (jd (bZ op_ge (pv 0) af (ay _))))⟩)) false)))
(ak (ar bV))
aA)))))
(ak (ar (bZ (keqD K rfl hr.units) (aq qS hr.m (aa (pv 0) (aa (pv 2) ae))) (pv 2) (ay _)))))),?_⟩
  have lt:ts.length=ps.length:=Paired.length hps
  refine ⟨_,rfl,_,true,.lst hl,rfl,_,rfl,br ?_⟩
  refine ⟨_,rfl,l,rfl,⟨_,SqL.of hl⟩,gd (xs:=ts) (λi σ H'=>∃ x3:Option V,σ=[some (.int P),some (.int L),some (.ref l),x3]/\oS H H') ?_ ?_ ?_ ?_⟩
  ·exact ⟨none,rfl,oS.refl _⟩
  ·rintro i σ H' _ ⟨x3,rfl,sm⟩
   exact SqL.of (sm _ _ hl)
  ·rintro i v σ H1 hx ⟨x3,rfl,sm⟩
   obtain ⟨p,ep,t,k,u,rfl,h1,h2,h3⟩:=hps.at_ hx
   have mp:p ∈ ps:=mem_of_getElem? ep
   obtain ⟨op,zp⟩:=hok.1 p mp
   obtain ⟨pl,pl10,pn⟩:=hL p mp
   have h1:=sm _ _ h1
   have h2:=sm _ _ h2
   have h3:=h3.same sm
   obtain ⟨th,nv⟩:=h3.thing (K:=K) op zp
   refine ⟨_,rfl,_,true,.tup h1,rfl,_,rfl,br ?_⟩
   refine ⟨_,rfl,t,_,rfl,.inr (SqT.of h1),rfl,_,rfl,iteNS rfl ?_⟩
   refine ⟨_,rfl,t,_,_,_,rfl,rfl,SqT.of h1,rfl,_,true,.tup h2,rfl,_,rfl,br ?_⟩
   refine ⟨_,rfl,t,_,_,_,rfl,rfl,SqT.of h1,rfl,k,_,rfl,.inr (SqT.of h2),_,rfl,rfl,_,rfl,iteNS (by rw [length_map,pl]) ?_⟩
   refine ⟨_,rfl,_,rfl,t,_,_,_,rfl,rfl,SqT.of h1,rfl,P,u,rfl,hP,th,λH3 s3=>?_⟩
   rw [nv]
   refine ⟨_,rfl,br ?_⟩
   have h1:=s3 _ _ h1
   have h2:=s3 _ _ h2
   refine ⟨_,rfl,t,_,_,_,rfl,rfl,SqT.of h1,rfl,k,rfl,⟨_,SqT.of h2⟩,comp_tup (v1 λ_=>.bl true) rfl (SqT.of h2) (by rw [length_map,sizeLine_eq]; omega) (λi x H4 R hx4 sm4 hR=>?_) (λacc4 H4 hacc4 sm4 hl4=>?_)⟩
   ·obtain ⟨z,hz,rfl⟩:=cW hx4
    have z0:0<=z:=pn z (mem_of_getElem? hz)
    refine ⟨_,rfl,.int z,_,true,false,rfl,.int z,rfl,rfl,_,rfl,bF ⟨_,rfl,_,_,rfl,rfl,?_⟩⟩
    show R (.bl (decide (0<=z))) H4
    rw [decide_eq_true z0]
    exact hR
   ·rw [map_v1] at hl4
    have hb4:(p.1.map λ_=>V.bl true)=(p.1.map λ_=>true).map V.bl:=by rw [map_map]; rfl
    rw [hb4] at hl4
    refine ⟨acc4,_,rfl,bJ (SqL.of hl4),_,rfl,?_⟩
    rw [all_tt]
    exact br ⟨_,rfl,(sm.trans s3).trans sm4⟩
  ·rintro σ H1 ⟨x3,rfl,sm⟩
   refine ⟨_,rfl,_,rfl,l,P,ts,ps,rfl,hP,sm _ _ hl,hps.mono (λt xs e=>sm _ _ e),hn,hok,λd rs out H2 nd s2 hd po is=>?_⟩
   rw [fD is hsum] at po
   refine ⟨_,rfl,dS P ps,dS P ps,gc hd po,gc (s2 _ _ (sm _ _ hl)) (hps.mono (λt xs e=>s2 _ _ (sm _ _ e))),bI _ _,bI _ _,?_⟩
   rw [eqv_dS]
   exact q H2 (sm.trans s2)
def kL (CG CN:Addr):Sp:=λvs H Q E=>∃ (g dx:Addr) (v:V) (L:Int),vs=[.ref g,v,.int L]/\H g=some (.ins CG dx [])/\(¬ (1<=L/\L<=4)->E (.ref CN) none H)/\
 (1<=L->L<=4->Q .non (upd (upd H g (.ins CG dx [("kind",v)])) g (.ins CG dx [("kind",v),("width",.int L)])))
def nF (CF CR CG CN:Addr):Sp:=λvs H Q E=>∃ P L:Int,vs=[.int P,.int L]/\oU P/\(¬ (1<=L/\L<=4)->∀ H',oS H H'->E (.ref CN) none H')/\
 (1<=L->L<=4->∀ (g x:Addr) (H':Hp),oS H H'->pC CF CR H' x P->cH CG H' g x L->Q (.ref g) H')
theorem je:oW ["self", "numbers", "letters"] ["self", "numbers", "letters"] (am bt):=.i
theorem ok_ginit {f CG qW:Addr} {fd:FuncData} {tk:Tok} (F:Fun K "__init__" "Ring.__init__" bt f fd) (cl:Cls K CG) (nK:pQ K CG "kind") (nW:pQ K CG "width") (cMost:mg "MOST_LETTERS"=some (.int 4 tk)) (ANoRing:mg "NoRing"=some (.ref qW)) (xc:XCl K qW) :
  oY P w K mg base (CXE P w) 2 f fd ["self", "numbers", "letters"] (kL CG qW):=by
 refine F.okX je (λvs H Q E h=>?_) (λcdv A outer s H vs Q E hr h=>?_)
 ·obtain ⟨g,dx,v,L,rfl,_⟩:=h
  rfl
 ·obtain ⟨g,dx,v,L,rfl,hg,qn,qy⟩:=h
  refine ⟨_,(ag (aH (PW.pt (fH (aw jC (pv 2) af (ay _)) (ft (aw dZ (pv 2) (jQ (v:=.int 4) rfl cMost ⟨_,rfl⟩) (ay _)))))
(ak (kM xc.ek ANoRing (aa pe_str ae)))
aA)
(ag (ps_fld (pv 0) (pv 1) rfl)
(ak (ps_fld (pv 0) (pv 2) rfl)))),?_⟩
  have bad:¬ (1<=L/\L<=4)->E (.ref qW) none H:=qn
  refine ⟨_,rfl,_,_,rfl,rfl,_,rfl,bu (λh=>?_) (λh=>?_)⟩
  ·have h1:L<1:=of_decide_eq_true h
   exact bF ⟨(by show 1<=sizeLine; decide),bad (by omega)⟩
  ·have h1:¬ L<1:=λz=>h (decide_eq_true z)
   refine ⟨_,rfl,_,_,rfl,rfl,_,rfl,bu (λh=>?_) (λh=>?_)⟩
   ·have h4:L > 4:=of_decide_eq_true h
    exact ⟨(by show 1<=sizeLine; decide),bad (by omega)⟩
   ·have h4:¬ L > 4:=λz=>h (decide_eq_true z)
    exact ⟨_,rfl,_,rfl,g,CG,dx,_,rfl,hg,cl,nK,(by decide),_,rfl,_,rfl,g,CG,dx,_,rfl,ac,cl,nW,(by show (1:Nat)<1000; decide),qy (by omega) (by omega)⟩
theorem oJ:oW ["_law_prime_here", "_law_letters"] ["_law_prime_here", "_law_letters"] (am fV):=.i
theorem ok_ring {f CF CR CG qW:Addr} {fd:FuncData} (F:Fun K "_law_ring" "_law_ring" fV f fd) (ui:FnB P w K mg base 4 "_law_numbers" (spNums CF CR)) (yL:MkBX P w K mg base 2 CG "Ring" (kL CG qW)) :
  oY P w K mg base (CXE P w) 5 f fd ["_law_prime_here", "_law_letters"] (nF CF CR CG qW):=by
 refine F.okX oJ (λvs H Q E h=>?_) (λcdv A outer s H vs Q E hr h=>?_)
 ·obtain ⟨P,L,rfl,_⟩:=h
  rfl
 ·obtain ⟨P,L,rfl,hP,qn,qy⟩:=h
  refine ⟨_,(ak (ar (pe_mkX yL hr.m passes_on (aa (aq ui hr.m (aa (pv 0) ae)) (aa (pv 1) ae))))),?_⟩
  refine ⟨_,rfl,P,rfl,hP,λx H1 s1 hN=>⟨_,rfl,λg dx ng ndx ne=>?_⟩⟩
  have s2:oS H1 (upd (upd H1 dx (.own g)) g (.ins CG dx [])):=(oS.new ndx).put ng
  refine ⟨g,dx,.ref x,L,rfl,ac,λhL=>qn hL _ (s1.trans s2),λh1 h4=>⟨rfl,qy h1 h4 g x _ ?_ ?_ ⟨dx,ac⟩⟩⟩
  ·intro c o e
   have e1:=s1 c o e
   have hc:c ≠ g:=ah e1 ng
   rw [ao hc,ao hc,ao hc,ao (ah e1 ndx)]
   exact e1
  ·refine hN.mono λo e=>?_
   have hc:x ≠ g:=ah e ng
   rw [ao hc,ao hc,ao hc,ao (ah e ndx)]
   exact e
theorem acc_sz {P:Int} (hP:oU P) {ps:List aj} (h:∀ p ∈ ps,OkN P p.2/\Sz 103 p.2):∀ i,i<=ps.length->∀ p ∈ acc P (ps.take i),Sz (104*i+103) p.2
 | 0,_,p,hp=>by simp [acc] at hp
 | i+1,hi,p,hp=>by
  have hB:=hP.b
  obtain ⟨q,eq⟩:∃ q,ps[i]? = some q:=⟨_,getElem?_eq_getElem (by omega)⟩
  have ih:=acc_sz hP h i (by omega)
  have okm:∀ q ∈ acc P (ps.take i),OkN P q.2:=dG hB.1 hB.2.2 λq hq=>(h q (mem_of_mem_take hq)).1
  obtain ⟨oq,zq⟩:=h q (mem_of_getElem? eq)
  rw [eX eq] at hp
  rcases cX hp with z | z
  ·rw [z]
   have hw:OkN P ((bn (acc P (ps.take i)) q.1).getD (0,1))/\Sz (104*i+103) ((bn (acc P (ps.take i)) q.1).getD (0,1)):=by
    cases e:bn (acc P (ps.take i)) q.1 with
    | none=>exact ⟨cI hB.1 hB.2.2,⟨Nat.pow_pos (by decide),Nat.one_lt_two_pow (by omega)⟩⟩
    | some y=>exact ⟨okm _ (bo e),ih _ (bo e)⟩
   exact (dC hB.1 hB.2.1 hw.1 oq hw.2 zq (by omega)).1.mono (by omega)
  ·exact (ih p z).mono (by omega)
theorem acc_self {P:Int} {ps:List aj} (hn:(ps.map (·.1)).Nodup) (h:∀ p ∈ ps,OkN P p.2):∀ i,i<=ps.length->acc P (ps.take i)=ps.take i
 | 0,_=>by simp [acc]
 | i+1,hi=>by
  obtain ⟨q,eq⟩:∃ q,ps[i]? = some q:=⟨_,getElem?_eq_getElem (by omega)⟩
  rw [eX eq,acc_self hn h i (by omega)]
  have hv:bn (ps.take i) q.1=none:=by
   apply qg.mpr
   intro hm
   have e1:ps.take (i+1)=ps.take i++[q]:=by rw [take_add_one,eq]; rfl
   have hs:((ps.take (i+1)).map (·.1)).Nodup:=(List.Sublist.map _ (take_sublist _ _)).nodup hn
   rw [e1,map_append,List.nodup_append] at hs
   exact hs.2.2 q.1 hm q.1 (by simp) rfl
  unfold bN cR
  rw [hv]
  show ps.take i++[(q.1,aS P (0,1) q.2)]=ps.take (i+1)
  rw [cf (h q (mem_of_getElem? eq)),take_add_one,eq]
  rfl
theorem eV {P:Int} {ps:List aj} (hn:(ps.map (·.1)).Nodup) (h:∀ p ∈ ps,OkN P p.2):acc P ps=ps:=by
 have z:=acc_self hn h ps.length (Nat.le_refl _)
 rw [take_length] at z
 exact z
theorem fZ {P:Int} {ps:List aj}:∀ p ∈ acc P ps,∃ q ∈ ps,q.1=p.1:=by
 unfold acc
 have go:∀ (rs m:List aj),(∀ r ∈ rs,r ∈ ps)->(∀ p ∈ m,∃ q ∈ ps,q.1=p.1)->∀ p ∈ rs.foldl (bN P) m,∃ q ∈ ps,q.1=p.1:=by
  intro rs
  induction rs with
  | nil=>intro m _ h; exact h
  | cons r rs ih=>
   intro m hr hm
   refine ih _ (λq hq=>hr q (by simp [hq])) λp hp=>?_
   rcases cX hp with z | z
   ·exact ⟨r,hr r (by simp),by rw [z]⟩
   ·exact hm p z
 exact go ps [] (λr hr=>hr) (λp hp=>nomatch hp)
def co (m:List aj) (k:List Int):Int × Int:=(bn m k).getD (0,1)
theorem co_nil (k:List Int):co [] k=(0,1):=rfl
theorem co_pos {p:aj} {r:List aj} {k:List Int} (e:p.1=k):co (p::r) k=p.2:=by unfold co; rw [bp e]; rfl
theorem co_neg {p:aj} {r:List aj} {k:List Int} (e:¬ p.1=k):co (p::r) k=co r k:=by unfold co; rw [aU e]
theorem co_of {m:List aj} (hn:(m.map (·.1)).Nodup) {p:aj} (h:p ∈ m):co m p.1=p.2:=by
 unfold co
 rw [gH hn (show (p.1,p.2) ∈ m from h)]
 rfl
theorem co_none {m:List aj} {k:List Int} (h:¬ k ∈ m.map (·.1)):co m k=(0,1):=by
 unfold co
 rw [qg.mpr h]
 rfl
theorem cZ (m:List aj) (k:List Int):(k,co m k) ∈ m\/(co m k=(0,1)/\¬ k ∈ m.map (·.1)):=by
 unfold co
 cases e:bn m k with
 | none=>exact .inr ⟨rfl,qg.mp e⟩
 | some y=>exact .inl (bo e)
theorem jt {P:Int} (hB:0<=P) (h1:P ≠ 1) {m:List aj} (h:∀ p ∈ m,OkN P p.2) (k:List Int):OkN P (co m k):=by
 rcases cZ m k with z | ⟨z,_⟩
 ·exact h _ z
 ·rw [z]; exact cI hB h1
theorem aval_put (m:List aj) (k:List Int) (x:Int × Int):bn (cR m k x) k=some x:=by
 unfold cR
 split
 ·rename_i hs
  induction m with
  | nil=>cases hs
  | cons p r ih=>
   rw [map_cons]
   by_cases e:p.1=k
   ·rw [if_pos e]; exact bp e
   ·rw [if_neg e,aU e]
    exact ih (by rw [aU e] at hs; exact hs)
 ·rename_i hs
  have hn:bn m k=none:=by
   cases e:bn m k with
   | none=>rfl
   | some y=>rw [e] at hs; exact absurd rfl hs
  clear hs
  induction m with
  | nil=>exact bp rfl
  | cons p r ih=>
   by_cases e:p.1=k
   ·rw [bp e] at hn; cases hn
   ·rw [List.cons_append,aU e]
    rw [aU e] at hn
    exact ih hn
theorem jA (m:List aj) {k k':List Int} (h:k' ≠ k) (x:Int × Int):bn (cR m k x) k'=bn m k':=by
 unfold cR
 split
 ·rename_i hs
  clear hs
  induction m with
  | nil=>rfl
  | cons p r ih=>
   rw [map_cons]
   by_cases e:p.1=k
   ·have e':¬ p.1=k':=λz=>h (z.symm.trans e)
    rw [if_pos e,aU (p:=(p.1,x)) e',aU e']
    exact ih
   ·rw [if_neg e]
    by_cases e':p.1=k'
    ·rw [bp e',bp e']
    ·rw [aU e',aU e']
     exact ih
 ·induction m with
  | nil=>exact aU (p:=(k,x)) (λz=>h z.symm)
  | cons p r ih=>
   rename_i hs
   rw [List.cons_append]
   by_cases e':p.1=k'
   ·rw [bp e',bp e']
   ·rw [aU e',aU e']
    apply ih
    intro z
    apply hs
    by_cases e:p.1=k
    ·rw [bp e]; rfl
    ·rw [aU e]; exact z
theorem dM {P:Int} {x:Int × Int} (h:OkN P x):aS P x (0,1)=x:=by
 unfold aS
 rcases h with ⟨h0,hd,hg⟩ | ⟨h0,a,b,c⟩
 ·rw [if_pos h0]
  show nrm (x.1*1+0*x.2) (x.2*1)=x
  rw [Int.zero_mul,Int.add_zero,Int.mul_one,Int.mul_one]
  exact (eQ x.1 x.2 hd).mpr hg
 ·rw [if_neg h0]
  show ((x.1+0) % P,1)=x
  rw [Int.add_zero,Int.emod_eq_of_lt a b]
  exact Prod.ext rfl c.symm
theorem co_fold {P:Int} (hB:0<=P) (h1:P ≠ 1):∀ (b m:List aj) (k:List Int),(b.map (·.1)).Nodup->(∀ p ∈ b,OkN P p.2)->(∀ p ∈ m,OkN P p.2)->co (b.foldl (bN P) m) k=aS P (co m k) (co b k)
 | [],m,k,_,_,hm=>by
  rw [co_nil,dM (jt hB h1 hm k)]
  rfl
 | p::r,m,k,hn,hb,hm=>by
  have hn':(p.1::r.map (·.1)).Nodup:=hn
  obtain ⟨n1,n2⟩:=List.nodup_cons.mp hn'
  have hm':∀ q ∈ bN P m p,OkN P q.2:=λq hq=>by
   rcases cX hq with z | z
   ·rw [z]; exact iV hB (jt hB h1 hm p.1) (hb p (by simp))
   ·exact hm q z
  rw [List.foldl_cons,co_fold hB h1 r (bN P m p) k n2 (λq hq=>hb q (by simp [hq])) hm']
  by_cases e:p.1=k
  ·subst e
   rw [co_pos rfl,co_none n1]
   have e2:co (bN P m p) p.1=aS P (co m p.1) p.2:=by
    unfold bN
    show ((bn (cR m p.1 _) p.1).getD (0,1))=_
    rw [aval_put]
    rfl
   rw [e2,dM (iV hB (jt hB h1 hm p.1) (hb p (by simp)))]
  ·rw [co_neg e]
   have e2:co (bN P m p) k=co m k:=by
    unfold bN
    show ((bn (cR m p.1 _) k).getD (0,1))=_
    rw [jA _ (λz=>e z.symm)]
    rfl
   rw [e2]
theorem kz {P:Int} (hB:0<=P) (h1:P ≠ 1) {a b:List aj} (na:(a.map (·.1)).Nodup) (nb:(b.map (·.1)).Nodup) (ha:∀ p ∈ a,OkN P p.2) (hb:∀ p ∈ b,OkN P p.2) (k:List Int):co (acc P (a++b)) k=aS P (co a k) (co b k):=by
 have e:acc P (a++b)=b.foldl (bN P) (acc P a):=by unfold acc; rw [foldl_append]
 rw [e,eV na ha]
 exact co_fold hB h1 b a k nb hb ha
def jx (a b:aj):Prop:=klt (hk b) (hk a)=true
theorem fB {a:List aj} (h:a.Pairwise jx):(a.map (·.1)).Nodup:=by
 rw [List.Nodup,pairwise_map]
 refine h.imp λ{x y} z e=>?_
 unfold jx at z
 have e2:hk x=hk y:=by unfold hk; rw [e]
 rw [e2,nJ] at z
 cases z
theorem sum_ext {a b:List aj} (fa:a.Pairwise jx) (fb:b.Pairwise jx) (za:∀ p ∈ a,nz p=true) (zb:∀ p ∈ b,nz p=true) (h:∀ k,co a k=co b k):a=b:=by
 have na:=fB fa
 have nb:=fB fb
 have sub:∀ {a b:List aj},(a.map (·.1)).Nodup->(∀ p ∈ a,nz p=true)->(∀ k,co a k=co b k)->∀ p ∈ a,p ∈ b:=λ{a b} na za h p hp=>by
  have e:=co_of na hp
  rw [h] at e
  rcases cZ b p.1 with z | ⟨z,_⟩
  ·rw [e] at z; exact z
  ·rw [z] at e
   have:=za p hp
   unfold nz at this
   exact absurd e.symm (of_decide_eq_true this)
 have na':a.Nodup:=List.Pairwise.of_map (·.1) (λ_ _ h z=>h (by rw [z])) na
 have nb':b.Nodup:=List.Pairwise.of_map (·.1) (λ_ _ h z=>h (by rw [z])) nb
 have pm:a.Perm b:=(List.perm_ext_iff_of_nodup na' nb').mpr λp=>⟨λhp=>sub na za h p hp,λhp=>sub nb zb (λk=>(h k).symm) p hp⟩
 exact fY (lt:=λx y=>klt (hk x) (hk y)) (λ_=>nJ _) (λ_ _ _=>ja) pm fa fb
theorem o7.nz {P:Int} {ps out:List aj} (h:o7 P ps out):∀ p ∈ out,_root_.K.nz p=true:=λp hp=>(List.mem_filter.mp (h.1.mem_iff.mp hp)).2
theorem o7.mem {P:Int} {ps out:List aj} (h:o7 P ps out):∀ p ∈ out,p ∈ acc P ps:=λp hp=>(List.mem_filter.mp (h.1.mem_iff.mp hp)).1
theorem o7.co {P:Int} {ps out:List aj} (h:o7 P ps out) (k:List Int):_root_.K.co out k=_root_.K.co (acc P ps) k:=by
 have na:=eS P ps
 have no:=fB h.2
 rcases cZ out k with z | ⟨z,hk⟩
 ·have e:=co_of na (h.mem _ z)
  exact e.symm
 ·rw [z]
  rcases cZ (acc P ps) k with z' | ⟨z',_⟩
  ·by_cases hz:_root_.K.nz (k,_root_.K.co (acc P ps) k)=true
   ·have:(k,_root_.K.co (acc P ps) k) ∈ out:=h.1.mem_iff.mpr (List.mem_filter.mpr ⟨z',hz⟩)
    exact absurd (List.mem_map.mpr ⟨_,this,rfl⟩) hk
   ·unfold _root_.K.nz at hz
    have:_root_.K.co (acc P ps) k=(0,1):=Decidable.of_not_not λy=>hz (decide_eq_true y)
    exact this.symm
  ·exact z'.symm
theorem isSum_is {P:Int} {ps out a:List aj} (h:o7 P ps out) (fa:a.Pairwise jx) (za:∀ p ∈ a,_root_.K.nz p=true) (e:∀ k,_root_.K.co (acc P ps) k=_root_.K.co a k):out=a:=
 sum_ext h.2 fa h.nz za λk=>(h.co k).trans (e k)
def o8 (P L:Int) (z:Nat) (ps:List aj):Prop:=ps.Pairwise jx/\∀ p ∈ ps,OkN P p.2/\Sz z p.2/\nz p=true/\(p.1.length:Int)=L/\∀ e ∈ p.1,0<=e
theorem o8.nodup {P L:Int} {z:Nat} {ps:List aj} (h:o8 P L z ps):(ps.map (·.1)).Nodup:=fB h.1
theorem o8.ok {P L:Int} {z:Nat} {ps:List aj} (h:o8 P L z ps):∀ p ∈ ps,OkN P p.2:=λp hp=>(h.2 p hp).1
theorem o8.self {P L:Int} {z:Nat} {ps:List aj} (h:o8 P L z ps):o7 P ps ps:=by
 refine ⟨?_,h.1⟩
 rw [eV h.nodup h.ok,List.filter_eq_self.mpr λq hq=>(h.2 q hq).2.2.1]
theorem fP {P:Int} {ps:List aj} (hn:(ps.map (·.1)).Nodup) (h:∀ p ∈ ps,OkN P p.2/\Sz 2900 p.2):bO P ps:=by
 refine ⟨h,λi q hq=>?_⟩
 have sub:((ps.take i).map (·.1)).Nodup:=(List.Sublist.map _ (take_sublist _ _)).nodup hn
 rw [eV sub λq hq=>(h q (mem_of_mem_take hq)).1] at hq
 exact (h q (mem_of_mem_take hq)).2
theorem o8.sumOk {P L:Int} {z:Nat} {ps:List aj} (h:o8 P L z ps) (hz:z<=2900):bO P ps:=fP h.nodup λp hp=>⟨(h.2 p hp).1,(h.2 p hp).2.1.mono hz⟩
theorem sz_01' {z:Nat} (hz:1<=z):Sz z (0,1):=⟨Nat.pow_pos (by decide),Nat.one_lt_two_pow (by omega)⟩
theorem kO {P:Int} (hP:oU P) {a b:List aj} {x y z:Nat} (na:(a.map (·.1)).Nodup) (nb:(b.map (·.1)).Nodup) (ha:∀ p ∈ a,OkN P p.2/\Sz x p.2) (hb:∀ p ∈ b,OkN P p.2/\Sz y p.2) (hx:x<=z) (hy:y<=z) (h14:14<=x) (hy1:1<=y) (hz:∀ k u v,(k,u) ∈ a->(k,v) ∈ b->Sz z (aS P u v)):∀ p ∈ acc P (a++b),Sz z p.2:=by
 have hB:=hP.b
 intro p hp
 have e:=co_of (eS P (a++b)) hp
 rw [kz hB.1 hB.2.2 na nb (λp hp=>(ha p hp).1) (λp hp=>(hb p hp).1)] at e
 rw [<- e]
 rcases cZ a p.1 with c1 | ⟨c1,_⟩
 ·rcases cZ b p.1 with c2 | ⟨c2,_⟩
  ·exact hz _ _ _ c1 c2
  ·rw [c2,dM (ha _ c1).1]
   exact (ha _ c1).2.mono hx
 ·rw [c1]
  rcases cZ b p.1 with c2 | ⟨c2,_⟩
  ·rw [cf (hb _ c2).1]
   exact (hb _ c2).2.mono hy
  ·rw [c2,cf (cI hB.1 hB.2.2)]
   exact sz_01' (by omega)
theorem jj {P:Int} (hP:oU P) {a b:List aj} {x y:Nat} (na:(a.map (·.1)).Nodup) (nb:(b.map (·.1)).Nodup) (ha:∀ p ∈ a,OkN P p.2/\Sz x p.2) (hb:∀ p ∈ b,OkN P p.2/\Sz y p.2) (hx:x<=2900) (hy:y<=2900) (h14:14<=x) (hy1:1<=y) (hz:∀ k u v,(k,u) ∈ a->(k,v) ∈ b->Sz 2900 (aS P u v)):bO P (a++b):=by
 refine ⟨λp hp=>?_,λi p hp=>?_⟩
 ·rcases List.mem_append.mp hp with z | z
  ·exact ⟨(ha p z).1,(ha p z).2.mono hx⟩
  ·exact ⟨(hb p z).1,(hb p z).2.mono hy⟩
 ·rw [List.take_append] at hp
  have na':((a.take i).map (·.1)).Nodup:=(List.Sublist.map _ (take_sublist _ _)).nodup na
  have nb':((b.take (i-a.length)).map (·.1)).Nodup:=(List.Sublist.map _ (take_sublist _ _)).nodup nb
  exact kO hP na' nb' (λp hp=>ha p (mem_of_mem_take hp)) (λp hp=>hb p (mem_of_mem_take hp)) hx hy h14 hy1 (λk u v h1 h2=>hz k u v (mem_of_mem_take h1) (mem_of_mem_take h2)) p hp
theorem eP {P L:Int} (hP:oU P) {a b out:List aj} {x y:Nat} (ca:o8 P L x a) (cb:o8 P L y b) (h14:14<=x) (hs:o7 P (a++b) out):o8 P L (x+y+1) out/\out.length<=a.length+b.length:=by
 have hB:=hP.b
 have okm:∀ q ∈ acc P (a++b),OkN P q.2:=dG hB.1 hB.2.2 λq hq=>by
  rcases List.mem_append.mp hq with z | z
  ·exact ca.ok q z
  ·exact cb.ok q z
 have szm:=kO (z:=x+y+1) hP ca.nodup cb.nodup (λp hp=>⟨(ca.2 p hp).1,(ca.2 p hp).2.1⟩) (λp hp=>⟨(cb.2 p hp).1,(cb.2 p hp).2.1.mono (Nat.le_add_right y 1)⟩) (by omega) (by omega) h14 (by omega) (λk u v h1 h2=>(dC hB.1 hB.2.1 (ca.ok _ h1) (cb.ok _ h2) (ca.2 _ h1).2.1 (cb.2 _ h2).2.1 h14).1)
 refine ⟨⟨hs.2,λq hq=>⟨okm q (hs.mem q hq),szm q (hs.mem q hq),hs.nz q hq,?_⟩⟩,?_⟩
 ·obtain ⟨r,hr,e⟩:=fZ q (hs.mem q hq)
  rw [<- e]
  rcases List.mem_append.mp hr with z | z
  ·exact ⟨(ca.2 r z).2.2.2.1,(ca.2 r z).2.2.2.2⟩
  ·exact ⟨(cb.2 r z).2.2.2.1,(cb.2 r z).2.2.2.2⟩
 ·have e1:=hs.1.length_eq
  have e2:=length_filter_le _root_.K.nz (acc P (a++b))
  have e3:=eZ P (a++b)
  rw [length_append] at e3
  omega
theorem ii:oW ["self", "one", "other"] ["self", "one", "other"] (am aZ):=.i
theorem ok_ftimes {f CF qP:Addr} {fd:FuncData} (F:Fun K "times" "Fractions.times" aZ f fd) (vp:gZ P w K mg base 2 CF "of" [] (dU qP)):oY P w K mg base CX0 3 f fd ["self", "one", "other"] (j3 CF λa b=>(a.1*b.1,a.2*b.2)):=by
 refine F.o ii λ_ _ _ _ H _ Q _ hr h=>?_
 ·obtain ⟨x,dx,s,t,a,b,rfl,hx,hs,ht,ha,hb,sa,sb,q⟩:=h
  refine ⟨_,(ak (ar (eE vp hr.m dO (pv 0) (aa (ap bE (aB (az K rfl) (pv 1) af (λ_ _=>rfl)) (aB (az K rfl) (pv 2) af (λ_ _=>rfl))) (aa (ap bE (aB (az K rfl) (pv 1) af (λ_ _=>rfl)) (aB (az K rfl) (pv 2) af (λ_ _=>rfl))) ae))))),?_⟩
  refine ⟨_,rfl,x,dx,[],rfl,hx,rfl,_,rfl,s,_,_,_,rfl,rfl,SqT.of hs,rfl,_,rfl,t,_,_,_,rfl,rfl,SqT.of ht,rfl,_,_,rfl,rfl,dQ sa.1 sb.1,?_⟩
  refine ⟨_,rfl,s,_,_,_,rfl,rfl,SqT.of hs,rfl,_,rfl,t,_,_,_,rfl,rfl,SqT.of ht,rfl,_,_,rfl,rfl,dQ sa.2 sb.2,_,_,_,rfl,λz=>absurd z (bC ha hb),λ_=>⟨oP sa.2 sb.2,q⟩⟩
theorem kP:oW ["self", "one", "other"] ["self", "one", "other"] (am bG):=.i
theorem ok_rtimes {f CR:Addr} {fd:FuncData} (F:Fun K "times" "Rests.times" bG f fd) (cl:Cls K CR) (nM:pQ K CR "modulus"):oY P w K mg base CX0 1 f fd ["self", "one", "other"] (kh CR (· * ·)):=by
 refine F.o kP λ_ _ _ _ H _ Q _ hr h=>?_
 ·obtain ⟨x,dx,p,a,b,rfl,hx,hp,hp9,a0,a1,b0,b1,q⟩:=h
  refine ⟨_,(ak (ar (ap bA (ap bx (pv 1) (pv 2)) (hW (pv 0) rfl)))),?_⟩
  exact ⟨_,rfl,_,rfl,_,_,rfl,rfl,.inl ⟨by omega,by omega⟩,_,rfl,x,CR,dx,_,_,rfl,hx,cl,nM,rfl,_,_,rfl,rfl,hp,q⟩
theorem ok_zero1 {P:Int} {x:Int × Int} (h:OkN P x) (h0:x.1=0):x=(0,1):=by
 rcases h with ⟨_,hd,hg⟩ | ⟨_,_,_,c⟩
 ·rw [h0,Int.zero_gcd] at hg
  exact Prod.ext h0 (show x.2=1 by omega)
 ·exact Prod.ext h0 c
theorem mul_nz {P:Int} {x y:Int × Int} (hP:oU P) (ox:OkN P x) (oy:OkN P y) (hx:x ≠ (0,1)) (hy:y ≠ (0,1)):du P x y ≠ (0,1):=by
 have x0:x.1 ≠ 0:=λz=>hx (ok_zero1 ox z)
 have y0:y.1 ≠ 0:=λz=>hy (ok_zero1 oy z)
 intro e
 unfold du at e
 by_cases h:P=0
 ·rw [if_pos h] at e
  have d:=bC ox.den oy.den
  have e2:=dv (x.1*y.1) (x.2*y.2) d
  rw [e,Int.zero_mul,Int.mul_one] at e2
  rcases Int.mul_eq_zero.mp e2.symm with z | z
  ·exact x0 z
  ·exact y0 z
 ·rw [if_neg h] at e
  rcases hP with z | ⟨h2,h9,hp⟩
  ·exact absurd z h
  rcases ox with ⟨z,_⟩ | ⟨_,x1,x2,_⟩
  ·exact absurd z h
  rcases oy with ⟨z,_⟩ | ⟨_,y1,y2,_⟩
  ·exact absurd z h
  have e1:(x.1*y.1) % P=0:=congrArg Prod.fst e
  have hd:P ∣ x.1*y.1:=Int.dvd_of_emod_eq_zero e1
  obtain ⟨j,ej⟩:=idvd (cop_of h2 h9 hp (by omega) x2) hd
  rcases Int.lt_trichotomy j 0 with z | z | z
  ·have:=Int.mul_le_mul_of_nonneg_left (show j <= -1 by omega) (show 0<=P by omega)
   omega
  ·rw [z,Int.mul_zero] at ej
   omega
  ·have:=Int.mul_le_mul_of_nonneg_left (show 1<=j by omega) (show 0<=P by omega)
   omega
theorem jT {P:Int} (hP:0<=P) (h1:P ≠ 1):OkN P (1,1):=by
 by_cases h:P=0
 ·exact .inl ⟨h,by decide,by decide⟩
 ·exact .inr ⟨h,by decide,by show (1:Int)<P; omega,rfl⟩
theorem lL {P:Int} {x:Int × Int} (ox:OkN P x):du P x (cq P (1,1))=cq P x:=by
 unfold du cq
 by_cases h:P=0
 ·rw [if_pos h,if_pos h,if_pos h]
  show nrm (x.1*(0-1)) (x.2*1)=(0-x.1,x.2)
  rcases ox with ⟨_,hd,hg⟩ | ⟨z,_⟩
  ·rw [Int.mul_one,show x.1*(0-1)=0-x.1 by omega]
   refine (eQ _ _ hd).mpr ?_
   rw [show 0-x.1 = -x.1 by omega,Int.neg_gcd]
   exact hg
  ·exact absurd h z
 ·rw [if_neg h,if_neg h,if_neg h]
  show ((x.1*((0-1) % P)) % P,(1:Int))=((0-x.1) % P,1)
  rw [Int.mul_emod,Int.emod_emod_of_dvd _ (Int.dvd_refl P),<- Int.mul_emod,show x.1*(0-1)=0-x.1 by omega]
theorem neg_zero {P:Int}:cq P (0,1)=(0,1):=by
 unfold cq
 split
 ·rfl
 ·show ((0-0) % P,(1:Int))=(0,1)
  rw [Int.sub_self,Int.zero_emod]
theorem neg_ne {P:Int} (hP:oU P):cq P (1,1) ≠ (0,1):=by
 have hB:=hP.b
 intro e
 have h:=ow (P:=P) (x:=(1,1)) (y:=(1,1))
 rw [e,dM (jT hB.1 hB.2.2),sub_self hB.1 (jT hB.1 hB.2.2)] at h
 exact absurd h (by decide)
theorem oF {P:Int} {x:Int × Int} {z:Nat} (hP:oU P) (h:Sz z x) (hz:14<=z):Sz z (cq P x):=by
 have hb:=hP.b
 unfold cq
 split
 ·exact ⟨by show (0-x.1).natAbs<_; rw [show (0-x.1).natAbs=x.1.natAbs by omega]; exact h.1,h.2⟩
 ·exact kF hb.1 ‹_› hb.2.1 hz
def scl (P:Int) (n:Int × Int) (ps:List aj):List aj:=ps.map λp=>(p.1,du P p.2 n)
theorem scl_len (P:Int) (n:Int × Int) (ps:List aj):(scl P n ps).length=ps.length:=length_map _
theorem nZ {P:Int} {n:Int × Int} {ps:List aj} {q:aj} (h:q ∈ scl P n ps):∃ p ∈ ps,q=(p.1,du P p.2 n):=by
 obtain ⟨p,hp,e⟩:=List.mem_map.mp h
 exact ⟨p,hp,e.symm⟩
theorem scl_fall {P:Int} {n:Int × Int} {ps:List aj} (h:ps.Pairwise jx):(scl P n ps).Pairwise jx:=by
 unfold scl
 rw [pairwise_map]
 exact h.imp λz=>z
theorem scl_ok {P L:Int} (hP:oU P) {n:Int × Int} {ps:List aj} {z y:Nat} (c:o8 P L z ps) (on:OkN P n) (sn:Sz y n) (hz:14<=z):∀ p ∈ scl P n ps,OkN P p.2/\Sz (z+y+1) p.2:=λq hq=>by
 have hB:=hP.b
 obtain ⟨p,hp,rfl⟩:=nZ hq
 exact ⟨nC hB.1 (c.ok p hp) on,(dC hB.1 hB.2.1 (c.ok p hp) on (c.2 p hp).2.1 sn hz).2.2⟩
theorem canon_scl {P L:Int} (hP:oU P) {n:Int × Int} {ps:List aj} {z y:Nat} (c:o8 P L z ps) (on:OkN P n) (sn:Sz y n) (hz:14<=z) (h0:n ≠ (0,1)):o8 P L (z+y+1) (scl P n ps):=by
 refine ⟨scl_fall c.1,λq hq=>⟨(scl_ok hP c on sn hz q hq).1,(scl_ok hP c on sn hz q hq).2,?_⟩⟩
 obtain ⟨p,hp,rfl⟩:=nZ hq
 refine ⟨decide_eq_true (mul_nz hP (c.ok p hp) on ?_ h0),(c.2 p hp).2.2.2⟩
 have:=(c.2 p hp).2.2.1
 unfold nz at this
 exact of_decide_eq_true this
theorem gI {P L:Int} (hP:oU P) {ps:List aj} {z:Nat} (c:o8 P L z ps) (hz:14<=z):o8 P L z (scl P (cq P (1,1)) ps):=by
 have hB:=hP.b
 have s1:Sz 14 ((1,1):Int × Int):=⟨by decide,by decide⟩
 have c':=canon_scl hP c (okN_neg hB.1 (jT hB.1 hB.2.2)) (oF hP s1 (Nat.le_refl _)) hz (neg_ne hP)
 refine ⟨c'.1,λq hq=>⟨(c'.2 q hq).1,?_,(c'.2 q hq).2.2⟩⟩
 obtain ⟨p,hp,rfl⟩:=nZ hq
 show Sz z (du P p.2 (cq P (1,1)))
 rw [lL (c.ok p hp)]
 exact oF hP (c.2 p hp).2.1 hz
theorem nh {P:Int} (k:List Int):∀ ps:List aj,(∀ p ∈ ps,OkN P p.2)->co (scl P (cq P (1,1)) ps) k=cq P (co ps k)
 | [],_=>neg_zero.symm
 | p::r,h=>by
  show co ((p.1,du P p.2 (cq P (1,1)))::scl P (cq P (1,1)) r) k=_
  by_cases e:p.1=k
  ·rw [co_pos (p:=(p.1,du P p.2 (cq P (1,1)))) e,co_pos e]
   exact lL (h p (by simp))
  ·rw [co_neg (p:=(p.1,du P p.2 (cq P (1,1)))) e,co_neg e]
   exact nh k r λq hq=>h q (by simp [hq])
theorem sum_back {P L:Int} (hP:oU P) {a b d out:List aj} {x y:Nat} (ca:o8 P L x a) (cb:o8 P L y b) (h14:14<=x) (h14y:14<=y) (hd:o7 P (a++scl P (cq P (1,1)) b) d) (h:o7 P (d++b) out):out=a:=by
 have hB:=hP.b
 have cn:=gI hP cb h14y
 have cd:=(eP hP ca cn h14 hd).1
 refine isSum_is h ca.1 (λp hp=>(ca.2 p hp).2.2.1) λk=>?_
 rw [kz hB.1 hB.2.2 cd.nodup cb.nodup cd.ok cb.ok,hd.co,kz hB.1 hB.2.2 ca.nodup cn.nodup ca.ok cn.ok,nh k b cb.ok,ow]
 exact add_sub hB.1 (jt hB.1 hB.2.2 ca.ok k) (jt hB.1 hB.2.2 cb.ok k)
theorem sumOk_back {P L:Int} (hP:oU P) {a b d:List aj} {x y:Nat} (ca:o8 P L x a) (cb:o8 P L y b) (h14:14<=x) (h14y:14<=y) (hxy:x+y+1<=2900) (hd:o7 P (a++scl P (cq P (1,1)) b) d):bO P (d++b):=by
 have hB:=hP.b
 have cn:=gI hP cb h14y
 have cd:=(eP hP ca cn h14 hd).1
 refine jj hP cd.nodup cb.nodup (λp hp=>⟨cd.ok p hp,(cd.2 p hp).2.1⟩) (λp hp=>⟨cb.ok p hp,(cb.2 p hp).2.1⟩) hxy (by omega) (by omega) (by omega) λk u v hu hv=>?_
 have e1:co d k=u:=co_of cd.nodup hu
 have e2:co b k=v:=co_of cb.nodup hv
 rw [hd.co,kz hB.1 hB.2.2 ca.nodup cn.nodup ca.ok cn.ok,nh k b cb.ok,ow] at e1
 rw [<- e1,<- e2,add_sub hB.1 (jt hB.1 hB.2.2 ca.ok k) (jt hB.1 hB.2.2 cb.ok k)]
 rcases cZ a k with z | ⟨z,_⟩
 ·exact (ca.2 _ z).2.1.mono (by omega)
 ·rw [z]; exact sz_01' (by omega)
def dD:Sp:=λvs H Q _=>∃ (p:Addr) (P a b:Int) (k:Nat),vs=[.int P,.ref p,.bl false]/\oU P/\H p=some (.lst [.int a,.int b])/\pc a b k/\k<=700000/\
 ∀ (v:V) (x:Int × Int) (a' b':Int) (H':Hp),At P H' v x->OkN P x->(P=0->Sz 2 x)->H' p=some (.lst [.int a',.int b'])->pc a' b' (k+2)->(∀ c o,H c=some o->c ≠ p->H' c=some o)->Q v H'
theorem ok_number0 {f:Addr} {fd:FuncData} (F:Fun K "_law_number" "_law_number" cV f fd) (T:Blt mg) (qO:FnB P w K mg base 1 "_law_take" cw) (rj:FnB P w K mg base 2 "_law_great" jM) (sg:FnB P w K mg base 3 "_law_signed" km) (qV:FnB P w K mg base 1 "_law_low" j0) :
  oY P w K mg base CX0 4 f fd ["_law_prime_here", "_law_bag_here", "_law_great_here"] dD:=by
 refine F.o fW λ_ _ _ _ H _ Q _ hr h=>?_
 ·obtain ⟨p,P,a,b,k,rfl,hP,hp,hb,hk,q⟩:=h
  refine ⟨_,(ag (aH (aw dZ (pv 0) af (ay _))
(ak (ar (aq qO hr.m (aa (pv 1) (aa (pv 0) ae)))))
aA)
(ag (aH (bR (pv 2))
(ak (ar (aq qV hr.m (aa (aq sg hr.m (aa (pv 1) ae)) (aa (pl_max T (aa af (aa (aq rj hr.m (aa (pv 1) ae)) ae))) ae)))))
aA)
(ak (ar (aq qV hr.m (aa (ap bf (aq qO hr.m (aa (pv 1) (aa af ae))) af) (aa (ap aL af (ap bS (aq qO hr.m (aa (pv 1) (aa af ae))) af)) ae))))))),?_⟩
  have k1:∀ o c o',H c=some o'->c ≠ p->(upd H p o) c=some o':=λo c o' e hc=>by rw [ao hc]; exact e
  refine ⟨_,rfl,_,_,rfl,rfl,_,rfl,bu (λh=>?_) (λh=>?_)⟩
  ·have h0:0<P:=of_decide_eq_true h
   have h9:P<=9973:=by rcases hP with z | ⟨_,z,_⟩<;>omega
   refine ⟨_,rfl,_,rfl,p,a,b,P,k,rfl,hp,hb,by omega,h0,aD (by omega) (by omega),λr a1 b1 r0 r1 hb1=>?_⟩
   exact q _ (r,1) a1 b1 _ (.inr ⟨by omega,rfl,rfl⟩) (.inr ⟨by omega,r0,r1,rfl⟩) (λz=>absurd z (by omega)) ac (hb1.mono (by omega)) (k1 _)
  have h0:P=0:=by
   have h1:¬ 0<P:=λz=>h (decide_eq_true z)
   rcases hP with z | ⟨z,_⟩<;>omega
  refine ⟨_,rfl,_,rfl,?_⟩
  refine br ⟨_,rfl,p,a,b,7,k,rfl,hp,hb,by omega,by decide,aD (by decide) (by decide),λr1 a1 b1 r10 r11 hb1=>?_⟩
  refine ⟨_,_,rfl,rfl,?_⟩
  refine ⟨_,rfl,p,a1,b1,8,k+1,rfl,ac,hb1,by omega,by decide,aD (by decide) (by decide),λr2 a2 b2 r20 r21 hb2=>?_⟩
  refine ⟨_,_,rfl,rfl,gm (by decide) (by decide),_,_,rfl,rfl,?_⟩
  rw [cS]
  have hm:(1:Int)<=1+r2.fdiv 7/\1+r2.fdiv 7<4:=by
   rw [Int.fdiv_eq_ediv_of_nonneg _ (by decide)]
   omega
  refine ⟨r1-3,1+r2.fdiv 7,rfl,by omega,aD (by omega) (by omega),λt ht=>?_⟩
  generalize 1+r2.fdiv 7=dd at *
  have pt:p ≠ t:=ah (o:=.lst [.int a2,.int b2]) ac ht
  have hl:=kR (r1-3) dd (by omega)
  refine q _ (nrm (r1-3) dd) a2 b2 _ (.inl ⟨h0,t,rfl,ac⟩) (.inl ⟨h0,bY _ _ (by omega),cD _ _ (by omega)⟩) (λ_=>⟨Nat.lt_of_le_of_lt hl.1 (by show (r1-3).natAbs<4; omega),Nat.lt_of_le_of_lt hl.2 (by show dd.natAbs<4; omega)⟩) (by rw [ao pt,ac]) (hb2.mono (by omega)) λc o e hc=>?_
  rw [ao (ah (k1 _ c o e hc) ht)]
  exact k1 _ c o e hc
def i6:Sp:=λvs H Q _=>∃ (p:Addr) (L M a b:Int) (k:Nat),vs=[.int L,.int M,.ref p]/\1<=L/\L<=4/\0<=M/\M<=1000/\H p=some (.lst [.int a,.int b])/\pc a b k/\k<=100000/\
 ∀ (t:Addr) (es:List Int) (a' b':Int) (H':Hp),(es.length:Int)=L->(∀ e ∈ es,0<=e)->es.sum=M->H' t=some (.tup (es.map V.int))->H' p=some (.lst [.int a',.int b'])->pc a' b' (k+6)->(∀ c o,H c=some o->c ≠ p->H' c=some o)->Q (.ref t) H'
theorem pN:oW ["_law_letters", "_law_many", "_law_bag_here", "_law_found", "_law_left", "_law_letter", "_law_here"] ["_law_letters", "_law_many", "_law_bag_here"] (am dJ):=.i
theorem ok_product {f:Addr} {fd:FuncData} (F:Fun K "_law_product" "_law_product" dJ f fd) (T:Blt mg) (qO:FnB P w K mg base 1 "_law_take" cw):oY P w K mg base CX0 2 f fd ["_law_letters", "_law_many", "_law_bag_here"] i6:=by
 refine F.o pN λ_ _ _ _ H _ Q _ hr h=>?_
 ·obtain ⟨p,L,M,a,b,k,rfl,hL1,hL4,hM0,hM1,hp,hb,hk,q⟩:=h
  refine ⟨_,(ag (au (i:=3) pN.nd rfl (Or.inl rfl) (aI ae))
(ag (au (i:=4) pN.nd rfl (Or.inl rfl) (pv 1))
(ag (bc PassesOwn.never rfl (ba rfl T.range (aa (ap bf (pv 0) af) ae)) (aF (i:=5) pN.nd rfl (Or.inl rfl))
(ag (au (i:=6) pN.nd rfl (Or.inl rfl) (aq qO hr.m (aa (pv 2) (aa (ap aL (pv 4) af) ae))))
(ag (bh (bmA K rfl (pv 3) (aa (pv 6) ae)))
(ak (au (i:=4) pN.nd rfl (Or.inl rfl) (ap bf (pv 4) (pv 6)))))))
(ak (ar (gC K T (ap kn (pv 3) (aI (aa (pv 4) ae))))))))),?_⟩
  refine ⟨Nat.zero_le _,λl hl=>?_⟩
  have pl:p ≠ l:=ah hp hl
  refine ⟨_,rfl,?_⟩
  refine ⟨_,rfl,_,_,rfl,rfl,_,rfl,by omega,by omega,i5 (n:=(L-1).toNat) (λi σ H'=>∃ (es:List Int) (left a b:Int) (x5 x6:Option V),σ=[some (.int L),some (.int M),some (.ref p),some (.ref l),some (.int left),x5,x6]/\es.length=i/\(∀ e ∈ es,0<=e)/\0<=left/\(left<=M/\es.sum+left=M)/\
    H' l=some (.lst (es.map V.int))/\H' p=some (.lst [.int a,.int b])/\pc a b (k+i)/\(∀ c o,H c=some o->c ≠ p->H' c=some o)) ?_ ?_ ?_⟩
  ·refine ⟨[],M,a,b,none,none,rfl,rfl,λe he=>absurd he (by simp),hM0,⟨Int.le_refl _,by simp⟩,ac,(by rw [ao pl]; exact hp),hb,λc o e hc=>?_⟩
   rw [ao (ah e hl)]
   exact e
  ·rintro i σ H2 hi ⟨es,left,a2,b2,x5,x6,rfl,hlen,hnn,hl0,⟨hlM,hsm⟩,hl2,hp2,hb2,kp⟩
   refine ⟨_,rfl,_,rfl,_,_,rfl,rfl,p,a2,b2,_,k+i,rfl,hp2,hb2,by omega,by omega,aD (by omega) (by omega),λr3 a3 b3 r30 r31 hb3=>?_⟩
   have hl3:(upd H2 p (.lst [.int a3,.int b3])) l=some (.lst (es.map V.int)):=by rw [ao pl.symm]; exact hl2
   refine ⟨_,rfl,.inl ⟨rfl,_,SqL.of hl3⟩,_,rfl,l,_,_,rfl,rfl,hl3,gE (by rw [length_map]; omega),?_⟩
   refine ⟨_,rfl,_,rfl,_,_,rfl,rfl,?_⟩
   refine ⟨es++[r3],left-r3,a3,b3,_,_,rfl,by rw [length_append,length_singleton,hlen],λe he=>?_,by omega,⟨by omega,by rw [sum_append]; simp; omega⟩,by rw [ac,map_append]; rfl,by rw [ao pl,ac],by rw [show k+(i+1)=k+i+1 by omega]; exact hb3,λc o e hc=>?_⟩
   ·rcases List.mem_append.mp he with z | z
    ·exact hnn e z
    ·rw [List.mem_singleton.mp z]; exact r30
   ·rw [ao (ah e hl),ao hc]
    exact kp c o e hc
  ·rintro σ H2 ⟨es,left,a2,b2,x5,x6,rfl,hlen,hnn,hl0,⟨hlM,hsm⟩,hl2,hp2,hb2,kp⟩
   refine ⟨_,rfl,_,rfl,(by show 1<=sizeLine; decide),λl1 n1=>?_⟩
   have s1:=oS.new (o:=.lst [.int left]) n1
   have h4:(10:Nat)<=sizeLine:=by decide
   refine ⟨l,l1,_,_,rfl,rfl,s1 _ _ hl2,ac,by rw [length_map,length_singleton]; omega,λl2 n2=>?_⟩
   have s2:=oS.new (o:=.lst (es.map V.int++[.int left])) n2
   refine ⟨l2,_,rfl,SqL.of ac,λt ht=>?_⟩
   have s3:=oS.new (o:=.tup (es.map V.int++[.int left])) ht
   have sm:=(s1.trans s2).trans s3
   refine q t (es++[left]) a2 b2 _ (by rw [length_append,length_singleton]; omega) (λe he=>?_) (by rw [sum_append]; simp; omega) (by rw [ac,map_append]; rfl) (sm _ _ hp2) (hb2.mono (by omega)) (λc o e hc=>sm c o (kp c o e hc))
   rcases List.mem_append.mp he with z | z
   ·exact hnn e z
   ·rw [List.mem_singleton.mp z]; exact hl0
def pA (P:Int) (H:Hp) (v:V) (e:List aj):Prop:=∃ l ts,v=.ref l/\H l=some (.lst ts)/\oV P H ts e
def pM (P:Int) (H:Hp) (v:V) (row:List (List aj)):Prop:=∃ r es,v=.ref r/\H r=some (.lst es)/\Paired (pA P H) es row
theorem al {α β:Type} {R S:α->β->Prop} (h:∀ x y,R x y->S x y):∀ {xs:List α} {ys:List β},Paired R xs ys->Paired S xs ys
 | _,_,.nil=>.nil
 | _,_,.cons q r=>.cons (h _ _ q) (al h r)
theorem aC {α β:Type} {R:α->β->Prop}:∀ {xs:List α} {ys:List β} {i:Nat} {x:α},Paired R xs ys->xs[i]? = some x->∃ y,ys[i]? = some y/\R x y
 | _,_,0,x,.cons q r,e=>by cases e; exact ⟨_,rfl,q⟩
 | _::_,_::_,i+1,x,.cons q r,e=>aC (i:=i) r e
theorem aN {α β:Type} {R:α->β->Prop} {x:α} {y:β} (h:R x y):∀ {xs:List α} {ys:List β},Paired R xs ys->Paired R (xs++[x]) (ys++[y])
 | _,_,.nil=>.cons h .nil
 | _,_,.cons q r=>.cons q (aN h r)
theorem pA.same {P:Int} {H H':Hp} {v:V} {e:List aj} (s:oS H H') (h:pA P H v e):pA P H' v e:=by
 obtain ⟨l,ts,rfl,hl,pr⟩:=h
 exact ⟨l,ts,rfl,s _ _ hl,pr.mono λt xs e=>s _ _ e⟩
theorem pM.same {P:Int} {H H':Hp} {v:V} {row:List (List aj)} (s:oS H H') (h:pM P H v row):pM P H' v row:=by
 obtain ⟨r,es,rfl,hr,pr⟩:=h
 exact ⟨r,es,rfl,s _ _ hr,al (λ_ _=>pA.same s) pr⟩
def KeepB (p:Addr) (H H':Hp):Prop:=(∃ xs,H p=some (.lst xs))/\(∃ ys,H' p=some (.lst ys))/\∀ c o,H c=some o->c ≠ p->H' c=some o
theorem KeepB.put {p:Addr} {H:Hp} {xs ys:List V} (h:H p=some (.lst xs)):KeepB p H (upd H p (.lst ys)):=⟨⟨_,h⟩,⟨_,ac⟩,λc o e hc=>by rw [ao hc]; exact e⟩
def oT (av:List Addr) (H H':Hp):Prop:=(∀ t xs,H t=some (.tup xs)->H' t=some (.tup xs))/\∀ c o,H c=some o->c ∉ av->H' c=some o
theorem oT.of {av:List Addr} {H H':Hp} (s:oS H H'):oT av H H':=⟨λt xs e=>s _ _ e,λc o e _=>s c o e⟩
theorem oT.trans {av:List Addr} {H H1 H2:Hp} (a:oT av H H1) (b:oT av H1 H2):oT av H H2:=⟨λt xs e=>b.1 t xs (a.1 t xs e),λc o e hc=>b.2 c o (a.2 c o e hc) hc⟩
theorem oT.bag {av:List Addr} {p:Addr} {H H':Hp} {xs:List V} (hp:H p=some (.lst xs)) (k:∀ c o,H c=some o->c ≠ p->H' c=some o) (m:p ∈ av):oT av H H':=
 ⟨λt ys e=>k t _ e (bW e hp (by intro z; cases z)),λc o e hc=>k c o e λz=>hc (by rw [z]; exact m)⟩
theorem oT.put {av:List Addr} {r:Addr} {H:Hp} {xs ys:List V} (h:H r=some (.lst xs)) (m:r ∈ av):oT av H (upd H r (.lst ys)):=oT.bag h (λc o e hc=>by rw [ao hc]; exact e) m
def EntA (av:List Addr) (P:Int) (H:Hp) (v:V) (e:List aj):Prop:=∃ l ts,v=.ref l/\l ∉ av/\H l=some (.lst ts)/\oV P H ts e
theorem EntA.keep {av:List Addr} {P:Int} {H H':Hp} {v:V} {e:List aj} (k:oT av H H') (h:EntA av P H v e):EntA av P H' v e:=by
 obtain ⟨l,ts,rfl,lp,hl,pr⟩:=h
 exact ⟨l,ts,rfl,lp,k.2 _ _ hl lp,pr.mono k.1⟩
theorem EntA.ent {av:List Addr} {P:Int} {H:Hp} {v:V} {e:List aj} (h:EntA av P H v e):pA P H v e:=by
 obtain ⟨l,ts,rfl,_,hl,pr⟩:=h
 exact ⟨l,ts,rfl,hl,pr⟩
def oZ (H0:Hp) (r:Addr) (P:Int) (H:Hp) (v:V) (e:List aj):Prop:=∃ l ts,v=.ref l/\H0 l=none/\l ≠ r/\H l=some (.lst ts)/\oV P H ts e
theorem oZ.keep {H0:Hp} {p r:Addr} {o:HO} {P:Int} {H H':Hp} {v:V} {e:List aj} (hp:H0 p=some o) (k:oT [p,r] H H') (h:oZ H0 r P H v e):oZ H0 r P H' v e:=by
 obtain ⟨l,ts,rfl,l0,lr,hl,pr⟩:=h
 have lp:l ≠ p:=λz=>by rw [z,hp] at l0; cases l0
 exact ⟨l,ts,rfl,l0,lr,k.2 _ _ hl (by simp [lp,lr]),pr.mono k.1⟩
theorem oZ.keepA {H0:Hp} {av:List Addr} {r:Addr} {P:Int} {H H':Hp} {v:V} {e:List aj} (hav:∀ a ∈ av,a=r\/H0 a ≠ none) (k:oT av H H') (h:oZ H0 r P H v e):oZ H0 r P H' v e:=by
 obtain ⟨l,ts,rfl,l0,lr,hl,pr⟩:=h
 refine ⟨l,ts,rfl,l0,lr,k.2 _ _ hl (λm=>?_),pr.mono k.1⟩
 rcases hav l m with z | z
 ·exact lr z
 ·exact z l0
theorem oZ.ent {H0:Hp} {r:Addr} {P:Int} {H:Hp} {v:V} {e:List aj} (h:oZ H0 r P H v e):pA P H v e:=by
 obtain ⟨l,ts,rfl,_,_,hl,pr⟩:=h
 exact ⟨l,ts,rfl,hl,pr⟩
theorem bb {p d:Addr} {o:HO} {H H':Hp} (k:∀ c o,H c=some o->c ≠ p->H' c=some o) (hp:H' p=some o) (hd:H' d=none):H d=none:=by
 cases e:H d with
 | none=>rfl
 | some x=>
  by_cases z:d=p
  ·rw [z,hp] at hd; cases hd
  ·rw [k d x e z] at hd; cases hd
theorem kJ {α β:Type} {R:α->β->Prop} {y:β}:∀ {xs:List α} {ys:List β} {i:Nat} {x:α},Paired R xs ys->xs[i]? = some x->R x y->Paired R xs (ys.set i y)
 | _,_,0,x,.cons q r,e,h=>by cases e; exact .cons h r
 | _::_,_::_,i+1,x,.cons q r,e,h=>.cons q (kJ (i:=i) r e h)
theorem fM {α β:Type} {R:α->β->Prop} {x:α} {y:β} (h:R x y):∀ {xs:List α} {ys:List β} (i:Nat),Paired R xs ys->Paired R (xs.set i x) (ys.set i y)
 | _,_,_,.nil=>.nil
 | _,_,0,.cons q r=>.cons h r
 | _,_,i+1,.cons q r=>.cons q (fM h i r)
def pB (P L:Int) (S:Nat) (h c:Int) (e:List aj):Prop:=o8 P L S e/\e.length<=3/\∀ q ∈ e,q.1.sum+c=h/\q.1.sum<=4
def pO (P L:Int) (S:Nat) (cs:List Int) (row:List (List aj)):Prop:=∃ h,Paired (pB P L S h) cs row/\∃ e ∈ row,e ≠ []
theorem o8.mono {P L:Int} {y z:Nat} {ps:List aj} (h:o8 P L y ps) (hz:y<=z):o8 P L z ps:=⟨h.1,λp hp=>⟨(h.2 p hp).1,(h.2 p hp).2.1.mono hz,(h.2 p hp).2.2⟩⟩
theorem pB.mono {P L:Int} {y z:Nat} {h c:Int} {e:List aj} (k:pB P L y h c e) (hz:y<=z):pB P L z h c e:=⟨k.1.mono hz,k.2⟩
theorem pO.mono {P L:Int} {y z:Nat} {cs:List Int} {row:List (List aj)} (k:pO P L y cs row) (hz:y<=z):pO P L z cs row:=by
 obtain ⟨h,p,e⟩:=k
 exact ⟨h,al (λ_ _ k=>k.mono hz) p,e⟩
def cv:List Int->List (List aj)->Option Int
 | c::cs,e::row=>match e with
  | q::_=>some (c+q.1.sum)
  | []=>cv cs row
 | _,_=>none
def fh (cs:List Int) (row:List (List aj)):V:=match cv cs row with
 | some h=>.int h
 | none=>.non
theorem jz {cs:List Int}:∀ {row:List (List aj)},row.length=cs.length->(cv cs row=none↔∀ e ∈ row,e=[]):=by
 induction cs with
 | nil=>intro row h; cases row with
  | nil=>simp [cv]
  | cons e r=>simp at h
 | cons c cs ih=>
  intro row h
  cases row with
  | nil=>simp at h
  | cons e r=>
   have h':r.length=cs.length:=by simpa using h
   cases e with
   | nil=>
    rw [show cv (c::cs) ([]::r)=cv cs r from rfl,ih h']
    simp
   | cons q t=>
    rw [show cv (c::cs) ((q::t)::r)=some (c+q.1.sum) from rfl]
    simp
theorem m7 {P:Int} (hP:oU P) {S:Nat} (hS:14<=S) {ps:List aj} (h:∀ p ∈ ps,OkN P p.2/\Sz S p.2):∀ i,i<=ps.length->∀ p ∈ acc P (ps.take i),Sz ((S+1)*i) p.2
 | 0,_,p,hp=>by simp [acc] at hp
 | i+1,hi,p,hp=>by
  have hB:=hP.b
  obtain ⟨q,eq⟩:∃ q,ps[i]? = some q:=⟨_,getElem?_eq_getElem (by omega)⟩
  have ih:=m7 hP hS h i (by omega)
  have okm:∀ q ∈ acc P (ps.take i),OkN P q.2:=dG hB.1 hB.2.2 λq hq=>(h q (mem_of_mem_take hq)).1
  obtain ⟨oq,zq⟩:=h q (mem_of_getElem? eq)
  have e3:(S+1)*(i+1)=(S+1)*i+(S+1):=Nat.mul_succ _ _
  rw [eX eq] at hp
  rcases cX hp with z | z
  ·rw [z]
   show Sz ((S+1)*(i+1)) (aS P ((bn (acc P (ps.take i)) q.1).getD (0,1)) q.2)
   cases e:bn (acc P (ps.take i)) q.1 with
   | none=>
    show Sz _ (aS P (0,1) q.2)
    rw [cf oq]
    exact zq.mono (by omega)
   | some y=>
    have my:=bo e
    have sy:Sz ((S+1)*i) y:=ih _ my
    have pos:1<=i:=by
     cases i with
     | zero=>simp [acc] at my
     | succ j=>omega
    have e4:S+1<=(S+1)*i:=Nat.le_mul_of_pos_right _ pos
    exact (dC hB.1 hB.2.1 (okm _ my) oq sy zq (by omega)).1.mono (by omega)
  ·exact (ih p z).mono (by omega)
theorem acc_szA {P:Int} (hP:oU P) {S n:Nat} (hS:14<=S) {ps:List aj} (h:∀ p ∈ ps,OkN P p.2/\Sz S p.2) (hn:ps.length<=n) (i:Nat):∀ p ∈ acc P (ps.take i),Sz ((S+1)*n) p.2:=λp hp=>by
 by_cases hi:i<=ps.length
 ·exact (m7 hP hS h i hi p hp).mono (Nat.mul_le_mul_left _ (by omega))
 ·rw [take_of_length_le (by omega)] at hp
  exact (m7 hP hS h ps.length (Nat.le_refl _) p (by rw [take_length]; exact hp)).mono (Nat.mul_le_mul_left _ hn)
theorem sumOk_n {P:Int} (hP:oU P) {S n:Nat} (hS:14<=S) {ps:List aj} (h:∀ p ∈ ps,OkN P p.2/\Sz S p.2) (hn:ps.length<=n) (h1:S<=2900) (h2:(S+1)*n<=2900):bO P ps:=⟨λp hp=>⟨(h p hp).1,(h p hp).2.mono h1⟩,λi p hp=>(acc_szA hP hS h hn i p hp).mono h2⟩
theorem canon_n {P L:Int} (hP:oU P) {S n:Nat} (hS:14<=S) {ps out:List aj} (h:∀ p ∈ ps,OkN P p.2/\Sz S p.2/\(p.1.length:Int)=L/\∀ e ∈ p.1,0<=e) (hn:ps.length<=n) (hs:o7 P ps out):o8 P L ((S+1)*n) out/\out.length<=n/\∀ q ∈ out,∃ r ∈ ps,r.1=q.1:=by
 have hB:=hP.b
 have h':∀ p ∈ ps,OkN P p.2/\Sz S p.2:=λp hp=>⟨(h p hp).1,(h p hp).2.1⟩
 have fr:∀ q ∈ out,∃ r ∈ ps,r.1=q.1:=λq hq=>fZ q (hs.mem q hq)
 refine ⟨⟨hs.2,λq hq=>⟨dG hB.1 hB.2.2 (λp hp=>(h p hp).1) q (hs.mem q hq),acc_szA hP hS h' hn ps.length q (by rw [take_length]; exact hs.mem q hq),hs.nz q hq,?_⟩⟩,?_,fr⟩
 ·obtain ⟨r,hr,e⟩:=fr q hq
  rw [<- e]
  exact (h r hr).2.2
 ·have e1:=hs.1.length_eq
  have e2:=length_filter_le nz (acc P ps)
  have e3:=eZ P ps
  omega
def RowA (av:List Addr) (P:Int) (H:Hp) (v:V) (row:List (List aj)):Prop:=∃ r es,v=.ref r/\r ∉ av/\H r=some (.lst es)/\Paired (EntA av P H) es row
theorem RowA.keep {av:List Addr} {P:Int} {H H':Hp} {v:V} {row:List (List aj)} (k:oT av H H') (h:RowA av P H v row):RowA av P H' v row:=by
 obtain ⟨r,es,rfl,ra,hr,pr⟩:=h
 exact ⟨r,es,rfl,ra,k.2 _ _ hr ra,al (λ_ _=>EntA.keep k) pr⟩
theorem RowA.row {av:List Addr} {P:Int} {H:Hp} {v:V} {row:List (List aj)} (h:RowA av P H v row):pM P H v row:=by
 obtain ⟨r,es,rfl,_,hr,pr⟩:=h
 exact ⟨r,es,rfl,hr,al (λ_ _=>EntA.ent) pr⟩
theorem nH {K:Frag} {P:Int} {src:List (Option Nat)} {σ rest:L2.St} {H0:Hp} {a:Addr} {es:List V} {row:List (List aj)} {Q:VK} (hσ:bK src σ=none::rest) (ha:H0 a=some (.lst es)) (pr:Paired (pA P H0) es row) (hl:es.length<=60)
  (hd:∀ acc es' H',H0 acc=none->oS H0 H'->H' acc=some (.lst es')->Paired (oZ H0 acc P H') es' row->Q (.ref acc) H'):bX (Itl K a) src (cC 0) nB (tCB (rListT K) (bL (tVar 0) eT)) σ H0 Q:=by
 have le:es.length=row.length:=Paired.length pr
 refine aX (n:=es.length) (σ0:=none::rest) hσ (λacc i ws σ H'=>∃ u:Option V,σ=u::rest/\oS H0 H'/\Paired (oZ H0 acc P H') ws (row.take i)) (by rw [sizeLine_eq]; omega) (λacc hacc=>⟨none,rfl,oS.new hacc,by rw [take_zero]; exact .nil⟩) ?_ ?_ ?_ ?_
 ·rintro acc i ws σ H' hacc hi hz ⟨u,rfl,sm,_⟩
  exact ⟨es,es[i],SqL.of (sm _ _ ha),by simp [hi]⟩
 ·rintro acc ws σ H' hacc hz ⟨u,rfl,sm,_⟩
  exact ⟨es,SqL.of (sm _ _ ha),Nat.le_refl _⟩
 ·rintro acc i ws σ H1 x H' hacc hi hz hzl ⟨u,rfl,sm,pw⟩ ⟨rfl,gx⟩
  have hx:=gx es (SqL.of (sm _ _ ha))
  obtain ⟨e,ee,l,ts,rfl,hl1,pe⟩:=aC pr hx
  refine ⟨_,rfl,l,ts,rfl,.inl (SqL.of (sm _ _ hl1)),λl2 n2=>?_⟩
  have s2:=oS.new (o:=.lst ts) n2
  have h2:(upd H' l2 (.lst ts)) l2=some (.lst ts):=ac
  have la:l2 ≠ acc:=(ah hz n2).symm
  generalize upd H' l2 (.lst ts)=H2 at *
  have hz2:=s2 _ _ hz
  have k:oT [acc] H' (upd H2 acc (.lst (ws++[.ref l2]))):=(oT.of s2).trans (oT.put hz2 (by simp))
  have k2:oT [acc] H2 (upd H2 acc (.lst (ws++[.ref l2]))):=oT.put hz2 (by simp)
  refine ⟨ws,hz2,by rw [sizeLine_eq]; omega,_,ac,by rw [length_append,length_singleton]; omega,_,rfl,(sm.trans s2).put hacc,?_⟩
  rw [take_add_one,ee]
  refine aN ?_ (al (λ_ _=>oZ.keepA (av:=[acc]) (λa ha=>.inl (by simpa using ha)) k) pw)
  exact ⟨l2,ts,rfl,sm.free n2,la,by rw [ao la]; exact h2,(pe.mono λt xs e=>s2 _ _ (sm _ _ e)).mono k2.1⟩
 ·rintro acc ws σ H1 hacc hz hzl ⟨u,rfl,sm,pw⟩
  rw [le,take_length] at pw
  exact hd acc ws H1 hacc sm hz pw
theorem kA {J:It} {n:Nat} {src:List (Option Nat)} {g:TG} {te:TE} {Q:VK} {σ σ0:L2.St} {H0:Hp} {P:Int} (hσ:bK src σ=σ0) (Sh:L2.St->Prop) (Rel:Nat->List aj->Prop) (hn:n<=60) (h0:Sh σ0)
  (hgo:∀ i H,i<n->oS H0 H->J.go i H) (hst:∀ H,oS H0 H->J.stop n H)
  (turn:∀ i σ H x H' (R:L2.St->VK),i<n->Sh σ->oS H0 H->J.yld i H x H'->(∀ σ2 l ts e H2,Sh σ2->oS H H2->H l=none->H2 l=some (.lst ts)->oV P H2 ts e->Rel i e->R σ2 (.ref l) H2)->g x σ H' λσ2 H2=>te σ2 H2 (R σ2))
  (hd:∀ acc es row H,H0 acc=none->oS H0 H->H acc=some (.lst es)->Paired (oZ H0 acc P H) es row->row.length=n->(∀ i e,row[i]? = some e->Rel i e)->Q (.ref acc) H) :
  bX J src g nB te σ H0 Q:=by
 refine aX (n:=n) (σ0:=σ0) hσ (λacc i zs σ H=>Sh σ/\oS H0 H/\∃ row,Paired (oZ H0 acc P H) zs row/\row.length=i/\∀ j e,row[j]? = some e->Rel j e) (by rw [sizeLine_eq]; omega) (λacc hacc=>⟨h0,oS.new hacc,[],.nil,rfl,λj e z=>by simp at z⟩) ?_ ?_ ?_ ?_
 ·rintro acc i zs σ H hacc hi hz ⟨_,sm,_⟩
  exact hgo i H hi sm
 ·rintro acc zs σ H hacc hz ⟨_,sm,_⟩
  exact hst H sm
 ·rintro acc i zs σ H x H' hacc hi hz hzl ⟨sh,sm,row,pr,lr,rel⟩ hy
  refine turn i σ H x H' (λσ2 y H4=>∃ ys,H4 acc=some (.lst ys)/\ys.length<sizeLine/\∃ zs,(upd H4 acc (.lst (ys++[y]))) acc=some (.lst zs)/\zs.length<=i+1/\Sh σ2/\oS H0 (upd H4 acc (.lst (ys++[y])))/\∃ row,Paired (oZ H0 acc P (upd H4 acc (.lst (ys++[y])))) zs row/\row.length=i+1/\∀ j e,row[j]? = some e->Rel j e) hi sh sm hy λσ2 l ts e H2 sh2 s2 nl hl pe re=>?_
  have hz2:=s2 _ _ hz
  have kp:oT [acc] H (upd H2 acc (.lst (zs++[.ref l]))):=(oT.of s2).trans (oT.put hz2 (by simp))
  have la:l ≠ acc:=(ah hz nl).symm
  refine ⟨zs,hz2,by rw [sizeLine_eq]; omega,_,ac,by rw [length_append,length_singleton]; omega,sh2,λc o e=>?_,row++[e],aN ⟨l,ts,rfl,sm.free nl,la,by rw [ao la]; exact hl,pe.mono (oT.put (av:=[acc]) hz2 (by simp)).1⟩ (al (λ_ _ z=>oZ.keepA (λa h=>.inl (List.mem_singleton.mp h)) kp z) pr),by rw [length_append,lr]; rfl,λj e' ej=>?_⟩
  ·rw [ao (ah e hacc)]
   exact s2 _ _ (sm c o e)
  ·by_cases hj:j<row.length
   ·rw [getElem?_append_left hj] at ej
    exact rel j e' ej
   ·rw [getElem?_append_right (by omega)] at ej
    have h0:j-row.length=0:=by
     rcases Nat.eq_zero_or_pos (j-row.length) with z | z
     ·exact z
     ·rw [getElem?_eq_none (by rw [length_singleton]; omega)] at ej
      cases ej
    rw [h0] at ej
    cases ej
    rw [show j=i by omega]
    exact re
 ·rintro acc zs σ H hacc hz hzl ⟨_,sm,row,pr,lr,rel⟩
  exact hd acc zs row H hacc sm hz pr lr rel
theorem jf {K:Frag} {r:Addr} {es:List V} {src:List (Option Nat)} {te:TE} {Q:VK} {σ rest:L2.St} {H0:Hp} {P:Int} (hσ:bK src σ=none::rest) (Rel:Nat->List aj->Prop) (hr:H0 r=some (.lst es)) (hn:es.length<=60)
  (turn:∀ i v H (R:VK),es[i]? = some v->oS H0 H->(∀ l ts e H2,oS H H2->H l=none->H2 l=some (.lst ts)->oV P H2 ts e->Rel i e->R (.ref l) H2)->te (some v::rest) H R)
  (hd:∀ acc es' row H,H0 acc=none->oS H0 H->H acc=some (.lst es')->Paired (oZ H0 acc P H) es' row->row.length=es.length->(∀ i e,row[i]? = some e->Rel i e)->Q (.ref acc) H) :
  bX (Itl K r) src (cC 0) nB te σ H0 Q:=
 kA hσ (λσ=>∃ u,σ=u::rest) Rel hn ⟨none,rfl⟩ (λi H hi sm=>⟨es,_,SqL.of (sm _ _ hr),getElem?_eq_getElem hi⟩) (λH sm=>⟨es,SqL.of (sm _ _ hr),Nat.le_refl _⟩)
  (λi σ H x H' R hi ⟨u,e⟩ sm ⟨e',hx⟩ k=>by
   subst e e'
   exact turn i x H' (R (some x::rest)) (hx es (SqL.of (sm _ _ hr))) sm λl ts e H2=>k _ l ts e H2 ⟨_,rfl⟩) hd
theorem me {lo:Int} {n:Nat} {src:List (Option Nat)} {te:TE} {Q:VK} {σ rest:L2.St} {H0:Hp} {P:Int} (hσ:bK src σ=none::rest) (Rel:Nat->List aj->Prop) (hn:n<=60)
  (turn:∀ i H (R:VK),i<n->oS H0 H->(∀ l ts e H2,oS H H2->H l=none->H2 l=some (.lst ts)->oV P H2 ts e->Rel i e->R (.ref l) H2)->te (some (.int (lo+i))::rest) H R)
  (hd:∀ acc es' row H,H0 acc=none->oS H0 H->H acc=some (.lst es')->Paired (oZ H0 acc P H) es' row->row.length=n->(∀ i e,row[i]? = some e->Rel i e)->Q (.ref acc) H) :
  bX (Itr lo n) src (cC 0) nB te σ H0 Q:=
 kA hσ (λσ=>∃ u,σ=u::rest) Rel hn ⟨none,rfl⟩ (λi H hi sm=>hi) (λH sm=>Nat.le_refl _)
  (λi σ H x H' R hi ⟨u,e⟩ sm ⟨e',hx⟩ k=>by
   subst e e' hx
   exact turn i H' (R (some (.int (lo+i))::rest)) hi sm λl ts e H2=>k _ l ts e H2 ⟨_,rfl⟩) hd
theorem i3 {K K':Frag} {r1 r2:Addr} {es1 es2:List V} {src:List (Option Nat)} {te:TE} {Q:VK} {σ rest:L2.St} {H0:Hp} {P:Int} (hσ:bK src σ=none::none::rest) (Rel:Nat->List aj->Prop) (h1:H0 r1=some (.lst es1)) (h2:H0 r2=some (.lst es2)) (hl:es1.length=es2.length) (hn:es1.length<=60)
  (turn:∀ i v1 v2 H (R:VK),es1[i]? = some v1->es2[i]? = some v2->oS H0 H->(∀ l ts e H2,oS H H2->H l=none->H2 l=some (.lst ts)->oV P H2 ts e->Rel i e->R (.ref l) H2)->te (some v1::some v2::rest) H R)
  (hd:∀ acc es' row H,H0 acc=none->oS H0 H->H acc=some (.lst es')->Paired (oZ H0 acc P H) es' row->row.length=es1.length->(∀ i e,row[i]? = some e->Rel i e)->Q (.ref acc) H) :
  bX (Itz false false K r1 r2) src (gTup K' 2 (iJ (cC 0) (iJ (cC 1) gNil))) nB te σ H0 Q:=
 kA hσ (λσ=>∃ u v,σ=u::v::rest) Rel hn ⟨none,none,rfl⟩ (λi H hi sm=>⟨es1,es2,_,_,bJ (SqL.of (sm _ _ h1)),bJ (SqL.of (sm _ _ h2)),getElem?_eq_getElem hi,getElem?_eq_getElem (by omega)⟩) (λH sm=>⟨es1,es2,bJ (SqL.of (sm _ _ h1)),bJ (SqL.of (sm _ _ h2)),.inl (Nat.le_refl _)⟩)
  (λi σ H x H' R hi ⟨u,v,e⟩ sm ⟨p,x1,y1,ex,np,eH,gx,gy⟩ k=>by
   subst e ex eH
   have s2:=oS.new (o:=.tup [x1,y1]) np
   refine ⟨p,_,rfl,SqT.of ac,rfl,_,_,rfl,_,_,rfl,rfl,?_⟩
   exact turn i x1 y1 _ (R (some x1::some y1::rest)) (gx _ (bJ (SqL.of (sm _ _ h1)))) (gy _ (bJ (SqL.of (sm _ _ h2)))) (sm.trans s2) λl ts e H2 s3 nl=>k _ l ts e H2 ⟨_,_,rfl⟩ (s2.trans s3) (s2.free nl)) hd
theorem nd_4:(["_law_place", "_law_base", "_law_bag_here", "_law_near"]:List Str).Nodup:=by decide +kernel
def spCols:Sp:=λvs H Q _=>∃ (p:Addr) (N M a b:Int) (k:Nat),vs=[.int N,.int M,.ref p]/\1<=N/\N<=3/\1<=M/\M<=5/\H p=some (.lst [.int a,.int b])/\pc a b k/\k<=100000/\
 ∀ (l:Addr) (cs:List Int) (a' b':Int) (H':Hp),H l=none->H' l=some (.lst (cs.map V.int))->(cs.length:Int)=N->(∀ c ∈ cs,-18<=c/\c<=21)->H' p=some (.lst [.int a',.int b'])->pc a' b' (k+4)->(∀ c o,H c=some o->c ≠ p->H' c=some o)->Q (.ref l) H'
def spWide:Sp:=λvs H Q _=>∃ (p:Addr) (a b:Int) (k:Nat),vs=[.ref p]/\H p=some (.lst [.int a,.int b])/\pc a b k/\k<=100000/\
 ∀ (v:V) (x:Int × Int) (a' b':Int) (H':Hp),At 0 H' v x->OkN 0 x->Sz 35 x->H' p=some (.lst [.int a',.int b'])->pc a' b' (k+3)->(∀ c o,H c=some o->c ≠ p->H' c=some o)->Q v H'
def j4:Sp:=λvs H Q _=>∃ (c r:Addr) (P:Int) (cs:List Int) (es:List V) (row:List (List aj)),vs=[.ref c,.ref r]/\H c=some (.lst (cs.map V.int))/\H r=some (.lst es)/\Paired (pA P H) es row/\row.length<=60/\∀ H',oS H H'->Q (fh cs row) H'
theorem jB {cs:List Int}:∀ {row:List (List aj)} {i:Nat},(∀ j<i,∀ e,row[j]? = some e->e=[])->cv cs row=cv (cs.drop i) (row.drop i):=by
 induction cs with
 | nil=>
  intro row i h
  cases row<;>cases i<;>simp [cv]
 | cons c cs ih=>
  intro row i h
  cases i with
  | zero=>rfl
  | succ i=>
   cases row with
   | nil=>simp [cv]
   | cons e r=>
    have e0:e=[]:=h 0 (by omega) e rfl
    subst e0
    exact ih λj hj e he=>h (j+1) (by omega) e he
theorem gu (x:V) (xs:List V):atI (x::xs) 0=some x:=dA (xs:=x::xs) (j:=0) rfl
theorem oh (P:Int) (out:List aj):PyData.eqv (dS P out) (dS P [])=decide (out=[]):=by
 cases out with
 | nil=>exact SeqAt.eqv_refl _ (SeqAt.canLay_of_shaped (bI P []))
 | cons p r=>
  rw [decide_eq_false (by simp)]
  simp [dS,PyData.eqv,PyData.eqvAll]
theorem sc__law_columns:oW ["_law_many", "_law_near", "_law_bag_here", "_law_base"] ["_law_many", "_law_near", "_law_bag_here"] (am dH):=.i
theorem ok_cols {f:Addr} {fd:FuncData} (F:Fun K "_law_columns" "_law_columns" dH f fd) (T:Blt mg) (qO:FnB P w K mg base 1 "_law_take" cw):oY P w K mg base CX0 2 f fd ["_law_many", "_law_near", "_law_bag_here"] spCols:=by
 refine F.o sc__law_columns λ_ _ _ _ H _ Q _ hr h=>?_
 ·obtain ⟨p,N,M,a,b,k,rfl,N1,N3,M1,M5,hp,hb,hk,q⟩:=h
  refine ⟨_,(ag (au (i:=3) sc__law_columns.nd rfl (Or.inr rfl) (ap bf (aq qO hr.m (aa (pv 2) (aa af ae))) af))
(ak (ar (by exact aO (N:=["_law_place", "_law_base", "_law_bag_here", "_law_near"]) (src:=[none,some 3,some 2,some 1]) rfl rfl rfl (by exact (ba rfl T.range (aa (pv 0) ae))) (λ_ _ _=>by exact ⟨by exact (bP (i:=0) nd_4 rfl rfl),aP,by exact (ap bf (ap aL (pv 1) (aq qO hr.m (aa (pv 2) (aa (pv 3) ae)))) af)⟩))))),?_⟩
  refine ⟨_,rfl,p,a,b,35,k,rfl,hp,hb,by omega,by decide,aD (by decide) (by decide),λr1 a1 b1 r10 r11 hb1=>⟨_,_,rfl,rfl,?_⟩⟩
  have k1:=KeepB.put (ys:=[.int a1,.int b1]) hp
  have hp1:(upd H p (.lst [.int a1,.int b1])) p=some (.lst [.int a1,.int b1]):=ac
  generalize upd H p (.lst [.int a1,.int b1])=H1 at *
  refine ⟨_,rfl,N,rfl,by omega,by omega,aX (n:=N.toNat) (σ0:=[none,some (.int (r1-17)),some (.ref p),some (.int M)]) rfl (λacc i ws σ H'=>∃ (u:Option V) (cs:List Int) (a b:Int),σ=[u,some (.int (r1-17)),some (.ref p),some (.int M)]/\ws=cs.map V.int/\cs.length=i/\(∀ c ∈ cs,-18<=c/\c<=21)/\H' p=some (.lst [.int a,.int b])/\pc a b (k+1+i)/\∀ c o,H1 c=some o->c ≠ p->H' c=some o)
   (by rw [sizeLine_eq]; omega) (λacc hacc=>⟨none,[],a1,b1,rfl,rfl,rfl,λc hc=>absurd hc (by simp),by rw [ao (ah hp1 hacc)]; exact hp1,hb1,λc o e hc=>by rw [ao (ah e hacc)]; exact e⟩) ?_ ?_ ?_ ?_⟩
  ·rintro acc i ws σ H' hacc hi hz _
   exact hi
  ·rintro acc ws σ H' hacc hz _
   exact Nat.le_refl _
  ·rintro acc i ws σ H2 x H' hacc hi hz hzl ⟨u,cs,a2,b2,rfl,rfl,lc,okc,hp2,hb2,kp2⟩ ⟨rfl,rfl⟩
   have pne:p ≠ acc:=ah hp1 hacc
   refine ⟨_,rfl,_,rfl,_,rfl,p,a2,b2,M,_,rfl,hp2,hb2,by omega,by omega,aD (by omega) (by omega),λr3 a3 b3 r30 r31 hb3=>⟨_,_,rfl,rfl,_,_,rfl,rfl,?_⟩⟩
   refine ⟨cs.map V.int,by rw [ao pne.symm]; exact hz,by rw [length_map,sizeLine_eq]; omega,_,ac,by rw [length_append,length_singleton]; omega,_,cs++[r1-17+r3-1],a3,b3,rfl,by rw [map_append]; rfl,by rw [length_append,lc]; rfl,λc hc=>?_,by rw [ao pne,ac],by rw [show k+1+(i+1)=k+1+i+1 by omega]; exact hb3,λc o e hc=>?_⟩
   ·rcases List.mem_append.mp hc with z | z
    ·exact okc c z
    ·rw [List.mem_singleton.mp z]
     omega
   ·rw [ao (ah e hacc),ao hc]
    exact kp2 c o e hc
  ·rintro acc ws σ H2 hacc hz hzl ⟨u,cs,a2,b2,rfl,rfl,lc,okc,hp2,hb2,kp2⟩
   have an:H acc=none:=by
    cases e:H acc with
    | none=>rfl
    | some o=>
     by_cases z:acc=p
     ·rw [z,hp1] at hacc; cases hacc
     ·rw [k1.2.2 acc o e z] at hacc; cases hacc
   exact q acc cs a2 b2 H2 an hz (by omega) okc hp2 (hb2.mono (by omega)) λc o e hc=>kp2 c o (k1.2.2 c o e hc) hc
theorem oC:oW ["_law_bag_here"] ["_law_bag_here"] (am gq):=.i
theorem ok_wide {f:Addr} {fd:FuncData} (F:Fun K "_law_wide" "_law_wide" gq f fd) (qO:FnB P w K mg base 1 "_law_take" cw) (qV:FnB P w K mg base 1 "_law_low" j0):oY P w K mg base CX0 2 f fd ["_law_bag_here"] spWide:=by
 refine F.o oC λ_ _ _ _ H _ Q _ hr h=>?_
 ·obtain ⟨p,a,b,k,rfl,hp,hb,hk,q⟩:=h
  refine ⟨_,(ak (ar (aq qV hr.m (aa (ap bx (ap bf (ap bx af (aq qO hr.m (aa (pv 0) (aa af ae)))) af) (aq qO hr.m (aa (pv 0) (aa (ap fA af af) ae)))) (aa (ap aL af (aq qO hr.m (aa (pv 0) (aa (ap bf (ap fA af af) af) ae)))) ae))))),?_⟩
  refine ⟨_,rfl,p,a,b,2,k,rfl,hp,hb,by omega,by decide,aD (by decide) (by decide),λr1 a1 b1 r10 r11 hb1=>?_⟩
  refine ⟨_,_,rfl,rfl,.inl ⟨by decide,by decide⟩,_,_,rfl,rfl,?_⟩
  refine ⟨_,rfl,_,_,rfl,rfl,⟨by decide,by decide,by decide⟩,p,a1,b1,_,k+1,rfl,ac,hb1,by omega,by rw [cY]; decide,by rw [cY]; exact aD (by decide) (by decide),λr2 a2 b2 r20 r21 hb2=>?_⟩
  rw [cY] at r21
  refine ⟨_,_,rfl,rfl,.inl ⟨by omega,by omega⟩,?_⟩
  refine ⟨_,rfl,_,_,rfl,rfl,⟨by decide,by decide,by decide⟩,_,_,rfl,rfl,p,a2,b2,_,k+2,rfl,ac,hb2,by omega,by rw [cY]; decide,by rw [cY]; exact aD (by decide) (by decide),λr3 a3 b3 r30 r31 hb3=>?_⟩
  rw [cY] at r31
  refine ⟨_,_,rfl,rfl,_,_,rfl,by omega,aD (by omega) (by omega),λt ht=>?_⟩
  rw [cS,cS] at ht ⊢
  have h01:r1=0\/r1=1:=by omega
  have hb4:((2*r1-1)*r2).natAbs<2 ^ 35:=by
   rcases h01 with z | z<;>subst z<;>omega
  have pt:p ≠ t:=ah (o:=.lst [.int a3,.int b3]) ac ht
  generalize (2*r1-1)*r2=n at *
  have hl:=kR n (1+r3) (by omega)
  refine q _ (nrm n (1+r3)) a3 b3 _ (.inl ⟨rfl,t,rfl,ac⟩) (.inl ⟨rfl,bY _ _ (by omega),cD _ _ (by omega)⟩) ⟨Nat.lt_of_le_of_lt hl.1 hb4,Nat.lt_of_le_of_lt hl.2 (by omega)⟩ (by rw [ao pt,ac]) hb3 λc o e hc=>?_
  have e1:upd H p (.lst [.int a3,.int b3]) c=some o:=by rw [ao hc]; exact e
  rw [ao (ah e1 ht)]
  exact e1
theorem sc__law_level:oW ["_law_columns_here", "_law_row", "_law_column", "_law_entry"] ["_law_columns_here", "_law_row"] (am ff):=.i
theorem ok_llevel {f:Addr} {fd:FuncData} (F:Fun K "_law_level" "_law_level" ff f fd) (T:Blt mg):oY P w K mg base CX0 1 f fd ["_law_columns_here", "_law_row"] j4:=by
 refine F.o sc__law_level λ_ _ _ _ H _ Q _ hr h=>?_
 ·obtain ⟨c,r,P,cs,es,row,rfl,hc,hr',pr,hn,q⟩:=h
  have le:es.length=row.length:=Paired.length pr
  refine ⟨_,(ag (bc PassesOwn.never rfl (dB K false false rfl rfl T.zip (aa (pv 0) (aa (pv 1) ae))) (bw K (i:=2) (j:=3) rfl rfl sc__law_level.nd rfl rfl rfl rfl)
(ak (aH (aw (kneD K rfl hr.units) (pv 3) (aI ae) (ay _))
(ak (ar (ap aL (pv 2) (iL K T (aB (az K rfl) (aB (aE K rfl) (pv 3) af (λ_ _=>rfl)) af (λ_ _=>rfl)) true))))
aA)))
(ak (ar pe_non))),?_⟩
  refine ⟨_,rfl,_,rfl,c,r,rfl,⟨_,bJ (SqL.of hc)⟩,⟨_,bJ (SqL.of hr')⟩,m8 (xs:=cs.map V.int) (ys:=es) (λi σ H'=>∃ x2 x3:Option V,σ=[some (.ref c),some (.ref r),x2,x3]/\oS H H'/\∀ j<i,∀ e,row[j]? = some e->e=[]) ?_ ?_ ?_ ?_⟩
  ·exact ⟨none,none,rfl,oS.refl _,λj hj=>absurd hj (by omega)⟩
  ·rintro i σ H1 hi ⟨x2,x3,rfl,sm,_⟩
   exact ⟨bJ (SqL.of (sm _ _ hc)),bJ (SqL.of (sm _ _ hr'))⟩
  ·rintro i x y σ H1 p hx hy ⟨x2,x3,rfl,sm,hz⟩ np
   obtain ⟨z,hz1,rfl⟩:=cW hx
   obtain ⟨e,he,l,ts,rfl,hl,pe⟩:=aC pr hy
   have s1:=sm.trans (oS.new (o:=.tup [.int z,.ref l]) np)
   refine ⟨p,_,rfl,SqT.of ac,rfl,_,_,rfl,_,_,rfl,rfl,?_⟩
   refine ⟨_,rfl,Nat.zero_le _,λl2 n2=>?_⟩
   have s2:=s1.trans (oS.new (o:=.lst []) n2)
   have h2:(upd (upd H1 p (.tup [.int z,.ref l])) l2 (.lst [])) l2=some (.lst []):=ac
   generalize upd (upd H1 p (.tup [.int z,.ref l])) l2 (.lst [])=H2 at *
   refine ⟨dS P e,dS P [],gc (s2 _ _ hl) (pe.mono λt xs e=>s2 _ _ e),gc h2 .nil,bI _ _,bI _ _,_,rfl,?_⟩
   rw [oh]
   cases e with
   | nil=>
    refine br ⟨_,_,rfl,s2,λj hj e' he'=>?_⟩
    by_cases h:j<i
    ·exact hz j h e' he'
    ·have:j=i:=by omega
     subst this
     rw [he] at he'
     exact (Option.some.inj he').symm
   | cons q0 t0=>
    cases pe with
    | cons pq pt=>
     obtain ⟨tq,kq,uq,rfl,h1,h2',h3⟩:=pq
     refine bF ⟨_,rfl,_,rfl,l,_,_,_,rfl,rfl,SqL.of (s2 _ _ hl),gu _ _,tq,_,_,_,rfl,rfl,SqT.of (s2 _ _ h1),rfl,kq,_,rfl,ji (SqT.of (s2 _ _ h2')),_,_,rfl,rfl,?_⟩
     have z1:=q H2 s2
     unfold fh at z1
     rw [jB hz,List.drop_eq_getElem_cons (l:=cs) (by exact (List.getElem?_eq_some_iff.mp hz1).1),List.drop_eq_getElem_cons (l:=row) (by exact (List.getElem?_eq_some_iff.mp he).1),(List.getElem?_eq_some_iff.mp hz1).2,(List.getElem?_eq_some_iff.mp he).2] at z1
     exact z1
  ·rintro σ H1 ⟨x2,x3,rfl,sm,hz⟩
   have z1:=q H1 sm
   unfold fh at z1
   rw [jB hz,length_map,le] at z1
   have e0:cv (cs.drop (min cs.length row.length)) (row.drop (min cs.length row.length))=none:=by
    rcases Nat.le_total cs.length row.length with h | h
    ·rw [Nat.min_eq_left h,List.drop_length]
     rfl
    ·rw [Nat.min_eq_right h,List.drop_length (l:=row)]
     cases cs.drop row.length<;>rfl
   rw [e0] at z1
   exact z1
def spDrawn:Sp:=λvs H Q _=>∃ (p c:Addr) (P L M N a b:Int) (g:Bool) (k:Nat) (cs:List Int),vs=[.int P,.int L,.ref c,.int M,.int N,.bl g,.ref p]/\oU P/\(g=true->P=0)/\1<=L/\L<=4/\0<=M/\M<=4/\0<=N/\N<=3/\H c=some (.lst (cs.map V.int))/\c ≠ p/\1<=cs.length/\cs.length<=3/\H p=some (.lst [.int a,.int b])/\pc a b k/\k<=50000/\
 ∀ (r:Addr) (es:List V) (row:List (List aj)) (a' b':Int) (H':Hp),H r=none->H' r=some (.lst es)->Paired (oZ H r P H') es row->pO P L 110 cs row->H' p=some (.lst [.int a',.int b'])->pc a' b' (k+300)->(∀ c o,H c=some o->c ≠ p->H' c=some o)->Q (.ref r) H'
def jU (P L h c:Int) (q:aj):Prop:=OkN P q.2/\Sz 35 q.2/\(q.1.length:Int)=L/\(∀ e ∈ q.1,0<=e)/\q.1.sum+c=h/\q.1.sum<=4
theorem ent_drawn {P L h c:Int} (hP:oU P) {ps out:List aj} (hn:ps.length<=3) (ok:∀ q ∈ ps,jU P L h c q) (is:o7 P ps out):pB P L 110 h c out:=by
 obtain ⟨cn,ln,fr⟩:=canon_n (L:=L) hP (S:=35) (by decide) (λq hq=>⟨(ok q hq).1,(ok q hq).2.1,(ok q hq).2.2.1,(ok q hq).2.2.2.1⟩) hn is
 refine ⟨cn.mono (by decide),ln,λq hq=>?_⟩
 obtain ⟨r,hr,e⟩:=fr q hq
 rw [<- e]
 exact (ok r hr).2.2.2.2
theorem ni {P L h c:Int} (hP:oU P) {ps:List aj} (hn:ps.length<=3) (ok:∀ q ∈ ps,jU P L h c q):bO P ps:=sumOk_n hP (S:=35) (n:=3) (by decide) (λq hq=>⟨(ok q hq).1,(ok q hq).2.1⟩) hn (by decide) (by decide)
theorem iS {P:Int} (hP:oU P) {x:Int × Int} (o:OkN P x) (h:P=0->Sz 2 x):Sz 14 x:=by
 by_cases h0:P=0
 ·exact (h h0).mono (by decide)
 ·have hB:=hP.b
  rcases o with ⟨z,_⟩ | ⟨_,x0,x1,x2⟩
  ·exact absurd z h0
  ·exact ⟨by show x.1.natAbs<2 ^ 14; omega,by rw [x2]; decide⟩
theorem ixN_nat {n i:Nat} (h:i<n):ixN n (i:Int)=some i:=by
 unfold ixN
 rw [if_pos (by omega)]
 simp
 omega
theorem pf:oW ["_law_prime_here", "_law_letters", "_law_columns_here", "_law_most", "_law_parts", "_law_great_here", "_law_bag_here", "_law_at", "_law_height", "_law_row", "_law_column", "_law_many", "_law_some", "_law_k", "_law_number_here"] ["_law_prime_here", "_law_letters", "_law_columns_here", "_law_most", "_law_parts", "_law_great_here", "_law_bag_here"] (am cK):=.i
set_option maxHeartbeats 4000000 in
theorem ok_drawn {f:Addr} {fd:FuncData} (F:Fun K "_law_drawn_row" "_law_drawn_row" cK f fd) (T:Blt mg) (qO:FnB P w K mg base 1 "_law_take" cw) (qU:FnB P w K mg base 4 "_law_number" dD) (vv:FnB P w K mg base 2 "_law_wide" spWide) (qT:FnB P w K mg base 2 "_law_product" i6) (qS:FnB P w K mg base 4 "_law_sum" fu) (rY:FnB P w K mg base 1 "_law_level" j4) (rO:FnB P w K mg base 1 "_law_unit" spUnit) :
  oY P w K mg base CX0 5 f fd ["_law_prime_here", "_law_letters", "_law_columns_here", "_law_most", "_law_parts", "_law_great_here", "_law_bag_here"] spDrawn:=by
 refine F.o pf λ_ _ _ _ H _ Q _ hr h=>?_
 ·obtain ⟨p,c,P,L,M,N,a,b,g,k,cs,rfl,hP,hg,L1,L4,M0,M4,N0,N3,hc,cp,c1,c3,hp,hb,hk,q⟩:=h
  have hB:=hP.b
  refine ⟨_,(ag (au (i:=7) pf.nd rfl (Or.inl rfl) (aq qO hr.m (aa (pv 6) (aa (bq K T (pv 2)) ae))))
(ag (au (i:=8) pf.nd rfl (Or.inl rfl) (ap aL (aB (aE K rfl) (pv 2) (pv 7) (λ_ _=>rfl)) (aq qO hr.m (aa (pv 6) (aa (ap aL (pv 3) af) ae)))))
(ag (au (i:=9) pf.nd rfl (Or.inl rfl) (aI ae))
(ag (bc PassesOwn.never rfl (aG K rfl (pv 2)) (aF (i:=10) pf.nd rfl (Or.inl rfl))
(ag (au (i:=11) pf.nd rfl (Or.inl rfl) (ap bf (pv 8) (pv 10)))
(ag (au (i:=12) pf.nd rfl (Or.inl rfl) (aI ae))
(ag (aH (kG gM gM af (pv 11) (pv 3))
(ak (bc PassesOwn.never rfl (ba rfl T.range (aa (aq qO hr.m (aa (pv 6) (aa (ap aL (pv 4) af) ae))) ae)) (aF (i:=13) pf.nd rfl (Or.inl rfl))
(ag (au (i:=14) pf.nd rfl (Or.inl rfl) (aq qU hr.m (aa (pv 0) (aa (pv 6) (aa bV ae)))))
(ag (aH (bR (pv 5))
(ak (au (i:=14) pf.nd rfl (Or.inl rfl) (aq vv hr.m (aa (pv 6) ae))))
aA)
(ak (bh (bmA K rfl (pv 12) (aa (aT (aa (aq qT hr.m (aa (pv 1) (aa (pv 11) (aa (pv 6) ae)))) (aa (pv 14) ae))) ae))))))))
aA)
(ak (bh (bmA K rfl (pv 9) (aa (aq qS hr.m (aa (pv 0) (aa (pv 12) ae))) ae))))))))
(ag (aH (aw op_isN (aq rY hr.m (aa (pv 2) (aa (pv 9) ae))) pe_non (ay _))
(ak (fq (aI (aa (aT (aa (aq qT hr.m (aa (pv 1) (aa (ap bf (pv 8) (aB (aE K rfl) (pv 2) (pv 7) (λ_ _=>rfl))) (aa (pv 6) ae)))) (aa (aq rO hr.m (aa (pv 0) ae)) ae))) ae)) (jV (pv 9) (pv 7) gn)))
aA)
(ak (ar (pv 9)))))))),?_⟩
  refine sq3 λR0 hR0=>?_
  refine ⟨_,rfl,_,rfl,c,_,rfl,.inl (SqL.of hc),p,a,b,_,k,rfl,hp,hb,by omega,by rw [length_map]; omega,by rw [length_map]; exact aD (by omega) (by omega),λr1 a1 b1 r10 r11 hb1=>?_⟩
  have k1:∀ c o,H c=some o->c ≠ p->upd H p (.lst [.int a1,.int b1]) c=some o:=λc o e hc=>by rw [ao hc]; exact e
  have hp1:(upd H p (.lst [.int a1,.int b1])) p=some (.lst [.int a1,.int b1]):=ac
  generalize upd H p (.lst [.int a1,.int b1])=H1 at *
  obtain ⟨i,rfl⟩:=Int.eq_ofNat_of_zero_le r10
  rw [length_map] at r11
  have hi:i<cs.length:=by omega
  obtain ⟨ci,eci⟩:∃ ci,cs[i]? = some ci:=⟨_,getElem?_eq_getElem hi⟩
  have eciV:(cs.map V.int)[i]? = some (.int ci):=by rw [getElem?_map,eci]; rfl
  refine ⟨_,rfl,_,rfl,c,_,_,_,rfl,rfl,SqL.of (k1 _ _ hc cp),dA eciV,_,rfl,_,rfl,_,_,rfl,rfl,p,a1,b1,_,k+1,rfl,hp1,hb1,by omega,by omega,aD (by omega) (by omega),λr2 a2 b2 r20 r21 hb2=>⟨_,_,rfl,rfl,?_⟩⟩
  have k2:∀ c o,H c=some o->c ≠ p->upd H1 p (.lst [.int a2,.int b2]) c=some o:=λc o e hc=>by rw [ao hc]; exact k1 c o e hc
  have hp2:(upd H1 p (.lst [.int a2,.int b2])) p=some (.lst [.int a2,.int b2]):=ac
  generalize upd H1 p (.lst [.int a2,.int b2])=H2 at *
  refine ⟨Nat.zero_le _,λr nr=>?_⟩
  have rp:r ≠ p:=(ah hp2 nr).symm
  have rc:r ≠ c:=(ah (k2 _ _ hc cp) nr).symm
  have hr3:(upd H2 r (.lst [])) r=some (.lst []):=ac
  have s3:=oS.new (o:=.lst []) nr
  have hp3:=s3 _ _ hp2
  generalize upd H2 r (.lst [])=H3 at *
  subst hR0
  refine ⟨_,rfl,c,rfl,⟨_,SqL.of (s3 _ _ (k2 _ _ hc cp))⟩,cx (xs:=cs.map V.int) (λj σ H'=>∃ (es:List V) (row:List (List aj)) (a b:Int) (x10 x11 x12 x13 x14:Option V),σ=[some (.int P),some (.int L),some (.ref c),some (.int M),some (.int N),some (.bl g),some (.ref p),some (.int (i:Int)),some (.int (ci+r2)),some (.ref r),x10,x11,x12,x13,x14]/\
    H' r=some (.lst es)/\Paired (oZ H r P H') es row/\Paired (pB P L 110 (ci+r2)) (cs.take j) row/\H' p=some (.lst [.int a,.int b])/\pc a b (k+2+60*j)/\∀ c o,H2 c=some o->c ≠ p->H' c=some o) ?_ ?_ ?_ ?_⟩
  ·exact ⟨[],[],a2,b2,none,none,none,none,none,rfl,hr3,.nil,by rw [take_zero]; exact .nil,hp3,hb2,λc o e _=>s3 c o e⟩
  ·rintro j σ H' _ ⟨es,row,a,b,x10,x11,x12,x13,x14,rfl,_,_,_,_,_,kp⟩
   exact SqL.of (kp _ _ (k2 _ _ hc cp) cp)
  ·rintro j v σ H4 hx ⟨es,row,a4,b4,x10,x11,x12,x13,x14,rfl,hr4,pr4,ok4,hp4,hb4,kp4⟩ N0 B0 hN0
   obtain ⟨cj,ecj,rfl⟩:=cW hx
   have jl:j<cs.length:=(List.getElem?_eq_some_iff.mp ecj).1
   have lrow:row.length=j:=by rw [<- Paired.length ok4,length_take]; omega
   have les:es.length=row.length:=Paired.length pr4
   refine ⟨_,rfl,_,rfl,_,_,rfl,rfl,?_⟩
   refine ⟨Nat.zero_le _,λso ns=>?_⟩
   have sp:so ≠ p:=(ah hp4 ns).symm
   have sr:so ≠ r:=(ah hr4 ns).symm
   have s5:=oS.new (o:=.lst []) ns
   have hs5:(upd H4 so (.lst [])) so=some (.lst []):=ac
   have hp5:=s5 _ _ hp4
   generalize upd H4 so (.lst [])=H5 at *
   dsimp only
   refine gs (t:=jp _ _ _) (λσ' H'=>∃ (ts:List V) (ps:List aj) (a b:Int) (x13 x14:Option V),σ'=[some (.int P),some (.int L),some (.ref c),some (.int M),some (.int N),some (.bl g),some (.ref p),some (.int (i:Int)),some (.int (ci+r2)),some (.ref r),some (.int cj),some (.int (ci+r2-cj)),some (.ref so),x13,x14]/\H' so=some (.lst ts)/\oV P H' ts ps/\ps.length<=3/\(∀ q ∈ ps,jU P L (ci+r2) cj q)/\H' p=some (.lst [.int a,.int b])/\pc a b (k+2+60*j+50)/\∀ c o,H4 c=some o->c ≠ p->H' c=some o) (λR hR=>?_) ?_
   ·refine ⟨_,rfl,_,_,rfl,rfl,_,rfl,?_⟩
    have none5:∀ c o,H4 c=some o->c ≠ p->H5 c=some o:=λc o e _=>s5 c o e
    by_cases h1:0<=ci+r2-cj
    ·rw [decide_eq_true h1]
     refine bF ⟨_,rfl,_,_,rfl,rfl,_,rfl,?_⟩
     by_cases h2:ci+r2-cj<=M
     ·rw [decide_eq_true h2]
      refine bF ⟨_,rfl,_,rfl,_,_,rfl,rfl,p,a4,b4,_,_,rfl,hp5,hb4,by omega,by omega,aD (by omega) (by omega),λn6 a6 b6 n60 n61 hb6=>?_⟩
      have k6:∀ c o,H5 c=some o->c ≠ p->upd H5 p (.lst [.int a6,.int b6]) c=some o:=λc o e hc=>by rw [ao hc]; exact e
      have hp6:(upd H5 p (.lst [.int a6,.int b6])) p=some (.lst [.int a6,.int b6]):=ac
      have hs6:=k6 _ _ hs5 sp
      generalize upd H5 p (.lst [.int a6,.int b6])=H6 at *
      refine ⟨n6,rfl,by omega,by omega,cu (n:=n6.toNat) (λm σ H'=>∃ (ts:List V) (ps:List aj) (a b:Int) (x13 x14:Option V),σ=[some (.int P),some (.int L),some (.ref c),some (.int M),some (.int N),some (.bl g),some (.ref p),some (.int (i:Int)),some (.int (ci+r2)),some (.ref r),some (.int cj),some (.int (ci+r2-cj)),some (.ref so),x13,x14]/\H' so=some (.lst ts)/\oV P H' ts ps/\ps.length=m/\(∀ q ∈ ps,jU P L (ci+r2) cj q)/\H' p=some (.lst [.int a,.int b])/\pc a b (k+2+60*j+1+12*m)/\∀ c o,H6 c=some o->c ≠ p->c ≠ so->H' c=some o) ?_ ?_ ?_⟩
      ·exact ⟨[],[],a6,b6,_,_,rfl,hs6,.nil,rfl,λq hq=>absurd hq (by simp),hp6,hb6,λc o e _ _=>e⟩
      ·rintro m σ H7 hm ⟨ts,ps,a7,b7,y13,y14,rfl,hs7,pr7,ln7,ok7,hp7,hb7,kp7⟩ N1 B1 hN1
       refine ⟨_,rfl,_,rfl,p,P,a7,b7,_,rfl,hP,hp7,hb7,by omega,λv x a8 b8 H8 av ox sx hp8 hb8 kp8=>?_⟩
       have sx14:=iS hP ox sx
       have ks8:=oT.bag (av:=[p]) hp7 kp8 (by simp)
       dsimp only
       refine gs (t:=jp _ _ _) (λσ' H'=>∃ (v:V) (x:Int × Int) (a b:Int),σ'=[some (.int P),some (.int L),some (.ref c),some (.int M),some (.int N),some (.bl g),some (.ref p),some (.int (i:Int)),some (.int (ci+r2)),some (.ref r),some (.int cj),some (.int (ci+r2-cj)),some (.ref so),some (.int (0+(m:Int))),some v]/\At P H' v x/\OkN P x/\Sz 35 x/\H' p=some (.lst [.int a,.int b])/\pc a b (k+2+60*j+1+12*m+5)/\∀ c o,H7 c=some o->c ≠ p->H' c=some o) (λR' hR'=>?_) ?_
       ·refine ⟨_,rfl,_,rfl,?_⟩
        cases g with
        | false=>exact br (hR' _ _ ⟨v,x,a8,b8,rfl,av,ox,sx14.mono (by decide),hp8,hb8.mono (by omega),kp8⟩)
        | true=>
         have h0:=hg rfl
         subst h0
         refine bF ⟨_,rfl,p,a8,b8,_,rfl,hp8,hb8,by omega,λv9 x9 a9 b9 H9 av9 ox9 sx9 hp9 hb9 kp9=>?_⟩
         exact hR' _ _ ⟨v9,x9,a9,b9,rfl,av9,ox9,sx9,hp9,hb9.mono (by omega),λc o e hc=>kp9 c o (kp8 c o e hc) hc⟩
       rintro σ' H9 ⟨v9,x9,a9,b9,rfl,av9,ox9,sx9,hp9,hb9,kp9⟩
       have hs9:=kp9 _ _ hs7 sp
       refine ⟨_,rfl,.inl ⟨rfl,_,SqL.of hs9⟩,?_⟩
       refine ⟨_,rfl,_,rfl,_,rfl,p,L,_,a9,b9,_,rfl,L1,L4,h1,by omega,hp9,hb9,by omega,λt es9 a10 b10 H10 le10 nn10 sm10 ht10 hp10 hb10 kp10=>?_⟩
       refine ⟨_,rfl,(by show 2<=sizeLine; decide),λt11 n11=>?_⟩
       have s11:=oS.new (o:=.tup [.ref t,v9]) n11
       have h11:(upd H10 t11 (.tup [.ref t,v9])) t11=some (.tup [.ref t,v9]):=ac
       generalize upd H10 t11 (.tup [.ref t,v9])=H11 at *
       have ka:oT [p] H9 H11:=(oT.bag hp9 kp10 (by simp)).trans (.of s11)
       have kb:oT [p] H7 H11:=(oT.bag hp7 kp9 (by simp)).trans ka
       have hs11:=ka.2 _ _ hs9 (by simp [sp])
       refine ⟨so,_,_,rfl,rfl,hs11,by rw [Paired.length pr7,ln7,sizeLine_eq]; omega,?_⟩
       have kc:oT [so] H11 (upd H11 so (.lst (ts++[.ref t11]))):=oT.put hs11 (by simp)
       refine hN1 _ _ ⟨ts++[.ref t11],ps++[(es9,x9)],a10,b10,_,_,rfl,ac,oV.snoc ⟨t11,t,v9,rfl,kc.1 _ _ h11,kc.1 _ _ (s11 _ _ ht10),((av9.mono ka.1).mono kc.1)⟩ ((pr7.mono kb.1).mono kc.1),by rw [length_append,ln7]; rfl,λq hq=>?_,by rw [ao sp.symm]; exact s11 _ _ hp10,hb10.mono (by omega),λc o e hc hcs=>?_⟩
       ·rcases List.mem_append.mp hq with z | z
        ·exact ok7 q z
        ·rw [List.mem_singleton.mp z]
         exact ⟨ox9,sx9,le10,nn10,by show es9.sum+cj=ci+r2; omega,by show es9.sum<=4; omega⟩
       ·rw [ao hcs]
        exact s11 _ _ (kp10 c o (kp9 c o (kp7 c o e hc hcs) hc) hc)
      ·rintro σ H7 ⟨ts,ps,a7,b7,y13,y14,rfl,hs7,pr7,ln7,ok7,hp7,hb7,kp7⟩
       exact hR _ _ ⟨ts,ps,a7,b7,_,_,rfl,hs7,pr7,by omega,ok7,hp7,hb7.mono (by omega),λc o e hc=>kp7 c o (k6 c o (s5 c o e) hc) hc (ah e ns)⟩
     ·rw [decide_eq_false h2]
      exact br (hR _ _ ⟨[],[],a4,b4,_,_,rfl,hs5,.nil,by decide,λq hq=>absurd hq (by simp),hp5,hb4.mono (by omega),none5⟩)
    ·rw [decide_eq_false h1]
     exact br ⟨_,rfl,br (hR _ _ ⟨[],[],a4,b4,_,_,rfl,hs5,.nil,by decide,λq hq=>absurd hq (by simp),hp5,hb4.mono (by omega),none5⟩)⟩
   rintro σ' H6 ⟨ts,ps,a6,b6,x13',x14',rfl,hs6,pr6,ln6,ok6,hp6,hb6,kp6⟩
   have hr6:=kp6 _ _ hr4 rp
   refine ⟨_,rfl,.inl ⟨rfl,_,SqL.of hr6⟩,?_⟩
   refine ⟨_,rfl,_,rfl,so,P,ts,ps,rfl,hP,hs6,pr6,by omega,ni hP ln6 ok6,λd rs out H7 nd s7 hd po is=>?_⟩
   have hr7:=s7 _ _ hr6
   have dp:d ≠ p:=(ah hp6 nd).symm
   have dr:d ≠ r:=(ah hr6 nd).symm
   refine ⟨r,_,_,rfl,rfl,hr7,by rw [les,lrow,sizeLine_eq]; omega,?_⟩
   have ka:oT [p,r] H4 (upd H7 r (.lst (es++[.ref d]))):=((oT.bag hp4 kp6 (by simp)).trans (.of s7)).trans (oT.put hr7 (by simp))
   have kb:oT [p,r] H7 (upd H7 r (.lst (es++[.ref d]))):=oT.put hr7 (by simp)
   refine hN0 _ _ ⟨es++[.ref d],row++[out],a6,b6,_,_,_,_,_,rfl,ac,aN ?_ (al (λ_ _=>oZ.keep hp ka) pr4),?_,by rw [ao rp.symm]; exact s7 _ _ hp6,hb6.mono (by omega),λc o e hc=>?_⟩
   ·exact ⟨d,rs,rfl,bb (λc o e hc=>kp6 c o (kp4 c o (k2 c o e hc) hc) hc) hp6 nd,dr,by rw [ao dr]; exact hd,po.mono kb.1⟩
   ·rw [take_add_one,ecj]
    exact aN (ent_drawn hP ln6 ok6 is) ok4
   ·rw [ao (ah e nr)]
    exact s7 _ _ (kp6 c o (kp4 c o e hc) hc)
  rintro σ H4 ⟨es,row,a4,b4,x10,x11,x12,x13,x14,rfl,hr4,pr4,ok4,hp4,hb4,kp4⟩
  have k04:∀ c o,H c=some o->c ≠ p->H4 c=some o:=λc o e hc=>kp4 c o (k2 c o e hc) hc
  have hr0:H r=none:=by
   cases e:H r with
   | none=>rfl
   | some o=>rw [k2 r o e rp] at nr; cases nr
  rw [length_map] at ok4 hb4
  rw [take_length] at ok4
  have lrow:row.length=cs.length:=(Paired.length ok4).symm
  have les:es.length=row.length:=Paired.length pr4
  refine ⟨_,rfl,_,rfl,c,r,P,cs,es,row,rfl,k04 _ _ hc cp,hr4,al (λ_ _=>oZ.ent) pr4,by omega,λH5 s5=>⟨rfl,_,rfl,?_⟩⟩
  have hp5:=s5 _ _ hp4
  have hr5:=s5 _ _ hr4
  have pr5:Paired (oZ H r P H5) es row:=al (λ_ _=>oZ.keep hp (.of s5)) pr4
  cases hlv:cv cs row with
  | some hv=>
   have e1:fh cs row=.int hv:=by unfold fh; rw [hlv]
   rw [e1]
   refine br ⟨_,rfl,q r es row a4 b4 H5 hr0 hr5 pr5 ⟨ci+r2,ok4,?_⟩ hp5 (hb4.mono (by omega)) λc o e hc=>s5 _ _ (k04 c o e hc)⟩
   have hn:¬ ∀ e ∈ row,e=[]:=λz=>by rw [(jz lrow).mpr z] at hlv; cases hlv
   exact Classical.byContradiction λz=>hn λe he=>Classical.byContradiction λz2=>z ⟨e,he,z2⟩
  | none=>
   have e1:fh cs row=.non:=by unfold fh; rw [hlv]
   have hall:=(jz lrow).mp hlv
   rw [e1]
   refine bF ⟨_,rfl,_,rfl,_,rfl,_,rfl,c,_,_,_,rfl,rfl,SqL.of (s5 _ _ (k04 _ _ hc cp)),dA eciV,_,_,rfl,rfl,_,rfl,p,L,_,a4,b4,_,rfl,L1,L4,by omega,by omega,hp5,hb4,by omega,λt es6 a6 b6 H6 le6 nn6 sm6 ht6 hp6 hb6 kp6=>?_⟩
   refine ⟨_,rfl,P,rfl,hP,λu7 H7 s7 a7=>⟨(by show 2<=sizeLine; decide),λt8 n8=>⟨(by show 1<=sizeLine; decide),λl9 n9=>?_⟩⟩⟩
   have s8:=oS.new (o:=.tup [.ref t,u7]) n8
   have h8:(upd H7 t8 (.tup [.ref t,u7])) t8=some (.tup [.ref t,u7]):=ac
   generalize upd H7 t8 (.tup [.ref t,u7])=H8 at *
   have s9:=oS.new (o:=.lst [.ref t8]) n9
   have h9:(upd H8 l9 (.lst [.ref t8])) l9=some (.lst [.ref t8]):=ac
   have hp8:=s8 _ _ (s7 _ _ hp6)
   have lp9:l9 ≠ p:=(ah hp8 n9).symm
   have hr8:=s8 _ _ (s7 _ _ (kp6 _ _ hr5 rp))
   have lr9:l9 ≠ r:=(ah hr8 n9).symm
   generalize upd H8 l9 (.lst [.ref t8])=H9 at *
   have hr9:=s9 _ _ hr8
   refine ⟨_,rfl,_,rfl,r,es,_,i,rfl,rfl,hr9,ixN_nat (by omega),?_⟩
   have ka:oT [p,r] H5 H9:=(oT.bag hp5 kp6 (by simp)).trans (.of ((s7.trans s8).trans s9))
   have kb:oT [p,r] H9 (upd H9 r (.lst (es.set i (.ref l9)))):=oT.put hr9 (by simp)
   have hm:es6.sum=r2:=by omega
   have e6:pB P L 110 (ci+r2) ci [(es6,(1,1))]:=by
    refine ⟨⟨pairwise_singleton _ _,λq hq=>?_⟩,by show 1<=3; decide,λq hq=>?_⟩
    ·rw [List.mem_singleton.mp hq]
     refine ⟨?_,⟨Nat.one_lt_two_pow (by decide),Nat.one_lt_two_pow (by decide)⟩,(by show decide (((1:Int),(1:Int)) ≠ (0,1))=true; decide),le6,nn6⟩
     by_cases h0:P=0
     ·exact .inl ⟨h0,(by show (0:Int)<1; decide),(by show Int.gcd 1 1=1; decide)⟩
     ·exact .inr ⟨h0,(by show (0:Int)<=1; decide),(by show 1<P; omega),rfl⟩
    ·rw [List.mem_singleton.mp hq]
     exact ⟨by show es6.sum+ci=ci+r2; omega,by show es6.sum<=4; omega⟩
   refine ⟨_,rfl,q r (es.set i (.ref l9)) (row.set i [(es6,(1,1))]) a6 b6 _ hr0 ac (fM ?_ i (al (λ_ _=>oZ.keep hp (ka.trans kb)) pr5)) ⟨ci+r2,kJ ok4 eci e6,[(es6,(1,1))],?_,by simp⟩ (by rw [ao rp.symm]; exact s9 _ _ hp8) (hb6.mono (by omega)) λc o e hc=>?_⟩
   ·exact ⟨l9,_,rfl,bb (λc o e hc=>s8 _ _ (s7 _ _ (kp6 c o (s5 _ _ (k04 c o e hc)) hc))) hp8 n9,lr9,by rw [ao lr9]; exact h9,.cons ⟨t8,t,u7,rfl,kb.1 _ _ (s9 _ _ h8),kb.1 _ _ (s9 _ _ (s8 _ _ (s7 _ _ ht6))),(((a7.same s8).same s9).mono kb.1)⟩ .nil⟩
   ·exact List.mem_set (by omega) _
   ·rw [ao (λz=>by rw [z,hr0] at e; cases e)]
    exact s9 _ _ (s8 _ _ (s7 _ _ (kp6 c o (s5 _ _ (k04 c o e hc)) hc)))
theorem nd_5:(["_law_a", "_law_b"]:List Str).Nodup:=by decide +kernel
def fpl (a b:Int × Int):Int × Int:=if a.2=b.2 then (a.1+b.1,a.2) else (a.1*(b.2.fdiv (Int.gcd a.2 b.2:Int))+b.1*(a.2.fdiv (Int.gcd a.2 b.2:Int)),a.2*(b.2.fdiv (Int.gcd a.2 b.2:Int)))
def val (P:Int) (x:Int × Int):Int × Int:=if P=0 then nrm x.1 x.2 else (x.1 % P,1)
theorem g8 {x1 x2 y1 y2 z1 z2:Int} (h:y2 ≠ 0) (e1:x1*y2=y1*x2) (e2:y1*z2=z1*y2):x1*z2=z1*x2:=by
 apply Int.eq_of_mul_eq_mul_right h
 have f1:x1*z2*y2=(x1*y2)*z2:=by ac_rfl
 have f2:y1*x2*z2=(y1*z2)*x2:=by ac_rfl
 have f3:z1*y2*x2=z1*x2*y2:=by ac_rfl
 rw [f1,e1,f2,e2,f3]
theorem lO {g u:Int} (hg:0<g) (h:0<g*u):0<u:=by
 rcases Int.lt_or_le 0 u with z | z
 ·exact z
 ·have:=Int.mul_le_mul_of_nonneg_left z (show 0<=g by omega)
  rw [Int.mul_zero] at this
  omega
theorem iR {a b:Int} (ha:0<a) (hb:0<b):a=(Int.gcd a b:Int)*a.fdiv (Int.gcd a b:Int)/\b=(Int.gcd a b:Int)*b.fdiv (Int.gcd a b:Int)/\0<(Int.gcd a b:Int)/\0<a.fdiv (Int.gcd a b:Int)/\0<b.fdiv (Int.gcd a b:Int):=by
 have hg:0<Int.gcd a b:=Int.gcd_pos_of_ne_zero_left b (by omega)
 have hg':(0:Int)<(Int.gcd a b:Int):=by omega
 obtain ⟨u,hu⟩:=Int.gcd_dvd_left (a:=a) (b:=b)
 obtain ⟨v,hv⟩:=Int.gcd_dvd_right (a:=a) (b:=b)
 have e1:a.fdiv (Int.gcd a b:Int)=u:=by
  have:((Int.gcd a b:Int)*u).fdiv (Int.gcd a b:Int)=u:=Int.mul_fdiv_cancel_left u (by omega)
  rw [<- hu] at this; exact this
 have e2:b.fdiv (Int.gcd a b:Int)=v:=by
  have:((Int.gcd a b:Int)*v).fdiv (Int.gcd a b:Int)=v:=Int.mul_fdiv_cancel_left v (by omega)
  rw [<- hv] at this; exact this
 rw [e1,e2]
 refine ⟨hu,hv,hg',?_,?_⟩
 ·exact lO hg' (by rw [<- hu]; exact ha)
 ·exact lO hg' (by rw [<- hv]; exact hb)
theorem oH {a b:Int × Int} (ha:0<a.2) (hb:0<b.2):0<(fpl a b).2:=by
 unfold fpl
 split
 ·exact ha
 ·exact Int.mul_pos ha (iR ha hb).2.2.2.2
theorem nY {a b:Int × Int} (ha:a.2=1) (hb:b.2=1):fpl a b=(a.1+b.1,1):=by
 unfold fpl
 rw [if_pos (by rw [ha,hb]),ha]
theorem fpl_eq {a b:Int × Int} (ha:0<a.2) (hb:0<b.2):(fpl a b).1*(a.2*b.2)=(a.1*b.2+b.1*a.2)*(fpl a b).2:=by
 unfold fpl
 split
 ·rename_i h
  show (a.1+b.1)*(a.2*b.2)=(a.1*b.2+b.1*a.2)*a.2
  rw [<- h,<- Int.add_mul,Int.mul_assoc]
 ·obtain ⟨e1,e2,hg,_,_⟩:=iR ha hb
  generalize a.2.fdiv (Int.gcd a.2 b.2:Int)=u at *
  generalize b.2.fdiv (Int.gcd a.2 b.2:Int)=v at *
  generalize (Int.gcd a.2 b.2:Int)=g at *
  show (a.1*v+b.1*u)*(a.2*b.2)=(a.1*b.2+b.1*a.2)*(a.2*v)
  have k:u*b.2=a.2*v:=by rw [e2]; conv=>rhs; rw [e1]
                         ac_rfl
  rw [Int.add_mul,Int.add_mul]
  have f1:a.1*v*(a.2*b.2)=a.1*b.2*(a.2*v):=by ac_rfl
  have f2:b.1*u*(a.2*b.2)=b.1*a.2*(u*b.2):=by ac_rfl
  rw [f1,f2,k]
theorem val_ok {P:Int} {x:Int × Int} (hP:0<=P) (h:0<x.2):OkN P (val P x):=by
 unfold val
 split
 ·rename_i e; subst e; exact jI (by omega)
 ·exact iQ hP ‹_›
theorem val_fpl {P:Int} {a b:Int × Int} (hP:0<=P) (ha:0<a.2) (hb:0<b.2) (h1:P ≠ 0->a.2=1/\b.2=1):val P (fpl a b)=aS P (val P a) (val P b):=by
 by_cases h:P=0
 ·subst h
  have fp:=oH ha hb
  have fe:=fpl_eq ha hb
  have na:=dv a.1 a.2 (by omega)
  have nb:=dv b.1 b.2 (by omega)
  have pa:=bY a.1 a.2 (by omega)
  have pb:=bY b.1 b.2 (by omega)
  have e1:val 0 (fpl a b)=nrm (fpl a b).1 (fpl a b).2:=by unfold val; rw [if_pos rfl]
  have e2:val 0 a=nrm a.1 a.2:=by unfold val; rw [if_pos rfl]
  have e3:val 0 b=nrm b.1 b.2:=by unfold val; rw [if_pos rfl]
  have r1:=dv (fpl a b).1 (fpl a b).2 (by omega)
  have r2:=bY (fpl a b).1 (fpl a b).2 (by omega)
  have r3:=cD (fpl a b).1 (fpl a b).2 (by omega)
  rw [e1,e2,e3]
  unfold aS
  rw [if_pos rfl]
  generalize nrm a.1 a.2=x at *
  generalize nrm b.1 b.2=y at *
  have hd:x.2*y.2 ≠ 0:=λz=>by have:=Int.mul_pos pa pb; omega
  have s1:=dv (x.1*y.2+y.1*x.2) (x.2*y.2) hd
  have s2:=bY (x.1*y.2+y.1*x.2) (x.2*y.2) hd
  have s3:=cD (x.1*y.2+y.1*x.2) (x.2*y.2) hd
  generalize nrm (x.1*y.2+y.1*x.2) (x.2*y.2)=s at *
  generalize nrm (fpl a b).1 (fpl a b).2=r at *
  have hab:a.2*b.2 ≠ 0:=λz=>by have:=Int.mul_pos ha hb; omega
  have wn:(a.1*b.2+b.1*a.2)*(x.2*y.2)=(x.1*y.2+y.1*x.2)*(a.2*b.2):=by
   rw [Int.add_mul,Int.add_mul]
   have f1:a.1*b.2*(x.2*y.2)=(a.1*x.2)*(b.2*y.2):=by ac_rfl
   have f2:b.1*a.2*(x.2*y.2)=(b.1*y.2)*(a.2*x.2):=by ac_rfl
   rw [f1,f2,<- na,<- nb]
   ac_rfl
  have t1:r.1*(a.2*b.2)=(a.1*b.2+b.1*a.2)*r.2:=g8 (by omega) r1 fe
  have t2:r.1*(x.2*y.2)=(x.1*y.2+y.1*x.2)*r.2:=g8 hab t1 wn
  have t3:r.1*s.2=s.1*r.2:=g8 hd t2 s1.symm
  obtain ⟨p,q⟩:=mZ r2 s2 r3 s3 t3
  exact Prod.ext p q
 ·obtain ⟨a1,b1⟩:=h1 h
  rw [nY a1 b1]
  unfold val aS
  rw [if_neg h,if_neg h,if_neg h,if_neg h]
  show ((a.1+b.1) % P,(1:Int))=((a.1 % P+b.1 % P) % P,1)
  rw [Int.add_emod]
theorem fpl_sz {a b:Int × Int} {i j:Nat} (ha:0<a.2) (hb:0<b.2) (h1:Sz i a) (h2:Sz j b):Sz (i+j+1) (fpl a b):=by
 unfold fpl
 have le1:2 ^ i<=2 ^ (i+j):=dY (by omega)
 have le2:2 ^ j<=2 ^ (i+j):=dY (by omega)
 have le3:2 ^ (i+j)<=2 ^ (i+j+1):=dY (by omega)
 split
 ·refine ⟨?_,?_⟩
  ·have:=(sz_add (Nat.lt_of_lt_of_le h1.1 le1) (Nat.lt_of_lt_of_le h2.1 le2)).1
   exact this
  ·exact Nat.lt_of_lt_of_le h1.2 (Nat.le_trans le1 le3)
 ·obtain ⟨e1,e2,hg,u0,v0⟩:=iR ha hb
  have hu:(a.2.fdiv (Int.gcd a.2 b.2:Int)).natAbs<=a.2.natAbs:=by
   conv=>rhs; rw [e1]
   rw [Int.natAbs_mul]
   exact Nat.le_mul_of_pos_left _ (by omega)
  have hv:(b.2.fdiv (Int.gcd a.2 b.2:Int)).natAbs<=b.2.natAbs:=by
   conv=>rhs; rw [e2]
   rw [Int.natAbs_mul]
   exact Nat.le_mul_of_pos_left _ (by omega)
  have m1:=eI h1.1 (Nat.lt_of_le_of_lt hv h2.2)
  have m2:=eI h2.1 (Nat.lt_of_le_of_lt hu h1.2)
  rw [Nat.add_comm j i] at m2
  have m3:=eI h1.2 (Nat.lt_of_le_of_lt hv h2.2)
  exact ⟨(sz_add m1 m2).1,Nat.lt_of_lt_of_le m3 le3⟩
def jv (m:List aj) (q:aj):List aj:=cR m q.1 (match bn m q.1 with | some y=>fpl y q.2 | none=>q.2)
def cB (ts:List aj):List aj:=ts.foldl jv []
theorem eU {ts:List aj} {i:Nat} {p:aj} (h:ts[i]? = some p):cB (ts.take (i+1))=jv (cB (ts.take i)) p:=by
 unfold cB
 rw [take_add_one,h,foldl_append]
 rfl
def vm (P:Int) (m:List aj):List aj:=m.map λq=>(q.1,val P q.2)
theorem nX (P:Int) (k:List Int):∀ m:List aj,bn (vm P m) k=(bn m k).map (val P)
 | []=>rfl
 | p::r=>by
  show bn ((p.1,val P p.2)::vm P r) k=_
  by_cases e:p.1=k
  ·rw [bp (p:=(p.1,val P p.2)) e,bp e]; rfl
  ·rw [aU (p:=(p.1,val P p.2)) e,aU e,nX P k r]
theorem aput_vm (P:Int) (m:List aj) (k:List Int) (x:Int × Int):vm P (cR m k x)=cR (vm P m) k (val P x):=by
 unfold cR
 rw [nX]
 cases e:bn m k with
 | none=>
  show vm P (m++[(k,x)])=vm P m++[(k,val P x)]
  unfold vm; rw [map_append]; rfl
 | some y=>
  show vm P (m.map λp=>if p.1=k then (p.1,x) else p)=(vm P m).map λp=>if p.1=k then (p.1,val P x) else p
  unfold vm
  rw [map_map,map_map]
  apply List.map_congr_left
  intro p _
  show ((if p.1=k then (p.1,x) else p).1,val P (if p.1=k then (p.1,x) else p).2)=if p.1=k then (p.1,val P x) else (p.1,val P p.2)
  split<;>rfl
def TOk (P:Int) (z:Nat) (q:aj):Prop:=0<q.2.2/\(P ≠ 0->q.2.2=1)/\Sz z q.2
theorem gstep_vm {P:Int} (hP:0<=P) {m:List aj} {q:aj} {y z:Nat} (hm:∀ p ∈ m,TOk P y p) (hq:TOk P z q):vm P (jv m q)=bN P (vm P m) (q.1,val P q.2):=by
 unfold jv bN
 rw [aput_vm]
 show _=cR (vm P m) q.1 (aS P ((bn (vm P m) q.1).getD (0,1)) (val P q.2))
 rw [nX]
 cases e:bn m q.1 with
 | none=>
  show cR (vm P m) q.1 (val P q.2)=cR (vm P m) q.1 (aS P (0,1) (val P q.2))
  rw [cf (val_ok hP hq.1)]
 | some x=>
  have hx:=hm _ (bo e)
  show cR (vm P m) q.1 (val P (fpl x q.2))=cR (vm P m) q.1 (aS P (val P x) (val P q.2))
  rw [val_fpl hP hx.1 hq.1 λh=>⟨hx.2.1 h,hq.2.1 h⟩]
theorem gath_ok {P:Int} {ts:List aj} {z:Nat} (h:∀ q ∈ ts,TOk P z q):∀ i,i<=ts.length->∀ p ∈ cB (ts.take i),TOk P ((z+1)*i) p
 | 0,_,p,hp=>by simp [cB] at hp
 | i+1,hi,p,hp=>by
  obtain ⟨q,eq⟩:∃ q,ts[i]? = some q:=⟨_,getElem?_eq_getElem (by omega)⟩
  have hq:=h q (mem_of_getElem? eq)
  have ih:=gath_ok h i (by omega)
  have e1:(z+1)*(i+1)=(z+1)*i+z+1:=by rw [Nat.mul_add]; omega
  rw [eU eq] at hp
  rcases cX hp with w | w
  ·rw [w]
   cases e:bn (cB (ts.take i)) q.1 with
   | none=>exact ⟨hq.1,hq.2.1,hq.2.2.mono (by omega)⟩
   | some y=>
    have hy:=ih _ (bo e)
    refine ⟨oH hy.1 hq.1,λh0=>?_,?_⟩
    ·show (fpl y q.2).2=1
     rw [nY (hy.2.1 h0) (hq.2.1 h0)]
    ·show Sz ((z+1)*(i+1)) (fpl y q.2)
     rw [e1]
     exact fpl_sz hy.1 hq.1 hy.2.2 hq.2.2
  ·obtain ⟨a,b,c⟩:=ih p w
   exact ⟨a,b,c.mono (by omega)⟩
theorem gath_vm {P:Int} (hP:0<=P) {ts:List aj} {z:Nat} (h:∀ q ∈ ts,TOk P z q):∀ i,i<=ts.length->vm P (cB (ts.take i))=acc P (vm P (ts.take i))
 | 0,_=>by simp [cB,vm,acc]
 | i+1,hi=>by
  obtain ⟨q,eq⟩:∃ q,ts[i]? = some q:=⟨_,getElem?_eq_getElem (by omega)⟩
  rw [eU eq,gstep_vm hP (gath_ok h i (by omega)) (h q (mem_of_getElem? eq)),gath_vm hP h i (by omega)]
  have e:vm P (ts.take (i+1))=vm P (ts.take i)++[(q.1,val P q.2)]:=by
   unfold vm; rw [take_add_one,eq,map_append]; rfl
  rw [e,iU]
theorem iq (ts:List aj):∀ i,(cB (ts.take i)).length<=i
 | 0=>by simp [cB]
 | i+1=>by
  cases e:ts[i]? with
  | none=>
   have h1:ts.take (i+1)=ts.take i:=by rw [take_add_one,e]; simp
   rw [h1]
   have:=iq ts i
   omega
  | some q=>
   rw [eU e]
   have h1:=iq ts i
   have h2:=aput_len (cB (ts.take i)) q.1 (match bn (cB (ts.take i)) q.1 with | some y=>fpl y q.2 | none=>q.2)
   unfold jv
   omega
theorem val_sz {P:Int} {x:Int × Int} {z:Nat} (hP:oU P) (h:0<x.2) (hz:14<=z) (s:Sz z x):Sz z (val P x):=by
 have hB:=hP.b
 unfold val
 split
 ·exact m9 (by omega) s.1 s.2
 ·exact kF hB.1 ‹_› hB.2.1 hz
def bQ (a b:List Int):List Int:=List.zipWith (· + ·) a b
def oK (a:aj) (ps:List aj):List aj:=ps.map λb=>(bQ a.1 b.1,(a.2.1*b.2.1,a.2.2*b.2.2))
def fz (ps qs:List aj):List aj:=ps.flatMap λa=>oK a qs
def kj (P:Int) (a:aj) (ps:List aj):List aj:=ps.map λb=>(bQ a.1 b.1,du P a.2 b.2)
def aW (P:Int) (ps qs:List aj):List aj:=ps.flatMap λa=>kj P a qs
theorem vm_trms (P:Int) (ps qs:List aj):vm P (fz ps qs)=aW P ps qs:=by
 unfold vm fz aW
 rw [List.map_flatMap]
 congr 1
 funext a
 unfold oK kj
 rw [map_map]
 rfl
theorem iD (ps qs:List aj):(fz ps qs).length=ps.length*qs.length:=by
 unfold fz oK
 induction ps with
 | nil=>simp
 | cons a r ih=>
  rw [flatMap_cons,length_append,ih,length_map,length_cons,Nat.add_mul]
  omega
def iM:Sp:=λvs H Q _=>∃ (l l2:Addr) (P:Int) (ts us:List V) (ps qs:List aj),vs=[.int P,.ref l,.ref l2]/\oU P/\H l=some (.lst ts)/\oV P H ts ps/\H l2=some (.lst us)/\oV P H us qs/\ps.length*qs.length<=60/\(∀ p ∈ ps,OkN P p.2/\Sz 2900 p.2/\p.1.length<=10)/\(∀ p ∈ qs,OkN P p.2/\Sz 2900 p.2)/\bO P (aW P ps qs)/\
 ∀ (d:Addr) (rs:List V) (out:List aj) (H':Hp),H d=none->oS H H'->H' d=some (.lst rs)->oV P H' rs out->o7 P (aW P ps qs) out->Q (.ref d) H'
theorem gv (P:Int) (ps qs:List aj):(aW P ps qs).length=ps.length*qs.length:=by
 unfold aW kj
 induction ps with
 | nil=>simp
 | cons a r ih=>
  rw [flatMap_cons,length_append,ih,length_map,length_cons,Nat.add_mul]
  omega
theorem prods_snoc (P:Int) (ps:List aj) (a:aj) (qs:List aj):aW P (ps++[a]) qs=aW P ps qs++kj P a qs:=by
 unfold aW
 rw [flatMap_append]
 simp
theorem pS:oW ["_law_prime_here", "_law_one", "_law_other", "_law_parts", "_law_product_here", "_law_number_here", "_law_there", "_law_second"] ["_law_prime_here", "_law_one", "_law_other"] (am cP):=.i
set_option maxHeartbeats 1000000 in
theorem ok_ltimesS {f:Addr} {fd:FuncData} (F:Fun K "_law_sum_times" "_law_sum_times" cP f fd) (T:Blt mg) (uQ:FnB P w K mg base 2 "_law_times" (spLOp du)) (qS:FnB P w K mg base 4 "_law_sum" fu):oY P w K mg base CX0 5 f fd ["_law_prime_here", "_law_one", "_law_other"] iM:=by
 refine F.o pS λ_ _ _ _ H _ Q _ hr h=>?_
 ·obtain ⟨l,l2,P,ts,us,ps,qs,rfl,hP,hl,pr,hl2,pr2,hn,okp,okq,sok,q⟩:=h
  refine ⟨_,(ag (au (i:=3) pS.nd rfl (Or.inl rfl) (aI ae))
(ag (bc PassesOwn.never rfl (aG K rfl (pv 1)) (bw K (i:=4) (j:=5) rfl rfl pS.nd rfl rfl rfl rfl)
(ak (bc PassesOwn.never rfl (aG K rfl (pv 2)) (bw K (i:=6) (j:=7) rfl rfl pS.nd rfl rfl rfl rfl)
(ak (bh (bmA K rfl (pv 3) (aa (aT (aa (gC K T (by exact aO (N:=["_law_a", "_law_b"]) (src:=[none,none]) rfl rfl rfl (by exact (dB K true true rfl rfl T.zip (aa (pv 4) (aa (pv 6) ae)))) (λ_ _ _=>by exact ⟨by exact (bw K (i:=0) (j:=1) rfl rfl nd_5 rfl rfl rfl rfl),aP,by exact (ap aL (pv 0) (pv 1))⟩))) (aa (aq uQ hr.m (aa (pv 0) (aa (pv 5) (aa (pv 7) ae)))) ae))) ae)))))))
(ak (ar (aq qS hr.m (aa (pv 0) (aa (pv 3) ae))))))),?_⟩
  refine ⟨Nat.zero_le _,λd nd=>?_⟩
  have s1:=oS.new (o:=.lst []) nd
  have hd1:(upd H d (.lst [])) d=some (.lst []):=ac
  generalize upd H d (.lst [])=H1 at *
  have lt:ts.length=ps.length:=Paired.length pr
  have lu:us.length=qs.length:=Paired.length pr2
  refine ⟨_,rfl,l,rfl,⟨_,SqL.of (s1 _ _ hl)⟩,cx (xs:=ts) (λi σ H'=>∃ (ws:List V) (x4 x5 x6 x7:Option V),σ=[some (.int P),some (.ref l),some (.ref l2),some (.ref d),x4,x5,x6,x7]/\oS H H'/\H' d=some (.lst ws)/\oV P H' ws (aW P (ps.take i) qs)) ?_ ?_ ?_ ?_⟩
  ·exact ⟨[],none,none,none,none,rfl,s1,hd1,by rw [take_zero]; exact .nil⟩
  ·rintro i σ H' _ ⟨ws,x4,x5,x6,x7,rfl,sm,_⟩
   exact SqL.of (sm _ _ hl)
  ·rintro i v σ H2 hx ⟨ws,x4,x5,x6,x7,rfl,sm,hd2,pw⟩ N0 B0 hN0
   obtain ⟨a,ea,ta,ka,ua,rfl,h1,h2,h3⟩:=pr.at_ hx
   have ma:a ∈ ps:=mem_of_getElem? ea
   refine ⟨ta,_,rfl,SqT.of (sm _ _ h1),rfl,_,_,rfl,_,_,rfl,rfl,?_⟩
   refine ⟨_,rfl,l2,rfl,⟨_,SqL.of (sm _ _ hl2)⟩,cx (xs:=us) (λj σ H'=>∃ (ws:List V) (x6 x7:Option V),σ=[some (.int P),some (.ref l),some (.ref l2),some (.ref d),some (.ref ka),some ua,x6,x7]/\oS H H'/\H' d=some (.lst ws)/\oV P H' ws (aW P (ps.take i) qs++kj P a (qs.take j))) ?_ ?_ ?_ ?_⟩
   ·exact ⟨ws,_,_,rfl,sm,hd2,by rw [take_zero,show kj P a []=[] from rfl,append_nil]; exact pw⟩
   ·rintro j σ H' _ ⟨ws,x6,x7,rfl,sm,_⟩
    exact SqL.of (sm _ _ hl2)
   ·rintro j v σ H3 hy ⟨ws3,y6,y7,rfl,sm3,hd3,pw3⟩ N1 B1 hN1
    obtain ⟨b,eb,tb,kb,ub,rfl,g1,g2,g3⟩:=pr2.at_ hy
    have mb:b ∈ qs:=mem_of_getElem? eb
    refine ⟨tb,_,rfl,SqT.of (sm3 _ _ g1),rfl,_,_,rfl,_,_,rfl,rfl,?_⟩
    refine ⟨_,rfl,.inl ⟨rfl,_,SqL.of hd3⟩,?_⟩
    have lk:(a.1.map V.int).length<=sizeLine:=by rw [length_map,sizeLine_eq]; have:=(okp a ma).2.2; omega
    refine ⟨_,rfl,_,rfl,ka,kb,rfl,⟨_,ji (SqT.of (sm3 _ _ h2))⟩,⟨_,ji (SqT.of (sm3 _ _ g2))⟩,comp_zip (v2 λi j=>.int (i+j)) rfl (ji (SqT.of (sm3 _ _ h2))) (ji (SqT.of (sm3 _ _ g2))) lk (λi x y H4 R hx hy s4 hR=>?_) (λacc H4 hacc s4 hl4=>?_)⟩
    ·obtain ⟨z,_,rfl⟩:=cW hx
     obtain ⟨z',_,rfl⟩:=cW hy
     exact ⟨_,rfl,_,rfl,_,_,rfl,rfl,hR⟩
    ·rw [zip_v2,zw_map V.int] at hl4
     refine ⟨acc,_,rfl,SqL.of hl4,λt5 n5=>?_⟩
     have s5:=oS.new (o:=.tup ((List.zipWith (· + ·) a.1 b.1).map V.int)) n5
     have h5:(upd H4 t5 (.tup ((List.zipWith (· + ·) a.1 b.1).map V.int))) t5=some (.tup ((List.zipWith (· + ·) a.1 b.1).map V.int)):=ac
     generalize upd H4 t5 (.tup ((List.zipWith (· + ·) a.1 b.1).map V.int))=H5 at *
     have s35:=s4.trans s5
     have sm5:=sm3.trans s35
     refine ⟨_,rfl,_,rfl,_,rfl,P,ua,ub,a.2,b.2,rfl,hP,h3.same sm5,g3.same sm5,(okp a ma).1,(okq b mb).1,(okp a ma).2.1,(okq b mb).2,λu6 H6 s6 a6=>?_⟩
     refine ⟨(by show 2<=sizeLine; decide),λt7 n7=>?_⟩
     have s7:=oS.new (o:=.tup [.ref t5,u6]) n7
     have h7:(upd H6 t7 (.tup [.ref t5,u6])) t7=some (.tup [.ref t5,u6]):=ac
     generalize upd H6 t7 (.tup [.ref t5,u6])=H7 at *
     have s37:=(s35.trans s6).trans s7
     have hd7:=s37 _ _ hd3
     have lw:ws3.length<=60:=by
      have e:=Paired.length pw3
      have e1:=gv P (ps.take i) qs
      have e2:(kj P a (qs.take j)).length=(qs.take j).length:=length_map _
      rw [length_append,e1,e2,length_take,length_take] at e
      have il:i<ps.length:=(List.getElem?_eq_some_iff.mp ea).1
      have jl:j<qs.length:=(List.getElem?_eq_some_iff.mp eb).1
      rw [Nat.min_eq_left (Nat.le_of_lt il),Nat.min_eq_left (Nat.le_of_lt jl)] at e
      have e3:(i+1)*qs.length<=ps.length*qs.length:=Nat.mul_le_mul_right _ il
      rw [Nat.add_mul] at e3
      omega
     refine ⟨d,_,_,rfl,rfl,hd7,by rw [sizeLine_eq]; omega,?_⟩
     have kc:oT [d] H7 (upd H7 d (.lst (ws3++[.ref t7]))):=oT.put hd7 (by simp)
     refine hN1 _ _ ⟨ws3++[.ref t7],_,_,rfl,λc o e=>?_,ac,?_⟩
     ·rw [ao (ah e nd)]
      exact s37 _ _ (sm3 _ _ e)
     ·have e8:kj P a (qs.take (j+1))=kj P a (qs.take j)++[(bQ a.1 b.1,du P a.2 b.2)]:=by
       unfold kj
       rw [take_add_one,eb,map_append]
       rfl
      rw [e8,<- append_assoc]
      exact oV.snoc ⟨t7,t5,u6,rfl,kc.1 _ _ h7,kc.1 _ _ (s7 _ _ (s6 _ _ h5)),(a6.same s7).mono kc.1⟩ ((pw3.mono λt xs e=>s37 _ _ e).mono kc.1)
   ·rintro σ H3 ⟨ws3,y6,y7,rfl,sm3,hd3,pw3⟩
    refine hN0 _ _ ⟨ws3,_,_,_,_,rfl,sm3,hd3,?_⟩
    rw [lu,take_length] at pw3
    rw [take_add_one,ea]
    rw [show ps.take i++(some a).toList=ps.take i++[a] from rfl,prods_snoc]
    exact pw3
  ·rintro σ H2 ⟨ws,x4,x5,x6,x7,rfl,sm,hd2,pw⟩
   rw [lt,take_length] at pw
   refine ⟨_,rfl,_,rfl,d,P,ws,_,rfl,hP,hd2,pw,by rw [gv]; exact hn,sok,λdd rs out H3 n3 s3 hd3 po is=>?_⟩
   exact q dd rs out H3 (sm.free n3) (sm.trans s3) hd3 po is
theorem zadd_len {a b:List Int} (h:a.length=b.length):(bQ a b).length=b.length:=by
 unfold bQ
 rw [List.length_zipWith,h,Nat.min_self]
theorem zadd_inj {b:List Int}:∀ {a a':List Int},a.length=b.length->a'.length=b.length->bQ a b=bQ a' b->a=a':=by
 induction b with
 | nil=>
  intro a a' h1 h2 _
  rw [List.length_eq_zero_iff.mp h1,List.length_eq_zero_iff.mp h2]
 | cons z b ih=>
  intro a a' h1 h2 e
  cases a with
  | nil=>simp at h1
  | cons x a=>
   cases a' with
   | nil=>simp at h2
   | cons y a'=>
    have e':(x+z)::bQ a b=(y+z)::bQ a' b:=e
    injection e' with e1 e2
    rw [ih (by simpa using h1) (by simpa using h2) e2,show x=y by omega]
theorem i4:∀ {a b:List Int},a.length=b.length->(bQ a b).sum=a.sum+b.sum
 | [],[],_=>rfl
 | [],_::_,h=>by simp at h
 | _::_,[],h=>by simp at h
 | x::a,y::b,h=>by
  show ((x+y)::bQ a b).sum=_
  rw [sum_cons,sum_cons,sum_cons,i4 (by simpa using h)]
  omega
theorem oi:∀ {a b:List Int},(∀ e ∈ a,0<=e)->(∀ e ∈ b,0<=e)->∀ e ∈ bQ a b,0<=e
 | [],_,_,_,e,he=>by simp [bQ] at he
 | _::_,[],_,_,e,he=>by simp [bQ] at he
 | x::a,y::b,ha,hb,e,he=>by
  rcases List.mem_cons.mp (show e ∈ (x+y)::bQ a b from he) with z | z
  ·have:=ha x (by simp)
   have:=hb y (by simp)
   omega
  ·exact oi (λe he=>ha e (by simp [he])) (λe he=>hb e (by simp [he])) e z
structure ByOk (P L:Int) (b:List Int) (n:Int × Int):Prop where
 len:(b.length:Int)=L
 nn:∀ e ∈ b,0<=e
 ok:OkN P n
 sz:Sz 14 n
 nz:n ≠ (0,1)
theorem prods_one (P:Int) (e:List aj) (b:aj):aW P e [b]=e.map λq=>(bQ q.1 b.1,du P q.2 b.2):=by
 unfold aW kj
 induction e with
 | nil=>rfl
 | cons q r ih=>rw [flatMap_cons,ih]; rfl
theorem js {P L:Int} (hP:oU P) {S:Nat} (hS:14<=S) {e:List aj} {b:List Int} {n:Int × Int} (c:o8 P L S e) (hb:ByOk P L b n):((aW P e [(b,n)]).map (·.1)).Nodup/\∀ q ∈ aW P e [(b,n)],OkN P q.2/\Sz (S+15) q.2/\_root_.K.nz q=true/\(q.1.length:Int)=L/\(∀ x ∈ q.1,0<=x)/\∃ r ∈ e,q.1.sum=r.1.sum+b.sum:=by
 have hB:=hP.b
 have ln:∀ q ∈ e,q.1.length=b.length:=λq hq=>by have:=(c.2 q hq).2.2.2.1; have:=hb.len; omega
 rw [prods_one]
 refine ⟨?_,λq hq=>?_⟩
 ·rw [map_map]
  have nd:=c.nodup
  rw [List.Nodup,pairwise_map] at nd ⊢
  refine nd.imp_of_mem λ{x y} hx hy hxy z=>hxy (zadd_inj (ln x hx) (ln y hy) z)
 ·obtain ⟨r,hr,rfl⟩:=List.mem_map.mp hq
  obtain ⟨o,sz,nzr,len,nn⟩:=c.2 r hr
  refine ⟨nC hB.1 o hb.ok,(dC hB.1 hB.2.1 o hb.ok sz hb.sz hS).2.2.mono (by omega),?_,?_,oi nn hb.nn,r,hr,i4 (ln r hr)⟩
  ·have:r.2 ≠ (0,1):=of_decide_eq_true nzr
   exact decide_eq_true (mul_nz hP o hb.ok this hb.nz)
  ·show ((bQ r.1 b).length:Int)=L
   rw [zadd_len (ln r hr)]
   exact hb.len
theorem sumOk_times {P L:Int} (hP:oU P) {S:Nat} (hS:14<=S) (hS2:S+15<=2900) {e:List aj} {b:List Int} {n:Int × Int} (c:o8 P L S e) (hb:ByOk P L b n):bO P (aW P e [(b,n)]):=by
 obtain ⟨nd,ok⟩:=js hP hS c hb
 exact fP nd λq hq=>⟨(ok q hq).1,(ok q hq).2.1.mono hS2⟩
theorem canon_times {P L:Int} (hP:oU P) {S:Nat} (hS:14<=S) {e out:List aj} {b:List Int} {n:Int × Int} (c:o8 P L S e) (hb:ByOk P L b n) (is:o7 P (aW P e [(b,n)]) out):o8 P L (S+15) out/\out.length=e.length/\∀ q ∈ out,∃ r ∈ e,q.1.sum=r.1.sum+b.sum:=by
 obtain ⟨nd,ok⟩:=js hP hS c hb
 have e1:acc P (aW P e [(b,n)])=aW P e [(b,n)]:=eV nd λq hq=>(ok q hq).1
 have e2:(aW P e [(b,n)]).filter _root_.K.nz=aW P e [(b,n)]:=List.filter_eq_self.mpr λq hq=>(ok q hq).2.2.1
 have pm:=is.1
 rw [e1,e2] at pm
 have mem:∀ q ∈ out,q ∈ aW P e [(b,n)]:=λq hq=>pm.mem_iff.mp hq
 refine ⟨⟨is.2,λq hq=>?_⟩,?_,λq hq=>(ok q (mem q hq)).2.2.2.2.2⟩
 ·have z:=ok q (mem q hq)
  exact ⟨z.1,z.2.1,z.2.2.1,z.2.2.2.1,z.2.2.2.2.1⟩
 ·rw [pm.length_eq,gv]
  simp
theorem ent_times {P L h c:Int} (hP:oU P) {S:Nat} (hS:14<=S) {e out:List aj} {b:List Int} {n:Int × Int} (k:pB P L S h c e) (hb:ByOk P L b n) (b1:b.sum=1) (h3:∀ q ∈ e,q.1.sum<=3) (is:o7 P (aW P e [(b,n)]) out):pB P L (S+15) (h+1) c out/\out.length=e.length:=by
 obtain ⟨cn,ln,sm⟩:=canon_times hP hS k.1 hb is
 refine ⟨⟨cn,by rw [ln]; exact k.2.1,λq hq=>?_⟩,ln⟩
 obtain ⟨r,hr,e1⟩:=sm q hq
 have z:=k.2.2 r hr
 have z3:=h3 r hr
 omega
theorem nd_6:(["_law_letter"]:List Str).Nodup:=by decide +kernel
theorem nd_7:(["_law_place", "_law_unit_here", "_law_at"]:List Str).Nodup:=by decide +kernel
theorem nd_8:(["_law_part", "_law_place", "_law_at"]:List Str).Nodup:=by decide +kernel
theorem nd_9:(["_law_entry"]:List Str).Nodup:=by decide +kernel
theorem nd_10:(["_law_entry", "_law_prime_here", "_law_by"]:List Str).Nodup:=by decide +kernel
def nQ:Sp:=λvs H Q _=>∃ (p c rw:Addr) (P L a b:Int) (k S:Nat) (cs:List Int) (ws:List V) (rows:List (List (List aj))),vs=[.int P,.int L,.ref c,.ref rw,.ref p]/\oU P/\1<=L/\L<=4/\H c=some (.lst (cs.map V.int))/\c ≠ p/\1<=cs.length/\cs.length<=3/\H rw=some (.lst ws)/\rw ≠ p/\Paired (RowA [p] P H) ws rows/\rows ≠ []/\rows.length<=5/\14<=S/\S<=1000/\(∀ row ∈ rows,pO P L S cs row)/\H p=some (.lst [.int a,.int b])/\pc a b k/\k<=50000/\
 ∀ (r:Addr) (es:List V) (row:List (List aj)) (a' b':Int) (H':Hp),H r=none->H' r=some (.lst es)->Paired (oZ H r P H') es row->pO P L (S+15) cs row->H' p=some (.lst [.int a',.int b'])->pc a' b' (k+50)->(∀ c o,H c=some o->c ≠ p->H' c=some o)->Q (.ref r) H'
theorem one_ok {P L:Int} (hP:oU P) {b:List Int} (h:(b.length:Int)=L) (nn:∀ e ∈ b,0<=e):ByOk P L b (1,1):=by
 have hB:=hP.b
 refine ⟨h,nn,?_,⟨Nat.one_lt_two_pow (by decide),Nat.one_lt_two_pow (by decide)⟩,by decide⟩
 by_cases h0:P=0
 ·exact .inl ⟨h0,(by show (0:Int)<1; decide),(by show Int.gcd 1 1=1; decide)⟩
 ·exact .inr ⟨h0,(by show (0:Int)<=1; decide),(by show 1<P; omega),rfl⟩
theorem ent_unit {P L h c:Int} (hP:oU P) {b:List Int} (hl:(b.length:Int)=L) (nn:∀ e ∈ b,0<=e) (hs:b.sum+c=h) (h4:b.sum<=4) {S:Nat} (hS:14<=S):pB P L S h c [(b,(1,1))]:=by
 have z:=one_ok hP hl nn
 refine ⟨⟨pairwise_singleton _ _,λq hq=>?_⟩,by show 1<=3; decide,λq hq=>?_⟩
 ·rw [List.mem_singleton.mp hq]
  exact ⟨z.ok,z.sz.mono hS,(by show decide (((1:Int),(1:Int)) ≠ (0,1))=true; decide),hl,nn⟩
 ·rw [List.mem_singleton.mp hq]
  exact ⟨hs,h4⟩
theorem ent_nil {P L h c:Int} {S:Nat}:pB P L S h c []:=⟨⟨.nil,λq hq=>by cases hq⟩,by show 0<=3; decide,λq hq=>by cases hq⟩
theorem oZ.from {H0 H0':Hp} {r:Addr} {P:Int} {H:Hp} {v:V} {e:List aj} (b:∀ l,H0' l=none->H0 l=none) (h:oZ H0' r P H v e):oZ H0 r P H v e:=by
 obtain ⟨l,ts,rfl,l0,lr,hl,pr⟩:=h
 exact ⟨l,ts,rfl,b l l0,lr,hl,pr⟩
def eh (n i:Nat) (e:List aj):List (List aj):=(List.range n).map λj=>if j=i then e else []
theorem nR (n i:Nat) (e:List aj):eh (n+1) i e=eh n i e++[if n=i then e else []]:=by
 unfold eh
 rw [range_succ,map_append]
 rfl
theorem unitRow_ok {P L:Int} {S:Nat} {h:Int} {e:List aj} {i:Nat} {ci:Int}:∀ {cs:List Int},cs[i]? = some ci->pB P L S h ci e->Paired (pB P L S h) cs (eh cs.length i e):=by
 intro cs hi he
 have go:∀ (cs:List Int) (k:Nat),(∀ j c,cs[j]? = some c->k+j=i->c=ci)->Paired (pB P L S h) cs ((List.range cs.length).map λj=>if k+j=i then e else []):=by
  intro cs
  induction cs with
  | nil=>intro k _; exact .nil
  | cons c r ih=>
   intro k hc
   rw [length_cons,List.range_succ_eq_map,map_cons,map_map]
   refine .cons ?_ ?_
   ·by_cases z:k+0=i
    ·rw [if_pos z,hc 0 c rfl z]
     exact he
    ·rw [if_neg z]
     exact ent_nil
   ·have z:=ih (k+1) λj c' hj hk=>hc (j+1) c' hj (by omega)
    have e1:((λj=>if k+j=i then e else []) ∘ Nat.succ)=λj=>if k+1+j=i then e else []:=by
     funext j
     show (if k+(j+1)=i then e else [])=_
     rw [show k+(j+1)=k+1+j by omega]
    rw [e1]
    exact z
 have z:=go cs 0 λj c hj hk=>by
  rw [Nat.zero_add] at hk
  subst hk
  rw [hi] at hj
  exact (Option.some.inj hj).symm
 unfold eh
 simpa using z
theorem pD:oW ["_law_prime_here", "_law_letters", "_law_columns_here", "_law_rows", "_law_bag_here", "_law_row", "_law_way", "_law_at", "_law_unit_here", "_law_by"] ["_law_prime_here", "_law_letters", "_law_columns_here", "_law_rows", "_law_bag_here"] (am cN):=.i
set_option maxHeartbeats 4000000 in
theorem ok_again {f:Addr} {fd:FuncData} (F:Fun K "_law_again_row" "_law_again_row" cN f fd) (T:Blt mg) (qO:FnB P w K mg base 1 "_law_take" cw) (qU:FnB P w K mg base 4 "_law_number" dD) (qT:FnB P w K mg base 2 "_law_product" i6) (qX:FnB P w K mg base 5 "_law_sum_times" iM) (rq:FnB P w K mg base 1 "_law_nought" kK) (rO:FnB P w K mg base 1 "_law_unit" spUnit) :
  oY P w K mg base CX0 6 f fd ["_law_prime_here", "_law_letters", "_law_columns_here", "_law_rows", "_law_bag_here"] nQ:=by
 refine F.o pD λ_ _ _ _ H _ Q _ hr h=>?_
 ·obtain ⟨p,c,rw,P,L,a,b,k,S,cs,ws,rows,rfl,hP,L1,L4,hc,cp,c1,c3,hrw,rwp,prs,rne,r5,hS,hS2,okr,hp,hb,hk,q⟩:=h
  have hB:=hP.b
  have lw:ws.length=rows.length:=Paired.length prs
  have lpos:1<=rows.length:=by
   cases rows with
   | nil=>exact absurd rfl rne
   | cons x r=>rw [length_cons]; omega
  refine ⟨_,(ag (au (i:=5) pD.nd rfl (Or.inl rfl) (aB (aE K rfl) (pv 3) (aq qO hr.m (aa (pv 4) (aa (bq K T (pv 3)) ae))) (λ_ _=>rfl)))
(ag (au (i:=6) pD.nd rfl (Or.inl rfl) (aq qO hr.m (aa (pv 4) (aa af ae))))
(ag (aH (aw bM (pv 6) af (ay _))
(ag (au (i:=7) pD.nd rfl (Or.inr rfl) (aq qO hr.m (aa (pv 4) (aa (bq K T (pv 2)) ae))))
(ag (au (i:=8) pD.nd rfl (Or.inr rfl) (aI (aa (aT (aa (gC K T (by exact aO (N:=["_law_letter"]) (src:=[none]) rfl rfl rfl (by exact (ba rfl T.range (aa (pv 1) ae))) (λ_ _ _=>by exact ⟨by exact (bP (i:=0) nd_6 rfl rfl),aP,by exact af⟩))) (aa (aq rO hr.m (aa (pv 0) ae)) ae))) ae)))
(ak (ar (by exact pe_compC (N:=["_law_place", "_law_unit_here", "_law_at"]) (src:=[none,some 8,some 7]) rfl rfl rfl (by exact (ba rfl T.range (aa (bq K T (pv 2)) ae))) (λ_ _ _=>by exact ⟨by exact (aF (i:=0) nd_7 rfl (Or.inr rfl)),aP,by exact (by exact aO (N:=["_law_part", "_law_place", "_law_at"]) (src:=[none,some 0,some 2]) rfl rfl rfl (by exact (aG K rfl (pv 1))) (λ_ _ _=>by exact ⟨by exact (bP (i:=0) nd_8 rfl rfl),(fF (aw bM (pv 1) (pv 2) (ay _))),by exact (pv 0)⟩))⟩))))))
aA)
(ag (aH (PW.pt (fH (aw bM (pv 6) af (ay _)) (ft (aw dZ (j9 T (by exact aO (N:=["_law_entry"]) (src:=[none]) rfl rfl rfl (by exact (aG K rfl (pv 5))) (λ_ _ _=>by exact ⟨by exact (bP (i:=0) nd_9 rfl rfl),(fF (aw (kneD K rfl hr.units) (pv 0) (aI ae) (ay _))),by exact (iL K T (aB (az K rfl) (aB (aE K rfl) (pv 0) af (λ_ _=>rfl)) af (λ_ _=>rfl)) true)⟩)) false) af (ay _)))))
(ak (ar (by exact aO (N:=["_law_entry"]) (src:=[none]) rfl rfl rfl (by exact (aG K rfl (pv 5))) (λ_ _ _=>by exact ⟨by exact (bP (i:=0) nd_9 rfl rfl),aP,by exact (kl K T (pv 0))⟩))))
aA)
(ag (au (i:=9) pD.nd rfl (Or.inr rfl) (aI (aa (aT (aa (aq qT hr.m (aa (pv 1) (aa af (aa (pv 4) ae)))) (aa (aq qU hr.m (aa (pv 0) (aa (pv 4) (aa bV ae)))) ae))) ae)))
(ag (aH (aw (keqD K rfl hr.units) (aB (az K rfl) (aB (aE K rfl) (pv 9) af (λ_ _=>rfl)) af (λ_ _=>rfl)) (aq rq hr.m (aa (pv 0) ae)) (ay _))
(ak (au (i:=9) pD.nd rfl (Or.inr rfl) (aI (aa (aT (aa (aB (az K rfl) (aB (aE K rfl) (pv 9) af (λ_ _=>rfl)) af (λ_ _=>rfl)) (aa (aq rO hr.m (aa (pv 0) ae)) ae))) ae))))
aA)
(ak (ar (by exact aO (N:=["_law_entry", "_law_prime_here", "_law_by"]) (src:=[none,some 0,some 9]) rfl rfl rfl (by exact (aG K rfl (pv 5))) (λ_ _ _=>by exact ⟨by exact (bP (i:=0) nd_10 rfl rfl),aP,by exact (aq qX hr.m (aa (pv 1) (aa (pv 0) (aa (pv 2) ae))))⟩)))))))))),?_⟩
  refine ⟨_,rfl,_,rfl,_,rfl,rw,ws,rfl,.inl (SqL.of hrw),p,a,b,_,k,rfl,hp,hb,by omega,by omega,aD (by omega) (by omega),λr1 a1 b1 r10 r11 hb1=>?_⟩
  have k1:∀ c o,H c=some o->c ≠ p->upd H p (.lst [.int a1,.int b1]) c=some o:=λc o e hc=>by rw [ao hc]; exact e
  have hp1:(upd H p (.lst [.int a1,.int b1])) p=some (.lst [.int a1,.int b1]):=ac
  generalize upd H p (.lst [.int a1,.int b1])=H1 at *
  obtain ⟨i,rfl⟩:=Int.eq_ofNat_of_zero_le r10
  have hi:i<ws.length:=by omega
  obtain ⟨v,ev⟩:∃ v,ws[i]? = some v:=⟨_,getElem?_eq_getElem hi⟩
  obtain ⟨row,er,r,es,rfl,rp,hr1,pe⟩:=aC prs ev
  obtain ⟨ht,okh,e0,me0,ne0⟩:=okr row (mem_of_getElem? er)
  have rp:r ≠ p:=by simpa using rp
  have lrow:row.length=cs.length:=(Paired.length okh).symm
  have les:es.length=row.length:=Paired.length pe
  refine ⟨rw,ws,_,_,rfl,rfl,SqL.of (k1 _ _ hrw rwp),dA ev,?_⟩
  refine ⟨_,rfl,p,a1,b1,4,k+1,rfl,hp1,hb1,by omega,by decide,aD (by decide) (by decide),λwy a2 b2 wy0 wy1 hb2=>?_⟩
  have k2:∀ c o,H c=some o->c ≠ p->upd H1 p (.lst [.int a2,.int b2]) c=some o:=λc o e hc=>by rw [ao hc]; exact k1 c o e hc
  have hp2:(upd H1 p (.lst [.int a2,.int b2])) p=some (.lst [.int a2,.int b2]):=ac
  generalize upd H1 p (.lst [.int a2,.int b2])=H2 at *
  have ka2:oT [p] H H2:=oT.bag hp k2 (by simp)
  have hr2:=k2 _ _ hr1 rp
  have pe2:Paired (EntA [p] P H2) es row:=al (λ_ _=>EntA.keep ka2) pe
  refine ⟨_,rfl,rfl,_,rfl,bu (λh=>?_) (λh=>?_)⟩
  ·refine ⟨_,rfl,_,rfl,c,_,rfl,.inl (SqL.of (k2 _ _ hc cp)),p,a2,b2,_,k+2,rfl,hp2,hb2,by omega,by rw [length_map]; omega,by rw [length_map]; exact aD (by omega) (by omega),λat3 a3 b3 r30 r31 hb3=>?_⟩
   have k3:∀ c o,H c=some o->c ≠ p->upd H2 p (.lst [.int a3,.int b3]) c=some o:=λc o e hc=>by rw [ao hc]; exact k2 c o e hc
   have hp3:(upd H2 p (.lst [.int a3,.int b3])) p=some (.lst [.int a3,.int b3]):=ac
   generalize upd H2 p (.lst [.int a3,.int b3])=H3 at *
   obtain ⟨ai,rfl⟩:=Int.eq_ofNat_of_zero_le r30
   rw [length_map] at r31
   obtain ⟨ci,eci⟩:∃ ci,cs[ai]? = some ci:=⟨_,getElem?_eq_getElem (by omega)⟩
   refine ⟨_,rfl,L,rfl,by omega,by omega,aX (n:=L.toNat) (σ0:=[none]) rfl (λacc i ws σ H'=>∃ u:Option V,σ=[u]/\oS H3 H'/\ws=(List.replicate i (0:Int)).map V.int) (by rw [sizeLine_eq]; omega) (λacc hacc=>⟨none,rfl,oS.new hacc,rfl⟩) ?_ ?_ ?_ ?_⟩
   ·rintro acc i ws σ H' hacc hi hz _
    exact hi
   ·rintro acc ws σ H' hacc hz _
    exact Nat.le_refl _
   ·rintro acc j ws σ H' x H'' hacc hj hz hzl ⟨u,rfl,sm,rfl⟩ ⟨rfl,rfl⟩
    refine ⟨_,hz,(by rw [sizeLine_eq]; omega),_,ac,by rw [length_append,length_singleton]; omega,_,rfl,sm.put hacc,?_⟩
    rw [List.replicate_succ',map_append]
    rfl
   rintro acc ws σ H4 hacc hz hzl ⟨u,rfl,s4,rfl⟩
   refine ⟨acc,_,rfl,SqL.of hz,λc5 n5=>?_⟩
   have s5:=oS.new (o:=.tup ((List.replicate L.toNat (0:Int)).map V.int)) n5
   have h5:(upd H4 c5 (.tup ((List.replicate L.toNat (0:Int)).map V.int))) c5=some (.tup ((List.replicate L.toNat (0:Int)).map V.int)):=ac
   generalize upd H4 c5 (.tup ((List.replicate L.toNat (0:Int)).map V.int))=H5 at *
   refine ⟨_,rfl,P,rfl,hP,λu6 H6 s6 a6=>⟨(by show 2<=sizeLine; decide),λt7 n7=>⟨(by show 1<=sizeLine; decide),λl8 n8=>?_⟩⟩⟩
   have s7:=oS.new (o:=.tup [.ref c5,u6]) n7
   have h7:(upd H6 t7 (.tup [.ref c5,u6])) t7=some (.tup [.ref c5,u6]):=ac
   generalize upd H6 t7 (.tup [.ref c5,u6])=H7 at *
   have s8:=oS.new (o:=.lst [.ref t7]) n8
   have h8:(upd H7 l8 (.lst [.ref t7])) l8=some (.lst [.ref t7]):=ac
   generalize upd H7 l8 (.lst [.ref t7])=H8 at *
   have s38:=(((s4.trans s5).trans s6).trans s7).trans s8
   have k8:∀ c o,H c=some o->c ≠ p->H8 c=some o:=λc o e hc=>s38 _ _ (k3 c o e hc)
   have hp8:=s38 _ _ hp3
   have zl:((List.replicate L.toNat (0:Int)).length:Int)=L:=by rw [length_replicate]; omega
   have zn:∀ e ∈ List.replicate L.toNat (0:Int),0<=e:=λe he=>by rw [List.eq_of_mem_replicate he]; decide
   have zs:(List.replicate L.toNat (0:Int)).sum=0:=by simp
   have pu:PartR P H8 (.ref t7) (List.replicate L.toNat 0,(1,1)):=⟨t7,c5,u6,rfl,s8 _ _ h7,s8 _ _ (s7 _ _ (s6 _ _ h5)),(a6.same s7).same s8⟩
   refine ⟨_,rfl,c,_,rfl,.inl (SqL.of (k8 _ _ hc cp)),_,rfl,by omega,by rw [length_map]; omega,aX (n:=cs.length) (σ0:=[none,some (.ref l8),some (.int (ai:Int))]) rfl (λacc j ws σ H'=>∃ u:Option V,σ=[u,some (.ref l8),some (.int (ai:Int))]/\oS H8 H'/\Paired (oZ H acc P H') ws (eh j ai [(List.replicate L.toNat 0,(1,1))])) (by rw [sizeLine_eq]; omega) (λacc hacc=>⟨none,rfl,oS.new hacc,.nil⟩) ?_ ?_ ?_ ?_⟩
   ·rintro acc i ws σ H' hacc hi hz _
    rw [length_map]
    exact hi
   ·rintro acc ws σ H' hacc hz _
    show _<=_
    rw [length_map]
    omega
   ·rintro acc j ws σ H9 x H' hacc hj hz hzl ⟨u,rfl,s9,pw⟩ ⟨rfl,rfl⟩
    refine ⟨_,rfl,l8,rfl,⟨_,SqL.of (s9 _ _ h8)⟩,aX (n:=1) (σ0:=[none,some (.int (0+(j:Int))),some (.int (ai:Int))]) rfl (λacc2 i ws2 σ H2'=>∃ u:Option V,σ=[u,some (.int (0+(j:Int))),some (.int (ai:Int))]/\oS H' H2'/\ws2=if i=1/\j=ai then [.ref t7] else []) (by show 1<=sizeLine; decide) (λacc2 hacc2=>⟨none,rfl,oS.new hacc2,by simp⟩) ?_ ?_ ?_ ?_⟩
    ·rintro acc2 i ws2 σ H2' hacc2 hi hz2 ⟨u,rfl,s10,_⟩
     have:i=0:=by omega
     subst this
     exact ⟨_,.ref t7,SqL.of (s10 _ _ (s9 _ _ h8)),rfl⟩
    ·rintro acc2 ws2 σ H2' hacc2 hz2 ⟨u,rfl,s10,_⟩
     exact ⟨_,SqL.of (s10 _ _ (s9 _ _ h8)),Nat.le_refl _⟩
    ·rintro acc2 i ws2 σ H10 x2 H10' hacc2 hi hz2 hzl2 ⟨u,rfl,s10,rfl⟩ ⟨rfl,gx⟩
     have:i=0:=by omega
     subst this
     have hx:=gx _ (SqL.of (s10 _ _ (s9 _ _ h8)))
     cases hx
     refine ⟨_,rfl,_,rfl,rfl,_,rfl,bu (λh=>?_) (λh=>?_)⟩
     ·have hj:j=ai:=by have:=of_decide_eq_true h; injection this with this; omega
      refine ⟨_,rfl,_,hz2,(by rw [if_neg (by simp)]; show 0<sizeLine; decide),_,ac,by rw [if_neg (by simp)]; show 1<=1; decide,_,rfl,s10.put hacc2,?_⟩
      rw [if_neg (by simp),if_pos ⟨rfl,hj⟩]
      rfl
     ·have hj:¬ j=ai:=λz=>h (decide_eq_true (by rw [z]; congr 1; omega))
      refine ⟨_,hz2,by rw [if_neg (by simp)]; show 0<=1; decide,_,rfl,s10,?_⟩
      rw [if_neg (by simp),if_neg (λz=>hj z.2)]
    ·rintro acc2 ws2 σ H10 hacc2 hz2 hzl2 ⟨u,rfl,s10,e2⟩
     have la:acc2 ≠ acc:=λz=>by rw [z,hz] at hacc2; cases hacc2
     have hz3:=s10 _ _ hz
     have ka:oT [acc] H' (upd H10 acc (.lst (ws++[.ref acc2]))):=(oT.of s10).trans (oT.put hz3 (by simp))
     have kb:oT [acc] H10 (upd H10 acc (.lst (ws++[.ref acc2]))):=oT.put hz3 (by simp)
     have lws:ws.length=j:=by rw [Paired.length pw]; unfold eh; rw [length_map,length_range]
     refine ⟨ws,hz3,by rw [lws,sizeLine_eq]; omega,_,ac,by rw [length_append,length_singleton]; omega,_,rfl,(s9.trans s10).put hacc,?_⟩
     rw [nR]
     refine aN ?_ (al (λ_ _=>oZ.keepA (av:=[acc]) (λa ha=>.inl (by simpa using ha)) ka) pw)
     refine ⟨acc2,ws2,rfl,bb (λc o e hc=>s9 _ _ (k8 c o e hc)) (s9 _ _ hp8) hacc2,la,by rw [ao la]; exact hz2,?_⟩
     rw [e2]
     by_cases hj:j=ai
     ·rw [if_pos ⟨rfl,hj⟩,if_pos hj]
      exact .cons ((pu.mono λt xs e=>s10 _ _ (s9 _ _ e)).mono kb.1) .nil
     ·rw [if_neg (λz=>hj z.2),if_neg hj]
      exact .nil
   ·rintro acc ws σ H9 hacc hz hzl ⟨u,rfl,s9,pw⟩
    refine q acc ws _ a3 b3 H9 (bb k8 hp8 hacc) hz pw ⟨ci,unitRow_ok eci (ent_unit hP zl zn (by rw [zs]; omega) (by rw [zs]; decide) (by omega)),[(List.replicate L.toNat 0,(1,1))],?_,by simp⟩ (s9 _ _ hp8) (hb3.mono (by omega)) λc o e hc=>s9 _ _ (k8 c o e hc)
    unfold eh
    refine List.mem_map.mpr ⟨ai,List.mem_range.mpr (by omega),if_pos rfl⟩
  have er2:Paired (pA P H2) es row:=al (λ_ _=>EntA.ent) pe2
  have okS:pO P L (S+15) cs row:=pO.mono ⟨ht,okh,e0,me0,ne0⟩ (by omega)
  refine ⟨_,rfl,rfl,_,rfl,bu (λh1=>bF ?_) (λh1=>?_)⟩
  ·refine ⟨_,rfl,r,rfl,⟨_,SqL.of hr2⟩,nH rfl hr2 er2 (by omega) λacc es' H3 hacc s3 h3 pw=>?_⟩
   exact q acc es' row a2 b2 H3 (bb k2 hp2 hacc) h3 (al (λ_ _=>oZ.from λl z=>bb k2 hp2 z) pw) okS (s3 _ _ hp2) (hb2.mono (by omega)) λc o e hc=>s3 _ _ (k2 c o e hc)
  refine ⟨_,rfl,r,rfl,⟨_,SqL.of hr2⟩,aX (n:=es.length) (σ0:=[none]) rfl (λacc i ws σ H'=>∃ (u:Option V) (ds:List Int),σ=[u]/\oS H2 H'/\ws=ds.map V.int/\ds.length<=i/\∀ j<i,∀ q t,row[j]? = some (q::t)->q.1.sum ∈ ds) (by rw [sizeLine_eq]; omega) (λacc hacc=>⟨none,[],rfl,oS.new hacc,rfl,Nat.le_refl _,λj hj=>absurd hj (by omega)⟩) ?_ ?_ ?_ ?_⟩
  ·rintro acc i ws σ H' hacc hi hz ⟨u,ds,rfl,sm,_⟩
   exact ⟨es,es[i],SqL.of (sm _ _ hr2),by simp [hi]⟩
  ·rintro acc ws σ H' hacc hz ⟨u,ds,rfl,sm,_⟩
   exact ⟨es,SqL.of (sm _ _ hr2),Nat.le_refl _⟩
  ·rintro acc i ws σ H3 x H' hacc hi hz hzl ⟨u,ds,rfl,sm,rfl,ld,hd⟩ ⟨rfl,gx⟩
   have hx:=gx es (SqL.of (sm _ _ hr2))
   obtain ⟨e,ee,l,ts,rfl,hl,pe'⟩:=aC er2 hx
   refine ⟨_,rfl,Nat.zero_le _,λl4 n4=>?_⟩
   have s4:=oS.new (o:=.lst []) n4
   have h4:(upd H' l4 (.lst [])) l4=some (.lst []):=ac
   generalize upd H' l4 (.lst [])=H4 at *
   have sm4:=sm.trans s4
   refine ⟨dS P e,dS P [],gc (sm4 _ _ hl) (pe'.mono λt xs e=>sm4 _ _ e),gc h4 .nil,bI _ _,bI _ _,_,rfl,?_⟩
   rw [oh]
   cases e with
   | nil=>
    refine br ⟨_,s4 _ _ hz,by rw [length_map]; omega,_,ds,rfl,sm4,rfl,by omega,λj hj q t hjt=>?_⟩
    by_cases h:j<i
    ·exact hd j h q t hjt
    ·have:j=i:=by omega
     subst this
     rw [ee] at hjt
     cases hjt
   | cons q0 t0=>
    cases pe' with
    | cons pq pt=>
     obtain ⟨tq,kq,uq,rfl,g1,g2,g3⟩:=pq
     refine bF ⟨_,rfl,l,_,_,_,rfl,rfl,SqL.of (sm4 _ _ hl),gu _ _,tq,_,_,_,rfl,rfl,SqT.of (sm4 _ _ g1),rfl,kq,_,rfl,ji (SqT.of (sm4 _ _ g2)),?_⟩
     refine ⟨_,s4 _ _ hz,by rw [length_map,sizeLine_eq]; omega,_,ac,by rw [length_append,length_map,length_singleton]; omega,_,ds++[q0.1.sum],rfl,sm4.put hacc,by rw [map_append]; rfl,by rw [length_append,length_singleton]; omega,λj hj q t hjt=>?_⟩
     by_cases h:j<i
     ·exact mem_append_left _ (hd j h q t hjt)
     ·have:j=i:=by omega
      subst this
      rw [ee] at hjt
      cases hjt
      simp
  rintro acc ws σ H3 hacc hz hzl ⟨u,ds,rfl,s3,rfl,ld,hd⟩
  have dmem:∀ e ∈ row,∀ q t,e=q::t->q.1.sum ∈ ds:=λe he q t z=>by
   obtain ⟨j,hj,rfl⟩:=getElem_of_mem he
   exact hd j (by omega) q t (by rw [getElem?_eq_getElem hj,z])
  have dne:ds ≠ []:=by
   cases e0 with
   | nil=>exact absurd rfl ne0
   | cons q0 t0=>
    intro z
    have:=dmem _ me0 q0 t0 rfl
    rw [z] at this
    cases this
  have hp3:=s3 _ _ hp2
  have hr3:=s3 _ _ hr2
  have er3:Paired (pA P H3) es row:=al (λ_ _=>pA.same s3) er2
  have k3:∀ c o,H c=some o->c ≠ p->H3 c=some o:=λc o e hc=>s3 _ _ (k2 c o e hc)
  refine ⟨acc,ds,rfl,bJ (SqL.of hz),dne,λm hm hmx=>⟨_,_,rfl,rfl,_,rfl,bu (λh2=>?_) (λh2=>?_)⟩⟩
  ·refine ⟨_,rfl,r,rfl,⟨_,SqL.of hr3⟩,nH rfl hr3 er3 (by omega) λacc es' H4 hacc s4 h4 pw=>?_⟩
   exact q acc es' row a2 b2 H4 (bb k3 hp3 hacc) h4 (al (λ_ _=>oZ.from λl z=>bb k3 hp3 z) pw) okS (s4 _ _ hp3) (hb2.mono (by omega)) λc o e hc=>s4 _ _ (k3 c o e hc)
  have m3:m<=3:=by
   have:¬ 3<m:=λz=>h2 (decide_eq_true z)
   omega
  refine ⟨_,rfl,_,rfl,p,L,1,a2,b2,k+2,rfl,L1,L4,by decide,by decide,hp3,hb2,by omega,λt bs a4 b4 H4 le4 nn4 sm4 ht4 hp4 hb4 kp4=>?_⟩
  refine ⟨_,rfl,_,rfl,p,P,a4,b4,_,rfl,hP,hp4,hb4,by omega,λv x a5 b5 H5 av ox sx hp5 hb5 kp5=>?_⟩
  refine ⟨(by show 2<=sizeLine; decide),λt6 n6=>⟨(by show 1<=sizeLine; decide),λl7 n7=>?_⟩⟩
  have k45:=oT.bag (av:=[p]) hp4 kp5 (by simp)
  have s6:=oS.new (o:=.tup [.ref t,v]) n6
  have h6:(upd H5 t6 (.tup [.ref t,v])) t6=some (.tup [.ref t,v]):=ac
  generalize upd H5 t6 (.tup [.ref t,v])=H6 at *
  have s7:=oS.new (o:=.lst [.ref t6]) n7
  have h7:(upd H6 l7 (.lst [.ref t6])) l7=some (.lst [.ref t6]):=ac
  generalize upd H6 l7 (.lst [.ref t6])=H7 at *
  have s57:=s6.trans s7
  have p7:PartR P H7 (.ref t6) (bs,x):=⟨t6,t,v,rfl,s7 _ _ h6,s57 _ _ (k45.1 _ _ ht4),av.same s57⟩
  have k7:∀ c o,H c=some o->c ≠ p->H7 c=some o:=λc o e hc=>s57 _ _ (kp5 c o (kp4 c o (k3 c o e hc) hc) hc)
  have hp7:=s57 _ _ hp5
  have hr7:H7 r=some (.lst es):=s57 _ _ (kp5 _ _ (kp4 _ _ hr3 rp) rp)
  have ka7:oT [p] H H7:=oT.bag hp k7 (by simp)
  have pe7:Paired (pA P H7) es row:=al (λ_ _ z=>(EntA.keep ka7 z).ent) pe
  dsimp only
  refine gs (t:=jp _ _ _) (λσ' H'=>∃ (l8:Addr) (t8:Addr) (n8:Int × Int),σ'=[some (.int P),some (.int L),some (.ref c),some (.ref rw),some (.ref p),some (.ref r),some (.int wy),none,none,some (.ref l8)]/\oS H7 H'/\H' l8=some (.lst [.ref t8])/\PartR P H' (.ref t8) (bs,n8)/\ByOk P L bs n8) (λR hR=>?_) ?_
  ·refine ⟨_,rfl,l7,_,_,_,rfl,rfl,SqL.of h7,gu _ _,t6,_,_,_,rfl,rfl,SqT.of (s7 _ _ h6),rfl,_,rfl,P,rfl,hP,λr8 H8 s8 a8=>?_⟩
   refine ⟨dN P x,dN P (0,1),iP ((av.same s57).same s8),iP a8,bU _ _,bU _ _,_,rfl,?_⟩
   rw [jP ox (cI hB.1 hB.2.2)]
   refine bu (λh3=>?_) (λh3=>?_)
   ·refine ⟨_,rfl,l7,_,_,_,rfl,rfl,SqL.of (s8 _ _ h7),gu _ _,t6,_,_,_,rfl,rfl,SqT.of (s8 _ _ (s7 _ _ h6)),rfl,_,rfl,P,rfl,hP,λu9 H9 s9 a9=>⟨(by show 2<=sizeLine; decide),λt10 n10=>⟨(by show 1<=sizeLine; decide),λl11 n11=>?_⟩⟩⟩
    have s10:=oS.new (o:=.tup [.ref t,u9]) n10
    have h10:(upd H9 t10 (.tup [.ref t,u9])) t10=some (.tup [.ref t,u9]):=ac
    generalize upd H9 t10 (.tup [.ref t,u9])=H10 at *
    have s11:=oS.new (o:=.lst [.ref t10]) n11
    refine hR _ _ ⟨l11,t10,(1,1),rfl,((s8.trans s9).trans s10).trans s11,ac,⟨t10,t,u9,rfl,s11 _ _ h10,s11 _ _ (s10 _ _ (s9 _ _ (s8 _ _ (s57 _ _ (k45.1 _ _ ht4))))),(a9.same s10).same s11⟩,one_ok hP le4 nn4⟩
   ·exact hR _ _ ⟨l7,t6,x,rfl,s8,s8 _ _ h7,p7.mono λt xs e=>s8 _ _ e,⟨le4,nn4,ox,iS hP ox sx,λz=>h3 (decide_eq_true z)⟩⟩
  rintro σ' H8 ⟨l8,t8,n8,rfl,s8,h8,p8,by8⟩
  have hr8:=s8 _ _ hr7
  have hp8:=s8 _ _ hp7
  have pe8:Paired (pA P H8) es row:=al (λ_ _=>pA.same s8) pe7
  have k8:∀ c o,H c=some o->c ≠ p->H8 c=some o:=λc o e hc=>s8 _ _ (k7 c o e hc)
  refine ⟨_,rfl,r,rfl,⟨_,SqL.of hr8⟩,aX (n:=es.length) (σ0:=[none,some (.int P),some (.ref l8)]) rfl (λacc i ws σ H'=>∃ (u:Option V) (row':List (List aj)),σ=[u,some (.int P),some (.ref l8)]/\oS H8 H'/\Paired (oZ H acc P H') ws row'/\Paired (pB P L (S+15) (ht+1)) (cs.take i) row'/\∀ (j:Nat) (e e':List aj),row[j]? = some e->row'[j]? = some e'->e'.length=e.length) (by rw [sizeLine_eq]; omega) (λacc hacc=>⟨none,[],rfl,oS.new hacc,.nil,by rw [take_zero]; exact .nil,λj e e' _ z=>by cases z⟩) ?_ ?_ ?_ ?_⟩
  ·rintro acc i ws σ H' hacc hi hz ⟨u,row',rfl,sm,_⟩
   exact ⟨es,es[i],SqL.of (sm _ _ hr8),by simp [hi]⟩
  ·rintro acc ws σ H' hacc hz ⟨u,row',rfl,sm,_⟩
   exact ⟨es,SqL.of (sm _ _ hr8),Nat.le_refl _⟩
  ·rintro acc i ws σ H9 x9 H' hacc hi hz hzl ⟨u,row',rfl,sm,pw,okw,hlen⟩ ⟨rfl,gx⟩
   have hx:=gx es (SqL.of (sm _ _ hr8))
   obtain ⟨e,ee,l,ts,rfl,hl,pe'⟩:=aC pe8 hx
   have ic:i<cs.length:=by omega
   obtain ⟨ci,eci⟩:∃ ci,cs[i]? = some ci:=⟨_,getElem?_eq_getElem ic⟩
   have oke:pB P L S ht ci e:=aV okh eci ee
   have h3e:∀ q ∈ e,q.1.sum<=3:=λq hq=>by
    cases e with
    | nil=>cases hq
    | cons q0 t0=>
     have z0:=hmx _ (dmem _ (mem_of_getElem? ee) q0 t0 rfl)
     have z1:=(oke.2.2 q hq).1
     have z2:=(oke.2.2 q0 (by simp)).1
     omega
   have lrow':row'.length=i:=by rw [<- Paired.length okw,length_take]; omega
   have lws:ws.length=i:=by rw [Paired.length pw,lrow']
   refine ⟨_,rfl,_,rfl,_,rfl,l,l8,P,ts,[.ref t8],e,[(bs,n8)],rfl,hP,sm _ _ hl,pe'.mono (λt xs e=>sm _ _ e),sm _ _ h8,.cons (p8.mono λt xs e=>sm _ _ e) .nil,(by have:=oke.2.1; show e.length*1<=60; omega),λq hq=>⟨(oke.1.2 q hq).1,(oke.1.2 q hq).2.1.mono (by omega),by have:=(oke.1.2 q hq).2.2.2.1; omega⟩,λq hq=>by rw [List.mem_singleton.mp hq]; exact ⟨by8.ok,by8.sz.mono (by decide)⟩,sumOk_times hP hS (by omega) oke.1 by8,λd rs out H10 nd s10 hd10 po is=>?_⟩
   obtain ⟨okt,lnt⟩:=ent_times hP hS oke by8 sm4 h3e is
   have hz10:=s10 _ _ hz
   have da:d ≠ acc:=λz=>by rw [z,hz] at nd; cases nd
   have ka:oT [acc] H' (upd H10 acc (.lst (ws++[.ref d]))):=(oT.of s10).trans (oT.put hz10 (by simp))
   have kb:oT [acc] H10 (upd H10 acc (.lst (ws++[.ref d]))):=oT.put hz10 (by simp)
   refine ⟨ws,hz10,by rw [lws,sizeLine_eq]; omega,_,ac,by rw [length_append,length_singleton]; omega,_,row' ++ [out],rfl,(sm.trans s10).put hacc,aN ?_ (al (λ_ _=>oZ.keepA (av:=[acc]) (λa ha=>.inl (by simpa using ha)) ka) pw),?_,λj e1 e2 z1 z2=>?_⟩
   ·exact ⟨d,rs,rfl,bb (λc o e hc=>sm _ _ (k8 c o e hc)) (sm _ _ hp8) nd,da,by rw [ao da]; exact hd10,po.mono kb.1⟩
   ·rw [take_add_one,eci]
    exact aN okt okw
   ·by_cases hj:j<row'.length
    ·rw [getElem?_append_left hj] at z2
     exact hlen j e1 e2 z1 z2
    ·rw [getElem?_append_right (by omega)] at z2
     have hj0:j-row'.length=0:=by
      have:=(List.getElem?_eq_some_iff.mp z2).1
      simp at this
      omega
     rw [hj0] at z2
     have:j=i:=by omega
     subst this
     rw [ee] at z1
     cases z1
     cases z2
     exact lnt
  ·rintro acc ws σ H9 hacc hz hzl ⟨u,row',rfl,sm,pw,okw,hlen⟩
   rw [les,lrow,take_length] at okw
   refine q acc ws row' a5 b5 H9 (bb k8 hp8 hacc) hz pw ⟨ht+1,okw,?_⟩ (sm _ _ hp8) (hb5.mono (by omega)) λc o e hc=>sm _ _ (k8 c o e hc)
   obtain ⟨j,hj,rfl⟩:=getElem_of_mem me0
   have lr':row'.length=row.length:=by rw [<- Paired.length okw,lrow]
   have hj':j<row'.length:=by omega
   refine ⟨row'[j],getElem_mem hj',λz=>ne0 ?_⟩
   have e1:=hlen j _ _ (getElem?_eq_getElem hj) (getElem?_eq_getElem hj')
   rw [z] at e1
   exact List.length_eq_zero_iff.mp e1.symm
theorem nd_11:(["_law_place", "_law_row"]:List Str).Nodup:=by decide +kernel
theorem nd_12:(["_law_place", "_law_entry", "_law_at"]:List Str).Nodup:=by decide +kernel
theorem cut_hi (xs:List V) (n:Nat) (h:n<=xs.length):cutV xs none (some (n:Int))=xs.take n:=by
 unfold cutV
 rw [HT.sIx_nat,HT.sIx_none,Nat.min_eq_left h]
 simp
theorem jw {α β:Type} {R:α->β->Prop}:∀ {xs:List α} {ys:List β} (n:Nat),Paired R xs ys->Paired R (xs.take n) (ys.take n)
 | _,_,0,_=>by rw [take_zero,take_zero]; exact .nil
 | _,_,n+1,.nil=>.nil
 | _,_,n+1,.cons q r=>.cons q (jw n r)
theorem jX {α β:Type} {R:α->β->Prop}:∀ {xs xs':List α} {ys ys':List β},Paired R xs ys->Paired R xs' ys'->Paired R (xs++xs') (ys++ys')
 | _,_,_,_,.nil,h=>h
 | _,_,_,_,.cons q r,h=>.cons q (jX r h)
theorem pg_pairC {X:Cx} (F:Frag) {i j:Nat} {x y:Str} {p1 p2 pos:Pos} {k:Nat} (hK:X.K=F) (hc:X.calm=true) (hN:X.N.Nodup) (hi:X.N[i]? = some x) (hj:X.N[j]? = some y) (hx:Loc X.env.scope x) (fx:X.fn x=true\/X.env.scope.names.lookup x=some .local) (hy:Loc X.env.scope y) (fy:X.fn y=true\/X.env.scope.names.lookup y=some .local) :
  PG X (.Tuple [.Name x p1,.Name y p2] k pos) (gTup F 2 (iJ (cC i) (iJ (cC j) gNil))):=by
 subst hK
 exact gb hc (aK (aF hN hi hx fx) (aK (aF hN hj hy fy) eA))
def md:Sp:=λvs H Q _=>∃ (r:Addr) (P L:Int) (S:Nat) (cs:List Int) (es:List V) (row:List (List aj)),vs=[.ref r]/\H r=some (.lst es)/\Paired (pA P H) es row/\pO P L S cs row/\cs.length<=3/\
 ∀ (r':Addr) (es':List V) (row':List (List aj)) (H':Hp),H r'=none->oS H H'->H' r'=some (.lst es')->Paired (oZ H r' P H') es' row'->pO P L S cs row'->Q (.ref r') H'
def ef (row:List (List aj)) (n i:Nat):List (List aj):=(List.range n).map λj=>if j=i then (row.getD j []).take 1 else []
theorem nE (row:List (List aj)) (n i:Nat):ef row (n+1) i=ef row n i++[if n=i then (row.getD n []).take 1 else []]:=by
 unfold ef
 rw [range_succ,map_append]
 rfl
theorem ent_take {P L:Int} {S:Nat} {h c:Int} {e:List aj} (k:pB P L S h c e):pB P L S h c (e.take 1):=
 ⟨⟨k.1.1.sublist (take_sublist _ _),λp hp=>k.1.2 p (mem_of_mem_take hp)⟩,by have:=k.2.1; rw [length_take]; omega,λq hq=>k.2.2 q (mem_of_mem_take hq)⟩
theorem partRow_ok {P L:Int} {S:Nat} {h:Int} {i:Nat}:∀ {cs:List Int} {row:List (List aj)},Paired (pB P L S h) cs row->Paired (pB P L S h) cs (ef row row.length i):=by
 intro cs row pr
 have go:∀ (cs:List Int) (row:List (List aj)) (k:Nat),Paired (pB P L S h) cs row->Paired (pB P L S h) cs ((List.range row.length).map λj=>if k+j=i then (row.getD j []).take 1 else []):=by
  intro cs
  induction cs with
  | nil=>intro row k pr; cases pr; exact .nil
  | cons c r ih=>
   intro row k pr
   cases pr with
   | cons he hr=>
    rename_i e rr
    rw [length_cons,List.range_succ_eq_map,map_cons,map_map]
    refine .cons ?_ ?_
    ·show pB P L S h c (if k+0=i then e.take 1 else [])
     split
     ·exact ent_take he
     ·exact ent_nil
    ·have z:=ih rr (k+1) hr
     have e1:((λj=>if k+j=i then ((e::rr).getD j []).take 1 else []) ∘ Nat.succ)=λj=>if k+1+j=i then (rr.getD j []).take 1 else []:=by
      funext j
      show (if k+(j+1)=i then ((e::rr).getD (j+1) []).take 1 else [])=_
      rw [show k+(j+1)=k+1+j by omega]
      rfl
     rw [e1]
     exact z
 have z:=go cs row 0 pr
 unfold ef
 simpa using z
theorem cut_to1 (ts:List V):cutV ts none (some 1)=ts.take 1:=by
 cases ts with
 | nil=>rfl
 | cons a r=>exact cut_hi (a::r) 1 (by simp)
theorem qk:oW ["_law_row", "_law_at"] ["_law_row"] (am dh):=.i
set_option maxHeartbeats 1000000 in
theorem ok_onepart {f:Addr} {fd:FuncData} (F:Fun K "_law_one_part" "_law_one_part" dh f fd) (T:Blt mg):oY P w K mg base CX0 1 f fd ["_law_row"] md:=by
 refine F.o qk λ_ _ _ _ H _ Q _ hr h=>?_
 ·obtain ⟨r,P,L,S,cs,es,row,rfl,hr',pr,⟨ht,okh,e0,me0,ne0⟩,c3,q⟩:=h
  have lrow:row.length=cs.length:=(Paired.length okh).symm
  have les:es.length=row.length:=Paired.length pr
  refine ⟨_,(ag (au (i:=1) qk.nd rfl (Or.inr rfl) (j9 T (by exact aO (N:=["_law_place", "_law_row"]) (src:=[none,some 0]) rfl rfl rfl (by exact (ba rfl T.range (aa (bq K T (pv 0)) ae))) (λ_ _ _=>by exact ⟨by exact (bP (i:=0) nd_11 rfl rfl),(fF (aw (kneD K rfl hr.units) (aB (aE K rfl) (pv 1) (pv 0) (λ_ _=>rfl)) (aI ae) (ay _))),by exact (pv 0)⟩)) false))
(ak (ar (by exact pe_compC (N:=["_law_place", "_law_entry", "_law_at"]) (src:=[none,none,some 1]) rfl rfl rfl (by exact (kpi_enum K rfl rfl T.enum (aa (pv 0) ae))) (λ_ _ _=>by exact ⟨by exact (pg_pairC K (i:=0) (j:=1) rfl rfl nd_12 rfl rfl (Or.inr rfl) (Or.inl rfl) (Or.inl rfl) (Or.inr rfl)),aP,by exact (by exact aO (N:=["_law_part", "_law_place", "_law_at"]) (src:=[none,some 0,some 2]) rfl rfl rfl (by exact (aG K rfl (pe_slice (ksl_list K rfl) (pv 1) po_none (po_some af)))) (λ_ _ _=>by exact ⟨by exact (bP (i:=0) nd_8 rfl rfl),(fF (aw bM (pv 1) (pv 2) (ay _))),by exact (pv 0)⟩))⟩))))),?_⟩
  refine ⟨_,rfl,r,_,rfl,.inl (SqL.of hr'),_,rfl,by omega,by omega,aX (n:=es.length) (σ0:=[none,some (.ref r)]) rfl (λacc i ws σ H'=>∃ (u:Option V) (ds:List Int),σ=[u,some (.ref r)]/\oS H H'/\ws=ds.map V.int/\ds.length<=i/\(∀ x ∈ ds,∃ (j:Nat) (e:List aj),x=(j:Int)/\row[j]? = some e/\e ≠ [])/\∀ j<i,∀ q t,row[j]? = some (q::t)->(j:Int) ∈ ds) (by rw [sizeLine_eq]; omega) (λacc hacc=>⟨none,[],rfl,oS.new hacc,rfl,Nat.le_refl _,λx hx=>absurd hx (by simp),λj hj=>absurd hj (by omega)⟩) ?_ ?_ ?_ ?_⟩
  ·rintro acc i ws σ H' hacc hi hz _
   exact hi
  ·rintro acc ws σ H' hacc hz _
   exact Nat.le_refl _
  ·rintro acc i ws σ H3 x H' hacc hi hz hzl ⟨u,ds,rfl,sm,rfl,ld,hds,hd⟩ ⟨rfl,rfl⟩
   have hx:es[i]? = some es[i]:=getElem?_eq_getElem hi
   obtain ⟨e,ee,l,ts,el,hl,pe'⟩:=aC pr hx
   have hx':es[i]? = some (.ref l):=by rw [hx,el]
   refine ⟨_,rfl,_,rfl,r,es,_,_,rfl,rfl,SqL.of (sm _ _ hr'),(by rw [Int.zero_add]; exact dA hx'),Nat.zero_le _,λl4 n4=>?_⟩
   have s4:=oS.new (o:=.lst []) n4
   have h4:(upd H' l4 (.lst [])) l4=some (.lst []):=ac
   generalize upd H' l4 (.lst [])=H4 at *
   have sm4:=sm.trans s4
   refine ⟨dS P e,dS P [],gc (sm4 _ _ hl) (pe'.mono λt xs e=>sm4 _ _ e),gc h4 .nil,bI _ _,bI _ _,_,rfl,?_⟩
   rw [oh]
   cases e with
   | nil=>
    refine br ⟨_,s4 _ _ hz,by rw [length_map]; omega,_,ds,rfl,sm4,rfl,by omega,hds,λj hj q t hjt=>?_⟩
    by_cases h:j<i
    ·exact hd j h q t hjt
    ·have:j=i:=by omega
     subst this
     rw [ee] at hjt
     cases hjt
   | cons q0 t0=>
    refine bF ⟨_,rfl,_,s4 _ _ hz,by rw [length_map,sizeLine_eq]; omega,_,ac,by rw [length_append,length_map,length_singleton]; omega,_,ds++[(i:Int)],rfl,sm4.put hacc,by rw [map_append,Int.zero_add]; rfl,by rw [length_append,length_singleton]; omega,λx hx=>?_,λj hj q t hjt=>?_⟩
    ·rcases List.mem_append.mp hx with z | z
     ·exact hds x z
     ·exact ⟨i,q0::t0,List.mem_singleton.mp z,ee,by simp⟩
    ·by_cases h:j<i
     ·exact mem_append_left _ (hd j h q t hjt)
     ·have:j=i:=by omega
      subst this
      simp
  rintro acc ws σ H3 hacc hz hzl ⟨u,ds,rfl,s3,rfl,ld,hds,hd⟩
  have dne:ds ≠ []:=by
   obtain ⟨j,hj,rfl⟩:=getElem_of_mem me0
   cases e:row[j] with
   | nil=>exact absurd e ne0
   | cons q0 t0=>
    intro z
    have:=hd j (by omega) q0 t0 (by rw [getElem?_eq_getElem hj,e])
    rw [z] at this
    cases this
  refine ⟨acc,ds,rfl,bJ (SqL.of hz),dne,λm hm hmx=>?_⟩
  obtain ⟨ai,ea,rfl,eea,nea⟩:=hds m hm
  have hr3:=s3 _ _ hr'
  refine ⟨_,rfl,r,rfl,⟨_,SqL.of hr3⟩,aX (n:=es.length) (σ0:=[none,none,some (.int (ai:Int))]) rfl (λacc j ws σ H'=>∃ u v:Option V,σ=[u,v,some (.int (ai:Int))]/\oS H3 H'/\Paired (oZ H acc P H') ws (ef row j ai)) (by rw [sizeLine_eq]; omega) (λacc hacc=>⟨none,none,rfl,oS.new hacc,.nil⟩) ?_ ?_ ?_ ?_⟩
  ·rintro acc j ws σ H' hacc hj hz ⟨u,v,rfl,sm,_⟩
   exact ⟨es,es[j],SqL.of (sm _ _ hr3),by simp [hj]⟩
  ·rintro acc ws σ H' hacc hz ⟨u,v,rfl,sm,_⟩
   exact ⟨es,SqL.of (sm _ _ hr3),Nat.le_refl _⟩
  ·rintro acc j ws σ H9 x H' hacc hj hz hzl ⟨u,v,rfl,s9,pw⟩ ⟨pp,x1,rfl,npp,rfl,gx⟩
   have hx:=gx es (SqL.of (s9 _ _ hr3))
   obtain ⟨e,ee,l,ts,rfl,hl,pe'⟩:=aC pr hx
   have s10:=oS.new (o:=.tup [.int (j:Int),.ref l]) npp
   have h10:(upd H9 pp (.tup [.int (j:Int),.ref l])) pp=some (.tup [.int (j:Int),.ref l]):=ac
   generalize upd H9 pp (.tup [.int (j:Int),.ref l])=H10 at *
   have sA:=(s3.trans s9).trans s10
   refine ⟨pp,_,rfl,SqT.of h10,rfl,_,_,rfl,_,_,rfl,rfl,?_⟩
   refine ⟨_,rfl,_,rfl,l,ts,rfl,SqL.of (sA _ _ hl),λl11 n11=>?_⟩
   have hcut:cutV ts none (some 1)=ts.take 1:=cut_to1 ts
   rw [hcut]
   have s11:=oS.new (o:=.lst (ts.take 1)) n11
   have h11:(upd H10 l11 (.lst (ts.take 1))) l11=some (.lst (ts.take 1)):=ac
   generalize upd H10 l11 (.lst (ts.take 1))=H11 at *
   have pt:oV P H11 (ts.take 1) (e.take 1):=jw 1 (pe'.mono λt xs e=>s11 _ _ (sA _ _ e))
   have l1:(ts.take 1).length<=1:=by rw [length_take]; omega
   refine ⟨l11,rfl,⟨_,SqL.of h11⟩,aX (n:=(ts.take 1).length) (σ0:=[none,some (.int (j:Int)),some (.int (ai:Int))]) rfl (λacc2 i ws2 σ H2'=>∃ u:Option V,σ=[u,some (.int (j:Int)),some (.int (ai:Int))]/\oS H11 H2'/\ws2=if j=ai then (ts.take 1).take i else []) (by rw [sizeLine_eq]; omega) (λacc2 hacc2=>⟨none,rfl,oS.new hacc2,by simp⟩) ?_ ?_ ?_ ?_⟩
   ·rintro acc2 i ws2 σ H2' hacc2 hi hz2 ⟨u,rfl,s12,_⟩
    exact ⟨_,(ts.take 1)[i],SqL.of (s12 _ _ h11),getElem?_eq_getElem hi⟩
   ·rintro acc2 ws2 σ H2' hacc2 hz2 ⟨u,rfl,s12,_⟩
    exact ⟨_,SqL.of (s12 _ _ h11),Nat.le_refl _⟩
   ·rintro acc2 i ws2 σ H12 x2 H12' hacc2 hi hz2 hzl2 ⟨u,rfl,s12,rfl⟩ ⟨rfl,gx2⟩
    have hx2:=gx2 _ (SqL.of (s12 _ _ h11))
    refine ⟨_,rfl,_,rfl,rfl,_,rfl,bu (λh=>?_) (λh=>?_)⟩
    ·have hj:j=ai:=by have:=of_decide_eq_true h; injection this with this; omega
     rw [if_pos hj] at hz2 hzl2 ⊢
     refine ⟨_,rfl,_,hz2,(by rw [sizeLine_eq]; omega),_,ac,by rw [length_append,length_singleton]; omega,_,rfl,s12.put hacc2,?_⟩
     rw [take_add_one (l:=ts.take 1),hx2]
     rfl
    ·have hj:¬ j=ai:=λz=>h (decide_eq_true (by rw [z]))
     rw [if_neg hj] at hz2 hzl2
     refine ⟨_,hz2,Nat.zero_le _,_,rfl,s12,?_⟩
     rw [if_neg hj]
   ·rintro acc2 ws2 σ H12 hacc2 hz2 hzl2 ⟨u,rfl,s12,e2⟩
    rw [take_length] at e2
    have hzA:=s11 _ _ (s10 _ _ hz)
    have la:acc2 ≠ acc:=λz=>by rw [z,hzA] at hacc2; cases hacc2
    have hz3:=s12 _ _ hzA
    have sB:=(s10.trans s11).trans s12
    have ka:oT [acc] H9 (upd H12 acc (.lst (ws++[.ref acc2]))):=(oT.of sB).trans (oT.put hz3 (by simp))
    have kb:oT [acc] H12 (upd H12 acc (.lst (ws++[.ref acc2]))):=oT.put hz3 (by simp)
    have lws:ws.length=j:=by rw [Paired.length pw]; unfold ef; rw [length_map,length_range]
    refine ⟨ws,hz3,by rw [lws,sizeLine_eq]; omega,_,ac,by rw [length_append,length_singleton]; omega,_,_,rfl,(s9.trans sB).put hacc,?_⟩
    rw [nE]
    refine aN ?_ (al (λ_ _=>oZ.keepA (av:=[acc]) (λa ha=>.inl (by simpa using ha)) ka) pw)
    refine ⟨acc2,ws2,rfl,(sA.trans s11).free hacc2,la,by rw [ao la]; exact hz2,?_⟩
    rw [e2]
    by_cases hj:j=ai
    ·rw [if_pos hj,if_pos hj,getD_eq_getElem?_getD,ee]
     exact (pt.mono λt xs e=>s12 _ _ e).mono kb.1
    ·rw [if_neg hj,if_neg hj]
     exact .nil
  ·rintro acc ws σ H9 hacc hz hzl ⟨u,v,rfl,s9,pw⟩
   rw [les] at pw
   refine q acc ws _ H9 (s3.free hacc) (s3.trans s9) hz pw ⟨ht,partRow_ok okh,ea.take 1,?_,λz=>nea ?_⟩
   ·unfold ef
    have hl:ai<row.length:=(List.getElem?_eq_some_iff.mp eea).1
    refine List.mem_map.mpr ⟨ai,List.mem_range.mpr hl,?_⟩
    rw [if_pos rfl,getD_eq_getElem?_getD,eea]
    rfl
   ·cases ea with
    | nil=>rfl
    | cons x r=>simp at z
def TableOk (P L:Int) (cs:List Int) (rows:List (List (List aj))):Prop:=oU P/\1<=L/\L<=4/\1<=cs.length/\cs.length<=3/\(∀ c ∈ cs,-18<=c/\c<=21)/\1<=rows.length/\rows.length<=5/\∀ row ∈ rows,pO P L 200 cs row
def spTable (K:Frag):Sp:=λvs H Q _=>∃ (a:Addr) (ns:List Int) (k:Int),vs=[.ref a,.int k]/\SqL K H a (ns.map V.int)/\ns.length<=63/\0<=k/\k<=50/\
 ∀ (t c rw:Addr) (P L:Int) (cs:List Int) (ws:List V) (rows:List (List (List aj))) (H':Hp),oS H H'->H' t=some (.tup [.int P,.int L,.ref c,.ref rw])->H' c=some (.lst (cs.map V.int))->H' rw=some (.lst ws)->Paired (pM P H') ws rows->TableOk P L cs rows->Q (.ref t) H'
def TabI (H:Hp) (a p:Addr) (ad wy lo hi:Int) (fl:Bool) (k:Nat) (σ:L2.St) (H':Hp):Prop:=∃ (c:Addr) (P L N M Q:Int) (cs:List Int) (x y:Int),σ=[some (.ref a),some (.int ad),some (.ref p),some (.int wy),some (.int P),some (.int L),some (.int N),some (.ref c),some (.int M),some (.int Q),none,none,none]/\oU P/\(fl=true->wy=7->P=0)/\(lo<=L/\L<=hi)/\(1<=N/\N<=5)/\(0<=M/\M<=4)/\(0<=Q/\Q<=3)/\
 H' c=some (.lst (cs.map V.int))/\c ≠ p/\(1<=cs.length/\cs.length<=3)/\(∀ c ∈ cs,-18<=c/\c<=21)/\H' p=some (.lst [.int x,.int y])/\pc x y k/\(∀ c o,H c=some o->H' c=some o)/\H p=none
theorem pM.fresh {P:Int} {H H':Hp} {v:V} {row:List (List aj)} {p:Addr} (np:H p=none) (s:oS H H') (h:pM P H v row):RowA [p] P H' v row:=by
 obtain ⟨r,es,rfl,hr,pr⟩:=h
 refine ⟨r,es,rfl,by simpa using ah hr np,s _ _ hr,al (λv e z=>?_) pr⟩
 obtain ⟨l,ts,rfl,hl,pe⟩:=z
 exact ⟨l,ts,rfl,by simpa using ah hl np,s _ _ hl,pe.mono λt xs e=>s _ _ e⟩
theorem oX:oW ["_law_script", "_law_at", "_law_bag_here", "_law_way", "_law_prime_here", "_law_letters", "_law_many", "_law_columns_here", "_law_most", "_law_parts", "_law_rows", "_law_k", "_law_row"] ["_law_script", "_law_at"] (am fi):=.i
set_option maxHeartbeats 4000000 in
theorem ok_table {f:Addr} {fd:FuncData} (F:Fun K "_law_table" "_law_table" fi f fd) (T:Blt mg) (sj:FnB P w K mg base 2 "_law_bag" (spBag K)) (qO:FnB P w K mg base 1 "_law_take" cw) (uR:FnB P w K mg base 2 "_law_prime" spPrime) (rE:FnB P w K mg base 2 "_law_columns" spCols) (sX:FnB P w K mg base 5 "_law_drawn_row" spDrawn) (sY:FnB P w K mg base 6 "_law_again_row" nQ) (tN:FnB P w K mg base 1 "_law_one_part" md) :
  oY P w K mg base CX0 7 f fd ["_law_script", "_law_at"] (spTable K):=by
 refine F.o oX λ_ _ _ _ H _ Q _ hr h=>?_
 ·obtain ⟨a,ns,ad,rfl,hS,hlen,ad0,ad50,q⟩:=h
  refine ⟨_,(ag (au (i:=2) oX.nd rfl (Or.inl rfl) (aq sj hr.m (aa (pv 0) (aa (pv 1) ae))))
(ag (au (i:=3) oX.nd rfl (Or.inl rfl) (aq qO hr.m (aa (pv 2) (aa af ae))))
(ag (au (i:=4) oX.nd rfl (Or.inl rfl) (aq uR hr.m (aa (pv 2) ae)))
(ag (au (i:=5) oX.nd rfl (Or.inl rfl) (ap aL af (aq qO hr.m (aa (pv 2) (aa af ae)))))
(ag (au (i:=6) oX.nd rfl (Or.inl rfl) (ap aL af (aq qO hr.m (aa (pv 2) (aa af ae)))))
(ag (au (i:=7) oX.nd rfl (Or.inl rfl) (aq rE hr.m (aa (aB (aE K rfl) (aI (aa (ap aL af (aq qO hr.m (aa (pv 2) (aa af ae)))) (aa af ae))) (ap bf (pv 5) af) (λ_ _=>rfl)) (aa af (aa (pv 2) ae)))))
(ag (ps_par (i:=8) (j:=9) rfl oX.nd rfl rfl (by decide) rfl rfl (aa (ap bf af (pv 5)) (aa (ap bf af (pv 5)) ae)) rfl)
(ag (aH (aw bM (pv 4) af (ay _))
(ak (ps_par (i:=6) (j:=9) rfl oX.nd rfl rfl (by decide) rfl rfl (aa (pl_min T (aa (pv 6) (aa (ap bf af (bq K T (pv 7))) ae))) (aa af ae)) rfl))
aA)
(ag (aH (aw bM (pv 3) af (ay _))
(ag (au (i:=6) oX.nd rfl (Or.inl rfl) af)
(ak (au (i:=7) oX.nd rfl (Or.inl rfl) (aq rE hr.m (aa (aB (aE K rfl) (aI (aa af (aa af ae))) (ap bf (pv 5) af) (λ_ _=>rfl)) (aa af (aa (pv 2) ae)))))))
aA)
(ag (aH (aw bM (pv 3) af (ay _))
(ag (fq (aT (aa af (aa af (aa af ae)))) (gb rfl (by exact aK (by exact (aF (i:=5) oX.nd rfl (Or.inl rfl))) (by exact aK (by exact (aF (i:=8) oX.nd rfl (Or.inl rfl))) (by exact aK (by exact (aF (i:=9) oX.nd rfl (Or.inl rfl))) eA)))))
(ak (au (i:=7) oX.nd rfl (Or.inl rfl) (aq rE hr.m (aa (ap aL af (aq qO hr.m (aa (pv 2) (aa af ae)))) (aa af (aa (pv 2) ae)))))))
aA)
(ag (aH (aw bM (pv 3) af (ay _))
(ak (fq (aT (aa af (aa af (aa af (aa af (aa af ae)))))) (gb rfl (by exact aK (by exact (aF (i:=5) oX.nd rfl (Or.inl rfl))) (by exact aK (by exact (aF (i:=6) oX.nd rfl (Or.inl rfl))) (by exact aK (by exact (aF (i:=8) oX.nd rfl (Or.inl rfl))) (by exact aK (by exact (aF (i:=9) oX.nd rfl (Or.inl rfl))) (by exact aK (by exact (aF (i:=4) oX.nd rfl (Or.inl rfl))) eA))))))))
aA)
(ag (aH (aw bM (pv 3) af (ay _))
(ag (fq (aT (aa af (aa af (aa af (aa af ae))))) (gb rfl (by exact aK (by exact (aF (i:=5) oX.nd rfl (Or.inl rfl))) (by exact aK (by exact (aF (i:=6) oX.nd rfl (Or.inl rfl))) (by exact aK (by exact (aF (i:=8) oX.nd rfl (Or.inl rfl))) (by exact aK (by exact (aF (i:=9) oX.nd rfl (Or.inl rfl))) eA))))))
(ak (au (i:=7) oX.nd rfl (Or.inl rfl) (aq rE hr.m (aa af (aa af (aa (pv 2) ae)))))))
aA)
(ag (au (i:=10) oX.nd rfl (Or.inl rfl) (aI ae))
(ag (bc PassesOwn.never rfl (ba rfl T.range (aa (pv 6) ae)) (aF (i:=11) oX.nd rfl (Or.inl rfl))
(ag (au (i:=2) oX.nd rfl (Or.inl rfl) (aq sj hr.m (aa (pv 0) (aa (ap aL (ap aL (pv 1) af) (pv 11)) ae))))
(ag (au (i:=12) oX.nd rfl (Or.inl rfl) (aq sX hr.m (aa (pv 4) (aa (pv 5) (aa (pv 7) (aa (pv 8) (aa (pv 9) (aa (bZ bM (pv 3) af (ay _)) (aa (pv 2) ae)))))))))
(ag (aH (PW.pt (pw_and (aw dZ (pv 11) af (ay _)) (pw_and1 (PW.pt (fH (aw bM (pv 3) af (ay _)) (ft (aw bM (pv 3) af (ay _))))))))
(ak (au (i:=12) oX.nd rfl (Or.inl rfl) (aq sY hr.m (aa (pv 4) (aa (pv 5) (aa (pv 7) (aa (pv 10) (aa (pv 2) ae))))))))
aA)
(ag (aH (aw bM (pv 3) af (ay _))
(ak (au (i:=12) oX.nd rfl (Or.inl rfl) (aq tN hr.m (aa (pv 12) ae))))
aA)
(ak (bh (bmA K rfl (pv 10) (aa (pv 12) ae)))))))))
(ak (ar (aT (aa (pv 4) (aa (pv 5) (aa (pv 7) (aa (pv 10) ae))))))))))))))))))))),?_⟩
  refine sq7 λR0 hR0=>?_
  refine ⟨_,rfl,_,rfl,a,ns,ad,rfl,hS,hlen,ad0,by omega,λp x1 y1 np hb1=>?_⟩
  have s1:=oS.new (o:=.lst [.int x1,.int y1]) np
  have hp1:(upd H p (.lst [.int x1,.int y1])) p=some (.lst [.int x1,.int y1]):=ac
  generalize upd H p (.lst [.int x1,.int y1])=H1 at *
  refine ⟨_,rfl,p,x1,y1,8,100,rfl,hp1,hb1,by decide,by decide,aD (by decide) (by decide),λwy x2 y2 wy0 wy8 hb2=>?_⟩
  have k2:∀ c o,H c=some o->upd H1 p (.lst [.int x2,.int y2]) c=some o:=λc o e=>by rw [ao (ah e np)]; exact s1 _ _ e
  have hp2:(upd H1 p (.lst [.int x2,.int y2])) p=some (.lst [.int x2,.int y2]):=ac
  generalize upd H1 p (.lst [.int x2,.int y2])=H2 at *
  refine ⟨_,rfl,p,x2,y2,_,rfl,hp2,hb2,by decide,λP x3 y3 H3 hP hp3 hb3 kp3=>?_⟩
  refine ⟨_,rfl,p,x3,y3,2,_,rfl,hp3,hb3,by decide,by decide,aD (by decide) (by decide),λl4 x4 y4 l40 l41 hb4=>⟨_,_,rfl,rfl,?_⟩⟩
  have hp4:(upd H3 p (.lst [.int x4,.int y4])) p=some (.lst [.int x4,.int y4]):=ac
  have k4:∀ c o,H c=some o->upd H3 p (.lst [.int x4,.int y4]) c=some o:=λc o e=>by rw [ao (ah e np)]; exact kp3 _ _ (k2 c o e) (ah e np)
  generalize upd H3 p (.lst [.int x4,.int y4])=H4 at *
  refine ⟨_,rfl,p,x4,y4,3,_,rfl,hp4,hb4,by decide,by decide,aD (by decide) (by decide),λn5 x5 y5 n50 n51 hb5=>⟨_,_,rfl,rfl,?_⟩⟩
  have hp5:(upd H4 p (.lst [.int x5,.int y5])) p=some (.lst [.int x5,.int y5]):=ac
  have k5:∀ c o,H c=some o->upd H4 p (.lst [.int x5,.int y5]) c=some o:=λc o e=>by rw [ao (ah e np)]; exact k4 c o e
  generalize upd H4 p (.lst [.int x5,.int y5])=H5 at *
  refine ⟨_,rfl,p,x5,y5,2,_,rfl,hp5,hb5,by decide,by decide,aD (by decide) (by decide),λn6 x6 y6 n60 n61 hb6=>⟨_,_,rfl,rfl,(by show 2<=sizeLine; decide),λl7 n7=>?_⟩⟩
  have hp6:(upd H5 p (.lst [.int x6,.int y6])) p=some (.lst [.int x6,.int y6]):=ac
  have k6:∀ c o,H c=some o->upd H5 p (.lst [.int x6,.int y6]) c=some o:=λc o e=>by rw [ao (ah e np)]; exact k5 c o e
  generalize upd H5 p (.lst [.int x6,.int y6])=H6 at *
  have s7:=oS.new (o:=.lst [.int (1+n6),.int 1]) n7
  have h7:(upd H6 l7 (.lst [.int (1+n6),.int 1])) l7=some (.lst [.int (1+n6),.int 1]):=ac
  have hp7:=s7 _ _ hp6
  generalize upd H6 l7 (.lst [.int (1+n6),.int 1])=H7 at *
  obtain ⟨nc,hat,nc1,nc2⟩:∃ nc:Int,atI [V.int (1+n6),.int 1] (2+l4-2)=some (.int nc)/\1<=nc/\nc<=2:=by
   have h01:l4=0\/l4=1:=by omega
   rcases h01 with z | z
   ·subst z; exact ⟨1+n6,rfl,by omega,by omega⟩
   ·subst z; exact ⟨1,rfl,by omega,by omega⟩
  refine ⟨_,rfl,_,_,rfl,rfl,l7,_,_,_,rfl,rfl,SqL.of h7,hat,_,rfl,p,nc,3,x6,y6,_,rfl,nc1,by omega,by decide,by decide,hp7,hb6,by decide,λc8 cs8 x8 y8 H8 n8 h8 lc8 oc8 hp8 hb8 kp8=>?_⟩
  have c8p:c8 ≠ p:=(ah hp7 n8).symm
  have k8:∀ c o,H c=some o->H8 c=some o:=λc o e=>kp8 _ _ (s7 _ _ (k6 c o e)) (ah e np)
  refine ⟨_,rfl,_,_,rfl,rfl,_,rfl,_,_,rfl,rfl,_,_,rfl,?_⟩
  dsimp only
  subst hR0
  refine gB (t:=jp _ _ _) (TabI H a p ad wy 2 3 false 200) (λR hR=>?_) ?_
  ·refine ⟨_,rfl,rfl,_,rfl,bu (λh=>?_) (λh=>?_)⟩
   ·refine ⟨_,rfl,_,rfl,c8,_,rfl,.inl (SqL.of h8),_,_,rfl,rfl,_,_,rfl,_,_,rfl,hR _ _ ⟨c8,P,_,_,_,_,cs8,x8,y8,rfl,hP,λz=>(by cases z),⟨by omega,by omega⟩,⟨?_,?_⟩,⟨by omega,by omega⟩,⟨by decide,by decide⟩,h8,c8p,⟨by omega,by omega⟩,oc8,hp8,hb8.mono (by decide),k8,np⟩⟩
    ·rw [length_map]; split<;>omega
    ·rw [length_map]; split<;>omega
   ·exact hR _ _ ⟨c8,P,_,_,_,_,cs8,x8,y8,rfl,hP,λz=>(by cases z),⟨by omega,by omega⟩,⟨by omega,by omega⟩,⟨by omega,by omega⟩,⟨by omega,by omega⟩,h8,c8p,⟨by omega,by omega⟩,oc8,hp8,hb8.mono (by decide),k8,np⟩
  clear hP h8 lc8 oc8 hp8 hb8 kp8 c8p k8
  rintro σ9 H9 ⟨c,P,L,N,M,Q',cs,x,y,rfl,hP,f7,⟨L1,L4⟩,⟨N1,N5⟩,⟨M0,M4⟩,⟨Q0,Q3⟩,hc,cp,⟨c1,c3⟩,oc,hp,hb,kp,_⟩
  refine gB (t:=jp _ _ _) (TabI H a p ad wy 2 3 false 220) (λR hR=>?_) ?_
  ·refine ⟨_,rfl,rfl,_,rfl,bu (λh=>?_) (λh=>?_)⟩
   ·refine ⟨(by show 2<=sizeLine; decide),λl10 n10=>?_⟩
    have s10:=oS.new (o:=.lst [.int 3,.int 1]) n10
    have h10:(upd H9 l10 (.lst [.int 3,.int 1])) l10=some (.lst [.int 3,.int 1]):=ac
    generalize upd H9 l10 (.lst [.int 3,.int 1])=H10 at *
    obtain ⟨nc,hat,nc1,nc2⟩:∃ nc:Int,atI [V.int 3,.int 1] (L-2)=some (.int nc)/\1<=nc/\nc<=3:=by
     have h01:L=2\/L=3:=by omega
     rcases h01 with z | z
     ·subst z; exact ⟨3,rfl,by decide,by decide⟩
     ·subst z; exact ⟨1,rfl,by decide,by decide⟩
    refine ⟨_,rfl,_,_,rfl,rfl,l10,_,_,_,rfl,rfl,SqL.of h10,hat,_,rfl,p,nc,3,x,y,_,rfl,nc1,nc2,by decide,by decide,s10 _ _ hp,hb,by decide,λc' cs' x' y' H' n' h' lc' oc' hp' hb' kp'=>?_⟩
    exact hR _ _ ⟨c',P,L,5,M,Q',cs',x',y',rfl,hP,λz=>(by cases z),⟨L1,L4⟩,⟨by decide,by decide⟩,⟨M0,M4⟩,⟨Q0,Q3⟩,h',(ah (s10 _ _ hp) n').symm,⟨by omega,by omega⟩,oc',hp',hb'.mono (by decide),λc o e=>kp' _ _ (s10 _ _ (kp c o e)) (ah e np),np⟩
   ·exact hR _ _ ⟨c,P,L,N,M,Q',cs,x,y,rfl,hP,λz=>(by cases z),⟨L1,L4⟩,⟨N1,N5⟩,⟨M0,M4⟩,⟨Q0,Q3⟩,hc,cp,⟨c1,c3⟩,oc,hp,hb.mono (by decide),kp,np⟩
  clear hP f7 L1 L4 N1 N5 M0 M4 Q0 Q3 hc cp c1 c3 oc hp hb kp
  rintro σ9 H9 ⟨c,P,L,N,M,Q',cs,x,y,rfl,hP,f7,⟨L1,L4⟩,⟨N1,N5⟩,⟨M0,M4⟩,⟨Q0,Q3⟩,hc,cp,⟨c1,c3⟩,oc,hp,hb,kp,_⟩
  refine gB (t:=jp _ _ _) (TabI H a p ad wy 1 3 false 240) (λR hR=>?_) ?_
  ·refine ⟨_,rfl,rfl,_,rfl,bu (λh=>?_) (λh=>?_)⟩
   ·refine ⟨(by show 3<=sizeLine; decide),λt10 n10=>?_⟩
    have s10:=oS.new (o:=.tup [.int 1,.int 4,.int 1]) n10
    have h10:(upd H9 t10 (.tup [.int 1,.int 4,.int 1])) t10=some (.tup [.int 1,.int 4,.int 1]):=ac
    generalize upd H9 t10 (.tup [.int 1,.int 4,.int 1])=H10 at *
    refine ⟨t10,_,rfl,SqT.of h10,rfl,_,_,rfl,_,_,rfl,_,_,rfl,rfl,?_⟩
    refine ⟨_,rfl,p,x,y,3,_,rfl,s10 _ _ hp,hb,by decide,by decide,aD (by decide) (by decide),λr11 x11 y11 r110 r111 hb11=>⟨_,_,rfl,rfl,?_⟩⟩
    refine ⟨_,rfl,p,1+r11,3,x11,y11,_,rfl,by omega,by omega,by decide,by decide,ac,hb11,by decide,λc' cs' x' y' H' n' h' lc' oc' hp' hb' kp'=>?_⟩
    exact hR _ _ ⟨c',P,1,N,4,1,cs',x',y',rfl,hP,λz=>(by cases z),⟨by decide,by decide⟩,⟨N1,N5⟩,⟨by decide,by decide⟩,⟨by decide,by decide⟩,h',(ah (o:=.lst [.int x11,.int y11]) ac n').symm,⟨by omega,by omega⟩,oc',hp',hb'.mono (by decide),λc o e=>kp' _ _ (by rw [ao (ah e np)]; exact s10 _ _ (kp c o e)) (ah e np),np⟩
   ·exact hR _ _ ⟨c,P,L,N,M,Q',cs,x,y,rfl,hP,λz=>(by cases z),⟨by omega,L4⟩,⟨N1,N5⟩,⟨M0,M4⟩,⟨Q0,Q3⟩,hc,cp,⟨c1,c3⟩,oc,hp,hb.mono (by decide),kp,np⟩
  clear hP f7 L1 L4 N1 N5 M0 M4 Q0 Q3 hc cp c1 c3 oc hp hb kp
  rintro σ9 H9 ⟨c,P,L,N,M,Q',cs,x,y,rfl,hP,f7,⟨L1,L4⟩,⟨N1,N5⟩,⟨M0,M4⟩,⟨Q0,Q3⟩,hc,cp,⟨c1,c3⟩,oc,hp,hb,kp,_⟩
  refine gB (t:=jp _ _ _) (TabI H a p ad wy 1 3 true 240) (λR hR=>?_) ?_
  ·refine ⟨_,rfl,rfl,_,rfl,bu (λh=>?_) (λh=>?_)⟩
   ·refine ⟨(by show 5<=sizeLine; decide),λt10 n10=>?_⟩
    have s10:=oS.new (o:=.tup [.int 2,.int 2,.int 1,.int 2,.int 0]) n10
    have h10:(upd H9 t10 (.tup [.int 2,.int 2,.int 1,.int 2,.int 0])) t10=some (.tup [.int 2,.int 2,.int 1,.int 2,.int 0]):=ac
    generalize upd H9 t10 (.tup [.int 2,.int 2,.int 1,.int 2,.int 0])=H10 at *
    refine ⟨t10,_,rfl,SqT.of h10,rfl,_,_,rfl,_,_,rfl,_,_,rfl,_,_,rfl,_,_,rfl,rfl,?_⟩
    exact hR _ _ ⟨c,0,2,2,1,2,cs,x,y,rfl,.inl rfl,λ_ _=>rfl,⟨by decide,by decide⟩,⟨by decide,by decide⟩,⟨by decide,by decide⟩,⟨by decide,by decide⟩,s10 _ _ hc,cp,⟨c1,c3⟩,oc,s10 _ _ hp,hb,λc o e=>s10 _ _ (kp c o e),np⟩
   ·exact hR _ _ ⟨c,P,L,N,M,Q',cs,x,y,rfl,hP,λ_ z=>absurd (decide_eq_true (congrArg V.int z)) h,⟨L1,L4⟩,⟨N1,N5⟩,⟨M0,M4⟩,⟨Q0,Q3⟩,hc,cp,⟨c1,c3⟩,oc,hp,hb,kp,np⟩
  clear hP f7 L1 L4 N1 N5 M0 M4 Q0 Q3 hc cp c1 c3 oc hp hb kp
  rintro σ9 H9 ⟨c,P,L,N,M,Q',cs,x,y,rfl,hP,f7,⟨L1,L4⟩,⟨N1,N5⟩,⟨M0,M4⟩,⟨Q0,Q3⟩,hc,cp,⟨c1,c3⟩,oc,hp,hb,kp,_⟩
  refine gB (t:=jp _ _ _) (TabI H a p ad wy 1 4 true 260) (λR hR=>?_) ?_
  ·refine ⟨_,rfl,rfl,_,rfl,bu (λh=>?_) (λh=>?_)⟩
   ·refine ⟨(by show 4<=sizeLine; decide),λt10 n10=>?_⟩
    have s10:=oS.new (o:=.tup [.int 4,.int 5,.int 4,.int 1]) n10
    have h10:(upd H9 t10 (.tup [.int 4,.int 5,.int 4,.int 1])) t10=some (.tup [.int 4,.int 5,.int 4,.int 1]):=ac
    generalize upd H9 t10 (.tup [.int 4,.int 5,.int 4,.int 1])=H10 at *
    refine ⟨t10,_,rfl,SqT.of h10,rfl,_,_,rfl,_,_,rfl,_,_,rfl,_,_,rfl,rfl,?_⟩
    refine ⟨_,rfl,p,3,5,x,y,_,rfl,by decide,by decide,by decide,by decide,s10 _ _ hp,hb,by decide,λc' cs' x' y' H' n' h' lc' oc' hp' hb' kp'=>?_⟩
    exact hR _ _ ⟨c',P,4,5,4,1,cs',x',y',rfl,hP,f7,⟨by decide,by decide⟩,⟨by decide,by decide⟩,⟨by decide,by decide⟩,⟨by decide,by decide⟩,h',(ah (s10 _ _ hp) n').symm,⟨by omega,by omega⟩,oc',hp',hb'.mono (by decide),λc o e=>kp' _ _ (s10 _ _ (kp c o e)) (ah e np),np⟩
   ·exact hR _ _ ⟨c,P,L,N,M,Q',cs,x,y,rfl,hP,f7,⟨L1,by omega⟩,⟨N1,N5⟩,⟨M0,M4⟩,⟨Q0,Q3⟩,hc,cp,⟨c1,c3⟩,oc,hp,hb.mono (by decide),kp,np⟩
  clear hP f7 L1 L4 N1 N5 M0 M4 Q0 Q3 hc cp c1 c3 oc hp hb kp
  rintro σ9 H9 ⟨c,P,L,N,M,Q',cs,x,y,rfl,hP,f7,⟨L1,L4⟩,⟨N1,N5⟩,⟨M0,M4⟩,⟨Q0,Q3⟩,hc,cp,⟨c1,c3⟩,oc,hp,hb,kp,_⟩
  have sH9:oS H H9:=kp
  have f7:=f7 rfl
  clear hp hb cp kp
  refine ⟨Nat.zero_le _,λrw nrw=>?_⟩
  have s10:=oS.new (o:=.lst []) nrw
  have h10:(upd H9 rw (.lst [])) rw=some (.lst []):=ac
  generalize upd H9 rw (.lst [])=H10 at *
  refine ⟨_,rfl,N,rfl,by omega,by omega,cu (n:=N.toNat) (λi σ H'=>∃ (x2 x11 x12:Option V) (ws:List V) (rows:List (List (List aj))),σ=[some (.ref a),some (.int ad),x2,some (.int wy),some (.int P),some (.int L),some (.int N),some (.ref c),some (.int M),some (.int Q'),some (.ref rw),x11,x12]/\oS H9 H'/\H' rw=some (.lst ws)/\Paired (RowA [rw] P H') ws rows/\rows.length=i/\∀ row ∈ rows,pO P L (110+15*i) cs row) ?_ ?_ ?_⟩
  ·exact ⟨_,none,none,[],[],rfl,s10,h10,.nil,rfl,λrow hr=>by cases hr⟩
  ·rintro i σ H11 hi ⟨x2,x11,x12,ws,rows,rfl,s11,h11,prs,lr,okr⟩ N0 B0 hN0
   have sH11:=sH9.trans s11
   refine ⟨_,rfl,_,rfl,_,_,rfl,rfl,_,rfl,_,_,rfl,rfl,a,ns,_,rfl,sH11.seq hS,hlen,by omega,by omega,λp' x12' y12 np' hb12=>?_⟩
   have s12:=oS.new (o:=.lst [.int x12',.int y12]) np'
   have hp12:(upd H11 p' (.lst [.int x12',.int y12])) p'=some (.lst [.int x12',.int y12]):=ac
   generalize upd H11 p' (.lst [.int x12',.int y12])=H12 at *
   have hc11:=s11 _ _ hc
   have cp':c ≠ p':=ah hc11 np'
   have rwp':rw ≠ p':=ah h11 np'
   refine ⟨_,rfl,_,rfl,_,rfl,_,rfl,_,rfl,_,rfl,rfl,_,rfl,p',c,P,L,M,Q',x12',y12,_,100,cs,rfl,hP,(λz=>f7 (by have:=of_decide_eq_true z; injection this)),L1,L4,M0,M4,Q0,Q3,s12 _ _ hc11,cp',c1,c3,hp12,hb12,by decide,λr es row x13 y13 H13 nr hr13 pr13 ok13 hp13 hb13 kp13=>?_⟩
   have s13:oS H11 H13:=λc o e=>kp13 _ _ (s12 _ _ e) (ah e np')
   have pr13':Paired (oZ H11 r P H13) es row:=al (λ_ _=>oZ.from λl z=>s12.free z) pr13
   dsimp only
   have hrw13:=s13 _ _ h11
   have again:∀ (Z:VK),0<i->(∀ (r:Addr) (es:List V) (row:List (List aj)) (H':Hp),oS H11 H'->H11 r=none->H' r=some (.lst es)->Paired (oZ H11 r P H') es row->pO P L (110+15*(i+1)) cs row->Z (.ref r) H')->
     tCall nQ [] E0 (bL (tVar 4) (bL (tVar 5) (bL (tVar 7) (bL (tVar 10) (bL (tVar 2) eT))))) [some (.ref a),some (.int ad),some (.ref p'),some (.int wy),some (.int P),some (.int L),some (.int N),some (.ref c),some (.int M),some (.int Q'),some (.ref rw),some (.int (0+(i:Int))),some (.ref r)] H13 Z:=λZ hi0 hZ=>by
    refine ⟨_,rfl,_,rfl,_,rfl,_,rfl,_,rfl,p',c,rw,P,L,x13,y13,_,110+15*i,cs,ws,rows,rfl,hP,L1,L4,s13 _ _ hc11,cp',c1,c3,hrw13,rwp',al (λ_ _ z=>z.row.fresh np' s13) prs,(λz=>by rw [z] at lr; simp at lr; omega),by omega,by omega,by omega,okr,hp13,hb13,by decide,λr2 es2 row2 x14 y14 H14 nr2 hr2 pr2 ok2 hp14 hb14 kp14=>?_⟩
    exact hZ r2 es2 row2 H14 (λc o e=>kp14 _ _ (s13 _ _ e) (ah e np')) (s13.free nr2) hr2 (al (λ_ _=>oZ.from λl z=>s13.free z) pr2) (ok2.mono (by omega))
   refine gs (t:=jp _ _ _) (λσ' H'=>∃ (r:Addr) (es:List V) (row:List (List aj)),σ'=[some (.ref a),some (.int ad),some (.ref p'),some (.int wy),some (.int P),some (.int L),some (.int N),some (.ref c),some (.int M),some (.int Q'),some (.ref rw),some (.int (0+(i:Int))),some (.ref r)]/\oS H11 H'/\H11 r=none/\H' r=some (.lst es)/\Paired (oZ H11 r P H') es row/\pO P L (110+15*(i+1)) cs row) (λR hR=>?_) ?_
   ·have plain:=hR _ _ ⟨r,es,row,rfl,s13,s12.free nr,hr13,pr13',ok13.mono (by omega)⟩
    refine ⟨_,rfl,_,_,rfl,rfl,_,rfl,bu (λhk=>?_) (λhk=>br plain)⟩
    have hi0:0<i:=by have:=of_decide_eq_true hk; omega
    refine ⟨_,rfl,rfl,_,rfl,bu (λh4=>bF ?_) (λh4=>?_)⟩
    ·exact again _ hi0 λr2 es2 row2 H14 z1 z2 z3 z4 z5=>hR _ _ ⟨r2,es2,row2,rfl,z1,z2,z3,z4,z5⟩
    ·refine ⟨_,rfl,rfl,_,rfl,bu (λh5=>?_) (λh5=>plain)⟩
     exact again _ hi0 λr2 es2 row2 H14 z1 z2 z3 z4 z5=>hR _ _ ⟨r2,es2,row2,rfl,z1,z2,z3,z4,z5⟩
   clear again pr13 pr13' ok13 nr hr13
   rintro σ' H14 ⟨r,es,row,rfl,s14,nr,hr14,pr14,ok14⟩
   refine gB (t:=jp _ _ _) (λσ' H'=>∃ (r:Addr) (es:List V) (row:List (List aj)),σ'=[some (.ref a),some (.int ad),some (.ref p'),some (.int wy),some (.int P),some (.int L),some (.int N),some (.ref c),some (.int M),some (.int Q'),some (.ref rw),some (.int (0+(i:Int))),some (.ref r)]/\oS H11 H'/\H11 r=none/\H' r=some (.lst es)/\Paired (oZ H11 r P H') es row/\pO P L (110+15*(i+1)) cs row) (λR hR=>?_) ?_
   ·refine ⟨_,rfl,rfl,_,rfl,bu (λh6=>?_) (λh6=>hR _ _ ⟨r,es,row,rfl,s14,nr,hr14,pr14,ok14⟩)⟩
    refine ⟨_,rfl,r,P,L,_,cs,es,row,rfl,hr14,al (λ_ _=>oZ.ent) pr14,ok14,c3,λr2 es2 row2 H15 nr2 s15 hr2 pr2 ok2=>?_⟩
    exact hR _ _ ⟨r2,es2,row2,rfl,s14.trans s15,s14.free nr2,hr2,al (λ_ _=>oZ.from λl z=>s14.free z) pr2,ok2⟩
   clear pr14 ok14 nr hr14 s14
   rintro σ' H14 ⟨r,es,row,rfl,s14,nr,hr14,pr14,ok14⟩
   have hrw14:=s14 _ _ h11
   have rrw:r ≠ rw:=(ah h11 nr).symm
   have lws:ws.length=i:=by rw [Paired.length prs,lr]
   refine ⟨_,rfl,.inl ⟨rfl,_,SqL.of hrw14⟩,_,rfl,rw,_,_,rfl,rfl,hrw14,by rw [lws,sizeLine_eq]; omega,?_⟩
   have ka:oT [rw] H11 (upd H14 rw (.lst (ws++[.ref r]))):=(oT.of s14).trans (oT.put hrw14 (by simp))
   have kb:oT [rw] H14 (upd H14 rw (.lst (ws++[.ref r]))):=oT.put hrw14 (by simp)
   refine hN0 _ _ ⟨_,_,_,ws++[.ref r],rows++[row],rfl,λc o e=>?_,ac,aN ?_ (al (λ_ _=>RowA.keep ka) prs),by rw [length_append,lr]; rfl,λrow' hr'=>?_⟩
   ·rw [ao (ah e nrw)]
    exact s14 _ _ (s11 _ _ e)
   ·refine RowA.keep kb ⟨r,es,rfl,by simpa using rrw,hr14,al (λv e z=>?_) pr14⟩
    obtain ⟨l,ts,rfl,l0,_,hl,pe⟩:=z
    exact ⟨l,ts,rfl,by simpa using (ah h11 l0).symm,hl,pe⟩
   ·rcases List.mem_append.mp hr' with z | z
    ·exact (okr row' z).mono (by omega)
    ·rw [List.mem_singleton.mp z]
     exact ok14
  ·rintro σ H11 ⟨x2,x11,x12,ws,rows,rfl,s11,h11,prs,lr,okr⟩
   refine ⟨_,rfl,_,rfl,_,rfl,_,rfl,(by show 4<=sizeLine; decide),λt nt=>?_⟩
   have s12:=oS.new (o:=.tup [.int P,.int L,.ref c,.ref rw]) nt
   exact q t c rw P L cs ws rows _ ((sH9.trans s11).trans s12) ac (s12 _ _ (s11 _ _ hc)) (s12 _ _ h11) (al (λ_ _ z=>z.row.same s12) prs) ⟨hP,L1,L4,c1,c3,oc,by omega,by omega,λrow hr=>(okr row hr).mono (by omega)⟩
theorem nd_13:(["product", "own", "numbers", "number"]:List Str).Nodup:=by decide +kernel
theorem oV.app {P:Int} {H:Hp} {bs:List V} {qs:List aj} (h2:oV P H bs qs):∀ {vs:List V} {ps:List aj},oV P H vs ps->oV P H (vs++bs) (ps++qs)
 | _,_,.nil=>h2
 | _,_,.cons q r=>.cons q (oV.app h2 r)
theorem scl_take {P:Int} {n:Int × Int} {ps:List aj} {i:Nat} {p:aj} (h:ps[i]? = some p):scl P n (ps.take (i+1))=scl P n (ps.take i)++[(p.1,du P p.2 n)]:=by
 unfold scl
 rw [take_add_one,h,map_append]
 rfl
def spPlus (CF CR CG:Addr):Sp:=λvs H Q _=>∃ (g x l1 l2:Addr) (P L:Int) (ts1 ts2:List V) (ps1 ps2:List aj),vs=[.ref g,.ref l1,.ref l2]/\oU P/\cH CG H g x L/\pC CF CR H x P/\H l1=some (.lst ts1)/\oV P H ts1 ps1/\H l2=some (.lst ts2)/\oV P H ts2 ps2/\ps1.length+ps2.length<=60/\bO P (ps1++ps2)/\
 ∀ (d:Addr) (rs:List V) (out:List aj) (H':Hp),H d=none->oS H H'->H' d=some (.lst rs)->oV P H' rs out->o7 P (ps1++ps2) out->Q (.ref d) H'
def spScaled (CF CR CG:Addr):Sp:=λvs H Q _=>∃ (g x l:Addr) (P L:Int) (u:V) (n:Int × Int) (ts:List V) (ps:List aj),vs=[.ref g,.ref l,u]/\oU P/\cH CG H g x L/\pC CF CR H x P/\H l=some (.lst ts)/\oV P H ts ps/\ps.length<=60/\(∀ p ∈ ps,OkN P p.2/\Sz 2900 p.2)/\At P H u n/\OkN P n/\Sz 2900 n/\
 ∀ (d:Addr) (rs:List V) (H':Hp),H d=none->oS H H'->H' d=some (.lst rs)->oV P H' rs (if n=(0,1) then [] else scl P n ps)->Q (.ref d) H'
def spMinus (CF CR CG:Addr):Sp:=λvs H Q _=>∃ (g x l1 l2:Addr) (P L:Int) (ts1 ts2:List V) (ps1 ps2:List aj),vs=[.ref g,.ref l1,.ref l2]/\oU P/\cH CG H g x L/\pC CF CR H x P/\H l1=some (.lst ts1)/\oV P H ts1 ps1/\H l2=some (.lst ts2)/\oV P H ts2 ps2/\ps1.length+ps2.length<=60/\(∀ p ∈ ps2,OkN P p.2/\Sz 2900 p.2)/\bO P (ps1++scl P (cq P (1,1)) ps2)/\
 ∀ (d:Addr) (rs:List V) (out:List aj) (H':Hp),H d=none->oS H H'->H' d=some (.lst rs)->oV P H' rs out->o7 P (ps1++scl P (cq P (1,1)) ps2) out->Q (.ref d) H'
theorem minus_one {P:Int}:(if P=0 then ((-1:Int),(1:Int)) else ((-1) % P,1))=cq P (1,1):=by
 unfold cq
 rfl
theorem sc_plus:oW ["ring", "one", "other"] ["ring", "one", "other"] (am s_plus):=.i
theorem ok_plus {f CF CR CG:Addr} {fd:FuncData} (F:Fun K "plus" "plus" s_plus f fd) (uB:FnB P w K mg base 5 "sum_of" (spSum CF CR CG)):oY P w K mg base CX0 6 f fd ["ring", "one", "other"] (spPlus CF CR CG):=by
 refine F.o sc_plus λ_ _ _ _ H _ Q _ hr h=>?_
 ·obtain ⟨g,x,l1,l2,P,L,ts1,ts2,ps1,ps2,rfl,hP,hg,hN,h1,p1,h2,p2,hn,hok,q⟩:=h
  refine ⟨_,(ak (ar (aq uB hr.m (aa (pv 0) (aa (ap kn (pv 1) (pv 2)) ae))))),?_⟩
  have n1:ts1.length=ps1.length:=Paired.length p1
  have n2:ts2.length=ps2.length:=Paired.length p2
  refine ⟨_,rfl,_,rfl,_,rfl,l1,l2,ts1,ts2,rfl,rfl,h1,h2,by rw [sizeLine_eq]; omega,λc nc=>?_⟩
  have s1:=oS.new (o:=.lst (ts1++ts2)) nc
  obtain ⟨dxg,hg'⟩:=hg
  refine ⟨g,x,c,P,L,_,ps1++ps2,rfl,hP,⟨dxg,s1 _ _ hg'⟩,hN.mono λo e=>s1 _ _ e,ac,oV.app (p2.mono λt xs e=>s1 _ _ e) (p1.mono λt xs e=>s1 _ _ e),by rw [length_append]; exact hn,hok,λd rs out H' nd s2 hd po is=>?_⟩
  exact q d rs out H' (s1.free nd) (s1.trans s2) hd po is
theorem sc_scaled:oW ["ring", "one", "number", "numbers"] ["ring", "one", "number"] (am jY):=.i
theorem ok_scaled {f CF CR CG qP:Addr} {fd:FuncData} (F:Fun K "scaled" "scaled" jY f fd) (si:MtB P w K mg base 1 CG "numbers" (g0 CG))
  (yP:MtB P w K mg base 3 CF "times" (j3 CF λa b=>(a.1*b.1,a.2*b.2))) (yQ:MtB P w K mg base 3 CR "times" (kh CR (· * ·)))
  (uw:gZ P w K mg base 2 CF "of" [.int 1] (dU qP)) (ux:gZ P w K mg base 2 CR "of" [.int 1] (fE CR qP)):oY P w K mg base CX0 5 f fd ["ring", "one", "number"] (spScaled CF CR CG):=by
 refine F.o sc_scaled λ_ _ _ _ H _ Q _ hr h=>?_
 ·obtain ⟨g,x,l,P,L,u,n,ts,ps,rfl,hP,hg,hN,hl,hps,hn,hok,hu,on,sn,q⟩:=h
  have hB:=hP.b
  refine ⟨_,(ag (au (i:=3) sc_scaled.nd rfl (Or.inr rfl) (fG si hr.m (pv 0)))
(ag (aH (aw (keqD K rfl hr.units) (pv 2) (gU (eE uw hr.m dO (pv 3) (aa af ae)) (eE ux hr.m dO (pv 3) (aa af ae))) (ay _))
(ak (ar (aI ae)))
aA)
(ak (ar (by exact aO (N:=["product", "own", "numbers", "number"]) (src:=[none,none,some 3,some 2]) rfl rfl rfl (by exact (aG K rfl (pv 1))) (λ_ _ _=>by exact ⟨by exact (bw K (i:=0) (j:=1) rfl rfl nd_13 rfl rfl rfl rfl),aP,by exact (aT (aa (pv 0) (aa (gU (pe_mt yP hr.m (pv 2) (aa (pv 1) (aa (pv 3) ae))) (pe_mt yQ hr.m (pv 2) (aa (pv 1) (aa (pv 3) ae)))) ae)))⟩)))))),?_⟩
  have lt:ts.length=ps.length:=Paired.length hps
  obtain ⟨dxg,hg'⟩:=id hg
  refine ⟨_,rfl,g,dxg,_,rfl,hg',rfl,g,x,L,rfl,hg,_,rfl,?_⟩
  refine of_go (a:=0) hP hN rfl (λZ z=>⟨_,rfl,z⟩) (λZ z=>z) λr H2 s2 A2=>?_
  rw [zero_if] at A2
  refine ⟨dN P n,dN P (0,1),iP (hu.same s2),iP A2,bU _ _,bU _ _,?_⟩
  rw [jP on (cI hB.1 hB.2.2)]
  refine ⟨_,rfl,bu (λh=>?_) (λh=>?_)⟩
  ·have h0:n=(0,1):=of_decide_eq_true h
   rw [if_pos h0] at q
   refine ⟨Nat.zero_le _,λd nd=>?_⟩
   exact q d [] _ (s2.free nd) (s2.trans (oS.new nd)) ac .nil
  ·have h0:¬ n=(0,1):=λz=>h (decide_eq_true z)
   rw [if_neg h0] at q
   have hl2:=s2 _ _ hl
   refine ⟨_,rfl,l,rfl,⟨_,SqL.of hl2⟩,aX (n:=ts.length) (σ0:=[none,none,some (.ref x),some u]) rfl (λacc i ws σ H'=>∃ a b:Option V,σ=[a,b,some (.ref x),some u]/\oS H2 H'/\oV P H' ws (scl P n (ps.take i))) (by rw [sizeLine_eq]; omega) (λacc hacc=>⟨none,none,rfl,oS.new hacc,.nil⟩) ?_ ?_ ?_ ?_⟩
   ·rintro acc i ws σ H' hacc hi hz ⟨a,b,rfl,sm',_⟩
    exact ⟨ts,_,SqL.of (sm' _ _ hl2),getElem?_eq_getElem hi⟩
   ·rintro acc ws σ H' hacc hz ⟨a,b,rfl,sm',_⟩
    exact ⟨ts,SqL.of (sm' _ _ hl2),Nat.le_refl _⟩
   ·rintro acc i ws σ H9 x' H' hacc hi hz hzl ⟨a,b,rfl,sm',pr⟩ ⟨rfl,hx⟩
    have hx:=hx ts (SqL.of (sm' _ _ hl2))
    obtain ⟨p,ep,t,k,v,rfl,ht,hk,hv⟩:=hps.at_ hx
    have mp:p ∈ ps:=mem_of_getElem? ep
    have s3:=s2.trans sm'
    refine ⟨t,_,rfl,SqT.of (s3 _ _ ht),rfl,_,_,rfl,_,_,rfl,rfl,?_⟩
    refine ⟨_,rfl,op_go _ _ (du P p.2 n) (by unfold du; rfl) (by decide +kernel) hP (hN.mono λo e=>s3 _ _ e) (hv.same s3) (hu.same s3) (hok p mp).1 on (hok p mp).2 sn (λZ z=>⟨_,rfl,z⟩) (λZ z=>⟨_,rfl,_,rfl,z⟩) λr3 H3 s4 a3=>?_⟩
    refine ⟨by show 2<=sizeLine; decide,λt' nt=>?_⟩
    have s5:=oS.new (o:=.tup [.ref k,r3]) nt
    have hz4:=s5 _ _ (s4 _ _ hz)
    have keep4:∀ c o,(upd H3 t' (.tup [.ref k,r3])) c=some o->c ≠ acc->upd (upd H3 t' (.tup [.ref k,r3])) acc (.lst (ws++[.ref t'])) c=some o:=λc o e hc=>by rw [ao hc]; exact e
    have tk4:∀ c xs,(upd H3 t' (.tup [.ref k,r3])) c=some (.tup xs)->upd (upd H3 t' (.tup [.ref k,r3])) acc (.lst (ws++[.ref t'])) c=some (.tup xs):=λc xs e=>keep4 c _ e (bW e hz4 (by intro z; cases z))
    have s45:=s4.trans s5
    refine ⟨ws,hz4,by rw [sizeLine_eq]; omega,_,ac,by rw [length_append,length_singleton]; omega,_,_,rfl,λc o e=>keep4 c o (s45 _ _ (sm' c o e)) (ah e hacc),?_⟩
    rw [scl_take ep]
    exact (oV.snoc (p:=(p.1,du P p.2 n)) ⟨t',k,r3,rfl,ac,s45 _ _ (s3 _ _ hk),a3.same s5⟩ (pr.mono λt xs e=>s45 _ _ e)).mono tk4
   ·rintro acc ws σ H' hacc hz hzl ⟨a,b,rfl,sm',pr⟩
    rw [lt,take_length] at pr
    exact q acc ws H' (s2.free hacc) (s2.trans sm') hz pr
theorem sc_minus:oW ["ring", "one", "other"] ["ring", "one", "other"] (am oQ):=.i
theorem ok_minus {f CF CR CG qP:Addr} {fd:FuncData} (F:Fun K "minus" "minus" oQ f fd) (si:MtB P w K mg base 1 CG "numbers" (g0 CG)) (wd:FnB P w K mg base 6 "plus" (spPlus CF CR CG)) (xB:FnB P w K mg base 5 "scaled" (spScaled CF CR CG))
  (uw:gZ P w K mg base 2 CF "of" [.int 1] (dU qP)) (ux:gZ P w K mg base 2 CR "of" [.int 1] (fE CR qP)):oY P w K mg base CX0 7 f fd ["ring", "one", "other"] (spMinus CF CR CG):=by
 refine F.o sc_minus λ_ _ _ _ H _ Q _ hr h=>?_
 ·obtain ⟨g,x,l1,l2,P,L,ts1,ts2,ps1,ps2,rfl,hP,hg,hN,h1,p1,h2,p2,hn,hok2,hok,q⟩:=h
  have hB:=hP.b
  refine ⟨_,(ak (ar (aq wd hr.m (aa (pv 0) (aa (pv 1) (aa (aq xB hr.m (aa (pv 0) (aa (pv 2) (aa (gU (eE uw hr.m dO (fG si hr.m (pv 0)) (aa (pe_un nI af) ae)) (eE ux hr.m dO (fG si hr.m (pv 0)) (aa (pe_un nI af) ae))) ae)))) ae)))))),?_⟩
  obtain ⟨dxg,hg'⟩:=id hg
  refine ⟨_,rfl,_,rfl,_,rfl,_,rfl,?_⟩
  refine of_go (a:=-1) hP hN rfl (λZ z=>⟨_,rfl,g,dxg,_,rfl,hg',rfl,g,x,L,rfl,hg,z⟩) (λZ z=>⟨_,rfl,z⟩) λr H2 s2 A2=>?_
  rw [minus_one] at A2
  have s14:Sz 14 ((1,1):Int × Int):=⟨by decide,by decide⟩
  refine ⟨g,x,l2,P,L,r,cq P (1,1),ts2,ps2,rfl,hP,⟨dxg,s2 _ _ hg'⟩,hN.mono λo e=>s2 _ _ e,s2 _ _ h2,p2.mono λt xs e=>s2 _ _ e,by omega,hok2,A2,okN_neg hB.1 (jT hB.1 hB.2.2),(oF hP s14 (Nat.le_refl _)).mono (by decide),λd rs H3 nd s3 hd po=>?_⟩
  rw [if_neg (neg_ne hP)] at po
  have s23:=s2.trans s3
  refine ⟨g,x,l1,d,P,L,ts1,rs,ps1,_,rfl,hP,⟨dxg,s23 _ _ hg'⟩,hN.mono λo e=>s23 _ _ e,s23 _ _ h1,p1.mono λt xs e=>s23 _ _ e,hd,po,by rw [scl_len]; exact hn,hok,λd' rs' out H4 nd' s4 hd' po' is=>?_⟩
  exact q d' rs' out H4 (s23.free nd') (s23.trans s4) hd' po' is
theorem nd_14:(["first", "second"]:List Str).Nodup:=by decide +kernel
theorem nd_15:(["product", "fraction", "numbers"]:List Str).Nodup:=by decide +kernel
def cnt (k:List Int) (ts:List aj):Nat:=ts.countP λq=>decide (q.1=k)
theorem eB (k:List Int) (a b:List aj):cnt k (a++b)=cnt k a+cnt k b:=List.countP_append
theorem cnt_one_le (k:List Int) (q:aj):cnt k [q]<=1:=by unfold cnt; rw [countP_singleton]; split<;>omega
theorem cnt_one (q:aj):cnt q.1 [q]=1:=by unfold cnt; rw [countP_singleton,decide_eq_true rfl]; rfl
theorem cnt_take (k:List Int) (ts:List aj) (i:Nat):cnt k (ts.take i)<=cnt k ts:=(take_sublist i ts).countP_le
theorem lT (k:List Int):∀ {ts:List aj},(ts.map (·.1)).Nodup->cnt k ts<=1
 | [],_=>by simp [cnt]
 | q::r,h=>by
  obtain ⟨h1,h2⟩:=List.nodup_cons.mp (show (q.1::r.map (·.1)).Nodup from h)
  have e:cnt k (q::r)=cnt k [q]+cnt k r:=eB k [q] r
  rw [e]
  by_cases z:q.1=k
  ·have:cnt k r=0:=by
    unfold cnt
    rw [List.countP_eq_zero]
    intro p hp e'
    exact h1 (List.mem_map.mpr ⟨p,hp,(of_decide_eq_true e').trans z.symm⟩)
   have:=cnt_one_le k q
   omega
  ·have:cnt k [q]=0:=by unfold cnt; rw [countP_singleton,decide_eq_false z]; rfl
   have:=lT k h2
   omega
theorem gath_cnt {P:Int} {ts:List aj} {z:Nat} (h:∀ q ∈ ts,TOk P z q):∀ i,i<=ts.length->∀ p ∈ cB (ts.take i),TOk P ((z+1)*cnt p.1 (ts.take i)) p
 | 0,_,p,hp=>by simp [cB] at hp
 | i+1,hi,p,hp=>by
  obtain ⟨q,eq⟩:∃ q,ts[i]? = some q:=⟨_,getElem?_eq_getElem (by omega)⟩
  have hq:=h q (mem_of_getElem? eq)
  have ih:=gath_cnt h i (by omega)
  have et:ts.take (i+1)=ts.take i++[q]:=by rw [take_add_one,eq]; rfl
  rw [eU eq] at hp
  rw [et,eB]
  rcases cX hp with w | w
  ·rw [w,show cnt (q.1,_).1 [q]=1 from cnt_one q]
   have e1:(z+1)*(cnt q.1 (ts.take i)+1)=(z+1)*cnt q.1 (ts.take i)+z+1:=by rw [Nat.mul_add]; omega
   show TOk P ((z+1)*(cnt q.1 (ts.take i)+1)) _
   rw [e1]
   cases e:bn (cB (ts.take i)) q.1 with
   | none=>exact ⟨hq.1,hq.2.1,hq.2.2.mono (by omega)⟩
   | some y=>
    have hy:=ih _ (bo e)
    refine ⟨oH hy.1 hq.1,λh0=>?_,?_⟩
    ·show (fpl y q.2).2=1
     rw [nY (hy.2.1 h0) (hq.2.1 h0)]
    ·exact fpl_sz hy.1 hq.1 hy.2.2 hq.2.2
  ·obtain ⟨a,b,c⟩:=ih p w
   exact ⟨a,b,c.mono (Nat.mul_le_mul_left _ (by omega))⟩
theorem gath_n {P:Int} {ts:List aj} {z n y:Nat} (h:∀ q ∈ ts,TOk P z q) (hn:∀ k,cnt k ts<=n) (hy:(z+1)*n<=y) (i:Nat) (hi:i<=ts.length):∀ p ∈ cB (ts.take i),TOk P y p:=λp hp=>by
 obtain ⟨a,b,c⟩:=gath_cnt h i hi p hp
 exact ⟨a,b,c.mono (Nat.le_trans (Nat.mul_le_mul_left _ (Nat.le_trans (cnt_take _ _ _) (hn _))) hy)⟩
theorem nV {P:Int} (hP:oU P) {S:Nat} (hS:14<=S) {ps:List aj} (h:∀ p ∈ ps,OkN P p.2/\Sz S p.2):∀ i,i<=ps.length->∀ p ∈ acc P (ps.take i),1<=cnt p.1 (ps.take i)/\Sz ((S+1)*cnt p.1 (ps.take i)) p.2
 | 0,_,p,hp=>by simp [acc] at hp
 | i+1,hi,p,hp=>by
  have hB:=hP.b
  obtain ⟨q,eq⟩:∃ q,ps[i]? = some q:=⟨_,getElem?_eq_getElem (by omega)⟩
  have ih:=nV hP hS h i (by omega)
  have okm:∀ q ∈ acc P (ps.take i),OkN P q.2:=dG hB.1 hB.2.2 λq hq=>(h q (mem_of_mem_take hq)).1
  obtain ⟨oq,zq⟩:=h q (mem_of_getElem? eq)
  have et:ps.take (i+1)=ps.take i++[q]:=by rw [take_add_one,eq]; rfl
  rw [eX eq] at hp
  rw [et,eB]
  rcases cX hp with z | z
  ·rw [z,show cnt (q.1,_).1 [q]=1 from cnt_one q]
   show _/\Sz ((S+1)*(cnt q.1 (ps.take i)+1)) (aS P ((bn (acc P (ps.take i)) q.1).getD (0,1)) q.2)
   have e3:(S+1)*(cnt q.1 (ps.take i)+1)=(S+1)*cnt q.1 (ps.take i)+(S+1):=Nat.mul_succ _ _
   rw [e3]
   refine ⟨by omega,?_⟩
   cases e:bn (acc P (ps.take i)) q.1 with
   | none=>
    show Sz _ (aS P (0,1) q.2)
    rw [cf oq]
    exact zq.mono (by omega)
   | some y=>
    have my:=bo e
    obtain ⟨c1,sy⟩:=ih _ my
    have c1:1<=cnt q.1 (ps.take i):=c1
    have e4:S+1<=(S+1)*cnt q.1 (ps.take i):=Nat.le_mul_of_pos_right _ c1
    exact (dC hB.1 hB.2.1 (okm _ my) oq sy zq (by show 14<=(S+1)*cnt q.1 (ps.take i); omega)).1.mono (by show (S+1)*cnt q.1 (ps.take i)+S+1<=_; omega)
  ·obtain ⟨a,b⟩:=ih p z
   exact ⟨by omega,b.mono (Nat.mul_le_mul_left _ (by omega))⟩
theorem acc_c {P:Int} (hP:oU P) {S n:Nat} (hS:14<=S) {ps:List aj} (h:∀ p ∈ ps,OkN P p.2/\Sz S p.2) (hn:∀ k,cnt k ps<=n) (i:Nat):∀ p ∈ acc P (ps.take i),Sz ((S+1)*n) p.2:=λp hp=>by
 by_cases hi:i<=ps.length
 ·exact (nV hP hS h i hi p hp).2.mono (Nat.mul_le_mul_left _ (Nat.le_trans (cnt_take _ _ _) (hn _)))
 ·rw [take_of_length_le (by omega)] at hp
  exact (nV hP hS h ps.length (Nat.le_refl _) p (by rw [take_length]; exact hp)).2.mono (Nat.mul_le_mul_left _ (by rw [take_length]; exact hn _))
theorem sumOk_c {P:Int} (hP:oU P) {S n:Nat} (hS:14<=S) {ps:List aj} (h:∀ p ∈ ps,OkN P p.2/\Sz S p.2) (hn:∀ k,cnt k ps<=n) (h1:S<=2900) (h2:(S+1)*n<=2900):bO P ps:=⟨λp hp=>⟨(h p hp).1,(h p hp).2.mono h1⟩,λi p hp=>(acc_c hP hS h hn i p hp).mono h2⟩
theorem canon_c {P L:Int} (hP:oU P) {S n:Nat} (hS:14<=S) {ps out:List aj} (h:∀ p ∈ ps,OkN P p.2/\Sz S p.2/\(p.1.length:Int)=L/\∀ e ∈ p.1,0<=e) (hn:∀ k,cnt k ps<=n) (hs:o7 P ps out):o8 P L ((S+1)*n) out/\out.length<=ps.length/\∀ q ∈ out,∃ r ∈ ps,r.1=q.1:=by
 have hB:=hP.b
 have h':∀ p ∈ ps,OkN P p.2/\Sz S p.2:=λp hp=>⟨(h p hp).1,(h p hp).2.1⟩
 have fr:∀ q ∈ out,∃ r ∈ ps,r.1=q.1:=λq hq=>fZ q (hs.mem q hq)
 refine ⟨⟨hs.2,λq hq=>⟨dG hB.1 hB.2.2 (λp hp=>(h p hp).1) q (hs.mem q hq),acc_c hP hS h' hn ps.length q (by rw [take_length]; exact hs.mem q hq),hs.nz q hq,?_⟩⟩,?_,fr⟩
 ·obtain ⟨r,hr,e⟩:=fr q hq
  rw [<- e]
  exact (h r hr).2.2
 ·have e1:=hs.1.length_eq
  have e2:=length_filter_le nz (acc P ps)
  have e3:=eZ P ps
  omega
theorem jh (k:List Int) (f:aj->aj->Int × Int) {L:Nat}:∀ {ps qs:List aj},(ps.map (·.1)).Nodup->(∀ p ∈ ps,p.1.length=L)->(∀ q ∈ qs,q.1.length=L)->cnt k (ps.flatMap λa=>qs.map λb=>(bQ a.1 b.1,f a b))<=qs.length
 | ps,[],_,_,_=>by
  have:(ps.flatMap λa=>([]:List aj).map λb=>(bQ a.1 b.1,f a b))=[]:=by simp
  rw [this]; exact Nat.le_refl _
 | ps,b::r,hn,h1,h2=>by
  have ih:=jh k f hn h1 λq hq=>h2 q (mem_cons_of_mem _ hq)
  have sp:∀ ps:List aj,cnt k (ps.flatMap λa=>(b::r).map λb=>(bQ a.1 b.1,f a b))=cnt k (ps.map λa=>(bQ a.1 b.1,f a b))+cnt k (ps.flatMap λa=>r.map λb=>(bQ a.1 b.1,f a b)):=λps=>by
   induction ps with
   | nil=>rfl
   | cons a t iht=>
    rw [flatMap_cons,eB,iht,flatMap_cons,eB,map_cons]
    have e1:cnt k ((bQ a.1 b.1,f a b)::r.map λb=>(bQ a.1 b.1,f a b))=cnt k [(bQ a.1 b.1,f a b)]+cnt k (r.map λb=>(bQ a.1 b.1,f a b)):=eB k [_] _
    have e2:cnt k ((a::t).map λa=>(bQ a.1 b.1,f a b))=cnt k [(bQ a.1 b.1,f a b)]+cnt k (t.map λa=>(bQ a.1 b.1,f a b)):=eB k [_] _
    rw [e1,e2]
    omega
  rw [sp ps]
  have one:cnt k (ps.map λa=>(bQ a.1 b.1,f a b))<=1:=by
   refine lT k ?_
   rw [map_map,show (ps.map ((λx=>x.1) ∘ λa=>(bQ a.1 b.1,f a b)))=(ps.map (·.1)).map λx=>bQ x b.1 by rw [map_map]; rfl]
   refine List.pairwise_map.mpr (hn.imp_of_mem λ{x y} hx hy hxy z=>hxy ?_)
   obtain ⟨p,hp,rfl⟩:=List.mem_map.mp hx
   obtain ⟨q,hq,rfl⟩:=List.mem_map.mp hy
   have hb:=h2 b mem_cons_self
   exact zadd_inj ((h1 p hp).trans hb.symm) ((h1 q hq).trans hb.symm) z
  rw [length_cons]
  omega
theorem cnt_prods (P:Int) (k:List Int) {L:Nat} {ps qs:List aj} (hn:(ps.map (·.1)).Nodup) (h1:∀ p ∈ ps,p.1.length=L) (h2:∀ q ∈ qs,q.1.length=L):cnt k (aW P ps qs)<=qs.length:=jh k (λa b=>du P a.2 b.2) hn h1 h2
theorem cnt_trms (k:List Int) {L:Nat} {ps qs:List aj} (hn:(ps.map (·.1)).Nodup) (h1:∀ p ∈ ps,p.1.length=L) (h2:∀ q ∈ qs,q.1.length=L):cnt k (fz ps qs)<=qs.length:=jh k (λa b=>(a.2.1*b.2.1,a.2.2*b.2.2)) hn h1 h2
theorem trms_ok2 {P:Int} {ps qs:List aj} {y z:Nat} (h1:∀ p ∈ ps,OkN P p.2/\Sz y p.2) (h2:∀ p ∈ qs,OkN P p.2/\Sz z p.2):∀ q ∈ fz ps qs,TOk P (y+z) q:=λq hq=>by
 obtain ⟨a,ha,hb⟩:=List.mem_flatMap.mp hq
 obtain ⟨b,mb,rfl⟩:=List.mem_map.mp hb
 obtain ⟨oa,sa⟩:=h1 a ha
 obtain ⟨ob,sb⟩:=h2 b mb
 refine ⟨Int.mul_pos oa.den ob.den,λh0=>?_,eI sa.1 sb.1,eI sa.2 sb.2⟩
 rcases oa with ⟨z,_⟩ | ⟨_,_,_,ea⟩
 ·exact absurd z h0
 rcases ob with ⟨z,_⟩ | ⟨_,_,_,eb⟩
 ·exact absurd z h0
 show a.2.2*b.2.2=1
 rw [ea,eb]; rfl
def spTimes (K:Frag):Sp:=λvs H Q _=>∃ (a b:Addr) (ns ms:List Int),vs=[.ref a,.ref b]/\SqT K H a (ns.map V.int)/\SqT K H b (ms.map V.int)/\ns.length<=1000/\∀ l H',oS H H'->H' l=some (.tup ((List.zipWith (· + ·) ns ms).map V.int))->Q (.ref l) H'
theorem iZ:oW ["one", "other"] ["one", "other"] (am dc):=.i
theorem ok_times {f:Addr} {fd:FuncData} (F:Fun K "product_times" "product_times" dc f fd) (T:Blt mg):oY P w K mg base CX0 1 f fd ["one", "other"] (spTimes K):=by
 refine F.o iZ λ_ _ _ _ H _ Q _ hr h=>?_
 ·obtain ⟨a,b,ns,ms,rfl,ha,hb,hn,q⟩:=h
  refine ⟨_,(ak (ar (gC K T (by exact aO (N:=["first", "second"]) (src:=[none,none]) rfl rfl rfl (by exact (dB K true true rfl rfl T.zip (aa (pv 0) (aa (pv 1) ae)))) (λ_ _ _=>by exact ⟨by exact (bw K (i:=0) (j:=1) rfl rfl nd_14 rfl rfl rfl rfl),aP,by exact (ap aL (pv 0) (pv 1))⟩))))),?_⟩
  refine ⟨_,rfl,_,rfl,a,b,rfl,⟨_,ji ha⟩,⟨_,ji hb⟩,comp_zip (v2 λi j=>.int (i+j)) rfl (ji ha) (ji hb) (by rw [length_map]; exact Nat.le_of_lt (gE hn)) (λi x y H1 R hx hy sm hR=>?_) (λacc H1 hacc sm hl=>?_)⟩
  ·obtain ⟨z,_,rfl⟩:=cW hx
   obtain ⟨z',_,rfl⟩:=cW hy
   exact ⟨_,rfl,_,rfl,_,_,rfl,rfl,hR⟩
  ·rw [zip_v2,zw_map V.int] at hl
   exact ⟨acc,_,rfl,SqL.of hl,λl n=>q l _ (sm.trans (oS.new n)) ac⟩
def spFPr:Sp:=λvs H Q _=>∃ x:V,vs=[x]/\Q (.int 0) H
def spRPr (CR:Addr):Sp:=λvs H Q _=>∃ (x dx:Addr) (p:Int),vs=[.ref x]/\H x=some (.ins CR dx [("modulus",.int p)])/\Q (.int p) H
def Fr (H:Hp) (t:Addr) (x:Int × Int):Prop:=H t=some (.tup [.int x.1,.int x.2])
def spTB (CF CR:Addr):Sp:=λvs H Q _=>∃ (x:Addr) (P:Int) (u:V) (a:Int × Int),vs=[.ref x,u]/\pC CF CR H x P/\At P H u a/\∀ t H',oS H H'->Fr H' t a->Q (.ref t) H'
def spFPlus:Sp:=λvs H Q _=>∃ (s t:Addr) (a b:Int × Int),vs=[.ref s,.ref t]/\Fr H s a/\Fr H t b/\0<a.2/\0<b.2/\Sz 2900 a/\Sz 2900 b/\∀ r,H r=none->Q (.ref r) (upd H r (.tup [.int (fpl a b).1,.int (fpl a b).2]))
def TermR (H:Hp) (v:V) (q:aj):Prop:=∃ t k,v=.ref t/\H t=some (.tup [.ref k,.int q.2.1,.int q.2.2])/\H k=some (.tup (q.1.map V.int))
def pG (H:Hp) (vs:List V) (qs:List aj):Prop:=Paired (TermR H) vs qs
theorem TermR.mono {H H':Hp} {v:V} {q:aj} (k:∀ t xs,H t=some (.tup xs)->H' t=some (.tup xs)) (h:TermR H v q):TermR H' v q:=by
 obtain ⟨t,c,e,h1,h2⟩:=h
 exact ⟨t,c,e,k _ _ h1,k _ _ h2⟩
theorem pG.mono {H H':Hp} (k:∀ t xs,H t=some (.tup xs)->H' t=some (.tup xs)):∀ {vs:List V} {qs:List aj},pG H vs qs->pG H' vs qs
 | _,_,.nil=>.nil
 | _,_,.cons q r=>.cons (q.mono k) (pG.mono k r)
theorem pG.snoc {H:Hp} {v:V} {q:aj} (h:TermR H v q):∀ {vs:List V} {qs:List aj},pG H vs qs->pG H (vs++[v]) (qs++[q])
 | _,_,.nil=>.cons h .nil
 | _,_,.cons q r=>.cons q (pG.snoc h r)
theorem pG.at_ {H:Hp}:∀ {vs:List V} {qs:List aj} {i:Nat} {v:V},pG H vs qs->vs[i]? = some v->∃ q,qs[i]? = some q/\TermR H v q
 | _,_,0,_,.cons q _,e=>⟨_,rfl,by rw [<- Option.some.inj e]; exact q⟩
 | _,_,i+1,_,.cons _ r,e=>pG.at_ (i:=i) r e
def mW (CF CR CG:Addr):Sp:=λvs H Q _=>∃ (g x l1 l2:Addr) (P L:Int) (ts1 ts2:List V) (ps1 ps2:List aj),vs=[.ref g,.ref l1,.ref l2]/\oU P/\cH CG H g x L/\pC CF CR H x P/\H l1=some (.lst ts1)/\oV P H ts1 ps1/\H l2=some (.lst ts2)/\oV P H ts2 ps2/\ps1.length<=6/\ps2.length<=6/\(∀ p ∈ ps1,Sz 300 p.2/\p.1.length<=10)/\(∀ p ∈ ps2,Sz 300 p.2)/\
 ∀ (d:Addr) (rs:List V) (H':Hp),H d=none->oS H H'->H' d=some (.lst rs)->pG H' rs (fz ps1 ps2)->Q (.ref d) H'
def spGath (CF CR CG:Addr):Sp:=λvs H Q _=>∃ (g x l:Addr) (P L:Int) (ts:List V) (qs:List aj),vs=[.ref g,.ref l]/\oU P/\cH CG H g x L/\pC CF CR H x P/\H l=some (.lst ts)/\pG H ts qs/\qs.length<=60/\(∀ q ∈ qs,TOk P 2900 q)/\(∀ i,i<=qs.length->∀ p ∈ cB (qs.take i),TOk P 2900 p)/\
 ∀ (d:Addr) (rs:List V) (out:List aj) (H':Hp),H d=none->oS H H'->H' d=some (.lst rs)->oV P H' rs out->o7 P (vm P qs) out->Q (.ref d) H'
def spTimesS (CF CR CG:Addr):Sp:=λvs H Q _=>∃ (g x l1 l2:Addr) (P L:Int) (n:Nat) (ts1 ts2:List V) (ps1 ps2:List aj),vs=[.ref g,.ref l1,.ref l2]/\oU P/\cH CG H g x L/\pC CF CR H x P/\H l1=some (.lst ts1)/\oV P H ts1 ps1/\H l2=some (.lst ts2)/\oV P H ts2 ps2/\ps1.length<=6/\ps2.length<=2/\(ps1.map (·.1)).Nodup/\(∀ p ∈ ps1,OkN P p.2/\Sz 300 p.2/\p.1.length=n/\p.1.length<=10)/\(∀ p ∈ ps2,OkN P p.2/\Sz 300 p.2/\p.1.length=n)/\
 ∀ (d:Addr) (rs:List V) (out:List aj) (H':Hp),H d=none->oS H H'->H' d=some (.lst rs)->oV P H' rs out->o7 P (aW P ps1 ps2) out->Q (.ref d) H'
theorem im:oW ["self"] ["self"] (am aY):=.i
theorem ok_fpr {f:Addr} {fd:FuncData} (F:Fun K "prime" "Fractions.prime" aY f fd):oY P w K mg base CX0 1 f fd ["self"] spFPr:=by
 refine F.o im λ_ _ _ _ H _ Q _ hr h=>?_
 ·obtain ⟨x,rfl,q⟩:=h
  exact ⟨_,(ak (ar af)),q⟩
theorem kX:oW ["self"] ["self"] (am bH):=.i
theorem ok_rpr {f CR:Addr} {fd:FuncData} (F:Fun K "prime" "Rests.prime" bH f fd) (cl:Cls K CR) (nM:pQ K CR "modulus"):oY P w K mg base CX0 1 f fd ["self"] (spRPr CR):=by
 refine F.o kX λ_ _ _ _ H _ Q _ hr h=>?_
 ·obtain ⟨x,dx,p,rfl,hx,q⟩:=h
  exact ⟨_,(ak (ar (hW (pv 0) rfl))),⟨_,rfl,x,CR,dx,_,_,rfl,hx,cl,nM,rfl,q⟩⟩
theorem iu:oW ["numbers", "number"] ["numbers", "number"] (am cL):=.i
theorem ok_tb {f CF CR:Addr} {fd:FuncData} (F:Fun K "top_and_bottom" "top_and_bottom" cL f fd) (yR:MtB P w K mg base 1 CF "prime" spFPr) (yS:MtB P w K mg base 1 CR "prime" (spRPr CR)):oY P w K mg base CX0 2 f fd ["numbers", "number"] (spTB CF CR):=by
 refine F.o iu λ_ _ _ _ H _ Q _ hr h=>?_
 ·obtain ⟨x,P,u,a,rfl,hN,hu,q⟩:=h
  refine ⟨_,(ag (aH (aw bM (gU (fG yR hr.m (pv 0)) (fG yS hr.m (pv 0))) af (ay _))
(ak (ar (pv 1)))
aA)
(ak (ar (aT (aa (pv 1) (aa af ae)))))),?_⟩
  rcases hN with ⟨h0,dx,e⟩ | ⟨h0,dx,e⟩
  ·rcases hu with ⟨_,t,rfl,ht⟩ | ⟨z,_⟩
   ·exact .inl ⟨_,rfl,x,dx,_,rfl,e,rfl,.ref x,rfl,rfl,_,rfl,bF ⟨_,rfl,q t H (oS.refl _) ht⟩⟩
   ·exact absurd h0 z
  ·rcases hu with ⟨z,_⟩ | ⟨_,rfl,h1⟩
   ·exact absurd z h0
   ·refine .inr ⟨_,rfl,x,dx,_,rfl,e,mV (by decide +kernel) _,x,dx,P,rfl,e,rfl,_,rfl,?_⟩
    rw [decide_eq_false (show ¬ V.int P=V.int 0 from λz=>h0 (by injection z))]
    refine br ⟨_,rfl,(by show 2<=sizeLine; decide),λt nt=>q t _ (oS.new nt) ?_⟩
    show upd H t (.tup [.int a.1,.int 1]) t=some (.tup [.int a.1,.int a.2])
    rw [h1,ac]
theorem qa:oW ["one", "other", "common", "share"] ["one", "other"] (am db):=.i
theorem ok_fpl {f:Addr} {fd:FuncData} (F:Fun K "fraction_plus" "fraction_plus" db f fd) (qZ:FnB P w K mg base 1 "greatest_divisor" spGcd):oY P w K mg base CX0 2 f fd ["one", "other"] spFPlus:=by
 refine F.o qa λ_ _ _ _ H _ Q _ hr h=>?_
 ·obtain ⟨s,t,a,b,rfl,hs,ht,ha,hb,sa,sb,q⟩:=h
  refine ⟨_,(ag (aH (aw bM (aB (az K rfl) (pv 0) af (λ_ _=>rfl)) (aB (az K rfl) (pv 1) af (λ_ _=>rfl)) (ay _))
(ak (ar (aT (aa (ap aL (aB (az K rfl) (pv 0) af (λ_ _=>rfl)) (aB (az K rfl) (pv 1) af (λ_ _=>rfl))) (aa (aB (az K rfl) (pv 0) af (λ_ _=>rfl)) ae)))))
aA)
(ag (au (i:=2) qa.nd rfl (Or.inl rfl) (aq qZ hr.m (aa (aB (az K rfl) (pv 0) af (λ_ _=>rfl)) (aa (aB (az K rfl) (pv 1) af (λ_ _=>rfl)) ae))))
(ag (au (i:=3) qa.nd rfl (Or.inl rfl) (ap bS (aB (az K rfl) (pv 1) af (λ_ _=>rfl)) (pv 2)))
(ak (ar (aT (aa (ap aL (ap bE (aB (az K rfl) (pv 0) af (λ_ _=>rfl)) (pv 3)) (ap bE (aB (az K rfl) (pv 1) af (λ_ _=>rfl)) (ap bS (aB (az K rfl) (pv 0) af (λ_ _=>rfl)) (pv 2)))) (aa (ap bE (aB (az K rfl) (pv 0) af (λ_ _=>rfl)) (pv 3)) ae)))))))),?_⟩
  unfold fpl at q
  refine ⟨_,rfl,s,_,_,_,rfl,rfl,SqT.of hs,rfl,_,rfl,t,_,_,_,rfl,rfl,SqT.of ht,rfl,rfl,_,rfl,bu (λh=>?_) (λh=>?_)⟩
  ·have h0:a.2=b.2:=by have:=of_decide_eq_true h; injection this
   rw [if_pos h0] at q
   exact ⟨_,rfl,s,_,_,_,rfl,rfl,SqT.of hs,rfl,_,rfl,t,_,_,_,rfl,rfl,SqT.of ht,rfl,_,_,rfl,rfl,_,rfl,s,_,_,_,rfl,rfl,SqT.of hs,rfl,(by show 2<=sizeLine; decide),λr nr=>q r nr⟩
  ·have h0:¬ a.2=b.2:=λz=>h (decide_eq_true (congrArg V.int z))
   rw [if_neg h0] at q
   obtain ⟨e1,e2,hg,u0,v0⟩:=iR ha hb
   have gle:(Int.gcd a.2 b.2)<=b.2.natAbs:=Nat.le_of_dvd (by omega) (Nat.gcd_dvd_right a.2.natAbs b.2.natAbs)
   have gsm:(Int.gcd a.2 b.2)<2 ^ 6000:=Nat.lt_of_le_of_lt gle (Nat.lt_trans sb.2 iE)
   have cd:∀ i:Int,CDivA i (Int.gcd a.2 b.2:Int):=λi=>⟨by omega,by rw [Int.natAbs_natCast]; exact gsm⟩
   have hu:(a.2.fdiv (Int.gcd a.2 b.2:Int)).natAbs<=a.2.natAbs:=by
    conv=>rhs; rw [e1]
    rw [Int.natAbs_mul]
    exact Nat.le_mul_of_pos_left _ (by omega)
   have hv:(b.2.fdiv (Int.gcd a.2 b.2:Int)).natAbs<=b.2.natAbs:=by
    conv=>rhs; rw [e2]
    rw [Int.natAbs_mul]
    exact Nat.le_mul_of_pos_left _ (by omega)
   have su:=Nat.lt_of_le_of_lt hu sa.2
   have sv:=Nat.lt_of_le_of_lt hv sb.2
   refine ⟨_,rfl,s,_,_,_,rfl,rfl,SqT.of hs,rfl,_,rfl,t,_,_,_,rfl,rfl,SqT.of ht,rfl,a.2,b.2,rfl,?_⟩
   refine ⟨_,rfl,t,_,_,_,rfl,rfl,SqT.of ht,rfl,_,rfl,_,_,rfl,rfl,cd _,?_⟩
   refine ⟨_,rfl,s,_,_,_,rfl,rfl,SqT.of hs,rfl,_,rfl,_,_,rfl,rfl,dQ sa.1 sv,?_⟩
   refine ⟨_,rfl,t,_,_,_,rfl,rfl,SqT.of ht,rfl,_,rfl,s,_,_,_,rfl,rfl,SqT.of hs,rfl,_,rfl,_,_,rfl,rfl,cd _,_,_,rfl,rfl,dQ sb.1 su,_,_,rfl,rfl,?_⟩
   exact ⟨_,rfl,s,_,_,_,rfl,rfl,SqT.of hs,rfl,_,rfl,_,_,rfl,rfl,dQ sa.2 sv,(by show 2<=sizeLine; decide),λr nr=>q r nr⟩
theorem pJ:oW ["ring", "one", "other", "terms", "product", "number", "first", "second", "factor", "fraction"] ["ring", "one", "other"] (am dq):=.i
theorem ok_terms {f CF CR CG:Addr} {fd:FuncData} (F:Fun K "product_terms" "product_terms" dq f fd) (si:MtB P w K mg base 1 CG "numbers" (g0 CG)) (rZ:FnB P w K mg base 2 "top_and_bottom" (spTB CF CR)) (tO:FnB P w K mg base 1 "product_times" (spTimes K)):oY P w K mg base CX0 3 f fd ["ring", "one", "other"] (mW CF CR CG):=by
 refine F.o pJ λ_ _ _ _ H _ Q _ hr h=>?_
 ·obtain ⟨g,x,l1,l2,P,L,ts1,ts2,ps1,ps2,rfl,hP,hg,hN,h1,p1,h2,p2,n1,n2,ok1,ok2,q⟩:=h
  refine ⟨_,(ag (au (i:=3) pJ.nd rfl (Or.inl rfl) (aI ae))
(ag (bc PassesOwn.never rfl (aG K rfl (pv 1)) (bw K (i:=4) (j:=5) rfl rfl pJ.nd rfl rfl rfl rfl)
(ag (au (i:=6) pJ.nd rfl (Or.inl rfl) (aq rZ hr.m (aa (fG si hr.m (pv 0)) (aa (pv 5) ae))))
(ak (bc PassesOwn.never rfl (aG K rfl (pv 2)) (bw K (i:=7) (j:=8) rfl rfl pJ.nd rfl rfl rfl rfl)
(ag (au (i:=9) pJ.nd rfl (Or.inl rfl) (aq rZ hr.m (aa (fG si hr.m (pv 0)) (aa (pv 8) ae))))
(ak (bh (bmA K rfl (pv 3) (aa (aT (aa (aq tO hr.m (aa (pv 4) (aa (pv 7) ae))) (aa (ap bE (aB (az K rfl) (pv 6) af (λ_ _=>rfl)) (aB (az K rfl) (pv 9) af (λ_ _=>rfl))) (aa (ap bE (aB (az K rfl) (pv 6) af (λ_ _=>rfl)) (aB (az K rfl) (pv 9) af (λ_ _=>rfl))) ae)))) ae)))))))))
(ak (ar (pv 3))))),?_⟩
  have t1:ts1.length=ps1.length:=Paired.length p1
  have t2:ts2.length=ps2.length:=Paired.length p2
  obtain ⟨dxg,hg'⟩:=id hg
  refine ⟨Nat.zero_le _,λd hd=>?_⟩
  have s0:=oS.new (o:=.lst []) hd
  refine ⟨_,rfl,l1,rfl,⟨_,SqL.of (s0 _ _ h1)⟩,cx (xs:=ts1) (λi σ H'=>∃ (x4 x5 x6 x7 x8 x9:Option V) (rs:List V),σ=[some (.ref g),some (.ref l1),some (.ref l2),some (.ref d),x4,x5,x6,x7,x8,x9]/\oS H H'/\H' d=some (.lst rs)/\pG H' rs (fz (ps1.take i) ps2)) ?_ ?_ ?_ ?_⟩
  ·exact ⟨none,none,none,none,none,none,[],rfl,s0,ac,.nil⟩
  ·rintro i σ H' _ ⟨x4,x5,x6,x7,x8,x9,rs,rfl,sm,_⟩
   exact SqL.of (sm _ _ h1)
  ·rintro i v σ H1 hx ⟨x4,x5,x6,x7,x8,x9,rs,rfl,sm,hd1,tr⟩ N0 B0 hN0
   obtain ⟨p,ep,t,k,u,rfl,ht,hk,hu⟩:=p1.at_ hx
   have mp:p ∈ ps1:=mem_of_getElem? ep
   obtain ⟨sp,lp⟩:=ok1 p mp
   have hi:i<ts1.length:=(List.getElem?_eq_some_iff.mp hx).1
   refine ⟨t,_,rfl,SqT.of (sm _ _ ht),rfl,_,_,rfl,_,_,rfl,rfl,?_⟩
   refine ⟨_,rfl,g,dxg,_,rfl,sm _ _ hg',rfl,g,x,L,rfl,⟨dxg,sm _ _ hg'⟩,_,rfl,x,P,u,p.2,rfl,hN.mono λo e=>sm _ _ e,hu.same sm,λtf H2 s2 hf=>?_⟩
   have sm2:=sm.trans s2
   have hd2:=s2 _ _ hd1
   have tr2:=tr.mono λt xs e=>s2 _ _ e
   refine ⟨_,rfl,l2,rfl,⟨_,SqL.of (sm2 _ _ h2)⟩,cx (xs:=ts2) (λj σ H'=>∃ (x7 x8 x9:Option V) (rs:List V),σ=[some (.ref g),some (.ref l1),some (.ref l2),some (.ref d),some (.ref k),some u,some (.ref tf),x7,x8,x9]/\oS H H'/\Fr H' tf p.2/\H' d=some (.lst rs)/\pG H' rs (fz (ps1.take i) ps2++oK p (ps2.take j))) ?_ ?_ ?_ ?_⟩
   ·exact ⟨_,_,_,rs,rfl,sm2,hf,hd2,by rw [take_zero]; show pG H2 rs (fz (ps1.take i) ps2++[]); rw [append_nil]; exact tr2⟩
   ·rintro j σ H' _ ⟨x7,x8,x9,rs,rfl,sm',_⟩
    exact SqL.of (sm' _ _ h2)
   ·rintro j v' σ H3 hx' ⟨x7,x8,x9,rs',rfl,sm3,hf3,hd3,tr3⟩ N1 B1 hN1
    obtain ⟨p',ep',t',k',u',rfl,ht',hk',hu'⟩:=p2.at_ hx'
    have mp':p' ∈ ps2:=mem_of_getElem? ep'
    have sp':=ok2 p' mp'
    have hj:j<ts2.length:=(List.getElem?_eq_some_iff.mp hx').1
    refine ⟨t',_,rfl,SqT.of (sm3 _ _ ht'),rfl,_,_,rfl,_,_,rfl,rfl,?_⟩
    refine ⟨_,rfl,g,dxg,_,rfl,sm3 _ _ hg',rfl,g,x,L,rfl,⟨dxg,sm3 _ _ hg'⟩,_,rfl,x,P,u',p'.2,rfl,hN.mono λo e=>sm3 _ _ e,hu'.same sm3,λtg H4 s4 hf4=>?_⟩
    have sm4:=sm3.trans s4
    have hd4:=s4 _ _ hd3
    refine ⟨_,rfl,.inl ⟨rfl,_,SqL.of hd4⟩,_,rfl,_,rfl,k,k',p.1,p'.1,rfl,SqT.of (sm4 _ _ hk),SqT.of (sm4 _ _ hk'),by omega,λc H5 s5 hc=>?_⟩
    have hf5:=s5 _ _ (s4 _ _ hf3)
    have hg5:=s5 _ _ hf4
    have m1:IntMulOk p.2.1 p'.2.1:=dQ (sp.mono (by decide)).1 (sp'.mono (by decide)).1
    have m2:IntMulOk p.2.2 p'.2.2:=dQ (sp.mono (by decide)).2 (sp'.mono (by decide)).2
    refine ⟨_,rfl,tf,_,_,_,rfl,rfl,SqT.of hf5,rfl,_,rfl,tg,_,_,_,rfl,rfl,SqT.of hg5,rfl,_,_,rfl,rfl,m1,?_⟩
    refine ⟨_,rfl,tf,_,_,_,rfl,rfl,SqT.of hf5,rfl,_,rfl,tg,_,_,_,rfl,rfl,SqT.of hg5,rfl,_,_,rfl,rfl,m2,?_⟩
    refine ⟨(by show 3<=sizeLine; decide),λt7 n7=>?_⟩
    have s7:=oS.new (o:=.tup [.ref c,.int (p.2.1*p'.2.1),.int (p.2.2*p'.2.2)]) n7
    have hd7:=s7 _ _ (s5 _ _ hd4)
    have lr:rs'.length<=36:=by
     have e:=Paired.length tr3
     rw [length_append,iD] at e
     unfold oK at e
     rw [length_map,length_take,length_take] at e
     have h6:min i ps1.length*ps2.length<=5*6:=Nat.mul_le_mul (by omega) n2
     omega
    refine ⟨d,_,_,rfl,rfl,hd7,by rw [sizeLine_eq]; omega,?_⟩
    have k8:∀ c' o,(upd H5 t7 (.tup [.ref c,.int (p.2.1*p'.2.1),.int (p.2.2*p'.2.2)])) c'=some o->c' ≠ d->upd (upd H5 t7 (.tup [.ref c,.int (p.2.1*p'.2.1),.int (p.2.2*p'.2.2)])) d (.lst (rs' ++ [.ref t7])) c'=some o:=λc' o e hc=>by rw [ao hc]; exact e
    have tk8:∀ c' xs,(upd H5 t7 (.tup [.ref c,.int (p.2.1*p'.2.1),.int (p.2.2*p'.2.2)])) c'=some (.tup xs)->upd (upd H5 t7 (.tup [.ref c,.int (p.2.1*p'.2.1),.int (p.2.2*p'.2.2)])) d (.lst (rs' ++ [.ref t7])) c'=some (.tup xs):=λc' xs e=>k8 c' _ e (bW e hd7 (by intro z; cases z))
    refine hN1 _ _ ⟨_,_,_,rs' ++ [.ref t7],rfl,λc' o e=>k8 c' o (s7 _ _ (s5 _ _ (sm4 _ _ e))) (ah e hd),tk8 _ _ (s7 _ _ hf5),ac,?_⟩
    have e9:oK p (ps2.take (j+1))=oK p (ps2.take j)++[(bQ p.1 p'.1,(p.2.1*p'.2.1,p.2.2*p'.2.2))]:=by
     unfold oK; rw [take_add_one,ep',map_append]; rfl
    rw [e9,<- append_assoc]
    exact (pG.snoc (q:=(bQ p.1 p'.1,(p.2.1*p'.2.1,p.2.2*p'.2.2))) ⟨t7,c,rfl,ac,s7 _ _ hc⟩ (((tr3.mono λt xs e=>s4 _ _ e).mono λt xs e=>s5 _ _ e).mono λt xs e=>s7 _ _ e)).mono tk8
   ·rintro σ H3 ⟨x7,x8,x9,rs',rfl,sm3,hf3,hd3,tr3⟩
    refine hN0 _ _ ⟨_,_,_,_,_,_,rs',rfl,sm3,hd3,?_⟩
    rw [t2,take_length] at tr3
    have e9:fz (ps1.take (i+1)) ps2=fz (ps1.take i) ps2++oK p ps2:=by
     unfold fz; rw [take_add_one,ep,flatMap_append]; simp
    rw [e9]
    exact tr3
  ·rintro σ H1 ⟨x4,x5,x6,x7,x8,x9,rs,rfl,sm,hd1,tr⟩
   rw [t1,take_length] at tr
   exact ⟨_,rfl,q d rs H1 hd sm hd1 tr⟩
theorem of2_go {CF CR qP x:Addr} {P a b:Int} {H:Hp} {σ:L2.St} {R:VK} {ta:TE} {t:TA} (hP:oU P) (hN:pC CF CR H x P) (hb:0<b) (hb1:P ≠ 0->b=1) (hs:b.natAbs<2 ^ 6000) (ha:∀ Z:VK,Z (.ref x) H->ta σ H Z) (ht:∀ Z:List V->Hp->Prop,Z [.int a,.int b] H->t σ H Z)
  (hR:∀ r H',oS H H'->At P H' r (val P (a,b))->R r H') :
  tOrE (fT CF "of" (dU qP) [] E0 ta t) (fT CR "of" (fE CR qP) [] E0 ta t) σ H R:=by
 unfold val at hR
 rcases hN with ⟨h0,dx,e⟩ | ⟨h0,dx,e⟩
 ·rw [if_pos h0] at hR
  refine .inl (ha _ ⟨x,dx,[],rfl,e,rfl,ht _ ⟨.ref x,a,b,rfl,λz=>absurd z (by omega),λ_=>⟨hs,λr nr=>?_⟩⟩⟩)
  exact hR _ _ (oS.new nr) (.inl ⟨h0,r,rfl,ac⟩)
 ·rw [if_neg h0] at hR
  have e1:=hb1 h0
  subst e1
  rcases hP with z | ⟨h2,h9,hp⟩
  ·exact absurd z h0
  have e1:(1:Int) % P=1:=Int.emod_eq_of_lt (by decide) (by omega)
  refine .inr (ha _ ⟨x,dx,_,rfl,e,mV (by decide +kernel) _,ht _ ⟨x,dx,P,a,1,rfl,e,h2,h9,hp,(λz=>absurd (e1.symm.trans z) (by decide)),λ_ r r0 r1 hr=>?_⟩⟩)
  rw [Int.mul_one,Int.emod_eq_of_lt r0 r1] at hr
  rw [hr]
  exact hR _ _ (oS.refl H) (.inr ⟨h0,rfl,rfl⟩)
def FrV (H:Hp) (v:V) (x:Int × Int):Prop:=∃ t,v=.ref t/\Fr H t x
theorem FrV.mono {H H':Hp} {v:V} {x:Int × Int} (k:∀ t xs,H t=some (.tup xs)->H' t=some (.tup xs)) (h:FrV H v x):FrV H' v x:=by
 obtain ⟨t,e,h1⟩:=h
 exact ⟨t,e,k _ _ h1⟩
theorem kv_at {H:Hp} {R:V->Int × Int->Prop}:∀ {kvs:List (List Key × V)} {m:List aj} {as:List Addr} {i:Nat} {x y:V},pi R kvs m->Paired (λ(a:Addr) (q:aj)=>H a=some (.tup (q.1.map V.int))) as m->((as.map V.ref).zip (kvs.map (·.2)))[i]? = some (x,y)->∃ a q,m[i]? = some q/\x=.ref a/\H a=some (.tup (q.1.map V.int))/\R y q.2
 | _,_,_,0,_,_,.cons q _,.cons p _,e=>by
  have e':=Option.some.inj e
  injection e' with e1 e2
  exact ⟨_,_,rfl,e1.symm,p,by rw [<- e2]; exact q.2⟩
 | _,_,_,i+1,_,_,.cons _ r,.cons _ s,e=>kv_at (i:=i) r s e
 | _,_,_,_,_,_,.nil,.nil,e=>by simp at e
theorem pR:oW ["ring", "terms", "found", "product", "top", "bottom", "new", "numbers"] ["ring", "terms"] (am g6):=.i
theorem ok_gath {f CF CR CG qP:Addr} {fd:FuncData} (F:Fun K "gathered" "gathered" g6 f fd) (si:MtB P w K mg base 1 CG "numbers" (g0 CG)) (tP:FnB P w K mg base 2 "fraction_plus" spFPlus) (uB:FnB P w K mg base 5 "sum_of" (spSum CF CR CG))
  (vp:gZ P w K mg base 2 CF "of" [] (dU qP)) (yT:gZ P w K mg base 2 CR "of" [] (fE CR qP)):oY P w K mg base CX0 6 f fd ["ring", "terms"] (spGath CF CR CG):=by
 refine F.o pR λ_ _ _ _ H _ Q _ hr h=>?_
 ·obtain ⟨g,x,l,P,L,ts,qs,rfl,hP,hg,hN,hl,hts,hn,hok,hgk,q⟩:=h
  have hB:=hP.b
  refine ⟨_,(ag (au (i:=2) pR.nd rfl (Or.inl rfl) kT)
(ag (bc PassesOwn.never rfl (aG K rfl (pv 1)) (gb rfl (by exact aK (by exact (aF (i:=3) pR.nd rfl (Or.inl rfl))) (by exact aK (by exact (aF (i:=4) pR.nd rfl (Or.inl rfl))) (by exact aK (by exact (aF (i:=5) pR.nd rfl (Or.inl rfl))) eA))))
(ag (au (i:=6) pR.nd rfl (Or.inl rfl) (aT (aa (pv 4) (aa (pv 5) ae))))
(ak (nk (hu1 hr) (pv 2) (pv 3) (pe_ifExp (pt_cmp (pc_din (hu1 hr) (pv 3) (pv 2))) (aq tP hr.m (aa (eY (hu1 hr) (pv 2) (pv 3) (λ_ _=>rfl)) (aa (pv 6) ae))) (pv 6)) rfl))))
(ag (au (i:=7) pR.nd rfl (Or.inr rfl) (fG si hr.m (pv 0)))
(ak (ar (aq uB hr.m (aa (pv 0) (aa (by exact aO (N:=["product", "fraction", "numbers"]) (src:=[none,none,some 7]) rfl rfl rfl (by exact (kpi_items K rfl (pv 2))) (λ_ _ _=>by exact ⟨by exact (bw K (i:=0) (j:=1) rfl rfl nd_15 rfl rfl rfl rfl),aP,by exact (aT (aa (pv 0) (aa (gU (eE vp hr.m dO (pv 2) (aa (aB (az K rfl) (pv 1) af (λ_ _=>rfl)) (aa (aB (az K rfl) (pv 1) af (λ_ _=>rfl)) ae))) (eE yT hr.m dO (pv 2) (aa (aB (az K rfl) (pv 1) af (λ_ _=>rfl)) (aa (aB (az K rfl) (pv 1) af (λ_ _=>rfl)) ae)))) ae)))⟩)) ae)))))))),?_⟩
  have lt:ts.length=qs.length:=Paired.length hts
  obtain ⟨dxg,hg'⟩:=id hg
  intro d hd
  have dl:d ≠ l:=λz=>by rw [z,hl] at hd; cases hd
  refine ⟨_,rfl,l,rfl,⟨_,SqL.of (by rw [ao dl.symm]; exact hl)⟩,gd (xs:=ts) (λi σ H'=>∃ (x3 x4 x5 x6:Option V) (kvs:List (List Key × V)),σ=[some (.ref g),some (.ref l),some (.ref d),x3,x4,x5,x6,none]/\oS H H'/\H' d=some (.dT kvs)/\pi (FrV H') kvs (cB (qs.take i))) ?_ ?_ ?_ ?_⟩
  ·exact ⟨none,none,none,none,[],rfl,oS.new hd,ac,.nil⟩
  ·rintro i σ H' _ ⟨x3,x4,x5,x6,kvs,rfl,sm,_⟩
   exact SqL.of (sm _ _ hl)
  ·rintro i v σ H1 hx ⟨x3,x4,x5,x6,kvs,rfl,sm,hd1,dr⟩
   obtain ⟨p,ep,t,k,rfl,ht,hk⟩:=hts.at_ hx
   have mp:p ∈ qs:=mem_of_getElem? ep
   have op:=hok p mp
   have hi:i<ts.length:=(List.getElem?_eq_some_iff.mp hx).1
   have okm:=hgk i (by omega)
   refine ⟨t,_,rfl,SqT.of (sm _ _ ht),rfl,_,_,rfl,_,_,rfl,_,_,rfl,rfl,?_⟩
   refine ⟨_,rfl,_,rfl,(by show 2<=sizeLine; decide),λnw nn=>?_⟩
   have s2:=oS.new (o:=.tup [.int p.2.1,.int p.2.2]) nn
   have hw2:(upd H1 nw (.tup [.int p.2.1,.int p.2.2])) nw=some (.tup [.int p.2.1,.int p.2.2]):=ac
   have hd2:=s2 _ _ hd1
   have dr2:pi (FrV (upd H1 nw (.tup [.int p.2.1,.int p.2.2]))) kvs (cB (qs.take i)):=dr.mono λv x z=>z.mono λt xs e=>s2 _ _ e
   have sm2:=sm.trans s2
   generalize upd H1 nw (.tup [.int p.2.1,.int p.2.2])=H2 at *
   have hk2:H2 k=some (.tup ((kI p.1).map kV)):=by rw [mT]; exact sm2 _ _ hk
   have hlen:kvs.length<sizeLine:=by
    have h1:kvs.length=(cB (qs.take i)).length:=Paired.length dr2
    have h2:=iq qs i
    rw [h1,sizeLine_eq]
    omega
   have fin:∀ r3 H3 y3,oS H2 H3->Fr H3 r3 y3->jv (cB (qs.take i)) p=cR (cB (qs.take i)) p.1 y3->∃ (x3 x4 x5 x6:Option V) (kvs':List (List Key × V)),[some (V.ref g),some (.ref l),some (.ref d),some (.ref k),some (.int p.2.1),some (.int p.2.2),some (.ref nw),none]=[some (.ref g),some (.ref l),some (.ref d),x3,x4,x5,x6,none]/\oS H (upd H3 d (.dT (cQ kvs (kI p.1) (.ref r3))))/\(upd H3 d (.dT (cQ kvs (kI p.1) (.ref r3)))) d=some (.dT kvs')/\pi (FrV (upd H3 d (.dT (cQ kvs (kI p.1) (.ref r3))))) kvs' (cB (qs.take (i+1))):=λr3 H3 y3 s3 a3 eg=>by
    have d3:H3 d=some (.dT kvs):=s3 _ _ hd2
    have keep:∀ c o,H3 c=some o->c ≠ d->upd H3 d (.dT (cQ kvs (kI p.1) (.ref r3))) c=some o:=λc o e hc=>by rw [ao hc]; exact e
    have tk3:∀ t xs,H3 t=some (.tup xs)->upd H3 d (.dT (cQ kvs (kI p.1) (.ref r3))) t=some (.tup xs):=λt xs e=>keep t _ e (bW e d3 (by intro z; cases z))
    refine ⟨_,_,_,_,_,rfl,λc o e=>keep c o (s3 _ _ (sm2 c o e)) (ah e hd),ac,?_⟩
    rw [eU ep,eg]
    exact pi.put ⟨r3,rfl,tk3 _ _ a3⟩ (dr2.mono λv x z=>(z.mono λt xs e=>s3 _ _ e).mono tk3)
   have put:∀ r3 H3,oS H2 H3->DPut H3 d (.ref k) r3 (upd H3 d (.dT (cQ kvs (kI p.1) r3))):=λr3 H3 s3=>DPut.t (k:=kI p.1) (s3 _ _ hd2) (s3 _ _ hk2) hlen
   refine ⟨_,rfl,_,rfl,d,_,rfl,DGet.t hd2 hk2,_,rfl,?_⟩
   rcases dr2.val p.1 with ⟨e1,e2⟩ | ⟨v,y,e1,e2,ra⟩
   ·rw [e1]
    refine br ⟨_,rfl,_,rfl,_,rfl,d,_,rfl,put _ H2 (oS.refl _),fin nw H2 p.2 (oS.refl _) hw2 ?_⟩
    unfold jv
    rw [e2]
   ·rw [e1]
    obtain ⟨tv,rfl,hv⟩:=ra
    have oy:=okm _ (bo e2)
    refine bF ⟨_,rfl,_,rfl,d,_,rfl,(by rw [<- e1]; exact DGet.t hd2 hk2),_,rfl,tv,nw,y,p.2,rfl,hv,hw2,oy.1,op.1,oy.2.2,op.2.2,λr nr=>?_⟩
    refine ⟨_,rfl,_,rfl,d,_,rfl,put _ _ (oS.new nr),fin r _ (fpl y p.2) (oS.new nr) ac ?_⟩
    unfold jv
    rw [e2]
  ·rintro σ H1 ⟨x3,x4,x5,x6,kvs,rfl,sm,hd1,dr⟩
   rw [lt,take_length] at dr
   have okm:∀ p ∈ cB qs,TOk P 2900 p:=λp hp=>hgk qs.length (Nat.le_refl _) p (by rw [take_length]; exact hp)
   have evm:vm P (cB qs)=acc P (vm P qs):=by
    have:=gath_vm hB.1 hok qs.length (Nat.le_refl _)
    rw [take_length] at this
    exact this
   have gl:(cB qs).length<=60:=by
    have:=iq qs qs.length
    rw [take_length] at this
    omega
   have ndv:((vm P (cB qs)).map (·.1)).Nodup:=by rw [evm]; exact eS P _
   have okv:∀ p ∈ vm P (cB qs),OkN P p.2/\Sz 2900 p.2:=λp hp=>by
    obtain ⟨q',hq,rfl⟩:=List.mem_map.mp hp
    have h:=okm q' hq
    exact ⟨val_ok hB.1 h.1,val_sz hP h.1 (by decide) h.2.2⟩
   have isv:∀ out,o7 P (vm P (cB qs)) out->o7 P (vm P qs) out:=λout h=>by
    unfold o7 at h ⊢
    rw [eV ndv λp hp=>(okv p hp).1,evm] at h
    exact h
   generalize cB qs=m at *
   refine ⟨_,rfl,g,dxg,_,rfl,sm _ _ hg',rfl,g,x,L,rfl,⟨dxg,sm _ _ hg'⟩,?_⟩
   refine ⟨_,rfl,_,rfl,.inr (.inr (.inl ⟨rfl,.inr ⟨_,hd1⟩⟩)),d,kvs,rfl,rfl,hd1,λvw nv=>?_⟩
   have s2:=oS.new (o:=mB vw d) nv
   refine ⟨vw,d,kvs,rfl,ac,s2 _ _ hd1,λo as pk=>?_⟩
   have hd2:=s2 _ _ hd1
   have dr2:pi (FrV (upd H1 vw (mB vw d))) kvs m:=dr.mono λv x z=>z.mono λt xs e=>s2 _ _ e
   have sm2:=sm.trans s2
   generalize upd H1 vw (mB vw d)=H2 at *
   have tp:=dr2.tups pk
   have la:as.length=m.length:=Paired.length tp
   have lk:kvs.length=m.length:=Paired.length dr2
   have lkv:((as.map V.ref).zip (kvs.map (·.2))).length=m.length:=by
    rw [List.length_zip,length_map,length_map,la,lk,Nat.min_self]
   have keep:∀ c u,H2 c=some u->c ≠ d->upd H2 d (.frz o (.dT kvs)) c=some u:=λc u e hc=>by rw [ao hc]; exact e
   have tk:∀ t xs,H2 t=some (.tup xs)->upd H2 d (.frz o (.dT kvs)) t=some (.tup xs):=λt xs e=>keep t _ e (bW e hd2 (by intro z; cases z))
   have smF:oS H (upd H2 d (.frz o (.dT kvs))):=λc u e=>keep c u (sm2 c u e) (ah e hd)
   have hfz:upd H2 d (.frz o (.dT kvs)) d=some (.frz o (.dT kvs)):=ac
   generalize hHF:upd H2 d (.frz o (.dT kvs))=HF at *
   refine aX (n:=m.length) (σ0:=[none,none,some (.ref x)]) rfl (λacc i ws σ H'=>∃ a b:Option V,σ=[a,b,some (.ref x)]/\oS HF H'/\oV P H' ws (vm P (m.take i))) (by rw [sizeLine_eq]; omega) (λacc hacc=>⟨none,none,rfl,oS.new hacc,.nil⟩) ?_ ?_ ?_ ?_
   ·rintro acc i ws σ H' hacc hi hz ⟨a,b,rfl,sm',_⟩
    exact ⟨sm' _ _ hfz,by rw [lkv]; exact hi⟩
   ·rintro acc ws σ H' hacc hz ⟨a,b,rfl,sm',_⟩
    exact ⟨sm' _ _ hfz,by rw [lkv]; exact Nat.le_refl _⟩
   ·rintro acc i ws σ H9 x' H' hacc hi hz hzl ⟨a,b,rfl,sm',pr⟩ ⟨pt,kx,ky,rfl,npt,rfl,hkv⟩
    obtain ⟨ka,q',eq',rfl,hka,ty,rfl,hty⟩:=kv_at dr2 tp hkv
    have mq:q' ∈ m:=mem_of_getElem? eq'
    have oq:=okm q' mq
    have s9:=oS.new (o:=.tup [.ref ka,.ref ty]) npt
    have hka9:=s9 _ _ (sm' _ _ (tk _ _ hka))
    have hty9:=s9 _ _ (sm' _ _ (tk _ _ hty))
    have sF9:=sm'.trans s9
    refine ⟨pt,_,rfl,SqT.of ac,rfl,_,_,rfl,_,_,rfl,rfl,?_⟩
    refine ⟨_,rfl,of2_go hP (hN.mono λo e=>sF9 _ _ (smF _ _ e)) oq.1 oq.2.1 (Nat.lt_trans oq.2.2.2 iE) (λZ z=>⟨_,rfl,z⟩) (λZ z=>⟨_,rfl,ty,_,_,_,rfl,rfl,SqT.of hty9,rfl,_,rfl,ty,_,_,_,rfl,rfl,SqT.of hty9,rfl,z⟩) λr3 H3 s4 a3=>?_⟩
    refine ⟨by show 2<=sizeLine; decide,λt' nt=>?_⟩
    have s5:=oS.new (o:=.tup [.ref ka,r3]) nt
    have hz4:=s5 _ _ (s4 _ _ (s9 _ _ hz))
    have keep4:∀ c o,(upd H3 t' (.tup [.ref ka,r3])) c=some o->c ≠ acc->upd (upd H3 t' (.tup [.ref ka,r3])) acc (.lst (ws++[.ref t'])) c=some o:=λc o e hc=>by rw [ao hc]; exact e
    have tk4:∀ c xs,(upd H3 t' (.tup [.ref ka,r3])) c=some (.tup xs)->upd (upd H3 t' (.tup [.ref ka,r3])) acc (.lst (ws++[.ref t'])) c=some (.tup xs):=λc xs e=>keep4 c _ e (bW e hz4 (by intro z; cases z))
    have s45:=s4.trans s5
    refine ⟨ws,hz4,by rw [sizeLine_eq]; omega,_,ac,by rw [length_append,length_singleton]; omega,_,_,rfl,λc o e=>keep4 c o (s45 _ _ (sF9 c o e)) (ah e hacc),?_⟩
    have e9:vm P (m.take (i+1))=vm P (m.take i)++[(q'.1,val P q'.2)]:=by
     unfold vm; rw [take_add_one,eq',map_append]; rfl
    rw [e9]
    exact (oV.snoc (p:=(q'.1,val P q'.2)) ⟨t',ka,r3,rfl,ac,s45 _ _ hka9,a3.same s5⟩ ((pr.mono λt xs e=>s9 _ _ e).mono λt xs e=>s45 _ _ e)).mono tk4
   ·rintro acc ws σ H' hacc hz hzl ⟨a,b,rfl,sm',pr⟩
    rw [take_length] at pr
    have sH:=smF.trans sm'
    refine ⟨g,x,acc,P,L,ws,vm P m,rfl,hP,⟨dxg,sH _ _ hg'⟩,hN.mono λo e=>sH _ _ e,hz,pr,by unfold vm; rw [length_map]; omega,fP ndv okv,λd' rs out H3 nd' s3 hd' po is=>?_⟩
    exact q d' rs out H3 (sH.free nd') (sH.trans s3) hd' po (isv out is)
theorem sc_times:oW ["ring", "one", "other"] ["ring", "one", "other"] (am oo):=.i
theorem ok_timesS {f CF CR CG:Addr} {fd:FuncData} (F:Fun K "times" "times" oo f fd) (sW:FnB P w K mg base 6 "gathered" (spGath CF CR CG)) (rm:FnB P w K mg base 3 "product_terms" (mW CF CR CG)):oY P w K mg base CX0 7 f fd ["ring", "one", "other"] (spTimesS CF CR CG):=by
 refine F.o sc_times λ_ _ _ _ H _ Q _ hr h=>?_
 ·obtain ⟨g,x,l1,l2,P,L,n,ts1,ts2,ps1,ps2,rfl,hP,hg,hN,h1,p1,h2,p2,n1,n2,nd,ok1,ok2,q⟩:=h
  refine ⟨_,(ak (ar (aq sW hr.m (aa (pv 0) (aa (aq rm hr.m (aa (pv 0) (aa (pv 1) (aa (pv 2) ae)))) ae))))),?_⟩
  refine ⟨_,rfl,_,rfl,_,rfl,_,rfl,g,x,l1,l2,P,L,ts1,ts2,ps1,ps2,rfl,hP,hg,hN,h1,p1,h2,p2,n1,by omega,λp hp=>⟨(ok1 p hp).2.1,(ok1 p hp).2.2.2⟩,λp hp=>(ok2 p hp).2.1,λd rs H1 nd' s1 hd tr=>?_⟩
  obtain ⟨dxg,hg'⟩:=hg
  have h6:ps1.length*ps2.length<=6*2:=Nat.mul_le_mul n1 n2
  have tok:=trms_ok2 (λp hp=>⟨(ok1 p hp).1,(ok1 p hp).2.1⟩) (λp hp=>⟨(ok2 p hp).1,(ok2 p hp).2.1⟩)
  refine ⟨g,x,d,P,L,rs,fz ps1 ps2,rfl,hP,⟨dxg,s1 _ _ hg'⟩,hN.mono λo e=>s1 _ _ e,hd,tr,by rw [iD]; omega,λq hq=>⟨(tok q hq).1,(tok q hq).2.1,(tok q hq).2.2.mono (by decide)⟩,gath_n tok (n:=2) (λk=>Nat.le_trans (cnt_trms k nd (λp hp=>(ok1 p hp).2.2.1) λp hp=>(ok2 p hp).2.2) n2) (by decide),λd' rs' out H2 nd' s2 hd' po is=>?_⟩
  rw [vm_trms] at is
  exact q d' rs' out H2 (s1.free nd') (s1.trans s2) hd' po is
theorem nd_16:(["entry", "second", "ring"]:List Str).Nodup:=by decide +kernel
theorem nd_17:(["entry", "ring", "one"]:List Str).Nodup:=by decide +kernel
theorem nrm_congr {a b c d:Int} (hb:b ≠ 0) (hd:d ≠ 0) (e:a*d=c*b):nrm a b=nrm c d:=by
 have e1:=dv a b hb
 have e2:=dv c d hd
 have key:(nrm a b).1*(nrm c d).2=(nrm c d).1*(nrm a b).2:=by
  generalize nrm a b=x at *
  generalize nrm c d=y at *
  obtain ⟨n1,m1⟩:=x
  obtain ⟨n2,m2⟩:=y
  simp only at *
  have hbd:b*d ≠ 0:=Int.mul_ne_zero hb hd
  apply Int.eq_of_mul_eq_mul_right hbd
  have f1:n1*m2*(b*d)=n1*b*(m2*d):=by ac_rfl
  have f2:n2*m1*(b*d)=n2*d*(m1*b):=by ac_rfl
  have f3:a*m1*(m2*d)=a*d*(m1*m2):=by ac_rfl
  have f4:c*m2*(m1*b)=c*b*(m1*m2):=by ac_rfl
  rw [f1,e1,f2,e2,f3,f4,e]
 obtain ⟨p,q⟩:=mZ (bY a b hb) (bY c d hd) (cD a b hb) (cD c d hd) key
 exact Prod.ext p q
theorem add_assocN {P:Int} {x y z:Int × Int} (hP:0<=P) (hx:OkN P x) (hy:OkN P y) (hz:OkN P z):aS P (aS P x y) z=aS P x (aS P y z):=by
 by_cases h:P=0
 ·have os:=iV hP hx hy
  have ot:=iV hP hy hz
  have ds:=bC os.den hz.den
  have dt:=bC hx.den ot.den
  have e1:=dv (x.1*y.2+y.1*x.2) (x.2*y.2) (bC hx.den hy.den)
  have e2:=dv (y.1*z.2+z.1*y.2) (y.2*z.2) (bC hy.den hz.den)
  have hs:aS P x y=nrm (x.1*y.2+y.1*x.2) (x.2*y.2):=by unfold aS; rw [if_pos h]
  have ht:aS P y z=nrm (y.1*z.2+z.1*y.2) (y.2*z.2):=by unfold aS; rw [if_pos h]
  rw [<- hs] at e1
  rw [<- ht] at e2
  have r1:aS P (aS P x y) z=nrm ((aS P x y).1*z.2+z.1*(aS P x y).2) ((aS P x y).2*z.2):=by
   show (if P=0 then _ else _)=_
   rw [if_pos h]
  have r2:aS P x (aS P y z)=nrm (x.1*(aS P y z).2+(aS P y z).1*x.2) (x.2*(aS P y z).2):=by
   show (if P=0 then _ else _)=_
   rw [if_pos h]
  rw [r1,r2]
  have hy0:y.2 ≠ 0:=by have:=hy.den; omega
  generalize aS P x y=s at *
  generalize aS P y z=t at *
  refine nrm_congr ds dt ?_
  obtain ⟨x1,x2⟩:=x
  obtain ⟨y1,y2⟩:=y
  obtain ⟨z1,z2⟩:=z
  obtain ⟨s1,s2⟩:=s
  obtain ⟨t1,t2⟩:=t
  simp only at *
  apply Int.eq_of_mul_eq_mul_right hy0
  rw [Int.add_mul,Int.add_mul,Int.add_mul,Int.add_mul]
  have f1:s1*z2*(x2*t2)*y2=s1*(x2*y2)*(z2*t2):=by ac_rfl
  have f2:t1*x2*(s2*z2)*y2=t1*(y2*z2)*(x2*s2):=by ac_rfl
  rw [f1,e1,f2,e2,Int.add_mul,Int.add_mul,Int.add_mul,Int.add_mul]
  have g1:x1*y2*s2*(z2*t2)=x1*t2*(s2*z2)*y2:=by ac_rfl
  have g2:y1*x2*s2*(z2*t2)=y1*z2*t2*(x2*s2):=by ac_rfl
  have g3:z1*s2*(x2*t2)*y2=z1*y2*t2*(x2*s2):=by ac_rfl
  rw [g1,g2,g3]
  omega
 ·unfold aS
  rw [if_neg h,if_neg h,if_neg h,if_neg h]
  refine Prod.ext ?_ rfl
  show ((x.1+y.1) % P+z.1) % P=(x.1+(y.1+z.1) % P) % P
  rw [Int.emod_add_emod,Int.add_comm x.1 ((y.1+z.1) % P),Int.emod_add_emod]
  congr 1
  omega
theorem co_lstep (P:Int) (m:List aj) (q:aj) (k:List Int):co (bN P m q) k=if q.1=k then aS P (co m k) q.2 else co m k:=by
 unfold bN co
 split
 ·rename_i e
  rw [<- e,aval_put]
  rfl
 ·rename_i e
  rw [jA _ (λz=>e z.symm)]
theorem i0 {P:Int} (hP:oU P) {a:List aj} (ha:∀ p ∈ a,OkN P p.2) (k:List Int):OkN P (co (acc P a) k):=jt hP.b.1 hP.b.2.2 (dG hP.b.1 hP.b.2.2 ha) k
theorem co_app {P:Int} (hP:oU P) {a b:List aj} (ha:∀ p ∈ a,OkN P p.2) (hb:∀ p ∈ b,OkN P p.2) (k:List Int):co (acc P (a++b)) k=aS P (co (acc P a) k) (co (acc P b) k):=by
 have go:∀ i,i<=b.length->co (acc P (a++b.take i)) k=aS P (co (acc P a) k) (co (acc P (b.take i)) k):=by
  intro i
  induction i with
  | zero=>
   intro _
   rw [take_zero,append_nil,show co (acc P []) k=(0,1) from rfl,dM (i0 hP ha k)]
  | succ i ih=>
   intro hi
   obtain ⟨q,eq⟩:∃ q,b[i]? = some q:=⟨_,getElem?_eq_getElem (by omega)⟩
   have et:b.take (i+1)=b.take i++[q]:=by rw [take_add_one,eq]; rfl
   have ih:=ih (by omega)
   rw [et,<- append_assoc,iU,iU,co_lstep,co_lstep]
   split
   ·rw [ih,add_assocN hP.b.1 (i0 hP ha k) (i0 hP (λp hp=>hb p (mem_of_mem_take hp)) k) (hb q (mem_of_getElem? eq))]
   ·exact ih
 have:=go b.length (Nat.le_refl _)
 rw [take_length] at this
 exact this
def lS (CF CR CG:Addr):Sp:=λvs H Q _=>∃ (g x r1 r2:Addr) (P L:Int) (es1 es2:List V) (row1 row2:List (List aj)),vs=[.ref g,.ref r1,.ref r2]/\oU P/\cH CG H g x L/\pC CF CR H x P/\H r1=some (.lst es1)/\Paired (pA P H) es1 row1/\H r2=some (.lst es2)/\Paired (pA P H) es2 row2/\row1.length=row2.length/\row1.length<=60/\(∀ (i:Nat) (a b:List aj),row1[i]? = some a->row2[i]? = some b->a.length+b.length<=60/\bO P (a++b))/\
 ∀ (d:Addr) (es:List V) (row:List (List aj)) (H':Hp),H d=none->oS H H'->H' d=some (.lst es)->Paired (oZ H d P H') es row->row.length=row1.length->(∀ (i:Nat) (e:List aj),row[i]? = some e->∃ a b,row1[i]? = some a/\row2[i]? = some b/\o7 P (a++b) e)->Q (.ref d) H'
def j7 (CF CR CG:Addr):Sp:=λvs H Q _=>∃ (g x r1 r2:Addr) (P L:Int) (es1 es2:List V) (row1 row2:List (List aj)),vs=[.ref g,.ref r1,.ref r2]/\oU P/\cH CG H g x L/\pC CF CR H x P/\H r1=some (.lst es1)/\Paired (pA P H) es1 row1/\H r2=some (.lst es2)/\Paired (pA P H) es2 row2/\row1.length=row2.length/\row1.length<=60/\(∀ (i:Nat) (a b:List aj),row1[i]? = some a->row2[i]? = some b->a.length+b.length<=60/\(∀ p ∈ b,OkN P p.2/\Sz 2900 p.2)/\bO P (a++scl P (cq P (1,1)) b))/\
 ∀ (d:Addr) (es:List V) (row:List (List aj)) (H':Hp),H d=none->oS H H'->H' d=some (.lst es)->Paired (oZ H d P H') es row->row.length=row1.length->(∀ (i:Nat) (e:List aj),row[i]? = some e->∃ a b,row1[i]? = some a/\row2[i]? = some b/\o7 P (a++scl P (cq P (1,1)) b) e)->Q (.ref d) H'
def EMul (P:Int) (n:Nat) (e:List aj):Prop:=e.length<=6/\(e.map (·.1)).Nodup/\∀ p ∈ e,OkN P p.2/\Sz 250 p.2/\p.1.length=n/\p.1.length<=10
def MMul (P:Int) (n:Nat) (m:List aj):Prop:=m.length<=2/\∀ p ∈ m,OkN P p.2/\Sz 31 p.2/\p.1.length=n
def k9 (CF CR CG:Addr):Sp:=λvs H Q _=>∃ (g x r l:Addr) (P L:Int) (n:Nat) (es ts:List V) (row:List (List aj)) (m:List aj),vs=[.ref g,.ref r,.ref l]/\oU P/\cH CG H g x L/\pC CF CR H x P/\H r=some (.lst es)/\Paired (pA P H) es row/\H l=some (.lst ts)/\oV P H ts m/\row.length<=60/\(∀ e ∈ row,EMul P n e)/\MMul P n m/\
 ∀ (d:Addr) (es':List V) (out:List (List aj)) (H':Hp),H d=none->oS H H'->H' d=some (.lst es')->Paired (oZ H d P H') es' out->out.length=row.length->(∀ (i:Nat) (e:List aj),out[i]? = some e->∃ a,row[i]? = some a/\o7 P (aW P a m) e)->Q (.ref d) H'
def tat (i:Nat) (rows:List (List (List aj))) (ms:List (List aj)):List aj:=(rows.zip ms).flatMap λq=>fz (q.1.getD i []) q.2
theorem tat_snoc (i:Nat) (rows:List (List (List aj))) (ms:List (List aj)) (r:List (List aj)) (m:List aj) (h:rows.length=ms.length):tat i (rows++[r]) (ms++[m])=tat i rows ms++fz (r.getD i []) m:=by
 unfold tat
 rw [List.zip_append h,flatMap_append]
 simp
def MixIn (P:Int) (n many:Nat) (rows:List (List (List aj))) (ms:List (List aj)):Prop:=rows.length=ms.length/\rows.length<=5/\(∀ row ∈ rows,row.length=many/\∀ e ∈ row,EMul P n e)/\∀ m ∈ ms,MMul P n m
def mD (CF CR CG:Addr):Sp:=λvs H Q _=>∃ (g x rw mu:Addr) (P L:Int) (n many i:Nat) (ws us:List V) (rows:List (List (List aj))) (ms:List (List aj)),vs=[.ref g,.int (i:Int),.ref rw,.ref mu]/\oU P/\cH CG H g x L/\pC CF CR H x P/\H rw=some (.lst ws)/\Paired (pM P H) ws rows/\H mu=some (.lst us)/\Paired (pA P H) us ms/\MixIn P n many rows ms/\i<many/\
 ∀ (d:Addr) (rs:List V) (H':Hp),H d=none->oS H H'->H' d=some (.lst rs)->pG H' rs (tat i rows ms)->Q (.ref d) H'
def spMix (CF CR CG:Addr):Sp:=λvs H Q _=>∃ (g x rw mu:Addr) (P L:Int) (n many:Nat) (ws us:List V) (rows:List (List (List aj))) (ms:List (List aj)),vs=[.ref g,.int (many:Int),.ref rw,.ref mu]/\oU P/\cH CG H g x L/\pC CF CR H x P/\H rw=some (.lst ws)/\Paired (pM P H) ws rows/\H mu=some (.lst us)/\Paired (pA P H) us ms/\MixIn P n many rows ms/\many<=60/\
 ∀ (d:Addr) (es:List V) (out:List (List aj)) (H':Hp),H d=none->oS H H'->H' d=some (.lst es)->Paired (oZ H d P H') es out->out.length=many->(∀ (i:Nat) (e:List aj),out[i]? = some e->o7 P (vm P (tat i rows ms)) e)->Q (.ref d) H'
theorem i9 {P:Int} {n many:Nat} {i:Nat} (hi:i<many):∀ {rows:List (List (List aj))} {ms:List (List aj)},rows.length=ms.length->(∀ row ∈ rows,row.length=many/\∀ e ∈ row,EMul P n e)->(∀ m ∈ ms,MMul P n m)->(tat i rows ms).length<=12*rows.length/\(∀ q ∈ tat i rows ms,TOk P 281 q)/\∀ k,cnt k (tat i rows ms)<=2*rows.length
 | [],_,_,_,_=>⟨Nat.zero_le _,λq hq=>(by cases hq),λk=>Nat.zero_le _⟩
 | _::_,[],h,_,_=>by simp at h
 | r::rows,m::ms,h,h1,h2=>by
  obtain ⟨a,b,c⟩:=i9 (rows:=rows) (ms:=ms) hi (by simpa using h) (λrow hr=>h1 row (mem_cons_of_mem _ hr)) λm hm=>h2 m (mem_cons_of_mem _ hm)
  obtain ⟨lr,er⟩:=h1 r mem_cons_self
  obtain ⟨m2,om⟩:=h2 m mem_cons_self
  have hg:r.getD i []=r[i]:=by rw [getD_eq_getElem?_getD,getElem?_eq_getElem (by omega)]; rfl
  obtain ⟨e6,en,eo⟩:=er r[i] (getElem_mem _)
  have et:tat i (r::rows) (m::ms)=fz r[i] m++tat i rows ms:=by
   unfold tat
   rw [zip_cons_cons,flatMap_cons,hg]
  rw [et]
  refine ⟨?_,λq hq=>?_,λk=>?_⟩
  ·rw [length_append,iD,length_cons]
   have:r[i].length*m.length<=6*2:=Nat.mul_le_mul e6 m2
   omega
  ·rcases List.mem_append.mp hq with z | z
   ·exact trms_ok2 (y:=250) (z:=31) (λp hp=>⟨(eo p hp).1,(eo p hp).2.1⟩) (λp hp=>⟨(om p hp).1,(om p hp).2.1⟩) q z
   ·exact b q z
  ·rw [eB,length_cons]
   have z1:=cnt_trms k en (λp hp=>(eo p hp).2.2.1) λp hp=>(om p hp).2.2
   have z2:=c k
   omega
theorem sc_row_plus:oW ["ring", "one", "other"] ["ring", "one", "other"] (am gQ):=.i
theorem ok_rowplus {f CF CR CG:Addr} {fd:FuncData} (F:Fun K "row_plus" "row_plus" gQ f fd) (T:Blt mg) (wd:FnB P w K mg base 6 "plus" (spPlus CF CR CG)):oY P w K mg base CX0 7 f fd ["ring", "one", "other"] (lS CF CR CG):=by
 refine F.o sc_row_plus λ_ _ _ _ H _ Q _ hr h=>?_
 ·obtain ⟨g,x,r1,r2,P,L,es1,es2,row1,row2,rfl,hP,⟨dxg,hg⟩,hN,h1,p1,h2,p2,hl,hn,ok,q⟩:=h
  have l1:es1.length=row1.length:=Paired.length p1
  have l2:es2.length=row2.length:=Paired.length p2
  refine ⟨_,(ak (ar (by exact aO (N:=["entry", "second", "ring"]) (src:=[none,none,some 0]) rfl rfl rfl (by exact (dB K false false rfl rfl T.zip (aa (pv 1) (aa (pv 2) ae)))) (λ_ _ _=>by exact ⟨by exact (bw K (i:=0) (j:=1) rfl rfl nd_16 rfl rfl rfl rfl),aP,by exact (aq wd hr.m (aa (pv 2) (aa (pv 0) (aa (pv 1) ae))))⟩)))),?_⟩
  refine ⟨_,rfl,_,rfl,r1,r2,rfl,⟨_,bJ (SqL.of h1)⟩,⟨_,bJ (SqL.of h2)⟩,i3 (P:=P) (rest:=[some (.ref g)]) rfl (λi e=>∃ a b,row1[i]? = some a/\row2[i]? = some b/\o7 P (a++b) e) h1 h2 (by omega) (by omega) (λi v1 v2 H1 R e1 e2 sm k=>?_) λd es row H1 nd sm hd pr lr rel=>q d es row H1 nd sm hd pr (by omega) rel⟩
  obtain ⟨a,ea,la,ts1,rfl,ha,pa⟩:=aC p1 e1
  obtain ⟨b,eb,lb,ts2,rfl,hb,pb⟩:=aC p2 e2
  obtain ⟨n1,o1⟩:=ok i a b ea eb
  exact ⟨_,rfl,_,rfl,_,rfl,g,x,la,lb,P,L,ts1,ts2,a,b,rfl,hP,⟨dxg,sm _ _ hg⟩,hN.mono λo e=>sm _ _ e,sm _ _ ha,pa.mono λt xs e=>sm _ _ e,sm _ _ hb,pb.mono λt xs e=>sm _ _ e,n1,o1,λd rs out H2 nd s2 hd po is=>k d rs out H2 s2 nd hd po ⟨a,b,ea,eb,is⟩⟩
theorem m5:oW ["ring", "one", "other"] ["ring", "one", "other"] (am f6):=.i
theorem ok_rowminus {f CF CR CG:Addr} {fd:FuncData} (F:Fun K "row_minus" "row_minus" f6 f fd) (T:Blt mg) (yz:FnB P w K mg base 7 "minus" (spMinus CF CR CG)):oY P w K mg base CX0 8 f fd ["ring", "one", "other"] (j7 CF CR CG):=by
 refine F.o m5 λ_ _ _ _ H _ Q _ hr h=>?_
 ·obtain ⟨g,x,r1,r2,P,L,es1,es2,row1,row2,rfl,hP,⟨dxg,hg⟩,hN,h1,p1,h2,p2,hl,hn,ok,q⟩:=h
  have l1:es1.length=row1.length:=Paired.length p1
  have l2:es2.length=row2.length:=Paired.length p2
  refine ⟨_,(ak (ar (by exact aO (N:=["entry", "second", "ring"]) (src:=[none,none,some 0]) rfl rfl rfl (by exact (dB K false false rfl rfl T.zip (aa (pv 1) (aa (pv 2) ae)))) (λ_ _ _=>by exact ⟨by exact (bw K (i:=0) (j:=1) rfl rfl nd_16 rfl rfl rfl rfl),aP,by exact (aq yz hr.m (aa (pv 2) (aa (pv 0) (aa (pv 1) ae))))⟩)))),?_⟩
  refine ⟨_,rfl,_,rfl,r1,r2,rfl,⟨_,bJ (SqL.of h1)⟩,⟨_,bJ (SqL.of h2)⟩,i3 (P:=P) (rest:=[some (.ref g)]) rfl (λi e=>∃ a b,row1[i]? = some a/\row2[i]? = some b/\o7 P (a++scl P (cq P (1,1)) b) e) h1 h2 (by omega) (by omega) (λi v1 v2 H1 R e1 e2 sm k=>?_) λd es row H1 nd sm hd pr lr rel=>q d es row H1 nd sm hd pr (by omega) rel⟩
  obtain ⟨a,ea,la,ts1,rfl,ha,pa⟩:=aC p1 e1
  obtain ⟨b,eb,lb,ts2,rfl,hb,pb⟩:=aC p2 e2
  obtain ⟨n1,o1,o2⟩:=ok i a b ea eb
  exact ⟨_,rfl,_,rfl,_,rfl,g,x,la,lb,P,L,ts1,ts2,a,b,rfl,hP,⟨dxg,sm _ _ hg⟩,hN.mono λo e=>sm _ _ e,sm _ _ ha,pa.mono λt xs e=>sm _ _ e,sm _ _ hb,pb.mono λt xs e=>sm _ _ e,n1,o1,o2,λd rs out H2 nd s2 hd po is=>k d rs out H2 s2 nd hd po ⟨a,b,ea,eb,is⟩⟩
theorem mY:oW ["ring", "row", "one"] ["ring", "row", "one"] (am fO):=.i
theorem ok_rowtimes {f CF CR CG:Addr} {fd:FuncData} (F:Fun K "row_times" "row_times" fO f fd) (yA:FnB P w K mg base 7 "times" (spTimesS CF CR CG)):oY P w K mg base CX0 8 f fd ["ring", "row", "one"] (k9 CF CR CG):=by
 refine F.o mY λ_ _ _ _ H _ Q _ hr h=>?_
 ·obtain ⟨g,x,r,l,P,L,n,es,ts,row,m,rfl,hP,⟨dxg,hg⟩,hN,h1,p1,hl,pm,hn,ok,⟨m2,om⟩,q⟩:=h
  have l1:es.length=row.length:=Paired.length p1
  refine ⟨_,(ak (ar (by exact aO (N:=["entry", "ring", "one"]) (src:=[none,some 0,some 2]) rfl rfl rfl (by exact (aG K rfl (pv 1))) (λ_ _ _=>by exact ⟨by exact (bP (i:=0) nd_17 rfl rfl),aP,by exact (aq yA hr.m (aa (pv 1) (aa (pv 0) (aa (pv 2) ae))))⟩)))),?_⟩
  refine ⟨_,rfl,r,rfl,⟨_,SqL.of h1⟩,jf (P:=P) (rest:=[some (.ref g),some (.ref l)]) rfl (λi e=>∃ a,row[i]? = some a/\o7 P (aW P a m) e) h1 (by omega) (λi v H1 R e1 sm k=>?_) λd es' out H1 nd sm hd pr lr rel=>q d es' out H1 nd sm hd pr (by omega) rel⟩
  obtain ⟨a,ea,la,ts1,rfl,ha,pa⟩:=aC p1 e1
  obtain ⟨e6,en,eo⟩:=ok a (mem_of_getElem? ea)
  exact ⟨_,rfl,_,rfl,_,rfl,g,x,la,l,P,L,n,ts1,ts,a,m,rfl,hP,⟨dxg,sm _ _ hg⟩,hN.mono λo e=>sm _ _ e,sm _ _ ha,pa.mono λt xs e=>sm _ _ e,sm _ _ hl,pm.mono λt xs e=>sm _ _ e,e6,m2,en,λp hp=>⟨(eo p hp).1,(eo p hp).2.1.mono (by decide),(eo p hp).2.2⟩,λp hp=>⟨(om p hp).1,(om p hp).2.1.mono (by decide),(om p hp).2.2⟩,λd rs out H2 nd s2 hd po is=>k d rs out H2 s2 nd hd po ⟨a,ea,is⟩⟩
theorem nd_18:(["place", "ring", "rows", "multiples"]:List Str).Nodup:=by decide +kernel
theorem sc_terms_at:oW ["ring", "place", "rows", "multiples", "terms", "row", "multiple"] ["ring", "place", "rows", "multiples"] (am hJ):=.i
theorem ok_termsat {f CF CR CG:Addr} {fd:FuncData} (F:Fun K "terms_at" "terms_at" hJ f fd) (T:Blt mg) (rm:FnB P w K mg base 3 "product_terms" (mW CF CR CG)):oY P w K mg base CX0 4 f fd ["ring", "place", "rows", "multiples"] (mD CF CR CG):=by
 refine F.o sc_terms_at λ_ _ _ _ H _ Q _ hr h=>?_
 ·obtain ⟨g,x,rw,mu,P,L,n,many,i,ws,us,rows,ms,rfl,hP,⟨dxg,hg⟩,hN,hrw,prw,hmu,pmu,⟨lrm,l5,okr,okm⟩,hi,q⟩:=h
  have lw:ws.length=rows.length:=Paired.length prw
  have lu:us.length=ms.length:=Paired.length pmu
  refine ⟨_,(ag (au (i:=4) sc_terms_at.nd rfl (Or.inl rfl) (aI ae))
(ag (bc PassesOwn.never rfl (dB K false false rfl rfl T.zip (aa (pv 2) (aa (pv 3) ae))) (bw K (i:=5) (j:=6) rfl rfl sc_terms_at.nd rfl rfl rfl rfl)
(ak (bh (bmE K rfl (pv 4) (aa (aq rm hr.m (aa (pv 0) (aa (aB (aE K rfl) (pv 5) (pv 1) (λ_ _=>rfl)) (aa (pv 6) ae)))) ae)))))
(ak (ar (pv 4))))),?_⟩
  refine ⟨Nat.zero_le _,λd nd=>?_⟩
  have s0:=oS.new (o:=.lst []) nd
  have hd0:(upd H d (.lst [])) d=some (.lst []):=ac
  generalize upd H d (.lst [])=H0 at *
  refine ⟨_,rfl,_,rfl,rw,mu,rfl,⟨_,bJ (SqL.of (s0 _ _ hrw))⟩,⟨_,bJ (SqL.of (s0 _ _ hmu))⟩,for_zipN (xs:=ws) (ys:=us) (λj σ H'=>∃ (x5 x6:Option V) (rs:List V),σ=[some (.ref g),some (.int (i:Int)),some (.ref rw),some (.ref mu),some (.ref d),x5,x6]/\oS H H'/\H' d=some (.lst rs)/\pG H' rs (tat i (rows.take j) (ms.take j))) ?_ ?_ ?_ ?_⟩
  ·exact ⟨none,none,[],rfl,s0,hd0,.nil⟩
  ·rintro j σ H' _ ⟨x5,x6,rs,rfl,sm,_⟩
   exact ⟨bJ (SqL.of (sm _ _ hrw)),bJ (SqL.of (sm _ _ hmu))⟩
  ·rintro j v y σ H1 p hx hy ⟨x5,x6,rs,rfl,sm,hd1,tr⟩ np N0 B0 hN0
   obtain ⟨row,erow,r,es,rfl,hr',pe⟩:=aC prw hx
   obtain ⟨m,em,l,ts,rfl,hl,pm⟩:=aC pmu hy
   obtain ⟨lr,er⟩:=okr row (mem_of_getElem? erow)
   obtain ⟨m2,om⟩:=okm m (mem_of_getElem? em)
   have le:es.length=row.length:=Paired.length pe
   obtain ⟨v0,ev⟩:∃ v0,es[i]? = some v0:=⟨_,getElem?_eq_getElem (by omega)⟩
   obtain ⟨e,ee,la,ts1,rfl,ha,pa⟩:=aC pe ev
   obtain ⟨e6,en,eo⟩:=er e (mem_of_getElem? ee)
   have s2:=oS.new (o:=.tup [.ref r,.ref l]) np
   have h2:(upd H1 p (.tup [.ref r,.ref l])) p=some (.tup [.ref r,.ref l]):=ac
   have tr2:pG (upd H1 p (.tup [.ref r,.ref l])) rs (tat i (rows.take j) (ms.take j)):=tr.mono λt xs e=>s2 _ _ e
   generalize upd H1 p (.tup [.ref r,.ref l])=H2 at *
   have sm2:=sm.trans s2
   have hd2:=s2 _ _ hd1
   refine ⟨p,_,rfl,SqT.of h2,rfl,_,_,rfl,_,_,rfl,rfl,?_⟩
   refine ⟨_,rfl,.inl ⟨rfl,_,SqL.of hd2⟩,?_⟩
   refine ⟨_,rfl,_,rfl,_,rfl,r,es,_,_,rfl,rfl,SqL.of (sm2 _ _ hr'),dA ev,_,rfl,g,x,la,l,P,L,ts1,ts,e,m,rfl,hP,⟨dxg,sm2 _ _ hg⟩,hN.mono λo e=>sm2 _ _ e,sm2 _ _ ha,pa.mono λt xs e=>sm2 _ _ e,sm2 _ _ hl,pm.mono λt xs e=>sm2 _ _ e,e6,by omega,λp hp=>⟨(eo p hp).2.1.mono (by decide),(eo p hp).2.2.2⟩,λp hp=>(om p hp).2.1.mono (by decide),λc cs H3 nc s3 hc tc=>?_⟩
   have hd3:=s3 _ _ hd2
   have lrs:rs.length=(tat i (rows.take j) (ms.take j)).length:=Paired.length tr2
   have lcs:cs.length=(fz e m).length:=Paired.length tc
   have ltat:=(i9 (P:=P) (n:=n) hi (rows:=rows.take j) (ms:=ms.take j) (by rw [length_take,length_take,lrm]) (λrow h=>okr row (mem_of_mem_take h)) λm h=>okm m (mem_of_mem_take h)).1
   rw [length_take] at ltat
   rw [iD] at lcs
   have l12:e.length*m.length<=6*2:=Nat.mul_le_mul e6 m2
   refine ⟨d,c,_,_,rfl,rfl,hd3,hc,by rw [sizeLine_eq]; omega,?_⟩
   refine hN0 _ _ ⟨_,_,rs++cs,rfl,λc' o e'=>by rw [ao (ah e' nd)]; exact s3 _ _ (sm2 _ _ e'),ac,?_⟩
   have e9:tat i (rows.take (j+1)) (ms.take (j+1))=tat i (rows.take j) (ms.take j)++fz e m:=by
    rw [take_add_one,take_add_one,erow,em,show (some row).toList=[row] from rfl,show (some m).toList=[m] from rfl,tat_snoc _ _ _ _ _ (by rw [length_take,length_take,lrm]),getD_eq_getElem?_getD,ee]
    rfl
   rw [e9]
   have tk:∀ t xs,H3 t=some (.tup xs)->upd H3 d (.lst (rs++cs)) t=some (.tup xs):=λt xs e'=>by rw [ao (bW e' hd3 (by intro z; cases z))]; exact e'
   exact jX ((tr2.mono λt xs e=>s3 _ _ e).mono tk) (tc.mono tk)
  ·rintro σ H1 ⟨x5,x6,rs,rfl,sm,hd1,tr⟩
   rw [show min ws.length us.length=rows.length by omega,take_length,lrm,take_length] at tr
   exact ⟨_,rfl,q d rs H1 nd sm hd1 tr⟩
theorem sc_mixture:oW ["ring", "many", "rows", "multiples"] ["ring", "many", "rows", "multiples"] (am jc):=.i
theorem ok_mix {f CF CR CG:Addr} {fd:FuncData} (F:Fun K "mixture" "mixture" jc f fd) (T:Blt mg) (sW:FnB P w K mg base 6 "gathered" (spGath CF CR CG)) (vG:FnB P w K mg base 4 "terms_at" (mD CF CR CG)):oY P w K mg base CX0 7 f fd ["ring", "many", "rows", "multiples"] (spMix CF CR CG):=by
 refine F.o sc_mixture λ_ _ _ _ H _ Q _ hr h=>?_
 ·obtain ⟨g,x,rw,mu,P,L,n,many,ws,us,rows,ms,rfl,hP,⟨dxg,hg⟩,hN,hrw,prw,hmu,pmu,mi,h60,q⟩:=h
  refine ⟨_,(ak (ar (by exact aO (N:=["place", "ring", "rows", "multiples"]) (src:=[none,some 0,some 2,some 3]) rfl rfl rfl (by exact (ba rfl T.range (aa (pv 1) ae))) (λ_ _ _=>by exact ⟨by exact (bP (i:=0) nd_18 rfl rfl),aP,by exact (aq sW hr.m (aa (pv 1) (aa (aq vG hr.m (aa (pv 1) (aa (pv 0) (aa (pv 2) (aa (pv 3) ae))))) ae)))⟩)))),?_⟩
  refine ⟨_,rfl,(many:Int),rfl,by omega,by omega,me (n:=many) (P:=P) (rest:=[some (.ref g),some (.ref rw),some (.ref mu)]) rfl (λi e=>o7 P (vm P (tat i rows ms)) e) h60 (λi H1 R hi sm k=>?_) λd es out H1 nd sm hd pr lr rel=>q d es out H1 nd sm hd pr lr rel⟩
  obtain ⟨lrm,l5,okr,okm⟩:=id mi
  obtain ⟨t1,t2,t3⟩:=i9 (P:=P) (n:=n) hi lrm okr okm
  refine ⟨_,rfl,_,rfl,_,rfl,_,rfl,_,rfl,g,x,rw,mu,P,L,n,many,i,ws,us,rows,ms,by rw [Int.zero_add]; rfl,hP,⟨dxg,sm _ _ hg⟩,hN.mono λo e=>sm _ _ e,sm _ _ hrw,al (λ_ _ z=>z.same sm) prw,sm _ _ hmu,al (λ_ _ z=>z.same sm) pmu,mi,hi,λd rs H2 nd s2 hd tr=>?_⟩
  have s02:=sm.trans s2
  exact ⟨g,x,d,P,L,rs,_,rfl,hP,⟨dxg,s02 _ _ hg⟩,hN.mono λo e=>s02 _ _ e,hd,tr,by omega,λq hq=>⟨(t2 q hq).1,(t2 q hq).2.1,(t2 q hq).2.2.mono (by decide)⟩,gath_n t2 (n:=10) (λk=>Nat.le_trans (t3 k) (by omega)) (by decide),λd' rs' out H3 nd' s3 hd' po is=>k d' rs' out H3 (s2.trans s3) (s2.free nd') hd' po is⟩
def hV (P L:Int) (h c:Int) (e:List aj):Prop:=o8 P L 45 e/\e.length<=3/\∀ q ∈ e,q.1.sum+c=h
def spSpread:Sp:=λvs H Q _=>∃ (p c:Addr) (P L h a b:Int) (k:Nat) (cs:List Int),vs=[.int P,.int L,.ref c,.int h,.ref p]/\oU P/\1<=L/\L<=4/\H c=some (.lst (cs.map V.int))/\c ≠ p/\cs.length<=3/\H p=some (.lst [.int a,.int b])/\pc a b k/\k<=50000/\
 ∀ (r:Addr) (es:List V) (row:List (List aj)) (a' b':Int) (H':Hp),H r=none->H' r=some (.lst es)->Paired (oZ H r P H') es row->Paired (hV P L h) cs row->H' p=some (.lst [.int a',.int b'])->pc a' b' (k+300)->(∀ c o,H c=some o->c ≠ p->H' c=some o)->Q (.ref r) H'
def SpOk (P L d:Int) (q:aj):Prop:=OkN P q.2/\Sz 14 q.2/\(q.1.length:Int)=L/\(∀ e ∈ q.1,0<=e)/\q.1.sum=d
theorem hU {P L d:Int} (hP:oU P) {n:Nat} {ps out:List aj} (hn:ps.length<=n) (ok:∀ q ∈ ps,SpOk P L d q) (is:o7 P ps out):o8 P L (15*n) out/\out.length<=n/\∀ q ∈ out,q.1.sum=d:=by
 obtain ⟨c,l,fr⟩:=canon_n hP (S:=14) (n:=n) (by decide) (λq hq=>⟨(ok q hq).1,(ok q hq).2.1,(ok q hq).2.2.1,(ok q hq).2.2.2.1⟩) hn is
 refine ⟨c,l,λq hq=>?_⟩
 obtain ⟨r,hr,e⟩:=fr q hq
 rw [<- e]
 exact (ok r hr).2.2.2.2
theorem fj {P L d:Int} (hP:oU P) {ps:List aj} (hn:ps.length<=3) (ok:∀ q ∈ ps,SpOk P L d q):bO P ps:=sumOk_n hP (S:=14) (n:=3) (by decide) (λq hq=>⟨(ok q hq).1,(ok q hq).2.1⟩) hn (by decide) (by decide)
theorem pL:oW ["_law_prime_here", "_law_letters", "_law_columns_here", "_law_height", "_law_bag_here", "_law_row", "_law_column", "_law_some", "_law_k"] ["_law_prime_here", "_law_letters", "_law_columns_here", "_law_height", "_law_bag_here"] (am cF):=.i
set_option maxHeartbeats 4000000 in
theorem ok_spread {f:Addr} {fd:FuncData} (F:Fun K "_law_spread_row" "_law_spread_row" cF f fd) (T:Blt mg) (qO:FnB P w K mg base 1 "_law_take" cw) (qU:FnB P w K mg base 4 "_law_number" dD) (qT:FnB P w K mg base 2 "_law_product" i6) (qS:FnB P w K mg base 4 "_law_sum" fu) :
  oY P w K mg base CX0 5 f fd ["_law_prime_here", "_law_letters", "_law_columns_here", "_law_height", "_law_bag_here"] spSpread:=by
 refine F.o pL λ_ _ _ _ H _ Q _ hr h=>?_
 ·obtain ⟨p,c,P,L,h,a,b,k,cs,rfl,hP,L1,L4,hc,cp,c3,hp,hb,hk,q⟩:=h
  have hB:=hP.b
  refine ⟨_,(ag (au (i:=5) pL.nd rfl (Or.inl rfl) (aI ae))
(ag (bc PassesOwn.never rfl (aG K rfl (pv 2)) (aF (i:=6) pL.nd rfl (Or.inl rfl))
(ag (au (i:=7) pL.nd rfl (Or.inl rfl) (aI ae))
(ag (aH (kG gM gM af (ap bf (pv 3) (pv 6)) af)
(ak (bc PassesOwn.never rfl (ba rfl T.range (aa (aq qO hr.m (aa (pv 4) (aa af ae))) ae)) (aF (i:=8) pL.nd rfl (Or.inl rfl))
(ak (bh (bmA K rfl (pv 7) (aa (aT (aa (aq qT hr.m (aa (pv 1) (aa (ap bf (pv 3) (pv 6)) (aa (pv 4) ae)))) (aa (aq qU hr.m (aa (pv 0) (aa (pv 4) (aa bV ae)))) ae))) ae))))))
aA)
(ak (bh (bmA K rfl (pv 5) (aa (aq qS hr.m (aa (pv 0) (aa (pv 7) ae))) ae)))))))
(ak (ar (pv 5))))),?_⟩
  refine ⟨Nat.zero_le _,λr nr=>?_⟩
  have rp:r ≠ p:=(ah hp nr).symm
  have hr3:(upd H r (.lst [])) r=some (.lst []):=ac
  have s3:=oS.new (o:=.lst []) nr
  have hp3:=s3 _ _ hp
  generalize upd H r (.lst [])=H3 at *
  refine ⟨_,rfl,c,rfl,⟨_,SqL.of (s3 _ _ hc)⟩,cx (xs:=cs.map V.int) (λj σ H'=>∃ (es:List V) (row:List (List aj)) (a b:Int) (x6 x7 x8:Option V),σ=[some (.int P),some (.int L),some (.ref c),some (.int h),some (.ref p),some (.ref r),x6,x7,x8]/\
    H' r=some (.lst es)/\Paired (oZ H r P H') es row/\Paired (hV P L h) (cs.take j) row/\H' p=some (.lst [.int a,.int b])/\pc a b (k+60*j)/\∀ c o,H c=some o->c ≠ p->H' c=some o) ?_ ?_ ?_ ?_⟩
  ·exact ⟨[],[],a,b,none,none,none,rfl,hr3,.nil,by rw [take_zero]; exact .nil,hp3,hb,λc o e _=>s3 c o e⟩
  ·rintro j σ H' _ ⟨es,row,a,b,x6,x7,x8,rfl,_,_,_,_,_,kp⟩
   exact SqL.of (kp _ _ hc cp)
  ·rintro j v σ H4 hx ⟨es,row,a4,b4,x6,x7,x8,rfl,hr4,pr4,ok4,hp4,hb4,kp4⟩ N0 B0 hN0
   obtain ⟨cj,ecj,rfl⟩:=cW hx
   have jl:j<cs.length:=(List.getElem?_eq_some_iff.mp ecj).1
   have lrow:row.length=j:=by rw [<- Paired.length ok4,length_take]; omega
   have les:es.length=row.length:=Paired.length pr4
   refine ⟨Nat.zero_le _,λso ns=>?_⟩
   have sp:so ≠ p:=(ah hp4 ns).symm
   have sr:so ≠ r:=(ah hr4 ns).symm
   have s5:=oS.new (o:=.lst []) ns
   have hs5:(upd H4 so (.lst [])) so=some (.lst []):=ac
   have hp5:=s5 _ _ hp4
   generalize upd H4 so (.lst [])=H5 at *
   dsimp only
   refine gs (t:=jp _ _ _) (λσ' H'=>∃ (ts:List V) (ps:List aj) (a b:Int) (x8:Option V),σ'=[some (.int P),some (.int L),some (.ref c),some (.int h),some (.ref p),some (.ref r),some (.int cj),some (.ref so),x8]/\H' so=some (.lst ts)/\oV P H' ts ps/\ps.length<=3/\(∀ q ∈ ps,SpOk P L (h-cj) q)/\H' p=some (.lst [.int a,.int b])/\pc a b (k+60*j+50)/\∀ c o,H4 c=some o->c ≠ p->H' c=some o) (λR hR=>?_) ?_
   ·refine ⟨_,rfl,_,rfl,_,_,rfl,rfl,_,_,rfl,rfl,_,rfl,?_⟩
    have none5:∀ c o,H4 c=some o->c ≠ p->H5 c=some o:=λc o e _=>s5 c o e
    by_cases h1:0<=h-cj
    ·rw [decide_eq_true h1]
     refine bF ⟨_,_,rfl,rfl,_,rfl,?_⟩
     by_cases h2:h-cj<=6
     ·rw [decide_eq_true h2]
      refine bF ⟨_,rfl,p,a4,b4,_,_,rfl,hp5,hb4,by omega,by omega,aD (by omega) (by omega),λn6 a6 b6 n60 n61 hb6=>?_⟩
      have k6:∀ c o,H5 c=some o->c ≠ p->upd H5 p (.lst [.int a6,.int b6]) c=some o:=λc o e hc=>by rw [ao hc]; exact e
      have hp6:(upd H5 p (.lst [.int a6,.int b6])) p=some (.lst [.int a6,.int b6]):=ac
      have hs6:=k6 _ _ hs5 sp
      generalize upd H5 p (.lst [.int a6,.int b6])=H6 at *
      refine ⟨n6,rfl,by omega,by omega,cu (n:=n6.toNat) (λm σ H'=>∃ (ts:List V) (ps:List aj) (a b:Int) (x8:Option V),σ=[some (.int P),some (.int L),some (.ref c),some (.int h),some (.ref p),some (.ref r),some (.int cj),some (.ref so),x8]/\H' so=some (.lst ts)/\oV P H' ts ps/\ps.length=m/\(∀ q ∈ ps,SpOk P L (h-cj) q)/\H' p=some (.lst [.int a,.int b])/\pc a b (k+60*j+1+12*m)/\∀ c o,H6 c=some o->c ≠ p->c ≠ so->H' c=some o) ?_ ?_ ?_⟩
      ·exact ⟨[],[],a6,b6,_,rfl,hs6,.nil,rfl,λq hq=>absurd hq (by simp),hp6,hb6,λc o e _ _=>e⟩
      ·rintro m σ H7 hm ⟨ts,ps,a7,b7,y8,rfl,hs7,pr7,ln7,ok7,hp7,hb7,kp7⟩ N1 B1 hN1
       refine ⟨_,rfl,.inl ⟨rfl,_,SqL.of hs7⟩,?_⟩
       refine ⟨_,rfl,_,rfl,_,rfl,_,_,rfl,rfl,_,rfl,p,L,_,a7,b7,_,rfl,L1,L4,h1,by omega,hp7,hb7,by omega,λt es9 a9 b9 H9 le9 nn9 sm9 ht9 hp9 hb9 kp9=>?_⟩
       refine ⟨_,rfl,_,rfl,p,P,a9,b9,_,rfl,hP,hp9,hb9,by omega,λv x a10 b10 H10 av ox sx hp10 hb10 kp10=>?_⟩
       have sx14:=iS hP ox sx
       refine ⟨(by show 2<=sizeLine; decide),λt11 n11=>?_⟩
       have s11:=oS.new (o:=.tup [.ref t,v]) n11
       have h11:(upd H10 t11 (.tup [.ref t,v])) t11=some (.tup [.ref t,v]):=ac
       generalize upd H10 t11 (.tup [.ref t,v])=H11 at *
       have ka:oT [p] H9 H11:=(oT.bag hp9 kp10 (by simp)).trans (.of s11)
       have kb:oT [p] H7 H11:=(oT.bag hp7 kp9 (by simp)).trans ka
       have hs11:=kb.2 _ _ hs7 (by simp [sp])
       refine ⟨so,_,_,rfl,rfl,hs11,by rw [Paired.length pr7,ln7,sizeLine_eq]; omega,?_⟩
       have kc:oT [so] H11 (upd H11 so (.lst (ts++[.ref t11]))):=oT.put hs11 (by simp)
       refine hN1 _ _ ⟨ts++[.ref t11],ps++[(es9,x)],a10,b10,_,rfl,ac,oV.snoc ⟨t11,t,v,rfl,kc.1 _ _ h11,kc.1 _ _ (ka.1 _ _ ht9),((av.mono λt xs e=>s11 _ _ e).mono kc.1)⟩ ((pr7.mono kb.1).mono kc.1),by rw [length_append,ln7]; rfl,λq hq=>?_,by rw [ao sp.symm]; exact s11 _ _ hp10,hb10.mono (by omega),λc o e hc hcs=>?_⟩
       ·rcases List.mem_append.mp hq with z | z
        ·exact ok7 q z
        ·rw [List.mem_singleton.mp z]
         exact ⟨ox,sx14,le9,nn9,by show es9.sum=h-cj; omega⟩
       ·rw [ao hcs]
        exact s11 _ _ (kp10 c o (kp9 c o (kp7 c o e hc hcs) hc) hc)
      ·rintro σ H7 ⟨ts,ps,a7,b7,y8,rfl,hs7,pr7,ln7,ok7,hp7,hb7,kp7⟩
       exact hR _ _ ⟨ts,ps,a7,b7,_,rfl,hs7,pr7,by omega,ok7,hp7,hb7.mono (by omega),λc o e hc=>kp7 c o (k6 c o (s5 c o e) hc) hc (ah e ns)⟩
     ·rw [decide_eq_false h2]
      exact br (hR _ _ ⟨[],[],a4,b4,_,rfl,hs5,.nil,by decide,λq hq=>absurd hq (by simp),hp5,hb4.mono (by omega),none5⟩)
    ·rw [decide_eq_false h1]
     exact br ⟨_,rfl,br (hR _ _ ⟨[],[],a4,b4,_,rfl,hs5,.nil,by decide,λq hq=>absurd hq (by simp),hp5,hb4.mono (by omega),none5⟩)⟩
   rintro σ' H6 ⟨ts,ps,a6,b6,x8',rfl,hs6,pr6,ln6,ok6,hp6,hb6,kp6⟩
   have hr6:=kp6 _ _ hr4 rp
   refine ⟨_,rfl,.inl ⟨rfl,_,SqL.of hr6⟩,?_⟩
   refine ⟨_,rfl,_,rfl,so,P,ts,ps,rfl,hP,hs6,pr6,by omega,fj hP ln6 ok6,λd rs out H7 nd s7 hd po is=>?_⟩
   have hr7:=s7 _ _ hr6
   have dr:d ≠ r:=(ah hr6 nd).symm
   refine ⟨r,_,_,rfl,rfl,hr7,by rw [les,lrow,sizeLine_eq]; omega,?_⟩
   have ka:oT [p,r] H4 (upd H7 r (.lst (es++[.ref d]))):=((oT.bag hp4 kp6 (by simp)).trans (.of s7)).trans (oT.put hr7 (by simp))
   have kb:oT [p,r] H7 (upd H7 r (.lst (es++[.ref d]))):=oT.put hr7 (by simp)
   refine hN0 _ _ ⟨es++[.ref d],row++[out],a6,b6,_,_,_,rfl,ac,aN ?_ (al (λ_ _=>oZ.keep hp ka) pr4),?_,by rw [ao rp.symm]; exact s7 _ _ hp6,hb6.mono (by omega),λc o e hc=>?_⟩
   ·exact ⟨d,rs,rfl,bb (λc o e hc=>kp6 c o (kp4 c o e hc) hc) hp6 nd,dr,by rw [ao dr]; exact hd,po.mono kb.1⟩
   ·rw [take_add_one,ecj]
    obtain ⟨z1,z2,z3⟩:=hU hP ln6 ok6 is
    exact aN ⟨z1,z2,λq hq=>by rw [z3 q hq]; omega⟩ ok4
   ·rw [ao (ah e nr)]
    exact s7 _ _ (kp6 c o (kp4 c o e hc) hc)
  rintro σ H4 ⟨es,row,a4,b4,x6,x7,x8,rfl,hr4,pr4,ok4,hp4,hb4,kp4⟩
  rw [length_map] at ok4 hb4
  rw [take_length] at ok4
  exact ⟨_,rfl,q r es row a4 b4 H4 nr hr4 pr4 ok4 hp4 (hb4.mono (by omega)) kp4⟩
theorem mR {P L h:Int} {S:Nat}:∀ {cs:List Int} {row:List (List aj)},Paired (pB P L S h) cs row->(∃ e ∈ row,e ≠ [])->cv cs row=some h
 | _,_,.nil,⟨_,h,_⟩=>by cases h
 | c::cs,e::r,.cons q t,⟨x,hx,nx⟩=>by
  cases e with
  | nil=>
   show cv cs r=some h
   refine mR t ⟨x,?_,nx⟩
   rcases List.mem_cons.mp hx with z | z
   ·exact absurd z nx
   ·exact z
  | cons a b=>
   show some (c+a.1.sum)=some h
   have:=(q.2.2 a mem_cons_self).1
   rw [show c+a.1.sum=h by omega]
def lM (P L h:Int) (cs:List Int) (row:List (List aj)) (m:List aj):Prop:=o8 P L 30 m/\m.length<=2/\∃ ht,Paired (pB P L 200 ht) cs row/\∀ q ∈ m,q.1.sum+ht=h
def ju:Sp:=λvs H Q _=>∃ (p c rw:Addr) (P L h a b:Int) (k:Nat) (cs:List Int) (ws:List V) (rows:List (List (List aj))),vs=[.int P,.int L,.ref c,.ref rw,.int h,.ref p]/\oU P/\1<=L/\L<=4/\H c=some (.lst (cs.map V.int))/\c ≠ p/\cs.length<=3/\H rw=some (.lst ws)/\rw ≠ p/\Paired (RowA [p] P H) ws rows/\rows.length<=5/\(∀ row ∈ rows,pO P L 200 cs row)/\H p=some (.lst [.int a,.int b])/\pc a b k/\k<=50000/\
 ∀ (r:Addr) (es:List V) (ms:List (List aj)) (a' b':Int) (H':Hp),H r=none->H' r=some (.lst es)->Paired (oZ H r P H') es ms->Paired (lM P L h cs) rows ms->H' p=some (.lst [.int a',.int b'])->pc a' b' (k+500)->(∀ c o,H c=some o->c ≠ p->H' c=some o)->Q (.ref r) H'
theorem pH:oW ["_law_prime_here", "_law_letters", "_law_columns_here", "_law_rows", "_law_height", "_law_bag_here", "_law_found", "_law_row", "_law_many", "_law_some", "_law_k"] ["_law_prime_here", "_law_letters", "_law_columns_here", "_law_rows", "_law_height", "_law_bag_here"] (am cM):=.i
set_option maxHeartbeats 4000000 in
theorem oM {f:Addr} {fd:FuncData} (F:Fun K "_law_multiples" "_law_multiples" cM f fd) (T:Blt mg) (qO:FnB P w K mg base 1 "_law_take" cw) (qU:FnB P w K mg base 4 "_law_number" dD) (qT:FnB P w K mg base 2 "_law_product" i6) (qS:FnB P w K mg base 4 "_law_sum" fu) (rY:FnB P w K mg base 1 "_law_level" j4) :
  oY P w K mg base CX0 5 f fd ["_law_prime_here", "_law_letters", "_law_columns_here", "_law_rows", "_law_height", "_law_bag_here"] ju:=by
 refine F.o pH λ_ _ _ _ H _ Q _ hr h=>?_
 ·obtain ⟨p,c,rw,P,L,h,a,b,k,cs,ws,rows,rfl,hP,L1,L4,hc,cp,c3,hrw,rwp,prw,l5,okr,hp,hb,hk,q⟩:=h
  have lw:ws.length=rows.length:=Paired.length prw
  have hB:=hP.b
  refine ⟨_,(ag (au (i:=6) pH.nd rfl (Or.inl rfl) (aI ae))
(ag (bc PassesOwn.never rfl (aG K rfl (pv 3)) (aF (i:=7) pH.nd rfl (Or.inl rfl))
(ag (au (i:=8) pH.nd rfl (Or.inl rfl) (ap bf (pv 4) (aq rY hr.m (aa (pv 2) (aa (pv 7) ae)))))
(ag (au (i:=9) pH.nd rfl (Or.inl rfl) (aI ae))
(ag (aH (kG gM gM af (pv 8) af)
(ak (bc PassesOwn.never rfl (ba rfl T.range (aa (aq qO hr.m (aa (pv 5) (aa af ae))) ae)) (aF (i:=10) pH.nd rfl (Or.inl rfl))
(ak (bh (bmA K rfl (pv 9) (aa (aT (aa (aq qT hr.m (aa (pv 1) (aa (pv 8) (aa (pv 5) ae)))) (aa (aq qU hr.m (aa (pv 0) (aa (pv 5) (aa bV ae)))) ae))) ae))))))
aA)
(ak (bh (bmA K rfl (pv 6) (aa (aq qS hr.m (aa (pv 0) (aa (pv 9) ae))) ae))))))))
(ak (ar (pv 6))))),?_⟩
  refine ⟨Nat.zero_le _,λr nr=>?_⟩
  have rp:r ≠ p:=(ah hp nr).symm
  have hr3:(upd H r (.lst [])) r=some (.lst []):=ac
  have s3:=oS.new (o:=.lst []) nr
  have hp3:=s3 _ _ hp
  generalize upd H r (.lst [])=H3 at *
  refine ⟨_,rfl,rw,rfl,⟨_,SqL.of (s3 _ _ hrw)⟩,cx (xs:=ws) (λj σ H'=>∃ (es:List V) (row:List (List aj)) (a b:Int) (x7 x8 x9 x10:Option V),σ=[some (.int P),some (.int L),some (.ref c),some (.ref rw),some (.int h),some (.ref p),some (.ref r),x7,x8,x9,x10]/\
    H' r=some (.lst es)/\Paired (oZ H r P H') es row/\Paired (lM P L h cs) (rows.take j) row/\H' p=some (.lst [.int a,.int b])/\pc a b (k+60*j)/\∀ c o,H c=some o->c ≠ p->H' c=some o) ?_ ?_ ?_ ?_⟩
  ·exact ⟨[],[],a,b,none,none,none,none,rfl,hr3,.nil,by rw [take_zero]; exact .nil,hp3,hb,λc o e _=>s3 c o e⟩
  ·rintro j σ H' _ ⟨es,row,a,b,x7,x8,x9,x10,rfl,_,_,_,_,_,kp⟩
   exact SqL.of (kp _ _ hrw rwp)
  ·rintro j v σ H4 hx ⟨es,row,a4,b4,x7,x8,x9,x10,rfl,hr4,pr4,ok4,hp4,hb4,kp4⟩ N0 B0 hN0
   have kA4:oT [p] H H4:=oT.bag hp kp4 (by simp)
   obtain ⟨R,eR,rr,er,rfl,rrp,hrr,per⟩:=aC (al (λ_ _=>RowA.keep kA4) prw) hx
   have jl:j<ws.length:=(List.getElem?_eq_some_iff.mp hx).1
   obtain ⟨ht,pht,nn⟩:=okr R (mem_of_getElem? eR)
   have lR:R.length=cs.length:=(Paired.length pht).symm
   have lrow:row.length=j:=by rw [<- Paired.length ok4,length_take]; omega
   have les:es.length=row.length:=Paired.length pr4
   refine ⟨_,rfl,_,rfl,_,rfl,c,rr,P,cs,er,R,rfl,kp4 _ _ hc cp,hrr,al (λ_ _=>EntA.ent) per,by omega,λHl sl=>?_⟩
   rw [show fh cs R=.int ht by unfold fh; rw [mR pht nn]]
   refine ⟨_,_,rfl,rfl,?_⟩
   have hr4:=sl _ _ hr4
   have hp4:=sl _ _ hp4
   have pr4:Paired (oZ H r P Hl) es row:=al (λ_ _=>oZ.keep hp (oT.of sl)) pr4
   have kp4:∀ c o,H c=some o->c ≠ p->Hl c=some o:=λc o e hc=>sl _ _ (kp4 c o e hc)
   clear kA4 hrr per
   generalize Hl=H4 at *
   refine ⟨Nat.zero_le _,λso ns=>?_⟩
   have sp:so ≠ p:=(ah hp4 ns).symm
   have sr:so ≠ r:=(ah hr4 ns).symm
   have s5:=oS.new (o:=.lst []) ns
   have hs5:(upd H4 so (.lst [])) so=some (.lst []):=ac
   have hp5:=s5 _ _ hp4
   generalize upd H4 so (.lst [])=H5 at *
   dsimp only
   refine gs (t:=jp _ _ _) (λσ' H'=>∃ (ts:List V) (ps:List aj) (a b:Int) (x10:Option V),σ'=[some (.int P),some (.int L),some (.ref c),some (.ref rw),some (.int h),some (.ref p),some (.ref r),some (.ref rr),some (.int (h-ht)),some (.ref so),x10]/\H' so=some (.lst ts)/\oV P H' ts ps/\ps.length<=2/\(∀ q ∈ ps,SpOk P L (h-ht) q)/\H' p=some (.lst [.int a,.int b])/\pc a b (k+60*j+50)/\∀ c o,H4 c=some o->c ≠ p->H' c=some o) (λR hR=>?_) ?_
   ·refine ⟨_,rfl,_,_,rfl,rfl,_,rfl,?_⟩
    have none5:∀ c o,H4 c=some o->c ≠ p->H5 c=some o:=λc o e _=>s5 c o e
    by_cases h1:0<=h-ht
    ·rw [decide_eq_true h1]
     refine bF ⟨_,_,rfl,rfl,_,rfl,?_⟩
     by_cases h2:h-ht<=4
     ·rw [decide_eq_true h2]
      refine bF ⟨_,rfl,p,a4,b4,_,_,rfl,hp5,hb4,by omega,by omega,aD (by omega) (by omega),λn6 a6 b6 n60 n61 hb6=>?_⟩
      have k6:∀ c o,H5 c=some o->c ≠ p->upd H5 p (.lst [.int a6,.int b6]) c=some o:=λc o e hc=>by rw [ao hc]; exact e
      have hp6:(upd H5 p (.lst [.int a6,.int b6])) p=some (.lst [.int a6,.int b6]):=ac
      have hs6:=k6 _ _ hs5 sp
      generalize upd H5 p (.lst [.int a6,.int b6])=H6 at *
      refine ⟨n6,rfl,by omega,by omega,cu (n:=n6.toNat) (λm σ H'=>∃ (ts:List V) (ps:List aj) (a b:Int) (x10:Option V),σ=[some (.int P),some (.int L),some (.ref c),some (.ref rw),some (.int h),some (.ref p),some (.ref r),some (.ref rr),some (.int (h-ht)),some (.ref so),x10]/\H' so=some (.lst ts)/\oV P H' ts ps/\ps.length=m/\(∀ q ∈ ps,SpOk P L (h-ht) q)/\H' p=some (.lst [.int a,.int b])/\pc a b (k+60*j+1+12*m)/\∀ c o,H6 c=some o->c ≠ p->c ≠ so->H' c=some o) ?_ ?_ ?_⟩
      ·exact ⟨[],[],a6,b6,_,rfl,hs6,.nil,rfl,λq hq=>absurd hq (by simp),hp6,hb6,λc o e _ _=>e⟩
      ·rintro m σ H7 hm ⟨ts,ps,a7,b7,y8,rfl,hs7,pr7,ln7,ok7,hp7,hb7,kp7⟩ N1 B1 hN1
       refine ⟨_,rfl,.inl ⟨rfl,_,SqL.of hs7⟩,?_⟩
       refine ⟨_,rfl,_,rfl,_,rfl,p,L,_,a7,b7,_,rfl,L1,L4,h1,by omega,hp7,hb7,by omega,λt es9 a9 b9 H9 le9 nn9 sm9 ht9 hp9 hb9 kp9=>?_⟩
       refine ⟨_,rfl,_,rfl,p,P,a9,b9,_,rfl,hP,hp9,hb9,by omega,λv x a10 b10 H10 av ox sx hp10 hb10 kp10=>?_⟩
       have sx14:=iS hP ox sx
       refine ⟨(by show 2<=sizeLine; decide),λt11 n11=>?_⟩
       have s11:=oS.new (o:=.tup [.ref t,v]) n11
       have h11:(upd H10 t11 (.tup [.ref t,v])) t11=some (.tup [.ref t,v]):=ac
       generalize upd H10 t11 (.tup [.ref t,v])=H11 at *
       have ka:oT [p] H9 H11:=(oT.bag hp9 kp10 (by simp)).trans (.of s11)
       have kb:oT [p] H7 H11:=(oT.bag hp7 kp9 (by simp)).trans ka
       have hs11:=kb.2 _ _ hs7 (by simp [sp])
       refine ⟨so,_,_,rfl,rfl,hs11,by rw [Paired.length pr7,ln7,sizeLine_eq]; omega,?_⟩
       have kc:oT [so] H11 (upd H11 so (.lst (ts++[.ref t11]))):=oT.put hs11 (by simp)
       refine hN1 _ _ ⟨ts++[.ref t11],ps++[(es9,x)],a10,b10,_,rfl,ac,oV.snoc ⟨t11,t,v,rfl,kc.1 _ _ h11,kc.1 _ _ (ka.1 _ _ ht9),((av.mono λt xs e=>s11 _ _ e).mono kc.1)⟩ ((pr7.mono kb.1).mono kc.1),by rw [length_append,ln7]; rfl,λq hq=>?_,by rw [ao sp.symm]; exact s11 _ _ hp10,hb10.mono (by omega),λc o e hc hcs=>?_⟩
       ·rcases List.mem_append.mp hq with z | z
        ·exact ok7 q z
        ·rw [List.mem_singleton.mp z]
         exact ⟨ox,sx14,le9,nn9,by show es9.sum=h-ht; omega⟩
       ·rw [ao hcs]
        exact s11 _ _ (kp10 c o (kp9 c o (kp7 c o e hc hcs) hc) hc)
      ·rintro σ H7 ⟨ts,ps,a7,b7,y8,rfl,hs7,pr7,ln7,ok7,hp7,hb7,kp7⟩
       exact hR _ _ ⟨ts,ps,a7,b7,_,rfl,hs7,pr7,by omega,ok7,hp7,hb7.mono (by omega),λc o e hc=>kp7 c o (k6 c o (s5 c o e) hc) hc (ah e ns)⟩
     ·rw [decide_eq_false h2]
      exact br (hR _ _ ⟨[],[],a4,b4,_,rfl,hs5,.nil,by decide,λq hq=>absurd hq (by simp),hp5,hb4.mono (by omega),none5⟩)
    ·rw [decide_eq_false h1]
     exact br ⟨_,rfl,br (hR _ _ ⟨[],[],a4,b4,_,rfl,hs5,.nil,by decide,λq hq=>absurd hq (by simp),hp5,hb4.mono (by omega),none5⟩)⟩
   rintro σ' H6 ⟨ts,ps,a6,b6,x10',rfl,hs6,pr6,ln6,ok6,hp6,hb6,kp6⟩
   have hr6:=kp6 _ _ hr4 rp
   refine ⟨_,rfl,.inl ⟨rfl,_,SqL.of hr6⟩,?_⟩
   refine ⟨_,rfl,_,rfl,so,P,ts,ps,rfl,hP,hs6,pr6,by omega,fj hP (by omega) ok6,λd rs out H7 nd s7 hd po is=>?_⟩
   have hr7:=s7 _ _ hr6
   have dr:d ≠ r:=(ah hr6 nd).symm
   refine ⟨r,_,_,rfl,rfl,hr7,by rw [les,lrow,sizeLine_eq]; omega,?_⟩
   have ka:oT [p,r] H4 (upd H7 r (.lst (es++[.ref d]))):=((oT.bag hp4 kp6 (by simp)).trans (.of s7)).trans (oT.put hr7 (by simp))
   have kb:oT [p,r] H7 (upd H7 r (.lst (es++[.ref d]))):=oT.put hr7 (by simp)
   refine hN0 _ _ ⟨es++[.ref d],row++[out],a6,b6,_,_,_,_,rfl,ac,aN ?_ (al (λ_ _=>oZ.keep hp ka) pr4),?_,by rw [ao rp.symm]; exact s7 _ _ hp6,hb6.mono (by omega),λc o e hc=>?_⟩
   ·exact ⟨d,rs,rfl,bb (λc o e hc=>kp6 c o (kp4 c o e hc) hc) hp6 nd,dr,by rw [ao dr]; exact hd,po.mono kb.1⟩
   ·rw [take_add_one,eR]
    obtain ⟨z1,z2,z3⟩:=hU hP ln6 ok6 is
    exact aN ⟨z1,z2,ht,pht,λq hq=>by rw [z3 q hq]; omega⟩ ok4
   ·rw [ao (ah e nr)]
    exact s7 _ _ (kp6 c o (kp4 c o e hc) hc)
  rintro σ H4 ⟨es,row,a4,b4,x7,x8,x9,x10,rfl,hr4,pr4,ok4,hp4,hb4,kp4⟩
  rw [lw] at ok4 hb4
  rw [take_length] at ok4
  exact ⟨_,rfl,q r es row a4 b4 H4 nr hr4 pr4 ok4 hp4 (hb4.mono (by omega)) kp4⟩
theorem nd_19:(["_law_place"]:List Str).Nodup:=by decide +kernel
def pat (P:Int) (i:Nat) (rows:List (List (List aj))) (ms:List (List aj)):List aj:=(rows.zip ms).flatMap λq=>aW P (q.1.getD i []) q.2
theorem pat_snoc (P:Int) (i:Nat) (rows:List (List (List aj))) (ms:List (List aj)) (r:List (List aj)) (m:List aj) (h:rows.length=ms.length):pat P i (rows++[r]) (ms++[m])=pat P i rows ms++aW P (r.getD i []) m:=by
 unfold pat
 rw [List.zip_append h,flatMap_append]
 simp
theorem vm_tat (P:Int) (i:Nat) (rows:List (List (List aj))) (ms:List (List aj)):vm P (tat i rows ms)=pat P i rows ms:=by
 unfold vm tat pat
 rw [List.map_flatMap]
 congr 1
 funext q
 exact vm_trms P _ _
def MixC (P L:Int) (many:Nat) (rows:List (List (List aj))) (ms:List (List aj)):Prop:=rows.length=ms.length/\rows.length<=5/\(∀ row ∈ rows,row.length=many/\∀ e ∈ row,o8 P L 200 e/\e.length<=3)/\∀ m ∈ ms,o8 P L 30 m/\m.length<=2
theorem len_L {P L:Int} {z:Nat} {ps:List aj} (c:o8 P L z ps):∀ p ∈ ps,p.1.length=L.toNat:=λp hp=>by have:=(c.2 p hp).2.2.2.1; omega
theorem emul_of {P L:Int} {z:Nat} (hz:z<=250) (L4:L<=4) {e:List aj} (c:o8 P L z e) (h:e.length<=3):EMul P L.toNat e:=⟨by omega,c.nodup,λp hp=>⟨(c.2 p hp).1,(c.2 p hp).2.1.mono hz,len_L c p hp,by have:=len_L c p hp; omega⟩⟩
theorem mmul_of {P L:Int} {m:List aj} (c:o8 P L 30 m) (h:m.length<=2):MMul P L.toNat m:=⟨h,λp hp=>⟨(c.2 p hp).1,(c.2 p hp).2.1.mono (by decide),len_L c p hp⟩⟩
theorem MixC.mi {P L:Int} {many:Nat} {rows:List (List (List aj))} {ms:List (List aj)} (L4:L<=4) (h:MixC P L many rows ms):MixIn P L.toNat many rows ms:=
 ⟨h.1,h.2.1,λrow hr=>⟨(h.2.2.1 row hr).1,λe he=>emul_of (by decide) L4 ((h.2.2.1 row hr).2 e he).1 ((h.2.2.1 row hr).2 e he).2⟩,λm hm=>mmul_of (h.2.2.2 m hm).1 (h.2.2.2 m hm).2⟩
theorem eC {P L:Int} (hP:oU P) {y z:Nat} (hy:14<=y) {a b:List aj} (ca:o8 P L y a) (cb:o8 P L z b):∀ q ∈ aW P a b,OkN P q.2/\Sz (y+z+1) q.2/\(q.1.length:Int)=L/\(∀ e ∈ q.1,0<=e)/\∃ u ∈ a,∃ v ∈ b,q.1.sum=u.1.sum+v.1.sum:=λq hq=>by
 have hB:=hP.b
 obtain ⟨u,hu,mv⟩:=List.mem_flatMap.mp hq
 obtain ⟨v,hv,rfl⟩:=List.mem_map.mp mv
 obtain ⟨ou,su,_,lu,nu⟩:=ca.2 u hu
 obtain ⟨ov,sv,_,lv,nv⟩:=cb.2 v hv
 have l:u.1.length=v.1.length:=by omega
 refine ⟨nC hB.1 ou ov,(dC hB.1 hB.2.1 ou ov su sv hy).2.2,?_,oi nu nv,u,hu,v,hv,i4 l⟩
 show ((bQ u.1 v.1).length:Int)=L
 rw [zadd_len l]
 exact lv
theorem gD {P L:Int} (hP:oU P) {y z n:Nat} (hy:14<=y) {a b:List aj} (ca:o8 P L y a) (cb:o8 P L z b) (hb:b.length<=n) (h1:y+z+1<=2900) (h2:(y+z+2)*n<=2900):bO P (aW P a b)/\∀ out,o7 P (aW P a b) out->o8 P L ((y+z+2)*n) out/\out.length<=a.length*b.length/\∀ q ∈ out,∃ u ∈ a,∃ v ∈ b,q.1.sum=u.1.sum+v.1.sum:=by
 have f:=eC hP hy ca cb
 have c:∀ k,cnt k (aW P a b)<=n:=λk=>Nat.le_trans (cnt_prods P k ca.nodup (len_L ca) (len_L cb)) hb
 refine ⟨sumOk_c hP (S:=y+z+1) (by omega) (λq hq=>⟨(f q hq).1,(f q hq).2.1⟩) c h1 h2,λout is=>?_⟩
 obtain ⟨c1,c2,c3⟩:=canon_c hP (S:=y+z+1) (by omega) (λq hq=>⟨(f q hq).1,(f q hq).2.1,(f q hq).2.2.1,(f q hq).2.2.2.1⟩) c is
 rw [gv] at c2
 refine ⟨c1,c2,λq hq=>?_⟩
 obtain ⟨r,hr,e⟩:=c3 q hq
 rw [<- e]
 exact (f r hr).2.2.2.2
def MixE (P L:Int) (i j:Nat) (rows:List (List (List aj))) (ms:List (List aj)) (e:List aj):Prop:=o8 P L (14+465*j) e/\e.length<=6*j/\∀ k,co e k=co (acc P (pat P i (rows.take j) (ms.take j))) k
theorem mix_step {P L:Int} (hP:oU P) {many i j:Nat} {rows:List (List (List aj))} {ms:List (List aj)} (mc:MixC P L many rows ms) (hi:i<many) {row:List (List aj)} {a m e s:List aj} (er:rows[j]? = some row) (ea:row[i]? = some a) (em:ms[j]? = some m) (he:MixE P L i j rows ms e) (hs:o7 P (aW P a m) s) :
  e.length+s.length<=60/\bO P (e++s)/\∀ out,o7 P (e++s) out->MixE P L i (j+1) rows ms out:=by
 obtain ⟨lrm,l5,okr,okm⟩:=id mc
 have hB:=hP.b
 have hj:j<rows.length:=(List.getElem?_eq_some_iff.mp er).1
 obtain ⟨ca,la⟩:=(okr row (mem_of_getElem? er)).2 a (mem_of_getElem? ea)
 obtain ⟨cm,lm⟩:=okm m (mem_of_getElem? em)
 obtain ⟨c1,l1,co1⟩:=he
 obtain ⟨cs,ls,_⟩:=(gD hP (n:=2) (by decide) ca cm lm (by decide) (by decide)).2 s hs
 have ls6:s.length<=6:=Nat.le_trans ls (Nat.mul_le_mul la lm)
 have cs:o8 P L 464 s:=cs
 refine ⟨by omega,jj hP c1.nodup cs.nodup (λq hq=>⟨(c1.2 q hq).1,(c1.2 q hq).2.1⟩) (λq hq=>⟨(cs.2 q hq).1,(cs.2 q hq).2.1⟩) (by omega) (by omega) (by omega) (by omega) (λk u v hu hv=>(dC hB.1 hB.2.1 (c1.2 _ hu).1 (cs.2 _ hv).1 (c1.2 _ hu).2.1 (cs.2 _ hv).2.1 (by omega)).1.mono (by omega)),λout is=>?_⟩
 obtain ⟨c2,l2⟩:=eP hP c1 cs (by omega) is
 have okp:∀ p ∈ aW P a m,OkN P p.2:=λp hp=>(eC hP (y:=200) (by decide) ca cm p hp).1
 have okpat:∀ p ∈ pat P i (rows.take j) (ms.take j),OkN P p.2:=λp hp=>by
  obtain ⟨q,hq,hp⟩:=List.mem_flatMap.mp hp
  obtain ⟨h1,h2⟩:=of_mem_zip (show (q.1,q.2) ∈ _ from hq)
  obtain ⟨lr,cr⟩:=okr q.1 (mem_of_mem_take h1)
  have hg:q.1.getD i []=q.1[i]:=by rw [getD_eq_getElem?_getD,getElem?_eq_getElem (by omega)]; rfl
  rw [hg] at hp
  exact (eC hP (y:=200) (by decide) (cr _ (getElem_mem _)).1 (okm q.2 (mem_of_mem_take h2)).1 p hp).1
 refine ⟨by rw [show 14+465*(j+1)=14+465*j+464+1 by omega]; exact c2,by omega,λk=>?_⟩
 rw [is.co,kz hB.1 hB.2.2 c1.nodup cs.nodup c1.ok cs.ok,co1,hs.co,take_add_one,take_add_one,er,em,show (some row).toList=[row] from rfl,show (some m).toList=[m] from rfl,pat_snoc _ _ _ _ _ _ (by rw [length_take,length_take,lrm]),getD_eq_getElem?_getD,ea]
 exact (co_app hP okpat okp k).symm
def spMixed:Sp:=λvs H Q _=>∃ (rw mu:Addr) (P L:Int) (many:Nat) (ws us:List V) (rows:List (List (List aj))) (ms:List (List aj)),vs=[.int P,.int (many:Int),.ref rw,.ref mu]/\oU P/\L<=4/\H rw=some (.lst ws)/\Paired (pM P H) ws rows/\H mu=some (.lst us)/\Paired (pA P H) us ms/\MixC P L many rows ms/\many<=60/\
 ∀ (d:Addr) (es:List V) (out:List (List aj)) (H':Hp),H d=none->oS H H'->H' d=some (.lst es)->Paired (oZ H d P H') es out->out.length=many->(∀ (i:Nat) (e:List aj),out[i]? = some e->MixE P L i rows.length rows ms e)->Q (.ref d) H'
theorem p5:oW ["_law_prime_here", "_law_many", "_law_rows", "_law_multiples_here", "_law_found", "_law_row", "_law_one", "_law_place"] ["_law_prime_here", "_law_many", "_law_rows", "_law_multiples_here"] (am fw):=.i
set_option maxHeartbeats 4000000 in
theorem ok_mixed {f:Addr} {fd:FuncData} (F:Fun K "_law_mixed" "_law_mixed" fw f fd) (T:Blt mg) (qS:FnB P w K mg base 4 "_law_sum" fu) (qX:FnB P w K mg base 5 "_law_sum_times" iM):oY P w K mg base CX0 6 f fd ["_law_prime_here", "_law_many", "_law_rows", "_law_multiples_here"] spMixed:=by
 refine F.o p5 λ_ _ _ _ H _ Q _ hr h=>?_
 ·obtain ⟨rw,mu,P,L,many,ws,us,rows,ms,rfl,hP,L4,hrw,prw,hmu,pmu,mc,h60,q⟩:=h
  obtain ⟨lrm,l5,okr,okm⟩:=id mc
  have lw:ws.length=rows.length:=Paired.length prw
  have lu:us.length=ms.length:=Paired.length pmu
  refine ⟨_,(ag (oB (i:=4) p5.nd rfl (Or.inl rfl) (N:=["_law_place"]) (src:=[none]) rfl rfl rfl (by exact (ba rfl T.range (aa (pv 1) ae))) (λ_ _ _=>by exact ⟨by exact (bP (i:=0) nd_19 rfl rfl),aP,by exact (aI ae)⟩))
(ag (bc PassesOwn.never rfl (dB K false false rfl rfl T.zip (aa (pv 2) (aa (pv 3) ae))) (bw K (i:=5) (j:=6) rfl rfl p5.nd rfl rfl rfl rfl)
(ak (bc PassesOwn.never rfl (ba rfl T.range (aa (pv 1) ae)) (aF (i:=7) p5.nd rfl (Or.inl rfl))
(ak (fq (aq qS hr.m (aa (pv 0) (aa (ap kn (aB (aE K rfl) (pv 4) (pv 7) (λ_ _=>rfl)) (aq qX hr.m (aa (pv 0) (aa (aB (aE K rfl) (pv 5) (pv 7) (λ_ _=>rfl)) (aa (pv 6) ae))))) ae))) (jV (pv 4) (pv 7) gn))))))
(ak (ar (pv 4))))),?_⟩
  refine ⟨_,rfl,(many:Int),rfl,by omega,by omega,me (n:=many) (P:=P) (rest:=[]) rfl (λi e=>e=[]) h60 (λi H1 R hi sm k=>⟨Nat.zero_le _,λl nl=>k l [] [] _ (oS.new nl) nl ac .nil rfl⟩) λd es0 row0 H0 nd sm0 hd0 pr0 lr0 rel0=>?_⟩
  refine ⟨_,rfl,_,rfl,rw,mu,rfl,⟨_,bJ (SqL.of (sm0 _ _ hrw))⟩,⟨_,bJ (SqL.of (sm0 _ _ hmu))⟩,for_zipN (xs:=ws) (ys:=us) (λj σ H'=>∃ (x5 x6 x7:Option V) (es:List V) (out:List (List aj)),σ=[some (.int P),some (.int (many:Int)),some (.ref rw),some (.ref mu),some (.ref d),x5,x6,x7]/\oS H H'/\H' d=some (.lst es)/\Paired (oZ H d P H') es out/\out.length=many/\∀ (i:Nat) (e:List aj),out[i]? = some e->MixE P L i j rows ms e) ?_ ?_ ?_ ?_⟩
  ·refine ⟨none,none,none,es0,row0,rfl,sm0,hd0,pr0,lr0,λi e ei=>?_⟩
   rw [rel0 i e ei]
   exact ⟨⟨.nil,λp hp=>by cases hp⟩,Nat.zero_le _,λk=>rfl⟩
  ·rintro j σ H' _ ⟨x5,x6,x7,es,out,rfl,sm,_⟩
   exact ⟨bJ (SqL.of (sm _ _ hrw)),bJ (SqL.of (sm _ _ hmu))⟩
  ·rintro j v y σ H1 p hx hy ⟨x5,x6,x7,es,out,rfl,sm,hd1,pr1,lo1,rel1⟩ np N0 B0 hN0
   obtain ⟨row,erow,r,er,rfl,hr',pe⟩:=aC prw hx
   obtain ⟨m,em,l,ts,rfl,hl,pm⟩:=aC pmu hy
   obtain ⟨lr,cr⟩:=okr row (mem_of_getElem? erow)
   obtain ⟨cm,lm⟩:=okm m (mem_of_getElem? em)
   have le:er.length=row.length:=Paired.length pe
   have s2:=oS.new (o:=.tup [.ref r,.ref l]) np
   have h2:(upd H1 p (.tup [.ref r,.ref l])) p=some (.tup [.ref r,.ref l]):=ac
   have pr2:Paired (oZ H d P (upd H1 p (.tup [.ref r,.ref l]))) es out:=al (λ_ _=>oZ.keepA (av:=[]) (λa h=>by cases h) (oT.of s2)) pr1
   generalize upd H1 p (.tup [.ref r,.ref l])=H2 at *
   have sm2:=sm.trans s2
   have hd2:=s2 _ _ hd1
   refine ⟨p,_,rfl,SqT.of h2,rfl,_,_,rfl,_,_,rfl,rfl,?_⟩
   refine ⟨_,rfl,(many:Int),rfl,by omega,by omega,cu (n:=many) (λi σ H'=>∃ (x7:Option V) (es:List V) (out:List (List aj)),σ=[some (.int P),some (.int (many:Int)),some (.ref rw),some (.ref mu),some (.ref d),some (.ref r),some (.ref l),x7]/\oS H H'/\H' d=some (.lst es)/\Paired (oZ H d P H') es out/\out.length=many/\∀ (t:Nat) (e:List aj),out[t]? = some e->if t<i then MixE P L t (j+1) rows ms e else MixE P L t j rows ms e) ?_ ?_ ?_⟩
   ·exact ⟨x7,es,out,rfl,sm2,hd2,pr2,lo1,λt e h=>by rw [if_neg (by omega)]; exact rel1 t e h⟩
   ·rintro i σ H3 hi ⟨y7,es3,out3,rfl,sm3,hd3,pr3,lo3,rel3⟩ N1 B1 hN1
    have le3:es3.length=out3.length:=Paired.length pr3
    obtain ⟨v0,ev⟩:∃ v0,er[i]? = some v0:=⟨_,getElem?_eq_getElem (by omega)⟩
    obtain ⟨a,ea,la,ts1,rfl,ha,pa⟩:=aC pe ev
    obtain ⟨v1,ev1⟩:∃ v1,es3[i]? = some v1:=⟨_,getElem?_eq_getElem (by omega)⟩
    obtain ⟨e,ee,lb,tb,rfl,nb,bd,hb,pb⟩:=aC pr3 ev1
    have re:=rel3 i e ee
    rw [if_neg (Nat.lt_irrefl _)] at re
    obtain ⟨ca,l3⟩:=cr a (mem_of_getElem? ea)
    have pso:=(gD hP (n:=2) (by decide) ca cm lm (by decide) (by decide)).1
    have l12:a.length*m.length<=3*2:=Nat.mul_le_mul l3 lm
    refine ⟨_,rfl,_,rfl,_,rfl,d,es3,_,_,rfl,rfl,SqL.of hd3,by rw [Int.zero_add]; exact dA ev1,?_⟩
    refine ⟨_,rfl,_,rfl,_,rfl,r,er,_,_,rfl,rfl,SqL.of (sm3 _ _ hr'),by rw [Int.zero_add]; exact dA ev,_,rfl,la,l,P,ts1,ts,a,m,rfl,hP,sm3 _ _ ha,pa.mono λt xs e=>sm3 _ _ e,sm3 _ _ hl,pm.mono λt xs e=>sm3 _ _ e,by omega,λp hp=>⟨(ca.2 p hp).1,(ca.2 p hp).2.1.mono (by decide),by have:=(ca.2 p hp).2.2.2.1; omega⟩,λp hp=>⟨(cm.2 p hp).1,(cm.2 p hp).2.1.mono (by decide)⟩,pso,λd4 rs4 s4 H4 nd4 sm4 hd4 po4 is4=>?_⟩
    obtain ⟨len5,so5,fin5⟩:=mix_step hP mc (by omega) erow ea em re is4
    have lt:tb.length=e.length:=Paired.length pb
    have lt4:rs4.length=s4.length:=Paired.length po4
    refine ⟨lb,d4,tb,rs4,rfl,rfl,sm4 _ _ hb,hd4,by rw [sizeLine_eq]; omega,λc5 n5=>?_⟩
    have s5:=oS.new (o:=.lst (tb++rs4)) n5
    have h5:(upd H4 c5 (.lst (tb++rs4))) c5=some (.lst (tb++rs4)):=ac
    have po5:oV P (upd H4 c5 (.lst (tb++rs4))) rs4 s4:=po4.mono λt xs e=>s5 _ _ e
    generalize upd H4 c5 (.lst (tb++rs4))=H5 at *
    have sm45:=sm4.trans s5
    refine ⟨c5,P,_,e++s4,rfl,hP,h5,oV.app po5 (pb.mono λt xs e=>sm45 _ _ e),by rw [length_append]; exact len5,so5,λd6 rs6 o6 H6 nd6 sm6 hd6 po6 is6=>?_⟩
    have s36:=sm45.trans sm6
    have hd36:=s36 _ _ hd3
    refine ⟨_,rfl,_,rfl,d,es3,_,i,rfl,rfl,hd36,by rw [Int.zero_add]; exact ixN_nat (by omega),?_⟩
    have d6d:d6 ≠ d:=(ah (sm45 _ _ hd3) nd6).symm
    have kb:oT [d] H6 (upd H6 d (.lst (es3.set i (.ref d6)))):=oT.put hd36 (by simp)
    refine hN1 _ _ ⟨_,es3.set i (.ref d6),out3.set i o6,rfl,λc o e'=>by rw [ao (ah e' nd)]; exact s36 _ _ (sm3 _ _ e'),ac,fM ⟨d6,rs6,rfl,(sm3.trans sm45).free nd6,d6d,by rw [ao d6d]; exact hd6,po6.mono kb.1⟩ i (al (λ_ _=>oZ.keepA (av:=[d]) (λa h=>.inl (by simpa using h)) ((oT.of s36).trans kb)) pr3),by rw [List.length_set]; exact lo3,λt e' h=>?_⟩
    by_cases ti:t=i
    ·subst ti
     rw [getElem?_set_self (by omega)] at h
     cases h
     rw [if_pos (by omega)]
     exact fin5 _ is6
    ·rw [getElem?_set_ne (λz=>ti z.symm)] at h
     have z:=rel3 t e' h
     by_cases t2:t<i
     ·rw [if_pos t2] at z
      rw [if_pos (by omega)]
      exact z
     ·rw [if_neg t2] at z
      rw [if_neg (by omega)]
      exact z
   ·rintro σ H3 ⟨y7,es3,out3,rfl,sm3,hd3,pr3,lo3,rel3⟩
    refine hN0 _ _ ⟨_,_,_,es3,out3,rfl,sm3,hd3,pr3,lo3,λt e h=>?_⟩
    have z:=rel3 t e h
    have tl:t<out3.length:=(List.getElem?_eq_some_iff.mp h).1
    rw [if_pos (by omega)] at z
    exact z
  ·rintro σ H1 ⟨x5,x6,x7,es,out,rfl,sm,hd1,pr1,lo1,rel1⟩
   rw [show min ws.length us.length=rows.length by omega] at rel1
   exact ⟨_,rfl,q d es out H1 nd sm hd1 pr1 lo1 rel1⟩
theorem nd_20:(["_law_row"]:List Str).Nodup:=by decide +kernel
theorem nd_21:(["_law_here", "_law_there", "_law_prime_here"]:List Str).Nodup:=by decide +kernel
def RowF (H0:Hp) (d:Addr) (P:Int) (H:Hp) (v:V) (row:List (List aj)):Prop:=∃ r es,v=.ref r/\H0 r=none/\r ≠ d/\H r=some (.lst es)/\Paired (oZ H0 d P H) es row
theorem RowF.keepA {H0:Hp} {av:List Addr} {d:Addr} {P:Int} {H H':Hp} {v:V} {row:List (List aj)} (hav:∀ a ∈ av,a=d\/H0 a ≠ none) (k:oT av H H') (h:RowF H0 d P H v row):RowF H0 d P H' v row:=by
 obtain ⟨r,es,rfl,h0,rd,hr,pe⟩:=h
 refine ⟨r,es,rfl,h0,rd,k.2 _ _ hr λz=>?_,al (λ_ _=>oZ.keepA hav k) pe⟩
 rcases hav r z with e | e
 ·exact rd e
 ·exact e h0
theorem RowF.row {H0:Hp} {d:Addr} {P:Int} {H:Hp} {v:V} {row:List (List aj)} (h:RowF H0 d P H v row):pM P H v row:=by
 obtain ⟨r,es,rfl,_,_,hr,pe⟩:=h
 exact ⟨r,es,rfl,hr,al (λ_ _=>oZ.ent) pe⟩
def spCopied:Sp:=λvs H Q _=>∃ (t:Addr) (P:Int) (ws:List V) (rows:List (List (List aj))),vs=[.ref t]/\H t=some (.lst ws)/\Paired (pM P H) ws rows/\ws.length<=60/\(∀ row ∈ rows,row.length<=60)/\
 ∀ (d:Addr) (ws':List V) (H':Hp),H d=none->oS H H'->H' d=some (.lst ws')->Paired (RowF H d P H') ws' rows->Q (.ref d) H'
def spAdded:Sp:=λvs H Q _=>∃ (r1 r2:Addr) (P:Int) (es1 es2:List V) (row1 row2:List (List aj)),vs=[.int P,.ref r1,.ref r2]/\oU P/\H r1=some (.lst es1)/\Paired (pA P H) es1 row1/\H r2=some (.lst es2)/\Paired (pA P H) es2 row2/\row1.length=row2.length/\row1.length<=60/\(∀ (i:Nat) (a b:List aj),row1[i]? = some a->row2[i]? = some b->a.length+b.length<=60/\bO P (a++b))/\
 ∀ (d:Addr) (es:List V) (row:List (List aj)) (H':Hp),H d=none->oS H H'->H' d=some (.lst es)->Paired (oZ H d P H') es row->row.length=row1.length->(∀ (i:Nat) (e:List aj),row[i]? = some e->∃ a b,row1[i]? = some a/\row2[i]? = some b/\o7 P (a++b) e)->Q (.ref d) H'
theorem kg:oW ["_law_table_here"] ["_law_table_here"] (am eG):=.i
theorem ok_copied {f:Addr} {fd:FuncData} (F:Fun K "_law_copied" "_law_copied" eG f fd) (T:Blt mg):oY P w K mg base CX0 1 f fd ["_law_table_here"] spCopied:=by
 refine F.o kg λ_ _ _ _ H _ Q _ hr h=>?_
 ·obtain ⟨t,P,ws,rows,rfl,ht,pw,hw,hrl,q⟩:=h
  have lw:ws.length=rows.length:=Paired.length pw
  refine ⟨_,(ak (ar (by exact aO (N:=["_law_row"]) (src:=[none]) rfl rfl rfl (by exact (aG K rfl (pv 0))) (λ_ _ _=>by exact ⟨by exact (bP (i:=0) nd_20 rfl rfl),aP,by exact (by exact aO (N:=["_law_entry"]) (src:=[none]) rfl rfl rfl (by exact (aG K rfl (pv 0))) (λ_ _ _=>by exact ⟨by exact (bP (i:=0) nd_9 rfl rfl),aP,by exact (kl K T (pv 0))⟩))⟩)))),?_⟩
  refine ⟨_,rfl,t,rfl,⟨_,SqL.of ht⟩,aX (n:=ws.length) (σ0:=[none]) rfl (λacc i zs σ H'=>∃ u:Option V,σ=[u]/\oS H H'/\Paired (RowF H acc P H') zs (rows.take i)) (by rw [sizeLine_eq]; omega) (λacc hacc=>⟨none,rfl,oS.new hacc,by rw [take_zero]; exact .nil⟩) ?_ ?_ ?_ ?_⟩
  ·rintro acc i zs σ H' hacc hi hz ⟨u,rfl,sm,_⟩
   exact ⟨ws,ws[i],SqL.of (sm _ _ ht),by simp [hi]⟩
  ·rintro acc zs σ H' hacc hz ⟨u,rfl,sm,_⟩
   exact ⟨ws,SqL.of (sm _ _ ht),Nat.le_refl _⟩
  ·rintro acc i zs σ H1 x H' hacc hi hz hzl ⟨u,rfl,sm,pz⟩ ⟨rfl,gx⟩
   have hx:=gx ws (SqL.of (sm _ _ ht))
   obtain ⟨row,er,r,es,rfl,hr',pe⟩:=aC pw hx
   have l60:=hrl row (mem_of_getElem? er)
   have le:es.length=row.length:=Paired.length pe
   refine ⟨_,rfl,r,rfl,⟨_,SqL.of (sm _ _ hr')⟩,nH (row:=row) rfl (sm _ _ hr') (al (λ_ _ z=>z.same sm) pe) (by omega) λr2 es2 H2 n2 s2 h2 p2=>?_⟩
   have hz2:=s2 _ _ hz
   have ra:r2 ≠ acc:=(ah hz n2).symm
   have k2:oT [acc] H2 (upd H2 acc (.lst (zs++[.ref r2]))):=oT.put hz2 (by simp)
   refine ⟨zs,hz2,by rw [sizeLine_eq]; omega,_,ac,by rw [length_append,length_singleton]; omega,_,rfl,(sm.trans s2).put hacc,?_⟩
   rw [take_add_one,er]
   refine aN ⟨r2,es2,rfl,sm.free n2,ra,by rw [ao ra]; exact h2,al (λv e z=>?_) p2⟩ (al (λ_ _=>RowF.keepA (av:=[acc]) (λa h=>.inl (by simpa using h)) ((oT.of s2).trans k2)) pz)
   obtain ⟨l,ts,rfl,nl,_,hl,pl⟩:=z
   have la:l ≠ acc:=(ah hz nl).symm
   exact ⟨l,ts,rfl,sm.free nl,la,by rw [ao la]; exact hl,pl.mono k2.1⟩
  ·rintro acc zs σ H1 hacc hz hzl ⟨u,rfl,sm,pz⟩
   rw [lw,take_length] at pz
   exact q acc zs H1 hacc sm hz pz
theorem lG:oW ["_law_prime_here", "_law_one", "_law_other"] ["_law_prime_here", "_law_one", "_law_other"] (am fg):=.i
theorem ok_added {f:Addr} {fd:FuncData} (F:Fun K "_law_added" "_law_added" fg f fd) (T:Blt mg) (qS:FnB P w K mg base 4 "_law_sum" fu):oY P w K mg base CX0 5 f fd ["_law_prime_here", "_law_one", "_law_other"] spAdded:=by
 refine F.o lG λ_ _ _ _ H _ Q _ hr h=>?_
 ·obtain ⟨r1,r2,P,es1,es2,row1,row2,rfl,hP,h1,p1,h2,p2,hl,hn,ok,q⟩:=h
  have l1:es1.length=row1.length:=Paired.length p1
  have l2:es2.length=row2.length:=Paired.length p2
  refine ⟨_,(ak (ar (by exact aO (N:=["_law_here", "_law_there", "_law_prime_here"]) (src:=[none,none,some 0]) rfl rfl rfl (by exact (dB K false false rfl rfl T.zip (aa (pv 1) (aa (pv 2) ae)))) (λ_ _ _=>by exact ⟨by exact (bw K (i:=0) (j:=1) rfl rfl nd_21 rfl rfl rfl rfl),aP,by exact (aq qS hr.m (aa (pv 2) (aa (ap kn (pv 0) (pv 1)) ae)))⟩)))),?_⟩
  refine ⟨_,rfl,_,rfl,r1,r2,rfl,⟨_,bJ (SqL.of h1)⟩,⟨_,bJ (SqL.of h2)⟩,i3 (P:=P) (rest:=[some (.int P)]) rfl (λi e=>∃ a b,row1[i]? = some a/\row2[i]? = some b/\o7 P (a++b) e) h1 h2 (by omega) (by omega) (λi v1 v2 H1 R e1 e2 sm k=>?_) λd es row H1 nd sm hd pr lr rel=>q d es row H1 nd sm hd pr (by omega) rel⟩
  obtain ⟨a,ea,la,ts1,rfl,ha,pa⟩:=aC p1 e1
  obtain ⟨b,eb,lb,ts2,rfl,hb,pb⟩:=aC p2 e2
  obtain ⟨n1,o1⟩:=ok i a b ea eb
  have m1:ts1.length=a.length:=Paired.length pa
  have m2:ts2.length=b.length:=Paired.length pb
  refine ⟨_,rfl,_,rfl,_,rfl,la,lb,ts1,ts2,rfl,rfl,sm _ _ ha,sm _ _ hb,by rw [sizeLine_eq]; omega,λc nc=>?_⟩
  have s1:=oS.new (o:=.lst (ts1++ts2)) nc
  have sm1:=sm.trans s1
  exact ⟨c,P,_,a++b,rfl,hP,ac,oV.app (pb.mono λt xs e=>sm1 _ _ e) (pa.mono λt xs e=>sm1 _ _ e),by rw [length_append]; exact n1,o1,λd rs out H2 nd s2 hd po is=>k d rs out H2 (s1.trans s2) (s1.free nd) hd po ⟨a,b,ea,eb,is⟩⟩
theorem nd_22:(["_law_entry", "_law_prime_here", "_law_letters"]:List Str).Nodup:=by decide +kernel
theorem nd_23:(["_law_product_here", "_law_number_here", "_law_column"]:List Str).Nodup:=by decide +kernel
def dL (ns:List Int):PyData:=.list (ns.map .int)
theorem dr_dL {K:Frag} {H:Hp} {l:Addr} {ns:List Int} (h:H l=some (.lst (ns.map V.int))):DR K H (dL ns) (.ref l):=.lst (SqL.of h) (kQ ns)
theorem mj (ns:List Int):SeqAt.shaped (dL ns)=true:=by
 simp [dL,SeqAt.shaped,PyData.canLay0,PyData.depth,PySem.W.ke_canLayAll0,PySem.W.ke_depthAll]
theorem eqv_dL (ns ms:List Int):PyData.eqv (dL ns) (dL ms)=decide (ns=ms):=by
 simp only [dL,PyData.eqv]; exact fX ns ms
def dI:List Int->List (List aj)->List Int
 | c::cs,e::r=>e.map (λq=>c+q.1.sum)++dI cs r
 | _,_=>[]
theorem lh {c:Int} {e:List aj}:∀ {cs:List Int} {r:List (List aj)},cs.length=r.length->dI (cs++[c]) (r++[e])=dI cs r++e.map (λq=>c+q.1.sum)
 | [],[],_=>by simp [dI]
 | [],_::_,h=>by simp at h
 | _::_,[],h=>by simp at h
 | d::cs,f::r,h=>by
  show f.map (λq=>d+q.1.sum)++dI (cs++[c]) (r++[e])=f.map (λq=>d+q.1.sum)++dI cs r++_
  rw [lh (by simpa using h),append_assoc]
theorem mH {n:Nat}:∀ (cs:List Int) (r:List (List aj)),(∀ e ∈ r,e.length<=n)->(dI cs r).length<=n*r.length
 | [],_,_=>by simp [dI]
 | _::_,[],_=>by simp [dI]
 | d::cs,f::r,h=>by
  have z:=mH cs r λe he=>h e (by simp [he])
  have zf:=h f (by simp)
  show (f.map (λq=>d+q.1.sum)++dI cs r).length<=_
  rw [length_append,length_map,length_cons,Nat.mul_succ]
  omega
theorem mL {h:Int}:∀ {cs:List Int} {r:List (List aj)},Paired (λc e=>∀ q ∈ e,q.1.sum+c=h) cs r->∀ x ∈ dI cs r,x=h
 | _,_,.nil,x,hx=>by cases hx
 | c::cs,e::r,.cons q t,x,hx=>by
  rcases List.mem_append.mp (show x ∈ e.map (λq=>c+q.1.sum)++dI cs r from hx) with z | z
  ·obtain ⟨p,hp,rfl⟩:=List.mem_map.mp z
   have:=q p hp
   omega
  ·exact mL t x z
def RowG (P L:Int) (cs:List Int) (row:List (List aj)):Prop:=(∀ e ∈ row,o8 P L 2900 e/\e.length<=60)/\∃ h:Int,Paired (λc e=>∀ q ∈ e,q.1.sum+c=h) cs row
def kY:Sp:=λvs H Q _=>∃ (c l:Addr) (P L:Int) (cs:List Int) (xs:List V) (row:List (List aj)),vs=[.int P,.int L,.ref c,.ref l]/\oU P/\L<=4/\H c=some (.lst (cs.map V.int))/\cs.length<=60/\H l=some (.lst xs)/\Paired (pA P H) xs row/\RowG P L cs row/\∀ H',oS H H'->Q (.bl true) H'
theorem pU:oW ["_law_prime_here", "_law_letters", "_law_columns_here", "_law_found", "_law_levels", "_law_column", "_law_entry"] ["_law_prime_here", "_law_letters", "_law_columns_here", "_law_found"] (am df):=.i
set_option maxHeartbeats 1000000 in
theorem ok_rowlikeT {f:Addr} {fd:FuncData} (F:Fun K "_law_row_like" "_law_row_like" df f fd) (T:Blt mg) (tQ:FnB P w K mg base 5 "_law_sum_like" (spSLike K)):oY P w K mg base CX0 6 f fd ["_law_prime_here", "_law_letters", "_law_columns_here", "_law_found"] kY:=by
 refine F.o pU λ_ _ _ _ H _ Q _ hr h=>?_
 ·obtain ⟨c,l,P,L,cs,xs,row,rfl,hP,L4,hc,hcl,hl,pe,⟨ok,h,lv⟩,q⟩:=h
  refine ⟨_,(ag (aH (PW.pt (fH (cE (bR (gS K T (pv 3) T.list gY))) (ft (aw mM (bq K T (pv 3)) (bq K T (pv 2)) (ay _)))))
(ak (ar bV))
aA)
(ag (aH (cE (bR (jO K T (by exact aO (N:=["_law_entry", "_law_prime_here", "_law_letters"]) (src:=[none,some 0,some 1]) rfl rfl rfl (by exact (aG K rfl (pv 3))) (λ_ _ _=>by exact ⟨by exact (bP (i:=0) nd_22 rfl rfl),aP,by exact (aq tQ hr.m (aa (pv 1) (aa (pv 2) (aa (pv 0) ae))))⟩)) false)))
(ak (ar bV))
aA)
(ag (au (i:=4) pU.nd rfl (Or.inl rfl) (aI ae))
(ag (bc PassesOwn.never rfl (dB K false false rfl rfl T.zip (aa (pv 2) (aa (pv 3) ae))) (gb rfl (by exact aK (by exact (aF (i:=5) pU.nd rfl (Or.inr rfl))) (by exact aK (by exact (aF (i:=6) pU.nd rfl (Or.inl rfl))) eA)))
(ak (bh (bmE K rfl (pv 4) (aa (by exact aO (N:=["_law_product_here", "_law_number_here", "_law_column"]) (src:=[none,none,some 5]) rfl rfl rfl (by exact (aG K rfl (pv 6))) (λ_ _ _=>by exact ⟨by exact (bw K (i:=0) (j:=1) rfl rfl nd_23 rfl rfl rfl rfl),aP,by exact (ap aL (pv 2) (iL K T (pv 0) true))⟩)) ae)))))
(ak (ar (pe_or (bZ (keqD K rfl hr.units) (pv 4) (aI ae) (ay _)) (jd (bZ bM (kpl_min1 T (pv 4) false) (j9 T (pv 4) false) (ay _)))))))))),?_⟩
  have lpc:row.length=cs.length:=(Paired.length lv).symm
  have lx:xs.length=row.length:=Paired.length pe
  have hlen:xs.length=cs.length:=lx.trans lpc
  refine ⟨_,rfl,_,true,.lst hl,rfl,_,rfl,br ?_⟩
  refine ⟨_,rfl,l,xs,rfl,.inl (SqL.of hl),_,rfl,c,_,rfl,.inl (SqL.of hc),rfl,_,rfl,?_⟩
  rw [show decide (V.int (xs.length:Int)=V.int ((cs.map V.int).length:Int))=true from decide_eq_true (by rw [length_map,hlen])]
  refine br ?_
  refine ⟨_,rfl,l,rfl,⟨_,SqL.of hl⟩,aX (n:=xs.length) (σ0:=[none,some (.int P),some (.int L)]) rfl (λacc i ws σ H'=>∃ u:Option V,σ=[u,some (.int P),some (.int L)]/\oS H H'/\ws=(List.replicate i true).map V.bl) (by rw [sizeLine_eq]; omega) (λacc hacc=>⟨none,rfl,oS.new hacc,rfl⟩) ?_ ?_ ?_ ?_⟩
  ·rintro acc i ws σ H' hacc hi hz ⟨u,rfl,sm,_⟩
   exact ⟨xs,xs[i],SqL.of (sm _ _ hl),by simp [hi]⟩
  ·rintro acc ws σ H' hacc hz ⟨u,rfl,sm,_⟩
   exact ⟨xs,SqL.of (sm _ _ hl),Nat.le_refl _⟩
  ·rintro acc i ws σ H1 y H' hacc hi hz hzl ⟨u,rfl,sm,rfl⟩ ⟨rfl,gx⟩
   have hy:=gx xs (SqL.of (sm _ _ hl))
   obtain ⟨e,ee,l1,ts,rfl,hl1,pe1⟩:=aC pe hy
   obtain ⟨ce,le⟩:=ok e (mem_of_getElem? ee)
   refine ⟨_,rfl,_,rfl,_,rfl,l1,P,L,ts,e,rfl,hP,sm _ _ hl1,pe1.mono λt xs e=>sm _ _ e,le,ce.sumOk (Nat.le_refl _),ce.self,λq hq=>⟨(ce.2 q hq).2.2.2.1,by have:=(ce.2 q hq).2.2.2.1; omega,(ce.2 q hq).2.2.2.2⟩,λH2 s2=>?_⟩
   refine ⟨_,s2 _ _ hz,by rw [length_map,length_replicate,sizeLine_eq]; omega,_,ac,by rw [length_append,length_map,length_replicate,length_singleton]; omega,_,rfl,(sm.trans s2).put hacc,?_⟩
   rw [List.replicate_succ',map_append]
   rfl
  rintro acc ws σ H1 hacc hz hzl ⟨u,rfl,sm,rfl⟩
  refine ⟨acc,_,rfl,bJ (SqL.of hz),_,rfl,?_⟩
  rw [show (List.replicate xs.length true).all id=true from List.all_eq_true.mpr λb hb=>List.eq_of_mem_replicate hb]
  refine br ⟨Nat.zero_le _,λd nd=>?_⟩
  have s2:=oS.new (o:=.lst []) nd
  have hd2:(upd H1 d (.lst [])) d=some (.lst []):=ac
  generalize upd H1 d (.lst [])=H2 at *
  have sm2:=sm.trans s2
  have l60:∀ e ∈ row,e.length<=60:=λe he=>(ok e he).2
  refine ⟨_,rfl,_,rfl,c,l,rfl,⟨_,bJ (SqL.of (sm2 _ _ hc))⟩,⟨_,bJ (SqL.of (sm2 _ _ hl))⟩,m8 (xs:=cs.map V.int) (ys:=xs) (λi σ H'=>∃ x5 x6:Option V,σ=[some (.int P),some (.int L),some (.ref c),some (.ref l),some (.ref d),x5,x6]/\oS H1 H'/\H' d=some (.lst ((dI (cs.take i) (row.take i)).map V.int))) ?_ ?_ ?_ ?_⟩
  ·exact ⟨none,none,rfl,s2,hd2⟩
  ·rintro i σ H3 hi ⟨x5,x6,rfl,s3,_⟩
   exact ⟨bJ (SqL.of (s3 _ _ (sm _ _ hc))),bJ (SqL.of (s3 _ _ (sm _ _ hl)))⟩
  ·rintro i x y σ H3 pp hx hy ⟨x5,x6,rfl,s3,hd3⟩ np
   obtain ⟨z,ez,rfl⟩:=cW hx
   obtain ⟨e,ee,l1,ts,rfl,hl1,pe1⟩:=aC pe hy
   have ln1:=l60 e (mem_of_getElem? ee)
   have s4:=oS.new (o:=.tup [.int z,.ref l1]) np
   have h4:(upd H3 pp (.tup [.int z,.ref l1])) pp=some (.tup [.int z,.ref l1]):=ac
   generalize upd H3 pp (.tup [.int z,.ref l1])=H4 at *
   have sm4:=(sm.trans s3).trans s4
   have hd4:=s4 _ _ hd3
   have lt:ts.length=e.length:=Paired.length pe1
   refine ⟨pp,_,rfl,SqT.of h4,rfl,_,_,rfl,_,_,rfl,rfl,?_⟩
   refine ⟨_,rfl,.inl ⟨rfl,_,SqL.of hd4⟩,?_⟩
   refine ⟨_,rfl,l1,rfl,⟨_,SqL.of (sm4 _ _ hl1)⟩,aX (n:=ts.length) (σ0:=[none,none,some (.int z)]) rfl (λacc j ws σ H'=>∃ u v:Option V,σ=[u,v,some (.int z)]/\oS H4 H'/\ws=((e.take j).map (λq=>z+q.1.sum)).map V.int) (by rw [sizeLine_eq]; omega) (λacc hacc=>⟨none,none,rfl,oS.new hacc,rfl⟩) ?_ ?_ ?_ ?_⟩
   ·rintro acc j ws σ H' hacc hj hz ⟨u,v,rfl,s5,_⟩
    exact ⟨ts,ts[j],SqL.of (s5 _ _ (sm4 _ _ hl1)),by simp [hj]⟩
   ·rintro acc ws σ H' hacc hz ⟨u,v,rfl,s5,_⟩
    exact ⟨ts,SqL.of (s5 _ _ (sm4 _ _ hl1)),Nat.le_refl _⟩
   ·rintro acc j ws σ H5 y H' hacc hj hz hzl ⟨u,v,rfl,s5,rfl⟩ ⟨rfl,gx⟩
    have hy:=gx ts (SqL.of (s5 _ _ (sm4 _ _ hl1)))
    obtain ⟨q0,eq0,t0,k0,u0,rfl,g1,g2,g3⟩:=pe1.at_ hy
    have sm5:=sm4.trans s5
    refine ⟨t0,_,rfl,SqT.of (sm5 _ _ g1),rfl,_,_,rfl,_,_,rfl,rfl,?_⟩
    refine ⟨_,rfl,_,rfl,k0,_,rfl,ji (SqT.of (sm5 _ _ g2)),_,_,rfl,rfl,?_⟩
    refine ⟨_,hz,by rw [length_map,length_map,length_take,sizeLine_eq]; omega,_,ac,by rw [length_append,length_map,length_map,length_take,length_singleton]; omega,_,_,rfl,s5.put hacc,?_⟩
    rw [take_add_one,eq0,map_append,map_append]
    rfl
   ·rintro acc ws σ H5 hacc hz hzl ⟨u,v,rfl,s5,rfl⟩
    rw [take_of_length_le (by omega)] at hz
    have hd5:=s5 _ _ hd4
    have ll:=mH (n:=60) (cs.take i) (row.take i) λe he=>l60 e (mem_of_mem_take he)
    have lt2:(row.take i).length<=60:=by rw [length_take]; omega
    have lll:60*(row.take i).length<=60*60:=Nat.mul_le_mul_left _ lt2
    refine ⟨d,acc,_,_,rfl,rfl,hd5,hz,by rw [length_map,length_map,length_map,sizeLine_eq]; omega,?_⟩
    refine ⟨_,_,rfl,λc o e=>?_,?_⟩
    ·rw [ao (ah e nd)]
     exact s5 _ _ (s4 _ _ (s3 _ _ e))
    ·rw [ac,take_add_one,take_add_one,ez,ee]
     rw [show cs.take i++(some z).toList=cs.take i++[z] from rfl,show row.take i++(some e).toList=row.take i++[e] from rfl,lh (by rw [length_take,length_take,lpc]),map_append]
  ·rintro σ H3 ⟨x5,x6,rfl,s3,hd3⟩
   have em:min (cs.map V.int).length xs.length=cs.length:=by rw [length_map,hlen,Nat.min_self]
   rw [em,take_length,<- lpc,take_length] at hd3
   refine ⟨_,rfl,Nat.zero_le _,λl4 n4=>?_⟩
   have s4:=oS.new (o:=.lst []) n4
   have h4:(upd H3 l4 (.lst [])) l4=some (.lst []):=ac
   generalize upd H3 l4 (.lst [])=H4 at *
   have hd4:=s4 _ _ hd3
   refine ⟨dL (dI cs row),dL [],dr_dL hd4,dr_dL h4,mj _,mj _,_,rfl,?_⟩
   rw [eqv_dL]
   have z:=q H4 ((sm.trans s3).trans s4)
   have all:=mL lv
   by_cases hne:dI cs row=[]
   ·rw [decide_eq_true hne]
    exact bF z
   ·rw [decide_eq_false hne]
    refine br ⟨_,rfl,d,_,rfl,bJ (SqL.of hd4),hne,λm hm h1=>⟨_,rfl,d,_,rfl,bJ (SqL.of hd4),hne,λM hM h2=>⟨rfl,?_⟩⟩⟩
    rw [all m hm,all M hM,decide_eq_true rfl]
    exact z
def dR (P:Int) (row:List (List aj)):PyData:=.list (row.map (dS P))
def dRs (P:Int) (rows:List (List (List aj))):PyData:=.list (rows.map (dR P))
def Lay (n:Nat) (d:PyData):Prop:=d.canLay0=true/\d.depth<=n
theorem lay_all {n:Nat}:∀ {ds:List PyData},(∀ d ∈ ds,Lay n d)->PyData.canLayAll0 ds=true/\PyData.depthAll ds<=n
 | [],_=>⟨rfl,by simp [PyData.depthAll]⟩
 | d::r,h=>by
  obtain ⟨a,b⟩:=h d mem_cons_self
  obtain ⟨c,e⟩:=lay_all λd hd=>h d (mem_cons_of_mem _ hd)
  refine ⟨by simp only [PyData.canLayAll0,a,c,Bool.and_true],?_⟩
  simp only [PyData.depthAll]
  omega
theorem ip {n:Nat} {ds:List PyData} (h:∀ d ∈ ds,Lay n d):Lay (n+1) (.list ds):=by
 obtain ⟨a,b⟩:=lay_all h
 refine ⟨by simp only [PyData.canLay0,a],?_⟩
 simp only [PyData.depth]
 omega
theorem Lay.mono {m n:Nat} {d:PyData} (h:Lay m d) (k:m<=n):Lay n d:=⟨h.1,Nat.le_trans h.2 k⟩
theorem Lay.sh {n:Nat} {d:PyData} (h:Lay n d) (k:n<=64):SeqAt.shaped d=true:=by
 unfold SeqAt.shaped
 rw [Bool.and_eq_true]
 exact ⟨h.1,decide_eq_true (Nat.le_trans h.2 k)⟩
theorem lay_dS (P:Int) (e:List aj):Lay 3 (dS P e):=ip λd hd=>by
 obtain ⟨p,_,rfl⟩:=List.mem_map.mp hd
 exact dP_ok P p
theorem eJ (P:Int) (row:List (List aj)):Lay 4 (dR P row):=ip λd hd=>by
 obtain ⟨p,_,rfl⟩:=List.mem_map.mp hd
 exact lay_dS P p
theorem lay_dRs (P:Int) (rows:List (List (List aj))):Lay 5 (dRs P rows):=ip λd hd=>by
 obtain ⟨p,_,rfl⟩:=List.mem_map.mp hd
 exact eJ P p
theorem drs_ents {K:Frag} {P:Int} {H:Hp}:∀ {es:List V} {row:List (List aj)},Paired (pA P H) es row->DRs K H (row.map (dS P)) es
 | _,_,.nil=>.nil
 | _,_,.cons ⟨l,ts,e,h1,h2⟩ r=>by
  rw [e]
  exact .cons (gc h1 h2) (drs_ents r)
theorem fQ {K:Frag} {P:Int} {H:Hp} {r:Addr} {es:List V} {row:List (List aj)} (hr:H r=some (.lst es)) (h:Paired (pA P H) es row):DR K H (dR P row) (.ref r):=.lst (SqL.of hr) (drs_ents h)
theorem dr_row {K:Frag} {P:Int} {H:Hp} {v:V} {row:List (List aj)} (h:pM P H v row):DR K H (dR P row) v:=by
 obtain ⟨r,es,rfl,hr,pe⟩:=h
 exact fQ hr pe
theorem drs_rows {K:Frag} {P:Int} {H:Hp}:∀ {ws:List V} {rows:List (List (List aj))},Paired (pM P H) ws rows->DRs K H (rows.map (dR P)) ws
 | _,_,.nil=>.nil
 | _,_,.cons q r=>.cons (dr_row q) (drs_rows r)
theorem oA {K:Frag} {P:Int} {H:Hp} {r:Addr} {ws:List V} {rows:List (List (List aj))} (hr:H r=some (.lst ws)) (h:Paired (pM P H) ws rows):DR K H (dRs P rows) (.ref r):=.lst (SqL.of hr) (drs_rows h)
theorem ir {n:Nat} {d:PyData} (h:Lay n d):PyData.eqv d d=true:=SeqAt.eqv_refl d h.1
theorem cT {α β:Type} {R:α->β->Prop}:∀ {xs:List α} {ys:List β},xs.length=ys.length->(∀ (i:Nat) x y,xs[i]? = some x->ys[i]? = some y->R x y)->Paired R xs ys
 | [],[],_,_=>.nil
 | [],_::_,h,_=>by simp at h
 | _::_,[],h,_=>by simp at h
 | x::xs,y::ys,h,f=>.cons (f 0 x y rfl rfl) (cT (by simpa using h) λi a b ea eb=>f (i+1) a b ea eb)
theorem iY {α:Type} {a b:List α} (hl:a.length=b.length) (h:∀ (i:Nat) x y,a[i]? = some x->b[i]? = some y->x=y):a=b:=by
 refine List.ext_getElem? λi=>?_
 by_cases hi:i<a.length
 ·rw [getElem?_eq_getElem hi,getElem?_eq_getElem (by omega)]
  exact congrArg some (h i _ _ (getElem?_eq_getElem hi) (getElem?_eq_getElem (by omega)))
 ·rw [getElem?_eq_none (by omega),getElem?_eq_none (by omega)]
theorem ik {α:Type} {xs:List α} {i:Nat} (h:i<xs.length):∃ x,xs[i]? = some x:=⟨_,getElem?_eq_getElem h⟩
theorem lt_of {α:Type} {xs:List α} {i:Nat} {x:α} (h:xs[i]? = some x):i<xs.length:=(List.getElem?_eq_some_iff.mp h).1
theorem plus_ok {P L h:Int} (hP:oU P) {cs:List Int} {one oth:List (List aj)} (p1:Paired (hV P L h) cs one) (p2:Paired (hV P L h) cs oth) (i:Nat) (a b:List aj) (ea:one[i]? = some a) (eb:oth[i]? = some b) :
  a.length+b.length<=60/\bO P (a++b)/\(∀ p ∈ b,OkN P p.2/\Sz 2900 p.2)/\bO P (a++scl P (cq P (1,1)) b):=by
 have hB:=hP.b
 have l1:cs.length=one.length:=Paired.length p1
 have hi:=lt_of ea
 obtain ⟨c,ec⟩:=ik (xs:=cs) (i:=i) (by omega)
 have k1:hV P L h c a:=aV p1 ec ea
 have k2:hV P L h c b:=aV p2 ec eb
 have cn:=gI hP k2.1 (by decide)
 have two:∀ {b':List aj},o8 P L 45 b'->bO P (a++b'):=λ{b'} cb=>jj hP k1.1.nodup cb.nodup (λq hq=>⟨(k1.1.2 q hq).1,(k1.1.2 q hq).2.1⟩) (λq hq=>⟨(cb.2 q hq).1,(cb.2 q hq).2.1⟩) (by decide) (by decide) (by decide) (by decide) λk u v hu hv=>(dC hB.1 hB.2.1 (k1.1.2 _ hu).1 (cb.2 _ hv).1 (k1.1.2 _ hu).2.1 (cb.2 _ hv).2.1 (by decide)).1.mono (by decide)
 have:=k1.2.1
 have:=k2.2.1
 exact ⟨by omega,two k2.1,λp hp=>⟨(k2.1.2 p hp).1,(k2.1.2 p hp).2.1.mono (by decide)⟩,two cn⟩
theorem plus_rowG {P L h:Int} (hP:oU P) {cs:List Int} {one oth out:List (List aj)} (p1:Paired (hV P L h) cs one) (p2:Paired (hV P L h) cs oth) (lo:out.length=one.length) (rel:∀ (i:Nat) (e:List aj),out[i]? = some e->∃ a b,one[i]? = some a/\oth[i]? = some b/\o7 P (a++b) e):RowG P L cs out:=by
 have l1:cs.length=one.length:=Paired.length p1
 have key:∀ (i:Nat) (c:Int) (e:List aj),cs[i]? = some c->out[i]? = some e->o8 P L 91 e/\e.length<=6/\∀ q ∈ e,q.1.sum+c=h:=λi c e ec ee=>by
  obtain ⟨a,b,ea,eb,is⟩:=rel i e ee
  have k1:hV P L h c a:=aV p1 ec ea
  have k2:hV P L h c b:=aV p2 ec eb
  obtain ⟨cn,ln⟩:=eP hP k1.1 k2.1 (by decide) is
  have:=k1.2.1
  have:=k2.2.1
  refine ⟨cn,by omega,λq hq=>?_⟩
  obtain ⟨r,hr,er⟩:=fZ q (is.mem q hq)
  rw [<- er]
  rcases List.mem_append.mp hr with z | z
  ·exact k1.2.2 r z
  ·exact k2.2.2 r z
 refine ⟨λe he=>?_,h,cT (by omega) λi c e ec ee=>(key i c e ec ee).2.2⟩
 obtain ⟨i,hi,rfl⟩:=getElem_of_mem he
 obtain ⟨c,ec⟩:=ik (xs:=cs) (i:=i) (by omega)
 obtain ⟨x,y,_⟩:=key i c _ ec (getElem?_eq_getElem hi)
 exact ⟨x.mono (by decide),by omega⟩
theorem times_rowG {P L h:Int} (hP:oU P) {cs:List Int} {one out:List (List aj)} {m:List aj} (p1:Paired (hV P L h) cs one) (cm:o8 P L 30 m) (lm:m.length<=2) (dm:∀ q ∈ m,q.1.sum=2) (lo:out.length=one.length) (rel:∀ (i:Nat) (e:List aj),out[i]? = some e->∃ a,one[i]? = some a/\o7 P (aW P a m) e):RowG P L cs out:=by
 have l1:cs.length=one.length:=Paired.length p1
 have key:∀ (i:Nat) (c:Int) (e:List aj),cs[i]? = some c->out[i]? = some e->o8 P L 154 e/\e.length<=6/\∀ q ∈ e,q.1.sum+c=h+2:=λi c e ec ee=>by
  obtain ⟨a,ea,is⟩:=rel i e ee
  have k1:hV P L h c a:=aV p1 ec ea
  obtain ⟨cn,ln,dg⟩:=(gD hP (n:=2) (by decide) k1.1 cm lm (by decide) (by decide)).2 e is
  have l6:a.length*m.length<=3*2:=Nat.mul_le_mul k1.2.1 lm
  refine ⟨cn,by omega,λq hq=>?_⟩
  obtain ⟨u,hu,v,hv,e⟩:=dg q hq
  have:=k1.2.2 u hu
  have:=dm v hv
  omega
 refine ⟨λe he=>?_,h+2,cT (by omega) λi c e ec ee=>(key i c e ec ee).2.2⟩
 obtain ⟨i,hi,rfl⟩:=getElem_of_mem he
 obtain ⟨c,ec⟩:=ik (xs:=cs) (i:=i) (by omega)
 obtain ⟨x,y,_⟩:=key i c _ ec (getElem?_eq_getElem hi)
 exact ⟨x.mono (by decide),by omega⟩
theorem mixC_of {P L h:Int} {cs:List Int} {rows:List (List (List aj))} {ms:List (List aj)} (l5:rows.length<=5) (ok:∀ row ∈ rows,pO P L 200 cs row) (pm:Paired (lM P L h cs) rows ms):MixC P L cs.length rows ms:=by
 refine ⟨Paired.length pm,l5,λrow hr=>?_,λm hm=>?_⟩
 ·obtain ⟨ht,pe,_⟩:=ok row hr
  refine ⟨(Paired.length pe).symm,λe he=>?_⟩
  obtain ⟨i,hi,rfl⟩:=getElem_of_mem he
  have lr:cs.length=row.length:=Paired.length pe
  obtain ⟨c,ec⟩:=ik (xs:=cs) (i:=i) (by omega)
  have k:pB P L 200 ht c _:=aV pe ec (getElem?_eq_getElem hi)
  exact ⟨k.1,k.2.1⟩
 ·obtain ⟨i,hi,rfl⟩:=getElem_of_mem hm
  have lr:rows.length=ms.length:=Paired.length pm
  obtain ⟨r,er⟩:=ik (xs:=rows) (i:=i) (by omega)
  have k:lM P L h cs r _:=aV pm er (getElem?_eq_getElem hi)
  exact ⟨k.1,k.2.1⟩
theorem mix_rowG {P L h:Int} (hP:oU P) {cs:List Int} {rows:List (List (List aj))} {ms out due:List (List aj)} (l5:rows.length<=5) (ok:∀ row ∈ rows,pO P L 200 cs row) (pm:Paired (lM P L h cs) rows ms) (lo:out.length=cs.length) (ld:due.length=cs.length) (rel:∀ (i:Nat) (e:List aj),out[i]? = some e->o7 P (vm P (tat i rows ms)) e) (rd:∀ (i:Nat) (e:List aj),due[i]? = some e->MixE P L i rows.length rows ms e):out=due/\RowG P L cs out:=by
 have lrm:rows.length=ms.length:=Paired.length pm
 have eq:out=due:=iY (by omega) λi a b ea eb=>by
  have ia:=rel i a ea
  obtain ⟨cb,_,co⟩:=rd i b eb
  rw [vm_tat] at ia
  refine isSum_is ia cb.1 (λp hp=>(cb.2 p hp).2.2.1) λk=>?_
  rw [co k,take_length,lrm,take_length]
 refine ⟨eq,λe he=>?_,h,cT (by omega) λi c e ec ee q hq=>?_⟩
 ·rw [eq] at he
  obtain ⟨i,hi,rfl⟩:=getElem_of_mem he
  obtain ⟨cb,lb,_⟩:=rd i _ (getElem?_eq_getElem hi)
  exact ⟨cb.mono (by omega),by omega⟩
 ·have is:=rel i e ee
  rw [vm_tat] at is
  obtain ⟨r,hr,er⟩:=fZ q (is.mem q hq)
  rw [<- er]
  obtain ⟨⟨row,m⟩,hz,hp⟩:=List.mem_flatMap.mp hr
  obtain ⟨j,hj,ej⟩:=getElem_of_mem hz
  rw [List.length_zip] at hj
  rw [List.getElem_zip] at ej
  injection ej with e1 e2
  have k:lM P L h cs row m:=aV pm (i:=j) (by rw [getElem?_eq_getElem (by omega),e1]) (by rw [getElem?_eq_getElem (by omega),e2])
  obtain ⟨cm,_,ht,pe,dm⟩:=k
  have lr:cs.length=row.length:=Paired.length pe
  have hi:=lt_of ec
  have hp:r ∈ aW P (row.getD i []) m:=hp
  rw [show row.getD i []=row[i] by rw [getD_eq_getElem?_getD,getElem?_eq_getElem (by omega)]; rfl] at hp
  have ke:pB P L 200 ht c row[i]:=aV pe ec (getElem?_eq_getElem (by omega))
  obtain ⟨_,_,_,_,u,hu,v,hv,es⟩:=eC hP (y:=200) (by decide) ke.1 cm r hp
  have:=(ke.2.2 u hu).1
  have:=dm v hv
  omega
theorem kD {H0:Hp} {r:Addr} {P:Int} {H:Hp} {es:List V} {row:List (List aj)} (p:Paired (oZ H0 r P H) es row) (h1:1<=row.length) (hn:∀ e ∈ row,e.length<=60):∃ e rs ts,es=.ref e::rs/\H0 e=none/\e ≠ r/\H e=some (.lst ts)/\ts.length<=60:=by
 cases p with
 | nil=>simp at h1
 | cons q t=>
  obtain ⟨l,ts,rfl,h0,lr,hl,pl⟩:=q
  exact ⟨l,_,ts,rfl,h0,lr,hl,by rw [Paired.length pl]; exact hn _ mem_cons_self⟩
theorem nd_24:(["_law_row", "_law_prime_here", "_law_letters", "_law_columns_here"]:List Str).Nodup:=by decide +kernel
theorem nd_25:(["_law_column"]:List Str).Nodup:=by decide +kernel
def spGood:Sp:=λvs H Q _=>∃ (p c rw:Addr) (P L a b:Int) (k:Nat) (cs:List Int) (ws:List V) (rows:List (List (List aj))),vs=[.int P,.int L,.ref c,.ref rw,.ref p]/\oU P/\1<=L/\L<=4/\H c=some (.lst (cs.map V.int))/\c ≠ p/\1<=cs.length/\cs.length<=3/\(∀ x ∈ cs,-18<=x/\x<=21)/\H rw=some (.lst ws)/\rw ≠ p/\Paired (RowA [p] P H) ws rows/\rows.length<=5/\(∀ row ∈ rows,pO P L 200 cs row)/\H p=some (.lst [.int a,.int b])/\pc a b k/\k<=1000/\
 ∀ H',(∀ c o,H c=some o->c ≠ p->H' c=some o)->Q (.bl true) H'
theorem o9:oW ["_law_prime_here", "_law_letters", "_law_columns_here", "_law_rows", "_law_bag_here", "_law_ring_here", "_law_height", "_law_one", "_law_other", "_law_by", "_law_k", "_law_multiples_here", "_law_handed", "_law_due", "_law_turn", "_law_found", "_law_row"] ["_law_prime_here", "_law_letters", "_law_columns_here", "_law_rows", "_law_bag_here"] (am de):=.i
set_option maxHeartbeats 4000000 in
theorem ok_good {f CF CR CG qW:Addr} {fd:FuncData} (F:Fun K "_law_one_good" "_law_one_good" de f fd) (T:Blt mg) (vx:FnBX P w K mg base 5 "_law_ring" (nF CF CR CG qW)) (qO:FnB P w K mg base 1 "_law_take" cw) (rP:FnB P w K mg base 5 "_law_spread_row" spSpread) (qT:FnB P w K mg base 2 "_law_product" i6) (qU:FnB P w K mg base 4 "_law_number" dD) (qS:FnB P w K mg base 4 "_law_sum" fu) (sZ:FnB P w K mg base 5 "_law_multiples" ju) (sk:FnB P w K mg base 1 "_law_copied" spCopied) (uS:FnB P w K mg base 5 "_law_added" spAdded) (qX:FnB P w K mg base 5 "_law_sum_times" iM) (uT:FnB P w K mg base 6 "_law_mixed" spMixed)
  (tR:FnB P w K mg base 6 "_law_row_like" kY) (uO:FnB P w K mg base 7 "row_plus" (lS CF CR CG)) (vy:FnB P w K mg base 8 "row_minus" (j7 CF CR CG)) (vz:FnB P w K mg base 8 "row_times" (k9 CF CR CG)) (vA:FnB P w K mg base 7 "mixture" (spMix CF CR CG)) :
  oY P w K mg base CX0 9 f fd ["_law_prime_here", "_law_letters", "_law_columns_here", "_law_rows", "_law_bag_here"] spGood:=by
 refine F.o o9 λ_ _ _ _ H _ Q _ hr h=>?_
 ·obtain ⟨p,c,rw,P,L,a,b,k,cs,ws,rows,rfl,hP,L1,L4,hc,cp,c1,c3,ccs,hrw,rwp,prw,l5,okr,hp,hb,hk,q⟩:=h
  have hB:=hP.b
  refine ⟨_,(ag (au (i:=5) o9.nd rfl (Or.inl rfl) (pe_fnX vx hr.m dO (aa (pv 0) (aa (pv 1) ae))))
(ag (au (i:=6) o9.nd rfl (Or.inl rfl) (ap aL (kpl_min1 T (pv 2) false) (aq qO hr.m (aa (pv 4) (aa af ae)))))
(ag (au (i:=7) o9.nd rfl (Or.inl rfl) (aq rP hr.m (aa (pv 0) (aa (pv 1) (aa (pv 2) (aa (pv 6) (aa (pv 4) ae)))))))
(ag (au (i:=8) o9.nd rfl (Or.inl rfl) (aq rP hr.m (aa (pv 0) (aa (pv 1) (aa (pv 2) (aa (pv 6) (aa (pv 4) ae)))))))
(ag (au (i:=9) o9.nd rfl (Or.inr rfl) (aI ae))
(ag (bc PassesOwn.never rfl (ba rfl T.range (aa af ae)) (aF (i:=10) o9.nd rfl (Or.inl rfl))
(ak (bh (bmA K rfl (pv 9) (aa (aT (aa (aq qT hr.m (aa (pv 1) (aa af (aa (pv 4) ae)))) (aa (aq qU hr.m (aa (pv 0) (aa (pv 4) (aa bV ae)))) ae))) ae)))))
(ag (au (i:=9) o9.nd rfl (Or.inr rfl) (aq qS hr.m (aa (pv 0) (aa (pv 9) ae))))
(ag (au (i:=11) o9.nd rfl (Or.inl rfl) (aq sZ hr.m (aa (pv 0) (aa (pv 1) (aa (pv 2) (aa (pv 3) (aa (pv 6) (aa (pv 4) ae))))))))
(ag (au (i:=12) o9.nd rfl (Or.inl rfl) (ap kn (aq sk hr.m (aa (aI (aa (pv 7) (aa (pv 8) ae))) ae)) (aI (aa (kl K T (pv 9)) ae))))
(ag (bh (bmA K rfl (pv 12) (aa (aB (aE K rfl) (aq sk hr.m (aa (aI (aa (pv 11) ae)) ae)) af (λ_ _=>rfl)) ae)))
(ag (bh (bmA K rfl (pv 12) (aa (aq sk hr.m (aa (pv 3) ae)) ae)))
(ag (au (i:=13) o9.nd rfl (Or.inl rfl) (aI (aa (aq uS hr.m (aa (pv 0) (aa (pv 7) (aa (pv 8) ae)))) ae)))
(ag (bh (bmA K rfl (pv 13) (aa (by exact aO (N:=["_law_entry", "_law_prime_here", "_law_by"]) (src:=[none,some 0,some 9]) rfl rfl rfl (by exact (aG K rfl (pv 7))) (λ_ _ _=>by exact ⟨by exact (bP (i:=0) nd_10 rfl rfl),aP,by exact (aq qX hr.m (aa (pv 1) (aa (pv 0) (aa (pv 2) ae))))⟩)) ae)))
(ag (bh (bmA K rfl (pv 13) (aa (aq uT hr.m (aa (pv 0) (aa (bq K T (pv 2)) (aa (pv 3) (aa (pv 11) ae))))) ae)))
(ag (bc PassesOwn.never rfl (ba rfl T.range (aa af ae)) (aF (i:=14) o9.nd rfl (Or.inl rfl))
(ag (au (i:=15) o9.nd rfl (Or.inl rfl) (aI (aa (aq uO hr.m (aa (pv 5) (aa (aB (aE K rfl) (pv 12) af (λ_ _=>rfl)) (aa (aB (aE K rfl) (pv 12) af (λ_ _=>rfl)) ae)))) (aa (aq vz hr.m (aa (pv 5) (aa (aB (aE K rfl) (pv 12) af (λ_ _=>rfl)) (aa (aB (aE K rfl) (pv 12) af (λ_ _=>rfl)) ae)))) ae))))
(ag (bh (bmA K rfl (pv 15) (aa (aq vA hr.m (aa (pv 5) (aa (bq K T (pv 2)) (aa (aB (aE K rfl) (pv 12) af (λ_ _=>rfl)) (aa (aB (aE K rfl) (pv 12) af (λ_ _=>rfl)) ae))))) ae)))
(ag (aH (aw (kneD K rfl hr.units) (pv 15) (pv 13) (ay _))
(ak (ar bV))
aA)
(ag (aH (cE (bR (jO K T (by exact aO (N:=["_law_row", "_law_prime_here", "_law_letters", "_law_columns_here"]) (src:=[none,some 0,some 1,some 2]) rfl rfl rfl (by exact (aG K rfl (pv 15))) (λ_ _ _=>by exact ⟨by exact (bP (i:=0) nd_24 rfl rfl),aP,by exact (aq tR hr.m (aa (pv 1) (aa (pv 2) (aa (pv 3) (aa (pv 0) ae)))))⟩)) false)))
(ak (ar bV))
aA)
(ag (aH (aw (kneD K rfl hr.units) (pv 12) (aI (aa (pv 7) (aa (pv 8) (aa (pv 9) (aa (pv 11) (aa (pv 3) ae)))))) (ay _))
(ak (ar bV))
aA)
(ag (aH (aw (kneD K rfl hr.units) (aq uO hr.m (aa (pv 5) (aa (aq vy hr.m (aa (pv 5) (aa (pv 7) (aa (pv 8) ae)))) (aa (pv 8) ae)))) (pv 7) (ay _))
(ak (ar bV))
aA)
(ak (bc PassesOwn.never rfl (aG K rfl (pv 15)) (aF (i:=16) o9.nd rfl (Or.inl rfl))
(ak (bh (bmA K rfl (aB (aE K rfl) (pv 16) af (λ_ _=>rfl)) (aa pe_non ae)))))))))))))
(ak (ar (bZ (keqD K rfl hr.units) (aq vA hr.m (aa (pv 5) (aa (bq K T (pv 2)) (aa (aI ae) (aa (aI ae) ae))))) (by exact aO (N:=["_law_column"]) (src:=[none]) rfl rfl rfl (by exact (aG K rfl (pv 2))) (λ_ _ _=>by exact ⟨by exact (bP (i:=0) nd_25 rfl rfl),aP,by exact (aI ae)⟩)) (ay _))))))))))))))))))),?_⟩
  refine sq8 λR0 hR0=>?_
  refine ⟨_,rfl,_,rfl,P,L,rfl,hP,λhL=>absurd ⟨L1,L4⟩ hL,λ_ _ g x H1 s1 hN hG=>?_⟩
  obtain ⟨dxg,hg⟩:=hG
  have cne:cs ≠ []:=by intro z; rw [z] at c1; simp at c1
  refine ⟨_,rfl,c,cs,rfl,bJ (SqL.of (s1 _ _ hc)),cne,λmn hmn hle=>?_⟩
  have hp1:=s1 _ _ hp
  refine ⟨_,rfl,p,a,b,_,k,rfl,hp1,hb,by omega,by omega,aD (by omega) (by omega),λr1 a1 b1 r10 r11 hb1=>⟨_,_,rfl,rfl,?_⟩⟩
  have k2:∀ c o,H1 c=some o->c ≠ p->upd H1 p (.lst [.int a1,.int b1]) c=some o:=λc o e hc=>by rw [ao hc]; exact e
  have hp2:(upd H1 p (.lst [.int a1,.int b1])) p=some (.lst [.int a1,.int b1]):=ac
  generalize upd H1 p (.lst [.int a1,.int b1])=H2 at *
  have hc1:=s1 _ _ hc
  refine ⟨_,rfl,_,rfl,_,rfl,_,rfl,_,rfl,p,c,P,L,mn+r1,a1,b1,_,cs,rfl,hP,L1,L4,k2 _ _ hc1 cp,cp,c3,hp2,hb1,by omega,λo1 es1 one a3 b3 H3 n1 h1 p1 ok1 hp3 hb3 kp3=>?_⟩
  have o1p:o1 ≠ p:=(ah hp2 n1).symm
  refine ⟨_,rfl,_,rfl,_,rfl,_,rfl,_,rfl,p,c,P,L,mn+r1,a3,b3,_,cs,rfl,hP,L1,L4,kp3 _ _ (k2 _ _ hc1 cp) cp,cp,c3,hp3,hb3,by omega,λo2 es2 oth a4 b4 H4 n2 h2 p2 ok2 hp4 hb4 kp4=>?_⟩
  have o2p:o2 ≠ p:=(ah hp3 n2).symm
  refine ⟨Nat.zero_le _,λbl nbl=>?_⟩
  have s5:=oS.new (o:=.lst []) nbl
  have hbl5:(upd H4 bl (.lst [])) bl=some (.lst []):=ac
  have hp5:=s5 _ _ hp4
  have blp:bl ≠ p:=(ah hp4 nbl).symm
  generalize upd H4 bl (.lst [])=H5 at *
  refine ⟨2,rfl,by omega,by omega,cu (n:=2) (λm σ H'=>∃ (ts:List V) (ps:List aj) (a b:Int) (x10:Option V),σ=[some (.int P),some (.int L),some (.ref c),some (.ref rw),some (.ref p),some (.ref g),some (.int (mn+r1)),some (.ref o1),some (.ref o2),some (.ref bl),x10,none,none,none,none,none,none]/\H' bl=some (.lst ts)/\oV P H' ts ps/\ps.length=m/\(∀ q ∈ ps,SpOk P L 2 q)/\H' p=some (.lst [.int a,.int b])/\pc a b (k+1+300+300+12*m)/\∀ c o,H5 c=some o->c ≠ p->c ≠ bl->H' c=some o) ?_ ?_ ?_⟩
  ·exact ⟨[],[],a4,b4,_,rfl,hbl5,.nil,rfl,λq hq=>absurd hq (by simp),hp5,hb4,λc o e _ _=>e⟩
  ·rintro m σ H7 hm ⟨ts,ps,a7,b7,y10,rfl,hs7,pr7,ln7,ok7,hp7,hb7,kp7⟩ N1 B1 hN1
   refine ⟨_,rfl,.inl ⟨rfl,_,SqL.of hs7⟩,?_⟩
   refine ⟨_,rfl,_,rfl,p,L,_,a7,b7,_,rfl,L1,L4,by decide,by decide,hp7,hb7,by omega,λt es9 a9 b9 H9 le9 nn9 sm9 ht9 hp9 hb9 kp9=>?_⟩
   refine ⟨_,rfl,_,rfl,p,P,a9,b9,_,rfl,hP,hp9,hb9,by omega,λv x a10 b10 H10 av ox sx hp10 hb10 kp10=>?_⟩
   have sx14:=iS hP ox sx
   refine ⟨(by show 2<=sizeLine; decide),λt11 n11=>?_⟩
   have s11:=oS.new (o:=.tup [.ref t,v]) n11
   have h11:(upd H10 t11 (.tup [.ref t,v])) t11=some (.tup [.ref t,v]):=ac
   generalize upd H10 t11 (.tup [.ref t,v])=H11 at *
   have ka:oT [p] H9 H11:=(oT.bag hp9 kp10 (by simp)).trans (.of s11)
   have kb:oT [p] H7 H11:=(oT.bag hp7 kp9 (by simp)).trans ka
   have hs11:=kb.2 _ _ hs7 (by simp [blp])
   refine ⟨bl,_,_,rfl,rfl,hs11,by rw [Paired.length pr7,ln7,sizeLine_eq]; omega,?_⟩
   have kc:oT [bl] H11 (upd H11 bl (.lst (ts++[.ref t11]))):=oT.put hs11 (by simp)
   refine hN1 _ _ ⟨ts++[.ref t11],ps++[(es9,x)],a10,b10,_,rfl,ac,oV.snoc ⟨t11,t,v,rfl,kc.1 _ _ h11,kc.1 _ _ (ka.1 _ _ ht9),((av.mono λt xs e=>s11 _ _ e).mono kc.1)⟩ ((pr7.mono kb.1).mono kc.1),by rw [length_append,ln7]; rfl,λq hq=>?_,by rw [ao blp.symm]; exact s11 _ _ hp10,hb10.mono (by omega),λc o e hc hcs=>?_⟩
   ·rcases List.mem_append.mp hq with z | z
    ·exact ok7 q z
    ·rw [List.mem_singleton.mp z]
     exact ⟨ox,sx14,le9,nn9,sm9⟩
   ·rw [ao hcs]
    exact s11 _ _ (kp10 c o (kp9 c o (kp7 c o e hc hcs) hc) hc)
  rintro σ H6 ⟨bts0,bps,a6,b6,x10,rfl,hbl6,pbl6,lbl6,okbl,hp6,hb6,kp6⟩
  generalize mn+r1=h at *
  refine ⟨_,rfl,_,rfl,bl,P,bts0,bps,rfl,hP,hbl6,pbl6,by omega,fj hP (by omega) okbl,λbd bts by_ H7 nbd s7 hbd7 pby7 isby=>?_⟩
  obtain ⟨cby,lby,dby⟩:=hU hP (n:=2) (by omega) okbl isby
  have hp7:=s7 _ _ hp6
  have bdp:bd ≠ p:=(ah hp6 nbd).symm
  have k17:∀ c o,H1 c=some o->c ≠ p->H7 c=some o:=λc o e hc=>s7 _ _ (kp6 c o (s5 _ _ (kp4 c o (kp3 c o (k2 c o e hc) hc) hc)) hc (ah (kp4 c o (kp3 c o (k2 c o e hc) hc) hc) nbl))
  have ka17:oT [p] H1 H7:=oT.bag hp1 k17 (by simp)
  have prw7:Paired (RowA [p] P H7) ws rows:=al (λ_ _ z=>RowA.keep ka17 (RowA.keep (oT.of s1) z)) prw
  refine ⟨_,rfl,_,rfl,_,rfl,_,rfl,_,rfl,_,rfl,p,c,rw,P,L,h,a6,b6,_,cs,ws,rows,rfl,hP,L1,L4,k17 _ _ hc1 cp,cp,c3,k17 _ _ (s1 _ _ hrw) rwp,rwp,prw7,l5,okr,hp7,hb6,by omega,λmu mus ms a8 b8 H8 nmu hmu8 pmu8 okmu hp8 hb8 kp8=>?_⟩
  have k18:∀ c o,H1 c=some o->c ≠ p->H8 c=some o:=λc o e hc=>kp8 c o (k17 c o e hc) hc
  have kp48:∀ c o,H4 c=some o->c ≠ p->H8 c=some o:=λc o e hc=>kp8 _ _ (s7 _ _ (kp6 c o (s5 _ _ e) hc (ah e nbl))) hc
  have ka38:oT [p] H3 H8:=oT.bag hp3 (λc o e hc=>kp48 c o (kp4 c o e hc) hc) (by simp)
  have ka48:oT [p] H4 H8:=oT.bag hp4 kp48 (by simp)
  have ka78:oT [p] H7 H8:=oT.bag hp7 kp8 (by simp)
  have h18:H8 o1=some (.lst es1):=ka38.2 _ _ h1 (by simp [o1p])
  have h28:H8 o2=some (.lst es2):=kp48 _ _ h2 o2p
  have p18:Paired (pA P H8) es1 one:=al (λ_ _ z=>(oZ.keepA (av:=[p]) (λa ha=>.inr (by rw [List.mem_singleton.mp ha,hp2]; simp)) ka38 z).ent) p1
  have p28:Paired (pA P H8) es2 oth:=al (λ_ _ z=>(oZ.keepA (av:=[p]) (λa ha=>.inr (by rw [List.mem_singleton.mp ha,hp3]; simp)) ka48 z).ent) p2
  have hbd8:=kp8 _ _ hbd7 bdp
  have pby8:oV P H8 bts by_:=pby7.mono ka78.1
  have pmu:Paired (pA P H8) mus ms:=al (λ_ _=>oZ.ent) pmu8
  have hc8:=k18 _ _ hc1 cp
  have hrw8:=k18 _ _ (s1 _ _ hrw) rwp
  have prw8:Paired (pM P H8) ws rows:=al (λ_ _ z=>(RowA.keep ka78 z).row) prw7
  have gp:g ≠ p:=bW hg hp1 (by intro z; cases z)
  have hg8:=k18 _ _ hg gp
  have hN8:pC CF CR H8 x P:=hN.mono λo e=>k18 _ _ e (by
   intro z; subst z
   rcases hN with ⟨_,dx,z⟩ | ⟨_,dx,z⟩<;>(rw [hp1] at z; cases z))
  have k08:∀ c o,H c=some o->c ≠ p->H8 c=some o:=λc o e hc=>k18 c o (s1 _ _ e) hc
  have q8:∀ H',oS H8 H'->Q (.bl true) H':=λH' s=>q H' λc o e hc=>s _ _ (k08 c o e hc)
  have mc:=mixC_of l5 okr okmu
  clear q k08 k18 kp48 ka38 ka48 ka78 k17 ka17 prw7 prw s7 kp8 pmu8 hbd7 pby7 s5 kp4 kp3 k2
  have l1:one.length=cs.length:=(Paired.length ok1).symm
  have l2:oth.length=cs.length:=(Paired.length ok2).symm
  have le1:es1.length=one.length:=Paired.length p18
  have lw:ws.length=rows.length:=Paired.length prw8
  have lms:rows.length=ms.length:=Paired.length okmu
  have lrow:∀ row ∈ rows,row.length=cs.length:=λrow hr=>(mc.2.2.1 row hr).1
  subst hR0
  refine sq7 λR0 hR0=>?_
  refine ⟨_,rfl,_,rfl,(by show 2<=sizeLine; decide),λt9 n9=>?_⟩
  have s9:=oS.new (o:=.lst [.ref o1,.ref o2]) n9
  have h9:(upd H8 t9 (.lst [.ref o1,.ref o2])) t9=some (.lst [.ref o1,.ref o2]):=ac
  generalize upd H8 t9 (.lst [.ref o1,.ref o2])=H9 at *
  refine ⟨t9,P,_,[one,oth],rfl,h9,.cons ⟨o1,es1,rfl,s9 _ _ h18,al (λ_ _ z=>z.same s9) p18⟩ (.cons ⟨o2,es2,rfl,s9 _ _ h28,al (λ_ _ z=>z.same s9) p28⟩ .nil),by show 2<=60; decide,λrow hr=>?_,λd10 ws10 H10 nd10 s10 hd10 pc10=>?_⟩
  ·rcases List.mem_cons.mp hr with z | z
   ·rw [z]; omega
   ·rw [List.mem_singleton.mp z]; omega
  obtain ⟨v1,v2,rfl,R1,R2⟩:∃ v1 v2,ws10=[v1,v2]/\RowF H9 d10 P H10 v1 one/\RowF H9 d10 P H10 v2 oth:=by
   cases pc10 with
   | cons a r=>cases r with
    | cons b r=>cases r; exact ⟨_,_,rfl,a,b⟩
  have R1:=R1.row
  have R2:=R2.row
  have s810:=s9.trans s10
  refine ⟨_,rfl,bd,bts,rfl,.inl (SqL.of (s810 _ _ hbd8)),λl11 n11=>⟨(by show 1<=sizeLine; decide),λt12 n12=>?_⟩⟩
  have s11:=oS.new (o:=.lst bts) n11
  have h11:(upd H10 l11 (.lst bts)) l11=some (.lst bts):=ac
  generalize upd H10 l11 (.lst bts)=H11 at *
  have s12:=oS.new (o:=.lst [.ref l11]) n12
  have h12:(upd H11 t12 (.lst [.ref l11])) t12=some (.lst [.ref l11]):=ac
  generalize upd H11 t12 (.lst [.ref l11])=H12 at *
  have s812:=(s810.trans s11).trans s12
  have hl12:=s12 _ _ h11
  refine ⟨d10,t12,[v1,v2],[.ref l11],rfl,rfl,s12 _ _ (s11 _ _ hd10),h12,by show 2+1<=sizeLine; decide,λz nz=>?_⟩
  have s13:=oS.new (o:=.lst ([v1,v2]++[.ref l11])) nz
  have hz13:(upd H12 z (.lst ([v1,v2]++[.ref l11]))) z=some (.lst [v1,v2,.ref l11]):=ac
  generalize upd H12 z (.lst ([v1,v2]++[.ref l11]))=H13 at *
  have s813:=s812.trans s13
  refine ⟨_,rfl,.inl ⟨rfl,_,SqL.of hz13⟩,?_⟩
  refine ⟨_,rfl,(by show 1<=sizeLine; decide),λt14 n14=>?_⟩
  have s14:=oS.new (o:=.lst [.ref mu]) n14
  have h14:(upd H13 t14 (.lst [.ref mu])) t14=some (.lst [.ref mu]):=ac
  generalize upd H13 t14 (.lst [.ref mu])=H14 at *
  have s814:=s813.trans s14
  refine ⟨t14,P,_,[ms],rfl,h14,.cons ⟨mu,mus,rfl,s814 _ _ hmu8,al (λ_ _ z=>z.same s814) pmu⟩ .nil,by show 1<=60; decide,λrow hr=>by rw [List.mem_singleton.mp hr]; omega,λd15 ws15 H15 nd15 s15 hd15 pc15=>?_⟩
  obtain ⟨v3,rfl,R3⟩:∃ v3,ws15=[v3]/\RowF H14 d15 P H15 v3 ms:=by
   cases pc15 with
   | cons a r=>cases r; exact ⟨_,rfl,a⟩
  have hz14:=s14 _ _ hz13
  have hz15:=s15 _ _ hz14
  refine ⟨d15,[v3],_,_,rfl,rfl,SqL.of hd15,gu _ _,z,_,_,rfl,rfl,hz15,by show 3<sizeLine; decide,?_⟩
  have k16:oT [z] H15 (upd H15 z (.lst ([v1,v2,.ref l11]++[v3]))):=oT.put hz15 (by simp)
  have hz16:(upd H15 z (.lst ([v1,v2,.ref l11]++[v3]))) z=some (.lst [v1,v2,.ref l11,v3]):=ac
  have s1216:oS H12 (upd H15 z (.lst ([v1,v2,.ref l11]++[v3]))):=λc o e=>by rw [ao (ah e nz)]; exact s15 _ _ (s14 _ _ (s13 _ _ e))
  generalize upd H15 z (.lst ([v1,v2,.ref l11]++[v3]))=H16 at *
  have R3:=R3.keepA (av:=[z]) (λa ha=>.inr (by rw [List.mem_singleton.mp ha,hz14]; simp)) k16
  have s816:=s812.trans s1216
  refine ⟨_,rfl,.inl ⟨rfl,_,SqL.of hz16⟩,?_⟩
  refine ⟨_,rfl,rw,P,ws,rows,rfl,s816 _ _ hrw8,al (λ_ _ z=>z.same s816) prw8,by omega,λrow hr=>by rw [lrow row hr]; omega,λd17 ws17 H17 nd17 s17 hd17 pc17=>?_⟩
  have hz17:=s17 _ _ hz16
  refine ⟨z,_,_,rfl,rfl,hz17,by show 4<sizeLine; decide,?_⟩
  have k18:oT [z] H17 (upd H17 z (.lst ([v1,v2,.ref l11,v3]++[.ref d17]))):=oT.put hz17 (by simp)
  have hz18:(upd H17 z (.lst ([v1,v2,.ref l11,v3]++[.ref d17]))) z=some (.lst [v1,v2,.ref l11,v3,.ref d17]):=ac
  have s1218:oS H12 (upd H17 z (.lst ([v1,v2,.ref l11,v3]++[.ref d17]))):=λc o e=>by rw [ao (ah e nz)]; exact s17 _ _ (s1216 _ _ e)
  have hd18:(upd H17 z (.lst ([v1,v2,.ref l11,v3]++[.ref d17]))) d17=some (.lst ws17):=by rw [ao (ah hz16 nd17).symm]; exact hd17
  generalize upd H17 z (.lst ([v1,v2,.ref l11,v3]++[.ref d17]))=H18 at *
  have R3:=(R3.keepA (av:=[z]) (λa ha=>.inr (by rw [List.mem_singleton.mp ha,hz14]; simp)) ((oT.of s17).trans k18)).row
  have pw18:Paired (pM P H18) ws17 rows:=al (λ_ _ y=>(RowF.keepA (av:=[z]) (λa ha=>.inr (by rw [List.mem_singleton.mp ha,hz16]; simp)) k18 y).row) pc17
  have s818:=s812.trans s1218
  have R1:=(R1.same (s11.trans s12)).same s1218
  have R2:=(R2.same (s11.trans s12)).same s1218
  have hl18:=s1218 _ _ hl12
  clear k16 k18 s1218 s1216 pc17 hz17 hz16 hz15 hz14 hz13 s17 s15 s14 s13 s12 s11 hl12 h12 h11 h9 hd10 hd15 h14 s9 s10 s810 s812 s813 s814 s816
  have pok:=plus_ok hP ok1 ok2
  have p118:=al (λ_ _ z=>pA.same s818 z) p18
  have p218:=al (λ_ _ z=>pA.same s818 z) p28
  refine ⟨_,rfl,_,rfl,_,rfl,o1,o2,P,es1,es2,one,oth,rfl,hP,s818 _ _ h18,p118,s818 _ _ h28,p218,by omega,by omega,λi a b ea eb=>⟨(pok i a b ea eb).1,(pok i a b ea eb).2.1⟩,λy1 yes1 du1 H19 n19 s19 hy19 py19 ly1 ry1=>⟨(by show 1<=sizeLine; decide),λy ny=>?_⟩⟩
  have s20:=oS.new (o:=.lst [.ref y1]) ny
  have hy20:(upd H19 y (.lst [.ref y1])) y=some (.lst [.ref y1]):=ac
  generalize upd H19 y (.lst [.ref y1])=H20 at *
  have Y1:pM P H19 (.ref y1) du1:=⟨y1,yes1,rfl,hy19,al (λ_ _=>oZ.ent) py19⟩
  have s820:=(s818.trans s19).trans s20
  refine ⟨_,rfl,.inl ⟨rfl,_,SqL.of hy20⟩,?_⟩
  have ek:∀ (i:Nat) (a:List aj),one[i]? = some a->∃ c,hV P L h c a:=λi a ea=>by
   obtain ⟨c,ec⟩:=ik (xs:=cs) (i:=i) (by have:=lt_of ea; omega)
   exact ⟨c,aV ok1 ec ea⟩
  refine ⟨_,rfl,o1,rfl,⟨_,SqL.of (s820 _ _ h18)⟩,jf (P:=P) (rest:=[some (.int P),some (.ref bd)]) rfl (λi e=>∃ a,one[i]? = some a/\o7 P (aW P a by_) e) (s820 _ _ h18) (by omega) (λi v H1' R ev sm kk=>?_) λy2 yes2 du2 H21 n21 s21 hy21 py21 ly2 ry2=>?_⟩
  ·obtain ⟨a,ea,la,ts1,rfl,ha,pa⟩:=aC p18 ev
   obtain ⟨cc,k1⟩:=ek i a ea
   have sx:=s820.trans sm
   have l6:a.length*by_.length<=3*2:=Nat.mul_le_mul k1.2.1 lby
   exact ⟨_,rfl,_,rfl,_,rfl,la,bd,P,ts1,bts,a,by_,rfl,hP,sx _ _ ha,pa.mono λt xs e=>sx _ _ e,sx _ _ hbd8,pby8.mono λt xs e=>sx _ _ e,by omega,λp hp=>⟨(k1.1.2 p hp).1,(k1.1.2 p hp).2.1.mono (by decide),by have:=(k1.1.2 p hp).2.2.2.1; omega⟩,λp hp=>⟨(cby.2 p hp).1,(cby.2 p hp).2.1.mono (by decide)⟩,(gD hP (n:=2) (by decide) k1.1 cby lby (by decide) (by decide)).1,λd rs out H2 nd s2 hd po is=>kk d rs out H2 s2 nd hd po ⟨a,ea,is⟩⟩
  have hy21':=s21 _ _ hy20
  refine ⟨y,_,_,rfl,rfl,hy21',by show 1<sizeLine; decide,?_⟩
  have k22:oT [y] H21 (upd H21 y (.lst ([.ref y1]++[.ref y2]))):=oT.put hy21' (by simp)
  have hy22:(upd H21 y (.lst ([.ref y1]++[.ref y2]))) y=some (.lst [.ref y1,.ref y2]):=ac
  have s1922:oS H19 (upd H21 y (.lst ([.ref y1]++[.ref y2]))):=λc o e=>by rw [ao (ah e ny)]; exact s21 _ _ (s20 _ _ e)
  have y2y:y2 ≠ y:=(ah hy20 n21).symm
  have hyy22:(upd H21 y (.lst ([.ref y1]++[.ref y2]))) y2=some (.lst yes2):=by rw [ao y2y]; exact hy21
  generalize upd H21 y (.lst ([.ref y1]++[.ref y2]))=H22 at *
  have py22:Paired (oZ H20 y2 P H22) yes2 du2:=al (λ_ _=>oZ.keepA (av:=[y]) (λa ha=>.inr (by rw [List.mem_singleton.mp ha,hy20]; simp)) k22) py21
  have s822:=(s818.trans s19).trans s1922
  refine ⟨_,rfl,.inl ⟨rfl,_,SqL.of hy22⟩,?_⟩
  refine ⟨_,rfl,_,rfl,c,_,rfl,.inl (SqL.of (s822 _ _ hc8)),_,rfl,_,rfl,rw,mu,P,L,cs.length,ws,mus,rows,ms,by rw [length_map]; rfl,hP,L4,s822 _ _ hrw8,al (λ_ _ z=>z.same s822) prw8,s822 _ _ hmu8,al (λ_ _ z=>z.same s822) pmu,mc,by omega,λy3 yes3 du3 H23 n23 s23 hy23 py23 ly3 ry3=>?_⟩
  have hy23':=s23 _ _ hy22
  refine ⟨y,_,_,rfl,rfl,hy23',by show 2<sizeLine; decide,?_⟩
  have k24:oT [y] H23 (upd H23 y (.lst ([.ref y1,.ref y2]++[.ref y3]))):=oT.put hy23' (by simp)
  have hy24:(upd H23 y (.lst ([.ref y1,.ref y2]++[.ref y3]))) y=some (.lst [.ref y1,.ref y2,.ref y3]):=ac
  have s1924:oS H19 (upd H23 y (.lst ([.ref y1,.ref y2]++[.ref y3]))):=λc o e=>by rw [ao (ah e ny)]; exact s23 _ _ (s1922 _ _ e)
  have y3y:y3 ≠ y:=(ah hy22 n23).symm
  have hyy2:(upd H23 y (.lst ([.ref y1,.ref y2]++[.ref y3]))) y2=some (.lst yes2):=by rw [ao y2y]; exact s23 _ _ hyy22
  have hyy3:(upd H23 y (.lst ([.ref y1,.ref y2]++[.ref y3]))) y3=some (.lst yes3):=by rw [ao y3y]; exact hy23
  generalize upd H23 y (.lst ([.ref y1,.ref y2]++[.ref y3]))=Hs at *
  have Y1:=Y1.same s1924
  have Y2:pM P Hs (.ref y2) du2:=⟨y2,yes2,rfl,hyy2,al (λ_ _ y'=>(oZ.keepA (av:=[y]) (λa ha=>.inr (by rw [List.mem_singleton.mp ha,hy20]; simp)) ((oT.of s23).trans k24) y').ent) py22⟩
  have Y3:pM P Hs (.ref y3) du3:=⟨y3,yes3,rfl,hyy3,al (λ_ _ y'=>(oZ.keepA (av:=[y]) (λa ha=>.inr (by rw [List.mem_singleton.mp ha,hy22]; simp)) k24 y').ent) py23⟩
  have s8s:=(s818.trans s19).trans s1924
  have s18s:=s19.trans s1924
  have hzs:=s18s _ _ hz18
  have R1:=R1.same s18s
  have R2:=R2.same s18s
  have R3:=R3.same s18s
  have hls:=s18s _ _ hl18
  have hds:=s18s _ _ hd18
  have pws:Paired (pM P Hs) ws17 rows:=al (λ_ _ z=>z.same s18s) pw18
  clear k24 k22 s1924 s1922 s23 s21 s20 s19 s820 s822 s818 py23 py22 py21 py19 hy23' hy21' hyy22 hy20 hy19 p118 p218 hz18 pw18 hl18 hd18 s18s
  subst hR0
  refine sq2 λR0 hR0=>?_
  obtain ⟨q1,qs1,rfl,hq1,pq1⟩:=R1
  obtain ⟨q2,qs2,rfl,hq2,pq2⟩:=R2
  obtain ⟨q3,qs3,rfl,hq3,pq3⟩:=R3
  have emul:∀ e ∈ one,EMul P L.toNat e:=λe he=>by
   obtain ⟨i,hi,rfl⟩:=getElem_of_mem he
   obtain ⟨c,k1⟩:=ek i _ (getElem?_eq_getElem hi)
   exact emul_of (by decide) L4 k1.1 k1.2.1
  have mmul:MMul P L.toNat by_:=mmul_of cby lby
  refine ⟨2,rfl,by omega,by omega,cu (n:=2) (λm σ H'=>∃ x14 x15 x16:Option V,σ=[some (.int P),some (.int L),some (.ref c),some (.ref rw),some (.ref p),some (.ref g),some (.int h),some (.ref o1),some (.ref o2),some (.ref bd),x10,some (.ref mu),some (.ref z),some (.ref y),x14,x15,x16]/\oS Hs H') ?_ ?_ ?_⟩
  ·exact ⟨none,none,none,rfl,oS.refl _⟩
  ·rintro m σ G0 hm ⟨x14,x15,x16,rfl,sm⟩ N0 B0 hN0
   have s8:=s8s.trans sm
   refine sq2 λR1 hR1=>?_
   refine ⟨_,rfl,_,rfl,z,_,_,_,rfl,rfl,SqL.of (sm _ _ hzs),rfl,_,rfl,z,_,_,_,rfl,rfl,SqL.of (sm _ _ hzs),rfl,g,x,q1,q2,P,L,qs1,qs2,one,oth,rfl,hP,⟨dxg,s8 _ _ hg8⟩,hN8.mono λo e=>s8 _ _ e,sm _ _ hq1,al (λ_ _ z=>z.same sm) pq1,sm _ _ hq2,al (λ_ _ z=>z.same sm) pq2,by omega,by omega,λi a b ea eb=>⟨(pok i a b ea eb).1,(pok i a b ea eb).2.1⟩,λf1 fe1 fo1 G1 nf1 t1 hf1 pf1 lf1 rf1=>?_⟩
   have sm1:=sm.trans t1
   have s81:=s8.trans t1
   refine ⟨_,rfl,_,rfl,z,_,_,_,rfl,rfl,SqL.of (sm1 _ _ hzs),rfl,_,rfl,z,_,_,_,rfl,rfl,SqL.of (sm1 _ _ hzs),rfl,g,x,q1,l11,P,L,L.toNat,qs1,bts,one,by_,rfl,hP,⟨dxg,s81 _ _ hg8⟩,hN8.mono λo e=>s81 _ _ e,sm1 _ _ hq1,al (λ_ _ z=>z.same sm1) pq1,sm1 _ _ hls,pby8.mono λt xs e=>s81 _ _ e,by omega,emul,mmul,λf2 fe2 fo2 G2 nf2 t2 hf2 pf2 lf2 rf2=>⟨(by show 2<=sizeLine; decide),λfl nfl=>?_⟩⟩
   have t3:=oS.new (o:=.lst [.ref f1,.ref f2]) nfl
   have hfl3:(upd G2 fl (.lst [.ref f1,.ref f2])) fl=some (.lst [.ref f1,.ref f2]):=ac
   generalize upd G2 fl (.lst [.ref f1,.ref f2])=G3 at *
   have sm3:=(sm1.trans t2).trans t3
   have s83:=s8s.trans sm3
   refine ⟨_,rfl,.inl ⟨rfl,_,SqL.of hfl3⟩,?_⟩
   refine ⟨_,rfl,_,rfl,c,_,rfl,.inl (SqL.of (s83 _ _ hc8)),_,rfl,z,_,_,_,rfl,rfl,SqL.of (sm3 _ _ hzs),rfl,_,rfl,z,_,_,_,rfl,rfl,SqL.of (sm3 _ _ hzs),rfl,g,x,d17,q3,P,L,L.toNat,cs.length,ws17,qs3,rows,ms,by rw [length_map]; rfl,hP,⟨dxg,s83 _ _ hg8⟩,hN8.mono λo e=>s83 _ _ e,sm3 _ _ hds,al (λ_ _ z=>z.same sm3) pws,sm3 _ _ hq3,al (λ_ _ z=>z.same sm3) pq3,mc.mi L4,by omega,λf3 fe3 fo3 G4 nf3 t4 hf3 pf3 lf3 rf3=>?_⟩
   have hfl4:=t4 _ _ hfl3
   refine ⟨fl,_,_,rfl,rfl,hfl4,by show 2<sizeLine; decide,?_⟩
   have hfl5:(upd G4 fl (.lst ([.ref f1,.ref f2]++[.ref f3]))) fl=some (.lst [.ref f1,.ref f2,.ref f3]):=ac
   have k5:oT [fl] G4 (upd G4 fl (.lst ([.ref f1,.ref f2]++[.ref f3]))):=oT.put hfl4 (by simp)
   have t25:oS G2 (upd G4 fl (.lst ([.ref f1,.ref f2]++[.ref f3]))):=λc o e=>by rw [ao (ah e nfl)]; exact t4 _ _ (t3 _ _ e)
   have f3fl:f3 ≠ fl:=(ah hfl3 nf3).symm
   have hf35:(upd G4 fl (.lst ([.ref f1,.ref f2]++[.ref f3]))) f3=some (.lst fe3):=by rw [ao f3fl]; exact hf3
   generalize upd G4 fl (.lst ([.ref f1,.ref f2]++[.ref f3]))=G5 at *
   have sm5:=(sm1.trans t2).trans t25
   have s85:=s8s.trans sm5
   have hf15:=t25 _ _ (t2 _ _ hf1)
   have hf25:=t25 _ _ hf2
   have pf15:Paired (oZ G0 f1 P G5) fe1 fo1:=al (λ_ _=>oZ.keepA (av:=[]) (λa h=>by cases h) (oT.of (t2.trans t25))) pf1
   have pf25:Paired (oZ G1 f2 P G5) fe2 fo2:=al (λ_ _=>oZ.keepA (av:=[]) (λa h=>by cases h) (oT.of t25)) pf2
   have pf35:Paired (oZ G3 f3 P G5) fe3 fo3:=al (λ_ _=>oZ.keepA (av:=[fl]) (λa ha=>.inr (by rw [List.mem_singleton.mp ha,hfl3]; simp)) k5) pf3
   have F1:pM P G5 (.ref f1) fo1:=⟨f1,fe1,rfl,hf15,al (λ_ _=>oZ.ent) pf15⟩
   have F2:pM P G5 (.ref f2) fo2:=⟨f2,fe2,rfl,hf25,al (λ_ _=>oZ.ent) pf25⟩
   have F3:pM P G5 (.ref f3) fo3:=⟨f3,fe3,rfl,hf35,al (λ_ _=>oZ.ent) pf35⟩
   have e1:fo1=du1:=iY (by omega) λi a b ea eb=>by
    obtain ⟨u,v,eu,ev,is⟩:=rf1 i a ea
    obtain ⟨u',v',eu',ev',is'⟩:=ry1 i b eb
    rw [eu] at eu'; rw [ev] at ev'
    cases eu'; cases ev'
    exact fD is is'
   have e2:fo2=du2:=iY (by omega) λi a b ea eb=>by
    obtain ⟨u,eu,is⟩:=rf2 i a ea
    obtain ⟨u',eu',is'⟩:=ry2 i b eb
    rw [eu] at eu'
    cases eu'
    exact fD is is'
   obtain ⟨e3,g3⟩:=mix_rowG hP l5 okr okmu lf3 ly3 rf3 ry3
   have g1:=plus_rowG hP ok1 ok2 lf1 rf1
   have g2:=times_rowG hP ok1 cby lby dby lf2 rf2
   subst e1 e2 e3
   subst hR1
   refine sq3 λR1 hR1=>?_
   have lay3:=lay_dRs P [fo1,fo2,fo3]
   refine ⟨_,rfl,_,rfl,dRs P [fo1,fo2,fo3],dRs P [fo1,fo2,fo3],oA hfl5 (.cons F1 (.cons F2 (.cons F3 .nil))),oA (sm5 _ _ hy24) (.cons (Y1.same sm5) (.cons (Y2.same sm5) (.cons (Y3.same sm5) .nil))),lay3.sh (by decide),lay3.sh (by decide),?_⟩
   rw [ir lay3]
   refine ⟨_,rfl,br ?_⟩
   refine ⟨_,rfl,fl,rfl,⟨_,SqL.of hfl5⟩,aX (n:=3) (σ0:=[none,some (.int P),some (.int L),some (.ref c)]) rfl (λacc i ws σ H'=>∃ u:Option V,σ=[u,some (.int P),some (.int L),some (.ref c)]/\oS G5 H'/\ws=(List.range i).map λ_=>V.bl true) (by rw [sizeLine_eq]; decide) (λacc hacc=>⟨none,rfl,oS.new hacc,rfl⟩) ?_ ?_ ?_ ?_⟩
   ·rintro acc i ws σ H' hacc hi hz ⟨u,rfl,sm',_⟩
    exact ⟨[.ref f1,.ref f2,.ref f3],_,SqL.of (sm' _ _ hfl5),getElem?_eq_getElem hi⟩
   ·rintro acc ws σ H' hacc hz ⟨u,rfl,sm',_⟩
    exact ⟨_,SqL.of (sm' _ _ hfl5),Nat.le_refl _⟩
   ·rintro acc i ws σ H9 x' H' hacc hi hz hzl ⟨u,rfl,sm',rfl⟩ ⟨rfl,hx⟩
    have hx:=hx _ (SqL.of (sm' _ _ hfl5))
    obtain ⟨fk,ok,rfl,Fk,gk⟩:∃ (fk:Addr) (ok:List (List aj)),x'=.ref fk/\pM P G5 (.ref fk) ok/\RowG P L cs ok:=by
     have m:=mem_of_getElem? hx
     simp only [mem_cons,not_mem_nil,or_false] at m
     rcases m with rfl | rfl | rfl
     ·exact ⟨_,_,rfl,F1,g1⟩
     ·exact ⟨_,_,rfl,F2,g2⟩
     ·exact ⟨_,_,rfl,F3,g3⟩
    obtain ⟨fk',fek,efk,hfk,pfk⟩:=Fk.same sm'
    cases efk
    refine ⟨_,rfl,_,rfl,_,rfl,_,rfl,c,fk,P,L,cs,fek,ok,rfl,hP,L4,(s85.trans sm') _ _ hc8,by omega,hfk,pfk,gk,λH3 s3=>?_⟩
    refine ⟨_,s3 _ _ hz,by rw [sizeLine_eq]; rw [length_map,length_range]; omega,_,ac,by rw [length_append,length_singleton]; omega,_,rfl,λc o e=>?_,?_⟩
    ·rw [ao (ah e hacc)]
     exact s3 _ _ (sm' c o e)
    ·rw [range_succ,map_append]
     rfl
   rintro acc ws6 σ G6 hacc hz6 hzl ⟨u,rfl,t6,rfl⟩
   have hb4:((List.range 3).map λ_=>V.bl true)=((List.range 3).map λ_=>true).map V.bl:=rfl
   rw [hb4] at hz6
   refine ⟨acc,_,rfl,bJ (SqL.of hz6),_,rfl,?_⟩
   rw [all_tt]
   refine br ?_
   subst hR1
   refine sq2 λR1 hR1=>?_
   have sm6:=sm5.trans t6
   refine ⟨_,rfl,_,rfl,_,rfl,_,rfl,_,rfl,_,rfl,(by show 5<=sizeLine; decide),λe7 ne7=>?_⟩
   have t7:=oS.new (o:=.lst [.ref o1,.ref o2,.ref bd,.ref mu,.ref rw]) ne7
   have he7:(upd G6 e7 (.lst [.ref o1,.ref o2,.ref bd,.ref mu,.ref rw])) e7=some (.lst [.ref o1,.ref o2,.ref bd,.ref mu,.ref rw]):=ac
   generalize upd G6 e7 (.lst [.ref o1,.ref o2,.ref bd,.ref mu,.ref rw])=G7 at *
   have sm7:=sm6.trans t7
   have s87:=s8s.trans sm7
   have layH:Lay 6 (.list [dR P one,dR P oth,dS P by_,dR P ms,dRs P rows]):=ip λd hd=>by
    simp only [mem_cons,not_mem_nil,or_false] at hd
    rcases hd with rfl | rfl | rfl | rfl | rfl
    ·exact (eJ P one).mono (by decide)
    ·exact (eJ P oth).mono (by decide)
    ·exact (lay_dS P by_).mono (by decide)
    ·exact (eJ P ms).mono (by decide)
    ·exact lay_dRs P rows
   refine ⟨.list [dR P one,dR P oth,dS P by_,dR P ms,dRs P rows],.list [dR P one,dR P oth,dS P by_,dR P ms,dRs P rows],.lst (SqL.of (sm7 _ _ hzs)) (.cons (fQ (sm7 _ _ hq1) (al (λ_ _ z=>z.same sm7) pq1)) (.cons (fQ (sm7 _ _ hq2) (al (λ_ _ z=>z.same sm7) pq2)) (.cons (gc (sm7 _ _ hls) (pby8.mono λt xs e=>s87 _ _ e)) (.cons (fQ (sm7 _ _ hq3) (al (λ_ _ z=>z.same sm7) pq3)) (.cons (oA (sm7 _ _ hds) (al (λ_ _ z=>z.same sm7) pws)) .nil))))),
    .lst (SqL.of he7) (.cons (fQ (s87 _ _ h18) (al (λ_ _ z=>z.same s87) p18)) (.cons (fQ (s87 _ _ h28) (al (λ_ _ z=>z.same s87) p28)) (.cons (gc (s87 _ _ hbd8) (pby8.mono λt xs e=>s87 _ _ e)) (.cons (fQ (s87 _ _ hmu8) (al (λ_ _ z=>z.same s87) pmu)) (.cons (oA (s87 _ _ hrw8) (al (λ_ _ z=>z.same s87) prw8)) .nil))))),layH.sh (by decide),layH.sh (by decide),?_⟩
   rw [ir layH]
   refine ⟨_,rfl,br ?_⟩
   subst hR1
   refine sq2 λR1 hR1=>?_
   refine ⟨_,rfl,_,rfl,_,rfl,_,rfl,g,x,o1,o2,P,L,es1,es2,one,oth,rfl,hP,⟨dxg,s87 _ _ hg8⟩,hN8.mono λo e=>s87 _ _ e,s87 _ _ h18,al (λ_ _ z=>z.same s87) p18,s87 _ _ h28,al (λ_ _ z=>z.same s87) p28,by omega,by omega,λi a b ea eb=>⟨(pok i a b ea eb).1,(pok i a b ea eb).2.2⟩,λdm dme dmo G8 ndm t8 hdm pdm ldm rdm=>?_⟩
   have s88:=s87.trans t8
   have back:∀ (i:Nat) (a b:List aj),dmo[i]? = some a->oth[i]? = some b->∃ u,one[i]? = some u/\a.length+b.length<=60/\bO P (a++b)/\∀ e,o7 P (a++b) e->e=u:=λi a b ea eb=>by
    obtain ⟨u,v,eu,ev,is⟩:=rdm i a ea
    rw [eb] at ev
    cases ev
    obtain ⟨c',ec⟩:=ik (xs:=cs) (i:=i) (by have:=lt_of eu; omega)
    have k1:hV P L h c' u:=aV ok1 ec eu
    have k2:hV P L h c' b:=aV ok2 ec eb
    have ln:=(eP hP k1.1 (gI hP k2.1 (by decide)) (by decide) is).2
    rw [scl_len] at ln
    have:=k1.2.1
    have:=k2.2.1
    exact ⟨u,eu,by omega,sumOk_back hP k1.1 k2.1 (by decide) (by decide) (by decide) is,λe ie=>sum_back hP k1.1 k2.1 (by decide) (by decide) is ie⟩
   refine ⟨_,rfl,g,x,dm,o2,P,L,dme,es2,dmo,oth,rfl,hP,⟨dxg,s88 _ _ hg8⟩,hN8.mono λo e=>s88 _ _ e,hdm,al (λ_ _=>oZ.ent) pdm,s88 _ _ h28,al (λ_ _ z=>z.same s88) p28,by omega,by omega,λi a b ea eb=>⟨(back i a b ea eb).choose_spec.2.1,(back i a b ea eb).choose_spec.2.2.1⟩,λf9 fe9 fo9 G9 nf9 t9' hf9 pf9 lf9 rf9=>?_⟩
   have s89:=s88.trans t9'
   have e9:fo9=one:=iY (by omega) λi a b ea eb=>by
    obtain ⟨u,v,eu,ev,is⟩:=rf9 i a ea
    obtain ⟨u',eu',_,_,fin⟩:=back i u v eu ev
    rw [eb] at eu'
    cases eu'
    exact fin a is
   subst e9
   refine ⟨_,rfl,dR P fo9,dR P fo9,fQ hf9 (al (λ_ _=>oZ.ent) pf9),fQ (s89 _ _ h18) (al (λ_ _ z=>z.same s89) p18),(eJ P fo9).sh (by decide),(eJ P fo9).sh (by decide),?_⟩
   rw [ir (eJ P fo9)]
   refine ⟨_,rfl,br ?_⟩
   subst hR1
   have t59:=((t6.trans t7).trans t8).trans t9'
   have sm9:=sm5.trans t59
   obtain ⟨e1,r1',te1,rfl,z1,w1,y1',n1'⟩:=kD pf1 (by omega) (λe he=>(g1.1 e he).2)
   obtain ⟨e2,r2',te2,rfl,z2,w2,y2',n2'⟩:=kD pf2 (by omega) (λe he=>(g2.1 e he).2)
   obtain ⟨e3,r3',te3,rfl,z3,w3,y3',n3'⟩:=kD pf3 (by omega) (λe he=>(g3.1 e he).2)
   have hE:∀ e ∈ [e1,e2,e3],Hs e=none/\e ≠ fl/\e ≠ f1/\e ≠ f2/\e ≠ f3:=λe he=>by
    simp only [mem_cons,not_mem_nil,or_false] at he
    rcases he with rfl | rfl | rfl
    ·exact ⟨sm.free z1,ah (t2 _ _ y1') nfl,w1,ah y1' nf2,ah (t3 _ _ (t2 _ _ y1')) nf3⟩
    ·exact ⟨sm1.free z2,ah y2' nfl,(ah hf1 z2).symm,w2,ah (t3 _ _ y2') nf3⟩
    ·exact ⟨sm3.free z3,(ah hfl3 z3).symm,(ah (t3 _ _ (t2 _ _ hf1)) z3).symm,(ah (t3 _ _ hf2) z3).symm,w3⟩
   have e3fl:e3 ≠ fl:=(hE e3 (by simp)).2.1
   refine ⟨_,rfl,fl,rfl,⟨_,SqL.of (t59 _ _ hfl5)⟩,cx (xs:=[.ref f1,.ref f2,.ref f3]) (λj σ H'=>∃ x16:Option V,σ=[some (.int P),some (.int L),some (.ref c),some (.ref rw),some (.ref p),some (.ref g),some (.int h),some (.ref o1),some (.ref o2),some (.ref bd),x10,some (.ref mu),some (.ref z),some (.ref y),some (.int (0+(m:Int))),some (.ref fl),x16]/\oS Hs H'/\H' fl=some (.lst [.ref f1,.ref f2,.ref f3])/\H' f1=some (.lst (.ref e1::r1'))/\H' f2=some (.lst (.ref e2::r2'))/\H' f3=some (.lst (.ref e3::r3'))/\∀ e ∈ [e1,e2,e3],∃ ts,H' e=some (.lst ts)/\ts.length<=100+j) ?_ ?_ ?_ ?_⟩
   ·refine ⟨x16,rfl,sm9,t59 _ _ hfl5,t59 _ _ hf15,t59 _ _ hf25,t59 _ _ hf35,λe he=>?_⟩
    simp only [mem_cons,not_mem_nil,or_false] at he
    rcases he with rfl | rfl | rfl
    ·exact ⟨_,t59 _ _ (t25 _ _ (t2 _ _ y1')),by omega⟩
    ·exact ⟨_,t59 _ _ (t25 _ _ y2'),by omega⟩
    ·exact ⟨_,t59 _ _ (k5.2 _ _ y3' (by simp [e3fl])),by omega⟩
   ·rintro j σ H' _ ⟨y16,rfl,_,hfl',_⟩
    exact SqL.of hfl'
   ·rintro j v σ H' hx ⟨y16,rfl,sH,hfl',a1',a2',a3',hes⟩ N2 B2 hN2
    have jl:j<3:=(List.getElem?_eq_some_iff.mp hx).1
    obtain ⟨fk,ek',rk,rfl,hfk,mek⟩:∃ (fk ek':Addr) (rk:List V),v=.ref fk/\H' fk=some (.lst (.ref ek' :: rk))/\ek' ∈ [e1,e2,e3]:=by
     have m:=mem_of_getElem? hx
     simp only [mem_cons,not_mem_nil,or_false] at m
     rcases m with rfl | rfl | rfl
     ·exact ⟨_,_,_,rfl,a1',by simp⟩
     ·exact ⟨_,_,_,rfl,a2',by simp⟩
     ·exact ⟨_,_,_,rfl,a3',by simp⟩
    obtain ⟨ts,hts,lts⟩:=hes ek' mek
    obtain ⟨n0,nfl',nf1',nf2',nf3'⟩:=hE ek' mek
    refine ⟨_,rfl,fk,_,_,_,rfl,rfl,SqL.of hfk,gu _ _,.inl ⟨rfl,_,SqL.of hts⟩,ek',ts,_,rfl,rfl,hts,by rw [sizeLine_eq]; omega,?_⟩
    refine hN2 _ _ ⟨_,rfl,λc' o e'=>by rw [ao (ah e' n0)]; exact sH _ _ e',by rw [ao nfl'.symm]; exact hfl',by rw [ao nf1'.symm]; exact a1',by rw [ao nf2'.symm]; exact a2',by rw [ao nf3'.symm]; exact a3',λe he=>?_⟩
    by_cases ee:e=ek'
    ·subst ee
     exact ⟨_,ac,by rw [length_append,length_singleton]; omega⟩
    ·obtain ⟨ts',h',l'⟩:=hes e he
     exact ⟨ts',by rw [ao ee]; exact h',by omega⟩
   ·rintro σ H' ⟨y16,rfl,sH,_⟩
    exact hN0 _ _ ⟨_,_,_,rfl,sH⟩
  ·rintro σ H' ⟨x14,x15,x16,rfl,sm⟩
   subst hR0
   have s8:=s8s.trans sm
   refine ⟨_,rfl,_,rfl,c,_,rfl,.inl (SqL.of (s8 _ _ hc8)),Nat.zero_le _,λu1 nu1=>⟨Nat.zero_le _,λu2 nu2=>?_⟩⟩
   have t1:=oS.new (o:=.lst []) nu1
   have hu1:(upd H' u1 (.lst [])) u1=some (.lst []):=ac
   generalize upd H' u1 (.lst [])=G1 at *
   have t2:=oS.new (o:=.lst []) nu2
   have hu2:(upd G1 u2 (.lst [])) u2=some (.lst []):=ac
   generalize upd G1 u2 (.lst [])=G2 at *
   have s82:=(s8.trans t1).trans t2
   refine ⟨g,x,u1,u2,P,L,L.toNat,cs.length,[],[],[],[],by rw [length_map]; rfl,hP,⟨dxg,s82 _ _ hg8⟩,hN8.mono λo e=>s82 _ _ e,t2 _ _ hu1,.nil,hu2,.nil,⟨rfl,Nat.zero_le _,λrow hr=>(by cases hr),λm hm=>(by cases hm)⟩,by omega,λd es out G3 nd t3 hd po lo ro=>?_⟩
   have s83:=s82.trans t3
   refine ⟨_,rfl,c,rfl,⟨_,SqL.of (s83 _ _ hc8)⟩,jf (P:=P) (rest:=[]) rfl (λi e=>e=[]) (s83 _ _ hc8) (by rw [length_map]; omega) (λi v H1' R ev sm' kk=>⟨Nat.zero_le _,λl nl=>kk l [] [] _ (oS.new nl) nl ac .nil rfl⟩) λd2 es2' out2 G4 nd2 t4 hd2 po2 lo2 ro2=>?_⟩
   rw [length_map] at lo2
   have eo:out=out2:=iY (by omega) λi a b ea eb=>by
    rw [ro2 i b eb]
    exact List.perm_nil.mp (ro i a ea).1
   subst eo
   refine ⟨dR P out,dR P out,fQ (t4 _ _ hd) (al (λ_ _ z=>z.ent.same t4) po),fQ hd2 (al (λ_ _=>oZ.ent) po2),(eJ P out).sh (by decide),(eJ P out).sh (by decide),?_⟩
   rw [ir (eJ P out)]
   exact q8 _ (s83.trans t4)
def spLaw (K:Frag):Sp:=λvs H Q _=>∃ (a:Addr) (ns:List Int),vs=[.ref a]/\SqL K H a (ns.map V.int)/\ns.length<=63/\∀ H',Q (.bl true) H'
theorem sc_law:oW ["_law_script", "_law_prime_here", "_law_letters", "_law_columns_here", "_law_rows", "_law_k"] ["_law_script"] (am s_law):=.i
theorem ok_law {f:Addr} {fd:FuncData} (F:Fun K "law" "law" s_law f fd) (T:Blt mg) (uU:FnB P w K mg base 7 "_law_table" (spTable K)) (sj:FnB P w K mg base 2 "_law_bag" (spBag K)) (tS:FnB P w K mg base 9 "_law_one_good" spGood):oY P w K mg base CX0 10 f fd ["_law_script"] (spLaw K):=by
 refine F.o sc_law λ_ _ _ _ H _ Q _ hr h=>?_
 ·obtain ⟨a,ns,rfl,hS,hlen,q⟩:=h
  refine ⟨_,(ag (fq (aq uU hr.m (aa (pv 0) (aa af ae))) (gb rfl (by exact aK (by exact (aF (i:=1) sc_law.nd rfl (Or.inl rfl))) (by exact aK (by exact (aF (i:=2) sc_law.nd rfl (Or.inl rfl))) (by exact aK (by exact (aF (i:=3) sc_law.nd rfl (Or.inl rfl))) (by exact aK (by exact (aF (i:=4) sc_law.nd rfl (Or.inl rfl))) eA))))))
(ag (bc PassesOwn.never rfl (mf rfl T.range (aa af (aa (pl_max T (aa af (aa (pl_min T (aa af (aa (bq K T (pv 0)) ae))) ae))) ae))) (aF (i:=5) sc_law.nd rfl (Or.inl rfl))
(ak (aH (cE (bR (aq tS hr.m (aa (pv 1) (aa (pv 2) (aa (pv 3) (aa (pv 4) (aa (aq sj hr.m (aa (pv 0) (aa (pv 5) ae))) ae))))))))
(ak (ar bV))
aA)))
(ak (ar bV)))),?_⟩
  refine ⟨_,rfl,a,ns,0,rfl,hS,hlen,by decide,by decide,λt c rw P L cs ws rows H1 s1 ht hc hrw prs ⟨hP,L1,L4,c1,c3,oc,r1,r5,okr⟩=>?_⟩
  refine ⟨t,_,rfl,SqT.of ht,rfl,_,_,rfl,_,_,rfl,_,_,rfl,_,_,rfl,rfl,?_⟩
  refine ⟨_,rfl,a,_,rfl,.inl (s1.seq hS),_,_,rfl,_,_,rfl,_,_,rfl,⟨by decide,by decide,by omega,by omega⟩,i5 (lo:=7) (λi σ H'=>∃ x5:Option V,σ=[some (.ref a),some (.int P),some (.int L),some (.ref c),some (.ref rw),x5]/\oS H1 H') ?_ ?_ ?_⟩
  ·exact ⟨none,rfl,oS.refl _⟩
  ·rintro i σ H2 hi ⟨x5,rfl,s2⟩
   have lm:(ns.map V.int).length=ns.length:=length_map ..
   refine ⟨_,rfl,_,rfl,_,rfl,_,rfl,_,rfl,_,rfl,a,ns,_,rfl,(s1.trans s2).seq hS,hlen,by omega,by omega,λp pa pb np hbag=>?_⟩
   have s3:=oS.new (o:=.lst [.int pa,.int pb]) np
   have hp3:(upd H2 p (.lst [.int pa,.int pb])) p=some (.lst [.int pa,.int pb]):=ac
   have prs3:Paired (RowA [p] P (upd H2 p (.lst [.int pa,.int pb]))) ws rows:=al (λ_ _ z=>pM.fresh np s3 (z.same s2)) prs
   generalize upd H2 p (.lst [.int pa,.int pb])=H3 at *
   refine ⟨p,c,rw,P,L,pa,pb,100,cs,ws,rows,rfl,hP,L1,L4,s3 _ _ (s2 _ _ hc),ah (s2 _ _ hc) np,c1,c3,oc,s3 _ _ (s2 _ _ hrw),ah (s2 _ _ hrw) np,prs3,r5,okr,hp3,hbag,by decide,λH4 kp=>?_⟩
   refine ⟨_,rfl,br ⟨_,rfl,λc' o e=>kp _ _ (s3 _ _ (s2 _ _ e)) (ah (s2 _ _ e) np)⟩⟩
  ·rintro σ H2 ⟨x5,rfl,s2⟩
   exact q _
set_option maxHeartbeats 4000000 in
theorem all_mk {l:PySem.W.OpenLaw} {w:World} {K:Frag} {h:Heap} {mg:Str->Option Value} {fa:Addr} (X:K.In h) (G:h.Ns mainGlobals mg) (hfa:mg "law"=some (.ref fa))
  (d0:o5 K "top_and_bottom" cL) (d1:o5 K "fraction_plus" db) (d2:o5 K "is_prime" ij) (d3:o5 K "greatest_divisor" ck) (d4:o5 K "inverse" jb) (d5:o5 K "product_times" dc) (d6:o5 K "degree" ki) (d7:o5 K "height" kE) (d8:o5 K "sum_of" lg) (d9:o5 K "plus" s_plus) (d10:o5 K "minus" oQ) (d11:o5 K "times" oo) (d12:o5 K "product_terms" dq) (d13:o5 K "gathered" g6) (d14:o5 K "scaled" jY) (d15:o5 K "row_plus" gQ) (d16:o5 K "row_minus" f6) (d17:o5 K "row_times" fO) (d18:o5 K "mixture" jc) (d19:o5 K "terms_at" hJ) (d20:o5 K "_law_cell" gj) (d21:o5 K "_law_bag" g9) (d22:o5 K "_law_take" gi) (d23:o5 K "_law_great" fc) (d24:o5 K "_law_signed" eK) (d25:o5 K "_law_whole" fC) (d26:o5 K "_law_low" ib) (d27:o5 K "_law_is_prime" di) (d28:o5 K "_law_prime" fo) (d29:o5 K "_law_numbers" dF) (d30:o5 K "_law_plus" f8) (d31:o5 K "_law_times" fm) (d32:o5 K "_law_nought" eN) (d33:o5 K "_law_unit" fS) (d34:o5 K "_law_number" cV) (d35:o5 K "_law_product" dJ) (d36:o5 K "_law_key" gX) (d37:o5 K "_law_sum" g7) (d38:o5 K "_law_sum_times" cP) (d39:o5 K "_law_mixed" fw) (d40:o5 K "_law_level" ff) (d41:o5 K "_law_wide" gq) (d42:o5 K "_law_drawn_row" cK) (d43:o5 K "_law_again_row" cN) (d44:o5 K "_law_columns" dH) (d45:o5 K "_law_table" fi) (d46:o5 K "_law_one_part" dh) (d47:o5 K "_law_copied" eG) (d48:o5 K "_law_number_like" cg) (d49:o5 K "_law_sum_like" dj) (d50:o5 K "_law_row_like" df) (d51:o5 K "_law_ring" fV) (d52:o5 K "_law_spread_row" cF) (d53:o5 K "_law_multiples" cM) (d54:o5 K "_law_added" fg) (d55:o5 K "_law_one_good" de) (d56:o5 K "law" s_law)
  {qQ:Addr} (uC:nsIn K mainGlobals "Fractions"=some (some (.ref qQ))) (uD:plainGet K qQ Str.empty=true) (uE:hasDictIn K qQ=true) (uF:plainOver K qQ=true) (uG:findIn K (.ref qQ) "__setattr__"=some (some (.builtin "object.__setattr__"))) (uH:makesIn K qQ=true) (uI:keepIn K (.ref qQ)=true)
  (uJ:findIn K (.ref qQ) "__init__"=some (some (.builtin "object.__init__")))
  {rg:Addr} {vH vJ:Option Addr} {vK:Array (Option Value)} {vL vM vN vO ug vP:Value}
  (ss:findIn K (.ref qQ) "prime"=some (some (.ref rg))) (sw:isFn K (.ref rg)=true) (sK:K.lookup rg=some ⟨vL,vH,.func (fnOf "prime" "Fractions.prime" (aR aY) (aM aY) (am aY) .none vM vN vO vJ ug vP),vK⟩) (sL:codeIn K ug "Fractions.prime"=true) (rG:keepIn K (.ref rg)=true)
  {r6:Addr} {we:Value} {wf:Option Addr} {uK:Tok} {xf:Nat} {wI:Array (Option Value)}
  {rL:Addr} {xg tj:Option Addr} {xh:Array (Option Value)} {xi tm tu tw r9 tz:Value}
  (tD:findIn K (.ref qQ) "of"=some (some (.ref rL))) (tE:isFn K (.ref rL)=true) (tT:K.lookup rL=some ⟨xi,xg,.func (fnOf "of" "Fractions.of" (aR aJ) (aM aJ) (am aJ) (.ref r6) tm tu tw tj r9 tz),xh⟩) (tU:codeIn K r9 "Fractions.of"=true) (sG:keepIn K (.ref rL)=true)
  (se:K.lookup r6=some ⟨we,wf,.seq #[.int 1 uK] xf,wI⟩)
  {rA:Addr} {wg wj:Option Addr} {wk:Array (Option Value)} {wl wm wo wp uu wq:Value}
  (sM:findIn K (.ref qQ) "plus"=some (some (.ref rA))) (sN:isFn K (.ref rA)=true) (sS:K.lookup rA=some ⟨wl,wg,.func (fnOf "plus" "Fractions.plus" (aR bi) (aM bi) (am bi) .none wm wo wp wj uu wq),wk⟩) (sT:codeIn K uu "Fractions.plus"=true) (rQ:keepIn K (.ref rA)=true)
  {rh:Addr} {vQ vR:Option Addr} {vS:Array (Option Value)} {vT vU vV vW uh vX:Value}
  (sC:findIn K (.ref qQ) "times"=some (some (.ref rh))) (sD:isFn K (.ref rh)=true) (sO:K.lookup rh=some ⟨vT,vQ,.func (fnOf "times" "Fractions.times" (aR aZ) (aM aZ) (am aZ) .none vU vV vW vR uh vX),vS⟩) (sP:codeIn K uh "Fractions.times"=true) (rH:keepIn K (.ref rh)=true)
  {qR:Addr} (wJ:nsIn K mainGlobals "Rests"=some (some (.ref qR))) (wK:plainGet K qR Str.empty=true) (wL:hasDictIn K qR=true) (wM:plainOver K qR=true) (wN:findIn K (.ref qR) "__setattr__"=some (some (.builtin "object.__setattr__"))) (wO:makesIn K qR=true) (wP:keepIn K (.ref qR)=true)
  (qY:findIn K (.ref qR) "modulus"=some none)
  {rB:Addr} {wr wt:Option Addr} {wu:Array (Option Value)} {wv ww wx wz uv wA:Value}
  (rJ:findIn K (.ref qR) "__init__"=some (some (.ref rB))) (rK:isFn K (.ref rB)=true) (sU:K.lookup rB=some ⟨wv,wr,.func (fnOf "__init__" "Rests.__init__" (aR bj) (aM bj) (am bj) .none ww wx wz wt uv wA),wu⟩) (sV:codeIn K uv "Rests.__init__"=true) (rR:keepIn K (.ref rB)=true)
  {rV:Addr} {xC xD:Option Addr} {xE:Array (Option Value)} {xF xG xH xI vi xJ:Value}
  (tV:findIn K (.ref qR) "prime"=some (some (.ref rV))) (tW:isFn K (.ref rV)=true) (uj:K.lookup rV=some ⟨xF,xC,.func (fnOf "prime" "Rests.prime" (aR bH) (aM bH) (am bH) .none xG xH xI xD vi xJ),xE⟩) (uk:codeIn K vi "Rests.prime"=true) (sQ:keepIn K (.ref rV)=true)
  {ud:Addr} {yf:Value} {yg:Option Addr} {vY:Tok} {yF:Nat} {yB:Array (Option Value)}
  {tF:Addr} {yG uV:Option Addr} {yH:Array (Option Value)} {yI uW uX uY ue uZ:Value}
  (u3:findIn K (.ref qR) "of"=some (some (.ref tF))) (u4:isFn K (.ref tF)=true) (vB:K.lookup tF=some ⟨yI,yG,.func (fnOf "of" "Rests.of" (aR be) (aM be) (am be) (.ref ud) uW uX uY uV ue uZ),yH⟩) (vC:codeIn K ue "Rests.of"=true) (uy:keepIn K (.ref tF)=true)
  (uf:K.lookup ud=some ⟨yf,yg,.seq #[.int 1 vY] yF,yB⟩)
  {sE:Addr} {yh yi:Option Addr} {yj:Array (Option Value)} {yk yl ym yn vD yp:Value}
  (ul:findIn K (.ref qR) "plus"=some (some (.ref sE))) (um:isFn K (.ref sE)=true) (uL:K.lookup sE=some ⟨yk,yh,.func (fnOf "plus" "Rests.plus" (aR bT) (aM bT) (am bT) .none yl ym yn yi vD yp),yj⟩) (uM:codeIn K vD "Rests.plus"=true) (tG:keepIn K (.ref sE)=true)
  {rW:Addr} {xK xL:Option Addr} {xM:Array (Option Value)} {xN xO xP xQ vj xR:Value}
  (tX:findIn K (.ref qR) "times"=some (some (.ref rW))) (tY:isFn K (.ref rW)=true) (uo:K.lookup rW=some ⟨xN,xK,.func (fnOf "times" "Rests.times" (aR bG) (aM bG) (am bG) .none xO xP xQ xL vj xR),xM⟩) (ur:codeIn K vj "Rests.times"=true) (sR:keepIn K (.ref rW)=true)
  {rf:Addr} (xS:nsIn K mainGlobals "Ring"=some (some (.ref rf))) (xT:plainGet K rf Str.empty=true) (xU:hasDictIn K rf=true) (xV:plainOver K rf=true) (xW:findIn K (.ref rf) "__setattr__"=some (some (.builtin "object.__setattr__"))) (xX:makesIn K rf=true) (xY:keepIn K (.ref rf)=true)
  (tH:findIn K (.ref rf) "kind"=some none)
  (ut:findIn K (.ref rf) "width"=some none)
  {rF:Addr} {wQ wR:Option Addr} {wS:Array (Option Value)} {wT wU wV wW uN wX:Value}
  (rS:findIn K (.ref rf) "__init__"=some (some (.ref rF))) (rT:isFn K (.ref rF)=true) (tI:K.lookup rF=some ⟨wT,wQ,.func (fnOf "__init__" "Ring.__init__" (aR bt) (aM bt) (am bt) .none wU wV wW wR uN wX),wS⟩) (tJ:codeIn K uN "Ring.__init__"=true) (sf:keepIn K (.ref rF)=true)
  {rM:Addr} {xj xk:Option Addr} {xl:Array (Option Value)} {xm xn xp xq uP xr:Value}
  (tK:findIn K (.ref rf) "numbers"=some (some (.ref rM))) (tL:isFn K (.ref rM)=true) (tZ:K.lookup rM=some ⟨xm,xj,.func (fnOf "numbers" "Ring.numbers" (aR bD) (aM bD) (am bD) .none xn xp xq xk uP xr),xl⟩) (uc:codeIn K uP "Ring.numbers"=true) (sI:keepIn K (.ref rM)=true)
  {qP:Addr} (u5:nsIn K mainGlobals "NoNumber"=some (some (.ref qP)))
  (va:excIn K qP lf "ValueError.__new__"=true) (vb:findIn K (.ref qP) "__getattribute__"=some (some (.builtin "BaseException.__getattribute__"))) (vc:findIn K (.ref qP) "__getattr__"=some none) (vd:findIn K (.ref qP) "__class__"=some (some (.builtin "object.__class__"))) (ve:mroIn K qP (.type "object")=some true) (vf:mroIn K qP (.type "BaseException")=some true) (vg:specialIn K (.builtin "object.__class__") "__get__"=some (some (.builtin "getset_descriptor.__get__"))) (vh:takesIn K (.builtin "object.__class__")=some true)
  {qW:Addr} (vZ:nsIn K mainGlobals "NoRing"=some (some (.ref qW)))
  (v4:excIn K qW lf "ValueError.__new__"=true) (v5:findIn K (.ref qW) "__getattribute__"=some (some (.builtin "BaseException.__getattribute__"))) (v6:findIn K (.ref qW) "__getattr__"=some none) (v7:findIn K (.ref qW) "__class__"=some (some (.builtin "object.__class__"))) (v8:mroIn K qW (.type "object")=some true) (wa:mroIn K qW (.type "BaseException")=some true) (wb:specialIn K (.builtin "object.__class__") "__get__"=some (some (.builtin "getset_descriptor.__get__"))) (wc:takesIn K (.builtin "object.__class__")=some true)
  {xZ:Tok} (rX:nsIn K mainGlobals "LEAST_PRIME"=some (some (.int 2 xZ)))
  {wB:Tok} (rC:nsIn K mainGlobals "GREATEST_PRIME"=some (some (.int 9973 wB)))
  {xt:Tok} (rN:nsIn K mainGlobals "MOST_LETTERS"=some (some (.int 4 xt)))
  (z0:nsIn K mainGlobals "len"=some none) (z1:nsIn K mainGlobals "range"=some none) (z2:nsIn K mainGlobals "zip"=some none) (z3:nsIn K mainGlobals "all"=some none) (z4:nsIn K mainGlobals "sum"=some none) (z5:nsIn K mainGlobals "max"=some none) (z6:nsIn K mainGlobals "min"=some none) (z7:nsIn K mainGlobals "abs"=some none) (z8:nsIn K mainGlobals "tuple"=some none) (z9:nsIn K mainGlobals "list"=some none) (z10:nsIn K mainGlobals "int"=some none) (z11:nsIn K mainGlobals "bool"=some none) (z12:nsIn K mainGlobals "isinstance"=some none) (z13:nsIn K mainGlobals "enumerate"=some none) (z14:nsIn K mainGlobals "sorted"=some none) (z15:nsIn K mainGlobals "set"=some none) (z16:nsIn K mainGlobals "str"=some none) :
  ∃ fd:FuncData,(∀ (s:Shared) (v:Value),BindsTo s fd ⟨[v],[]⟩ [("_law_script",v)])/\∀ base:Heap,K.In base->base.Ns mainGlobals mg->oY l.prog w K mg base CX0 10 fa fd ["_law_script"] (spLaw K):=by
 have T:Blt mg:=⟨mg_none_of X G z0,mg_none_of X G z1,mg_none_of X G z2,mg_none_of X G z3,mg_none_of X G z4,mg_none_of X G z5,mg_none_of X G z6,mg_none_of X G z7,mg_none_of X G z8,mg_none_of X G z9,mg_none_of X G z10,mg_none_of X G z11,mg_none_of X G z12,mg_none_of X G z13,mg_none_of X G z14,mg_none_of X G z15,mg_none_of X G z16⟩
 refine d56.law X G hfa λ{_} {base} F56 _ _=>?_
 have M {k n sp} (h:FnB l.prog w K mg base k n sp):=h
 have sF:Cls K qQ:=⟨uD,uE,uF,uG⟩
 have yJ:=mg_of X G uC
 have wC:=eM (st:=aY) sK sL rG
 have wD:=wC.binds (ps:=["self"]) λ_ _ _ _ _ _ us hl=>match us,hl with | [_],_=>rfl
 have wE:fN K qQ "prime" rg:=⟨ss,sw,rG⟩
 have vk:=funD_mk (st:=aJ) tT tU sG
 have ya:pK K (fnOf "of" "Fractions.of" (aR aJ) (aM aJ) (am aJ) (.ref r6) tm tu tw tj r9 tz) ["self", "top", "bottom"] []:=λs us X hl=>match us,hl with | [_,_,_],_=>BindsTo.of_defaults rfl (X _ _ se) rfl rfl rfl
 have xu:pK K (fnOf "of" "Fractions.of" (aR aJ) (aM aJ) (am aJ) (.ref r6) tm tu tw tj r9 tz) ["self", "top", "bottom"] [.int 1 uK]:=λs us X hl=>by
  obtain ⟨z1,z2,rfl⟩:=two_of hl
  exact BindsTo.of_defaults rfl (X _ _ se) rfl rfl rfl
 have vn:fN K qQ "of" rL:=⟨tD,tE,sG⟩
 have wY:=eM (st:=bi) sS sT rQ
 have wZ:=wY.binds (ps:=["self", "one", "other"]) λ_ _ _ _ _ _ us hl=>match us,hl with | [_,_,_],_=>rfl
 have w8:fN K qQ "plus" rA:=⟨sM,sN,rQ⟩
 have wF:=eM (st:=aZ) sO sP rH
 have wG:=wF.binds (ps:=["self", "one", "other"]) λ_ _ _ _ _ _ us hl=>match us,hl with | [_,_,_],_=>rfl
 have wH:fN K qQ "times" rh:=⟨sC,sD,rH⟩
 have rD:Cls K qR:=⟨wK,wL,wM,wN⟩
 have yY:=mg_of X G wJ
 have xa:=eM (st:=bj) sU sV rR
 have xb:=xa.binds (ps:=["self", "prime"]) λ_ _ _ _ _ _ us hl=>match us,hl with | [_,_],_=>rfl
 have yU:fN K qR "__init__" rB:=⟨rJ,rK,rR⟩
 have yq:=eM (st:=bH) uj uk sQ
 have yr:=yq.binds (ps:=["self"]) λ_ _ _ _ _ _ us hl=>match us,hl with | [_],_=>rfl
 have yt:fN K qR "prime" rV:=⟨tV,tW,sQ⟩
 have xv:=funD_mk (st:=be) vB vC uy
 have yM:pK K (fnOf "of" "Rests.of" (aR be) (aM be) (am be) (.ref ud) uW uX uY uV ue uZ) ["self", "top", "bottom"] []:=λs us X hl=>match us,hl with | [_,_,_],_=>BindsTo.of_defaults rfl (X _ _ uf) rfl rfl rfl
 have yK:pK K (fnOf "of" "Rests.of" (aR be) (aM be) (am be) (.ref ud) uW uX uY uV ue uZ) ["self", "top", "bottom"] [.int 1 vY]:=λs us X hl=>by
  obtain ⟨z1,z2,rfl⟩:=two_of hl
  exact BindsTo.of_defaults rfl (X _ _ uf) rfl rfl rfl
 have xw:fN K qR "of" tF:=⟨u3,u4,uy⟩
 have yC:=eM (st:=bT) uL uM tG
 have yD:=yC.binds (ps:=["self", "one", "other"]) λ_ _ _ _ _ _ us hl=>match us,hl with | [_,_,_],_=>rfl
 have yE:fN K qR "plus" sE:=⟨ul,um,tG⟩
 have yu:=eM (st:=bG) uo ur sR
 have yw:=yu.binds (ps:=["self", "one", "other"]) λ_ _ _ _ _ _ us hl=>match us,hl with | [_,_,_],_=>rfl
 have yx:fN K qR "times" rW:=⟨tX,tY,sR⟩
 have yb:Cls K rf:=⟨xT,xU,xV,xW⟩
 have yZ:=mg_of X G xS
 have xx:=eM (st:=bt) tI tJ sf
 have xy:=xx.binds (ps:=["self", "numbers", "letters"]) λ_ _ _ _ _ _ us hl=>match us,hl with | [_,_,_],_=>rfl
 have yX:fN K rf "__init__" rF:=⟨rS,rT,sf⟩
 have yc:=eM (st:=bD) tZ uc sI
 have yd:=yc.binds (ps:=["self"]) λ_ _ _ _ _ _ us hl=>match us,hl with | [_],_=>rfl
 have ye:fN K rf "numbers" rM:=⟨tK,tL,sI⟩
 have uz:=mg_of X G u5
 have uA:XCl K qP:=⟨va,vb,vc,vd,ve,vf,vg,vh⟩
 have yV:=mg_of X G vZ
 have yW:XCl K qW:=⟨v4,v5,v6,v7,v8,wa,wb,wc⟩
 have rX:=mg_of X G rX
 have rC:=mg_of X G rC
 have rN:=mg_of X G rN
 have vo:=M (d20.fb X G λF=>ok_cell F T)
 have sj:=M (d21.fb X G λF=>ok_bag F vo)
 have qO:=M (d22.fb X G λF=>ok_take F)
 have rl:=M (d25.fb X G λF=>ok_whole F T)
 have rj:=M (d23.fb X G λF=>ok_great F qO)
 have sg:=M (d24.fb X G λF=>ok_signed F qO rj)
 have qV:=M (d26.fb X G λF=>ok_low F T)
 have tM:=M (d27.fb X G λF=>ok_lawprime F T)
 have uR:=M (d28.fb X G λF=>ok_prime F qO tM)
 have vE:=M (d2.fb X G λF=>ok_isprime F rX rC)
 have qZ:=M (d3.fb X G λF=>ok_gcd F T)
 have vt:=M (d4.fb X G λF=>ok_inverse F)
 have xz:=M (d6.fb X G λF=>ok_degree F T)
 have xA:=M (d7.fb X G λF=>ok_height F xz)
 have tO:=M (d5.fb X G λF=>ok_times F T)
 have yy:MkB l.prog w K mg base 2 qR "Rests" (nG qR):=⟨⟨_,_,_,ok_rinit xa rD qY vE,⟨wO,rJ,rK,wP⟩,xb⟩,yY⟩
 have ui:=M (d29.fb X G λF=>ok_nums F ⟨uH,uJ,uI⟩ yJ yy)
 have qU:=M (d34.fb X G λF=>ok_number0 F T qO rj sg qV)
 have sJ:=M (d48.fb X G λF=>ok_like F T rl qV)
 have vq:=M (d30.fb X G λF=>ok_lplus F qV)
 have uQ:=M (d31.fb X G λF=>ok_ltimes F qV)
 have rq:=M (d32.fb X G λF=>ok_nought F T)
 have rO:=M (d33.fb X G λF=>ok_unit F T)
 have vF:=M (d36.fb X G λF=>ok_lkey F T)
 have qS:=M (d37.fb X G λF=>ok_lsum F T vq rq vF)
 have qT:=M (d35.fb X G λF=>ok_product F T qO)
 have qX:=M (d38.fb X G λF=>ok_ltimesS F T uQ qS)
 have rY:=M (d40.fb X G λF=>ok_llevel F T)
 have vv:=M (d41.fb X G λF=>ok_wide F qO qV)
 have rE:=M (d44.fb X G λF=>ok_cols F T qO)
 have sX:=M (d42.fb X G λF=>ok_drawn F T qO qU vv qT qS rY rO)
 have sY:=M (d43.fb X G λF=>ok_again F T qO qU qT qX rq rO)
 have tN:=M (d46.fb X G λF=>ok_onepart F T)
 have uU:=M (d45.fb X G λF=>ok_table F T sj qO uR rE sX sY tN)
 have tQ:=M (d49.fb X G λF=>ok_slike F T rl sJ qS)
 have tR:=M (d50.fb X G λF=>ok_rowlikeT F T tQ)
 have vp:gZ l.prog w K mg base 2 qQ "of" [] (dU qP):=⟨⟨_,_,_,_,ok_fofx vk qZ uz uA,vn,ya,.nil⟩,sF⟩
 have yT:gZ l.prog w K mg base 2 qR "of" [] (fE qR qP):=⟨⟨_,_,_,_,ok_rofx xv rD qY vt uz uA,xw,yM,.nil⟩,rD⟩
 have uw:gZ l.prog w K mg base 2 qQ "of" [.int 1] (dU qP):=⟨⟨_,_,_,_,ok_fofx vk qZ uz uA,vn,xu,.cons ⟨_,rfl⟩ .nil⟩,sF⟩
 have ux:gZ l.prog w K mg base 2 qR "of" [.int 1] (fE qR qP):=⟨⟨_,_,_,_,ok_rofx xv rD qY vt uz uA,xw,yK,.cons ⟨_,rfl⟩ .nil⟩,rD⟩
 have yN:MtB l.prog w K mg base 3 qQ "plus" (j3 qQ λa b=>(a.1*b.2+b.1*a.2,a.2*b.2)):=⟨⟨_,_,_,ok_fplus wY vp,w8,wZ⟩,sF⟩
 have yO:MtB l.prog w K mg base 3 qR "plus" (kh qR (· + ·)):=⟨⟨_,_,_,(ok_rplus yC rD qY).mono (by decide),yE,yD⟩,rD⟩
 have yP:MtB l.prog w K mg base 3 qQ "times" (j3 qQ λa b=>(a.1*b.1,a.2*b.2)):=⟨⟨_,_,_,ok_ftimes wF vp,wH,wG⟩,sF⟩
 have yQ:MtB l.prog w K mg base 3 qR "times" (kh qR (· * ·)):=⟨⟨_,_,_,(ok_rtimes yu rD qY).mono (by decide),yx,yw⟩,rD⟩
 have yR:MtB l.prog w K mg base 1 qQ "prime" spFPr:=⟨⟨_,_,_,ok_fpr wC,wE,wD⟩,sF⟩
 have yS:MtB l.prog w K mg base 1 qR "prime" (spRPr qR):=⟨⟨_,_,_,ok_rpr yq rD qY,yt,yr⟩,rD⟩
 have si:MtB l.prog w K mg base 1 rf "numbers" (g0 rf):=⟨⟨_,_,_,ok_rnum yc yb tH,ye,yd⟩,yb⟩
 have yL:MkBX l.prog w K mg base 2 rf "Ring" (kL rf qW):=⟨⟨_,_,_,ok_ginit xx yb tH ut rN yV yW,⟨xX,rS,rT,xY⟩,xy⟩,yZ⟩
 have vx:FnBX l.prog w K mg base 5 "_law_ring" (nF qQ qR rf qW):=d51.fx X G λF=>ok_ring F ui yL
 have uB:=M (d8.fb X G λF=>ok_sumof F T xA si yN yO uw ux)
 have wd:=M (d9.fb X G λF=>ok_plus F uB)
 have xB:=M (d14.fb X G λF=>ok_scaled F si yP yQ uw ux)
 have yz:=M (d10.fb X G λF=>ok_minus F si wd xB uw ux)
 have rZ:=M (d0.fb X G λF=>ok_tb F yR yS)
 have tP:=M (d1.fb X G λF=>ok_fpl F qZ)
 have rm:=M (d12.fb X G λF=>ok_terms F si rZ tO)
 have sW:=M (d13.fb X G λF=>ok_gath F si tP uB vp yT)
 have yA:=M (d11.fb X G λF=>ok_timesS F sW rm)
 have uO:=M (d15.fb X G λF=>ok_rowplus F T wd)
 have vy:=M (d16.fb X G λF=>ok_rowminus F T yz)
 have vz:=M (d17.fb X G λF=>ok_rowtimes F yA)
 have vG:=M (d19.fb X G λF=>ok_termsat F T rm)
 have vA:=M (d18.fb X G λF=>ok_mix F T sW vG)
 have rP:=M (d52.fb X G λF=>ok_spread F T qO qU qT qS)
 have sZ:=M (d53.fb X G λF=>oM F T qO qU qT qS rY)
 have uT:=M (d39.fb X G λF=>ok_mixed F T qS qX)
 have sk:=M (d47.fb X G λF=>ok_copied F T)
 have uS:=M (d54.fb X G λF=>ok_added F T qS)
 have tS:=M (d55.fb X G λF=>ok_good F T vx qO rP qT qU qS sZ sk uS qX uT tR uO vy vz vA)
 exact ok_law F56 T uU sj tS
theorem walk {l:PySem.W.OpenLaw} {q:Program} {loose:List Str} {XP:(Str->Option Value)->Heap->Prop} {YP:World->Heap->Prop} {d:DefRec} {K:Params->Frag} (hn:l.most=some 63) (hdf:d.params.defaults=[])
  (hY:∀ (w:World) (h:Heap),YP w h->(K w.params).In h)
  (F:∀ (w:World) (mg:Str->Option Value) (fa:Addr) (h:Heap),(K w.params).In h->h.Ns mainGlobals mg->mg d.name=some (.ref fa)->
   ∃ fd:FuncData,(∀ (s:Shared) (u:Value),BindsTo s fd ⟨[u],[]⟩ [("_law_script",u)])/\∀ base:Heap,(K w.params).In base->base.Ns mainGlobals mg->oY l.prog w (K w.params) mg base CX0 10 fa fd ["_law_script"] (spLaw (K w.params))) :
  PySem.W.WalkO q loose XP YP l.row.toRowW d [] (λf vs=>PySem.call f vs):=
 L2.walk_of (n:=63) (k:=10) (x := "_law_script") (CX:=λ_=>CX0) (sp:=λw=>spLaw (K w.params)) hn (by decide) hdf ⟨rfl,by decide,by decide⟩ hY F (λ_ _ a ns hl _ hS=>⟨a,ns,rfl,hS,hl,λ_=>rfl⟩) λ_ _ _ _ _ z=>z
end K
namespace PySem.W.Fast
def tw5111551664925649301:=0
def tw3201637673461539226:=0
def tw3113128153554203506:=0
def tw8079583993499223128:=0
def tw7059234545030249320:=0
def tw8386101971241532257:=0
def tw280150747507347803:=0
def tw7167560835925442424:=0
def tw905798032807936576:=0
def tw160018145719350185:=0
def tw15805082665830391221:=0
def tw1095083234735346170:=0
def tw4695131727821851104:=0
def tw15786538349161765028:=0
def tw1394589071052214235:=0
def tw9289320839022372303:=0
def tw3052045280806733258:=0
def tw10803718436184430331:=0
def tw10667318720289976935:=0
def tw8694612251188469067:=0
def tw2386914012457224842:=0
def tw14803124027035169327:=0
def tw14354619063229006689:=0
def tw8353294146199427297:=0
def tw8792191264340834169:=0
def tw1337487115948056269:=0
def tw674193792520578586:=0
def tw3373932533777800107:=0
def tw18217176772667608742:=0
def tw1126447365362865953:=0
def tw1269462567929388566:=0
def tw10229879243768932114:=0
def tw2862018296986244973:=0
def tw4173594782211051548:=0
def tw10163983068615972400:=0
def tw8575171790881584329:=0
def tw9734065863865698727:=0
def tw9781472706458443999:=0
def tw3197131585056087228:=0
def tw16801185791816507923:=0
def tw3083149263161045762:=0
def tw6207110620838874584:=0
def tw15130739072204319544:=0
def tw11282089796261554275:=0
def tw15317227658750123658:=0
def tw13216347106759498413:=0
def tw2338964486682113212:=0
def tw2248254912717028824:=0
def tw1286724657064962777:=0
def tw8204141274154445497:=0
def tw18382313481625499671:=0
def tw1775681642626434592:=0
def tw15518085701248052376:=0
def tw7935153315045871061:=0
def tw4260592086633614336:=0
def tw16666607033233873028:=0
def tw7811079695172719165:=0
def tw437956713200079500:=0
def tw17222847642707282147:=0
def tw16118802549769837139:=0
def tw9935726739719883032:=0
def tw13338752648273595015:=0
def tw1106877540258983095:=0
def tw10574097406011667774:=0
def tw5244703711181216535:=0
def tw7016393162929469104:=0
def tw17564907752034552581:=0
def tw963305464796591773:=0
def tw8384346425122384997:=0
def tw772719938347434616:=0
def tw7605338761347292299:=0
def tw4218720251672879848:=0
def tw5641582211045843499:=0
def tw4182004103100755169:=0
def tw7078735885096866721:=0
def tw4583933876990156348:=0
def tw15949401007322091026:=0
def tw13375127322707330514:=0
def tw14333405376889430337:=0
def tw11254390300682642399:=0
def tw5217158549043933424:=0
def tw3504307480130107653:=0
def tw18171653190143970463:=0
def tw2402900359398727858:=0
def tw8067816505642329312:=0
def tw2545328527650821325:=0
def tw3368993615901397796:=0
def tw18240669853367065531:=0
def tw9066986500612241567:=0
def tw7155081782992319547:=0
def tw15536186901978442093:=0
def tw16670372817071677733:=0
def tw8607889037547291937:=0
def tw6964599370514972229:=0
def tw2805634014960579191:=0
def tw7605930409175398320:=0
def tw7052004320582032888:=0
def tw1997055816522822538:=0
def tw17577674111173777816:=0
def tw1417827285710130043:=0
def tw12791338712462091213:=0
def tw11889019803628579683:=0
def tw7122846242662683188:=0
def tw812314079951615024:=0
def tw17926411234577813599:=0
def tw6177605993010391248:=0
def tw15502023433904927116:=0
def tw5837687636374996770:=0
def tw7722565104697105294:=0
def tw7186588564999718024:=0
def tw662041468549223826:=0
def tw17187740868735324753:=0
def tw16169085689222373990:=0
def tw1528685805678335020:=0
def tw12626462050604269618:=0
def tw11925393920207331229:=0
def tw7499754014332853967:=0
def tw15715457958322390771:=0
def tw1129616449569813969:=0
def tw10163506158546254950:=0
def tw4945585368891828081:=0
def tw4024225522205390761:=0
def tw17925945606967023744:=0
def tw5028969823742427742:=0
def tw7622361537597476411:=0
def tw13604560092085809910:=0
def tw1071674309472540543:=0
def tw5885654578819342246:=0
def tw11891972801187596502:=0
def tw10224343154749671948:=0
def tw8450978996691027835:=0
def tw13031141650536858811:=0
def tw10973927086967043748:=0
def tw6533532375299995810:=0
def tw2174866247642364237:=0
def tw1078022703917829037:=0
def tw10108119151916197379:=0
def tw4093426112543807320:=0
def tw2395531806589083901:=0
def tw8085807017797456732:=0
def tw18396843575555130491:=0
def tw14970772333181225998:=0
def tw1909964519106204738:=0
def tw8964770096388775837:=0
def tw14703802506903477234:=0
def tw1009220885325166889:=0
def tw6847540955808671078:=0
def tw11795882981383650714:=0
def tw7700516618275357624:=0
def tw7762752867276462909:=0
def tw5141372576939788226:=0
def tw6356013133982950645:=0
def tw6382478981820312353:=0
def tw7846840177988778610:=0
def tw2274433632734261749:=0
def tw16942185478119320917:=0
def tw13343823860576312673:=0
def tw10167774507292237686:=0
def tw9535718805300243238:=0
def tw614362005340807586:=0
def tw12494266765544645772:=0
def tw16608083215830977582:=0
def tw5543090732406684388:=0
def tw490458057165964773:=0
def tw3395256948325482634:=0
def tw14247158403317917218:=0
def tw14007039490798068307:=0
def tw13319290752196449261:=0
def tw10083175801932254011:=0
def tw716464489286269076:=0
def tw5590717055231089233:=0
def tw4517960733872747103:=0
def tw2221528012056880502:=0
def tw1674951894041850446:=0
def tw1211361056506036604:=0
def tw11610253010832860033:=0
def tw15454765316223646776:=0
def tw17317945752379804527:=0
def tw13081196668792615975:=0
def tw818283957721741732:=0
def tw8859041084753060102:=0
def tw13669791818229734090:=0
def tw12997338051646003858:=0
def tw7126492229419068834:=0
def tw12528234904257373819:=0
def tw10910545509611417008:=0
def tw9092197822407805072:=0
def tw12292796803854115836:=0
def tw18204163143156866972:=0
def tw663105415472459653:=0
def tw18096913073566266196:=0
def tw14122273544542526454:=0
def tw3508886328516626846:=0
def tw9789437378347616845:=0
def tw7158735927803403702:=0
def tw1934857258467069547:=0
def tw6294366123442344668:=0
def tw11898500802407186474:=0
def tw6364715677523823114:=0
def tw10711337570203301831:=0
def tw8287846391883283211:=0
def tw1686137956639608579:=0
def tw1675455666712264140:=0
def tw6246527481707522111:=0
def tw3590717222780966015:=0
def tw17581936257982963654:=0
def tw4338609530497012941:=0
def tw3608302576871831490:=0
def tw12178039191085275278:=0
def tw1432628301234075647:=0
def tw7113127210126836818:=0
def tw6954054492949377312:=0
def tw15416164601920080087:=0
def tw14971442293984638750:=0
def tw15752901602607226212:=0
def tw15848253051583158396:=0
def tw10917490270422405428:=0
def tw12712213734762962929:=0
def tw13147006975035325453:=0
def tw16079248781217104217:=0
def tw1774918316868816968:=0
def tw2433359959900792935:=0
def tw1333903257675996648:=0
def tw4330226596413573302:=0
def tw2132992172119428237:=0
def tw11422069458587866955:=0
def tw1841901615247332092:=0
def tw15560765083439080831:=0
def tw15739318476786508753:=0
def tw11972680177539671964:=0
def tw17016327044640325901:=0
def tw383553633079891473:=0
def tw12207962116580317314:=0
def tw3853704846193229047:=0
def tw9219207764251263695:=0
def tw9286825630533440997:=0
def tw3933236235347522818:=0
def tw7276517500092871883:=0
def tw8991016402652116558:=0
def tw2282676856939912218:=0
def tw11290231027376032160:=0
def tw1454284337115420588:=0
def tw4590116095980163375:=0
def tw5244371262253454250:=0
def tw12790015048452311403:=0
def tw5106687151590024133:=0
def tw12653916443018570727:=0
def tw3250810478572640553:=0
def tw5061208752237285785:=0
def tw1638747358838779213:=0
def tw9819305007630081004:=0
def tw17324948715425438944:=0
def tw14509319663463277877:=0
def tw14275046615499564397:=0
def tw14609108211259610837:=0
def tw7389164398782368748:=0
def tw17669796754221335326:=0
def tw15029563848507362744:=0
def tw7752287684021770260:=0
def tw5434123705247074381:=0
def tw9217579570718643598:=0
def tw12263184926992396611:=0
def tw16532223496374574854:=0
def tw3642348364417266927:=0
def tw14521746064659876966:=0
def tw1792899389247223820:=0
def tw13776089701015432405:=0
def tw10170438658905081660:=0
def tw184092545633528051:=0
def tw470495033231781304:=0
def tw801291871772989720:=0
def tw14731030458020103422:=0
def tw6977091253893849477:=0
def tw6878671932235926123:=0
def tw4909683458261047100:=0
def tw5767127468925231181:=0
def tw6470795954353607521:=0
def tw15742994817522414896:=0
def tw1246265992792583341:=0
def tw16476783088300819551:=0
def tw15260809501062953978:=0
def tw14370192508351608801:=0
def tw1153053524420622060:=0
def tw10523296694687533384:=0
def tw4312256682478169858:=0
def tw3440273687336857681:=0
def tw11490679242526239895:=0
def tw17282876569838856911:=0
def tw1576241272535990354:=0
def tw5108096530272853665:=0
def tw8143953665379025687:=0
def tw13282993401404355669:=0
def tw16204504472200548831:=0
def tw1812694476912279956:=0
def tw3842898781698340720:=0
def tw7167960739065376703:=0
def tw3427625109965795048:=0
def tw12562277949155556835:=0
def tw10014654252426304596:=0
def tw18186447065121653765:=0
def tw5233412079291453190:=0
def tw9490995890473003711:=0
def tw603634730797088688:=0
def tw7840218367322974033:=0
def tw8030082948118061222:=0
def tw7816727194106292219:=0
def tw14073225220319280619:=0
def tw1164127696212811433:=0
def tw3070669050434305431:=0
def tw17536281117028816688:=0
def tw9589834624438600812:=0
def tw7187840206115919107:=0
def tw12915611373477189356:=0
def tw8877195903665748521:=0
def tw5283215640965497625:=0
def tw28769460049880718:=0
def tw432195843623350336:=0
def tw10373201828013987640:=0
def tw17082422721802824849:=0
def tw12323161966199390823:=0
def tw10126136916877045315:=0
def tw5759727279821574712:=0
def tw8422749876618233498:=0
def tw4975204805328341411:=0
def tw10536695733045912968:=0
def tw7217487700973099843:=0
def tw13294572995757934011:=0
def tw12602321602777268566:=0
def tw653569066055215113:=0
def tw7319076390851964750:=0
def tw12719242752037734061:=0
def tw12350173957541849710:=0
def tw1161152998435521571:=0
def tw8905114069106291759:=0
def tw14133369778259169025:=0
def tw9704097423774080427:=0
def tw10374748362136906009:=0
def tw592142101641269158:=0
def tw7042485858171380746:=0
def tw17124351820881799484:=0
def tw5080384515103334124:=0
def tw13910012581883986025:=0
def tw12707365548671249851:=0
def tw9737748743197593441:=0
def tw5988417730864529549:=0
def tw7653039958268252845:=0
def tw10142818709392047457:=0
def tw12793484228029932281:=0
def tw7211139075528859979:=0
def tw3233539886045086109:=0
def tw16429103356567843293:=0
def tw5368953939265199755:=0
def tw3640612944850740893:=0
def tw17072854647110828562:=0
def tw8474410881803542750:=0
def tw2245985583167580828:=0
def tw18113647098546954476:=0
def tw4408991316084516373:=0
def tw17542755472854055424:=0
def tw4271088637879551016:=0
def tw18011137364835492618:=0
def tw1021391891175979758:=0
def tw6806260097481066090:=0
def tw2293428366516112780:=0
def tw2377058440395463244:=0
def tw11800012754390625844:=0
def tw11828143385573931091:=0
def tw14206582035253693949:=0
def tw5568973457721150257:=0
def tw14677578071217943320:=0
def tw14382897612603274321:=0
def tw4216727978368553271:=0
def tw9196284677659395795:=0
def tw3559667741831682884:=0
def tw6714281038022236690:=0
def tw18430925062351133050:=0
def tw13983500886542295474:=0
def tw4165128094324905685:=0
def tw9954901770526512052:=0
def tw16819600195240573253:=0
def tw13633416416769312820:=0
def tw4343496188591176118:=0
def tw14270950144225097622:=0
def tw16333086069538630192:=0
def tw12852367216924987087:=0
def tw8676472209939055517:=0
def tw10756592983202324815:=0
def tw16928196415917729220:=0
def tw18190232786305560393:=0
def tw9475916205492218688:=0
def tw5536887690506372569:=0
def tw662719268751963884:=0
def tw3014432994668369640:=0
end PySem.W.Fast
open PySem PySem.W PyProof.Rows
set_option maxRecDepth 100000 in
set_option maxHeartbeats 0 in
theorem PySem.Challenge.cw_relationladder_k16_rows_mixed_holds : PySem.Challenge.rw_relationladder_k16_rows_mixed.Holds := by
 w_on; o_law; k_head; (case hw=>w_witness2)
 k_fill
 refine K.walk (l:=PySem.Challenge.rw_relationladder_k16_rows_mixed) rfl rfl (λw h Y=>PySem.W.kIn_of Y) ?F
 case F=>
  intro w mg fa h KX G hmg
  refine' K.all_mk KX G hmg ?d0 ?d1 ?d2 ?d3 ?d4 ?d5 ?d6 ?d7 ?d8 ?d9 ?d10 ?d11 ?d12 ?d13 ?d14 ?d15 ?d16 ?d17 ?d18 ?d19 ?d20 ?d21 ?d22 ?d23 ?d24 ?d25 ?d26 ?d27 ?d28 ?d29 ?d30 ?d31 ?d32 ?d33 ?d34 ?d35 ?d36 ?d37 ?d38 ?d39 ?d40 ?d41 ?d42 ?d43 ?d44 ?d45 ?d46 ?d47 ?d48 ?d49 ?d50 ?d51 ?d52 ?d53 ?d54 ?d55 ?d56 ?uC ?uD ?uE ?uF ?uG ?uH ?uI ?uJ ?ss ?sw ?sK ?sL ?rG ?tD ?tE ?tT ?tU ?sG ?se ?sM ?sN ?sS ?sT ?rQ ?sC ?sD ?sO ?sP ?rH ?wJ ?wK ?wL ?wM ?wN ?wO ?wP ?qY ?rJ ?rK ?sU ?sV ?rR ?tV ?tW ?uj ?uk ?sQ ?u3 ?u4 ?vB ?vC ?uy ?uf ?ul ?um ?uL ?uM ?tG ?tX ?tY ?uo ?ur ?sR ?xS ?xT ?xU ?xV ?xW ?xX ?xY ?tH ?ut ?rS ?rT ?tI ?tJ ?sf ?tK ?tL ?tZ ?uc ?sI ?u5 ?va ?vb ?vc ?vd ?ve ?vf ?vg ?vh ?vZ ?v4 ?v5 ?v6 ?v7 ?v8 ?wa ?wb ?wc ?rX ?rC ?rN ?z0 ?z1 ?z2 ?z3 ?z4 ?z5 ?z6 ?z7 ?z8 ?z9 ?z10 ?z11 ?z12 ?z13 ?z14 ?z15 ?z16
  (case d0|d1|d2|d3|d4|d5|d6|d7|d8|d9|d10|d11|d12|d13|d14|d15|d16|d17|d18|d19=>refine' .mk ?a ?l ?c ?k; (case a=>k_is); (case l=>k_is); (case c=>k_is); (case k=>k_is))
  (case d20|d21|d22|d23|d24|d25|d26|d27|d28|d29|d30|d31|d32|d33|d34|d35|d36|d37|d38|d39=>refine' .mk ?a ?l ?c ?k; (case a=>k_is); (case l=>k_is); (case c=>k_is); (case k=>k_is))
  (case d40|d41|d42|d43|d44|d45|d46|d47|d48|d49|d50|d51|d52|d53|d54|d55|d56=>refine' .mk ?a ?l ?c ?k; (case a=>k_is); (case l=>k_is); (case c=>k_is); (case k=>k_is))
  (case uC|uD|uE|uF|uG|uH|uI|uJ|ss|sw|sK|sL|rG|tD|tE|tT|tU|sG|se|sM=>k_is)
  (case sN|sS|sT|rQ|sC|sD|sO|sP|rH|wJ|wK|wL|wM|wN|wO|wP|qY|rJ|rK|sU=>k_is)
  (case sV|rR|tV|tW|uj|uk|sQ|u3|u4|vB|vC|uy|uf|ul|um|uL|uM|tG|tX|tY=>k_is)
  (case uo|ur|sR|xS|xT|xU|xV|xW|xX|xY|tH|ut|rS|rT|tI|tJ|sf|tK|tL|tZ=>k_is)
  (case uc|sI|u5=>k_is)
  (case va=>first | k_is | k_exc | kit_is | kts_exm)
  (case vb|vc|vd|ve|vf|vg|vh|vZ=>k_is)
  (case v4=>first | k_is | k_exc | kit_is | kts_exm)
  (case v5|v6|v7|v8|wa|wb|wc|rX|rC|rN|z0|z1|z2|z3|z4|z5|z6|z7|z8|z9=>k_is)
  (case z10|z11|z12|z13|z14|z15|z16=>k_is)
