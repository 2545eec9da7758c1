import PyProof.Rows.All
import Wide.All
import OpenK.AllK
import Wide.FinOn
import Lean
import PyProof.EqAt
import PyProof.EqKinds
import PyProof.TupleCall
import KE.KMinKey
import PySem.Challenge.RW_relationladder_k13_products_of_sums
set_option Elab.async false
set_option linter.all false
set_option maxRecDepth 100000
open PySem.W (instObj hideAll_get Frag lookIn plainGet hasDictIn findIn isFn plainOver makesIn emptyDict keepIn specialIn takesIn mroIn kitOne kia_one fnOf codeIn excIn nsIn mg_of mg_none_of)
open List (filterMap_cons mem_cons_self mem_cons_of_mem mem_append_left getElem_inj mem_append_right length_cons map_cons length_map append_nil of_mem_zip length_take getElem?_append_right getElem?_append_left getElem?_map take_sublist mem_of_getElem? length_append length_nil map_nil length_drop size_toArray length_singleton forIn_cons lookup_cons all_eq_true zipIdx_cons forIn_nil mem_cons not_mem_nil getD_eq_getElem?_getD getElem?_eq_getElem getElem_mem take_succ sum_append take_of_length_le length_zipWith find?_cons any_cons map_append length_reverse reverse_perm reverse_reverse map_snd_zip pairwise_singleton getElem?_reverse map_map map_congr_left append_assoc pairwise_append extract_eq_take_drop drop_eq_nil_of_le drop_drop take_append_drop reverse_append take_zero mem_of_mem_take foldl_cons take_succ_cons foldl_append take_add_one take_length sum_cons flatMap_append)
open PySem.Heap (lt_size get?_push_of_some get?_push_size size_push get?_update_self get?_update_other)
namespace L2
open PySem PySem.Spec PyProof.Rows
abbrev Key:=Sum Int Str
def kn:Key->Value->Bool
 | .inl k,v=>Value.isInt k v
 | .inr x,v=>Value.isStrOf x v
def keyH (w:World):Key->Int
 | .inl k=>hashInt k
 | .inr x=>hashStr w x
theorem aY:∀ {k:Key} {v:Value},kn k v=true->(∃ i t,k=Sum.inl i/\v=Value.int i t)\/(∃ x t,k=Sum.inr x/\v=Value.str x t)
 | .inl i,v,h=>by
  obtain ⟨t,e⟩:=Value.isInt_shape (k:=i) (v:=v) h
  exact .inl ⟨i,t,rfl,e⟩
 | .inr x,v,h=>by
  obtain ⟨t,e⟩:=Value.isStrOf_shape (x:=x) (v:=v) h
  exact .inr ⟨x,t,rfl,e⟩
theorem keyIs_int (i:Int) (t:Tok):kn (.inl i) (.int i t)=true:=by simp [kn,Value.isInt]
theorem keyIs_str (x:Str) (t:Tok):kn (.inr x) (.str x t)=true:=by simp [kn,Value.isStrOf]
theorem key_ll (a b:Int):decide ((Sum.inl a:Key)=Sum.inl b)=(a == b):=by
 by_cases e:a=b
 ·subst e; simp
 ·have h:¬ (Sum.inl a:Key)=Sum.inl b:=λq=>e (Sum.inl.inj q)
  rw [decide_eq_false h]
  exact (beq_eq_false_iff_ne.mpr e).symm
theorem key_rr (a b:Str):decide ((Sum.inr a:Key)=Sum.inr b)=decide (a=b):=by
 by_cases e:a=b
 ·subst e; simp
 ·have h:¬ (Sum.inr a:Key)=Sum.inr b:=λq=>e (Sum.inr.inj q)
  rw [decide_eq_false h,decide_eq_false e]
theorem key_lr (a:Int) (b:Str):decide ((Sum.inl a:Key)=Sum.inr b)=false:=decide_eq_false (λq=>nomatch q)
theorem key_rl (a:Str) (b:Int):decide ((Sum.inr a:Key)=Sum.inl b)=false:=decide_eq_false (λq=>nomatch q)
def aQ (prog:Program) (w:World):PySem.KeyKind prog w Key where
 is:=kn
 hash:=keyH w
 inj:=λv a b ha hb=>by
  rcases aY ha with ⟨i,t,rfl,rfl⟩ | ⟨x,t,rfl,rfl⟩
  ·rcases aY hb with ⟨j,u,rfl,e⟩ | ⟨y,u,rfl,e⟩
   ·injection e with e1 _; rw [e1]
   ·exact nomatch e
  ·rcases aY hb with ⟨j,u,rfl,e⟩ | ⟨y,u,rfl,e⟩
   ·exact nomatch e
   ·injection e with e1 _; rw [e1]
 byValue:=λk v h=>by
  rcases aY h with ⟨i,t,rfl,rfl⟩ | ⟨x,t,rfl,rfl⟩<;>rfl
 pyHash:=λhv h=>by
  rcases aY hv with ⟨i,t,rfl,rfl⟩ | ⟨x,t,rfl,rfl⟩
  ·exact wpAny_pyHash_int h
  ·exact wpAny_pyHash_str h
 eqBool:=λhu hv h=>by
  rcases aY hu with ⟨i,t,rfl,rfl⟩ | ⟨x,t,rfl,rfl⟩
  ·rcases aY hv with ⟨j,u,rfl,rfl⟩ | ⟨y,u,rfl,rfl⟩
   ·rw [key_ll] at h; exact wpAny_eqBool_int h
   ·rw [key_lr] at h; exact SeqAt.EqAt.int_str i t y u _ _ _ _ h
  ·rcases aY hv with ⟨j,u,rfl,rfl⟩ | ⟨y,u,rfl,rfl⟩
   ·rw [key_rl] at h; exact SeqAt.EqAt.str_int x t j u _ _ _ _ h
   ·rw [key_rr] at h; exact wpAny_eqBool_str h
 «strs»:=λk x t v h=>by
  rcases aY h with ⟨i,u,rfl,e⟩ | ⟨y,u,rfl,e⟩
  ·exact nomatch e
  ·injection e with e1 _
   subst e1
   cases v<;>rfl
theorem mixKind_int (prog:Program) (w:World) (i:Int) (t:Tok):(aQ prog w).is (.inl i) (.int i t)=true:=keyIs_int i t
theorem mixKind_str (prog:Program) (w:World) (x:Str) (t:Tok):(aQ prog w).is (.inr x) (.str x t)=true:=keyIs_str x t
inductive V where
 | non | bl (b:Bool) | int (i:Int) | str (x:Str) | byt (b:Array UInt8) | flt (b:UInt64) | ref (a:Addr) | ty (n:String)
 deriving DecidableEq
def md:V->Value->Prop
 | .non,u=>u=Value.none
 | .bl b,u=>u=Value.bool b
 | .int i,u=>∃ t,u=Value.int i t
 | .str x,u=>∃ t,u=Value.str x t
 | .byt b,u=>∃ t,u=Value.bytes b t
 | .flt b,u=>∃ t,u=Value.float b t
 | .ref a,u=>u=Value.ref a
 | .ty n,u=>u=Value.type n
abbrev l9:List V->List Value->Prop:=Paired md
theorem l9.length {xs:List V} {us:List Value} (r:l9 xs us):xs.length=us.length:=Paired.length r
theorem l9.get:∀ {xs:List V} {us:List Value} {i:Nat} {x:V},l9 xs us->xs[i]? = some x->∃ u,us[i]? = some u/\md x u
 | _,_,_,_,.nil,e=>by simp at e
 | _,_,0,_,.cons r _,e=>by simp at e; subst e; exact ⟨_,rfl,r⟩
 | _,_,i+1,x,.cons _ t,e=>by
  obtain ⟨u,h1,h2⟩:=l9.get (i:=i) (x:=x) t (by simpa using e)
  exact ⟨u,by simpa using h1,h2⟩
theorem l9.set {x:V} {u:Value} (r:md x u):∀ {xs:List V} {us:List Value} (i:Nat),l9 xs us->l9 (xs.set i x) (us.set i u)
 | _,_,_,.nil=>.nil
 | _,_,0,.cons _ t=>.cons r t
 | _,_,i+1,.cons q t=>.cons q (l9.set r i t)
theorem l9.append:∀ {xs ys:List V} {us ws:List Value},l9 xs us->l9 ys ws->l9 (xs++ys) (us++ws)
 | _,_,_,_,.nil,s=>s
 | _,_,_,_,.cons r t,s=>.cons r (l9.append t s)
theorem l9.take:∀ {xs:List V} {us:List Value} (n:Nat),l9 xs us->l9 (xs.take n) (us.take n)
 | _,_,0,_=>.nil
 | _,_,_+1,.nil=>.nil
 | _,_,n+1,.cons r t=>.cons r (l9.take n t)
theorem l9.drop:∀ {xs:List V} {us:List Value} (n:Nat),l9 xs us->l9 (xs.drop n) (us.drop n)
 | _,_,0,r=>r
 | _,_,_+1,.nil=>.nil
 | _,_,n+1,.cons _ t=>l9.drop n t
def RelO:Option V->Option Value->Prop
 | some v,some u=>md v u
 | none,none=>True
 | _,_=>False
def KV {κ:Type}:List (κ × V)->List (κ × Value)->Prop:=Paired λ(p:κ × V) (q:κ × Value)=>p.1=q.1/\md p.2 q.2
def kV:Key->V
 | .inl i=>.int i
 | .inr x=>.str x
inductive HO where
 | lst (xs:List V)
 | tup (xs:List V)
 | dK (kvs:List (Key × V)) | dT (kvs:List (List Key × V))
 | set (S:Int->Bool) (n:Nat)
 | ins (C dx:Addr) (fs:List (Str × V))
 | own (x:Addr)
 | xd (fs:List (Str × V))
 | met (f x:Addr)
 | rng (lo hi:Int)
 | frz (o:Obj) (u:HO)
 | tbl (ps:Array Value)
 | ext (φ:Heap->Prop)
abbrev Hp:=Addr->Option HO
def upd (H:Hp) (a:Addr) (o:HO):Hp:=λb=>if b=a then some o else H b
theorem af {H:Hp} {a:Addr} {o:HO}:upd H a o a=some o:=by unfold upd; rw [if_pos rfl]
theorem am {H:Hp} {a b:Addr} {o:HO} (h:b ≠ a):upd H a o b=H b:=by unfold upd; rw [if_neg h]
theorem cC {H:Hp} {a:Addr} {o u:HO}:upd (upd H a o) a u=upd H a u:=by
 funext b; unfold upd; split<;>rfl
theorem bh {H:Hp} {a b:Addr} {o u:HO} (h:H a=some o) (h':H b=some u) (d:o ≠ u):a ≠ b:=by
 intro e; subst e; rw [h] at h'; exact d (Option.some.inj h')
theorem ak {H:Hp} {a b:Addr} {o:HO} (h:H a=some o) (h':H b=none):a ≠ b:=by
 intro e; subst e; rw [h] at h'; cases h'
section
variable (P:Program) (w:World)
def mi (H:Hp) (h:Heap) (a:Addr):HO->Prop
 | .lst xs=>xs.length<=sizeLine/\∃ (its:List Value) (n:Nat),l9 xs its/\h.get? a=some { cls:=.type "list",data:=.seq its.toArray n }
 | .tup xs=>xs.length<=sizeLine/\∃ its:List Value,l9 xs its/\IsTup h a its.toArray
 | .dK kvs=>kvs.length<=sizeLine/\(a == sysModules)=false/\∃ vs,KV kvs vs/\h.DictOf (aQ P w) a vs
 | .dT kvs=>kvs.length<=sizeLine/\(a == sysModules)=false/\∃ xs:List (List Key × Addr × Value),
   Paired (λ(p:List Key × V) (q:List Key × Addr × Value)=>p.1=q.1/\H q.2.1=some (.tup (p.1.map kV))/\md p.2 q.2.2) kvs xs/\
   ∃ o es ep,h.get? a=some o/\o.ExactDict/\o.data=.dict es ep/\es.toList=xs.map (entryOfKey (tupleKind (aQ P w)))/\(xs.map (·.1)).Nodup
 | .set S n=>h.SetOf (intKind P w) a S n
 | .ins C dx fs=>H dx=some (.own a)/\fs.length<=1000/\dx ≠ a/\h.get? a=some (instObj C dx)/\
   ∃ mA,h.Ns1 dx mA/\(∀ f,RelO (fs.lookup f) (mA f))/\PySem.Within mA (fs.map (·.1))
 | .own _=>∃ o,h.get? a=some o
 | .xd fs=>∃ mA,h.Ns1 a mA/\∀ f,RelO (fs.lookup f) (mA f)
 | .rng lo hi=>∃ t u v,h.get? a=some { cls:=.type "range",data:=.fields #[.int lo t,.int hi u,.int 1 v] }
 | .frz o u=>h.get? a=some o/\mi H h a u
 | .tbl ps=>h.get? a=some { cls:=.none,data:=.fields ps }
 | .met f x=>h.get? a=some (PySem.W.methodObj (.ref f) (.ref x))
 | .ext φ=>φ h/\(∃ o,h.get? a=some o)/\∀ h1 h2:Heap,φ h1->(∀ o,h1.get? a=some o->h2.get? a=some o)->φ h2
def HOk (H:Hp) (h:Heap):Prop:=∀ a o,H a=some o->mi P w H h a o
end
section
variable {P:Program} {w:World} {H H':Hp} {h h':Heap} {a:Addr} {o:HO}
theorem mi.lt (x:mi P w H h a o):a<h.objs.size:=by
 cases o with
 | lst xs=>obtain ⟨_,_,_,_,e⟩:=x; exact lt_size e
 | tup xs=>obtain ⟨_,_,_,p⟩:=x; exact p.lt
 | dK kvs=>obtain ⟨_,_,_,_,o,_,_,e,_⟩:=x; exact lt_size e
 | dT kvs=>obtain ⟨_,_,_,_,o,_,_,e,_⟩:=x; exact lt_size e
 | set S n=>obtain ⟨o,_,_,_,e,_⟩:=x; exact lt_size e
 | ins C dx fs=>obtain ⟨_,_,_,e,_⟩:=x; exact lt_size e
 | own y=>obtain ⟨_,e⟩:=x; exact lt_size e
 | xd fs=>obtain ⟨_,⟨_,_,_,e,_⟩,_⟩:=x; exact lt_size e
 | rng lo hi=>obtain ⟨_,_,_,e⟩:=x; exact lt_size e
 | frz ob u=>obtain ⟨e,_⟩:=x; exact lt_size e
 | tbl ps=>exact lt_size (show h.get? a=some _ from x)
 | met f y=>exact lt_size (show h.get? a=some _ from x)
 | ext φ=>obtain ⟨_,⟨_,e⟩,_⟩:=x; exact lt_size e
theorem Paired.mapP {α β:Type} {F G:α->β->Prop}:∀ {l₁:List α} {l₂:List β},Paired F l₁ l₂->(∀ a b,F a b->G a b)->Paired G l₁ l₂
 | _,_,.nil,_=>.nil
 | _,_,.cons r t,f=>.cons (f _ _ r) (Paired.mapP t f)
theorem mi.stay (x:mi P w H h a o) (k:∀ b u,(b=a\/H b=some (.own a))->h.get? b=some u->h'.get? b=some u)
  (ho:∀ b,H b=some (.own a)->H' b=some (.own a)) (ht:∀ b xs,H b=some (.tup xs)->H' b=some (.tup xs)):mi P w H' h' a o:=by
 induction o with
 | lst xs=>obtain ⟨z,its,n,r,e⟩:=x; exact ⟨z,its,n,r,k _ _ (.inl rfl) e⟩
 | tup xs=>obtain ⟨z,its,r,ob,e,c⟩:=x; exact ⟨z,its,r,ob,k _ _ (.inl rfl) e,c⟩
 | dK kvs=>obtain ⟨z,y,vs,r,ob,es,ep,e,c⟩:=x; exact ⟨z,y,vs,r,ob,es,ep,k _ _ (.inl rfl) e,c⟩
 | dT kvs=>
  obtain ⟨z,y,xs,r,ob,es,ep,e,c⟩:=x
  exact ⟨z,y,xs,Paired.mapP r λp q z=>⟨z.1,ht _ _ z.2.1,z.2.2⟩,ob,es,ep,k _ _ (.inl rfl) e,c⟩
 | set S n=>obtain ⟨ob,es,ep,t,e,c⟩:=x; exact ⟨ob,es,ep,t,k _ _ (.inl rfl) e,c⟩
 | ins C dx fs=>
  obtain ⟨d,z,ne,e,mA,⟨od,es,ep,e2,c⟩,r⟩:=x
  exact ⟨ho _ d,z,ne,k _ _ (.inl rfl) e,mA,⟨od,es,ep,k _ _ (.inr d) e2,c⟩,r⟩
 | own y=>obtain ⟨ob,e⟩:=x; exact ⟨ob,k _ _ (.inl rfl) e⟩
 | xd fs=>obtain ⟨mA,⟨od,es,ep,e,c⟩,r⟩:=x; exact ⟨mA,⟨od,es,ep,k _ _ (.inl rfl) e,c⟩,r⟩
 | rng lo hi=>obtain ⟨t,u,v,e⟩:=x; exact ⟨t,u,v,k _ _ (.inl rfl) e⟩
 | frz ob u ih=>obtain ⟨e,q⟩:=x; exact ⟨k _ _ (.inl rfl) e,ih q⟩
 | tbl ps=>
  have e:h.get? a=some { cls:=.none,data:=.fields ps }:=x
  show h'.get? a=some { cls:=.none,data:=.fields ps }
  exact k a _ (.inl rfl) e
 | met f y=>
  have e:h.get? a=some (PySem.W.methodObj (.ref f) (.ref y)):=x
  show h'.get? a=some (PySem.W.methodObj (.ref f) (.ref y))
  exact k a _ (.inl rfl) e
 | ext φ=>obtain ⟨p,⟨o,e⟩,st⟩:=x; exact ⟨st _ _ p λo q=>k _ _ (.inl rfl) q,⟨o,k _ _ (.inl rfl) e⟩,st⟩
theorem HOk.lt (x:HOk P w H h) (e:H a=some o):a<h.objs.size:=(x a o e).lt
theorem HOk.fresh (x:HOk P w H h) (e:h.objs.size<=a):H a=none:=by
 cases q:H a with
 | none=>rfl
 | some u=>exact absurd (Nat.lt_of_lt_of_le (x.lt q) e) (Nat.lt_irrefl _)
theorem HOk.kept (x:HOk P w H h) (k:∀ b u,h.get? b=some u->h'.get? b=some u):HOk P w H h':=λa o e=>
 (x a o e).stay (λb u _ q=>k b u q) (λ_ q=>q) λ_ _ q=>q
theorem HOk.laid (x:HOk P w H h) (k:∀ b u,h.get? b=some u->h'.get? b=some u) (hp:h.objs.size<=a) (new:mi P w (upd H a o) h' a o):HOk P w (upd H a o) h':=λb u e=>by
 have hn:=x.fresh hp
 by_cases hb:b=a
 ·subst hb; rw [af] at e; cases e; exact new
 ·rw [am hb] at e
  exact (x b u e).stay (λc v _ q=>k c v q) (λc q=>by rw [am (ak q hn)]; exact q) λc xs q=>by rw [am (ak q hn)]; exact q
end
def Rd (H:Hp) (a:Addr) (u:HO):Prop:=H a=some u\/∃ o,H a=some (.frz o u)
theorem Rd.ok {P:Program} {w:World} {H:Hp} {h:Heap} {a:Addr} {u:HO} (r:Rd H a u) (x:HOk P w H h):mi P w H h a u:=by
 rcases r with r | ⟨o,r⟩
 ·exact x a u r
 ·obtain ⟨_,q⟩:=x a _ r
  exact q
def Mut:Option HO->Prop
 | some (.lst _)=>True
 | some (.dK _)=>True
 | some (.dT _)=>True
 | some (.set _ _)=>True
 | some (.ins _ _ _)=>True
 | some (.ext _)=>True
 | _=>False
section
variable {P:Program} {w:World} {H:Hp} {h h':Heap} {x e:Addr} {o':HO}
theorem HOk.write (ok:HOk P w H h) (mu:Mut (H x)) (he:e=x\/H e=some (.own x)) (k:∀ b u,b ≠ e->h.get? b=some u->h'.get? b=some u) (heo:∃ u,h'.get? e=some u)
  (new:mi P w (upd H x o') h' x o'):HOk P w (upd H x o') h':=λb u q=>by
 have nown:∀ c y,H c=some (.own y)->c ≠ x:=λc y r z=>by subst z; rw [r] at mu; exact mu
 have ntup:∀ c xs,H c=some (.tup xs)->c ≠ x:=λc xs r z=>by subst z; rw [r] at mu; exact mu
 by_cases hb:b=x
 ·subst hb; rw [af] at q; cases q; exact new
 ·rw [am hb] at q
  by_cases hbe:b=e
  ·have q':H b=some (.own x):=by
    rcases he with z | z
    ·exact absurd (hbe.trans z) hb
    ·rw [hbe]; exact z
   rw [q] at q'; cases q'
   obtain ⟨v,hv⟩:=heo
   exact ⟨v,by rw [hbe]; exact hv⟩
  ·refine (ok b u q).stay (λc v hc r=>k c v ?_ r) (λc r=>by rw [am (nown c b r)]; exact r) λc xs r=>by rw [am (ntup c xs r)]; exact r
   rcases hc with rfl | hc
   ·exact hbe
   ·rintro rfl
    rcases he with z | z
    ·exact nown c b hc z
    ·rw [hc] at z; cases z; exact hb rfl
end
structure Un (fs ex:List Addr) (H H':Hp) (h h':Heap):Prop where
 keep:∀ b o,h.get? b=some o->H b=none->b ∉ fs->b ∉ ex->h'.get? b=some o
 slot:∀ b o,h.get? b=some o->H b=none->b ∈ fs->b ∉ ex->∃ sl,h'.get? b=some { o with slots:=sl }
 free:∀ b o,h.get? b=some o->H b=none->b ∉ ex->H' b=none
 there:∀ b o,h.get? b=some o->b ∉ ex->∃ o',h'.get? b=some o'
 tups:∀ b xs,H b=some (.tup xs)->H' b=some (.tup xs)
 frzs:∀ b o u,H b=some (.frz o u)->H' b=some (.frz o u)
 tbls:∀ b ps,H b=some (.tbl ps)->∃ more,H' b=some (.tbl (ps++more))
section
variable {fs fs' ex ex':List Addr} {H H1 H2:Hp} {h h1 h2 h':Heap} {a x e:Addr} {o:HO}
theorem Un.any (u:Un fs ex H H1 h h1) {b:Addr} {ob:Obj} (q:h.get? b=some ob) (n:H b=none) (hx:b ∉ ex):∃ sl,h1.get? b=some { ob with slots:=sl }:=by
 by_cases hb:b ∈ fs
 ·exact u.slot b ob q n hb hx
 ·exact ⟨ob.slots,u.keep b ob q n hb hx⟩
theorem Un.kept (k:∀ b u,h.get? b=some u->h'.get? b=some u):Un fs ex H H h h':=
 ⟨λb ob q _ _ _=>k b ob q,λb ob q _ _ _=>⟨ob.slots,k b ob q⟩,λ_ _ _ n _=>n,λb ob q _=>⟨ob,k b ob q⟩,λ_ _ q=>q,λ_ _ _ q=>q,λ_ ps q=>⟨#[],by rw [q]; simp⟩⟩
theorem Un.refl:Un fs ex H H h h:=Un.kept λ_ _ q=>q
theorem Un.laid (k:∀ b u,h.get? b=some u->h'.get? b=some u) (hp:h.objs.size<=a) (hn:H a=none):Un fs ex H (upd H a o) h h' where
 keep:=λb u q _ _ _=>k b u q
 slot:=λb u q _ _ _=>⟨u.slots,k b u q⟩
 free:=λb u q n _=>by rw [am (Nat.ne_of_lt (Nat.lt_of_lt_of_le (lt_size q) hp))]; exact n
 there:=λb u q _=>⟨u,k b u q⟩
 tups:=λb xs q=>by rw [am (ak q hn)]; exact q
 frzs:=λb u xs q=>by rw [am (ak q hn)]; exact q
 tbls:=λb ps q=>⟨#[],by rw [am (ak q hn),q]; simp⟩
theorem Un.write (mu:Mut (H x)) (he:e=x\/H e=some (.own x)) (k:∀ b u,b ≠ e->h.get? b=some u->h'.get? b=some u) (heo:∃ u,h'.get? e=some u):Un fs ex H (upd H x o) h h':=by
 have hx:∀ b,H b=none->b ≠ x:=λb n z=>by subst z; rw [n] at mu; exact mu
 have hb:∀ b,H b=none->b ≠ e:=λb n z=>by
  subst z
  rcases he with r | r
  ·exact hx b n r
  ·rw [n] at r; cases r
 have hm:∀ b u,H b=some u->¬ Mut (some u)->b ≠ x:=λb u q nm z=>by subst z; rw [q] at mu; exact nm mu
 refine ⟨λb u q n _ _=>k b u (hb b n) q,λb u q n _ _=>⟨u.slots,k b u (hb b n) q⟩,λb u q n _=>by rw [am (hx b n)]; exact n,λb u q _=>?_,
  λb xs q=>by rw [am (hm b _ q λz=>z)]; exact q,λb u xs q=>by rw [am (hm b _ q λz=>z)]; exact q,λb ps q=>⟨#[],by rw [am (hm b _ q λz=>z),q]; simp⟩⟩
 by_cases hbe:b=e
 ·subst hbe; exact heo
 ·exact ⟨u,k b u hbe q⟩
end
def trk (h:Heap) (H:Hp):List Addr:=(List.range h.objs.size).filter λa=>(H a).isSome
def kM (h:Heap) (H:Hp):Heap:=PySem.W.hideAll h (trk h H)
theorem hidT_size (h:Heap) (H:Hp):(kM h H).objs.size=h.objs.size:=PySem.W.hideAll_size _ _
theorem hidT_get {h:Heap} {H:Hp} {b:Addr} {o:Obj} (e:h.get? b=some o) (n:H b=none):(kM h H).get? b=some o:=
 hideAll_get _ e λhm=>by
  have q:(H b).isSome=true:=(List.mem_filter.mp hm).2
  rw [n] at q; simp at q
theorem of_hidT {h:Heap} {H:Hp} {b:Addr} {o:Obj} (e:(kM h H).get? b=some o):h.get? b=some o/\H b=none:=by
 have e':h.get? b=some o:=PySem.W.of_hideAll (trk h H) e
 refine ⟨e',?_⟩
 cases q:H b with
 | none=>rfl
 | some x=>
  have hm:b ∈ trk h H:=List.mem_filter.mpr ⟨List.mem_range.mpr (lt_size e'),by simp [q]⟩
  have z:(kM h H).get? b=none:=PySem.W.hideAll_none (trk h H) hm
  rw [z] at e; cases e
structure Mod (K:Frag) (mg:Str->Option Value) (base:Heap):Prop where
 kin:K.In base
 glob:base.Ns mainGlobals mg
 blt:∃ mb,base.Ns builtinsNs mb/\∀ x:Str,x ≠ "__name__"->mb x=bootBuiltins x
 nolimit:base.NoLimit
structure Cx where
 prog:Program
 w:World
 K:Frag
 mg:Str->Option Value
 base:Heap
 A:Around
 N:List Str
 s₀:Shared
 H₀:Hp
 env:Env
 outer:List Env
 stack:List Env
 ex:List Addr
 fn:Str->Bool
 calm:Bool
 pn:List (Addr × Obj)
 xe:Value->Shared->Prop
def frs (l:List Env):List Addr:=l.filterMap (·.frame)
abbrev Cx.fs (X:Cx):List Addr:=frs X.outer
def Vis (sc:Scope) (x:Str):Prop:=sc.names.lookup x=some .local\/sc.names.lookup x=some .cell\/sc.names.lookup x=some .free
def Loc (sc:Scope) (x:Str):Prop:=sc.names.lookup x=some .local\/sc.names.lookup x=some .cell
def Look (env:Env) (h:Heap) (m:Str->Option Value) (x:Str) (u:Value):Prop:=
 (env.kindOf x=some .local/\m x=some u)\/((env.kindOf x=some .cell\/env.kindOf x=some .free)/\∃ c,env.cells.lookup x=some c/\h.IsCell c (some u))
structure Cx.Ok (X:Cx):Prop where
 mod:Mod X.K X.mg X.base
 kind:X.env.scope.kind=.function
 glob:X.env.globals=mainGlobals
 blt:X.env.builtins=builtinsNs
 above:X.s₀.heap.objs.size<=X.env.locals
 inj:∀ x y c,X.env.cells.lookup x=some c->X.env.cells.lookup y=some c->x=y
 has:∀ x,(X.env.kindOf x=some .cell\/X.env.kindOf x=some .free)->∃ c,X.env.cells.lookup x=some c
 cab:∀ x c,X.fn x=true->X.env.cells.lookup x=some c->X.s₀.heap.objs.size<=c
 hd:X.calm=true->X.A.handled=none
 frames:X.A.frames=some X.stack
 stk:X.stack=X.outer\/(X.stack=X.env::X.outer/\X.env.frame=some X.env.locals)
 exf:∀ b ∈ X.ex,b ≠ X.env.locals/\∀ x c,X.env.cells.lookup x=some c->c ≠ b
 bs:∀ b o,X.base.get? b=some o->X.s₀.heap.get? b=some o/\X.H₀ b=none
 bsz:X.base.objs.size<=X.s₀.heap.objs.size
 noex:∀ b o,X.base.get? b=some o->b ∉ X.ex
 exfs:∀ b ∈ X.ex,b ∉ X.fs
 funs:X.s₀.heap.FunFrames X.base X.outer
 frf:∀ b ∈ X.fs,X.H₀ b=none
structure Inv (X:Cx) (pins:List (Addr × Obj)) (σ:List (Option V)) (H:Hp) (s:Shared):Prop where
 ok:X.Ok
 os:s.os=X.s₀.os
 bare:AllBare s.gens
 base:Un X.fs X.ex X.H₀ H X.s₀.heap s.heap
 loc:∃ m,s.heap.Ns X.env.locals m/\∀ (i:Nat) (x:Str) (v:V),X.N[i]? = some x->σ[i]? = some (some v)->Vis X.env.scope x->∃ u,md v u/\Look X.env s.heap m x u
 cell:∀ x c,X.env.cells.lookup x=some c->∃ v,s.heap.IsCell c v
 free:H X.env.locals=none
 freeC:∀ x c,X.env.cells.lookup x=some c->H c=none
 pin:∀ p ∈ X.pn++pins,s.heap.get? p.1=some p.2/\H p.1=none/\p.1 ≠ X.env.locals/\p.1 ∉ X.fs/\∀ v,p.2.data ≠ .cell v
 hok:HOk X.prog X.w H s.heap
 len:σ.length=X.N.length
section
variable {X:Cx} {pins:List (Addr × Obj)} {σ:List (Option V)} {H H':Hp} {s:Shared} {h':Heap}
theorem Cx.Ok.nofr (ok:X.Ok) {b:Addr} {o:Obj} (e:X.base.get? b=some o):b ∉ X.fs:=λhb=>by
 have:=(ok.funs.mem hb).1
 rw [e] at this; cases this
theorem Inv.bs (I:Inv X pins σ H s):∀ b o,X.base.get? b=some o->s.heap.get? b=some o/\H b=none:=λb o e=>
 ⟨I.base.keep b o (I.ok.bs b o e).1 (I.ok.bs b o e).2 (I.ok.nofr e) (I.ok.noex b o e),I.base.free b o (I.ok.bs b o e).1 (I.ok.bs b o e).2 (I.ok.noex b o e)⟩
theorem Inv.bk (I:Inv X pins σ H s):∀ b o,X.base.get? b=some o->s.heap.get? b=some o:=λb o e=>(I.bs b o e).1
theorem Inv.mod (I:Inv X pins σ H s):Mod X.K X.mg X.base:=I.ok.mod
theorem Inv.kIn (I:Inv X pins σ H s):X.K.In s.heap:=I.ok.mod.kin.keeps I.bk
theorem Inv.lt (I:Inv X pins σ H s):X.env.locals<s.heap.objs.size:=let ⟨_,hn,_⟩:=I.loc; hn.lt
theorem Inv.sz (I:Inv X pins σ H s):X.s₀.heap.objs.size<=s.heap.objs.size:=Nat.le_trans I.ok.above (Nat.le_of_lt I.lt)
theorem Inv.nofs (I:Inv X pins σ H s) {a:Addr} (h:s.heap.objs.size<=a):a ∉ X.fs:=λhb=>by
 obtain ⟨_,o,ho,_⟩:=I.ok.funs.mem hb
 exact absurd (Nat.lt_of_lt_of_le (lt_size ho) (Nat.le_trans I.sz h)) (Nat.lt_irrefl _)
theorem Inv.cne (I:Inv X pins σ H s):∀ x c,X.env.cells.lookup x=some c->c ≠ X.env.locals:=λx c e z=>by
 obtain ⟨v,o,ho,hd⟩:=I.cell x c e
 obtain ⟨m,⟨o',es,ep,ho',hd',_⟩,_⟩:=I.loc
 rw [z,ho'] at ho; cases ho; rw [hd'] at hd; cases hd
theorem Inv.funs (I:Inv X pins σ H s):s.heap.FunFrames X.base X.outer:=by
 have all:∀ (l:List Env),(∀ b ∈ frs l,b ∈ X.fs)->X.s₀.heap.FunFrames X.base l->s.heap.FunFrames X.base l:=by
  intro l
  induction l with
  | nil=>intro _ _; trivial
  | cons env r ih=>
   intro hs hl
   obtain ⟨hk,⟨L,o,hf,hn,ho,hd⟩,hr⟩:=hl
   have hL:L ∈ X.fs:=hs L (by unfold frs; rw [filterMap_cons,hf]; exact mem_cons_self)
   obtain ⟨sl,e⟩:=I.base.slot L o ho (I.ok.frf L hL) hL λz=>I.ok.exfs L z hL
   exact ⟨hk,⟨L,_,hf,hn,e,hd⟩,ih (λb hb=>hs b (by unfold frs; rw [filterMap_cons,hf]; exact mem_cons_of_mem _ hb)) hr⟩
 exact all X.outer (λ_ hb=>hb) I.ok.funs
theorem Inv.stack (I:Inv X pins σ H s):s.heap.FunFrames X.base X.stack:=by
 rcases I.ok.stk with e | ⟨e,hf⟩
 ·rw [e]; exact I.funs
 ·rw [e]
  obtain ⟨m,hn,_⟩:=I.loc
  refine .cons (by rw [I.ok.kind]; decide) hf hn ?_ I.funs
  exact Heap.get?_none_of_le (Nat.le_trans I.ok.bsz I.ok.above)
theorem Inv.stkSub (I:Inv X pins σ H s):∀ b ∈ frs X.stack,b ∈ X.env.locals::X.fs:=λb hb=>by
 rcases I.ok.stk with e | ⟨e,hf⟩
 ·rw [e] at hb; exact mem_cons_of_mem _ hb
 ·rw [e] at hb
  unfold frs at hb
  rw [filterMap_cons,hf] at hb
  exact hb
theorem Inv.stkFree (I:Inv X pins σ H s):∀ b ∈ frs X.stack,H b=none:=λb hb=>by
 rcases List.mem_cons.mp (I.stkSub b hb) with e | hb
 ·rw [e]; exact I.free
 ·obtain ⟨_,o,ho,_⟩:=I.ok.funs.mem hb
  exact I.base.free b o ho (I.ok.frf b hb) λz=>I.ok.exfs b z hb
theorem Inv.step {g':Array GenState} {t':Nat} {d':Drawn} {ch:List Addr} (I:Inv X pins σ H s)
  (hch:∀ b ∈ ch,(b ∈ X.ex\/X.s₀.heap.objs.size<=b)/\b ≠ X.env.locals/\(∀ x c,X.env.cells.lookup x=some c->c ≠ b)/\∀ p ∈ X.pn++pins,p.1 ≠ b)
  (keep:∀ b o,b ≠ X.env.locals->b ∉ X.fs->b ∉ ch->s.heap.get? b=some o->H b=none->h'.get? b=some o)
  (slot:∀ b o,b ≠ X.env.locals->b ∈ X.fs->b ∉ ch->s.heap.get? b=some o->H b=none->∃ sl,h'.get? b=some { o with slots:=sl }) (free:∀ b o,b ∉ ch->s.heap.get? b=some o->H b=none->H' b=none)
  (there:∀ b o,b ∉ ch->s.heap.get? b=some o->∃ o',h'.get? b=some o')
  (tups:∀ b xs,H b=some (.tup xs)->H' b=some (.tup xs)) (frzs:∀ b o u,H b=some (.frz o u)->H' b=some (.frz o u)) (tbls:∀ b ps,H b=some (.tbl ps)->∃ more,H' b=some (.tbl (ps++more)))
  (ns:∀ m,s.heap.Ns X.env.locals m->h'.Ns X.env.locals m) (hok:HOk X.prog X.w H' h') (hg:AllBare g') :
  Inv X pins σ H' { s with heap:=h',gens:=g',drawn:=d',toks:=t' }:=by
 have neL:∀ b o,X.s₀.heap.get? b=some o->b ≠ X.env.locals:=λb o e=>Nat.ne_of_lt (Nat.lt_of_lt_of_le (lt_size e) I.ok.above)
 have neC:∀ b o,X.s₀.heap.get? b=some o->b ∉ X.ex->b ∉ ch:=λb o e hx hb=>by
  rcases (hch b hb).1 with z | z
  ·exact hx z
  ·exact absurd (Nat.lt_of_lt_of_le (lt_size e) z) (Nat.lt_irrefl _)
 have cellK:∀ x c,X.env.cells.lookup x=some c->∀ v,s.heap.IsCell c v->h'.IsCell c v:=λx c e v ⟨o,ho,hd⟩=>by
  have nch:c ∉ ch:=λz=>(hch c z).2.2.1 x c e rfl
  by_cases hc:c ∈ X.fs
  ·obtain ⟨sl,q⟩:=slot c o (I.cne x c e) hc nch ho (I.freeC x c e)
   exact ⟨_,q,hd⟩
  ·exact ⟨o,keep c o (I.cne x c e) hc nch ho (I.freeC x c e),hd⟩
 refine ⟨I.ok,I.os,hg,⟨λb o e n hb hx=>?_,λb o e n hb hx=>?_,λb o e n hx=>?_,λb o e hx=>?_,λb xs e=>tups b xs (I.base.tups b xs e),λb o xs e=>frzs b o xs (I.base.frzs b o xs e),λb ps e=>?_⟩,?_,λx c e=>?_,?_,λx c e=>?_,λp hp=>?_,hok,I.len⟩
 ·exact keep b o (neL b o e) hb (neC b o e hx) (I.base.keep b o e n hb hx) (I.base.free b o e n hx)
 ·obtain ⟨sl,e1⟩:=I.base.slot b o e n hb hx
  obtain ⟨sl',e2⟩:=slot b _ (neL b o e) hb (neC b o e hx) e1 (I.base.free b o e n hx)
  exact ⟨sl',e2⟩
 ·obtain ⟨o',e1⟩:=I.base.there b o e hx
  exact free b o' (neC b o e hx) e1 (I.base.free b o e n hx)
 ·obtain ⟨o',e1⟩:=I.base.there b o e hx
  exact there b o' (neC b o e hx) e1
 ·obtain ⟨m1,e1⟩:=I.base.tbls b ps e
  obtain ⟨m2,e2⟩:=tbls b _ e1
  exact ⟨m1++m2,by rw [e2,Array.append_assoc]⟩
 ·obtain ⟨m,hn,hl⟩:=I.loc
  refine ⟨m,ns m hn,λi x v e1 e2 e3=>?_⟩
  obtain ⟨u,r,l⟩:=hl i x v e1 e2 e3
  refine ⟨u,r,?_⟩
  rcases l with l | ⟨k,c,e,z⟩
  ·exact .inl l
  ·exact .inr ⟨k,c,e,cellK x c e _ z⟩
 ·obtain ⟨v,z⟩:=I.cell x c e
  exact ⟨v,cellK x c e v z⟩
 ·obtain ⟨m,⟨o,_,_,ho,_⟩,_⟩:=I.loc
  exact free _ o (λz=>(hch _ z).2.1 rfl) ho I.free
 ·obtain ⟨v,o,ho,hd⟩:=I.cell x c e
  exact free c o (λz=>(hch c z).2.2.1 x c e rfl) ho (I.freeC x c e)
 ·obtain ⟨e,n,ne,nf,d⟩:=I.pin p hp
  have nch:p.1 ∉ ch:=λz=>(hch p.1 z).2.2.2 p hp rfl
  exact ⟨keep p.1 p.2 ne nf nch e n,free p.1 p.2 nch e n,ne,nf,d⟩
theorem Inv.un {t':Nat} (I:Inv X pins σ H s) (u:Un X.fs [] H H' s.heap h') (hok:HOk X.prog X.w H' h'):Inv X pins σ H' { s with heap:=h',toks:=t' }:=by
 obtain ⟨m,⟨o,es,ep,ho,r⟩,_⟩:=id I.loc
 obtain ⟨sl,hL⟩:=u.any ho I.free (by simp)
 exact I.step (g':=s.gens) (d':=s.drawn) (ch:=[]) (λ_ z=>nomatch z) (λb o _ hb _ e n=>u.keep b o e n hb (by simp)) (λb o _ hb _ e n=>u.slot b o e n hb (by simp)) (λb o _ e n=>u.free b o e n (by simp)) (λb o _ e=>u.there b o e (by simp)) u.tups u.frzs u.tbls (λm' hm=>by
  obtain ⟨o',es',ep',ho',r'⟩:=hm
  rw [ho] at ho'; cases ho'
  exact ⟨_,es',ep',hL,r'⟩) hok I.bare
theorem Inv.call {g':Array GenState} {t':Nat} {d':Drawn} {ch:List Addr} (I:Inv X pins σ H s) (u:Un (frs X.stack) ch H H' s.heap h') (hok:HOk X.prog X.w H' h') (hg:AllBare g')
  (hch:∀ b ∈ ch,(b ∈ X.ex\/X.s₀.heap.objs.size<=b)/\b ≠ X.env.locals/\(∀ x c,X.env.cells.lookup x=some c->c ≠ b)/\∀ p ∈ X.pn++pins,p.1 ≠ b) :
  Inv X pins σ H' { s with heap:=h',gens:=g',drawn:=d',toks:=t' }:=by
 obtain ⟨m,⟨o,es,ep,ho,r⟩,_⟩:=id I.loc
 obtain ⟨sl,hL⟩:=u.any ho I.free λz=>(hch _ z).2.1 rfl
 exact I.step (ch:=ch) hch (λb o hL hb hc e n=>u.keep b o e n (λz=>(List.mem_cons.mp (I.stkSub b z)).elim hL hb) hc) (λb o _ _ hc e n=>u.any e n hc) (λb o hc e n=>u.free b o e n hc) (λb o hc e=>u.there b o e hc) u.tups u.frzs u.tbls (λm' hm=>by
  obtain ⟨o',es',ep',ho',r'⟩:=hm
  rw [ho] at ho'; cases ho'
  exact ⟨_,es',ep',hL,r'⟩) hok hg
theorem Inv.turned {t':Nat} {it:Addr} (I:Inv X pins σ H s) (k:∀ b o,b ≠ it->s.heap.get? b=some o->h'.get? b=some o) (hn:H it=none) (hL:it ≠ X.env.locals)
  (h1:it ∈ X.ex\/X.s₀.heap.objs.size<=it) (h2:∀ x c,X.env.cells.lookup x=some c->c ≠ it) (h3:∀ p ∈ X.pn++pins,p.1 ≠ it):Inv X pins σ H { s with heap:=h',toks:=t' }:=by
 have nit:∀ b u,H b=some u->b ≠ it:=λb u e z=>by rw [z,hn] at e; cases e
 refine I.step (g':=s.gens) (d':=s.drawn) (ch:=[it]) (λb hb=>?_) (λb o _ _ hc e _=>k b o (λz=>hc (by simp [z])) e) (λb o _ _ hc e _=>⟨o.slots,k b o (λz=>hc (by simp [z])) e⟩) (λ_ _ _ _ n=>n)
  (λb o hc e=>⟨o,k b o (λz=>hc (by simp [z])) e⟩) (λ_ _ e=>e) (λ_ _ _ e=>e) (λb ps e=>⟨#[],by rw [e]; simp⟩) (λm hm=>?_) (λb u e=>?_) I.bare
 ·have e:b=it:=by simpa using hb
  subst e
  exact ⟨h1,hL,h2,h3⟩
 ·obtain ⟨o,es,ep,ho,r⟩:=hm
  exact ⟨o,es,ep,k _ o (Ne.symm hL) ho,r⟩
 ·refine (I.hok b u e).stay (λc v hc q=>k c v ?_ q) (λ_ q=>q) λ_ _ q=>q
  rcases hc with z | z
  ·rw [z]; exact nit b u e
  ·exact nit c _ z
theorem Inv.tok (I:Inv X pins σ H s) (t:Nat):Inv X pins σ H { s with toks:=t }:=I.un (h':=s.heap) (t':=t) Un.refl I.hok
theorem Inv.kept {t':Nat} (I:Inv X pins σ H s) (k:∀ b u,s.heap.get? b=some u->h'.get? b=some u):Inv X pins σ H { s with heap:=h',toks:=t' }:=I.un (Un.kept k) (I.hok.kept k)
theorem Inv.laid {a:Addr} {o:HO} {t':Nat} (I:Inv X pins σ H s) (k:∀ b u,s.heap.get? b=some u->h'.get? b=some u) (hp:s.heap.objs.size<=a) (new:mi X.prog X.w (upd H a o) h' a o) :
  Inv X pins σ (upd H a o) { s with heap:=h',toks:=t' }:=I.un (Un.laid k hp (I.hok.fresh hp)) (I.hok.laid k hp new)
theorem Inv.write {x e:Addr} {o:HO} {t':Nat} (I:Inv X pins σ H s) (mu:Mut (H x)) (he:e=x\/H e=some (.own x)) (k:∀ b u,b ≠ e->s.heap.get? b=some u->h'.get? b=some u) (heo:∃ u,h'.get? e=some u)
  (new:mi X.prog X.w (upd H x o) h' x o):Inv X pins σ (upd H x o) { s with heap:=h',toks:=t' }:=I.un (Un.write mu he k heo) (I.hok.write mu he k heo new)
theorem Inv.pins_of {pins':List (Addr × Obj)} (I:Inv X pins σ H s) (h:∀ p ∈ pins',s.heap.get? p.1=some p.2/\H p.1=none/\p.1 ≠ X.env.locals/\p.1 ∉ X.fs/\∀ v,p.2.data ≠ .cell v):Inv X pins' σ H s:=
 ⟨I.ok,I.os,I.bare,I.base,I.loc,I.cell,I.free,I.freeC,λp hp=>(List.mem_append.mp hp).elim (λz=>I.pin p (mem_append_left _ z)) (h p),I.hok,I.len⟩
theorem nodup_ix {N:List Str} (hN:N.Nodup) {i j:Nat} {x:Str} (a:N[i]? = some x) (b:N[j]? = some x):i=j:=by
 obtain ⟨h1,e1⟩:=List.getElem?_eq_some_iff.mp a
 obtain ⟨h2,e2⟩:=List.getElem?_eq_some_iff.mp b
 exact (getElem_inj hN).mp (e1.trans e2.symm)
theorem kA {M:Model} {A:Around} {E:Value->Shared->Prop} {i:Nat} {x:Str} {v:V} {u:Value} {Q:Unit->Shared->Prop} (I:Inv X pins σ H s) (hN:X.N.Nodup) (hi:X.N[i]? = some x) (hx:Loc X.env.scope x) (r:md v u)
  (h:∀ s',Inv X pins (σ.set i (some v)) H s'->(∃ a,Heap.SameBut a s.heap s'.heap/\(a=X.env.locals\/X.env.cells.lookup x=some a))->Q () s') (hf:X.fn x=true\/X.env.scope.names.lookup x=some .local:=by first | exact .inl rfl | exact .inr rfl | assumption):wpAny M A (storeName X.env x u) Q E s:=by
 obtain ⟨m,hn,hl⟩:=id I.loc
 have hcls:(X.env.scope.kind == .class || (X.env.scope.kind == .module && X.env.locals != X.env.globals))=false:=by rw [I.ok.kind]; rfl
 have hiσ:i<σ.length:=by rw [I.len]; exact (List.getElem?_eq_some_iff.mp hi).1
 have cne:=I.cne
 have tracked:∀ {a:Addr} {h':Heap},(∃ o,s.heap.get? a=some o/\H a=none)->Heap.SameBut a s.heap h'->HOk X.prog X.w H h':=λ{a h'} ha hs b ob e=>by
  obtain ⟨_,_,hfree⟩:=ha
  refine (I.hok b ob e).stay (λc w' hc q=>(hs.2 c ?_).trans q) (λ_ q=>q) λ_ _ q=>q
  rintro rfl
  rcases hc with rfl | hc
  ·rw [hfree] at e; cases e
  ·rw [hfree] at hc; cases hc
 rcases hx with hk | hk
 ·refine wpAny_storeName_local hk hn (λh' hn' hs=>?_) hcls
  obtain ⟨oL,_,_,hoL,_⟩:=id hn
  refine h _ ⟨I.ok,I.os,I.bare,⟨λb o e n hb hx=>?_,λb o e n hb hx=>?_,I.base.free,λb o e hx=>?_,I.base.tups,I.base.frzs,I.base.tbls⟩,⟨_,hn',λj y v' e1 e2 e3=>?_⟩,λy c e=>?_,I.free,I.freeC,λp hp=>?_,tracked ⟨oL,hoL,I.free⟩ hs,by simpa using I.len⟩ ⟨_,hs,.inl rfl⟩
  ·exact (hs.2 b (Nat.ne_of_lt (Nat.lt_of_lt_of_le (lt_size e) I.ok.above))).trans (I.base.keep b o e n hb hx)
  ·obtain ⟨sl,e1⟩:=I.base.slot b o e n hb hx
   exact ⟨sl,(hs.2 b (Nat.ne_of_lt (Nat.lt_of_lt_of_le (lt_size e) I.ok.above))).trans e1⟩
  ·obtain ⟨o',e1⟩:=I.base.there b o e hx
   exact ⟨o',(hs.2 b (Nat.ne_of_lt (Nat.lt_of_lt_of_le (lt_size e) I.ok.above))).trans e1⟩
  ·by_cases hj:j=i
   ·subst hj
    rw [hi] at e1; cases e1
    rw [List.getElem?_set_self hiσ] at e2
    cases e2
    exact ⟨u,r,.inl ⟨hk,by simp⟩⟩
   ·rw [List.getElem?_set_ne (Ne.symm hj)] at e2
    obtain ⟨u',r',q⟩:=hl j y v' e1 e2 e3
    refine ⟨u',r',?_⟩
    rcases q with ⟨k,e⟩ | ⟨k,c,e,z⟩
    ·refine .inl ⟨k,?_⟩
     have:y ≠ x:=λe=>hj (nodup_ix hN e1 (e ▸ hi))
     simp [this,e]
    ·exact .inr ⟨k,c,e,z.sameBut hs (cne y c e)⟩
  ·obtain ⟨w',z⟩:=I.cell y c e
   exact ⟨w',z.sameBut hs (cne y c e)⟩
  ·obtain ⟨e,n,ne,nf,d⟩:=I.pin p hp
   exact ⟨(hs.2 p.1 ne).trans e,n,ne,nf,d⟩
 ·have hfn:X.fn x=true:=by
   rcases hf with z | z
   ·exact z
   ·rw [z] at hk; cases hk
  obtain ⟨c,hc⟩:=I.ok.has x (.inl hk)
  obtain ⟨w',z⟩:=I.cell x c hc
  refine wpAny_storeName_cell I.ok.kind hk hc z (λh' hc' hs=>?_)
  obtain ⟨oc,hoc,hocd⟩:=id z
  refine h { s with heap:=h' } ⟨I.ok,I.os,I.bare,⟨λb o e n hb hx=>?_,λb o e n hb hx=>?_,I.base.free,λb o e hx=>?_,I.base.tups,I.base.frzs,I.base.tbls⟩,⟨m,hn.sameBut hs (Ne.symm (cne x c hc)),λj y v' e1 e2 e3=>?_⟩,λy c' e=>?_,I.free,I.freeC,λp hp=>?_,tracked ⟨oc,hoc,I.freeC x c hc⟩ hs,by simpa using I.len⟩ ⟨c,hs,.inr hc⟩
  ·exact (hs.2 b (Nat.ne_of_lt (Nat.lt_of_lt_of_le (lt_size e) (I.ok.cab x c hfn hc)))).trans (I.base.keep b o e n hb hx)
  ·obtain ⟨sl,e1⟩:=I.base.slot b o e n hb hx
   exact ⟨sl,(hs.2 b (Nat.ne_of_lt (Nat.lt_of_lt_of_le (lt_size e) (I.ok.cab x c hfn hc)))).trans e1⟩
  ·obtain ⟨o',e1⟩:=I.base.there b o e hx
   exact ⟨o',(hs.2 b (Nat.ne_of_lt (Nat.lt_of_lt_of_le (lt_size e) (I.ok.cab x c hfn hc)))).trans e1⟩
  ·by_cases hj:j=i
   ·subst hj
    rw [hi] at e1; cases e1
    rw [List.getElem?_set_self hiσ] at e2
    cases e2
    exact ⟨u,r,.inr ⟨.inl hk,c,hc,hc'⟩⟩
   ·rw [List.getElem?_set_ne (Ne.symm hj)] at e2
    obtain ⟨u',r',q⟩:=hl j y v' e1 e2 e3
    refine ⟨u',r',?_⟩
    rcases q with q | ⟨k,c',e,z'⟩
    ·exact .inl q
    ·refine .inr ⟨k,c',e,z'.sameBut hs ?_⟩
     rintro rfl
     exact hj (nodup_ix hN e1 (I.ok.inj _ _ _ e hc ▸ hi))
  ·by_cases hcc:c'=c
   ·subst hcc; exact ⟨_,hc'⟩
   ·obtain ⟨w2,z2⟩:=I.cell y c' e
    exact ⟨w2,z2.sameBut hs hcc⟩
  ·obtain ⟨e,n,ne,nf,d⟩:=I.pin p hp
   refine ⟨(hs.2 p.1 ?_).trans e,n,ne,nf,d⟩
   intro q
   rw [q,hoc] at e
   have q':oc=p.2:=Option.some.inj e
   exact d w' (by rw [<- q']; exact hocd)
theorem fW {M:Model} {A:Around} {E:Value->Shared->Prop} {i:Nat} {x:Str} {v:V} {u:Value} {Q:Unit->Shared->Prop} (I:Inv X pins σ H s) (hN:X.N.Nodup) (hi:X.N[i]? = some x) (hx:Loc X.env.scope x) (r:md v u)
  (h:∀ s',Inv X pins (σ.set i (some v)) H s'->Q () s') (hf:X.fn x=true\/X.env.scope.names.lookup x=some .local:=by first | exact .inl rfl | exact .inr rfl | assumption):wpAny M A (storeName X.env x u) Q E s:=
 kA I hN hi hx r (λs' I' _=>h s' I') hf
theorem Inv.call' {s':Shared} {ch:List Addr} (I:Inv X pins σ H s) (ho:s'.os=s.os) (u:Un (frs X.stack) ch H H' s.heap s'.heap) (hok:HOk X.prog X.w H' s'.heap) (hg:AllBare s'.gens)
  (hch:∀ b ∈ ch,(b ∈ X.ex\/X.s₀.heap.objs.size<=b)/\b ≠ X.env.locals/\(∀ x c,X.env.cells.lookup x=some c->c ≠ b)/\∀ p ∈ X.pn++pins,p.1 ≠ b):Inv X pins σ H' s':=by
 obtain ⟨h',g',d',t',o'⟩:=s'
 have e:o'=s.os:=ho
 subst e
 exact I.call (g':=g') (t':=t') (d':=d') u hok hg hch
end
abbrev XK:=Value->Option Addr->Hp->Prop
abbrev St:=List (Option V)
abbrev VK:=V->Hp->Prop
abbrev TE:=St->Hp->VK->Prop
abbrev TT:=St->Hp->(Bool->Hp->Prop)->Prop
abbrev TA:=St->Hp->(List V->Hp->Prop)->Prop
structure gq where
 nx:St->Hp->Prop
 rt:VK
 bk:St->Hp->Prop:=λ_ _=>False
 ct:St->Hp->Prop:=λ_ _=>False
abbrev TS:=gq->St->Hp->Prop
def EP (X:Cx) (pins:List (Addr × Obj)) (σ:St) (Q:VK) (u:Value) (s':Shared):Prop:=∃ v H',Inv X pins σ H' s'/\md v u/\Q v H'
def TP (X:Cx) (pins:List (Addr × Obj)) (σ:St) (Q:Bool->Hp->Prop) (b:Bool) (s':Shared):Prop:=∃ H',Inv X pins σ H' s'/\Q b H'
def AP (X:Cx) (pins:List (Addr × Obj)) (σ:St) (Q:List V->Hp->Prop) (us:List Value) (s':Shared):Prop:=∃ vs H',Inv X pins σ H' s'/\l9 vs us/\Q vs H'
def SP (X:Cx) (pins:List (Addr × Obj)) (D:gq) (f:Flow) (s':Shared):Prop:=
 match f with
 | .next=>∃ σ' H',Inv X pins σ' H' s'/\D.nx σ' H'
 | .brk=>∃ σ' H',Inv X pins σ' H' s'/\D.bk σ' H'
 | .cont=>∃ σ' H',Inv X pins σ' H' s'/\D.ct σ' H'
 | .ret u=>∃ v σ' H',Inv X pins σ' H' s'/\md v u/\D.rt v H'
def PE (X:Cx) (e:Expr) (t:TE):Prop:=
 ∀ (pins:List (Addr × Obj)) (s:Shared) (σ:St) (H:Hp) (Q:VK),Inv X pins σ H s->t σ H Q->wpAny (model X.prog X.w) X.A (eval e X.env) (EP X pins σ Q) X.xe s
def PT (X:Cx) (e:Expr) (t:TT):Prop:=
 ∀ (pins:List (Addr × Obj)) (s:Shared) (σ:St) (H:Hp) (Q:Bool->Hp->Prop),Inv X pins σ H s->t σ H Q->wpAny (model X.prog X.w) X.A (isTrue e X.env (eval e X.env)) (TP X pins σ Q) X.xe s
def PW (X:Cx) (e:Expr) (t:TT):Prop:=
 ∀ (whole:Sem Value) (pins:List (Addr × Obj)) (s:Shared) (σ:St) (H:Hp) (Q:Bool->Hp->Prop),Inv X pins σ H s->t σ H Q->wpAny (model X.prog X.w) X.A (isTrue e X.env whole) (TP X pins σ Q) X.xe s
theorem PW.pt {X:Cx} {e:Expr} {t:TT} (h:PW X e t):PT X e t:=h _
def PA (X:Cx) (es:List Expr) (t:TA):Prop:=
 ∀ (pos:Pos) (pins:List (Addr × Obj)) (s:Shared) (σ:St) (H:Hp) (Q:List V->Hp->Prop),Inv X pins σ H s->t σ H Q->wpAny (model X.prog X.w) X.A (spliced (backTo pos (starEach es X.env))) (AP X pins σ Q) X.xe s
def PS (X:Cx) (st:Stmt) (t:TS):Prop:=
 ∀ (pins:List (Addr × Obj)) (s:Shared) (σ:St) (H:Hp) (D:gq),Inv X pins σ H s->t D σ H->wpAny (model X.prog X.w) X.A (exec st X.env) (SP X pins D) X.xe s
def PSs (X:Cx) (st:List Stmt) (t:TS):Prop:=
 ∀ (pins:List (Addr × Obj)) (s:Shared) (σ:St) (H:Hp) (D:gq),Inv X pins σ H s->t D σ H->wpAny (model X.prog X.w) X.A (execs st X.env) (SP X pins D) X.xe s
theorem thn {α:Type} {t:Sem α} {Q Q':α->Shared->Prop} {M:Model} {A:Around} {E:Value->Shared->Prop} {s:Shared} (h:wpAny M A t Q E s) (hQ:∀ a s,Q a s->Q' a s):wpAny M A t Q' E s:=wpAny_mono h hQ λ_ _ x=>x
section
variable {X:Cx}
theorem bin {a b:Expr} {ta tb:TE} (ha:PE X a ta) (hb:PE X b tb) {pins:List (Addr × Obj)} {s:Shared} {σ:St} {H:Hp} {R:V->V->Hp->Prop} (I:Inv X pins σ H s) (h:ta σ H λx H1=>tb σ H1 λy H2=>R x y H2)
  {α:Type} {Q:α->Shared->Prop} {f:Value->Value->Sem α}
  (hf:∀ v u s2 x y H2,Inv X pins σ H2 s2->md x v->md y u->R x y H2->wpAny (model X.prog X.w) X.A (f v u) Q X.xe s2) :
  wpAny (model X.prog X.w) X.A (eval a X.env) (λv s₁=>wpAny (model X.prog X.w) X.A (eval b X.env) (λu s₂=>wpAny (model X.prog X.w) X.A (f v u) Q X.xe s₂) X.xe s₁) X.xe s:=by
 refine thn (ha pins s σ H _ I h) λv s1 ⟨x,H1,I1,r1,q1⟩=>?_
 refine thn (hb pins s1 σ H1 _ I1 q1) λu s2 ⟨y,H2,I2,r2,q2⟩=>?_
 exact hf v u s2 x y H2 I2 r1 r2 q2
def tVar (i:Nat):TE:=λσ H Q=>∃ v,σ[i]? = some (some v)/\Q v H
def tC (v:V):TE:=λ_ H Q=>Q v H
theorem pe_var {i:Nat} {x:Str} {pos:Pos} (hN:X.N[i]? = some x) (hv:Vis X.env.scope x) (hd:(x == ("__debug__" : Str))=false:=by decide) (hcd:(x == ("__classdict__" : Str))=false:=by decide):PE X (.Name x pos) (tVar i):=by
 intro pins s σ H Q I h
 obtain ⟨v,e,h⟩:=h
 obtain ⟨m,hn,hl⟩:=I.loc
 obtain ⟨u,r,l⟩:=hl i x v hN e hv
 have fin:EP X pins σ Q u s:=⟨v,H,I,r,h⟩
 rcases l with ⟨hk,hm⟩ | ⟨hk,c,hc,hcell⟩
 ·exact wpAny_Name (wpAny_loadName_local I.ok.kind hk hn hm fin) hd
 ·rcases hk with hk | hk
  ·exact wpAny_Name (wpAny_loadName_cell I.ok.kind hk hc hcell fin) hd
  ·exact wpAny_Name (wpAny_loadName_free I.ok.kind hk hc hcell fin hcd) hd
theorem ae {i j pos}:PE X (.Constant (.int i) j pos) (tC (.int i)):=λ_ _ _ H _ I h=>wpAny_Constant_int ⟨.int i,H,I.tok _,⟨_,rfl⟩,h⟩
theorem cr {b j pos}:PE X (.Constant (.bool b) j pos) (tC (.bl b)):=λ_ _ _ H _ I h=>Constant_bool ⟨.bl b,H,I,rfl,h⟩
theorem pe_str {x j pos}:PE X (.Constant (.str x) j pos) (tC (.str x)):=λ_ _ _ H _ I h=>Calls.Constant_str ⟨.str x,H,I.tok _,⟨_,rfl⟩,h⟩
def Gl (X:Cx) (x:Str):Prop:=X.env.kindOf x=some .globalImplicit
theorem gi {E:Value->Shared->Prop} {pins:List (Addr × Obj)} {s:Shared} {σ:St} {H:Hp} {x:Str} {u:Value} {pos:Pos} {Q:Value->Shared->Prop} (I:Inv X pins σ H s) (hg:Gl X x) (hm:X.mg x=some u) (h:Q u s)
  (hd:(x == ("__debug__" : Str))=false:=by decide):wpAny (model X.prog X.w) X.A (eval (.Name x pos) X.env) Q E s:=
 Calls.Name_function_global I.ok.kind hg (Calls.loadGlobal_global (by rw [I.ok.glob]; exact I.mod.glob.keeps I.bk) hm h) hd
theorem dU {E:Value->Shared->Prop} {pins:List (Addr × Obj)} {s:Shared} {σ:St} {H:Hp} {x:Str} {u:Value} {pos:Pos} {Q:Value->Shared->Prop} (I:Inv X pins σ H s) (hg:Gl X x) (hm:X.mg x=none) (hv:bootBuiltins x=some u) (h:Q u s)
  (hn:x ≠ "__name__":=by decide) (hd:(x == ("__debug__" : Str))=false:=by decide):wpAny (model X.prog X.w) X.A (eval (.Name x pos) X.env) Q E s:=by
 obtain ⟨mb,h1,h2⟩:=I.mod.blt
 exact Calls.Name_function_global I.ok.kind hg (Calls.loadGlobal_builtin (by rw [I.ok.glob]; exact I.mod.glob.keeps I.bk) hm (by rw [I.ok.blt]; exact h1.keeps I.bk) ((h2 x hn).trans hv) h) hd
theorem gh {x:Str} {v:V} {u:Value} {pos:Pos} (hg:Gl X x) (hm:X.mg x=some u) (r:md v u) (hd:(x == ("__debug__" : Str))=false:=by decide):PE X (.Name x pos) (tC v):=
 λ_ _ _ H _ I h=>gi I hg hm ⟨v,H,I,r,h⟩ hd
theorem pe_bltn {x:Str} {v:V} {u:Value} {pos:Pos} (hg:Gl X x) (hm:X.mg x=none) (hv:bootBuiltins x=some u) (r:md v u) (hn:x ≠ "__name__":=by decide) (hd:(x == ("__debug__" : Str))=false:=by decide):PE X (.Name x pos) (tC v):=
 λ_ _ _ H _ I h=>dU I hg hm hv ⟨v,H,I,r,h⟩ hn hd
variable {a b:Expr} {ta tb:TE} {pos:Pos}
def PC (X:Cx) (op:CmpOp) (a b:Expr) (t:TE):Prop:=
 ∀ (pins:List (Addr × Obj)) (s:Shared) (σ:St) (H:Hp) (Q:VK),Inv X pins σ H s->t σ H Q->
  wpAny (model X.prog X.w) X.A (eval a X.env) (λv s₁=>wpAny (model X.prog X.w) X.A (eval b X.env) (λu s₂=>wpAny (model X.prog X.w) X.A (compareOp op v u) (EP X pins σ Q) X.xe s₂) X.xe s₁) X.xe s
def tB (t:TE):TT:=λσ H Q=>t σ H λx H1=>∃ c,x=.bl c/\Q c H1
theorem pt_cmp {op:CmpOp} {t:TE} (h:PC X op a b t) (h1:behindInMarks op b=false:=by first | exact nobehind _ (by decide) (by decide) | rfl):PT X (.Compare a [op] [b] pos) (tB t):=by
 intro pins s σ H Q I hw
 refine wpAny_isTrue_Compare1 (thn (h pins s σ H _ I hw) λv s1 h1=>thn h1 λu s2 h2=>thn h2 λc s3 ⟨x,H1,I1,r1,q1⟩=>?_) h1
 obtain ⟨d,rfl,q⟩:=q1
 cases r1
 exact wpAny_truthy_bool ⟨H1,I1,q⟩
theorem bQ {e:Expr} {t:TE} (h:PE X e t) (he:∀ whole,isTrue e X.env whole=(do let v <- whole; standAt e.pos; holding [v] (truthy v)):=by intro _; rfl):PT X e (tB t):=by
 intro pins s σ H Q I hw
 refine isTrue_plain (thn (h pins s σ H _ I hw) λv s1 ⟨x,H1,I1,r1,q1⟩=>?_) (he _)
 obtain ⟨d,rfl,q⟩:=q1
 cases r1
 exact wpAny_truthy_bool ⟨H1,I1,q⟩
variable {tA tB':TT} {rest:List Expr}
def tAnd (t u:TT):TT:=λσ H Q=>t σ H λc H1=>if c=true then u σ H1 Q else Q false H1
def tOr (t u:TT):TT:=λσ H Q=>t σ H λc H1=>if c=true then Q true H1 else u σ H1 Q
def tNot (t:TT):TT:=λσ H Q=>t σ H λc H1=>Q (!c) H1
theorem pw_and1 (ha:PT X a tA):PW X (.BoolOp .And [a] pos) tA:=by
 intro wh pins s σ H Q I h
 refine isTrue_and (thn (ha pins s σ H Q I h) λc s1 e=>?_)
 cases c with
 | true=>exact isTrue_and_nil e
 | false=>exact e
theorem eC (ha:PT X a tA):PW X (.BoolOp .Or [a] pos) tA:=by
 intro wh pins s σ H Q I h
 refine isTrue_or (thn (ha pins s σ H Q I h) λc s1 e=>?_)
 cases c with
 | false=>exact isTrue_or_nil e
 | true=>exact e
theorem pw_and (ha:PT X a tA) (hb:PW X (.BoolOp .And (b::rest) pos) tB'):PW X (.BoolOp .And (a::b::rest) pos) (tAnd tA tB'):=by
 intro wh pins s σ H Q I h
 refine isTrue_and (thn (ha pins s σ H _ I h) λc s1 ⟨H1,I1,q1⟩=>?_)
 cases c with
 | true=>exact hb wh pins s1 σ H1 Q I1 q1
 | false=>exact ⟨H1,I1,q1⟩
theorem dQ (ha:PT X a tA) (hb:PW X (.BoolOp .Or (b::rest) pos) tB'):PW X (.BoolOp .Or (a::b::rest) pos) (tOr tA tB'):=by
 intro wh pins s σ H Q I h
 refine isTrue_or (thn (ha pins s σ H _ I h) λc s1 ⟨H1,I1,q1⟩=>?_)
 cases c with
 | true=>exact ⟨H1,I1,q1⟩
 | false=>exact hb wh pins s1 σ H1 Q I1 q1
theorem cJ (ha:PT X a tA):PT X (.UnaryOp .Not a pos) (tNot tA):=by
 intro pins s σ H Q I h
 exact isTrue_not (ha pins s σ H (λc H1=>Q (!c) H1) I h)
def tAndV (ta tb:TE):TE:=λσ H Q=>ta σ H λx H1=>∃ c,x=.bl c/\if c=true then tb σ H1 Q else Q (.bl false) H1
def tNotV (ta:TE):TE:=λσ H Q=>ta σ H λx H1=>∃ c,x=.bl c/\Q (.bl (!c)) H1
theorem jq {op} {t:TE} (h:PE X a t):PE X (.BoolOp op [a] pos) t:=λpins s σ H Q I hw=>BoolOp_one (h pins s σ H Q I hw)
theorem jw (ha:PE X a ta) (hb:PE X (.BoolOp .And (b::rest) pos) tb):PE X (.BoolOp .And (a::b::rest) pos) (tAndV ta tb):=by
 intro pins s σ H Q I h
 refine BoolOp_and (thn (ha pins s σ H _ I h) λv s1 ⟨x,H1,I1,r1,q1⟩=>?_)
 obtain ⟨c,rfl,q1⟩:=q1
 cases r1
 refine wpAny_truthy_bool ?_
 cases c with
 | true=>exact hb pins s1 σ H1 Q I1 q1
 | false=>exact ⟨.bl false,H1,I1,rfl,q1⟩
theorem pe_not (ha:PE X a ta):PE X (.UnaryOp .Not a pos) (tNotV ta):=by
 intro pins s σ H Q I h
 refine UnaryOp_ (thn (ha pins s σ H _ I h) λv s1 ⟨x,H1,I1,r1,q1⟩=>?_)
 obtain ⟨c,rfl,q1⟩:=q1
 cases r1
 exact not_of (wpAny_truthy_bool ⟨.bl (!c),H1,I1,rfl,q1⟩)
def tIf (t:TT) (ta tb:TE):TE:=λσ H Q=>t σ H λc H1=>if c=true then ta σ H1 Q else tb σ H1 Q
theorem pe_ifExp {c:Expr} (hc:PT X c tA) (ha:PE X a ta) (hb:PE X b tb):PE X (.IfExp c a b pos) (tIf tA ta tb):=by
 intro pins s σ H Q I h
 refine wpAny_IfExp (thn (hc pins s σ H _ I h) λd s1 ⟨H1,I1,q1⟩=>?_)
 cases d with
 | true=>exact ha pins s1 σ H1 Q I1 q1
 | false=>exact hb pins s1 σ H1 Q I1 q1
end
def SqL (K:Frag) (H:Hp) (a:Addr) (xs:List V):Prop:=
 Rd H a (.lst xs) \/
  ∃ (o:Obj) (its:Array Value) (n:Nat),K.lookup a=some o/\o.cls=.type "list"/\o.dict=none/\o.data=.seq its n/\its.size<=sizeLine/\l9 xs its.toList
def SqT (K:Frag) (H:Hp) (a:Addr) (xs:List V):Prop:=
 Rd H a (.tup xs) \/
  ∃ (o:Obj) (its:Array Value) (n:Nat),K.lookup a=some o/\o.cls=.type "tuple"/\o.data=.seq its n/\its.size<=sizeLine/\l9 xs its.toList
def absV:Value->Option V
 | .none=>some .non
 | .bool b=>some (.bl b)
 | .int i _=>some (.int i)
 | .str x _=>some (.str x)
 | .bytes b _=>some (.byt b)
 | .float b _=>some (.flt b)
 | .ref a=>some (.ref a)
 | .type n=>some (.ty n)
 | _=>none
theorem md.abs {x:V} {u:Value} (r:md x u):absV u=some x:=by
 cases x with
 | non=>cases r; rfl
 | bl _=>cases r; rfl
 | int _=>obtain ⟨t,rfl⟩:=r; rfl
 | str _=>obtain ⟨t,rfl⟩:=r; rfl
 | byt _=>obtain ⟨t,rfl⟩:=r; rfl
 | flt _=>obtain ⟨t,rfl⟩:=r; rfl
 | ref _=>cases r; rfl
 | ty _=>cases r; rfl
theorem md.inj {x y:V} {u:Value} (r:md x u) (q:md y u):x=y:=Option.some.inj (r.abs.symm.trans q.abs)
theorem l9.inj:∀ {xs ys:List V} {us:List Value},l9 xs us->l9 ys us->xs=ys
 | _,_,_,.nil,.nil=>rfl
 | _,_,_,.cons r t,.cons r' t'=>by rw [r.inj r',l9.inj t t']
section
variable {X:Cx} {pins:List (Addr × Obj)} {σ:St} {H:Hp} {s:Shared} {a:Addr} {xs ys:List V}
theorem SqL.of {K:Frag} (h:H a=some (.lst xs)):SqL K H a xs:=.inl (.inl h)
theorem SqT.of {K:Frag} (h:H a=some (.tup xs)):SqT K H a xs:=.inl (.inl h)
theorem Inv.list (I:Inv X pins σ H s) (h:SqL X.K H a xs):∃ its:List Value,l9 xs its/\PlainL s.heap a its.toArray/\xs.length<=sizeLine:=by
 rcases h with h | ⟨o,its,n,hk,hc,hd,hs,hz,r⟩
 ·obtain ⟨z,its,n,r,e⟩:=h.ok I.hok
  exact ⟨its,r,⟨_,n,e,rfl,rfl,rfl⟩,z⟩
 ·refine ⟨its.toList,r,⟨o,n,I.kIn a o hk,hc,hd,by simpa using hs⟩,?_⟩
  have e:=r.length
  simp only [Array.length_toList] at e
  omega
theorem Inv.tuple (I:Inv X pins σ H s) (h:SqT X.K H a xs):∃ its:List Value,l9 xs its/\IsTup s.heap a its.toArray/\xs.length<=sizeLine:=by
 rcases h with h | ⟨o,its,n,hk,hc,hs,hz,r⟩
 ·obtain ⟨z,its,r,p⟩:=h.ok I.hok
  exact ⟨its,r,p,z⟩
 ·refine ⟨its.toList,r,⟨o,I.kIn a o hk,hc,n,by simpa using hs⟩,?_⟩
  have e:=r.length
  simp only [Array.length_toList] at e
  omega
theorem Inv.list_inj (I:Inv X pins σ H s) (h:SqL X.K H a xs) (h':SqL X.K H a ys):xs=ys:=by
 obtain ⟨its,r,⟨o,n,e,_,_,d⟩,_⟩:=I.list h
 obtain ⟨its',r',⟨o',n',e',_,_,d'⟩,_⟩:=I.list h'
 rw [e] at e'; cases e'
 rw [d] at d'
 injection d' with d1 _
 have:its=its':=by simpa using congrArg Array.toList d1
 subst this
 exact r.inj r'
theorem Inv.tuple_inj (I:Inv X pins σ H s) (h:SqT X.K H a xs) (h':SqT X.K H a ys):xs=ys:=by
 obtain ⟨its,r,⟨o,e,_,n,d⟩,_⟩:=I.tuple h
 obtain ⟨its',r',⟨o',e',_,n',d'⟩,_⟩:=I.tuple h'
 rw [e] at e'; cases e'
 rw [d] at d'
 injection d' with d1 _
 have:its=its':=by simpa using congrArg Array.toList d1
 subst this
 exact r.inj r'
end
abbrev Cx.wish (X:Cx) (E:Value->Shared->Prop):Cx:={ X with xe:=E }
abbrev Cx.nox (X:Cx):Cx:=X.wish λ_ _=>False
theorem Cx.Ok.wish {X:Cx} (ok:X.Ok) (E:Value->Shared->Prop):(X.wish E).Ok:=
 ⟨ok.mod,ok.kind,ok.glob,ok.blt,ok.above,ok.inj,ok.has,ok.cab,ok.hd,ok.frames,ok.stk,ok.exf,ok.bs,ok.bsz,ok.noex,ok.exfs,ok.funs,ok.frf⟩
theorem Cx.Ok.unwish {X:Cx} {E:Value->Shared->Prop} (ok:(X.wish E).Ok):X.Ok:=
 ⟨ok.mod,ok.kind,ok.glob,ok.blt,ok.above,ok.inj,ok.has,ok.cab,ok.hd,ok.frames,ok.stk,ok.exf,ok.bs,ok.bsz,ok.noex,ok.exfs,ok.funs,ok.frf⟩
section
variable {X:Cx} {pins:List (Addr × Obj)} {σ:St} {H:Hp} {s:Shared} {E:Value->Shared->Prop}
theorem Inv.wish (I:Inv X pins σ H s) (E:Value->Shared->Prop):Inv (X.wish E) pins σ H s:=⟨I.ok.wish E,I.os,I.bare,I.base,I.loc,I.cell,I.free,I.freeC,I.pin,I.hok,I.len⟩
theorem Inv.unwish (I:Inv (X.wish E) pins σ H s):Inv X pins σ H s:=⟨I.ok.unwish,I.os,I.bare,I.base,I.loc,I.cell,I.free,I.freeC,I.pin,I.hok,I.len⟩
theorem SP.unwish {D:gq} {f:Flow} {s':Shared} (h:SP (X.wish E) pins D f s'):SP X pins D f s':=by
 cases f with
 | next=>obtain ⟨σ',H',I,q⟩:=h; exact ⟨σ',H',I.unwish,q⟩
 | brk=>obtain ⟨σ',H',I,q⟩:=h; exact ⟨σ',H',I.unwish,q⟩
 | cont=>obtain ⟨σ',H',I,q⟩:=h; exact ⟨σ',H',I.unwish,q⟩
 | ret u=>obtain ⟨v,σ',H',I,r,q⟩:=h; exact ⟨v,σ',H',I.unwish,r,q⟩
theorem PSs.nox {st:List Stmt} {t:TS} (h:PSs X.nox st t):PSs X st t:=λpins s σ H D I hw=>
 wpAny_mono (h pins s σ H D (I.wish _) hw) (λ_ _ q=>q.unwish) λ_ _ z=>False.elim z
end
section
variable {X:Cx} {st:Stmt} {rest:List Stmt} {t u:TS} {e:Expr} {te:TE} {pos:Pos}
def tNext:TS:=λD σ H=>D.nx σ H
def tSeq (t u:TS):TS:=λD σ H=>t { D with nx:=u D } σ H
theorem aC:PSs X [] tNext:=λ_ _ σ H _ I h=>wpAny_execs_nil ⟨σ,H,I,h⟩
theorem ag (h1:PS X st t) (h2:PSs X rest u):PSs X (st::rest) (tSeq t u):=by
 intro pins s σ H D I h
 refine wpAny_execs_cons (thn (h1 pins s σ H { D with nx:=u D } I h) λf s1 q=>?_)
 cases f with
 | next=>
  obtain ⟨σ',H',I',q⟩:=q
  exact h2 pins s1 σ' H' D I' q
 | ret v=>exact q
 | brk=>exact q
 | cont=>exact q
theorem ai (h1:PS X st t):PSs X [st] t:=by
 intro pins s σ H D I h
 refine wpAny_execs_cons (thn (h1 pins s σ H D I h) λf s1 q=>?_)
 cases f with
 | next=>exact wpAny_execs_nil q
 | ret v=>exact q
 | brk=>exact q
 | cont=>exact q
theorem Inv.quiet {pins:List (Addr × Obj)} {σ:St} {H:Hp} {s:Shared} (I:Inv X pins σ H s):interactive X.env=false:=by simp [interactive,I.ok.kind]
def tDrop (te:TE):TS:=λD σ H=>te σ H λ_ H1=>D.nx σ H1
theorem iA (he:PE X e te) (hs:swapsWith e none pos.line X.env=pure false:=by rfl):PS X (.Expr e pos) (tDrop te):=by
 intro pins s σ H D I h
 exact wpAny_Expr_any (thn (he pins s σ H _ I h) λv s1 ⟨x,H1,I1,r1,q1⟩=>⟨σ,H1,I1,q1⟩) I.quiet hs
def tRet (te:TE):TS:=λD σ H=>te σ H D.rt
theorem ap (he:PE X e te):PS X (.Return (some e) pos) (tRet te):=by
 intro pins s σ H D I h
 exact wpAny_Return_some (thn (he pins s σ H _ I h) λv s1 ⟨x,H1,I1,r1,q1⟩=>⟨x,σ,H1,I1,r1,q1⟩)
def tIfS (c:TT) (t u:TS):TS:=λD σ H=>c σ H λb H1=>if b=true then t D σ H1 else u D σ H1
theorem aK {c:Expr} {a b:List Stmt} {tc:TT} (hc:PT X c tc) (ha:PSs X a t) (hb:PSs X b u):PS X (.If c a b pos) (tIfS tc t u):=by
 intro pins s σ H D I h
 refine wpAny_If (thn (hc pins s σ H _ I h) λd s1 ⟨H1,I1,q1⟩=>?_)
 cases d with
 | true=>exact ha pins s1 σ H1 D I1 q1
 | false=>exact hb pins s1 σ H1 D I1 q1
def tNever:TS:=λ_ _ _=>False
theorem ps_never:PS X st tNever:=λ_ _ _ _ _ _ h=>h.elim
end
abbrev TG:=V->St->Hp->(St->Hp->Prop)->Prop
abbrev TGs:=List V->St->Hp->(St->Hp->Prop)->Prop
def PG (X:Cx) (target:Expr) (t:TG):Prop:=
 ∀ (pins:List (Addr × Obj)) (s:Shared) (σ:St) (H:Hp) (v:V) (u:Value) (Q:St->Hp->Prop),Inv X pins σ H s->md v u->t v σ H Q->
  wpAny (model X.prog X.w) X.A (assign target X.env u) (λ_ s'=>∃ σ' H',Inv X pins σ' H' s'/\Q σ' H') X.xe s
def PGs (X:Cx) (ts:List Expr) (t:TGs):Prop:=
 ∀ (pins:List (Addr × Obj)) (s:Shared) (σ:St) (H:Hp) (vs:List V) (us:List Value) (Q:St->Hp->Prop),Inv X pins σ H s->l9 vs us->t vs σ H Q->
  wpAny (model X.prog X.w) X.A (assignInOrder ((assignEach ts X.env).map (·.2)) us) (λ_ s'=>∃ σ' H',Inv X pins σ' H' s'/\Q σ' H') X.xe s
abbrev TSet:=V->V->V->Hp->(Hp->Prop)->Prop
def PSet (X:Cx) (t:TSet):Prop:=
 ∀ (pins:List (Addr × Obj)) (s:Shared) (σ:St) (H:Hp) (o i v:V) (ov iv u:Value) (Q:Hp->Prop),Inv X pins σ H s->md o ov->md i iv->md v u->t o i v H Q->
  wpAny (model X.prog X.w) X.A (setItem ov iv u) (λ_ s'=>∃ H',Inv X pins σ H' s'/\Q H') X.xe s
section
variable {X:Cx} {pos:Pos}
def dO (i:Nat):TG:=λv σ H Q=>Q (σ.set i (some v)) H
theorem bw {i:Nat} {x:Str} (hN:X.N.Nodup) (hi:X.N[i]? = some x) (hx:Loc X.env.scope x) (hf:X.fn x=true\/X.env.scope.names.lookup x=some .local:=by first | exact .inl rfl | exact .inr rfl | assumption):PG X (.Name x pos) (dO i):=by
 intro pins s σ H v u Q I r h
 exact wpAny_assign_Name (fW I hN hi hx r (λs' I'=>⟨_,H,I',h⟩) hf)
def gNil:TGs:=λvs σ H Q=>vs=[]/\Q σ H
def gCons (t:TG) (u:TGs):TGs:=λvs σ H Q=>∃ v r,vs=v::r/\t v σ H λσ' H'=>u r σ' H' Q
theorem lR:PGs X [] gNil:=by
 intro pins s σ H vs us Q I r h
 obtain ⟨e,h⟩:=h
 subst e
 cases r
 exact assignInOrder_nil ⟨σ,H,I,h⟩
theorem bZ {e:Expr} {es:List Expr} {t:TG} {u:TGs} (h1:PG X e t) (h2:PGs X es u)
  (hs:(assignEach (e::es) X.env).map (·.2)=assign e X.env::(assignEach es X.env).map (·.2):=by rfl):PGs X (e::es) (gCons t u):=by
 intro pins s σ H vs us Q I r h
 obtain ⟨v,vr,e1,h⟩:=h
 subst e1
 cases r with
 | cons r rr=>
  rw [hs]
  refine assignInOrder_cons (thn (h1 pins s σ H _ _ _ I r h) λ_ s1 ⟨σ1,H1,I1,q1⟩=>?_)
  exact h2 pins s1 σ1 H1 _ _ Q I1 rr q1
def gTup (K:Frag) (n:Nat) (t:TGs):TG:=λv σ H Q=>∃ a xs,v=.ref a/\SqT K H a xs/\xs.length=n/\t xs σ H Q
theorem pg_tup {es:List Expr} {k:Nat} {t:TGs} {n:Nat} (hc:X.calm=true) (h:PGs X es t)
  (hn:(assignEach es X.env).length=n:=by rfl) (hst:(assignEach es X.env).findIdx? (·.1)=none:=by rfl):PG X (.Tuple es k pos) (gTup X.K n t):=by
 intro pins s σ H v u Q I r hw
 obtain ⟨a,xs,e1,hq,hl,hw⟩:=hw
 subst e1
 cases r
 obtain ⟨its,rv,ht,hz⟩:=I.tuple hq
 refine assign_Tuple_tuple (I.ok.hd hc) ht (by simp [hn,<- hl,rv.length]) hst λh' hx=>?_
 have I1:Inv X pins σ H { s with heap:=h' }:=I.kept (t':=s.toks) λb o e=>hx b o (Nat.ne_of_lt (lt_size e)) e
 exact h pins _ σ H xs _ Q I1 (by simpa using rv) hw
def gSub (to ti:TE) (t:TSet):TG:=λv σ H Q=>to σ H λo H1=>ti σ H1 λi H2=>t o i v H2 λH3=>Q σ H3
theorem iL {o i:Expr} {to ti:TE} {t:TSet} (ho:PE X o to) (hi:PE X i ti) (hs:PSet X t)
  (ha:∀ v,assign (.Subscript o i pos) X.env v=(do
   let ov <- holding [v] (eval o X.env)
   let iv <- holding [v,ov] (eval i X.env)
   standAt pos
   holding [v,ov,iv] (setItem ov iv v)
   release [v,ov,iv] []):=by intro _; rfl):PG X (.Subscript o i pos) (gSub to ti t):=by
 intro pins s σ H v u Q I r h
 rw [ha]
 refine wpAny_bind (wpAny_holding (thn (ho pins s σ H _ I h) λov s1 ⟨x,H1,I1,r1,q1⟩=>?_))
 refine wpAny_bind (wpAny_holding (thn (hi pins s1 σ H1 _ I1 q1) λiv s2 ⟨y,H2,I2,r2,q2⟩=>?_))
 refine wpAny_bind (wpAny_standAt (wpAny_bind (wpAny_holding (thn (hs pins s2 σ H2 x y v ov iv u _ I2 r1 r2 r q2) λ_ s3 ⟨H3,I3,q3⟩=>?_))))
 exact wpAny_release ⟨σ,H3,I3,q3⟩
def tAsg (te:TE) (g:TG):TS:=λD σ H=>te σ H λx H1=>g x σ H1 D.nx
theorem gr {tg e:Expr} {te:TE} {g:TG} (he:PE X e te) (hg:PG X tg g) (hs:swapsWithSole [tg] e pos.line X.env=pure false:=by rfl) (hw:swappedStores [tg] e X.env=pure none:=by rfl)
  (h1:(assignEach [tg] X.env).map (·.2)=[assign tg X.env]:=by rfl):PS X (.Assign [tg] e pos) (tAsg te g):=by
 intro pins s σ H D I h
 refine wpAny_Assign_stores (thn (he pins s σ H _ I h) λv s1 ⟨x,H1,I1,r1,q1⟩=>?_) hs hw
 rw [h1]
 exact thn (hg pins s1 σ H1 x v _ I1 r1 q1) λ_ s2 q=>q
theorem ar {i:Nat} {x:Str} {e:Expr} {te:TE} {pos':Pos} (hN:X.N.Nodup) (hi:X.N[i]? = some x) (hx:Loc X.env.scope x) (he:PE X e te) (hs:swapsWith e (some (.Name x pos')) pos.line X.env=pure false:=by rfl) (hf:X.fn x=true\/X.env.scope.names.lookup x=some .local:=by first | exact .inl rfl | exact .inr rfl | assumption) :
  PS X (.Assign [.Name x pos'] e pos) (tAsg te (dO i)):=by
 intro pins s σ H D I h
 refine wpAny_Assign_Name (thn (he pins s σ H _ I h) λv s1 ⟨y,H1,I1,r1,q1⟩=>?_) hs
 exact fW I1 hN hi hx r1 (λs2 I2=>⟨_,H1,I2,q1⟩) hf
def tPar (i j:Nat) (ta:TA):TS:=λD σ H=>ta σ H λvs H1=>∃ v w,vs=[v,w]/\D.nx ((σ.set i (some v)).set j (some w)) H1
theorem ps_par {i j:Nat} {x y:Str} {a b:Expr} {ta:TA} {px py pt:Pos} {kt k2 pt2} (hc:X.calm=true) (hN:X.N.Nodup) (hi:X.N[i]? = some x) (hj:X.N[j]? = some y) (hij:i ≠ j)
  (hx:X.env.scope.names.lookup x=some .local) (hy:X.env.scope.names.lookup y=some .local) (ha:PA X [a,b] ta)
  (hw:swappedStores [.Tuple [.Name x px,.Name y py] kt pt] (.Tuple [a,b] k2 pt2) X.env=pure (some [x,y]))
  (hs:swapsWithSole [.Tuple [.Name x px,.Name y py] kt pt] (.Tuple [a,b] k2 pt2) pos.line X.env=pure false:=by rfl) :
  PS X (.Assign [.Tuple [.Name x px,.Name y py] kt pt] (.Tuple [a,b] k2 pt2) pos) (tPar i j ta):=by
 intro pins s σ H D I h
 rw [exec_Assign_arm]
 refine wpAny_bind (wpAny_standAt ?_)
 rw [hs]
 refine wpAny_bind (wpAny_pure ?_)
 rw [if_neg (by decide)]
 refine wpAny_bind (Tuple_ (thn (ha _ pins s σ H _ I h) λus s1 ⟨vs,H1,I1,r1,q1⟩=>?_))
 obtain ⟨v,w,e1,q1⟩:=q1
 subst e1
 obtain ⟨u1,u2,rfl,rv,rw'⟩:∃ u1 u2,us=[u1,u2]/\md v u1/\md w u2:=by
  cases r1 with
  | cons p q=>
   cases q with
   | cons p' q'=>
    cases q'
    exact ⟨_,_,rfl,p,p'⟩
 refine wpAny_newObj_type ?_ (by show 2<=sizeLine; decide)
 have I2:Inv X pins σ H1 { s1 with heap:=s1.heap.push { cls:=.type "tuple",data:=.seq [u1,u2].toArray } }:=I1.kept (t':=s1.toks) λb o e=>get?_push_of_some _ e
 rw [hw]
 refine wpAny_bind (wpAny_pure ?_)
 show wpAny (model X.prog X.w) X.A (do rule "assign.swapped-stores"; let items <- unpackItems (.ref s1.heap.objs.size) 2 none; assignInOrder [λv=>bindName X.env y v,λv=>bindName X.env x v] items.reverse; pure Flow.next) _ _ _
 refine wpAny_bind (wpAny_rule (wpAny_bind (unpackItems_tuple (items:=#[u1,u2]) (I.ok.hd hc) (IsTup.new s1.heap _) λh' hx'=>?_)))
 have I3:=I2.kept (h':=h') (t':=s1.toks) λb o e=>hx' b o (Nat.ne_of_lt (lt_size e)) e
 show wpAny _ _ (assignInOrder [λv=>bindName X.env y v,λv=>bindName X.env x v] [u2,u1] >>= λ_=>pure Flow.next) _ _ _
 refine wpAny_bind (assignInOrder_cons (wpAny_bindName (fW I3 hN hj (.inl hy) rw' (λs2 I4=>?_) (.inr hy))))
 refine assignInOrder_cons (wpAny_bindName (fW I4 hN hi (.inl hx) rv (λs3 I5=>assignInOrder_nil (wpAny_pure ?_)) (.inr hx)))
 rw [List.set_comm _ _ (Ne.symm hij)] at I5
 exact ⟨_,H1,I5,q1⟩
end
section
variable {X:Cx} {pos:Pos}
def tWhile (c:TT) (tb:TS):TS:=λD σ H=>∃ W:Nat->St->Hp->Prop,(∃ m,W m σ H)/\∀ m σ H,W m σ H->
 c σ H λb H1=>if b=true then ∃ N:St->Hp->Prop,(∀ σ' H',N σ' H'->∃ m',m' < m/\W m' σ' H')/\tb { D with nx:=N,ct:=N,bk:=D.nx } σ H1 else D.nx σ H1
theorem eU {c:Expr} {body:List Stmt} {tc:TT} {tb:TS} (hp:PassesOwn (model X.prog X.w) X.A X.env X.xe) (hc:PT X c tc) (hb:PSs X body tb):PS X (.While c body [] pos) (tWhile tc tb):=by
 intro pins s σ H D I h
 obtain ⟨W,⟨m0,w0⟩,turn⟩:=h
 refine wpAny_While (codeAny_whileLoop (λn s'=>∃ σ' H',Inv X pins σ' H' s'/\W n σ' H') ?_ m0 ⟨σ,H,I,w0⟩)
 rintro n s1 ⟨σ1,H1,I1,w1⟩
 refine wpAny_passesOwn hp (thn (hc pins s1 σ1 H1 _ I1 (turn n σ1 H1 w1)) λb s2 ⟨H2,I2,q2⟩=>?_)
 cases b with
 | true=>
  obtain ⟨N,hN,q2⟩:=q2
  rw [if_pos rfl]
  refine wpAny_passesOwn hp (thn (hb pins s2 σ1 H2 _ I2 q2) λf s3 q3=>?_)
  cases f with
  | next=>
   obtain ⟨σ3,H3,I3,n3⟩:=q3
   obtain ⟨m',hm,w3⟩:=hN σ3 H3 n3
   exact ⟨m',hm,σ3,H3,I3,w3⟩
  | cont=>
   obtain ⟨σ3,H3,I3,n3⟩:=q3
   obtain ⟨m',hm,w3⟩:=hN σ3 H3 n3
   exact ⟨m',hm,σ3,H3,I3,w3⟩
  | brk=>exact q3
  | ret v=>exact q3
 | false=>
  rw [if_neg Bool.false_ne_true]
  exact wpAny_execs_nil ⟨σ1,H2,I2,q2⟩
end
structure It where
 go:Nat->Hp->Prop
 yld:Nat->Hp->V->Hp->Prop
 stop:Nat->Hp->Prop
def fF (X:Cx) (pins:List (Addr × Obj)) (H:Hp) (b:Addr):Prop:=
 H b=none/\b ≠ X.env.locals/\b ∉ X.fs/\(b ∈ X.ex\/X.s₀.heap.objs.size<=b)/\(∀ x c,X.env.cells.lookup x=some c->c ≠ b)/\∀ p ∈ X.pn++pins,p.1 ≠ b
theorem Inv.fpOk {X:Cx} {pins:List (Addr × Obj)} {σ:St} {H H':Hp} {s:Shared} {b:Addr} (I:Inv X pins σ H s) (hb:s.heap.objs.size<=b) (hn:H' b=none):fF X pins H' b:=by
 refine ⟨hn,Nat.ne_of_gt (Nat.lt_of_lt_of_le I.lt hb),I.nofs hb,.inr (Nat.le_trans I.sz hb),λx c e z=>?_,λp hp z=>?_⟩
 ·obtain ⟨v,q⟩:=I.cell x c e
  exact absurd (Nat.lt_of_lt_of_le q.lt (by rw [z]; exact hb)) (Nat.lt_irrefl _)
 ·exact absurd (Nat.lt_of_lt_of_le (lt_size (I.pin p hp).1) (by rw [z]; exact hb)) (Nat.lt_irrefl _)
structure Turn (P:Program) (w:World) (K:Frag) (tg:Expr) (J:It) (fp:List Addr) (it:Addr) (tn:Nat->Heap->Prop):Prop where
 mem:it ∈ fp
 obj:∀ i h,tn i h->∀ b ∈ fp,∃ o,h.get? b=some o/\∀ v,o.data ≠ .cell v
 keep:∀ i h h',tn i h->(∀ b ∈ fp,∀ o,h.get? b=some o->h'.get? b=some o)->tn i h'
 item:∀ (X:Cx),X.prog=P->X.w=w->X.K=K->X.calm=true->∀ (i:Nat) (pins:List (Addr × Obj)) (s:Shared) (σ:St) (H:Hp) (E:Value->Shared->Prop),Inv X pins σ H s->(∀ b ∈ fp,fF X pins H b)->tn i s.heap->J.go i H->
  wpAny (model P w) X.A (pyNext (.ref it)) (λr s1=>∃ u,r=some u/\
   wpAny (model P w) X.A (letOwnedTupleGo tg (.ref it) u) (λ_ s2=>∃ x H',Inv X pins σ H' s2/\md x u/\J.yld i H x H'/\tn (i+1) s2.heap/\∀ b ∈ fp,H' b=none) E s1) E s
 done:∀ (X:Cx),X.prog=P->X.w=w->X.K=K->X.calm=true->∀ (i:Nat) (pins:List (Addr × Obj)) (s:Shared) (σ:St) (H:Hp) (E:Value->Shared->Prop),Inv X pins σ H s->(∀ b ∈ fp,fF X pins H b)->tn i s.heap->J.stop i H->
  wpAny (model P w) X.A (pyNext (.ref it)) (λr s1=>r=none/\Inv X pins σ H s1) E s
 self:∀ (A:Around) (i:Nat) (s:Shared) (Q:Value->Shared->Prop) (E:Value->Shared->Prop),tn i s.heap->Q (.ref it) s->wpAny (model P w) A (pyIter (.ref it)) Q E s
abbrev TI:=St->Hp->(It->Hp->Prop)->Prop
def PIE (X:Cx) (pins:List (Addr × Obj)) (σ:St) (tg:Expr) (R:It->Hp->Prop) (itv:Value) (s2:Shared):Prop:=
 ∃ (it:Addr) (fp:List Addr) (tn:Nat->Heap->Prop) (J:It) (H':Hp),itv=.ref it/\Inv X pins σ H' s2/\Turn X.prog X.w X.K tg J fp it tn/\tn 0 s2.heap/\(∀ b ∈ fp,fF X pins H' b)/\R J H'
def PI (X:Cx) (tg iter:Expr) (wi:TI):Prop:=
 ∀ (pins:List (Addr × Obj)) (s:Shared) (σ:St) (H:Hp) (R:It->Hp->Prop),Inv X pins σ H s->wi σ H R->
  wpAny (model X.prog X.w) X.A (eval iter X.env) (λv s1=>wpAny (model X.prog X.w) X.A (pyIter v) (PIE X pins σ tg R) X.xe s1) X.xe s
theorem go_of {M:Model} {A:Around} {E:Value->Shared->Prop} {s:Shared} {tg:Expr} {it:Addr} {u:Value} {o:Obj} {n:String} {vs:Array Value} {Q:Unit->Shared->Prop} (ho:s.heap.get? it=some o) (hc:o.cls=.type n) (hd:o.data=.fields vs)
  (hn:["enumerate", "zip", "dict_itemiterator", "dict_reverseitemiterator", "odict_iterator", "itertools.zip_longest", "itertools.pairwise"].contains n=false) (hQ:Q () s):wpAny M A (letOwnedTupleGo tg (.ref it) u) Q E s:=by
 unfold letOwnedTupleGo
 cases tg<;>first
  | exact wpAny_pure hQ
  | (cases u<;>first
    | exact wpAny_pure hQ
    | (refine wpAny_bind (wpAny_load ho ?_)
       rw [hc,hd]
       show wpAny M A (if (["enumerate", "zip", "dict_itemiterator", "dict_reverseitemiterator", "odict_iterator", "itertools.zip_longest", "itertools.pairwise"].contains n && vs[0]? == some (rawInt _))=true then _ else _) Q E s
       rw [if_neg (by intro h; rw [hn,Bool.false_and] at h; cases h)]
       exact wpAny_pure hQ))
def Itl (K:Frag) (a:Addr):It:=
 ⟨λi H=>∃ xs x,SqL K H a xs/\xs[i]? = some x,λi H x H'=>H'=H/\∀ xs,SqL K H a xs->xs[i]? = some x,λi H=>∃ xs,SqL K H a xs/\xs.length<=i⟩
def Itt (K:Frag) (a:Addr):It:=
 ⟨λi H=>∃ xs x,SqT K H a xs/\xs[i]? = some x,λi H x H'=>H'=H/\∀ xs,SqT K H a xs->xs[i]? = some x,λi H=>∃ xs,SqT K H a xs/\xs.length<=i⟩
def Itr (lo:Int) (n:Nat):It:=⟨λi _=>i<n,λi H x H'=>H'=H/\x=.int (lo+i),λi _=>n<=i⟩
theorem turn_list {P:Program} {w:World} {K:Frag} {tg:Expr} (a it:Addr):Turn P w K tg (Itl K a) [it] it (λi h=>h.IsListIter it a i) where
 mem:=by simp
 obj:=λi h st b hb=>by
  have e:b=it:=by simpa using hb
  subst e
  obtain ⟨o,e,c,d⟩:=st
  exact ⟨o,e,λv z=>by rw [d] at z; cases z⟩
 keep:=λi h h' st k=>st.at λo e=>k it (by simp) o e
 item:=by
  intro X hP hw hK hc i pins s σ H E I hf st hg
  subst hP hw hK
  obtain ⟨xs,x,hq,hx⟩:=hg
  obtain ⟨its,rv,p,hz⟩:=I.list hq
  obtain ⟨u,hu,ru⟩:=rv.get hx
  obtain ⟨f0,f1,f2,f3,f4,f5⟩:=hf it (by simp)
  refine wpAny_pyNext_list_item st p.isList (x:=u) (by simpa using hu) λh' st' sb=>?_
  have I1:Inv X pins σ H { s with heap:=h' }:=I.turned (t':=s.toks) (λb o hb e=>(sb.2 b hb).trans e) f0 f1 f3 f4 f5
  obtain ⟨o,e,c,d⟩:=id st'
  exact ⟨u,rfl,go_of (s:={ s with heap:=h' }) e c d (by decide) ⟨x,H,I1,ru,⟨rfl,λys hy=>by rw [I.list_inj hy hq]; exact hx⟩,st',λb hb=>(hf b hb).1⟩⟩
 done:=by
  intro X hP hw hK hc i pins s σ H E I hf st hg
  subst hP hw hK
  obtain ⟨xs,hq,hx⟩:=hg
  obtain ⟨its,rv,p,hz⟩:=I.list hq
  obtain ⟨f0,f1,f2,f3,f4,f5⟩:=hf it (by simp)
  have hl:=rv.length
  exact wpAny_pyNext_list_end (I.ok.hd hc) st p.isList (by simp; omega) λh' eb=>⟨rfl,I.turned (t':=s.toks) (λb o hb e=>eb b o hb e) f0 f1 f3 f4 f5⟩
 self:=λ_ _ _ _ _ st h=>wpAny_pyIter_listiter st h
theorem turn_tuple {P:Program} {w:World} {K:Frag} {tg:Expr} (a it:Addr):Turn P w K tg (Itt K a) [it] it (λi h=>h.IsTupleIter it a i) where
 mem:=by simp
 obj:=λi h st b hb=>by
  have e:b=it:=by simpa using hb
  subst e
  obtain ⟨o,e,c,d⟩:=st
  exact ⟨o,e,λv z=>by rw [d] at z; cases z⟩
 keep:=λi h h' st k=>st.at λo e=>k it (by simp) o e
 item:=by
  intro X hP hw hK hc i pins s σ H E I hf st hg
  subst hP hw hK
  obtain ⟨xs,x,hq,hx⟩:=hg
  obtain ⟨its,rv,p,hz⟩:=I.tuple hq
  obtain ⟨u,hu,ru⟩:=rv.get hx
  obtain ⟨f0,f1,f2,f3,f4,f5⟩:=hf it (by simp)
  refine wpAny_pyNext_tuple_item st (show s.heap.IsTuple a its.toArray from p) (x:=u) (by simpa using hu) λh' st' sb=>?_
  have I1:Inv X pins σ H { s with heap:=h' }:=I.turned (t':=s.toks) (λb o hb e=>(sb.2 b hb).trans e) f0 f1 f3 f4 f5
  obtain ⟨o,e,c,d⟩:=id st'
  exact ⟨u,rfl,go_of (s:={ s with heap:=h' }) e c d (by decide) ⟨x,H,I1,ru,⟨rfl,λys hy=>by rw [I.tuple_inj hy hq]; exact hx⟩,st',λb hb=>(hf b hb).1⟩⟩
 done:=by
  intro X hP hw hK hc i pins s σ H E I hf st hg
  subst hP hw hK
  obtain ⟨xs,hq,hx⟩:=hg
  obtain ⟨its,rv,p,hz⟩:=I.tuple hq
  obtain ⟨f0,f1,f2,f3,f4,f5⟩:=hf it (by simp)
  have hl:=rv.length
  exact wpAny_pyNext_tuple_end (I.ok.hd hc) st (show s.heap.IsTuple a its.toArray from p) (by simp; omega) λh' eb=>⟨rfl,I.turned (t':=s.toks) (λb o hb e=>eb b o hb e) f0 f1 f3 f4 f5⟩
 self:=λ_ _ _ _ _ st h=>wpAny_pyIter_tupleiter st h
theorem turn_range {P:Program} {w:World} {K:Frag} {tg:Expr} (it:Addr) (lo:Int) (n:Nat):Turn P w K tg (Itr lo n) [it] it (λi h=>IsRangeIter h it (lo+(i:Nat)*1) ((n:Int)-(i:Nat)) 1) where
 mem:=by simp
 obj:=λi h st b hb=>by
  have e:b=it:=by simpa using hb
  subst e
  exact ⟨_,st,λv z=>by
   have z':Data.fields _=Data.cell v:=z
   cases z'⟩
 keep:=λi h h' st k=>k it (by simp) _ st
 item:=by
  intro X hP hw hK hc i pins s σ H E I hf st hg
  subst hP hw hK
  obtain ⟨f0,f1,f2,f3,f4,f5⟩:=hf it (by simp)
  have W:=Walks.range (prog:=X.prog) (w:=X.w) (I.ok.hd hc) it lo 1 n
  refine W.item i s _ _ hg st λv h' tk hv st' kk=>?_
  obtain ⟨t,rfl⟩:=hv
  have I1:Inv X pins σ H { s with heap:=h',toks:=tk }:=I.turned (λb o hb e=>kk b o (by simpa using hb) e) f0 f1 f3 f4 f5
  refine ⟨_,rfl,go_of (s:={ s with heap:=h',toks:=tk }) (n := "range_iterator") st' rfl rfl (by decide) ⟨.int (lo+i),H,I1,⟨t,?_⟩,⟨rfl,rfl⟩,st',λb hb=>(hf b hb).1⟩⟩
  rw [Int.mul_one]
 done:=by
  intro X hP hw hK hc i pins s σ H E I hf st hg
  subst hP hw hK
  obtain ⟨f0,f1,f2,f3,f4,f5⟩:=hf it (by simp)
  exact wpAny_pyNext_range_end (I.ok.hd hc) st (by have:n<=i:=hg; omega) λh' eb=>⟨rfl,I.turned (t':=s.toks) (λb o hb e=>eb b o hb e) f0 f1 f3 f4 f5⟩
 self:=λ_ _ _ _ _ st h=>wpAny_pyIter_rangeiter st h
section
variable {X:Cx} {tg:Expr}
def iList (K:Frag) (tl:TE):TI:=λσ H R=>tl σ H λx H1=>∃ a,x=.ref a/\(∃ xs,SqL K H1 a xs)/\R (Itl K a) H1
def iTup (K:Frag) (tl:TE):TI:=λσ H R=>tl σ H λx H1=>∃ a,x=.ref a/\(∃ xs,SqT K H1 a xs)/\R (Itt K a) H1
theorem pi_list {l:Expr} {tl:TE} (hl:PE X l tl):PI X tg l (iList X.K tl):=by
 intro pins s σ H R I h
 refine thn (hl pins s σ H _ I h) λv s1 ⟨x,H1,I1,r1,q1⟩=>?_
 obtain ⟨a,e,⟨xs,hq⟩,q⟩:=q1
 subst e
 cases r1
 obtain ⟨its,rv,p,hz⟩:=I1.list hq
 refine wpAny_pyIter_list p.isList ?_
 refine ⟨s1.heap.objs.size,[s1.heap.objs.size],_,_,H1,rfl,I1.kept (t':=s1.toks) λb o e=>get?_push_of_some _ e,turn_list a _,⟨_,get?_push_size _ rfl,rfl,rfl⟩,λb hb=>?_,q⟩
 have e:b=s1.heap.objs.size:=by simpa using hb
 subst e
 exact I1.fpOk (Nat.le_refl _) (I1.hok.fresh (Nat.le_refl _))
theorem pi_tup {l:Expr} {tl:TE} (hl:PE X l tl):PI X tg l (iTup X.K tl):=by
 intro pins s σ H R I h
 refine thn (hl pins s σ H _ I h) λv s1 ⟨x,H1,I1,r1,q1⟩=>?_
 obtain ⟨a,e,⟨xs,hq⟩,q⟩:=q1
 subst e
 cases r1
 obtain ⟨its,rv,p,hz⟩:=I1.tuple hq
 refine wpAny_pyIter_tuple (show s1.heap.IsTuple a its.toArray from p) ?_
 refine ⟨s1.heap.objs.size,[s1.heap.objs.size],_,_,H1,rfl,I1.kept (t':=s1.toks) λb o e=>get?_push_of_some _ e,turn_tuple a _,⟨_,get?_push_size _ rfl,rfl,rfl⟩,λb hb=>?_,q⟩
 have e:b=s1.heap.objs.size:=by simpa using hb
 subst e
 exact I1.fpOk (Nat.le_refl _) (I1.hok.fresh (Nat.le_refl _))
theorem range_it {pins:List (Addr × Obj)} {σ:St} {H:Hp} {s:Shared} {R:It->Hp->Prop} {E:Value->Shared->Prop} {lo hi:Int} {t u v:Tok} {tk:Nat} (I:Inv X pins σ H s) (h1:-(2 ^ 62)<=lo) (h2:lo<2 ^ 62) (h3:-(2 ^ 62)<=hi) (h4:hi<2 ^ 62)
  (q:R (Itr lo (hi-lo).toNat) H):wpAny (model X.prog X.w) X.A (pyIter (.ref s.heap.objs.size)) (PIE X pins σ tg R) E { s with heap:=s.heap.push { cls:=.type "range",data:=.fields #[.int lo t,.int hi u,.int 1 v] },toks:=tk }:=by
 refine wpAny_pyIter_range (IsRange.new ..) (small_one h1 h2 h3 h4) ?_
 have I1:Inv X pins σ H { s with heap:=s.heap.push { cls:=.type "range",data:=.fields #[.int lo t,.int hi u,.int 1 v] },toks:=tk }:=I.kept λb o e=>get?_push_of_some _ e
 refine ⟨(s.heap.push { cls:=.type "range",data:=.fields #[.int lo t,.int hi u,.int 1 v] }).objs.size,[(s.heap.push { cls:=.type "range",data:=.fields #[.int lo t,.int hi u,.int 1 v] }).objs.size],_,_,H,rfl,
  I1.kept (t':=tk) λb o e=>get?_push_of_some _ e,turn_range _ lo (hi-lo).toNat,?_,λb hb=>?_,q⟩
 ·have e1:lo+((0:Nat):Int)*1=lo:=by simp
  have e2:(((hi-lo).toNat:Nat):Int)-((0:Nat):Int)=Builtin.Range.rangeSize lo hi 1:=by rw [rangeSize_one]; split<;>omega
  show IsRangeIter _ _ (lo+((0:Nat):Int)*1) ((((hi-lo).toNat:Nat):Int)-((0:Nat):Int)) 1
  rw [e1,e2]
  exact get?_push_size _ rfl
 ·have e:b=(s.heap.push { cls:=.type "range",data:=.fields #[.int lo t,.int hi u,.int 1 v] }).objs.size:=by simpa using hb
  subst e
  exact I1.fpOk (Nat.le_refl _) (I1.hok.fresh (Nat.le_refl _))
def iRng1 (ta:TA):TI:=λσ H R=>ta σ H λvs H1=>∃ j:Int,vs=[.int j]/\-(2 ^ 62)<=j/\j<2 ^ 62/\R (Itr 0 j.toNat) H1
def iRng2 (ta:TA):TI:=λσ H R=>ta σ H λvs H1=>∃ i j:Int,vs=[.int i,.int j]/\(-(2 ^ 62)<=i/\i<2 ^ 62/\-(2 ^ 62)<=j/\j<2 ^ 62)/\R (Itr i (j-i).toNat) H1
theorem db {a:Expr} {ta:TA} {p pos:Pos} (hg:Gl X "range") (hm:X.mg "range" = none) (ha:PA X [a] ta) (hs:starEach [a] X.env=[(false,eval a X.env)]:=by rfl):PI X tg (.Call (.Name "range" p) [a] [] pos) (iRng1 ta):=by
 intro pins s σ H R I h
 refine Call_ (dU I hg hm boot_range (PyProof.Rows.callWith_type1 (thn (ha pos pins s σ H _ I h) λus s1 ⟨vs,H1,I1,r1,q1⟩=>?_) hs rfl))
 obtain ⟨j,e,q1,q2,q⟩:=q1
 subst e
 cases r1 with
 | cons r rr=>
  cases rr
  obtain ⟨t,rfl⟩:=r
  exact call_range_1 (range_it I1 (by omega) (by omega) q1 q2 (by simpa using q))
theorem kj {a b:Expr} {ta:TA} {p pos:Pos} (hg:Gl X "range") (hm:X.mg "range" = none) (ha:PA X [a,b] ta) (hs:starEach [a,b] X.env=[(false,eval a X.env),(false,eval b X.env)]:=by rfl) (hs2:starEach [b] X.env=[(false,eval b X.env)]:=by rfl) :
  PI X tg (.Call (.Name "range" p) [a,b] [] pos) (iRng2 ta):=by
 intro pins s σ H R I h
 refine Call_ (dU I hg hm boot_range (PyProof.Rows.callWith_type1 (thn (ha pos pins s σ H _ I h) λus s1 ⟨vs,H1,I1,r1,q1⟩=>?_) (by rw [hs,hs2]) (by rw [hs2]; rfl)))
 obtain ⟨i,j,e,⟨q1,q2,q3,q4⟩,q⟩:=q1
 subst e
 cases r1 with
 | cons r rr=>
  cases rr with
  | cons r' rr=>
   cases rr
   obtain ⟨t,rfl⟩:=r
   obtain ⟨t',rfl⟩:=r'
   exact call_range_2 (range_it I1 q1 q2 q3 q4 q)
def tFor (wi:TI) (g:TG) (tb:TS):TS:=λD σ H=>wi σ H λJ H1=>∃ W:Nat->Nat->St->Hp->Prop,(∃ m,W 0 m σ H1)/\∀ i m σ H,W i m σ H->
 (J.stop i H/\D.nx σ H)\/(J.go i H/\∃ N:St->Hp->Prop,(∀ σ' H',N σ' H'->∃ m',m' < m/\W (i+1) m' σ' H')/\∀ x H',J.yld i H x H'->g x σ H' λσ2 H2=>tb { D with nx:=N,ct:=N,bk:=D.nx } σ2 H2)
def iY (fp:List Addr) (h:Heap):List (Addr × Obj):=fp.filterMap λb=>(h.get? b).map λo=>(b,o)
theorem du {fp:List Addr} {h:Heap} {b:Addr} {o:Obj} (hb:b ∈ fp) (e:h.get? b=some o):(b,o) ∈ iY fp h:=List.mem_filterMap.mpr ⟨b,hb,by rw [e]; rfl⟩
theorem of_pinsAt {fp:List Addr} {h:Heap} {p:Addr × Obj} (hp:p ∈ iY fp h):p.1 ∈ fp/\h.get? p.1=some p.2:=by
 obtain ⟨b,hb,e⟩:=List.mem_filterMap.mp hp
 cases q:h.get? b with
 | none=>rw [q] at e; cases e
 | some o=>
  rw [q] at e
  have e':(b,o)=p:=Option.some.inj e
  subst e'
  exact ⟨hb,q⟩
theorem Inv.pinned {pins:List (Addr × Obj)} {σ:St} {H:Hp} {s:Shared} {fp:List Addr} (I:Inv X pins σ H s) (hf:∀ b ∈ fp,fF X pins H b) (ho:∀ b ∈ fp,∃ o,s.heap.get? b=some o/\∀ v,o.data ≠ .cell v):Inv X (pins++iY fp s.heap) σ H s:=
 I.pins_of λp hp=>(List.mem_append.mp hp).elim (λz=>I.pin p (mem_append_right _ z)) λz=>by
  obtain ⟨hb,e⟩:=of_pinsAt z
  obtain ⟨f0,f1,f2,_⟩:=hf p.1 hb
  obtain ⟨o,e',d⟩:=ho p.1 hb
  rw [e] at e'; cases e'
  exact ⟨e,f0,f1,f2,d⟩
theorem Inv.unpinned {pins pl:List (Addr × Obj)} {σ:St} {H:Hp} {s:Shared} (I:Inv X (pins++pl) σ H s):Inv X pins σ H s:=I.pins_of λp hp=>I.pin p (mem_append_right _ (mem_append_left _ hp))
theorem bG {iter:Expr} {body:List Stmt} {wi:TI} {g:TG} {tb:TS} {pos:Pos} (hp:PassesOwn (model X.prog X.w) X.A X.env X.xe) (hc:X.calm=true) (hi:PI X tg iter wi) (hg:PG X tg g) (hb:PSs X body tb)
  (hs:∀ x,foldedSetIterable iter X.env x=pure x:=by intro _; rfl):PS X (.For tg iter body [] pos) (tFor wi g tb):=by
 intro pins s σ H D I h
 refine wpAny_For (thn (hi pins s σ H _ I h) λv s1 h1=>thn h1 λitv s2 h2=>?_) hs
 obtain ⟨it,fp,tn,J,H2,e,I2,T,st2,f2,W,⟨m0,w0⟩,turn⟩:=h2
 subst e
 have stat:∀ {H':Hp},(∀ b ∈ fp,H' b=none)->∀ b ∈ fp,fF X pins H' b:=λhn b hb=>⟨hn b hb,(f2 b hb).2⟩
 refine codeAny_forLoop_any (λn s'=>∃ i σ' H',Inv X pins σ' H' s'/\tn i s'.heap/\(∀ b ∈ fp,H' b=none)/\W i n σ' H') ?_ m0 ⟨0,σ,H2,I2,st2,λb hb=>(f2 b hb).1,w0⟩
 rintro n s3 ⟨i,σ3,H3,I3,st3,fr3,w3⟩
 rcases turn i n σ3 H3 w3 with ⟨stop,qn⟩ | ⟨go,N,hN,step⟩
 ·refine wpAny_passesOwn hp (thn (T.done X rfl rfl rfl hc i pins s3 σ3 H3 X.xe I3 (stat fr3) st3 stop) λr s4 ⟨hr,I4⟩=>?_)
  subst hr
  exact wpAny_execs_nil ⟨σ3,H3,I4,qn⟩
 ·refine wpAny_passesOwn hp (thn (T.item X rfl rfl rfl hc i pins s3 σ3 H3 X.xe I3 (stat fr3) st3 go) λr s4 ⟨u,hr,h4⟩=>?_)
  subst hr
  refine wpAny_passesOwn hp (thn h4 λ_ s5 ⟨x,H5,I5,r5,y5,st5,fr5⟩=>?_)
  have I5':=I5.pinned (stat fr5) (T.obj _ _ st5)
  refine wpAny_passesOwn hp (thn (hg _ s5 σ3 H5 x u _ I5' r5 (step x H5 y5)) λ_ s6 ⟨σ6,H6,I6,q6⟩=>?_)
  refine wpAny_passesOwn hp (thn (hb _ s6 σ6 H6 _ I6 q6) λf s7 q7=>?_)
  have again:∀ {σ7:St} {H7:Hp},Inv X (pins++iY fp s5.heap) σ7 H7 s7->N σ7 H7->∃ m,m<n/\∃ i σ' H',Inv X pins σ' H' s7/\tn i s7.heap/\(∀ b ∈ fp,H' b=none)/\W i m σ' H':=λ{σ7 H7} I7 n7=>by
   obtain ⟨m',hm,w7⟩:=hN σ7 H7 n7
   refine ⟨m',hm,i+1,σ7,H7,I7.unpinned,T.keep _ _ _ st5 λb hb o e=>(I7.pin (b,o) (mem_append_right _ (mem_append_right _ (du hb e)))).1,λb hb=>?_,w7⟩
   obtain ⟨o,e,d⟩:=T.obj _ _ st5 b hb
   exact (I7.pin (b,o) (mem_append_right _ (mem_append_right _ (du hb e)))).2.1
  cases f with
  | next=>obtain ⟨σ7,H7,I7,n7⟩:=q7; exact again I7 n7
  | cont=>obtain ⟨σ7,H7,I7,n7⟩:=q7; exact again I7 n7
  | brk=>obtain ⟨σ7,H7,I7,q7⟩:=q7; exact ⟨σ7,H7,I7.unpinned,q7⟩
  | ret v=>obtain ⟨x7,σ7,H7,I7,r7,q7⟩:=q7; exact ⟨x7,σ7,H7,I7.unpinned,r7,q7⟩
end
theorem dY {K:Frag} {a:Addr} {xs:List V} {g:TG} {tb:TS} {D:gq} {σ:St} {H:Hp} (Pv:Nat->St->Hp->Prop) (h0:Pv 0 σ H) (hl:∀ i σ H,i<=xs.length->Pv i σ H->SqL K H a xs)
  (hs:∀ i x σ H,xs[i]? = some x->Pv i σ H->g x σ H λσ2 H2=>tb { D with nx:=Pv (i+1),ct:=Pv (i+1),bk:=D.nx } σ2 H2) (hd:∀ σ H,Pv xs.length σ H->D.nx σ H) :
  ∃ W:Nat->Nat->St->Hp->Prop,(∃ m,W 0 m σ H)/\∀ i m σ H,W i m σ H->
   ((Itl K a).stop i H/\D.nx σ H)\/((Itl K a).go i H/\∃ N:St->Hp->Prop,(∀ σ' H',N σ' H'->∃ m',m' < m/\W (i+1) m' σ' H')/\∀ x H',(Itl K a).yld i H x H'->g x σ H' λσ2 H2=>tb { D with nx:=N,ct:=N,bk:=D.nx } σ2 H2):=by
 refine ⟨λi m σ H=>m=xs.length-i/\i<=xs.length/\Pv i σ H,⟨xs.length,by simp,Nat.zero_le _,h0⟩,?_⟩
 rintro i m σ H ⟨rfl,hi,p⟩
 have q:=hl i σ H hi p
 by_cases hlt:i<xs.length
 ·refine .inr ⟨⟨xs,xs[i],q,by simp [hlt]⟩,Pv (i+1),λσ' H' p'=>⟨xs.length-(i+1),by omega,rfl,hlt,p'⟩,λx H' y=>?_⟩
  obtain ⟨e,y⟩:=y
  subst e
  exact hs i x σ _ (y xs q) p
 ·have e:i=xs.length:=by omega
  subst e
  exact .inl ⟨⟨xs,q,Nat.le_refl _⟩,hd σ H p⟩
theorem fo {lo:Int} {n:Nat} {g:TG} {tb:TS} {D:gq} {σ:St} {H:Hp} (Pv:Nat->St->Hp->Prop) (h0:Pv 0 σ H)
  (hs:∀ i σ H,i<n->Pv i σ H->g (.int (lo+i)) σ H λσ2 H2=>tb { D with nx:=Pv (i+1),ct:=Pv (i+1),bk:=D.nx } σ2 H2) (hd:∀ σ H,Pv n σ H->D.nx σ H) :
  ∃ W:Nat->Nat->St->Hp->Prop,(∃ m,W 0 m σ H)/\∀ i m σ H,W i m σ H->
   ((Itr lo n).stop i H/\D.nx σ H)\/((Itr lo n).go i H/\∃ N:St->Hp->Prop,(∀ σ' H',N σ' H'->∃ m',m' < m/\W (i+1) m' σ' H')/\∀ x H',(Itr lo n).yld i H x H'->g x σ H' λσ2 H2=>tb { D with nx:=N,ct:=N,bk:=D.nx } σ2 H2):=by
 refine ⟨λi m σ H=>m=n-i/\i<=n/\Pv i σ H,⟨n,by simp,Nat.zero_le _,h0⟩,?_⟩
 rintro i m σ H ⟨rfl,hi,p⟩
 by_cases hlt:i<n
 ·refine .inr ⟨hlt,Pv (i+1),λσ' H' p'=>⟨n-(i+1),by omega,rfl,hlt,p'⟩,λx H' y=>?_⟩
  obtain ⟨e,y⟩:=y
  subst e y
  exact hs i σ _ hlt p
 ·have e:i=n:=by omega
  subst e
  exact .inl ⟨Nat.le_refl _,hd σ H p⟩
theorem eO {c:TT} {tb:TS} {D:gq} {σ:St} {H:Hp} (Pv:St->Hp->Prop) (μ:St->Hp->Nat) (h0:Pv σ H)
  (hs:∀ σ H,Pv σ H->c σ H λb H1=>if b=true then tb { D with nx:=λσ' H'=>Pv σ' H'/\μ σ' H' < μ σ H,ct:=λσ' H'=>Pv σ' H'/\μ σ' H' < μ σ H,bk:=D.nx } σ H1 else D.nx σ H1)
  (mono:∀ σ H Q Q',(∀ b H1,Q b H1->Q' b H1)->c σ H Q->c σ H Q'):tWhile c tb D σ H:=by
 refine ⟨λm σ H=>m=μ σ H/\Pv σ H,⟨_,rfl,h0⟩,?_⟩
 rintro m σ H ⟨rfl,p⟩
 refine mono σ H _ _ (λb H1 q=>?_) (hs σ H p)
 cases b with
 | true=>exact ⟨_,λσ' H' ⟨p',l⟩=>⟨_,l,rfl,p'⟩,q⟩
 | false=>exact q
abbrev R2:=V->V->Hp->VK->Prop
def OpR (X:Cx) (f:Value->Value->Sem Value) (r:R2):Prop:=
 ∀ (pins:List (Addr × Obj)) (s:Shared) (σ:St) (H:Hp) (x y:V) (v u:Value) (Q:VK),Inv X pins σ H s->md x v->md y u->r x y H Q->
  wpAny (model X.prog X.w) X.A (f v u) (EP X pins σ Q) X.xe s
def UnR (X:Cx) (f:Value->Sem Value) (r:V->Hp->VK->Prop):Prop:=
 ∀ (pins:List (Addr × Obj)) (s:Shared) (σ:St) (H:Hp) (x:V) (v:Value) (Q:VK),Inv X pins σ H s->md x v->r x H Q->
  wpAny (model X.prog X.w) X.A (f v) (EP X pins σ Q) X.xe s
def cV (X:Cx) (f:Value) (r:List V->Hp->VK->Prop):Prop:=
 ∀ (pins:List (Addr × Obj)) (s:Shared) (σ:St) (H:Hp) (xs:List V) (us:List Value) (Q:VK),Inv X pins σ H s->l9 xs us->r xs H Q->
  wpAny (model X.prog X.w) X.A (call f us) (EP X pins σ Q) X.xe s
def tOp (r:R2) (ta tb:TE):TE:=λσ H Q=>ta σ H λx H1=>tb σ H1 λy H2=>r x y H2 Q
def tUn (r:V->Hp->VK->Prop) (ta:TE):TE:=λσ H Q=>ta σ H λx H1=>r x H1 Q
def rI (C:Int->Int->Prop) (g:Int->Int->V):R2:=λx y H Q=>∃ i j,x=.int i/\y=.int j/\C i j/\Q (g i j) H
def rI0 (g:Int->Int->V):R2:=λx y H Q=>∃ i j,x=.int i/\y=.int j/\Q (g i j) H
def rU (g:Int->V):V->Hp->VK->Prop:=λx H Q=>∃ i,x=.int i/\Q (g i) H
section
variable {X:Cx} {a b c:Expr} {ta tb tc:TE} {pos:Pos}
theorem binT (ha:PE X a ta) (hb:PE X b tb) {pins:List (Addr × Obj)} {s:Shared} {σ:St} {H:Hp} {R:V->V->Hp->Prop} (I:Inv X pins σ H s)
  (h:ta σ H λx H1=>tb σ H1 λy H2=>R x y H2) {Q:Value->Shared->Prop} {f:Value->Value->Sem Value}
  (hf:∀ v u s2 x y H2,Inv X pins σ H2 s2->md x v->md y u->R x y H2->wpAny (model X.prog X.w) X.A (f v u) Q X.xe s2) :
  wpAny (model X.prog X.w) X.A (eval a X.env) (λv s₁=>wpAny (model X.prog X.w) X.A (eval b X.env) (λu s₂=>wpAny (model X.prog X.w) X.A (f v u) Q X.xe s₂) X.xe s₁) X.xe s:=by
 refine thn (ha pins s σ H _ I h) λv s1 ⟨x,H1,I1,r1,q1⟩=>?_
 refine thn (hb pins s1 σ H1 _ I1 q1) λu s2 ⟨y,H2,I2,r2,q2⟩=>?_
 exact hf v u s2 x y H2 I2 r1 r2 q2
theorem ao {op:Operator} {r:R2} (ho:OpR X (binaryOp op) r) (ha:PE X a ta) (hb:PE X b tb):PE X (.BinOp a op b pos) (tOp r ta tb):=by
 intro pins s σ H Q I h
 exact wpAny_BinOp (binT ha hb I h λv u s2 x y H2 I2 rx ry q=>ho pins s2 σ H2 x y v u Q I2 rx ry q)
theorem pe_un {op:UnaryOp} {r:V->Hp->VK->Prop} (ho:UnR X (unaryOp op) r) (ha:PE X a ta):PE X (.UnaryOp op a pos) (tUn r ta):=by
 intro pins s σ H Q I h
 exact UnaryOp_ (thn (ha pins s σ H _ I h) λv s1 ⟨x,H1,I1,r1,q1⟩=>ho pins s1 σ H1 x v Q I1 r1 q1)
theorem opI {f:Value->Value->Sem Value} {C:Int->Int->Prop} {g:Int->Int->Int}
  (rule:∀ (i j:Int) (t u:Tok) (s:Shared) (Q:Value->Shared->Prop) (E:Value->Shared->Prop),C i j->Q (.int (g i j) s.toks) { s with toks:=s.toks+1 }->wpAny (model X.prog X.w) X.A (f (.int i t) (.int j u)) Q E s) :
  OpR X f (rI C λi j=>.int (g i j)):=by
 intro pins s σ H x y v u Q I rx ry h
 obtain ⟨i,j,rfl,rfl,hc,q⟩:=h
 obtain ⟨t,rfl⟩:=rx
 obtain ⟨t',rfl⟩:=ry
 exact rule i j t t' s _ _ hc ⟨.int (g i j),H,I.tok _,⟨_,rfl⟩,q⟩
theorem opI0 {f:Value->Value->Sem Value} {g:Int->Int->Int}
  (rule:∀ (i j:Int) (t u:Tok) (s:Shared) (Q:Value->Shared->Prop) (E:Value->Shared->Prop),Q (.int (g i j) s.toks) { s with toks:=s.toks+1 }->wpAny (model X.prog X.w) X.A (f (.int i t) (.int j u)) Q E s) :
  OpR X f (rI0 λi j=>.int (g i j)):=by
 intro pins s σ H x y v u Q I rx ry h
 obtain ⟨i,j,rfl,rfl,q⟩:=h
 obtain ⟨t,rfl⟩:=rx
 obtain ⟨t',rfl⟩:=ry
 exact rule i j t t' s _ _ ⟨.int (g i j),H,I.tok _,⟨_,rfl⟩,q⟩
theorem opB0 {f:Value->Value->Sem Value} {g:Int->Int->Bool}
  (rule:∀ (i j:Int) (t u:Tok) (s:Shared) (Q:Value->Shared->Prop) (E:Value->Shared->Prop),Q (.bool (g i j)) s->wpAny (model X.prog X.w) X.A (f (.int i t) (.int j u)) Q E s) :
  OpR X f (rI0 λi j=>.bl (g i j)):=by
 intro pins s σ H x y v u Q I rx ry h
 obtain ⟨i,j,rfl,rfl,q⟩:=h
 obtain ⟨t,rfl⟩:=rx
 obtain ⟨t',rfl⟩:=ry
 exact rule i j t t' s _ _ ⟨.bl (g i j),H,I,rfl,q⟩
def CPow (i j:Int):Prop:=0<=j/\j<=1000000/\i.natAbs<2 ^ 64
def CMul (i j:Int):Prop:=(-(2 ^ 64)<i/\i<2 ^ 64)\/(-(2 ^ 64)<j/\j<2 ^ 64)
theorem CMul.ok {i j:Int} (h:CMul i j):IntMulOk i j:=by
 rcases h with ⟨h1,h2⟩ | ⟨h1,h2⟩
 ·exact .of_left (intBits_le_64 h1 h2)
 ·exact .of_right (intBits_le_64 h1 h2)
theorem aP:OpR X (binaryOp .Add) (rI0 λi j=>.int (i+j)):=opI0 λ_ _ _ _ _ _ _ q=>add_int q
theorem dC:OpR X (binaryOp .Sub) (rI0 λi j=>.int (i-j)):=opI0 λ_ _ _ _ _ _ _ q=>sub_int q
theorem bg:OpR X (binaryOp .Mult) (rI CMul λi j=>.int (i*j)):=opI λ_ _ _ _ _ _ _ hc q=>mul_int q hc.ok
theorem aZ:OpR X (binaryOp .Mod) (rI (λ_ j=>0<j) λi j=>.int (i % j)):=opI λi j _ _ _ _ _ hc q=>by
 have h1:(0:Int)<j:=hc
 exact mod_int' (by omega) (by rw [Int.fmod_eq_emod_of_nonneg i (by omega)]; exact q)
theorem fE:OpR X (binaryOp .Pow) (rI CPow λi j=>.int (i ^ j.toNat)):=opI λ_ _ _ _ _ _ _ hc q=>pow_int_small hc.1 hc.2.1 hc.2.2 q
theorem unI {f:Value->Sem Value} {g:Int->Int}
  (rule:∀ (i:Int) (t:Tok) (s:Shared) (Q:Value->Shared->Prop) (E:Value->Shared->Prop),Q (.int (g i) s.toks) { s with toks:=s.toks+1 }->wpAny (model X.prog X.w) X.A (f (.int i t)) Q E s) :
  UnR X f (rU λi=>.int (g i)):=by
 intro pins s σ H x v Q I rx h
 obtain ⟨i,rfl,q⟩:=h
 obtain ⟨t,rfl⟩:=rx
 exact rule i t s _ _ ⟨.int (g i),H,I.tok _,⟨_,rfl⟩,q⟩
theorem un_neg:UnR X (unaryOp .USub) (rU λi=>.int (-i)):=unI λ_ _ _ _ _ q=>neg_int q
end
def scal:V->V->Bool
 | .non,.non=>true | .non,.int _=>true | .int _,.non=>true | .non,.bl _=>true | .bl _,.non=>true | .non,.str _=>true | .str _,.non=>true
 | .int _,.int _=>true | .bl _,.bl _=>true | .str _,.str _=>true | .byt _,.byt _=>true
 | .int _,.str _=>true | .str _,.int _=>true | .bl _,.str _=>true | .str _,.bl _=>true
 | _,_=>false
def rEq:R2:=λx y H Q=>scal x y=true/\Q (.bl (decide (x=y))) H
def rNe:R2:=λx y H Q=>scal x y=true/\Q (.bl (!decide (x=y))) H
theorem dec_int {i j:Int}:decide (V.int i=V.int j)=(i == j):=by
 rw [Bool.eq_iff_iff]
 simp
theorem dec_bl {i j:Bool}:decide (V.bl i=V.bl j)=(i == j):=by
 rw [Bool.eq_iff_iff]
 simp
theorem dec_str {i j:Str}:decide (V.str i=V.str j)=(i == j):=by
 rw [Bool.eq_iff_iff]
 simp
theorem dec_byt {i j:Array UInt8}:decide (V.byt i=V.byt j)=(i.toList == j.toList):=by
 rw [Bool.eq_iff_iff]
 cases i
 cases j
 simp
section
variable {X:Cx} {a b c:Expr} {ta tb tc:TE} {pos:Pos}
theorem aI {pins:List (Addr × Obj)} {σ:St} {H:Hp} {s:Shared} {Q:VK} {k k':Bool} (I:Inv X pins σ H s) (q:Q (.bl k) H) (e:k=k'):EP X pins σ Q (.bool k') s:=by
 subst e
 exact ⟨.bl k,H,I,rfl,q⟩
theorem cO:OpR X (compareOp .Eq) rEq:=by
 intro pins s σ H x y v u Q I rx ry h
 obtain ⟨hs,q⟩:=h
 cases x with
 | non=>
  cases rx
  cases y with
  | non=>cases ry; exact PySem.EqNone.eq_none_none (aI I q (by simp))
  | bl j=>cases ry; exact PySem.EqNone.eq_none_bool (aI I q (by simp))
  | int j=>obtain ⟨t',rfl⟩:=ry; exact PySem.EqNone.eq_none_int (aI I q (by simp))
  | str j=>obtain ⟨t',rfl⟩:=ry; exact PySem.EqNone.eq_none_str (aI I q (by simp))
  | _=>exact absurd (show false=true from hs) Bool.false_ne_true
 | bl i=>
  cases rx
  cases y with
  | non=>cases ry; exact PySem.EqNone.eq_bool_none (aI I q (by simp))
  | bl j=>cases ry; exact eq_bool (aI I q dec_bl)
  | str j=>obtain ⟨t',rfl⟩:=ry; exact PySem.EqMixed.eq_bool_str (aI I q (by simp))
  | _=>exact absurd (show false=true from hs) Bool.false_ne_true
 | int i=>
  obtain ⟨t,rfl⟩:=rx
  cases y with
  | non=>cases ry; exact PySem.EqNone.eq_int_none (aI I q (by simp))
  | int j=>obtain ⟨t',rfl⟩:=ry; exact eq_int (aI I q dec_int)
  | str j=>obtain ⟨t',rfl⟩:=ry; exact PySem.EqMixed.eq_int_str (aI I q (by simp))
  | _=>exact absurd (show false=true from hs) Bool.false_ne_true
 | str i=>
  obtain ⟨t,rfl⟩:=rx
  cases y with
  | non=>cases ry; exact PySem.EqNone.eq_str_none (aI I q (by simp))
  | bl j=>cases ry; exact PySem.EqMixed.eq_str_bool (aI I q (by simp))
  | int j=>obtain ⟨t',rfl⟩:=ry; exact PySem.EqMixed.eq_str_int (aI I q (by simp))
  | str j=>obtain ⟨t',rfl⟩:=ry; exact eq_str (aI I q dec_str)
  | _=>exact absurd (show false=true from hs) Bool.false_ne_true
 | byt i=>
  obtain ⟨t,rfl⟩:=rx
  cases y with
  | byt j=>obtain ⟨t',rfl⟩:=ry; exact PySem.W.eq_bytes (aI I q dec_byt)
  | _=>exact absurd (show false=true from hs) Bool.false_ne_true
 | _=>cases y<;>exact absurd (show false=true from hs) Bool.false_ne_true
theorem op_ne:OpR X (compareOp .NotEq) rNe:=by
 intro pins s σ H x y v u Q I rx ry h
 obtain ⟨hs,q⟩:=h
 cases x with
 | non=>
  cases rx
  cases y with
  | non=>cases ry; exact PySem.EqNone.ne_none_none (aI I q (by simp))
  | bl j=>cases ry; exact PySem.EqNone.ne_none_bool (aI I q (by simp))
  | int j=>obtain ⟨t',rfl⟩:=ry; exact PySem.EqNone.ne_none_int (aI I q (by simp))
  | str j=>obtain ⟨t',rfl⟩:=ry; exact PySem.EqNone.ne_none_str (aI I q (by simp))
  | _=>exact absurd (show false=true from hs) Bool.false_ne_true
 | bl i=>
  cases rx
  cases y with
  | non=>cases ry; exact PySem.EqNone.ne_bool_none (aI I q (by simp))
  | bl j=>cases ry; exact ne_bool (aI I q (congrArg not dec_bl))
  | str j=>obtain ⟨t',rfl⟩:=ry; exact PySem.EqMixed.ne_bool_str (aI I q (by simp))
  | _=>exact absurd (show false=true from hs) Bool.false_ne_true
 | int i=>
  obtain ⟨t,rfl⟩:=rx
  cases y with
  | non=>cases ry; exact PySem.EqNone.ne_int_none (aI I q (by simp))
  | int j=>obtain ⟨t',rfl⟩:=ry; exact ne_int (aI I q (congrArg not dec_int))
  | str j=>obtain ⟨t',rfl⟩:=ry; exact PySem.EqMixed.ne_int_str (aI I q (by simp))
  | _=>exact absurd (show false=true from hs) Bool.false_ne_true
 | str i=>
  obtain ⟨t,rfl⟩:=rx
  cases y with
  | non=>cases ry; exact PySem.EqNone.ne_str_none (aI I q (by simp))
  | bl j=>cases ry; exact PySem.EqMixed.ne_str_bool (aI I q (by simp))
  | int j=>obtain ⟨t',rfl⟩:=ry; exact PySem.EqMixed.ne_str_int (aI I q (by simp))
  | str j=>obtain ⟨t',rfl⟩:=ry; exact ne_str (aI I q (congrArg not dec_str))
  | _=>exact absurd (show false=true from hs) Bool.false_ne_true
 | byt i=>
  obtain ⟨t,rfl⟩:=rx
  cases y with
  | byt j=>obtain ⟨t',rfl⟩:=ry; exact PySem.W.ne_bytes (aI I q (congrArg not dec_byt))
  | _=>exact absurd (show false=true from hs) Bool.false_ne_true
 | _=>cases y<;>exact absurd (show false=true from hs) Bool.false_ne_true
theorem gZ:OpR X (compareOp .Lt) (rI0 λi j=>.bl (decide (i<j))):=opB0 λ_ _ _ _ _ _ _ q=>lt_int q
theorem op_le:OpR X (compareOp .LtE) (rI0 λi j=>.bl (decide (i<=j))):=opB0 λ_ _ _ _ _ _ _ q=>le_int q
theorem cY:OpR X (compareOp .Gt) (rI0 λi j=>.bl (decide (j<i))):=opB0 λ_ _ _ _ _ _ _ q=>gt_int q
theorem op_ge:OpR X (compareOp .GtE) (rI0 λi j=>.bl (decide (j<=i))):=opB0 λ_ _ _ _ _ _ _ q=>ge_int q
theorem aA (b:Expr) {op:CmpOp} (h:op ≠ .In:=by decide) (h2:op ≠ .NotIn:=by decide):behindInMarks op b=false:=by
 have e1:(op == CmpOp.In)=false:=by cases op<;>first | rfl | exact absurd rfl h
 have e2:(op == CmpOp.NotIn)=false:=by cases op<;>first | rfl | exact absurd rfl h2
 cases b<;>simp [behindInMarks,e1,e2]
theorem cw {op:CmpOp} {r:R2} (ho:OpR X (compareOp op) r) (ha:PE X a ta) (hb:PE X b tb) (hm:behindInMarks op b=false):PE X (.Compare a [op] [b] pos) (tOp r ta tb):=by
 intro pins s σ H Q I h
 exact wpAny_Compare1 (binT ha hb I h λv u s2 x y H2 I2 rx ry q=>ho pins s2 σ H2 x y v u Q I2 rx ry q) hm
def tTest (t:TE):TT:=λσ H Q=>t σ H λx H'=>∃ k,x=.bl k/\Q k H'
theorem az {op:CmpOp} {r:R2} (ho:OpR X (compareOp op) r) (ha:PE X a ta) (hb:PE X b tb) (hm:behindInMarks op b=false):PT X (.Compare a [op] [b] pos) (tTest (tOp r ta tb)):=by
 intro pins s σ H Q I h
 refine wpAny_isTrue_Compare1 (thn (ha pins s σ H _ I h) λv s1 ⟨x,H1,I1,r1,q1⟩=>thn (hb pins s1 σ H1 _ I1 q1) λu s2 ⟨y,H2,I2,r2,q2⟩=>
  thn (ho pins s2 σ H2 x y v u _ I2 r1 r2 q2) λc s3 ⟨z,H3,I3,r3,k,e,q3⟩=>?_) hm
 subst e
 cases r3
 exact wpAny_truthy_bool ⟨H3,I3,q3⟩
def tChain (r r':R2) (ta tb tc:TE):TE:=λσ H Q=>ta σ H λx H1=>tb σ H1 λy H2=>r x y H2 λz H3=>∃ k,z=.bl k/\
 (if k=true then tc σ H3 λw' H4=>r' y w' H4 Q else Q (.bl false) H3)
theorem pe_chain {op op':CmpOp} {r r':R2} (ho:OpR X (compareOp op) r) (ho':OpR X (compareOp op') r') (ha:PE X a ta) (hb:PE X b tb) (hc:PE X c tc)
  (hm:lastMarks [op,op'] [b,c]=false:=by with_unfolding_all rfl):PE X (.Compare a [op,op'] [b,c] pos) (tChain r r' ta tb tc):=by
 intro pins s σ H Q I h
 refine Compare_chain (thn (ha pins s σ H _ I h) λv s1 ⟨x,H1,I1,r1,q1⟩=>chain_link (thn (hb pins s1 σ H1 _ I1 q1) λu s2 ⟨y,H2,I2,r2,q2⟩=>
  thn (ho pins s2 σ H2 x y v u _ I2 r1 r2 q2) λd s3 ⟨z,H3,I3,r3,k,e,q3⟩=>?_)) hm
 subst e
 cases r3
 refine wpAny_truthy_bool ?_
 cases k with
 | false=>exact ite_ff ⟨.bl false,H3,I3,rfl,q3⟩
 | true=>exact ite_tt (chain_last (thn (hc pins s3 σ H3 _ I3 q3) λw' s4 ⟨z',H4,I4,r4,q4⟩=>ho' pins s4 σ H4 y z' u w' Q I4 r2 r4 q4))
theorem lf:(sizeLine:Nat)<2 ^ 63:=by rw [sizeLine_eq]; decide
theorem g9 {x:V} {us:List Value} (r:l9 [x] us):∃ u,us=[u]/\md x u:=by
 cases r with
 | cons r1 r2=>cases r2; exact ⟨_,rfl,r1⟩
theorem vals2 {x y:V} {us:List Value} (r:l9 [x,y] us):∃ u w',us=[u,w']/\md x u/\md y w':=by
 cases r with
 | cons r1 r2=>
  cases r2 with
  | cons r3 r4=>cases r4; exact ⟨_,_,rfl,r1,r3⟩
theorem call_abs:cV X (.builtin "abs") (λxs H Q=>∃ i,xs=[.int i]/\Q (.int (if i<0 then -i else i)) H):=by
 intro pins s σ H xs us Q I r h
 obtain ⟨i,rfl,q⟩:=h
 obtain ⟨u,rfl,t,rfl⟩:=g9 r
 exact call_abs_int λu tk=>⟨.int (if i<0 then -i else i),H,I.tok _,⟨_,rfl⟩,q⟩
theorem call_max2 (hc:X.calm=true):cV X (.builtin "max") (λxs H Q=>∃ i j,xs=[.int i,.int j]/\Q (.int (if j > i then j else i)) H):=by
 intro pins s σ H xs us Q I r h
 obtain ⟨i,j,rfl,q⟩:=h
 obtain ⟨u,w',rfl,⟨t,rfl⟩,⟨t',rfl⟩⟩:=vals2 r
 refine max_two_ints (I.ok.hd hc) λh' tk k=>⟨_,H,I.kept k,?_,q⟩
 by_cases hj:j > i
 ·rw [if_pos hj,if_pos hj]; exact ⟨_,rfl⟩
 ·rw [if_neg hj,if_neg hj]; exact ⟨_,rfl⟩
theorem call_min2 (hc:X.calm=true):cV X (.builtin "min") (λxs H Q=>∃ i j,xs=[.int i,.int j]/\Q (.int (if j<i then j else i)) H):=by
 intro pins s σ H xs us Q I r h
 obtain ⟨i,j,rfl,q⟩:=h
 obtain ⟨u,w',rfl,⟨t,rfl⟩,⟨t',rfl⟩⟩:=vals2 r
 refine min_two_ints (I.ok.hd hc) λh' tk k=>⟨_,H,I.kept k,?_,q⟩
 by_cases hj:j<i
 ·rw [if_pos hj,if_pos hj]; exact ⟨_,rfl⟩
 ·rw [if_neg hj,if_neg hj]; exact ⟨_,rfl⟩
theorem ku:cV X (.type "int") (λxs H Q=>(∃ i,xs=[.int i]/\Q (.int i) H)\/∃ k,xs=[.bl k]/\Q (.int (if k then 1 else 0)) H):=by
 intro pins s σ H xs us Q I r h
 rcases h with ⟨i,rfl,q⟩ | ⟨k,rfl,q⟩
 ·obtain ⟨u,rfl,t,rfl⟩:=g9 r
  exact call_int_int ⟨.int i,H,I,⟨_,rfl⟩,q⟩
 ·obtain ⟨u,rfl,r1⟩:=g9 r
  cases r1
  exact call_int_bool ⟨.int (if k then 1 else 0),H,I.tok _,⟨_,rfl⟩,q⟩
end
structure ObjM (h:Heap) (x dx C:Addr) (mA:Str->Option Value):Prop where
 obj:h.get? x=some (instObj C dx)
 ns:h.Ns1 dx mA
 ne:dx ≠ x
theorem lookIn_ns {h:Heap} {dx:Addr} {mA:Str->Option Value} (n:h.Ns1 dx mA):∃ od,h.get? dx=some od/\∀ name,lookIn name od=some (mA name):=by
 obtain ⟨o,es,ep,ho,hd,hk,_,hm⟩:=n
 refine ⟨o,ho,λname=>?_⟩
 have e:=hm name
 unfold nsFind findBy at e
 rw [<- Array.find?_toList] at e
 unfold lookIn
 rw [hd]
 dsimp only
 split
 ·rename_i y q
  rw [q] at e
  exact congrArg some e
 ·rename_i q
  rw [q] at e
  have a:es.toList.any (·.refKey)=false:=by
   rw [List.any_eq_false]
   intro y hy
   obtain ⟨z,t,hkey⟩:=hk y (Array.mem_toList_iff.mp hy)
   simp [DictEntry.refKey,hkey]
  have a':¬ es.toList.any (·.refKey)=true:=by rw [a]; exact Bool.false_ne_true
  rw [if_neg a']
  exact congrArg some e
theorem ObjM.look {h:Heap} {x dx C:Addr} {mA:Str->Option Value} (I:ObjM h x dx C mA):∃ od,PySem.W.InstAt h x (instObj C dx) C (some od)/\∀ name,lookIn name od=some (mA name):=
 let ⟨od,ho,hl⟩:=lookIn_ns I.ns
 ⟨od,⟨I.obj,rfl,rfl,ho⟩,hl⟩
section
variable {prog:Program} {w:World} {A:Around} {E:Value->Shared->Prop} {s:Shared} {K:Frag} {x dx C f:Addr} {mA:Str->Option Value} {name:Str} {v:Value}
theorem get_map {expr:Bool} {Q:Value->Shared->Prop} (X:K.In s.heap) (I:ObjM s.heap x dx C mA) (hg:plainGet K C name=true) (hh:hasDictIn K C=true)
  (ha:findIn K (.ref C) name=some none) (hv:mA name=some v) (hv':PySem.W.handedIn v=true) (h:Q v { s with toks:=s.toks+1 }) :
  wpAny (model prog w) A (getAttr (.ref x) name expr) Q E s:=by
 obtain ⟨od,J,hl⟩:=I.look
 exact PySem.W.get_value X J (PySem.W.plainGet_of hg).1 (PySem.W.findObj_own hh ha rfl (by rw [hl,hv])) hv' h
theorem get_meth {pl:Sem Bool} {Q:Value × List Value->Shared->Prop} (X:K.In s.heap) (I:ObjM s.heap x dx C mA) (hg:plainGet K C name=true)
  (hf:findIn K (.ref C) name=some (some (.ref f))) (ht:isFn K (.ref f)=true) (hv:mA name=none) (h:Q (.ref f,[.ref x]) s) :
  wpAny (model prog w) A (getMethod (.ref x) name pl) Q E s:=by
 obtain ⟨od,J,hl⟩:=I.look
 exact PySem.W.method_fn X J (PySem.W.plainGet_of hg).1 (PySem.W.plainGet_of hg).2 hf (beq_iff_eq.mp ht) (by show (lookIn name od).map (·.isSome)=some false; rw [hl,hv]; rfl) h
theorem set_map {ns:List Str} {Q:Unit->Shared->Prop} (X:K.In s.heap) (I:ObjM s.heap x dx C mA)
  (hs:findIn K (.ref C) "__setattr__"=some (some (.builtin "object.__setattr__"))) (hp:plainOver K C=true) (ht:PySem.W.takerIn K C name=some none) (hh:hasDictIn K C=true)
  (hw:PySem.Within mA ns) (hsz:ns.length<=sizeLine)
  (h:∀ h',ObjM h' x dx C (λy=>if y=name then some v else mA y)->Heap.SameBut dx s.heap h'->Q () { s with heap:=h',toks:=s.toks+2 }) :
  wpAny (model prog w) A (setAttr (.ref x) name v) Q E s:=by
 obtain ⟨od,J,hl⟩:=I.look
 refine PySem.W.set_plain X J hs (PySem.W.osa_open (s:={ s with toks:=s.toks+1 }) (r:=none) X J hp ht λb=>?_)
 obtain ⟨cd,hc,hd'⟩:=PySem.W.any_some hh
 have hx:s.heap.get? x=some ⟨.ref C,some dx,.plain,#[]⟩:=I.obj
 refine wpAny_bind (wpAny_pure (wpAny_bind (wpAny_bind (wpAny_loadPart hx (wpAny_bind (PySem.W.Looks.here (s:={ s with toks:=s.toks+1 }) (PySem.W.looks_clsIn X hc) ?_))))))
 rw [hd']
 refine wpAny_pure (a:=some dx) (wpAny_bind (wpAny_pure (wpAny_bind ?_)))
 refine wpAny_nsSet1 (s:={ s with toks:=s.toks+1 }) I.ns λh' hn2 hs2=>?_
 obtain ⟨oD,esD,epD,hoD,hdD,hcD⟩:=hn2.count (PySem.Within.cons name v hw)
 refine wpAny_bind (wpAny_lookBehind hoD (by rw [hdD]; exact pastItsLine_dict (Nat.le_trans hcD (by rw [length_cons]; omega))) ?_)
 exact wpAny_pure (h _ ⟨(hs2.2 _ (Ne.symm I.ne)).trans I.obj,hn2,I.ne⟩ hs2)
theorem make_map {R:Result->Shared->Prop} {vs:List Value} {kw:List (Str × Value)} (X:K.In s.heap) (hm:makesIn K C=true)
  (hi:findIn K (.ref C) "__init__"=some (some (.ref f))) (hf:PySem.W.typeIn K (.ref f)=some (.type "function"))
  (h:codeAny (model prog w) (A.under (.builtin "type.__call__" ⟨.ref C::vs,kw⟩)) (.call (.ref f) ⟨.ref (s.heap.objs.size+1)::vs,kw⟩) (PySem.W.InitBack (s.heap.objs.size+1) R)
   { s with heap:=(s.heap.push emptyDict).push (instObj C s.heap.objs.size) }) :
  codeAny (model prog w) A (.call (.ref C) ⟨vs,kw⟩) R s:=by
 obtain ⟨hh,g,d,t,os⟩:=s
 exact PySem.W.make_core (PySem.W.makes_of X hm) (PySem.W.looks_findIn X hi) (λself=>PySem.W.bind_fn X self hf) (.inl rfl) h
theorem make_map0 {R:Result->Shared->Prop} (X:K.In s.heap) (hm:makesIn K C=true)
  (hi:findIn K (.ref C) "__init__"=some (some (.builtin "object.__init__")))
  (hb:∀ self,PySem.W.Looks (model prog w) s.heap (bindSpecial (.builtin "object.__init__") self) (.builtin "object.__init__",[self]))
  (h:codeAny (model prog w) (A.under (.builtin "type.__call__" ⟨[.ref C],[]⟩)) (.call (.builtin "object.__init__") ⟨[.ref (s.heap.objs.size+1)],[]⟩) (PySem.W.InitBack (s.heap.objs.size+1) R)
   { s with heap:=(s.heap.push emptyDict).push (instObj C s.heap.objs.size) }) :
  codeAny (model prog w) A (.call (.ref C) ⟨[],[]⟩) R s:=by
 obtain ⟨hh,g,d,t,os⟩:=s
 exact PySem.W.make_core (PySem.W.makes_of X hm) (PySem.W.looks_findIn X hi) hb (.inr ⟨rfl,rfl⟩) h
end
def fA (f:Str) (v:V):List (Str × V)->List (Str × V)
 | []=>[(f,v)]
 | (g,x)::r=>if g=f then (g,v)::r else (g,x)::fA f v r
theorem hV (f g:Str) (v:V):∀ fs:List (Str × V),(fA f v fs).lookup g=if g=f then some v else fs.lookup g
 | []=>by
  show List.lookup g [(f,v)]=_
  by_cases h:g=f
  ·have hb:(g == f)=true:=beq_iff_eq.mpr h
   simp only [List.lookup,hb,if_pos h]
  ·have hb:(g == f)=false:=beq_eq_false_iff_ne.mpr h
   simp only [List.lookup,hb,if_neg h]
 | (k,x)::r=>by
  have ih:=hV f g v r
  rw [show fA f v ((k,x)::r)=(if k=f then (k,v)::r else (k,x)::fA f v r) from rfl]
  by_cases hk:k=f
  ·rw [if_pos hk]
   by_cases h:g=k
   ·have hb:(g == k)=true:=beq_iff_eq.mpr h
    simp only [List.lookup,hb,if_pos (h.trans hk)]
   ·have hb:(g == k)=false:=beq_eq_false_iff_ne.mpr h
    simp only [List.lookup,hb,if_neg (λe:g=f=>h (e.trans hk.symm))]
  ·rw [if_neg hk]
   by_cases h:g=k
   ·have hb:(g == k)=true:=beq_iff_eq.mpr h
    simp only [List.lookup,hb,if_neg (λe:g=f=>hk (h.symm.trans e))]
   ·have hb:(g == k)=false:=beq_eq_false_iff_ne.mpr h
    simp only [List.lookup,hb]
    exact ih
theorem gM (f:Str) (v:V):∀ fs:List (Str × V),f ∈ (fA f v fs).map (·.1)/\∀ g,g ∈ fs.map (·.1)->g ∈ (fA f v fs).map (·.1)
 | []=>⟨by simp [fA],λg h=>by simp at h⟩
 | (k,x)::r=>by
  obtain ⟨i1,i2⟩:=gM f v r
  rw [show fA f v ((k,x)::r)=(if k=f then (k,v)::r else (k,x)::fA f v r) from rfl]
  by_cases hk:k=f
  ·rw [if_pos hk]
   subst hk
   exact ⟨by simp,λg h=>by simpa using h⟩
  ·rw [if_neg hk]
   refine ⟨?_,λg h=>?_⟩
   ·rw [map_cons]
    exact mem_cons_of_mem _ i1
   ·rw [map_cons] at h ⊢
    rcases List.mem_cons.mp h with e | e
    ·exact List.mem_cons.mpr (.inl e)
    ·exact mem_cons_of_mem _ (i2 g e)
theorem g0 (f:Str) (v:V):∀ fs:List (Str × V),(fA f v fs).length<=fs.length+1
 | []=>by simp [fA]
 | (k,x)::r=>by
  have ih:=g0 f v r
  rw [show fA f v ((k,x)::r)=(if k=f then (k,v)::r else (k,x)::fA f v r) from rfl]
  by_cases hk:k=f
  ·rw [if_pos hk,length_cons,length_cons]; omega
  ·rw [if_neg hk,length_cons,length_cons]; omega
theorem RelO.some_of {v:V} {o:Option Value} (r:RelO (some v) o):∃ u,o=some u/\md v u:=by
 cases o with
 | none=>exact (show False from r).elim
 | some u=>exact ⟨u,rfl,r⟩
theorem RelO.none_of {o:Option Value} (r:RelO none o):o=none:=by
 cases o with
 | none=>rfl
 | some u=>exact (show False from r).elim
theorem handed_of {v:V} {u:Value} (r:md v u):PySem.W.handedIn u=true:=by
 cases v with
 | non=>cases (show u=Value.none from r); rfl
 | bl b=>cases (show u=Value.bool b from r); rfl
 | int i=>obtain ⟨t,e⟩:=(show ∃ t,u=Value.int i t from r); cases e; rfl
 | str x=>obtain ⟨t,e⟩:=(show ∃ t,u=Value.str x t from r); cases e; rfl
 | byt b=>obtain ⟨t,e⟩:=(show ∃ t,u=Value.bytes b t from r); cases e; rfl
 | flt b=>obtain ⟨t,e⟩:=(show ∃ t,u=Value.float b t from r); cases e; rfl
 | ref a=>cases (show u=Value.ref a from r); rfl
 | ty n=>cases (show u=Value.type n from r); rfl
section
variable {P:Program} {w:World} {H H':Hp} {h h':Heap} {a C dx:Addr} {fs fs':List (Str × V)}
theorem iq (hok:HOk P w H h) (e:H a=some (.ins C dx fs)):∃ mA,ObjM h a dx C mA/\(∀ f,RelO (fs.lookup f) (mA f))/\PySem.Within mA (fs.map (·.1))/\fs.length<=1000/\H dx=some (.own a):=by
 obtain ⟨d,z,ne,ob,mA,n,r,q⟩:=(show mi P w H h a (.ins C dx fs) from hok a _ e)
 exact ⟨mA,⟨ob,n,ne⟩,r,q,z,d⟩
end
structure Cls (K:Frag) (C:Addr):Prop where
 pg:plainGet K C Str.empty=true
 hd:hasDictIn K C=true
 po:plainOver K C=true
 sa:findIn K (.ref C) "__setattr__"=some (some (.builtin "object.__setattr__"))
theorem Cls.get {K:Frag} {C:Addr} (c:Cls K C) (f:Str):plainGet K C f=true:=c.pg
def mP (K:Frag) (C:Addr) (f:Str):Prop:=findIn K (.ref C) f=some none
theorem mP.taker {K:Frag} {C:Addr} {f:Str} (n:mP K C f):PySem.W.takerIn K C f=some none:=by
 unfold PySem.W.takerIn
 rw [show findIn K (.ref C) f=some none from n]
 rfl
structure fH (K:Frag) (C:Addr) (m:Str) (f:Addr):Prop where
 at_:findIn K (.ref C) m=some (some (.ref f))
 fn:isFn K (.ref f)=true
 kp:keepIn K (.ref f)=true
section
variable {X:Cx} {pins:List (Addr × Obj)} {σ:St} {H:Hp} {s:Shared} {a C dx:Addr} {fs:List (Str × V)} {f:Str} {v:V} {A:Around} {E:Value->Shared->Prop}
theorem getattr_ok {b:Bool} {Q:Value->Shared->Prop} (I:Inv X pins σ H s) (e:H a=some (.ins C dx fs)) (c:Cls X.K C) (n:mP X.K C f) (l:fs.lookup f=some v)
  (h:∀ u s',Inv X pins σ H s'->md v u->Q u s'):wpAny (model X.prog X.w) A (getAttr (.ref a) f b) Q E s:=by
 obtain ⟨mA,O,r,_,_,_⟩:=iq I.hok e
 obtain ⟨u,hu,ru⟩:=RelO.some_of (v:=v) (o:=mA f) (by rw [<- l]; exact r f)
 exact get_map I.kIn O (c.get f) c.hd n hu (handed_of ru) (h u _ (I.tok _) ru)
theorem fS {m:Str} {g:Addr} {pl:Sem Bool} {Q:Value × List Value->Shared->Prop} (I:Inv X pins σ H s) (e:H a=some (.ins C dx fs)) (c:Cls X.K C) (k:fH X.K C m g) (l:fs.lookup m=none)
  (h:Q (.ref g,[.ref a]) s):wpAny (model X.prog X.w) A (getMethod (.ref a) m pl) Q E s:=by
 obtain ⟨mA,O,r,_,_,_⟩:=iq I.hok e
 have hn:mA m=none:=RelO.none_of (by rw [<- l]; exact r m)
 exact get_meth I.kIn O (c.get m) k.at_ k.fn hn h
theorem setattr_ok {y:V} {u:Value} {Q:Unit->Shared->Prop} (I:Inv X pins σ H s) (e:H a=some (.ins C dx fs)) (c:Cls X.K C) (n:mP X.K C f) (hl:fs.length<1000) (ry:md y u)
  (h:∀ s',Inv X pins σ (upd H a (.ins C dx (fA f y fs))) s'->Q () s'):wpAny (model X.prog X.w) A (setAttr (.ref a) f u) Q E s:=by
 obtain ⟨mA,O,r,wi,_,ho⟩:=iq I.hok e
 have hz:(fs.map (·.1)).length<=sizeLine:=by rw [length_map,sizeLine_eq]; omega
 refine set_map I.kIn O c.sa c.po n.taker c.hd wi hz λh' O' sb=>h _ ?_
 have hd:∃ o,h'.get? dx=some o:=let ⟨o,_,_,e',_⟩:=O'.ns; ⟨o,e'⟩
 refine I.write (x:=a) (e:=dx) (by rw [e]; exact True.intro) (.inr ho) (λb q hb z=>(sb.2 b hb).trans z) hd ?_
 refine ⟨by rw [am O.ne]; exact ho,?_,O.ne,O'.obj,_,O'.ns,λg=>?_,λg hg=>?_⟩
 ·have:=g0 f y fs; omega
 ·show RelO ((fA f y fs).lookup g) (if g=f then some u else mA g)
  rw [hV]
  by_cases q:g=f
  ·rw [if_pos q,if_pos q]; exact ry
  ·rw [if_neg q,if_neg q]; exact r g
 ·by_cases q:g=f
  ·rw [q]; exact (gM f y fs).1
  ·refine (gM f y fs).2 g (wi g λz=>hg ?_)
   show (if g=f then some u else mA g)=none
   rw [if_neg q]; exact z
theorem Inv.made (I:Inv X pins σ H s):Inv X pins σ (upd (upd H s.heap.objs.size (.own (s.heap.objs.size+1))) (s.heap.objs.size+1) (.ins C s.heap.objs.size []))
  { s with heap:=(s.heap.push emptyDict).push (instObj C s.heap.objs.size) }:=by
 have e1:(s.heap.push emptyDict).get? s.heap.objs.size=some emptyDict:=get?_push_size s.heap rfl
 have e2:((s.heap.push emptyDict).push (instObj C s.heap.objs.size)).get? (s.heap.objs.size+1)=some (instObj C s.heap.objs.size):=by
  have:=get?_push_size (s.heap.push emptyDict) (o:=instObj C s.heap.objs.size) rfl
  rwa [size_push] at this
 have e3:(s.heap.push emptyDict).Ns s.heap.objs.size (λ_=>none):=⟨emptyDict,#[],_,e1,rfl,(λe he=>absurd he (by simp)),λ_=>rfl⟩
 have I1:=I.laid (a:=s.heap.objs.size) (o:=.own (s.heap.objs.size+1)) (h':=s.heap.push emptyDict) (t':=s.toks) (λb u q=>get?_push_of_some _ q) (Nat.le_refl _) ⟨_,e1⟩
 refine I1.laid (a:=s.heap.objs.size+1) (o:=.ins C s.heap.objs.size []) (t':=s.toks) (λb u q=>get?_push_of_some _ q) (Nat.le_of_eq (size_push _ _)) ?_
 have ne:s.heap.objs.size ≠ s.heap.objs.size+1:=Nat.ne_of_lt (Nat.lt_succ_self _)
 refine ⟨by rw [am ne,af],Nat.zero_le _,ne,e2,λ_=>none,(Heap.Ns1.of_empty e3).at λo q=>get?_push_of_some _ q,λ_=>True.intro,λy hy=>absurd rfl hy⟩
theorem attr_of {prog:Program} {w:World} {env:Env} {e:Expr} {f:Str} {pos:Pos} {s:Shared} {Q:Value->Shared->Prop} (hb:attributeBase e f env (eval e env)=eval e env)
  (h:wpAny (model prog w) A (eval e env) (λo s₁=>wpAny (model prog w) A (getAttr o f true) Q E s₁) E s):wpAny (model prog w) A (eval (.Attribute e f pos) env) Q E s:=
 Attribute_any_ h (by rw [arm_eval_Attribute,hb])
end
def tFld (K:Frag) (ta:TE) (f:Str):TE:=λσ H Q=>ta σ H λx H1=>∃ a C dx fs v,x=.ref a/\H1 a=some (.ins C dx fs)/\Cls K C/\mP K C f/\fs.lookup f=some v/\Q v H1
def sFld (K:Frag) (ta tv:TE) (f:Str):TS:=λD σ H=>tv σ H λy H1=>ta σ H1 λx H2=>∃ a C dx fs,x=.ref a/\H2 a=some (.ins C dx fs)/\Cls K C/\mP K C f/\fs.length<1000/\
 D.nx σ (upd H2 a (.ins C dx (fA f y fs)))
section
variable {X:Cx} {o e value:Expr} {f:Str} {pos pos' tpos:Pos} {ta tv:TE}
theorem gs (he:PE X e ta) (hb:attributeBase e f X.env (eval e X.env)=eval e X.env):PE X (.Attribute e f pos) (tFld X.K ta f):=by
 intro pins s σ H Q I h
 refine attr_of hb (thn (he pins s σ H _ I h) λu s1 ⟨x,H1,I1,rx,a,C,dx,fs,v,ex,ea,c,n,l,q⟩=>?_)
 subst ex
 obtain rfl:u=Value.ref a:=rx
 exact getattr_ok I1 ea c n l λu' s2 I2 ru=>⟨v,H1,I2,ru,q⟩
theorem ps_fld (ha:PE X o ta) (hv:PE X value tv) (hs:swapsWith value (some (.Attribute o f pos')) pos.line X.env=pure false):PS X (.Assign [.Attribute o f pos'] value pos) (sFld X.K ta tv f):=by
 intro pins s σ H D I h
 refine plainObj_wpAny_Assign_Attribute (thn (hv pins s σ H _ I h) λu s1 ⟨y,H1,I1,ry,q⟩=>thn (ha pins s1 σ H1 _ I1 q) λov s2 ⟨x,H2,I2,rx,a,C,dx,fs,ex,ea,c,n,l,q2⟩=>?_) hs
 subst ex
 obtain rfl:ov=Value.ref a:=rx
 exact setattr_ok I2 ea c n l ry λs3 I3=>⟨σ,_,I3,q2⟩
theorem methcall_of {pl:Sem Bool} {m:Str} {apos:Pos} {args:List Expr} {pins:List (Addr × Obj)} {s:Shared} {σ:St} {H:Hp} {Q:Value->Shared->Prop} {te:TE} (he:PE X e te) (I:Inv X pins σ H s)
  (h:te σ H λx H1=>∃ a C dx fs g,x=.ref a/\H1 a=some (.ins C dx fs)/\Cls X.K C/\fH X.K C m g/\fs.lookup m=none/\
   ∀ s1,Inv X pins σ H1 s1->wpAny (model X.prog X.w) X.A (callWith pos (.ref g) [.ref a] (backTo pos (starEach args X.env)) (backToKw pos (keywordEach [] X.env))) Q X.xe s1)
  (ht:eval (.Call (.Attribute e m apos) args [] pos) X.env=(do
   let ov <- eval e X.env
   standAt apos.atName
   let (f,first) <- holding [ov] (getMethod ov m pl)
   callWith pos f first (backTo pos (starEach args X.env)) (backToKw pos (keywordEach [] X.env)))) :
  wpAny (model X.prog X.w) X.A (eval (.Call (.Attribute e m apos) args [] pos) X.env) Q X.xe s:=by
 refine PySem.W.methodCall_KW (pl:=pl) (thn (he pins s σ H _ I h) λu s1 ⟨x,H1,I1,rx,a,C,dx,fs,g,ex,ea,c,k,l,q⟩=>?_) ht
 subst ex
 obtain rfl:u=Value.ref a:=rx
 exact fS I1 ea c k l (q s1 I1)
end
section
variable {X:Cx} {pins:List (Addr × Obj)} {σ:St} {H:Hp} {s:Shared} {A:Around} {E:Value->Shared->Prop} {Q:Value->Shared->Prop} {c:Value} {b:Bool}
inductive mO (K:Frag) (H:Hp):V->Value->Prop where
 | non:mO K H .non (.type "NoneType")
 | bl (x:Bool):mO K H (.bl x) (.type "bool")
 | int (i:Int):mO K H (.int i) (.type "int")
 | str (x:Str):mO K H (.str x) (.type "str")
 | flt (x:UInt64):mO K H (.flt x) (.type "float")
 | lst {a:Addr} {xs:List V} (e:H a=some (.lst xs)):mO K H (.ref a) (.type "list")
 | frz {a:Addr} {o:Obj} {xs:List V} (e:H a=some (.frz o (.lst xs))):mO K H (.ref a) (.type "list")
 | tup {a:Addr} {xs:List V} (e:H a=some (.tup xs)):mO K H (.ref a) (.type "tuple")
 | dK {a:Addr} {kvs:List (Key × V)} (e:H a=some (.dK kvs)):mO K H (.ref a) (.type "dict")
 | dT {a:Addr} {kvs:List (List Key × V)} (e:H a=some (.dT kvs)):mO K H (.ref a) (.type "dict")
 | ins {a C dx:Addr} {fs:List (Str × V)} (e:H a=some (.ins C dx fs)) (cl:Cls K C) (ha:findIn K (.ref C) "__class__"=some (some (.builtin "object.__class__")))
   (hn:specialIn K (.builtin "object.__class__") "__get__"=some (some (.builtin "getset_descriptor.__get__"))) (htk:takesIn K (.builtin "object.__class__")=some true)
   (hm:mroIn K C (.type "object")=some true):mO K H (.ref a) (.ref C)
theorem isinst_ok {x:V} {u t:Value} (I:Inv X pins σ H s) (rx:md x u) (ty:mO X.K H x t) (e:kitOne X.K t c=some b) (h:∀ tk,Q (.bool b) { s with toks:=tk }) :
  wpAny (model X.prog X.w) A (call (.builtin "isinstance") [u,c]) Q E s:=by
 cases ty with
 | non=>cases (show u=Value.none from rx); exact kia_one PySem.W.kitx_none I.kIn True.intro e (λz=>nomatch z) h
 | bl y=>cases (show u=Value.bool y from rx); exact kia_one PySem.W.kitx_bool I.kIn True.intro e (λz=>nomatch z) h
 | int i=>obtain ⟨t,q⟩:=(show ∃ t,u=Value.int i t from rx); cases q; exact kia_one PySem.W.kitx_int I.kIn True.intro e (λz=>nomatch z) h
 | str y=>obtain ⟨t,q⟩:=(show ∃ t,u=Value.str y t from rx); cases q; exact kia_one PySem.W.kitx_str I.kIn True.intro e (λz=>nomatch z) h
 | flt y=>obtain ⟨t,q⟩:=(show ∃ t,u=Value.float y t from rx); cases q; exact kia_one PySem.W.kitx_float I.kIn True.intro e (λz=>nomatch z) h
 | @lst a xs ea=>
  cases (show u=Value.ref a from rx)
  obtain ⟨_,_,n,_,h1⟩:=(show mi X.prog X.w H s.heap a (.lst xs) from I.hok a _ ea)
  exact kia_one PySem.W.kitx_list I.kIn ⟨_,h1,rfl⟩ e (λz=>nomatch z) h
 | @frz a ob xs ea=>
  cases (show u=Value.ref a from rx)
  obtain ⟨_,_,_,n,_,h1⟩:=(show mi X.prog X.w H s.heap a (.frz ob (.lst xs)) from I.hok a _ ea)
  exact kia_one PySem.W.kitx_list I.kIn ⟨_,h1,rfl⟩ e (λz=>nomatch z) h
 | @tup a xs ea=>
  cases (show u=Value.ref a from rx)
  obtain ⟨_,_,_,p⟩:=(show mi X.prog X.w H s.heap a (.tup xs) from I.hok a _ ea)
  obtain ⟨o,h1,h2,_⟩:=p
  exact kia_one PySem.W.kitx_tuple I.kIn ⟨o,h1,h2⟩ e (λz=>nomatch z) h
 | @dK a kvs ea=>
  cases (show u=Value.ref a from rx)
  obtain ⟨_,_,vs,_,p⟩:=(show mi X.prog X.w H s.heap a (.dK kvs) from I.hok a _ ea)
  obtain ⟨o,es,ep,h1,h2,_⟩:=p
  exact kia_one PySem.W.kitx_dict I.kIn ⟨o,h1,h2.1⟩ e (λz=>nomatch z) h
 | @dT a kvs ea=>
  cases (show u=Value.ref a from rx)
  obtain ⟨_,_,xs,_,o,es,ep,h1,h2,_⟩:=(show mi X.prog X.w H s.heap a (.dT kvs) from I.hok a _ ea)
  exact kia_one PySem.W.kitx_dict I.kIn ⟨o,h1,h2.1⟩ e (λz=>nomatch z) h
 | @ins a C dx fs ea cl ha hn htk hm=>
  cases (show u=Value.ref a from rx)
  obtain ⟨mA,O,_⟩:=iq I.hok ea
  obtain ⟨od,J,_⟩:=O.look
  exact kia_one (PySem.W.kitx_own (cl.get _) cl.hd ha hn htk hm) I.kIn J e (λz=>nomatch z) h
end
structure mj (k:Nat) (A:Around):Prop where
 hd:A.handled=none
 dp:A.depth+3*k+5<recursionLimit
 un:A.units+16*k+200<cLine
theorem mj.mono {j k:Nat} {A:Around} (r:mj k A) (h:j<=k):mj j A:=⟨r.hd,by have:=r.dp; omega,by have:=r.un; omega⟩
theorem mj.deeper {k:Nat} {A:Around} (r:mj (k+1) A) (env:Env):mj k (A.deeper env):=
 ⟨r.hd,by have:=r.dp; show A.depth+1+3*k+5<_; omega,by have:=r.un; show A.units+3+16*k+200<_; omega⟩
theorem mj.in1 {k:Nat} {A:Around} (r:mj (k+1) A):mj k A.in1:=
 ⟨r.hd,by have:=r.dp; show A.depth+3*k+5<_; omega,by have:=r.un; show A.units+1+16*k+200<_; omega⟩
theorem make_depth {A:Around} {C:Addr} {us:List Value} {kw:List (Str × Value)}:(A.under (.builtin "type.__call__" ⟨.ref C::us,kw⟩)).depth=A.depth+1:=by
 first | rfl | simp [Around.under,Code.weight,Code.isCreation,Code.isGuard,Code.isCaller,Code.frames,Code.isFrame,guardIds]
theorem make_units {A:Around} {C:Addr} {us:List Value} {kw:List (Str × Value)}:(A.under (.builtin "type.__call__" ⟨.ref C::us,kw⟩)).units=A.units+1:=by
 first | rfl | simp [Around.under,Code.cUnits,Code.frames,Code.isFrame]
theorem mj.make {k:Nat} {A:Around} (r:mj (k+1) A) (C:Addr) (us:List Value) (kw:List (Str × Value)):mj k (A.under (.builtin "type.__call__" ⟨.ref C::us,kw⟩)):=
 ⟨r.hd,by have:=r.dp; rw [make_depth]; omega,by have:=r.un; rw [make_units]; omega⟩
theorem mj.depth {k:Nat} {A:Around} (r:mj k A):A.depth<recursionLimit:=by have:=r.dp; omega
theorem mj.units {k:Nat} {A:Around} (r:mj k A):A.units+64<cLine:=by have:=r.un; omega
def bY:TA:=λ_ H Q=>Q [] H
def cu (ta:TE) (tr:TA):TA:=λσ H Q=>ta σ H λx H1=>tr σ H1 λxs H2=>Q (x::xs) H2
section
variable {X:Cx} {e:Expr} {es:List Expr} {te:TE} {t:TA} {pos:Pos}
theorem ah:PA X [] bY:=λ_ _ _ _ H Q I h=>Calls.spliced_nil ⟨[],H,I,.nil,h⟩
theorem aa (ha:PE X e te) (hr:PA X es t) (hs:starEach (e::es) X.env=(false,eval e X.env)::starEach es X.env:=by rfl):PA X (e::es) (cu te t):=by
 intro pos pins s σ H Q I h
 rw [hs]
 show wpAny _ _ (spliced ((false,eval e X.env)::backTo pos (starEach es X.env))) _ _ s
 refine Calls.spliced_cons (thn (ha pins s σ H _ I h) λu s1 ⟨x,H1,I1,r1,q1⟩=>?_)
 exact thn (hr pos pins s1 σ H1 _ I1 q1) λus s2 ⟨xs,H2,I2,r2,q2⟩=>⟨x::xs,H2,I2,.cons r1 r2,q2⟩
def tTup (t:TA):TE:=λσ H Q=>t σ H λxs H1=>xs.length<=sizeLine/\∀ p,H1 p=none->Q (.ref p) (upd H1 p (.tup xs))
def tLst (t:TA):TE:=λσ H Q=>t σ H λxs H1=>xs.length<=sizeLine/\∀ p,H1 p=none->Q (.ref p) (upd H1 p (.lst xs))
theorem bp {x1} (h:PA X es t):PE X (.Tuple es x1 pos) (tTup t):=by
 intro pins s σ H Q I hq
 refine wpAny_Tuple_spliced (thn (h pos pins s σ H _ I hq) λus s1 ⟨xs,H1,I1,r,z,q⟩=>⟨by rw [<- r.length]; exact z,?_⟩)
 have hf:H1 s1.heap.objs.size=none:=I1.hok.fresh (Nat.le_refl _)
 refine ⟨.ref s1.heap.objs.size,upd H1 s1.heap.objs.size (.tup xs),I1.laid (t':=s1.toks) (λb u e=>get?_push_of_some _ e) (Nat.le_refl _) ?_,rfl,q _ hf⟩
 exact ⟨z,us,r,⟨_,get?_push_size _ rfl,rfl,_,rfl⟩⟩
theorem ci (h:PA X es t):PE X (.List es pos) (tLst t):=by
 intro pins s σ H Q I hq
 refine wpAny_List_spliced (thn (h pos pins s σ H _ I hq) λus s1 ⟨xs,H1,I1,r,z,q⟩=>⟨by rw [<- r.length]; exact z,?_⟩)
 have hf:H1 s1.heap.objs.size=none:=I1.hok.fresh (Nat.le_refl _)
 refine ⟨.ref s1.heap.objs.size,upd H1 s1.heap.objs.size (.lst xs),I1.laid (t':=s1.toks) (λb u e=>get?_push_of_some _ e) (Nat.le_refl _) ?_,rfl,q _ hf⟩
 exact ⟨z,us,0,r,get?_push_size _ rfl⟩
end
abbrev Sp:=List V->Hp->VK->XK->Prop
abbrev CXT:=List Env->Hp->Shared->XK->Value->Shared->Prop
structure Env0 (P:Program) (w:World) (K:Frag) (mg:Str->Option Value) (base:Heap) (A:Around) (outer:List Env) (s:Shared) (H:Hp):Prop where
 frames:A.frames=some outer
 mod:Mod K mg base
 bs:∀ b o,base.get? b=some o->s.heap.get? b=some o/\H b=none
 bsz:base.objs.size<=s.heap.objs.size
 funs:s.heap.FunFrames base outer
 frf:∀ b ∈ frs outer,H b=none
 hok:HOk P w H s.heap
 bare:AllBare s.gens
def CE (outer:List Env) (P:Program) (w:World) (H:Hp) (s:Shared) (Q:VK) (u:Value) (s':Shared):Prop:=
 ∃ v H',s'.os=s.os/\AllBare s'.gens/\Un (frs outer) [] H H' s.heap s'.heap/\HOk P w H' s'.heap/\md v u/\Q v H'
def CR (CX:CXT) (outer:List Env) (P:Program) (w:World) (H:Hp) (s:Shared) (Q:VK) (E:XK) (r:Result) (s':Shared):Prop:=
 match r with
 | .ok (.ret u)=>CE outer P w H s Q u s'
 | .ok _=>False
 | .error e=>CX outer H s E e s'
structure me (P:Program) (w:World) (K:Frag) (mg:Str->Option Value) (base:Heap) (CX:CXT) (k:Nat) (f:Addr) (fd:FuncData) (ps:List Str) (sp:Sp):Prop where
 len:∀ vs H Q E,sp vs H Q E->vs.length=ps.length
 run:∀ (A:Around) (outer:List Env) (s:Shared) (H:Hp) (args:Args) (us:List Value) (vs:List V) (Q:VK) (E:XK),mj k A->Env0 P w K mg base A outer s H->BindsTo s fd args (ps.zip us)->l9 vs us->sp vs H Q E->
  codeAny (model P w) A (.call (.ref f) args) (CR CX outer P w H s Q E) s
theorem me.mono {P:Program} {w:World} {K:Frag} {mg:Str->Option Value} {base:Heap} {CX:CXT} {j k:Nat} {f:Addr} {fd:FuncData} {ps:List Str} {sp:Sp} (F:me P w K mg base CX j f fd ps sp) (h:j<=k) :
  me P w K mg base CX k f fd ps sp:=⟨F.len,λA outer s H args us vs Q E hr=>F.run A outer s H args us vs Q E (hr.mono h)⟩
theorem Env0.make {P:Program} {w:World} {K:Frag} {mg:Str->Option Value} {base:Heap} {A:Around} {outer:List Env} {s:Shared} {H:Hp} (e:Env0 P w K mg base A outer s H) (C:Addr) (us:List Value) (kw:List (Str × Value)) :
  Env0 P w K mg base (A.under (.builtin "type.__call__" ⟨.ref C::us,kw⟩)) outer s H:=⟨by first | exact e.frames | (simpa [Around.under,Code.envs,Code.isFrame,pushEnvs] using e.frames),e.mod,e.bs,e.bsz,e.funs,e.frf,e.hok,e.bare⟩
theorem Env0.in1 {P:Program} {w:World} {K:Frag} {mg:Str->Option Value} {base:Heap} {A:Around} {outer:List Env} {s:Shared} {H:Hp} (e:Env0 P w K mg base A outer s H) :
  Env0 P w K mg base A.in1 outer s H:=⟨e.frames,e.mod,e.bs,e.bsz,e.funs,e.frf,e.hok,e.bare⟩
section
variable {X:Cx} {pins:List (Addr × Obj)} {σ:St} {H:Hp} {s s':Shared}
theorem Inv.env0 (I:Inv X pins σ H s):Env0 X.prog X.w X.K X.mg X.base X.A X.stack s H:=
 ⟨I.ok.frames,I.ok.mod,I.bs,Nat.le_trans I.ok.bsz I.sz,I.stack,I.stkFree,I.hok,I.bare⟩
theorem Inv.after {Q:VK} {u:Value} (I:Inv X pins σ H s) (h:CE X.stack X.prog X.w H s Q u s'):EP X pins σ Q u s':=by
 obtain ⟨v,H',os,bare,un,hok,r,q⟩:=h
 obtain ⟨hh,g,d,t,os'⟩:=s'
 obtain rfl:os'=s.os:=os
 exact ⟨v,H',I.call (h':=hh) (g':=g) (d':=d) (t':=t) (ch:=[]) un hok bare (λb z=>absurd z (by simp)),r,q⟩
end
def tCall (sp:Sp) (dvs:List V) (E:XK) (t:TA):TE:=λσ H Q=>t σ H λvs H1=>sp (vs++dvs) H1 Q E
def eh (C:Addr) (m:Str) (sp:Sp) (dvs:List V) (E:XK) (ta:TE) (t:TA):TE:=λσ H Q=>ta σ H λx H1=>∃ a dx fs,x=.ref a/\H1 a=some (.ins C dx fs)/\fs.lookup m=none/\
 t σ H1 λvs H2=>sp (x::(vs++dvs)) H2 Q E
def tMake (C:Addr) (sp:Sp) (dvs:List V) (E:XK) (t:TA):TE:=λσ H Q=>t σ H λvs H1=>∀ x dx,H1 x=none->H1 dx=none->dx ≠ x->
 sp (.ref x::(vs++dvs)) (upd (upd H1 dx (.own x)) x (.ins C dx [])) (λv H2=>v=.non/\Q (.ref x) H2) E
def mF (K:Frag) (fd:FuncData) (ps:List Str) (ds:List Value):Prop:=
 ∀ (s:Shared) (us:List Value),K.In s.heap->(us++ds).length=ps.length->BindsTo s fd ⟨us,[]⟩ (ps.zip (us++ds))
theorem mF.all {K:Frag} {fd:FuncData} {ps:List Str} (h:∀ us:List Value,us.length=ps.length->bindArgs fd ⟨us,[]⟩=pure (ps.zip us)):mF K fd ps []:=λs us _ hl=>by
 rw [append_nil] at hl ⊢
 exact .of_eq (h us hl)
def cf (CX:CXT) (X:Cx) (E:XK):Prop:=∀ (pins:List (Addr × Obj)) (σ:St) (H:Hp) (s:Shared) (e:Value) (s':Shared),Inv X pins σ H s->CX X.stack H s E e s'->X.xe e s'
section
variable {X:Cx} {CX:CXT} {k:Nat} {f C:Addr} {fd:FuncData} {ps:List Str} {sp:Sp} {dvs:List V} {ds:List Value} {E:XK} {x m:Str} {p pos apos:Pos} {e o:Expr} {es:List Expr} {ta:TE} {t:TA}
theorem run_fn {pins:List (Addr × Obj)} {σ:St} {H:Hp} {s:Shared} {Q:VK} {us:List Value} {vs:List V} (F:me X.prog X.w X.K X.mg X.base CX k f fd ps sp) (hr:mj k X.A) (hb:mF X.K fd ps ds) (hd:l9 dvs ds) (hx:cf CX X E)
  (I:Inv X pins σ H s) (r:l9 vs us) (h:sp (vs++dvs) H Q E):wpAny (model X.prog X.w) X.A (call (.ref f) us) (EP X pins σ Q) X.xe s:=by
 have r2:l9 (vs++dvs) (us++ds):=r.append hd
 have hl:(us++ds).length=ps.length:=by rw [<- r2.length]; exact F.len _ _ _ _ h
 refine wpAny_call (codeAny_mono (F.run X.A X.stack s H ⟨us,[]⟩ (us++ds) (vs++dvs) Q E hr I.env0 (hb s us I.kIn hl) r2 h) λr s' hq=>?_)
 cases r with
 | error e=>exact hx pins σ H s e s' I hq
 | ok fl=>
  cases fl with
  | ret u=>exact I.after hq
  | next=>exact False.elim hq
  | brk=>exact False.elim hq
  | cont=>exact False.elim hq
theorem pe_call (F:me X.prog X.w X.K X.mg X.base CX k f fd ps sp) (hr:mj k X.A) (hg:Gl X x) (hm:X.mg x=some (.ref f)) (hk:keepIn X.K (.ref f)=true) (hb:mF X.K fd ps ds) (hd:l9 dvs ds) (hx:cf CX X E)
  (ha:PA X (e::es) t) (hdb:(x == ("__debug__" : Str))=false:=by decide) (he:starEach (e::es) X.env=(false,eval e X.env)::starEach es X.env:=by rfl) (hpl:(backTo pos (starEach es X.env)).any (·.1)=false:=by rfl) :
  PE X (.Call (.Name x p) (e::es) [] pos) (tCall sp dvs E t):=by
 intro pins s σ H Q I h
 refine wpAny_Call_Name_kw (gi I hg hm ?_ hdb)
 refine PySem.W.callWith_K (h₀:=X.base) I.ok.mod.kin hk (thn (ha pos pins s σ H _ I h) λus s1 ⟨vs,H1,I1,r,q⟩=>⟨I1.kIn,?_⟩) he hpl
 exact run_fn F hr hb hd hx I1 r q
theorem pe_meth {pl:Sem Bool} (he:PE X o ta) (c:Cls X.K C) (hm:fH X.K C m f) (F:me X.prog X.w X.K X.mg X.base CX k f fd ps sp) (hr:mj k X.A) (hb:mF X.K fd ps ds) (hd:l9 dvs ds) (hx:cf CX X E) (ha:PA X (e::es) t)
  (hst:starEach (e::es) X.env=(false,eval e X.env)::starEach es X.env:=by rfl) (hpl:(backTo pos (starEach es X.env)).any (·.1)=false:=by rfl)
  (ht:eval (.Call (.Attribute o m apos) (e::es) [] pos) X.env=(do
   let ov <- eval o X.env
   standAt apos.atName
   let (f,first) <- holding [ov] (getMethod ov m pl)
   callWith pos f first (backTo pos (starEach (e::es) X.env)) (backToKw pos (keywordEach [] X.env))):=by rfl) :
  PE X (.Call (.Attribute o m apos) (e::es) [] pos) (eh C m sp dvs E ta t):=by
 intro pins s σ H Q I h
 refine PySem.W.methodCall_KW (pl:=pl) (thn (he pins s σ H _ I h) λu s1 ⟨x,H1,I1,rx,a,dx,fs,ex,ea,l,q⟩=>?_) ht
 subst ex
 obtain rfl:u=Value.ref a:=rx
 refine fS I1 ea c hm l ?_
 refine PySem.W.callWith_K (first:=[.ref a]) (h₀:=X.base) I.ok.mod.kin hm.kp (thn (ha pos pins s1 σ H1 _ I1 q) λus s2 ⟨vs,H2,I2,r,q2⟩=>⟨I2.kIn,?_⟩) hst hpl
 exact run_fn (us:=.ref a::us) (vs:=.ref a::vs) F hr hb hd hx I2 (.cons rfl r) q2
theorem pe_meth0 {pl:Sem Bool} (he:PE X o ta) (c:Cls X.K C) (hm:fH X.K C m f) (F:me X.prog X.w X.K X.mg X.base CX k f fd ps sp) (hr:mj k X.A) (hb:mF X.K fd ps ds) (hd:l9 dvs ds) (hx:cf CX X E)
  (ht:eval (.Call (.Attribute o m apos) [] [] pos) X.env=(do
   let ov <- eval o X.env
   standAt apos.atName
   let (f,first) <- holding [ov] (getMethod ov m pl)
   callWith pos f first (backTo pos (starEach [] X.env)) (backToKw pos (keywordEach [] X.env))):=by rfl) :
  PE X (.Call (.Attribute o m apos) [] [] pos) (eh C m sp dvs E ta bY):=by
 intro pins s σ H Q I h
 refine PySem.W.methodCall_KW (pl:=pl) (thn (he pins s σ H _ I h) λu s1 ⟨x,H1,I1,rx,a,dx,fs,ex,ea,l,q⟩=>?_) ht
 subst ex
 obtain rfl:u=Value.ref a:=rx
 refine fS I1 ea c hm l ?_
 exact PySem.W.callWith_K0 (first:=[.ref a]) I1.kIn hm.kp (run_fn (us:=[.ref a]) (vs:=[.ref a]) F hr hb hd hx I1 (.cons rfl .nil) q)
structure Mk (K:Frag) (C f:Addr):Prop where
 makes:makesIn K C=true
 init:findIn K (.ref C) "__init__"=some (some (.ref f))
 fn:isFn K (.ref f)=true
 kp:keepIn K (.ref C)=true
theorem run_make {pins:List (Addr × Obj)} {σ:St} {H:Hp} {s:Shared} {Q:VK} {us:List Value} {vs:List V} (M:Mk X.K C f) (F:me X.prog X.w X.K X.mg X.base CX k f fd ps sp) (hr:mj (k+1) X.A) (hb:mF X.K fd ps ds) (hd:l9 dvs ds)
  (hx:cf CX X E) (I:Inv X pins σ H s) (r:l9 vs us)
  (h:∀ x dx,H x=none->H dx=none->dx ≠ x->sp (.ref x::(vs++dvs)) (upd (upd H dx (.own x)) x (.ins C dx [])) (λv H2=>v=.non/\Q (.ref x) H2) E) :
  wpAny (model X.prog X.w) X.A (call (.ref C) us) (EP X pins σ Q) X.xe s:=by
 have hq:=h (s.heap.objs.size+1) s.heap.objs.size (I.hok.fresh (Nat.le_succ _)) (I.hok.fresh (Nat.le_refl _)) (Nat.ne_of_lt (Nat.lt_succ_self _))
 have I2:=Inv.made (C:=C) I
 have r2:l9 (V.ref (s.heap.objs.size+1)::(vs++dvs)) (Value.ref (s.heap.objs.size+1)::(us++ds)):=.cons rfl (r.append hd)
 have hl:(Value.ref (s.heap.objs.size+1)::us++ds).length=ps.length:=by
  have e:=r2.length
  rw [F.len _ _ _ _ hq] at e
  exact e.symm
 refine wpAny_call (make_map (f:=f) I.kIn M.makes M.init (beq_iff_eq.mp M.fn) (codeAny_mono (F.run _ X.stack _ _ ⟨Value.ref (s.heap.objs.size+1)::us,[]⟩ (Value.ref (s.heap.objs.size+1)::(us++ds)) _ _ E (hr.make C us [])
  (I2.env0.make C us []) (hb _ (Value.ref (s.heap.objs.size+1)::us) I2.kIn hl) r2 hq) λr s' hq'=>?_))
 cases r with
 | error e=>exact hx pins σ _ _ e s' I2 hq'
 | ok fl=>
  cases fl with
  | ret u=>
   obtain ⟨v,H',I3,rv,ev,q3⟩:=I2.after hq'
   subst ev
   exact ⟨rv,⟨V.ref (s.heap.objs.size+1),H',I3,rfl,q3⟩⟩
  | next=>exact False.elim hq'
  | brk=>exact False.elim hq'
  | cont=>exact False.elim hq'
theorem pe_make (M:Mk X.K C f) (F:me X.prog X.w X.K X.mg X.base CX k f fd ps sp) (hr:mj (k+1) X.A) (hg:Gl X x) (hm:X.mg x=some (.ref C)) (hb:mF X.K fd ps ds) (hd:l9 dvs ds) (hx:cf CX X E)
  (ha:PA X (e::es) t) (hdb:(x == ("__debug__" : Str))=false:=by decide) (he:starEach (e::es) X.env=(false,eval e X.env)::starEach es X.env:=by rfl) (hpl:(backTo pos (starEach es X.env)).any (·.1)=false:=by rfl) :
  PE X (.Call (.Name x p) (e::es) [] pos) (tMake C sp dvs E t):=by
 intro pins s σ H Q I h
 refine wpAny_Call_Name_kw (gi I hg hm ?_ hdb)
 refine PySem.W.callWith_K (h₀:=X.base) I.ok.mod.kin M.kp (thn (ha pos pins s σ H _ I h) λus s1 ⟨vs,H1,I1,r,q⟩=>⟨I1.kIn,?_⟩) he hpl
 exact run_make M F hr hb hd hx I1 r q
end
def PK (X:Cx) (kws:List Keyword) (t:TA):Prop:=
 ∀ (pos:Pos) (pins:List (Addr × Obj)) (s:Shared) (σ:St) (H:Hp) (Q:List V->Hp->Prop),Inv X pins σ H s->t σ H Q->wpAny (model X.prog X.w) X.A (evalAll ((backToKw pos (keywordEach kws X.env)).map (·.2))) (AP X pins σ Q) X.xe s
section
variable {X:Cx} {CX:CXT} {k:Nat} {f C:Addr} {fd:FuncData} {ps ks:List Str} {sp:Sp} {E:XK} {x m:Str} {p pos apos kpos:Pos} {e o:Expr} {es:List Expr} {kws:List Keyword} {te ta:TE} {t tk:TA} {nm:Option Str}
theorem pk_nil:PK X [] bY:=λ_ _ _ _ H Q I h=>wpAny_evalAll_nil ⟨[],H,I,.nil,h⟩
theorem iu (ha:PE X e te) (hr:PK X kws t):PK X (⟨nm,e,kpos⟩ :: kws) (cu te t):=by
 intro pos pins s σ H Q I h
 show wpAny _ _ (evalAll ((do let v <- eval e X.env; standAt pos; pure v)::(backToKw pos (keywordEach kws X.env)).map (·.2))) _ _ s
 refine wpAny_evalAll_cons (wpAny_bind (thn (ha pins s σ H _ I h) λu s1 ⟨x,H1,I1,r1,q1⟩=>wpAny_bind (wpAny_standAt (wpAny_pure ?_))))
 exact thn (hr pos pins s1 σ H1 _ I1 q1) λus s2 ⟨xs,H2,I2,r2,q2⟩=>⟨x::xs,H2,I2,.cons r1 r2,q2⟩
variable {g:List Value->List Value->List Value} {gV:List V->List V->List V}
end
structure l8 (N P:List Str) (sc:Scope):Prop where
 kind:sc.kind=.function
 co:sc.isCoroutine=false
 gen:sc.isGenerator=false
 nd:N.Nodup
 pre:N.take P.length=P
 par:∀ x ∈ P,sc.names.lookup x=some .local\/sc.names.lookup x=some .cell
 nofree:∀ y ∈ sc.names,y.2 ≠ .free
theorem kG {kindOf:Str->Option NameKind} {x:Str}:∀ {binds:List (Str × Value)} {m:Str->Option Value},(∀ v,(x,v) ∉ binds)->bindL kindOf binds m x=m x
 | [],_,_=>rfl
 | (n,v)::r,m,h=>by
  unfold bindL
  rw [kG λw hw=>h w (mem_cons_of_mem _ hw)]
  split
  ·have:x ≠ n:=by rintro rfl; exact h v mem_cons_self
   simp [this]
  ·rfl
theorem jO {kindOf:Str->Option NameKind} {x:Str}:∀ {binds:List (Str × Value)} {m:Str->Option Value},(∀ v,(x,v) ∉ binds)->bindC kindOf binds m x=m x
 | [],_,_=>rfl
 | (n,v)::r,m,h=>by
  unfold bindC
  rw [jO λw hw=>h w (mem_cons_of_mem _ hw)]
  split
  ·rfl
  ·have:x ≠ n:=by rintro rfl; exact h v mem_cons_self
   simp [this]
theorem jZ {kindOf:Str->Option NameKind} {x:Str} {v:Value}:∀ {P:List Str} {vs:List Value} {i:Nat} {m:Str->Option Value},P.Nodup->P[i]? = some x->vs[i]? = some v->kindOf x=some .local->
  bindL kindOf (P.zip vs) m x=some v
 | [],_,_,_,_,h,_,_=>by simp at h
 | _::_,[],_,_,_,_,h,_=>by simp at h
 | p::P,w::vs,0,m,nd,h1,h2,hk=>by
  simp at h1 h2; subst h1; subst h2
  show bindL kindOf ((p,w)::P.zip vs) m p=_
  unfold bindL
  rw [kG λv hv=>(List.nodup_cons.mp nd).1 (of_mem_zip hv).1,if_pos hk]
  simp
 | p::P,w::vs,i+1,m,nd,h1,h2,hk=>by
  show bindL kindOf ((p,w)::P.zip vs) m x=_
  unfold bindL
  exact jZ (i:=i) (List.nodup_cons.mp nd).2 (by simpa using h1) (by simpa using h2) hk
theorem jR {kindOf:Str->Option NameKind} {x:Str} {v:Value}:∀ {P:List Str} {vs:List Value} {i:Nat} {m:Str->Option Value},P.Nodup->P[i]? = some x->vs[i]? = some v->kindOf x ≠ some .local->
  bindC kindOf (P.zip vs) m x=some v
 | [],_,_,_,_,h,_,_=>by simp at h
 | _::_,[],_,_,_,_,h,_=>by simp at h
 | p::P,w::vs,0,m,nd,h1,h2,hk=>by
  simp at h1 h2; subst h1; subst h2
  show bindC kindOf ((p,w)::P.zip vs) m p=_
  unfold bindC
  rw [jO λv hv=>(List.nodup_cons.mp nd).1 (of_mem_zip hv).1,if_neg hk]
  simp
 | p::P,w::vs,i+1,m,nd,h1,h2,hk=>by
  show bindC kindOf ((p,w)::P.zip vs) m x=_
  unfold bindC
  exact jR (i:=i) (List.nodup_cons.mp nd).2 (by simpa using h1) (by simpa using h2) hk
def eJ (N:List Str) (vs:List V):St:=vs.map some++List.replicate (N.length-vs.length) none
def cB (CX:CXT) (P:Program) (w:World) (K:Frag) (mg:Str->Option Value) (base:Heap) (N:List Str) (qual:Str) (scope:Scope) (f:Addr) (cd:Value) (A:Around) (outer:List Env) (s:Shared) (H:Hp) (E:XK):Cx where
 prog:=P
 w:=w
 K:=K
 mg:=mg
 base:=base
 A:=A.deeper (envOfC qual scope s.heap.objs.size f cd)
 N:=N
 s₀:=s
 H₀:=H
 env:=envOfC qual scope s.heap.objs.size f cd
 outer:=outer
 stack:=envOfC qual scope s.heap.objs.size f cd::outer
 ex:=[]
 calm:=true
 fn:=λ_=>true
 pn:=[]
 xe:=λe s'=>wpAny (model P w) (A.deeper (envOfC qual scope s.heap.objs.size f cd)) (leaving (envOfC qual scope s.heap.objs.size f cd) e) (λ_ s''=>CX outer H s E e s'') (λe' s''=>CX outer H s E e' s'') s'
theorem cell_has {sc:Scope} {n:Nat} {x:Str} (h:sc.names.lookup x=some .cell):∃ c,(cellsFrom n sc.names []).lookup x=some c:=by
 have q:=PySem.W.cellsFrom_some sc.names n [] (.inl h)
 exact Option.isSome_iff_exists.mp q
theorem inv_start {CX:CXT} {P:Program} {w:World} {K:Frag} {mg:Str->Option Value} {base:Heap} {N ps:List Str} {qual:Str} {scope:Scope} {f:Addr} {cd:Value} {A:Around} {outer:List Env} {s s1:Shared} {H:Hp} {E:XK} {us:List Value} {vs:List V}
  (S:l8 N ps scope) (hd:A.handled=none) (e0:Env0 P w K mg base A outer s H) (hl:vs.length=ps.length) (r:l9 vs us)
  (x:InCallC s s.heap.objs.size (bindL (envOfC qual scope s.heap.objs.size f cd).kindOf (ps.zip us) λ_=>none) (cellsFrom (s.heap.objs.size+1) scope.names []) (bindC (envOfC qual scope s.heap.objs.size f cd).kindOf (ps.zip us) λ_=>none) s1) :
  Inv (cB CX P w K mg base N qual scope f cd A outer s H E) [] (eJ N vs) H s1:=by
 have hpl:ps.length<=N.length:=by have:=congrArg List.length S.pre; rw [length_take] at this; omega
 obtain ⟨h1,tk,rfl,hk⟩:=x.done
 have noA:∀ b:Addr,b ∉ (cB CX P w K mg base N qual scope f cd A outer s H E).ex:=λb z=>absurd (show b ∈ ([]:List Addr) from z) (by simp)
 refine ⟨⟨e0.mod,S.kind,rfl,rfl,Nat.le_refl _,λy z c h1 h2=>?_,λy hy=>?_,λy c _ h=>?_,λ_=>hd,Around.frames_deeper e0.frames,.inr ⟨rfl,rfl⟩,λb z=>absurd z (noA b),e0.bs,e0.bsz,λb _ _=>noA b,λb z=>absurd z (noA b),e0.funs,e0.frf⟩,
  rfl,e0.bare,Un.kept hk,⟨_,x.toInCall.ns,λi y v h1 h2 h3=>?_⟩,λy c h=>⟨_,x.cell y c h⟩,e0.hok.fresh (Nat.le_refl _),λy c h=>?_,λp hp=>absurd (show p ∈ ([]:List (Addr × Obj)) from hp) (by simp),e0.hok.kept hk,?_⟩
 ·exact name_of_addr x.apart (PySem.mem_of_lookup h1) (PySem.mem_of_lookup h2)
 ·have hy:scope.names.lookup y=some .cell\/scope.names.lookup y=some .free:=hy
  rcases hy with hy | hy
  ·exact cell_has hy
  ·exact absurd rfl (S.nofree _ (PySem.mem_of_lookup hy))
 ·exact Nat.le_of_lt (x.above y c (PySem.mem_of_lookup h))
 ·have hi:i<vs.length:=by
   unfold eJ at h2
   by_cases hi:i<vs.length
   ·exact hi
   ·rw [getElem?_append_right (by simpa using hi)] at h2
    rw [List.getElem?_replicate] at h2
    split at h2<;>cases h2
  have ha:vs[i]? = some v:=by
   unfold eJ at h2
   rw [getElem?_append_left (by simpa using hi),getElem?_map] at h2
   cases e:vs[i]? with
   | none=>rw [e] at h2; cases h2
   | some a=>rw [e] at h2; cases h2; rfl
  obtain ⟨u,hu,rv⟩:=r.get ha
  have hp:ps[i]? = some y:=by
   rw [<- S.pre,List.getElem?_take_of_lt (by omega)]; exact h1
  have ndP:ps.Nodup:=by rw [<- S.pre]; exact S.nd.sublist (take_sublist _ _)
  refine ⟨u,rv,?_⟩
  rcases S.par y (mem_of_getElem? hp) with k | k
  ·exact .inl ⟨k,jZ ndP hp hu k⟩
  ·obtain ⟨c,e⟩:=cell_has (n:=s.heap.objs.size+1) k
   refine .inr ⟨.inl k,c,e,?_⟩
   have q:=x.cell y c e
   rw [jR ndP hp hu (by show scope.names.lookup y ≠ _; rw [k]; decide)] at q
   exact q
 ·exact e0.hok.fresh (Nat.le_of_lt (x.above y c (PySem.mem_of_lookup h)))
 ·unfold eJ
  show _=N.length
  rw [length_append,length_map,List.length_replicate]
  omega
theorem fn_of {CX:CXT} {P:Program} {w:World} {K:Frag} {mg:Str->Option Value} {base:Heap} {k:Nat} {f:Addr} {name qual:Str} {params:Arguments} {body:List Stmt} {scope:Scope} {dV kV doc pm cdv ct oc:Value} {an od:Option Addr}
  {osl:Array (Option Value)} {N ps:List Str} {sp:Sp} (lk:K.lookup f=some ⟨oc,od,.func (fnOf name qual params body scope dV kV doc pm an cdv ct),osl⟩) (hcd:codeIn K cdv qual=true) (S:l8 N ps scope)
  (len:∀ vs H Q E,sp vs H Q E->vs.length=ps.length)
  (hbody:∀ (A:Around) (outer:List Env) (s:Shared) (H:Hp) (vs:List V) (Q:VK) (E:XK),mj k (A.deeper (envOfC qual scope s.heap.objs.size f cdv))->sp vs H Q E->
   ∃ t,PSs (cB CX P w K mg base N qual scope f cdv A outer s H E) body t/\t { nx:=λ_ H'=>Q .non H',rt:=Q } (eJ N vs) H) :
  me P w K mg base CX (k+1) f (fnOf name qual params body scope dV kV doc pm an cdv ct) ps sp:=by
 refine ⟨len,λA outer s H args us vs Q E hr e0 hb r hsp=>?_⟩
 have hl:=len _ _ _ _ hsp
 have KX:K.In s.heap:=e0.mod.kin.keeps λb o e=>(e0.bs b o e).1
 have lim:s.heap.NoLimit:=e0.mod.nolimit.keeps λb o e=>(e0.bs b o e).1
 have hkind:∀ y ∈ ps.zip us,scope.names.lookup y.1=some .local\/(scope.names.lookup y.1=some .cell/\((cellsFrom (s.heap.objs.size+1) scope.names []).lookup y.1).isSome=true):=λ⟨n,v⟩ hy=>by
  rcases S.par n (of_mem_zip hy).1 with q | q
  ·exact .inl q
  ·exact .inr ⟨q,PySem.W.cellsFrom_some _ _ _ (.inl q)⟩
 refine codeAny_call_function hr.depth (KX _ _ lk) rfl S.co S.gen rfl (PySem.W.codeRec_of KX hcd) (hb _ _ _ _ ?_)
 refine wpAny_newFunctionEnv_cells S.kind hkind λenv he s1 x=>?_
 subst he
 refine ⟨lim.keeps x.toInCall.keep,codeAny_func ?_⟩
 obtain ⟨t,ht,hq⟩:=hbody A outer s H vs Q E (hr.deeper _) hsp
 have I:Inv (cB CX P w K mg base N qual scope f cdv A outer s H E) [] (eJ N vs) H s1:=inv_start S hr.hd e0 hl r x
 refine wpAny_mono (ht [] s1 (eJ N vs) H _ I hq) (λfl s' hs=>?_) λe s' hs=>hs
 have fin:∀ {σ':St} {H':Hp} {v:V} {u:Value},Inv (cB CX P w K mg base N qual scope f cdv A outer s H E) [] σ' H' s'->md v u->Q v H'->CE outer P w H s Q u s':=
  λ{σ' H' v u} J rv q=>⟨v,H',J.os,J.bare,J.base,J.hok,rv,q⟩
 cases fl with
 | ret u=>
  obtain ⟨v,σ',H',J,rv,q⟩:=hs
  exact fin J rv q
 | next=>
  obtain ⟨σ',H',J,q⟩:=hs
  exact fin (v:=V.non) (u:=Value.none) J rfl q
 | brk=>
  obtain ⟨_,_,_,q⟩:=hs
  exact False.elim q
 | cont=>
  obtain ⟨_,_,_,q⟩:=hs
  exact False.elim q
section
variable {X:Cx} {x:Str} {p pos:Pos} {e:Expr} {es:List Expr} {t:TA} {id T:String} {r:List V->Hp->VK->Prop}
def tCB (r:List V->Hp->VK->Prop) (t:TA):TE:=λσ H Q=>t σ H λvs H1=>r vs H1 Q
theorem cH (hc:cV X (.builtin id) r) (hg:Gl X x) (hm:X.mg x=none) (hv:bootBuiltins x=some (.builtin id)) (ha:PA X (e::es) t) (hn:x ≠ "__name__":=by decide) (hdb:(x == ("__debug__" : Str))=false:=by decide)
  (he:starEach (e::es) X.env=(false,eval e X.env)::starEach es X.env:=by rfl) (hpl:(backTo pos (starEach es X.env)).any (·.1)=false:=by rfl):PE X (.Call (.Name x p) (e::es) [] pos) (tCB r t):=by
 intro pins s σ H Q I h
 refine wpAny_Call_Name_kw (dU I hg hm hv ?_ hn hdb)
 exact PyProof.Rows.callWith_builtin1 (thn (ha pos pins s σ H _ I h) λus s1 ⟨vs,H1,I1,r1,q1⟩=>hc pins s1 σ H1 vs us Q I1 r1 q1) he hpl
theorem fy (hc:cV X (.type T) r) (hg:Gl X x) (hm:X.mg x=none) (hv:bootBuiltins x=some (.type T)) (ha:PA X (e::es) t) (hn:x ≠ "__name__":=by decide) (hdb:(x == ("__debug__" : Str))=false:=by decide)
  (he:starEach (e::es) X.env=(false,eval e X.env)::starEach es X.env:=by rfl) (hpl:(backTo pos (starEach es X.env)).any (·.1)=false:=by rfl):PE X (.Call (.Name x p) (e::es) [] pos) (tCB r t):=by
 intro pins s σ H Q I h
 refine wpAny_Call_Name_kw (dU I hg hm hv ?_ hn hdb)
 exact PyProof.Rows.callWith_type1 (thn (ha pos pins s σ H _ I h) λus s1 ⟨vs,H1,I1,r1,q1⟩=>hc pins s1 σ H1 vs us Q I1 r1 q1) he hpl
end
end L2
namespace HT
open PySem PyProof.Rows
def lexLt:List Int->List Int->Bool
 | [],[]=>false
 | [],_::_=>true
 | _::_,[]=>false
 | x::xs,y::ys=>if x=y then lexLt xs ys else decide (x<y)
theorem lexLt_cons (x y:Int) (xs ys:List Int):lexLt (x::xs) (y::ys)=if x=y then lexLt xs ys else decide (x<y):=rfl
theorem jJ:lexLt [] []=false:=rfl
theorem iU (y:Int) (ys:List Int):lexLt [] (y::ys)=true:=rfl
theorem jf (x:Int) (xs:List Int):lexLt (x::xs) []=false:=rfl
theorem eqAt_int (A:Around) (s:Shared) (a:Int) (t:Tok) (c:Int) (u:Tok):∃ e,SeqAt.EqAt A s (.int a t) (.int c u) e/\(e=true↔a=c):=
 ⟨(a == c),SeqAt.EqAt.int_int a t c u,by simp⟩
theorem rcLt_int (A:Around) (s:Shared) (a:Int) (t:Tok) (c:Int) (u:Tok) (prog:Program) (w:World) (E:Value->Shared->Prop) (Q:Value->Shared->Prop) (h:Q (.bool (decide (a<c))) s) :
  wpAny (model prog w) A (richCompare .Lt (.int a t) (.int c u)) Q E s:=
 (PyProof.Rows.lt_int h:wpAny (model prog w) A (compareOp .Lt (.int a t) (.int c u)) Q E s)
section
open PySem.SeqAt
open PySem.AutoSeq1 (wpAny_loadPart')
open PySem.MeetsSeq PySem.MeetsSeq2 PySem.MeetsSeq3
theorem jC (l b:Addr) (items items2:Array Value) (n n2:Nat) (dd dd2:Option Addr) (sl sl2:Array (Option Value)) (ns ms:List Int) (hi:IntsAre items.toList ns) (hj:IntsAre items2.toList ms) :
  Meets (Builtin.«tuple.__lt__» ⟨[.ref l,.ref b],[]⟩)
   (λ_ R s=>s.heap.get? l=some { cls:=.type "tuple",dict:=dd,data:=.seq items n,slots:=sl }/\s.heap.get? b=some { cls:=.type "tuple",dict:=dd2,data:=.seq items2 n2,slots:=sl2 }/\
    R (.ok (.ret (.bool (lexLt ns ms)))) s):=
 .of_wp λprog w A R s h=>by
  obtain ⟨hp,g,d,tk,os⟩:=s; obtain ⟨hl,hb,h⟩:=h
  have f2:=AutoSeq1.sub_tuple_tuple
  have z1:items.size=ns.length:=by rw [<- hi.length]; simp
  have z2:items2.size=ms.length:=by rw [<- hj.length]; simp
  wp_walk using wpAny_loadPart' hl,wpAny_loadPart' hb,wpAny_forIn_list _ (λrest b s'=>b.1=none/\s'=⟨hp,g,d,tk,os⟩/\∃ (vs ws:List Value) (ns' ms':List Int),rest=vs.zip ws/\
   IntsAre vs ns'/\IntsAre ws ms'/\ns'.length+items2.size=ms'.length+items.size/\R (.ok (.ret (.bool (lexLt ns' ms')))) ⟨hp,g,d,tk,os⟩) _
  case turn=>
   rintro ⟨y,x⟩ rest b s' ⟨hb',rfl,vs,ws,ns',ms',hz,hvi,hwi,hlen,hR⟩
   cases hvi with
   | nil=>rw [List.zip_nil_left] at hz; cases hz
   | cons a t hvi'=>
    cases hwi with
    | nil=>rw [List.zip_nil_right] at hz; cases hz
    | cons c u hwi'=>
     rw [List.zip_cons_cons] at hz
     injection hz with hyx hrest
     injection hyx with hy hx
     subst hy hx
     rw [lexLt_cons] at hR
     simp only [length_cons] at hlen
     obtain ⟨e,he,hiff⟩:=eqAt_int A.in1 ⟨hp,g,d,tk,os⟩ a t c u
     refine wpAny_bind (he prog w _ _ ?_)
     cases e with
     | true=>
      rw [if_pos (hiff.mp rfl)] at hR
      wp_walk
      exact ⟨rfl,rfl,_,_,_,_,hrest,hvi',hwi',by omega,hR⟩
     | false=>
      rw [if_neg (λq=>absurd (hiff.mpr q) Bool.false_ne_true)] at hR
      have hri:=rcLt_int A.in1 ⟨hp,g,d,tk,os⟩ a t c u prog w
      wp_walk using hri
      exact ⟨_,rfl,by simpa using hR⟩
  case fin=>
   rintro ⟨b1,b2⟩ s' ⟨hb',rfl,vs,ws,ns',ms',hz,hvi,hwi,hlen,hR⟩
   simp only at hb'
   subst hb'
   have hv:lexLt ns' ms'=decide (items.size<items2.size):=by
    cases hvi with
    | nil=>
     cases hwi with
     | nil=>
      simp only [length_nil] at hlen
      rw [jJ]
      exact (decide_eq_false (by omega)).symm
     | cons c u hw=>
      simp only [length_nil,length_cons] at hlen
      rw [iU]
      exact (decide_eq_true (by omega)).symm
    | cons a t hv=>
     cases hwi with
     | nil=>
      simp only [length_nil,length_cons] at hlen
      rw [jf]
      exact (decide_eq_false (by omega)).symm
     | cons c u hw=>
      rw [List.zip_cons_cons] at hz
      cases hz
   rw [hv] at hR
   wp_walk
   exact ⟨_,rfl,by simpa [Builtin.Tuple.tupleCompareSizes] using hR⟩
  case h=>
   exact ⟨rfl,rfl,items.toList,items2.toList,ns,ms,rfl,hi,hj,by omega,h⟩
end
section
variable {prog:Program} {w:World} {A:Around} {E:Value->Shared->Prop} {s:Shared}
theorem lt_tupInts {l b:Addr} {items items2:Array Value} {ns ms:List Int} {Q:Value->Shared->Prop} (hl:IsTup s.heap l items) (hb:IsTup s.heap b items2) (hi:IntsAre items.toList ns) (hj:IntsAre items2.toList ms)
  (hu:A.units<cLine) (h:Q (.bool (lexLt ns ms)) s):wpAny (model prog w) A (compareOp .Lt (.ref l) (.ref b)) Q E s:=by
 obtain ⟨⟨cls,dd,data,sl⟩,ho,hc,n,hd⟩:=id hl
 obtain ⟨⟨cls2,dd2,data2,sl2⟩,ho2,hc2,n2,hd2⟩:=id hb
 simp only at hc hd hc2 hd2
 subst hc hd hc2 hd2
 exact richCompare_meets_room (op:=.Lt) ⟨_,ho,rfl⟩ ⟨_,ho2,rfl⟩ PySem.F.slot_tuple_lt PySem.F.entry_tuple_lt (PySem.F.args_tuple_lt_2 _ _) (jC l b items items2 n n2 dd dd2 sl sl2 ns ms hi hj)
  ⟨ho,ho2,show Value.bool (lexLt ns ms) ≠ Value.notImplemented/\Q (.bool (lexLt ns ms)) s from ⟨(λx=>nomatch x),h⟩⟩ hu
def sIx (n d:Nat):Option Int->Nat
 | none=>d
 | some v=>if v<0 then (v+(n:Int)).toNat else min v.toNat n
theorem sIx_none (n d:Nat):sIx n d none=d:=rfl
theorem sIx_nat (n d k:Nat):sIx n d (some (k:Int))=min k n:=by
 show (if (k:Int)<0 then ((k:Int)+(n:Int)).toNat else min (k:Int).toNat n)=min k n
 rw [if_neg (by omega),Int.toNat_natCast]
end
end HT
namespace L2
open PySem PySem.Spec PyProof.Rows
abbrev TO:=St->Hp->(Option Int->Hp->Prop)->Prop
def PO (X:Cx) (e:Option Expr) (t:TO):Prop:=
 ∀ (pins:List (Addr × Obj)) (s:Shared) (σ:St) (H:Hp) (Q:Option Int->Hp->Prop),Inv X pins σ H s->t σ H Q->
  wpAny (model X.prog X.w) X.A (evalPart e X.env) (λu s'=>∃ o H',Inv X pins σ H' s'/\IsPart u o/\Q o H') X.xe s
def tNoPart:TO:=λ_ H Q=>Q none H
def tPart (t:TE):TO:=λσ H Q=>t σ H λx H1=>∃ i,x=.int i/\Q (some i) H1
theorem iS {ns:List Int}:∀ {us:List Value},l9 (ns.map V.int) us->IntsAre us ns:=by
 induction ns with
 | nil=>intro us r; rw [map_nil] at r; cases r; exact .nil
 | cons n ns ih=>
  intro us r
  rw [map_cons] at r
  cases r with
  | cons r1 r2=>
   obtain ⟨t,e⟩:=r1
   subst e
   exact .cons n t (ih r2)
section
variable {X:Cx} {e:Expr} {te:TE} {lo hi:Option Expr} {tl th:TO} {pos p2:Pos}
theorem lG:PO X none tNoPart:=by
 intro pins s σ H Q I h
 rw [evalPart_none]
 exact wpAny_pure ⟨none,H,I,.none,h⟩
theorem lU (h:PE X e te):PO X (some e) (tPart te):=by
 intro pins s σ H Q I hw
 rw [evalPart_some]
 refine thn (h pins s σ H _ I hw) λu s1 ⟨x,H1,I1,r1,q1⟩=>?_
 obtain ⟨i,rfl,q⟩:=q1
 obtain ⟨t,rfl⟩:=r1
 exact ⟨some i,H1,I1,.int i t,q⟩
def SlR (X:Cx) (r:V->Option Int->Option Int->Hp->VK->Prop):Prop:=
 ∀ (pins:List (Addr × Obj)) (s:Shared) (σ:St) (H:Hp) (x:V) (v vl vu:Value) (lo hi:Option Int) (sl:Addr) (Q:VK),Inv X pins σ H s->md x v->s.heap.IsSliceOf sl vl vu .none->IsPart vl lo->IsPart vu hi->r x lo hi H Q->
  ∃ T id,typeLookup (.type T) "__getitem__" = pure (some (.builtin id))/\s.TypeIs v T/\wpAny (model X.prog X.w) X.A (getItem v (.ref sl)) (EP X pins σ Q) X.xe s
def tSl (r:V->Option Int->Option Int->Hp->VK->Prop) (te:TE) (tl th:TO):TE:=λσ H Q=>te σ H λx H1=>tl σ H1 λl H2=>th σ H2 λu H3=>r x l u H3 Q
theorem jA {r:V->Option Int->Option Int->Hp->VK->Prop} (hr:SlR X r) (he:PE X e te) (hl:PO X lo tl) (hu:PO X hi th):PE X (.Subscript e (.Slice lo hi none p2) pos) (tSl r te tl th):=by
 intro pins s σ H Q I h
 refine Subscript_ (thn (he pins s σ H _ I h) λv s1 ⟨x,H1,I1,r1,q1⟩=>?_)
 refine wpAny_Slice (thn (hl pins s1 σ H1 _ I1 q1) λvl s2 ⟨l,H2,I2,pl,q2⟩=>thn (hu pins s2 σ H2 _ I2 q2) λvu s3 ⟨u,H3,I3,pu,q3⟩=>?_)
 rw [evalPart_none]
 refine wpAny_pure ?_
 have I4:Inv X pins σ H3 { s3 with heap:=s3.heap.push { cls:=.type "slice",data:=.fields #[vl,vu,.none] } }:=I3.kept (t':=s3.toks) λb ob q=>get?_push_of_some _ q
 obtain ⟨T,id,hT,ht,hg⟩:=hr pins { s3 with heap:=s3.heap.push { cls:=.type "slice",data:=.fields #[vl,vu,.none] } } σ H3 x v vl vu l u s3.heap.objs.size Q I4 r1 (Heap.IsSliceOf.new ..) pl pu q3
 show wpAny (model X.prog X.w) X.A (subscriptTail e (.Slice lo hi none p2) v (.ref s3.heap.objs.size)) (EP X pins σ Q) X.xe { s3 with heap:=s3.heap.push { cls:=.type "slice",data:=.fields #[vl,vu,.none] } }
 exact tail_any (ops:=[.ref s3.heap.objs.size,v]) ht hT hg (by with_unfolding_all rfl)
def jk (xs:List V) (lo hi:Option Int):List V:=(xs.drop (HT.sIx xs.length 0 lo)).take (HT.sIx xs.length xs.length hi-HT.sIx xs.length 0 lo)
theorem cutV_length (xs:List V) (lo hi:Option Int):(jk xs lo hi).length<=xs.length:=by
 unfold jk
 rw [length_take,length_drop]
 omega
end
def ixN (n:Nat) (i:Int):Option Nat:=if 0<=i then (if i<n then some i.toNat else none) else if -(n:Int)<=i then some (i+n).toNat else none
def atI {α:Type} (xs:List α) (i:Int):Option α:=(ixN xs.length i).bind λj=>xs[j]?
theorem ixN_seq {n:Nat} {i:Int} {j:Nat} (h:ixN n i=some j):seqIndex? i n=some j/\j<n/\-(n:Int)<=i/\i<n:=by
 unfold ixN at h
 by_cases h0:0<=i
 ·rw [if_pos h0] at h
  by_cases h1:i<n
  ·rw [if_pos h1] at h
   have e:i.toNat=j:=Option.some.inj h
   exact ⟨by rw [seqIndex_of h0 h1,e],by omega,by omega,h1⟩
  ·rw [if_neg h1] at h; cases h
 ·rw [if_neg h0] at h
  by_cases h1:-(n:Int)<=i
  ·rw [if_pos h1] at h
   have e:(i+n).toNat=j:=Option.some.inj h
   exact ⟨by rw [seqIndex_neg (by omega) h1,e],by omega,h1,by omega⟩
  ·rw [if_neg h1] at h; cases h
theorem atI_get {α:Type} {xs:List α} {i:Int} {v:α} (h:atI xs i=some v):∃ j,seqIndex? i xs.length=some j/\xs[j]? = some v/\j<xs.length/\-(xs.length:Int)<=i/\i<xs.length:=by
 unfold atI at h
 cases e:ixN xs.length i with
 | none=>rw [e] at h; cases h
 | some j=>
  rw [e] at h
  obtain ⟨h1,h2,h3,h4⟩:=ixN_seq e
  exact ⟨j,h1,h,h2,h3,h4⟩
theorem atI_nat {α:Type} {xs:List α} {j:Nat} {v:α} (h:xs[j]? = some v):atI xs (j:Int)=some v:=by
 have hj:j<xs.length:=(List.getElem?_eq_some_iff.mp h).1
 have e:ixN xs.length (j:Int)=some j:=by
  unfold ixN
  rw [if_pos (by omega),if_pos (by omega)]; simp
 unfold atI; rw [e]; exact h
def PlainIx (b:Expr):Prop:=∀ o i,subscripted b false o i=operate [o,i] (getItem o i)
def IxR (X:Cx) (r:R2):Prop:=
 ∀ (value slice:Expr) (pins:List (Addr × Obj)) (s:Shared) (σ:St) (H:Hp) (x y:V) (v u:Value) (Q:VK),Inv X pins σ H s->md x v->md y u->r x y H Q->
  subscripted slice false v u=operate [v,u] (getItem v u)->wpAny (model X.prog X.w) X.A (subscriptTail value slice v u) (EP X pins σ Q) X.xe s
def MtR (X:Cx) (id:String) (r:V->List V->Hp->VK->Prop):Prop:=
 ∀ (pins:List (Addr × Obj)) (s:Shared) (σ:St) (H:Hp) (x:V) (xs:List V) (v:Value) (us:List Value) (Q:VK),Inv X pins σ H s->md x v->l9 xs us->r x xs H Q->
  wpAny (model X.prog X.w) X.A (call (.builtin id) (v::us)) (EP X pins σ Q) X.xe s
section
variable {X:Cx} {a b:Expr} {ta tb:TE} {pos:Pos}
theorem aB {r:R2} (hr:IxR X r) (ha:PE X a ta) (hb:PE X b tb) (hs:PlainIx b):PE X (.Subscript a b pos) (tOp r ta tb):=by
 intro pins s σ H Q I h
 exact Subscript_ (binT ha hb I h λv u s2 x y H2 I2 rx ry q=>hr a b pins s2 σ H2 x y v u Q I2 rx ry q (hs _ _))
def rIxL (K:Frag):R2:=λx y H Q=>∃ p xs i v,x=.ref p/\y=.int i/\SqL K H p xs/\atI xs i=some v/\Q v H
def rIxT (K:Frag):R2:=λx y H Q=>∃ p xs i v,x=.ref p/\y=.int i/\SqT K H p xs/\atI xs i=some v/\Q v H
theorem ix_list:IxR X (rIxL X.K):=by
 intro value slice pins s σ H x y v u Q I rx ry h hs
 obtain ⟨p,xs,i,z,rfl,rfl,hq,he,q⟩:=h
 cases rx
 obtain ⟨t,rfl⟩:=ry
 obtain ⟨its,r,pl,hz⟩:=I.list hq
 obtain ⟨j,h1,h2,h3,h4,h5⟩:=atI_get he
 obtain ⟨w,ew,rw'⟩:=r.get h2
 have hl:=r.length
 have hn:=lf
 have fin:EP X pins σ Q w s:=⟨z,H,I,rw',q⟩
 by_cases h0:0<=i
 ·have hj:i.toNat=j:=by
   rw [seqIndex_of h0 h5] at h1
   exact Option.some.inj h1
  exact item_listR pl.isList h0 (by omega) (by rw [hj]; simpa using ew) fin hs
 ·have hj:(i+(its.toArray.size:Int)).toNat=j:=by
   rw [seqIndex_neg (by omega) h4] at h1
   rw [size_toArray,<- hl]
   exact Option.some.inj h1
  exact subscriptTail_builtinR (x:=w) pl.isList.typeIs slot_list_getitem.lookup
   (wpAny_getItem_list_neg (Q:=λr s'=>r=w/\EP X pins σ Q r s') pl.isList (by omega) (by rw [size_toArray]<;>omega) (by omega) (by rw [hj]; simpa using ew) ⟨rfl,fin⟩) hs
theorem ix_tup:IxR X (rIxT X.K):=by
 intro value slice pins s σ H x y v u Q I rx ry h hs
 obtain ⟨p,xs,i,z,rfl,rfl,hq,he,q⟩:=h
 cases rx
 obtain ⟨t,rfl⟩:=ry
 obtain ⟨its,r,pl,hz⟩:=I.tuple hq
 obtain ⟨j,h1,h2,h3,h4,h5⟩:=atI_get he
 obtain ⟨w,ew,rw'⟩:=r.get h2
 have hl:=r.length
 have hn:=lf
 have fin:EP X pins σ Q w s:=⟨z,H,I,rw',q⟩
 exact subscriptTail_builtinR (x:=w) pl.typeIs slot_tuple_getitem.lookup
  (getItem_tuple (j:=j) (Q:=λr s'=>r=w/\EP X pins σ Q r s') pl (by omega) (by omega) (by rw [size_toArray,<- hl]; exact h1) (by simpa using ew) ⟨rfl,fin⟩) hs
theorem mapSeq_set (its:List Value) (n j:Nat) (u:Value):Obj.mapSeq (·.setIfInBounds j u) { cls:=.type "list",data:=.seq its.toArray n }={ cls:=.type "list",data:=.seq (its.set j u).toArray n }:=by
 simp [Obj.mapSeq]
theorem Inv.lst {pins:List (Addr × Obj)} {σ:St} {H:Hp} {s:Shared} {p:Addr} {xs:List V} (I:Inv X pins σ H s) (h:H p=some (.lst xs)) :
  ∃ (its:List Value) (n:Nat),l9 xs its/\s.heap.get? p=some { cls:=.type "list",data:=.seq its.toArray n }/\xs.length<=sizeLine:=by
 obtain ⟨z,its,n,r,e⟩:=I.hok p _ h
 exact ⟨its,n,r,e,z⟩
theorem Inv.lstUpd {pins:List (Addr × Obj)} {σ:St} {H:Hp} {s:Shared} {p:Addr} {xs ys:List V} {its its':List Value} {n n':Nat} {f:Obj->Obj} (I:Inv X pins σ H s) (h:H p=some (.lst xs))
  (ho:s.heap.get? p=some { cls:=.type "list",data:=.seq its.toArray n }) (hf:f { cls:=.type "list",data:=.seq its.toArray n }={ cls:=.type "list",data:=.seq its'.toArray n' }) (r:l9 ys its') (hz:ys.length<=sizeLine) (t:Nat) :
  Inv X pins σ (upd H p (.lst ys)) { s with heap:=s.heap.update p f,toks:=t }:=by
 have e:(s.heap.update p f).get? p=some { cls:=.type "list",data:=.seq its'.toArray n' }:=by
  rw [get?_update_self f ho (by rw [hf]<;>rfl),hf]
 refine I.write (x:=p) (e:=p) (by rw [h]; trivial) (.inl rfl) (λb u hb q=>(get?_update_other _ _ (Ne.symm hb)).trans q) ⟨_,e⟩ ?_
 exact ⟨hz,its',n',r,e⟩
def rSetL:V->V->V->Hp->(Hp->Prop)->Prop:=λo i v H Q=>∃ p xs k j,o=.ref p/\i=.int k/\H p=some (.lst xs)/\ixN xs.length k=some j/\Q (upd H p (.lst (xs.set j v)))
theorem eT:PSet X rSetL:=by
 intro pins s σ H o i v ov iv u Q I ro ri rv h
 obtain ⟨p,xs,k,j,rfl,rfl,hp,hj,q⟩:=h
 cases ro
 obtain ⟨t,rfl⟩:=ri
 obtain ⟨its,n,r,ho,hz⟩:=I.lst hp
 obtain ⟨h1,h2,h3,h4⟩:=ixN_seq hj
 have hl:=r.length
 have hn:=lf
 have I':Inv X pins σ (upd H p (.lst (xs.set j v))) { s with heap:=s.heap.update p (Obj.mapSeq (·.setIfInBounds j u)) }:=
  I.lstUpd hp ho (mapSeq_set its n j u) (r.set rv j) (by rw [List.length_set]; exact hz) s.toks
 by_cases h0:0<=k
 ·have hk:k.toNat=j:=by
   rw [seqIndex_of h0 h4] at h1
   exact Option.some.inj h1
  exact PySem.W.ki_setAt ho h0 (by omega) (by rw [size_toArray,<- hl]; exact h4) (by rw [hk]; exact ⟨_,I',q⟩)
 ·have hk:(k+(its.toArray.size:Int)).toNat=j:=by
   rw [seqIndex_neg (by omega) h3] at h1
   rw [size_toArray,<- hl]
   exact Option.some.inj h1
  exact PySem.W.ki_setBack ho (by omega) (by rw [size_toArray,<- hl]; exact h3) (by omega) (by rw [hk]; exact ⟨_,I',q⟩)
theorem lC (lo hi:Option Int) (n:Nat):(sliceBounds lo hi none n).1=((HT.sIx n 0 lo:Nat):Int)/\(sliceBounds lo hi none n).2.1=((HT.sIx n n hi:Nat):Int)/\(sliceBounds lo hi none n).2.2=1:=by
 refine ⟨?_,?_,rfl⟩
 ·cases lo with
  | none=>simp [sliceBounds,HT.sIx]
  | some i=>
   simp only [sliceBounds,HT.sIx,Option.getD_none,show (1:Int) > 0 by decide,if_true]
   by_cases h:i<0
   ·simp only [h,if_true]<;>omega
   ·simp only [h,if_false]<;>omega
 ·cases hi with
  | none=>simp [sliceBounds,HT.sIx]
  | some i=>
   simp only [sliceBounds,HT.sIx,Option.getD_none,show (1:Int) > 0 by decide,if_true]
   by_cases h:i<0
   ·simp only [h,if_true]<;>omega
   ·simp only [h,if_false]<;>omega
theorem jI (its:List Value) (lo hi:Option Int):slicePick its.toArray lo hi none=((its.drop (HT.sIx its.length 0 lo)).take (HT.sIx its.length its.length hi-HT.sIx its.length 0 lo)).toArray:=by
 obtain ⟨h1,h2,h3⟩:=lC lo hi its.toArray.size
 unfold slicePick
 rw [h1,h2,h3]
 simp only [sliceRange_one,pick_run,size_toArray]<;>rfl
def rSlL (K:Frag):V->Option Int->Option Int->Hp->VK->Prop:=λx lo hi H Q=>∃ a xs,x=.ref a/\SqL K H a xs/\∀ p,H p=none->Q (.ref p) (upd H p (.lst (jk xs lo hi)))
theorem sl_list:SlR X (rSlL X.K):=by
 intro pins s σ H x v vl vu lo hi sl Q I rx hs pl pu h
 obtain ⟨a,xs,rfl,hx,q⟩:=h
 cases rx
 obtain ⟨its,r,ht,hz⟩:=I.list hx
 have hlen:=r.length
 refine ⟨"list",_,slot_list_getitem.lookup,ht.isList.typeIs,?_⟩
 refine wpAny_getItem_list_slice ht.isList hs pl pu .none (by simp) ?_ (by rw [size_toArray]<;>omega)
 rw [jI,<- hlen]
 refine ⟨.ref s.heap.objs.size,_,I.laid (t':=s.toks) (o:=.lst (jk xs lo hi)) (λb ob q=>get?_push_of_some _ q) (Nat.le_refl _) ?_,rfl,q _ (I.hok.fresh (Nat.le_refl _))⟩
 exact ⟨Nat.le_trans (cutV_length xs lo hi) hz,_,0,(r.drop (HT.sIx xs.length 0 lo)).take (HT.sIx xs.length xs.length hi-HT.sIx xs.length 0 lo),get?_push_size _ rfl⟩
theorem kL:cV X (.builtin "len") (λxs H Q=>∃ p ys,xs=[.ref p]/\(SqL X.K H p ys\/SqT X.K H p ys)/\Q (.int ys.length) H):=by
 intro pins s σ H xs us Q I r h
 obtain ⟨p,ys,rfl,hq,q⟩:=h
 obtain ⟨u,rfl,rx⟩:=g9 r
 cases rx
 have hn:=lf
 rcases hq with hq | hq
 ·obtain ⟨its,r',pl,hz⟩:=I.list hq
  have hlen:=r'.length
  exact Calls.call_len_list pl.isList (by simp only [size_toArray]<;>omega) ⟨.int ys.length,H,I.tok _,⟨s.toks+1,by rw [size_toArray,hlen]⟩,q⟩
 ·obtain ⟨its,r',pl,hz⟩:=I.tuple hq
  have hlen:=r'.length
  exact len_tuple pl (by simp only [size_toArray]<;>omega) ⟨.int ys.length,H,I.tok _,⟨s.toks+1,by rw [size_toArray,hlen]⟩,q⟩
theorem kY:cV X (.type "list") (λxs H Q=>∃ p ys,xs=[.ref p]/\(SqL X.K H p ys\/SqT X.K H p ys)/\∀ l,H l=none->Q (.ref l) (upd H l (.lst ys))):=by
 intro pins s σ H xs us Q I r h
 obtain ⟨p,ys,rfl,hq,q⟩:=h
 obtain ⟨u,rfl,rx⟩:=g9 r
 cases rx
 have fin:∀ (its:List Value),l9 ys its->ys.length<=sizeLine->∀ (h':Heap) (c':Nat),(∀ b o',s.heap.get? b=some o'->h'.get? b=some o')->
   h'.get? s.heap.objs.size=some { cls:=.type "list",dict:=none,data:=.seq its.toArray c',slots:=#[] }->EP X pins σ Q (.ref s.heap.objs.size) { s with heap:=h' }:=λits r' hz h' c' kp e=>
  ⟨.ref s.heap.objs.size,_,I.laid (t':=s.toks) kp (Nat.le_refl _) (show mi X.prog X.w _ h' _ (.lst ys) from ⟨hz,its,c',r',e⟩),rfl,q _ (I.hok.fresh (Nat.le_refl _))⟩
 rcases hq with hq | hq
 ·obtain ⟨its,r',pl,hz⟩:=I.list hq
  have hlen:=r'.length
  obtain ⟨o,ho,hc,n,hd⟩:=pl.isList
  exact call_list_seq p (.inl rfl) ho hc hd (λh' c' kp e=>fin its r' hz h' c' kp e) (by simp only [size_toArray]<;>omega)
 ·obtain ⟨its,r',pl,hz⟩:=I.tuple hq
  have hlen:=r'.length
  obtain ⟨o,ho,hc,n,hd⟩:=pl
  exact call_list_seq p (.inr rfl) ho hc hd (λh' c' kp e=>fin its r' hz h' c' kp e) (by simp only [size_toArray]<;>omega)
theorem jG:cV X (.type "tuple") (λxs H Q=>∃ p ys,xs=[.ref p]/\((SqL X.K H p ys/\∀ l,H l=none->Q (.ref l) (upd H l (.tup ys)))\/(SqT X.K H p ys/\Q (.ref p) H))):=by
 intro pins s σ H xs us Q I r h
 obtain ⟨p,ys,rfl,h⟩:=h
 obtain ⟨u,rfl,rx⟩:=g9 r
 cases rx
 rcases h with ⟨hq,q⟩ | ⟨hq,q⟩
 ·obtain ⟨its,r',pl,hz⟩:=I.list hq
  have hlen:=r'.length
  refine call_tuple_list pl.isList (λh' kp=>?_) (by simp only [size_toArray]<;>omega)
  have I1:Inv X pins σ H { s with heap:=h' }:=I.kept (t':=s.toks) kp
  have I2:Inv X pins σ (upd H h'.objs.size (.tup ys)) { s with heap:=h'.push { cls:=.type "tuple",data:=.seq its.toArray } }:=
   I1.laid (t':=s.toks) (λb o e=>get?_push_of_some _ e) (Nat.le_refl _) (show mi X.prog X.w _ _ _ (.tup ys) from ⟨hz,its,r',IsTup.new _ _⟩)
  exact ⟨.ref h'.objs.size,_,I2,rfl,q _ (I1.hok.fresh (Nat.le_refl _))⟩
 ·obtain ⟨its,r',pl,hz⟩:=I.tuple hq
  exact call_tuple_same pl ⟨.ref p,H,I,rfl,q⟩
def tyV (K:Frag) (T:String) (x:V) (H:Hp):Prop:=match x with
 | .str _=>T = "str"
 | .int _=>T = "int"
 | .ref p=>(T = "list"/\∃ xs,SqL K H p xs)\/(T = "tuple"/\∃ o,K.lookup p=some o/\o.cls=.type "tuple"/\o.dict=none) \/
   (T = "dict"/\((∃ kvs,H p=some (.dK kvs))\/∃ kvs,H p=some (.dT kvs)))\/(T = "set"/\∃ S n,H p=some (.set S n))
 | _=>False
theorem tyV_is {pins:List (Addr × Obj)} {σ:St} {H:Hp} {s:Shared} {T:String} {x:V} {v:Value} (I:Inv X pins σ H s) (r:md x v) (ty:tyV X.K T x H) :
  s.TypeIs v T/\∀ a,v=.ref a->∃ ob,s.heap.get? a=some ob/\ob.dict=none:=by
 cases x with
 | str z=>
  obtain ⟨t,rfl⟩:=r
  cases (show T = "str" from ty)
  exact ⟨typeIs_str s z t,λ_ e=>nomatch e⟩
 | int i=>
  obtain ⟨t,rfl⟩:=r
  cases (show T = "int" from ty)
  exact ⟨typeIs_int s i t,λ_ e=>nomatch e⟩
 | ref p=>
  cases r
  rcases ty with ⟨rfl,xs,hq⟩ | ⟨rfl,o,hk,hc,hd⟩ | ⟨rfl,hk⟩ | ⟨rfl,S,n,hk⟩
  ·obtain ⟨its,_,pl,_⟩:=I.list hq
   refine ⟨pl.isList.typeIs,λa e=>?_⟩
   cases e
   obtain ⟨o,n,e,c,hd,_⟩:=pl
   exact ⟨o,e,hd⟩
  ·refine ⟨⟨o,I.kIn p o hk,hc⟩,λa e=>?_⟩
   cases e
   exact ⟨o,I.kIn _ o hk,hd⟩
  ·have z:∃ o,s.heap.get? p=some o/\o.ExactDict:=by
    rcases hk with ⟨kvs,hk⟩ | ⟨kvs,hk⟩
    ·obtain ⟨_,_,_,_,o,_,_,e,ex,_⟩:=I.hok p _ hk
     exact ⟨o,e,ex⟩
    ·obtain ⟨_,_,_,_,o,_,_,e,ex,_⟩:=I.hok p _ hk
     exact ⟨o,e,ex⟩
   obtain ⟨o,e,ex⟩:=z
   refine ⟨⟨o,e,ex.1⟩,λa e2=>?_⟩
   cases e2
   exact ⟨o,e,ex.2.1⟩
  ·obtain ⟨o,_,_,_,e,ex,_⟩:=I.hok p _ hk
   refine ⟨⟨o,e,ex.1⟩,λa e2=>?_⟩
   cases e2
   exact ⟨o,e,ex.2.1⟩
 | _=>exact False.elim ty
def tBM0 (K:Frag) (T:String) (r:V->List V->Hp->VK->Prop) (to:TE):TE:=λσ H Q=>to σ H λx H1=>tyV K T x H1/\r x [] H1 Q
def tBM (K:Frag) (T:String) (r:V->List V->Hp->VK->Prop) (to:TE) (t:TA):TE:=λσ H Q=>to σ H λx H1=>tyV K T x H1/\t σ H1 λxs H2=>r x xs H2 Q
variable {o e:Expr} {es:List Expr} {to:TE} {t:TA} {name:Str} {apos cpos:Pos} {T id:String} {r:V->List V->Hp->VK->Prop}
theorem pe_bm0 (pa:PlainAttrs T) (slot:Slot T name id) (hty:typeOf (.builtin id)=pure (.type "method_descriptor")) (hm:MtR X id r) (ho:PE X o to)
  (hbase:attributeBase o name X.env (eval o X.env)=eval o X.env:=by rfl) (hline:(apos.endLine == cpos.line)=true:=by rfl):PE X (.Call (.Attribute o name apos) [] [] cpos) (tBM0 X.K T r to):=by
 intro pins s σ H Q I h
 refine wpAny_Call_method0_late hbase hline (thn (ho pins s σ H _ I h) λv s1 ⟨x,H1,I1,r1,ty,q1⟩=>?_)
 obtain ⟨h1,h2⟩:=tyV_is I1 r1 ty
 exact ⟨T,id,pa,slot,hty,h1,h2,Calls.callWith_builtin rfl (PySem.evalArgs_none (hm pins s1 σ H1 x [] v [] Q I1 r1 .nil q1))⟩
theorem pe_bm (pa:PlainAttrs T) (slot:Slot T name id) (hty:typeOf (.builtin id)=pure (.type "method_descriptor")) (hm:MtR X id r) (ho:PE X o to) (ha:PA X (e::es) t)
  (hbase:attributeBase o name X.env (eval o X.env)=eval o X.env:=by rfl)
  (hfew:((backTo cpos (starEach (e::es) X.env)).all (λx=>!x.1) && (backToKw cpos (keywordEach [] X.env)).all (λx=>x.1.isSome)
   && decide ((e::es).length+([]:List Keyword).length+(if ([]:List Keyword).isEmpty then 0 else 1)<30))=true:=by rfl)
  (hline:(apos.endLine == cpos.line)=true:=by rfl) (hs:starEach (e::es) X.env=(false,eval e X.env)::starEach es X.env:=by rfl) (hplain:(backTo cpos (starEach es X.env)).any (·.1)=false:=by rfl) :
  PE X (.Call (.Attribute o name apos) (e::es) [] cpos) (tBM X.K T r to t):=by
 intro pins s σ H Q I h
 refine wpAny_Call_method_late hbase hfew hline rfl (thn (ho pins s σ H _ I h) λv s1 ⟨x,H1,I1,r1,ty,q1⟩=>?_)
 obtain ⟨h1,h2⟩:=tyV_is I1 r1 ty
 refine ⟨T,id,pa,slot,hty,h1,h2,?_⟩
 have hA:=ha cpos pins s1 σ H1 _ I1 q1
 rw [hs] at hA ⊢
 refine Calls.callWith_builtin (by show (false || (backTo cpos (starEach es X.env)).any (·.1))=false; rw [hplain]<;>rfl) (Calls.evalArgs_plain ?_)
 exact thn hA λus s2 ⟨vs,H2,I2,r2,q2⟩=>hm pins s2 σ H2 x vs v us Q I2 r1 r2 q2
end
def MtM (X:Cx) (id:String) (r:V->List V->Hp->VK->Prop):Prop:=
 ∀ (pins:List (Addr × Obj)) (s:Shared) (σ:St) (H:Hp) (x:V) (xs:List V) (v:Value) (us:List Value) (Q:VK),Inv X pins σ H s->md x v->l9 xs us->r x xs H Q->
  wpAny (model X.prog X.w) X.A (call (.builtin id) (v::us)) (EP X pins σ Q) X.xe s
theorem l9.one:∀ {x:V} {us:List Value},l9 [x] us->∃ u,us=[u]/\md x u
 | _,_,.cons r .nil=>⟨_,rfl,r⟩
theorem l9.two:∀ {x y:V} {us:List Value},l9 [x,y] us->∃ u v,us=[u,v]/\md x u/\md y v
 | _,_,_,.cons r (.cons q .nil)=>⟨_,_,rfl,r,q⟩
theorem l9.reverse {xs:List V} {us:List Value} (h:l9 xs us):l9 xs.reverse us.reverse:=by
 induction h with
 | nil=>exact .nil
 | cons r t ih=>rw [List.reverse_cons,List.reverse_cons]; exact l9.append ih (.cons r .nil)
section
variable {X:Cx} {pins:List (Addr × Obj)} {σ:St} {H:Hp} {s:Shared} {l b:Addr} {xs ys zs:List V}
theorem Inv.lset {its its':List Value} {n:Nat} {f:Array Value->Array Value} {t':Nat} (I:Inv X pins σ H s) (hH:H l=some (.lst xs))
  (e:s.heap.get? l=some { cls:=.type "list",data:=.seq its.toArray n }) (hf:f its.toArray=its'.toArray) (hv:l9 ys its') (hz:ys.length<=sizeLine) :
  Inv X pins σ (upd H l (.lst ys)) { s with heap:=s.heap.update l (Obj.mapSeq f),toks:=t' }:=by
 have q:=PySem.IsL.update e f
 rw [hf] at q
 refine I.write (x:=l) (e:=l) (by rw [hH]; exact trivial) (.inl rfl) (λb' u hb hu=>(get?_update_other s.heap (Obj.mapSeq f) (Ne.symm hb)).trans hu) ⟨_,q⟩ ?_
 exact ⟨hz,its',_,hv,q⟩
theorem Inv.lnew {its:List Value} {t':Nat} (I:Inv X pins σ H s) (hv:l9 ys its) (hz:ys.length<=sizeLine) :
  Inv X pins σ (upd H s.heap.objs.size (.lst ys)) { s with heap:=s.heap.push { cls:=.type "list",data:=.seq its.toArray },toks:=t' }:=
 I.laid (λ_ _ q=>get?_push_of_some _ q) (Nat.le_refl _) ⟨hz,its,0,hv,get?_push_size _ rfl⟩
theorem Inv.fresh (I:Inv X pins σ H s):H s.heap.objs.size=none:=I.hok.fresh (Nat.le_refl _)
theorem Inv.lstM (I:Inv X pins σ H s) (hH:H l=some (.lst xs)):xs.length<=sizeLine/\∃ (its:List Value) (n:Nat),l9 xs its/\xs.length=its.length/\s.heap.get? l=some { cls:=.type "list",data:=.seq its.toArray n }:=by
 obtain ⟨z,its,n,r,e⟩:=I.hok l _ hH
 exact ⟨z,its,n,r,r.length,e⟩
theorem notLongL {n:Nat} (h:n<=sizeLine):Builtin.List.listTooLong n=false:=by
 unfold Builtin.List.listTooLong
 exact decide_eq_false (by omega)
end
section
variable {X:Cx}
def rAppend:V->List V->Hp->VK->Prop:=λx vs H Q=>∃ l xs y,x=.ref l/\vs=[y]/\H l=some (.lst xs)/\xs.length<sizeLine/\Q .non (upd H l (.lst (xs++[y])))
theorem jK:MtM X "list.append" rAppend:=by
 intro pins s σ H x vs v us Q I rx rv h
 obtain ⟨l,xs,y,rfl,rfl,hH,hz,q⟩:=h
 cases rx
 obtain ⟨u,rfl,ru⟩:=rv.one
 obtain ⟨z,its,n,r,hl,e⟩:=I.lstM hH
 refine call_meets F.slot_list_append ⟨_,e,rfl⟩ F.entry_list_append (F.args_list_append_2 _ _) (PySem.list_append l its.toArray n u (by rw [size_toArray]; omega)) ⟨e,?_⟩
 refine ⟨.non,_,I.lset (its':=its++[u]) hH e (by simp) (r.append (.cons ru .nil)) ?_,rfl,q⟩
 rw [length_append,length_singleton]
 omega
def rExtend:V->List V->Hp->VK->Prop:=λx vs H Q=>∃ l b xs zs,x=.ref l/\vs=[.ref b]/\H l=some (.lst xs)/\H b=some (.lst zs)/\xs.length+zs.length<=sizeLine/\Q .non (upd H l (.lst (xs++zs)))
theorem mt_extend:MtM X "list.extend" rExtend:=by
 intro pins s σ H x vs v us Q I rx rv h
 obtain ⟨l,b,xs,zs,rfl,rfl,hH,hB,hz,q⟩:=h
 cases rx
 obtain ⟨u,rfl,ru⟩:=rv.one
 cases ru
 obtain ⟨z,its,n,r,hl,e⟩:=I.lstM hH
 obtain ⟨z2,its2,n2,r2,hl2,e2⟩:=I.lstM hB
 have hsz:its.toArray.size+its2.toArray.size<=sizeLine:=by rw [size_toArray,size_toArray]; omega
 have hlong:¬ (!its.toArray.isEmpty && Builtin.List.listTooLong (its.toArray.size+its2.toArray.size))=true:=by
  rw [notLongL hsz,Bool.and_false]
  exact Bool.false_ne_true
 refine call_meets F.slot_list_extend ⟨_,e,rfl⟩ F.entry_list_extend (F.args_list_extend_2 _ _)
  (AutoSeq1.list_extend_list_list_0 l its.toArray n b its2.toArray n2 hlong (by rw [size_toArray]; omega) (by omega)) ⟨e,e2,?_⟩
 refine ⟨.non,_,I.lset (its':=its++its2) hH e (by simp) (r.append r2) ?_,rfl,q⟩
 rw [length_append]
 omega
def rCat:R2:=λx y H Q=>∃ l b xs zs,x=.ref l/\y=.ref b/\H l=some (.lst xs)/\H b=some (.lst zs)/\xs.length+zs.length<=sizeLine/\∀ p,H p=none->Q (.ref p) (upd H p (.lst (xs++zs)))
theorem op_cat:OpR X (binaryOp .Add) rCat:=by
 intro pins s σ H x y v u Q I rx ry h
 obtain ⟨l,b,xs,zs,rfl,rfl,hH,hB,hz,q⟩:=h
 cases rx
 cases ry
 obtain ⟨z,its,n,r,hl,e⟩:=I.lstM hH
 obtain ⟨z2,its2,n2,r2,hl2,e2⟩:=I.lstM hB
 refine PySem.P.add_list e e2 ?_ (by rw [size_toArray,size_toArray]; omega)
 have ea:its.toArray++its2.toArray=(its++its2).toArray:=by simp
 rw [ea]
 exact ⟨.ref _,_,I.lnew (t':=s.toks) (r.append r2) (by rw [length_append]; omega),rfl,q _ I.fresh⟩
end
section
variable {prog:Program} {w:World} {A:Around} {E:Value->Shared->Prop} {s:Shared}
end
section
variable {X:Cx}
end
end L2
namespace Att
open PySem PySem.W PySem.Calls PyProof.Rows
theorem ie {P:Params} {h:Heap}:∀ (ns:List Int) (vs:List Value),WellAll P h vs (ns.map WData.int)->IntsAre vs ns:=by
 intro ns
 induction ns with
 | nil=>
  intro vs w
  rw [map_nil] at w
  cases w
  exact .nil
 | cons n ns ih=>
  intro vs w
  rw [map_cons] at w
  cases w with
  | cons a b=>
   cases a
   exact .cons _ _ (ih _ b)
theorem script_of {l:OpenLaw} {n:Nat} (hn:l.most=some n) {P:Params} {h:Heap} {args:List WData} {vals:List Value}
  (hpre:l.row.toRowW.claim.pre args=true) (hwl:WellAll P h vals args) :
  ∃ a vs ns,vals=[Value.ref a]/\args=[WData.list (ns.map WData.int)]/\h.get? a=some { cls:=.type "list",data:=.seq vs.toArray }/\IntsAre vs ns/\ns.length<=n:=by
 have hsh:WShape.hasAll [] args [.list .int]=true:=(pre_splitW hpre).1
 have hc:l.pre.holds [] { args:=args }=true:=(pre_splitW hpre).2
 obtain ⟨d,r,rfl,h1,h2⟩:=hasAllW_cons hsh
 obtain rfl:=hasAllW_nil h2
 obtain ⟨xs,rfl,h3⟩:=hasW_list h1
 obtain ⟨ns,rfl⟩:=items_int h3
 have hlen:ns.length<=n:=by
  unfold OpenLaw.pre at hc
  have h4:(WTm.not (.lt (.lit (.int (n:Int))) (.len (.arg 0)))).holds [] { args:=[.list (ns.map .int)] }=true:=by
   have h4:=(holds_andW hc).1
   rw [hn] at h4
   exact h4
  have h5:=condW_of h4 (w_not (w_lt w_lit (w_len_list (w_arg rfl))))
  rw [length_map] at h5
  refine Nat.le_of_not_lt λq=>?_
  have q':(n:Int)<((ns.length:Nat):Int):=by omega
  first
   | (rw [decide_eq_true q'] at h5; exact absurd h5 (by decide))
   | (simp at h5; omega)
 cases hwl with
 | cons w1 w2=>
  cases w2
  cases w1 with
  | list ho hall=>exact ⟨_,_,ns,rfl,rfl,ho,ie ns _ hall,hlen⟩
theorem post_true (l:OpenLaw) (args:List WData):l.row.toRowW.claim.post args (.bool true) args=true:=
 postW_of (r:=l.row.toRowW) (X:=(true == true))
  (show WShape.has [] (.bool true) .bool=true by first | rfl | decide | simp [WShape.has,WShape.arms,WShape.armsAll])
  (show (WTm.eq .res (.lit (.bool true))).value [] { args:=args,res:=some (.bool true),after:=args }=some (.bool (true == true)) from w_eq_bool (w_res rfl) w_lit) rfl
theorem attach_call {l:OpenLaw} {n:Nat} {q:Program} {loose:List Str} {XP:(Str->Option Value)->Heap->Prop} {YP:World->Heap->Prop} {d:DefRec}
  (hn:l.most=some n) (hdf:d.params.defaults=[])
  (call:∀ (w:World) (s₀ s₁:Shared) (mg mb:Str->Option Value) (fa:Addr) (o:Obj) (pm cd doc:Value) (a:Addr) (vs:List Value) (ns:List Int),
   Ground q loose [] XP w s₀ mg mb s₁.heap->YP w s₁.heap->
   s₁.heap.get? fa=some o->o.data=.func (docDef d.name d.params d.body d.scope pm cd doc)->s₁.heap.CodeRec cd d.name->mg d.name=some (.ref fa)->
   s₁.heap.get? a=some { cls:=.type "list",data:=.seq vs.toArray }->IntsAre vs ns->ns.length<=n->s₁.gens = #[]->
   codeAny (model l.prog w) callerA (.call (.ref fa) ⟨[.ref a],[]⟩) (λr s'=>r=.ok (.ret (.bool true))/\OldK s₁.heap s'.heap/\s'.os=s₁.os/\AllBare s'.gens) s₁) :
  WalkO q loose XP YP l.row.toRowW d [] (λf vs=>PySem.call f vs):=by
 intro w s₀ s₁ mg mb G Y fa o pm cd doc dV kV ho hd hcd hD hmg hg args vals as hpre hlay hrd hwl hlo
 obtain rfl:dV=.none:=Dflts.none hD hdf
 obtain rfl:kV=.none:=Dflts.noKw hD
 obtain ⟨a,vs,ns,rfl,rfl,hobj,hints,hlen⟩:=script_of hn hpre hwl
 refine enter_call (codeAny_mono (call w s₀ s₁ mg mb fa o pm cd doc a vs ns G Y ho (fd_plain hd) hcd hmg hobj hints hlen hg) λr s' hq=>?_)
 obtain ⟨rfl,h2,h3,h4⟩:=hq
 exact ⟨.inl ⟨.bool true,.bool true,[],rfl,λ_=>rfl,.bool true,post_true l _,λ_=>⟨List.Pairwise.nil,λ_ hm=>(nomatch hm)⟩⟩,h2,h3,h4⟩
section
variable {prog:Program} {w:World} {A:Around} {E:Value->Shared->Prop} {s:Shared} {K:Frag}
end
end Att
namespace L2
open PySem PySem.Spec PyProof.Rows
theorem j8:∀ {vs:List Value} {ns:List Int},IntsAre vs ns->l9 (ns.map V.int) vs
 | _,_,.nil=>.nil
 | _,_,.cons n t h=>.cons ⟨t,rfl⟩ (j8 h)
def Only (H:Hp):Prop:=∀ b,H b=none\/∃ o xs,H b=some (.frz o (.lst xs))
theorem law_call {P:Program} {w:World} {K:Frag} {mg mb:Str->Option Value} {CX:CXT} {k:Nat} {fa a:Addr} {fd:FuncData} {x:Str} {sp:Sp} {s₁:Shared} {vs:List Value} {ns:List Int}
  (KX:K.In s₁.heap) (hns:s₁.heap.Ns mainGlobals mg) (hb:s₁.heap.Ns builtinsNs mb) (hbb:∀ x:Str,x ≠ "__name__"->mb x=bootBuiltins x) (hlim:s₁.heap.NoLimit) (hg:s₁.gens = #[])
  (ha:s₁.heap.get? a=some { cls:=.type "list",data:=.seq vs.toArray }) (hi:IntsAre vs ns) (hl:ns.length<=sizeLine) (hr:mj k callerA)
  (F:∀ base:Heap,K.In base->base.Ns mainGlobals mg->me P w K mg base CX k fa fd [x] sp) (hbind:∀ (s:Shared) (u:Value),BindsTo s fd ⟨[u],[]⟩ [(x,u)])
  (hsp:∀ H:Hp,Only H->SqL K H a (ns.map V.int)->sp [.ref a] H (λv _=>v=.bl true) λ_ _ _=>False)
  (hCX:∀ H e s',CX [] H s₁ (λ_ _ _=>False) e s'->False) :
  codeAny (model P w) callerA (.call (.ref fa) ⟨[.ref a],[]⟩) (λr s'=>r=.ok (.ret (.bool true))/\OldK s₁.heap s'.heap/\s'.os=s₁.os/\AllBare s'.gens) s₁:=by
 have rv:=j8 hi
 have lenV:=hi.length
 have core:∀ H:Hp,Only H->SqL K H a (ns.map V.int)->HOk P w H s₁.heap->(∀ b,H b ≠ none->b=a)->(H a ≠ none->K.lookup a=none)->
   codeAny (model P w) callerA (.call (.ref fa) ⟨[.ref a],[]⟩) (λr s'=>r=.ok (.ret (.bool true))/\OldK s₁.heap s'.heap/\s'.os=s₁.os/\AllBare s'.gens) s₁:=by
  intro H hO hS hok hA hK
  have base_of:∀ {b:Addr} {o:Obj},s₁.heap.get? b=some o->H b=none->(kM s₁.heap H).get? b=some o:=λe n=>hidT_get e n
  have noA:∀ {b:Addr} {o:Obj} {es:Array DictEntry} {ep:Nat},s₁.heap.get? b=some o->o.data=.dict es ep->H b=none:=λ{b o es ep} e d=>by
   cases q:H b with
   | none=>rfl
   | some u=>
    have e':b=a:=hA b (by rw [q]; simp)
    subst e'
    rw [ha] at e; cases e
    have d':Data.seq vs.toArray _=Data.dict es ep:=d
    cases d'
  have nsK:∀ {b:Addr} {m:Str->Option Value},s₁.heap.Ns b m->(kM s₁.heap H).Ns b m:=λ{b m} ⟨o,es,ep,e,d,r⟩=>⟨o,es,ep,base_of e (noA e d),d,r⟩
  have hKb:K.In (kM s₁.heap H):=λb o e=>base_of (KX b o e) (by
   cases q:H b with
   | none=>rfl
   | some u=>
    have e':b=a:=hA b (by rw [q]; simp)
    subst e'
    rw [hK (by rw [q]; simp)] at e; cases e)
  have hM:Mod K mg (kM s₁.heap H):=⟨hKb,nsK hns,⟨mb,nsK hb,hbb⟩,let ⟨mc,h1,h2⟩:=hlim; ⟨mc,nsK h1,h2⟩⟩
  have e0:Env0 P w K mg (kM s₁.heap H) callerA [] s₁ H:=⟨rfl,hM,λb o e=>of_hidT e,Nat.le_of_eq (hidT_size _ _),trivial,λb hb=>absurd (show b ∈ ([]:List Addr) from hb) (by simp),hok,.of_eq hg⟩
  refine codeAny_mono ((F _ hKb (nsK hns)).run callerA [] s₁ H ⟨[.ref a],[]⟩ [.ref a] [.ref a] _ _ hr e0 (hbind s₁ (.ref a)) (.cons rfl .nil) (hsp H hO hS)) λr s' h=>?_
  cases r with
  | error e=>exact (hCX H e s' h).elim
  | ok fl=>
   cases fl with
   | next=>exact False.elim h
   | brk=>exact False.elim h
   | cont=>exact False.elim h
   | ret u=>
    obtain ⟨v,H',os,bare,un,hok',r',q⟩:=h
    have q':v=.bl true:=q
    subst q'
    obtain rfl:u=Value.bool true:=r'
    refine ⟨rfl,OldK.of_keep λb o e=>?_,os,bare⟩
    cases q:H b with
    | none=>exact un.keep b o e q (by intro z; exact absurd (show b ∈ ([]:List Addr) from z) (by simp)) (by simp)
    | some u=>
     rcases hO b with z | ⟨ob,xs,z⟩
     ·rw [q] at z; cases z
     ·have z2:=un.frzs b ob _ z
      obtain ⟨e1,_⟩:=hok b _ z
      obtain ⟨e2,_⟩:=hok' b _ z2
      rw [e] at e1; cases e1
      exact e2
 cases hk:K.lookup a with
 | some o=>
  have e:=KX a o hk
  rw [ha] at e
  cases e
  refine core (λ_=>none) (λ_=>.inl rfl) (.inr ⟨_,vs.toArray,_,hk,rfl,rfl,rfl,by rw [size_toArray,lenV]; exact hl,by simpa using rv⟩) (λb u z=>by have z':(none:Option HO)=some u:=z; cases z') (λb z=>absurd rfl z) λz=>absurd rfl z
 | none=>
  refine core (λb=>if b=a then some (.frz { cls:=.type "list",data:=.seq vs.toArray } (.lst (ns.map V.int))) else none) (λb=>?_) (.inl (.inr ⟨{ cls:=.type "list",data:=.seq vs.toArray },if_pos rfl⟩)) (λb u z=>?_) (λb z=>?_) λ_=>hk
  ·by_cases hb:b=a
   ·exact .inr ⟨_,_,if_pos hb⟩
   ·exact .inl (if_neg hb)
  ·by_cases hb:b=a
   ·have z':=(if_pos hb).symm.trans z
    cases z'
    subst hb
    exact ⟨ha,by rw [length_map]; exact hl,vs,_,rv,ha⟩
   ·have z':=(if_neg hb).symm.trans z
    cases z'
  ·by_cases hb:b=a
   ·exact hb
   ·exact absurd (if_neg hb) z
theorem walk_of {l:PySem.W.OpenLaw} {n k:Nat} {q:Program} {loose:List Str} {XP:(Str->Option Value)->Heap->Prop} {YP:World->Heap->Prop} {d:DefRec} {K:Params->Frag} {CX:World->CXT} {sp:World->Sp} {x:Str}
  (hn:l.most=some n) (hn2:n<=sizeLine) (hdf:d.params.defaults=[]) (hr:mj k callerA)
  (hY:∀ (w:World) (h:Heap),YP w h->(K w.params).In h)
  (F:∀ (w:World) (mg:Str->Option Value) (fa:Addr) (h:Heap),(K w.params).In h->h.Ns mainGlobals mg->mg d.name=some (.ref fa)->
   ∃ fd:FuncData,(∀ (s:Shared) (u:Value),BindsTo s fd ⟨[u],[]⟩ [(x,u)])/\
    ∀ base:Heap,(K w.params).In base->base.Ns mainGlobals mg->me l.prog w (K w.params) mg base (CX w) k fa fd [x] (sp w))
  (hsp:∀ (w:World) (H:Hp) (a:Addr) (ns:List Int),ns.length<=n->Only H->SqL (K w.params) H a (ns.map V.int)->sp w [.ref a] H (λv _=>v=.bl true) λ_ _ _=>False)
  (hCX:∀ (w:World) (H:Hp) (s:Shared) (e:Value) (s':Shared),CX w [] H s (λ_ _ _=>False) e s'->False) :
  PySem.W.WalkO q loose XP YP l.row.toRowW d [] (λf vs=>PySem.call f vs):=by
 refine Att.attach_call hn hdf λw s₀ s₁ mg mb fa o pm cd doc a vs ns G Y ho hd hcd hmg hobj hints hlen hg=>?_
 have KX:=hY w _ Y
 obtain ⟨fd,hb,hF⟩:=F w mg fa _ KX G.T.g hmg
 exact law_call KX G.T.g G.T.b G.T.builtins G.T.nolimit hg hobj hints (Nat.le_trans hlen hn2) hr hF hb (λH hO hS=>hsp w H a ns hlen hO hS) λH e s'=>hCX w H s₁ e s'
def inClass (s:Stmt) (j:Nat):Stmt:=match s with
 | .ClassDef _ _ _ body _ _ _ _ _ _ _=>body.getD j (.Pass ⟨0,0,0,0⟩)
 | _=>.Pass ⟨0,0,0,0⟩
def aJ (s:Stmt):Arguments:=match s with
 | .FunctionDef _ a _ _ _ _ _ _ _ _=>a
 | _=>{ posonlyargs:=[],args:=[],vararg:=none,kwonlyargs:=[],kw_defaults:=[],kwarg:=none,defaults:=[] }
def aH (s:Stmt):List Stmt:=match s with
 | .FunctionDef _ _ b _ _ _ _ _ _ _=>b
 | _=>[]
def aj (s:Stmt):Scope:=match s with
 | .FunctionDef _ _ _ _ _ _ sc _ _ _=>sc
 | _=>{ kind:=.function,names:=[],isGenerator:=false,isCoroutine:=false }
abbrev CX0:CXT:=λ_ _ _ _ _ _=>False
abbrev E0:XK:=λ_ _ _=>False
theorem pass0 {X:Cx}:cf CX0 X E0:=λ_ _ _ _ _ _ _ h=>h.elim
structure Fun (K:Frag) (x qual:Str) (st:Stmt) (f:Addr) (fd:FuncData):Prop where
 ex:∃ (oc:Value) (od:Option Addr) (kV doc pm:Value) (an:Option Addr) (cdv ct:Value) (osl:Array (Option Value)),
  fd=fnOf x qual (aJ st) (aH st) (aj st) .none kV doc pm an cdv ct/\K.lookup f=some ⟨oc,od,.func fd,osl⟩/\codeIn K cdv qual=true
 kp:keepIn K (.ref f)=true
section
variable {P:Program} {w:World} {K:Frag} {mg:Str->Option Value} {base:Heap}
theorem Fun.ok {x qual:Str} {st:Stmt} {f:Addr} {fd:FuncData} {N ps:List Str} {k:Nat} {sp:Sp} (F:Fun K x qual st f fd) (S:l8 N ps (aj st)) (len:∀ vs H Q E,sp vs H Q E->vs.length=ps.length)
  (hbody:∀ (cdv:Value) (A:Around) (outer:List Env) (s:Shared) (H:Hp) (vs:List V) (Q:VK) (E:XK),mj k (A.deeper (envOfC qual (aj st) s.heap.objs.size f cdv))->sp vs H Q E->
   ∃ t,PSs (cB CX0 P w K mg base N qual (aj st) f cdv A outer s H E).nox (aH st) t/\t { nx:=λ_ H'=>Q .non H',rt:=Q } (eJ N vs) H):me P w K mg base CX0 (k+1) f fd ps sp:=by
 obtain ⟨oc,od,kV,doc,pm,an,cdv,ct,osl,rfl,lk,hcd⟩:=F.ex
 refine fn_of lk hcd S len λA outer s H vs Q E hr hsp=>?_
 obtain ⟨t,h,q⟩:=hbody cdv A outer s H vs Q E hr hsp
 exact ⟨t,h.nox,q⟩
theorem Fun.binds {x qual:Str} {st:Stmt} {f:Addr} {fd:FuncData} {ps:List Str} (F:Fun K x qual st f fd)
  (h:∀ (kV doc pm:Value) (an:Option Addr) (cdv ct:Value) (us:List Value),us.length=ps.length->bindArgs (fnOf x qual (aJ st) (aH st) (aj st) .none kV doc pm an cdv ct) ⟨us,[]⟩=pure (ps.zip us)):mF K fd ps []:=by
 obtain ⟨oc,od,kV,doc,pm,an,cdv,ct,osl,rfl,lk,hcd⟩:=F.ex
 exact .all (h kV doc pm an cdv ct)
theorem dW {x qual:Str} {st:Stmt} {f:Addr} {oc:Value} {od an:Option Addr} {osl:Array (Option Value)} {kV doc pm cdv ct:Value} (l:K.lookup f=some ⟨oc,od,.func (fnOf x qual (aJ st) (aH st) (aj st) .none kV doc pm an cdv ct),osl⟩)
  (c:codeIn K cdv qual=true) (k:keepIn K (.ref f)=true):Fun K x qual st f (fnOf x qual (aJ st) (aH st) (aj st) .none kV doc pm an cdv ct):=⟨⟨oc,od,kV,doc,pm,an,cdv,ct,osl,rfl,l,c⟩,k⟩
end
theorem eY {n:Nat} (h:n<=1000):n<sizeLine:=Nat.lt_of_le_of_lt h (by decide)
section
variable {X:Cx}
theorem pv (i:Nat) {x:Str} {pos:Pos} (hN:X.N[i]? = some x:=by rfl) (hv:Vis X.env.scope x:=by first | exact Or.inl rfl | exact Or.inr (Or.inl rfl) | exact Or.inr (Or.inr rfl)) (hd:(x == ("__debug__" : Str))=false:=by decide)
  (hcd:(x == ("__classdict__" : Str))=false:=by decide):PE X (.Name x pos) (tVar i):=pe_var hN hv hd hcd
end
theorem bF {A B:Prop} (h:B):if false=true then A else B:=by
 rw [if_neg Bool.false_ne_true]
 exact h
theorem cv {A B:Prop} (h:A):if true=true then A else B:=by
 rw [if_pos rfl]
 exact h
theorem bu {c A B:Prop} [Decidable c] (h1:c->A) (h2:¬ c->B):if c then A else B:=by
 by_cases h:c
 ·rw [if_pos h]
  exact h1 h
 ·rw [if_neg h]
  exact h2 h
theorem iteNS {c A B:Prop} [Decidable c] (hc:c) (h:B):if (!decide c)=true then A else B:=by
 rw [decide_eq_true hc]
 exact bF h
def l0 (H H':Hp):Prop:=∀ b o,H b=some o->H' b=some o
theorem l0.refl (H:Hp):l0 H H:=λ_ _ h=>h
theorem l0.trans {H H1 H2:Hp} (a:l0 H H1) (b:l0 H1 H2):l0 H H2:=λc o h=>b c o (a c o h)
theorem l0.free {H H':Hp} (e:l0 H H') {l:Addr} (h:H' l=Option.none):H l=Option.none:=by
 cases q:H l with
 | none=>rfl
 | some o=>
  rw [e l o q] at h
  cases h
theorem l0.seq {K:Frag} {H H':Hp} {a:Addr} {xs:List V} (e:l0 H H') (h:SqL K H a xs):SqL K H' a xs:=by
 rcases h with (h | ⟨o,h⟩) | h
 ·exact .inl (.inl (e _ _ h))
 ·exact .inl (.inr ⟨o,e _ _ h⟩)
 ·exact .inr h
section
variable {prog:Program} {w:World} {A:Around} {R:Result->Shared->Prop} {s:Shared}
theorem lV {elt target iter:Expr} {ifs:List Expr} {scope:Scope} {pos:Pos} {it acc:Value} {env:Env} (I:Nat->Shared->Prop)
  (turn:∀ n s,I n s->wpAny (model prog w) A (pyNext it) (λr s₁=>match r with
   | none=>R (.ok .next) s₁
   | some v=>wpAny (model prog w) A (letOwnedTupleGo target it v) (λ_ s₁'=>wpAny (model prog w) A (assign target env v) (λ_ s₂=>
     wpAny (model prog w) A (forIn ifs true λc r=>if r=true then do let ok <- isTrue c env (eval c env); pure (ForInStep.yield ok) else pure (ForInStep.yield r)) (λok s₃=>
      if ok=true then wpAny (model prog w) A (eval elt env) (λx s₄=>
       wpAny (model prog w) A (call (.builtin "list.append") [acc,x]) (λ_ s₅=>∃ m,m<n/\I m s₅) (λ_ _=>False) s₄) (λ_ _=>False) s₃
      else ∃ m,m<n/\I m s₃) (λ_ _=>False) s₂) (λ_ _=>False) s₁') (λ_ _=>False) s₁) (λ_ _=>False) s)
  (n:Nat) (h:I n s) :
  codeAny (model prog w) A (.compLoop (.ListComp elt [⟨target,iter,ifs,0⟩] scope pos) 0 it acc env) R s:=by
 refine codeAny_loop rfl I (λn s hI=>?_) n h
 show wpAny _ A ((compTurn (.ListComp elt [⟨target,iter,ifs,0⟩] scope pos) 0 it acc env).onRaise (λx=>do noteFrame x env; theTreesLotGoes x)) _ _ s
 refine wpAny_noted ?_
 rw [compTurn_list]
 refine wpAny_bind (wpAny_standAt (wpAny_bind (wpAny_mono (turn n s hI) (λr s₁ h₁=>?_) λ_ _ h'=>h'.elim)))
 cases r with
 | none=>exact wpAny_pure h₁
 | some v=>
  refine wpAny_bind (wpAny_mono h₁ (λ_ s₁' h₁'=>?_) λ_ _ h'=>h'.elim)
  refine wpAny_bind (wpAny_mono h₁' (λ_ s₂ h₂=>wpAny_bind (wpAny_mono h₂ (λok s₃ h₃=>?_) λ_ _ h'=>h'.elim)) λ_ _ h'=>h'.elim)
  cases ok with
  | false=>exact wpAny_pure ⟨rfl,h₃⟩
  | true=>
   exact wpAny_bind (wpAny_bind (wpAny_mono h₃ (λx s₄ h₄=>wpAny_bind (wpAny_mono h₄ (λ_ s₅ h₅=>wpAny_pure (wpAny_pure ⟨rfl,h₅⟩)) λ_ _ h'=>h'.elim)) λ_ _ h'=>h'.elim))
end
def cI (env:Env):List (Str × NameKind)->List (Str × Addr)->List (Str × Addr)
 | [],cs=>cs
 | (n,k)::r,cs=>cI env r (if k == .free then (n,(env.cells.lookup n).getD 0)::cs else cs)
theorem jd {env:Env}:∀ (l:List (Str × NameKind)) (cs:List (Str × Addr)),(∀ x ∈ l,x.2=.free->∃ c,env.cells.lookup x.1=some c)->
  (do let r <- forIn l cs (λ(x:Str × NameKind) (cs:List (Str × Addr))=>if (x.2 == .free)=true then do let a <- cellOf env x.1; pure (ForInStep.yield ((x.1,a)::cs)) else pure (ForInStep.yield cs)); pure r:Sem (List (Str × Addr)))=pure (cI env l cs)
 | [],cs,_=>rfl
 | (n,k)::r,cs,h=>by
  have ih:=λcs'=>jd (env:=env) r cs' λx hx=>h x (mem_cons_of_mem _ hx)
  rw [forIn_cons]
  cases hk:(k == NameKind.free) with
  | false=>
   simp only [hk,Bool.false_eq_true,if_false]
   show (do let r <- forIn r cs _; pure r:Sem _)=_
   rw [ih]
   simp only [cI,hk,Bool.false_eq_true,if_false]
  | true=>
   obtain ⟨c,hc⟩:=h (n,k) mem_cons_self (by simpa using hk)
   have hco:cellOf env n=pure c:=by unfold cellOf; simp only at hc; rw [hc]
   simp only [hk,if_true,hco]
   show (do let r <- forIn r ((n,c)::cs) _; pure r:Sem _)=_
   rw [ih]
   simp only at hc
   simp only [cI,hk,if_true,hc,Option.getD_some]
theorem iJ {env:Env} {scope:Scope} (h:∀ x ∈ scope.names,x.2=.free->∃ c,env.cells.lookup x.1=some c):closureFor scope env=pure (cI env scope.names []):=by
 have q:=jd scope.names [] h
 unfold closureFor
 exact congrArg (λ(m:Sem (List (Str × Addr)))=>m >>= pure) q
theorem cls_in {env:Env}:∀ (l:List (Str × NameKind)) (cs:List (Str × Addr)) (n:Str) (c:Addr),(∀ x ∈ l,x.2=.free->∃ c,env.cells.lookup x.1=some c)->
  (cI env l cs).lookup n=some c->env.cells.lookup n=some c\/cs.lookup n=some c
 | [],cs,n,c,_,h=>.inr h
 | (m,k)::r,cs,n,c,hf,h=>by
  have ih:=cls_in r (if (k == .free)=true then (m,(env.cells.lookup m).getD 0)::cs else cs) n c (λx hx=>hf x (mem_cons_of_mem _ hx)) h
  cases hk:(k == NameKind.free) with
  | false=>
   simp only [hk,Bool.false_eq_true,if_false] at ih
   exact ih
  | true=>
   simp only [hk,if_true] at ih
   rcases ih with ih | ih
   ·exact .inl ih
   ·cases hx:n == m with
    | true=>
     simp only [lookup_cons,hx] at ih
     obtain ⟨c',hc'⟩:=hf (m,k) mem_cons_self (by simpa using hk)
     simp only at hc'
     rw [hc'] at ih
     have e:n=m:=by simpa using hx
     subst e
     exact .inl (hc'.trans ih)
    | false=>
     simp only [lookup_cons,hx] at ih
     exact .inr ih
theorem cls_keep {env:Env}:∀ (l:List (Str × NameKind)) (cs:List (Str × Addr)) (n:Str),(∃ c,cs.lookup n=some c)->∃ c,(cI env l cs).lookup n=some c
 | [],cs,n,h=>h
 | (m,k)::r,cs,n,⟨c,h⟩=>by
  refine cls_keep r _ n ?_
  by_cases hk:(k == NameKind.free)=true
  ·rw [if_pos hk]
   cases hx:n == m with
   | true=>exact ⟨(env.cells.lookup m).getD 0,by simp only [lookup_cons,hx]⟩
   | false=>exact ⟨c,by simp only [lookup_cons,hx]; exact h⟩
  ·rw [if_neg hk]
   exact ⟨c,h⟩
theorem lW {env:Env}:∀ (l:List (Str × NameKind)) (cs:List (Str × Addr)) (n:Str),(n,NameKind.free) ∈ l->∃ c,(cI env l cs).lookup n=some c
 | [],_,_,h=>absurd h (by simp)
 | (m,k)::r,cs,n,h=>by
  rcases List.mem_cons.mp h with e | e
  ·cases e
   refine cls_keep r _ _ ?_
   exact ⟨_,by simp [lookup_cons]; rfl⟩
  ·exact lW r _ n e
theorem cM {env:Env}:∀ (names:List (Str × NameKind)) (x:Str),
  (names.map λ(n,k)=>if (k == NameKind.free && env.scope.kind == .function && env.kindOf n == some .cell) then (n,NameKind.cell) else (n,k)).lookup x
   = (names.lookup x).map λk=>if (k == NameKind.free && env.scope.kind == .function && env.kindOf x == some .cell)=true then NameKind.cell else k
 | [],x=>rfl
 | (n,k)::r,x=>by
  have ih:=cM (env:=env) r x
  show List.lookup x ((if (k == NameKind.free && env.scope.kind == .function && env.kindOf n == some .cell)=true then (n,NameKind.cell) else (n,k))::_)=_
  cases hx:x == n with
  | true=>
   have e:x=n:=by simpa using hx
   subst e
   by_cases hc:(k == NameKind.free && env.scope.kind == .function && env.kindOf x == some .cell)=true
   ·rw [if_pos hc]; simp only [lookup_cons,hx,Option.map_some]; rw [if_pos hc]
   ·rw [if_neg hc]; simp only [lookup_cons,hx,Option.map_some]; rw [if_neg hc]
  | false=>
   by_cases hc:(k == NameKind.free && env.scope.kind == .function && env.kindOf n == some .cell)=true
   ·rw [if_pos hc]; simp only [lookup_cons,hx]; exact ih
   ·rw [if_neg hc]; simp only [lookup_cons,hx]; exact ih
def lX (outer scope:Scope):Bool:=
 scope.kind == .function && outer.kind == .function && scope.names.all λx=>x.2 != .cell && (x.2 != .local || scope.names.lookup x.1 == some .local) && (x.2 != .free || (outer.names.lookup x.1 == some .cell || outer.names.lookup x.1 == some .free))
def jP (XN N:List Str) (src:List (Option Nat)) (scope:Scope):Bool:=
 src.length == N.length && (List.range N.length).all λi=>match src[i]?.join with
  | none=>true
  | some j=>N[i]? == XN[j]? && (N[i]?).any λx=>scope.names.lookup x == some .free
def dR (src:List (Option Nat)) (σ:St):St:=src.map λo=>o.bind λj=>(σ[j]?).join
def cxC (X:Cx) (N:List Str) (scope:Scope) (s:Shared) (H:Hp) (ex:List Addr):Cx where
 prog:=X.prog
 w:=X.w
 K:=X.K
 mg:=X.mg
 base:=X.base
 A:=X.A
 N:=N
 s₀:=s
 H₀:=H
 env:=compEnvC scope (cI X.env scope.names []) s.heap.objs.size X.env
 outer:=X.stack
 stack:=X.stack
 ex:=ex
 fn:=λ_=>false
 calm:=X.calm
 pn:=[]
 xe:=λ_ _=>False
structure mG (X:Cx) (scope:Scope):Prop where
 kind:scope.kind=.function
 nocell:∀ x ∈ scope.names,x.2 ≠ .cell
 names:∀ x ∈ scope.names,x.2=.local->scope.names.lookup x.1=some .local
 free:∀ x ∈ scope.names,x.2=.free->X.env.kindOf x.1=some .cell\/X.env.kindOf x.1=some .free
theorem jL {X:Cx} {scope:Scope} (h:lX X.env.scope scope=true):mG X scope:=by
 unfold lX at h
 simp only [Bool.and_eq_true,beq_iff_eq,all_eq_true,Bool.or_eq_true,bne_iff_ne] at h
 obtain ⟨⟨h1,_⟩,h2⟩:=h
 refine ⟨h1,λx hx=>(h2 x hx).1.1,λx hx e=>?_,λx hx e=>?_⟩
 ·rcases (h2 x hx).1.2 with z | z
  ·exact absurd e z
  ·exact z
 ·rcases (h2 x hx).2 with z | z
  ·exact absurd e z
  ·exact z
theorem mG.cells {X:Cx} {scope:Scope} (f:mG X scope) (ok:X.Ok):∀ x ∈ scope.names,x.2=.free->∃ c,X.env.cells.lookup x.1=some c:=λx hx e=>ok.has x.1 (f.free x hx e)
theorem mG.cl {X:Cx} {scope:Scope} (f:mG X scope) (ok:X.Ok) {n:Str} {c:Addr} (h:(cI X.env scope.names []).lookup n=some c):X.env.cells.lookup n=some c:=by
 rcases cls_in _ _ _ _ (f.cells ok) h with z | z
 ·exact z
 ·cases z
theorem mG.kf {X:Cx} {scope:Scope} (f:mG X scope) {x:Str} (h:(relabel scope X.env).names.lookup x=some .cell\/(relabel scope X.env).names.lookup x=some .free):scope.names.lookup x=some .free:=by
 unfold relabel at h
 simp only at h
 rw [cM] at h
 cases e:scope.names.lookup x with
 | none=>rw [e] at h; rcases h with z | z<;>cases z
 | some k=>
  rw [e] at h
  simp only [Option.map_some,Option.some.injEq] at h
  cases k with
  | free=>rfl
  | cell=>exact absurd rfl (f.nocell _ (PySem.mem_of_lookup e))
  | _=>simp at h
theorem mG.fk {X:Cx} {scope:Scope} {x:Str} (h:scope.names.lookup x=some .free):(relabel scope X.env).names.lookup x=some .cell\/(relabel scope X.env).names.lookup x=some .free:=by
 unfold relabel
 simp only
 rw [cM,h]
 simp only [Option.map_some,Option.some.injEq]
 split
 ·exact .inl rfl
 ·exact .inr rfl
theorem srcOk_ix {XN N:List Str} {src:List (Option Nat)} {scope:Scope} (h:jP XN N src scope=true):src.length=N.length/\∀ (i:Nat) (x:Str) (j:Nat),N[i]? = some x->src[i]? = some (some j)->XN[j]? = some x/\scope.names.lookup x=some .free:=by
 unfold jP at h
 simp only [Bool.and_eq_true,beq_iff_eq,all_eq_true] at h
 refine ⟨h.1,λi x j h1 h2=>?_⟩
 have hi:i<N.length:=(List.getElem?_eq_some_iff.mp h1).1
 have q:=h.2 i (List.mem_range.mpr hi)
 rw [h2,h1] at q
 simp only [Option.join_some,Bool.and_eq_true,beq_iff_eq,Option.any_some] at q
 exact ⟨q.1.symm,q.2⟩
section
variable {X:Cx} {pins:List (Addr × Obj)} {σ:St} {H:Hp} {s:Shared}
theorem comp_start {N:List Str} {src:List (Option Nat)} {scope:Scope} {ex:List Addr} {h1:Heap} {m:Str->Option Value} {tk:Nat} (I:Inv X pins σ H s) (f:mG X scope) (hsrc:jP X.N N src scope=true)
  (hex:∀ b ∈ ex,b<s.heap.objs.size/\b ≠ X.env.locals/\b ∉ X.fs/\(∀ x c,X.env.cells.lookup x=some c->c ≠ b)/\∀ o,X.base.get? b ≠ some o)
  (hn:h1.Ns s.heap.objs.size m) (hk:∀ b o,s.heap.get? b=some o->h1.get? b=some o) :
  Inv (cxC X N scope s H ex) [] (dR src σ) H { s with heap:=h1,toks:=tk }:=by
 obtain ⟨hlen,hix⟩:=srcOk_ix hsrc
 have ok:=I.ok
 have cellL:∀ x c,(cI X.env scope.names []).lookup x=some c->∃ v,s.heap.IsCell c v:=λx c e=>I.cell x c (f.cl ok e)
 have cellLt:∀ x c,(cI X.env scope.names []).lookup x=some c->c<s.heap.objs.size:=λx c e=>by
  obtain ⟨v,o,ho,_⟩:=cellL x c e
  exact lt_size ho
 have fsL:∀ b ∈ frs X.stack,b ∈ X.env.locals::X.fs:=I.stkSub
 refine ⟨⟨ok.mod,f.kind,ok.glob,ok.blt,Nat.le_refl _,λx y c h1 h2=>ok.inj x y c (f.cl ok h1) (f.cl ok h2),λx hx=>?_,λx c hx=>?_,ok.hd,ok.frames,.inl rfl,λb hb=>⟨Nat.ne_of_lt (hex b hb).1,λx c e=>(hex b hb).2.2.2.1 x c (f.cl ok e)⟩,I.bs,Nat.le_trans ok.bsz I.sz,λb o e hb=>(hex b hb).2.2.2.2 o e,λb hb hb'=>?_,I.stack,I.stkFree⟩,
  rfl,I.bare,Un.kept hk,⟨m,hn,λi x v e1 e2 e3=>?_⟩,λx c e=>?_,I.hok.fresh (Nat.le_refl _),λx c e=>I.freeC x c (f.cl ok e),λp hp=>absurd (show p ∈ ([]:List (Addr × Obj)) from hp) (by simp),I.hok.kept hk,?_⟩
 ·exact lW _ _ _ (PySem.mem_of_lookup (f.kf hx))
 ·cases hx
 ·rcases List.mem_cons.mp (fsL b hb') with z | z
  ·exact (hex b hb).2.1 z
  ·exact (hex b hb).2.2.1 z
 ·have e2':(dR src σ)[i]? = some (some v):=e2
  unfold dR at e2'
  rw [getElem?_map] at e2'
  cases hs:src[i]? with
  | none=>rw [hs] at e2'; cases e2'
  | some o=>
   rw [hs] at e2'
   cases o with
   | none=>cases e2'
   | some j=>
    obtain ⟨q1,q2⟩:=hix i x j e1 hs
    have e4:σ[j]? = some (some v):=by
     simp only [Option.map_some,Option.bind_some,Option.some.injEq] at e2'
     cases z:σ[j]? with
     | none=>rw [z] at e2'; cases e2'
     | some o=>rw [z] at e2'; simp only [Option.join_some] at e2'; rw [e2']
    have kx:=f.free (x,.free) (PySem.mem_of_lookup q2) rfl
    obtain ⟨mX,hnX,hl⟩:=I.loc
    obtain ⟨u,r,l⟩:=hl j x v q1 e4 (by rcases kx with z | z; exact .inr (.inl z); exact .inr (.inr z))
    refine ⟨u,r,.inr ⟨mG.fk (X:=X) q2,?_⟩⟩
    rcases l with ⟨l,_⟩ | ⟨_,c,ec,ic⟩
    ·rcases kx with z | z
     ·rw [z] at l; cases l
     ·rw [z] at l; cases l
    ·obtain ⟨c',hc'⟩:=lW (env:=X.env) scope.names [] x (PySem.mem_of_lookup q2)
     have z:=f.cl ok hc'
     rw [ec] at z
     cases z
     obtain ⟨oc,ho,hd⟩:=ic
     exact ⟨c,hc',oc,hk c oc ho,hd⟩
 ·obtain ⟨v,o,ho,hd⟩:=cellL x c e
  exact ⟨v,o,hk c o ho,hd⟩
 ·show (dR src σ).length=N.length
  unfold dR
  rw [length_map]
  exact hlen
def PIf (X:Cx) (ifs:List Expr) (t:TT):Prop:=
 ∀ (pins:List (Addr × Obj)) (s:Shared) (σ:St) (H:Hp) (Q:Bool->Hp->Prop),Inv X pins σ H s->t σ H Q->
  wpAny (model X.prog X.w) X.A (forIn ifs true λc r=>if r=true then do let ok <- isTrue c X.env (eval c X.env); pure (ForInStep.yield ok) else pure (ForInStep.yield r)) (TP X pins σ Q) X.xe s
def tYes:TT:=λ_ H Q=>Q true H
theorem di:PIf X [] tYes:=λpins s σ H Q I h=>wpAny_pure ⟨H,I,h⟩
theorem lc {c:Expr} {t:TT} (hc:PT X c t):PIf X [c] t:=by
 intro pins s σ H Q I h
 rw [forIn_cons]
 simp only [if_true]
 refine wpAny_bind (wpAny_bind (thn (hc pins s σ H Q I h) λb s1 q=>wpAny_pure ?_))
 exact wpAny_pure q
def ft (J:It) (src:List (Option Nat)) (g:TG) (tt:TT) (te:TE) (σ:St) (H1:Hp) (Q:VK):Prop:=∀ acc,H1 acc=none->
 ∃ W:Nat->Nat->St->Hp->Prop,(∃ m,W 0 m (dR src σ) (upd H1 acc (.lst [])))/\∀ i m σ H,W i m σ H->
  (J.stop i H/\Q (.ref acc) H)\/(J.go i H/\∃ N:St->Hp->Prop,(∀ σ' H',N σ' H'->∃ m',m' < m/\W (i+1) m' σ' H')/\∀ x H',J.yld i H x H'->g x σ H' λσ2 H2=>tt σ2 H2 λb H3=>
   if b=true then te σ2 H3 λy H4=>∃ ys,H4 acc=some (.lst ys)/\ys.length<sizeLine/\N σ2 (upd H4 acc (.lst (ys++[y]))) else N σ2 H3)
def tComp (src:List (Option Nat)) (wi:TI) (g:TG) (tt:TT) (te:TE):TE:=λσ H Q=>wi σ H λJ H1=>ft J src g tt te σ H1 Q
theorem comp_run {elt tg iter:Expr} {ifs:List Expr} {scope:Scope} {pos:Pos} {N:List Str} {src:List (Option Nat)} {g:TG} {tt:TT} {te:TE} (use:Option (Value->Sem Unit)) (PQ:Value->Shared->Prop) (E:Value->Shared->Prop)
  (hcalm:X.calm=true) (f:mG X scope) (hsrc:jP X.N N src scope=true)
  (hb:∀ (s:Shared) (H:Hp) (ex:List Addr),PG (cxC X N scope s H ex) tg g/\PIf (cxC X N scope s H ex) ifs tt/\PE (cxC X N scope s H ex) elt te)
  {it:Addr} {fp:List Addr} {tn:Nat->Heap->Prop} {J:It} (I:Inv X pins σ H s) (T:Turn X.prog X.w X.K tg J fp it tn) (st:tn 0 s.heap) (hf:∀ b ∈ fp,fF X pins H b) {Q:VK}
  (h:ft J src g tt te σ H Q)
  (hfin:∀ (acc C:Addr) (s':Shared) (H':Hp) (m:Str->Option Value),s'.heap.Ns C m->fF X pins H' C->(∀ h',Heap.SameBut C s'.heap h'->Inv X pins σ H' { s' with heap:=h' })->Q (.ref acc) H'->compPost (model X.prog X.w) X.A E use PQ (.ref acc) C (.ok .next) s') :
  wpAny (model X.prog X.w) X.A (newList []) (λacc s₃=>
   wpAny (model X.prog X.w) X.A (newFunctionEnv scope X.env.globals (cI X.env scope.names []) [] X.env.qual none .none (some X.env)) (λcenv s₄=>
    codeAny (model X.prog X.w) X.A (.compStart (.ListComp elt [⟨tg,iter,ifs,0⟩] scope pos) 0 (.ref it) acc { cenv with scope:=relabel scope X.env }) (compPost (model X.prog X.w) X.A E use PQ acc cenv.locals) s₄) E s₃) E s:=by
 have ok:=I.ok
 have I3:Inv X pins σ (upd H s.heap.objs.size (.lst [])) { s with heap:=s.heap.push { cls:=.type "list",data:=.seq ([]:List Value).toArray },toks:=s.toks }:=I.lnew (ys:=[]) (its:=[]) .nil (Nat.zero_le _)
 obtain ⟨W,⟨m0,w0⟩,turn⟩:=h s.heap.objs.size (I.hok.fresh (Nat.le_refl _))
 refine wpAny_newObj_type (wpAny_newFunctionEnv f.nocell (by intro y hy; simp at hy) (λh₁ hns₁ hsb₁=>?_) f.kind)
 dsimp only at hns₁ hsb₁ ⊢
 generalize hs3:({ s with heap:=s.heap.push { cls:=.type "list",data:=.seq ([]:List Value).toArray },toks:=s.toks }:Shared)=s3 at I3
 have e3:s3.heap=s.heap.push { cls:=.type "list",data:=.seq ([]:List Value).toArray }:=by rw [<- hs3]
 have hk:∀ b o,s3.heap.get? b=some o->h₁.get? b=some o:=λb o e=>by
  rw [e3] at e
  exact hsb₁.extBut b o (Nat.ne_of_lt (lt_size e)) (get?_push_of_some _ e)
 have up3:∀ b o,s.heap.get? b=some o->s3.heap.get? b=some o:=λb o e=>by rw [e3]; exact get?_push_of_some _ e
 have nacc:∀ b ∈ fp,b ≠ s.heap.objs.size:=λb hb z=>by
  obtain ⟨o,e,_⟩:=T.obj 0 _ st b hb
  exact absurd (lt_size e) (by rw [z]; exact Nat.lt_irrefl _)
 have hex:∀ b ∈ fp,b<s3.heap.objs.size/\b ≠ X.env.locals/\b ∉ X.fs/\(∀ x c,X.env.cells.lookup x=some c->c ≠ b)/\∀ o,X.base.get? b ≠ some o:=λb hb=>by
  obtain ⟨o,e,_⟩:=T.obj 0 _ st b hb
  obtain ⟨f0,f1,f2,f3,f4,f5⟩:=hf b hb
  refine ⟨lt_size (up3 b o e),f1,f2,f4,λo' z=>?_⟩
  rcases f3 with q | q
  ·exact ok.noex b o' z q
  ·exact absurd (Nat.lt_of_lt_of_le (lt_size (ok.bs b o' z).1) q) (Nat.lt_irrefl _)
 have hns₁':h₁.Ns s3.heap.objs.size (λx=>([]:List (Str × Value)).reverse.lookup x):=by rw [e3]; exact hns₁
 have IY0:Inv (cxC X N scope s3 (upd H s.heap.objs.size (.lst [])) fp) [] (dR src σ) (upd H s.heap.objs.size (.lst [])) { s3 with heap:=h₁,toks:=s.toks+([]:List (Str × Value)).length }:=
  comp_start (tk:=s.toks+([]:List (Str × Value)).length) I3 f hsrc hex hns₁' hk
 generalize hY:cxC X N scope s3 (upd H s.heap.objs.size (.lst [])) fp=Y at IY0
 have hb':PG Y tg g/\PIf Y ifs tt/\PE Y elt te:=by rw [<- hY]; exact hb s3 _ fp
 obtain ⟨hg,ht,he⟩:=hb'
 have Yp:Y.prog=X.prog:=by rw [<- hY]; rfl
 have Yw:Y.w=X.w:=by rw [<- hY]; rfl
 have YK:Y.K=X.K:=by rw [<- hY]; rfl
 have YA:Y.A=X.A:=by rw [<- hY]; rfl
 have Yc:Y.calm=true:=by rw [<- hY]; exact hcalm
 have Yx:Y.xe=λ_ _=>False:=by rw [<- hY]; rfl
 have Ye:Y.env=compEnvC scope (cI X.env scope.names []) s3.heap.objs.size X.env:=by rw [<- hY]; rfl
 have Ys:Y.s₀=s3:=by rw [<- hY]; rfl
 have YH:Y.H₀=upd H s.heap.objs.size (.lst []):=by rw [<- hY]; rfl
 have Yf:Y.fs=frs X.stack:=by rw [<- hY]; rfl
 have Yex:Y.ex=fp:=by rw [<- hY]; rfl
 have Ypn:Y.pn=[]:=by rw [<- hY]; rfl
 have stat:∀ {H':Hp},(∀ b ∈ fp,H' b=none)->∀ b ∈ fp,fF Y [] H' b:=λ{H'} hn b hb=>by
  obtain ⟨x1,x2,x3,x4,x5⟩:=hex b hb
  refine ⟨hn b hb,?_,?_,.inl (by rw [Yex]; exact hb),?_,λp hp=>?_⟩
  ·rw [Ye]; exact Nat.ne_of_lt x1
  ·rw [Yf]
   intro z
   rcases List.mem_cons.mp (I.stkSub b z) with q | q
   ·exact x2 q
   ·exact x3 q
  ·rw [Ye]
   intro x c e
   exact x4 x c (f.cl ok e)
  ·rw [Ypn] at hp
   exact absurd hp (by simp)
 have loop:∀ s4:Shared,s4=({ s3 with heap:=h₁,toks:=s.toks+([]:List (Str × Value)).length }:Shared)->
   codeAny (model X.prog X.w) X.A (.compLoop (.ListComp elt [⟨tg,iter,ifs,0⟩] scope pos) 0 (.ref it) (.ref s.heap.objs.size) (compEnvC scope (cI X.env scope.names []) s3.heap.objs.size X.env))
    (compPost (model X.prog X.w) X.A E use PQ (.ref s.heap.objs.size) s3.heap.objs.size) s4:=by
  rintro s4 rfl
  refine lV (λn s'=>∃ i σ' H',Inv Y [] σ' H' s'/\tn i s'.heap/\(∀ b ∈ fp,H' b=none)/\W i n σ' H') ?_ m0
   ⟨0,dR src σ,_,IY0,T.keep 0 _ _ st λb hb o e=>hk b o (up3 b o e),λb hb=>by rw [am (nacc b hb)]; exact (hf b hb).1,w0⟩
  rintro n s5 ⟨i,σ5,H5,I5,st5,fr5,w5⟩
  rcases turn i n σ5 H5 w5 with ⟨stop,qn⟩ | ⟨go,Nn,hNn,step⟩
  ·have q:=T.done Y Yp Yw YK Yc i [] s5 σ5 H5 (λ_ _=>False) I5 (stat fr5) st5 stop
   rw [YA] at q
   refine thn q λr s6 ⟨hr,I6⟩=>?_
   subst hr
   obtain ⟨m6,hn6,_⟩:=id I6.loc
   have eL:Y.env.locals=s3.heap.objs.size:=by rw [Ye]; rfl
   rw [eL] at hn6
   refine hfin s.heap.objs.size s3.heap.objs.size s6 H5 m6 hn6 (I3.fpOk (Nat.le_refl _) (by have z:=I6.free; rw [eL] at z; exact z)) (λh' sb=>?_) qn
   ·have b6:=I6.base
    rw [Ys,YH,Yf,Yex] at b6
    have ne:∀ b o,s3.heap.get? b=some o->b ≠ s3.heap.objs.size:=λb o e=>Nat.ne_of_lt (lt_size e)
    have u6:Un (frs X.stack) fp (upd H s.heap.objs.size (.lst [])) H5 s3.heap h':=
     ⟨λb o e n hb hx=>(sb.2 b (ne b o e)).trans (b6.keep b o e n hb hx),λb o e n hb hx=>by
       obtain ⟨sl,z⟩:=b6.slot b o e n hb hx
       exact ⟨sl,(sb.2 b (ne b o e)).trans z⟩,b6.free,λb o e hx=>by
       obtain ⟨o',z⟩:=b6.there b o e hx
       exact ⟨o',(sb.2 b (ne b o e)).trans z⟩,b6.tups,b6.frzs,b6.tbls⟩
    have fL:H5 s3.heap.objs.size=none:=by
     have z:=I6.free
     rw [eL] at z
     exact z
    have hok6:HOk X.prog X.w H5 h':=by
     have z:=I6.hok
     rw [Yp,Yw] at z
     intro b ob e
     refine (z b ob e).stay (λc w' hc q=>(sb.2 c ?_).trans q) (λ_ q=>q) λ_ _ q=>q
     rintro rfl
     rcases hc with rfl | hc
     ·rw [fL] at e; cases e
     ·rw [fL] at hc; cases hc
    have os6:s6.os=s3.os:=by
     have z:=I6.os
     rw [Ys] at z
     exact z
    refine Inv.call' (s':={ s6 with heap:=h' }) I3 os6 u6 hok6 I6.bare λb hb=>?_
    obtain ⟨f0,f1,f2,f3,f4,f5⟩:=hf b hb
    exact ⟨f3,f1,f4,f5⟩
  ·have q:=T.item Y Yp Yw YK Yc i [] s5 σ5 H5 (λ_ _=>False) I5 (stat fr5) st5 go
   rw [YA] at q
   refine thn q λr s6 ⟨u,hr,h6⟩=>?_
   subst hr
   refine thn h6 λ_ s7 ⟨x,H7,I7,r7,y7,st7,fr7⟩=>?_
   have I7':=I7.pinned (stat fr7) (T.obj _ _ st7)
   have back:∀ {σ9:St} {H9:Hp} {s9:Shared},Inv Y ([]++iY fp s7.heap) σ9 H9 s9->tn (i+1) s9.heap/\∀ b ∈ fp,H9 b=none:=λ{σ9 H9 s9} I9=>
    ⟨T.keep _ _ _ st7 λb hb o e=>(I9.pin (b,o) (mem_append_right _ (mem_append_right _ (du hb e)))).1,λb hb=>by
     obtain ⟨o,e,d⟩:=T.obj _ _ st7 b hb
     exact (I9.pin (b,o) (mem_append_right _ (mem_append_right _ (du hb e)))).2.1⟩
   have g1:=hg _ s7 σ5 H7 x u _ I7' r7 (step x H7 y7)
   rw [YA,Yx,Yp,Yw,Ye] at g1
   refine thn g1 λ_ s8 ⟨σ8,H8,I8,q8⟩=>?_
   have g2:=ht _ s8 σ8 H8 _ I8 q8
   rw [YA,Yx,Yp,Yw,Ye] at g2
   refine thn g2 λb s9 ⟨H9,I9,q9⟩=>?_
   cases b with
   | false=>
    simp only [Bool.false_eq_true,if_false] at q9 ⊢
    obtain ⟨m',hm,w9⟩:=hNn _ _ q9
    exact ⟨m',hm,i+1,σ8,H9,I9.unpinned,(back I9).1,(back I9).2,w9⟩
   | true=>
    simp only [if_true] at q9 ⊢
    have g3:=he _ s9 σ8 H9 _ I9 q9
    rw [YA,Yx,Yp,Yw,Ye] at g3
    refine thn g3 λyv s10 ⟨y,H10,I10,r10,ys,hys,hz,n10⟩=>?_
    obtain ⟨m',hm,w10⟩:=hNn _ _ n10
    have g4:=jK (X:=Y) _ s10 σ8 H10 (.ref s.heap.objs.size) [y] (.ref s.heap.objs.size) [yv] (λ_ H11=>H11=upd H10 s.heap.objs.size (.lst (ys++[y]))) I10 rfl (.cons r10 .nil) ⟨_,ys,y,rfl,rfl,hys,hz,rfl⟩
    rw [YA,Yx,Yp,Yw] at g4
    refine thn g4 λ_ s11 ⟨_,H11,I11,_,e11⟩=>?_
    subst e11
    exact ⟨m',hm,i+1,σ8,_,I11.unpinned,(back I11).1,(back I11).2,w10⟩
 have q:=loop _ rfl
 have eqs:({ s3 with heap:=h₁,toks:=s.toks+([]:List (Str × Value)).length }:Shared)={ s with heap:=h₁,toks:=s.toks+([]:List (Str × Value)).length }:=by rw [<- hs3]
 rw [eqs] at q
 rw [e3] at q
 have stn:tn 0 h₁:=T.keep 0 _ _ st λb hb o e=>hk b o (up3 b o e)
 exact codeAny_compStart_list q (T.self X.A 0 _ _ _ stn q)
theorem fj {elt tg iter:Expr} {ifs:List Expr} {scope:Scope} {pos:Pos} {N:List Str} {src:List (Option Nat)} {wi:TI} {g:TG} {tt:TT} {te:TE}
  (hcalm:X.calm=true) (hsc:lX X.env.scope scope=true) (hsrc:jP X.N N src scope=true) (hi:PI X tg iter wi)
  (hb:∀ (s:Shared) (H:Hp) (ex:List Addr),PG (cxC X N scope s H ex) tg g/\PIf (cxC X N scope s H ex) ifs tt/\PE (cxC X N scope s H ex) elt te)
  (hs:∀ x,foldedSetIterable iter X.env x=pure x:=by intro _; rfl) :
  PE X (.ListComp elt [⟨tg,iter,ifs,0⟩] scope pos) (tComp src wi g tt te):=by
 intro pins s σ H Q I h
 have f:=jL hsc
 rw [eval_ListComp]
 refine wpAny_comprehension_free (use:=none) rfl hs (iJ (f.cells I.ok)) f.kind f.names (thn (hi pins s σ H _ I h) λv s1 h1=>thn h1 λitv s2 h2=>?_)
 obtain ⟨it,fp,tn,J,H2,rfl,I2,T,st2,f2,q2⟩:=h2
 refine comp_run (N:=N) (src:=src) none (EP X pins σ Q) X.xe hcalm f hsrc hb I2 T st2 f2 q2 ?_
 intro acc C s' H' m hn _ hI hq
 exact ⟨m,hn,λh' sb=>⟨.ref acc,H',hI h' sb,rfl,hq⟩⟩
theorem im {i:Nat} {y:Str} {py spos:Pos} {elt tg iter:Expr} {ifs:List Expr} {scope:Scope} {pos:Pos} {N:List Str} {src:List (Option Nat)} {wi:TI} {g:TG} {tt:TT} {te:TE}
  (hN:X.N.Nodup) (hix:X.N[i]? = some y) (hx:Loc X.env.scope y)
  (hcalm:X.calm=true) (hsc:lX X.env.scope scope=true) (hsrc:jP X.N N src scope=true) (hi:PI X tg iter wi)
  (hb:∀ (s:Shared) (H:Hp) (ex:List Addr),PG (cxC X N scope s H ex) tg g/\PIf (cxC X N scope s H ex) ifs tt/\PE (cxC X N scope s H ex) elt te)
  (hs:∀ x,foldedSetIterable iter X.env x=pure x:=by intro _; rfl)
  (hsw:swapsWith (.ListComp elt [⟨tg,iter,ifs,0⟩] scope pos) (some (.Name y py)) spos.line X.env=pure true:=by rfl)
  (hf:X.fn y=true\/X.env.scope.names.lookup y=some .local:=by first | exact .inl rfl | exact .inr rfl | assumption) :
  PS X (.Assign [.Name y py] (.ListComp elt [⟨tg,iter,ifs,0⟩] scope pos) spos) (tAsg (tComp src wi g tt te) (dO i)):=by
 intro pins s σ H D I h
 have f:=jL hsc
 rw [exec_Assign_Name_used _ _ _ _ hsw]
 refine wpAny_bind (wpAny_standAt (wpAny_bind ?_))
 show wpAny _ X.A (do let _ <- comprehension (.ListComp elt [⟨tg,iter,ifs,0⟩] scope pos) scope X.env _ (newList []) false (eval iter X.env) (some (assign (.Name y py) X.env))) _ _ s
 refine wpAny_bind (wpAny_mono (wpAny_comprehension_free (use:=some (assign (.Name y py) X.env)) (Q:=λ_ s'=>SP X pins D .next s') rfl hs (iJ (f.cells I.ok)) f.kind f.names
  (thn (hi pins s σ H _ I h) λv s1 h1=>thn h1 λitv s2 h2=>?_)) (λ_ s' hq=>wpAny_pure (wpAny_pure hq)) λ_ _ e=>e)
 obtain ⟨it,fp,tn,J,H2,rfl,I2,T,st2,f2,q2⟩:=h2
 refine comp_run (N:=N) (src:=src) (some (assign (.Name y py) X.env)) (λ_ s'=>SP X pins D .next s') X.xe hcalm f hsrc hb I2 T st2 f2 (Q:=λx H1=>dO i x σ H1 D.nx) q2 ?_
 intro acc C s' H' m hn fpC hI hq
 obtain ⟨c0,c1,c2,c3,c4,c5⟩:=fpC
 have I':Inv X pins σ H' s':=hI s'.heap (Heap.SameBut.refl ..)
 show wpAny _ X.A (assign (.Name y py) X.env (.ref acc)) _ _ _
 refine wpAny_assign_Name (kA (v:=.ref acc) I' hN hix hx rfl (λs2 J2 ⟨a,sb,ha⟩=>?_) hf)
 have hCa:C ≠ a:=by
  rcases ha with rfl | ha
  ·exact c1
  ·exact λz=>c4 y a ha z.symm
 refine ⟨m,hn.sameBut sb hCa,λh' sb'=>?_⟩
 exact ⟨_,H',J2.turned (t':=s2.toks) (λb o hb e=>(sb'.2 b hb).trans e) c0 c1 c3 c4 c5,hq⟩
end
def SqI (t:Bool) (h:Heap) (it l:Addr) (i:Nat):Prop:=if t=true then h.IsTupleIter it l i else h.IsListIter it l i
def SqO (t:Bool) (h:Heap) (l:Addr) (xs:Array Value):Prop:=if t=true then h.IsTuple l xs else h.IsList l xs
def SqV (t:Bool) (K:Frag) (H:Hp) (a:Addr) (xs:List V):Prop:=if t=true then SqT K H a xs else SqL K H a xs
theorem SqI.at {t:Bool} {h h':Heap} {it l:Addr} {i:Nat} (x:SqI t h it l i) (k:∀ o,h.get? it=some o->h'.get? it=some o):SqI t h' it l i:=by
 cases t
 ·exact Heap.IsListIter.at x k
 ·obtain ⟨o,ho,r⟩:=(show h.IsTupleIter it l i from x)
  exact (show h'.IsTupleIter it l i from ⟨o,k o ho,r⟩)
theorem SqI.obj {t:Bool} {h:Heap} {it l:Addr} {i:Nat} (x:SqI t h it l i):∃ o,h.get? it=some o/\∀ v,o.data ≠ .cell v:=by
 cases t
 ·obtain ⟨o,ho,_,d⟩:=(show h.IsListIter it l i from x)
  exact ⟨o,ho,λv z=>by rw [d] at z; cases z⟩
 ·obtain ⟨o,ho,_,d⟩:=(show h.IsTupleIter it l i from x)
  exact ⟨o,ho,λv z=>by rw [d] at z; cases z⟩
theorem SqO.at {t:Bool} {h h':Heap} {l:Addr} {xs:Array Value} (x:SqO t h l xs) (k:∀ o,h.get? l=some o->h'.get? l=some o):SqO t h' l xs:=by
 cases t
 ·obtain ⟨o,ho,r⟩:=(show h.IsList l xs from x)
  exact (show h'.IsList l xs from ⟨o,k o ho,r⟩)
 ·obtain ⟨o,ho,r⟩:=(show h.IsTuple l xs from x)
  exact (show h'.IsTuple l xs from ⟨o,k o ho,r⟩)
theorem SqO.obj {t:Bool} {h:Heap} {l:Addr} {xs:Array Value} (x:SqO t h l xs):∃ o,h.get? l=some o:=by
 cases t
 ·obtain ⟨o,ho,r⟩:=(show h.IsList l xs from x)
  exact ⟨o,ho⟩
 ·obtain ⟨o,ho,r⟩:=(show h.IsTuple l xs from x)
  exact ⟨o,ho⟩
theorem Inv.seqV {X:Cx} {pins:List (Addr × Obj)} {σ:St} {H:Hp} {s:Shared} {t:Bool} {a:Addr} {xs:List V} (I:Inv X pins σ H s) (h:SqV t X.K H a xs):∃ its:List Value,l9 xs its/\SqO t s.heap a its.toArray/\xs.length<=sizeLine:=by
 cases t
 ·obtain ⟨its,r,p,z⟩:=I.list (show SqL X.K H a xs from h)
  exact ⟨its,r,p.isList,z⟩
 ·obtain ⟨its,r,p,z⟩:=I.tuple (show SqT X.K H a xs from h)
  exact ⟨its,r,p,z⟩
theorem Inv.seqV_inj {X:Cx} {pins:List (Addr × Obj)} {σ:St} {H:Hp} {s:Shared} {t:Bool} {a:Addr} {xs ys:List V} (I:Inv X pins σ H s) (h:SqV t X.K H a xs) (h':SqV t X.K H a ys):xs=ys:=by
 cases t
 ·exact I.list_inj h h'
 ·exact I.tuple_inj h h'
section
variable {prog:Program} {w:World} {A:Around} {E:Value->Shared->Prop} {s:Shared}
theorem fZ {it l:Addr} {i:Nat} {items:Array Value} {x:Value} {Q:Value->Shared->Prop} (hit:s.heap.IsTupleIter it l i)
  (hl:s.heap.IsTuple l items) (hx:items[i]? = some x)
  (hQ:∀ h',h'.IsTupleIter it l (i+1)->Heap.SameBut it s.heap h'->Q x { s with heap:=h' }) :
  wpAny (model prog w) A (Builtin.SmallTypes.nextOf (.ref it)) Q E s:=by
 obtain ⟨o,ho,hc,hd⟩:=id hit
 obtain ⟨ol,hol,_,nl,hdl⟩:=hl
 unfold Builtin.SmallTypes.nextOf
 refine wpAny_bind (wpAny_callSpecial?_slot (name:=Str.ofString "__next__") hit.typeIs F.slot_tuple_iterator_next
  (wpAny_call_entry F.slot_tuple_iterator_next hit.typeIs F.entry_tuple_iterator_next ?_ (F.args_tuple_iterator_next_1 _)))
 show wpAny _ _ (field (.ref it) 0 >>= _) _ _ s
 refine wpAny_bind (wpAny_field ho hd (x:=.ref l) rfl ?_)
 show wpAny _ _ (if (Value.ref l == Value.none)=true then _ else _) _ _ s
 rw [if_neg (show ¬ ((Value.ref l == Value.none)=true) from Bool.false_ne_true)]
 show wpAny _ _ (field (.ref it) 1 >>= _) _ _ s
 refine wpAny_bind (wpAny_field ho hd (x:=.int i 0) rfl ?_)
 show wpAny _ _ (seqItems? (.ref l) >>= _) _ _ s
 refine wpAny_bind (wpAny_seqItems hol hdl ?_)
 simp only [Int.toNat_natCast,hx]
 refine wpAny_bind (wpAny_setField ho hd (by simp) (wpAny_pure ⟨x,rfl,wpAny_pure (hQ _ ?_ (Heap.SameBut.update ..))⟩))
 exact ⟨_,get?_update_self _ ho (Obj.isFreed_of_fields (Obj.data_mapFields hd _)),(Obj.cls_mapFields ..).trans hc,by
  rw [Obj.data_mapFields hd]; simp [rawInt]⟩
theorem gK {it l:Addr} {i:Nat} {items:Array Value} {Q:Value->Shared->Prop} (hh:A.handled=none)
  (hit:s.heap.IsTupleIter it l i) (hl:s.heap.IsTuple l items) (hx:items[i]? = none)
  (hE:∀ h' e,Heap.ExtBut it s.heap h'->(∃ o,h'.get? e=some o/\o.cls=.type "StopIteration")->E (.ref e) { s with heap:=h' }) :
  wpAny (model prog w) A (Builtin.SmallTypes.nextOf (.ref it)) Q E s:=by
 obtain ⟨o,ho,hc,hd⟩:=id hit
 obtain ⟨ol,hol,_,nl,hdl⟩:=hl
 unfold Builtin.SmallTypes.nextOf
 refine wpAny_bind (wpAny_callSpecial?_slot (name:=Str.ofString "__next__") hit.typeIs F.slot_tuple_iterator_next
  (wpAny_call_entry F.slot_tuple_iterator_next hit.typeIs F.entry_tuple_iterator_next ?_ (F.args_tuple_iterator_next_1 _)))
 show wpAny _ _ (field (.ref it) 0 >>= _) _ _ s
 refine wpAny_bind (wpAny_field ho hd (x:=.ref l) rfl ?_)
 show wpAny _ _ (if (Value.ref l == Value.none)=true then _ else _) _ _ s
 rw [if_neg (show ¬ ((Value.ref l == Value.none)=true) from Bool.false_ne_true)]
 show wpAny _ _ (field (.ref it) 1 >>= _) _ _ s
 refine wpAny_bind (wpAny_field ho hd (x:=.int i 0) rfl ?_)
 show wpAny _ _ (seqItems? (.ref l) >>= _) _ _ s
 refine wpAny_bind (wpAny_seqItems hol hdl ?_)
 simp only [Int.toNat_natCast,hx]
 refine wpAny_bind (wpAny_rule (wpAny_bind (wpAny_setField ho hd (by simp) ?_)))
 show wpAny _ _ (newExc (.type "StopIteration") [] >>= _) _ _ _
 refine wpAny_bind ?_
 simp only [newExc,newTuple]
 refine wpAny_bind (wpAny_newObj_type ?_ (by size_fits))
 refine wpAny_bind (m:=firstArgMember _ _) (wpAny_of_eq (a:=Value.none) (by first | rfl | (simp only [firstArgMember]; rfl)) ?_)
 refine wpAny_newObj_type ?_ (by size_fits)
 simp only [raiseNew]
 refine wpAny_bind (wpAny_handled ?_)
 first | rw [show A.in1.handled=none from hh] | rw [hh]
 refine wpAny_bind (wpAny_pure (wpAny_throw ?_))
 exact hE _ _ (((Heap.SameBut.update ..).extBut.push _).push _) ⟨_,get?_push_size _ rfl,rfl⟩
theorem ef {t:Bool} {it l:Addr} {i:Nat} {items:Array Value} {x:Value} {Q:Value->Shared->Prop} (hit:SqI t s.heap it l i)
  (hl:SqO t s.heap l items) (hx:items[i]? = some x)
  (hQ:∀ h',SqI t h' it l (i+1)->Heap.SameBut it s.heap h'->Q x { s with heap:=h' }) :
  wpAny (model prog w) A (Builtin.SmallTypes.nextOf (.ref it)) Q E s:=by
 cases t
 ·exact wpAny_nextOf_list_item hit hl hx hQ
 ·exact fZ hit hl hx hQ
theorem iX {t:Bool} {it l:Addr} {i:Nat} {items:Array Value} {Q:Value->Shared->Prop} (hh:A.handled=none)
  (hit:SqI t s.heap it l i) (hl:SqO t s.heap l items) (hx:items[i]? = none)
  (hE:∀ h' e,Heap.ExtBut it s.heap h'->(∃ o,h'.get? e=some o/\o.cls=.type "StopIteration")->E (.ref e) { s with heap:=h' }) :
  wpAny (model prog w) A (Builtin.SmallTypes.nextOf (.ref it)) Q E s:=by
 cases t
 ·exact wpAny_nextOf_list_end hh hit hl hx hE
 ·exact gK hh hit hl hx hE
theorem jS {t:Bool} {l:Addr} {items:Array Value} {Q:Value->Shared->Prop} (hl:SqO t s.heap l items)
  (hQ:∀ o,SqI t (s.heap.push o) s.heap.objs.size l 0->Q (.ref s.heap.objs.size) { s with heap:=s.heap.push o }):wpAny (model prog w) A (pyIter (.ref l)) Q E s:=by
 cases t
 ·exact wpAny_pyIter_list hl (hQ _ (show Heap.IsListIter _ _ _ _ from ⟨_,get?_push_size _ rfl,rfl,rfl⟩))
 ·exact wpAny_pyIter_tuple hl (hQ _ (show Heap.IsTupleIter _ _ _ _ from ⟨_,get?_push_size _ rfl,rfl,rfl⟩))
theorem zipN_item {t1 t2:Bool} {z TI TO i1 i2 l1 l2:Addr} {k1 k2:Nat} {xs ys:Array Value} {x y a b:Value} {Q:Value->Shared->Prop} (D:ZipApart z TI TO i1 i2 l1 l2)
  (hz:IsZip s.heap z TI TO .none) (hTI:IsPair s.heap TI (.ref i1) (.ref i2)) (hTO:IsPair s.heap TO a b)
  (h1:SqI t1 s.heap i1 l1 k1) (h2:SqI t2 s.heap i2 l2 k2) (hl1:SqO t1 s.heap l1 xs) (hl2:SqO t2 s.heap l2 ys) (hx:xs[k1]? = some x) (hy:ys[k2]? = some y)
  (hQ:∀ h',IsZip h' z TI TO (rawInt s.heap.objs.size)->IsPair h' TO x y->SqI t1 h' i1 l1 (k1+1)->SqI t2 h' i2 l2 (k2+1)->IsPair h' s.heap.objs.size x y->h'.objs.size=s.heap.objs.size+1->
   (∀ c o,c ≠ z->c ≠ TO->c ≠ i1->c ≠ i2->s.heap.get? c=some o->h'.get? c=some o)->Q (.ref s.heap.objs.size) { s with heap:=h' }) :
  wpAny (model prog w) A (Builtin.«zip.__next__» ⟨[.ref z],[]⟩) (λfin s'=>∃ v,fin=.done (.ret v)/\Q v s') E s:=by
 show wpAny _ _ (field (.ref z) 2 >>= _) _ _ _
 refine wpAny_bind (wpAny_field hz rfl (x:=.bool false) rfl ?_)
 show wpAny _ _ (field (.ref z) 3 >>= _) _ _ _
 refine wpAny_bind (wpAny_field hz rfl (x:=.ref TI) rfl ?_)
 refine wpAny_bind (wpAny_seqItems hTI rfl ?_)
 show wpAny _ _ (Builtin.SmallTypes.ownedTupleIsFree (.ref z) >>= _) _ _ _
 refine wpAny_bind ?_
 unfold Builtin.SmallTypes.ownedTupleIsFree
 refine wpAny_bind (wpAny_field hz rfl (x:=.none) rfl (wpAny_pure ?_))
 simp only [if_true]
 refine wpAny_bind (wpAny_rule ?_)
 refine wpAny_bind (wpAny_field hz rfl (x:=.ref TO) rfl ?_)
 refine wpAny_bind (wpAny_setField_rec hz (by simp) λh₁ hz₁ hs₁=>?_)
 replace hz₁:IsZip h₁ z TI TO .ellipsis:=hz₁
 refine wpAny_bind ?_
 simp only [zipIdx_cons,List.zipIdx_nil,forIn_cons,forIn_nil]
 refine wpAny_bind (wpAny_bind (wpAny_onRaise ?_))
 show wpAny _ _ (Builtin.SmallTypes.nextOf (.ref i1) >>= _) _ _ _
 refine wpAny_bind (ef (h1.at λo e=>hs₁.extBut _ _ D.i1z e) (hl1.at λo e=>hs₁.extBut _ _ D.l1z e) hx λh₂ h1₂ hs₂=>wpAny_pure ?_)
 have hTO₂:IsPair h₂ TO a b:=hs₂.extBut _ _ D.TOi1 (hs₁.extBut _ _ D.TOz hTO)
 refine wpAny_bind (wpAny_seqItems hTO₂ rfl ?_)
 refine wpAny_bind (wpAny_updateSeq_pair hTO₂ λh₃ hTO₃ hs₃=>?_)
 replace hTO₃:IsPair h₃ TO x b:=hTO₃
 refine wpAny_bind (wpAny_letGo (wpAny_pure ?_))
 refine wpAny_bind (wpAny_bind (wpAny_onRaise ?_))
 show wpAny _ _ (Builtin.SmallTypes.nextOf (.ref i2) >>= _) _ _ _
 refine wpAny_bind (ef (h2.at λo e=>hs₃.extBut _ _ D.TOi2.symm (hs₂.extBut _ _ D.i12.symm (hs₁.extBut _ _ D.i2z e)))
  (hl2.at λo e=>hs₃.extBut _ _ D.l2TO (hs₂.extBut _ _ D.l2i1 (hs₁.extBut _ _ D.l2z e))) hy λh₄ h2₄ hs₄=>wpAny_pure ?_)
 have hTO₄:IsPair h₄ TO x b:=hs₄.extBut _ _ D.TOi2 hTO₃
 refine wpAny_bind (wpAny_seqItems hTO₄ rfl ?_)
 refine wpAny_bind (wpAny_updateSeq_pair hTO₄ λh₅ hTO₅ hs₅=>?_)
 replace hTO₅:IsPair h₅ TO x y:=hTO₅
 refine wpAny_bind (wpAny_letGo (wpAny_pure (wpAny_pure ?_)))
 refine wpAny_bind (wpAny_seqItems hTO₅ rfl ?_)
 refine wpAny_bind (wpAny_newTuple ?_)
 have hsz:h₅.objs.size=s.heap.objs.size:=by rw [hs₅.1,hs₄.1,hs₃.1,hs₂.1,hs₁.1]
 have hz₅:IsZip h₅ z TI TO .ellipsis:=hs₅.extBut _ _ D.TOz.symm (hs₄.extBut _ _ D.i2z.symm (hs₃.extBut _ _ D.TOz.symm (hs₂.extBut _ _ D.i1z.symm hz₁)))
 have hk₅:∀ c o,c ≠ z->c ≠ TO->c ≠ i1->c ≠ i2->s.heap.get? c=some o->h₅.get? c=some o:=λc o c1 c2 c3 c4 e=>
  hs₅.extBut _ _ c2 (hs₄.extBut _ _ c4 (hs₃.extBut _ _ c2 (hs₂.extBut _ _ c3 (hs₁.extBut _ _ c1 e))))
 have h1₅:SqI t1 h₅ i1 l1 (k1+1):=h1₂.at λo e=>hs₅.extBut _ _ D.TOi1.symm (hs₄.extBut _ _ D.i12 (hs₃.extBut _ _ D.TOi1.symm e))
 have h2₅:SqI t2 h₅ i2 l2 (k2+1):=h2₄.at λo e=>hs₅.extBut _ _ D.TOi2.symm e
 have hzlt:z<h₅.objs.size:=lt_size hz₅
 have hTOlt:TO<h₅.objs.size:=lt_size hTO₅
 show wpAny _ _ (Builtin.SmallTypes.ownedTupleHandOut (.ref z) (.ref h₅.objs.size) >>= _) _ _ _
 refine wpAny_bind ?_
 unfold Builtin.SmallTypes.ownedTupleHandOut
 have hz₆:IsZip (h₅.push { cls:=.type "tuple",data:=.seq #[x,y] }) z TI TO .ellipsis:=get?_push_of_some _ hz₅
 refine wpAny_bind (wpAny_setField_rec hz₆ (by simp) λh₇ hz₇ hs₇=>?_)
 replace hz₇:IsZip h₇ z TI TO (rawInt h₅.objs.size):=hz₇
 refine wpAny_setField_rec hz₇ (by simp) λh₈ hz₈ hs₈=>?_
 replace hz₈:IsZip h₈ z TI TO (rawInt h₅.objs.size):=hz₈
 have up:∀ c o,c ≠ z->h₅.get? c=some o->h₈.get? c=some o:=λc o c1 e=>hs₈.extBut _ _ c1 (hs₇.extBut _ _ c1 (get?_push_of_some _ e))
 have hT₈:IsPair h₈ h₅.objs.size x y:=hs₈.extBut _ _ (Nat.ne_of_gt hzlt) (hs₇.extBut _ _ (Nat.ne_of_gt hzlt) (get?_push_size _ rfl))
 have hz8:h₈.objs.size=h₅.objs.size+1:=by rw [hs₈.1,hs₇.1,size_push]
 rw [hsz] at hz₈ hT₈ hz8
 refine wpAny_pure ⟨_,rfl,?_⟩
 show Q (.ref h₅.objs.size) _
 rw [hsz]
 exact hQ h₈ hz₈ (up _ _ D.TOz hTO₅) (h1₅.at λo e=>up _ o D.i1z e) (h2₅.at λo e=>up _ o D.i2z e) hT₈ hz8 λc o c1 c2 c3 c4 e=>up c o c1 (hk₅ c o c1 c2 c3 c4 e)
theorem zipN_end {t1 t2:Bool} {z TI TO i1 i2 l1 l2:Addr} {k1 k2:Nat} {xs ys:Array Value} {a b:Value} {Q:PySem.Fin->Shared->Prop} (hh:A.handled=none) (D:ZipApart z TI TO i1 i2 l1 l2)
  (hz:IsZip s.heap z TI TO .none) (hTI:IsPair s.heap TI (.ref i1) (.ref i2)) (hTO:IsPair s.heap TO a b)
  (h1:SqI t1 s.heap i1 l1 k1) (h2:SqI t2 s.heap i2 l2 k2) (hl1:SqO t1 s.heap l1 xs) (hl2:SqO t2 s.heap l2 ys) (hend:xs[k1]? = none\/ys[k2]? = none)
  (hE:∀ h' e,(∀ c o,c ≠ z->c ≠ TO->c ≠ i1->c ≠ i2->s.heap.get? c=some o->h'.get? c=some o)->(∃ o,h'.get? e=some o/\o.cls=.type "StopIteration")->E (.ref e) { s with heap:=h' }) :
  wpAny (model prog w) A (Builtin.«zip.__next__» ⟨[.ref z],[]⟩) Q E s:=by
 show wpAny _ _ (field (.ref z) 2 >>= _) _ _ _
 refine wpAny_bind (wpAny_field hz rfl (x:=.bool false) rfl ?_)
 show wpAny _ _ (field (.ref z) 3 >>= _) _ _ _
 refine wpAny_bind (wpAny_field hz rfl (x:=.ref TI) rfl ?_)
 refine wpAny_bind (wpAny_seqItems hTI rfl ?_)
 show wpAny _ _ (Builtin.SmallTypes.ownedTupleIsFree (.ref z) >>= _) _ _ _
 refine wpAny_bind ?_
 unfold Builtin.SmallTypes.ownedTupleIsFree
 refine wpAny_bind (wpAny_field hz rfl (x:=.none) rfl (wpAny_pure ?_))
 simp only [if_true]
 refine wpAny_bind (wpAny_rule ?_)
 refine wpAny_bind (wpAny_field hz rfl (x:=.ref TO) rfl ?_)
 refine wpAny_bind (wpAny_setField_rec hz (by simp) λh₁ hz₁ hs₁=>?_)
 replace hz₁:IsZip h₁ z TI TO .ellipsis:=hz₁
 refine wpAny_bind ?_
 simp only [zipIdx_cons,List.zipIdx_nil,forIn_cons,forIn_nil]
 refine wpAny_bind (wpAny_bind (wpAny_onRaise ?_))
 show wpAny _ _ (Builtin.SmallTypes.nextOf (.ref i1) >>= _) _ _ _
 cases hx:xs[k1]? with
 | none=>
  refine wpAny_bind (iX hh (h1.at λo e=>hs₁.extBut _ _ D.i1z e) (hl1.at λo e=>hs₁.extBut _ _ D.l1z e) hx λh₂ e hs₂ he=>?_)
  obtain ⟨oe,hoe,hce⟩:=he
  have hz₂:IsZip h₂ z TI TO .ellipsis:=hs₂ _ _ D.i1z.symm hz₁
  have hez:e ≠ z:=λx=>by subst x; rw [hz₂] at hoe; cases hoe; simp at hce
  refine wpAny_setField_rec hz₂ (by simp) λh₃ _ hs₃=>hE h₃ e (λc o c1 _ c3 _ x=>hs₃.extBut _ _ c1 (hs₂ _ _ c3 (hs₁.extBut _ _ c1 x))) ⟨oe,hs₃.extBut _ _ hez hoe,hce⟩
 | some x=>
  have hy:ys[k2]? = none:=by rcases hend with h | h; rw [hx] at h; cases h; exact h
  refine wpAny_bind (ef (h1.at λo e=>hs₁.extBut _ _ D.i1z e) (hl1.at λo e=>hs₁.extBut _ _ D.l1z e) hx λh₂ h1₂ hs₂=>wpAny_pure ?_)
  have hTO₂:IsPair h₂ TO a b:=hs₂.extBut _ _ D.TOi1 (hs₁.extBut _ _ D.TOz hTO)
  refine wpAny_bind (wpAny_seqItems hTO₂ rfl ?_)
  refine wpAny_bind (wpAny_updateSeq_pair hTO₂ λh₃ hTO₃ hs₃=>?_)
  refine wpAny_bind (wpAny_letGo (wpAny_pure ?_))
  refine wpAny_bind (wpAny_bind (wpAny_onRaise ?_))
  show wpAny _ _ (Builtin.SmallTypes.nextOf (.ref i2) >>= _) _ _ _
  refine wpAny_bind (iX hh (h2.at λo e=>hs₃.extBut _ _ D.TOi2.symm (hs₂.extBut _ _ D.i12.symm (hs₁.extBut _ _ D.i2z e)))
   (hl2.at λo e=>hs₃.extBut _ _ D.l2TO (hs₂.extBut _ _ D.l2i1 (hs₁.extBut _ _ D.l2z e))) hy λh₄ e hs₄ he=>?_)
  obtain ⟨oe,hoe,hce⟩:=he
  have hz₄:IsZip h₄ z TI TO .ellipsis:=hs₄ _ _ D.i2z.symm (hs₃.extBut _ _ D.TOz.symm (hs₂.extBut _ _ D.i1z.symm hz₁))
  have hez:e ≠ z:=λx=>by subst x; rw [hz₄] at hoe; cases hoe; simp at hce
  refine wpAny_setField_rec hz₄ (by simp) λh₅ _ hs₅=>hE h₅ e (λc o c1 c2 c3 c4 x=>hs₅.extBut _ _ c1 (hs₄ _ _ c4 (hs₃.extBut _ _ c2 (hs₂.extBut _ _ c3 (hs₁.extBut _ _ c1 x))))) ⟨oe,hs₅.extBut _ _ hez hoe,hce⟩
theorem gO {t1 t2:Bool} {z TI TO i1 i2 l1 l2:Addr} {k1 k2:Nat} {xs ys:Array Value} {x y a b:Value} {Q:Option Value->Shared->Prop} (D:ZipApart z TI TO i1 i2 l1 l2)
  (hz:IsZip s.heap z TI TO .none) (hTI:IsPair s.heap TI (.ref i1) (.ref i2)) (hTO:IsPair s.heap TO a b)
  (h1:SqI t1 s.heap i1 l1 k1) (h2:SqI t2 s.heap i2 l2 k2) (hl1:SqO t1 s.heap l1 xs) (hl2:SqO t2 s.heap l2 ys) (hx:xs[k1]? = some x) (hy:ys[k2]? = some y)
  (hQ:∀ h',IsZip h' z TI TO (rawInt s.heap.objs.size)->IsPair h' TO x y->SqI t1 h' i1 l1 (k1+1)->SqI t2 h' i2 l2 (k2+1)->IsPair h' s.heap.objs.size x y->h'.objs.size=s.heap.objs.size+1->
   (∀ c o,c ≠ z->c ≠ TO->c ≠ i1->c ≠ i2->s.heap.get? c=some o->h'.get? c=some o)->Q (some (.ref s.heap.objs.size)) { s with heap:=h' }) :
  wpAny (model prog w) A (pyNext (.ref z)) Q E s:=by
 have hT:s.TypeIs (.ref z) "zip":=⟨_,hz,rfl⟩
 unfold pyNext
 exact wpAny_bind (wpAny_attempt (wpAny_callSpecial?_slot (name:=Str.ofString "__next__") hT F.slot_zip_next
  (wpAny_call_entry F.slot_zip_next hT F.entry_zip_next
   (zipN_item D hz hTI hTO h1 h2 hl1 hl2 hx hy λh' a1 a2 a3 a4 a5 a6 a7=>wpAny_pure (hQ h' a1 a2 a3 a4 a5 a6 a7)) (F.args_zip_next_1 _))))
theorem ig {t1 t2:Bool} {z TI TO i1 i2 l1 l2:Addr} {k1 k2:Nat} {xs ys:Array Value} {a b:Value} {Q:Option Value->Shared->Prop} (hh:A.handled=none) (D:ZipApart z TI TO i1 i2 l1 l2)
  (hz:IsZip s.heap z TI TO .none) (hTI:IsPair s.heap TI (.ref i1) (.ref i2)) (hTO:IsPair s.heap TO a b)
  (h1:SqI t1 s.heap i1 l1 k1) (h2:SqI t2 s.heap i2 l2 k2) (hl1:SqO t1 s.heap l1 xs) (hl2:SqO t2 s.heap l2 ys) (hend:xs[k1]? = none\/ys[k2]? = none)
  (hQ:∀ h',(∀ c o,c ≠ z->c ≠ TO->c ≠ i1->c ≠ i2->s.heap.get? c=some o->h'.get? c=some o)->Q none { s with heap:=h' }):wpAny (model prog w) A (pyNext (.ref z)) Q E s:=by
 have hT:s.TypeIs (.ref z) "zip":=⟨_,hz,rfl⟩
 unfold pyNext
 refine wpAny_bind (wpAny_attempt (wpAny_callSpecial?_slot (name:=Str.ofString "__next__") hT F.slot_zip_next
  (wpAny_call_entry F.slot_zip_next hT F.entry_zip_next (zipN_end hh D hz hTI hTO h1 h2 hl1 hl2 hend λh' e hk he=>?_) (F.args_zip_next_1 _))))
 obtain ⟨o,ho,hc⟩:=he
 refine wpAny_bind (wpAny_isInstance (T := "StopIteration") (b:=true) ⟨o,ho,hc⟩ isSubtype_stop ?_)
 exact wpAny_pure (hQ _ hk)
end
def itObj (t:Bool) (l:Addr):Obj:=if t=true then { cls:=.type "tuple_iterator",data:=.fields #[.ref l,.int 0 0] } else { cls:=.type "list_iterator",data:=.fields #[.ref l,.int 0 0] }
theorem itObj_is {t:Bool} {h:Heap} {it l:Addr} (e:h.get? it=some (itObj t l)):SqI t h it l 0:=by
 cases t
 ·exact (show h.IsListIter it l 0 from ⟨_,e,rfl,rfl⟩)
 ·exact (show h.IsTupleIter it l 0 from ⟨_,e,rfl,rfl⟩)
abbrev zpH1 (t1:Bool) (h:Heap) (l1:Addr):Heap:=h.push (itObj t1 l1)
abbrev zpH2 (t1 t2:Bool) (h:Heap) (l1 l2:Addr):Heap:=(zpH1 t1 h l1).push (itObj t2 l2)
abbrev zpH3 (t1 t2:Bool) (h:Heap) (l1 l2:Addr):Heap:=(zpH2 t1 t2 h l1 l2).push { cls:=.type "tuple",data:=.seq #[.ref h.objs.size,.ref (zpH1 t1 h l1).objs.size] }
abbrev zpH4 (t1 t2:Bool) (h:Heap) (l1 l2:Addr):Heap:=(zpH3 t1 t2 h l1 l2).push { cls:=.type "tuple",data:=.seq #[.none,.none] }
abbrev zpH5 (t1 t2:Bool) (h:Heap) (l1 l2:Addr):Heap:=(zpH4 t1 t2 h l1 l2).push { cls:=.type "zip",data:=.fields #[.none,.bool false,.bool false,.ref (zpH2 t1 t2 h l1 l2).objs.size,.ref (zpH3 t1 t2 h l1 l2).objs.size] }
set_option maxHeartbeats 8000000 in
theorem meets_zipN (t1 t2:Bool) (l1 l2:Addr) (xs ys:Array Value) :
  Meets (Builtin.«zip.__new__» ⟨[.type "zip",.ref l1,.ref l2],[]⟩) (λ_ R s=>SqO t1 s.heap l1 xs/\SqO t2 s.heap l2 ys/\
   R (.ok (.ret (.ref (zpH4 t1 t2 s.heap l1 l2).objs.size))) { s with heap:=zpH5 t1 t2 s.heap l1 l2 }):=
 .of_wp λprog w A R s h=>by
  obtain ⟨hp,g,d,tk,os⟩:=s; obtain ⟨hl1,hl2,h⟩:=h
  have hsub:=sub_zip
  cases t1<;>cases t2
  ·have hL1:Heap.IsList (Shared.heap ⟨hp,g,d,tk,os⟩) l1 xs:=hl1
   have hL2:Heap.IsList (Shared.heap ⟨hp.push { cls:=.type "list_iterator",data:=.fields #[.ref l1,.int 0 0] },g,d,tk,os⟩) l2 ys:=Heap.IsList.push hl2 _
   wp_walk using wpAny_pyIter_list hL1,wpAny_pyIter_list hL2
   exact ⟨_,rfl,h⟩
  ·have hL1:Heap.IsList (Shared.heap ⟨hp,g,d,tk,os⟩) l1 xs:=hl1
   have hL2:Heap.IsTuple (Shared.heap ⟨hp.push { cls:=.type "list_iterator",data:=.fields #[.ref l1,.int 0 0] },g,d,tk,os⟩) l2 ys:=Heap.IsTuple.push hl2 _
   wp_walk using wpAny_pyIter_list hL1,wpAny_pyIter_tuple hL2
   exact ⟨_,rfl,h⟩
  ·have hL1:Heap.IsTuple (Shared.heap ⟨hp,g,d,tk,os⟩) l1 xs:=hl1
   have hL2:Heap.IsList (Shared.heap ⟨hp.push { cls:=.type "tuple_iterator",data:=.fields #[.ref l1,.int 0 0] },g,d,tk,os⟩) l2 ys:=Heap.IsList.push hl2 _
   wp_walk using wpAny_pyIter_tuple hL1,wpAny_pyIter_list hL2
   exact ⟨_,rfl,h⟩
  ·have hL1:Heap.IsTuple (Shared.heap ⟨hp,g,d,tk,os⟩) l1 xs:=hl1
   have hL2:Heap.IsTuple (Shared.heap ⟨hp.push { cls:=.type "tuple_iterator",data:=.fields #[.ref l1,.int 0 0] },g,d,tk,os⟩) l2 ys:=Heap.IsTuple.push hl2 _
   wp_walk using wpAny_pyIter_tuple hL1,wpAny_pyIter_tuple hL2
   exact ⟨_,rfl,h⟩
section
variable {prog:Program} {w:World} {A:Around} {E:Value->Shared->Prop} {s:Shared}
theorem call_zipN {t1 t2:Bool} {l1 l2:Addr} {xs ys:Array Value} {Q:Value->Shared->Prop} (hl1:SqO t1 s.heap l1 xs) (hl2:SqO t2 s.heap l2 ys)
  (h:∀ h',IsZip h' (s.heap.objs.size+4) (s.heap.objs.size+2) (s.heap.objs.size+3) .none->IsPair h' (s.heap.objs.size+2) (.ref s.heap.objs.size) (.ref (s.heap.objs.size+1))->
   IsPair h' (s.heap.objs.size+3) .none .none->SqI t1 h' s.heap.objs.size l1 0->SqI t2 h' (s.heap.objs.size+1) l2 0->h'.objs.size=s.heap.objs.size+5->
   (∀ c o,s.heap.get? c=some o->h'.get? c=some o)->Q (.ref (s.heap.objs.size+4)) { s with heap:=h' }) :
  wpAny (model prog w) A (call (.type "zip") [.ref l1,.ref l2]) Q E s:=by
 refine callType_new F.called_zip (by decide) (F.typeCall_zip_2 _ _) (F.newCall_zip_2 _ _) (λobj=>F.args_object_init_3 obj _ _) F.entry_zip_new
  (meets_zipN t1 t2 l1 l2 xs ys) ⟨hl1,hl2,?_⟩
 have fr:∀ t l,(itObj t l).isFreed=false:=λt l=>by cases t<;>rfl
 have z1:(zpH1 t1 s.heap l1).objs.size=s.heap.objs.size+1:=size_push ..
 have z2:(zpH2 t1 t2 s.heap l1 l2).objs.size=s.heap.objs.size+2:=by rw [size_push,z1]
 have z3:(zpH3 t1 t2 s.heap l1 l2).objs.size=s.heap.objs.size+3:=by rw [size_push,z2]
 have z4:(zpH4 t1 t2 s.heap l1 l2).objs.size=s.heap.objs.size+4:=by rw [size_push,z3]
 have z5:(zpH5 t1 t2 s.heap l1 l2).objs.size=s.heap.objs.size+5:=by rw [size_push,z4]
 have g5:(zpH5 t1 t2 s.heap l1 l2).get? (zpH4 t1 t2 s.heap l1 l2).objs.size=some _:=get?_push_size _ rfl
 have g4:(zpH5 t1 t2 s.heap l1 l2).get? (zpH3 t1 t2 s.heap l1 l2).objs.size=some _:=get?_push_of_some _ (get?_push_size _ rfl)
 have g3:(zpH5 t1 t2 s.heap l1 l2).get? (zpH2 t1 t2 s.heap l1 l2).objs.size=some _:=get?_push_of_some _ (get?_push_of_some _ (get?_push_size _ rfl))
 have g2:(zpH5 t1 t2 s.heap l1 l2).get? (zpH1 t1 s.heap l1).objs.size=some _:=get?_push_of_some _ (get?_push_of_some _ (get?_push_of_some _ (get?_push_size _ (fr t2 l2))))
 have g1:(zpH5 t1 t2 s.heap l1 l2).get? s.heap.objs.size=some _:=get?_push_of_some _ (get?_push_of_some _ (get?_push_of_some _ (get?_push_of_some _ (get?_push_size _ (fr t1 l1)))))
 show _/\_
 rw [z2,z3,z4] at g5
 rw [z1,z2] at g3
 rw [z3] at g4
 rw [z1] at g2
 rw [z4]
 exact ⟨⟨_,g5,rfl⟩,h _ g5 g3 g4 (itObj_is g1) (itObj_is g2) z5 λc o x=>
  get?_push_of_some _ (get?_push_of_some _ (get?_push_of_some _ (get?_push_of_some _ (get?_push_of_some _ x))))⟩
end
def Itz (t1 t2:Bool) (K:Frag) (a b:Addr):It:=
 ⟨λi H=>∃ xs ys x y,SqV t1 K H a xs/\SqV t2 K H b ys/\xs[i]? = some x/\ys[i]? = some y,
  λi H v H'=>∃ p x y,v=.ref p/\H p=none/\H'=upd H p (.tup [x,y])/\(∀ xs,SqV t1 K H a xs->xs[i]? = some x)/\∀ ys,SqV t2 K H b ys->ys[i]? = some y,
  λi H=>∃ xs ys,SqV t1 K H a xs/\SqV t2 K H b ys/\(xs.length<=i\/ys.length<=i)⟩
def Zst (t1 t2:Bool) (z TI TO i1 i2 a b:Addr) (i:Nat) (h:Heap):Prop:=
 IsZip h z TI TO .none/\IsPair h TI (.ref i1) (.ref i2)/\(∃ x y,IsPair h TO x y)/\SqI t1 h i1 a i/\SqI t2 h i2 b i
structure ZDist (z TI TO i1 i2:Addr):Prop where
 TIz:TI ≠ z
 TOz:TO ≠ z
 i1z:i1 ≠ z
 i2z:i2 ≠ z
 TITO:TI ≠ TO
 TIi1:TI ≠ i1
 TIi2:TI ≠ i2
 TOi1:TO ≠ i1
 TOi2:TO ≠ i2
 i12:i1 ≠ i2
theorem Inv.turnedN {X:Cx} {pins:List (Addr × Obj)} {σ:St} {H:Hp} {s:Shared} {h':Heap} {t':Nat} {fp:List Addr} (I:Inv X pins σ H s) (k:∀ b o,b ∉ fp->s.heap.get? b=some o->h'.get? b=some o) (hf:∀ b ∈ fp,fF X pins H b):Inv X pins σ H { s with heap:=h',toks:=t' }:=by
 have nit:∀ b u,H b=some u->b ∉ fp:=λb u e z=>by rw [(hf b z).1] at e; cases e
 refine I.step (g':=s.gens) (d':=s.drawn) (ch:=fp) (λb hb=>?_) (λb o _ _ hc e _=>k b o hc e) (λb o _ _ hc e _=>⟨o.slots,k b o hc e⟩) (λ_ _ _ _ n=>n)
  (λb o hc e=>⟨o,k b o hc e⟩) (λ_ _ e=>e) (λ_ _ _ e=>e) (λb ps e=>⟨#[],by rw [e]; simp⟩) (λm hm=>?_) (λb u e=>?_) I.bare
 ·obtain ⟨f0,f1,f2,f3,f4,f5⟩:=hf b hb
  exact ⟨f3,f1,f4,f5⟩
 ·obtain ⟨o,es,ep,ho,r⟩:=hm
  exact ⟨o,es,ep,k _ o (λz=>(hf _ z).2.1 rfl) ho,r⟩
 ·refine (I.hok b u e).stay (λc v hc q=>k c v ?_ q) (λ_ q=>q) λ_ _ q=>q
  rcases hc with z | z
  ·rw [z]; exact nit b u e
  ·exact nit c _ z
theorem zdist (n:Nat):ZDist (n+4) (n+2) (n+3) n (n+1):=by
 constructor<;>(intro h; have h':(_:Nat)=_:=h; omega)
theorem gk {X:Cx} {pins:List (Addr × Obj)} {σ:St} {H:Hp} {s:Shared} {fp:List Addr} {t:Bool} {l:Addr} {vs:List V} (I:Inv X pins σ H s) (hf:∀ b ∈ fp,fF X pins H b) (q:SqV t X.K H l vs):l ∉ fp:=λhl=>by
 have hn:=hf l hl
 have old:∀ o,X.K.lookup l=some o->False:=λo hk=>by
  rcases hn.2.2.2.1 with z' | z'
  ·exact I.ok.noex l o (I.ok.mod.kin l o hk) z'
  ·exact absurd (Nat.lt_of_lt_of_le (lt_size (I.ok.bs l o (I.ok.mod.kin l o hk)).1) z') (Nat.lt_irrefl _)
 cases t
 ·rcases (show SqL X.K H l vs from q) with (q | ⟨o,q⟩) | ⟨o,_,_,hk,_⟩
  ·rw [hn.1] at q; cases q
  ·rw [hn.1] at q; cases q
  ·exact old o hk
 ·rcases (show SqT X.K H l vs from q) with (q | ⟨o,q⟩) | ⟨o,_,_,hk,_⟩
  ·rw [hn.1] at q; cases q
  ·rw [hn.1] at q; cases q
  ·exact old o hk
theorem turn_zip {P:Program} {w:World} {K:Frag} {es:List Expr} {ek:Nat} {ep:Pos} {t1 t2:Bool} (a b z TI TO i1 i2:Addr) (D:ZDist z TI TO i1 i2) :
  Turn P w K (.Tuple es ek ep) (Itz t1 t2 K a b) [z,TI,TO,i1,i2] z (Zst t1 t2 z TI TO i1 i2 a b) where
 mem:=by simp
 obj:=λi h ⟨hz,hTI,⟨x,y,hTO⟩,h1,h2⟩ c hc=>by
  simp only [mem_cons,not_mem_nil,or_false] at hc
  rcases hc with rfl | rfl | rfl | rfl | rfl
  ·exact ⟨_,hz,λv z=>by cases z⟩
  ·exact ⟨_,hTI,λv z=>by cases z⟩
  ·exact ⟨_,hTO,λv z=>by cases z⟩
  ·exact h1.obj
  ·exact h2.obj
 keep:=λi h h' ⟨hz,hTI,⟨x,y,hTO⟩,h1,h2⟩ k=>
  ⟨k z (by simp) _ hz,k TI (by simp) _ hTI,⟨x,y,k TO (by simp) _ hTO⟩,h1.at λo e=>k i1 (by simp) o e,h2.at λo e=>k i2 (by simp) o e⟩
 item:=by
  intro X hP hw hK hc i pins s σ H E I hf st hg
  subst hP hw hK
  obtain ⟨xs,ys,x,y,qx,qy,hx,hy⟩:=hg
  obtain ⟨hz,hTI,⟨xo,yo,hTO⟩,h1,h2⟩:=st
  obtain ⟨ix,rx,px,zx⟩:=I.seqV qx
  obtain ⟨iy,ry,py,zy⟩:=I.seqV qy
  obtain ⟨u,hu,ru⟩:=rx.get hx
  obtain ⟨v,hv,rv⟩:=ry.get hy
  have inFp:∀ c,c ∈ [z,TI,TO,i1,i2]->H c=none:=λc hc=>(hf c hc).1
  have na:=gk I hf qx
  have nb:=gk I hf qy
  simp only [mem_cons,not_mem_nil,or_false,not_or] at na nb
  have DA:ZipApart z TI TO i1 i2 a b:=⟨D.TIz,D.TOz,D.i1z,D.i2z,D.TITO,D.TIi1,D.TIi2,D.TOi1,D.TOi2,D.i12,na.1,na.2.2.1,na.2.2.2.1,na.2.2.2.2,nb.1,nb.2.2.1,nb.2.2.2.1,nb.2.2.2.2⟩
  refine gO DA hz hTI hTO h1 h2 px py (x:=u) (y:=v) (by simpa using hu) (by simpa using hv) λh' a1 a2 a3 a4 a5 a6 hk=>?_
  refine ⟨_,rfl,wpAny_letOwnedTupleGo_zip a1 λh'' hz'' sb=>?_⟩
  have kk:∀ c o,c ∉ [z,TI,TO,i1,i2]->s.heap.get? c=some o->h''.get? c=some o:=λc o hc e=>by
   simp only [mem_cons,not_mem_nil,or_false,not_or] at hc
   exact (sb.2 c hc.1).trans (hk c o hc.1 hc.2.2.1 hc.2.2.2.1 hc.2.2.2.2 e)
  have lt5:∀ c ∈ [z,TI,TO,i1,i2],c<s.heap.objs.size:=λc hc=>by
   simp only [mem_cons,not_mem_nil,or_false] at hc
   rcases hc with rfl | rfl | rfl | rfl | rfl
   ·exact lt_size hz
   ·exact lt_size hTI
   ·exact lt_size hTO
   ·obtain ⟨o,e,_⟩:=h1.obj; exact lt_size e
   ·obtain ⟨o,e,_⟩:=h2.obj; exact lt_size e
  have nT:s.heap.objs.size ∉ [z,TI,TO,i1,i2]:=λhc=>absurd (lt5 _ hc) (Nat.lt_irrefl _)
  have hT:h''.get? s.heap.objs.size=some { cls:=.type "tuple",data:=.seq #[u,v] }:=(sb.2 _ (λe=>nT (by simp [e]))).trans a5
  have fresh:H s.heap.objs.size=none:=I.hok.fresh (Nat.le_refl _)
  have gT:(s.heap.push { cls:=.type "tuple",data:=.seq #[u,v] }).get? s.heap.objs.size=some { cls:=.type "tuple",data:=.seq #[u,v] }:=get?_push_size _ rfl
  have I1:Inv X pins σ (upd H s.heap.objs.size (.tup [x,y])) { s with heap:=s.heap.push { cls:=.type "tuple",data:=.seq #[u,v] },toks:=s.toks }:=
   I.laid (λb o e=>get?_push_of_some _ e) (Nat.le_refl _) ⟨by show 2<=sizeLine; decide,[u,v],.cons ru (.cons rv .nil),_,gT,rfl,_,rfl⟩
  have fp1:∀ c ∈ [z,TI,TO,i1,i2],fF X pins (upd H s.heap.objs.size (.tup [x,y])) c:=λc hc=>
   ⟨by rw [am (Nat.ne_of_lt (lt5 c hc))]; exact (hf c hc).1,(hf c hc).2⟩
  have I2:=I1.turnedN (h':=h'') (t':=s.toks) (fp:=[z,TI,TO,i1,i2]) (λc o hc e=>by
   rcases Heap.get?_push_cases e with ⟨e1,e2⟩ | e1
   ·rw [e1,e2]
    exact hT
   ·exact kk c o hc e1) fp1
  refine ⟨.ref s.heap.objs.size,_,I2,rfl,⟨_,x,y,rfl,fresh,rfl,λxs' q=>by rw [I.seqV_inj q qx]; exact hx,λys' q=>by rw [I.seqV_inj q qy]; exact hy⟩,?_,λc hc=>(fp1 c hc).1⟩
  exact ⟨hz'',(sb.2 _ D.TIz).trans (hk _ _ D.TIz D.TITO D.TIi1 D.TIi2 hTI),⟨u,v,(sb.2 _ D.TOz).trans a2⟩,a3.at λo e=>(sb.2 _ D.i1z).trans e,a4.at λo e=>(sb.2 _ D.i2z).trans e⟩
 done:=by
  intro X hP hw hK hc i pins s σ H E I hf st hg
  subst hP hw hK
  obtain ⟨xs,ys,qx,qy,hend⟩:=hg
  obtain ⟨hz,hTI,⟨xo,yo,hTO⟩,h1,h2⟩:=st
  obtain ⟨ix,rx,px,zx⟩:=I.seqV qx
  obtain ⟨iy,ry,py,zy⟩:=I.seqV qy
  have na:=gk I hf qx
  have nb:=gk I hf qy
  simp only [mem_cons,not_mem_nil,or_false,not_or] at na nb
  have DA:ZipApart z TI TO i1 i2 a b:=⟨D.TIz,D.TOz,D.i1z,D.i2z,D.TITO,D.TIi1,D.TIi2,D.TOi1,D.TOi2,D.i12,na.1,na.2.2.1,na.2.2.2.1,na.2.2.2.2,nb.1,nb.2.2.1,nb.2.2.2.1,nb.2.2.2.2⟩
  have lx:=rx.length
  have ly:=ry.length
  refine ig (I.ok.hd hc) DA hz hTI hTO h1 h2 px py ?_ λh' hk=>⟨rfl,I.turnedN (t':=s.toks) (λc o hc e=>?_) hf⟩
  ·rcases hend with q | q
   ·exact .inl (by simp; omega)
   ·exact .inr (by simp; omega)
  ·simp only [mem_cons,not_mem_nil,or_false,not_or] at hc
   exact hk c o hc.1 hc.2.2.1 hc.2.2.2.1 hc.2.2.2.2 e
 self:=λ_ _ _ _ _ st h=>wpAny_pyIter_zip st.1 h
def iZip (t1 t2:Bool) (K:Frag) (ta:TA):TI:=λσ H R=>ta σ H λvs H1=>∃ a b,vs=[.ref a,.ref b]/\(∃ xs,SqV t1 K H1 a xs)/\(∃ ys,SqV t2 K H1 b ys)/\R (Itz t1 t2 K a b) H1
theorem pi_zip {X:Cx} (t1 t2:Bool) {es:List Expr} {ek:Nat} {ep:Pos} {a b:Expr} {ta:TA} {p pos:Pos} (hg:Gl X "zip") (hm:X.mg "zip" = none) (ha:PA X [a,b] ta) (hs:starEach [a,b] X.env=[(false,eval a X.env),(false,eval b X.env)]:=by rfl) (hs2:starEach [b] X.env=[(false,eval b X.env)]:=by rfl) :
  PI X (.Tuple es ek ep) (.Call (.Name "zip" p) [a,b] [] pos) (iZip t1 t2 X.K ta):=by
 intro pins s σ H R I h
 refine Call_ (dU I hg hm boot_zip (PyProof.Rows.callWith_type1 (thn (ha pos pins s σ H _ I h) λus s1 ⟨vs,H1,I1,r1,q1⟩=>?_) (by rw [hs,hs2]) (by rw [hs2]; rfl)))
 obtain ⟨l1,l2,e,⟨xs,qx⟩,⟨ys,qy⟩,q⟩:=q1
 subst e
 cases r1 with
 | cons r rr=>
  cases rr with
  | cons r' rr=>
   cases rr
   cases r
   cases r'
   obtain ⟨ix,rx,px,zx⟩:=I1.seqV qx
   obtain ⟨iy,ry,py,zy⟩:=I1.seqV qy
   refine call_zipN px py λh' a1 a2 a3 a4 a5 a6 a7=>?_
   have I2:Inv X pins σ H1 { s1 with heap:=h',toks:=s1.toks }:=I1.kept a7
   refine wpAny_pyIter_zip (s:={ s1 with heap:=h' }) a1 ?_
   refine ⟨_,[s1.heap.objs.size+4,s1.heap.objs.size+2,s1.heap.objs.size+3,s1.heap.objs.size,s1.heap.objs.size+1],_,_,H1,rfl,I2,turn_zip l1 l2 (s1.heap.objs.size+4) (s1.heap.objs.size+2) (s1.heap.objs.size+3) s1.heap.objs.size (s1.heap.objs.size+1) (zdist _),⟨a1,a2,⟨_,_,a3⟩,a4,a5⟩,λb hb=>?_,q⟩
   have hb':s1.heap.objs.size<=b:=by
    simp only [mem_cons,not_mem_nil,or_false] at hb
    rcases hb with rfl | rfl | rfl | rfl | rfl
    ·exact Nat.le_add_right _ _
    ·exact Nat.le_add_right _ _
    ·exact Nat.le_add_right _ _
    ·exact Nat.le_refl _
    ·exact Nat.le_add_right _ _
   exact I1.fpOk hb' (I1.hok.fresh hb')
mutual
inductive DR (K:Frag) (H:Hp):PyData->V->Prop
 | non:DR K H .none .non
 | bl (b:Bool):DR K H (.bool b) (.bl b)
 | int (i:Int):DR K H (.int i) (.int i)
 | str (x:Str):DR K H (.str x) (.str x)
 | tup {a:Addr} {vs:List V} {ds:List PyData}:SqT K H a vs->DRs K H ds vs->DR K H (.tuple ds) (.ref a)
 | lst {a:Addr} {vs:List V} {ds:List PyData}:SqL K H a vs->DRs K H ds vs->DR K H (.list ds) (.ref a)
inductive DRs (K:Frag) (H:Hp):List PyData->List V->Prop
 | nil:DRs K H [] []
 | cons {d:PyData} {v:V} {ds:List PyData} {vs:List V}:DR K H d v->DRs K H ds vs->DRs K H (d::ds) (v::vs)
end
section
variable {X:Cx} {pins:List (Addr × Obj)} {σ:St} {H:Hp} {s:Shared}
mutual
theorem DR.reads (I:Inv X pins σ H s):∀ {d:PyData} {v:V} {u:Value},DR X.K H d v->md v u->∃ as,Reads s.heap u d as
 | _,_,_,.non,r=>by cases (show _=Value.none from r); exact ⟨_,.none⟩
 | _,_,_,.bl b,r=>by cases (show _=Value.bool b from r); exact ⟨_,.bool b⟩
 | _,_,_,.int i,r=>by obtain ⟨t,q⟩:=(show ∃ t,_=Value.int i t from r); subst q; exact ⟨_,.int i t⟩
 | _,_,_,.str x,r=>by obtain ⟨t,q⟩:=(show ∃ t,_=Value.str x t from r); subst q; exact ⟨_,.str x t⟩
 | _,_,_,.tup (a:=a) q qs,r=>by
  cases (show _=Value.ref a from r)
  obtain ⟨its,rv,⟨o,e,c,n,d⟩,z⟩:=I.tuple q
  obtain ⟨as,ra⟩:=DRs.reads I qs rv
  exact ⟨as,.tuple e c d (by simpa using ra)⟩
 | _,_,_,.lst (a:=a) q qs,r=>by
  cases (show _=Value.ref a from r)
  obtain ⟨its,rv,⟨o,n,e,c,_,d⟩,z⟩:=I.list q
  obtain ⟨as,ra⟩:=DRs.reads I qs rv
  exact ⟨_,.list e c d (by simpa using ra)⟩
theorem DRs.reads (I:Inv X pins σ H s):∀ {ds:List PyData} {vs:List V} {us:List Value},DRs X.K H ds vs->l9 vs us->∃ as,ReadsAll s.heap us ds as
 | _,_,_,.nil,r=>by cases r; exact ⟨_,.nil⟩
 | _,_,_,.cons q qs,r=>by
  cases r with
  | cons r rr=>
   obtain ⟨as,ra⟩:=DR.reads I q r
   obtain ⟨bs,rb⟩:=DRs.reads I qs rr
   exact ⟨_,.cons ra rb⟩
end
def rEqD (K:Frag):R2:=λx y H Q=>∃ d e,DR K H d x/\DR K H e y/\SeqAt.shaped d=true/\SeqAt.shaped e=true/\Q (.bl (PyData.eqv d e)) H
def rNeD (K:Frag):R2:=λx y H Q=>∃ d e,DR K H d x/\DR K H e y/\SeqAt.shaped d=true/\SeqAt.shaped e=true/\Q (.bl (!PyData.eqv d e)) H
theorem op_eqD (hu:X.A.units+64<cLine):OpR X (compareOp .Eq) (rEqD X.K):=by
 intro pins s σ H x y v u Q I rx ry h
 obtain ⟨d,e,dx,dy,sx,sy,q⟩:=h
 obtain ⟨as,ra⟩:=dx.reads I rx
 obtain ⟨bs,rb⟩:=dy.reads I ry
 exact eq_dataH ra rb sx sy hu ⟨.bl _,H,I,rfl,q⟩
theorem op_neD (hu:X.A.units+64<cLine):OpR X (compareOp .NotEq) (rNeD X.K):=by
 intro pins s σ H x y v u Q I rx ry h
 obtain ⟨d,e,dx,dy,sx,sy,q⟩:=h
 obtain ⟨as,ra⟩:=dx.reads I rx
 obtain ⟨bs,rb⟩:=dy.reads I ry
 exact ne_dataH ra rb sx sy hu ⟨.bl _,H,I,rfl,q⟩
end
def dc (ns:List Int):PyData:=.tuple (ns.map .int)
theorem drs_ints {K:Frag} {H:Hp}:∀ ns:List Int,DRs K H (ns.map PyData.int) (ns.map V.int)
 | []=>.nil
 | n::r=>.cons (.int n) (drs_ints r)
theorem fg {K:Frag} {H:Hp} {a:Addr} {ns:List Int} (h:SqT K H a (ns.map V.int)):DR K H (dc ns) (.ref a):=.tup h (drs_ints ns)
theorem bE (ns:List Int):SeqAt.shaped (dc ns)=true:=by
 simp [dc,SeqAt.shaped,PyData.canLay0,PyData.depth,PySem.W.ke_canLayAll0,PySem.W.ke_depthAll]
theorem hW:∀ ns ms:List Int,PyData.eqvAll (ns.map PyData.int) (ms.map PyData.int)=decide (ns=ms)
 | [],[]=>by simp [PyData.eqvAll]
 | [],_::_=>by simp [PyData.eqvAll]
 | _::_,[]=>by simp [PyData.eqvAll]
 | a::r,b::t=>by
  simp only [map_cons,PyData.eqvAll,PyData.eqv,hW r t]
  by_cases h:a=b<;>by_cases h':r=t<;>simp [h,h']
theorem jj (ns ms:List Int):PyData.eqv (dc ns) (dc ms)=decide (ns=ms):=by
 simp only [dc,PyData.eqv]; exact hW ns ms
section
variable {X:Cx}
theorem Walks.sq {prog:Program} {w:World} {A:Around} (t:Bool) (hh:A.handled=none) (I ax:Addr) (hne:ax ≠ I) (items:Array Value) :
  Walks prog w A I [I,ax] [I] items.size (λi v=>items[i]? = some v) (λi h=>SqI t h I ax i/\SqO t h ax items):=by
 cases t
 ·exact Walks.list hh I ax hne items
 ·exact Walks.tuple hh I ax hne items
theorem call_allV (hc:X.calm=true) (t:Bool):cV X (.builtin "all") (λxs H Q=>∃ (p:Addr) (bs:List Bool),xs=[.ref p]/\SqV t X.K H p (bs.map V.bl)/\Q (.bl (bs.all id)) H):=by
 intro pins s σ H xs us Q I rv h
 obtain ⟨p,bs,rfl,q,hq⟩:=h
 obtain ⟨u,rfl,ru⟩:=g9 rv
 cases ru
 obtain ⟨its,rb,po,z⟩:=I.seqV q
 have hh:X.A.in1.handled=none:=I.ok.hd hc
 refine call_all_walk (jS po λo hi=>?_)
 have hlt:p<s.heap.objs.size:=by obtain ⟨ob,e⟩:=po.obj; exact lt_size e
 refine ⟨s.heap.objs.size,_,_,_,_,_,λi=>bs.getD i false,rfl,Walks.sq t hh s.heap.objs.size p (Nat.ne_of_lt hlt) its.toArray,⟨hi,po.at λo' e=>get?_push_of_some _ e⟩,?_,λh' tk hk=>?_⟩
 ·intro i v s' Q' E' hv hQ
  have hv':its[i]? = some v:=by simpa using hv
  have hlen:=rb.length
  have hil:i<its.length:=(List.getElem?_eq_some_iff.mp hv').1
  rw [length_map] at hlen
  have hb:(bs.map V.bl)[i]? = some (.bl (bs.getD i false)):=by
   rw [getElem?_map,getD_eq_getElem?_getD,getElem?_eq_getElem (by omega)]
   rfl
  obtain ⟨u,hu,ru⟩:=rb.get hb
  rw [hv'] at hu
  cases hu
  cases (show v=Value.bool _ from ru)
  exact wpAny_truthy_bool hQ
 ·have I1:Inv X pins σ H { s with heap:=s.heap.push o,toks:=s.toks }:=I.kept λb u e=>get?_push_of_some _ e
  have fp:fF X pins H s.heap.objs.size:=I.fpOk (Nat.le_refl _) (I.hok.fresh (Nat.le_refl _))
  have I2:Inv X pins σ H { s with heap:=h',toks:=tk }:=by
   have:=I1.turnedN (fp:=[s.heap.objs.size]) (h':=h') (t':=tk) (λb ob hb e=>hk b ob hb e) (λb hb=>by have e:b=s.heap.objs.size:=by simpa using hb
                                                                                                     subst e; exact fp)
   exact this
  refine ⟨.bl (bs.all id),H,I2,?_,hq⟩
  show Value.bool _=Value.bool _
  congr 1
  have hlen:=rb.length
  rw [length_map] at hlen
  have hsz:its.toArray.size=bs.length:=by simp [hlen]
  rw [hsz]
  rw [Bool.eq_iff_iff]
  simp only [all_eq_true,List.mem_range]
  constructor
  ·intro h b hb
   obtain ⟨i,hi,rfl⟩:=List.getElem_of_mem hb
   have:=h i hi
   simpa [getD_eq_getElem?_getD,getElem?_eq_getElem hi] using this
  ·intro h i hi
   have:=h (bs[i]) (getElem_mem hi)
   simpa [getD_eq_getElem?_getD,getElem?_eq_getElem hi] using this
theorem preSum_list (ns:List Int):∀ k,k<=ns.length->preSum (λi=>ns.getD i 0) k=(ns.take k).sum:=by
 intro k
 induction k with
 | zero=>intro _; rfl
 | succ k ih=>
  intro h
  have e:=ih (by omega)
  show preSum _ k+_=_
  rw [e,take_succ,sum_append,getElem?_eq_getElem (by omega)]
  show _+ns.getD k 0=_
  rw [getD_eq_getElem?_getD,getElem?_eq_getElem (by omega)]
  simp
theorem call_sumV (hc:X.calm=true) (t:Bool):cV X (.builtin "sum") (λxs H Q=>∃ (p:Addr) (ns:List Int),xs=[.ref p]/\SqV t X.K H p (ns.map V.int)/\Q (.int ns.sum) H):=by
 intro pins s σ H xs us Q I rv h
 obtain ⟨p,ns,rfl,q,hq⟩:=h
 obtain ⟨u,rfl,ru⟩:=g9 rv
 cases ru
 obtain ⟨its,rb,po,z⟩:=I.seqV q
 have hh:X.A.in1.handled=none:=I.ok.hd hc
 refine call_sum_walkG (jS po λo hi=>?_)
 have hlt:p<s.heap.objs.size:=by obtain ⟨ob,e⟩:=po.obj; exact lt_size e
 refine ⟨s.heap.objs.size,_,_,_,_,_,λi=>ns.getD i 0,rfl,Walks.sq t hh s.heap.objs.size p (Nat.ne_of_lt hlt) its.toArray,⟨hi,po.at λo' e=>get?_push_of_some _ e⟩,λb hb=>?_,?_,λh' tk t' hk=>?_⟩
 ·show b<(s.heap.push o).objs.size
  rw [size_push]
  rcases List.mem_cons.mp hb with rfl | hb
  ·exact Nat.lt_succ_self _
  ·rcases List.mem_cons.mp hb with rfl | hb
   ·exact Nat.lt_succ_of_lt hlt
   ·cases hb
 ·intro i v hv
  have hv':its[i]? = some v:=by simpa using hv
  have hlen:=rb.length
  have hil:i<its.length:=(List.getElem?_eq_some_iff.mp hv').1
  rw [length_map] at hlen
  have hb:(ns.map V.int)[i]? = some (.int (ns.getD i 0)):=by
   rw [getElem?_map,getD_eq_getElem?_getD,getElem?_eq_getElem (by omega)]
   rfl
  obtain ⟨u,hu,ru⟩:=rb.get hb
  rw [hv'] at hu
  cases hu
  exact ru
 ·have I1:Inv X pins σ H { s with heap:=s.heap.push o,toks:=s.toks }:=I.kept λb u e=>get?_push_of_some _ e
  have fp:fF X pins H s.heap.objs.size:=I.fpOk (Nat.le_refl _) (I.hok.fresh (Nat.le_refl _))
  have I2:Inv X pins σ H { s with heap:=h',toks:=tk }:=by
   have:=I1.turnedN (fp:=[s.heap.objs.size]) (h':=h') (t':=tk) (λb ob hb e=>hk b ob hb e) (λb hb=>by have e:b=s.heap.objs.size:=by simpa using hb
                                                                                                     subst e; exact fp)
   exact this
  have hlen:=rb.length
  rw [length_map] at hlen
  have hsz:its.toArray.size=ns.length:=by simp [hlen]
  refine ⟨.int ns.sum,H,I2,⟨t',?_⟩,hq⟩
  rw [hsz,preSum_list ns _ (Nat.le_refl _),take_of_length_le (Nat.le_refl _)]
end
end L2
namespace L2
open PySem PySem.Spec PyProof.Rows
section
variable {X:Cx} {pos:Pos}
def rIsT (K:Frag):List V->Hp->VK->Prop:=λxs H Q=>∃ (x:V) (t:Value) (c:String) (b:Bool),xs=[x,.ty c]/\mO K H x t/\kitOne K t (.type c)=some b/\Q (.bl b) H
theorem call_isT:cV X (.builtin "isinstance") (rIsT X.K):=by
 intro pins s σ H xs us Q I rv h
 obtain ⟨x,t,c,b,rfl,ty,e,q⟩:=h
 obtain ⟨u,u',rfl,r1,r2⟩:=vals2 rv
 cases (show u'=Value.type c from r2)
 exact isinst_ok I r1 ty e λtk=>⟨.bl b,H,I.tok tk,rfl,q⟩
theorem boot_isinst:bootBuiltins "isinstance"=some (.builtin "isinstance"):=by decide +kernel
theorem boot_all':bootBuiltins "all"=some (.builtin "all"):=by decide +kernel
theorem boot_sum':bootBuiltins "sum"=some (.builtin "sum"):=by decide +kernel
theorem boot_max':bootBuiltins "max"=some (.builtin "max"):=by decide +kernel
theorem boot_min':bootBuiltins "min"=some (.builtin "min"):=by decide +kernel
theorem boot_abs':bootBuiltins "abs"=some (.builtin "abs"):=by decide +kernel
theorem cQ:bootBuiltins "tuple"=some (.type "tuple"):=by decide +kernel
theorem iK:bootBuiltins "list"=some (.type "list"):=by decide +kernel
theorem gS:bootBuiltins "int"=some (.type "int"):=by decide +kernel
theorem boot_bool':bootBuiltins "bool"=some (.type "bool"):=by decide +kernel
theorem bq:OpR X (binaryOp .Mult) (rI IntMulOk λi j=>.int (i*j)):=opI λ_ _ _ _ _ _ _ hc q=>mul_int q hc
end
structure FnB (P:Program) (w:World) (K:Frag) (mg:Str->Option Value) (base:Heap) (k:Nat) (x:Str) (sp:Sp):Prop where
 ex:∃ f fd ps,me P w K mg base CX0 k f fd ps sp/\mg x=some (.ref f)/\keepIn K (.ref f)=true/\mF K fd ps []
structure Blt (mg:Str->Option Value):Prop where
 len:mg "len" = none
 range:mg "range" = none
 zip:mg "zip" = none
 all:mg "all" = none
 sum:mg "sum" = none
 max:mg "max" = none
 min:mg "min" = none
 abs:mg "abs" = none
 tuple:mg "tuple" = none
 list:mg "list" = none
 int:mg "int" = none
 bool:mg "bool" = none
 isinst:mg "isinstance" = none
 enum:mg "enumerate" = none
 sorted:mg "sorted" = none
 set:mg "set" = none
 str:mg "str" = none
section
variable {X:Cx} {p pos:Pos} {e e2:Expr} {es:List Expr} {t:TA} {te te2:TE}
theorem aq {x:Str} {k:Nat} {sp:Sp} (F:FnB X.prog X.w X.K X.mg X.base k x sp) (hr:mj k X.A) (ha:PA X (e::es) t) (hg:Gl X x:=by rfl) (hdb:(x == ("__debug__" : Str))=false:=by decide)
  (he:starEach (e::es) X.env=(false,eval e X.env)::starEach es X.env:=by rfl) (hpl:(backTo pos (starEach es X.env)).any (·.1)=false:=by rfl):PE X (.Call (.Name x p) (e::es) [] pos) (tCall sp [] E0 t):=by
 obtain ⟨f,fd,ps,F',hm,hk,hb⟩:=F.ex
 exact pe_call F' hr hg hm hk hb .nil pass0 ha hdb he hpl
theorem pl_len (T:Blt X.mg) (ha:PE X e te) (hg:Gl X "len":=by rfl) (hs:starEach [e] X.env=[(false,eval e X.env)]:=by rfl):PE X (.Call (.Name "len" p) [e] [] pos) (tCB (λxs H Q=>∃ p ys,xs=[.ref p]/\(SqL X.K H p ys\/SqT X.K H p ys)/\Q (.int ys.length) H) (cu te bY)):=
 cH kL hg T.len PySem.boot_len (aa ha ah hs) (by decide) (by decide) hs
theorem pl_all (T:Blt X.mg) (ha:PE X e te) (b:Bool) (hc:X.calm=true:=by rfl) (hg:Gl X "all":=by rfl) (hs:starEach [e] X.env=[(false,eval e X.env)]:=by rfl):PE X (.Call (.Name "all" p) [e] [] pos) (tCB (λxs H Q=>∃ (p:Addr) (bs:List Bool),xs=[.ref p]/\SqV b X.K H p (bs.map V.bl)/\Q (.bl (bs.all id)) H) (cu te bY)):=
 cH (call_allV hc b) hg T.all boot_all' (aa ha ah hs) (by decide) (by decide) hs
theorem pl_sum (T:Blt X.mg) (ha:PE X e te) (b:Bool) (hc:X.calm=true:=by rfl) (hg:Gl X "sum":=by rfl) (hs:starEach [e] X.env=[(false,eval e X.env)]:=by rfl):PE X (.Call (.Name "sum" p) [e] [] pos) (tCB (λxs H Q=>∃ (p:Addr) (ns:List Int),xs=[.ref p]/\SqV b X.K H p (ns.map V.int)/\Q (.int ns.sum) H) (cu te bY)):=
 cH (call_sumV hc b) hg T.sum boot_sum' (aa ha ah hs) (by decide) (by decide) hs
theorem pl_tuple (T:Blt X.mg) (ha:PE X e te) (hg:Gl X "tuple":=by rfl) (hs:starEach [e] X.env=[(false,eval e X.env)]:=by rfl):PE X (.Call (.Name "tuple" p) [e] [] pos) (tCB (λxs H Q=>∃ p ys,xs=[.ref p]/\SqL X.K H p ys/\∀ l,H l=none->Q (.ref l) (upd H l (.tup ys))) (cu te bY)):=by
 refine fy (r:=λxs H Q=>∃ p ys,xs=[.ref p]/\SqL X.K H p ys/\∀ l,H l=none->Q (.ref l) (upd H l (.tup ys))) ?_ hg T.tuple cQ (aa ha ah hs) (by decide) (by decide) hs
 intro pins s σ H xs us Q I rv h
 obtain ⟨p,ys,rfl,q,hq⟩:=h
 exact jG pins s σ H _ us Q I rv ⟨p,ys,rfl,.inl ⟨q,hq⟩⟩
theorem pl_max (T:Blt X.mg) (ha:PA X [e,e2] t) (hc:X.calm=true:=by rfl) (hg:Gl X "max":=by rfl) (he:starEach [e,e2] X.env=(false,eval e X.env)::starEach [e2] X.env:=by rfl) (hpl:(backTo pos (starEach [e2] X.env)).any (·.1)=false:=by rfl) :
  PE X (.Call (.Name "max" p) [e,e2] [] pos) (tCB (λxs H Q=>∃ i j,xs=[.int i,.int j]/\Q (.int (if j > i then j else i)) H) t):=
 cH (call_max2 hc) hg T.max boot_max' ha (by decide) (by decide) he hpl
theorem pl_min (T:Blt X.mg) (ha:PA X [e,e2] t) (hc:X.calm=true:=by rfl) (hg:Gl X "min":=by rfl) (he:starEach [e,e2] X.env=(false,eval e X.env)::starEach [e2] X.env:=by rfl) (hpl:(backTo pos (starEach [e2] X.env)).any (·.1)=false:=by rfl) :
  PE X (.Call (.Name "min" p) [e,e2] [] pos) (tCB (λxs H Q=>∃ i j,xs=[.int i,.int j]/\Q (.int (if j<i then j else i)) H) t):=
 cH (call_min2 hc) hg T.min boot_min' ha (by decide) (by decide) he hpl
theorem lY (T:Blt X.mg) (ha:PE X e te) (hg:Gl X "abs":=by rfl) (hs:starEach [e] X.env=[(false,eval e X.env)]:=by rfl):PE X (.Call (.Name "abs" p) [e] [] pos) (tCB (λxs H Q=>∃ i,xs=[.int i]/\Q (.int (if i<0 then -i else i)) H) (cu te bY)):=
 cH call_abs hg T.abs boot_abs' (aa ha ah hs) (by decide) (by decide) hs
def rIsM (K:Frag):List V->Hp->VK->Prop:=λxs H Q=>match xs with
 | [x,.ty c]=>∃ (t:Value) (b:Bool),mO K H x t/\kitOne K t (.type c)=some b/\Q (.bl b) H
 | _=>False
theorem call_isM:cV X (.builtin "isinstance") (rIsM X.K):=by
 intro pins s σ H xs us Q I rv h
 unfold rIsM at h
 split at h
 ·obtain ⟨t,b,ty,e,q⟩:=h
  exact call_isT pins s σ H _ us Q I rv ⟨_,t,_,b,rfl,ty,e,q⟩
 ·exact h.elim
theorem pl_is {cn:Str} {c:String} {p2:Pos} (T:Blt X.mg) (ha:PE X e te) (hm:X.mg cn=none) (hv:bootBuiltins cn=some (.type c)) (hg:Gl X "isinstance":=by rfl) (hg2:Gl X cn:=by rfl) (hn:cn ≠ "__name__":=by decide) (hd:(cn == ("__debug__" : Str))=false:=by decide)
  (he:starEach [e,.Name cn p2] X.env=(false,eval e X.env)::starEach [.Name cn p2] X.env:=by rfl) (he2:starEach [.Name cn p2] X.env=[(false,eval (.Name cn p2) X.env)]:=by rfl) :
  PE X (.Call (.Name "isinstance" p) [e,.Name cn p2] [] pos) (tCB (rIsM X.K) (cu te (cu (tC (.ty c)) bY))):=
 cH (X:=X) (p:=p) (pos:=pos) call_isM hg T.isinst boot_isinst (aa ha (aa (pe_bltn (v:=.ty c) (pos:=p2) hg2 hm hv rfl hn hd) ah he2) he) (by decide) (by decide) he (by rw [he2]; rfl)
end
theorem gj {J:It} {n:Nat} {acc:Addr} {g:TG} {tt:TT} {te:TE} {Q:VK} {σ0:St} {H0:Hp} (Pv:Nat->List V->St->Hp->Prop) (hn:n<=sizeLine) (h0:Pv 0 [] σ0 (upd H0 acc (.lst [])))
  (hgo:∀ i zs σ H,i<n->H acc=some (.lst zs)->Pv i zs σ H->J.go i H)
  (hst:∀ zs σ H,H acc=some (.lst zs)->Pv n zs σ H->J.stop n H)
  (hs:∀ i zs σ H x H',i<n->H acc=some (.lst zs)->zs.length<=i->Pv i zs σ H->J.yld i H x H'->g x σ H' λσ2 H2=>tt σ2 H2 λb H3=>
   if b=true then te σ2 H3 λy H4=>∃ ys,H4 acc=some (.lst ys)/\ys.length<sizeLine/\∃ zs,(upd H4 acc (.lst (ys++[y]))) acc=some (.lst zs)/\zs.length<=i+1/\Pv (i+1) zs σ2 (upd H4 acc (.lst (ys++[y])))
   else ∃ zs,H3 acc=some (.lst zs)/\zs.length<=i+1/\Pv (i+1) zs σ2 H3)
  (hd:∀ zs σ H,H acc=some (.lst zs)->zs.length<=n->Pv n zs σ H->Q (.ref acc) H) :
  ∃ W:Nat->Nat->St->Hp->Prop,(∃ m,W 0 m σ0 (upd H0 acc (.lst [])))/\∀ i m σ H,W i m σ H->
   (J.stop i H/\Q (.ref acc) H)\/(J.go i H/\∃ N:St->Hp->Prop,(∀ σ' H',N σ' H'->∃ m',m' < m/\W (i+1) m' σ' H')/\∀ x H',J.yld i H x H'->g x σ H' λσ2 H2=>tt σ2 H2 λb H3=>
    if b=true then te σ2 H3 λy H4=>∃ ys,H4 acc=some (.lst ys)/\ys.length<sizeLine/\N σ2 (upd H4 acc (.lst (ys++[y]))) else N σ2 H3):=by
 refine ⟨λi m σ H=>m=n-i/\i<=n/\∃ zs,H acc=some (.lst zs)/\zs.length<=i/\Pv i zs σ H,⟨n,by simp,Nat.zero_le _,[],af,Nat.le_refl _,h0⟩,?_⟩
 rintro i m σ H ⟨rfl,hi,zs,hz,hl,p⟩
 by_cases hlt:i<n
 ·refine .inr ⟨hgo i zs σ H hlt hz p,λσ' H'=>∃ zs,H' acc=some (.lst zs)/\zs.length<=i+1/\Pv (i+1) zs σ' H',λσ' H' p'=>⟨n-(i+1),by omega,rfl,hlt,p'⟩,λx H' y=>?_⟩
  exact hs i zs σ H x H' hlt hz hl p y
 ·have e:i=n:=by omega
  subst e
  exact .inl ⟨hst zs σ H hz p,hd zs σ H hz hl p⟩
theorem l0.sqT {K:Frag} {H H':Hp} {a:Addr} {xs:List V} (e:l0 H H') (h:SqT K H a xs):SqT K H' a xs:=by
 rcases h with (h | ⟨o,h⟩) | h
 ·exact .inl (.inl (e _ _ h))
 ·exact .inl (.inr ⟨o,e _ _ h⟩)
 ·exact .inr h
theorem l0.sqV {t:Bool} {K:Frag} {H H':Hp} {a:Addr} {xs:List V} (e:l0 H H') (h:SqV t K H a xs):SqV t K H' a xs:=by
 cases t
 ·exact l0.seq e h
 ·exact l0.sqT e h
theorem l0.new {H:Hp} {a:Addr} {o:HO} (h:H a=none):l0 H (upd H a o):=λb u e=>by rw [am (ak e h)]; exact e
theorem l0.put {H H':Hp} {a:Addr} {o:HO} (s:l0 H H') (h:H a=none):l0 H (upd H' a o):=λb u e=>by rw [am (ak e h)]; exact s b u e
theorem lB {α β γ:Type} (f:α->β->γ):∀ (xs:List α) (ys:List β) (i:Nat) (x:α) (y:β),xs[i]? = some x->ys[i]? = some y->(List.zipWith f xs ys).take (i+1)=(List.zipWith f xs ys).take i++[f x y]:=by
 intro xs ys i x y hx hy
 rw [take_succ,List.getElem?_zipWith,hx,hy]
 rfl
theorem take_map {α β:Type} (f:α->β) (xs:List α) (i:Nat) (x:α) (hx:xs[i]? = some x):(xs.map f).take (i+1)=(xs.map f).take i++[f x]:=by
 rw [take_succ,getElem?_map,hx]
 rfl
theorem comp_zip {t1 t2:Bool} {K K':Frag} {a b:Addr} {xs ys:List V} {te:TE} {Q:VK} {rest:St} {src:List (Option Nat)} {σ:St} {H0:Hp} (f:V->V->V) (hσ:dR src σ=none::none::rest) (hx:SqV t1 K H0 a xs) (hy:SqV t2 K H0 b ys) (hl:xs.length<=sizeLine)
  (he:∀ (i:Nat) x y H (R:VK),xs[i]? = some x->ys[i]? = some y->l0 H0 H->R (f x y) H->te (some x::some y::rest) H R)
  (hd:∀ acc H,H0 acc=none->l0 H0 H->H acc=some (.lst (List.zipWith f xs ys))->Q (.ref acc) H) :
  ft (Itz t1 t2 K a b) src (gTup K' 2 (gCons (dO 0) (gCons (dO 1) gNil))) tYes te σ H0 Q:=by
 intro acc hacc
 rw [hσ]
 have hlen:(List.zipWith f xs ys).length=min xs.length ys.length:=length_zipWith
 refine gj (n:=min xs.length ys.length) (λi zs σ H=>l0 H0 H/\zs=(List.zipWith f xs ys).take i/\∃ u v,σ=u::v::rest) (by omega) ⟨l0.new hacc,rfl,none,none,rfl⟩ ?_ ?_ ?_ ?_
 ·rintro i zs σ H hi hz ⟨sm,_⟩
  exact ⟨xs,ys,xs[i]'(by omega),ys[i]'(by omega),sm.sqV hx,sm.sqV hy,by simp,by simp⟩
 ·rintro zs σ H hz ⟨sm,_⟩
  refine ⟨xs,ys,sm.sqV hx,sm.sqV hy,?_⟩
  omega
 ·rintro i zs σ H x H' hi hz hzl ⟨sm,ez,u,v,rfl⟩ ⟨p,x1,y1,rfl,hp,rfl,gx,gy⟩
  have hx1:=gx xs (sm.sqV hx)
  have hy1:=gy ys (sm.sqV hy)
  have pacc:acc ≠ p:=ak hz hp
  have hp0:H0 p=none:=sm.free hp
  refine ⟨p,[x1,y1],rfl,SqT.of af,rfl,x1,[y1],rfl,y1,[],rfl,rfl,?_⟩
  show te (some x1::some y1::rest) _ _
  refine he i x1 y1 _ _ hx1 hy1 (sm.put hp0) ?_
  refine ⟨zs,by rw [am pacc]; exact hz,by omega,zs++[f x1 y1],af,by rw [length_append,length_singleton]; omega,(sm.put hp0).put hacc,?_,_,_,rfl⟩
  rw [lB f xs ys i x1 y1 hx1 hy1,ez]
 ·rintro zs σ H hz hzl ⟨sm,ez,_⟩
  refine hd acc H hacc sm ?_
  rw [hz,ez,take_of_length_le (by omega)]
theorem comp_tup {K:Frag} {a:Addr} {xs:List V} {te:TE} {Q:VK} {rest:St} {src:List (Option Nat)} {σ:St} {H0:Hp} (f:V->V) (hσ:dR src σ=none::rest) (hx:SqT K H0 a xs) (hl:xs.length<=sizeLine)
  (he:∀ (i:Nat) x H (R:VK),xs[i]? = some x->l0 H0 H->R (f x) H->te (some x::rest) H R)
  (hd:∀ acc H,H0 acc=none->l0 H0 H->H acc=some (.lst (xs.map f))->Q (.ref acc) H) :
  ft (Itt K a) src (dO 0) tYes te σ H0 Q:=by
 intro acc hacc
 rw [hσ]
 have hlen:(xs.map f).length=xs.length:=length_map ..
 refine gj (n:=xs.length) (λi zs σ H=>l0 H0 H/\zs=(xs.map f).take i/\∃ u,σ=u::rest) (by omega) ⟨l0.new hacc,rfl,none,rfl⟩ ?_ ?_ ?_ ?_
 ·rintro i zs σ H hi hz ⟨sm,_⟩
  exact ⟨xs,xs[i],sm.sqT hx,by simp⟩
 ·rintro zs σ H hz ⟨sm,_⟩
  exact ⟨xs,sm.sqT hx,Nat.le_refl _⟩
 ·rintro i zs σ H x H' hi hz hzl ⟨sm,ez,u,rfl⟩ ⟨rfl,gx⟩
  have hx1:=gx xs (sm.sqT hx)
  show te (some x::rest) _ _
  refine he i x _ _ hx1 sm ?_
  refine ⟨zs,hz,by omega,zs++[f x],af,by rw [length_append,length_singleton]; omega,sm.put hacc,?_,_,rfl⟩
  rw [take_map f xs i x hx1,ez]
 ·rintro zs σ H hz hzl ⟨sm,ez,_⟩
  refine hd acc H hacc sm ?_
  rw [hz,ez,take_of_length_le (by omega)]
theorem fc {J:It} {n:Nat} {src:List (Option Nat)} {g:TG} {tt:TT} {te:TE} {Q:VK} {σ σ0:St} {H0:Hp} (hσ:dR src σ=σ0) (Pv:Addr->Nat->List V->St->Hp->Prop) (hn:n<=sizeLine) (h0:∀ acc,H0 acc=none->Pv acc 0 [] σ0 (upd H0 acc (.lst [])))
  (hgo:∀ acc i zs σ H,H0 acc=none->i<n->H acc=some (.lst zs)->Pv acc i zs σ H->J.go i H)
  (hst:∀ acc zs σ H,H0 acc=none->H acc=some (.lst zs)->Pv acc n zs σ H->J.stop n H)
  (hs:∀ acc i zs σ H x H',H0 acc=none->i<n->H acc=some (.lst zs)->zs.length<=i->Pv acc i zs σ H->J.yld i H x H'->g x σ H' λσ2 H2=>tt σ2 H2 λb H3=>
   if b=true then te σ2 H3 λy H4=>∃ ys,H4 acc=some (.lst ys)/\ys.length<sizeLine/\∃ zs,(upd H4 acc (.lst (ys++[y]))) acc=some (.lst zs)/\zs.length<=i+1/\Pv acc (i+1) zs σ2 (upd H4 acc (.lst (ys++[y])))
   else ∃ zs,H3 acc=some (.lst zs)/\zs.length<=i+1/\Pv acc (i+1) zs σ2 H3)
  (hd:∀ acc zs σ H,H0 acc=none->H acc=some (.lst zs)->zs.length<=n->Pv acc n zs σ H->Q (.ref acc) H):ft J src g tt te σ H0 Q:=by
 intro acc hacc
 rw [hσ]
 exact gj (Pv acc) hn (h0 acc hacc) (λi zs σ H=>hgo acc i zs σ H hacc) (λzs σ H=>hst acc zs σ H hacc) (λi zs σ H x H'=>hs acc i zs σ H x H' hacc) (λzs σ H=>hd acc zs σ H hacc)
theorem gn {X:Cx} {i:Nat} {x:Str} {pos:Pos} (hN:X.N.Nodup) (hi:X.N[i]? = some x) (hx:X.env.scope.names.lookup x=some .local):PG X (.Name x pos) (dO i):=bw hN hi (.inl hx) (.inr hx)
section
variable {X:Cx} (K:Frag) {p pos:Pos} {e e2:Expr} {es:List Expr} {t:TA} {te te2:TE}
theorem bI {i j:Nat} {x y:Str} {p1 p2 pos:Pos} {k:Nat} (hK:X.K=K) (hc:X.calm=true) (hN:X.N.Nodup) (hi:X.N[i]? = some x) (hj:X.N[j]? = some y) (hx:X.env.scope.names.lookup x=some .local) (hy:X.env.scope.names.lookup y=some .local) :
  PG X (.Tuple [.Name x p1,.Name y p2] k pos) (gTup K 2 (gCons (dO i) (gCons (dO j) gNil))):=by
 subst hK
 exact pg_tup hc (bZ (gn hN hi hx) (bZ (gn hN hj hy) lR))
theorem aM (hK:X.K=K):IxR X (rIxL K):=hK ▸ ix_list
theorem aw (hK:X.K=K):IxR X (rIxT K):=hK ▸ ix_tup
theorem jo (hK:X.K=K):SlR X (rSlL K):=hK ▸ sl_list
theorem keqD (hK:X.K=K) (hu:X.A.units+64<cLine):OpR X (compareOp .Eq) (rEqD K):=hK ▸ op_eqD hu
theorem kneD (hK:X.K=K) (hu:X.A.units+64<cLine):OpR X (compareOp .NotEq) (rNeD K):=hK ▸ op_neD hu
theorem bo {tg:Expr} (hK:X.K=K) (hl:PE X e te):PI X tg e (iList K te):=hK ▸ pi_list hl
theorem kpi_tup {tg:Expr} (hK:X.K=K) (hl:PE X e te):PI X tg e (iTup K te):=hK ▸ pi_tup hl
theorem lS (t1 t2:Bool) {es:List Expr} {ek:Nat} {ep:Pos} {a b:Expr} {ta:TA} (hK:X.K=K) (hg:Gl X "zip") (hm:X.mg "zip" = none) (ha:PA X [a,b] ta) (hs:starEach [a,b] X.env=[(false,eval a X.env),(false,eval b X.env)]:=by rfl) (hs2:starEach [b] X.env=[(false,eval b X.env)]:=by rfl) :
  PI X (.Tuple es ek ep) (.Call (.Name "zip" p) [a,b] [] pos) (iZip t1 t2 K ta):=hK ▸ pi_zip t1 t2 hg hm ha hs hs2
def rLen (K:Frag):List V->Hp->VK->Prop:=λxs H Q=>∃ p ys,xs=[.ref p]/\(SqL K H p ys\/SqT K H p ys)/\Q (.int ys.length) H
def rAll (b:Bool) (K:Frag):List V->Hp->VK->Prop:=λxs H Q=>∃ (p:Addr) (bs:List Bool),xs=[.ref p]/\SqV b K H p (bs.map V.bl)/\Q (.bl (bs.all id)) H
def rSum (b:Bool) (K:Frag):List V->Hp->VK->Prop:=λxs H Q=>∃ (p:Addr) (ns:List Int),xs=[.ref p]/\SqV b K H p (ns.map V.int)/\Q (.int ns.sum) H
def rTuple (K:Frag):List V->Hp->VK->Prop:=λxs H Q=>∃ p ys,xs=[.ref p]/\SqL K H p ys/\∀ l,H l=none->Q (.ref l) (upd H l (.tup ys))
theorem dw (T:Blt X.mg) (ha:PE X e te) (hK:X.K=K:=by rfl) (hg:Gl X "len":=by rfl) (hs:starEach [e] X.env=[(false,eval e X.env)]:=by rfl):PE X (.Call (.Name "len" p) [e] [] pos) (tCB (rLen K) (cu te bY)):=by
 subst hK; exact pl_len T ha hg hs
theorem kpl_all (T:Blt X.mg) (ha:PE X e te) (b:Bool) (hK:X.K=K:=by rfl) (hc:X.calm=true:=by rfl) (hg:Gl X "all":=by rfl) (hs:starEach [e] X.env=[(false,eval e X.env)]:=by rfl):PE X (.Call (.Name "all" p) [e] [] pos) (tCB (rAll b K) (cu te bY)):=by
 subst hK; exact pl_all T ha b hc hg hs
theorem kpl_sum (T:Blt X.mg) (ha:PE X e te) (b:Bool) (hK:X.K=K:=by rfl) (hc:X.calm=true:=by rfl) (hg:Gl X "sum":=by rfl) (hs:starEach [e] X.env=[(false,eval e X.env)]:=by rfl):PE X (.Call (.Name "sum" p) [e] [] pos) (tCB (rSum b K) (cu te bY)):=by
 subst hK; exact pl_sum T ha b hc hg hs
theorem gB (T:Blt X.mg) (ha:PE X e te) (hK:X.K=K:=by rfl) (hg:Gl X "tuple":=by rfl) (hs:starEach [e] X.env=[(false,eval e X.env)]:=by rfl):PE X (.Call (.Name "tuple" p) [e] [] pos) (tCB (rTuple K) (cu te bY)):=by
 subst hK; exact pl_tuple T ha hg hs
theorem gI {cn:Str} {c:String} {p2:Pos} (T:Blt X.mg) (ha:PE X e te) (hm:X.mg cn=none) (hv:bootBuiltins cn=some (.type c)) (hK:X.K=K:=by rfl) (hg:Gl X "isinstance":=by rfl) (hg2:Gl X cn:=by rfl) (hn:cn ≠ "__name__":=by decide) (hd:(cn == ("__debug__" : Str))=false:=by decide)
  (he:starEach [e,.Name cn p2] X.env=(false,eval e X.env)::starEach [.Name cn p2] X.env:=by rfl) (he2:starEach [.Name cn p2] X.env=[(false,eval (.Name cn p2) X.env)]:=by rfl) :
  PE X (.Call (.Name "isinstance" p) [e,.Name cn p2] [] pos) (tCB (rIsM K) (cu te (cu (tC (.ty c)) bY))):=by
 subst hK; exact pl_is T ha hm hv hg hg2 hn hd he he2
end
section
variable {X:Cx} (K:Frag) {p pos:Pos} {e e2:Expr} {es:List Expr} {t:TA} {te te2:TE}
def rListT (K:Frag):List V->Hp->VK->Prop:=λxs H Q=>∃ p ys,xs=[.ref p]/\(SqL K H p ys\/SqT K H p ys)/\∀ l,H l=none->Q (.ref l) (upd H l (.lst ys))
theorem kpl_list (T:Blt X.mg) (ha:PE X e te) (hK:X.K=K:=by rfl) (hg:Gl X "list":=by rfl) (hs:starEach [e] X.env=[(false,eval e X.env)]:=by rfl):PE X (.Call (.Name "list" p) [e] [] pos) (tCB (rListT K) (cu te bY)):=by
 subst hK; exact fy kY hg T.list iK (aa ha ah hs) (by decide) (by decide) hs
end
theorem mO.same {K:Frag} {H H':Hp} {x:V} {t:Value} (s:l0 H H') (h:mO K H x t):mO K H' x t:=by
 cases h with
 | non=>exact .non
 | bl b=>exact .bl b
 | int i=>exact .int i
 | str x=>exact .str x
 | flt x=>exact .flt x
 | lst e=>exact .lst (s _ _ e)
 | frz e=>exact .frz (s _ _ e)
 | tup e=>exact .tup (s _ _ e)
 | dK e=>exact .dK (s _ _ e)
 | dT e=>exact .dT (s _ _ e)
 | ins e cl ha hn htk hm=>exact .ins (s _ _ e) cl ha hn htk hm
theorem set_cut {i:Nat} {x:V} {t u:TS} {D:gq} {σ:St} {H:Hp} (M:St->Hp->Prop) (h1:∀ R:St->Hp->Prop,(∀ σ' H',M σ' H'->R σ' H')->t { D with nx:=R } (σ.set i (some x)) H) (h2:∀ σ' H',M σ' H'->u D σ' H'):dO i x σ H (tSeq t u D):=h1 (u D) h2
section
open PySem.SeqAt
open PySem.AutoSeq1 (wpAny_loadPart')
open PySem.MeetsSeq PySem.MeetsSeq2 PySem.MeetsSeq3
end
theorem ints_inj:∀ {ns ms:List Int},ns.map V.int=ms.map V.int->ns=ms
 | [],[],_=>rfl
 | [],_::_,h=>by cases h
 | _::_,[],h=>by cases h
 | n::ns,m::ms,h=>by
  rw [map_cons,map_cons] at h
  injection h with h1 h2
  injection h1 with h1
  rw [h1,ints_inj h2]
section
variable {X:Cx} {K:Frag}
end
def tOrE (t1 t2:TE):TE:=λσ H Q=>t1 σ H Q\/t2 σ H Q
def tMk0 (C:Addr):TE:=λσ H Q=>∀ x dx,H x=none->H dx=none->dx ≠ x->Q (.ref x) (upd (upd H dx (.own x)) x (.ins C dx []))
section
variable {X:Cx} {C:Addr} {x:Str} {p pos apos:Pos} {e o:Expr} {es:List Expr} {te ta t1 t2:TE} {t:TA}
theorem kP (h1:PE X e t1) (h2:PE X e t2):PE X e (tOrE t1 t2):=λpins s σ H Q I h=>h.elim (h1 pins s σ H Q I) (h2 pins s σ H Q I)
structure Mk0 (K:Frag) (C:Addr):Prop where
 makes:makesIn K C=true
 init:findIn K (.ref C) "__init__"=some (some (.builtin "object.__init__"))
 kp:keepIn K (.ref C)=true
theorem pe_mk0 (M:Mk0 X.K C) (hm:X.mg x=some (.ref C)) (hg:Gl X x:=by rfl) (hdb:(x == ("__debug__" : Str))=false:=by decide):PE X (.Call (.Name x p) [] [] pos) (tMk0 C):=by
 intro pins s σ H Q I h
 refine wpAny_Call_Name_kw (gi I hg hm ?_ hdb)
 have hq:=h (s.heap.objs.size+1) s.heap.objs.size (I.hok.fresh (Nat.le_succ _)) (I.hok.fresh (Nat.le_refl _)) (Nat.ne_of_lt (Nat.lt_succ_self _))
 have I2:=Inv.made (C:=C) I
 refine PySem.W.callWith_K0 I.kIn M.kp (wpAny_call (make_map0 I.kIn M.makes M.init (λself=>PySem.W.Looks.of_pure (PySem.W.oi_bind self)) ?_))
 have Y:=PySem.W.makes_of (M:=model X.prog X.w) I.kIn M.makes
 have hx:((s.heap.push emptyDict).push (instObj C s.heap.objs.size)).get? (s.heap.objs.size+1)=some (instObj C s.heap.objs.size):=by
  have:=get?_push_size (s.heap.push emptyDict) (o:=instObj C s.heap.objs.size) rfl
  rwa [size_push] at this
 have y1:PySem.W.Looks (model X.prog X.w) ((s.heap.push emptyDict).push (instObj C s.heap.objs.size)) (typeOf (.ref (s.heap.objs.size+1))) (.ref C):=(PySem.W.Looks.ld hx).andThen .now
 have y2:PySem.W.Looks (model X.prog X.w) ((s.heap.push emptyDict).push (instObj C s.heap.objs.size)) (isInstance (.ref (s.heap.objs.size+1)) (.type "object")) true:=y1.andThen (Y.top.keeps λb o e=>get?_push_of_some _ (get?_push_of_some _ e))
 obtain ⟨hh,g,d,tk,os⟩:=s
 refine codeAny_call_builtin PySem.W.oi_plain PySem.W.entry_oi (@PySem.W.check_slot (model X.prog X.w) _ _ _ "object.__init__" "object" "__init__" (.ref (hh.objs.size+1)) [] [] _ PySem.W.oi_kind PySem.W.oi_split y2 (PySem.W.oi_args (.ref (hh.objs.size+1))) ?_)
 rw [PySem.W.oi_run]
 exact wpAny_pure (And.intro rfl ⟨V.ref (hh.objs.size+1),_,I2,rfl,hq⟩)
end
structure MtB (P:Program) (w:World) (K:Frag) (mg:Str->Option Value) (base:Heap) (k:Nat) (C:Addr) (m:Str) (sp:Sp):Prop where
 ex:∃ f fd ps,me P w K mg base CX0 k f fd ps sp/\fH K C m f/\mF K fd ps []
 cl:Cls K C
structure MkB (P:Program) (w:World) (K:Frag) (mg:Str->Option Value) (base:Heap) (k:Nat) (C:Addr) (x:Str) (sp:Sp):Prop where
 ex:∃ f fd ps,me P w K mg base CX0 k f fd ps sp/\Mk K C f/\mF K fd ps []
 at_:mg x=some (.ref C)
section
variable {X:Cx} {C:Addr} {x m:Str} {k:Nat} {sp:Sp} {p pos apos:Pos} {e o:Expr} {es:List Expr} {te ta:TE} {t:TA}
theorem pe_mt {pl:Sem Bool} (M:MtB X.prog X.w X.K X.mg X.base k C m sp) (hr:mj k X.A) (he:PE X o ta) (ha:PA X (e::es) t)
  (hst:starEach (e::es) X.env=(false,eval e X.env)::starEach es X.env:=by rfl) (hpl:(backTo pos (starEach es X.env)).any (·.1)=false:=by rfl)
  (ht:eval (.Call (.Attribute o m apos) (e::es) [] pos) X.env=(do
   let ov <- eval o X.env
   standAt apos.atName
   let (f,first) <- holding [ov] (getMethod ov m pl)
   callWith pos f first (backTo pos (starEach (e::es) X.env)) (backToKw pos (keywordEach [] X.env))):=by rfl) :
  PE X (.Call (.Attribute o m apos) (e::es) [] pos) (eh C m sp [] E0 ta t):=by
 obtain ⟨f,fd,ps,F,hm,hb⟩:=M.ex
 exact pe_meth he M.cl hm F hr hb .nil pass0 ha hst hpl ht
theorem pe_mkB (M:MkB X.prog X.w X.K X.mg X.base k C x sp) (hr:mj (k+1) X.A) (ha:PA X (e::es) t) (hg:Gl X x:=by rfl) (hdb:(x == ("__debug__" : Str))=false:=by decide)
  (he:starEach (e::es) X.env=(false,eval e X.env)::starEach es X.env:=by rfl) (hpl:(backTo pos (starEach es X.env)).any (·.1)=false:=by rfl) :
  PE X (.Call (.Name x p) (e::es) [] pos) (tMake C sp [] E0 t):=by
 obtain ⟨f,fd,ps,F,hm,hb⟩:=M.ex
 exact pe_make hm F hr hg M.at_ hb .nil pass0 ha hdb he hpl
end
end L2
namespace L2
def nrm (a b:Int):Int × Int:=if b<0 then (a.fdiv (-(Int.gcd a b:Int)),b.fdiv (-(Int.gcd a b:Int))) else (a.fdiv (Int.gcd a b:Int),b.fdiv (Int.gcd a b:Int))
theorem je (a b:Int) (h:b ≠ 0):∃ (g:Nat) (a' b':Int),0<g/\Int.gcd a b=g/\a=g*a'/\b=g*b'/\Int.gcd a' b'=1/\nrm a b=(if b<0 then (-a',-b') else (a',b')):=by
 have hg:0<Int.gcd a b:=Int.gcd_pos_of_ne_zero_right a h
 obtain ⟨a',ha⟩:=Int.gcd_dvd_left (a:=a) (b:=b)
 obtain ⟨b',hb⟩:=Int.gcd_dvd_right (a:=a) (b:=b)
 have hg0:(Int.gcd a b:Int) ≠ 0:=by omega
 refine ⟨Int.gcd a b,a',b',hg,rfl,ha,hb,?_,?_⟩
 ·have e:Int.gcd (Int.gcd a b*a') (Int.gcd a b*b')=Int.gcd a b*Int.gcd a' b':=by
   rw [Int.gcd_mul_left]; rfl
  rw [<- ha,<- hb] at e
  have:Int.gcd a b*1=Int.gcd a b*Int.gcd a' b':=by omega
  exact (Nat.eq_of_mul_eq_mul_left hg this).symm
 ·unfold nrm
  generalize hG:(Int.gcd a b:Int)=G at *
  have f1:a.fdiv G=a':=by rw [ha]; exact Int.mul_fdiv_cancel_left _ hg0
  have f2:b.fdiv G=b':=by rw [hb]; exact Int.mul_fdiv_cancel_left _ hg0
  have f3:a.fdiv (-G) = -a':=by rw [ha,show G*a'=(-G)*(-a') by rw [Int.neg_mul_neg]]; exact Int.mul_fdiv_cancel_left _ (by omega)
  have f4:b.fdiv (-G) = -b':=by rw [hb,show G*b'=(-G)*(-b') by rw [Int.neg_mul_neg]]; exact Int.mul_fdiv_cancel_left _ (by omega)
  rw [f1,f2,f3,f4]
theorem bv (a b:Int) (h:b ≠ 0):0<(nrm a b).2:=by
 obtain ⟨g,a',b',hg,_,ha,hb,_,e⟩:=je a b h
 rw [e]
 by_cases hb0:b<0
 ·rw [if_pos hb0]
  show 0 < -b'
  have:¬ 0<=b':=λz=>by have:=Int.mul_nonneg (show (0:Int)<=g by omega) z; omega
  omega
 ·rw [if_neg hb0]
  show 0<b'
  have:¬ b' <= 0:=λz=>by have:=Int.mul_nonneg (show (0:Int)<=g by omega) (show 0 <= -b' by omega); rw [Int.mul_neg] at this; omega
  omega
theorem bV (a b:Int) (h:b ≠ 0):Int.gcd (nrm a b).1 (nrm a b).2=1:=by
 obtain ⟨g,a',b',hg,_,ha,hb,c,e⟩:=je a b h
 rw [e]
 split
 ·show Int.gcd (-a') (-b')=1
  rw [Int.neg_gcd,Int.gcd_neg]
  exact c
 ·exact c
theorem dh (a b:Int) (h:b ≠ 0):(nrm a b).1*b=a*(nrm a b).2:=by
 obtain ⟨g,a',b',hg,_,ha,hb,c,e⟩:=je a b h
 rw [e]
 split
 ·show -a' * b=a * -b'
  rw [ha,hb,Int.neg_mul,Int.mul_neg,Int.mul_left_comm,Int.mul_assoc]
 ·show a' * b=a*b'
  rw [ha,hb,Int.mul_left_comm,Int.mul_assoc]
theorem fC (g:Nat) (x:Int) (hg:0<g):x.natAbs<=((g:Int)*x).natAbs:=by
 rw [Int.natAbs_mul,Int.natAbs_natCast]
 exact Nat.le_mul_of_pos_left _ hg
theorem lj (a b:Int) (h:b ≠ 0):(nrm a b).1.natAbs<=a.natAbs/\(nrm a b).2.natAbs<=b.natAbs:=by
 obtain ⟨g,a',b',hg,_,ha,hb,c,e⟩:=je a b h
 have h1:=fC g a' hg
 have h2:=fC g b' hg
 rw [<- ha] at h1
 rw [<- hb] at h2
 rw [e]
 split
 ·exact ⟨by show (-a').natAbs<=_; omega,by show (-b').natAbs<=_; omega⟩
 ·exact ⟨h1,h2⟩
theorem dZ (a b:Int) (h:0<b):nrm a b=(a,b)↔Int.gcd a b=1:=by
 obtain ⟨g,a',b',hg,eg,ha,hb,c,e⟩:=je a b (by omega)
 constructor
 ·intro z
  have:=bV a b (by omega)
  rw [z] at this
  exact this
 ·intro z
  rw [z] at eg
  subst eg
  rw [e,if_neg (by omega)]
  rw [show a'=a by omega,show b'=b by omega]
theorem idvd {k m n:Int} (h:Int.gcd k m=1) (hd:k ∣ m*n):k ∣ n:=Int.natAbs_dvd_natAbs.mp (Nat.Coprime.dvd_of_dvd_mul_left (show Nat.Coprime k.natAbs m.natAbs from h) (by rw [<- Int.natAbs_mul]; exact Int.natAbs_dvd_natAbs.mpr hd))
theorem low_one {n d n' d':Int} (h1:0<d) (h2:0<d') (c1:Int.gcd n d=1) (c2:Int.gcd n' d'=1) (e:n*d'=n' * d):n=n'/\d=d':=by
 have g1:Int.gcd d n=1:=by rw [Int.gcd_comm]; exact c1
 have g2:Int.gcd d' n'=1:=by rw [Int.gcd_comm]; exact c2
 have d1:d ∣ d':=idvd g1 (show d ∣ n*d' from ⟨n',by rw [e,Int.mul_comm]⟩)
 have d2:d' ∣ d:=idvd g2 (show d' ∣ n' * d from ⟨n,by rw [<- e,Int.mul_comm]⟩)
 have ed:d=d':=Int.dvd_antisymm (by omega) (by omega) d1 d2
 subst ed
 exact ⟨Int.eq_of_mul_eq_mul_right (by omega) e,rfl⟩
end L2
namespace L2
open PySem PySem.Spec PyProof.Rows
theorem comp_lst {K:Frag} {a:Addr} {xs:List V} {te:TE} {Q:VK} {rest:St} {src:List (Option Nat)} {σ:St} {H0:Hp} (f:V->V) (hσ:dR src σ=none::rest) (hx:SqL K H0 a xs) (hl:xs.length<=sizeLine)
  (he:∀ (i:Nat) x H (R:VK),xs[i]? = some x->l0 H0 H->R (f x) H->te (some x::rest) H R)
  (hd:∀ acc H,H0 acc=none->l0 H0 H->H acc=some (.lst (xs.map f))->Q (.ref acc) H) :
  ft (Itl K a) src (dO 0) tYes te σ H0 Q:=by
 intro acc hacc
 rw [hσ]
 have hlen:(xs.map f).length=xs.length:=length_map ..
 refine gj (n:=xs.length) (λi zs σ H=>l0 H0 H/\zs=(xs.map f).take i/\∃ u,σ=u::rest) (by omega) ⟨l0.new hacc,rfl,none,rfl⟩ ?_ ?_ ?_ ?_
 ·rintro i zs σ H hi hz ⟨sm,_⟩
  exact ⟨xs,xs[i],sm.seq hx,by simp⟩
 ·rintro zs σ H hz ⟨sm,_⟩
  exact ⟨xs,sm.seq hx,Nat.le_refl _⟩
 ·rintro i zs σ H x H' hi hz hzl ⟨sm,ez,u,rfl⟩ ⟨rfl,gx⟩
  have hx1:=gx xs (sm.seq hx)
  show te (some x::rest) _ _
  refine he i x _ _ hx1 sm ?_
  refine ⟨zs,hz,by omega,zs++[f x],af,by rw [length_append,length_singleton]; omega,sm.put hacc,?_,_,rfl⟩
  rw [take_map f xs i x hx1,ez]
 ·rintro zs σ H hz hzl ⟨sm,ez,_⟩
  refine hd acc H hacc sm ?_
  rw [hz,ez,take_of_length_le (by omega)]
end L2
set_option exponentiation.threshold 5000
namespace L2
open PySem PySem.Spec PyProof.Rows
def aU (P:Int) (x y:Int × Int):Int × Int:=if P=0 then nrm (x.1*y.2+y.1*x.2) (x.2*y.2) else ((x.1+y.1) % P,1)
def subN (P:Int) (x y:Int × Int):Int × Int:=if P=0 then nrm (x.1*y.2-y.1*x.2) (x.2*y.2) else ((x.1-y.1) % P,1)
def bf (P:Int) (x y:Int × Int):Int × Int:=if P=0 then nrm (x.1*y.1) (x.2*y.2) else ((x.1*y.1) % P,1)
def OkN (P:Int) (x:Int × Int):Prop:=(P=0/\0<x.2/\Int.gcd x.1 x.2=1)\/(P ≠ 0/\0<=x.1/\x.1<P/\x.2=1)
theorem lO {a b:Int} (h:b ≠ 0):OkN 0 (nrm a b):=.inl ⟨rfl,bv a b h,bV a b h⟩
theorem kN {P a:Int} (h:0<=P) (h0:P ≠ 0):OkN P (a % P,1):=.inr ⟨h0,Int.emod_nonneg a h0,Int.emod_lt_of_pos a (by omega),rfl⟩
theorem OkN.den {P:Int} {x:Int × Int} (h:OkN P x):0<x.2:=by
 rcases h with ⟨_,h,_⟩ | ⟨_,_,_,h⟩<;>omega
theorem fh {x y:Int × Int} (h1:0<x.2) (h2:0<y.2):x.2*y.2 ≠ 0:=λz=>by have:=Int.mul_pos h1 h2; omega
theorem lJ {P:Int} {x y:Int × Int} (hP:0<=P) (h1:OkN P x) (h2:OkN P y):OkN P (aU P x y):=by
 unfold aU
 split
 ·rename_i h; subst h; exact lO (fh h1.den h2.den)
 ·exact kN hP ‹_›
theorem iC {P:Int} {x y:Int × Int} (hP:0<=P) (h1:OkN P x) (h2:OkN P y):OkN P (bf P x y):=by
 unfold bf
 split
 ·rename_i h; subst h; exact lO (fh h1.den h2.den)
 ·exact kN hP ‹_›
theorem ce {P:Int} (hP:0<=P) (h2:P ≠ 1):OkN P (0,1):=by
 by_cases h:P=0
 ·exact .inl ⟨h,by decide,by decide⟩
 ·exact .inr ⟨h,by decide,by show (0:Int)<P; omega,rfl⟩
def Sz (k:Nat) (x:Int × Int):Prop:=x.1.natAbs<2 ^ k/\x.2.natAbs<2 ^ k
theorem eE {a b:Int} {i j:Nat} (h1:a.natAbs<2 ^ i) (h2:b.natAbs<2 ^ j):(a*b).natAbs<2 ^ (i+j):=by
 rw [Int.natAbs_mul,Nat.pow_add]
 exact Nat.mul_lt_mul'' h1 h2
theorem sz_add {a b:Int} {k:Nat} (h1:a.natAbs<2 ^ k) (h2:b.natAbs<2 ^ k):(a+b).natAbs<2 ^ (k+1)/\(a-b).natAbs<2 ^ (k+1):=by
 rw [Nat.pow_succ]
 omega
theorem cA {i j:Nat} (h:i<=j):2 ^ i<=2 ^ j:=Nat.pow_le_pow_right (by decide) h
theorem Sz.mono {i j:Nat} {x:Int × Int} (h:Sz i x) (hij:i<=j):Sz j x:=⟨Nat.lt_of_lt_of_le h.1 (cA hij),Nat.lt_of_lt_of_le h.2 (cA hij)⟩
theorem lP {a b:Int} {k:Nat} (hb:b ≠ 0) (h1:a.natAbs<2 ^ k) (h2:b.natAbs<2 ^ k):Sz k (nrm a b):=⟨Nat.lt_of_le_of_lt (lj a b hb).1 h1,Nat.lt_of_le_of_lt (lj a b hb).2 h2⟩
theorem kO {P a:Int} (h:0<=P) (h0:P ≠ 0) (h9:P<=9973) {k:Nat} (hk:14<=k):Sz k (a % P,1):=by
 have h1:=Int.emod_nonneg a h0
 have h2:=Int.emod_lt_of_pos a (show 0<P by omega)
 have h3:2 ^ 14<=2 ^ k:=cA hk
 exact ⟨by show (a % P).natAbs<2 ^ k; omega,by show (1:Int).natAbs<2 ^ k; omega⟩
theorem sz_addN {P:Int} {x y:Int × Int} {i j:Nat} (hP:0<=P) (h9:P<=9973) (o1:OkN P x) (o2:OkN P y) (h1:Sz i x) (h2:Sz j y) (hi:14<=i):Sz (i+j+1) (aU P x y)/\Sz (i+j+1) (subN P x y)/\Sz (i+j+1) (bf P x y):=by
 have d:=fh o1.den o2.den
 have m1:=eE h1.1 h2.2
 have m2:=eE h2.1 h1.2
 rw [Nat.add_comm j i] at m2
 have m3:=eE h1.2 h2.2
 have m4:=eE h1.1 h2.1
 have a:=sz_add m1 m2
 have le:2 ^ (i+j)<=2 ^ (i+j+1):=cA (by omega)
 refine ⟨?_,?_,?_⟩
 ·unfold aU
  split
  ·exact lP d a.1 (by omega)
  ·exact kO hP ‹_› h9 (by omega)
 ·unfold subN
  split
  ·exact lP d a.2 (by omega)
  ·exact kO hP ‹_› h9 (by omega)
 ·unfold bf
  split
  ·exact lP d (by omega) (by omega)
  ·exact kO hP ‹_› h9 (by omega)
structure FunD (K:Frag) (x qual:Str) (st:Stmt) (f:Addr) (fd:FuncData):Prop where
 ex:∃ (oc:Value) (od:Option Addr) (dV kV doc pm:Value) (an:Option Addr) (cdv ct:Value) (osl:Array (Option Value)),
  fd=fnOf x qual (aJ st) (aH st) (aj st) dV kV doc pm an cdv ct/\K.lookup f=some ⟨oc,od,.func fd,osl⟩/\codeIn K cdv qual=true
 kp:keepIn K (.ref f)=true
section
variable {P:Program} {w:World} {K:Frag} {mg:Str->Option Value} {base:Heap}
theorem funD_mk {x qual:Str} {st:Stmt} {f:Addr} {oc:Value} {od an:Option Addr} {osl:Array (Option Value)} {dV kV doc pm cdv ct:Value} (l:K.lookup f=some ⟨oc,od,.func (fnOf x qual (aJ st) (aH st) (aj st) dV kV doc pm an cdv ct),osl⟩)
  (c:codeIn K cdv qual=true) (k:keepIn K (.ref f)=true):FunD K x qual st f (fnOf x qual (aJ st) (aH st) (aj st) dV kV doc pm an cdv ct):=⟨⟨oc,od,dV,kV,doc,pm,an,cdv,ct,osl,rfl,l,c⟩,k⟩
end
structure Fly (P:Program) (w:World) (outer:List Env) (H:Hp) (s:Shared) (x:Addr) (cls:Value) (B:Heap) (H':Hp) (s':Shared):Prop where
 os:s'.os=s.os
 bare:AllBare s'.gens
 fly:∃ a0,Heap.FlyingW B outer x cls a0 s'.heap
 keep:∀ b o,s.heap.get? b=some o->H b=none->b ∉ frs outer->B.get? b=some o
 there:∀ b o,s.heap.get? b=some o->b ∉ frs outer->∃ o',B.get? b=some o'
 slot:∀ b o,s.heap.get? b=some o->b ∈ frs outer->∃ sl,s'.heap.get? b=some { o with slots:=sl }
 free:∀ b o,s.heap.get? b=some o->H b=none->H' b=none
 tups:∀ b xs,H b=some (.tup xs)->H' b=some (.tup xs)
 frzs:∀ b o u,H b=some (.frz o u)->H' b=some (.frz o u)
 tbls:∀ b ps,H b=some (.tbl ps)->∃ more,H' b=some (.tbl (ps++more))
 hok:HOk P w H' B
def CXE (P:Program) (w:World):CXT:=λouter H s E e s'=>∃ x cls B H',e=.ref x/\Fly P w outer H s x cls B H' s'/\E cls none H'
theorem gz {X:Cx} {P:Program} {w:World}:cf (CXE P w) X E0:=λ_ _ _ _ _ _ _ ⟨_,_,_,_,_,_,z⟩=>z.elim
section
variable {P:Program} {w:World} {K:Frag} {mg:Str->Option Value} {base:Heap} {N:List Str} {qual:Str} {scope:Scope} {f:Addr} {cd:Value} {A:Around} {outer:List Env} {s₀ s:Shared} {H₀ H:Hp} {E:XK} {pins:List (Addr × Obj)} {σ:St}
theorem xe_raise {h':Heap} {e:Addr} {cls:Value} {args:List Value} (I:Inv (cB (CXE P w) P w K mg base N qual scope f cd A outer s₀ H₀ E) pins σ H s) (hx:Heap.MadeExcOf s.heap h' e cls args) (q:E cls none H) :
  (cB (CXE P w) P w K mg base N qual scope f cd A outer s₀ H₀ E).xe (.ref e) { s with heap:=h' }:=by
 show wpAny (model P w) (A.deeper (envOfC qual scope s₀.heap.objs.size f cd)) (leaving (envOfC qual scope s₀.heap.objs.size f cd) (.ref e)) (λ_ s''=>CXE P w outer H₀ s₀ E (.ref e) s'') (λe' s''=>CXE P w outer H₀ s₀ E e' s'') { s with heap:=h' }
 have hst:s.heap.FunFrames base (envOfC qual scope s₀.heap.objs.size f cd::outer):=I.stack
 have noEx:∀ b:Addr,b ∉ (cB (CXE P w) P w K mg base N qual scope f cd A outer s₀ H₀ E).ex:=λb z=>absurd (show b ∈ ([]:List Addr) from z) (by simp)
 have nL:∀ b o,s₀.heap.get? b=some o->b ∉ frs outer->b ∉ frs (envOfC qual scope s₀.heap.objs.size f cd::outer):=λb o e1 hb hm=>by
  rcases List.mem_cons.mp (I.stkSub b hm) with z | z
  ·have hlt:=lt_size e1
   rw [show b=s₀.heap.objs.size from z] at hlt
   exact absurd hlt (Nat.lt_irrefl _)
  ·exact hb z
 refine wpAny_leaves_madeW (base:=PySem.W.hideAll s.heap (frs (envOfC qual scope s₀.heap.objs.size f cd::outer))) (h:=s.heap) I.ok.frames rfl (λb o z=>PySem.W.of_hideAll _ z)
  (PySem.W.funFrames_hide hst λenv he a ha=>List.mem_filterMap.mpr ⟨env,he,ha⟩) hx λh'' t fl _ _ up=>?_
 refine ⟨e,cls,_,H,rfl,⟨I.os,I.bare,⟨_,fl⟩,λb o e1 n hb=>?_,λb o e1 hb=>?_,λb o e1 hb=>?_,λb o e1 n=>I.base.free b o e1 n (noEx b),I.base.tups,I.base.frzs,I.base.tbls,λa ob ea=>?_⟩,q⟩
 ·exact hideAll_get _ (I.base.keep b o e1 n hb (noEx b)) (nL b o e1 hb)
 ·obtain ⟨o',e2⟩:=I.base.there b o e1 (noEx b)
  exact ⟨o',hideAll_get _ e2 (nL b o e1 hb)⟩
 ·obtain ⟨sl,e2⟩:=I.base.slot b o e1 (I.ok.frf b hb) hb (noEx b)
  obtain ⟨_,o3,e3,hd⟩:=I.ok.funs.mem hb
  have e1':(cB (CXE P w) P w K mg base N qual scope f cd A outer s₀ H₀ E).s₀.heap.get? b=some o:=e1
  rw [e1'] at e3
  cases e3
  obtain ⟨sl2,e4⟩:=up b _ (hx.keeps b _ e2) hd
  exact ⟨sl2,e4⟩
 ·refine (I.hok a ob ea).stay (λb u hb e2=>hideAll_get _ e2 λhm=>?_) (λ_ z=>z) λ_ _ z=>z
  have hn:=I.stkFree b hm
  rcases hb with z | z
  ·rw [z,ea] at hn; cases hn
  ·rw [z] at hn; cases hn
theorem passes_on:cf (CXE P w) (cB (CXE P w) P w K mg base N qual scope f cd A outer s₀ H₀ E) E:=by
 intro pins σ H s e s' I hx
 obtain ⟨x,cls,B,H',rfl,F,q⟩:=hx
 show wpAny (model P w) (A.deeper (envOfC qual scope s₀.heap.objs.size f cd)) (leaving (envOfC qual scope s₀.heap.objs.size f cd) (.ref x)) (λ_ s''=>CXE P w outer H₀ s₀ E (.ref x) s'') (λe' s''=>CXE P w outer H₀ s₀ E e' s'') s'
 have noEx:∀ b:Addr,b ∉ (cB (CXE P w) P w K mg base N qual scope f cd A outer s₀ H₀ E).ex:=λb z=>absurd (show b ∈ ([]:List Addr) from z) (by simp)
 have nL:∀ b o,s₀.heap.get? b=some o->b ∉ frs outer->b ∉ frs (envOfC qual scope s₀.heap.objs.size f cd::outer):=λb o e1 hb hm=>by
  rcases List.mem_cons.mp (I.stkSub b hm) with z | z
  ·have hlt:=lt_size e1
   rw [show b=s₀.heap.objs.size from z] at hlt
   exact absurd hlt (Nat.lt_irrefl _)
  ·exact hb z
 obtain ⟨a0,fl⟩:=F.fly
 refine wpAny_leaves_onW (base:=B) I.ok.frames rfl fl λh'' fl2 up=>?_
 refine ⟨x,cls,B,H',rfl,⟨F.os.trans I.os,F.bare,⟨_,fl2⟩,λb o e1 n hb=>?_,λb o e1 hb=>?_,λb o e1 hb=>?_,λb o e1 n=>?_,λb xs e1=>F.tups b xs (I.base.tups b xs e1),λb o u e1=>F.frzs b o u (I.base.frzs b o u e1),λb ps e1=>?_,F.hok⟩,q⟩
 ·exact F.keep b o (I.base.keep b o e1 n hb (noEx b)) (I.base.free b o e1 n (noEx b)) (nL b o e1 hb)
 ·obtain ⟨o',e2⟩:=I.base.there b o e1 (noEx b)
  exact F.there b o' e2 (nL b o e1 hb)
 ·obtain ⟨sl,e2⟩:=I.base.slot b o e1 (I.ok.frf b hb) hb (noEx b)
  obtain ⟨_,o3,e3,hd⟩:=I.ok.funs.mem hb
  have e1':(cB (CXE P w) P w K mg base N qual scope f cd A outer s₀ H₀ E).s₀.heap.get? b=some o:=e1
  rw [e1'] at e3
  cases e3
  have hb':b ∈ frs (envOfC qual scope s₀.heap.objs.size f cd::outer):=by
   obtain ⟨env,he,hf⟩:=List.mem_filterMap.mp hb
   exact List.mem_filterMap.mpr ⟨env,mem_cons_of_mem _ he,hf⟩
  obtain ⟨sl2,e4⟩:=F.slot b _ e2 hb'
  obtain ⟨sl3,e5⟩:=up b _ e4 hd
  exact ⟨sl3,e5⟩
 ·obtain ⟨o',e2⟩:=I.base.there b o e1 (noEx b)
  exact F.free b o' e2 (I.base.free b o e1 n (noEx b))
 ·obtain ⟨m1,e2⟩:=I.base.tbls b ps e1
  obtain ⟨m2,e3⟩:=F.tbls b _ e2
  exact ⟨m1++m2,by rw [e3,Array.append_assoc]⟩
end
abbrev iP:List Value:=[.type "ValueError",.type "Exception",.type "BaseException",.type "object"]
abbrev ExcK (K:Frag) (C:Addr):Prop:=excIn K C iP "ValueError.__new__"=true
theorem exc_obj {K:Frag} {h:Heap} {C:Addr} (X:K.In h) (q:ExcK K C):∃ bm N nm qn bs hdct sn sub ab col dd k0 k1 k2 k3 k5 mN,
  h.get? C=some (excClassObj nm qn C N bs bm hdct sn sub ab col dd k0 k1 k2 k3 k5 "ValueError.__new__")/\h.Ns N mN/\mN "__init__" = none/\OwnTail h iP bm:=by
 have q':=q
 unfold ExcK excIn at q'
 cases hl:K.lookup C with
 | none=>rw [hl] at q'; cases q'
 | some ob=>
  rw [hl] at q'
  obtain ⟨oc,od,oda,osl⟩:=ob
  split at q'
  ·rename_i dz cz sz heq
   cases heq
   split at q'
   ·rename_i Cz bz z0 z1 z2 z3 nz z5 hm hs
    rw [Bool.and_eq_true,Bool.and_eq_true,Bool.and_eq_true,Bool.and_eq_true,Bool.and_eq_true] at q'
    obtain ⟨⟨⟨⟨⟨w1,w2⟩,w3⟩,w4⟩,w5⟩,w6⟩:=q'
    obtain ⟨c1,c2,c3,c4,c5,c6,c7,c8,c9,c10,c11⟩:=cz
    have e1:=beq_iff_eq.mp w1
    have e2:=beq_iff_eq.mp w2
    have e6:=beq_iff_eq.mp w6
    have e3:c11=false:=by simpa using w3
    have em:c3=.ref Cz::bz:=hm
    subst e1 e2 e3 em
    have es:osl = #[z0,z1,z2,z3,some (.builtin "ValueError.__new__"),z5]:=by
     cases osl
     simp only at hs
     rw [hs]
    subst es
    exact ⟨bz,_,_,_,_,_,_,_,_,_,_,_,_,_,_,_,_,X _ _ hl,.of_isNs (PySem.W.isNs_of_in X w5),PySem.W.nsMap_none_of_in X w5 e6,PySem.W.tail_of_in X w4⟩
   ·cases q'
  ·cases q'
def tRaise (E:XK) (C:Addr) (t:TA):TS:=λ_ σ H=>t σ H λvs H1=>vs.length<=sizeLine/\E (.ref C) none H1
section
variable {P:Program} {w:World} {K:Frag} {mg:Str->Option Value} {base:Heap} {N:List Str} {qual:Str} {scope:Scope} {f:Addr} {cd:Value} {A:Around} {outer:List Env} {s₀:Shared} {H₀:Hp} {E:XK}
theorem iH {C:Addr} {x:Str} {np cpos pos:Pos} {e₀:Expr} {es:List Expr} {t:TA} (hC:ExcK K C) (hm:mg x=some (.ref C)) (ha:PA (cB (CXE P w) P w K mg base N qual scope f cd A outer s₀ H₀ E) (e₀::es) t)
  (hg:Gl (cB (CXE P w) P w K mg base N qual scope f cd A outer s₀ H₀ E) x:=by rfl) (hd:(x == ("__debug__" : Str))=false:=by decide)
  (he:starEach (e₀::es) (cB (CXE P w) P w K mg base N qual scope f cd A outer s₀ H₀ E).env=(false,eval e₀ (cB (CXE P w) P w K mg base N qual scope f cd A outer s₀ H₀ E).env)::starEach es (cB (CXE P w) P w K mg base N qual scope f cd A outer s₀ H₀ E).env:=by rfl)
  (hpl:(backTo cpos (starEach es (cB (CXE P w) P w K mg base N qual scope f cd A outer s₀ H₀ E).env)).any (·.1)=false:=by rfl) :
  PS (cB (CXE P w) P w K mg base N qual scope f cd A outer s₀ H₀ E) (.Raise (some (.Call (.Name x np) (e₀::es) [] cpos)) none pos) (tRaise E C t):=by
 intro pins s σ H D I h
 obtain ⟨bm,Nn,nm,qn,bs,hdct,sn,sub,ab,col,dd,k0,k1,k2,k3,k5,mN,hCo,hN,hni,T⟩:=exc_obj I.mod.kin hC
 have any0:(backTo cpos (starEach (e₀::es) (cB (CXE P w) P w K mg base N qual scope f cd A outer s₀ H₀ E).env)).any (·.1)=false:=by
  rw [he]
  show (false || (backTo cpos (starEach es _)).any (·.1))=false
  rw [hpl]; rfl
 refine wpAny_Raise_call_subU (C:=C) (nm:=nm) (q:=qn) (N:=Nn) (bs:=bs) (bm:=bm) (hdct:=hdct) (sn:=sn) (sub:=sub) (ab:=ab) (col:=col) (dd:=dd) (k0:=k0) (k1:=k1) (k2:=k2) (k3:=k3) (k5:=k5)
  PySem.F.excBase_ValueError (bmB:=iP) (by decide +kernel) PySem.F.excBase_ValueError (mN:=mN) (T.hasType PySem.F.excBase_ValueError.hasBase) (I.ok.hd rfl) any0 hni (gi I hg hm ⟨rfl,?_⟩ hd)
 have a1:=ha cpos pins s σ H _ I h
 rw [he] at a1 ⊢
 refine Calls.evalArgs_plain (wpAny_mono a1 (λus s2 z=>?_) λ_ _ z=>z)
 obtain ⟨vs,H2,I2,r,hlen,q⟩:=z
 exact ⟨rfl,by rw [<- r.length]; exact hlen,I2.bk _ _ hCo,hN.keeps I2.bk,T.keeps I2.bk,λh' e mk=>xe_raise I2 mk q⟩
end
section
variable {P:Program} {w:World} {K:Frag} {mg:Str->Option Value} {base:Heap}
theorem Fun.okX {x qual:Str} {st:Stmt} {f:Addr} {fd:FuncData} {N ps:List Str} {k:Nat} {sp:Sp} (F:Fun K x qual st f fd) (S:l8 N ps (aj st)) (len:∀ vs H Q E,sp vs H Q E->vs.length=ps.length)
  (hbody:∀ (cdv:Value) (A:Around) (outer:List Env) (s:Shared) (H:Hp) (vs:List V) (Q:VK) (E:XK),mj k (A.deeper (envOfC qual (aj st) s.heap.objs.size f cdv))->sp vs H Q E->
   ∃ t,PSs (cB (CXE P w) P w K mg base N qual (aj st) f cdv A outer s H E) (aH st) t/\t { nx:=λ_ H'=>Q .non H',rt:=Q } (eJ N vs) H):me P w K mg base (CXE P w) (k+1) f fd ps sp:=by
 obtain ⟨oc,od,kV,doc,pm,an,cdv,ct,osl,rfl,lk,hcd⟩:=F.ex
 exact fn_of lk hcd S len λA outer s H vs Q E hr hsp=>hbody cdv A outer s H vs Q E hr hsp
theorem FunD.okX {x qual:Str} {st:Stmt} {f:Addr} {fd:FuncData} {N ps:List Str} {k:Nat} {sp:Sp} (F:FunD K x qual st f fd) (S:l8 N ps (aj st)) (len:∀ vs H Q E,sp vs H Q E->vs.length=ps.length)
  (hbody:∀ (cdv:Value) (A:Around) (outer:List Env) (s:Shared) (H:Hp) (vs:List V) (Q:VK) (E:XK),mj k (A.deeper (envOfC qual (aj st) s.heap.objs.size f cdv))->sp vs H Q E->
   ∃ t,PSs (cB (CXE P w) P w K mg base N qual (aj st) f cdv A outer s H E) (aH st) t/\t { nx:=λ_ H'=>Q .non H',rt:=Q } (eJ N vs) H):me P w K mg base (CXE P w) (k+1) f fd ps sp:=by
 obtain ⟨oc,od,dV,kV,doc,pm,an,cdv,ct,osl,rfl,lk,hcd⟩:=F.ex
 exact fn_of lk hcd S len λA outer s H vs Q E hr hsp=>hbody cdv A outer s H vs Q E hr hsp
end
structure FnBX (P:Program) (w:World) (K:Frag) (mg:Str->Option Value) (base:Heap) (k:Nat) (x:Str) (sp:Sp):Prop where
 ex:∃ f fd ps,me P w K mg base (CXE P w) k f fd ps sp/\mg x=some (.ref f)/\keepIn K (.ref f)=true/\mF K fd ps []
structure jD (P:Program) (w:World) (K:Frag) (mg:Str->Option Value) (base:Heap) (k:Nat) (C:Addr) (m:Str) (dvs:List V) (sp:Sp):Prop where
 ex:∃ f fd ps ds,me P w K mg base (CXE P w) k f fd ps sp/\fH K C m f/\mF K fd ps ds/\l9 dvs ds
 cl:Cls K C
structure MkBX (P:Program) (w:World) (K:Frag) (mg:Str->Option Value) (base:Heap) (k:Nat) (C:Addr) (x:Str) (sp:Sp):Prop where
 ex:∃ f fd ps,me P w K mg base (CXE P w) k f fd ps sp/\Mk K C f/\mF K fd ps []
 at_:mg x=some (.ref C)
section
variable {X:Cx} {C:Addr} {x m:Str} {k:Nat} {sp:Sp} {dvs:List V} {p pos apos:Pos} {e o:Expr} {es:List Expr} {te ta:TE} {t:TA} {E:XK}
theorem pe_fnX (F:FnBX X.prog X.w X.K X.mg X.base k x sp) (hr:mj k X.A) (hx:cf (CXE X.prog X.w) X E) (ha:PA X (e::es) t) (hg:Gl X x:=by rfl) (hdb:(x == ("__debug__" : Str))=false:=by decide)
  (he:starEach (e::es) X.env=(false,eval e X.env)::starEach es X.env:=by rfl) (hpl:(backTo pos (starEach es X.env)).any (·.1)=false:=by rfl) :
  PE X (.Call (.Name x p) (e::es) [] pos) (tCall sp [] E t):=by
 obtain ⟨f,fd,ps,F,hm,hk,hb⟩:=F.ex
 exact pe_call F hr hg hm hk hb .nil hx ha hdb he hpl
theorem i4 {pl:Sem Bool} (M:jD X.prog X.w X.K X.mg X.base k C m dvs sp) (hr:mj k X.A) (hx:cf (CXE X.prog X.w) X E) (he:PE X o ta) (ha:PA X (e::es) t)
  (hst:starEach (e::es) X.env=(false,eval e X.env)::starEach es X.env:=by rfl) (hpl:(backTo pos (starEach es X.env)).any (·.1)=false:=by rfl)
  (ht:eval (.Call (.Attribute o m apos) (e::es) [] pos) X.env=(do
   let ov <- eval o X.env
   standAt apos.atName
   let (f,first) <- holding [ov] (getMethod ov m pl)
   callWith pos f first (backTo pos (starEach (e::es) X.env)) (backToKw pos (keywordEach [] X.env))):=by rfl) :
  PE X (.Call (.Attribute o m apos) (e::es) [] pos) (eh C m sp dvs E ta t):=by
 obtain ⟨f,fd,ps,ds,F,hm,hb,hv⟩:=M.ex
 exact pe_meth he M.cl hm F hr hb hv hx ha hst hpl ht
theorem pe_mkX (M:MkBX X.prog X.w X.K X.mg X.base k C x sp) (hr:mj (k+1) X.A) (hx:cf (CXE X.prog X.w) X E) (ha:PA X (e::es) t) (hg:Gl X x:=by rfl) (hdb:(x == ("__debug__" : Str))=false:=by decide)
  (he:starEach (e::es) X.env=(false,eval e X.env)::starEach es X.env:=by rfl) (hpl:(backTo pos (starEach es X.env)).any (·.1)=false:=by rfl) :
  PE X (.Call (.Name x p) (e::es) [] pos) (tMake C sp [] E t):=by
 obtain ⟨f,fd,ps,F,hm,hb⟩:=M.ex
 exact pe_make hm F hr hg M.at_ hb .nil hx ha hdb he hpl
end
section
variable {X:Cx} {C:Addr} {x m:Str} {k:Nat} {sp:Sp} {dvs:List V} {ds:List Value} {p pos apos:Pos} {e o:Expr} {es:List Expr} {te ta:TE} {t:TA} {E:XK} {f:Addr} {fd:FuncData} {ps:List Str}
end
section
variable {X:Cx} {pins:List (Addr × Obj)} {σ:St} {H H1 H':Hp} {s s1 s':Shared} {x C:Addr} {cls:Value} {B h:Heap}
end
structure XCl (K:Frag) (D:Addr):Prop where
 ek:ExcK K D
 ga:findIn K (.ref D) "__getattribute__"=some (some (.builtin "BaseException.__getattribute__"))
 gt:findIn K (.ref D) "__getattr__"=some none
 ca:findIn K (.ref D) "__class__"=some (some (.builtin "object.__class__"))
 mo:mroIn K D (.type "object")=some true
 mb:mroIn K D (.type "BaseException")=some true
 dg:specialIn K (.builtin "object.__class__") "__get__"=some (some (.builtin "getset_descriptor.__get__"))
 dt:takesIn K (.builtin "object.__class__")=some true
section
variable {prog:Program} {w:World} {A:Around} {E:Value->Shared->Prop} {s:Shared} {K:Frag} {x D:Addr}
end
theorem two_of {us:List Value} {d:Value} (h:(us++[d]).length=3):∃ a b,us=[a,b]:=by
 rw [length_append,length_singleton] at h
 match us,h with
 | [a,b],_=>exact ⟨a,b,rfl⟩
section
variable {X:Cx} {C:Addr} {x m:Str} {k:Nat} {sp:Sp} {p pos apos:Pos} {e o:Expr} {es:List Expr} {te ta:TE} {t:TA}
theorem gP {pl:Sem Bool} (M:MtB X.prog X.w X.K X.mg X.base k C m sp) (hr:mj k X.A) (he:PE X o ta)
  (ht:eval (.Call (.Attribute o m apos) [] [] pos) X.env=(do
   let ov <- eval o X.env
   standAt apos.atName
   let (f,first) <- holding [ov] (getMethod ov m pl)
   callWith pos f first (backTo pos (starEach [] X.env)) (backToKw pos (keywordEach [] X.env))):=by rfl) :
  PE X (.Call (.Attribute o m apos) [] [] pos) (eh C m sp [] E0 ta bY):=by
 obtain ⟨f,fd,ps,F,hm,hb⟩:=M.ex
 exact pe_meth0 he M.cl hm F hr hb .nil pass0 ht
end
section
variable {P:Program} {w:World} {K:Frag} {mg:Str->Option Value} {base:Heap}
end
end L2
namespace L2
open PySem PySem.Spec PyProof.Rows PySem.W
def ev {α:Type} (c:Nat->Nat->Bool):KasT α->α
 | .ret a=>a
 | .ask i j k=>ev c (k (c i j))
theorem fm {α β:Type} {c:Nat->Nat->Bool} {f:α->KasT β}:∀ t:KasT α,ev c (t.bind f)=ev c (f (ev c t))
 | .ret _=>rfl
 | .ask i j k=>fm (k (c i j))
structure Tot (n:Nat) (c:Nat->Nat->Bool):Prop where
 tr:∀ i j k,i<n->j<n->k<n->c i j=true->c j k=true->c i k=true
 to:∀ i j,i<n->j<n->i ≠ j->c i j=false->c j i=true
def Pm (n:Nat) (p:Array Nat):Prop:=p.toList.Perm (List.range n)
section
variable {n:Nat} {c:Nat->Nat->Bool} {p:Array Nat}
theorem Pm.sz (h:Pm n p):p.size=n:=by
 have:=h.length_eq
 rw [List.length_range] at this
 rw [<- this]; rfl
theorem iD {i:Nat} (hi:i<p.size):p.getD i 0=p[i]:=by simp [Array.getD,hi]
theorem jt (p:Array Nat) (i:Nat):p.getD i 0=(p[i]?).getD 0:=by simp [Array.getD_eq_getD_getElem?]
theorem Pm.lt (h:Pm n p) {i:Nat} (hi:i<n):p.getD i 0<n:=by
 have hs:=h.sz
 rw [iD (by omega)]
 exact List.mem_range.mp (h.mem_iff.mp (by rw [Array.mem_toList_iff]; exact Array.getElem_mem _))
theorem Pm.inj (h:Pm n p) {i j:Nat} (hi:i<n) (hj:j<n) (hne:i ≠ j):p.getD i 0 ≠ p.getD j 0:=by
 have hs:=h.sz
 have nd:p.toList.Nodup:=h.nodup_iff.mpr List.nodup_range
 intro z
 rw [iD (by omega),iD (by omega)] at z
 exact hne ((getElem_inj (h₀:=by rw [Array.length_toList]; omega) (h₁:=by rw [Array.length_toList]; omega) nd).mp (by rw [Array.getElem_toList,Array.getElem_toList]; exact z))
theorem Pm.of {q:Array Nat} (h:Pm n p) (e:q.Perm p):Pm n q:=(Array.perm_iff_toList_perm.mp e).trans h
def So (c:Nat->Nat->Bool) (p:Array Nat) (k:Nat):Prop:=∀ i j,i<j->j<k->c (p.getD i 0) (p.getD j 0)=true
def De (c:Nat->Nat->Bool) (p:Array Nat) (k:Nat):Prop:=∀ i j,i<j->j<k->c (p.getD j 0) (p.getD i 0)=true
theorem Tot.other (T:Tot n c) (hp:Pm n p) {i j:Nat} (hi:i<n) (hj:j<n) (hne:i ≠ j) (h:¬ c (p.getD i 0) (p.getD j 0)=true):c (p.getD j 0) (p.getD i 0)=true:=
 T.to _ _ (hp.lt hi) (hp.lt hj) (hp.inj hi hj hne) (by simpa using h)
theorem Tot.trp (T:Tot n c) (hp:Pm n p) {i j k:Nat} (hi:i<n) (hj:j<n) (hk:k<n) (h1:c (p.getD i 0) (p.getD j 0)=true) (h2:c (p.getD j 0) (p.getD k 0)=true):c (p.getD i 0) (p.getD k 0)=true:=
 T.tr _ _ _ (hp.lt hi) (hp.lt hj) (hp.lt hk) h1 h2
theorem So.step (T:Tot n c) (hp:Pm n p) {m:Nat} (h1:1<=m) (hm:m<n) (hs:So c p m) (h:c (p.getD (m-1) 0) (p.getD m 0)=true):So c p (m+1):=λi j hij hj=>by
 by_cases e:j=m
 ·subst e
  by_cases e2:i=j-1
  ·rw [e2]; exact h
  ·exact T.trp hp (by omega) (by omega) hm (hs i (j-1) (by omega) (by omega)) h
 ·exact hs i j hij (by omega)
theorem De.step (T:Tot n c) (hp:Pm n p) {m:Nat} (h1:1<=m) (hm:m<n) (hs:De c p m) (h:c (p.getD m 0) (p.getD (m-1) 0)=true):De c p (m+1):=λi j hij hj=>by
 by_cases e:j=m
 ·subst e
  by_cases e2:i=j-1
  ·rw [e2]; exact h
  ·exact T.trp hp hm (by omega) (by omega) h (hs i (j-1) (by omega) (by omega))
 ·exact hs i j hij (by omega)
theorem ev_asc (T:Tot n c) (hp:Pm n p):∀ f m,1<=m->m+f<=n->So c p m->m<=ev c (kas_asc p f m)/\ev c (kas_asc p f m)<=m+f/\So c p (ev c (kas_asc p f m))/\(ev c (kas_asc p f m)<m+f->c (p.getD (ev c (kas_asc p f m)) 0) (p.getD (ev c (kas_asc p f m)-1) 0)=true)
 | 0,m,_,_,hs=>⟨Nat.le_refl _,Nat.le_refl _,hs,λh=>absurd h (Nat.lt_irrefl _)⟩
 | f+1,m,h1,h2,hs=>by
  by_cases hc:c (p.getD m 0) (p.getD (m-1) 0)=true
  ·have e:ev c (kas_asc p (f+1) m)=m:=by
    show ev c (if c (p.getD m 0) (p.getD (m-1) 0)=true then .ret m else kas_asc p f (m+1))=m
    rw [if_pos hc]; rfl
   rw [e]
   exact ⟨Nat.le_refl _,by omega,hs,λ_=>hc⟩
  ·have e:ev c (kas_asc p (f+1) m)=ev c (kas_asc p f (m+1)):=by
    show ev c (if c (p.getD m 0) (p.getD (m-1) 0)=true then .ret m else kas_asc p f (m+1))=_
    rw [if_neg hc]
   rw [e]
   obtain ⟨a,b,d,g⟩:=ev_asc T hp f (m+1) (by omega) (by omega) (hs.step T hp h1 (by omega) (T.other hp (by omega) (by omega) (by omega) hc))
   exact ⟨by omega,by omega,d,λh=>g (by omega)⟩
theorem ev_desc (T:Tot n c) (hp:Pm n p):∀ f m,1<=m->m+f<=n->De c p m->∃ r,ev c (kas_desc f p m 0)=(p,r,0)/\m<=r/\r<=m+f/\De c p r
 | 0,m,_,_,hs=>⟨m,rfl,Nat.le_refl _,Nat.le_refl _,hs⟩
 | f+1,m,h1,h2,hs=>by
  by_cases hc:c (p.getD m 0) (p.getD (m-1) 0)=true
  ·obtain ⟨r,e,a,b,d⟩:=ev_desc T hp f (m+1) (by omega) (by omega) (hs.step T hp h1 (by omega) hc)
   refine ⟨r,?_,by omega,by omega,d⟩
   rw [<- e]
   show ev c (if c (p.getD m 0) (p.getD (m-1) 0)=true then (if 0 > 0 then kas_desc f (kas_rev p (m-(0+1)) m) (m+1) 0 else kas_desc f p (m+1) 0) else _)=_
   rw [if_pos hc,if_neg (by decide)]
  ·refine ⟨m,?_,Nat.le_refl _,by omega,hs⟩
   have ho:=T.other hp (show m<n by omega) (show m-1<n by omega) (by omega) hc
   show ev c (if c (p.getD m 0) (p.getD (m-1) 0)=true then _ else .ask (p.getD (m-1) 0) (p.getD m 0) λd=>if d=true then .ret (p,m,0) else kas_desc f p (m+1) (0+1))=_
   rw [if_neg hc]
   show ev c (if c (p.getD (m-1) 0) (p.getD m 0)=true then .ret (p,m,0) else kas_desc f p (m+1) (0+1))=_
   rw [if_pos ho]
   rfl
theorem gd_rev {j:Nat} (hj:j<=p.size) (k:Nat):(kas_rev p 0 j).getD k 0=if k<j then p.getD (j-1-k) 0 else p.getD k 0:=by
 rw [jt]
 unfold kas_rev
 rw [getElem?_mirror_all hj]
 by_cases h:k<j
 ·rw [if_pos ⟨Nat.zero_le _,h⟩,if_pos h,jt,Nat.zero_add]
 ·rw [if_neg (λz=>h z.2),if_neg h,jt]
theorem rev_pm (hp:Pm n p) (j:Nat):Pm n (kas_rev p 0 j):=hp.of (mirror_perm _ _ _ _)
theorem De.rev {k:Nat} (hk:k<=p.size) (h:De c p k):So c (kas_rev p 0 k) k:=λi j hij hj=>by
 rw [gd_rev hk,gd_rev hk,if_pos (by omega),if_pos hj]
 exact h (k-1-j) (k-1-i) (by omega) (by omega)
theorem ev_count (T:Tot n c) (hp:Pm n p) (hn:1<=n):∃ m q,ev c (kas_count n p)=(m,q)/\1<=m/\m<=n/\Pm n q/\So c q m:=by
 have s1:So c p 1:=λi j hij hj=>by omega
 obtain ⟨a,b,d,g⟩:=ev_asc T hp (n-1) 1 (Nat.le_refl _) (by omega) s1
 unfold kas_count
 rw [fm]
 generalize ev c (kas_asc p (n-1) 1)=r at *
 by_cases h1:(r == n)=true
 ·rw [if_pos h1]
  exact ⟨r,p,rfl,a,by omega,hp,d⟩
 ·rw [if_neg h1]
  have hr:r ≠ n:=by simpa using h1
  by_cases h2:r > 1
  ·rw [if_pos h2]
   show ∃ m q,ev c (if c (p.getD 0 0) (p.getD (r-1) 0)=true then .ret (r,p) else _)=(m,q)/\_
   rw [if_pos (d 0 (r-1) (by omega) (by omega))]
   exact ⟨r,p,rfl,a,by omega,hp,d⟩
  ·rw [if_neg h2]
   have r1:r=1:=by omega
   subst r1
   have d1:De c p 2:=λi j hij hj=>by
    have:i=0/\j=1:=by omega
    rw [this.1,this.2]
    exact g (by omega)
   unfold kas_descPart
   rw [fm]
   obtain ⟨k,e,ka,kb,kd⟩:=ev_desc T hp (n-(1+1)) (1+1) (by decide) (by omega) d1
   rw [e]
   show ∃ m q,ev c (if 0 > 0 then _ else kas_tail3 k n p)=(m,q)/\_
   rw [if_neg (by decide)]
   unfold kas_tail3
   rw [fm]
   have hq:=rev_pm hp k
   have sq:=De.rev (by rw [hp.sz]; omega) kd
   obtain ⟨a',b',d',_⟩:=ev_asc T hq (n-k) k (by omega) (by omega) sq
   exact ⟨_,_,rfl,by omega,by omega,hq,d'⟩
theorem jy (T:Tot n c) (hp:Pm n p) {k:Nat} (hk:k<n) (hs:So c p k):∀ f l r,r<=l+f->l<=r->r<=k->(∀ i,i<l->c (p.getD i 0) (p.getD k 0)=true)->(∀ i,r<=i->i<k->c (p.getD k 0) (p.getD i 0)=true)->
  ev c (kas_place p k f l r)<=k/\(∀ i,i<ev c (kas_place p k f l r)->c (p.getD i 0) (p.getD k 0)=true)/\(∀ i,ev c (kas_place p k f l r)<=i->i<k->c (p.getD k 0) (p.getD i 0)=true)
 | 0,l,r,h1,h2,h3,lo,hi=>⟨by show l<=k; omega,lo,λi hl hik=>hi i (by have:l<=i:=hl; omega) hik⟩
 | f+1,l,r,h1,h2,h3,lo,hi=>by
  by_cases hlr:l ≥ r
  ·have e:ev c (kas_place p k (f+1) l r)=l:=by
    show ev c (if l ≥ r then .ret l else _)=l
    rw [if_pos hlr]; rfl
   rw [e]
   exact ⟨by omega,lo,λi hl hik=>hi i (by omega) hik⟩
  ·have e:ev c (kas_place p k (f+1) l r)=ev c (if c (p.getD k 0) (p.getD ((l+r) / 2) 0)=true then kas_place p k f l ((l+r) / 2) else kas_place p k f ((l+r) / 2+1) r):=by
    show ev c (if l ≥ r then .ret l else .ask (p.getD k 0) (p.getD ((l+r) / 2) 0) λd=>if d=true then kas_place p k f l ((l+r) / 2) else kas_place p k f ((l+r) / 2+1) r)=_
    rw [if_neg hlr]; rfl
   rw [e]
   by_cases hc:c (p.getD k 0) (p.getD ((l+r) / 2) 0)=true
   ·rw [if_pos hc]
    refine jy T hp hk hs f l ((l+r) / 2) (by omega) (by omega) (by omega) lo λi hi1 hi2=>?_
    by_cases ei:i=(l+r) / 2
    ·rw [ei]; exact hc
    ·exact T.trp hp hk (by omega) (by omega) hc (hs _ i (by omega) hi2)
   ·rw [if_neg hc]
    have ho:=T.other hp hk (show (l+r) / 2<n by omega) (by omega) hc
    refine jy T hp hk hs f ((l+r) / 2+1) r (by omega) (by omega) h3 (λi hi1=>?_) hi
    by_cases ei:i=(l+r) / 2
    ·rw [ei]; exact ho
    ·exact T.trp hp (by omega) (by omega) hk (hs i _ (by omega) (by omega)) ho
theorem de {k d:Nat} (hk:k<p.size) (hd:d<=k) (x:Nat):(bubble p k d).getD x 0=if x=k-d then p.getD k 0 else if k-d<x/\x<=k then p.getD (x-1) 0 else p.getD x 0:=by
 rw [jt,getElem?_bubble hk d hd]
 by_cases h:x=k-d
 ·rw [if_pos h,if_pos h,jt]
 ·rw [if_neg h,if_neg h]
  by_cases h2:k-d<x/\x<=k
  ·rw [if_pos h2,if_pos h2,jt]
  ·rw [if_neg h2,if_neg h2,jt]
theorem So.put (hp:Pm n p) {k q:Nat} (hk:k<n) (hq:q<=k) (hs:So c p k) (lo:∀ i,i<q->c (p.getD i 0) (p.getD k 0)=true) (hi:∀ i,q<=i->i<k->c (p.getD k 0) (p.getD i 0)=true):So c (bubble p k (k-q)) (k+1):=λi j hij hj=>by
 have hz:=hp.sz
 rw [de (by omega) (by omega),de (by omega) (by omega),show k-(k-q)=q by omega]
 by_cases i1:i=q
 ·rw [if_pos i1,if_neg (by omega),if_pos (by omega)]
  exact hi (j-1) (by omega) (by omega)
 ·rw [if_neg i1]
  by_cases i2:q<i/\i<=k
  ·rw [if_pos i2,if_neg (by omega),if_pos (by omega)]
   exact hs _ _ (by omega) (by omega)
  ·rw [if_neg i2]
   by_cases j1:j=q
   ·rw [if_pos j1]
    exact lo i (by omega)
   ·rw [if_neg j1]
    by_cases j2:q<j/\j<=k
    ·rw [if_pos j2]
     exact hs _ _ (by omega) (by omega)
    ·rw [if_neg j2]
     exact hs _ _ hij (by omega)
end
theorem ev_bin {n:Nat} {c:Nat->Nat->Bool} (T:Tot n c):∀ (f:Nat) (p:Array Nat) (k:Nat),Pm n p->k+f=n->So c p k->Pm n (ev c (kas_bin f p k))/\So c (ev c (kas_bin f p k)) n
 | 0,p,k,hp,hk,hs=>⟨hp,by rw [<- show k=n by omega]; exact hs⟩
 | f+1,p,k,hp,hk,hs=>by
  have e:ev c (kas_bin (f+1) p k)=ev c (kas_bin f (bubble p k (k-ev c (kas_place p k k 0 k))) (k+1)):=by
   show ev c ((kas_place p k k 0 k).bind λl=>kas_bin f (bubble p k (k-l)) (k+1))=_
   rw [fm]
  rw [e]
  obtain ⟨a,lo,hi⟩:=jy T hp (show k<n by omega) hs k 0 k (by omega) (by omega) (Nat.le_refl _) (λi h=>absurd h (by omega)) (λi h1 h2=>by omega)
  exact ev_bin T f _ (k+1) (hp.of (bubble_perm _ _ _)) (by omega) (hs.put hp (by omega) a lo hi)
theorem ev_sort {n:Nat} {c:Nat->Nat->Bool} (T:Tot n c) (hn:1<=n):Pm n (ev c (kas_sort n))/\So c (ev c (kas_sort n)) n:=by
 have hp:Pm n (List.toArray (List.range n)):=List.Perm.refl _
 obtain ⟨m,q,e,a,b,hq,hs⟩:=ev_count T hp hn
 unfold kas_sort
 rw [fm,e]
 dsimp only
 by_cases h:m<n
 ·rw [if_pos h]
  exact ev_bin T _ q _ hq (by omega) (by rw [show max m 1=m by omega]; exact hs)
 ·rw [if_neg h]
  exact ⟨hq,by rw [<- show m=n by omega]; exact hs⟩
end L2
namespace L2
open PySem PySem.Spec PyProof.Rows
section
variable {κ:Type} [DecidableEq κ]
def fz (kvs:List (κ × V)) (k:κ):Option V:=(kvs.find? λkv=>decide (kv.1=k)).map (·.2)
def bN (kvs:List (κ × V)) (k:κ) (v:V):List (κ × V):=
 if (kvs.any λkv=>decide (kv.1=k))=true then kvs.map (λkv=>if kv.1=k then (kv.1,v) else kv) else kvs++[(k,v)]
theorem gg {p:κ × V} {r:List (κ × V)} {k:κ} (e:p.1=k):fz (p::r) k=some p.2:=by simp [fz,find?_cons,e]
theorem f6 {p:κ × V} {r:List (κ × V)} {k:κ} (e:¬ p.1=k):fz (p::r) k=fz r k:=by simp [fz,find?_cons,e]
theorem i9 (k:κ):∀ kvs:List (κ × V),(kvs.any λkv=>decide (kv.1=k))=(fz kvs k).isSome
 | []=>rfl
 | p::r=>by
  rw [any_cons]
  by_cases e:p.1=k
  ·simp only [gg e,decide_eq_true e,Bool.true_or,Option.isSome_some]
  ·rw [f6 e,decide_eq_false e,Bool.false_or]; exact i9 k r
theorem g7 (kvs:List (κ × V)) (k:κ) (v:V):(bN kvs k v).length<=kvs.length+1:=by
 unfold bN
 split
 ·rw [length_map]; omega
 ·rw [length_append,length_cons,length_nil]; omega
theorem RelO.isSome_eq {o:Option V} {u:Option Value} (r:RelO o u):o.isSome=u.isSome:=by
 cases o with
 | none=>cases u with
  | none=>rfl
  | some _=>exact (show False from r).elim
 | some _=>cases u with
  | none=>exact (show False from r).elim
  | some _=>rfl
theorem RelO.getD {o:Option V} {u:Option Value} {d:V} {d':Value} (r:RelO o u) (rd:md d d'):md (o.getD d) (u.getD d'):=by
 cases o with
 | none=>cases u with
  | none=>exact rd
  | some _=>exact (show False from r).elim
 | some _=>cases u with
  | none=>exact (show False from r).elim
  | some _=>exact r
theorem KV.val {kvs:List (κ × V)} {vs:List (κ × Value)} (r:KV kvs vs) (k:κ):RelO (fz kvs k) (valueAt vs k):=by
 unfold KV at r
 induction r with
 | nil=>exact True.intro
 | @cons p q ps qs h t ih=>
  obtain ⟨h1,h2⟩:=h
  by_cases e:p.1=k
  ·have e':q.1=k:=h1.symm.trans e
   have b:valueAt (q::qs) k=some q.2:=by simp [valueAt,find?_cons,e']
   rw [gg e,b]; exact h2
  ·have e':¬ q.1=k:=λz=>e (h1.trans z)
   have b:valueAt (q::qs) k=valueAt qs k:=by simp [valueAt,find?_cons,e']
   rw [f6 e,b]; exact ih
theorem KV.any {kvs:List (κ × V)} {vs:List (κ × Value)} (r:KV kvs vs) (k:κ):(kvs.any λkv=>decide (kv.1=k))=vs.any λkv=>decide (kv.1=k):=by
 unfold KV at r
 induction r with
 | nil=>rfl
 | cons h t ih=>rw [any_cons,any_cons,ih,h.1]
theorem KV.repl {kvs:List (κ × V)} {vs:List (κ × Value)} (r:KV kvs vs) (k:κ) {y:V} {u:Value} (ry:md y u) :
  KV (kvs.map λkv=>if kv.1=k then (kv.1,y) else kv) (vs.map λkv=>if kv.1=k then (kv.1,u) else kv):=by
 unfold KV at r ⊢
 induction r with
 | nil=>exact .nil
 | @cons p q ps qs h t ih=>
  rw [map_cons,map_cons]
  refine .cons ?_ ih
  obtain ⟨h1,h2⟩:=h
  by_cases e:p.1=k
  ·rw [if_pos e,if_pos (h1.symm.trans e)]; exact ⟨h1,ry⟩
  ·rw [if_neg e,if_neg (λz=>e (h1.trans z))]; exact ⟨h1,h2⟩
theorem KV.put {kvs:List (κ × V)} {vs:List (κ × Value)} (r:KV kvs vs) (k:κ) {y:V} {u:Value} (ry:md y u):KV (bN kvs k y) (stored vs k u):=by
 unfold bN stored
 rw [r.any k]
 by_cases e:(vs.any λkv=>decide (kv.1=k))=true
 ·rw [if_pos e,if_pos e]; exact r.repl k ry
 ·rw [if_neg e,if_neg e]; exact Paired.snoc r ⟨rfl,ry⟩
theorem KV.length {kvs:List (κ × V)} {vs:List (κ × Value)} (r:KV kvs vs):kvs.length=vs.length:=Paired.length r
end
theorem kV_is {P:Program} {w:World} {k:Key} {u:Value} (r:md (kV k) u):(aQ P w).is k u=true:=by
 cases k with
 | inl i=>obtain ⟨t,e⟩:=(show ∃ t,u=Value.int i t from r); subst e; exact mixKind_int P w i t
 | inr x=>obtain ⟨t,e⟩:=(show ∃ t,u=Value.str x t from r); subst e; exact mixKind_str P w x t
theorem jQ {P:Program} {w:World}:∀ {ks:List Key} {us:List Value},l9 (ks.map kV) us->ItemsAre (aQ P w) ks us
 | [],_,r=>by rw [map_nil] at r; cases r; exact .nil
 | k::ks,_,r=>by
  rw [map_cons] at r
  cases r with
  | cons h t=>exact .cons (kV_is h) (jQ t)
abbrev KT (H:Hp):List (List Key × V)->List (List Key × Addr × Value)->Prop:=Paired λp q=>p.1=q.1/\H q.2.1=some (.tup (p.1.map kV))/\md p.2 q.2.2
theorem KT.val {H:Hp} {kvs:List (List Key × V)} {xs:List (List Key × Addr × Value)} (r:KT H kvs xs) (k:List Key):RelO (fz kvs k) ((atKey xs k).map (·.2)):=by
 induction r with
 | nil=>exact True.intro
 | @cons p q ps qs h t ih=>
  obtain ⟨h1,_,h2⟩:=h
  by_cases e:p.1=k
  ·have e':q.1=k:=h1.symm.trans e
   have b:atKey (q::qs) k=some q.2:=by simp [atKey,find?_cons,e']
   rw [gg e,b]; exact h2
  ·have e':¬ q.1=k:=λz=>e (h1.trans z)
   have b:atKey (q::qs) k=atKey qs k:=by simp [atKey,find?_cons,e']
   rw [f6 e,b]; exact ih
theorem KT.repl {H:Hp} {kvs:List (List Key × V)} {xs:List (List Key × Addr × Value)} (r:KT H kvs xs) (k:List Key) {y:V} {u:Value} (ry:md y u) :
  KT H (kvs.map λkv=>if kv.1=k then (kv.1,y) else kv) (xs.map (putAt k u)):=by
 induction r with
 | nil=>exact .nil
 | @cons p q ps qs h t ih=>
  rw [map_cons,map_cons]
  refine .cons ?_ ih
  obtain ⟨h1,h2,h3⟩:=h
  unfold putAt
  by_cases e:p.1=k
  ·rw [if_pos e,if_pos (h1.symm.trans e)]; exact ⟨h1,h2,ry⟩
  ·rw [if_neg e,if_neg (λz=>e (h1.trans z))]; exact ⟨h1,h2,h3⟩
theorem KT.put {H:Hp} {kvs:List (List Key × V)} {xs:List (List Key × Addr × Value)} (r:KT H kvs xs) (k:List Key) {b:Addr} {y:V} {u:Value} (hb:H b=some (.tup (k.map kV))) (ry:md y u) :
  KT H (bN kvs k y) (storedH xs k b u):=by
 have e:(kvs.any λkv=>decide (kv.1=k))=(atKey xs k).isSome:=by
  rw [i9,(r.val k).isSome_eq,Option.isSome_map]
 unfold bN storedH
 rw [e]
 by_cases q:(atKey xs k).isSome=true
 ·rw [if_pos q,if_pos q]; exact r.repl k ry
 ·rw [if_neg q,if_neg q]; exact Paired.snoc r ⟨rfl,hb,ry⟩
theorem KT.keeps {H H':Hp} {kvs:List (List Key × V)} {xs:List (List Key × Addr × Value)} (r:KT H kvs xs) (ht:∀ b ys,H b=some (.tup ys)->H' b=some (.tup ys)):KT H' kvs xs:=
 Paired.mapP r λ_ _ z=>⟨z.1,ht _ _ z.2.1,z.2.2⟩
section
variable {P:Program} {w:World} {H:Hp} {h:Heap} {a:Addr}
theorem rd_of {u:HO} (ok:HOk P w H h) (e:Rd H a u):mi P w H h a u:=e.ok ok
theorem j5 {kvs:List (Key × V)} (ok:HOk P w H h) (e:Rd H a (.dK kvs)):kvs.length<=sizeLine/\(a == sysModules)=false/\∃ vs,KV kvs vs/\h.DictOf (aQ P w) a vs:=
 show mi P w H h a (.dK kvs) from rd_of ok e
theorem dk_of {kvs:List (Key × V)} (ok:HOk P w H h) (e:H a=some (.dK kvs)):kvs.length<=sizeLine/\(a == sysModules)=false/\∃ vs,KV kvs vs/\h.DictOf (aQ P w) a vs:=j5 ok (.inl e)
theorem ju {ks:List Key} (ok:HOk P w H h) (e:H a=some (.tup (ks.map kV))):(tupleKind (aQ P w)).is h ks a:=by
 obtain ⟨_,its,r,o,h1,h2,n,h3⟩:=(show mi P w H h a (.tup (ks.map kV)) from ok a _ e)
 exact ⟨o,its.toArray,n,h1,h2,h3,by simpa using jQ r⟩
theorem jM {kvs:List (List Key × V)} (ok:HOk P w H h) (e:Rd H a (.dT kvs)):kvs.length<=sizeLine/\(a == sysModules)=false/\
  ∃ xs,KT H kvs xs/\h.DictOfH (tupleKind (aQ P w)) a xs:=by
 obtain ⟨z,y,xs,r,o,es,ep,h1,h2,h3,h4,h5⟩:=(show mi P w H h a (.dT kvs) from rd_of ok e)
 refine ⟨z,y,xs,r,o,es,ep,h1,h2,h3,h4,λx hx=>?_,h5⟩
 have all:∀ {l:List (List Key × V)} {m:List (List Key × Addr × Value)},KT H l m->∀ x ∈ m,(tupleKind (aQ P w)).is h x.1 x.2.1:=by
  intro l m q
  induction q with
  | nil=>intro x hx; exact nomatch hx
  | @cons p q ps qs hq t ih=>
   intro x hx
   rcases List.mem_cons.mp hx with e | hx
   ·subst e
    exact ju ok (by rw [<- hq.1]; exact hq.2.1)
   ·exact ih x hx
 exact all r x hx
theorem dt_of {kvs:List (List Key × V)} (ok:HOk P w H h) (e:H a=some (.dT kvs)):kvs.length<=sizeLine/\(a == sysModules)=false/\
  ∃ xs,KT H kvs xs/\h.DictOfH (tupleKind (aQ P w)) a xs:=jM ok (.inl e)
end
def DGet (H:Hp) (a:Addr) (y:V) (r:Option V):Prop:=
 (∃ kvs k,Rd H a (.dK kvs)/\y=kV k/\r=fz kvs k)\/∃ kvs k b,Rd H a (.dT kvs)/\y=.ref b/\H b=some (.tup (k.map kV))/\r=fz kvs k
def DPut (H:Hp) (a:Addr) (y v:V) (H':Hp):Prop:=
 (∃ kvs k,H a=some (.dK kvs)/\y=kV k/\kvs.length<sizeLine/\H'=upd H a (.dK (bN kvs k v))) \/
 ∃ kvs k b,H a=some (.dT kvs)/\y=.ref b/\H b=some (.tup (k.map kV))/\kvs.length<sizeLine/\H'=upd H a (.dT (bN kvs k v))
theorem DGet.t {H:Hp} {a b:Addr} {kvs:List (List Key × V)} {k:List Key} (e:H a=some (.dT kvs)) (eb:H b=some (.tup (k.map kV))):DGet H a (.ref b) (fz kvs k):=.inr ⟨kvs,k,b,.inl e,rfl,eb,rfl⟩
theorem DPut.t {H:Hp} {a b:Addr} {kvs:List (List Key × V)} {k:List Key} {v:V} (e:H a=some (.dT kvs)) (eb:H b=some (.tup (k.map kV))) (hl:kvs.length<sizeLine) :
  DPut H a (.ref b) v (upd H a (.dT (bN kvs k v))):=.inr ⟨kvs,k,b,e,rfl,eb,hl,rfl⟩
section
variable {X:Cx} {pins:List (Addr × Obj)} {σ:St} {H:Hp} {s:Shared} {a:Addr} {y v:V} {u r:Value} {o:Option V} {A:Around} {E:Value->Shared->Prop}
theorem Inv.big (I:Inv X pins σ H s):sysModules<s.heap.objs.size:=by
 have h:mainGlobals<s.heap.objs.size:=(I.mod.glob.keeps I.bk).lt
 exact Nat.lt_trans (by decide) h
theorem d_getItem {Q:Value->Shared->Prop} (hu:A.units+1<cLine) (I:Inv X pins σ H s) (g:DGet H a y (some v)) (ry:md y u) (h:∀ w' s',Inv X pins σ H s'->md v w'->Q w' s') :
  wpAny (model X.prog X.w) A (getItem (.ref a) u) Q E s:=by
 rcases g with ⟨kvs,k,e,ey,l⟩ | ⟨kvs,k,b,e,ey,eb,l⟩
 ·subst ey
  obtain ⟨z,hd,vs,rel,dd⟩:=j5 I.hok e
  obtain ⟨w',hw,rw'⟩:=RelO.some_of (v:=v) (o:=valueAt vs k) (by rw [l]; exact rel.val k)
  exact wpAny_getItem_of (kV_is ry) dd.mapOf hw (h w' _ (I.tok _) rw')
 ·subst ey
  cases (show u=Value.ref b from ry)
  obtain ⟨z,hd,xs,rel,dd⟩:=jM I.hok e
  obtain ⟨w',hw,rw'⟩:=RelO.some_of (v:=v) (o:=(atKey xs k).map (·.2)) (by rw [l]; exact rel.val k)
  obtain ⟨p,hp,hp2⟩:=Option.map_eq_some_iff.mp hw
  refine wpAny_getItem_heap (tupleKind_room_in1 hu) (ju I.hok eb) dd hp ?_
  rw [hp2]
  exact h w' _ (I.tok _) rw'
theorem d_in {Q:Value->Shared->Prop} (hu:A.units+1<cLine) (I:Inv X pins σ H s) (g:DGet H a y o) (ry:md y u) (h:∀ s',Inv X pins σ H s'->Q (.bool o.isSome) s') :
  wpAny (model X.prog X.w) A (compareOp .In u (.ref a)) Q E s:=by
 rcases g with ⟨kvs,k,e,ey,l⟩ | ⟨kvs,k,b,e,ey,eb,l⟩
 ·subst ey
  obtain ⟨z,hd,vs,rel,dd⟩:=j5 I.hok e
  refine wpAny_in_of (kV_is ry) hd dd.mapOf ?_
  rw [<- (rel.val k).isSome_eq,<- l]
  exact h _ (I.tok _)
 ·subst ey
  cases (show u=Value.ref b from ry)
  obtain ⟨z,hd,xs,rel,dd⟩:=jM I.hok e
  refine wpAny_in_heap (tupleKind_room_in1 hu) (ju I.hok eb) hd dd ?_
  have q:=(rel.val k).isSome_eq
  rw [Option.isSome_map] at q
  rw [<- q,<- l]
  exact h _ (I.tok _)
theorem d_write {h':Heap} {t':Nat} {ob:HO} (I:Inv X pins σ H s) (mu:Mut (H a)) (hs:Heap.SameBut a s.heap h') (he:∃ q,h'.get? a=some q) (new:mi X.prog X.w (upd H a ob) h' a ob) :
  Inv X pins σ (upd H a ob) { s with heap:=h',toks:=t' }:=
 I.write (x:=a) (e:=a) mu (.inl rfl) (λb q hb z=>(hs.2 b hb).trans z) he new
theorem dk_new {P:Program} {w:World} {H':Hp} {h':Heap} {kvs:List (Key × V)} {vs:List (Key × Value)} (z:kvs.length<=sizeLine) (hd:(a == sysModules)=false) (rel:KV kvs vs) (dd:h'.DictOf (aQ P w) a vs) :
  mi P w H' h' a (.dK kvs):=⟨z,hd,vs,rel,dd⟩
theorem d_setItem {H':Hp} {Q:Unit->Shared->Prop} (hu:A.units+1<cLine) (I:Inv X pins σ H s) (g:DPut H a y v H') (ry:md y u) (rv:md v r) (h:∀ s',Inv X pins σ H' s'->Q () s') :
  wpAny (model X.prog X.w) A (setItem (.ref a) u r) Q E s:=by
 rcases g with ⟨kvs,k,e,ey,l,eH⟩ | ⟨kvs,k,b,e,ey,eb,l,eH⟩
 ·subst ey eH
  obtain ⟨z,hd,vs,rel,dd⟩:=dk_of I.hok e
  have hz:vs.length<=sizeLine:=by rw [<- rel.length]; exact z
  have hl:(bN kvs k v).length<=sizeLine:=by have:=g7 kvs k v; omega
  refine wpAny_setItem_pairs (hsz:=hz) (kV_is ry) dd λh' dd' hs=>h _ ?_
  have he:∃ q,h'.get? a=some q:=let ⟨q,_,_,hq,_⟩:=dd'; ⟨q,hq⟩
  exact d_write I (by rw [e]; exact True.intro) hs he (dk_new hl hd (rel.put k rv) dd')
 ·subst ey eH
  cases (show u=Value.ref b from ry)
  obtain ⟨z,hd,xs,rel,dd⟩:=dt_of I.hok e
  have hz:xs.length<=sizeLine:=by rw [<- Paired.length rel]; exact z
  have hl:(bN kvs k v).length<=sizeLine:=by have:=g7 kvs k v; omega
  refine wpAny_setItem_heap (hsz:=hz) (tupleKind_room_in1 hu) (ju I.hok eb) dd λh' dd' hs=>h _ ?_
  obtain ⟨q,es,ep,hq,h2,h3,h4,_,h5⟩:=dd'
  refine d_write I (by rw [e]; exact True.intro) hs ⟨q,hq⟩ ⟨hl,hd,_,(rel.put k eb rv).keeps λc ys ec=>?_,q,es,ep,hq,h2,h3,h4,h5⟩
  rw [am (bh ec e (λz=>nomatch z))]
  exact ec
end
section
variable {X:Cx} {pins:List (Addr × Obj)} {σ:St} {H:Hp} {s:Shared} {a:Addr} {kvs:List (Key × V)} {k:Key} {u:Value} {A:Around} {E:Value->Shared->Prop}
end
def NoSl (i:Expr):Prop:=∀ ov iv,subscripted i false ov iv=operate [ov,iv] (getItem ov iv)
theorem subD_of {prog:Program} {w:World} {A:Around} {E:Value->Shared->Prop} {s:Shared} {env:Env} {value slice:Expr} {pos:Pos} {T id:String} {Q:Value->Shared->Prop}
  (hl:typeLookup (.type T) "__getitem__" = pure (some (.builtin id))) (hs:NoSl slice)
  (h:wpAny (model prog w) A (eval value env) (λo s₁=>wpAny (model prog w) A (eval slice env) (λi s₂=>s₂.TypeIs o T/\wpAny (model prog w) A (getItem o i) Q E s₂) E s₁) E s) :
  wpAny (model prog w) A (eval (.Subscript value slice pos) env) Q E s:=by
 refine Subscript_ (wpAny_mono h (λo s₁ h₁=>wpAny_mono h₁ (λi s₂ h₂=>?_) λ_ _ x=>x) λ_ _ x=>x)
 obtain ⟨hT,h₂⟩:=h₂
 unfold subscriptTail
 refine wpAny_bind ?_
 rw [getitemInPython_of_ne hT.not_modules]
 refine wpAny_bind (wpAny_specialOf hT hl ?_)
 have fin:wpAny (model prog w) A (subscripted slice false o i) (λr s₃=>wpAny (model prog w) A (letTemporaryGo value o r >>= λ_=>pure r) Q E s₃) E s₂:=by
  rw [hs o i]
  exact wpAny_operating (wpAny_mono h₂ (λr s₃ h₃=>wpAny_bind (wpAny_letTemporaryGo (wpAny_pure h₃))) λ_ _ x=>x)
 first
  | exact wpAny_pure (wpAny_bind fin)
  | exact wpAny_bind (wpAny_pure (wpAny_bind fin))
  | exact wpAny_bind fin
theorem dict_typeIs {X:Cx} {pins:List (Addr × Obj)} {σ:St} {H:Hp} {s:Shared} {a:Addr} {y:V} {o:Option V} (I:Inv X pins σ H s) (g:DGet H a y o):s.TypeIs (.ref a) "dict":=by
 rcases g with ⟨kvs,k,e,_,_⟩ | ⟨kvs,k,b,e,_,_,_⟩
 ·obtain ⟨_,_,vs,_,dd⟩:=j5 I.hok e
  exact dd.typeIs
 ·obtain ⟨_,_,xs,_,dd⟩:=jM I.hok e
  exact dd.typeIs
def tDGet (td ty:TE):TE:=λσ H Q=>td σ H λx H1=>ty σ H1 λy H2=>∃ a v,x=.ref a/\DGet H2 a y (some v)/\Q v H2
def tDIn (ty td:TE):TE:=λσ H Q=>ty σ H λy H1=>td σ H1 λx H2=>∃ a o,x=.ref a/\DGet H2 a y o/\Q (.bl o.isSome) H2
def sDPut (td ty tv:TE):TS:=λD σ H=>tv σ H λv H1=>td σ H1 λx H2=>ty σ H2 λy H3=>∃ a H4,x=.ref a/\DPut H3 a y v H4/\D.nx σ H4
section
variable {X:Cx} {o i e value:Expr} {pos pos' tpos:Pos} {td ty tv:TE}
theorem dL (hu:X.A.units+1<cLine) (ho:PE X o td) (hi:PE X i ty) (hs:NoSl i):PE X (.Subscript o i pos) (tDGet td ty):=by
 intro pins s σ H Q I h
 refine subD_of PySem.F.slot_dict_getitem.lookup hs (thn (ho pins s σ H _ I h) λu s1 ⟨x,H1,I1,rx,q1⟩=>thn (hi pins s1 σ H1 _ I1 q1) λiv s2 ⟨y,H2,I2,ry,a,v,ex,g,q2⟩=>?_)
 subst ex
 obtain rfl:u=Value.ref a:=rx
 exact ⟨dict_typeIs I2 g,d_getItem hu I2 g ry λw' s3 I3 rw'=>⟨v,H2,I3,rw',q2⟩⟩
theorem pc_din (hu:X.A.units+1<cLine) (hi:PE X i ty) (ho:PE X o td):PC X .In i o (tDIn ty td):=by
 intro pins s σ H Q I h
 refine thn (hi pins s σ H _ I h) λiv s1 ⟨y,H1,I1,ry,q1⟩=>thn (ho pins s1 σ H1 _ I1 q1) λu s2 ⟨x,H2,I2,rx,a,ov,ex,g,q2⟩=>?_
 subst ex
 obtain rfl:u=Value.ref a:=rx
 exact d_in hu I2 g ry λs3 I3=>⟨.bl ov.isSome,H2,I3,rfl,q2⟩
theorem lh (hu:X.A.units+1<cLine) (ho:PE X o td) (hi:PE X i ty) (hv:PE X value tv) (hs:swapsWith value (some (.Subscript o i pos')) pos.line X.env=pure false) :
  PS X (.Assign [.Subscript o i pos'] value pos) (sDPut td ty tv):=by
 intro pins s σ H D I h
 refine wpAny_Assign_Subscript (thn (hv pins s σ H _ I h) λr s1 ⟨v,H1,I1,rv,q1⟩=>thn (ho pins s1 σ H1 _ I1 q1) λu s2 ⟨x,H2,I2,rx,q2⟩=>thn (hi pins s2 σ H2 _ I2 q2) λiv s3 ⟨y,H3,I3,ry,a,H4,ex,g,q3⟩=>?_) hs
 subst ex
 obtain rfl:u=Value.ref a:=rx
 exact d_setItem hu I3 g ry rv λs4 I4=>⟨σ,H4,I4,q3⟩
end
theorem dt_empty {P:Program} {w:World} {H:Hp} (h:Heap) (hb:sysModules<h.objs.size):mi P w H (h.push { cls:=.type "dict",data:=.dict #[] }) h.objs.size (.dT []):=
 ⟨Nat.zero_le _,beq_eq_false_iff_ne.mpr (Ne.symm (Nat.ne_of_lt hb)),[],.nil,_,#[],0,get?_push_size _ rfl,⟨rfl,rfl,rfl⟩,rfl,rfl,List.nodup_nil⟩
def tDNewT:TE:=λ_ H Q=>∀ p,H p=none->Q (.ref p) (upd H p (.dT []))
section
variable {X:Cx} {pos:Pos}
theorem iV:PE X (.Dict [] [] pos) tDNewT:=λpins s σ H Q I h=>
 wpAny_Dict_empty ⟨.ref s.heap.objs.size,_,I.laid (a:=s.heap.objs.size) (o:=.dT []) (t':=s.toks) (λ_ _ q=>get?_push_of_some _ q) (Nat.le_refl _) (dt_empty s.heap I.big),rfl,h _ (I.hok.fresh (Nat.le_refl _))⟩
end
structure M2 (X:Cx) (o:Expr) (m:Str) (apos:Pos) (e f:Expr) (cpos:Pos):Prop where
 base:attributeBase o m X.env (eval o X.env)=eval o X.env
 few:((backTo cpos (starEach [e,f] X.env)).all (λx=>!x.1) && (backToKw cpos (keywordEach [] X.env)).all (λx=>x.1.isSome)
  && decide (([e,f]:List Expr).length+([]:List Keyword).length+(if ([]:List Keyword).isEmpty then 0 else 1)<30))=true
 line:(apos.endLine == cpos.line)=true
 trees:backTo cpos (starEach [e,f] X.env)=[(false,eval e X.env),(false,eval f X.env)]
def IsD (H:Hp) (a:Addr):Prop:=(∃ kvs,Rd H a (.dK kvs))\/∃ kvs,Rd H a (.dT kvs)
theorem isD_at {X:Cx} {pins:List (Addr × Obj)} {σ:St} {H:Hp} {s:Shared} {a:Addr} (I:Inv X pins σ H s) (d:IsD H a) :
  s.TypeIs (.ref a) "dict"/\(∀ b,Value.ref a=.ref b->∃ ob,s.heap.get? b=some ob/\ob.dict=none)/\(a == sysModules)=false:=by
 rcases d with ⟨kvs,e⟩ | ⟨kvs,e⟩
 ·obtain ⟨_,hd,vs,_,dd⟩:=j5 I.hok e
  refine ⟨dd.typeIs,λb q=>?_,hd⟩
  cases q
  obtain ⟨ob,_,_,h1,h2,_⟩:=dd
  exact ⟨ob,h1,h2.2.1⟩
 ·obtain ⟨_,hd,xs,_,dd⟩:=jM I.hok e
  refine ⟨dd.typeIs,λb q=>?_,hd⟩
  cases q
  obtain ⟨ob,_,_,h1,h2,_⟩:=dd
  exact ⟨ob,h1,h2.2.1⟩
section
variable {X:Cx} {pins:List (Addr × Obj)} {σ:St} {H:Hp} {s:Shared} {a:Addr} {y d:V} {u r:Value} {o:Option V} {A:Around} {E:Value->Shared->Prop}
theorem d_get2 {Q:Value->Shared->Prop} (hu:A.units+1<cLine) (I:Inv X pins σ H s) (g:DGet H a y o) (ry:md y u) (rd:md d r) (h:∀ w' s',Inv X pins σ H s'->md (o.getD d) w'->Q w' s') :
  wpAny (model X.prog X.w) A (call (.builtin "dict.get") [.ref a,u,r]) Q E s:=by
 rcases g with ⟨kvs,k,e,ey,l⟩ | ⟨kvs,k,b,e,ey,eb,l⟩
 ·subst ey
  obtain ⟨z,hd,vs,rel,dd⟩:=j5 I.hok e
  refine call_meetsIn PySem.F.slot_dict_get dd.typeIs PySem.F.entry_dict_get (PySem.F.args_dict_get_3 _ _ _) (meets_dict_get_default (aQ X.prog X.w) a (kV_is ry) hd r) ⟨_,dd.mapOf,h _ _ (I.tok _) ?_⟩
  rw [l]
  exact (rel.val k).getD rd
 ·subst ey
  cases (show u=Value.ref b from ry)
  obtain ⟨z,hd,xs,rel,dd⟩:=jM I.hok e
  refine call_meetsIn PySem.F.slot_dict_get dd.typeIs PySem.F.entry_dict_get (PySem.F.args_dict_get_3 _ _ _) (meetsH_dict_get_default (tupleKind (aQ X.prog X.w)) a b hd r) ⟨tupleKind_room_in1 hu,k,xs,ju I.hok eb,dd,h _ _ (I.tok _) ?_⟩
  rw [l]
  exact (rel.val k).getD rd
end
def tDGet2 (td ty tx:TE):TE:=λσ H Q=>td σ H λx H1=>∃ a,x=.ref a/\IsD H1 a/\ty σ H1 λy H2=>tx σ H2 λz H3=>∃ o,DGet H3 a y o/\Q (o.getD z) H3
section
variable {X:Cx} {o e f:Expr} {apos cpos:Pos} {td ty tx:TE}
theorem pe_dget2 (hu:X.A.units+1<cLine) (ho:PE X o td) (he:PE X e ty) (hf:PE X f tx) (m:M2 X o "get" apos e f cpos):PE X (.Call (.Attribute o "get" apos) [e,f] [] cpos) (tDGet2 td ty tx):=by
 intro pins s σ H Q I h
 refine wpAny_Call_method m.base m.few m.line PySem.F.plainAttrs_dict PySem.F.slot_dict_get PySem.F.type_dict_get (thn (ho pins s σ H _ I h) λu s1 ⟨x,H1,I1,rx,a,ex,d,q1⟩=>?_)
 subst ex
 obtain rfl:u=Value.ref a:=rx
 obtain ⟨t1,t2,_⟩:=isD_at I1 d
 refine ⟨t1,t2,?_⟩
 rw [m.trees]
 refine Calls.callWith_builtin rfl (Calls.evalArgs_plain (Calls.spliced_cons (thn (he pins s1 σ H1 _ I1 q1) λiv s2 ⟨y,H2,I2,ry,q2⟩=>
  Calls.spliced_cons (thn (hf pins s2 σ H2 _ I2 q2) λfv s3 ⟨z,H3,I3,rz,ov,g,q3⟩=>Calls.spliced_nil ?_))))
 exact d_get2 hu I3 g ry rz λw' s4 I4 rw'=>⟨_,H3,I4,rw',q3⟩
end
section
variable {X:Cx} {pins:List (Addr × Obj)} {σ:St} {H:Hp} {s:Shared} {a:Addr} {kvs:List (Key × V)} {A:Around} {E:Value->Shared->Prop}
end
section
variable {X:Cx} {pins:List (Addr × Obj)} {σ:St} {H:Hp} {s:Shared} {a:Addr} {y:V} {u:Value} {A:Around} {E:Value->Shared->Prop}
end
section
variable {κ:Type} [DecidableEq κ]
end
end L2
namespace L2
open PySem PySem.Spec PyProof.Rows PySem.W
def InR {α:Type} (n:Nat) (P:α->Prop):KasT α->Prop
 | .ret a=>P a
 | .ask i j k=>i<n/\j<n/\∀ b,InR n P (k b)
theorem InR.bind {α β:Type} {n:Nat} {P:α->Prop} {Q:β->Prop} {f:α->KasT β}:∀ {t:KasT α},InR n P t->(∀ a,P a->InR n Q (f a))->InR n Q (t.bind f)
 | .ret a,h,hf=>hf a h
 | .ask i j k,h,hf=>⟨h.1,h.2.1,λb=>InR.bind (h.2.2 b) hf⟩
theorem InR.ite {α:Type} {n:Nat} {P:α->Prop} {c:Prop} [Decidable c] {t u:KasT α} (h1:InR n P t) (h2:InR n P u):InR n P (if c then t else u):=by
 split
 ·exact h1
 ·exact h2
def Lo (n:Nat) (p:Array Nat):Prop:=∀ x ∈ p,x<n
theorem Lo.at {n:Nat} {p:Array Nat} (h:Lo n p) (h0:0<n) (i:Nat):p.getD i 0<n:=by
 rw [jt]
 cases e:p[i]? with
 | none=>exact h0
 | some x=>exact h x (Array.mem_of_getElem? e)
theorem Lo.of {n:Nat} {p q:Array Nat} (h:Lo n p) (e:q.Perm p):Lo n q:=λx hx=>h x (e.mem_iff.mp hx)
section
variable {n:Nat} (h0:0<n)
include h0
theorem kZ {p:Array Nat} (hp:Lo n p):∀ f m,InR n (λ_=>True) (kas_asc p f m)
 | 0,m=>trivial
 | f+1,m=>⟨hp.at h0 _,hp.at h0 _,λb=>.ite trivial (kZ hp f (m+1))⟩
theorem gc:∀ f p m q,Lo n p->InR n (λr=>Lo n r.1) (kas_desc f p m q)
 | 0,p,m,q,hp=>hp
 | f+1,p,m,q,hp=>⟨hp.at h0 _,hp.at h0 _,λb=>.ite (.ite (gc f _ _ _ (hp.of (mirror_perm _ _ _ _))) (gc f _ _ _ hp))
   ⟨hp.at h0 _,hp.at h0 _,λd=>.ite hp (gc f _ _ _ hp)⟩⟩
theorem j6 {p:Array Nat} (hp:Lo n p) (m k:Nat):InR n (λr=>Lo n r.2) (kas_tail3 m k p):=
 (kZ h0 (hp.of (mirror_perm _ _ _ _)) _ _).bind λ_ _=>hp.of (mirror_perm _ _ _ _)
theorem f7 {p:Array Nat} (hp:Lo n p) (m k:Nat):InR n (λr=>Lo n r.2) (kas_descPart m k p):=
 (gc h0 _ _ _ _ hp).bind λr hr=>.ite (j6 h0 (hr.of (mirror_perm _ _ _ _)) _ _) (j6 h0 hr _ _)
theorem inr_count {p:Array Nat} (hp:Lo n p) (k:Nat):InR n (λr=>Lo n r.2) (kas_count k p):=
 (kZ h0 hp _ _).bind λm _=>.ite hp (.ite ⟨hp.at h0 _,hp.at h0 _,λc=>.ite hp (f7 h0 (hp.of (mirror_perm _ _ _ _)) _ _)⟩ (f7 h0 hp _ _))
theorem gC {p:Array Nat} (hp:Lo n p) (k:Nat):∀ f l r,InR n (λ_=>True) (kas_place p k f l r)
 | 0,l,r=>trivial
 | f+1,l,r=>.ite trivial ⟨hp.at h0 _,hp.at h0 _,λc=>.ite (gC hp k f _ _) (gC hp k f _ _)⟩
theorem inr_bin:∀ f p k,Lo n p->InR n (λ_=>True) (kas_bin f p k)
 | 0,p,k,hp=>trivial
 | f+1,p,k,hp=>(gC h0 hp k _ _ _).bind λl _=>inr_bin f _ _ (hp.of (bubble_perm _ _ _))
theorem inr_sort:InR n (λ_=>True) (kas_sort n):=
 (inr_count h0 (λx hx=>by simpa using hx) n).bind λr hr=>.ite (inr_bin h0 _ _ _ hr) trivial
end
theorem wp_ev {α:Type} {n:Nat} {c:Nat->Nat->Bool} {cmp:Nat->Nat->(Bool->Shared->Prop)->Shared->Prop} {P:α->Prop} {Q:α->Shared->Prop} {s:Shared} (h:∀ i j C,i<n->j<n->C (c i j) s->cmp i j C s) :
  ∀ {t:KasT α},InR n P t->Q (ev c t) s->t.kasWp cmp Q s
 | .ret a,_,q=>q
 | .ask i j k,r,q=>h i j _ r.1 r.2.1 (wp_ev h (r.2.2 (c i j)) q)
def klt (a b:Int × List Int):Bool:=if a.1=b.1 then (if a.2=b.2 then false else HT.lexLt a.2 b.2) else decide (a.1<b.1)
section
variable {X:Cx} {pins:List (Addr × Obj)} {σ:St} {H:Hp} {s:Shared}
def mK (K:Frag) (H:Hp) (y:V) (k:Int × List Int):Prop:=∃ a t,y=.ref a/\H a=some (.tup [.int k.1,.ref t])/\SqT K H t (k.2.map V.int)
theorem key_lt {A:Around} {E:Value->Shared->Prop} {x y:V} {u v:Value} {j k:Int × List Int} {Q:Bool->Shared->Prop} (hu:A.units+64<cLine) (I:Inv X pins σ H s) (hx:mK X.K H x j) (hy:mK X.K H y k) (rx:md x u) (ry:md y v)
  (h:Q (klt j k) s):wpAny (model X.prog X.w) A (keyLt' (tuples' true) u v) Q E s:=by
 obtain ⟨a,ta,rfl,ha,hta⟩:=hx
 obtain ⟨b,tb,rfl,hb,htb⟩:=hy
 cases rx
 cases ry
 obtain ⟨_,its,r1,p1⟩:=(show mi X.prog X.w H s.heap a (.tup _) from I.hok a _ ha)
 obtain ⟨_,its2,r2,p2⟩:=(show mi X.prog X.w H s.heap b (.tup _) from I.hok b _ hb)
 obtain ⟨⟨cls,dd,data,sl⟩,ho,hc,n,hd⟩:=id p1
 obtain ⟨⟨cls2,dd2,data2,sl2⟩,ho2,hc2,n2,hd2⟩:=id p2
 cases r1 with
 | cons q1 r1=>cases r1 with
  | cons q2 r1=>
   cases r1
   cases r2 with
   | cons q3 r2=>cases r2 with
    | cons q4 r2=>
     cases r2
     obtain ⟨t1,rfl⟩:=q1
     obtain ⟨t3,rfl⟩:=q3
     cases q2
     cases q4
     refine kat_lt ho hd ho2 hd2 (kat_cons (wpAny_eqBool_int (kat_go (λe=>kat_yes ?_) λe=>kat_no ?_)))
     ·have e1:j.1=k.1:=by simpa using e
      unfold klt at h
      rw [if_pos e1] at h
      obtain ⟨as,ra⟩:=(fg hta).reads I rfl
      obtain ⟨bs,rb⟩:=(fg htb).reads I rfl
      obtain ⟨jts,r3,p3,_⟩:=I.tuple hta
      obtain ⟨jts2,r4,p4,_⟩:=I.tuple htb
      have eqr:SeqAt.EqAt A s (.ref ta) (.ref tb) (decide (j.2=k.2)):=by
       by_cases hab:ta=tb
       ·subst hab
        rw [decide_eq_true (ints_inj (I.tuple_inj hta htb))]
        exact SeqAt.EqAt.same _
       ·exact SeqAt.EqAt.of_refs hab λprog w E Q' hq=>eq_dataH ra rb (bE _) (bE _) hu (by rw [jj]; exact hq)
      refine kat_cons (eqr _ _ _ _ ?_)
      refine kat_go (λe=>kat_yes (kat_nil ?_)) λe=>kat_no ?_
      ·rw [if_pos (of_decide_eq_true e)] at h
       exact h
      ·rw [if_neg (of_decide_eq_false e)] at h
       exact kat_one _ _ (HT.lt_tupInts p3 p4 (iS r3) (iS r4) (by omega) h)
     ·have e1:¬ j.1=k.1:=by simpa using e
      unfold klt at h
      rw [if_neg e1] at h
      exact oneLt_int h
end
section
variable {X:Cx} {pins:List (Addr × Obj)} {σ:St} {H:Hp} {s:Shared}
theorem mK.but {K:Frag} {H H':Hp} {p:Addr} {xs:List V} {y:V} {k:Int × List Int} (hp:H p=some (.lst xs)) (hk:∀ c o,H c=some o->c ≠ p->H' c=some o) (h:mK K H y k):mK K H' y k:=by
 obtain ⟨a,t,rfl,ha,ht⟩:=h
 refine ⟨a,t,rfl,hk _ _ ha (bh ha hp (by intro z; cases z)),?_⟩
 rcases ht with (h | ⟨o,h⟩) | h
 ·exact .inl (.inl (hk _ _ h (bh h hp (by intro z; cases z))))
 ·exact .inl (.inr ⟨o,hk _ _ h (bh h hp (by intro z; cases z))⟩)
 ·exact .inr h
theorem mK.same {K:Frag} {H H':Hp} {y:V} {k:Int × List Int} (e:l0 H H') (h:mK K H y k):mK K H' y k:=by
 obtain ⟨a,t,rfl,ha,ht⟩:=h
 exact ⟨a,t,rfl,e _ _ ha,e.sqT ht⟩
abbrev mD (K:Frag) (H:Hp):List V->List (Int × List Int)->Prop:=Paired (mK K H)
theorem mD.imp {K:Frag} {H H':Hp} (hh:∀ y k,mK K H y k->mK K H' y k):∀ {ys:List V} {ks:List (Int × List Int)},mD K H ys ks->mD K H' ys ks
 | _,_,.nil=>.nil
 | _,_,.cons q r=>.cons (hh _ _ q) (mD.imp hh r)
theorem mD.snoc {K:Frag} {H:Hp} {y:V} {k:Int × List Int} (q:mK K H y k):∀ {ys:List V} {ks:List (Int × List Int)},mD K H ys ks->mD K H (ys++[y]) (ks++[k])
 | _,_,.nil=>.cons q .nil
 | _,_,.cons p r=>.cons p (mD.snoc q r)
theorem mD.get {K:Frag} {H:Hp}:∀ {ys:List V} {ks:List (Int × List Int)} {i:Nat} {y:V},mD K H ys ks->ys[i]? = some y->∃ k,ks[i]? = some k/\mK K H y k
 | _,_,0,y,.cons q r,e=>by cases e; exact ⟨_,rfl,q⟩
 | _::_,_::_,i+1,y,.cons q r,e=>mD.get (i:=i) r e
theorem gH (I:Inv X pins σ H s):∀ {ys:List V} {ks:List (Int × List Int)} {us:List Value},mD X.K H ys ks->l9 ys us->∃ fs:List Value,KatTups s.heap us fs/\fs.length=us.length/\∀ v ∈ fs,∃ n t,v=Value.int n t
 | _,_,_,.nil,.nil=>⟨[],.nil,rfl,λ_ h=>nomatch h⟩
 | _,_,_,.cons q r,.cons p v=>by
  obtain ⟨fs,h1,h2,h3⟩:=gH I r v
  obtain ⟨a,t,rfl,ha,ht⟩:=q
  cases p
  obtain ⟨_,its,r1,p1⟩:=(show mi X.prog X.w H s.heap a (.tup _) from I.hok a _ ha)
  obtain ⟨⟨cls,dd,data,sl⟩,ho,hc,n,hd⟩:=id p1
  cases r1 with
  | cons q1 r1=>
   obtain ⟨t1,rfl⟩:=q1
   refine ⟨.int _ t1::fs,.cons ho hc hd rfl h1,by simp [h2],λv hv=>?_⟩
   rcases List.mem_cons.mp hv with rfl | hv
   ·exact ⟨_,_,rfl⟩
   ·exact h3 v hv
theorem j9 {A:Around} {E:Value->Shared->Prop} {f:Value} {H0:Hp} {D kS:Addr} {φ:Heap->Prop} {key:V->Int × List Int} {body:Value->PUnit->Sem (ForInStep PUnit)} {R:PUnit->Shared->Prop} {all:List V}
  (h0:H0 kS=none) (hn:all.length<64)
  (hf:∀ x ∈ all,∀ u H1 s1,md x u->Inv X pins σ H1 s1->l0 H0 H1->wpAny (model X.prog X.w) A (call f [u]) (λk s2=>∃ y H2,Inv X pins σ H2 s2/\md y k/\l0 H1 H2/\mK X.K H2 y (key x)) (λ_ _=>False) s1)
  (hb:∀ u (s1:Shared) (C:Shared->Prop),wpAny (model X.prog X.w) A (call f [u]) (λk s2=>∃ (ks:List Value) (n:Nat),s2.heap.get? kS=some (seqObj "list" (List.toArray ks) n)/\ks.length<64/\C { s2 with heap:=s2.heap.update kS (Obj.mapSeq (·.push k)) }) (λ_ _=>False) s1->
   wpAny (model X.prog X.w) A (body u ⟨⟩) (λr s2=>r=.yield ⟨⟩/\C s2) E s1)
  (hR:∀ H1 s1 ys ks,Inv X pins σ H1 s1->l0 H0 H1->H1 D=some (.ext φ)->H1 kS=some (.lst ys)->mD X.K H1 ys ks->ks=all.map key->R ⟨⟩ s1) :
  ∀ (r pre:List V) (us:List Value) (ys:List V) (H1:Hp) (s1:Shared),all=pre++r->l9 r us->Inv X pins σ H1 s1->l0 H0 H1->H1 D=some (.ext φ)->H1 kS=some (.lst ys)->mD X.K H1 ys (pre.map key)->
   wpAny (model X.prog X.w) A (forIn us PUnit.unit body) R E s1
 | [],pre,us,ys,H1,s1,ea,rv,I,sm,hD,hk,kr=>by
  cases rv
  rw [forIn_nil]
  exact wpAny_pure (hR H1 s1 ys _ I sm hD hk kr (by rw [ea,append_nil]))
 | x::r,pre,us,ys,H1,s1,ea,rv,I,sm,hD,hk,kr=>by
  cases rv with
  | cons q rv=>
   rename_i u us
   rw [forIn_cons]
   have hx:x ∈ all:=by rw [ea]; simp
   have hyl:ys.length=pre.length:=by have:=Paired.length kr; rw [length_map] at this; exact this
   have hal:all.length=pre.length+(r.length+1):=by rw [ea,length_append,length_cons]
   refine wpAny_bind (wpAny_mono (hb u s1 (λs2=>wpAny (model X.prog X.w) A (forIn us PUnit.unit body) R E s2) (wpAny_mono (hf x hx u H1 s1 q I sm) (λk s2 ⟨y,H2,I2,ry,sm2,ky⟩=>?_) λ_ _ z=>z)) (λz s2 ⟨ez,hz⟩=>?_) λ_ _ z=>z)
   ·obtain ⟨_,its,n,rk,lk,ek⟩:=I2.lstM (sm2 _ _ hk)
    refine ⟨its,n,ek,by omega,?_⟩
    have I3:=I2.lset (t':=s2.toks) (f:=(·.push k)) (its':=its++[k]) (ys:=ys++[y]) (sm2 _ _ hk) ek (by simp) (rk.append (.cons ry .nil)) (by rw [length_append,length_singleton,sizeLine_eq]; omega)
    have keep:∀ c o,H2 c=some o->c ≠ kS->upd H2 kS (.lst (ys++[y])) c=some o:=λc o e ne=>by rw [am ne]; exact e
    refine j9 h0 hn hf hb hR r (pre++[x]) us (ys++[y]) _ _ (by rw [ea]; simp) rv I3 (λc o e=>?_) ?_ af ?_
    ·exact keep c o (sm2 _ _ (sm c o e)) (ak e h0)
    ·exact keep D _ (sm2 _ _ hD) (bh hD hk (by intro z; cases z))
    ·rw [map_append]
     exact mD.snoc (ky.but (sm2 _ _ hk) keep) (mD.imp (λ_ _ z=>(z.same sm2).but (sm2 _ _ hk) keep) kr)
   ·subst ez
    exact hz
end
theorem jX:∀ {a b c:List Int},HT.lexLt a b=true->HT.lexLt b c=true->HT.lexLt a c=true
 | [],[],_,h,_=>by simp [HT.lexLt] at h
 | [],_::_,[],_,h=>by simp [HT.lexLt] at h
 | [],_::_,_::_,_,_=>rfl
 | _::_,[],_,h,_=>by simp [HT.lexLt] at h
 | _::_,_::_,[],_,h=>by simp [HT.lexLt] at h
 | x::a,y::b,z::c,h1,h2=>by
  rw [HT.lexLt_cons] at h1 h2 ⊢
  by_cases e1:x=y
  ·subst e1
   rw [if_pos rfl] at h1
   by_cases e2:x=z
   ·rw [if_pos e2] at h2 ⊢
    exact jX h1 h2
   ·rw [if_neg e2] at h2 ⊢
    exact h2
  ·rw [if_neg e1] at h1
   have l1:=of_decide_eq_true h1
   by_cases e2:y=z
   ·subst e2
    rw [if_neg e1]
    exact h1
   ·rw [if_neg e2] at h2
    have l2:=of_decide_eq_true h2
    rw [if_neg (by omega)]
    exact decide_eq_true (by omega)
theorem j7:∀ {a b:List Int},a ≠ b->HT.lexLt a b=false->HT.lexLt b a=true
 | [],[],h,_=>absurd rfl h
 | [],_::_,_,h=>by simp [HT.lexLt] at h
 | _::_,[],_,_=>rfl
 | x::a,y::b,h,h1=>by
  rw [HT.lexLt_cons] at h1 ⊢
  by_cases e:x=y
  ·subst e
   rw [if_pos rfl] at h1 ⊢
   exact j7 (λz=>h (by rw [z])) h1
  ·rw [if_neg e] at h1
   rw [if_neg (λz=>e z.symm)]
   have:=of_decide_eq_false h1
   exact decide_eq_true (by omega)
theorem li:∀ a:List Int,HT.lexLt a a=false
 | []=>rfl
 | x::a=>by rw [HT.lexLt_cons,if_pos rfl]; exact li a
theorem klt_eq (a b:Int × List Int):klt a b=if a.1=b.1 then HT.lexLt a.2 b.2 else decide (a.1<b.1):=by
 unfold klt
 by_cases e:a.2=b.2
 ·rw [if_pos e,e,li]
 ·rw [if_neg e]
theorem gA {a b c:Int × List Int} (h1:klt a b=true) (h2:klt b c=true):klt a c=true:=by
 rw [klt_eq] at *
 by_cases e1:a.1=b.1
 ·rw [if_pos e1] at h1
  by_cases e2:b.1=c.1
  ·rw [if_pos e2] at h2
   rw [if_pos (e1.trans e2)]
   exact jX h1 h2
  ·rw [if_neg e2] at h2
   rw [if_neg (by rw [e1]; exact e2),e1]
   exact h2
 ·rw [if_neg e1] at h1
  have l1:=of_decide_eq_true h1
  by_cases e2:b.1=c.1
  ·rw [if_neg (by rw [<- e2]; exact e1),<- e2]
   exact h1
  ·rw [if_neg e2] at h2
   have l2:=of_decide_eq_true h2
   rw [if_neg (by omega)]
   exact decide_eq_true (by omega)
theorem klt_total {a b:Int × List Int} (h:a ≠ b) (h1:klt a b=false):klt b a=true:=by
 rw [klt_eq] at *
 by_cases e:a.1=b.1
 ·rw [if_pos e] at h1
  rw [if_pos e.symm]
  exact j7 (λz=>h (Prod.ext e z)) h1
 ·rw [if_neg e] at h1
  have:=of_decide_eq_false h1
  rw [if_neg (λz=>e z.symm)]
  exact decide_eq_true (by omega)
theorem lI (a:Int × List Int):klt a a=false:=by rw [klt_eq,if_pos rfl,li]
def kAt (ks:List (Int × List Int)) (i j:Nat):Bool:=klt (ks.getD i (0,[])) (ks.getD j (0,[]))
theorem kAt_tot {ks:List (Int × List Int)} (hn:ks.Nodup):Tot ks.length (kAt ks):=by
 refine ⟨λi j k _ _ _=>gA,λi j hi hj hne h=>klt_total (λz=>hne ?_) h⟩
 have g:∀ {i:Nat} (hi:i<ks.length),ks.getD i (0,[])=ks[i]:=λhi=>by simp [List.getD,hi]
 rw [g hi,g hj] at z
 exact (getElem_inj hn).mp z
section
variable {X:Cx} {pins:List (Addr × Obj)} {σ:St} {H:Hp} {s:Shared}
theorem jV {A:Around} {E:Value->Shared->Prop} {P:PySem.Fin->Shared->Prop} {H0:Hp} {D kS:Addr} {e1:Nat} {st:SortSt} {out:List Value} {ys zs:List V} (hout:(arrOf st).map (·.2)=List.toArray out) (hz:out.length<64) (hf:failedOf st=none)
  (I:Inv X pins σ H s) (h0:H0 kS=none) (h1:H0 D=none) (sm:l0 H0 H) (hD:H D=some (.ext λh=>h.get? D=some (seqObj "list" #[] e1))) (hk:H kS=some (.lst ys)) (rv:l9 zs out.reverse)
  (h:∀ H2 s2,Inv X pins σ H2 s2->l0 H0 H2->H2 D=some (.lst zs)->P (.done (.ret .none)) s2):wpAny (model X.prog X.w) A (ksk_tail D true e1 (.ref kS) st) P E s:=by
 have ne:D ≠ kS:=bh hD hk (by intro z; cases z)
 have hzl:zs.length=out.length:=by rw [rv.length,length_reverse]
 obtain ⟨lz,its,n,rk,lk,ek⟩:=I.lstM hk
 have I1:=I.lset (t':=s.toks) (f:=λ_=>#[]) (its':=[]) (ys:=[]) hk ek rfl .nil (Nat.zero_le _)
 have hD1:upd H kS (.lst []) D=some (.ext λh=>h.get? D=some (seqObj "list" #[] e1)):=by rw [am ne]; exact hD
 have eD:(s.heap.update kS (Obj.mapSeq λ_=>#[])).get? D=some (seqObj "list" #[] e1):=(show mi X.prog X.w _ _ D (.ext _) from I1.hok D _ hD1).1
 have q:=get?_update_seq eD (λ_=>List.toArray out.reverse)
 have I2:Inv X pins σ (upd (upd H kS (.lst [])) D (.lst zs)) { s with heap:=(s.heap.update kS (Obj.mapSeq λ_=>#[])).update D (Obj.mapSeq λ_=>List.toArray out.reverse),toks:=s.toks }:=
  I1.write (x:=D) (e:=D) (by rw [hD1]; exact trivial) (.inl rfl) (λb' u hb hu=>(get?_update_other _ _ (Ne.symm hb)).trans hu) ⟨_,q⟩ ⟨by rw [hzl,sizeLine_eq]; omega,out.reverse,_,rv,q⟩
 unfold ksk_tail
 dsimp only
 rw [hout,kat_outs,show katRev true out=out.reverse from if_pos rfl]
 refine wpAny_bind (listUpdate_at ek rfl ?_ (by rw [size_toArray,<- lk]; exact lz) (Nat.zero_le _))
 refine wpAny_bind (wpAny_letGo ?_)
 refine wpAny_bind (seqEpoch_at eD rfl ?_)
 refine wpAny_bind (listUpdate_at eD rfl ?_ (Nat.zero_le _) (by rw [size_toArray,length_reverse,sizeLine_eq]; omega))
 rw [hf]
 simp only [bne_self_eq_false,Bool.false_eq_true,if_false]
 refine wpAny_pure (h _ _ I2 (λc o e=>?_) af)
 rw [am (ak e h1),am (ak e h0)]
 exact sm c o e
end
theorem dm {α:Type} {l:List α} {d:α} {i:Nat} (h:i<l.length):l.getD i d=l[i]:=by simp [List.getD,h]
theorem map_range {α:Type} (l:List α) (d:α):(List.range l.length).map (λi=>l.getD i d)=l:=by
 apply List.ext_getElem
 ·simp
 ·intro i h1 h2
  rw [List.getElem_map,List.getElem_range,dm h2]
def iW {α:Type} (p:Array Nat) (xs:List α) (d:α):List α:=p.toList.map λi=>xs.reverse.getD i d
theorem kh {α:Type} {p:Array Nat} {xs:List α} {d:α} (hp:Pm xs.length p):((iW p xs d).reverse).Perm xs:=by
 refine (reverse_perm _).trans (((hp.map _).trans ?_).trans (reverse_perm xs))
 rw [show List.map (λi=>xs.reverse.getD i d) (List.range xs.length)=xs.reverse by rw [<- length_reverse (as:=xs)]; exact map_range _ _]
theorem Pm.mem {n:Nat} {p:Array Nat} (hp:Pm n p) {i:Nat} (h:i ∈ p.toList):i<n:=List.mem_range.mp (hp.mem_iff.mp h)
theorem ko {p:Array Nat} {xs:List V} {us:List Value} (hp:Pm xs.length p) (rv:l9 xs us):l9 (iW p xs .non) (iW p us Value.none):=by
 have r:=rv.reverse
 have go:∀ l:List Nat,(∀ i ∈ l,i<xs.length)->l9 (l.map λi=>xs.reverse.getD i .non) (l.map λi=>us.reverse.getD i Value.none):=by
  intro l
  induction l with
  | nil=>intro _; exact .nil
  | cons i l ih=>
   intro h
   have hi:i<xs.reverse.length:=by rw [length_reverse]; exact h i (by simp)
   refine .cons ?_ (ih λj hj=>h j (by simp [hj]))
   obtain ⟨u,e,q⟩:=r.get (getElem?_eq_getElem hi)
   show md (xs.reverse.getD i .non) (us.reverse.getD i Value.none)
   rw [dm hi,getD_eq_getElem?_getD,e]
   exact q
 exact go _ λi hi=>hp.mem hi
theorem jU {p:Array Nat} {xs:List V} {key:V->Int × List Int} (hp:Pm xs.length p) (hs:So (kAt (xs.map key).reverse) p xs.length):((iW p xs .non).reverse).Pairwise λx y=>klt (key y) (key x)=true:=by
 rw [List.pairwise_reverse]
 unfold iW
 rw [List.pairwise_map,List.pairwise_iff_getElem]
 intro i j hi hj hij
 rw [Array.length_toList,hp.sz] at hi hj
 have z:=hs i j hij hj
 unfold kAt at z
 have g:∀ k (hk:k<xs.length),key (xs.reverse.getD (p.getD k 0) .non)=(xs.map key).reverse.getD (p.getD k 0) (0,[]):=λk hk=>by
  have h1:p.getD k 0<xs.length:=hp.lt hk
  rw [dm (by rw [length_reverse]; exact h1),dm (by rw [length_reverse,length_map]; exact h1)]
  simp
 rw [<- g i hi,<- g j hj,iD (by rw [hp.sz]; exact hi),iD (by rw [hp.sz]; exact hj)] at z
 exact z
section
variable {X:Cx} {pins:List (Addr × Obj)} {σ:St} {H:Hp} {s:Shared}
theorem sort_end {A:Around} {E:Value->Shared->Prop} {P:PySem.Fin->Shared->Prop} {H0:Hp} {D kS:Addr} {e1:Nat} {xs ys:List V} {us its:List Value} {key:V->Int × List Int} (hu:A.units+64<cLine)
  (I:Inv X pins σ H s) (h0:H0 kS=none) (h1:H0 D=none) (sm:l0 H0 H) (hD:H D=some (.ext λh=>h.get? D=some (seqObj "list" #[] e1))) (hk:H kS=some (.lst ys)) (kr:mD X.K H ys (xs.map key)) (ru:l9 ys us) (rv:l9 xs its)
  (h64:xs.length<64) (nd:(xs.map key).Nodup)
  (h:∀ H2 s2 zs,Inv X pins σ H2 s2->l0 H0 H2->H2 D=some (.lst zs)->zs.Perm xs->zs.Pairwise (λx y=>klt (key y) (key x)=true)->P (.done (.ret .none)) s2):wpAny (model X.prog X.w) A (ksk_end D true its.toArray e1 (.ref kS) us.toArray) P E s:=by
 have lx:=rv.length
 have lu:=ru.length
 have ly:ys.length=xs.length:=by have:=Paired.length kr; rw [length_map] at this; exact this
 have hl:us.length=its.length:=by omega
 unfold ksk_end
 dsimp only
 rw [if_pos rfl]
 refine wpAny_bind (wpAny_rule ?_)
 by_cases h2:its.toArray.size<2
 ·rw [if_pos h2,if_pos h2]
  refine wpAny_bind (wpAny_pure ?_)
  rw [StateT.run_pure]
  refine wpAny_bind (wpAny_pure ?_)
  dsimp only
  rw [kat_pairs true hl,show katRev true us=us.reverse from if_pos rfl,show katRev true its=its.reverse from if_pos rfl]
  refine jV (st:=SortSt.mk' general' _ #[] 7 none) (out:=its.reverse) (zs:=xs) ?_ (by rw [length_reverse]; omega) rfl I h0 h1 sm hD hk (by rw [reverse_reverse]; exact rv) λH2 s2 I2 sm2 q=>h H2 s2 xs I2 sm2 q (.refl _) ?_
  ·show Array.map (·.2) ((us.reverse.toArray).zip (its.reverse.toArray))=_
   apply Array.toList_inj.mp
   rw [Array.toList_map,ksk_zip]
   exact map_snd_zip (by simp [hl])
  ·rw [size_toArray] at h2
   match xs,(by omega:xs.length<2) with
   | [],_=>exact .nil
   | [x],_=>exact pairwise_singleton _ _
 ·rw [if_neg h2,if_neg h2]
  rw [size_toArray] at h2
  obtain ⟨fs,t1,t2,t3⟩:=gH I kr ru
  refine wpAny_bind (kat_kind (T:=.type "int") t1 (by omega) (λv hv=>?_) (by decide) ?_)
  ·obtain ⟨n,t,rfl⟩:=t3 v hv
   exact Looks.of_pure rfl
  rw [show (Value.type "int" != Value.type "tuple")=true by decide,kat_pairs true hl,show katRev true us=us.reverse from if_pos rfl,show katRev true its=its.reverse from if_pos rfl]
  have tot:=kAt_tot (ks:=(xs.map key).reverse) ((reverse_perm _).nodup_iff.mpr nd)
  rw [length_reverse,length_map] at tot
  obtain ⟨hp,hs⟩:=ev_sort tot (by omega)
  refine wpAny_bind (wpAny_mono (kat_run (vs:=its.reverse) (ks:=us.reverse) (G:=λp s'=>p=ev (kAt (xs.map key).reverse) (kas_sort xs.length)/\s'=s)
   (Q:=λst' s'=>s'=s/\failedOf st'=none/\arrOf st'=(ev (kAt (xs.map key).reverse) (kas_sort xs.length)).map (kas_item ((List.toArray us.reverse).zip (List.toArray its.reverse))))
   (by rw [length_reverse,length_reverse]; exact hl) (by rw [length_reverse]; omega) (by rw [length_reverse]; omega) (λp st' s' a1 a2 a3 a4=>⟨a4.2,a3,by rw [<- a4.1]; exact a2⟩) ?_) ?_ λ_ _ x=>x)
  ·rw [length_reverse,<- lx]
   refine wp_ev (c:=kAt (xs.map key).reverse) (λi j C hi hj hC=>?_) (inr_sort (by omega)) ⟨rfl,rfl⟩
   show wpAny _ _ (keyLt' _ (us.reverse.getD i Value.none) (us.reverse.getD j Value.none)) C _ s
   have at_:∀ i,i<xs.length->∃ y u,us.reverse.getD i Value.none=u/\md y u/\mK X.K H y ((xs.map key).reverse.getD i (0,[])):=λi hi=>by
    have hi':xs.length-1-i<ys.length:=by omega
    obtain ⟨k,ek,kk⟩:=mD.get kr (getElem?_eq_getElem hi')
    obtain ⟨u,eu,ru'⟩:=ru.get (getElem?_eq_getElem hi')
    refine ⟨ys[xs.length-1-i],u,?_,ru',?_⟩
    ·rw [getD_eq_getElem?_getD,getElem?_reverse (by omega),show us.length-1-i=xs.length-1-i by omega,eu]
     rfl
    ·rw [getD_eq_getElem?_getD,getElem?_reverse (by rw [length_map]; exact hi),length_map,ek]
     exact kk
   obtain ⟨y1,u1,e1,r1,k1⟩:=at_ i hi
   obtain ⟨y2,u2,e2,r2,k2⟩:=at_ j hj
   rw [e1,e2]
   exact key_lt hu I k1 k2 r1 r2 hC
  ·rintro ⟨⟨⟩,st'⟩ s' ⟨es,hf,har⟩
   dsimp only at es hf har ⊢
   subst es
   refine jV (out:=iW (ev (kAt (xs.map key).reverse) (kas_sort xs.length)) its Value.none) (zs:=(iW (ev (kAt (xs.map key).reverse) (kas_sort xs.length)) xs .non).reverse) (kat_snds (by rw [length_reverse,length_reverse]; exact hl) har) ?_ hf I h0 h1 sm hD hk (ko hp rv).reverse
    λH2 s2 I2 sm2 q=>h H2 s2 _ I2 sm2 q (kh hp) (jU hp hs)
   unfold iW
   rw [length_map,Array.length_toList,hp.sz]
   exact h64
end
section
variable {X:Cx} {pins:List (Addr × Obj)} {σ:St} {H:Hp} {s:Shared}
def KeyF (X:Cx) (pins:List (Addr × Obj)) (σ:St) (A:Around) (f:Value) (H0:Hp) (xs:List V) (key:V->Int × List Int):Prop:=
 ∀ x ∈ xs,∀ u H1 s1,md x u->Inv X pins σ H1 s1->l0 H0 H1->wpAny (model X.prog X.w) A (call f [u]) (λk s2=>∃ y H2,Inv X pins σ H2 s2/\md y k/\l0 H1 H2/\mK X.K H2 y (key x)) (λ_ _=>False) s1
theorem sort_tree {A:Around} {E:Value->Shared->Prop} {P:PySem.Fin->Shared->Prop} {H0:Hp} {D:Addr} {f:Value} {xs:List V} {key:V->Int × List Int} (hu:A.units+64<cLine)
  (I:Inv X pins σ H s) (h1:H0 D=none) (sm:l0 H0 H) (hD:H D=some (.lst xs)) (h64:xs.length<64) (nd:(xs.map key).Nodup) (hf:KeyF X pins σ A f H0 xs key)
  (h:∀ H2 s2 zs,Inv X pins σ H2 s2->l0 H0 H2->H2 D=some (.lst zs)->zs.Perm xs->zs.Pairwise (λx y=>klt (key y) (key x)=true)->P (.done (.ret .none)) s2):wpAny (model X.prog X.w) A (ksk_tree D f true) P E s:=by
 obtain ⟨lz,its,n,rv,lk,e⟩:=I.lstM hD
 have q:=get?_update_seq e (λ_=>#[])
 have I1:Inv X pins σ (upd H D (.ext λh=>h.get? D=some (seqObj "list" #[] (if ((#[]:Array Value).size == its.toArray.size)=true then n else n+1)))) { s with heap:=s.heap.update D (Obj.mapSeq λ_=>#[]),toks:=s.toks }:=
  I.write (x:=D) (e:=D) (by rw [hD]; exact trivial) (.inl rfl) (λb' u hb hu=>(get?_update_other _ _ (Ne.symm hb)).trans hu) ⟨_,q⟩ ⟨q,⟨_,q⟩,λ_ _ p k=>k _ p⟩
 have I2:=I1.laid (t':=s.toks) (o:=.tup xs) (λb ob z=>get?_push_of_some { cls:=.type "tuple",data:=.seq its.toArray } z) (Nat.le_refl _) ⟨by rw [sizeLine_eq]; omega,its,rv,IsTup.new _ _⟩
 have I3:=I2.lnew (t':=s.toks) (ys:=[]) (its:=[]) .nil (Nat.zero_le _)
 have nT:=I1.fresh
 have nK:=I2.fresh
 have hD1:upd H D (.ext λh=>h.get? D=some (seqObj "list" #[] (if ((#[]:Array Value).size == its.toArray.size)=true then n else n+1))) D=some (.ext λh=>h.get? D=some (seqObj "list" #[] (if ((#[]:Array Value).size == its.toArray.size)=true then n else n+1))):=af
 have s1:l0 H0 (upd H D (.ext λh=>h.get? D=some (seqObj "list" #[] (if ((#[]:Array Value).size == its.toArray.size)=true then n else n+1)))):=sm.put h1
 have hD2:=l0.new (o:=.tup xs) nT _ _ hD1
 have s2:=s1.trans (l0.new (o:=.tup xs) nT)
 have hD3:=l0.new (o:=.lst []) nK _ _ hD2
 have s3:=s2.trans (l0.new (o:=.lst []) nK)
 have hK0:=s2.free nK
 unfold ksk_tree
 refine wpAny_bind (listItems_at e rfl ?_)
 refine wpAny_bind (listUpdate_at e rfl ?_ (by rw [size_toArray,sizeLine_eq]; omega) (Nat.zero_le _))
 refine wpAny_bind (seqEpoch_at q rfl ?_)
 refine wpAny_bind (wpAny_newTuple ?_ (by show its.length<=_; rw [sizeLine_eq]; omega))
 refine wpAny_bind (wpAny_newList ?_ (Nat.zero_le _))
 refine wpAny_holding ?_
 unfold ksk_rest
 refine wpAny_bind (wpAny_rule ?_)
 first
  | rw [List.forIn_toArray]
  | (rw [<- Array.forIn_toList]; simp only [List.toList_toArray])
  | rw [<- Array.forIn_toList]
 refine wpAny_bind (j9 (all:=xs) hK0 h64 hf (λu s1 C hc=>?_) (λH4 s4 ys ks I4 sm4 hD4 hk4 kr ek=>?_) xs [] its [] _ _ rfl rv I3 s3 hD3 af .nil)
 ·refine wpAny_bind (wpAny_attempt (wpAny_mono hc (λk s5 ⟨ks,m,eo,hz,hC⟩=>?_) λ_ _ z=>z.elim))
  dsimp only
  refine wpAny_bind (listUpdate_at eo rfl ?_ (by rw [size_toArray,sizeLine_eq]; omega) (Nat.le_trans (Nat.le_of_eq (Array.size_push ..)) (by rw [size_toArray,sizeLine_eq]; omega)))
  exact wpAny_pure ⟨rfl,hC⟩
 ·dsimp only
  obtain ⟨_,us,m,ru,_,eo⟩:=I4.lstM hk4
  refine wpAny_bind (listItems_at eo rfl ?_)
  subst ek
  exact sort_end hu I4 hK0 h1 sm4 hD4 hk4 kr ru rv h64 nd h
end
def DRaw (d:Addr) (es:Array DictEntry) (ep:Nat) (h:Heap):Prop:=∃ o,h.get? d=some o/\o.ExactDict/\o.data=.dict es ep
section
variable {prog:Program} {w:World} {A:Around} {E:Value->Shared->Prop} {s:Shared} {d it:Addr} {es:Array DictEntry} {ep i:Nat}
theorem DRaw.typeIs (h:DRaw d es ep s.heap):s.TypeIs (.ref d) "dict":=let ⟨o,ho,hc,_⟩:=h; ⟨o,ho,hc.1⟩
theorem DRaw.at {h h':Heap} (x:DRaw d es ep h) (e:∀ o,h.get? d=some o->h'.get? d=some o):DRaw d es ep h':=let ⟨o,ho,r⟩:=x; ⟨o,e _ ho,r⟩
theorem iter_raw {Q:Value->Shared->Prop} (hd:(d == sysModules)=false) (hm:DRaw d es ep s.heap)
  (hQ:Q (.ref s.heap.objs.size) { s with heap:=s.heap.push { cls:=.type "dict_keyiterator",data:=.fields #[.ref d,.int 0 0,.int es.size 0,.int ep 0] } }):wpAny (model prog w) A (pyIter (.ref d)) Q E s:=by
 have hT:=hm.typeIs
 obtain ⟨o,ho,_,hdat⟩:=id hm
 refine wpAny_pyIter_slot hT F.slot_dict_iter (wpAny_call_entry F.slot_dict_iter hT F.entry_dict_iter ?_ (F.args_dict_iter_1 _))
 unfold Builtin.«dict.__iter__» Builtin.Dict.dictSlotNone
 refine wpAny_bind (wpAny_bind (wpAny_notOrdered_dict hT (wpAny_pure ?_)))
 show wpAny _ _ (Builtin.Dict.showsAll d >>= _) _ _ s
 unfold Builtin.Dict.showsAll
 rw [if_neg (by rw [hd]; exact Bool.false_ne_true)]
 refine wpAny_bind (wpAny_pure (wpAny_bind (wpAny_dictEntries ho hdat (wpAny_bind (wpAny_dictEpoch ho hdat ?_)))))
 refine wpAny_bind (wpAny_newObj_type (wpAny_pure ⟨_,rfl, "dict_keyiterator",_,⟨_,get?_push_size _ rfl,rfl⟩,F.slot_dict_keyiterator_next.lookup,?_⟩))
 simpa [rawInt] using hQ
theorem fY {Q:Option Value->Shared->Prop} (hh:A.handled=none) (hit:s.heap.IsKeyIter it d i es.size ep) (hm:DRaw d es ep s.heap)
  (h1:∀ (hi:i<es.size) h',h'.IsKeyIter it d (i+1) es.size ep->Heap.SameBut it s.heap h'->Q (some es[i].key) { s with heap:=h' })
  (h2:es.size<=i->∀ h',Heap.ExtBut it s.heap h'->Q none { s with heap:=h' }):wpAny (model prog w) A (pyNext (.ref it)) Q E s:=by
 obtain ⟨o,ho,hc,hd⟩:=id hit
 obtain ⟨od,hod,_,hdd⟩:=id hm
 have hT:=hit.typeIs
 unfold pyNext
 refine wpAny_bind (wpAny_attempt (wpAny_callSpecial?_slot (name:=Str.ofString "__next__") hT F.slot_dict_keyiterator_next (wpAny_call_entry F.slot_dict_keyiterator_next hT F.entry_dict_keyiterator_next ?_ (F.args_dict_keyiterator_next_1 _))))
 refine wpAny_bind (wpAny_pure (wpAny_bind (wpAny_bind ?_)))
 first | refine wpAny_bind (wpAny_typeNameOfWhole_keyiter hT (wpAny_pure ?_)) | refine wpAny_bind (wpAny_typeNameOf_keyiter hT (wpAny_pure ?_))
 refine wpAny_bind (wpAny_fieldsOf ho hd ?_)
 simp only [show Builtin.Dict_items.ownsTuple "dict_keyiterator" = false by decide,Bool.false_eq_true,if_false]
 show wpAny _ _ (if (Value.ref d == Value.none)=true then _ else _) _ _ s
 rw [if_neg (show ¬ ((Value.ref d == Value.none)=true) from Bool.false_ne_true)]
 refine wpAny_bind (wpAny_pure (wpAny_bind (wpAny_dictEntries hod hdd ?_)))
 rw [if_neg (by simp)]
 refine wpAny_bind (wpAny_pure (wpAny_bind (wpAny_dictEpoch hod hdd ?_)))
 rw [if_neg (by simp)]
 refine wpAny_pure ?_
 by_cases hlt:i<es.size
 ·simp only [show ¬ ((i:Int)<0) from by omega,if_false,Int.toNat_natCast,Array.getElem?_eq_getElem hlt]
  refine wpAny_bind ?_
  first | refine wpAny_bind (wpAny_typeNameOfWhole_keyiter hT (wpAny_pure ?_)) | refine wpAny_bind (wpAny_typeNameOf_keyiter hT (wpAny_pure ?_))
  refine wpAny_bind (wpAny_isOneOf_keyiter hT ?_)
  show wpAny _ _ (setField (.ref it) 1 (rawInt ((i:Int)+1)) >>= _) _ _ s
  refine wpAny_bind (wpAny_setField ho hd (by simp) ?_)
  have hit':(s.heap.update it (Obj.mapFields (·.setIfInBounds 1 (rawInt ((i:Int)+1))))).IsKeyIter it d (i+1) es.size ep:=
   ⟨_,get?_update_self _ ho (Obj.isFreed_of_fields (Obj.data_mapFields hd _)),(Obj.cls_mapFields ..).trans hc,by rw [Obj.data_mapFields hd]; simp [rawInt]⟩
  refine wpAny_bind (wpAny_holding (wpAny_bind (wpAny_isOneOf_keyiter (s:={ s with heap:=s.heap.update it (Obj.mapFields (·.setIfInBounds 1 (rawInt ((i:Int)+1)))) }) hit'.typeIs ?_)))
  show wpAny _ _ (pure es[i].key) _ _ _
  exact wpAny_pure (wpAny_pure ⟨_,rfl,wpAny_pure (h1 hlt _ hit' (Heap.SameBut.update ..))⟩)
 ·simp only [show ¬ ((i:Int)<0) from by omega,if_false,Int.toNat_natCast,Array.getElem?_eq_none (Nat.le_of_not_lt hlt)]
  refine wpAny_bind ?_
  first | refine wpAny_bind (wpAny_typeNameOfWhole_keyiter hT (wpAny_pure ?_)) | refine wpAny_bind (wpAny_typeNameOf_keyiter hT (wpAny_pure ?_))
  show wpAny _ _ (setField (.ref it) 0 .none >>= _) _ _ s
  refine wpAny_bind (wpAny_setField ho hd (by simp) ?_)
  show wpAny _ _ (newExc (.type "StopIteration") [] >>= _) _ _ _
  refine wpAny_bind ?_
  simp only [newExc,newTuple]
  refine wpAny_bind (wpAny_newObj_type ?_ (by size_fits))
  refine wpAny_bind (m:=firstArgMember _ _) (wpAny_of_eq (a:=Value.none) (by first | rfl | (simp only [firstArgMember]; rfl)) ?_)
  refine wpAny_newObj_type ?_ (by size_fits)
  simp only [raiseNew]
  refine wpAny_bind (wpAny_handled ?_)
  rw [show A.in1.handled=none from hh]
  refine wpAny_bind (wpAny_pure (wpAny_throw ?_))
  refine wpAny_bind (wpAny_isInstance (T := "StopIteration") (b:=true) ⟨_,get?_push_size _ rfl,rfl⟩ isSubtype_stop ?_)
  exact wpAny_pure (h2 (Nat.le_of_not_lt hlt) _ (((Heap.SameBut.update ..).extBut.push _).push _))
theorem walks_raw (hh:A.handled=none) (it d:Addr) (hne:d ≠ it) (es:Array DictEntry) (ep:Nat) :
  Walks prog w A it [it,d] [it] es.size (λi v=>∃ hi:i<es.size,v=es[i].key) (λi h=>h.IsKeyIter it d i es.size ep/\DRaw d es ep h) where
 sub:=λb hb=>by simp at hb; simp [hb]
 frame:=λ_ _ _ st hk=>⟨st.1.at λo e=>hk it (by simp) o e,st.2.at λo e=>hk d (by simp) o e⟩
 item:=λi s Q E hi st hQ=>fY hh st.1 st.2 (λhi h' hit' hs'=>hQ _ h' s.toks ⟨hi,rfl⟩ ⟨hit',st.2.at λo e=>hs'.extBut d o hne e⟩ λb o hb e=>hs'.extBut b o (λh=>hb (by simp [h])) e) λhge=>absurd hi (Nat.not_lt.mpr hge)
 done:=λs Q E st hQ=>fY hh st.1 st.2 (λhi=>absurd hi (Nat.lt_irrefl _)) λ_ h' he'=>hQ h' s.toks λb o hb e=>he' b o (λh=>hb (by simp [h])) e
 self:=λ_ _ _ _ st hQ=>wpAny_pyIter_keyiter st.1 hQ
theorem src_raw (lo:(d == sysModules)=false):KdlSrc prog w "dict" d d es.size (λi v=>∃ hi:i<es.size,v=es[i].key) (DRaw d es ep) where
 type:=λ_ hm=>hm.typeIs
 there:=λ_ ⟨_,ho,_⟩=>⟨lt_size ho,lt_size ho⟩
 keep:=λ_ _ hm hk=>hm.at λo e=>hk d (.inl rfl) o e
 notList:=by decide
 notTuple:=by decide
 hint:=λ_ _ _ _ hm hq=>kdl_hint_dict hm.typeIs hq
 iter:=λ_ s hh hm=>⟨_,_,(λ_ _ hq=>iter_raw lo hm hq),walks_raw hh _ d (Nat.ne_of_lt (let ⟨_,ho,_⟩:=hm; lt_size ho)) es ep,⟨⟨_,get?_push_size _ rfl,rfl,rfl⟩,hm.at λo e=>get?_push_of_some _ e⟩⟩
end
section
variable {X:Cx} {pins:List (Addr × Obj)} {σ:St} {H:Hp} {s:Shared}
def Src (K:Frag) (H:Hp) (x:V) (B:List V->Prop):Prop:=
 (∃ l xs,x=.ref l/\SqL K H l xs/\B xs)\/∃ d kvs,x=.ref d/\H d=some (.dT kvs)/\∀ as,Paired (λ(p:List Key × V) (a:Addr)=>H a=some (.tup (p.1.map kV))) kvs as->B (as.map V.ref)
theorem gY {E:Value->Shared->Prop} {A:Around} {x:V} {u:Value} {B:List V->Prop} {R:List Value->Shared->Prop} (hh:A.handled=none) (I:Inv X pins σ H s) (rx:md x u) (hs:Src X.K H x B)
  (h:∀ h' tk its xs,B xs->l9 xs its->(∀ b o,s.heap.get? b=some o->h'.get? b=some o)->xs.length<=sizeLine->R its { s with heap:=h',toks:=tk }):wpAny (model X.prog X.w) A (collect u) R E s:=by
 rcases hs with ⟨l,xs,rfl,hl,hB⟩ | ⟨d,kvs,rfl,hd,hB⟩
 ·cases rx
  obtain ⟨its,rv,p,hz⟩:=I.list hl
  refine collect_list (vs:=its) p.isList (h _ s.toks its xs hB rv (λb o q=>?_) hz) (by rw [<- rv.length]; exact hz)
  have hlt:b<s.heap.objs.size:=lt_size q
  rw [Heap.get?_update_ne _ _ _ _ (Nat.ne_of_lt hlt),Heap.get?_push_ne _ _ _ (Nat.ne_of_lt hlt)]
  exact q
 ·cases rx
  obtain ⟨hz,hm,es3,kt,o,es,ep,h1,h2,h3,h4,h5⟩:=(show mi X.prog X.w H s.heap d (.dT kvs) from I.hok d _ hd)
  have hsz:es.size=kvs.length:=by rw [<- Array.length_toList,h4,length_map,<- Paired.length kt]
  refine kdu_collect (src_raw (es:=es) (ep:=ep) hm) hh ⟨o,h1,h2,h3⟩ (by rw [hsz]; exact hz) λh' tk acc hk ha=>?_
  have go:∀ {l:List (List Key × V)} {m:List (List Key × Addr × Value)},Paired (λ(p:List Key × V) (q:List Key × Addr × Value)=>p.1=q.1/\H q.2.1=some (.tup (p.1.map kV))/\md p.2 q.2.2) l m->
    Paired (λ(p:List Key × V) (a:Addr)=>H a=some (.tup (p.1.map kV))) l (m.map (·.2.1)):=by
   intro l m q
   induction q with
   | nil=>exact .nil
   | cons hq t ih=>exact .cons hq.2.1 ih
  have ke:acc.toList=(es3.map (·.2.1)).map Value.ref:=by
   apply List.ext_getElem?
   intro j
   rw [Array.getElem?_toList]
   by_cases hj:j<es.size
   ·have hj':j<acc.size:=by rw [ha.1]; exact hj
    obtain ⟨_,e⟩:=ha.2 j acc[j] (Array.getElem?_eq_getElem hj')
    rw [Array.getElem?_eq_getElem hj',e]
    have e2:es.toList[j]? = (es3.map (entryOfKey (tupleKind (aQ X.prog X.w))))[j]?:=by rw [h4]
    rw [Array.getElem?_toList,Array.getElem?_eq_getElem hj,getElem?_map] at e2
    rw [getElem?_map,getElem?_map]
    cases e3:es3[j]? with
    | none=>rw [e3] at e2; cases e2
    | some q=>
     rw [e3] at e2
     show some es[j].key=some (Value.ref q.2.1)
     have e4:es[j]=entryOfKey (tupleKind (aQ X.prog X.w)) q:=Option.some.inj e2
     rw [e4]
     rfl
   ·rw [Array.getElem?_eq_none (by rw [ha.1]; omega)]
    symm
    apply List.getElem?_eq_none
    rw [length_map,length_map,<- Paired.length kt]
    omega
  have vals:∀ l:List Addr,l9 (l.map V.ref) (l.map Value.ref):=by
   intro l
   induction l with
   | nil=>exact .nil
   | cons a l ih=>exact .cons rfl ih
  rw [ke]
  exact h h' tk _ _ (hB _ (go kt)) (vals _) hk (by rw [length_map,length_map,<- Paired.length kt]; exact hz)
theorem call_sorted {E:Value->Shared->Prop} {x:V} {u:Value} {f:Addr} {B:List V->Prop} {Q:Value->Shared->Prop} (hh:X.A.handled=none) (hu:X.A.in1.in1.units+64<cLine) (I:Inv X pins σ H s) (rx:md x u) (hs:Src X.K H x B)
  (hB:∀ xs,B xs->xs.length<64/\∃ key:V->Int × List Int,(xs.map key).Nodup/\KeyF X pins σ X.A.in1.in1 (.ref f) H xs key/\
   ∀ D H2 s2 zs,H D=none->Inv X pins σ H2 s2->l0 H H2->H2 D=some (.lst zs)->zs.Perm xs->zs.Pairwise (λx y=>klt (key y) (key x)=true)->Q (.ref D) s2) :
  wpAny (model X.prog X.w) X.A (call (.builtin "sorted") [u] [(Str.ofString "key",.ref f),(Str.ofString "reverse",.bool true)]) Q E s:=by
 refine call_function_entry_kw kind_sorted plain_sorted entry_sorted (ksk_s2 _ _ _) ?_
 unfold Builtin.«sorted»
 refine wpAny_bind (m:=checkCount "sorted" 1 1 _) (wpAny_pure ?_)
 refine wpAny_bind (gY (A:=X.A.in1) hh I rx hs λh' tk its xs src rv hk' hz=>?_)
 obtain ⟨h64,key,nd,kf,h⟩:=hB xs src
 have I1:Inv X pins σ H { s with heap:=h',toks:=tk }:=I.kept hk'
 have I2:=I1.lnew (t':=tk) rv hz
 refine wpAny_bind (wpAny_newList ?_ (by rw [<- rv.length]; exact hz))
 refine wpAny_bind (wpAny_holding (wpAny_call_entry_kw slot_list_sort ⟨_,get?_push_size _ rfl,rfl⟩ entry_list_sort ?_ (ksk_l2 _ _ _)))
 rw [ksk_t2]
 refine sort_tree (key:=key) hu I2 I1.fresh (l0.new I1.fresh) af h64 nd kf λH2 s2 zs I3 sm q pm pw=>⟨_,rfl,wpAny_pure ⟨_,rfl,h _ H2 s2 zs I1.fresh I3 sm q pm pw⟩⟩
end
def SortB (K:Frag) (sp:Sp) (H1:Hp) (Q:VK) (xs:List V):Prop:=xs.length<64/\∃ key:V->Int × List Int,(xs.map key).Nodup/\(∀ y ∈ xs,∀ H2,l0 H1 H2->sp [y] H2 (λz H3=>l0 H2 H3/\mK K H3 z (key y)) E0)/\
 ∀ D H2 zs,H1 D=none->l0 H1 H2->H2 D=some (.lst zs)->zs.Perm xs->zs.Pairwise (λx y=>klt (key y) (key x)=true)->Q (.ref D) H2
def tSort (K:Frag) (sp:Sp) (te:TE):TE:=λσ H Q=>te σ H λx H1=>Src K H1 x (SortB K sp H1 Q)
section
variable {X:Cx} {p pos kp k1 k2 kp2:Pos} {e:Expr} {te:TE}
theorem key_fn {pins:List (Addr × Obj)} {σ:St} {A:Around} {k:Nat} {sp:Sp} {f:Addr} {fd:FuncData} {ps:List Str} {H0:Hp} {xs:List V} {key:V->Int × List Int} (F:me X.prog X.w X.K X.mg X.base CX0 k f fd ps sp) (hb:mF X.K fd ps []) (hr:mj k X.A.in1.in1)
  (h:∀ y ∈ xs,∀ H2,l0 H0 H2->sp [y] H2 (λz H3=>l0 H2 H3/\mK X.K H3 z (key y)) E0):KeyF X pins σ X.A.in1.in1 (.ref f) H0 xs key:=by
 intro x hx u H1 s1 rx I sm
 have h':=h x hx H1 sm
 have r2:l9 [x] [u]:=.cons rx .nil
 have hl:([u]++[]).length=ps.length:=F.len _ _ _ _ h'
 refine wpAny_call (codeAny_mono (F.run X.A.in1.in1 X.stack s1 H1 ⟨[u],[]⟩ [u] [x] _ E0 hr I.env0.in1.in1 (hb s1 [u] I.kIn hl) r2 h') λr s' hq=>?_)
 cases r with
 | error e=>exact hq
 | ok fl=>
  cases fl with
  | ret v=>
   obtain ⟨y,H2,I2,ry,q1,q2⟩:=I.after hq
   exact ⟨y,H2,I2,ry,q1,q2⟩
  | next=>exact False.elim hq
  | brk=>exact False.elim hq
  | cont=>exact False.elim hq
theorem pe_sortK (T:Blt X.mg) {x:Str} {k:Nat} {sp:Sp} {j:Nat} (F:FnB X.prog X.w X.K X.mg X.base k x sp) (hr:mj (k+2) X.A) (he:PE X e te) (hg:Gl X "sorted":=by rfl) (hgx:Gl X x:=by rfl) (hdb:(x == ("__debug__" : Str))=false:=by decide)
  (hs:starEach [e] X.env=[(false,eval e X.env)]:=by rfl) :
  PE X (.Call (.Name "sorted" p) [e] [⟨some "key",.Name x kp,k1⟩,⟨some "reverse",.Constant (.bool true) j kp2,k2⟩] pos) (tSort X.K sp te):=by
 obtain ⟨f,fd,ps,F',hm,hk,hb⟩:=F.ex
 intro pins s σ H Q I h
 refine wpAny_Call_Name_kw (dU I hg T.sorted boot_sorted ?_)
 refine callWith_kw ?_ (by rw [hs]; rfl) (by rw [hs]; rfl)
 refine thn ((aa he ah hs) pos pins s σ H (λvs H1=>match vs with | [v]=>Src X.K H1 v (SortB X.K sp H1 Q) | _=>False) I h) λus s1 ⟨vs,H1,I1,r1,q1⟩=>?_
 match vs,r1,q1 with
 | [v],r1,q1=>
  obtain ⟨u,rfl,ru⟩:=r1.one
  refine thn ((iu (gh (v:=.ref f) hgx hm rfl hdb) (iu cr pk_nil)) pos pins s1 σ H1 (λzs H2=>zs=[V.ref f,.bl true]/\H2=H1) I1 ⟨rfl,rfl⟩) λws s2 ⟨zs,H2,I2,r2,e1,e2⟩=>?_
  subst e1 e2
  obtain ⟨w1,w2,rfl,rw1,rw2⟩:=r2.two
  cases rw1
  cases rw2
  refine call_sorted (f:=f) hr.hd hr.in1.in1.units I2 ru q1 λxs ⟨h64,key,nd,hk1,hq⟩=>⟨h64,key,nd,key_fn (A:=X.A) F' hb hr.in1.in1 hk1,λD H3 s3 zs nD I3 sm q pm pw=>⟨.ref D,H3,I3,rfl,hq D H3 zs nD sm q pm pw⟩⟩
end
def Itd (d:Addr) (o:Obj) (u:HO) (vs:List V):It:=⟨λi H=>H d=some (.frz o u)/\i<vs.length,λi H x H'=>H'=H/\vs[i]? = some x,λi H=>H d=some (.frz o u)/\vs.length<=i⟩
theorem turn_dict {P:Program} {w:World} {K:Frag} {tg:Expr} {d it:Addr} {o:Obj} {u:HO} {es:Array DictEntry} {ep:Nat} {vs:List V} (hx:o.ExactDict) (hd:o.data=.dict es ep) (rv:l9 vs (es.toList.map (·.key))) :
  Turn P w K tg (Itd d o u vs) [it] it (λi h=>h.IsKeyIter it d i es.size ep) where
 mem:=by simp
 obj:=λi h st b hb=>by
  have e:b=it:=by simpa using hb
  subst e
  obtain ⟨o,e,c,d⟩:=st
  exact ⟨o,e,λv z=>by rw [d] at z; cases z⟩
 keep:=λi h h' st k=>st.at λo e=>k it (by simp) o e
 item:=by
  intro X hP hw hK hc i pins s σ H E I hf st hg
  subst hP hw hK
  obtain ⟨hD,hi⟩:=(show H d=some (.frz o u)/\i<vs.length from hg)
  have hl:vs.length=es.size:=by rw [rv.length]; simp
  have ho:s.heap.get? d=some o:=(show mi X.prog X.w H s.heap d (.frz o u) from I.hok d _ hD).1
  obtain ⟨f0,f1,f2,f3,f4,f5⟩:=hf it (by simp)
  refine fY (I.ok.hd hc) st ⟨o,ho,hx,hd⟩ (λhi' h' st' sb=>?_) λhge=>absurd hi (by omega)
  have I1:Inv X pins σ H { s with heap:=h' }:=I.turned (t':=s.toks) (λb o hb e=>(sb.2 b hb).trans e) f0 f1 f3 f4 f5
  obtain ⟨x,hxi⟩:∃ x,vs[i]? = some x:=⟨_,getElem?_eq_getElem hi⟩
  obtain ⟨v,hv,rx⟩:=rv.get hxi
  have hv':es[i].key=v:=by
   rw [getElem?_map,Array.getElem?_toList,Array.getElem?_eq_getElem hi'] at hv
   exact Option.some.inj hv
  obtain ⟨ob,e,c,dd⟩:=id st'
  exact ⟨_,rfl,go_of (s:={ s with heap:=h' }) e c dd (by decide) ⟨x,H,I1,by rw [hv']; exact rx,⟨rfl,hxi⟩,st',λb hb=>(hf b hb).1⟩⟩
 done:=by
  intro X hP hw hK hc i pins s σ H E I hf st hg
  subst hP hw hK
  obtain ⟨hD,hi⟩:=(show H d=some (.frz o u)/\vs.length<=i from hg)
  have hl:vs.length=es.size:=by rw [rv.length]; simp
  have ho:s.heap.get? d=some o:=(show mi X.prog X.w H s.heap d (.frz o u) from I.hok d _ hD).1
  obtain ⟨f0,f1,f2,f3,f4,f5⟩:=hf it (by simp)
  exact fY (I.ok.hd hc) st ⟨o,ho,hx,hd⟩ (λhi'=>absurd hi' (by omega)) λ_ h' eb=>⟨rfl,I.turned (t':=s.toks) (λb o hb e=>eb b o hb e) f0 f1 f3 f4 f5⟩
 self:=λ_ _ _ _ _ st h=>wpAny_pyIter_keyiter st h
def iDict (tl:TE):TI:=λσ H R=>tl σ H λx H1=>∃ d kvs,x=.ref d/\H1 d=some (.dT kvs)/\∀ o as,Paired (λ(p:List Key × V) (a:Addr)=>H1 a=some (.tup (p.1.map kV))) kvs as->R (Itd d o (.dT kvs) (as.map V.ref)) (upd H1 d (.frz o (.dT kvs)))
theorem kz {P:Program} {w:World} {H:Hp} {kvs:List (List Key × V)} {m:List (List Key × Addr × Value)} (q:Paired (λ(p:List Key × V) (q:List Key × Addr × Value)=>p.1=q.1/\H q.2.1=some (.tup (p.1.map kV))/\md p.2 q.2.2) kvs m) :
  Paired (λ(p:List Key × V) (a:Addr)=>H a=some (.tup (p.1.map kV))) kvs (m.map (·.2.1))/\l9 ((m.map (·.2.1)).map V.ref) ((m.map (entryOfKey (tupleKind (aQ P w)))).map (·.key)):=by
 induction q with
 | nil=>exact ⟨.nil,.nil⟩
 | cons hq t ih=>exact ⟨.cons hq.2.1 ih.1,.cons rfl ih.2⟩
theorem pi_dict {X:Cx} {tg l:Expr} {tl:TE} (hl:PE X l tl):PI X tg l (iDict tl):=by
 intro pins s σ H R I h
 refine thn (hl pins s σ H _ I h) λv s1 ⟨x,H1,I1,r1,q1⟩=>?_
 obtain ⟨d,kvs,e,hd,q⟩:=q1
 subst e
 cases r1
 obtain ⟨hz,hm,es3,kt,o,es,ep,h1,h2,h3,h4,h5⟩:=id (show mi X.prog X.w H1 s1.heap d (.dT kvs) from I1.hok d _ hd)
 obtain ⟨k1,k2⟩:=kz (P:=X.prog) (w:=X.w) kt
 have go:∀ {l:List (List Key × V)} {m:List (List Key × Addr × Value)},Paired (λ(p:List Key × V) (q:List Key × Addr × Value)=>p.1=q.1/\H1 q.2.1=some (.tup (p.1.map kV))/\md p.2 q.2.2) l m->
   Paired (λ(p:List Key × V) (q:List Key × Addr × Value)=>p.1=q.1/\upd H1 d (.frz o (.dT kvs)) q.2.1=some (.tup (p.1.map kV))/\md p.2 q.2.2) l m:=by
  intro l m q
  induction q with
  | nil=>exact .nil
  | cons hq t ih=>exact .cons ⟨hq.1,by rw [am (bh hq.2.1 hd (by intro z; cases z))]; exact hq.2.1,hq.2.2⟩ ih
 have I2:Inv X pins σ (upd H1 d (.frz o (.dT kvs))) { s1 with heap:=s1.heap,toks:=s1.toks }:=I1.write (x:=d) (e:=d) (by rw [hd]; exact trivial) (.inl rfl) (λ_ _ _ z=>z) ⟨_,h1⟩ ⟨h1,hz,hm,es3,go kt,o,es,ep,h1,h2,h3,h4,h5⟩
 rw [<- h4] at k2
 refine iter_raw hm ⟨o,h1,h2,h3⟩ ?_
 refine ⟨s1.heap.objs.size,[s1.heap.objs.size],_,_,_,rfl,I2.kept (t':=s1.toks) λb o e=>get?_push_of_some _ e,turn_dict (u:=.dT kvs) h2 h3 k2,⟨_,get?_push_size _ rfl,rfl,rfl⟩,λb hb=>?_,q o _ k1⟩
 have e:b=s1.heap.objs.size:=by simpa using hb
 subst e
 exact I2.fpOk (Nat.le_refl _) (I2.hok.fresh (Nat.le_refl _))
theorem hu1 {k:Nat} {A:Around} (hr:mj k A):A.units+1<cLine:=by have:=hr.un; omega
theorem kpi_dict {X:Cx} {tg e:Expr} {te:TE} (K:Frag) (hK:X.K=K) (hl:PE X e te):PI X tg e (iDict te):=pi_dict hl
def kI (k:List Int):List Key:=k.map Sum.inl
theorem kI_inj {a b:List Int} (h:kI a=kI b):a=b:=by
 induction a generalizing b with
 | nil=>cases b with
  | nil=>rfl
  | cons y b=>cases h
 | cons x a ih=>cases b with
  | nil=>cases h
  | cons y b=>
   have h':(Sum.inl x:Key)::kI a=Sum.inl y::kI b:=h
   injection h' with h1 h2
   injection h1 with h1
   rw [h1,ih h2]
theorem kH (k:List Int):(kI k).map kV=k.map V.int:=by
 unfold kI
 rw [map_map]
 rfl
section
variable {α:Type}
def ba (m:List (List Int × α)) (k:List Int):Option α:=(m.find? λp=>decide (p.1=k)).map (·.2)
def cq (m:List (List Int × α)) (k:List Int) (x:α):List (List Int × α):=if (ba m k).isSome then m.map (λp=>if p.1=k then (p.1,x) else p) else m++[(k,x)]
theorem aval_nil (k:List Int):ba ([]:List (List Int × α)) k=none:=rfl
theorem bK {p:List Int × α} {r:List (List Int × α)} {k:List Int} (e:p.1=k):ba (p::r) k=some p.2:=by simp [ba,find?_cons,e]
theorem bJ {p:List Int × α} {r:List (List Int × α)} {k:List Int} (e:¬ p.1=k):ba (p::r) k=ba r k:=by simp [ba,find?_cons,e]
theorem nk {k:List Int}:∀ {m:List (List Int × α)},ba m k=none↔¬ k ∈ m.map (·.1)
 | []=>by simp [aval_nil]
 | p::r=>by
  by_cases e:p.1=k
  ·rw [bK e]
   simp [e]
  ·rw [bJ e,nk (m:=r),map_cons,mem_cons]
   exact ⟨λh z=>z.elim (λz=>e z.symm) h,λh z=>h (.inr z)⟩
theorem aV {k:List Int} {x:α}:∀ {m:List (List Int × α)},ba m k=some x->(k,x) ∈ m
 | p::r,h=>by
  by_cases e:p.1=k
  ·rw [bK e] at h
   have:p=(k,x):=Prod.ext e (Option.some.inj h)
   rw [this]; simp
  ·rw [bJ e] at h
   exact List.mem_cons.mpr (.inr (aV h))
theorem eZ {k:List Int} {x:α}:∀ {m:List (List Int × α)},(m.map (·.1)).Nodup->(k,x) ∈ m->ba m k=some x
 | p::r,hn,h=>by
  have hn':(p.1::r.map (·.1)).Nodup:=hn
  obtain ⟨h1,h2⟩:=List.nodup_cons.mp hn'
  rcases List.mem_cons.mp h with z | z
  ·rw [<- z]
   exact bK rfl
  ·have:k ∈ r.map (·.1):=List.mem_map.mpr ⟨_,z,rfl⟩
   rw [bJ (λe=>h1 (by rw [e]; exact this))]
   exact eZ h2 z
theorem aput_keys (m:List (List Int × α)) (k:List Int) (x:α):(cq m k x).map (·.1)=if (ba m k).isSome then m.map (·.1) else m.map (·.1)++[k]:=by
 unfold cq
 split
 ·rw [map_map]
  apply map_congr_left
  intro p _
  show (if p.1=k then (p.1,x) else p).1=p.1
  split<;>rfl
 ·rw [map_append]; rfl
theorem iO {m:List (List Int × α)} {k:List Int} {x:α} (h:(m.map (·.1)).Nodup):((cq m k x).map (·.1)).Nodup:=by
 rw [aput_keys]
 split
 ·exact h
 ·rename_i hs
  have hn:ba m k=none:=by
   cases e:ba m k with
   | none=>rfl
   | some y=>rw [e] at hs; exact absurd rfl hs
  exact List.nodup_append.mpr ⟨h,by simp,λa ha b hb=>by
   rw [List.mem_singleton.mp hb]
   intro z
   exact nk.mp hn (by rw [<- z]; exact ha)⟩
theorem cL {m:List (List Int × α)} {k:List Int} {x:α} {p:List Int × α} (h:p ∈ cq m k x):p=(k,x)\/p ∈ m:=by
 unfold cq at h
 split at h
 ·obtain ⟨q,hq,e⟩:=List.mem_map.mp h
  by_cases hk:q.1=k
  ·rw [if_pos hk] at e
   exact .inl (by rw [<- e,hk])
  ·rw [if_neg hk] at e
   exact .inr (by rw [<- e]; exact hq)
 ·rcases List.mem_append.mp h with z | z
  ·exact .inr z
  ·exact .inl (List.mem_singleton.mp z)
theorem aput_len (m:List (List Int × α)) (k:List Int) (x:α):(cq m k x).length<=m.length+1:=by
 unfold cq
 split
 ·rw [length_map]; omega
 ·rw [length_append]; simp
def mm (R:V->α->Prop) (kvs:List (List Key × V)) (m:List (List Int × α)):Prop:=Paired (λ(p:List Key × V) (q:List Int × α)=>p.1=kI q.1/\R p.2 q.2) kvs m
theorem mm.mono {R R':V->α->Prop} (h:∀ v x,R v x->R' v x):∀ {kvs:List (List Key × V)} {m:List (List Int × α)},mm R kvs m->mm R' kvs m
 | _,_,.nil=>.nil
 | _,_,.cons q r=>.cons ⟨q.1,h _ _ q.2⟩ (mm.mono h r)
theorem mm.val {R:V->α->Prop} (k:List Int):∀ {kvs:List (List Key × V)} {m:List (List Int × α)},mm R kvs m->(fz kvs (kI k)=none/\ba m k=none)\/∃ v x,fz kvs (kI k)=some v/\ba m k=some x/\R v x
 | _,_,.nil=>.inl ⟨rfl,rfl⟩
 | p::_,q' :: _,.cons q r=>by
  by_cases e:q'.1=k
  ·exact .inr ⟨p.2,q'.2,gg (by rw [q.1,e]),bK e,q.2⟩
  ·rw [f6 (λz=>e (kI_inj (q.1.symm.trans z))),bJ e]
   exact mm.val k r
theorem mm.put {R:V->α->Prop} {k:List Int} {v:V} {x:α} (hx:R v x) {kvs:List (List Key × V)} {m:List (List Int × α)} (h:mm R kvs m):mm R (bN kvs (kI k) v) (cq m k x):=by
 unfold bN cq
 rw [i9]
 rcases h.val k with ⟨e1,e2⟩ | ⟨v',x',e1,e2,_⟩
 ·rw [e1,e2]
  have go:∀ {kvs:List (List Key × V)} {m:List (List Int × α)},mm R kvs m->mm R (kvs++[(kI k,v)]) (m++[(k,x)]):=by
   intro kvs m h
   induction h with
   | nil=>exact .cons ⟨rfl,hx⟩ .nil
   | cons q r ih=>exact .cons q ih
  exact go h
 ·rw [e1,e2]
  have go:∀ {kvs:List (List Key × V)} {m:List (List Int × α)},mm R kvs m->mm R (kvs.map λkv=>if kv.1=kI k then (kv.1,v) else kv) (m.map λp=>if p.1=k then (p.1,x) else p):=by
   intro kvs m h
   induction h with
   | nil=>exact .nil
   | @cons p q ps qs hq r ih=>
    refine .cons ?_ ih
    dsimp only
    by_cases e:q.1=k
    ·rw [if_pos (by rw [hq.1,e]),if_pos e]
     exact ⟨hq.1,hx⟩
    ·rw [if_neg (λz=>e (kI_inj (hq.1.symm.trans z))),if_neg e]
     exact hq
  exact go h
theorem mm.tups {R:V->α->Prop} {H:Hp}:∀ {kvs:List (List Key × V)} {m:List (List Int × α)} {as:List Addr},mm R kvs m->Paired (λ(p:List Key × V) (a:Addr)=>H a=some (.tup (p.1.map kV))) kvs as->
  Paired (λ(a:Addr) (q:List Int × α)=>H a=some (.tup (q.1.map V.int))) as m
 | _,_,_,.nil,.nil=>.nil
 | _,_,_,.cons q r,.cons t ts=>.cons (by rw [q.1,kH] at t; exact t) (mm.tups r ts)
end
theorem eI {β:Type} {lt:β->β->Bool} (irr:∀ a,lt a a=false) (tr:∀ a b c,lt a b=true->lt b c=true->lt a c=true):∀ {xs ys:List β},xs.Perm ys->xs.Pairwise (λa b=>lt b a=true)->ys.Pairwise (λa b=>lt b a=true)->xs=ys
 | [],ys,p,_,_=>(List.nil_perm.mp p).symm
 | x::xs,[],p,_,_=>by have:=p.length_eq; simp at this
 | x::xs,y::ys,p,h1,h2=>by
  obtain ⟨a1,a2⟩:=List.pairwise_cons.mp h1
  obtain ⟨b1,b2⟩:=List.pairwise_cons.mp h2
  have e:x=y:=by
   have mx:x ∈ y::ys:=p.mem_iff.mp (by simp)
   have my:y ∈ x::xs:=p.mem_iff.mpr (by simp)
   rcases List.mem_cons.mp mx with z | z
   ·exact z
   ·rcases List.mem_cons.mp my with w | w
    ·exact w.symm
    ·have c1:=b1 x z
     have c2:=a1 y w
     have:=tr _ _ _ c1 c2
     rw [irr] at this
     cases this
  subst e
  rw [eI irr tr ((List.perm_cons x).mp p) a2 b2]
variable {X:Cx}
section
variable {K:Frag} {e:Expr} {te:TE} {p pos:Pos}
end
end L2
namespace L2
open PySem PySem.Spec PyProof.Rows PySem.W
section
variable {prog:Program} {w:World} {A:Around} {E:Value->Shared->Prop} {s:Shared} {d it v:Addr} {es:Array DictEntry} {ep i:Nat}
theorem items_raw {Q:Value->Shared->Prop} (hd:(d == sysModules)=false) (hm:DRaw d es ep s.heap)
  (hQ:Q (.ref s.heap.objs.size) { s with heap:=s.heap.push { cls:=.type "dict_items",data:=.fields #[.ref d] } }):wpAny (model prog w) A (call (.builtin "dict.items") [.ref d]) Q E s:=by
 have hT:=hm.typeIs
 refine wpAny_call_entry F.slot_dict_items hT F.entry_dict_items ?_ (F.args_dict_items_1 _)
 unfold Builtin.«dict.items» Builtin.Dict.noArgs
 refine wpAny_bind (wpAny_bind (wpAny_notOrdered_dict hT (wpAny_pure ?_)))
 show wpAny _ _ (Builtin.Dict.showsAll d >>= _) _ _ s
 unfold Builtin.Dict.showsAll
 rw [if_neg (by rw [hd]; exact Bool.false_ne_true)]
 exact wpAny_bind (wpAny_pure (wpAny_bind (wpAny_newObj_type (wpAny_pure ⟨_,rfl,hQ⟩))))
theorem iterI_raw {Q:Value->Shared->Prop} (hv:s.heap.IsItemsView v d) (hm:DRaw d es ep s.heap)
  (hQ:Q (.ref s.heap.objs.size) { s with heap:=s.heap.push { cls:=.type "dict_itemiterator",data:=.fields #[.none,.bool false,.ref d,.int 0 0,.int es.size 0,.int ep 0,.none,.none] } }):wpAny (model prog w) A (pyIter (.ref v)) Q E s:=by
 obtain ⟨ov,hov,hcv,hdv⟩:=id hv
 obtain ⟨o,ho,_,hdat⟩:=id hm
 refine wpAny_pyIter_slot hv.typeIs F.slot_dict_items_iter (wpAny_call_entry F.slot_dict_items_iter hv.typeIs F.entry_dict_items_iter ?_ (F.args_dict_items_iter_1 _))
 unfold Builtin.«dict_items.__iter__» Builtin.Dict_items.dictOf
 refine wpAny_bind (wpAny_pure (wpAny_bind (wpAny_bind (wpAny_field hov hdv (x:=.ref d) rfl (wpAny_pure ?_)))))
 refine wpAny_bind ?_
 unfold Builtin.Dict_items.newIterator
 refine wpAny_bind (wpAny_dictEntries ho hdat (wpAny_bind (wpAny_dictEpoch ho hdat ?_)))
 simp only [show Builtin.Dict_items.ownsTuple "dict_itemiterator"=true by decide,if_true]
 refine wpAny_newObj_type (wpAny_pure ⟨_,rfl, "dict_itemiterator",_,⟨_,get?_push_size _ rfl,rfl⟩,F.slot_dict_itemiterator_next.lookup,?_⟩)
  (by simp only [sizeOk,Builtin.Dict_items.ownedTupleFields,size_toArray,length_append,length_cons,length_nil,sizeLine_eq]; omega)
 simpa [rawInt,Builtin.Dict_items.ownedTupleFields] using hQ
theorem kJ {ok ov:Value} {Q:Option Value->Shared->Prop} (hh:A.handled=none) (hit:IsItemIter s.heap it d i es.size ep ok ov) (hm:DRaw d es ep s.heap)
  (h1:∀ (hi:i<es.size) h',IsItemIterOut h' it d (i+1) es.size ep es[i].key es[i].val s.heap.objs.size->h'.get? s.heap.objs.size=some { cls:=.type "tuple",data:=.seq #[es[i].key,es[i].val] }->
   (∀ b o,b ≠ it->s.heap.get? b=some o->h'.get? b=some o)->Q (some (.ref s.heap.objs.size)) { s with heap:=h' })
  (h2:es.size<=i->∀ h',Heap.ExtBut it s.heap h'->Q none { s with heap:=h' }):wpAny (model prog w) A (pyNext (.ref it)) Q E s:=by
 obtain ⟨hp,g,dr,tk,os⟩:=s
 obtain ⟨od,hod,_,hdd⟩:=id hm
 have hT:Shared.TypeIs ⟨hp,g,dr,tk,os⟩ (.ref it) "dict_itemiterator":=⟨_,hit,rfl⟩
 unfold pyNext
 refine wpAny_bind (wpAny_attempt (wpAny_callSpecial?_slot (name:=Str.ofString "__next__") hT F.slot_dict_itemiterator_next (wpAny_call_entry F.slot_dict_itemiterator_next hT F.entry_dict_itemiterator_next ?_ (F.args_dict_itemiterator_next_1 _))))
 refine wpAny_bind (wpAny_pure (wpAny_bind (wpAny_bind ?_)))
 first | refine wpAny_bind (wpAny_typeNameOfWhole_itemiter hT (wpAny_pure ?_)) | refine wpAny_bind (wpAny_typeNameOf_itemiter hT (wpAny_pure ?_))
 refine wpAny_bind (wpAny_fieldsOf hit rfl ?_)
 simp only [show Builtin.Dict_items.ownsTuple "dict_itemiterator"=true by decide,if_true]
 show wpAny _ _ (if (Value.ref d == Value.none)=true then _ else _) _ _ _
 rw [if_neg (show ¬ ((Value.ref d == Value.none)=true) from Bool.false_ne_true)]
 refine wpAny_bind (wpAny_pure (wpAny_bind (wpAny_dictEntries hod hdd ?_)))
 rw [if_neg (by simp)]
 refine wpAny_bind (wpAny_pure (wpAny_bind (wpAny_dictEpoch hod hdd ?_)))
 rw [if_neg (by simp)]
 refine wpAny_pure ?_
 by_cases hlt:i<es.size
 ·simp only [show ¬ ((i:Int)<0) from by omega,if_false,Int.toNat_natCast,Array.getElem?_eq_getElem hlt]
  refine wpAny_bind ?_
  first | refine wpAny_bind (wpAny_typeNameOfWhole_itemiter hT (wpAny_pure ?_)) | refine wpAny_bind (wpAny_typeNameOf_itemiter hT (wpAny_pure ?_))
  refine wpAny_bind (wpAny_isOneOf_itemiter hT ?_)
  show wpAny _ _ (setField (.ref it) 3 (rawInt ((i:Int)+1)) >>= _) _ _ ⟨hp,g,dr,tk,os⟩
  refine wpAny_bind (wpAny_setField_rec hit (by simp) λk1 e1 b1=>?_)
  replace b1:Heap.SameBut it hp k1:=b1
  replace e1:IsItemIter k1 it d (i+1) es.size ep ok ov:=by
   have e:((i+1:Nat):Int)=(i:Int)+1:=by omega
   unfold IsItemIter; rw [e]; simpa [rawInt] using e1
  have hT1:Shared.TypeIs ⟨k1,g,dr,tk,os⟩ (.ref it) "dict_itemiterator":=⟨_,e1,rfl⟩
  refine wpAny_bind (wpAny_holding (wpAny_bind (wpAny_isOneOf_itemiter hT1 (wpAny_bind (wpAny_isOneOf_itemiter hT1 ?_)))))
  show wpAny _ _ (Builtin.Dict_items.pairFromOwner (.ref it) 6 es[i].key es[i].val) _ _ ⟨k1,g,dr,tk,os⟩
  unfold Builtin.Dict_items.pairFromOwner
  refine wpAny_bind (wpAny_newTuple ?_)
  have e2:IsItemIter (k1.push { cls:=.type "tuple",data:=.seq #[es[i].key,es[i].val] }) it d (i+1) es.size ep ok ov:=get?_push_of_some _ e1
  generalize hk2:k1.push { cls:=.type "tuple",data:=.seq #[es[i].key,es[i].val] }=k2 at e2
  have z1:k1.objs.size=hp.objs.size:=b1.1
  have hil:it<hp.objs.size:=lt_size hit
  have t2:k2.get? hp.objs.size=some { cls:=.type "tuple",data:=.seq #[es[i].key,es[i].val] }:=by rw [<- hk2,<- z1]; exact get?_push_size _ rfl
  have c2:∀ b o,b ≠ it->hp.get? b=some o->k2.get? b=some o:=λb o hb e=>by rw [<- hk2]; exact get?_push_of_some _ (b1.extBut b o hb e)
  show wpAny _ _ (Builtin.Dict_items.ownedTupleIsFree (.ref it) >>= _) _ _ ⟨k2,g,dr,tk,os⟩
  rw [z1]
  clear hk2 e1 b1 hT1 z1 k1
  refine wpAny_bind ?_
  unfold Builtin.Dict_items.ownedTupleIsFree
  refine wpAny_bind (wpAny_field e2 rfl (x:=.none) rfl (wpAny_pure ?_))
  simp only [if_true]
  refine wpAny_bind (wpAny_field e2 rfl (x:=ok) rfl (wpAny_bind (wpAny_field e2 rfl (x:=ov) rfl (wpAny_bind (wpAny_setField_rec e2 (by simp) λk3 e3 b3=>?_)))))
  replace b3:Heap.SameBut it k2 k3:=b3
  replace e3:IsItemIter k3 it d (i+1) es.size ep es[i].key ov:=e3
  refine wpAny_bind (wpAny_setField_rec e3 (by simp) λk4 e4 b4=>?_)
  replace b4:Heap.SameBut it k3 k4:=b4
  replace e4:IsItemIter k4 it d (i+1) es.size ep es[i].key es[i].val:=e4
  refine wpAny_bind (wpAny_setField_rec e4 (by simp) λk5 e5 b5=>?_)
  replace b5:Heap.SameBut it k4 k5:=b5
  replace e5:IsItemIterOut k5 it d (i+1) es.size ep es[i].key es[i].val hp.objs.size:=e5
  refine wpAny_bind (wpAny_setField_rec e5 (by simp) λk6 e6 b6=>?_)
  replace b6:Heap.SameBut it k5 k6:=b6
  replace e6:IsItemIterOut k6 it d (i+1) es.size ep es[i].key es[i].val hp.objs.size:=e6
  have ne:=Nat.ne_of_gt hil
  refine wpAny_bind (wpAny_letGo (wpAny_pure (wpAny_pure ⟨_,rfl,wpAny_pure (h1 hlt k6 e6 (b6.extBut _ _ ne (b5.extBut _ _ ne (b4.extBut _ _ ne (b3.extBut _ _ ne t2)))) λb o hb e=>?_)⟩)))
  exact b6.extBut b o hb (b5.extBut b o hb (b4.extBut b o hb (b3.extBut b o hb (c2 b o hb e))))
 ·simp only [show ¬ ((i:Int)<0) from by omega,if_false,Int.toNat_natCast,Array.getElem?_eq_none (Nat.le_of_not_lt hlt)]
  refine wpAny_bind ?_
  first | refine wpAny_bind (wpAny_typeNameOfWhole_itemiter hT (wpAny_pure ?_)) | refine wpAny_bind (wpAny_typeNameOf_itemiter hT (wpAny_pure ?_))
  show wpAny _ _ (setField (.ref it) 2 .none >>= _) _ _ _
  refine wpAny_bind (wpAny_setField hit rfl (by simp) ?_)
  show wpAny _ _ (newExc (.type "StopIteration") [] >>= _) _ _ _
  refine wpAny_bind ?_
  simp only [newExc,newTuple]
  refine wpAny_bind (wpAny_newObj_type ?_ (by size_fits))
  refine wpAny_bind (m:=firstArgMember _ _) (wpAny_of_eq (a:=Value.none) (by first | rfl | (simp only [firstArgMember]; rfl)) ?_)
  refine wpAny_newObj_type ?_ (by size_fits)
  simp only [raiseNew]
  refine wpAny_bind (wpAny_handled ?_)
  rw [show A.in1.handled=none from hh]
  refine wpAny_bind (wpAny_pure (wpAny_throw ?_))
  refine wpAny_bind (wpAny_isInstance (T := "StopIteration") (b:=true) ⟨_,get?_push_size _ rfl,rfl⟩ isSubtype_stop ?_)
  exact wpAny_pure (h2 (Nat.le_of_not_lt hlt) _ (((Heap.SameBut.update ..).extBut.push _).push _))
end
def jW (v d:Addr):HO:=.ext λh=>h.IsItemsView v d
def Iti (d:Addr) (o:Obj) (u:HO) (kv:List (V × V)):It:=
 ⟨λi H=>H d=some (.frz o u)/\i<kv.length,λi H x H'=>∃ p k y,x=.ref p/\H p=none/\H'=upd H p (.tup [k,y])/\kv[i]? = some (k,y),λi H=>H d=some (.frz o u)/\kv.length<=i⟩
theorem turn_items {P:Program} {w:World} {K:Frag} {tes:List Expr} {tk:Nat} {tp:Pos} {d it:Addr} {o:Obj} {u:HO} {es:Array DictEntry} {ep:Nat} {kv:List (V × V)} (hx:o.ExactDict) (hd:o.data=.dict es ep)
  (r1:l9 (kv.map (·.1)) (es.toList.map (·.key))) (r2:l9 (kv.map (·.2)) (es.toList.map (·.val))) :
  Turn P w K (.Tuple tes tk tp) (Iti d o u kv) [it] it (λi h=>∃ ok ov,IsItemIter h it d i es.size ep ok ov) where
 mem:=by simp
 obj:=λi h ⟨ok,ov,st⟩ b hb=>by
  have e:b=it:=by simpa using hb
  subst e
  exact ⟨_,st,λv z=>by cases z⟩
 keep:=λi h h' ⟨ok,ov,st⟩ k=>⟨ok,ov,k it (by simp) _ st⟩
 item:=by
  intro X hP hw hK hc i pins s σ H E I hf st hg
  subst hP hw hK
  obtain ⟨hD,hi⟩:=(show H d=some (.frz o u)/\i<kv.length from hg)
  obtain ⟨ok,ov,st⟩:=st
  have ho:s.heap.get? d=some o:=(show mi X.prog X.w H s.heap d (.frz o u) from I.hok d _ hD).1
  refine kJ (I.ok.hd hc) st ⟨o,ho,hx,hd⟩ (λhi' h' a1 a5 hk=>?_) λhge=>absurd hi (by have:=r1.length; simp at this; omega)
  refine ⟨_,rfl,wpAny_letOwnedTupleGo_items a1 λh'' hz'' sb=>?_⟩
  obtain ⟨⟨x,y⟩,hxy⟩:∃ q,kv[i]? = some q:=⟨_,getElem?_eq_getElem hi⟩
  obtain ⟨v1,hv1,rx⟩:=r1.get (i:=i) (x:=x) (by rw [getElem?_map,hxy]; rfl)
  obtain ⟨v2,hv2,ry⟩:=r2.get (i:=i) (x:=y) (by rw [getElem?_map,hxy]; rfl)
  have e1:es[i].key=v1:=by
   rw [getElem?_map,Array.getElem?_toList,Array.getElem?_eq_getElem hi'] at hv1
   exact Option.some.inj hv1
  have e2:es[i].val=v2:=by
   rw [getElem?_map,Array.getElem?_toList,Array.getElem?_eq_getElem hi'] at hv2
   exact Option.some.inj hv2
  rw [e1,e2] at a5
  have lit:it<s.heap.objs.size:=lt_size st
  have nit:s.heap.objs.size ≠ it:=Nat.ne_of_gt lit
  have hT:h''.get? s.heap.objs.size=some { cls:=.type "tuple",data:=.seq #[v1,v2] }:=(sb.2 _ nit).trans a5
  have fresh:H s.heap.objs.size=none:=I.hok.fresh (Nat.le_refl _)
  have gT:(s.heap.push { cls:=.type "tuple",data:=.seq #[v1,v2] }).get? s.heap.objs.size=some { cls:=.type "tuple",data:=.seq #[v1,v2] }:=get?_push_size _ rfl
  have I1:Inv X pins σ (upd H s.heap.objs.size (.tup [x,y])) { s with heap:=s.heap.push { cls:=.type "tuple",data:=.seq #[v1,v2] },toks:=s.toks }:=
   I.laid (λb o e=>get?_push_of_some _ e) (Nat.le_refl _) ⟨by show 2<=sizeLine; decide,[v1,v2],.cons rx (.cons ry .nil),_,gT,rfl,_,rfl⟩
  have fp1:∀ c ∈ [it],fF X pins (upd H s.heap.objs.size (.tup [x,y])) c:=λc hc=>by
   have e:c=it:=by simpa using hc
   subst e
   exact ⟨by rw [am nit.symm]; exact (hf c hc).1,(hf c hc).2⟩
  have I2:=I1.turnedN (h':=h'') (t':=s.toks) (fp:=[it]) (λc o hc e=>by
   have hc':c ≠ it:=by simpa using hc
   rcases Heap.get?_push_cases e with ⟨e1,e2⟩ | e1
   ·rw [e1,e2]
    exact hT
   ·exact (sb.2 c hc').trans (hk c o hc' e1)) fp1
  exact ⟨.ref s.heap.objs.size,_,I2,rfl,⟨_,x,y,rfl,fresh,rfl,hxy⟩,⟨_,_,hz''⟩,λc hc=>(fp1 c hc).1⟩
 done:=by
  intro X hP hw hK hc i pins s σ H E I hf st hg
  subst hP hw hK
  obtain ⟨hD,hi⟩:=(show H d=some (.frz o u)/\kv.length<=i from hg)
  obtain ⟨ok,ov,st⟩:=st
  have ho:s.heap.get? d=some o:=(show mi X.prog X.w H s.heap d (.frz o u) from I.hok d _ hD).1
  refine kJ (I.ok.hd hc) st ⟨o,ho,hx,hd⟩ (λhi'=>absurd hi' (by have:=r1.length; simp at this; omega)) λ_ h' eb=>⟨rfl,I.turnedN (t':=s.toks) (λc o hc e=>eb c o (by simpa using hc) e) hf⟩
 self:=λ_ _ _ _ _ ⟨_,_,st⟩ h=>kcp_self st h
def rItems:V->List V->Hp->VK->Prop:=λx vs H Q=>∃ d kvs,x=.ref d/\vs=[]/\H d=some (.dT kvs)/\∀ v,H v=none->Q (.ref v) (upd H v (jW v d))
theorem mt_items {X:Cx}:MtR X "dict.items" rItems:=by
 intro pins s σ H x xs v us Q I rx rv h
 obtain ⟨d,kvs,rfl,rfl,hd,q⟩:=h
 cases rx
 cases rv
 obtain ⟨hz,hm,es3,kt,o,es,ep,h1,h2,h3,h4,h5⟩:=id (show mi X.prog X.w H s.heap d (.dT kvs) from I.hok d _ hd)
 refine items_raw hm ⟨o,h1,h2,h3⟩ ?_
 have gV:(s.heap.push { cls:=.type "dict_items",data:=.fields #[.ref d] }).get? s.heap.objs.size=some { cls:=.type "dict_items",data:=.fields #[.ref d] }:=get?_push_size _ rfl
 refine ⟨.ref s.heap.objs.size,_,I.laid (t':=s.toks) (λb o e=>get?_push_of_some _ e) (Nat.le_refl _) ?_,rfl,q _ (I.hok.fresh (Nat.le_refl _))⟩
 exact ⟨⟨_,gV,rfl,rfl⟩,⟨_,gV⟩,λk1 k2 ⟨o,e,c⟩ k=>⟨o,k o e,c⟩⟩
def iItems (tl:TE):TI:=λσ H R=>tl σ H λx H1=>∃ v d kvs,x=.ref v/\H1 v=some (jW v d)/\H1 d=some (.dT kvs)/\∀ o as,Paired (λ(p:List Key × V) (a:Addr)=>H1 a=some (.tup (p.1.map kV))) kvs as->R (Iti d o (.dT kvs) ((as.map V.ref).zip (kvs.map (·.2)))) (upd H1 d (.frz o (.dT kvs)))
theorem dict_vals {P:Program} {w:World} {H:Hp} {kvs:List (List Key × V)} {m:List (List Key × Addr × Value)} (q:Paired (λ(p:List Key × V) (q:List Key × Addr × Value)=>p.1=q.1/\H q.2.1=some (.tup (p.1.map kV))/\md p.2 q.2.2) kvs m) :
  l9 (kvs.map (·.2)) ((m.map (entryOfKey (tupleKind (aQ P w)))).map (·.val)):=by
 induction q with
 | nil=>exact .nil
 | cons hq t ih=>exact .cons hq.2.2 ih
theorem pi_items {X:Cx} {tes:List Expr} {tk:Nat} {tp:Pos} {l:Expr} {tl:TE} (hl:PE X l tl):PI X (.Tuple tes tk tp) l (iItems tl):=by
 intro pins s σ H R I h
 refine thn (hl pins s σ H _ I h) λv s1 ⟨x,H1,I1,r1,q1⟩=>?_
 obtain ⟨vw,d,kvs,e,hv,hd,q⟩:=q1
 subst e
 cases r1
 obtain ⟨hz,hm,es3,kt,o,es,ep,h1,h2,h3,h4,h5⟩:=id (show mi X.prog X.w H1 s1.heap d (.dT kvs) from I1.hok d _ hd)
 obtain ⟨k1,k2⟩:=kz (P:=X.prog) (w:=X.w) kt
 have k3:=dict_vals (P:=X.prog) (w:=X.w) kt
 have hview:s1.heap.IsItemsView vw d:=(show mi X.prog X.w H1 s1.heap vw (jW vw d) from I1.hok vw _ hv).1
 have go:∀ {l:List (List Key × V)} {m:List (List Key × Addr × Value)},Paired (λ(p:List Key × V) (q:List Key × Addr × Value)=>p.1=q.1/\H1 q.2.1=some (.tup (p.1.map kV))/\md p.2 q.2.2) l m->
   Paired (λ(p:List Key × V) (q:List Key × Addr × Value)=>p.1=q.1/\upd H1 d (.frz o (.dT kvs)) q.2.1=some (.tup (p.1.map kV))/\md p.2 q.2.2) l m:=by
  intro l m q
  induction q with
  | nil=>exact .nil
  | cons hq t ih=>exact .cons ⟨hq.1,by rw [am (bh hq.2.1 hd (by intro z; cases z))]; exact hq.2.1,hq.2.2⟩ ih
 have I2:Inv X pins σ (upd H1 d (.frz o (.dT kvs))) { s1 with heap:=s1.heap,toks:=s1.toks }:=I1.write (x:=d) (e:=d) (by rw [hd]; exact trivial) (.inl rfl) (λ_ _ _ z=>z) ⟨_,h1⟩ ⟨h1,hz,hm,es3,go kt,o,es,ep,h1,h2,h3,h4,h5⟩
 rw [<- h4] at k2 k3
 have len:((es3.map (·.2.1)).map V.ref).length=(kvs.map (·.2)).length:=by
  have:=Paired.length kt
  simp only [length_map]
  omega
 refine iterI_raw hview ⟨o,h1,h2,h3⟩ ?_
 refine ⟨s1.heap.objs.size,[s1.heap.objs.size],_,_,_,rfl,I2.kept (t':=s1.toks) λb o e=>get?_push_of_some _ e,turn_items (u:=.dT kvs) h2 h3 (kv:=((es3.map (·.2.1)).map V.ref).zip (kvs.map (·.2))) (by rw [List.map_fst_zip (Nat.le_of_eq len)]; exact k2) (by rw [map_snd_zip (Nat.le_of_eq len.symm)]; exact k3),⟨_,_,get?_push_size _ rfl⟩,λb hb=>?_,q o _ k1⟩
 have e:b=s1.heap.objs.size:=by simpa using hb
 subst e
 exact I2.fpOk (Nat.le_refl _) (I2.hok.fresh (Nat.le_refl _))
theorem kpi_items {X:Cx} {tes:List Expr} {tk:Nat} {tp apos cpos:Pos} {o:Expr} {to:TE} (K:Frag) (hK:X.K=K) (ho:PE X o to)
  (hbase:attributeBase o "items" X.env (eval o X.env)=eval o X.env:=by rfl) (hline:(apos.endLine == cpos.line)=true:=by rfl) :
  PI X (.Tuple tes tk tp) (.Call (.Attribute o "items" apos) [] [] cpos) (iItems (tBM0 K "dict" rItems to)):=by
 subst hK
 exact pi_items (pe_bm0 PySem.F.plainAttrs_dict PySem.F.slot_dict_items PySem.F.type_dict_items mt_items ho hbase hline)
section
variable {X:Cx} {K:Frag} {e st:Expr} {te:TE} {ts:TO} {pos p2:Pos}
end
section
variable {X:Cx} {p pos:Pos} {e:Expr} {te:TE} {K:Frag}
end
theorem for_zip {t1 t2:Bool} {K:Frag} {a b:Addr} {xs ys:List V} {g:TG} {tb:TS} {D:gq} {σ:St} {H:Hp} (Pv:Nat->St->Hp->Prop) (h0:Pv 0 σ H) (hl:∀ i σ H,i<=min xs.length ys.length->Pv i σ H->SqV t1 K H a xs/\SqV t2 K H b ys)
  (hs:∀ (i:Nat) x y σ H p,xs[i]? = some x->ys[i]? = some y->Pv i σ H->H p=none->g (.ref p) σ (upd H p (.tup [x,y])) λσ2 H2=>tb { D with nx:=Pv (i+1),ct:=Pv (i+1),bk:=D.nx } σ2 H2) (hd:∀ σ H,Pv (min xs.length ys.length) σ H->D.nx σ H) :
  ∃ W:Nat->Nat->St->Hp->Prop,(∃ m,W 0 m σ H)/\∀ i m σ H,W i m σ H->
   ((Itz t1 t2 K a b).stop i H/\D.nx σ H)\/((Itz t1 t2 K a b).go i H/\∃ N:St->Hp->Prop,(∀ σ' H',N σ' H'->∃ m',m' < m/\W (i+1) m' σ' H')/\∀ x H',(Itz t1 t2 K a b).yld i H x H'->g x σ H' λσ2 H2=>tb { D with nx:=N,ct:=N,bk:=D.nx } σ2 H2):=by
 refine ⟨λi m σ H=>m=min xs.length ys.length-i/\i<=min xs.length ys.length/\Pv i σ H,⟨min xs.length ys.length,by simp,Nat.zero_le _,h0⟩,?_⟩
 rintro i m σ H ⟨rfl,hi,p⟩
 obtain ⟨q1,q2⟩:=hl i σ H hi p
 by_cases hlt:i<min xs.length ys.length
 ·have hx:i<xs.length:=by omega
  have hy:i<ys.length:=by omega
  refine .inr ⟨⟨xs,ys,xs[i],ys[i],q1,q2,by simp [hx],by simp [hy]⟩,Pv (i+1),λσ' H' p'=>⟨min xs.length ys.length-(i+1),by omega,rfl,hlt,p'⟩,λx H' y=>?_⟩
  obtain ⟨l,x1,y1,rfl,hl1,rfl,g1,g2⟩:=y
  exact hs i x1 y1 σ _ l (g1 xs q1) (g2 ys q2) p hl1
 ·have e:i=min xs.length ys.length:=by omega
  subst e
  refine .inl ⟨⟨xs,ys,q1,q2,?_⟩,hd σ H p⟩
  omega
section
variable {X:Cx} {pins:List (Addr × Obj)} {σ:St} {H:Hp} {s:Shared}
end
end L2
namespace L2
open PySem PySem.Spec PyProof.Rows
theorem mj.m {j k:Nat} {A:Around} (r:mj k A) (h:j<=k:=by first | decide | exact Nat.le_refl _):mj j A:=r.mono h
theorem l8.i {N P:List Str} {sc:Scope} (a:sc.kind=.function:=by rfl) (b:sc.isCoroutine=false:=by rfl) (c:sc.isGenerator=false:=by rfl) (d:N.Nodup:=by decide +kernel) (e:N.take P.length=P:=by rfl)
  (f:∀ x ∈ P,sc.names.lookup x=some .local\/sc.names.lookup x=some .cell:=by decide +kernel) (g:∀ y ∈ sc.names,y.2 ≠ .free:=by decide +kernel):l8 N P sc:=⟨a,b,c,d,e,f,g⟩
def AllA:Nat->(List Value->Prop)->Prop
 | 0,p=>p []
 | n+1,p=>∀ v,AllA n λr=>p (v::r)
theorem AllA.all:∀ {n:Nat} {p:List Value->Prop},AllA n p->∀ us:List Value,us.length=n->p us
 | 0,_,h,[],_=>h
 | _+1,_,h,v::r,e=>AllA.all (h v) r (Nat.succ.inj e)
def mf (K:Frag) (n:Str) (st:Stmt):Prop:=∃ f fd,nsIn K mainGlobals n=some (some (.ref f))/\Fun K n n st f fd
theorem mf.mk {K:Frag} {n:Str} {st:Stmt} {f:Addr} {oc:Value} {od an:Option Addr} {osl:Array (Option Value)} {kV doc pm cdv ct:Value} (a:nsIn K mainGlobals n=some (some (.ref f))) (l:K.lookup f=some ⟨oc,od,.func (fnOf n n (aJ st) (aH st) (aj st) .none kV doc pm an cdv ct),osl⟩)
  (c:codeIn K cdv n=true) (k:keepIn K (.ref f)=true):mf K n st:=⟨f,_,a,dW l c k⟩
section
variable {P:Program} {w:World} {K:Frag} {mg:Str->Option Value} {base h:Heap} {n:Str} {st:Stmt} {k:Nat} {sp:Sp} {ps:List Str}
def BindsOk (n:Str) (st:Stmt) (ps:List Str):Prop:=∀ (kV doc pm:Value) (an:Option Addr) (cdv ct:Value),AllA ps.length λus=>bindArgs (fnOf n n (aJ st) (aH st) (aj st) .none kV doc pm an cdv ct) ⟨us,[]⟩=pure (ps.zip us)
theorem BindsOk.b (h:BindsOk n st ps) {f:Addr} {fd:FuncData} (F:Fun K n n st f fd):mF K fd ps []:=F.binds λa b c d e g=>(h a b c d e g).all
theorem mf.fb (X:K.In h) (G:h.Ns mainGlobals mg) (d:mf K n st) (o:∀ {f fd},Fun K n n st f fd->me P w K mg base CX0 k f fd ps sp) (b:BindsOk n st ps:=by (repeat intro _); rfl):FnB P w K mg base k n sp:=
 let ⟨f,fd,a,F⟩:=d
 ⟨f,fd,ps,o F,mg_of X G a,F.kp,b.b F⟩
theorem mf.fx (X:K.In h) (G:h.Ns mainGlobals mg) (d:mf K n st) (o:∀ {f fd},Fun K n n st f fd->me P w K mg base (CXE P w) k f fd ps sp) (b:BindsOk n st ps:=by (repeat intro _); rfl):FnBX P w K mg base k n sp:=
 let ⟨f,fd,a,F⟩:=d
 ⟨f,fd,ps,o F,mg_of X G a,F.kp,b.b F⟩
theorem mf.law {fa:Addr} {x:Str} (X:K.In h) (G:h.Ns mainGlobals mg) (d:mf K n st) (e:mg n=some (.ref fa))
  (o:∀ {fd} {base:Heap},Fun K n n st fa fd->K.In base->base.Ns mainGlobals mg->me P w K mg base CX0 k fa fd ps sp) (b:BindsOk n st [x]:=by (repeat intro _); rfl) :
  ∃ fd:FuncData,(∀ (s:Shared) (v:Value),BindsTo s fd ⟨[v],[]⟩ [(x,v)])/\∀ base:Heap,K.In base->base.Ns mainGlobals mg->me P w K mg base CX0 k fa fd ps sp:=by
 obtain ⟨f,fd,a,F⟩:=d
 cases e.symm.trans (mg_of X G a)
 obtain ⟨oc,od,kV,doc,pm,an,cdv,ct,osl,rfl,lk,hcd⟩:=id F.ex
 exact ⟨_,λs v=>.of_eq (b kV doc pm an cdv ct v),λbase=>o F⟩
end
theorem bmA {X:Cx} (K:Frag) (hK:X.K=K) {o e:Expr} {es:List Expr} {to:TE} {t:TA} {apos cpos:Pos} (ho:PE X o to) (ha:PA X (e::es) t)
  (hbase:attributeBase o "append" X.env (eval o X.env)=eval o X.env:=by rfl)
  (hfew:((backTo cpos (starEach (e::es) X.env)).all (λx=>!x.1) && (backToKw cpos (keywordEach [] X.env)).all (λx=>x.1.isSome)
   && decide ((e::es).length+([]:List Keyword).length+(if ([]:List Keyword).isEmpty then 0 else 1)<30))=true:=by rfl)
  (hline:(apos.endLine == cpos.line)=true:=by rfl) (hs:starEach (e::es) X.env=(false,eval e X.env)::starEach es X.env:=by rfl) (hplain:(backTo cpos (starEach es X.env)).any (·.1)=false:=by rfl) :
  PE X (.Call (.Attribute o "append" apos) (e::es) [] cpos) (tBM K "list" rAppend to t):=hK ▸ pe_bm PySem.F.plainAttrs_list PySem.F.slot_list_append PySem.F.type_list_append jK ho ha hbase hfew hline hs hplain
section
variable {P:Program} {w:World} {K:Frag} {mg:Str->Option Value} {base:Heap}
theorem Fun.o {x qual:Str} {st:Stmt} {f:Addr} {fd:FuncData} {N ps:List Str} {k:Nat} {sp:Sp} (F:Fun K x qual st f fd) (S:l8 N ps (aj st))
  (hbody:∀ (cdv:Value) (A:Around) (outer:List Env) (s:Shared) (H:Hp) (vs:List V) (Q:VK) (E:XK),mj k (A.deeper (envOfC qual (aj st) s.heap.objs.size f cdv))->sp vs H Q E->
   ∃ t,PSs (cB CX0 P w K mg base N qual (aj st) f cdv A outer s H E).nox (aH st) t/\t { nx:=λ_ H'=>Q .non H',rt:=Q } (eJ N vs) H)
  (len:∀ vs H Q E,sp vs H Q E->vs.length=ps.length:=by intro _ _ _ _ h; repeat first | (cases h.1; rfl) | obtain ⟨_,h⟩:=h):me P w K mg base CX0 (k+1) f fd ps sp:=F.ok S len hbody
end
section
variable {X:Cx} {pins:List (Addr × Obj)} {σ:St} {H:Hp} {s:Shared} {h':Heap}
end
section
variable {X:Cx} {pins:List (Addr × Obj)} {σ:St} {H:Hp} {s:Shared}
end
end L2
namespace L2
open PySem PySem.Spec PyProof.Rows PySem.W
section
variable {X:Cx} {pins:List (Addr × Obj)} {σ:St} {H:Hp} {s:Shared}
end
section
variable {X:Cx} {pins:List (Addr × Obj)} {σ:St} {A:Around} {H0:Hp} {l q It S:Addr} {xs:List V} {key:V->List Int × Int} {R:Result->Shared->Prop}
end
section
variable {X:Cx} {p pos lpos kp:Pos} {e:Expr} {te:TE}
end
section
variable {P:Program} {w:World} {K:Frag} {mg:Str->Option Value} {base:Heap}
end
abbrev SM:=StateT SortSt Sem
section
variable {M:Model} {A:Around} {E:Value->Shared->Prop} {σ:Type} {s:Shared}
theorem turns {β:Type} {f:Nat->β->StateT σ Sem (ForInStep β)} {Q:β->σ->Shared->Prop} (I:Nat->β->σ->Prop)
  (turn:∀ k x b st,I (k+1) b st->kasC M A E (f x b) (λr st' s'=>s'=s/\match r with | .done b'=>Q b' st' s | .yield b'=>I k b' st') st s)
  (fin:∀ b st,I 0 b st->Q b st s):∀ (l:List Nat) (b:β) (st:σ),I l.length b st->kasC M A E (forIn l b f) Q st s
 | [],b,st,h=>kasC_nil (fin b st h)
 | x::l,b,st,h=>kasC_cons (wpAny_mono (turn _ x b st h) (λr s' z=>by
   obtain ⟨r,st'⟩:=r
   obtain ⟨z1,z2⟩:=z
   cases z1
   cases r with
   | done b'=>exact z2
   | yield b'=>exact turns I turn fin l b' st' z2) λ_ _ e=>e)
theorem bi {β:Type} {f:Nat->β->StateT σ Sem (ForInStep β)} {Q:β->σ->Shared->Prop} {a n:Nat} {b:β} {st:σ} (I:Nat->β->σ->Prop) (h:I (n-a) b st)
  (turn:∀ k x b st,I (k+1) b st->kasC M A E (f x b) (λr st' s'=>s'=s/\match r with | .done b'=>Q b' st' s | .yield b'=>I k b' st') st s)
  (fin:∀ b st,I 0 b st->Q b st s):kasC M A E (forIn [a:n] b f) Q st s:=
 kasC_range (turns I turn fin _ b st (by rw [List.length_range']; exact h))
end
section
variable {prog:Program} {w:World} {A:Around} {E:Value->Shared->Prop} {κ:SortKind} {it:Array Keyed} {n:Nat} {c:Nat->Nat->Bool} {s:Shared} {st:SortSt}
def Ans (prog:Program) (w:World) (A:Around) (κ:SortKind) (it:Array Keyed) (n:Nat) (c:Nat->Nat->Bool) (s:Shared):Prop:=
 ∀ i j (C:Bool->Shared->Prop),i<n->j<n->C (c i j) s->kas_cmp prog w A κ it i j C s
theorem Ans.lt (h:Ans prog w A κ it n c s) (hk:kindOf st=κ) {i j:Nat} (hi:i<n) (hj:j<n) {Q:Option Bool->SortSt->Shared->Prop} (q:Q (some (c i j)) st s) :
  kasC (model prog w) A E (lt' (kas_item it i) (kas_item it j)) Q st s:=by
 rw [lt'_eq]
 refine kasC_bind (kasC_get ?_)
 refine kasC_bind (kasC_lift (wpAny_attempt (wpAny_mono (Q:=λb s'=>Q (some b) st s') (E:=λ_ _=>False) (by rw [hk]; exact h i j _ hi hj q) (λb s' hb=>?_) λ_ _ hF=>hF.elim)))
 exact kasC_pure hb
theorem aD {p:Array Nat} {i:Nat} (hi:i<p.size) {Q:Keyed->SortSt->Shared->Prop} (q:Q (kas_item it (p.getD i 0)) st s):kasC (model prog w) A E (elem' (p.map (kas_item it)) i) Q st s:=by
 rw [elem'_eq]
 have e:p.getD i 0=p[i]:=by simp [Array.getD,hi]
 have:(p.map (kas_item it))[i]? = some (kas_item it (p.getD i 0)):=by rw [e]; simp [hi]
 rw [this]
 exact kasC_pure q
def gallop':Bool->Keyed->Array Keyed->Nat->Nat->Nat->SM (Option Nat):=sortPriv% PySem.Builtin.gallop
abbrev G3:=Option (Option Nat) × Nat × Nat
def gAsk (l:Bool) (k:Keyed) (a:Array Keyed) (o i:Nat):SM (Option Bool):=elem' a (o+i) >>= λx=>if l=true then lt' x k else lt' k x >>= λy=>pure (y.map (!·))
def gFar (B:Nat->SM (Option Bool)) (m:Nat) (f:Nat->Nat) (t:Bool->Bool):Nat->G3->SM (ForInStep G3):=λ_ z=>
 if z.2.2 ≥ m then pure (.done (none,z.2.1,z.2.2)) else B (f z.2.2) >>= λy=>match y with
  | some v=>if t v=true then pure (.done (none,z.2.1,z.2.2)) else pure (.yield (none,z.2.2,2*z.2.2+1))
  | _=>pure (.done (some none,z.2.1,z.2.2))
def gNear (B:Nat->SM (Option Bool)):Nat->G3->SM (ForInStep G3):=λ_ z=>
 if z.2.1 ≥ z.2.2 then pure (.done (none,z.2.1,z.2.2)) else B (z.2.1+(z.2.2-z.2.1) / 2) >>= λy=>match y with
  | some v=>if v=true then pure (.yield (none,z.2.1+(z.2.2-z.2.1) / 2+1,z.2.2)) else pure (.yield (none,z.2.1,z.2.1+(z.2.2-z.2.1) / 2))
  | _=>pure (.done (some none,z.2.1,z.2.2))
def gEnd (B:Nat->SM (Option Bool)) (n lo hi:Nat):SM (Option Nat):=forIn [0:n] ((none,lo,hi):G3) (gNear B) >>= λz=>match z.1 with
 | some r=>pure r
 | none=>pure (some z.2.2)
def gAll (B:Nat->SM (Option Bool)) (n hint:Nat):SM (Option Nat):=B hint >>= λy=>match y with
 | some r=>if r=true then forIn [0:n] ((none,0,1):G3) (gFar B (n-hint) (hint + ·) (!·)) >>= λz=>match z.1 with
    | some r=>pure r
    | none=>gEnd B n (hint+z.2.1+1) (hint+min z.2.2 (n-hint))
   else forIn [0:n] ((none,0,1):G3) (gFar B (hint+1) (hint - ·) id) >>= λz=>match z.1 with
    | some r=>pure r
    | none=>gEnd B n (hint+1-min z.2.2 (hint+1)) (hint-z.2.1)
 | _=>pure none
theorem kl {B:Nat->SM (Option Bool)} {n lo hi:Nat} {f:Nat->G3->SM (ForInStep G3)} {g:G3->SM (Option Nat)} (hf:f=gNear B) (hg:∀ a b r,g (some r,a,b)=pure r) (h0:∀ a b,g (none,a,b)=pure (some b)):(forIn [0:n] ((none,lo,hi):G3) f >>= g)=gEnd B n lo hi:=by
 subst hf
 unfold gEnd
 refine congrArg (λg=>forIn [0:n] ((none,lo,hi):G3) (gNear B) >>= g) (funext λz=>?_)
 obtain ⟨z1,z2,z3⟩:=z
 cases z1 with
 | some r=>exact hg _ _ _
 | none=>exact h0 _ _
theorem gallop_form (l:Bool) (k:Keyed) (a:Array Keyed) (o n hint:Nat):gallop' l k a o n hint=gAll (gAsk l k a o) n hint:=by
 unfold gAll
 show (gAsk l k a o hint >>= _)=_
 refine congrArg (λf=>gAsk l k a o hint >>= f) (funext λy=>?_)
 cases y with
 | none=>rfl
 | some r=>
  cases r with
  | true=>
   show (forIn [0:n] ((none,0,1):G3) _ >>= _)=(forIn [0:n] ((none,0,1):G3) _ >>= _)
   refine congr (congrArg (λf g=>forIn [0:n] ((none,0,1):G3) f >>= g) (funext λx=>funext λz=>rfl)) (funext λz=>?_)
   obtain ⟨z1,z2,z3⟩:=z
   cases z1 with
   | some r=>rfl
   | none=>exact kl rfl (λ_ _ _=>rfl) λ_ _=>rfl
  | false=>
   show (forIn [0:n] ((none,0,1):G3) _ >>= _)=(forIn [0:n] ((none,0,1):G3) _ >>= _)
   refine congr (congrArg (λf g=>forIn [0:n] ((none,0,1):G3) f >>= g) (funext λx=>funext λz=>rfl)) (funext λz=>?_)
   obtain ⟨z1,z2,z3⟩:=z
   cases z1 with
   | some r=>rfl
   | none=>exact kl rfl (λ_ _ _=>rfl) λ_ _=>rfl
end
section
variable {M:Model} {A:Around} {E:Value->Shared->Prop} {s:Shared} {st:SortSt} {B:Nat->SM (Option Bool)} {g:Nat->Bool} {n:Nat}
theorem gG (hB:∀ i (Q:Option Bool->SortSt->Shared->Prop),i<n->Q (some (g i)) st s->kasC M A E (B i) Q st s) (mono:∀ i j,i<j->j<n->g j=true->g i=true) {lo hi:Nat} {Q:Option Nat->SortSt->Shared->Prop}
  (h1:lo<=hi) (h2:hi<=n) (h3:∀ i,i<lo->g i=true) (h4:∀ i,hi<=i->i<n->g i=false) (q:∀ k,k<=n->(∀ i,i<k->g i=true)->(∀ i,k<=i->i<n->g i=false)->Q (some k) st s):kasC M A E (gEnd B n lo hi) Q st s:=by
 unfold gEnd
 refine kasC_bind (bi (λk z st'=>st'=st/\z.1=none/\z.2.1<=z.2.2/\z.2.2<=n/\(∀ i,i<z.2.1->g i=true)/\(∀ i,z.2.2<=i->i<n->g i=false)/\z.2.2-z.2.1<=k) ⟨rfl,rfl,h1,h2,h3,h4,by show hi-lo<=n-0; omega⟩ ?_ ?_)
 ·rintro k x ⟨r,a,b⟩ st' ⟨rfl,rfl,a1,a2,a3,a4,a5⟩
  dsimp only at *
  unfold gNear
  dsimp only
  by_cases hab:a ≥ b
  ·rw [if_pos hab]
   refine kasC_pure ⟨rfl,?_⟩
   obtain rfl:a=b:=by omega
   exact kasC_pure (q a a2 a3 a4)
  ·rw [if_neg hab]
   refine kasC_bind (hB _ _ (by omega) ?_)
   dsimp only
   cases e:g (a+(b-a) / 2) with
   | true=>
    rw [if_pos rfl]
    refine kasC_pure ⟨rfl,rfl,rfl,by show a+(b-a) / 2+1<=b; omega,a2,λi hi=>?_,a4,by show b-(a+(b-a) / 2+1)<=k; omega⟩
    have hi:i<a+(b-a) / 2+1:=hi
    by_cases z:i=a+(b-a) / 2
    ·rw [z]; exact e
    ·exact mono i _ (by omega) (by omega) e
   | false=>
    rw [if_neg Bool.false_ne_true]
    refine kasC_pure ⟨rfl,rfl,rfl,by show a<=a+(b-a) / 2; omega,by show a+(b-a) / 2<=n; omega,a3,λi hi hn=>?_,by show a+(b-a) / 2-a<=k; omega⟩
    have hi:a+(b-a) / 2<=i:=hi
    by_cases z:i=a+(b-a) / 2
    ·rw [z]; exact e
    ·cases e2:g i with
     | false=>rfl
     | true=>rw [mono _ i (by omega) hn e2] at e; cases e
 ·rintro ⟨r,a,b⟩ st' ⟨rfl,rfl,a1,a2,a3,a4,a5⟩
  dsimp only at *
  obtain rfl:a=b:=by omega
  exact kasC_pure (q a a2 a3 a4)
theorem gAll_c (hB:∀ i (Q:Option Bool->SortSt->Shared->Prop),i<n->Q (some (g i)) st s->kasC M A E (B i) Q st s) (mono:∀ i j,i<j->j<n->g j=true->g i=true) {hint:Nat} (hh:hint<n) {Q:Option Nat->SortSt->Shared->Prop}
  (q:∀ k,k<=n->(∀ i,i<k->g i=true)->(∀ i,k<=i->i<n->g i=false)->Q (some k) st s):kasC M A E (gAll B n hint) Q st s:=by
 have down:∀ i,i<n->g i=false->∀ j,i<=j->j<n->g j=false:=λi hi e j hij hj=>by
  by_cases z:i=j
  ·rw [<- z]; exact e
  ·cases e2:g j with
   | false=>rfl
   | true=>rw [mono i j (by omega) hj e2] at e; cases e
 have up:∀ i,i<n->g i=true->∀ j,j<i+1->g j=true:=λi hi e j hj=>by
  by_cases z:j=i
  ·rw [z]; exact e
  ·exact mono j i (by omega) hi e
 unfold gAll
 refine kasC_bind (hB hint _ hh ?_)
 dsimp only
 cases e0:g hint with
 | true=>
  rw [if_pos rfl]
  refine kasC_bind (bi (λk z st'=>st'=st/\z.1=none/\z.2.1<z.2.2/\hint+z.2.1<n/\g (hint+z.2.1)=true/\n+1<=z.2.2+k) ⟨rfl,rfl,Nat.zero_lt_one,hh,e0,by show n+1<=1+(n-0); omega⟩ ?_ ?_)
  ·rintro k x ⟨r,a,b⟩ st' ⟨rfl,rfl,a1,a2,a3,a5⟩
   dsimp only at *
   unfold gFar
   dsimp only
   by_cases hb:b ≥ n-hint
   ·rw [if_pos hb]
    refine kasC_pure ⟨rfl,?_⟩
    dsimp only
    exact gG hB mono (by omega) (by omega) (λi hi=>up _ a2 a3 i (by omega)) (λi h1 h2=>by omega) q
   ·rw [if_neg hb]
    refine kasC_bind (hB _ _ (by omega) ?_)
    dsimp only
    cases e:g (hint+b) with
    | false=>
     rw [if_pos (by decide)]
     refine kasC_pure ⟨rfl,?_⟩
     dsimp only
     exact gG hB mono (by omega) (by omega) (λi hi=>up _ a2 a3 i (by omega)) (λi h1 h2=>down (hint+b) (by omega) e i (by omega) h2) q
    | true=>
     rw [if_neg (by decide)]
     exact kasC_pure ⟨rfl,rfl,rfl,by show b<2*b+1; omega,by show hint+b<n; omega,e,by show n+1<=2*b+1+k; omega⟩
  ·rintro ⟨r,a,b⟩ st' ⟨rfl,rfl,a1,a2,a3,a5⟩
   dsimp only at *
   exact gG hB mono (by omega) (by omega) (λi hi=>up _ a2 a3 i (by omega)) (λi h1 h2=>by omega) q
 | false=>
  rw [if_neg Bool.false_ne_true]
  refine kasC_bind (bi (λk z st'=>st'=st/\z.1=none/\z.2.1<z.2.2/\z.2.1<=hint/\g (hint-z.2.1)=false/\n+1<=z.2.2+k) ⟨rfl,rfl,Nat.zero_lt_one,Nat.zero_le _,e0,by show n+1<=1+(n-0); omega⟩ ?_ ?_)
  ·rintro k x ⟨r,a,b⟩ st' ⟨rfl,rfl,a1,a2,a3,a5⟩
   dsimp only at *
   unfold gFar
   dsimp only
   by_cases hb:b ≥ hint+1
   ·rw [if_pos hb]
    refine kasC_pure ⟨rfl,?_⟩
    dsimp only
    exact gG hB mono (by omega) (by omega) (λi hi=>by omega) (λi h1 h2=>down _ (by omega) a3 i h1 h2) q
   ·rw [if_neg hb]
    refine kasC_bind (hB _ _ (by omega) ?_)
    dsimp only [id]
    cases e:g (hint-b) with
    | true=>
     rw [if_pos rfl]
     refine kasC_pure ⟨rfl,?_⟩
     dsimp only
     exact gG hB mono (by omega) (by omega) (λi hi=>up _ (by omega) e i (by omega)) (λi h1 h2=>down _ (by omega) a3 i h1 h2) q
    | false=>
     rw [if_neg (by decide)]
     exact kasC_pure ⟨rfl,rfl,rfl,by show b<2*b+1; omega,by show b<=hint; omega,e,by show n+1<=2*b+1+k; omega⟩
  ·rintro ⟨r,a,b⟩ st' ⟨rfl,rfl,a1,a2,a3,a5⟩
   dsimp only at *
   exact gG hB mono (by omega) (by omega) (λi hi=>by omega) (λi h1 h2=>down _ (by omega) a3 i h1 h2) q
end
structure Mg (c:Nat->Nat->Bool) (all lo ra rb:List Nat):Prop where
 perm:(lo++(ra++rb)).Perm all
 so:lo.Pairwise λx y=>c x y=true
 lt:∀ x ∈ lo,∀ y ∈ ra++rb,c x y=true
 sa:ra.Pairwise λx y=>c x y=true
 sb:rb.Pairwise λx y=>c x y=true
def Trn (N:Nat) (c:Nat->Nat->Bool):Prop:=∀ i j k,i<N->j<N->k<N->c i j=true->c j k=true->c i k=true
section
variable {c:Nat->Nat->Bool} {all lo ra rb xs:List Nat} {x y N:Nat}
theorem Mg.swap (h:Mg c all lo ra rb):Mg c all lo rb ra:=
 ⟨((List.perm_append_comm).append_left lo).trans h.perm,h.so,λx hx y hy=>h.lt x hx y (List.mem_append.mpr (List.mem_append.mp hy).symm),h.sb,h.sa⟩
theorem Mg.push (T:Trn N c) (hN:∀ z ∈ all,z<N) (h:Mg c all lo (x::ra) (y::rb)) (hc:c x y=true):Mg c all (lo++[x]) ra (y::rb):=by
 have mem:∀ z,z ∈ lo++((x::ra)++(y::rb))->z<N:=λz hz=>hN z (h.perm.mem_iff.mp hz)
 have hx:=mem x (by simp)
 have hy:=mem y (by simp)
 refine ⟨?_,?_,?_,(List.pairwise_cons.mp h.sa).2,h.sb⟩
 ·rw [append_assoc]
  exact h.perm
 ·rw [pairwise_append]
  refine ⟨h.so,pairwise_singleton _ _,λa ha b hb=>?_⟩
  rw [List.mem_singleton.mp hb]
  exact h.lt a ha x (by simp)
 ·intro a ha b hb
  rcases List.mem_append.mp ha with ha | ha
  ·exact h.lt a ha b (by
    rcases List.mem_append.mp hb with hb | hb
    ·simp [hb]
    ·exact mem_append_right _ hb)
  ·rw [List.mem_singleton.mp ha]
   rcases List.mem_append.mp hb with hb | hb
   ·exact (List.pairwise_cons.mp h.sa).1 b hb
   ·rcases List.mem_cons.mp hb with rfl | hb
    ·exact hc
    ·exact T x y b hx hy (mem b (by simp [hb])) hc ((List.pairwise_cons.mp h.sb).1 b hb)
theorem Mg.pushes (T:Trn N c) (hN:∀ z ∈ all,z<N):∀ {xs lo},Mg c all lo (xs++ra) (y::rb)->(∀ x ∈ xs,c x y=true)->Mg c all (lo++xs) ra (y::rb)
 | [],lo,h,_=>by rw [append_nil]; exact h
 | x::xs,lo,h,hc=>by
  have:=Mg.pushes T hN (xs:=xs) (h.push T hN (hc x (by simp))) λz hz=>hc z (by simp [hz])
  rw [append_assoc] at this
  exact this
theorem Mg.fin (h:Mg c all lo ra []):(lo++ra).Perm all/\(lo++ra).Pairwise λx y=>c x y=true:=by
 have p:=h.perm
 rw [append_nil] at p
 refine ⟨p,List.pairwise_append.mpr ⟨h.so,h.sa,λa ha b hb=>h.lt a ha b (mem_append_left _ hb)⟩⟩
theorem Mg.last (h:Mg c all lo [x] rb) (hx:∀ y ∈ rb,c y x=true):(lo++rb++[x]).Perm all/\(lo++rb++[x]).Pairwise λx y=>c x y=true:=by
 refine ⟨?_,?_⟩
 ·rw [append_assoc]
  exact ((List.perm_append_comm).append_left lo).trans h.perm
 ·rw [pairwise_append,pairwise_append]
  refine ⟨⟨h.so,h.sb,λa ha b hb=>h.lt a ha b (by simp [hb])⟩,pairwise_singleton _ _,λa ha b hb=>?_⟩
  rw [List.mem_singleton.mp hb]
  rcases List.mem_append.mp ha with ha | ha
  ·exact h.lt a ha x (by simp)
  ·exact hx a ha
end
section
variable {prog:Program} {w:World} {A:Around} {E:Value->Shared->Prop} {κ:SortKind} {it:Array Keyed} {n:Nat} {c:Nat->Nat->Bool} {s:Shared} {st:SortSt}
theorem bH (q:Array Nat) {i:Nat} (h:i<q.size):q.toList.drop i=q.getD i 0::q.toList.drop (i+1):=by
 have e:q.getD i 0=q[i]:=by simp [Array.getD,h]
 rw [e,List.drop_eq_getElem_cons (by rw [Array.length_toList]; exact h)]
 simp
theorem b8 (ans:Ans prog w A κ it n c s) (T:Trn n c) (hk:kindOf st=κ) {q:Array Nat} {l:Bool} {j o m hint:Nat} (hj:j<n) (hq:∀ x ∈ q.toList,x<n) (hm:o+m<=q.size) (hh:hint<m)
  (so:∀ i i',i<i'->i' < m->c (q.getD (o+i) 0) (q.getD (o+i') 0)=true) {Q:Option Nat->SortSt->Shared->Prop}
  (h:∀ k,k<=m->(∀ i,i<k->(if l=true then c (q.getD (o+i) 0) j else !c j (q.getD (o+i) 0))=true)->(∀ i,k<=i->i<m->(if l=true then c (q.getD (o+i) 0) j else !c j (q.getD (o+i) 0))=false)->Q (some k) st s) :
  kasC (model prog w) A E (gallop' l (kas_item it j) (q.map (kas_item it)) o m hint) Q st s:=by
 have lo:∀ i,i<m->q.getD (o+i) 0<n:=λi hi=>hq _ (by
  have e:q.getD (o+i) 0=q[o+i]:=by simp [Array.getD,show o+i<q.size by omega]
  rw [e,Array.mem_toList_iff]
  exact Array.getElem_mem _)
 rw [gallop_form]
 refine gAll_c (g:=λi=>if l=true then c (q.getD (o+i) 0) j else !c j (q.getD (o+i) 0)) (λi Q hi hQ=>?_) (λi i' hi hi' e=>?_) hh h
 ·unfold gAsk
  refine kasC_bind (aD (by omega) ?_)
  cases l with
  | true=>exact ans.lt hk (lo i hi) hj hQ
  | false=>exact kasC_bind (ans.lt hk hj (lo i hi) (kasC_pure hQ))
 ·have ii:=so i i' hi hi'
  cases l with
  | true=>exact T _ _ _ (lo i (by omega)) (lo i' hi') hj ii e
  | false=>
   cases z:c j (q.getD (o+i) 0) with
   | false=>rfl
   | true=>
    have:=T _ _ _ hj (lo i (by omega)) (lo i' hi') z ii
    have e:(!c j (q.getD (o+i') 0))=true:=e
    rw [this] at e
    cases e
end
def mergeLo':Array Keyed->Array Keyed->SM (Array Keyed):=sortPriv% PySem.Builtin.mergeLo
abbrev gal (st:SortSt) (g:Nat):SortSt:=SortSt.mk' (kindOf st) (arrOf st) (pendingOf st) g (failedOf st)
theorem aL {q:Array Nat} {i:Nat} (h:i<q.size):q.getD i 0 ∈ q.toList:=by
 have e:q.getD i 0=q[i]:=by simp [Array.getD,h]
 rw [e,Array.mem_toList_iff]
 exact Array.getElem_mem _
structure Two (n:Nat) (c:Nat->Nat->Bool) (pa pb:Array Nat):Prop where
 tr:Trn n c
 N:∀ x ∈ pa.toList++pb.toList,x<n
 sa:pa.toList.Pairwise λx y=>c x y=true
 sb:pb.toList.Pairwise λx y=>c x y=true
 ot:∀ x ∈ pa.toList,∀ y ∈ pb.toList,c y x=false->c x y=true
 ha:0<pa.size
 hb:0<pb.size
def i5 (it:Array Keyed) (c:Nat->Nat->Bool) (all:List Nat) (r:Array Keyed):Prop:=∃ pm:Array Nat,r=pm.map (kas_item it)/\pm.toList.Perm all/\pm.toList.Pairwise λx y=>c x y=true
def Ru (it:Array Keyed) (c:Nat->Nat->Bool) (pa pb:Array Nat) (out:Array Keyed) (ia ib:Nat):Prop:=
 ∃ po:Array Nat,out=po.map (kas_item it)/\Mg c (pa.toList++pb.toList) po.toList (pa.toList.drop ia) (pb.toList.drop ib)
section
variable {it:Array Keyed} {n:Nat} {c:Nat->Nat->Bool} {pa pb:Array Nat} {out:Array Keyed} {ia ib k:Nat}
theorem ff (q:Array Nat) (i:Nat):(q.extract i q.size).toList=q.toList.drop i:=by
 rw [Array.toList_extract,extract_eq_take_drop,take_of_length_le]
 rw [length_drop,Array.length_toList]
 exact Nat.le_refl _
theorem fw (q:Array Nat) {i k:Nat}:(q.extract i (i+k)).toList=(q.toList.drop i).take k:=by
 rw [Array.toList_extract,extract_eq_take_drop,Nat.add_sub_cancel_left]
theorem Ru.done (h:Ru it c pa pb out ia ib) (e:pb.size<=ib\/pa.size<=ia):i5 it c (pa.toList++pb.toList) (out++(pa.map (kas_item it)).extract ia (pa.map (kas_item it)).size++(pb.map (kas_item it)).extract ib (pb.map (kas_item it)).size):=by
 obtain ⟨po,rfl,m⟩:=h
 refine ⟨po++pa.extract ia pa.size++pb.extract ib pb.size,?_,?_⟩
 ·rw [Array.size_map,Array.size_map]
  simp only [Array.map_append,Array.map_extract]
 ·rw [Array.toList_append,Array.toList_append,ff,ff]
  rcases e with e | e
  ·rw [show pb.toList.drop ib=[] from drop_eq_nil_of_le (by rw [Array.length_toList]; exact e)] at m ⊢
   rw [append_nil]
   exact m.fin
  ·rw [show pa.toList.drop ia=[] from drop_eq_nil_of_le (by rw [Array.length_toList]; exact e)] at m ⊢
   rw [append_nil]
   exact m.swap.fin.imp (λp=>p) λp=>p
theorem Ru.last (h:Ru it c pa pb out ia ib) (e:ia+1=pa.size) (h1:∀ y ∈ pb.toList,c y (pa.getD (pa.size-1) 0)=true):i5 it c (pa.toList++pb.toList) (out++(pb.map (kas_item it)).extract ib (pb.map (kas_item it)).size++(pa.map (kas_item it)).extract ia (pa.map (kas_item it)).size):=by
 obtain ⟨po,rfl,m⟩:=h
 refine ⟨po++pb.extract ib pb.size++pa.extract ia pa.size,?_,?_⟩
 ·rw [Array.size_map,Array.size_map]
  simp only [Array.map_append,Array.map_extract]
 ·rw [Array.toList_append,Array.toList_append,ff,ff]
  have ed:pa.toList.drop ia=[pa.getD (pa.size-1) 0]:=by
   rw [bH pa (by omega),show pa.toList.drop (ia+1)=[] from drop_eq_nil_of_le (by rw [Array.length_toList]; omega),show pa.size-1=ia by omega]
  rw [ed] at m ⊢
  exact m.last λy hy=>h1 y (List.mem_of_mem_drop hy)
theorem Ru.b (W:Two n c pa pb) (h:Ru it c pa pb out ia ib) (hi:ia<pa.size) (hb:ib<pb.size) (e:c (pb.getD ib 0) (pa.getD ia 0)=true):Ru it c pa pb (out.push (kas_item it (pb.getD ib 0))) ia (ib+1):=by
 obtain ⟨po,rfl,m⟩:=h
 refine ⟨po.push (pb.getD ib 0),by rw [Array.map_push],?_⟩
 rw [Array.toList_push]
 rw [bH pa hi,bH pb hb] at m
 rw [bH pa hi]
 exact (m.swap.push W.tr W.N e).swap
theorem Ru.a (W:Two n c pa pb) (h:Ru it c pa pb out ia ib) (hi:ia<pa.size) (hb:ib<pb.size) (e:c (pa.getD ia 0) (pb.getD ib 0)=true):Ru it c pa pb (out.push (kas_item it (pa.getD ia 0))) (ia+1) ib:=by
 obtain ⟨po,rfl,m⟩:=h
 refine ⟨po.push (pa.getD ia 0),by rw [Array.map_push],?_⟩
 rw [Array.toList_push]
 rw [bH pa hi,bH pb hb] at m
 rw [bH pb hb]
 exact m.push W.tr W.N e
theorem mem_part {q:Array Nat} {i k x:Nat} (hk:i+k<=q.size) (h:x ∈ (q.toList.drop i).take k):∃ j,j<k/\x=q.getD (i+j) 0:=by
 obtain ⟨j,hj,rfl⟩:=List.mem_iff_getElem.mp h
 rw [length_take,length_drop,Array.length_toList] at hj
 refine ⟨j,by omega,?_⟩
 have:i+j<q.size:=by omega
 rw [List.getElem_take,List.getElem_drop]
 simp [Array.getD,this]
theorem kF (q:Array Nat) (i k:Nat):q.toList.drop i=(q.toList.drop i).take k++q.toList.drop (i+k):=by
 rw [<- drop_drop]
 exact (take_append_drop _ _).symm
theorem Ru.as (W:Two n c pa pb) (h:Ru it c pa pb out ia ib) (hi:ia+k<=pa.size) (hb:ib<pb.size) (e:∀ i,i<k->c (pa.getD (ia+i) 0) (pb.getD ib 0)=true):Ru it c pa pb (out++(pa.map (kas_item it)).extract ia (ia+k)) (ia+k) ib:=by
 obtain ⟨po,rfl,m⟩:=h
 refine ⟨po++pa.extract ia (ia+k),by simp only [Array.map_append,Array.map_extract],?_⟩
 rw [Array.toList_append,fw]
 rw [kF pa ia k,bH pb hb] at m
 rw [bH pb hb]
 refine m.pushes W.tr W.N λx hx=>?_
 obtain ⟨j,hj,rfl⟩:=mem_part hi hx
 exact e j hj
theorem Ru.bs (W:Two n c pa pb) (h:Ru it c pa pb out ia ib) (hi:ib+k<=pb.size) (ha:ia<pa.size) (e:∀ i,i<k->c (pb.getD (ib+i) 0) (pa.getD ia 0)=true):Ru it c pa pb (out++(pb.map (kas_item it)).extract ib (ib+k)) ia (ib+k):=by
 obtain ⟨po,rfl,m⟩:=h
 refine ⟨po++pb.extract ib (ib+k),by simp only [Array.map_append,Array.map_extract],?_⟩
 rw [Array.toList_append,fw]
 rw [kF pb ib k,bH pa ha] at m
 rw [bH pa ha]
 refine (m.swap.pushes W.tr W.N λx hx=>?_).swap
 obtain ⟨j,hj,rfl⟩:=mem_part hi hx
 exact e j hj
theorem ki {q:Array Nat} (h:q.toList.Pairwise λx y=>c x y=true) {i j:Nat} (hij:i<j) (hj:j<q.size):c (q.getD i 0) (q.getD j 0)=true:=by
 have:=(List.pairwise_iff_getElem.mp h) i j (by rw [Array.length_toList]; omega) (by rw [Array.length_toList]; exact hj) hij
 simpa [Array.getD,hj,show i<q.size by omega] using this
end
section
variable {prog:Program} {w:World} {A:Around} {E:Value->Shared->Prop} {κ:SortKind} {it:Array Keyed} {n:Nat} {c:Nat->Nat->Bool} {s:Shared} {st:SortSt}
theorem aR {α σ:Type} {M:Model} {m:StateT σ Sem α} {P Q:α->σ->Shared->Prop} {st:σ} (h:kasC M A E m P st s) (hq:∀ a st' s',P a st' s'->Q a st' s'):kasC M A E m Q st s:=
 wpAny_mono h (λr s' z=>hq r.1 r.2 s' z) λ_ _ e=>e
theorem mergeLo_c (ans:Ans prog w A κ it n c s) {pa pb:Array Nat} (W:Two n c pa pb) (hk:kindOf st=κ) (h0:c (pb.getD 0 0) (pa.getD 0 0)=true) (h1:∀ y ∈ pb.toList,c y (pa.getD (pa.size-1) 0)=true) {Q:Array Keyed->SortSt->Shared->Prop} (q:∀ r g,i5 it c (pa.toList++pb.toList) r->Q r (gal st g) s) :
  kasC (model prog w) A E (mergeLo' (pa.map (kas_item it)) (pb.map (kas_item it))) Q st s:=by
 have ha:=W.ha
 have hb:=W.hb
 have r0:Ru it c pa pb #[kas_item it (pb.getD 0 0)] 0 1:=Ru.b (out:=#[]) W ⟨#[],by simp,by simp,by simp,by simp,by simpa using W.sa,by simpa using W.sb⟩ ha hb h0
 refine kasC_bind (kasC_lift (wpAny_rule ?_))
 refine kasC_bind (aD hb ?_)
 dsimp only
 by_cases e1:(1 == (pb.map (kas_item it)).size)=true
 ·rw [if_pos e1]
  exact kasC_pure (q _ (gallopOf st) (r0.done (.inl (by rw [beq_iff_eq,Array.size_map] at e1; omega))))
 rw [if_neg e1]
 by_cases e2:(0+1 == (pa.map (kas_item it)).size)=true
 ·rw [if_pos e2]
  exact kasC_pure (q _ (gallopOf st) (r0.last (by rw [beq_iff_eq,Array.size_map] at e2; omega) h1))
 rw [if_neg e2]
 have z1:1<pb.size:=by
  have:¬ 1=pb.size:=λz=>e1 (by rw [Array.size_map,<- z]; rfl)
  omega
 have z2:1<pa.size:=by
  have:¬ 1=pa.size:=λz=>e2 (by rw [Array.size_map,<- z]; rfl)
  omega
 refine kasC_bind (kasC_get ?_)
 refine kasC_bind (bi (λk z st'=>(∃ g,st'=gal st g)/\z.1=none/\Ru it c pa pb z.2.1 z.2.2.1 z.2.2.2.1/\z.2.2.1+1<pa.size/\z.2.2.2.1<pb.size/\(pa.size-z.2.2.1)+(pb.size-z.2.2.2.1)<=k) ⟨⟨gallopOf st,rfl⟩,rfl,r0,z2,z1,by simp only [Array.size_map]; omega⟩ ?_ ?_)
 rotate_left
 ·rintro ⟨r,out,ia,ib,mg⟩ st' ⟨⟨g,rfl⟩,rfl,r1,l1,l2,l3⟩
  dsimp only at *
  omega
 ·rintro k x ⟨r,out,ia,ib,mg⟩ st' ⟨⟨g,rfl⟩,rfl,r1,l1,l2,l3⟩
  dsimp only at *
  refine kasC_bind (aR (P:=λz st' s'=>s'=s/\st'=gal st g/\((∃ r,z.1=some r/\i5 it c (pa.toList++pb.toList) r)\/(z.1=none/\Ru it c pa pb z.2.1 z.2.2.1 z.2.2.2.1/\z.2.2.1+1<pa.size/\z.2.2.2.1<pb.size/\(pa.size-z.2.2.1)+(pb.size-z.2.2.2.1)<=k))) ?_ ?_)
  ·refine bi (λk' z st'=>st'=gal st g/\z.1=none/\Ru it c pa pb z.2.1 z.2.2.1 z.2.2.2.1/\z.2.2.1+1<pa.size/\z.2.2.2.1<pb.size/\(pa.size-z.2.2.1)+(pb.size-z.2.2.2.1)<=k+1/\(k' < pa.size+pb.size->(pa.size-z.2.2.1)+(pb.size-z.2.2.2.1)<=k)) ⟨rfl,rfl,r1,l1,l2,l3,λh=>by simp only [Array.size_map] at h; omega⟩ ?_ ?_
   rotate_left
   ·rintro ⟨r,out,ia,ib,ac,bc⟩ st' ⟨rfl,rfl,r2,b1,b2,b3,b4⟩
    exact ⟨rfl,rfl,.inr ⟨rfl,r2,b1,b2,b4 (by omega)⟩⟩
   ·rintro k' x' ⟨r,out,ia,ib,ac,bc⟩ st' ⟨rfl,rfl,r2,b1,b2,b3,b4⟩
    dsimp only at *
    refine kasC_bind (aD b2 ?_)
    refine kasC_bind (aD (by omega) ?_)
    have ma:=aL (q:=pa) (i:=ia) (by omega)
    have mb:=aL (q:=pb) (i:=ib) b2
    refine kasC_bind (ans.lt (st:=gal st g) hk (W.N _ (mem_append_right _ mb)) (W.N _ (mem_append_left _ ma)) ?_)
    dsimp only
    cases ec:c (pb.getD ib 0) (pa.getD ia 0) with
    | true=>
     rw [if_pos rfl]
     refine kasC_bind (aD b2 ?_)
     have r3:=r2.b W (by omega) b2 ec
     by_cases e3:(ib+1 == (pb.map (kas_item it)).size)=true
     ·rw [if_pos e3]
      exact kasC_pure ⟨rfl,rfl,rfl,.inl ⟨_,rfl,r3.done (.inl (by rw [beq_iff_eq,Array.size_map] at e3; omega))⟩⟩
     ·rw [if_neg e3]
      have:ib+1 ≠ pb.size:=λz=>e3 (by rw [Array.size_map,<- z]; exact beq_self_eq_true _)
      by_cases e4:bc+1 ≥ mg
      ·rw [if_pos e4]
       exact kasC_pure ⟨rfl,rfl,rfl,.inr ⟨rfl,r3,b1,by show ib+1<pb.size; omega,by show pa.size-ia+(pb.size-(ib+1))<=k; omega⟩⟩
      ·rw [if_neg e4]
       exact kasC_pure ⟨rfl,rfl,rfl,r3,b1,by show ib+1<pb.size; omega,by show pa.size-ia+(pb.size-(ib+1))<=k+1; omega,λ_=>by show pa.size-ia+(pb.size-(ib+1))<=k; omega⟩
    | false=>
     rw [if_neg Bool.false_ne_true]
     refine kasC_bind (aD (by omega) ?_)
     have r3:=r2.a W (by omega) b2 (W.ot _ ma _ mb ec)
     by_cases e3:(ia+1+1 == (pa.map (kas_item it)).size)=true
     ·rw [if_pos e3]
      exact kasC_pure ⟨rfl,rfl,rfl,.inl ⟨_,rfl,r3.last (by rw [beq_iff_eq,Array.size_map] at e3; omega) h1⟩⟩
     ·rw [if_neg e3]
      have:ia+1+1 ≠ pa.size:=λz=>e3 (by rw [Array.size_map,<- z]; exact beq_self_eq_true _)
      by_cases e4:ac+1 ≥ mg
      ·rw [if_pos e4]
       exact kasC_pure ⟨rfl,rfl,rfl,.inr ⟨rfl,r3,by show ia+1+1<pa.size; omega,b2,by show pa.size-(ia+1)+(pb.size-ib)<=k; omega⟩⟩
      ·rw [if_neg e4]
       exact kasC_pure ⟨rfl,rfl,rfl,r3,by show ia+1+1<pa.size; omega,b2,by show pa.size-(ia+1)+(pb.size-ib)<=k+1; omega,λ_=>by show pa.size-(ia+1)+(pb.size-ib)<=k; omega⟩
  ·rintro ⟨r,out,ia,ib,ac,bc⟩ st' s' ⟨es,rfl,h⟩
   subst s'
   rcases h with ⟨r,rfl,hd⟩ | ⟨rfl,r2,b1,b2,b3⟩
   ·exact kasC_pure ⟨rfl,kasC_pure (q r g hd)⟩
   dsimp only at *
   refine kasC_bind (kasC_lift (wpAny_rule ?_))
   refine kasC_bind (aR (P:=λz st' s'=>s'=s/\∃ g,st'=gal st g/\((∃ r,z.1=some r/\i5 it c (pa.toList++pb.toList) r)\/(z.1=none/\Ru it c pa pb z.2.1 z.2.2.1 z.2.2.2.1/\z.2.2.1+1<pa.size/\z.2.2.2.1<pb.size/\(pa.size-z.2.2.1)+(pb.size-z.2.2.2.1)<=k))) ?_ ?_)
   rotate_left
   ·rintro ⟨r,out,ia,ib,mg,ac,bc⟩ st' s' ⟨es,g',rfl,h⟩
    subst s'
    rcases h with ⟨r,rfl,hd⟩ | ⟨rfl,r2,b1,b2,b3⟩
    ·exact kasC_pure ⟨rfl,kasC_pure (q r g' hd)⟩
    ·exact kasC_bind (kasC_modify (kasC_pure ⟨rfl,⟨_,rfl⟩,rfl,r2,b1,b2,b3⟩))
   ·refine bi (λk' z st'=>(∃ g,st'=gal st g)/\z.1=none/\Ru it c pa pb z.2.1 z.2.2.1 z.2.2.2.1/\z.2.2.1+1<pa.size/\z.2.2.2.1<pb.size/\(pa.size-z.2.2.1)+(pb.size-z.2.2.2.1)<=k) ⟨⟨g,rfl⟩,rfl,r2,b1,b2,b3⟩ ?_ ?_
    rotate_left
    ·rintro ⟨r,out,ia,ib,mg,ac,bc⟩ st' ⟨⟨g',rfl⟩,rfl,r2,b1,b2,b3⟩
     exact ⟨rfl,g',rfl,.inr ⟨rfl,r2,b1,b2,b3⟩⟩
    ·rintro k' x' ⟨r,out,ia,ib,mg,ac,bc⟩ st' ⟨⟨g',rfl⟩,rfl,r2,b1,b2,b3⟩
     dsimp only at *
     by_cases hmg:mg > 1
     rw [if_pos hmg]
     rotate_left
     rw [if_neg hmg]
     all_goals
      refine kasC_bind (kasC_modify ?_)
      refine kasC_bind (aD b2 ?_)
      refine kasC_bind (b8 (q:=pa) (l:=false) (o:=ia) (m:=(pa.map (kas_item it)).size-ia) (hint:=0) ans W.tr (by exact hk) (W.N _ (mem_append_right _ (aL b2))) (λx hx=>W.N x (mem_append_left _ hx)) (by rw [Array.size_map]; omega) (by rw [Array.size_map]; omega) (λi i' hi hi'=>ki W.sa (by omega) (by rw [Array.size_map] at hi'; omega)) λk1 hk1 g1 g2=>?_)
      rw [Array.size_map] at hk1 g2
      dsimp only
      have g1:∀ i,i<k1->c (pa.getD (ia+i) 0) (pb.getD ib 0)=true:=λi hi=>W.ot _ (aL (by omega)) _ (aL b2) (by have:=g1 i hi; simpa using this)
      have g2:∀ i,k1<=i->ia+i<pa.size->c (pb.getD ib 0) (pa.getD (ia+i) 0)=true:=λi hi hl=>by have:=g2 i hi (by omega); simpa using this
      by_cases hk0:k1 > 0
      ·rw [if_pos hk0]
       have r3:=r2.as (k:=k1) W (by omega) b2 g1
       by_cases e3:(ia+k1+1 == (pa.map (kas_item it)).size)=true
       ·rw [if_pos e3]
        exact kasC_pure ⟨rfl,rfl,_,rfl,.inl ⟨_,rfl,r3.last (by rw [beq_iff_eq,Array.size_map] at e3; omega) h1⟩⟩
       rw [if_neg e3]
       have n3:ia+k1+1 ≠ pa.size:=λz=>e3 (by rw [Array.size_map,<- z]; exact beq_self_eq_true _)
       by_cases e7:(ia+k1 == (pa.map (kas_item it)).size)=true
       ·rw [if_pos e7]
        exact kasC_pure ⟨rfl,rfl,_,rfl,.inl ⟨_,rfl,r3.done (.inr (by rw [beq_iff_eq,Array.size_map] at e7; omega))⟩⟩
       rw [if_neg e7]
       have n7:ia+k1 ≠ pa.size:=λz=>e7 (by rw [Array.size_map,<- z]; exact beq_self_eq_true _)
       have ec1:=g2 k1 (Nat.le_refl _) (by omega)
       have r4:=r3.b W (by omega) b2 ec1
       refine kasC_bind (aD b2 ?_)
       by_cases e4:(ib+1 == (pb.map (kas_item it)).size)=true
       ·rw [if_pos e4]
        exact kasC_pure ⟨rfl,rfl,_,rfl,.inl ⟨_,rfl,r4.done (.inl (by rw [beq_iff_eq,Array.size_map] at e4; omega))⟩⟩
       rw [if_neg e4]
       have n4:ib+1 ≠ pb.size:=λz=>e4 (by rw [Array.size_map,<- z]; exact beq_self_eq_true _)
       refine kasC_bind (aD (by omega) ?_)
       refine kasC_bind (b8 (q:=pb) (l:=true) (o:=ib+1) (m:=(pb.map (kas_item it)).size-(ib+1)) (hint:=0) ans W.tr (by exact hk) (W.N _ (mem_append_left _ (aL (by omega)))) (λx hx=>W.N x (mem_append_right _ hx)) (by rw [Array.size_map]; omega) (by rw [Array.size_map]; omega) (λi i' hi hi'=>ki W.sb (by omega) (by rw [Array.size_map] at hi'; omega)) λk2 hk2 g3 g4=>?_)
       rw [Array.size_map] at hk2 g4
       dsimp only
       by_cases hk3:k2 > 0
       ·rw [if_pos hk3]
        have r5:=r4.bs (k:=k2) W (by omega) (by omega) g3
        by_cases e5:(ib+1+k2 == (pb.map (kas_item it)).size)=true
        ·rw [if_pos e5]
         exact kasC_pure ⟨rfl,rfl,_,rfl,.inl ⟨_,rfl,r5.done (.inl (by rw [beq_iff_eq,Array.size_map] at e5; omega))⟩⟩
        rw [if_neg e5]
        have n5:ib+1+k2 ≠ pb.size:=λz=>e5 (by rw [Array.size_map,<- z]; exact beq_self_eq_true _)
        have ec2:=g4 k2 (Nat.le_refl _) (by omega)
        refine kasC_bind (aD (by omega) ?_)
        have r6:=r5.a W (by omega) (by omega) (W.ot _ (aL (by omega)) _ (aL (by omega)) ec2)
        by_cases e6:(ia+k1+1+1 == (pa.map (kas_item it)).size)=true
        ·rw [if_pos e6]
         exact kasC_pure ⟨rfl,rfl,_,rfl,.inl ⟨_,rfl,r6.last (by rw [beq_iff_eq,Array.size_map] at e6; omega) h1⟩⟩
        ·rw [if_neg e6]
         have n6:ia+k1+1+1 ≠ pa.size:=λz=>e6 (by rw [Array.size_map,<- z]; exact beq_self_eq_true _)
         have d6:pa.size-(ia+k1+1)+(pb.size-(ib+1+k2))<=k:=by omega
         by_cases e8:(decide (k1<7) && decide (k2<7))=true
         ·rw [if_pos e8]; exact kasC_pure ⟨rfl,rfl,_,rfl,.inr ⟨rfl,r6,by show ia+k1+1+1<pa.size; omega,by show ib+1+k2<pb.size; omega,d6⟩⟩
         ·rw [if_neg e8]; exact kasC_pure ⟨rfl,⟨_,rfl⟩,rfl,r6,by show ia+k1+1+1<pa.size; omega,by show ib+1+k2<pb.size; omega,d6⟩
       ·rw [if_neg hk3]
        have ec2:=g4 0 (by omega) (by omega)
        refine kasC_bind (aD (by omega) ?_)
        have r6:=r4.a W (by omega) (by omega) (W.ot _ (aL (by omega)) _ (aL (by omega)) ec2)
        by_cases e6:(ia+k1+1+1 == (pa.map (kas_item it)).size)=true
        ·rw [if_pos e6]
         exact kasC_pure ⟨rfl,rfl,_,rfl,.inl ⟨_,rfl,r6.last (by rw [beq_iff_eq,Array.size_map] at e6; omega) h1⟩⟩
        ·rw [if_neg e6]
         have n6:ia+k1+1+1 ≠ pa.size:=λz=>e6 (by rw [Array.size_map,<- z]; exact beq_self_eq_true _)
         have d6:pa.size-(ia+k1+1)+(pb.size-(ib+1))<=k:=by omega
         by_cases e8:(decide (k1<7) && decide (k2<7))=true
         ·rw [if_pos e8]; exact kasC_pure ⟨rfl,rfl,_,rfl,.inr ⟨rfl,r6,by show ia+k1+1+1<pa.size; omega,by show ib+1<pb.size; omega,d6⟩⟩
         ·rw [if_neg e8]; exact kasC_pure ⟨rfl,⟨_,rfl⟩,rfl,r6,by show ia+k1+1+1<pa.size; omega,by show ib+1<pb.size; omega,d6⟩
      ·rw [if_neg hk0]
       have ec1:=g2 0 (by omega) (by omega)
       have r4:=r2.b W (by omega) b2 ec1
       refine kasC_bind (aD b2 ?_)
       by_cases e4:(ib+1 == (pb.map (kas_item it)).size)=true
       ·rw [if_pos e4]
        exact kasC_pure ⟨rfl,rfl,_,rfl,.inl ⟨_,rfl,r4.done (.inl (by rw [beq_iff_eq,Array.size_map] at e4; omega))⟩⟩
       rw [if_neg e4]
       have n4:ib+1 ≠ pb.size:=λz=>e4 (by rw [Array.size_map,<- z]; exact beq_self_eq_true _)
       refine kasC_bind (aD (by omega) ?_)
       refine kasC_bind (b8 (q:=pb) (l:=true) (o:=ib+1) (m:=(pb.map (kas_item it)).size-(ib+1)) (hint:=0) ans W.tr (by exact hk) (W.N _ (mem_append_left _ (aL (by omega)))) (λx hx=>W.N x (mem_append_right _ hx)) (by rw [Array.size_map]; omega) (by rw [Array.size_map]; omega) (λi i' hi hi'=>ki W.sb (by omega) (by rw [Array.size_map] at hi'; omega)) λk2 hk2 g3 g4=>?_)
       rw [Array.size_map] at hk2 g4
       dsimp only
       by_cases hk3:k2 > 0
       ·rw [if_pos hk3]
        have r5:=r4.bs (k:=k2) W (by omega) (by omega) g3
        by_cases e5:(ib+1+k2 == (pb.map (kas_item it)).size)=true
        ·rw [if_pos e5]
         exact kasC_pure ⟨rfl,rfl,_,rfl,.inl ⟨_,rfl,r5.done (.inl (by rw [beq_iff_eq,Array.size_map] at e5; omega))⟩⟩
        rw [if_neg e5]
        have n5:ib+1+k2 ≠ pb.size:=λz=>e5 (by rw [Array.size_map,<- z]; exact beq_self_eq_true _)
        have ec2:=g4 k2 (Nat.le_refl _) (by omega)
        refine kasC_bind (aD (by omega) ?_)
        have r6:=r5.a W (by omega) (by omega) (W.ot _ (aL (by omega)) _ (aL (by omega)) ec2)
        by_cases e6:(ia+1+1 == (pa.map (kas_item it)).size)=true
        ·rw [if_pos e6]
         exact kasC_pure ⟨rfl,rfl,_,rfl,.inl ⟨_,rfl,r6.last (by rw [beq_iff_eq,Array.size_map] at e6; omega) h1⟩⟩
        ·rw [if_neg e6]
         have n6:ia+1+1 ≠ pa.size:=λz=>e6 (by rw [Array.size_map,<- z]; exact beq_self_eq_true _)
         have d6:pa.size-(ia+1)+(pb.size-(ib+1+k2))<=k:=by omega
         by_cases e8:(decide (k1<7) && decide (k2<7))=true
         ·rw [if_pos e8]; exact kasC_pure ⟨rfl,rfl,_,rfl,.inr ⟨rfl,r6,by show ia+1+1<pa.size; omega,by show ib+1+k2<pb.size; omega,d6⟩⟩
         ·rw [if_neg e8]; exact kasC_pure ⟨rfl,⟨_,rfl⟩,rfl,r6,by show ia+1+1<pa.size; omega,by show ib+1+k2<pb.size; omega,d6⟩
       ·rw [if_neg hk3]
        have ec2:=g4 0 (by omega) (by omega)
        refine kasC_bind (aD (by omega) ?_)
        have r6:=r4.a W (by omega) (by omega) (W.ot _ (aL (by omega)) _ (aL (by omega)) ec2)
        by_cases e6:(ia+1+1 == (pa.map (kas_item it)).size)=true
        ·rw [if_pos e6]
         exact kasC_pure ⟨rfl,rfl,_,rfl,.inl ⟨_,rfl,r6.last (by rw [beq_iff_eq,Array.size_map] at e6; omega) h1⟩⟩
        ·rw [if_neg e6]
         have n6:ia+1+1 ≠ pa.size:=λz=>e6 (by rw [Array.size_map,<- z]; exact beq_self_eq_true _)
         have d6:pa.size-(ia+1)+(pb.size-(ib+1))<=k:=by omega
         by_cases e8:(decide (k1<7) && decide (k2<7))=true
         ·rw [if_pos e8]; exact kasC_pure ⟨rfl,rfl,_,rfl,.inr ⟨rfl,r6,by show ia+1+1<pa.size; omega,by show ib+1<pb.size; omega,d6⟩⟩
         ·rw [if_neg e8]; exact kasC_pure ⟨rfl,⟨_,rfl⟩,rfl,r6,by show ia+1+1<pa.size; omega,by show ib+1<pb.size; omega,d6⟩
end
def mergeHi':Array Keyed->Array Keyed->SM (Array Keyed):=sortPriv% PySem.Builtin.mergeHi
def Rh (it:Array Keyed) (c:Nat->Nat->Bool) (pa pb:Array Nat) (out:Array Keyed) (na nb:Nat):Prop:=
 ∃ po:Array Nat,out=po.map (kas_item it)/\Mg (λx y=>c y x) (pa.toList++pb.toList) po.toList (pa.toList.take na).reverse (pb.toList.take nb).reverse
section
variable {it:Array Keyed} {n:Nat} {c:Nat->Nat->Bool} {pa pb:Array Nat} {out:Array Keyed} {na nb k:Nat}
theorem Two.tr' (W:Two n c pa pb):Trn n (λx y=>c y x):=λi j k hi hj hk h1 h2=>W.tr k j i hk hj hi h2 h1
theorem bd (q:Array Nat) {i:Nat} (h:i<q.size):(q.toList.take (i+1)).reverse=q.getD i 0::(q.toList.take i).reverse:=by
 have e:q.getD i 0=q[i]:=by simp [Array.getD,h]
 rw [e,List.take_succ_eq_append_getElem (by rw [Array.length_toList]; exact h),reverse_append]
 simp
theorem fi (q:Array Nat) (i:Nat):(q.extract 0 i).toList=q.toList.take i:=by
 rw [Array.toList_extract,extract_eq_take_drop]
 simp
theorem Rh.done (h:Rh it c pa pb out na nb) (e:nb=0\/na=0):i5 it c (pa.toList++pb.toList) ((pa.map (kas_item it)).extract 0 na++(pb.map (kas_item it)).extract 0 nb++out.reverse):=by
 obtain ⟨po,rfl,m⟩:=h
 refine ⟨pa.extract 0 na++pb.extract 0 nb++po.reverse,?_,?_⟩
 ·simp only [Array.map_append,Array.map_extract,Array.map_reverse]
 ·rw [Array.toList_append,Array.toList_append,fi,fi,Array.toList_reverse]
  rcases e with rfl | rfl
  ·obtain ⟨p,q⟩:=m.fin
   rw [take_zero,append_nil]
   rw [show po.toList++(pa.toList.take na).reverse=(pa.toList.take na++po.toList.reverse).reverse by rw [reverse_append,reverse_reverse]] at p q
   exact ⟨(reverse_perm _).symm.trans p,List.pairwise_reverse.mp q⟩
  ·obtain ⟨p,q⟩:=m.swap.fin
   rw [take_zero,List.nil_append]
   rw [show po.toList++(pb.toList.take nb).reverse=(pb.toList.take nb++po.toList.reverse).reverse by rw [reverse_append,reverse_reverse]] at p q
   exact ⟨(reverse_perm _).symm.trans p,List.pairwise_reverse.mp q⟩
theorem Rh.first (h:Rh it c pa pb out na 1) (hb:0<pb.size) (h0:∀ y ∈ pa.toList,c (pb.getD 0 0) y=true):i5 it c (pa.toList++pb.toList) ((pb.map (kas_item it)).extract 0 1++(pa.map (kas_item it)).extract 0 na++out.reverse):=by
 obtain ⟨po,rfl,m⟩:=h
 refine ⟨pb.extract 0 1++pa.extract 0 na++po.reverse,?_,?_⟩
 ·simp only [Array.map_append,Array.map_extract,Array.map_reverse]
 ·rw [Array.toList_append,Array.toList_append,fi,fi,Array.toList_reverse]
  rw [bd pb hb,take_zero,List.reverse_nil] at m
  obtain ⟨p,q⟩:=m.swap.last λy hy=>h0 y (mem_of_mem_take (List.mem_reverse.mp hy))
  have e:po.toList++(pa.toList.take na).reverse++[pb.getD 0 0]=(pb.toList.take 1++pa.toList.take na++po.toList.reverse).reverse:=by
   rw [reverse_append,reverse_append,reverse_reverse,bd pb hb,take_zero,List.reverse_nil,append_assoc]
  rw [e] at p q
  exact ⟨(reverse_perm _).symm.trans p,List.pairwise_reverse.mp q⟩
theorem Rh.b (W:Two n c pa pb) (h:Rh it c pa pb out (na+1) (nb+1)) (hi:na<pa.size) (hb:nb<pb.size) (e:c (pa.getD na 0) (pb.getD nb 0)=true):Rh it c pa pb (out.push (kas_item it (pb.getD nb 0))) (na+1) nb:=by
 obtain ⟨po,rfl,m⟩:=h
 refine ⟨po.push (pb.getD nb 0),by rw [Array.map_push],?_⟩
 rw [Array.toList_push]
 rw [bd pa hi,bd pb hb] at m
 rw [bd pa hi]
 exact (m.swap.push W.tr' W.N e).swap
theorem Rh.a (W:Two n c pa pb) (h:Rh it c pa pb out (na+1) (nb+1)) (hi:na<pa.size) (hb:nb<pb.size) (e:c (pb.getD nb 0) (pa.getD na 0)=true):Rh it c pa pb (out.push (kas_item it (pa.getD na 0))) na (nb+1):=by
 obtain ⟨po,rfl,m⟩:=h
 refine ⟨po.push (pa.getD na 0),by rw [Array.map_push],?_⟩
 rw [Array.toList_push]
 rw [bd pa hi,bd pb hb] at m
 rw [bd pb hb]
 exact m.push W.tr' W.N e
theorem iN (q:Array Nat) (i j:Nat):(q.extract i j).toList=(q.toList.take j).drop i:=by
 rw [Array.toList_extract,extract_eq_take_drop,List.drop_take]
theorem kC (q:Array Nat) {i j:Nat} (h:i<=j):(q.toList.take j).reverse=((q.toList.take j).drop i).reverse++(q.toList.take i).reverse:=by
 rw [<- reverse_append,show q.toList.take i=(q.toList.take j).take i by rw [List.take_take,Nat.min_eq_left h],take_append_drop]
theorem lK {q:Array Nat} {i j x:Nat} (hj:j<=q.size) (h:x ∈ ((q.toList.take j).drop i).reverse):∃ l,i<=l/\l<j/\x=q.getD l 0:=by
 obtain ⟨l,hl,rfl⟩:=List.mem_iff_getElem.mp (List.mem_reverse.mp h)
 rw [length_drop,length_take,Array.length_toList] at hl
 refine ⟨i+l,by omega,by omega,?_⟩
 have:i+l<q.size:=by omega
 rw [List.getElem_drop,List.getElem_take]
 simp [Array.getD,this]
theorem Rh.as (W:Two n c pa pb) (h:Rh it c pa pb out na (nb+1)) (hk:k<=na) (hi:na<=pa.size) (hb:nb<pb.size) (e:∀ i,k<=i->i<na->c (pb.getD nb 0) (pa.getD i 0)=true):Rh it c pa pb (out++((pa.map (kas_item it)).extract k na).reverse) k (nb+1):=by
 obtain ⟨po,rfl,m⟩:=h
 refine ⟨po++(pa.extract k na).reverse,by simp only [Array.map_append,Array.map_extract,Array.map_reverse],?_⟩
 rw [Array.toList_append,Array.toList_reverse,iN]
 rw [kC pa hk,bd pb hb] at m
 rw [bd pb hb]
 refine m.pushes W.tr' W.N λx hx=>?_
 obtain ⟨j,hj,hj',rfl⟩:=lK hi hx
 exact e j hj hj'
theorem Rh.bs (W:Two n c pa pb) (h:Rh it c pa pb out (na+1) nb) (hk:k<=nb) (hi:nb<=pb.size) (ha:na<pa.size) (e:∀ i,k<=i->i<nb->c (pa.getD na 0) (pb.getD i 0)=true):Rh it c pa pb (out++((pb.map (kas_item it)).extract k nb).reverse) (na+1) k:=by
 obtain ⟨po,rfl,m⟩:=h
 refine ⟨po++(pb.extract k nb).reverse,by simp only [Array.map_append,Array.map_extract,Array.map_reverse],?_⟩
 rw [Array.toList_append,Array.toList_reverse,iN]
 rw [kC pb hk,bd pa ha] at m
 rw [bd pa ha]
 refine (m.swap.pushes W.tr' W.N λx hx=>?_).swap
 obtain ⟨j,hj,hj',rfl⟩:=lK hi hx
 exact e j hj hj'
end
section
variable {prog:Program} {w:World} {A:Around} {E:Value->Shared->Prop} {κ:SortKind} {it:Array Keyed} {n:Nat} {c:Nat->Nat->Bool} {s:Shared} {st:SortSt}
set_option maxHeartbeats 1000000 in
theorem mergeHi_c (ans:Ans prog w A κ it n c s) {pa pb:Array Nat} (W:Two n c pa pb) (hk:kindOf st=κ) (h0:∀ y ∈ pa.toList,c (pb.getD 0 0) y=true) (h1:c (pb.getD (pb.size-1) 0) (pa.getD (pa.size-1) 0)=true) {Q:Array Keyed->SortSt->Shared->Prop} (q:∀ r g,i5 it c (pa.toList++pb.toList) r->Q r (gal st g) s) :
  kasC (model prog w) A E (mergeHi' (pa.map (kas_item it)) (pb.map (kas_item it))) Q st s:=by
 have ha:=W.ha
 have hb:=W.hb
 obtain ⟨x,ex⟩:∃ x,pa.size=x+1:=⟨pa.size-1,by omega⟩
 obtain ⟨y,ey⟩:∃ y,pb.size=y+1:=⟨pb.size-1,by omega⟩
 have em:(pa.map (kas_item it)).size-1=x:=by rw [Array.size_map]; omega
 have en:(pb.map (kas_item it)).size=y+1:=by rw [Array.size_map]; omega
 have ez:(pa.map (kas_item it)).size=x+1:=by rw [Array.size_map]; omega
 rw [show pa.size-1=x by omega,show pb.size-1=y by omega] at h1
 have r0:Rh it c pa pb #[kas_item it (pa.getD x 0)] x (y+1):=Rh.a (out:=#[]) W ⟨#[],by simp,by
   rw [<- ex,<- ey,take_of_length_le (by simp),take_of_length_le (by simp)]
   refine ⟨?_,by simp,by simp,List.pairwise_reverse.mpr W.sa,List.pairwise_reverse.mpr W.sb⟩
   exact (reverse_perm _).append (reverse_perm _)⟩ (by omega) (by omega) h1
 refine kasC_bind (kasC_lift (wpAny_rule ?_))
 dsimp only
 rw [em,en,ez]
 refine kasC_bind (aD (by omega) ?_)
 by_cases e1:(x == 0)=true
 ·rw [if_pos e1]
  exact kasC_pure (q _ (gallopOf st) (r0.done (.inr (beq_iff_eq.mp e1))))
 rw [if_neg e1]
 by_cases e2:(y+1 == 1)=true
 ·rw [if_pos e2]
  obtain rfl:y=0:=by have:=beq_iff_eq.mp e2; omega
  exact kasC_pure (q _ (gallopOf st) (r0.first hb h0))
 rw [if_neg e2]
 have z1:y ≠ 0:=λz=>e2 (by rw [z]; rfl)
 have z2:x ≠ 0:=λz=>e1 (by rw [z]; rfl)
 refine kasC_bind (kasC_get ?_)
 refine kasC_bind (bi (λk z st'=>(∃ g,st'=gal st g)/\z.1=none/\Rh it c pa pb z.2.2.2.1 z.2.1 z.2.2.1/\1<=z.2.1/\z.2.1<=pa.size/\2<=z.2.2.1/\z.2.2.1<=pb.size/\z.2.1+z.2.2.1<=k) ⟨⟨gallopOf st,rfl⟩,rfl,r0,by show 1<=x; omega,by show x<=pa.size; omega,by show 2<=y+1; omega,by show y+1<=pb.size; omega,by show x+(y+1)<=x+1+(y+1)-0; omega⟩ ?_ ?_)
 rotate_left
 ·rintro ⟨r,na,nb,out,mg⟩ st' ⟨⟨g,rfl⟩,rfl,r1,l1,l2,l3,l4,l5⟩
  dsimp only at *
  omega
 ·rintro k x' ⟨r,na,nb,out,mg⟩ st' ⟨⟨g,rfl⟩,rfl,r1,l1,l2,l3,l4,l5⟩
  dsimp only at *
  refine kasC_bind (aR (P:=λz st' s'=>s'=s/\st'=gal st g/\((∃ r,z.1=some r/\i5 it c (pa.toList++pb.toList) r)\/(z.1=none/\Rh it c pa pb z.2.2.2.1 z.2.1 z.2.2.1/\1<=z.2.1/\z.2.1<=pa.size/\2<=z.2.2.1/\z.2.2.1<=pb.size/\z.2.1+z.2.2.1<=k))) ?_ ?_)
  ·refine bi (λk' z st'=>st'=gal st g/\z.1=none/\Rh it c pa pb z.2.2.2.1 z.2.1 z.2.2.1/\1<=z.2.1/\z.2.1<=pa.size/\2<=z.2.2.1/\z.2.2.1<=pb.size/\z.2.1+z.2.2.1<=k+1/\(k' < x+1+(y+1)->z.2.1+z.2.2.1<=k)) ⟨rfl,rfl,r1,l1,l2,l3,l4,l5,λh=>by omega⟩ ?_ ?_
   rotate_left
   ·rintro ⟨r,na,nb,out,ac,bc⟩ st' ⟨rfl,rfl,r2,b1,b2,b3,b4,b5,b6⟩
    exact ⟨rfl,rfl,.inr ⟨rfl,r2,b1,b2,b3,b4,b6 (by omega)⟩⟩
   ·rintro k' x' ⟨r,na,nb,out,ac,bc⟩ st' ⟨rfl,rfl,r2,b1,b2,b3,b4,b5,b6⟩
    dsimp only at *
    obtain ⟨na,rfl⟩:∃ j,na=j+1:=⟨na-1,by omega⟩
    obtain ⟨nb,rfl⟩:∃ j,nb=j+1:=⟨nb-1,by omega⟩
    simp only [Nat.add_sub_cancel]
    refine kasC_bind (aD (by omega) ?_)
    refine kasC_bind (aD (by omega) ?_)
    have ma:=aL (q:=pa) (i:=na) (by omega)
    have mb:=aL (q:=pb) (i:=nb) (by omega)
    refine kasC_bind (ans.lt (st:=gal st g) hk (W.N _ (mem_append_right _ mb)) (W.N _ (mem_append_left _ ma)) ?_)
    dsimp only
    cases ec:c (pb.getD nb 0) (pa.getD na 0) with
    | true=>
     rw [if_pos rfl]
     refine kasC_bind (aD (by omega) ?_)
     have r3:=r2.a W (by omega) (by omega) ec
     by_cases e3:(na == 0)=true
     ·rw [if_pos e3]
      exact kasC_pure ⟨rfl,trivial,rfl,.inl ⟨_,rfl,r3.done (.inr (beq_iff_eq.mp e3))⟩⟩
     ·rw [if_neg e3]
      have:na ≠ 0:=λz=>e3 (by rw [z]; rfl)
      by_cases e4:ac+1 ≥ mg
      ·rw [if_pos e4]
       exact kasC_pure ⟨rfl,trivial,rfl,.inr ⟨rfl,r3,by show 1<=na; omega,by show na<=pa.size; omega,b3,b4,by show na+(nb+1)<=k; omega⟩⟩
      ·rw [if_neg e4]
       exact kasC_pure ⟨rfl,rfl,rfl,r3,by show 1<=na; omega,by show na<=pa.size; omega,b3,b4,by show na+(nb+1)<=k+1; omega,λ_=>by show na+(nb+1)<=k; omega⟩
    | false=>
     rw [if_neg Bool.false_ne_true]
     refine kasC_bind (aD (by omega) ?_)
     have r3:=r2.b W (by omega) (by omega) (W.ot _ ma _ mb ec)
     by_cases e3:(nb == 1)=true
     ·rw [if_pos e3]
      obtain rfl:nb=1:=beq_iff_eq.mp e3
      exact kasC_pure ⟨rfl,trivial,rfl,.inl ⟨_,rfl,r3.first hb h0⟩⟩
     ·rw [if_neg e3]
      have:nb ≠ 1:=λz=>e3 (by rw [z]; rfl)
      by_cases e4:bc+1 ≥ mg
      ·rw [if_pos e4]
       exact kasC_pure ⟨rfl,trivial,rfl,.inr ⟨rfl,r3,b1,b2,by show 2<=nb; omega,by show nb<=pb.size; omega,by show na+1+nb<=k; omega⟩⟩
      ·rw [if_neg e4]
       exact kasC_pure ⟨rfl,rfl,rfl,r3,b1,b2,by show 2<=nb; omega,by show nb<=pb.size; omega,by show na+1+nb<=k+1; omega,λ_=>by show na+1+nb<=k; omega⟩
  ·rintro ⟨r,na,nb,out,ac,bc⟩ st' s' ⟨es,rfl,h⟩
   subst s'
   rcases h with ⟨r,rfl,hd⟩ | ⟨rfl,r2,b1,b2,b3,b4,b5⟩
   ·exact kasC_pure ⟨rfl,kasC_pure (q r g hd)⟩
   dsimp only at *
   refine kasC_bind (kasC_lift (wpAny_rule ?_))
   refine kasC_bind (aR (P:=λz st' s'=>s'=s/\∃ g,st'=gal st g/\((∃ r,z.1=some r/\i5 it c (pa.toList++pb.toList) r)\/(z.1=none/\Rh it c pa pb z.2.2.2.1 z.2.1 z.2.2.1/\1<=z.2.1/\z.2.1<=pa.size/\2<=z.2.2.1/\z.2.2.1<=pb.size/\z.2.1+z.2.2.1<=k))) ?_ ?_)
   rotate_left
   ·rintro ⟨r,na,nb,out,mg,ac,bc⟩ st' s' ⟨es,g',rfl,h⟩
    subst s'
    rcases h with ⟨r,rfl,hd⟩ | ⟨rfl,r2,b1,b2,b3,b4,b5⟩
    ·exact kasC_pure ⟨rfl,kasC_pure (q r g' hd)⟩
    ·exact kasC_bind (kasC_modify (kasC_pure ⟨rfl,⟨_,rfl⟩,rfl,r2,b1,b2,b3,b4,b5⟩))
   ·refine bi (λk' z st'=>(∃ g,st'=gal st g)/\z.1=none/\Rh it c pa pb z.2.2.2.1 z.2.1 z.2.2.1/\1<=z.2.1/\z.2.1<=pa.size/\2<=z.2.2.1/\z.2.2.1<=pb.size/\z.2.1+z.2.2.1<=k) ⟨⟨g,rfl⟩,rfl,r2,b1,b2,b3,b4,b5⟩ ?_ ?_
    rotate_left
    ·rintro ⟨r,na,nb,out,mg,ac,bc⟩ st' ⟨⟨g',rfl⟩,rfl,r2,b1,b2,b3,b4,b5⟩
     exact ⟨rfl,g',rfl,.inr ⟨rfl,r2,b1,b2,b3,b4,b5⟩⟩
    ·rintro k' x' ⟨r,na,nb,out,mg,ac,bc⟩ st' ⟨⟨g',rfl⟩,rfl,r2,b1,b2,b3,b4,b5⟩
     dsimp only at *
     obtain ⟨nb,rfl⟩:∃ j,nb=j+1:=⟨nb-1,by omega⟩
     simp only [Nat.add_sub_cancel]
     by_cases hmg:mg > 1
     rw [if_pos hmg]
     rotate_left
     rw [if_neg hmg]
     all_goals
      refine kasC_bind (kasC_modify ?_)
      refine kasC_bind (aD (by omega) ?_)
      refine kasC_bind (b8 (q:=pa) (l:=false) (o:=0) (m:=na) (hint:=na-1) ans W.tr (by exact hk) (W.N _ (mem_append_right _ (aL (by omega)))) (λx hx=>W.N x (mem_append_left _ hx)) (by omega) (by omega) (λi i' hi hi'=>ki W.sa (by omega) (by omega)) λk1 hk1 g1 g2=>?_)
      simp only [Nat.zero_add,Bool.false_eq_true,if_false,Bool.not_eq_true',Bool.not_eq_false'] at g1 g2
      dsimp only
      have g1:∀ i,i<k1->c (pa.getD i 0) (pb.getD nb 0)=true:=λi hi=>W.ot _ (aL (by omega)) _ (aL (by omega)) (g1 i hi)
      by_cases hk0:na-k1 > 0
      ·rw [if_pos hk0]
       have r3:=r2.as (k:=k1) W (by omega) (by omega) (by omega) g2
       by_cases e3:(k1 == 0)=true
       ·rw [if_pos e3]
        exact kasC_pure ⟨rfl,trivial,_,rfl,.inl ⟨_,rfl,r3.done (.inr (beq_iff_eq.mp e3))⟩⟩
       rw [if_neg e3]
       have n3:k1 ≠ 0:=λz=>e3 (by rw [z]; rfl)
       obtain ⟨a1,ea1⟩:∃ j,k1=j+1:=⟨k1-1,by omega⟩
       subst ea1
       have ec1:=g1 a1 (by omega)
       simp only [Nat.add_sub_cancel]
       have r4:=r3.b W (by omega) (by omega) ec1
       refine kasC_bind (aD (by omega) ?_)
       by_cases e4:(nb == 1)=true
       ·rw [if_pos e4]
        obtain rfl:nb=1:=beq_iff_eq.mp e4
        exact kasC_pure ⟨rfl,trivial,_,rfl,.inl ⟨_,rfl,r4.first hb h0⟩⟩
       rw [if_neg e4]
       have n4:nb ≠ 1:=λz=>e4 (by rw [z]; rfl)
       refine kasC_bind (aD (by omega) ?_)
       refine kasC_bind (b8 (q:=pb) (l:=true) (o:=0) (m:=nb) (hint:=nb-1) ans W.tr (by exact hk) (W.N _ (mem_append_left _ (aL (by omega)))) (λx hx=>W.N x (mem_append_right _ hx)) (by omega) (by omega) (λi i' hi hi'=>ki W.sb (by omega) (by omega)) λk2 hk2 g3 g4=>?_)
       simp only [Nat.zero_add,if_true] at g3 g4
       dsimp only
       have g4:∀ i,k2<=i->i<nb->c (pa.getD a1 0) (pb.getD i 0)=true:=λi hi hl=>W.ot _ (aL (by omega)) _ (aL (by omega)) (g4 i hi hl)
       by_cases hk3:nb-k2 > 0
       ·rw [if_pos hk3]
        have r5:=r4.bs (k:=k2) W (by omega) (by omega) (by omega) g4
        by_cases e5:(k2 == 1)=true
        ·rw [if_pos e5]
         obtain rfl:k2=1:=beq_iff_eq.mp e5
         exact kasC_pure ⟨rfl,trivial,_,rfl,.inl ⟨_,rfl,r5.first hb h0⟩⟩
        rw [if_neg e5]
        have n5:k2 ≠ 1:=λz=>e5 (by rw [z]; rfl)
        by_cases e7:(k2 == 0)=true
        ·rw [if_pos e7]
         exact kasC_pure ⟨rfl,trivial,_,rfl,.inl ⟨_,rfl,r5.done (.inl (beq_iff_eq.mp e7))⟩⟩
        rw [if_neg e7]
        have n7:k2 ≠ 0:=λz=>e7 (by rw [z]; rfl)
        obtain ⟨k3,rfl⟩:∃ j,k2=j+1:=⟨k2-1,by omega⟩
        have ec2:=g3 k3 (by omega)
        refine kasC_bind (aD (by omega) ?_)
        have r6:=r5.a W (by omega) (by omega) ec2
        by_cases e6:(a1 == 0)=true
        ·rw [if_pos e6]
         exact kasC_pure ⟨rfl,trivial,_,rfl,.inl ⟨_,rfl,r6.done (.inr (beq_iff_eq.mp e6))⟩⟩
        ·rw [if_neg e6]
         have n6:a1 ≠ 0:=λz=>e6 (by rw [z]; rfl)
         by_cases e8:(decide (na-(a1+1)<7) && decide (nb-(k3+1)<7))=true
         ·rw [if_pos e8]; exact kasC_pure ⟨rfl,trivial,_,rfl,.inr ⟨rfl,r6,by show 1<=a1; omega,by show a1<=pa.size; omega,by show 2<=k3+1; omega,by show k3+1<=pb.size; omega,by show a1+(k3+1)<=k; omega⟩⟩
         ·rw [if_neg e8]; exact kasC_pure ⟨rfl,⟨_,rfl⟩,rfl,r6,by show 1<=a1; omega,by show a1<=pa.size; omega,by show 2<=k3+1; omega,by show k3+1<=pb.size; omega,by show a1+(k3+1)<=k; omega⟩
       ·rw [if_neg hk3]
        obtain ⟨nb,rfl⟩:∃ j,nb=j+1:=⟨nb-1,by omega⟩
        have ec2:=g3 nb (by omega)
        refine kasC_bind (aD (by omega) ?_)
        have r6:=r4.a W (by omega) (by omega) ec2
        by_cases e6:(a1 == 0)=true
        ·rw [if_pos e6]
         exact kasC_pure ⟨rfl,trivial,_,rfl,.inl ⟨_,rfl,r6.done (.inr (beq_iff_eq.mp e6))⟩⟩
        ·rw [if_neg e6]
         have n6:a1 ≠ 0:=λz=>e6 (by rw [z]; rfl)
         by_cases e8:(decide (na-(a1+1)<7) && decide (nb+1-k2<7))=true
         ·rw [if_pos e8]; exact kasC_pure ⟨rfl,trivial,_,rfl,.inr ⟨rfl,r6,by show 1<=a1; omega,by show a1<=pa.size; omega,by show 2<=nb+1; omega,by show nb+1<=pb.size; omega,by show a1+(nb+1)<=k; omega⟩⟩
         ·rw [if_neg e8]; exact kasC_pure ⟨rfl,⟨_,rfl⟩,rfl,r6,by show 1<=a1; omega,by show a1<=pa.size; omega,by show 2<=nb+1; omega,by show nb+1<=pb.size; omega,by show a1+(nb+1)<=k; omega⟩
      ·rw [if_neg hk0]
       obtain ⟨a1,ea1⟩:∃ j,na=j+1:=⟨na-1,by omega⟩
       subst ea1
       have ec1:=g1 a1 (by omega)
       simp only [Nat.add_sub_cancel]
       have r4:=r2.b W (by omega) (by omega) ec1
       refine kasC_bind (aD (by omega) ?_)
       by_cases e4:(nb == 1)=true
       ·rw [if_pos e4]
        obtain rfl:nb=1:=beq_iff_eq.mp e4
        exact kasC_pure ⟨rfl,trivial,_,rfl,.inl ⟨_,rfl,r4.first hb h0⟩⟩
       rw [if_neg e4]
       have n4:nb ≠ 1:=λz=>e4 (by rw [z]; rfl)
       refine kasC_bind (aD (by omega) ?_)
       refine kasC_bind (b8 (q:=pb) (l:=true) (o:=0) (m:=nb) (hint:=nb-1) ans W.tr (by exact hk) (W.N _ (mem_append_left _ (aL (by omega)))) (λx hx=>W.N x (mem_append_right _ hx)) (by omega) (by omega) (λi i' hi hi'=>ki W.sb (by omega) (by omega)) λk2 hk2 g3 g4=>?_)
       simp only [Nat.zero_add,if_true] at g3 g4
       dsimp only
       have g4:∀ i,k2<=i->i<nb->c (pa.getD a1 0) (pb.getD i 0)=true:=λi hi hl=>W.ot _ (aL (by omega)) _ (aL (by omega)) (g4 i hi hl)
       by_cases hk3:nb-k2 > 0
       ·rw [if_pos hk3]
        have r5:=r4.bs (k:=k2) W (by omega) (by omega) (by omega) g4
        by_cases e5:(k2 == 1)=true
        ·rw [if_pos e5]
         obtain rfl:k2=1:=beq_iff_eq.mp e5
         exact kasC_pure ⟨rfl,trivial,_,rfl,.inl ⟨_,rfl,r5.first hb h0⟩⟩
        rw [if_neg e5]
        have n5:k2 ≠ 1:=λz=>e5 (by rw [z]; rfl)
        by_cases e7:(k2 == 0)=true
        ·rw [if_pos e7]
         exact kasC_pure ⟨rfl,trivial,_,rfl,.inl ⟨_,rfl,r5.done (.inl (beq_iff_eq.mp e7))⟩⟩
        rw [if_neg e7]
        have n7:k2 ≠ 0:=λz=>e7 (by rw [z]; rfl)
        obtain ⟨k3,rfl⟩:∃ j,k2=j+1:=⟨k2-1,by omega⟩
        have ec2:=g3 k3 (by omega)
        refine kasC_bind (aD (by omega) ?_)
        have r6:=r5.a W (by omega) (by omega) ec2
        by_cases e6:(a1 == 0)=true
        ·rw [if_pos e6]
         exact kasC_pure ⟨rfl,trivial,_,rfl,.inl ⟨_,rfl,r6.done (.inr (beq_iff_eq.mp e6))⟩⟩
        ·rw [if_neg e6]
         have n6:a1 ≠ 0:=λz=>e6 (by rw [z]; rfl)
         by_cases e8:(decide (a1+1-k1<7) && decide (nb-(k3+1)<7))=true
         ·rw [if_pos e8]; exact kasC_pure ⟨rfl,trivial,_,rfl,.inr ⟨rfl,r6,by show 1<=a1; omega,by show a1<=pa.size; omega,by show 2<=k3+1; omega,by show k3+1<=pb.size; omega,by show a1+(k3+1)<=k; omega⟩⟩
         ·rw [if_neg e8]; exact kasC_pure ⟨rfl,⟨_,rfl⟩,rfl,r6,by show 1<=a1; omega,by show a1<=pa.size; omega,by show 2<=k3+1; omega,by show k3+1<=pb.size; omega,by show a1+(k3+1)<=k; omega⟩
       ·rw [if_neg hk3]
        obtain ⟨nb,rfl⟩:∃ j,nb=j+1:=⟨nb-1,by omega⟩
        have ec2:=g3 nb (by omega)
        refine kasC_bind (aD (by omega) ?_)
        have r6:=r4.a W (by omega) (by omega) ec2
        by_cases e6:(a1 == 0)=true
        ·rw [if_pos e6]
         exact kasC_pure ⟨rfl,trivial,_,rfl,.inl ⟨_,rfl,r6.done (.inr (beq_iff_eq.mp e6))⟩⟩
        ·rw [if_neg e6]
         have n6:a1 ≠ 0:=λz=>e6 (by rw [z]; rfl)
         by_cases e8:(decide (a1+1-k1<7) && decide (nb+1-k2<7))=true
         ·rw [if_pos e8]; exact kasC_pure ⟨rfl,trivial,_,rfl,.inr ⟨rfl,r6,by show 1<=a1; omega,by show a1<=pa.size; omega,by show 2<=nb+1; omega,by show nb+1<=pb.size; omega,by show a1+(nb+1)<=k; omega⟩⟩
         ·rw [if_neg e8]; exact kasC_pure ⟨rfl,⟨_,rfl⟩,rfl,r6,by show 1<=a1; omega,by show a1<=pa.size; omega,by show 2<=nb+1; omega,by show nb+1<=pb.size; omega,by show a1+(nb+1)<=k; omega⟩
end
abbrev sS (κ:SortKind) (it:Array Keyed) (p:Array Nat) (pend:Array (Nat × Nat × Nat)) (g:Nat):SortSt:=SortSt.mk' κ (p.map (kas_item it)) pend g none
def SoR (c:Nat->Nat->Bool) (p:Array Nat) (a b:Nat):Prop:=∀ i j,a<=i->i<j->j<b->c (p.getD i 0) (p.getD j 0)=true
theorem fold_go:∀ (m:List Nat) (o j:Nat) (P X R:List Nat),P.length=o+j->X.length=m.length->(m.zipIdx j).foldl (λ(a:Array Nat) x=>a.setIfInBounds (o+x.2) x.1) (P++X++R).toArray=(P++m++R).toArray
 | [],o,j,P,X,R,_,h=>by
  have:X=[]:=List.length_eq_zero_iff.mp h
  rw [this]
  rfl
 | y::m,o,j,P,[],R,_,h=>by simp at h
 | y::m,o,j,P,x::X,R,hP,h=>by
  rw [zipIdx_cons,foldl_cons]
  dsimp only
  rw [List.setIfInBounds_toArray,append_assoc,List.set_append_right _ _ (by omega),show o+j-P.length=0 by omega]
  show (m.zipIdx (j+1)).foldl _ (P++(y::(X++R))).toArray=_
  have:=fold_go m o (j+1) (P++[y]) X R (by rw [length_append,length_singleton]; omega) (by simpa using h)
  rw [append_assoc,append_assoc] at this
  rw [append_assoc P]
  simpa using this
theorem fold_map (it:Array Keyed) (o:Nat):∀ (m:List Nat) (j:Nat) (p:Array Nat),((m.map (kas_item it)).zipIdx j).foldl (λ(a:Array Keyed) x=>a.setIfInBounds (o+x.2) x.1) (p.map (kas_item it))=((m.zipIdx j).foldl (λ(a:Array Nat) x=>a.setIfInBounds (o+x.2) x.1) p).map (kas_item it)
 | [],j,p=>rfl
 | y::m,j,p=>by
  rw [map_cons,zipIdx_cons,foldl_cons,zipIdx_cons,foldl_cons]
  dsimp only
  rw [<- fold_map it o m (j+1)]
  congr 1
  apply Array.toList_inj.mp
  simp
structure Laid (p p':Array Nat) (a:Nat) (m:List Nat):Prop where
 sz:p'.size=p.size
 out:∀ i,i<a\/a+m.length<=i->p'.getD i 0=p.getD i 0
 at_:∀ i,i<m.length->p'.getD (a+i) 0=m.getD i 0
 perm:p'.toList.Perm p.toList
theorem laid {p:Array Nat} {a:Nat} {m:List Nat} (hb:a+m.length<=p.size) (hp:m.Perm ((p.toList.drop a).take m.length)):∃ p',(m.zipIdx 0).foldl (λ(x:Array Nat) y=>x.setIfInBounds (a+y.2) y.1) p=p'/\Laid p p' a m:=by
 have e:p=(p.toList.take a++(p.toList.drop a).take m.length++p.toList.drop (a+m.length)).toArray:=by
  apply Array.toList_inj.mp
  rw [append_assoc,<- drop_drop,take_append_drop,take_append_drop]
 have lt:(p.toList.take a).length=a:=by rw [length_take,Array.length_toList]; omega
 have lm:((p.toList.drop a).take m.length).length=m.length:=by rw [length_take,length_drop,show p.toList.length=p.size from rfl]; omega
 have z:=fold_go m a 0 (p.toList.take a) ((p.toList.drop a).take m.length) (p.toList.drop (a+m.length)) (by omega) lm
 rw [<- e] at z
 have el:(p.toList.take a++m++p.toList.drop (a+m.length)).Perm p.toList:=by
  have:p.toList=p.toList.take a++(p.toList.drop a).take m.length++p.toList.drop (a+m.length):=by
   rw [append_assoc,<- drop_drop,take_append_drop,take_append_drop]
  have h2:(p.toList.take a++(p.toList.drop a).take m.length++p.toList.drop (a+m.length)).Perm p.toList:=by rw [<- this]
  exact ((hp.append_left _).append_right _).trans h2
 have g:∀ (q:Array Nat) i,q.getD i 0=(q.toList[i]?).getD 0:=λq i=>by rw [jt]; simp
 refine ⟨_,z,?_,λi hi=>?_,λi hi=>?_,el⟩
 ·have:=el.length_eq
  rw [Array.length_toList] at this
  exact this
 ·rw [g,g]
  show ((p.toList.take a++m++p.toList.drop (a+m.length))[i]?).getD 0=_
  rcases hi with hi | hi
  ·rw [append_assoc,getElem?_append_left (by omega),List.getElem?_take_of_lt hi]
  ·rw [getElem?_append_right (by rw [length_append]; omega),List.getElem?_drop,length_append,lt]
   congr 2
   omega
 ·rw [g]
  show ((p.toList.take a++m++p.toList.drop (a+m.length))[a+i]?).getD 0=_
  rw [append_assoc,getElem?_append_right (by omega),getElem?_append_left (by omega),lt,Nat.add_sub_cancel_left,getD_eq_getElem?_getD]
section
variable {prog:Program} {w:World} {A:Around} {E:Value->Shared->Prop} {κ:SortKind} {it:Array Keyed} {n:Nat} {c:Nat->Nat->Bool} {s:Shared}
theorem j0 {p:Array Nat} {a b:Nat} (h:SoR c p a b) (hb:b<=p.size):(p.extract a b).toList.Pairwise λx y=>c x y=true:=by
 rw [List.pairwise_iff_getElem]
 intro i j hi hj hij
 rw [Array.length_toList,Array.size_extract] at hi hj
 have:=h (a+i) (a+j) (by omega) (by omega) (by omega)
 simpa [Array.getD,show a+i<p.size by omega,show a+j<p.size by omega] using this
theorem cN {p:Array Nat} {a b x:Nat} (hb:b<=p.size) (h:x ∈ (p.extract a b).toList):∃ i,a<=i/\i<b/\x=p.getD i 0:=by
 rw [iN] at h
 exact lK hb (List.mem_reverse.mpr h)
theorem gL {p:Array Nat} {a b i:Nat} (hb:b<=p.size) (hi:i<b-a):(p.extract a b).getD i 0=p.getD (a+i) 0:=by
 have h1:i<(p.extract a b).size:=by rw [Array.size_extract]; omega
 rw [iD h1,iD (show a+i<p.size by omega)]
 simp
theorem mergeAt_c (ans:Ans prog w A κ it n c s) (T:Tot n c) {p:Array Nat} (hp:Pm n p) {pend:Array (Nat × Nat × Nat)} {g i sa na pw sb nb pw':Nat} (e1:pend[i]? = some (sa,na,pw)) (e2:pend[i+1]? = some (sb,nb,pw'))
  (hsb:sb=sa+na) (ha:1<=na) (hb:1<=nb) (hz:sb+nb<=n) (s1:SoR c p sa sb) (s2:SoR c p sb (sb+nb)) {Q:Bool->SortSt->Shared->Prop}
  (q:∀ p' g',Pm n p'->SoR c p' sa (sb+nb)->(∀ i,i<sa\/sb+nb<=i->p'.getD i 0=p.getD i 0)->Q true (sS κ it p' ((pend.setIfInBounds i (sa,na+nb,pw)).eraseIdxIfInBounds (i+1)) g') s) :
  kasC (model prog w) A E (mergeAt' i) Q (sS κ it p pend g) s:=by
 have z:=hp.sz
 have mlt:∀ x ∈ p.toList,x<n:=λx hx=>hp.mem hx
 refine kasC_bind (kasC_get ?_)
 dsimp only
 rw [e1,e2]
 dsimp only
 refine kasC_bind (kasC_modify ?_)
 have lo:∀ i,i<n->p.getD i 0<n:=λi hi=>hp.lt hi
 have ot:∀ {i j},i<n->j<n->i ≠ j->c (p.getD i 0) (p.getD j 0)=false->c (p.getD j 0) (p.getD i 0)=true:=λhi hj hne h=>T.other hp hi hj hne (by rw [h]; decide)
 have tp:∀ {i j k},i<n->j<n->k<n->c (p.getD i 0) (p.getD j 0)=true->c (p.getD j 0) (p.getD k 0)=true->c (p.getD i 0) (p.getD k 0)=true:=λhi hj hk=>T.trp hp hi hj hk
 refine kasC_bind (aD (by omega) ?_)
 refine kasC_bind (b8 (q:=p) (l:=false) (o:=sa) (m:=na) (hint:=0) ans T.tr (by exact rfl) (lo sb (by omega)) mlt (by omega) (by omega) (λi i' hi hi'=>s1 _ _ (by omega) (by omega) (by omega)) λk hk g1 g2=>?_)
 simp only [Bool.false_eq_true,if_false,Bool.not_eq_true',Bool.not_eq_false'] at g1 g2
 dsimp only
 have g1:∀ i,sa<=i->i<sa+k->c (p.getD i 0) (p.getD sb 0)=true:=λi h1 h2=>ot (by omega) (by omega) (by omega) (by have:=g1 (i-sa) (by omega); rwa [show sa+(i-sa)=i by omega] at this)
 have g2:∀ i,sa+k<=i->i<sb->c (p.getD sb 0) (p.getD i 0)=true:=λi h1 h2=>by have:=g2 (i-sa) (by omega) (by omega); rwa [show sa+(i-sa)=i by omega] at this
 have le:∀ j,sb<=j->j<sb+nb->∀ i,i<n->c (p.getD i 0) (p.getD sb 0)=true->c (p.getD i 0) (p.getD j 0)=true:=λj h1 h2 i hi h=>by
  by_cases ej:j=sb
  ·rw [ej]; exact h
  ·exact tp hi (by omega) (by omega) h (s2 sb j (Nat.le_refl _) (by omega) h2)
 by_cases e3:(na-k == 0)=true
 ·rw [if_pos e3]
  have e3:=beq_iff_eq.mp e3
  refine kasC_pure (q p _ hp (λi j h1 h2 h3=>?_) λ_ _=>rfl)
  by_cases hj:j<sb
  ·exact s1 i j h1 h2 hj
  ·by_cases hi:i<sb
   ·exact le j (by omega) h3 i (by omega) (g1 i h1 (by omega))
   ·exact s2 i j (by omega) h2 h3
 rw [if_neg e3]
 have n3:na-k ≠ 0:=λz=>e3 (by rw [z]; rfl)
 rw [show sa+k+(na-k)-1=sb-1 by omega]
 refine kasC_bind (aD (by omega) ?_)
 refine kasC_bind (b8 (q:=p) (l:=true) (o:=sb) (m:=nb) (hint:=nb-1) ans T.tr (by exact rfl) (lo (sb-1) (by omega)) mlt (by omega) (by omega) (λi i' hi hi'=>s2 _ _ (by omega) (by omega) (by omega)) λm hm g3 g4=>?_)
 simp only [if_true] at g3 g4
 dsimp only
 have g3:∀ i,sb<=i->i<sb+m->c (p.getD i 0) (p.getD (sb-1) 0)=true:=λi h1 h2=>by have:=g3 (i-sb) (by omega); rwa [show sb+(i-sb)=i by omega] at this
 have g4:∀ i,sb+m<=i->i<sb+nb->c (p.getD (sb-1) 0) (p.getD i 0)=true:=λi h1 h2=>ot (by omega) (by omega) (by omega) (by have:=g4 (i-sb) (by omega) (by omega); rwa [show sb+(i-sb)=i by omega] at this)
 have ge:∀ i,sa<=i->i<sb->∀ j,j<n->c (p.getD (sb-1) 0) (p.getD j 0)=true->c (p.getD i 0) (p.getD j 0)=true:=λi h1 h2 j hj h=>by
  by_cases ei:i=sb-1
  ·rw [ei]; exact h
  ·exact tp (by omega) (by omega) hj (s1 i (sb-1) h1 (by omega) (by omega)) h
 by_cases e4:(m == 0)=true
 ·rw [if_pos e4]
  have e4:=beq_iff_eq.mp e4
  refine kasC_pure (q p _ hp (λi j h1 h2 h3=>?_) λ_ _=>rfl)
  by_cases hj:j<sb
  ·exact s1 i j h1 h2 hj
  ·by_cases hi:i<sb
   ·exact ge i h1 hi j (by omega) (g4 j (by omega) h3)
   ·exact s2 i j (by omega) h2 h3
 rw [if_neg e4]
 have n4:m ≠ 0:=λz=>e4 (by rw [z]; rfl)
 simp only [<- Array.map_extract]
 have hb1:sb<=p.size:=by omega
 have hb2:sb+m<=p.size:=by omega
 have W:Two n c (p.extract (sa+k) sb) (p.extract sb (sb+m)):=by
  refine ⟨T.tr,λx hx=>?_,j0 (λi j h1 h2 h3=>s1 i j (by omega) h2 h3) hb1,j0 (λi j h1 h2 h3=>s2 i j h1 h2 (by omega)) hb2,λx hx y hy h=>?_,by rw [Array.size_extract]; omega,by rw [Array.size_extract]; omega⟩
  ·rcases List.mem_append.mp hx with hx | hx
   ·obtain ⟨i,h1,h2,rfl⟩:=cN hb1 hx
    exact lo i (by omega)
   ·obtain ⟨i,h1,h2,rfl⟩:=cN hb2 hx
    exact lo i (by omega)
  ·obtain ⟨i,h1,h2,rfl⟩:=cN hb1 hx
   obtain ⟨j,h3,h4,rfl⟩:=cN hb2 hy
   exact ot (by omega) (by omega) (by omega) h
 have fin:∀ r (g:Nat),i5 it c ((p.extract (sa+k) sb).toList++(p.extract sb (sb+m)).toList) r->∃ p',r.toList.zipIdx.foldl (λ(a:Array Keyed) x=>a.setIfInBounds (sa+k+x.2) x.1) (p.map (kas_item it))=p'.map (kas_item it)/\Pm n p'/\SoR c p' sa (sb+nb)/\∀ i,i<sa\/sb+nb<=i->p'.getD i 0=p.getD i 0:=by
  rintro r g ⟨pm,rfl,pp,ps⟩
  have el:(p.extract (sa+k) sb).toList++(p.extract sb (sb+m)).toList=(p.toList.drop (sa+k)).take (na-k+m):=by
   rw [show sb=sa+k+(na-k) by omega,fw,fw,show p.toList.drop (sa+k+(na-k))=(p.toList.drop (sa+k)).drop (na-k) from (drop_drop ..).symm,<- List.take_add]
  have lm:pm.toList.length=na-k+m:=by
   rw [pp.length_eq,el,length_take,length_drop,show p.toList.length=p.size from rfl]
   omega
  obtain ⟨p',e,L⟩:=laid (p:=p) (a:=sa+k) (m:=pm.toList) (by omega) (by rw [lm,<- el]; exact pp)
  have mem:∀ t,t<na-k+m->∃ l,sa+k<=l/\l<sb+m/\p'.getD (sa+k+t) 0=p.getD l 0:=λt ht=>by
   rw [L.at_ t (by omega)]
   have:pm.toList.getD t 0 ∈ pm.toList:=by rw [dm (by omega)]; exact getElem_mem _
   rcases List.mem_append.mp (pp.mem_iff.mp this) with h | h
   ·obtain ⟨i,h1,h2,e⟩:=cN hb1 h
    exact ⟨i,h1,by omega,e⟩
   ·obtain ⟨i,h1,h2,e⟩:=cN hb2 h
    exact ⟨i,by omega,h2,e⟩
  refine ⟨p',?_,L.perm.trans hp,λi j h1 h2 h3=>?_,λi hi=>L.out i (by omega)⟩
  ·rw [<- e,Array.toList_map]
   exact fold_map it (sa+k) pm.toList 0 p
  ·by_cases i1:i<sa+k
   ·rw [L.out i (.inl i1)]
    have lb:=g1 i h1 i1
    by_cases j1:j<sa+k
    ·rw [L.out j (.inl j1)]
     exact s1 i j h1 h2 (by omega)
    ·by_cases j2:j<sb+m
     ·obtain ⟨l,l1,l2,e⟩:=mem (j-(sa+k)) (by omega)
      rw [show sa+k+(j-(sa+k))=j by omega] at e
      rw [e]
      by_cases l3:l<sb
      ·exact s1 i l h1 (by omega) l3
      ·exact le l (by omega) (by omega) i (by omega) lb
     ·rw [L.out j (.inr (by omega))]
      exact le j (by omega) h3 i (by omega) lb
   ·by_cases i2:i<sb+m
    ·by_cases j2:j<sb+m
     ·have:=(List.pairwise_iff_getElem.mp ps) (i-(sa+k)) (j-(sa+k)) (by omega) (by omega) (by omega)
      have a1:=L.at_ (i-(sa+k)) (by omega)
      have a2:=L.at_ (j-(sa+k)) (by omega)
      rw [show sa+k+(i-(sa+k))=i by omega,dm (by omega)] at a1
      rw [show sa+k+(j-(sa+k))=j by omega,dm (by omega)] at a2
      rw [a1,a2]
      exact this
     ·rw [L.out j (.inr (by omega))]
      obtain ⟨l,l1,l2,e⟩:=mem (i-(sa+k)) (by omega)
      rw [show sa+k+(i-(sa+k))=i by omega] at e
      rw [e]
      by_cases l3:l<sb
      ·exact ge l (by omega) l3 j (by omega) (g4 j (by omega) h3)
      ·exact s2 l j (by omega) (by omega) h3
    ·rw [L.out i (.inr (by omega)),L.out j (.inr (by omega))]
     exact s2 i j (by omega) h2 h3
 by_cases e5:na-k<=m
 ·rw [if_pos e5]
  refine kasC_bind (mergeLo_c ans W (by exact rfl) ?_ (λy hy=>?_) λr g' hd=>?_)
  ·rw [gL hb2 (by omega),gL hb1 (by omega)]
   exact g2 _ (by omega) (by omega)
  ·rw [Array.size_extract,gL hb1 (by omega),show sa+k+(min sb p.size-(sa+k)-1)=sb-1 by omega]
   obtain ⟨j,h3,h4,rfl⟩:=cN hb2 hy
   exact g3 j h3 h4
  ·obtain ⟨p',e,h1,h2,h3⟩:=fin r g' hd
   refine kasC_bind (kasC_modify (kasC_bind (kasC_get (kasC_pure ?_))))
   have:=q p' g' h1 h2 h3
   unfold sS at this
   rw [<- e] at this
   exact this
 ·rw [if_neg e5]
  refine kasC_bind (mergeHi_c ans W (by exact rfl) (λy hy=>?_) ?_ λr g' hd=>?_)
  ·rw [gL hb2 (by omega)]
   obtain ⟨j,h3,h4,rfl⟩:=cN hb1 hy
   exact g2 j h3 h4
  ·rw [Array.size_extract,Array.size_extract,gL hb1 (by omega),gL hb2 (by omega),show sa+k+(min sb p.size-(sa+k)-1)=sb-1 by omega]
   exact g3 _ (by omega) (by omega)
  ·obtain ⟨p',e,h1,h2,h3⟩:=fin r g' hd
   refine kasC_bind (kasC_modify (kasC_bind (kasC_get (kasC_pure ?_))))
   have:=q p' g' h1 h2 h3
   unfold sS at this
   rw [<- e] at this
   exact this
end
section
variable {prog:Program} {w:World} {A:Around} {E:Value->Shared->Prop} {κ:SortKind} {it:Array Keyed} {n:Nat} {c:Nat->Nat->Bool} {s:Shared} {p:Array Nat} {pend:Array (Nat × Nat × Nat)} {g:Nat}
theorem lta (ans:Ans prog w A κ it n c s) (hp:Pm n p) {i j:Nat} (hi:i<n) (hj:j<n) {Q:Option Bool->SortSt->Shared->Prop} (q:Q (some (c (p.getD i 0) (p.getD j 0))) (sS κ it p pend g) s):kasC (model prog w) A E (ltAt' i j) Q (sS κ it p pend g) s:=by
 have z:=hp.sz
 rw [ltAt'_eq]
 refine kasC_bind (kasC_get ?_)
 exact kasC_bind (aD (by omega) (kasC_bind (aD (by omega) (ans.lt (by exact rfl) (hp.lt hi) (hp.lt hj) q))))
theorem rvs {i j:Nat} {Q:Unit->SortSt->Shared->Prop} (q:Q () (sS κ it (kas_rev p i j) pend g) s):kasC (model prog w) A E (reverseSlice' i j) Q (sS κ it p pend g) s:=by
 rw [reverseSlice'_eq]
 refine kasC_modify ?_
 have e:mirror (p.map (kas_item it)) i j ((j-i) / 2)=(mirror p i j ((j-i) / 2)).map (kas_item it):=kas_swaps_map (kas_item it) (λk=>i+k) (λk=>j-1-k) _ p
 show Q () (SortSt.mk' κ (mirror (p.map (kas_item it)) i j ((j-i) / 2)) pend g none) s
 rw [e]
 exact q
theorem mvd {k l:Nat} {Q:Unit->SortSt->Shared->Prop} (q:Q () (sS κ it (bubble p k (k-l)) pend g) s):kasC (model prog w) A E (moveDown' k l) Q (sS κ it p pend g) s:=by
 rw [moveDown'_eq]
 refine kasC_modify ?_
 have e:bubble (p.map (kas_item it)) k (k-l)=(bubble p k (k-l)).map (kas_item it):=kas_swaps_map (kas_item it) (λi=>k-i) (λi=>k-i-1) _ p
 show Q () (SortSt.mk' κ (bubble (p.map (kas_item it)) k (k-l)) pend g none) s
 rw [e]
 exact q
theorem lv {i j:Nat} (hj:j<=p.size) (k:Nat):(kas_rev p i j).getD k 0=if i<=k/\k<j then p.getD (i+j-1-k) 0 else p.getD k 0:=by
 rw [jt]
 unfold kas_rev
 rw [getElem?_mirror_all hj]
 split<;>rw [jt]
theorem SoR.step (T:Tot n c) (hp:Pm n p) {a b:Nat} (hab:a<b) (hb:b<n) (h:SoR c p a b) (e:c (p.getD (b-1) 0) (p.getD b 0)=true):SoR c p a (b+1):=λi j h1 h2 h3=>by
 by_cases ej:j=b
 ·subst ej
  by_cases ei:i=j-1
  ·rw [ei]; exact e
  ·exact T.trp hp (by omega) (by omega) hb (h i (j-1) h1 (by omega) (by omega)) e
 ·exact h i j h1 h2 (by omega)
def DeR (c:Nat->Nat->Bool) (p:Array Nat) (a b:Nat):Prop:=∀ i j,a<=i->i<j->j<b->c (p.getD j 0) (p.getD i 0)=true
theorem DeR.step (T:Tot n c) (hp:Pm n p) {a b:Nat} (hab:a<b) (hb:b<n) (h:DeR c p a b) (e:c (p.getD b 0) (p.getD (b-1) 0)=true):DeR c p a (b+1):=λi j h1 h2 h3=>by
 by_cases ej:j=b
 ·subst ej
  by_cases ei:i=j-1
  ·rw [ei]; exact e
  ·exact T.trp hp hb (by omega) (by omega) e (h i (j-1) h1 (by omega) (by omega))
 ·exact h i j h1 h2 (by omega)
theorem DeR.rev {a b:Nat} (hb:b<=p.size) (h:DeR c p a b):SoR c (kas_rev p a b) a b:=λi j h1 h2 h3=>by
 rw [lv hb,lv hb,if_pos ⟨h1,by omega⟩,if_pos ⟨by omega,h3⟩]
 exact h _ _ (by omega) (by omega) (by omega)
theorem countRun_c (ans:Ans prog w A κ it n c s) (T:Tot n c) (hp:Pm n p) {lo nrem:Nat} (h1:1<=nrem) (hz:lo+nrem<=n) {Q:Option Nat->SortSt->Shared->Prop}
  (q:∀ m p',1<=m->m<=nrem->Pm n p'->SoR c p' lo (lo+m)->(∀ i,i<lo->p'.getD i 0=p.getD i 0)->Q (some m) (sS κ it p' pend g) s):kasC (model prog w) A E (countRun' lo nrem) Q (sS κ it p pend g) s:=by
 have z:=hp.sz
 refine kasC_bind (aR (P:=λb st' s'=>s'=s/\st'=sS κ it p pend g/\b.1=none/\1<=b.2/\b.2<=nrem/\SoR c p lo (lo+b.2)/\(b.2<nrem->c (p.getD (lo+b.2) 0) (p.getD (lo+b.2-1) 0)=true)) ?_ ?_)
 ·refine bi (λk b st'=>st'=sS κ it p pend g/\b.1=none/\1<=b.2/\b.2+k=nrem/\SoR c p lo (lo+b.2)) ⟨rfl,rfl,Nat.le_refl 1,by show 1+(nrem-1)=nrem; omega,λi j a1 a2 a3=>by have:j<lo+1:=a3; omega⟩ ?_ ?_
  ·rintro k x ⟨r,m⟩ st' ⟨rfl,rfl,a1,a2,a3⟩
   dsimp only at *
   refine kasC_bind (lta ans hp (by omega) (by omega) ?_)
   dsimp only
   cases e:c (p.getD (lo+m) 0) (p.getD (lo+m-1) 0) with
   | true=>
    rw [if_pos rfl]
    exact kasC_pure ⟨rfl,rfl,rfl,rfl,a1,by show m<=nrem; omega,a3,λ_=>e⟩
   | false=>
    rw [if_neg Bool.false_ne_true]
    exact kasC_pure ⟨rfl,rfl,rfl,by show 1<=m+1; omega,by show m+1+k=nrem; omega,SoR.step (b:=lo+m) T hp (by omega) (by omega) a3 (T.other hp (by omega) (by omega) (by omega) (by rw [e]; decide))⟩
  ·rintro ⟨r,m⟩ st' ⟨rfl,rfl,a1,a2,a3⟩
   exact ⟨rfl,rfl,rfl,a1,Nat.le_of_eq a2,a3,λh=>absurd h (by have:m+0=nrem:=a2; show ¬ m<nrem; omega)⟩
 rintro ⟨r,m⟩ st' s' ⟨es,rfl,rfl,a1,a2,a3,a4⟩
 subst s'
 dsimp only at *
 by_cases e1:(m == nrem)=true
 ·rw [if_pos e1]
  exact kasC_pure (q m p a1 a2 hp a3 λ_ _=>rfl)
 rw [if_neg e1]
 have n1:m ≠ nrem:=λz=>e1 (by rw [z]; exact beq_self_eq_true _)
 by_cases e2:m > 1
 ·rw [if_pos e2]
  refine kasC_bind (lta ans hp (by omega) (by omega) ?_)
  dsimp only
  rw [a3 lo (lo+m-1) (Nat.le_refl _) (by omega) (by omega),if_pos rfl]
  exact kasC_pure (q m p a1 a2 hp a3 λ_ _=>rfl)
 rw [if_neg e2]
 obtain rfl:m=1:=by omega
 refine kasC_bind (kasC_lift (wpAny_rule ?_))
 refine kasC_bind (aR (P:=λb st' s'=>s'=s/\st'=sS κ it p pend g/\b.1=none/\2<=b.2.1/\b.2.1<=nrem/\b.2.2=0/\DeR c p lo (lo+b.2.1)) ?_ ?_)
 ·refine bi (λk b st'=>st'=sS κ it p pend g/\b.1=none/\2<=b.2.1/\b.2.1+k=nrem/\b.2.2=0/\DeR c p lo (lo+b.2.1)) ⟨rfl,rfl,Nat.le_refl 2,by show 2+(nrem-2)=nrem; omega,rfl,λi j b1 b2 b3=>?_⟩ ?_ ?_
  ·have b3:j<lo+2:=b3
   obtain rfl:i=lo:=by omega
   obtain rfl:j=i+1:=by omega
   exact a4 (by omega)
  ·rintro k x ⟨r,m,e⟩ st' ⟨rfl,rfl,b1,b2,rfl,b3⟩
   dsimp only at *
   refine kasC_bind (lta ans hp (by omega) (by omega) ?_)
   dsimp only
   cases e:c (p.getD (lo+m) 0) (p.getD (lo+m-1) 0) with
   | true=>
    rw [if_pos rfl,if_neg (Nat.lt_irrefl 0)]
    exact kasC_pure ⟨rfl,rfl,rfl,by show 2<=m+1; omega,by show m+1+k=nrem; omega,rfl,DeR.step (b:=lo+m) T hp (by omega) (by omega) b3 e⟩
   | false=>
    rw [if_neg Bool.false_ne_true]
    refine kasC_bind (lta ans hp (by omega) (by omega) ?_)
    dsimp only
    rw [T.other hp (by omega) (by omega) (by omega) (by rw [e]; decide),if_pos rfl]
    exact kasC_pure ⟨rfl,rfl,rfl,rfl,b1,by show m<=nrem; omega,rfl,b3⟩
  ·rintro ⟨r,m,e⟩ st' ⟨rfl,rfl,b1,b2,rfl,b3⟩
   exact ⟨rfl,rfl,rfl,b1,Nat.le_of_eq b2,rfl,b3⟩
 rintro ⟨r,m,e⟩ st' s' ⟨es,rfl,rfl,b1,b2,rfl,b3⟩
 subst s'
 dsimp only at *
 rw [if_neg (Nat.lt_irrefl 0)]
 have hp':Pm n (kas_rev p lo (lo+m)):=hp.of (mirror_perm _ _ _ _)
 have lw:∀ i,i<lo->(kas_rev p lo (lo+m)).getD i 0=p.getD i 0:=λi hi=>by rw [lv (by omega),if_neg (by omega)]
 have b3':=b3.rev (show lo+m<=p.size by omega)
 refine kasC_bind (rvs ?_)
 refine kasC_bind (aR (P:=λb st' s'=>s'=s/\st'=sS κ it (kas_rev p lo (lo+m)) pend g/\b.1=none/\1<=b.2/\b.2<=nrem/\SoR c (kas_rev p lo (lo+m)) lo (lo+b.2)) ?_ ?_)
 ·refine bi (λk b st'=>st'=sS κ it (kas_rev p lo (lo+m)) pend g/\b.1=none/\1<=b.2/\b.2+k=nrem/\SoR c (kas_rev p lo (lo+m)) lo (lo+b.2)) ⟨rfl,rfl,by show 1<=m; omega,by show m+(nrem-m)=nrem; omega,b3'⟩ ?_ ?_
  ·rintro k x ⟨r,m'⟩ st' ⟨rfl,rfl,d1,d2,d3⟩
   dsimp only at *
   refine kasC_bind (lta ans hp' (by omega) (by omega) ?_)
   dsimp only
   cases e:c ((kas_rev p lo (lo+m)).getD (lo+m') 0) ((kas_rev p lo (lo+m)).getD (lo+m' - 1) 0) with
   | true=>
    rw [if_pos rfl]
    exact kasC_pure ⟨rfl,rfl,rfl,rfl,d1,by show m' <= nrem; omega,d3⟩
   | false=>
    rw [if_neg Bool.false_ne_true]
    exact kasC_pure ⟨rfl,rfl,rfl,by show 1<=m' + 1; omega,by show m' + 1+k=nrem; omega,SoR.step (b:=lo+m') T hp' (by omega) (by omega) d3 (T.other hp' (by omega) (by omega) (by omega) (by rw [e]; decide))⟩
  ·rintro ⟨r,m'⟩ st' ⟨rfl,rfl,d1,d2,d3⟩
   exact ⟨rfl,rfl,rfl,d1,Nat.le_of_eq d2,d3⟩
 rintro ⟨r,m'⟩ st' s' ⟨es,rfl,rfl,d1,d2,d3⟩
 subst s'
 exact kasC_pure (q m' _ d1 d2 hp' d3 lw)
end
section
variable {prog:Program} {w:World} {A:Around} {E:Value->Shared->Prop} {κ:SortKind} {it:Array Keyed} {n:Nat} {c:Nat->Nat->Bool} {s:Shared} {p:Array Nat} {pend:Array (Nat × Nat × Nat)} {g:Nat}
theorem SoR.put (hp:Pm n p) {a k q:Nat} (hk:k<n) (ha:a<=q) (hq:q<=k) (hs:SoR c p a k) (lo:∀ i,a<=i->i<q->c (p.getD i 0) (p.getD k 0)=true) (hi:∀ i,q<=i->i<k->c (p.getD k 0) (p.getD i 0)=true):SoR c (bubble p k (k-q)) a (k+1):=λi j h1 hij hj=>by
 have hz:=hp.sz
 rw [de (by omega) (by omega),de (by omega) (by omega),show k-(k-q)=q by omega]
 by_cases i1:i=q
 ·rw [if_pos i1,if_neg (by omega),if_pos (by omega)]
  exact hi (j-1) (by omega) (by omega)
 ·rw [if_neg i1]
  by_cases i2:q<i/\i<=k
  ·rw [if_pos i2,if_neg (by omega),if_pos (by omega)]
   exact hs _ _ (by omega) (by omega) (by omega)
  ·rw [if_neg i2]
   by_cases j1:j=q
   ·rw [if_pos j1]
    exact lo i h1 (by omega)
   ·rw [if_neg j1]
    by_cases j2:q<j/\j<=k
    ·rw [if_pos j2]
     exact hs _ _ (by omega) (by omega) (by omega)
    ·rw [if_neg j2]
     exact hs _ _ h1 hij (by omega)
theorem turnsN {M:Model} {σ β:Type} {f:Nat->β->StateT σ Sem (ForInStep β)} {Q:β->σ->Shared->Prop} {e:Nat} (I:Nat->β->σ->Prop)
  (turn:∀ x b st,x<e->I x b st->kasC M A E (f x b) (λr st' s'=>s'=s/\match r with | .done b'=>Q b' st' s | .yield b'=>I (x+1) b' st') st s)
  (fin:∀ b st,I e b st->Q b st s):∀ (m a:Nat) (b:β) (st:σ),a+m=e->I a b st->kasC M A E (forIn (List.range' a m) b f) Q st s
 | 0,a,b,st,ea,h=>kasC_nil (fin b st (by rw [<- ea]; exact h))
 | m+1,a,b,st,ea,h=>by
  rw [List.range'_succ]
  refine kasC_cons (wpAny_mono (turn a b st (by omega) h) (λr s' z=>?_) λ_ _ e=>e)
  obtain ⟨r,st'⟩:=r
  obtain ⟨z1,z2⟩:=z
  cases z1
  cases r with
  | done b'=>exact z2
  | yield b'=>exact turnsN I turn fin m (a+1) b' st' (by omega) z2
theorem lg (ans:Ans prog w A κ it n c s) (T:Tot n c) (hp:Pm n p) {lo m ok:Nat} (h1:1<=ok) (hok:ok<=m) (hz:lo+m<=n) (hs:SoR c p lo (lo+ok)) {Q:Bool->SortSt->Shared->Prop}
  (q:∀ p',Pm n p'->SoR c p' lo (lo+m)->(∀ i,i<lo->p'.getD i 0=p.getD i 0)->Q true (sS κ it p' pend g) s):kasC (model prog w) A E (binarySort' lo m ok) Q (sS κ it p pend g) s:=by
 have z:=hp.sz
 rw [binarySort'_eq]
 refine kasC_bind (kasC_range ?_)
 rw [show max ok 1=ok by omega]
 refine aR (P:=λb st' s'=>s'=s/\b=(none,())/\∃ p',st'=sS κ it p' pend g/\Pm n p'/\SoR c p' lo (lo+m)/\∀ i,i<lo->p'.getD i 0=p.getD i 0) ?_ ?_
 ·refine turnsN (e:=m) (λk b st'=>b=(none,())/\ok<=k/\∃ p',st'=sS κ it p' pend g/\Pm n p'/\SoR c p' lo (lo+k)/\∀ i,i<lo->p'.getD i 0=p.getD i 0) ?_ (λb st h=>⟨rfl,h.1,h.2.2⟩) (m-ok) ok (none,()) _ (by omega) ⟨rfl,Nat.le_refl _,p,rfl,hp,hs,λ_ _=>rfl⟩
  rintro k b st' hk ⟨rfl,ok',p',rfl,a1,a2,a3⟩
  refine kasC_bind (aR (P:=λb st' s'=>s'=s/\st'=sS κ it p' pend g/\b.1=none/\b.2.1<=k/\(∀ i,lo<=i->i<lo+b.2.1->c (p'.getD i 0) (p'.getD (lo+k) 0)=true)/\∀ i,lo+b.2.1<=i->i<lo+k->c (p'.getD (lo+k) 0) (p'.getD i 0)=true) ?_ ?_)
  ·refine bi (λf b st'=>st'=sS κ it p' pend g/\b.1=none/\b.2.1<=b.2.2/\b.2.2<=k/\b.2.2-b.2.1<=f/\(∀ i,lo<=i->i<lo+b.2.1->c (p'.getD i 0) (p'.getD (lo+k) 0)=true)/\∀ i,lo+b.2.2<=i->i<lo+k->c (p'.getD (lo+k) 0) (p'.getD i 0)=true) ⟨rfl,rfl,Nat.zero_le k,Nat.le_refl k,Nat.le_refl _,λi x1 x2=>by have:i<lo+0:=x2; omega,λi x1 x2=>by have:lo+k<=i:=x1; omega⟩ ?_ ?_
   ·rintro f x ⟨r,l,h⟩ st' ⟨rfl,rfl,b1,b2,b3,b4,b5⟩
    dsimp only at *
    by_cases e:l ≥ h
    ·rw [if_pos e]
     exact kasC_pure ⟨rfl,rfl,rfl,rfl,by show l<=k; omega,b4,λi x1 x2=>b5 i (by have:lo+l<=i:=x1; omega) x2⟩
    ·rw [if_neg e]
     refine kasC_bind (lta ans a1 (by omega) (by omega) ?_)
     dsimp only
     cases ec:c (p'.getD (lo+k) 0) (p'.getD (lo+(l+h) / 2) 0) with
     | true=>
      rw [if_pos rfl]
      refine kasC_pure ⟨rfl,rfl,rfl,by show l<=(l+h) / 2; omega,by show (l+h) / 2<=k; omega,by show (l+h) / 2-l<=f; omega,b4,λi x1 x2=>?_⟩
      have x1:lo+(l+h) / 2<=i:=x1
      by_cases ei:i=lo+(l+h) / 2
      ·rw [ei]; exact ec
      ·exact T.trp a1 (by omega) (by omega) (by omega) ec (a2 _ i (by omega) (by omega) x2)
     | false=>
      rw [if_neg Bool.false_ne_true]
      refine kasC_pure ⟨rfl,rfl,rfl,by show (l+h) / 2+1<=h; omega,b2,by show h-((l+h) / 2+1)<=f; omega,λi x1 x2=>?_,b5⟩
      have x2:i<lo+((l+h) / 2+1):=x2
      have ho:=T.other a1 (show lo+k<n by omega) (show lo+(l+h) / 2<n by omega) (by omega) (by rw [ec]; decide)
      by_cases ei:i=lo+(l+h) / 2
      ·rw [ei]; exact ho
      ·exact T.trp a1 (by omega) (by omega) (by omega) (a2 i _ x1 (by omega) (by omega)) ho
   ·rintro ⟨r,l,h⟩ st' ⟨rfl,rfl,b1,b2,b3,b4,b5⟩
    have b3:h-l<=0:=b3
    have b1:l<=h:=b1
    have b2:h<=k:=b2
    exact ⟨rfl,rfl,rfl,by show l<=k; omega,b4,λi x1 x2=>b5 i (by have:lo+l<=i:=x1; show lo+h<=i; omega) x2⟩
  ·rintro ⟨r,l,h⟩ st' s' ⟨es,rfl,rfl,b1,b2,b3⟩
   subst s'
   dsimp only at *
   refine kasC_bind (mvd (kasC_pure ⟨rfl,rfl,by omega,_,rfl,a1.of (bubble_perm _ _ _),?_,λi hi=>?_⟩))
   ·exact SoR.put (k:=lo+k) (q:=lo+l) a1 (by omega) (by omega) (by omega) a2 b2 b3
   ·have z':=a1.sz
    rw [de (by omega) (by omega),if_neg (by omega),if_neg (by omega)]
    exact a3 i hi
 rintro ⟨r,u⟩ st' s' ⟨es,eb,p',rfl,a1,a2,a3⟩
 subst s'
 cases eb
 exact kasC_pure (q p' a1 a2 a3)
end
def ml (c:Nat->Nat->Bool) (p:Array Nat):Nat->List (Nat × Nat × Nat)->Nat->Prop
 | a,[],b=>a=b
 | a,x::r,b=>x.1=a/\1<=x.2.1/\SoR c p a (a+x.2.1)/\ml c p (a+x.2.1) r b
section
variable {c:Nat->Nat->Bool} {p p':Array Nat}
theorem SoR.keep {a b:Nat} (h:SoR c p a b) (e:∀ i,a<=i->i<b->p'.getD i 0=p.getD i 0):SoR c p' a b:=λi j h1 h2 h3=>by
 rw [e i h1 (by omega),e j (by omega) h3]
 exact h i j h1 h2 h3
theorem ml.le:∀ {L a b},ml c p a L b->a+L.length<=b
 | [],a,b,h=>by have:a=b:=h; simp [this]
 | x::L,a,b,h=>by
  have:=ml.le h.2.2.2
  have:=h.2.1
  rw [length_cons]
  omega
theorem ml.keep:∀ {L a b},ml c p a L b->(∀ i,a<=i->i<b->p'.getD i 0=p.getD i 0)->ml c p' a L b
 | [],a,b,h,_=>h
 | x::L,a,b,h,e=>by
  have:=ml.le h.2.2.2
  exact ⟨h.1,h.2.1,h.2.2.1.keep λi h1 h2=>e i h1 (by omega),h.2.2.2.keep λi h1 h2=>e i (by omega) h2⟩
theorem ml.snoc {m w:Nat}:∀ {L a b},ml c p a L b->1<=m->SoR c p b (b+m)->ml c p a (L++[(b,m,w)]) (b+m)
 | [],a,b,h,h1,hs=>by
  have:a=b:=h
  subst this
  exact ⟨rfl,h1,hs,rfl⟩
 | x::L,a,b,h,h1,hs=>⟨h.1,h.2.1,h.2.2.1,ml.snoc h.2.2.2 h1 hs⟩
theorem ml.mod {w:Nat}:∀ {L a b i},ml c p a L b->ml c p a (L.modify i λx=>(x.1,x.2.1,w)) b
 | [],a,b,i,h=>by simpa using h
 | x::L,a,b,0,h=>by
  rw [List.modify_zero_cons]
  exact h
 | x::L,a,b,i+1,h=>by
  rw [List.modify_succ_cons]
  exact ⟨h.1,h.2.1,h.2.2.1,ml.mod h.2.2.2⟩
theorem ml.two:∀ {L a b i x y},ml c p a L b->L[i]? = some x->L[i+1]? = some y->y.1=x.1+x.2.1/\1<=x.2.1/\1<=y.2.1/\a<=x.1/\y.1+y.2.1<=b/\SoR c p x.1 y.1/\SoR c p y.1 (y.1+y.2.1)
  /\ ∀ {w p'},SoR c p' x.1 (y.1+y.2.1)->(∀ j,j<x.1\/y.1+y.2.1<=j->p'.getD j 0=p.getD j 0)->ml c p' a ((L.set i (x.1,x.2.1+y.2.1,w)).eraseIdx (i+1)) b
 | u::v::L,a,b,0,x,y,h,e1,e2=>by
  obtain rfl:u=x:=by simpa using e1
  obtain rfl:v=y:=by simpa using e2
  obtain ⟨h1,h2,h3,h4,h5,h6,h7⟩:=h
  have le:=h7.le
  have e:v.1=u.1+u.2.1:=by rw [h4,h1]
  refine ⟨e,h2,h5,by omega,by omega,?_,?_,λ{w p'} s k=>?_⟩
  ·rw [h4,h1]; exact h3
  ·rw [h4]; exact h6
  ·show ml c p' a ((u.1,u.2.1+v.2.1,w)::L) b
   refine ⟨h1,by show 1<=u.2.1+v.2.1; omega,?_,?_⟩
   ·show SoR c p' a (a+(u.2.1+v.2.1))
    rw [show a+(u.2.1+v.2.1)=v.1+v.2.1 by omega,<- h1]
    exact s
   ·show ml c p' (a+(u.2.1+v.2.1)) L b
    rw [show a+(u.2.1+v.2.1)=a+u.2.1+v.2.1 by omega]
    exact h7.keep λj j1 j2=>k j (.inr (by omega))
 | [u],a,b,0,x,y,h,e1,e2=>by cases e2
 | [],a,b,i,x,y,h,e1,e2=>by cases i<;>cases e1
 | u::L,a,b,i+1,x,y,h,e1,e2=>by
  obtain ⟨h1,h2,h3,h4⟩:=h
  obtain ⟨a1,a2,a3,a4,a5,a6,a7,a8⟩:=ml.two (i:=i) h4 e1 e2
  refine ⟨a1,a2,a3,by omega,a5,a6,a7,λ{w p'} s k=>?_⟩
  exact ⟨h1,h2,h3.keep λj j1 j2=>k j (.inl (by omega)),a8 s k⟩
theorem ml.one:∀ {L b},ml c p 0 L b->L.length<=1->1<=b->SoR c p 0 b
 | [],b,h,_,hb=>by have:0=b:=h; omega
 | [x],b,h,_,_=>by
  obtain ⟨h1,h2,h3,h4⟩:=h
  have h4:0+x.2.1=b:=h4
  rw [<- h4]
  exact h3
 | x::y::L,b,h,hl,_=>by simp at hl
end
section
variable {prog:Program} {w:World} {A:Around} {E:Value->Shared->Prop} {κ:SortKind} {it:Array Keyed} {n:Nat} {c:Nat->Nat->Bool} {s:Shared} {p:Array Nat} {g:Nat}
theorem mergeL (ans:Ans prog w A κ it n c s) (T:Tot n c) (hp:Pm n p) {L:List (Nat × Nat × Nat)} {b i:Nat} (h:ml c p 0 L b) (hb:b<=n) (hi:i+1<L.length) {Q:Bool->SortSt->Shared->Prop}
  (q:∀ p' g' L',L'.length+1=L.length->ml c p' 0 L' b->Pm n p'->(∀ j,b<=j->p'.getD j 0=p.getD j 0)->Q true (sS κ it p' L'.toArray g') s):kasC (model prog w) A E (mergeAt' i) Q (sS κ it p L.toArray g) s:=by
 obtain ⟨⟨sa,na,pw⟩,e1⟩:∃ x,L[i]? = some x:=⟨_,getElem?_eq_getElem (by omega)⟩
 obtain ⟨⟨sb,nb,pw'⟩,e2⟩:∃ x,L[i+1]? = some x:=⟨_,getElem?_eq_getElem hi⟩
 obtain ⟨a1,a2,a3,a4,a5,a6,a7,a8⟩:=h.two e1 e2
 dsimp only at *
 refine mergeAt_c ans T hp (pend:=L.toArray) (by simpa using e1) (by simpa using e2) a1 a2 a3 (by omega) a6 a7 λp' g' h1 h2 h3=>?_
 have e:(L.toArray.setIfInBounds i (sa,na+nb,pw)).eraseIdxIfInBounds (i+1)=((L.set i (sa,na+nb,pw)).eraseIdx (i+1)).toArray:=by
  rw [List.setIfInBounds_toArray]
  unfold Array.eraseIdxIfInBounds
  rw [dif_pos (by simpa using hi),List.eraseIdx_toArray]
 rw [e]
 refine q p' g' _ ?_ (a8 h2 h3) h1 λj hj=>h3 j (.inr (by omega))
 rw [List.length_eraseIdx,List.length_set,if_pos hi]
 omega
end
section
variable {prog:Program} {w:World} {A:Around} {E:Value->Shared->Prop} {κ:SortKind} {it:Array Keyed} {n:Nat} {c:Nat->Nat->Bool} {s:Shared} {p:Array Nat} {g:Nat}
set_option maxHeartbeats 1000000 in
theorem sortRuns_c (ans:Ans prog w A κ it n c s) (T:Tot n c) (hp:Pm n p) (hn:1<=n) {Q:Unit->SortSt->Shared->Prop} (q:∀ p' pend' g',Pm n p'->SoR c p' 0 n->Q () (sS κ it p' pend' g') s):kasC (model prog w) A E sortRuns' Q (sS κ it p #[] g) s:=by
 rw [sortRuns'_eq]
 refine kasC_bind (kasC_get ?_)
 have ez:(arrOf (sS κ it p #[] g)).size=n:=by
  show (p.map (kas_item it)).size=n
  rw [Array.size_map]
  exact hp.sz
 rw [ez]
 dsimp only
 generalize minRun' n n 0=mr
 refine kasC_bind (aR (P:=λb st' s'=>s'=s/\b.1=none/\∃ p g L,st'=sS κ it p L.toArray g/\Pm n p/\ml c p 0 L n) ?_ ?_)
 ·refine bi (λk b st'=>(∃ p g L,st'=sS κ it p (List.toArray L) g/\Pm n p/\ml c p 0 L b.2)/\b.1=none/\b.2<=n/\n<=b.2+k) ⟨⟨p,g,[],rfl,hp,rfl⟩,rfl,Nat.zero_le n,by show n<=0+(n-0); omega⟩ ?_ ?_
  ·rintro k x ⟨r,lo⟩ st' ⟨⟨p,g,L,rfl,hp,hr⟩,rfl,b1,b2⟩
   dsimp only at *
   by_cases e1:lo ≥ n
   ·rw [if_pos e1]
    obtain rfl:lo=n:=by omega
    exact kasC_pure ⟨rfl,rfl,rfl,p,g,L,rfl,hp,hr⟩
   rw [if_neg e1]
   refine kasC_bind (countRun_c ans T hp (by omega) (by omega) λm p1 c1 c2 c3 c4 c5=>?_)
   have c6:ml c p1 0 L lo:=hr.keep λi _ h=>c5 i h
   dsimp only
   by_cases e2:m<mr
   ·rw [if_pos e2]
    refine kasC_bind (kasC_lift (wpAny_rule ?_))
    refine kasC_bind (lg ans T c3 (m:=min (n-lo) mr) c1 (by omega) (by omega) c4 λp2 d1 d2 d3=>?_)
    simp only [Bool.not_true,Bool.false_eq_true,if_false]
    have fm1:1<=min (n-lo) mr:=by omega
    have fm2:lo+min (n-lo) mr<=n:=by omega
    have fp:=d1
    have fs:=d2
    have fr:ml c p2 0 L lo:=c6.keep λi _ h=>d3 i h
    refine kasC_bind (kasC_get ?_)
    rcases List.eq_nil_or_concat L with rfl | ⟨L1,x1,rfl⟩
    ·rw [show (pendingOf (sS κ it p2 ([]:List (Nat × Nat × Nat)).toArray g)).back? = none from rfl]
     dsimp only
     refine kasC_bind (kasC_modify (kasC_pure ⟨rfl,⟨_,g,_,rfl,fp,ml.snoc fr fm1 fs⟩,rfl,by show lo+min (n-lo) mr<=n; omega,by show n<=lo+min (n-lo) mr+k; omega⟩))
    ·have eb:(pendingOf (sS κ it p2 (L1.concat x1).toArray g)).back? = some x1:=by
      show (L1.concat x1).toArray.back? = some x1
      rw [List.back?_toArray,List.concat_eq_append,List.getLast?_append]
      rfl
     rw [eb]
     obtain ⟨x1a,x1b,x1c⟩:=x1
     dsimp only
     refine kasC_bind (aR (P:=λb st' s'=>s'=s/\b.1=none/\∃ p g L,st'=sS κ it p L.toArray g/\Pm n p/\ml c p 0 L lo/\SoR c p lo (lo+min (n-lo) mr)) ?_ ?_)
     ·refine bi (λ_ b st'=>b.1=none/\∃ p g L,st'=sS κ it p L.toArray g/\Pm n p/\ml c p 0 L lo/\SoR c p lo (lo+min (n-lo) mr)) ⟨rfl,p2,g,_,rfl,fp,fr,fs⟩ ?_ ?_
      ·rintro k' x' ⟨r',u'⟩ st' ⟨rfl,p3,g3,L3,rfl,i1,i2,i3⟩
       refine kasC_bind (kasC_get ?_)
       by_cases hl:1<L3.length
       ·have et:(if L3.toArray.size > 1 then L3.toArray[L3.toArray.size-2]? else none)=some L3[L3.length-2]:=by
         rw [if_pos (by simpa using hl)]
         simp
        rw [et]
        dsimp only
        split
        ·exact kasC_pure ⟨rfl,rfl,rfl,p3,g3,L3,rfl,i1,i2,i3⟩
        ·refine kasC_bind (mergeL ans T i1 i2 (by omega) (by rw [size_toArray]; omega) λp4 g4 L4 _ j2 j3 j4=>?_)
         exact kasC_pure ⟨rfl,rfl,p4,g4,L4,rfl,j3,j2,i3.keep λi h1 h2=>j4 i h1⟩
       ·have et:(if L3.toArray.size > 1 then L3.toArray[L3.toArray.size-2]? else none)=none:=if_neg (by simpa using hl)
        rw [et]
        exact kasC_pure ⟨rfl,rfl,rfl,p3,g3,L3,rfl,i1,i2,i3⟩
      ·rintro ⟨r',u'⟩ st' ⟨rfl,h⟩
       exact ⟨rfl,rfl,h⟩
     ·rintro ⟨r',u'⟩ st' s' ⟨es,er,p3,g3,L3,rfl,i1,i2,i3⟩
      subst s'
      cases er
      dsimp only
      refine kasC_bind (kasC_modify (kasC_bind (kasC_modify (kasC_pure ⟨rfl,⟨_,g3,_,?_,i1,ml.snoc (w:=0) (ml.mod (w:=power' n (2*x1a+x1b) (2*x1a+x1b+x1b+min (n-lo) mr) n) (i:=L3.length-1) i2) fm1 i3⟩,rfl,by show lo+min (n-lo) mr<=n; omega,by show n<=lo+min (n-lo) mr+k; omega⟩))))
      show SortSt.mk' κ _ ((L3.toArray.modify (L3.toArray.size-1) _).push _) g3 none=_
      rw [List.modify_toArray,List.push_toArray]
      rfl
   ·rw [if_neg e2]
    have fm1:=c1
    have fm2:lo+m<=n:=by omega
    have fp:=c3
    have fs:=c4
    have fr:=c6
    refine kasC_bind (kasC_get ?_)
    rcases List.eq_nil_or_concat L with rfl | ⟨L1,x1,rfl⟩
    ·rw [show (pendingOf (sS κ it p1 ([]:List (Nat × Nat × Nat)).toArray g)).back? = none from rfl]
     dsimp only
     refine kasC_bind (kasC_modify (kasC_pure ⟨rfl,⟨_,g,_,rfl,fp,ml.snoc fr fm1 fs⟩,rfl,by show lo+m<=n; omega,by show n<=lo+m+k; omega⟩))
    ·have eb:(pendingOf (sS κ it p1 (L1.concat x1).toArray g)).back? = some x1:=by
      show (L1.concat x1).toArray.back? = some x1
      rw [List.back?_toArray,List.concat_eq_append,List.getLast?_append]
      rfl
     rw [eb]
     obtain ⟨x1a,x1b,x1c⟩:=x1
     dsimp only
     refine kasC_bind (aR (P:=λb st' s'=>s'=s/\b.1=none/\∃ p g L,st'=sS κ it p L.toArray g/\Pm n p/\ml c p 0 L lo/\SoR c p lo (lo+m)) ?_ ?_)
     ·refine bi (λ_ b st'=>b.1=none/\∃ p g L,st'=sS κ it p L.toArray g/\Pm n p/\ml c p 0 L lo/\SoR c p lo (lo+m)) ⟨rfl,p1,g,_,rfl,fp,fr,fs⟩ ?_ ?_
      ·rintro k' x' ⟨r',u'⟩ st' ⟨rfl,p3,g3,L3,rfl,i1,i2,i3⟩
       refine kasC_bind (kasC_get ?_)
       by_cases hl:1<L3.length
       ·have et:(if L3.toArray.size > 1 then L3.toArray[L3.toArray.size-2]? else none)=some L3[L3.length-2]:=by
         rw [if_pos (by simpa using hl)]
         simp
        rw [et]
        dsimp only
        split
        ·exact kasC_pure ⟨rfl,rfl,rfl,p3,g3,L3,rfl,i1,i2,i3⟩
        ·refine kasC_bind (mergeL ans T i1 i2 (by omega) (by rw [size_toArray]; omega) λp4 g4 L4 _ j2 j3 j4=>?_)
         exact kasC_pure ⟨rfl,rfl,p4,g4,L4,rfl,j3,j2,i3.keep λi h1 h2=>j4 i h1⟩
       ·have et:(if L3.toArray.size > 1 then L3.toArray[L3.toArray.size-2]? else none)=none:=if_neg (by simpa using hl)
        rw [et]
        exact kasC_pure ⟨rfl,rfl,rfl,p3,g3,L3,rfl,i1,i2,i3⟩
      ·rintro ⟨r',u'⟩ st' ⟨rfl,h⟩
       exact ⟨rfl,rfl,h⟩
     ·rintro ⟨r',u'⟩ st' s' ⟨es,er,p3,g3,L3,rfl,i1,i2,i3⟩
      subst s'
      cases er
      dsimp only
      refine kasC_bind (kasC_modify (kasC_bind (kasC_modify (kasC_pure ⟨rfl,⟨_,g3,_,?_,i1,ml.snoc (w:=0) (ml.mod (w:=power' n (2*x1a+x1b) (2*x1a+x1b+x1b+m) n) (i:=L3.length-1) i2) fm1 i3⟩,rfl,by show lo+m<=n; omega,by show n<=lo+m+k; omega⟩))))
      show SortSt.mk' κ _ ((L3.toArray.modify (L3.toArray.size-1) _).push _) g3 none=_
      rw [List.modify_toArray,List.push_toArray]
      rfl
  ·rintro ⟨r,lo⟩ st' ⟨⟨p,g,L,rfl,hp,hr⟩,rfl,b1,b2⟩
   have b1:lo<=n:=b1
   have b2:n<=lo+0:=b2
   obtain rfl:lo=n:=by omega
   exact ⟨rfl,rfl,p,g,L,rfl,hp,hr⟩
 ·rintro ⟨r,lo⟩ st' s' ⟨es,er,p,g,L,rfl,hp,hr⟩
  subst s'
  cases er
  dsimp only
  refine kasC_bind (aR (P:=λb st' s'=>s'=s/\∃ p g L,st'=sS κ it p L.toArray g/\Pm n p/\ml c p 0 L n/\L.length<=1) ?_ ?_)
  ·refine bi (λk b st'=>b.1=none/\∃ p g L,st'=sS κ it p (List.toArray L) g/\Pm n p/\ml c p 0 L n/\L.length<=k+1) ⟨rfl,p,g,L,rfl,hp,hr,by have:=hr.le; omega⟩ ?_ ?_
   ·rintro k x ⟨r,u⟩ st' ⟨rfl,p,g,L,rfl,hp,hr,hl⟩
    refine kasC_bind (kasC_get ?_)
    by_cases e1:L.toArray.size<=1
    ·rw [if_pos e1]
     exact kasC_pure ⟨rfl,rfl,p,g,L,rfl,hp,hr,by simpa using e1⟩
    rw [if_neg e1]
    have e1:¬ L.length<=1:=by simpa using e1
    refine kasC_bind (mergeL ans T hp hr (Nat.le_refl _) ?_ λp4 g4 L4 j1 j2 j3 j4=>kasC_pure ⟨rfl,rfl,p4,g4,L4,rfl,j3,j2,by omega⟩)
    have ls:(pendingOf (sS κ it p L.toArray g)).size=L.length:=size_toArray ..
    rw [ls]
    repeat' split
    all_goals omega
   ·rintro ⟨r,u⟩ st' ⟨_,h⟩
    exact ⟨rfl,h⟩
  ·rintro ⟨r,u⟩ st' s' ⟨es,p,g,L,rfl,hp,hr,hl⟩
   subst s'
   cases r with
   | none=>exact kasC_pure (q p _ g hp (hr.one hl hn))
   | some r=>exact kasC_pure (q p _ g hp (hr.one hl hn))
end
section
variable {X:Cx} {pins:List (Addr × Obj)} {σ:St} {H:Hp} {s:Shared}
theorem jx {A:Around} {E:Value->Shared->Prop} {f:Value} {H0:Hp} {D kS:Addr} {φ:Heap->Prop} {key:V->Int × List Int} {body:Value->PUnit->Sem (ForInStep PUnit)} {R:PUnit->Shared->Prop} {all:List V}
  (h0:H0 kS=none) (hn:all.length<4096)
  (hf:∀ x ∈ all,∀ u H1 s1,md x u->Inv X pins σ H1 s1->l0 H0 H1->wpAny (model X.prog X.w) A (call f [u]) (λk s2=>∃ y H2,Inv X pins σ H2 s2/\md y k/\l0 H1 H2/\mK X.K H2 y (key x)) (λ_ _=>False) s1)
  (hb:∀ u (s1:Shared) (C:Shared->Prop),wpAny (model X.prog X.w) A (call f [u]) (λk s2=>∃ (ks:List Value) (n:Nat),s2.heap.get? kS=some (seqObj "list" (List.toArray ks) n)/\ks.length<4096/\C { s2 with heap:=s2.heap.update kS (Obj.mapSeq (·.push k)) }) (λ_ _=>False) s1->
   wpAny (model X.prog X.w) A (body u ⟨⟩) (λr s2=>r=.yield ⟨⟩/\C s2) E s1)
  (hR:∀ H1 s1 ys ks,Inv X pins σ H1 s1->l0 H0 H1->H1 D=some (.ext φ)->H1 kS=some (.lst ys)->mD X.K H1 ys ks->ks=all.map key->R ⟨⟩ s1) :
  ∀ (r pre:List V) (us:List Value) (ys:List V) (H1:Hp) (s1:Shared),all=pre++r->l9 r us->Inv X pins σ H1 s1->l0 H0 H1->H1 D=some (.ext φ)->H1 kS=some (.lst ys)->mD X.K H1 ys (pre.map key)->
   wpAny (model X.prog X.w) A (forIn us PUnit.unit body) R E s1
 | [],pre,us,ys,H1,s1,ea,rv,I,sm,hD,hk,kr=>by
  cases rv
  rw [forIn_nil]
  exact wpAny_pure (hR H1 s1 ys _ I sm hD hk kr (by rw [ea,append_nil]))
 | x::r,pre,us,ys,H1,s1,ea,rv,I,sm,hD,hk,kr=>by
  cases rv with
  | cons q rv=>
   rename_i u us
   rw [forIn_cons]
   have hx:x ∈ all:=by rw [ea]; simp
   have hyl:ys.length=pre.length:=by have:=Paired.length kr; rw [length_map] at this; exact this
   have hal:all.length=pre.length+(r.length+1):=by rw [ea,length_append,length_cons]
   refine wpAny_bind (wpAny_mono (hb u s1 (λs2=>wpAny (model X.prog X.w) A (forIn us PUnit.unit body) R E s2) (wpAny_mono (hf x hx u H1 s1 q I sm) (λk s2 ⟨y,H2,I2,ry,sm2,ky⟩=>?_) λ_ _ z=>z)) (λz s2 ⟨ez,hz⟩=>?_) λ_ _ z=>z)
   ·obtain ⟨_,its,n,rk,lk,ek⟩:=I2.lstM (sm2 _ _ hk)
    refine ⟨its,n,ek,by omega,?_⟩
    have I3:=I2.lset (t':=s2.toks) (f:=(·.push k)) (its':=its++[k]) (ys:=ys++[y]) (sm2 _ _ hk) ek (by simp) (rk.append (.cons ry .nil)) (by rw [length_append,length_singleton,sizeLine_eq]; omega)
    have keep:∀ c o,H2 c=some o->c ≠ kS->upd H2 kS (.lst (ys++[y])) c=some o:=λc o e ne=>by rw [am ne]; exact e
    refine jx h0 hn hf hb hR r (pre++[x]) us (ys++[y]) _ _ (by rw [ea]; simp) rv I3 (λc o e=>?_) ?_ af ?_
    ·exact keep c o (sm2 _ _ (sm c o e)) (ak e h0)
    ·exact keep D _ (sm2 _ _ hD) (bh hD hk (by intro z; cases z))
    ·rw [map_append]
     exact mD.snoc (ky.but (sm2 _ _ hk) keep) (mD.imp (λ_ _ z=>(z.same sm2).but (sm2 _ _ hk) keep) kr)
   ·subst ez
    exact hz
theorem iZ {A:Around} {E:Value->Shared->Prop} {P:PySem.Fin->Shared->Prop} {H0:Hp} {D kS:Addr} {e1:Nat} {st:SortSt} {out:List Value} {ys zs:List V} (hout:(arrOf st).map (·.2)=List.toArray out) (hz:out.length<4096) (hf:failedOf st=none)
  (I:Inv X pins σ H s) (h0:H0 kS=none) (h1:H0 D=none) (sm:l0 H0 H) (hD:H D=some (.ext λh=>h.get? D=some (seqObj "list" #[] e1))) (hk:H kS=some (.lst ys)) (rv:l9 zs out.reverse)
  (h:∀ H2 s2,Inv X pins σ H2 s2->l0 H0 H2->H2 D=some (.lst zs)->P (.done (.ret .none)) s2):wpAny (model X.prog X.w) A (ksk_tail D true e1 (.ref kS) st) P E s:=by
 have ne:D ≠ kS:=bh hD hk (by intro z; cases z)
 have hzl:zs.length=out.length:=by rw [rv.length,length_reverse]
 obtain ⟨lz,its,n,rk,lk,ek⟩:=I.lstM hk
 have I1:=I.lset (t':=s.toks) (f:=λ_=>#[]) (its':=[]) (ys:=[]) hk ek rfl .nil (Nat.zero_le _)
 have hD1:upd H kS (.lst []) D=some (.ext λh=>h.get? D=some (seqObj "list" #[] e1)):=by rw [am ne]; exact hD
 have eD:(s.heap.update kS (Obj.mapSeq λ_=>#[])).get? D=some (seqObj "list" #[] e1):=(show mi X.prog X.w _ _ D (.ext _) from I1.hok D _ hD1).1
 have q:=get?_update_seq eD (λ_=>List.toArray out.reverse)
 have I2:Inv X pins σ (upd (upd H kS (.lst [])) D (.lst zs)) { s with heap:=(s.heap.update kS (Obj.mapSeq λ_=>#[])).update D (Obj.mapSeq λ_=>List.toArray out.reverse),toks:=s.toks }:=
  I1.write (x:=D) (e:=D) (by rw [hD1]; exact trivial) (.inl rfl) (λb' u hb hu=>(get?_update_other _ _ (Ne.symm hb)).trans hu) ⟨_,q⟩ ⟨by rw [hzl,sizeLine_eq]; omega,out.reverse,_,rv,q⟩
 unfold ksk_tail
 dsimp only
 rw [hout,kat_outs,show katRev true out=out.reverse from if_pos rfl]
 refine wpAny_bind (listUpdate_at ek rfl ?_ (by rw [size_toArray,<- lk]; exact lz) (Nat.zero_le _))
 refine wpAny_bind (wpAny_letGo ?_)
 refine wpAny_bind (seqEpoch_at eD rfl ?_)
 refine wpAny_bind (listUpdate_at eD rfl ?_ (Nat.zero_le _) (by rw [size_toArray,length_reverse,sizeLine_eq]; omega))
 rw [hf]
 simp only [bne_self_eq_false,Bool.false_eq_true,if_false]
 refine wpAny_pure (h _ _ I2 (λc o e=>?_) af)
 rw [am (ak e h1),am (ak e h0)]
 exact sm c o e
theorem sort_endB {A:Around} {E:Value->Shared->Prop} {P:PySem.Fin->Shared->Prop} {H0:Hp} {D kS:Addr} {e1:Nat} {xs ys:List V} {us its:List Value} {key:V->Int × List Int} (hu:A.units+64<cLine)
  (I:Inv X pins σ H s) (h0:H0 kS=none) (h1:H0 D=none) (sm:l0 H0 H) (hD:H D=some (.ext λh=>h.get? D=some (seqObj "list" #[] e1))) (hk:H kS=some (.lst ys)) (kr:mD X.K H ys (xs.map key)) (ru:l9 ys us) (rv:l9 xs its)
  (h64:xs.length<4096) (nd:(xs.map key).Nodup)
  (h:∀ H2 s2 zs,Inv X pins σ H2 s2->l0 H0 H2->H2 D=some (.lst zs)->zs.Perm xs->zs.Pairwise (λx y=>klt (key y) (key x)=true)->P (.done (.ret .none)) s2):wpAny (model X.prog X.w) A (ksk_end D true its.toArray e1 (.ref kS) us.toArray) P E s:=by
 have lx:=rv.length
 have lu:=ru.length
 have ly:ys.length=xs.length:=by have:=Paired.length kr; rw [length_map] at this; exact this
 have hl:us.length=its.length:=by omega
 unfold ksk_end
 dsimp only
 rw [if_pos rfl]
 refine wpAny_bind (wpAny_rule ?_)
 by_cases h2:its.toArray.size<2
 ·rw [if_pos h2,if_pos h2]
  refine wpAny_bind (wpAny_pure ?_)
  rw [StateT.run_pure]
  refine wpAny_bind (wpAny_pure ?_)
  dsimp only
  rw [kat_pairs true hl,show katRev true us=us.reverse from if_pos rfl,show katRev true its=its.reverse from if_pos rfl]
  refine iZ (st:=SortSt.mk' general' _ #[] 7 none) (out:=its.reverse) (zs:=xs) ?_ (by rw [length_reverse]; omega) rfl I h0 h1 sm hD hk (by rw [reverse_reverse]; exact rv) λH2 s2 I2 sm2 q=>h H2 s2 xs I2 sm2 q (.refl _) ?_
  ·show Array.map (·.2) ((us.reverse.toArray).zip (its.reverse.toArray))=_
   apply Array.toList_inj.mp
   rw [Array.toList_map,ksk_zip]
   exact map_snd_zip (by simp [hl])
  ·rw [size_toArray] at h2
   match xs,(by omega:xs.length<2) with
   | [],_=>exact .nil
   | [x],_=>exact pairwise_singleton _ _
 ·rw [if_neg h2,if_neg h2]
  rw [size_toArray] at h2
  obtain ⟨fs,t1,t2,t3⟩:=gH I kr ru
  refine wpAny_bind (kat_kind (T:=.type "int") t1 (by omega) (λv hv=>?_) (by decide) ?_)
  ·obtain ⟨n,t,rfl⟩:=t3 v hv
   exact Looks.of_pure rfl
  rw [show (Value.type "int" != Value.type "tuple")=true by decide,kat_pairs true hl,show katRev true us=us.reverse from if_pos rfl,show katRev true its=its.reverse from if_pos rfl]
  have tot:=kAt_tot (ks:=(xs.map key).reverse) ((reverse_perm _).nodup_iff.mpr nd)
  rw [length_reverse,length_map] at tot
  have rl:us.reverse.length=its.reverse.length:=by rw [length_reverse,length_reverse]; exact hl
  have est:SortSt.mk' (tuples' true) (us.reverse.toArray.zip its.reverse.toArray) #[] 7 none=sS (tuples' true) (us.reverse.toArray.zip its.reverse.toArray) (List.toArray (List.range xs.length)) #[] 7:=by
   have e:=kas_range (us.reverse.toArray.zip its.reverse.toArray)
   rw [show (us.reverse.toArray.zip its.reverse.toArray).size=xs.length by simp [lx,hl]] at e
   show _=SortSt.mk' _ ((List.toArray (List.range xs.length)).map _) #[] 7 none
   rw [e]
  rw [est]
  refine wpAny_bind (?_:kasC (model X.prog X.w) A E sortRuns' (λ_ st s'=>wpAny (model X.prog X.w) A (ksk_tail D true e1 (.ref kS) st) P E s') _ s)
  refine sortRuns_c (c:=kAt (xs.map key).reverse) (n:=xs.length) (λi j C hi hj hC=>?_) tot (List.Perm.refl _) (by omega) λp pd g' hp hs=>?_
  ·show wpAny _ _ (keyLt' _ _ _) C _ s
   rw [kat_item rl,kat_item rl]
   have at_:∀ i,i<xs.length->∃ y u,us.reverse.getD i Value.none=u/\md y u/\mK X.K H y ((xs.map key).reverse.getD i (0,[])):=λi hi=>by
    have hi':xs.length-1-i<ys.length:=by omega
    obtain ⟨k,ek,kk⟩:=mD.get kr (getElem?_eq_getElem hi')
    obtain ⟨u,eu,ru'⟩:=ru.get (getElem?_eq_getElem hi')
    refine ⟨ys[xs.length-1-i],u,?_,ru',?_⟩
    ·rw [getD_eq_getElem?_getD,getElem?_reverse (by omega),show us.length-1-i=xs.length-1-i by omega,eu]
     rfl
    ·rw [getD_eq_getElem?_getD,getElem?_reverse (by rw [length_map]; exact hi),length_map,ek]
     exact kk
   obtain ⟨y1,u1,e1,r1,k1⟩:=at_ i hi
   obtain ⟨y2,u2,e2,r2,k2⟩:=at_ j hj
   rw [e1,e2]
   exact key_lt hu I k1 k2 r1 r2 hC
  ·refine iZ (st:=sS _ _ p pd g') (out:=iW p its Value.none) (zs:=(iW p xs .non).reverse) (kat_snds rl rfl) ?_ rfl I h0 h1 sm hD hk (ko hp rv).reverse
    λH2 s2 I2 sm2 q=>h H2 s2 _ I2 sm2 q (kh hp) (jU hp λi j h1 h2=>hs i j (Nat.zero_le _) h1 h2)
   unfold iW
   rw [length_map,Array.length_toList,hp.sz]
   exact h64
theorem sort_treeB {A:Around} {E:Value->Shared->Prop} {P:PySem.Fin->Shared->Prop} {H0:Hp} {D:Addr} {f:Value} {xs:List V} {key:V->Int × List Int} (hu:A.units+64<cLine)
  (I:Inv X pins σ H s) (h1:H0 D=none) (sm:l0 H0 H) (hD:H D=some (.lst xs)) (h64:xs.length<4096) (nd:(xs.map key).Nodup) (hf:KeyF X pins σ A f H0 xs key)
  (h:∀ H2 s2 zs,Inv X pins σ H2 s2->l0 H0 H2->H2 D=some (.lst zs)->zs.Perm xs->zs.Pairwise (λx y=>klt (key y) (key x)=true)->P (.done (.ret .none)) s2):wpAny (model X.prog X.w) A (ksk_tree D f true) P E s:=by
 obtain ⟨lz,its,n,rv,lk,e⟩:=I.lstM hD
 have q:=get?_update_seq e (λ_=>#[])
 have I1:Inv X pins σ (upd H D (.ext λh=>h.get? D=some (seqObj "list" #[] (if ((#[]:Array Value).size == its.toArray.size)=true then n else n+1)))) { s with heap:=s.heap.update D (Obj.mapSeq λ_=>#[]),toks:=s.toks }:=
  I.write (x:=D) (e:=D) (by rw [hD]; exact trivial) (.inl rfl) (λb' u hb hu=>(get?_update_other _ _ (Ne.symm hb)).trans hu) ⟨_,q⟩ ⟨q,⟨_,q⟩,λ_ _ p k=>k _ p⟩
 have I2:=I1.laid (t':=s.toks) (o:=.tup xs) (λb ob z=>get?_push_of_some { cls:=.type "tuple",data:=.seq its.toArray } z) (Nat.le_refl _) ⟨by rw [sizeLine_eq]; omega,its,rv,IsTup.new _ _⟩
 have I3:=I2.lnew (t':=s.toks) (ys:=[]) (its:=[]) .nil (Nat.zero_le _)
 have nT:=I1.fresh
 have nK:=I2.fresh
 have hD1:upd H D (.ext λh=>h.get? D=some (seqObj "list" #[] (if ((#[]:Array Value).size == its.toArray.size)=true then n else n+1))) D=some (.ext λh=>h.get? D=some (seqObj "list" #[] (if ((#[]:Array Value).size == its.toArray.size)=true then n else n+1))):=af
 have s1:l0 H0 (upd H D (.ext λh=>h.get? D=some (seqObj "list" #[] (if ((#[]:Array Value).size == its.toArray.size)=true then n else n+1)))):=sm.put h1
 have hD2:=l0.new (o:=.tup xs) nT _ _ hD1
 have s2:=s1.trans (l0.new (o:=.tup xs) nT)
 have hD3:=l0.new (o:=.lst []) nK _ _ hD2
 have s3:=s2.trans (l0.new (o:=.lst []) nK)
 have hK0:=s2.free nK
 unfold ksk_tree
 refine wpAny_bind (listItems_at e rfl ?_)
 refine wpAny_bind (listUpdate_at e rfl ?_ (by rw [size_toArray,sizeLine_eq]; omega) (Nat.zero_le _))
 refine wpAny_bind (seqEpoch_at q rfl ?_)
 refine wpAny_bind (wpAny_newTuple ?_ (by show its.length<=_; rw [sizeLine_eq]; omega))
 refine wpAny_bind (wpAny_newList ?_ (Nat.zero_le _))
 refine wpAny_holding ?_
 unfold ksk_rest
 refine wpAny_bind (wpAny_rule ?_)
 first
  | rw [List.forIn_toArray]
  | (rw [<- Array.forIn_toList]; simp only [List.toList_toArray])
  | rw [<- Array.forIn_toList]
 refine wpAny_bind (jx (all:=xs) hK0 h64 hf (λu s1 C hc=>?_) (λH4 s4 ys ks I4 sm4 hD4 hk4 kr ek=>?_) xs [] its [] _ _ rfl rv I3 s3 hD3 af .nil)
 ·refine wpAny_bind (wpAny_attempt (wpAny_mono hc (λk s5 ⟨ks,m,eo,hz,hC⟩=>?_) λ_ _ z=>z.elim))
  dsimp only
  refine wpAny_bind (listUpdate_at eo rfl ?_ (by rw [size_toArray,sizeLine_eq]; omega) (Nat.le_trans (Nat.le_of_eq (Array.size_push ..)) (by rw [size_toArray,sizeLine_eq]; omega)))
  exact wpAny_pure ⟨rfl,hC⟩
 ·dsimp only
  obtain ⟨_,us,m,ru,_,eo⟩:=I4.lstM hk4
  refine wpAny_bind (listItems_at eo rfl ?_)
  subst ek
  exact sort_endB hu I4 hK0 h1 sm4 hD4 hk4 kr ru rv h64 nd h
theorem lF {E:Value->Shared->Prop} {x:V} {u:Value} {f:Addr} {B:List V->Prop} {Q:Value->Shared->Prop} (hh:X.A.handled=none) (hu:X.A.in1.in1.units+64<cLine) (I:Inv X pins σ H s) (rx:md x u) (hs:Src X.K H x B)
  (hB:∀ xs,B xs->xs.length<4096/\∃ key:V->Int × List Int,(xs.map key).Nodup/\KeyF X pins σ X.A.in1.in1 (.ref f) H xs key/\
   ∀ D H2 s2 zs,H D=none->Inv X pins σ H2 s2->l0 H H2->H2 D=some (.lst zs)->zs.Perm xs->zs.Pairwise (λx y=>klt (key y) (key x)=true)->Q (.ref D) s2) :
  wpAny (model X.prog X.w) X.A (call (.builtin "sorted") [u] [(Str.ofString "key",.ref f),(Str.ofString "reverse",.bool true)]) Q E s:=by
 refine call_function_entry_kw kind_sorted plain_sorted entry_sorted (ksk_s2 _ _ _) ?_
 unfold Builtin.«sorted»
 refine wpAny_bind (m:=checkCount "sorted" 1 1 _) (wpAny_pure ?_)
 refine wpAny_bind (gY (A:=X.A.in1) hh I rx hs λh' tk its xs src rv hk' hz=>?_)
 obtain ⟨h64,key,nd,kf,h⟩:=hB xs src
 have I1:Inv X pins σ H { s with heap:=h',toks:=tk }:=I.kept hk'
 have I2:=I1.lnew (t':=tk) rv hz
 refine wpAny_bind (wpAny_newList ?_ (by rw [<- rv.length]; exact hz))
 refine wpAny_bind (wpAny_holding (wpAny_call_entry_kw slot_list_sort ⟨_,get?_push_size _ rfl,rfl⟩ entry_list_sort ?_ (ksk_l2 _ _ _)))
 rw [ksk_t2]
 refine sort_treeB (key:=key) hu I2 I1.fresh (l0.new I1.fresh) af h64 nd kf λH2 s2 zs I3 sm q pm pw=>⟨_,rfl,wpAny_pure ⟨_,rfl,h _ H2 s2 zs I1.fresh I3 sm q pm pw⟩⟩
end
def SortBB (K:Frag) (sp:Sp) (H1:Hp) (Q:VK) (xs:List V):Prop:=xs.length<4096/\∃ key:V->Int × List Int,(xs.map key).Nodup/\(∀ y ∈ xs,∀ H2,l0 H1 H2->sp [y] H2 (λz H3=>l0 H2 H3/\mK K H3 z (key y)) E0)/\
 ∀ D H2 zs,H1 D=none->l0 H1 H2->H2 D=some (.lst zs)->zs.Perm xs->zs.Pairwise (λx y=>klt (key y) (key x)=true)->Q (.ref D) H2
def tSortB (K:Frag) (sp:Sp) (te:TE):TE:=λσ H Q=>te σ H λx H1=>Src K H1 x (SortBB K sp H1 Q)
section
variable {X:Cx} {p pos kp k1 k2 kp2:Pos} {e:Expr} {te:TE}
theorem pe_sortKB (T:Blt X.mg) {x:Str} {k:Nat} {sp:Sp} {j:Nat} (F:FnB X.prog X.w X.K X.mg X.base k x sp) (hr:mj (k+2) X.A) (he:PE X e te) (hg:Gl X "sorted":=by rfl) (hgx:Gl X x:=by rfl) (hdb:(x == ("__debug__" : Str))=false:=by decide)
  (hs:starEach [e] X.env=[(false,eval e X.env)]:=by rfl) :
  PE X (.Call (.Name "sorted" p) [e] [⟨some "key",.Name x kp,k1⟩,⟨some "reverse",.Constant (.bool true) j kp2,k2⟩] pos) (tSortB X.K sp te):=by
 obtain ⟨f,fd,ps,F',hm,hk,hb⟩:=F.ex
 intro pins s σ H Q I h
 refine wpAny_Call_Name_kw (dU I hg T.sorted boot_sorted ?_)
 refine callWith_kw ?_ (by rw [hs]; rfl) (by rw [hs]; rfl)
 refine thn ((aa he ah hs) pos pins s σ H (λvs H1=>match vs with | [v]=>Src X.K H1 v (SortBB X.K sp H1 Q) | _=>False) I h) λus s1 ⟨vs,H1,I1,r1,q1⟩=>?_
 match vs,r1,q1 with
 | [v],r1,q1=>
  obtain ⟨u,rfl,ru⟩:=r1.one
  refine thn ((iu (gh (v:=.ref f) hgx hm rfl hdb) (iu cr pk_nil)) pos pins s1 σ H1 (λzs H2=>zs=[V.ref f,.bl true]/\H2=H1) I1 ⟨rfl,rfl⟩) λws s2 ⟨zs,H2,I2,r2,e1,e2⟩=>?_
  subst e1 e2
  obtain ⟨w1,w2,rfl,rw1,rw2⟩:=r2.two
  cases rw1
  cases rw2
  refine lF (f:=f) hr.hd hr.in1.in1.units I2 ru q1 λxs ⟨h64,key,nd,hk1,hq⟩=>⟨h64,key,nd,key_fn (A:=X.A) F' hb hr.in1.in1 hk1,λD H3 s3 zs nD I3 sm q pm pw=>⟨.ref D,H3,I3,rfl,hq D H3 zs nD sm q pm pw⟩⟩
end
end L2
namespace L2
open PySem PySem.Spec PyProof.Rows
section
variable {prog:Program} {w:World} {A:Around} {E:Value->Shared->Prop}
theorem draw_lst {it l:Addr} {items:Array Value} (hne:l ≠ it):∀ (n i:Nat) (s:Shared) (Q:List Value->Shared->Prop),s.heap.IsListIter it l i->s.heap.IsList l items->i+n<=items.size->
  (∀ h',h'.IsListIter it l (i+n)->Heap.SameBut it s.heap h'->Q ((items.toList.drop i).take n) { s with heap:=h' })->wpAny (model prog w) A (draw (.ref it) n) Q E s
 | 0,i,s,Q,hit,_,_,hQ=>wpAny_pure (by simpa using hQ s.heap hit (Heap.SameBut.refl ..))
 | n+1,i,s,Q,hit,ht,hle,hQ=>by
  have hlt:i<items.size:=by omega
  refine wpAny_bind (wpAny_pyNext_list_item hit ht (x:=items[i]) (by simp [hlt]) λh1 i1 s1=>?_)
  refine wpAny_bind (wpAny_holding (draw_lst hne n (i+1) _ _ i1 (ht.extBut s1.extBut hne) (by omega) λh2 i2 s2=>wpAny_pure ?_))
  have hd:items.toList.drop i=items[i]::items.toList.drop (i+1):=by simp [List.drop_eq_getElem_cons,hlt]
  have:=hQ h2 (by rw [show i+(n+1)=i+1+n by omega]; exact i2) (s1.trans s2)
  rw [hd,take_succ_cons] at this
  exact this
theorem unpack_lst {s:Shared} {l:Addr} {items:Array Value} {Q:List Value->Shared->Prop} (hh:A.handled=none) (hl:s.heap.IsList l items)
  (hQ:∀ h',Heap.ExtBut s.heap.objs.size s.heap h'->Q items.toList { s with heap:=h' }):wpAny (model prog w) A (unpackItems (.ref l) items.size none) Q E s:=by
 have hlt:l ≠ s.heap.objs.size:=by obtain ⟨o,ho,_⟩:=hl; exact Nat.ne_of_lt (lt_size ho)
 unfold unpackItems
 refine wpAny_bind ?_
 unfold notIterableAtAll
 refine wpAny_bind (wpAny_specialOf hl.typeIs slot_list_iter.lookup (wpAny_pure ?_))
 simp only [Bool.false_eq_true,if_false]
 refine wpAny_bind (wpAny_holding (wpAny_pyIter_list hl ?_))
 refine wpAny_bind (wpAny_holding (draw_lst hlt items.size 0 _ _ ⟨_,get?_push_size _ rfl,rfl,rfl⟩ (hl.push _) (by omega) λh1 i1 s1=>?_))
 rw [show List.take items.size (List.drop 0 items.toList)=items.toList by rw [List.drop_zero]; exact take_of_length_le (by simp),if_neg (by simp)]
 have l1:h1.IsList l items:=(hl.push _).extBut s1.extBut hlt
 refine wpAny_bind (wpAny_holding (wpAny_pyNext_list_end hh i1 l1 (by simp) λh2 e2=>?_))
 simp only [Option.isSome_none,Bool.false_eq_true,if_false]
 exact wpAny_pure (hQ h2 λb o hb e=>e2 b o hb (s1.extBut b o hb (get?_push_of_some _ e)))
end
section
variable {X:Cx} {pos:Pos}
def gLst (n:Nat) (t:TGs):TG:=λv σ H Q=>∃ a xs,v=.ref a/\H a=some (.lst xs)/\xs.length=n/\t xs σ H Q
theorem pg_lst {es:List Expr} {k:Nat} {t:TGs} {n:Nat} (hc:X.calm=true) (h:PGs X es t)
  (hn:(assignEach es X.env).length=n:=by rfl) (hst:(assignEach es X.env).findIdx? (·.1)=none:=by rfl):PG X (.Tuple es k pos) (gLst n t):=by
 intro pins s σ H v u Q I r hw
 obtain ⟨a,xs,e1,hq,hl,hw⟩:=hw
 subst e1
 cases r
 obtain ⟨its,m,rv,e,hz⟩:=I.lst hq
 rw [PyProof.Rows.assign_Tuple]
 refine wpAny_bind (wpAny_standAt ?_)
 unfold unpack
 rw [show (assignEach es X.env).length=its.toArray.size by simp [hn,<- hl,rv.length],hst]
 refine wpAny_bind (wpAny_holding (unpack_lst (I.ok.hd hc) ⟨_,e,rfl,m,rfl⟩ λh' hx=>?_))
 have I1:Inv X pins σ H { s with heap:=h' }:=I.kept (t':=s.toks) λb o e=>hx b o (Nat.ne_of_lt (lt_size e)) e
 exact h pins _ σ H xs _ Q I1 (by simpa using rv) hw
end
end L2
set_option exponentiation.threshold 9000
namespace K
open PySem L2 PyProof.Rows
variable {P:Program} {w:World} {K:Frag} {mg:Str->Option Value} {base:Heap}
def top (i:Nat):Stmt:=PySem.Challenge.pw_relationladder_k13_products_of_sums.main.body.getD i (.Pass ⟨0,0,0,0⟩)
abbrev aN:Stmt:=inClass (top 9) 0
abbrev aF:Stmt:=inClass (top 9) 2
abbrev aT:Stmt:=inClass (top 9) 3
abbrev aS:Stmt:=inClass (top 10) 0
abbrev be:Stmt:=inClass (top 10) 1
abbrev aO:Stmt:=inClass (top 10) 3
abbrev br:Stmt:=inClass (top 10) 4
abbrev bO:Stmt:=top 11
abbrev ck:Stmt:=top 12
abbrev fG:Stmt:=top 13
abbrev bA:Stmt:=top 14
abbrev gU:Stmt:=top 15
abbrev cp:Stmt:=top 17
abbrev iI:Stmt:=top 18
abbrev iT:Stmt:=top 19
abbrev aW:Stmt:=inClass (top 22) 0
abbrev bb:Stmt:=inClass (top 22) 1
abbrev i8:Stmt:=top 23
abbrev s_plus:Stmt:=top 24
abbrev kW:Stmt:=top 25
abbrev cm:Stmt:=top 26
abbrev fM:Stmt:=top 27
abbrev eB:Stmt:=top 29
abbrev fT:Stmt:=top 30
abbrev eW:Stmt:=top 31
abbrev dq:Stmt:=top 32
abbrev cU:Stmt:=top 33
abbrev dj:Stmt:=top 34
abbrev fV:Stmt:=top 35
abbrev cj:Stmt:=top 36
abbrev dE:Stmt:=top 37
abbrev cG:Stmt:=top 38
abbrev eV:Stmt:=top 39
abbrev dM:Stmt:=top 40
abbrev cT:Stmt:=top 41
abbrev eK:Stmt:=top 42
abbrev bU:Stmt:=top 43
abbrev fQ:Stmt:=top 44
abbrev fK:Stmt:=top 45
abbrev bL:Stmt:=top 46
abbrev bB:Stmt:=top 47
abbrev cg:Stmt:=top 48
abbrev bP:Stmt:=top 49
abbrev dH:Stmt:=top 50
abbrev dX:Stmt:=top 51
abbrev dF:Stmt:=top 52
abbrev dD:Stmt:=top 53
abbrev dI:Stmt:=top 54
abbrev s_law:Stmt:=top 55
theorem nd_0:(["_law_part", "_law_number_here"]:List Str).Nodup:=by decide +kernel
theorem nd_1:(["_law_product", "_law_come", "_law_prime_here"]:List Str).Nodup:=by decide +kernel
def CDivA (_ j:Int):Prop:=j ≠ 0/\j.natAbs<2 ^ 6000
theorem CDivA.ok {i j:Int} (h:CDivA i j):Builtin.divisionGoesByPylong i j=false:=by
 refine PyProof.noPylong_of_log2 ?_
 by_cases h0:j.natAbs=0
 ·rw [h0]; decide +kernel
 ·have h30:j.natAbs.log2<6000:=(Nat.log2_lt h0).mpr h.2
  omega
theorem bj {X:Cx}:OpR X (binaryOp .FloorDiv) (rI CDivA λi j=>.int (i.fdiv j)):=opI λ_ _ _ _ _ _ _ hc q=>floordiv_int hc.1 q (.inl hc.ok)
theorem mulOk {i j:Int} (hi:i.natAbs<2 ^ 6000) (hj:j.natAbs<2 ^ 6000):IntMulOk i j:=by
 have bits:∀ {k:Int},k.natAbs<2 ^ 6000->Builtin.Int.intBits k<=6000:=λ{k} h=>by
  unfold Builtin.Int.intBits
  split
  ·omega
  ·rename_i h0
   have h0':k.natAbs ≠ 0:=by intro z; apply h0; simp; omega
   have:=(Nat.log2_lt h0').mpr h
   omega
 have h1:=bits hi
 have h2:=bits hj
 unfold IntMulOk
 have h3:Builtin.Int.intTooBig ((Builtin.Int.intBits i:Int)+Builtin.Int.intBits j)=false:=by
  unfold Builtin.Int.intTooBig
  rw [decide_eq_false_iff_not]
  have:bitsLine=2 ^ 27:=rfl
  rw [this]
  omega
 rw [h3]
 simp
theorem cX {K:Frag} {a:Addr} {xs:List V} {g:TG} {tb:TS} {D:gq} {σ:L2.St} {H:Hp} (Pv:Nat->L2.St->Hp->Prop) (h0:Pv 0 σ H) (hl:∀ i σ H,i<=xs.length->Pv i σ H->SqL K H a xs)
  (hs:∀ i x σ H,xs[i]? = some x->Pv i σ H->∀ N B:L2.St->Hp->Prop,(∀ σ' H',Pv (i+1) σ' H'->N σ' H')->g x σ H λσ2 H2=>tb { nx:=N,ct:=N,bk:=B,rt:=D.rt } σ2 H2) (hd:∀ σ H,Pv xs.length σ H->D.nx σ H) :
  ∃ W:Nat->Nat->L2.St->Hp->Prop,(∃ m,W 0 m σ H)/\∀ i m σ H,W i m σ H->
   ((Itl K a).stop i H/\D.nx σ H)\/((Itl K a).go i H/\∃ N:L2.St->Hp->Prop,(∀ σ' H',N σ' H'->∃ m',m' < m/\W (i+1) m' σ' H')/\∀ x H',(Itl K a).yld i H x H'->g x σ H' λσ2 H2=>tb { D with nx:=N,ct:=N,bk:=D.nx } σ2 H2):=
 dY Pv h0 hl (λi x σ H e p=>hs i x σ H e p _ _ λ_ _ z=>z) hd
theorem for_rangeN {lo:Int} {n:Nat} {g:TG} {tb:TS} {D:gq} {σ:L2.St} {H:Hp} (Pv:Nat->L2.St->Hp->Prop) (h0:Pv 0 σ H)
  (hs:∀ i σ H,i<n->Pv i σ H->∀ N B:L2.St->Hp->Prop,(∀ σ' H',Pv (i+1) σ' H'->N σ' H')->g (.int (lo+i)) σ H λσ2 H2=>tb { nx:=N,ct:=N,bk:=B,rt:=D.rt } σ2 H2) (hd:∀ σ H,Pv n σ H->D.nx σ H) :
  ∃ W:Nat->Nat->L2.St->Hp->Prop,(∃ m,W 0 m σ H)/\∀ i m σ H,W i m σ H->
   ((Itr lo n).stop i H/\D.nx σ H)\/((Itr lo n).go i H/\∃ N:L2.St->Hp->Prop,(∀ σ' H',N σ' H'->∃ m',m' < m/\W (i+1) m' σ' H')/\∀ x H',(Itr lo n).yld i H x H'->g x σ H' λσ2 H2=>tb { D with nx:=N,ct:=N,bk:=D.nx } σ2 H2):=
 fo Pv h0 (λi σ H e p=>hs i σ H e p _ _ λ_ _ z=>z) hd
theorem for_zipN {t1 t2:Bool} {K:Frag} {a b:Addr} {xs ys:List V} {g:TG} {tb:TS} {D:gq} {σ:L2.St} {H:Hp} (Pv:Nat->L2.St->Hp->Prop) (h0:Pv 0 σ H) (hl:∀ i σ H,i<=min xs.length ys.length->Pv i σ H->SqV t1 K H a xs/\SqV t2 K H b ys)
  (hs:∀ (i:Nat) x y σ H p,xs[i]? = some x->ys[i]? = some y->Pv i σ H->H p=none->∀ N B:L2.St->Hp->Prop,(∀ σ' H',Pv (i+1) σ' H'->N σ' H')->g (.ref p) σ (upd H p (.tup [x,y])) λσ2 H2=>tb { nx:=N,ct:=N,bk:=B,rt:=D.rt } σ2 H2) (hd:∀ σ H,Pv (min xs.length ys.length) σ H->D.nx σ H) :
  ∃ W:Nat->Nat->L2.St->Hp->Prop,(∃ m,W 0 m σ H)/\∀ i m σ H,W i m σ H->
   ((Itz t1 t2 K a b).stop i H/\D.nx σ H)\/((Itz t1 t2 K a b).go i H/\∃ N:L2.St->Hp->Prop,(∀ σ' H',N σ' H'->∃ m',m' < m/\W (i+1) m' σ' H')/\∀ x H',(Itz t1 t2 K a b).yld i H x H'->g x σ H' λσ2 H2=>tb { D with nx:=N,ct:=N,bk:=D.nx } σ2 H2):=
 for_zip Pv h0 hl (λi x y σ H p e1 e2 q n=>hs i x y σ H p e1 e2 q n _ _ λ_ _ z=>z) hd
theorem aG {j:Int} (h:0<=j) (h2:j<2 ^ 63):j.natAbs<2 ^ 6000:=by
 have h3:j.natAbs<2 ^ 63:=by omega
 exact Nat.lt_of_lt_of_le h3 (Nat.pow_le_pow_right (by decide) (by decide))
theorem eS {i j:Int} (h:0<j) (h2:j<2 ^ 63):CDivA i j:=⟨by omega,aG (by omega) h2⟩
theorem at_int (ns:List Int) {k:Int} (h0:0<=k) (h1:k<ns.length):∃ z,atI (ns.map V.int) k=some (V.int z):=by
 obtain ⟨n,rfl⟩:=Int.eq_ofNat_of_zero_le h0
 have hn:n<ns.length:=by omega
 exact ⟨ns[n],atI_nat (by rw [getElem?_map,getElem?_eq_getElem hn]; rfl)⟩
def spCell (K:Frag):Sp:=λvs H Q _=>∃ (a:Addr) (ns:List Int) (k:Int),vs=[.ref a,.int k]/\SqL K H a (ns.map V.int)/\ns.length<=63/\0<=k/\k<=100/\∀ r:Int,Q (.int r) H
def fD (a b:Int):Int:=(a*48271+7919*b*b+17) % 2147483647
def mn (a b:Int) (k:Nat):Prop:=b=0\/(0<=a/\a<2147483647/\0<b/\b<=k)
def spBag (K:Frag):Sp:=λvs H Q _=>∃ (a:Addr) (ns:List Int) (k:Int),vs=[.ref a,.int k]/\SqL K H a (ns.map V.int)/\ns.length<=63/\0<=k/\k<=99/\
 ∀ (p:Addr) (a b:Int),H p=none->mn a b 100->Q (.ref p) (upd H p (.lst [.int a,.int b]))
def dB:Sp:=λvs H Q _=>∃ (p:Addr) (a b m:Int) (k:Nat),vs=[.ref p,.int m]/\H p=some (.lst [.int a,.int b])/\mn a b k/\k<=1000000/\0<m/\m.natAbs<2 ^ 6000/\
 ∀ r a' b',0<=r->r<m->mn a' b' (k+1)->Q (.int r) (upd H p (.lst [.int a',.int b']))
theorem ni:l8 ["_law_script", "_law_k", "_law_seed", "_law_some"] ["_law_script", "_law_k"] (aj eB):=.i
theorem ok_cell {f:Addr} {fd:FuncData} (F:Fun K "_law_cell" "_law_cell" eB f fd) (T:Blt mg):me P w K mg base CX0 1 f fd ["_law_script", "_law_k"] (spCell K):=by
 refine F.o ni λ_ _ _ _ H _ Q _ hr h=>?_
 ·obtain ⟨a,ns,k,rfl,hS,hl,hk0,hk1,q⟩:=h
  have hln:((ns.map V.int).length:Int)=ns.length:=by rw [length_map]
  refine ⟨_,(ag (aK (az gZ (pv 1) (dw K T (pv 0)) (aA _))
(ai (ap (aB (aM K rfl) (pv 0) (pv 1) (λ_ _=>rfl))))
aC)
(ag (ar (i:=2) ni.nd rfl (Or.inl rfl) (ao bg (pv 1) ae))
(ag (aK (az cY (dw K T (pv 0)) ae (aA _))
(ai (ar (i:=2) ni.nd rfl (Or.inl rfl) (ao aP (pv 2) (ao aZ (aB (aM K rfl) (pv 0) (ao aZ (pv 1) (dw K T (pv 0))) (λ_ _=>rfl)) ae))))
aC)
(ag (ar (i:=3) ni.nd rfl (Or.inl rfl) (ao aZ (ao bg (pv 2) ae) ae))
(ai (ap (ao aZ (ao bj (ao bg (pv 3) (ao aP (ao aP (pv 3) (ao bg ae (pv 1))) ae)) ae) ae))))))),?_⟩
  refine ⟨_,rfl,_,rfl,a,_,rfl,.inl hS,_,_,rfl,rfl,_,rfl,?_⟩
  refine bu (λh=>?_) (λh=>?_)
  ·have h':k<ns.length:=by have:=of_decide_eq_true h; omega
   obtain ⟨z,hz⟩:=at_int ns hk0 h'
   exact ⟨_,rfl,_,rfl,a,_,_,_,rfl,rfl,hS,hz,q _⟩
  ·refine ⟨_,rfl,_,_,rfl,rfl,.inl ⟨by omega,by omega⟩,?_⟩
   refine ⟨_,rfl,a,_,rfl,.inl hS,_,_,rfl,rfl,_,rfl,?_⟩
   have fin:∀ sd:Int,(0:Int)<=sd*48271 % 65537/\sd*48271 % 65537<65537:=λsd=>⟨Int.emod_nonneg _ (by decide),Int.emod_lt_of_pos _ (by decide)⟩
   refine bu (λh=>?_) (λh=>?_)
   ·have h':0<(ns.length:Int):=by have:=of_decide_eq_true h; omega
    obtain ⟨z,hz⟩:=at_int ns (k:=k % ((ns.map V.int).length:Int)) (Int.emod_nonneg _ (by omega)) (by have:=Int.emod_lt_of_pos k (b:=((ns.map V.int).length:Int)) (by omega); omega)
    refine ⟨_,rfl,_,rfl,_,rfl,_,rfl,a,_,rfl,.inl hS,_,_,rfl,rfl,(by show (0:Int)<_; omega),a,_,_,_,rfl,rfl,hS,hz,_,_,rfl,rfl,(by show (0:Int)<65537; decide),_,_,rfl,rfl,?_⟩
    have f1:=fin (k*7919+z % 65537)
    refine ⟨_,rfl,_,_,rfl,rfl,.inr ⟨by decide,by decide⟩,_,_,rfl,rfl,(by show (0:Int)<65537; decide),?_⟩
    exact ⟨_,rfl,_,rfl,_,rfl,_,_,rfl,rfl,.inl ⟨by decide,by decide⟩,_,_,rfl,rfl,_,_,rfl,rfl,_,_,rfl,rfl,.inl ⟨Int.lt_of_lt_of_le (by decide) f1.1,Int.lt_of_lt_of_le f1.2 (by decide)⟩,_,_,rfl,rfl,eS (by decide) (by decide),_,_,rfl,rfl,(by show (0:Int)<65521; decide),q _⟩
   ·have f1:=fin (k*7919)
    refine ⟨_,rfl,_,_,rfl,rfl,.inr ⟨by decide,by decide⟩,_,_,rfl,rfl,(by show (0:Int)<65537; decide),?_⟩
    exact ⟨_,rfl,_,rfl,_,rfl,_,_,rfl,rfl,.inl ⟨by decide,by decide⟩,_,_,rfl,rfl,_,_,rfl,rfl,_,_,rfl,rfl,.inl ⟨Int.lt_of_lt_of_le (by decide) f1.1,Int.lt_of_lt_of_le f1.2 (by decide)⟩,_,_,rfl,rfl,eS (by decide) (by decide),_,_,rfl,rfl,(by show (0:Int)<65521; decide),q _⟩
theorem sc__law_bag:l8 ["_law_script", "_law_at", "_law_cell_here"] ["_law_script", "_law_at"] (aj fT):=.i
theorem ok_bag {f:Addr} {fd:FuncData} (F:Fun K "_law_bag" "_law_bag" fT f fd) (pi:FnB P w K mg base 1 "_law_cell" (spCell K)):me P w K mg base CX0 2 f fd ["_law_script", "_law_at"] (spBag K):=by
 refine F.o sc__law_bag λ_ _ _ _ H _ Q _ hr h=>?_
 ·obtain ⟨a,ns,k,rfl,hS,hl,hk0,hk1,q⟩:=h
  refine ⟨_,(ag (ar (i:=2) sc__law_bag.nd rfl (Or.inl rfl) (aq pi hr.m (aa (pv 0) (aa (pv 1) ah))))
(ag (aK (PW.pt (dQ (az op_ge (pv 2) (ao fE ae ae) (aA _)) (eC (az op_le (pv 2) (pe_un un_neg (ao fE ae ae)) (aA _)))))
(ai (ap (ci (aa (pv 2) (aa ae ah)))))
aC)
(ai (ap (ci (aa (ao aZ (pv 2) ae) (aa (ao aP (pv 1) ae) ah))))))),?_⟩
  refine ⟨_,rfl,_,rfl,a,ns,k,rfl,hS,hl,hk0,by omega,λr=>?_⟩
  refine ⟨_,rfl,_,_,rfl,rfl,⟨by decide,by decide,by decide⟩,_,_,rfl,rfl,_,rfl,?_⟩
  have f1:(0:Int)<=r % 2147483647/\r % 2147483647<2147483647:=⟨Int.emod_nonneg _ (by decide),Int.emod_lt_of_pos _ (by decide)⟩
  refine bu (λh=>?_) (λh=>?_)
  ·refine cv ?_
   exact ⟨_,rfl,by show 2<=sizeLine; decide,λp hp=>q p r 0 hp (.inl rfl)⟩
  ·refine ⟨_,rfl,_,_,rfl,rfl,⟨by decide,by decide,by decide⟩,_,rfl,_,_,rfl,rfl,_,rfl,?_⟩
   refine bu (λh=>?_) (λh=>?_)
   ·exact ⟨_,rfl,by show 2<=sizeLine; decide,λp hp=>q p r 0 hp (.inl rfl)⟩
   ·exact ⟨_,rfl,_,_,rfl,rfl,(by show (0:Int)<2147483647; decide),_,rfl,_,_,rfl,rfl,by show 2<=sizeLine; decide,λp hp=>q p _ _ hp (.inr ⟨f1.1,f1.2,by omega,by omega⟩)⟩
theorem sc__law_take:l8 ["_law_bag_here", "_law_many", "_law_some"] ["_law_bag_here", "_law_many"] (aj eW):=.i
theorem ok_take {f:Addr} {fd:FuncData} (F:Fun K "_law_take" "_law_take" eW f fd):me P w K mg base CX0 1 f fd ["_law_bag_here", "_law_many"] dB:=by
 refine F.o sc__law_take λ_ _ _ _ H _ Q _ hr h=>?_
 ·obtain ⟨p,a,b,m,k,rfl,hp,hb,hk,hm,hm2,q⟩:=h
  refine ⟨_,(ag (aK (az cO (aB (aM K rfl) (pv 0) ae (λ_ _=>rfl)) ae (aA _))
(ag (ar (i:=2) sc__law_take.nd rfl (Or.inl rfl) (ao aZ (aB (aM K rfl) (pv 0) ae (λ_ _=>rfl)) (pv 1)))
(ag (gr (ao bj (aB (aM K rfl) (pv 0) ae (λ_ _=>rfl)) (pv 1)) (iL (pv 0) ae eT))
(ai (ap (pv 2)))))
aC)
(ag (gr (ao aZ (ao aP (ao aP (ao bg (aB (aM K rfl) (pv 0) ae (λ_ _=>rfl)) ae) (ao bg (ao bg ae (aB (aM K rfl) (pv 0) ae (λ_ _=>rfl))) (aB (aM K rfl) (pv 0) ae (λ_ _=>rfl)))) ae) ae) (iL (pv 0) ae eT))
(ag (gr (ao aP (aB (aM K rfl) (pv 0) ae (λ_ _=>rfl)) ae) (iL (pv 0) ae eT))
(ai (ap (ao aZ (ao aZ (ao bg (aB (aM K rfl) (pv 0) ae (λ_ _=>rfl)) ae) ae) (pv 1))))))),?_⟩
  have e0:∀ (a b:Int) (H':Hp),H' p=some (.lst [.int a,.int b])->SqL K H' p [.int a,.int b]:=λa b H' h=>SqL.of h
  refine ⟨_,rfl,p,_,_,_,rfl,rfl,e0 a b H hp,rfl,rfl,_,rfl,?_⟩
  refine bu (λh=>?_) (λh=>?_)
  ·have hb0:b=0:=by simpa using h
   refine ⟨_,rfl,p,_,_,_,rfl,rfl,e0 a b H hp,rfl,_,rfl,_,_,rfl,rfl,hm,?_⟩
   refine ⟨_,rfl,p,_,_,_,rfl,rfl,e0 a b H hp,rfl,_,rfl,_,_,rfl,rfl,⟨by omega,hm2⟩,_,rfl,p,_,_,_,rfl,rfl,hp,rfl,?_⟩
   refine ⟨_,rfl,?_⟩
   exact q _ _ _ (Int.emod_nonneg _ (by omega)) (Int.emod_lt_of_pos _ hm) (.inl hb0)
  ·have hb0:b ≠ 0:=by simpa using h
   rcases hb with z | ⟨a0,a1,b0,b1⟩
   ·exact absurd z hb0
   refine ⟨_,rfl,p,_,_,_,rfl,rfl,e0 a b H hp,rfl,_,_,rfl,rfl,.inl ⟨by omega,by omega⟩,_,rfl,p,_,_,_,rfl,rfl,e0 a b H hp,rfl,_,_,rfl,rfl,.inl ⟨by decide,by decide⟩,_,rfl,p,_,_,_,rfl,rfl,e0 a b H hp,rfl,_,_,rfl,rfl,.inr ⟨by omega,by omega⟩,_,_,rfl,rfl,_,_,rfl,rfl,_,_,rfl,rfl,(by show (0:Int)<2147483647; decide),_,rfl,p,_,_,_,rfl,rfl,hp,rfl,?_⟩
   have a0':0<=fD a b:=Int.emod_nonneg _ (by decide)
   have a1':fD a b<2147483647:=Int.emod_lt_of_pos _ (by decide)
   refine ⟨_,rfl,p,_,_,_,rfl,rfl,e0 (fD a b) b _ af,rfl,_,_,rfl,rfl,_,rfl,p,[.int (fD a b),.int b],_,_,rfl,rfl,af,rfl,?_⟩
   refine ⟨_,rfl,p,_,_,_,rfl,rfl,e0 (fD a b) (b+1) _ af,rfl,_,_,rfl,rfl,.inl ⟨by omega,by omega⟩,_,_,rfl,rfl,(by show (0:Int)<2147483629; decide),_,rfl,_,_,rfl,rfl,hm,?_⟩
   have e:upd (upd H p (.lst [.int (fD a b),.int b])) p (.lst [.int (fD a b),.int (b+1)])=upd H p (.lst [.int (fD a b),.int (b+1)]):=cC
   have z:=q (fD a b*69621 % 2147483629 % m) (fD a b) (b+1) (Int.emod_nonneg _ (by omega)) (Int.emod_lt_of_pos _ hm) (.inr ⟨a0',a1',by omega,by omega⟩)
   rw [<- e] at z
   exact z
def lA (K:Frag):Sp:=λvs H Q _=>∃ (v:V) (t:Value) (b c:Bool),vs=[v]/\mO K H v t/\kitOne K t (.type "int")=some b/\kitOne K t (.type "bool")=some c/\Q (.bl (b && !c)) H
theorem mn.mono {a b:Int} {j k:Nat} (h:mn a b j) (hk:j<=k):mn a b k:=by
 rcases h with h | ⟨h1,h2,h3,h4⟩
 ·exact .inl h
 ·exact .inr ⟨h1,h2,h3,by omega⟩
theorem jB:l8 ["_law_found"] ["_law_found"] (aj dj):=.i
theorem ok_whole {f:Addr} {fd:FuncData} (F:Fun K "_law_whole" "_law_whole" dj f fd) (T:Blt mg):me P w K mg base CX0 1 f fd ["_law_found"] (lA K):=by
 refine F.o jB λ_ _ _ _ H _ Q _ hr h=>?_
 ·obtain ⟨v,t,b,c,rfl,ty,h1,h2,q⟩:=h
  refine ⟨_,(ai (ap (jw (gI K T (pv 0) T.int gS) (jq (pe_not (gI K T (pv 0) T.bool boot_bool')))))),?_⟩
  refine ⟨_,rfl,t,b,ty,h1,_,rfl,?_⟩
  cases b with
  | false=>exact bF q
  | true=>exact cv ⟨_,rfl,t,c,ty,h2,_,rfl,q⟩
theorem hX {K:Frag} {H:Hp} {a:Addr} {xs:List V} (h:SqT K H a xs):SqV true K H a xs:=h
theorem sqvL {K:Frag} {H:Hp} {a:Addr} {xs:List V} (h:SqL K H a xs):SqV false K H a xs:=h
def v2 (f:Int->Int->V):V->V->V:=λx y=>match x,y with
 | .int i,.int j=>f i j
 | _,_=>.non
def v1 (f:Int->V):V->V:=λx=>match x with
 | .int i=>f i
 | _=>.non
theorem zip_v2 (f:Int->Int->V):∀ ns ms:List Int,List.zipWith (v2 f) (ns.map V.int) (ms.map V.int)=List.zipWith f ns ms
 | [],_=>rfl
 | _::_,[]=>rfl
 | n::ns,m::ms=>congrArg (f n m :: ·) (zip_v2 f ns ms)
theorem map_v1 (f:Int->V) (ns:List Int):(ns.map V.int).map (v1 f)=ns.map f:=by
 rw [map_map]; rfl
theorem zw_map {α:Type} (g:α->V) (f:Int->Int->α):∀ ns ms:List Int,List.zipWith (λi j=>g (f i j)) ns ms=(List.zipWith f ns ms).map g
 | [],_=>rfl
 | _::_,[]=>rfl
 | n::ns,m::ms=>congrArg (g (f n m) :: ·) (zw_map g f ns ms)
theorem dJ {ns:List Int} {i:Nat} {x:V} (h:(ns.map V.int)[i]? = some x):∃ z,ns[i]? = some z/\x=.int z:=by
 rw [getElem?_map] at h
 cases e:ns[i]? with
 | none=>rw [e] at h; cases h
 | some z=>rw [e] at h; exact ⟨z,rfl,(Option.some.inj h).symm⟩
theorem all_tt {α:Type}:∀ xs:List α,((xs.map λ_=>true).all id)=true
 | []=>rfl
 | _::r=>all_tt r
theorem eM:((10:Int) ^ (10:Int).toNat)=10000000000:=by decide +kernel
def ir:Sp:=λvs H Q _=>∃ (p:Addr) (a b:Int) (k:Nat),vs=[.ref p]/\H p=some (.lst [.int a,.int b])/\mn a b k/\k<=900000/\
 ∀ (r a' b':Int),0<=r->r<1000000000000000000000000000000->mn a' b' (k+3)->Q (.int r) (upd H p (.lst [.int a',.int b']))
def jm:Sp:=λvs H Q _=>∃ (p:Addr) (a b:Int) (k:Nat),vs=[.ref p]/\H p=some (.lst [.int a,.int b])/\mn a b k/\k<=800000/\
 ∀ (r a' b':Int),-1000000000000000000000000000000<r->r<1000000000000000000000000000000->mn a' b' (k+4)->Q (.int r) (upd H p (.lst [.int a',.int b']))
theorem sc__law_great:l8 ["_law_bag_here", "_law_high"] ["_law_bag_here"] (aj dq):=.i
theorem ok_great {f:Addr} {fd:FuncData} (F:Fun K "_law_great" "_law_great" dq f fd) (oa:FnB P w K mg base 1 "_law_take" dB):me P w K mg base CX0 2 f fd ["_law_bag_here"] ir:=by
 refine F.o sc__law_great λ_ _ _ _ H _ Q _ hr h=>?_
 ·obtain ⟨p,a,b,k,rfl,hp,hb,hk,q⟩:=h
  refine ⟨_,(ag (ar (i:=1) sc__law_great.nd rfl (Or.inl rfl) (ao aP (ao bg (aq oa hr.m (aa (pv 0) (aa (ao fE ae ae) ah))) (ao fE ae ae)) (aq oa hr.m (aa (pv 0) (aa (ao fE ae ae) ah)))))
(ai (ap (ao aP (ao bg (pv 1) (ao fE ae ae)) (aq oa hr.m (aa (pv 0) (aa (ao fE ae ae) ah))))))),?_⟩
  refine ⟨_,rfl,_,_,rfl,rfl,⟨by decide,by decide,by decide⟩,p,a,b,_,k,rfl,hp,hb,by omega,by rw [eM]; decide,by rw [eM]; exact aG (by decide) (by decide),λr1 a1 b1 r10 r11 hb1=>?_⟩
  rw [eM] at r11
  refine ⟨_,_,rfl,rfl,⟨by decide,by decide,by decide⟩,_,_,rfl,rfl,.inl ⟨by omega,by omega⟩,?_⟩
  refine ⟨_,rfl,_,_,rfl,rfl,⟨by decide,by decide,by decide⟩,p,a1,b1,_,k+1,rfl,af,hb1,by omega,by rw [eM]; decide,by rw [eM]; exact aG (by decide) (by decide),λr2 a2 b2 r20 r21 hb2=>?_⟩
  rw [eM] at r21
  refine ⟨_,_,rfl,rfl,?_⟩
  refine ⟨_,rfl,_,_,rfl,rfl,⟨by decide,by decide,by decide⟩,_,_,rfl,rfl,.inr (by rw [eM]; exact ⟨by decide,by decide⟩),?_⟩
  refine ⟨_,rfl,_,_,rfl,rfl,⟨by decide,by decide,by decide⟩,p,a2,b2,_,k+2,rfl,af,hb2,by omega,by rw [eM]; decide,by rw [eM]; exact aG (by decide) (by decide),λr3 a3 b3 r30 r31 hb3=>?_⟩
  rw [eM] at r31
  refine ⟨_,_,rfl,rfl,?_⟩
  rw [cC,cC,eM]
  exact q _ a3 b3 (by omega) (by omega) hb3
theorem jg:l8 ["_law_bag_here"] ["_law_bag_here"] (aj cU):=.i
theorem ok_signed {f:Addr} {fd:FuncData} (F:Fun K "_law_signed" "_law_signed" cU f fd) (oa:FnB P w K mg base 1 "_law_take" dB) (oz:FnB P w K mg base 2 "_law_great" ir):me P w K mg base CX0 3 f fd ["_law_bag_here"] jm:=by
 refine F.o jg λ_ _ _ _ H _ Q _ hr h=>?_
 ·obtain ⟨p,a,b,k,rfl,hp,hb,hk,q⟩:=h
  refine ⟨_,(ai (ap (ao bg (ao dC (ao bg ae (aq oa hr.m (aa (pv 0) (aa ae ah)))) ae) (aq oz hr.m (aa (pv 0) ah))))),?_⟩
  refine ⟨_,rfl,p,a,b,2,k,rfl,hp,hb,by omega,by decide,aG (by decide) (by decide),λr1 a1 b1 r10 r11 hb1=>?_⟩
  refine ⟨_,_,rfl,rfl,.inl ⟨by decide,by decide⟩,_,_,rfl,rfl,?_⟩
  refine ⟨_,rfl,p,a1,b1,k+1,rfl,af,hb1,by omega,λr2 a2 b2 r20 r21 hb2=>?_⟩
  refine ⟨_,_,rfl,rfl,.inl ⟨by omega,by omega⟩,?_⟩
  rw [cC]
  have h01:r1=0\/r1=1:=by omega
  refine q _ a2 b2 ?_ ?_ hb2
  ·rcases h01 with z | z<;>rw [z]<;>omega
  ·rcases h01 with z | z<;>rw [z]<;>omega
def kD:Sp:=λvs H Q _=>∃ (a b:Int),vs=[.int a,.int b]/\b ≠ 0/\b.natAbs<2 ^ 6000/\∀ t,H t=none->Q (.ref t) (upd H t (.tup [.int (nrm a b).1,.int (nrm a b).2]))
theorem mW:l8 ["_law_top", "_law_bottom", "_law_one", "_law_other"] ["_law_top", "_law_bottom"] (aj fV):=.i
theorem ok_low {f:Addr} {fd:FuncData} (F:Fun K "_law_low" "_law_low" fV f fd) (T:Blt mg):me P w K mg base CX0 1 f fd ["_law_top", "_law_bottom"] kD:=by
 refine F.o mW λ_ _ _ _ H _ Q _ hr h=>?_
 ·obtain ⟨a,b,rfl,hb,hbs,q⟩:=h
  refine ⟨_,(ag (ar (i:=2) mW.nd rfl (Or.inl rfl) (lY T (pv 0)))
(ag (ar (i:=3) mW.nd rfl (Or.inl rfl) (lY T (pv 1)))
(ag (eU PassesOwn.never (az cY (pv 3) ae (aA _))
(ai (ps_par (i:=2) (j:=3) rfl mW.nd rfl rfl (by decide) rfl rfl (aa (pv 3) (aa (ao aZ (pv 2) (pv 3)) ah)) rfl)))
(ag (aK (az gZ (pv 1) ae (aA _))
(ai (ar (i:=2) mW.nd rfl (Or.inl rfl) (ao dC ae (pv 2))))
aC)
(ai (ap (bp (aa (ao bj (pv 0) (pv 2)) (aa (ao bj (pv 1) (pv 2)) ah))))))))),?_⟩
  refine ⟨_,rfl,_,rfl,_,rfl,_,rfl,?_⟩
  refine eO (λσ H'=>∃ x y:Nat,σ=[some (.int a),some (.int b),some (.int x),some (.int y)]/\H'=H/\Nat.gcd x y=Int.gcd a b) (λσ _=>match σ with | [_,_,_,some (.int y)]=>y.toNat | _=>0) ⟨a.natAbs,b.natAbs,?_,rfl,rfl⟩ ?_ ?_
  ·have e1:(if a<0 then -a else a)=(a.natAbs:Int):=by split<;>omega
   have e2:(if b<0 then -b else b)=(b.natAbs:Int):=by split<;>omega
   rw [e1,e2]
   rfl
  ·rintro σ H2 ⟨x,y,rfl,rfl,hg⟩
   refine ⟨_,rfl,_,_,rfl,rfl,_,rfl,bu (λh=>?_) (λh=>?_)⟩
   ·have hy:0<y:=by have:=of_decide_eq_true h; omega
    refine ⟨_,rfl,_,rfl,_,rfl,_,_,rfl,rfl,(by show (0:Int)<(y:Int); omega),_,_,rfl,⟨y,x % y,?_,rfl,?_⟩,?_⟩
    ·rfl
    ·rw [<- hg,Nat.gcd_comm x y,Nat.gcd_rec y x,Nat.gcd_comm]
    ·show ((x:Int) % (y:Int)).toNat<(y:Int).toNat
     have h1:=Int.emod_lt_of_pos (x:Int) (show (0:Int)<y by omega)
     have h2:=Int.emod_nonneg (x:Int) (show (y:Int) ≠ 0 by omega)
     omega
   ·have hy:y=0:=by
     have h1:¬ (0:Int)<(y:Int):=λz=>h (decide_eq_true z)
     omega
    subst hy
    rw [Nat.gcd_zero_right] at hg
    subst hg
    have hgp:0<Int.gcd a b:=Int.gcd_pos_of_ne_zero_right a hb
    have hgl:Int.gcd a b<=b.natAbs:=Nat.le_of_dvd (by omega) (Nat.gcd_dvd_right a.natAbs b.natAbs)
    have sm:(Int.gcd a b)<2 ^ 6000:=Nat.lt_of_le_of_lt hgl hbs
    refine ⟨_,rfl,_,_,rfl,rfl,_,rfl,bu (λh=>?_) (λh=>?_)⟩
    ·have hb0:b<0:=of_decide_eq_true h
     refine ⟨_,rfl,_,_,rfl,rfl,?_⟩
     have sm2:CDivA a (0-(Int.gcd a b:Int)):=⟨by omega,by rw [show (0-(Int.gcd a b:Int)).natAbs=Int.gcd a b by omega]; exact sm⟩
     refine ⟨_,rfl,_,rfl,_,_,rfl,rfl,sm2,_,rfl,_,rfl,_,_,rfl,rfl,sm2,(by show 2<=sizeLine; decide),λt ht=>?_⟩
     have z:=q t ht
     unfold nrm at z
     rw [if_pos hb0] at z
     rw [show 0-(Int.gcd a b:Int) = -(Int.gcd a b:Int) by omega]
     exact z
    ·have hb0:¬ b<0:=λz=>h (decide_eq_true z)
     have sm2:CDivA a (Int.gcd a b:Int):=⟨by omega,by rw [Int.natAbs_natCast]; exact sm⟩
     refine ⟨_,rfl,_,rfl,_,_,rfl,rfl,sm2,_,rfl,_,rfl,_,_,rfl,rfl,sm2,(by show 2<=sizeLine; decide),λt ht=>?_⟩
     have z:=q t ht
     unfold nrm at z
     rw [if_neg hb0] at z
     exact z
  ·rintro σ H Q Q' hq ⟨x,hx,i,j,e1,e2,b,hb,h⟩
   exact ⟨x,hx,i,j,e1,e2,b,hb,hq _ _ h⟩
def bS (n:Int) (i:Nat):List Int:=((List.range i).map λj:Nat=>(2:Int)+(j:Int)).filter λd=>decide (d*d<=n)
def fP (n:Int):Bool:=decide (1<n) && (bS n 98).all λd=>decide (0<n % d)
def l7 (p:Int):Prop:=p=0\/(2<=p/\p<=9973/\fP p=true)
theorem fX (n:Int) (i:Nat):bS n (i+1)=if (2+(i:Int))*(2+(i:Int))<=n then bS n i++[2+(i:Int)] else bS n i:=by
 unfold bS
 rw [List.range_succ,map_append,List.filter_append]
 by_cases h:(2+(i:Int))*(2+(i:Int))<=n
 ·rw [if_pos h]
  simp [h]
 ·rw [if_neg h]
  simp [h]
theorem mem_parts {n d:Int} {i:Nat}:d ∈ bS n i↔2<=d/\d<2+(i:Int)/\d*d<=n:=by
 unfold bS
 rw [List.mem_filter,List.mem_map]
 constructor
 ·rintro ⟨⟨j,hj,rfl⟩,h⟩
  have:=List.mem_range.mp hj
  exact ⟨by omega,by omega,of_decide_eq_true h⟩
 ·rintro ⟨h1,h2,h3⟩
  exact ⟨⟨(d-2).toNat,List.mem_range.mpr (by omega),by omega⟩,decide_eq_true h3⟩
theorem isPb_iff {n:Int}:fP n=true↔1<n/\∀ d,2<=d->d<100->d*d<=n->0<n % d:=by
 unfold fP
 rw [Bool.and_eq_true,all_eq_true]
 constructor
 ·rintro ⟨h1,h2⟩
  exact ⟨of_decide_eq_true h1,λd a b c=>of_decide_eq_true (h2 d (mem_parts.mpr ⟨a,by omega,c⟩))⟩
 ·rintro ⟨h1,h2⟩
  refine ⟨decide_eq_true h1,λd hd=>?_⟩
  obtain ⟨a,b,c⟩:=mem_parts.mp hd
  exact decide_eq_true (h2 d a (by omega) c)
theorem isPb_2:fP 2=true:=by decide +kernel
def jp:Sp:=λvs H Q _=>∃ n:Int,vs=[.int n]/\∀ H',l0 H H'->Q (.bl (fP n)) H'
theorem nE:l8 ["_law_number_here", "_law_parts_here"] ["_law_number_here"] (aj cj):=.i
theorem ok_lawprime {f:Addr} {fd:FuncData} (F:Fun K "_law_is_prime" "_law_is_prime" cj f fd) (T:Blt mg):me P w K mg base CX0 1 f fd ["_law_number_here"] jp:=by
 refine F.o nE λ_ _ _ _ H _ Q _ hr h=>?_
 ·obtain ⟨n,rfl,q⟩:=h
  refine ⟨_,(ag (im (i:=1) nE.nd rfl (Or.inl rfl) (N:=["_law_part", "_law_number_here"]) (src:=[none,some 0]) rfl rfl rfl (by exact (kj rfl T.range (aa ae (aa ae ah)))) (λ_ _ _=>by exact ⟨by exact (gn (i:=0) nd_0 rfl rfl),(lc (az op_le (ao bg (pv 0) (pv 0)) (pv 1) (aA _))),by exact (pv 0)⟩))
(ai (ap (jw (cw cY (pv 0) ae (aA _)) (jq (kpl_all K T (by exact fj (N:=["_law_part", "_law_number_here"]) (src:=[none,some 0]) rfl rfl rfl (by exact (bo K rfl (pv 1))) (λ_ _ _=>by exact ⟨by exact (gn (i:=0) nd_0 rfl rfl),di,by exact (cw cY (ao aZ (pv 1) (pv 0)) ae (aA _))⟩)) false)))))),?_⟩
  refine ⟨_,_,rfl,⟨by decide,by decide,by decide,by decide⟩,fc (n:=98) (σ0:=[none,some (.int n)]) rfl (λacc i zs σ H'=>∃ u:Option V,σ=[u,some (.int n)]/\zs=(bS n i).map V.int/\l0 H H') (by decide) (λacc hacc=>⟨none,rfl,rfl,l0.new hacc⟩) ?_ ?_ ?_ ?_⟩
  ·rintro acc i zs σ H' hacc hi hz _
   exact hi
  ·rintro acc zs σ H' hacc hz _
   exact Nat.le_refl 98
  ·rintro acc i zs σ H' x H'' hacc hi hz hzl ⟨u,rfl,rfl,sm⟩ ⟨rfl,rfl⟩
   refine ⟨_,rfl,_,rfl,_,_,rfl,rfl,.inl ⟨by omega,by omega⟩,_,rfl,_,_,rfl,rfl,_,rfl,bu (λh=>?_) (λh=>?_)⟩
   ·have h':(2+(i:Int))*(2+(i:Int))<=n:=of_decide_eq_true h
    refine ⟨_,rfl,_,hz,eY (by omega),_,af,by rw [length_append,length_singleton]; omega,_,rfl,?_,sm.put hacc⟩
    rw [fX,if_pos h',map_append]
    rfl
   ·have h':¬ (2+(i:Int))*(2+(i:Int))<=n:=λz=>h (decide_eq_true z)
    refine ⟨_,hz,by omega,_,rfl,?_,sm⟩
    rw [fX,if_neg h']
  ·rintro acc zs σ H' hacc hz hzl ⟨u,rfl,rfl,sm⟩
   refine ⟨_,rfl,_,_,rfl,rfl,_,rfl,bu (λh=>?_) (λh=>?_)⟩
   ·have h1:(1:Int)<n:=of_decide_eq_true h
    refine ⟨_,rfl,acc,rfl,⟨_,SqL.of hz⟩,comp_lst (v1 λd=>.bl (decide (0<n % d))) rfl (SqL.of hz) (Nat.le_of_lt (eY (by omega))) (λi x H1 R hx sm1 hR=>?_) (λacc2 H1 hacc2 sm1 hl1=>?_)⟩
    ·obtain ⟨z,hz',rfl⟩:=dJ hx
     obtain ⟨z2,_,_⟩:=mem_parts.mp (mem_of_getElem? hz')
     exact ⟨_,rfl,_,rfl,_,_,rfl,rfl,(by show (0:Int)<z; omega),_,_,rfl,rfl,hR⟩
    ·rw [map_v1] at hl1
     have e1:(bS n 98).map (λd=>V.bl (decide (0<n % d)))=((bS n 98).map λd=>decide (0<n % d)).map V.bl:=by rw [map_map]; rfl
     rw [e1] at hl1
     refine ⟨acc2,_,rfl,sqvL (SqL.of hl1),?_⟩
     have z:=q H1 (sm.trans sm1)
     unfold fP at z
     rw [decide_eq_true h1,Bool.true_and] at z
     rw [List.all_map]
     exact z
   ·have h1:¬ (1:Int)<n:=λz=>h (decide_eq_true z)
    have z:=q H' sm
    unfold fP at z
    rw [decide_eq_false h1,Bool.false_and] at z
    exact z
def spPrime:Sp:=λvs H Q _=>∃ (p:Addr) (a b:Int) (k:Nat),vs=[.ref p]/\H p=some (.lst [.int a,.int b])/\mn a b k/\k<=900000/\
 ∀ (r a' b':Int) (H':Hp),l7 r->H' p=some (.lst [.int a',.int b'])->mn a' b' (k+2)->(∀ c o,H c=some o->c ≠ p->H' c=some o)->Q (.int r) H'
theorem mY:l8 ["_law_bag_here", "_law_way", "_law_number_here"] ["_law_bag_here"] (aj dE):=.i
theorem ok_prime {f:Addr} {fd:FuncData} (F:Fun K "_law_prime" "_law_prime" dE f fd) (oa:FnB P w K mg base 1 "_law_take" dB) (qa:FnB P w K mg base 1 "_law_is_prime" jp):me P w K mg base CX0 2 f fd ["_law_bag_here"] spPrime:=by
 refine F.o mY λ_ _ _ _ H _ Q _ hr h=>?_
 ·obtain ⟨p,a,b,k,rfl,hp,hb,hk,q⟩:=h
  refine ⟨_,(ag (ar (i:=1) mY.nd rfl (Or.inl rfl) (aq oa hr.m (aa (pv 0) (aa ae ah))))
(ag (aK (az gZ (pv 1) ae (aA _))
(ai (ap ae))
aC)
(ag (aK (az gZ (pv 1) ae (aA _))
(ai (ap (aB (aM K rfl) (ci (aa ae (aa ae (aa ae ah)))) (ao dC (pv 1) ae) (λ_ _=>rfl))))
aC)
(ag (ar (i:=2) mY.nd rfl (Or.inl rfl) (ao aP ae (aq oa hr.m (aa (pv 0) (aa ae ah)))))
(ag (eU PassesOwn.never (cJ (bQ (aq qa hr.m (aa (pv 2) ah))))
(ai (ar (i:=2) mY.nd rfl (Or.inl rfl) (ao dC (pv 2) ae))))
(ai (ap (pv 2)))))))),?_⟩
  refine ⟨_,rfl,p,a,b,8,k,rfl,hp,hb,by omega,by decide,aG (by decide) (by decide),λr1 a1 b1 r10 r11 hb1=>?_⟩
  have k1:∀ o c o',H c=some o'->c ≠ p->(upd H p o) c=some o':=λo c o' e hc=>by rw [am hc]; exact e
  refine ⟨_,rfl,_,_,rfl,rfl,_,rfl,bu (λh=>?_) (λh=>?_)⟩
  ·exact q 0 a1 b1 _ (.inl rfl) af (hb1.mono (by omega)) (k1 _)
  have h4:¬ r1<4:=λz=>h (decide_eq_true z)
  refine ⟨_,rfl,_,_,rfl,rfl,_,rfl,bu (λh=>?_) (λh=>?_)⟩
  ·have h7:r1<7:=of_decide_eq_true h
   refine ⟨(by show 3<=sizeLine; decide),λq1 n1=>?_⟩
   have pq:p ≠ q1:=ak (o:=.lst [.int a1,.int b1]) af n1
   obtain ⟨v,hat,hv⟩:∃ v:Int,atI [V.int 2,V.int 3,V.int 7] (r1-4)=some (.int v)/\l7 v:=by
    have h:r1=4\/r1=5\/r1=6:=by omega
    rcases h with rfl | rfl | rfl
    ·exact ⟨2,rfl,.inr ⟨by decide,by decide,by decide +kernel⟩⟩
    ·exact ⟨3,rfl,.inr ⟨by decide,by decide,by decide +kernel⟩⟩
    ·exact ⟨7,rfl,.inr ⟨by decide,by decide,by decide +kernel⟩⟩
   refine ⟨_,rfl,_,_,rfl,rfl,q1,_,_,_,rfl,rfl,SqL.of af,hat,?_⟩
   exact q v a1 b1 _ hv (by rw [am pq,af]) (hb1.mono (by omega)) λc o e hc=>by rw [am (ak (k1 _ c o e hc) n1)]; exact k1 _ c o e hc
  ·refine ⟨_,rfl,p,a1,b1,9972,k+1,rfl,af,hb1,by omega,by decide,aG (by decide) (by decide),λr2 a2 b2 r20 r21 hb2=>?_⟩
   refine ⟨_,_,rfl,rfl,?_⟩
   rw [cC]
   refine eO (λσ H'=>∃ n:Int,σ=[some (.ref p),some (.int r1),some (.int n)]/\2<=n/\n<=9973/\l0 (upd H p (.lst [.int a2,.int b2])) H') (λσ _=>match σ with | [_,_,some (.int n)]=>n.toNat | _=>0) ⟨_,rfl,by omega,by omega,l0.refl _⟩ ?_ ?_
   ·rintro σ H2 ⟨n,rfl,n2,n9,sm⟩
    refine ⟨_,rfl,n,rfl,λH3 sm3=>⟨_,rfl,?_⟩⟩
    cases hn:fP n with
    | false=>
     refine cv ⟨_,rfl,_,_,rfl,rfl,⟨_,rfl,?_,by omega,sm.trans sm3⟩,?_⟩
     ·have:n ≠ 2:=λz=>by rw [z,isPb_2] at hn; cases hn
      omega
     ·show (n-1).toNat<n.toNat
      omega
    | true=>
     refine bF ⟨_,rfl,?_⟩
     have s:=sm.trans sm3
     exact q n a2 b2 H3 (.inr ⟨n2,n9,hn⟩) (s _ _ af) hb2 λc o e hc=>s _ _ (k1 _ c o e hc)
   ·rintro σ H Q Q' hq ⟨x,hx,n,e,h⟩
    refine ⟨x,hx,n,e,λH' s=>?_⟩
    obtain ⟨b,hb,z⟩:=h H' s
    exact ⟨b,hb,hq _ _ z⟩
def jY:Sp:=λvs H Q _=>∃ n:Int,vs=[.int n]/\Q (.bl (decide (2<=n/\n<=9973) && fP n)) H
theorem sc_is_prime:l8 ["whole", "divisor"] ["whole"] (aj fG):=.i
theorem ok_isprime {f:Addr} {fd:FuncData} {tk tk2:Tok} (F:Fun K "is_prime" "is_prime" fG f fd) (cLeast:mg "LEAST_PRIME"=some (.int 2 tk)) (cGreatest:mg "GREATEST_PRIME"=some (.int 9973 tk2)):me P w K mg base CX0 1 f fd ["whole"] jY:=by
 refine F.o sc_is_prime λ_ _ _ _ H _ Q _ hr h=>?_
 ·obtain ⟨n,rfl,q⟩:=h
  refine ⟨_,(ag (aK (PW.pt (dQ (az gZ (pv 0) (gh (v:=.int 2) rfl cLeast ⟨_,rfl⟩) (aA _)) (eC (az cY (pv 0) (gh (v:=.int 9973) rfl cGreatest ⟨_,rfl⟩) (aA _)))))
(ai (ap cr))
aC)
(ag (ar (i:=1) sc_is_prime.nd rfl (Or.inl rfl) ae)
(ag (eU PassesOwn.never (az op_le (ao bg (pv 1) (pv 1)) (pv 0) (aA _))
(ag (aK (az cO (ao aZ (pv 0) (pv 1)) ae (aA _))
(ai (ap cr))
aC)
(ai (ar (i:=1) sc_is_prime.nd rfl (Or.inl rfl) (ao aP (pv 1) ae)))))
(ai (ap cr))))),?_⟩
  have no:¬ (2<=n/\n<=9973)->Q (.bl false) H:=λh=>by
   rw [decide_eq_false h,Bool.false_and] at q
   exact q
  refine ⟨_,rfl,_,_,rfl,rfl,_,rfl,bu (λh=>?_) (λh=>?_)⟩
  ·have h1:n<2:=of_decide_eq_true h
   exact cv (no (by omega))
  have h1:¬ n<2:=λz=>h (decide_eq_true z)
  refine ⟨_,rfl,_,_,rfl,rfl,_,rfl,bu (λh=>?_) (λh=>?_)⟩
  ·have h2:9973<n:=of_decide_eq_true h
   exact no (by omega)
  have h2:¬ 9973<n:=λz=>h (decide_eq_true z)
  rw [decide_eq_true (show 2<=n/\n<=9973 by omega),Bool.true_and] at q
  refine eO (λσ H'=>∃ d:Int,σ=[some (.int n),some (.int d)]/\H'=H/\2<=d/\d<=101/\∀ e,2<=e->e<d->0<n % e) (λσ _=>match σ with | [_,some (.int d)]=>(200-d).toNat | _=>0) ⟨2,rfl,rfl,by omega,by omega,λe h1 h2=>by omega⟩ ?_ ?_
  ·rintro σ H2 ⟨d,rfl,rfl,hd2,hd1,hall⟩
   refine ⟨_,rfl,_,rfl,_,_,rfl,rfl,.inl ⟨by omega,by omega⟩,_,rfl,_,_,rfl,rfl,_,rfl,bu (λh=>?_) (λh=>?_)⟩
   ·have hdd:d*d<=n:=of_decide_eq_true h
    have hd100:d<100:=Int.not_le.mp λz=>by
     have:=Int.mul_le_mul z z (by omega) (by omega)
     omega
    refine ⟨_,rfl,_,rfl,_,_,rfl,rfl,(by show (0:Int)<d; omega),rfl,_,rfl,bu (λh=>?_) (λh=>?_)⟩
    ·have h0:n % d=0:=by
      have:=of_decide_eq_true h
      injection this
     have e:fP n=false:=by
      cases hp:fP n with
      | false=>rfl
      | true=>
       have:=(isPb_iff.mp hp).2 d hd2 hd100 hdd
       omega
     rw [e] at q
     exact q
    ·have h0:n % d ≠ 0:=λz=>h (decide_eq_true (congrArg V.int z))
     have h00:=Int.emod_nonneg n (show d ≠ 0 by omega)
     refine ⟨_,rfl,_,_,rfl,rfl,⟨d+1,rfl,rfl,by omega,by omega,λe e1 e2=>?_⟩,?_⟩
     ·by_cases ee:e=d
      ·rw [ee]; omega
      ·exact hall e e1 (by omega)
     ·show (200-(d+1)).toNat<(200-d).toNat
      omega
   ·have hdd:¬ d*d<=n:=λz=>h (decide_eq_true z)
    have e:fP n=true:=isPb_iff.mpr ⟨by omega,λe e1 e2 e3=>hall e e1 (Int.not_le.mp λz=>by
     have:=Int.mul_le_mul z z (by omega) (by omega)
     omega)⟩
    rw [e] at q
    exact q
  ·rintro σ H Q Q' hq ⟨x,hx,x2,hx2,i,j,e1,e2,c,y,hy,i2,j2,e3,e4,b,hb,h⟩
   exact ⟨x,hx,x2,hx2,i,j,e1,e2,c,y,hy,i2,j2,e3,e4,b,hb,hq _ _ h⟩
def spGcd:Sp:=λvs H Q _=>∃ a b:Int,vs=[.int a,.int b]/\Q (.int (Int.gcd a b)) H
theorem mB:l8 ["one", "other", "first", "second", "rest"] ["one", "other"] (aj bA):=.i
theorem ok_gcd {f:Addr} {fd:FuncData} (F:Fun K "greatest_divisor" "greatest_divisor" bA f fd) (T:Blt mg):me P w K mg base CX0 1 f fd ["one", "other"] spGcd:=by
 refine F.o mB λ_ _ _ _ H _ Q _ hr h=>?_
 ·obtain ⟨a,b,rfl,q⟩:=h
  refine ⟨_,(ag (ar (i:=2) mB.nd rfl (Or.inl rfl) (lY T (pv 0)))
(ag (ar (i:=3) mB.nd rfl (Or.inl rfl) (lY T (pv 1)))
(ag (eU PassesOwn.never (az op_ne (pv 3) ae (aA _))
(ag (ar (i:=4) mB.nd rfl (Or.inl rfl) (ao aZ (pv 2) (pv 3)))
(ag (ar (i:=2) mB.nd rfl (Or.inl rfl) (pv 3))
(ai (ar (i:=3) mB.nd rfl (Or.inl rfl) (pv 4))))))
(ai (ap (pv 2)))))),?_⟩
  refine ⟨_,rfl,_,rfl,_,rfl,_,rfl,?_⟩
  refine eO (λσ H'=>∃ (x y:Nat) (u:Option V),σ=[some (.int a),some (.int b),some (.int x),some (.int y),u]/\H'=H/\Nat.gcd x y=Int.gcd a b) (λσ _=>match σ with | [_,_,_,some (.int y),_]=>y.toNat | _=>0) ⟨a.natAbs,b.natAbs,none,?_,rfl,rfl⟩ ?_ ?_
  ·have e1:(if a<0 then -a else a)=(a.natAbs:Int):=by split<;>omega
   have e2:(if b<0 then -b else b)=(b.natAbs:Int):=by split<;>omega
   rw [e1,e2]
   rfl
  ·rintro σ H2 ⟨x,y,u,rfl,rfl,hg⟩
   refine ⟨_,rfl,rfl,_,rfl,?_⟩
   by_cases hy:y=0
   ·subst hy
    refine iteNS rfl ?_
    rw [Nat.gcd_zero_right] at hg
    subst hg
    exact ⟨_,rfl,q⟩
   ·rw [decide_eq_false (show ¬ V.int (y:Int)=V.int 0 from λz=>by injection z; omega)]
    refine cv ⟨_,rfl,_,rfl,_,_,rfl,rfl,(by show (0:Int)<(y:Int); omega),_,rfl,_,rfl,⟨y,x % y,some (.int ((x:Int) % (y:Int))),?_,rfl,?_⟩,?_⟩
    ·rfl
    ·rw [<- hg,Nat.gcd_comm x y,Nat.gcd_rec y x,Nat.gcd_comm]
    ·show ((x:Int) % (y:Int)).toNat<(y:Int).toNat
     have h1:=Int.emod_lt_of_pos (x:Int) (show (0:Int)<y by omega)
     have h2:=Int.emod_nonneg (x:Int) (show (y:Int) ≠ 0 by omega)
     omega
  ·rintro σ H Q Q' hq ⟨x,hx,e1,b,hb,h⟩
   exact ⟨x,hx,e1,b,hb,hq _ _ h⟩
def mH (CF CR:Addr) (H:Hp) (x:Addr) (p:Int):Prop:=(p=0/\∃ dx,H x=some (.ins CF dx []))\/(p ≠ 0/\∃ dx,H x=some (.ins CR dx [("modulus",.int p)]))
def lN (CR:Addr):Sp:=λvs H Q _=>∃ (x dx:Addr) (p:Int),vs=[.ref x,.int p]/\H x=some (.ins CR dx [])/\l7 p/\p ≠ 0/\Q .non (upd H x (.ins CR dx [("modulus",.int p)]))
def spNums (CF CR:Addr):Sp:=λvs H Q _=>∃ p:Int,vs=[.int p]/\l7 p/\∀ (x:Addr) (H':Hp),l0 H H'->mH CF CR H' x p->Q (.ref x) H'
theorem gd:l8 ["self", "prime"] ["self", "prime"] (aj aS):=.i
theorem ok_rinit {f CR:Addr} {fd:FuncData} (F:Fun K "__init__" "Rests.__init__" aS f fd) (cl:Cls K CR) (nM:mP K CR "modulus") (rR:FnB P w K mg base 1 "is_prime" jY):me P w K mg base CX0 2 f fd ["self", "prime"] (lN CR):=by
 refine F.o gd λ_ _ _ _ H _ Q _ hr h=>?_
 ·obtain ⟨x,dx,p,rfl,hx,hp,p0,q⟩:=h
  refine ⟨_,(ag (aK (cJ (bQ (aq rR hr.m (aa (pv 1) ah))))
(ai ps_never)
aC)
(ai (ps_fld (pv 0) (pv 1) rfl))),?_⟩
  rcases hp with z | ⟨h1,h2,h3⟩
  ·exact absurd z p0
  refine ⟨_,rfl,p,rfl,_,rfl,?_⟩
  rw [decide_eq_true ⟨h1,h2⟩,h3]
  refine bF ⟨_,rfl,_,rfl,x,CR,dx,[],rfl,hx,cl,nM,(by show 0<1000; decide),?_⟩
  exact q
theorem h8:l8 ["_law_prime_here"] ["_law_prime_here"] (aj cG):=.i
theorem ok_nums {f CF CR:Addr} {fd:FuncData} (F:Fun K "_law_numbers" "_law_numbers" cG f fd) (MFractions:Mk0 K CF) (AFractions:mg "Fractions"=some (.ref CF)) (uW:MkB P w K mg base 2 CR "Rests" (lN CR)):me P w K mg base CX0 4 f fd ["_law_prime_here"] (spNums CF CR):=by
 refine F.o h8 λ_ _ _ _ H _ Q _ hr h=>?_
 ·obtain ⟨p,rfl,hp,q⟩:=h
  refine ⟨_,(ag (aK (az cO (pv 0) ae (aA _))
(ai (ap (pe_mk0 MFractions AFractions)))
aC)
(ai (ap (pe_mkB uW hr.m (aa (pv 0) ah))))),?_⟩
  refine ⟨_,rfl,rfl,_,rfl,bu (λh=>?_) (λh=>?_)⟩
  ·have h0:p=0:=by
    have:=of_decide_eq_true h
    injection this
   intro x dx nx ndx ne
   exact q x _ ((l0.new ndx).put nx) (.inl ⟨h0,dx,af⟩)
  ·have h0:p ≠ 0:=λz=>h (decide_eq_true (congrArg V.int z))
   refine ⟨_,rfl,λx dx nx ndx ne=>?_⟩
   refine ⟨x,dx,p,rfl,af,hp,h0,rfl,?_⟩
   exact q x _ (((l0.new ndx).put nx).put nx) (.inr ⟨h0,dx,af⟩)
def isI:V->Bool
 | .int _=>true
 | _=>false
def Typed (K:Frag) (H:Hp) (x:V):Prop:=∃ (t:Value) (b c:Bool),mO K H x t/\kitOne K t (.type "int")=some b/\kitOne K t (.type "bool")=some c/\(b && !c)=isI x
theorem Typed.int {K:Frag} {H:Hp} (i:Int):Typed K H (.int i):=⟨_,true,false,.int i,rfl,rfl,rfl⟩
theorem Typed.tup {K:Frag} {H:Hp} {a:Addr} {xs:List V} (h:H a=some (.tup xs)):Typed K H (.ref a):=⟨_,false,false,.tup h,rfl,rfl,rfl⟩
theorem typed_ints {K:Frag} {H:Hp} (ns:List Int):∀ x ∈ ns.map V.int,Typed K H x:=λx hx=>by
 obtain ⟨z,_,rfl⟩:=List.mem_map.mp hx
 exact .int z
def NumIs (P:Int) (H:Hp) (v:V):Prop:=(P ≠ 0/\∃ r,v=.int r/\0<=r/\r<P)\/(P=0/\∃ (t:Addr) (n d:Int),v=.ref t/\H t=some (.tup [.int n,.int d])/\0<d/\Int.gcd n d=1/\n.natAbs<10 ^ 31/\d.natAbs<10 ^ 31)
theorem pow31:(10:Nat) ^ 31<2 ^ 3000:=by decide +kernel
theorem pow2000:(2:Nat) ^ 3000<2 ^ 6000:=Nat.pow_lt_pow_right (by decide) (by decide)
def Thing (K:Frag) (H:Hp) (v:V):Prop:=Typed K H v/\((∃ t,mO K H v t/\kitOne K t (.type "tuple")=some false/\∀ a,v=.ref a->∃ xs,H a=some (.lst xs)) \/
 ∃ a xs,v=.ref a/\H a=some (.tup xs)/\xs.length<=1000/\(∀ x ∈ xs,Typed K H x)/\∀ i,V.int i ∈ xs->i.natAbs<2 ^ 3000)
def kB:List V->Bool
 | [.int n,.int d]=>decide (1<=d) && decide (Int.gcd n d=1)
 | _=>false
def fracV (H:Hp):V->Bool
 | .ref a=>match H a with
  | some (.tup xs)=>kB xs
  | _=>false
 | _=>false
def restV (P:Int):V->Bool
 | .int i=>decide (0<=i) && decide (i<P)
 | _=>false
def numV (P:Int) (H:Hp) (v:V):Bool:=if P=0 then fracV H v else restV P v
theorem jN {H:Hp} {a:Addr} {xs:List V} (h:H a=some (.tup xs)):fracV H (.ref a)=kB xs:=by
 show (match H a with | some (.tup xs)=>kB xs | _=>false)=_
 rw [h]
theorem fracV_not {H:Hp} {v:V} (h:∀ a,v=.ref a->∃ xs,H a=some (.lst xs)):fracV H v=false:=by
 cases v with
 | ref a=>
  obtain ⟨xs,e⟩:=h a rfl
  show (match H a with | some (.tup xs)=>kB xs | _=>false)=_
  rw [e]
 | _=>rfl
def spNumber:Sp:=λvs H Q _=>∃ (p:Addr) (P a b:Int) (g:Bool) (k:Nat),vs=[.int P,.ref p,.bl g]/\l7 P/\H p=some (.lst [.int a,.int b])/\mn a b k/\k<=700000/\
 ∀ (v:V) (a' b':Int) (H':Hp),NumIs P H' v->H' p=some (.lst [.int a',.int b'])->mn a' b' (k+8)->(∀ c o,H c=some o->c ≠ p->H' c=some o)->Q v H'
def spLike (K:Frag):Sp:=λvs H Q _=>∃ (P:Int) (v:V),vs=[.int P,v]/\l7 P/\Thing K H v/\∀ H',l0 H H'->Q (.bl (numV P H v)) H'
theorem eQ:l8 ["_law_prime_here", "_law_bag_here", "_law_great_here"] ["_law_prime_here", "_law_bag_here", "_law_great_here"] (aj bU):=.i
theorem ok_number {f:Addr} {fd:FuncData} (F:Fun K "_law_number" "_law_number" bU f fd) (T:Blt mg) (oa:FnB P w K mg base 1 "_law_take" dB) (oz:FnB P w K mg base 2 "_law_great" ir) (oN:FnB P w K mg base 3 "_law_signed" jm) (om:FnB P w K mg base 1 "_law_low" kD) :
  me P w K mg base CX0 4 f fd ["_law_prime_here", "_law_bag_here", "_law_great_here"] spNumber:=by
 refine F.o eQ λ_ _ _ _ H _ Q _ hr h=>?_
 ·obtain ⟨p,P,a,b,g,k,rfl,hP,hp,hb,hk,q⟩:=h
  refine ⟨_,(ag (aK (az cY (pv 0) ae (aA _))
(ai (ap (aq oa hr.m (aa (pv 1) (aa (pv 0) ah)))))
aC)
(ag (aK (bQ (pv 2))
(ai (ap (aq om hr.m (aa (aq oN hr.m (aa (pv 1) ah)) (aa (pl_max T (aa ae (aa (aq oz hr.m (aa (pv 1) ah)) ah))) ah)))))
aC)
(ai (ap (aq om hr.m (aa (ao dC (aq oa hr.m (aa (pv 1) (aa ae ah))) ae) (aa (ao aP ae (ao bj (aq oa hr.m (aa (pv 1) (aa ae ah))) ae)) ah))))))),?_⟩
  have k1:∀ o c o',H c=some o'->c ≠ p->(upd H p o) c=some o':=λo c o' e hc=>by rw [am hc]; exact e
  refine ⟨_,rfl,_,_,rfl,rfl,_,rfl,bu (λh=>?_) (λh=>?_)⟩
  ·have h0:0<P:=of_decide_eq_true h
   have h9:P<=9973:=by rcases hP with z | ⟨_,z,_⟩<;>omega
   refine ⟨_,rfl,_,rfl,p,a,b,P,k,rfl,hp,hb,by omega,h0,aG (by omega) (by omega),λr a1 b1 r0 r1 hb1=>?_⟩
   exact q _ a1 b1 _ (.inl ⟨by omega,r,rfl,r0,r1⟩) af (hb1.mono (by omega)) (k1 _)
  have h0:P=0:=by
   have h1:¬ 0<P:=λz=>h (decide_eq_true z)
   rcases hP with z | ⟨z,_⟩<;>omega
  have low:∀ (n d a' b':Int) (t:Addr),0<d->n.natAbs<10 ^ 31->d.natAbs<10 ^ 31->mn a' b' (k+8)->(upd H p (.lst [.int a',.int b'])) t=none->
    Q (.ref t) (upd (upd H p (.lst [.int a',.int b'])) t (.tup [.int (nrm n d).1,.int (nrm n d).2])):=λn d a' b' t hd hn hd2 hb' ht=>by
   have pt:p ≠ t:=ak (o:=.lst [.int a',.int b']) af ht
   have hl:=lj n d (by omega)
   refine q _ a' b' _ (.inr ⟨h0,t,_,_,rfl,af,bv n d (by omega),bV n d (by omega),Nat.lt_of_le_of_lt hl.1 hn,Nat.lt_of_le_of_lt hl.2 hd2⟩) (by rw [am pt,af]) hb' λc o e hc=>?_
   rw [am (ak (k1 _ c o e hc) ht)]
   exact k1 _ c o e hc
  have big:∀ d:Int,d.natAbs<10 ^ 31->d.natAbs<2 ^ 6000:=λd h=>Nat.lt_trans h (Nat.lt_trans pow31 pow2000)
  refine ⟨_,rfl,_,rfl,?_⟩
  cases g with
  | true=>
   refine cv ⟨_,rfl,p,a,b,k,rfl,hp,hb,by omega,λr1 a1 b1 r10 r11 hb1=>?_⟩
   refine ⟨_,rfl,p,a1,b1,k+4,rfl,af,hb1,by omega,λr2 a2 b2 r20 r21 hb2=>?_⟩
   refine ⟨_,_,rfl,?_⟩
   rw [cC]
   have hm:(1:Int)<=(if r2 > 1 then r2 else 1)/\(if r2 > 1 then r2 else 1)<1000000000000000000000000000000:=by split<;>omega
   generalize (if r2 > 1 then r2 else 1)=m at hm
   refine ⟨r1,m,rfl,by omega,big _ (by omega),λt ht=>?_⟩
   exact low r1 m a2 b2 t (by omega) (by omega) (by omega) (hb2.mono (by omega)) ht
  | false=>
   refine bF ⟨_,rfl,p,a,b,7,k,rfl,hp,hb,by omega,by decide,aG (by decide) (by decide),λr1 a1 b1 r10 r11 hb1=>?_⟩
   refine ⟨_,_,rfl,rfl,?_⟩
   refine ⟨_,rfl,p,a1,b1,8,k+1,rfl,af,hb1,by omega,by decide,aG (by decide) (by decide),λr2 a2 b2 r20 r21 hb2=>?_⟩
   refine ⟨_,_,rfl,rfl,eS (by decide) (by decide),_,_,rfl,rfl,?_⟩
   rw [cC]
   have hm:(1:Int)<=1+r2.fdiv 7/\1+r2.fdiv 7<100:=by
    rw [Int.fdiv_eq_ediv_of_nonneg _ (by decide)]
    omega
   refine ⟨r1-3,1+r2.fdiv 7,rfl,by omega,big _ (by omega),λt ht=>?_⟩
   exact low (r1-3) (1+r2.fdiv 7) a2 b2 t (by omega) (by omega) (by omega) (hb2.mono (by omega)) ht
theorem fB:l8 ["_law_prime_here", "_law_found"] ["_law_prime_here", "_law_found"] (aj bB):=.i
theorem ok_like {f:Addr} {fd:FuncData} (F:Fun K "_law_number_like" "_law_number_like" bB f fd) (T:Blt mg) (oB:FnB P w K mg base 1 "_law_whole" (lA K)) (om:FnB P w K mg base 1 "_law_low" kD) :
  me P w K mg base CX0 2 f fd ["_law_prime_here", "_law_found"] (spLike K):=by
 refine F.o fB λ_ _ _ _ H _ Q _ hr h=>?_
 ·obtain ⟨P,v,rfl,hP,⟨ty,hv⟩,q⟩:=h
  refine ⟨_,(ag (aK (az cY (pv 0) ae (aA _))
(ai (ap (jw (aq oB hr.m (aa (pv 1) ah)) (jq (pe_chain op_le gZ ae (pv 1) (pv 0))))))
aC)
(ag (aK (PW.pt (dQ (cJ (bQ (gI K T (pv 1) T.tuple cQ))) (dQ (az op_ne (dw K T (pv 1)) ae (aA _)) (dQ (cJ (bQ (aq oB hr.m (aa (aB (aw K rfl) (pv 1) ae (λ_ _=>rfl)) ah)))) (eC (cJ (bQ (aq oB hr.m (aa (aB (aw K rfl) (pv 1) ae (λ_ _=>rfl)) ah)))))))))
(ai (ap cr))
aC)
(ai (ap (jw (cw cY (aB (aw K rfl) (pv 1) ae (λ_ _=>rfl)) ae (aA _)) (jq (cw (keqD K rfl hr.units) (aq om hr.m (aa (aB (aw K rfl) (pv 1) ae (λ_ _=>rfl)) (aa (aB (aw K rfl) (pv 1) ae (λ_ _=>rfl)) ah))) (pv 1) (aA _)))))))),?_⟩
  refine ⟨_,rfl,_,_,rfl,rfl,_,rfl,bu (λh=>?_) (λh=>?_)⟩
  ·have h0:0<P:=of_decide_eq_true h
   have z:=q H (l0.refl H)
   unfold numV at z
   rw [if_neg (by omega)] at z
   obtain ⟨t,b,c,ty,h1,h2,e⟩:=ty
   refine ⟨_,rfl,v,t,b,c,rfl,ty,h1,h2,_,rfl,?_⟩
   rw [e]
   cases v with
   | int i=>
    refine cv ⟨_,rfl,_,_,rfl,rfl,_,rfl,?_⟩
    by_cases hi:0<=i
    ·rw [decide_eq_true hi]
     refine cv ⟨_,rfl,_,_,rfl,rfl,?_⟩
     have z':Q (.bl (decide (0<=i) && decide (i<P))) H:=z
     rw [decide_eq_true hi,Bool.true_and] at z'
     exact z'
    ·rw [decide_eq_false hi]
     have z':Q (.bl (decide (0<=i) && decide (i<P))) H:=z
     rw [decide_eq_false hi,Bool.false_and] at z'
     exact bF z'
   | _=>exact bF z
  ·have h0:P=0:=by
    have h1:¬ 0<P:=λz=>h (decide_eq_true z)
    rcases hP with z | ⟨z,_⟩<;>omega
   unfold numV at q
   rw [if_pos h0] at q
   rcases hv with ⟨t,ty,e,hn⟩ | ⟨a,xs,rfl,ha,hl,hty,hbd⟩
   ·rw [fracV_not hn] at q
    exact ⟨_,rfl,t,false,ty,e,_,rfl,cv (cv (q H (l0.refl H)))⟩
   ·rw [jN ha] at q
    refine ⟨_,rfl,_,true,.tup ha,rfl,_,rfl,bF ?_⟩
    refine ⟨_,rfl,a,xs,rfl,.inr (SqT.of ha),rfl,_,rfl,?_⟩
    by_cases hL:(xs.length:Int)=2
    ·refine iteNS (congrArg V.int hL) ?_
     match xs,hL with
     | [x,y],_=>
     obtain ⟨t1,b1,c1,ty1,h11,h12,e1⟩:=hty x (by simp)
     obtain ⟨t2,b2,c2,ty2,h21,h22,e2⟩:=hty y (by simp)
     refine ⟨_,rfl,a,_,_,_,rfl,rfl,SqT.of ha,rfl,x,t1,b1,c1,rfl,ty1,h11,h12,_,rfl,?_⟩
     rw [e1]
     cases x with
     | int n=>
      refine bF ?_
      refine ⟨_,rfl,a,_,_,_,rfl,rfl,SqT.of ha,rfl,y,t2,b2,c2,rfl,ty2,h21,h22,_,rfl,?_⟩
      rw [e2]
      cases y with
      | int d=>
       refine bF ?_
       refine ⟨_,rfl,a,_,_,_,rfl,rfl,SqT.of ha,rfl,_,_,rfl,rfl,_,rfl,?_⟩
       have q':∀ H',l0 H H'->Q (.bl (decide (1<=d) && decide (Int.gcd n d=1))) H':=q
       by_cases hd:0<d
       ·rw [decide_eq_true (show 1<=d by omega),Bool.true_and] at q'
        rw [decide_eq_true hd]
        refine cv ⟨_,rfl,a,_,_,_,rfl,rfl,SqT.of ha,rfl,_,rfl,a,_,_,_,rfl,rfl,SqT.of ha,rfl,n,d,rfl,by omega,Nat.lt_trans (hbd d (by simp)) pow2000,λt nt=>?_⟩
        have st:=l0.new (o:=.tup [.int (nrm n d).1,.int (nrm n d).2]) nt
        refine ⟨_,rfl,dc [(nrm n d).1,(nrm n d).2],dc [n,d],fg (SqT.of af),fg (SqT.of (st _ _ ha)),bE _,bE _,?_⟩
        rw [jj]
        have ed:decide ([(nrm n d).1,(nrm n d).2]=[n,d])=decide (Int.gcd n d=1):=by
         apply decide_eq_decide.mpr
         rw [<- dZ n d hd]
         constructor
         ·intro z
          injection z with z1 z2
          injection z2 with z2
          exact Prod.ext z1 z2
         ·intro z
          rw [z]
        rw [ed]
        exact q' _ st
       ·rw [decide_eq_false (show ¬ 1<=d by omega),Bool.false_and] at q'
        rw [decide_eq_false hd]
        exact bF (q' H (l0.refl H))
      | _=>exact cv (q H (l0.refl H))
     | _=>exact cv (cv (by cases y<;>exact q H (l0.refl H)))
    ·have e0:(!decide (V.int (xs.length:Int)=V.int 2))=true:=by
      rw [decide_eq_false (λz=>hL (by injection z))]; rfl
     rw [e0]
     have z:=q H (l0.refl H)
     have ep:kB xs=false:=by
      unfold kB
      split
      ·exact absurd rfl hL
      ·rfl
     rw [ep] at z
     exact cv (cv z)
def At (P:Int) (H:Hp) (v:V) (x:Int × Int):Prop:=(P=0/\∃ t,v=.ref t/\H t=some (.tup [.int x.1,.int x.2]))\/(P ≠ 0/\v=.int x.1/\x.2=1)
theorem At.mono {P:Int} {H H':Hp} {v:V} {x:Int × Int} (h:At P H v x) (k:∀ t xs,H t=some (.tup xs)->H' t=some (.tup xs)):At P H' v x:=by
 rcases h with ⟨h0,t,rfl,e⟩ | h
 ·exact .inl ⟨h0,t,rfl,k _ _ e⟩
 ·exact .inr h
theorem At.same {P:Int} {H H':Hp} {v:V} {x:Int × Int} (h:At P H v x) (s:l0 H H'):At P H' v x:=h.mono λt xs e=>s _ _ e
theorem gm:(2:Nat) ^ 2900<2 ^ 6000:=Nat.pow_lt_pow_right (by decide) (by decide)
theorem cZ {a b:Int} (h1:a.natAbs<2 ^ 2900) (h2:b.natAbs<2 ^ 2900):IntMulOk a b:=mulOk (Nat.lt_trans h1 gm) (Nat.lt_trans h2 gm)
theorem mulSz2 {a b:Int} (h1:a.natAbs<2 ^ 2900) (h2:b.natAbs<2 ^ 2900):(a*b).natAbs<2 ^ 6000:=Nat.lt_of_lt_of_le (eE h1 h2) (cA (by decide))
def eG (CN:Addr):Sp:=λvs H Q E=>∃ (x:V) (a b:Int),vs=[x,.int a,.int b]/\(b=0->E (.ref CN) none H)/\(b ≠ 0->b.natAbs<2 ^ 6000/\∀ t,H t=none->Q (.ref t) (upd H t (.tup [.int (nrm a b).1,.int (nrm a b).2])))
theorem nh:l8 ["self", "top", "bottom", "common"] ["self", "top", "bottom"] (aj aF):=.i
theorem ok_fofx {f og:Addr} {fd:FuncData} (F:FunD K "of" "Fractions.of" aF f fd) (oo:FnB P w K mg base 1 "greatest_divisor" spGcd) (ANoNumber:mg "NoNumber"=some (.ref og)) (xc:XCl K og) :
  me P w K mg base (CXE P w) 2 f fd ["self", "top", "bottom"] (eG og):=by
 refine F.okX nh (λvs H Q E h=>?_) (λcdv A outer s H vs Q E hr h=>?_)
 ·obtain ⟨x,a,b,rfl,_⟩:=h
  rfl
 ·obtain ⟨x,a,b,rfl,hz,hq⟩:=h
  refine ⟨_,(ag (aK (az cO (pv 2) ae (aA _))
(ai (iH xc.ek ANoNumber (aa pe_str ah)))
aC)
(ag (aK (az cO (pv 2) ae (aA _))
(ai (ap (bp (aa (pv 1) (aa ae ah)))))
aC)
(ag (ar (i:=3) nh.nd rfl (Or.inl rfl) (aq oo hr.m (aa (pv 1) (aa (pv 2) ah))))
(ag (aK (az gZ (pv 2) ae (aA _))
(ai (ar (i:=3) nh.nd rfl (Or.inl rfl) (pe_un un_neg (pv 3))))
aC)
(ai (ap (bp (aa (ao bj (pv 1) (pv 3)) (aa (ao bj (pv 2) (pv 3)) ah))))))))),?_⟩
  refine ⟨_,rfl,rfl,_,rfl,?_⟩
  by_cases hb:b=0
  ·subst hb
   rw [decide_eq_true rfl]
   exact cv ⟨(by show 1<=sizeLine; decide),hz rfl⟩
  obtain ⟨hbs,q⟩:=hq hb
  rw [decide_eq_false (show ¬ V.int b=V.int 0 from λz=>hb (by injection z))]
  refine bF ⟨_,rfl,rfl,_,rfl,bu (λh=>?_) (λh=>?_)⟩
  ·have h1:b=1:=by
    have:=of_decide_eq_true h
    injection this
   subst h1
   refine ⟨_,rfl,(by show 2<=sizeLine; decide),λt ht=>?_⟩
   have z:=q t ht
   rw [(dZ a 1 (by decide)).mpr (Int.gcd_one_right ..)] at z
   exact z
  ·refine ⟨_,rfl,_,rfl,a,b,rfl,?_⟩
   have hgp:0<Int.gcd a b:=Int.gcd_pos_of_ne_zero_right a hb
   have hgl:Int.gcd a b<=b.natAbs:=Nat.le_of_dvd (by omega) (Nat.gcd_dvd_right a.natAbs b.natAbs)
   have sm:(Int.gcd a b)<2 ^ 6000:=Nat.lt_of_le_of_lt hgl hbs
   refine ⟨_,rfl,_,_,rfl,rfl,_,rfl,bu (λh=>?_) (λh=>?_)⟩
   ·have hb0:b<0:=of_decide_eq_true h
    refine ⟨_,rfl,_,rfl,?_⟩
    have sm2:CDivA a (-(Int.gcd a b:Int)):=⟨by omega,by rw [Int.natAbs_neg,Int.natAbs_natCast]; exact sm⟩
    refine ⟨_,rfl,_,rfl,_,_,rfl,rfl,sm2,_,rfl,_,rfl,_,_,rfl,rfl,sm2,(by show 2<=sizeLine; decide),λt ht=>?_⟩
    have z:=q t ht
    unfold nrm at z
    rw [if_pos hb0] at z
    exact z
   ·have hb0:¬ b<0:=λz=>h (decide_eq_true z)
    have sm2:CDivA a (Int.gcd a b:Int):=⟨by omega,by rw [Int.natAbs_natCast]; exact sm⟩
    refine ⟨_,rfl,_,rfl,_,_,rfl,rfl,sm2,_,rfl,_,rfl,_,_,rfl,rfl,sm2,(by show 2<=sizeLine; decide),λt ht=>?_⟩
    have z:=q t ht
    unfold nrm at z
    rw [if_neg hb0] at z
    exact z
def spFOp (CF:Addr) (g:Int × Int->Int × Int->Int × Int):Sp:=λvs H Q _=>∃ (x dx s t:Addr) (a b:Int × Int),vs=[.ref x,.ref s,.ref t]/\H x=some (.ins CF dx [])/\H s=some (.tup [.int a.1,.int a.2])/\H t=some (.tup [.int b.1,.int b.2])/\0<a.2/\0<b.2/\Sz 2900 a/\Sz 2900 b/\
 ∀ r,H r=none->Q (.ref r) (upd H r (.tup [.int (nrm (g a b).1 (g a b).2).1,.int (nrm (g a b).1 (g a b).2).2]))
def spROp (CR:Addr) (g:Int->Int->Int):Sp:=λvs H Q _=>∃ (x dx:Addr) (p a b:Int),vs=[.ref x,.int a,.int b]/\H x=some (.ins CR dx [("modulus",.int p)])/\0<p/\p<=9973/\0<=a/\a<p/\0<=b/\b<p/\Q (.int (g a b % p)) H
theorem f9:l8 ["self", "one", "other"] ["self", "one", "other"] (aj aT):=.i
theorem ok_fplus {f CF og:Addr} {fd:FuncData} (F:Fun K "plus" "Fractions.plus" aT f fd) (uh:jD P w K mg base 2 CF "of" [] (eG og)):me P w K mg base CX0 3 f fd ["self", "one", "other"] (spFOp CF λa b=>(a.1*b.2+b.1*a.2,a.2*b.2)):=by
 refine F.o f9 λ_ _ _ _ H _ Q _ hr h=>?_
 ·obtain ⟨x,dx,s,t,a,b,rfl,hx,hs,ht,ha,hb,sa,sb,q⟩:=h
  refine ⟨_,(ai (ap (i4 uh hr.m gz (pv 0) (aa (ao aP (ao bq (aB (aw K rfl) (pv 1) ae (λ_ _=>rfl)) (aB (aw K rfl) (pv 2) ae (λ_ _=>rfl))) (ao bq (aB (aw K rfl) (pv 2) ae (λ_ _=>rfl)) (aB (aw K rfl) (pv 1) ae (λ_ _=>rfl)))) (aa (ao bq (aB (aw K rfl) (pv 1) ae (λ_ _=>rfl)) (aB (aw K rfl) (pv 2) ae (λ_ _=>rfl))) ah))))),?_⟩
  refine ⟨_,rfl,x,dx,[],rfl,hx,rfl,_,rfl,s,_,_,_,rfl,rfl,SqT.of hs,rfl,_,rfl,t,_,_,_,rfl,rfl,SqT.of ht,rfl,_,_,rfl,rfl,cZ sa.1 sb.2,_,rfl,t,_,_,_,rfl,rfl,SqT.of ht,rfl,_,rfl,s,_,_,_,rfl,rfl,SqT.of hs,rfl,_,_,rfl,rfl,cZ sb.1 sa.2,_,_,rfl,rfl,?_⟩
  refine ⟨_,rfl,s,_,_,_,rfl,rfl,SqT.of hs,rfl,_,rfl,t,_,_,_,rfl,rfl,SqT.of ht,rfl,_,_,rfl,rfl,cZ sa.2 sb.2,_,_,_,rfl,λz=>absurd z (fh ha hb),λ_=>⟨mulSz2 sa.2 sb.2,q⟩⟩
theorem jE:l8 ["self", "one", "other"] ["self", "one", "other"] (aj br):=.i
theorem ok_rplus {f CR:Addr} {fd:FuncData} (F:Fun K "plus" "Rests.plus" br f fd) (cl:Cls K CR) (nM:mP K CR "modulus"):me P w K mg base CX0 1 f fd ["self", "one", "other"] (spROp CR (· + ·)):=by
 refine F.o jE λ_ _ _ _ H _ Q _ hr h=>?_
 ·obtain ⟨x,dx,p,a,b,rfl,hx,hp,hp9,a0,a1,b0,b1,q⟩:=h
  refine ⟨_,(ai (ap (ao aZ (ao aP (pv 1) (pv 2)) (gs (pv 0) rfl)))),?_⟩
  exact ⟨_,rfl,_,rfl,_,_,rfl,rfl,_,rfl,x,CR,dx,_,_,rfl,hx,cl,nM,rfl,_,_,rfl,rfl,hp,q⟩
theorem l7.b {P:Int} (h:l7 P):0<=P/\P<=9973/\P ≠ 1:=by
 rcases h with h | ⟨h1,h2,_⟩<;>omega
def g8 (g:Int->Int × Int->Int × Int->Int × Int):Sp:=λvs H Q _=>∃ (P:Int) (u v:V) (x y:Int × Int),vs=[.int P,u,v]/\l7 P/\At P H u x/\At P H v y/\OkN P x/\OkN P y/\Sz 2900 x/\Sz 2900 y/\∀ r H',l0 H H'->At P H' r (g P x y)->Q r H'
theorem lT:l8 ["_law_prime_here", "_law_one", "_law_other"] ["_law_prime_here", "_law_one", "_law_other"] (aj eV):=.i
theorem ok_lplus {f:Addr} {fd:FuncData} (F:Fun K "_law_plus" "_law_plus" eV f fd) (om:FnB P w K mg base 1 "_law_low" kD):me P w K mg base CX0 2 f fd ["_law_prime_here", "_law_one", "_law_other"] (g8 aU):=by
 refine F.o lT λ_ _ _ _ H _ Q _ hr h=>?_
 ·obtain ⟨P,u,v,x,y,rfl,hP,hu,hv,ox,oy,sx,sy,q⟩:=h
  refine ⟨_,(ag (aK (az cO (pv 0) ae (aA _))
(ai (ap (aq om hr.m (aa (ao aP (ao bq (aB (aw K rfl) (pv 1) ae (λ_ _=>rfl)) (aB (aw K rfl) (pv 2) ae (λ_ _=>rfl))) (ao bq (aB (aw K rfl) (pv 2) ae (λ_ _=>rfl)) (aB (aw K rfl) (pv 1) ae (λ_ _=>rfl)))) (aa (ao bq (aB (aw K rfl) (pv 1) ae (λ_ _=>rfl)) (aB (aw K rfl) (pv 2) ae (λ_ _=>rfl))) ah)))))
aC)
(ai (ap (ao aZ (ao aP (pv 1) (pv 2)) (pv 0))))),?_⟩
  unfold aU at q
  refine ⟨_,rfl,rfl,_,rfl,bu (λh=>?_) (λh=>?_)⟩
  ·have h0:P=0:=by have:=of_decide_eq_true h; injection this
   rcases hu with ⟨_,s,rfl,hs⟩ | ⟨z,_⟩
   ·rcases hv with ⟨_,t,rfl,ht⟩ | ⟨z,_⟩
    ·rw [if_pos h0] at q
     refine ⟨_,rfl,s,_,_,_,rfl,rfl,SqT.of hs,rfl,_,rfl,t,_,_,_,rfl,rfl,SqT.of ht,rfl,_,_,rfl,rfl,cZ sx.1 sy.2,_,rfl,t,_,_,_,rfl,rfl,SqT.of ht,rfl,_,rfl,s,_,_,_,rfl,rfl,SqT.of hs,rfl,_,_,rfl,rfl,cZ sy.1 sx.2,_,_,rfl,rfl,?_⟩
     refine ⟨_,rfl,s,_,_,_,rfl,rfl,SqT.of hs,rfl,_,rfl,t,_,_,_,rfl,rfl,SqT.of ht,rfl,_,_,rfl,rfl,cZ sx.2 sy.2,_,_,rfl,fh ox.den oy.den,mulSz2 sx.2 sy.2,λr nr=>?_⟩
     exact q _ _ (l0.new nr) (.inl ⟨h0,r,rfl,af⟩)
    ·exact absurd h0 z
   ·exact absurd h0 z
  ·have h0:P ≠ 0:=λz=>h (decide_eq_true (congrArg V.int z))
   have hPp:0<P:=by have:=hP.b; omega
   rcases hu with ⟨z,_⟩ | ⟨_,rfl,_⟩
   ·exact absurd z h0
   ·rcases hv with ⟨z,_⟩ | ⟨_,rfl,_⟩
    ·exact absurd z h0
    ·rw [if_neg h0] at q
     exact ⟨_,rfl,_,rfl,_,_,rfl,rfl,_,rfl,_,_,rfl,rfl,hPp,q _ H (l0.refl H) (.inr ⟨h0,rfl,rfl⟩)⟩
theorem jF:l8 ["_law_prime_here", "_law_one", "_law_other"] ["_law_prime_here", "_law_one", "_law_other"] (aj dM):=.i
theorem ok_ltimes {f:Addr} {fd:FuncData} (F:Fun K "_law_times" "_law_times" dM f fd) (om:FnB P w K mg base 1 "_law_low" kD):me P w K mg base CX0 2 f fd ["_law_prime_here", "_law_one", "_law_other"] (g8 bf):=by
 refine F.o jF λ_ _ _ _ H _ Q _ hr h=>?_
 ·obtain ⟨P,u,v,x,y,rfl,hP,hu,hv,ox,oy,sx,sy,q⟩:=h
  refine ⟨_,(ag (aK (az cO (pv 0) ae (aA _))
(ai (ap (aq om hr.m (aa (ao bq (aB (aw K rfl) (pv 1) ae (λ_ _=>rfl)) (aB (aw K rfl) (pv 2) ae (λ_ _=>rfl))) (aa (ao bq (aB (aw K rfl) (pv 1) ae (λ_ _=>rfl)) (aB (aw K rfl) (pv 2) ae (λ_ _=>rfl))) ah)))))
aC)
(ai (ap (ao aZ (ao bg (pv 1) (pv 2)) (pv 0))))),?_⟩
  unfold bf at q
  refine ⟨_,rfl,rfl,_,rfl,bu (λh=>?_) (λh=>?_)⟩
  ·have h0:P=0:=by have:=of_decide_eq_true h; injection this
   rcases hu with ⟨_,s,rfl,hs⟩ | ⟨z,_⟩
   ·rcases hv with ⟨_,t,rfl,ht⟩ | ⟨z,_⟩
    ·rw [if_pos h0] at q
     refine ⟨_,rfl,s,_,_,_,rfl,rfl,SqT.of hs,rfl,_,rfl,t,_,_,_,rfl,rfl,SqT.of ht,rfl,_,_,rfl,rfl,cZ sx.1 sy.1,?_⟩
     refine ⟨_,rfl,s,_,_,_,rfl,rfl,SqT.of hs,rfl,_,rfl,t,_,_,_,rfl,rfl,SqT.of ht,rfl,_,_,rfl,rfl,cZ sx.2 sy.2,_,_,rfl,fh ox.den oy.den,mulSz2 sx.2 sy.2,λr nr=>?_⟩
     exact q _ _ (l0.new nr) (.inl ⟨h0,r,rfl,af⟩)
    ·exact absurd h0 z
   ·exact absurd h0 z
  ·have h0:P ≠ 0:=λz=>h (decide_eq_true (congrArg V.int z))
   have hb:=hP.b
   have hPp:0<P:=by omega
   rcases hu with ⟨z,_⟩ | ⟨_,rfl,_⟩
   ·exact absurd z h0
   ·rcases hv with ⟨z,_⟩ | ⟨_,rfl,_⟩
    ·exact absurd z h0
    ·rw [if_neg h0] at q
     rcases ox with ⟨z,_⟩ | ⟨_,x0,x1,_⟩
     ·exact absurd z h0
     exact ⟨_,rfl,_,rfl,_,_,rfl,rfl,.inl ⟨by omega,by omega⟩,_,rfl,_,_,rfl,rfl,hPp,q _ H (l0.refl H) (.inr ⟨h0,rfl,rfl⟩)⟩
def jr:Sp:=λvs H Q _=>∃ P:Int,vs=[.int P]/\l7 P/\∀ r H',l0 H H'->At P H' r (0,1)->Q r H'
theorem jv:l8 ["_law_prime_here"] ["_law_prime_here"] (aj cT):=.i
theorem ok_nought {f:Addr} {fd:FuncData} (F:Fun K "_law_nought" "_law_nought" cT f fd) (T:Blt mg):me P w K mg base CX0 1 f fd ["_law_prime_here"] jr:=by
 refine F.o jv λ_ _ _ _ H _ Q _ hr h=>?_
 ·obtain ⟨P,rfl,hP,q⟩:=h
  refine ⟨_,(ai (ap (aB (aM K rfl) (ci (aa (bp (aa ae (aa ae ah))) (aa ae ah))) (fy ku (by rfl) T.int gS (aa (cw cY (pv 0) ae (aA _)) ah)) (λ_ _=>rfl)))),?_⟩
  refine ⟨(by show 2<=sizeLine; decide),λt nt=>?_⟩
  refine ⟨(by show 2<=sizeLine; decide),λl nl=>?_⟩
  have s1:=l0.new (o:=.tup [.int 0,.int 1]) nt
  have s2:=l0.new (o:=.lst [.ref t,.int 0]) nl
  have hb:=hP.b
  by_cases h0:P=0
  ·refine ⟨_,rfl,_,_,rfl,rfl,.inr ⟨_,rfl,l,_,_,_,rfl,rfl,SqL.of af,(by rw [decide_eq_false (by omega)]; rfl),?_⟩⟩
   exact q _ _ (s1.trans s2) (.inl ⟨h0,t,rfl,s2 _ _ af⟩)
  ·refine ⟨_,rfl,_,_,rfl,rfl,.inr ⟨_,rfl,l,_,_,_,rfl,rfl,SqL.of af,(by rw [decide_eq_true (by omega)]; rfl),?_⟩⟩
   exact q _ _ (s1.trans s2) (.inr ⟨h0,rfl,rfl⟩)
def spUnit:Sp:=λvs H Q _=>∃ P:Int,vs=[.int P]/\l7 P/\∀ r H',l0 H H'->At P H' r (1,1)->Q r H'
theorem lM:l8 ["_law_prime_here"] ["_law_prime_here"] (aj eK):=.i
theorem ok_unit {f:Addr} {fd:FuncData} (F:Fun K "_law_unit" "_law_unit" eK f fd) (T:Blt mg):me P w K mg base CX0 1 f fd ["_law_prime_here"] spUnit:=by
 refine F.o lM λ_ _ _ _ H _ Q _ hr h=>?_
 ·obtain ⟨P,rfl,hP,q⟩:=h
  refine ⟨_,(ai (ap (aB (aM K rfl) (ci (aa (bp (aa ae (aa ae ah))) (aa ae ah))) (fy ku (by rfl) T.int gS (aa (cw cY (pv 0) ae (aA _)) ah)) (λ_ _=>rfl)))),?_⟩
  refine ⟨(by show 2<=sizeLine; decide),λt nt=>?_⟩
  refine ⟨(by show 2<=sizeLine; decide),λl nl=>?_⟩
  have s1:=l0.new (o:=.tup [.int 1,.int 1]) nt
  have s2:=l0.new (o:=.lst [.ref t,.int 1]) nl
  have hb:=hP.b
  by_cases h0:P=0
  ·refine ⟨_,rfl,_,_,rfl,rfl,.inr ⟨_,rfl,l,_,_,_,rfl,rfl,SqL.of af,(by rw [decide_eq_false (by omega)]; rfl),?_⟩⟩
   exact q _ _ (s1.trans s2) (.inl ⟨h0,t,rfl,s2 _ _ af⟩)
  ·refine ⟨_,rfl,_,_,rfl,rfl,.inr ⟨_,rfl,l,_,_,_,rfl,rfl,SqL.of af,(by rw [decide_eq_true (by omega)]; rfl),?_⟩⟩
   exact q _ _ (s1.trans s2) (.inr ⟨h0,rfl,rfl⟩)
theorem pow103:(10:Nat) ^ 31<2 ^ 103:=by decide +kernel
theorem NumIs.at_ {P:Int} {H:Hp} {v:V} (hP:l7 P) (h:NumIs P H v):∃ x,At P H v x/\OkN P x/\Sz 103 x:=by
 have hb:=hP.b
 rcases h with ⟨h0,r,rfl,r0,r1⟩ | ⟨h0,t,n,d,rfl,ht,hd,hg,hn,hd2⟩
 ·have h3:2 ^ 14<=2 ^ 103:=cA (by decide)
  exact ⟨(r,1),.inr ⟨h0,rfl,rfl⟩,.inr ⟨h0,r0,r1,rfl⟩,by show r.natAbs<2 ^ 103; omega,by show (1:Int).natAbs<2 ^ 103; omega⟩
 ·exact ⟨(n,d),.inl ⟨h0,t,rfl,ht⟩,.inl ⟨h0,hd,hg⟩,Nat.lt_trans hn pow103,Nat.lt_trans hd2 pow103⟩
def dN (P:Int) (x:Int × Int):PyData:=if P=0 then dc [x.1,x.2] else .int x.1
theorem iR {K:Frag} {P:Int} {H:Hp} {v:V} {x:Int × Int} (h:At P H v x):DR K H (dN P x) v:=by
 unfold dN
 rcases h with ⟨h0,t,rfl,e⟩ | ⟨h0,rfl,_⟩
 ·rw [if_pos h0]
  exact fg (ns:=[x.1,x.2]) (SqT.of e)
 ·rw [if_neg h0]
  exact .int _
theorem bD (P:Int) (x:Int × Int):SeqAt.shaped (dN P x)=true:=by
 unfold dN
 split
 ·exact bE _
 ·rfl
theorem At.thing {K:Frag} {P:Int} {H:Hp} {v:V} {x:Int × Int} (h:At P H v x) (o:OkN P x) (s:Sz 2900 x):Thing K H v/\numV P H v=true:=by
 have p2:(2:Nat) ^ 2900<2 ^ 3000:=Nat.pow_lt_pow_right (by decide) (by decide)
 rcases h with ⟨h0,t,rfl,e⟩ | ⟨h0,rfl,_⟩
 ·rcases o with ⟨_,hd,hg⟩ | ⟨z,_⟩
  ·refine ⟨⟨.tup e,.inr ⟨t,_,rfl,e,by show 2<=1000; decide,typed_ints [x.1,x.2],λi hi=>?_⟩⟩,?_⟩
   ·have h:i=x.1\/i=x.2:=by
     rcases List.mem_cons.mp hi with z | z
     ·injection z with z; exact .inl z
     ·rcases List.mem_cons.mp z with z | z
      ·injection z with z; exact .inr z
      ·cases z
    rcases h with rfl | rfl
    ·exact Nat.lt_trans s.1 p2
    ·exact Nat.lt_trans s.2 p2
   ·unfold numV
    rw [if_pos h0,jN e]
    show (decide (1<=x.2) && decide (Int.gcd x.1 x.2=1))=true
    rw [decide_eq_true (show 1<=x.2 by omega),decide_eq_true hg]
    rfl
  ·exact absurd h0 z
 ·rcases o with ⟨z,_⟩ | ⟨_,r0,r1,_⟩
  ·exact absurd z h0
  ·refine ⟨⟨.int _,.inl ⟨_,.int _,rfl,λa z=>by cases z⟩⟩,?_⟩
   unfold numV
   rw [if_neg h0]
   show (decide (0<=x.1) && decide (x.1<P))=true
   rw [decide_eq_true r0,decide_eq_true r1]
   rfl
abbrev al:=List Int × (Int × Int)
def PartR (P:Int) (H:Hp) (v:V) (p:al):Prop:=∃ (t k:Addr) (u:V),v=.ref t/\H t=some (.tup [.ref k,u])/\H k=some (.tup (p.1.map V.int))/\At P H u p.2
abbrev l6 (P:Int) (H:Hp):List V->List al->Prop:=Paired (PartR P H)
theorem PartR.mono {P:Int} {H H':Hp} {v:V} {p:al} (k:∀ t xs,H t=some (.tup xs)->H' t=some (.tup xs)) (h:PartR P H v p):PartR P H' v p:=by
 obtain ⟨t,c,u,rfl,h1,h2,h3⟩:=h
 exact ⟨t,c,u,rfl,k _ _ h1,k _ _ h2,h3.mono k⟩
theorem l6.mono {P:Int} {H H':Hp} (k:∀ t xs,H t=some (.tup xs)->H' t=some (.tup xs)):∀ {vs:List V} {ps:List al},l6 P H vs ps->l6 P H' vs ps
 | _,_,.nil=>.nil
 | _,_,.cons q r=>.cons (q.mono k) (l6.mono k r)
theorem l6.at_ {P:Int} {H:Hp}:∀ {vs:List V} {ps:List al} {i:Nat} {v:V},l6 P H vs ps->vs[i]? = some v->∃ p,ps[i]? = some p/\PartR P H v p
 | _,_,0,v,.cons q r,e=>by cases e; exact ⟨_,rfl,q⟩
 | _::_,_::_,i+1,v,.cons q r,e=>l6.at_ (i:=i) r e
theorem gu {α β:Type} {R:α->β->Prop}:∀ {xs:List α} {ys:List β} {i:Nat} {x:α} {y:β},Paired R xs ys->xs[i]? = some x->ys[i]? = some y->R x y
 | _,_,0,x,y,.cons q r,e1,e2=>by cases e1; cases e2; exact q
 | _::_,_::_,i+1,x,y,.cons q r,e1,e2=>gu (i:=i) r e1 e2
def bW (P:Int) (m:List al) (p:al):List al:=cq m p.1 (aU P ((ba m p.1).getD (0,1)) p.2)
def acc (P:Int) (ps:List al):List al:=ps.foldl (bW P) []
theorem acc_snoc (P:Int) (ps:List al) (p:al):acc P (ps++[p])=bW P (acc P ps) p:=by
 unfold acc
 rw [foldl_append]
 rfl
theorem eA {P:Int} {ps:List al} {i:Nat} {p:al} (h:ps[i]? = some p):acc P (ps.take (i+1))=bW P (acc P (ps.take i)) p:=by
 rw [take_add_one,h]
 exact acc_snoc P _ p
def eN (P:Int) (ps:List al):Prop:=(∀ p ∈ ps,OkN P p.2/\Sz 2900 p.2)/\∀ i,∀ p ∈ acc P (ps.take i),Sz 2900 p.2
theorem gQ (P:Int) (ps:List al):((acc P ps).map (·.1)).Nodup:=by
 unfold acc
 have go:∀ (ps m:List al),(m.map (·.1)).Nodup->((ps.foldl (bW P) m).map (·.1)).Nodup:=by
  intro ps
  induction ps with
  | nil=>intro m h; exact h
  | cons p ps ih=>intro m h; exact ih _ (iO h)
 exact go ps [] (by simp)
theorem gf (P:Int) (ps:List al):(acc P ps).length<=ps.length:=by
 unfold acc
 have go:∀ (ps m:List al),(ps.foldl (bW P) m).length<=m.length+ps.length:=by
  intro ps
  induction ps with
  | nil=>intro m; simp
  | cons p ps ih=>
   intro m
   have h1:=ih (bW P m p)
   have h2:(bW P m p).length<=m.length+1:=aput_len _ _ _
   show (ps.foldl (bW P) (bW P m p)).length<=_
   rw [length_cons]
   omega
 simpa using go ps []
theorem dA {P:Int} (hP:0<=P) (h1:P ≠ 1) {ps:List al} (h:∀ p ∈ ps,OkN P p.2):∀ p ∈ acc P ps,OkN P p.2:=by
 unfold acc
 have go:∀ (ps m:List al),(∀ p ∈ ps,OkN P p.2)->(∀ p ∈ m,OkN P p.2)->∀ p ∈ ps.foldl (bW P) m,OkN P p.2:=by
  intro ps
  induction ps with
  | nil=>intro m _ h; exact h
  | cons p ps ih=>
   intro m hp hm
   refine ih _ (λq hq=>hp q (by simp [hq])) λq hq=>?_
   rcases cL hq with z | z
   ·rw [z]
    refine lJ hP ?_ (hp p (by simp))
    cases e:ba m p.1 with
    | none=>exact ce hP h1
    | some y=>exact hm _ (aV e)
   ·exact hm q z
 exact go ps [] h (λp hp=>nomatch hp)
def nz (p:al):Bool:=decide (p.2 ≠ (0,1))
def hk (p:al):Int × List Int:=(p.1.sum,p.1)
def mh (P:Int) (ps out:List al):Prop:=out.Perm ((acc P ps).filter nz)/\out.Pairwise λa b=>klt (hk b) (hk a)=true
theorem gp {P:Int} {ps a b:List al} (h1:mh P ps a) (h2:mh P ps b):a=b:=
 eI (lt:=λx y=>klt (hk x) (hk y)) (λ_=>lI _) (λ_ _ _=>gA) (h1.1.trans h2.1.symm) h1.2 h2.2
theorem eqv_dN2 {P:Int} {x y:Int × Int} (hx:OkN P x) (hy:OkN P y):PyData.eqv (dN P x) (dN P y)=decide (x=y):=by
 unfold dN
 by_cases h0:P=0
 ·rw [if_pos h0,if_pos h0,jj]
  apply decide_eq_decide.mpr
  constructor
  ·intro z
   injection z with z1 z2
   injection z2 with z2
   exact Prod.ext z1 z2
  ·intro z; rw [z]
 ·rw [if_neg h0,if_neg h0]
  rcases hx with ⟨z,_⟩ | ⟨_,_,_,x2⟩
  ·exact absurd z h0
  rcases hy with ⟨z,_⟩ | ⟨_,_,_,y2⟩
  ·exact absurd z h0
  have e:PyData.eqv (.int x.1) (.int y.1)=decide (x.1=y.1):=by simp only [PyData.eqv]; rfl
  rw [e]
  apply decide_eq_decide.mpr
  exact ⟨λz=>Prod.ext z (x2.trans y2.symm),λz=>by rw [z]⟩
theorem sz_01:Sz 2900 (0,1):=⟨Nat.pow_pos (by decide),Nat.one_lt_two_pow (by decide)⟩
def vI:V->Int
 | .int i=>i
 | _=>0
def tupI (H:Hp):V->List Int
 | .ref k=>match H k with
  | some (.tup xs)=>xs.map vI
  | _=>[]
 | _=>[]
def jH (H:Hp) (v:V):Int × List Int:=((tupI H v).sum,tupI H v)
def keyP (H:Hp):V->Int × List Int
 | .ref t=>match H t with
  | some (.tup (k::_))=>jH H k
  | _=>(0,[])
 | _=>(0,[])
theorem iB {H:Hp} {k:Addr} {ns:List Int} (h:H k=some (.tup (ns.map V.int))):tupI H (.ref k)=ns:=by
 show (match H k with | some (.tup xs)=>xs.map vI | _=>[])=ns
 rw [h]
 show (ns.map V.int).map vI=ns
 rw [map_map]
 exact List.map_id'' (λ_=>rfl) ns
theorem PartR.key {P:Int} {H:Hp} {v:V} {p:al} (h:PartR P H v p):keyP H v=hk p:=by
 obtain ⟨t,k,u,rfl,h1,h2,_⟩:=h
 show (match H t with | some (.tup (k::_))=>jH H k | _=>(0,[]))=hk p
 rw [h1]
 show jH H (.ref k)=hk p
 unfold jH hk
 rw [iB h2]
theorem l6.keys {P:Int} {H:Hp}:∀ {vs:List V} {ps:List al},l6 P H vs ps->vs.map (keyP H)=ps.map hk
 | _,_,.nil=>rfl
 | _,_,.cons q r=>by rw [map_cons,map_cons,q.key,l6.keys r]
theorem hk_nodup {ps:List al} (h:(ps.map (·.1)).Nodup):(ps.map hk).Nodup:=by
 have e:ps.map hk=(ps.map (·.1)).map (λk:List Int=>(k.sum,k)):=by rw [map_map]; rfl
 rw [e]
 exact List.Pairwise.map _ (λa b hab z=>hab (congrArg Prod.snd z)) h
theorem l6.perm {P:Int} {H:Hp} {vs ws:List V} {ps:List al} (h:l6 P H vs ps) (p:ws.Perm vs):∃ qs:List al,qs.Perm ps/\l6 P H ws qs:=by
 have go:∀ {ws vs:List V},ws.Perm vs->∀ ps:List al,l6 P H vs ps->∃ qs:List al,qs.Perm ps/\l6 P H ws qs:=by
  intro ws vs p
  induction p with
  | nil=>intro ps h; exact ⟨ps,.refl _,h⟩
  | cons x p ih=>
   intro ps h
   cases h with
   | cons q r=>
    obtain ⟨qs,e,h'⟩:=ih _ r
    exact ⟨_::qs,e.cons _,.cons q h'⟩
  | swap x y l=>
   intro ps h
   cases h with
   | cons q r=>cases r with
    | cons q2 r=>exact ⟨_::_::_,.swap _ _ _,.cons q2 (.cons q r)⟩
  | trans p1 p2 ih1 ih2=>
   intro ps h
   obtain ⟨qs,e,h'⟩:=ih2 _ h
   obtain ⟨rs,e2,h2⟩:=ih1 _ h'
   exact ⟨rs,e2.trans e,h2⟩
 exact go p ps h
theorem l6.fall {P:Int} {H:Hp} {lt:Int × List Int->Int × List Int->Bool}:∀ {vs:List V} {ps:List al},l6 P H vs ps->vs.Pairwise (λx y=>lt (keyP H y) (keyP H x)=true)->ps.Pairwise (λa b=>lt (hk b) (hk a)=true):=by
 intro vs ps h hp
 have z:(vs.map (keyP H)).Pairwise (λa b=>lt b a=true):=List.pairwise_map.mpr hp
 rw [h.keys] at z
 exact List.pairwise_map.mp z
theorem l6.snoc {P:Int} {H:Hp} {v:V} {p:al} (q:PartR P H v p):∀ {vs:List V} {ps:List al},l6 P H vs ps->l6 P H (vs++[v]) (ps++[p])
 | _,_,.nil=>.cons q .nil
 | _,_,.cons a r=>.cons a (l6.snoc q r)
theorem l6.mem {P:Int} {H:Hp}:∀ {vs:List V} {ps:List al} {v:V},l6 P H vs ps->v ∈ vs->∃ p ∈ ps,PartR P H v p
 | _,_,v,.cons q r,hv=>by
  rcases List.mem_cons.mp hv with rfl | hv
  ·exact ⟨_,by simp,q⟩
  ·obtain ⟨p,hp,h⟩:=l6.mem r hv
   exact ⟨p,by simp [hp],h⟩
theorem cP {ps:List al} {i:Nat} {p:al} (h:ps[i]? = some p):(ps.take (i+1)).filter nz=(ps.take i).filter nz++(if nz p=true then [p] else []):=by
 rw [take_add_one,h,List.filter_append]
 congr 1
 show List.filter nz [p]=_
 by_cases e:nz p=true
 ·rw [if_pos e]; simp [e]
 ·rw [if_neg e]; simp [e]
theorem paired_perm {α β:Type} {R:α->β->Prop} {ws vs:List α} (p:ws.Perm vs):∀ ps:List β,Paired R vs ps->∃ qs:List β,qs.Perm ps/\Paired R ws qs:=by
 induction p with
 | nil=>intro ps h; exact ⟨ps,.refl _,h⟩
 | cons x p ih=>
  intro ps h
  cases h with
  | cons q r=>
   obtain ⟨qs,e,h'⟩:=ih _ r
   exact ⟨_::qs,e.cons _,.cons q h'⟩
 | swap x y l=>
  intro ps h
  cases h with
  | cons q r=>cases r with
   | cons q2 r=>exact ⟨_::_::_,.swap _ _ _,.cons q2 (.cons q r)⟩
 | trans p1 p2 ih1 ih2=>
  intro ps h
  obtain ⟨qs,e,h'⟩:=ih2 _ h
  obtain ⟨rs,e2,h2⟩:=ih1 _ h'
  exact ⟨rs,e2.trans e,h2⟩
def ProdR (H:Hp) (v:V) (p:al):Prop:=∃ a,v=.ref a/\H a=some (.tup (p.1.map V.int))
theorem prod_of {H:Hp}:∀ {as:List Addr} {m:List al},Paired (λ(a:Addr) (q:al)=>H a=some (.tup (q.1.map V.int))) as m->Paired (ProdR H) (as.map V.ref) m
 | _,_,.nil=>.nil
 | _,_,.cons q r=>.cons ⟨_,rfl,q⟩ (prod_of r)
theorem gD {H:Hp}:∀ {vs:List V} {m:List al},Paired (ProdR H) vs m->vs.map (jH H)=m.map hk
 | _,_,.nil=>rfl
 | _,_,.cons ⟨a,e,q⟩ r=>by
  rw [map_cons,map_cons,gD r,e]
  unfold jH hk
  rw [iB q]
theorem prod_mem {H:Hp}:∀ {vs:List V} {ps:List al} {v:V},Paired (ProdR H) vs ps->v ∈ vs->∃ p ∈ ps,ProdR H v p
 | _,_,v,.cons q r,hv=>by
  rcases List.mem_cons.mp hv with rfl | hv
  ·exact ⟨_,by simp,q⟩
  ·obtain ⟨p,hp,h⟩:=prod_mem r hv
   exact ⟨p,by simp [hp],h⟩
theorem zero_if (P:Int):(if P=0 then ((0:Int),(1:Int)) else (0 % P,1))=(0,1):=by
 split
 ·rfl
 ·rw [Int.zero_emod]
def spKey (K:Frag):Sp:=λvs H Q _=>∃ (t k:Addr) (u:V) (ns:List Int),vs=[.ref t]/\H t=some (.tup [.ref k,u])/\SqT K H k (ns.map V.int)/\∀ r,H r=none->Q (.ref r) (upd H r (.tup [.int ns.sum,.ref k]))
def kU:Sp:=λvs H Q _=>∃ (l:Addr) (P:Int) (ts:List V) (ps:List al),vs=[.int P,.ref l]/\l7 P/\H l=some (.lst ts)/\l6 P H ts ps/\ps.length<=60/\eN P ps/\
 ∀ (d:Addr) (rs:List V) (out:List al) (H':Hp),H d=none->l0 H H'->H' d=some (.lst rs)->l6 P H' rs out->mh P ps out->Q (.ref d) H'
theorem sc__law_key:l8 ["_law_part"] ["_law_part"] (aj fQ):=.i
theorem ok_lkey {f:Addr} {fd:FuncData} (F:Fun K "_law_key" "_law_key" fQ f fd) (T:Blt mg):me P w K mg base CX0 1 f fd ["_law_part"] (spKey K):=by
 refine F.o sc__law_key λ_ _ _ _ H _ Q _ hr h=>?_
 ·obtain ⟨t,k,u,ns,rfl,ht,hk,q⟩:=h
  refine ⟨_,(ai (ap (bp (aa (kpl_sum K T (aB (aw K rfl) (pv 0) ae (λ_ _=>rfl)) true) (aa (aB (aw K rfl) (pv 0) ae (λ_ _=>rfl)) ah))))),?_⟩
  exact ⟨_,rfl,t,_,_,_,rfl,rfl,SqT.of ht,rfl,k,ns,rfl,hX hk,_,rfl,t,_,_,_,rfl,rfl,SqT.of ht,rfl,by show 2<=sizeLine; decide,q⟩
theorem nj:l8 ["_law_prime_here", "_law_parts_here", "_law_come", "_law_product", "_law_number_here", "_law_found"] ["_law_prime_here", "_law_parts_here"] (aj fK):=.i
theorem ok_lsum {f:Addr} {fd:FuncData} (F:Fun K "_law_sum" "_law_sum" fK f fd) (T:Blt mg) (pj:FnB P w K mg base 2 "_law_plus" (g8 aU)) (oC:FnB P w K mg base 1 "_law_nought" jr) (rS:FnB P w K mg base 1 "_law_key" (spKey K)) :
  me P w K mg base CX0 4 f fd ["_law_prime_here", "_law_parts_here"] kU:=by
 refine F.o nj λ_ _ _ _ H _ Q _ hr h=>?_
 ·obtain ⟨l,P,ts,ps,rfl,hP,hl,hps,hn,hok,q⟩:=h
  have hB:=hP.b
  refine ⟨_,(ag (ar (i:=2) nj.nd rfl (Or.inr rfl) iV)
(ag (bG PassesOwn.never rfl (bo K rfl (pv 1)) (bI K (i:=3) (j:=4) rfl rfl nj.nd rfl rfl rfl rfl)
(ai (lh (hu1 hr) (pv 2) (pv 3) (aq pj hr.m (aa (pv 0) (aa (pe_dget2 (hu1 hr) (pv 2) (pv 3) (aq oC hr.m (aa (pv 0) ah)) ⟨rfl,rfl,rfl,rfl⟩) (aa (pv 4) ah)))) rfl)))
(ag (im (i:=5) nj.nd rfl (Or.inl rfl) (N:=["_law_product", "_law_come", "_law_prime_here"]) (src:=[none,some 2,some 0]) rfl rfl rfl (by exact (kpi_dict K rfl (pv 2))) (λ_ _ _=>by exact ⟨by exact (gn (i:=0) nd_1 rfl rfl),(lc (az (kneD K rfl hr.units) (dL (hu1 hr) (pv 1) (pv 0) (λ_ _=>rfl)) (aq oC hr.m (aa (pv 2) ah)) (aA _))),by exact (bp (aa (pv 0) (aa (dL (hu1 hr) (pv 1) (pv 0) (λ_ _=>rfl)) ah)))⟩))
(ai (ap (pe_sortK T rS hr.m (pv 5))))))),?_⟩
  have lt:ts.length=ps.length:=Paired.length hps
  intro d hd
  have dl:d ≠ l:=λz=>by rw [z,hl] at hd; cases hd
  refine ⟨_,rfl,l,rfl,⟨_,SqL.of (by rw [am dl.symm]; exact hl)⟩,dY (xs:=ts) (λi σ H'=>∃ (x3 x4:Option V) (kvs:List (List Key × V)),σ=[some (.int P),some (.ref l),some (.ref d),x3,x4,none]/\l0 H H'/\H' d=some (.dT kvs)/\mm (At P H') kvs (acc P (ps.take i))) ?_ ?_ ?_ ?_⟩
  ·exact ⟨none,none,[],rfl,l0.new hd,af,.nil⟩
  ·rintro i σ H' _ ⟨x3,x4,kvs,rfl,sm,_⟩
   exact SqL.of (sm _ _ hl)
  ·rintro i x σ H1 hx ⟨x3,x4,kvs,rfl,sm,hd1,dr⟩
   obtain ⟨p,ep,t,k,u,rfl,ht,hk,hu⟩:=hps.at_ hx
   have tk:∀ t xs,H t=some (.tup xs)->H1 t=some (.tup xs):=λt xs e=>sm _ _ e
   refine ⟨t,_,rfl,SqT.of (sm _ _ ht),rfl,_,_,rfl,_,_,rfl,rfl,?_⟩
   refine ⟨_,rfl,_,rfl,d,rfl,.inr ⟨kvs,.inl hd1⟩,_,rfl,_,rfl,P,rfl,hP,λr H2 s2 a0=>?_⟩
   have hk2:H2 k=some (.tup ((kI p.1).map kV)):=by rw [kH]; exact s2 _ _ (sm _ _ hk)
   refine ⟨_,DGet.t (s2 _ _ hd1) hk2,?_⟩
   have mp:p ∈ ps:=mem_of_getElem? ep
   obtain ⟨op,zp⟩:=hok.1 p mp
   have okm:∀ q ∈ acc P (ps.take i),OkN P q.2:=dA hB.1 hB.2.2 λq hq=>(hok.1 q (mem_of_mem_take hq)).1
   have hw:At P H2 ((fz kvs (kI p.1)).getD r) ((ba (acc P (ps.take i)) p.1).getD (0,1))/\OkN P ((ba (acc P (ps.take i)) p.1).getD (0,1))/\Sz 2900 ((ba (acc P (ps.take i)) p.1).getD (0,1)):=by
    rcases dr.val p.1 with ⟨e1,e2⟩ | ⟨v,y,e1,e2,ra⟩
    ·rw [e1,e2]
     exact ⟨a0,ce hB.1 hB.2.2,sz_01⟩
    ·rw [e1,e2]
     exact ⟨ra.same s2,okm _ (aV e2),hok.2 i _ (aV e2)⟩
   refine ⟨_,rfl,P,_,u,_,p.2,rfl,hP,hw.1,(hu.same (sm.trans s2)),hw.2.1,op,hw.2.2,zp,λr3 H3 s3 a3=>?_⟩
   refine ⟨_,rfl,_,rfl,d,_,rfl,DPut.t (k:=kI p.1) (s3 _ _ (s2 _ _ hd1)) (s3 _ _ hk2) ?_,?_⟩
   ·have h1:kvs.length=(acc P (ps.take i)).length:=Paired.length dr
    have h2:=gf P (ps.take i)
    rw [length_take] at h2
    rw [h1,sizeLine_eq]
    omega
   ·have d3:H3 d=some (.dT kvs):=s3 _ _ (s2 _ _ hd1)
    have keep:∀ c o,H3 c=some o->c ≠ d->upd H3 d (.dT (bN kvs (kI p.1) r3)) c=some o:=λc o e hc=>by rw [am hc]; exact e
    have tk3:∀ t xs,H3 t=some (.tup xs)->upd H3 d (.dT (bN kvs (kI p.1) r3)) t=some (.tup xs):=λt xs e=>keep t _ e (bh e d3 (by intro z; cases z))
    refine ⟨_,_,_,rfl,λc o e=>keep c o (s3 _ _ (s2 _ _ (sm c o e))) (ak e hd),af,?_⟩
    rw [eA ep]
    exact mm.put (a3.mono tk3) (dr.mono λv x z=>((z.same s2).same s3).mono tk3)
  ·rintro σ H1 ⟨x3,x4,kvs,rfl,sm,hd1,dr⟩
   rw [lt,take_length] at dr
   have nd:=gQ P ps
   have lm:=gf P ps
   have okm:∀ q ∈ acc P ps,OkN P q.2:=dA hB.1 hB.2.2 λq hq=>(hok.1 q hq).1
   unfold mh at q
   generalize acc P ps=m at *
   refine ⟨_,rfl,d,kvs,rfl,hd1,λo as pk=>?_⟩
   have tp:=dr.tups pk
   have la:as.length=m.length:=Paired.length tp
   have keep:∀ c u,H1 c=some u->c ≠ d->upd H1 d (.frz o (.dT kvs)) c=some u:=λc u e hc=>by rw [am hc]; exact e
   have tk:∀ t xs,H1 t=some (.tup xs)->upd H1 d (.frz o (.dT kvs)) t=some (.tup xs):=λt xs e=>keep t _ e (bh e hd1 (by intro z; cases z))
   have smF:l0 H (upd H1 d (.frz o (.dT kvs))):=λc u e=>keep c u (sm c u e) (ak e hd)
   have hfz:upd H1 d (.frz o (.dT kvs)) d=some (.frz o (.dT kvs)):=af
   have dr':mm (At P (upd H1 d (.frz o (.dT kvs)))) kvs m:=dr.mono λv x z=>z.mono tk
   have tpF:∀ (i:Nat) (a:Addr) (p:al),as[i]? = some a->m[i]? = some p->upd H1 d (.frz o (.dT kvs)) a=some (.tup (p.1.map V.int)):=λi a p h1 h2=>tk _ _ (show H1 a=some (.tup (p.1.map V.int)) from gu (R:=λ(a:Addr) (q:al)=>H1 a=some (.tup (q.1.map V.int))) tp h1 h2)
   generalize upd H1 d (.frz o (.dT kvs))=HF at *
   refine fc (n:=m.length) (σ0:=[none,some (.ref d),some (.int P)]) rfl (λacc i zs σ H'=>∃ u:Option V,σ=[u,some (.ref d),some (.int P)]/\l0 HF H'/\l6 P H' zs ((m.take i).filter nz)) (by rw [sizeLine_eq]; omega) (λacc hacc=>⟨none,rfl,l0.new hacc,.nil⟩) ?_ ?_ ?_ ?_
   ·rintro acc i zs σ H' hacc hi hz ⟨u,rfl,sm',_⟩
    exact ⟨sm' _ _ hfz,by rw [length_map,la]; exact hi⟩
   ·rintro acc zs σ H' hacc hz ⟨u,rfl,sm',_⟩
    exact ⟨sm' _ _ hfz,by rw [length_map,la]; exact Nat.le_refl _⟩
   ·rintro acc i zs σ H9 x H' hacc hi hz hzl ⟨u,rfl,sm',pr⟩ ⟨rfl,hx⟩
    obtain ⟨a,ea,rfl⟩:∃ a,as[i]? = some a/\x=.ref a:=by
     rw [getElem?_map] at hx
     cases e:as[i]? with
     | none=>rw [e] at hx; cases hx
     | some a=>rw [e] at hx; exact ⟨a,rfl,(Option.some.inj hx).symm⟩
    obtain ⟨p,ep⟩:∃ p,m[i]? = some p:=⟨_,getElem?_eq_getElem hi⟩
    have mp:p ∈ m:=mem_of_getElem? ep
    have ha:=tpF i a p ea ep
    obtain ⟨v,e1,av⟩:∃ v,fz kvs (kI p.1)=some v/\At P HF v p.2:=by
     rcases dr'.val p.1 with ⟨_,e2⟩ | ⟨v,y,e1,e2,ra⟩
     ·rw [eZ nd (show (p.1,p.2) ∈ m from mp)] at e2; cases e2
     ·rw [eZ nd (show (p.1,p.2) ∈ m from mp)] at e2
      cases e2
      exact ⟨v,e1,ra⟩
    have dg:∀ H2,l0 HF H2->DGet H2 d (.ref a) (some v):=λH2 s2=>.inr ⟨kvs,kI p.1,a,.inr ⟨o,s2 _ _ hfz⟩,rfl,by rw [kH]; exact s2 _ _ ha,e1.symm⟩
    refine ⟨_,rfl,_,rfl,d,v,rfl,dg H' sm',_,rfl,P,rfl,hP,λr H3 s3 a3=>?_⟩
    have s3':=sm'.trans s3
    refine ⟨dN P p.2,dN P (0,1),iR (av.same s3'),iR a3,bD _ _,bD _ _,?_⟩
    rw [eqv_dN2 (okm p mp) (ce hB.1 hB.2.2)]
    have en:(!decide (p.2=(0,1)))=nz p:=by unfold nz; rw [decide_not]
    rw [en]
    have pr3:=pr.mono λt xs e=>s3 _ _ e
    refine ⟨_,rfl,bu (λh=>?_) (λh=>?_)⟩
    ·refine ⟨_,rfl,_,rfl,_,rfl,d,v,rfl,dg H3 s3',by show 2<=sizeLine; decide,λt nt=>?_⟩
     have s4:=l0.new (o:=.tup [.ref a,v]) nt
     have s4':=s3'.trans s4
     have hz4:=s4 _ _ (s3 _ _ hz)
     have keep4:∀ c u,(upd H3 t (.tup [.ref a,v])) c=some u->c ≠ acc->upd (upd H3 t (.tup [.ref a,v])) acc (.lst (zs++[.ref t])) c=some u:=λc u e hc=>by rw [am hc]; exact e
     have tk4:∀ c xs,(upd H3 t (.tup [.ref a,v])) c=some (.tup xs)->upd (upd H3 t (.tup [.ref a,v])) acc (.lst (zs++[.ref t])) c=some (.tup xs):=λc xs e=>keep4 c _ e (bh e hz4 (by intro z; cases z))
     refine ⟨zs,hz4,by rw [sizeLine_eq]; omega,_,af,by rw [length_append,length_singleton]; omega,_,rfl,λc u e=>keep4 c u (s4' c u e) (ak e hacc),?_⟩
     rw [cP ep,if_pos h]
     exact (l6.snoc (p:=p) ⟨t,a,v,rfl,af,s4' _ _ ha,av.same s4'⟩ (pr3.mono λt xs e=>s4 _ _ e)).mono tk4
    ·refine ⟨zs,s3 _ _ hz,by omega,_,rfl,s3',?_⟩
     rw [cP ep,if_neg h,append_nil]
     exact pr3
   ·rintro acc zs σ H' hacc hz hzl ⟨u,rfl,sm',pr⟩
    rw [take_length] at pr
    have sub:((m.filter nz).map (·.1)).Nodup:=(List.Sublist.map _ List.filter_sublist).nodup nd
    refine ⟨_,rfl,.inl ⟨acc,zs,rfl,SqL.of hz,by omega,keyP H',?_,λy hy H2 s2=>?_,λD H2 ws nD s2 hD pm pw=>?_⟩⟩
    ·rw [pr.keys]
     exact hk_nodup sub
    ·obtain ⟨p,hp,h⟩:=pr.mem hy
     rw [h.key]
     obtain ⟨t,k,u,rfl,h1,h2,_⟩:=h
     exact ⟨t,k,u,p.1,rfl,s2 _ _ h1,SqT.of (s2 _ _ h2),λr nr=>⟨l0.new nr,r,k,rfl,af,SqT.of (l0.new nr _ _ (s2 _ _ h2))⟩⟩
    ·obtain ⟨qs,e,h'⟩:=pr.perm pm
     refine q D ws qs H2 ?_ ((smF.trans sm').trans s2) hD (h'.mono λt xs e=>s2 _ _ e) ⟨e,h'.fall pw⟩
     exact (smF.trans sm').free nD
theorem nd_2:(["product", "found", "nought"]:List Str).Nodup:=by decide +kernel
theorem cop_of {p f:Int} (h2:2<=p) (h9:p<=9973) (hp:fP p=true) (f0:0<f) (f1:f<p):Int.gcd p f=1:=by
 have hg0:0<Int.gcd p f:=Int.gcd_pos_of_ne_zero_left f (by omega)
 have hgp:((Int.gcd p f:Nat):Int) ∣ p:=Int.gcd_dvd_left ..
 have hgf:((Int.gcd p f:Nat):Int) ∣ f:=Int.gcd_dvd_right ..
 generalize Int.gcd p f=g at *
 have gle:(g:Int)<=f:=Int.le_of_dvd f0 hgf
 obtain ⟨h,e⟩:=hgp
 by_cases g1:g=1
 ·exact g1
 exfalso
 have g2:2<=(g:Int):=by omega
 have hh:2<=h:=by
  rcases Int.lt_or_le h 2 with z | z
  ·have:=Int.mul_le_mul_of_nonneg_left (show h<=1 by omega) (show 0<=(g:Int) by omega)
   omega
  ·exact z
 have key:∀ d k:Int,2<=d->d<=k->p=d*k->False:=λd k d2 dk ep=>by
  have hdd:d*d<=p:=by rw [ep]; exact Int.mul_le_mul_of_nonneg_left dk (by omega)
  have hd100:d<100:=Int.not_le.mp λz=>by
   have:=Int.mul_le_mul z z (by omega) (by omega)
   omega
  have h0:=(isPb_iff.mp hp).2 d d2 hd100 hdd
  have:p % d=0:=by rw [ep]; exact Int.mul_emod_right d k
  omega
 rcases Int.le_total (g:Int) h with z | z
 ·exact key g h g2 z e
 ·exact key h g hh z (by rw [e,Int.mul_comm])
theorem i7 {a b p:Int} (h:p ∣ a-b):a % p=b % p:=Int.emod_eq_emod_iff_emod_sub_eq_zero.mpr (Int.emod_eq_zero_of_dvd h)
theorem io (a p:Int):p ∣ a-a % p:=⟨a / p,by rw [Int.emod_def]; omega⟩
def spInv:Sp:=λvs H Q _=>∃ (w p:Int),vs=[.int w,.int p]/\2<=p/\p<=9973/\fP p=true/\w % p ≠ 0/\∀ r:Int,0<=r->r<p->(r*w) % p=1->Q (.int r) H
theorem mC:l8 ["whole", "prime", "rest", "share", "following", "following_share", "often", "further", "further_share"] ["whole", "prime"] (aj gU):=.i
theorem ok_inverse {f:Addr} {fd:FuncData} (F:Fun K "inverse" "inverse" gU f fd):me P w K mg base CX0 1 f fd ["whole", "prime"] spInv:=by
 refine F.o mC λ_ _ _ _ H _ Q _ hr h=>?_
 ·obtain ⟨a,p,rfl,h2,h9,hp,ha,q⟩:=h
  refine ⟨_,(ag (ar (i:=2) mC.nd rfl (Or.inl rfl) (pv 1))
(ag (ar (i:=3) mC.nd rfl (Or.inl rfl) ae)
(ag (ar (i:=4) mC.nd rfl (Or.inl rfl) (ao aZ (pv 0) (pv 1)))
(ag (ar (i:=5) mC.nd rfl (Or.inl rfl) ae)
(ag (eU PassesOwn.never (az op_ne (pv 4) ae (aA _))
(ag (ar (i:=6) mC.nd rfl (Or.inl rfl) (ao bj (pv 2) (pv 4)))
(ag (ar (i:=7) mC.nd rfl (Or.inl rfl) (ao dC (pv 2) (ao bg (pv 6) (pv 4))))
(ag (ar (i:=8) mC.nd rfl (Or.inl rfl) (ao dC (pv 3) (ao bg (pv 6) (pv 5))))
(ag (ar (i:=2) mC.nd rfl (Or.inl rfl) (pv 4))
(ag (ar (i:=3) mC.nd rfl (Or.inl rfl) (pv 5))
(ag (ar (i:=4) mC.nd rfl (Or.inl rfl) (pv 7))
(ai (ar (i:=5) mC.nd rfl (Or.inl rfl) (pv 8))))))))))
(ai (ap (ao aZ (pv 5) (pv 1))))))))),?_⟩
  refine ⟨_,rfl,_,rfl,_,rfl,_,_,rfl,rfl,(by show (0:Int)<p; omega),?_⟩
  have m0:=Int.emod_nonneg a (show p ≠ 0 by omega)
  have m1:=Int.emod_lt_of_pos a (show 0<p by omega)
  refine eO (λσ H'=>∃ (R S F G:Int) (u6 u7 u8:Option V),σ=[some (.int a),some (.int p),some (.int R),some (.int S),some (.int F),some (.int G),u6,u7,u8]/\H'=H/\1<=F/\F<R/\R<=p/\Int.gcd R F=1/\p ∣ S*a-R/\p ∣ G*a-F)
   (λσ _=>match σ with | [_,_,_,_,some (.int F),_,_,_,_]=>F.toNat | _=>0) ⟨p,0,a % p,1,none,none,none,rfl,rfl,by omega,m1,Int.le_refl p,cop_of h2 h9 hp (by omega) m1,⟨-1,by omega⟩,by rw [Int.one_mul]; exact io a p⟩ ?_ ?_
  ·rintro σ H2 ⟨R,S,F,G,u6,u7,u8,rfl,rfl,f1,fR,Rp,hg,d1,d2⟩
   refine ⟨_,rfl,rfl,_,rfl,?_⟩
   by_cases hF:F=1
   ·subst hF
    refine iteNS rfl ?_
    refine ⟨_,rfl,_,rfl,_,_,rfl,rfl,(by show (0:Int)<p; omega),?_⟩
    refine q _ (Int.emod_nonneg _ (by omega)) (Int.emod_lt_of_pos _ (by omega)) ?_
    have e1:(G % p*a) % p=1 % p:=by
     apply i7
     obtain ⟨k1,e1⟩:=d2
     obtain ⟨k2,e2⟩:=io G p
     refine ⟨k1-k2*a,?_⟩
     have e3:G % p=G-p*k2:=by omega
     rw [e3,Int.sub_mul,Int.mul_sub,Int.mul_assoc]
     omega
    rw [e1]
    exact Int.emod_eq_of_lt (by decide) (by omega)
   ·rw [decide_eq_false (show ¬ V.int F=V.int 1 from λz=>hF (by injection z))]
    have eq:R.fdiv F=R / F:=Int.fdiv_eq_ediv_of_nonneg _ (by omega)
    have q0:0<=R / F:=Int.ediv_nonneg (by omega) (by omega)
    have q1:R / F<=R:=Int.ediv_le_self F (by omega)
    refine cv ⟨_,rfl,_,rfl,_,_,rfl,rfl,eS (by omega) (by omega),?_⟩
    refine ⟨_,rfl,_,rfl,_,rfl,_,_,rfl,rfl,.inr ⟨by omega,by omega⟩,_,_,rfl,rfl,?_⟩
    refine ⟨_,rfl,_,rfl,_,rfl,_,_,rfl,rfl,.inl ⟨by omega,by omega⟩,_,_,rfl,rfl,?_⟩
    rw [eq]
    have eF:R-R / F*F=R % F:=by rw [Int.emod_def,Int.mul_comm]
    have r0:=Int.emod_nonneg R (show F ≠ 0 by omega)
    have r1:=Int.emod_lt_of_pos R (show 0<F by omega)
    have rn:R % F ≠ 0:=λz=>by
     have hd:F ∣ R:=Int.dvd_of_emod_eq_zero z
     have:Nat.gcd R.natAbs F.natAbs=F.natAbs:=Nat.gcd_eq_right (Int.natAbs_dvd_natAbs.mpr hd)
     have hg':Nat.gcd R.natAbs F.natAbs=1:=hg
     omega
    refine ⟨_,rfl,_,rfl,_,rfl,_,rfl,⟨F,G,R-R / F*F,S-R / F*G,_,_,_,rfl,rfl,by omega,by omega,by omega,?_,d2,?_⟩,?_⟩
    ·rw [eF,Int.emod_def,Int.gcd_comm]
     rw [Int.gcd_sub_mul_left_left]
     exact hg
    ·obtain ⟨k1,e1⟩:=d1
     obtain ⟨k2,e2⟩:=d2
     refine ⟨k1-R / F*k2,?_⟩
     have e3:(S-R / F*G)*a-(R-R / F*F)=(S*a-R)-R / F*(G*a-F):=by
      rw [Int.sub_mul,Int.mul_sub,Int.mul_assoc]
      omega
     rw [e3,e1,e2,Int.mul_sub,Int.mul_left_comm]
    ·show (R-R / F*F).toNat<F.toNat
     omega
  ·rintro σ H Q Q' hq ⟨x,hx,e1,b,hb,h⟩
   exact ⟨x,hx,e1,b,hb,hq _ _ h⟩
def fI (CR CN:Addr):Sp:=λvs H Q E=>∃ (x dx:Addr) (p a b:Int),vs=[.ref x,.int a,.int b]/\H x=some (.ins CR dx [("modulus",.int p)])/\2<=p/\p<=9973/\fP p=true/\
 (b % p=0->E (.ref CN) none H)/\(b % p ≠ 0->∀ r:Int,0<=r->r<p->(r*b) % p=a % p->Q (.int r) H)
theorem sc_Rests_of:l8 ["self", "top", "bottom"] ["self", "top", "bottom"] (aj aO):=.i
theorem ok_rofx {f CR og:Addr} {fd:FuncData} (F:FunD K "of" "Rests.of" aO f fd) (cl:Cls K CR) (nM:mP K CR "modulus") (rL:FnB P w K mg base 1 "inverse" spInv) (ANoNumber:mg "NoNumber"=some (.ref og)) (xc:XCl K og) :
  me P w K mg base (CXE P w) 2 f fd ["self", "top", "bottom"] (fI CR og):=by
 refine F.okX sc_Rests_of (λvs H Q E h=>?_) (λcdv A outer s H vs Q E hr h=>?_)
 ·obtain ⟨x,dx,p,a,b,rfl,_⟩:=h
  rfl
 ·obtain ⟨x,dx,p,a,b,rfl,hx,h2,h9,hp,qn,qy⟩:=h
  refine ⟨_,(ag (aK (az cO (ao aZ (pv 2) (gs (pv 0) rfl)) ae (aA _))
(ai (iH xc.ek ANoNumber (aa pe_str ah)))
aC)
(ai (ap (ao aZ (ao bg (pv 1) (aq rL hr.m (aa (pv 2) (aa (gs (pv 0) rfl) ah)))) (gs (pv 0) rfl))))),?_⟩
  have p0:(0:Int)<p:=by omega
  refine ⟨_,rfl,_,rfl,x,CR,dx,_,_,rfl,hx,cl,nM,rfl,_,_,rfl,rfl,p0,rfl,_,rfl,?_⟩
  by_cases hb:b % p=0
  ·rw [decide_eq_true (congrArg V.int hb)]
   exact cv ⟨(by show 1<=sizeLine; decide),qn hb⟩
  ·rw [decide_eq_false (show ¬ V.int (b % p)=V.int 0 from λz=>hb (by injection z))]
   refine bF ⟨_,rfl,_,rfl,_,rfl,x,CR,dx,_,_,rfl,hx,cl,nM,rfl,b,p,rfl,h2,h9,hp,hb,λr r0 r1 hr'=>?_⟩
   refine ⟨_,_,rfl,rfl,.inr ⟨by omega,by omega⟩,_,rfl,x,CR,dx,_,_,rfl,hx,cl,nM,rfl,_,_,rfl,rfl,p0,?_⟩
   refine qy hb _ (Int.emod_nonneg _ (by omega)) (Int.emod_lt_of_pos _ p0) ?_
   apply i7
   obtain ⟨k1,e1⟩:=io (a*r) p
   obtain ⟨k2,e2⟩:=io (r*b) p
   rw [hr'] at e2
   refine ⟨a*k2-k1*b,?_⟩
   have e3:a*r % p=a*r-p*k1:=by omega
   have e4:r*b=1+p*k2:=by omega
   rw [e3,Int.sub_mul,Int.mul_assoc,e4,Int.mul_add,Int.mul_sub,Int.mul_one,Int.mul_left_comm,Int.mul_assoc]
   omega
theorem mH.mono {CF CR x:Addr} {p:Int} {H H':Hp} (h:mH CF CR H x p) (k:∀ o,H x=some o->H' x=some o):mH CF CR H' x p:=by
 rcases h with ⟨h0,dx,e⟩ | ⟨h0,dx,e⟩
 ·exact .inl ⟨h0,dx,k _ e⟩
 ·exact .inr ⟨h0,dx,k _ e⟩
theorem lE {m:Str} (e:(m == ("modulus" : Str))=false) (v:V):List.lookup m [(("modulus" : Str),v)]=none:=by
 simp only [List.lookup,e]
theorem op_go {CF CR x:Addr} {P:Int} {u v:V} {a b:Int × Int} {H:Hp} {σ:L2.St} {R:VK} {ta:TE} {t:TA} {m:Str} (gF:Int × Int->Int × Int->Int × Int) (gR:Int->Int->Int) (res:Int × Int) (hres:res=if P=0 then nrm (gF a b).1 (gF a b).2 else (gR a.1 b.1 % P,1)) (hm:(m == ("modulus" : Str))=false)
  (hP:l7 P) (hN:mH CF CR H x P) (h1:At P H u a) (h2:At P H v b) (o1:OkN P a) (o2:OkN P b) (s1:Sz 2900 a) (s2:Sz 2900 b) (ha:∀ Z:VK,Z (.ref x) H->ta σ H Z) (ht:∀ Z:List V->Hp->Prop,Z [u,v] H->t σ H Z) (hR:∀ r H',l0 H H'->At P H' r res->R r H') :
  tOrE (eh CF m (spFOp CF gF) [] E0 ta t) (eh CR m (spROp CR gR) [] E0 ta t) σ H R:=by
 subst hres
 rcases hN with ⟨h0,dx,e⟩ | ⟨h0,dx,e⟩
 ·rcases h1 with ⟨_,s,rfl,hs⟩ | ⟨z,_⟩
  ·rcases h2 with ⟨_,t',rfl,ht'⟩ | ⟨z,_⟩
   ·rw [if_pos h0] at hR
    exact .inl (ha _ ⟨x,dx,[],rfl,e,rfl,ht _ ⟨x,dx,s,t',a,b,rfl,e,hs,ht',o1.den,o2.den,s1,s2,λr nr=>hR _ _ (l0.new nr) (.inl ⟨h0,r,rfl,af⟩)⟩⟩)
   ·exact absurd h0 z
  ·exact absurd h0 z
 ·rcases h1 with ⟨z,_⟩ | ⟨_,rfl,_⟩
  ·exact absurd z h0
  ·rcases h2 with ⟨z,_⟩ | ⟨_,rfl,_⟩
   ·exact absurd z h0
   ·rw [if_neg h0] at hR
    have hb:=hP.b
    rcases o1 with ⟨z,_⟩ | ⟨_,x0,x1,_⟩
    ·exact absurd z h0
    rcases o2 with ⟨z,_⟩ | ⟨_,y0,y1,_⟩
    ·exact absurd z h0
    exact .inr (ha _ ⟨x,dx,_,rfl,e,lE hm _,ht _ ⟨x,dx,P,_,_,rfl,e,by omega,hb.2.1,x0,x1,y0,y1,hR _ _ (l0.refl H) (.inr ⟨h0,rfl,rfl⟩)⟩⟩)
theorem of_go {CF CR og x:Addr} {P a:Int} {vs dvs:List V} {H:Hp} {σ:L2.St} {R:VK} {ta:TE} {t:TA} (hP:l7 P) (hN:mH CF CR H x P) (hv:vs++dvs=[.int a,.int 1]) (ha:∀ Z:VK,Z (.ref x) H->ta σ H Z) (ht:∀ Z:List V->Hp->Prop,Z vs H->t σ H Z)
  (hR:∀ r H',l0 H H'->At P H' r (if P=0 then (a,1) else (a % P,1))->R r H') :
  tOrE (eh CF "of" (eG og) dvs E0 ta t) (eh CR "of" (fI CR og) dvs E0 ta t) σ H R:=by
 rcases hN with ⟨h0,dx,e⟩ | ⟨h0,dx,e⟩
 ·rw [if_pos h0] at hR
  refine .inl (ha _ ⟨x,dx,[],rfl,e,rfl,ht _ ⟨.ref x,a,1,by rw [hv],λz=>absurd z (by decide),λ_=>⟨by decide +kernel,λr nr=>?_⟩⟩⟩)
  rw [(dZ a 1 (by decide)).mpr (Int.gcd_one_right ..)]
  exact hR _ _ (l0.new nr) (.inl ⟨h0,r,rfl,af⟩)
 ·rw [if_neg h0] at hR
  rcases hP with z | ⟨h2,h9,hp⟩
  ·exact absurd z h0
  have e1:(1:Int) % P=1:=Int.emod_eq_of_lt (by decide) (by omega)
  refine .inr (ha _ ⟨x,dx,_,rfl,e,lE (by decide +kernel) _,ht _ ⟨x,dx,P,a,1,by rw [hv],e,h2,h9,hp,(λz=>absurd (e1.symm.trans z) (by decide)),λ_ r r0 r1 hr=>?_⟩⟩)
  rw [Int.mul_one,Int.emod_eq_of_lt r0 r1] at hr
  rw [hr]
  exact hR _ _ (l0.refl H) (.inr ⟨h0,rfl,rfl⟩)
def spDeg (K:Frag):Sp:=λvs H Q _=>∃ (a:Addr) (ns:List Int),vs=[.ref a]/\SqT K H a (ns.map V.int)/\Q (.int ns.sum) H
theorem sc_degree:l8 ["one"] ["one"] (aj iI):=.i
theorem ok_degree {f:Addr} {fd:FuncData} (F:Fun K "degree" "degree" iI f fd) (T:Blt mg):me P w K mg base CX0 1 f fd ["one"] (spDeg K):=by
 refine F.o sc_degree λ_ _ _ _ H _ Q _ hr h=>?_
 ·obtain ⟨a,ns,rfl,ha,q⟩:=h
  refine ⟨_,(ai (ap (kpl_sum K T (pv 0) true))),?_⟩
  exact ⟨_,rfl,a,ns,rfl,hX ha,q⟩
def spHeight (K:Frag):Sp:=λvs H Q _=>∃ (a:Addr) (ns:List Int),vs=[.ref a]/\SqT K H a (ns.map V.int)/\∀ t,H t=none->Q (.ref t) (upd H t (.tup [.int ns.sum,.ref a]))
theorem sc_height:l8 ["one"] ["one"] (aj iT):=.i
theorem ok_height {f:Addr} {fd:FuncData} (F:Fun K "height" "height" iT f fd) (ui:FnB P w K mg base 1 "degree" (spDeg K)):me P w K mg base CX0 2 f fd ["one"] (spHeight K):=by
 refine F.o sc_height λ_ _ _ _ H _ Q _ hr h=>?_
 ·obtain ⟨a,ns,rfl,ha,q⟩:=h
  refine ⟨_,(ai (ap (bp (aa (aq ui hr.m (aa (pv 0) ah)) (aa (pv 0) ah))))),?_⟩
  exact ⟨_,rfl,a,ns,rfl,ha,_,rfl,by show 2<=sizeLine; decide,q⟩
def cS (CG:Addr) (H:Hp) (g x:Addr) (L:Int):Prop:=∃ dx,H g=some (.ins CG dx [("kind",.ref x),("width",.int L)])
def jn (CG:Addr):Sp:=λvs H Q _=>∃ (g x:Addr) (L:Int),vs=[.ref g]/\cS CG H g x L/\Q (.ref x) H
theorem ij:l8 ["self"] ["self"] (aj bb):=.i
theorem ok_rnum {f CG:Addr} {fd:FuncData} (F:Fun K "numbers" "Ring.numbers" bb f fd) (cl:Cls K CG) (nA:mP K CG "kind"):me P w K mg base CX0 1 f fd ["self"] (jn CG):=by
 refine F.o ij λ_ _ _ _ H _ Q _ hr h=>?_
 ·obtain ⟨g,x,L,rfl,⟨dx,hg⟩,q⟩:=h
  refine ⟨_,(ai (ap (gs (pv 0) rfl))),?_⟩
  exact ⟨_,rfl,g,CG,dx,_,_,rfl,hg,cl,nA,rfl,q⟩
def spSum (CF CR CG:Addr):Sp:=λvs H Q _=>∃ (g x l:Addr) (P L:Int) (ts:List V) (ps:List al),vs=[.ref g,.ref l]/\l7 P/\cS CG H g x L/\mH CF CR H x P/\H l=some (.lst ts)/\l6 P H ts ps/\ps.length<=200/\eN P ps/\
 ∀ (d:Addr) (rs:List V) (out:List al) (H':Hp),H d=none->l0 H H'->H' d=some (.lst rs)->l6 P H' rs out->mh P ps out->Q (.ref d) H'
theorem bM {P:Int} {x:Int × Int} (h:OkN P x):aU P (0,1) x=x:=by
 unfold aU
 rcases h with ⟨h0,hd,hg⟩ | ⟨h0,a,b,c⟩
 ·rw [if_pos h0]
  show nrm (0*x.2+x.1*1) (1*x.2)=x
  rw [Int.zero_mul,Int.zero_add,Int.mul_one,Int.one_mul]
  exact (dZ x.1 x.2 hd).mpr hg
 ·rw [if_neg h0]
  show ((0+x.1) % P,1)=x
  rw [Int.zero_add,Int.emod_eq_of_lt a b]
  exact Prod.ext rfl c.symm
theorem m9:l8 ["ring", "parts", "numbers", "found", "product", "number", "nought", "falling"] ["ring", "parts"] (aj i8):=.i
theorem ok_sumof {f CF CR CG og:Addr} {fd:FuncData} (F:Fun K "sum_of" "sum_of" i8 f fd) (T:Blt mg) (uj:FnB P w K mg base 2 "height" (spHeight K)) (qT:MtB P w K mg base 1 CG "numbers" (jn CG))
  (vi:MtB P w K mg base 3 CF "plus" (spFOp CF λa b=>(a.1*b.2+b.1*a.2,a.2*b.2))) (vj:MtB P w K mg base 3 CR "plus" (spROp CR (· + ·)))
  (ve:jD P w K mg base 2 CF "of" [.int 1] (eG og)) (vf:jD P w K mg base 2 CR "of" [.int 1] (fI CR og)) :
  me P w K mg base CX0 5 f fd ["ring", "parts"] (spSum CF CR CG):=by
 refine F.o m9 λ_ _ _ _ H _ Q _ hr h=>?_
 ·obtain ⟨g,x,l,P,L,ts,ps,rfl,hP,hg,hN,hl,hps,hn,hok,q⟩:=h
  have hB:=hP.b
  refine ⟨_,(ag (ar (i:=2) m9.nd rfl (Or.inl rfl) (gP qT hr.m (pv 0)))
(ag (ar (i:=3) m9.nd rfl (Or.inr rfl) iV)
(ag (bG PassesOwn.never rfl (bo K rfl (pv 1)) (bI K (i:=4) (j:=5) rfl rfl m9.nd rfl rfl rfl rfl)
(ai (lh (hu1 hr) (pv 3) (pv 4) (pe_ifExp (pt_cmp (pc_din (hu1 hr) (pv 4) (pv 3))) (kP (pe_mt vi hr.m (pv 2) (aa (dL (hu1 hr) (pv 3) (pv 4) (λ_ _=>rfl)) (aa (pv 5) ah))) (pe_mt vj hr.m (pv 2) (aa (dL (hu1 hr) (pv 3) (pv 4) (λ_ _=>rfl)) (aa (pv 5) ah)))) (pv 5)) rfl)))
(ag (ar (i:=6) m9.nd rfl (Or.inr rfl) (kP (i4 ve hr.m gz (pv 2) (aa ae ah)) (i4 vf hr.m gz (pv 2) (aa ae ah))))
(ag (ar (i:=7) m9.nd rfl (Or.inl rfl) (pe_sortKB T uj hr.m (pv 3)))
(ai (ap (by exact fj (N:=["product", "found", "nought"]) (src:=[none,some 3,some 6]) rfl rfl rfl (by exact (bo K rfl (pv 7))) (λ_ _ _=>by exact ⟨by exact (gn (i:=0) nd_2 rfl rfl),(lc (az (kneD K rfl hr.units) (dL (hu1 hr) (pv 1) (pv 0) (λ_ _=>rfl)) (pv 2) (aA _))),by exact (bp (aa (pv 0) (aa (dL (hu1 hr) (pv 1) (pv 0) (λ_ _=>rfl)) ah)))⟩))))))))),?_⟩
  have lt:ts.length=ps.length:=Paired.length hps
  obtain ⟨dxg,hg'⟩:=id hg
  refine ⟨_,rfl,g,dxg,_,rfl,hg',rfl,g,x,L,rfl,hg,?_⟩
  intro d hd
  have dl:d ≠ l:=λz=>by rw [z,hl] at hd; cases hd
  refine ⟨_,rfl,l,rfl,⟨_,SqL.of (by rw [am dl.symm]; exact hl)⟩,dY (xs:=ts) (λi σ H'=>∃ (x4 x5:Option V) (kvs:List (List Key × V)),σ=[some (.ref g),some (.ref l),some (.ref x),some (.ref d),x4,x5,none,none]/\l0 H H'/\H' d=some (.dT kvs)/\mm (At P H') kvs (acc P (ps.take i))) ?_ ?_ ?_ ?_⟩
  ·exact ⟨none,none,[],rfl,l0.new hd,af,.nil⟩
  ·rintro i σ H' _ ⟨x3,x4,kvs,rfl,sm,_⟩
   exact SqL.of (sm _ _ hl)
  ·rintro i v σ H1 hx ⟨x3,x4,kvs,rfl,sm,hd1,dr⟩
   obtain ⟨p,ep,t,k,u,rfl,ht,hk,hu⟩:=hps.at_ hx
   refine ⟨t,_,rfl,SqT.of (sm _ _ ht),rfl,_,_,rfl,_,_,rfl,rfl,?_⟩
   have hk1:H1 k=some (.tup ((kI p.1).map kV)):=by rw [kH]; exact sm _ _ hk
   have mp:p ∈ ps:=mem_of_getElem? ep
   obtain ⟨op,zp⟩:=hok.1 p mp
   have okm:∀ q ∈ acc P (ps.take i),OkN P q.2:=dA hB.1 hB.2.2 λq hq=>(hok.1 q (mem_of_mem_take hq)).1
   have hlen:kvs.length<sizeLine:=by
    have h1:kvs.length=(acc P (ps.take i)).length:=Paired.length dr
    have h2:=gf P (ps.take i)
    rw [length_take] at h2
    rw [h1,sizeLine_eq]
    omega
   have fin:∀ r3 H3,l0 H1 H3->At P H3 r3 (aU P ((ba (acc P (ps.take i)) p.1).getD (0,1)) p.2)->∃ (x4 x5:Option V) (kvs':List (List Key × V)),[some (V.ref g),some (.ref l),some (.ref x),some (.ref d),some (.ref k),some u,none,none]=[some (.ref g),some (.ref l),some (.ref x),some (.ref d),x4,x5,none,none]/\l0 H (upd H3 d (.dT (bN kvs (kI p.1) r3)))/\(upd H3 d (.dT (bN kvs (kI p.1) r3))) d=some (.dT kvs')/\mm (At P (upd H3 d (.dT (bN kvs (kI p.1) r3)))) kvs' (acc P (ps.take (i+1))):=λr3 H3 s3 a3=>by
    have d3:H3 d=some (.dT kvs):=s3 _ _ hd1
    have keep:∀ c o,H3 c=some o->c ≠ d->upd H3 d (.dT (bN kvs (kI p.1) r3)) c=some o:=λc o e hc=>by rw [am hc]; exact e
    have tk3:∀ t xs,H3 t=some (.tup xs)->upd H3 d (.dT (bN kvs (kI p.1) r3)) t=some (.tup xs):=λt xs e=>keep t _ e (bh e d3 (by intro z; cases z))
    refine ⟨_,_,_,rfl,λc o e=>keep c o (s3 _ _ (sm c o e)) (ak e hd),af,?_⟩
    rw [eA ep]
    exact mm.put (a3.mono tk3) (dr.mono λv x z=>(z.same s3).mono tk3)
   have put:∀ r3 H3,l0 H1 H3->DPut H3 d (.ref k) r3 (upd H3 d (.dT (bN kvs (kI p.1) r3))):=λr3 H3 s3=>DPut.t (k:=kI p.1) (s3 _ _ hd1) (s3 _ _ hk1) hlen
   refine ⟨_,rfl,_,rfl,d,_,rfl,DGet.t hd1 hk1,_,rfl,?_⟩
   rcases dr.val p.1 with ⟨e1,e2⟩ | ⟨v,y,e1,e2,ra⟩
   ·rw [e1]
    rw [e2] at fin
    refine bF ⟨_,rfl,_,rfl,_,rfl,d,_,rfl,put _ H1 (l0.refl _),fin _ H1 (l0.refl _) ?_⟩
    show At P H1 u (aU P (0,1) p.2)
    rw [bM op]
    exact hu.same sm
   ·rw [e1]
    rw [e2] at fin
    refine cv (op_go _ _ (aU P y p.2) (by unfold aU; rfl) (by decide +kernel) hP (hN.mono λo e=>sm _ _ e) ra (hu.same sm) (okm _ (aV e2)) op (hok.2 i _ (aV e2)) zp (λZ z=>⟨_,rfl,z⟩) (λZ z=>⟨_,rfl,_,rfl,d,v,rfl,(by rw [<- e1]; exact DGet.t hd1 hk1),_,rfl,z⟩) λr3 H3 s3 a3=>?_)
    exact ⟨_,rfl,_,rfl,d,_,rfl,put _ H3 s3,fin _ H3 s3 a3⟩
  ·rintro σ H1 ⟨x3,x4,kvs,rfl,sm,hd1,dr⟩
   rw [lt,take_length] at dr
   have nd:=gQ P ps
   have lm:=gf P ps
   have okm:∀ q ∈ acc P ps,OkN P q.2:=dA hB.1 hB.2.2 λq hq=>(hok.1 q hq).1
   unfold mh at q
   generalize acc P ps=m at *
   refine of_go (a:=0) hP (hN.mono λo e=>sm _ _ e) rfl (λZ z=>⟨_,rfl,z⟩) (λZ z=>z) λr H2 s2 A2=>?_
   rw [zero_if] at A2
   have hd2:=s2 _ _ hd1
   have dr2:mm (At P H2) kvs m:=dr.mono λv x z=>z.same s2
   have sm2:=sm.trans s2
   refine ⟨_,rfl,.inr ⟨d,kvs,rfl,hd2,λas pk=>?_⟩⟩
   have tp:=prod_of (dr2.tups pk)
   have la:(as.map V.ref).length=m.length:=Paired.length tp
   generalize as.map V.ref=vs at *
   refine ⟨by omega,jH H2,by rw [gD tp]; exact hk_nodup nd,λy hy H3 s3=>?_,λD H3 zs nD s3 hD pm pw=>?_⟩
   ·obtain ⟨p,hp,a,rfl,ha⟩:=prod_mem tp hy
    refine ⟨a,p.1,rfl,SqT.of (s3 _ _ ha),λt nt=>⟨l0.new nt,t,a,rfl,?_,?_⟩⟩
    ·rw [af]
     unfold jH
     rw [iB ha]
    ·unfold jH
     rw [iB ha]
     exact SqT.of (l0.new nt _ _ (s3 _ _ ha))
   ·obtain ⟨qs,pe,pq⟩:=paired_perm pm m tp
    have lq:zs.length=qs.length:=Paired.length pq
    have lz:qs.length=m.length:=pe.length_eq
    have fall:qs.Pairwise λa b=>klt (hk b) (hk a)=true:=by
     have z:(zs.map (jH H2)).Pairwise (λa b=>klt b a=true):=List.pairwise_map.mpr pw
     rw [gD pq] at z
     exact List.pairwise_map.mp z
    refine ⟨_,rfl,D,rfl,⟨_,SqL.of hD⟩,fc (n:=zs.length) (σ0:=[none,some (.ref d),some r]) rfl (λacc i ws σ H'=>∃ u:Option V,σ=[u,some (.ref d),some r]/\l0 H3 H'/\l6 P H' ws ((qs.take i).filter nz)) (by rw [sizeLine_eq]; omega) (λacc hacc=>⟨none,rfl,l0.new hacc,.nil⟩) ?_ ?_ ?_ ?_⟩
    ·rintro acc i ws σ H' hacc hi hz ⟨u,rfl,sm',_⟩
     exact ⟨zs,_,SqL.of (sm' _ _ hD),getElem?_eq_getElem hi⟩
    ·rintro acc ws σ H' hacc hz ⟨u,rfl,sm',_⟩
     exact ⟨zs,SqL.of (sm' _ _ hD),Nat.le_refl _⟩
    ·rintro acc i ws σ H9 x' H' hacc hi hz hzl ⟨u,rfl,sm',pr⟩ ⟨rfl,hx⟩
     have hx:=hx zs (SqL.of (sm' _ _ hD))
     obtain ⟨p,ep⟩:∃ p,qs[i]? = some p:=⟨_,getElem?_eq_getElem (by omega)⟩
     obtain ⟨a,rfl,ha⟩:=(gu (R:=ProdR H2) pq hx ep)
     have mp:p ∈ m:=pe.mem_iff.mp (mem_of_getElem? ep)
     have s3':=s3.trans sm'
     obtain ⟨v,e1,av⟩:∃ v,fz kvs (kI p.1)=some v/\At P H2 v p.2:=by
      rcases dr2.val p.1 with ⟨_,e2⟩ | ⟨v,y,e1,e2,ra⟩
      ·rw [eZ nd (show (p.1,p.2) ∈ m from mp)] at e2; cases e2
      ·rw [eZ nd (show (p.1,p.2) ∈ m from mp)] at e2
       cases e2
       exact ⟨v,e1,ra⟩
     have dg:DGet H' d (.ref a) (some v):=.inr ⟨kvs,kI p.1,a,.inl (s3' _ _ hd2),rfl,by rw [kH]; exact s3' _ _ ha,e1.symm⟩
     refine ⟨_,rfl,_,rfl,d,v,rfl,dg,_,rfl,dN P p.2,dN P (0,1),iR (av.same s3'),iR (A2.same s3'),bD _ _,bD _ _,?_⟩
     rw [eqv_dN2 (okm p mp) (ce hB.1 hB.2.2)]
     have en:(!decide (p.2=(0,1)))=nz p:=by unfold nz; rw [decide_not]
     rw [en]
     refine ⟨_,rfl,bu (λh=>?_) (λh=>?_)⟩
     ·refine ⟨_,rfl,_,rfl,_,rfl,d,v,rfl,dg,by show 2<=sizeLine; decide,λt nt=>?_⟩
      have s4:=l0.new (o:=.tup [.ref a,v]) nt
      have hz4:=s4 _ _ hz
      have keep4:∀ c u,(upd H' t (.tup [.ref a,v])) c=some u->c ≠ acc->upd (upd H' t (.tup [.ref a,v])) acc (.lst (ws++[.ref t])) c=some u:=λc u e hc=>by rw [am hc]; exact e
      have tk4:∀ c xs,(upd H' t (.tup [.ref a,v])) c=some (.tup xs)->upd (upd H' t (.tup [.ref a,v])) acc (.lst (ws++[.ref t])) c=some (.tup xs):=λc xs e=>keep4 c _ e (bh e hz4 (by intro z; cases z))
      refine ⟨ws,hz4,by rw [sizeLine_eq]; omega,_,af,by rw [length_append,length_singleton]; omega,_,rfl,λc u e=>keep4 c u (s4 _ _ (sm' c u e)) (ak e hacc),?_⟩
      rw [cP ep,if_pos h]
      exact (l6.snoc (p:=p) ⟨t,a,v,rfl,af,s4 _ _ (s3' _ _ ha),(av.same s3').same s4⟩ (pr.mono λt xs e=>s4 _ _ e)).mono tk4
     ·refine ⟨ws,hz,by omega,_,rfl,sm',?_⟩
      rw [cP ep,if_neg h,append_nil]
      exact pr
    ·rintro acc ws σ H' hacc hz hzl ⟨u,rfl,sm',pr⟩
     rw [lq,take_length] at pr
     refine q acc ws _ H' ?_ ((sm2.trans s3).trans sm') hz pr ⟨pe.filter _,fall.filter _⟩
     exact (sm2.trans s3).free hacc
theorem nd_3:(["_law_number_here"]:List Str).Nodup:=by decide +kernel
def spExp:Sp:=λvs H Q _=>∃ (p:Addr) (L M a b:Int) (k:Nat),vs=[.int L,.int M,.ref p]/\1<=L/\L<=4/\0<=M/\M<=1000/\H p=some (.lst [.int a,.int b])/\mn a b k/\k<=100000/\
 ∀ (t:Addr) (es:List Int) (a' b':Int) (H':Hp),(es.length:Int)=L->(∀ e ∈ es,0<=e)->es.sum<=M->H' t=some (.tup (es.map V.int))->H' p=some (.lst [.int a',.int b'])->mn a' b' (k+6)->(∀ c o,H c=some o->c ≠ p->H' c=some o)->Q (.ref t) H'
theorem cut_lo (xs:List V) (n:Nat) (h:n<=xs.length):jk xs (some (n:Int)) none=xs.drop n:=by
 unfold jk
 rw [HT.sIx_nat,HT.sIx_none,Nat.min_eq_left h]
 exact take_of_length_le (by rw [length_drop]; exact Nat.le_refl _)
theorem cut_hi (xs:List V) (n:Nat) (h:n<=xs.length):jk xs none (some (n:Int))=xs.take n:=by
 unfold jk
 rw [HT.sIx_nat,HT.sIx_none,Nat.min_eq_left h]
 simp
theorem mz:l8 ["_law_letters", "_law_most", "_law_bag_here", "_law_found", "_law_left", "_law_letter", "_law_here", "_law_at"] ["_law_letters", "_law_most", "_law_bag_here"] (aj bP):=.i
theorem ok_exp {f:Addr} {fd:FuncData} (F:Fun K "_law_exponents" "_law_exponents" bP f fd) (T:Blt mg) (oa:FnB P w K mg base 1 "_law_take" dB):me P w K mg base CX0 2 f fd ["_law_letters", "_law_most", "_law_bag_here"] spExp:=by
 refine F.o mz λ_ _ _ _ H _ Q _ hr h=>?_
 ·obtain ⟨p,L,M,a,b,k,rfl,hL1,hL4,hM0,hM1,hp,hb,hk,q⟩:=h
  refine ⟨_,(ag (ar (i:=3) mz.nd rfl (Or.inl rfl) (ci ah))
(ag (ar (i:=4) mz.nd rfl (Or.inl rfl) (aq oa hr.m (aa (pv 2) (aa (ao aP (pv 1) ae) ah))))
(ag (bG PassesOwn.never rfl (db rfl T.range (aa (pv 0) ah)) (bw (i:=5) mz.nd rfl (Or.inl rfl))
(ag (ar (i:=6) mz.nd rfl (Or.inl rfl) (aq oa hr.m (aa (pv 2) (aa (ao aP (pv 4) ae) ah))))
(ag (iA (bmA K rfl (pv 3) (aa (pv 6) ah)))
(ai (ar (i:=4) mz.nd rfl (Or.inl rfl) (ao dC (pv 4) (pv 6)))))))
(ag (ar (i:=7) mz.nd rfl (Or.inl rfl) (aq oa hr.m (aa (pv 2) (aa (pv 0) ah))))
(ai (ap (gB K T (ao op_cat (jA (jo K rfl) (pv 3) (lU (pv 7)) lG) (jA (jo K rfl) (pv 3) lG (lU (pv 7))))))))))),?_⟩
  refine ⟨Nat.zero_le _,λl hl=>?_⟩
  have pl:p ≠ l:=ak hp hl
  refine ⟨_,rfl,_,rfl,_,_,rfl,rfl,p,a,b,_,k,rfl,(by rw [am pl]; exact hp),hb,by omega,by omega,aG (by omega) (by omega),λr a1 b1 r0 r1 hb1=>?_⟩
  refine ⟨_,rfl,L,rfl,by omega,by omega,fo (n:=L.toNat) (λi σ H'=>∃ (es:List Int) (left a b:Int) (x5 x6:Option V),σ=[some (.int L),some (.int M),some (.ref p),some (.ref l),some (.int left),x5,x6,none]/\es.length=i/\(∀ e ∈ es,0<=e)/\0<=left/\es.sum+left<=M/\(∀ e ∈ es,e<=M)/\
    H' l=some (.lst (es.map V.int))/\H' p=some (.lst [.int a,.int b])/\mn a b (k+1+i)/\(∀ c o,H c=some o->c ≠ p->H' c=some o)) ?_ ?_ ?_⟩
  ·refine ⟨[],r,a1,b1,none,none,rfl,rfl,λe he=>absurd he (by simp),r0,(by simp; omega),λe he=>absurd he (by simp),(by rw [am pl.symm,af]; rfl),af,hb1,λc o e hc=>?_⟩
   rw [am hc,am (ak e hl)]
   exact e
  ·rintro i σ H2 hi ⟨es,left,a2,b2,x5,x6,rfl,hlen,hnn,hl0,hsum,hle,hl2,hp2,hb2,kp⟩
   have hnsum:0<=es.sum:=by
    clear hsum hle hlen hl2
    induction es with
    | nil=>simp
    | cons e r ih=>
     rw [sum_cons]
     have:=hnn e (by simp)
     have:=ih (λx hx=>hnn x (by simp [hx]))
     omega
   refine ⟨_,rfl,_,rfl,_,_,rfl,rfl,p,a2,b2,_,k+1+i,rfl,hp2,hb2,by omega,by omega,aG (by omega) (by omega),λr3 a3 b3 r30 r31 hb3=>?_⟩
   have hl3:(upd H2 p (.lst [.int a3,.int b3])) l=some (.lst (es.map V.int)):=by rw [am pl.symm]; exact hl2
   refine ⟨_,rfl,.inl ⟨rfl,_,SqL.of hl3⟩,_,rfl,l,_,_,rfl,rfl,hl3,eY (by rw [length_map]; omega),?_⟩
   refine ⟨_,rfl,_,rfl,_,_,rfl,rfl,?_⟩
   refine ⟨es++[r3],left-r3,a3,b3,_,_,rfl,by rw [length_append,length_singleton,hlen],λe he=>?_,by omega,by rw [sum_append]; simp; omega,λe he=>?_,by rw [af,map_append]; rfl,by rw [am pl,af],by rw [show k+1+(i+1)=k+1+i+1 by omega]; exact hb3,λc o e hc=>?_⟩
   ·rcases List.mem_append.mp he with z | z
    ·exact hnn e z
    ·rw [List.mem_singleton.mp z]; exact r30
   ·rcases List.mem_append.mp he with z | z
    ·exact hle e z
    ·rw [List.mem_singleton.mp z]; omega
   ·rw [am (ak e hl),am hc]
    exact kp c o e hc
  ·rintro σ H2 ⟨es,left,a2,b2,x5,x6,rfl,hlen,hnn,hl0,hsum,hle,hl2,hp2,hb2,kp⟩
   have hln:es.length<=4:=by omega
   refine ⟨_,rfl,_,rfl,p,a2,b2,_,k+1+L.toNat,rfl,hp2,hb2,by omega,by omega,aG (by omega) (by omega),λr3 a3 b3 r30 r31 hb3=>?_⟩
   obtain ⟨n,rfl⟩:=Int.eq_ofNat_of_zero_le r30
   have hl3:(upd H2 p (.lst [.int a3,.int b3])) l=some (.lst (es.map V.int)):=by rw [am pl.symm]; exact hl2
   have hn:n<=(es.map V.int).length:=by rw [length_map]; omega
   have h4:(4:Nat)<=sizeLine:=by decide
   refine ⟨_,rfl,_,rfl,_,rfl,l,_,rfl,SqL.of hl3,λl1 n1=>?_⟩
   have hl4:(upd (upd H2 p (.lst [.int a3,.int b3])) l1 (.lst (jk (es.map V.int) (some (n:Int)) none))) l=some (.lst (es.map V.int)):=by rw [am (ak hl3 n1)]; exact hl3
   refine ⟨_,rfl,_,rfl,_,rfl,l,_,rfl,SqL.of hl4,λl2 n2=>?_⟩
   have l12:l1 ≠ l2:=λz=>by rw [<- z,af] at n2; cases n2
   refine ⟨l1,l2,_,_,rfl,rfl,by rw [am l12,af],af,?_,λl3 n3=>?_⟩
   ·rw [cut_lo _ _ hn,cut_hi _ _ hn,length_drop,length_take,length_map]
    omega
   ·rw [cut_hi _ _ hn] at n3 ⊢
    rw [cut_lo _ _ hn] at n2 n3 ⊢
    refine ⟨l3,_,rfl,SqL.of af,λt ht=>?_⟩
    have sm:=(l0.new (o:=.lst ((es.map V.int).drop n)) n1).trans (l0.new (o:=.lst ((es.map V.int).take n)) n2)
    have sm2:=(sm.trans (l0.new (o:=.lst ((es.map V.int).drop n++(es.map V.int).take n)) n3)).trans (l0.new (o:=.tup ((es.map V.int).drop n++(es.map V.int).take n)) ht)
    refine q t (es.drop n++es.take n) a3 b3 _ ?_ (λe he=>?_) ?_ (by rw [af,map_append,List.map_drop,List.map_take]) (sm2 p _ af) (hb3.mono (by omega)) (λc o e hc=>sm2 c o (by rw [am hc]; exact kp c o e hc))
    ·rw [length_append,length_drop,length_take]
     rw [length_map] at hn
     omega
    ·rcases List.mem_append.mp he with z | z
     ·exact hnn e (List.mem_of_mem_drop z)
     ·exact hnn e (mem_of_mem_take z)
    ·have e1:(es.drop n++es.take n).sum=es.sum:=by
      rw [sum_append,Int.add_comm,<- sum_append,take_append_drop]
     rw [e1]
     omega
def PsOk (P L:Int) (ps:List al):Prop:=∀ q ∈ ps,OkN P q.2/\Sz 103 q.2/\(q.1.length:Int)=L/\∀ e ∈ q.1,0<=e
def spParts:Sp:=λvs H Q _=>∃ (p:Addr) (P L M N a b:Int) (k:Nat),vs=[.int P,.int L,.int M,.int N,.ref p]/\l7 P/\1<=L/\L<=4/\0<=M/\M<=1000/\0<=N/\N<=12/\H p=some (.lst [.int a,.int b])/\mn a b k/\k<=1000/\
 ∀ (l:Addr) (ts:List V) (ps:List al) (a' b':Int) (H':Hp),H l=none->H' l=some (.lst ts)->l6 P H' ts ps->(ps.length:Int)<=N->PsOk P L ps->(∀ q ∈ ps,q.1.sum<=M)->H' p=some (.lst [.int a',.int b'])->mn a' b' (k+205)->(∀ c o,H c=some o->c ≠ p->H' c=some o)->Q (.ref l) H'
theorem mR:l8 ["_law_prime_here", "_law_letters", "_law_most", "_law_many", "_law_bag_here", "_law_found", "_law_k", "_law_product"] ["_law_prime_here", "_law_letters", "_law_most", "_law_many", "_law_bag_here"] (aj dH):=.i
theorem ok_parts {f:Addr} {fd:FuncData} (F:Fun K "_law_parts" "_law_parts" dH f fd) (T:Blt mg) (oa:FnB P w K mg base 1 "_law_take" dB) (pO:FnB P w K mg base 2 "_law_exponents" spExp) (o8:FnB P w K mg base 4 "_law_number" spNumber) :
  me P w K mg base CX0 5 f fd ["_law_prime_here", "_law_letters", "_law_most", "_law_many", "_law_bag_here"] spParts:=by
 refine F.o mR λ_ _ _ _ H _ Q _ hr h=>?_
 ·obtain ⟨p,P,L,M,N,a,b,k,rfl,hP,hL1,hL4,hM0,hM1,hN0,hN1,hp,hb,hk,q⟩:=h
  refine ⟨_,(ag (ar (i:=5) mR.nd rfl (Or.inl rfl) (ci ah))
(ag (bG PassesOwn.never rfl (db rfl T.range (aa (aq oa hr.m (aa (pv 4) (aa (ao aP (pv 3) ae) ah))) ah)) (bw (i:=6) mR.nd rfl (Or.inl rfl))
(ag (ar (i:=7) mR.nd rfl (Or.inl rfl) (aq pO hr.m (aa (pv 1) (aa (pv 2) (aa (pv 4) ah)))))
(ag (aK (PW.pt (pw_and (az cY (pv 6) ae (aA _)) (pw_and1 (az cO (aq oa hr.m (aa (pv 4) (aa ae ah))) ae (aA _)))))
(ai (ar (i:=7) mR.nd rfl (Or.inl rfl) (aB (aw K rfl) (aB (aM K rfl) (pv 5) (aq oa hr.m (aa (pv 4) (aa (pv 6) ah))) (λ_ _=>rfl)) ae (λ_ _=>rfl))))
aC)
(ai (iA (bmA K rfl (pv 5) (aa (bp (aa (pv 7) (aa (aq o8 hr.m (aa (pv 0) (aa (pv 4) (aa (cw cO (aq oa hr.m (aa (pv 4) (aa ae ah))) ae (aA _)) ah)))) ah))) ah)))))))
(ai (ap (pv 5))))),?_⟩
  refine ⟨Nat.zero_le _,λl hl=>?_⟩
  have pl:p ≠ l:=ak hp hl
  refine ⟨_,rfl,_,rfl,_,_,rfl,rfl,p,a,b,_,k,rfl,(by rw [am pl]; exact hp),hb,by omega,by omega,aG (by omega) (by omega),λr a1 b1 r0 r1 hb1=>?_⟩
  refine ⟨r,rfl,by omega,by omega,fo (n:=r.toNat) (λi σ H'=>∃ (ts:List V) (ps:List al) (a b:Int) (x6 x7:Option V),σ=[some (.int P),some (.int L),some (.int M),some (.int N),some (.ref p),some (.ref l),x6,x7]/\
   H' l=some (.lst ts)/\l6 P H' ts ps/\ps.length=i/\PsOk P L ps/\(∀ q ∈ ps,q.1.sum<=M)/\H' p=some (.lst [.int a,.int b])/\mn a b (k+1+17*i)/\(∀ c o,H c=some o->c ≠ p->H' c=some o)) ?_ ?_ ?_⟩
  ·refine ⟨[],[],a1,b1,none,none,rfl,(by rw [am pl.symm,af]),.nil,rfl,λq hq=>absurd hq (by simp),λq hq=>absurd hq (by simp),af,hb1,λc o e hc=>?_⟩
   rw [am hc,am (ak e hl)]
   exact e
  ·rintro i σ H2 hi ⟨ts,ps,a2,b2,x6,x7,rfl,hl2,pr,hlen,hpok,hsm,hp2,hb2,kp⟩
   have hi12:i<13:=by omega
   refine ⟨_,rfl,_,rfl,_,rfl,p,L,M,a2,b2,_,rfl,hL1,hL4,hM0,hM1,hp2,hb2,by omega,λt es a3 b3 H3 hlen3 hnn hsum ht hp3 hb3 kp3=>?_⟩
   have lp:l ≠ p:=pl.symm
   have np:∀ t xs,H2 t=some (.tup xs)->t ≠ p:=λt xs e=>bh e hp2 (by intro z; cases z)
   have hl3:H3 l=some (.lst ts):=kp3 l _ hl2 lp
   have pr3:l6 P H3 ts ps:=pr.mono λt xs e=>kp3 t _ e (np t xs e)
   have kp3':∀ c o,H c=some o->c ≠ p->H3 c=some o:=λc o e hc=>kp3 c o (kp c o e hc) hc
   dsimp only
   refine set_cut (t:=tIfS _ _ _) (λσ' H'=>∃ (c:Addr) (es:List Int) (a b:Int),σ'=[some (.int P),some (.int L),some (.int M),some (.int N),some (.ref p),some (.ref l),some (.int (0+(i:Int))),some (.ref c)]/\H' c=some (.tup (es.map V.int))/\(es.length:Int)=L/\(∀ e ∈ es,0<=e)/\es.sum<=M/\
    H' l=some (.lst ts)/\l6 P H' ts ps/\H' p=some (.lst [.int a,.int b])/\mn a b (k+1+17*i+8)/\(∀ c o,H c=some o->c ≠ p->H' c=some o)) (λR hR=>?_) ?_
   ·refine ⟨_,rfl,_,_,rfl,rfl,_,rfl,bu (λh=>?_) (λh=>?_)⟩
    ·have hi0:0<i:=by have:=of_decide_eq_true h; omega
     refine ⟨_,rfl,p,a3,b3,3,_,rfl,hp3,hb3,by omega,by decide,aG (by decide) (by decide),λr4 a4 b4 r40 r41 hb4=>?_⟩
     have k4:∀ c o,H3 c=some o->c ≠ p->(upd H3 p (.lst [.int a4,.int b4])) c=some o:=λc o e hc=>by rw [am hc]; exact e
     have np3:∀ t xs,H3 t=some (.tup xs)->t ≠ p:=λt xs e=>bh e hp3 (by intro z; cases z)
     refine ⟨rfl,_,rfl,bu (λh4=>?_) (λh4=>?_)⟩
     ·refine ⟨_,rfl,_,rfl,_,rfl,p,a4,b4,_,_,rfl,af,hb4,by omega,by omega,aG (by omega) (by omega),λr5 a5 b5 r50 r51 hb5=>?_⟩
      rw [cC]
      have k5:∀ c o,H3 c=some o->c ≠ p->(upd H3 p (.lst [.int a5,.int b5])) c=some o:=λc o e hc=>by rw [am hc]; exact e
      have pr5:l6 P (upd H3 p (.lst [.int a5,.int b5])) ts ps:=pr3.mono λt xs e=>k5 t _ e (np3 t xs e)
      obtain ⟨n,rfl⟩:=Int.eq_ofNat_of_zero_le r50
      have lts:ts.length=ps.length:=Paired.length pr5
      have hnl:n<ts.length:=by omega
      obtain ⟨q',eq',t',c',u',ev,h1,h2,h3⟩:=l6.at_ pr5 (getElem?_eq_getElem hnl)
      refine ⟨l,_,_,_,rfl,rfl,SqL.of (k5 l _ hl3 lp),atI_nat (by rw [getElem?_eq_getElem hnl,ev]),t',_,_,_,rfl,rfl,SqT.of h1,rfl,?_⟩
      obtain ⟨_,_,l1,l2⟩:=hpok q' (mem_of_getElem? eq')
      exact hR _ _ ⟨c',q'.1,a5,b5,rfl,h2,l1,l2,hsm q' (mem_of_getElem? eq'),k5 l _ hl3 lp,pr5,af,hb5.mono (by omega),λc o e hc=>k5 c o (kp3' c o e hc) hc⟩
     ·exact hR _ _ ⟨t,es,a4,b4,rfl,k4 t _ ht (np3 t _ ht),hlen3,hnn,hsum,k4 l _ hl3 lp,pr3.mono λt xs e=>k4 t _ e (np3 t xs e),af,hb4.mono (by omega),λc o e hc=>k4 c o (kp3' c o e hc) hc⟩
    ·exact hR _ _ ⟨t,es,a3,b3,rfl,ht,hlen3,hnn,hsum,hl3,pr3,hp3,hb3.mono (by omega),kp3'⟩
   ·rintro σ' H4 ⟨c,es',a4,b4,rfl,hc,hle,hnn',hsm',hl4,pr4,hp4,hb4,kp4⟩
    have lts:ts.length=ps.length:=Paired.length pr4
    refine ⟨_,rfl,.inl ⟨rfl,_,SqL.of hl4⟩,_,rfl,_,rfl,_,rfl,_,rfl,p,a4,b4,6,_,rfl,hp4,hb4,by omega,by decide,aG (by decide) (by decide),λr5 a5 b5 r50 r51 hb5=>?_⟩
    refine ⟨rfl,p,P,a5,b5,_,_,rfl,hP,af,hb5,by omega,λv a6 b6 H6 hv hp6 hb6 kp6=>?_⟩
    have k6:∀ c o,H4 c=some o->c ≠ p->H6 c=some o:=λc o e hc=>kp6 c o (by rw [am hc]; exact e) hc
    have np4:∀ t xs,H4 t=some (.tup xs)->t ≠ p:=λt xs e=>bh e hp4 (by intro z; cases z)
    refine ⟨(by show 2<=sizeLine; decide),λt7 n7=>?_⟩
    have s7:=l0.new (o:=.tup [.ref c,v]) n7
    have hl7:=s7 _ _ (k6 l _ hl4 lp)
    refine ⟨l,_,_,rfl,rfl,hl7,by rw [sizeLine_eq]; omega,?_⟩
    obtain ⟨x,ax,ox,sx⟩:=hv.at_ hP
    have k8:∀ d o,(upd H6 t7 (.tup [.ref c,v])) d=some o->d ≠ l->upd (upd H6 t7 (.tup [.ref c,v])) l (.lst (ts++[.ref t7])) d=some o:=λd o e hd=>by rw [am hd]; exact e
    have tk8:∀ d xs,(upd H6 t7 (.tup [.ref c,v])) d=some (.tup xs)->upd (upd H6 t7 (.tup [.ref c,v])) l (.lst (ts++[.ref t7])) d=some (.tup xs):=λd xs e=>k8 d _ e (bh e hl7 (by intro z; cases z))
    have hc6:=k6 c _ hc (np4 c _ hc)
    refine ⟨ts++[.ref t7],ps++[(es',x)],a6,b6,_,_,rfl,af,?_,by rw [length_append,hlen]; rfl,λq hq=>?_,λq hq=>?_,k8 p _ (s7 _ _ hp6) pl,hb6.mono (by omega),λd o e hd=>k8 d o (s7 _ _ (k6 d o (kp4 d o e hd) hd)) (ak e hl)⟩
    ·exact (l6.snoc (p:=(es',x)) ⟨t7,c,v,rfl,af,s7 _ _ hc6,ax.same s7⟩ ((pr4.mono λt xs e=>k6 t _ e (np4 t xs e)).mono λt xs e=>s7 _ _ e)).mono tk8
    ·rcases List.mem_append.mp hq with z | z
     ·exact hpok q z
     ·rw [List.mem_singleton.mp z]
      exact ⟨ox,sx,hle,hnn'⟩
    ·rcases List.mem_append.mp hq with z | z
     ·exact hsm q z
     ·rw [List.mem_singleton.mp z]
      exact hsm'
  ·rintro σ H2 ⟨ts,ps,a2,b2,x6,x7,rfl,hl2,pr,hlen,hpok,hsm,hp2,hb2,kp⟩
   exact ⟨_,rfl,q l ts ps a2 b2 H2 hl hl2 pr (by omega) hpok hsm hp2 (hb2.mono (by omega)) kp⟩
def dP (P:Int) (p:al):PyData:=.tuple [dc p.1,dN P p.2]
def dS (P:Int) (out:List al):PyData:=.list (out.map (dP P))
theorem dP_ok (P:Int) (p:al):(dP P p).canLay0=true/\(dP P p).depth<=2:=by
 have h1:=bE p.1
 have h2:=bD P p.2
 have d1:(dc p.1).depth<=1:=by simp [dc,PyData.depth,PySem.W.ke_depthAll]
 have d2:(dN P p.2).depth<=1:=by
  unfold dN
  split
  ·simp [dc,PyData.depth,PyData.depthAll]
  ·simp [PyData.depth]
 refine ⟨?_,?_⟩
 ·simp only [dP,PyData.canLay0,PyData.canLayAll0,SeqAt.canLay_of_shaped h1,SeqAt.canLay_of_shaped h2,Bool.and_true]
 ·simp only [dP,PyData.depth,PyData.depthAll]
  omega
theorem dS_all (P:Int):∀ out:List al,PyData.canLayAll0 (out.map (dP P))=true/\PyData.depthAll (out.map (dP P))<=2
 | []=>⟨rfl,by simp [PyData.depthAll]⟩
 | p::r=>by
  obtain ⟨a,b⟩:=dP_ok P p
  obtain ⟨c,d⟩:=dS_all P r
  refine ⟨by simp only [map_cons,PyData.canLayAll0,a,c,Bool.and_true],?_⟩
  simp only [map_cons,PyData.depthAll]
  omega
theorem aX (P:Int) (out:List al):SeqAt.shaped (dS P out)=true:=by
 obtain ⟨c,d⟩:=dS_all P out
 unfold SeqAt.shaped dS
 rw [Bool.and_eq_true]
 refine ⟨by simp only [PyData.canLay0,c],decide_eq_true ?_⟩
 simp only [PyData.depth]
 omega
theorem iG (P:Int) (out:List al):PyData.eqv (dS P out) (dS P out)=true:=SeqAt.eqv_refl _ (SeqAt.canLay_of_shaped (aX P out))
theorem jT {K:Frag} {P:Int} {H:Hp}:∀ {ts:List V} {ps:List al},l6 P H ts ps->DRs K H (ps.map (dP P)) ts
 | _,_,.nil=>.nil
 | _,_,.cons ⟨t,k,u,e,h1,h2,h3⟩ r=>by
  rw [e]
  exact .cons (.tup (SqT.of h1) (.cons (fg (SqT.of h2)) (.cons (iR h3) .nil))) (jT r)
theorem dr_dS {K:Frag} {P:Int} {H:Hp} {l:Addr} {ts:List V} {ps:List al} (hl:H l=some (.lst ts)) (h:l6 P H ts ps):DR K H (dS P ps) (.ref l):=.lst (SqL.of hl) (jT h)
def spSLike (K:Frag):Sp:=λvs H Q _=>∃ (l:Addr) (P L:Int) (ts:List V) (ps:List al),vs=[.int P,.int L,.ref l]/\l7 P/\H l=some (.lst ts)/\l6 P H ts ps/\ps.length<=60/\eN P ps/\mh P ps ps/\(∀ q ∈ ps,(q.1.length:Int)=L/\q.1.length<=10/\∀ e ∈ q.1,0<=e)/\
 ∀ H',l0 H H'->Q (.bl true) H'
theorem nC:l8 ["_law_prime_here", "_law_letters", "_law_found", "_law_part"] ["_law_prime_here", "_law_letters", "_law_found"] (aj cg):=.i
theorem ok_slike {f:Addr} {fd:FuncData} (F:Fun K "_law_sum_like" "_law_sum_like" cg f fd) (T:Blt mg) (oB:FnB P w K mg base 1 "_law_whole" (lA K)) (pB:FnB P w K mg base 2 "_law_number_like" (spLike K)) (oH:FnB P w K mg base 4 "_law_sum" kU) :
  me P w K mg base CX0 5 f fd ["_law_prime_here", "_law_letters", "_law_found"] (spSLike K):=by
 refine F.o nC λ_ _ _ _ H _ Q _ hr h=>?_
 ·obtain ⟨l,P,L,ts,ps,rfl,hP,hl,hps,hn,hok,hsum,hL,q⟩:=h
  refine ⟨_,(ag (aK (cJ (bQ (gI K T (pv 2) T.list iK)))
(ai (ap cr))
aC)
(ag (bG PassesOwn.never rfl (bo K rfl (pv 2)) (bw (i:=3) nC.nd rfl (Or.inl rfl))
(ag (aK (PW.pt (dQ (cJ (bQ (gI K T (pv 3) T.tuple cQ))) (dQ (az op_ne (dw K T (pv 3)) ae (aA _)) (eC (cJ (bQ (gI K T (aB (aw K rfl) (pv 3) ae (λ_ _=>rfl)) T.tuple cQ)))))))
(ai (ap cr))
aC)
(ag (aK (PW.pt (dQ (az op_ne (dw K T (aB (aw K rfl) (pv 3) ae (λ_ _=>rfl))) (pv 1) (aA _)) (eC (cJ (bQ (aq pB hr.m (aa (pv 0) (aa (aB (aw K rfl) (pv 3) ae (λ_ _=>rfl)) ah))))))))
(ai (ap cr))
aC)
(ai (aK (cJ (bQ (kpl_all K T (by exact fj (N:=["_law_number_here"]) (src:=[none]) rfl rfl rfl (by exact (kpi_tup K rfl (aB (aw K rfl) (pv 3) ae (λ_ _=>rfl)))) (λ_ _ _=>by exact ⟨by exact (gn (i:=0) nd_3 rfl rfl),di,by exact (jw (aq oB hr.m (aa (pv 0) ah)) (jq (cw op_ge (pv 0) ae (aA _))))⟩)) false)))
(ai (ap cr))
aC)))))
(ai (ap (cw (keqD K rfl hr.units) (aq oH hr.m (aa (pv 0) (aa (pv 2) ah))) (pv 2) (aA _)))))),?_⟩
  have lt:ts.length=ps.length:=Paired.length hps
  refine ⟨_,rfl,_,true,.lst hl,rfl,_,rfl,bF ?_⟩
  refine ⟨_,rfl,l,rfl,⟨_,SqL.of hl⟩,dY (xs:=ts) (λi σ H'=>∃ x3:Option V,σ=[some (.int P),some (.int L),some (.ref l),x3]/\l0 H H') ?_ ?_ ?_ ?_⟩
  ·exact ⟨none,rfl,l0.refl _⟩
  ·rintro i σ H' _ ⟨x3,rfl,sm⟩
   exact SqL.of (sm _ _ hl)
  ·rintro i v σ H1 hx ⟨x3,rfl,sm⟩
   obtain ⟨p,ep,t,k,u,rfl,h1,h2,h3⟩:=hps.at_ hx
   have mp:p ∈ ps:=mem_of_getElem? ep
   obtain ⟨op,zp⟩:=hok.1 p mp
   obtain ⟨pl,pl10,pn⟩:=hL p mp
   have h1:=sm _ _ h1
   have h2:=sm _ _ h2
   have h3:=h3.same sm
   obtain ⟨th,nv⟩:=h3.thing (K:=K) op zp
   refine ⟨_,rfl,_,true,.tup h1,rfl,_,rfl,bF ?_⟩
   refine ⟨_,rfl,t,_,rfl,.inr (SqT.of h1),rfl,_,rfl,iteNS rfl ?_⟩
   refine ⟨_,rfl,t,_,_,_,rfl,rfl,SqT.of h1,rfl,_,true,.tup h2,rfl,_,rfl,bF ?_⟩
   refine ⟨_,rfl,t,_,_,_,rfl,rfl,SqT.of h1,rfl,k,_,rfl,.inr (SqT.of h2),_,rfl,rfl,_,rfl,iteNS (by rw [length_map,pl]) ?_⟩
   refine ⟨_,rfl,_,rfl,t,_,_,_,rfl,rfl,SqT.of h1,rfl,P,u,rfl,hP,th,λH3 s3=>?_⟩
   rw [nv]
   refine ⟨_,rfl,bF ?_⟩
   have h1:=s3 _ _ h1
   have h2:=s3 _ _ h2
   refine ⟨_,rfl,t,_,_,_,rfl,rfl,SqT.of h1,rfl,k,rfl,⟨_,SqT.of h2⟩,comp_tup (v1 λ_=>.bl true) rfl (SqT.of h2) (by rw [length_map,sizeLine_eq]; omega) (λi x H4 R hx4 sm4 hR=>?_) (λacc4 H4 hacc4 sm4 hl4=>?_)⟩
   ·obtain ⟨z,hz,rfl⟩:=dJ hx4
    have z0:0<=z:=pn z (mem_of_getElem? hz)
    refine ⟨_,rfl,.int z,_,true,false,rfl,.int z,rfl,rfl,_,rfl,cv ⟨_,rfl,_,_,rfl,rfl,?_⟩⟩
    show R (.bl (decide (0<=z))) H4
    rw [decide_eq_true z0]
    exact hR
   ·rw [map_v1] at hl4
    have hb4:(p.1.map λ_=>V.bl true)=(p.1.map λ_=>true).map V.bl:=by rw [map_map]; rfl
    rw [hb4] at hl4
    refine ⟨acc4,_,rfl,sqvL (SqL.of hl4),_,rfl,?_⟩
    rw [all_tt]
    exact bF ⟨_,rfl,(sm.trans s3).trans sm4⟩
  ·rintro σ H1 ⟨x3,rfl,sm⟩
   refine ⟨_,rfl,_,rfl,l,P,ts,ps,rfl,hP,sm _ _ hl,hps.mono (λt xs e=>sm _ _ e),hn,hok,λd rs out H2 nd s2 hd po is=>?_⟩
   rw [gp is hsum] at po
   refine ⟨_,rfl,dS P ps,dS P ps,dr_dS hd po,dr_dS (s2 _ _ (sm _ _ hl)) (hps.mono (λt xs e=>s2 _ _ (sm _ _ e))),aX _ _,aX _ _,?_⟩
   rw [iG]
   exact q H2 (sm.trans s2)
def jc (CG CN:Addr):Sp:=λvs H Q E=>∃ (g dx:Addr) (v:V) (L:Int),vs=[.ref g,v,.int L]/\H g=some (.ins CG dx [])/\(¬ (1<=L/\L<=4)->E (.ref CN) none H)/\
 (1<=L->L<=4->Q .non (upd (upd H g (.ins CG dx [("kind",v)])) g (.ins CG dx [("kind",v),("width",.int L)])))
def lQ (CF CR CG CN:Addr):Sp:=λvs H Q E=>∃ P L:Int,vs=[.int P,.int L]/\l7 P/\(¬ (1<=L/\L<=4)->∀ H',l0 H H'->E (.ref CN) none H')/\
 (1<=L->L<=4->∀ (g x:Addr) (H':Hp),l0 H H'->mH CF CR H' x P->cS CG H' g x L->Q (.ref g) H')
theorem gw:l8 ["self", "numbers", "letters"] ["self", "numbers", "letters"] (aj aW):=.i
theorem ok_ginit {f CG oj:Addr} {fd:FuncData} {tk:Tok} (F:Fun K "__init__" "Ring.__init__" aW f fd) (cl:Cls K CG) (nK:mP K CG "kind") (nW:mP K CG "width") (cMost:mg "MOST_LETTERS"=some (.int 4 tk)) (ANoRing:mg "NoRing"=some (.ref oj)) (xc:XCl K oj) :
  me P w K mg base (CXE P w) 2 f fd ["self", "numbers", "letters"] (jc CG oj):=by
 refine F.okX gw (λvs H Q E h=>?_) (λcdv A outer s H vs Q E hr h=>?_)
 ·obtain ⟨g,dx,v,L,rfl,_⟩:=h
  rfl
 ·obtain ⟨g,dx,v,L,rfl,hg,qn,qy⟩:=h
  refine ⟨_,(ag (aK (PW.pt (dQ (az gZ (pv 2) ae (aA _)) (eC (az cY (pv 2) (gh (v:=.int 4) rfl cMost ⟨_,rfl⟩) (aA _)))))
(ai (iH xc.ek ANoRing (aa pe_str ah)))
aC)
(ag (ps_fld (pv 0) (pv 1) rfl)
(ai (ps_fld (pv 0) (pv 2) rfl)))),?_⟩
  have bad:¬ (1<=L/\L<=4)->E (.ref oj) none H:=qn
  refine ⟨_,rfl,_,_,rfl,rfl,_,rfl,bu (λh=>?_) (λh=>?_)⟩
  ·have h1:L<1:=of_decide_eq_true h
   exact cv ⟨(by show 1<=sizeLine; decide),bad (by omega)⟩
  ·have h1:¬ L<1:=λz=>h (decide_eq_true z)
   refine ⟨_,rfl,_,_,rfl,rfl,_,rfl,bu (λh=>?_) (λh=>?_)⟩
   ·have h4:L > 4:=of_decide_eq_true h
    exact ⟨(by show 1<=sizeLine; decide),bad (by omega)⟩
   ·have h4:¬ L > 4:=λz=>h (decide_eq_true z)
    exact ⟨_,rfl,_,rfl,g,CG,dx,_,rfl,hg,cl,nK,(by decide),_,rfl,_,rfl,g,CG,dx,_,rfl,af,cl,nW,(by show (1:Nat)<1000; decide),qy (by omega) (by omega)⟩
theorem kR:l8 ["_law_prime_here", "_law_letters"] ["_law_prime_here", "_law_letters"] (aj dX):=.i
theorem ok_ring {f CF CR CG oj:Addr} {fd:FuncData} (F:Fun K "_law_ring" "_law_ring" dX f fd) (qq:FnB P w K mg base 4 "_law_numbers" (spNums CF CR)) (vg:MkBX P w K mg base 2 CG "Ring" (jc CG oj)) :
  me P w K mg base (CXE P w) 5 f fd ["_law_prime_here", "_law_letters"] (lQ CF CR CG oj):=by
 refine F.okX kR (λvs H Q E h=>?_) (λcdv A outer s H vs Q E hr h=>?_)
 ·obtain ⟨P,L,rfl,_⟩:=h
  rfl
 ·obtain ⟨P,L,rfl,hP,qn,qy⟩:=h
  refine ⟨_,(ai (ap (pe_mkX vg hr.m passes_on (aa (aq qq hr.m (aa (pv 0) ah)) (aa (pv 1) ah))))),?_⟩
  refine ⟨_,rfl,P,rfl,hP,λx H1 s1 hN=>⟨_,rfl,λg dx ng ndx ne=>?_⟩⟩
  have s2:l0 H1 (upd (upd H1 dx (.own g)) g (.ins CG dx [])):=(l0.new ndx).put ng
  refine ⟨g,dx,.ref x,L,rfl,af,λhL=>qn hL _ (s1.trans s2),λh1 h4=>⟨rfl,qy h1 h4 g x _ ?_ ?_ ⟨dx,af⟩⟩⟩
  ·intro c o e
   have e1:=s1 c o e
   have hc:c ≠ g:=ak e1 ng
   rw [am hc,am hc,am hc,am (ak e1 ndx)]
   exact e1
  ·refine hN.mono λo e=>?_
   have hc:x ≠ g:=ak e ng
   rw [am hc,am hc,am hc,am (ak e ndx)]
   exact e
theorem acc_sz {P:Int} (hP:l7 P) {ps:List al} (h:∀ p ∈ ps,OkN P p.2/\Sz 103 p.2):∀ i,i<=ps.length->∀ p ∈ acc P (ps.take i),Sz (104*i+103) p.2
 | 0,_,p,hp=>by simp [acc] at hp
 | i+1,hi,p,hp=>by
  have hB:=hP.b
  obtain ⟨q,eq⟩:∃ q,ps[i]? = some q:=⟨_,getElem?_eq_getElem (by omega)⟩
  have ih:=acc_sz hP h i (by omega)
  have okm:∀ q ∈ acc P (ps.take i),OkN P q.2:=dA hB.1 hB.2.2 λq hq=>(h q (mem_of_mem_take hq)).1
  obtain ⟨oq,zq⟩:=h q (mem_of_getElem? eq)
  rw [eA eq] at hp
  rcases cL hp with z | z
  ·rw [z]
   have hw:OkN P ((ba (acc P (ps.take i)) q.1).getD (0,1))/\Sz (104*i+103) ((ba (acc P (ps.take i)) q.1).getD (0,1)):=by
    cases e:ba (acc P (ps.take i)) q.1 with
    | none=>exact ⟨ce hB.1 hB.2.2,⟨Nat.pow_pos (by decide),Nat.one_lt_two_pow (by omega)⟩⟩
    | some y=>exact ⟨okm _ (aV e),ih _ (aV e)⟩
   exact (sz_addN hB.1 hB.2.1 hw.1 oq hw.2 zq (by omega)).1.mono (by omega)
  ·exact (ih p z).mono (by omega)
theorem sumOk_drawn {P:Int} (hP:l7 P) {ps:List al} (hl:ps.length<=12) (h:∀ p ∈ ps,OkN P p.2/\Sz 103 p.2):eN P ps:=by
 refine ⟨λp hp=>⟨(h p hp).1,(h p hp).2.mono (by decide)⟩,λi p hp=>?_⟩
 by_cases hi:i<=ps.length
 ·exact (acc_sz hP h i hi p hp).mono (by omega)
 ·rw [take_of_length_le (by omega)] at hp
  have hp':p ∈ acc P (ps.take ps.length):=by rw [take_length]; exact hp
  exact (acc_sz hP h ps.length (Nat.le_refl _) p hp').mono (by omega)
theorem acc_self {P:Int} {ps:List al} (hn:(ps.map (·.1)).Nodup) (h:∀ p ∈ ps,OkN P p.2):∀ i,i<=ps.length->acc P (ps.take i)=ps.take i
 | 0,_=>by simp [acc]
 | i+1,hi=>by
  obtain ⟨q,eq⟩:∃ q,ps[i]? = some q:=⟨_,getElem?_eq_getElem (by omega)⟩
  rw [eA eq,acc_self hn h i (by omega)]
  have hv:ba (ps.take i) q.1=none:=by
   apply nk.mpr
   intro hm
   have e1:ps.take (i+1)=ps.take i++[q]:=by rw [take_add_one,eq]; rfl
   have hs:((ps.take (i+1)).map (·.1)).Nodup:=(List.Sublist.map _ (take_sublist _ _)).nodup hn
   rw [e1,map_append,List.nodup_append] at hs
   exact hs.2.2 q.1 hm q.1 (by simp) rfl
  unfold bW cq
  rw [hv]
  show ps.take i++[(q.1,aU P (0,1) q.2)]=ps.take (i+1)
  rw [bM (h q (mem_of_getElem? eq)),take_add_one,eq]
  rfl
theorem gN {P:Int} {ps:List al} (hn:(ps.map (·.1)).Nodup) (h:∀ p ∈ ps,OkN P p.2):acc P ps=ps:=by
 have z:=acc_self hn h ps.length (Nat.le_refl _)
 rw [take_length] at z
 exact z
theorem iQ {P:Int} {ps:List al}:∀ p ∈ acc P ps,∃ q ∈ ps,q.1=p.1:=by
 unfold acc
 have go:∀ (rs m:List al),(∀ r ∈ rs,r ∈ ps)->(∀ p ∈ m,∃ q ∈ ps,q.1=p.1)->∀ p ∈ rs.foldl (bW P) m,∃ q ∈ ps,q.1=p.1:=by
  intro rs
  induction rs with
  | nil=>intro m _ h; exact h
  | cons r rs ih=>
   intro m hr hm
   refine ih _ (λq hq=>hr q (by simp [hq])) λp hp=>?_
   rcases cL hp with z | z
   ·exact ⟨r,hr r (by simp),by rw [z]⟩
   ·exact hm p z
 exact go ps [] (λr hr=>hr) (λp hp=>nomatch hp)
def co (m:List al) (k:List Int):Int × Int:=(ba m k).getD (0,1)
theorem co_pos {p:al} {r:List al} {k:List Int} (e:p.1=k):co (p::r) k=p.2:=by unfold co; rw [bK e]; rfl
theorem co_neg {p:al} {r:List al} {k:List Int} (e:¬ p.1=k):co (p::r) k=co r k:=by unfold co; rw [bJ e]
theorem co_of {m:List al} (hn:(m.map (·.1)).Nodup) {p:al} (h:p ∈ m):co m p.1=p.2:=by
 unfold co
 rw [eZ hn (show (p.1,p.2) ∈ m from h)]
 rfl
theorem co_none {m:List al} {k:List Int} (h:¬ k ∈ m.map (·.1)):co m k=(0,1):=by
 unfold co
 rw [nk.mpr h]
 rfl
theorem co_cases (m:List al) (k:List Int):(k,co m k) ∈ m\/(co m k=(0,1)/\¬ k ∈ m.map (·.1)):=by
 unfold co
 cases e:ba m k with
 | none=>exact .inr ⟨rfl,nk.mp e⟩
 | some y=>exact .inl (aV e)
def fallK (a b:al):Prop:=klt (hk b) (hk a)=true
theorem bR {a:List al} (h:a.Pairwise fallK):(a.map (·.1)).Nodup:=by
 rw [List.Nodup,List.pairwise_map]
 refine h.imp λ{x y} z e=>?_
 unfold fallK at z
 have e2:hk x=hk y:=by unfold hk; rw [e]
 rw [e2,lI] at z
 cases z
theorem sum_ext {a b:List al} (fa:a.Pairwise fallK) (fb:b.Pairwise fallK) (za:∀ p ∈ a,nz p=true) (zb:∀ p ∈ b,nz p=true) (h:∀ k,co a k=co b k):a=b:=by
 have na:=bR fa
 have nb:=bR fb
 have sub:∀ {a b:List al},(a.map (·.1)).Nodup->(∀ p ∈ a,nz p=true)->(∀ k,co a k=co b k)->∀ p ∈ a,p ∈ b:=λ{a b} na za h p hp=>by
  have e:=co_of na hp
  rw [h] at e
  rcases co_cases b p.1 with z | ⟨z,_⟩
  ·rw [e] at z; exact z
  ·rw [z] at e
   have:=za p hp
   unfold nz at this
   exact absurd e.symm (of_decide_eq_true this)
 have na':a.Nodup:=List.Pairwise.of_map (·.1) (λ_ _ h z=>h (by rw [z])) na
 have nb':b.Nodup:=List.Pairwise.of_map (·.1) (λ_ _ h z=>h (by rw [z])) nb
 have pm:a.Perm b:=(List.perm_ext_iff_of_nodup na' nb').mpr λp=>⟨λhp=>sub na za h p hp,λhp=>sub nb zb (λk=>(h k).symm) p hp⟩
 exact eI (lt:=λx y=>klt (hk x) (hk y)) (λ_=>lI _) (λ_ _ _=>gA) pm fa fb
theorem mh.nz {P:Int} {ps out:List al} (h:mh P ps out):∀ p ∈ out,_root_.K.nz p=true:=λp hp=>(List.mem_filter.mp (h.1.mem_iff.mp hp)).2
theorem mh.mem {P:Int} {ps out:List al} (h:mh P ps out):∀ p ∈ out,p ∈ acc P ps:=λp hp=>(List.mem_filter.mp (h.1.mem_iff.mp hp)).1
theorem hU {P:Int} {ps:List al} (hn:(ps.map (·.1)).Nodup) (h:∀ p ∈ ps,OkN P p.2/\Sz 2900 p.2):eN P ps:=by
 refine ⟨h,λi q hq=>?_⟩
 have sub:((ps.take i).map (·.1)).Nodup:=(List.Sublist.map _ (take_sublist _ _)).nodup hn
 rw [gN sub λq hq=>(h q (mem_of_mem_take hq)).1] at hq
 exact (h q (mem_of_mem_take hq)).2
def gE:Sp:=λvs H Q _=>∃ (p:Addr) (P a b:Int) (k:Nat),vs=[.int P,.ref p,.bl false]/\l7 P/\H p=some (.lst [.int a,.int b])/\mn a b k/\k<=700000/\
 ∀ (v:V) (x:Int × Int) (a' b':Int) (H':Hp),At P H' v x->OkN P x->(P=0->Sz 2 x)->H' p=some (.lst [.int a',.int b'])->mn a' b' (k+2)->(∀ c o,H c=some o->c ≠ p->H' c=some o)->Q v H'
theorem ok_number0 {f:Addr} {fd:FuncData} (F:Fun K "_law_number" "_law_number" bU f fd) (T:Blt mg) (oa:FnB P w K mg base 1 "_law_take" dB) (oz:FnB P w K mg base 2 "_law_great" ir) (oN:FnB P w K mg base 3 "_law_signed" jm) (om:FnB P w K mg base 1 "_law_low" kD) :
  me P w K mg base CX0 4 f fd ["_law_prime_here", "_law_bag_here", "_law_great_here"] gE:=by
 refine F.o eQ λ_ _ _ _ H _ Q _ hr h=>?_
 ·obtain ⟨p,P,a,b,k,rfl,hP,hp,hb,hk,q⟩:=h
  refine ⟨_,(ag (aK (az cY (pv 0) ae (aA _))
(ai (ap (aq oa hr.m (aa (pv 1) (aa (pv 0) ah)))))
aC)
(ag (aK (bQ (pv 2))
(ai (ap (aq om hr.m (aa (aq oN hr.m (aa (pv 1) ah)) (aa (pl_max T (aa ae (aa (aq oz hr.m (aa (pv 1) ah)) ah))) ah)))))
aC)
(ai (ap (aq om hr.m (aa (ao dC (aq oa hr.m (aa (pv 1) (aa ae ah))) ae) (aa (ao aP ae (ao bj (aq oa hr.m (aa (pv 1) (aa ae ah))) ae)) ah))))))),?_⟩
  have k1:∀ o c o',H c=some o'->c ≠ p->(upd H p o) c=some o':=λo c o' e hc=>by rw [am hc]; exact e
  refine ⟨_,rfl,_,_,rfl,rfl,_,rfl,bu (λh=>?_) (λh=>?_)⟩
  ·have h0:0<P:=of_decide_eq_true h
   have h9:P<=9973:=by rcases hP with z | ⟨_,z,_⟩<;>omega
   refine ⟨_,rfl,_,rfl,p,a,b,P,k,rfl,hp,hb,by omega,h0,aG (by omega) (by omega),λr a1 b1 r0 r1 hb1=>?_⟩
   exact q _ (r,1) a1 b1 _ (.inr ⟨by omega,rfl,rfl⟩) (.inr ⟨by omega,r0,r1,rfl⟩) (λz=>absurd z (by omega)) af (hb1.mono (by omega)) (k1 _)
  have h0:P=0:=by
   have h1:¬ 0<P:=λz=>h (decide_eq_true z)
   rcases hP with z | ⟨z,_⟩<;>omega
  refine ⟨_,rfl,_,rfl,?_⟩
  refine bF ⟨_,rfl,p,a,b,7,k,rfl,hp,hb,by omega,by decide,aG (by decide) (by decide),λr1 a1 b1 r10 r11 hb1=>?_⟩
  refine ⟨_,_,rfl,rfl,?_⟩
  refine ⟨_,rfl,p,a1,b1,8,k+1,rfl,af,hb1,by omega,by decide,aG (by decide) (by decide),λr2 a2 b2 r20 r21 hb2=>?_⟩
  refine ⟨_,_,rfl,rfl,eS (by decide) (by decide),_,_,rfl,rfl,?_⟩
  rw [cC]
  have hm:(1:Int)<=1+r2.fdiv 7/\1+r2.fdiv 7<4:=by
   rw [Int.fdiv_eq_ediv_of_nonneg _ (by decide)]
   omega
  refine ⟨r1-3,1+r2.fdiv 7,rfl,by omega,aG (by omega) (by omega),λt ht=>?_⟩
  generalize 1+r2.fdiv 7=dd at *
  have pt:p ≠ t:=ak (o:=.lst [.int a2,.int b2]) af ht
  have hl:=lj (r1-3) dd (by omega)
  refine q _ (nrm (r1-3) dd) a2 b2 _ (.inl ⟨h0,t,rfl,af⟩) (.inl ⟨h0,bv _ _ (by omega),bV _ _ (by omega)⟩) (λ_=>⟨Nat.lt_of_le_of_lt hl.1 (by show (r1-3).natAbs<4; omega),Nat.lt_of_le_of_lt hl.2 (by show dd.natAbs<4; omega)⟩) (by rw [am pt,af]) (hb2.mono (by omega)) λc o e hc=>?_
  rw [am (ak (k1 _ c o e hc) ht)]
  exact k1 _ c o e hc
def fpl (a b:Int × Int):Int × Int:=if a.2=b.2 then (a.1+b.1,a.2) else (a.1*(b.2.fdiv (Int.gcd a.2 b.2:Int))+b.1*(a.2.fdiv (Int.gcd a.2 b.2:Int)),a.2*(b.2.fdiv (Int.gcd a.2 b.2:Int)))
def val (P:Int) (x:Int × Int):Int × Int:=if P=0 then nrm x.1 x.2 else (x.1 % P,1)
theorem fN {x1 x2 y1 y2 z1 z2:Int} (h:y2 ≠ 0) (e1:x1*y2=y1*x2) (e2:y1*z2=z1*y2):x1*z2=z1*x2:=by
 apply Int.eq_of_mul_eq_mul_right h
 have f1:x1*z2*y2=(x1*y2)*z2:=by ac_rfl
 have f2:y1*x2*z2=(y1*z2)*x2:=by ac_rfl
 have f3:z1*y2*x2=z1*x2*y2:=by ac_rfl
 rw [f1,e1,f2,e2,f3]
theorem kg {g u:Int} (hg:0<g) (h:0<g*u):0<u:=by
 rcases Int.lt_or_le 0 u with z | z
 ·exact z
 ·have:=Int.mul_le_mul_of_nonneg_left z (show 0<=g by omega)
  rw [Int.mul_zero] at this
  omega
theorem eR {a b:Int} (ha:0<a) (hb:0<b):a=(Int.gcd a b:Int)*a.fdiv (Int.gcd a b:Int)/\b=(Int.gcd a b:Int)*b.fdiv (Int.gcd a b:Int)/\0<(Int.gcd a b:Int)/\0<a.fdiv (Int.gcd a b:Int)/\0<b.fdiv (Int.gcd a b:Int):=by
 have hg:0<Int.gcd a b:=Int.gcd_pos_of_ne_zero_left b (by omega)
 have hg':(0:Int)<(Int.gcd a b:Int):=by omega
 obtain ⟨u,hu⟩:=Int.gcd_dvd_left (a:=a) (b:=b)
 obtain ⟨v,hv⟩:=Int.gcd_dvd_right (a:=a) (b:=b)
 have e1:a.fdiv (Int.gcd a b:Int)=u:=by
  have:((Int.gcd a b:Int)*u).fdiv (Int.gcd a b:Int)=u:=Int.mul_fdiv_cancel_left u (by omega)
  rw [<- hu] at this; exact this
 have e2:b.fdiv (Int.gcd a b:Int)=v:=by
  have:((Int.gcd a b:Int)*v).fdiv (Int.gcd a b:Int)=v:=Int.mul_fdiv_cancel_left v (by omega)
  rw [<- hv] at this; exact this
 rw [e1,e2]
 refine ⟨hu,hv,hg',?_,?_⟩
 ·exact kg hg' (by rw [<- hu]; exact ha)
 ·exact kg hg' (by rw [<- hv]; exact hb)
theorem kQ {a b:Int × Int} (ha:0<a.2) (hb:0<b.2):0<(fpl a b).2:=by
 unfold fpl
 split
 ·exact ha
 ·exact Int.mul_pos ha (eR ha hb).2.2.2.2
theorem kT {a b:Int × Int} (ha:a.2=1) (hb:b.2=1):fpl a b=(a.1+b.1,1):=by
 unfold fpl
 rw [if_pos (by rw [ha,hb]),ha]
theorem fpl_eq {a b:Int × Int} (ha:0<a.2) (hb:0<b.2):(fpl a b).1*(a.2*b.2)=(a.1*b.2+b.1*a.2)*(fpl a b).2:=by
 unfold fpl
 split
 ·rename_i h
  show (a.1+b.1)*(a.2*b.2)=(a.1*b.2+b.1*a.2)*a.2
  rw [<- h,<- Int.add_mul,Int.mul_assoc]
 ·obtain ⟨e1,e2,hg,_,_⟩:=eR ha hb
  generalize a.2.fdiv (Int.gcd a.2 b.2:Int)=u at *
  generalize b.2.fdiv (Int.gcd a.2 b.2:Int)=v at *
  generalize (Int.gcd a.2 b.2:Int)=g at *
  show (a.1*v+b.1*u)*(a.2*b.2)=(a.1*b.2+b.1*a.2)*(a.2*v)
  have k:u*b.2=a.2*v:=by rw [e2]; conv=>rhs; rw [e1]
                         ac_rfl
  rw [Int.add_mul,Int.add_mul]
  have f1:a.1*v*(a.2*b.2)=a.1*b.2*(a.2*v):=by ac_rfl
  have f2:b.1*u*(a.2*b.2)=b.1*a.2*(u*b.2):=by ac_rfl
  rw [f1,f2,k]
theorem val_ok {P:Int} {x:Int × Int} (hP:0<=P) (h:0<x.2):OkN P (val P x):=by
 unfold val
 split
 ·rename_i e; subst e; exact lO (by omega)
 ·exact kN hP ‹_›
theorem val_fpl {P:Int} {a b:Int × Int} (hP:0<=P) (ha:0<a.2) (hb:0<b.2) (h1:P ≠ 0->a.2=1/\b.2=1):val P (fpl a b)=aU P (val P a) (val P b):=by
 by_cases h:P=0
 ·subst h
  have fp:=kQ ha hb
  have fe:=fpl_eq ha hb
  have na:=dh a.1 a.2 (by omega)
  have nb:=dh b.1 b.2 (by omega)
  have pa:=bv a.1 a.2 (by omega)
  have pb:=bv b.1 b.2 (by omega)
  have e1:val 0 (fpl a b)=nrm (fpl a b).1 (fpl a b).2:=by unfold val; rw [if_pos rfl]
  have e2:val 0 a=nrm a.1 a.2:=by unfold val; rw [if_pos rfl]
  have e3:val 0 b=nrm b.1 b.2:=by unfold val; rw [if_pos rfl]
  have r1:=dh (fpl a b).1 (fpl a b).2 (by omega)
  have r2:=bv (fpl a b).1 (fpl a b).2 (by omega)
  have r3:=bV (fpl a b).1 (fpl a b).2 (by omega)
  rw [e1,e2,e3]
  unfold aU
  rw [if_pos rfl]
  generalize nrm a.1 a.2=x at *
  generalize nrm b.1 b.2=y at *
  have hd:x.2*y.2 ≠ 0:=λz=>by have:=Int.mul_pos pa pb; omega
  have s1:=dh (x.1*y.2+y.1*x.2) (x.2*y.2) hd
  have s2:=bv (x.1*y.2+y.1*x.2) (x.2*y.2) hd
  have s3:=bV (x.1*y.2+y.1*x.2) (x.2*y.2) hd
  generalize nrm (x.1*y.2+y.1*x.2) (x.2*y.2)=s at *
  generalize nrm (fpl a b).1 (fpl a b).2=r at *
  have hab:a.2*b.2 ≠ 0:=λz=>by have:=Int.mul_pos ha hb; omega
  have wn:(a.1*b.2+b.1*a.2)*(x.2*y.2)=(x.1*y.2+y.1*x.2)*(a.2*b.2):=by
   rw [Int.add_mul,Int.add_mul]
   have f1:a.1*b.2*(x.2*y.2)=(a.1*x.2)*(b.2*y.2):=by ac_rfl
   have f2:b.1*a.2*(x.2*y.2)=(b.1*y.2)*(a.2*x.2):=by ac_rfl
   rw [f1,f2,<- na,<- nb]
   ac_rfl
  have t1:r.1*(a.2*b.2)=(a.1*b.2+b.1*a.2)*r.2:=fN (by omega) r1 fe
  have t2:r.1*(x.2*y.2)=(x.1*y.2+y.1*x.2)*r.2:=fN hab t1 wn
  have t3:r.1*s.2=s.1*r.2:=fN hd t2 s1.symm
  obtain ⟨p,q⟩:=low_one r2 s2 r3 s3 t3
  exact Prod.ext p q
 ·obtain ⟨a1,b1⟩:=h1 h
  rw [kT a1 b1]
  unfold val aU
  rw [if_neg h,if_neg h,if_neg h,if_neg h]
  show ((a.1+b.1) % P,(1:Int))=((a.1 % P+b.1 % P) % P,1)
  rw [Int.add_emod]
theorem fpl_sz {a b:Int × Int} {i j:Nat} (ha:0<a.2) (hb:0<b.2) (h1:Sz i a) (h2:Sz j b):Sz (i+j+1) (fpl a b):=by
 unfold fpl
 have le1:2 ^ i<=2 ^ (i+j):=cA (by omega)
 have le2:2 ^ j<=2 ^ (i+j):=cA (by omega)
 have le3:2 ^ (i+j)<=2 ^ (i+j+1):=cA (by omega)
 split
 ·refine ⟨?_,?_⟩
  ·have:=(sz_add (Nat.lt_of_lt_of_le h1.1 le1) (Nat.lt_of_lt_of_le h2.1 le2)).1
   exact this
  ·exact Nat.lt_of_lt_of_le h1.2 (Nat.le_trans le1 le3)
 ·obtain ⟨e1,e2,hg,u0,v0⟩:=eR ha hb
  have hu:(a.2.fdiv (Int.gcd a.2 b.2:Int)).natAbs<=a.2.natAbs:=by
   conv=>rhs; rw [e1]
   rw [Int.natAbs_mul]
   exact Nat.le_mul_of_pos_left _ (by omega)
  have hv:(b.2.fdiv (Int.gcd a.2 b.2:Int)).natAbs<=b.2.natAbs:=by
   conv=>rhs; rw [e2]
   rw [Int.natAbs_mul]
   exact Nat.le_mul_of_pos_left _ (by omega)
  have m1:=eE h1.1 (Nat.lt_of_le_of_lt hv h2.2)
  have m2:=eE h2.1 (Nat.lt_of_le_of_lt hu h1.2)
  rw [Nat.add_comm j i] at m2
  have m3:=eE h1.2 (Nat.lt_of_le_of_lt hv h2.2)
  exact ⟨(sz_add m1 m2).1,Nat.lt_of_lt_of_le m3 le3⟩
def g6 (m:List al) (q:al):List al:=cq m q.1 (match ba m q.1 with | some y=>fpl y q.2 | none=>q.2)
def bt (ts:List al):List al:=ts.foldl g6 []
theorem cD {ts:List al} {i:Nat} {p:al} (h:ts[i]? = some p):bt (ts.take (i+1))=g6 (bt (ts.take i)) p:=by
 unfold bt
 rw [take_add_one,h,foldl_append]
 rfl
def vm (P:Int) (m:List al):List al:=m.map λq=>(q.1,val P q.2)
theorem lH (P:Int) (k:List Int):∀ m:List al,ba (vm P m) k=(ba m k).map (val P)
 | []=>rfl
 | p::r=>by
  show ba ((p.1,val P p.2)::vm P r) k=_
  by_cases e:p.1=k
  ·rw [bK (p:=(p.1,val P p.2)) e,bK e]; rfl
  ·rw [bJ (p:=(p.1,val P p.2)) e,bJ e,lH P k r]
theorem aput_vm (P:Int) (m:List al) (k:List Int) (x:Int × Int):vm P (cq m k x)=cq (vm P m) k (val P x):=by
 unfold cq
 rw [lH]
 cases e:ba m k with
 | none=>
  show vm P (m++[(k,x)])=vm P m++[(k,val P x)]
  unfold vm; rw [map_append]; rfl
 | some y=>
  show vm P (m.map λp=>if p.1=k then (p.1,x) else p)=(vm P m).map λp=>if p.1=k then (p.1,val P x) else p
  unfold vm
  rw [map_map,map_map]
  apply map_congr_left
  intro p _
  show ((if p.1=k then (p.1,x) else p).1,val P (if p.1=k then (p.1,x) else p).2)=if p.1=k then (p.1,val P x) else (p.1,val P p.2)
  split<;>rfl
def TOk (P:Int) (z:Nat) (q:al):Prop:=0<q.2.2/\(P ≠ 0->q.2.2=1)/\Sz z q.2
theorem gstep_vm {P:Int} (hP:0<=P) {m:List al} {q:al} {y z:Nat} (hm:∀ p ∈ m,TOk P y p) (hq:TOk P z q):vm P (g6 m q)=bW P (vm P m) (q.1,val P q.2):=by
 unfold g6 bW
 rw [aput_vm]
 show _=cq (vm P m) q.1 (aU P ((ba (vm P m) q.1).getD (0,1)) (val P q.2))
 rw [lH]
 cases e:ba m q.1 with
 | none=>
  show cq (vm P m) q.1 (val P q.2)=cq (vm P m) q.1 (aU P (0,1) (val P q.2))
  rw [bM (val_ok hP hq.1)]
 | some x=>
  have hx:=hm _ (aV e)
  show cq (vm P m) q.1 (val P (fpl x q.2))=cq (vm P m) q.1 (aU P (val P x) (val P q.2))
  rw [val_fpl hP hx.1 hq.1 λh=>⟨hx.2.1 h,hq.2.1 h⟩]
theorem gath_ok {P:Int} {ts:List al} {z:Nat} (h:∀ q ∈ ts,TOk P z q):∀ i,i<=ts.length->∀ p ∈ bt (ts.take i),TOk P ((z+1)*i) p
 | 0,_,p,hp=>by simp [bt] at hp
 | i+1,hi,p,hp=>by
  obtain ⟨q,eq⟩:∃ q,ts[i]? = some q:=⟨_,getElem?_eq_getElem (by omega)⟩
  have hq:=h q (mem_of_getElem? eq)
  have ih:=gath_ok h i (by omega)
  have e1:(z+1)*(i+1)=(z+1)*i+z+1:=by rw [Nat.mul_add]; omega
  rw [cD eq] at hp
  rcases cL hp with w | w
  ·rw [w]
   cases e:ba (bt (ts.take i)) q.1 with
   | none=>exact ⟨hq.1,hq.2.1,hq.2.2.mono (by omega)⟩
   | some y=>
    have hy:=ih _ (aV e)
    refine ⟨kQ hy.1 hq.1,λh0=>?_,?_⟩
    ·show (fpl y q.2).2=1
     rw [kT (hy.2.1 h0) (hq.2.1 h0)]
    ·show Sz ((z+1)*(i+1)) (fpl y q.2)
     rw [e1]
     exact fpl_sz hy.1 hq.1 hy.2.2 hq.2.2
  ·obtain ⟨a,b,c⟩:=ih p w
   exact ⟨a,b,c.mono (by omega)⟩
theorem gath_vm {P:Int} (hP:0<=P) {ts:List al} {z:Nat} (h:∀ q ∈ ts,TOk P z q):∀ i,i<=ts.length->vm P (bt (ts.take i))=acc P (vm P (ts.take i))
 | 0,_=>by simp [bt,vm,acc]
 | i+1,hi=>by
  obtain ⟨q,eq⟩:∃ q,ts[i]? = some q:=⟨_,getElem?_eq_getElem (by omega)⟩
  rw [cD eq,gstep_vm hP (gath_ok h i (by omega)) (h q (mem_of_getElem? eq)),gath_vm hP h i (by omega)]
  have e:vm P (ts.take (i+1))=vm P (ts.take i)++[(q.1,val P q.2)]:=by
   unfold vm; rw [take_add_one,eq,map_append]; rfl
  rw [e,acc_snoc]
theorem gb (ts:List al):∀ i,(bt (ts.take i)).length<=i
 | 0=>by simp [bt]
 | i+1=>by
  cases e:ts[i]? with
  | none=>
   have h1:ts.take (i+1)=ts.take i:=by rw [take_add_one,e]; simp
   rw [h1]
   have:=gb ts i
   omega
  | some q=>
   rw [cD e]
   have h1:=gb ts i
   have h2:=aput_len (bt (ts.take i)) q.1 (match ba (bt (ts.take i)) q.1 with | some y=>fpl y q.2 | none=>q.2)
   unfold g6
   omega
theorem val_sz {P:Int} {x:Int × Int} {z:Nat} (hP:l7 P) (h:0<x.2) (hz:14<=z) (s:Sz z x):Sz z (val P x):=by
 have hB:=hP.b
 unfold val
 split
 ·exact lP (by omega) s.1 s.2
 ·exact kO hB.1 ‹_› hB.2.1 hz
def bx (a b:List Int):List Int:=List.zipWith (· + ·) a b
def kK (a:al) (ps:List al):List al:=ps.map λb=>(bx a.1 b.1,(a.2.1*b.2.1,a.2.2*b.2.2))
def gW (ps qs:List al):List al:=ps.flatMap λa=>kK a qs
def ji (P:Int) (a:al) (ps:List al):List al:=ps.map λb=>(bx a.1 b.1,bf P a.2 b.2)
def prods (P:Int) (ps qs:List al):List al:=ps.flatMap λa=>ji P a qs
theorem vm_trms (P:Int) (ps qs:List al):vm P (gW ps qs)=prods P ps qs:=by
 unfold vm gW prods
 rw [List.map_flatMap]
 congr 1
 funext a
 unfold kK ji
 rw [map_map]
 rfl
theorem i0 (ps qs:List al):(gW ps qs).length=ps.length*qs.length:=by
 unfold gW kK
 induction ps with
 | nil=>simp
 | cons a r ih=>
  rw [List.flatMap_cons,length_append,ih,length_map,length_cons,Nat.add_mul]
  omega
structure CS (R:Type) where
 add:R->R->R
 mul:R->R->R
 zero:R
 one:R
 add_comm:∀ x y,add x y=add y x
 add_assoc:∀ x y z,add (add x y) z=add x (add y z)
 zero_add:∀ x,add zero x=x
 mul_comm:∀ x y,mul x y=mul y x
 mul_assoc:∀ x y z,mul (mul x y) z=mul x (mul y z)
 one_mul:∀ x,mul one x=x
 zero_mul:∀ x,mul zero x=zero
 mul_add:∀ x y z,mul x (add y z)=add (mul x y) (mul x z)
namespace CS
variable {R:Type} (S:CS R)
def sum:List R->R:=List.foldr S.add S.zero
theorem add_zero (x:R):S.add x S.zero=x:=by rw [S.add_comm,S.zero_add]
theorem mul_zero (x:R):S.mul x S.zero=S.zero:=by rw [S.mul_comm,S.zero_mul]
theorem add_mul (x y z:R):S.mul (S.add x y) z=S.add (S.mul x z) (S.mul y z):=by rw [S.mul_comm,S.mul_add,S.mul_comm z,S.mul_comm z]
theorem add4 (a b c d:R):S.add (S.add a b) (S.add c d)=S.add (S.add a c) (S.add b d):=by
 rw [S.add_assoc,S.add_assoc,<- S.add_assoc b,S.add_comm b c,S.add_assoc c]
abbrev Po (R:Type):=List (List Int × R)
def ev (χ:List Int->R) (a:Po R):R:=S.sum (a.map λp=>S.mul p.2 (χ p.1))
theorem ev_cons (χ:List Int->R) (p:List Int × R) (a:Po R):S.ev χ (p::a)=S.add (S.mul p.2 (χ p.1)) (S.ev χ a):=rfl
theorem fu (χ:List Int->R):∀ a b:Po R,S.ev χ (a++b)=S.add (S.ev χ a) (S.ev χ b)
 | [],b=>(S.zero_add _).symm
 | p::a,b=>by rw [List.cons_append,ev_cons,ev_cons,fu χ a b,S.add_assoc]
theorem ev_congr {χ ψ:List Int->R}:∀ {a:Po R},(∀ p ∈ a,χ p.1=ψ p.1)->S.ev χ a=S.ev ψ a
 | [],_=>rfl
 | p::a,h=>by rw [ev_cons,ev_cons,h p (by simp),ev_congr λq hq=>h q (by simp [hq])]
theorem ev_zero:∀ a:Po R,S.ev (λ_=>S.zero) a=S.zero
 | []=>rfl
 | p::a=>by rw [ev_cons,S.mul_zero,S.zero_add,ev_zero a]
theorem ev_add (χ ψ:List Int->R):∀ a:Po R,S.ev (λl=>S.add (χ l) (ψ l)) a=S.add (S.ev χ a) (S.ev ψ a)
 | []=>(S.zero_add _).symm
 | p::a=>by rw [ev_cons,ev_cons,ev_cons,ev_add χ ψ a,S.mul_add,S.add4]
theorem ev_mul (c:R) (χ:List Int->R):∀ a:Po R,S.ev (λl=>S.mul c (χ l)) a=S.mul c (S.ev χ a)
 | []=>(S.mul_zero _).symm
 | p::a=>by rw [ev_cons,ev_cons,ev_mul c χ a,S.mul_add,<- S.mul_assoc,S.mul_comm p.2 c,S.mul_assoc]
theorem ev_swap (F:List Int->List Int->R) (b:Po R):∀ a:Po R,S.ev (λl=>S.ev (λm=>F l m) b) a=S.ev (λm=>S.ev (λl=>F l m) a) b
 | []=>(S.ev_zero b).symm
 | p::a=>by
  rw [ev_cons,ev_swap F b a,<- ev_mul,<- ev_add]
  rfl
def pr (a b:Po R):Po R:=a.flatMap λp=>b.map λq=>(bx p.1 q.1,S.mul p.2 q.2)
theorem ev_row (χ:List Int->R) (p:List Int × R):∀ b:Po R,S.ev χ (b.map λq=>(bx p.1 q.1,S.mul p.2 q.2))=S.mul p.2 (S.ev (λm=>χ (bx p.1 m)) b)
 | []=>(S.mul_zero _).symm
 | q::b=>by rw [map_cons,ev_cons,ev_row χ p b,ev_cons,S.mul_add,S.mul_assoc]
theorem ev_pr (χ:List Int->R) (b:Po R):∀ a:Po R,S.ev χ (S.pr a b)=S.ev (λl=>S.ev (λm=>χ (bx l m)) b) a
 | []=>rfl
 | p::a=>by
  show S.ev χ ((b.map λq=>(bx p.1 q.1,S.mul p.2 q.2))++S.pr a b)=_
  rw [fu,ev_row,ev_pr χ b a]
  rfl
def Eqv (a b:Po R):Prop:=∀ χ,S.ev χ a=S.ev χ b
theorem zadd_comm (a b:List Int):bx a b=bx b a:=by
 unfold bx
 rw [List.zipWith_comm]
 congr 1
 funext x y
 omega
theorem iE:∀ a b c:List Int,bx (bx a b) c=bx a (bx b c)
 | [],_,_=>by simp [bx]
 | _::_,[],_=>by simp [bx]
 | _::_,_::_,[]=>by simp [bx]
 | x::a,y::b,z::c=>by
  show (x+y+z)::bx (bx a b) c=(x+(y+z))::bx a (bx b c)
  rw [iE a b c]
  congr 1
  omega
theorem pr_comm (a b:Po R):S.Eqv (S.pr a b) (S.pr b a):=λχ=>by
 rw [ev_pr,ev_pr,ev_swap]
 congr 1
 funext m
 congr 1
 funext l
 rw [zadd_comm]
theorem pr_left {a a':Po R} (h:S.Eqv a a') (b:Po R):S.Eqv (S.pr a b) (S.pr a' b):=λχ=>by rw [ev_pr,ev_pr,h]
theorem pr_right (a:Po R) {b b':Po R} (h:S.Eqv b b'):S.Eqv (S.pr a b) (S.pr a b'):=λχ=>by
 rw [ev_pr,ev_pr]
 congr 1
 funext l
 exact h _
theorem pr_assoc (a b c:Po R):S.Eqv (S.pr (S.pr a b) c) (S.pr a (S.pr b c)):=λχ=>by
 rw [ev_pr,ev_pr,ev_pr]
 congr 1
 funext l
 rw [ev_pr]
 congr 1
 funext m
 congr 1
 funext k
 rw [iE]
theorem pr_append (a b c:Po R):S.pr (a++b) c=S.pr a c++S.pr b c:=by unfold pr; rw [flatMap_append]
theorem app_eqv {a a' b b':Po R} (h1:S.Eqv a a') (h2:S.Eqv b b'):S.Eqv (a++b) (a' ++ b'):=λχ=>by rw [fu,fu,h1,h2]
theorem ev_perm (χ:List Int->R) {a b:Po R} (h:a.Perm b):S.ev χ a=S.ev χ b:=by
 induction h with
 | nil=>rfl
 | cons p _ ih=>rw [ev_cons,ev_cons,ih]
 | swap p q l=>rw [ev_cons,ev_cons,ev_cons,ev_cons,<- S.add_assoc,<- S.add_assoc,S.add_comm (S.mul q.2 _)]
 | trans _ _ i1 i2=>exact i1.trans i2
end CS
theorem fO {a b c d:Int} (hb:b ≠ 0) (hd:d ≠ 0) (e:a*d=c*b):nrm a b=nrm c d:=by
 have e1:=dh a b hb
 have e2:=dh c d hd
 have key:(nrm a b).1*(nrm c d).2=(nrm c d).1*(nrm a b).2:=by
  generalize nrm a b=x at *
  generalize nrm c d=y at *
  obtain ⟨n1,m1⟩:=x
  obtain ⟨n2,m2⟩:=y
  simp only at *
  have hbd:b*d ≠ 0:=Int.mul_ne_zero hb hd
  apply Int.eq_of_mul_eq_mul_right hbd
  grind
 obtain ⟨p,q⟩:=low_one (bv a b hb) (bv c d hd) (bV a b hb) (bV c d hd) key
 exact Prod.ext p q
def Raw (P:Int) (x:Int × Int):Prop:=0<x.2/\(P ≠ 0->x.2=1)
theorem aE {P:Int} {x:Int × Int} (h:OkN P x):Raw P x:=by
 rcases h with ⟨h0,h1,_⟩ | ⟨h0,_,_,h3⟩
 ·exact ⟨h1,λz=>absurd h0 z⟩
 ·exact ⟨by omega,λ_=>h3⟩
theorem cK {P:Int} {x:Int × Int} (h:OkN P x):_root_.K.val P x=x:=by
 unfold _root_.K.val
 rcases h with ⟨h0,h1,h2⟩ | ⟨h0,h1,h2,h3⟩
 ·rw [if_pos h0]
  exact (dZ x.1 x.2 h1).mpr h2
 ·rw [if_neg h0,Int.emod_eq_of_lt h1 h2]
  exact Prod.ext rfl h3.symm
theorem cE {P:Int} {x y:Int × Int} (hx:Raw P x) (hy:Raw P y) (e:x.1*y.2=y.1*x.2):val P x=val P y:=by
 unfold val
 by_cases h0:P=0
 ·rw [if_pos h0,if_pos h0]
  exact fO (by have:=hx.1; omega) (by have:=hy.1; omega) e
 ·rw [if_neg h0,if_neg h0]
  rw [hx.2 h0,hy.2 h0,Int.mul_one,Int.mul_one] at e
  rw [e]
theorem iz {x:Int × Int} (hx:0<x.2):Raw 0 (nrm x.1 x.2)/\(nrm x.1 x.2).1*x.2=x.1*(nrm x.1 x.2).2:=⟨⟨bv _ _ (by omega),λz=>absurd rfl z⟩,dh _ _ (by omega)⟩
theorem ik {P:Int} {x y:Int × Int} (hx:Raw P x) (hy:Raw P y):aU P (val P x) (val P y)=val P (x.1*y.2+y.1*x.2,x.2*y.2):=by
 by_cases h0:P=0
 ·subst h0
  have e1:val 0 x=nrm x.1 x.2:=by unfold val; rw [if_pos rfl]
  have e2:val 0 y=nrm y.1 y.2:=by unfold val; rw [if_pos rfl]
  obtain ⟨a1,a2⟩:=iz hx.1
  obtain ⟨b1,b2⟩:=iz hy.1
  rw [e1,e2]
  unfold aU val
  rw [if_pos rfl,if_pos rfl]
  generalize nrm x.1 x.2=u at *
  generalize nrm y.1 y.2=v at *
  have:=Int.mul_pos a1.1 b1.1
  have:=Int.mul_pos hx.1 hy.1
  refine fO (by omega) (by omega) ?_
  grind
 ·unfold aU val
  rw [if_neg h0,if_neg h0,if_neg h0,if_neg h0]
  refine Prod.ext ?_ rfl
  show (x.1 % P+y.1 % P) % P=(x.1*y.2+y.1*x.2) % P
  rw [hx.2 h0,hy.2 h0,Int.mul_one,Int.mul_one,<- Int.add_emod]
theorem iw {P:Int} {x y:Int × Int} (hx:Raw P x) (hy:Raw P y):bf P (val P x) (val P y)=val P (x.1*y.1,x.2*y.2):=by
 by_cases h0:P=0
 ·subst h0
  have e1:val 0 x=nrm x.1 x.2:=by unfold val; rw [if_pos rfl]
  have e2:val 0 y=nrm y.1 y.2:=by unfold val; rw [if_pos rfl]
  obtain ⟨a1,a2⟩:=iz hx.1
  obtain ⟨b1,b2⟩:=iz hy.1
  rw [e1,e2]
  unfold bf val
  rw [if_pos rfl,if_pos rfl]
  generalize nrm x.1 x.2=u at *
  generalize nrm y.1 y.2=v at *
  have:=Int.mul_pos a1.1 b1.1
  have:=Int.mul_pos hx.1 hy.1
  refine fO (by omega) (by omega) ?_
  grind
 ·unfold bf val
  rw [if_neg h0,if_neg h0,if_neg h0,if_neg h0]
  refine Prod.ext ?_ rfl
  show (x.1 % P*(y.1 % P)) % P=(x.1*y.1) % P
  rw [<- Int.mul_emod]
theorem cR {P:Int} {x y:Int × Int} (hx:Raw P x) (hy:Raw P y):Raw P (x.1*y.2+y.1*x.2,x.2*y.2):=
 ⟨Int.mul_pos hx.1 hy.1,λh=>by show x.2*y.2=1; rw [hx.2 h,hy.2 h]; rfl⟩
theorem bT {P:Int} {x y:Int × Int} (hx:Raw P x) (hy:Raw P y):Raw P (x.1*y.1,x.2*y.2):=
 ⟨Int.mul_pos hx.1 hy.1,λh=>by show x.2*y.2=1; rw [hx.2 h,hy.2 h]; rfl⟩
abbrev Nb (P:Int):={ x:Int × Int // OkN P x }
theorem okN_1 {P:Int} (hP:l7 P):OkN P (1,1):=by
 have hB:=hP.b
 by_cases h0:P=0
 ·exact .inl ⟨h0,by decide,rfl⟩
 ·exact .inr ⟨h0,by decide,by show (1:Int)<P; omega,rfl⟩
theorem eX {P:Int} {x y:Int × Int} (hx:OkN P x) (hy:OkN P y):aU P x y=val P (x.1*y.2+y.1*x.2,x.2*y.2):=by
 have:=ik (aE hx) (aE hy)
 rwa [cK hx,cK hy] at this
theorem bX {P:Int} {x y:Int × Int} (hx:OkN P x) (hy:OkN P y):bf P x y=val P (x.1*y.1,x.2*y.2):=by
 have:=iw (aE hx) (aE hy)
 rwa [cK hx,cK hy] at this
def nb {P:Int} (hP:l7 P):CS (Nb P) where
 add x y:=⟨aU P x.1 y.1,lJ hP.b.1 x.2 y.2⟩
 mul x y:=⟨bf P x.1 y.1,iC hP.b.1 x.2 y.2⟩
 zero:=⟨(0,1),ce hP.b.1 hP.b.2.2⟩
 one:=⟨(1,1),okN_1 hP⟩
 add_comm x y:=Subtype.ext (by
  show aU P x.1 y.1=aU P y.1 x.1
  rw [eX x.2 y.2,eX y.2 x.2]
  exact cE (cR (aE x.2) (aE y.2)) (cR (aE y.2) (aE x.2)) (by dsimp only; grind))
 add_assoc x y z:=Subtype.ext (by
  show aU P (aU P x.1 y.1) z.1=aU P x.1 (aU P y.1 z.1)
  have e1:=eX x.2 y.2
  have e2:=eX y.2 z.2
  have a:=cR (aE x.2) (aE y.2)
  have b:=cR (aE y.2) (aE z.2)
  have f1:=ik a (aE z.2)
  have f2:=ik (aE x.2) b
  rw [<- e1,cK z.2] at f1
  rw [<- e2,cK x.2] at f2
  rw [f1,f2]
  exact cE (cR a (aE z.2)) (cR (aE x.2) b) (by dsimp only; grind))
 zero_add x:=Subtype.ext (bM x.2)
 mul_comm x y:=Subtype.ext (by
  show bf P x.1 y.1=bf P y.1 x.1
  rw [bX x.2 y.2,bX y.2 x.2]
  exact cE (bT (aE x.2) (aE y.2)) (bT (aE y.2) (aE x.2)) (by dsimp only; grind))
 mul_assoc x y z:=Subtype.ext (by
  show bf P (bf P x.1 y.1) z.1=bf P x.1 (bf P y.1 z.1)
  have e1:=bX x.2 y.2
  have e2:=bX y.2 z.2
  have a:=bT (aE x.2) (aE y.2)
  have b:=bT (aE y.2) (aE z.2)
  have f1:=iw a (aE z.2)
  have f2:=iw (aE x.2) b
  rw [<- e1,cK z.2] at f1
  rw [<- e2,cK x.2] at f2
  rw [f1,f2]
  exact cE (bT a (aE z.2)) (bT (aE x.2) b) (by dsimp only; grind))
 one_mul x:=Subtype.ext (by
  show bf P (1,1) x.1=x.1
  rw [bX (okN_1 hP) x.2]
  show val P (1*x.1.1,1*x.1.2)=x.1
  rw [Int.one_mul,Int.one_mul]
  exact cK x.2)
 zero_mul x:=Subtype.ext (by
  show bf P (0,1) x.1=(0,1)
  have hz:OkN P (0,1):=ce hP.b.1 hP.b.2.2
  rw [bX hz x.2]
  refine (cE (bT (aE hz) (aE x.2)) (aE hz) ?_).trans (cK hz)
  dsimp only
  grind)
 mul_add x y z:=Subtype.ext (by
  show bf P x.1 (aU P y.1 z.1)=aU P (bf P x.1 y.1) (bf P x.1 z.1)
  have a:=cR (aE y.2) (aE z.2)
  have b:=bT (aE x.2) (aE y.2)
  have d:=bT (aE x.2) (aE z.2)
  have f1:=iw (aE x.2) a
  have f2:=ik b d
  rw [<- eX y.2 z.2,cK x.2] at f1
  rw [<- bX x.2 y.2,<- bX x.2 z.2] at f2
  rw [f1,f2]
  exact cE (bT (aE x.2) a) (cR b d) (by dsimp only; grind))
def dn {P:Int} (a:CS.Po (Nb P)):List al:=a.map λq=>(q.1,q.2.1)
theorem dn_app {P:Int} (a b:CS.Po (Nb P)):dn (a++b)=dn a++dn b:=map_append
theorem dn_ok {P:Int} {a:CS.Po (Nb P)}:∀ p ∈ dn a,OkN P p.2:=λp hp=>by
 obtain ⟨q,_,rfl⟩:=List.mem_map.mp hp
 exact q.2.2
theorem iF {P:Int}:∀ {ps:List al},(∀ p ∈ ps,OkN P p.2)->∃ a:CS.Po (Nb P),dn a=ps
 | [],_=>⟨[],rfl⟩
 | p::ps,h=>by
  obtain ⟨a,e⟩:=iF (ps:=ps) λq hq=>h q (by simp [hq])
  exact ⟨(p.1,⟨p.2,h p (by simp)⟩)::a,congrArg (p :: ·) e⟩
theorem dn_inj {P:Int}:∀ {a b:CS.Po (Nb P)},dn a=dn b->a=b
 | [],[],_=>rfl
 | [],_::_,h=>by cases h
 | _::_,[],h=>by cases h
 | p::a,q::b,h=>by
  have h1:((p.1,p.2.1):al)=(q.1,q.2.1):=(List.cons.inj h).1
  have h2:=dn_inj (a:=a) (b:=b) (List.cons.inj h).2
  have h3:p.1=q.1:=congrArg (λz:al=>z.1) h1
  have h4:p.2=q.2:=Subtype.ext (congrArg (λz:al=>z.2) h1)
  rw [h2,show p=q from Prod.ext h3 h4]
theorem kq {P:Int} (hP:l7 P) (a b:CS.Po (Nb P)):dn ((nb hP).pr a b)=prods P (dn a) (dn b):=by
 unfold dn CS.pr prods ji
 rw [List.map_flatMap,List.flatMap_map]
 congr 1
 funext p
 rw [map_map,map_map]
 rfl
def stp {P:Int} (hP:l7 P):CS.Po (Nb P)->List Int × Nb P->CS.Po (Nb P)
 | [],p=>[p]
 | q::m,p=>if q.1=p.1 then (q.1,(nb hP).add q.2 p.2)::m else q::stp hP m p
section
variable {P:Int} (hP:l7 P)
theorem ev_stp (χ:List Int->Nb P) (p:List Int × Nb P):∀ m,(nb hP).ev χ (stp hP m p)=(nb hP).add ((nb hP).ev χ m) ((nb hP).mul p.2 (χ p.1))
 | []=>by
  show (nb hP).add _ (nb hP).zero=(nb hP).add (nb hP).zero _
  rw [(nb hP).add_comm]
 | q::m=>by
  unfold stp
  split
  ·rename_i e
   rw [CS.ev_cons,CS.ev_cons,CS.add_mul,e,(nb hP).add_assoc,(nb hP).add_assoc,(nb hP).add_comm _ ((nb hP).mul p.2 _)]
  ·rw [CS.ev_cons,CS.ev_cons,ev_stp χ p m,(nb hP).add_assoc]
theorem dn_stp (p:List Int × Nb P):∀ m,((dn m).map (·.1)).Nodup->dn (stp hP m p)=bW P (dn m) (p.1,p.2.1)
 | [],_=>by
  show [(p.1,p.2.1)]=[(p.1,aU P (0,1) p.2.1)]
  rw [bM p.2.2]
 | q::m,h=>by
  have h':(q.1::(dn m).map (·.1)).Nodup:=h
  obtain ⟨h1,h2⟩:=List.nodup_cons.mp h'
  unfold stp
  split
  ·rename_i e
   show (q.1,aU P q.2.1 p.2.1)::dn m=cq ((q.1,q.2.1)::dn m) p.1 (aU P ((ba ((q.1,q.2.1)::dn m) p.1).getD (0,1)) p.2.1)
   rw [bK (p:=(q.1,q.2.1)) e]
   unfold cq
   rw [bK (p:=(q.1,q.2.1)) e,if_pos (by rfl),map_cons,if_pos e]
   congr 1
   refine ((map_congr_left λr hr=>?_).trans (List.map_id _)).symm
   rw [if_neg λz=>h1 (by rw [e,<- z]; exact List.mem_map.mpr ⟨r,hr,rfl⟩)]
   rfl
  ·rename_i e
   have ih:=dn_stp p m h2
   unfold bW at ih
   show (q.1,q.2.1)::dn (stp hP m p)=cq ((q.1,q.2.1)::dn m) p.1 (aU P ((ba ((q.1,q.2.1)::dn m) p.1).getD (0,1)) p.2.1)
   rw [ih,bJ (p:=(q.1,q.2.1)) e]
   unfold cq
   rw [bJ (p:=(q.1,q.2.1)) e]
   split
   ·rw [map_cons,if_neg e]
   ·rfl
theorem acc_ev:∀ (a m:CS.Po (Nb P)),((dn m).map (·.1)).Nodup->∃ m':CS.Po (Nb P),dn m'=(dn a).foldl (bW P) (dn m)/\∀ χ,(nb hP).ev χ m'=(nb hP).add ((nb hP).ev χ m) ((nb hP).ev χ a)
 | [],m,_=>⟨m,rfl,λχ=>(CS.add_zero _ _).symm⟩
 | p::a,m,h=>by
  have e:=dn_stp hP p m h
  obtain ⟨m',e1,e2⟩:=acc_ev a (stp hP m p) (by rw [e]; exact iO h)
  refine ⟨m',?_,λχ=>?_⟩
  ·rw [e1,e]
   rfl
  ·rw [e2,ev_stp,CS.ev_cons,(nb hP).add_assoc]
theorem perm_up {P:Int} {xs ys:List al} (h:xs.Perm ys):∀ f:CS.Po (Nb P),dn f=ys->∃ g:CS.Po (Nb P),g.Perm f/\dn g=xs:=by
 induction h with
 | nil=>intro f e; exact ⟨f,.refl _,e⟩
 | cons x _ ih=>
  intro f e
  match f,e with
  | p::f,e=>
   obtain ⟨g,pg,eg⟩:=ih f (List.cons.inj e).2
   exact ⟨p::g,pg.cons _,by rw [<- eg,<- (List.cons.inj e).1]; rfl⟩
 | swap x y l=>
  intro f e
  match f,e with
  | p::q::f,e=>exact ⟨q::p::f,.swap _ _ _,by
    have e1:=(List.cons.inj e).1
    have e2:=(List.cons.inj (List.cons.inj e).2).1
    have e3:=(List.cons.inj (List.cons.inj e).2).2
    rw [<- e1,<- e2,<- e3]
    rfl⟩
 | trans _ _ i1 i2=>
  intro f e
  obtain ⟨g,pg,eg⟩:=i2 f e
  obtain ⟨g',pg',eg'⟩:=i1 g eg
  exact ⟨g',pg'.trans pg,eg'⟩
theorem kE (χ:List Int->Nb P):∀ m:CS.Po (Nb P),(nb hP).ev χ (m.filter λq=>nz (q.1,q.2.1))=(nb hP).ev χ m/\dn (m.filter λq=>nz (q.1,q.2.1))=(dn m).filter nz
 | []=>⟨rfl,rfl⟩
 | q::m=>by
  obtain ⟨i1,i2⟩:=kE χ m
  show _/\_=((q.1,q.2.1)::dn m).filter nz
  by_cases e:nz (q.1,q.2.1)=true
  ·rw [List.filter_cons_of_pos (by exact e),List.filter_cons_of_pos (by exact e),CS.ev_cons,CS.ev_cons,i1,<- i2]
   exact ⟨rfl,rfl⟩
  ·rw [List.filter_cons_of_neg (by exact e),List.filter_cons_of_neg (by exact e),CS.ev_cons,i1,i2]
   refine ⟨?_,rfl⟩
   have z:q.2=(nb hP).zero:=Subtype.ext (by
    unfold nz at e
    exact Decidable.of_not_not λy=>e (decide_eq_true y))
   rw [z,(nb hP).zero_mul,(nb hP).zero_add]
theorem lL {a o:CS.Po (Nb P)} (h:mh P (dn a) (dn o)):(nb hP).Eqv o a:=λχ=>by
 obtain ⟨m,e1,e2⟩:=acc_ev hP a [] (by simp [dn])
 obtain ⟨f1,f2⟩:=kE hP χ m
 have p:=h.1
 rw [show acc P (dn a)=dn m from e1.symm,<- f2] at p
 obtain ⟨g,pg,eg⟩:=perm_up p _ rfl
 rw [<- dn_inj eg,CS.ev_perm _ χ pg,f1,e2 χ]
 exact (nb hP).zero_add _
def dlt (k l:List Int):Nb P:=if l=k then (nb hP).one else (nb hP).zero
theorem co_ev (k:List Int):∀ {o:CS.Po (Nb P)},((dn o).map (·.1)).Nodup->co (dn o) k=((nb hP).ev (dlt hP k) o).1
 | [],_=>rfl
 | q::o,h=>by
  have h':(q.1::(dn o).map (·.1)).Nodup:=h
  obtain ⟨h1,h2⟩:=List.nodup_cons.mp h'
  have ih:=co_ev k h2
  show co ((q.1,q.2.1)::dn o) k=_
  rw [CS.ev_cons]
  by_cases e:q.1=k
  ·rw [co_pos (p:=(q.1,q.2.1)) e]
   have z:(nb hP).ev (dlt hP k) o=(nb hP).zero:=Subtype.ext (by
    rw [<- ih]
    exact co_none (by rw [<- e]; exact h1))
   rw [z,CS.add_zero]
   unfold dlt
   rw [if_pos e,(nb hP).mul_comm,(nb hP).one_mul]
  ·rw [co_neg (p:=(q.1,q.2.1)) e,ih]
   unfold dlt
   rw [if_neg e,CS.mul_zero,(nb hP).zero_add]
theorem i6 {a b:CS.Po (Nb P)} {x y:List al} (h1:mh P (dn a) x) (h2:mh P (dn b) y) (e:(nb hP).Eqv a b):x=y:=by
 have hB:=hP.b
 have up:∀ {a:CS.Po (Nb P)} {x:List al},mh P (dn a) x->∃ o,dn o=x:=λh=>iF λp hp=>dA hB.1 hB.2.2 dn_ok p (h.mem p hp)
 obtain ⟨o1,rfl⟩:=up h1
 obtain ⟨o2,rfl⟩:=up h2
 refine sum_ext h1.2 h2.2 h1.nz h2.nz λk=>?_
 rw [co_ev hP k (bR h1.2),co_ev hP k (bR h2.2),lL hP h1,lL hP h2,e]
end
def Rw (B M:Nat) (x:Int × Int):Prop:=0<x.2/\x.2.natAbs ∣ B/\x.1.natAbs<=M*x.2.natAbs
theorem Rw.mono {B C M N:Nat} {x:Int × Int} (h:Rw B M x) (h1:B ∣ C) (h2:M<=N):Rw C N x:=
 ⟨h.1,Nat.dvd_trans h.2.1 h1,Nat.le_trans h.2.2 (Nat.mul_le_mul_right _ h2)⟩
theorem Rw.sz {B M z:Nat} {x:Int × Int} (h:Rw B M x) (hB:0<B) (hM:1<=M) (hz:M*B<2 ^ z):Sz z x:=by
 have h1:x.2.natAbs<=B:=Nat.le_of_dvd hB h.2.1
 have h2:M*x.2.natAbs<=M*B:=Nat.mul_le_mul_left _ h1
 have h3:B<=M*B:=Nat.le_mul_of_pos_left _ hM
 exact ⟨Nat.lt_of_le_of_lt (Nat.le_trans h.2.2 h2) hz,by omega⟩
theorem dvd_cop {n d b a:Int} (hg:Int.gcd n d=1) (e:n*b=a*d):d.natAbs ∣ b.natAbs:=by
 have h1:d.natAbs ∣ n.natAbs*b.natAbs:=by
  rw [<- Int.natAbs_mul,e,Int.natAbs_mul]
  exact Nat.dvd_mul_left _ _
 exact Nat.Coprime.dvd_of_dvd_mul_left (Nat.Coprime.symm (show Nat.gcd n.natAbs d.natAbs=1 from hg)) h1
theorem rw_low {B M:Nat} {a b:Int} {u:Int × Int} (hb:0<b) (hd:0<u.2) (hg:Int.gcd u.1 u.2=1) (e:u.1*b=a*u.2) (hB:∃ c:Int,u.1*B=c*u.2) (ha:a.natAbs<=M*b.natAbs):Rw B M u:=by
 obtain ⟨c,hc⟩:=hB
 refine ⟨hd,by simpa using dvd_cop hg hc,?_⟩
 have e1:u.1.natAbs*b.natAbs=a.natAbs*u.2.natAbs:=by rw [<- Int.natAbs_mul,e,Int.natAbs_mul]
 have hb':0<b.natAbs:=by omega
 refine Nat.le_of_mul_le_mul_right (c:=b.natAbs) ?_ hb'
 rw [e1]
 calc a.natAbs*u.2.natAbs<=M*b.natAbs*u.2.natAbs:=Nat.mul_le_mul_right _ ha
  _=M*u.2.natAbs*b.natAbs:=by ac_rfl
theorem rw_nrm {B M:Nat} {x:Int × Int} (h:Rw B M x):Rw B M (nrm x.1 x.2):=by
 have h0:=h.1
 have hb:x.2 ≠ 0:=by omega
 have e:=dh x.1 x.2 hb
 obtain ⟨k,hk⟩:=h.2.1
 refine rw_low (a:=x.1) (b:=x.2) h0 (bv _ _ hb) (bV _ _ hb) e ⟨x.1*k,?_⟩ h.2.2
 have hB:(B:Int)=x.2*k:=by rw [hk]; rw [Int.natCast_mul,Int.natAbs_of_nonneg (by omega)]
 rw [hB]
 generalize nrm x.1 x.2=u at *
 have f1:u.1*(x.2*k)=u.1*x.2*k:=by ac_rfl
 have f2:x.1*u.2*k=x.1*k*u.2:=by ac_rfl
 rw [f1,e,f2]
theorem rw_key {u v a b c d k l B:Int} (e:u*(b*d)=(a*d+c*b)*v) (h1:B=b*k) (h2:B=d*l):u*B*(b*d)=(a*k+c*l)*v*(b*d):=by
 have f1:u*B*(b*d)=(u*(b*d))*B:=by ac_rfl
 have f2:(a*d+c*b)*v*B=a*d*v*B+c*b*v*B:=by rw [Int.add_mul,Int.add_mul]
 have f3:a*d*v*B=a*k*(v*(b*d)):=by rw [h1]; ac_rfl
 have f4:c*b*v*B=c*l*(v*(b*d)):=by rw [h2]; ac_rfl
 rw [f1,e,f2,f3,f4,<- Int.add_mul,Int.mul_assoc]
theorem rw_mod {B M:Nat} {P a:Int} (hP:0<=P) (h0:P ≠ 0) (h9:P<=9973) (hM:2 ^ 14<=M):Rw B M (a % P,1):=by
 refine ⟨Int.one_pos,Nat.one_dvd _,?_⟩
 have h1:=Int.emod_nonneg a h0
 have h2:=Int.emod_lt_of_pos a (show 0<P by omega)
 show (a % P).natAbs<=M*1
 have:(2:Nat) ^ 14=16384:=rfl
 omega
theorem rw_addN {P:Int} {B M N:Nat} {x y:Int × Int} (hP:l7 P) (hM:2 ^ 14<=M) (hx:Rw B M x) (hy:Rw B N y):Rw B (M+N) (aU P x y):=by
 have hB:=hP.b
 unfold aU
 split
 ·have px:=hx.1
  have py:=hy.1
  have pd:=Int.mul_pos px py
  have hb:x.2*y.2 ≠ 0:=by omega
  have e:=dh (x.1*y.2+y.1*x.2) (x.2*y.2) hb
  obtain ⟨k,hk⟩:=hx.2.1
  obtain ⟨l,hl⟩:=hy.2.1
  have h1:(B:Int)=x.2*k:=by rw [hk]; rw [Int.natCast_mul,Int.natAbs_of_nonneg (by omega)]
  have h2:(B:Int)=y.2*l:=by rw [hl]; rw [Int.natCast_mul,Int.natAbs_of_nonneg (by omega)]
  refine rw_low pd (bv _ _ hb) (bV _ _ hb) e ⟨x.1*k+y.1*l,?_⟩ ?_
  ·generalize nrm (x.1*y.2+y.1*x.2) (x.2*y.2)=u at *
   exact Int.eq_of_mul_eq_mul_right hb (rw_key e h1 h2)
  ·rw [Int.natAbs_mul]
   calc (x.1*y.2+y.1*x.2).natAbs<=(x.1*y.2).natAbs+(y.1*x.2).natAbs:=Int.natAbs_add_le _ _
    _=x.1.natAbs*y.2.natAbs+y.1.natAbs*x.2.natAbs:=by rw [Int.natAbs_mul,Int.natAbs_mul]
    _<=M*x.2.natAbs*y.2.natAbs+N*y.2.natAbs*x.2.natAbs:=Nat.add_le_add (Nat.mul_le_mul_right _ hx.2.2) (Nat.mul_le_mul_right _ hy.2.2)
    _=(M+N)*(x.2.natAbs*y.2.natAbs):=by rw [Nat.add_mul]; congr 1<;>ac_rfl
 ·exact rw_mod hB.1 ‹_› hB.2.1 (by omega)
theorem rw_raw {B C M N:Nat} {x y:Int × Int} (hx:Rw B M x) (hy:Rw C N y):Rw (B*C) (M*N) (x.1*y.1,x.2*y.2):=by
 refine ⟨Int.mul_pos hx.1 hy.1,?_,?_⟩
 ·show (x.2*y.2).natAbs ∣ B*C
  rw [Int.natAbs_mul]
  exact Nat.mul_dvd_mul hx.2.1 hy.2.1
 ·show (x.1*y.1).natAbs<=M*N*(x.2*y.2).natAbs
  rw [Int.natAbs_mul,Int.natAbs_mul]
  calc x.1.natAbs*y.1.natAbs<=(M*x.2.natAbs)*(N*y.2.natAbs):=Nat.mul_le_mul hx.2.2 hy.2.2
   _=M*N*(x.2.natAbs*y.2.natAbs):=by ac_rfl
theorem lD {P:Int} {B C M N:Nat} {x y:Int × Int} (hP:l7 P) (hM:2 ^ 14<=M*N) (hx:Rw B M x) (hy:Rw C N y):Rw (B*C) (M*N) (bf P x y):=by
 have hB:=hP.b
 unfold bf
 split
 ·exact rw_nrm (rw_raw hx hy)
 ·exact rw_mod hB.1 ‹_› hB.2.1 hM
theorem rw_fpl {B M N:Nat} {a b:Int × Int} (ha:Rw B M a) (hb:Rw B N b):Rw B (M+N) (fpl a b):=by
 have pa:=ha.1
 have pb:=hb.1
 have pf:=kQ pa pb
 have fe:=fpl_eq pa pb
 refine ⟨pf,?_,?_⟩
 ·unfold fpl
  split
  ·exact ha.2.1
  ·show (a.2*b.2.fdiv (Int.gcd a.2 b.2:Int)).natAbs ∣ B
   obtain ⟨e1,e2,hg,u0,v0⟩:=eR pa pb
   have el:a.2.natAbs*(b.2.fdiv (Int.gcd a.2 b.2:Int)).natAbs=Nat.lcm a.2.natAbs b.2.natAbs:=by
    unfold Nat.lcm
    have e3:b.2.natAbs=Int.gcd a.2 b.2*(b.2.fdiv (Int.gcd a.2 b.2:Int)).natAbs:=by
     conv=>lhs; rw [e2]
     rw [Int.natAbs_mul]
     rfl
    rw [e3,show Nat.gcd a.2.natAbs (Int.gcd a.2 b.2*(b.2.fdiv (Int.gcd a.2 b.2:Int)).natAbs)=Int.gcd a.2 b.2 by rw [<- e3]; rfl]
    refine (Nat.div_eq_of_eq_mul_right (by omega) ?_).symm
    ac_rfl
   rw [Int.natAbs_mul,el]
   exact Nat.lcm_dvd ha.2.1 hb.2.1
 ·have hab:0<(a.2*b.2).natAbs:=by have:=Int.mul_pos pa pb; omega
  refine Nat.le_of_mul_le_mul_right (c:=(a.2*b.2).natAbs) ?_ hab
  rw [<- Int.natAbs_mul,fe,Int.natAbs_mul]
  have h1:(a.1*b.2+b.1*a.2).natAbs<=(M+N)*(a.2*b.2).natAbs:=by
   rw [Int.natAbs_mul]
   calc (a.1*b.2+b.1*a.2).natAbs<=(a.1*b.2).natAbs+(b.1*a.2).natAbs:=Int.natAbs_add_le _ _
    _=a.1.natAbs*b.2.natAbs+b.1.natAbs*a.2.natAbs:=by rw [Int.natAbs_mul,Int.natAbs_mul]
    _<=M*a.2.natAbs*b.2.natAbs+N*b.2.natAbs*a.2.natAbs:=Nat.add_le_add (Nat.mul_le_mul_right _ ha.2.2) (Nat.mul_le_mul_right _ hb.2.2)
    _=(M+N)*(a.2.natAbs*b.2.natAbs):=by rw [Nat.add_mul]; congr 1<;>ac_rfl
  calc (a.1*b.2+b.1*a.2).natAbs*(fpl a b).2.natAbs<=(M+N)*(a.2*b.2).natAbs*(fpl a b).2.natAbs:=Nat.mul_le_mul_right _ h1
   _=(M+N)*(fpl a b).2.natAbs*(a.2*b.2).natAbs:=by ac_rfl
theorem kX {P:Int} {B M:Nat} (hP:l7 P) (hM:2 ^ 14<=M) {ps:List al} (h:∀ p ∈ ps,OkN P p.2/\Rw B M p.2):∀ i,i<=ps.length->∀ p ∈ acc P (ps.take i),Rw B (i*M) p.2
 | 0,_,p,hp=>by simp [acc] at hp
 | i+1,hi,p,hp=>by
  obtain ⟨q,eq⟩:∃ q,ps[i]? = some q:=⟨_,getElem?_eq_getElem (by omega)⟩
  obtain ⟨oq,rq⟩:=h q (mem_of_getElem? eq)
  have ih:=kX hP hM h i (by omega)
  have e1:(i+1)*M=i*M+M:=by rw [Nat.add_mul,Nat.one_mul]
  rw [e1]
  rw [eA eq] at hp
  rcases cL hp with w | w
  ·rw [w]
   cases e:ba (acc P (ps.take i)) q.1 with
   | none=>
    show Rw B (i*M+M) (aU P (0,1) q.2)
    rw [bM oq]
    exact rq.mono (Nat.dvd_refl _) (by omega)
   | some y=>
    show Rw B (i*M+M) (aU P y q.2)
    have hy:=ih _ (aV e)
    have hi0:1<=i:=by
     rcases Nat.eq_zero_or_pos i with z | z
     ·subst z; simp [acc,ba] at e
     ·exact z
    exact rw_addN hP (Nat.le_trans hM (Nat.le_mul_of_pos_left _ hi0)) hy rq
  ·exact (ih p w).mono (Nat.dvd_refl _) (by omega)
theorem gath_rw {B M:Nat} {ts:List al} (h:∀ q ∈ ts,Rw B M q.2):∀ i,i<=ts.length->∀ p ∈ bt (ts.take i),Rw B (i*M) p.2
 | 0,_,p,hp=>by simp [bt] at hp
 | i+1,hi,p,hp=>by
  obtain ⟨q,eq⟩:∃ q,ts[i]? = some q:=⟨_,getElem?_eq_getElem (by omega)⟩
  have rq:=h q (mem_of_getElem? eq)
  have ih:=gath_rw h i (by omega)
  have e1:(i+1)*M=i*M+M:=by rw [Nat.add_mul,Nat.one_mul]
  rw [e1]
  rw [cD eq] at hp
  rcases cL hp with w | w
  ·rw [w]
   cases e:ba (bt (ts.take i)) q.1 with
   | none=>exact rq.mono (Nat.dvd_refl _) (by omega)
   | some y=>exact rw_fpl (ih _ (aV e)) rq
  ·exact (ih p w).mono (Nat.dvd_refl _) (by omega)
def CanR (P L:Int) (B M:Nat) (ps:List al):Prop:=ps.Pairwise fallK/\∀ p ∈ ps,OkN P p.2/\Rw B M p.2/\nz p=true/\(p.1.length:Int)=L/\∀ e ∈ p.1,0<=e
theorem CanR.mono {P L:Int} {B C M N:Nat} {ps:List al} (h:CanR P L B M ps) (h1:B ∣ C) (h2:M<=N):CanR P L C N ps:=⟨h.1,λp hp=>⟨(h.2 p hp).1,(h.2 p hp).2.1.mono h1 h2,(h.2 p hp).2.2⟩⟩
theorem js {P L:Int} (hP:l7 P) {B M n:Nat} {ps out:List al} (hM:2 ^ 14<=M) (hl:ps.length<=n) (h:∀ p ∈ ps,OkN P p.2/\Rw B M p.2/\(p.1.length:Int)=L/\∀ e ∈ p.1,0<=e) (hs:mh P ps out):CanR P L B (n*M) out/\out.length<=n:=by
 have hB:=hP.b
 have okm:∀ q ∈ acc P ps,OkN P q.2:=dA hB.1 hB.2.2 λq hq=>(h q hq).1
 have szm:∀ q ∈ acc P ps,Rw B (n*M) q.2:=λq hq=>by
  have hq':q ∈ acc P (ps.take ps.length):=by rw [take_length]; exact hq
  exact (kX hP hM (λp hp=>⟨(h p hp).1,(h p hp).2.1⟩) ps.length (Nat.le_refl _) q hq').mono (Nat.dvd_refl _) (Nat.mul_le_mul_right _ hl)
 refine ⟨⟨hs.2,λq hq=>⟨okm q (hs.mem q hq),szm q (hs.mem q hq),hs.nz q hq,?_⟩⟩,?_⟩
 ·obtain ⟨r,hr,e⟩:=iQ q (hs.mem q hq)
  rw [<- e]
  exact (h r hr).2.2
 ·have e1:=hs.1.length_eq
  have e2:=List.length_filter_le _root_.K.nz (acc P ps)
  have e3:=gf P ps
  omega
theorem rw_list {P:Int} {z:Nat}:∀ {ps:List al},(∀ p ∈ ps,OkN P p.2/\Sz z p.2)->∃ B,0<B/\B<=2 ^ (z*ps.length)/\∀ p ∈ ps,Rw B (2 ^ z) p.2
 | [],_=>⟨1,by decide,by simp,λp hp=>nomatch hp⟩
 | p::ps,h=>by
  obtain ⟨B,h1,h2,h3⟩:=rw_list (ps:=ps) λq hq=>h q (by simp [hq])
  obtain ⟨op,sp⟩:=h p (by simp)
  have dp:=op.den
  refine ⟨p.2.2.natAbs*B,Nat.mul_pos (by omega) h1,?_,λq hq=>?_⟩
  ·rw [length_cons,Nat.mul_add,Nat.mul_one,Nat.add_comm,Nat.pow_add]
   exact Nat.mul_le_mul (Nat.le_of_lt sp.2) h2
  ·rcases List.mem_cons.mp hq with rfl | hq
   ·refine ⟨dp,Nat.dvd_mul_right _ _,Nat.le_trans (Nat.le_of_lt sp.1) (Nat.le_mul_of_pos_right _ (by omega))⟩
   ·exact (h3 q hq).mono (Nat.dvd_mul_left _ _) (Nat.le_refl _)
theorem prods_rw {P L:Int} (hP:l7 P) {B C M N:Nat} {a b:List al} (hM:2 ^ 14<=M*N) (ha:CanR P L B M a) (hb:CanR P L C N b):∀ p ∈ prods P a b,OkN P p.2/\Rw (B*C) (M*N) p.2/\(p.1.length:Int)=L/\∀ e ∈ p.1,0<=e:=λp hp=>by
 obtain ⟨x,hx,hy⟩:=List.mem_flatMap.mp hp
 obtain ⟨y,my,rfl⟩:=List.mem_map.mp hy
 obtain ⟨ox,rx,_,lx,px⟩:=ha.2 x hx
 obtain ⟨oy,ry,_,ly,py⟩:=hb.2 y my
 refine ⟨iC hP.b.1 ox oy,lD hP hM rx ry,?_,λe he=>?_⟩
 ·show ((bx x.1 y.1).length:Int)=L
  unfold bx
  rw [length_zipWith]
  omega
 ·have he:e ∈ List.zipWith (· + ·) x.1 y.1:=he
  obtain ⟨i,hi,rfl⟩:=List.mem_iff_getElem.mp he
  rw [List.getElem_zipWith]
  have h1:=px _ (getElem_mem (l:=x.1) (n:=i) (by rw [length_zipWith] at hi; omega))
  have h2:=py _ (getElem_mem (l:=y.1) (n:=i) (by rw [length_zipWith] at hi; omega))
  omega
theorem trms_rw {P L:Int} {B C M N:Nat} {a b:List al} (ha:CanR P L B M a) (hb:CanR P L C N b):∀ q ∈ gW a b,Rw (B*C) (M*N) q.2/\(P ≠ 0->q.2.2=1):=λq hq=>by
 obtain ⟨x,hx,hy⟩:=List.mem_flatMap.mp hq
 obtain ⟨y,my,rfl⟩:=List.mem_map.mp hy
 obtain ⟨ox,rx,_⟩:=ha.2 x hx
 obtain ⟨oy,ry,_⟩:=hb.2 y my
 refine ⟨rw_raw rx ry,λh0=>?_⟩
 show x.2.2*y.2.2=1
 rw [(aE ox).2 h0,(aE oy).2 h0]
 rfl
theorem nd_4:(["first", "second"]:List Str).Nodup:=by decide +kernel
theorem nd_5:(["product", "fraction", "numbers"]:List Str).Nodup:=by decide +kernel
def spTimes (K:Frag):Sp:=λvs H Q _=>∃ (a b:Addr) (ns ms:List Int),vs=[.ref a,.ref b]/\SqT K H a (ns.map V.int)/\SqT K H b (ms.map V.int)/\ns.length<=1000/\∀ l H',l0 H H'->H' l=some (.tup ((List.zipWith (· + ·) ns ms).map V.int))->Q (.ref l) H'
theorem gX:l8 ["one", "other"] ["one", "other"] (aj cp):=.i
theorem ok_times {f:Addr} {fd:FuncData} (F:Fun K "product_times" "product_times" cp f fd) (T:Blt mg):me P w K mg base CX0 1 f fd ["one", "other"] (spTimes K):=by
 refine F.o gX λ_ _ _ _ H _ Q _ hr h=>?_
 ·obtain ⟨a,b,ns,ms,rfl,ha,hb,hn,q⟩:=h
  refine ⟨_,(ai (ap (gB K T (by exact fj (N:=["first", "second"]) (src:=[none,none]) rfl rfl rfl (by exact (lS K true true rfl rfl T.zip (aa (pv 0) (aa (pv 1) ah)))) (λ_ _ _=>by exact ⟨by exact (bI K (i:=0) (j:=1) rfl rfl nd_4 rfl rfl rfl rfl),di,by exact (ao aP (pv 0) (pv 1))⟩))))),?_⟩
  refine ⟨_,rfl,_,rfl,a,b,rfl,⟨_,hX ha⟩,⟨_,hX hb⟩,comp_zip (v2 λi j=>.int (i+j)) rfl (hX ha) (hX hb) (by rw [length_map]; exact Nat.le_of_lt (eY hn)) (λi x y H1 R hx hy sm hR=>?_) (λacc H1 hacc sm hl=>?_)⟩
  ·obtain ⟨z,_,rfl⟩:=dJ hx
   obtain ⟨z',_,rfl⟩:=dJ hy
   exact ⟨_,rfl,_,rfl,_,_,rfl,rfl,hR⟩
  ·rw [zip_v2,zw_map V.int] at hl
   exact ⟨acc,_,rfl,SqL.of hl,λl n=>q l _ (sm.trans (l0.new n)) af⟩
def spFPr:Sp:=λvs H Q _=>∃ x:V,vs=[x]/\Q (.int 0) H
def spRPr (CR:Addr):Sp:=λvs H Q _=>∃ (x dx:Addr) (p:Int),vs=[.ref x]/\H x=some (.ins CR dx [("modulus",.int p)])/\Q (.int p) H
def Fr (H:Hp) (t:Addr) (x:Int × Int):Prop:=H t=some (.tup [.int x.1,.int x.2])
def spTB (CF CR:Addr):Sp:=λvs H Q _=>∃ (x:Addr) (P:Int) (u:V) (a:Int × Int),vs=[.ref x,u]/\mH CF CR H x P/\At P H u a/\∀ t H',l0 H H'->Fr H' t a->Q (.ref t) H'
def spFPlus:Sp:=λvs H Q _=>∃ (s t:Addr) (a b:Int × Int),vs=[.ref s,.ref t]/\Fr H s a/\Fr H t b/\0<a.2/\0<b.2/\Sz 2900 a/\Sz 2900 b/\∀ r,H r=none->Q (.ref r) (upd H r (.tup [.int (fpl a b).1,.int (fpl a b).2]))
def TermR (H:Hp) (v:V) (q:al):Prop:=∃ t k,v=.ref t/\H t=some (.tup [.ref k,.int q.2.1,.int q.2.2])/\H k=some (.tup (q.1.map V.int))
def mI (H:Hp) (vs:List V) (qs:List al):Prop:=Paired (TermR H) vs qs
theorem TermR.mono {H H':Hp} {v:V} {q:al} (k:∀ t xs,H t=some (.tup xs)->H' t=some (.tup xs)) (h:TermR H v q):TermR H' v q:=by
 obtain ⟨t,c,e,h1,h2⟩:=h
 exact ⟨t,c,e,k _ _ h1,k _ _ h2⟩
theorem mI.mono {H H':Hp} (k:∀ t xs,H t=some (.tup xs)->H' t=some (.tup xs)):∀ {vs:List V} {qs:List al},mI H vs qs->mI H' vs qs
 | _,_,.nil=>.nil
 | _,_,.cons q r=>.cons (q.mono k) (mI.mono k r)
theorem mI.snoc {H:Hp} {v:V} {q:al} (h:TermR H v q):∀ {vs:List V} {qs:List al},mI H vs qs->mI H (vs++[v]) (qs++[q])
 | _,_,.nil=>.cons h .nil
 | _,_,.cons q r=>.cons q (mI.snoc h r)
theorem mI.at_ {H:Hp}:∀ {vs:List V} {qs:List al} {i:Nat} {v:V},mI H vs qs->vs[i]? = some v->∃ q,qs[i]? = some q/\TermR H v q
 | _,_,0,_,.cons q _,e=>⟨_,rfl,by rw [<- Option.some.inj e]; exact q⟩
 | _,_,i+1,_,.cons _ r,e=>mI.at_ (i:=i) r e
def spTerms (CF CR CG:Addr):Sp:=λvs H Q _=>∃ (g x l1 l2:Addr) (P L:Int) (ts1 ts2:List V) (ps1 ps2:List al),vs=[.ref g,.ref l1,.ref l2]/\l7 P/\cS CG H g x L/\mH CF CR H x P/\H l1=some (.lst ts1)/\l6 P H ts1 ps1/\H l2=some (.lst ts2)/\l6 P H ts2 ps2/\ps1.length<=30/\ps2.length<=30/\(∀ p ∈ ps1,Sz 2900 p.2/\p.1.length<=10)/\(∀ p ∈ ps2,Sz 2900 p.2)/\
 ∀ (d:Addr) (rs:List V) (H':Hp),H d=none->l0 H H'->H' d=some (.lst rs)->mI H' rs (gW ps1 ps2)->Q (.ref d) H'
def spGath (CF CR CG:Addr):Sp:=λvs H Q _=>∃ (g x l:Addr) (P L:Int) (ts:List V) (qs:List al),vs=[.ref g,.ref l]/\l7 P/\cS CG H g x L/\mH CF CR H x P/\H l=some (.lst ts)/\mI H ts qs/\qs.length<=200/\(∀ q ∈ qs,TOk P 2900 q)/\(∀ i,i<=qs.length->∀ p ∈ bt (qs.take i),TOk P 2900 p)/\
 ∀ (d:Addr) (rs:List V) (out:List al) (H':Hp),H d=none->l0 H H'->H' d=some (.lst rs)->l6 P H' rs out->mh P (vm P qs) out->Q (.ref d) H'
def bn (CF CR CG:Addr):Sp:=λvs H Q _=>∃ (g x l1 l2:Addr) (P L:Int) (B C M N:Nat) (ts1 ts2:List V) (ps1 ps2:List al),vs=[.ref g,.ref l1,.ref l2]/\l7 P/\L<=10/\cS CG H g x L/\mH CF CR H x P/\H l1=some (.lst ts1)/\l6 P H ts1 ps1/\H l2=some (.lst ts2)/\l6 P H ts2 ps2/\ps1.length<=30/\ps2.length<=30/\ps1.length*ps2.length<=130/\CanR P L B M ps1/\CanR P L C N ps2/\0<B/\0<C/\1<=M/\1<=N/\130*(M*N)*(B*C)<2 ^ 2900/\
 ∀ (d:Addr) (rs:List V) (out:List al) (H':Hp),H d=none->l0 H H'->H' d=some (.lst rs)->l6 P H' rs out->mh P (prods P ps1 ps2) out->Q (.ref d) H'
theorem fJ:l8 ["self"] ["self"] (aj aN):=.i
theorem ok_fpr {f:Addr} {fd:FuncData} (F:Fun K "prime" "Fractions.prime" aN f fd):me P w K mg base CX0 1 f fd ["self"] spFPr:=by
 refine F.o fJ λ_ _ _ _ H _ Q _ hr h=>?_
 ·obtain ⟨x,rfl,q⟩:=h
  exact ⟨_,(ai (ap ae)),q⟩
theorem iM:l8 ["self"] ["self"] (aj be):=.i
theorem ok_rpr {f CR:Addr} {fd:FuncData} (F:Fun K "prime" "Rests.prime" be f fd) (cl:Cls K CR) (nM:mP K CR "modulus"):me P w K mg base CX0 1 f fd ["self"] (spRPr CR):=by
 refine F.o iM λ_ _ _ _ H _ Q _ hr h=>?_
 ·obtain ⟨x,dx,p,rfl,hx,q⟩:=h
  exact ⟨_,(ai (ap (gs (pv 0) rfl))),⟨_,rfl,x,CR,dx,_,_,rfl,hx,cl,nM,rfl,q⟩⟩
theorem f8:l8 ["numbers", "number"] ["numbers", "number"] (aj bO):=.i
theorem ok_tb {f CF CR:Addr} {fd:FuncData} (F:Fun K "top_and_bottom" "top_and_bottom" bO f fd) (vk:MtB P w K mg base 1 CF "prime" spFPr) (vn:MtB P w K mg base 1 CR "prime" (spRPr CR)):me P w K mg base CX0 2 f fd ["numbers", "number"] (spTB CF CR):=by
 refine F.o f8 λ_ _ _ _ H _ Q _ hr h=>?_
 ·obtain ⟨x,P,u,a,rfl,hN,hu,q⟩:=h
  refine ⟨_,(ag (aK (az cO (kP (gP vk hr.m (pv 0)) (gP vn hr.m (pv 0))) ae (aA _))
(ai (ap (pv 1)))
aC)
(ai (ap (bp (aa (pv 1) (aa ae ah)))))),?_⟩
  rcases hN with ⟨h0,dx,e⟩ | ⟨h0,dx,e⟩
  ·rcases hu with ⟨_,t,rfl,ht⟩ | ⟨z,_⟩
   ·exact .inl ⟨_,rfl,x,dx,_,rfl,e,rfl,.ref x,rfl,rfl,_,rfl,cv ⟨_,rfl,q t H (l0.refl _) ht⟩⟩
   ·exact absurd h0 z
  ·rcases hu with ⟨z,_⟩ | ⟨_,rfl,h1⟩
   ·exact absurd z h0
   ·refine .inr ⟨_,rfl,x,dx,_,rfl,e,lE (by decide +kernel) _,x,dx,P,rfl,e,rfl,_,rfl,?_⟩
    rw [decide_eq_false (show ¬ V.int P=V.int 0 from λz=>h0 (by injection z))]
    refine bF ⟨_,rfl,(by show 2<=sizeLine; decide),λt nt=>q t _ (l0.new nt) ?_⟩
    show upd H t (.tup [.int a.1,.int 1]) t=some (.tup [.int a.1,.int a.2])
    rw [h1,af]
theorem m5:l8 ["one", "other", "common", "share"] ["one", "other"] (aj ck):=.i
theorem ok_fpl {f:Addr} {fd:FuncData} (F:Fun K "fraction_plus" "fraction_plus" ck f fd) (oo:FnB P w K mg base 1 "greatest_divisor" spGcd):me P w K mg base CX0 2 f fd ["one", "other"] spFPlus:=by
 refine F.o m5 λ_ _ _ _ H _ Q _ hr h=>?_
 ·obtain ⟨s,t,a,b,rfl,hs,ht,ha,hb,sa,sb,q⟩:=h
  refine ⟨_,(ag (aK (az cO (aB (aw K rfl) (pv 0) ae (λ_ _=>rfl)) (aB (aw K rfl) (pv 1) ae (λ_ _=>rfl)) (aA _))
(ai (ap (bp (aa (ao aP (aB (aw K rfl) (pv 0) ae (λ_ _=>rfl)) (aB (aw K rfl) (pv 1) ae (λ_ _=>rfl))) (aa (aB (aw K rfl) (pv 0) ae (λ_ _=>rfl)) ah)))))
aC)
(ag (ar (i:=2) m5.nd rfl (Or.inl rfl) (aq oo hr.m (aa (aB (aw K rfl) (pv 0) ae (λ_ _=>rfl)) (aa (aB (aw K rfl) (pv 1) ae (λ_ _=>rfl)) ah))))
(ag (ar (i:=3) m5.nd rfl (Or.inl rfl) (ao bj (aB (aw K rfl) (pv 1) ae (λ_ _=>rfl)) (pv 2)))
(ai (ap (bp (aa (ao aP (ao bq (aB (aw K rfl) (pv 0) ae (λ_ _=>rfl)) (pv 3)) (ao bq (aB (aw K rfl) (pv 1) ae (λ_ _=>rfl)) (ao bj (aB (aw K rfl) (pv 0) ae (λ_ _=>rfl)) (pv 2)))) (aa (ao bq (aB (aw K rfl) (pv 0) ae (λ_ _=>rfl)) (pv 3)) ah)))))))),?_⟩
  unfold fpl at q
  refine ⟨_,rfl,s,_,_,_,rfl,rfl,SqT.of hs,rfl,_,rfl,t,_,_,_,rfl,rfl,SqT.of ht,rfl,rfl,_,rfl,bu (λh=>?_) (λh=>?_)⟩
  ·have h0:a.2=b.2:=by have:=of_decide_eq_true h; injection this
   rw [if_pos h0] at q
   exact ⟨_,rfl,s,_,_,_,rfl,rfl,SqT.of hs,rfl,_,rfl,t,_,_,_,rfl,rfl,SqT.of ht,rfl,_,_,rfl,rfl,_,rfl,s,_,_,_,rfl,rfl,SqT.of hs,rfl,(by show 2<=sizeLine; decide),λr nr=>q r nr⟩
  ·have h0:¬ a.2=b.2:=λz=>h (decide_eq_true (congrArg V.int z))
   rw [if_neg h0] at q
   obtain ⟨e1,e2,hg,u0,v0⟩:=eR ha hb
   have gle:(Int.gcd a.2 b.2)<=b.2.natAbs:=Nat.le_of_dvd (by omega) (Nat.gcd_dvd_right a.2.natAbs b.2.natAbs)
   have gsm:(Int.gcd a.2 b.2)<2 ^ 6000:=Nat.lt_of_le_of_lt gle (Nat.lt_trans sb.2 gm)
   have cd:∀ i:Int,CDivA i (Int.gcd a.2 b.2:Int):=λi=>⟨by omega,by rw [Int.natAbs_natCast]; exact gsm⟩
   have hu:(a.2.fdiv (Int.gcd a.2 b.2:Int)).natAbs<=a.2.natAbs:=by
    conv=>rhs; rw [e1]
    rw [Int.natAbs_mul]
    exact Nat.le_mul_of_pos_left _ (by omega)
   have hv:(b.2.fdiv (Int.gcd a.2 b.2:Int)).natAbs<=b.2.natAbs:=by
    conv=>rhs; rw [e2]
    rw [Int.natAbs_mul]
    exact Nat.le_mul_of_pos_left _ (by omega)
   have su:=Nat.lt_of_le_of_lt hu sa.2
   have sv:=Nat.lt_of_le_of_lt hv sb.2
   refine ⟨_,rfl,s,_,_,_,rfl,rfl,SqT.of hs,rfl,_,rfl,t,_,_,_,rfl,rfl,SqT.of ht,rfl,a.2,b.2,rfl,?_⟩
   refine ⟨_,rfl,t,_,_,_,rfl,rfl,SqT.of ht,rfl,_,rfl,_,_,rfl,rfl,cd _,?_⟩
   refine ⟨_,rfl,s,_,_,_,rfl,rfl,SqT.of hs,rfl,_,rfl,_,_,rfl,rfl,cZ sa.1 sv,?_⟩
   refine ⟨_,rfl,t,_,_,_,rfl,rfl,SqT.of ht,rfl,_,rfl,s,_,_,_,rfl,rfl,SqT.of hs,rfl,_,rfl,_,_,rfl,rfl,cd _,_,_,rfl,rfl,cZ sb.1 su,_,_,rfl,rfl,?_⟩
   exact ⟨_,rfl,s,_,_,_,rfl,rfl,SqT.of hs,rfl,_,rfl,_,_,rfl,rfl,cZ sa.2 sv,(by show 2<=sizeLine; decide),λr nr=>q r nr⟩
theorem mE:l8 ["ring", "one", "other", "terms", "product", "number", "first", "second", "factor", "fraction"] ["ring", "one", "other"] (aj cm):=.i
theorem ok_terms {f CF CR CG:Addr} {fd:FuncData} (F:Fun K "product_terms" "product_terms" cm f fd) (qT:MtB P w K mg base 1 CG "numbers" (jn CG)) (oY:FnB P w K mg base 2 "top_and_bottom" (spTB CF CR)) (qb:FnB P w K mg base 1 "product_times" (spTimes K)):me P w K mg base CX0 3 f fd ["ring", "one", "other"] (spTerms CF CR CG):=by
 refine F.o mE λ_ _ _ _ H _ Q _ hr h=>?_
 ·obtain ⟨g,x,l1,l2,P,L,ts1,ts2,ps1,ps2,rfl,hP,hg,hN,h1,p1,h2,p2,n1,n2,ok1,ok2,q⟩:=h
  refine ⟨_,(ag (ar (i:=3) mE.nd rfl (Or.inl rfl) (ci ah))
(ag (bG PassesOwn.never rfl (bo K rfl (pv 1)) (bI K (i:=4) (j:=5) rfl rfl mE.nd rfl rfl rfl rfl)
(ag (ar (i:=6) mE.nd rfl (Or.inl rfl) (aq oY hr.m (aa (gP qT hr.m (pv 0)) (aa (pv 5) ah))))
(ai (bG PassesOwn.never rfl (bo K rfl (pv 2)) (bI K (i:=7) (j:=8) rfl rfl mE.nd rfl rfl rfl rfl)
(ag (ar (i:=9) mE.nd rfl (Or.inl rfl) (aq oY hr.m (aa (gP qT hr.m (pv 0)) (aa (pv 8) ah))))
(ai (iA (bmA K rfl (pv 3) (aa (bp (aa (aq qb hr.m (aa (pv 4) (aa (pv 7) ah))) (aa (ao bq (aB (aw K rfl) (pv 6) ae (λ_ _=>rfl)) (aB (aw K rfl) (pv 9) ae (λ_ _=>rfl))) (aa (ao bq (aB (aw K rfl) (pv 6) ae (λ_ _=>rfl)) (aB (aw K rfl) (pv 9) ae (λ_ _=>rfl))) ah)))) ah)))))))))
(ai (ap (pv 3))))),?_⟩
  have t1:ts1.length=ps1.length:=Paired.length p1
  have t2:ts2.length=ps2.length:=Paired.length p2
  obtain ⟨dxg,hg'⟩:=id hg
  refine ⟨Nat.zero_le _,λd hd=>?_⟩
  have s0:=l0.new (o:=.lst []) hd
  refine ⟨_,rfl,l1,rfl,⟨_,SqL.of (s0 _ _ h1)⟩,cX (xs:=ts1) (λi σ H'=>∃ (x4 x5 x6 x7 x8 x9:Option V) (rs:List V),σ=[some (.ref g),some (.ref l1),some (.ref l2),some (.ref d),x4,x5,x6,x7,x8,x9]/\l0 H H'/\H' d=some (.lst rs)/\mI H' rs (gW (ps1.take i) ps2)) ?_ ?_ ?_ ?_⟩
  ·exact ⟨none,none,none,none,none,none,[],rfl,s0,af,.nil⟩
  ·rintro i σ H' _ ⟨x4,x5,x6,x7,x8,x9,rs,rfl,sm,_⟩
   exact SqL.of (sm _ _ h1)
  ·rintro i v σ H1 hx ⟨x4,x5,x6,x7,x8,x9,rs,rfl,sm,hd1,tr⟩ N0 B0 hN0
   obtain ⟨p,ep,t,k,u,rfl,ht,hk,hu⟩:=p1.at_ hx
   have mp:p ∈ ps1:=mem_of_getElem? ep
   obtain ⟨sp,lp⟩:=ok1 p mp
   have hi:i<ts1.length:=(List.getElem?_eq_some_iff.mp hx).1
   refine ⟨t,_,rfl,SqT.of (sm _ _ ht),rfl,_,_,rfl,_,_,rfl,rfl,?_⟩
   refine ⟨_,rfl,g,dxg,_,rfl,sm _ _ hg',rfl,g,x,L,rfl,⟨dxg,sm _ _ hg'⟩,_,rfl,x,P,u,p.2,rfl,hN.mono λo e=>sm _ _ e,hu.same sm,λtf H2 s2 hf=>?_⟩
   have sm2:=sm.trans s2
   have hd2:=s2 _ _ hd1
   have tr2:=tr.mono λt xs e=>s2 _ _ e
   refine ⟨_,rfl,l2,rfl,⟨_,SqL.of (sm2 _ _ h2)⟩,cX (xs:=ts2) (λj σ H'=>∃ (x7 x8 x9:Option V) (rs:List V),σ=[some (.ref g),some (.ref l1),some (.ref l2),some (.ref d),some (.ref k),some u,some (.ref tf),x7,x8,x9]/\l0 H H'/\Fr H' tf p.2/\H' d=some (.lst rs)/\mI H' rs (gW (ps1.take i) ps2++kK p (ps2.take j))) ?_ ?_ ?_ ?_⟩
   ·exact ⟨_,_,_,rs,rfl,sm2,hf,hd2,by rw [take_zero]; show mI H2 rs (gW (ps1.take i) ps2++[]); rw [append_nil]; exact tr2⟩
   ·rintro j σ H' _ ⟨x7,x8,x9,rs,rfl,sm',_⟩
    exact SqL.of (sm' _ _ h2)
   ·rintro j v' σ H3 hx' ⟨x7,x8,x9,rs',rfl,sm3,hf3,hd3,tr3⟩ N1 B1 hN1
    obtain ⟨p',ep',t',k',u',rfl,ht',hk',hu'⟩:=p2.at_ hx'
    have mp':p' ∈ ps2:=mem_of_getElem? ep'
    have sp':=ok2 p' mp'
    have hj:j<ts2.length:=(List.getElem?_eq_some_iff.mp hx').1
    refine ⟨t',_,rfl,SqT.of (sm3 _ _ ht'),rfl,_,_,rfl,_,_,rfl,rfl,?_⟩
    refine ⟨_,rfl,g,dxg,_,rfl,sm3 _ _ hg',rfl,g,x,L,rfl,⟨dxg,sm3 _ _ hg'⟩,_,rfl,x,P,u',p'.2,rfl,hN.mono λo e=>sm3 _ _ e,hu'.same sm3,λtg H4 s4 hf4=>?_⟩
    have sm4:=sm3.trans s4
    have hd4:=s4 _ _ hd3
    refine ⟨_,rfl,.inl ⟨rfl,_,SqL.of hd4⟩,_,rfl,_,rfl,k,k',p.1,p'.1,rfl,SqT.of (sm4 _ _ hk),SqT.of (sm4 _ _ hk'),by omega,λc H5 s5 hc=>?_⟩
    have hf5:=s5 _ _ (s4 _ _ hf3)
    have hg5:=s5 _ _ hf4
    have m1:IntMulOk p.2.1 p'.2.1:=cZ (sp.mono (by decide)).1 (sp'.mono (by decide)).1
    have m2:IntMulOk p.2.2 p'.2.2:=cZ (sp.mono (by decide)).2 (sp'.mono (by decide)).2
    refine ⟨_,rfl,tf,_,_,_,rfl,rfl,SqT.of hf5,rfl,_,rfl,tg,_,_,_,rfl,rfl,SqT.of hg5,rfl,_,_,rfl,rfl,m1,?_⟩
    refine ⟨_,rfl,tf,_,_,_,rfl,rfl,SqT.of hf5,rfl,_,rfl,tg,_,_,_,rfl,rfl,SqT.of hg5,rfl,_,_,rfl,rfl,m2,?_⟩
    refine ⟨(by show 3<=sizeLine; decide),λt7 n7=>?_⟩
    have s7:=l0.new (o:=.tup [.ref c,.int (p.2.1*p'.2.1),.int (p.2.2*p'.2.2)]) n7
    have hd7:=s7 _ _ (s5 _ _ hd4)
    have lr:rs'.length<=1000:=by
     have e:=Paired.length tr3
     rw [length_append,i0] at e
     unfold kK at e
     rw [length_map,length_take,length_take] at e
     have h6:min i ps1.length*ps2.length<=30*30:=Nat.mul_le_mul (by omega) n2
     omega
    refine ⟨d,_,_,rfl,rfl,hd7,by rw [sizeLine_eq]; omega,?_⟩
    have k8:∀ c' o,(upd H5 t7 (.tup [.ref c,.int (p.2.1*p'.2.1),.int (p.2.2*p'.2.2)])) c'=some o->c' ≠ d->upd (upd H5 t7 (.tup [.ref c,.int (p.2.1*p'.2.1),.int (p.2.2*p'.2.2)])) d (.lst (rs' ++ [.ref t7])) c'=some o:=λc' o e hc=>by rw [am hc]; exact e
    have tk8:∀ c' xs,(upd H5 t7 (.tup [.ref c,.int (p.2.1*p'.2.1),.int (p.2.2*p'.2.2)])) c'=some (.tup xs)->upd (upd H5 t7 (.tup [.ref c,.int (p.2.1*p'.2.1),.int (p.2.2*p'.2.2)])) d (.lst (rs' ++ [.ref t7])) c'=some (.tup xs):=λc' xs e=>k8 c' _ e (bh e hd7 (by intro z; cases z))
    refine hN1 _ _ ⟨_,_,_,rs' ++ [.ref t7],rfl,λc' o e=>k8 c' o (s7 _ _ (s5 _ _ (sm4 _ _ e))) (ak e hd),tk8 _ _ (s7 _ _ hf5),af,?_⟩
    have e9:kK p (ps2.take (j+1))=kK p (ps2.take j)++[(bx p.1 p'.1,(p.2.1*p'.2.1,p.2.2*p'.2.2))]:=by
     unfold kK; rw [take_add_one,ep',map_append]; rfl
    rw [e9,<- append_assoc]
    exact (mI.snoc (q:=(bx p.1 p'.1,(p.2.1*p'.2.1,p.2.2*p'.2.2))) ⟨t7,c,rfl,af,s7 _ _ hc⟩ (((tr3.mono λt xs e=>s4 _ _ e).mono λt xs e=>s5 _ _ e).mono λt xs e=>s7 _ _ e)).mono tk8
   ·rintro σ H3 ⟨x7,x8,x9,rs',rfl,sm3,hf3,hd3,tr3⟩
    refine hN0 _ _ ⟨_,_,_,_,_,_,rs',rfl,sm3,hd3,?_⟩
    rw [t2,take_length] at tr3
    have e9:gW (ps1.take (i+1)) ps2=gW (ps1.take i) ps2++kK p ps2:=by
     unfold gW; rw [take_add_one,ep,flatMap_append]; simp
    rw [e9]
    exact tr3
  ·rintro σ H1 ⟨x4,x5,x6,x7,x8,x9,rs,rfl,sm,hd1,tr⟩
   rw [t1,take_length] at tr
   exact ⟨_,rfl,q d rs H1 hd sm hd1 tr⟩
theorem gath_one {ts:List al} (h:∀ q ∈ ts,q.2.2=1) (h0:∀ q ∈ ts,0<q.2.2):∀ i,i<=ts.length->∀ p ∈ bt (ts.take i),p.2.2=1
 | 0,_,p,hp=>by simp [bt] at hp
 | i+1,hi,p,hp=>by
  obtain ⟨q,eq⟩:∃ q,ts[i]? = some q:=⟨_,getElem?_eq_getElem (by omega)⟩
  have rq:=h q (mem_of_getElem? eq)
  have ih:=gath_one h h0 i (by omega)
  rw [cD eq] at hp
  rcases cL hp with w | w
  ·rw [w]
   cases e:ba (bt (ts.take i)) q.1 with
   | none=>exact rq
   | some y=>
    show (fpl y q.2).2=1
    rw [kT (ih _ (aV e)) rq]
  ·exact ih p w
theorem of2_go {CF CR og x:Addr} {P a b:Int} {H:Hp} {σ:L2.St} {R:VK} {ta:TE} {t:TA} (hP:l7 P) (hN:mH CF CR H x P) (hb:0<b) (hb1:P ≠ 0->b=1) (hs:b.natAbs<2 ^ 6000) (ha:∀ Z:VK,Z (.ref x) H->ta σ H Z) (ht:∀ Z:List V->Hp->Prop,Z [.int a,.int b] H->t σ H Z)
  (hR:∀ r H',l0 H H'->At P H' r (val P (a,b))->R r H') :
  tOrE (eh CF "of" (eG og) [] E0 ta t) (eh CR "of" (fI CR og) [] E0 ta t) σ H R:=by
 unfold val at hR
 rcases hN with ⟨h0,dx,e⟩ | ⟨h0,dx,e⟩
 ·rw [if_pos h0] at hR
  refine .inl (ha _ ⟨x,dx,[],rfl,e,rfl,ht _ ⟨.ref x,a,b,rfl,λz=>absurd z (by omega),λ_=>⟨hs,λr nr=>?_⟩⟩⟩)
  exact hR _ _ (l0.new nr) (.inl ⟨h0,r,rfl,af⟩)
 ·rw [if_neg h0] at hR
  have e1:=hb1 h0
  subst e1
  rcases hP with z | ⟨h2,h9,hp⟩
  ·exact absurd z h0
  have e1:(1:Int) % P=1:=Int.emod_eq_of_lt (by decide) (by omega)
  refine .inr (ha _ ⟨x,dx,_,rfl,e,lE (by decide +kernel) _,ht _ ⟨x,dx,P,a,1,rfl,e,h2,h9,hp,(λz=>absurd (e1.symm.trans z) (by decide)),λ_ r r0 r1 hr=>?_⟩⟩)
  rw [Int.mul_one,Int.emod_eq_of_lt r0 r1] at hr
  rw [hr]
  exact hR _ _ (l0.refl H) (.inr ⟨h0,rfl,rfl⟩)
def FrV (H:Hp) (v:V) (x:Int × Int):Prop:=∃ t,v=.ref t/\Fr H t x
theorem FrV.mono {H H':Hp} {v:V} {x:Int × Int} (k:∀ t xs,H t=some (.tup xs)->H' t=some (.tup xs)) (h:FrV H v x):FrV H' v x:=by
 obtain ⟨t,e,h1⟩:=h
 exact ⟨t,e,k _ _ h1⟩
theorem kv_at {H:Hp} {R:V->Int × Int->Prop}:∀ {kvs:List (List Key × V)} {m:List al} {as:List Addr} {i:Nat} {x y:V},mm R kvs m->Paired (λ(a:Addr) (q:al)=>H a=some (.tup (q.1.map V.int))) as m->((as.map V.ref).zip (kvs.map (·.2)))[i]? = some (x,y)->∃ a q,m[i]? = some q/\x=.ref a/\H a=some (.tup (q.1.map V.int))/\R y q.2
 | _,_,_,0,_,_,.cons q _,.cons p _,e=>by
  have e':=Option.some.inj e
  injection e' with e1 e2
  exact ⟨_,_,rfl,e1.symm,p,by rw [<- e2]; exact q.2⟩
 | _,_,_,i+1,_,_,.cons _ r,.cons _ s,e=>kv_at (i:=i) r s e
 | _,_,_,_,_,_,.nil,.nil,e=>by simp at e
theorem mL:l8 ["ring", "terms", "found", "product", "top", "bottom", "new", "numbers"] ["ring", "terms"] (aj fM):=.i
theorem ok_gath {f CF CR CG og:Addr} {fd:FuncData} (F:Fun K "gathered" "gathered" fM f fd) (qT:MtB P w K mg base 1 CG "numbers" (jn CG)) (qc:FnB P w K mg base 2 "fraction_plus" spFPlus) (qE:FnB P w K mg base 5 "sum_of" (spSum CF CR CG))
  (uh:jD P w K mg base 2 CF "of" [] (eG og)) (vo:jD P w K mg base 2 CR "of" [] (fI CR og)):me P w K mg base CX0 6 f fd ["ring", "terms"] (spGath CF CR CG):=by
 refine F.o mL λ_ _ _ _ H _ Q _ hr h=>?_
 ·obtain ⟨g,x,l,P,L,ts,qs,rfl,hP,hg,hN,hl,hts,hn,hok,hgk,q⟩:=h
  have hB:=hP.b
  refine ⟨_,(ag (ar (i:=2) mL.nd rfl (Or.inl rfl) iV)
(ag (bG PassesOwn.never rfl (bo K rfl (pv 1)) (pg_tup rfl (by exact bZ (by exact (bw (i:=3) mL.nd rfl (Or.inl rfl))) (by exact bZ (by exact (bw (i:=4) mL.nd rfl (Or.inl rfl))) (by exact bZ (by exact (bw (i:=5) mL.nd rfl (Or.inl rfl))) lR))))
(ag (ar (i:=6) mL.nd rfl (Or.inl rfl) (bp (aa (pv 4) (aa (pv 5) ah))))
(ai (lh (hu1 hr) (pv 2) (pv 3) (pe_ifExp (pt_cmp (pc_din (hu1 hr) (pv 3) (pv 2))) (aq qc hr.m (aa (dL (hu1 hr) (pv 2) (pv 3) (λ_ _=>rfl)) (aa (pv 6) ah))) (pv 6)) rfl))))
(ag (ar (i:=7) mL.nd rfl (Or.inr rfl) (gP qT hr.m (pv 0)))
(ai (ap (aq qE hr.m (aa (pv 0) (aa (by exact fj (N:=["product", "fraction", "numbers"]) (src:=[none,none,some 7]) rfl rfl rfl (by exact (kpi_items K rfl (pv 2))) (λ_ _ _=>by exact ⟨by exact (bI K (i:=0) (j:=1) rfl rfl nd_5 rfl rfl rfl rfl),di,by exact (bp (aa (pv 0) (aa (kP (i4 uh hr.m gz (pv 2) (aa (aB (aw K rfl) (pv 1) ae (λ_ _=>rfl)) (aa (aB (aw K rfl) (pv 1) ae (λ_ _=>rfl)) ah))) (i4 vo hr.m gz (pv 2) (aa (aB (aw K rfl) (pv 1) ae (λ_ _=>rfl)) (aa (aB (aw K rfl) (pv 1) ae (λ_ _=>rfl)) ah)))) ah)))⟩)) ah)))))))),?_⟩
  have lt:ts.length=qs.length:=Paired.length hts
  obtain ⟨dxg,hg'⟩:=id hg
  intro d hd
  have dl:d ≠ l:=λz=>by rw [z,hl] at hd; cases hd
  refine ⟨_,rfl,l,rfl,⟨_,SqL.of (by rw [am dl.symm]; exact hl)⟩,dY (xs:=ts) (λi σ H'=>∃ (x3 x4 x5 x6:Option V) (kvs:List (List Key × V)),σ=[some (.ref g),some (.ref l),some (.ref d),x3,x4,x5,x6,none]/\l0 H H'/\H' d=some (.dT kvs)/\mm (FrV H') kvs (bt (qs.take i))) ?_ ?_ ?_ ?_⟩
  ·exact ⟨none,none,none,none,[],rfl,l0.new hd,af,.nil⟩
  ·rintro i σ H' _ ⟨x3,x4,x5,x6,kvs,rfl,sm,_⟩
   exact SqL.of (sm _ _ hl)
  ·rintro i v σ H1 hx ⟨x3,x4,x5,x6,kvs,rfl,sm,hd1,dr⟩
   obtain ⟨p,ep,t,k,rfl,ht,hk⟩:=hts.at_ hx
   have mp:p ∈ qs:=mem_of_getElem? ep
   have op:=hok p mp
   have hi:i<ts.length:=(List.getElem?_eq_some_iff.mp hx).1
   have okm:=hgk i (by omega)
   refine ⟨t,_,rfl,SqT.of (sm _ _ ht),rfl,_,_,rfl,_,_,rfl,_,_,rfl,rfl,?_⟩
   refine ⟨_,rfl,_,rfl,(by show 2<=sizeLine; decide),λnw nn=>?_⟩
   have s2:=l0.new (o:=.tup [.int p.2.1,.int p.2.2]) nn
   have hw2:(upd H1 nw (.tup [.int p.2.1,.int p.2.2])) nw=some (.tup [.int p.2.1,.int p.2.2]):=af
   have hd2:=s2 _ _ hd1
   have dr2:mm (FrV (upd H1 nw (.tup [.int p.2.1,.int p.2.2]))) kvs (bt (qs.take i)):=dr.mono λv x z=>z.mono λt xs e=>s2 _ _ e
   have sm2:=sm.trans s2
   generalize upd H1 nw (.tup [.int p.2.1,.int p.2.2])=H2 at *
   have hk2:H2 k=some (.tup ((kI p.1).map kV)):=by rw [kH]; exact sm2 _ _ hk
   have hlen:kvs.length<sizeLine:=by
    have h1:kvs.length=(bt (qs.take i)).length:=Paired.length dr2
    have h2:=gb qs i
    rw [h1,sizeLine_eq]
    omega
   have fin:∀ r3 H3 y3,l0 H2 H3->Fr H3 r3 y3->g6 (bt (qs.take i)) p=cq (bt (qs.take i)) p.1 y3->∃ (x3 x4 x5 x6:Option V) (kvs':List (List Key × V)),[some (V.ref g),some (.ref l),some (.ref d),some (.ref k),some (.int p.2.1),some (.int p.2.2),some (.ref nw),none]=[some (.ref g),some (.ref l),some (.ref d),x3,x4,x5,x6,none]/\l0 H (upd H3 d (.dT (bN kvs (kI p.1) (.ref r3))))/\(upd H3 d (.dT (bN kvs (kI p.1) (.ref r3)))) d=some (.dT kvs')/\mm (FrV (upd H3 d (.dT (bN kvs (kI p.1) (.ref r3))))) kvs' (bt (qs.take (i+1))):=λr3 H3 y3 s3 a3 eg=>by
    have d3:H3 d=some (.dT kvs):=s3 _ _ hd2
    have keep:∀ c o,H3 c=some o->c ≠ d->upd H3 d (.dT (bN kvs (kI p.1) (.ref r3))) c=some o:=λc o e hc=>by rw [am hc]; exact e
    have tk3:∀ t xs,H3 t=some (.tup xs)->upd H3 d (.dT (bN kvs (kI p.1) (.ref r3))) t=some (.tup xs):=λt xs e=>keep t _ e (bh e d3 (by intro z; cases z))
    refine ⟨_,_,_,_,_,rfl,λc o e=>keep c o (s3 _ _ (sm2 c o e)) (ak e hd),af,?_⟩
    rw [cD ep,eg]
    exact mm.put ⟨r3,rfl,tk3 _ _ a3⟩ (dr2.mono λv x z=>(z.mono λt xs e=>s3 _ _ e).mono tk3)
   have put:∀ r3 H3,l0 H2 H3->DPut H3 d (.ref k) r3 (upd H3 d (.dT (bN kvs (kI p.1) r3))):=λr3 H3 s3=>DPut.t (k:=kI p.1) (s3 _ _ hd2) (s3 _ _ hk2) hlen
   refine ⟨_,rfl,_,rfl,d,_,rfl,DGet.t hd2 hk2,_,rfl,?_⟩
   rcases dr2.val p.1 with ⟨e1,e2⟩ | ⟨v,y,e1,e2,ra⟩
   ·rw [e1]
    refine bF ⟨_,rfl,_,rfl,_,rfl,d,_,rfl,put _ H2 (l0.refl _),fin nw H2 p.2 (l0.refl _) hw2 ?_⟩
    unfold g6
    rw [e2]
   ·rw [e1]
    obtain ⟨tv,rfl,hv⟩:=ra
    have oy:=okm _ (aV e2)
    refine cv ⟨_,rfl,_,rfl,d,_,rfl,(by rw [<- e1]; exact DGet.t hd2 hk2),_,rfl,tv,nw,y,p.2,rfl,hv,hw2,oy.1,op.1,oy.2.2,op.2.2,λr nr=>?_⟩
    refine ⟨_,rfl,_,rfl,d,_,rfl,put _ _ (l0.new nr),fin r _ (fpl y p.2) (l0.new nr) af ?_⟩
    unfold g6
    rw [e2]
  ·rintro σ H1 ⟨x3,x4,x5,x6,kvs,rfl,sm,hd1,dr⟩
   rw [lt,take_length] at dr
   have okm:∀ p ∈ bt qs,TOk P 2900 p:=λp hp=>hgk qs.length (Nat.le_refl _) p (by rw [take_length]; exact hp)
   have evm:vm P (bt qs)=acc P (vm P qs):=by
    have:=gath_vm hB.1 hok qs.length (Nat.le_refl _)
    rw [take_length] at this
    exact this
   have gl:(bt qs).length<=200:=by
    have:=gb qs qs.length
    rw [take_length] at this
    omega
   have ndv:((vm P (bt qs)).map (·.1)).Nodup:=by rw [evm]; exact gQ P _
   have okv:∀ p ∈ vm P (bt qs),OkN P p.2/\Sz 2900 p.2:=λp hp=>by
    obtain ⟨q',hq,rfl⟩:=List.mem_map.mp hp
    have h:=okm q' hq
    exact ⟨val_ok hB.1 h.1,val_sz hP h.1 (by decide) h.2.2⟩
   have isv:∀ out,mh P (vm P (bt qs)) out->mh P (vm P qs) out:=λout h=>by
    unfold mh at h ⊢
    rw [gN ndv λp hp=>(okv p hp).1,evm] at h
    exact h
   generalize bt qs=m at *
   refine ⟨_,rfl,g,dxg,_,rfl,sm _ _ hg',rfl,g,x,L,rfl,⟨dxg,sm _ _ hg'⟩,?_⟩
   refine ⟨_,rfl,_,rfl,.inr (.inr (.inl ⟨rfl,.inr ⟨_,hd1⟩⟩)),d,kvs,rfl,rfl,hd1,λvw nv=>?_⟩
   have s2:=l0.new (o:=jW vw d) nv
   refine ⟨vw,d,kvs,rfl,af,s2 _ _ hd1,λo as pk=>?_⟩
   have hd2:=s2 _ _ hd1
   have dr2:mm (FrV (upd H1 vw (jW vw d))) kvs m:=dr.mono λv x z=>z.mono λt xs e=>s2 _ _ e
   have sm2:=sm.trans s2
   generalize upd H1 vw (jW vw d)=H2 at *
   have tp:=dr2.tups pk
   have la:as.length=m.length:=Paired.length tp
   have lk:kvs.length=m.length:=Paired.length dr2
   have lkv:((as.map V.ref).zip (kvs.map (·.2))).length=m.length:=by
    rw [List.length_zip,length_map,length_map,la,lk,Nat.min_self]
   have keep:∀ c u,H2 c=some u->c ≠ d->upd H2 d (.frz o (.dT kvs)) c=some u:=λc u e hc=>by rw [am hc]; exact e
   have tk:∀ t xs,H2 t=some (.tup xs)->upd H2 d (.frz o (.dT kvs)) t=some (.tup xs):=λt xs e=>keep t _ e (bh e hd2 (by intro z; cases z))
   have smF:l0 H (upd H2 d (.frz o (.dT kvs))):=λc u e=>keep c u (sm2 c u e) (ak e hd)
   have hfz:upd H2 d (.frz o (.dT kvs)) d=some (.frz o (.dT kvs)):=af
   generalize hHF:upd H2 d (.frz o (.dT kvs))=HF at *
   refine fc (n:=m.length) (σ0:=[none,none,some (.ref x)]) rfl (λacc i ws σ H'=>∃ a b:Option V,σ=[a,b,some (.ref x)]/\l0 HF H'/\l6 P H' ws (vm P (m.take i))) (by rw [sizeLine_eq]; omega) (λacc hacc=>⟨none,none,rfl,l0.new hacc,.nil⟩) ?_ ?_ ?_ ?_
   ·rintro acc i ws σ H' hacc hi hz ⟨a,b,rfl,sm',_⟩
    exact ⟨sm' _ _ hfz,by rw [lkv]; exact hi⟩
   ·rintro acc ws σ H' hacc hz ⟨a,b,rfl,sm',_⟩
    exact ⟨sm' _ _ hfz,by rw [lkv]; exact Nat.le_refl _⟩
   ·rintro acc i ws σ H9 x' H' hacc hi hz hzl ⟨a,b,rfl,sm',pr⟩ ⟨pt,kx,ky,rfl,npt,rfl,hkv⟩
    obtain ⟨ka,q',eq',rfl,hka,ty,rfl,hty⟩:=kv_at dr2 tp hkv
    have mq:q' ∈ m:=mem_of_getElem? eq'
    have oq:=okm q' mq
    have s9:=l0.new (o:=.tup [.ref ka,.ref ty]) npt
    have hka9:=s9 _ _ (sm' _ _ (tk _ _ hka))
    have hty9:=s9 _ _ (sm' _ _ (tk _ _ hty))
    have sF9:=sm'.trans s9
    refine ⟨pt,_,rfl,SqT.of af,rfl,_,_,rfl,_,_,rfl,rfl,?_⟩
    refine ⟨_,rfl,of2_go hP (hN.mono λo e=>sF9 _ _ (smF _ _ e)) oq.1 oq.2.1 (Nat.lt_trans oq.2.2.2 gm) (λZ z=>⟨_,rfl,z⟩) (λZ z=>⟨_,rfl,ty,_,_,_,rfl,rfl,SqT.of hty9,rfl,_,rfl,ty,_,_,_,rfl,rfl,SqT.of hty9,rfl,z⟩) λr3 H3 s4 a3=>?_⟩
    refine ⟨by show 2<=sizeLine; decide,λt' nt=>?_⟩
    have s5:=l0.new (o:=.tup [.ref ka,r3]) nt
    have hz4:=s5 _ _ (s4 _ _ (s9 _ _ hz))
    have keep4:∀ c o,(upd H3 t' (.tup [.ref ka,r3])) c=some o->c ≠ acc->upd (upd H3 t' (.tup [.ref ka,r3])) acc (.lst (ws++[.ref t'])) c=some o:=λc o e hc=>by rw [am hc]; exact e
    have tk4:∀ c xs,(upd H3 t' (.tup [.ref ka,r3])) c=some (.tup xs)->upd (upd H3 t' (.tup [.ref ka,r3])) acc (.lst (ws++[.ref t'])) c=some (.tup xs):=λc xs e=>keep4 c _ e (bh e hz4 (by intro z; cases z))
    have s45:=s4.trans s5
    refine ⟨ws,hz4,by rw [sizeLine_eq]; omega,_,af,by rw [length_append,length_singleton]; omega,_,_,rfl,λc o e=>keep4 c o (s45 _ _ (sF9 c o e)) (ak e hacc),?_⟩
    have e9:vm P (m.take (i+1))=vm P (m.take i)++[(q'.1,val P q'.2)]:=by
     unfold vm; rw [take_add_one,eq',map_append]; rfl
    rw [e9]
    exact (l6.snoc (p:=(q'.1,val P q'.2)) ⟨t',ka,r3,rfl,af,s45 _ _ hka9,a3.same s5⟩ ((pr.mono λt xs e=>s9 _ _ e).mono λt xs e=>s45 _ _ e)).mono tk4
   ·rintro acc ws σ H' hacc hz hzl ⟨a,b,rfl,sm',pr⟩
    rw [take_length] at pr
    have sH:=smF.trans sm'
    refine ⟨g,x,acc,P,L,ws,vm P m,rfl,hP,⟨dxg,sH _ _ hg'⟩,hN.mono λo e=>sH _ _ e,hz,pr,by unfold vm; rw [length_map]; omega,hU ndv okv,λd' rs out H3 nd' s3 hd' po is=>?_⟩
    exact q d' rs out H3 (sH.free nd') (sH.trans s3) hd' po (isv out is)
theorem sc_times:l8 ["ring", "one", "other"] ["ring", "one", "other"] (aj kW):=.i
theorem ok_timesS {f CF CR CG:Addr} {fd:FuncData} (F:Fun K "times" "times" kW f fd) (rT:FnB P w K mg base 6 "gathered" (spGath CF CR CG)) (qd:FnB P w K mg base 3 "product_terms" (spTerms CF CR CG)):me P w K mg base CX0 7 f fd ["ring", "one", "other"] (bn CF CR CG):=by
 refine F.o sc_times λ_ _ _ _ H _ Q _ hr h=>?_
 ·obtain ⟨g,x,l1,l2,P,L,B,C,M,N,ts1,ts2,ps1,ps2,rfl,hP,L10,hg,hN,h1,p1,h2,p2,n1,n2,n3,c1,c2,hB,hC,hM,hN1,hz,q⟩:=h
  refine ⟨_,(ai (ap (aq rT hr.m (aa (pv 0) (aa (aq qd hr.m (aa (pv 0) (aa (pv 1) (aa (pv 2) ah)))) ah))))),?_⟩
  have hBC:=Nat.mul_pos hB hC
  have hMN:=Nat.mul_pos hM hN1
  have big:∀ {i:Nat} {x:Int × Int},i<=130->Rw (B*C) (i*(M*N)) x->Sz 2900 x:=λ{i x} hi r=>(r.mono (Nat.dvd_refl _) (Nat.mul_le_mul_right _ hi)).sz hBC (Nat.mul_pos (by decide) hMN) hz
  have up:∀ {y:Int × Int},Rw (B*C) (M*N) y->Sz 2900 y:=λr=>big (i:=1) (by decide) (by rw [Nat.one_mul]; exact r)
  have s1:∀ p ∈ ps1,Sz 2900 p.2:=λp hp=>up ((c1.2 p hp).2.1.mono (Nat.dvd_mul_right _ _) (Nat.le_mul_of_pos_right _ hN1))
  have s2:∀ p ∈ ps2,Sz 2900 p.2:=λp hp=>up ((c2.2 p hp).2.1.mono (Nat.dvd_mul_left _ _) (Nat.le_mul_of_pos_left _ hM))
  refine ⟨_,rfl,_,rfl,_,rfl,_,rfl,g,x,l1,l2,P,L,ts1,ts2,ps1,ps2,rfl,hP,hg,hN,h1,p1,h2,p2,n1,n2,λp hp=>⟨s1 p hp,by have:=(c1.2 p hp).2.2.2.1; omega⟩,s2,λd rs H1 nd' s1 hd tr=>?_⟩
  obtain ⟨dxg,hg'⟩:=hg
  have tok:=trms_rw c1 c2
  refine ⟨g,x,d,P,L,rs,gW ps1 ps2,rfl,hP,⟨dxg,s1 _ _ hg'⟩,hN.mono λo e=>s1 _ _ e,hd,tr,by rw [i0]; omega,λq hq=>⟨(tok q hq).1.1,(tok q hq).2,up (tok q hq).1⟩,λi hi p hp=>?_,λd' rs' out H2 nd' s2 hd' po is=>?_⟩
  ·have r:=gath_rw (λq hq=>(tok q hq).1) i hi p hp
   refine ⟨r.1,λh0=>?_,big (by rw [i0] at hi; omega) r⟩
   exact gath_one (λq hq=>(tok q hq).2 h0) (λq hq=>(tok q hq).1.1) i hi p hp
  ·rw [vm_trms] at is
   exact q d' rs' out H2 (s1.free nd') (s1.trans s2) hd' po is
theorem nd_6:(["_law_a", "_law_b"]:List Str).Nodup:=by decide +kernel
theorem dv {α β:Type} {R S:α->β->Prop} (h:∀ x y,R x y->S x y):∀ {xs:List α} {ys:List β},Paired R xs ys->Paired S xs ys
 | _,_,.nil=>.nil
 | _,_,.cons q r=>.cons (h _ _ q) (dv h r)
theorem jh {α β:Type} {R:α->β->Prop}:∀ {xs:List α} {ys:List β} {i:Nat} {x:α},Paired R xs ys->xs[i]? = some x->∃ y,ys[i]? = some y/\R x y
 | _,_,0,x,.cons q r,e=>by cases e; exact ⟨_,rfl,q⟩
 | _::_,_::_,i+1,x,.cons q r,e=>jh (i:=i) r e
theorem eP {α β:Type} {R:α->β->Prop} {x:α} {y:β} (h:R x y):∀ {xs:List α} {ys:List β},Paired R xs ys->Paired R (xs++[x]) (ys++[y])
 | _,_,.nil=>.cons h .nil
 | _,_,.cons q r=>.cons q (eP h r)
def mw (av:List Addr) (H H':Hp):Prop:=(∀ t xs,H t=some (.tup xs)->H' t=some (.tup xs))/\∀ c o,H c=some o->c ∉ av->H' c=some o
theorem mw.of {av:List Addr} {H H':Hp} (s:l0 H H'):mw av H H':=⟨λt xs e=>s _ _ e,λc o e _=>s c o e⟩
theorem mw.trans {av:List Addr} {H H1 H2:Hp} (a:mw av H H1) (b:mw av H1 H2):mw av H H2:=⟨λt xs e=>b.1 t xs (a.1 t xs e),λc o e hc=>b.2 c o (a.2 c o e hc) hc⟩
theorem mw.bag {av:List Addr} {p:Addr} {H H':Hp} {xs:List V} (hp:H p=some (.lst xs)) (k:∀ c o,H c=some o->c ≠ p->H' c=some o) (m:p ∈ av):mw av H H':=
 ⟨λt ys e=>k t _ e (bh e hp (by intro z; cases z)),λc o e hc=>k c o e λz=>hc (by rw [z]; exact m)⟩
theorem mw.put {av:List Addr} {r:Addr} {H:Hp} {xs ys:List V} (h:H r=some (.lst xs)) (m:r ∈ av):mw av H (upd H r (.lst ys)):=mw.bag h (λc o e hc=>by rw [am hc]; exact e) m
def spLTimes:Sp:=λvs H Q _=>∃ (l l2:Addr) (P:Int) (ts us:List V) (ps qs:List al),vs=[.int P,.ref l,.ref l2]/\l7 P/\H l=some (.lst ts)/\l6 P H ts ps/\H l2=some (.lst us)/\l6 P H us qs/\ps.length*qs.length<=60/\(∀ p ∈ ps,OkN P p.2/\Sz 2900 p.2/\p.1.length<=10)/\(∀ p ∈ qs,OkN P p.2/\Sz 2900 p.2)/\eN P (prods P ps qs)/\
 ∀ (d:Addr) (rs:List V) (out:List al) (H':Hp),H d=none->l0 H H'->H' d=some (.lst rs)->l6 P H' rs out->mh P (prods P ps qs) out->Q (.ref d) H'
theorem gv (P:Int) (ps qs:List al):(prods P ps qs).length=ps.length*qs.length:=by
 unfold prods ji
 induction ps with
 | nil=>simp
 | cons a r ih=>
  rw [List.flatMap_cons,length_append,ih,length_map,length_cons,Nat.add_mul]
  omega
theorem prods_snoc (P:Int) (ps:List al) (a:al) (qs:List al):prods P (ps++[a]) qs=prods P ps qs++ji P a qs:=by
 unfold prods
 rw [flatMap_append]
 simp
theorem mM:l8 ["_law_prime_here", "_law_one", "_law_other", "_law_parts_here", "_law_product", "_law_number_here", "_law_there", "_law_second"] ["_law_prime_here", "_law_one", "_law_other"] (aj bL):=.i
set_option maxHeartbeats 1000000 in
theorem ok_ltimesS {f:Addr} {fd:FuncData} (F:Fun K "_law_sum_times" "_law_sum_times" bL f fd) (T:Blt mg) (on:FnB P w K mg base 2 "_law_times" (g8 bf)) (oH:FnB P w K mg base 4 "_law_sum" kU):me P w K mg base CX0 5 f fd ["_law_prime_here", "_law_one", "_law_other"] spLTimes:=by
 refine F.o mM λ_ _ _ _ H _ Q _ hr h=>?_
 ·obtain ⟨l,l2,P,ts,us,ps,qs,rfl,hP,hl,pr,hl2,pr2,hn,okp,okq,sok,q⟩:=h
  refine ⟨_,(ag (ar (i:=3) mM.nd rfl (Or.inl rfl) (ci ah))
(ag (bG PassesOwn.never rfl (bo K rfl (pv 1)) (bI K (i:=4) (j:=5) rfl rfl mM.nd rfl rfl rfl rfl)
(ai (bG PassesOwn.never rfl (bo K rfl (pv 2)) (bI K (i:=6) (j:=7) rfl rfl mM.nd rfl rfl rfl rfl)
(ai (iA (bmA K rfl (pv 3) (aa (bp (aa (gB K T (by exact fj (N:=["_law_a", "_law_b"]) (src:=[none,none]) rfl rfl rfl (by exact (lS K true true rfl rfl T.zip (aa (pv 4) (aa (pv 6) ah)))) (λ_ _ _=>by exact ⟨by exact (bI K (i:=0) (j:=1) rfl rfl nd_6 rfl rfl rfl rfl),di,by exact (ao aP (pv 0) (pv 1))⟩))) (aa (aq on hr.m (aa (pv 0) (aa (pv 5) (aa (pv 7) ah)))) ah))) ah)))))))
(ai (ap (aq oH hr.m (aa (pv 0) (aa (pv 3) ah))))))),?_⟩
  refine ⟨Nat.zero_le _,λd nd=>?_⟩
  have s1:=l0.new (o:=.lst []) nd
  have hd1:(upd H d (.lst [])) d=some (.lst []):=af
  generalize upd H d (.lst [])=H1 at *
  have lt:ts.length=ps.length:=Paired.length pr
  have lu:us.length=qs.length:=Paired.length pr2
  refine ⟨_,rfl,l,rfl,⟨_,SqL.of (s1 _ _ hl)⟩,cX (xs:=ts) (λi σ H'=>∃ (ws:List V) (x4 x5 x6 x7:Option V),σ=[some (.int P),some (.ref l),some (.ref l2),some (.ref d),x4,x5,x6,x7]/\l0 H H'/\H' d=some (.lst ws)/\l6 P H' ws (prods P (ps.take i) qs)) ?_ ?_ ?_ ?_⟩
  ·exact ⟨[],none,none,none,none,rfl,s1,hd1,by rw [take_zero]; exact .nil⟩
  ·rintro i σ H' _ ⟨ws,x4,x5,x6,x7,rfl,sm,_⟩
   exact SqL.of (sm _ _ hl)
  ·rintro i v σ H2 hx ⟨ws,x4,x5,x6,x7,rfl,sm,hd2,pw⟩ N0 B0 hN0
   obtain ⟨a,ea,ta,ka,ua,rfl,h1,h2,h3⟩:=pr.at_ hx
   have ma:a ∈ ps:=mem_of_getElem? ea
   refine ⟨ta,_,rfl,SqT.of (sm _ _ h1),rfl,_,_,rfl,_,_,rfl,rfl,?_⟩
   refine ⟨_,rfl,l2,rfl,⟨_,SqL.of (sm _ _ hl2)⟩,cX (xs:=us) (λj σ H'=>∃ (ws:List V) (x6 x7:Option V),σ=[some (.int P),some (.ref l),some (.ref l2),some (.ref d),some (.ref ka),some ua,x6,x7]/\l0 H H'/\H' d=some (.lst ws)/\l6 P H' ws (prods P (ps.take i) qs++ji P a (qs.take j))) ?_ ?_ ?_ ?_⟩
   ·exact ⟨ws,_,_,rfl,sm,hd2,by rw [take_zero,show ji P a []=[] from rfl,append_nil]; exact pw⟩
   ·rintro j σ H' _ ⟨ws,x6,x7,rfl,sm,_⟩
    exact SqL.of (sm _ _ hl2)
   ·rintro j v σ H3 hy ⟨ws3,y6,y7,rfl,sm3,hd3,pw3⟩ N1 B1 hN1
    obtain ⟨b,eb,tb,kb,ub,rfl,g1,g2,g3⟩:=pr2.at_ hy
    have mb:b ∈ qs:=mem_of_getElem? eb
    refine ⟨tb,_,rfl,SqT.of (sm3 _ _ g1),rfl,_,_,rfl,_,_,rfl,rfl,?_⟩
    refine ⟨_,rfl,.inl ⟨rfl,_,SqL.of hd3⟩,?_⟩
    have lk:(a.1.map V.int).length<=sizeLine:=by rw [length_map,sizeLine_eq]; have:=(okp a ma).2.2; omega
    refine ⟨_,rfl,_,rfl,ka,kb,rfl,⟨_,hX (SqT.of (sm3 _ _ h2))⟩,⟨_,hX (SqT.of (sm3 _ _ g2))⟩,comp_zip (v2 λi j=>.int (i+j)) rfl (hX (SqT.of (sm3 _ _ h2))) (hX (SqT.of (sm3 _ _ g2))) lk (λi x y H4 R hx hy s4 hR=>?_) (λacc H4 hacc s4 hl4=>?_)⟩
    ·obtain ⟨z,_,rfl⟩:=dJ hx
     obtain ⟨z',_,rfl⟩:=dJ hy
     exact ⟨_,rfl,_,rfl,_,_,rfl,rfl,hR⟩
    ·rw [zip_v2,zw_map V.int] at hl4
     refine ⟨acc,_,rfl,SqL.of hl4,λt5 n5=>?_⟩
     have s5:=l0.new (o:=.tup ((List.zipWith (· + ·) a.1 b.1).map V.int)) n5
     have h5:(upd H4 t5 (.tup ((List.zipWith (· + ·) a.1 b.1).map V.int))) t5=some (.tup ((List.zipWith (· + ·) a.1 b.1).map V.int)):=af
     generalize upd H4 t5 (.tup ((List.zipWith (· + ·) a.1 b.1).map V.int))=H5 at *
     have s35:=s4.trans s5
     have sm5:=sm3.trans s35
     refine ⟨_,rfl,_,rfl,_,rfl,P,ua,ub,a.2,b.2,rfl,hP,h3.same sm5,g3.same sm5,(okp a ma).1,(okq b mb).1,(okp a ma).2.1,(okq b mb).2,λu6 H6 s6 a6=>?_⟩
     refine ⟨(by show 2<=sizeLine; decide),λt7 n7=>?_⟩
     have s7:=l0.new (o:=.tup [.ref t5,u6]) n7
     have h7:(upd H6 t7 (.tup [.ref t5,u6])) t7=some (.tup [.ref t5,u6]):=af
     generalize upd H6 t7 (.tup [.ref t5,u6])=H7 at *
     have s37:=(s35.trans s6).trans s7
     have hd7:=s37 _ _ hd3
     have lw:ws3.length<=60:=by
      have e:=Paired.length pw3
      have e1:=gv P (ps.take i) qs
      have e2:(ji P a (qs.take j)).length=(qs.take j).length:=length_map _
      rw [length_append,e1,e2,length_take,length_take] at e
      have il:i<ps.length:=(List.getElem?_eq_some_iff.mp ea).1
      have jl:j<qs.length:=(List.getElem?_eq_some_iff.mp eb).1
      rw [Nat.min_eq_left (Nat.le_of_lt il),Nat.min_eq_left (Nat.le_of_lt jl)] at e
      have e3:(i+1)*qs.length<=ps.length*qs.length:=Nat.mul_le_mul_right _ il
      rw [Nat.add_mul] at e3
      omega
     refine ⟨d,_,_,rfl,rfl,hd7,by rw [sizeLine_eq]; omega,?_⟩
     have kc:mw [d] H7 (upd H7 d (.lst (ws3++[.ref t7]))):=mw.put hd7 (by simp)
     refine hN1 _ _ ⟨ws3++[.ref t7],_,_,rfl,λc o e=>?_,af,?_⟩
     ·rw [am (ak e nd)]
      exact s37 _ _ (sm3 _ _ e)
     ·have e8:ji P a (qs.take (j+1))=ji P a (qs.take j)++[(bx a.1 b.1,bf P a.2 b.2)]:=by
       unfold ji
       rw [take_add_one,eb,map_append]
       rfl
      rw [e8,<- append_assoc]
      exact l6.snoc ⟨t7,t5,u6,rfl,kc.1 _ _ h7,kc.1 _ _ (s7 _ _ (s6 _ _ h5)),(a6.same s7).mono kc.1⟩ ((pw3.mono λt xs e=>s37 _ _ e).mono kc.1)
   ·rintro σ H3 ⟨ws3,y6,y7,rfl,sm3,hd3,pw3⟩
    refine hN0 _ _ ⟨ws3,_,_,_,_,rfl,sm3,hd3,?_⟩
    rw [lu,take_length] at pw3
    rw [take_add_one,ea]
    rw [show ps.take i++(some a).toList=ps.take i++[a] from rfl,prods_snoc]
    exact pw3
  ·rintro σ H2 ⟨ws,x4,x5,x6,x7,rfl,sm,hd2,pw⟩
   rw [lt,take_length] at pw
   refine ⟨_,rfl,_,rfl,d,P,ws,_,rfl,hP,hd2,pw,by rw [gv]; exact hn,sok,λdd rs out H3 n3 s3 hd3 po is=>?_⟩
   exact q dd rs out H3 (sm.free n3) (sm.trans s3) hd3 po is
theorem l6.app {P:Int} {H:Hp} {bs:List V} {qs:List al} (h2:l6 P H bs qs):∀ {vs:List V} {ps:List al},l6 P H vs ps->l6 P H (vs++bs) (ps++qs)
 | _,_,.nil=>h2
 | _,_,.cons q r=>.cons q (l6.app h2 r)
def ja (CF CR CG:Addr):Sp:=λvs H Q _=>∃ (g x l1 l2:Addr) (P L:Int) (ts1 ts2:List V) (ps1 ps2:List al),vs=[.ref g,.ref l1,.ref l2]/\l7 P/\cS CG H g x L/\mH CF CR H x P/\H l1=some (.lst ts1)/\l6 P H ts1 ps1/\H l2=some (.lst ts2)/\l6 P H ts2 ps2/\ps1.length+ps2.length<=200/\eN P (ps1++ps2)/\
 ∀ (d:Addr) (rs:List V) (out:List al) (H':Hp),H d=none->l0 H H'->H' d=some (.lst rs)->l6 P H' rs out->mh P (ps1++ps2) out->Q (.ref d) H'
theorem sc_plus:l8 ["ring", "one", "other"] ["ring", "one", "other"] (aj s_plus):=.i
theorem ok_plus {f CF CR CG:Addr} {fd:FuncData} (F:Fun K "plus" "plus" s_plus f fd) (qE:FnB P w K mg base 5 "sum_of" (spSum CF CR CG)):me P w K mg base CX0 6 f fd ["ring", "one", "other"] (ja CF CR CG):=by
 refine F.o sc_plus λ_ _ _ _ H _ Q _ hr h=>?_
 ·obtain ⟨g,x,l1,l2,P,L,ts1,ts2,ps1,ps2,rfl,hP,hg,hN,h1,p1,h2,p2,hn,hok,q⟩:=h
  refine ⟨_,(ai (ap (aq qE hr.m (aa (pv 0) (aa (ao op_cat (pv 1) (pv 2)) ah))))),?_⟩
  have n1:ts1.length=ps1.length:=Paired.length p1
  have n2:ts2.length=ps2.length:=Paired.length p2
  refine ⟨_,rfl,_,rfl,_,rfl,l1,l2,ts1,ts2,rfl,rfl,h1,h2,by rw [sizeLine_eq]; omega,λc nc=>?_⟩
  have s1:=l0.new (o:=.lst (ts1++ts2)) nc
  obtain ⟨dxg,hg'⟩:=hg
  refine ⟨g,x,c,P,L,_,ps1++ps2,rfl,hP,⟨dxg,s1 _ _ hg'⟩,hN.mono λo e=>s1 _ _ e,af,l6.app (p2.mono λt xs e=>s1 _ _ e) (p1.mono λt xs e=>s1 _ _ e),by rw [length_append]; exact hn,hok,λd rs out H' nd s2 hd po is=>?_⟩
  exact q d rs out H' (s1.free nd) (s1.trans s2) hd po is
def gJ (P:Int) (x:Int × Int):Nat->Int × Int
 | 0=>(1,1)
 | n+1=>bf P (gJ P x n) x
theorem k7 {P:Int} (hP:l7 P) {x:Int × Int} (ox:OkN P x):∀ n,OkN P (gJ P x n)
 | 0=>okN_1 hP
 | n+1=>iC hP.b.1 (k7 hP ox n) ox
theorem rw_one {B M:Nat} (hM:1<=M):Rw B M (1,1):=⟨Int.one_pos,Nat.one_dvd _,by show 1<=M*1; omega⟩
theorem pow_rw {P:Int} (hP:l7 P) {x:Int × Int} (rx:Rw 6 (2 ^ 14) x):∀ n,Rw (6 ^ n) (2 ^ (14*n)) (gJ P x n)
 | 0=>rw_one (Nat.le_refl 1)
 | n+1=>by
  have:=lD hP (M:=2 ^ (14*n)) (N:=2 ^ 14) (Nat.le_mul_of_pos_left _ (Nat.pow_pos (by decide))) (pow_rw hP rx n) rx
  rw [<- Nat.pow_add,<- Nat.pow_succ] at this
  exact this
theorem pow_sz {P:Int} (hP:l7 P) {x:Int × Int} (rx:Rw 6 (2 ^ 14) x) {n:Nat} (hn:n<=8):Sz 2900 (gJ P x n):=by
 refine (pow_rw hP rx n).sz (Nat.pow_pos (by decide)) (Nat.pow_pos (by decide)) ?_
 have h6:6 ^ n<=2 ^ (3*n):=by rw [Nat.pow_mul]; exact Nat.pow_le_pow_left (by decide) n
 refine Nat.lt_of_le_of_lt (Nat.mul_le_mul_left _ h6) ?_
 rw [<- Nat.pow_add]
 exact Nat.pow_lt_pow_right (by decide) (by omega)
def spPow:Sp:=λvs H Q _=>∃ (P:Int) (v:V) (x:Int × Int) (n:Nat),vs=[.int P,v,.int n]/\l7 P/\At P H v x/\OkN P x/\Rw 6 (2 ^ 14) x/\n<=8/\∀ r H',l0 H H'->At P H' r (gJ P x n)->Q r H'
theorem mZ:l8 ["_law_prime_here", "_law_number_here", "_law_many", "_law_found", "_law_k"] ["_law_prime_here", "_law_number_here", "_law_many"] (aj dF):=.i
theorem ok_power {f:Addr} {fd:FuncData} (F:Fun K "_law_power" "_law_power" dF f fd) (T:Blt mg) (rM:FnB P w K mg base 1 "_law_unit" spUnit) (on:FnB P w K mg base 2 "_law_times" (g8 bf)):me P w K mg base CX0 3 f fd ["_law_prime_here", "_law_number_here", "_law_many"] spPow:=by
 refine F.o mZ λ_ _ _ _ H _ Q _ hr h=>?_
 ·obtain ⟨P,v,x,n,rfl,hP,av,ox,rx,n8,q⟩:=h
  refine ⟨_,(ag (ar (i:=3) mZ.nd rfl (Or.inl rfl) (aq rM hr.m (aa (pv 0) ah)))
(ag (bG PassesOwn.never rfl (db rfl T.range (aa (pv 2) ah)) (bw (i:=4) mZ.nd rfl (Or.inl rfl))
(ai (ar (i:=3) mZ.nd rfl (Or.inl rfl) (aq on hr.m (aa (pv 0) (aa (pv 3) (aa (pv 1) ah)))))))
(ai (ap (pv 3))))),?_⟩
  refine ⟨_,rfl,P,rfl,hP,λr H1 s1 a1=>?_⟩
  have sz:∀ i,i<=8->Sz 2900 (gJ P x i):=λi hi=>pow_sz hP rx hi
  refine ⟨_,rfl,(n:Int),rfl,by omega,by omega,fo (n:=n) (λi σ H'=>∃ (y5:Option V) (u:V),σ=[some (.int P),some v,some (.int n),some u,y5]/\l0 H H'/\At P H' u (gJ P x i)) ?_ ?_ ?_⟩
  ·exact ⟨none,r,rfl,s1,a1⟩
  ·rintro i σ H2 hi ⟨y5,u,rfl,s2,a2⟩
   refine ⟨_,rfl,_,rfl,_,rfl,P,u,v,gJ P x i,x,rfl,hP,a2,av.same s2,k7 hP ox i,ox,sz i (by omega),rx.sz (by decide) (by decide) (by decide),λr3 H3 s3 a3=>?_⟩
   exact ⟨_,r3,rfl,s2.trans s3,a3⟩
  ·rintro σ H2 ⟨y5,u,rfl,s2,a2⟩
   exact ⟨_,rfl,q u H2 s2 a2⟩
def wpt (P:Int) (xs:List (Int × Int)) (y:Int × Int) (es:List Int):Int × Int:=(xs.zip es).foldl (λu q=>bf P u (gJ P q.1 q.2.toNat)) y
def wth (P:Int) (xs:List (Int × Int)) (ps:List al):Int × Int:=ps.foldl (λu p=>aU P u (wpt P xs p.2 p.1)) (0,1)
theorem wpt_take {P:Int} {xs:List (Int × Int)} {y x:Int × Int} {es:List Int} {j:Nat} {e:Int} (hx:xs[j]? = some x) (he:es[j]? = some e):wpt P (xs.take (j+1)) y (es.take (j+1))=bf P (wpt P (xs.take j) y (es.take j)) (gJ P x e.toNat):=by
 unfold wpt
 rw [take_add_one,take_add_one,hx,he]
 have l1:(xs.take j).length=(es.take j).length:=by
  have a:=(List.getElem?_eq_some_iff.mp hx).1
  have b:=(List.getElem?_eq_some_iff.mp he).1
  rw [length_take,length_take]
  omega
 rw [List.zip_append l1,foldl_append]
 rfl
theorem wth_take {P:Int} {xs:List (Int × Int)} {ps:List al} {i:Nat} {p:al} (h:ps[i]? = some p):wth P xs (ps.take (i+1))=aU P (wth P xs (ps.take i)) (wpt P xs p.2 p.1):=by
 unfold wth
 rw [take_add_one,h,foldl_append]
 rfl
theorem bC:∀ {es:List Int} (j:Nat),(∀ e ∈ es,0<=e)->0<=(es.take j).sum/\(es.take j).sum<=es.sum
 | [],j,_=>by simp
 | e::es,0,h=>by
  have:=bC (es:=es) es.length λx hx=>h x (by simp [hx])
  rw [take_length] at this
  have:=h e (by simp)
  simp
  omega
 | e::es,j+1,h=>by
  have:=bC (es:=es) j λx hx=>h x (by simp [hx])
  have:=h e (by simp)
  simp
  omega
theorem wpt_rw {P:Int} (hP:l7 P) {xs:List (Int × Int)} {y:Int × Int} {es:List Int} {B M:Nat} (hM:2 ^ 14<=M) (oy:OkN P y) (ry:Rw B M y) (hx:∀ x ∈ xs,OkN P x/\Rw 6 (2 ^ 14) x) (he:∀ e ∈ es,0<=e) (hl:xs.length=es.length):∀ j,j<=es.length->OkN P (wpt P (xs.take j) y (es.take j))/\Rw (B*6 ^ (es.take j).sum.toNat) (M*2 ^ (14*(es.take j).sum.toNat)) (wpt P (xs.take j) y (es.take j))
 | 0,_=>by simpa [wpt] using ⟨oy,ry⟩
 | j+1,hj=>by
  obtain ⟨o1,r1⟩:=wpt_rw hP hM oy ry hx he hl j (by omega)
  have ex:xs[j]? = some xs[j]:=getElem?_eq_getElem (by omega)
  have ee:es[j]? = some es[j]:=getElem?_eq_getElem (by omega)
  obtain ⟨ox,rx⟩:=hx _ (getElem_mem (by omega:j<xs.length))
  have e0:=he _ (getElem_mem (by omega:j<es.length))
  have s0:=(bC j he).1
  rw [wpt_take ex ee]
  refine ⟨iC hP.b.1 o1 (k7 hP ox _),?_⟩
  have e1:(es.take (j+1)).sum.toNat=(es.take j).sum.toNat+es[j].toNat:=by
   have e2:(es.take (j+1)).sum=(es.take j).sum+es[j]:=by
    rw [take_add_one,ee,sum_append]
    simp
   rw [e2,Int.toNat_add s0 e0]
  have:=lD hP (Nat.le_trans hM (Nat.le_trans (Nat.le_mul_of_pos_right M (Nat.pow_pos (n:=14*(es.take j).sum.toNat) (by decide:0<2))) (Nat.le_mul_of_pos_right _ (Nat.pow_pos (by decide:0<2))))) r1 (pow_rw hP rx es[j].toNat)
  rw [Nat.mul_assoc,<- Nat.pow_add,Nat.mul_assoc,<- Nat.pow_add,<- Nat.mul_add,<- e1] at this
  exact this
structure mU (P L:Int) (B M:Nat) (ps:List al) (xs:List (Int × Int)):Prop where
 len:ps.length<=30
 can:CanR P L B M ps
 B0:0<B
 M14:2 ^ 14<=M
 deg:∀ p ∈ ps,p.1.sum<=8
 pt:∀ x ∈ xs,OkN P x/\Rw 6 (2 ^ 14) x
 lx:(xs.length:Int)=L
 sz:31*(M*2 ^ 112)*(B*6 ^ 8)<2 ^ 2900
theorem mU.one {P L:Int} (hP:l7 P) {B M:Nat} {ps:List al} {xs:List (Int × Int)} (h:mU P L B M ps xs) {p:al} (hp:p ∈ ps) (j:Nat) (hj:j<=p.1.length):OkN P (wpt P (xs.take j) p.2 (p.1.take j))/\Rw (B*6 ^ 8) (M*2 ^ 112) (wpt P (xs.take j) p.2 (p.1.take j)):=by
 obtain ⟨op,rp,_,lp,np⟩:=h.can.2 p hp
 have:=h.lx
 obtain ⟨o,r⟩:=wpt_rw hP h.M14 op rp h.pt np (by omega) j hj
 have s:=bC j np
 have d:=h.deg p hp
 exact ⟨o,r.mono (Nat.mul_dvd_mul_left _ (Nat.pow_dvd_pow 6 (by omega))) (Nat.mul_le_mul_left _ (Nat.pow_le_pow_right (by decide) (by omega)))⟩
theorem mU.all {P L:Int} (hP:l7 P) {B M:Nat} {ps:List al} {xs:List (Int × Int)} (h:mU P L B M ps xs):∀ i,i<=ps.length->OkN P (wth P xs (ps.take i))/\Rw (B*6 ^ 8) ((i+1)*(M*2 ^ 112)) (wth P xs (ps.take i))
 | 0,_=>by
  refine ⟨ce hP.b.1 hP.b.2.2,Int.one_pos,Nat.one_dvd _,?_⟩
  show (0:Int).natAbs<=_
  simp
 | i+1,hi=>by
  obtain ⟨o,r⟩:=mU.all hP h i (by omega)
  have ep:ps[i]? = some ps[i]:=getElem?_eq_getElem (by omega)
  have mp:=getElem_mem (by omega:i<ps.length)
  have lp:=(h.can.2 _ mp).2.2.2.1
  have lx:=h.lx
  obtain ⟨o1,r1⟩:=h.one hP mp ps[i].1.length (Nat.le_refl _)
  rw [take_length,take_of_length_le (by omega)] at o1 r1
  rw [wth_take ep]
  refine ⟨lJ hP.b.1 o o1,?_⟩
  rw [Nat.add_mul _ 1,Nat.one_mul]
  refine rw_addN hP ?_ r r1
  refine Nat.le_trans h.M14 (Nat.le_trans (Nat.le_mul_of_pos_right M (Nat.pow_pos (n:=112) (by decide:0<2))) (Nat.le_mul_of_pos_left _ (by omega)))
theorem mU.z {P L:Int} {B M i:Nat} {ps:List al} {xs:List (Int × Int)} {x:Int × Int} (h:mU P L B M ps xs) (hi:i<=31) (r:Rw (B*6 ^ 8) (i*(M*2 ^ 112)) x):Sz 2900 x:=by
 have hM:1<=M:=Nat.le_trans (by decide) h.M14
 exact (r.mono (Nat.dvd_refl _) (Nat.mul_le_mul_right _ hi)).sz (Nat.mul_pos h.B0 (Nat.pow_pos (by decide))) (Nat.mul_pos (by decide) (Nat.mul_pos hM (Nat.pow_pos (by decide)))) h.sz
def fq:Sp:=λvs H Q _=>∃ (P L:Int) (B M:Nat) (l lp:Addr) (ts us:List V) (ps:List al) (xs:List (Int × Int)),vs=[.int P,.ref l,.ref lp]/\l7 P/\L<=4/\H l=some (.lst ts)/\l6 P H ts ps/\H lp=some (.lst us)/\Paired (At P H) us xs/\mU P L B M ps xs/\∀ r H',l0 H H'->At P H' r (wth P xs ps)->Q r H'
theorem mJ:l8 ["_law_prime_here", "_law_one", "_law_point", "_law_found", "_law_product", "_law_number_here", "_law_letter", "_law_many"] ["_law_prime_here", "_law_one", "_law_point"] (aj dD):=.i
theorem ok_worth {f:Addr} {fd:FuncData} (F:Fun K "_law_worth" "_law_worth" dD f fd) (T:Blt mg) (oC:FnB P w K mg base 1 "_law_nought" jr) (on:FnB P w K mg base 2 "_law_times" (g8 bf)) (pj:FnB P w K mg base 2 "_law_plus" (g8 aU)) (qU:FnB P w K mg base 3 "_law_power" spPow):me P w K mg base CX0 4 f fd ["_law_prime_here", "_law_one", "_law_point"] fq:=by
 refine F.o mJ λ_ _ _ _ H _ Q _ hr h=>?_
 ·obtain ⟨P,L,B,M,l,lp,ts,us,ps,xs,rfl,hP,L4,hl,pr,hlp,pu,W,q⟩:=h
  refine ⟨_,(ag (ar (i:=3) mJ.nd rfl (Or.inl rfl) (aq oC hr.m (aa (pv 0) ah)))
(ag (bG PassesOwn.never rfl (bo K rfl (pv 1)) (bI K (i:=4) (j:=5) rfl rfl mJ.nd rfl rfl rfl rfl)
(ag (bG PassesOwn.never rfl (lS K false true rfl rfl T.zip (aa (pv 2) (aa (pv 4) ah))) (bI K (i:=6) (j:=7) rfl rfl mJ.nd rfl rfl rfl rfl)
(ai (ar (i:=5) mJ.nd rfl (Or.inl rfl) (aq on hr.m (aa (pv 0) (aa (pv 5) (aa (aq qU hr.m (aa (pv 0) (aa (pv 6) (aa (pv 7) ah)))) ah)))))))
(ai (ar (i:=3) mJ.nd rfl (Or.inl rfl) (aq pj hr.m (aa (pv 0) (aa (pv 3) (aa (pv 5) ah))))))))
(ai (ap (pv 3))))),?_⟩
  have lt:ts.length=ps.length:=Paired.length pr
  have lu:us.length=xs.length:=Paired.length pu
  have lxs:=W.lx
  refine ⟨_,rfl,P,rfl,hP,λr H1 s1 a1=>?_⟩
  refine ⟨_,rfl,l,rfl,⟨_,SqL.of (s1 _ _ hl)⟩,cX (xs:=ts) (λi σ H'=>∃ (x4 x5 x6 x7:Option V) (u:V),σ=[some (.int P),some (.ref l),some (.ref lp),some u,x4,x5,x6,x7]/\l0 H H'/\At P H' u (wth P xs (ps.take i))) ?_ ?_ ?_ ?_⟩
  ·exact ⟨none,none,none,none,r,rfl,s1,a1⟩
  ·rintro i σ H' _ ⟨x4,x5,x6,x7,u,rfl,sm,_⟩
   exact SqL.of (sm _ _ hl)
  ·rintro i v σ H2 hx ⟨x4,x5,x6,x7,u,rfl,sm,au⟩ N0 B0 hN0
   obtain ⟨p,ep,tp,kp,up,rfl,h1,h2,h3⟩:=pr.at_ hx
   have mp:p ∈ ps:=mem_of_getElem? ep
   have ip:i<ps.length:=(List.getElem?_eq_some_iff.mp ep).1
   obtain ⟨op,rp,_,lpp,np⟩:=W.can.2 p mp
   refine ⟨tp,_,rfl,SqT.of (sm _ _ h1),rfl,_,_,rfl,_,_,rfl,rfl,?_⟩
   have lm:(p.1.map V.int).length=p.1.length:=length_map ..
   refine ⟨_,rfl,_,rfl,lp,kp,rfl,⟨_,sqvL (SqL.of (sm _ _ hlp))⟩,⟨_,hX (SqT.of (sm _ _ h2))⟩,for_zipN (xs:=us) (ys:=p.1.map V.int) (λj σ H'=>∃ (x6 x7:Option V) (y:V),σ=[some (.int P),some (.ref l),some (.ref lp),some u,some (.ref kp),some y,x6,x7]/\l0 H2 H'/\At P H' y (wpt P (xs.take j) p.2 (p.1.take j))) ?_ ?_ ?_ ?_⟩
   ·exact ⟨_,_,up,rfl,l0.refl _,by rw [take_zero,take_zero]; exact h3.same sm⟩
   ·rintro j σ H' _ ⟨x6,x7,y,rfl,s3,_⟩
    exact ⟨sqvL (SqL.of (s3 _ _ (sm _ _ hlp))),hX (SqT.of (s3 _ _ (sm _ _ h2)))⟩
   ·rintro j v e σ H3 t3 hv he ⟨x6,x7,y,rfl,s3,ay⟩ n3 N1 B1 hN1
    obtain ⟨x,ex,av⟩:=jh pu hv
    obtain ⟨z,ez,rfl⟩:=dJ he
    have z0:0<=z:=np z (mem_of_getElem? ez)
    have z8:z<=8:=by
     have hs:=bC (j+1) np
     have hs':=bC j np
     rw [take_add_one,ez] at hs
     simp at hs
     have:=W.deg p mp
     omega
    obtain ⟨n,rfl⟩:=Int.eq_ofNat_of_zero_le z0
    have s4:=l0.new (o:=.tup [v,.int (n:Int)]) n3
    have h4:(upd H3 t3 (.tup [v,.int (n:Int)])) t3=some (.tup [v,.int (n:Int)]):=af
    generalize upd H3 t3 (.tup [v,.int (n:Int)])=H4 at *
    obtain ⟨ox,rx⟩:=W.pt x (mem_of_getElem? ex)
    have sm4:=(sm.trans s3).trans s4
    refine ⟨t3,_,rfl,SqT.of h4,rfl,_,_,rfl,_,_,rfl,rfl,?_⟩
    refine ⟨_,rfl,_,rfl,_,rfl,_,rfl,_,rfl,P,v,x,n,rfl,hP,av.same sm4,ox,rx,by omega,λr5 H5 s5 a5=>?_⟩
    obtain ⟨o6,r6⟩:=W.one hP mp j (by have:=(List.getElem?_eq_some_iff.mp ez).1; omega)
    refine ⟨P,y,r5,_,_,rfl,hP,(ay.same s4).same s5,a5,o6,k7 hP ox n,W.z (i:=1) (by decide) (by rw [Nat.one_mul]; exact r6),pow_sz hP rx (by omega),λr7 H7 s7 a7=>?_⟩
    refine hN1 _ _ ⟨_,_,r7,rfl,((s3.trans s4).trans s5).trans s7,?_⟩
    rw [wpt_take ex ez]
    exact a7
   ·rintro σ H3 ⟨x6,x7,y,rfl,s3,ay⟩
    rw [lu,lm,show min xs.length p.1.length=p.1.length by omega,take_length,take_of_length_le (by omega)] at ay
    obtain ⟨o6,r6⟩:=W.one hP mp p.1.length (Nat.le_refl _)
    rw [take_length,take_of_length_le (by omega)] at o6 r6
    obtain ⟨o7,r7⟩:=W.all hP i (by omega)
    have:=W.len
    refine ⟨_,rfl,_,rfl,_,rfl,P,u,y,_,_,rfl,hP,au.same s3,ay,o7,o6,W.z (by omega) r7,W.z (i:=1) (by decide) (by rw [Nat.one_mul]; exact r6),λr8 H8 s8 a8=>?_⟩
    refine hN0 _ _ ⟨_,_,_,_,r8,rfl,(sm.trans s3).trans s8,?_⟩
    rw [wth_take ep]
    exact a8
  ·rintro σ H2 ⟨x4,x5,x6,x7,u,rfl,sm,au⟩
   rw [lt,take_length] at au
   exact ⟨_,rfl,q u H2 sm au⟩
section
variable {P:Int} (hP:l7 P)
def dG (x:Nb P):Nat->Nb P
 | 0=>(nb hP).one
 | n+1=>(nb hP).mul (dG x n) x
theorem cpow_v (x:Nb P):∀ n,(dG hP x n).1=gJ P x.1 n
 | 0=>rfl
 | n+1=>by
  show bf P (dG hP x n).1 x.1=bf P (gJ P x.1 n) x.1
  rw [cpow_v x n]
theorem cpow_add (x:Nb P) (m:Nat):∀ n,dG hP x (m+n)=(nb hP).mul (dG hP x m) (dG hP x n)
 | 0=>by
  show dG hP x m=(nb hP).mul (dG hP x m) (nb hP).one
  rw [(nb hP).mul_comm,(nb hP).one_mul]
 | n+1=>by
  show (nb hP).mul (dG hP x (m+n)) x=(nb hP).mul (dG hP x m) ((nb hP).mul (dG hP x n) x)
  rw [cpow_add x m n,(nb hP).mul_assoc]
def chi:List (Nb P)->List Int->Nb P
 | x::xs,e::es=>(nb hP).mul (dG hP x e.toNat) (chi xs es)
 | _,_=>(nb hP).one
theorem mul_one' (x:Nb P):(nb hP).mul x (nb hP).one=x:=by rw [(nb hP).mul_comm,(nb hP).one_mul]
theorem wpt_chi:∀ (xs:List (Nb P)) (y:Nb P) (es:List Int),wpt P (xs.map (·.1)) y.1 es=((nb hP).mul y (chi hP xs es)).1
 | [],y,es=>by
  show y.1=((nb hP).mul y (nb hP).one).1
  rw [mul_one']
 | x::xs,y,[]=>by
  show y.1=((nb hP).mul y (nb hP).one).1
  rw [mul_one']
 | x::xs,y,e::es=>by
  show wpt P (xs.map (·.1)) (bf P y.1 (gJ P x.1 e.toNat)) es=((nb hP).mul y ((nb hP).mul (dG hP x e.toNat) (chi hP xs es))).1
  rw [<- cpow_v hP,<- (nb hP).mul_assoc]
  exact wpt_chi xs ((nb hP).mul y (dG hP x e.toNat)) es
theorem wth_go (xs:List (Nb P)):∀ (a:CS.Po (Nb P)) (u:Nb P),(dn a).foldl (λu p=>aU P u (wpt P (xs.map (·.1)) p.2 p.1)) u.1=((nb hP).add u ((nb hP).ev (chi hP xs) a)).1
 | [],u=>by
  show u.1=((nb hP).add u (nb hP).zero).1
  rw [CS.add_zero]
 | p::a,u=>by
  show (dn a).foldl _ (aU P u.1 (wpt P (xs.map (·.1)) p.2.1 p.1))=_
  rw [wpt_chi hP,CS.ev_cons,<- (nb hP).add_assoc]
  exact wth_go xs a ((nb hP).add u ((nb hP).mul p.2 (chi hP xs p.1)))
theorem wth_ev (xs:List (Nb P)) (a:CS.Po (Nb P)):wth P (xs.map (·.1)) (dn a)=((nb hP).ev (chi hP xs) a).1:=by
 have:=wth_go hP xs a (nb hP).zero
 rw [(nb hP).zero_add] at this
 exact this
theorem chi_add:∀ (xs:List (Nb P)) (l m:List Int),l.length=xs.length->m.length=xs.length->(∀ e ∈ l,0<=e)->(∀ e ∈ m,0<=e)->chi hP xs (bx l m)=(nb hP).mul (chi hP xs l) (chi hP xs m)
 | [],l,m,_,_,_,_=>((nb hP).one_mul _).symm
 | x::xs,a::l,b::m,h1,h2,h3,h4=>by
  have ih:=chi_add xs l m (by simpa using h1) (by simpa using h2) (λe he=>h3 e (by simp [he])) λe he=>h4 e (by simp [he])
  have a0:=h3 a (by simp)
  have b0:=h4 b (by simp)
  show (nb hP).mul (dG hP x (a+b).toNat) (chi hP xs (bx l m))=(nb hP).mul ((nb hP).mul (dG hP x a.toNat) (chi hP xs l)) ((nb hP).mul (dG hP x b.toNat) (chi hP xs m))
  rw [ih,Int.toNat_add a0 b0,cpow_add]
  generalize dG hP x a.toNat=p
  generalize dG hP x b.toNat=q
  generalize chi hP xs l=r
  generalize chi hP xs m=t
  rw [(nb hP).mul_assoc,(nb hP).mul_assoc,<- (nb hP).mul_assoc q,(nb hP).mul_comm q r,(nb hP).mul_assoc r]
theorem xs_up:∀ {xs:List (Int × Int)},(∀ x ∈ xs,OkN P x)->∃ ys:List (Nb P),ys.map (·.1)=xs
 | [],_=>⟨[],rfl⟩
 | x::xs,h=>by
  obtain ⟨ys,e⟩:=xs_up (xs:=xs) λy hy=>h y (by simp [hy])
  exact ⟨⟨x,h x (by simp)⟩ :: ys,congrArg (x :: ·) e⟩
include hP in
theorem wth_prod {L:Int} {xs:List (Int × Int)} {a b o:List al} {B C M N:Nat} (hx:∀ x ∈ xs,OkN P x) (lx:(xs.length:Int)=L) (ca:CanR P L B M a) (cb:CanR P L C N b) (h:mh P (prods P a b) o):wth P xs o=bf P (wth P xs a) (wth P xs b):=by
 have hB:=hP.b
 obtain ⟨a',rfl⟩:=iF λp hp=>(ca.2 p hp).1
 obtain ⟨b',rfl⟩:=iF λp hp=>(cb.2 p hp).1
 obtain ⟨ys,rfl⟩:=xs_up hx
 rw [<- kq hP] at h
 obtain ⟨o',rfl⟩:∃ o',dn o'=o:=iF λp hp=>dA hB.1 hB.2.2 dn_ok p (h.mem p hp)
 rw [wth_ev hP,wth_ev hP,wth_ev hP,lL hP h,CS.ev_pr]
 show _=((nb hP).mul ((nb hP).ev (chi hP ys) a') ((nb hP).ev (chi hP ys) b')).1
 congr 1
 rw [(nb hP).mul_comm,<- CS.ev_mul]
 refine CS.ev_congr _ λp hp=>?_
 have mp:=ca.2 (p.1,p.2.1) (List.mem_map.mpr ⟨p,hp,rfl⟩)
 rw [(nb hP).mul_comm,<- CS.ev_mul]
 refine CS.ev_congr _ λq hq=>?_
 have mq:=cb.2 (q.1,q.2.1) (List.mem_map.mpr ⟨q,hq,rfl⟩)
 have l1:=mp.2.2.2.1
 have l2:=mq.2.2.2.1
 rw [length_map] at lx
 exact chi_add hP ys p.1 q.1 (by dsimp only at l1; omega) (by dsimp only at l2; omega) mp.2.2.2.2 mq.2.2.2.2
end
theorem nd_7:(["_law_k", "_law_prime_here", "_law_letters", "_law_bag_here"]:List Str).Nodup:=by decide +kernel
def SumD (P L:Int) (H:Hp) (l:Addr) (ps:List al):Prop:=(∃ B,0<B/\B<=2 ^ 515/\CanR P L B (2 ^ 106) ps)/\ps.length<=5/\(∀ p ∈ ps,p.1.sum<=4)/\∃ ts,H l=some (.lst ts)/\l6 P H ts ps
theorem SumD.keep {P L:Int} {H H':Hp} {l:Addr} {ps:List al} {av:List Addr} (k:mw av H H') (hl:l ∉ av) (h:SumD P L H l ps):SumD P L H' l ps:=by
 obtain ⟨a,b,c,ts,h1,h2⟩:=h
 exact ⟨a,b,c,ts,k.2 _ _ h1 hl,h2.mono k.1⟩
theorem SumD.same {P L:Int} {H H':Hp} {l:Addr} {ps:List al} (s:l0 H H') (h:SumD P L H l ps):SumD P L H' l ps:=h.keep (av:=[]) (.of s) (by simp)
theorem sumD_of {P L:Int} (hP:l7 P) {H:Hp} {l:Addr} {ps o:List al} {ts:List V} (hn:ps.length<=5) (h:PsOk P L ps) (hd:∀ q ∈ ps,q.1.sum<=4) (is:mh P ps o) (hl:H l=some (.lst ts)) (pr:l6 P H ts o):SumD P L H l o:=by
 obtain ⟨B,h1,h2,h3⟩:=rw_list (z:=103) λp hp=>⟨(h p hp).1,(h p hp).2.1⟩
 obtain ⟨c,cl⟩:=js hP (M:=2 ^ 103) (Nat.pow_le_pow_right (by decide) (by decide)) hn (λp hp=>⟨(h p hp).1,h3 p hp,(h p hp).2.2⟩) is
 refine ⟨⟨B,h1,Nat.le_trans h2 (Nat.pow_le_pow_right (by decide) (by omega)),c.mono (Nat.dvd_refl _) (by decide)⟩,cl,λp hp=>?_,ts,hl,pr⟩
 obtain ⟨r,hr,e⟩:=iQ p (is.mem p hp)
 rw [<- e]
 exact hd r hr
theorem CanR.sub {P L:Int} {B M:Nat} {a b:List al} (s:b.Sublist a) (h:CanR P L B M a):CanR P L B M b:=⟨h.1.sublist s,λp hp=>h.2 p (s.mem hp)⟩
theorem l6.take {P:Int} {H:Hp} (n:Nat):∀ {ts:List V} {ps:List al},l6 P H ts ps->l6 P H (ts.take n) (ps.take n):=by
 induction n with
 | zero=>intro ts ps h; rw [take_zero,take_zero]; exact .nil
 | succ n ih=>
  intro ts ps h
  cases h with
  | nil=>exact .nil
  | cons q r=>rw [take_succ_cons,take_succ_cons]; exact .cons q (ih r)
def spThree:Sp:=λvs H Q _=>∃ (p:Addr) (P L a b:Int) (k:Nat),vs=[.int P,.int L,.ref p]/\l7 P/\1<=L/\L<=4/\H p=some (.lst [.int a,.int b])/\mn a b k/\k<=300/\
 ∀ (d l1 l2 l3:Addr) (o1 o2 o3:List al) (a' b':Int) (H':Hp),H' d=some (.lst [.ref l1,.ref l2,.ref l3])->SumD P L H' l1 o1->SumD P L H' l2 o2->SumD P L H' l3 o3->l1 ≠ p->l2 ≠ p->l3 ≠ p->H' p=some (.lst [.int a',.int b'])->mn a' b' (k+620)->(∀ c o,H c=some o->c ≠ p->H' c=some o)->Q (.ref d) H'
theorem nq:l8 ["_law_prime_here", "_law_letters", "_law_bag_here", "_law_found", "_law_way"] ["_law_prime_here", "_law_letters", "_law_bag_here"] (aj dI):=.i
theorem ok_three {f:Addr} {fd:FuncData} (F:Fun K "_law_three" "_law_three" dI f fd) (T:Blt mg) (oa:FnB P w K mg base 1 "_law_take" dB) (qV:FnB P w K mg base 5 "_law_parts" spParts) (oH:FnB P w K mg base 4 "_law_sum" kU):me P w K mg base CX0 6 f fd ["_law_prime_here", "_law_letters", "_law_bag_here"] spThree:=by
 refine F.o nq λ_ _ _ _ H _ Q _ hr h=>?_
 ·obtain ⟨p,P,L,a,b,k,rfl,hP,L1,L4,hp,hb,hk,q⟩:=h
  refine ⟨_,(ag (im (i:=3) nq.nd rfl (Or.inl rfl) (N:=["_law_k", "_law_prime_here", "_law_letters", "_law_bag_here"]) (src:=[none,some 0,some 1,some 2]) rfl rfl rfl (by exact (db rfl T.range (aa ae ah))) (λ_ _ _=>by exact ⟨by exact (gn (i:=0) nd_7 rfl rfl),di,by exact (aq oH hr.m (aa (pv 1) (aa (aq qV hr.m (aa (pv 1) (aa (pv 2) (aa ae (aa ae (aa (pv 3) ah)))))) ah)))⟩))
(ag (ar (i:=4) nq.nd rfl (Or.inl rfl) (aq oa hr.m (aa (pv 2) (aa ae ah))))
(ag (aK (az cO (pv 4) ae (aA _))
(ai (gr (ci ah) (iL (pv 3) ae eT)))
aC)
(ag (aK (az cO (pv 4) ae (aA _))
(ai (gr (jA (jo K rfl) (aB (aM K rfl) (pv 3) ae (λ_ _=>rfl)) lG (lU ae)) (iL (pv 3) ae eT)))
aC)
(ai (ap (pv 3))))))),?_⟩
  refine ⟨3,rfl,by decide,by decide,fc (n:=3) (σ0:=[none,some (.int P),some (.int L),some (.ref p)]) rfl (λacc i ws σ H'=>∃ (u:Option V) (ls:List Addr) (os:List (List al)) (a b:Int),σ=[u,some (.int P),some (.int L),some (.ref p)]/\ws=ls.map V.ref/\ls.length=i/\Paired (λl o=>SumD P L H' l o/\l ≠ p/\l ≠ acc) ls os/\H' p=some (.lst [.int a,.int b])/\mn a b (k+205*i)/\∀ c o,H c=some o->c ≠ p->H' c=some o)
   (by decide) (λacc hacc=>⟨none,[],[],a,b,rfl,rfl,rfl,.nil,by rw [am (ak hp hacc)]; exact hp,hb,λc o e hc=>by rw [am (ak e hacc)]; exact e⟩) ?_ ?_ ?_ ?_⟩
  ·rintro acc i ws σ H' hacc hi hz _
   exact hi
  ·rintro acc ws σ H' hacc hz _
   exact Nat.le_refl _
  ·rintro acc i ws σ H1 x' H' hacc hi hz hzl ⟨u,ls,os,a1,b1,rfl,rfl,ll,pr,hp1,hb1,kp1⟩ ⟨rfl,rfl⟩
   have pa:p ≠ acc:=ak hp hacc
   refine ⟨_,rfl,_,rfl,_,rfl,_,rfl,p,P,L,4,5,a1,b1,_,rfl,hP,L1,L4,by decide,by decide,by decide,by decide,hp1,hb1,by omega,λl ts ps a2 b2 H2 nl hl pr2 ln ok2 dg2 hp2 hb2 kp2=>?_⟩
   refine ⟨l,P,ts,ps,rfl,hP,hl,pr2,by omega,sumOk_drawn hP (by omega) λq hq=>⟨(ok2 q hq).1,(ok2 q hq).2.1⟩,λd rs o H3 nd s3 hd po is=>?_⟩
   have S:=sumD_of hP (by omega) ok2 dg2 is hd po
   have hz3:=s3 _ _ (kp2 _ _ hz pa.symm)
   have dp:d ≠ p:=(ak hp2 nd).symm
   have da:d ≠ acc:=(ak (kp2 _ _ hz pa.symm) nd).symm
   have ka:mw [p,acc] H' (upd H3 acc (.lst (ls.map V.ref++[.ref d]))):=((mw.bag hp1 kp2 (by simp)).trans (.of s3)).trans (mw.put hz3 (by simp))
   refine ⟨_,hz3,by rw [length_map,sizeLine_eq]; omega,_,af,by rw [length_append,length_map,length_singleton]; omega,_,ls++[d],os++[o],a2,b2,rfl,by rw [map_append]; rfl,by rw [length_append,length_singleton,ll],?_,by rw [am pa]; exact s3 _ _ hp2,hb2,λc o' e hc=>?_⟩
   ·refine eP ⟨S.keep (av:=[acc]) (mw.put hz3 (by simp)) (by simpa using da),dp,da⟩ (dv (λl' o' z=>⟨z.1.keep ka (by simpa using ⟨z.2.1,z.2.2⟩),z.2⟩) pr)
   ·rw [am (ak e hacc)]
    exact s3 _ _ (kp2 c o' (kp1 c o' e hc) hc)
  ·rintro acc ws σ H1 hacc hz hzl ⟨u,ls,os,a1,b1,rfl,rfl,ll,pr,hp1,hb1,kp1⟩
   have pa:p ≠ acc:=ak hp hacc
   obtain ⟨l1,l2,l3,rfl⟩:∃ l1 l2 l3,ls=[l1,l2,l3]:=by
    match ls,ll with
    | [l1,l2,l3],_=>exact ⟨l1,l2,l3,rfl⟩
   cases pr with | cons z1 pr=>
   cases pr with | cons z2 pr=>
   cases pr with | cons z3 pr=>
   cases pr
   rename_i o1 o2 o3
   refine ⟨_,rfl,p,a1,b1,6,_,rfl,hp1,hb1,by omega,by decide,aG (by decide) (by decide),λwy a2 b2 w0 w1 hb2=>?_⟩
   have k2:mw [p] H1 (upd H1 p (.lst [.int a2,.int b2])):=mw.put hp1 (by simp)
   have kp2:∀ c o,H c=some o->c ≠ p->(upd H1 p (.lst [.int a2,.int b2])) c=some o:=λc o e hc=>by rw [am hc]; exact kp1 c o e hc
   have hp2:(upd H1 p (.lst [.int a2,.int b2])) p=some (.lst [.int a2,.int b2]):=af
   generalize upd H1 p (.lst [.int a2,.int b2])=H2 at *
   have p1:=z1.2.1
   have p2:=z2.2.1
   have p3:=z3.2.1
   have e1:=z1.2.2
   have e2:=z2.2.2
   have z1':=z1.1.keep k2 (by simpa using z1.2.1)
   have z2':=z2.1.keep k2 (by simpa using z2.2.1)
   have z3':=z3.1.keep k2 (by simpa using z3.2.1)
   have hz2:=k2.2 _ _ hz (by simpa using pa.symm)
   have hb3:mn a2 b2 (k+620):=hb2.mono (by omega)
   clear z1 z2 z3 hz hp1 hb1 kp1 k2
   have done:∀ (l:Addr) (o:List al) (H3:Hp) (xs:List V),H2 l=none->l0 H2 H3->H3 l=some (.lst xs)->SumD P L H3 l o->Q (.ref acc) (upd H3 acc (.lst [.ref l1,.ref l2,.ref l])):=λl o H3 xs nl s3 hl S=>by
    have hz3:=s3 _ _ hz2
    have la:l ≠ acc:=(ak hz2 nl).symm
    have lp:l ≠ p:=(ak hp2 nl).symm
    have k3:mw [acc] H3 (upd H3 acc (.lst [.ref l1,.ref l2,.ref l])):=mw.put hz3 (by simp)
    exact q acc l1 l2 l o1 o2 o a2 b2 _ af ((z1'.same s3).keep k3 (by simpa using e1)) ((z2'.same s3).keep k3 (by simpa using e2)) (S.keep k3 (by simpa using la)) p1 p2 lp (by rw [am pa]; exact s3 _ _ hp2) hb3 λc o' e hc=>by rw [am (ak e hacc)]; exact s3 _ _ (kp2 c o' e hc)
   refine ⟨_,rfl,rfl,_,rfl,bu (λh=>?_) (λh=>?_)⟩
   ·obtain rfl:wy=0:=by have:=of_decide_eq_true h; injection this
    refine ⟨Nat.zero_le _,λe ne=>?_⟩
    have s3:=l0.new (o:=.lst []) ne
    refine ⟨_,rfl,acc,_,_,2,rfl,rfl,s3 _ _ hz2,rfl,?_⟩
    refine ⟨_,rfl,rfl,_,rfl,bF ⟨_,rfl,?_⟩⟩
    exact done e [] _ [] ne s3 af ⟨⟨1,by decide,Nat.one_le_two_pow,.nil,λp hp=>(nomatch hp)⟩,Nat.zero_le _,λp hp=>(nomatch hp),[],af,.nil⟩
   ·refine ⟨_,rfl,rfl,_,rfl,bu (λh1=>?_) (λh1=>?_)⟩
    ·obtain ⟨⟨B,b1,b2',c⟩,ln,dg,ts,hl3,pr3⟩:=id z3'
     refine ⟨_,rfl,acc,_,_,_,rfl,rfl,SqL.of hz2,rfl,_,rfl,l3,ts,rfl,SqL.of hl3,λe ne=>?_⟩
     have lt:ts.length=o3.length:=Paired.length pr3
     have ec:jk ts none (some 1)=ts.take 1:=by
      unfold jk
      cases ts<;>rfl
     rw [ec]
     have s3:=l0.new (o:=.lst (ts.take 1)) ne
     refine ⟨_,rfl,acc,_,_,2,rfl,rfl,s3 _ _ hz2,rfl,_,rfl,?_⟩
     exact done e (o3.take 1) _ _ ne s3 af ⟨⟨B,b1,b2',c.sub (take_sublist _ _)⟩,by rw [length_take]; omega,λp hp=>dg p (mem_of_mem_take hp),_,af,(pr3.mono λt xs e=>s3 _ _ e).take 1⟩
    ·exact ⟨_,rfl,q acc l1 l2 l3 o1 o2 o3 a2 b2 _ hz2 z1' z2' z3' p1 p2 p3 hp2 hb3 kp2⟩
def S3 (P L:Int) (b m n:Nat) (ps:List al):Prop:=ps.length<=n/\∃ B,0<B/\B<=2 ^ b/\CanR P L B (2 ^ m) ps
def SumH (P L:Int) (b m n:Nat) (H:Hp) (l:Addr) (ps:List al):Prop:=S3 P L b m n ps/\∃ ts,H l=some (.lst ts)/\l6 P H ts ps
theorem SumH.same {P L:Int} {b m n:Nat} {H H':Hp} {l:Addr} {ps:List al} (s:l0 H H') (h:SumH P L b m n H l ps):SumH P L b m n H' l ps:=by
 obtain ⟨a,ts,h1,h2⟩:=h
 exact ⟨a,ts,s _ _ h1,h2.mono λt xs e=>s _ _ e⟩
theorem sumOk_rw {P:Int} (hP:l7 P) {B M n:Nat} {ps:List al} (hM:2 ^ 14<=M) (hB:0<B) (h1:1<=n) (hn:ps.length<=n) (h:∀ p ∈ ps,OkN P p.2/\Rw B M p.2) (hz:n*M*B<2 ^ 2900):eN P ps:=by
 have hM1:1<=M:=Nat.le_trans (by decide) hM
 have big:∀ {i:Nat} {x:Int × Int},i<=n->Rw B (i*M) x->Sz 2900 x:=λhi r=>(r.mono (Nat.dvd_refl _) (Nat.mul_le_mul_right _ hi)).sz hB (Nat.mul_pos h1 hM1) hz
 refine ⟨λp hp=>⟨(h p hp).1,big h1 (by rw [Nat.one_mul]; exact (h p hp).2)⟩,λi p hp=>?_⟩
 by_cases hi:i<=ps.length
 ·exact big (by omega) (kX hP hM h i hi p hp)
 ·rw [take_of_length_le (by omega)] at hp
  have:=kX hP hM h ps.length (Nat.le_refl _) p (by rw [take_length]; exact hp)
  exact big hn this
theorem cW {a b:Nat} (h:a<=b):(2:Nat) ^ a<=2 ^ b:=Nat.pow_le_pow_right (by decide) h
theorem bits4 {n M B a b c:Nat} (h1:n<=2 ^ a) (h2:M<=2 ^ b) (h3:B<=2 ^ c) (h:a+b+c<2900):n*M*B<2 ^ 2900:=by
 refine Nat.lt_of_le_of_lt (Nat.mul_le_mul (Nat.mul_le_mul h1 h2) h3) ?_
 rw [<- Nat.pow_add,<- Nat.pow_add]
 exact Nat.pow_lt_pow_right (by decide) h
theorem S3.prods {P L:Int} (hP:l7 P) {b m n c k l j:Nat} {x y:List al} (hx:S3 P L b m n x) (hy:S3 P L c k l y) (h14:14<=m+k) (hj:n*l<=2 ^ j) (hs:b+c+(m+k)+j<2900):eN P (_root_.K.prods P x y)/\∀ o,mh P (_root_.K.prods P x y) o->S3 P L (b+c) (m+k+j) (n*l) o:=by
 obtain ⟨lx,B,B0,B1,cx⟩:=hx
 obtain ⟨ly,C,C0,C1,cy⟩:=hy
 have e:2 ^ m*2 ^ k=2 ^ (m+k):=(Nat.pow_add ..).symm
 have hBC:B*C<=2 ^ (b+c):=by rw [Nat.pow_add]; exact Nat.mul_le_mul B1 C1
 have f:=prods_rw hP (by rw [e]; exact cW h14) cx cy
 rw [e] at f
 have len:(_root_.K.prods P x y).length<=n*l:=by rw [gv]; exact Nat.mul_le_mul lx ly
 refine ⟨?_,λo is=>?_⟩
 ·by_cases h0:n*l=0
  ·have:_root_.K.prods P x y=[]:=List.length_eq_zero_iff.mp (by omega)
   rw [this]
   exact ⟨λp hp=>(nomatch hp),λi p hp=>by simp [acc] at hp⟩
  ·exact sumOk_rw hP (cW h14) (Nat.mul_pos B0 C0) (by omega) len (λp hp=>⟨(f p hp).1,(f p hp).2.1⟩) (bits4 hj (Nat.le_refl _) hBC (by omega))
 ·obtain ⟨cc,cl⟩:=js hP (cW h14) len f is
  refine ⟨cl,B*C,Nat.mul_pos B0 C0,hBC,cc.mono (Nat.dvd_refl _) ?_⟩
  rw [Nat.pow_add 2 (m+k) j,Nat.mul_comm]
  exact Nat.mul_le_mul_left _ hj
theorem S3.app {P L:Int} (hP:l7 P) {b m n c k l j:Nat} {x y:List al} (hx:S3 P L b m n x) (hy:S3 P L c k l y) (h14:14<=m) (hk:k=m) (h1:1<=n+l) (hj:n+l<=2 ^ j) (hs:b+c+m+j<2900):eN P (x++y)/\∀ o,mh P (x++y) o->S3 P L (b+c) (m+j) (n+l) o:=by
 subst hk
 obtain ⟨lx,B,B0,B1,cx⟩:=hx
 obtain ⟨ly,C,C0,C1,cy⟩:=hy
 have hBC:B*C<=2 ^ (b+c):=by rw [Nat.pow_add]; exact Nat.mul_le_mul B1 C1
 have cx:=cx.mono (Nat.dvd_mul_right B C) (Nat.le_refl _)
 have cy:=cy.mono (Nat.dvd_mul_left C B) (Nat.le_refl _)
 have f:∀ p ∈ x++y,OkN P p.2/\Rw (B*C) (2 ^ k) p.2/\(p.1.length:Int)=L/\∀ e ∈ p.1,0<=e:=λp hp=>by
  rcases List.mem_append.mp hp with h | h
  ·exact ⟨(cx.2 p h).1,(cx.2 p h).2.1,(cx.2 p h).2.2.2⟩
  ·exact ⟨(cy.2 p h).1,(cy.2 p h).2.1,(cy.2 p h).2.2.2⟩
 have len:(x++y).length<=n+l:=by rw [length_append]; omega
 refine ⟨sumOk_rw hP (cW h14) (Nat.mul_pos B0 C0) h1 len (λp hp=>⟨(f p hp).1,(f p hp).2.1⟩) (bits4 hj (Nat.le_refl _) hBC (by omega)),λo is=>?_⟩
 obtain ⟨cc,cl⟩:=js hP (cW h14) len f is
 refine ⟨cl,B*C,Nat.mul_pos B0 C0,hBC,cc.mono (Nat.dvd_refl _) ?_⟩
 rw [Nat.pow_add,Nat.mul_comm]
 exact Nat.mul_le_mul_left _ hj
theorem S3.sz {P L:Int} {b m n:Nat} {x:List al} (h:S3 P L b m n x) (hs:b+m<2900):∀ p ∈ x,OkN P p.2/\Sz 2900 p.2/\(p.1.length:Int)=L:=λp hp=>by
 obtain ⟨_,B,B0,B1,c⟩:=h
 obtain ⟨o,r,_,l,_⟩:=c.2 p hp
 refine ⟨o,r.sz B0 (Nat.pow_pos (by decide)) ?_,l⟩
 have:=bits4 (n:=1) (a:=0) (Nat.le_refl _) (Nat.le_refl (2 ^ m)) B1 (by omega)
 rwa [Nat.one_mul] at this
theorem S3.self {P L:Int} {b m n:Nat} {x:List al} (h:S3 P L b m n x):mh P x x:=by
 obtain ⟨_,B,_,_,c⟩:=h
 refine ⟨?_,c.1⟩
 rw [gN (bR c.1) λp hp=>(c.2 p hp).1,List.filter_eq_self.mpr λq hq=>(c.2 q hq).2.2.1]
theorem S3.sumOk {P L:Int} {b m n:Nat} {x:List al} (h:S3 P L b m n x) (hs:b+m<2900):eN P x:=by
 obtain ⟨_,B,_,_,c⟩:=id h
 exact hU (bR c.1) λp hp=>⟨(h.sz hs p hp).1,(h.sz hs p hp).2.1⟩
theorem b7 {CF CR CG g x l1 l2:Addr} {P L:Int} {H:Hp} {E:XK} {Q:VK} {b m n c k l j:Nat} {o1 o2:List al} (hP:l7 P) (L4:L<=4) (hg:cS CG H g x L) (hN:mH CF CR H x P) (h1:SumH P L b m n H l1 o1) (h2:SumH P L c k l H l2 o2)
  (a1:n<=30) (a2:l<=30) (a3:n*l<=130) (a4:n*l<=2 ^ j) (a5:14<=m+k) (a6:b+c+(m+k)+j<2892) (a7:b+c+(m+k)<2892)
  (q:∀ (d:Addr) (o:List al) (H':Hp),H d=none->l0 H H'->SumH P L (b+c) (m+k+j) (n*l) H' d o->mh P (prods P o1 o2) o->Q (.ref d) H'):bn CF CR CG [.ref g,.ref l1,.ref l2] H Q E:=by
 obtain ⟨s1,ts1,e1,p1⟩:=h1
 obtain ⟨s2,ts2,e2,p2⟩:=h2
 have pr:=s1.prods hP s2 a5 a4 (by omega)
 obtain ⟨n1,B,B0,B1,c1⟩:=s1
 obtain ⟨n2,C,C0,C1,c2⟩:=s2
 have hBC:B*C<=2 ^ (b+c):=by rw [Nat.pow_add]; exact Nat.mul_le_mul B1 C1
 refine ⟨g,x,l1,l2,P,L,B,C,2 ^ m,2 ^ k,ts1,ts2,o1,o2,rfl,hP,by omega,hg,hN,e1,p1,e2,p2,by omega,by omega,Nat.le_trans (Nat.mul_le_mul n1 n2) a3,c1,c2,B0,C0,Nat.pow_pos (by decide),Nat.pow_pos (by decide),?_,λd rs o H' nd s hd po is=>q d o H' nd s ⟨pr.2 o is,rs,hd,po⟩ is⟩
 exact bits4 (a:=8) (b:=m+k) (by decide) (by rw [Nat.pow_add]; exact Nat.le_refl _) hBC (by omega)
theorem go_plus {CF CR CG g x l1 l2:Addr} {P L:Int} {H:Hp} {E:XK} {Q:VK} {b m n c k l j:Nat} {o1 o2:List al} (hP:l7 P) (hg:cS CG H g x L) (hN:mH CF CR H x P) (h1:SumH P L b m n H l1 o1) (h2:SumH P L c k l H l2 o2)
  (a1:n+l<=200) (a2:1<=n+l) (a4:n+l<=2 ^ j) (a5:14<=m) (hk:k=m) (a6:b+c+m+j<2900)
  (q:∀ (d:Addr) (o:List al) (H':Hp),H d=none->l0 H H'->SumH P L (b+c) (m+j) (n+l) H' d o->mh P (o1++o2) o->Q (.ref d) H'):ja CF CR CG [.ref g,.ref l1,.ref l2] H Q E:=by
 obtain ⟨s1,ts1,e1,p1⟩:=h1
 obtain ⟨s2,ts2,e2,p2⟩:=h2
 have pr:=s1.app hP s2 a5 hk a2 a4 a6
 have n1:=s1.1
 have n2:=s2.1
 exact ⟨g,x,l1,l2,P,L,ts1,ts2,o1,o2,rfl,hP,hg,hN,e1,p1,e2,p2,by omega,pr.1,λd rs o H' nd s hd po is=>q d o H' nd s ⟨pr.2 o is,rs,hd,po⟩ is⟩
theorem km:∀ {a b:List Int},a.length=b.length->(bx a b).sum=a.sum+b.sum
 | [],[],_=>rfl
 | x::a,y::b,h=>by
  have:=km (a:=a) (b:=b) (by simpa using h)
  show ((x+y)::bx a b).sum=_
  rw [sum_cons,this,sum_cons,sum_cons]
  omega
theorem prods_deg {P L:Int} {x y o:List al} {d e:Int} {b m n c k l:Nat} (hx:S3 P L b m n x) (hy:S3 P L c k l y) (h1:∀ p ∈ x,p.1.sum<=d) (h2:∀ p ∈ y,p.1.sum<=e) (is:mh P (prods P x y) o):∀ p ∈ o,p.1.sum<=d+e:=λp hp=>by
 obtain ⟨_,B,_,_,cx⟩:=hx
 obtain ⟨_,C,_,_,cy⟩:=hy
 obtain ⟨r,hr,er⟩:=iQ p (is.mem p hp)
 obtain ⟨u,hu,mv⟩:=List.mem_flatMap.mp hr
 obtain ⟨v,hv,rfl⟩:=List.mem_map.mp mv
 have l1:=(cx.2 u hu).2.2.2.1
 have l2:=(cy.2 v hv).2.2.2.1
 rw [<- er]
 show (bx u.1 v.1).sum<=_
 rw [km (by omega)]
 have:=h1 u hu
 have:=h2 v hv
 omega
theorem jb {P L:Int} {H:Hp} {E:XK} {Q:VK} {l lp:Addr} {b m n:Nat} {o:List al} {us:List V} {xs:List (Int × Int)} (hP:l7 P) (L4:L<=4) (h:SumH P L b m n H l o) (hl:H lp=some (.lst us)) (pu:Paired (At P H) us xs) (dg:∀ p ∈ o,p.1.sum<=8) (hx:∀ x ∈ xs,OkN P x/\Rw 6 (2 ^ 14) x) (lx:(xs.length:Int)=L)
  (a1:n<=30) (a2:14<=m) (a3:b+m<2700) (q:∀ r H',l0 H H'->At P H' r (wth P xs o)->OkN P (wth P xs o)->Sz 2900 (wth P xs o)->Q r H'):fq [.int P,.ref l,.ref lp] H Q E:=by
 obtain ⟨⟨n1,B,B0,B1,c⟩,ts,e,p⟩:=h
 have W:mU P L B (2 ^ m) o xs:=by
  refine ⟨by omega,c,B0,cW a2,dg,hx,lx,?_⟩
  refine bits4 (a:=5) (b:=m+112) (c:=b+24) (by decide) (by rw [Nat.pow_add]; exact Nat.le_refl _) ?_ (by omega)
  rw [Nat.pow_add]
  exact Nat.mul_le_mul B1 (by decide)
 obtain ⟨w1,w2⟩:=W.all hP o.length (Nat.le_refl _)
 rw [take_length] at w1 w2
 exact ⟨P,L,B,_,l,lp,ts,us,o,xs,rfl,hP,L4,e,p,hl,pu,W,λr H' s a=>q r H' s a w1 (W.z (by omega) w2)⟩
theorem SumH.dr {K:Frag} {P L:Int} {b m n:Nat} {H:Hp} {l:Addr} {ps:List al} (h:SumH P L b m n H l ps):DR K H (dS P ps) (.ref l):=by
 obtain ⟨_,ts,h1,h2⟩:=h
 exact dr_dS h1 h2
theorem up3 {P L:Int} {b m n:Nat} {x:List al} (h:S3 P L b m n x):∃ a:CS.Po (Nb P),dn a=x:=by
 obtain ⟨_,B,_,_,c⟩:=h
 exact iF λp hp=>(c.2 p hp).1
theorem jz {P:Int} (hP:l7 P) {a:CS.Po (Nb P)} {x:List al} (h:mh P (dn a) x):∃ o:CS.Po (Nb P),dn o=x/\(nb hP).Eqv o a:=by
 obtain ⟨o,rfl⟩:∃ o:CS.Po (Nb P),dn o=x:=iF λp hp=>dA hP.b.1 hP.b.2.2 dn_ok p (h.mem p hp)
 exact ⟨o,rfl,lL hP h⟩
theorem eq_comm3 {P:Int} (hP:l7 P) {a b:CS.Po (Nb P)} {x y:List al} (h1:mh P (prods P (dn a) (dn b)) x) (h2:mh P (prods P (dn b) (dn a)) y):y=x:=by
 rw [<- kq hP] at h1 h2
 exact i6 hP h2 h1 (CS.pr_comm _ _ _)
theorem eq_assoc3 {P:Int} (hP:l7 P) {a b c:CS.Po (Nb P)} {x y u v:List al} (h1:mh P (prods P (dn a) (dn b)) x) (h2:mh P (prods P (dn b) (dn c)) y) (h3:mh P (prods P x (dn c)) u) (h4:mh P (prods P (dn a) y) v):u=v:=by
 rw [<- kq hP] at h1 h2
 obtain ⟨x',rfl,ex⟩:=jz hP h1
 obtain ⟨y',rfl,ey⟩:=jz hP h2
 rw [<- kq hP] at h3 h4
 refine i6 hP h3 h4 λχ=>?_
 rw [CS.pr_left _ ex,CS.pr_assoc,CS.pr_right _ _ ey]
theorem eq_dist3 {P:Int} (hP:l7 P) {a b c:CS.Po (Nb P)} {s x y u v:List al} (h0:mh P (dn a++dn b) s) (h1:mh P (prods P (dn a) (dn c)) x) (h2:mh P (prods P (dn b) (dn c)) y) (h3:mh P (prods P s (dn c)) u) (h4:mh P (x++y) v):u=v:=by
 rw [<- dn_app] at h0
 rw [<- kq hP] at h1 h2
 obtain ⟨s',rfl,es⟩:=jz hP h0
 obtain ⟨x',rfl,ex⟩:=jz hP h1
 obtain ⟨y',rfl,ey⟩:=jz hP h2
 rw [<- kq hP] at h3
 rw [<- dn_app] at h4
 refine i6 hP h3 h4 λχ=>?_
 rw [CS.pr_left _ es,CS.pr_append,CS.app_eqv _ ex ey]
theorem nd_8:(["_law_letter", "_law_prime_here", "_law_bag_here"]:List Str).Nodup:=by decide +kernel
def dSS (P:Int) (os:List (List al)):PyData:=.list (os.map (dS P))
theorem dSS_all (P:Int):∀ os:List (List al),PyData.canLayAll0 (os.map (dS P))=true/\PyData.depthAll (os.map (dS P))<=3
 | []=>⟨rfl,by simp [PyData.depthAll]⟩
 | o::r=>by
  have a:=SeqAt.canLay_of_shaped (aX P o)
  obtain ⟨c,d⟩:=dSS_all P r
  have b:(dS P o).depth<=3:=by
   have:=(dS_all P o).2
   unfold dS
   simp only [PyData.depth]
   omega
  refine ⟨by simp only [map_cons,PyData.canLayAll0,a,c,Bool.and_true],?_⟩
  simp only [map_cons,PyData.depthAll]
  omega
theorem fU (P:Int) (os:List (List al)):SeqAt.shaped (dSS P os)=true:=by
 obtain ⟨c,d⟩:=dSS_all P os
 unfold SeqAt.shaped dSS
 rw [Bool.and_eq_true]
 refine ⟨by simp only [PyData.canLay0,c],decide_eq_true ?_⟩
 simp only [PyData.depth]
 omega
theorem eqv_dSS (P:Int) (os:List (List al)):PyData.eqv (dSS P os) (dSS P os)=true:=SeqAt.eqv_refl _ (SeqAt.canLay_of_shaped (fU P os))
def spLaw (K:Frag):Sp:=λvs H Q _=>∃ (a:Addr) (ns:List Int),vs=[.ref a]/\SqL K H a (ns.map V.int)/\ns.length<=63/\∀ H',Q (.bl true) H'
theorem SumD.h {P L:Int} {H:Hp} {l:Addr} {ps:List al} (h:SumD P L H l ps):SumH P L 515 106 5 H l ps:=⟨⟨h.2.1,h.1⟩,h.2.2.2⟩
theorem point_rw {P:Int} {x:Int × Int} (hP:l7 P) (ox:OkN P x) (sx:P=0->Sz 2 x):Rw 6 (2 ^ 14) x:=by
 have hB:=hP.b
 rcases ox with ⟨h0,h1,_⟩ | ⟨h0,h1,h2,h3⟩
 ·obtain ⟨s1,s2⟩:=sx h0
  refine ⟨h1,?_,?_⟩
  ·have:x.2.natAbs=1\/x.2.natAbs=2\/x.2.natAbs=3:=by omega
   rcases this with e | e | e<;>rw [e]<;>decide
  ·have:x.1.natAbs<4:=s1
   have:(2:Nat) ^ 14=16384:=rfl
   omega
 ·refine ⟨by omega,by rw [h3]; exact Nat.one_dvd _,?_⟩
  rw [h3]
  have:(2:Nat) ^ 14=16384:=rfl
  show x.1.natAbs<=2 ^ 14*1
  omega
theorem mQ:l8 ["_law_script", "_law_prime_here", "_law_letters", "_law_ring_here", "_law_k", "_law_bag_here", "_law_one", "_law_two", "_law_three_here", "_law_point", "_law_handed", "_law_found", "_law_due"] ["_law_script"] (aj s_law):=.i
set_option maxHeartbeats 4000000 in
theorem ok_law {f CF CR CG oj:Addr} {fd:FuncData} (F:Fun K "law" "law" s_law f fd) (T:Blt mg) (pi:FnB P w K mg base 1 "_law_cell" (spCell K)) (qR:FnB P w K mg base 2 "_law_bag" (spBag K)) (qW:FnB P w K mg base 2 "_law_prime" spPrime)
  (rN:FnBX P w K mg base 5 "_law_ring" (lQ CF CR CG oj)) (qX:FnB P w K mg base 6 "_law_three" spThree) (o8:FnB P w K mg base 4 "_law_number" gE) (pP:FnB P w K mg base 5 "_law_sum_times" spLTimes) (qe:FnB P w K mg base 5 "_law_sum_like" (spSLike K)) (on:FnB P w K mg base 2 "_law_times" (g8 bf)) (pH:FnB P w K mg base 4 "_law_worth" fq)
  (pI:FnB P w K mg base 7 "times" (bn CF CR CG)) (uV:FnB P w K mg base 6 "plus" (ja CF CR CG)):me P w K mg base CX0 8 f fd ["_law_script"] (spLaw K):=by
 refine F.o mQ λ_ _ _ _ H _ Q _ hr h=>?_
 ·obtain ⟨a,ns,rfl,hS,hlen,q⟩:=h
  have hu:=hr.units
  refine ⟨_,(ag (ar (i:=1) mQ.nd rfl (Or.inr rfl) (aq qW hr.m (aa (aq qR hr.m (aa (pv 0) (aa ae ah))) ah)))
(ag (ar (i:=2) mQ.nd rfl (Or.inl rfl) (ao aP ae (ao aZ (aq pi hr.m (aa (pv 0) (aa ae ah))) ae)))
(ag (ar (i:=3) mQ.nd rfl (Or.inl rfl) (pe_fnX rN hr.m gz (aa (pv 1) (aa (pv 2) ah))))
(ag (bG PassesOwn.never rfl (kj rfl T.range (aa ae (aa (pl_max T (aa ae (aa (pl_min T (aa ae (aa (dw K T (pv 0)) ah))) ah))) ah))) (bw (i:=4) mQ.nd rfl (Or.inl rfl))
(ag (ar (i:=5) mQ.nd rfl (Or.inr rfl) (aq qR hr.m (aa (pv 0) (aa (pv 4) ah))))
(ag (gr (aq qX hr.m (aa (pv 1) (aa (pv 2) (aa (pv 5) ah)))) (pg_lst rfl (by exact bZ (by exact (bw (i:=6) mQ.nd rfl (Or.inl rfl))) (by exact bZ (by exact (bw (i:=7) mQ.nd rfl (Or.inl rfl))) (by exact bZ (by exact (bw (i:=8) mQ.nd rfl (Or.inl rfl))) lR)))))
(ag (im (i:=9) mQ.nd rfl (Or.inl rfl) (N:=["_law_letter", "_law_prime_here", "_law_bag_here"]) (src:=[none,some 1,some 5]) rfl rfl rfl (by exact (db rfl T.range (aa (pv 2) ah))) (λ_ _ _=>by exact ⟨by exact (gn (i:=0) nd_8 rfl rfl),di,by exact (aq o8 hr.m (aa (pv 1) (aa (pv 2) (aa cr ah))))⟩))
(ag (ar (i:=10) mQ.nd rfl (Or.inl rfl) (ci (aa (kpl_list K T (pv 6)) (aa (kpl_list K T (pv 7)) ah))))
(ag (ar (i:=11) mQ.nd rfl (Or.inl rfl) (aq pI hr.m (aa (pv 3) (aa (aB (aM K rfl) (pv 10) ae (λ_ _=>rfl)) (aa (aB (aM K rfl) (pv 10) ae (λ_ _=>rfl)) ah)))))
(ag (aK (PW.pt (dQ (az (kneD K rfl hu) (pv 11) (aq pP hr.m (aa (pv 1) (aa (pv 6) (aa (pv 7) ah)))) (aA _)) (eC (cJ (bQ (aq qe hr.m (aa (pv 1) (aa (pv 2) (aa (pv 11) ah)))))))))
(ai (ap cr))
aC)
(ag (ar (i:=12) mQ.nd rfl (Or.inl rfl) (aq on hr.m (aa (pv 1) (aa (aq pH hr.m (aa (pv 1) (aa (pv 6) (aa (pv 9) ah)))) (aa (aq pH hr.m (aa (pv 1) (aa (pv 7) (aa (pv 9) ah)))) ah)))))
(ag (aK (PW.pt (dQ (az (kneD K rfl hu) (aq pH hr.m (aa (pv 1) (aa (pv 11) (aa (pv 9) ah)))) (pv 12) (aA _)) (dQ (az (kneD K rfl hu) (pv 10) (ci (aa (pv 6) (aa (pv 7) ah))) (aA _)) (eC (az (kneD K rfl hu) (aq pI hr.m (aa (pv 3) (aa (pv 7) (aa (pv 6) ah)))) (pv 11) (aA _))))))
(ai (ap cr))
aC)
(ag (aK (az (kneD K rfl hu) (aq pI hr.m (aa (pv 3) (aa (pv 11) (aa (pv 8) ah)))) (aq pI hr.m (aa (pv 3) (aa (pv 6) (aa (aq pI hr.m (aa (pv 3) (aa (pv 7) (aa (pv 8) ah)))) ah)))) (aA _))
(ai (ap cr))
aC)
(ai (aK (az (kneD K rfl hu) (aq pI hr.m (aa (pv 3) (aa (aq uV hr.m (aa (pv 3) (aa (pv 6) (aa (pv 7) ah)))) (aa (pv 8) ah)))) (aq uV hr.m (aa (pv 3) (aa (aq pI hr.m (aa (pv 3) (aa (pv 6) (aa (pv 8) ah)))) (aa (aq pI hr.m (aa (pv 3) (aa (pv 7) (aa (pv 8) ah)))) ah)))) (aA _))
(ai (ap cr))
aC))))))))))))
(ai (ap cr)))))),?_⟩
  refine ⟨_,rfl,a,ns,0,rfl,hS,hlen,by decide,by decide,λp0 a1 b1 hp0 hb1=>?_⟩
  refine ⟨p0,a1,b1,100,rfl,af,hb1,by decide,λP a2 b2 H1 hP hp1 hb2 kp1=>?_⟩
  have hB:=hP.b
  have sm1:l0 H H1:=λc o e=>kp1 c o (by rw [am (ak e hp0)]; exact e) (ak e hp0)
  refine ⟨_,rfl,a,ns,1,rfl,sm1.seq hS,hlen,by decide,by decide,λr=>⟨_,_,rfl,rfl,(by show (0:Int)<4; decide),_,_,rfl,rfl,?_⟩⟩
  have hL1:(1:Int)<=1+r % 4:=by have:=Int.emod_nonneg r (show (4:Int) ≠ 0 by decide); omega
  have hL4:1+r % 4<=4:=by have:=Int.emod_lt_of_pos r (show (0:Int)<4 by decide); omega
  dsimp only
  generalize 1+r % 4=L at *
  refine ⟨_,rfl,_,rfl,P,L,rfl,hP,λhL=>absurd ⟨hL1,hL4⟩ hL,λ_ _ g x H2 s2 hN hG=>?_⟩
  obtain ⟨dxg,hg⟩:=id hG
  have sm2:=sm1.trans s2
  have hln:((ns.map V.int).length:Int)<=63:=by rw [length_map]; omega
  have hJ:∀ n:Int,n<=63->(3:Int)<=(if (if n<6 then n else 6) > 3 then (if n<6 then n else 6) else 3)/\(if (if n<6 then n else 6) > 3 then (if n<6 then n else 6) else 3)<=6:=λn hn=>by split<;>split<;>omega
  have hJ:=hJ _ hln
  refine ⟨_,rfl,a,_,rfl,.inl (sm2.seq hS),_,_,rfl,_,_,rfl,_,_,rfl,⟨by decide,by decide,by omega,by omega⟩,for_rangeN (lo:=2) (λi σ H7=>∃ x4 x5 x6 x7 x8 x9 x10 x11 x12:Option V,σ=[some (.ref a),some (.int P),some (.int L),some (.ref g),x4,x5,x6,x7,x8,x9,x10,x11,x12]/\l0 H2 H7)
   ⟨none,none,none,none,none,none,none,none,none,rfl,l0.refl _⟩ ?_ ?_⟩
  ·rintro i σ H7 hi ⟨x4,x5,x6,x7,x8,x9,x10,x11,x12,rfl,s7⟩ N0 B0 hN0
   have smH7:=sm2.trans s7
   refine ⟨_,rfl,_,rfl,a,ns,_,rfl,smH7.seq hS,hlen,by omega,by omega,λp c d hp hb=>?_⟩
   refine ⟨_,rfl,_,rfl,_,rfl,p,P,L,c,d,100,rfl,hP,hL1,hL4,af,hb,by decide,λdd l1 l2 l3 o1 o2 o3 a' b' H8 hdd D1 D2 D3 p1 p2 p3 hp8 hb8 kp8=>?_⟩
   have s8:l0 H7 H8:=λc o e=>kp8 c o (by rw [am (ak e hp)]; exact e) (ak e hp)
   refine ⟨dd,_,rfl,hdd,rfl,_,_,rfl,_,_,rfl,_,_,rfl,rfl,?_⟩
   refine ⟨_,rfl,L,rfl,by omega,by omega,fc (n:=L.toNat) (σ0:=[none,some (.int P),some (.ref p)]) rfl (λacc i ws σ H'=>∃ (u:Option V) (xs:List (Int × Int)) (a b:Int),σ=[u,some (.int P),some (.ref p)]/\Paired (At P H') ws xs/\xs.length=i/\(∀ x ∈ xs,OkN P x/\Rw 6 (2 ^ 14) x)/\H' p=some (.lst [.int a,.int b])/\mn a b (720+2*i)/\mw [p,acc] H8 H')
    (by rw [sizeLine_eq]; omega) (λacc hacc=>⟨none,[],a',b',rfl,.nil,rfl,λx hx=>(nomatch hx),by rw [am (ak hp8 hacc)]; exact hp8,hb8,.of (l0.new hacc)⟩) ?_ ?_ ?_ ?_⟩
   ·rintro acc i ws σ H' hacc hi hz _
    exact hi
   ·rintro acc ws σ H' hacc hz _
    exact Nat.le_refl _
   ·rintro acc i ws σ H9 x' H' hacc hi hz hzl ⟨u,xs,a9,b9,rfl,pu,lx,okx,hp9,hb9,k9⟩ ⟨rfl,rfl⟩
    have pa:p ≠ acc:=ak hp8 hacc
    refine ⟨_,rfl,_,rfl,p,P,a9,b9,_,rfl,hP,hp9,hb9,by omega,λv x a10 b10 H10 av ox sx hp10 hb10 kp10=>?_⟩
    have hz10:=kp10 _ _ hz pa.symm
    have lw:ws.length=xs.length:=Paired.length pu
    have kb:mw [p,acc] H' (upd H10 acc (.lst (ws++[v]))):=(mw.bag hp9 kp10 (by simp)).trans (mw.put hz10 (by simp))
    have kc:mw [p,acc] H10 (upd H10 acc (.lst (ws++[v]))):=mw.put hz10 (by simp)
    refine ⟨ws,hz10,by rw [sizeLine_eq]; omega,_,af,by rw [length_append,length_singleton]; omega,_,xs++[x],a10,b10,rfl,eP (av.mono kc.1) (dv (λ_ _ z=>z.mono kb.1) pu),by rw [length_append,lx]; rfl,λy hy=>?_,by rw [am pa]; exact hp10,hb10.mono (by omega),k9.trans kb⟩
    rcases List.mem_append.mp hy with z | z
    ·exact okx y z
    ·rw [List.mem_singleton.mp z]
     exact ⟨ox,point_rw hP ox sx⟩
   ·rintro lp us σ H9 hlp hz hzl ⟨u,xs,a9,b9,rfl,pu,lx,okx,_,_,k9⟩
    have lx':(xs.length:Int)=L:=by omega
    have nl:∀ {l:Addr} {o:List al},SumD P L H8 l o->l ≠ p->l ∉ [p,lp]:=λ{l o} h hn=>by
     obtain ⟨_,_,_,ts,e,_⟩:=h
     simpa using ⟨hn,ak e hlp⟩
    have g1:=D1.2.2.1
    have g2:=D2.2.2.1
    have E1:=(D1.keep k9 (nl D1 p1)).h
    have E2:=(D2.keep k9 (nl D2 p2)).h
    have E3:=(D3.keep k9 (nl D3 p3)).h
    have s79:l0 H7 H9:=λc o e=>k9.2 c o (s8 c o e) (by simpa using ⟨ak e hp,ak (s8 c o e) hlp⟩)
    have s29:=s7.trans s79
    have fin:∀ H' x8 x9 x10 x11 x12,l0 H9 H'->N0 [some (.ref a),some (.int P),some (.int L),some (.ref g),some (.int (2+(i:Int))),some (.ref p),some (.ref l1),some (.ref l2),x8,x9,x10,x11,x12] H':=λH' x8 x9 x10 x11 x12 s'=>hN0 _ _ ⟨_,_,_,_,_,_,_,_,_,rfl,s29.trans s'⟩
    have hN9:=hN.mono λo e=>s29 _ _ e
    have hg9:=s29 _ _ hg
    clear D1 D2 D3 k9 kp8 s8 s79 hp8 hb8 hdd hp hb nl hN0 hN hG hg
    obtain ⟨S1,ts1,hl1,pr1⟩:=id E1
    obtain ⟨S2,ts2,hl2,pr2⟩:=id E2
    refine ⟨_,rfl,l1,ts1,rfl,.inl (SqL.of hl1),λm1 nm1=>?_⟩
    have s10:=l0.new (o:=.lst ts1) nm1
    have hm1:(upd H9 m1 (.lst ts1)) m1=some (.lst ts1):=af
    generalize upd H9 m1 (.lst ts1)=H10 at *
    refine ⟨_,rfl,l2,ts2,rfl,.inl (SqL.of (s10 _ _ hl2)),λm2 nm2=>?_⟩
    have s11:=l0.new (o:=.lst ts2) nm2
    have hm2:(upd H10 m2 (.lst ts2)) m2=some (.lst ts2):=af
    generalize upd H10 m2 (.lst ts2)=H11 at *
    refine ⟨(by show 2<=sizeLine; decide),λM nM=>?_⟩
    have s12:=l0.new (o:=.lst [.ref m1,.ref m2]) nM
    have hM:(upd H11 M (.lst [.ref m1,.ref m2])) M=some (.lst [.ref m1,.ref m2]):=af
    generalize upd H11 M (.lst [.ref m1,.ref m2])=H12 at *
    have s912:=(s10.trans s11).trans s12
    have M1:SumH P L 515 106 5 H12 m1 o1:=⟨S1,ts1,s12 _ _ (s11 _ _ hm1),pr1.mono λt xs e=>s912 _ _ e⟩
    have M2:SumH P L 515 106 5 H12 m2 o2:=⟨S2,ts2,s12 _ _ hm2,pr2.mono λt xs e=>s912 _ _ e⟩
    refine ⟨_,rfl,_,rfl,M,_,_,.ref m1,rfl,rfl,SqL.of hM,rfl,_,rfl,M,_,_,.ref m2,rfl,rfl,SqL.of hM,rfl,?_⟩
    try dsimp only [bY]
    show bn CF CR CG [.ref g,.ref m1,.ref m2] H12 _ E0
    refine b7 (j:=5) hP hL4 ⟨dxg,s912 _ _ hg9⟩ (hN9.mono λo e=>s912 _ _ e) M1 M2 (by decide) (by decide) (by decide) (by decide) (by decide) (by decide) (by decide) λdf o H13 nf s13 F is=>?_
    have s913:=s912.trans s13
    obtain ⟨T1,us1,hk1,ps1⟩:=E1.same s913
    obtain ⟨T2,us2,hk2,ps2⟩:=E2.same s913
    have pp:=S1.prods (j:=5) hP S2 (by decide) (by decide) (by decide)
    refine ⟨_,rfl,_,rfl,_,rfl,_,rfl,l1,l2,P,us1,us2,o1,o2,rfl,hP,hk1,ps1,hk2,ps2,Nat.le_trans (Nat.mul_le_mul S1.1 S2.1) (by decide),λp hp=>⟨(S1.sz (by decide) p hp).1,(S1.sz (by decide) p hp).2.1,by have:=(S1.sz (by decide) p hp).2.2; omega⟩,λp hp=>⟨(S2.sz (by decide) p hp).1,(S2.sz (by decide) p hp).2.1⟩,pp.1,λd2 rs2 o' H14 nd2 s14 hd2 po2 is2=>?_⟩
    obtain rfl:=gp is2 is
    refine ⟨dS P o',dS P o',(F.same s14).dr,dr_dS hd2 po2,aX _ _,aX _ _,_,rfl,?_⟩
    rw [iG]
    refine bF ?_
    obtain ⟨SF,tsF,hF,pF⟩:=F.same s14
    obtain ⟨_,BF,_,_,cF⟩:=id SF
    refine ⟨_,rfl,_,rfl,_,rfl,df,P,L,tsF,o',rfl,hP,hF,pF,Nat.le_trans SF.1 (by decide),SF.sumOk (by decide),SF.self,λq hq=>⟨(cF.2 q hq).2.2.2.1,by have:=(cF.2 q hq).2.2.2.1; omega,(cF.2 q hq).2.2.2.2⟩,λH15 s15=>?_⟩
    refine ⟨_,rfl,bF ?_⟩
    have s915:=(s913.trans s14).trans s15
    have F:=(F.same s14).same s15
    have s1215:=(s13.trans s14).trans s15
    clear hd2 po2 is2 hF pF s13 s14 s15 s913 s10 s11 s12 hk1 hk2 ps1 ps2 hl1 hl2 pr1 pr2 hm1 hm2 nd2 nf nm1 nm2 nM pp
    have hM:=s1215 _ _ hM
    have M1:=M1.same s1215
    have M2:=M2.same s1215
    have dg1:∀ p ∈ o1,p.1.sum<=8:=λp hp=>by have:=g1 p hp; omega
    have dg2:∀ p ∈ o2,p.1.sum<=8:=λp hp=>by have:=g2 p hp; omega
    have pa {H':Hp} (s:l0 H9 H'):Paired (At P H') us xs:=dv (λ_ _ z=>z.same s) pu
    refine ⟨_,rfl,_,rfl,_,rfl,_,rfl,?_⟩
    show fq [.int P,.ref l1,.ref lp] H15 _ E0
    refine jb hP hL4 (E1.same s915) (s915 _ _ hz) (pa s915) dg1 okx lx' (by decide) (by decide) (by decide) λr1 H16 s16 a16 ok1 sz1=>?_
    have s916:=s915.trans s16
    refine ⟨_,rfl,_,rfl,_,rfl,?_⟩
    show fq [.int P,.ref l2,.ref lp] H16 _ E0
    refine jb hP hL4 (E2.same s916) (s916 _ _ hz) (pa s916) dg2 okx lx' (by decide) (by decide) (by decide) λr2 H17 s17 a17 ok2 sz2=>?_
    refine ⟨P,r1,r2,_,_,rfl,hP,a16.same s17,a17,ok1,ok2,sz1,sz2,λrd H18 s18 ad=>?_⟩
    have s1518:=(s16.trans s17).trans s18
    have s918:=s915.trans s1518
    have F:=F.same s1518
    refine ⟨_,rfl,_,rfl,_,rfl,?_⟩
    show fq [.int P,.ref df,.ref lp] H18 _ E0
    refine jb hP hL4 F (s918 _ _ hz) (pa s918) (prods_deg S1 S2 g1 g2 is) okx lx' (by decide) (by decide) (by decide) λr3 H19 s19 a19 ok3 sz3=>?_
    obtain ⟨_,B1,_,_,c1⟩:=id S1
    obtain ⟨_,B2,_,_,c2⟩:=id S2
    rw [wth_prod hP (λx hx=>(okx x hx).1) lx' c1 c2 is] at a19
    refine ⟨_,rfl,dN P _,dN P _,iR a19,iR (ad.same s19),bD _ _,bD _ _,_,rfl,?_⟩
    rw [SeqAt.eqv_refl _ (SeqAt.canLay_of_shaped (bD _ _))]
    refine bF ?_
    have s1519:=s1518.trans s19
    have s919:=s918.trans s19
    have F:=F.same s19
    clear a16 a17 ad a19 s16 s17 s18 s19 s916 s918 s1518 ok1 ok2 ok3 sz1 sz2 sz3
    refine ⟨_,rfl,_,rfl,_,rfl,(by show 2<=sizeLine; decide),λZ nZ=>?_⟩
    have s20:=l0.new (o:=.lst [.ref l1,.ref l2]) nZ
    have hZ:(upd H19 Z (.lst [.ref l1,.ref l2])) Z=some (.lst [.ref l1,.ref l2]):=af
    generalize upd H19 Z (.lst [.ref l1,.ref l2])=H20 at *
    have s1520:=s1519.trans s20
    have s920:=s919.trans s20
    have F:=F.same s20
    refine ⟨dSS P [o1,o2],dSS P [o1,o2],.lst (SqL.of (s1520 _ _ hM)) (.cons (M1.same s1520).dr (.cons (M2.same s1520).dr .nil)),.lst (SqL.of hZ) (.cons (E1.same s920).dr (.cons (E2.same s920).dr .nil)),fU _ _,fU _ _,_,rfl,?_⟩
    rw [eqv_dSS]
    refine bF ?_
    clear hM M1 M2 hZ s20 s1520 s1519 s919 s915 s1215 s912 pa pu dg1 dg2 nZ
    obtain ⟨A1,u1⟩:=up3 S1
    obtain ⟨A2,u2⟩:=up3 S2
    obtain ⟨A3,u3⟩:=up3 E3.1
    have rg {H':Hp} (s:l0 H9 H'):cS CG H' g x L:=⟨dxg,s _ _ hg9⟩
    have nm {H':Hp} (s:l0 H9 H'):mH CF CR H' x P:=hN9.mono λo e=>s _ _ e
    refine ⟨_,rfl,_,rfl,_,rfl,?_⟩
    try dsimp only [bY]
    show bn CF CR CG [.ref g,.ref l2,.ref l1] H20 _ E0
    refine b7 (j:=5) hP hL4 (rg s920) (nm s920) (E2.same s920) (E1.same s920) (by decide) (by decide) (by decide) (by decide) (by decide) (by decide) (by decide) λd21 o21 H21 _ s21 F21 is21=>?_
    obtain rfl:o21=o':=eq_comm3 hP (a:=A1) (b:=A2) (by rw [u1,u2]; exact is) (by rw [u1,u2]; exact is21)
    refine ⟨_,rfl,dS P o21,dS P o21,F21.dr,(F.same s21).dr,aX _ _,aX _ _,_,rfl,?_⟩
    rw [iG]
    refine bF ?_
    have s921:=s920.trans s21
    have F:=F.same s21
    clear s920 s21 F21 is21
    refine ⟨_,rfl,_,rfl,_,rfl,?_⟩
    try dsimp only [bY]
    show bn CF CR CG [.ref g,.ref df,.ref l3] H21 _ E0
    refine b7 (j:=7) hP hL4 (rg s921) (nm s921) F (E3.same s921) (by decide) (by decide) (by decide) (by decide) (by decide) (by decide) (by decide) λd22 o22 H22 _ s22 F22 is22=>?_
    have s922:=s921.trans s22
    refine ⟨_,rfl,_,rfl,_,rfl,_,rfl,_,rfl,?_⟩
    try dsimp only [bY]
    show bn CF CR CG [.ref g,.ref l2,.ref l3] H22 _ E0
    refine b7 (j:=5) hP hL4 (rg s922) (nm s922) (E2.same s922) (E3.same s922) (by decide) (by decide) (by decide) (by decide) (by decide) (by decide) (by decide) λd23 o23 H23 _ s23 F23 is23=>?_
    have s923:=s922.trans s23
    try dsimp only [bY]
    show bn CF CR CG [.ref g,.ref l1,.ref d23] H23 _ E0
    refine b7 (j:=7) hP hL4 (rg s923) (nm s923) (E1.same s923) F23 (by decide) (by decide) (by decide) (by decide) (by decide) (by decide) (by decide) λd24 o24 H24 _ s24 F24 is24=>?_
    obtain rfl:o22=o24:=eq_assoc3 hP (a:=A1) (b:=A2) (c:=A3) (by rw [u1,u2]; exact is) (by rw [u2,u3]; exact is23) (by rw [u3]; exact is22) (by rw [u1]; exact is24)
    refine ⟨dS P o22,dS P o22,((F22.same s23).same s24).dr,F24.dr,aX _ _,aX _ _,_,rfl,?_⟩
    rw [iG]
    refine bF ?_
    have s924:=s923.trans s24
    clear s921 s922 s923 s22 s23 s24 F F22 F23 F24 is22 is23 is24 is
    refine ⟨_,rfl,_,rfl,_,rfl,_,rfl,?_⟩
    try dsimp only [bY]
    show ja CF CR CG [.ref g,.ref l1,.ref l2] H24 _ E0
    refine go_plus (j:=4) hP (rg s924) (nm s924) (E1.same s924) (E2.same s924) (by decide) (by decide) (by decide) (by decide) rfl (by decide) λd25 o25 H25 _ s25 F25 is25=>?_
    have s925:=s924.trans s25
    refine ⟨_,rfl,?_⟩
    try dsimp only [bY]
    show bn CF CR CG [.ref g,.ref d25,.ref l3] H25 _ E0
    refine b7 (j:=6) hP hL4 (rg s925) (nm s925) F25 (E3.same s925) (by decide) (by decide) (by decide) (by decide) (by decide) (by decide) (by decide) λd26 o26 H26 _ s26 F26 is26=>?_
    have s926:=s925.trans s26
    refine ⟨_,rfl,_,rfl,_,rfl,_,rfl,?_⟩
    try dsimp only [bY]
    show bn CF CR CG [.ref g,.ref l1,.ref l3] H26 _ E0
    refine b7 (j:=5) hP hL4 (rg s926) (nm s926) (E1.same s926) (E3.same s926) (by decide) (by decide) (by decide) (by decide) (by decide) (by decide) (by decide) λd27 o27 H27 _ s27 F27 is27=>?_
    have s927:=s926.trans s27
    refine ⟨_,rfl,_,rfl,_,rfl,?_⟩
    try dsimp only [bY]
    show bn CF CR CG [.ref g,.ref l2,.ref l3] H27 _ E0
    refine b7 (j:=5) hP hL4 (rg s927) (nm s927) (E2.same s927) (E3.same s927) (by decide) (by decide) (by decide) (by decide) (by decide) (by decide) (by decide) λd28 o28 H28 _ s28 F28 is28=>?_
    have s928:=s927.trans s28
    try dsimp only [bY]
    show ja CF CR CG [.ref g,.ref d27,.ref d28] H28 _ E0
    refine go_plus (j:=6) hP (rg s928) (nm s928) (F27.same s28) F28 (by decide) (by decide) (by decide) (by decide) rfl (by decide) λd29 o29 H29 _ s29' F29 is29=>?_
    obtain rfl:o26=o29:=eq_dist3 hP (a:=A1) (b:=A2) (c:=A3) (by rw [u1,u2]; exact is25) (by rw [u1,u3]; exact is27) (by rw [u2,u3]; exact is28) (by rw [u3]; exact is26) is29
    refine ⟨dS P o26,dS P o26,(((F26.same s27).same s28).same s29').dr,F29.dr,aX _ _,aX _ _,_,rfl,?_⟩
    rw [iG]
    exact bF (fin _ _ _ _ _ _ (s928.trans s29'))
  ·rintro σ H7 ⟨x4,x5,x6,x7,x8,x9,x10,x11,x12,rfl,s7⟩
   exact q _
set_option maxHeartbeats 4000000 in
theorem all_mk {l:PySem.W.OpenLaw} {w:World} {K:Frag} {h:Heap} {mg:Str->Option Value} {fa:Addr} (X:K.In h) (G:h.Ns mainGlobals mg) (hfa:mg "law"=some (.ref fa))
  (d0:mf K "top_and_bottom" bO) (d1:mf K "fraction_plus" ck) (d2:mf K "is_prime" fG) (d3:mf K "greatest_divisor" bA) (d4:mf K "inverse" gU) (d5:mf K "product_times" cp) (d6:mf K "degree" iI) (d7:mf K "height" iT) (d8:mf K "sum_of" i8) (d9:mf K "plus" s_plus) (d10:mf K "times" kW) (d11:mf K "product_terms" cm) (d12:mf K "gathered" fM) (d13:mf K "_law_cell" eB) (d14:mf K "_law_bag" fT) (d15:mf K "_law_take" eW) (d16:mf K "_law_great" dq) (d17:mf K "_law_signed" cU) (d18:mf K "_law_whole" dj) (d19:mf K "_law_low" fV) (d20:mf K "_law_is_prime" cj) (d21:mf K "_law_prime" dE) (d22:mf K "_law_numbers" cG) (d23:mf K "_law_plus" eV) (d24:mf K "_law_times" dM) (d25:mf K "_law_nought" cT) (d26:mf K "_law_unit" eK) (d27:mf K "_law_number" bU) (d28:mf K "_law_key" fQ) (d29:mf K "_law_sum" fK) (d30:mf K "_law_sum_times" bL) (d31:mf K "_law_number_like" bB) (d32:mf K "_law_sum_like" cg) (d33:mf K "_law_exponents" bP) (d34:mf K "_law_parts" dH) (d35:mf K "_law_ring" dX) (d36:mf K "_law_power" dF) (d37:mf K "_law_worth" dD) (d38:mf K "_law_three" dI) (d39:mf K "law" s_law)
  {oh:Addr} (qF:nsIn K mainGlobals "Fractions"=some (some (.ref oh))) (qG:plainGet K oh Str.empty=true) (qH:hasDictIn K oh=true) (qI:plainOver K oh=true) (qJ:findIn K (.ref oh) "__setattr__"=some (some (.builtin "object.__setattr__"))) (qK:makesIn K oh=true) (qL:keepIn K (.ref oh)=true)
  (qM:findIn K (.ref oh) "__init__"=some (some (.builtin "object.__init__")))
  {oA:Addr} {rV rW:Option Addr} {rX:Array (Option Value)} {rY rZ r9 se qp sf:Value}
  (o9:findIn K (.ref oh) "prime"=some (some (.ref oA))) (pc:isFn K (.ref oA)=true) (pC:K.lookup oA=some ⟨rY,rV,.func (fnOf "prime" "Fractions.prime" (aJ aN) (aH aN) (aj aN) .none rZ r9 se rW qp sf),rX⟩) (pD:codeIn K qp "Fractions.prime"=true) (oJ:keepIn K (.ref oA)=true)
  {oZ:Addr} {sC:Value} {sD:Option Addr} {qN:Tok} {tS:Nat} {tj:Array (Option Value)}
  {oO:Addr} {tT pQ:Option Addr} {tU:Array (Option Value)} {tV pR pS pT o0 pU:Value}
  (pV:findIn K (.ref oh) "of"=some (some (.ref oO))) (pW:isFn K (.ref oO)=true) (qf:K.lookup oO=some ⟨tV,tT,.func (fnOf "of" "Fractions.of" (aJ aF) (aH aF) (aj aF) (.ref oZ) pR pS pT pQ o0 pU),tU⟩) (qg:codeIn K o0 "Fractions.of"=true) (pz:keepIn K (.ref oO)=true)
  (o4:K.lookup oZ=some ⟨sC,sD,.seq #[.int 1 qN] tS,tj⟩)
  {oE:Addr} {sE sF:Option Addr} {sG:Array (Option Value)} {sI sJ sK sL qz sM:Value}
  (pE:findIn K (.ref oh) "plus"=some (some (.ref oE))) (pG:isFn K (.ref oE)=true) (pK:K.lookup oE=some ⟨sI,sE,.func (fnOf "plus" "Fractions.plus" (aJ aT) (aH aT) (aj aT) .none sJ sK sL sF qz sM),sG⟩) (pL:codeIn K qz "Fractions.plus"=true) (oR:keepIn K (.ref oE)=true)
  {oi:Addr} (tm:nsIn K mainGlobals "Rests"=some (some (.ref oi))) (tq:plainGet K oi Str.empty=true) (tu:hasDictIn K oi=true) (tw:plainOver K oi=true) (tz:findIn K (.ref oi) "__setattr__"=some (some (.builtin "object.__setattr__"))) (tD:makesIn K oi=true) (tE:keepIn K (.ref oi)=true)
  (ou:findIn K (.ref oi) "modulus"=some none)
  {oF:Addr} {sN sO:Option Addr} {sP:Array (Option Value)} {sQ sR sT sU qA sV:Value}
  (oK:findIn K (.ref oi) "__init__"=some (some (.ref oF))) (oM:isFn K (.ref oF)=true) (pM:K.lookup oF=some ⟨sQ,sN,.func (fnOf "__init__" "Rests.__init__" (aJ aS) (aH aS) (aj aS) .none sR sT sU sO qA sV),sP⟩) (pN:codeIn K qA "Rests.__init__"=true) (oS:keepIn K (.ref oF)=true)
  {oW:Addr} {uk ul:Option Addr} {um:Array (Option Value)} {uo uq ur ut rH uu:Value}
  (qh:findIn K (.ref oi) "prime"=some (some (.ref oW))) (qi:isFn K (.ref oW)=true) (qr:K.lookup oW=some ⟨uo,uk,.func (fnOf "prime" "Rests.prime" (aJ be) (aH be) (aj be) .none uq ur ut ul rH uu),um⟩) (qt:codeIn K rH "Rests.prime"=true) (pJ:keepIn K (.ref oW)=true)
  {ql:Addr} {uI:Value} {uJ:Option Addr} {sg:Tok} {u5:Nat} {uX:Array (Option Value)}
  {pX:Addr} {u9 qY:Option Addr} {va:Array (Option Value)} {vb qZ q5 rc qm re:Value}
  (rf:findIn K (.ref oi) "of"=some (some (.ref pX))) (rh:isFn K (.ref pX)=true) (rO:K.lookup pX=some ⟨vb,u9,.func (fnOf "of" "Rests.of" (aJ aO) (aH aO) (aj aO) (.ref ql) qZ q5 rc qY qm re),va⟩) (rP:codeIn K qm "Rests.of"=true) (qB:keepIn K (.ref pX)=true)
  (qo:K.lookup ql=some ⟨uI,uJ,.seq #[.int 1 sg] u5,uX⟩)
  {ph:Addr} {uK uL:Option Addr} {uM:Array (Option Value)} {uN uO uP uQ rQ uR:Value}
  (qu:findIn K (.ref oi) "plus"=some (some (.ref ph))) (qv:isFn K (.ref ph)=true) (qO:K.lookup ph=some ⟨uN,uK,.func (fnOf "plus" "Rests.plus" (aJ br) (aH br) (aj br) .none uO uP uQ uL rQ uR),uM⟩) (qP:codeIn K rQ "Rests.plus"=true) (pY:keepIn K (.ref ph)=true)
  {ow:Addr} (uv:nsIn K mainGlobals "Ring"=some (some (.ref ow))) (uw:plainGet K ow Str.empty=true) (ux:hasDictIn K ow=true) (uy:plainOver K ow=true) (uz:findIn K (.ref ow) "__setattr__"=some (some (.builtin "object.__setattr__"))) (uA:makesIn K ow=true) (uB:keepIn K (.ref ow)=true)
  (pZ:findIn K (.ref ow) "kind"=some none)
  (qw:findIn K (.ref ow) "width"=some none)
  {oI:Addr} {tF tG:Option Addr} {tH:Array (Option Value)} {tI tJ tK tL qQ tM:Value}
  (oT:findIn K (.ref ow) "__init__"=some (some (.ref oI))) (oU:isFn K (.ref oI)=true) (p5:K.lookup oI=some ⟨tI,tF,.func (fnOf "__init__" "Ring.__init__" (aJ aW) (aH aW) (aj aW) .none tJ tK tL tG qQ tM),tH⟩) (p6:codeIn K qQ "Ring.__init__"=true) (o5:keepIn K (.ref oI)=true)
  {oP:Addr} {tW tX:Option Addr} {tY:Array (Option Value)} {tZ t0 t4 t6 qS t8:Value}
  (p7:findIn K (.ref ow) "numbers"=some (some (.ref oP))) (p8:isFn K (.ref oP)=true) (qj:K.lookup oP=some ⟨tZ,tW,.func (fnOf "numbers" "Ring.numbers" (aJ bb) (aH bb) (aj bb) .none t0 t4 t6 tX qS t8),tY⟩) (qk:codeIn K qS "Ring.numbers"=true) (pA:keepIn K (.ref oP)=true)
  {og:Addr} (rj:nsIn K mainGlobals "NoNumber"=some (some (.ref og)))
  (rm:excIn K og iP "ValueError.__new__"=true) (rA:findIn K (.ref og) "__getattribute__"=some (some (.builtin "BaseException.__getattribute__"))) (rB:findIn K (.ref og) "__getattr__"=some none) (rC:findIn K (.ref og) "__class__"=some (some (.builtin "object.__class__"))) (rD:mroIn K og (.type "object")=some true) (rE:mroIn K og (.type "BaseException")=some true) (rF:specialIn K (.builtin "object.__class__") "__get__"=some (some (.builtin "getset_descriptor.__get__"))) (rG:takesIn K (.builtin "object.__class__")=some true)
  {oj:Addr} (sh:nsIn K mainGlobals "NoRing"=some (some (.ref oj)))
  (si:excIn K oj iP "ValueError.__new__"=true) (sj:findIn K (.ref oj) "__getattribute__"=some (some (.builtin "BaseException.__getattribute__"))) (sk:findIn K (.ref oj) "__getattr__"=some none) (sr:findIn K (.ref oj) "__class__"=some (some (.builtin "object.__class__"))) (ss:mroIn K oj (.type "object")=some true) (sw:mroIn K oj (.type "BaseException")=some true) (sA:specialIn K (.builtin "object.__class__") "__get__"=some (some (.builtin "getset_descriptor.__get__"))) (sB:takesIn K (.builtin "object.__class__")=some true)
  {uC:Tok} (oX:nsIn K mainGlobals "LEAST_PRIME"=some (some (.int 2 uC)))
  {sW:Tok} (oG:nsIn K mainGlobals "GREATEST_PRIME"=some (some (.int 9973 sW)))
  {t9:Tok} (oQ:nsIn K mainGlobals "MOST_LETTERS"=some (some (.int 4 t9)))
  (z0:nsIn K mainGlobals "len"=some none) (z1:nsIn K mainGlobals "range"=some none) (z2:nsIn K mainGlobals "zip"=some none) (z3:nsIn K mainGlobals "all"=some none) (z4:nsIn K mainGlobals "sum"=some none) (z5:nsIn K mainGlobals "max"=some none) (z6:nsIn K mainGlobals "min"=some none) (z7:nsIn K mainGlobals "abs"=some none) (z8:nsIn K mainGlobals "tuple"=some none) (z9:nsIn K mainGlobals "list"=some none) (z10:nsIn K mainGlobals "int"=some none) (z11:nsIn K mainGlobals "bool"=some none) (z12:nsIn K mainGlobals "isinstance"=some none) (z13:nsIn K mainGlobals "enumerate"=some none) (z14:nsIn K mainGlobals "sorted"=some none) (z15:nsIn K mainGlobals "set"=some none) (z16:nsIn K mainGlobals "str"=some none) :
  ∃ fd:FuncData,(∀ (s:Shared) (v:Value),BindsTo s fd ⟨[v],[]⟩ [("_law_script",v)])/\∀ base:Heap,K.In base->base.Ns mainGlobals mg->me l.prog w K mg base CX0 8 fa fd ["_law_script"] (spLaw K):=by
 have T:Blt mg:=⟨mg_none_of X G z0,mg_none_of X G z1,mg_none_of X G z2,mg_none_of X G z3,mg_none_of X G z4,mg_none_of X G z5,mg_none_of X G z6,mg_none_of X G z7,mg_none_of X G z8,mg_none_of X G z9,mg_none_of X G z10,mg_none_of X G z11,mg_none_of X G z12,mg_none_of X G z13,mg_none_of X G z14,mg_none_of X G z15,mg_none_of X G z16⟩
 refine d39.law X G hfa λ{_} {base} F39 _ _=>?_
 have M {k n sp} (h:FnB l.prog w K mg base k n sp):=h
 have p9:Cls K oh:=⟨qG,qH,qI,qJ⟩
 have vc:=mg_of X G qF
 have sX:=dW (st:=aN) pC pD oJ
 have sY:=sX.binds (ps:=["self"]) λ_ _ _ _ _ _ us hl=>match us,hl with | [_],_=>rfl
 have sZ:fH K oh "prime" oA:=⟨o9,pc,oJ⟩
 have rJ:=funD_mk (st:=aF) qf qg pz
 have uD:mF K (fnOf "of" "Fractions.of" (aJ aF) (aH aF) (aj aF) (.ref oZ) pR pS pT pQ o0 pU) ["self", "top", "bottom"] []:=λs us X hl=>match us,hl with | [_,_,_],_=>BindsTo.of_defaults rfl (X _ _ o4) rfl rfl rfl
 have uc:mF K (fnOf "of" "Fractions.of" (aJ aF) (aH aF) (aj aF) (.ref oZ) pR pS pT pQ o0 pU) ["self", "top", "bottom"] [.int 1 qN]:=λs us X hl=>by
  obtain ⟨z1,z2,rfl⟩:=two_of hl
  exact BindsTo.of_defaults rfl (X _ _ o4) rfl rfl rfl
 have rK:fH K oh "of" oO:=⟨pV,pW,pz⟩
 have tN:=dW (st:=aT) pK pL oR
 have tO:=tN.binds (ps:=["self", "one", "other"]) λ_ _ _ _ _ _ us hl=>match us,hl with | [_,_,_],_=>rfl
 have tP:fH K oh "plus" oE:=⟨pE,pG,oR⟩
 have oV:Cls K oi:=⟨tq,tu,tw,tz⟩
 have vx:=mg_of X G tm
 have tQ:=dW (st:=aS) pM pN oS
 have tR:=tQ.binds (ps:=["self", "prime"]) λ_ _ _ _ _ _ us hl=>match us,hl with | [_,_],_=>rfl
 have vp:fH K oi "__init__" oF:=⟨oK,oM,oS⟩
 have uS:=dW (st:=be) qr qt pJ
 have uT:=uS.binds (ps:=["self"]) λ_ _ _ _ _ _ us hl=>match us,hl with | [_],_=>rfl
 have uU:fH K oi "prime" oW:=⟨qh,qi,pJ⟩
 have ud:=funD_mk (st:=aO) rO rP qB
 have vh:mF K (fnOf "of" "Rests.of" (aJ aO) (aH aO) (aj aO) (.ref ql) qZ q5 rc qY qm re) ["self", "top", "bottom"] []:=λs us X hl=>match us,hl with | [_,_,_],_=>BindsTo.of_defaults rfl (X _ _ qo) rfl rfl rfl
 have vd:mF K (fnOf "of" "Rests.of" (aJ aO) (aH aO) (aj aO) (.ref ql) qZ q5 rc qY qm re) ["self", "top", "bottom"] [.int 1 sg]:=λs us X hl=>by
  obtain ⟨z1,z2,rfl⟩:=two_of hl
  exact BindsTo.of_defaults rfl (X _ _ qo) rfl rfl rfl
 have ue:fH K oi "of" pX:=⟨rf,rh,qB⟩
 have uY:=dW (st:=br) qO qP pY
 have uZ:=uY.binds (ps:=["self", "one", "other"]) λ_ _ _ _ _ _ us hl=>match us,hl with | [_,_,_],_=>rfl
 have u4:fH K oi "plus" ph:=⟨qu,qv,pY⟩
 have uE:Cls K ow:=⟨uw,ux,uy,uz⟩
 have vy:=mg_of X G uv
 have uf:=dW (st:=aW) p5 p6 o5
 have ug:=uf.binds (ps:=["self", "numbers", "letters"]) λ_ _ _ _ _ _ us hl=>match us,hl with | [_,_,_],_=>rfl
 have vv:fH K ow "__init__" oI:=⟨oT,oU,o5⟩
 have uF:=dW (st:=bb) qj qk pA
 have uG:=uF.binds (ps:=["self"]) λ_ _ _ _ _ _ us hl=>match us,hl with | [_],_=>rfl
 have uH:fH K ow "numbers" oP:=⟨p7,p8,pA⟩
 have qC:=mg_of X G rj
 have qD:XCl K og:=⟨rm,rA,rB,rC,rD,rE,rF,rG⟩
 have vq:=mg_of X G sh
 have vt:XCl K oj:=⟨si,sj,sk,sr,ss,sw,sA,sB⟩
 have oX:=mg_of X G oX
 have oG:=mg_of X G oG
 have oQ:=mg_of X G oQ
 have pi:=M (d13.fb X G λF=>ok_cell F T)
 have qR:=M (d14.fb X G λF=>ok_bag F pi)
 have oa:=M (d15.fb X G λF=>ok_take F)
 have oB:=M (d18.fb X G λF=>ok_whole F T)
 have oz:=M (d16.fb X G λF=>ok_great F oa)
 have oN:=M (d17.fb X G λF=>ok_signed F oa oz)
 have om:=M (d19.fb X G λF=>ok_low F T)
 have qa:=M (d20.fb X G λF=>ok_lawprime F T)
 have qW:=M (d21.fb X G λF=>ok_prime F oa qa)
 have rR:=M (d2.fb X G λF=>ok_isprime F oX oG)
 have oo:=M (d3.fb X G λF=>ok_gcd F T)
 have rL:=M (d4.fb X G λF=>ok_inverse F)
 have ui:=M (d6.fb X G λF=>ok_degree F T)
 have uj:=M (d7.fb X G λF=>ok_height F ui)
 have qb:=M (d5.fb X G λF=>ok_times F T)
 have uW:MkB l.prog w K mg base 2 oi "Rests" (lN oi):=⟨⟨_,_,_,ok_rinit tQ oV ou rR,⟨tD,oK,oM,tE⟩,tR⟩,vx⟩
 have qq:=M (d22.fb X G λF=>ok_nums F ⟨qK,qM,qL⟩ vc uW)
 have o8:=M (d27.fb X G λF=>ok_number F T oa oz oN om)
 have N0:FnB l.prog w K mg base 4 "_law_number" gE:=d27.fb X G λF=>ok_number0 F T oa oz oN om
 have pB:=M (d31.fb X G λF=>ok_like F T oB om)
 have pj:=M (d23.fb X G λF=>ok_lplus F om)
 have on:=M (d24.fb X G λF=>ok_ltimes F om)
 have oC:=M (d25.fb X G λF=>ok_nought F T)
 have rM:=M (d26.fb X G λF=>ok_unit F T)
 have rS:=M (d28.fb X G λF=>ok_lkey F T)
 have oH:=M (d29.fb X G λF=>ok_lsum F T pj oC rS)
 have pO:=M (d33.fb X G λF=>ok_exp F T oa)
 have qV:=M (d34.fb X G λF=>ok_parts F T oa pO o8)
 have pP:=M (d30.fb X G λF=>ok_ltimesS F T on oH)
 have qe:=M (d32.fb X G λF=>ok_slike F T oB pB oH)
 have qU:=M (d36.fb X G λF=>ok_power F T rM on)
 have pH:=M (d37.fb X G λF=>ok_worth F T oC on pj qU)
 have qX:=M (d38.fb X G λF=>ok_three F T oa qV oH)
 have uh:jD l.prog w K mg base 2 oh "of" [] (eG og):=⟨⟨_,_,_,_,ok_fofx rJ oo qC qD,rK,uD,.nil⟩,p9⟩
 have vo:jD l.prog w K mg base 2 oi "of" [] (fI oi og):=⟨⟨_,_,_,_,ok_rofx ud oV ou rL qC qD,ue,vh,.nil⟩,oV⟩
 have ve:jD l.prog w K mg base 2 oh "of" [.int 1] (eG og):=⟨⟨_,_,_,_,ok_fofx rJ oo qC qD,rK,uc,.cons ⟨_,rfl⟩ .nil⟩,p9⟩
 have vf:jD l.prog w K mg base 2 oi "of" [.int 1] (fI oi og):=⟨⟨_,_,_,_,ok_rofx ud oV ou rL qC qD,ue,vd,.cons ⟨_,rfl⟩ .nil⟩,oV⟩
 have vi:MtB l.prog w K mg base 3 oh "plus" (spFOp oh λa b=>(a.1*b.2+b.1*a.2,a.2*b.2)):=⟨⟨_,_,_,ok_fplus tN uh,tP,tO⟩,p9⟩
 have vj:MtB l.prog w K mg base 3 oi "plus" (spROp oi (· + ·)):=⟨⟨_,_,_,(ok_rplus uY oV ou).mono (by decide),u4,uZ⟩,oV⟩
 have vk:MtB l.prog w K mg base 1 oh "prime" spFPr:=⟨⟨_,_,_,ok_fpr sX,sZ,sY⟩,p9⟩
 have vn:MtB l.prog w K mg base 1 oi "prime" (spRPr oi):=⟨⟨_,_,_,ok_rpr uS oV ou,uU,uT⟩,oV⟩
 have qT:MtB l.prog w K mg base 1 ow "numbers" (jn ow):=⟨⟨_,_,_,ok_rnum uF uE pZ,uH,uG⟩,uE⟩
 have vg:MkBX l.prog w K mg base 2 ow "Ring" (jc ow oj):=⟨⟨_,_,_,ok_ginit uf uE pZ qw oQ vq vt,⟨uA,oT,oU,uB⟩,ug⟩,vy⟩
 have rN:FnBX l.prog w K mg base 5 "_law_ring" (lQ oh oi ow oj):=d35.fx X G λF=>ok_ring F qq vg
 have qE:=M (d8.fb X G λF=>ok_sumof F T uj qT vi vj ve vf)
 have uV:=M (d9.fb X G λF=>ok_plus F qE)
 have oY:=M (d0.fb X G λF=>ok_tb F vk vn)
 have qc:=M (d1.fb X G λF=>ok_fpl F oo)
 have qd:=M (d11.fb X G λF=>ok_terms F qT oY qb)
 have rT:=M (d12.fb X G λF=>ok_gath F qT qc qE uh vo)
 have pI:=M (d10.fb X G λF=>ok_timesS F rT qd)
 exact ok_law F39 T pi qR qW rN qX N0 pP qe on pH pI uV
theorem walk {l:PySem.W.OpenLaw} {q:Program} {loose:List Str} {XP:(Str->Option Value)->Heap->Prop} {YP:World->Heap->Prop} {d:DefRec} {K:Params->Frag} (hn:l.most=some 63) (hdf:d.params.defaults=[])
  (hY:∀ (w:World) (h:Heap),YP w h->(K w.params).In h)
  (F:∀ (w:World) (mg:Str->Option Value) (fa:Addr) (h:Heap),(K w.params).In h->h.Ns mainGlobals mg->mg d.name=some (.ref fa)->
   ∃ fd:FuncData,(∀ (s:Shared) (u:Value),BindsTo s fd ⟨[u],[]⟩ [("_law_script",u)])/\∀ base:Heap,(K w.params).In base->base.Ns mainGlobals mg->me l.prog w (K w.params) mg base CX0 8 fa fd ["_law_script"] (spLaw (K w.params))) :
  PySem.W.WalkO q loose XP YP l.row.toRowW d [] (λf vs=>PySem.call f vs):=
 L2.walk_of (n:=63) (k:=8) (x := "_law_script") (CX:=λ_=>CX0) (sp:=λw=>spLaw (K w.params)) hn (by decide) hdf ⟨rfl,by decide,by decide⟩ hY F (λ_ _ a ns hl _ hS=>⟨a,ns,rfl,hS,hl,λ_=>rfl⟩) λ_ _ _ _ _ z=>z
end K
namespace PySem.W.Fast
def tw17706278165463457257:=0
def tw7803903212086545416:=0
def tw8969850218306898146:=0
def tw4365444557496077882:=0
def tw17765458472806183994:=0
def tw9486689329622939460:=0
def tw12287748079133717405:=0
def tw13785783045924798754:=0
def tw3974786783000692176:=0
def tw6255987623577786021:=0
def tw2760885938614940418:=0
def tw7245873659757984003:=0
def tw14736020953668158023:=0
def tw6465089236976644781:=0
def tw8460126408876493502:=0
def tw2251898345348665170:=0
def tw14081672992723040769:=0
def tw840494934949307419:=0
def tw10929074589389936935:=0
def tw16872260081498043090:=0
def tw10023701329845310176:=0
def tw12123787280086919590:=0
def tw2461067147724372123:=0
def tw10684809675067848389:=0
def tw2424509793681569330:=0
def tw11913630515014542914:=0
def tw4100707080642997655:=0
def tw8404573113455910490:=0
def tw1501735240148399716:=0
def tw11360049754352720799:=0
def tw10047797313490483344:=0
def tw3014873931209883832:=0
def tw16549491457854392100:=0
def tw7347749718682466129:=0
def tw14820628329032288044:=0
def tw3030693742660732435:=0
def tw17099305556046361420:=0
def tw2449008681054121576:=0
def tw15054760917826025287:=0
def tw7102211859204144329:=0
def tw6128512281086841918:=0
def tw2714394624633313481:=0
def tw4948138632474401587:=0
def tw12198138181521458797:=0
def tw11571369973412032843:=0
def tw16629637383445074227:=0
def tw17305498462498039998:=0
def tw15214986332679417791:=0
def tw16218523001510607533:=0
def tw52165772559199590:=0
def tw5647673662947651078:=0
def tw4875638302322585762:=0
def tw11647475778753547398:=0
def tw7364054149501933370:=0
def tw198689886517305354:=0
def tw1192777952226645005:=0
def tw11703667106791166977:=0
def tw10646907789726530306:=0
def tw14755849896977182606:=0
def tw17083889562073798422:=0
def tw8912224731417519877:=0
def tw1530002810740757584:=0
def tw14762679794639573435:=0
def tw1675671693382794024:=0
def tw9493034706949535737:=0
def tw2071375464485323097:=0
def tw1609798992473287211:=0
def tw4585824422089296861:=0
def tw18304957437145312657:=0
def tw83596715133404299:=0
def tw13329439011588357963:=0
def tw479360138228024699:=0
def tw7689450747114953254:=0
def tw1869917154081188507:=0
def tw6364866959834950122:=0
def tw8253779827006926061:=0
def tw1523793699717868432:=0
def tw12474356938063307744:=0
def tw5886277563374291177:=0
def tw13344263359320867316:=0
def tw14978269686684290963:=0
def tw1092103649764254333:=0
def tw9999587388562424119:=0
def tw7488544136861846450:=0
def tw15512995626915397324:=0
def tw1908798639468536349:=0
def tw9889648827900523271:=0
def tw4023113589650727147:=0
def tw8965328942056566478:=0
def tw13150513774750468424:=0
def tw14775073383237726211:=0
def tw15480819580016621977:=0
def tw18063592556523941752:=0
def tw12616005342038923583:=0
def tw2962797102599600829:=0
def tw7195513692630765331:=0
def tw11337788153002911510:=0
def tw11851639898668861816:=0
def tw5722910179313206016:=0
def tw17905970536124670919:=0
def tw3288263027282341546:=0
def tw16388279195639150523:=0
def tw5288797545880155911:=0
def tw10089869598591422543:=0
def tw14135296981299753145:=0
def tw15207589453726879276:=0
def tw15059269397854904701:=0
def tw17477090286036697000:=0
def tw2997147435084838812:=0
def tw11706048870899508632:=0
def tw2899562488873856700:=0
def tw3212574949236155354:=0
def tw3499827956874762112:=0
def tw14027651284327457814:=0
def tw7034833078215492719:=0
def tw12543785265504926906:=0
def tw3996453746358781648:=0
def tw3983205326042048782:=0
def tw4968195383255156182:=0
def tw16989334689959326338:=0
def tw15433945480063589361:=0
def tw11361689965117611419:=0
def tw17858315556277405861:=0
def tw16438013002530149906:=0
def tw1691213429094001751:=0
def tw15474438834338049260:=0
def tw12555145365176139330:=0
def tw7037109175932001968:=0
def tw12470417852073217313:=0
def tw13239617887414880982:=0
def tw6426020229466051801:=0
def tw8303459530357113986:=0
def tw3049470223824385461:=0
def tw812003427477887289:=0
def tw13014922632552759364:=0
def tw12467762270939651922:=0
def tw7384754050861477560:=0
def tw13199254395709153990:=0
def tw9560100772844162390:=0
def tw13705749515582669862:=0
def tw5912104347926529524:=0
def tw683634711308014896:=0
def tw13174126008885841562:=0
def tw14347788643324659523:=0
def tw5930786788125370622:=0
def tw5872598619224683706:=0
def tw8323488904551347401:=0
def tw4201796452815372443:=0
def tw4580748871545381447:=0
def tw18270708288575331156:=0
def tw17810539274331599434:=0
def tw7376204404821630982:=0
def tw17605307048422516542:=0
def tw13651184760973352096:=0
def tw4123468067401088607:=0
def tw1981487770958353935:=0
def tw18378136112976520829:=0
def tw15652532900566971374:=0
def tw13834580900719337819:=0
def tw8983220078686571891:=0
def tw516339640871829770:=0
def tw9322940458913764086:=0
def tw1894821465006644442:=0
def tw428762693397755875:=0
def tw15546893891415419163:=0
def tw2121646054555686916:=0
def tw11443079833466770162:=0
def tw893346437564246837:=0
def tw5695016918598142897:=0
def tw8368567533896831110:=0
def tw2957242831153554589:=0
def tw9637705988163748184:=0
def tw17846539067741608413:=0
def tw8348643035617709534:=0
end PySem.W.Fast
open PySem PySem.W PyProof.Rows
set_option maxRecDepth 100000 in
set_option maxHeartbeats 0 in
theorem PySem.Challenge.cw_relationladder_k13_products_of_sums_holds : PySem.Challenge.rw_relationladder_k13_products_of_sums.Holds := by
 w_on; o_law; k_head; (case hw=>w_witness2)
 k_fill
 refine K.walk (l:=PySem.Challenge.rw_relationladder_k13_products_of_sums) rfl rfl (λw h Y=>PySem.W.kIn_of Y) ?F
 case F=>
  intro w mg fa h KX G hmg
  refine' K.all_mk KX G hmg ?d0 ?d1 ?d2 ?d3 ?d4 ?d5 ?d6 ?d7 ?d8 ?d9 ?d10 ?d11 ?d12 ?d13 ?d14 ?d15 ?d16 ?d17 ?d18 ?d19 ?d20 ?d21 ?d22 ?d23 ?d24 ?d25 ?d26 ?d27 ?d28 ?d29 ?d30 ?d31 ?d32 ?d33 ?d34 ?d35 ?d36 ?d37 ?d38 ?d39 ?qF ?qG ?qH ?qI ?qJ ?qK ?qL ?qM ?o9 ?pc ?pC ?pD ?oJ ?pV ?pW ?qf ?qg ?pz ?o4 ?pE ?pG ?pK ?pL ?oR ?tm ?tq ?tu ?tw ?tz ?tD ?tE ?ou ?oK ?oM ?pM ?pN ?oS ?qh ?qi ?qr ?qt ?pJ ?rf ?rh ?rO ?rP ?qB ?qo ?qu ?qv ?qO ?qP ?pY ?uv ?uw ?ux ?uy ?uz ?uA ?uB ?pZ ?qw ?oT ?oU ?p5 ?p6 ?o5 ?p7 ?p8 ?qj ?qk ?pA ?rj ?rm ?rA ?rB ?rC ?rD ?rE ?rF ?rG ?sh ?si ?sj ?sk ?sr ?ss ?sw ?sA ?sB ?oX ?oG ?oQ ?z0 ?z1 ?z2 ?z3 ?z4 ?z5 ?z6 ?z7 ?z8 ?z9 ?z10 ?z11 ?z12 ?z13 ?z14 ?z15 ?z16
  (case d0|d1|d2|d3|d4|d5|d6|d7|d8|d9|d10|d11|d12|d13|d14|d15|d16|d17|d18|d19=>refine' .mk ?a ?l ?c ?k; (case a=>k_is); (case l=>k_is); (case c=>k_is); (case k=>k_is))
  (case d20|d21|d22|d23|d24|d25|d26|d27|d28|d29|d30|d31|d32|d33|d34|d35|d36|d37|d38|d39=>refine' .mk ?a ?l ?c ?k; (case a=>k_is); (case l=>k_is); (case c=>k_is); (case k=>k_is))
  (case qF|qG|qH|qI|qJ|qK|qL|qM|o9|pc|pC|pD|oJ|pV|pW|qf|qg|pz|o4|pE=>k_is)
  (case pG|pK|pL|oR|tm|tq|tu|tw|tz|tD|tE|ou|oK|oM|pM|pN|oS|qh|qi|qr=>k_is)
  (case qt|pJ|rf|rh|rO|rP|qB|qo|qu|qv|qO|qP|pY|uv|uw|ux|uy|uz|uA|uB=>k_is)
  (case pZ|qw|oT|oU|p5|p6|o5|p7|p8|qj|qk|pA|rj=>k_is)
  (case rm=>first | k_is | k_exc | kit_is | kts_exm)
  (case rA|rB|rC|rD|rE|rF|rG|sh=>k_is)
  (case si=>first | k_is | k_exc | kit_is | kts_exm)
  (case sj|sk|sr|ss|sw|sA|sB|oX|oG|oQ|z0|z1|z2|z3|z4|z5|z6|z7|z8|z9=>k_is)
  (case z10|z11|z12|z13|z14|z15|z16=>k_is)
