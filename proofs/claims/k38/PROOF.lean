import PyProof.Rows.All
import Wide.All
import OpenK.AllK
import Wide.FinOn
import PyProof.EqAt
import PyProof.EqKinds
import PyProof.TupleCall
import PyProof.StrBlockH
import PyProof.StrWalks
import PyProof.StrCalls
import PyProof.SetRoads
import PyProof.DictRoadsH
import Lean
import PySem.Challenge.RW_foreseehall_k38_ways_refused
open List (mem_append_right mem_append_left getElem?_eq_getElem getD_eq_getElem?_getD append_assoc mem_cons_of_mem length_map getElem?_map mem_of_getElem? length_set mem_cons_self size_toArray getElem?_set_ne getElem?_set_self map_cons length_append set_set nodup_nil contains_iff_mem lookup_cons map_map length_cons append_nil getElem?_append_left nil_append getElem?_append_right all_eq_true length_take getElem_mem length_filter_le length_drop flatten_cons mem_cons not_mem_nil length_singleton length_dropLast any_eq_true take_of_length_le filter_cons perm_append_comm getElem?_cons_succ getElem?_replicate mem_range map_take filterMap_cons of_mem_zip drop_eq_getElem_cons getElem?_take mem_map length_nil drop_zero drop_of_length_le map_append ne_nil_of_mem)
set_option Elab.async false
set_option linter.all false
set_option maxRecDepth 100000
set_option maxHeartbeats 4000000
set_option maxRecDepth 10000
abbrev Fg:=PySem.W.Frag
namespace L2
open PySem PySem.Spec PyProof.Rows
abbrev kW:=Sum Int Str
def zJ:kW->Value->Bool
 | .inl k,v=>Value.isInt k v
 | .inr x,v=>Value.isStrOf x v
def Ka (w:World):kW->Int
 | .inl k=>hashInt k
 | .inr x=>hashStr w x
theorem wV:∀{k:kW} {v:Value},zJ k v=true->(∃i t,k=Sum.inl i/\v=Value.int i t)\/(∃x t,k=Sum.inr x/\v=Value.str x t)
 | .inl i,v,h=>by
  obtain ⟨t,e⟩:=Value.isInt_shape (k:=i) (v:=v) h
  exact .inl ⟨i,t,rfl,e⟩
 | .inr x,v,h=>by
  obtain ⟨t,e⟩:=Value.isStrOf_shape (x:=x) (v:=v) h
  exact .inr ⟨x,t,rfl,e⟩
theorem Cv (a b:Int):decide ((Sum.inl a:kW)=Sum.inl b)=(a==b):=by
 by_cases e:a=b
 ·subst e;simp
 ·have h:¬(Sum.inl a:kW)=Sum.inl b:=fun q=>e (Sum.inl.inj q)
  rw [decide_eq_false h];exact (beq_eq_false_iff_ne.mpr e).symm
theorem Cs (a b:Str):decide ((Sum.inr a:kW)=Sum.inr b)=decide (a=b):=by
 by_cases e:a=b
 ·subst e;simp
 ·have h:¬(Sum.inr a:kW)=Sum.inr b:=fun q=>e (Sum.inr.inj q)
  rw [decide_eq_false h,decide_eq_false e]
theorem Cu (a:Int) (b:Str):decide ((Sum.inl a:kW)=Sum.inr b)=false:=decide_eq_false (fun q=>nomatch q)
theorem Ct (a:Str) (b:Int):decide ((Sum.inr a:kW)=Sum.inl b)=false:=decide_eq_false (fun q=>nomatch q)
def Ik (prog:Program) (w:World):PySem.KeyKind prog w kW where
 is:=zJ
 hash:=Ka w
 inj:=fun v a b ha hb=>by
  rcases wV ha with ⟨i,t,rfl,rfl⟩ | ⟨x,t,rfl,rfl⟩
  ·rcases wV hb with ⟨j,u,rfl,e⟩ | ⟨y,u,rfl,e⟩
   ·injection e with e1 _;rw [e1]
   ·exact nomatch e
  ·rcases wV hb with ⟨j,u,rfl,e⟩ | ⟨y,u,rfl,e⟩
   ·exact nomatch e
   ·injection e with e1 _;rw [e1]
 byValue:=fun k v h=>by
  rcases wV h with ⟨i,t,rfl,rfl⟩ | ⟨x,t,rfl,rfl⟩<;>rfl
 pyHash:=fun hv h=>by
  rcases wV hv with ⟨i,t,rfl,rfl⟩ | ⟨x,t,rfl,rfl⟩
  ·exact wpAny_pyHash_int h
  ·exact wpAny_pyHash_str h
 eqBool:=fun hu hv h=>by
  rcases wV hu with ⟨i,t,rfl,rfl⟩ | ⟨x,t,rfl,rfl⟩
  ·rcases wV hv with ⟨j,u,rfl,rfl⟩ | ⟨y,u,rfl,rfl⟩
   ·rw [Cv] at h;exact wpAny_eqBool_int h
   ·rw [Cu] at h;exact SeqAt.EqAt.int_str i t y u _ _ _ _ h
  ·rcases wV hv with ⟨j,u,rfl,rfl⟩ | ⟨y,u,rfl,rfl⟩
   ·rw [Ct] at h;exact SeqAt.EqAt.str_int x t j u _ _ _ _ h
   ·rw [Cs] at h;exact wpAny_eqBool_str h
 «strs»:=fun k x t v h=>by
  rcases wV h with ⟨i,u,rfl,e⟩ | ⟨y,u,rfl,e⟩
  ·exact nomatch e
  ·injection e with e1 _
   subst e1
   cases v<;>rfl
inductive V where
 | non | bl (b:Bool) | int (i:Int) | str (x:Str) | byt (b:Array UInt8) | flt (b:UInt64) | ref (a:Addr) | ty (n:String)
 deriving DecidableEq
def RelV:V->Value->Prop
 | .non,u=>u=Value.none
 | .bl b,u=>u=Value.bool b
 | .int i,u=>∃t,u=Value.int i t
 | .str x,u=>∃t,u=Value.str x t
 | .byt b,u=>∃t,u=Value.bytes b t
 | .flt b,u=>∃t,u=Value.float b t
 | .ref a,u=>u=Value.ref a
 | .ty n,u=>u=Value.type n
abbrev Vals:List V->List Value->Prop:=Paired RelV
theorem Vals.length {xs:List V} {us:List Value} (r:Vals xs us):xs.length=us.length:=Paired.length r
theorem Vals.get:∀{xs:List V} {us:List Value} {i:Nat} {x:V},Vals xs us->xs[i]?=some x->∃u,us[i]?=some u/\RelV x u
 | _,_,_,_,.nil,e=>by simp at e
 | _,_,0,_,.cons r _,e=>by simp at e;subst e;exact ⟨_,rfl,r⟩
 | _,_,i+1,x,.cons _ t,e=>by
  obtain ⟨u,h1,h2⟩:=Vals.get (i:=i) (x:=x) t (by simpa using e)
  exact ⟨u,by simpa using h1,h2⟩
theorem Vals.set {x:V} {u:Value} (r:RelV x u):∀{xs:List V} {us:List Value} (i:Nat),Vals xs us->Vals (xs.set i x) (us.set i u)
 | _,_,_,.nil=>.nil
 | _,_,0,.cons _ t=>.cons r t
 | _,_,i+1,.cons q t=>.cons q (Vals.set r i t)
theorem Vals.append:∀{xs ys:List V} {us ws:List Value},Vals xs us->Vals ys ws->Vals (xs++ys) (us++ws)
 | _,_,_,_,.nil,s=>s
 | _,_,_,_,.cons r t,s=>.cons r (Vals.append t s)
theorem Vals.take:∀{xs:List V} {us:List Value} (n:Nat),Vals xs us->Vals (xs.take n) (us.take n)
 | _,_,0,_=>.nil
 | _,_,_+1,.nil=>.nil
 | _,_,n+1,.cons r t=>.cons r (Vals.take n t)
theorem Vals.drop:∀{xs:List V} {us:List Value} (n:Nat),Vals xs us->Vals (xs.drop n) (us.drop n)
 | _,_,0,r=>r
 | _,_,_+1,.nil=>.nil
 | _,_,n+1,.cons _ t=>Vals.drop n t
def Do:Option V->Option Value->Prop
 | some v,some u=>RelV v u
 | none,none=>True
 | _,_=>False
def KV {κ:Type}:List (κ×V)->List (κ×Value)->Prop:=Paired fun (p:κ×V) (q:κ×Value)=>p.1=q.1/\RelV p.2 q.2
def kV:kW->V
 | .inl i=>.int i
 | .inr x=>.str x
inductive HO where
 | lst (xs:List V)
 | tup (xs:List V)
 | dK (kvs:List (kW×V)) | dT (kvs:List (List kW×V))
 | set (S:Int->Bool) (n:Nat)
 | ins (C dx:Addr) (fs:List (Str×V))
 | own (x:Addr)
 | xd (fs:List (Str×V))
 | met (f x:Addr)
 | rng (lo hi:Int)
 | frz (o:Obj) (u:HO)
 | tbl (ps:Array Value)
 | ext (φ:Heap->Prop)
abbrev Hp:=Addr->Option HO
def cg (H:Hp) (a:Addr) (o:HO):Hp:=fun b=>if b=a then some o else H b
theorem kS {H:Hp} {a:Addr} {o:HO}:cg H a o a=some o:=by unfold cg;rw [if_pos rfl]
theorem gP {H:Hp} {a b:Addr} {o:HO} (h:b≠a):cg H a o b=H b:=by unfold cg;rw [if_neg h]
theorem zi {H:Hp} {a b:Addr} {o:HO} (h:H a=some o) (h':H b=none):a≠b:=by
 intro e;subst e;rw [h] at h';cases h'
section
variable (P:Program) (w:World)
def ObjOk (H:Hp) (h:Heap) (a:Addr):HO->Prop
 | .lst xs=>xs.length<=sizeLine/\∃(its:List Value) (n:Nat),Vals xs its/\h.get? a=some { cls:=.type "list",data:=.seq its.toArray n }
 | .tup xs=>xs.length<=sizeLine/\∃its:List Value,Vals xs its/\IsTup h a its.toArray
 | .dK kvs=>kvs.length<=sizeLine/\(a==sysModules)=false/\∃vs,KV kvs vs/\h.DictOf (Ik P w) a vs
 | .dT kvs=>kvs.length<=sizeLine/\(a==sysModules)=false/\∃xs:List (List kW×Addr×Value),
   Paired (fun (p:List kW×V) (q:List kW×Addr×Value)=>p.1=q.1/\H q.2.1=some (.tup (p.1.map kV))/\RelV p.2 q.2.2) kvs xs /\
   ∃o es ep,h.get? a=some o/\o.ExactDict/\o.data=.dict es ep/\es.toList=xs.map (entryOfKey (tupleKind (Ik P w)))/\(xs.map (·.1)).Nodup
 | .set S n=>h.SetOf (intKind P w) a S n
 | .ins C dx fs=>H dx=some (.own a)/\fs.length<=1000/\dx≠a/\h.get? a=some (PySem.W.instObj C dx) /\
   ∃mA,h.Ns1 dx mA/\(∀f,Do (fs.lookup f) (mA f))/\PySem.Within mA (fs.map (·.1))
 | .own _=>∃o,h.get? a=some o
 | .xd fs=>∃mA,h.Ns1 a mA/\∀f,Do (fs.lookup f) (mA f)
 | .rng lo hi=>∃t u v,h.get? a=some { cls:=.type "range",data:=.fields #[.int lo t,.int hi u,.int 1 v] }
 | .frz o u=>h.get? a=some o/\ObjOk H h a u
 | .tbl ps=>h.get? a=some { cls:=.none,data:=.fields ps }
 | .met f x=>h.get? a=some (PySem.W.methodObj (.ref f) (.ref x))
 | .ext φ=>φ h/\(∃o,h.get? a=some o)/\∀h1 h2:Heap,φ h1->(∀o,h1.get? a=some o->h2.get? a=some o)->φ h2
def HOk (H:Hp) (h:Heap):Prop:=∀a o,H a=some o->ObjOk P w H h a o
end
section
variable {P:Program} {w:World} {H H':Hp} {h h':Heap} {a:Addr} {o:HO}
theorem ObjOk.lt (x:ObjOk P w H h a o):a<h.objs.size:=by
 cases o with
 | lst xs=>obtain ⟨_,_,_,_,e⟩:=x;exact Heap.lt_size e
 | tup xs=>obtain ⟨_,_,_,p⟩:=x;exact p.lt
 | dK kvs=>obtain ⟨_,_,_,_,o,_,_,e,_⟩:=x;exact Heap.lt_size e
 | dT kvs=>obtain ⟨_,_,_,_,o,_,_,e,_⟩:=x;exact Heap.lt_size e
 | set S n=>obtain ⟨o,_,_,_,e,_⟩:=x;exact Heap.lt_size e
 | ins C dx fs=>obtain ⟨_,_,_,e,_⟩:=x;exact Heap.lt_size e
 | own y=>obtain ⟨_,e⟩:=x;exact Heap.lt_size e
 | xd fs=>obtain ⟨_,⟨_,_,_,e,_⟩,_⟩:=x;exact Heap.lt_size e
 | rng lo hi=>obtain ⟨_,_,_,e⟩:=x;exact Heap.lt_size e
 | frz ob u=>obtain ⟨e,_⟩:=x;exact Heap.lt_size e
 | tbl ps=>exact Heap.lt_size (show h.get? a=some _ from x)
 | met f y=>exact Heap.lt_size (show h.get? a=some _ from x)
 | ext φ=>obtain ⟨_,⟨_,e⟩,_⟩:=x;exact Heap.lt_size e
theorem Paired.mapP {α β:Type} {F G:α->β->Prop}:∀{l₁:List α} {l₂:List β},Paired F l₁ l₂->(∀a b,F a b->G a b)->Paired G l₁ l₂
 | _,_,.nil,_=>.nil
 | _,_,.cons r t,f=>.cons (f _ _ r) (Paired.mapP t f)
theorem ObjOk.stay (x:ObjOk P w H h a o) (k:∀b u,(b=a\/H b=some (.own a))->h.get? b=some u->h'.get? b=some u)
  (ho:∀b,H b=some (.own a)->H' b=some (.own a)) (ht:∀b xs,H b=some (.tup xs)->H' b=some (.tup xs)):ObjOk P w H' h' a o:=by
 induction o with
 | lst xs=>obtain ⟨z,its,n,r,e⟩:=x;exact ⟨z,its,n,r,k _ _ (.inl rfl) e⟩
 | tup xs=>obtain ⟨z,its,r,ob,e,c⟩:=x;exact ⟨z,its,r,ob,k _ _ (.inl rfl) e,c⟩
 | dK kvs=>obtain ⟨z,y,vs,r,ob,es,ep,e,c⟩:=x;exact ⟨z,y,vs,r,ob,es,ep,k _ _ (.inl rfl) e,c⟩
 | dT kvs=>
  obtain ⟨z,y,xs,r,ob,es,ep,e,c⟩:=x;exact ⟨z,y,xs,Paired.mapP r fun p q z=>⟨z.1,ht _ _ z.2.1,z.2.2⟩,ob,es,ep,k _ _ (.inl rfl) e,c⟩
 | set S n=>obtain ⟨ob,es,ep,t,e,c⟩:=x;exact ⟨ob,es,ep,t,k _ _ (.inl rfl) e,c⟩
 | ins C dx fs=>
  obtain ⟨d,z,ne,e,mA,⟨od,es,ep,e2,c⟩,r⟩:=x;exact ⟨ho _ d,z,ne,k _ _ (.inl rfl) e,mA,⟨od,es,ep,k _ _ (.inr d) e2,c⟩,r⟩
 | own y=>obtain ⟨ob,e⟩:=x;exact ⟨ob,k _ _ (.inl rfl) e⟩
 | xd fs=>obtain ⟨mA,⟨od,es,ep,e,c⟩,r⟩:=x;exact ⟨mA,⟨od,es,ep,k _ _ (.inl rfl) e,c⟩,r⟩
 | rng lo hi=>obtain ⟨t,u,v,e⟩:=x;exact ⟨t,u,v,k _ _ (.inl rfl) e⟩
 | frz ob u ih=>obtain ⟨e,q⟩:=x;exact ⟨k _ _ (.inl rfl) e,ih q⟩
 | tbl ps=>
  have e:h.get? a=some { cls:=.none,data:=.fields ps }:=x
  show h'.get? a=some { cls:=.none,data:=.fields ps }
  exact k a _ (.inl rfl) e
 | met f y=>
  have e:h.get? a=some (PySem.W.methodObj (.ref f) (.ref y)):=x
  show h'.get? a=some (PySem.W.methodObj (.ref f) (.ref y))
  exact k a _ (.inl rfl) e
 | ext φ=>obtain ⟨p,⟨o,e⟩,st⟩:=x;exact ⟨st _ _ p fun o q=>k _ _ (.inl rfl) q,⟨o,k _ _ (.inl rfl) e⟩,st⟩
theorem HOk.lt (x:HOk P w H h) (e:H a=some o):a<h.objs.size:=(x a o e).lt
theorem HOk.fresh (x:HOk P w H h) (e:h.objs.size<=a):H a=none:=by
 cases q:H a with
 | none=>rfl
 | some u=>exact absurd (Nat.lt_of_lt_of_le (x.lt q) e) (Nat.lt_irrefl _)
theorem HOk.kept (x:HOk P w H h) (k:∀b u,h.get? b=some u->h'.get? b=some u):HOk P w H h':=fun a o e=>
 (x a o e).stay (fun b u _ q=>k b u q) (fun _ q=>q) fun _ _ q=>q
theorem HOk.laid (x:HOk P w H h) (k:∀b u,h.get? b=some u->h'.get? b=some u) (hp:h.objs.size<=a) (new:ObjOk P w (cg H a o) h' a o):HOk P w (cg H a o) h':=fun b u e=>by
 have hn:=x.fresh hp
 by_cases hb:b=a
 ·subst hb;rw [kS] at e;cases e;exact new
 ·rw [gP hb] at e
  exact (x b u e).stay (fun c v _ q=>k c v q) (fun c q=>by rw [gP (zi q hn)];exact q) fun c xs q=>by rw [gP (zi q hn)];exact q
end
def Rd (H:Hp) (a:Addr) (u:HO):Prop:=H a=some u\/∃o,H a=some (.frz o u)
theorem Rd.of {H:Hp} {a:Addr} {u:HO} (h:H a=some u):Rd H a u:=.inl h
theorem Rd.ok {P:Program} {w:World} {H:Hp} {h:Heap} {a:Addr} {u:HO} (r:Rd H a u) (x:HOk P w H h):ObjOk P w H h a u:=by
 rcases r with r | ⟨o,r⟩
 ·exact x a u r
 ·obtain ⟨_,q⟩:=x a _ r
  exact q
def HX:Option HO->Prop
 | some (.lst _)=>True
 | some (.dK _)=>True
 | some (.dT _)=>True
 | some (.set _ _)=>True
 | some (.ins _ _ _)=>True
 | some (.ext _)=>True
 | _=>False
section
variable {P:Program} {w:World} {H:Hp} {h h':Heap} {x e:Addr} {o':HO}
theorem HOk.write (ok:HOk P w H h) (mu:HX (H x)) (he:e=x\/H e=some (.own x)) (k:∀b u,b≠e->h.get? b=some u->h'.get? b=some u) (heo:∃u,h'.get? e=some u)
  (new:ObjOk P w (cg H x o') h' x o'):HOk P w (cg H x o') h':=fun b u q=>by
 have nown:∀c y,H c=some (.own y)->c≠x:=fun c y r z=>by subst z;rw [r] at mu;exact mu
 have ntup:∀c xs,H c=some (.tup xs)->c≠x:=fun c xs r z=>by subst z;rw [r] at mu;exact mu
 by_cases hb:b=x
 ·subst hb;rw [kS] at q;cases q;exact new
 ·rw [gP hb] at q
  by_cases hbe:b=e
  ·have q':H b=some (.own x):=by
    rcases he with z | z
    ·exact absurd (hbe.trans z) hb
    ·rw [hbe];exact z
   rw [q] at q';cases q'
   obtain ⟨v,hv⟩:=heo;exact ⟨v,by rw [hbe];exact hv⟩
  ·refine (ok b u q).stay (fun c v hc r=>k c v ?_ r) (fun c r=>by rw [gP (nown c b r)];exact r) fun c xs r=>by rw [gP (ntup c xs r)];exact r
   rcases hc with rfl | hc
   ·exact hbe
   ·rintro rfl
    rcases he with z | z
    ·exact nown c b hc z
    ·rw [hc] at z;cases z;exact hb rfl
end
structure Un (fs ex:List Addr) (H H':Hp) (h h':Heap):Prop where
 keep:∀b o,h.get? b=some o->H b=none->b∉fs->b∉ex->h'.get? b=some o
 slot:∀b o,h.get? b=some o->H b=none->b∈fs->b∉ex->∃sl,h'.get? b=some { o with slots:=sl }
 free:∀b o,h.get? b=some o->H b=none->b∉ex->H' b=none
 there:∀b o,h.get? b=some o->b∉ex->∃o',h'.get? b=some o'
 tups:∀b xs,H b=some (.tup xs)->H' b=some (.tup xs)
 frzs:∀b o u,H b=some (.frz o u)->H' b=some (.frz o u)
 tbls:∀b ps,H b=some (.tbl ps)->∃more,H' b=some (.tbl (ps++more))
section
variable {fs fs' ex ex':List Addr} {H H1 H2:Hp} {h h1 h2 h':Heap} {a x e:Addr} {o:HO}
theorem Un.any (u:Un fs ex H H1 h h1) {b:Addr} {ob:Obj} (q:h.get? b=some ob) (n:H b=none) (hx:b∉ex):∃sl,h1.get? b=some { ob with slots:=sl }:=by
 by_cases hb:b∈fs
 ·exact u.slot b ob q n hb hx
 ·exact ⟨ob.slots,u.keep b ob q n hb hx⟩
theorem Un.kept (k:∀b u,h.get? b=some u->h'.get? b=some u):Un fs ex H H h h':=
 ⟨fun b ob q _ _ _=>k b ob q,fun b ob q _ _ _=>⟨ob.slots,k b ob q⟩,fun _ _ _ n _=>n,fun b ob q _=>⟨ob,k b ob q⟩,fun _ _ q=>q,fun _ _ _ q=>q,fun _ ps q=>⟨#[],by rw [q];simp⟩⟩
theorem Un.refl:Un fs ex H H h h:=Un.kept fun _ _ q=>q
theorem Un.laid (k:∀b u,h.get? b=some u->h'.get? b=some u) (hp:h.objs.size<=a) (hn:H a=none):Un fs ex H (cg H a o) h h' where
 keep:=fun b u q _ _ _=>k b u q
 slot:=fun b u q _ _ _=>⟨u.slots,k b u q⟩
 free:=fun b u q n _=>by rw [gP (Nat.ne_of_lt (Nat.lt_of_lt_of_le (Heap.lt_size q) hp))];exact n
 there:=fun b u q _=>⟨u,k b u q⟩
 tups:=fun b xs q=>by rw [gP (zi q hn)];exact q
 frzs:=fun b u xs q=>by rw [gP (zi q hn)];exact q
 tbls:=fun b ps q=>⟨#[],by rw [gP (zi q hn),q];simp⟩
theorem Un.write (mu:HX (H x)) (he:e=x\/H e=some (.own x)) (k:∀b u,b≠e->h.get? b=some u->h'.get? b=some u) (heo:∃u,h'.get? e=some u):Un fs ex H (cg H x o) h h':=by
 have hx:∀b,H b=none->b≠x:=fun b n z=>by subst z;rw [n] at mu;exact mu
 have hb:∀b,H b=none->b≠e:=fun b n z=>by
  subst z;rcases he with r | r
  ·exact hx b n r
  ·rw [n] at r;cases r
 have hm:∀b u,H b=some u->¬HX (some u)->b≠x:=fun b u q nm z=>by subst z;rw [q] at mu;exact nm mu
 refine ⟨fun b u q n _ _=>k b u (hb b n) q,fun b u q n _ _=>⟨u.slots,k b u (hb b n) q⟩,fun b u q n _=>by rw [gP (hx b n)];exact n,fun b u q _=>?_,
  fun b xs q=>by rw [gP (hm b _ q fun z=>z)];exact q,fun b u xs q=>by rw [gP (hm b _ q fun z=>z)];exact q,fun b ps q=>⟨#[],by rw [gP (hm b _ q fun z=>z),q];simp⟩⟩
 by_cases hbe:b=e
 ·subst hbe;exact heo
 ·exact ⟨u,k b u hbe q⟩
end
def Hw (h:Heap) (H:Hp):List Addr:=(List.range h.objs.size).filter fun a=>(H a).isSome
def kD (h:Heap) (H:Hp):Heap:=PySem.W.hideAll h (Hw h H)
theorem rL (h:Heap) (H:Hp):(kD h H).objs.size=h.objs.size:=PySem.W.hideAll_size _ _
theorem vq {h:Heap} {H:Hp} {b:Addr} {o:Obj} (e:h.get? b=some o) (n:H b=none):(kD h H).get? b=some o:=
 PySem.W.hideAll_get _ e fun hm=>by
  have q:(H b).isSome=true:=(List.mem_filter.mp hm).2
  rw [n] at q;simp at q
theorem ya {h:Heap} {H:Hp} {b:Addr} {o:Obj} (e:(kD h H).get? b=some o):h.get? b=some o/\H b=none:=by
 have e':h.get? b=some o:=PySem.W.of_hideAll (Hw h H) e
 refine ⟨e',?_⟩
 cases q:H b with
 | none=>rfl
 | some x=>
  have hm:b∈Hw h H:=List.mem_filter.mpr ⟨List.mem_range.mpr (Heap.lt_size e'),by simp [q]⟩
  have z:(kD h H).get? b=none:=PySem.W.hideAll_none (Hw h H) hm
  rw [z] at e;cases e
def yV (g h:Heap) (L:Addr):List (Addr×Obj):=(List.range h.objs.size).filterMap fun a=>if a=L\/(g.get? a).isSome=true then none else (h.get? a).map fun o=>(a,o)
def rest (g h:Heap) (L d:Addr):List (Addr×Obj):=(yV g h L).filter fun p=>decide (p.1≠d)
structure Mod (K:Fg) (mg:Str->Option Value) (base:Heap):Prop where
 kin:K.In base
 glob:base.Ns mainGlobals mg
 blt:∃mb,base.Ns builtinsNs mb/\∀x:Str,x ≠ "__name__"->mb x=bootBuiltins x
 nolimit:base.NoLimit
structure Cx where
 prog:Program
 w:World
 K:Fg
 mg:Str->Option Value
 base:Heap
 A:Around
 N:List Str
 s₀:Shared
 H₀:Hp
 env:Env
 outer:List Env
 stack:List Env
 ex:List Addr
 fn:Str->Bool
 calm:Bool
 pn:List (Addr×Obj)
 xe:Value->Shared->Prop
def gw (l:List Env):List Addr:=l.filterMap (·.frame)
abbrev Cx.fs (X:Cx):List Addr:=gw X.outer
def Dk (sc:Scope) (x:Str):Prop:=sc.names.lookup x=some .local\/sc.names.lookup x=some .cell\/sc.names.lookup x=some .free
def Loc (sc:Scope) (x:Str):Prop:=sc.names.lookup x=some .local\/sc.names.lookup x=some .cell
def Look (env:Env) (h:Heap) (m:Str->Option Value) (x:Str) (u:Value):Prop:=
 (env.kindOf x=some .local/\m x=some u)\/((env.kindOf x=some .cell\/env.kindOf x=some .free)/\∃c,env.cells.lookup x=some c/\h.IsCell c (some u))
structure Cx.Ok (X:Cx):Prop where
 mod:Mod X.K X.mg X.base
 kind:X.env.scope.kind=.function
 glob:X.env.globals=mainGlobals
 blt:X.env.builtins=builtinsNs
 above:X.s₀.heap.objs.size<=X.env.locals
 inj:∀x y c,X.env.cells.lookup x=some c->X.env.cells.lookup y=some c->x=y
 has:∀x,(X.env.kindOf x=some .cell\/X.env.kindOf x=some .free)->∃c,X.env.cells.lookup x=some c
 cab:∀x c,X.fn x=true->X.env.cells.lookup x=some c->X.s₀.heap.objs.size<=c
 hd:X.calm=true->X.A.handled=none
 frames:X.A.frames=some X.stack
 stk:X.stack=X.outer\/(X.stack=X.env::X.outer/\X.env.frame=some X.env.locals)
 exf:∀b∈X.ex,b≠X.env.locals/\∀x c,X.env.cells.lookup x=some c->c≠b
 bs:∀b o,X.base.get? b=some o->X.s₀.heap.get? b=some o/\X.H₀ b=none
 bsz:X.base.objs.size<=X.s₀.heap.objs.size
 noex:∀b o,X.base.get? b=some o->b∉X.ex
 exfs:∀b∈X.ex,b∉X.fs
 funs:X.s₀.heap.FunFrames X.base X.outer
 frf:∀b∈X.fs,X.H₀ b=none
structure Inv (X:Cx) (pins:List (Addr×Obj)) (σ:List (Option V)) (H:Hp) (s:Shared):Prop where
 ok:X.Ok
 os:s.os=X.s₀.os
 bare:AllBare s.gens
 base:Un X.fs X.ex X.H₀ H X.s₀.heap s.heap
 loc:∃m,s.heap.Ns X.env.locals m/\∀(i:Nat) (x:Str) (v:V),X.N[i]?=some x->σ[i]?=some (some v)->Dk X.env.scope x->∃u,RelV v u/\Look X.env s.heap m x u
 cell:∀x c,X.env.cells.lookup x=some c->∃v,s.heap.IsCell c v
 free:H X.env.locals=none
 freeC:∀x c,X.env.cells.lookup x=some c->H c=none
 pin:∀p∈X.pn++pins,s.heap.get? p.1=some p.2/\H p.1=none/\p.1≠X.env.locals/\p.1∉X.fs/\∀v,p.2.data≠.cell v
 hok:HOk X.prog X.w H s.heap
 len:σ.length=X.N.length
section
variable {X:Cx} {pins:List (Addr×Obj)} {σ:List (Option V)} {H H':Hp} {s:Shared} {h':Heap}
theorem Cx.Ok.nofr (ok:X.Ok) {b:Addr} {o:Obj} (e:X.base.get? b=some o):b∉X.fs:=fun hb=>by
 have:=(ok.funs.mem hb).1
 rw [e] at this;cases this
theorem Inv.bs (I:Inv X pins σ H s):∀b o,X.base.get? b=some o->s.heap.get? b=some o/\H b=none:=fun b o e=>
 ⟨I.base.keep b o (I.ok.bs b o e).1 (I.ok.bs b o e).2 (I.ok.nofr e) (I.ok.noex b o e),I.base.free b o (I.ok.bs b o e).1 (I.ok.bs b o e).2 (I.ok.noex b o e)⟩
theorem Inv.bk (I:Inv X pins σ H s):∀b o,X.base.get? b=some o->s.heap.get? b=some o:=fun b o e=>(I.bs b o e).1
theorem Inv.mod (I:Inv X pins σ H s):Mod X.K X.mg X.base:=I.ok.mod
theorem Inv.kIn (I:Inv X pins σ H s):X.K.In s.heap:=I.ok.mod.kin.keeps I.bk
theorem Inv.lt (I:Inv X pins σ H s):X.env.locals<s.heap.objs.size:=let ⟨_,hn,_⟩:=I.loc;hn.lt
theorem Inv.sz (I:Inv X pins σ H s):X.s₀.heap.objs.size<=s.heap.objs.size:=Nat.le_trans I.ok.above (Nat.le_of_lt I.lt)
theorem Inv.nofs (I:Inv X pins σ H s) {a:Addr} (h:s.heap.objs.size<=a):a∉X.fs:=fun hb=>by
 obtain ⟨_,o,ho,_⟩:=I.ok.funs.mem hb;exact absurd (Nat.lt_of_lt_of_le (Heap.lt_size ho) (Nat.le_trans I.sz h)) (Nat.lt_irrefl _)
theorem Inv.cne (I:Inv X pins σ H s):∀x c,X.env.cells.lookup x=some c->c≠X.env.locals:=fun x c e z=>by
 obtain ⟨v,o,ho,hd⟩:=I.cell x c e;obtain ⟨m,⟨o',es,ep,ho',hd',_⟩,_⟩:=I.loc;rw [z,ho'] at ho;cases ho;rw [hd'] at hd;cases hd
theorem Inv.funs (I:Inv X pins σ H s):s.heap.FunFrames X.base X.outer:=by
 have all:∀(l:List Env),(∀b∈gw l,b∈X.fs)->X.s₀.heap.FunFrames X.base l->s.heap.FunFrames X.base l:=by
  intro l;induction l with
  | nil=>intro _ _;trivial
  | cons env r ih=>
   intro hs hl;obtain ⟨hk,⟨L,o,hf,hn,ho,hd⟩,hr⟩:=hl;have hL:L∈X.fs:=hs L (by unfold gw;rw [filterMap_cons,hf];exact mem_cons_self)
   obtain ⟨sl,e⟩:=I.base.slot L o ho (I.ok.frf L hL) hL fun z=>I.ok.exfs L z hL
   exact ⟨hk,⟨L,_,hf,hn,e,hd⟩,ih (fun b hb=>hs b (by unfold gw;rw [filterMap_cons,hf];exact mem_cons_of_mem _ hb)) hr⟩
 exact all X.outer (fun _ hb=>hb) I.ok.funs
theorem Inv.stack (I:Inv X pins σ H s):s.heap.FunFrames X.base X.stack:=by
 rcases I.ok.stk with e | ⟨e,hf⟩
 ·rw [e];exact I.funs
 ·rw [e]
  obtain ⟨m,hn,_⟩:=I.loc;refine .cons (by rw [I.ok.kind];decide) hf hn ?_ I.funs
  exact Heap.get?_none_of_le (Nat.le_trans I.ok.bsz I.ok.above)
theorem Inv.stkSub (I:Inv X pins σ H s):∀b∈gw X.stack,b∈X.env.locals::X.fs:=fun b hb=>by
 rcases I.ok.stk with e | ⟨e,hf⟩
 ·rw [e] at hb;exact mem_cons_of_mem _ hb
 ·rw [e] at hb
  unfold gw at hb;rw [filterMap_cons,hf] at hb;exact hb
theorem Inv.stkFree (I:Inv X pins σ H s):∀b∈gw X.stack,H b=none:=fun b hb=>by
 rcases List.mem_cons.mp (I.stkSub b hb) with e | hb
 ·rw [e];exact I.free
 ·obtain ⟨_,o,ho,_⟩:=I.ok.funs.mem hb
  exact I.base.free b o ho (I.ok.frf b hb) fun z=>I.ok.exfs b z hb
theorem Inv.step {g':Array GenState} {t':Nat} {d':Drawn} {ch:List Addr} (I:Inv X pins σ H s)
  (hch:∀b∈ch,(b∈X.ex\/X.s₀.heap.objs.size<=b)/\b≠X.env.locals/\(∀x c,X.env.cells.lookup x=some c->c≠b)/\∀p∈X.pn++pins,p.1≠b)
  (keep:∀b o,b≠X.env.locals->b∉X.fs->b∉ch->s.heap.get? b=some o->H b=none->h'.get? b=some o)
  (slot:∀b o,b≠X.env.locals->b∈X.fs->b∉ch->s.heap.get? b=some o->H b=none->∃sl,h'.get? b=some { o with slots:=sl }) (free:∀b o,b∉ch->s.heap.get? b=some o->H b=none->H' b=none)
  (there:∀b o,b∉ch->s.heap.get? b=some o->∃o',h'.get? b=some o')
  (tups:∀b xs,H b=some (.tup xs)->H' b=some (.tup xs)) (frzs:∀b o u,H b=some (.frz o u)->H' b=some (.frz o u)) (tbls:∀b ps,H b=some (.tbl ps)->∃more,H' b=some (.tbl (ps++more)))
  (ns:∀m,s.heap.Ns X.env.locals m->h'.Ns X.env.locals m) (hok:HOk X.prog X.w H' h') (hg:AllBare g') :
  Inv X pins σ H' { s with heap:=h',gens:=g',drawn:=d',toks:=t' }:=by
 have neL:∀b o,X.s₀.heap.get? b=some o->b≠X.env.locals:=fun b o e=>Nat.ne_of_lt (Nat.lt_of_lt_of_le (Heap.lt_size e) I.ok.above)
 have neC:∀b o,X.s₀.heap.get? b=some o->b∉X.ex->b∉ch:=fun b o e hx hb=>by
  rcases (hch b hb).1 with z | z
  ·exact hx z
  ·exact absurd (Nat.lt_of_lt_of_le (Heap.lt_size e) z) (Nat.lt_irrefl _)
 have cellK:∀x c,X.env.cells.lookup x=some c->∀v,s.heap.IsCell c v->h'.IsCell c v:=fun x c e v ⟨o,ho,hd⟩=>by
  have nch:c∉ch:=fun z=>(hch c z).2.2.1 x c e rfl
  by_cases hc:c∈X.fs
  ·obtain ⟨sl,q⟩:=slot c o (I.cne x c e) hc nch ho (I.freeC x c e)
   exact ⟨_,q,hd⟩
  ·exact ⟨o,keep c o (I.cne x c e) hc nch ho (I.freeC x c e),hd⟩
 refine ⟨I.ok,I.os,hg,⟨fun b o e n hb hx=>?_,fun b o e n hb hx=>?_,fun b o e n hx=>?_,fun b o e hx=>?_,fun b xs e=>tups b xs (I.base.tups b xs e),fun b o xs e=>frzs b o xs (I.base.frzs b o xs e),fun b ps e=>?_⟩,?_,fun x c e=>?_,?_,fun x c e=>?_,fun p hp=>?_,hok,I.len⟩
 ·exact keep b o (neL b o e) hb (neC b o e hx) (I.base.keep b o e n hb hx) (I.base.free b o e n hx)
 ·obtain ⟨sl,e1⟩:=I.base.slot b o e n hb hx
  obtain ⟨sl',e2⟩:=slot b _ (neL b o e) hb (neC b o e hx) e1 (I.base.free b o e n hx);exact ⟨sl',e2⟩
 ·obtain ⟨o',e1⟩:=I.base.there b o e hx
  exact free b o' (neC b o e hx) e1 (I.base.free b o e n hx)
 ·obtain ⟨o',e1⟩:=I.base.there b o e hx
  exact there b o' (neC b o e hx) e1
 ·obtain ⟨m1,e1⟩:=I.base.tbls b ps e
  obtain ⟨m2,e2⟩:=tbls b _ e1;exact ⟨m1++m2,by rw [e2,Array.append_assoc]⟩
 ·obtain ⟨m,hn,hl⟩:=I.loc
  refine ⟨m,ns m hn,fun i x v e1 e2 e3=>?_⟩
  obtain ⟨u,r,l⟩:=hl i x v e1 e2 e3;refine ⟨u,r,?_⟩
  rcases l with l | ⟨k,c,e,z⟩
  ·exact .inl l
  ·exact .inr ⟨k,c,e,cellK x c e _ z⟩
 ·obtain ⟨v,z⟩:=I.cell x c e
  exact ⟨v,cellK x c e v z⟩
 ·obtain ⟨m,⟨o,_,_,ho,_⟩,_⟩:=I.loc
  exact free _ o (fun z=>(hch _ z).2.1 rfl) ho I.free
 ·obtain ⟨v,o,ho,hd⟩:=I.cell x c e
  exact free c o (fun z=>(hch c z).2.2.1 x c e rfl) ho (I.freeC x c e)
 ·obtain ⟨e,n,ne,nf,d⟩:=I.pin p hp
  have nch:p.1∉ch:=fun z=>(hch p.1 z).2.2.2 p hp rfl
  exact ⟨keep p.1 p.2 ne nf nch e n,free p.1 p.2 nch e n,ne,nf,d⟩
theorem Inv.un {t':Nat} (I:Inv X pins σ H s) (u:Un X.fs [] H H' s.heap h') (hok:HOk X.prog X.w H' h'):Inv X pins σ H' { s with heap:=h',toks:=t' }:=by
 obtain ⟨m,⟨o,es,ep,ho,r⟩,_⟩:=id I.loc;obtain ⟨sl,hL⟩:=u.any ho I.free (by simp)
 exact I.step (g':=s.gens) (d':=s.drawn) (ch:=[]) (fun _ z=>nomatch z) (fun b o _ hb _ e n=>u.keep b o e n hb (by simp)) (fun b o _ hb _ e n=>u.slot b o e n hb (by simp)) (fun b o _ e n=>u.free b o e n (by simp)) (fun b o _ e=>u.there b o e (by simp)) u.tups u.frzs u.tbls (fun m' hm=>by
  obtain ⟨o',es',ep',ho',r'⟩:=hm;rw [ho] at ho';cases ho'
  exact ⟨_,es',ep',hL,r'⟩) hok I.bare
theorem Inv.call {g':Array GenState} {t':Nat} {d':Drawn} {ch:List Addr} (I:Inv X pins σ H s) (u:Un (gw X.stack) ch H H' s.heap h') (hok:HOk X.prog X.w H' h') (hg:AllBare g')
  (hch:∀b∈ch,(b∈X.ex\/X.s₀.heap.objs.size<=b)/\b≠X.env.locals/\(∀x c,X.env.cells.lookup x=some c->c≠b)/\∀p∈X.pn++pins,p.1≠b) :
  Inv X pins σ H' { s with heap:=h',gens:=g',drawn:=d',toks:=t' }:=by
 obtain ⟨m,⟨o,es,ep,ho,r⟩,_⟩:=id I.loc;obtain ⟨sl,hL⟩:=u.any ho I.free fun z=>(hch _ z).2.1 rfl
 exact I.step (ch:=ch) hch (fun b o hL hb hc e n=>u.keep b o e n (fun z=>(List.mem_cons.mp (I.stkSub b z)).elim hL hb) hc) (fun b o _ _ hc e n=>u.any e n hc) (fun b o hc e n=>u.free b o e n hc) (fun b o hc e=>u.there b o e hc) u.tups u.frzs u.tbls (fun m' hm=>by
  obtain ⟨o',es',ep',ho',r'⟩:=hm;rw [ho] at ho';cases ho'
  exact ⟨_,es',ep',hL,r'⟩) hok hg
theorem Inv.turned {t':Nat} {it:Addr} (I:Inv X pins σ H s) (k:∀b o,b≠it->s.heap.get? b=some o->h'.get? b=some o) (hn:H it=none) (hL:it≠X.env.locals)
  (h1:it∈X.ex\/X.s₀.heap.objs.size<=it) (h2:∀x c,X.env.cells.lookup x=some c->c≠it) (h3:∀p∈X.pn++pins,p.1≠it):Inv X pins σ H { s with heap:=h',toks:=t' }:=by
 have nit:∀b u,H b=some u->b≠it:=fun b u e z=>by rw [z,hn] at e;cases e
 refine I.step (g':=s.gens) (d':=s.drawn) (ch:=[it]) (fun b hb=>?_) (fun b o _ _ hc e _=>k b o (fun z=>hc (by simp [z])) e) (fun b o _ _ hc e _=>⟨o.slots,k b o (fun z=>hc (by simp [z])) e⟩) (fun _ _ _ _ n=>n)
  (fun b o hc e=>⟨o,k b o (fun z=>hc (by simp [z])) e⟩) (fun _ _ e=>e) (fun _ _ _ e=>e) (fun b ps e=>⟨#[],by rw [e];simp⟩) (fun m hm=>?_) (fun b u e=>?_) I.bare
 ·have e:b=it:=by simpa using hb
  subst e;exact ⟨h1,hL,h2,h3⟩
 ·obtain ⟨o,es,ep,ho,r⟩:=hm
  exact ⟨o,es,ep,k _ o (Ne.symm hL) ho,r⟩
 ·refine (I.hok b u e).stay (fun c v hc q=>k c v ?_ q) (fun _ q=>q) fun _ _ q=>q
  rcases hc with z | z
  ·rw [z];exact nit b u e
  ·exact nit c _ z
theorem Inv.tok (I:Inv X pins σ H s) (t:Nat):Inv X pins σ H { s with toks:=t }:=I.un (h':=s.heap) (t':=t) Un.refl I.hok
theorem Inv.kept {t':Nat} (I:Inv X pins σ H s) (k:∀b u,s.heap.get? b=some u->h'.get? b=some u):Inv X pins σ H { s with heap:=h',toks:=t' }:=I.un (Un.kept k) (I.hok.kept k)
theorem Inv.laid {a:Addr} {o:HO} {t':Nat} (I:Inv X pins σ H s) (k:∀b u,s.heap.get? b=some u->h'.get? b=some u) (hp:s.heap.objs.size<=a) (new:ObjOk X.prog X.w (cg H a o) h' a o) :
  Inv X pins σ (cg H a o) { s with heap:=h',toks:=t' }:=I.un (Un.laid k hp (I.hok.fresh hp)) (I.hok.laid k hp new)
theorem Inv.write {x e:Addr} {o:HO} {t':Nat} (I:Inv X pins σ H s) (mu:HX (H x)) (he:e=x\/H e=some (.own x)) (k:∀b u,b≠e->s.heap.get? b=some u->h'.get? b=some u) (heo:∃u,h'.get? e=some u)
  (new:ObjOk X.prog X.w (cg H x o) h' x o):Inv X pins σ (cg H x o) { s with heap:=h',toks:=t' }:=I.un (Un.write mu he k heo) (I.hok.write mu he k heo new)
theorem Inv.weak {σ':List (Option V)} (I:Inv X pins σ H s) (hl:σ'.length=σ.length) (w:∀(i:Nat) v,σ'[i]?=some (some v)->σ[i]?=some (some v)):Inv X pins σ' H s:=
 ⟨I.ok,I.os,I.bare,I.base,let ⟨m,hn,hl'⟩:=I.loc;⟨m,hn,fun i x v e1 e2 e3=>hl' i x v e1 (w i v e2) e3⟩,I.cell,I.free,I.freeC,I.pin,I.hok,hl.trans I.len⟩
theorem Inv.pins_of {pins':List (Addr×Obj)} (I:Inv X pins σ H s) (h:∀p∈pins',s.heap.get? p.1=some p.2/\H p.1=none/\p.1≠X.env.locals/\p.1∉X.fs/\∀v,p.2.data≠.cell v):Inv X pins' σ H s:=
 ⟨I.ok,I.os,I.bare,I.base,I.loc,I.cell,I.free,I.freeC,fun p hp=>(List.mem_append.mp hp).elim (fun z=>I.pin p (mem_append_left _ z)) (h p),I.hok,I.len⟩
theorem IJ {N:List Str} (hN:N.Nodup) {i j:Nat} {x:Str} (a:N[i]?=some x) (b:N[j]?=some x):i=j:=by
 obtain ⟨h1,e1⟩:=List.getElem?_eq_some_iff.mp a
 obtain ⟨h2,e2⟩:=List.getElem?_eq_some_iff.mp b
 exact (List.getElem_inj hN).mp (e1.trans e2.symm)
theorem jE {M:Model} {A:Around} {E:Value->Shared->Prop} {i:Nat} {x:Str} {v:V} {u:Value} {Q:Unit->Shared->Prop} (I:Inv X pins σ H s) (hN:X.N.Nodup) (hi:X.N[i]?=some x) (hx:Loc X.env.scope x) (r:RelV v u)
  (h:∀s',Inv X pins (σ.set i (some v)) H s'->(∃a,Heap.SameBut a s.heap s'.heap/\(a=X.env.locals\/X.env.cells.lookup x=some a))->Q () s') (hf:X.fn x=true\/X.env.scope.names.lookup x=some .local:=by first | exact .inl rfl | exact .inr rfl | assumption):wpAny M A (storeName X.env x u) Q E s:=by
 obtain ⟨m,hn,hl⟩:=id I.loc;have hcls:(X.env.scope.kind==.class||(X.env.scope.kind==.module&&X.env.locals != X.env.globals))=false:=by rw [I.ok.kind];rfl
 have hiσ:i<σ.length:=by rw [I.len];exact (List.getElem?_eq_some_iff.mp hi).1
 have cne:=I.cne
 have tracked:∀{a:Addr} {h':Heap},(∃o,s.heap.get? a=some o/\H a=none)->Heap.SameBut a s.heap h'->HOk X.prog X.w H h':=fun {a h'} ha hs b ob e=>by
  obtain ⟨_,_,hfree⟩:=ha;refine (I.hok b ob e).stay (fun c w' hc q=>(hs.2 c ?_).trans q) (fun _ q=>q) fun _ _ q=>q
  rintro rfl
  rcases hc with rfl | hc
  ·rw [hfree] at e;cases e
  ·rw [hfree] at hc;cases hc
 rcases hx with hk | hk
 ·refine wpAny_storeName_local hk hn (fun h' hn' hs=>?_) hcls
  obtain ⟨oL,_,_,hoL,_⟩:=id hn;refine h _ ⟨I.ok,I.os,I.bare,⟨fun b o e n hb hx=>?_,fun b o e n hb hx=>?_,I.base.free,fun b o e hx=>?_,I.base.tups,I.base.frzs,I.base.tbls⟩,⟨_,hn',fun j y v' e1 e2 e3=>?_⟩,fun y c e=>?_,I.free,I.freeC,fun p hp=>?_,tracked ⟨oL,hoL,I.free⟩ hs,by simpa using I.len⟩ ⟨_,hs,.inl rfl⟩
  ·exact (hs.2 b (Nat.ne_of_lt (Nat.lt_of_lt_of_le (Heap.lt_size e) I.ok.above))).trans (I.base.keep b o e n hb hx)
  ·obtain ⟨sl,e1⟩:=I.base.slot b o e n hb hx
   exact ⟨sl,(hs.2 b (Nat.ne_of_lt (Nat.lt_of_lt_of_le (Heap.lt_size e) I.ok.above))).trans e1⟩
  ·obtain ⟨o',e1⟩:=I.base.there b o e hx
   exact ⟨o',(hs.2 b (Nat.ne_of_lt (Nat.lt_of_lt_of_le (Heap.lt_size e) I.ok.above))).trans e1⟩
  ·by_cases hj:j=i
   ·subst hj
    rw [hi] at e1;cases e1;rw [getElem?_set_self hiσ] at e2
    cases e2;exact ⟨u,r,.inl ⟨hk,by simp⟩⟩
   ·rw [getElem?_set_ne (Ne.symm hj)] at e2
    obtain ⟨u',r',q⟩:=hl j y v' e1 e2 e3
    refine ⟨u',r',?_⟩
    rcases q with ⟨k,e⟩ | ⟨k,c,e,z⟩
    ·refine .inl ⟨k,?_⟩
     have:y≠x:=fun e=>hj (IJ hN e1 (e▸hi))
     simp [this,e]
    ·exact .inr ⟨k,c,e,z.sameBut hs (cne y c e)⟩
  ·obtain ⟨w',z⟩:=I.cell y c e
   exact ⟨w',z.sameBut hs (cne y c e)⟩
  ·obtain ⟨e,n,ne,nf,d⟩:=I.pin p hp
   exact ⟨(hs.2 p.1 ne).trans e,n,ne,nf,d⟩
 ·have hfn:X.fn x=true:=by
   rcases hf with z | z
   ·exact z
   ·rw [z] at hk;cases hk
  obtain ⟨c,hc⟩:=I.ok.has x (.inl hk);obtain ⟨w',z⟩:=I.cell x c hc;refine wpAny_storeName_cell I.ok.kind hk hc z (fun h' hc' hs=>?_)
  obtain ⟨oc,hoc,hocd⟩:=id z;refine h { s with heap:=h' } ⟨I.ok,I.os,I.bare,⟨fun b o e n hb hx=>?_,fun b o e n hb hx=>?_,I.base.free,fun b o e hx=>?_,I.base.tups,I.base.frzs,I.base.tbls⟩,⟨m,hn.sameBut hs (Ne.symm (cne x c hc)),fun j y v' e1 e2 e3=>?_⟩,fun y c' e=>?_,I.free,I.freeC,fun p hp=>?_,tracked ⟨oc,hoc,I.freeC x c hc⟩ hs,by simpa using I.len⟩ ⟨c,hs,.inr hc⟩
  ·exact (hs.2 b (Nat.ne_of_lt (Nat.lt_of_lt_of_le (Heap.lt_size e) (I.ok.cab x c hfn hc)))).trans (I.base.keep b o e n hb hx)
  ·obtain ⟨sl,e1⟩:=I.base.slot b o e n hb hx
   exact ⟨sl,(hs.2 b (Nat.ne_of_lt (Nat.lt_of_lt_of_le (Heap.lt_size e) (I.ok.cab x c hfn hc)))).trans e1⟩
  ·obtain ⟨o',e1⟩:=I.base.there b o e hx
   exact ⟨o',(hs.2 b (Nat.ne_of_lt (Nat.lt_of_lt_of_le (Heap.lt_size e) (I.ok.cab x c hfn hc)))).trans e1⟩
  ·by_cases hj:j=i
   ·subst hj
    rw [hi] at e1;cases e1;rw [getElem?_set_self hiσ] at e2
    cases e2;exact ⟨u,r,.inr ⟨.inl hk,c,hc,hc'⟩⟩
   ·rw [getElem?_set_ne (Ne.symm hj)] at e2
    obtain ⟨u',r',q⟩:=hl j y v' e1 e2 e3
    refine ⟨u',r',?_⟩
    rcases q with q | ⟨k,c',e,z'⟩
    ·exact .inl q
    ·refine .inr ⟨k,c',e,z'.sameBut hs ?_⟩
     rintro rfl
     exact hj (IJ hN e1 (I.ok.inj _ _ _ e hc▸hi))
  ·by_cases hcc:c'=c
   ·subst hcc;exact ⟨_,hc'⟩
   ·obtain ⟨w2,z2⟩:=I.cell y c' e
    exact ⟨w2,z2.sameBut hs hcc⟩
  ·obtain ⟨e,n,ne,nf,d⟩:=I.pin p hp
   refine ⟨(hs.2 p.1 ?_).trans e,n,ne,nf,d⟩
   intro q;rw [q,hoc] at e;have q':oc=p.2:=Option.some.inj e
   exact d w' (by rw [<-q'];exact hocd)
theorem Hd {M:Model} {A:Around} {E:Value->Shared->Prop} {i:Nat} {x:Str} {v:V} {u:Value} {Q:Unit->Shared->Prop} (I:Inv X pins σ H s) (hN:X.N.Nodup) (hi:X.N[i]?=some x) (hx:Loc X.env.scope x) (r:RelV v u)
  (h:∀s',Inv X pins (σ.set i (some v)) H s'->Q () s') (hf:X.fn x=true\/X.env.scope.names.lookup x=some .local:=by first | exact .inl rfl | exact .inr rfl | assumption):wpAny M A (storeName X.env x u) Q E s:=
 jE I hN hi hx r (fun s' I' _=>h s' I') hf
theorem Inv.call' {s':Shared} {ch:List Addr} (I:Inv X pins σ H s) (ho:s'.os=s.os) (u:Un (gw X.stack) ch H H' s.heap s'.heap) (hok:HOk X.prog X.w H' s'.heap) (hg:AllBare s'.gens)
  (hch:∀b∈ch,(b∈X.ex\/X.s₀.heap.objs.size<=b)/\b≠X.env.locals/\(∀x c,X.env.cells.lookup x=some c->c≠b)/\∀p∈X.pn++pins,p.1≠b):Inv X pins σ H' s':=by
 obtain ⟨h',g',d',t',o'⟩:=s'
 have e:o'=s.os:=ho
 subst e;exact I.call (g':=g') (t':=t') (d':=d') u hok hg hch
end
abbrev XK:=Value->Option Addr->Hp->Prop
abbrev St:=List (Option V)
abbrev VK:=V->Hp->Prop
abbrev TE:=St->Hp->VK->Prop
abbrev TT:=St->Hp->(Bool->Hp->Prop)->Prop
abbrev TA:=St->Hp->(List V->Hp->Prop)->Prop
structure dI where
 nx:St->Hp->Prop
 rt:VK
 bk:St->Hp->Prop:=fun _ _=>False
 ct:St->Hp->Prop:=fun _ _=>False
abbrev TS:=dI->St->Hp->Prop
def EP (X:Cx) (pins:List (Addr×Obj)) (σ:St) (Q:VK) (u:Value) (s':Shared):Prop:=∃v H',Inv X pins σ H' s'/\RelV v u/\Q v H'
def TP (X:Cx) (pins:List (Addr×Obj)) (σ:St) (Q:Bool->Hp->Prop) (b:Bool) (s':Shared):Prop:=∃H',Inv X pins σ H' s'/\Q b H'
def AP (X:Cx) (pins:List (Addr×Obj)) (σ:St) (Q:List V->Hp->Prop) (us:List Value) (s':Shared):Prop:=∃vs H',Inv X pins σ H' s'/\Vals vs us/\Q vs H'
def SP (X:Cx) (pins:List (Addr×Obj)) (D:dI) (f:Flow) (s':Shared):Prop:=
 match f with
 | .next=>∃σ' H',Inv X pins σ' H' s'/\D.nx σ' H'
 | .brk=>∃σ' H',Inv X pins σ' H' s'/\D.bk σ' H'
 | .cont=>∃σ' H',Inv X pins σ' H' s'/\D.ct σ' H'
 | .ret u=>∃v σ' H',Inv X pins σ' H' s'/\RelV v u/\D.rt v H'
def PE (X:Cx) (e:Expr) (t:TE):Prop:=
 ∀(pins:List (Addr×Obj)) (s:Shared) (σ:St) (H:Hp) (Q:VK),Inv X pins σ H s->t σ H Q->wpAny (model X.prog X.w) X.A (eval e X.env) (EP X pins σ Q) X.xe s
def PT (X:Cx) (e:Expr) (t:TT):Prop:=
 ∀(pins:List (Addr×Obj)) (s:Shared) (σ:St) (H:Hp) (Q:Bool->Hp->Prop),Inv X pins σ H s->t σ H Q->wpAny (model X.prog X.w) X.A (isTrue e X.env (eval e X.env)) (TP X pins σ Q) X.xe s
def PW (X:Cx) (e:Expr) (t:TT):Prop:=
 ∀(whole:Sem Value) (pins:List (Addr×Obj)) (s:Shared) (σ:St) (H:Hp) (Q:Bool->Hp->Prop),Inv X pins σ H s->t σ H Q->wpAny (model X.prog X.w) X.A (isTrue e X.env whole) (TP X pins σ Q) X.xe s
theorem PW.pt {X:Cx} {e:Expr} {t:TT} (h:PW X e t):PT X e t:=h _
def PA (X:Cx) (es:List Expr) (t:TA):Prop:=
 ∀(pos:Pos) (pins:List (Addr×Obj)) (s:Shared) (σ:St) (H:Hp) (Q:List V->Hp->Prop),Inv X pins σ H s->t σ H Q->wpAny (model X.prog X.w) X.A (spliced (backTo pos (starEach es X.env))) (AP X pins σ Q) X.xe s
def PS (X:Cx) (st:Stmt) (t:TS):Prop:=
 ∀(pins:List (Addr×Obj)) (s:Shared) (σ:St) (H:Hp) (D:dI),Inv X pins σ H s->t D σ H->wpAny (model X.prog X.w) X.A (exec st X.env) (SP X pins D) X.xe s
def PSs (X:Cx) (st:List Stmt) (t:TS):Prop:=
 ∀(pins:List (Addr×Obj)) (s:Shared) (σ:St) (H:Hp) (D:dI),Inv X pins σ H s->t D σ H->wpAny (model X.prog X.w) X.A (execs st X.env) (SP X pins D) X.xe s
theorem bH {α:Type} {t:Sem α} {Q Q':α->Shared->Prop} {M:Model} {A:Around} {E:Value->Shared->Prop} {s:Shared} (h:wpAny M A t Q E s) (hQ:∀a s,Q a s->Q' a s):wpAny M A t Q' E s:=wpAny_mono h hQ fun _ _ x=>x
section
variable {X:Cx}
def fA (i:Nat):TE:=fun σ H Q=>∃v,σ[i]?=some (some v)/\Q v H
def tC (v:V):TE:=fun _ H Q=>Q v H
theorem qw {i:Nat} {x:Str} {pos:Pos} (hN:X.N[i]?=some x) (hv:Dk X.env.scope x) (hd:(x==("__debug__":Str))=false:=by decide) (hcd:(x==("__classdict__":Str))=false:=by decide):PE X (.Name x pos) (fA i):=by
 intro pins s σ H Q I h;obtain ⟨v,e,h⟩:=h;obtain ⟨m,hn,hl⟩:=I.loc;obtain ⟨u,r,l⟩:=hl i x v hN e hv;have fin:EP X pins σ Q u s:=⟨v,H,I,r,h⟩
 rcases l with ⟨hk,hm⟩ | ⟨hk,c,hc,hcell⟩
 ·exact wpAny_Name (wpAny_loadName_local I.ok.kind hk hn hm fin) hd
 ·rcases hk with hk | hk
  ·exact wpAny_Name (wpAny_loadName_cell I.ok.kind hk hc hcell fin) hd
  ·exact wpAny_Name (wpAny_loadName_free I.ok.kind hk hc hcell fin hcd) hd
theorem uS {i j pos}:PE X (.Constant (.int i) j pos) (tC (.int i)):=fun _ _ _ H _ I h=>wpAny_Constant_int ⟨.int i,H,I.tok _,⟨_,rfl⟩,h⟩
theorem uW {b j pos}:PE X (.Constant (.bool b) j pos) (tC (.bl b)):=fun _ _ _ H _ I h=>Constant_bool ⟨.bl b,H,I,rfl,h⟩
theorem BU {j pos}:PE X (.Constant .none j pos) (tC .non):=fun _ _ _ H _ I h=>Constant_none ⟨.non,H,I,rfl,h⟩
theorem uR {x j pos}:PE X (.Constant (.str x) j pos) (tC (.str x)):=fun _ _ _ H _ I h=>Calls.Constant_str ⟨.str x,H,I.tok _,⟨_,rfl⟩,h⟩
def Gl (X:Cx) (x:Str):Prop:=X.env.kindOf x=some .globalImplicit
theorem Ah {E:Value->Shared->Prop} {pins:List (Addr×Obj)} {s:Shared} {σ:St} {H:Hp} {x:Str} {u:Value} {pos:Pos} {Q:Value->Shared->Prop} (I:Inv X pins σ H s) (hg:Gl X x) (hm:X.mg x=some u) (h:Q u s)
  (hd:(x==("__debug__":Str))=false:=by decide):wpAny (model X.prog X.w) X.A (eval (.Name x pos) X.env) Q E s:=
 Calls.Name_function_global I.ok.kind hg (Calls.loadGlobal_global (by rw [I.ok.glob];exact I.mod.glob.keeps I.bk) hm h) hd
theorem Aa {E:Value->Shared->Prop} {pins:List (Addr×Obj)} {s:Shared} {σ:St} {H:Hp} {x:Str} {u:Value} {pos:Pos} {Q:Value->Shared->Prop} (I:Inv X pins σ H s) (hg:Gl X x) (hm:X.mg x=none) (hv:bootBuiltins x=some u) (h:Q u s)
  (hn:x ≠ "__name__":=by decide) (hd:(x==("__debug__":Str))=false:=by decide):wpAny (model X.prog X.w) X.A (eval (.Name x pos) X.env) Q E s:=by
 obtain ⟨mb,h1,h2⟩:=I.mod.blt;exact Calls.Name_function_global I.ok.kind hg (Calls.loadGlobal_builtin (by rw [I.ok.glob];exact I.mod.glob.keeps I.bk) hm (by rw [I.ok.blt];exact h1.keeps I.bk) ((h2 x hn).trans hv) h) hd
theorem pQ {x:Str} {v:V} {u:Value} {pos:Pos} (hg:Gl X x) (hm:X.mg x=some u) (r:RelV v u) (hd:(x==("__debug__":Str))=false:=by decide):PE X (.Name x pos) (tC v):=
 fun _ _ _ H _ I h=>Ah I hg hm ⟨v,H,I,r,h⟩ hd
theorem pS {x:Str} {v:V} {u:Value} {pos:Pos} (hg:Gl X x) (hm:X.mg x=none) (hv:bootBuiltins x=some u) (r:RelV v u) (hn:x ≠ "__name__":=by decide) (hd:(x==("__debug__":Str))=false:=by decide):PE X (.Name x pos) (tC v):=
 fun _ _ _ H _ I h=>Aa I hg hm hv ⟨v,H,I,r,h⟩ hn hd
variable {a b:Expr} {ta tb:TE} {pos:Pos}
def PC (X:Cx) (op:CmpOp) (a b:Expr) (t:TE):Prop:=
 ∀(pins:List (Addr×Obj)) (s:Shared) (σ:St) (H:Hp) (Q:VK),Inv X pins σ H s->t σ H Q ->
  wpAny (model X.prog X.w) X.A (eval a X.env) (fun v s₁=>wpAny (model X.prog X.w) X.A (eval b X.env) (fun u s₂=>wpAny (model X.prog X.w) X.A (compareOp op v u) (EP X pins σ Q) X.xe s₂) X.xe s₁) X.xe s
theorem BV {op:CmpOp} {t:TE} (h:PC X op a b t) (h1:behindInMarks op b=false:=by first | exact nobehind _ (by decide) (by decide) | rfl):PE X (.Compare a [op] [b] pos) t:=fun pins s σ H Q I hw=>wpAny_Compare1 (h pins s σ H Q I hw) h1
variable {tA tB':TT} {rest:List Expr}
def EO (t u:TT):TT:=fun σ H Q=>t σ H fun c H1=>if c=true then u σ H1 Q else Q false H1
def KG (t u:TT):TT:=fun σ H Q=>t σ H fun c H1=>if c=true then Q true H1 else u σ H1 Q
def EI (t:TT):TT:=fun σ H Q=>t σ H fun c H1=>Q (!c) H1
theorem xO (ha:PT X a tA):PW X (.BoolOp .And [a] pos) tA:=by
 intro wh pins s σ H Q I h;refine isTrue_and (bH (ha pins s σ H Q I h) fun c s1 e=>?_)
 cases c with
 | true=>exact isTrue_and_nil e
 | false=>exact e
theorem uH (ha:PT X a tA):PW X (.BoolOp .Or [a] pos) tA:=by
 intro wh pins s σ H Q I h;refine isTrue_or (bH (ha pins s σ H Q I h) fun c s1 e=>?_)
 cases c with
 | false=>exact isTrue_or_nil e
 | true=>exact e
theorem BI (ha:PT X a tA) (hb:PW X (.BoolOp .And (b::rest) pos) tB'):PW X (.BoolOp .And (a::b::rest) pos) (EO tA tB'):=by
 intro wh pins s σ H Q I h;refine isTrue_and (bH (ha pins s σ H _ I h) fun c s1 ⟨H1,I1,q1⟩=>?_)
 cases c with
 | true=>exact hb wh pins s1 σ H1 Q I1 q1
 | false=>exact ⟨H1,I1,q1⟩
theorem zE (ha:PT X a tA) (hb:PW X (.BoolOp .Or (b::rest) pos) tB'):PW X (.BoolOp .Or (a::b::rest) pos) (KG tA tB'):=by
 intro wh pins s σ H Q I h;refine isTrue_or (bH (ha pins s σ H _ I h) fun c s1 ⟨H1,I1,q1⟩=>?_)
 cases c with
 | true=>exact ⟨H1,I1,q1⟩
 | false=>exact hb wh pins s1 σ H1 Q I1 q1
theorem uJ (ha:PT X a tA):PT X (.UnaryOp .Not a pos) (EI tA):=by
 intro pins s σ H Q I h;exact isTrue_not (ha pins s σ H (fun c H1=>Q (!c) H1) I h)
def zx (ta tb:TE):TE:=fun σ H Q=>ta σ H fun x H1=>∃c,x=.bl c/\if c=true then tb σ H1 Q else Q (.bl false) H1
def zu (ta:TE):TE:=fun σ H Q=>ta σ H fun x H1=>∃c,x=.bl c/\Q (.bl (!c)) H1
theorem pe_one {op} {t:TE} (h:PE X a t):PE X (.BoolOp op [a] pos) t:=fun pins s σ H Q I hw=>BoolOp_one (h pins s σ H Q I hw)
theorem BX (ha:PE X a ta) (hb:PE X (.BoolOp .And (b::rest) pos) tb):PE X (.BoolOp .And (a::b::rest) pos) (zx ta tb):=by
 intro pins s σ H Q I h;refine BoolOp_and (bH (ha pins s σ H _ I h) fun v s1 ⟨x,H1,I1,r1,q1⟩=>?_)
 obtain ⟨c,rfl,q1⟩:=q1
 cases r1;refine wpAny_truthy_bool ?_
 cases c with
 | true=>exact hb pins s1 σ H1 Q I1 q1
 | false=>exact ⟨.bl false,H1,I1,rfl,q1⟩
theorem BS (ha:PE X a ta):PE X (.UnaryOp .Not a pos) (zu ta):=by
 intro pins s σ H Q I h;refine UnaryOp_ (bH (ha pins s σ H _ I h) fun v s1 ⟨x,H1,I1,r1,q1⟩=>?_)
 obtain ⟨c,rfl,q1⟩:=q1
 cases r1;exact not_of (wpAny_truthy_bool ⟨.bl (!c),H1,I1,rfl,q1⟩)
def KI (t:TT) (ta tb:TE):TE:=fun σ H Q=>t σ H fun c H1=>if c=true then ta σ H1 Q else tb σ H1 Q
theorem uT {c:Expr} (hc:PT X c tA) (ha:PE X a ta) (hb:PE X b tb):PE X (.IfExp c a b pos) (KI tA ta tb):=by
 intro pins s σ H Q I h;refine wpAny_IfExp (bH (hc pins s σ H _ I h) fun d s1 ⟨H1,I1,q1⟩=>?_)
 cases d with
 | true=>exact ha pins s1 σ H1 Q I1 q1
 | false=>exact hb pins s1 σ H1 Q I1 q1
end
def SqL (K:Fg) (H:Hp) (a:Addr) (xs:List V):Prop:=
 Rd H a (.lst xs) \/
  ∃(o:Obj) (its:Array Value) (n:Nat),K.lookup a=some o/\o.cls=.type "list"/\o.dict=none/\o.data=.seq its n/\its.size<=sizeLine/\Vals xs its.toList
def SqT (K:Fg) (H:Hp) (a:Addr) (xs:List V):Prop:=
 Rd H a (.tup xs) \/
  ∃(o:Obj) (its:Array Value) (n:Nat),K.lookup a=some o/\o.cls=.type "tuple"/\o.data=.seq its n/\its.size<=sizeLine/\Vals xs its.toList
def Ko:Value->Option V
 | .none=>some .non
 | .bool b=>some (.bl b)
 | .int i _=>some (.int i)
 | .str x _=>some (.str x)
 | .bytes b _=>some (.byt b)
 | .float b _=>some (.flt b)
 | .ref a=>some (.ref a)
 | .type n=>some (.ty n)
 | _=>none
theorem RelV.abs {x:V} {u:Value} (r:RelV x u):Ko u=some x:=by
 cases x with
 | non=>cases r;rfl
 | bl _=>cases r;rfl
 | int _=>obtain ⟨t,rfl⟩:=r;rfl
 | str _=>obtain ⟨t,rfl⟩:=r;rfl
 | byt _=>obtain ⟨t,rfl⟩:=r;rfl
 | flt _=>obtain ⟨t,rfl⟩:=r;rfl
 | ref _=>cases r;rfl
 | ty _=>cases r;rfl
theorem RelV.inj {x y:V} {u:Value} (r:RelV x u) (q:RelV y u):x=y:=Option.some.inj (r.abs.symm.trans q.abs)
theorem Vals.inj:∀{xs ys:List V} {us:List Value},Vals xs us->Vals ys us->xs=ys
 | _,_,_,.nil,.nil=>rfl
 | _,_,_,.cons r t,.cons r' t'=>by rw [r.inj r',Vals.inj t t']
section
variable {X:Cx} {pins:List (Addr×Obj)} {σ:St} {H:Hp} {s:Shared} {a:Addr} {xs ys:List V}
theorem SqL.of {K:Fg} (h:H a=some (.lst xs)):SqL K H a xs:=.inl (.inl h)
theorem SqT.of {K:Fg} (h:H a=some (.tup xs)):SqT K H a xs:=.inl (.inl h)
theorem Inv.list (I:Inv X pins σ H s) (h:SqL X.K H a xs):∃its:List Value,Vals xs its/\PlainL s.heap a its.toArray/\xs.length<=sizeLine:=by
 rcases h with h | ⟨o,its,n,hk,hc,hd,hs,hz,r⟩
 ·obtain ⟨z,its,n,r,e⟩:=h.ok I.hok
  exact ⟨its,r,⟨_,n,e,rfl,rfl,rfl⟩,z⟩
 ·refine ⟨its.toList,r,⟨o,n,I.kIn a o hk,hc,hd,by simpa using hs⟩,?_⟩
  have e:=r.length
  simp only [Array.length_toList] at e
  omega
theorem Inv.tuple (I:Inv X pins σ H s) (h:SqT X.K H a xs):∃its:List Value,Vals xs its/\IsTup s.heap a its.toArray/\xs.length<=sizeLine:=by
 rcases h with h | ⟨o,its,n,hk,hc,hs,hz,r⟩
 ·obtain ⟨z,its,r,p⟩:=h.ok I.hok
  exact ⟨its,r,p,z⟩
 ·refine ⟨its.toList,r,⟨o,I.kIn a o hk,hc,n,by simpa using hs⟩,?_⟩
  have e:=r.length
  simp only [Array.length_toList] at e
  omega
theorem Inv.list_inj (I:Inv X pins σ H s) (h:SqL X.K H a xs) (h':SqL X.K H a ys):xs=ys:=by
 obtain ⟨its,r,⟨o,n,e,_,_,d⟩,_⟩:=I.list h;obtain ⟨its',r',⟨o',n',e',_,_,d'⟩,_⟩:=I.list h'
 rw [e] at e';cases e'
 rw [d] at d';injection d' with d1 _
 have:its=its':=by simpa using congrArg Array.toList d1
 subst this;exact r.inj r'
theorem Inv.tuple_inj (I:Inv X pins σ H s) (h:SqT X.K H a xs) (h':SqT X.K H a ys):xs=ys:=by
 obtain ⟨its,r,⟨o,e,_,n,d⟩,_⟩:=I.tuple h;obtain ⟨its',r',⟨o',e',_,n',d'⟩,_⟩:=I.tuple h'
 rw [e] at e';cases e'
 rw [d] at d';injection d' with d1 _
 have:its=its':=by simpa using congrArg Array.toList d1
 subst this;exact r.inj r'
end
abbrev Cx.wish (X:Cx) (E:Value->Shared->Prop):Cx:={ X with xe:=E }
abbrev Cx.nox (X:Cx):Cx:=X.wish fun _ _=>False
theorem Cx.Ok.wish {X:Cx} (ok:X.Ok) (E:Value->Shared->Prop):(X.wish E).Ok:=
 ⟨ok.mod,ok.kind,ok.glob,ok.blt,ok.above,ok.inj,ok.has,ok.cab,ok.hd,ok.frames,ok.stk,ok.exf,ok.bs,ok.bsz,ok.noex,ok.exfs,ok.funs,ok.frf⟩
theorem Cx.Ok.unwish {X:Cx} {E:Value->Shared->Prop} (ok:(X.wish E).Ok):X.Ok:=
 ⟨ok.mod,ok.kind,ok.glob,ok.blt,ok.above,ok.inj,ok.has,ok.cab,ok.hd,ok.frames,ok.stk,ok.exf,ok.bs,ok.bsz,ok.noex,ok.exfs,ok.funs,ok.frf⟩
section
variable {X:Cx} {pins:List (Addr×Obj)} {σ:St} {H:Hp} {s:Shared} {E:Value->Shared->Prop}
theorem Inv.wish (I:Inv X pins σ H s) (E:Value->Shared->Prop):Inv (X.wish E) pins σ H s:=⟨I.ok.wish E,I.os,I.bare,I.base,I.loc,I.cell,I.free,I.freeC,I.pin,I.hok,I.len⟩
theorem Inv.unwish (I:Inv (X.wish E) pins σ H s):Inv X pins σ H s:=⟨I.ok.unwish,I.os,I.bare,I.base,I.loc,I.cell,I.free,I.freeC,I.pin,I.hok,I.len⟩
theorem SP.unwish {D:dI} {f:Flow} {s':Shared} (h:SP (X.wish E) pins D f s'):SP X pins D f s':=by
 cases f with
 | next=>obtain ⟨σ',H',I,q⟩:=h;exact ⟨σ',H',I.unwish,q⟩
 | brk=>obtain ⟨σ',H',I,q⟩:=h;exact ⟨σ',H',I.unwish,q⟩
 | cont=>obtain ⟨σ',H',I,q⟩:=h;exact ⟨σ',H',I.unwish,q⟩
 | ret u=>obtain ⟨v,σ',H',I,r,q⟩:=h;exact ⟨v,σ',H',I.unwish,r,q⟩
theorem PSs.nox {st:List Stmt} {t:TS} (h:PSs X.nox st t):PSs X st t:=fun pins s σ H D I hw=>
 wpAny_mono (h pins s σ H D (I.wish _) hw) (fun _ _ q=>q.unwish) fun _ _ z=>False.elim z
end
section
variable {X:Cx} {st:Stmt} {rest:List Stmt} {t u:TS} {e:Expr} {te:TE} {pos:Pos}
def t6:TS:=fun D σ H=>D.nx σ H
def AK (t u:TS):TS:=fun D σ H=>t { D with nx:=u D } σ H
theorem Ir:PSs X [] t6:=fun _ _ σ H _ I h=>wpAny_execs_nil ⟨σ,H,I,h⟩
theorem lV (h1:PS X st t) (h2:PSs X rest u):PSs X (st::rest) (AK t u):=by
 intro pins s σ H D I h;refine wpAny_execs_cons (bH (h1 pins s σ H { D with nx:=u D } I h) fun f s1 q=>?_)
 cases f with
 | next=>
  obtain ⟨σ',H',I',q⟩:=q;exact h2 pins s1 σ' H' D I' q
 | ret v=>exact q
 | brk=>exact q
 | cont=>exact q
theorem Iu (h1:PS X st t):PSs X [st] t:=by
 intro pins s σ H D I h;refine wpAny_execs_cons (bH (h1 pins s σ H D I h) fun f s1 q=>?_)
 cases f with
 | next=>exact wpAny_execs_nil q
 | ret v=>exact q
 | brk=>exact q
 | cont=>exact q
theorem Inv.quiet {pins:List (Addr×Obj)} {σ:St} {H:Hp} {s:Shared} (I:Inv X pins σ H s):interactive X.env=false:=by simp [interactive,I.ok.kind]
def o6 (te:TE):TS:=fun D σ H=>te σ H fun _ H1=>D.nx σ H1
theorem Iq (he:PE X e te) (hs:swapsWith e none pos.line X.env=pure false:=by rfl):PS X (.Expr e pos) (o6 te):=by
 intro pins s σ H D I h;exact wpAny_Expr_any (bH (he pins s σ H _ I h) fun v s1 ⟨x,H1,I1,r1,q1⟩=>⟨σ,H1,I1,q1⟩) I.quiet hs
def EH (te:TE):TS:=fun D σ H=>te σ H D.rt
theorem uM (he:PE X e te):PS X (.Return (some e) pos) (EH te):=by
 intro pins s σ H D I h;exact wpAny_Return_some (bH (he pins s σ H _ I h) fun v s1 ⟨x,H1,I1,r1,q1⟩=>⟨x,σ,H1,I1,r1,q1⟩)
def AO (c:TT) (t u:TS):TS:=fun D σ H=>c σ H fun b H1=>if b=true then t D σ H1 else u D σ H1
theorem zF {c:Expr} {a b:List Stmt} {tc:TT} (hc:PT X c tc) (ha:PSs X a t) (hb:PSs X b u):PS X (.If c a b pos) (AO tc t u):=by
 intro pins s σ H D I h;refine wpAny_If (bH (hc pins s σ H _ I h) fun d s1 ⟨H1,I1,q1⟩=>?_)
 cases d with
 | true=>exact ha pins s1 σ H1 D I1 q1
 | false=>exact hb pins s1 σ H1 D I1 q1
end
abbrev TG:=V->St->Hp->(St->Hp->Prop)->Prop
abbrev zU:=List V->St->Hp->(St->Hp->Prop)->Prop
def PG (X:Cx) (target:Expr) (t:TG):Prop:=
 ∀(pins:List (Addr×Obj)) (s:Shared) (σ:St) (H:Hp) (v:V) (u:Value) (Q:St->Hp->Prop),Inv X pins σ H s->RelV v u->t v σ H Q ->
  wpAny (model X.prog X.w) X.A (assign target X.env u) (fun _ s'=>∃σ' H',Inv X pins σ' H' s'/\Q σ' H') X.xe s
def HW (X:Cx) (ts:List Expr) (t:zU):Prop:=
 ∀(pins:List (Addr×Obj)) (s:Shared) (σ:St) (H:Hp) (vs:List V) (us:List Value) (Q:St->Hp->Prop),Inv X pins σ H s->Vals vs us->t vs σ H Q ->
  wpAny (model X.prog X.w) X.A (assignInOrder ((assignEach ts X.env).map (·.2)) us) (fun _ s'=>∃σ' H',Inv X pins σ' H' s'/\Q σ' H') X.xe s
abbrev Dm:=V->V->V->Hp->(Hp->Prop)->Prop
def Gq (X:Cx) (t:Dm):Prop:=
 ∀(pins:List (Addr×Obj)) (s:Shared) (σ:St) (H:Hp) (o i v:V) (ov iv u:Value) (Q:Hp->Prop),Inv X pins σ H s->RelV o ov->RelV i iv->RelV v u->t o i v H Q ->
  wpAny (model X.prog X.w) X.A (setItem ov iv u) (fun _ s'=>∃H',Inv X pins σ H' s'/\Q H') X.xe s
abbrev HV:=V->V->Hp->VK->Prop
def Lk (X:Cx) (op:Operator) (t:HV):Prop:=
 ∀(pins:List (Addr×Obj)) (s:Shared) (σ:St) (H:Hp) (x y:V) (v u:Value) (Q:VK),Inv X pins σ H s->RelV x v->RelV y u->t x y H Q ->
  wpAny (model X.prog X.w) X.A (inplaceOp op v u) (EP X pins σ Q) X.xe s
section
variable {X:Cx} {pos:Pos}
def gName (i:Nat):TG:=fun v σ H Q=>Q (σ.set i (some v)) H
theorem DA {i:Nat} {x:Str} (hN:X.N.Nodup) (hi:X.N[i]?=some x) (hx:Loc X.env.scope x) (hf:X.fn x=true\/X.env.scope.names.lookup x=some .local:=by first | exact .inl rfl | exact .inr rfl | assumption):PG X (.Name x pos) (gName i):=by
 intro pins s σ H v u Q I r h;exact wpAny_assign_Name (Hd I hN hi hx r (fun s' I'=>⟨_,H,I',h⟩) hf)
def FP:zU:=fun vs σ H Q=>vs=[]/\Q σ H
def zQ (t:TG) (u:zU):zU:=fun vs σ H Q=>∃v r,vs=v::r/\t v σ H fun σ' H'=>u r σ' H' Q
theorem xU:HW X [] FP:=by
 intro pins s σ H vs us Q I r h;obtain ⟨e,h⟩:=h;subst e
 cases r;exact assignInOrder_nil ⟨σ,H,I,h⟩
theorem IK {e:Expr} {es:List Expr} {t:TG} {u:zU} (h1:PG X e t) (h2:HW X es u)
  (hs:(assignEach (e::es) X.env).map (·.2)=assign e X.env::(assignEach es X.env).map (·.2):=by rfl):HW X (e::es) (zQ t u):=by
 intro pins s σ H vs us Q I r h;obtain ⟨v,vr,e1,h⟩:=h;subst e1
 cases r with
 | cons r rr=>
  rw [hs];refine assignInOrder_cons (bH (h1 pins s σ H _ _ _ I r h) fun _ s1 ⟨σ1,H1,I1,q1⟩=>?_)
  exact h2 pins s1 σ1 H1 _ _ Q I1 rr q1
def FO (K:Fg) (n:Nat) (t:zU):TG:=fun v σ H Q=>∃a xs,v=.ref a/\SqT K H a xs/\xs.length=n/\t xs σ H Q
theorem BN {es:List Expr} {k:Nat} {t:zU} {n:Nat} (hc:X.calm=true) (h:HW X es t)
  (hn:(assignEach es X.env).length=n:=by rfl) (hst:(assignEach es X.env).findIdx? (·.1)=none:=by rfl):PG X (.Tuple es k pos) (FO X.K n t):=by
 intro pins s σ H v u Q I r hw;obtain ⟨a,xs,e1,hq,hl,hw⟩:=hw;subst e1
 cases r;obtain ⟨its,rv,ht,hz⟩:=I.tuple hq;refine assign_Tuple_tuple (I.ok.hd hc) ht (by simp [hn,<-hl,rv.length]) hst fun h' hx=>?_
 have I1:Inv X pins σ H { s with heap:=h' }:=I.kept (t':=s.toks) fun b o e=>hx b o (Nat.ne_of_lt (Heap.lt_size e)) e
 exact h pins _ σ H xs _ Q I1 (by simpa using rv) hw
def gSub (to ti:TE) (t:Dm):TG:=fun v σ H Q=>to σ H fun o H1=>ti σ H1 fun i H2=>t o i v H2 fun H3=>Q σ H3
theorem BO {o i:Expr} {to ti:TE} {t:Dm} (ho:PE X o to) (hi:PE X i ti) (hs:Gq X t)
  (ha:∀v,assign (.Subscript o i pos) X.env v=(do
   let ov <-holding [v] (eval o X.env)
   let iv <-holding [v,ov] (eval i X.env)
   standAt pos
   holding [v,ov,iv] (setItem ov iv v)
   release [v,ov,iv] []):=by intro _;rfl):PG X (.Subscript o i pos) (gSub to ti t):=by
 intro pins s σ H v u Q I r h;rw [ha];refine wpAny_bind (wpAny_holding (bH (ho pins s σ H _ I h) fun ov s1 ⟨x,H1,I1,r1,q1⟩=>?_))
 refine wpAny_bind (wpAny_holding (bH (hi pins s1 σ H1 _ I1 q1) fun iv s2 ⟨y,H2,I2,r2,q2⟩=>?_))
 refine wpAny_bind (wpAny_standAt (wpAny_bind (wpAny_holding (bH (hs pins s2 σ H2 x y v ov iv u _ I2 r1 r2 r q2) fun _ s3 ⟨H3,I3,q3⟩=>?_))))
 exact wpAny_release ⟨σ,H3,I3,q3⟩
def lB (te:TE) (g:TG):TS:=fun D σ H=>te σ H fun x H1=>g x σ H1 D.nx
theorem uO {tg e:Expr} {te:TE} {g:TG} (he:PE X e te) (hg:PG X tg g) (hs:swapsWithSole [tg] e pos.line X.env=pure false:=by rfl) (hw:swappedStores [tg] e X.env=pure none:=by rfl)
  (h1:(assignEach [tg] X.env).map (·.2)=[assign tg X.env]:=by rfl):PS X (.Assign [tg] e pos) (lB te g):=by
 intro pins s σ H D I h;refine wpAny_Assign_stores (bH (he pins s σ H _ I h) fun v s1 ⟨x,H1,I1,r1,q1⟩=>?_) hs hw
 rw [h1];exact bH (hg pins s1 σ H1 x v _ I1 r1 q1) fun _ s2 q=>q
theorem GE {i:Nat} {x:Str} {e:Expr} {te:TE} {pos':Pos} (hN:X.N.Nodup) (hi:X.N[i]?=some x) (hx:Loc X.env.scope x) (he:PE X e te) (hs:swapsWith e (some (.Name x pos')) pos.line X.env=pure false:=by rfl) (hf:X.fn x=true\/X.env.scope.names.lookup x=some .local:=by first | exact .inl rfl | exact .inr rfl | assumption) :
  PS X (.Assign [.Name x pos'] e pos) (lB te (gName i)):=by
 intro pins s σ H D I h;refine wpAny_Assign_Name (bH (he pins s σ H _ I h) fun v s1 ⟨y,H1,I1,r1,q1⟩=>?_) hs
 exact Hd I1 hN hi hx r1 (fun s2 I2=>⟨_,H1,I2,q1⟩) hf
def EN (i:Nat) (te:TE) (ti:HV):TS:=fun D σ H=>∃x,σ[i]?=some (some x)/\te σ H fun y H1=>ti x y H1 fun z H2=>D.nx (σ.set i (some z)) H2
theorem BL {i:Nat} {x:Str} {e:Expr} {te:TE} {op:Operator} {ti:HV} {pos':Pos} (hN:X.N.Nodup) (hi:X.N[i]?=some x) (hx:Loc X.env.scope x) (he:PE X e te) (ho:Lk X op ti) (hf:X.fn x=true\/X.env.scope.names.lookup x=some .local:=by first | exact .inl rfl | exact .inr rfl | assumption) :
  PS X (.AugAssign (.Name x pos') op e pos) (EN i te ti):=by
 intro pins s σ H D I h;obtain ⟨v,e1,h⟩:=h;obtain ⟨m,hn,hl⟩:=I.loc;have vis:Dk X.env.scope x:=by rcases hx with k | k;exact .inl k;exact .inr (.inl k)
 obtain ⟨u,r,l⟩:=hl i x v hi e1 vis;refine wpAny_AugAssign_Name ?_
 have go:wpAny (model X.prog X.w) X.A (eval e X.env) (fun w s₂=>wpAny (model X.prog X.w) X.A (inplaceOp op u w) (fun r s₃=>wpAny (model X.prog X.w) X.A (storeName X.env x r) (fun _=>SP X pins D .next) X.xe s₃) X.xe s₂) X.xe s:=by
  refine bH (he pins s σ H _ I h) fun w s1 ⟨y,H1,I1,r1,q1⟩=>?_
  refine bH (ho pins s1 σ H1 v y u w _ I1 r r1 q1) fun z s2 ⟨zv,H2,I2,r2,q2⟩=>?_
  exact Hd I2 hN hi hx r2 (fun s3 I3=>⟨_,H2,I3,q2⟩) hf
 rcases l with ⟨hk,hm⟩ | ⟨hk,c,hc,hcell⟩
 ·exact wpAny_loadName_local I.ok.kind hk hn hm go
 ·rcases hk with hk | hk
  ·exact wpAny_loadName_cell I.ok.kind hk hc hcell go
  ·rcases hx with k | k
   ·have:X.env.scope.names.lookup x=some .free:=hk
    rw [k] at this;cases this
   ·have:X.env.scope.names.lookup x=some .free:=hk
    rw [k] at this;cases this
def K9 (f:Int->Int->Int):HV:=fun x y H Q=>∃i j,x=.int i/\y=.int j/\Q (.int (f i j)) H
theorem CB:Lk X .Add (K9 fun i j=>i+j):=by
 intro pins s σ H x y v u Q I r1 r2 h;obtain ⟨i,j,e1,e2,q⟩:=h;subst e1;subst e2;obtain ⟨t,rfl⟩:=r1;obtain ⟨t',rfl⟩:=r2;exact iadd_int ⟨.int _,H,I.tok _,⟨_,rfl⟩,q⟩
end
section
variable {X:Cx} {pos:Pos}
def tY (c:TT) (tb:TS):TS:=fun D σ H=>∃W:Nat->St->Hp->Prop,(∃m,W m σ H)/\∀m σ H,W m σ H ->
 c σ H fun b H1=>if b=true then ∃N:St->Hp->Prop,(∀σ' H',N σ' H'->∃m',m'<m/\W m' σ' H')/\tb { D with nx:=N,ct:=N,bk:=D.nx } σ H1 else D.nx σ H1
theorem uL {c:Expr} {body:List Stmt} {tc:TT} {tb:TS} (hp:PassesOwn (model X.prog X.w) X.A X.env X.xe) (hc:PT X c tc) (hb:PSs X body tb):PS X (.While c body [] pos) (tY tc tb):=by
 intro pins s σ H D I h;obtain ⟨W,⟨m0,w0⟩,turn⟩:=h;refine wpAny_While (codeAny_whileLoop (fun n s'=>∃σ' H',Inv X pins σ' H' s'/\W n σ' H') ?_ m0 ⟨σ,H,I,w0⟩)
 rintro n s1 ⟨σ1,H1,I1,w1⟩
 refine wpAny_passesOwn hp (bH (hc pins s1 σ1 H1 _ I1 (turn n σ1 H1 w1)) fun b s2 ⟨H2,I2,q2⟩=>?_)
 cases b with
 | true=>
  obtain ⟨N,hN,q2⟩:=q2;rw [if_pos rfl];refine wpAny_passesOwn hp (bH (hb pins s2 σ1 H2 _ I2 q2) fun f s3 q3=>?_)
  cases f with
  | next=>
   obtain ⟨σ3,H3,I3,n3⟩:=q3;obtain ⟨m',hm,w3⟩:=hN σ3 H3 n3;exact ⟨m',hm,σ3,H3,I3,w3⟩
  | cont=>
   obtain ⟨σ3,H3,I3,n3⟩:=q3;obtain ⟨m',hm,w3⟩:=hN σ3 H3 n3;exact ⟨m',hm,σ3,H3,I3,w3⟩
  | brk=>exact q3
  | ret v=>exact q3
 | false=>
  rw [if_neg Bool.false_ne_true];exact wpAny_execs_nil ⟨σ1,H2,I2,q2⟩
end
structure It where
 go:Nat->Hp->Prop
 yld:Nat->Hp->V->Hp->Prop
 stop:Nat->Hp->Prop
def m7 (X:Cx) (pins:List (Addr×Obj)) (H:Hp) (b:Addr):Prop:=
 H b=none/\b≠X.env.locals/\b∉X.fs/\(b∈X.ex\/X.s₀.heap.objs.size<=b)/\(∀x c,X.env.cells.lookup x=some c->c≠b)/\∀p∈X.pn++pins,p.1≠b
theorem Inv.fpOk {X:Cx} {pins:List (Addr×Obj)} {σ:St} {H H':Hp} {s:Shared} {b:Addr} (I:Inv X pins σ H s) (hb:s.heap.objs.size<=b) (hn:H' b=none):m7 X pins H' b:=by
 refine ⟨hn,Nat.ne_of_gt (Nat.lt_of_lt_of_le I.lt hb),I.nofs hb,.inr (Nat.le_trans I.sz hb),fun x c e z=>?_,fun p hp z=>?_⟩
 ·obtain ⟨v,q⟩:=I.cell x c e
  exact absurd (Nat.lt_of_lt_of_le q.lt (by rw [z];exact hb)) (Nat.lt_irrefl _)
 ·exact absurd (Nat.lt_of_lt_of_le (Heap.lt_size (I.pin p hp).1) (by rw [z];exact hb)) (Nat.lt_irrefl _)
structure we (P:Program) (w:World) (K:Fg) (tg:Expr) (J:It) (fp:List Addr) (it:Addr) (tn:Nat->Heap->Prop):Prop where
 mem:it∈fp
 obj:∀i h,tn i h->∀b∈fp,∃o,h.get? b=some o/\∀v,o.data≠.cell v
 keep:∀i h h',tn i h->(∀b∈fp,∀o,h.get? b=some o->h'.get? b=some o)->tn i h'
 item:∀(X:Cx),X.prog=P->X.w=w->X.K=K->X.calm=true->∀(i:Nat) (pins:List (Addr×Obj)) (s:Shared) (σ:St) (H:Hp) (E:Value->Shared->Prop),Inv X pins σ H s->(∀b∈fp,m7 X pins H b)->tn i s.heap->J.go i H ->
  wpAny (model P w) X.A (pyNext (.ref it)) (fun r s1=>∃u,r=some u /\
   wpAny (model P w) X.A (letOwnedTupleGo tg (.ref it) u) (fun _ s2=>∃x H',Inv X pins σ H' s2/\RelV x u/\J.yld i H x H'/\tn (i+1) s2.heap/\∀b∈fp,H' b=none) E s1) E s
 done:∀(X:Cx),X.prog=P->X.w=w->X.K=K->X.calm=true->∀(i:Nat) (pins:List (Addr×Obj)) (s:Shared) (σ:St) (H:Hp) (E:Value->Shared->Prop),Inv X pins σ H s->(∀b∈fp,m7 X pins H b)->tn i s.heap->J.stop i H ->
  wpAny (model P w) X.A (pyNext (.ref it)) (fun r s1=>r=none/\Inv X pins σ H s1) E s
 self:∀(A:Around) (i:Nat) (s:Shared) (Q:Value->Shared->Prop) (E:Value->Shared->Prop),tn i s.heap->Q (.ref it) s->wpAny (model P w) A (pyIter (.ref it)) Q E s
abbrev TI:=St->Hp->(It->Hp->Prop)->Prop
def Ll (X:Cx) (pins:List (Addr×Obj)) (σ:St) (tg:Expr) (R:It->Hp->Prop) (itv:Value) (s2:Shared):Prop:=
 ∃(it:Addr) (fp:List Addr) (tn:Nat->Heap->Prop) (J:It) (H':Hp),itv=.ref it/\Inv X pins σ H' s2/\we X.prog X.w X.K tg J fp it tn/\tn 0 s2.heap/\(∀b∈fp,m7 X pins H' b)/\R J H'
def PI (X:Cx) (tg iter:Expr) (wi:TI):Prop:=
 ∀(pins:List (Addr×Obj)) (s:Shared) (σ:St) (H:Hp) (R:It->Hp->Prop),Inv X pins σ H s->wi σ H R ->
  wpAny (model X.prog X.w) X.A (eval iter X.env) (fun v s1=>wpAny (model X.prog X.w) X.A (pyIter v) (Ll X pins σ tg R) X.xe s1) X.xe s
theorem qa {M:Model} {A:Around} {E:Value->Shared->Prop} {s:Shared} {tg:Expr} {it:Addr} {u:Value} {o:Obj} {n:String} {vs:Array Value} {Q:Unit->Shared->Prop} (ho:s.heap.get? it=some o) (hc:o.cls=.type n) (hd:o.data=.fields vs)
  (hn:["enumerate", "zip", "dict_itemiterator", "dict_reverseitemiterator", "odict_iterator", "itertools.zip_longest", "itertools.pairwise"].contains n=false) (hQ:Q () s):wpAny M A (letOwnedTupleGo tg (.ref it) u) Q E s:=by
 unfold letOwnedTupleGo
 cases tg<;>first
  | exact wpAny_pure hQ
  | (cases u<;>first
      | exact wpAny_pure hQ
      | (refine wpAny_bind (wpAny_load ho ?_)
         rw [hc,hd];show wpAny M A (if (["enumerate", "zip", "dict_itemiterator", "dict_reverseitemiterator", "odict_iterator", "itertools.zip_longest", "itertools.pairwise"].contains n&&vs[0]?==some (rawInt _))=true then _ else _) Q E s
         rw [if_neg (by intro h;rw [hn,Bool.false_and] at h;cases h)]
         exact wpAny_pure hQ))
def Ia (K:Fg) (a:Addr):It:=
 ⟨fun i H=>∃xs x,SqL K H a xs/\xs[i]?=some x,fun i H x H'=>H'=H/\∀xs,SqL K H a xs->xs[i]?=some x,fun i H=>∃xs,SqL K H a xs/\xs.length<=i⟩
def H0 (K:Fg) (a:Addr):It:=
 ⟨fun i H=>∃xs x,SqT K H a xs/\xs[i]?=some x,fun i H x H'=>H'=H/\∀xs,SqT K H a xs->xs[i]?=some x,fun i H=>∃xs,SqT K H a xs/\xs.length<=i⟩
def Dq (lo:Int) (n:Nat):It:=⟨fun i _=>i<n,fun i H x H'=>H'=H/\x=.int (lo+i),fun i _=>n<=i⟩
theorem qJ {P:Program} {w:World} {K:Fg} {tg:Expr} (a it:Addr):we P w K tg (Ia K a) [it] it (fun i h=>h.IsListIter it a i) where
 mem:=by simp
 obj:=fun i h st b hb=>by
  have e:b=it:=by simpa using hb
  subst e;obtain ⟨o,e,c,d⟩:=st;exact ⟨o,e,fun v z=>by rw [d] at z;cases z⟩
 keep:=fun i h h' st k=>st.at fun o e=>k it (by simp) o e
 item:=by
  intro X hP hw hK hc i pins s σ H E I hf st hg;subst hP hw hK;obtain ⟨xs,x,hq,hx⟩:=hg;obtain ⟨its,rv,p,hz⟩:=I.list hq;obtain ⟨u,hu,ru⟩:=rv.get hx;obtain ⟨f0,f1,f2,f3,f4,f5⟩:=hf it (by simp)
  refine wpAny_pyNext_list_item st p.isList (x:=u) (by simpa using hu) fun h' st' sb=>?_
  have I1:Inv X pins σ H { s with heap:=h' }:=I.turned (t':=s.toks) (fun b o hb e=>(sb.2 b hb).trans e) f0 f1 f3 f4 f5
  obtain ⟨o,e,c,d⟩:=id st'
  exact ⟨u,rfl,qa (s:={ s with heap:=h' }) e c d (by decide) ⟨x,H,I1,ru,⟨rfl,fun ys hy=>by rw [I.list_inj hy hq];exact hx⟩,st',fun b hb=>(hf b hb).1⟩⟩
 done:=by
  intro X hP hw hK hc i pins s σ H E I hf st hg;subst hP hw hK;obtain ⟨xs,hq,hx⟩:=hg;obtain ⟨its,rv,p,hz⟩:=I.list hq;obtain ⟨f0,f1,f2,f3,f4,f5⟩:=hf it (by simp)
  have hl:=rv.length
  exact wpAny_pyNext_list_end (I.ok.hd hc) st p.isList (by simp;omega) fun h' eb=>⟨rfl,I.turned (t':=s.toks) (fun b o hb e=>eb b o hb e) f0 f1 f3 f4 f5⟩
 self:=fun _ _ _ _ _ st h=>wpAny_pyIter_listiter st h
theorem nu {P:Program} {w:World} {K:Fg} {tg:Expr} (a it:Addr):we P w K tg (H0 K a) [it] it (fun i h=>h.IsTupleIter it a i) where
 mem:=by simp
 obj:=fun i h st b hb=>by
  have e:b=it:=by simpa using hb
  subst e;obtain ⟨o,e,c,d⟩:=st;exact ⟨o,e,fun v z=>by rw [d] at z;cases z⟩
 keep:=fun i h h' st k=>st.at fun o e=>k it (by simp) o e
 item:=by
  intro X hP hw hK hc i pins s σ H E I hf st hg;subst hP hw hK;obtain ⟨xs,x,hq,hx⟩:=hg;obtain ⟨its,rv,p,hz⟩:=I.tuple hq;obtain ⟨u,hu,ru⟩:=rv.get hx;obtain ⟨f0,f1,f2,f3,f4,f5⟩:=hf it (by simp)
  refine wpAny_pyNext_tuple_item st (show s.heap.IsTuple a its.toArray from p) (x:=u) (by simpa using hu) fun h' st' sb=>?_
  have I1:Inv X pins σ H { s with heap:=h' }:=I.turned (t':=s.toks) (fun b o hb e=>(sb.2 b hb).trans e) f0 f1 f3 f4 f5
  obtain ⟨o,e,c,d⟩:=id st'
  exact ⟨u,rfl,qa (s:={ s with heap:=h' }) e c d (by decide) ⟨x,H,I1,ru,⟨rfl,fun ys hy=>by rw [I.tuple_inj hy hq];exact hx⟩,st',fun b hb=>(hf b hb).1⟩⟩
 done:=by
  intro X hP hw hK hc i pins s σ H E I hf st hg;subst hP hw hK;obtain ⟨xs,hq,hx⟩:=hg;obtain ⟨its,rv,p,hz⟩:=I.tuple hq;obtain ⟨f0,f1,f2,f3,f4,f5⟩:=hf it (by simp)
  have hl:=rv.length
  exact wpAny_pyNext_tuple_end (I.ok.hd hc) st (show s.heap.IsTuple a its.toArray from p) (by simp;omega) fun h' eb=>⟨rfl,I.turned (t':=s.toks) (fun b o hb e=>eb b o hb e) f0 f1 f3 f4 f5⟩
 self:=fun _ _ _ _ _ st h=>wpAny_pyIter_tupleiter st h
theorem ny {P:Program} {w:World} {K:Fg} {tg:Expr} (it:Addr) (lo:Int) (n:Nat):we P w K tg (Dq lo n) [it] it (fun i h=>IsRangeIter h it (lo+(i:Nat)*1) ((n:Int)-(i:Nat)) 1) where
 mem:=by simp
 obj:=fun i h st b hb=>by
  have e:b=it:=by simpa using hb
  subst e;exact ⟨_,st,fun v z=>by
   have z':Data.fields _=Data.cell v:=z
   cases z'⟩
 keep:=fun i h h' st k=>k it (by simp) _ st
 item:=by
  intro X hP hw hK hc i pins s σ H E I hf st hg;subst hP hw hK;obtain ⟨f0,f1,f2,f3,f4,f5⟩:=hf it (by simp)
  have W:=Walks.range (prog:=X.prog) (w:=X.w) (I.ok.hd hc) it lo 1 n
  refine W.item i s _ _ hg st fun v h' tk hv st' kk=>?_
  obtain ⟨t,rfl⟩:=hv;have I1:Inv X pins σ H { s with heap:=h',toks:=tk }:=I.turned (fun b o hb e=>kk b o (by simpa using hb) e) f0 f1 f3 f4 f5
  refine ⟨_,rfl,qa (s:={ s with heap:=h',toks:=tk }) (n := "range_iterator") st' rfl rfl (by decide) ⟨.int (lo+i),H,I1,⟨t,?_⟩,⟨rfl,rfl⟩,st',fun b hb=>(hf b hb).1⟩⟩
  rw [Int.mul_one]
 done:=by
  intro X hP hw hK hc i pins s σ H E I hf st hg;subst hP hw hK;obtain ⟨f0,f1,f2,f3,f4,f5⟩:=hf it (by simp)
  exact wpAny_pyNext_range_end (I.ok.hd hc) st (by have:n<=i:=hg;omega) fun h' eb=>⟨rfl,I.turned (t':=s.toks) (fun b o hb e=>eb b o hb e) f0 f1 f3 f4 f5⟩
 self:=fun _ _ _ _ _ st h=>wpAny_pyIter_rangeiter st h
section
variable {X:Cx} {tg:Expr}
def zM (K:Fg) (tl:TE):TI:=fun σ H R=>tl σ H fun x H1=>∃a,x=.ref a/\(∃xs,SqL K H1 a xs)/\R (Ia K a) H1
def FG (K:Fg) (tl:TE):TI:=fun σ H R=>tl σ H fun x H1=>∃a,x=.ref a/\(∃xs,SqT K H1 a xs)/\R (H0 K a) H1
theorem xT {l:Expr} {tl:TE} (hl:PE X l tl):PI X tg l (zM X.K tl):=by
 intro pins s σ H R I h;refine bH (hl pins s σ H _ I h) fun v s1 ⟨x,H1,I1,r1,q1⟩=>?_
 obtain ⟨a,e,⟨xs,hq⟩,q⟩:=q1;subst e
 cases r1;obtain ⟨its,rv,p,hz⟩:=I1.list hq;refine wpAny_pyIter_list p.isList ?_
 refine ⟨s1.heap.objs.size,[s1.heap.objs.size],_,_,H1,rfl,I1.kept (t':=s1.toks) fun b o e=>Heap.get?_push_of_some _ e,qJ a _,⟨_,Heap.get?_push_size _ rfl,rfl,rfl⟩,fun b hb=>?_,q⟩
 have e:b=s1.heap.objs.size:=by simpa using hb
 subst e;exact I1.fpOk (Nat.le_refl _) (I1.hok.fresh (Nat.le_refl _))
theorem BM {l:Expr} {tl:TE} (hl:PE X l tl):PI X tg l (FG X.K tl):=by
 intro pins s σ H R I h;refine bH (hl pins s σ H _ I h) fun v s1 ⟨x,H1,I1,r1,q1⟩=>?_
 obtain ⟨a,e,⟨xs,hq⟩,q⟩:=q1;subst e
 cases r1;obtain ⟨its,rv,p,hz⟩:=I1.tuple hq;refine wpAny_pyIter_tuple (show s1.heap.IsTuple a its.toArray from p) ?_
 refine ⟨s1.heap.objs.size,[s1.heap.objs.size],_,_,H1,rfl,I1.kept (t':=s1.toks) fun b o e=>Heap.get?_push_of_some _ e,nu a _,⟨_,Heap.get?_push_size _ rfl,rfl,rfl⟩,fun b hb=>?_,q⟩
 have e:b=s1.heap.objs.size:=by simpa using hb
 subst e;exact I1.fpOk (Nat.le_refl _) (I1.hok.fresh (Nat.le_refl _))
theorem lT {pins:List (Addr×Obj)} {σ:St} {H:Hp} {s:Shared} {R:It->Hp->Prop} {E:Value->Shared->Prop} {lo hi:Int} {t u v:Tok} {tk:Nat} (I:Inv X pins σ H s) (h1:-(2 ^ 62)<=lo) (h2:lo<2 ^ 62) (h3:-(2 ^ 62)<=hi) (h4:hi<2 ^ 62)
  (q:R (Dq lo (hi-lo).toNat) H):wpAny (model X.prog X.w) X.A (pyIter (.ref s.heap.objs.size)) (Ll X pins σ tg R) E { s with heap:=s.heap.push { cls:=.type "range",data:=.fields #[.int lo t,.int hi u,.int 1 v] },toks:=tk }:=by
 refine wpAny_pyIter_range (IsRange.new ..) (small_one h1 h2 h3 h4) ?_
 have I1:Inv X pins σ H { s with heap:=s.heap.push { cls:=.type "range",data:=.fields #[.int lo t,.int hi u,.int 1 v] },toks:=tk }:=I.kept fun b o e=>Heap.get?_push_of_some _ e
 refine ⟨(s.heap.push { cls:=.type "range",data:=.fields #[.int lo t,.int hi u,.int 1 v] }).objs.size,[(s.heap.push { cls:=.type "range",data:=.fields #[.int lo t,.int hi u,.int 1 v] }).objs.size],_,_,H,rfl,
  I1.kept (t':=tk) fun b o e=>Heap.get?_push_of_some _ e,ny _ lo (hi-lo).toNat,?_,fun b hb=>?_,q⟩
 ·have e1:lo+((0:Nat):Int)*1=lo:=by simp
  have e2:(((hi-lo).toNat:Nat):Int)-((0:Nat):Int)=Builtin.Range.rangeSize lo hi 1:=by rw [rangeSize_one];split<;>omega
  show IsRangeIter _ _ (lo+((0:Nat):Int)*1) ((((hi-lo).toNat:Nat):Int)-((0:Nat):Int)) 1
  rw [e1,e2];exact Heap.get?_push_size _ rfl
 ·have e:b=(s.heap.push { cls:=.type "range",data:=.fields #[.int lo t,.int hi u,.int 1 v] }).objs.size:=by simpa using hb
  subst e;exact I1.fpOk (Nat.le_refl _) (I1.hok.fresh (Nat.le_refl _))
def zL (ta:TA):TI:=fun σ H R=>ta σ H fun vs H1=>∃j:Int,vs=[.int j]/\-(2 ^ 62)<=j/\j<2 ^ 62/\R (Dq 0 j.toNat) H1
def zK (ta:TA):TI:=fun σ H R=>ta σ H fun vs H1=>∃i j:Int,vs=[.int i,.int j]/\(-(2 ^ 62)<=i/\i<2 ^ 62/\-(2 ^ 62)<=j/\j<2 ^ 62)/\R (Dq i (j-i).toNat) H1
theorem rd {a:Expr} {ta:TA} {p pos:Pos} (hg:Gl X "range") (hm:X.mg "range"=none) (ha:PA X [a] ta) (hs:starEach [a] X.env=[(false,eval a X.env)]:=by rfl):PI X tg (.Call (.Name "range" p) [a] [] pos) (zL ta):=by
 intro pins s σ H R I h;refine Call_ (Aa I hg hm boot_range (PyProof.Rows.callWith_type1 (bH (ha pos pins s σ H _ I h) fun us s1 ⟨vs,H1,I1,r1,q1⟩=>?_) hs rfl))
 obtain ⟨j,e,q1,q2,q⟩:=q1;subst e
 cases r1 with
 | cons r rr=>
  cases rr;obtain ⟨t,rfl⟩:=r;exact call_range_1 (lT I1 (by omega) (by omega) q1 q2 (by simpa using q))
theorem qZ {a b:Expr} {ta:TA} {p pos:Pos} (hg:Gl X "range") (hm:X.mg "range"=none) (ha:PA X [a,b] ta) (hs:starEach [a,b] X.env=[(false,eval a X.env),(false,eval b X.env)]:=by rfl) (hs2:starEach [b] X.env=[(false,eval b X.env)]:=by rfl) :
  PI X tg (.Call (.Name "range" p) [a,b] [] pos) (zK ta):=by
 intro pins s σ H R I h;refine Call_ (Aa I hg hm boot_range (PyProof.Rows.callWith_type1 (bH (ha pos pins s σ H _ I h) fun us s1 ⟨vs,H1,I1,r1,q1⟩=>?_) (by rw [hs,hs2]) (by rw [hs2];rfl)))
 obtain ⟨i,j,e,⟨q1,q2,q3,q4⟩,q⟩:=q1;subst e
 cases r1 with
 | cons r rr=>
  cases rr with
  | cons r' rr=>
   cases rr;obtain ⟨t,rfl⟩:=r;obtain ⟨t',rfl⟩:=r'
   exact call_range_2 (lT I1 q1 q2 q3 q4 q)
def EJ (wi:TI) (g:TG) (tb:TS):TS:=fun D σ H=>wi σ H fun J H1=>∃W:Nat->Nat->St->Hp->Prop,(∃m,W 0 m σ H1)/\∀i m σ H,W i m σ H ->
 (J.stop i H/\D.nx σ H)\/(J.go i H/\∃N:St->Hp->Prop,(∀σ' H',N σ' H'->∃m',m'<m/\W (i+1) m' σ' H')/\∀x H',J.yld i H x H'->g x σ H' fun σ2 H2=>tb { D with nx:=N,ct:=N,bk:=D.nx } σ2 H2)
def DU (fp:List Addr) (h:Heap):List (Addr×Obj):=fp.filterMap fun b=>(h.get? b).map fun o=>(b,o)
theorem Hl {fp:List Addr} {h:Heap} {b:Addr} {o:Obj} (hb:b∈fp) (e:h.get? b=some o):(b,o)∈DU fp h:=List.mem_filterMap.mpr ⟨b,hb,by rw [e];rfl⟩
theorem rn {fp:List Addr} {h:Heap} {p:Addr×Obj} (hp:p∈DU fp h):p.1∈fp/\h.get? p.1=some p.2:=by
 obtain ⟨b,hb,e⟩:=List.mem_filterMap.mp hp
 cases q:h.get? b with
 | none=>rw [q] at e;cases e
 | some o=>
  rw [q] at e;have e':(b,o)=p:=Option.some.inj e
  subst e'
  exact ⟨hb,q⟩
theorem Inv.pinned {pins:List (Addr×Obj)} {σ:St} {H:Hp} {s:Shared} {fp:List Addr} (I:Inv X pins σ H s) (hf:∀b∈fp,m7 X pins H b) (ho:∀b∈fp,∃o,s.heap.get? b=some o/\∀v,o.data≠.cell v):Inv X (pins++DU fp s.heap) σ H s:=
 I.pins_of fun p hp=>(List.mem_append.mp hp).elim (fun z=>I.pin p (mem_append_right _ z)) fun z=>by
  obtain ⟨hb,e⟩:=rn z;obtain ⟨f0,f1,f2,_⟩:=hf p.1 hb;obtain ⟨o,e',d⟩:=ho p.1 hb;rw [e] at e';cases e'
  exact ⟨e,f0,f1,f2,d⟩
theorem Inv.unpinned {pins pl:List (Addr×Obj)} {σ:St} {H:Hp} {s:Shared} (I:Inv X (pins++pl) σ H s):Inv X pins σ H s:=I.pins_of fun p hp=>I.pin p (mem_append_right _ (mem_append_left _ hp))
theorem BK {iter:Expr} {body:List Stmt} {wi:TI} {g:TG} {tb:TS} {pos:Pos} (hp:PassesOwn (model X.prog X.w) X.A X.env X.xe) (hc:X.calm=true) (hi:PI X tg iter wi) (hg:PG X tg g) (hb:PSs X body tb)
  (hs:∀x,foldedSetIterable iter X.env x=pure x:=by intro _;rfl):PS X (.For tg iter body [] pos) (EJ wi g tb):=by
 intro pins s σ H D I h;refine wpAny_For (bH (hi pins s σ H _ I h) fun v s1 h1=>bH h1 fun itv s2 h2=>?_) hs
 obtain ⟨it,fp,tn,J,H2,e,I2,T,st2,f2,W,⟨m0,w0⟩,turn⟩:=h2;subst e;have stat:∀{H':Hp},(∀b∈fp,H' b=none)->∀b∈fp,m7 X pins H' b:=fun hn b hb=>⟨hn b hb,(f2 b hb).2⟩
 refine codeAny_forLoop_any (fun n s'=>∃i σ' H',Inv X pins σ' H' s'/\tn i s'.heap/\(∀b∈fp,H' b=none)/\W i n σ' H') ?_ m0 ⟨0,σ,H2,I2,st2,fun b hb=>(f2 b hb).1,w0⟩
 rintro n s3 ⟨i,σ3,H3,I3,st3,fr3,w3⟩
 rcases turn i n σ3 H3 w3 with ⟨stop,qn⟩ | ⟨go,N,hN,step⟩
 ·refine wpAny_passesOwn hp (bH (T.done X rfl rfl rfl hc i pins s3 σ3 H3 X.xe I3 (stat fr3) st3 stop) fun r s4 ⟨hr,I4⟩=>?_)
  subst hr;exact wpAny_execs_nil ⟨σ3,H3,I4,qn⟩
 ·refine wpAny_passesOwn hp (bH (T.item X rfl rfl rfl hc i pins s3 σ3 H3 X.xe I3 (stat fr3) st3 go) fun r s4 ⟨u,hr,h4⟩=>?_)
  subst hr;refine wpAny_passesOwn hp (bH h4 fun _ s5 ⟨x,H5,I5,r5,y5,st5,fr5⟩=>?_)
  have I5':=I5.pinned (stat fr5) (T.obj _ _ st5)
  refine wpAny_passesOwn hp (bH (hg _ s5 σ3 H5 x u _ I5' r5 (step x H5 y5)) fun _ s6 ⟨σ6,H6,I6,q6⟩=>?_)
  refine wpAny_passesOwn hp (bH (hb _ s6 σ6 H6 _ I6 q6) fun f s7 q7=>?_)
  have again:∀{σ7:St} {H7:Hp},Inv X (pins++DU fp s5.heap) σ7 H7 s7->N σ7 H7->∃m,m<n/\∃i σ' H',Inv X pins σ' H' s7/\tn i s7.heap/\(∀b∈fp,H' b=none)/\W i m σ' H':=fun {σ7 H7} I7 n7=>by
   obtain ⟨m',hm,w7⟩:=hN σ7 H7 n7;refine ⟨m',hm,i+1,σ7,H7,I7.unpinned,T.keep _ _ _ st5 fun b hb o e=>(I7.pin (b,o) (mem_append_right _ (mem_append_right _ (Hl hb e)))).1,fun b hb=>?_,w7⟩
   obtain ⟨o,e,d⟩:=T.obj _ _ st5 b hb;exact (I7.pin (b,o) (mem_append_right _ (mem_append_right _ (Hl hb e)))).2.1
  cases f with
  | next=>obtain ⟨σ7,H7,I7,n7⟩:=q7;exact again I7 n7
  | cont=>obtain ⟨σ7,H7,I7,n7⟩:=q7;exact again I7 n7
  | brk=>obtain ⟨σ7,H7,I7,q7⟩:=q7;exact ⟨σ7,H7,I7.unpinned,q7⟩
  | ret v=>obtain ⟨x7,σ7,H7,I7,r7,q7⟩:=q7;exact ⟨x7,σ7,H7,I7.unpinned,r7,q7⟩
end
abbrev R2:=V->V->Hp->VK->Prop
def OpR (X:Cx) (f:Value->Value->Sem Value) (r:R2):Prop:=
 ∀(pins:List (Addr×Obj)) (s:Shared) (σ:St) (H:Hp) (x y:V) (v u:Value) (Q:VK),Inv X pins σ H s->RelV x v->RelV y u->r x y H Q ->
  wpAny (model X.prog X.w) X.A (f v u) (EP X pins σ Q) X.xe s
def Li (X:Cx) (f:Value->Sem Value) (r:V->Hp->VK->Prop):Prop:=
 ∀(pins:List (Addr×Obj)) (s:Shared) (σ:St) (H:Hp) (x:V) (v:Value) (Q:VK),Inv X pins σ H s->RelV x v->r x H Q ->
  wpAny (model X.prog X.w) X.A (f v) (EP X pins σ Q) X.xe s
def CallR (X:Cx) (f:Value) (r:List V->Hp->VK->Prop):Prop:=
 ∀(pins:List (Addr×Obj)) (s:Shared) (σ:St) (H:Hp) (xs:List V) (us:List Value) (Q:VK),Inv X pins σ H s->Vals xs us->r xs H Q ->
  wpAny (model X.prog X.w) X.A (call f us) (EP X pins σ Q) X.xe s
def Kp (X:Cx) (r:V->Hp->(Bool->Hp->Prop)->Prop):Prop:=
 ∀(pins:List (Addr×Obj)) (s:Shared) (σ:St) (H:Hp) (x:V) (v:Value) (Q:Bool->Hp->Prop),Inv X pins σ H s->RelV x v->r x H Q ->
  wpAny (model X.prog X.w) X.A (truthy v) (TP X pins σ Q) X.xe s
def zt (r:R2) (ta tb:TE):TE:=fun σ H Q=>ta σ H fun x H1=>tb σ H1 fun y H2=>r x y H2 Q
def KE (r:V->Hp->VK->Prop) (ta:TE):TE:=fun σ H Q=>ta σ H fun x H1=>r x H1 Q
def rI (C:Int->Int->Prop) (g:Int->Int->V):R2:=fun x y H Q=>∃i j,x=.int i/\y=.int j/\C i j/\Q (g i j) H
def pK (g:Int->Int->V):R2:=fun x y H Q=>∃i j,x=.int i/\y=.int j/\Q (g i j) H
section
variable {X:Cx} {a b c:Expr} {ta tb tc:TE} {pos:Pos}
theorem Dh (ha:PE X a ta) (hb:PE X b tb) {pins:List (Addr×Obj)} {s:Shared} {σ:St} {H:Hp} {R:V->V->Hp->Prop} (I:Inv X pins σ H s)
  (h:ta σ H fun x H1=>tb σ H1 fun y H2=>R x y H2) {Q:Value->Shared->Prop} {f:Value->Value->Sem Value}
  (hf:∀v u s2 x y H2,Inv X pins σ H2 s2->RelV x v->RelV y u->R x y H2->wpAny (model X.prog X.w) X.A (f v u) Q X.xe s2) :
  wpAny (model X.prog X.w) X.A (eval a X.env) (fun v s₁=>wpAny (model X.prog X.w) X.A (eval b X.env) (fun u s₂=>wpAny (model X.prog X.w) X.A (f v u) Q X.xe s₂) X.xe s₁) X.xe s:=by
 refine bH (ha pins s σ H _ I h) fun v s1 ⟨x,H1,I1,r1,q1⟩=>?_
 refine bH (hb pins s1 σ H1 _ I1 q1) fun u s2 ⟨y,H2,I2,r2,q2⟩=>?_
 exact hf v u s2 x y H2 I2 r1 r2 q2
theorem fR {op:Operator} {r:R2} (ho:OpR X (binaryOp op) r) (ha:PE X a ta) (hb:PE X b tb):PE X (.BinOp a op b pos) (zt r ta tb):=by
 intro pins s σ H Q I h;exact wpAny_BinOp (Dh ha hb I h fun v u s2 x y H2 I2 rx ry q=>ho pins s2 σ H2 x y v u Q I2 rx ry q)
theorem zG {op:UnaryOp} {r:V->Hp->VK->Prop} (ho:Li X (unaryOp op) r) (ha:PE X a ta):PE X (.UnaryOp op a pos) (KE r ta):=by
 intro pins s σ H Q I h;exact UnaryOp_ (bH (ha pins s σ H _ I h) fun v s1 ⟨x,H1,I1,r1,q1⟩=>ho pins s1 σ H1 x v Q I1 r1 q1)
theorem HI {f:Value->Value->Sem Value} {C:Int->Int->Prop} {g:Int->Int->Int}
  (rule:∀(i j:Int) (t u:Tok) (s:Shared) (Q:Value->Shared->Prop) (E:Value->Shared->Prop),C i j->Q (.int (g i j) s.toks) { s with toks:=s.toks+1 }->wpAny (model X.prog X.w) X.A (f (.int i t) (.int j u)) Q E s) :
  OpR X f (rI C fun i j=>.int (g i j)):=by
 intro pins s σ H x y v u Q I rx ry h;obtain ⟨i,j,rfl,rfl,hc,q⟩:=h;obtain ⟨t,rfl⟩:=rx;obtain ⟨t',rfl⟩:=ry;exact rule i j t t' s _ _ hc ⟨.int (g i j),H,I.tok _,⟨_,rfl⟩,q⟩
theorem Fp {f:Value->Value->Sem Value} {g:Int->Int->Int}
  (rule:∀(i j:Int) (t u:Tok) (s:Shared) (Q:Value->Shared->Prop) (E:Value->Shared->Prop),Q (.int (g i j) s.toks) { s with toks:=s.toks+1 }->wpAny (model X.prog X.w) X.A (f (.int i t) (.int j u)) Q E s) :
  OpR X f (pK fun i j=>.int (g i j)):=by
 intro pins s σ H x y v u Q I rx ry h;obtain ⟨i,j,rfl,rfl,q⟩:=h;obtain ⟨t,rfl⟩:=rx;obtain ⟨t',rfl⟩:=ry;exact rule i j t t' s _ _ ⟨.int (g i j),H,I.tok _,⟨_,rfl⟩,q⟩
theorem x4 {f:Value->Value->Sem Value} {g:Int->Int->Bool}
  (rule:∀(i j:Int) (t u:Tok) (s:Shared) (Q:Value->Shared->Prop) (E:Value->Shared->Prop),Q (.bool (g i j)) s->wpAny (model X.prog X.w) X.A (f (.int i t) (.int j u)) Q E s) :
  OpR X f (pK fun i j=>.bl (g i j)):=by
 intro pins s σ H x y v u Q I rx ry h;obtain ⟨i,j,rfl,rfl,q⟩:=h;obtain ⟨t,rfl⟩:=rx;obtain ⟨t',rfl⟩:=ry;exact rule i j t t' s _ _ ⟨.bl (g i j),H,I,rfl,q⟩
def Kz (i j:Int):Prop:=0<j/\j<1073741824
def Ky (i j:Int):Prop:=0<=j/\j<=1000000/\i.natAbs<2 ^ 64
def CMul (i j:Int):Prop:=(-(2 ^ 64)<i/\i<2 ^ 64)\/(-(2 ^ 64)<j/\j<2 ^ 64)
theorem CMul.ok {i j:Int} (h:CMul i j):IntMulOk i j:=by
 rcases h with ⟨h1,h2⟩ | ⟨h1,h2⟩
 ·exact .of_left (intBits_le_64 h1 h2)
 ·exact .of_right (intBits_le_64 h1 h2)
theorem B8:OpR X (binaryOp .Add) (pK fun i j=>.int (i+j)):=Fp fun _ _ _ _ _ _ _ q=>add_int q
theorem BZ:OpR X (binaryOp .Sub) (pK fun i j=>.int (i-j)):=Fp fun _ _ _ _ _ _ _ q=>sub_int q
theorem B2:OpR X (binaryOp .Mult) (rI CMul fun i j=>.int (i*j)):=HI fun _ _ _ _ _ _ _ hc q=>mul_int q hc.ok
theorem xZ:OpR X (binaryOp .FloorDiv) (rI Kz fun i j=>.int (i / j)):=HI fun i j _ _ _ _ _ hc q=>by
 have h1:(0:Int)<j:=hc.1
 have h2:j<1073741824:=hc.2
 exact floordiv_int (by omega) (by rw [Int.fdiv_eq_ediv_of_nonneg i (by omega)];exact q) (.inl (PyProof.noPylong_small (by omega)))
theorem B3:OpR X (binaryOp .Mod) (rI (fun _ j=>0<j) fun i j=>.int (i % j)):=HI fun i j _ _ _ _ _ hc q=>by
 have h1:(0:Int)<j:=hc
 exact mod_int' (by omega) (by rw [Int.fmod_eq_emod_of_nonneg i (by omega)];exact q)
theorem B0:OpR X (binaryOp .Pow) (rI Ky fun i j=>.int (i ^ j.toNat)):=HI fun _ _ _ _ _ _ _ hc q=>pow_int_small hc.1 hc.2.1 hc.2.2 q
end
def scal:V->V->Bool
 | .non,.non=>true | .non,.int _=>true | .int _,.non=>true | .non,.bl _=>true | .bl _,.non=>true | .non,.str _=>true | .str _,.non=>true
 | .int _,.int _=>true | .bl _,.bl _=>true | .str _,.str _=>true | .byt _,.byt _=>true
 | .int _,.str _=>true | .str _,.int _=>true | .bl _,.str _=>true | .str _,.bl _=>true
 | _,_=>false
section
variable {X:Cx} {a b c:Expr} {ta tb tc:TE} {pos:Pos}
theorem GM {pins:List (Addr×Obj)} {σ:St} {H:Hp} {s:Shared} {Q:VK} {k k':Bool} (I:Inv X pins σ H s) (q:Q (.bl k) H) (e:k=k'):EP X pins σ Q (.bool k') s:=by
 subst e;exact ⟨.bl k,H,I,rfl,q⟩
theorem op_lt:OpR X (compareOp .Lt) (pK fun i j=>.bl (decide (i<j))):=x4 fun _ _ _ _ _ _ _ q=>lt_int q
theorem Fm:OpR X (compareOp .LtE) (pK fun i j=>.bl (decide (i<=j))):=x4 fun _ _ _ _ _ _ _ q=>le_int q
theorem Fo:OpR X (compareOp .Gt) (pK fun i j=>.bl (decide (j<i))):=x4 fun _ _ _ _ _ _ _ q=>gt_int q
theorem op_ge:OpR X (compareOp .GtE) (pK fun i j=>.bl (decide (j<=i))):=x4 fun _ _ _ _ _ _ _ q=>ge_int q
theorem rh:OpR X (compareOp .Lt) (fun x y H Q=>∃i j,x=.str i/\y=.str j/\Q (.bl (decide (i.cps.toList<j.cps.toList))) H):=by
 intro pins s σ H x y v u Q I rx ry h;obtain ⟨i,j,rfl,rfl,q⟩:=h;obtain ⟨t,rfl⟩:=rx;obtain ⟨t',rfl⟩:=ry;exact lt_str (GM I q rfl)
theorem B5:OpR X (compareOp .Is) (fun x y H Q=>y=.non/\Q (.bl (decide (x=.non))) H):=by
 intro pins s σ H x y v u Q I rx ry h;obtain ⟨rfl,q⟩:=h
 cases ry;refine is_none_gen (GM I q ?_)
 cases x<;>first
  | (cases rx;rfl)
  | (obtain ⟨t,rfl⟩:=rx;rfl)
theorem xY:OpR X (compareOp .IsNot) (fun x y H Q=>y=.non/\Q (.bl (!decide (x=.non))) H):=by
 intro pins s σ H x y v u Q I rx ry h;obtain ⟨rfl,q⟩:=h
 cases ry;refine isnot_none_gen (GM I q ?_)
 cases x<;>first
  | (cases rx;rfl)
  | (obtain ⟨t,rfl⟩:=rx;rfl)
theorem OpR.or {f:Value->Value->Sem Value} {r r':R2} (h:OpR X f r) (h':OpR X f r'):OpR X f (fun x y H Q=>r x y H Q\/r' x y H Q):=by
 intro pins s σ H x y v u Q I rx ry q;rcases q with q | q
 ·exact h pins s σ H x y v u Q I rx ry q
 ·exact h' pins s σ H x y v u Q I rx ry q
theorem xW {op:CmpOp} {r:R2} (ho:OpR X (compareOp op) r) (ha:PE X a ta) (hb:PE X b tb) (hm:behindInMarks op b=false):PE X (.Compare a [op] [b] pos) (zt r ta tb):=by
 intro pins s σ H Q I h;exact wpAny_Compare1 (Dh ha hb I h fun v u s2 x y H2 I2 rx ry q=>ho pins s2 σ H2 x y v u Q I2 rx ry q) hm
def t5 (t:TE):TT:=fun σ H Q=>t σ H fun x H'=>∃k,x=.bl k/\Q k H'
theorem xQ {op:CmpOp} {r:R2} (ho:OpR X (compareOp op) r) (ha:PE X a ta) (hb:PE X b tb) (hm:behindInMarks op b=false):PT X (.Compare a [op] [b] pos) (t5 (zt r ta tb)):=by
 intro pins s σ H Q I h;refine wpAny_isTrue_Compare1 (bH (ha pins s σ H _ I h) fun v s1 ⟨x,H1,I1,r1,q1⟩=>bH (hb pins s1 σ H1 _ I1 q1) fun u s2 ⟨y,H2,I2,r2,q2⟩=>
  bH (ho pins s2 σ H2 x y v u _ I2 r1 r2 q2) fun c s3 ⟨z,H3,I3,r3,k,e,q3⟩=>?_) hm
 subst e
 cases r3;exact wpAny_truthy_bool ⟨H3,I3,q3⟩
def IC (r r':R2) (ta tb tc:TE):TE:=fun σ H Q=>ta σ H fun x H1=>tb σ H1 fun y H2=>r x y H2 fun z H3=>∃k,z=.bl k /\
 (if k=true then tc σ H3 fun w' H4=>r' y w' H4 Q else Q (.bl false) H3)
theorem uU {op op':CmpOp} {r r':R2} (ho:OpR X (compareOp op) r) (ho':OpR X (compareOp op') r') (ha:PE X a ta) (hb:PE X b tb) (hc:PE X c tc)
  (hm:lastMarks [op,op'] [b,c]=false:=by with_unfolding_all rfl):PE X (.Compare a [op,op'] [b,c] pos) (IC r r' ta tb tc):=by
 intro pins s σ H Q I h;refine Compare_chain (bH (ha pins s σ H _ I h) fun v s1 ⟨x,H1,I1,r1,q1⟩=>chain_link (bH (hb pins s1 σ H1 _ I1 q1) fun u s2 ⟨y,H2,I2,r2,q2⟩=>
  bH (ho pins s2 σ H2 x y v u _ I2 r1 r2 q2) fun d s3 ⟨z,H3,I3,r3,k,e,q3⟩=>?_)) hm
 subst e
 cases r3;refine wpAny_truthy_bool ?_
 cases k with
 | false=>exact ite_ff ⟨.bl false,H3,I3,rfl,q3⟩
 | true=>exact ite_tt (chain_last (bH (hc pins s3 σ H3 _ I3 q3) fun w' s4 ⟨z',H4,I4,r4,q4⟩=>ho' pins s4 σ H4 y z' u w' Q I4 r2 r4 q4))
theorem uK {op op':CmpOp} {r r':R2} (ho:OpR X (compareOp op) r) (ho':OpR X (compareOp op') r') (ha:PE X a ta) (hb:PE X b tb) (hc:PE X c tc)
  (hm:lastMarks [op,op'] [b,c]=false:=by with_unfolding_all rfl):PT X (.Compare a [op,op'] [b,c] pos) (t5 (IC r r' ta tb tc)):=by
 intro pins s σ H Q I h;refine isTrue_chain (bH (ha pins s σ H _ I h) fun v s1 ⟨x,H1,I1,r1,q1⟩=>test_link (bH (hb pins s1 σ H1 _ I1 q1) fun u s2 ⟨y,H2,I2,r2,q2⟩=>
  bH (ho pins s2 σ H2 x y v u _ I2 r1 r2 q2) fun d s3 ⟨z,H3,I3,r3,k,e,q3⟩=>?_)) hm
 subst e
 cases r3;refine wpAny_truthy_bool ?_
 cases k with
 | false=>
  obtain ⟨k',e',q'⟩:=q3
  cases e'
  exact ite_ff ⟨H3,I3,q'⟩
 | true=>
  refine ite_tt (test_last (bH (hc pins s3 σ H3 _ I3 q3) fun w' s4 ⟨z',H4,I4,r4,q4⟩=>bH (ho' pins s4 σ H4 y z' u w' _ I4 r2 r4 q4) fun d' s5 ⟨z2,H5,I5,r5,k2,e2,q5⟩=>?_))
  subst e2
  cases r5;exact wpAny_truthy_bool ⟨H5,I5,q5⟩
def Dl (K:Fg) (x:V) (H:Hp) (k:Bool):Prop:=
 match x with
 | .non=>k=false
 | .bl b=>k=b
 | .int i=>k=(i != 0)
 | .str y=>y.length<=sizeLine/\k=((y.length:Int) != 0)
 | .byt y=>y.size<=sizeLine/\k=((y.size:Int) != 0)
 | .ref p=>(∃xs,SqL K H p xs/\k=!xs.isEmpty)\/(∃xs,SqT K H p xs/\k=!xs.isEmpty)\/∃kvs,H p=some (.dK kvs)/\k=!kvs.isEmpty
 | _=>False
theorem oh {κ:Type} {kvs:List (κ×V)} {vs:List (κ×Value)} (r:KV kvs vs):(!vs.isEmpty)=!kvs.isEmpty:=by
 cases r<;>rfl
theorem iI {xs:List V} {its:List Value} (r:Vals xs its):(!its.toArray.isEmpty)=!xs.isEmpty:=by
 cases r<;>simp
theorem Ac:(sizeLine:Nat)<2 ^ 63:=by rw [sizeLine_eq];decide
theorem AJ:Kp X (fun x H Q=>∃k,Dl X.K x H k/\Q k H):=by
 intro pins s σ H x v Q I rx h;obtain ⟨k,e,q⟩:=h;have hl:=Ac
 have hs:sizeLine=16777216:=sizeLine_eq
 cases x with
 | non=>
  cases rx;have e':k=false:=e
  subst e'
  exact truthy_none ⟨H,I,q⟩
 | bl b=>
  cases rx;have e':k=b:=e
  subst e'
  exact wpAny_truthy_bool ⟨H,I,q⟩
 | int i=>
  obtain ⟨t,rfl⟩:=rx;have e':k=(i != 0):=e
  subst e'
  exact PySem.P.truthy_int ⟨H,I,q⟩
 | str y=>
  obtain ⟨t,rfl⟩:=rx;obtain ⟨hy,e'⟩:y.length<=sizeLine/\k=((y.length:Int) != 0):=e
  subst e'
  exact PySem.P.truthy_str (by omega) ⟨H,I.tok _,q⟩
 | byt y=>
  obtain ⟨t,rfl⟩:=rx;obtain ⟨hy,e'⟩:y.size<=sizeLine/\k=((y.size:Int) != 0):=e
  subst e'
  exact PySem.W.truthy_bytes (by omega) ⟨H,I.tok _,q⟩
 | ref p=>
  cases rx;have e':(∃xs,SqL X.K H p xs/\k=!xs.isEmpty)\/(∃xs,SqT X.K H p xs/\k=!xs.isEmpty)\/∃kvs,H p=some (.dK kvs)/\k=!kvs.isEmpty:=e
  rcases e' with ⟨xs,hx,e'⟩ | ⟨xs,hx,e'⟩ | ⟨kvs,hx,e'⟩
  ·subst e'
   obtain ⟨its,r,pl,hz⟩:=I.list hx;have hlen:=r.length
   exact wpAny_truthy_list pl.isList (by simp only [size_toArray];omega) ⟨H,I.tok _,by rw [iI r];exact q⟩
  ·subst e'
   obtain ⟨its,r,pl,hz⟩:=I.tuple hx;have hlen:=r.length
   exact truthy_tuple pl (by simp only [size_toArray];omega) ⟨H,I.tok _,by rw [iI r];exact q⟩
  ·subst e'
   obtain ⟨hz,hS,vs,r,m⟩:kvs.length<=sizeLine/\(p==sysModules)=false/\∃vs,KV kvs vs/\s.heap.DictOf (Ik X.prog X.w) p vs:=I.hok p _ hx
   have hlen:kvs.length=vs.length:=Paired.length r
   exact wpAny_truthy_dict hS m (by omega) ⟨H,I.tok _,by rw [oh r];exact q⟩
 | _=>exact (show False from e).elim
theorem lU (ha:PE X a ta) (he:∀whole,isTrue a X.env whole=(do let v <-whole;standAt a.pos;holding [v] (truthy v))) :
  PT X a (fun σ H Q=>ta σ H fun x H'=>∃k,Dl X.K x H' k/\Q k H'):=by
 intro pins s σ H Q I h;exact isTrue_plain (bH (ha pins s σ H _ I h) fun v s1 ⟨x,H1,I1,r1,q1⟩=>AJ pins s1 σ H1 x v Q I1 r1 q1) (he _)
theorem vals1 {x:V} {us:List Value} (r:Vals [x] us):∃u,us=[u]/\RelV x u:=by
 cases r with
 | cons r1 r2=>cases r2;exact ⟨_,rfl,r1⟩
theorem sx:CallR X (.type "int") (fun xs H Q=>(∃i,xs=[.int i]/\Q (.int i) H)\/∃k,xs=[.bl k]/\Q (.int (if k then 1 else 0)) H):=by
 intro pins s σ H xs us Q I r h;rcases h with ⟨i,rfl,q⟩ | ⟨k,rfl,q⟩
 ·obtain ⟨u,rfl,t,rfl⟩:=vals1 r
  exact call_int_int ⟨.int i,H,I,⟨_,rfl⟩,q⟩
 ·obtain ⟨u,rfl,r1⟩:=vals1 r
  cases r1;exact call_int_bool ⟨.int (if k then 1 else 0),H,I.tok _,⟨_,rfl⟩,q⟩
end
structure ObjM (h:Heap) (x dx C:Addr) (mA:Str->Option Value):Prop where
 obj:h.get? x=some (PySem.W.instObj C dx)
 ns:h.Ns1 dx mA
 ne:dx≠x
theorem rH {h:Heap} {dx:Addr} {mA:Str->Option Value} (n:h.Ns1 dx mA):∃od,h.get? dx=some od/\∀name,PySem.W.lookIn name od=some (mA name):=by
 obtain ⟨o,es,ep,ho,hd,hk,_,hm⟩:=n;refine ⟨o,ho,fun name=>?_⟩
 have e:=hm name
 unfold nsFind findBy at e;rw [<-Array.find?_toList] at e;unfold PySem.W.lookIn;rw [hd];dsimp only;split
 ·rename_i y q
  rw [q] at e;exact congrArg some e
 ·rename_i q
  rw [q] at e;have a:es.toList.any (·.refKey)=false:=by
   rw [List.any_eq_false];intro y hy;obtain ⟨z,t,hkey⟩:=hk y (Array.mem_toList_iff.mp hy);simp [DictEntry.refKey,hkey]
  have a':¬es.toList.any (·.refKey)=true:=by rw [a];exact Bool.false_ne_true
  rw [if_neg a'];exact congrArg some e
theorem ObjM.look {h:Heap} {x dx C:Addr} {mA:Str->Option Value} (I:ObjM h x dx C mA):∃od,PySem.W.InstAt h x (PySem.W.instObj C dx) C (some od)/\∀name,PySem.W.lookIn name od=some (mA name):=
 let ⟨od,ho,hl⟩:=rH I.ns
 ⟨od,⟨I.obj,rfl,rfl,ho⟩,hl⟩
section
variable {P:Program} {w:World} {H H':Hp} {h h':Heap} {a C dx:Addr} {fs fs':List (Str×V)}
theorem yj (hok:HOk P w H h) (e:H a=some (.ins C dx fs)):∃mA,ObjM h a dx C mA/\(∀f,Do (fs.lookup f) (mA f))/\PySem.Within mA (fs.map (·.1))/\fs.length<=1000/\H dx=some (.own a):=by
 obtain ⟨d,z,ne,ob,mA,n,r,q⟩:=(show ObjOk P w H h a (.ins C dx fs) from hok a _ e);exact ⟨mA,⟨ob,n,ne⟩,r,q,z,d⟩
end
structure Cls (K:Fg) (C:Addr):Prop where
 pg:PySem.W.plainGet K C Str.empty=true
 hd:PySem.W.hasDictIn K C=true
 po:PySem.W.plainOver K C=true
 sa:PySem.W.findIn K (.ref C) "__setattr__"=some (some (.builtin "object.__setattr__"))
theorem Cls.get {K:Fg} {C:Addr} (c:Cls K C) (f:Str):PySem.W.plainGet K C f=true:=c.pg
structure Con (K:Fg) (C:Addr) (f:Str) (v:V) (u:Value):Prop where
 at_:PySem.W.findIn K (.ref C) f=some (some u)
 rel:RelV v u
 get:PySem.W.specialIn K u "__get__"=some none
 cp:PySem.W.copiedNames.contains f=false
structure LM (K:Fg) (C:Addr) (m:Str) (f:Addr):Prop where
 at_:PySem.W.findIn K (.ref C) m=some (some (.ref f))
 fn:PySem.W.isFn K (.ref f)=true
 kp:PySem.W.keepIn K (.ref f)=true
section
variable {X:Cx} {pins:List (Addr×Obj)} {σ:St} {H:Hp} {s:Shared} {A:Around} {E:Value->Shared->Prop} {Q:Value->Shared->Prop} {c:Value} {b:Bool}
inductive hU (K:Fg) (H:Hp):V->Value->Prop where
 | non:hU K H .non (.type "NoneType")
 | bl (x:Bool):hU K H (.bl x) (.type "bool")
 | int (i:Int):hU K H (.int i) (.type "int")
 | str (x:Str):hU K H (.str x) (.type "str")
 | flt (x:UInt64):hU K H (.flt x) (.type "float")
 | lst {a:Addr} {xs:List V} (e:H a=some (.lst xs)):hU K H (.ref a) (.type "list")
 | frz {a:Addr} {o:Obj} {xs:List V} (e:H a=some (.frz o (.lst xs))):hU K H (.ref a) (.type "list")
 | tup {a:Addr} {xs:List V} (e:H a=some (.tup xs)):hU K H (.ref a) (.type "tuple")
 | dK {a:Addr} {kvs:List (kW×V)} (e:H a=some (.dK kvs)):hU K H (.ref a) (.type "dict")
 | dT {a:Addr} {kvs:List (List kW×V)} (e:H a=some (.dT kvs)):hU K H (.ref a) (.type "dict")
 | ins {a C dx:Addr} {fs:List (Str×V)} (e:H a=some (.ins C dx fs)) (cl:Cls K C) (ha:PySem.W.findIn K (.ref C) "__class__"=some (some (.builtin "object.__class__")))
   (hn:PySem.W.specialIn K (.builtin "object.__class__") "__get__"=some (some (.builtin "getset_descriptor.__get__"))) (htk:PySem.W.takesIn K (.builtin "object.__class__")=some true)
   (hm:PySem.W.mroIn K C (.type "object")=some true):hU K H (.ref a) (.ref C)
theorem Ak {x:V} {u t:Value} (I:Inv X pins σ H s) (rx:RelV x u) (ty:hU X.K H x t) (e:PySem.W.kitOne X.K t c=some b) (h:∀tk,Q (.bool b) { s with toks:=tk }) :
  wpAny (model X.prog X.w) A (call (.builtin "isinstance") [u,c]) Q E s:=by
 cases ty with
 | non=>cases (show u=Value.none from rx);exact PySem.W.kia_one PySem.W.kitx_none I.kIn True.intro e nofun h
 | bl y=>cases (show u=Value.bool y from rx);exact PySem.W.kia_one PySem.W.kitx_bool I.kIn True.intro e nofun h
 | int i=>obtain ⟨t,q⟩:=(show ∃t,u=Value.int i t from rx);cases q;exact PySem.W.kia_one PySem.W.kitx_int I.kIn True.intro e nofun h
 | str y=>obtain ⟨t,q⟩:=(show ∃t,u=Value.str y t from rx);cases q;exact PySem.W.kia_one PySem.W.kitx_str I.kIn True.intro e nofun h
 | flt y=>obtain ⟨t,q⟩:=(show ∃t,u=Value.float y t from rx);cases q;exact PySem.W.kia_one PySem.W.kitx_float I.kIn True.intro e nofun h
 | @lst a xs ea=>
  cases (show u=Value.ref a from rx)
  obtain ⟨_,_,n,_,h1⟩:=(show ObjOk X.prog X.w H s.heap a (.lst xs) from I.hok a _ ea);exact PySem.W.kia_one PySem.W.kitx_list I.kIn ⟨_,h1,rfl⟩ e nofun h
 | @frz a ob xs ea=>
  cases (show u=Value.ref a from rx)
  obtain ⟨_,_,_,n,_,h1⟩:=(show ObjOk X.prog X.w H s.heap a (.frz ob (.lst xs)) from I.hok a _ ea);exact PySem.W.kia_one PySem.W.kitx_list I.kIn ⟨_,h1,rfl⟩ e nofun h
 | @tup a xs ea=>
  cases (show u=Value.ref a from rx)
  obtain ⟨_,_,_,p⟩:=(show ObjOk X.prog X.w H s.heap a (.tup xs) from I.hok a _ ea);obtain ⟨o,h1,h2,_⟩:=p;exact PySem.W.kia_one PySem.W.kitx_tuple I.kIn ⟨o,h1,h2⟩ e nofun h
 | @dK a kvs ea=>
  cases (show u=Value.ref a from rx)
  obtain ⟨_,_,vs,_,p⟩:=(show ObjOk X.prog X.w H s.heap a (.dK kvs) from I.hok a _ ea);obtain ⟨o,es,ep,h1,h2,_⟩:=p;exact PySem.W.kia_one PySem.W.kitx_dict I.kIn ⟨o,h1,h2.1⟩ e nofun h
 | @dT a kvs ea=>
  cases (show u=Value.ref a from rx)
  obtain ⟨_,_,xs,_,o,es,ep,h1,h2,_⟩:=(show ObjOk X.prog X.w H s.heap a (.dT kvs) from I.hok a _ ea);exact PySem.W.kia_one PySem.W.kitx_dict I.kIn ⟨o,h1,h2.1⟩ e nofun h
 | @ins a C dx fs ea cl ha hn htk hm=>
  cases (show u=Value.ref a from rx)
  obtain ⟨mA,O,_⟩:=yj I.hok ea;obtain ⟨od,J,_⟩:=O.look;exact PySem.W.kia_one (PySem.W.kitx_own (cl.get _) cl.hd ha hn htk hm) I.kIn J e nofun h
end
structure Room (k:Nat) (A:Around):Prop where
 hd:A.handled=none
 dp:A.depth+3*k+5<recursionLimit
 un:A.units+16*k+200<cLine
 gd:A.guards=some []
theorem Room.mono {j k:Nat} {A:Around} (r:Room k A) (h:j<=k):Room j A:=⟨r.hd,by have:=r.dp;omega,by have:=r.un;omega,r.gd⟩
theorem Room.deeper {k:Nat} {A:Around} (r:Room (k+1) A) (env:Env):Room k (A.deeper env):=
 ⟨r.hd,by have:=r.dp;show A.depth+1+3*k+5<_;omega,by have:=r.un;show A.units+3+16*k+200<_;omega,r.gd⟩
theorem Room.depth {k:Nat} {A:Around} (r:Room k A):A.depth<recursionLimit:=by have:=r.dp;omega
theorem Room.units {k:Nat} {A:Around} (r:Room k A):A.units+64<cLine:=by have:=r.un;omega
def qK:TA:=fun _ H Q=>Q [] H
def ip (ta:TE) (tr:TA):TA:=fun σ H Q=>ta σ H fun x H1=>tr σ H1 fun xs H2=>Q (x::xs) H2
section
variable {X:Cx} {e:Expr} {es:List Expr} {te:TE} {t:TA} {pos:Pos}
theorem zb:PA X [] qK:=fun _ _ _ _ H Q I h=>Calls.spliced_nil ⟨[],H,I,.nil,h⟩
theorem sL (ha:PE X e te) (hr:PA X es t) (hs:starEach (e::es) X.env=(false,eval e X.env)::starEach es X.env:=by rfl):PA X (e::es) (ip te t):=by
 intro pos pins s σ H Q I h;rw [hs];show wpAny _ _ (spliced ((false,eval e X.env)::backTo pos (starEach es X.env))) _ _ s
 refine Calls.spliced_cons (bH (ha pins s σ H _ I h) fun u s1 ⟨x,H1,I1,r1,q1⟩=>?_)
 exact bH (hr pos pins s1 σ H1 _ I1 q1) fun us s2 ⟨xs,H2,I2,r2,q2⟩=>⟨x::xs,H2,I2,.cons r1 r2,q2⟩
def EF (t:TA):TE:=fun σ H Q=>t σ H fun xs H1=>xs.length<=sizeLine/\∀p,H1 p=none->Q (.ref p) (cg H1 p (.tup xs))
def AN (t:TA):TE:=fun σ H Q=>t σ H fun xs H1=>xs.length<=sizeLine/\∀p,H1 p=none->Q (.ref p) (cg H1 p (.lst xs))
theorem BR {x1} (h:PA X es t):PE X (.Tuple es x1 pos) (EF t):=by
 intro pins s σ H Q I hq;refine wpAny_Tuple_spliced (bH (h pos pins s σ H _ I hq) fun us s1 ⟨xs,H1,I1,r,z,q⟩=>⟨by rw [<-r.length];exact z,?_⟩)
 have hf:H1 s1.heap.objs.size=none:=I1.hok.fresh (Nat.le_refl _)
 refine ⟨.ref s1.heap.objs.size,cg H1 s1.heap.objs.size (.tup xs),I1.laid (t':=s1.toks) (fun b u e=>Heap.get?_push_of_some _ e) (Nat.le_refl _) ?_,rfl,q _ hf⟩
 exact ⟨z,us,r,⟨_,Heap.get?_push_size _ rfl,rfl,_,rfl⟩⟩
theorem Iz (h:PA X es t):PE X (.List es pos) (AN t):=by
 intro pins s σ H Q I hq;refine wpAny_List_spliced (bH (h pos pins s σ H _ I hq) fun us s1 ⟨xs,H1,I1,r,z,q⟩=>⟨by rw [<-r.length];exact z,?_⟩)
 have hf:H1 s1.heap.objs.size=none:=I1.hok.fresh (Nat.le_refl _)
 refine ⟨.ref s1.heap.objs.size,cg H1 s1.heap.objs.size (.lst xs),I1.laid (t':=s1.toks) (fun b u e=>Heap.get?_push_of_some _ e) (Nat.le_refl _) ?_,rfl,q _ hf⟩
 exact ⟨z,us,0,r,Heap.get?_push_size _ rfl⟩
end
abbrev Sp:=List V->Hp->VK->XK->Prop
abbrev qt:=List Env->Hp->Shared->XK->Value->Shared->Prop
structure sF (P:Program) (w:World) (K:Fg) (mg:Str->Option Value) (base:Heap) (A:Around) (outer:List Env) (s:Shared) (H:Hp):Prop where
 frames:A.frames=some outer
 mod:Mod K mg base
 bs:∀b o,base.get? b=some o->s.heap.get? b=some o/\H b=none
 bsz:base.objs.size<=s.heap.objs.size
 funs:s.heap.FunFrames base outer
 frf:∀b∈gw outer,H b=none
 hok:HOk P w H s.heap
 bare:AllBare s.gens
def CE (outer:List Env) (P:Program) (w:World) (H:Hp) (s:Shared) (Q:VK) (u:Value) (s':Shared):Prop:=
 ∃v H',s'.os=s.os/\AllBare s'.gens/\Un (gw outer) [] H H' s.heap s'.heap/\HOk P w H' s'.heap/\RelV v u/\Q v H'
def CR (CX:qt) (outer:List Env) (P:Program) (w:World) (H:Hp) (s:Shared) (Q:VK) (E:XK) (r:Result) (s':Shared):Prop:=
 match r with
 | .ok (.ret u)=>CE outer P w H s Q u s'
 | .ok _=>False
 | .error e=>CX outer H s E e s'
structure du (P:Program) (w:World) (K:Fg) (mg:Str->Option Value) (base:Heap) (CX:qt) (k:Nat) (f:Addr) (fd:FuncData) (ps:List Str) (sp:Sp):Prop where
 len:∀vs H Q E,sp vs H Q E->vs.length=ps.length
 run:∀(A:Around) (outer:List Env) (s:Shared) (H:Hp) (args:Args) (us:List Value) (vs:List V) (Q:VK) (E:XK),Room k A->sF P w K mg base A outer s H->BindsTo s fd args (ps.zip us)->Vals vs us->sp vs H Q E ->
  codeAny (model P w) A (.call (.ref f) args) (CR CX outer P w H s Q E) s
section
variable {X:Cx} {pins:List (Addr×Obj)} {σ:St} {H:Hp} {s s':Shared}
theorem Inv.env0 (I:Inv X pins σ H s):sF X.prog X.w X.K X.mg X.base X.A X.stack s H:=
 ⟨I.ok.frames,I.ok.mod,I.bs,Nat.le_trans I.ok.bsz I.sz,I.stack,I.stkFree,I.hok,I.bare⟩
theorem Inv.after {Q:VK} {u:Value} (I:Inv X pins σ H s) (h:CE X.stack X.prog X.w H s Q u s'):EP X pins σ Q u s':=by
 obtain ⟨v,H',os,bare,un,hok,r,q⟩:=h;obtain ⟨hh,g,d,t,os'⟩:=s'
 obtain rfl:os'=s.os:=os
 exact ⟨v,H',I.call (h':=hh) (g':=g) (d':=d) (t':=t) (ch:=[]) un hok bare (fun b z=>absurd z (by simp)),r,q⟩
end
def t9 (sp:Sp) (dvs:List V) (E:XK) (t:TA):TE:=fun σ H Q=>t σ H fun vs H1=>sp (vs++dvs) H1 Q E
def Binds (K:Fg) (fd:FuncData) (ps:List Str) (ds:List Value):Prop:=
 ∀(s:Shared) (us:List Value),K.In s.heap->(us++ds).length=ps.length->BindsTo s fd ⟨us,[]⟩ (ps.zip (us++ds))
theorem Binds.all {K:Fg} {fd:FuncData} {ps:List Str} (h:∀us:List Value,us.length=ps.length->bindArgs fd ⟨us,[]⟩=pure (ps.zip us)):Binds K fd ps []:=fun s us _ hl=>by
 rw [append_nil] at hl ⊢;exact .of_eq (h us hl)
def GL (CX:qt) (X:Cx) (E:XK):Prop:=∀(pins:List (Addr×Obj)) (σ:St) (H:Hp) (s:Shared) (e:Value) (s':Shared),Inv X pins σ H s->CX X.stack H s E e s'->X.xe e s'
section
variable {X:Cx} {CX:qt} {k:Nat} {f C:Addr} {fd:FuncData} {ps:List Str} {sp:Sp} {dvs:List V} {ds:List Value} {E:XK} {x m:Str} {p pos apos:Pos} {e o:Expr} {es:List Expr} {ta:TE} {t:TA}
theorem A8 {pins:List (Addr×Obj)} {σ:St} {H:Hp} {s:Shared} {Q:VK} {us:List Value} {vs:List V} (F:du X.prog X.w X.K X.mg X.base CX k f fd ps sp) (hr:Room k X.A) (hb:Binds X.K fd ps ds) (hd:Vals dvs ds) (hx:GL CX X E)
  (I:Inv X pins σ H s) (r:Vals vs us) (h:sp (vs++dvs) H Q E):wpAny (model X.prog X.w) X.A (call (.ref f) us) (EP X pins σ Q) X.xe s:=by
 have r2:Vals (vs++dvs) (us++ds):=r.append hd
 have hl:(us++ds).length=ps.length:=by rw [<-r2.length];exact F.len _ _ _ _ h
 refine wpAny_call (codeAny_mono (F.run X.A X.stack s H ⟨us,[]⟩ (us++ds) (vs++dvs) Q E hr I.env0 (hb s us I.kIn hl) r2 h) fun r s' hq=>?_)
 cases r with
 | error e=>exact hx pins σ H s e s' I hq
 | ok fl=>
  cases fl with
  | ret u=>exact I.after hq
  | next=>exact False.elim hq
  | brk=>exact False.elim hq
  | cont=>exact False.elim hq
theorem pR (F:du X.prog X.w X.K X.mg X.base CX k f fd ps sp) (hr:Room k X.A) (hg:Gl X x) (hm:X.mg x=some (.ref f)) (hk:PySem.W.keepIn X.K (.ref f)=true) (hb:Binds X.K fd ps ds) (hd:Vals dvs ds) (hx:GL CX X E)
  (ha:PA X (e::es) t) (hdb:(x==("__debug__":Str))=false:=by decide) (he:starEach (e::es) X.env=(false,eval e X.env)::starEach es X.env:=by rfl) (hpl:(backTo pos (starEach es X.env)).any (·.1)=false:=by rfl) :
  PE X (.Call (.Name x p) (e::es) [] pos) (t9 sp dvs E t):=by
 intro pins s σ H Q I h;refine wpAny_Call_Name_kw (Ah I hg hm ?_ hdb)
 refine PySem.W.callWith_K (h₀:=X.base) I.ok.mod.kin hk (bH (ha pos pins s σ H _ I h) fun us s1 ⟨vs,H1,I1,r,q⟩=>⟨I1.kIn,?_⟩) he hpl
 exact A8 F hr hb hd hx I1 r q
structure Mk (K:Fg) (C f:Addr):Prop where
 makes:PySem.W.makesIn K C=true
 init:PySem.W.findIn K (.ref C) "__init__"=some (some (.ref f))
 fn:PySem.W.isFn K (.ref f)=true
 kp:PySem.W.keepIn K (.ref C)=true
end
section
variable {X:Cx} {CX:qt} {k:Nat} {f C:Addr} {fd:FuncData} {ps ks:List Str} {sp:Sp} {E:XK} {x m:Str} {p pos apos kpos:Pos} {e o:Expr} {es:List Expr} {kws:List Keyword} {te ta:TE} {t tk:TA} {nm:Option Str}
structure Kw (K:Fg) (fd:FuncData) (ps ks:List Str) (g:List Value->List Value->List Value) (gV:List V->List V->List V):Prop where
 to:∀(s:Shared) (us ws:List Value),K.In s.heap->(g us ws).length=ps.length->BindsTo s fd ⟨us,ks.zip ws⟩ (ps.zip (g us ws))
 rel:∀{vs:List V} {us:List Value} {zs:List V} {ws:List Value},Vals vs us->Vals zs ws->Vals (gV vs zs) (g us ws)
variable {g:List Value->List Value->List Value} {gV:List V->List V->List V}
end
structure dW (N P:List Str) (sc:Scope):Prop where
 kind:sc.kind=.function
 co:sc.isCoroutine=false
 gen:sc.isGenerator=false
 nd:N.Nodup
 pre:N.take P.length=P
 par:∀x∈P,sc.names.lookup x=some .local\/sc.names.lookup x=some .cell
 nofree:∀y∈sc.names,y.2≠.free
theorem j3 {kindOf:Str->Option NameKind} {x:Str}:∀{binds:List (Str×Value)} {m:Str->Option Value},(∀v,(x,v)∉binds)->bindL kindOf binds m x=m x
 | [],_,_=>rfl
 | (n,v)::r,m,h=>by
  unfold bindL;rw [j3 fun w hw=>h w (mem_cons_of_mem _ hw)]
  split
  ·have:x≠n:=by rintro rfl;exact h v mem_cons_self
   simp [this]
  ·rfl
theorem j5 {kindOf:Str->Option NameKind} {x:Str}:∀{binds:List (Str×Value)} {m:Str->Option Value},(∀v,(x,v)∉binds)->bindC kindOf binds m x=m x
 | [],_,_=>rfl
 | (n,v)::r,m,h=>by
  unfold bindC;rw [j5 fun w hw=>h w (mem_cons_of_mem _ hw)]
  split
  ·rfl
  ·have:x≠n:=by rintro rfl;exact h v mem_cons_self
   simp [this]
theorem j4 {kindOf:Str->Option NameKind} {x:Str} {v:Value}:∀{P:List Str} {vs:List Value} {i:Nat} {m:Str->Option Value},P.Nodup->P[i]?=some x->vs[i]?=some v->kindOf x=some .local ->
  bindL kindOf (P.zip vs) m x=some v
 | [],_,_,_,_,h,_,_=>by simp at h
 | _::_,[],_,_,_,_,h,_=>by simp at h
 | p::P,w::vs,0,m,nd,h1,h2,hk=>by
  simp at h1 h2;subst h1;subst h2;show bindL kindOf ((p,w)::P.zip vs) m p=_
  unfold bindL;rw [j3 fun v hv=>(List.nodup_cons.mp nd).1 (of_mem_zip hv).1,if_pos hk]
  simp
 | p::P,w::vs,i+1,m,nd,h1,h2,hk=>by
  show bindL kindOf ((p,w)::P.zip vs) m x=_
  unfold bindL;exact j4 (i:=i) (List.nodup_cons.mp nd).2 (by simpa using h1) (by simpa using h2) hk
theorem j6 {kindOf:Str->Option NameKind} {x:Str} {v:Value}:∀{P:List Str} {vs:List Value} {i:Nat} {m:Str->Option Value},P.Nodup->P[i]?=some x->vs[i]?=some v->kindOf x≠some .local ->
  bindC kindOf (P.zip vs) m x=some v
 | [],_,_,_,_,h,_,_=>by simp at h
 | _::_,[],_,_,_,_,h,_=>by simp at h
 | p::P,w::vs,0,m,nd,h1,h2,hk=>by
  simp at h1 h2;subst h1;subst h2;show bindC kindOf ((p,w)::P.zip vs) m p=_
  unfold bindC;rw [j5 fun v hv=>(List.nodup_cons.mp nd).1 (of_mem_zip hv).1,if_neg hk]
  simp
 | p::P,w::vs,i+1,m,nd,h1,h2,hk=>by
  show bindC kindOf ((p,w)::P.zip vs) m x=_
  unfold bindC;exact j6 (i:=i) (List.nodup_cons.mp nd).2 (by simpa using h1) (by simpa using h2) hk
def start (N:List Str) (vs:List V):St:=vs.map some++List.replicate (N.length-vs.length) none
def eT (CX:qt) (P:Program) (w:World) (K:Fg) (mg:Str->Option Value) (base:Heap) (N:List Str) (qual:Str) (scope:Scope) (f:Addr) (cd:Value) (A:Around) (outer:List Env) (s:Shared) (H:Hp) (E:XK):Cx where
 prog:=P
 w:=w
 K:=K
 mg:=mg
 base:=base
 A:=A.deeper (envOfC qual scope s.heap.objs.size f cd)
 N:=N
 s₀:=s
 H₀:=H
 env:=envOfC qual scope s.heap.objs.size f cd
 outer:=outer
 stack:=envOfC qual scope s.heap.objs.size f cd::outer
 ex:=[]
 calm:=true
 fn:=fun _=>true
 pn:=[]
 xe:=fun e s'=>wpAny (model P w) (A.deeper (envOfC qual scope s.heap.objs.size f cd)) (leaving (envOfC qual scope s.heap.objs.size f cd) e) (fun _ s''=>CX outer H s E e s'') (fun e' s''=>CX outer H s E e' s'') s'
theorem mW {sc:Scope} {n:Nat} {x:Str} (h:sc.names.lookup x=some .cell):∃c,(cellsFrom n sc.names []).lookup x=some c:=by
 have q:=PySem.W.cellsFrom_some sc.names n [] (.inl h)
 exact Option.isSome_iff_exists.mp q
theorem jS {CX:qt} {P:Program} {w:World} {K:Fg} {mg:Str->Option Value} {base:Heap} {N ps:List Str} {qual:Str} {scope:Scope} {f:Addr} {cd:Value} {A:Around} {outer:List Env} {s s1:Shared} {H:Hp} {E:XK} {us:List Value} {vs:List V}
  (S:dW N ps scope) (hd:A.handled=none) (e0:sF P w K mg base A outer s H) (hl:vs.length=ps.length) (r:Vals vs us)
  (x:InCallC s s.heap.objs.size (bindL (envOfC qual scope s.heap.objs.size f cd).kindOf (ps.zip us) fun _=>none) (cellsFrom (s.heap.objs.size+1) scope.names []) (bindC (envOfC qual scope s.heap.objs.size f cd).kindOf (ps.zip us) fun _=>none) s1) :
  Inv (eT CX P w K mg base N qual scope f cd A outer s H E) [] (start N vs) H s1:=by
 have hpl:ps.length<=N.length:=by have:=congrArg List.length S.pre;rw [length_take] at this;omega
 obtain ⟨h1,tk,rfl,hk⟩:=x.done;have noA:∀b:Addr,b∉(eT CX P w K mg base N qual scope f cd A outer s H E).ex:=fun b z=>absurd (show b∈([]:List Addr) from z) (by simp)
 refine ⟨⟨e0.mod,S.kind,rfl,rfl,Nat.le_refl _,fun y z c h1 h2=>?_,fun y hy=>?_,fun y c _ h=>?_,fun _=>hd,Around.frames_deeper e0.frames,.inr ⟨rfl,rfl⟩,fun b z=>absurd z (noA b),e0.bs,e0.bsz,fun b _ _=>noA b,fun b z=>absurd z (noA b),e0.funs,e0.frf⟩,
  rfl,e0.bare,Un.kept hk,⟨_,x.toInCall.ns,fun i y v h1 h2 h3=>?_⟩,fun y c h=>⟨_,x.cell y c h⟩,e0.hok.fresh (Nat.le_refl _),fun y c h=>?_,fun p hp=>absurd (show p∈([]:List (Addr×Obj)) from hp) (by simp),e0.hok.kept hk,?_⟩
 ·exact name_of_addr x.apart (PySem.mem_of_lookup h1) (PySem.mem_of_lookup h2)
 ·have hy:scope.names.lookup y=some .cell\/scope.names.lookup y=some .free:=hy
  rcases hy with hy | hy
  ·exact mW hy
  ·exact absurd rfl (S.nofree _ (PySem.mem_of_lookup hy))
 ·exact Nat.le_of_lt (x.above y c (PySem.mem_of_lookup h))
 ·have hi:i<vs.length:=by
   unfold start at h2;by_cases hi:i<vs.length
   ·exact hi
   ·rw [getElem?_append_right (by simpa using hi)] at h2
    rw [getElem?_replicate] at h2;split at h2<;>cases h2
  have ha:vs[i]?=some v:=by
   unfold start at h2;rw [getElem?_append_left (by simpa using hi),getElem?_map] at h2
   cases e:vs[i]? with
   | none=>rw [e] at h2;cases h2
   | some a=>rw [e] at h2;cases h2;rfl
  obtain ⟨u,hu,rv⟩:=r.get ha;have hp:ps[i]?=some y:=by
   rw [<-S.pre,List.getElem?_take_of_lt (by omega)];exact h1
  have ndP:ps.Nodup:=by rw [<-S.pre];exact S.nd.sublist (List.take_sublist _ _)
  refine ⟨u,rv,?_⟩
  rcases S.par y (mem_of_getElem? hp) with k | k
  ·exact .inl ⟨k,j4 ndP hp hu k⟩
  ·obtain ⟨c,e⟩:=mW (n:=s.heap.objs.size+1) k
   refine .inr ⟨.inl k,c,e,?_⟩
   have q:=x.cell y c e
   rw [j6 ndP hp hu (by show scope.names.lookup y≠_;rw [k];decide)] at q
   exact q
 ·exact e0.hok.fresh (Nat.le_of_lt (x.above y c (PySem.mem_of_lookup h)))
 ·unfold start
  show _=N.length
  rw [length_append,length_map,List.length_replicate];omega
theorem zR {CX:qt} {P:Program} {w:World} {K:Fg} {mg:Str->Option Value} {base:Heap} {k:Nat} {f:Addr} {name qual:Str} {params:Arguments} {body:List Stmt} {scope:Scope} {dV kV doc pm cdv ct oc:Value} {an od:Option Addr}
  {osl:Array (Option Value)} {N ps:List Str} {sp:Sp} (lk:K.lookup f=some ⟨oc,od,.func (PySem.W.fnOf name qual params body scope dV kV doc pm an cdv ct),osl⟩) (hcd:PySem.W.codeIn K cdv qual=true) (S:dW N ps scope)
  (len:∀vs H Q E,sp vs H Q E->vs.length=ps.length)
  (hbody:∀(A:Around) (outer:List Env) (s:Shared) (H:Hp) (vs:List V) (Q:VK) (E:XK),Room k (A.deeper (envOfC qual scope s.heap.objs.size f cdv))->sp vs H Q E ->
   ∃t,PSs (eT CX P w K mg base N qual scope f cdv A outer s H E) body t/\t { nx:=fun _ H'=>Q .non H',rt:=Q } (start N vs) H) :
  du P w K mg base CX (k+1) f (PySem.W.fnOf name qual params body scope dV kV doc pm an cdv ct) ps sp:=by
 refine ⟨len,fun A outer s H args us vs Q E hr e0 hb r hsp=>?_⟩
 have hl:=len _ _ _ _ hsp
 have KX:K.In s.heap:=e0.mod.kin.keeps fun b o e=>(e0.bs b o e).1
 have lim:s.heap.NoLimit:=e0.mod.nolimit.keeps fun b o e=>(e0.bs b o e).1
 have hkind:∀y∈ps.zip us,scope.names.lookup y.1=some .local\/(scope.names.lookup y.1=some .cell/\((cellsFrom (s.heap.objs.size+1) scope.names []).lookup y.1).isSome=true):=fun ⟨n,v⟩ hy=>by
  rcases S.par n (of_mem_zip hy).1 with q | q
  ·exact .inl q
  ·exact .inr ⟨q,PySem.W.cellsFrom_some _ _ _ (.inl q)⟩
 refine codeAny_call_function hr.depth (KX _ _ lk) rfl S.co S.gen rfl (PySem.W.codeRec_of KX hcd) (hb _ _ _ _ ?_)
 refine wpAny_newFunctionEnv_cells S.kind hkind fun env he s1 x=>?_
 subst he;refine ⟨lim.keeps x.toInCall.keep,codeAny_func ?_⟩
 obtain ⟨t,ht,hq⟩:=hbody A outer s H vs Q E (hr.deeper _) hsp;have I:Inv (eT CX P w K mg base N qual scope f cdv A outer s H E) [] (start N vs) H s1:=jS S hr.hd e0 hl r x
 refine wpAny_mono (ht [] s1 (start N vs) H _ I hq) (fun fl s' hs=>?_) fun e s' hs=>hs
 have fin:∀{σ':St} {H':Hp} {v:V} {u:Value},Inv (eT CX P w K mg base N qual scope f cdv A outer s H E) [] σ' H' s'->RelV v u->Q v H'->CE outer P w H s Q u s':=
  fun {σ' H' v u} J rv q=>⟨v,H',J.os,J.bare,J.base,J.hok,rv,q⟩
 cases fl with
 | ret u=>
  obtain ⟨v,σ',H',J,rv,q⟩:=hs;exact fin J rv q
 | next=>
  obtain ⟨σ',H',J,q⟩:=hs;exact fin (v:=V.non) (u:=Value.none) J rfl q
 | brk=>
  obtain ⟨_,_,_,q⟩:=hs;exact False.elim q
 | cont=>
  obtain ⟨_,_,_,q⟩:=hs;exact False.elim q
section
variable {X:Cx} {x:Str} {p pos:Pos} {e:Expr} {es:List Expr} {t:TA} {id T:String} {r:List V->Hp->VK->Prop}
def EK (r:List V->Hp->VK->Prop) (t:TA):TE:=fun σ H Q=>t σ H fun vs H1=>r vs H1 Q
theorem G9 (hc:CallR X (.builtin id) r) (hg:Gl X x) (hm:X.mg x=none) (hv:bootBuiltins x=some (.builtin id)) (ha:PA X (e::es) t) (hn:x ≠ "__name__":=by decide) (hdb:(x==("__debug__":Str))=false:=by decide)
  (he:starEach (e::es) X.env=(false,eval e X.env)::starEach es X.env:=by rfl) (hpl:(backTo pos (starEach es X.env)).any (·.1)=false:=by rfl):PE X (.Call (.Name x p) (e::es) [] pos) (EK r t):=by
 intro pins s σ H Q I h;refine wpAny_Call_Name_kw (Aa I hg hm hv ?_ hn hdb)
 exact PyProof.Rows.callWith_builtin1 (bH (ha pos pins s σ H _ I h) fun us s1 ⟨vs,H1,I1,r1,q1⟩=>hc pins s1 σ H1 vs us Q I1 r1 q1) he hpl
theorem jH (hc:CallR X (.type T) r) (hg:Gl X x) (hm:X.mg x=none) (hv:bootBuiltins x=some (.type T)) (ha:PA X (e::es) t) (hn:x ≠ "__name__":=by decide) (hdb:(x==("__debug__":Str))=false:=by decide)
  (he:starEach (e::es) X.env=(false,eval e X.env)::starEach es X.env:=by rfl) (hpl:(backTo pos (starEach es X.env)).any (·.1)=false:=by rfl):PE X (.Call (.Name x p) (e::es) [] pos) (EK r t):=by
 intro pins s σ H Q I h;refine wpAny_Call_Name_kw (Aa I hg hm hv ?_ hn hdb)
 exact PyProof.Rows.callWith_type1 (bH (ha pos pins s σ H _ I h) fun us s1 ⟨vs,H1,I1,r1,q1⟩=>hc pins s1 σ H1 vs us Q I1 r1 q1) he hpl
end
end L2
namespace HT
open PySem PyProof.Rows
section
open PySem.SeqAt
open PySem.AutoSeq1 (wpAny_loadPart')
open PySem.MeetsSeq PySem.MeetsSeq2 PySem.MeetsSeq3
end
section
variable {prog:Program} {w:World} {A:Around} {E:Value->Shared->Prop} {s:Shared}
def sIx (n d:Nat):Option Int->Nat
 | none=>d
 | some v=>if v<0 then (v+(n:Int)).toNat else min v.toNat n
theorem sIx_none (n d:Nat):sIx n d none=d:=rfl
theorem sIx_nat (n d k:Nat):sIx n d (some (k:Int))=min k n:=by
 show (if (k:Int)<0 then ((k:Int)+(n:Int)).toNat else min (k:Int).toNat n)=min k n
 rw [if_neg (by omega),Int.toNat_natCast]
theorem A7 (n d:Nat) (hd:d<=n) (o:Option Int):sIx n d o<=n:=by
 cases o with
 | none=>exact hd
 | some v=>
  show (if v<0 then (v+(n:Int)).toNat else min v.toNat n)<=n
  by_cases hv:v<0
  ·rw [if_pos hv];omega
  ·rw [if_neg hv];exact Nat.min_le_right _ _
theorem ql (v:Int) (n d:Nat):(if v<0 then max (v+(n:Int)) 0 else min v (n:Int))=((sIx n d (some v):Nat):Int):=by
 show (if v<0 then max (v+(n:Int)) 0 else min v (n:Int))=(((if v<0 then (v+(n:Int)).toNat else min v.toNat n):Nat):Int)
 by_cases hv:v<0
 ·simp only [if_pos hv];omega
 ·simp only [if_neg hv];omega
theorem oP (lo hi:Option Int) (n:Nat):Builtin.Slice.sliceAdjust lo hi 1 (n:Int)=(((sIx n 0 lo:Nat):Int),((sIx n n hi:Nat):Int)):=by
 have h1:¬((1:Int)<0):=by omega
 unfold Builtin.Slice.sliceAdjust;simp only [h1,if_false]
 refine Prod.ext ?_ ?_
 ·cases lo with
  | none=>rfl
  | some v=>exact ql v n 0
 ·cases hi with
  | none=>rfl
  | some v=>exact ql v n n
theorem nN (i j:Nat):Builtin.Slice.slicePlaces (i:Int) (j:Int) 1=j-i:=by
 unfold Builtin.Slice.slicePlaces;have h1:(1:Int)>0:=by omega
 simp only [h1,if_true,Int.ediv_one]
 split<;>omega
theorem iq {v:Value} {o:Option Int} {Q:Option Int->Shared->Prop} (p:IsPart v o) (h:Q o s):wpAny (model prog w) A (Builtin.Slice.slicePartIndex v) Q E s:=by
 cases p with
 | none=>exact slicePart_none h
 | int i t=>exact slicePart_int h
theorem gq {sl:Addr} {vl vu:Value} {lo hi:Option Int} {n:Nat} {Q:Int×Int×Nat->Shared->Prop} (hs:s.heap.IsSliceOf sl vl vu .none) (pl:IsPart vl lo) (pu:IsPart vu hi)
  (h:Q (((sIx n 0 lo:Nat):Int),1,sIx n n hi-sIx n 0 lo) s):wpAny (model prog w) A (Builtin.Slice.sliceApplied (.ref sl) (pure (n:Int))) Q E s:=by
 obtain ⟨os,hos,hcs,hds⟩:=id hs;unfold Builtin.Slice.sliceApplied Builtin.Slice.sliceFields;refine wpAny_bind (wpAny_bind (wpAny_field hos hds (x:=vl) rfl (wpAny_bind (wpAny_field hos hds (x:=vu) rfl (wpAny_bind (wpAny_field hos hds (x:=.none) rfl (wpAny_pure ?_)))))))
 refine wpAny_bind (slicePart_none ?_)
 show wpAny _ _ (if ((1:Int)==0)=true then _ else _) _ _ s
 rw [if_neg (by decide)]
 refine wpAny_bind (iq pl (wpAny_bind (iq pu (wpAny_bind (wpAny_pure ?_)))))
 show wpAny _ _ (match Builtin.Slice.sliceAdjust lo hi 1 (n:Int) with | (lo,hi)=>pure (lo,(1:Int),Builtin.Slice.slicePlaces lo hi 1)) _ _ s
 rw [oP lo hi n];show wpAny _ _ (pure (((sIx n 0 lo:Nat):Int),(1:Int),Builtin.Slice.slicePlaces ((sIx n 0 lo:Nat):Int) ((sIx n n hi:Nat):Int) 1)) _ _ s
 rw [nN];exact wpAny_pure h
theorem uQ (xs:Array Value) (i k:Nat):((List.range k).filterMap fun (m:Nat)=>xs[((i:Int)+(m:Int)*1).toNat]?).toArray=((xs.toList.drop i).take k).toArray:=by
 have e:(fun (m:Nat)=>xs[((i:Int)+(m:Int)*1).toNat]?)=fun m=>xs[i+m]?:=by
  funext m
  have:((i:Int)+(m:Int)*1).toNat=i+m:=by omega
  rw [this]
 rw [e];have:=pick_run xs i k
 rw [List.filterMap_map] at this;have e2:((fun x=>xs[x]?)∘fun x=>i+x)=fun m=>xs[i+m]?:=rfl
 rw [e2] at this;rw [this]
theorem getItem_tuple_cut {t sl:Addr} {items:Array Value} {vl vu:Value} {lo hi:Option Int} {Q:Value->Shared->Prop} (ht:IsTup s.heap t items) (hs:s.heap.IsSliceOf sl vl vu .none) (pl:IsPart vl lo) (pu:IsPart vu hi)
  (hw:¬(sIx items.size 0 lo=0/\sIx items.size items.size hi=items.size))
  (h:Q (.ref s.heap.objs.size) { s with heap:=s.heap.push { cls:=.type "tuple",data:=.seq ((items.toList.drop (sIx items.size 0 lo)).take (sIx items.size items.size hi-sIx items.size 0 lo)).toArray } })
  (hsz:items.size<=sizeLine):wpAny (model prog w) A (getItem (.ref t) (.ref sl)) Q E s:=by
 have htake:sizeOk (.seq ((items.toList.drop (sIx items.size 0 lo)).take (sIx items.size items.size hi-sIx items.size 0 lo)).toArray):=by
  show ((items.toList.drop (sIx items.size 0 lo)).take (sIx items.size items.size hi-sIx items.size 0 lo)).toArray.size<=sizeLine
  rw [size_toArray,length_take,length_drop,Array.length_toList];omega
 have hj:sIx items.size items.size hi<=items.size:=A7 _ _ (Nat.le_refl _) hi
 obtain ⟨os,hos,hcs,hds⟩:=id hs;have hTs:s.TypeIs (.ref sl) "slice":=⟨os,hos,hcs⟩
 unfold getItem;try with_reducible refine wpAny_holding ?_
 first | refine wpAny_bind (wpAny_pure ?_) | skip
 refine wpAny_bind (wpAny_sequenceKey ht.typeIs (by decide) ?_)
 refine wpAny_bind (wpAny_callSpecial?_slot (name:=Str.ofString "__getitem__") ht.typeIs PyProof.Rows.slot_tuple_getitem
  (wpAny_call_entry PyProof.Rows.slot_tuple_getitem ht.typeIs entry_tuple_getitem ?_ (args_tuple_getitem _ _)))
 show wpAny _ _ (Builtin.Tuple.tupleItemsOf (.ref t) >>= _) _ _ s
 refine wpAny_bind (tupleItemsOf_ ht ?_)
 refine wpAny_bind (wpAny_typeOf hTs ?_)
 rw [if_pos (by decide)]
 refine wpAny_bind (gq hs pl pu ?_)
 have hno:¬((((sIx items.size 0 lo:Nat):Int)==0&&(1:Int)==1&&(sIx items.size items.size hi-sIx items.size 0 lo)==items.size)=true):=by
  intro q;rw [Bool.and_eq_true,Bool.and_eq_true] at q;have q1:((sIx items.size 0 lo:Nat):Int)=0:=eq_of_beq q.1.1
  have q2:sIx items.size items.size hi-sIx items.size 0 lo=items.size:=eq_of_beq q.2
  exact hw ⟨by omega,by omega⟩
 show wpAny _ _ (if (((sIx items.size 0 lo:Nat):Int)==0&&(1:Int)==1&&(sIx items.size items.size hi-sIx items.size 0 lo)==items.size)=true then _ else _) _ _ s
 rw [if_neg hno,uQ];first
  | exact wpAny_bind (m:=Builtin.Tuple.tupleExact _) (wpAny_newObj_type (wpAny_pure ⟨_,rfl,wpAny_pure h⟩) htake)
  | exact wpAny_bind (m:=Builtin.Tuple.tupleExact _) (wpAny_newObj_type (wpAny_bind (wpAny_pure (wpAny_pure ⟨_,rfl,wpAny_pure h⟩))) htake)
  | exact wpAny_bind (wpAny_bind (m:=Builtin.Tuple.tupleExact _) (wpAny_newObj_type (wpAny_pure (wpAny_pure ⟨_,rfl,wpAny_pure h⟩)) htake))
  | exact wpAny_bind (wpAny_bind (m:=Builtin.Tuple.tupleExact _) (wpAny_newObj_type (wpAny_pure ⟨_,rfl,wpAny_pure h⟩) htake))
end
end HT
namespace L2
open PySem PySem.Spec PyProof.Rows
abbrev TO:=St->Hp->(Option Int->Hp->Prop)->Prop
def PO (X:Cx) (e:Option Expr) (t:TO):Prop:=
 ∀(pins:List (Addr×Obj)) (s:Shared) (σ:St) (H:Hp) (Q:Option Int->Hp->Prop),Inv X pins σ H s->t σ H Q ->
  wpAny (model X.prog X.w) X.A (evalPart e X.env) (fun u s'=>∃o H',Inv X pins σ H' s'/\IsPart u o/\Q o H') X.xe s
def o4:TO:=fun _ H Q=>Q none H
def zr (t:TE):TO:=fun σ H Q=>t σ H fun x H1=>∃i,x=.int i/\Q (some i) H1
section
variable {X:Cx} {e:Expr} {te:TE} {lo hi:Option Expr} {tl th:TO} {pos p2:Pos}
theorem Ip:PO X none o4:=by
 intro pins s σ H Q I h;rw [evalPart_none];exact wpAny_pure ⟨none,H,I,.none,h⟩
theorem D7 (h:PE X e te):PO X (some e) (zr te):=by
 intro pins s σ H Q I hw;rw [evalPart_some];refine bH (h pins s σ H _ I hw) fun u s1 ⟨x,H1,I1,r1,q1⟩=>?_
 obtain ⟨i,rfl,q⟩:=q1;obtain ⟨t,rfl⟩:=r1;exact ⟨some i,H1,I1,.int i t,q⟩
def Kr (X:Cx) (r:V->Option Int->Option Int->Hp->VK->Prop):Prop:=
 ∀(pins:List (Addr×Obj)) (s:Shared) (σ:St) (H:Hp) (x:V) (v vl vu:Value) (lo hi:Option Int) (sl:Addr) (Q:VK),Inv X pins σ H s->RelV x v->s.heap.IsSliceOf sl vl vu .none->IsPart vl lo->IsPart vu hi->r x lo hi H Q ->
  ∃T id,typeLookup (.type T) "__getitem__"=pure (some (.builtin id))/\s.TypeIs v T/\wpAny (model X.prog X.w) X.A (getItem v (.ref sl)) (EP X pins σ Q) X.xe s
def KF (r:V->Option Int->Option Int->Hp->VK->Prop) (te:TE) (tl th:TO):TE:=fun σ H Q=>te σ H fun x H1=>tl σ H1 fun l H2=>th σ H2 fun u H3=>r x l u H3 Q
theorem Hb {r:V->Option Int->Option Int->Hp->VK->Prop} (hr:Kr X r) (he:PE X e te) (hl:PO X lo tl) (hu:PO X hi th):PE X (.Subscript e (.Slice lo hi none p2) pos) (KF r te tl th):=by
 intro pins s σ H Q I h;refine Subscript_ (bH (he pins s σ H _ I h) fun v s1 ⟨x,H1,I1,r1,q1⟩=>?_)
 refine wpAny_Slice (bH (hl pins s1 σ H1 _ I1 q1) fun vl s2 ⟨l,H2,I2,pl,q2⟩=>bH (hu pins s2 σ H2 _ I2 q2) fun vu s3 ⟨u,H3,I3,pu,q3⟩=>?_)
 rw [evalPart_none];refine wpAny_pure ?_
 have I4:Inv X pins σ H3 { s3 with heap:=s3.heap.push { cls:=.type "slice",data:=.fields #[vl,vu,.none] } }:=I3.kept (t':=s3.toks) fun b ob q=>Heap.get?_push_of_some _ q
 obtain ⟨T,id,hT,ht,hg⟩:=hr pins { s3 with heap:=s3.heap.push { cls:=.type "slice",data:=.fields #[vl,vu,.none] } } σ H3 x v vl vu l u s3.heap.objs.size Q I4 r1 (Heap.IsSliceOf.new ..) pl pu q3
 show wpAny (model X.prog X.w) X.A (subscriptTail e (.Slice lo hi none p2) v (.ref s3.heap.objs.size)) (EP X pins σ Q) X.xe { s3 with heap:=s3.heap.push { cls:=.type "slice",data:=.fields #[vl,vu,.none] } }
 exact tail_any (ops:=[.ref s3.heap.objs.size,v]) ht hT hg (by with_unfolding_all rfl)
def jy (xs:List V) (lo hi:Option Int):List V:=(xs.drop (HT.sIx xs.length 0 lo)).take (HT.sIx xs.length xs.length hi-HT.sIx xs.length 0 lo)
theorem gM (xs:List V) (lo hi:Option Int):(jy xs lo hi).length<=xs.length:=by
 unfold jy;rw [length_take,length_drop];omega
def By (K:Fg):V->Option Int->Option Int->Hp->VK->Prop:=fun x lo hi H Q=>∃a xs,x=.ref a/\SqT K H a xs /\
 ¬(HT.sIx xs.length 0 lo=0/\HT.sIx xs.length xs.length hi=xs.length)/\∀p,H p=none->Q (.ref p) (cg H p (.tup (jy xs lo hi)))
theorem AR:Kr X (By X.K):=by
 intro pins s σ H x v vl vu lo hi sl Q I rx hs pl pu h;obtain ⟨a,xs,rfl,hx,hw,q⟩:=h
 cases rx;obtain ⟨its,r,ht,hz⟩:=I.tuple hx;have hlen:its.toArray.size=xs.length:=by rw [size_toArray];exact r.length.symm
 refine ⟨"tuple",_,PyProof.Rows.slot_tuple_getitem.lookup,ht.typeIs,?_⟩
 refine HT.getItem_tuple_cut ht hs pl pu (by rw [hlen];exact hw) ?_ (by rw [hlen];exact hz)
 rw [hlen];refine ⟨.ref s.heap.objs.size,_,I.laid (t':=s.toks) (o:=.tup (jy xs lo hi)) (fun b ob q=>Heap.get?_push_of_some _ q) (Nat.le_refl _) ?_,rfl,q _ (I.hok.fresh (Nat.le_refl _))⟩
 exact ⟨Nat.le_trans (gM xs lo hi) hz,_,(r.drop (HT.sIx xs.length 0 lo)).take (HT.sIx xs.length xs.length hi-HT.sIx xs.length 0 lo),IsTup.new _ _⟩
end
def fh (n:Nat) (i:Int):Option Nat:=if 0<=i then (if i<n then some i.toNat else none) else if -(n:Int)<=i then some (i+n).toNat else none
def fy {α:Type} (xs:List α) (i:Int):Option α:=(fh xs.length i).bind fun j=>xs[j]?
theorem pW {n:Nat} {i:Int} {j:Nat} (h:fh n i=some j):seqIndex? i n=some j/\j<n/\-(n:Int)<=i/\i<n:=by
 unfold fh at h;by_cases h0:0<=i
 ·rw [if_pos h0] at h
  by_cases h1:i<n
  ·rw [if_pos h1] at h
   have e:i.toNat=j:=Option.some.inj h
   exact ⟨by rw [seqIndex_of h0 h1,e],by omega,by omega,h1⟩
  ·rw [if_neg h1] at h;cases h
 ·rw [if_neg h0] at h
  by_cases h1:-(n:Int)<=i
  ·rw [if_pos h1] at h
   have e:(i+n).toNat=j:=Option.some.inj h
   exact ⟨by rw [seqIndex_neg (by omega) h1,e],by omega,h1,by omega⟩
  ·rw [if_neg h1] at h;cases h
theorem Ic {α:Type} {xs:List α} {i:Int} {v:α} (h:fy xs i=some v):∃j,seqIndex? i xs.length=some j/\xs[j]?=some v/\j<xs.length/\-(xs.length:Int)<=i/\i<xs.length:=by
 unfold fy at h
 cases e:fh xs.length i with
 | none=>rw [e] at h;cases h
 | some j=>
  rw [e] at h;obtain ⟨h1,h2,h3,h4⟩:=pW e;exact ⟨j,h1,h,h2,h3,h4⟩
def GP (b:Expr):Prop:=∀o i,subscripted b false o i=operate [o,i] (getItem o i)
def IxR (X:Cx) (r:R2):Prop:=
 ∀(value slice:Expr) (pins:List (Addr×Obj)) (s:Shared) (σ:St) (H:Hp) (x y:V) (v u:Value) (Q:VK),Inv X pins σ H s->RelV x v->RelV y u->r x y H Q ->
  subscripted slice false v u=operate [v,u] (getItem v u)->wpAny (model X.prog X.w) X.A (subscriptTail value slice v u) (EP X pins σ Q) X.xe s
def DO (X:Cx) (id:String) (r:V->List V->Hp->VK->Prop):Prop:=
 ∀(pins:List (Addr×Obj)) (s:Shared) (σ:St) (H:Hp) (x:V) (xs:List V) (v:Value) (us:List Value) (Q:VK),Inv X pins σ H s->RelV x v->Vals xs us->r x xs H Q ->
  wpAny (model X.prog X.w) X.A (call (.builtin id) (v::us)) (EP X pins σ Q) X.xe s
section
variable {X:Cx} {a b:Expr} {ta tb:TE} {pos:Pos}
theorem IxR.or {r r':R2} (h:IxR X r) (h':IxR X r'):IxR X (fun x y H Q=>r x y H Q\/r' x y H Q):=by
 intro value slice pins s σ H x y v u Q I rx ry q hs;rcases q with q | q
 ·exact h value slice pins s σ H x y v u Q I rx ry q hs
 ·exact h' value slice pins s σ H x y v u Q I rx ry q hs
theorem Fj {r:R2} (hr:IxR X r) (ha:PE X a ta) (hb:PE X b tb) (hs:GP b):PE X (.Subscript a b pos) (zt r ta tb):=by
 intro pins s σ H Q I h;exact Subscript_ (Dh ha hb I h fun v u s2 x y H2 I2 rx ry q=>hr a b pins s2 σ H2 x y v u Q I2 rx ry q (hs _ _))
def Ff (K:Fg):R2:=fun x y H Q=>∃p xs i v,x=.ref p/\y=.int i/\SqL K H p xs/\fy xs i=some v/\Q v H
def Fd (K:Fg):R2:=fun x y H Q=>∃p xs i v,x=.ref p/\y=.int i/\SqT K H p xs/\fy xs i=some v/\Q v H
def Fe:R2:=fun x y H Q=>∃z i c,x=.str z/\y=.int i/\z.length<=sizeLine/\fy z.cps.toList i=some c/\Q (.str ⟨#[c]⟩) H
theorem ix_list:IxR X (Ff X.K):=by
 intro value slice pins s σ H x y v u Q I rx ry h hs;obtain ⟨p,xs,i,z,rfl,rfl,hq,he,q⟩:=h
 cases rx;obtain ⟨t,rfl⟩:=ry;obtain ⟨its,r,pl,hz⟩:=I.list hq;obtain ⟨j,h1,h2,h3,h4,h5⟩:=Ic he;obtain ⟨w,ew,rw'⟩:=r.get h2;have hl:=r.length
 have hn:=Ac
 have fin:EP X pins σ Q w s:=⟨z,H,I,rw',q⟩
 by_cases h0:0<=i
 ·have hj:i.toNat=j:=by
   rw [seqIndex_of h0 h5] at h1;exact Option.some.inj h1
  exact item_listR pl.isList h0 (by omega) (by rw [hj];simpa using ew) fin hs
 ·have hj:(i+(its.toArray.size:Int)).toNat=j:=by
   rw [seqIndex_neg (by omega) h4] at h1
   rw [size_toArray,<-hl];exact Option.some.inj h1
  exact subscriptTail_builtinR (x:=w) pl.isList.typeIs slot_list_getitem.lookup
   (wpAny_getItem_list_neg (Q:=fun r s'=>r=w/\EP X pins σ Q r s') pl.isList (by omega) (by rw [size_toArray]<;>omega) (by omega) (by rw [hj];simpa using ew) ⟨rfl,fin⟩) hs
theorem ix_tup:IxR X (Fd X.K):=by
 intro value slice pins s σ H x y v u Q I rx ry h hs;obtain ⟨p,xs,i,z,rfl,rfl,hq,he,q⟩:=h
 cases rx;obtain ⟨t,rfl⟩:=ry;obtain ⟨its,r,pl,hz⟩:=I.tuple hq;obtain ⟨j,h1,h2,h3,h4,h5⟩:=Ic he;obtain ⟨w,ew,rw'⟩:=r.get h2;have hl:=r.length
 have hn:=Ac
 have fin:EP X pins σ Q w s:=⟨z,H,I,rw',q⟩
 exact subscriptTail_builtinR (x:=w) pl.typeIs slot_tuple_getitem.lookup
  (getItem_tuple (j:=j) (Q:=fun r s'=>r=w/\EP X pins σ Q r s') pl (by omega) (by omega) (by rw [size_toArray,<-hl];exact h1) (by simpa using ew) ⟨rfl,fin⟩) hs
theorem Cw:IxR X Fe:=by
 intro value slice pins s σ H x y v u Q I rx ry h hs;obtain ⟨z,i,c,rfl,rfl,hz,he,q⟩:=h;obtain ⟨t,rfl⟩:=rx;obtain ⟨t',rfl⟩:=ry;obtain ⟨j,h1,h2,h3,h4,h5⟩:=Ic he;have hl:z.cps.toList.length=z.length:=by simp [Str.length]
 rw [hl] at h1 h4 h5
 have hn:=Ac
 exact tail_any (typeIs_str s z t) slot_str_getitem.lookup (getItem_str (c:=c) (by
  have e1:decide (i < -(2 ^ 63:Int))=false:=decide_eq_false (by omega)
  have e2:decide (i≥2 ^ 63)=false:=decide_eq_false (by omega)
  rw [e1,e2,Bool.or_false]) (by rw [h1];simpa using h2) ⟨.str ⟨#[c]⟩,H,I.tok _,⟨_,rfl⟩,q⟩) hs
def K6 (K:Fg):R2:=fun x y H Q=>Ff K x y H Q\/Fd K x y H Q\/Fe x y H Q
theorem Cy:IxR X (K6 X.K):=ix_list.or (ix_tup.or Cw)
theorem nY (its:List Value) (n j:Nat) (u:Value):Obj.mapSeq (·.setIfInBounds j u) { cls:=.type "list",data:=.seq its.toArray n }={ cls:=.type "list",data:=.seq (its.set j u).toArray n }:=by
 simp [Obj.mapSeq]
theorem Inv.lst {pins:List (Addr×Obj)} {σ:St} {H:Hp} {s:Shared} {p:Addr} {xs:List V} (I:Inv X pins σ H s) (h:H p=some (.lst xs)) :
  ∃(its:List Value) (n:Nat),Vals xs its/\s.heap.get? p=some { cls:=.type "list",data:=.seq its.toArray n }/\xs.length<=sizeLine:=by
 obtain ⟨z,its,n,r,e⟩:=I.hok p _ h;exact ⟨its,n,r,e,z⟩
theorem Inv.lstUpd {pins:List (Addr×Obj)} {σ:St} {H:Hp} {s:Shared} {p:Addr} {xs ys:List V} {its its':List Value} {n n':Nat} {f:Obj->Obj} (I:Inv X pins σ H s) (h:H p=some (.lst xs))
  (ho:s.heap.get? p=some { cls:=.type "list",data:=.seq its.toArray n }) (hf:f { cls:=.type "list",data:=.seq its.toArray n }={ cls:=.type "list",data:=.seq its'.toArray n' }) (r:Vals ys its') (hz:ys.length<=sizeLine) (t:Nat) :
  Inv X pins σ (cg H p (.lst ys)) { s with heap:=s.heap.update p f,toks:=t }:=by
 have e:(s.heap.update p f).get? p=some { cls:=.type "list",data:=.seq its'.toArray n' }:=by
  rw [Heap.get?_update_self f ho (by rw [hf]<;>rfl),hf]
 refine I.write (x:=p) (e:=p) (by rw [h];trivial) (.inl rfl) (fun b u hb q=>(Heap.get?_update_other _ _ (Ne.symm hb)).trans q) ⟨_,e⟩ ?_
 exact ⟨hz,its',n',r,e⟩
def uE:V->V->V->Hp->(Hp->Prop)->Prop:=fun o i v H Q=>∃p xs k j,o=.ref p/\i=.int k/\H p=some (.lst xs)/\fh xs.length k=some j/\Q (cg H p (.lst (xs.set j v)))
theorem uf:Gq X uE:=by
 intro pins s σ H o i v ov iv u Q I ro ri rv h;obtain ⟨p,xs,k,j,rfl,rfl,hp,hj,q⟩:=h
 cases ro;obtain ⟨t,rfl⟩:=ri;obtain ⟨its,n,r,ho,hz⟩:=I.lst hp;obtain ⟨h1,h2,h3,h4⟩:=pW hj;have hl:=r.length
 have hn:=Ac
 have I':Inv X pins σ (cg H p (.lst (xs.set j v))) { s with heap:=s.heap.update p (Obj.mapSeq (·.setIfInBounds j u)) }:=
  I.lstUpd hp ho (nY its n j u) (r.set rv j) (by rw [length_set];exact hz) s.toks
 by_cases h0:0<=k
 ·have hk:k.toNat=j:=by
   rw [seqIndex_of h0 h4] at h1;exact Option.some.inj h1
  exact PySem.W.ki_setAt ho h0 (by omega) (by rw [size_toArray,<-hl];exact h4) (by rw [hk];exact ⟨_,I',q⟩)
 ·have hk:(k+(its.toArray.size:Int)).toNat=j:=by
   rw [seqIndex_neg (by omega) h3] at h1
   rw [size_toArray,<-hl];exact Option.some.inj h1
  exact PySem.W.ki_setBack ho (by omega) (by rw [size_toArray,<-hl];exact h3) (by omega) (by rw [hk];exact ⟨_,I',q⟩)
theorem kf (lo hi:Option Int) (n:Nat):(sliceBounds lo hi none n).1=((HT.sIx n 0 lo:Nat):Int)/\(sliceBounds lo hi none n).2.1=((HT.sIx n n hi:Nat):Int)/\(sliceBounds lo hi none n).2.2=1:=by
 refine ⟨?_,?_,rfl⟩
 ·cases lo with
  | none=>simp [sliceBounds,HT.sIx]
  | some i=>
   simp only [sliceBounds,HT.sIx,Option.getD_none,show (1:Int)>0 by decide,if_true]
   by_cases h:i<0
   ·simp only [h,if_true]<;>omega
   ·simp only [h,if_false]<;>omega
 ·cases hi with
  | none=>simp [sliceBounds,HT.sIx]
  | some i=>
   simp only [sliceBounds,HT.sIx,Option.getD_none,show (1:Int)>0 by decide,if_true]
   by_cases h:i<0
   ·simp only [h,if_true]<;>omega
   ·simp only [h,if_false]<;>omega
theorem i5 (its:List Value) (lo hi:Option Int):slicePick its.toArray lo hi none=((its.drop (HT.sIx its.length 0 lo)).take (HT.sIx its.length its.length hi-HT.sIx its.length 0 lo)).toArray:=by
 obtain ⟨h1,h2,h3⟩:=kf lo hi its.toArray.size;unfold slicePick;rw [h1,h2,h3];simp only [sliceRange_one,pick_run,size_toArray]<;>rfl
def Bz (K:Fg):V->Option Int->Option Int->Hp->VK->Prop:=fun x lo hi H Q=>∃a xs,x=.ref a/\SqL K H a xs/\∀p,H p=none->Q (.ref p) (cg H p (.lst (jy xs lo hi)))
theorem IT:Kr X (Bz X.K):=by
 intro pins s σ H x v vl vu lo hi sl Q I rx hs pl pu h;obtain ⟨a,xs,rfl,hx,q⟩:=h
 cases rx;obtain ⟨its,r,ht,hz⟩:=I.list hx;have hlen:=r.length
 refine ⟨"list",_,slot_list_getitem.lookup,ht.isList.typeIs,?_⟩
 refine wpAny_getItem_list_slice ht.isList hs pl pu .none (by simp) ?_ (by rw [size_toArray]<;>omega)
 rw [i5,<-hlen];refine ⟨.ref s.heap.objs.size,_,I.laid (t':=s.toks) (o:=.lst (jy xs lo hi)) (fun b ob q=>Heap.get?_push_of_some _ q) (Nat.le_refl _) ?_,rfl,q _ (I.hok.fresh (Nat.le_refl _))⟩
 exact ⟨Nat.le_trans (gM xs lo hi) hz,_,0,(r.drop (HT.sIx xs.length 0 lo)).take (HT.sIx xs.length xs.length hi-HT.sIx xs.length 0 lo),Heap.get?_push_size _ rfl⟩
theorem call_len_seq:CallR X (.builtin "len") (fun xs H Q=>∃p ys,xs=[.ref p]/\(SqL X.K H p ys\/SqT X.K H p ys)/\Q (.int ys.length) H):=by
 intro pins s σ H xs us Q I r h;obtain ⟨p,ys,rfl,hq,q⟩:=h;obtain ⟨u,rfl,rx⟩:=vals1 r
 cases rx;have hn:=Ac
 rcases hq with hq | hq
 ·obtain ⟨its,r',pl,hz⟩:=I.list hq
  have hlen:=r'.length
  exact Calls.call_len_list pl.isList (by simp only [size_toArray]<;>omega) ⟨.int ys.length,H,I.tok _,⟨s.toks+1,by rw [size_toArray,hlen]⟩,q⟩
 ·obtain ⟨its,r',pl,hz⟩:=I.tuple hq
  have hlen:=r'.length
  exact len_tuple pl (by simp only [size_toArray]<;>omega) ⟨.int ys.length,H,I.tok _,⟨s.toks+1,by rw [size_toArray,hlen]⟩,q⟩
theorem kQ:CallR X (.builtin "len") (fun xs H Q=>∃z,xs=[.str z]/\z.length<=sizeLine/\Q (.int z.length) H):=by
 intro pins s σ H xs us Q I r h;obtain ⟨z,rfl,hz,q⟩:=h;obtain ⟨u,rfl,t,rfl⟩:=vals1 r;have hn:=Ac
 exact len_str (by omega) ⟨.int z.length,H,I.tok _,⟨_,rfl⟩,q⟩
theorem CallR.or {f:Value} {r r':List V->Hp->VK->Prop} (h:CallR X f r) (h':CallR X f r'):CallR X f (fun xs H Q=>r xs H Q\/r' xs H Q):=by
 intro pins s σ H xs us Q I rs q;rcases q with q | q
 ·exact h pins s σ H xs us Q I rs q
 ·exact h' pins s σ H xs us Q I rs q
theorem kP:CallR X (.type "list") (fun xs H Q=>∃p ys,xs=[.ref p]/\(SqL X.K H p ys\/SqT X.K H p ys)/\∀l,H l=none->Q (.ref l) (cg H l (.lst ys))):=by
 intro pins s σ H xs us Q I r h;obtain ⟨p,ys,rfl,hq,q⟩:=h;obtain ⟨u,rfl,rx⟩:=vals1 r
 cases rx;have fin:∀(its:List Value),Vals ys its->ys.length<=sizeLine->∀(h':Heap) (c':Nat),(∀b o',s.heap.get? b=some o'->h'.get? b=some o') ->
   h'.get? s.heap.objs.size=some { cls:=.type "list",dict:=none,data:=.seq its.toArray c',slots:=#[] }->EP X pins σ Q (.ref s.heap.objs.size) { s with heap:=h' }:=fun its r' hz h' c' kp e=>
  ⟨.ref s.heap.objs.size,_,I.laid (t':=s.toks) kp (Nat.le_refl _) (show ObjOk X.prog X.w _ h' _ (.lst ys) from ⟨hz,its,c',r',e⟩),rfl,q _ (I.hok.fresh (Nat.le_refl _))⟩
 rcases hq with hq | hq
 ·obtain ⟨its,r',pl,hz⟩:=I.list hq
  have hlen:=r'.length
  obtain ⟨o,ho,hc,n,hd⟩:=pl.isList;exact call_list_seq p (.inl rfl) ho hc hd (fun h' c' kp e=>fin its r' hz h' c' kp e) (by simp only [size_toArray]<;>omega)
 ·obtain ⟨its,r',pl,hz⟩:=I.tuple hq
  have hlen:=r'.length
  obtain ⟨o,ho,hc,n,hd⟩:=pl;exact call_list_seq p (.inr rfl) ho hc hd (fun h' c' kp e=>fin its r' hz h' c' kp e) (by simp only [size_toArray]<;>omega)
def Js (K:Fg) (T:String) (x:V) (H:Hp):Prop:=match x with
 | .str _=>T = "str"
 | .int _=>T = "int"
 | .ref p=>(T = "list"/\∃xs,SqL K H p xs)\/(T = "tuple"/\∃o,K.lookup p=some o/\o.cls=.type "tuple"/\o.dict=none) \/
   (T = "dict"/\((∃kvs,H p=some (.dK kvs))\/∃kvs,H p=some (.dT kvs)))\/(T = "set"/\∃S n,H p=some (.set S n))
 | _=>False
theorem tR {pins:List (Addr×Obj)} {σ:St} {H:Hp} {s:Shared} {T:String} {x:V} {v:Value} (I:Inv X pins σ H s) (r:RelV x v) (ty:Js X.K T x H) :
  s.TypeIs v T/\∀a,v=.ref a->∃ob,s.heap.get? a=some ob/\ob.dict=none:=by
 cases x with
 | str z=>
  obtain ⟨t,rfl⟩:=r
  cases (show T = "str" from ty)
  exact ⟨typeIs_str s z t,fun _ e=>nomatch e⟩
 | int i=>
  obtain ⟨t,rfl⟩:=r
  cases (show T = "int" from ty)
  exact ⟨typeIs_int s i t,fun _ e=>nomatch e⟩
 | ref p=>
  cases r;rcases ty with ⟨rfl,xs,hq⟩ | ⟨rfl,o,hk,hc,hd⟩ | ⟨rfl,hk⟩ | ⟨rfl,S,n,hk⟩
  ·obtain ⟨its,_,pl,_⟩:=I.list hq
   refine ⟨pl.isList.typeIs,fun a e=>?_⟩
   cases e;obtain ⟨o,n,e,c,hd,_⟩:=pl;exact ⟨o,e,hd⟩
  ·refine ⟨⟨o,I.kIn p o hk,hc⟩,fun a e=>?_⟩
   cases e;exact ⟨o,I.kIn _ o hk,hd⟩
  ·have z:∃o,s.heap.get? p=some o/\o.ExactDict:=by
    rcases hk with ⟨kvs,hk⟩ | ⟨kvs,hk⟩
    ·obtain ⟨_,_,_,_,o,_,_,e,ex,_⟩:=I.hok p _ hk
     exact ⟨o,e,ex⟩
    ·obtain ⟨_,_,_,_,o,_,_,e,ex,_⟩:=I.hok p _ hk
     exact ⟨o,e,ex⟩
   obtain ⟨o,e,ex⟩:=z;refine ⟨⟨o,e,ex.1⟩,fun a e2=>?_⟩
   cases e2;exact ⟨o,e,ex.2.1⟩
  ·obtain ⟨o,_,_,_,e,ex,_⟩:=I.hok p _ hk
   refine ⟨⟨o,e,ex.1⟩,fun a e2=>?_⟩
   cases e2;exact ⟨o,e,ex.2.1⟩
 | _=>exact False.elim ty
def EL (K:Fg) (T:String) (r:V->List V->Hp->VK->Prop) (to:TE):TE:=fun σ H Q=>to σ H fun x H1=>Js K T x H1/\r x [] H1 Q
def AQ (K:Fg) (T:String) (r:V->List V->Hp->VK->Prop) (to:TE) (t:TA):TE:=fun σ H Q=>to σ H fun x H1=>Js K T x H1/\t σ H1 fun xs H2=>r x xs H2 Q
variable {o e:Expr} {es:List Expr} {to:TE} {t:TA} {name:Str} {apos cpos:Pos} {T id:String} {r:V->List V->Hp->VK->Prop}
theorem BW (pa:PlainAttrs T) (slot:Slot T name id) (hty:typeOf (.builtin id)=pure (.type "method_descriptor")) (hm:DO X id r) (ho:PE X o to)
  (hbase:attributeBase o name X.env (eval o X.env)=eval o X.env:=by rfl) (hline:(apos.endLine==cpos.line)=true:=by rfl):PE X (.Call (.Attribute o name apos) [] [] cpos) (EL X.K T r to):=by
 intro pins s σ H Q I h;refine wpAny_Call_method0_late hbase hline (bH (ho pins s σ H _ I h) fun v s1 ⟨x,H1,I1,r1,ty,q1⟩=>?_)
 obtain ⟨h1,h2⟩:=tR I1 r1 ty;exact ⟨T,id,pa,slot,hty,h1,h2,Calls.callWith_builtin rfl (PySem.evalArgs_none (hm pins s1 σ H1 x [] v [] Q I1 r1 .nil q1))⟩
theorem jI (pa:PlainAttrs T) (slot:Slot T name id) (hty:typeOf (.builtin id)=pure (.type "method_descriptor")) (hm:DO X id r) (ho:PE X o to) (ha:PA X (e::es) t)
  (hbase:attributeBase o name X.env (eval o X.env)=eval o X.env:=by rfl)
  (hfew:((backTo cpos (starEach (e::es) X.env)).all (fun x=>!x.1)&&(backToKw cpos (keywordEach [] X.env)).all (fun x=>x.1.isSome)
   && decide ((e::es).length+([]:List Keyword).length+(if ([]:List Keyword).isEmpty then 0 else 1)<30))=true:=by rfl)
  (hline:(apos.endLine==cpos.line)=true:=by rfl) (hs:starEach (e::es) X.env=(false,eval e X.env)::starEach es X.env:=by rfl) (hplain:(backTo cpos (starEach es X.env)).any (·.1)=false:=by rfl) :
  PE X (.Call (.Attribute o name apos) (e::es) [] cpos) (AQ X.K T r to t):=by
 intro pins s σ H Q I h;refine wpAny_Call_method_late hbase hfew hline rfl (bH (ho pins s σ H _ I h) fun v s1 ⟨x,H1,I1,r1,ty,q1⟩=>?_)
 obtain ⟨h1,h2⟩:=tR I1 r1 ty;refine ⟨T,id,pa,slot,hty,h1,h2,?_⟩
 have hA:=ha cpos pins s1 σ H1 _ I1 q1
 rw [hs] at hA ⊢;refine Calls.callWith_builtin (by show (false||(backTo cpos (starEach es X.env)).any (·.1))=false;rw [hplain]<;>rfl) (Calls.evalArgs_plain ?_)
 exact bH hA fun us s2 ⟨vs,H2,I2,r2,q2⟩=>hm pins s2 σ H2 x vs v us Q I2 r1 r2 q2
end
def Ku (X:Cx) (id:String) (r:V->List V->Hp->VK->Prop):Prop:=
 ∀(pins:List (Addr×Obj)) (s:Shared) (σ:St) (H:Hp) (x:V) (xs:List V) (v:Value) (us:List Value) (Q:VK),Inv X pins σ H s->RelV x v->Vals xs us->r x xs H Q ->
  wpAny (model X.prog X.w) X.A (call (.builtin id) (v::us)) (EP X pins σ Q) X.xe s
theorem Vals.one:∀{x:V} {us:List Value},Vals [x] us->∃u,us=[u]/\RelV x u
 | _,_,.cons r .nil=>⟨_,rfl,r⟩
theorem Vals.zero:∀{us:List Value},Vals [] us->us=[]
 | _,.nil=>rfl
theorem Vals.dropLast {xs:List V} {us:List Value} (h:Vals xs us):Vals xs.dropLast us.dropLast:=by
 induction h with
 | nil=>exact .nil
 | cons r t ih=>
  cases t with
  | nil=>exact .nil
  | cons q t'=>exact .cons r ih
theorem ou {α:Type} (l:List α):l.eraseIdx (l.length-1)=l.dropLast:=by
 induction l with
 | nil=>rfl
 | cons a r ih=>
  cases r with
  | nil=>rfl
  | cons b r=>
   have e:(a::b::r).length-1=((b::r).length-1)+1:=by
    have h1:(a::b::r).length=r.length+2:=rfl
    have h2:(b::r).length=r.length+1:=rfl
    omega
   rw [e,List.eraseIdx_cons_succ,ih];all_goals rfl
section
variable {X:Cx} {pins:List (Addr×Obj)} {σ:St} {H:Hp} {s:Shared} {l b:Addr} {xs ys zs:List V}
theorem Inv.lset {its its':List Value} {n:Nat} {f:Array Value->Array Value} {t':Nat} (I:Inv X pins σ H s) (hH:H l=some (.lst xs))
  (e:s.heap.get? l=some { cls:=.type "list",data:=.seq its.toArray n }) (hf:f its.toArray=its'.toArray) (hv:Vals ys its') (hz:ys.length<=sizeLine) :
  Inv X pins σ (cg H l (.lst ys)) { s with heap:=s.heap.update l (Obj.mapSeq f),toks:=t' }:=by
 have q:=PySem.IsL.update e f
 rw [hf] at q;refine I.write (x:=l) (e:=l) (by rw [hH];exact trivial) (.inl rfl) (fun b' u hb hu=>(Heap.get?_update_other s.heap (Obj.mapSeq f) (Ne.symm hb)).trans hu) ⟨_,q⟩ ?_
 exact ⟨hz,its',_,hv,q⟩
theorem Inv.lnew {its:List Value} {t':Nat} (I:Inv X pins σ H s) (hv:Vals ys its) (hz:ys.length<=sizeLine) :
  Inv X pins σ (cg H s.heap.objs.size (.lst ys)) { s with heap:=s.heap.push { cls:=.type "list",data:=.seq its.toArray },toks:=t' }:=
 I.laid (fun _ _ q=>Heap.get?_push_of_some _ q) (Nat.le_refl _) ⟨hz,its,0,hv,Heap.get?_push_size _ rfl⟩
theorem Inv.fresh (I:Inv X pins σ H s):H s.heap.objs.size=none:=I.hok.fresh (Nat.le_refl _)
theorem Inv.lstM (I:Inv X pins σ H s) (hH:H l=some (.lst xs)):xs.length<=sizeLine/\∃(its:List Value) (n:Nat),Vals xs its/\xs.length=its.length/\s.heap.get? l=some { cls:=.type "list",data:=.seq its.toArray n }:=by
 obtain ⟨z,its,n,r,e⟩:=I.hok l _ hH;exact ⟨z,its,n,r,r.length,e⟩
theorem uZ {n:Nat} (h:n<=sizeLine):Builtin.List.listTooLong n=false:=by
 unfold Builtin.List.listTooLong;exact decide_eq_false (by omega)
end
section
variable {X:Cx}
def pM:V->List V->Hp->VK->Prop:=fun x vs H Q=>∃l xs y,x=.ref l/\vs=[y]/\H l=some (.lst xs)/\xs.length<sizeLine/\Q .non (cg H l (.lst (xs++[y])))
theorem jO:Ku X "list.append" pM:=by
 intro pins s σ H x vs v us Q I rx rv h;obtain ⟨l,xs,y,rfl,rfl,hH,hz,q⟩:=h
 cases rx;obtain ⟨u,rfl,ru⟩:=rv.one;obtain ⟨z,its,n,r,hl,e⟩:=I.lstM hH;refine call_meets F.slot_list_append ⟨_,e,rfl⟩ F.entry_list_append (F.args_list_append_2 _ _) (PySem.list_append l its.toArray n u (by rw [size_toArray];omega)) ⟨e,?_⟩
 refine ⟨.non,_,I.lset (its':=its++[u]) hH e (by simp) (r.append (.cons ru .nil)) ?_,rfl,q⟩
 rw [length_append,length_singleton];omega
def Fb:V->List V->Hp->VK->Prop:=fun x vs H Q=>∃l xs y,x=.ref l/\vs=[]/\H l=some (.lst xs)/\xs[xs.length-1]?=some y/\Q y (cg H l (.lst xs.dropLast))
theorem Cc:Ku X "list.pop" Fb:=by
 intro pins s σ H x vs v us Q I rx rv h;obtain ⟨l,xs,y,rfl,rfl,hH,hy,q⟩:=h
 cases rx;have hus:=rv.zero
 subst hus;obtain ⟨z,its,n,r,hl,e⟩:=I.lstM hH;obtain ⟨u,hu,ru⟩:=r.get hy;have hy':its.toArray[its.toArray.size-1]?=some u:=by
  show its.toArray[its.length-1]?=some u
  rw [<-Array.getElem?_toList,<-hl];exact hu
 refine call_meets F.slot_list_pop ⟨_,e,rfl⟩ F.entry_list_pop (F.args_list_pop_1 _) (MeetsSeq.list_pop_last l its.toArray n u hy' (by rw [size_toArray];omega)) ⟨e,?_⟩
 refine ⟨y,_,I.lset (its':=its.dropLast) hH e ?_ r.dropLast ?_,ru,q⟩
 ·show its.toArray.eraseIdxIfInBounds (its.toArray.size-1)=its.dropLast.toArray
  rw [size_toArray,List.eraseIdxIfInBounds_toArray,ou]
 ·rw [length_dropLast]
  omega
end
section
variable {prog:Program} {w:World} {A:Around} {E:Value->Shared->Prop} {s:Shared}
set_option maxRecDepth 100000 in
end
end L2
namespace Att
open PySem PySem.W PySem.Calls PyProof.Rows
theorem gX {P:Params} {h:Heap}:∀(ns:List Int) (vs:List Value),WellAll P h vs (ns.map WData.int)->IntsAre vs ns:=by
 intro ns;induction ns with
 | nil=>
  intro vs w;rw [List.map_nil] at w
  cases w;exact .nil
 | cons n ns ih=>
  intro vs w;rw [map_cons] at w
  cases w with
  | cons a b=>
   cases a;exact .cons _ _ (ih _ b)
theorem qL {l:OpenLaw} {n:Nat} (hn:l.most=some n) {P:Params} {h:Heap} {args:List WData} {vals:List Value}
  (hpre:l.row.toRowW.claim.pre args=true) (hwl:WellAll P h vals args) :
  ∃a vs ns,vals=[Value.ref a]/\args=[WData.list (ns.map WData.int)]/\h.get? a=some { cls:=.type "list",data:=.seq vs.toArray }/\IntsAre vs ns/\ns.length<=n:=by
 have hsh:WShape.hasAll [] args [.list .int]=true:=(pre_splitW hpre).1
 have hc:l.pre.holds [] { args:=args }=true:=(pre_splitW hpre).2
 obtain ⟨d,r,rfl,h1,h2⟩:=hasAllW_cons hsh;obtain rfl:=hasAllW_nil h2
 obtain ⟨xs,rfl,h3⟩:=hasW_list h1;obtain ⟨ns,rfl⟩:=items_int h3;have hlen:ns.length<=n:=by
  unfold OpenLaw.pre at hc;have h4:(WTm.not (.lt (.lit (.int (n:Int))) (.len (.arg 0)))).holds [] { args:=[.list (ns.map .int)] }=true:=by
   have h4:=(holds_andW hc).1
   rw [hn] at h4;exact h4
  have h5:=condW_of h4 (w_not (w_lt w_lit (w_len_list (w_arg rfl))))
  rw [length_map] at h5;refine Nat.le_of_not_lt fun q=>?_
  have q':(n:Int)<((ns.length:Nat):Int):=by omega
  first
   | (rw [decide_eq_true q'] at h5;exact absurd h5 (by decide))
   | (simp at h5;omega)
 cases hwl with
 | cons w1 w2=>
  cases w2
  cases w1 with
  | list ho hall=>exact ⟨_,_,ns,rfl,rfl,ho,gX ns _ hall,hlen⟩
theorem qY (l:OpenLaw) (args:List WData):l.row.toRowW.claim.post args (.bool true) args=true:=
 postW_of (r:=l.row.toRowW) (X:=(true==true))
  (show WShape.has [] (.bool true) .bool=true by first | rfl | decide | simp [WShape.has,WShape.arms,WShape.armsAll])
  (show (WTm.eq .res (.lit (.bool true))).value [] { args:=args,res:=some (.bool true),after:=args }=some (.bool (true==true)) from w_eq_bool (w_res rfl) w_lit) rfl
theorem attach_call {l:OpenLaw} {n:Nat} {q:Program} {loose:List Str} {XP:(Str->Option Value)->Heap->Prop} {YP:World->Heap->Prop} {d:DefRec}
  (hn:l.most=some n) (hdf:d.params.defaults=[])
  (call:∀(w:World) (s₀ s₁:Shared) (mg mb:Str->Option Value) (fa:Addr) (o:Obj) (pm cd doc:Value) (a:Addr) (vs:List Value) (ns:List Int),
   Ground q loose [] XP w s₀ mg mb s₁.heap->YP w s₁.heap ->
   s₁.heap.get? fa=some o->o.data=.func (docDef d.name d.params d.body d.scope pm cd doc)->s₁.heap.CodeRec cd d.name->mg d.name=some (.ref fa) ->
   s₁.heap.get? a=some { cls:=.type "list",data:=.seq vs.toArray }->IntsAre vs ns->ns.length<=n->s₁.gens=#[] ->
   codeAny (model l.prog w) callerA (.call (.ref fa) ⟨[.ref a],[]⟩) (fun r s'=>r=.ok (.ret (.bool true))/\OldK s₁.heap s'.heap/\s'.os=s₁.os/\AllBare s'.gens) s₁) :
  WalkO q loose XP YP l.row.toRowW d [] (fun f vs=>PySem.call f vs):=by
 intro w s₀ s₁ mg mb G Y fa o pm cd doc dV kV ho hd hcd hD hmg hg args vals as hpre hlay hrd hwl hlo;obtain rfl:dV=.none:=Dflts.none hD hdf
 obtain rfl:kV=.none:=Dflts.noKw hD
 obtain ⟨a,vs,ns,rfl,rfl,hobj,hints,hlen⟩:=qL hn hpre hwl;refine enter_call (codeAny_mono (call w s₀ s₁ mg mb fa o pm cd doc a vs ns G Y ho (fd_plain hd) hcd hmg hobj hints hlen hg) fun r s' hq=>?_)
 obtain ⟨rfl,h2,h3,h4⟩:=hq;exact ⟨.inl ⟨.bool true,.bool true,[],rfl,fun _=>rfl,.bool true,qY l _,fun _=>⟨List.Pairwise.nil,fun _ hm=>(nomatch hm)⟩⟩,h2,h3,h4⟩
end Att
namespace L2
open PySem PySem.Spec PyProof.Rows
theorem jC:∀{vs:List Value} {ns:List Int},IntsAre vs ns->Vals (ns.map V.int) vs
 | _,_,.nil=>.nil
 | _,_,.cons n t h=>.cons ⟨t,rfl⟩ (jC h)
def Dp (H:Hp):Prop:=∀b,H b=none\/∃o xs,H b=some (.frz o (.lst xs))
theorem u3 {P:Program} {w:World} {K:Fg} {mg mb:Str->Option Value} {CX:qt} {k:Nat} {fa a:Addr} {fd:FuncData} {x:Str} {sp:Sp} {s₁:Shared} {vs:List Value} {ns:List Int}
  (KX:K.In s₁.heap) (hns:s₁.heap.Ns mainGlobals mg) (hb:s₁.heap.Ns builtinsNs mb) (hbb:∀x:Str,x ≠ "__name__"->mb x=bootBuiltins x) (hlim:s₁.heap.NoLimit) (hg:s₁.gens=#[])
  (ha:s₁.heap.get? a=some { cls:=.type "list",data:=.seq vs.toArray }) (hi:IntsAre vs ns) (hl:ns.length<=sizeLine) (hr:Room k callerA)
  (F:∀base:Heap,K.In base->base.Ns mainGlobals mg->du P w K mg base CX k fa fd [x] sp) (hbind:∀(s:Shared) (u:Value),BindsTo s fd ⟨[u],[]⟩ [(x,u)])
  (hsp:∀H:Hp,Dp H->SqL K H a (ns.map V.int)->sp [.ref a] H (fun v _=>v=.bl true) fun _ _ _=>False)
  (hCX:∀H e s',CX [] H s₁ (fun _ _ _=>False) e s'->False) :
  codeAny (model P w) callerA (.call (.ref fa) ⟨[.ref a],[]⟩) (fun r s'=>r=.ok (.ret (.bool true))/\OldK s₁.heap s'.heap/\s'.os=s₁.os/\AllBare s'.gens) s₁:=by
 have rv:=jC hi
 have lenV:=hi.length
 have core:∀H:Hp,Dp H->SqL K H a (ns.map V.int)->HOk P w H s₁.heap->(∀b,H b≠none->b=a)->(H a≠none->K.lookup a=none) ->
   codeAny (model P w) callerA (.call (.ref fa) ⟨[.ref a],[]⟩) (fun r s'=>r=.ok (.ret (.bool true))/\OldK s₁.heap s'.heap/\s'.os=s₁.os/\AllBare s'.gens) s₁:=by
  intro H hO hS hok hA hK;have base_of:∀{b:Addr} {o:Obj},s₁.heap.get? b=some o->H b=none->(kD s₁.heap H).get? b=some o:=fun e n=>vq e n
  have noA:∀{b:Addr} {o:Obj} {es:Array DictEntry} {ep:Nat},s₁.heap.get? b=some o->o.data=.dict es ep->H b=none:=fun {b o es ep} e d=>by
   cases q:H b with
   | none=>rfl
   | some u=>
    have e':b=a:=hA b (by rw [q];simp)
    subst e'
    rw [ha] at e;cases e;have d':Data.seq vs.toArray _=Data.dict es ep:=d
    cases d'
  have nsK:∀{b:Addr} {m:Str->Option Value},s₁.heap.Ns b m->(kD s₁.heap H).Ns b m:=fun {b m} ⟨o,es,ep,e,d,r⟩=>⟨o,es,ep,base_of e (noA e d),d,r⟩
  have hKb:K.In (kD s₁.heap H):=fun b o e=>base_of (KX b o e) (by
   cases q:H b with
   | none=>rfl
   | some u=>
    have e':b=a:=hA b (by rw [q];simp)
    subst e'
    rw [hK (by rw [q];simp)] at e;cases e)
  have hM:Mod K mg (kD s₁.heap H):=⟨hKb,nsK hns,⟨mb,nsK hb,hbb⟩,let ⟨mc,h1,h2⟩:=hlim;⟨mc,nsK h1,h2⟩⟩
  have e0:sF P w K mg (kD s₁.heap H) callerA [] s₁ H:=⟨rfl,hM,fun b o e=>ya e,Nat.le_of_eq (rL _ _),trivial,fun b hb=>absurd (show b∈([]:List Addr) from hb) (by simp),hok,.of_eq hg⟩
  refine codeAny_mono ((F _ hKb (nsK hns)).run callerA [] s₁ H ⟨[.ref a],[]⟩ [.ref a] [.ref a] _ _ hr e0 (hbind s₁ (.ref a)) (.cons rfl .nil) (hsp H hO hS)) fun r s' h=>?_
  cases r with
  | error e=>exact (hCX H e s' h).elim
  | ok fl=>
   cases fl with
   | next=>exact False.elim h
   | brk=>exact False.elim h
   | cont=>exact False.elim h
   | ret u=>
    obtain ⟨v,H',os,bare,un,hok',r',q⟩:=h;have q':v=.bl true:=q
    subst q'
    obtain rfl:u=Value.bool true:=r'
    refine ⟨rfl,OldK.of_keep fun b o e=>?_,os,bare⟩
    cases q:H b with
    | none=>exact un.keep b o e q (by intro z;exact absurd (show b∈([]:List Addr) from z) (by simp)) (by simp)
    | some u=>
     rcases hO b with z | ⟨ob,xs,z⟩
     ·rw [q] at z;cases z
     ·have z2:=un.frzs b ob _ z
      obtain ⟨e1,_⟩:=hok b _ z;obtain ⟨e2,_⟩:=hok' b _ z2
      rw [e] at e1;cases e1;exact e2
 cases hk:K.lookup a with
 | some o=>
  have e:=KX a o hk
  rw [ha] at e
  cases e;refine core (fun _=>none) (fun _=>.inl rfl) (.inr ⟨_,vs.toArray,_,hk,rfl,rfl,rfl,by rw [size_toArray,lenV];exact hl,by simpa using rv⟩) (fun b u z=>by have z':(none:Option HO)=some u:=z;cases z') (fun b z=>absurd rfl z) fun z=>absurd rfl z
 | none=>
  refine core (fun b=>if b=a then some (.frz { cls:=.type "list",data:=.seq vs.toArray } (.lst (ns.map V.int))) else none) (fun b=>?_) (.inl (.inr ⟨{ cls:=.type "list",data:=.seq vs.toArray },if_pos rfl⟩)) (fun b u z=>?_) (fun b z=>?_) fun _=>hk
  ·by_cases hb:b=a
   ·exact .inr ⟨_,_,if_pos hb⟩
   ·exact .inl (if_neg hb)
  ·by_cases hb:b=a
   ·have z':=(if_pos hb).symm.trans z
    cases z'
    subst hb;exact ⟨ha,by rw [length_map];exact hl,vs,_,rv,ha⟩
   ·have z':=(if_neg hb).symm.trans z
    cases z'
  ·by_cases hb:b=a
   ·exact hb
   ·exact absurd (if_neg hb) z
theorem walk_of {l:PySem.W.OpenLaw} {n k:Nat} {q:Program} {loose:List Str} {XP:(Str->Option Value)->Heap->Prop} {YP:World->Heap->Prop} {d:DefRec} {K:Params->Fg} {CX:World->qt} {sp:World->Sp} {x:Str}
  (hn:l.most=some n) (hn2:n<=sizeLine) (hdf:d.params.defaults=[]) (hr:Room k callerA)
  (hY:∀(w:World) (h:Heap),YP w h->(K w.params).In h)
  (F:∀(w:World) (mg:Str->Option Value) (fa:Addr) (h:Heap),(K w.params).In h->h.Ns mainGlobals mg->mg d.name=some (.ref fa) ->
   ∃fd:FuncData,(∀(s:Shared) (u:Value),BindsTo s fd ⟨[u],[]⟩ [(x,u)]) /\
    ∀base:Heap,(K w.params).In base->base.Ns mainGlobals mg->du l.prog w (K w.params) mg base (CX w) k fa fd [x] (sp w))
  (hsp:∀(w:World) (H:Hp) (a:Addr) (ns:List Int),ns.length<=n->Dp H->SqL (K w.params) H a (ns.map V.int)->sp w [.ref a] H (fun v _=>v=.bl true) fun _ _ _=>False)
  (hCX:∀(w:World) (H:Hp) (s:Shared) (e:Value) (s':Shared),CX w [] H s (fun _ _ _=>False) e s'->False) :
  PySem.W.WalkO q loose XP YP l.row.toRowW d [] (fun f vs=>PySem.call f vs):=by
 refine Att.attach_call hn hdf fun w s₀ s₁ mg mb fa o pm cd doc a vs ns G Y ho hd hcd hmg hobj hints hlen hg=>?_
 have KX:=hY w _ Y
 obtain ⟨fd,hb,hF⟩:=F w mg fa _ KX G.T.g hmg;exact u3 KX G.T.g G.T.b G.T.builtins G.T.nolimit hg hobj hints (Nat.le_trans hlen hn2) hr hF hb (fun H hO hS=>hsp w H a ns hlen hO hS) fun H e s'=>hCX w H s₁ e s'
def Dz (s:Stmt):Arguments:=match s with
 | .FunctionDef _ a _ _ _ _ _ _ _ _=>a
 | _=>{ posonlyargs:=[],args:=[],vararg:=none,kwonlyargs:=[],kw_defaults:=[],kwarg:=none,defaults:=[] }
def qz (s:Stmt):List Stmt:=match s with
 | .FunctionDef _ _ b _ _ _ _ _ _ _=>b
 | _=>[]
def hV (s:Stmt):Scope:=match s with
 | .FunctionDef _ _ _ _ _ _ sc _ _ _=>sc
 | _=>{ kind:=.function,names:=[],isGenerator:=false,isCoroutine:=false }
abbrev j8:qt:=fun _ _ _ _ _ _=>False
abbrev E0:XK:=fun _ _ _=>False
theorem zH {X:Cx}:GL j8 X E0:=fun _ _ _ _ _ _ _ h=>h.elim
structure Fun (K:Fg) (x qual:Str) (st:Stmt) (f:Addr) (fd:FuncData):Prop where
 ex:∃(oc:Value) (od:Option Addr) (kV doc pm:Value) (an:Option Addr) (cdv ct:Value) (osl:Array (Option Value)),
  fd=PySem.W.fnOf x qual (Dz st) (qz st) (hV st) .none kV doc pm an cdv ct/\K.lookup f=some ⟨oc,od,.func fd,osl⟩/\PySem.W.codeIn K cdv qual=true
 kp:PySem.W.keepIn K (.ref f)=true
section
variable {P:Program} {w:World} {K:Fg} {mg:Str->Option Value} {base:Heap}
theorem Fun.ok {x qual:Str} {st:Stmt} {f:Addr} {fd:FuncData} {N ps:List Str} {k:Nat} {sp:Sp} (F:Fun K x qual st f fd) (S:dW N ps (hV st)) (len:∀vs H Q E,sp vs H Q E->vs.length=ps.length)
  (hbody:∀(cdv:Value) (A:Around) (outer:List Env) (s:Shared) (H:Hp) (vs:List V) (Q:VK) (E:XK),Room k (A.deeper (envOfC qual (hV st) s.heap.objs.size f cdv))->sp vs H Q E ->
   ∃t,PSs (eT j8 P w K mg base N qual (hV st) f cdv A outer s H E).nox (qz st) t/\t { nx:=fun _ H'=>Q .non H',rt:=Q } (start N vs) H):du P w K mg base j8 (k+1) f fd ps sp:=by
 obtain ⟨oc,od,kV,doc,pm,an,cdv,ct,osl,rfl,lk,hcd⟩:=F.ex;refine zR lk hcd S len fun A outer s H vs Q E hr hsp=>?_
 obtain ⟨t,h,q⟩:=hbody cdv A outer s H vs Q E hr hsp;exact ⟨t,h.nox,q⟩
theorem Fun.binds {x qual:Str} {st:Stmt} {f:Addr} {fd:FuncData} {ps:List Str} (F:Fun K x qual st f fd)
  (h:∀(kV doc pm:Value) (an:Option Addr) (cdv ct:Value) (us:List Value),us.length=ps.length->bindArgs (PySem.W.fnOf x qual (Dz st) (qz st) (hV st) .none kV doc pm an cdv ct) ⟨us,[]⟩=pure (ps.zip us)):Binds K fd ps []:=by
 obtain ⟨oc,od,kV,doc,pm,an,cdv,ct,osl,rfl,lk,hcd⟩:=F.ex;exact .all (h kV doc pm an cdv ct)
theorem C1 {x qual:Str} {st:Stmt} {f:Addr} {oc:Value} {od an:Option Addr} {osl:Array (Option Value)} {kV doc pm cdv ct:Value} (l:K.lookup f=some ⟨oc,od,.func (PySem.W.fnOf x qual (Dz st) (qz st) (hV st) .none kV doc pm an cdv ct),osl⟩)
  (c:PySem.W.codeIn K cdv qual=true) (k:PySem.W.keepIn K (.ref f)=true):Fun K x qual st f (PySem.W.fnOf x qual (Dz st) (qz st) (hV st) .none kV doc pm an cdv ct):=⟨⟨oc,od,kV,doc,pm,an,cdv,ct,osl,rfl,l,c⟩,k⟩
end
theorem kB {A B:Prop} (h:B):if false=true then A else B:=by
 rw [if_neg Bool.false_ne_true];exact h
theorem oa {A B:Prop} (h:A):if true=true then A else B:=by
 rw [if_pos rfl];exact h
def Same (H H':Hp):Prop:=∀b o,H b=some o->H' b=some o
theorem Same.refl (H:Hp):Same H H:=fun _ _ h=>h
theorem Same.trans {H H1 H2:Hp} (a:Same H H1) (b:Same H1 H2):Same H H2:=fun c o h=>b c o (a c o h)
theorem Same.free {H H':Hp} (e:Same H H') {l:Addr} (h:H' l=Option.none):H l=Option.none:=by
 cases q:H l with
 | none=>rfl
 | some o=>
  rw [e l o q] at h
  cases h
theorem Same.seq {K:Fg} {H H':Hp} {a:Addr} {xs:List V} (e:Same H H') (h:SqL K H a xs):SqL K H' a xs:=by
 rcases h with (h | ⟨o,h⟩) | h
 ·exact .inl (.inl (e _ _ h))
 ·exact .inl (.inr ⟨o,e _ _ h⟩)
 ·exact .inr h
section
variable {prog:Program} {w:World} {A:Around} {R:Result->Shared->Prop} {s:Shared}
abbrev yY:Value->Shared->Prop:=fun _ _=>False
theorem kO {elt target iter:Expr} {ifs:List Expr} {scope:Scope} {pos:Pos} {it acc:Value} {env:Env} (I:Nat->Shared->Prop)
  (turn:∀n s,I n s->wpAny (model prog w) A (pyNext it) (fun r s₁=>match r with
   | none=>R (.ok .next) s₁
   | some v=>wpAny (model prog w) A (letOwnedTupleGo target it v) (fun _ s₁'=>wpAny (model prog w) A (assign target env v) (fun _ s₂=>
     wpAny (model prog w) A (forIn ifs true fun c r=>if r=true then do let ok <-isTrue c env (eval c env);pure (ForInStep.yield ok) else pure (ForInStep.yield r)) (fun ok s₃=>
      if ok=true then wpAny (model prog w) A (eval elt env) (fun x s₄=>
       wpAny (model prog w) A (call (.builtin "list.append") [acc,x]) (fun _ s₅=>∃m,m<n/\I m s₅) yY s₄) yY s₃
      else ∃m,m<n/\I m s₃) yY s₂) yY s₁') yY s₁) yY s)
  (n:Nat) (h:I n s) :
  codeAny (model prog w) A (.compLoop (.ListComp elt [⟨target,iter,ifs,0⟩] scope pos) 0 it acc env) R s:=by
 refine codeAny_loop rfl I (fun n s hI=>?_) n h
 show wpAny _ A ((compTurn (.ListComp elt [⟨target,iter,ifs,0⟩] scope pos) 0 it acc env).onRaise (fun x=>do noteFrame x env;theTreesLotGoes x)) _ _ s
 refine wpAny_noted ?_
 rw [compTurn_list];have F:∀{Z:Value->Shared->Prop},∀(e:Value) (s:Shared),yY e s->Z e s:=fun _ _ x=>x.elim
 refine wpAny_bind (wpAny_standAt (wpAny_bind (wpAny_mono (turn n s hI) (fun r s₁ h₁=>?_) F)))
 cases r with
 | none=>exact wpAny_pure h₁
 | some v=>
  refine wpAny_bind (wpAny_mono h₁ (fun _ s₁' h₁'=>?_) F)
  refine wpAny_bind (wpAny_mono h₁' (fun _ s₂ h₂=>wpAny_bind (wpAny_mono h₂ (fun ok s₃ h₃=>?_) F)) F)
  cases ok with
  | false=>exact wpAny_pure ⟨rfl,h₃⟩
  | true=>
   exact wpAny_bind (wpAny_bind (wpAny_mono h₃ (fun x s₄ h₄=>wpAny_bind (wpAny_mono h₄ (fun _ s₅ h₅=>wpAny_pure (wpAny_pure ⟨rfl,h₅⟩)) F)) F))
end
def cH (env:Env):List (Str×NameKind)->List (Str×Addr)->List (Str×Addr)
 | [],acc=>acc
 | (n,k)::r,acc=>if k==.free then cH env r ((n,(env.cells.lookup n).getD 0)::acc) else cH env r acc
theorem IV {env:Env}:∀(names:List (Str×NameKind)) (acc:List (Str×Addr)),(∀n,(n,NameKind.free)∈names->∃c,env.cells.lookup n=some c) ->
  (forIn names acc fun (x:Str×NameKind) (cs:List (Str×Addr))=>(match x with | (name,kind)=>if kind==.free then (do let a <-cellOf env name;pure (ForInStep.yield ((name,a)::cs))) else pure (ForInStep.yield cs):Sem (ForInStep (List (Str×Addr)))))=(pure (cH env names acc):Sem (List (Str×Addr)))
 | [],acc,_=>by rw [List.forIn_nil];rfl
 | (n,k)::r,acc,h=>by
  rw [List.forIn_cons];unfold cH;by_cases hk:(k==.free)=true
  ·simp only [hk,if_true]
   have hk':k=.free:=by simpa using hk
   obtain ⟨c,hc⟩:=h n (by rw [hk'];exact mem_cons_self)
   have e:cellOf env n=pure c:=by unfold cellOf;rw [hc]
   rw [e,hc];exact IV r ((n,c)::acc) fun n' hn=>h n' (mem_cons_of_mem _ hn)
  ·rw [if_neg hk]
   simp only [hk]
   exact IV r acc fun n' hn=>h n' (mem_cons_of_mem _ hn)
theorem gj {env:Env} {scope:Scope} (h:∀n,(n,NameKind.free)∈scope.names->∃c,env.cells.lookup n=some c):closureFor scope env=pure (cH env scope.names []):=by
 have:=IV (env:=env) scope.names [] h
 unfold closureFor;rw [show (pure (cH env scope.names []):Sem (List (Str×Addr)))=(pure (cH env scope.names []) >>= fun x=>pure x) from rfl,<-this]
theorem Jh {env:Env} {x:Str} {c:Addr}:∀{names:List (Str×NameKind)} {acc:List (Str×Addr)},(∀n,(n,NameKind.free)∈names->∃c,env.cells.lookup n=some c)->(cH env names acc).lookup x=some c->env.cells.lookup x=some c\/acc.lookup x=some c
 | [],_,_,e=>.inr e
 | (n,k)::r,acc,h,e=>by
  unfold cH at e;have h':∀n',(n',NameKind.free)∈r->∃c,env.cells.lookup n'=some c:=fun n' hn=>h n' (mem_cons_of_mem _ hn)
  by_cases hk:(k==.free)=true
  ·rw [if_pos hk] at e
   rcases Jh h' e with q | q
   ·exact .inl q
   ·rw [lookup_cons] at q
    have hk':k=.free:=by simpa using hk
    obtain ⟨c',hc⟩:=h n (by rw [hk'];exact mem_cons_self)
    cases hx:x==n with
    | true=>
     rw [hx,hc] at q
     cases q;rw [eq_of_beq hx];exact .inl hc
    | false=>
     rw [hx] at q;exact .inr q
  ·rw [if_neg hk] at e
   exact Jh h' e
theorem DC {env:Env} {x:Str}:∀{names:List (Str×NameKind)} {acc:List (Str×Addr)},(x,NameKind.free)∈names\/(acc.lookup x).isSome=true->((cH env names acc).lookup x).isSome=true
 | [],_,h=>h.elim nofun id
 | (n,k)::r,acc,h=>by
  unfold cH;by_cases hk:(k==.free)=true
  ·rw [if_pos hk]
   refine DC (names:=r) ?_
   rcases h with h | h
   ·rcases List.mem_cons.mp h with e | h
    ·cases e
     exact .inr (by rw [lookup_cons];simp)
    ·exact .inl h
   ·right
    rw [lookup_cons]
    cases hx:x==n with
    | true=>rfl
    | false=>exact h
  ·rw [if_neg hk]
   refine DC (names:=r) ?_
   rcases h with h | h
   ·rcases List.mem_cons.mp h with e | h
    ·cases e
     exact absurd rfl hk
    ·exact .inl h
   ·exact .inr h
theorem Em {x:Str} {c:Addr}:∀{names:List (Str×NameKind)} {n:Nat} {acc:List (Str×Addr)},(cellsFrom n names acc).lookup x=some c->((x,NameKind.cell)∈names/\n<=c)\/acc.lookup x=some c
 | [],_,_,e=>.inr e
 | (y,k)::r,n,acc,e=>by
  unfold cellsFrom at e;by_cases hk:(k==.cell)=true
  ·rw [if_pos hk] at e
   have hk':k=.cell:=by simpa using hk
   rcases Em e with ⟨q,l⟩ | q
   ·exact .inl ⟨mem_cons_of_mem _ q,by omega⟩
   ·rw [lookup_cons] at q
    cases hx:x==y with
    | true=>
     rw [hx] at q
     cases q;exact .inl ⟨by rw [eq_of_beq hx,hk'];exact mem_cons_self,Nat.le_refl _⟩
    | false=>
     rw [hx] at q;exact .inr q
  ·rw [if_neg hk] at e
   rcases Em e with ⟨q,l⟩ | q
   ·exact .inl ⟨mem_cons_of_mem _ q,l⟩
   ·exact .inr q
theorem Jj {x y:Str} {c:Addr}:∀{names:List (Str×NameKind)} {n:Nat} {acc:List (Str×Addr)},(∀z d,acc.lookup z=some d->d<n)->(∀x y d,acc.lookup x=some d->acc.lookup y=some d->x=y) ->
  (cellsFrom n names acc).lookup x=some c->(cellsFrom n names acc).lookup y=some c->x=y
 | [],_,_,_,hi,e,e'=>hi _ _ _ e e'
 | (z,k)::r,n,acc,hl,hi,e,e'=>by
  unfold cellsFrom at e e'
  by_cases hk:(k==.cell)=true
  ·rw [if_pos hk] at e e'
   refine Jj (names:=r) (n:=n+1) (acc:=(z,n)::acc) (fun a d q=>?_) (fun a b d q q'=>?_) e e'
   ·rw [lookup_cons] at q
    cases hx:a==z with
    | true=>rw [hx] at q;cases q;exact Nat.lt_succ_self _
    | false=>rw [hx] at q;exact Nat.lt_succ_of_lt (hl a d q)
   ·rw [lookup_cons] at q q'
    cases hx:a==z with
    | true=>
     rw [hx] at q
     cases q
     cases hy:b==z with
     | true=>rw [eq_of_beq hx,eq_of_beq hy]
     | false=>rw [hy] at q';exact absurd (hl b n q') (Nat.lt_irrefl _)
    | false=>
     rw [hx] at q
     cases hy:b==z with
     | true=>rw [hy] at q';cases q';exact absurd (hl a n q) (Nat.lt_irrefl _)
     | false=>rw [hy] at q';exact hi a b d q q'
  ·rw [if_neg hk] at e e'
   exact Jj hl hi e e'
theorem IW {env:Env} {x:Str} {c:Addr}:∀{names:List (Str×NameKind)} {acc:List (Str×Addr)},(cH env names acc).lookup x=some c->(x,NameKind.free)∈names\/acc.lookup x=some c
 | [],_,e=>.inr e
 | (n,k)::r,acc,e=>by
  unfold cH at e;by_cases hk:(k==.free)=true
  ·rw [if_pos hk] at e
   have hk':k=.free:=by simpa using hk
   rcases IW e with q | q
   ·exact .inl (mem_cons_of_mem _ q)
   ·rw [lookup_cons] at q
    cases hx:x==n with
    | true=>rw [eq_of_beq hx,hk'];exact .inl mem_cons_self
    | false=>rw [hx] at q;exact .inr q
  ·rw [if_neg hk] at e
   rcases IW e with q | q
   ·exact .inl (mem_cons_of_mem _ q)
   ·exact .inr q
theorem Ht {x:Str}:∀{names:List (Str×NameKind)} {n:Nat} {acc:List (Str×Addr)},(x,NameKind.cell)∈names\/(acc.lookup x).isSome=true->((cellsFrom n names acc).lookup x).isSome=true
 | [],_,_,h=>h.elim nofun id
 | (y,k)::r,n,acc,h=>by
  unfold cellsFrom;by_cases hk:(k==.cell)=true
  ·rw [if_pos hk]
   refine Ht (names:=r) ?_
   rcases h with h | h
   ·rcases List.mem_cons.mp h with e | h
    ·cases e
     exact .inr (by rw [lookup_cons];simp)
    ·exact .inl h
   ·right
    rw [lookup_cons]
    cases hx:x==y with
    | true=>rfl
    | false=>exact h
  ·rw [if_neg hk]
   refine Ht (names:=r) ?_
   rcases h with h | h
   ·rcases List.mem_cons.mp h with e | h
    ·cases e
     exact absurd rfl hk
    ·exact .inl h
   ·exact .inr h
theorem Hs {x:Str}:∀{names:List (Str×NameKind)} {n:Nat} {acc:List (Str×Addr)},(x,NameKind.cell)∉names->(cellsFrom n names acc).lookup x=acc.lookup x
 | [],_,_,_=>rfl
 | (y,k)::r,n,acc,h=>by
  unfold cellsFrom;have hr:(x,NameKind.cell)∉r:=fun z=>h (mem_cons_of_mem _ z)
  by_cases hk:(k==.cell)=true
  ·rw [if_pos hk,Hs hr,lookup_cons]
   have hk':k=.cell:=by simpa using hk
   cases hx:x==y with
   | true=>exact absurd (by rw [eq_of_beq hx,hk'];exact mem_cons_self) h
   | false=>rfl
  ·rw [if_neg hk]
   exact Hs hr
theorem Hu {x:Str} {c:Addr}:∀{names:List (Str×NameKind)} {n:Nat} {acc:List (Str×Addr)},(x,NameKind.cell)∈names->(cellsFrom n names acc).lookup x=some c->(cellsFrom n names []).lookup x=some c
 | [],_,_,h,_=>nomatch h
 | (y,k)::r,n,acc,h,e=>by
  unfold cellsFrom at e ⊢
  by_cases hk:(k==.cell)=true
  ·rw [if_pos hk] at e ⊢
   by_cases hr:(x,NameKind.cell)∈r
   ·have:∀{acc acc':List (Str×Addr)},(cellsFrom (n+1) r acc).lookup x=some c->(cellsFrom (n+1) r acc').lookup x=some c:=fun {a a'} q=>by
     have q0:=Hu hr q
     have hs:=Ht (n:=n+1) (acc:=a') (.inl hr)
     obtain ⟨c',hc'⟩:=Option.isSome_iff_exists.mp hs;have q1:=Hu hr hc'
     rw [q0] at q1
     cases q1;exact hc'
    exact this e
   ·rw [Hs hr] at e ⊢
    rw [lookup_cons] at e ⊢
    cases hx:x==y with
    | true=>rw [hx] at e;exact e
    | false=>
     rcases List.mem_cons.mp h with z | z
     ·cases z
      simp at hx
     ·exact absurd z hr
  ·rw [if_neg hk] at e ⊢
   rcases List.mem_cons.mp h with z | z
   ·cases z
    exact absurd rfl hk
   ·exact Hu z e
def blk (X:Cx) (scope:Scope) (cells:List (Str×Addr)) (C:Addr) (s₀:Shared) (H₀:Hp) (ex:List Addr):Cx where
 prog:=X.prog
 w:=X.w
 K:=X.K
 mg:=X.mg
 base:=X.base
 A:=X.A
 N:=X.N
 s₀:=s₀
 H₀:=H₀
 env:={ scope:=relabel scope X.env,locals:=C,globals:=X.env.globals,cells:=cells,qual:=X.env.qual,func:=none,code:=X.env.code,frame:=X.env.frame,builtins:=X.env.builtins }
 outer:=X.stack
 stack:=X.stack
 ex:=ex
 fn:=fun x=>scope.names.any fun y=>y.1==x&&y.2==.cell
 calm:=X.calm
 pn:=[]
 xe:=fun _ _=>False
structure dX (N:List Str) (is:List Nat) (osc scope:Scope):Prop where
 kind:scope.kind=.function
 free:∀n,(n,NameKind.free)∈scope.names->osc.names.lookup n=some .cell\/osc.names.lookup n=some .free
 own:∀(i:Nat) (x:Str),N[i]?=some x->(x,NameKind.local)∈scope.names\/(x,NameKind.cell)∈scope.names->i∈is
 loc:∀x∈scope.names,x.2=.local->scope.names.lookup x.1=some .local
 one:∀n,(n,NameKind.free)∈scope.names->(n,NameKind.cell)∉scope.names
def bK (is:List Nat) (σ:St):St:=σ.mapIdx fun i v=>if i∈is then none else v
theorem Ho (is:List Nat) (σ:St):(bK is σ).length=σ.length:=by unfold bK;simp
theorem j2 {is:List Nat} {σ:St} {i:Nat} {v:V} (h:(bK is σ)[i]?=some (some v)):i∉is/\σ[i]?=some (some v):=by
 unfold bK at h;rw [List.getElem?_mapIdx] at h
 cases e:σ[i]? with
 | none=>rw [e] at h;cases h
 | some o=>
  rw [e] at h;simp only [Option.map_some,Option.some.injEq] at h
  by_cases hi:i∈is
  ·rw [if_pos hi] at h;cases h
  ·rw [if_neg hi] at h;exact ⟨hi,by rw [h]⟩
def Lm (σ0 σ2:St):Prop:=σ2.length=σ0.length/\∀(i:Nat) v,σ0[i]?=some (some v)->σ2[i]?=some (some v)
theorem iE {x:Str} {k:NameKind} {l:List (Str×NameKind)} (h:l.lookup x=some k):(x,k)∈l:=PySem.mem_of_lookup h
theorem DF {scope:Scope} {env:Env} {x:Str} {k:NameKind} (h:(relabel scope env).names.lookup x=some k) :
  (x,k)∈scope.names\/((x,NameKind.free)∈scope.names/\k=.cell):=by
 have h:=iE h
 unfold relabel at h;obtain ⟨⟨n,k'⟩,hm,e⟩:=List.mem_map.mp h;dsimp only at e;by_cases hc:(k'==NameKind.free&&env.scope.kind==.function&&env.kindOf n==some .cell)=true
 ·rw [if_pos hc] at e
  cases e;have:k'=.free:=by
   simp only [Bool.and_eq_true,beq_iff_eq] at hc
   exact hc.1.1
  exact .inr ⟨this▸hm,rfl⟩
 ·rw [if_neg hc] at e
  cases e;exact .inl hm
def kd (X:Cx) (scope:Scope) (C:Addr):List (Str×Addr):=cellsFrom (C+1) scope.names (cH X.env scope.names [])
section
variable {X:Cx} {pins:List (Addr×Obj)} {σ:St} {H:Hp} {s:Shared} {scope:Scope} {is:List Nat}
theorem Inv.freeCells (I:Inv X pins σ H s) (S:dX X.N is X.env.scope scope):∀n,(n,NameKind.free)∈scope.names->∃c,X.env.cells.lookup n=some c:=fun n hn=>
 I.ok.has n (S.free n hn)
theorem Inv.blkOld (I:Inv X pins σ H s) (S:dX X.N is X.env.scope scope) {x:Str} {c:Addr} (h:(cH X.env scope.names []).lookup x=some c):X.env.cells.lookup x=some c:=by
 rcases Jh (I.freeCells S) h with q | q
 ·exact q
 ·cases q
theorem Inv.block {fp:List Addr} {t':Nat} (I:Inv X pins σ H s) (S:dX X.N is X.env.scope scope) (hf:∀b∈fp,m7 X pins H b) (hfs:∀b∈fp,b<s.heap.objs.size) :
  Inv (blk X scope (kd X scope (s.heap.objs.size+1)) (s.heap.objs.size+1) s H fp) [] (bK is σ) (cg H s.heap.objs.size (.lst []))
   { s with heap:=pushCells ((s.heap.push { cls:=.type "list",data:=.seq ([]:List Value).toArray }).push { cls:=.type "dict",data:=.dict #[] }) scope.names,toks:=t' }:=by
 generalize hC:s.heap.objs.size+1=C
 have hDn:H s.heap.objs.size=none:=I.hok.fresh (Nat.le_refl _)
 have s1:(s.heap.push { cls:=.type "list",data:=.seq ([]:List Value).toArray }).objs.size=C:=by rw [Heap.size_push,hC]
 have kept:∀b o,s.heap.get? b=some o->(pushCells ((s.heap.push { cls:=.type "list",data:=.seq ([]:List Value).toArray }).push { cls:=.type "dict",data:=.dict #[] }) scope.names).get? b=some o:=
  fun b o e=>pushCells_keeps _ _ b o (Heap.get?_push_of_some _ (Heap.get?_push_of_some _ e))
 have cellsL:∀x c,(kd X scope C).lookup x=some c->((x,NameKind.cell)∈scope.names/\C+1<=c)\/X.env.cells.lookup x=some c:=fun x c e=>by
  rcases Em e with q | q
  ·exact .inl q
  ·exact .inr (I.blkOld S q)
 have oldLt:∀x c,X.env.cells.lookup x=some c->c<s.heap.objs.size:=fun x c e=>by
  obtain ⟨v,q⟩:=I.cell x c e;exact q.lt
 have cok:CellsOk (pushCells ((s.heap.push { cls:=.type "list",data:=.seq ([]:List Value).toArray }).push { cls:=.type "dict",data:=.dict #[] }) scope.names) (C+1)
   (cellsFrom (C+1) scope.names []):=by
  have:=cellsFrom_ok scope.names ((s.heap.push { cls:=.type "list",data:=.seq ([]:List Value).toArray }).push { cls:=.type "dict",data:=.dict #[] }) (C+1) [] ⟨fun _ _ hm=>(nomatch hm),List.Pairwise.nil⟩ (by rw [Heap.size_push,s1];exact Nat.le_refl _)
  rw [Heap.size_push,s1] at this;exact this
 have lt1:∀{b:Nat},b<s.heap.objs.size->b≠C:=fun {b} h e=>by subst e;rw [<-hC] at h;exact absurd (Nat.lt_of_succ_lt h) (Nat.lt_irrefl _)
 have hDle:s.heap.objs.size<=C:=by rw [<-hC];exact Nat.le_succ _
 have cellAt:∀x c,(kd X scope C).lookup x=some c->(C<c/\(pushCells ((s.heap.push { cls:=.type "list",data:=.seq ([]:List Value).toArray }).push { cls:=.type "dict",data:=.dict #[] }) scope.names).IsCell c none)\/X.env.cells.lookup x=some c:=fun x c e=>by
  rcases cellsL x c e with ⟨q1,q2⟩ | q
  ·exact .inl ⟨q2,(cok.empty x c (PySem.mem_of_lookup (Hu q1 e))).1⟩
  ·exact .inr q
 refine ⟨⟨I.ok.mod,S.kind,I.ok.glob,I.ok.blt,hDle,?_,?_,?_,I.ok.hd,I.ok.frames,.inl rfl,?_,I.bs,Nat.le_trans I.ok.bsz I.sz,?_,?_,I.stack,I.stkFree⟩,rfl,I.bare,?_,?_,?_,?_,?_,fun p hp=>absurd (show p∈([]:List (Addr×Obj)) from hp) (by simp),?_,(Ho _ _).trans I.len⟩
 ·-- inj
  intro x y c hx hy;refine Jj (fun z d q=>?_) (fun a b d q q'=>I.ok.inj a b d (I.blkOld S q) (I.blkOld S q')) hx hy
  exact Nat.lt_succ_of_lt (Nat.lt_of_lt_of_le (oldLt z d (I.blkOld S q)) hDle)
 ·-- has
  intro x hx;have q:((kd X scope C).lookup x).isSome=true:=by
   refine Ht ?_
   have hx:(relabel scope X.env).names.lookup x=some .cell\/(relabel scope X.env).names.lookup x=some .free:=hx
   rcases hx with hx | hx
   ·rcases DF hx with z | ⟨z,_⟩
    ·exact .inl z
    ·exact .inr (DC (.inl z))
   ·rcases DF hx with z | ⟨z,_⟩
    ·exact .inr (DC (.inl z))
    ·exact .inr (DC (.inl z))
  exact Option.isSome_iff_exists.mp q
 ·-- cab
  intro x c hx e;have hx:(scope.names.any fun y=>y.1==x&&y.2==NameKind.cell)=true:=hx
  obtain ⟨y,hy,hz⟩:=List.any_eq_true.mp hx;simp only [Bool.and_eq_true,beq_iff_eq] at hz
  have hm:(x,NameKind.cell)∈scope.names:=by rw [<-hz.1,<-hz.2];exact hy
  rcases Em e with ⟨_,q⟩ | q
  ·exact Nat.le_trans hDle (Nat.le_of_succ_le q)
  ·rcases IW q with z | z
   ·exact absurd hm (S.one x z)
   ·cases z
 ·-- exf
  intro b hb;obtain ⟨f0,f1,f2,f3,f4,f5⟩:=hf b hb;refine ⟨lt1 (hfs b hb),fun x c e z=>?_⟩
  rcases cellsL x c e with ⟨_,q⟩ | q
  ·subst z
   exact absurd (Nat.lt_of_lt_of_le (hfs _ hb) hDle) (Nat.not_lt.mpr (Nat.le_of_succ_le q))
  ·exact f4 x c q z
 ·-- noex
  intro b o e hb;obtain ⟨f0,f1,f2,f3,f4,f5⟩:=hf b hb;rcases f3 with z | z
  ·exact I.ok.noex b o e z
  ·exact absurd (Nat.lt_of_lt_of_le (Heap.lt_size e) (Nat.le_trans I.ok.bsz z)) (Nat.lt_irrefl _)
 ·-- exfs
  intro b hb z;obtain ⟨f0,f1,f2,f3,f4,f5⟩:=hf b hb;rcases List.mem_cons.mp (I.stkSub b z) with e | e
  ·exact f1 e
  ·exact f2 e
 ·-- base
  exact Un.laid kept (Nat.le_refl _) hDn
 ·-- loc
  refine ⟨fun _=>none,?_,fun i x v e1 e2 e3=>?_⟩
  ·have:=(Heap.Ns.new (s.heap.push { cls:=.type "list",data:=.seq ([]:List Value).toArray }) (.type "dict")).keeps (pushCells_keeps scope.names _)
   rw [s1] at this;exact this
  ·obtain ⟨hni,e2'⟩:=j2 e2
   obtain ⟨m,hn,hl⟩:=id I.loc;have hfree:(x,NameKind.free)∈scope.names:=by
    have e3:(relabel scope X.env).names.lookup x=some .local\/(relabel scope X.env).names.lookup x=some .cell\/(relabel scope X.env).names.lookup x=some .free:=e3
    rcases e3 with z | z | z
    ·rcases DF z with y | ⟨y,_⟩
     ·exact absurd (S.own i x e1 (.inl y)) hni
     ·exact y
    ·rcases DF z with y | ⟨y,_⟩
     ·exact absurd (S.own i x e1 (.inr y)) hni
     ·exact y
    ·rcases DF z with y | ⟨y,_⟩
     ·exact y
     ·exact y
   have hk:=S.free x hfree
   obtain ⟨u,r,l⟩:=hl i x v e1 e2' (.inr hk)
   refine ⟨u,r,?_⟩
   rcases l with ⟨k,_⟩ | ⟨k,c,e,z⟩
   ·have k:X.env.scope.names.lookup x=some .local:=k
    rcases hk with q | q<;>(rw [q] at k;cases k)
   ·refine .inr ⟨?_,c,?_,z.keeps kept⟩
    ·have e3:(relabel scope X.env).names.lookup x=some .local\/(relabel scope X.env).names.lookup x=some .cell\/(relabel scope X.env).names.lookup x=some .free:=e3
     rcases e3 with y | y | y
     ·rcases DF y with y' | ⟨_,y'⟩
      ·exact absurd (S.own i x e1 (.inl y')) hni
      ·cases y'
     ·exact .inl y
     ·exact .inr y
    ·have q:=DC (env:=X.env) (acc:=[]) (.inl hfree)
     obtain ⟨c',hc'⟩:=Option.isSome_iff_exists.mp q;have:=I.blkOld S hc'
     rw [e] at this
     cases this;show (kd X scope C).lookup x=some c
     unfold kd;rw [Hs (S.one x hfree)];exact hc'
 ·-- cell
  intro x c e;rcases cellAt x c e with ⟨_,q⟩ | q
  ·exact ⟨_,q⟩
  ·obtain ⟨v,z⟩:=I.cell x c q
   exact ⟨v,z.keeps kept⟩
 ·-- free
  show cg H s.heap.objs.size (.lst []) C=none
  rw [gP (by rw [<-hC];exact Nat.ne_of_gt (Nat.lt_succ_self _))]
  exact I.hok.fresh hDle
 ·-- freeC
  intro x c e;show cg H s.heap.objs.size (.lst []) c=none
  rcases cellAt x c e with ⟨q,_⟩ | q
  ·have hc:s.heap.objs.size<c:=Nat.lt_of_le_of_lt hDle q
   rw [gP (Nat.ne_of_gt hc)];exact I.hok.fresh (Nat.le_of_lt hc)
  ·rw [gP (Nat.ne_of_lt (oldLt x c q))]
   exact I.freeC x c q
 ·-- hok
  exact I.hok.laid kept (Nat.le_refl _) ⟨Nat.zero_le _,[],0,.nil,pushCells_keeps _ _ _ _ (Heap.get?_push_of_some _ (Heap.get?_push_size _ rfl))⟩
end
section
variable {M:Model} {A:Around} {E:Value->Shared->Prop} {s:Shared}
theorem jj {scope:Scope} {globals:Addr} {cl:List (Str×Addr)} {qual:Str} {env:Env} {Q:Env->Shared->Prop}
  (hQ:Q (newEnv scope s.heap.objs.size globals (cellsFrom (s.heap.objs.size+1) scope.names cl) qual none .none (some env) builtinsNs) { s with heap:=pushCells (s.heap.push { cls:=.type "dict",data:=.dict #[] }) scope.names }) :
  wpAny M A (newFunctionEnv scope globals cl [] qual none .none (some env)) Q E s:=by
 simp only [newFunctionEnv,Option.isSome_some,if_true]
 refine wpAny_bind (wpAny_alloc ?_)
 refine wpAny_bind (wpAny_layCells _ (fun name kind cells=>by cases hkc:kind==NameKind.cell<;>simp [hkc]) _ _ _ _ ?_)
 rw [show ({ s with heap:=s.heap.push { cls:=.type "dict",data:=.dict #[] } }:Shared).heap.objs.size=s.heap.objs.size+1 from Heap.size_push ..]
 rw [List.forIn_nil];exact wpAny_bind (wpAny_pure (wpAny_pure hQ))
end
def PF (X:Cx) (ifs:List Expr) (t:TT):Prop:=
 ∀(pins:List (Addr×Obj)) (s:Shared) (σ:St) (H:Hp) (Q:Bool->Hp->Prop),Inv X pins σ H s->t σ H Q ->
  wpAny (model X.prog X.w) X.A (forIn ifs true fun c r=>if r=true then do let ok <-isTrue c X.env (eval c X.env);pure (ForInStep.yield ok) else pure (ForInStep.yield r)) (TP X pins σ Q) X.xe s
def EG:TT:=fun _ H Q=>Q true H
theorem BQ {X:Cx}:PF X [] EG:=fun pins s σ H Q I h=>wpAny_tests_nil ⟨H,I,h⟩
theorem BP {X:Cx} {c:Expr} {t:TT} (h:PT X c t):PF X [c] t:=fun pins s σ H Q I q=>wpAny_tests_one (h pins s σ H Q I q)
def o7 (is:List Nat) (wi:TI) (g:TG) (tc:TT) (te:TE):TE:=fun σ H Q=>wi σ H fun J H1=>∀D,H1 D=none->∃W:Nat->Nat->List V->Hp->Prop,(∃m,W 0 m [] (cg H1 D (.lst [])))/\∀k m ys H,W k m ys H ->
 H D=some (.lst ys)/\((J.stop k H/\Q (.ref D) H)\/(J.go k H/\ys.length<sizeLine/\∀x H',J.yld k H x H'->g x (bK is σ) H' fun σ2 H2=>Lm (bK is σ) σ2/\tc σ2 H2 fun b H3=>
  if b=true then te σ2 H3 fun v H4=>H4 D=some (.lst ys)/\∃m',m'<m/\W (k+1) m' (ys++[v]) (cg H4 D (.lst (ys++[v]))) else ∃m',m'<m/\W (k+1) m' ys H3))
section
variable {X:Cx} {scope:Scope} {is:List Nat} {tg iter elt:Expr} {ifs:List Expr} {wi:TI} {g:TG} {tc:TT} {te:TE} {pos:Pos}
theorem jX {pins:List (Addr×Obj)} {s:Shared} {σ:St} {H:Hp} {Q:VK} {RR:Value->Addr->Result->Shared->Prop} (S:dX X.N is X.env.scope scope) (hcalm:X.calm=true) (hi:PI X tg iter wi)
  (hg:∀cells C s₀ H₀ ex,PG (blk X scope cells C s₀ H₀ ex) tg g) (hc:∀cells C s₀ H₀ ex,PF (blk X scope cells C s₀ H₀ ex) ifs tc) (he:∀cells C s₀ H₀ ex,PE (blk X scope cells C s₀ H₀ ex) elt te)
  (I:Inv X pins σ H s) (h:o7 is wi g tc te σ H Q)
  (hRR:∀D C s' H' m,Inv X pins σ H' s'->s'.heap.Ns C m->Q (.ref D) H'->H' C=none->C≠X.env.locals->X.s₀.heap.objs.size<=C->(∀x c,X.env.cells.lookup x=some c->c≠C)->(∀p∈X.pn++pins,p.1≠C)->RR (.ref D) C (.ok .next) s') :
  wpAny (model X.prog X.w) X.A (eval iter X.env) (fun x s₁=>wpAny (model X.prog X.w) X.A (pyIter x) (fun it s₂=>wpAny (model X.prog X.w) X.A (newList []) (fun acc s₃=>
   wpAny (model X.prog X.w) X.A (newFunctionEnv scope X.env.globals (cH X.env scope.names []) [] X.env.qual none .none (some X.env)) (fun cenv s₄=>
    codeAny (model X.prog X.w) X.A (.compStart (.ListComp elt [⟨tg,iter,ifs,0⟩] scope pos) 0 it acc { cenv with scope:=relabel scope X.env }) (RR acc cenv.locals) s₄) X.xe s₃) X.xe s₂) X.xe s₁) X.xe s:=by
 refine bH (hi pins s σ H _ I h) fun v s1 h1=>bH h1 fun itv s2 h2=>?_
 obtain ⟨it,fp,tn,J,H2,e,I2,T,st2,f2,hW⟩:=h2;subst e;obtain ⟨W,⟨m0,w0⟩,turn⟩:=hW s2.heap.objs.size (I2.hok.fresh (Nat.le_refl _));refine wpAny_newObj_type (jj ?_)
 have s1:(s2.heap.push { cls:=.type "list",dict:=none,data:=.seq ([]:List Value).toArray }).objs.size=s2.heap.objs.size+1:=by rw [Heap.size_push]
 dsimp only;rw [s1];have hfs:∀b∈fp,b<s2.heap.objs.size:=fun b hb=>by
  obtain ⟨o,e,_⟩:=T.obj 0 _ st2 b hb;exact Heap.lt_size e
 have I4:=I2.block (t':=s2.toks) S f2 hfs
 generalize hCC:s2.heap.objs.size+1=C at I4 ⊢
 have hDC:s2.heap.objs.size<C:=by rw [<-hCC];exact Nat.lt_succ_self _
 have Hg:=hg (kd X scope C) C s2 H2 fp
 have Hc:=hc (kd X scope C) C s2 H2 fp
 have He:=he (kd X scope C) C s2 H2 fp
 have Ha:=jO (X:=blk X scope (kd X scope C) C s2 H2 fp)
 have hYcell:∀x c,(blk X scope (kd X scope C) C s2 H2 fp).env.cells.lookup x=some c->s2.heap.objs.size<=c\/X.env.cells.lookup x=some c:=fun x c e=>by
  have e:(cellsFrom (C+1) scope.names (cH X.env scope.names [])).lookup x=some c:=e
  rcases Em e with ⟨_,q⟩ | q
  ·exact .inl (Nat.le_trans (Nat.le_of_lt hDC) (Nat.le_of_succ_le q))
  ·exact .inr (I2.blkOld S q)
 have FY:∀{H':Hp},(∀b∈fp,H' b=none)->∀b∈fp,m7 (blk X scope (kd X scope C) C s2 H2 fp) [] H' b:=fun {H'} hn b hb=>by
  obtain ⟨f0,f1,f3,f4,f5,f6⟩:=f2 b hb;refine ⟨hn b hb,Nat.ne_of_lt (Nat.lt_trans (hfs b hb) hDC),fun z=>?_,.inl hb,fun x c e z=>?_,fun p hp=>absurd (show p∈([]:List (Addr×Obj)) from hp) (by simp)⟩
  ·rcases List.mem_cons.mp (I2.stkSub b z) with e | e
   ·exact f1 e
   ·exact f3 e
  ·rcases hYcell x c e with q | q
   ·rw [z] at q
    exact absurd (Nat.lt_of_lt_of_le (hfs b hb) q) (Nat.lt_irrefl _)
   ·exact f5 x c q z
 have hCx:∀x c,X.env.cells.lookup x=some c->c≠C:=fun x c e z=>by
  obtain ⟨v,q⟩:=I2.cell x c e;have:=q.lt
  rw [z] at this;exact absurd (Nat.lt_trans this hDC) (Nat.lt_irrefl _)
 have hCp:∀p∈X.pn++pins,p.1≠C:=fun p hp z=>by
  have:=Heap.lt_size (I2.pin p hp).1
  rw [z] at this;exact absurd (Nat.lt_trans this hDC) (Nat.lt_irrefl _)
 have out:∀{σ':St} {H':Hp} {s':Shared},Inv (blk X scope (kd X scope C) C s2 H2 fp) [] σ' H' s'->Inv X pins σ H' s':=fun {σ' H' s'} J=>
  I2.call' (ch:=fp) J.os J.base J.hok J.bare fun b hb=>by
   obtain ⟨f0,f1,f3,f4,f5,f6⟩:=f2 b hb;exact ⟨f4,f1,f5,f6⟩
 have loop:∀s₃:Shared,s₃={ s2 with heap:=pushCells ((s2.heap.push { cls:=.type "list",data:=.seq ([]:List Value).toArray }).push { cls:=.type "dict",data:=.dict #[] }) scope.names } ->
   codeAny (model X.prog X.w) X.A (.compLoop (.ListComp elt [⟨tg,iter,ifs,0⟩] scope pos) 0 (.ref it) (.ref s2.heap.objs.size) (blk X scope (kd X scope C) C s2 H2 fp).env) (RR (.ref s2.heap.objs.size) C) s₃:=by
  rintro s₃ rfl
  refine kO (fun n s'=>∃k ys H',Inv (blk X scope (kd X scope C) C s2 H2 fp) [] (bK is σ) H' s'/\tn k s'.heap/\(∀b∈fp,H' b=none)/\W k n ys H') ?_ m0
   ⟨0,[],_,I4,T.keep 0 _ _ st2 fun b _ o e=>pushCells_keeps _ _ b o (Heap.get?_push_of_some _ (Heap.get?_push_of_some _ e)),fun b hb=>by rw [gP (Nat.ne_of_lt (hfs b hb))];exact (f2 b hb).1,w0⟩
  rintro n s3 ⟨k,ys,H3,I3,st3,fr3,w3⟩
  obtain ⟨hD3,hcase⟩:=turn k n ys H3 w3;rcases hcase with ⟨stop,qn⟩ | ⟨go,hlen,step⟩
  ·refine bH (T.done (blk X scope (kd X scope C) C s2 H2 fp) rfl rfl rfl hcalm k [] s3 (bK is σ) H3 yY I3 (FY fr3) st3 stop) fun r s4 ⟨hr,I4⟩=>?_
   subst hr;obtain ⟨m,hn,_⟩:=id I4.loc;exact hRR _ C s4 H3 m (out I4) hn qn I4.free (fun z=>Nat.lt_irrefl _ (Nat.lt_trans (Nat.lt_of_lt_of_eq hDC z) I2.lt)) (Nat.le_trans I2.sz (Nat.le_of_lt hDC)) hCx hCp
  ·refine bH (T.item (blk X scope (kd X scope C) C s2 H2 fp) rfl rfl rfl hcalm k [] s3 (bK is σ) H3 yY I3 (FY fr3) st3 go) fun r s4 ⟨u,hr,h4⟩=>?_
   subst hr;refine bH h4 fun _ s5 ⟨x,H5,I5,r5,y5,st5,fr5⟩=>?_
   have I5':=I5.pinned (FY fr5) (T.obj _ _ st5)
   refine bH (Hg _ s5 (bK is σ) H5 x u _ I5' r5 (step x H5 y5)) fun _ s6 ⟨σ6,H6,I6,le6,q6⟩=>?_
   refine bH (Hc _ s6 σ6 H6 _ I6 q6) fun ok s7 ⟨H7,I7,q7⟩=>?_
   have again:∀{H8:Hp} {s8:Shared} {ys':List V},Inv (blk X scope (kd X scope C) C s2 H2 fp) ([]++DU fp s5.heap) σ6 H8 s8->(∃m',m'<n/\W (k+1) m' ys' H8) ->
     ∃m,m<n/\∃k ys H',Inv (blk X scope (kd X scope C) C s2 H2 fp) [] (bK is σ) H' s8/\tn k s8.heap/\(∀b∈fp,H' b=none)/\W k m ys H':=fun {H8 s8 ys'} I8 ⟨m',hm,w8⟩=>by
    refine ⟨m',hm,k+1,ys',H8,(I8.weak le6.1.symm le6.2).unpinned,T.keep _ _ _ st5 fun b hb o e=>(I8.pin (b,o) (mem_append_right _ (mem_append_right _ (Hl hb e)))).1,fun b hb=>?_,w8⟩
    obtain ⟨o,e,d⟩:=T.obj _ _ st5 b hb;exact (I8.pin (b,o) (mem_append_right _ (mem_append_right _ (Hl hb e)))).2.1
   cases ok with
   | false=>
    rw [if_neg Bool.false_ne_true] at q7;exact again I7 q7
   | true=>
    rw [if_pos rfl] at q7;refine bH (He _ s7 σ6 H7 _ I7 q7) fun y s8 ⟨v8,H8,I8,r8,q8⟩=>?_
    obtain ⟨hD8,q8⟩:=q8;refine bH (Ha _ s8 σ6 H8 (.ref s2.heap.objs.size) [v8] (.ref s2.heap.objs.size) [y] (fun _ H9=>∃m',m'<n/\W (k+1) m' (ys++[v8]) H9) I8 rfl (.cons r8 .nil) ⟨_,ys,v8,rfl,rfl,hD8,hlen,q8⟩) fun _ s9 ⟨_,H9,I9,_,q9⟩=>?_
    exact again I9 q9
 exact codeAny_compStart_list (loop _ rfl) (T.self X.A 0 _ _ _ (T.keep 0 _ _ st2 fun b _ o e=>pushCells_keeps _ _ b o (Heap.get?_push_of_some _ (Heap.get?_push_of_some _ e))) (loop _ rfl))
theorem xV (S:dX X.N is X.env.scope scope) (hcalm:X.calm=true) (hi:PI X tg iter wi)
  (hg:∀cells C s₀ H₀ ex,PG (blk X scope cells C s₀ H₀ ex) tg g) (hc:∀cells C s₀ H₀ ex,PF (blk X scope cells C s₀ H₀ ex) ifs tc) (he:∀cells C s₀ H₀ ex,PE (blk X scope cells C s₀ H₀ ex) elt te)
  (hs:∀x,foldedSetIterable iter X.env x=pure x:=by intro _;rfl):PE X (.ListComp elt [⟨tg,iter,ifs,0⟩] scope pos) (o7 is wi g tc te):=by
 intro pins s σ H Q I h;rw [eval_ListComp];refine wpAny_comprehension_free (use:=none) rfl hs (gj (I.freeCells S)) S.kind S.loc (jX (RR:=fun acc C=>compPost (model X.prog X.w) X.A X.xe none (EP X pins σ Q) acc C) S hcalm hi hg hc he I h ?_)
 intro D C s' H' m I' hn q n1 n2 n3 n4 n5
 refine ⟨m,hn,fun h' hs'=>?_⟩
 exact ⟨.ref D,H',I'.turned (t':=s'.toks) (fun b o hb e=>(hs'.2 b hb).trans e) n1 n2 (.inr n3) n4 n5,rfl,q⟩
theorem nM {i:Nat} {y:Str} {pos' spos:Pos} (hN:X.N.Nodup) (hy:X.N[i]?=some y) (hl:X.env.scope.names.lookup y=some .local) (S:dX X.N is X.env.scope scope) (hcalm:X.calm=true) (hi:PI X tg iter wi)
  (hg:∀cells C s₀ H₀ ex,PG (blk X scope cells C s₀ H₀ ex) tg g) (hc:∀cells C s₀ H₀ ex,PF (blk X scope cells C s₀ H₀ ex) ifs tc) (he:∀cells C s₀ H₀ ex,PE (blk X scope cells C s₀ H₀ ex) elt te)
  (hsw:swapsWith (.ListComp elt [⟨tg,iter,ifs,0⟩] scope pos) (some (.Name y pos')) spos.line X.env=pure true)
  (hs:∀x,foldedSetIterable iter X.env x=pure x:=by intro _;rfl):PS X (.Assign [.Name y pos'] (.ListComp elt [⟨tg,iter,ifs,0⟩] scope pos) spos) (fun D σ H=>o7 is wi g tc te σ H fun v H'=>D.nx (σ.set i (some v)) H'):=by
 intro pins s σ H Ds I h;rw [exec_Assign_Name_used _ _ _ _ hsw];refine wpAny_bind (wpAny_standAt (wpAny_bind ?_))
 show wpAny _ X.A (do let _ <-comprehension (.ListComp elt [⟨tg,iter,ifs,0⟩] scope pos) scope X.env _ (newList []) false (eval iter X.env) (some (assign (.Name y pos') X.env))) _ _ s
 refine wpAny_bind (wpAny_mono (wpAny_comprehension_free (use:=some (assign (.Name y pos') X.env)) (Q:=fun _ s'=>SP X pins Ds .next s') rfl hs (gj (I.freeCells S)) S.kind S.loc
  (jX (RR:=fun acc C=>compPost (model X.prog X.w) X.A X.xe (some (assign (.Name y pos') X.env)) (fun _ s'=>SP X pins Ds .next s') acc C) S hcalm hi hg hc he I h ?_)) (fun _ s' hq=>wpAny_pure (wpAny_pure hq)) fun _ _ e=>e)
 intro D C s' H' m I' hn q n1 n2 n3 n4 n5
 show wpAny _ X.A (assign (.Name y pos') X.env (.ref D)) _ _ _
 refine wpAny_assign_Name (jE (v:=.ref D) I' hN hy (.inl hl) rfl (fun s'' I'' hch=>?_) (.inr hl))
 obtain ⟨a,hsb,ha⟩:=hch;have hCa:C≠a:=by
  rcases ha with e | e
  ·rw [e];exact n2
  ·exact (n4 y a e).symm
 refine ⟨m,hn.sameBut hsb hCa,fun h' hs'=>?_⟩
 exact ⟨_,H',I''.turned (t':=s''.toks) (fun b o hb e=>(hs'.2 b hb).trans e) n1 n2 (.inr n3) n4 n5,q⟩
end
end L2
namespace T
open PySem PySem.Spec L2
open PyProof.Rows hiding St
abbrev D:=PyData
inductive Rep (K:Fg) (H:Hp):V->D->Prop where
 | non:Rep K H .non .none
 | bl (b:Bool):Rep K H (.bl b) (.bool b)
 | int (i:Int):Rep K H (.int i) (.int i)
 | str (x:Str):Rep K H (.str x) (.str x)
 | lst {p:Addr} {vs:List V} {ds:List D}:SqL K H p vs->vs.length=ds.length->(∀(i:Nat) v d,vs[i]?=some v->ds[i]?=some d->Rep K H v d)->Rep K H (.ref p) (.list ds)
 | tup {p:Addr} {vs:List V} {ds:List D}:SqT K H p vs->vs.length=ds.length->(∀(i:Nat) v d,vs[i]?=some v->ds[i]?=some d->Rep K H v d)->Rep K H (.ref p) (.tuple ds)
theorem gO {K:Fg} {H H':Hp} {a:Addr} {xs:List V} (e:Same H H') (h:SqT K H a xs):SqT K H' a xs:=by
 rcases h with (h | ⟨o,h⟩) | h
 ·exact .inl (.inl (e _ _ h))
 ·exact .inl (.inr ⟨o,e _ _ h⟩)
 ·exact .inr h
theorem Rep.mono {K:Fg} {H H':Hp} {v:V} {d:D} (e:Same H H') (h:Rep K H v d):Rep K H' v d:=by
 induction h with
 | non=>exact .non
 | bl b=>exact .bl b
 | int i=>exact .int i
 | str x=>exact .str x
 | lst hs hl _ ih=>exact .lst (e.seq hs) hl ih
 | tup hs hl _ ih=>exact .tup (gO e hs) hl ih
def Reps (K:Fg) (H:Hp) (vs:List V) (ds:List D):Prop:=vs.length=ds.length/\∀(i:Nat) v d,vs[i]?=some v->ds[i]?=some d->Rep K H v d
def cI (H:Hp) (O:List Addr):Hp:=fun a=>if a∈O then none else H a
theorem hid_le {H:Hp} {O:List Addr}:Same (cI H O) H:=fun b o h=>by
 unfold cI at h;split at h
 ·cases h
 ·exact h
theorem D4 {H:Hp} {O:List Addr} {a:Addr} {o:HO} (h:H a=some o) (n:a∉O):cI H O a=some o:=by
 unfold cI;rw [if_neg n];exact h
theorem wY {H H':Hp} {O O':List Addr} (e:Same H H') (h:∀a∈O',a∈O\/H a=none):Same (cI H O) (cI H' O'):=fun b o q=>by
 unfold cI at q ⊢
 split at q
 ·cases q
 ·rename_i hn
  have hb:b∉O':=fun z=>(h b z).elim hn fun z=>by rw [z] at q;cases q
  rw [if_neg hb];exact e b o q
theorem Ii {H:Hp} {O:List Addr} {p:Addr} {o:HO} (h:p∈O):cI (cg H p o) O=cI H O:=by
 funext b
 unfold cI;split
 ·rfl
 ·rename_i hb
  exact gP fun e=>hb (e▸h)
theorem D5 {H:Hp}:cI H []=H:=by
 funext b;unfold cI;simp
theorem kZ {H:Hp} {p:Addr} {o:HO} (h:H p=none):Same H (cg H p o):=fun b u e=>by
 rw [gP (zi e h)];exact e
inductive Sh where
 | view | leaf | lst (s:Sh) | tup (ss:List Sh)
def Sh.isView:Sh->Bool
 | .view=>true
 | _=>false
inductive Own (K:Fg) (O:List Addr) (H:Hp):Sh->List Addr->V->D->Prop where
 | view {v d}:Rep K H v d->Own K O H .view [] v d
 | leaf {v d}:Rep K (cI H O) v d->Own K O H .leaf [] v d
 | lst {s:Sh} {p:Addr} {vs:List V} {ds:List D} {Fs:List (List Addr)}:s.isView=false->H p=some (.lst vs)->vs.length=ds.length->Fs.length=ds.length->(p::Fs.flatten).Nodup ->
   (∀(i:Nat) v d F,vs[i]?=some v->ds[i]?=some d->Fs[i]?=some F->Own K O H s F v d)->Own K O H (.lst s) (p::Fs.flatten) (.ref p) (.list ds)
 | tup {ss:List Sh} {p:Addr} {vs:List V} {ds:List D} {Fs:List (List Addr)}:(∀s∈ss,s.isView=false)->H p=some (.tup vs)->p∉O->vs.length=ds.length->Fs.length=ds.length->ss.length=ds.length->Fs.flatten.Nodup ->
   (∀(i:Nat) v d F s,vs[i]?=some v->ds[i]?=some d->Fs[i]?=some F->ss[i]?=some s->Own K O H s F v d)->Own K O H (.tup ss) Fs.flatten (.ref p) (.tuple ds)
theorem Own.mono {K:Fg} {O O':List Addr} {H H':Hp} {s:Sh} {G:List Addr} {v:V} {d:D} (h:Own K O H s G v d) (e:Same H H') (hO:∀a∈O',a∈O\/H a=none):Own K O' H' s G v d:=by
 induction h with
 | view r=>exact .view (r.mono e)
 | leaf r=>exact .leaf (r.mono (wY e hO))
 | lst hv hp hl hf nd _ ih=>exact .lst hv (e _ _ hp) hl hf nd fun i v d F h1 h2 h3=>ih i v d F h1 h2 h3
 | tup hv hp hn hl hf hs nd _ ih=>exact .tup hv (e _ _ hp) (fun z=>(hO _ z).elim hn fun z=>by rw [z] at hp;cases hp) hl hf hs nd fun i v d F s h1 h2 h3 h4=>ih i v d F s h1 h2 h3 h4
theorem Own.rep {K:Fg} {O:List Addr} {H:Hp} {s:Sh} {G:List Addr} {v:V} {d:D} (h:Own K O H s G v d):Rep K H v d:=by
 induction h with
 | view r=>exact r
 | leaf r=>exact r.mono hid_le
 | lst hv hp hl hf _ q ih=>
  refine .lst (.of hp) hl fun i v d h1 h2=>?_
  rename_i Fs _;obtain ⟨F,hF⟩:∃F,Fs[i]?=some F:=by
   have:=(List.getElem?_eq_some_iff.mp h2).1
   exact ⟨Fs[i]'(by omega),getElem?_eq_getElem _⟩
  exact ih i v d F h1 h2 hF
 | tup hv hp hn hl hf hs _ q ih=>
  refine .tup (.of hp) hl fun i v d h1 h2=>?_
  rename_i ss _ _ _ Fs _;have hi:=(List.getElem?_eq_some_iff.mp h2).1
  exact ih i v d (Fs[i]'(by omega)) (ss[i]'(by omega)) h1 h2 (getElem?_eq_getElem _) (getElem?_eq_getElem _)
theorem kY {Fs:List (List Addr)} {i:Nat} {F:List Addr} {a:Addr} (h:Fs[i]?=some F) (ha:a∈F):a∈Fs.flatten:=List.mem_flatten.mpr ⟨F,mem_of_getElem? h,ha⟩
theorem Own.freeze {K:Fg} {O O':List Addr} {H:Hp} {s:Sh} {G:List Addr} {v:V} {d:D} (h:Own K O H s G v d) (hs:s.isView=false) (h1:∀a∈O',a∈O) (h2:∀a∈G,a∉O'):Rep K (cI H O') v d:=by
 induction h with
 | view r=>cases hs
 | leaf r=>exact r.mono (wY (Same.refl _) fun a z=>.inl (h1 a z))
 | lst hv hp hl hf _ q ih=>
  refine .lst (.of (D4 hp (h2 _ mem_cons_self))) hl fun i v d e1 e2=>?_
  rename_i Fs _;obtain ⟨F,hF⟩:∃F,Fs[i]?=some F:=by
   have:=(List.getElem?_eq_some_iff.mp e2).1
   exact ⟨Fs[i]'(by omega),getElem?_eq_getElem _⟩
  exact ih i v d F e1 e2 hF hv fun a ha=>h2 a (mem_cons_of_mem _ (kY hF ha))
 | tup hv hp hn hl hf hs' _ q ih=>
  refine .tup (.of (D4 hp fun z=>hn (h1 _ z))) hl fun i v d e1 e2=>?_
  rename_i ss _ _ _ Fs _;have hi:=(List.getElem?_eq_some_iff.mp e2).1
  have e3:Fs[i]?=some (Fs[i]'(by omega)):=getElem?_eq_getElem _
  exact ih i v d _ (ss[i]'(by omega)) e1 e2 e3 (getElem?_eq_getElem _) (hv _ (getElem_mem _)) fun a ha=>h2 a (kY e3 ha)
theorem Own.mut {K:Fg} {O:List Addr} {H:Hp} {s:Sh} {G:List Addr} {v:V} {d:D} {p:Addr} {o:HO} {xs:List V} (h:Own K O H s G v d) (hs:s.isView=false) (hp:p∈O) (hg:p∉G) (hl:H p=some (.lst xs)):Own K O (cg H p o) s G v d:=by
 induction h with
 | view r=>cases hs
 | leaf r=>refine .leaf ?_;rw [Ii hp];exact r
 | lst hv hq hl' hf nd q ih=>
  refine .lst hv ?_ hl' hf nd fun i v d F e1 e2 e3=>ih i v d F e1 e2 e3 hv fun z=>hg (mem_cons_of_mem _ (kY e3 z))
  rw [gP (fun z=>hg (by rw [<-z];exact mem_cons_self))]
  exact hq
 | tup hv hq hn hl' hf hs' nd q ih=>
  refine .tup hv ?_ hn hl' hf hs' nd fun i v d F s e1 e2 e3 e4=>ih i v d F s e1 e2 e3 e4 (hv _ (mem_of_getElem? e4)) fun z=>hg (kY e3 z)
  rw [gP (fun z=>by rw [z,hl] at hq;cases hq)]
  exact hq
inductive Sc:V->D->Prop where
 | non:Sc .non .none
 | bl (b:Bool):Sc (.bl b) (.bool b)
 | int (i:Int):Sc (.int i) (.int i)
 | str (x:Str):Sc (.str x) (.str x)
theorem Sc.rep {K:Fg} {H:Hp} {v:V} {d:D} (h:Sc v d):Rep K H v d:=by cases h<;>constructor
def bu:D->Bool
 | .list _=>false
 | .tuple _=>false
 | .dict _=>false
 | _=>true
theorem Rep.sc {K:Fg} {H:Hp} {v:V} {d:D} (h:Rep K H v d) (s:bu d=true):Sc v d:=by
 cases h with
 | non=>exact .non
 | bl b=>exact .bl b
 | int i=>exact .int i
 | str x=>exact .str x
 | lst _ _ _=>cases s
 | tup _ _ _=>cases s
structure PV where
 s:Sh
 d:D
abbrev Ev:=List (Option PV)
inductive Out (α:Type) where
 | ok (a:α) (e:Ev)
 | er (c:Str) (e:Ev)
 | no
def Out.bind {α β:Type} (x:Out α) (k:α->Ev->Out β):Out β:=match x with
 | .ok a e=>k a e
 | .er c e=>.er c e
 | .no=>.no
structure EnvOk (K:Fg) (He:Hp) (O:List Addr) (Fs:List (List Addr)) (H:Hp) (σ:St) (Γ:Ev):Prop where
 len1:σ.length=Γ.length
 len2:Fs.length=Γ.length
 same:Same He H
 nd:(O++Fs.flatten).Nodup
 inH:∀a∈O++Fs.flatten,H a≠none
 fresh:∀a∈Fs.flatten,He a=none
 slot:∀(i:Nat) (p:PV),Γ[i]?=some (some p)->p.s.isView=false/\∃v F,σ[i]?=some (some v)/\Fs[i]?=some F/\Own K (O++Fs.flatten) H p.s F v p.d
section
variable {K:Fg} {He H H':Hp} {O O' G:List Addr} {Fs:List (List Addr)} {σ:St} {Γ:Ev}
theorem EnvOk.grow (h:EnvOk K He O Fs H σ Γ) (e:Same H H'):EnvOk K He O Fs H' σ Γ:=
 ⟨h.len1,h.len2,h.same.trans e,h.nd,fun a ha z=>h.inH a ha (e.free z),h.fresh,fun i p q=>let ⟨a,v,F,b,c,d⟩:=h.slot i p q;⟨a,v,F,b,c,d.mono e fun _ z=>.inl z⟩⟩
theorem EnvOk.drop (h:EnvOk K He O Fs H σ Γ) (hs:∀a∈O',a∈O) (nd:O'.Nodup):EnvOk K He O' Fs H σ Γ:=by
 obtain ⟨n1,n2,n3⟩:=List.nodup_append.mp h.nd;refine ⟨h.len1,h.len2,h.same,List.nodup_append.mpr ⟨nd,n2,fun a ha b hb=>n3 a (hs a ha) b hb⟩,fun a ha=>h.inH a ?_,h.fresh,fun i p q=>let ⟨a,v,F,b,c,d⟩:=h.slot i p q;⟨a,v,F,b,c,d.mono (Same.refl _) fun a z=>.inl ?_⟩⟩
 ·rcases List.mem_append.mp ha with z | z
  ·exact mem_append_left _ (hs a z)
  ·exact mem_append_right _ z
 ·rcases List.mem_append.mp z with z | z
  ·exact mem_append_left _ (hs a z)
  ·exact mem_append_right _ z
theorem EnvOk.dropL (h:EnvOk K He (G++O) Fs H σ Γ):EnvOk K He O Fs H σ Γ:=h.drop (fun a z=>mem_append_right _ z) (List.nodup_append.mp (List.nodup_append.mp h.nd).1).2.1
theorem EnvOk.hide (h:EnvOk K He O Fs H σ Γ) (e:Same H H') (nd:G.Nodup) (hn:∀a∈G,H a=none) (hi:∀a∈G,H' a≠none):EnvOk K He (G++O) Fs H' σ Γ:=by
 refine ⟨h.len1,h.len2,h.same.trans e,?_,fun a ha=>?_,h.fresh,fun i p q=>let ⟨a,v,F,b,c,d⟩:=h.slot i p q;⟨a,v,F,b,c,d.mono e fun a z=>?_⟩⟩
 ·rw [append_assoc]
  exact List.nodup_append.mpr ⟨nd,h.nd,fun a ha b hb z=>h.inH b hb (by rw [<-z];exact hn a ha)⟩
 ·rw [append_assoc] at ha
  rcases List.mem_append.mp ha with z | z
  ·exact hi a z
  ·exact fun q=>h.inH a z (e.free q)
 ·rw [append_assoc] at z
  rcases List.mem_append.mp z with z | z
  ·exact .inr (hn a z)
  ·exact .inl z
end
structure Aft (K:Fg) (He:Hp) (O:List Addr) (Fs:List (List Addr)) (H:Hp) (σ:St) (Γ':Ev) (p:PV) (v:V) (H':Hp) (G:List Addr) (Fs':List (List Addr)):Prop where
 same:Same H H'
 env:EnvOk K He (G++O) Fs' H' σ Γ'
 new:∀a∈G++Fs'.flatten,a∈Fs.flatten\/H a=none
 own:Own K (G++O++Fs'.flatten) H' p.s G v p.d
abbrev XW:=Str->St->Hp->Prop
abbrev F1:=Ev->Out PV
def tE (K:Fg) (W:XW) (f:F1):TE:=fun σ H Q=>∃He O Fs Γ,EnvOk K He O Fs H σ Γ/\match f Γ with
 | .ok p Γ'=>∀v H' G Fs',Aft K He O Fs H σ Γ' p v H' G Fs'->Q v H'
 | .er c Γ'=>∀H' Fs',Same H H'->EnvOk K He O Fs' H' σ Γ'->W c σ H'
 | .no=>False
def Wants (K:Fg) (W:XW) (He:Hp) (O:List Addr) (Fs:List (List Addr)) (H:Hp) (σ:St) (Q:VK) (o:Out PV):Prop:=match o with
 | .ok p Γ'=>∀v H' G Fs',Aft K He O Fs H σ Γ' p v H' G Fs'->Q v H'
 | .er c Γ'=>∀H' Fs',Same H H'->EnvOk K He O Fs' H' σ Γ'->W c σ H'
 | .no=>False
section
variable {K:Fg} {W:XW} {He H:Hp} {O:List Addr} {Fs:List (List Addr)} {σ:St} {Γ Γ':Ev} {Q:VK}
theorem Wants.scal {H2:Hp} {O2:List Addr} {Fs2:List (List Addr)} {v:V} {d:D} (h:Wants K W He O Fs H σ Q (.ok ⟨.leaf,d⟩ Γ')) (s:Sc v d) (e:Same H H2) (E:EnvOk K He O2 Fs2 H2 σ Γ')
  (hO:∀a∈O,a∈O2) (nd:O.Nodup) (new:∀a∈Fs2.flatten,a∈Fs.flatten\/H a=none):Q v H2:=
 h v H2 [] Fs2 ⟨e,by rw [nil_append];exact E.drop hO nd,by rw [nil_append];exact new,.leaf s.rep⟩
theorem EnvOk.ndO (E:EnvOk K He O Fs H σ Γ):O.Nodup:=(List.nodup_append.mp E.nd).1
end
def bg {β:Type} (f:F1) (k:PV->Ev->Out β):Ev->Out β:=fun Γ=>(f Γ).bind k
section
variable {K:Fg} {W:XW} {σ:St} {H:Hp} {Q:VK} {fa fb:F1}
theorem wN {k:PV->F1} {R:VK} (h:tE K W (bg fa k) σ H Q)
  (hk:∀He O Fs Γ1 p v H1 G Fs1,O.Nodup->Aft K He O Fs H σ Γ1 p v H1 G Fs1->Wants K W He O Fs H σ Q (k p Γ1)->R v H1):tE K W fa σ H R:=by
 obtain ⟨He,O,Fs,Γ,E,h⟩:=h;refine ⟨He,O,Fs,Γ,E,?_⟩
 unfold bg at h
 cases e:fa Γ with
 | ok p Γ1=>
  rw [e] at h;exact fun v H' G Fs' A=>hk He O Fs Γ1 p v H' G Fs' E.ndO A h
 | er c Γ1=>
  rw [e] at h;exact h
 | no=>
  rw [e] at h;exact h
theorem Dw {k:PV->PV->F1} {R:V->V->Hp->Prop} (h:tE K W (bg fa fun p=>bg fb fun q=>k p q) σ H Q)
  (hk:∀He O Fs Γ2 p q v u H1 H2 G1 G2 Fs2,O.Nodup->Same H H1->Same H1 H2->EnvOk K He (G2++(G1++O)) Fs2 H2 σ Γ2->(∀a∈G2++(G1++Fs2.flatten),a∈Fs.flatten\/H a=none) ->
   Own K (G2++(G1++O)++Fs2.flatten) H2 p.s G1 v p.d->Own K (G2++(G1++O)++Fs2.flatten) H2 q.s G2 u q.d->Wants K W He O Fs H σ Q (k p q Γ2)->R v u H2) :
  tE K W fa σ H fun v H1=>tE K W fb σ H1 fun u H2=>R v u H2:=by
 refine wN (k:=fun p=>bg fb fun q=>k p q) h fun He O Fs Γ1 p v H1 G1 Fs1 nd A1 h1=>?_
 refine ⟨He,G1++O,Fs1,Γ1,A1.env,?_⟩
 unfold bg at h1
 cases e:fb Γ1 with
 | ok q Γ2=>
  rw [e] at h1;intro u H2 G2 Fs2 A2;have new:∀a∈G2++(G1++Fs2.flatten),a∈Fs.flatten\/H a=none:=fun a ha=>by
   have up:a∈G1++Fs1.flatten->a∈Fs.flatten\/H a=none:=A1.new a
   rcases List.mem_append.mp ha with z | z
   ·rcases A2.new a (mem_append_left _ z) with y | y
    ·exact up (mem_append_right _ y)
    ·exact .inr (A1.same.free y)
   ·rcases List.mem_append.mp z with z | z
    ·exact up (mem_append_left _ z)
    ·rcases A2.new a (mem_append_right _ z) with y | y
     ·exact up (mem_append_right _ y)
     ·exact .inr (A1.same.free y)
  refine hk He O Fs Γ2 p q v u H1 H2 G1 G2 Fs2 nd A1.same A2.same A2.env new (A1.own.mono A2.same fun a ha=>?_) A2.own h1
  rcases List.mem_append.mp ha with z | z
  ·rcases List.mem_append.mp z with z | z
   ·rcases A2.new a (mem_append_left _ z) with y | y
    ·exact .inl (mem_append_right _ y)
    ·exact .inr y
   ·exact .inl (mem_append_left _ z)
  ·rcases A2.new a (mem_append_right _ z) with y | y
   ·exact .inl (mem_append_right _ y)
   ·exact .inr y
 | er c Γ2=>
  rw [e] at h1;intro H2 Fs2 hs E2;exact h1 H2 Fs2 (A1.same.trans hs) E2.dropL
 | no=>
  rw [e] at h1;exact h1
end
section
variable {X:Cx} {e:Expr}
theorem aX {t t':TE} (h:PE X e t) (i:∀σ H Q,t' σ H Q->t σ H Q):PE X e t':=fun pins s σ H Q I q=>h pins s σ H Q I (i σ H Q q)
theorem j7 {t t':TT} (h:PT X e t) (i:∀σ H Q,t' σ H Q->t σ H Q):PT X e t':=fun pins s σ H Q I q=>h pins s σ H Q I (i σ H Q q)
theorem wj {t t':TT} (h:PW X e t) (i:∀σ H Q,t' σ H Q->t σ H Q):PW X e t':=fun whole pins s σ H Q I q=>h whole pins s σ H Q I (i σ H Q q)
theorem qq {es:List Expr} {t t':TA} (h:PA X es t) (i:∀σ H Q,t' σ H Q->t σ H Q):PA X es t':=fun pos pins s σ H Q I q=>h pos pins s σ H Q I (i σ H Q q)
theorem cw {st:Stmt} {t t':TS} (h:PS X st t) (i:∀D σ H,t' D σ H->t D σ H):PS X st t':=fun pins s σ H D I q=>h pins s σ H D I (i D σ H q)
theorem DX {st:List Stmt} {t t':TS} (h:PSs X st t) (i:∀D σ H,t' D σ H->t D σ H):PSs X st t':=fun pins s σ H D I q=>h pins s σ H D I (i D σ H q)
theorem Gr {es:List Expr} {t t':TT} (h:PF X es t) (i:∀σ H Q,t' σ H Q->t σ H Q):PF X es t':=fun pins s σ H Q I q=>h pins s σ H Q I (i σ H Q q)
end
theorem Jf {h:Heap}:∀{vs:List V} {its:List Value} {ds:List D},Vals vs its->vs.length=ds.length->(∀(i:Nat) v d,vs[i]?=some v->ds[i]?=some d->∀u,RelV v u->∃as,Reads h u d as)->∃as,ReadsAll h its ds as
 | _,_,[],.nil,_,_=>⟨_,.nil⟩
 | _,_,d::ds,.cons (a:=v) (b:=u) r t,hl,h=>by
  obtain ⟨as,ra⟩:=h 0 v d rfl rfl u r;obtain ⟨bs,rb⟩:=Jf t (by simpa using hl) fun i v d h1 h2=>h (i+1) v d (by simpa using h1) (by simpa using h2)
  exact ⟨_,.cons ra rb⟩
 | _,_,[],.cons _ _,hl,_=>by simp at hl
 | _,_,_::_,.nil,hl,_=>by simp at hl
theorem Rep.reads {X:Cx} {pins:List (Addr×Obj)} {σ:St} {H:Hp} {s:Shared} {x:V} {d:D} (I:Inv X pins σ H s) (r:Rep X.K H x d):∀u,RelV x u->∃as,Reads s.heap u d as:=by
 induction r with
 | non=>rintro u rfl;exact ⟨_,.none⟩
 | bl b=>rintro u rfl;exact ⟨_,.bool b⟩
 | int i=>rintro u ⟨t,rfl⟩;exact ⟨_,.int i t⟩
 | str x=>rintro u ⟨t,rfl⟩;exact ⟨_,.str x t⟩
 | lst hq hl _ ih=>
  rintro u rfl
  obtain ⟨its,rv,⟨o,n,e1,e2,e3,e4⟩,_⟩:=I.list hq;obtain ⟨as,ra⟩:=Jf rv hl ih;exact ⟨_,.list e1 e2 e4 (by simpa using ra)⟩
 | tup hq hl _ ih=>
  rintro u rfl
  obtain ⟨its,rv,⟨o,e1,e2,n,e4⟩,_⟩:=I.tuple hq;obtain ⟨as,ra⟩:=Jf rv hl ih;exact ⟨_,.tuple e1 e2 e4 (by simpa using ra)⟩
theorem oR {α:Type} {F G:List α}:∀{Fs:List (List α)} {i:Nat},Fs[i]?=some F->(F++(Fs.set i G).flatten).Perm (G++Fs.flatten)
 | [],_,h=>by simp at h
 | A::r,0,h=>by
  simp at h
  subst h;simp only [List.set_cons_zero,flatten_cons]
  rw [<-append_assoc,<-append_assoc];exact List.Perm.append_right _ perm_append_comm
 | A::r,i+1,h=>by
  have ih:=oR (G:=G) (Fs:=r) (i:=i) (by simpa using h)
  simp only [List.set_cons_succ,flatten_cons]
  calc (F++(A++(r.set i G).flatten)).Perm (A++(F++(r.set i G).flatten)):=by
        rw [<-append_assoc,<-append_assoc];exact List.Perm.append_right _ perm_append_comm
    _ |>.Perm (A++(G++r.flatten)):=List.Perm.append_left _ ih
    _ |>.Perm (G++(A++r.flatten)):=by
        rw [<-append_assoc,<-append_assoc];exact List.Perm.append_right _ perm_append_comm
section
variable {K:Fg} {He H:Hp} {O G:List Addr} {Fs:List (List Addr)} {σ:St} {Γ:Ev}
theorem EnvOk.lt (E:EnvOk K He O Fs H σ Γ) {i:Nat} (h:i<Γ.length):∃F,Fs[i]?=some F:=⟨Fs[i]'(by rw [E.len2];exact h),getElem?_eq_getElem _⟩
theorem EnvOk.move {i:Nat} {p:PV} (E:EnvOk K He O Fs H σ Γ) (h:Γ[i]?=some (some p)) :
  p.s.isView=false/\∃v F,σ[i]?=some (some v)/\EnvOk K He (F++O) (Fs.set i []) H σ (Γ.set i none)/\Own K (F++O++(Fs.set i []).flatten) H p.s F v p.d/\(∀a∈F++(Fs.set i []).flatten,a∈Fs.flatten):=by
 obtain ⟨hv,v,F,h1,h2,h3⟩:=E.slot i p h;have pm:(F++(Fs.set i []).flatten).Perm Fs.flatten:=by simpa using oR (G:=[]) h2
 have pm2:(F++O++(Fs.set i []).flatten).Perm (O++Fs.flatten):=by
  rw [append_assoc]
  calc (F++(O++(Fs.set i []).flatten)).Perm (O++(F++(Fs.set i []).flatten)):=by
        rw [<-append_assoc,<-append_assoc];exact List.Perm.append_right _ perm_append_comm
    _ |>.Perm (O++Fs.flatten):=List.Perm.append_left _ pm
 refine ⟨hv,v,F,h1,⟨by rw [length_set];exact E.len1,by rw [length_set,length_set];exact E.len2,E.same,pm2.nodup_iff.mpr E.nd,fun a ha=>E.inH a (pm2.mem_iff.mp ha),fun a ha=>E.fresh a (pm.mem_iff.mp (mem_append_right _ ha)),fun j q hq=>?_⟩,h3.mono (Same.refl _) fun a ha=>.inl (pm2.mem_iff.mp ha),fun a ha=>pm.mem_iff.mp ha⟩
 by_cases hj:j=i
 ·subst hj
  rw [List.getElem?_set] at hq;split at hq
  ·split at hq<;>cases hq
  ·rename_i z
   exact absurd rfl z
 ·rw [getElem?_set_ne (Ne.symm hj)] at hq
  obtain ⟨w1,v',F',e1,e2,e3⟩:=E.slot j q hq;exact ⟨w1,v',F',e1,by rw [getElem?_set_ne (Ne.symm hj)];exact e2,e3.mono (Same.refl _) fun a ha=>.inl (pm2.mem_iff.mp ha)⟩
theorem EnvOk.put {i:Nat} {p:PV} {v:V} (E:EnvOk K He (G++O) Fs H σ Γ) (ho:Own K (G++O++Fs.flatten) H p.s G v p.d) (hv:p.s.isView=false) (hn:∀a∈G,He a=none) (hi:i<Γ.length) :
  EnvOk K He O (Fs.set i G) H (σ.set i (some v)) (Γ.set i (some p)):=by
 obtain ⟨F,hF⟩:=E.lt hi;have pm:=oR (G:=G) hF
 have nd:=E.nd
 rw [append_assoc] at nd;have sub:∀a∈O++(Fs.set i G).flatten,a∈G++O++Fs.flatten:=fun a ha=>by
  rw [append_assoc];rcases List.mem_append.mp ha with z | z
  ·exact mem_append_right _ (mem_append_left _ z)
  ·rcases List.mem_append.mp (pm.mem_iff.mp (mem_append_right _ z)) with y | y
   ·exact mem_append_left _ y
   ·exact mem_append_right _ (mem_append_right _ y)
 refine ⟨by rw [length_set,length_set];exact E.len1,by rw [length_set,length_set];exact E.len2,E.same,?_,fun a ha=>E.inH a (sub a ha),fun a ha=>?_,fun j q hq=>?_⟩
 ·have p1:(O++(F++(Fs.set i G).flatten)).Perm (G++(O++Fs.flatten)):=by
   calc (O++(F++(Fs.set i G).flatten)).Perm (O++(G++Fs.flatten)):=List.Perm.append_left _ pm
     _ |>.Perm (G++(O++Fs.flatten)):=by
       rw [<-append_assoc,<-append_assoc];exact List.Perm.append_right _ perm_append_comm
  have p2:=p1.nodup_iff.mpr nd
  refine p2.sublist ?_
  exact List.Sublist.append_left (List.sublist_append_right _ _) _
 ·rcases List.mem_append.mp (pm.mem_iff.mp (mem_append_right _ ha)) with y | y
  ·exact hn a y
  ·exact E.fresh a y
 ·by_cases hj:j=i
  ·subst hj
   rw [getElem?_set_self hi] at hq
   cases hq;refine ⟨hv,v,G,?_,?_,ho.mono (Same.refl _) fun a ha=>.inl (sub a ha)⟩
   ·rw [getElem?_set_self (by rw [E.len1];exact hi)]
   ·rw [getElem?_set_self (by rw [E.len2];exact hi)]
  ·rw [getElem?_set_ne (Ne.symm hj)] at hq
   obtain ⟨w1,v',F',e1,e2,e3⟩:=E.slot j q hq;exact ⟨w1,v',F',by rw [getElem?_set_ne (Ne.symm hj)];exact e1,by rw [getElem?_set_ne (Ne.symm hj)];exact e2,e3.mono (Same.refl _) fun a ha=>.inl (sub a ha)⟩
theorem Aft.freshG {Γ':Ev} {p:PV} {v:V} {H':Hp} {Fs':List (List Addr)} (E:EnvOk K He O Fs H σ Γ) (A:Aft K He O Fs H σ Γ' p v H' G Fs'):∀a∈G,He a=none:=fun a ha=>by
 rcases A.new a (mem_append_left _ ha) with z | z
 ·exact E.fresh a z
 ·exact E.same.free z
end
def af (i:Nat):F1:=fun Γ=>match Γ[i]? with
 | some (some p)=>(match p.s with
  | .leaf=>.ok ⟨.leaf,p.d⟩ Γ
  | _=>.ok ⟨.view,p.d⟩ Γ)
 | _=>.no
def bT (i:Nat):F1:=fun Γ=>match Γ[i]? with
 | some (some p)=>.ok p (Γ.set i none)
 | _=>.no
def eK (d:D):F1:=fun Γ=>.ok ⟨.leaf,d⟩ Γ
section
variable {X:Cx} {W:XW} {i:Nat} {e:Expr} {pos:Pos}
theorem Ba {K:Fg} {σ:St} {H:Hp} {Q:VK} (h:tE K W (af i) σ H Q):fA i σ H Q:=by
 obtain ⟨He,O,Fs,Γ,E,h⟩:=h;unfold af at h
 cases e:Γ[i]? with
 | none=>rw [e] at h;exact h.elim
 | some o=>
  rw [e] at h
  cases o with
  | none=>exact h.elim
  | some p=>
   obtain ⟨hv,v,F,h1,h2,h3⟩:=E.slot i p e;obtain ⟨s,d⟩:=p;have new:∀a∈[]++Fs.flatten,a∈Fs.flatten\/H a=none:=fun a ha=>.inl (by simpa using ha)
   cases s with
   | leaf=>
    cases h3 with
    | leaf r=>exact ⟨v,h1,h v H [] Fs ⟨Same.refl _,by simpa using E,new,.leaf r⟩⟩
   | view=>cases hv
   | lst s=>exact ⟨v,h1,h v H [] Fs ⟨Same.refl _,by simpa using E,new,.view h3.rep⟩⟩
   | tup ss=>exact ⟨v,h1,h v H [] Fs ⟨Same.refl _,by simpa using E,new,.view h3.rep⟩⟩
theorem xC {K:Fg} {σ:St} {H:Hp} {Q:VK} (h:tE K W (bT i) σ H Q):fA i σ H Q:=by
 obtain ⟨He,O,Fs,Γ,E,h⟩:=h;unfold bT at h
 cases e:Γ[i]? with
 | none=>rw [e] at h;exact h.elim
 | some o=>
  rw [e] at h
  cases o with
  | none=>exact h.elim
  | some p=>
   obtain ⟨hv,v,F,h1,E',o',sub⟩:=E.move e;exact ⟨v,h1,h v H F (Fs.set i []) ⟨Same.refl _,E',fun a ha=>.inl (sub a ha),o'⟩⟩
theorem vK (h:PE X e (fA i)):PE X e (tE X.K W (af i)):=aX h fun _ _ _=>Ba
theorem yD (h:PE X e (fA i)):PE X e (tE X.K W (bT i)):=aX h fun _ _ _=>xC
theorem uv {K:Fg} {σ:St} {H:Hp} {Q:VK} {v:V} {d:D} (hs:∀H,Rep K H v d) (h:tE K W (eK d) σ H Q):Q v H:=by
 obtain ⟨He,O,Fs,Γ,E,h⟩:=h;exact h v H [] Fs ⟨Same.refl _,by simpa using E,fun a ha=>.inl (by simpa using ha),.leaf (hs _)⟩
theorem de_str {j:Str} {k pos}:PE X (.Constant (.str j) k pos) (tE X.K W (eK (.str j))):=aX uR fun _ _ _=>uv fun _=>.str j
theorem yE {x:Str} {v:V} {u:Value} {d:D} (hg:Gl X x) (hm:X.mg x=some u) (r:RelV v u) (hr:∀H,Rep X.K H v d) (hd:(x==("__debug__":Str))=false:=by decide):PE X (.Name x pos) (tE X.K W (eK d)):=
 aX (pQ hg hm r hd) fun _ _ _=>uv hr
end
def az (g:D->D->Option D) (fa fb:F1):F1:=bg fa fun p=>bg fb fun q=>fun Γ=>match g p.d q.d with
 | some d=>.ok ⟨.leaf,d⟩ Γ
 | none=>.no
def GOp (K:Fg) (r:R2) (g:D->D->Option D):Prop:=∀x y H Q a b d,Rep K H x a->Rep K H y b->g a b=some d->(∀v,Sc v d->Q v H)->r x y H Q
section
variable {K:Fg} {W:XW} {σ:St} {H:Hp} {Q:VK} {fa fb:F1} {r:R2} {g:D->D->Option D}
theorem gG (hg:GOp K r g) (h:tE K W (az g fa fb) σ H Q):zt r (tE K W fa) (tE K W fb) σ H Q:=by
 refine Dw h ?_
 intro He O Fs Γ2 p q v u H1 H2 G1 G2 Fs2 nd s1 s2 E new o1 o2 w
 cases e:g p.d q.d with
 | none=>rw [e] at w;exact w.elim
 | some d=>
  rw [e] at w;exact hg v u H2 Q p.d q.d d o1.rep o2.rep e fun z s=>w.scal s (s1.trans s2) E (fun a ha=>mem_append_right _ (mem_append_right _ ha)) nd fun a ha=>new a (mem_append_right _ (mem_append_right _ ha))
end
theorem GOp.or {K:Fg} {r r':R2} {g g':D->D->Option D} (h:GOp K r g) (h':GOp K r' g'):GOp K (fun x y H Q=>r x y H Q\/r' x y H Q) (fun a b=>(g a b).or (g' a b)):=by
 intro x y H Q a b d ra rb e k;have e:(g a b).or (g' a b)=some d:=e
 cases e1:g a b with
 | some z=>rw [e1] at e;cases e;exact .inl (h x y H Q a b _ ra rb e1 k)
 | none=>rw [e1] at e;exact .inr (h' x y H Q a b d ra rb (by simpa using e) k)
def gI (C:Int->Int->Bool) (f:Int->Int->D):D->D->Option D
 | .int i,.int j=>if C i j then some (f i j) else none
 | _,_=>none
theorem p9 {K:Fg} {C:Int->Int->Prop} {C':Int->Int->Bool} {g:Int->Int->V} {f:Int->Int->D} (hC:∀i j,C' i j=true->C i j) (hs:∀i j,Sc (g i j) (f i j)):GOp K (rI C g) (gI C' f):=by
 intro x y H Q a b d ra rb e k
 cases ra<;>cases rb<;>simp only [gI] at e<;>try cases e
 rename_i i j;split at e
 ·rename_i c
  cases e;exact ⟨i,j,rfl,rfl,hC i j c,k _ (hs i j)⟩
 ·cases e
def zP (f:Int->Int->D):D->D->Option D
 | .int i,.int j=>some (f i j)
 | _,_=>none
theorem Du {K:Fg} {g:Int->Int->V} {f:Int->Int->D} (hs:∀i j,Sc (g i j) (f i j)):GOp K (pK g) (zP f):=by
 intro x y H Q a b d ra rb e k
 cases ra<;>cases rb<;>simp only [zP] at e<;>try cases e
 rename_i i j;exact ⟨i,j,rfl,rfl,k _ (hs i j)⟩
abbrev gSub:=zP fun i j=>.int (i-j)
abbrev aO:=zP fun i j=>.int (i+j)
def sC (i j:Int):Bool:=(decide (-(2 ^ 64)<i)&&decide (i<2 ^ 64))||(decide (-(2 ^ 64)<j)&&decide (j<2 ^ 64))
abbrev kE:=gI sC fun i j=>.int (i*j)
def yO (_ j:Int):Bool:=decide (0<j)&&decide (j<1073741824)
abbrev oq:=gI yO fun i j=>.int (i / j)
def yN (_ j:Int):Bool:=decide (0<j)
abbrev bV:=gI yN fun i j=>.int (i % j)
def yM (i j:Int):Bool:=decide (0<=j)&&decide (j<=1000000)&&decide (i.natAbs<2 ^ 64)
abbrev mB:=gI yM fun i j=>.int (i ^ j.toNat)
mutual
def Sh.same:Sh->Sh->Bool
 | .view,.view=>true
 | .leaf,.leaf=>true
 | .lst a,.lst b=>Sh.same a b
 | .tup as,.tup bs=>Sh.sameL as bs
 | _,_=>false
def Sh.sameL:List Sh->List Sh->Bool
 | [],[]=>true
 | a::as,b::bs=>Sh.same a b&&Sh.sameL as bs
 | _,_=>false
end
mutual
theorem Sh.same_eq:∀{a b:Sh},Sh.same a b=true->a=b
 | .view,.view,_=>rfl
 | .leaf,.leaf,_=>rfl
 | .lst a,.lst b,h=>by rw [Sh.same_eq (a:=a) (b:=b) (by simpa [Sh.same] using h)]
 | .tup as,.tup bs,h=>by rw [Sh.sameL_eq (as:=as) (bs:=bs) (by simpa [Sh.same] using h)]
 | .view,.leaf,h=>by simp [Sh.same] at h
 | .view,.lst _,h=>by simp [Sh.same] at h
 | .view,.tup _,h=>by simp [Sh.same] at h
 | .leaf,.view,h=>by simp [Sh.same] at h
 | .leaf,.lst _,h=>by simp [Sh.same] at h
 | .leaf,.tup _,h=>by simp [Sh.same] at h
 | .lst _,.view,h=>by simp [Sh.same] at h
 | .lst _,.leaf,h=>by simp [Sh.same] at h
 | .lst _,.tup _,h=>by simp [Sh.same] at h
 | .tup _,.view,h=>by simp [Sh.same] at h
 | .tup _,.leaf,h=>by simp [Sh.same] at h
 | .tup _,.lst _,h=>by simp [Sh.same] at h
theorem Sh.sameL_eq:∀{as bs:List Sh},Sh.sameL as bs=true->as=bs
 | [],[],_=>rfl
 | a::as,b::bs,h=>by
  have h:Sh.same a b=true/\Sh.sameL as bs=true:=by simpa [Sh.sameL] using h
  rw [Sh.same_eq h.1,Sh.sameL_eq h.2]
 | [],_::_,h=>by simp [Sh.sameL] at h
 | _::_,[],h=>by simp [Sh.sameL] at h
end
def coer (s:Sh) (p:PV):Bool:=match s with
 | .leaf=>!p.s.isView||bu p.d
 | .view=>false
 | s=>Sh.same s p.s
def br (s:Sh) (G:List Addr):List Addr:=match s with
 | .leaf=>[]
 | _=>G
theorem jQ {s:Sh} {G:List Addr} {a:Addr} (h:a∈br s G):a∈G:=by
 unfold br at h;split at h
 ·simp at h
 ·exact h
theorem Own.coer {K:Fg} {O O':List Addr} {H:Hp} {s:Sh} {p:PV} {G:List Addr} {v:V} (h:Own K O H p.s G v p.d) (c:coer s p=true) (h1:∀a∈O',a∈O) (h2:∀a∈G,a∈O'->a∈br s G):Own K O' H s (br s G) v p.d:=by
 cases s with
 | view=>simp [T.coer] at c
 | leaf=>
  show Own K O' H .leaf [] v p.d
  have c:(!p.s.isView||bu p.d)=true:=c
  cases hv:p.s.isView with
  | false=>exact .leaf (h.freeze hv h1 fun a ha z=>by simpa [br] using h2 a ha z)
  | true=>
   rw [hv] at c;exact .leaf (h.rep.sc (by simpa using c)).rep
 | lst s=>
  have e:Sh.lst s=p.s:=Sh.same_eq c
  show Own K O' H (.lst s) G v p.d
  rw [e];exact h.mono (Same.refl _) fun a ha=>.inl (h1 a ha)
 | tup ss=>
  have e:Sh.tup ss=p.s:=Sh.same_eq c
  show Own K O' H (.tup ss) G v p.d
  rw [e];exact h.mono (Same.refl _) fun a ha=>.inl (h1 a ha)
open PySem.SeqAt in
def bL:D->D->Option D:=fun a b=>if shaped a&&shaped b then some (.bool (PyData.eqv a b)) else none
open PySem.SeqAt in
def jm:D->D->Option D:=fun a b=>if shaped a&&shaped b then some (.bool (!PyData.eqv a b)) else none
open PySem.SeqAt in
def qW (K:Fg) (neg:Bool):R2:=fun x y H Q=>∃a b,Rep K H x a/\Rep K H y b/\shaped a=true/\shaped b=true/\Q (.bl (if neg then !PyData.eqv a b else PyData.eqv a b)) H
section
variable {X:Cx}
theorem B7 (hu:X.A.units+64<cLine):OpR X (compareOp .Eq) (qW X.K false):=by
 intro pins s σ H x y v u Q I rx ry h;obtain ⟨a,b,ra,rb,sa,sb,q⟩:=h;obtain ⟨as,r1⟩:=ra.reads I v rx;obtain ⟨bs,r2⟩:=rb.reads I u ry;exact SeqAt.compareEq_shaped r1 r2 sa sb hu ⟨.bl _,H,I,rfl,q⟩
theorem B1 (hu:X.A.units+64<cLine):OpR X (compareOp .NotEq) (qW X.K true):=by
 intro pins s σ H x y v u Q I rx ry h;obtain ⟨a,b,ra,rb,sa,sb,q⟩:=h;obtain ⟨as,r1⟩:=ra.reads I v rx;obtain ⟨bs,r2⟩:=rb.reads I u ry;exact SeqAt.compareNe_shaped r1 r2 sa sb hu ⟨.bl _,H,I,rfl,q⟩
end
theorem CQ {K:Fg}:GOp K (qW K false) bL:=by
 intro x y H Q a b d ra rb e k;unfold bL at e;split at e
 ·rename_i c
  cases e;simp only [Bool.and_eq_true] at c
  exact ⟨a,b,ra,rb,c.1,c.2,k _ (.bl _)⟩
 ·cases e
theorem CN {K:Fg}:GOp K (qW K true) jm:=by
 intro x y H Q a b d ra rb e k;unfold jm at e;split at e
 ·rename_i c
  cases e;simp only [Bool.and_eq_true] at c
  exact ⟨a,b,ra,rb,c.1,c.2,k _ (.bl _)⟩
 ·cases e
def CZ:D->D->Option D
 | .str i,.str j=>some (.bool (decide (i.cps.toList<j.cps.toList)))
 | _,_=>none
abbrev Kd:=zP fun i j=>.bool (decide (i<j))
abbrev eR:D->D->Option D:=fun a b=>(Kd a b).or (CZ a b)
abbrev sR:=zP fun i j=>.bool (decide (i<=j))
abbrev rO:=zP fun i j=>.bool (decide (j<i))
abbrev LL:=zP fun i j=>.bool (decide (j<=i))
theorem ym {K:Fg}:GOp K (fun x y H Q=>∃i j,x=.str i/\y=.str j/\Q (.bl (decide (i.cps.toList<j.cps.toList))) H) CZ:=by
 intro x y H Q a b d ra rb e k
 cases ra<;>cases rb<;>simp only [CZ] at e<;>try cases e
 rename_i i j;exact ⟨i,j,rfl,rfl,k _ (.bl _)⟩
theorem CO {K:Fg}:GOp K (fun x y H Q=>pK (fun i j=>.bl (decide (i<j))) x y H Q\/∃i j,x=.str i/\y=.str j/\Q (.bl (decide (i.cps.toList<j.cps.toList))) H) eR:=
 (Du fun _ _=>.bl _).or ym
open PySem.SeqAt in
def bE (neg:Bool):D->D->Option D
 | a,.list xs=>if shaped a&&shaped (.list xs) then some (.bool (if neg then !xs.any fun y=>PyData.eqv y a else xs.any fun y=>PyData.eqv y a)) else none
 | a,.tuple xs=>if shaped a&&shaped (.tuple xs) then some (.bool (if neg then !xs.any fun y=>PyData.eqv y a else xs.any fun y=>PyData.eqv y a)) else none
 | _,_=>none
def uF (K:Fg) (neg:Bool):R2:=fun x y H Q=>∃a b d,Rep K H x a/\Rep K H y b/\bE neg a b=some (.bool d)/\Q (.bl d) H
theorem vv {K:Fg} {neg:Bool}:GOp K (uF K neg) (bE neg):=by
 intro x y H Q a b d ra rb e k;have:∃c,d=.bool c:=by
  cases b<;>simp only [bE] at e<;>(try cases e)<;>(split at e<;>cases e<;>exact ⟨_,rfl⟩)
 obtain ⟨c,rfl⟩:=this;exact ⟨a,b,c,ra,rb,e,k _ (.bl c)⟩
theorem Hr {d:D} {xs:List D} (h:SeqAt.shaped d=true) (e:d=.list xs\/d=.tuple xs):PyData.canLayAll0 xs=true/\PyData.depthAll xs+1<=64:=by
 have h1:=SeqAt.canLay_of_shaped h
 have h2:=SeqAt.depth_of_shaped h
 rcases e with e | e<;>subst e<;>exact ⟨by simpa [PyData.canLay0] using h1,by simpa [PyData.depth] using h2⟩
section
variable {X:Cx}
theorem B6 (hu:X.A.units+64<cLine):OpR X (compareOp .In) (uF X.K false):=by
 intro pins s σ H x y v u Q I rx ry h;obtain ⟨a,b,d,ra,rb,e,q⟩:=h;obtain ⟨as,r1⟩:=ra.reads I v rx;obtain ⟨bs,r2⟩:=rb.reads I u ry
 cases b<;>simp only [bE] at e<;>try cases e
 all_goals
  split at e
  ·rename_i c
   simp only [Bool.and_eq_true] at c
   simp only [Option.some.injEq,PyData.bool.injEq] at e
   subst e;first
    | (obtain ⟨p1,p2⟩:=Hr c.2 (.inl rfl)
       exact SeqAt.in_list_reads r2 r1 p1 (SeqAt.canLay_of_shaped c.1) (Nat.lt_of_le_of_lt (by have:=Nat.min_le_left (PyData.depthAll ‹_›) a.depth;omega) hu) ⟨.bl _,H,I,rfl,q⟩)
    | (obtain ⟨p1,p2⟩:=Hr c.2 (.inr rfl)
       exact SeqAt.in_tuple_reads r2 r1 p1 (SeqAt.canLay_of_shaped c.1) (Nat.lt_of_le_of_lt (by have:=Nat.min_le_left (PyData.depthAll ‹_›) a.depth;omega) hu) ⟨.bl _,H,I,rfl,q⟩)
  ·cases e
theorem rg (hu:X.A.units+64<cLine):OpR X (compareOp .NotIn) (uF X.K true):=by
 intro pins s σ H x y v u Q I rx ry h;obtain ⟨a,b,d,ra,rb,e,q⟩:=h;obtain ⟨as,r1⟩:=ra.reads I v rx;obtain ⟨bs,r2⟩:=rb.reads I u ry
 cases b<;>simp only [bE] at e<;>try cases e
 all_goals
  split at e
  ·rename_i c
   simp only [Bool.and_eq_true] at c
   simp only [Option.some.injEq,PyData.bool.injEq] at e
   subst e;first
    | (obtain ⟨p1,p2⟩:=Hr c.2 (.inl rfl)
       exact SeqAt.notIn_list_reads r2 r1 p1 (SeqAt.canLay_of_shaped c.1) (Nat.lt_of_le_of_lt (by have:=Nat.min_le_left (PyData.depthAll ‹_›) a.depth;omega) hu) ⟨.bl _,H,I,rfl,q⟩)
    | (obtain ⟨p1,p2⟩:=Hr c.2 (.inr rfl)
       exact SeqAt.notIn_tuple_reads r2 r1 p1 (SeqAt.canLay_of_shaped c.1) (Nat.lt_of_le_of_lt (by have:=Nat.min_le_left (PyData.depthAll ‹_›) a.depth;omega) hu) ⟨.bl _,H,I,rfl,q⟩)
  ·cases e
end
def WantsB (K:Fg) (W:XW) (He:Hp) (O:List Addr) (Fs:List (List Addr)) (H:Hp) (σ:St) (Q:Bool->Hp->Prop) (o:Out Bool):Prop:=match o with
 | .ok b Γ'=>∀H' Fs',Same H H'->EnvOk K He O Fs' H' σ Γ'->(∀a∈Fs'.flatten,a∈Fs.flatten\/H a=none)->Q b H'
 | .er c Γ'=>∀H' Fs',Same H H'->EnvOk K He O Fs' H' σ Γ'->W c σ H'
 | .no=>False
abbrev FB:=Ev->Out Bool
def tT (K:Fg) (W:XW) (f:FB):TT:=fun σ H Q=>∃He O Fs Γ,EnvOk K He O Fs H σ Γ/\WantsB K W He O Fs H σ Q (f Γ)
section
variable {K:Fg} {W:XW} {He H H1:Hp} {O:List Addr} {Fs Fs1:List (List Addr)} {σ:St} {Γ Γ':Ev} {Q:VK} {QB:Bool->Hp->Prop}
theorem Wants.after {o:Out PV} (h:Wants K W He O Fs H σ Q o) (s:Same H H1) (n:∀a∈Fs1.flatten,a∈Fs.flatten\/H a=none):Wants K W He O Fs1 H1 σ Q o:=by
 cases o with
 | ok p Γ'=>exact fun v H' G Fs' A=>h v H' G Fs' ⟨s.trans A.same,A.env,fun a ha=>(A.new a ha).elim (n a) fun z=>.inr (s.free z),A.own⟩
 | er c Γ'=>exact fun H' Fs' e E=>h H' Fs' (s.trans e) E
 | no=>exact h
theorem WantsB.after {o:Out Bool} (h:WantsB K W He O Fs H σ QB o) (s:Same H H1) (n:∀a∈Fs1.flatten,a∈Fs.flatten\/H a=none):WantsB K W He O Fs1 H1 σ QB o:=by
 cases o with
 | ok p Γ'=>exact fun H' Fs' e E n'=>h H' Fs' (s.trans e) E fun a ha=>(n' a ha).elim (n a) fun z=>.inr (s.free z)
 | er c Γ'=>exact fun H' Fs' e E=>h H' Fs' (s.trans e) E
 | no=>exact h
theorem Aft.go {p:PV} {v:V} {G:List Addr} (A:Aft K He O Fs H σ Γ' p v H1 G Fs1):EnvOk K He O Fs1 H1 σ Γ':=A.env.dropL
theorem Aft.newF {p:PV} {v:V} {G:List Addr} (A:Aft K He O Fs H σ Γ' p v H1 G Fs1):∀a∈Fs1.flatten,a∈Fs.flatten\/H a=none:=fun a ha=>A.new a (mem_append_right _ ha)
end
section
variable {K:Fg} {W:XW} {σ:St} {H:Hp} {Q:VK} {QB:Bool->Hp->Prop} {fa fb fc:F1} {ga gb:FB}
def aN (g:D->Option Bool) (f:F1):FB:=fun Γ=>(f Γ).bind fun p Γ'=>match g p.d with
 | some b=>.ok b Γ'
 | none=>.no
theorem o5 {g:D->Option Bool} {R:VK} (h:tT K W (aN g fa) σ H QB) (hR:∀v d b H1,Rep K H1 v d->g d=some b->QB b H1->R v H1):tE K W fa σ H R:=by
 obtain ⟨He,O,Fs,Γ,E,h⟩:=h;refine ⟨He,O,Fs,Γ,E,?_⟩
 unfold aN at h
 cases e:fa Γ with
 | ok p Γ'=>
  rw [e] at h;intro v H' G Fs' A
  have h:WantsB K W He O Fs H σ QB (match g p.d with | some b=>.ok b Γ' | none=>.no):=h
  cases e2:g p.d with
  | some b=>
   rw [e2] at h;exact hR v p.d b H' A.own.rep e2 (h H' Fs' A.same A.go A.newF)
  | none=>rw [e2] at h;exact h.elim
 | er c Γ'=>rw [e] at h;exact h
 | no=>rw [e] at h;exact h
def ax:D->Option Bool
 | .bool b=>some b
 | _=>none
theorem pA {t:TE} (hi:∀Q,tE K W fa σ H Q->t σ H Q) (h:tT K W (aN ax fa) σ H QB):t5 t σ H QB:=by
 refine hi _ (o5 h fun v d b H1 r e q=>?_)
 cases r<;>simp only [ax] at e<;>try cases e
 exact ⟨_,rfl,q⟩
def bf:D->Option Bool
 | .none=>some false
 | .bool b=>some b
 | .int i=>some (i != 0)
 | .str x=>if x.length<=sizeLine then some ((x.length:Int) != 0) else none
 | .list xs=>some (!xs.isEmpty)
 | .tuple xs=>some (!xs.isEmpty)
 | .dict _=>none
theorem uo (h:tT K W (aN bf fa) σ H QB):tE K W fa σ H fun x H'=>∃k,Dl K x H' k/\QB k H':=by
 refine o5 h fun v d b H1 r e q=>?_
 cases r with
 | non=>cases e;exact ⟨_,rfl,q⟩
 | bl c=>cases e;exact ⟨_,rfl,q⟩
 | int i=>cases e;exact ⟨_,rfl,q⟩
 | str x=>
  simp only [bf] at e
  split at e
  ·rename_i z;cases e;exact ⟨_,⟨z,rfl⟩,q⟩
  ·cases e
 | @lst p vs ds hq hl _=>
  cases e;exact ⟨_,.inl ⟨vs,hq,by cases vs<;>cases ds<;>simp_all⟩,q⟩
 | @tup p vs ds hq hl _=>
  cases e;exact ⟨_,.inr (.inl ⟨vs,hq,by cases vs<;>cases ds<;>simp_all⟩),q⟩
def dU (a b:FB):FB:=fun Γ=>(a Γ).bind fun c Γ'=>if c then b Γ' else .ok false Γ'
def hJ (a b:FB):FB:=fun Γ=>(a Γ).bind fun c Γ'=>if c then .ok true Γ' else b Γ'
def b9 (a:FB):FB:=fun Γ=>(a Γ).bind fun c Γ'=>.ok (!c) Γ'
theorem ID {k:Bool->Ev->Out Bool} {R:Bool->Hp->Prop} (h:tT K W (fun Γ=>(ga Γ).bind k) σ H QB)
  (hk:∀(He:Hp) (O:List Addr) Γ1 b H1 Fs1,Same H H1->EnvOk K He O Fs1 H1 σ Γ1->WantsB K W He O Fs1 H1 σ QB (k b Γ1)->R b H1):tT K W ga σ H R:=by
 obtain ⟨He,O,Fs,Γ,E,h⟩:=h;have h:WantsB K W He O Fs H σ QB ((ga Γ).bind k):=h
 refine ⟨He,O,Fs,Γ,E,?_⟩
 cases e:ga Γ with
 | ok b Γ1=>rw [e] at h;exact fun H' Fs' s E' n=>hk He O Γ1 b H' Fs' s E' (WantsB.after (o:=k b Γ1) h s n)
 | er c Γ1=>rw [e] at h;exact h
 | no=>rw [e] at h;exact h
theorem WantsB.now {He:Hp} {O:List Addr} {Fs:List (List Addr)} {Γ:Ev} {b:Bool} (h:WantsB K W He O Fs H σ QB (.ok b Γ)) (E:EnvOk K He O Fs H σ Γ):QB b H:=h H Fs (Same.refl _) E fun _ z=>.inl z
theorem xJ (h:tT K W (dU ga gb) σ H QB):EO (tT K W ga) (tT K W gb) σ H QB:=by
 refine ID h fun He O Γ1 b H1 Fs1 s E w=>?_
 cases b with
 | true=>exact oa ⟨He,O,Fs1,Γ1,E,w⟩
 | false=>exact kB (WantsB.now w E)
theorem uC (h:tT K W (hJ ga gb) σ H QB):KG (tT K W ga) (tT K W gb) σ H QB:=by
 refine ID h fun He O Γ1 b H1 Fs1 s E w=>?_
 cases b with
 | false=>exact kB ⟨He,O,Fs1,Γ1,E,w⟩
 | true=>exact oa (WantsB.now w E)
theorem pF (h:tT K W (b9 ga) σ H QB):EI (tT K W ga) σ H QB:=ID h fun He O Γ1 b H1 Fs1 s E w=>WantsB.now w E
def d9 (fa fb:F1):F1:=bg fa fun p Γ=>match p.d with
 | .bool true=>fb Γ
 | .bool false=>.ok ⟨.leaf,.bool false⟩ Γ
 | _=>.no
def vC (fa:F1):F1:=bg fa fun p Γ=>match p.d with
 | .bool b=>.ok ⟨.leaf,.bool (!b)⟩ Γ
 | _=>.no
theorem Bu (h:tE K W (d9 fa fb) σ H Q):zx (tE K W fa) (tE K W fb) σ H Q:=by
 refine wN h fun He O Fs Γ1 p v H1 G Fs1 nd A w=>?_
 have r:=A.own.rep
 obtain ⟨s,d⟩:=p
 cases r with
 | bl b=>
  cases b with
  | true=>exact ⟨true,rfl,oa ⟨He,O,Fs1,Γ1,A.go,Wants.after w A.same A.newF⟩⟩
  | false=>exact ⟨false,rfl,kB (Wants.scal w (.bl false) A.same A.env (fun a ha=>mem_append_right _ ha) nd A.newF)⟩
 | _=>exact w.elim
theorem Be (h:tE K W (vC fa) σ H Q):zu (tE K W fa) σ H Q:=by
 refine wN h fun He O Fs Γ1 p v H1 G Fs1 nd A w=>?_
 have r:=A.own.rep
 obtain ⟨s,d⟩:=p
 cases r with
 | bl b=>exact ⟨b,rfl,Wants.scal w (.bl _) A.same A.env (fun a ha=>mem_append_right _ ha) nd A.newF⟩
 | _=>exact w.elim
def wG (c:FB) (fa fb:F1):F1:=fun Γ=>(c Γ).bind fun b Γ'=>if b then fa Γ' else fb Γ'
theorem EX (h:tE K W (wG ga fa fb) σ H Q):KI (tT K W ga) (tE K W fa) (tE K W fb) σ H Q:=by
 obtain ⟨He,O,Fs,Γ,E,h⟩:=h;refine ⟨He,O,Fs,Γ,E,?_⟩
 unfold wG at h
 cases e:ga Γ with
 | ok b Γ1=>
  rw [e] at h;intro H' Fs' s E' n
  have h':=Wants.after (o:=if b then fa Γ1 else fb Γ1) h s n
  cases b with
  | true=>exact oa ⟨He,O,Fs',Γ1,E',h'⟩
  | false=>exact kB ⟨He,O,Fs',Γ1,E',h'⟩
 | er c Γ1=>rw [e] at h;exact h
 | no=>rw [e] at h;exact h
def m9 (g g':D->D->Option D) (fa fb fc:F1):F1:=bg fa fun p=>bg fb fun q=>fun Γ=>match g p.d q.d with
 | some (.bool true)=>if bu q.d then (fc Γ).bind fun z Γ'=>(match g' q.d z.d with | some d=>.ok ⟨.leaf,d⟩ Γ' | none=>.no) else .no
 | some (.bool false)=>.ok ⟨.leaf,.bool false⟩ Γ
 | _=>.no
theorem lS {r r':R2} {g g':D->D->Option D} (hg:GOp K r g) (hg':GOp K r' g') (h:tE K W (m9 g g' fa fb fc) σ H Q):IC r r' (tE K W fa) (tE K W fb) (tE K W fc) σ H Q:=by
 refine Dw h ?_
 intro He O Fs Γ2 p q v u H1 H2 G1 G2 Fs2 nd s1 s2 E new o1 o2 w;have sub:∀a∈O,a∈G2++(G1++O):=fun a ha=>mem_append_right _ (mem_append_right _ ha)
 have newF:∀a∈Fs2.flatten,a∈Fs.flatten\/H a=none:=fun a ha=>new a (mem_append_right _ (mem_append_right _ ha))
 cases e:g p.d q.d with
 | none=>rw [e] at w;exact w.elim
 | some d=>
  rw [e] at w;refine hg v u H2 _ p.d q.d d o1.rep o2.rep e fun z s=>?_
  cases s with
  | bl b=>
   cases b with
   | false=>exact ⟨false,rfl,kB (Wants.scal w (.bl false) (s1.trans s2) E sub nd newF)⟩
   | true=>
    refine ⟨true,rfl,oa ?_⟩
    have w:Wants K W He O Fs H σ Q (if bu q.d then (fc Γ2).bind fun z Γ'=>(match g' q.d z.d with | some d=>.ok ⟨.leaf,d⟩ Γ' | none=>.no) else .no):=w
    cases hs:bu q.d with
    | false=>rw [hs] at w;exact w.elim
    | true=>
     rw [hs] at w;have w:Wants K W He O Fs H σ Q ((fc Γ2).bind fun z Γ'=>(match g' q.d z.d with | some d=>.ok ⟨.leaf,d⟩ Γ' | none=>.no)):=w
     have su:=o2.rep.sc hs
     refine ⟨He,O,Fs2,Γ2,E.drop sub nd,?_⟩
     cases e3:fc Γ2 with
     | ok p3 Γ3=>
      rw [e3] at w;intro v3 H3 G3 Fs3 A3;have w:Wants K W He O Fs H σ Q (match g' q.d p3.d with | some d=>.ok ⟨.leaf,d⟩ Γ3 | none=>.no):=w
      cases e4:g' q.d p3.d with
      | none=>rw [e4] at w;exact w.elim
      | some d4=>
       rw [e4] at w;exact hg' u v3 H3 Q q.d p3.d d4 su.rep A3.own.rep e4 fun z s=>Wants.scal w s ((s1.trans s2).trans A3.same) A3.env (fun a ha=>mem_append_right _ ha) nd fun a ha=>(A3.new a (mem_append_right _ ha)).elim (newF a) fun z=>.inr ((s1.trans s2).free z)
     | er c Γ3=>
      rw [e3] at w;exact fun H' Fs' s E'=>w H' Fs' ((s1.trans s2).trans s) E'
     | no=>rw [e3] at w;exact w
  | non=>exact w.elim
  | int i=>exact w.elim
  | str x=>exact w.elim
end
structure AftL (K:Fg) (He:Hp) (O:List Addr) (Fs:List (List Addr)) (H:Hp) (σ:St) (Γ':Ev) (ps:List PV) (vs:List V) (H':Hp) (Gs Fs':List (List Addr)):Prop where
 same:Same H H'
 len1:vs.length=ps.length
 len2:Gs.length=ps.length
 env:EnvOk K He (Gs.flatten++O) Fs' H' σ Γ'
 new:∀a∈Gs.flatten++Fs'.flatten,a∈Fs.flatten\/H a=none
 own:∀(i:Nat) v p G,vs[i]?=some v->ps[i]?=some p->Gs[i]?=some G->Own K (Gs.flatten++O++Fs'.flatten) H' p.s G v p.d
abbrev FL:=Ev->Out (List PV)
def wd (K:Fg) (W:XW) (He:Hp) (O:List Addr) (Fs:List (List Addr)) (H:Hp) (σ:St) (Q:List V->Hp->Prop) (o:Out (List PV)):Prop:=match o with
 | .ok ps Γ'=>∀vs H' Gs Fs',AftL K He O Fs H σ Γ' ps vs H' Gs Fs'->Q vs H'
 | .er c Γ'=>∀H' Fs',Same H H'->EnvOk K He O Fs' H' σ Γ'->W c σ H'
 | .no=>False
def tA (K:Fg) (W:XW) (f:FL):TA:=fun σ H Q=>∃He O Fs Γ,EnvOk K He O Fs H σ Γ/\wd K W He O Fs H σ Q (f Γ)
def ag:FL:=fun Γ=>.ok [] Γ
def ae (fa:F1) (fl:FL):FL:=fun Γ=>(fa Γ).bind fun p Γ1=>(fl Γ1).bind fun ps Γ2=>.ok (p::ps) Γ2
section
variable {K:Fg} {W:XW} {σ:St} {H:Hp} {Q:VK} {QL:List V->Hp->Prop} {fa fb:F1} {fl:FL}
theorem Bf (h:tA K W ag σ H QL):qK σ H QL:=by
 obtain ⟨He,O,Fs,Γ,E,h⟩:=h;exact h [] H [] Fs ⟨Same.refl _,rfl,rfl,by simpa using E,fun a ha=>.inl (by simpa using ha),fun i v p G e=>by simp at e⟩
theorem pP {α:Type} (A B C:List α):(A++(B++C)).Perm (B++(A++C)):=by
 rw [<-append_assoc,<-append_assoc];exact List.Perm.append_right _ perm_append_comm
theorem EnvOk.perm {He H:Hp} {O O':List Addr} {Fs:List (List Addr)} {Γ:Ev} (E:EnvOk K He O Fs H σ Γ) (p:O'.Perm O):EnvOk K He O' Fs H σ Γ:=E.drop (fun a ha=>p.mem_iff.mp ha) (p.nodup_iff.mpr E.ndO)
theorem Own.perm {H:Hp} {O O':List Addr} {s:Sh} {G:List Addr} {v:V} {d:D} (h:Own K O H s G v d) (p:∀a∈O',a∈O):Own K O' H s G v d:=h.mono (Same.refl _) fun a ha=>.inl (p a ha)
theorem pD (h:tA K W (ae fa fl) σ H QL):ip (tE K W fa) (tA K W fl) σ H QL:=by
 obtain ⟨He,O,Fs,Γ,E,h⟩:=h;refine ⟨He,O,Fs,Γ,E,?_⟩
 unfold ae at h
 cases e:fa Γ with
 | ok p Γ1=>
  rw [e] at h;intro v H1 G1 Fs1 A1;refine ⟨He,G1++O,Fs1,Γ1,A1.env,?_⟩
  have h:wd K W He O Fs H σ QL ((fl Γ1).bind fun ps Γ2=>.ok (p::ps) Γ2):=h
  cases e2:fl Γ1 with
  | ok ps Γ2=>
   rw [e2] at h;intro vs H2 Gs Fs2 A2;have pm:((G1::Gs).flatten++O).Perm (Gs.flatten++(G1++O)):=by
    rw [flatten_cons,append_assoc];exact pP _ _ _
   refine h (v::vs) H2 (G1::Gs) Fs2 ⟨A1.same.trans A2.same,by simp [A2.len1],by simp [A2.len2],A2.env.perm pm,fun a ha=>?_,fun i u q G h1 h2 h3=>?_⟩
   ·rcases List.mem_append.mp ha with z | z
    ·rw [flatten_cons] at z
     rcases List.mem_append.mp z with z | z
     ·exact A1.new a (mem_append_left _ z)
     ·exact (A2.new a (mem_append_left _ z)).elim (fun y=>A1.new a (mem_append_right _ y)) fun y=>.inr (A1.same.free y)
    ·exact (A2.new a (mem_append_right _ z)).elim (fun y=>A1.new a (mem_append_right _ y)) fun y=>.inr (A1.same.free y)
   ·have sub:∀a∈(G1::Gs).flatten++O++Fs2.flatten,a∈Gs.flatten++(G1++O)++Fs2.flatten:=fun a ha=>by
     rcases List.mem_append.mp ha with z | z
     ·exact mem_append_left _ (pm.mem_iff.mp z)
     ·exact mem_append_right _ z
    cases i with
    | zero=>
     simp at h1 h2 h3
     subst h1 h2 h3;refine (A1.own.mono A2.same fun a ha=>?_).perm sub
     rcases List.mem_append.mp ha with z | z
     ·rcases List.mem_append.mp z with z | z
      ·exact (A2.new a (mem_append_left _ z)).elim (fun y=>.inl (mem_append_right _ y)) .inr
      ·exact .inl (mem_append_left _ z)
     ·exact (A2.new a (mem_append_right _ z)).elim (fun y=>.inl (mem_append_right _ y)) .inr
    | succ i=>
     simp at h1 h2 h3
     exact (A2.own i u q G h1 h2 h3).perm sub
  | er c Γ2=>
   rw [e2] at h;exact fun H2 Fs2 s E2=>h H2 Fs2 (A1.same.trans s) E2.dropL
  | no=>rw [e2] at h;exact h
 | er c Γ1=>rw [e] at h;exact h
 | no=>rw [e] at h;exact h
theorem AftL.reps {He:Hp} {O:List Addr} {Fs Gs Fs':List (List Addr)} {Γ':Ev} {ps:List PV} {vs:List V} {H':Hp} (A:AftL K He O Fs H σ Γ' ps vs H' Gs Fs'):Reps K H' vs (ps.map (·.d)):=by
 refine ⟨by rw [length_map];exact A.len1,fun i v d h1 h2=>?_⟩
 rw [getElem?_map] at h2
 cases e:ps[i]? with
 | none=>rw [e] at h2;cases h2
 | some p=>
  rw [e] at h2
  cases h2;have hi:=(List.getElem?_eq_some_iff.mp e).1
  exact (A.own i v p (Gs[i]'(by rw [A.len2];exact hi)) h1 e (getElem?_eq_getElem _)).rep
def bw (g:List D->Option D) (fl:FL):F1:=fun Γ=>(fl Γ).bind fun ps Γ'=>match g (ps.map (·.d)) with
 | some d=>.ok ⟨.leaf,d⟩ Γ'
 | none=>.no
def GCall (K:Fg) (r:List V->Hp->VK->Prop) (g:List D->Option D):Prop:=∀vs H Q ds d,Reps K H vs ds->g ds=some d->(∀v,Sc v d->Q v H)->r vs H Q
theorem uy {r:List V->Hp->VK->Prop} {g:List D->Option D} (hg:GCall K r g) (h:tE K W (bw g fl) σ H Q):EK r (tA K W fl) σ H Q:=by
 obtain ⟨He,O,Fs,Γ,E,h⟩:=h;refine ⟨He,O,Fs,Γ,E,?_⟩
 unfold bw at h
 cases e:fl Γ with
 | ok ps Γ'=>
  rw [e] at h;intro vs H' Gs Fs' A
  have h:Wants K W He O Fs H σ Q (match g (ps.map (·.d)) with | some d=>.ok ⟨.leaf,d⟩ Γ' | none=>.no):=h
  cases e2:g (ps.map (·.d)) with
  | none=>rw [e2] at h;exact h.elim
  | some d=>
   rw [e2] at h;exact hg vs H' Q _ d A.reps e2 fun v s=>Wants.scal h s A.same A.env (fun a ha=>mem_append_right _ ha) E.ndO fun a ha=>A.new a (mem_append_right _ ha)
 | er c Γ'=>rw [e] at h;exact h
 | no=>rw [e] at h;exact h
theorem GCall.or {r r':List V->Hp->VK->Prop} {g g':List D->Option D} (h:GCall K r g) (h':GCall K r' g'):GCall K (fun xs H Q=>r xs H Q\/r' xs H Q) (fun ds=>(g ds).or (g' ds)):=by
 intro vs H Q ds d rs e k;have e:(g ds).or (g' ds)=some d:=e
 cases e1:g ds with
 | some z=>rw [e1] at e;cases e;exact .inl (h vs H Q ds _ rs e1 k)
 | none=>rw [e1] at e;exact .inr (h' vs H Q ds d rs (by simpa using e) k)
theorem Reps.one {vs:List V} {d:D} (h:Reps K H vs [d]):∃v,vs=[v]/\Rep K H v d:=by
 obtain ⟨hl,h⟩:=h;match vs,hl with
 | [v],_=>exact ⟨v,rfl,h 0 v d rfl rfl⟩
theorem Reps.two {vs:List V} {d e:D} (h:Reps K H vs [d,e]):∃v u,vs=[v,u]/\Rep K H v d/\Rep K H u e:=by
 obtain ⟨hl,h⟩:=h;match vs,hl with
 | [v,u],_=>exact ⟨v,u,rfl,h 0 v d rfl rfl,h 1 u e rfl rfl⟩
end
def zO:List D->Option D
 | [.list xs]=>some (.int xs.length)
 | [.tuple xs]=>some (.int xs.length)
 | _=>none
def vx:List D->Option D
 | [.str x]=>if x.length<=sizeLine then some (.int x.length) else none
 | _=>none
abbrev aT:List D->Option D:=fun ds=>(zO ds).or (vx ds)
theorem CS {K:Fg}:GCall K (fun xs H Q=>(∃p ys,xs=[.ref p]/\(SqL K H p ys\/SqT K H p ys)/\Q (.int ys.length) H)\/∃z,xs=[.str z]/\z.length<=sizeLine/\Q (.int z.length) H) aT:=by
 refine GCall.or (g:=zO) (g':=vx) (r:=fun xs H Q=>∃p ys,xs=[.ref p]/\(SqL K H p ys\/SqT K H p ys)/\Q (.int ys.length) H) (r':=fun xs H Q=>∃z,xs=[.str z]/\z.length<=sizeLine/\Q (.int z.length) H) ?_ ?_
 ·intro vs H Q ds d rs e k
  match ds,e with
  | [.list xs],e=>
   obtain ⟨v,rfl,r⟩:=rs.one
   cases e
   cases r with
   | @lst p us _ hq hl _=>exact ⟨p,us,rfl,.inl hq,by rw [hl];exact k _ (.int _)⟩
  | [.tuple xs],e=>
   obtain ⟨v,rfl,r⟩:=rs.one
   cases e
   cases r with
   | @tup p us _ hq hl _=>exact ⟨p,us,rfl,.inr hq,by rw [hl];exact k _ (.int _)⟩
 ·intro vs H Q ds d rs e k
  match ds,e with
  | [.str x],e=>
   obtain ⟨v,rfl,r⟩:=rs.one;simp only [vx] at e
   split at e
   ·rename_i z
    cases e
    cases r;exact ⟨x,rfl,z,k _ (.int _)⟩
   ·cases e
def om:List D->Option D
 | [.int i]=>some (.int i)
 | [.bool b]=>some (.int (if b then 1 else 0))
 | _=>none
theorem CT {K:Fg}:GCall K (fun xs H Q=>(∃i,xs=[.int i]/\Q (.int i) H)\/∃k,xs=[.bl k]/\Q (.int (if k then 1 else 0)) H) om:=by
 intro vs H Q ds d rs e k;match ds,e with
 | [.int i],e=>
  obtain ⟨v,rfl,r⟩:=rs.one
  cases e;cases r;exact .inl ⟨i,rfl,k _ (.int _)⟩
 | [.bool b],e=>
  obtain ⟨v,rfl,r⟩:=rs.one
  cases e;cases r;exact .inr ⟨b,rfl,k _ (.int _)⟩
def LK:List D->Option D
 | [.int i,.int j]=>some (.int (if j>i then j else i))
 | _=>none
def nh:List D->Option (List Bool)
 | []=>some []
 | .bool b::r=>(nh r).map (b :: ·)
 | _=>none
theorem Hk:∀{ds:List D} {bs:List Bool},nh ds=some bs->ds=bs.map PyData.bool
 | [],bs,h=>by cases h;rfl
 | .bool b::r,bs,h=>by
  simp only [nh] at h
  cases e:nh r with
  | none=>rw [e] at h;cases h
  | some cs=>rw [e] at h;cases h;rw [Hk e];rfl
 | .none::_,_,h=>by cases h
 | .int _::_,_,h=>by cases h
 | .str _::_,_,h=>by cases h
 | .list _::_,_,h=>by cases h
 | .tuple _::_,_,h=>by cases h
 | .dict _::_,_,h=>by cases h
def cD (any:Bool):List D->Option D
 | [.list xs]=>(nh xs).map fun bs=>.bool (if any then bs.any id else bs.all id)
 | _=>none
theorem Hn {K:Fg} {H:Hp}:∀{vs:List V} {bs:List Bool},Reps K H vs (bs.map PyData.bool)->vs=bs.map V.bl
 | [],[],_=>rfl
 | v::vs,b::bs,⟨hl,h⟩=>by
  have r:=h 0 v (.bool b) rfl rfl
  cases r;rw [Hn (bs:=bs) (vs:=vs) ⟨by simpa using hl,fun i v d h1 h2=>h (i+1) v d (by simpa using h1) (by simpa using h2)⟩]
  rfl
 | [],_::_,⟨hl,_⟩=>by simp at hl
 | _::_,[],⟨hl,_⟩=>by simp at hl
def BG (K:Fg) (any:Bool):List V->Hp->VK->Prop:=fun xs H Q=>∃(p:Addr) (bs:List Bool),xs=[.ref p]/\SqL K H p (bs.map V.bl)/\Q (.bl (if any then bs.any id else bs.all id)) H
theorem vw {K:Fg} {any:Bool}:GCall K (BG K any) (cD any):=by
 intro vs H Q ds d rs e k;match ds,e with
 | [.list xs],e=>
  obtain ⟨v,rfl,r⟩:=rs.one;simp only [cD] at e
  cases eb:nh xs with
  | none=>rw [eb] at e;cases e
  | some bs=>
   rw [eb] at e
   cases e;have:=Hk eb
   subst this
   cases r with
   | @lst p us _ hq hl hr=>
    have:=Hn ⟨hl,hr⟩
    subst this;exact ⟨p,bs,rfl,hq,k _ (.bl _)⟩
section
variable {X:Cx}
theorem jZ {bs:List Bool}:∀{its:List Value},Vals (bs.map V.bl) its->its=bs.map Value.bool:=by
 induction bs with
 | nil=>intro its h;cases h;rfl
 | cons b bs ih=>
  intro its h
  cases h with
  | cons r t=>
   cases (show _=Value.bool b from r)
   rw [ih t];rfl
theorem qV (bs:List Bool):(List.range bs.length).all (fun i=>bs.getD i false)=bs.all id:=by
 rw [Bool.eq_iff_iff,all_eq_true,all_eq_true];constructor
 ·intro h b hb
  obtain ⟨i,hi,e⟩:=List.mem_iff_getElem.mp hb;have:=h i (List.mem_range.mpr hi)
  rw [getD_eq_getElem?_getD,getElem?_eq_getElem hi] at this;rw [<-e];simpa using this
 ·intro h i hi
  have hi:=List.mem_range.mp hi
  rw [getD_eq_getElem?_getD,getElem?_eq_getElem hi];exact h _ (getElem_mem hi)
theorem qU (bs:List Bool):(List.range bs.length).any (fun i=>bs.getD i false)=bs.any id:=by
 rw [Bool.eq_iff_iff,any_eq_true,any_eq_true];constructor
 ·rintro ⟨i,hi,h⟩
  have hi:=List.mem_range.mp hi
  rw [getD_eq_getElem?_getD,getElem?_eq_getElem hi] at h;exact ⟨_,getElem_mem hi,h⟩
 ·rintro ⟨b,hb,h⟩
  obtain ⟨i,hi,e⟩:=List.mem_iff_getElem.mp hb;refine ⟨i,List.mem_range.mpr hi,?_⟩
  rw [getD_eq_getElem?_getD,getElem?_eq_getElem hi,e];exact h
theorem gA {prog:Program} {w:World} {A:Around} {bs:List Bool}:TruthOf prog w A (fun i v=>(bs.map Value.bool).toArray[i]?=some v) (fun i=>bs.getD i false):=by
 intro i v s Q E hP hQ;simp only [List.getElem?_toArray,getElem?_map] at hP
 cases e:bs[i]? with
 | none=>rw [e] at hP;cases hP
 | some b=>
  rw [e] at hP
  cases hP;have hQ:Q (bs.getD i false) s:=hQ
  rw [getD_eq_getElem?_getD,e] at hQ;exact wpAny_truthy_bool hQ
theorem sA (hc:X.calm=true):CallR X (.builtin "all") (BG X.K false):=by
 intro pins s σ H vs us Q I rv h;obtain ⟨p,bs,rfl,hq,q⟩:=h;obtain ⟨u,rfl,ru⟩:=vals1 rv
 cases ru;obtain ⟨its,rv,pl,hz⟩:=I.list hq;have:=jZ rv
 subst this;have hd:=I.ok.hd hc
 refine call_all_walk (wpAny_pyIter_list pl.isList ?_)
 have ne:p≠s.heap.objs.size:=by
  obtain ⟨o,n,e,_⟩:=pl;exact Nat.ne_of_lt (Heap.lt_size e)
 refine ⟨s.heap.objs.size,_,_,_,_,_,fun i=>bs.getD i false,rfl,Walks.list (prog:=X.prog) (w:=X.w) (A:=X.A.in1) hd s.heap.objs.size p ne (bs.map Value.bool).toArray,⟨⟨_,Heap.get?_push_size _ rfl,rfl,rfl⟩,pl.isList.at fun o e=>Heap.get?_push_of_some _ e⟩,gA,fun h' tk hk=>?_⟩
 refine ⟨.bl _,H,I.kept (h':=h') (t':=tk) fun b o e=>hk b o (fun z=>?_) (Heap.get?_push_of_some _ e),rfl,?_⟩
 ·have z:b=s.heap.objs.size:=by simpa using z
  exact absurd (Heap.lt_size e) (by rw [z];exact Nat.lt_irrefl _)
 ·rw [size_toArray,length_map,qV]
  exact q
theorem sy (hc:X.calm=true):CallR X (.builtin "any") (BG X.K true):=by
 intro pins s σ H vs us Q I rv h;obtain ⟨p,bs,rfl,hq,q⟩:=h;obtain ⟨u,rfl,ru⟩:=vals1 rv
 cases ru;obtain ⟨its,rv,pl,hz⟩:=I.list hq;have:=jZ rv
 subst this;have hd:=I.ok.hd hc
 refine call_any_walk (wpAny_pyIter_list pl.isList ?_)
 have ne:p≠s.heap.objs.size:=by
  obtain ⟨o,n,e,_⟩:=pl;exact Nat.ne_of_lt (Heap.lt_size e)
 refine ⟨s.heap.objs.size,_,_,_,_,_,fun i=>bs.getD i false,rfl,Walks.list (prog:=X.prog) (w:=X.w) (A:=X.A.in1) hd s.heap.objs.size p ne (bs.map Value.bool).toArray,⟨⟨_,Heap.get?_push_size _ rfl,rfl,rfl⟩,pl.isList.at fun o e=>Heap.get?_push_of_some _ e⟩,gA,fun h' tk hk=>?_⟩
 refine ⟨.bl _,H,I.kept (h':=h') (t':=tk) fun b o e=>hk b o (fun z=>?_) (Heap.get?_push_of_some _ e),rfl,?_⟩
 ·have z:b=s.heap.objs.size:=by simpa using z
  exact absurd (Heap.lt_size e) (by rw [z];exact Nat.lt_irrefl _)
 ·rw [size_toArray,length_map,qU]
  exact q
end
def m8 (s:Sh) (j:Nat) (d:D):Option Sh:=match s with
 | .leaf=>some .leaf
 | .view=>some (if bu d then .leaf else .view)
 | .lst s=>some s
 | .tup ss=>ss[j]?
def ai (fa fb:F1):F1:=bg fa fun p=>bg fb fun q=>fun Γ=>match q.d with
 | .int i=>(match p.d with
  | .list ds=>(match fh ds.length i with
   | some j=>(match ds[j]? with
    | some d=>(match m8 p.s j d with
     | some s=>.ok ⟨s,d⟩ Γ
     | none=>.no)
    | none=>.no)
   | none=>.no)
  | .tuple ds=>(match fh ds.length i with
   | some j=>(match ds[j]? with
    | some d=>(match m8 p.s j d with
     | some s=>.ok ⟨s,d⟩ Γ
     | none=>.no)
    | none=>.no)
   | none=>.no)
  | .str z=>if z.length<=sizeLine then (match fy z.cps.toList i with
   | some c=>.ok ⟨.leaf,.str ⟨#[c]⟩⟩ Γ
   | none=>.no) else .no
  | _=>.no)
 | _=>.no
theorem Own.item {K:Fg} {O:List Addr} {H:Hp} {s s':Sh} {G:List Addr} {p:Addr} {ds:List D} {j:Nat} {d:D} (h:Own K O H s G (.ref p) (.list ds)) (hd:ds[j]?=some d) (hs:m8 s j d=some s') :
  ∃vs v G',SqL K H p vs/\vs.length=ds.length/\vs[j]?=some v/\(∀a∈G',a∈G)/\G'.Nodup/\Own K O H s' G' v d:=by
 have hi:=(List.getElem?_eq_some_iff.mp hd).1
 cases h with
 | view r=>
  cases r with
  | @lst _ vs _ hq hl hr=>
   have hv:vs[j]?=some (vs[j]'(by omega)):=getElem?_eq_getElem _
   have r':=hr j _ d hv hd
   simp only [m8,Option.some.injEq] at hs
   cases e:bu d with
   | true=>
    rw [e] at hs
    cases hs;exact ⟨vs,_,[],hq,hl,hv,(fun _ z=>nomatch z),nodup_nil,.leaf (r'.sc e).rep⟩
   | false=>
    rw [e] at hs
    cases hs;exact ⟨vs,_,[],hq,hl,hv,(fun _ z=>nomatch z),nodup_nil,.view r'⟩
 | leaf r=>
  cases r with
  | @lst _ vs _ hq hl hr=>
   have hv:vs[j]?=some (vs[j]'(by omega)):=getElem?_eq_getElem _
   cases hs;exact ⟨vs,_,[],hid_le.seq hq,hl,hv,(fun _ z=>nomatch z),nodup_nil,.leaf (hr j _ d hv hd)⟩
 | @lst s₀ _ vs _ Fs hv hp hl hf nd hr=>
  have hv':vs[j]?=some (vs[j]'(by omega)):=getElem?_eq_getElem _
  have hF:Fs[j]?=some (Fs[j]'(by omega)):=getElem?_eq_getElem _
  cases hs;refine ⟨vs,_,_,.of hp,hl,hv',fun a ha=>mem_cons_of_mem _ (kY hF ha),?_,hr j _ d _ hv' hd hF⟩
  exact ((List.nodup_cons.mp nd).2).sublist (List.sublist_flatten_of_mem (mem_of_getElem? hF))
theorem Own.itemT {K:Fg} {O:List Addr} {H:Hp} {s s':Sh} {G:List Addr} {p:Addr} {ds:List D} {j:Nat} {d:D} (h:Own K O H s G (.ref p) (.tuple ds)) (hd:ds[j]?=some d) (hs:m8 s j d=some s') :
  ∃vs v G',SqT K H p vs/\vs.length=ds.length/\vs[j]?=some v/\(∀a∈G',a∈G)/\G'.Nodup/\Own K O H s' G' v d:=by
 have hi:=(List.getElem?_eq_some_iff.mp hd).1
 cases h with
 | view r=>
  cases r with
  | @tup _ vs _ hq hl hr=>
   have hv:vs[j]?=some (vs[j]'(by omega)):=getElem?_eq_getElem _
   have r':=hr j _ d hv hd
   simp only [m8,Option.some.injEq] at hs
   cases e:bu d with
   | true=>
    rw [e] at hs
    cases hs;exact ⟨vs,_,[],hq,hl,hv,(fun _ z=>nomatch z),nodup_nil,.leaf (r'.sc e).rep⟩
   | false=>
    rw [e] at hs
    cases hs;exact ⟨vs,_,[],hq,hl,hv,(fun _ z=>nomatch z),nodup_nil,.view r'⟩
 | leaf r=>
  cases r with
  | @tup _ vs _ hq hl hr=>
   have hv:vs[j]?=some (vs[j]'(by omega)):=getElem?_eq_getElem _
   cases hs;exact ⟨vs,_,[],gO hid_le hq,hl,hv,(fun _ z=>nomatch z),nodup_nil,.leaf (hr j _ d hv hd)⟩
 | @tup ss _ vs _ Fs hv hp hn hl hf hl2 nd hr=>
  have hv':vs[j]?=some (vs[j]'(by omega)):=getElem?_eq_getElem _
  have hF:Fs[j]?=some (Fs[j]'(by omega)):=getElem?_eq_getElem _
  have hs:ss[j]?=some s':=hs
  refine ⟨vs,_,_,.of hp,hl,hv',fun a ha=>kY hF ha,?_,hr j _ d _ _ hv' hd hF hs⟩
  exact nd.sublist (List.sublist_flatten_of_mem (mem_of_getElem? hF))
theorem Wants.part {K:Fg} {W:XW} {σ:St} {He H H2:Hp} {O G G':List Addr} {Fs Fs2:List (List Addr)} {Γ':Ev} {Q:VK} {s:Sh} {v:V} {d:D} (h:Wants K W He O Fs H σ Q (.ok ⟨s,d⟩ Γ')) (e:Same H H2)
  (E:EnvOk K He (G++O) Fs2 H2 σ Γ') (sub:∀a∈G',a∈G) (nd:G'.Nodup) (new:∀a∈G++Fs2.flatten,a∈Fs.flatten\/H a=none) (o:Own K (G++O++Fs2.flatten) H2 s G' v d):Q v H2:=by
 have sub2:∀a∈G'++O,a∈G++O:=fun a ha=>by
  rcases List.mem_append.mp ha with z | z
  ·exact mem_append_left _ (sub a z)
  ·exact mem_append_right _ z
 obtain ⟨n1,n2,n3⟩:=List.nodup_append.mp E.ndO;refine h v H2 G' Fs2 ⟨e,E.drop sub2 (List.nodup_append.mpr ⟨nd,n2,fun a ha b hb=>n3 a (sub a ha) b hb⟩),fun a ha=>new a ?_,o.perm fun a ha=>?_⟩
 ·rcases List.mem_append.mp ha with z | z
  ·exact mem_append_left _ (sub a z)
  ·exact mem_append_right _ z
 ·rcases List.mem_append.mp ha with z | z
  ·exact mem_append_left _ (sub2 a z)
  ·exact mem_append_right _ z
theorem vY {α β:Type} {xs:List α} {ys:List β} {i:Int} {j:Nat} {v:α} (hl:xs.length=ys.length) (h:fh ys.length i=some j) (hv:xs[j]?=some v):fy xs i=some v:=by
 unfold fy;rw [hl,h];exact hv
section
variable {K:Fg} {W:XW} {σ:St} {H:Hp} {Q:VK} {fa fb:F1}
theorem Bl (h:tE K W (ai fa fb) σ H Q):zt (K6 K) (tE K W fa) (tE K W fb) σ H Q:=by
 refine Dw h ?_
 intro He O Fs Γ2 p q v u H1 H2 G1 G2 Fs2 nd s1 s2 E new o1 o2 w;obtain ⟨ps,pd⟩:=p;obtain ⟨qs,qd⟩:=q;have ri:=o2.rep
 cases qd<;>try exact w.elim
 rename_i i
 cases ri;have E':EnvOk K He ((G2++G1)++O) Fs2 H2 σ Γ2:=by rw [append_assoc];exact E
 have new':∀a∈(G2++G1)++Fs2.flatten,a∈Fs.flatten\/H a=none:=fun a ha=>new a (by rw [<-append_assoc];exact ha)
 have o1':Own K ((G2++G1)++O++Fs2.flatten) H2 ps G1 v pd:=o1.perm fun a ha=>by rw [append_assoc G2] at ha;exact ha
 have rp:=o1.rep
 cases pd with
 | list ds=>
  obtain ⟨p0,rfl⟩:∃p0,v=.ref p0:=by cases rp;exact ⟨_,rfl⟩
  have w:Wants K W He O Fs H σ Q (match fh ds.length i with | some j=>(match ds[j]? with | some d=>(match m8 ps j d with | some s=>.ok ⟨s,d⟩ Γ2 | none=>.no) | none=>.no) | none=>.no):=w
  cases e1:fh ds.length i with
  | none=>rw [e1] at w;exact w.elim
  | some j=>
   rw [e1] at w;have w:Wants K W He O Fs H σ Q (match ds[j]? with | some d=>(match m8 ps j d with | some s=>.ok ⟨s,d⟩ Γ2 | none=>.no) | none=>.no):=w
   cases e2:ds[j]? with
   | none=>rw [e2] at w;exact w.elim
   | some d=>
    rw [e2] at w;have w:Wants K W He O Fs H σ Q (match m8 ps j d with | some s=>.ok ⟨s,d⟩ Γ2 | none=>.no):=w
    cases e3:m8 ps j d with
    | none=>rw [e3] at w;exact w.elim
    | some s=>
     rw [e3] at w;obtain ⟨vs,v',G',h1,h2,h3,h4,h5,h6⟩:=o1'.item e2 e3
     exact .inl ⟨p0,vs,i,v',rfl,rfl,h1,vY h2 e1 h3,Wants.part w (s1.trans s2) E' (fun a ha=>mem_append_right _ (h4 a ha)) h5 new' h6⟩
 | tuple ds=>
  obtain ⟨p0,rfl⟩:∃p0,v=.ref p0:=by cases rp;exact ⟨_,rfl⟩
  have w:Wants K W He O Fs H σ Q (match fh ds.length i with | some j=>(match ds[j]? with | some d=>(match m8 ps j d with | some s=>.ok ⟨s,d⟩ Γ2 | none=>.no) | none=>.no) | none=>.no):=w
  cases e1:fh ds.length i with
  | none=>rw [e1] at w;exact w.elim
  | some j=>
   rw [e1] at w;have w:Wants K W He O Fs H σ Q (match ds[j]? with | some d=>(match m8 ps j d with | some s=>.ok ⟨s,d⟩ Γ2 | none=>.no) | none=>.no):=w
   cases e2:ds[j]? with
   | none=>rw [e2] at w;exact w.elim
   | some d=>
    rw [e2] at w;have w:Wants K W He O Fs H σ Q (match m8 ps j d with | some s=>.ok ⟨s,d⟩ Γ2 | none=>.no):=w
    cases e3:m8 ps j d with
    | none=>rw [e3] at w;exact w.elim
    | some s=>
     rw [e3] at w;obtain ⟨vs,v',G',h1,h2,h3,h4,h5,h6⟩:=o1'.itemT e2 e3
     exact .inr (.inl ⟨p0,vs,i,v',rfl,rfl,h1,vY h2 e1 h3,Wants.part w (s1.trans s2) E' (fun a ha=>mem_append_right _ (h4 a ha)) h5 new' h6⟩)
 | str z=>
  cases rp;have w:Wants K W He O Fs H σ Q (if z.length<=sizeLine then (match fy z.cps.toList i with | some c=>.ok ⟨.leaf,.str ⟨#[c]⟩⟩ Γ2 | none=>.no) else .no):=w
  by_cases hz:z.length<=sizeLine
  ·rw [if_pos hz] at w
   cases e1:fy z.cps.toList i with
   | none=>rw [e1] at w;exact w.elim
   | some c=>
    rw [e1] at w;exact .inr (.inr ⟨z,i,c,rfl,rfl,hz,e1,Wants.scal w (.str _) (s1.trans s2) E (fun a ha=>mem_append_right _ (mem_append_right _ ha)) nd fun a ha=>new a (mem_append_right _ (mem_append_right _ ha))⟩)
  ·rw [if_neg hz] at w
   exact w.elim
 | none=>exact w.elim
 | bool b=>exact w.elim
 | int k=>exact w.elim
 | dict k=>exact w.elim
end
theorem mq (s:Sh):∀Gs:List (List Addr),((Gs.map (br s)).flatten).Sublist Gs.flatten
 | []=>List.Sublist.refl _
 | G::Gs=>by
  simp only [map_cons,flatten_cons]
  refine List.Sublist.append ?_ (mq s Gs)
  unfold br;split
  ·exact List.nil_sublist _
  ·exact List.Sublist.refl _
theorem jP:∀Gs:List (List Addr),(Gs.map (br .leaf)).flatten=[]
 | []=>rfl
 | _::Gs=>by simp only [map_cons,flatten_cons,jP Gs];rfl
section
variable {K:Fg} {W:XW} {σ:St} {He H H':Hp} {O:List Addr} {Fs Fs' Gs:List (List Addr)} {Γ':Ev} {ps:List PV} {vs:List V} {Q:VK}
theorem AftL.newList {s:Sh} {p:Addr} (A:AftL K He O Fs H σ Γ' ps vs H' Gs Fs') (hs:s.isView=false) (hc:ps.all (T.coer s)=true) (hp:H' p=none) :
  Aft K He O Fs H σ Γ' ⟨.lst s,.list (ps.map (·.d))⟩ (.ref p) (cg H' p (.lst vs)) (p::(Gs.map (br s)).flatten) Fs':=by
 obtain ⟨n1,n2,n3⟩:=List.nodup_append.mp A.env.ndO;obtain ⟨m1,m2,m3⟩:=List.nodup_append.mp A.env.nd;have hsub:=mq s Gs
 have E1:EnvOk K He ((Gs.map (br s)).flatten++O) Fs' H' σ Γ':=A.env.drop (fun a ha=>by
   rcases List.mem_append.mp ha with z | z
   ·exact mem_append_left _ (hsub.subset z)
   ·exact mem_append_right _ z) (List.nodup_append.mpr ⟨n1.sublist hsub,n2,fun a ha b hb=>n3 a (hsub.subset ha) b hb⟩)
 have E2:=E1.hide (G:=[p]) (kZ (o:=.lst vs) hp) (by simp) (fun a ha=>by simp at ha;rw [ha];exact hp) (fun a ha=>by simp at ha;rw [ha,kS];exact Option.some_ne_none _)
 have pn:∀{a},a∈Gs.flatten++O++Fs'.flatten->a≠p:=fun {a} ha z=>A.env.inH a ha (by rw [z];exact hp)
 refine ⟨A.same.trans (kZ hp),E2,fun a ha=>?_,?_⟩
 ·rcases List.mem_append.mp ha with z | z
  ·rcases List.mem_cons.mp z with z | z
   ·rw [z];exact .inr (A.same.free hp)
   ·exact A.new a (mem_append_left _ (hsub.subset z))
  ·exact A.new a (mem_append_right _ z)
 ·refine .lst hs kS (by rw [length_map];exact A.len1) (by rw [length_map,length_map];exact A.len2) ?_ fun i v d F h1 h2 h3=>?_
  ·refine List.nodup_cons.mpr ⟨fun z=>pn (mem_append_left _ (mem_append_left _ (hsub.subset z))) rfl,n1.sublist hsub⟩
  ·rw [getElem?_map] at h2 h3
   cases e2:ps[i]? with
   | none=>rw [e2] at h2;cases h2
   | some q=>
    cases e3:Gs[i]? with
    | none=>rw [e3] at h3;cases h3
    | some G=>
     rw [e2] at h2;rw [e3] at h3
     cases h2
     cases h3;have cq:T.coer s q=true:=List.all_eq_true.mp hc q (mem_of_getElem? e2)
     have o1:=(A.own i v q G h1 e2 e3).mono (O':=p::(Gs.flatten++O++Fs'.flatten)) (kZ (o:=.lst vs) hp) fun a ha=>by
      rcases List.mem_cons.mp ha with z | z
      ·rw [z];exact .inr hp
      ·exact .inl z
     refine o1.coer cq (fun a ha=>?_) fun a ha hO=>?_
     ·rw [append_assoc] at ha
      rcases List.mem_append.mp ha with z | z
      ·rcases List.mem_cons.mp z with z | z
       ·rw [z];exact mem_cons_self
       ·exact mem_cons_of_mem _ (mem_append_left _ (mem_append_left _ (hsub.subset z)))
      ·rcases List.mem_append.mp z with z | z
       ·exact mem_cons_of_mem _ (mem_append_left _ (mem_append_right _ z))
       ·exact mem_cons_of_mem _ (mem_append_right _ z)
     ·have hG:a∈Gs.flatten:=kY e3 ha
      cases s with
      | leaf=>
       rw [jP] at hO;exfalso
       rw [append_assoc] at hO;rcases List.mem_append.mp hO with z | z
       ·have z:a=p:=by simpa using z
        exact pn (mem_append_left _ (mem_append_left _ hG)) z
       ·rcases List.mem_append.mp z with z | z
        ·exact n3 a hG a z rfl
        ·exact m3 a (mem_append_left _ hG) a z rfl
      | view=>cases hs
      | lst s=>exact ha
      | tup ss=>exact ha
def aB (s:Sh) (fl:FL):F1:=fun Γ=>(fl Γ).bind fun ps Γ'=>if !s.isView&&ps.all (T.coer s)&&decide (ps.length<=sizeLine) then .ok ⟨.lst s,.list (ps.map (·.d))⟩ Γ' else .no
theorem pC {s:Sh} {fl:FL} (h:tE K W (aB s fl) σ H Q):AN (tA K W fl) σ H Q:=by
 obtain ⟨He,O,Fs,Γ,E,h⟩:=h;refine ⟨He,O,Fs,Γ,E,?_⟩
 unfold aB at h
 cases e:fl Γ with
 | ok ps Γ'=>
  rw [e] at h;intro vs H' Gs Fs' A
  have h:Wants K W He O Fs H σ Q (if (!s.isView&&ps.all (T.coer s)&&decide (ps.length<=sizeLine))=true then .ok ⟨.lst s,.list (ps.map (·.d))⟩ Γ' else .no):=h
  by_cases hc:(!s.isView&&ps.all (T.coer s)&&decide (ps.length<=sizeLine))=true
  ·rw [if_pos hc] at h
   simp only [Bool.and_eq_true,decide_eq_true_eq,Bool.not_eq_true'] at hc
   exact ⟨by rw [A.len1];exact hc.2,fun p hp=>h _ _ _ _ (A.newList hc.1.1 hc.1.2 hp)⟩
  ·rw [if_neg hc] at h
   exact h.elim
 | er c Γ'=>rw [e] at h;exact h
 | no=>rw [e] at h;exact h
def zq (p:PV):Sh:=if p.s.isView then .leaf else p.s
def tok (p:PV):Bool:=!p.s.isView||bu p.d
theorem AftL.newTup {p:Addr} (A:AftL K He O Fs H σ Γ' ps vs H' Gs Fs') (hc:ps.all tok=true) (hp:H' p=none) :
  Aft K He O Fs H σ Γ' ⟨.tup (ps.map zq),.tuple (ps.map (·.d))⟩ (.ref p) (cg H' p (.tup vs)) Gs.flatten Fs':=by
 obtain ⟨n1,n2,n3⟩:=List.nodup_append.mp A.env.ndO;have pn:p∉Gs.flatten++O++Fs'.flatten:=fun ha=>A.env.inH p ha hp
 refine ⟨A.same.trans (kZ hp),A.env.grow (kZ hp),A.new,?_⟩
 refine .tup (fun s hs=>?_) kS pn (by rw [length_map];exact A.len1) (by rw [length_map];exact A.len2) (by rw [length_map,length_map]) n1 fun i v d F s h1 h2 h3 h4=>?_
 ·obtain ⟨q,_,rfl⟩:=List.mem_map.mp hs
  unfold zq;split
  ·rfl
  ·rename_i z;simpa using z
 ·rw [getElem?_map] at h2 h4
  cases e2:ps[i]? with
  | none=>rw [e2] at h2;cases h2
  | some q=>
   rw [e2] at h2 h4
   cases h2
   cases h4;have cq:tok q=true:=List.all_eq_true.mp hc q (mem_of_getElem? e2)
   have o1:=(A.own i v q F h1 e2 h3).mono (O':=Gs.flatten++O++Fs'.flatten) (kZ (o:=.tup vs) hp) fun a ha=>.inl ha
   unfold zq
   cases hv:q.s.isView with
   | false=>exact o1
   | true=>
    unfold tok at cq;rw [hv] at cq;obtain ⟨s,d⟩:=q
    cases s with
    | view=>
     cases o1 with
     | view r=>exact .leaf (r.sc (by simpa using cq)).rep
    | _=>cases hv
def bo (fl:FL):F1:=fun Γ=>(fl Γ).bind fun ps Γ'=>if ps.all tok&&decide (ps.length<=sizeLine) then .ok ⟨.tup (ps.map zq),.tuple (ps.map (·.d))⟩ Γ' else .no
theorem Bb {fl:FL} (h:tE K W (bo fl) σ H Q):EF (tA K W fl) σ H Q:=by
 obtain ⟨He,O,Fs,Γ,E,h⟩:=h;refine ⟨He,O,Fs,Γ,E,?_⟩
 unfold bo at h
 cases e:fl Γ with
 | ok ps Γ'=>
  rw [e] at h;intro vs H' Gs Fs' A
  have h:Wants K W He O Fs H σ Q (if (ps.all tok&&decide (ps.length<=sizeLine))=true then .ok ⟨.tup (ps.map zq),.tuple (ps.map (·.d))⟩ Γ' else .no):=h
  by_cases hc:(ps.all tok&&decide (ps.length<=sizeLine))=true
  ·rw [if_pos hc] at h
   simp only [Bool.and_eq_true,decide_eq_true_eq] at hc
   exact ⟨by rw [A.len1];exact hc.2,fun p hp=>h _ _ _ _ (A.newTup hc.1 hp)⟩
  ·rw [if_neg hc] at h
   exact h.elim
 | er c Γ'=>rw [e] at h;exact h
 | no=>rw [e] at h;exact h
end
def cR (p:PV) (ds:List D):Bool:=!p.s.isView||ds.all bu
theorem Own.items {K:Fg} {O O':List Addr} {H:Hp} {s:Sh} {G:List Addr} {v:V} {ds:List D} (h:Own K O H s G v (.list ds)) (hc:cR ⟨s,.list ds⟩ ds=true) (h1:∀a∈O',a∈O) (h2:∀a∈G,a∉O') :
  ∃p vs,v=.ref p/\SqL K H p vs/\(s.isView=false->SqL K (cI H O') p vs)/\Reps K (cI H O') vs ds:=by
 have hr:=h.rep
 cases hv:s.isView with
 | false=>
  have r:=h.freeze hv h1 h2
  cases r with
  | @lst p vs _ hq hl hr=>exact ⟨p,vs,rfl,hid_le.seq hq,fun _=>hq,hl,hr⟩
 | true=>
  unfold cR at hc;have hc:ds.all bu=true:=by simpa [hv] using hc
  cases hr with
  | @lst p vs _ hq hl hr=>exact ⟨p,vs,rfl,hq,nofun,hl,fun i v d e1 e2=>((hr i v d e1 e2).sc (List.all_eq_true.mp hc d (mem_of_getElem? e2))).rep⟩
theorem Own.itemsT {K:Fg} {O O':List Addr} {H:Hp} {s:Sh} {G:List Addr} {v:V} {ds:List D} (h:Own K O H s G v (.tuple ds)) (hc:cR ⟨s,.tuple ds⟩ ds=true) (h1:∀a∈O',a∈O) (h2:∀a∈G,a∉O') :
  ∃p vs,v=.ref p/\SqT K H p vs/\(s.isView=false->SqT K (cI H O') p vs)/\Reps K (cI H O') vs ds:=by
 have hr:=h.rep
 cases hv:s.isView with
 | false=>
  have r:=h.freeze hv h1 h2
  cases r with
  | @tup p vs _ hq hl hr=>exact ⟨p,vs,rfl,gO hid_le hq,fun _=>hq,hl,hr⟩
 | true=>
  unfold cR at hc;have hc:ds.all bu=true:=by simpa [hv] using hc
  cases hr with
  | @tup p vs _ hq hl hr=>exact ⟨p,vs,rfl,hq,nofun,hl,fun i v d e1 e2=>((hr i v d e1 e2).sc (List.all_eq_true.mp hc d (mem_of_getElem? e2))).rep⟩
theorem Eb {K:Fg} {σ:St} {He H H1:Hp} {O:List Addr} {Fs Fs1:List (List Addr)} {Γ1:Ev} {vs:List V} {ds:List D} {p:Addr} (E:EnvOk K He O Fs1 H1 σ Γ1) (s:Same H H1) (n:∀a∈Fs1.flatten,a∈Fs.flatten\/H a=none)
  (hr:Reps K (cI H1 (O++Fs1.flatten)) vs ds) (hp:H1 p=none):Aft K He O Fs H σ Γ1 ⟨.lst .leaf,.list ds⟩ (.ref p) (cg H1 p (.lst vs)) [p] Fs1:=by
 have E2:=E.hide (G:=[p]) (kZ (o:=.lst vs) hp) (by simp) (fun a ha=>by simp at ha;rw [ha];exact hp) (fun a ha=>by simp at ha;rw [ha,kS];exact Option.some_ne_none _)
 refine ⟨s.trans (kZ hp),E2,fun a ha=>?_,?_⟩
 ·rcases List.mem_append.mp ha with z | z
  ·have z:a=p:=by simpa using z
   rw [z];exact .inr (s.free hp)
  ·exact n a z
 ·have fl:(List.replicate ds.length ([]:List Addr)).flatten=[]:=by simp
  have:[p]=p::(List.replicate ds.length ([]:List Addr)).flatten:=by rw [fl]
  rw [this];refine .lst rfl kS hr.1 (by simp) (by rw [fl];simp) fun i v d F h1 h2 h3=>?_
  rw [getElem?_replicate] at h3;split at h3
  ·cases h3
   refine .leaf ((hr.2 i v d h1 h2).mono (wY (kZ hp) fun a ha=>?_))
   rw [fl] at ha;rcases List.mem_append.mp ha with z | z
   ·rcases List.mem_append.mp z with z | z
    ·have z:a=p:=by simpa using z
     rw [z];exact .inr hp
    ·exact .inl (mem_append_left _ z)
   ·exact .inl (mem_append_right _ z)
  ·cases h3
def kX (fa:F1):F1:=bg fa fun p Γ=>match p.d with
 | .list ds=>if cR p ds then .ok ⟨.lst .leaf,.list ds⟩ Γ else .no
 | .tuple ds=>if cR p ds then .ok ⟨.lst .leaf,.list ds⟩ Γ else .no
 | _=>.no
section
variable {K:Fg} {W:XW} {σ:St} {H:Hp} {Q:VK} {fa fb:F1}
theorem Aft.disj {He H1:Hp} {O G:List Addr} {Fs Fs1:List (List Addr)} {Γ1:Ev} {p:PV} {v:V} (A:Aft K He O Fs H σ Γ1 p v H1 G Fs1):∀a∈G,a∉O++Fs1.flatten:=fun a ha z=>by
 have nd:=A.env.nd
 rw [append_assoc] at nd;exact (List.nodup_append.mp nd).2.2 a ha a z rfl
theorem gQ {G O F:List Addr}:∀a∈O++F,a∈G++O++F:=fun a ha=>by
 rw [append_assoc];exact mem_append_right _ ha
theorem qS (h:tE K W (kX fa) σ H Q):EK (fun xs H Q=>∃p ys,xs=[.ref p]/\(SqL K H p ys\/SqT K H p ys)/\∀l,H l=none->Q (.ref l) (cg H l (.lst ys))) (tA K W (ae fa ag)) σ H Q:=by
 have h1:tE K W fa σ H fun x H1=>∃p ys,x=.ref p/\(SqL K H1 p ys\/SqT K H1 p ys)/\∀l,H1 l=none->Q (.ref l) (cg H1 l (.lst ys)):=by
  refine wN h fun He O Fs Γ1 p v H1 G Fs1 nd A w=>?_
  obtain ⟨s,d⟩:=p
  cases d with
  | list ds=>
   have w:Wants K W He O Fs H σ Q (if cR ⟨s,.list ds⟩ ds then .ok ⟨.lst .leaf,.list ds⟩ Γ1 else .no):=w
   cases hc:cR ⟨s,.list ds⟩ ds with
   | false=>rw [hc] at w;exact w.elim
   | true=>
    rw [hc] at w;obtain ⟨p,vs,rfl,hq,_,hr⟩:=A.own.items (O':=O++Fs1.flatten) hc gQ A.disj
    exact ⟨p,vs,rfl,.inl hq,fun l hl=>w _ _ _ _ (Eb A.go A.same A.newF hr hl)⟩
  | tuple ds=>
   have w:Wants K W He O Fs H σ Q (if cR ⟨s,.tuple ds⟩ ds then .ok ⟨.lst .leaf,.list ds⟩ Γ1 else .no):=w
   cases hc:cR ⟨s,.tuple ds⟩ ds with
   | false=>rw [hc] at w;exact w.elim
   | true=>
    rw [hc] at w;obtain ⟨p,vs,rfl,hq,_,hr⟩:=A.own.itemsT (O':=O++Fs1.flatten) hc gQ A.disj
    exact ⟨p,vs,rfl,.inr hq,fun l hl=>w _ _ _ _ (Eb A.go A.same A.newF hr hl)⟩
  | _=>exact w.elim
 obtain ⟨He,O,Fs,Γ,E,h1⟩:=h1;refine ⟨He,O,Fs,Γ,E,?_⟩
 unfold ae ag
 cases e:fa Γ with
 | ok p Γ'=>
  rw [e] at h1;intro vs H' Gs Fs' A
  match vs,Gs,A.len1,A.len2 with
  | [v],[G],_,_=>
   have A':Aft K He O Fs H σ Γ' p v H' G Fs':=⟨A.same,by simpa using A.env,by simpa using A.new,by simpa using A.own 0 v p G rfl rfl rfl⟩
   obtain ⟨q,ys,rfl,h2,h3⟩:=h1 v H' G Fs' A'
   exact ⟨q,ys,rfl,h2,h3⟩
 | er c Γ'=>rw [e] at h1;exact h1
 | no=>rw [e] at h1;exact h1
end
structure wm (J:It) (P:Hp->Prop) (vs:List V):Prop where
 go:∀(i:Nat) H v,P H->vs[i]?=some v->J.go i H/\∀x H',J.yld i H x H'->H'=H/\x=v
 stop:∀H,P H->J.stop vs.length H
theorem yh {K:Fg} {a:Addr} {vs:List V}:wm (Ia K a) (fun H=>SqL K H a vs) vs:=
 ⟨fun i H v hp hv=>⟨⟨vs,v,hp,hv⟩,fun x H' ⟨e,q⟩=>⟨e,Option.some.inj ((q vs hp).symm.trans hv)⟩⟩,fun H hp=>⟨vs,hp,Nat.le_refl _⟩⟩
theorem CA {K:Fg} {a:Addr} {vs:List V}:wm (H0 K a) (fun H=>SqT K H a vs) vs:=
 ⟨fun i H v hp hv=>⟨⟨vs,v,hp,hv⟩,fun x H' ⟨e,q⟩=>⟨e,Option.some.inj ((q vs hp).symm.trans hv)⟩⟩,fun H hp=>⟨vs,hp,Nat.le_refl _⟩⟩
def eP (lo:Int) (n:Nat):List V:=(List.range n).map fun i=>.int (lo+(i:Nat))
def b4 (lo:Int) (n:Nat):List D:=(List.range n).map fun i=>.int (lo+(i:Nat))
theorem u7 {lo:Int} {n:Nat}:wm (Dq lo n) (fun _=>True) (eP lo n):=by
 refine ⟨fun i H v _ hv=>?_,fun H _=>?_⟩
 ·unfold eP at hv
  rw [getElem?_map] at hv
  cases e:(List.range n)[i]? with
  | none=>rw [e] at hv;cases hv
  | some k=>
   rw [e] at hv;obtain ⟨h1,h2⟩:=List.getElem?_eq_some_iff.mp e
   simp at h1 h2
   subst h2
   cases hv;exact ⟨h1,fun x H' ⟨q1,q2⟩=>⟨q1,q2⟩⟩
 ·show n<=(eP lo n).length
  simp [eP]
theorem IP {K:Fg} {H:Hp} {lo:Int} {n:Nat}:Reps K H (eP lo n) (b4 lo n):=by
 refine ⟨by simp [eP,b4],fun i v d h1 h2=>?_⟩
 unfold eP at h1;unfold b4 at h2;rw [getElem?_map] at h1 h2
 cases e:(List.range n)[i]? with
 | none=>rw [e] at h1;cases h1
 | some k=>
  rw [e] at h1 h2
  cases h1
  cases h2;exact .int _
structure Ln where
 ds:List D
 st:Bool
abbrev FI:=Ev->Out Ln
def DY (K:Fg) (W:XW) (He:Hp) (O:List Addr) (Fs:List (List Addr)) (H:Hp) (σ:St) (R:It->Hp->Prop) (o:Out Ln):Prop:=match o with
 | .ok t Γ'=>∀J H' Fs' vs P,Same H H'->EnvOk K He O Fs' H' σ Γ'->(∀a∈Fs'.flatten,a∈Fs.flatten\/H a=none)->wm J P vs->P H'->(∀H2,Same H' H2->P H2)->(t.st=true->∀H2,Same (cI H' Fs'.flatten) H2->P H2) ->
   Reps K (cI H' (O++Fs'.flatten)) vs t.ds->R J H'
 | .er c Γ'=>∀H' Fs',Same H H'->EnvOk K He O Fs' H' σ Γ'->W c σ H'
 | .no=>False
def tI (K:Fg) (W:XW) (f:FI):TI:=fun σ H R=>∃He O Fs Γ,EnvOk K He O Fs H σ Γ/\DY K W He O Fs H σ R (f Γ)
theorem m6 {X:Cx} {tg iter:Expr} {t t':TI} (h:PI X tg iter t) (i:∀σ H R,t' σ H R->t σ H R):PI X tg iter t':=fun pins s σ H R I q=>h pins s σ H R I (i σ H R q)
def bt (fa:F1):FI:=fun Γ=>(fa Γ).bind fun p Γ'=>match p.d with
 | .list ds=>if cR p ds then .ok ⟨ds,!p.s.isView⟩ Γ' else .no
 | _=>.no
def eI (fa:F1):FI:=fun Γ=>(fa Γ).bind fun p Γ'=>match p.d with
 | .tuple ds=>if cR p ds then .ok ⟨ds,!p.s.isView⟩ Γ' else .no
 | _=>.no
section
variable {K:Fg} {W:XW} {σ:St} {H:Hp} {R:It->Hp->Prop} {fa fb:F1}
theorem sub_hid {H:Hp} {O F:List Addr}:Same (cI H (O++F)) (cI H F):=wY (Same.refl _) fun a ha=>.inl (mem_append_right _ ha)
theorem xF (h:tI K W (bt fa) σ H R):zM K (tE K W fa) σ H R:=by
 obtain ⟨He,O,Fs,Γ,E,h⟩:=h;refine ⟨He,O,Fs,Γ,E,?_⟩
 unfold bt at h
 cases e:fa Γ with
 | ok p Γ1=>
  rw [e] at h;intro v H1 G Fs1 A;obtain ⟨s,d⟩:=p
  cases d with
  | list ds=>
   have h:DY K W He O Fs H σ R (if cR ⟨s,.list ds⟩ ds then .ok ⟨ds,!s.isView⟩ Γ1 else .no):=h
   cases hc:cR ⟨s,.list ds⟩ ds with
   | false=>rw [hc] at h;exact h.elim
   | true=>
    rw [hc] at h;obtain ⟨p,vs,rfl,hq,hst,hr⟩:=A.own.items (O':=O++Fs1.flatten) hc gQ A.disj
    exact ⟨p,rfl,⟨vs,hq⟩,h (Ia K p) H1 Fs1 vs (fun H=>SqL K H p vs) A.same A.go A.newF yh hq (fun H2 s2=>s2.seq hq) (fun ht H2 s2=>s2.seq (sub_hid.seq (hst (by simpa using ht)))) hr⟩
  | _=>exact h.elim
 | er c Γ'=>rw [e] at h;exact h
 | no=>rw [e] at h;exact h
theorem xE (h:tI K W (eI fa) σ H R):FG K (tE K W fa) σ H R:=by
 obtain ⟨He,O,Fs,Γ,E,h⟩:=h;refine ⟨He,O,Fs,Γ,E,?_⟩
 unfold eI at h
 cases e:fa Γ with
 | ok p Γ1=>
  rw [e] at h;intro v H1 G Fs1 A;obtain ⟨s,d⟩:=p
  cases d with
  | tuple ds=>
   have h:DY K W He O Fs H σ R (if cR ⟨s,.tuple ds⟩ ds then .ok ⟨ds,!s.isView⟩ Γ1 else .no):=h
   cases hc:cR ⟨s,.tuple ds⟩ ds with
   | false=>rw [hc] at h;exact h.elim
   | true=>
    rw [hc] at h;obtain ⟨p,vs,rfl,hq,hst,hr⟩:=A.own.itemsT (O':=O++Fs1.flatten) hc gQ A.disj
    exact ⟨p,rfl,⟨vs,hq⟩,h (H0 K p) H1 Fs1 vs (fun H=>SqT K H p vs) A.same A.go A.newF CA hq (fun H2 s2=>gO s2 hq) (fun ht H2 s2=>gO s2 (gO sub_hid (hst (by simpa using ht)))) hr⟩
  | _=>exact h.elim
 | er c Γ'=>rw [e] at h;exact h
 | no=>rw [e] at h;exact h
def cU (j:Int):Bool:=decide (-(2 ^ 62)<=j)&&decide (j<2 ^ 62)
def jb:List D->Option Int
 | [.int j]=>if cU j then some j else none
 | _=>none
def qQ:List D->Option (Int×Int)
 | [.int i,.int j]=>if cU i&&cU j then some (i,j) else none
 | _=>none
theorem pq {ds:List D} {j:Int} (h:jb ds=some j):ds=[.int j]/\-(2 ^ 62)<=j/\j<2 ^ 62:=by
 unfold jb at h;split at h
 ·split at h
  ·rename_i hc
   cases h;simp only [cU,Bool.and_eq_true,decide_eq_true_eq] at hc
   exact ⟨rfl,hc.1,hc.2⟩
  ·cases h
 ·cases h
theorem xp {ds:List D} {i j:Int} (h:qQ ds=some (i,j)):ds=[.int i,.int j]/\(-(2 ^ 62)<=i/\i<2 ^ 62/\-(2 ^ 62)<=j/\j<2 ^ 62):=by
 unfold qQ at h;split at h
 ·split at h
  ·rename_i hc
   cases h;simp only [cU,Bool.and_eq_true,decide_eq_true_eq] at hc
   exact ⟨rfl,hc.1.1,hc.1.2,hc.2.1,hc.2.2⟩
  ·cases h
 ·cases h
def eJ (fl:FL):FI:=fun Γ=>(fl Γ).bind fun ps Γ'=>match jb (ps.map (·.d)) with
 | some j=>.ok ⟨b4 0 j.toNat,true⟩ Γ'
 | none=>.no
def rK (fl:FL):FI:=fun Γ=>(fl Γ).bind fun ps Γ'=>match qQ (ps.map (·.d)) with
 | some (i,j)=>.ok ⟨b4 i (j-i).toNat,true⟩ Γ'
 | none=>.no
theorem Bo {fl:FL} (h:tI K W (eJ fl) σ H R):zL (tA K W fl) σ H R:=by
 obtain ⟨He,O,Fs,Γ,E,h⟩:=h;refine ⟨He,O,Fs,Γ,E,?_⟩
 unfold eJ at h
 cases e:fl Γ with
 | ok ps Γ1=>
  rw [e] at h;intro vs H1 Gs Fs1 A;have h:DY K W He O Fs H σ R (match jb (ps.map (·.d)) with | some j=>.ok ⟨b4 0 j.toNat,true⟩ Γ1 | none=>.no):=h
  have rs:=A.reps
  cases e1:jb (ps.map (·.d)) with
  | none=>rw [e1] at h;exact h.elim
  | some j=>
   rw [e1] at h;obtain ⟨e2,h1,h2⟩:=pq e1;rw [e2] at rs;obtain ⟨v,rfl,r⟩:=rs.one
   cases r;exact ⟨j,rfl,h1,h2,h (Dq 0 j.toNat) H1 Fs1 (eP 0 j.toNat) (fun _=>True) A.same A.env.dropL (fun a ha=>A.new a (mem_append_right _ ha)) u7 trivial (fun _ _=>trivial) (fun _ _ _=>trivial) IP⟩
 | er c Γ'=>rw [e] at h;exact h
 | no=>rw [e] at h;exact h
theorem Bm {fl:FL} (h:tI K W (rK fl) σ H R):zK (tA K W fl) σ H R:=by
 obtain ⟨He,O,Fs,Γ,E,h⟩:=h;refine ⟨He,O,Fs,Γ,E,?_⟩
 unfold rK at h
 cases e:fl Γ with
 | ok ps Γ1=>
  rw [e] at h;intro vs H1 Gs Fs1 A;have h:DY K W He O Fs H σ R (match qQ (ps.map (·.d)) with | some (i,j)=>.ok ⟨b4 i (j-i).toNat,true⟩ Γ1 | none=>.no):=h
  have rs:=A.reps
  cases e1:qQ (ps.map (·.d)) with
  | none=>rw [e1] at h;exact h.elim
  | some ij=>
   obtain ⟨i,j⟩:=ij;rw [e1] at h;obtain ⟨e2,hb⟩:=xp e1;rw [e2] at rs;obtain ⟨v,u,rfl,r,r'⟩:=rs.two
   cases r
   cases r'
   exact ⟨i,j,rfl,hb,h (Dq i (j-i).toNat) H1 Fs1 (eP i (j-i).toNat) (fun _=>True) A.same A.env.dropL (fun a ha=>A.new a (mem_append_right _ ha)) u7 trivial (fun _ _=>trivial) (fun _ _ _=>trivial) IP⟩
 | er c Γ'=>rw [e] at h;exact h
 | no=>rw [e] at h;exact h
end
def qv (i:Nat) (fc:FB) (fe:F1) (s:Sh):List D->Ev->List D->Out (List D)
 | [],Γ,acc=>.ok acc Γ
 | d::r,Γ,acc=>match fc (Γ.set i (some ⟨.leaf,d⟩)) with
  | .ok true Γ1=>(match fe Γ1 with
   | .ok p Γ2=>if T.coer s p&&decide (acc.length<sizeLine) then qv i fc fe s r (Γ2.set i none) (acc++[p.d]) else .no
   | _=>.no)
  | .ok false Γ1=>if acc.length<sizeLine then qv i fc fe s r (Γ1.set i none) acc else .no
  | _=>.no
def aC (s:Sh) (i:Nat) (fi:FI) (fc:FB) (fe:F1):F1:=fun Γ=>(fi Γ).bind fun t Γ1=>match qv i fc fe s t.ds (Γ1.set i none) [] with
 | .ok ds Γ2=>if !s.isView&&decide (i<Γ1.length) then .ok ⟨.lst s,.list ds⟩ (Γ2.set i (Γ1.getD i none)) else .no
 | _=>.no
abbrev W0:XW:=fun _ _ _=>False
section
variable {K:Fg} {He H H1 H2:Hp} {O G:List Addr} {Fs Fs1 Fs2:List (List Addr)} {σ:St} {Γ Γ1 Γ2:Ev}
theorem mZ {is:List Nat} {σ:St} {j:Nat} (h:j∉is):(bK is σ)[j]?=σ[j]?:=by
 unfold bK;rw [List.getElem?_mapIdx]
 cases σ[j]? with
 | none=>rfl
 | some o=>simp [h]
theorem fN {Γ:Ev} {i j:Nat} {p:PV} (h:(Γ.set i none)[j]?=some (some p)):j≠i/\Γ[j]?=some (some p):=by
 by_cases hj:j=i
 ·subst hj
  rw [List.getElem?_set] at h;split at h
  ·split at h<;>cases h
  ·rename_i z;exact absurd rfl z
 ·rw [getElem?_set_ne (Ne.symm hj)] at h
  exact ⟨hj,h⟩
theorem EnvOk.shut {i:Nat} (E:EnvOk K He O Fs H σ Γ) (hi:i<Γ.length) :
  ∃F,Fs[i]?=some F/\EnvOk K He (F++O) (Fs.set i []) H (bK [i] σ) (Γ.set i none)/\∀a,a∈F++(Fs.set i []).flatten↔a∈Fs.flatten:=by
 obtain ⟨F,hF⟩:=E.lt hi;have pm:(F++(Fs.set i []).flatten).Perm Fs.flatten:=by simpa using oR (G:=[]) hF
 have pm2:(F++O++(Fs.set i []).flatten).Perm (O++Fs.flatten):=by
  rw [append_assoc];exact (pP _ _ _).trans (List.Perm.append_left _ pm)
 refine ⟨F,hF,⟨by rw [Ho,length_set];exact E.len1,by rw [length_set,length_set];exact E.len2,E.same,pm2.nodup_iff.mpr E.nd,fun a ha=>E.inH a (pm2.mem_iff.mp ha),fun a ha=>E.fresh a (pm.mem_iff.mp (mem_append_right _ ha)),fun j q hq=>?_⟩,fun a=>pm.mem_iff⟩
 obtain ⟨hj,hq⟩:=fN hq;obtain ⟨w1,v',F',e1,e2,e3⟩:=E.slot j q hq;exact ⟨w1,v',F',by rw [mZ (by simpa using hj)];exact e1,by rw [getElem?_set_ne (Ne.symm hj)];exact e2,e3.mono (Same.refl _) fun a ha=>.inl (pm2.mem_iff.mp ha)⟩
theorem EnvOk.forget {i:Nat} {x:Option V} (E:EnvOk K He O Fs H ((bK [i] σ).set i x) Γ) (hi:i<Γ.length):EnvOk K He O (Fs.set i []) H (bK [i] σ) (Γ.set i none):=by
 obtain ⟨F,hF⟩:=E.lt hi;have pm:(F++(Fs.set i []).flatten).Perm Fs.flatten:=by simpa using oR (G:=[]) hF
 have sub:∀a∈O++(Fs.set i []).flatten,a∈O++Fs.flatten:=fun a ha=>by
  rcases List.mem_append.mp ha with z | z
  ·exact mem_append_left _ z
  ·exact mem_append_right _ (pm.mem_iff.mp (mem_append_right _ z))
 have l1:=E.len1
 rw [length_set] at l1;obtain ⟨n1,n2,n3⟩:=List.nodup_append.mp E.nd;have n4:((Fs.set i []).flatten).Nodup:=(List.nodup_append.mp (pm.nodup_iff.mpr n2)).2.1
 refine ⟨by rw [length_set];exact l1,by rw [length_set,length_set];exact E.len2,E.same,List.nodup_append.mpr ⟨n1,n4,fun a ha b hb=>n3 a ha b (pm.mem_iff.mp (mem_append_right _ hb))⟩,fun a ha=>E.inH a (sub a ha),fun a ha=>E.fresh a (pm.mem_iff.mp (mem_append_right _ ha)),fun j q hq=>?_⟩
 obtain ⟨hj,hq⟩:=fN hq;obtain ⟨w1,v',F',e1,e2,e3⟩:=E.slot j q hq;rw [getElem?_set_ne (Ne.symm hj)] at e1;exact ⟨w1,v',F',e1,by rw [getElem?_set_ne (Ne.symm hj)];exact e2,e3.mono (Same.refl _) fun a ha=>.inl (sub a ha)⟩
theorem EnvOk.reopen {i:Nat} {F:List Addr} (E1:EnvOk K He O Fs1 H1 σ Γ1) (hF:Fs1[i]?=some F) (E2:EnvOk K He (G++(F++O)) Fs2 H2 (bK [i] σ) Γ2) (hl:Γ2.length=Γ1.length) (s:Same H1 H2)
  (hn:Γ2[i]?=some none) (hF2:Fs2[i]?=some []) (new:∀a∈G++Fs2.flatten,a∈Fs1.flatten\/H1 a=none):EnvOk K He (G++O) (Fs2.set i F) H2 σ (Γ2.set i (Γ1.getD i none)):=by
 have pm:((Fs2.set i F).flatten).Perm (F++Fs2.flatten):=by simpa using oR (G:=F) hF2
 have pm2:(G++O++(Fs2.set i F).flatten).Perm (G++(F++O)++Fs2.flatten):=by
  refine (List.Perm.append_left _ pm).trans ?_
  rw [append_assoc,append_assoc];refine List.Perm.append_left _ ?_
  rw [append_assoc];exact pP _ _ _
 have hi:i<Γ2.length:=(List.getElem?_eq_some_iff.mp hn).1
 refine ⟨by rw [length_set,hl];exact E1.len1,by rw [length_set,length_set];exact E2.len2,E2.same,pm2.nodup_iff.mpr E2.nd,fun a ha=>E2.inH a (pm2.mem_iff.mp ha),fun a ha=>?_,fun j q hq=>?_⟩
 ·rcases List.mem_append.mp (pm.mem_iff.mp ha) with z | z
  ·exact E1.fresh a (kY hF z)
  ·exact E2.fresh a z
 ·by_cases hj:j=i
  ·subst hj
   rw [getElem?_set_self hi] at hq;have hq:Γ1.getD j none=some q:=Option.some.inj hq
   rw [getD_eq_getElem?_getD] at hq;have hq':Γ1[j]?=some (some q):=by
    cases e:Γ1[j]? with
    | none=>rw [e] at hq;cases hq
    | some o=>rw [e] at hq;simp only [Option.getD_some] at hq;rw [hq]
   obtain ⟨w1,v',F',e1,e2,e3⟩:=E1.slot j q hq'
   rw [hF] at e2
   cases e2;refine ⟨w1,v',F,e1,getElem?_set_self (by rw [E2.len2];exact hi),e3.mono s fun a ha=>?_⟩
   rcases List.mem_append.mp ha with z | z
   ·rcases List.mem_append.mp z with z | z
    ·exact (new a (mem_append_left _ z)).elim (fun y=>.inl (mem_append_right _ y)) .inr
    ·exact .inl (mem_append_left _ z)
   ·rcases List.mem_append.mp (pm.mem_iff.mp z) with y | y
    ·exact .inl (mem_append_right _ (kY hF y))
    ·exact (new a (mem_append_right _ y)).elim (fun y=>.inl (mem_append_right _ y)) .inr
  ·rw [getElem?_set_ne (Ne.symm hj)] at hq
   obtain ⟨w1,v',F',e1,e2,e3⟩:=E2.slot j q hq;rw [mZ (by simpa using hj)] at e1
   exact ⟨w1,v',F',e1,by rw [getElem?_set_ne (Ne.symm hj)];exact e2,e3.mono (Same.refl _) fun a ha=>.inl (pm2.mem_iff.mp ha)⟩
theorem EnvOk.mutO {p:Addr} {o:HO} {xs:List V} (E:EnvOk K He O Fs H σ Γ) (hp:p∈O) (hl:H p=some (.lst xs)) (hn:He p=none):EnvOk K He O Fs (cg H p o) σ Γ:=by
 obtain ⟨n1,n2,n3⟩:=List.nodup_append.mp E.nd;refine ⟨E.len1,E.len2,fun b u e=>?_,E.nd,fun a ha=>?_,E.fresh,fun j q hq=>?_⟩
 ·rw [gP (zi e hn)]
  exact E.same b u e
 ·by_cases h:a=p
  ·rw [h,kS];exact Option.some_ne_none _
  ·rw [gP h];exact E.inH a ha
 ·obtain ⟨w1,v',F',e1,e2,e3⟩:=E.slot j q hq
  exact ⟨w1,v',F',e1,e2,e3.mut w1 (mem_append_left _ hp) (fun z=>n3 p hp p (kY e2 z) rfl) hl⟩
end
structure Kx (K:Fg) (He:Hp) (O F:List Addr) (Fs1:List (List Addr)) (H1:Hp) (σ:St) (i:Nat) (s:Sh) (A0:Addr) (n:Nat) (ys:List V) (H:Hp) (Γk:Ev) (Fk Gs:List (List Addr)) (acc:List D):Prop where
 env:EnvOk K He (A0::Gs.flatten++(F++O)) Fk H (bK [i] σ) Γk
 same:Same H1 H
 at_:H A0=some (.lst ys)
 new:∀a∈Gs.flatten++Fk.flatten,a∈Fs1.flatten\/H1 a=none
 l1:ys.length=acc.length
 l2:Gs.length=acc.length
 own:∀(j:Nat) v d G,ys[j]?=some v->acc[j]?=some d->Gs[j]?=some G->Own K (A0::Gs.flatten++(F++O)++Fk.flatten) H s G v d
 noneG:Γk[i]?=some none
 noneF:Fk[i]?=some []
 len:Γk.length=n
theorem DE {α:Type} (Gs:List (List α)) (G:List α):(Gs++[G]).flatten=Gs.flatten++G:=by simp
section
variable {K:Fg} {W:XW} {σ:St} {H:Hp} {Q:VK} {fe:F1} {fc:FB} {fi:FI} {s:Sh} {i:Nat}
theorem pE (h:tE K W (aC s i fi fc fe) σ H Q):o7 [i] (tI K W fi) (gName i) (tT K W0 fc) (tE K W0 fe) σ H Q:=by
 obtain ⟨He,O,Fs,Γ,E,h⟩:=h;refine ⟨He,O,Fs,Γ,E,?_⟩
 unfold aC at h
 cases e:fi Γ with
 | er c Γ'=>rw [e] at h;exact h
 | no=>rw [e] at h;exact h
 | ok t Γ1=>
  rw [e] at h;intro J H1 Fs1 vs P s1 E1 n1 it hP hP1 _ hr A0 hD;have h:Wants K W He O Fs H σ Q (match qv i fc fe s t.ds (Γ1.set i none) [] with | .ok ds Γ2=>if !s.isView&&decide (i<Γ1.length) then .ok ⟨.lst s,.list ds⟩ (Γ2.set i (Γ1.getD i none)) else .no | _=>.no):=h
  cases eg:qv i fc fe s t.ds (Γ1.set i none) [] with
  | er c Γ'=>rw [eg] at h;exact h.elim
  | no=>rw [eg] at h;exact h.elim
  | ok ds' Γ2=>
   rw [eg] at h;have h:Wants K W He O Fs H σ Q (if (!s.isView&&decide (i<Γ1.length))=true then .ok ⟨.lst s,.list ds'⟩ (Γ2.set i (Γ1.getD i none)) else .no):=h
   by_cases hc:(!s.isView&&decide (i<Γ1.length))=true
   case neg=>rw [if_neg hc] at h;exact h.elim
   rw [if_pos hc] at h;simp only [Bool.and_eq_true,decide_eq_true_eq,Bool.not_eq_true'] at hc
   obtain ⟨hsv,hi⟩:=hc;obtain ⟨F,hF,E0,hmem⟩:=E1.shut hi;have hHeD:He A0=none:=E1.same.free hD
   have E0':EnvOk K He (A0::([]:List (List Addr)).flatten++(F++O)) (Fs1.set i []) (cg H1 A0 (.lst [])) (bK [i] σ) (Γ1.set i none):=
    E0.hide (G:=[A0]) (kZ hD) (by simp) (fun a ha=>by simp at ha;rw [ha];exact hD) (fun a ha=>by simp at ha;rw [ha,kS];exact Option.some_ne_none _)
   refine ⟨fun k m ys H'=>m=vs.length-k/\k<=vs.length/\∃Γk Fk Gs acc,Kx K He O F Fs1 H1 σ i s A0 Γ1.length ys H' Γk Fk Gs acc/\qv i fc fe s (t.ds.drop k) Γk acc=.ok ds' Γ2,⟨vs.length,by simp,Nat.zero_le _,Γ1.set i none,Fs1.set i [],[],[],⟨E0',kZ hD,kS,fun a ha=>.inl ((hmem a).mp (mem_append_right _ (by simpa using ha))),rfl,rfl,fun j v d G h1=>by simp at h1,getElem?_set_self hi,getElem?_set_self (by rw [E1.len2];exact hi),by rw [length_set]⟩,by simpa using eg⟩,?_⟩
   rintro k m ys H' ⟨rfl,hk,Γk,Fk,Gs,acc,g,eg'⟩
   refine ⟨g.at_,?_⟩
   have hPk:P H':=hP1 H' g.same
   have hlen:vs.length=t.ds.length:=hr.1
   by_cases hlt:k<vs.length
   case neg=>
    have hke:k=vs.length:=by omega
    left
    have:t.ds.drop k=[]:=List.drop_eq_nil_of_le (by omega)
    rw [this] at eg';have eg'':(Out.ok acc Γk:Out (List D))=.ok ds' Γ2:=eg'
    injection eg'' with e1 e2
    subst e1;subst e2;refine ⟨by rw [hke];exact it.stop H' hPk,?_⟩
    have E3:EnvOk K He ((A0::Gs.flatten)++O) (Fk.set i F) H' σ (Γk.set i (Γ1.getD i none)):=
     EnvOk.reopen (G:=A0::Gs.flatten) E1 hF g.env g.len g.same g.noneG g.noneF fun a ha=>by
      rcases List.mem_append.mp ha with z | z
      ·rcases List.mem_cons.mp z with z | z
       ·rw [z];exact .inr hD
       ·exact g.new a (mem_append_left _ z)
      ·exact g.new a (mem_append_right _ z)
    have pmF:((Fk.set i F).flatten).Perm (F++Fk.flatten):=by simpa using oR (G:=F) g.noneF
    obtain ⟨n1',_,n3'⟩:=List.nodup_append.mp g.env.ndO;refine h (.ref A0) H' (A0::Gs.flatten) (Fk.set i F) ⟨s1.trans g.same,E3,fun a ha=>?_,?_⟩
    ·have up:a∈Fs1.flatten\/H1 a=none->a∈Fs.flatten\/H a=none:=fun z=>z.elim (n1 a) fun y=>.inr (s1.free y)
     rcases List.mem_append.mp ha with z | z
     ·rcases List.mem_cons.mp z with z | z
      ·exact up (.inr (by rw [z];exact hD))
      ·exact up (g.new a (mem_append_left _ z))
     ·rcases List.mem_append.mp (pmF.mem_iff.mp z) with y | y
      ·exact up (.inl (kY hF y))
      ·exact up (g.new a (mem_append_right _ y))
    ·refine .lst hsv g.at_ g.l1 g.l2 n1' fun j v d G h1 h2 h3=>(g.own j v d G h1 h2 h3).perm fun a ha=>?_
     rw [append_assoc] at ha ⊢;rcases List.mem_append.mp ha with z | z
     ·exact mem_append_left _ z
     ·refine mem_append_right _ ?_
      rcases List.mem_append.mp z with z | z
      ·exact mem_append_left _ (mem_append_right _ z)
      ·rcases List.mem_append.mp (pmF.mem_iff.mp z) with y | y
       ·exact mem_append_left _ (mem_append_left _ y)
       ·exact mem_append_right _ y
   case pos=>
    right
    have hv:vs[k]?=some vs[k]:=getElem?_eq_getElem hlt
    have hkd:k<t.ds.length:=by omega
    have hd:t.ds[k]?=some t.ds[k]:=getElem?_eq_getElem hkd
    have hdr:t.ds.drop k=t.ds[k]::t.ds.drop (k+1):=drop_eq_getElem_cons hkd
    rw [hdr] at eg';generalize hdk:t.ds[k]=d at hd eg'
    generalize hvk:vs[k]=v at hv
    obtain ⟨hgo,hyld⟩:=it.go k H' v hPk hv
    simp only [qv] at eg'
    have hik:i<Γk.length:=by rw [g.len];exact hi
    have rep:Rep K (cI H' (A0::Gs.flatten++(F++O)++Fk.flatten)) v d:=(hr.2 k v d hv hd).mono (wY g.same fun a ha=>by
     rcases List.mem_append.mp ha with z | z
     ·rcases List.mem_append.mp z with z | z
      ·rcases List.mem_cons.mp z with z | z
       ·rw [z];exact .inr hD
       ·exact (g.new a (mem_append_left _ z)).elim (fun y=>.inl (mem_append_right _ y)) .inr
      ·rcases List.mem_append.mp z with z | z
       ·exact .inl (mem_append_right _ (kY hF z))
       ·exact .inl (mem_append_left _ z)
     ·exact (g.new a (mem_append_right _ z)).elim (fun y=>.inl (mem_append_right _ y)) .inr)
    have Ep:EnvOk K He (A0::Gs.flatten++(F++O)) (Fk.set i []) H' ((bK [i] σ).set i (some v)) (Γk.set i (some ⟨.leaf,d⟩)):=
     EnvOk.put (G:=[]) (p:=⟨.leaf,d⟩) (v:=v) g.env (.leaf rep) rfl (fun a ha=>by simp at ha) hik
    have hsl:ys.length<sizeLine:=by
     rw [g.l1]
     cases ec:fc (Γk.set i (some ⟨.leaf,d⟩)) with
     | no=>rw [ec] at eg';cases eg'
     | er c Γ'=>rw [ec] at eg';cases eg'
     | ok b Γa=>
      rw [ec] at eg'
      cases b with
      | false=>
       dsimp only at eg'
       split at eg'
       ·assumption
       ·cases eg'
      | true=>
       dsimp only at eg'
       split at eg'
       ·split at eg'
        ·rename_i z
         simp only [Bool.and_eq_true,decide_eq_true_eq] at z
         exact z.2
        ·cases eg'
       ·cases eg'
    refine ⟨hgo,hsl,fun x Hx hx=>?_⟩
    obtain ⟨rfl,rfl⟩:=hyld x Hx hx;show Lm (bK [i] σ) ((bK [i] σ).set i (some x))/\_
    refine ⟨⟨by rw [length_set],fun j u hj=>?_⟩,?_⟩
    ·have:=(j2 hj).1
     rw [getElem?_set_ne (by simp at this;exact fun z=>this z.symm)]
     exact hj
    refine ⟨He,_,_,_,Ep,?_⟩
    cases ec:fc (Γk.set i (some ⟨.leaf,d⟩)) with
    | no=>rw [ec] at eg';cases eg'
    | er c Γ'=>rw [ec] at eg';cases eg'
    | ok b Γa=>
     rw [ec] at eg';intro H3 Fs3 s3 E3 n3;have lena:Γa.length=Γ1.length:=by
      have:=E3.len1
      rw [length_set,Ho,E1.len1] at this;exact this.symm
     have n3':∀a∈Fs3.flatten,a∈Fs1.flatten\/H1 a=none:=fun a ha=>(n3 a ha).elim (fun z=>by
      have pm:((Fk.set i []).flatten).Perm Fk.flatten:=by simpa using oR (G:=[]) g.noneF
      exact g.new a (mem_append_right _ (pm.mem_iff.mp z))) fun z=>.inr (g.same.free z)
     cases b with
     | false=>
      dsimp only at eg'
      split at eg'
      case isFalse=>cases eg'
      refine kB ⟨vs.length-(k+1),by omega,rfl,hlt,Γa.set i none,Fs3.set i [],Gs,acc,⟨E3.forget (by rw [lena];exact hi),g.same.trans s3,s3 _ _ g.at_,fun a ha=>?_,g.l1,g.l2,fun j v d G h1 h2 h3=>(g.own j v d G h1 h2 h3).mono s3 fun a ha=>?_,getElem?_set_self (by rw [lena];exact hi),getElem?_set_self (by rw [E3.len2,lena];exact hi),by rw [length_set];exact lena⟩,eg'⟩
      ·rcases List.mem_append.mp ha with z | z
       ·exact g.new a (mem_append_left _ z)
       ·obtain ⟨F3,hF3⟩:=E3.lt (i:=i) (by rw [lena];exact hi)
        have pm:(F3++(Fs3.set i []).flatten).Perm Fs3.flatten:=by simpa using oR (G:=[]) hF3
        exact n3' a (pm.mem_iff.mp (mem_append_right _ z))
      ·rcases List.mem_append.mp ha with z | z
       ·exact .inl (mem_append_left _ z)
       ·obtain ⟨F3,hF3⟩:=E3.lt (i:=i) (by rw [lena];exact hi)
        have pm:(F3++(Fs3.set i []).flatten).Perm Fs3.flatten:=by simpa using oR (G:=[]) hF3
        have pm2:((Fk.set i []).flatten).Perm Fk.flatten:=by simpa using oR (G:=[]) g.noneF
        exact (n3 a (pm.mem_iff.mp (mem_append_right _ z))).elim (fun y=>.inl (mem_append_right _ (pm2.mem_iff.mp y))) .inr
     | true=>
      refine oa ⟨He,_,_,_,E3,?_⟩
      dsimp only at eg'
      cases ee:fe Γa with
      | no=>rw [ee] at eg';cases eg'
      | er c Γ'=>rw [ee] at eg';cases eg'
      | ok p Γb=>
       rw [ee] at eg';dsimp only at eg'
       split at eg'
       case isFalse=>cases eg'
       rename_i hco;simp only [Bool.and_eq_true,decide_eq_true_eq] at hco
       obtain ⟨hco,_⟩:=hco;intro u H4 G Fs4 A4;have lenb:Γb.length=Γ1.length:=by
        have:=A4.env.len1
        rw [length_set,Ho,E1.len1] at this;exact this.symm
       have hib:i<Γb.length:=by rw [lenb];exact hi
       have at4:H4 A0=some (.lst ys):=A4.same _ _ (s3 _ _ g.at_)
       have s14:Same H1 H4:=(g.same.trans s3).trans A4.same
       have pmk:((Fk.set i []).flatten).Perm Fk.flatten:=by simpa using oR (G:=[]) g.noneF
       obtain ⟨F4,hF4⟩:=A4.env.lt hib;have pm4:(F4++(Fs4.set i []).flatten).Perm Fs4.flatten:=by simpa using oR (G:=[]) hF4
       have new4:∀a∈G++Fs4.flatten,a∈Fs1.flatten\/H1 a=none:=fun a ha=>(A4.new a ha).elim (n3' a) fun z=>.inr ((g.same.trans s3).free z)
       have hG':∀a∈br s G,a∈G:=fun a ha=>jQ ha
       obtain ⟨k1,k2,k3⟩:=List.nodup_append.mp A4.env.ndO;have ndk:(br s G).Nodup:=by
        cases s<;>first | exact nodup_nil | exact k1
       have pmO:(A0::(Gs++[br s G]).flatten++(F++O)).Perm (br s G++(A0::Gs.flatten++(F++O))):=by
        rw [DE];show (A0::((Gs.flatten++br s G)++(F++O))).Perm _
        refine List.Perm.trans ?_ List.perm_middle.symm
        refine List.Perm.cons _ ?_
        rw [append_assoc];exact pP _ _ _
       have E5:EnvOk K He (br s G++(A0::Gs.flatten++(F++O))) Fs4 H4 ((bK [i] σ).set i (some x)) Γb:=A4.env.drop (fun a ha=>by
        rcases List.mem_append.mp ha with z | z
        ·exact mem_append_left _ (hG' a z)
        ·exact mem_append_right _ z) (List.nodup_append.mpr ⟨ndk,k2,fun a ha b hb=>k3 a (hG' a ha) b hb⟩)
       have E6:=(E5.perm pmO).forget hib
       have hDin:A0∈A0::(Gs++[br s G]).flatten++(F++O):=mem_cons_self
       have E7:=E6.mutO (o:=.lst (ys++[u])) hDin at4 hHeD
       have subH:∀a∈A0::(Gs++[br s G]).flatten++(F++O)++(Fs4.set i []).flatten,a∈G++(A0::Gs.flatten++(F++O))++Fs4.flatten:=fun a ha=>by
        rcases List.mem_append.mp ha with z | z
        ·rcases List.mem_append.mp (pmO.mem_iff.mp z) with y | y
         ·exact mem_append_left _ (mem_append_left _ (hG' a y))
         ·exact mem_append_left _ (mem_append_right _ y)
        ·exact mem_append_right _ (pm4.mem_iff.mp (mem_append_right _ z))
       have Dnot:∀{j:Nat} {Gj:List Addr},Gs[j]?=some Gj->A0∉Gj:=fun {j Gj} hj z=>by
        have nd:=g.env.ndO
        exact (List.nodup_cons.mp nd).1 (mem_append_left _ (kY hj z))
       refine ⟨at4,vs.length-(k+1),by omega,rfl,hlt,Γb.set i none,Fs4.set i [],Gs++[br s G],acc++[p.d],⟨E7,fun b o hb=>?_,kS,fun a ha=>?_,by simp [g.l1],by simp [g.l2],fun j w d' G' h1 h2 h3=>?_,getElem?_set_self hib,getElem?_set_self (by rw [A4.env.len2];exact hib),by rw [length_set];exact lenb⟩,eg'⟩
       ·rw [gP (zi hb hD)]
        exact s14 b o hb
       ·rcases List.mem_append.mp ha with z | z
        ·rw [DE] at z
         rcases List.mem_append.mp z with z | z
         ·exact g.new a (mem_append_left _ z)
         ·exact new4 a (mem_append_left _ (hG' a z))
        ·exact new4 a (mem_append_right _ (pm4.mem_iff.mp (mem_append_right _ z)))
       ·by_cases hj:j<ys.length
        ·rw [getElem?_append_left hj] at h1
         rw [getElem?_append_left (by rw [<-g.l1];exact hj)] at h2
         rw [getElem?_append_left (by rw [g.l2,<-g.l1];exact hj)] at h3
         have o1:=g.own j w d' G' h1 h2 h3
         have o2:=o1.mono (O':=A0::(Gs++[br s G]).flatten++(F++O)++(Fs4.set i []).flatten) (s3.trans A4.same) fun a ha=>by
          have up:a∈G++Fs4.flatten->a∈A0::Gs.flatten++(F++O)++Fk.flatten\/Hx a=none:=fun z=>(A4.new a z).elim (fun y=>(n3 a y).elim (fun y=>.inl (mem_append_right _ (pmk.mem_iff.mp y))) .inr) fun y=>.inr (s3.free y)
          rcases List.mem_append.mp (subH a ha) with z | z
          ·rcases List.mem_append.mp z with z | z
           ·exact up (mem_append_left _ z)
           ·exact .inl (mem_append_left _ z)
          ·exact up (mem_append_right _ z)
         exact o2.mut hsv (mem_append_left _ hDin) (Dnot h3) at4
        ·have hj':j=ys.length:=by
          have:=(List.getElem?_eq_some_iff.mp h1).1
          rw [length_append,length_singleton] at this;omega
         subst hj'
         rw [getElem?_append_right (Nat.le_refl _),Nat.sub_self] at h1;rw [getElem?_append_right (by rw [g.l1];exact Nat.le_refl _),show ys.length-acc.length=0 by rw [g.l1];exact Nat.sub_self _] at h2
         rw [getElem?_append_right (by rw [g.l2,g.l1];exact Nat.le_refl _),show ys.length-Gs.length=0 by rw [g.l2,g.l1];exact Nat.sub_self _] at h3
         cases h1
         cases h2
         cases h3;have o3:=A4.own.coer (s:=s) (O':=A0::(Gs++[br s G]).flatten++(F++O)++(Fs4.set i []).flatten) hco subH fun a ha hO=>by
          cases s with
          | leaf=>
           exfalso
           have hO':a∈(A0::Gs.flatten++(F++O))++(Fs4.set i []).flatten:=by
            rw [DE] at hO;simpa [br] using hO
           rcases List.mem_append.mp hO' with z | z
           ·exact k3 a ha a z rfl
           ·have nd:=A4.env.nd
            exact (List.nodup_append.mp nd).2.2 a (mem_append_left _ ha) a (pm4.mem_iff.mp (mem_append_right _ z)) rfl
          | view=>cases hsv
          | lst s=>exact ha
          | tup ss=>exact ha
         refine o3.mut hsv (mem_append_left _ hDin) (fun z=>?_) at4
         exact k3 A0 (hG' A0 z) A0 mem_cons_self rfl
end
inductive eu where
 | nx (e:Ev) | bk (e:Ev) | ct (e:Ev) | rt (p:PV) | er (c:Str) (e:Ev) | no
abbrev FS:=Ev->eu
structure RetOk (K:Fg) (He:Hp) (O:List Addr) (p:PV) (v:V) (H':Hp) (G:List Addr):Prop where
 same:Same He H'
 fresh:∀a∈G,He a=none
 inH:∀a∈G,H' a≠none
 nd:G.Nodup
 own:Own K (G++O) H' p.s G v p.d
 nv:p.s.isView=false
def j9 (K:Fg) (W:XW) (He:Hp) (O:List Addr) (D:dI):eu->Prop
 | .nx Γ'=>∀σ' H' Fs',EnvOk K He O Fs' H' σ' Γ'->D.nx σ' H'
 | .bk Γ'=>∀σ' H' Fs',EnvOk K He O Fs' H' σ' Γ'->D.bk σ' H'
 | .ct Γ'=>∀σ' H' Fs',EnvOk K He O Fs' H' σ' Γ'->D.ct σ' H'
 | .rt p=>∀v H' G,RetOk K He O p v H' G->D.rt v H'
 | .er c Γ'=>∀σ' H' Fs',EnvOk K He O Fs' H' σ' Γ'->W c σ' H'
 | .no=>False
def tS (K:Fg) (W:XW) (g:FS):TS:=fun D σ H=>∃He O Fs Γ,EnvOk K He O Fs H σ Γ/\j9 K W He O D (g Γ)
def aG:FS:=fun Γ=>.nx Γ
def av (g1 g2:FS):FS:=fun Γ=>match g1 Γ with
 | .nx Γ'=>g2 Γ'
 | o=>o
def gE (f:F1) (k:PV->Ev->eu):FS:=fun Γ=>match f Γ with
 | .ok p Γ'=>k p Γ'
 | .er c Γ'=>.er c Γ'
 | .no=>.no
def bF (c:FB) (a b:FS):FS:=fun Γ=>match c Γ with
 | .ok t Γ'=>if t then a Γ' else b Γ'
 | .er c Γ'=>.er c Γ'
 | .no=>.no
section
variable {K:Fg} {W:XW} {σ:St} {H:Hp} {D:dI} {fa fb:F1} {ga gb:FB} {g1 g2:FS}
theorem pB (h:tS K W aG D σ H):t6 D σ H:=by
 obtain ⟨He,O,Fs,Γ,E,h⟩:=h;exact h σ H Fs E
theorem uq (h:tS K W (av g1 g2) D σ H):AK (tS K W g1) (tS K W g2) D σ H:=by
 obtain ⟨He,O,Fs,Γ,E,h⟩:=h;refine ⟨He,O,Fs,Γ,E,?_⟩
 unfold av at h
 cases e:g1 Γ with
 | nx Γ'=>rw [e] at h;exact fun σ' H' Fs' E'=>⟨He,O,Fs',Γ',E',h⟩
 | bk Γ'=>rw [e] at h;exact h
 | ct Γ'=>rw [e] at h;exact h
 | rt p=>rw [e] at h;exact h
 | er c Γ'=>rw [e] at h;exact h
 | no=>rw [e] at h;exact h
theorem gB {k:PV->Ev->eu} {R:VK} (h:tS K W (gE fa k) D σ H)
  (hk:∀He O Fs Γ1 p v H1 G Fs1,EnvOk K He O Fs H σ Γ1\/True->(∀a∈G,He a=none)->Aft K He O Fs H σ Γ1 p v H1 G Fs1->j9 K W He O D (k p Γ1)->R v H1):tE K W fa σ H R:=by
 obtain ⟨He,O,Fs,Γ,E,h⟩:=h;refine ⟨He,O,Fs,Γ,E,?_⟩
 unfold gE at h
 cases e:fa Γ with
 | ok p Γ1=>rw [e] at h;exact fun v H' G Fs' A=>hk He O Fs Γ1 p v H' G Fs' (.inr trivial) (A.freshG E) A h
 | er c Γ1=>rw [e] at h;exact fun H' Fs' s E'=>h σ H' Fs' E'
 | no=>rw [e] at h;exact h
theorem uw (h:tS K W (bF ga g1 g2) D σ H):AO (tT K W ga) (tS K W g1) (tS K W g2) D σ H:=by
 obtain ⟨He,O,Fs,Γ,E,h⟩:=h;refine ⟨He,O,Fs,Γ,E,?_⟩
 unfold bF at h
 cases e:ga Γ with
 | ok b Γ1=>
  rw [e] at h;intro H' Fs' s E' n
  cases b with
  | true=>exact oa ⟨He,O,Fs',Γ1,E',h⟩
  | false=>exact kB ⟨He,O,Fs',Γ1,E',h⟩
 | er c Γ1=>rw [e] at h;exact fun H' Fs' s E'=>h σ H' Fs' E'
 | no=>rw [e] at h;exact h
def aI (f:F1):FS:=gE f fun p _=>if p.s.isView then (if bu p.d then .rt ⟨.leaf,p.d⟩ else .no) else .rt p
theorem ur (h:tS K W (aI fa) D σ H):EH (tE K W fa) D σ H:=by
 refine gB h fun He O Fs Γ1 p v H1 G Fs1 _ fr A w=>?_
 obtain ⟨n1,n2,n3⟩:=List.nodup_append.mp A.env.ndO;have inH:∀a∈G,H1 a≠none:=fun a ha=>A.env.inH a (mem_append_left _ (mem_append_left _ ha))
 cases hv:p.s.isView with
 | false=>
  have w:j9 K W He O D (.rt p):=by simpa [hv] using w
  exact w v H1 G ⟨A.env.same,fr,inH,n1,A.own.perm fun a ha=>mem_append_left _ ha,hv⟩
 | true=>
  cases hs:bu p.d with
  | false=>rw [hv,hs] at w;exact w.elim
  | true=>
   have w:j9 K W He O D (.rt ⟨.leaf,p.d⟩):=by simpa [hv,hs] using w
   exact w v H1 [] ⟨A.env.same,(fun _ z=>nomatch z),(fun _ z=>nomatch z),nodup_nil,.leaf (A.own.rep.sc hs).rep,rfl⟩
def aA (own:Bool) (i:Nat) (f:F1):FS:=gE f fun p Γ=>if i<Γ.length then (if own&&!p.s.isView then .nx (Γ.set i (some p)) else if T.coer .leaf p then .nx (Γ.set i (some ⟨.leaf,p.d⟩)) else .no) else .no
theorem GG {own:Bool} {i:Nat} (h:tS K W (aA own i fa) D σ H):lB (tE K W fa) (gName i) D σ H:=by
 refine gB h fun He O Fs Γ1 p v H1 G Fs1 _ fr A w=>?_
 show D.nx (σ.set i (some v)) H1
 have w:j9 K W He O D (if i<Γ1.length then (if own&&!p.s.isView then .nx (Γ1.set i (some p)) else if T.coer .leaf p then .nx (Γ1.set i (some ⟨.leaf,p.d⟩)) else .no) else .no):=w
 by_cases hi:i<Γ1.length
 case neg=>rw [if_neg hi] at w;exact w.elim
 rw [if_pos hi] at w
 cases ho:(own&&!p.s.isView) with
 | true=>
  rw [ho] at w;have hv:p.s.isView=false:=by
   simp only [Bool.and_eq_true,Bool.not_eq_true'] at ho
   exact ho.2
  exact w _ H1 _ (EnvOk.put A.env A.own hv fr hi)
 | false=>
  rw [ho] at w
  cases hc:T.coer .leaf p with
  | false=>rw [hc] at w;exact w.elim
  | true=>
   rw [hc] at w;have o:=A.own.coer (s:=.leaf) (O':=O++Fs1.flatten) hc gQ fun a ha z=>absurd z (A.disj a ha)
   exact w _ H1 _ (EnvOk.put (G:=[]) (p:=⟨.leaf,p.d⟩) (v:=v) A.go o rfl (fun a ha=>by simp at ha) hi)
def bA (f:F1):FS:=gE f fun _ Γ=>.nx Γ
theorem xH (h:tS K W (bA fa) D σ H):o6 (tE K W fa) D σ H:=
 gB h fun He O Fs Γ1 p v H1 G Fs1 _ fr A w=>w σ H1 Fs1 A.go
theorem Aj {α:Type} {l:List α} {i:Nat} {x:α} (h:l[i]?=some x):l.set i x=l:=by
 apply List.ext_getElem?
 intro j;by_cases hj:j=i
 ·subst hj
  rw [getElem?_set_self (List.getElem?_eq_some_iff.mp h).1,h]
 ·rw [getElem?_set_ne (Ne.symm hj)]
def yU (i:Nat) (p:PV) (Γ:Ev):eu:=match Γ[i]? with
 | some (some ⟨.lst s,.list ds⟩)=>if T.coer s p&&decide (ds.length<sizeLine) then .nx (Γ.set i (some ⟨.lst s,.list (ds++[p.d])⟩)) else .no
 | _=>.no
def Dv:Option (Option PV)->Bool
 | some (some ⟨.lst _,.list _⟩)=>true
 | _=>false
def eN (i:Nat) (f:F1):FS:=fun Γ=>if Dv Γ[i]? then gE f (yU i) Γ else .no
theorem yT {He H:Hp} {O G:List Addr} {Fs:List (List Addr)} {Γ:Ev} {i:Nat} {s:Sh} {ds:List PySem.PyData} {p:PV} {v:V} (E:EnvOk K He (G++O) Fs H σ Γ) (o:Own K (G++O++Fs.flatten) H p.s G v p.d) (fr:∀a∈G,He a=none)
  (h:Γ[i]?=some (some ⟨.lst s,.list ds⟩)) (hc:T.coer s p=true) :
  ∃l vs,σ[i]?=some (some (.ref l))/\H l=some (.lst vs)/\vs.length=ds.length/\∃Fs',EnvOk K He O Fs' (cg H l (.lst (vs++[v]))) σ (Γ.set i (some ⟨.lst s,.list (ds++[p.d])⟩)):=by
 obtain ⟨hv,u,F,h1,E1,o1,sub⟩:=E.move h;have hi:i<Γ.length:=(List.getElem?_eq_some_iff.mp h).1
 cases o1 with
 | @lst _ l vs _ Fs0 hsv hp hl hf nd q=>
  refine ⟨l,vs,h1,hp,hl,Fs.set i (l::(Fs0++[br s G]).flatten),?_⟩
  have hlF:l∈Fs.flatten:=sub l (mem_append_left _ mem_cons_self)
  have hHe:He l=none:=E.fresh l hlF
  have hG':∀a∈br s G,a∈G:=fun a ha=>jQ ha
  obtain ⟨k1,k2,k3⟩:=List.nodup_append.mp E1.ndO;obtain ⟨g1,g2,g3⟩:=List.nodup_append.mp k2;have ndk:(br s G).Nodup:=by
   cases s<;>first | exact nodup_nil | exact g1
  have pmO:((l::(Fs0++[br s G]).flatten)++O).Perm ((l::Fs0.flatten)++(br s G++O)):=by
   rw [DE];show (l::((Fs0.flatten++br s G)++O)).Perm (l::(Fs0.flatten++(br s G++O)))
   rw [append_assoc]
  have E2:EnvOk K He ((l::Fs0.flatten)++(br s G++O)) (Fs.set i []) H σ (Γ.set i none):=E1.drop (fun a ha=>by
   rcases List.mem_append.mp ha with z | z
   ·exact mem_append_left _ z
   ·refine mem_append_right _ ?_
    rcases List.mem_append.mp z with z | z
    ·exact mem_append_left _ (hG' a z)
    ·exact mem_append_right _ z) (List.nodup_append.mpr ⟨k1,List.nodup_append.mpr ⟨ndk,g2,fun a ha b hb=>g3 a (hG' a ha) b hb⟩,fun a ha b hb=>k3 a ha b (by
     rcases List.mem_append.mp hb with z | z
     ·exact mem_append_left _ (hG' b z)
     ·exact mem_append_right _ z)⟩)
  have E3:=E2.perm pmO
  have hlin:l∈(l::(Fs0++[br s G]).flatten)++O:=mem_cons_self
  have E4:=E3.mutO (o:=.lst (vs++[v])) hlin hp hHe
  have lnG:l∉G:=fun z=>k3 l mem_cons_self l (mem_append_left _ z) rfl
  have subH:∀a∈(l::(Fs0++[br s G]).flatten)++O++(Fs.set i []).flatten,a∈(l::Fs0.flatten)++(G++O)++(Fs.set i []).flatten:=fun a ha=>by
   rcases List.mem_append.mp ha with z | z
   ·refine mem_append_left _ ?_
    rcases List.mem_append.mp (pmO.mem_iff.mp z) with y | y
    ·exact mem_append_left _ y
    ·refine mem_append_right _ ?_
     rcases List.mem_append.mp y with y | y
     ·exact mem_append_left _ (hG' a y)
     ·exact mem_append_right _ y
   ·exact mem_append_right _ z
  have ownL:Own K ((l::(Fs0++[br s G]).flatten)++O++(Fs.set i []).flatten) (cg H l (.lst (vs++[v]))) (.lst s) (l::(Fs0++[br s G]).flatten) (.ref l) (.list (ds++[p.d])):=by
   refine .lst hsv kS (by simp [hl]) (by simp [hf]) ?_ fun j w d' G' e1 e2 e3=>?_
   ·have nd2:=E3.ndO
    exact (List.nodup_append.mp nd2).1
   ·by_cases hj:j<vs.length
    ·rw [getElem?_append_left hj] at e1
     rw [getElem?_append_left (by omega)] at e2
     rw [getElem?_append_left (by omega)] at e3
     exact ((q j w d' G' e1 e2 e3).perm subH).mut hsv (mem_append_left _ hlin) (fun z=>(List.nodup_cons.mp nd).1 (kY e3 z)) hp
    ·have hj':j=vs.length:=by
      have:=(List.getElem?_eq_some_iff.mp e1).1
      rw [length_append,length_singleton] at this;omega
     subst hj'
     rw [getElem?_append_right (Nat.le_refl _),Nat.sub_self] at e1;rw [getElem?_append_right (by omega),show vs.length-ds.length=0 by omega] at e2
     rw [getElem?_append_right (by omega),show vs.length-Fs0.length=0 by omega] at e3
     cases e1
     cases e2
     cases e3;have osub:∀a∈(l::(Fs0++[br s G]).flatten)++O++(Fs.set i []).flatten,a∈G++O++Fs.flatten:=fun a ha=>by
      rcases List.mem_append.mp (subH a ha) with z | z
      ·rcases List.mem_append.mp z with z | z
       ·exact mem_append_right _ (sub a (mem_append_left _ z))
       ·exact mem_append_left _ z
      ·exact mem_append_right _ (sub a (mem_append_right _ z))
     have o3:=o.coer (s:=s) hc osub fun a ha hO=>by
      cases s with
      | leaf=>
       exfalso
       rw [DE] at hO;have hO':a∈(l::Fs0.flatten)++O++(Fs.set i []).flatten:=by simpa [br] using hO
       have ndE:=E.nd
       rw [append_assoc] at ndE;have dis:=(List.nodup_append.mp ndE).2.2
       rcases List.mem_append.mp hO' with z | z
       ·rcases List.mem_append.mp z with z | z
        ·exact dis a ha a (mem_append_right _ (sub a (mem_append_left _ z))) rfl
        ·exact dis a ha a (mem_append_left _ z) rfl
       ·exact dis a ha a (mem_append_right _ (sub a (mem_append_right _ z))) rfl
      | view=>cases hsv
      | lst s=>exact ha
      | tup ss=>exact ha
     exact o3.mut hsv (mem_append_left _ hlin) (fun z=>lnG (hG' l z)) hp
  have fin:=EnvOk.put (i:=i) (p:=⟨.lst s,.list (ds++[p.d])⟩) (v:=.ref l) E4 ownL rfl (fun a ha=>?_) (by rw [length_set];exact hi)
  ·rw [set_set,set_set,Aj h1] at fin
   exact fin
  ·rcases List.mem_cons.mp ha with z | z
   ·rw [z];exact hHe
   ·rw [DE] at z
    rcases List.mem_append.mp z with z | z
    ·exact E.fresh a (sub a (mem_append_left _ (mem_cons_of_mem _ z)))
    ·exact fr a (hG' a z)
theorem IB {QL:List V->Hp->Prop} (h1:tE K W fa σ H fun v H'=>QL [v] H'):tA K W (ae fa ag) σ H QL:=by
 obtain ⟨He,O,Fs,Γ,E,h1⟩:=h1;refine ⟨He,O,Fs,Γ,E,?_⟩
 unfold ae ag
 cases e:fa Γ with
 | ok p Γ'=>
  rw [e] at h1;intro vs H' Gs Fs' A
  match vs,Gs,A.len1,A.len2 with
  | [v],[G],_,_=>exact h1 v H' G Fs' ⟨A.same,by simpa using A.env,by simpa using A.new,by simpa using A.own 0 v p G rfl rfl rfl⟩
 | er c Γ'=>rw [e] at h1;exact h1
 | no=>rw [e] at h1;exact h1
theorem rJ {o:Option (Option PV)} (h:Dv o=true):∃s ds,o=some (some ⟨.lst s,.list ds⟩):=by
 unfold Dv at h;split at h
 ·exact ⟨_,_,rfl⟩
 ·cases h
theorem EnvOk.ownL {He H:Hp} {O:List Addr} {Fs:List (List Addr)} {Γ:Ev} {i:Nat} {s:Sh} {ds:List PySem.PyData} (E:EnvOk K He O Fs H σ Γ) (h:Γ[i]?=some (some ⟨.lst s,.list ds⟩)):∃l vs,σ[i]?=some (some (.ref l))/\H l=some (.lst vs)/\vs.length=ds.length:=by
 obtain ⟨hv,v,F,h1,h2,h3⟩:=E.slot i _ h
 cases h3 with
 | @lst _ l vs _ Fs0 hsv hp hl hf nd q=>exact ⟨l,vs,h1,hp,hl⟩
theorem qT {i:Nat} (h:tS K W (eN i fa) D σ H):o6 (AQ K "list" pM (fA i) (tA K W (ae fa ag))) D σ H:=by
 obtain ⟨He,O,Fs,Γ,E,h⟩:=h;unfold eN at h
 cases ho:Dv Γ[i]? with
 | false=>rw [ho] at h;exact h.elim
 | true=>
  rw [ho] at h;obtain ⟨s,ds,e0⟩:=rJ ho;obtain ⟨l,vs,h1,h2,h3⟩:=E.ownL e0;refine ⟨.ref l,h1,.inl ⟨rfl,vs,.of h2⟩,IB (gB (D:=D) ⟨He,O,Fs,Γ,E,h⟩ fun He O Fs Γ1 p v H1 G Fs1 _ fr A w=>?_)⟩
  unfold yU at w;split at w
  ·rename_i s1 ds1 e1
   cases hc:(T.coer s1 p&&decide (ds1.length<sizeLine)) with
   | false=>rw [hc] at w;exact w.elim
   | true=>
    rw [hc] at w;simp only [Bool.and_eq_true,decide_eq_true_eq] at hc
    obtain ⟨l1,vs1,q1,q2,q3,Fs',E'⟩:=yT A.env A.own fr e1 hc.1;rw [h1] at q1
    cases q1;exact ⟨l,vs1,v,rfl,rfl,q2,by rw [q3];exact hc.2,w σ _ Fs' E'⟩
  ·exact w.elim
def bO (i:Nat) (body:FS):List PySem.PyData->Ev->eu
 | [],Γ=>.nx Γ
 | d::r,Γ=>if i<Γ.length then (match body (Γ.set i (some ⟨.leaf,d⟩)) with
  | .nx Γ'=>bO i body r Γ'
  | .ct Γ'=>bO i body r Γ'
  | .bk Γ'=>.nx Γ'
  | .rt p=>.rt p
  | .er c Γ'=>.er c Γ'
  | .no=>.no) else .no
def d8 (i:Nat) (fi:FI) (body:FS):FS:=fun Γ=>match fi Γ with
 | .ok t Γ1=>if t.st then bO i body t.ds Γ1 else .no
 | .er c Γ1=>.er c Γ1
 | .no=>.no
theorem EnvOk.rebase {He H:Hp} {O:List Addr} {Fs:List (List Addr)} {Γ:Ev} (E:EnvOk K He O Fs H σ Γ):EnvOk K (cI H Fs.flatten) O Fs H σ Γ/\Same He (cI H Fs.flatten):=
 ⟨⟨E.len1,E.len2,hid_le,E.nd,E.inH,fun a ha=>by unfold cI;rw [if_pos ha],E.slot⟩,fun b o e=>D4 (E.same b o e) fun z=>by have:=E.fresh b z;rw [e] at this;cases this⟩
theorem EnvOk.unbase {He He' H:Hp} {O:List Addr} {Fs:List (List Addr)} {Γ:Ev} (E:EnvOk K He' O Fs H σ Γ) (s:Same He He'):EnvOk K He O Fs H σ Γ:=
 ⟨E.len1,E.len2,s.trans E.same,E.nd,E.inH,fun a ha=>s.free (E.fresh a ha),E.slot⟩
theorem RetOk.unbase {He He' H:Hp} {O G:List Addr} {p:PV} {v:V} (r:RetOk K He' O p v H G) (s:Same He He'):RetOk K He O p v H G:=
 ⟨s.trans r.same,fun a ha=>s.free (r.fresh a ha),r.inH,r.nd,r.own,r.nv⟩
theorem Bq {i:Nat} {fi:FI} {body:FS} (h:tS K W (d8 i fi body) D σ H):EJ (tI K W fi) (gName i) (tS K W body) D σ H:=by
 obtain ⟨He,O,Fs,Γ,E,h⟩:=h;refine ⟨He,O,Fs,Γ,E,?_⟩
 unfold d8 at h
 cases e:fi Γ with
 | er c Γ1=>rw [e] at h;exact fun H' Fs' s E'=>h σ H' Fs' E'
 | no=>rw [e] at h;exact h
 | ok t Γ1=>
  rw [e] at h;intro J H1 Fs1 vs P s1 E1 n1 it hP hP1 hst hr;have h:j9 K W He O D (if t.st then bO i body t.ds Γ1 else .no):=h
  cases ht:t.st with
  | false=>rw [ht] at h;exact h.elim
  | true=>
   rw [ht] at h;have h:j9 K W He O D (bO i body t.ds Γ1):=h
   obtain ⟨E1',sHe⟩:=E1.rebase;have hlen:vs.length=t.ds.length:=hr.1
   refine ⟨fun k m σ' H'=>m=vs.length-k/\k<=vs.length/\∃Γk Fk,EnvOk K (cI H1 Fs1.flatten) O Fk H' σ' Γk/\j9 K W He O D (bO i body (t.ds.drop k) Γk),⟨vs.length,by simp,Nat.zero_le _,Γ1,Fs1,E1',by simpa using h⟩,?_⟩
   rintro k m σ' H' ⟨rfl,hk,Γk,Fk,Ek,hw⟩
   have hPk:P H':=hst ht H' Ek.same
   by_cases hlt:k<vs.length
   case neg=>
    left
    have hke:k=vs.length:=by omega
    have:t.ds.drop k=[]:=List.drop_eq_nil_of_le (by omega)
    rw [this] at hw;exact ⟨by rw [hke];exact it.stop H' hPk,hw σ' H' Fk (Ek.unbase sHe)⟩
   case pos=>
    right
    have hv:vs[k]?=some vs[k]:=getElem?_eq_getElem hlt
    have hkd:k<t.ds.length:=by omega
    have hd:t.ds[k]?=some t.ds[k]:=getElem?_eq_getElem hkd
    have hdr:t.ds.drop k=t.ds[k]::t.ds.drop (k+1):=drop_eq_getElem_cons hkd
    rw [hdr] at hw;generalize hdk:t.ds[k]=d at hd hw
    generalize hvk:vs[k]=v at hv
    obtain ⟨hgo,hyld⟩:=it.go k H' v hPk hv
    simp only [bO] at hw
    by_cases hi:i<Γk.length
    case neg=>rw [if_neg hi] at hw;exact hw.elim
    rw [if_pos hi] at hw;have rep:Rep K (cI H' (O++Fk.flatten)) v d:=by
     refine (hr.2 k v d hv hd).mono fun b o hb=>?_
     have hb1:cI H1 Fs1.flatten b=some o:=sub_hid b o hb
     have hbO:b∉O:=fun z=>by
      unfold cI at hb;rw [if_pos (mem_append_left _ z)] at hb
      cases hb
     have hbF:b∉Fk.flatten:=fun z=>by
      have:=Ek.fresh b z
      rw [hb1] at this
      cases this
     exact D4 (Ek.same b o hb1) fun z=>(List.mem_append.mp z).elim hbO hbF
    have Ep:EnvOk K (cI H1 Fs1.flatten) O (Fk.set i []) H' (σ'.set i (some v)) (Γk.set i (some ⟨.leaf,d⟩)):=
     EnvOk.put (G:=[]) (p:=⟨.leaf,d⟩) (v:=v) Ek (.leaf rep) rfl (fun a ha=>by simp at ha) hi
    refine ⟨hgo,fun σ2 H2=>∃Γk Fk,EnvOk K (cI H1 Fs1.flatten) O Fk H2 σ2 Γk/\j9 K W He O D (bO i body (t.ds.drop (k+1)) Γk),fun σ2 H2 q=>⟨vs.length-(k+1),by omega,rfl,hlt,q⟩,fun x Hx hx=>?_⟩
    obtain ⟨rfl,rfl⟩:=hyld x Hx hx;show tS K W body _ (σ'.set i (some x)) Hx
    refine ⟨cI H1 Fs1.flatten,O,_,_,Ep,?_⟩
    cases eb:body (Γk.set i (some ⟨.leaf,d⟩)) with
    | nx Γ'=>rw [eb] at hw;exact fun σ2 H2 F2 E2=>⟨Γ',F2,E2,hw⟩
    | ct Γ'=>rw [eb] at hw;exact fun σ2 H2 F2 E2=>⟨Γ',F2,E2,hw⟩
    | bk Γ'=>rw [eb] at hw;exact fun σ2 H2 F2 E2=>hw σ2 H2 F2 (E2.unbase sHe)
    | rt p=>rw [eb] at hw;exact fun u H2 G r=>hw u H2 G (r.unbase sHe)
    | er c Γ'=>rw [eb] at hw;exact fun σ2 H2 F2 E2=>hw σ2 H2 F2 (E2.unbase sHe)
    | no=>rw [eb] at hw;exact hw
end
inductive Res where
 | ok (p:PV) | er (c:Str) | no
def o8 (K:Fg) (n:Nat) (den:List PySem.PyData->Res):Sp:=fun vs H Q _=>vs.length=n/\∃O ds,O.Nodup/\(∀a∈O,H a≠none)/\Reps K (cI H O) vs ds/\match den ds with
 | .ok p=>∀v H' G,RetOk K H O p v H' G->Q v H'
 | .er _=>False
 | .no=>False
def aQ (n:Nat) (ds:List PySem.PyData):Ev:=ds.map (fun d=>some ⟨.leaf,d⟩)++List.replicate (n-ds.length) none
def aD (n:Nat) (g:FS) (ds:List PySem.PyData):Res:=match g (aQ n ds) with
 | .nx _=>.ok ⟨.leaf,.none⟩
 | .rt p=>.ok p
 | .er c _=>.er c
 | _=>.no
section
variable {P:Program} {w:World} {K:Fg} {mg:Str->Option Value} {base:Heap}
theorem jU {N:List Str} {H:Hp} {O:List Addr} {vs:List V} {ds:List PySem.PyData} (hn:vs.length<=N.length) (nd:O.Nodup) (inH:∀a∈O,H a≠none) (rs:Reps K (cI H O) vs ds) :
  EnvOk K H O (List.replicate N.length []) H (L2.start N vs) (aQ N.length ds):=by
 have fl:(List.replicate N.length ([]:List Addr)).flatten=[]:=by simp
 have hl:=rs.1
 refine ⟨by simp [L2.start,aQ,hl],by simp [aQ];omega,Same.refl _,by rw [fl];simpa using nd,by rw [fl];simpa using inH,fun a ha=>by rw [fl] at ha;simp at ha,fun i p hp=>?_⟩
 unfold aQ at hp;by_cases hi:i<ds.length
 ·rw [getElem?_append_left (by simpa using hi),getElem?_map,getElem?_eq_getElem hi] at hp
  cases hp;refine ⟨rfl,vs[i]'(by omega),[],?_,?_,?_⟩
  ·unfold L2.start
   rw [getElem?_append_left (by simp;omega),getElem?_map,getElem?_eq_getElem (by omega)]
   rfl
  ·rw [getElem?_replicate,if_pos (by omega)]
  ·refine .leaf ?_
   rw [fl,append_nil];exact rs.2 i _ _ (getElem?_eq_getElem _) (getElem?_eq_getElem hi)
 ·rw [getElem?_append_right (by simpa using hi),getElem?_replicate] at hp
  split at hp<;>cases hp
theorem vz {x qual:Str} {st:Stmt} {f:Addr} {fd:FuncData} {N ps:List Str} {k:Nat} {g:FS} (F:Fun K x qual st f fd) (S:dW N ps (hV st))
  (hb:∀(cdv:Value) (A:Around) (outer:List Env) (s:Shared) (H:Hp) (E:XK),Room k (A.deeper (envOfC qual (hV st) s.heap.objs.size f cdv)) ->
   PSs (eT j8 P w K mg base N qual (hV st) f cdv A outer s H E).nox (qz st) (tS K W0 g)):du P w K mg base j8 (k+1) f fd ps (o8 K ps.length (aD N.length g)):=by
 have hpl:ps.length<=N.length:=by have:=congrArg List.length S.pre;rw [length_take] at this;omega
 refine F.ok S (fun vs H Q E h=>h.1) (fun cdv A outer s H vs Q E hr h=>⟨_,hb cdv A outer s H E hr,?_⟩)
 obtain ⟨hl,O,ds,nd,inH,rs,w⟩:=h;refine ⟨H,O,List.replicate N.length [],aQ N.length ds,jU (by omega) nd inH rs,?_⟩
 unfold aD at w
 cases e:g (aQ N.length ds) with
 | nx Γ'=>
  rw [e] at w;exact fun σ' H' Fs' E'=>w .non H' [] ⟨E'.same,(fun _ z=>nomatch z),(fun _ z=>nomatch z),nodup_nil,.leaf .non,rfl⟩
 | rt p=>rw [e] at w;exact w
 | bk Γ'=>rw [e] at w;exact w.elim
 | ct Γ'=>rw [e] at w;exact w.elim
 | er c Γ'=>rw [e] at w;exact w.elim
 | no=>rw [e] at w;exact w.elim
end
def ak (n:Nat) (den:List PySem.PyData->Res) (fl:FL):F1:=fun Γ=>(fl Γ).bind fun ps Γ'=>if ps.length=n then (match den (ps.map (·.d)) with
 | .ok p=>if ps.all (T.coer .leaf) then .ok p Γ' else if bu p.d then .ok ⟨.leaf,p.d⟩ Γ' else .ok ⟨.view,p.d⟩ Γ'
 | _=>.no) else .no
section
variable {K:Fg} {W:XW} {σ:St} {H:Hp} {Q:VK} {fl:FL}
theorem xI {n:Nat} {den:List PySem.PyData->Res} {E:XK} (h:tE K W (ak n den fl) σ H Q):t9 (o8 K n den) [] E (tA K W fl) σ H Q:=by
 obtain ⟨He,O,Fs,Γ,E0,h⟩:=h;refine ⟨He,O,Fs,Γ,E0,?_⟩
 unfold ak at h
 cases e:fl Γ with
 | er c Γ'=>rw [e] at h;exact h
 | no=>rw [e] at h;exact h
 | ok ps Γ1=>
  rw [e] at h;intro vs H1 Gs Fs1 A;have h:Wants K W He O Fs H σ Q (if ps.length=n then (match den (ps.map (·.d)) with | .ok p=>if ps.all (T.coer .leaf) then .ok p Γ1 else if bu p.d then .ok ⟨.leaf,p.d⟩ Γ1 else .ok ⟨.view,p.d⟩ Γ1 | _=>.no) else .no):=h
  by_cases hn:ps.length=n
  case neg=>rw [if_neg hn] at h;exact h.elim
  rw [if_pos hn] at h;have hl:(vs++[]).length=n:=by rw [append_nil,A.len1];exact hn
  cases ed:den (ps.map (·.d)) with
  | er c=>rw [ed] at h;exact h.elim
  | no=>rw [ed] at h;exact h.elim
  | ok p=>
   rw [ed] at h;have h:Wants K W He O Fs H σ Q (if ps.all (T.coer .leaf) then .ok p Γ1 else if bu p.d then .ok ⟨.leaf,p.d⟩ Γ1 else .ok ⟨.view,p.d⟩ Γ1):=h
   obtain ⟨n1,n2,n3⟩:=List.nodup_append.mp A.env.nd;obtain ⟨m1,m2,m3⟩:=List.nodup_append.mp n1;have newF:∀a∈Fs1.flatten,a∈Fs.flatten\/H a=none:=fun a ha=>A.new a (mem_append_right _ ha)
   cases hc:ps.all (T.coer .leaf) with
   | true=>
    rw [hc] at h;have h:Wants K W He O Fs H σ Q (.ok p Γ1):=h
    refine ⟨hl,O++Fs1.flatten,ps.map (·.d),A.env.dropL.nd,A.env.dropL.inH,?_,?_⟩
    ·rw [append_nil]
     refine ⟨A.reps.1,fun i v d h1 h2=>?_⟩
     rw [getElem?_map] at h2
     cases e2:ps[i]? with
     | none=>rw [e2] at h2;cases h2
     | some q=>
      rw [e2] at h2
      cases h2;have hi:=(List.getElem?_eq_some_iff.mp e2).1
      have e3:Gs[i]?=some (Gs[i]'(by rw [A.len2];exact hi)):=getElem?_eq_getElem _
      have o:=A.own i v q _ h1 e2 e3
      have o2:=o.coer (s:=.leaf) (O':=O++Fs1.flatten) (List.all_eq_true.mp hc q (mem_of_getElem? e2)) gQ fun a ha z=>by
       exfalso
       have hG:=kY e3 ha
       rcases List.mem_append.mp z with y | y
       ·exact m3 a hG a y rfl
       ·exact n3 a (mem_append_left _ hG) a y rfl
      cases o2 with
      | leaf r=>exact r
    ·rw [ed]
     intro v H2 G r;refine h v H2 G Fs1 ⟨A.same.trans r.same,A.env.dropL.hide r.same r.nd r.fresh r.inH,fun a ha=>?_,by rw [append_assoc];exact r.own⟩
     rcases List.mem_append.mp ha with z | z
     ·exact .inr (A.same.free (r.fresh a z))
     ·exact newF a z
   | false=>
    rw [hc] at h;have h:Wants K W He O Fs H σ Q (if bu p.d then .ok ⟨.leaf,p.d⟩ Γ1 else .ok ⟨.view,p.d⟩ Γ1):=h
    refine ⟨hl,[],ps.map (·.d),nodup_nil,(fun _ z=>nomatch z),by rw [append_nil,D5];exact A.reps,?_⟩
    rw [ed];intro v H2 G r
    cases hs:bu p.d with
    | true=>
     rw [hs] at h;exact Wants.scal h (r.own.rep.sc hs) (A.same.trans r.same) (A.env.dropL.grow r.same) (fun a ha=>ha) E0.ndO newF
    | false=>
     rw [hs] at h;have h:Wants K W He O Fs H σ Q (.ok ⟨.view,p.d⟩ Γ1):=h
     exact h v H2 [] Fs1 ⟨A.same.trans r.same,by simpa using A.env.dropL.grow r.same,by simpa using newF,.view r.own.rep⟩
end
theorem Ga:bootBuiltins "len"=some (.builtin "len"):=by decide +kernel
theorem Gd:bootBuiltins "all"=some (.builtin "all"):=by decide +kernel
theorem Gc:bootBuiltins "any"=some (.builtin "any"):=by decide +kernel
theorem Jg:bootBuiltins "isinstance"=some (.builtin "isinstance"):=by decide +kernel
theorem Gb:bootBuiltins "int"=some (.type "int"):=by decide +kernel
theorem vW:bootBuiltins "list"=some (.type "list"):=by decide +kernel
theorem yR:bootBuiltins "tuple"=some (.type "tuple"):=by decide +kernel
theorem F9:bootBuiltins "str"=some (.type "str"):=by decide +kernel
section
variable {X:Cx} {W:XW} {a b c e:Expr} {es:List Expr} {pos:Pos} {fa fb fc:F1} {fl:FL} {ga gb:FB} {g1 g2:FS}
theorem Dc {op:CmpOp} {r:R2} {g:PySem.PyData->PySem.PyData->Option PySem.PyData} (ho:OpR X (compareOp op) r) (hg:GOp X.K r g) (ha:PE X a (tE X.K W fa)) (hb:PE X b (tE X.K W fb)) (hm:behindInMarks op b=false:=by with_unfolding_all rfl) :
  PE X (.Compare a [op] [b] pos) (tE X.K W (az g fa fb)):=aX (xW ho ha hb hm) fun _ _ _=>gG hg
theorem C6 {op:CmpOp} {r:R2} {g:PySem.PyData->PySem.PyData->Option PySem.PyData} (ho:OpR X (compareOp op) r) (hg:GOp X.K r g) (ha:PE X a (tE X.K W fa)) (hb:PE X b (tE X.K W fb)) (hm:behindInMarks op b=false:=by with_unfolding_all rfl) :
  PT X (.Compare a [op] [b] pos) (tT X.K W (aN ax (az g fa fb))):=j7 (xQ ho ha hb hm) fun σ H QB=>pA fun Q=>gG hg
theorem vL {op op':CmpOp} {r r':R2} {g g':PySem.PyData->PySem.PyData->Option PySem.PyData} (ho:OpR X (compareOp op) r) (hg:GOp X.K r g) (ho':OpR X (compareOp op') r') (hg':GOp X.K r' g') (ha:PE X a (tE X.K W fa)) (hb:PE X b (tE X.K W fb)) (hc:PE X c (tE X.K W fc))
  (hm:lastMarks [op,op'] [b,c]=false:=by with_unfolding_all rfl):PE X (.Compare a [op,op'] [b,c] pos) (tE X.K W (m9 g g' fa fb fc)):=aX (uU ho ho' ha hb hc hm) fun _ _ _=>lS hg hg'
theorem vF {op op':CmpOp} {r r':R2} {g g':PySem.PyData->PySem.PyData->Option PySem.PyData} (ho:OpR X (compareOp op) r) (hg:GOp X.K r g) (ho':OpR X (compareOp op') r') (hg':GOp X.K r' g') (ha:PE X a (tE X.K W fa)) (hb:PE X b (tE X.K W fb)) (hc:PE X c (tE X.K W fc))
  (hm:lastMarks [op,op'] [b,c]=false:=by with_unfolding_all rfl):PT X (.Compare a [op,op'] [b,c] pos) (tT X.K W (aN ax (m9 g g' fa fb fc))):=j7 (uK ho ho' ha hb hc hm) fun σ H QB=>pA fun Q=>lS hg hg'
theorem da_nil:PA X [] (tA X.K W ag):=qq zb fun _ _ _=>Bf
theorem da_cons (ha:PE X e (tE X.K W fa)) (hr:PA X es (tA X.K W fl)) (hs:starEach (e::es) X.env=(false,eval e X.env)::starEach es X.env:=by rfl):PA X (e::es) (tA X.K W (ae fa fl)):=qq (sL ha hr hs) fun _ _ _=>pD
theorem vM {x:Str} {id:String} {r:List V->Hp->VK->Prop} {g:List PySem.PyData->Option PySem.PyData} {p:Pos} (hc:CallR X (.builtin id) r) (hg:GCall X.K r g) (hv:bootBuiltins x=some (.builtin id)) (hm:X.mg x=none) (ha:PA X (e::es) (tA X.K W fl)) (hG:Gl X x:=by rfl)
  (hn:x ≠ "__name__":=by decide) (hdb:(x==("__debug__":Str))=false:=by decide) (he:starEach (e::es) X.env=(false,eval e X.env)::starEach es X.env:=by rfl) (hpl:(backTo pos (starEach es X.env)).any (·.1)=false:=by rfl) :
  PE X (.Call (.Name x p) (e::es) [] pos) (tE X.K W (bw g fl)):=aX (G9 hc hG hm hv ha hn hdb he hpl) fun _ _ _=>uy hg
theorem FW {x:Str} {id:String} {r:List V->Hp->VK->Prop} {g:List PySem.PyData->Option PySem.PyData} {p:Pos} (hc:CallR X (.type id) r) (hg:GCall X.K r g) (hv:bootBuiltins x=some (.type id)) (hm:X.mg x=none) (ha:PA X (e::es) (tA X.K W fl)) (hG:Gl X x:=by rfl)
  (hn:x ≠ "__name__":=by decide) (hdb:(x==("__debug__":Str))=false:=by decide) (he:starEach (e::es) X.env=(false,eval e X.env)::starEach es X.env:=by rfl) (hpl:(backTo pos (starEach es X.env)).any (·.1)=false:=by rfl) :
  PE X (.Call (.Name x p) (e::es) [] pos) (tE X.K W (bw g fl)):=aX (jH hc hG hm hv ha hn hdb he hpl) fun _ _ _=>uy hg
theorem sj {p:Pos} (hm:X.mg "list"=none) (ha:PE X e (tE X.K W fa)) (hG:Gl X "list":=by rfl) (hs:starEach [e] X.env=[(false,eval e X.env)]:=by rfl) :
  PE X (.Call (.Name "list" p) [e] [] pos) (tE X.K W (kX fa)):=aX (jH kP hG hm vW (da_cons ha da_nil hs) (by decide) (by decide) hs rfl) fun _ _ _=>qS
theorem yG {f:Addr} {fd:FuncData} {ps:List Str} {k n:Nat} {den:List PySem.PyData->Res} {x:Str} {p:Pos} (F:du X.prog X.w X.K X.mg X.base j8 k f fd ps (o8 X.K n den)) (hr:Room k X.A) (hm:X.mg x=some (.ref f)) (hk:PySem.W.keepIn X.K (.ref f)=true)
  (hb:Binds X.K fd ps []) (ha:PA X (e::es) (tA X.K W fl)) (hg:Gl X x:=by rfl) (hdb:(x==("__debug__":Str))=false:=by decide) (he:starEach (e::es) X.env=(false,eval e X.env)::starEach es X.env:=by rfl)
  (hpl:(backTo pos (starEach es X.env)).any (·.1)=false:=by rfl):PE X (.Call (.Name x p) (e::es) [] pos) (tE X.K W (ak n den fl)):=aX (pR F hr hg hm hk hb .nil zH ha hdb he hpl) fun _ _ _=>xI
theorem FV {tg:Expr} {p:Pos} (hm:X.mg "range"=none) (ha:PA X [a] (tA X.K W fl)) (hg:Gl X "range":=by rfl) (hs:starEach [a] X.env=[(false,eval a X.env)]:=by rfl):PI X tg (.Call (.Name "range" p) [a] [] pos) (tI X.K W (eJ fl)):=m6 (rd hg hm ha hs) fun _ _ _=>Bo
theorem FU {tg:Expr} {p:Pos} (hm:X.mg "range"=none) (ha:PA X [a,b] (tA X.K W fl)) (hg:Gl X "range":=by rfl) (hs:starEach [a,b] X.env=[(false,eval a X.env),(false,eval b X.env)]:=by rfl) (hs2:starEach [b] X.env=[(false,eval b X.env)]:=by rfl) :
  PI X tg (.Call (.Name "range" p) [a,b] [] pos) (tI X.K W (rK fl)):=m6 (qZ hg hm ha hs hs2) fun _ _ _=>Bm
def aR:FB:=fun Γ=>.ok true Γ
theorem yF {scope:Scope} {x:Str} {px:Pos} {iter elt:Expr} {ifs:List Expr} {fi:FI} {fe:F1} {fc:FB} (s:Sh) (i:Nat) (S:dX X.N [i] X.env.scope scope) (hN:X.N.Nodup) (hi':PI X (.Name x px) iter (tI X.K W fi))
  (hc:∀cells C s₀ H₀ ex,PF (blk X scope cells C s₀ H₀ ex) ifs (tT X.K W0 fc)) (he:∀cells C s₀ H₀ ex,PE (blk X scope cells C s₀ H₀ ex) elt (tE X.K W0 fe))
  (hcalm:X.calm=true:=by rfl) (hx:X.N[i]?=some x:=by rfl) (hl:∀cells C s₀ H₀ ex,Loc (blk X scope cells C s₀ H₀ ex).env.scope x:=by first | exact fun _ _ _ _ _=>Or.inl rfl | exact fun _ _ _ _ _=>Or.inr rfl)
  (hf:∀cells C s₀ H₀ ex,(blk X scope cells C s₀ H₀ ex).fn x=true\/(blk X scope cells C s₀ H₀ ex).env.scope.names.lookup x=some .local:=by first | exact fun _ _ _ _ _=>Or.inr rfl | exact fun _ _ _ _ _=>Or.inl rfl)
  (hs:∀x,foldedSetIterable iter X.env x=pure x:=by intro _;rfl):PE X (.ListComp elt [⟨.Name x px,iter,ifs,0⟩] scope pos) (tE X.K W (aC s i fi fc fe)):=
 aX (xV S hcalm hi' (fun cells C s₀ H₀ ex=>DA (X:=blk X scope cells C s₀ H₀ ex) (i:=i) hN hx (hl cells C s₀ H₀ ex) (hf cells C s₀ H₀ ex)) hc he hs) fun _ _ _=>pE
theorem C7 (own:Bool) (i:Nat) {x:Str} {pos':Pos} (hN:X.N.Nodup) (ha:PE X a (tE X.K W fa)) (hi:X.N[i]?=some x:=by rfl) (hx:Loc X.env.scope x:=by first | exact Or.inl rfl | exact Or.inr rfl) (hs:swapsWith a (some (.Name x pos')) pos.line X.env=pure false:=by rfl)
  (hf:X.fn x=true\/X.env.scope.names.lookup x=some .local:=by first | exact .inl rfl | exact .inr rfl):PS X (.Assign [.Name x pos'] a pos) (tS X.K W (aA own i fa)):=cw (GE hN hi hx ha hs hf) fun _ _ _=>GG
theorem oA (own:Bool) (j:Nat) {scope:Scope} {x y:Str} {px pos' spos:Pos} {iter elt:Expr} {ifs:List Expr} {fi:FI} {fe:F1} {fc:FB} (s:Sh) (i:Nat) (S:dX X.N [i] X.env.scope scope) (hN:X.N.Nodup) (hi':PI X (.Name x px) iter (tI X.K W fi))
  (hc:∀cells C s₀ H₀ ex,PF (blk X scope cells C s₀ H₀ ex) ifs (tT X.K W0 fc)) (he:∀cells C s₀ H₀ ex,PE (blk X scope cells C s₀ H₀ ex) elt (tE X.K W0 fe))
  (hsw:swapsWith (.ListComp elt [⟨.Name x px,iter,ifs,0⟩] scope pos) (some (.Name y pos')) spos.line X.env=pure true:=by rfl)
  (hy:X.N[j]?=some y:=by rfl) (hly:X.env.scope.names.lookup y=some .local:=by rfl)
  (hcalm:X.calm=true:=by rfl) (hx:X.N[i]?=some x:=by rfl) (hl:∀cells C s₀ H₀ ex,Loc (blk X scope cells C s₀ H₀ ex).env.scope x:=by first | exact fun _ _ _ _ _=>Or.inl rfl | exact fun _ _ _ _ _=>Or.inr rfl)
  (hf:∀cells C s₀ H₀ ex,(blk X scope cells C s₀ H₀ ex).fn x=true\/(blk X scope cells C s₀ H₀ ex).env.scope.names.lookup x=some .local:=by first | exact fun _ _ _ _ _=>Or.inr rfl | exact fun _ _ _ _ _=>Or.inl rfl)
  (hs:∀x,foldedSetIterable iter X.env x=pure x:=by intro _;rfl):PS X (.Assign [.Name y pos'] (.ListComp elt [⟨.Name x px,iter,ifs,0⟩] scope pos) spos) (tS X.K W (aA own j (aC s i fi fc fe))):=
 cw (nM hN hy hly S hcalm hi' (fun cells C s₀ H₀ ex=>DA (X:=blk X scope cells C s₀ H₀ ex) (i:=i) hN hx (hl cells C s₀ H₀ ex) (hf cells C s₀ H₀ ex)) hc he hsw hs) fun D σ H h=>by
  have h2:lB (tE X.K W (aC s i fi fc fe)) (gName j) D σ H:=GG h
  exact pE h2
theorem rV (i:Nat) {x:Str} {p apos cpos:Pos} (ha:PE X a (tE X.K W fa)) (hN:X.N[i]?=some x:=by rfl) (hv:Dk X.env.scope x:=by first | exact Or.inl rfl | exact Or.inr (Or.inl rfl) | exact Or.inr (Or.inr rfl)) (hd:(x==("__debug__":Str))=false:=by decide)
  (hcd:(x==("__classdict__":Str))=false:=by decide) (hs:starEach [a] X.env=[(false,eval a X.env)]:=by rfl)
  (hbase:attributeBase (.Name x p) "append" X.env (eval (.Name x p) X.env)=eval (.Name x p) X.env:=by rfl) (hline:(apos.endLine==cpos.line)=true:=by rfl)
  (hfew:((backTo cpos (starEach [a] X.env)).all (fun x=>!x.1)&&(backToKw cpos (keywordEach [] X.env)).all (fun x=>x.1.isSome)
   && decide ([a].length+([]:List Keyword).length+(if ([]:List Keyword).isEmpty then 0 else 1)<30))=true:=by rfl)
  (hsw:swapsWith (.Call (.Attribute (.Name x p) "append" apos) [a] [] cpos) none pos.line X.env=pure false:=by rfl) :
  PS X (.Expr (.Call (.Attribute (.Name x p) "append" apos) [a] [] cpos) pos) (tS X.K W (eN i fa)):=
 cw (Iq (jI PySem.F.plainAttrs_list PySem.F.slot_list_append PySem.F.type_list_append jO (qw hN hv hd hcd) (da_cons ha da_nil hs) hbase hfew hline hs rfl) hsw) fun _ _ _=>qT
theorem C8 (i:Nat) {x:Str} {px:Pos} {iter:Expr} {body:List Stmt} {fi:FI} {g:FS} (hp:PassesOwn (model X.prog X.w) X.A X.env X.xe) (hN:X.N.Nodup) (hi':PI X (.Name x px) iter (tI X.K W fi)) (hb:PSs X body (tS X.K W g)) (hcalm:X.calm=true:=by rfl)
  (hx:X.N[i]?=some x:=by rfl) (hl:Loc X.env.scope x:=by first | exact Or.inl rfl | exact Or.inr rfl) (hf:X.fn x=true\/X.env.scope.names.lookup x=some .local:=by first | exact .inl rfl | exact .inr rfl)
  (hs:∀x,foldedSetIterable iter X.env x=pure x:=by intro _;rfl):PS X (.For (.Name x px) iter body [] pos) (tS X.K W (d8 i fi g)):=
 cw (BK hp hcalm hi' (DA hN hx hl hf) hb hs) fun _ _ _=>Bq
end
structure Cp (X:Cx) (N gl:List Str) (vs cs ls lo gs:List Nat):Prop where
 hN:X.N=N
 nd:N.Nodup
 nm:∀x∈N,(x==("__debug__":Str))=false/\(x==("__classdict__":Str))=false
 ng:∀x∈gl,(x==("__debug__":Str))=false/\x ≠ "__name__"
 vis:∀(i:Nat) x,N[i]?=some x->vs.contains i=true->Dk X.env.scope x
 cel:∀(i:Nat) x,N[i]?=some x->cs.contains i=true->X.env.scope.names.lookup x=some .cell\/X.env.scope.names.lookup x=some .free
 loc:∀(i:Nat) x,N[i]?=some x->ls.contains i=true->Loc X.env.scope x/\(X.fn x=true\/X.env.scope.names.lookup x=some .local)
 loo:∀(i:Nat) x,N[i]?=some x->lo.contains i=true->X.env.scope.names.lookup x=some .local
 glb:∀(j:Nat) x,gl[j]?=some x->gs.contains j=true->Gl X x
 calm:X.calm=true
 kind:X.env.scope.kind=.function
def za (sc:Scope) (ks:List NameKind) (o:Option Str):Bool:=match o with
 | some x=>(match sc.names.lookup x with
  | some k=>ks.any fun z=>decide (z=k)
  | none=>false)
 | none=>true
def vQ (N gl:List Str) (vs cs ls lo gs:List Nat) (sc:Scope):Bool:=
 decide (sc.kind=.function)&&(vs.all fun i=>za sc [.local,.cell,.free] N[i]?)&&(cs.all fun i=>za sc [.cell,.free] N[i]?)&&(ls.all fun i=>za sc [.local,.cell] N[i]?)&&(lo.all fun i=>za sc [.local] N[i]?)&&(gs.all fun j=>za sc [.globalImplicit] gl[j]?)
def DI (N gl:List Str):Bool:=decide N.Nodup&&(N.all fun x=>!(x==("__debug__":Str))&&!(x==("__classdict__":Str)))&&(gl.all fun x=>!(x==("__debug__":Str))&&!decide (x = "__name__"))
theorem DD {sc:Scope} {ks:List NameKind} {x:Str} (h:za sc ks (some x)=true):∃k∈ks,sc.names.lookup x=some k:=by
 unfold za at h;simp only at h
 split at h
 ·rename_i k e
  simp only [any_eq_true,decide_eq_true_eq] at h
  obtain ⟨z,hz,rfl⟩:=h;exact ⟨z,hz,e⟩
 ·cases h
theorem DZ {P:Nat->Bool} {l:List Nat} {i:Nat} (h:l.all P=true) (hi:l.contains i=true):P i=true:=by
 rw [all_eq_true] at h;exact h i (by simpa using hi)
structure LP (N gl:List Str) (vs cs ls lo gs:List Nat) (sc:Scope):Prop where
 kind:sc.kind=.function
 vis:∀(i:Nat) x,N[i]?=some x->vs.contains i=true->Dk sc x
 cel:∀(i:Nat) x,N[i]?=some x->cs.contains i=true->sc.names.lookup x=some .cell\/sc.names.lookup x=some .free
 loc:∀(i:Nat) x,N[i]?=some x->ls.contains i=true->Loc sc x
 loo:∀(i:Nat) x,N[i]?=some x->lo.contains i=true->sc.names.lookup x=some .local
 glb:∀(j:Nat) x,gl[j]?=some x->gs.contains j=true->sc.names.lookup x=some .globalImplicit
theorem D2 {N gl:List Str} {vs cs ls lo gs:List Nat} {sc:Scope} (h:vQ N gl vs cs ls lo gs sc=true):LP N gl vs cs ls lo gs sc:=by
 unfold vQ at h;simp only [Bool.and_eq_true,decide_eq_true_eq] at h
 obtain ⟨⟨⟨⟨⟨h0,h1⟩,h2⟩,h3⟩,h4⟩,h5⟩:=h;refine ⟨h0,fun i x e hi=>?_,fun i x e hi=>?_,fun i x e hi=>?_,fun i x e hi=>?_,fun i x e hi=>?_⟩
 ·have q:=DZ h1 hi
  rw [e] at q;obtain ⟨k,hk,q⟩:=DD q;simp only [mem_cons,not_mem_nil,or_false] at hk
  rcases hk with rfl | rfl | rfl
  ·exact .inl q
  ·exact .inr (.inl q)
  ·exact .inr (.inr q)
 ·have q:=DZ h2 hi
  rw [e] at q;obtain ⟨k,hk,q⟩:=DD q;simp only [mem_cons,not_mem_nil,or_false] at hk
  rcases hk with rfl | rfl
  ·exact .inl q
  ·exact .inr q
 ·have q:=DZ h3 hi
  rw [e] at q;obtain ⟨k,hk,q⟩:=DD q;simp only [mem_cons,not_mem_nil,or_false] at hk
  rcases hk with rfl | rfl
  ·exact .inl q
  ·exact .inr q
 ·have q:=DZ h4 hi
  rw [e] at q;obtain ⟨k,hk,q⟩:=DD q;simp only [mem_cons,not_mem_nil,or_false] at hk
  rw [hk] at q;exact q
 ·have q:=DZ h5 hi
  rw [e] at q;obtain ⟨k,hk,q⟩:=DD q;simp only [mem_cons,not_mem_nil,or_false] at hk
  rw [hk] at q;exact q
theorem GC {N gl:List Str} (h:DI N gl=true):N.Nodup/\(∀x∈N,(x==("__debug__":Str))=false/\(x==("__classdict__":Str))=false)/\∀x∈gl,(x==("__debug__":Str))=false/\x ≠ "__name__":=by
 unfold DI at h;simp only [Bool.and_eq_true,decide_eq_true_eq,all_eq_true,Bool.not_eq_true',decide_eq_false_iff_not] at h
 exact ⟨h.1.1,h.1.2,h.2⟩
theorem Cp.fn {P:Program} {w:World} {K:Fg} {mg:Str->Option Value} {base:Heap} {N gl:List Str} {vs cs ls lo gs:List Nat} {qual:Str} {sc:Scope} {f:Addr} {cd:Value} {A:Around} {outer:List Env} {s:Shared} {H:Hp} {E:XK}
  (h:vQ N gl vs cs ls lo gs sc=true) (h':DI N gl=true):Cp (eT j8 P w K mg base N qual sc f cd A outer s H E).nox N gl vs cs ls lo gs:=by
 obtain ⟨a,b,c⟩:=GC h'
 have q:=D2 h
 exact ⟨rfl,a,b,c,q.vis,q.cel,fun i x e hi=>⟨q.loc i x e hi,.inl rfl⟩,q.loo,q.glb,rfl,q.kind⟩
theorem zA {env:Env} {x:Str} {k:NameKind}:∀{names:List (Str×NameKind)},names.lookup x=some k ->
  (names.map fun (n,k)=>if (k==NameKind.free&&env.scope.kind==.function&&env.kindOf n==some .cell) then (n,NameKind.cell) else (n,k)).lookup x=some k \/
  (k=.free/\(names.map fun (n,k)=>if (k==NameKind.free&&env.scope.kind==.function&&env.kindOf n==some .cell) then (n,NameKind.cell) else (n,k)).lookup x=some .cell)
 | [],h=>by simp at h
 | (n,k')::r,h=>by
  have ih:=@zA env x k r
  rw [map_cons];show List.lookup x ((if (k'==NameKind.free&&env.scope.kind==.function&&env.kindOf n==some .cell)=true then (n,NameKind.cell) else (n,k'))::_)=_\/_/\List.lookup x ((if (k'==NameKind.free&&env.scope.kind==.function&&env.kindOf n==some .cell)=true then (n,NameKind.cell) else (n,k'))::_)=_
  by_cases hc:(k'==NameKind.free&&env.scope.kind==.function&&env.kindOf n==some .cell)=true
  ·rw [if_pos hc]
   cases hx:x==n with
   | true=>
    simp only [lookup_cons,hx] at h ⊢
    cases h;simp only [Bool.and_eq_true,beq_iff_eq] at hc
    exact .inr ⟨hc.1.1,trivial⟩
   | false=>
    simp only [lookup_cons,hx] at h ⊢
    exact ih h
  ·rw [if_neg hc]
   cases hx:x==n with
   | true=>
    simp only [lookup_cons,hx] at h ⊢
    cases h;exact .inl rfl
   | false=>
    simp only [lookup_cons,hx] at h ⊢
    exact ih h
theorem wL {scope:Scope} {env:Env} {x:Str} {k:NameKind} (h:scope.names.lookup x=some k):(relabel scope env).names.lookup x=some k\/(k=.free/\(relabel scope env).names.lookup x=some .cell):=zA h
theorem Cp.blk {X:Cx} {N gl:List Str} {vs cs ls lo gs vs' cs' ls' lo' gs':List Nat} {scope:Scope} (S:Cp X N gl vs cs ls lo gs) (h:vQ N gl vs' cs' ls' lo' gs' scope=true) (cells C s₀ H₀ ex) :
  Cp (blk X scope cells C s₀ H₀ ex) N gl vs' cs' ls' lo' gs':=by
 have q:=D2 h
 refine ⟨S.hN,S.nd,S.nm,S.ng,fun i x e hi=>?_,fun i x e hi=>?_,fun i x e hi=>?_,fun i x e hi=>?_,fun i x e hi=>?_,S.calm,q.kind⟩
 ·show Dk (relabel scope X.env) x
  rcases q.vis i x e hi with z | z | z
  ·rcases wL (env:=X.env) z with y | ⟨y,_⟩
   ·exact .inl y
   ·cases y
  ·rcases wL (env:=X.env) z with y | ⟨y,_⟩
   ·exact .inr (.inl y)
   ·cases y
  ·rcases wL (env:=X.env) z with y | ⟨_,y⟩
   ·exact .inr (.inr y)
   ·exact .inr (.inl y)
 ·show (relabel scope X.env).names.lookup x=some .cell\/(relabel scope X.env).names.lookup x=some .free
  rcases q.cel i x e hi with z | z
  ·rcases wL (env:=X.env) z with y | ⟨y,_⟩
   ·exact .inl y
   ·cases y
  ·rcases wL (env:=X.env) z with y | ⟨_,y⟩
   ·exact .inr y
   ·exact .inl y
 ·show Loc (relabel scope X.env) x/\((scope.names.any fun y=>y.1==x&&y.2==.cell)=true\/(relabel scope X.env).names.lookup x=some .local)
  rcases q.loc i x e hi with z | z
  ·rcases wL (env:=X.env) z with y | ⟨y,_⟩
   ·exact ⟨.inl y,.inr y⟩
   ·cases y
  ·rcases wL (env:=X.env) z with y | ⟨y,_⟩
   ·refine ⟨.inr y,.inl ?_⟩
    rw [any_eq_true];exact ⟨(x,.cell),iE z,by simp⟩
   ·cases y
 ·show (relabel scope X.env).names.lookup x=some .local
  rcases wL (env:=X.env) (q.loo i x e hi) with y | ⟨y,_⟩
  ·exact y
  ·cases y
 ·show (relabel scope X.env).names.lookup x=some .globalImplicit
  rcases wL (env:=X.env) (q.glb i x e hi) with y | ⟨y,_⟩
  ·exact y
  ·cases y
def jY (N:List Str) (i:Nat) (cs:List Nat) (sc:Scope):Bool:=
 decide (sc.kind=.function)&&(sc.names.all fun p=>!decide (p.2=.free)||cs.any fun j=>decide (N[j]?=some p.1)) &&
 ((List.range N.length).all fun j=>j==i||(sc.names.all fun p=>!decide (some p.1=N[j]?)||(!decide (p.2=.local)&&!decide (p.2=.cell)))) &&
 (sc.names.all fun p=>!decide (p.2=.local)||decide (sc.names.lookup p.1=some .local)) &&
 (sc.names.all fun p=>!decide (p.2=.free)||sc.names.all fun q=>!decide (q.1=p.1)||!decide (q.2=.cell))
theorem mS {X:Cx} {N gl:List Str} {vs cs ls lo gs:List Nat} {scope:Scope} {i:Nat} (S:Cp X N gl vs cs ls lo gs) (h:jY N i cs scope=true):dX X.N [i] X.env.scope scope:=by
 unfold jY at h;simp only [Bool.and_eq_true,decide_eq_true_eq,all_eq_true,Bool.or_eq_true,Bool.not_eq_true',decide_eq_false_iff_not,any_eq_true,mem_range,beq_iff_eq] at h
 obtain ⟨⟨⟨⟨h0,h1⟩,h2⟩,h3⟩,h4⟩:=h;refine ⟨h0,fun n hn=>?_,fun j x e hj=>?_,fun x hx e=>?_,fun n hn hc=>?_⟩
 ·rcases h1 _ hn with z | ⟨j,hj,e⟩
  ·exact absurd rfl z
  ·exact S.cel j n e (by simpa using hj)
 ·rw [S.hN] at e
  rcases h2 j (List.getElem?_eq_some_iff.mp e).1 with z | z
  ·rw [z];exact List.mem_singleton.mpr rfl
  ·exfalso
   rcases hj with y | y
   ·rcases z _ y with w | w
    ·exact w e.symm
    ·exact w.1 rfl
   ·rcases z _ y with w | w
    ·exact w e.symm
    ·exact w.2 rfl
 ·rcases h3 x hx with z | z
  ·exact absurd e z
  ·exact z
 ·rcases h4 _ hn with z | z
  ·exact z rfl
  ·rcases z _ hc with w | w
   ·exact w rfl
   ·exact w rfl
structure Fx (X Y:Cx):Prop where
 prog:Y.prog=X.prog
 w:Y.w=X.w
 K:Y.K=X.K
 mg:Y.mg=X.mg
 base:Y.base=X.base
 A:Y.A=X.A
def Rm (X:Cx):Prop:=X.A.units+64<cLine
def DP (X:Cx) (x:Str) (n:Nat) (den:List PySem.PyData->Res):Prop:=∃(k:Nat) (f:Addr) (fd:FuncData) (ps:List Str),du X.prog X.w X.K X.mg X.base j8 k f fd ps (o8 X.K n den)/\Room k X.A/\X.mg x=some (.ref f)/\PySem.W.keepIn X.K (.ref f)=true/\Binds X.K fd ps []
def Con (X:Cx) (x:Str) (d:PySem.PyData):Prop:=∃u v,X.mg x=some u/\RelV v u/\∀H,Rep X.K H v d
section
variable {X:Cx} {N gl:List Str} {vs cs ls lo gs:List Nat} {W:XW} {a b c e:Expr} {es:List Expr} {pos p:Pos} {fa fb fc:F1} {fl:FL} {ga gb:FB} {g1 g2:FS}
theorem cv (S:Cp X N gl vs cs ls lo gs) (i:Nat) {x:Str} (hN:N[i]?=some x) (hv:vs.contains i=true):PE X (.Name x pos) (tE X.K W (af i)):=by
 have m:=S.nm x (mem_of_getElem? hN)
 exact vK (qw (by rw [S.hN];exact hN) (S.vis i x hN hv) m.1 m.2)
theorem cm (S:Cp X N gl vs cs ls lo gs) (i:Nat) {x:Str} (hN:N[i]?=some x) (hv:vs.contains i=true):PE X (.Name x pos) (tE X.K W (bT i)):=by
 have m:=S.nm x (mem_of_getElem? hN)
 exact yD (qw (by rw [S.hN];exact hN) (S.vis i x hN hv) m.1 m.2)
theorem Cp.g (S:Cp X N gl vs cs ls lo gs) {j:Nat} {x:Str} (hj:gl[j]?=some x) (hg:gs.contains j=true):Gl X x/\(x==("__debug__":Str))=false/\x ≠ "__name__":=
 ⟨S.glb j x hj hg,S.ng x (mem_of_getElem? hj)⟩
def Fc:R2:=fun x y H Q=>pK (fun i j=>.bl (decide (i<j))) x y H Q\/∃i j,x=.str i/\y=.str j/\Q (.bl (decide (i.cps.toList<j.cps.toList))) H
theorem Fq:OpR X (compareOp .Lt) Fc:=op_lt.or rh
def C0:PySem.PyData->PySem.PyData->Option PySem.PyData
 | .str i,.str j=>some (.bool (!decide (i.cps.toList<j.cps.toList)))
 | _,_=>none
abbrev mC:PySem.PyData->PySem.PyData->Option PySem.PyData:=fun a b=>(LL a b).or (C0 a b)
def BD:R2:=fun x y H Q=>pK (fun i j=>.bl (decide (j<=i))) x y H Q\/∃i j,x=.str i/\y=.str j/\Q (.bl (!decide (i.cps.toList<j.cps.toList))) H
theorem rj:OpR X (compareOp .GtE) (fun x y H Q=>∃i j,x=.str i/\y=.str j/\Q (.bl (!decide (i.cps.toList<j.cps.toList))) H):=by
 intro pins s σ H x y v u Q I rx ry h;obtain ⟨i,j,rfl,rfl,q⟩:=h;obtain ⟨t,rfl⟩:=rx;obtain ⟨t',rfl⟩:=ry;exact PySem.P.ge_str (GM I q rfl)
theorem Fu:OpR X (compareOp .GtE) BD:=op_ge.or rj
theorem yo {K:Fg}:GOp K (fun x y H Q=>∃i j,x=.str i/\y=.str j/\Q (.bl (!decide (i.cps.toList<j.cps.toList))) H) C0:=by
 intro x y H Q a b d ra rb e k
 cases ra<;>cases rb<;>simp only [C0] at e<;>try cases e
 rename_i i j;exact ⟨i,j,rfl,rfl,k _ (.bl _)⟩
theorem CP {K:Fg}:GOp K BD mC:=(Du fun _ _=>.bl _).or yo
structure Ck (X:Cx) (op:CmpOp) (r:R2) (g:PySem.PyData->PySem.PyData->Option PySem.PyData):Prop where
 o:OpR X (compareOp op) r
 g:GOp X.K r g
theorem kq (R:Rm X):Ck X .Lt Fc eR:=⟨Fq,CO⟩
theorem BH (R:Rm X):Ck X .LtE (pK fun i j=>.bl (decide (i<=j))) sR:=⟨Fm,Du fun _ _=>.bl _⟩
theorem xN (R:Rm X):Ck X .Gt (pK fun i j=>.bl (decide (j<i))) rO:=⟨Fo,Du fun _ _=>.bl _⟩
theorem JY (R:Rm X):Ck X .GtE BD mC:=⟨Fu,CP⟩
theorem bW (R:Rm X):Ck X .Eq (qW X.K false) bL:=⟨B7 R,CQ⟩
theorem uG (R:Rm X):Ck X .NotEq (qW X.K true) jm:=⟨B1 R,CN⟩
theorem de (R:Rm X):Ck X .In (uF X.K false) (bE false):=⟨B6 R,vv⟩
theorem zh (R:Rm X):Ck X .NotIn (uF X.K true) (bE true):=⟨rg R,vv⟩
theorem ct {op:CmpOp} {r:R2} {g:PySem.PyData->PySem.PyData->Option PySem.PyData} (k:Ck X op r g) (ha:PE X a (tE X.K W fa)) (hb:PE X b (tE X.K W fb)) (hm:behindInMarks op b=false):PT X (.Compare a [op] [b] pos) (tT X.K W (aN ax (az g fa fb))):=C6 k.o k.g ha hb hm
theorem cc {x:Str} {n:Nat} {den:List PySem.PyData->Res} (S:Cp X N gl vs cs ls lo gs) (j:Nat) (hj:gl[j]?=some x) (hg:gs.contains j=true) (C:DP X x n den) (ha:PA X (e::es) (tA X.K W fl)) (he:starEach (e::es) X.env=(false,eval e X.env)::starEach es X.env) (hpl:(backTo pos (starEach es X.env)).any (·.1)=false) :
  PE X (.Call (.Name x p) (e::es) [] pos) (tE X.K W (ak n den fl)):=by
 obtain ⟨k,f,fd,ps,F,hr,hm,hk,hb⟩:=C;exact yG F hr hm hk hb ha (S.g hj hg).1 (S.g hj hg).2.1 he hpl
abbrev zW (X:Cx) (N gl:List Str) (vs cs ls lo gs:List Nat) (R:Cx->Prop):Prop:=∀Y:Cx,Cp Y N gl vs cs ls lo gs->Fx X Y->R Y
theorem co {scope:Scope} {x:Str} {px:Pos} {iter elt:Expr} {ifs:List Expr} {fi:FI} {fe:F1} {fc:FB} {vs' cs' lo' gs':List Nat} (S:Cp X N gl vs cs ls lo gs) (s:Sh) (i:Nat) (hx:N[i]?=some x) (h1:jY N i cs scope=true) (h2:vQ N gl vs' cs' [i] lo' gs' scope=true)
  (hi':PI X (.Name x px) iter (tI X.K W fi)) (hc:zW X N gl vs' cs' [i] lo' gs' fun Y=>PF Y ifs (tT Y.K W0 fc)) (he:zW X N gl vs' cs' [i] lo' gs' fun Y=>PE Y elt (tE Y.K W0 fe)) (hs:∀x,foldedSetIterable iter X.env x=pure x) :
  PE X (.ListComp elt [⟨.Name x px,iter,ifs,0⟩] scope pos) (tE X.K W (aC s i fi fc fe)):=by
 have B:=fun cells C s₀ H₀ ex=>S.blk h2 cells C s₀ H₀ ex
 have L:=fun cells C s₀ H₀ ex=>(B cells C s₀ H₀ ex).loc i x hx (by simp)
 exact yF (X:=X) s i (mS S h1) (by rw [S.hN];exact S.nd) hi' (fun cells C s₀ H₀ ex=>hc _ (B cells C s₀ H₀ ex) ⟨rfl,rfl,rfl,rfl,rfl,rfl⟩) (fun cells C s₀ H₀ ex=>he _ (B cells C s₀ H₀ ex) ⟨rfl,rfl,rfl,rfl,rfl,rfl⟩)
  S.calm (by rw [S.hN];exact hx) (fun cells C s₀ H₀ ex=>(L cells C s₀ H₀ ex).1) (fun cells C s₀ H₀ ex=>(L cells C s₀ H₀ ex).2) hs
theorem nz {elt:Expr} {gens:List Comprehension} {scope:Scope} {y:Str} {pos':Pos} {line:Nat} (hk:X.env.scope.kind=.function) (hy:X.env.scope.names.lookup y=some .local) (hl:(pos'.line==pos.line)=true)
  (hn:(scope.names.any fun (n,k)=>n==y&&(k==NameKind.local||k==NameKind.cell))=false):swapsWith (.ListComp elt gens scope pos) (some (.Name y pos')) line X.env=pure true:=by
 have e1:(X.env.blockKind==ScopeKind.function)=true:=by unfold Env.blockKind;rw [hk];rfl
 have e2:(X.env.kindOf y==some NameKind.local)=true:=by unfold Env.kindOf;rw [hy];rfl
 show (pure (X.env.blockKind==.function&&X.env.kindOf y==some .local&&pos'.line==pos.line&&!(scope.names.any fun (n,k)=>n==y&&(k==NameKind.local||k==NameKind.cell))):Sem Bool)=pure true
 rw [e1,e2,hl,hn];rfl
theorem gC {elt:Expr} {gens:List Comprehension} {scope:Scope} {y:Str} {pos':Pos} {line:Nat} (hy:X.env.scope.names.lookup y=some .cell\/X.env.scope.names.lookup y=some .free):swapsWith (.ListComp elt gens scope pos) (some (.Name y pos')) line X.env=pure false:=by
 have e2:(X.env.kindOf y==some NameKind.local)=false:=by
  unfold Env.kindOf;rcases hy with hy | hy<;>rw [hy]<;>rfl
 show (pure (X.env.blockKind==.function&&X.env.kindOf y==some .local&&pos'.line==pos.line&&!(scope.names.any fun (n,k)=>n==y&&(k==NameKind.local||k==NameKind.cell))):Sem Bool)=pure false
 rw [e2,Bool.and_false,Bool.false_and,Bool.false_and]
theorem cs_append (S:Cp X N gl vs cs ls lo gs) (i:Nat) {x:Str} {apos cpos:Pos} (hi:N[i]?=some x) (hv:vs.contains i=true) (ha:PE X a (tE X.K W fa)) (hs:starEach [a] X.env=[(false,eval a X.env)])
  (hbase:attributeBase (.Name x p) "append" X.env (eval (.Name x p) X.env)=eval (.Name x p) X.env) (hline:(apos.endLine==cpos.line)=true)
  (hfew:((backTo cpos (starEach [a] X.env)).all (fun x=>!x.1)&&(backToKw cpos (keywordEach [] X.env)).all (fun x=>x.1.isSome)
   && decide ([a].length+([]:List Keyword).length+(if ([]:List Keyword).isEmpty then 0 else 1)<30))=true)
  (hsw:swapsWith (.Call (.Attribute (.Name x p) "append" apos) [a] [] cpos) none pos.line X.env=pure false) :
  PS X (.Expr (.Call (.Attribute (.Name x p) "append" apos) [a] [] cpos) pos) (tS X.K W (eN i fa)):=
 rV i ha (by rw [S.hN];exact hi) (S.vis i x hi hv) (S.nm x (mem_of_getElem? hi)).1 (S.nm x (mem_of_getElem? hi)).2 hs hbase hline hfew hsw
end
def eU (g:PySem.PyData->Option PySem.PyData) (fa:F1):F1:=bg fa fun p Γ=>match g p.d with
 | some d=>.ok ⟨.leaf,d⟩ Γ
 | none=>.no
def bC:PySem.PyData->Option PySem.PyData
 | .int i=>some (.int (-i))
 | _=>none
def Kk (fa fb:F1):F1:=bg fa fun p=>bg fb fun q=>fun Γ=>match p.s,p.d,q.d with
 | .lst .leaf,.list ds,.int k=>if cU k&&decide (ds.length*k.toNat<=sizeLine) then .ok ⟨.lst .leaf,.list (List.replicate k.toNat ds).flatten⟩ Γ else .no
 | _,_,_=>.no
def Ag:Option (Option PV)->Bool
 | some (some ⟨.lst .leaf,.list _⟩)=>true
 | _=>false
def A5 (i:Nat) (p q:PV) (Γ:Ev):eu:=match Γ[i]? with
 | some (some ⟨.lst .leaf,.list ds⟩)=>(match q.d with
  | .int k=>(match fh ds.length k with
   | some j=>if T.coer .leaf p then .nx (Γ.set i (some ⟨.lst .leaf,.list (ds.set j p.d)⟩)) else .no
   | none=>.no)
  | _=>.no)
 | _=>.no
def fO (i:Nat) (fv fk:F1):FS:=fun Γ=>if Ag Γ[i]? then gE fv (fun p=>gE fk (A5 i p)) Γ else .no
def lP (i:Nat) (g:FS):FS:=fun Γ=>match Γ[i]? with
 | some (some p)=>g (Γ.set i (some ⟨.leaf,p.d⟩))
 | _=>.no
section
variable {K:Fg} {W:XW} {σ:St} {H:Hp} {Q:VK} {D:dI} {fa fb:F1} {fl:FL}
theorem EW {r:V->Hp->VK->Prop} {g:PySem.PyData->Option PySem.PyData} (hg:∀x H Q a d,Rep K H x a->g a=some d->(∀v,Sc v d->Q v H)->r x H Q) (h:tE K W (eU g fa) σ H Q):KE r (tE K W fa) σ H Q:=by
 refine wN h fun He O Fs Γ1 p v H1 G Fs1 nd A h1=>?_
 cases e:g p.d with
 | none=>rw [e] at h1;exact h1.elim
 | some d=>
  rw [e] at h1;exact hg v H1 Q p.d d A.own.rep e fun u hu=>Wants.scal h1 hu A.same A.env.dropL (fun a ha=>ha) nd fun a ha=>A.new a (mem_append_right _ ha)
theorem IY:∀{Fs:List (List Addr)},(∀F∈Fs,F=[])->Fs.flatten=[]
 | [],_=>rfl
 | F::r,h=>by rw [flatten_cons,h F mem_cons_self,IY fun G hG=>h G (mem_cons_of_mem _ hG)];rfl
theorem Own.leaves {O:List Addr} {G:List Addr} {v:V} {ds:List PySem.PyData} (h:Own K O H (.lst .leaf) G v (.list ds)):∃l vs,v=.ref l/\G=[l]/\H l=some (.lst vs)/\vs.length=ds.length/\∀(j:Nat) u d,vs[j]?=some u->ds[j]?=some d->Rep K (cI H O) u d:=by
 cases h with
 | @lst _ l vs _ Fs hsv hp hl hf nd q=>
  have hF:∀F∈Fs,F=[]:=fun F hF=>by
   obtain ⟨j,hj,e⟩:=List.getElem_of_mem hF;have o:=q j (vs[j]'(by omega)) (ds[j]'(by omega)) F (getElem?_eq_getElem _) (getElem?_eq_getElem _) (by rw [getElem?_eq_getElem hj,e])
   cases o;rfl
  refine ⟨l,vs,rfl,by rw [IY hF],hp,hl,fun j u d h1 h2=>?_⟩
  have hj:=(List.getElem?_eq_some_iff.mp h2).1
  have o:=q j u d (Fs[j]'(by omega)) h1 h2 (getElem?_eq_getElem _)
  generalize Fs[j]'(by omega)=F at o
  cases o with
  | leaf r=>exact r
theorem Own.mkLeaves {O:List Addr} {l:Addr} {vs:List V} {ds:List PySem.PyData} (hp:H l=some (.lst vs)) (hl:vs.length=ds.length) (q:∀(j:Nat) u d,vs[j]?=some u->ds[j]?=some d->Rep K (cI H O) u d):Own K O H (.lst .leaf) [l] (.ref l) (.list ds):=by
 have hF:(List.replicate ds.length ([]:List Addr)).flatten=[]:=IY fun F hF=>(List.mem_replicate.mp hF).2
 have o:Own K O H (.lst .leaf) (l::(List.replicate ds.length ([]:List Addr)).flatten) (.ref l) (.list ds):=by
  refine .lst rfl hp hl (by simp) (by rw [hF];simp) fun j u d F h1 h2 h3=>?_
  have:F=[]:=(List.mem_replicate.mp (mem_of_getElem? h3)).2
  subst this;exact .leaf (q j u d h1 h2)
 rw [hF] at o;exact o
theorem AL {k:PV->PV->Ev->eu} {R:V->V->Hp->Prop} (h:tS K W (gE fa fun p=>gE fb (k p)) D σ H)
  (hk:∀He O Γ2 p q v u H1 H2 G1 G2 Fs2,O.Nodup->Same H H1->Same H1 H2->EnvOk K He (G2++(G1++O)) Fs2 H2 σ Γ2->(∀a∈G2++G1,He a=none) ->
   Own K (G2++(G1++O)++Fs2.flatten) H2 p.s G1 v p.d->Own K (G2++(G1++O)++Fs2.flatten) H2 q.s G2 u q.d->j9 K W He O D (k p q Γ2)->R v u H2) :
  tE K W fa σ H fun v H1=>tE K W fb σ H1 fun u H2=>R v u H2:=by
 refine gB h fun He O Fs Γ1 p v H1 G1 Fs1 _ fr A1 h1=>?_
 refine ⟨He,G1++O,Fs1,Γ1,A1.env,?_⟩
 unfold gE at h1;have nd:O.Nodup:=(List.nodup_append.mp A1.env.ndO).2.1
 cases e:fb Γ1 with
 | ok q Γ2=>
  rw [e] at h1;intro u H2 G2 Fs2 A2;refine hk He O Γ2 p q v u H1 H2 G1 G2 Fs2 nd A1.same A2.same A2.env (fun a ha=>?_) (A1.own.mono A2.same fun a ha=>?_) A2.own h1
  ·rcases List.mem_append.mp ha with z | z
   ·exact A2.freshG A1.env a z
   ·exact fr a z
  ·rcases List.mem_append.mp ha with z | z
   ·rcases List.mem_append.mp z with z | z
    ·rcases A2.new a (mem_append_left _ z) with y | y
     ·exact .inl (mem_append_right _ y)
     ·exact .inr y
    ·exact .inl (mem_append_left _ z)
   ·rcases A2.new a (mem_append_right _ z) with y | y
    ·exact .inl (mem_append_right _ y)
    ·exact .inr y
 | er c Γ2=>
  rw [e] at h1;intro H2 Fs2 hs E2;exact h1 σ H2 Fs2 E2.dropL
 | no=>
  rw [e] at h1;exact h1
theorem D9 {Q':VK} (h:tE K W fa σ H Q) (hq:∀v H',Q v H'->Q' v H'):tE K W fa σ H Q':=by
 obtain ⟨He,O,Fs,Γ,E,h⟩:=h;refine ⟨He,O,Fs,Γ,E,?_⟩
 cases e:fa Γ with
 | ok p Γ'=>rw [e] at h;exact fun v H' G Fs' A=>hq v H' (h v H' G Fs' A)
 | er c Γ'=>rw [e] at h;exact h
 | no=>rw [e] at h;exact h
theorem EnvOk.chg {He:Hp} {O:List Addr} {Fs:List (List Addr)} {Γ:Ev} {i:Nat} {ds:List PySem.PyData} (E:EnvOk K He O Fs H σ Γ) (h:Γ[i]?=some (some ⟨.lst .leaf,.list ds⟩)) :
  ∃l vs,σ[i]?=some (some (.ref l))/\H l=some (.lst vs)/\vs.length=ds.length/\(∀(j:Nat) u d,vs[j]?=some u->ds[j]?=some d->Rep K (cI H (O++Fs.flatten)) u d) /\
   ∀(vs':List V) (ds':List PySem.PyData),vs'.length=ds'.length->(∀(j:Nat) u d,vs'[j]?=some u->ds'[j]?=some d->Rep K (cI H (O++Fs.flatten)) u d)->∃Fs',EnvOk K He O Fs' (cg H l (.lst vs')) σ (Γ.set i (some ⟨.lst .leaf,.list ds'⟩)):=by
 obtain ⟨hv,v,F,h1,E1,o1,sub⟩:=E.move h;have hi:i<Γ.length:=(List.getElem?_eq_some_iff.mp h).1
 obtain ⟨_,v0,F0,h10,h20,o0⟩:=E.slot i _ h;obtain ⟨l,vs,rfl,rfl,hp,hl,hr⟩:=o1.leaves;obtain ⟨l',vs',e0,e1,hp',hl',hr'⟩:=o0.leaves;rw [h1] at h10
 cases h10
 cases e0;rw [hp] at hp'
 cases hp'
 refine ⟨l,vs,h1,hp,hl,hr',fun ws ds' hw q=>?_⟩
 have hlF:l∈Fs.flatten:=sub l (mem_append_left _ (List.mem_singleton.mpr rfl))
 have hHe:He l=none:=E.fresh l hlF
 have E4:=E1.mutO (o:=.lst ws) (mem_append_left _ (List.mem_singleton.mpr rfl)) hp hHe
 have ownL:Own K ([l]++O++(Fs.set i []).flatten) (cg H l (.lst ws)) (.lst .leaf) [l] (.ref l) (.list ds'):=by
  refine Own.mkLeaves kS hw fun j u d a1 a2=>?_
  rw [Ii (mem_append_left _ (mem_append_left _ (List.mem_singleton.mpr rfl)))];refine (q j u d a1 a2).mono (wY (Same.refl _) fun a ha=>.inl ?_)
  rcases List.mem_append.mp ha with z | z
  ·rcases List.mem_append.mp z with z | z
   ·rw [List.mem_singleton.mp z];exact mem_append_right _ hlF
   ·exact mem_append_left _ z
  ·exact mem_append_right _ (sub a (mem_append_right _ z))
 have fin:=EnvOk.put (i:=i) (p:=⟨.lst .leaf,.list ds'⟩) (v:=.ref l) E4 ownL rfl (fun a ha=>by rw [List.mem_singleton.mp ha];exact hHe) (by rw [length_set];exact hi)
 rw [set_set,set_set,Aj h1] at fin;exact ⟨_,fin⟩
theorem iH {o:Option (Option PV)} (h:Ag o=true):∃ds,o=some (some ⟨.lst .leaf,.list ds⟩):=by
 unfold Ag at h;split at h
 ·exact ⟨_,rfl⟩
 ·cases h
theorem xy {i:Nat} (h:tS K W (fO i fa fb) D σ H):lB (tE K W fa) (L2.gSub (fA i) (tE K W fb) uE) D σ H:=by
 obtain ⟨He,O,Fs,Γ,E,h⟩:=h;unfold fO at h
 cases ho:Ag Γ[i]? with
 | false=>rw [ho] at h;exact h.elim
 | true=>
  rw [ho] at h;obtain ⟨ds,e0⟩:=iH ho;obtain ⟨l,vs,h1,h2,h3,_,_⟩:=E.chg e0;refine D9 (AL (D:=D) (R:=fun v u H2=>uE (.ref l) u v H2 fun H3=>D.nx σ H3) ⟨He,O,Fs,Γ,E,h⟩ fun He O Γ2 p q v u H1 H2 G1 G2 Fs2 nd s1 s2 E2 fr o1 o2 w=>?_) fun v H' q=>⟨.ref l,h1,q⟩
  unfold A5 at w;split at w
  ·rename_i ds1 e1
   split at w
   ·rename_i k ek
    split at w
    ·rename_i j ej
     cases hc:T.coer .leaf p with
     | false=>rw [hc] at w;exact w.elim
     | true=>
      rw [hc] at w;have E3:EnvOk K He O Fs2 H2 σ Γ2:=E2.drop (fun a ha=>mem_append_right _ (mem_append_right _ ha)) nd
      obtain ⟨l1,vs1,q1,q2,q3,q4,q5⟩:=E3.chg e1;rw [h1] at q1
      cases q1;have hu:=o2.rep
      rw [ek] at hu
      cases hu;have ov:Own K (O++Fs2.flatten) H2 .leaf [] v p.d:=by
       refine o1.coer (s:=.leaf) hc (fun a ha=>?_) fun a ha z=>?_
       ·rcases List.mem_append.mp ha with z | z
        ·exact mem_append_left _ (mem_append_right _ (mem_append_right _ z))
        ·exact mem_append_right _ z
       ·exfalso
        have ndE:=E2.nd
        rw [append_assoc] at ndE;have n2:=(List.nodup_append.mp ndE).2.1
        rw [append_assoc] at n2;exact (List.nodup_append.mp n2).2.2 a ha a z rfl
      cases ov with
      | leaf rv=>
       have ixl:fh vs1.length k=some j:=by rw [q3];exact ej
       obtain ⟨Fs',E4⟩:=q5 (vs1.set j v) (ds1.set j p.d) (by rw [length_set,length_set,q3]) fun m x d a1 a2=>by
        by_cases hm:m=j
        ·subst hm
         rw [List.getElem?_set] at a1 a2
         rw [if_pos rfl] at a1 a2
         split at a1
         ·split at a2
          ·cases a1;cases a2;exact rv
          ·cases a2
         ·cases a1
        ·rw [getElem?_set_ne (Ne.symm hm)] at a1 a2
         exact q4 m x d a1 a2
       exact ⟨l,vs1,k,j,rfl,rfl,q2,ixl,w σ _ Fs' E4⟩
    ·exact w.elim
   ·exact w.elim
  ·exact w.elim
theorem Bp {i:Nat} {g:FS} (h:tS K W (lP i g) D σ H):tS K W g D σ H:=by
 obtain ⟨He,O,Fs,Γ,E,h⟩:=h;unfold lP at h;split at h
 ·rename_i p e0
  obtain ⟨hv,v,F,h1,E1,o1,sub⟩:=E.move e0;have hi:i<Γ.length:=(List.getElem?_eq_some_iff.mp e0).1
  have c:T.coer .leaf p=true:=by show (!p.s.isView||bu p.d)=true;rw [hv];rfl
  have o:=o1.coer (s:=.leaf) (O':=O++(Fs.set i []).flatten) c gQ fun a ha z=>by
   exfalso
   have nd:=E1.nd
   rw [append_assoc] at nd;exact (List.nodup_append.mp nd).2.2 a ha a z rfl
  have E2:EnvOk K He O ((Fs.set i []).set i []) H (σ.set i (some v)) ((Γ.set i none).set i (some ⟨.leaf,p.d⟩)):=
   EnvOk.put (G:=[]) (p:=⟨.leaf,p.d⟩) (v:=v) (by rw [nil_append];exact E1.dropL) (by rw [nil_append];exact o) rfl (fun a ha=>by simp at ha) (by rw [length_set];exact hi)
  rw [set_set,set_set,Aj h1] at E2;exact ⟨He,O,_,_,E2,h⟩
 ·exact h.elim
end
section
variable {X:Cx}
theorem tP:Li X (unaryOp .USub) (fun x H Q=>∃i,x=.int i/\Q (.int (-i)) H):=by
 intro pins s σ H x v Q I rx h;obtain ⟨i,rfl,q⟩:=h;obtain ⟨t,rfl⟩:=rx;exact neg_int ⟨.int (-i),H,I.tok _,⟨_,rfl⟩,q⟩
end
section
variable {X:Cx}
variable {N gl:List Str} {vs cs ls lo gs:List Nat} {W:XW} {a b c e:Expr} {es:List Expr} {pos p:Pos} {fa fb fc:F1} {fl:FL} {g:FS}
theorem cs_setI (S:Cp X N gl vs cs ls lo gs) (i:Nat) {x:Str} {px pos':Pos} (hi:N[i]?=some x) (hv:vs.contains i=true) (ha:PE X a (tE X.K W fa)) (hb:PE X b (tE X.K W fb))
  (hs:swapsWithSole [.Subscript (.Name x px) b pos'] a pos.line X.env=pure false) (hw:swappedStores [.Subscript (.Name x px) b pos'] a X.env=pure none)
  (h1:(assignEach [.Subscript (.Name x px) b pos'] X.env).map (·.2)=[assign (.Subscript (.Name x px) b pos') X.env])
  (has:∀v,assign (.Subscript (.Name x px) b pos') X.env v=(do
   let ov <-holding [v] (eval (.Name x px) X.env)
   let iv <-holding [v,ov] (eval b X.env)
   standAt pos'
   holding [v,ov,iv] (setItem ov iv v)
   release [v,ov,iv] [])):PS X (.Assign [.Subscript (.Name x px) b pos'] a pos) (tS X.K W (fO i fa fb)):=by
 have m:=S.nm x (mem_of_getElem? hi)
 exact cw (uO ha (BO (qw (by rw [S.hN];exact hi) (S.vis i x hi hv) m.1 m.2) hb uf has) hs hw h1) fun _ _ _=>xy
end
def wq:Expr->Bool
 | .Starred ..=>true
 | _=>false
theorem fJ {e:Expr} {es:List Expr} {env:Env} (h:wq e=false):starEach (e::es) env=(false,eval e env)::starEach es env:=by
 cases e<;>first | rfl | cases h
theorem fI {a:Expr} {env:Env} (h:wq a=false):starEach [a] env=[(false,eval a env)]:=fJ h
theorem IQ {a b:Expr} {env:Env} (h:wq a=false) (h2:wq b=false):starEach [a,b] env=[(false,eval a env),(false,eval b env)]:=by rw [fJ h,fI h2]
def DefOk (P:Program) (w:World) (K:Fg) (mg:Str->Option Value) (base:Heap) (j:Nat) (x:Str) (n:Nat) (den:List PySem.PyData->Res):Prop:=
 ∃(f:Addr) (fd:FuncData) (ps:List Str),du P w K mg base j8 j f fd ps (o8 K n den)/\mg x=some (.ref f)/\PySem.W.keepIn K (.ref f)=true/\Binds K fd ps []
def gk (K:Fg) (mg:Str->Option Value) (x:Str) (d:PySem.PyData):Prop:=∃u v,mg x=some u/\RelV v u/\∀H,Rep K H v d
theorem DefOk.cal {X:Cx} {j k n:Nat} {x:Str} {den:List PySem.PyData->Res} (h:DefOk X.prog X.w X.K X.mg X.base j x n den) (hr:Room k X.A) (hj:decide (j<=k)=true):DP X x n den:=by
 obtain ⟨f,fd,ps,F,a,b,c⟩:=h;exact ⟨j,f,fd,ps,F,hr.mono (of_decide_eq_true hj),a,b,c⟩
def Jt:PySem.PyData->V
 | .none=>.non
 | .bool b=>.bl b
 | .int i=>.int i
 | .str x=>.str x
 | _=>.non
def sv:List Value->List PySem.PyData->Bool
 | .int i _::r,.int j::ds=>decide (i=j)&&sv r ds
 | .str x _::r,.str y::ds=>decide (x=y)&&sv r ds
 | [],[]=>true
 | _,_=>false
theorem Ie:∀{us:List Value} {ds:List PySem.PyData},sv us ds=true->Vals (ds.map Jt) us/\∀d∈ds,Sc (Jt d) d
 | [],[],_=>⟨.nil,fun d hd=>(nomatch hd)⟩
 | .int i t::r,.int j::ds,h=>by
  simp only [sv,Bool.and_eq_true,decide_eq_true_eq] at h
  obtain ⟨rfl,h⟩:=h;obtain ⟨a,b⟩:=Ie h;refine ⟨.cons ⟨t,rfl⟩ a,fun d hd=>?_⟩
  rcases List.mem_cons.mp hd with z | z
  ·rw [z];exact .int i
  ·exact b d z
 | .str i t::r,.str j::ds,h=>by
  simp only [sv,Bool.and_eq_true,decide_eq_true_eq] at h
  obtain ⟨rfl,h⟩:=h;obtain ⟨a,b⟩:=Ie h;refine ⟨.cons ⟨t,rfl⟩ a,fun d hd=>?_⟩
  rcases List.mem_cons.mp hd with z | z
  ·rw [z];exact .str i
  ·exact b d z
def De (its:Array Value) (ds:List PySem.PyData):Bool:=decide (its.size<=sizeLine)&&sv its.toList ds
theorem yI {K:Fg} {mg:Str->Option Value} {x:Str} {a:Addr} {dd:Option Addr} {its:Array Value} {n:Nat} {sl:Array (Option Value)} {ds:List PySem.PyData} (hm:mg x=some (.ref a)) (l:K.lookup a=some ⟨.type "tuple",dd,.seq its n,sl⟩) (h:De its ds=true):gk K mg x (.tuple ds):=by
 unfold De at h;simp only [Bool.and_eq_true,decide_eq_true_eq] at h
 obtain ⟨v,s⟩:=Ie h.2;refine ⟨.ref a,.ref a,hm,rfl,fun H=>.tup (vs:=ds.map Jt) (.inr ⟨_,its,n,l,rfl,rfl,h.1,v⟩) (by simp) fun i v d h1 h2=>?_⟩
 rw [getElem?_map,h2] at h1
 cases h1;exact (s d (mem_of_getElem? h2)).rep
theorem yK {K:Fg} {mg:Str->Option Value} {x:Str} {i:Int} {t:Tok} (hm:mg x=some (.int i t)):gk K mg x (.int i):=⟨.int i t,.int i,hm,⟨t,rfl⟩,fun H=>.int i⟩
theorem Cg {K:Fg} {m:List PySem.PyData->Res} {H:Hp} {a:Addr} {ns:List Int} {E:XK} (h:m [.list (ns.map .int)]=.ok ⟨.leaf,.bool true⟩) (hS:SqL K H a (ns.map V.int)):o8 K 1 m [.ref a] H (fun v _=>v=.bl true) E:=by
 refine ⟨rfl,[],[.list (ns.map .int)],nodup_nil,(fun _ z=>nomatch z),⟨rfl,fun i v d h1 h2=>?_⟩,?_⟩
 ·rw [D5]
  match i,h1,h2 with
  | 0,h1,h2=>
   cases h1
   cases h2;refine .lst hS (by simp) fun i v d h1 h2=>?_
   rw [getElem?_map] at h1 h2
   cases e:ns[i]? with
   | none=>rw [e] at h1;cases h1
   | some z=>
    rw [e] at h1 h2
    cases h1
    cases h2;exact .int z
  | i+1,h1,h2=>simp at h1
 ·rw [h]
  intro v H' G r
  have o:=r.own.rep
  cases o;rfl
end T
namespace TQ
open PySem PySem.Spec L2 T
open PyProof.Rows hiding St
structure Q (p:Prop):Prop where
 p:p
section
variable {X:Cx} {N gl:List Str} {vs cs ls lo gs:List Nat} {W:XW} {a b c e:Expr} {es:List Expr} {pos p:Pos} {fa fb fc:F1} {fl:FL} {ga gb:FB} {g1 g2 g:FS}
theorem Jm (S:Cp X N gl vs cs ls lo gs) (i:Nat) {x:Str} (hN:N[i]?=some x) (hv:vs.contains i=true):Q (PE X (.Name x pos) (tE X.K W (af i))):=⟨T.cv S i hN hv⟩
theorem ke (S:Cp X N gl vs cs ls lo gs) (i:Nat) {x:Str} (hN:N[i]?=some x) (hv:vs.contains i=true):Q (PE X (.Name x pos) (tE X.K W (bT i))):=⟨T.cm S i hN hv⟩
theorem dC (S:Cp X N gl vs cs ls lo gs) (j:Nat) {x:Str} {d:PySem.PyData} (hj:gl[j]?=some x) (hg:gs.contains j=true) (h:Con X x d):Q (PE X (.Name x pos) (tE X.K W (eK d))):=⟨by
 obtain ⟨u,v,h1,h2,h3⟩:=h;have q:=S.g hj hg
 exact yE q.1 h1 h2 h3 q.2.1⟩
theorem aH {j:Int} {k pos}:Q (PE X (.Constant (.int j) k pos) (tE X.K W (eK (.int j)))):=⟨aX uS fun _ _ _=>uv fun _=>.int j⟩
theorem wz {j:Bool} {k pos}:Q (PE X (.Constant (.bool j) k pos) (tE X.K W (eK (.bool j)))):=⟨aX uW fun _ _ _=>uv fun _=>.bl j⟩
theorem nj {k pos}:Q (PE X (.Constant .none k pos) (tE X.K W (eK .none))):=⟨aX BU fun _ _ _=>uv fun _=>.non⟩
theorem cZ {j:Str} {k pos}:Q (PE X (.Constant (.str j) k pos) (tE X.K W (eK (.str j)))):=⟨T.de_str ⟩
theorem i2 (ha:Q (PE X a (tE X.K W fa))) (hb:Q (PE X b (tE X.K W fb))):Q (PE X (.BinOp a .Add b pos) (tE X.K W (az aO fa fb))):=⟨have ha:=ha.p;have hb:=hb.p;aX (fR B8 ha hb) fun _ _ _=>gG (Du fun _ _=>.int _)⟩
theorem zf (ha:Q (PE X a (tE X.K W fa))) (hb:Q (PE X b (tE X.K W fb))):Q (PE X (.BinOp a .Sub b pos) (tE X.K W (az gSub fa fb))):=⟨have ha:=ha.p;have hb:=hb.p;aX (fR BZ ha hb) fun _ _ _=>gG (Du fun _ _=>.int _)⟩
theorem Ed (ha:Q (PE X a (tE X.K W fa))) (hb:Q (PE X b (tE X.K W fb))):Q (PE X (.BinOp a .Mult b pos) (tE X.K W (az kE fa fb))):=⟨have ha:=ha.p;have hb:=hb.p;aX (fR B2 ha hb) fun _ _ _=>gG (p9 (fun i j h=>by
 simp only [sC,Bool.or_eq_true,Bool.and_eq_true,decide_eq_true_eq] at h
 exact h) fun _ _=>.int _)⟩
theorem ll (ha:Q (PE X a (tE X.K W fa))) (hb:Q (PE X b (tE X.K W fb))):Q (PE X (.BinOp a .FloorDiv b pos) (tE X.K W (az oq fa fb))):=⟨have ha:=ha.p;have hb:=hb.p;aX (fR xZ ha hb) fun _ _ _=>gG (p9 (fun i j h=>by
 simp only [yO,Bool.and_eq_true,decide_eq_true_eq] at h
 exact h) fun _ _=>.int _)⟩
theorem ni (ha:Q (PE X a (tE X.K W fa))) (hb:Q (PE X b (tE X.K W fb))):Q (PE X (.BinOp a .Mod b pos) (tE X.K W (az bV fa fb))):=⟨have ha:=ha.p;have hb:=hb.p;aX (fR B3 ha hb) fun _ _ _=>gG (p9 (fun i j h=>by
 simp only [yN,decide_eq_true_eq] at h
 exact h) fun _ _=>.int _)⟩
theorem Jc (ha:Q (PE X a (tE X.K W fa))) (hb:Q (PE X b (tE X.K W fb))):Q (PE X (.BinOp a .Pow b pos) (tE X.K W (az mB fa fb))):=⟨have ha:=ha.p;have hb:=hb.p;aX (fR B0 ha hb) fun _ _ _=>gG (p9 (fun i j h=>by
 simp only [yM,Bool.and_eq_true,decide_eq_true_eq] at h
 exact ⟨h.1.1,h.1.2,h.2⟩) fun _ _=>.int _)⟩
theorem oS (ha:Q (PE X a (tE X.K W fa))):Q (PE X (.UnaryOp .USub a pos) (tE X.K W (eU bC fa))):=⟨have ha:=ha.p;aX (zG tP ha) fun _ _ _=>EW fun x H Q a d r e k=>by
 cases r<;>simp only [bC] at e<;>cases e
 exact ⟨_,rfl,k _ (.int _)⟩⟩
theorem tx (ha:Q (PE X a (tE X.K W fa))):Q (PE X (.UnaryOp .Not a pos) (tE X.K W (vC fa))):=⟨have ha:=ha.p;aX (BS ha) fun _ _ _=>Be⟩
theorem Jp {op:CmpOp} {r:R2} {g:PySem.PyData->PySem.PyData->Option PySem.PyData} (k:Ck X op r g) (ha:Q (PE X a (tE X.K W fa))) (hb:Q (PE X b (tE X.K W fb))) (hm:behindInMarks op b=false):Q (PE X (.Compare a [op] [b] pos) (tE X.K W (az g fa fb))):=⟨have ha:=ha.p;have hb:=hb.p;Dc k.o k.g ha hb hm⟩
theorem zp {op op':CmpOp} {r r':R2} {g g':PySem.PyData->PySem.PyData->Option PySem.PyData} (k:Ck X op r g) (k':Ck X op' r' g') (ha:Q (PE X a (tE X.K W fa))) (hb:Q (PE X b (tE X.K W fb))) (hc:Q (PE X c (tE X.K W fc))) (hm:lastMarks [op,op'] [b,c]=false):Q (PE X (.Compare a [op,op'] [b,c] pos) (tE X.K W (m9 g g' fa fb fc))):=⟨have ha:=ha.p;have hb:=hb.p;have hc:=hc.p;vL k.o k.g k'.o k'.g ha hb hc hm⟩
theorem zg {op} (h:Q (PE X a (tE X.K W fa))):Q (PE X (.BoolOp op [a] pos) (tE X.K W fa)):=⟨L2.pe_one h.p⟩
theorem w4 (ha:Q (PE X a (tE X.K W fa))) (hb:Q (PE X (.BoolOp .And (b::es) pos) (tE X.K W fb))):Q (PE X (.BoolOp .And (a::b::es) pos) (tE X.K W (d9 fa fb))):=⟨have ha:=ha.p;have hb:=hb.p;aX (BX ha hb) fun _ _ _=>Bu⟩
theorem Hh (hc:Q (PT X c (tT X.K W ga))) (ha:Q (PE X a (tE X.K W fa))) (hb:Q (PE X b (tE X.K W fb))):Q (PE X (.IfExp c a b pos) (tE X.K W (wG ga fa fb))):=⟨have hc:=hc.p;have ha:=ha.p;have hb:=hb.p;aX (uT hc ha hb) fun _ _ _=>EX⟩
theorem tB (ha:Q (PE X a (tE X.K W fa))) (hb:Q (PE X b (tE X.K W fb))) (hs:GP b):Q (PE X (.Subscript a b pos) (tE X.K W (ai fa fb))):=⟨have ha:=ha.p;have hb:=hb.p;aX (Fj Cy ha hb hs) fun _ _ _=>Bl⟩
theorem cY (s:Sh) (h:Q (PA X es (tA X.K W fl))):Q (PE X (.List es pos) (tE X.K W (aB s fl))):=⟨have h:=h.p;aX (Iz h) fun _ _ _=>pC⟩
theorem gp {x1} (h:Q (PA X es (tA X.K W fl))):Q (PE X (.Tuple es x1 pos) (tE X.K W (bo fl))):=⟨have h:=h.p;aX (BR h) fun _ _ _=>Bb⟩
theorem kT :Q (PA X [] (tA X.K W ag)):=⟨T.da_nil ⟩
theorem jB (ha:Q (PE X e (tE X.K W fa))) (hr:Q (PA X es (tA X.K W fl))) (hs:starEach (e::es) X.env=(false,eval e X.env)::starEach es X.env):Q (PA X (e::es) (tA X.K W (ae fa fl))):=⟨T.da_cons ha.p hr.p hs⟩
theorem Jo {scope:Scope} {x:Str} {px:Pos} {iter elt:Expr} {ifs:List Expr} {fi:FI} {fe:F1} {fc:FB} {vs' cs' lo' gs':List Nat} (S:Cp X N gl vs cs ls lo gs) (s:Sh) (i:Nat) (hx:N[i]?=some x) (h1:jY N i cs scope=true) (h2:vQ N gl vs' cs' [i] lo' gs' scope=true) (hi':Q (PI X (.Name x px) iter (tI X.K W fi))) (hc:zW X N gl vs' cs' [i] lo' gs' fun Y=>Q (PF Y ifs (tT Y.K W0 fc))) (he:zW X N gl vs' cs' [i] lo' gs' fun Y=>Q (PE Y elt (tE Y.K W0 fe))) (hs:∀x,foldedSetIterable iter X.env x=pure x):Q (PE X (.ListComp elt [⟨.Name x px,iter,ifs,0⟩] scope pos) (tE X.K W (aC s i fi fc fe))):=⟨T.co S s i hx h1 h2 hi'.p (fun Y S F=>(hc Y S F).p) (fun Y S F=>(he Y S F).p) hs⟩
theorem Ao {scope:Scope} {x y:Str} {px pos' spos:Pos} {iter elt:Expr} {ifs:List Expr} {fi:FI} {fe:F1} {fc:FB} {vs' cs' lo' gs':List Nat} (S:Cp X N gl vs cs ls lo gs) (own:Bool) (j:Nat) (s:Sh) (i:Nat) (hy:N[j]?=some y) (hyl:lo.contains j=true) (hx:N[i]?=some x) (hsl:(pos'.line==pos.line)=true) (hsn:(scope.names.any fun (n,k)=>n==y&&(k==NameKind.local||k==NameKind.cell))=false) (h1:jY N i cs scope=true) (h2:vQ N gl vs' cs' [i] lo' gs' scope=true) (hi':Q (PI X (.Name x px) iter (tI X.K W fi))) (hc:zW X N gl vs' cs' [i] lo' gs' fun Y=>Q (PF Y ifs (tT Y.K W0 fc))) (he:zW X N gl vs' cs' [i] lo' gs' fun Y=>Q (PE Y elt (tE Y.K W0 fe))) (hs:∀x,foldedSetIterable iter X.env x=pure x):Q (PS X (.Assign [.Name y pos'] (.ListComp elt [⟨.Name x px,iter,ifs,0⟩] scope pos) spos) (tS X.K W (aA own j (aC s i fi fc fe)))):=⟨by
 have hi':=hi'.p
 have hc:=fun Y S F=>(hc Y S F).p
 have he:=fun Y S F=>(he Y S F).p
 have B:=fun cells C s₀ H₀ ex=>S.blk h2 cells C s₀ H₀ ex
 have L:=fun cells C s₀ H₀ ex=>(B cells C s₀ H₀ ex).loc i x hx (by simp)
 exact oA (X:=X) own j s i (mS S h1) (by rw [S.hN];exact S.nd) hi' (fun cells C s₀ H₀ ex=>hc _ (B cells C s₀ H₀ ex) ⟨rfl,rfl,rfl,rfl,rfl,rfl⟩) (fun cells C s₀ H₀ ex=>he _ (B cells C s₀ H₀ ex) ⟨rfl,rfl,rfl,rfl,rfl,rfl⟩)
  (nz S.kind (S.loo j y hy hyl) hsl hsn) (by rw [S.hN];exact hy) (S.loo j y hy hyl) S.calm (by rw [S.hN];exact hx) (fun cells C s₀ H₀ ex=>(L cells C s₀ H₀ ex).1) (fun cells C s₀ H₀ ex=>(L cells C s₀ H₀ ex).2) hs⟩
theorem tL (S:Cp X N gl vs cs ls lo gs) (j:Nat) (hj:gl[j]?=some ("len":Str)) (hg:gs.contains j=true) (hm:X.mg "len"=none) (ha:Q (PA X (e::es) (tA X.K W fl))) (he:starEach (e::es) X.env=(false,eval e X.env)::starEach es X.env) (hpl:(backTo pos (starEach es X.env)).any (·.1)=false):Q (PE X (.Call (.Name "len" p) (e::es) [] pos) (tE X.K W (bw aT fl))):=⟨have ha:=ha.p;vM (call_len_seq.or kQ) CS Ga hm ha (S.g hj hg).1 (S.g hj hg).2.2 (S.g hj hg).2.1 he hpl⟩
theorem sJ (S:Cp X N gl vs cs ls lo gs) (j:Nat) (hj:gl[j]?=some ("all":Str)) (hg:gs.contains j=true) (hm:X.mg "all"=none) (ha:Q (PA X (e::es) (tA X.K W fl))) (he:starEach (e::es) X.env=(false,eval e X.env)::starEach es X.env) (hpl:(backTo pos (starEach es X.env)).any (·.1)=false):Q (PE X (.Call (.Name "all" p) (e::es) [] pos) (tE X.K W (bw (cD false) fl))):=⟨have ha:=ha.p;vM (sA S.calm) vw Gd hm ha (S.g hj hg).1 (S.g hj hg).2.2 (S.g hj hg).2.1 he hpl⟩
theorem ly (S:Cp X N gl vs cs ls lo gs) (j:Nat) (hj:gl[j]?=some ("any":Str)) (hg:gs.contains j=true) (hm:X.mg "any"=none) (ha:Q (PA X (e::es) (tA X.K W fl))) (he:starEach (e::es) X.env=(false,eval e X.env)::starEach es X.env) (hpl:(backTo pos (starEach es X.env)).any (·.1)=false):Q (PE X (.Call (.Name "any" p) (e::es) [] pos) (tE X.K W (bw (cD true) fl))):=⟨have ha:=ha.p;vM (sy S.calm) vw Gc hm ha (S.g hj hg).1 (S.g hj hg).2.2 (S.g hj hg).2.1 he hpl⟩
theorem tM (S:Cp X N gl vs cs ls lo gs) (j:Nat) (hj:gl[j]?=some ("int":Str)) (hg:gs.contains j=true) (hm:X.mg "int"=none) (ha:Q (PA X (e::es) (tA X.K W fl))) (he:starEach (e::es) X.env=(false,eval e X.env)::starEach es X.env) (hpl:(backTo pos (starEach es X.env)).any (·.1)=false):Q (PE X (.Call (.Name "int" p) (e::es) [] pos) (tE X.K W (bw om fl))):=⟨have ha:=ha.p;FW sx CT Gb hm ha (S.g hj hg).1 (S.g hj hg).2.2 (S.g hj hg).2.1 he hpl⟩
theorem qH (S:Cp X N gl vs cs ls lo gs) (j:Nat) (hj:gl[j]?=some ("list":Str)) (hg:gs.contains j=true) (hm:X.mg "list"=none) (ha:Q (PE X e (tE X.K W fa))) (hs:starEach [e] X.env=[(false,eval e X.env)]):Q (PE X (.Call (.Name "list" p) [e] [] pos) (tE X.K W (kX fa))):=⟨have ha:=ha.p;sj hm ha (S.g hj hg).1 hs⟩
theorem Jq {x:Str} {n:Nat} {den:List PySem.PyData->Res} (S:Cp X N gl vs cs ls lo gs) (j:Nat) (hj:gl[j]?=some x) (hg:gs.contains j=true) (C:DP X x n den) (ha:Q (PA X (e::es) (tA X.K W fl))) (he:starEach (e::es) X.env=(false,eval e X.env)::starEach es X.env) (hpl:(backTo pos (starEach es X.env)).any (·.1)=false):Q (PE X (.Call (.Name x p) (e::es) [] pos) (tE X.K W (ak n den fl))):=⟨T.cc S j hj hg C ha.p he hpl⟩
theorem eX {tg:Expr} (S:Cp X N gl vs cs ls lo gs) (j:Nat) (hj:gl[j]?=some ("range":Str)) (hg:gs.contains j=true) (hm:X.mg "range"=none) (ha:Q (PA X [a] (tA X.K W fl))) (hs:starEach [a] X.env=[(false,eval a X.env)]):Q (PI X tg (.Call (.Name "range" p) [a] [] pos) (tI X.K W (eJ fl))):=⟨have ha:=ha.p;FV hm ha (S.g hj hg).1 hs⟩
theorem tH {tg:Expr} (S:Cp X N gl vs cs ls lo gs) (j:Nat) (hj:gl[j]?=some ("range":Str)) (hg:gs.contains j=true) (hm:X.mg "range"=none) (ha:Q (PA X [a,b] (tA X.K W fl))) (hs:starEach [a,b] X.env=[(false,eval a X.env),(false,eval b X.env)]) (hs2:starEach [b] X.env=[(false,eval b X.env)]):Q (PI X tg (.Call (.Name "range" p) [a,b] [] pos) (tI X.K W (rK fl))):=⟨have ha:=ha.p;FU hm ha (S.g hj hg).1 hs hs2⟩
theorem iY {tg:Expr} (ha:Q (PE X a (tE X.K W fa))):Q (PI X tg a (tI X.K W (bt fa))):=⟨have ha:=ha.p;m6 (xT ha) fun _ _ _=>xF⟩
theorem Jn {op:CmpOp} {r:R2} {g:PySem.PyData->PySem.PyData->Option PySem.PyData} (k:Ck X op r g) (ha:Q (PE X a (tE X.K W fa))) (hb:Q (PE X b (tE X.K W fb))) (hm:behindInMarks op b=false):Q (PT X (.Compare a [op] [b] pos) (tT X.K W (aN ax (az g fa fb)))):=⟨T.ct k ha.p hb.p hm⟩
theorem EA {op op':CmpOp} {r r':R2} {g g':PySem.PyData->PySem.PyData->Option PySem.PyData} (k:Ck X op r g) (k':Ck X op' r' g') (ha:Q (PE X a (tE X.K W fa))) (hb:Q (PE X b (tE X.K W fb))) (hc:Q (PE X c (tE X.K W fc))) (hm:lastMarks [op,op'] [b,c]=false):Q (PT X (.Compare a [op,op'] [b,c] pos) (tT X.K W (aN ax (m9 g g' fa fb fc)))):=⟨have ha:=ha.p;have hb:=hb.p;have hc:=hc.p;vF k.o k.g k'.o k'.g ha hb hc hm⟩
theorem w5 (ha:Q (PT X a (tT X.K W ga))):Q (PT X (.UnaryOp .Not a pos) (tT X.K W (b9 ga))):=⟨have ha:=ha.p;j7 (uJ ha) fun _ _ _=>pF⟩
theorem Ej (ha:Q (PT X a (tT X.K W ga))):Q (PW X (.BoolOp .And [a] pos) (tT X.K W ga)):=⟨have ha:=ha.p;xO ha⟩
theorem Ef (ha:Q (PT X a (tT X.K W ga))):Q (PW X (.BoolOp .Or [a] pos) (tT X.K W ga)):=⟨have ha:=ha.p;uH ha⟩
theorem Ee (ha:Q (PT X a (tT X.K W ga))) (hb:Q (PW X (.BoolOp .And (b::es) pos) (tT X.K W gb))):Q (PW X (.BoolOp .And (a::b::es) pos) (tT X.K W (dU ga gb))):=⟨have ha:=ha.p;have hb:=hb.p;wj (BI ha hb) fun _ _ _=>xJ⟩
theorem wQ (ha:Q (PT X a (tT X.K W ga))) (hb:Q (PW X (.BoolOp .Or (b::es) pos) (tT X.K W gb))):Q (PW X (.BoolOp .Or (a::b::es) pos) (tT X.K W (hJ ga gb))):=⟨have ha:=ha.p;have hb:=hb.p;wj (zE ha hb) fun _ _ _=>uC⟩
theorem wx (h:Q (PW X a (tT X.K W ga))):Q (PT X a (tT X.K W ga)):=⟨L2.PW.pt h.p⟩
theorem iZ (ha:Q (PE X a (tE X.K W fa))) (he:∀whole,isTrue a X.env whole=(do let v <-whole;standAt a.pos;holding [v] (truthy v))):Q (PT X a (tT X.K W (aN bf fa))):=⟨have ha:=ha.p;j7 (lU ha he) fun _ _ _=>uo⟩
theorem dw :Q (PSs X [] (tS X.K W aG)):=⟨DX Ir fun _ _ _=>pB⟩
theorem dy {st:Stmt} (h1:Q (PS X st (tS X.K W g1))):Q (PSs X [st] (tS X.K W g1)):=⟨have h1:=h1.p;Iu h1⟩
theorem ba {st:Stmt} {rest:List Stmt} (h1:Q (PS X st (tS X.K W g1))) (h2:Q (PSs X rest (tS X.K W g2))):Q (PSs X (st::rest) (tS X.K W (av g1 g2))):=⟨have h1:=h1.p;have h2:=h2.p;DX (lV h1 h2) fun _ _ _=>uq⟩
theorem lp (i:Nat) {sts:List Stmt} (h:Q (PSs X sts (tS X.K W g))):Q (PSs X sts (tS X.K W (lP i g))):=⟨have h:=h.p;DX h fun _ _ _=>Bp⟩
theorem tw (ha:Q (PE X a (tE X.K W fa))):Q (PS X (.Return (some a) pos) (tS X.K W (aI fa))):=⟨have ha:=ha.p;cw (uM ha) fun _ _ _=>ur⟩
theorem cX {A B:List Stmt} (hc:Q (PT X c (tT X.K W ga))) (ha:Q (PSs X A (tS X.K W g1))) (hb:Q (PSs X B (tS X.K W g2))):Q (PS X (.If c A B pos) (tS X.K W (bF ga g1 g2))):=⟨have hc:=hc.p;have ha:=ha.p;have hb:=hb.p;cw (zF hc ha hb) fun _ _ _=>uw⟩
theorem ze (S:Cp X N gl vs cs ls lo gs) (i:Nat) {x:Str} {px:Pos} {iter:Expr} {body:List Stmt} {fi:FI} {g:FS} (hx:N[i]?=some x) (hl:ls.contains i=true) (hp:PassesOwn (model X.prog X.w) X.A X.env X.xe) (hi':Q (PI X (.Name x px) iter (tI X.K W fi))) (hb:Q (PSs X body (tS X.K W g))) (hs:∀x,foldedSetIterable iter X.env x=pure x):Q (PS X (.For (.Name x px) iter body [] pos) (tS X.K W (d8 i fi g))):=⟨have hi':=hi'.p;have hb:=hb.p;C8 i hp (by rw [S.hN];exact S.nd) hi' hb S.calm (by rw [S.hN];exact hx) (S.loc i x hx hl).1 (S.loc i x hx hl).2 hs⟩
theorem Jb (S:Cp X N gl vs cs ls lo gs) (own:Bool) (i:Nat) {x:Str} {pos':Pos} (hi:N[i]?=some x) (hl:ls.contains i=true) (hs:swapsWith a (some (.Name x pos')) pos.line X.env=pure false) (ha:Q (PE X a (tE X.K W fa))):Q (PS X (.Assign [.Name x pos'] a pos) (tS X.K W (aA own i fa))):=⟨have ha:=ha.p;C7 own i (by rw [S.hN];exact S.nd) ha (by rw [S.hN];exact hi) (S.loc i x hi hl).1 hs (S.loc i x hi hl).2⟩
theorem qD (S:Cp X N gl vs cs ls lo gs) (i:Nat) {x:Str} {px pos':Pos} (hi:N[i]?=some x) (hv:vs.contains i=true) (ha:Q (PE X a (tE X.K W fa))) (hb:Q (PE X b (tE X.K W fb))) (hs:swapsWithSole [.Subscript (.Name x px) b pos'] a pos.line X.env=pure false) (hw:swappedStores [.Subscript (.Name x px) b pos'] a X.env=pure none) (h1:(assignEach [.Subscript (.Name x px) b pos'] X.env).map (·.2)=[assign (.Subscript (.Name x px) b pos') X.env]) (has:∀v,assign (.Subscript (.Name x px) b pos') X.env v=(do
   let ov <-holding [v] (eval (.Name x px) X.env)
   let iv <-holding [v,ov] (eval b X.env)
   standAt pos'
   holding [v,ov,iv] (setItem ov iv v)
   release [v,ov,iv] [])):Q (PS X (.Assign [.Subscript (.Name x px) b pos'] a pos) (tS X.K W (fO i fa fb))):=⟨T.cs_setI S i hi hv ha.p hb.p hs hw h1 has⟩
theorem wW (S:Cp X N gl vs cs ls lo gs) (i:Nat) {x:Str} {apos cpos:Pos} (hi:N[i]?=some x) (hv:vs.contains i=true) (ha:Q (PE X a (tE X.K W fa))) (hs:starEach [a] X.env=[(false,eval a X.env)]) (hbase:attributeBase (.Name x p) "append" X.env (eval (.Name x p) X.env)=eval (.Name x p) X.env) (hline:(apos.endLine==cpos.line)=true) (hfew:((backTo cpos (starEach [a] X.env)).all (fun x=>!x.1)&&(backToKw cpos (keywordEach [] X.env)).all (fun x=>x.1.isSome)
   && decide ([a].length+([]:List Keyword).length+(if ([]:List Keyword).isEmpty then 0 else 1)<30))=true) (hsw:swapsWith (.Call (.Attribute (.Name x p) "append" apos) [a] [] cpos) none pos.line X.env=pure false):Q (PS X (.Expr (.Call (.Attribute (.Name x p) "append" apos) [a] [] cpos) pos) (tS X.K W (eN i fa))):=⟨T.cs_append S i hi hv ha.p hs hbase hline hfew hsw⟩
theorem jA :Q (PF X [] (tT X.K W0 aR)):=⟨Gr BQ fun σ H Q h=>by
 obtain ⟨He,O,Fs,Γ,E,h⟩:=h;exact h H Fs (Same.refl _) E fun _ z=>.inl z⟩
theorem wB (h:Q (PT X c (tT X.K W0 ga))):Q (PF X [c] (tT X.K W0 ga)):=⟨have h:=h.p;BP h⟩
end
end TQ
namespace T
open PySem PySem.Spec L2
open PyProof.Rows hiding St
def KJ:FS:=fun _=>.no
def DG:PySem.PyData->String
 | .none => "NoneType"
 | .bool _ => "bool"
 | .int _ => "int"
 | .str _ => "str"
 | .list _ => "list"
 | .tuple _ => "tuple"
 | .dict _ => "dict"
def yi (t c:String):Bool:=t==c||(t == "bool"&&c == "int")
def kinds:List String:=["bool", "int", "str", "list", "tuple"]
theorem ye {K:Fg} {c:String} (hc:c∈kinds):∀t∈["NoneType", "bool", "int", "str", "list", "tuple"],PySem.W.kitOne K (.type t) (.type c)=some (yi t c):=by
 intro t ht;unfold kinds at hc;simp only [mem_cons,not_mem_nil,or_false] at hc ht
 rcases hc with rfl | rfl | rfl | rfl | rfl<;>rcases ht with rfl | rfl | rfl | rfl | rfl | rfl<;>kernel_rfl
section
variable {X:Cx} {pins:List (Addr×Obj)} {σ:St} {H:Hp} {s:Shared} {A:Around} {E:Value->Shared->Prop} {Q:Value->Shared->Prop} {c:Value} {b:Bool}
theorem og {x:V} {u:Value} {d:PySem.PyData} (I:Inv X pins σ H s) (rx:RelV x u) (r:Rep X.K H x d) (e:PySem.W.kitOne X.K (.type (DG d)) c=some b) (h:∀tk,Q (.bool b) { s with toks:=tk }) :
  wpAny (model X.prog X.w) A (call (.builtin "isinstance") [u,c]) Q E s:=by
 cases r with
 | non=>exact Ak I rx .non e h
 | bl y=>exact Ak I rx (.bl y) e h
 | int i=>exact Ak I rx (.int i) e h
 | str y=>exact Ak I rx (.str y) e h
 | @lst p vs ds hs hl q=>
  rcases hs with (z | ⟨o,z⟩) | ⟨o,its,n,hk,hc,hd,hz,_⟩
  ·exact Ak I rx (.lst z) e h
  ·exact Ak I rx (.frz z) e h
  ·cases (show u=Value.ref p from rx)
   exact PySem.W.kia_one PySem.W.kitx_list I.kIn ⟨o,I.kIn _ o hk,hc⟩ e nofun h
 | @tup p vs ds hs hl q=>
  rcases hs with (z | ⟨o,z⟩) | ⟨o,its,n,hk,hc,hd,hz,_⟩
  ·exact Ak I rx (.tup z) e h
  ·cases (show u=Value.ref p from rx)
   obtain ⟨_,_,_,n,p1,h1,h2,_⟩:=(show ObjOk X.prog X.w H s.heap p (.frz o (.tup vs)) from I.hok p _ z);exact PySem.W.kia_one PySem.W.kitx_tuple I.kIn ⟨p1,h1,h2⟩ e nofun h
  ·cases (show u=Value.ref p from rx)
   exact PySem.W.kia_one PySem.W.kitx_tuple I.kIn ⟨o,I.kIn _ o hk,hc⟩ e nofun h
end
def BC (K:Fg) (c:String):List V->Hp->VK->Prop:=fun xs H Q=>∃x d,xs=[x,.ty c]/\Rep K H x d/\Q (.bl (yi (DG d) c)) H
theorem vS {X:Cx} {c:String} (hc:c∈kinds):CallR X (.builtin "isinstance") (BC X.K c):=by
 intro pins s σ H xs us Q I rv h;obtain ⟨x,d,rfl,r,q⟩:=h;match us,rv with
 | [u,t],.cons r1 (.cons r2 .nil)=>
  cases (show t=Value.type c from r2)
  have ht:DG d∈["NoneType", "bool", "int", "str", "list", "tuple"]:=by cases r<;>simp [DG]
  exact og I r1 r (ye hc _ ht) fun tk=>⟨.bl _,H,I.tok tk,rfl,q⟩
def jn (c:String) (fa:F1):F1:=bg fa fun p Γ=>.ok ⟨.leaf,.bool (yi (DG p.d) c)⟩ Γ
theorem Bi {K:Fg} {W:XW} {σ:St} {H:Hp} {Q:VK} {fa:F1} {c:String} (h:tE K W (jn c fa) σ H Q):EK (BC K c) (ip (tE K W fa) (ip (tC (.ty c)) qK)) σ H Q:=by
 show tE K W fa σ H fun x H1=>BC K c [x,.ty c] H1 Q
 refine wN h fun He O Fs Γ1 p v H1 G Fs1 nd A w=>?_
 exact ⟨v,p.d,rfl,A.own.rep,Wants.scal w (.bl _) A.same A.env.dropL (fun a ha=>ha) nd fun a ha=>A.new a (mem_append_right _ ha)⟩
def sM (c:FB) (g:FS):Nat->Ev->eu
 | 0,_=>.no
 | n+1,Γ=>match c Γ with
  | .ok true Γ1=>(match g Γ1 with
   | .nx Γ2=>sM c g n Γ2
   | .ct Γ2=>sM c g n Γ2
   | .bk Γ2=>.nx Γ2
   | .rt p=>.rt p
   | .er e Γ2=>.er e Γ2
   | .no=>.no)
  | .ok false Γ1=>.nx Γ1
  | .er e Γ1=>.er e Γ1
  | .no=>.no
def sI (n:Nat) (c:FB) (g:FS):FS:=sM c g n
section
variable {K:Fg} {W:XW} {σ:St} {H:Hp} {Q:VK} {D:dI} {fa fb:F1} {fl:FL}
theorem um {n:Nat} {c:FB} {g:FS} (h:tS K W (sI n c g) D σ H):tY (tT K W c) (tS K W g) D σ H:=by
 obtain ⟨He,O,Fs,Γ,E,h⟩:=h;refine ⟨fun m σ' H'=>∃Γk Fk,EnvOk K He O Fk H' σ' Γk/\j9 K W He O D (sM c g m Γk),⟨n,Γ,Fs,E,h⟩,?_⟩
 rintro m σ' H' ⟨Γk,Fk,Ek,hw⟩
 cases m with
 | zero=>exact hw.elim
 | succ m=>
  refine ⟨He,O,Fk,Γk,Ek,?_⟩
  rw [sM] at hw
  cases e:c Γk with
  | er x Γ1=>rw [e] at hw;exact fun H2 Fs2 s E2=>hw σ' H2 Fs2 E2
  | no=>rw [e] at hw;exact hw
  | ok b Γ1=>
   rw [e] at hw;intro H2 Fs2 s2 E2 n2
   cases b with
   | false=>rw [if_neg Bool.false_ne_true];exact hw σ' H2 Fs2 E2
   | true=>
    rw [if_pos rfl];refine ⟨fun σ3 H3=>∃Γ3 F3,EnvOk K He O F3 H3 σ3 Γ3/\j9 K W He O D (sM c g m Γ3),fun σ3 H3 q=>⟨m,Nat.lt_succ_self _,q⟩,He,O,Fs2,Γ1,E2,?_⟩
    have hw:j9 K W He O D (match g Γ1 with | .nx Γ2=>sM c g m Γ2 | .ct Γ2=>sM c g m Γ2 | .bk Γ2=>.nx Γ2 | .rt p=>.rt p | .er e Γ2=>.er e Γ2 | .no=>.no):=hw
    cases eb:g Γ1 with
    | nx Γ'=>rw [eb] at hw;exact fun σ2 H2 F2 E2=>⟨Γ',F2,E2,hw⟩
    | ct Γ'=>rw [eb] at hw;exact fun σ2 H2 F2 E2=>⟨Γ',F2,E2,hw⟩
    | bk Γ'=>rw [eb] at hw;exact fun σ2 H2 F2 E2=>hw σ2 H2 F2 E2
    | rt p=>rw [eb] at hw;exact fun u H2 G r=>hw u H2 G r
    | er x Γ'=>rw [eb] at hw;exact fun σ2 H2 F2 E2=>hw σ2 H2 F2 E2
    | no=>rw [eb] at hw;exact hw
theorem EnvOk.chgF {He:Hp} {O:List Addr} {Fs:List (List Addr)} {Γ:Ev} {i:Nat} {ds:List PySem.PyData} (E:EnvOk K He O Fs H σ Γ) (h:Γ[i]?=some (some ⟨.lst .leaf,.list ds⟩)) :
  ∃l vs,σ[i]?=some (some (.ref l))/\H l=some (.lst vs)/\vs.length=ds.length/\(∀(j:Nat) u d,vs[j]?=some u->ds[j]?=some d->Rep K (cI H (O++Fs.flatten)) u d) /\
   ∀(vs':List V) (ds':List PySem.PyData),vs'.length=ds'.length->(∀(j:Nat) u d,vs'[j]?=some u->ds'[j]?=some d->Rep K (cI H (O++Fs.flatten)) u d)->EnvOk K He O Fs (cg H l (.lst vs')) σ (Γ.set i (some ⟨.lst .leaf,.list ds'⟩)):=by
 obtain ⟨hv,v,F,h1,E1,o1,sub⟩:=E.move h;have hi:i<Γ.length:=(List.getElem?_eq_some_iff.mp h).1
 obtain ⟨_,v0,F0,h10,h20,o0⟩:=E.slot i _ h;obtain ⟨l,vs,rfl,rfl,hp,hl,hr⟩:=o1.leaves;obtain ⟨l',vs',e0,e1,hp',hl',hr'⟩:=o0.leaves;rw [h1] at h10
 cases h10
 cases e0;rw [hp] at hp'
 cases hp'
 refine ⟨l,vs,h1,hp,hl,hr',fun ws ds' hw q=>?_⟩
 have hlF:l∈Fs.flatten:=sub l (mem_append_left _ (List.mem_singleton.mpr rfl))
 have hHe:He l=none:=E.fresh l hlF
 have E4:=E1.mutO (o:=.lst ws) (mem_append_left _ (List.mem_singleton.mpr rfl)) hp hHe
 have ownL:Own K ([l]++O++(Fs.set i []).flatten) (cg H l (.lst ws)) (.lst .leaf) [l] (.ref l) (.list ds'):=by
  refine Own.mkLeaves kS hw fun j u d a1 a2=>?_
  rw [Ii (mem_append_left _ (mem_append_left _ (List.mem_singleton.mpr rfl)))];refine (q j u d a1 a2).mono (wY (Same.refl _) fun a ha=>.inl ?_)
  rcases List.mem_append.mp ha with z | z
  ·rcases List.mem_append.mp z with z | z
   ·rw [List.mem_singleton.mp z];exact mem_append_right _ hlF
   ·exact mem_append_left _ z
  ·exact mem_append_right _ (sub a (mem_append_right _ z))
 have fin:=EnvOk.put (i:=i) (p:=⟨.lst .leaf,.list ds'⟩) (v:=.ref l) E4 ownL rfl (fun a ha=>by rw [List.mem_singleton.mp ha];exact hHe) (by rw [length_set];exact hi)
 rw [set_set,set_set,Aj h1] at fin;rw [e1] at h20;rw [Aj h20] at fin;exact fin
end
theorem pZ:∀{ns:List Int} {us:List Value},Vals (ns.map V.int) us->IntsAre us ns
 | [],_,.nil=>.nil
 | n::ns,_,.cons r t=>by
  obtain ⟨tk,rfl⟩:=(show ∃t,_=Value.int n t from r)
  exact .cons _ _ (pZ t)
theorem oW:∀{xs:List V} {us:List Value},xs.length=us.length->(∀(i:Nat) x u,xs[i]?=some x->us[i]?=some u->RelV x u)->Vals xs us
 | [],[],_,_=>.nil
 | x::xs,u::us,hl,h=>.cons (h 0 x u rfl rfl) (oW (by simpa using hl) fun i x u a b=>h (i+1) x u (by simpa using a) (by simpa using b))
 | [],_::_,hl,_=>by simp at hl
 | _::_,[],hl,_=>by simp at hl
def KH (ta:TA):TE:=fun σ H Q=>ta σ H fun vs H1=>∃j:Int,vs=[.int j]/\-(2 ^ 62)<=j/\j<=sizeLine/\∀l,H1 l=none->Q (.ref l) (cg H1 l (.lst (eP 0 j.toNat)))
theorem ku {X:Cx} {a:Expr} {ta:TA} {p p2 pos pos2:Pos} (hg:Gl X "list") (hm:X.mg "list"=none) (hg2:Gl X "range") (hm2:X.mg "range"=none) (hc:X.calm=true) (ha:PA X [a] ta) (hs:starEach [a] X.env=[(false,eval a X.env)])
  (hs1:starEach [.Call (.Name "range" p2) [a] [] pos2] X.env=[(false,eval (.Call (.Name "range" p2) [a] [] pos2) X.env)]):PE X (.Call (.Name "list" p) [.Call (.Name "range" p2) [a] [] pos2] [] pos) (KH ta):=by
 intro pins s σ H Q I h;refine Call_ (Aa I hg hm vW (PyProof.Rows.callWith_type1 ?_ hs1 rfl))
 rw [hs1];show wpAny _ _ (spliced ((false,eval (.Call (.Name "range" p2) [a] [] pos2) X.env)::[])) _ _ s
 refine Calls.spliced_cons (Call_ (Aa I hg2 hm2 boot_range (PyProof.Rows.callWith_type1 (bH (ha pos2 pins s σ H _ I h) fun us s1 ⟨vs,H1,I1,r1,q1⟩=>?_) hs rfl)))
 obtain ⟨j,e,q1,q2,q⟩:=q1;subst e;obtain ⟨u,rfl,ru⟩:=r1.one;obtain ⟨t,rfl⟩:=(show ∃t,u=Value.int j t from ru)
 refine call_range_1 (Calls.spliced_nil ?_)
 have hz:(sizeLine:Int)<2 ^ 62:=by decide
 refine call_list_range (n:=j.toNat) (I.ok.hd hc) (IsRange.new ..) (small_one (by omega) (by omega) q1 (by omega)) (by rw [rangeSize_one];split<;>omega) (by have:(sizeLine:Nat)=2 ^ 24:=rfl;omega) fun h' tk acc' c' hk ho hacc=>?_
 have I2:Inv X pins σ H1 { s1 with heap:=s1.heap.push { cls:=.type "range",data:=.fields #[.int 0 s1.toks,.int j t,.int 1 (s1.toks+1)] },toks:=s1.toks+1+1 }:=I1.kept fun b o e=>Heap.get?_push_of_some _ e
 have hv:Vals (eP 0 j.toNat) acc'.toList:=by
  refine oW (by have:=hacc.1;simp only [Array.length_toList,eP,length_map,List.length_range];omega) fun i x u e1 e2=>?_
  obtain ⟨t2,rfl⟩:=hacc.2 i u (by rw [<-Array.getElem?_toList];exact e2)
  unfold eP at e1;rw [getElem?_map] at e1
  cases e3:(List.range j.toNat)[i]? with
  | none=>rw [e3] at e1;cases e1
  | some k=>
   rw [e3] at e1;obtain ⟨k1,k2⟩:=List.getElem?_eq_some_iff.mp e3
   simp at k2
   subst k2
   cases e1;exact ⟨t2,by simp⟩
 refine ⟨.ref _,cg H1 _ (.lst (eP 0 j.toNat)),I2.laid (t':=tk) (fun b o e=>hk b o e) (Nat.le_refl _) ⟨?_,acc'.toList,c',hv,by simpa using ho⟩,rfl,q _ (I2.hok.fresh (Nat.le_refl _))⟩
 simp only [eP,length_map,List.length_range]
 omega
section
variable {K:Fg} {W:XW} {σ:St} {H:Hp} {Q:VK} {fa:F1} {fl:FL}
theorem AftL.newSc {He:Hp} {O:List Addr} {Fs Gs Fs1:List (List Addr)} {Γ1:Ev} {ps:List PV} {us:List V} {H1:Hp} {l:Addr} {vs:List V} {ds:List PySem.PyData} (A:AftL K He O Fs H σ Γ1 ps us H1 Gs Fs1) (nd:O.Nodup) (hl:H1 l=none) (hv:vs.length=ds.length) (hs:∀(i:Nat) v d,vs[i]?=some v->ds[i]?=some d->Sc v d) :
  Aft K He O Fs H σ Γ1 ⟨.lst .leaf,.list ds⟩ (.ref l) (cg H1 l (.lst vs)) [l] Fs1:=by
 refine ⟨A.same.trans (kZ hl),A.env.dropL.hide (kZ hl) (by simp) (by simpa using hl) (fun a ha=>by rw [List.mem_singleton.mp ha,kS];exact Option.some_ne_none _),fun a ha=>?_,?_⟩
 ·rcases List.mem_append.mp ha with z | z
  ·rw [List.mem_singleton.mp z];exact .inr (A.same.free hl)
  ·exact A.new a (mem_append_right _ z)
 ·exact Own.mkLeaves kS hv fun j u d e1 e2=>(hs j u d e1 e2).rep
def C5 (fl:FL):F1:=fun Γ=>(fl Γ).bind fun ps Γ'=>match jb (ps.map (·.d)) with
 | some j=>if j<=sizeLine then .ok ⟨.lst .leaf,.list (b4 0 j.toNat)⟩ Γ' else .no
 | none=>.no
theorem EY (h:tE K W (C5 fl) σ H Q):KH (tA K W fl) σ H Q:=by
 obtain ⟨He,O,Fs,Γ,E,h⟩:=h;refine ⟨He,O,Fs,Γ,E,?_⟩
 unfold C5 at h
 cases e:fl Γ with
 | er c Γ'=>rw [e] at h;exact h
 | no=>rw [e] at h;exact h
 | ok ps Γ1=>
  rw [e] at h;intro vs H1 Gs Fs1 A;have h:Wants K W He O Fs H σ Q (match jb (ps.map (·.d)) with | some j=>if j<=sizeLine then .ok ⟨.lst .leaf,.list (b4 0 j.toNat)⟩ Γ1 else .no | none=>.no):=h
  cases er:jb (ps.map (·.d)) with
  | none=>rw [er] at h;exact h.elim
  | some j=>
   rw [er] at h;obtain ⟨e1,e2,e3⟩:=pq er;have r:=A.reps
   rw [e1] at r;have h:Wants K W He O Fs H σ Q (if j<=sizeLine then .ok ⟨.lst .leaf,.list (b4 0 j.toNat)⟩ Γ1 else .no):=h
   by_cases hj:j<=sizeLine
   ·rw [if_pos hj] at h
    have hv:vs=[.int j]:=by
     have hl:=r.1
     match vs,hl with
     | [v],_=>
      have q:=r.2 0 v (.int j) rfl rfl
      cases q;rfl
    refine ⟨j,hv,e2,hj,fun l hl=>h _ _ _ _ (A.newSc E.ndO hl (by simp [eP,b4]) fun i v d a1 a2=>?_)⟩
    have q:=IP (K:=K) (H:=H1) (lo:=0) (n:=j.toNat)
    refine (q.2 i v d a1 a2).sc ?_
    unfold b4 at a2;rw [getElem?_map] at a2
    cases e3:(List.range j.toNat)[i]? with
    | none=>rw [e3] at a2;cases a2
    | some k=>rw [e3] at a2;cases a2;rfl
   ·rw [if_neg hj] at h;exact h.elim
def wJ:List PySem.PyData->Option (List Int)
 | []=>some []
 | .int i::r=>(wJ r).map (i :: ·)
 | _=>none
theorem jT:∀{ds:List PySem.PyData} {ns:List Int},wJ ds=some ns->ds=ns.map .int
 | [],ns,h=>by cases h;rfl
 | .int i::r,ns,h=>by
  unfold wJ at h
  cases e:wJ r with
  | none=>rw [e] at h;cases h
  | some ms=>rw [e] at h;cases h;rw [jT e];rfl
 | .none::_,_,h=>by cases h
 | .bool _::_,_,h=>by cases h
 | .str _::_,_,h=>by cases h
 | .list _::_,_,h=>by cases h
 | .tuple _::_,_,h=>by cases h
 | .dict _::_,_,h=>by cases h
end
section
variable {K:Fg} {He H H1 H2:Hp} {O G:List Addr} {Fs Fs1 Fs2:List (List Addr)} {σ:St} {Γ Γ1 Γ2:Ev}
structure Lo (K:Fg) (He:Hp) (O:List Addr) (Fs1:List (List Addr)) (H1:Hp) (σ:St) (i j:Nat) (s:Sh) (A0:Addr) (n:Nat) (ys:List V) (H:Hp) (Γk:Ev) (Fk Gs:List (List Addr)) (acc:List PySem.PyData):Prop where
 env:EnvOk K He (A0::Gs.flatten++O) Fk H (bK [i,j] σ) Γk
 same:Same H1 H
 at_:H A0=some (.lst ys)
 new:∀a∈Gs.flatten++Fk.flatten,a∈Fs1.flatten\/H1 a=none
 l1:ys.length=acc.length
 l2:Gs.length=acc.length
 own:∀(m:Nat) v d G,ys[m]?=some v->acc[m]?=some d->Gs[m]?=some G->Own K (A0::Gs.flatten++O++Fk.flatten) H s G v d
 len:Γk.length=n
end
end T
namespace TQ
open PySem PySem.Spec L2 T
open PyProof.Rows hiding St
section
variable {X:Cx} {N gl:List Str} {vs cs ls lo gs:List Nat} {W:XW} {a b c e:Expr} {es:List Expr} {pos p:Pos} {fa fb fc:F1} {fl:FL} {ga gb:FB} {g1 g2 g:FS}
theorem kc (ha:Q (PE X e (tE X.K W fa))) (hs:swapsWith e none pos.line X.env=pure false):Q (PS X (.Expr e pos) (tS X.K W (bA fa))):=⟨have ha:=ha.p;cw (Iq ha hs) fun _ _ _=>xH⟩
theorem lx {X:Cx} {N gl:List Str} {vs cs ls lo gs:List Nat} {W:XW} {a:Expr} {pos p p2:Pos} {fa:F1} {c:String} {x:Str} (S:Cp X N gl vs cs ls lo gs) (j k:Nat) (hj:gl[j]?=some ("isinstance":Str)) (hg:gs.contains j=true) (hk:gl[k]?=some x) (hg2:gs.contains k=true) (hc:kinds.contains c=true) (hv:bootBuiltins x=some (.type c)) (hm:X.mg "isinstance"=none) (hm2:X.mg x=none) (ha:Q (PE X a (tE X.K W fa))) (hs:starEach [a,.Name x p2] X.env=(false,eval a X.env)::starEach [.Name x p2] X.env) (hs2:starEach [.Name x p2] X.env=(false,eval (.Name x p2) X.env)::starEach [] X.env) (hpl:(backTo pos (starEach [.Name x p2] X.env)).any (·.1)=false):Q (PE X (.Call (.Name "isinstance" p) [a,.Name x p2] [] pos) (tE X.K W (jn c fa))):=⟨have ha:=ha.p;aX (G9 (vS (by simpa using hc)) (S.g hj hg).1 hm Jg (sL ha (sL (pS (v:=.ty c) (S.g hk hg2).1 hm2 hv rfl (S.g hk hg2).2.2 (S.g hk hg2).2.1) zb hs2) hs) (S.g hj hg).2.2 (S.g hj hg).2.1 hs hpl) fun _ _ _=>Bi⟩
theorem ik {p2 pos2:Pos} (S:Cp X N gl vs cs ls lo gs) (j k:Nat) (hj:gl[j]?=some ("list":Str)) (hg:gs.contains j=true) (hm:X.mg "list"=none) (hk:gl[k]?=some ("range":Str)) (hg2:gs.contains k=true) (hm2:X.mg "range"=none) (ha:Q (PA X [a] (tA X.K W fl))) (hs:starEach [a] X.env=[(false,eval a X.env)]) (hs1:starEach [.Call (.Name "range" p2) [a] [] pos2] X.env=[(false,eval (.Call (.Name "range" p2) [a] [] pos2) X.env)]):Q (PE X (.Call (.Name "list" p) [.Call (.Name "range" p2) [a] [] pos2] [] pos) (tE X.K W (C5 fl))):=⟨have ha:=ha.p;aX (ku (S.g hj hg).1 hm (S.g hk hg2).1 hm2 S.calm ha hs hs1) fun _ _ _=>EY⟩
theorem Eh (n:Nat) {body:List Stmt} (hp:PassesOwn (model X.prog X.w) X.A X.env X.xe) (hc:Q (PT X c (tT X.K W ga))) (hb:Q (PSs X body (tS X.K W g))):Q (PS X (.While c body [] pos) (tS X.K W (sI n ga g))):=⟨have hc:=hc.p;have hb:=hb.p;cw (uL hp hc hb) fun _ _ _=>um⟩
end
end TQ
namespace T
open PySem PySem.Spec L2
open PyProof.Rows hiding St
def sU:PySem.PyData->Bool
 | .none=>true
 | _=>false
def cJ (neg:Bool):PySem.PyData->PySem.PyData->Option PySem.PyData
 | a,.none=>some (.bool (if neg then !sU a else sU a))
 | _,_=>none
theorem ml {K:Fg} {H:Hp} {x:V} {a:PySem.PyData} (r:Rep K H x a):decide (x=V.non)=sU a:=by
 cases r<;>simp [sU]
theorem yn {K:Fg}:GOp K (fun x y H Q=>y=.non/\Q (.bl (decide (x=.non))) H) (cJ false):=by
 intro x y H Q a b d ra rb e k
 cases rb<;>simp only [cJ] at e<;>try cases e
 exact ⟨rfl,by rw [ml ra];exact k _ (.bl _)⟩
theorem vt {K:Fg}:GOp K (fun x y H Q=>y=.non/\Q (.bl (!decide (x=.non))) H) (cJ true):=by
 intro x y H Q a b d ra rb e k
 cases rb<;>simp only [cJ] at e<;>try cases e
 exact ⟨rfl,by rw [ml ra];exact k _ (.bl _)⟩
theorem qX {X:Cx} (R:Rm X):Ck X .Is (fun x y H Q=>y=.non/\Q (.bl (decide (x=.non))) H) (cJ false):=⟨B5,yn⟩
theorem D8 {X:Cx} (R:Rm X):Ck X .IsNot (fun x y H Q=>y=.non/\Q (.bl (!decide (x=.non))) H) (cJ true):=⟨xY,vt⟩
def Lc:PySem.PyData->PySem.PyData->Option PySem.PyData
 | .str i,.str j=>if i.length+j.length<=sizeLine then some (.str (i++j)) else none
 | _,_=>none
def bJ (fa fb:F1):F1:=bg fa fun p=>bg fb fun q=>fun Γ=>match p.d,q.d with
 | .list xs,.list ys=>if cR p xs&&cR q ys&&decide (xs.length+ys.length<=sizeLine) then .ok ⟨.lst .leaf,.list (xs++ys)⟩ Γ else .no
 | _,_=>.no
def Le (fa fb:F1):F1:=bg fa fun p=>bg fb fun q=>fun Γ=>match p.d,q.d with
 | .tuple xs,.tuple ys=>if !p.s.isView&&cR q ys&&!xs.isEmpty&&decide (xs.length+ys.length<=sizeLine) then .ok ⟨.leaf,.tuple (xs++ys)⟩ Γ else .no
 | _,_=>.no
def yw (fa fb:F1):F1:=bg fa fun p=>bg fb fun q=>fun Γ=>match p.d,q.d with
 | .tuple xs,.int k=>if !p.s.isView&&decide (1<=k)&&decide (k<=xs.length) then .ok ⟨.leaf,.tuple (xs.drop k.toNat)⟩ Γ else .no
 | _,_=>.no
def pL (K:Fg):R2:=fun x y H Q=>∃l b xs zs,x=.ref l/\y=.ref b/\SqL K H l xs/\SqL K H b zs/\xs.length+zs.length<=sizeLine/\∀p,H p=none->Q (.ref p) (cg H p (.lst (xs++zs)))
theorem yL {prog:Program} {w:World} {A:Around} {E:Value->Shared->Prop} {s:Shared} {l b:Addr} {vs ws:List Value} {Q:Value->Shared->Prop} (hl:s.heap.IsList l vs.toArray) (hb:s.heap.IsList b ws.toArray) (hz:vs.length+ws.length<=sizeLine)
  (h:Q (.ref s.heap.objs.size) { s with heap:=s.heap.push { cls:=.type "list",data:=.seq (vs++ws).toArray } }):wpAny (model prog w) A (binaryOp .Add (.ref l) (.ref b)) Q E s:=by
 obtain ⟨⟨cls,dd,data,sl⟩,ho,hc,n,hd⟩:=id hl;obtain ⟨⟨cls2,dd2,data2,sl2⟩,ho2,hc2,n2,hd2⟩:=id hb;simp only at hc hd hc2 hd2
 subst hc hd hc2 hd2;have e:vs.toArray++ws.toArray=(vs++ws).toArray:=by simp
 rw [<-e] at h;exact concat_meets ⟨_,ho,rfl⟩ ⟨_,ho2,rfl⟩ noFill_list_add seq_list_add PySem.F.slot_list_add PySem.F.entry_list_add (PySem.F.args_list_add_2 _ _) (list_addW l b vs.toArray ws.toArray n n2 dd dd2 sl sl2 (by simpa using hz)) ⟨ho,ho2,h⟩
theorem Il {X:Cx}:OpR X (binaryOp .Add) (pL X.K):=by
 intro pins s σ H x y v u Q I rx ry h;obtain ⟨l,b,xs,zs,rfl,rfl,hH,hB,hz,q⟩:=h
 cases rx
 cases ry;obtain ⟨its,r,pl,z⟩:=I.list hH;obtain ⟨its2,r2,pl2,z2⟩:=I.list hB;refine yL pl.isList pl2.isList (by rw [<-r.length,<-r2.length];exact hz) ?_
 exact ⟨.ref _,_,I.lnew (t':=s.toks) (r.append r2) (by rw [length_append];exact hz),rfl,q _ I.fresh⟩
section
variable {K:Fg} {W:XW} {σ:St} {H:Hp} {Q:VK} {D:dI} {fa fb:F1} {fl:FL}
theorem Reps.app {vs ws:List V} {ds es:List PySem.PyData} (h:Reps K H vs ds) (h':Reps K H ws es):Reps K H (vs++ws) (ds++es):=by
 refine ⟨by rw [length_append,length_append,h.1,h'.1],fun i v d e1 e2=>?_⟩
 by_cases hi:i<vs.length
 ·rw [getElem?_append_left hi] at e1
  rw [getElem?_append_left (by rw [<-h.1];exact hi)] at e2
  exact h.2 i v d e1 e2
 ·rw [getElem?_append_right (by omega)] at e1
  rw [getElem?_append_right (by rw [<-h.1];omega),<-h.1] at e2
  exact h'.2 _ v d e1 e2
theorem Reps.drop {vs:List V} {ds:List PySem.PyData} (k:Nat) (h:Reps K H vs ds):Reps K H (vs.drop k) (ds.drop k):=by
 refine ⟨by rw [length_drop,length_drop,h.1],fun i v d e1 e2=>?_⟩
 rw [List.getElem?_drop] at e1 e2
 exact h.2 _ v d e1 e2
theorem C9 {G2 G1 O F:List Addr} (nd:(G2++(G1++O)++F).Nodup):(∀a∈G1,a∉O++F)/\(∀a∈G2,a∉O++F):=by
 rw [append_assoc,append_assoc] at nd;obtain ⟨_,n2,n3⟩:=List.nodup_append.mp nd;obtain ⟨_,_,n4⟩:=List.nodup_append.mp n2;exact ⟨fun a ha z=>n4 a ha a z rfl,fun a ha z=>n3 a ha a (mem_append_right _ z) rfl⟩
theorem xi {G2 G1 O F:List Addr}:∀a∈O++F,a∈G2++(G1++O)++F:=fun a ha=>by
 rcases List.mem_append.mp ha with z | z
 ·exact mem_append_left _ (mem_append_right _ (mem_append_right _ z))
 ·exact mem_append_right _ z
theorem yd {He H1:Hp} {O:List Addr} {Fs Fs1:List (List Addr)} {Γ1:Ev} {vs:List V} {ds:List PySem.PyData} {p:Addr} (E:EnvOk K He O Fs1 H1 σ Γ1) (s:Same H H1) (n:∀a∈Fs1.flatten,a∈Fs.flatten\/H a=none)
  (hr:Reps K (cI H1 (O++Fs1.flatten)) vs ds) (hp:H1 p=none):Aft K He O Fs H σ Γ1 ⟨.leaf,.tuple ds⟩ (.ref p) (cg H1 p (.tup vs)) [] Fs1:=by
 refine ⟨s.trans (kZ hp),by rw [nil_append];exact E.grow (kZ hp),by rw [nil_append];exact n,.leaf ?_⟩
 rw [nil_append];have hn:p∉O++Fs1.flatten:=fun z=>E.inH p z hp
 exact .tup (.of (D4 kS hn)) hr.1 fun i v d h1 h2=>(hr.2 i v d h1 h2).mono (wY (kZ hp) fun a ha=>.inl ha)
theorem Ij {He H1:Hp} {O:List Addr} {Fs Fs1:List (List Addr)} {Γ1:Ev} {v:V} {d:PySem.PyData} (E:EnvOk K He O Fs1 H1 σ Γ1) (s:Same H H1) (n:∀a∈Fs1.flatten,a∈Fs.flatten\/H a=none)
  (hr:Rep K (cI H1 (O++Fs1.flatten)) v d):Aft K He O Fs H σ Γ1 ⟨.leaf,d⟩ v H1 [] Fs1:=
 ⟨s,by rw [nil_append];exact E,by rw [nil_append];exact n,.leaf (by rw [nil_append];exact hr)⟩
theorem uz (h:tE K W (bJ fa fb) σ H Q):zt (pL K) (tE K W fa) (tE K W fb) σ H Q:=by
 refine Dw (R:=fun v u H2=>pL K v u H2 Q) h fun He O Fs Γ2 p q v u H1 H2 G1 G2 Fs2 nd s1 s2 E new o1 o2 w=>?_
 obtain ⟨s,d⟩:=p;obtain ⟨s',d'⟩:=q;dsimp only at w o1 o2
 split at w
 ·rename_i xs ys
  cases hc:(cR ⟨s,.list xs⟩ xs&&cR ⟨s',.list ys⟩ ys&&decide (xs.length+ys.length<=sizeLine)) with
  | false=>rw [hc] at w;exact w.elim
  | true=>
   rw [hc] at w;simp only [Bool.and_eq_true,decide_eq_true_eq] at hc
   obtain ⟨⟨h1,h2⟩,h3⟩:=hc;obtain ⟨d1,d2⟩:=C9 E.nd;obtain ⟨p1,vs,rfl,q1,_,r1⟩:=o1.items (O':=O++Fs2.flatten) h1 xi d1
   obtain ⟨p2,ws,rfl,q2,_,r2⟩:=o2.items (O':=O++Fs2.flatten) h2 xi d2
   refine ⟨p1,p2,vs,ws,rfl,rfl,q1,q2,by rw [r1.1,r2.1];exact h3,fun p' hp'=>w _ _ _ _ (Eb (E.drop (fun a ha=>mem_append_right _ (mem_append_right _ ha)) nd) (s1.trans s2) (fun a ha=>new a (mem_append_right _ (mem_append_right _ ha))) (r1.app r2) hp')⟩
 ·exact w.elim
theorem Bc (h:tE K W (yw fa fb) σ H Q):KF (By K) (tE K W fa) (zr (tE K W fb)) o4 σ H Q:=by
 refine Dw (R:=fun v u H2=>∃i,u=.int i/\By K v (some i) none H2 Q) h fun He O Fs Γ2 p q v u H1 H2 G1 G2 Fs2 nd s1 s2 E new o1 o2 w=>?_
 obtain ⟨s,d⟩:=p;obtain ⟨s',d'⟩:=q;dsimp only at w o1 o2
 split at w
 ·rename_i xs k
  cases hc:(!s.isView&&decide (1<=k)&&decide (k<=xs.length)) with
  | false=>rw [hc] at w;exact w.elim
  | true=>
   rw [hc] at w;simp only [Bool.and_eq_true,decide_eq_true_eq,Bool.not_eq_true'] at hc
   obtain ⟨⟨h1,h2⟩,h3⟩:=hc;obtain ⟨d1,d2⟩:=C9 E.nd;have E1:=E.drop (fun a ha=>mem_append_right _ (mem_append_right _ ha)) nd
   have nw:∀a∈Fs2.flatten,a∈Fs.flatten\/H a=none:=fun a ha=>new a (mem_append_right _ (mem_append_right _ ha))
   have r1:=o1.freeze (O':=O++Fs2.flatten) h1 xi d1
   have ru:=o2.rep
   cases ru;refine ⟨k,rfl,?_⟩
   cases r1 with
   | @tup a vs _ hq hl hr=>
    have ek:k=((k.toNat:Nat):Int):=by omega
    refine ⟨a,vs,rfl,gO hid_le hq,fun z=>?_,fun p' hp'=>?_⟩
    ·have z1:=z.1
     rw [ek,HT.sIx_nat] at z1;omega
    ·have ec:jy vs (some k) none=vs.drop k.toNat:=by
      unfold jy;rw [ek,HT.sIx_nat,HT.sIx_none,Int.toNat_natCast,take_of_length_le (by rw [length_drop];omega)]
      rw [Nat.min_eq_left (by omega)]
     rw [ec];exact w _ _ _ _ (yd E1 (s1.trans s2) nw (Reps.drop k.toNat ⟨hl,hr⟩) hp')
 ·exact w.elim
end
theorem qR {K:Fg} {H:Hp} {ws:List V} {ns:List Int} (h:Reps K H ws (ns.map .int)):ws=ns.map V.int:=by
 obtain ⟨hwl,hw⟩:=h;apply List.ext_getElem?
 intro i;by_cases hi:i<ws.length
 ·have hi2:i<ns.length:=by rw [length_map] at hwl;omega
  have q:=hw i (ws[i]'hi) (.int (ns[i]'hi2)) (getElem?_eq_getElem _) (by rw [getElem?_map,getElem?_eq_getElem hi2];rfl)
  rw [getElem?_eq_getElem hi,getElem?_map,getElem?_eq_getElem hi2];generalize ws[i]'hi=u at q
  cases q;rfl
 ·rw [List.getElem?_eq_none (by omega),List.getElem?_eq_none (by rw [length_map] at hwl ⊢;omega)]
def cj (k:Str):List (Str×Int)->Option Int
 | []=>none
 | (x,i)::r=>if k=x then some i else cj k r
def tX (a:Addr) (es:Array DictEntry) (tab:List (Str×Int)):Bool:=!(a==sysModules)&&KTD.rowsLook KTD.flatLooks es.toList (tab.map fun p=>(p.1,.int p.2))
def qr (K:Fg) (mg:Str->Option Value) (x:Str) (tab:List (Str×Int)):Prop:=∃a es ep,mg x=some (.ref a)/\K.lookup a=some ⟨.type "dict",none,.dict es ep,#[]⟩/\tX a es tab=true
def Dt (X:Cx) (x:Str) (tab:List (Str×Int)):Prop:=qr X.K X.mg x tab
theorem yJ {K:Fg} {mg:Str->Option Value} {x:Str} {a:Addr} {es:Array DictEntry} {ep:Nat} {tab:List (Str×Int)} (hm:mg x=some (.ref a)) (l:K.lookup a=some ⟨.type "dict",none,.dict es ep,#[]⟩) (h:tX a es tab=true):qr K mg x tab:=⟨a,es,ep,hm,l,h⟩
def tW (tab:List (Str×Int)):List (Str×KTD.Dat):=(tab.map fun p=>(p.1,PySem.PyData.int p.2)).map fun p=>(p.1,KTD.Dat.flat p.2)
theorem lA {K:Fg} {h:Heap} {a:Addr} {es:Array DictEntry} {ep:Nat} {tab:List (Str×Int)} (hk:K.In h) (l:K.lookup a=some ⟨.type "dict",none,.dict es ep,#[]⟩) (hb:tX a es tab=true):KTD.Here h h a (tW tab):=by
 unfold tX at hb;simp only [Bool.and_eq_true,Bool.not_eq_true'] at hb
 refine ⟨KTD.TabOf.text ⟨hb.1,_,es,ep,hk a _ l,⟨rfl,rfl,rfl⟩,rfl,KTD.rows_of_look (fun d v z=>KTD.flat_of_looks z) hb.2⟩,fun b o z=>z⟩
theorem IR (k:Str):∀tab:List (Str×Int),KTD.datumAt k (tW tab)=(cj k tab).map fun i=>KTD.Dat.flat (.int i)
 | []=>rfl
 | (x,i)::r=>by
  have ih:=IR k r
  unfold tW at ih ⊢
  simp only [map_cons,KTD.datumAt,cj]
  by_cases e:k=x
  ·simp [e]
  ·simp [e]
   simpa using ih
theorem mE {h:Heap} {k:Str} {P:Value->Prop} {i:Int} (hp:∀t,P (.int i t)):∀tab:List (Str×Int),cj k tab=some i->KTD.EachL h k P (tW tab)
 | [],_=>trivial
 | [(x,j)],e=>fun hx=>by
  simp only [cj,hx,if_true,Option.some.injEq] at e
  subst e;exact hp
 | (x,j)::q::r,e=>by
  show (if decide (k=x)=true then KTD.Opened h P (.flat (.int j)) else KTD.EachL h k P (tW (q::r)))
  by_cases hx:k=x
  ·rw [if_pos (decide_eq_true hx)]
   rw [cj,if_pos hx] at e
   cases e;exact hp
  ·rw [if_neg (by simp [hx])]
   rw [cj,if_neg hx] at e;exact mE hp (q::r) e
def vD (neg:Bool) (tab:List (Str×Int)) (fa:F1):F1:=bg fa fun p Γ=>match p.d with
 | .str k=>.ok ⟨.leaf,.bool (if neg then !(cj k tab).isSome else (cj k tab).isSome)⟩ Γ
 | _=>.no
def qi (tab:List (Str×Int)) (fa:F1):F1:=bg fa fun p Γ=>match p.d with
 | .str k=>(match cj k tab with
  | some i=>.ok ⟨.leaf,.int i⟩ Γ
  | none=>.no)
 | _=>.no
section
variable {K:Fg} {W:XW} {σ:St} {H:Hp} {Q:VK} {fa:F1}
theorem Bj {neg:Bool} {tab:List (Str×Int)} (h:tE K W (vD neg tab fa) σ H Q):tE K W fa σ H fun x H1=>∃k,x=.str k/\Q (.bl (if neg then !(cj k tab).isSome else (cj k tab).isSome)) H1:=by
 refine wN h fun He O Fs Γ1 p v H1 G Fs1 nd A w=>?_
 obtain ⟨s,d⟩:=p;have r:=A.own.rep
 cases r with
 | str k=>exact ⟨k,rfl,Wants.scal w (.bl _) A.same A.env (fun a ha=>mem_append_right _ ha) nd A.newF⟩
 | _=>exact w.elim
theorem xG {tab:List (Str×Int)} (h:tE K W (qi tab fa) σ H Q):tE K W fa σ H fun x H1=>∃k i,x=.str k/\cj k tab=some i/\Q (.int i) H1:=by
 refine wN h fun He O Fs Γ1 p v H1 G Fs1 nd A w=>?_
 obtain ⟨s,d⟩:=p;have r:=A.own.rep
 cases r with
 | str k=>
  have w:Wants K W He O Fs H σ Q (match cj k tab with | some i=>.ok ⟨.leaf,.int i⟩ Γ1 | none=>.no):=w
  cases e:cj k tab with
  | none=>rw [e] at w;exact w.elim
  | some i=>
   rw [e] at w;exact ⟨k,i,rfl,e,Wants.scal w (.int _) A.same A.env (fun a ha=>mem_append_right _ ha) nd A.newF⟩
 | _=>exact w.elim
end
section
variable {X:Cx} {N gl:List Str} {vs cs ls lo gs:List Nat} {W:XW} {a b c e:Expr} {es:List Expr} {pos p:Pos} {fa fb fc:F1} {fl:FL} {g:FS}
theorem BY {x:Str} {tab:List (Str×Int)} (S:Cp X N gl vs cs ls lo gs) (j:Nat) (hj:gl[j]?=some x) (hg:gs.contains j=true) (Tb:Dt X x tab) (ha:PE X a (tE X.K W fa)):PC X .In a (.Name x p) (tE X.K W (vD false tab fa)):=by
 intro pins s σ H Q I h;obtain ⟨d,es,ep,hm,l,hb⟩:=Tb;refine bH (ha pins s σ H _ I (Bj h)) fun v s1 ⟨y,H1,I1,r1,k,ey,q⟩=>?_
 subst ey;obtain ⟨t,rfl⟩:=r1;refine Ah I1 (S.g hj hg).1 hm ?_ (S.g hj hg).2.1
 refine KTD.in_text (lA I1.kIn l hb) ?_
 refine ⟨.bl _,H1,I1.tok _,?_,q⟩
 rw [<-KTD.isSome_datumAt,IR,Option.isSome_map];rfl
end
def LJ (i:Nat) (q:PV) (Γ:Ev):Out PV:=match Γ[i]?,q.d with
 | some (some ⟨.lst .leaf,.list ds⟩),.int k=>(match fh ds.length k with
  | some j=>(match ds[j]? with
   | some d=>.ok ⟨.leaf,d⟩ Γ
   | none=>.no)
  | none=>.no)
 | _,_=>.no
section
variable {K:Fg} {W:XW} {σ:St} {H:Hp} {Q:VK} {D:dI} {fa fb:F1} {fl:FL}
def ot (p:PV):Bool:=match p with
 | ⟨.lst .leaf,.list ds⟩=>ds.all bu
 | _=>false
def zZ (n:Nat) (den:List PySem.PyData->Res) (fl:FL):F1:=fun Γ=>(fl Γ).bind fun ps Γ'=>if ps.length=n then (match den (ps.map (·.d)) with
 | .ok p=>if ot p then .ok p Γ' else .no
 | _=>.no) else .no
theorem uB {n:Nat} {den:List PySem.PyData->Res} {E:XK} (h:tE K W (zZ n den fl) σ H Q):t9 (o8 K n den) [] E (tA K W fl) σ H Q:=by
 obtain ⟨He,O,Fs,Γ,E0,h⟩:=h;refine ⟨He,O,Fs,Γ,E0,?_⟩
 unfold zZ at h
 cases e:fl Γ with
 | er c Γ'=>rw [e] at h;exact h
 | no=>rw [e] at h;exact h
 | ok ps Γ1=>
  rw [e] at h;intro vs H1 Gs Fs1 A;have h:Wants K W He O Fs H σ Q (if ps.length=n then (match den (ps.map (·.d)) with | .ok p=>if ot p then .ok p Γ1 else .no | _=>.no) else .no):=h
  by_cases hn:ps.length=n
  case neg=>rw [if_neg hn] at h;exact h.elim
  rw [if_pos hn] at h;have hl:(vs++[]).length=n:=by rw [append_nil,A.len1];exact hn
  cases ed:den (ps.map (·.d)) with
  | er c=>rw [ed] at h;exact h.elim
  | no=>rw [ed] at h;exact h.elim
  | ok p=>
   rw [ed] at h;have h:Wants K W He O Fs H σ Q (if ot p then .ok p Γ1 else .no):=h
   have newF:∀a∈Fs1.flatten,a∈Fs.flatten\/H a=none:=fun a ha=>A.new a (mem_append_right _ ha)
   cases hc:ot p with
   | false=>rw [hc] at h;exact h.elim
   | true=>
    rw [hc] at h;have h:Wants K W He O Fs H σ Q (.ok p Γ1):=h
    refine ⟨hl,[],ps.map (·.d),nodup_nil,(fun _ z=>nomatch z),by rw [append_nil,D5];exact A.reps,?_⟩
    rw [ed];intro v H2 G r;unfold ot at hc;split at hc
    ·rename_i ds
     obtain ⟨l,us,rfl,rfl,hp,hul,hr⟩:=r.own.leaves;refine h (.ref l) H2 [l] Fs1 ⟨A.same.trans r.same,A.env.dropL.hide r.same r.nd r.fresh r.inH,fun a ha=>?_,Own.mkLeaves hp hul fun j u d e1 e2=>((hr j u d e1 e2).sc (List.all_eq_true.mp hc d (mem_of_getElem? e2))).rep⟩
     rcases List.mem_append.mp ha with z | z
     ·exact .inr (A.same.free (r.fresh a z))
     ·exact newF a z
    ·cases hc
def vX (i:Nat) (a:Int) (p:PV) (Γ:Ev):eu:=match p.d with
 | .int b=>if i<Γ.length then .nx (Γ.set i (some ⟨.leaf,.int (a+b)⟩)) else .no
 | _=>.no
def iy (i:Nat) (f:F1):FS:=fun Γ=>match Γ[i]? with
 | some (some ⟨.leaf,.int a⟩)=>gE f (vX i a) Γ
 | _=>.no
theorem Bt {i:Nat} (h:tS K W (iy i fa) D σ H):EN i (tE K W fa) (K9 fun i j=>i+j) D σ H:=by
 obtain ⟨He,O,Fs,Γ,E,h⟩:=h;unfold iy at h;split at h
 ·rename_i a e0
  obtain ⟨_,v,F,h1,h2,h3⟩:=E.slot i _ e0;have r:=h3.rep
  cases r;refine ⟨.int a,h1,?_⟩
  refine gB (D:=D) (k:=vX i a) ⟨He,O,Fs,Γ,E,h⟩ fun He O Fs Γ1 p u H1 G Fs1 _ fr A w=>?_
  unfold vX at w;split at w
  ·rename_i b eb
   have r:=A.own.rep
   rw [eb] at r
   cases r;by_cases hi:i<Γ1.length
   ·rw [if_pos hi] at w
    exact ⟨a,b,rfl,rfl,w _ _ _ (EnvOk.put (G:=[]) (p:=⟨.leaf,.int (a+b)⟩) (v:=.int (a+b)) A.go (.leaf (.int _)) rfl (fun a ha=>by simp at ha) hi)⟩
   ·rw [if_neg hi] at w;exact w.elim
  ·exact w.elim
 ·exact h.elim
def FR (i:Nat) (p:PV) (Γ:Ev):eu:=match Γ[i]?,p.d with
 | some (some ⟨.lst .leaf,.list ds⟩),.tuple es=>if cR p es&&decide (ds.length+es.length<=sizeLine) then .nx (Γ.set i (some ⟨.lst .leaf,.list (ds++es)⟩)) else .no
 | some (some ⟨.lst .leaf,.list ds⟩),.list es=>if cR p es&&decide (ds.length+es.length<=sizeLine) then .nx (Γ.set i (some ⟨.lst .leaf,.list (ds++es)⟩)) else .no
 | _,_=>.no
def uj (i:Nat) (f:F1):FS:=fun Γ=>if Ag Γ[i]? then gE f (FR i) Γ else .no
def BE (K:Fg):V->List V->Hp->VK->Prop:=fun x vs H Q=>∃l b xs zs,x=.ref l/\vs=[.ref b]/\H l=some (.lst xs)/\(SqL K H b zs\/SqT K H b zs)/\xs.length+zs.length<=sizeLine/\Q .non (cg H l (.lst (xs++zs)))
theorem Br {i:Nat} (h:tS K W (uj i fa) D σ H):o6 (AQ K "list" (BE K) (fA i) (tA K W (ae fa ag))) D σ H:=by
 obtain ⟨He,O,Fs,Γ,E,h⟩:=h;unfold uj at h
 cases ho:Ag Γ[i]? with
 | false=>rw [ho] at h;exact h.elim
 | true=>
  rw [ho] at h;obtain ⟨ds,e0⟩:=iH ho;obtain ⟨l,vs,h1,h2,h3,_,_⟩:=E.chgF e0;refine ⟨.ref l,h1,.inl ⟨rfl,vs,.of h2⟩,IB (gB (D:=D) ⟨He,O,Fs,Γ,E,h⟩ fun He O Fs Γ1 p v H1 G Fs1 _ fr A w=>?_)⟩
  obtain ⟨s,d⟩:=p;have fin:∀(ds1 es:List PySem.PyData) (b:Addr) (ws:List V),Γ1[i]?=some (some ⟨.lst .leaf,.list ds1⟩)->v=.ref b->(SqL K H1 b ws\/SqT K H1 b ws)->Reps K (cI H1 (O++Fs1.flatten)) ws es->ds1.length+es.length<=sizeLine ->
    j9 K W He O D (.nx (Γ1.set i (some ⟨.lst .leaf,.list (ds1++es)⟩)))->BE K (.ref l) [v] H1 (fun _ H2=>D.nx σ H2):=fun ds1 es b ws e1 hv hq hr hz w=>by
   obtain ⟨l1,vs1,q1,q2,q3,q4,q5⟩:=A.go.chgF e1;rw [h1] at q1
   cases q1;subst hv;refine ⟨l,b,vs1,ws,rfl,rfl,q2,hq,by rw [q3,hr.1];exact hz,w σ _ _ (q5 (vs1++ws) (ds1++es) (by rw [length_append,length_append,q3,hr.1]) ?_)⟩
   exact (Reps.app ⟨q3,q4⟩ hr).2
  unfold FR at w;split at w
  ·rename_i ds1 es e1 e2
   dsimp only at e2;subst e2
   cases hc:(cR ⟨s,.tuple es⟩ es&&decide (ds1.length+es.length<=sizeLine)) with
   | false=>rw [hc] at w;exact w.elim
   | true=>
    rw [hc] at w;simp only [Bool.and_eq_true,decide_eq_true_eq] at hc
    obtain ⟨b,ws,rfl,hq,_,hr⟩:=A.own.itemsT (O':=O++Fs1.flatten) hc.1 gQ A.disj
    exact fin ds1 es b ws e1 rfl (.inr hq) hr hc.2 w
  ·rename_i ds1 es e1 e2
   dsimp only at e2;subst e2
   cases hc:(cR ⟨s,.list es⟩ es&&decide (ds1.length+es.length<=sizeLine)) with
   | false=>rw [hc] at w;exact w.elim
   | true=>
    rw [hc] at w;simp only [Bool.and_eq_true,decide_eq_true_eq] at hc
    obtain ⟨b,ws,rfl,hq,_,hr⟩:=A.own.items (O':=O++Fs1.flatten) hc.1 gQ A.disj
    exact fin ds1 es b ws e1 rfl (.inl hq) hr hc.2 w
  ·exact w.elim
end
theorem Ke {l b:Addr} {xs ys:Array Value} {n m:Nat} {d2:Option Addr} {s2:Array (Option Value)} (h0:¬(!xs.isEmpty&&Builtin.List.listTooLong (xs.size+ys.size))=true) (h1:xs.size<=sizeLine) (h2:(xs++ys).size<=sizeLine+1) :
  Meets (Builtin.«list.extend» ⟨[.ref l,.ref b],[]⟩) (fun _ R s=>s.heap.get? l=some ⟨.type "list",none,.seq xs n,#[]⟩/\s.heap.get? b=some ⟨.type "tuple",d2,.seq ys m,s2⟩ /\
   R (.ok (.ret Value.none)) { s with heap:=s.heap.update l (Obj.mapSeq fun x=>x++ys),toks:=s.toks }):=
 .of_wp fun prog w A R s h=>by
  obtain ⟨hp,g,d,tk,os⟩:=s;obtain ⟨hl,hb,h⟩:=h;have f1:=AutoSeq1.idx_int
  have f2:=AutoSeq1.sub_tuple_tuple
  have f3:=AutoSeq1.sub_list_list
  have f4:=AutoSeq1.sub_tuple_list
  have f5:=AutoSeq1.sub_list_tuple
  wp_walk using (wpAny_updateSeq hl rfl (hz:=h1) (_hz':=h2)),AutoSeq1.wpAny_loadPart' hl,AutoSeq1.wpAny_loadPart' hb
  exact ⟨_,rfl,h⟩
theorem Kf {l b:Addr} {xs ys:Array Value} {n m:Nat} {d2:Option Addr} {s2:Array (Option Value)} (h0:¬(!xs.isEmpty&&Builtin.List.listTooLong (xs.size+ys.size))=true) (h1:xs.size<=sizeLine) (h2:(xs++ys).size<=sizeLine+1) :
  Meets (Builtin.«list.extend» ⟨[.ref l,.ref b],[]⟩) (fun _ R s=>s.heap.get? l=some ⟨.type "list",none,.seq xs n,#[]⟩/\s.heap.get? b=some ⟨.type "list",d2,.seq ys m,s2⟩ /\
   R (.ok (.ret Value.none)) { s with heap:=s.heap.update l (Obj.mapSeq fun x=>x++ys),toks:=s.toks }):=
 .of_wp fun prog w A R s h=>by
  obtain ⟨hp,g,d,tk,os⟩:=s;obtain ⟨hl,hb,h⟩:=h;have f1:=AutoSeq1.idx_int
  have f2:=AutoSeq1.sub_tuple_tuple
  have f3:=AutoSeq1.sub_list_list
  have f4:=AutoSeq1.sub_tuple_list
  have f5:=AutoSeq1.sub_list_tuple
  wp_walk using (wpAny_updateSeq hl rfl (hz:=h1) (_hz':=h2)),AutoSeq1.wpAny_loadPart' hl,AutoSeq1.wpAny_loadPart' hb
  exact ⟨_,rfl,h⟩
theorem Cd {X:Cx}:Ku X "list.extend" (BE X.K):=by
 intro pins s σ H x vs v us Q I rx rv h;obtain ⟨l,b,xs,zs,rfl,rfl,hH,hB,hz,q⟩:=h
 cases rx;obtain ⟨u,rfl,ru⟩:=rv.one
 cases ru;obtain ⟨z,its,n,r,hl,e⟩:=I.lstM hH;have fin:∀its2:List Value,Vals zs its2->its.toArray.size+its2.toArray.size<=sizeLine/\(its.toArray++its2.toArray).size<=sizeLine+1/\its.toArray.size<=sizeLine/\¬(!its.toArray.isEmpty&&Builtin.List.listTooLong (its.toArray.size+its2.toArray.size))=true /\
   EP X pins σ Q Value.none { s with heap:=s.heap.update l (Obj.mapSeq fun x=>x++its2.toArray),toks:=s.toks }:=fun its2 r2=>by
  have h1:its.toArray.size+its2.toArray.size<=sizeLine:=by rw [size_toArray,size_toArray,<-r.length,<-r2.length];exact hz
  refine ⟨h1,by rw [Array.size_append];omega,by omega,?_,?_⟩
  ·rw [uZ h1,Bool.and_false]
   exact Bool.false_ne_true
  ·exact ⟨.non,_,I.lset (its':=its++its2) hH e (by simp) (r.append r2) (by rw [length_append];exact hz),rfl,q⟩
 rcases hB with hB | hB
 ·obtain ⟨its2,r2,⟨⟨c2,d2,dat2,s2⟩,n2,e2,ec,ed,es⟩,_⟩:=I.list hB
  simp only at ec es
  subst ec es;obtain ⟨f1,f2,f3,f4,f5⟩:=fin its2 r2;exact call_meets F.slot_list_extend ⟨_,e,rfl⟩ F.entry_list_extend (F.args_list_extend_2 _ _) (Kf f4 f3 f2) ⟨e,e2,f5⟩
 ·obtain ⟨its2,r2,⟨⟨c2,d2,dat2,s2⟩,e2,ec,n2,es⟩,_⟩:=I.tuple hB
  simp only at ec es
  subst ec es;obtain ⟨f1,f2,f3,f4,f5⟩:=fin its2 r2;exact call_meets F.slot_list_extend ⟨_,e,rfl⟩ F.entry_list_extend (F.args_list_extend_2 _ _) (Ke f4 f3 f2) ⟨e,e2,f5⟩
section
variable {X:Cx} {N gl:List Str} {vs cs ls lo gs:List Nat} {W:XW} {a b c e:Expr} {es:List Expr} {pos p:Pos} {fa fb fc:F1} {fl:FL} {g:FS}
theorem cs_extend (S:Cp X N gl vs cs ls lo gs) (i:Nat) {x:Str} {apos cpos:Pos} (hi:N[i]?=some x) (hv:vs.contains i=true) (ha:PE X a (tE X.K W fa)) (hs:starEach [a] X.env=[(false,eval a X.env)])
  (hbase:attributeBase (.Name x p) "extend" X.env (eval (.Name x p) X.env)=eval (.Name x p) X.env) (hline:(apos.endLine==cpos.line)=true)
  (hfew:((backTo cpos (starEach [a] X.env)).all (fun x=>!x.1)&&(backToKw cpos (keywordEach [] X.env)).all (fun x=>x.1.isSome)
   && decide ([a].length+([]:List Keyword).length+(if ([]:List Keyword).isEmpty then 0 else 1)<30))=true)
  (hsw:swapsWith (.Call (.Attribute (.Name x p) "extend" apos) [a] [] cpos) none pos.line X.env=pure false) :
  PS X (.Expr (.Call (.Attribute (.Name x p) "extend" apos) [a] [] cpos) pos) (tS X.K W (uj i fa)):=by
 have m:=S.nm x (mem_of_getElem? hi)
 exact cw (Iq (jI PySem.F.plainAttrs_list PySem.F.slot_list_extend PySem.F.type_list_extend Cd (qw (by rw [S.hN];exact hi) (S.vis i x hi hv) m.1 m.2) (da_cons ha da_nil hs) hbase hfew hline hs rfl) hsw) fun _ _ _=>Br
theorem FQ {P:Program} {w:World} {K:Fg} {mg:Str->Option Value} {base:Heap} {k:Nat} {f:Addr} {fd:FuncData} {ps:List Str}:du P w K mg base j8 k f fd ps (o8 K ps.length fun _=>.no):=
 ⟨fun vs H Q E h=>h.1,fun A outer s H args us vs Q E hr he hb hv h=>by
  obtain ⟨_,_,_,_,_,_,w⟩:=h;exact w.elim⟩
end
end T
namespace TQ
open PySem PySem.Spec L2 T
open PyProof.Rows hiding St
section
variable {X:Cx} {N gl:List Str} {vs cs ls lo gs:List Nat} {W:XW} {a b c e:Expr} {es:List Expr} {pos p:Pos} {fa fb fc:F1} {fl:FL} {ga gb:FB} {g1 g2 g:FS}
theorem lb (ha:Q (PE X a (tE X.K W fa))) (hb:Q (PE X b (tE X.K W fb))):Q (PE X (.BinOp a .Add b pos) (tE X.K W (bJ fa fb))):=⟨have ha:=ha.p;have hb:=hb.p;aX (fR Il ha hb) fun _ _ _=>uz⟩
theorem tJ {p2:Pos} (ha:Q (PE X a (tE X.K W fa))) (hb:Q (PE X b (tE X.K W fb))):Q (PE X (.Subscript a (.Slice (some b) none none p2) pos) (tE X.K W (yw fa fb))):=⟨have ha:=ha.p;have hb:=hb.p;aX (Hb AR ha (D7 hb) Ip) fun _ _ _=>Bc⟩
theorem ig {x:Str} {tab:List (Str×Int)} (S:Cp X N gl vs cs ls lo gs) (j:Nat) (hj:gl[j]?=some x) (hg:gs.contains j=true) (Tb:Dt X x tab) (ha:Q (PE X a (tE X.K W fa))):Q (PE X (.Compare a [.In] [.Name x p] pos) (tE X.K W (vD false tab fa))):=⟨have ha:=ha.p;BV (BY S j hj hg Tb ha) rfl⟩
theorem qG {x:Str} {tab:List (Str×Int)} (S:Cp X N gl vs cs ls lo gs) (j:Nat) (hj:gl[j]?=some x) (hg:gs.contains j=true) (Tb:Dt X x tab) (ha:Q (PE X a (tE X.K W fa))) (hs:GP a):Q (PE X (.Subscript (.Name x p) a pos) (tE X.K W (qi tab fa))):=⟨by
 have ha:=ha.p
 intro pins s σ H Q I h;obtain ⟨d,es,ep,hm,l,hb⟩:=Tb;refine Subscript_ (Ah I (S.g hj hg).1 hm ?_ (S.g hj hg).2.1)
 refine bH (ha pins s σ H _ I (xG h)) fun v s1 ⟨y,H1,I1,r1,k,i,ey,e,q⟩=>?_
 subst ey;obtain ⟨t,rfl⟩:=r1;refine KTD.item_text (lA I1.kIn l hb) ?_ (mE (fun t'=>⟨.int i,H1,I1.tok _,⟨_,rfl⟩,q⟩) tab e) (hs _ _)
 rw [<-KTD.isSome_datumAt,IR,e];rfl⟩
theorem AC {x:Str} {n:Nat} {den:List PySem.PyData->Res} (S:Cp X N gl vs cs ls lo gs) (j:Nat) (hj:gl[j]?=some x) (hg:gs.contains j=true) (C:DP X x n den) (ha:Q (PA X (e::es) (tA X.K W fl))) (he:starEach (e::es) X.env=(false,eval e X.env)::starEach es X.env) (hpl:(backTo pos (starEach es X.env)).any (·.1)=false):Q (PE X (.Call (.Name x p) (e::es) [] pos) (tE X.K W (zZ n den fl))):=⟨by
 have ha:=ha.p
 obtain ⟨k,f,fd,ps,F,hr,hm,hk,hb⟩:=C;exact aX (pR F hr (S.g hj hg).1 hm hk hb .nil zH ha (S.g hj hg).2.1 he hpl) fun _ _ _=>uB⟩
theorem lu (S:Cp X N gl vs cs ls lo gs) (i:Nat) {x:Str} {pos':Pos} (hi:N[i]?=some x) (hl:ls.contains i=true) (ha:Q (PE X a (tE X.K W fa))):Q (PS X (.AugAssign (.Name x pos') .Add a pos) (tS X.K W (iy i fa))):=⟨have ha:=ha.p;cw (BL (by rw [S.hN];exact S.nd) (by rw [S.hN];exact hi) (S.loc i x hi hl).1 ha CB (S.loc i x hi hl).2) fun _ _ _=>Bt⟩
theorem lq (S:Cp X N gl vs cs ls lo gs) (i:Nat) {x:Str} {apos cpos:Pos} (hi:N[i]?=some x) (hv:vs.contains i=true) (ha:Q (PE X a (tE X.K W fa))) (hs:starEach [a] X.env=[(false,eval a X.env)]) (hbase:attributeBase (.Name x p) "extend" X.env (eval (.Name x p) X.env)=eval (.Name x p) X.env) (hline:(apos.endLine==cpos.line)=true) (hfew:((backTo cpos (starEach [a] X.env)).all (fun x=>!x.1)&&(backToKw cpos (keywordEach [] X.env)).all (fun x=>x.1.isSome)
   && decide ([a].length+([]:List Keyword).length+(if ([]:List Keyword).isEmpty then 0 else 1)<30))=true) (hsw:swapsWith (.Call (.Attribute (.Name x p) "extend" apos) [a] [] cpos) none pos.line X.env=pure false):Q (PS X (.Expr (.Call (.Attribute (.Name x p) "extend" apos) [a] [] cpos) pos) (tS X.K W (uj i fa))):=⟨T.cs_extend S i hi hv ha.p hs hbase hline hfew hsw⟩
theorem Jd {tg:Expr} (ha:Q (PE X a (tE X.K W fa))):Q (PI X tg a (tI X.K W (eI fa))):=⟨have ha:=ha.p;m6 (BM ha) fun _ _ _=>xE⟩
end
end TQ
namespace T
open PySem PySem.Spec L2
open PyProof.Rows hiding St
def HZ (x:Str):It where
 go:=fun i _=>i<x.cps.size
 yld:=fun i H v H'=>H'=H/\∃c,x.cps[i]?=some c/\v=.str ⟨#[c]⟩
 stop:=fun i _=>x.cps.size<=i
theorem qI {P:Program} {w:World} {K:Fg} {tg:Expr} (it:Addr) (x:Str) (t:Tok):we P w K tg (HZ x) [it] it (fun i h=>h.IsStrIter it "str_ascii_iterator" x t i) where
 mem:=by simp
 obj:=fun i h st b hb=>by
  have e:b=it:=by simpa using hb
  subst e;obtain ⟨o,ho,hc,hd⟩:=st;exact ⟨o,ho,fun v z=>by rw [hd] at z;cases z⟩
 keep:=fun i h h' st k=>let ⟨o,ho,r⟩:=st;⟨o,k it (by simp) o ho,r⟩
 item:=by
  intro X hP hw hK hc i pins s σ H E I hf st hg;subst hP hw hK;obtain ⟨f0,f1,f2,f3,f4,f5⟩:=hf it (by simp)
  have W:=Walks.strAscii (prog:=X.prog) (w:=X.w) (I.ok.hd hc) it x t
  refine W.item i s _ _ hg st fun v h' tk hv st' kk=>?_
  obtain ⟨c,u,hx,rfl⟩:=hv;have I1:Inv X pins σ H { s with heap:=h',toks:=tk }:=I.turned (fun b o hb e=>kk b o (by simpa using hb) e) f0 f1 f3 f4 f5
  obtain ⟨o,ho,oc,od⟩:=id st'
  exact ⟨_,rfl,qa (s:={ s with heap:=h',toks:=tk }) (n := "str_ascii_iterator") ho oc od (by decide) ⟨.str ⟨#[c]⟩,H,I1,⟨u,rfl⟩,⟨rfl,c,hx,rfl⟩,st',fun b hb=>(hf b hb).1⟩⟩
 done:=by
  intro X hP hw hK hc i pins s σ H E I hf st hg;subst hP hw hK;obtain ⟨f0,f1,f2,f3,f4,f5⟩:=hf it (by simp)
  exact wpAny_pyNext_ascii_end (I.ok.hd hc) st (by have:x.cps.size<=i:=hg;simp;omega) fun h' eb=>⟨rfl,I.turned (t':=s.toks) (fun b o hb e=>eb b o hb e) f0 f1 f3 f4 f5⟩
 self:=fun _ _ _ _ _ st h=>wpAny_pyIter_striter_ascii st h
def vp (x:Str):TI:=fun σ H R=>R (HZ x) H
theorem xS {X:Cx} {tg:Expr} {x:Str} {j:Nat} {pos:Pos} (ha:x.cps.all (·<128)=true):PI X tg (.Constant (.str x) j pos) (vp x):=by
 intro pins s σ H R I h;refine Calls.Constant_str ?_
 refine wpAny_pyIter_ascii ha ?_
 have I1:=I.tok (s.toks+1)
 refine ⟨s.heap.objs.size,[s.heap.objs.size],_,_,H,rfl,I1.kept (t':=s.toks+1) fun b o e=>Heap.get?_push_of_some _ e,qI _ x _,⟨_,Heap.get?_push_size _ rfl,rfl,rfl⟩,fun b hb=>?_,h⟩
 have e:b=s.heap.objs.size:=by simpa using hb
 subst e;exact I1.fpOk (Nat.le_refl _) (I1.hok.fresh (Nat.le_refl _))
def zS (x:Str):List V:=x.cps.toList.map fun c=>.str ⟨#[c]⟩
def F6 (x:Str):List PySem.PyData:=x.cps.toList.map fun c=>.str ⟨#[c]⟩
theorem yg {x:Str}:wm (HZ x) (fun _=>True) (zS x):=by
 refine ⟨fun i H v _ hv=>?_,fun H _=>?_⟩
 ·unfold zS at hv
  rw [getElem?_map,Array.getElem?_toList] at hv
  cases e:x.cps[i]? with
  | none=>rw [e] at hv;cases hv
  | some c=>
   rw [e] at hv
   cases hv;refine ⟨(Array.getElem?_eq_some_iff.mp e).1,fun y H' ⟨h1,c',h2,h3⟩=>⟨h1,?_⟩⟩
   rw [e] at h2
   cases h2;exact h3
 ·show x.cps.size<=(zS x).length
  unfold zS;rw [length_map,Array.length_toList];exact Nat.le_refl _
theorem xv {K:Fg} {H:Hp} {x:Str}:Reps K H (zS x) (F6 x):=by
 refine ⟨by simp [zS,F6],fun i v d h1 h2=>?_⟩
 unfold zS at h1;unfold F6 at h2;rw [getElem?_map] at h1 h2
 cases e:x.cps.toList[i]? with
 | none=>rw [e] at h1;cases h1
 | some c=>
  rw [e] at h1 h2
  cases h1
  cases h2;exact .str _
def iJ (x:Str):FI:=fun Γ=>.ok ⟨F6 x,true⟩ Γ
theorem ux {K:Fg} {W:XW} {σ:St} {H:Hp} {R:It->Hp->Prop} {x:Str} (h:tI K W (iJ x) σ H R):vp x σ H R:=by
 obtain ⟨He,O,Fs,Γ,E,h⟩:=h;exact h (HZ x) H Fs (zS x) (fun _=>True) (Same.refl _) E (fun a ha=>.inl ha) yg trivial (fun _ _=>trivial) (fun _ _ _=>trivial) xv
def pJ:V->List V->Hp->VK->Prop:=fun x xs H Q=>∃(i j:Str) (k:Nat) (rest:List Nat),x=.str i/\xs=[.str j]/\Builtin.Str.occurrences i j 0 i.length 1=k::rest/\Q (.int k) H
theorem rC {X:Cx}:DO X "str.index" pJ:=by
 intro pins s σ H x xs v us Q I rx rv h;obtain ⟨i,j,k,rest,rfl,rfl,ho,q⟩:=h;obtain ⟨t,rfl⟩:=rx;obtain ⟨u,rfl,ru⟩:=rv.one;obtain ⟨t',rfl⟩:=ru;exact SC.index ho ⟨.int k,H,I.tok _,⟨_,rfl⟩,q⟩
def fY (x:Str):List PySem.PyData->Option PySem.PyData
 | [.str j]=>match Builtin.Str.occurrences x j 0 x.length 1 with
  | k::_=>some (.int k)
  | []=>none
 | _=>none
theorem yq {K:Fg} {x:Str}:GCall K (fun xs H Q=>pJ (.str x) xs H Q) (fY x):=by
 intro vs H Q ds d rs e k;unfold fY at e;split at e
 ·rename_i j
  obtain ⟨v,rfl,r⟩:=rs.one
  cases r;split at e
  ·rename_i k' rest ho
   cases e;exact ⟨x,j,k',rest,rfl,rfl,ho,k _ (.int _)⟩
  ·cases e
 ·cases e
theorem xD {K:Fg} {W:XW} {σ:St} {H:Hp} {Q:VK} {x:Str} {fl:FL} (h:tE K W (bw (fY x) fl) σ H Q):AQ K "str" pJ (tC (.str x)) (tA K W fl) σ H Q:=
 ⟨rfl,uy yq h⟩
theorem ce_idxS {X:Cx} {W:XW} {x:Str} {j:Nat} {p apos cpos:Pos} {e:Expr} {fe:F1} (ha:PE X e (tE X.K W fe)) (hs:starEach [e] X.env=[(false,eval e X.env)]) (hline:(apos.endLine==cpos.line)=true) :
  PE X (.Call (.Attribute (.Constant (.str x) j p) "index" apos) [e] [] cpos) (tE X.K W (bw (fY x) (ae fe ag))):=
 aX (jI (T := "str") (r:=pJ) F.plainAttrs_str F.slot_str_index F.type_str_index rC uR (da_cons ha da_nil hs) rfl (by rw [hs];rfl) hline hs rfl) fun _ _ _=>xD
end T
namespace TQ
open PySem PySem.Spec L2 T
open PyProof.Rows hiding St
theorem qB {X:Cx} {W:XW} {tg:Expr} {x:Str} {j:Nat} {pos:Pos} (ha:x.cps.all (·<128)=true):Q (PI X tg (.Constant (.str x) j pos) (tI X.K W (iJ x))):=⟨m6 (xS ha) fun _ _ _=>ux⟩
theorem qF {X:Cx} {W:XW} {x:Str} {j:Nat} {p apos cpos:Pos} {e:Expr} {fe:F1} (ha:Q (PE X e (tE X.K W fe))) (hs:starEach [e] X.env=[(false,eval e X.env)]) (hline:(apos.endLine==cpos.line)=true) :
  Q (PE X (.Call (.Attribute (.Constant (.str x) j p) "index" apos) [e] [] cpos) (tE X.K W (bw (fY x) (ae fe ag)))):=⟨T.ce_idxS ha.p hs hline⟩
end TQ
namespace T
open PySem PySem.Spec L2
open PyProof.Rows hiding St
def putN:List Nat->List PV->Ev->Option Ev
 | [],[],Γ=>some Γ
 | i::is,p::ps,Γ=>if decide (i<Γ.length)&&!p.s.isView then putN is ps (Γ.set i (some p)) else none
 | _,_,_=>none
def xm:List Nat->List V->St->St
 | i::is,v::vs,σ=>xm is vs (σ.set i (some v))
 | _,_,σ=>σ
def xP:List Sh->List PySem.PyData->List PV
 | s::ss,d::ds=>⟨s,d⟩::xP ss ds
 | _,_=>[]
def AF (p:PV):Option (List PV):=match p.s,p.d with
 | .tup ss,.tuple ds=>some (xP ss ds)
 | .leaf,.tuple ds=>some (ds.map fun d=>⟨.leaf,d⟩)
 | _,_=>none
def gD (is:List Nat) (f:F1):FS:=gE f fun p Γ=>match AF p with
 | some ps=>if ps.length=is.length then (match putN is ps Γ with
  | some Γ'=>.nx Γ'
  | none=>.no) else .no
 | none=>.no
def Iy:List Nat->zU
 | []=>FP
 | i::is=>zQ (gName i) (Iy is)
theorem I0 {H:Hp} {Q:St->Hp->Prop}:∀{is:List Nat} {vs:List V} {σ:St},vs.length=is.length->Q (xm is vs σ) H->Iy is vs σ H Q
 | [],[],_,_,q=>⟨rfl,q⟩
 | i::is,v::vs,σ,hl,q=>⟨v,vs,rfl,I0 (is:=is) (vs:=vs) (by simpa using hl) q⟩
 | [],_::_,_,hl,_=>by simp at hl
 | _::_,[],_,hl,_=>by simp at hl
section
variable {K:Fg} {W:XW} {σ:St} {H:Hp} {D:dI} {fa:F1}
theorem IL {He:Hp} {O:List Addr}:∀{is:List Nat} {ps:List PV} {vs:List V} {Gs:List (List Addr)} {Fs:List (List Addr)} {σ:St} {Γ Γ':Ev},vs.length=ps.length->Gs.length=ps.length->EnvOk K He (Gs.flatten++O) Fs H σ Γ->(∀a∈Gs.flatten,He a=none) ->
  (∀(k:Nat) v p G,vs[k]?=some v->ps[k]?=some p->Gs[k]?=some G->Own K (Gs.flatten++O++Fs.flatten) H p.s G v p.d)->putN is ps Γ=some Γ'->∃Fs',EnvOk K He O Fs' H (xm is vs σ) Γ'
 | [],[],[],[],Fs,σ,Γ,Γ',_,_,E,_,_,h=>by
  cases h;exact ⟨Fs,by simpa [xm] using E⟩
 | i::is,p::ps,v::vs,G::Gs,Fs,σ,Γ,Γ',h1,h2,E,fr,o,h=>by
  unfold putN at h;split at h
  ·rename_i hc
   simp only [Bool.and_eq_true,decide_eq_true_eq,Bool.not_eq_true'] at hc
   obtain ⟨hi,n1⟩:=hc;have fl:(G::Gs).flatten++O=G++(Gs.flatten++O):=by simp [append_assoc]
   rw [fl] at E o
   have E1:=EnvOk.put (i:=i) E (o 0 v p G rfl rfl rfl) n1 (fun a ha=>fr a (by simp [ha])) hi
   refine IL (is:=is) (ps:=ps) (vs:=vs) (Gs:=Gs) (by simpa using h1) (by simpa using h2) E1 (fun a ha=>fr a (mem_append_right G ha)) (fun k v' p' G' a1 a2 a3=>?_) h
   refine (o (k+1) v' p' G' (by simpa using a1) (by simpa using a2) (by simpa using a3)).perm fun a ha=>?_
   rcases List.mem_append.mp ha with z | z
   ·exact mem_append_left _ (mem_append_right _ z)
   ·obtain ⟨F,hF⟩:=E.lt hi
    rcases List.mem_append.mp ((oR (G:=G) hF).mem_iff.mp (mem_append_right _ z)) with y | y
    ·exact mem_append_left _ (mem_append_left _ y)
    ·exact mem_append_right _ y
  ·cases h
 | [],_::_,_,_,_,_,_,_,_,_,_,_,_,h=>by cases h
 | _::_,[],_,_,_,_,_,_,_,_,_,_,_,h=>by cases h
 | [],[],_::_,_,_,_,_,_,h,_,_,_,_,_=>by simp at h
 | [],[],[],_::_,_,_,_,_,_,h,_,_,_,_=>by simp at h
 | _::_,_::_,[],_,_,_,_,_,h,_,_,_,_,_=>by simp at h
 | _::_,_::_,_::_,[],_,_,_,_,_,h,_,_,_,_=>by simp at h
theorem pN:∀{ss:List Sh} {ds:List PySem.PyData},ss.length=ds.length->(xP ss ds).length=ds.length
 | [],[],_=>rfl
 | _::ss,_::ds,h=>by simp only [xP,length_cons];rw [pN (ss:=ss) (ds:=ds) (by simpa using h)]
 | [],_::_,h=>by simp at h
 | _::_,[],h=>by simp at h
theorem uI:∀{ss:List Sh} {ds:List PySem.PyData} {k:Nat} {p:PV},(xP ss ds)[k]?=some p->ss[k]?=some p.s/\ds[k]?=some p.d
 | [],_,k,p,h=>by simp [xP] at h
 | _::_,[],k,p,h=>by simp [xP] at h
 | s::ss,d::ds,0,p,h=>by
  simp only [xP,List.getElem?_cons_zero,Option.some.injEq] at h
  subst h;exact ⟨rfl,rfl⟩
 | s::ss,d::ds,k+1,p,h=>by
  simp only [xP,getElem?_cons_succ] at h ⊢
  exact uI h
theorem Iv {n:Nat}:(List.replicate n ([]:List Addr)).flatten=[]:=by
 induction n with
 | zero=>rfl
 | succ n ih=>rw [List.replicate_succ,flatten_cons,ih];rfl
theorem xw {is:List Nat} (h:tS K W (gD is fa) D σ H):lB (tE K W fa) (FO K is.length (Iy is)) D σ H:=by
 refine gB h fun He O Fs Γ1 p v H1 G Fs1 _ fr A w=>?_
 obtain ⟨s,d⟩:=p;have o:=A.own
 have E:=A.env
 dsimp only at w o
 cases hu:AF ⟨s,d⟩ with
 | none=>rw [hu] at w;exact w.elim
 | some ps=>
  rw [hu] at w;dsimp only at w;by_cases hl:ps.length=is.length
  ·rw [if_pos hl] at w
   cases hp:putN is ps Γ1 with
   | none=>rw [hp] at w;exact w.elim
   | some Γ'=>
    rw [hp] at w
    cases o with
    | view r=>cases hu
    | lst=>cases hu
    | leaf r=>
     cases d with
     | tuple ds=>
      cases hu
      cases r with
      | @tup a vs _ hq hlen hr=>
       obtain ⟨Fs',E'⟩:=IL (is:=is) (vs:=vs) (Gs:=List.replicate ds.length []) (Fs:=Fs1) (by rw [hlen,length_map]) (by rw [List.length_replicate,length_map]) (by rw [Iv];exact E) (by rw [Iv];intro a ha;simp at ha) (fun k v' p' G' a1 a2 a3=>by
        rw [Iv];rw [getElem?_map] at a2
        cases ed:ds[k]? with
        | none=>rw [ed] at a2;cases a2
        | some d'=>
         rw [ed] at a2
         cases a2;have:G'=[]:=List.eq_of_mem_replicate (mem_of_getElem? a3)
         subst this;exact .leaf (hr k v' d' a1 ed)) hp
       exact ⟨a,vs,rfl,gO hid_le hq,by rw [hlen];simpa using hl,I0 (by rw [hlen];simpa using hl) (w _ _ _ E')⟩
     | _=>cases hu
    | @tup ss a vs ds Fs0 hv hpa hn hlen hf hs nd q=>
     cases hu;have pl:=pN hs
     obtain ⟨Fs',E'⟩:=IL (is:=is) (vs:=vs) (Gs:=Fs0) (Fs:=Fs1) (by rw [hlen,pl]) (by rw [hf,pl]) E fr (fun k v' p' G' a1 a2 a3=>by
      obtain ⟨z1,z2⟩:=uI a2;exact q k v' p'.d G' p'.s a1 z2 a3 z1) hp
     have hn2:vs.length=is.length:=by rw [hlen,<-pl];exact hl
     exact ⟨a,vs,rfl,.of hpa,hn2,I0 hn2 (w _ _ _ E')⟩
  ·rw [if_neg hl] at w
   exact w.elim
end
end T
namespace TQ
open PySem PySem.Spec L2 T
open PyProof.Rows hiding St
variable {X:Cx} {N gl:List Str} {vs cs ls lo gs:List Nat} {W:XW} {a:Expr} {pos:Pos} {fa:F1}
end TQ
namespace T
open PySem PySem.Spec L2
open PyProof.Rows hiding St
def cutD (xs:List PySem.PyData) (lo hi:Option Int):List PySem.PyData:=(xs.drop (HT.sIx xs.length 0 lo)).take (HT.sIx xs.length xs.length hi-HT.sIx xs.length 0 lo)
theorem Reps.take {K:Fg} {H:Hp} {vs:List V} {ds:List PySem.PyData} (k:Nat) (h:Reps K H vs ds):Reps K H (vs.take k) (ds.take k):=by
 refine ⟨by rw [length_take,length_take,h.1],fun i v d e1 e2=>?_⟩
 by_cases hi:i<k
 ·rw [getElem?_take,if_pos hi] at e1 e2
  exact h.2 _ v d e1 e2
 ·rw [getElem?_take,if_neg hi] at e1
  cases e1
theorem Reps.cut {K:Fg} {H:Hp} {vs:List V} {ds:List PySem.PyData} (lo hi:Option Int) (h:Reps K H vs ds):Reps K H (jy vs lo hi) (cutD ds lo hi):=by
 unfold jy cutD;rw [h.1];exact (h.drop _).take _
def bI (g:Int->Option Int×Option Int) (fa fb:F1):F1:=bg fa fun p=>bg fb fun q=>fun Γ=>match p.d,q.d with
 | .list xs,.int k=>if cR p xs then .ok ⟨.lst .leaf,.list (cutD xs (g k).1 (g k).2)⟩ Γ else .no
 | _,_=>.no
section
variable {K:Fg} {W:XW} {σ:St} {H:Hp} {Q:VK} {fa fb:F1}
theorem IA {g:Int->Option Int×Option Int} (h:tE K W (bI g fa fb) σ H Q):tE K W fa σ H fun v H1=>tE K W fb σ H1 fun u H2=>∃k,u=.int k/\Bz K v (g k).1 (g k).2 H2 Q:=by
 refine Dw (R:=fun v u H2=>∃k,u=.int k/\Bz K v (g k).1 (g k).2 H2 Q) h fun He O Fs Γ2 p q v u H1 H2 G1 G2 Fs2 nd s1 s2 E new o1 o2 w=>?_
 obtain ⟨s,d⟩:=p;obtain ⟨s',d'⟩:=q;dsimp only at w o1 o2
 split at w
 ·rename_i xs k
  cases hc:cR ⟨s,.list xs⟩ xs with
  | false=>rw [hc] at w;exact w.elim
  | true=>
   rw [hc] at w;obtain ⟨d1,d2⟩:=C9 E.nd;obtain ⟨p1,vs,rfl,q1,_,r1⟩:=o1.items (O':=O++Fs2.flatten) hc xi d1
   have ru:=o2.rep
   cases ru;exact ⟨k,rfl,p1,vs,rfl,q1,fun p' hp'=>w _ _ _ _ (Eb (E.drop (fun a ha=>mem_append_right _ (mem_append_right _ ha)) nd) (s1.trans s2) (fun a ha=>new a (mem_append_right _ (mem_append_right _ ha))) (r1.cut _ _) hp')⟩
 ·exact w.elim
end
end T
namespace TQ
open PySem PySem.Spec L2 T
open PyProof.Rows hiding St
variable {X:Cx} {W:XW} {a b:Expr} {fa fb:F1} {p2 pos:Pos}
theorem sX (ha:Q (PE X a (tE X.K W fa))) (hb:Q (PE X b (tE X.K W fb))):Q (PE X (.Subscript a (.Slice none (some b) none p2) pos) (tE X.K W (bI (fun k=>(none,some k)) fa fb))):=⟨have ha:=ha.p;have hb:=hb.p;aX (Hb IT ha Ip (D7 hb)) fun _ _ _=>IA⟩
theorem An (ha:Q (PE X a (tE X.K W fa))) (hb:Q (PE X b (tE X.K W fb))):Q (PE X (.Subscript a (.Slice (some b) none none p2) pos) (tE X.K W (bI (fun k=>(some k,none)) fa fb))):=⟨have ha:=ha.p;have hb:=hb.p;aX (Hb IT ha (D7 hb) Ip) fun _ _ _=>IA⟩
theorem nr {n:Int} {j:Nat} {p1 p3:Pos} (ha:Q (PE X a (tE X.K W fa))) (hb:Q (PE X b (tE X.K W fb))):Q (PE X (.Subscript a (.Slice (some b) (some (.UnaryOp .USub (.Constant (.int n) j p1) p3)) none p2) pos) (tE X.K W (bI (fun k=>(some k,some (-n))) fa fb))):=⟨have ha:=ha.p;have hb:=hb.p;aX (Hb IT ha (D7 hb) (D7 (zG tP uS))) fun σ H Q h=>by
  refine D9 (IA h) fun v H1 q1=>D9 q1 fun u H2 q2=>?_
  obtain ⟨k,rfl,q⟩:=q2;exact ⟨k,rfl,n,rfl,-n,rfl,q⟩⟩
end TQ
namespace T
open PySem PySem.Spec L2
open PyProof.Rows hiding St
def BA (K:Fg):V->List V->Hp->VK->Prop:=fun x xs H Q=>∃(l:Addr) (ns:List Int) (k:Int) (j:Nat),x=.ref l/\xs=[.int k]/\SqL K H l (ns.map V.int)/\ns[j]?=some k/\(∀m,m<j->ns[m]?≠some k)/\Q (.int j) H
theorem p7:∀{us:List Value} {ns:List Int} {m:Nat} {u:Value} {k:Int},IntsAre us ns->us[m]?=some u->isInt k u=true->ns[m]?=some k
 | _,_,_,_,_,.nil,h,_=>by simp at h
 | _,_,0,_,_,.cons n t r,h,e=>by
  simp at h
  subst h;simp [isInt] at e
  simp [e]
 | _,_,m+1,_,_,.cons n t r,h,e=>by
  simp only [getElem?_cons_succ] at h ⊢
  exact p7 r h e
theorem mw:∀{us:List Value} {ns:List Int} {m:Nat} {u:Value} {k:Int},IntsAre us ns->us[m]?=some u->ns[m]?=some k->isInt k u=true
 | _,_,_,_,_,.nil,h,_=>by simp at h
 | _,_,0,_,_,.cons n t r,h,e=>by
  simp at h e
  subst h e;simp [isInt]
 | _,_,m+1,_,_,.cons n t r,h,e=>by
  simp only [getElem?_cons_succ] at h e
  exact mw r h e
theorem rD {X:Cx}:DO X "list.index" (BA X.K):=by
 intro pins s σ H x xs v us Q I rx rv h;obtain ⟨l,ns,k,j,rfl,rfl,hS,hj,hno,q⟩:=h
 cases rx;obtain ⟨u,rfl,ru⟩:=rv.one;obtain ⟨t,rfl⟩:=ru;obtain ⟨its,r,pl,hz⟩:=I.list hS;have hI:=pZ r
 have hl:its.length=ns.length:=by rw [<-r.length,length_map]
 have hjl:j<its.toArray.size:=by rw [size_toArray,hl];exact (List.getElem?_eq_some_iff.mp hj).1
 obtain ⟨o,n,ho,hc,hd,hdt⟩:=pl;obtain ⟨ocls,odict,odata,oslots⟩:=o;simp only at hc hd hdt
 subst hc hd hdt;have hsm:(j:Int)<2 ^ 63-1:=by
  rw [length_map] at hz;have h1:sizeLine<2 ^ 62:=by decide
  have:=(List.getElem?_eq_some_iff.mp hj).1
  omega
 refine call_meets F.slot_list_index ⟨_,ho,rfl⟩ F.entry_list_index (F.args_list_index_2 _ _) (SeqAt.list_indexAt l its.toArray n none oslots (.int k t) (isInt k) j hjl hsm ?_ fun m hm hmj=>?_) ⟨ho,fun y hy=>?_,⟨.int j,H,I.tok _,⟨_,rfl⟩,q⟩⟩
 ·exact mw hI (m:=j) (u:=its.toArray[j]) (by simp at hjl ⊢) hj
 ·cases e:isInt k its.toArray[m] with
  | false=>rfl
  | true=>exact absurd (p7 hI (m:=m) (u:=its.toArray[m]) (by simp at hm ⊢) e) (hno m hmj)
 ·exact (eq_isInt k t hI y (by simpa using hy)).at _ _
def mv:Option (Option PV)->Bool
 | some (some ⟨.leaf,.list _⟩)=>true
 | _=>false
theorem vd {o:Option (Option PV)} (h:mv o=true):∃ds,o=some (some ⟨.leaf,.list ds⟩):=by
 unfold mv at h;split at h
 ·exact ⟨_,rfl⟩
 ·cases h
def sQ (k:Int):List Int->Option Nat
 | []=>none
 | n::r=>if n=k then some 0 else (sQ k r).map (·+1)
theorem u5 {k:Int}:∀{ns:List Int} {j:Nat},sQ k ns=some j->ns[j]?=some k/\∀m,m<j->ns[m]?≠some k
 | [],_,h=>by cases h
 | n::r,j,h=>by
  unfold sQ at h;by_cases e:n=k
  ·rw [if_pos e] at h
   cases h;exact ⟨by simp [e],fun m hm=>by omega⟩
  ·rw [if_neg e] at h
   cases hr:sQ k r with
   | none=>rw [hr] at h;cases h
   | some j'=>
    rw [hr] at h
    cases h;obtain ⟨h1,h2⟩:=u5 hr;refine ⟨by simpa using h1,fun m hm=>?_⟩
    cases m with
    | zero=>simpa using e
    | succ m=>simpa using h2 m (by have:m+1<j'+1:=hm;omega)
def yf (i:Nat) (q:PV):Ev->Out PV:=fun Γ=>match Γ[i]?,q.d with
 | some (some ⟨.leaf,.list ds⟩),.int k=>(match wJ ds with
  | some ns=>(match sQ k ns with
   | some j=>.ok ⟨.leaf,.int (j:Nat)⟩ Γ
   | none=>.no)
  | none=>.no)
 | _,_=>.no
def ox (i:Nat) (fb:F1):F1:=fun Γ=>if mv Γ[i]? then (fb Γ).bind (yf i) else .no
section
variable {K:Fg} {W:XW} {σ:St} {H:Hp} {Q:VK} {fb:F1}
theorem GT {He:Hp} {O:List Addr} {Fs:List (List Addr)} {Γ:Ev} {i:Nat} {ds:List PySem.PyData} (E:EnvOk K He O Fs H σ Γ) (h:Γ[i]?=some (some ⟨.leaf,.list ds⟩)):∃l vs,σ[i]?=some (some (.ref l))/\SqL K H l vs/\Reps K H vs ds:=by
 obtain ⟨_,v,F,h1,_,o⟩:=E.slot i _ h;have r:=o.rep
 cases r with
 | @lst a vs _ hq hl hr=>exact ⟨a,vs,h1,hq,hl,hr⟩
theorem Bg {i:Nat} (h:tE K W (ox i fb) σ H Q):AQ K "list" (BA K) (fA i) (tA K W (ae fb ag)) σ H Q:=by
 obtain ⟨He,O,Fs,Γ,E,h⟩:=h;unfold ox at h
 cases ho:mv Γ[i]? with
 | false=>rw [ho] at h;exact h.elim
 | true=>
  rw [ho] at h;obtain ⟨ds,e0⟩:=vd ho;obtain ⟨l,vs,h1,h2,h3⟩:=GT E e0;refine ⟨.ref l,h1,.inl ⟨rfl,vs,h2⟩,IB ?_⟩
  refine wN (k:=yf i) ⟨He,O,Fs,Γ,E,h⟩ fun He O Fs Γ1 q u H1 G Fs1 nd A w=>?_
  unfold yf at w;split at w
  ·rename_i ds1 k e1 e2
   obtain ⟨l1,vs1,q1,q2,q3⟩:=GT A.go e1;rw [h1] at q1
   cases q1;have r:=A.own.rep
   rw [e2] at r
   cases r
   cases hi:wJ ds1 with
   | none=>rw [hi] at w;exact w.elim
   | some ns=>
    rw [hi] at w;dsimp only at w
    cases hj:sQ k ns with
    | none=>rw [hj] at w;exact w.elim
    | some j=>
     rw [hj] at w;rw [jT hi] at q3;have ev:=qR q3
     subst ev;obtain ⟨a1,a2⟩:=u5 hj;exact ⟨l,ns,k,j,rfl,rfl,q2,a1,a2,w _ _ _ _ (Ij A.go A.same A.newF (.int _))⟩
  ·exact w.elim
end
section
variable {X:Cx} {N gl:List Str} {vs cs ls lo gs:List Nat} {W:XW} {e:Expr} {fe:F1} {p:Pos}
theorem ce_ixN (S:Cp X N gl vs cs ls lo gs) (i:Nat) {x:Str} {apos cpos:Pos} (hi:N[i]?=some x) (hv:vs.contains i=true) (ha:PE X e (tE X.K W fe)) (hbase:attributeBase (.Name x p) "index" X.env (eval (.Name x p) X.env)=eval (.Name x p) X.env) (hs:starEach [e] X.env=[(false,eval e X.env)]) (hline:(apos.endLine==cpos.line)=true) :
  PE X (.Call (.Attribute (.Name x p) "index" apos) [e] [] cpos) (tE X.K W (ox i fe)):=by
 have m:=S.nm x (mem_of_getElem? hi)
 exact aX (jI (T := "list") (r:=BA X.K) F.plainAttrs_list F.slot_list_index F.type_list_index rD (qw (by rw [S.hN];exact hi) (S.vis i x hi hv) m.1 m.2) (da_cons ha da_nil hs) hbase (by rw [hs];rfl) hline hs rfl) fun _ _ _=>Bg
end
end T
namespace TQ
open PySem PySem.Spec L2 T
open PyProof.Rows hiding St
variable {X:Cx} {N gl:List Str} {vs cs ls lo gs:List Nat} {W:XW} {e a:Expr} {fe fa:F1} {p pos:Pos}
theorem tK (S:Cp X N gl vs cs ls lo gs) (i:Nat) {x:Str} {apos cpos:Pos} (hi:N[i]?=some x) (hv:vs.contains i=true) (ha:Q (PE X e (tE X.K W fe))) (hbase:attributeBase (.Name x p) "index" X.env (eval (.Name x p) X.env)=eval (.Name x p) X.env) (hs:starEach [e] X.env=[(false,eval e X.env)]) (hline:(apos.endLine==cpos.line)=true) :
  Q (PE X (.Call (.Attribute (.Name x p) "index" apos) [e] [] cpos) (tE X.K W (ox i fe))):=⟨T.ce_ixN S i hi hv ha.p hbase hs hline⟩
variable {X:Cx} {N gl:List Str} {vs cs ls lo gs:List Nat} {W:XW} {a:Expr} {pos p:Pos} {fa:F1}
variable {X:Cx} {N gl:List Str} {vs cs ls lo gs:List Nat} {W:XW} {a:Expr} {pos p:Pos} {fa:F1}
end TQ
namespace T
open PySem PySem.Spec L2
open PyProof.Rows hiding St
theorem Dx:(1000:Nat)<=sizeLine:=by decide
theorem Je {i:Nat} {fc:FB} {fe:F1} {s:Sh} {c:D->Bool} {f:D->PV} {Γ:Ev} (hΓ:Γ.set i none=Γ):∀(r acc:List D),(∀d∈r,fc (Γ.set i (some ⟨.leaf,d⟩))=.ok (c d) (Γ.set i (some ⟨.leaf,d⟩))) ->
  (∀d∈r,c d=true->fe (Γ.set i (some ⟨.leaf,d⟩))=.ok (f d) (Γ.set i (some ⟨.leaf,d⟩))/\coer s (f d)=true)->acc.length+r.length<=sizeLine->qv i fc fe s r Γ acc=.ok (acc++((r.filter c).map fun d=>(f d).d)) Γ
 | [],acc,_,_,_=>by simp [qv]
 | d::r,acc,hc,he,hl=>by
  have h1:=hc d mem_cons_self
  have hl1:acc.length<sizeLine:=by simp at hl;omega
  have back:(Γ.set i (some ⟨.leaf,d⟩)).set i none=Γ:=by rw [set_set];exact hΓ
  rw [qv,h1]
  cases hcd:c d with
  | false=>
   dsimp only;rw [if_pos hl1,back,Je hΓ r acc (fun d hd=>hc d (mem_cons_of_mem _ hd)) (fun d hd=>he d (mem_cons_of_mem _ hd)) (by simp at hl;omega)]
   rw [List.filter_cons_of_neg (by rw [hcd];exact Bool.false_ne_true)]
  | true=>
   obtain ⟨h2,h3⟩:=he d mem_cons_self hcd;dsimp only;rw [h2];dsimp only;rw [h3,decide_eq_true hl1,Bool.and_self,if_pos rfl,back,Je hΓ r (acc++[(f d).d]) (fun d hd=>hc d (mem_cons_of_mem _ hd)) (fun d hd=>he d (mem_cons_of_mem _ hd)) (by simp at hl ⊢;omega)]
   rw [List.filter_cons_of_pos hcd,map_cons,append_assoc];rfl
theorem iL {s:Sh} {i:Nat} {fi:FI} {fc:FB} {fe:F1} {c:D->Bool} {f:D->PV} {ds:List D} {st:Bool} {Γ:Ev} (hi:fi Γ=.ok ⟨ds,st⟩ Γ) (hl:i<Γ.length) (hs:s.isView=false) (hn:ds.length<=1000)
  (hc:∀d∈ds,fc (Γ.set i (some ⟨.leaf,d⟩))=.ok (c d) (Γ.set i (some ⟨.leaf,d⟩))) (he:∀d∈ds,c d=true->fe (Γ.set i (some ⟨.leaf,d⟩))=.ok (f d) (Γ.set i (some ⟨.leaf,d⟩))/\coer s (f d)=true) :
  aC s i fi fc fe Γ=.ok ⟨.lst s,.list ((ds.filter c).map fun d=>(f d).d)⟩ Γ:=by
 have hb:=Dx
 unfold aC;rw [hi];unfold Out.bind;dsimp only;rw [Je (c:=c) (f:=f) (by rw [set_set]) ds [] (fun d hd=>by rw [set_set];exact hc d hd) (fun d hd=>by rw [set_set];exact he d hd) (by simp;omega)]
 dsimp only;rw [hs,decide_eq_true hl];simp only [Bool.not_false,Bool.and_self,if_true,nil_append,set_set]
 have:Γ.set i (Γ.getD i none)=Γ:=by
  apply Aj
  rw [getD_eq_getElem?_getD,getElem?_eq_getElem hl];rfl
 rw [this]
theorem DB {s:Sh} {i:Nat} {fi:FI} {fe:F1} {f:D->PV} {ds:List D} {st:Bool} {Γ:Ev} (hi:fi Γ=.ok ⟨ds,st⟩ Γ) (hl:i<Γ.length) (hs:s.isView=false) (hn:ds.length<=1000)
  (he:∀d∈ds,fe (Γ.set i (some ⟨.leaf,d⟩))=.ok (f d) (Γ.set i (some ⟨.leaf,d⟩))/\coer s (f d)=true) :
  aC s i fi aR fe Γ=.ok ⟨.lst s,.list (ds.map fun d=>(f d).d)⟩ Γ:=by
 rw [iL (fc:=aR) (c:=fun _=>true) (f:=f) hi hl hs hn (fun d hd=>rfl) fun d hd _=>he d hd,List.filter_eq_self.mpr fun _ _=>rfl]
theorem G8 {P:Nat->Ev->Prop} {i:Nat} {body:FS}:∀(ds:List D) (n:Nat) (Γ:Ev),P n Γ->(∀k d Γ,d∈ds->n<=k->k<n+ds.length->P k Γ->i<Γ.length/\∃Γ',body (Γ.set i (some ⟨.leaf,d⟩))=.nx Γ'/\P (k+1) Γ')->∃Γ',bO i body ds Γ=.nx Γ'/\P (n+ds.length) Γ'
 | [],n,Γ,h,_=>⟨Γ,rfl,h⟩
 | d::r,n,Γ,h,st=>by
  obtain ⟨hi,Γ1,e1,h1⟩:=st n d Γ mem_cons_self (Nat.le_refl _) (by simp) h
  obtain ⟨Γ2,e2,h2⟩:=G8 r (n+1) Γ1 h1 fun k d Γ hd a b c=>st k d Γ (mem_cons_of_mem _ hd) (by omega) (by simp;omega) c
  refine ⟨Γ2,?_,?_⟩
  ·rw [bO,if_pos hi,e1]
   exact e2
  ·rw [length_cons,show n+(r.length+1)=n+1+r.length by omega]
   exact h2
theorem II {any:Bool} {α:Type} {xs:List α} {f:α->Bool}:nh (xs.map fun x=>.bool (f x))=some (xs.map f):=by
 induction xs with
 | nil=>rfl
 | cons x r ih=>rw [map_cons,nh,ih];rfl
theorem wu {α:Type} {xs:List α} {f:α->Bool}:cD false [.list (xs.map fun x=>.bool (f x))]=some (.bool (xs.all f)):=by
 show Option.map _ (nh _)=_
 rw [II (any:=false)];simp [List.all_map]
section
variable {Γ Γ1 Γ2:Ev} {fa fb fc:F1} {fl:FL} {p q:PV} {ps:List PV} {d e:D} {s s' s2:Sh} {i j n:Nat}
theorem aw (h:Γ[i]?=some (some ⟨.leaf,d⟩)):af i Γ=.ok ⟨.leaf,d⟩ Γ:=by unfold af;rw [h]
theorem dD (h:Γ[i]?=some (some ⟨.lst s,d⟩)):af i Γ=.ok ⟨.view,d⟩ Γ:=by unfold af;rw [h]
theorem DV (h:Γ[i]?=some (some p)):bT i Γ=.ok p (Γ.set i none):=by unfold bT;rw [h]
theorem aL:eK d Γ=.ok ⟨.leaf,d⟩ Γ:=rfl
theorem aE {g:D->D->Option D} (ha:fa Γ=.ok p Γ1) (hb:fb Γ1=.ok q Γ2) (hg:g p.d q.d=some d):az g fa fb Γ=.ok ⟨.leaf,d⟩ Γ2:=by
 unfold az bg;rw [ha];simp only [Out.bind];rw [hb];simp only [hg]
theorem AE {g:D->Option D} (ha:fa Γ=.ok p Γ1) (hg:g p.d=some d):eU g fa Γ=.ok ⟨.leaf,d⟩ Γ1:=by
 unfold eU bg;rw [ha];simp only [Out.bind,hg]
theorem ay (ha:fa Γ=.ok p Γ1) (hl:fl Γ1=.ok ps Γ2):ae fa fl Γ=.ok (p::ps) Γ2:=by
 unfold ae;rw [ha];simp only [Out.bind];rw [hl]
theorem ah:ag Γ=.ok [] Γ:=rfl
theorem bQ {g:List D->Option D} (hl:fl Γ=.ok ps Γ1) (hg:g (ps.map (·.d))=some d):bw g fl Γ=.ok ⟨.leaf,d⟩ Γ1:=by
 unfold bw;rw [hl];simp only [Out.bind];rw [hg]
theorem cn {den:List D->Res} (hl:fl Γ=.ok ps Γ1) (hd:den (ps.map (·.d))=.ok p) (hn:ps.length=n) (hc:ps.all (coer .leaf)=true):ak n den fl Γ=.ok p Γ1:=by
 unfold ak;rw [hl];simp only [Out.bind,hn,hd,hc,if_true]
theorem dJ {ds:List D} {k:Int} (ha:fa Γ=.ok ⟨s,.list ds⟩ Γ1) (hb:fb Γ1=.ok ⟨s',.int k⟩ Γ2) (hi:fh ds.length k=some j) (hd:ds[j]?=some d) (hs:m8 s j d=some s2):ai fa fb Γ=.ok ⟨s2,d⟩ Γ2:=by
 unfold ai bg;rw [ha];simp only [Out.bind];rw [hb];simp only [hi,hd,hs]
theorem nc {ds:List D} {k:Int} (ha:fa Γ=.ok ⟨s,.tuple ds⟩ Γ1) (hb:fb Γ1=.ok ⟨s',.int k⟩ Γ2) (hi:fh ds.length k=some j) (hd:ds[j]?=some d) (hs:m8 s j d=some s2):ai fa fb Γ=.ok ⟨s2,d⟩ Γ2:=by
 unfold ai bg;rw [ha];simp only [Out.bind];rw [hb];simp only [hi,hd,hs]
theorem dz (hl:fl Γ=.ok ps Γ1) (hs:s.isView=false) (hc:ps.all (coer s)=true) (hn:decide (ps.length<=1000)=true):aB s fl Γ=.ok ⟨.lst s,.list (ps.map (·.d))⟩ Γ1:=by
 have h2:ps.length<=sizeLine:=Nat.le_trans (of_decide_eq_true hn) Dx
 unfold aB;rw [hl];simp only [Out.bind,hs,hc,decide_eq_true h2,Bool.not_false,Bool.and_self,if_true]
theorem bG (hl:fl Γ=.ok ps Γ1) (hc:ps.all tok=true) (hn:decide (ps.length<=1000)=true):bo fl Γ=.ok ⟨.tup (ps.map zq),.tuple (ps.map (·.d))⟩ Γ1:=by
 have h2:ps.length<=sizeLine:=Nat.le_trans (of_decide_eq_true hn) Dx
 unfold bo;rw [hl];simp only [Out.bind,hc,decide_eq_true h2,Bool.and_self,if_true]
theorem tO {ds:List D} (ha:fa Γ=.ok ⟨s,.list ds⟩ Γ1) (ho:cR ⟨s,.list ds⟩ ds=true):kX fa Γ=.ok ⟨.lst .leaf,.list ds⟩ Γ1:=by
 unfold kX bg;rw [ha];simp only [Out.bind,ho,if_true]
theorem v_and {a b:Bool} (ha:fa Γ=.ok ⟨s,.bool a⟩ Γ) (hb:fb Γ=.ok ⟨.leaf,.bool b⟩ Γ):d9 fa fb Γ=.ok ⟨.leaf,.bool (a&&b)⟩ Γ:=by
 unfold d9 bg;rw [ha];simp only [Out.bind]
 cases a with
 | false=>rfl
 | true=>exact hb
theorem IU {g g':D->D->Option D} {b b':Bool} (ha:fa Γ=.ok p Γ) (hb:fb Γ=.ok q Γ) (hg:g p.d q.d=some (.bool b)) (hs:bu q.d=true) {z:PV} (hc:fc Γ=.ok z Γ) (hg':g' q.d z.d=some (.bool b')):m9 g g' fa fb fc Γ=.ok ⟨.leaf,.bool (b&&b')⟩ Γ:=by
 unfold m9 bg;rw [ha];simp only [Out.bind];rw [hb];simp only [hg]
 cases b with
 | false=>rfl
 | true=>simp only [hs,if_true,hc,hg',Bool.true_and]
theorem dY (ha:fa Γ=.ok ⟨s,.bool b⟩ Γ1):aN ax fa Γ=.ok b Γ1:=by unfold aN;rw [ha];rfl
theorem cK (ha:fa Γ=.ok ⟨s,.bool b⟩ Γ1):aN bf fa Γ=.ok b Γ1:=by unfold aN;rw [ha];rfl
theorem fx {ga:FB} {b:Bool} (h:ga Γ=.ok b Γ1):b9 ga Γ=.ok (!b) Γ1:=by unfold b9;rw [h];rfl
theorem zT {ga gb:FB} {a b:Bool} (ha:ga Γ=.ok a Γ) (hb:gb Γ=.ok b Γ):dU ga gb Γ=.ok (a&&b) Γ:=by
 unfold dU;rw [ha];simp only [Out.bind]
 cases a with
 | false=>rfl
 | true=>exact hb
theorem vV {ga gb:FB} {a b:Bool} (ha:ga Γ=.ok a Γ) (hb:gb Γ=.ok b Γ):hJ ga gb Γ=.ok (a||b) Γ:=by
 unfold hJ;rw [ha];simp only [Out.bind]
 cases a with
 | false=>exact hb
 | true=>rfl
theorem cf {ds:List D} (ha:fa Γ=.ok ⟨s,.list ds⟩ Γ1) (ho:cR ⟨s,.list ds⟩ ds=true):bt fa Γ=.ok ⟨ds,!s.isView⟩ Γ1:=by
 unfold bt;rw [ha];simp only [Out.bind,ho,if_true]
theorem nq {k:Int} (hl:fl Γ=.ok ps Γ1) (hp:ps.map (·.d)=[.int k]) (h0:-1000<=k) (h1:k<=100000):eJ fl Γ=.ok ⟨b4 0 k.toNat,true⟩ Γ1:=by
 have h3:cU k=true:=by unfold cU;simp only [Bool.and_eq_true,decide_eq_true_eq];omega
 unfold eJ;rw [hl];simp only [Out.bind,hp,jb,h3,if_true]
theorem xg {k m:Int} (hl:fl Γ=.ok ps Γ1) (hp:ps.map (·.d)=[.int k,.int m]) (h0:-1000<=k) (h1:k<=100000) (h2:-1000<=m) (h4:m<=100000):rK fl Γ=.ok ⟨b4 k (m-k).toNat,true⟩ Γ1:=by
 have h3:cU k=true:=by unfold cU;simp only [Bool.and_eq_true,decide_eq_true_eq];omega
 have h5:cU m=true:=by unfold cU;simp only [Bool.and_eq_true,decide_eq_true_eq];omega
 unfold rK;rw [hl];simp only [Out.bind,hp,qQ,h3,h5,Bool.and_self,if_true]
theorem aq {g1 g2:FS} {o:eu} (h1:g1 Γ=.nx Γ1) (h2:g2 Γ1=o):av g1 g2 Γ=o:=by unfold av;rw [h1];exact h2
theorem qy {g1 g2:FS} (h1:g1 Γ=.rt p):av g1 g2 Γ=.rt p:=by unfold av;rw [h1]
theorem aV {c:FB} {a b:FS} {t:Bool} {o:eu} (hc:c Γ=.ok t Γ1) (ht:t=true->a Γ1=o) (hf:t=false->b Γ1=o):bF c a b Γ=o:=by
 unfold bF;rw [hc]
 cases t with
 | true=>exact ht rfl
 | false=>exact hf rfl
theorem aW (h:fa Γ=.ok p Γ1) (hs:p.s.isView=false):aI fa Γ=.rt p:=by
 unfold aI gE;rw [h];simp only [hs];rfl
theorem cb (h:fa Γ=.ok p Γ1) (hc:coer .leaf p=true) (hi:i<Γ1.length):aA false i fa Γ=.nx (Γ1.set i (some ⟨.leaf,p.d⟩)):=by
 unfold aA gE;rw [h];simp only [hi,if_true,hc,Bool.false_and];rfl
theorem zd (h:fa Γ=.ok p Γ1) (hs:p.s.isView=false) (hi:i<Γ1.length):aA true i fa Γ=.nx (Γ1.set i (some p)):=by
 unfold aA gE;rw [h];simp only [hi,if_true,hs,Bool.true_and,Bool.not_false]
theorem Dy {ds:List D} (ho:Γ[i]?=some (some ⟨.lst s,.list ds⟩)) (h:fa Γ=.ok p Γ) (hc:coer s p=true) (hn:ds.length<=900):eN i fa Γ=.nx (Γ.set i (some ⟨.lst s,.list (ds++[p.d])⟩)):=by
 have h2:ds.length<sizeLine:=Nat.lt_of_lt_of_le (by omega:ds.length<1000) Dx
 unfold eN Dv;rw [ho];simp only [if_true];unfold gE;rw [h];simp only;unfold yU;rw [ho];simp only [hc,decide_eq_true h2,Bool.and_self,if_true]
theorem Ax {ds:List D} {k:Int} (ho:Γ[i]?=some (some ⟨.lst .leaf,.list ds⟩)) (h:fa Γ=.ok p Γ) (hk:fb Γ=.ok ⟨s,.int k⟩ Γ) (hi:fh ds.length k=some j) (hc:coer .leaf p=true):fO i fa fb Γ=.nx (Γ.set i (some ⟨.lst .leaf,.list (ds.set j p.d)⟩)):=by
 unfold fO Ag;rw [ho];simp only [if_true];unfold gE;rw [h];simp only;rw [hk];simp only;unfold A5;rw [ho];simp only [hi,hc,if_true]
theorem zo {g:FS} {o:eu} (h:Γ[i]?=some (some p)) (hg:g (Γ.set i (some ⟨.leaf,p.d⟩))=o):lP i g Γ=o:=by unfold lP;rw [h];exact hg
theorem fM {fi:FI} {body:FS} {ds:List D} {o:eu} (h:fi Γ=.ok ⟨ds,true⟩ Γ1) (hg:bO i body ds Γ1=o):d8 i fi body Γ=o:=by unfold d8;rw [h];exact hg
end
end T
namespace KC
open PySem PySem.Spec L2 T
open PyProof.Rows hiding St
noncomputable def b8:PySem.PyData:=.tuple [.str "a",.str "b",.str "c",.str "d",.str "e",.str "f"]
noncomputable def cB:PySem.PyData:=.tuple [.int 0,.int 1]
noncomputable def dR:PySem.PyData:=.int 24
noncomputable def fV:PySem.PyData:=.int 200
noncomputable def fW:PySem.PyData:=.int 24
noncomputable def bZ:PySem.PyData:=.tuple [.str "some until",.str "all until"]
noncomputable def cG:PySem.PyData:=.tuple [.str "some always",.str "all always"]
noncomputable def bB:PySem.PyData:=.tuple [.str "some next",.str "some until",.str "all always"]
noncomputable def hZ:List (Str×Int):=[("yes",0),("not",1),("some next",1),("all next",1),("some always",1),("all always",1),("and",2),("or",2),("some until",2),("all until",2)]
noncomputable def mJ:FS:=(aI (bw (cD false) (ae (aC .leaf 1 (rK (ae (eK (.int 1)) (ae (bw aT (ae (af 0) ag)) ag))) aR (az eR (ai (af 0) (az gSub (af 1) (eK (.int 1)))) (ai (af 0) (af 1)))) ag)))
noncomputable def dh:List PySem.PyData->Res:=aD 2 mJ
noncomputable def mQ:FS:=(aI (d9 (bw (cD false) (ae (aC .leaf 1 (bt (af 0)) aR (az (bE false) (af 1) (eK b8))) ag)) (ak 1 dh (ae (af 0) ag))))
noncomputable def dj:List PySem.PyData->Res:=aD 2 mQ
noncomputable def mP:FS:=(aI (d9 (bw (cD false) (ae (aC .leaf 2 (bt (af 0)) aR (m9 sR eR (eK (.int 0)) (af 2) (af 1))) ag)) (ak 1 dh (ae (af 0) ag))))
noncomputable def eG:List PySem.PyData->Res:=aD 3 mP
noncomputable def mO:FS:=(aI (d9 (az rO (bw aT (ae (af 0) ag)) (eK (.int 0))) (ak 2 eG (ae (af 0) (ae (af 1) ag)))))
noncomputable def di:List PySem.PyData->Res:=aD 2 mO
noncomputable def oE:FS:=(av (aA false 3 (bw aT (ae (af 0) ag)))
  (av (bF (hJ (aN ax (az eR (af 3) (eK (.int 1)))) (hJ (aN ax (az rO (af 3) (eK dR))) (hJ (aN ax (az jm (bw aT (ae (af 1) ag)) (af 3))) (aN ax (az jm (bw aT (ae (af 2) ag)) (af 3)))))) (aI (eK (.bool false))) aG)
  (av (bF (b9 (aN bf (bw (cD false) (ae (aC .leaf 4 (bt (af 0)) aR (az (bE false) (af 4) (eK cB))) ag)))) (aI (eK (.bool false))) aG)
  (aI (d9 (bw (cD false) (ae (aC .leaf 5 (bt (af 1)) aR (ak 1 dj (ae (af 5) ag))) ag)) (bw (cD false) (ae (aC .leaf 5 (bt (af 2)) aR (ak 2 di (ae (af 5) (ae (af 3) ag)))) ag)))))))
noncomputable def cA:List PySem.PyData->Res:=aD 6 oE
noncomputable def jw:FS:=(bF (b9 (aN bf (ak 3 cA (ae (ai (af 0) (eK (.int 0))) (ae (ai (af 0) (eK (.int 1))) (ae (ai (af 0) (eK (.int 2))) ag)))))) KJ aG)
noncomputable def dt:List PySem.PyData->Res:=aD 1 jw
noncomputable def cW:FS:=(aI (wG (aN ax (az bL (ai (af 0) (eK (.int 0))) (eK (.str "mark")))) (bo ag) (yw (af 0) (eK (.int 1)))))
noncomputable def bh:List PySem.PyData->Res:=aD 1 cW
noncomputable def mL:FS:=(av (bF (hJ (b9 (aN bf (jn "tuple" (af 0)))) (hJ (aN ax (az bL (bw aT (ae (af 0) ag)) (eK (.int 0)))) (b9 (aN bf (jn "str" (ai (af 0) (eK (.int 0)))))))) (aI (eK (.bool false))) aG)
  (av (bF (aN ax (az bL (ai (af 0) (eK (.int 0))) (eK (.str "mark")))) (aI (d9 (az bL (bw aT (ae (af 0) ag)) (eK (.int 2))) (az (bE false) (ai (af 0) (eK (.int 1))) (eK b8)))) aG)
  (aI (d9 (vD false hZ (ai (af 0) (eK (.int 0)))) (az bL (bw aT (ae (af 0) ag)) (az aO (eK (.int 1)) (qi hZ (ai (af 0) (eK (.int 0))))))))))
noncomputable def gK:List PySem.PyData->Res:=aD 1 mL
noncomputable def iT:FS:=(av (aA true 1 (aB .leaf ag))
  (av (d8 2 (bt (af 0))
  (uj 1 (ak 1 bh (ae (af 2) ag))))
  (aI (bT 1))))
noncomputable def eF:List PySem.PyData->Res:=aD 3 iT
noncomputable def mI:FS:=(av (aA true 1 (aB .leaf ag))
  (av (aA false 2 (aB .leaf (ae (af 0) ag)))
  (av (aA false 3 (eK (.int 0)))
  (av (sI 1000 (aN bf (af 2))
  (av (iy 3 (bw aT (ae (af 2) ag)))
  (av (bF (hJ (aN ax (az rO (af 3) (eK fV))) (hJ (aN ax (az bL (bw aT (ae (af 1) ag)) (eK fW))) (b9 (aN bf (bw (cD false) (ae (aC .leaf 4 (bt (af 2)) aR (ak 1 gK (ae (af 4) ag))) ag)))))) (aI (eK .none)) aG)
  (av (eN 1 (af 2))
  (aA false 2 (ak 1 eF (ae (af 2) ag)))))))
  (aI (bT 1))))))
noncomputable def gJ:List PySem.PyData->Res:=aD 5 mI
noncomputable def fu:FS:=(aI (aC .leaf 2 (eJ (ae (bw aT (ae (ai (af 0) (eK (.int 0))) ag)) ag)) (aN ax (az (bE true) (af 2) (af 1))) (af 2)))
noncomputable def cE:List PySem.PyData->Res:=aD 3 fu
noncomputable def mK:FS:=(aI (wG (aN bf (af 0)) (bw (cD true) (ae (af 1) ag)) (bw (cD false) (ae (af 1) ag))))
noncomputable def cF:List PySem.PyData->Res:=aD 2 mK
noncomputable def cV:FS:=(av (bF (aN ax (az (bE false) (ai (af 1) (eK (.int 0))) (eK bZ))) (aI (bo (ae (ai (af 2) (eK (.int 0))) (ae (ai (af 2) (eK (.int 1))) ag)))) aG)
  (aI (bo (ae (C5 (ae (bw aT (ae (ai (af 0) (eK (.int 0))) ag)) ag)) (ae (ak 2 cE (ae (af 0) (ae (ai (af 2) (eK (.int 0))) ag))) ag)))))
noncomputable def bq:List PySem.PyData->Res:=aD 3 cV
noncomputable def fq:FS:=(av (aA true 4 (aB .leaf ag))
  (av (d8 5 (bt (af 2))
  (bF (dU (aN ax (az (cJ false) (ai (af 3) (af 5)) (eK .none))) (aN bf (ak 2 cF (ae (ai (af 1) (af 5)) (ae (aC .leaf 6 (bt (ai (ai (af 0) (eK (.int 2))) (af 5))) aR (az (cJ true) (ai (af 3) (af 6)) (eK .none))) ag))))) (eN 4 (af 5)) aG))
  (aI (bT 4))))
noncomputable def bY:List PySem.PyData->Res:=aD 7 fq
noncomputable def iS:FS:=(av (aA true 4 (aC .leaf 8 (bt (ai (af 0) (eK (.int 0)))) aR (eK .none)))
  (av (aA false 5 (eK (.int 0)))
  (av (aA false 6 (af 3))
  (av (sI 1000 (aN bf (af 6))
  (av (d8 7 (bt (af 6))
  (fO 4 (af 5) (af 7)))
  (av (iy 5 (eK (.int 1)))
  (aA false 6 (zZ 4 bY (ae (af 0) (ae (af 1) (ae (af 2) (ae (af 4) ag)))))))))
  (aI (bT 4))))))
noncomputable def fE:List PySem.PyData->Res:=aD 9 iS
noncomputable def fG:FS:=(av (aA false 3 (ai (af 1) (eK (.int 0))))
  (av (bF (dU (aN ax (az (bE true) (af 3) (eK bZ))) (aN ax (az (bE true) (af 3) (eK cG)))) (aI (eK .none)) aG)
  (av (aA false 4 (ak 3 bq (ae (af 0) (ae (af 1) (ae (af 2) ag)))))
  (aI (ak 4 fE (ae (af 0) (ae (aC .leaf 5 (bt (ai (af 0) (eK (.int 0)))) aR (az (bE false) (af 3) (eK bB))) (ae (ai (af 4) (eK (.int 0))) (ae (ai (af 4) (eK (.int 1))) ag)))))))))
noncomputable def bN:List PySem.PyData->Res:=aD 6 fG
noncomputable def bz:FS:=(av (aA false 5 (ai (af 1) (eK (.int 0))))
  (av (bF (aN ax (az bL (af 5) (eK (.str "yes")))) (aI (eK (.bool true))) aG)
  (av (bF (aN ax (az bL (af 5) (eK (.str "mark")))) (aI (az (bE false) (ai (af 1) (eK (.int 1))) (ai (ai (af 0) (eK (.int 1))) (af 4)))) aG)
  (av (bF (aN ax (az (bE false) (af 5) (eK bZ))) (aI (az (cJ true) (ai (af 3) (af 4)) (eK .none))) aG)
  (av (bF (aN ax (az (bE false) (af 5) (eK cG))) (aI (az (cJ false) (ai (af 3) (af 4)) (eK .none))) aG)
  (av (aA false 6 (aC .leaf 7 (bt (af 2)) aR (az (bE false) (af 4) (af 7))))
  (av (bF (aN ax (az bL (af 5) (eK (.str "not")))) (aI (vC (ai (af 6) (eK (.int 0))))) aG)
  (av (bF (hJ (aN ax (az bL (af 5) (eK (.str "and")))) (aN ax (az bL (af 5) (eK (.str "or"))))) (aI (wG (aN ax (az bL (af 5) (eK (.str "and")))) (bw (cD false) (ae (af 6) ag)) (bw (cD true) (ae (af 6) ag)))) aG)
  (aI (ak 2 cF (ae (az (bE false) (af 5) (eK bB)) (ae (aC .leaf 8 (bt (ai (ai (af 0) (eK (.int 2))) (af 4))) aR (az (bE false) (af 8) (ai (af 2) (eK (.int 0))))) ag))))))))))))
noncomputable def dP:List PySem.PyData->Res:=aD 9 bz
noncomputable def iR:FS:=(aI (aC .leaf 4 (eJ (ae (bw aT (ae (ai (af 0) (eK (.int 0))) ag)) ag)) (aN bf (ak 5 dP (ae (af 0) (ae (af 1) (ae (af 2) (ae (af 3) (ae (af 4) ag))))))) (af 4)))
noncomputable def cz:List PySem.PyData->Res:=aD 5 iR
noncomputable def iU (r_judged:List PySem.PyData->Res):FS:=(av (aA false 2 (aC .leaf 3 (eI (ak 1 bh (ae (af 1) ag))) aR (ak 2 r_judged (ae (af 0) (ae (af 3) ag)))))
  (aI (ak 4 cz (ae (af 0) (ae (af 1) (ae (af 2) (ae (ak 3 bN (ae (af 0) (ae (af 1) (ae (af 2) ag)))) ag)))))))
noncomputable def cS:Nat->List PySem.PyData->Res
 | 0=>fun _=>.no
 | n+1=>aD 4 (iU (cS n))
noncomputable def dH:List PySem.PyData->Res:=cS 30
noncomputable def iV:FS:=(av (bF (aN ax (az eR (af 1) (bw aT (ae (af 0) ag)))) (aI (ai (af 0) (af 1))) aG)
  (aI (eK (.int 0))))
noncomputable def aM:List PySem.PyData->Res:=aD 2 iV
noncomputable def mR:FS:=(av (bF (aN ax (az mC (af 0) (az mB (eK (.int 10)) (eK (.int 18))))) (av (aA false 4 (af 0))
  (av (d8 5 (eJ (ae (af 1) ag))
  (aA false 4 (az oq (af 4) (af 2))))
  (aI (az bV (af 4) (af 2))))) aG)
  (av (aA false 3 (az bV (az kE (az aO (az aO (az bV (af 0) (eK (.int 1000000007))) (az kE (eK (.int 1009)) (af 1))) (eK (.int 17))) (eK (.int 69621))) (eK (.int 2147483647))))
  (av (aA false 3 (az bV (az aO (az aO (az kE (af 3) (af 3)) (az kE (eK (.int 40503)) (af 1))) (eK (.int 5))) (eK (.int 2147483629))))
  (aI (az bV (az oq (az bV (az kE (af 3) (eK (.int 48271))) (eK (.int 2147483647))) (eK (.int 32))) (af 2))))))
noncomputable def aj:List PySem.PyData->Res:=aD 6 mR
noncomputable def d__law_world:FS:=(av (aA false 3 (az aO (eK (.int 1)) (az bV (ak 2 aM (ae (af 0) (ae (af 1) ag))) (af 2))))
  (av (aA true 4 (aB .leaf ag))
  (av (aA true 5 (aB .leaf ag))
  (av (aA true 6 (aB .leaf ag))
  (av (d8 7 (eJ (ae (af 3) ag))
  (av (aA false 8 (ak 2 aM (ae (af 0) (ae (az aO (az aO (af 1) (eK (.int 1))) (af 7)) ag))))
  (av (eN 4 (ak 3 aj (ae (af 8) (ae (eK (.int 0)) (ae (eK (.int 2)) ag)))))
  (av (eN 5 (aC .leaf 11 (eJ (ae (eK (.int 3)) ag)) (aN ax (az bL (ak 3 aj (ae (af 8) (ae (az aO (eK (.int 1)) (af 11)) (ae (eK (.int 2)) ag)))) (eK (.int 1)))) (ai (eK (.str "abc")) (af 11))))
  (av (aA false 9 (aC .leaf 10 (eJ (ae (af 3) ag)) (aN ax (az bL (ak 3 aj (ae (af 8) (ae (az aO (eK (.int 4)) (af 10)) (ae (az aO (eK (.int 2)) (bw om (ae (az rO (af 3) (eK (.int 3))) ag))) ag)))) (eK (.int 1)))) (af 10)))
  (av (bF (aN ax (az bL (af 9) (aB .leaf ag))) (aA false 9 (aB .leaf (ae (ak 3 aj (ae (af 8) (ae (az aO (eK (.int 4)) (af 3)) (ae (af 3) ag)))) ag))) aG)
  (eN 6 (af 9))))))))
  (aI (bo (ae (bT 4) (ae (bT 5) (ae (bT 6) ag))))))))))
noncomputable def m__law_world:List PySem.PyData->Res:=aD 12 d__law_world
open PySem.SeqAt
noncomputable def HQ (a b:D):Bool:=match eR a b with
 | some (.bool t)=>t
 | _=>false
noncomputable def RowI (ds:List D):Prop:=∀a∈ds,∃n,a=.int n
noncomputable def gy (ds:List D):Prop:=∀a∈ds,∃x,a=.str x/\PyData.strOk x=true
noncomputable def Row (ds:List D):Prop:=RowI ds\/gy ds
theorem Ad (i:Int):shaped (.int i)=true:=by simp [shaped,PyData.canLay0,PyData.depth]
theorem uc {x:Str} (h:PyData.strOk x=true):shaped (.str x)=true:=by simp [shaped,PyData.canLay0,PyData.depth,h]
theorem Row.lt {ds:List D} {a b:D} (h:Row ds) (ha:a∈ds) (hb:b∈ds):eR a b=some (.bool (HQ a b))/\mC a b=some (.bool (!HQ a b)):=by
 rcases h with h | h
 ·obtain ⟨n,rfl⟩:=h a ha
  obtain ⟨m,rfl⟩:=h b hb;refine ⟨rfl,?_⟩
  show some (PyData.bool (decide (m<=n)))=some (.bool (!decide (n<m)))
  congr 2
  by_cases q:n<m
  ·simp [q,Int.not_le.mpr q]
  ·simp [q,Int.not_lt.mp q]
 ·obtain ⟨n,rfl,_⟩:=h a ha
  obtain ⟨m,rfl,_⟩:=h b hb;exact ⟨rfl,rfl⟩
noncomputable def zI (ds:List D) (d:D):Bool:=match d with
 | .int j=>HQ (ds.getD (j-1).toNat .none) (ds.getD j.toNat .none)
 | _=>false
noncomputable def gF (ds:List D):Bool:=(b4 1 ((ds.length:Int)-1).toNat).all (zI ds)
theorem D6 {lo:Int} {n:Nat} {d:D} (h:d∈b4 lo n):∃k:Nat,k<n/\d=.int (lo+k):=by
 unfold b4 at h;simp only [mem_map,mem_range] at h
 obtain ⟨k,hk,e⟩:=h;exact ⟨k,hk,e.symm⟩
theorem GY {lo:Int} {n:Nat}:(b4 lo n).length=n:=by unfold b4;simp
theorem sW {n:Nat} {k:Nat} (h:k<n):fh n (k:Int)=some k:=by
 unfold fh;rw [if_pos (by omega),if_pos (by omega)]
 simp
theorem FA {n:Nat} {i:Int} (h0:0<=i) (h1:i<n):fh n i=some i.toNat:=by
 unfold fh;rw [if_pos h0,if_pos h1]
theorem CD {i:Int} (h0:-1000<=i) (h1:i<=100000):cU i=true:=by
 unfold cU;simp only [Bool.and_eq_true,decide_eq_true_eq]
 omega
theorem GB {ds:List D} {k:Nat} (h:k<ds.length):ds[k]?=some (ds.getD k .none):=by
 rw [getD_eq_getElem?_getD,getElem?_eq_getElem h];rfl
theorem getD_mem {ds:List D} {k:Nat} (h:k<ds.length):ds.getD k .none∈ds:=mem_of_getElem? (GB h)
theorem Fz {ds:List D} {k:Nat} (h:Row ds) (hk:k<((ds.length:Int)-1).toNat):fh ds.length (1+(k:Int)-1)=some k/\fh ds.length (1+(k:Int))=some (k+1)/\ds[k]?=some (ds.getD k .none)/\ds[k+1]?=some (ds.getD (k+1) .none) /\
  eR (ds.getD k .none) (ds.getD (k+1) .none)=some (.bool (zI ds (.int (1+(k:Int)))))/\mC (ds.getD k .none) (ds.getD (k+1) .none)=some (.bool (!zI ds (.int (1+(k:Int))))):=by
 have h1:k<ds.length:=by omega
 have h2:k+1<ds.length:=by omega
 have l:=h.lt (getD_mem h1) (getD_mem h2)
 have e3:zI ds (.int (1+(k:Int)))=HQ (ds.getD k .none) (ds.getD (k+1) .none):=by
  unfold zI;dsimp only;rw [show (1+(k:Int)-1).toNat=k by omega,show (1+(k:Int)).toNat=k+1 by omega]
 rw [e3];exact ⟨by rw [show (1+(k:Int)-1)=k by omega];exact sW h1,by rw [show (1+(k:Int))=((k+1:Nat):Int) by omega];exact sW h2,GB h1,GB h2,l.1,l.2⟩
theorem aS {n:Nat} {g:FS} {ds:List D} {p:PV} (h:g (aQ n ds)=.rt p):aD n g ds=.ok p:=by unfold aD;rw [h]
theorem eq_int {a b:Int}:bL (.int a) (.int b)=some (.bool (a==b)):=by
 unfold bL;rw [Ad,Ad,Bool.and_self,if_pos rfl,PyData.eqv]
theorem fm {ds:List D} (h:Row ds) (hl:ds.length<=100):dh [.list ds]=.ok ⟨.leaf,.bool (gF ds)⟩:=by
 have hc:aC .leaf 1 (rK (ae (eK (.int 1)) (ae (bw aT (ae (af 0) ag)) ag))) aR (az eR (ai (af 0) (az gSub (af 1) (eK (.int 1)))) (ai (af 0) (af 1))) [some ⟨.leaf,.list ds⟩,none] =
   .ok ⟨.lst .leaf,.list ((b4 1 ((ds.length:Int)-1).toNat).map fun d=>.bool (zI ds d))⟩ [some ⟨.leaf,.list ds⟩,none]:=by
  refine DB (f:=fun d=>⟨.leaf,.bool (zI ds d)⟩) (st:=true) (xg (k:=1) (m:=(ds.length:Int)) (ay aL (ay (bQ (ay (aw rfl) ah) rfl) ah)) rfl (by omega) (by omega) (by omega) (by omega)) (by simp) rfl (by rw [GY];omega) fun d hd=>⟨?_,rfl⟩
  obtain ⟨k,hk,rfl⟩:=D6 hd;obtain ⟨e1,e2,e3,e4,e5,e6⟩:=Fz h hk;exact aE (dJ (aw rfl) (aE (aw rfl) aL rfl) e1 e3 rfl) (dJ (aw rfl) (aw rfl) e2 e4 rfl) e5
 exact aS (aW (bQ (ay hc ah) wu) rfl)
noncomputable def DL (a:D):Bool:=[PyData.str "a",.str "b",.str "c",.str "d",.str "e",.str "f"].any fun y=>PyData.eqv y a
noncomputable def CI (a:D):Bool:=[PyData.int 0,.int 1].any fun y=>PyData.eqv y a
noncomputable def inR (n:Int) (a:D):Bool:=match a with
 | .int i=>decide (0<=i)&&decide (i<n)
 | _=>false
noncomputable def yc (d:D):Bool:=match d with
 | .list xs=>xs.all DL&&gF xs
 | _=>false
noncomputable def zy (n:Int) (d:D):Bool:=match d with
 | .list xs=>decide (0<xs.length)&&(xs.all (inR n)&&gF xs)
 | _=>false
theorem AX:shaped b8=true:=by decide +kernel
theorem ES:shaped cB=true:=by decide +kernel
theorem CF {x:Str} (hx:PyData.strOk x=true):bE false (.str x) b8=some (.bool (DL (.str x))):=by
 unfold bE b8;have:=AX
 unfold b8 at this;simp only [uc hx,this,Bool.and_self,if_true]
 rfl
theorem FE {i:Int}:bE false (.int i) cB=some (.bool (CI (.int i))):=by
 unfold bE cB;have:=ES
 unfold cB at this;simp only [Ad,this,Bool.and_self,if_true]
 rfl
theorem ju {ds:List D} (h:gy ds) (hl:ds.length<=100):dj [.list ds]=.ok ⟨.leaf,.bool (ds.all DL&&gF ds)⟩:=by
 have hc:aC .leaf 1 (bt (af 0)) aR (az (bE false) (af 1) (eK b8)) [some ⟨.leaf,.list ds⟩,none]=.ok ⟨.lst .leaf,.list (ds.map fun d=>.bool (DL d))⟩ [some ⟨.leaf,.list ds⟩,none]:=by
  refine DB (f:=fun d=>⟨.leaf,.bool (DL d)⟩) (cf (aw rfl) rfl) (by simp) rfl (by omega) fun d hd=>⟨?_,rfl⟩
  obtain ⟨x,rfl,hx⟩:=h d hd;exact aE (aw rfl) aL (CF hx)
 exact aS (aW (v_and (bQ (ay hc ah) wu) (cn (ay (aw rfl) ah) (fm (.inr h) hl) rfl rfl)) rfl)
theorem chain_ev {i n:Int}:sR (.int 0) (.int i)=some (.bool (decide (0<=i)))/\eR (.int i) (.int n)=some (.bool (decide (i<n))):=⟨rfl,rfl⟩
theorem jt {ds:List D} {n:Int} (h:RowI ds) (hl:ds.length<=100):eG [.list ds,.int n]=.ok ⟨.leaf,.bool (ds.all (inR n)&&gF ds)⟩:=by
 have hc:aC .leaf 2 (bt (af 0)) aR (m9 sR eR (eK (.int 0)) (af 2) (af 1)) [some ⟨.leaf,.list ds⟩,some ⟨.leaf,.int n⟩,none]=.ok ⟨.lst .leaf,.list (ds.map fun d=>.bool (inR n d))⟩ [some ⟨.leaf,.list ds⟩,some ⟨.leaf,.int n⟩,none]:=by
  refine DB (f:=fun d=>⟨.leaf,.bool (inR n d)⟩) (cf (aw rfl) rfl) (by simp) rfl (by omega) fun d hd=>⟨?_,rfl⟩
  obtain ⟨i,rfl⟩:=h d hd;exact IU aL (aw rfl) (chain_ev (n:=n)).1 rfl (aw rfl) chain_ev.2
 exact aS (aW (v_and (bQ (ay hc ah) wu) (cn (ay (aw rfl) ah) (fm (.inl h) hl) rfl rfl)) rfl)
theorem jr {ds:List D} {n:Int} (h:RowI ds) (hl:ds.length<=100):di [.list ds,.int n]=.ok ⟨.leaf,.bool (decide (0<ds.length)&&(ds.all (inR n)&&gF ds))⟩:=by
 have e:rO (.int (ds.length:Nat)) (.int 0)=some (.bool (decide (0<ds.length))):=by
  show some (PyData.bool (decide ((0:Int)<(ds.length:Int))))=_
  congr 2
  exact decide_eq_decide.mpr (by omega)
 exact aS (aW (v_and (aE (bQ (ay (aw rfl) ah) rfl) aL e) (cn (ay (aw rfl) (ay (aw rfl) ah)) (jt h hl) rfl rfl)) rfl)
structure Wk (b:Nat) (os ms ss:List D):Prop where
 o:RowI os
 m:∀r∈ms,∃xs,r=.list xs/\gy xs/\xs.length<=30
 s:∀r∈ss,∃xs,r=.list xs/\RowI xs/\xs.length<=30
 lo:os.length<=b
 lm:ms.length<=b
 ls:ss.length<=b
noncomputable def F8 (os ms ss:List D):Bool:=decide ((os.length:Int)<1)||(decide ((24:Int)<os.length)||((!((ms.length:Int)==(os.length:Int)))||(!((ss.length:Int)==(os.length:Int)))))
noncomputable def isW (os ms ss:List D):Bool:=!F8 os ms ss&&(os.all CI&&(ms.all yc&&ss.all (zy os.length)))
theorem ne_int {a b:Int}:jm (.int a) (.int b)=some (.bool (!(a==b))):=by
 unfold jm;rw [Ad,Ad,Bool.and_self,if_pos rfl,PyData.eqv]
theorem gh {b:Nat} {os ms ss:List D} (h:Wk b os ms ss) (hb:b<=100):cA [.list os,.list ms,.list ss]=.ok ⟨.leaf,.bool (isW os ms ss)⟩:=by
 have lo:=h.lo
 have lm:=h.lm
 have ls:=h.ls
 refine aS ?_
 refine aq (cb (bQ (ay (aw rfl) ah) rfl) rfl (by simp [aQ])) ?_
 have hif:(hJ (aN ax (az eR (af 3) (eK (.int 1)))) (hJ (aN ax (az rO (af 3) (eK dR))) (hJ (aN ax (az jm (bw aT (ae (af 1) ag)) (af 3))) (aN ax (az jm (bw aT (ae (af 2) ag)) (af 3)))))) [some ⟨.leaf,.list os⟩,some ⟨.leaf,.list ms⟩,some ⟨.leaf,.list ss⟩,some ⟨.leaf,.int (os.length:Nat)⟩,none,none]
   = .ok (F8 os ms ss) [some ⟨.leaf,.list os⟩,some ⟨.leaf,.list ms⟩,some ⟨.leaf,.list ss⟩,some ⟨.leaf,.int (os.length:Nat)⟩,none,none]:=
  vV (dY (aE (aw rfl) aL rfl)) (vV (dY (aE (aw rfl) aL rfl)) (vV (dY (aE (bQ (ay (aw rfl) ah) rfl) (aw rfl) ne_int)) (dY (aE (bQ (ay (aw rfl) ah) rfl) (aw rfl) ne_int))))
 cases hbad:F8 os ms ss with
 | true=>
  rw [hbad] at hif;unfold isW;rw [hbad];exact qy (aV hif (fun _=>aW aL rfl) nofun)
 | false=>
  rw [hbad] at hif;refine aq (aV hif nofun (fun _=>rfl)) ?_
  have c1:aC .leaf 4 (bt (af 0)) aR (az (bE false) (af 4) (eK cB)) [some ⟨.leaf,.list os⟩,some ⟨.leaf,.list ms⟩,some ⟨.leaf,.list ss⟩,some ⟨.leaf,.int (os.length:Nat)⟩,none,none]
    = .ok ⟨.lst .leaf,.list (os.map fun d=>.bool (CI d))⟩ [some ⟨.leaf,.list os⟩,some ⟨.leaf,.list ms⟩,some ⟨.leaf,.list ss⟩,some ⟨.leaf,.int (os.length:Nat)⟩,none,none]:=by
   refine DB (f:=fun d=>⟨.leaf,.bool (CI d)⟩) (cf (aw rfl) rfl) (by simp) rfl (by omega) fun d hd=>⟨?_,rfl⟩
   obtain ⟨i,rfl⟩:=h.o d hd;exact aE (aw rfl) aL FE
  have c2:aC .leaf 5 (bt (af 1)) aR (ak 1 dj (ae (af 5) ag)) [some ⟨.leaf,.list os⟩,some ⟨.leaf,.list ms⟩,some ⟨.leaf,.list ss⟩,some ⟨.leaf,.int (os.length:Nat)⟩,none,none]
    = .ok ⟨.lst .leaf,.list (ms.map fun d=>.bool (yc d))⟩ [some ⟨.leaf,.list os⟩,some ⟨.leaf,.list ms⟩,some ⟨.leaf,.list ss⟩,some ⟨.leaf,.int (os.length:Nat)⟩,none,none]:=by
   refine DB (f:=fun d=>⟨.leaf,.bool (yc d)⟩) (cf (aw rfl) rfl) (by simp) rfl (by omega) fun d hd=>⟨?_,rfl⟩
   obtain ⟨xs,rfl,hx,hl⟩:=h.m d hd;exact cn (ay (aw rfl) ah) (ju hx (by omega)) rfl rfl
  have c3:aC .leaf 5 (bt (af 2)) aR (ak 2 di (ae (af 5) (ae (af 3) ag))) [some ⟨.leaf,.list os⟩,some ⟨.leaf,.list ms⟩,some ⟨.leaf,.list ss⟩,some ⟨.leaf,.int (os.length:Nat)⟩,none,none]
    = .ok ⟨.lst .leaf,.list (ss.map fun d=>.bool (zy os.length d))⟩ [some ⟨.leaf,.list os⟩,some ⟨.leaf,.list ms⟩,some ⟨.leaf,.list ss⟩,some ⟨.leaf,.int (os.length:Nat)⟩,none,none]:=by
   refine DB (f:=fun d=>⟨.leaf,.bool (zy os.length d)⟩) (cf (aw rfl) rfl) (by simp) rfl (by omega) fun d hd=>⟨?_,rfl⟩
   obtain ⟨xs,rfl,hx,hl⟩:=h.s d hd;exact cn (ay (aw rfl) (ay (aw rfl) ah)) (jr hx (by omega)) rfl rfl
  have t1:=fx (cK (bQ (ay c1 ah) wu))
  cases ho:os.all CI with
  | false=>
   rw [ho] at t1;unfold isW;rw [ho,Bool.false_and,Bool.and_false];exact qy (aV t1 (fun _=>aW aL rfl) nofun)
  | true=>
   rw [ho] at t1;refine aq (aV t1 nofun (fun _=>rfl)) ?_
   unfold isW;rw [hbad,ho,Bool.not_false,Bool.true_and,Bool.true_and];exact aW (v_and (bQ (ay c2 ah) wu) (bQ (ay c3 ah) wu)) rfl
theorem C4 {xs:List D} (h:shaped (.list xs)=true):bL (.list xs) (.list [])=some (.bool (decide (xs.length=0))):=by
 unfold bL;have h2:shaped (.list [])=true:=by decide +kernel
 rw [h,h2,Bool.and_self,if_pos rfl]
 cases xs with
 | nil=>rfl
 | cons a r=>rfl
theorem G4 {xs:List D} (h:RowI xs):shaped (.list xs)=true:=by
 have c:PyData.canLayAll0 xs=true/\PyData.depthAll xs=0:=by
  induction xs with
  | nil=>exact ⟨rfl,rfl⟩
  | cons a r ih=>
   obtain ⟨n,rfl⟩:=h a mem_cons_self;have q:=ih fun x hx=>h x (mem_cons_of_mem _ hx)
   simp [PyData.canLayAll0,PyData.canLay0,PyData.depthAll,PyData.depth,q.1,q.2]
 simp [shaped,PyData.canLay0,PyData.depth,c.1,c.2]
theorem xl {xs:List D} (h:gy xs):shaped (.list xs)=true:=by
 have c:PyData.canLayAll0 xs=true/\PyData.depthAll xs=0:=by
  induction xs with
  | nil=>exact ⟨rfl,rfl⟩
  | cons a r ih=>
   obtain ⟨n,rfl,hn⟩:=h a mem_cons_self;have q:=ih fun x hx=>h x (mem_cons_of_mem _ hx)
   simp [PyData.canLayAll0,PyData.canLay0,PyData.depthAll,PyData.depth,q.1,q.2,hn]
 simp [shaped,PyData.canLay0,PyData.depth,c.1,c.2]
theorem lt_int {a b:Int}:eR (.int a) (.int b)=some (.bool (decide (a<b))):=rfl
theorem qb {a b:Int}:mC (.int a) (.int b)=some (.bool (decide (b<=a))):=rfl
theorem add_int' {a b:Int}:aO (.int a) (.int b)=some (.int (a+b)):=rfl
theorem sub_int' {a b:Int}:gSub (.int a) (.int b)=some (.int (a-b)):=rfl
theorem bX {a b:Int} (h:0<b):bV (.int a) (.int b)=some (.int (a % b)):=by
 show (if yN a b then _ else _)=_
 rw [if_pos (by unfold yN;simpa using h)]
theorem qj {a b:Int} (h:0<b) (h2:b<1073741824):oq (.int a) (.int b)=some (.int (a / b)):=by
 show (if yO a b then _ else _)=_
 rw [if_pos (by unfold yO;simp [h,h2])]
theorem pV {a b:Int} (h:-1000000000000<b) (h2:b<1000000000000):kE (.int a) (.int b)=some (.int (a*b)):=by
 show (if sC a b then _ else _)=_
 rw [if_pos (by unfold sC;simp only [Bool.or_eq_true,Bool.and_eq_true,decide_eq_true_eq];right;omega)]
theorem jN {a b:Int} (h:-1000000000000<a) (h2:a<1000000000000):kE (.int a) (.int b)=some (.int (a*b)):=by
 show (if sC a b then _ else _)=_
 rw [if_pos (by unfold sC;simp only [Bool.or_eq_true,Bool.and_eq_true,decide_eq_true_eq];left;omega)]
theorem pO {b:Int} (h:0<=b) (h2:b<=100):mB (.int 10) (.int b)=some (.int (10 ^ b.toNat)):=by
 show (if yM 10 b then _ else _)=_
 rw [if_pos (by unfold yM;simp only [Bool.and_eq_true,decide_eq_true_eq];exact ⟨⟨h,by omega⟩,by decide⟩)]
theorem Eg {xs:List D} (h:RowI xs) {k:Int} (hk:0<=k):∃c,aM [.list xs,.int k]=.ok ⟨.leaf,.int c⟩:=by
 have t:aN ax (az eR (af 1) (bw aT (ae (af 0) ag))) [some ⟨.leaf,.list xs⟩,some ⟨.leaf,.int k⟩]=.ok (decide (k<(xs.length:Int))) [some ⟨.leaf,.list xs⟩,some ⟨.leaf,.int k⟩]:=
  dY (aE (aw rfl) (bQ (ay (aw rfl) ah) rfl) lt_int)
 cases hlt:decide (k<(xs.length:Int)) with
 | true=>
  rw [hlt] at t;have hl:=of_decide_eq_true hlt
  have hk2:k.toNat<xs.length:=by omega
  obtain ⟨c,hc⟩:=h _ (getD_mem hk2);have g:=GB hk2
  rw [hc] at g;exact ⟨c,aS (qy (aV t (fun _=>aW (dJ (aw rfl) (aw rfl) (FA hk hl) g rfl) rfl) nofun))⟩
 | false=>
  rw [hlt] at t;exact ⟨0,aS (aq (aV t nofun (fun _=>rfl)) (aW aL rfl))⟩
theorem mG {c k b:Int} (hk:0<=k) (hk2:k<=1000) (hb:1<=b) (hb2:b<=1000):∃r,aj [.int c,.int k,.int b]=.ok ⟨.leaf,.int r⟩/\0<=r/\r<b:=by
 have t:aN ax (az mC (af 0) (az mB (eK (.int 10)) (eK (.int 18)))) [some ⟨.leaf,.int c⟩,some ⟨.leaf,.int k⟩,some ⟨.leaf,.int b⟩,none,none,none]=.ok (decide (10 ^ (18:Int).toNat<=c)) [some ⟨.leaf,.int c⟩,some ⟨.leaf,.int k⟩,some ⟨.leaf,.int b⟩,none,none,none]:=
  dY (aE (aw rfl) (aE aL aL (pO (by omega) (by omega))) qb)
 cases hge:decide (10 ^ (18:Int).toNat<=c) with
 | true=>
  rw [hge] at t;obtain ⟨Γ',e,l,x,hΓ⟩:=G8 (P:=fun _ Γ=>∃l x,Γ=[some ⟨.leaf,.int c⟩,some ⟨.leaf,.int k⟩,some ⟨.leaf,.int b⟩,none,some ⟨.leaf,.int l⟩,x]) (i:=5) (body:=aA false 4 (az oq (af 4) (af 2))) (b4 0 k.toNat) 0
   [some ⟨.leaf,.int c⟩,some ⟨.leaf,.int k⟩,some ⟨.leaf,.int b⟩,none,some ⟨.leaf,.int c⟩,none] ⟨c,none,rfl⟩ (fun m d Γ hd _ _ ⟨l,x,hΓ⟩=>by
    subst hΓ;refine ⟨by simp,_,cb (aE (aw rfl) (aw rfl) (qj (by omega) (by omega))) rfl (by simp),_,_,rfl⟩)
  subst hΓ;exact ⟨_,aS (qy (aV t (fun _=>aq (cb (aw rfl) rfl (by simp)) (aq (fM (nq (k:=k) (ay (aw rfl) ah) rfl (by omega) (by omega)) e) (aW (aE (aw rfl) (aw rfl) (bX (by omega))) rfl))) nofun)),Int.emod_nonneg _ (by omega),Int.emod_lt_of_pos _ (by omega)⟩
 | false=>
  rw [hge] at t;have m1:∀x:Int,0<=x % 2147483647/\x % 2147483647<2147483647:=fun x=>⟨Int.emod_nonneg _ (by omega),Int.emod_lt_of_pos _ (by omega)⟩
  refine ⟨_,aS (aq (aV t nofun (fun _=>rfl)) (aq (cb (aE (aE (aE (aE (aE (aw rfl) aL (bX (by omega))) (aE aL (aw rfl) (jN (by omega) (by omega))) add_int') aL add_int') aL (pV (by omega) (by omega))) aL (bX (by omega))) rfl (by simp [aQ]))
   (aq (cb (aE (aE (aE (aE (aw rfl) (aw rfl) (jN ?_ ?_)) (aE aL (aw rfl) (jN (by omega) (by omega))) add_int') aL add_int') aL (bX (by omega))) rfl (by simp [aQ]))
   (aW (aE (aE (aE (aE (aw rfl) aL (pV (by omega) (by omega))) aL (bX (by omega))) aL (qj (by omega) (by omega))) (aw rfl) (bX (by omega))) rfl)))),Int.emod_nonneg _ (by omega),Int.emod_lt_of_pos _ (by omega)⟩
  ·exact Int.lt_of_lt_of_le (by omega) (m1 _).1
  ·exact Int.lt_trans (m1 _).2 (by omega)
noncomputable def cP (c k b:Int):Int:=match aj [.int c,.int k,.int b] with
 | .ok ⟨_,.int r⟩=>r
 | _=>0
theorem wU {c k b:Int} (hk:0<=k) (hk2:k<=1000) (hb:1<=b) (hb2:b<=1000):aj [.int c,.int k,.int b]=.ok ⟨.leaf,.int (cP c k b)⟩:=by
 obtain ⟨r,e,_⟩:=mG (c:=c) hk hk2 hb hb2
 unfold cP;rw [e]
theorem D3 {c k b:Int} (hk:0<=k) (hk2:k<=1000) (hb:1<=b) (hb2:b<=1000):0<=cP c k b/\cP c k b<b:=by
 obtain ⟨r,e,h⟩:=mG (c:=c) hk hk2 hb hb2
 unfold cP;rw [e];exact h
theorem RowI.snoc {xs:List D} {i:Int} (h:RowI xs):RowI (xs++[.int i]):=fun a ha=>by
 rcases List.mem_append.mp ha with z | z
 ·exact h a z
 ·exact ⟨i,List.mem_singleton.mp z⟩
noncomputable def abc (d:D):D:=match d with
 | .int k=>(match fy [97,98,99] k with
  | some c=>.str ⟨#[c]⟩
  | none=>.none)
 | _=>.none
theorem uY {c:Nat} (h:c<1000):PyData.strOk ⟨#[c]⟩=true:=by
 unfold PyData.strOk;simp
 omega
noncomputable abbrev eW:FS:=(av (aA false 8 (ak 2 aM (ae (af 0) (ae (az aO (az aO (af 1) (eK (.int 1))) (af 7)) ag))))
  (av (eN 4 (ak 3 aj (ae (af 8) (ae (eK (.int 0)) (ae (eK (.int 2)) ag)))))
  (av (eN 5 (aC .leaf 11 (eJ (ae (eK (.int 3)) ag)) (aN ax (az bL (ak 3 aj (ae (af 8) (ae (az aO (eK (.int 1)) (af 11)) (ae (eK (.int 2)) ag)))) (eK (.int 1)))) (ai (eK (.str "abc")) (af 11))))
  (av (aA false 9 (aC .leaf 10 (eJ (ae (af 3) ag)) (aN ax (az bL (ak 3 aj (ae (af 8) (ae (az aO (eK (.int 4)) (af 10)) (ae (az aO (eK (.int 2)) (bw om (ae (az rO (af 3) (eK (.int 3))) ag))) ag)))) (eK (.int 1)))) (af 10)))
  (av (bF (aN ax (az bL (af 9) (aB .leaf ag))) (aA false 9 (aB .leaf (ae (ak 3 aj (ae (af 8) (ae (az aO (eK (.int 4)) (af 3)) (ae (af 3) ag)))) ag))) aG)
  (eN 6 (af 9)))))))
theorem uk {ts:List Int} (h:ts.Pairwise (· < ·)):gF (ts.map .int)=true:=by
 unfold gF;rw [all_eq_true];intro d hd;obtain ⟨k,hk,rfl⟩:=D6 hd;rw [length_map] at hk;have h1:k<ts.length:=by omega
 have h2:k+1<ts.length:=by omega
 unfold zI;dsimp only;rw [show (1+(k:Int)-1).toNat=k by omega,show (1+(k:Int)).toNat=k+1 by omega]
 rw [getD_eq_getElem?_getD,getD_eq_getElem?_getD,getElem?_map,getElem?_map,getElem?_eq_getElem h1,getElem?_eq_getElem h2];have:=List.pairwise_iff_getElem.mp h k (k+1) h1 h2 (by omega)
 show decide (ts[k]<ts[k+1])=true
 exact decide_eq_true this
structure Gw (N:Int) (n:Nat) (os ms ss:List D):Prop where
 lo:os.length=n
 lm:ms.length=n
 ls:ss.length=n
 o:∀a∈os,a=.int 0\/a=.int 1
 m:∀r∈ms,∃xs,r=.list xs/\gy xs/\xs.length<=30/\yc r=true
 s:∀r∈ss,∃ts:List Int,r=.list (ts.map .int)/\ts.length<=30/\ts≠[]/\(∀t∈ts,0<=t/\t<N)/\ts.Pairwise (· < ·)
theorem rowI_map {ts:List Int}:RowI (ts.map .int):=fun a ha=>by
 obtain ⟨n,_,e⟩:=List.mem_map.mp ha;exact ⟨n,e.symm⟩
theorem Gw.wk {N:Int} {n b:Nat} {os ms ss:List D} (h:Gw N n os ms ss) (hb:n<=b):Wk b os ms ss:=
 ⟨fun a ha=>(h.o a ha).elim (fun e=>⟨0,e⟩) fun e=>⟨1,e⟩,fun r hr=>let ⟨xs,e,a,b,_⟩:=h.m r hr;⟨xs,e,a,b⟩,fun r hr=>let ⟨ts,e,a,_⟩:=h.s r hr;⟨_,e,rowI_map,by rw [length_map];exact a⟩,by rw [h.lo];exact hb,by rw [h.lm];exact hb,by rw [h.ls];exact hb⟩
theorem Gw.isW {n:Nat} {os ms ss:List D} (h:Gw (n:Int) n os ms ss) (h1:1<=n) (h24:n<=24):isW os ms ss=true:=by
 unfold KC.isW F8;rw [h.lo,h.lm,h.ls];have e1:decide ((n:Int)<1)=false:=decide_eq_false (by omega)
 have e2:decide ((24:Int)<n)=false:=decide_eq_false (by omega)
 rw [e1,e2];simp only [beq_self_eq_true,Bool.not_true,Bool.or_self,Bool.not_false,Bool.true_and,Bool.and_eq_true,all_eq_true]
 refine ⟨fun a ha=>?_,fun r hr=>?_,fun r hr=>?_⟩
 ·rcases h.o a ha with rfl | rfl<;>rfl
 ·obtain ⟨xs,_,_,_,e⟩:=h.m r hr
  exact e
 ·obtain ⟨ts,rfl,h2,h3,h4,h5⟩:=h.s r hr
  unfold zy;simp only [Bool.and_eq_true,decide_eq_true_eq,length_map,all_eq_true]
  refine ⟨by cases ts with | nil=>exact absurd rfl h3 | cons a r=>simp,fun a ha=>?_,uk h5⟩
  obtain ⟨t,ht,rfl⟩:=List.mem_map.mp ha;have:=h4 t ht
  unfold inR;simp only [Bool.and_eq_true,decide_eq_true_eq]
  exact this
theorem J8 (c0 c1 c2:Bool):yc (.list (((if c0 then [PyData.str ⟨#[97]⟩] else [])++((if c1 then [PyData.str ⟨#[98]⟩] else [])++(if c2 then [PyData.str ⟨#[99]⟩] else [])))))=true:=by
 cases c0<;>cases c1<;>cases c2<;>decide +kernel
theorem A9 (n:Nat) (c:D->Bool):∃ts:List Int,((b4 0 n).filter c).map (fun d=>d)=ts.map .int/\(∀t∈ts,0<=t/\t<(n:Int))/\ts.Pairwise (· < ·)/\ts.length<=n:=by
 refine ⟨((List.range n).map fun i=>(0:Int)+(i:Nat)).filter fun i=>c (.int i),?_,fun t ht=>?_,?_,?_⟩
 ·rw [List.map_id']
  unfold b4;rw [show (fun i:Nat=>PyData.int (0+(i:Int)))=(PyData.int∘fun i:Nat=>(0:Int)+(i:Nat)) from rfl,<-map_map,List.filter_map]
  rfl
 ·obtain ⟨h1,_⟩:=List.mem_filter.mp ht
  obtain ⟨i,hi,rfl⟩:=List.mem_map.mp h1;rw [mem_range] at hi;omega
 ·refine List.Pairwise.filter _ ?_
  rw [List.pairwise_map];exact List.pairwise_lt_range.imp fun h=>by omega
 ·refine Nat.le_trans (length_filter_le _ _) ?_
  simp
noncomputable abbrev W3:Sh:=.tup [.lst .leaf,.lst .leaf,.lst .leaf]
noncomputable abbrev dM (os ms ss:List D):D:=.tuple [.list os,.list ms,.list ss]
theorem jM {n:Nat} {g:FS} {ds:List D} {Γ:Ev} (h:g (aQ n ds)=.nx Γ):aD n g ds=.ok ⟨.leaf,.none⟩:=by unfold aD;rw [h]
theorem gz {Γ Γ1:Ev} {fa:F1} {p:PV} (h:fa Γ=.ok p Γ1):bA fa Γ=.nx Γ1:=by unfold bA gE;rw [h]
theorem sg {b:Nat} {os ms ss:List D} (h:Wk b os ms ss) (hb:b<=100) (hw:isW os ms ss=true):dt [dM os ms ss]=.ok ⟨.leaf,.none⟩:=by
 have t:b9 (aN bf (ak 3 cA (ae (ai (af 0) (eK (.int 0))) (ae (ai (af 0) (eK (.int 1))) (ae (ai (af 0) (eK (.int 2))) ag))))) [some ⟨.leaf,dM os ms ss⟩]=.ok (!(isW os ms ss)) [some ⟨.leaf,dM os ms ss⟩]:=
  fx (cK (cn (ay (nc (j:=0) (aw rfl) aL rfl rfl rfl) (ay (nc (j:=1) (aw rfl) aL rfl rfl rfl) (ay (nc (j:=2) (aw rfl) aL rfl rfl rfl) ah))) (gh h hb) rfl rfl))
 rw [hw] at t;exact jM (aV t nofun (fun _=>rfl))
theorem u1 {d:D} (h:shaped d=true):jm d d=some (.bool false):=by
 unfold jm;rw [h,Bool.and_self,if_pos rfl,PySem.SeqAt.eqv_refl _ (canLay_of_shaped h)];rfl
noncomputable def dl (S:List (List Int)):List D:=S.map fun ts=>.list (ts.map .int)
structure Sw (n:Nat) (S:List (List Int)):Prop where
 len:S.length=n
 row:∀ts∈S,ts.length<=30/\(∀t∈ts,0<=t/\t<(n:Int))/\ts.Pairwise (· < ·)
theorem vh {ts:List Int} {i:Int}:bE false (.int i) (.list (ts.map .int))=some (.bool (ts.contains i)):=by
 unfold bE;simp only [Ad,G4 rowI_map,Bool.and_self,if_true]
 congr 2
 rw [Bool.eq_iff_iff];simp only [Bool.false_eq_true,if_false,any_eq_true,mem_map,contains_iff_mem]
 constructor
 ·rintro ⟨d,⟨t,ht,rfl⟩,e⟩
  rw [PyData.eqv] at e;have:t=i:=by simpa using e
  rw [<-this];exact ht
 ·intro h
  exact ⟨.int i,⟨i,h,rfl⟩,by rw [PyData.eqv];simp⟩
noncomputable def has (x:Str) (d:D):Bool:=match d with
 | .list xs=>xs.any fun y=>PyData.eqv y (.str x)
 | _=>false
theorem CG {x:Str} {xs:List D} (hx:PyData.strOk x=true) (h:gy xs):bE false (.str x) (.list xs)=some (.bool (has x (.list xs))):=by
 unfold bE;simp only [uc hx,xl h,Bool.and_self,if_true]
 rfl
theorem rz {ts:List Int} {i:Int}:bE true (.int i) (.list (ts.map .int))=some (.bool (!ts.contains i)):=by
 have h:=vh (ts:=ts) (i:=i)
 unfold bE at h ⊢
 simp only [Ad,G4 rowI_map,Bool.and_self,if_true,Bool.false_eq_true,if_false] at h ⊢
 have h:=Option.some.inj h
 injection h with h
 rw [h]
end KC
namespace T
open PySem PySem.Spec L2
open PyProof.Rows hiding St
section
variable {Γ Γ1:Ev} {fa fb fc:F1} {fl:FL} {p:PV} {i n:Nat} {ga gb:FB} {g1 g2:FS}
@[simp] theorem JE:sizeLine=16777216:=rfl
@[simp] theorem wK {α β:Type} {a:α} {e:Ev} {k:α->Ev->Out β}:(Out.ok a e).bind k=k a e:=rfl
@[simp] theorem r_k {d:D}:eK d Γ=.ok ⟨.leaf,d⟩ Γ:=rfl
@[simp] theorem KU:ag Γ=.ok [] Γ:=rfl
@[simp] theorem Jx:aR Γ=.ok true Γ:=rfl
@[simp] theorem JB:aG Γ=.nx Γ:=rfl
@[simp] theorem JS:ae fa fl Γ=(fa Γ).bind fun p Γ1=>(fl Γ1).bind fun ps Γ2=>.ok (p::ps) Γ2:=rfl
@[simp] theorem Bv {g:D->D->Option D}:az g fa fb Γ=(fa Γ).bind fun p Γ1=>(fb Γ1).bind fun q Γ2=>match g p.d q.d with | some d=>.ok ⟨.leaf,d⟩ Γ2 | none=>.no:=rfl
@[simp] theorem Lu {g:List D->Option D}:bw g fl Γ=(fl Γ).bind fun ps Γ'=>match g (ps.map (·.d)) with | some d=>.ok ⟨.leaf,d⟩ Γ' | none=>.no:=rfl
@[simp] theorem EZ {g:D->Option Bool}:aN g fa Γ=(fa Γ).bind fun p Γ'=>match g p.d with | some b=>.ok b Γ' | none=>.no:=rfl
@[simp] theorem JU:b9 ga Γ=(ga Γ).bind fun c Γ'=>.ok (!c) Γ':=rfl
@[simp] theorem JV:dU ga gb Γ=(ga Γ).bind fun c Γ'=>if c then gb Γ' else .ok false Γ':=rfl
@[simp] theorem K3:hJ ga gb Γ=(ga Γ).bind fun c Γ'=>if c then .ok true Γ' else gb Γ':=rfl
@[simp] theorem K2:wG ga fa fb Γ=(ga Γ).bind fun b Γ'=>if b then fa Γ' else fb Γ':=rfl
@[simp] theorem JQ:d9 fa fb Γ=(fa Γ).bind fun p Γ=>match p.d with | .bool true=>fb Γ | .bool false=>.ok ⟨.leaf,.bool false⟩ Γ | _=>.no:=rfl
@[simp] theorem JP:vC fa Γ=(fa Γ).bind fun p Γ=>match p.d with | .bool b=>.ok ⟨.leaf,.bool (!b)⟩ Γ | _=>.no:=rfl
@[simp] theorem eZ:av g1 g2 Γ=match g1 Γ with | .nx Γ'=>g2 Γ' | .rt p=>.rt p | .bk Γ'=>.bk Γ' | .ct Γ'=>.ct Γ' | .er c Γ'=>.er c Γ' | .no=>.no:=by
 unfold av
 cases g1 Γ<;>rfl
@[simp] theorem xM {k:PV->Ev->eu}:gE fa k Γ=match fa Γ with | .ok p Γ1=>k p Γ1 | .er c Γ1=>.er c Γ1 | .no=>.no:=by
 unfold gE
 cases fa Γ<;>rfl
@[simp] theorem JJ:bF ga g1 g2 Γ=match ga Γ with | .ok b Γ1=>if b then g1 Γ1 else g2 Γ1 | .er c Γ1=>.er c Γ1 | .no=>.no:=by
 unfold bF
 cases ga Γ<;>rfl
@[simp] theorem HC {b:Bool}:ax (.bool b)=some b:=rfl
@[simp] theorem JM {b:Bool}:bf (.bool b)=some b:=rfl
@[simp] theorem HA {xs:List D}:bf (.list xs)=some (!xs.isEmpty):=rfl
noncomputable def HH (p:PV):PV:=match p.s with
 | .leaf=>p
 | _=>⟨.view,p.d⟩
@[simp] theorem uD {d:D}:HH ⟨.leaf,d⟩=⟨.leaf,d⟩:=rfl
@[simp] theorem KO {s:Sh} {d:D}:HH ⟨.lst s,d⟩=⟨.view,d⟩:=rfl
@[simp] theorem KN {s:List Sh} {d:D}:HH ⟨.tup s,d⟩=⟨.view,d⟩:=rfl
@[simp] theorem pG:af i Γ=match Γ[i]? with | some (some p)=>.ok (HH p) Γ | _=>.no:=by
 unfold af
 cases h:Γ[i]? with
 | none=>rfl
 | some o=>
  cases o with
  | none=>rfl
  | some p=>
   obtain ⟨s,d⟩:=p
   cases s<;>rfl
@[simp] theorem JC:bT i Γ=match Γ[i]? with | some (some p)=>.ok p (Γ.set i none) | _=>.no:=rfl
@[simp] theorem Bx {d:D}:coer .leaf ⟨.leaf,d⟩=true:=rfl
@[simp] theorem HE {s:Sh} {d:D}:coer .leaf ⟨.lst s,d⟩=true:=rfl
@[simp] theorem HD {s:List Sh} {d:D}:coer .leaf ⟨.tup s,d⟩=true:=rfl
@[simp] theorem HF {i:Int} {s:Sh}:coer .leaf ⟨s,.int i⟩=true:=by cases s<;>rfl
@[simp] theorem HG {b:Bool} {s:Sh}:coer .leaf ⟨s,.bool b⟩=true:=by cases s<;>rfl
@[simp] theorem JI:Sh.isView .leaf=false:=rfl
@[simp] theorem JH {s:Sh}:Sh.isView (.lst s)=false:=rfl
@[simp] theorem JG {s:List Sh}:Sh.isView (.tup s)=false:=rfl
@[simp] theorem pH {own:Bool}:aA own i fa Γ=match fa Γ with | .ok p Γ1=>(if i<Γ1.length then (if own&&!p.s.isView then .nx (Γ1.set i (some p)) else if T.coer .leaf p then .nx (Γ1.set i (some ⟨.leaf,p.d⟩)) else .no) else .no) | .er c Γ1=>.er c Γ1 | .no=>.no:=by
 unfold aA;rw [xM]
@[simp] theorem pI:aI fa Γ=match fa Γ with | .ok p Γ1=>(if p.s.isView then (if bu p.d then .rt ⟨.leaf,p.d⟩ else .no) else .rt p) | .er c Γ1=>.er c Γ1 | .no=>.no:=by
 unfold aI;rw [xM]
@[simp] theorem JR:bA fa Γ=match fa Γ with | .ok p Γ1=>.nx Γ1 | .er c Γ1=>.er c Γ1 | .no=>.no:=by
 unfold bA;rw [xM]
@[simp] theorem JT {den:List D->Res}:ak n den fl Γ=(fl Γ).bind fun ps Γ'=>if ps.length=n then (match den (ps.map (·.d)) with | .ok p=>if ps.all (T.coer .leaf) then .ok p Γ' else if bu p.d then .ok ⟨.leaf,p.d⟩ Γ' else .ok ⟨.view,p.d⟩ Γ' | _=>.no) else .no:=rfl
@[simp] theorem JO {a b:Int}:aO (.int a) (.int b)=some (.int (a+b)):=rfl
@[simp] theorem JN {a b:Int}:gSub (.int a) (.int b)=some (.int (a-b)):=rfl
@[simp] theorem K0 {a b:Int}:eR (.int a) (.int b)=some (.bool (decide (a<b))):=rfl
@[simp] theorem K1 {a b:Int}:rO (.int a) (.int b)=some (.bool (decide (b<a))):=rfl
@[simp] theorem GF {ds:List D}:aT [.list ds]=some (.int ds.length):=rfl
@[simp] theorem HB {ds:List D}:aT [.tuple ds]=some (.int ds.length):=rfl
noncomputable def mz (p q:PV):Ev->Out PV:=ai (fun Γ=>.ok p Γ) (fun Γ=>.ok q Γ)
@[simp] theorem fQ:ai fa fb Γ=(fa Γ).bind fun p Γ1=>(fb Γ1).bind fun q Γ2=>mz p q Γ2:=by
 unfold mz ai bg
 cases fa Γ with
 | ok p Γ1=>simp only [wK]
 | er c Γ1=>rfl
 | no=>rfl
@[simp] theorem zC {ds:List D} {k:Int} {s:Sh}:mz ⟨.leaf,.tuple ds⟩ ⟨s,.int k⟩ Γ=match fy ds k with | some d=>.ok ⟨.leaf,d⟩ Γ | none=>.no:=by
 unfold mz ai bg fy;simp only [wK]
 cases h:fh ds.length k with
 | none=>rfl
 | some j=>
  simp only [Option.bind_some]
  cases h2:ds[j]? with
  | none=>rfl
  | some d=>rfl
@[simp] theorem zD {ds:List D} {k:Int} {s:Sh}:mz ⟨.leaf,.list ds⟩ ⟨s,.int k⟩ Γ=match fy ds k with | some d=>.ok ⟨.leaf,d⟩ Γ | none=>.no:=by
 unfold mz ai bg fy;simp only [wK]
 cases h:fh ds.length k with
 | none=>rfl
 | some j=>
  simp only [Option.bind_some]
  cases h2:ds[j]? with
  | none=>rfl
  | some d=>rfl
@[simp] theorem zB {ds:List D} {k:Int} {s:Sh}:mz ⟨.view,.list ds⟩ ⟨s,.int k⟩ Γ=match fy ds k with | some d=>.ok ⟨if bu d then .leaf else .view,d⟩ Γ | none=>.no:=by
 unfold mz ai bg fy;simp only [wK]
 cases h:fh ds.length k with
 | none=>rfl
 | some j=>
  simp only [Option.bind_some]
  cases h2:ds[j]? with
  | none=>rfl
  | some d=>rfl
@[simp] theorem E9 {α:Type} {a:α} {r:List α}:fy (a::r) 0=some a:=by
 simp [fy,fh]
@[simp] theorem K5 {α:Type} {a b:α} {r:List α}:fy (a::b::r) 1=some b:=by
 have:(1:Int)<(r.length:Int)+1+1:=by omega
 simp [fy,fh,this]
@[simp] theorem E8 {α:Type} {a b c:α} {r:List α}:fy (a::b::c::r) 2=some c:=by
 have:(2:Int)<(r.length:Int)+1+1+1:=by omega
 simp [fy,fh,this]
theorem zY {α:Type} {xs:List α} {k:Nat} {x:α} (h:xs[k]?=some x):fy xs (k:Int)=some x:=by
 have hk:=(List.getElem?_eq_some_iff.mp h).1
 have:(k:Int)<(xs.length:Int):=by omega
 simp [fy,fh,this,h]
end
section
variable {Γ:Ev} {fa fb:F1} {i:Nat}
@[simp] theorem KW {c:String}:jn c fa Γ=(fa Γ).bind fun p Γ=>.ok ⟨.leaf,.bool (yi (DG p.d) c)⟩ Γ:=rfl
@[simp] theorem JD {s:Sh} {fl:FL}:aB s fl Γ=(fl Γ).bind fun ps Γ'=>if !s.isView&&ps.all (T.coer s)&&decide (ps.length<=sizeLine) then .ok ⟨.lst s,.list (ps.map (·.d))⟩ Γ' else .no:=rfl
@[simp] theorem KL {fl:FL}:bo fl Γ=(fl Γ).bind fun ps Γ'=>if ps.all tok&&decide (ps.length<=sizeLine) then .ok ⟨.tup (ps.map zq),.tuple (ps.map (·.d))⟩ Γ' else .no:=rfl
@[simp] theorem JA {d:D}:tok ⟨.leaf,d⟩=true:=rfl
@[simp] theorem Jz {s:Sh} {d:D}:tok ⟨.lst s,d⟩=true:=rfl
@[simp] theorem Jy {s:List Sh} {d:D}:tok ⟨.tup s,d⟩=true:=rfl
@[simp] theorem KY {a:D}:cJ false a .none=some (.bool (sU a)):=rfl
@[simp] theorem JF {a:D}:cJ true a .none=some (.bool (!sU a)):=rfl
@[simp] theorem KM:yw fa fb Γ=(fa Γ).bind fun p Γ1=>(fb Γ1).bind fun q Γ2=>match p.d,q.d with | .tuple xs,.int k=>if !p.s.isView&&decide (1<=k)&&decide (k<=xs.length) then .ok ⟨.leaf,.tuple (xs.drop k.toNat)⟩ Γ2 else .no | _,_=>.no:=rfl
@[simp] theorem KZ {neg:Bool} {tab:List (Str×Int)}:vD neg tab fa Γ=(fa Γ).bind fun p Γ=>match p.d with | .str k=>.ok ⟨.leaf,.bool (if neg then !(cj k tab).isSome else (cj k tab).isSome)⟩ Γ | _=>.no:=rfl
@[simp] theorem JL {tab:List (Str×Int)}:qi tab fa Γ=(fa Γ).bind fun p Γ=>match p.d with | .str k=>(match cj k tab with | some i=>.ok ⟨.leaf,.int i⟩ Γ | none=>.no) | _=>.no:=rfl
@[simp] theorem Bw:eI fa Γ=(fa Γ).bind fun p Γ'=>match p.d with | .tuple ds=>if cR p ds then .ok ⟨ds,!p.s.isView⟩ Γ' else .no | _=>.no:=rfl
@[simp] theorem JK:bt fa Γ=(fa Γ).bind fun p Γ'=>match p.d with | .list ds=>if cR p ds then .ok ⟨ds,!p.s.isView⟩ Γ' else .no | _=>.no:=rfl
@[simp] theorem KS {d:D} {ds:List D}:cR ⟨.leaf,d⟩ ds=true:=rfl
@[simp] theorem KR {s:Sh} {d:D} {ds:List D}:cR ⟨.lst s,d⟩ ds=true:=rfl
@[simp] theorem KP {s:List Sh} {d:D} {ds:List D}:cR ⟨.tup s,d⟩ ds=true:=rfl
@[simp] theorem K4 {f:F1}:iy i f Γ=match Γ[i]? with | some (some ⟨.leaf,.int a⟩)=>gE f (vX i a) Γ | _=>.no:=rfl
@[simp] theorem JW {a b:Int} {s:Sh}:vX i a ⟨s,.int b⟩ Γ=if i<Γ.length then .nx (Γ.set i (some ⟨.leaf,.int (a+b)⟩)) else .no:=rfl
theorem El {β:Type} {c:FB} {g:FS} {G:β->Ev} {test:β->Bool} {Inv:β->Prop} {meas:β->Nat} (hc:∀b,Inv b->c (G b)=.ok (test b) (G b)) (hg:∀b,Inv b->test b=true->∃b',g (G b)=.nx (G b')/\Inv b'/\meas b'<meas b) :
  ∀(N:Nat) (b:β),Inv b->meas b<N->∃b',sM c g N (G b)=.nx (G b')/\Inv b'/\test b'=false
 | 0,b,_,h=>by omega
 | N+1,b,hi,hm=>by
  rw [sM,hc b hi]
  cases ht:test b with
  | false=>exact ⟨b,rfl,hi,ht⟩
  | true=>
   obtain ⟨b1,h1,h2,h3⟩:=hg b hi ht;obtain ⟨b',e,q⟩:=El hc hg N b1 h2 (by omega)
   refine ⟨b',?_,q⟩
   simp only [h1]
   exact e
theorem Dj {fa:F1} {p:PV} {ds:List D} (ho:Γ[i]?=some (some ⟨.lst .leaf,.list ds⟩)) (h:fa Γ=.ok p Γ) (hc:coer .leaf p=true) (hn:ds.length<=9000):eN i fa Γ=.nx (Γ.set i (some ⟨.lst .leaf,.list (ds++[p.d])⟩)):=by
 have hb:(10000:Nat)<=sizeLine:=by decide
 unfold eN Dv;rw [ho];simp only [if_true,xM,h]
 unfold yU;rw [ho];have:ds.length<sizeLine:=by omega
 simp only [hc,decide_eq_true this,Bool.and_self,if_true]
end
theorem IX {α:Type} {en:α->D} {i:Nat} {fc:FB} {fe:F1} {s:Sh} {c:α->Bool} {f:α->PV} {Γ:Ev} (hΓ:Γ.set i none=Γ):∀(r:List α) (acc:List D),(∀x∈r,fc (Γ.set i (some ⟨.leaf,en x⟩))=.ok (c x) (Γ.set i (some ⟨.leaf,en x⟩))) ->
  (∀x∈r,c x=true->fe (Γ.set i (some ⟨.leaf,en x⟩))=.ok (f x) (Γ.set i (some ⟨.leaf,en x⟩))/\coer s (f x)=true)->acc.length+r.length<=sizeLine->qv i fc fe s (r.map en) Γ acc=.ok (acc++((r.filter c).map fun x=>(f x).d)) Γ
 | [],acc,_,_,_=>by simp [qv]
 | x::r,acc,hc,he,hl=>by
  have h1:=hc x mem_cons_self
  have hl1:acc.length<sizeLine:=by simp only [length_cons] at hl;omega
  have back:(Γ.set i (some ⟨.leaf,en x⟩)).set i none=Γ:=by rw [set_set];exact hΓ
  rw [map_cons,qv,h1]
  cases hcd:c x with
  | false=>
   dsimp only;rw [if_pos hl1,back,IX hΓ r acc (fun d hd=>hc d (mem_cons_of_mem _ hd)) (fun d hd=>he d (mem_cons_of_mem _ hd)) (by simp only [length_cons] at hl;omega)]
   rw [List.filter_cons_of_neg (by rw [hcd];exact Bool.false_ne_true)]
  | true=>
   obtain ⟨h2,h3⟩:=he x mem_cons_self hcd;dsimp only;rw [h2];dsimp only;rw [h3,decide_eq_true hl1,Bool.and_self,if_pos rfl,back,IX hΓ r (acc++[(f x).d]) (fun d hd=>hc d (mem_cons_of_mem _ hd)) (fun d hd=>he d (mem_cons_of_mem _ hd)) (by simp only [length_cons,length_append,length_nil] at hl ⊢;omega)]
   rw [List.filter_cons_of_pos hcd,map_cons,append_assoc];rfl
theorem wA {α:Type} (en:α->D) (xs:List α) (c:α->Bool) (f:α->PV) {s:Sh} {i:Nat} {fi:FI} {fc:FB} {fe:F1} {st:Bool} {Γ:Ev} (hi:fi Γ=.ok ⟨xs.map en,st⟩ Γ) (hl:i<Γ.length) (hs:s.isView=false) (hn:xs.length<=10000)
  (hc:∀x∈xs,fc (Γ.set i (some ⟨.leaf,en x⟩))=.ok (c x) (Γ.set i (some ⟨.leaf,en x⟩))) (he:∀x∈xs,c x=true->fe (Γ.set i (some ⟨.leaf,en x⟩))=.ok (f x) (Γ.set i (some ⟨.leaf,en x⟩))/\coer s (f x)=true) :
  aC s i fi fc fe Γ=.ok ⟨.lst s,.list ((xs.filter c).map fun x=>(f x).d)⟩ Γ:=by
 have hb:(10000:Nat)<=sizeLine:=by decide
 unfold aC;rw [hi];unfold Out.bind;dsimp only;rw [IX (c:=c) (f:=f) (by rw [set_set]) xs [] (fun d hd=>by rw [set_set];exact hc d hd) (fun d hd=>by rw [set_set];exact he d hd) (by simp;omega)]
 dsimp only;rw [hs,decide_eq_true hl];simp only [Bool.not_false,Bool.and_self,if_true,nil_append,set_set]
 have:Γ.set i (Γ.getD i none)=Γ:=by
  apply Aj
  rw [getD_eq_getElem?_getD,getElem?_eq_getElem hl];rfl
 rw [this]
theorem oT {α:Type} (en:α->D) (xs:List α) (f:α->PV) {s:Sh} {i:Nat} {fi:FI} {fe:F1} {st:Bool} {Γ:Ev} (hi:fi Γ=.ok ⟨xs.map en,st⟩ Γ) (hl:i<Γ.length) (hs:s.isView=false) (hn:xs.length<=10000)
  (he:∀x∈xs,fe (Γ.set i (some ⟨.leaf,en x⟩))=.ok (f x) (Γ.set i (some ⟨.leaf,en x⟩))/\coer s (f x)=true):aC s i fi aR fe Γ=.ok ⟨.lst s,.list (xs.map fun x=>(f x).d)⟩ Γ:=by
 rw [wA (fc:=aR) en xs (fun _=>true) f hi hl hs hn (fun _ _=>rfl) fun x hx _=>he x hx,List.filter_eq_self.mpr fun _ _=>rfl]
theorem IH {α β:Type} (en:α->D) (step:β->α->β) {Inv:β->List α->Prop} {i:Nat} {body:FS} {G:β->Option PV->Ev} (hi:∀b x,i<(G b x).length) (hset:∀b x y,(G b x).set i y=G b y)
  (hb:∀b a r,Inv b (a::r)->body (G b (some ⟨.leaf,en a⟩))=.nx (G (step b a) (some ⟨.leaf,en a⟩))/\Inv (step b a) r):∀(xs:List α) (b:β) (x:Option PV),Inv b xs->∃y,bO i body (xs.map en) (G b x)=.nx (G (xs.foldl step b) y)/\Inv (xs.foldl step b) []
 | [],b,x,h=>⟨x,rfl,h⟩
 | a::r,b,x,h=>by
  obtain ⟨h1,h2⟩:=hb b a r h;obtain ⟨y,e,h3⟩:=IH en step hi hset hb r (step b a) (some ⟨.leaf,en a⟩) h2
  refine ⟨y,?_,h3⟩
  rw [map_cons,bO,if_pos (hi b x),hset,h1];exact e
end T
namespace KC
open PySem PySem.Spec L2 T PySem.SeqAt
open PyProof.Rows hiding St
noncomputable abbrev rm (t:Nat):D:=.int (t:Int)
noncomputable abbrev aF (r:List Nat):D:=.list (r.map rm)
theorem GZ {n:Nat}:b4 0 n=(List.range n).map rm:=by
 unfold b4;simp
theorem wI {t:Nat} {r:List Nat}:bE false (rm t) (aF r)=some (.bool (r.contains t)):=by
 have h:=vh (ts:=r.map fun t:Nat=>(t:Int)) (i:=t)
 rw [map_map] at h;refine h.trans ?_
 congr 2
 rw [Bool.eq_iff_iff,contains_iff_mem,contains_iff_mem,mem_map];exact ⟨fun ⟨a,h1,h2⟩=>by rw [<-Int.ofNat_inj.mp h2];exact h1,fun h=>⟨t,h,rfl⟩⟩
theorem Hj {t:Nat} {r:List Nat}:bE true (rm t) (aF r)=some (.bool (!r.contains t)):=by
 have h:=rz (ts:=r.map fun t:Nat=>(t:Int)) (i:=t)
 rw [map_map] at h;refine h.trans ?_
 congr 3
 rw [Bool.eq_iff_iff,contains_iff_mem,contains_iff_mem,mem_map];exact ⟨fun ⟨a,h1,h2⟩=>by rw [<-Int.ofNat_inj.mp h2];exact h1,fun h=>⟨t,h,rfl⟩⟩
structure Wd where
 n:Nat
 os:List D
 m:List (List Str)
 s:List (List Nat)
noncomputable def AG (r:List Str):D:=.list (r.map .str)
noncomputable def Wd.enc (w:Wd):D:=dM w.os (w.m.map AG) (w.s.map aF)
structure Wd.Ok (w:Wd):Prop where
 g:Gw (w.n:Int) w.n w.os (w.m.map AG) (w.s.map aF)
 h1:1<=w.n
 h24:w.n<=24
 lm:w.m.length=w.n
 ls:w.s.length=w.n
 st:∀r∈w.s,r≠[]/\r.length<=30/\∀t∈r,t<w.n
 mc:∀r∈w.m,∀c∈r,PyData.strOk c=true
noncomputable def Wd.stp (w:Wd) (r:Nat):List Nat:=w.s.getD r []
noncomputable def Wd.mks (w:Wd) (r:Nat):List Str:=w.m.getD r []
theorem Wd.Ok.at2 {w:Wd} (h:w.Ok) {r:Nat} (hr:r<w.n):fy (w.s.map aF) (r:Int)=some (aF (w.stp r)):=by
 refine zY ?_
 unfold Wd.stp;rw [getElem?_map,getD_eq_getElem?_getD,getElem?_eq_getElem (by rw [h.ls];exact hr)]
 rfl
theorem Wd.Ok.at1 {w:Wd} (h:w.Ok) {r:Nat} (hr:r<w.n):fy (w.m.map AG) (r:Int)=some (AG (w.mks r)):=by
 refine zY ?_
 unfold Wd.mks;rw [getElem?_map,getD_eq_getElem?_getD,getElem?_eq_getElem (by rw [h.lm];exact hr)]
 rfl
theorem Wd.Ok.stp_lt {w:Wd} (h:w.Ok) {r t:Nat} (ht:t∈w.stp r):t<w.n:=by
 unfold Wd.stp at ht;rw [getD_eq_getElem?_getD] at ht
 cases e:w.s[r]? with
 | none=>rw [e] at ht;simp at ht
 | some x=>rw [e] at ht;exact (h.st x (mem_of_getElem? e)).2.2 t ht
theorem Wd.Ok.stp_ne {w:Wd} (h:w.Ok) {r:Nat} (hr:r<w.n):w.stp r≠[]:=by
 unfold Wd.stp;rw [getD_eq_getElem?_getD,getElem?_eq_getElem (by rw [h.ls];exact hr)]
 exact (h.st _ (getElem_mem _)).1
theorem gY {w:Wd} (h:w.Ok) {r:List Nat}:cE [w.enc,aF r]=.ok ⟨.lst .leaf,aF ((List.range w.n).filter fun t=>!r.contains t)⟩:=by
 have lo:=h.g.lo
 have h24:=h.h24
 refine aS ?_
 have e:aC .leaf 2 (eJ (ae (bw aT (ae (ai (af 0) (eK (.int 0))) ag)) ag)) (aN ax (az (bE true) (af 2) (af 1))) (af 2) (aQ 3 [w.enc,aF r])=.ok ⟨.lst .leaf,.list (((List.range w.n).filter fun t=>!r.contains t).map fun t=>rm t)⟩ (aQ 3 [w.enc,aF r]):=by
  refine wA rm (List.range w.n) (fun t=>!r.contains t) (fun t=>⟨.leaf,rm t⟩) (st:=true) ?_ (by simp [aQ]) rfl (by simp;omega) ?_ ?_
  ·refine (nq (k:=(w.n:Int)) (ps:=[⟨.leaf,.int w.n⟩]) ?_ rfl (by omega) (by omega)).trans (by rw [<-GZ];rfl)
   simp [aQ,Wd.enc,lo]
  ·intro t ht
   simp [aQ,Hj]
  ·intro t ht _
   simp [aQ]
 unfold fu;rw [pI,e];rfl
inductive Wr where
 | yes | mark | not | sn | an | sa | aa | and | or | su | au
 deriving DecidableEq
noncomputable def Wr.t:Wr->Str
 | .yes => "yes" | .mark => "mark" | .not => "not" | .sn => "some next" | .an => "all next" | .sa => "some always" | .aa => "all always" | .and => "and" | .or => "or" | .su => "some until" | .au => "all until"
theorem iK (a b:Wr):bL (.str a.t) (.str b.t)=some (.bool (decide (a=b))):=by cases a<;>cases b<;>kernel_rfl
@[simp] theorem Kh (a:Wr):bL (.str a.t) (.str "yes")=some (.bool (decide (a=.yes))):=iK a .yes
@[simp] theorem HS (a:Wr):bL (.str a.t) (.str "mark")=some (.bool (decide (a=.mark))):=iK a .mark
@[simp] theorem Ki (a:Wr):bL (.str a.t) (.str "not")=some (.bool (decide (a=.not))):=iK a .not
@[simp] theorem Kj (a:Wr):bL (.str a.t) (.str "and")=some (.bool (decide (a=.and))):=iK a .and
@[simp] theorem Ld (a:Wr):bL (.str a.t) (.str "or")=some (.bool (decide (a=.or))):=iK a .or
@[simp] theorem vg (a:Wr):bE false (.str a.t) bZ=some (.bool (decide (a=.su\/a=.au))):=by cases a<;>kernel_rfl
@[simp] theorem HL (a:Wr):bE true (.str a.t) bZ=some (.bool (!decide (a=.su\/a=.au))):=by cases a<;>kernel_rfl
@[simp] theorem CH (a:Wr):bE false (.str a.t) cG=some (.bool (decide (a=.sa\/a=.aa))):=by cases a<;>kernel_rfl
@[simp] theorem HP (a:Wr):bE true (.str a.t) cG=some (.bool (!decide (a=.sa\/a=.aa))):=by cases a<;>kernel_rfl
noncomputable def Wr.some (a:Wr):Bool:=decide (a=.sn\/a=.su\/a=.aa)
@[simp] theorem vj (a:Wr):bE false (.str a.t) bB=.some (.bool a.some):=by cases a<;>kernel_rfl
noncomputable def Wr.ar:Wr->Option Int
 | .yes=>Option.some 0 | .mark=>none | .and=>Option.some 2 | .or=>Option.some 2 | .su=>Option.some 2 | .au=>Option.some 2 | _=>Option.some 1
@[simp] theorem HR (a:Wr):cj a.t hZ=a.ar:=by cases a<;>kernel_rfl
inductive U5 where
 | not | sn | an | sa | aa
 deriving DecidableEq
inductive B4 where
 | and | or | su | au
 deriving DecidableEq
noncomputable def U5.w:U5->Wr
 | .not=>.not | .sn=>.sn | .an=>.an | .sa=>.sa | .aa=>.aa
noncomputable def B4.w:B4->Wr
 | .and=>.and | .or=>.or | .su=>.su | .au=>.au
inductive Sn where
 | yes | mk (c:Str) | un (k:U5) (a:Sn) | bi (k:B4) (a b:Sn)
 deriving DecidableEq
noncomputable def Sn.w:Sn->Wr
 | .yes=>.yes | .mk _=>.mark | .un k _=>k.w | .bi k _ _=>k.w
noncomputable def Sn.args:Sn->List Sn
 | .yes=>[] | .mk _=>[] | .un _ a=>[a] | .bi _ a b=>[a,b]
noncomputable def Sn.enc:Sn->D
 | .yes=>.tuple [.str Wr.yes.t] | .mk c=>.tuple [.str Wr.mark.t,.str c] | .un k a=>.tuple [.str k.w.t,a.enc] | .bi k a b=>.tuple [.str k.w.t,a.enc,b.enc]
noncomputable def Sn.size:Sn->Nat
 | .yes=>1 | .mk _=>1 | .un _ a=>a.size+1 | .bi _ a b=>a.size+b.size+1
noncomputable def Sn.dep:Sn->Nat
 | .yes=>1 | .mk _=>1 | .un _ a=>a.dep+1 | .bi _ a b=>max a.dep b.dep+1
noncomputable def kA:List Str:=["a", "b", "c", "d", "e", "f"]
noncomputable def Sn.ok:Sn->Prop
 | .yes=>True | .mk c=>c∈kA | .un _ a=>a.ok | .bi _ a b=>a.ok/\b.ok
theorem Cf {c:Str} (h:c∈kA):PyData.strOk c=true/\DL (.str c)=true:=by
 unfold kA at h;simp only [mem_cons,not_mem_nil,or_false] at h
 rcases h with rfl | rfl | rfl | rfl | rfl | rfl<;>decide +kernel
noncomputable def Sn.psh:Sn->Sh
 | .mk _=>.tup [] | _=>.leaf
@[simp] theorem K7 (s:Sn):s.psh.isView=false:=by cases s<;>rfl
theorem jV (s:Sn):bh [s.enc]=.ok ⟨s.psh,.tuple (s.args.map Sn.enc)⟩:=by
 cases s with
 | yes=>simp [bh,aD,cW,aQ,Sn.enc,Sn.args,Sn.psh]
 | mk c=>simp [bh,aD,cW,aQ,Sn.enc,Sn.args,Sn.psh]
 | un k a=>cases k<;>simp [bh,aD,cW,aQ,Sn.enc,Sn.args,Sn.psh,U5.w]
 | bi k a b=>cases k<;>simp [bh,aD,cW,aQ,Sn.enc,Sn.args,Sn.psh,B4.w]
noncomputable def Ls (l:List Sn):D:=.list (l.map Sn.enc)
noncomputable def Lp (l:List Sn):Nat:=(l.map Sn.size).sum
theorem Sn.args_le (s:Sn):s.args.length<=2:=by cases s<;>simp [Sn.args]
noncomputable def oB (l:List Sn):Nat:=l.foldr (fun s m=>max s.dep m) 0
theorem rX (a:Sn) (r:List Sn):oB (a::r)=max a.dep (oB r):=rfl
theorem Sn.dep_args (s:Sn):oB s.args+1=s.dep:=by cases s<;>simp [Sn.args,oB,Sn.dep]
structure LS where
 ls:List (List Sn)
 l:List Sn
 many:Nat
structure LI (s:Sn) (b:LS):Prop where
 tot:(b.ls.map List.length).sum+Lp b.l=s.size
 mny:b.many=(b.ls.map List.length).sum
 dep:b.ls.length+oB b.l=s.dep
 ok:∀a∈b.l,a.ok
theorem Sn.args_ok {s:Sn} (h:s.ok):∀a∈s.args,a.ok:=by
 cases s with
 | yes=>simp [Sn.args]
 | mk c=>simp [Sn.args]
 | un k a=>simpa [Sn.args,Sn.ok] using h
 | bi k a b=>simpa [Sn.args,Sn.ok] using h
end KC
namespace KC
noncomputable def aY (rk:List (Option Nat)) (t:Nat):Option Nat:=rk.getD t none
noncomputable def led (any:Bool) (l:List Nat) (P:Nat->Prop):Prop:=if any then ∃t∈l,P t else ∀t∈l,P t
theorem led_t {l:List Nat} {P:Nat->Prop}:led true l P↔∃t∈l,P t:=by unfold led;simp
theorem led_f {l:List Nat} {P:Nat->Prop}:led false l P↔∀t∈l,P t:=by unfold led;simp
theorem Ai {any:Bool} {l:List Nat} {P Q:Nat->Prop} (h:led any l P) (i:∀t∈l,P t->Q t):led any l Q:=by
 cases any with
 | true=>obtain ⟨t,ht,hp⟩:=led_t.mp h;exact led_t.mpr ⟨t,ht,i t ht hp⟩
 | false=>exact led_f.mpr fun t ht=>i t ht (led_f.mp h t ht)
structure oQ (n:Nat) (st:Nat->List Nat) (ch:Nat->Bool) (thr goal:List Nat) (rk:List (Option Nat)):Prop where
 len:rk.length=n
 g:∀r,r<n->r∈goal->aY rk r=some 0
 p:∀r k,r<n->r∉goal->aY rk r=some k->0<k/\r∈thr/\led (ch r) (st r) fun t=>∃j,aY rk t=some j/\j<k
 z:∀r,r<n->aY rk r=none->r∉goal/\(r∉thr\/¬led (ch r) (st r) fun t=>aY rk t≠none)
noncomputable def inn (st:Nat->List Nat) (L:List Nat) (r:Nat):List Nat:=(st r).filter fun t=>L.contains t
structure Dn (n:Nat) (st:Nat->List Nat) (own:Nat->Bool) (T X:Nat->Prop):Prop where
 lt:∀r,X r->r<n
 c:∀r,X r->led (own r) (st r) X
 a:∀S:Nat->Prop,(∀r,X r->T r->S r)->(∀r,X r->led (own r) (st r) (fun t=>X t/\S t)->S r)->∀r,X r->S r
structure Fr {α:Type} (n:Nat) (st:Nat->List Nat) (R:Nat->Prop) (M:List α) (mk:α->Nat->Prop) (X:Nat->Prop):Prop where
 lt:∀r,X r->r<n
 sub:∀r,X r->R r
 c:∀r,X r->∃t∈st r,X t
 a:∀m∈M,∀S:Nat->Prop,(∀r,X r->mk m r->S r)->(∀r,X r->(∃t∈st r,X t/\S t)->S r)->∀r,X r->S r
noncomputable def Kq (n:Nat) (L:List Nat):Prop:=∃q:Nat->Bool,L=(List.range n).filter q
open PySem PySem.Spec L2 T PySem.SeqAt
open PyProof.Rows hiding St
noncomputable def oD:Option Nat->D
 | none=>.none
 | some k=>.int (k:Int)
@[simp] theorem HK (o:Option Nat):sU (oD o)=o.isNone:=by cases o<;>rfl
@[simp] theorem HJ (o:Option Nat):bu (oD o)=true:=by cases o<;>rfl
noncomputable abbrev dm (rk:List (Option Nat)):D:=.list (rk.map oD)
theorem gN {rk:List (Option Nat)} {t:Nat} (h:t<rk.length):fy (rk.map oD) (t:Int)=some (oD (aY rk t)):=by
 refine zY ?_
 unfold aY;rw [getElem?_map,getD_eq_getElem?_getD,getElem?_eq_getElem h];rfl
noncomputable def iF (any:Bool) (bs:List Bool):Bool:=if any then bs.any id else bs.all id
theorem yr {bs:List Bool}:cD true [.list (bs.map .bool)]=some (.bool (bs.any id)):=by
 have h:=II (any:=true) (xs:=bs) (f:=id)
 show Option.map _ (nh _)=_
 rw [show (bs.map PyData.bool)=bs.map fun x=>PyData.bool (id x) from rfl,h]
 simp
theorem vy {bs:List Bool}:cD false [.list (bs.map .bool)]=some (.bool (bs.all id)):=by
 have h:=II (any:=true) (xs:=bs) (f:=id)
 show Option.map _ (nh _)=_
 rw [show (bs.map PyData.bool)=bs.map fun x=>PyData.bool (id x) from rfl,h]
 simp
theorem qk {c:Bool} {bs:List Bool}:cF [.bool c,.list (bs.map .bool)]=.ok ⟨.leaf,.bool (iF c bs)⟩:=by
 unfold iF
 cases c<;>simp [cF,aD,mK,aQ,yr,vy]
structure Wd.Ok0 (w:Wd):Prop where
 lo:w.os.length=w.n
 h24:w.n<=24
 ls:w.s.length=w.n
 st:∀r∈w.s,r.length<=30/\∀t∈r,t<w.n
theorem Wd.Ok.z {w:Wd} (h:w.Ok):w.Ok0:=⟨h.g.lo,h.h24,h.ls,fun r hr=>(h.st r hr).2⟩
theorem Wd.Ok0.at2 {w:Wd} (h:w.Ok0) {r:Nat} (hr:r<w.n):fy (w.s.map aF) (r:Int)=some (aF (w.stp r)):=by
 refine zY ?_
 unfold Wd.stp;rw [getElem?_map,getD_eq_getElem?_getD,getElem?_eq_getElem (by rw [h.ls];exact hr)]
 rfl
theorem Wd.Ok0.stp_lt {w:Wd} (h:w.Ok0) {r t:Nat} (ht:t∈w.stp r):t<w.n:=by
 unfold Wd.stp at ht;rw [getD_eq_getElem?_getD] at ht
 cases e:w.s[r]? with
 | none=>rw [e] at ht;simp at ht
 | some x=>rw [e] at ht;exact (h.st x (mem_of_getElem? e)).2 t ht
theorem Wd.Ok0.len {w:Wd} (h:w.Ok0) {r:Nat}:(w.stp r).length<=10000:=by
 unfold Wd.stp;rw [getD_eq_getElem?_getD]
 cases e:w.s[r]? with
 | none=>simp
 | some x=>
  have:=(h.st x (mem_of_getElem? e)).1
  simp only [Option.getD_some]
  omega
noncomputable abbrev oN (cl:List Bool):D:=.list (cl.map .bool)
noncomputable def ib (cl:List Bool) (r:Nat):Bool:=cl.getD r false
theorem Ge {cl:List Bool} {t:Nat} (h:t<cl.length):fy (cl.map PyData.bool) (t:Int)=some (.bool (ib cl t)):=by
 refine zY ?_
 unfold ib;rw [getElem?_map,getD_eq_getElem?_getD,getElem?_eq_getElem h];rfl
noncomputable def pT (w:Wd) (ch:Nat->Bool) (thr:List Nat) (rk:List (Option Nat)):List Nat:=thr.filter fun r=>(aY rk r).isNone&&iF (ch r) ((w.stp r).map fun t=>(aY rk t).isSome)
theorem vJ {w:Wd} (h:w.Ok0) {cl:List Bool} {thr:List Nat} {rk:List (Option Nat)} (hcl:cl.length=w.n) (ht:∀r∈thr,r<w.n) (hl:rk.length=w.n) (hn:thr.length<=1000):bY [w.enc,oN cl,aF thr,dm rk]=.ok ⟨.lst .leaf,aF (pT w (ib cl) thr rk)⟩:=by
 obtain ⟨y,e,_⟩:=IH rm (fun (b:List Nat) r=>if (aY rk r).isNone&&iF (ib cl r) ((w.stp r).map fun t=>(aY rk t).isSome) then b++[r] else b) (Inv:=fun b r=>b.length+r.length<=1000/\∀t∈r,t<w.n) (i:=5)
  (body:=(bF (dU (aN ax (az (cJ false) (ai (af 3) (af 5)) (eK .none))) (aN bf (ak 2 cF (ae (ai (af 1) (af 5)) (ae (aC .leaf 6 (bt (ai (ai (af 0) (eK (.int 2))) (af 5))) aR (az (cJ true) (ai (af 3) (af 6)) (eK .none))) ag))))) (eN 4 (af 5)) aG))
  (G:=fun b x=>[some ⟨.leaf,w.enc⟩,some ⟨.leaf,oN cl⟩,some ⟨.leaf,aF thr⟩,some ⟨.leaf,dm rk⟩,some ⟨.lst .leaf,aF b⟩,x,none])
  (fun _ _=>by simp) (fun _ _ _=>by simp) (fun b r rest hI=>by
   obtain ⟨h1,h2⟩:=hI;have hr:r<w.n:=h2 r mem_cons_self
   have a1:=gN (rk:=rk) (t:=r) (by omega)
   have a2:=h.at2 hr
   have a4:=Ge (cl:=cl) (t:=r) (by omega)
   simp only [length_cons] at h1
   have c1:aC .leaf 6 (bt (ai (ai (af 0) (eK (.int 2))) (af 5))) aR (az (cJ true) (ai (af 3) (af 6)) (eK .none)) [some ⟨.leaf,w.enc⟩,some ⟨.leaf,oN cl⟩,some ⟨.leaf,aF thr⟩,some ⟨.leaf,dm rk⟩,some ⟨.lst .leaf,aF b⟩,some ⟨.leaf,rm r⟩,none]
     = .ok ⟨.lst .leaf,.list ((w.stp r).map fun t=>.bool (aY rk t).isSome)⟩ [some ⟨.leaf,w.enc⟩,some ⟨.leaf,oN cl⟩,some ⟨.leaf,aF thr⟩,some ⟨.leaf,dm rk⟩,some ⟨.lst .leaf,aF b⟩,some ⟨.leaf,rm r⟩,none]:=by
    refine oT rm (w.stp r) (fun t=>⟨.leaf,.bool (aY rk t).isSome⟩) (st:=true) (by simp [Wd.enc,a2]) (by simp) rfl h.len fun t ht=>?_
    have a3:=gN (rk:=rk) (t:=t) (by rw [hl];exact h.stp_lt ht)
    simp [a3]
   have dl:=qk (c:=ib cl r) (bs:=(w.stp r).map fun t=>(aY rk t).isSome)
   rw [map_map] at dl;have dl:cF [.bool (ib cl r),.list ((w.stp r).map fun t=>.bool (aY rk t).isSome)]=.ok ⟨.leaf,.bool (iF (ib cl r) ((w.stp r).map fun t=>(aY rk t).isSome))⟩:=dl
   have ap:eN 4 (af 5) [some ⟨.leaf,w.enc⟩,some ⟨.leaf,oN cl⟩,some ⟨.leaf,aF thr⟩,some ⟨.leaf,dm rk⟩,some ⟨.lst .leaf,aF b⟩,some ⟨.leaf,rm r⟩,none]=.nx [some ⟨.leaf,w.enc⟩,some ⟨.leaf,oN cl⟩,some ⟨.leaf,aF thr⟩,some ⟨.leaf,dm rk⟩,some ⟨.lst .leaf,.list (b.map rm++[rm r])⟩,some ⟨.leaf,rm r⟩,none]:=
    Dj rfl (aw rfl) rfl (by simp;omega)
   refine ⟨?_,?_⟩
   ·cases q1:(aY rk r).isNone with
    | false=>simp [a1,q1]
    | true=>
     cases q2:iF (ib cl r) ((w.stp r).map fun t=>(aY rk t).isSome) with
     | false=>simp [a1,a4,q1,c1,dl,q2]
     | true=>simp [a1,a4,q1,c1,dl,q2,ap]
   ·refine ⟨?_,fun t ht=>h2 t (mem_cons_of_mem _ ht)⟩
    split
    ·rw [length_append,length_singleton];omega
    ·omega) thr [] none (by simp;exact ⟨hn,ht⟩)
 have ef:∀(l b:List Nat),l.foldl (fun (b:List Nat) r=>if (aY rk r).isNone&&iF (ib cl r) ((w.stp r).map fun t=>(aY rk t).isSome) then b++[r] else b) b=b++pT w (ib cl) l rk:=by
  intro l;induction l with
  | nil=>intro b;simp [pT]
  | cons r t ih=>
   intro b;rw [List.foldl_cons,ih];unfold pT;rw [filter_cons];split<;>simp
 rw [ef,nil_append] at e;refine aS ?_
 have e2:=fM (fi:=bt (af 2)) (Γ:=[some ⟨.leaf,w.enc⟩,some ⟨.leaf,oN cl⟩,some ⟨.leaf,aF thr⟩,some ⟨.leaf,dm rk⟩,some ⟨.lst .leaf,aF []⟩,none,none]) (cf (ds:=thr.map rm) (aw rfl) rfl) e
 have e1:aA true 4 (aB .leaf ag) (aQ 7 [w.enc,oN cl,aF thr,dm rk])=.nx [some ⟨.leaf,w.enc⟩,some ⟨.leaf,oN cl⟩,some ⟨.leaf,aF thr⟩,some ⟨.leaf,dm rk⟩,some ⟨.lst .leaf,aF []⟩,none,none]:=by simp [aQ]
 unfold fq;rw [eZ,e1];simp only
 rw [eZ,e2];simp
theorem led_iff {any:Bool} {l:List Nat} {b:Nat->Bool}:iF any (l.map b)=true↔led any l fun t=>b t=true:=by
 unfold iF led
 cases any<;>simp
structure Right (w:Wd) (any:Bool) (thr goal:List Nat) (rk:List (Option Nat)):Prop where
 len:rk.length=w.n
 g:∀r,r<w.n->r∈goal->aY rk r=some 0
 p:∀r k,r<w.n->r∉goal->aY rk r=some k->0<k/\r∈thr/\led any (w.stp r) fun t=>∃j,aY rk t=some j/\j<k
 z:∀r,r<w.n->aY rk r=none->r∉goal/\(r∉thr\/¬led any (w.stp r) fun t=>aY rk t≠none)
inductive Unt (w:Wd) (any:Bool) (P Q:Nat->Prop):Nat->Prop where
 | now {r:Nat}:Q r->Unt w any P Q r
 | some {r t:Nat}:any=true->P r->t∈w.stp r->Unt w any P Q t->Unt w any P Q r
 | all {r:Nat}:any=false->P r->(∀t∈w.stp r,Unt w any P Q t)->Unt w any P Q r
theorem Unt.of_led {w:Wd} {any:Bool} {P Q:Nat->Prop} {r:Nat} (hp:P r) (h:led any (w.stp r) (Unt w any P Q)):Unt w any P Q r:=by
 unfold led at h
 cases any with
 | true=>obtain ⟨t,ht,hu⟩:=(by simpa using h:∃t,t∈w.stp r/\Unt w true P Q t);exact .some rfl hp ht hu
 | false=>exact .all rfl hp (by simpa using h)
theorem Right.iff {w:Wd} (ok:w.Ok) {any:Bool} {thr goal:List Nat} {rk:List (Option Nat)} (h:Right w any thr goal rk) {r:Nat} (hr:r<w.n):aY rk r≠none↔Unt w any (·∈thr) (·∈goal) r:=by
 constructor
 ·intro hn
  obtain ⟨k,hk⟩:=Option.ne_none_iff_exists'.mp hn
  have key:∀k r,r<w.n->aY rk r=some k->Unt w any (·∈thr) (·∈goal) r:=by
   intro k;induction k using Nat.strongRecOn with
   | ind k ih=>
    intro r hr hk;by_cases hg:r∈goal
    ·exact .now hg
    ·obtain ⟨_,h2,h3⟩:=h.p r k hr hg hk
     exact .of_led h2 (Ai h3 fun t ht ⟨j,hj,hlt⟩=>ih j hlt t (ok.stp_lt ht) hj)
  exact key k r hr hk
 ·intro hu
  induction hu with
  | now q=>rw [h.g _ hr q];simp
  | @some r t e hp ht _ ih=>
   intro hz;obtain ⟨_,z⟩:=h.z r hr hz;rcases z with z | z
   ·exact z hp
   ·subst e
    exact z (by unfold led;simpa using ⟨t,ht,by have:=ih (ok.stp_lt ht);simpa using this⟩)
  | @all r e hp _ ih=>
   intro hz;obtain ⟨_,z⟩:=h.z r hr hz;rcases z with z | z
   ·exact z hp
   ·subst e
    exact z (by unfold led;simpa using fun t ht=>by have:=ih t ht (ok.stp_lt ht);simpa using this)
noncomputable def cy (rk:List (Option Nat)) (k:Nat) (fr:List Nat):List (Option Nat):=fr.foldl (fun l r=>l.set r (some k)) rk
theorem IM {k:Nat}:∀(fr:List Nat) (rk:List (Option Nat)),(cy rk k fr).length=rk.length
 | [],_=>rfl
 | a::r,rk=>by
  show (cy (rk.set a (some k)) k r).length=_
  rw [IM,length_set]
theorem xu {rk:List (Option Nat)} {a t:Nat} {o:Option Nat} (h:a<rk.length):aY (rk.set a o) t=if t=a then o else aY rk t:=by
 unfold aY;rw [getD_eq_getElem?_getD,getD_eq_getElem?_getD];split
 ·rename_i e;subst e;rw [getElem?_set_self h];rfl
 ·rename_i e;rw [getElem?_set_ne (fun z=>e z.symm)]
theorem pw {k t:Nat}:∀(fr:List Nat) (rk:List (Option Nat)),(∀a∈fr,a<rk.length)->aY (cy rk k fr) t=if t∈fr then some k else aY rk t
 | [],rk,_=>by simp [cy]
 | a::r,rk,h=>by
  show aY (cy (rk.set a (some k)) k r) t=_
  rw [pw r _ (fun b hb=>by rw [length_set];exact h b (mem_cons_of_mem _ hb)),xu (h a mem_cons_self)]
  by_cases e1:t∈r
  ·simp [e1]
  ·by_cases e2:t=a
   ·simp [e2]
   ·simp [e1,e2]
noncomputable def bS (rk:List (Option Nat)):Nat:=(rk.filter Option.isNone).length
theorem rA {rk:List (Option Nat)} {a k:Nat} (h:rk[a]?=some none):bS (rk.set a (some k))+1=bS rk:=by
 induction rk generalizing a with
 | nil=>simp at h
 | cons x r ih=>
  cases a with
  | zero=>
   simp at h
   subst h;simp [bS]
  | succ a=>
   have:=ih (a:=a) (by simpa using h)
   simp only [bS,List.set_cons_succ,filter_cons] at this ⊢
   cases x with
   | none=>simp only [Option.isNone_none,if_true,length_cons];omega
   | some v=>simpa using this
theorem u0 {rk:List (Option Nat)} {a k:Nat}:bS (rk.set a (some k))<=bS rk:=by
 induction rk generalizing a with
 | nil=>simp [bS]
 | cons x r ih=>
  cases a with
  | zero=>cases x<;>simp [bS]
  | succ a=>
   have:=ih (a:=a)
   simp only [bS,List.set_cons_succ,filter_cons] at this ⊢
   cases x with
   | none=>simp only [Option.isNone_none,if_true,length_cons];omega
   | some v=>simpa using this
theorem fU {k:Nat}:∀(fr:List Nat) (rk:List (Option Nat)),bS (cy rk k fr)<=bS rk
 | [],_=>Nat.le_refl _
 | a::r,rk=>Nat.le_trans (fU r (rk.set a (some k))) u0
theorem rB {k:Nat} {fr:List Nat} {rk:List (Option Nat)} (hne:fr≠[]) (h:∀a∈fr,rk[a]?=some none):bS (cy rk k fr)<bS rk:=by
 cases fr with
 | nil=>exact absurd rfl hne
 | cons a r=>
  have h1:=rA (k:=k) (h a mem_cons_self)
  have h2:=fU (k:=k) r (rk.set a (some k))
  show bS (cy (rk.set a (some k)) k r)<_
  omega
structure RS where
 rk:List (Option Nat)
 k:Nat
 fr:List Nat
 x8:Option PV
structure RI (w:Wd) (ch:Nat->Bool) (thr goal:List Nat) (b:RS):Prop where
 len:b.rk.length=w.n
 frn:∀r∈b.fr,r<w.n/\aY b.rk r=none
 frl:b.fr.length<=1000
 lt:∀r j,aY b.rk r=some j->j<b.k
 zero:b.k=0->b.fr=goal
 g:0<b.k->∀r,r∈goal->aY b.rk r=some 0
 p:∀r j,r<w.n->r∉goal->aY b.rk r=some j->0<j/\r∈thr/\led (ch r) (w.stp r) fun t=>∃i,aY b.rk t=some i/\i<j
 nx:0<b.k->b.fr=pT w ch thr b.rk
 m1:∀r,r∈thr->aY b.rk r=none->¬led (ch r) (w.stp r) fun t=>∃i,aY b.rk t=some i/\i+1<b.k
 m2:∀r j,r∉goal->aY b.rk r=some j->¬led (ch r) (w.stp r) fun t=>∃i,aY b.rk t=some i/\i+1<j
noncomputable def LN (st:Nat->List Nat) (ch:Nat->Bool) (goal:List Nat) (rk:List (Option Nat)):Prop:=∀r j,r∉goal->aY rk r=some j->¬led (ch r) (st r) fun t=>∃i,aY rk t=some i/\i+1<j
theorem RI.right {w:Wd} {ch:Nat->Bool} {thr goal:List Nat} {b:RS} (hne:∀r∈thr,w.stp r≠[]) (I:RI w ch thr goal b) (he:b.fr=[]):oQ w.n w.stp ch thr goal b.rk:=by
 refine ⟨I.len,fun r hr hg=>?_,I.p,fun r hr hz=>?_⟩
 ·rcases Nat.eq_zero_or_pos b.k with h | h
  ·rw [<-I.zero h,he] at hg;simp at hg
  ·exact I.g h r hg
 ·rcases Nat.eq_zero_or_pos b.k with h | h
  ·have hg:goal=[]:=by rw [<-I.zero h];exact he
   refine ⟨by rw [hg];simp,?_⟩
   by_cases ht:r∈thr
   case neg=>exact .inl ht
   refine .inr fun hl=>?_
   have no:∀t,aY b.rk t=none:=fun t=>by
    cases e:aY b.rk t with
    | none=>rfl
    | some j=>have:=I.lt t j e;omega
   cases hc:ch r with
   | true=>
    rw [hc] at hl;obtain ⟨t,_,z⟩:=led_t.mp hl;exact z (no t)
   | false=>
    rw [hc] at hl;obtain ⟨t,ht'⟩:=List.exists_mem_of_ne_nil _ (hne r ht);exact led_f.mp hl t ht' (no t)
  ·refine ⟨fun hg=>(by rw [I.g h r hg] at hz;cases hz),?_⟩
   by_cases ht:r∈thr
   ·refine .inr fun hl=>?_
    have hx:=I.nx h
    rw [he] at hx;have:r∈pT w ch thr b.rk:=by
     unfold pT;refine List.mem_filter.mpr ⟨ht,?_⟩
     rw [hz];simp only [Option.isNone_none,Bool.true_and]
     exact led_iff.mpr (Ai hl fun t _ z=>by cases e:aY b.rk t with | none=>exact absurd e z | some j=>rfl)
    rw [<-hx] at this;simp at this
   ·exact .inl ht
theorem RI.step {w:Wd} {ch:Nat->Bool} {thr goal:List Nat} (hne0:∀r∈thr,w.stp r≠[]) {b:RS} {y:Option PV} (hthr:∀r∈thr,r<w.n) (hl:thr.length<=1000) (I:RI w ch thr goal b) (hne:b.fr≠[]) :
  RI w ch thr goal ⟨cy b.rk b.k b.fr,b.k+1,pT w ch thr (cy b.rk b.k b.fr),y⟩/\bS (cy b.rk b.k b.fr)<bS b.rk:=by
 have hfl:∀a∈b.fr,a<b.rk.length:=fun a ha=>by rw [I.len];exact (I.frn a ha).1
 have pt:∀t,aY (cy b.rk b.k b.fr) t=if t∈b.fr then some b.k else aY b.rk t:=fun t=>pw _ _ hfl
 refine ⟨⟨by rw [IM];exact I.len,fun r hr=>?_,?_,fun r j e=>?_,fun z=>absurd z (Nat.succ_ne_zero _),fun _ r hg=>?_,fun r j hr hg e=>?_,fun _=>rfl,fun r ht hz hl=>?_,fun r j hg e hl=>?_⟩,rB hne fun a ha=>?_⟩
 ·obtain ⟨h1,h2⟩:=List.mem_filter.mp hr
  simp only [Bool.and_eq_true,Option.isNone_iff_eq_none] at h2
  exact ⟨hthr r h1,h2.1⟩
 ·exact Nat.le_trans (length_filter_le _ _) hl
 ·rw [pt] at e
  show j<b.k+1
  split at e
  ·cases e;omega
  ·have:=I.lt r j e;omega
 ·show aY (cy b.rk b.k b.fr) r=some 0
  rw [pt];rcases Nat.eq_zero_or_pos b.k with h | h
  ·rw [I.zero h,if_pos hg,h]
  ·have:=I.g h r hg
   split
   ·rename_i z;rw [(I.frn r z).2] at this;cases this
   ·exact this
 ·have e:aY (cy b.rk b.k b.fr) r=some j:=e
  rw [pt] at e;split at e
  ·rename_i hm
   cases e;have hk:0<b.k:=by
    rcases Nat.eq_zero_or_pos b.k with h | h
    ·rw [I.zero h] at hm;exact absurd hm hg
    ·exact h
   have hx:=I.nx hk
   rw [hx] at hm;obtain ⟨h1,h2⟩:=List.mem_filter.mp hm;simp only [Bool.and_eq_true] at h2
   refine ⟨hk,h1,Ai (led_iff.mp h2.2) fun t _ z=>?_⟩
   cases e:aY b.rk t with
   | none=>rw [e] at z;cases z
   | some i=>
    refine ⟨i,?_,I.lt t i e⟩
    show aY (cy b.rk b.k b.fr) t=_
    rw [pt,if_neg (fun q=>by rw [(I.frn t q).2] at e;cases e),e]
  ·obtain ⟨h1,h2,h3⟩:=I.p r j hr hg e
   refine ⟨h1,h2,Ai h3 fun t _ ⟨i,hi,hlt⟩=>⟨i,?_,hlt⟩⟩
   show aY (cy b.rk b.k b.fr) t=_
   rw [pt,if_neg (fun q=>by rw [(I.frn t q).2] at hi;cases hi),hi]
 ·have hz:aY (cy b.rk b.k b.fr) r=none:=hz
  rw [pt] at hz;split at hz
  ·cases hz
  rename_i hf;have hl:led (ch r) (w.stp r) fun t=>∃i,aY (cy b.rk b.k b.fr) t=some i/\i+1<b.k+1:=hl
  have hl:led (ch r) (w.stp r) fun t=>∃i,aY b.rk t=some i/\i<b.k:=Ai hl fun t _ ⟨i,hi,hlt⟩=>by
   rw [pt] at hi;split at hi
   ·cases hi;omega
   ·exact ⟨i,hi,by omega⟩
  rcases Nat.eq_zero_or_pos b.k with h | h
  ·cases hc:ch r with
   | true=>
    rw [hc] at hl;obtain ⟨t,_,i,_,z⟩:=led_t.mp hl;omega
   | false=>
    rw [hc] at hl;obtain ⟨t,ht'⟩:=List.exists_mem_of_ne_nil _ (hne0 r ht);obtain ⟨i,_,z⟩:=led_f.mp hl t ht'
    omega
  ·refine hf ?_
   rw [I.nx h];refine List.mem_filter.mpr ⟨ht,?_⟩
   rw [hz];simp only [Option.isNone_none,Bool.true_and]
   exact led_iff.mpr (Ai hl fun t _ ⟨i,hi,_⟩=>by rw [hi];rfl)
 ·have e:aY (cy b.rk b.k b.fr) r=some j:=e
  have hl:led (ch r) (w.stp r) fun t=>∃i,aY (cy b.rk b.k b.fr) t=some i/\i+1<j:=hl
  have hj:j<=b.k:=by
   rw [pt] at e;split at e
   ·cases e;omega
   ·have:=I.lt r j e;omega
  have hl:led (ch r) (w.stp r) fun t=>∃i,aY b.rk t=some i/\i+1<j:=Ai hl fun t _ ⟨i,hi,hlt⟩=>by
   rw [pt] at hi;split at hi
   ·cases hi;omega
   ·exact ⟨i,hi,hlt⟩
  rw [pt] at e;split at e
  ·rename_i hm
   cases e;have hk:0<b.k:=by
    rcases Nat.eq_zero_or_pos b.k with h | h
    ·rw [I.zero h] at hm;exact absurd hm hg
    ·exact h
   have hm':=hm
   rw [I.nx hk] at hm';exact I.m1 r (List.mem_filter.mp hm').1 (I.frn r hm).2 hl
  ·exact I.m2 r j hg e hl
 ·obtain ⟨h1,h2⟩:=I.frn a ha
  unfold aY at h2;rw [getD_eq_getElem?_getD,getElem?_eq_getElem (by rw [I.len];exact h1)] at h2
  rw [getElem?_eq_getElem (by rw [I.len];exact h1)]
  simpa using h2
noncomputable abbrev GR (w:Wd) (cl:List Bool) (thr goal:List Nat) (b:RS):Ev:=[some ⟨.leaf,w.enc⟩,some ⟨.leaf,oN cl⟩,some ⟨.leaf,aF thr⟩,some ⟨.leaf,aF goal⟩,some ⟨.lst .leaf,dm b.rk⟩,some ⟨.leaf,.int (b.k:Int)⟩,some ⟨.leaf,aF b.fr⟩,b.x8,none]
noncomputable abbrev ko:FS:=(av (d8 7 (bt (af 6))
  (fO 4 (af 5) (af 7)))
  (av (iy 5 (eK (.int 1)))
  (aA false 6 (zZ 4 bY (ae (af 0) (ae (af 1) (ae (af 2) (ae (af 4) ag))))))))
theorem xr {w:Wd} (ok:w.Ok0) {cl:List Bool} {thr goal:List Nat} {b:RS} (hcl:cl.length=w.n) (hne0:∀r∈thr,w.stp r≠[]) (hthr:∀r∈thr,r<w.n) (hl:thr.length<=1000) (I:RI w (ib cl) thr goal b) (hne:b.fr≠[]) :
  ∃b',ko (GR w cl thr goal b)=.nx (GR w cl thr goal b')/\RI w (ib cl) thr goal b'/\bS b'.rk<bS b.rk:=by
 obtain ⟨y,e,_⟩:=IH rm (fun (l:List (Option Nat)) r=>l.set r (some b.k)) (Inv:=fun l r=>l.length=w.n/\∀t∈r,t<w.n) (i:=7) (body:=fO 4 (af 5) (af 7))
  (G:=fun l x=>[some ⟨.leaf,w.enc⟩,some ⟨.leaf,oN cl⟩,some ⟨.leaf,aF thr⟩,some ⟨.leaf,aF goal⟩,some ⟨.lst .leaf,dm l⟩,some ⟨.leaf,.int (b.k:Int)⟩,some ⟨.leaf,aF b.fr⟩,x,none])
  (fun _ _=>by simp) (fun _ _ _=>by simp) (fun l r rest ⟨h1,h2⟩=>by
   have hr:=h2 r mem_cons_self
   refine ⟨?_,by rw [length_set];exact h1,fun t ht=>h2 t (mem_cons_of_mem _ ht)⟩
   rw [Ax (ds:=l.map oD) (j:=r) (k:=(r:Int)) rfl (aw rfl) (aw rfl) (sW (by rw [length_map,h1];exact hr)) rfl]
   simp [List.map_set,oD]) b.fr b.rk b.x8 ⟨I.len,fun t ht=>(I.frn t ht).1⟩
 obtain ⟨I',hm⟩:=RI.step (y:=y) hne0 hthr hl I hne
 refine ⟨⟨cy b.rk b.k b.fr,b.k+1,pT w (ib cl) thr (cy b.rk b.k b.fr),y⟩,?_,I',hm⟩
 have e2:=fM (fi:=bt (af 6)) (Γ:=GR w cl thr goal b) (cf (ds:=b.fr.map rm) (aw rfl) rfl) e
 have dn:=vJ ok (cl:=cl) (thr:=thr) (rk:=cy b.rk b.k b.fr) hcl hthr (by rw [IM];exact I.len) hl
 unfold ko;rw [eZ,e2];have fr:ot ⟨.lst .leaf,aF (pT w (ib cl) thr (cy b.rk b.k b.fr))⟩=true:=by
  unfold ot;simp [bu]
 have ec:∀Γ:Ev,Γ=[some ⟨.leaf,w.enc⟩,some ⟨.leaf,oN cl⟩,some ⟨.leaf,aF thr⟩,some ⟨.leaf,aF goal⟩,some ⟨.lst .leaf,dm (cy b.rk b.k b.fr)⟩,some ⟨.leaf,.int ((b.k:Int)+1)⟩,some ⟨.leaf,aF b.fr⟩,y,none] ->
   zZ 4 bY (ae (af 0) (ae (af 1) (ae (af 2) (ae (af 4) ag)))) Γ=.ok ⟨.lst .leaf,aF (pT w (ib cl) thr (cy b.rk b.k b.fr))⟩ Γ:=fun Γ hΓ=>by
  subst hΓ;unfold zZ;simp [dn,fr]
 have pu:b.fr.foldl (fun l r=>l.set r (some b.k)) b.rk=cy b.rk b.k b.fr:=rfl
 rw [pu];simp [ec _ rfl]
theorem kH {w:Wd} (ok:w.Ok0) {cl:List Bool} {thr goal:List Nat} (hcl:cl.length=w.n) (hne0:∀r∈thr,w.stp r≠[]) (hthr:∀r∈thr,r<w.n) (hl:thr.length<=1000) (hgoal:∀r∈goal,r<w.n) (hgl:goal.length<=1000) :
  ∃rk,fE [w.enc,oN cl,aF thr,aF goal]=.ok ⟨.lst .leaf,dm rk⟩/\oQ w.n w.stp (ib cl) thr goal rk/\LN w.stp (ib cl) goal rk:=by
 have lo:=ok.lo
 have h24:=ok.h24
 have i0:RI w (ib cl) thr goal ⟨w.os.map fun _=>none,0,goal,none⟩:=by
  have z:∀r,aY (w.os.map fun _=>none) r=none:=fun r=>by
   unfold aY;rw [getD_eq_getElem?_getD,getElem?_map]
   cases w.os[r]?<;>rfl
  refine ⟨by simp [lo],fun r hr=>⟨hgoal r hr,z r⟩,hgl,fun r j e=>(by rw [z] at e;cases e),fun _=>rfl,fun h=>absurd h (by simp),fun r j _ _ e=>(by rw [z] at e;cases e),fun h=>absurd h (by simp),fun r ht _ hl=>?_,fun r j _ e=>(by rw [z] at e;cases e)⟩
  have hl:led (ib cl r) (w.stp r) fun t=>∃i,aY (w.os.map fun _=>none) t=some i/\i+1<0:=hl
  cases hc:ib cl r with
  | true=>
   rw [hc] at hl;obtain ⟨t,_,i,_,z⟩:=led_t.mp hl;omega
  | false=>
   rw [hc] at hl;obtain ⟨t,ht'⟩:=List.exists_mem_of_ne_nil _ (hne0 r ht);obtain ⟨i,_,z⟩:=led_f.mp hl t ht'
   omega
 obtain ⟨b',e,I,hf⟩:=El (c:=aN bf (af 6)) (g:=ko) (G:=GR w cl thr goal) (test:=fun b=>!b.fr.isEmpty) (Inv:=RI w (ib cl) thr goal) (meas:=fun b=>bS b.rk) (fun b I=>by simp) (fun b I hb=>xr ok hcl hne0 hthr hl I (by intro z;rw [z] at hb;simp at hb)) 1000 _ i0 (by
  have:bS (w.os.map fun _=>none)<=w.os.length:=by unfold bS;exact Nat.le_trans (length_filter_le _ _) (by simp)
  show bS (w.os.map fun _=>none)<1000
  omega)
 refine ⟨b'.rk,?_,I.right hne0 (by simpa using hf),I.m2⟩
 refine aS ?_
 have co:∀Γ:Ev,Γ.length=9->Γ[0]?=some (some ⟨.leaf,w.enc⟩)->aC .leaf 8 (bt (ai (af 0) (eK (.int 0)))) aR (eK .none) Γ=.ok ⟨.lst .leaf,.list (w.os.map fun _=>.none)⟩ Γ:=fun Γ h1 h2=>by
  have:=oT (fun d:D=>d) w.os (fun _=>⟨.leaf,.none⟩) (s:=.leaf) (i:=8) (fi:=bt (ai (af 0) (eK (.int 0)))) (fe:=eK .none) (st:=true) (Γ:=Γ) (by simp [h2,Wd.enc]) (by omega) rfl (by omega) (fun x hx=>by simp)
  simpa using this
 have e:sM (aN bf (af 6)) ko 1000 [some ⟨.leaf,w.enc⟩,some ⟨.leaf,oN cl⟩,some ⟨.leaf,aF thr⟩,some ⟨.leaf,aF goal⟩,some ⟨.lst .leaf,.list (w.os.map fun _=>.none)⟩,some ⟨.leaf,.int 0⟩,some ⟨.leaf,aF goal⟩,none,none]=.nx (GR w cl thr goal b'):=by
  have q:dm (w.os.map fun _=>none)=.list (w.os.map fun _=>.none):=by
   unfold dm;rw [map_map];rfl
  rw [<-q];exact e
 unfold iS;rw [eZ,pH,co _ rfl rfl];simp [aQ]
 unfold sI;rw [e];simp
theorem Hq {w:Wd} (ok:w.Ok) {s:Sn} {P:D} {thr goal:List Nat} (hw:(s.w=.su\/s.w=.au)\/(s.w=.sa\/s.w=.aa)) (ht:∃sh,coer .leaf ⟨sh,.tuple [aF thr,aF goal]⟩=true/\bq [w.enc,s.enc,P]=.ok ⟨sh,.tuple [aF thr,aF goal]⟩) (hthr:∀r∈thr,r<w.n) (hl:thr.length<=1000) (hgoal:∀r∈goal,r<w.n) (hgl:goal.length<=1000) :
  ∃rk,bN [w.enc,s.enc,P]=.ok ⟨.lst .leaf,dm rk⟩/\Right w s.w.some thr goal rk:=by
 obtain ⟨sh,hsh,ht⟩:=ht;have lo:=ok.g.lo
 have h24:=ok.h24
 obtain ⟨rk,e,R,_⟩:=kH ok.z (cl:=w.os.map fun _=>s.w.some) (by rw [length_map];exact lo) (fun r hr=>ok.stp_ne (hthr r hr)) hthr hl hgoal hgl
 have hch:∀r,r<w.n->ib (w.os.map fun _=>s.w.some) r=s.w.some:=fun r hr=>by
  unfold ib;rw [getD_eq_getElem?_getD,getElem?_map,getElem?_eq_getElem (by omega)]
  rfl
 refine ⟨rk,?_,⟨R.len,R.g,fun r k hr hg e=>?_,fun r hr e=>?_⟩⟩
 ·have hst:ai (af 1) (eK (.int 0)) (aQ 6 [w.enc,s.enc,P])=.ok ⟨.leaf,.str s.w.t⟩ (aQ 6 [w.enc,s.enc,P]):=by
   cases s<;>simp [aQ,Sn.enc,Sn.w]
  have s1:aA false 3 (ai (af 1) (eK (.int 0))) (aQ 6 [w.enc,s.enc,P])=.nx [some ⟨.leaf,w.enc⟩,some ⟨.leaf,s.enc⟩,some ⟨.leaf,P⟩,some ⟨.leaf,.str s.w.t⟩,none,none]:=by
   rw [pH,hst];simp [aQ]
  have s2:bF (dU (aN ax (az (bE true) (af 3) (eK bZ))) (aN ax (az (bE true) (af 3) (eK cG)))) (aI (eK .none)) aG [some ⟨.leaf,w.enc⟩,some ⟨.leaf,s.enc⟩,some ⟨.leaf,P⟩,some ⟨.leaf,.str s.w.t⟩,none,none]=.nx [some ⟨.leaf,w.enc⟩,some ⟨.leaf,s.enc⟩,some ⟨.leaf,P⟩,some ⟨.leaf,.str s.w.t⟩,none,none]:=by
   rcases hw with z | z
   ·simp [z]
   ·by_cases z2:(s.w=.su\/s.w=.au)<;>simp [z,z2]
  have s3:aA false 4 (ak 3 bq (ae (af 0) (ae (af 1) (ae (af 2) ag)))) [some ⟨.leaf,w.enc⟩,some ⟨.leaf,s.enc⟩,some ⟨.leaf,P⟩,some ⟨.leaf,.str s.w.t⟩,none,none]=.nx [some ⟨.leaf,w.enc⟩,some ⟨.leaf,s.enc⟩,some ⟨.leaf,P⟩,some ⟨.leaf,.str s.w.t⟩,some ⟨.leaf,.tuple [aF thr,aF goal]⟩,none]:=by
   simp [ht,hsh]
  have c1:aC .leaf 5 (bt (ai (af 0) (eK (.int 0)))) aR (az (bE false) (af 3) (eK bB)) [some ⟨.leaf,w.enc⟩,some ⟨.leaf,s.enc⟩,some ⟨.leaf,P⟩,some ⟨.leaf,.str s.w.t⟩,some ⟨.leaf,.tuple [aF thr,aF goal]⟩,none]=.ok ⟨.lst .leaf,oN (w.os.map fun _=>s.w.some)⟩ [some ⟨.leaf,w.enc⟩,some ⟨.leaf,s.enc⟩,some ⟨.leaf,P⟩,some ⟨.leaf,.str s.w.t⟩,some ⟨.leaf,.tuple [aF thr,aF goal]⟩,none]:=by
   have:=oT (fun d:D=>d) w.os (fun _=>⟨.leaf,.bool s.w.some⟩) (s:=.leaf) (i:=5) (fi:=bt (ai (af 0) (eK (.int 0)))) (fe:=az (bE false) (af 3) (eK bB)) (st:=true) (Γ:=[some ⟨.leaf,w.enc⟩,some ⟨.leaf,s.enc⟩,some ⟨.leaf,P⟩,some ⟨.leaf,.str s.w.t⟩,some ⟨.leaf,.tuple [aF thr,aF goal]⟩,none]) (by simp [Wd.enc]) (by simp) rfl (by omega) (fun x hx=>by simp)
   rw [this];simp
  refine aS ?_
  unfold fG;rw [eZ,s1];simp only
  rw [eZ,s2];simp only
  rw [eZ,s3];simp only
  exact aW (cn (ay (aw rfl) (ay c1 (ay (nc (j:=0) (ds:=[aF thr,aF goal]) (aw rfl) aL rfl rfl rfl) (ay (nc (j:=1) (ds:=[aF thr,aF goal]) (aw rfl) aL rfl rfl rfl) ah)))) e rfl rfl) rfl
 ·have:=R.p r k hr hg e
  rw [hch r hr] at this;exact this
 ·have:=R.z r hr e
  rw [hch r hr] at this;exact this
noncomputable def d7 (w:Wd):Sn->Nat->Prop
 | .yes,_=>True
 | .mk c,r=>c∈w.mks r
 | .un .not a,r=>¬d7 w a r
 | .un .sn a,r=>∃t∈w.stp r,d7 w a t
 | .un .an a,r=>∀t∈w.stp r,d7 w a t
 | .un .sa a,r=>¬Unt w false (fun _=>True) (fun t=>¬d7 w a t) r
 | .un .aa a,r=>¬Unt w true (fun _=>True) (fun t=>¬d7 w a t) r
 | .bi .and a b,r=>d7 w a r/\d7 w b r
 | .bi .or a b,r=>d7 w a r\/d7 w b r
 | .bi .su a b,r=>Unt w true (d7 w a) (d7 w b) r
 | .bi .au a b,r=>Unt w false (d7 w a) (d7 w b) r
noncomputable def dF (w:Wd) (s:Sn) (r:Nat):Bool:=@decide (d7 w s r) (Classical.propDecidable _)
theorem satB_iff {w:Wd} {s:Sn} {r:Nat}:dF w s r=true↔d7 w s r:=by
 unfold dF;exact @decide_eq_true_iff _ (Classical.propDecidable _)
theorem sV {w:Wd} {s:Sn} {r:Nat} {b:Bool} (h:b=true↔d7 w s r):b=dF w s r:=by
 rw [Bool.eq_iff_iff,h,satB_iff]
noncomputable def bc (w:Wd) (s:Sn):List Nat:=(List.range w.n).filter (dF w s)
theorem mem_rof {w:Wd} {s:Sn} {r:Nat}:r∈bc w s↔r<w.n/\d7 w s r:=by
 unfold bc;rw [List.mem_filter,mem_range,satB_iff]
theorem wO {w:Wd} {s:Sn} {r:Nat} (hr:r<w.n):(bc w s).contains r=dF w s r:=by
 rw [Bool.eq_iff_iff,contains_iff_mem,mem_rof,satB_iff];exact ⟨fun h=>h.2,fun h=>⟨hr,h⟩⟩
theorem Unt.congr {w:Wd} (ok:w.Ok) {any:Bool} {P P' Q Q':Nat->Prop} (hp:∀t,t<w.n->P t->P' t) (hq:∀t,t<w.n->Q t->Q' t) {r:Nat} (hr:r<w.n) (h:Unt w any P Q r):Unt w any P' Q' r:=by
 induction h with
 | now q=>exact .now (hq _ hr q)
 | some e p ht _ ih=>exact .some e (hp _ hr p) ht (ih (ok.stp_lt ht))
 | all e p _ ih=>exact .all e (hp _ hr p) fun t ht=>ih t ht (ok.stp_lt ht)
theorem CC {c:Str} {r:List Str} (hc:PyData.strOk c=true) (h:∀x∈r,PyData.strOk x=true):bE false (.str c) (AG r)=some (.bool (r.contains c)):=by
 have hs:gy (r.map PyData.str):=fun a ha=>by
  obtain ⟨x,hx,rfl⟩:=List.mem_map.mp ha;exact ⟨x,rfl,h x hx⟩
 rw [AG,CG hc hs];congr 2
 unfold has;simp only [List.any_map]
 rw [Bool.eq_iff_iff,any_eq_true,contains_iff_mem];constructor
 ·rintro ⟨x,hx,e⟩
  have:PyData.eqv (.str x) (.str c)=true:=e
  have:x=c:=by simpa [PyData.eqv] using this
  rw [<-this];exact hx
 ·intro hx
  exact ⟨c,hx,by show PyData.eqv (.str c) (.str c)=true;simp [PyData.eqv]⟩
noncomputable abbrev bU (ps:List (List Nat)):D:=.list (ps.map aF)
theorem zN {ps:List (List Nat)} {r:Nat} {Γ:Ev} (hl:Γ.length=9) (h2:Γ[2]?=some (some ⟨.leaf,bU ps⟩)) (h4:Γ[4]?=some (some ⟨.leaf,rm r⟩)) (hn:ps.length<=10000) :
  aC .leaf 7 (bt (af 2)) aR (az (bE false) (af 4) (af 7)) Γ=.ok ⟨.lst .leaf,.list (ps.map fun R=>.bool (R.contains r))⟩ Γ:=by
 refine oT aF ps (fun R=>⟨.leaf,.bool (R.contains r)⟩) (st:=true) (by simp [h2]) (by omega) rfl hn fun R hR=>?_
 have g4:(Γ.set 7 (some ⟨.leaf,aF R⟩))[4]?=some (some ⟨.leaf,rm r⟩):=by rw [getElem?_set_ne (by omega)];exact h4
 have g7:(Γ.set 7 (some ⟨.leaf,aF R⟩))[7]?=some (some ⟨.leaf,aF R⟩):=getElem?_set_self (by omega)
 refine ⟨?_,rfl⟩
 rw [Bv,pG,g4];simp only [uD,wK]
 rw [pG,g7];simp only [uD,wK,wI]
theorem xj {w:Wd} (ok:w.Ok) {r:Nat}:(w.stp r).length<=10000:=by
 unfold Wd.stp;rw [getD_eq_getElem?_getD]
 cases e:w.s[r]? with
 | none=>simp
 | some x=>
  have:=(ok.st x (mem_of_getElem? e)).2.1
  simp only [Option.getD_some]
  omega
theorem ER {w:Wd} (ok:w.Ok) {R:List Nat} {ps:List (List Nat)} {r:Nat} (hr:r<w.n) {Γ:Ev} (hl:Γ.length=9) (h0:Γ[0]?=some (some ⟨.leaf,w.enc⟩)) (h2:Γ[2]?=some (some ⟨.leaf,bU (R::ps)⟩)) (h4:Γ[4]?=some (some ⟨.leaf,rm r⟩)) :
  aC .leaf 8 (bt (ai (ai (af 0) (eK (.int 2))) (af 4))) aR (az (bE false) (af 8) (ai (af 2) (eK (.int 0)))) Γ=.ok ⟨.lst .leaf,.list ((w.stp r).map fun t=>.bool (R.contains t))⟩ Γ:=by
 have a2:=ok.at2 hr
 refine oT rm (w.stp r) (fun t=>⟨.leaf,.bool (R.contains t)⟩) (st:=true) (by simp [h0,h4,Wd.enc,a2]) (by omega) rfl (xj ok) fun t ht=>?_
 have g2:(Γ.set 8 (some ⟨.leaf,rm t⟩))[2]?=some (some ⟨.leaf,bU (R::ps)⟩):=by rw [getElem?_set_ne (by omega)];exact h2
 have g8:(Γ.set 8 (some ⟨.leaf,rm t⟩))[8]?=some (some ⟨.leaf,rm t⟩):=getElem?_set_self (by omega)
 refine ⟨?_,rfl⟩
 rw [Bv,pG,g8];simp only [uD,wK]
 rw [fQ,pG,g2];simp [wI]
noncomputable def wg (w:Wd) (s:Sn) (R:D):Prop:=match s with
 | .bi .su a b=>∃rk,R=dm rk/\Right w true (bc w a) (bc w b) rk
 | .bi .au a b=>∃rk,R=dm rk/\Right w false (bc w a) (bc w b) rk
 | .un .sa a=>∃rk,R=dm rk/\Right w false (List.range w.n) ((List.range w.n).filter fun t=>!(bc w a).contains t) rk
 | .un .aa a=>∃rk,R=dm rk/\Right w true (List.range w.n) ((List.range w.n).filter fun t=>!(bc w a).contains t) rk
 | _=>R=.none
theorem Hf {w:Wd} (ok:w.Ok) {any:Bool} {a b:Sn} {r:Nat} (hr:r<w.n):Unt w any (·∈bc w a) (·∈bc w b) r↔Unt w any (d7 w a) (d7 w b) r:=
 ⟨Unt.congr ok (fun t _ h=>(mem_rof.mp h).2) (fun t _ h=>(mem_rof.mp h).2) hr,Unt.congr ok (fun t ht h=>mem_rof.mpr ⟨ht,h⟩) (fun t ht h=>mem_rof.mpr ⟨ht,h⟩) hr⟩
theorem G6 {w:Wd} (ok:w.Ok) {any:Bool} {a:Sn} {r:Nat} (hr:r<w.n):Unt w any (·∈List.range w.n) (·∈(List.range w.n).filter fun t=>!(bc w a).contains t) r↔Unt w any (fun _=>True) (fun t=>¬d7 w a t) r:=by
 have q:∀t,t<w.n->(t∈(List.range w.n).filter fun t=>!(bc w a).contains t)\/d7 w a t:=fun t ht=>by
  by_cases h:d7 w a t
  ·exact .inr h
  ·refine .inl (List.mem_filter.mpr ⟨List.mem_range.mpr ht,?_⟩)
   rw [wO ht]
   cases e:dF w a t with
   | false=>rfl
   | true=>exact absurd (satB_iff.mp e) h
 constructor
 ·refine Unt.congr ok (fun _ _ _=>trivial) (fun t ht h hs=>?_) hr
  have:=(List.mem_filter.mp h).2
  rw [wO ht,satB_iff.mpr hs] at this
  cases this
 ·exact Unt.congr ok (fun t ht _=>List.mem_range.mpr ht) (fun t ht h=>(q t ht).elim id fun z=>absurd z h) hr
theorem iD {o:Option Nat}:(!o.isNone)=true↔o≠none:=by cases o<;>simp
theorem pY {o:Option Nat}:o.isNone=true↔¬o≠none:=by cases o<;>simp
theorem Kn {a b:Bool}:cD true [.list [.bool a,.bool b]]=some (.bool (a||b)):=by cases a<;>cases b<;>rfl
theorem all2 {a b:Bool}:cD false [.list [.bool a,.bool b]]=some (.bool (a&&b)):=by cases a<;>cases b<;>rfl
theorem kK {w:Wd} (ok:w.Ok) {s:Sn} (hs:s.ok) {R:D} (hR:wg w s R) {r:Nat} (hr:r<w.n):dP [w.enc,s.enc,bU (s.args.map (bc w)),R,rm r]=.ok ⟨.leaf,.bool (dF w s r)⟩:=by
 refine aS ?_
 have a1:=ok.at1 hr
 have a2:=ok.at2 hr
 cases s with
 | yes=>
  have e:true=dF w .yes r:=sV (by simp [d7])
  rw [<-e];simp [bz,aQ,Sn.enc]
 | mk c=>
  have e:(w.mks r).contains c=dF w (.mk c) r:=sV (by rw [contains_iff_mem];rfl)
  have hm:∀x∈w.mks r,PyData.strOk x=true:=fun x hx=>by
   unfold Wd.mks at hx;rw [getD_eq_getElem?_getD,getElem?_eq_getElem (by rw [ok.lm];exact hr)] at hx
   exact ok.mc _ (getElem_mem _) x hx
  rw [<-e];simp [bz,aQ,Sn.enc,Wd.enc,a1,CC (Cf hs).1 hm]
 | un k a=>
  have hc:=zN (ps:=[bc w a]) (r:=r) (Γ:=[some ⟨.leaf,w.enc⟩,some ⟨.leaf,(Sn.un k a).enc⟩,some ⟨.leaf,bU [bc w a]⟩,some ⟨.leaf,R⟩,some ⟨.leaf,rm r⟩,some ⟨.leaf,.str k.w.t⟩,none,none,none]) rfl rfl rfl (by simp)
  have sc:=ER ok (R:=bc w a) (ps:=[]) hr (Γ:=[some ⟨.leaf,w.enc⟩,some ⟨.leaf,(Sn.un k a).enc⟩,some ⟨.leaf,bU [bc w a]⟩,some ⟨.leaf,R⟩,some ⟨.leaf,rm r⟩,some ⟨.leaf,.str k.w.t⟩,some ⟨.leaf,.list [.bool ((bc w a).contains r)]⟩,none,none]) rfl rfl rfl rfl
  have dl:=qk (c:=k.w.some) (bs:=(w.stp r).map fun t=>(bc w a).contains t)
  rw [map_map] at dl;have dl:cF [.bool k.w.some,.list ((w.stp r).map fun t=>.bool ((bc w a).contains t))]=_:=dl
  have stB:∀t∈w.stp r,(bc w a).contains t=true↔d7 w a t:=fun t ht=>by rw [wO (ok.stp_lt ht),satB_iff]
  simp only [Sn.enc] at hc sc
  cases k with
  | not=>
   have e:(!(bc w a).contains r)=dF w (.un .not a) r:=sV (by rw [wO hr];simp [d7,<-satB_iff])
   rw [<-e];simp [U5.w] at hc
   simp [bz,aQ,Sn.enc,Sn.args,U5.w,hc]
  | sn=>
   have e:iF true ((w.stp r).map fun t=>(bc w a).contains t)=dF w (.un .sn a) r:=sV (by
    rw [led_iff];simp only [led,d7,if_true]
    exact ⟨fun ⟨t,ht,h⟩=>⟨t,ht,(stB t ht).mp h⟩,fun ⟨t,ht,h⟩=>⟨t,ht,(stB t ht).mpr h⟩⟩)
   have wk:U5.sn.w.some=true:=rfl
   have wk2:Wr.sn.some=true:=rfl
   rw [wk,e] at dl;simp [U5.w] at hc sc dl
   simp [bz,aQ,Sn.enc,Sn.args,U5.w,hc,sc,dl,wk2]
  | an=>
   have e:iF false ((w.stp r).map fun t=>(bc w a).contains t)=dF w (.un .an a) r:=sV (by
    rw [led_iff];simp only [led,d7,Bool.false_eq_true,if_false]
    exact ⟨fun h t ht=>(stB t ht).mp (h t ht),fun h t ht=>(stB t ht).mpr (h t ht)⟩)
   have wk:U5.an.w.some=false:=rfl
   have wk2:Wr.an.some=false:=rfl
   rw [wk,e] at dl;simp [U5.w] at hc sc dl
   simp [bz,aQ,Sn.enc,Sn.args,U5.w,hc,sc,dl,wk2]
  | sa=>
   obtain ⟨rk,rfl,hR⟩:=hR;have a3:=gN (rk:=rk) (t:=r) (by rw [hR.len];exact hr)
   have e:(aY rk r).isNone=dF w (.un .sa a) r:=sV (by rw [pY,hR.iff ok hr,G6 ok hr];rfl)
   rw [<-e];simp [bz,aQ,Sn.enc,Sn.args,U5.w,a3]
  | aa=>
   obtain ⟨rk,rfl,hR⟩:=hR;have a3:=gN (rk:=rk) (t:=r) (by rw [hR.len];exact hr)
   have e:(aY rk r).isNone=dF w (.un .aa a) r:=sV (by rw [pY,hR.iff ok hr,G6 ok hr];rfl)
   rw [<-e];simp [bz,aQ,Sn.enc,Sn.args,U5.w,a3]
 | bi k a b=>
  have hc:=zN (ps:=[bc w a,bc w b]) (r:=r) (Γ:=[some ⟨.leaf,w.enc⟩,some ⟨.leaf,(Sn.bi k a b).enc⟩,some ⟨.leaf,bU [bc w a,bc w b]⟩,some ⟨.leaf,R⟩,some ⟨.leaf,rm r⟩,some ⟨.leaf,.str k.w.t⟩,none,none,none]) rfl rfl rfl (by simp)
  simp only [Sn.enc] at hc
  cases k with
  | and=>
   have e:((bc w a).contains r&&(bc w b).contains r)=dF w (.bi .and a b) r:=sV (by rw [wO hr,wO hr,Bool.and_eq_true,satB_iff,satB_iff];rfl)
   rw [<-e];simp [B4.w] at hc
   simp [bz,aQ,Sn.enc,Sn.args,B4.w,hc,all2]
  | or=>
   have e:((bc w a).contains r||(bc w b).contains r)=dF w (.bi .or a b) r:=sV (by rw [wO hr,wO hr,Bool.or_eq_true,satB_iff,satB_iff];rfl)
   rw [<-e];simp [B4.w] at hc
   simp [bz,aQ,Sn.enc,Sn.args,B4.w,hc,Kn]
  | su=>
   obtain ⟨rk,rfl,hR⟩:=hR;have a3:=gN (rk:=rk) (t:=r) (by rw [hR.len];exact hr)
   have e:(!(aY rk r).isNone)=dF w (.bi .su a b) r:=sV (by rw [iD,hR.iff ok hr,Hf ok hr];rfl)
   rw [<-e];simp [bz,aQ,Sn.enc,Sn.args,B4.w,a3]
  | au=>
   obtain ⟨rk,rfl,hR⟩:=hR;have a3:=gN (rk:=rk) (t:=r) (by rw [hR.len];exact hr)
   have e:(!(aY rk r).isNone)=dF w (.bi .au a b) r:=sV (by rw [iD,hR.iff ok hr,Hf ok hr];rfl)
   rw [<-e];simp [bz,aQ,Sn.enc,Sn.args,B4.w,a3]
theorem GI {w:Wd} {s:Sn}:∀r∈bc w s,r<w.n:=fun r hr=>(mem_rof.mp hr).1
theorem G0 {w:Wd} (ok:w.Ok) {s:Sn}:(bc w s).length<=1000:=by
 have:=ok.h24
 exact Nat.le_trans (length_filter_le _ _) (by simp;omega)
theorem Jr {Γ Γ1:Ev} {fl:FL} {ps:List PV} {k:Int} (hl:fl Γ=.ok ps Γ1) (hp:ps.map (·.d)=[.int k]) (h0:0<=k) (h1:k<=1000):C5 fl Γ=.ok ⟨.lst .leaf,.list (b4 0 k.toNat)⟩ Γ1:=by
 have h3:cU k=true:=CD (by omega) (by omega)
 have hb:=Dx
 have h4:k<=(sizeLine:Int):=by omega
 unfold C5;rw [hl];simp only [Out.bind,hp,jb,h3,if_true,h4]
theorem Gv {w:Wd} (ok:w.Ok) {Γ:Ev} (h0:Γ[0]?=some (some ⟨.leaf,w.enc⟩)):C5 (ae (bw aT (ae (ai (af 0) (eK (.int 0))) ag)) ag) Γ=.ok ⟨.lst .leaf,aF (List.range w.n)⟩ Γ:=by
 have lo:=ok.g.lo
 have h24:=ok.h24
 rw [Jr (Γ1:=Γ) (ps:=[⟨.leaf,.int w.n⟩]) (k:=(w.n:Int)) (by simp [h0,Wd.enc,lo]) rfl (by omega) (by omega),Int.toNat_natCast,GZ]
theorem iO {w:Wd} {s:Sn} {A B:List Nat} (hw:s.w=.su\/s.w=.au):bq [w.enc,s.enc,bU [A,B]]=.ok ⟨.tup [.leaf,.leaf],.tuple [aF A,aF B]⟩:=by
 have hst:ai (af 1) (eK (.int 0)) (aQ 3 [w.enc,s.enc,bU [A,B]])=.ok ⟨.leaf,.str s.w.t⟩ (aQ 3 [w.enc,s.enc,bU [A,B]]):=by
  cases s<;>simp [aQ,Sn.enc,Sn.w]
 refine aS ?_
 unfold cV;rw [eZ,JJ,EZ,Bv,hst];simp [hw,aQ,zq]
theorem xX {w:Wd} (ok:w.Ok) {x:PV} {A:List Nat}:ak 2 cE (ae (af 0) (ae (ai (af 2) (eK (.int 0))) ag)) [some ⟨.leaf,w.enc⟩,some x,some ⟨.leaf,bU [A]⟩]=.ok ⟨.lst .leaf,aF ((List.range w.n).filter fun t=>!A.contains t)⟩ [some ⟨.leaf,w.enc⟩,some x,some ⟨.leaf,bU [A]⟩]:=
 cn (ps:=[⟨.leaf,w.enc⟩,⟨.leaf,aF A⟩]) (ay (aw rfl) (ay (dJ (j:=0) (ds:=[aF A]) (aw rfl) aL rfl rfl rfl) ah)) (gY ok (r:=A)) rfl rfl
theorem iP {w:Wd} (ok:w.Ok) {s:Sn} {A:List Nat} (hw:¬(s.w=.su\/s.w=.au)):bq [w.enc,s.enc,bU [A]]=.ok ⟨.tup [.lst .leaf,.lst .leaf],.tuple [aF (List.range w.n),aF ((List.range w.n).filter fun t=>!A.contains t)]⟩:=by
 have hst:ai (af 1) (eK (.int 0)) [some ⟨.leaf,w.enc⟩,some ⟨.leaf,s.enc⟩,some ⟨.leaf,bU [A]⟩]=.ok ⟨.leaf,.str s.w.t⟩ [some ⟨.leaf,w.enc⟩,some ⟨.leaf,s.enc⟩,some ⟨.leaf,bU [A]⟩]:=by
  cases s<;>simp [Sn.enc,Sn.w]
 have lr:=Gv ok (Γ:=[some ⟨.leaf,w.enc⟩,some ⟨.leaf,s.enc⟩,some ⟨.leaf,bU [A]⟩]) rfl
 refine aS (aq (Γ1:=[some ⟨.leaf,w.enc⟩,some ⟨.leaf,s.enc⟩,some ⟨.leaf,bU [A]⟩]) (aV (t:=false) (Γ1:=[some ⟨.leaf,w.enc⟩,some ⟨.leaf,s.enc⟩,some ⟨.leaf,bU [A]⟩]) (dY (s:=.leaf) (aE hst aL (by show bE false (.str s.w.t) bZ=_;rw [vg,decide_eq_false hw]))) nofun (fun _=>rfl)) (aW (bG (ay lr (ay (xX ok) ah)) rfl rfl) rfl))
theorem jG {w:Wd} (ok:w.Ok) {s:Sn}:∃p:PV,bN [w.enc,s.enc,bU (s.args.map (bc w))]=.ok p/\coer .leaf p=true/\wg w s p.d:=by
 have h24:=ok.h24
 have plain:∀s:Sn,¬(s.w=.su\/s.w=.au)->¬(s.w=.sa\/s.w=.aa)->∀P:D,bN [w.enc,s.enc,P]=.ok ⟨.leaf,.none⟩:=fun s h1 h2 P=>by
  have hst:ai (af 1) (eK (.int 0)) (aQ 6 [w.enc,s.enc,P])=.ok ⟨.leaf,.str s.w.t⟩ (aQ 6 [w.enc,s.enc,P]):=by
   cases s<;>simp [aQ,Sn.enc,Sn.w]
  refine aS ?_
  unfold fG;rw [eZ,pH,hst];simp [aQ,h1,h2]
 have gl:∀a:Sn,(∀r∈(List.range w.n).filter (fun t=>!(bc w a).contains t),r<w.n)/\((List.range w.n).filter fun t=>!(bc w a).contains t).length<=1000:=fun a=>
  ⟨fun r hr=>List.mem_range.mp (List.mem_filter.mp hr).1,Nat.le_trans (length_filter_le _ _) (by simp;omega)⟩
 cases s with
 | yes=>exact ⟨_,plain .yes (by simp [Sn.w]) (by simp [Sn.w]) _,rfl,rfl⟩
 | mk c=>exact ⟨_,plain (.mk c) (by simp [Sn.w]) (by simp [Sn.w]) _,rfl,rfl⟩
 | un k a=>
  cases k with
  | not=>exact ⟨_,plain (.un .not a) (by simp [Sn.w,U5.w]) (by simp [Sn.w,U5.w]) _,rfl,rfl⟩
  | sn=>exact ⟨_,plain (.un .sn a) (by simp [Sn.w,U5.w]) (by simp [Sn.w,U5.w]) _,rfl,rfl⟩
  | an=>exact ⟨_,plain (.un .an a) (by simp [Sn.w,U5.w]) (by simp [Sn.w,U5.w]) _,rfl,rfl⟩
  | sa=>
   obtain ⟨rk,e,R⟩:=Hq ok (s:=.un .sa a) (P:=bU [bc w a]) (.inr (.inl rfl)) ⟨_,rfl,iP ok (by simp [Sn.w,U5.w])⟩ (fun r hr=>List.mem_range.mp hr) (by simp;omega) (gl a).1 (gl a).2
   exact ⟨_,e,rfl,rk,rfl,R⟩
  | aa=>
   obtain ⟨rk,e,R⟩:=Hq ok (s:=.un .aa a) (P:=bU [bc w a]) (.inr (.inr rfl)) ⟨_,rfl,iP ok (by simp [Sn.w,U5.w])⟩ (fun r hr=>List.mem_range.mp hr) (by simp;omega) (gl a).1 (gl a).2
   exact ⟨_,e,rfl,rk,rfl,R⟩
 | bi k a b=>
  cases k with
  | and=>exact ⟨_,plain (.bi .and a b) (by simp [Sn.w,B4.w]) (by simp [Sn.w,B4.w]) _,rfl,rfl⟩
  | or=>exact ⟨_,plain (.bi .or a b) (by simp [Sn.w,B4.w]) (by simp [Sn.w,B4.w]) _,rfl,rfl⟩
  | su=>
   obtain ⟨rk,e,R⟩:=Hq ok (s:=.bi .su a b) (P:=bU [bc w a,bc w b]) (.inl (.inl rfl)) ⟨_,rfl,iO (.inl rfl)⟩ GI (G0 ok) GI (G0 ok)
   exact ⟨_,e,rfl,rk,rfl,R⟩
  | au=>
   obtain ⟨rk,e,R⟩:=Hq ok (s:=.bi .au a b) (P:=bU [bc w a,bc w b]) (.inl (.inr rfl)) ⟨_,rfl,iO (.inr rfl)⟩ GI (G0 ok) GI (G0 ok)
   exact ⟨_,e,rfl,rk,rfl,R⟩
theorem gg {w:Wd} (ok:w.Ok) {s:Sn} (hs:s.ok) {R:D} (hR:wg w s R):cz [w.enc,s.enc,bU (s.args.map (bc w)),R]=.ok ⟨.lst .leaf,aF (bc w s)⟩:=by
 have lo:=ok.g.lo
 have h24:=ok.h24
 have e:aC .leaf 4 (eJ (ae (bw aT (ae (ai (af 0) (eK (.int 0))) ag)) ag)) (aN bf (ak 5 dP (ae (af 0) (ae (af 1) (ae (af 2) (ae (af 3) (ae (af 4) ag))))))) (af 4) (aQ 5 [w.enc,s.enc,bU (s.args.map (bc w)),R])=.ok ⟨.lst .leaf,.list (((List.range w.n).filter (dF w s)).map fun t=>rm t)⟩ (aQ 5 [w.enc,s.enc,bU (s.args.map (bc w)),R]):=by
  refine wA rm (List.range w.n) (dF w s) (fun t=>⟨.leaf,rm t⟩) (st:=true) ?_ (by simp [aQ]) rfl (by simp;omega) (fun t ht=>?_) (fun t ht _=>?_)
  ·refine (nq (k:=(w.n:Int)) (ps:=[⟨.leaf,.int w.n⟩]) ?_ rfl (by omega) (by omega)).trans (by rw [<-GZ];rfl)
   simp [aQ,Wd.enc,lo]
  ·have:=kK ok hs hR (List.mem_range.mp ht)
   simp [aQ,this]
  ·simp [aQ]
 refine aS ?_
 unfold iR;rw [pI,e];rfl
theorem iQ {w:Wd} (ok:w.Ok):∀(n:Nat) (s:Sn),s.ok->s.dep<=n->cS n [w.enc,s.enc]=.ok ⟨.lst .leaf,aF (bc w s)⟩
 | 0,s,_,h=>by
  have:=s.dep_args
  omega
 | n+1,s,hs,h=>by
  have da:∀a∈s.args,a.dep<=n:=fun a ha=>by
   have h1:=s.dep_args
   have:a.dep<=oB s.args:=by
    have:∀l:List Sn,a∈l->a.dep<=oB l:=fun l=>by
     induction l with
     | nil=>intro h;simp at h
     | cons b r ih=>
      intro h;rw [rX];rcases List.mem_cons.mp h with rfl | h
      ·exact Nat.le_max_left _ _
      ·exact Nat.le_trans (ih h) (Nat.le_max_right _ _)
    exact this _ ha
   omega
  have pa:=jV s
  have c:aC .leaf 3 (eI (ak 1 bh (ae (af 1) ag))) aR (ak 2 (cS n) (ae (af 0) (ae (af 3) ag))) (aQ 4 [w.enc,s.enc])=.ok ⟨.lst .leaf,.list (s.args.map fun a=>aF (bc w a))⟩ (aQ 4 [w.enc,s.enc]):=by
   refine oT Sn.enc s.args (fun a=>⟨.lst .leaf,aF (bc w a)⟩) (st:=true) ?_ (by simp [aQ]) rfl (by have:=s.args_le;omega) fun a ha=>?_
   ·simp [aQ,pa,cR]
   ·have:=iQ ok n a (Sn.args_ok hs a ha) (da a ha)
    simp [aQ,this]
  obtain ⟨p,e1,e2,e3⟩:=jG ok (s:=s)
  have rb:=gg ok hs e3
  have em:(s.args.map fun a=>aF (bc w a))=(s.args.map (bc w)).map aF:=by rw [map_map];rfl
  rw [em] at c;show aD 4 (iU (cS n)) [w.enc,s.enc]=_
  refine aS ?_
  have s1:aA false 2 (aC .leaf 3 (eI (ak 1 bh (ae (af 1) ag))) aR (ak 2 (cS n) (ae (af 0) (ae (af 3) ag)))) (aQ 4 [w.enc,s.enc])=.nx [some ⟨.leaf,w.enc⟩,some ⟨.leaf,s.enc⟩,some ⟨.leaf,bU (s.args.map (bc w))⟩,none]:=by
   rw [pH,c];simp [aQ]
  have s2:ak 3 bN (ae (af 0) (ae (af 1) (ae (af 2) ag))) [some ⟨.leaf,w.enc⟩,some ⟨.leaf,s.enc⟩,some ⟨.leaf,bU (s.args.map (bc w))⟩,none]=.ok p [some ⟨.leaf,w.enc⟩,some ⟨.leaf,s.enc⟩,some ⟨.leaf,bU (s.args.map (bc w))⟩,none]:=
   cn (ay (aw rfl) (ay (aw rfl) (ay (aw rfl) ah))) e1 rfl rfl
  have s3:ak 4 cz (ae (af 0) (ae (af 1) (ae (af 2) (ae (ak 3 bN (ae (af 0) (ae (af 1) (ae (af 2) ag)))) ag)))) [some ⟨.leaf,w.enc⟩,some ⟨.leaf,s.enc⟩,some ⟨.leaf,bU (s.args.map (bc w))⟩,none]=.ok ⟨.lst .leaf,aF (bc w s)⟩ [some ⟨.leaf,w.enc⟩,some ⟨.leaf,s.enc⟩,some ⟨.leaf,bU (s.args.map (bc w))⟩,none]:=
   cn (ay (aw rfl) (ay (aw rfl) (ay (aw rfl) (ay s2 ah)))) rb rfl (by simp only [List.all_cons,Bx,e2,List.all_nil,Bool.and_self])
  unfold iU;rw [eZ,s1];simp only
  rw [pI,s3];rfl
theorem Wd.Ok.check {w:Wd} (ok:w.Ok):dt [w.enc]=.ok ⟨.leaf,.none⟩:=sg (ok.g.wk (b:=24) ok.h24) (by omega) (ok.g.isW ok.h1 ok.h24)
end KC
namespace T
open PySem PySem.Spec L2
open PyProof.Rows hiding St
theorem IZ {α:Type} (en:α->D) {i:Nat} {body:FS} {Inv:List α->Ev->Prop} (hb:∀a r Γ,Inv (a::r) Γ->i<Γ.length/\∃Γ',body (Γ.set i (some ⟨.leaf,en a⟩))=.nx Γ'/\Inv r Γ'):∀(xs:List α) (Γ:Ev),Inv xs Γ->∃Γ',bO i body (xs.map en) Γ=.nx Γ'/\Inv [] Γ'
 | [],Γ,h=>⟨Γ,rfl,h⟩
 | a::r,Γ,h=>by
  obtain ⟨hi,Γ1,h1,h2⟩:=hb a r Γ h;obtain ⟨Γ2,e,h3⟩:=IZ en hb r Γ1 h2;refine ⟨Γ2,?_,h3⟩
  rw [map_cons,bO,if_pos hi,h1];exact e
theorem dE {Γ Γ1 Γ2:Ev} {fa fb:F1} {s s':Sh} {xs ys:List D} (ha:fa Γ=.ok ⟨s,.list xs⟩ Γ1) (hb:fb Γ1=.ok ⟨s',.list ys⟩ Γ2) (h1:cR ⟨s,.list xs⟩ xs=true) (h2:cR ⟨s',.list ys⟩ ys=true) (hn:xs.length+ys.length<=10000):bJ fa fb Γ=.ok ⟨.lst .leaf,.list (xs++ys)⟩ Γ2:=by
 have hb':(10000:Nat)<=sizeLine:=by decide
 have:xs.length+ys.length<=sizeLine:=Nat.le_trans hn hb'
 unfold bJ bg;rw [ha];simp only [wK]
 rw [hb];simp only [wK,h1,h2,decide_eq_true this,Bool.and_self,if_true]
end T
namespace KC
open PySem PySem.Spec L2 T PySem.SeqAt
open PyProof.Rows hiding St
theorem EC {n:Nat} {os ms ss:List D} (g:Gw (n:Int) n os ms ss) (h1:1<=n) (h24:n<=24):∃w:Wd,w.Ok/\w.enc=dM os ms ss/\w.n=n:=by
 have hm:∀l:List D,(∀r∈l,∃xs,r=.list xs/\gy xs)->∃M:List (List Str),l=M.map AG/\∀r∈M,∀c∈r,PyData.strOk c=true:=by
  have one:∀xs:List D,gy xs->∃r:List Str,xs=r.map .str/\∀c∈r,PyData.strOk c=true:=by
   intro xs;induction xs with
   | nil=>intro _;exact ⟨[],rfl,by simp⟩
   | cons a r ih=>
    intro h;obtain ⟨x,rfl,hx⟩:=h a mem_cons_self;obtain ⟨t,rfl,ht⟩:=ih fun b hb=>h b (mem_cons_of_mem _ hb)
    exact ⟨x::t,rfl,fun c hc=>(List.mem_cons.mp hc).elim (fun e=>by rw [e];exact hx) (ht c)⟩
  intro l;induction l with
  | nil=>intro _;exact ⟨[],rfl,by simp⟩
  | cons a r ih=>
   intro h;obtain ⟨xs,rfl,hx⟩:=h a mem_cons_self;obtain ⟨x,rfl,hx2⟩:=one xs hx;obtain ⟨M,rfl,hM⟩:=ih fun b hb=>h b (mem_cons_of_mem _ hb)
   exact ⟨x::M,rfl,fun c hc=>(List.mem_cons.mp hc).elim (fun e=>by rw [e];exact hx2) (hM c)⟩
 have hs:∀l:List D,(∀r∈l,∃ts:List Int,r=.list (ts.map .int)/\ts.length<=30/\ts≠[]/\(∀t∈ts,0<=t/\t<(n:Int))/\ts.Pairwise (· < ·))->∃S:List (List Nat),l=S.map aF/\∀r∈S,r≠[]/\r.length<=30/\∀t∈r,t<n:=by
  have one:∀ts:List Int,(∀t∈ts,0<=t/\t<(n:Int))->∃r:List Nat,ts.map PyData.int=r.map rm/\r.length=ts.length/\∀t∈r,t<n:=by
   intro ts;induction ts with
   | nil=>intro _;exact ⟨[],rfl,rfl,by simp⟩
   | cons a r ih=>
    intro h;have ha:=h a mem_cons_self
    obtain ⟨t,e,el,ht⟩:=ih fun b hb=>h b (mem_cons_of_mem _ hb)
    refine ⟨a.toNat::t,?_,by simp [el],fun c hc=>(List.mem_cons.mp hc).elim (fun e=>by omega) (ht c)⟩
    rw [map_cons,map_cons,e];congr 2
    omega
  intro l;induction l with
  | nil=>intro _;exact ⟨[],rfl,by simp⟩
  | cons a r ih=>
   intro h;obtain ⟨ts,rfl,t1,t2,t3,_⟩:=h a mem_cons_self;obtain ⟨x,e,el,hx⟩:=one ts t3;obtain ⟨S,rfl,hS⟩:=ih fun b hb=>h b (mem_cons_of_mem _ hb)
   refine ⟨x::S,by rw [map_cons,e],fun c hc=>(List.mem_cons.mp hc).elim (fun e=>by
    subst e;exact ⟨fun z=>t2 (List.length_eq_zero_iff.mp (by rw [<-el,z];rfl)),by omega,hx⟩) (hS c)⟩
 obtain ⟨M,eM,hM⟩:=hm ms fun r hr=>let ⟨xs,a,b,_⟩:=g.m r hr;⟨xs,a,b⟩
 obtain ⟨S,eS,hS⟩:=hs ss g.s;subst eM eS;refine ⟨⟨n,os,M,S⟩,⟨g,h1,h24,?_,?_,hS,hM⟩,rfl,rfl⟩
 ·have:=g.lm;simpa using this
 ·have:=g.ls;simpa using this
noncomputable def knd:List Wr:=[.mark,.mark,.not,.and,.su,.au,.sn,.an,.sa,.aa,.or,.yes]
noncomputable abbrev J9:D:=.list (knd.map fun a=>.str a.t)
@[simp] theorem Kb (a:Wr):bE false (.str a.t) (.tuple [.str "and",.str "or",.str "some until",.str "all until"])=some (.bool (decide (a=.and\/a=.or\/a=.su\/a=.au))):=by cases a<;>kernel_rfl
noncomputable abbrev GS (xs:List D) (at' many:Int) (made:List Sn) (x5 x6 x7 x8 x9:Option PV):Ev:=[some ⟨.leaf,.list xs⟩,some ⟨.leaf,.int at'⟩,some ⟨.leaf,.int many⟩,some ⟨.leaf,J9⟩,some ⟨.lst .leaf,Ls made⟩,x5,x6,x7,x8,x9]
structure Mad (made:List Sn):Prop where
 ne:0<made.length
 ok:∀s∈made,s.ok
 dp:∀s∈made,s.dep<=made.length
theorem lQ {n:Nat}:b4 1 n=(List.range n).map fun k:Nat=>PyData.int (1+(k:Int)):=rfl
theorem oi (l:List Int):wJ (l.map .int)=some l:=by
 induction l with
 | nil=>rfl
 | cons a r ih=>rw [map_cons,wJ,ih];rfl
theorem yx {s a:Sn} (h:a∈s.args):a.dep+1<=s.dep:=by
 cases s with
 | yes=>simp [Sn.args] at h
 | mk c=>simp [Sn.args] at h
 | un k b=>simp [Sn.args] at h;subst h;simp [Sn.dep]
 | bi k b c=>
  simp [Sn.args] at h
  simp only [Sn.dep]
  rcases h with rfl | rfl<;>omega
end KC
namespace KQ
open PySem PySem.Spec L2 T PySem.SeqAt KC
open PyProof.Rows hiding St
noncomputable def d__law_world:FS:=(av (aA false 3 (az aO (eK (.int 1)) (az bV (ak 2 aM (ae (af 0) (ae (af 1) ag))) (af 2))))
  (av (aA true 4 (aB .leaf ag))
  (av (aA true 5 (aB .leaf ag))
  (av (aA true 6 (aB .leaf ag))
  (av (d8 7 (eJ (ae (af 3) ag))
  (av (aA false 8 (ak 2 aM (ae (af 0) (ae (az aO (az aO (af 1) (eK (.int 1))) (af 7)) ag))))
  (av (eN 4 (ak 3 aj (ae (af 8) (ae (eK (.int 0)) (ae (eK (.int 2)) ag)))))
  (av (eN 5 (aC .leaf 11 (iJ "abc") (aN ax (az bL (ak 3 aj (ae (af 8) (ae (az aO (eK (.int 1)) (bw (fY "abc") (ae (af 11) ag))) (ae (eK (.int 2)) ag)))) (eK (.int 1)))) (af 11)))
  (av (aA false 9 (aC .leaf 10 (eJ (ae (af 3) ag)) (aN ax (az bL (ak 3 aj (ae (af 8) (ae (az aO (eK (.int 4)) (af 10)) (ae (az aO (eK (.int 2)) (bw om (ae (az rO (af 3) (eK (.int 3))) ag))) ag)))) (eK (.int 1)))) (af 10)))
  (av (bF (aN ax (az bL (af 9) (aB .leaf ag))) (aA false 9 (aB .leaf (ae (ak 3 aj (ae (af 8) (ae (az aO (eK (.int 4)) (af 3)) (ae (af 3) ag)))) ag))) aG)
  (eN 6 (af 9))))))))
  (aI (bo (ae (bT 4) (ae (bT 5) (ae (bT 6) ag))))))))))
noncomputable def m__law_world:List PySem.PyData->Res:=aD 12 d__law_world
noncomputable abbrev eW:FS:=(av (aA false 8 (ak 2 aM (ae (af 0) (ae (az aO (az aO (af 1) (eK (.int 1))) (af 7)) ag))))
  (av (eN 4 (ak 3 aj (ae (af 8) (ae (eK (.int 0)) (ae (eK (.int 2)) ag)))))
  (av (eN 5 (aC .leaf 11 (iJ "abc") (aN ax (az bL (ak 3 aj (ae (af 8) (ae (az aO (eK (.int 1)) (bw (fY "abc") (ae (af 11) ag))) (ae (eK (.int 2)) ag)))) (eK (.int 1)))) (af 11)))
  (av (aA false 9 (aC .leaf 10 (eJ (ae (af 3) ag)) (aN ax (az bL (ak 3 aj (ae (af 8) (ae (az aO (eK (.int 4)) (af 10)) (ae (az aO (eK (.int 2)) (bw om (ae (az rO (af 3) (eK (.int 3))) ag))) ag)))) (eK (.int 1)))) (af 10)))
  (av (bF (aN ax (az bL (af 9) (aB .leaf ag))) (aA false 9 (aB .leaf (ae (ak 3 aj (ae (af 8) (ae (az aO (eK (.int 4)) (af 3)) (ae (af 3) ag)))) ag))) aG)
  (eN 6 (af 9)))))))
noncomputable def wD (k:Nat):D:=.str ⟨#[97+k]⟩
theorem wc {Γ:Ev}:iJ "abc" Γ=.ok ⟨[0,1,2].map wD,true⟩ Γ:=by
 have:F6 "abc"=[0,1,2].map wD:=by kernel_rfl
 unfold iJ;rw [this]
theorem u2 {k:Nat} (h:k∈[0,1,2]):k<3:=by
 simp at h
 omega
theorem Cz {k:Nat} (h:k∈[0,1,2]):fY "abc" [wD k]=some (.int (k:Int)):=by
 simp at h
 rcases h with rfl | rfl | rfl<;>kernel_rfl
theorem oO {xs os ms ss:List D} {at' lim many:Int} {n:Nat} {x8 x9:Option PV} (hx:RowI xs) (ha:0<=at') (hm:1<=many) (hm2:many<=24) (h:Gw many n os ms ss) (hn:n<=30) {r:Nat} :
  ∃os' ms' ss' x8' x9',eW [some ⟨.leaf,.list xs⟩,some ⟨.leaf,.int at'⟩,some ⟨.leaf,.int lim⟩,some ⟨.leaf,.int many⟩,some ⟨.lst .leaf,.list os⟩,some ⟨.lst .leaf,.list ms⟩,some ⟨.lst .leaf,.list ss⟩,some ⟨.leaf,.int (r:Nat)⟩,x8,x9,none,none]
   = .nx [some ⟨.leaf,.list xs⟩,some ⟨.leaf,.int at'⟩,some ⟨.leaf,.int lim⟩,some ⟨.leaf,.int many⟩,some ⟨.lst .leaf,.list os'⟩,some ⟨.lst .leaf,.list ms'⟩,some ⟨.lst .leaf,.list ss'⟩,some ⟨.leaf,.int (r:Nat)⟩,x8',x9',none,none]/\Gw many (n+1) os' ms' ss':=by
 obtain ⟨c,hc⟩:=Eg hx (k:=at'+1+(r:Int)) (by omega)
 have lo:=h.lo
 have lm:=h.lm
 have ls:=h.ls
 have c5:∀(Γ:Ev),Γ.length=12->Γ[8]?=some (some ⟨.leaf,.int c⟩)->(aC .leaf 11 (iJ "abc") (aN ax (az bL (ak 3 aj (ae (af 8) (ae (az aO (eK (.int 1)) (bw (fY "abc") (ae (af 11) ag))) (ae (eK (.int 2)) ag)))) (eK (.int 1)))) (af 11)) Γ
   = .ok ⟨.lst .leaf,.list (([0,1,2].filter fun k:Nat=>cP c (1+(k:Int)) 2==1).map wD)⟩ Γ:=fun Γ hl h8=>by
  refine wA wD [0,1,2] (fun k:Nat=>cP c (1+(k:Int)) 2==1) (fun k=>⟨.leaf,wD k⟩) (st:=true) wc (by omega) rfl (by simp) (fun k hk=>?_) fun k hk _=>?_
  ·have g11:(Γ.set 11 (some ⟨.leaf,wD k⟩))[11]?=some (some ⟨.leaf,wD k⟩):=by rw [getElem?_set_self (by omega)]
   have g8:(Γ.set 11 (some ⟨.leaf,wD k⟩))[8]?=some (some ⟨.leaf,.int c⟩):=by rw [getElem?_set_ne (by omega)];exact h8
   exact dY (aE (cn (ay (aw g8) (ay (aE aL (bQ (ay (aw g11) ah) (Cz hk)) add_int') (ay aL ah))) (wU (by omega) (by have:=u2 hk;omega) (by omega) (by omega)) rfl rfl) aL eq_int)
  ·exact ⟨aw (by rw [getElem?_set_self (by omega)]),rfl⟩
 generalize hM:(([0,1,2].filter fun k:Nat=>cP c (1+(k:Int)) 2==1).map wD)=M at c5
 have rM:gy M/\M.length<=30/\yc (.list M)=true:=by
  refine ⟨?_,?_,?_⟩
  ·rw [<-hM]
   intro a ha;obtain ⟨k,hk,rfl⟩:=List.mem_map.mp ha;have:=u2 (List.mem_filter.mp hk).1
   exact ⟨_,rfl,uY (by omega)⟩
  ·rw [<-hM,length_map]
   exact Nat.le_trans (length_filter_le _ _) (by simp)
  ·rw [<-hM]
   simp only [filter_cons,List.filter_nil]
   have:=J8 (cP c (1+((0:Nat):Int)) 2==1) (cP c (1+((1:Nat):Int)) 2==1) (cP c (1+((2:Nat):Int)) 2==1)
   revert this
   cases (cP c (1+((0:Nat):Int)) 2==1)<;>cases (cP c (1+((1:Nat):Int)) 2==1)<;>cases (cP c (1+((2:Nat):Int)) 2==1)<;>exact fun h=>h
 have c6:∀(Γ:Ev),Γ.length=12->Γ[8]?=some (some ⟨.leaf,.int c⟩)->Γ[3]?=some (some ⟨.leaf,.int many⟩)->aC .leaf 10 (eJ (ae (af 3) ag)) (aN ax (az bL (ak 3 aj (ae (af 8) (ae (az aO (eK (.int 4)) (af 10)) (ae (az aO (eK (.int 2)) (bw om (ae (az rO (af 3) (eK (.int 3))) ag))) ag)))) (eK (.int 1)))) (af 10) Γ
   = .ok ⟨.lst .leaf,.list (((b4 0 many.toNat).filter fun d=>match d with | .int k=>cP c (4+k) (2+(if decide (3<many) then 1 else 0))==1 | _=>false).map fun d=>d)⟩ Γ:=fun Γ hl h8 h3=>by
  refine iL (c:=fun d=>match d with | .int k=>cP c (4+k) (2+(if decide (3<many) then 1 else 0))==1 | _=>false) (f:=fun d=>⟨.leaf,d⟩) (st:=true) (nq (k:=many) (ay (aw h3) ah) rfl (by omega) (by omega)) (by omega) rfl (by rw [GY];omega) (fun d hd=>?_) fun d hd _=>?_
  ·obtain ⟨k,hk,rfl⟩:=D6 hd
   have g10:(Γ.set 10 (some ⟨.leaf,.int (0+(k:Int))⟩))[10]?=some (some ⟨.leaf,.int (0+(k:Int))⟩):=by rw [getElem?_set_self (by omega)]
   have g8:(Γ.set 10 (some ⟨.leaf,.int (0+(k:Int))⟩))[8]?=some (some ⟨.leaf,.int c⟩):=by rw [getElem?_set_ne (by omega)];exact h8
   have g3:(Γ.set 10 (some ⟨.leaf,.int (0+(k:Int))⟩))[3]?=some (some ⟨.leaf,.int many⟩):=by rw [getElem?_set_ne (by omega)];exact h3
   have b1:(1:Int)<=2+(if decide (3<many) then 1 else 0)/\(2:Int)+(if decide (3<many) then 1 else 0)<=1000:=by split<;>omega
   exact dY (aE (cn (ay (aw g8) (ay (aE aL (aw g10) add_int') (ay (aE aL (bQ (ay (aE (aw g3) aL rfl) ah) rfl) add_int') ah))) (wU (by omega) (by omega) b1.1 b1.2) rfl rfl) aL eq_int)
  ·obtain ⟨k,hk,rfl⟩:=D6 hd
   exact ⟨aw (by rw [getElem?_set_self (by omega)]),rfl⟩
 obtain ⟨ts,hT,hts1,hts2,hts3⟩:=A9 many.toNat (fun d=>match d with | .int k=>cP c (4+k) (2+(if decide (3<many) then 1 else 0))==1 | _=>false)
 rw [hT] at c6;have fin:∀(Γ:Ev) (T:List Int),(T.length<=30/\T≠[]/\(∀t∈T,0<=t/\t<many)/\T.Pairwise (· < ·))->Γ=[some ⟨.leaf,.list xs⟩,some ⟨.leaf,.int at'⟩,some ⟨.leaf,.int lim⟩,some ⟨.leaf,.int many⟩,some ⟨.lst .leaf,.list (os++[.int (cP c 0 2)])⟩,some ⟨.lst .leaf,.list (ms++[.list M])⟩,some ⟨.lst .leaf,.list ss⟩,some ⟨.leaf,.int (r:Nat)⟩,some ⟨.leaf,.int c⟩,some ⟨.leaf,.list (T.map .int)⟩,none,none] ->
   ∃os' ms' ss' x8' x9',eN 6 (af 9) Γ=.nx [some ⟨.leaf,.list xs⟩,some ⟨.leaf,.int at'⟩,some ⟨.leaf,.int lim⟩,some ⟨.leaf,.int many⟩,some ⟨.lst .leaf,.list os'⟩,some ⟨.lst .leaf,.list ms'⟩,some ⟨.lst .leaf,.list ss'⟩,some ⟨.leaf,.int (r:Nat)⟩,x8',x9',none,none]/\Gw many (n+1) os' ms' ss':=fun Γ T hT2 hΓ=>by
  subst hΓ;refine ⟨os++[.int (cP c 0 2)],ms++[.list M],ss++[.list (T.map .int)],_,_,Dy rfl (aw rfl) rfl (by omega),by simp;omega,by simp;omega,by simp;omega,fun a ha=>?_,fun a ha=>?_,fun a ha=>?_⟩
  ·rcases List.mem_append.mp ha with z | z
   ·exact h.o a z
   ·have:=D3 (c:=c) (k:=0) (b:=2) (by omega) (by omega) (by omega) (by omega)
    rw [List.mem_singleton.mp z];rcases (by omega:cP c 0 2=0\/cP c 0 2=1) with e | e
    ·exact .inl (by rw [e])
    ·exact .inr (by rw [e])
  ·rcases List.mem_append.mp ha with z | z
   ·exact h.m a z
   ·exact ⟨M,List.mem_singleton.mp z,rM.1,rM.2.1,by rw [List.mem_singleton.mp z];exact rM.2.2⟩
  ·rcases List.mem_append.mp ha with z | z
   ·exact h.s a z
   ·exact ⟨T,List.mem_singleton.mp z,hT2⟩
 have e1:=cb (i:=8) (cn (fl:=ae (af 0) (ae (az aO (az aO (af 1) (eK (.int 1))) (af 7)) ag)) (Γ:=[some ⟨.leaf,.list xs⟩,some ⟨.leaf,.int at'⟩,some ⟨.leaf,.int lim⟩,some ⟨.leaf,.int many⟩,some ⟨.lst .leaf,.list os⟩,some ⟨.lst .leaf,.list ms⟩,some ⟨.lst .leaf,.list ss⟩,some ⟨.leaf,.int (r:Nat)⟩,x8,x9,none,none]) (ay (aw rfl) (ay (aE (aE (aw rfl) aL add_int') (aw rfl) add_int') ah)) hc rfl rfl) rfl (by simp)
 have e2:eN 4 (ak 3 aj (ae (af 8) (ae (eK (.int 0)) (ae (eK (.int 2)) ag)))) [some ⟨.leaf,.list xs⟩,some ⟨.leaf,.int at'⟩,some ⟨.leaf,.int lim⟩,some ⟨.leaf,.int many⟩,some ⟨.lst .leaf,.list os⟩,some ⟨.lst .leaf,.list ms⟩,some ⟨.lst .leaf,.list ss⟩,some ⟨.leaf,.int (r:Nat)⟩,some ⟨.leaf,.int c⟩,x9,none,none]=_:=
  Dy rfl (cn (ay (aw rfl) (ay aL (ay aL ah))) (wU (by omega) (by omega) (by omega) (by omega)) rfl rfl) rfl (by omega)
 have e3:=Dy (i:=5) (Γ:=[some ⟨.leaf,.list xs⟩,some ⟨.leaf,.int at'⟩,some ⟨.leaf,.int lim⟩,some ⟨.leaf,.int many⟩,some ⟨.lst .leaf,.list (os++[.int (cP c 0 2)])⟩,some ⟨.lst .leaf,.list ms⟩,some ⟨.lst .leaf,.list ss⟩,some ⟨.leaf,.int (r:Nat)⟩,some ⟨.leaf,.int c⟩,x9,none,none]) rfl (c5 _ rfl rfl) rfl (by omega)
 have e4:=cb (i:=9) (Γ:=[some ⟨.leaf,.list xs⟩,some ⟨.leaf,.int at'⟩,some ⟨.leaf,.int lim⟩,some ⟨.leaf,.int many⟩,some ⟨.lst .leaf,.list (os++[.int (cP c 0 2)])⟩,some ⟨.lst .leaf,.list (ms++[.list M])⟩,some ⟨.lst .leaf,.list ss⟩,some ⟨.leaf,.int (r:Nat)⟩,some ⟨.leaf,.int c⟩,x9,none,none]) (c6 _ rfl rfl rfl) rfl (by simp)
 have t:aN ax (az bL (af 9) (aB .leaf ag)) [some ⟨.leaf,.list xs⟩,some ⟨.leaf,.int at'⟩,some ⟨.leaf,.int lim⟩,some ⟨.leaf,.int many⟩,some ⟨.lst .leaf,.list (os++[.int (cP c 0 2)])⟩,some ⟨.lst .leaf,.list (ms++[.list M])⟩,some ⟨.lst .leaf,.list ss⟩,some ⟨.leaf,.int (r:Nat)⟩,some ⟨.leaf,.int c⟩,some ⟨.leaf,.list (ts.map .int)⟩,none,none]
   = .ok (decide ((ts.map PyData.int).length=0)) _:=dY (aE (aw rfl) (dz (s:=.leaf) ah rfl rfl rfl) (C4 (G4 rowI_map)))
 cases hz:decide ((ts.map PyData.int).length=0) with
 | true=>
  rw [hz] at t;obtain ⟨o',m',s',y8,y9,f1,f2⟩:=fin _ [cP c (4+many) many] ⟨by simp,by simp,fun t ht=>by rw [List.mem_singleton.mp ht];exact D3 (by omega) (by omega) (by omega) (by omega),List.pairwise_singleton _ _⟩ rfl
  exact ⟨o',m',s',y8,y9,aq e1 (aq e2 (aq e3 (aq e4 (aq (aV t (fun _=>cb (dz (s:=.leaf) (ay (cn (ay (aw rfl) (ay (aE aL (aw rfl) add_int') (ay (aw rfl) ah))) (wU (by omega) (by omega) (by omega) (by omega)) rfl rfl) ah) rfl rfl rfl) rfl (by simp)) nofun) f1)))),f2⟩
 | false=>
  rw [hz] at t;obtain ⟨o',m',s',y8,y9,f1,f2⟩:=fin _ ts ⟨by omega,(fun z=>by rw [z] at hz;cases hz),(fun t ht=>by have:=hts1 t ht;omega),hts2⟩ rfl
  exact ⟨o',m',s',y8,y9,aq e1 (aq e2 (aq e3 (aq e4 (aq (aV t nofun (fun _=>rfl)) f1)))),f2⟩
theorem rY {xs:List D} {at' lim:Int} (hx:RowI xs) (ha:0<=at') (hl:1<=lim) (hl2:lim<=24):∃(n:Nat) (os ms ss:List D),m__law_world [.list xs,.int at',.int lim]=.ok ⟨W3,dM os ms ss⟩/\Gw (n:Int) n os ms ss/\1<=n/\(n:Int)<=lim:=by
 obtain ⟨c,hc⟩:=Eg hx (k:=at') ha
 have b0:0<=c % lim:=Int.emod_nonneg _ (by omega)
 have b1:c % lim<lim:=Int.emod_lt_of_pos _ (by omega)
 generalize hmm:1+c % lim=many at *
 have e0:aA false 3 (az aO (eK (.int 1)) (az bV (ak 2 aM (ae (af 0) (ae (af 1) ag))) (af 2))) [some ⟨.leaf,.list xs⟩,some ⟨.leaf,.int at'⟩,some ⟨.leaf,.int lim⟩,none,none,none,none,none,none,none,none,none]
   = .nx [some ⟨.leaf,.list xs⟩,some ⟨.leaf,.int at'⟩,some ⟨.leaf,.int lim⟩,some ⟨.leaf,.int many⟩,none,none,none,none,none,none,none,none]:=by
  rw [<-hmm];exact cb (aE aL (aE (cn (ay (aw rfl) (ay (aw rfl) ah)) hc rfl rfl) (aw rfl) (bX (by omega))) add_int') rfl (by simp)
 obtain ⟨Γ',e,os,ms,ss,x7,x8,x9,hΓ,hw⟩:=G8 (P:=fun n Γ=>∃os ms ss x7 x8 x9,Γ=[some ⟨.leaf,.list xs⟩,some ⟨.leaf,.int at'⟩,some ⟨.leaf,.int lim⟩,some ⟨.leaf,.int many⟩,some ⟨.lst .leaf,.list os⟩,some ⟨.lst .leaf,.list ms⟩,some ⟨.lst .leaf,.list ss⟩,x7,x8,x9,none,none]/\Gw many n os ms ss) (i:=7) (body:=eW) (b4 0 many.toNat) 0
  [some ⟨.leaf,.list xs⟩,some ⟨.leaf,.int at'⟩,some ⟨.leaf,.int lim⟩,some ⟨.leaf,.int many⟩,some ⟨.lst .leaf,.list []⟩,some ⟨.lst .leaf,.list []⟩,some ⟨.lst .leaf,.list []⟩,none,none,none,none,none] ⟨[],[],[],none,none,none,rfl,rfl,rfl,rfl,fun a ha=>(nomatch ha),fun a ha=>(nomatch ha),fun a ha=>(nomatch ha)⟩ (fun m d Γ hd h1 h2 ⟨os,ms,ss,x7,x8,x9,hΓ,hw⟩=>by
   subst hΓ;obtain ⟨k,hk,rfl⟩:=D6 hd;rw [GY] at h2;rw [Int.zero_add];obtain ⟨os',ms',ss',y8,y9,f1,f2⟩:=oO (at':=at') (lim:=lim) (many:=many) (x8:=x8) (x9:=x9) hx ha (by omega) (by omega) hw (by omega) (r:=k)
   exact ⟨by simp,_,f1,os',ms',ss',_,y8,y9,rfl,f2⟩)
 subst hΓ;rw [GY,Nat.zero_add] at hw;have en:((many.toNat:Nat):Int)=many:=by omega
 refine ⟨many.toNat,os,ms,ss,aS (aq e0 (aq (zd (dz (s:=.leaf) ah rfl rfl rfl) rfl (by simp)) (aq (zd (dz (s:=.leaf) ah rfl rfl rfl) rfl (by simp)) (aq (zd (dz (s:=.leaf) ah rfl rfl rfl) rfl (by simp)) (aq (fM (nq (k:=many) (ay (aw rfl) ah) rfl (by omega) (by omega)) e) (aW (bG (ay (DV (p:=⟨.lst .leaf,.list os⟩) rfl) (ay (DV (p:=⟨.lst .leaf,.list ms⟩) rfl) (ay (DV (p:=⟨.lst .leaf,.list ss⟩) rfl) ah))) rfl rfl) rfl)))))),by rw [en];exact hw,by omega,by omega⟩
end KQ
namespace KC
open PySem PySem.Spec L2 T
open PyProof.Rows hiding St
noncomputable def dS:FS:=(aI (d9 (az (cJ true) (af 0) (eK .none)) (d9 (az (cJ true) (af 1) (eK .none)) (az eR (af 0) (af 1)))))
noncomputable def dO:List PySem.PyData->Res:=aD 2 dS
noncomputable def fw:FS:=(aI (aC .leaf 3 (bt (ai (ai (af 0) (eK (.int 2))) (af 2))) (aN bf (ak 2 dO (ae (ai (af 1) (af 3)) (ae (ai (af 1) (af 2)) ag)))) (af 3)))
noncomputable def dq:List PySem.PyData->Res:=aD 4 fw
open PySem.SeqAt
theorem m5 {n:Nat} {fl:FL} {Γ:Ev} {s:Sh} (hn:n<=1000) (h:fl Γ=.ok [⟨s,.int (n:Int)⟩] Γ):eJ fl Γ=.ok ⟨(List.range n).map rm,true⟩ Γ:=by
 rw [nq (k:=(n:Int)) h rfl (by omega) (by omega),Int.toNat_natCast,GZ]
noncomputable def LA (p:Int):D->Bool
 | .int o=>o==p
 | _=>false
noncomputable def own (w:Wd) (p:Int):Nat->Bool:=ib (w.os.map (LA p))
noncomputable def jl:Option Nat->Option Nat->Bool
 | some a,some b=>decide (a<b)
 | _,_=>false
theorem se {a b:Option Nat}:dO [oD a,oD b]=.ok ⟨.leaf,.bool (jl a b)⟩:=by
 refine aS ?_
 cases a with
 | none=>simp [dS,aQ,oD,jl,sU]
 | some a=>
  cases b with
  | none=>simp [dS,aQ,oD,jl,sU]
  | some b=>simp [dS,aQ,oD,jl,sU]
noncomputable def rG (w:Wd) (rk:List (Option Nat)) (r:Nat):List Nat:=(w.stp r).filter fun t=>jl (aY rk t) (aY rk r)
theorem gZ {w:Wd} (ok:w.Ok) {rk:List (Option Nat)} (hl:rk.length=w.n) {r:Nat} (hr:r<w.n):dq [w.enc,dm rk,rm r]=.ok ⟨.lst .leaf,aF (rG w rk r)⟩:=by
 have a2:=ok.at2 hr
 have a1:=gN (rk:=rk) (t:=r) (by omega)
 have e:aC .leaf 3 (bt (ai (ai (af 0) (eK (.int 2))) (af 2))) (aN bf (ak 2 dO (ae (ai (af 1) (af 3)) (ae (ai (af 1) (af 2)) ag)))) (af 3) (aQ 4 [w.enc,dm rk,rm r])=.ok ⟨.lst .leaf,.list ((rG w rk r).map fun t=>rm t)⟩ (aQ 4 [w.enc,dm rk,rm r]):=by
  refine wA rm (w.stp r) (fun t=>jl (aY rk t) (aY rk r)) (fun t=>⟨.leaf,rm t⟩) (st:=true) (by simp [aQ,Wd.enc,dM,a2]) (by simp [aQ]) rfl ok.z.len (fun t ht=>?_) (fun t ht _=>?_)
  ·have a3:=gN (rk:=rk) (t:=t) (by rw [hl];exact ok.stp_lt ht)
   have dl:=se (a:=aY rk t) (b:=aY rk r)
   simp [aQ,a1,a3,dl]
  ·simp [aQ]
 refine aS ?_
 unfold fw;rw [pI,e];rfl
structure Kt (w:Wd) (p:Int) (pl:List (Option Nat)):Prop where
 len:pl.length=w.n
 st:∀r t,r<w.n->aY pl r=some t->own w p r=true/\t∈w.stp r
end KC
namespace T
open PySem PySem.Spec L2
open PyProof.Rows hiding St
section
variable {K:Fg} {W:XW} {σ:St} {H:Hp} {Q:VK} {D:dI} {fa fb:F1} {fl:FL}
def Gf (i:Nat) (k:Nat) (p:PV) (Γ:Ev):eu:=match Γ[i]? with
 | some (some ⟨.tup ss,.tuple ds⟩)=>(match ss[k]?,ds[k]? with
  | some (.lst .leaf),some (.list es)=>if T.coer .leaf p&&decide (es.length<sizeLine) then .nx (Γ.set i (some ⟨.tup ss,.tuple (ds.set k (.list (es++[p.d])))⟩)) else .no
  | _,_=>.no)
 | _=>.no
def Lv (i k:Nat) (Γ:Ev):Bool:=match Γ[i]? with
 | some (some ⟨.tup ss,.tuple ds⟩)=>(match ss[k]?,ds[k]? with
  | some (.lst .leaf),some (.list _)=>true
  | _,_=>false)
 | _=>false
def zz (i k:Nat) (fa:F1):FS:=fun Γ=>if Lv i k Γ then gE fa (Gf i k) Γ else .no
end
end T
namespace TQ
open PySem PySem.Spec L2 T
open PyProof.Rows hiding St
variable {X:Cx} {N gl:List Str} {vs cs ls lo gs:List Nat} {W:XW} {a b:Expr} {pos p:Pos} {fl:FL}
end TQ
namespace T
open PySem PySem.Spec L2
open PyProof.Rows hiding St
section
variable {K:Fg} {W:XW} {σ:St} {H:Hp} {Q:VK} {D:dI} {fa fb:F1} {fl:FL}
open Classical in
end
def uP (ow:Bool) (j:Nat) (d:PySem.PyData) (q:PV) (Γ:Ev):eu:=match q with
 | ⟨s,.list es⟩=>if cR ⟨s,.list es⟩ es&&decide (1+es.length<=sizeLine)&&decide (j<Γ.length) then .nx (Γ.set j (some ⟨if ow then .lst .leaf else .leaf,.list ([d]++es)⟩)) else .no
 | _=>.no
def fP (ow:Bool) (i j:Nat) (fb:F1):FS:=fun Γ=>match Γ[i]? with
 | some (some ⟨.lst .leaf,.list ds⟩)=>(match ds[ds.length-1]? with
  | some d=>(match fb (Γ.set i (some ⟨.lst .leaf,.list ds.dropLast⟩)) with
   | .ok q Γ2=>uP ow j d q Γ2
   | _=>.no)
  | none=>.no)
 | _=>.no
section
variable {K:Fg} {W:XW} {σ:St} {H:Hp} {Q:VK} {D:dI} {fb:F1}
theorem xB {ow:Bool} {i j:Nat} (h:tS K W (fP ow i j fb) D σ H):lB (zt (pL K) (AN (ip (EL K "list" Fb (fA i)) qK)) (tE K W fb)) (gName j) D σ H:=by
 obtain ⟨He,O,Fs,Γ,E,h⟩:=h;unfold fP at h;split at h
 ·rename_i ds e0
  cases hd:ds[ds.length-1]? with
  | none=>rw [hd] at h;exact h.elim
  | some d=>
   rw [hd] at h;obtain ⟨l,vs,h1,h2,h3,h4,h5⟩:=E.chgF e0;have hlt:=(List.getElem?_eq_some_iff.mp hd).1
   have hu:vs[vs.length-1]?=some (vs[vs.length-1]'(by omega)):=getElem?_eq_getElem _
   have ru:=h4 (vs.length-1) _ d hu (by rw [h3];exact hd)
   have inF:l∈O++Fs.flatten:=by
    obtain ⟨_,v,F,k1,k2,k3⟩:=E.slot i _ e0;rw [h1] at k1
    cases k1;obtain ⟨l',us,q1,q2,_⟩:=k3.leaves
    cases q1;subst q2;exact mem_append_right _ (kY k2 (by simp))
   have E4:=h5 vs.dropLast ds.dropLast (by rw [length_dropLast,length_dropLast,h3]) fun m x d a1 a2=>by
    rw [List.getElem?_dropLast] at a1 a2
    split at a1
    ·split at a2
     ·exact h4 m x d a1 a2
     ·cases a2
    ·cases a1
   have one:(1:Nat)<=sizeLine:=by decide
   refine ⟨.ref l,h1,.inl ⟨rfl,vs,.of h2⟩,l,vs,_,rfl,rfl,h2,hu,one,fun p hp=>?_⟩
   generalize vs[vs.length-1]'(by omega)=u at ru hu
   have s1:Same (cI H (O++Fs.flatten)) (cI (cg H l (.lst vs.dropLast)) (O++Fs.flatten)):=fun b o hb=>by
    unfold cI at hb ⊢
    split at hb
    ·cases hb
    ·rename_i hn
     rw [if_neg hn];have:b≠l:=fun z=>hn (by rw [z];exact inF)
     unfold cg;rw [if_neg this];exact hb
   have s2:=kZ (H:=cg H l (.lst vs.dropLast)) (o:=.lst [u]) hp
   have E5:=E4.grow s2
   refine ⟨He,O,Fs,_,E5,?_⟩
   cases e:fb (Γ.set i (some ⟨.lst .leaf,.list ds.dropLast⟩)) with
   | er c Γ'=>rw [e] at h;exact h.elim
   | no=>rw [e] at h;exact h.elim
   | ok q Γ2=>
    rw [e] at h;intro y H3 G Fs3 A;have h:j9 K W He O D (uP ow j d q Γ2):=h
    obtain ⟨s,dd⟩:=q
    cases dd with
    | list es=>
     have h:j9 K W He O D (if cR ⟨s,.list es⟩ es&&decide (1+es.length<=sizeLine)&&decide (j<Γ2.length) then .nx (Γ2.set j (some ⟨if ow then .lst .leaf else .leaf,.list ([d]++es)⟩)) else .no):=h
     cases hc:(cR ⟨s,.list es⟩ es&&decide (1+es.length<=sizeLine)&&decide (j<Γ2.length)) with
     | false=>rw [hc] at h;exact h.elim
     | true=>
      rw [hc] at h;simp only [Bool.and_eq_true,decide_eq_true_eq] at hc
      obtain ⟨⟨c1,c2⟩,c3⟩:=hc;obtain ⟨b,ws,rfl,q1,_,r1⟩:=A.own.items (O':=O++Fs3.flatten) c1 gQ A.disj
      refine ⟨p,b,[u],ws,rfl,rfl,.inl (.of (A.same _ _ kS)),q1,by rw [r1.1];exact c2,fun r hr=>?_⟩
      have ru3:Rep K (cI H3 (O++Fs3.flatten)) u d:=(ru.mono s1).mono (wY (s2.trans A.same) fun a ha=>by
       rcases List.mem_append.mp ha with z | z
       ·exact .inl (mem_append_left _ z)
       ·rcases A.new a (mem_append_right _ z) with y | y
        ·exact .inl (mem_append_right _ y)
        ·refine .inr ?_
         exact s2.free y)
      have rr:Reps K (cI H3 (O++Fs3.flatten)) ([u]++ws) ([d]++es):=Reps.app ⟨rfl,fun k v d' a1 a2=>by
       match k,a1,a2 with
       | 0,a1,a2=>cases a1;cases a2;exact ru3
       | k+1,a1,_=>simp at a1⟩ r1
      have A2:=Eb A.go A.same A.newF rr hr
      cases ow with
      | true=>exact h _ _ _ (EnvOk.put (p:=⟨.lst .leaf,.list ([d]++es)⟩) A2.env A2.own rfl (fun a ha=>by
        rw [List.mem_singleton.mp ha];exact E.same.free (by
         have z:=(s2.trans A.same).free hr
         unfold cg at z;split at z
         ·cases z
         ·exact z)) c3)
      | false=>
      have o2:=A2.own.coer (s:=.leaf) (O':=O++Fs3.flatten) rfl gQ fun a ha z=>absurd z (A2.disj a ha)
      exact h _ _ _ (EnvOk.put (G:=[]) (p:=⟨.leaf,.list ([d]++es)⟩) A2.go o2 rfl (fun a ha=>by simp at ha) c3)
    | _=>exact h.elim
 ·exact h.elim
end
section
variable {X:Cx} {N gl:List Str} {vs cs ls lo gs:List Nat} {W:XW} {a b c e:Expr} {es:List Expr} {pos p:Pos} {fa fb fc fk:F1} {fl:FL} {g:FS}
theorem cs_popC (S:Cp X N gl vs cs ls lo gs) (ow:Bool) (i j:Nat) {x y:Str} {apos cpos lpos bpos pos':Pos} (hj:N[j]?=some y) (hl:ls.contains j=true) (hi:N[i]?=some x) (hv:vs.contains i=true) (hb:PE X b (tE X.K W fb))
  (hs1:starEach [.Call (.Attribute (.Name x p) "pop" apos) [] [] cpos] X.env=[(false,eval (.Call (.Attribute (.Name x p) "pop" apos) [] [] cpos) X.env)]) (hbase:attributeBase (.Name x p) "pop" X.env (eval (.Name x p) X.env)=eval (.Name x p) X.env) (hline:(apos.endLine==cpos.line)=true)
  (hsw:swapsWith (.BinOp (.List [.Call (.Attribute (.Name x p) "pop" apos) [] [] cpos] lpos) .Add b bpos) (some (.Name y pos')) pos.line X.env=pure false) :
  PS X (.Assign [.Name y pos'] (.BinOp (.List [.Call (.Attribute (.Name x p) "pop" apos) [] [] cpos] lpos) .Add b bpos) pos) (tS X.K W (fP ow i j fb)):=by
 have m:=S.nm x (mem_of_getElem? hi)
 exact cw (GE (by rw [S.hN];exact S.nd) (by rw [S.hN];exact hj) (S.loc j y hj hl).1 (fR Il (Iz (sL (BW PySem.F.plainAttrs_list PySem.F.slot_list_pop PySem.F.type_list_pop Cc (qw (by rw [S.hN];exact hi) (S.vis i x hi hv) m.1 m.2) hbase hline) zb hs1)) hb) hsw (S.loc j y hj hl).2) fun _ _ _=>xB
end
end T
namespace TQ
open PySem PySem.Spec L2 T
open PyProof.Rows hiding St
section
variable {X:Cx} {N gl:List Str} {vs cs ls lo gs:List Nat} {W:XW} {a b c e:Expr} {es:List Expr} {pos p:Pos} {fa fb fc fk:F1} {fl:FL} {g:FS}
theorem qE (S:Cp X N gl vs cs ls lo gs) (ow:Bool) (i j:Nat) {x y:Str} {apos cpos lpos bpos pos':Pos} (hj:N[j]?=some y) (hl:ls.contains j=true) (hi:N[i]?=some x) (hv:vs.contains i=true) (hb:Q (PE X b (tE X.K W fb)))
  (hs1:starEach [.Call (.Attribute (.Name x p) "pop" apos) [] [] cpos] X.env=[(false,eval (.Call (.Attribute (.Name x p) "pop" apos) [] [] cpos) X.env)]) (hbase:attributeBase (.Name x p) "pop" X.env (eval (.Name x p) X.env)=eval (.Name x p) X.env) (hline:(apos.endLine==cpos.line)=true)
  (hsw:swapsWith (.BinOp (.List [.Call (.Attribute (.Name x p) "pop" apos) [] [] cpos] lpos) .Add b bpos) (some (.Name y pos')) pos.line X.env=pure false) :
  Q (PS X (.Assign [.Name y pos'] (.BinOp (.List [.Call (.Attribute (.Name x p) "pop" apos) [] [] cpos] lpos) .Add b bpos) pos) (tS X.K W (fP ow i j fb))):=⟨T.cs_popC S ow i j hj hl hi hv hb.p hs1 hbase hline hsw⟩
end
end TQ
namespace KC
open PySem PySem.Spec L2 T PySem.SeqAt
open PyProof.Rows hiding St
noncomputable def Wd.inn (w:Wd) (L:List Nat):Wd:=⟨w.n,w.os,w.m,w.s.map fun row=>row.filter fun t=>L.contains t⟩
noncomputable abbrev gl (T L:List Nat):List Nat:=L.filter fun r=>T.contains r
noncomputable abbrev lst (rk:List (Option Nat)) (L:List Nat):List Nat:=L.filter fun r=>(aY rk r).isNone
noncomputable def tD:Option (Nat×Nat)->D
 | none=>.none
 | some (a,b)=>.tuple [.int (a:Int),.int (b:Int)]
@[simp] theorem Hy (o:Option (Nat×Nat)):sU (tD o)=o.isNone:=by cases o<;>rfl
noncomputable def DH (tn:List (Option (Nat×Nat))) (t:Nat):Option (Nat×Nat):=tn.getD t none
noncomputable def Gy (tn:List (Option (Nat×Nat))) (a b t:Nat):Prop:=∃a' b',DH tn t=some (a',b')/\(a'<a\/(a'=a/\(b'<b\/(b=0/\b'=0))))
structure TS where
 tn:List (Option (Nat×Nat))
 L:List Nat
 k:Nat
 lost:List Nat
 x7:Option PV
 x8:Option PV
structure TI (w:Wd) (p:Int) (T:List Nat) (b:TS):Prop where
 len:b.tn.length=w.n
 std:Kq w.n b.L
 mem:∀r,r<w.n->(r∈b.L↔DH b.tn r=none)
 c:∀r∈b.L,led (own w p r) (w.stp r) (·∈b.L)
 big:∀X,Dn w.n w.stp (own w p) (·∈T) X->∀r,X r->r∈b.L
 los:∃rk,oQ w.n (inn w.stp b.L) (own w p) b.L (gl T b.L) rk/\b.lost=lst rk b.L
 tk:∀r a j,DH b.tn r=some (a,j)->a<b.k
 td:∀r a j,r<w.n->DH b.tn r=some (a,j)->(j=0->r∉T)/\led (!own w p r) (w.stp r) (Gy b.tn a j)
structure LR (w:Wd) (p:Int) (T:List Nat) (tn:List (Option (Nat×Nat))) (L:List Nat):Prop where
 len:tn.length=w.n
 std:Kq w.n L
 mem:∀r,r<w.n->(r∈L↔DH tn r=none)
 c:∀r∈L,led (own w p r) (w.stp r) (·∈L)
 suff:Dn w.n w.stp (own w p) (·∈T) (·∈L)
 big:∀X,Dn w.n w.stp (own w p) (·∈T) X->∀r,X r->r∈L
 td:∀r a j,r<w.n->DH tn r=some (a,j)->(j=0->r∉T)/\led (!own w p r) (w.stp r) (Gy tn a j)
noncomputable abbrev J6 (w:Wd) (c:Str) (r:Nat):Prop:=c∈w.mks r
noncomputable abbrev gm (w:Wd) (c:Str) (L:List Nat):List Nat:=L.filter fun r=>(w.mks r).contains c
structure Gu (w:Wd) (M:List Str) (L off:List Nat):Prop where
 ne:off≠[]
 sub:∀r∈off,r∈L
 no:∀(R:Nat->Prop) X,Fr w.n w.stp R M (J6 w) X->(∀r,X r->r∈L)->∀r∈off,¬X r
structure Gx (w:Wd) (M:List Str) (L:List Nat):Prop where
 c:∀r∈L,∃t∈w.stp r,t∈L
 a:∀m∈M,∀S:Nat->Prop,(∀r,r∈L->J6 w m r->S r)->(∀r,r∈L->(∃t∈w.stp r,t∈L/\S t)->S r)->∀r,r∈L->S r
structure LO where
 rows:List D
 L:List Nat
 row:D
structure FI (w:Wd) (R:List Nat) (M:List Str) (b:LO):Prop where
 std:Kq w.n b.L
 sub:∀r∈b.L,r∈R
 cnt:b.rows.length+b.L.length<=w.n
 big:∀X,Fr w.n w.stp (·∈R) M (J6 w) X->∀r,X r->r∈b.L
 row:(b.row=.none/\Gx w M b.L)\/(∃off o,b.row=.tuple [aF off,o]/\Gu w M b.L off)
theorem Au {is:List Nat} {f:F1} {Γ Γ1 Γ':Ev} {p:PV} {ps:List PV} (h:f Γ=.ok p Γ1) (hu:AF p=some ps) (hl:ps.length=is.length) (hp:putN is ps Γ1=some Γ'):gD is f Γ=.nx Γ':=by
 unfold gD gE;rw [h];simp only [hu,hl,if_true,hp]
theorem pf {r:List Nat}:shaped (aF r)=true:=G4 fun a ha=>by
 obtain ⟨t,_,e⟩:=List.mem_map.mp ha;exact ⟨(t:Int),e.symm⟩
noncomputable def yZ (w:Wd):List Nat->Prop
 | a::b::r=>b∈w.stp a/\yZ w (b::r)
 | _=>True
noncomputable def iX (P Q:Nat->Bool):List Nat->Bool
 | []=>false
 | r::p=>Q r||(P r&&iX P Q p)
structure Las (w:Wd) (p:List Nat):Prop where
 ch:yZ w p
 nd:p.Nodup
 bk:∃z t,p.getLast?=some z/\t∈w.stp z/\t∈p
theorem mV {w:Wd} {z t:Nat} (ht:t∈w.stp z):∀{p:List Nat},yZ w p->p.getLast?=some z->yZ w (p++[t])
 | [],_,h=>by simp at h
 | [a],_,h=>by
  simp at h
  subst h;exact ⟨ht,trivial⟩
 | a::b::r,h,e=>⟨h.1,mV ht h.2 (by simpa using e)⟩
theorem Ab:∀{n:Nat} {p:List Nat},p.Nodup->(∀x∈p,x<n)->p.length<=n
 | 0,[],_,_=>Nat.le_refl _
 | 0,a::p,_,h=>absurd (h a (by simp)) (Nat.not_lt_zero _)
 | n+1,p,nd,h=>by
  by_cases hn:n∈p
  ·have:=Ab (n:=n) (nd.erase n) fun x hx=>by
    obtain ⟨h1,h2⟩:=nd.mem_erase_iff.mp hx;have:=h x h2
    omega
   rw [List.length_erase_of_mem hn] at this;omega
  ·have:=Ab (n:=n) nd fun x hx=>by
    have h1:=h x hx
    have:x≠n:=fun e=>hn (e▸hx)
    omega
   omega
theorem pU {p:List Nat} {t:Nat} (h:p.Nodup) (ht:t∉p):(p++[t]).Nodup:=by
 rw [List.nodup_append];refine ⟨h,by simp,fun a ha b hb=>?_⟩
 rw [List.mem_singleton.mp hb];exact fun e=>ht (e▸ha)
theorem tQ {P Q:Nat->Bool}:∀{p:List Nat},(∀x∈p,Q x=false)->iX P Q p=false
 | [],_=>rfl
 | a::p,h=>by
  simp only [iX,h a (by simp),tQ (p:=p) fun x hx=>h x (mem_cons_of_mem _ hx),Bool.and_false,Bool.or_self]
section
variable {w:Wd} {thr goal:List Nat} {rk:List (Option Nat)}
noncomputable abbrev eQ (l:List Nat):Nat->Bool:=fun r=>l.contains r
end
end KC
namespace KC
open PySem PySem.Spec L2 T
open PyProof.Rows hiding St
noncomputable def sq:FS:=(av (aA false 2 (bJ (bJ (ai (af 1) (eK (.int 0))) (ai (af 1) (eK (.int 1)))) (bI (fun k=>(none,some k)) (ai (af 1) (eK (.int 1))) (eK (.int 1)))))
  (av (bF (hJ (b9 (aN bf (ai (af 1) (eK (.int 1))))) (b9 (aN bf (bw (cD false) (ae (aC .leaf 4 (bt (af 2)) aR (m9 sR eR (eK (.int 0)) (af 4) (bw aT (ae (ai (af 0) (eK (.int 0))) ag)))) ag))))) (aI (eK (.bool false))) aG)
  (aI (bw (cD false) (ae (aC .leaf 3 (rK (ae (eK (.int 1)) (ae (bw aT (ae (af 2) ag)) ag))) aR (az (bE false) (ai (af 2) (af 3)) (ai (ai (af 0) (eK (.int 2))) (ai (af 2) (az gSub (af 3) (eK (.int 1))))))) ag)))))
noncomputable def aZ:List PySem.PyData->Res:=aD 5 sq
end KC
namespace KQ
open PySem PySem.Spec L2 T
open PyProof.Rows hiding St
open KC
noncomputable def oH:FS:=(av (aA true 4 (aB .leaf (ae (af 2) ag)))
  (av (d8 5 (eJ (ae (af 3) ag))
  (av (aA false 8 (ai (ai (af 0) (eK (.int 2))) (ai (af 4) (eU bC (eK (.int 1))))))
  (eN 4 (ai (af 8) (az bV (ak 3 aj (ae (af 1) (ae (af 5) (ae (eK (.int 24)) ag)))) (bw aT (ae (af 8) ag)))))))
  (av (sI 100 (aN ax (az (bE true) (ai (af 4) (eU bC (eK (.int 1)))) (bI (fun k=>(none,some k)) (af 4) (eU bC (eK (.int 1))))))
  (av (aA false 8 (ai (ai (af 0) (eK (.int 2))) (ai (af 4) (eU bC (eK (.int 1))))))
  (eN 4 (ai (af 8) (az bV (ak 3 aj (ae (af 1) (ae (bw aT (ae (af 4) ag)) (ae (eK (.int 24)) ag)))) (bw aT (ae (af 8) ag)))))))
  (av (aA false 6 (aC .leaf 5 (eJ (ae (az gSub (bw aT (ae (af 4) ag)) (eK (.int 1))) ag)) (aN ax (az bL (ai (af 4) (af 5)) (ai (af 4) (eU bC (eK (.int 1)))))) (af 5)))
  (av (aA false 7 (ai (af 6) (az bV (ak 3 aj (ae (af 1) (ae (eK (.int 59)) (ae (eK (.int 24)) ag)))) (bw aT (ae (af 6) ag)))))
  (aI (bo (ae (bI (fun k=>(none,some k)) (af 4) (af 7)) (ae (bI (fun k=>(some k,some (-1))) (af 4) (af 7)) ag)))))))))
noncomputable def cT:List PySem.PyData->Res:=aD 9 oH
end KQ
namespace KC
open PySem PySem.Spec L2 T PySem.SeqAt
open PyProof.Rows hiding St
theorem dg {Γ Γ1 Γ2:Ev} {g:Int->Option Int×Option Int} {fa fb:F1} {s s':Sh} {xs:List D} {k:Int} (ha:fa Γ=.ok ⟨s,.list xs⟩ Γ1) (hb:fb Γ1=.ok ⟨s',.int k⟩ Γ2) (ho:cR ⟨s,.list xs⟩ xs=true):bI g fa fb Γ=.ok ⟨.lst .leaf,.list (T.cutD xs (g k).1 (g k).2)⟩ Γ2:=by
 unfold bI bg;rw [ha];simp only [Out.bind]
 rw [hb];simp only [ho,if_true]
theorem sH {s:Sh} {l:List Nat}:cR ⟨s,aF l⟩ (l.map rm)=true:=by
 unfold cR;simp [bu]
theorem o9 {l:List Nat} {k:Nat}:T.cutD (l.map rm) none (some (k:Int))=(l.take k).map rm:=by
 unfold T.cutD;rw [HT.sIx_none,HT.sIx_nat,drop_zero,length_map,Nat.sub_zero,map_take];by_cases h:k<=l.length
 ·rw [Nat.min_eq_left h]
 ·rw [Nat.min_eq_right (by omega),take_of_length_le (by simp),take_of_length_le (by simp;omega)]
theorem pe {l:List Nat} {k:Nat}:T.cutD (l.map rm) (some (k:Int)) none=(l.drop k).map rm:=by
 unfold T.cutD;rw [HT.sIx_none,HT.sIx_nat,length_map,List.map_drop];by_cases h:k<=l.length
 ·rw [Nat.min_eq_left h,take_of_length_le (by simp)]
 ·rw [Nat.min_eq_right (by omega),drop_of_length_le (by simp),drop_of_length_le (by simp;omega)]
  simp
theorem IS {n d k:Nat} (h:1<=k):HT.sIx n d (some (-(k:Int)))=n-k:=by
 unfold HT.sIx;simp only
 rw [if_pos (by omega)]
 omega
theorem pb {l:List Nat}:T.cutD (l.map rm) none (some (-1))=l.dropLast.map rm:=by
 unfold T.cutD;rw [HT.sIx_none,drop_zero,Nat.sub_zero,List.dropLast_eq_take,map_take,length_map];rw [show (-1:Int)=-((1:Nat):Int) from rfl,IS (by omega)]
theorem AU {l:List Nat} {k:Nat} (h:k<=l.length):T.cutD (l.map rm) (some (k:Int)) (some (-1))=(l.dropLast.drop k).map rm:=by
 unfold T.cutD;rw [HT.sIx_nat,List.dropLast_eq_take,List.map_drop,map_take,length_map,Nat.min_eq_left h];rw [show (-1:Int)=-((1:Nat):Int) from rfl,IS (by omega),List.drop_take]
theorem yS {l:List Nat} {z:Nat} (h:l.getLast?=some z):fy (l.map rm) (-1)=some (rm z):=by
 have hl:0<l.length:=by
  cases l with
  | nil=>simp at h
  | cons a r=>simp
 rw [List.getLast?_eq_getElem?] at h;unfold fy fh;rw [length_map];simp only [show ¬(0:Int) <= -1 by omega,false_and,if_false]
 rw [if_pos (by omega)]
 simp only [Option.bind_some]
 rw [getElem?_map,show (-1+(l.length:Int)).toNat=l.length-1 by omega,h]
 rfl
theorem Ae {Γ:Ev}:eU bC (eK (.int 1)) Γ=.ok ⟨.leaf,.int (-1)⟩ Γ:=AE aL rfl
theorem Ea {Γ:Ev} {fa fb:F1} {s:Sh} {l:List Nat} {z:Nat} (ha:fa Γ=.ok ⟨.view,aF l⟩ Γ) (hb:fb Γ=.ok ⟨s,.int (-1)⟩ Γ) (h:l.getLast?=some z):ai fa fb Γ=.ok ⟨.leaf,rm z⟩ Γ:=by
 rw [fQ,ha];simp only [Out.bind]
 rw [hb];simp only
 rw [zB,yS h];rfl
theorem EB {Γ:Ev} {fa fb:F1} {s:Sh} {l:List Nat} {k:Nat} (ha:fa Γ=.ok ⟨.view,aF l⟩ Γ) (hb:fb Γ=.ok ⟨s,.int (k:Int)⟩ Γ) (h:k<l.length):ai fa fb Γ=.ok ⟨.leaf,rm (l.getD k 0)⟩ Γ:=by
 rw [fQ,ha];simp only [Out.bind]
 rw [hb];simp only
 rw [zB,zY (x:=rm (l.getD k 0)) (by rw [getElem?_map,getD_eq_getElem?_getD,getElem?_eq_getElem h];rfl)]
 rfl
theorem eY {Γ:Ev} {fa fb:F1} {s:Sh} {l:List Nat} {k:Nat} (ha:fa Γ=.ok ⟨.leaf,aF l⟩ Γ) (hb:fb Γ=.ok ⟨s,.int (k:Int)⟩ Γ) (h:k<l.length):ai fa fb Γ=.ok ⟨.leaf,rm (l.getD k 0)⟩ Γ:=by
 rw [fQ,ha];simp only [Out.bind]
 rw [hb];simp only
 rw [zD,zY (x:=rm (l.getD k 0)) (by rw [getElem?_map,getD_eq_getElem?_getD,getElem?_eq_getElem h];rfl)]
theorem wa {α:Type} {xs:List α}:cD false [.list (xs.map fun _=>.bool true)]=some (.bool true):=by
 rw [wu (xs:=xs) (f:=fun _=>true),List.all_eq_true.mpr fun _ _=>rfl]
noncomputable abbrev wy (F R:List Nat):D:=.tuple [aF F,aF R]
structure eL (w:Wd) (F R:List Nat):Prop where
 ne:R≠[]
 lt:∀x∈F++R,x<w.n
 ch:yZ w (F++R++R.take 1)
 len:F.length+R.length<=1000
theorem qm {w:Wd}:∀{l:List Nat} {k:Nat},yZ w l->k+1<l.length->l.getD (k+1) 0∈w.stp (l.getD k 0)
 | [],k,_,h=>by simp at h
 | [a],k,_,h=>by simp at h
 | a::b::r,0,h,_=>h.1
 | a::b::r,k+1,h,hk=>by
  have:=qm (k:=k) h.2 (by simpa using hk)
  simpa using this
theorem Ec {w:Wd} (ok:w.Ok) {Γ:Ev} {i:Nat} {fb:F1} {s:Sh} {r:Nat} (h0:Γ[i]?=some (some ⟨.leaf,w.enc⟩)) (hb:fb Γ=.ok ⟨s,rm r⟩ Γ) (hr:r<w.n):ai (ai (af i) (eK (.int 2))) fb Γ=.ok ⟨.leaf,aF (w.stp r)⟩ Γ:=by
 rw [fQ,fQ,aw h0];simp only [Out.bind,aL,Wd.enc,dM,zC,E8]
 rw [hb];simp only [zD]
 rw [ok.at2 hr]
theorem G5 {w:Wd} (ok:w.Ok) {Γ:Ev} {i:Nat} (h0:Γ[i]?=some (some ⟨.leaf,w.enc⟩)):bw aT (ae (ai (af i) (eK (.int 0))) ag) Γ=.ok ⟨.leaf,.int (w.n:Int)⟩ Γ:=by
 have e:ai (af i) (eK (.int 0)) Γ=.ok ⟨.leaf,.list w.os⟩ Γ:=by
  rw [fQ,aw h0];simp only [Out.bind,aL,Wd.enc,dM,zC,E9]
 refine bQ (ay e ah) ?_
 simp [ok.g.lo]
theorem tU {R:List Nat} (h:R≠[]):∃a,R.take 1=[a]/\a∈R:=by
 cases R with
 | nil=>exact absurd rfl h
 | cons a r=>exact ⟨a,rfl,by simp⟩
theorem Ei {w:Wd} (ok:w.Ok) {F R:List Nat} (h:eL w F R):aZ [w.enc,wy F R]=.ok ⟨.leaf,.bool true⟩:=by
 obtain ⟨a,ea,ha⟩:=tU h.ne;have hl:=h.len
 have ltA:∀x∈F++R++R.take 1,x<w.n:=fun x hx=>by
  rcases List.mem_append.mp hx with z | z
  ·exact h.lt x z
  ·rw [ea] at z
   rw [List.mem_singleton.mp z];exact h.lt a (mem_append_right _ ha)
 have lnA:(F++R++R.take 1).length<=1001:=by rw [ea];simp;omega
 have l1:1<=(F++R++R.take 1).length:=by rw [ea];simp;omega
 have c1:bJ (bJ (ai (af 1) (eK (.int 0))) (ai (af 1) (eK (.int 1)))) (bI (fun k=>(none,some k)) (ai (af 1) (eK (.int 1))) (eK (.int 1))) (aQ 5 [w.enc,wy F R])=.ok ⟨.lst .leaf,aF (F++R++R.take 1)⟩ (aQ 5 [w.enc,wy F R]):=by
  have i0:ai (af 1) (eK (.int 0)) (aQ 5 [w.enc,wy F R])=.ok ⟨.leaf,aF F⟩ (aQ 5 [w.enc,wy F R]):=by simp [aQ]
  have i1:ai (af 1) (eK (.int 1)) (aQ 5 [w.enc,wy F R])=.ok ⟨.leaf,aF R⟩ (aQ 5 [w.enc,wy F R]):=by simp [aQ]
  have s1:bI (fun k=>(none,some k)) (ai (af 1) (eK (.int 1))) (eK (.int 1)) (aQ 5 [w.enc,wy F R])=.ok ⟨.lst .leaf,aF (R.take 1)⟩ (aQ 5 [w.enc,wy F R]):=by
   rw [dg i1 aL rfl,show T.cutD (R.map rm) none (some (1:Int))=(R.take 1).map rm from o9 (k:=1)]
  have:=dE (dE i0 i1 rfl rfl (by simp;omega)) s1 rfl rfl (by simp;omega)
  rw [this];simp [aF]
 generalize hA:F++R++R.take 1=A at c1 ltA lnA l1
 have hch:yZ w A:=hA▸h.ch
 refine aS ?_
 refine aq (Γ1:=[some ⟨.leaf,w.enc⟩,some ⟨.leaf,wy F R⟩,some ⟨.leaf,aF A⟩,none,none]) (cb c1 rfl (by simp [aQ])) ?_
 refine aq (aV (t:=false) (vV (a:=false) (b:=false) (fx (b:=true) (Γ1:=[some ⟨.leaf,w.enc⟩,some ⟨.leaf,wy F R⟩,some ⟨.leaf,aF A⟩,none,none]) ?_) (fx (b:=true) (cK (s:=.leaf) (bQ (ps:=[⟨.lst .leaf,.list (A.map fun x=>.bool true)⟩]) (ay (oT rm A (fun x=>⟨.leaf,.bool true⟩) (st:=true) ?_ (by simp) rfl (by omega) ?_) ah) ?_)))) nofun fun _=>rfl) ?_
 ·cases R with
  | nil=>exact absurd rfl h.ne
  | cons b r=>
   have i1:ai (af 1) (eK (.int 1)) [some ⟨.leaf,w.enc⟩,some ⟨.leaf,wy F (b::r)⟩,some ⟨.leaf,aF A⟩,none,none]=.ok ⟨.leaf,aF (b::r)⟩ [some ⟨.leaf,w.enc⟩,some ⟨.leaf,wy F (b::r)⟩,some ⟨.leaf,aF A⟩,none,none]:=by simp
   unfold aN;rw [i1];rfl
 ·exact cf (aw rfl) rfl
 ·intro x hx
  refine ⟨?_,rfl⟩
  have:=ltA x hx
  have e:=IU (b:=decide ((0:Int)<=(x:Int))) (b':=decide ((x:Int)<(w.n:Int))) (g:=sR) (g':=eR) (fa:=eK (.int 0)) (fb:=af 4) (Γ:=[some ⟨.leaf,w.enc⟩,some ⟨.leaf,wy F R⟩,some ⟨.leaf,aF A⟩,none,some ⟨.leaf,rm x⟩]) aL (aw rfl) rfl rfl (G5 ok (i:=0) rfl) rfl
  rw [show (decide ((0:Int)<=(x:Int))&&decide ((x:Int)<(w.n:Int)))=true by simp;omega] at e
  exact e
 ·exact wa
 ·refine aW (p:=⟨.leaf,.bool true⟩) (bQ (ps:=[⟨.lst .leaf,.list ((List.range (A.length-1)).map fun x=>.bool true)⟩]) (ay (oT (fun k:Nat=>PyData.int (1+(k:Int))) (List.range (A.length-1)) (fun x=>⟨.leaf,.bool true⟩) (st:=true) ?_ (by simp) rfl (by simp;omega) ?_) ah) ?_) rfl
  ·refine (xg (k:=1) (m:=(A.length:Int)) (ay aL (ay (bQ (ay (aw rfl) ah) ?_) ah)) rfl (by omega) (by omega) (by omega) (by omega)).trans ?_
   ·simp only [map_cons,List.map_nil,GF,length_map]
   ·rw [show ((A.length:Int)-1).toNat=A.length-1 by omega,lQ]
  ·intro k hk
   have hk:=List.mem_range.mp hk
   refine ⟨?_,rfl⟩
   have e1:=eY (Γ:=[some ⟨.leaf,w.enc⟩,some ⟨.leaf,wy F R⟩,some ⟨.leaf,aF A⟩,some ⟨.leaf,.int (1+(k:Int))⟩,none]) (fa:=af 2) (fb:=af 3) (s:=.leaf) (l:=A) (k:=k+1) (aw rfl) (by rw [aw (d:=.int (1+(k:Int))) rfl,show (1+(k:Int))=((k+1:Nat):Int) by omega]) (by omega)
   have e2:=eY (Γ:=[some ⟨.leaf,w.enc⟩,some ⟨.leaf,wy F R⟩,some ⟨.leaf,aF A⟩,some ⟨.leaf,.int (1+(k:Int))⟩,none]) (fa:=af 2) (fb:=az gSub (af 3) (eK (.int 1))) (s:=.leaf) (l:=A) (k:=k) (aw rfl) (by rw [aE (aw rfl) aL sub_int',show (1+(k:Int)-1)=(k:Int) by omega]) (by omega)
   have hm:A.getD k 0<w.n:=ltA _ (by rw [getD_eq_getElem?_getD,getElem?_eq_getElem (by omega:k<A.length)];exact getElem_mem _)
   refine aE e1 (Ec ok rfl e2 hm) ?_
   rw [wI,List.contains_iff_mem.mpr (qm hch (by omega))]
  ·exact wa
end KC
namespace KQ
open PySem PySem.Spec L2 T PySem.SeqAt KC
open PyProof.Rows hiding St
noncomputable abbrev GW (w:Wd) (c:Int) (r sz:Nat) (l:List Nat) (x5 x8:Option PV):Ev:=[some ⟨.leaf,w.enc⟩,some ⟨.leaf,.int c⟩,some ⟨.leaf,rm r⟩,some ⟨.leaf,.int (sz:Int)⟩,some ⟨.lst .leaf,aF l⟩,x5,none,none,x8]
noncomputable abbrev ic (fk:F1):FS:=av (aA false 8 (ai (ai (af 0) (eK (.int 2))) (ai (af 4) (eU bC (eK (.int 1))))))
  (eN 4 (ai (af 8) (az bV (ak 3 aj (ae (af 1) (ae fk (ae (eK (.int 24)) ag)))) (bw aT (ae (af 8) ag)))))
theorem Fi {c k:Int} (h0:0<=k) (h1:k<=1000) {b m:Nat} (hb:1<=b) (hb2:b<=1000) (hm:1<=m):∃j:Nat,j<m/\cP c k b % (m:Int)=(j:Int):=by
 have h:=D3 (c:=c) (k:=k) (b:=b) h0 h1 (by omega) (by omega)
 have h2:=Int.emod_nonneg (cP c k b) (show (m:Int)≠0 by omega)
 have h3:=Int.emod_lt_of_pos (cP c k b) (show (0:Int)<m by omega)
 exact ⟨(cP c k b % (m:Int)).toNat,by omega,by omega⟩
theorem oV {w:Wd} (ok:w.Ok) {c:Int} {r sz:Nat} {l:List Nat} {x5 x8:Option PV} {fk:F1} {kk:Int} (h0:0<=kk) (h1:kk<=1000) (hf:∀x,fk (GW w c r sz l x5 x)=.ok ⟨.leaf,.int kk⟩ (GW w c r sz l x5 x)) {z:Nat} (hz:l.getLast?=some z) (hzn:z<w.n) (hl:l.length<=900) :
  ∃t x,t∈w.stp z/\ic fk (GW w c r sz l x5 x8)=.nx (GW w c r sz (l++[t]) x5 x):=by
 have hne:=ok.stp_ne hzn
 have hpos:1<=(w.stp z).length:=by
  cases e:w.stp z with
  | nil=>exact absurd e hne
  | cons a b=>simp
 obtain ⟨j,hj,ej⟩:=Fi (c:=c) h0 h1 (b:=24) (by omega) (by omega) hpos
 refine ⟨(w.stp z).getD j 0,some ⟨.leaf,aF (w.stp z)⟩,?_,?_⟩
 ·rw [getD_eq_getElem?_getD,getElem?_eq_getElem hj]
  exact getElem_mem _
 ·refine aq (Γ1:=GW w c r sz l x5 (some ⟨.leaf,aF (w.stp z)⟩)) (cb (Ec ok rfl (Ea (dD rfl) Ae hz) hzn) rfl (by simp)) ?_
  have m1:bV (.int (cP c kk 24)) (.int ((w.stp z).length:Int))=some (.int (j:Int)):=by
   rw [bX (by omega),show cP c kk 24 % ((w.stp z).length:Int)=(j:Int) from ej]
  have e:=Dy (i:=4) (s:=.leaf) (ds:=l.map rm) (Γ:=GW w c r sz l x5 (some ⟨.leaf,aF (w.stp z)⟩)) (fa:=ai (af 8) (az bV (ak 3 aj (ae (af 1) (ae fk (ae (eK (.int 24)) ag)))) (bw aT (ae (af 8) ag)))) (p:=⟨.leaf,rm ((w.stp z).getD j 0)⟩) rfl
   (eY (aw rfl) (s:=.leaf) (k:=j) (aE (cn (ay (aw rfl) (ay (hf (some ⟨.leaf,aF (w.stp z)⟩)) (ay aL ah))) (wU (b:=24) h0 h1 (by omega) (by omega)) rfl rfl) (bQ (d:=.int ((w.stp z).length:Int)) (ay (aw rfl) ah) (by simp)) m1) hj) rfl (by simpa using hl)
  refine e.trans ?_
  simp [aF]
structure Wg (w:Wd) (r:Nat) (l:List Nat):Prop where
 hd:l.head?=some r
 lt:∀x∈l,x<w.n
 ch:yZ w l
theorem Wg.last {w:Wd} {r:Nat} {l:List Nat} (h:Wg w r l):∃z,l.getLast?=some z/\z<w.n:=by
 cases l with
 | nil=>exact absurd h.hd (by simp)
 | cons a s=>exact ⟨_,List.getLast?_eq_some_getLast (by simp),h.lt _ (List.getLast_mem _)⟩
theorem Wg.snoc {w:Wd} (ok:w.Ok) {r z t:Nat} {l:List Nat} (h:Wg w r l) (hz:l.getLast?=some z) (ht:t∈w.stp z):Wg w r (l++[t]):=by
 refine ⟨?_,fun x hx=>?_,mV ht h.ch hz⟩
 ·have:=h.hd
  cases l with
  | nil=>simp at this
  | cons a s=>simpa using this
 ·rcases List.mem_append.mp hx with q | q
  ·exact h.lt x q
  ·rw [List.mem_singleton.mp q]
   exact ok.stp_lt ht
theorem qc {p q:Nat->Bool} {z:Nat} (hpq:∀x,q x=true->p x=true) (hp:p z=true) (hq:q z=false):∀{l:List Nat},z∈l->(l.filter q).length<(l.filter p).length
 | [],h=>by simp at h
 | a::r,h=>by
  have le:(r.filter q).length<=(r.filter p).length:=by
   clear h;induction r with
   | nil=>simp
   | cons b s ih=>
    simp only [filter_cons]
    cases eq:q b with
    | true=>
     rw [hpq b eq];simp
     exact ih
    | false=>
     cases p b with
     | true=>
      simp
      omega
     | false=>
      simpa using ih
  rcases List.mem_cons.mp h with e | e
  ·subst e
   simp only [filter_cons,hp,hq,if_true,Bool.false_eq_true,if_false,length_cons]
   omega
  ·have:=qc hpq hp hq e
   simp only [filter_cons]
   cases eq:q a with
   | true=>
    rw [hpq a eq];simp
    exact this
   | false=>
    cases p a with
    | true=>
     simp
     omega
    | false=>
     simpa using this
noncomputable def Az (w:Wd) (l:List Nat):Nat:=((List.range w.n).filter fun x=>!l.dropLast.contains x).length
theorem KB {w:Wd} (l:List Nat):Az w l<=w.n:=by
 unfold Az;exact Nat.le_trans (length_filter_le _ _) (by simp)
theorem qA {w:Wd} (ok:w.Ok) {c:Int} {r sz:Nat} (hr:r<w.n) (hs:sz<=100):∃l x5 x8,bO 5 (ic (af 5)) ((List.range sz).map rm) (GW w c r sz [r] none none)=.nx (GW w c r sz l x5 x8)/\Wg w r l/\l.length=sz+1:=by
 obtain ⟨Γ1,e1,l,x5,x8,rfl,g,hlen⟩:=IZ rm (i:=5) (body:=ic (af 5)) (Inv:=fun rest Γ=>∃l x5 x8,Γ=GW w c r sz l x5 x8/\Wg w r l/\l.length+rest.length=sz+1/\∀a∈rest,a<=1000)
  (fun a rest Γ ⟨l,x5,x8,e,g,hl,ha⟩=>by
   subst e;refine ⟨by simp,?_⟩
   obtain ⟨z,hz,hzn⟩:=g.last;have ha0:=ha a (by simp)
   obtain ⟨t,x,ht,e⟩:=oV ok (c:=c) (r:=r) (sz:=sz) (l:=l) (x5:=some ⟨.leaf,rm a⟩) (x8:=x8) (fk:=af 5) (kk:=(a:Int)) (by omega) (by omega) (fun x=>aw rfl) hz hzn (by simp only [length_cons] at hl;omega)
   exact ⟨_,e,l++[t],_,x,rfl,g.snoc ok hz ht,by simp only [length_cons,length_append,length_nil] at hl ⊢;omega,fun b hb=>ha b (by simp [hb])⟩) (List.range sz) (GW w c r sz [r] none none) ⟨[r],none,none,rfl,⟨rfl,fun x hx=>by rw [List.mem_singleton.mp hx];exact hr,trivial⟩,by simp;omega,fun a ha=>by have:=List.mem_range.mp ha;omega⟩
 obtain ⟨hlen,_⟩:=hlen;simp only [length_nil,Nat.add_zero] at hlen
 exact ⟨l,x5,x8,e1,g,hlen⟩
theorem hX {w:Wd} (ok:w.Ok) {c:Int} {r sz:Nat} (hs:sz<=100) {l l':List Nat} {x5 x8 y5 y8:Option PV} {b:FS} (h:bO 5 b ((List.range sz).map rm) (GW w c r sz l' y5 y8)=.nx (GW w c r sz l x5 x8)):d8 5 (eJ (ae (af 3) ag)) b (GW w c r sz l' y5 y8)=.nx (GW w c r sz l x5 x8):=by
 have e:eJ (ae (af 3) ag) (GW w c r sz l' y5 y8)=.ok ⟨(List.range sz).map rm,true⟩ (GW w c r sz l' y5 y8):=m5 (s:=.leaf) (n:=sz) (by omega) (ay (aw rfl) ah)
 exact fM e h
theorem tq {w:Wd} (ok:w.Ok) {c:Int} {r sz:Nat} (hs:sz<=100) {l:List Nat} {x5 x8:Option PV} (g:Wg w r l) (hlen:l.length=sz+1):∃l2 x8',sM (aN ax (az (bE true) (ai (af 4) (eU bC (eK (.int 1)))) (bI (fun k=>(none,some k)) (af 4) (eU bC (eK (.int 1)))))) (ic (bw aT (ae (af 4) ag))) 100 (GW w c r sz l x5 x8)=.nx (GW w c r sz l2 x5 x8')/\Wg w r l2/\l2.length<=sz+1+w.n/\l2.getLast?.getD 0∈l2.dropLast:=by
 have h24:=ok.h24
 obtain ⟨b',e2,⟨g2,hl2⟩,ht2⟩:=El (β:=List Nat×Option PV) (c:=aN ax (az (bE true) (ai (af 4) (eU bC (eK (.int 1)))) (bI (fun k=>(none,some k)) (af 4) (eU bC (eK (.int 1)))))) (g:=ic (bw aT (ae (af 4) ag)))
  (G:=fun b=>GW w c r sz b.1 x5 b.2) (test:=fun b=>!b.1.dropLast.contains (b.1.getLast?.getD 0)) (Inv:=fun b=>Wg w r b.1/\b.1.length+Az w b.1<=sz+1+w.n) (meas:=fun b=>Az w b.1)
  (fun b ⟨gb,_⟩=>by
   obtain ⟨z,hz,hzn⟩:=gb.last;refine dY (s:=.leaf) (aE (Ea (dD rfl) Ae hz) (dg (dD rfl) Ae sH) ?_)
   simp only
   rw [pb,Hj,hz];rfl)
  (fun b ⟨gb,hb⟩ ht=>by
   obtain ⟨z,hz,hzn⟩:=gb.last;obtain ⟨t,x,htz,e⟩:=oV ok (c:=c) (r:=r) (sz:=sz) (l:=b.1) (x5:=x5) (x8:=b.2) (fk:=bw aT (ae (af 4) ag)) (kk:=(b.1.length:Int)) (by omega) (by omega) (fun x=>bQ (ay (dD rfl) ah) (by simp)) hz hzn (by omega)
   have hlt:Az w (b.1++[t])<Az w b.1:=by
    rw [hz] at ht;simp only [Option.getD_some,Bool.not_eq_true',Bool.eq_false_iff,ne_eq,contains_iff_mem] at ht
    have hzm:z∈b.1:=List.mem_of_getLast? hz
    unfold Az;rw [List.dropLast_concat];refine qc (z:=z) (fun x hx=>?_) (by simpa using ht) (by simpa using hzm) (List.mem_range.mpr hzn)
    simp only [Bool.not_eq_true',Bool.eq_false_iff,ne_eq,contains_iff_mem] at hx ⊢
    exact fun q=>hx (List.dropLast_subset _ q)
   refine ⟨(b.1++[t],x),e,⟨gb.snoc ok hz htz,?_⟩,hlt⟩
   simp only [length_append,length_cons,length_nil]
   omega) 100 (l,x8) ⟨g,by have:=KB (w:=w) l;simp only;omega⟩ (by have:=KB (w:=w) l;simp only;omega)
 refine ⟨b'.1,b'.2,e2,g2,by omega,?_⟩
 simpa using ht2
theorem vH {w:Wd} (ok:w.Ok) {c:Int} {r sz:Nat} (hr:r<w.n) (hs:sz<=100):∃F R,cT [w.enc,.int c,rm r,.int (sz:Int)]=.ok ⟨.tup [.lst .leaf,.lst .leaf],wy F R⟩/\eL w F R/\(F++R).head?=some r/\F.length+R.length<=sz+w.n:=by
 have h24:=ok.h24
 obtain ⟨l,x5,x8,e1,g,hlen⟩:=qA ok (c:=c) hr hs
 obtain ⟨l2,x8',e2,g2,hlb,ht2⟩:=tq ok (c:=c) hs (x5:=x5) (x8:=x8) g hlen
 obtain ⟨z,hz,hzn⟩:=g2.last;rw [hz] at ht2;simp only [Option.getD_some] at ht2
 have pl:aC .leaf 5 (eJ (ae (az gSub (bw aT (ae (af 4) ag)) (eK (.int 1))) ag)) (aN ax (az bL (ai (af 4) (af 5)) (ai (af 4) (eU bC (eK (.int 1)))))) (af 5) (GW w c r sz l2 x5 x8')=.ok ⟨.lst .leaf,aF ((List.range (l2.length-1)).filter fun k=>((l2.getD k 0:Nat):Int)==(z:Int))⟩ (GW w c r sz l2 x5 x8'):=by
  refine wA rm (List.range (l2.length-1)) (fun k=>((l2.getD k 0:Nat):Int)==(z:Int)) (fun k=>⟨.leaf,rm k⟩) (st:=true) (m5 (s:=.leaf) (by omega) (ay (aE (bQ (ay (dD rfl) ah) GF) aL ?_) ah)) (by simp) rfl (by simp;omega) (fun k hk=>?_) fun k hk _=>⟨aw rfl,rfl⟩
  ·have:1<=l2.length:=by
    cases l2 with
    | nil=>simp at hz
    | cons a b=>simp
   rw [KC.sub_int',length_map,show ((l2.length:Int)-1)=((l2.length-1:Nat):Int) by omega]
  ·have hk:=List.mem_range.mp hk
   exact dY (s:=.leaf) (aE (EB (dD rfl) (s:=.leaf) (aw rfl) (by omega)) (Ea (dD rfl) Ae hz) eq_int)
 generalize hP:((List.range (l2.length-1)).filter fun k=>((l2.getD k 0:Nat):Int)==(z:Int))=P at pl
 have memP:∀k,k∈P↔k<l2.length-1/\l2.getD k 0=z:=fun k=>by
  rw [<-hP,List.mem_filter,mem_range];simp
  omega
 have posP:1<=P.length:=by
  obtain ⟨k,hk,ek⟩:=List.getElem_of_mem ht2;rw [length_dropLast] at hk;have:k∈P:=(memP k).mpr ⟨hk,by rw [List.getElem_dropLast] at ek;rw [getD_eq_getElem?_getD,getElem?_eq_getElem (by omega),ek];rfl⟩
  cases P with
  | nil=>simp at this
  | cons a b=>simp
 obtain ⟨j,hj,ej⟩:=Fi (c:=c) (k:=59) (by omega) (by omega) (b:=24) (by omega) (by omega) posP
 have atM:P.getD j 0∈P:=by
  rw [getD_eq_getElem?_getD,getElem?_eq_getElem hj];exact getElem_mem _
 obtain ⟨ha1,ha2⟩:=(memP _).mp atM;generalize hA:P.getD j 0=A at ha1 ha2
 have z1:l2.dropLast++[z]=l2:=by
  cases l2 with
  | nil=>simp at hz
  | cons a b=>
   rw [List.getLast?_eq_some_getLast (by simp)] at hz
   rw [<-Option.some.inj hz];exact List.dropLast_concat_getLast _
 have app:l2.take A++l2.dropLast.drop A=l2.dropLast:=by
  have:l2.take A=l2.dropLast.take A:=by
   rw [List.dropLast_eq_take,List.take_take,Nat.min_eq_left (by omega)]
  rw [this,List.take_append_drop]
 have tk:(l2.dropLast.drop A).take 1=[z]:=by
  have hA2:A<l2.dropLast.length:=by rw [length_dropLast];exact ha1
  rw [drop_eq_getElem_cons hA2,List.getElem_dropLast];rw [getD_eq_getElem?_getD,getElem?_eq_getElem (by omega)] at ha2
  exact congrArg (fun x=>[x]) ha2
 refine ⟨l2.take A,l2.dropLast.drop A,?_,⟨?_,?_,?_,?_⟩,?_,?_⟩
 ·refine aS ?_
  have z0:aA true 4 (aB .leaf (ae (af 2) ag)) (aQ 9 [w.enc,.int c,rm r,.int (sz:Int)])=.nx (GW w c r sz [r] none none):=zd (dz (ay (aw rfl) ah) rfl rfl rfl) rfl (by simp [aQ])
  refine aq z0 ?_
  refine aq (Γ1:=GW w c r sz l x5 x8) ?_ ?_
  ·exact hX ok hs e1
  refine aq (Γ1:=GW w c r sz l2 x5 x8') ?_ ?_
  ·unfold sI
   exact e2
  refine aq (Γ1:=[some ⟨.leaf,w.enc⟩,some ⟨.leaf,.int c⟩,some ⟨.leaf,rm r⟩,some ⟨.leaf,.int (sz:Int)⟩,some ⟨.lst .leaf,aF l2⟩,x5,some ⟨.leaf,aF P⟩,none,x8']) (cb pl rfl (by simp)) ?_
  refine aq (Γ1:=[some ⟨.leaf,w.enc⟩,some ⟨.leaf,.int c⟩,some ⟨.leaf,rm r⟩,some ⟨.leaf,.int (sz:Int)⟩,some ⟨.lst .leaf,aF l2⟩,x5,some ⟨.leaf,aF P⟩,some ⟨.leaf,rm A⟩,x8']) ?_ ?_
  ·rw [<-hA]
   refine cb (p:=⟨.leaf,rm (P.getD j 0)⟩) (eY (aw rfl) (s:=.leaf) (k:=j) (aE (cn (ay (aw rfl) (ay aL (ay aL ah))) (wU (by omega) (by omega) (by omega) (by omega)) rfl rfl) (bQ (ay (aw rfl) ah) GF) ?_) hj) rfl (by simp)
   simp only [length_map]
   rw [bX (by omega),show cP c 59 24 % (P.length:Int)=(j:Int) from ej]
  ·have q1:=dg (g:=fun k=>(none,some k)) (Γ:=[some ⟨.leaf,w.enc⟩,some ⟨.leaf,.int c⟩,some ⟨.leaf,rm r⟩,some ⟨.leaf,.int (sz:Int)⟩,some ⟨.lst .leaf,aF l2⟩,x5,some ⟨.leaf,aF P⟩,some ⟨.leaf,rm A⟩,x8']) (fa:=af 4) (fb:=af 7) (k:=(A:Int)) (dD rfl) (aw rfl) sH
   have q2:=dg (g:=fun k=>(some k,some (-1))) (Γ:=[some ⟨.leaf,w.enc⟩,some ⟨.leaf,.int c⟩,some ⟨.leaf,rm r⟩,some ⟨.leaf,.int (sz:Int)⟩,some ⟨.lst .leaf,aF l2⟩,x5,some ⟨.leaf,aF P⟩,some ⟨.leaf,rm A⟩,x8']) (fa:=af 4) (fb:=af 7) (k:=(A:Int)) (dD rfl) (aw rfl) sH
   simp only at q1 q2
   rw [o9] at q1;rw [AU (by omega)] at q2
   exact aW (bG (ay q1 (ay q2 ah)) rfl rfl) rfl
 ·intro e
  rw [e] at tk;simp at tk
 ·rw [app]
  exact fun x hx=>g2.lt x (List.dropLast_subset _ hx)
 ·rw [app,tk,z1]
  exact g2.ch
 ·simp only [length_take,length_drop,length_dropLast]
  omega
 ·rw [app]
  have:=g2.hd
  rw [<-z1] at this
  cases e:l2.dropLast with
  | nil=>rw [e] at ht2;simp at ht2
  | cons a b=>rw [e] at this;simpa using this
 ·simp only [length_take,length_drop,length_dropLast]
  omega
theorem yz {w:Wd} (ok:w.Ok) {c:Int} {r sz:Nat} (hr:r<w.n) (hs:sz<=100):∃F R,cT [w.enc,.int c,rm r,.int (sz:Int)]=.ok ⟨.tup [.lst .leaf,.lst .leaf],wy F R⟩/\eL w F R/\(F++R).head?=some r/\F.length+R.length<=sz+25:=by
 have h24:=ok.h24
 obtain ⟨F,R,a,b,c,d⟩:=vH ok (c:=c) hr hs
 exact ⟨F,R,a,b,c,by omega⟩
end KQ
namespace KC
open PySem PySem.Spec L2 T
open PyProof.Rows hiding St
noncomputable def cC:PySem.PyData:=.tuple [.str "some next",.str "some until",.str "some always"]
noncomputable def iG:PySem.PyData:=.tuple [.str "all next",.str "all until",.str "all always"]
noncomputable def mM:FS:=(bF (b9 (aN bf (ak 2 aZ (ae (af 0) (ae (af 1) ag))))) KJ aG)
noncomputable def gL:List PySem.PyData->Res:=aD 2 mM
noncomputable def sk:FS:=(av (aA false 2 (bw aT (ae (ai (af 0) (eK (.int 0))) ag)))
  (aI (wG (aN ax (az eR (af 1) (af 2))) (ai (ai (af 0) (eK (.int 0))) (af 1)) (ai (ai (af 0) (eK (.int 1))) (az bV (az gSub (af 1) (af 2)) (bw aT (ae (ai (af 0) (eK (.int 1))) ag)))))))
noncomputable def dG:List PySem.PyData->Res:=aD 3 sk
noncomputable def oF:FS:=(av (d8 3 (bt (af 0))
  (av (bF (aN ax (az (bE false) (af 3) (af 2))) (aI (eK (.bool true))) aG)
  (bF (aN ax (az (bE true) (af 3) (af 1))) (aI (eK (.bool false))) aG)))
  (aI (eK (.bool false))))
noncomputable def fF:List PySem.PyData->Res:=aD 4 oF
noncomputable def jv:FS:=(av (aA false 3 (bJ (ai (af 0) (eK (.int 0))) (ai (af 0) (eK (.int 1)))))
  (av (bF (aN ax (az (bE false) (af 1) (eK bZ))) (aI (ak 3 fF (ae (af 3) (ae (ai (af 2) (eK (.int 0))) (ae (ai (af 2) (eK (.int 1))) ag))))) aG)
  (av (bF (aN ax (az (bE false) (af 1) (eK cG))) (aI (bw (cD false) (ae (aC .leaf 4 (bt (af 3)) aR (az (bE false) (af 4) (ai (af 2) (eK (.int 0))))) ag))) aG)
  (aI (az (bE false) (ak 2 dG (ae (af 0) (ae (eK (.int 1)) ag))) (ai (af 2) (eK (.int 0))))))))
noncomputable def dr:List PySem.PyData->Res:=aD 5 jv
noncomputable def mH:FS:=(av (aA true 2 (aB .leaf ag))
  (av (aA false 3 (af 1))
  (av (sI 100 (dU (aN ax (az (cJ true) (af 3) (eK .none))) (aN ax (az (bE true) (af 3) (af 2))))
  (av (eN 2 (af 3))
  (aA false 3 (ai (af 0) (af 3)))))
  (av (bF (aN ax (az (cJ false) (af 3) (eK .none))) (aI (eK .none)) aG)
  (lP 2 (av (aA false 4 (ox 2 (af 3)))
  (aI (bo (ae (bI (fun k=>(none,some k)) (af 2) (af 4)) (ae (bI (fun k=>(some k,none)) (af 2) (af 4)) ag))))))))))
noncomputable def eD:List PySem.PyData->Res:=aD 5 mH
noncomputable def g5:FS:=(av (aA false 5 (ai (ai (af 0) (eK (.int 2))) (af 4)))
  (av (bF (aN ax (az (cJ false) (af 3) (eK .none))) (aI (aC .leaf 6 (bt (af 5)) (aN ax (az bL (az (bE false) (af 6) (ai (af 2) (eK (.int 0)))) (az bL (af 1) (eK (.str "some next"))))) (af 6))) aG)
  (av (bF (aN ax (az (bE false) (af 1) (eK bB))) (aI (ak 3 dq (ae (af 0) (ae (af 3) (ae (af 4) ag))))) aG)
  (aI (aC .leaf 6 (bt (af 5)) (aN ax (az (cJ false) (ai (af 3) (af 6)) (eK .none))) (af 6))))))
noncomputable def bx:List PySem.PyData->Res:=aD 7 g5
open PySem.SeqAt
noncomputable def Wr.ofS (a:Wr):Bool:=decide (a=.sn\/a=.su\/a=.sa)
noncomputable def Wr.ofA (a:Wr):Bool:=decide (a=.an\/a=.au\/a=.aa)
@[simp] theorem vi (a:Wr):bE false (.str a.t) cC=some (.bool a.ofS):=by cases a<;>kernel_rfl
@[simp] theorem HM (a:Wr):bE true (.str a.t) cC=some (.bool (!a.ofS)):=by cases a<;>kernel_rfl
@[simp] theorem HN (a:Wr):bE true (.str a.t) iG=some (.bool (!a.ofA)):=by cases a<;>kernel_rfl
noncomputable def Sn.tm (s:Sn):Bool:=s.w.ofS||s.w.ofA
theorem AD {s:Sn} {Γ:Ev} {i:Nat} (h:Γ[i]?=some (some ⟨.leaf,s.enc⟩)):ai (af i) (eK (.int 0)) Γ=.ok ⟨.leaf,.str s.w.t⟩ Γ:=by
 rw [fQ,aw h]
 cases s<;>simp [Sn.enc,Sn.w,aL,Out.bind]
theorem fo {w:Wd} (ok:w.Ok) {F R:List Nat} (h:eL w F R):gL [w.enc,wy F R]=.ok ⟨.leaf,.none⟩:=by
 refine jM (Γ:=aQ 2 [w.enc,wy F R]) ?_
 exact aV (t:=false) (fx (b:=true) (cK (s:=.leaf) (cn (ay (aw rfl) (ay (aw rfl) ah)) (Ei ok h) rfl rfl))) nofun fun _=>rfl
noncomputable abbrev jD:FS:=(av (bF (aN ax (az (bE false) (af 3) (af 2))) (aI (eK (.bool true))) aG)
  (bF (aN ax (az (bE true) (af 3) (af 1))) (aI (eK (.bool false))) aG))
theorem lz {A0 P Q:List Nat}:∀(A:List Nat) (x:Option PV),(∃y,bO 3 jD (A.map rm) [some ⟨.leaf,aF A0⟩,some ⟨.leaf,aF P⟩,some ⟨.leaf,aF Q⟩,x]=.nx [some ⟨.leaf,aF A0⟩,some ⟨.leaf,aF P⟩,some ⟨.leaf,aF Q⟩,y]/\iX (fun t=>P.contains t) (fun t=>Q.contains t) A=false) \/
  bO 3 jD (A.map rm) [some ⟨.leaf,aF A0⟩,some ⟨.leaf,aF P⟩,some ⟨.leaf,aF Q⟩,x]=.rt ⟨.leaf,.bool (iX (fun t=>P.contains t) (fun t=>Q.contains t) A)⟩
 | [],x=>.inl ⟨x,rfl,rfl⟩
 | a::A,x=>by
  have e1:aN ax (az (bE false) (af 3) (af 2)) [some ⟨.leaf,aF A0⟩,some ⟨.leaf,aF P⟩,some ⟨.leaf,aF Q⟩,some ⟨.leaf,rm a⟩]=.ok (Q.contains a) [some ⟨.leaf,aF A0⟩,some ⟨.leaf,aF P⟩,some ⟨.leaf,aF Q⟩,some ⟨.leaf,rm a⟩]:=dY (s:=.leaf) (aE (aw rfl) (aw rfl) wI)
  have e2:aN ax (az (bE true) (af 3) (af 1)) [some ⟨.leaf,aF A0⟩,some ⟨.leaf,aF P⟩,some ⟨.leaf,aF Q⟩,some ⟨.leaf,rm a⟩]=.ok (!P.contains a) [some ⟨.leaf,aF A0⟩,some ⟨.leaf,aF P⟩,some ⟨.leaf,aF Q⟩,some ⟨.leaf,rm a⟩]:=dY (s:=.leaf) (aE (aw rfl) (aw rfl) Hj)
  have go:∀o,jD [some ⟨.leaf,aF A0⟩,some ⟨.leaf,aF P⟩,some ⟨.leaf,aF Q⟩,some ⟨.leaf,rm a⟩]=o->bO 3 jD ((a::A).map rm) [some ⟨.leaf,aF A0⟩,some ⟨.leaf,aF P⟩,some ⟨.leaf,aF Q⟩,x]=(match o with | .nx Γ1=>bO 3 jD (A.map rm) Γ1 | .ct Γ1=>bO 3 jD (A.map rm) Γ1 | .bk Γ1=>.nx Γ1 | .rt p=>.rt p | .er a b=>.er a b | .no=>.no):=fun o ho=>by
   rw [map_cons,bO,if_pos (by simp)]
   have:[some (⟨.leaf,aF A0⟩:PV),some ⟨.leaf,aF P⟩,some ⟨.leaf,aF Q⟩,x].set 3 (some ⟨.leaf,rm a⟩)=[some ⟨.leaf,aF A0⟩,some ⟨.leaf,aF P⟩,some ⟨.leaf,aF Q⟩,some ⟨.leaf,rm a⟩]:=rfl
   rw [this,ho];all_goals (cases o<;>rfl)
  cases hq:Q.contains a with
  | true=>
   right
   rw [hq] at e1;rw [go (.rt ⟨.leaf,.bool true⟩) (qy (aV e1 (fun _=>rfl) nofun))]
   simp only [iX,hq,Bool.true_or]
  | false=>
   rw [hq] at e1
   cases hp:P.contains a with
   | false=>
    right
    rw [hp] at e2;rw [go (.rt ⟨.leaf,.bool false⟩) (aq (aV e1 nofun fun _=>rfl) (aV e2 (fun _=>rfl) nofun))]
    simp only [iX,hq,hp,Bool.false_or,Bool.false_and]
   | true=>
    rw [hp] at e2;have g:=go (.nx [some ⟨.leaf,aF A0⟩,some ⟨.leaf,aF P⟩,some ⟨.leaf,aF Q⟩,some ⟨.leaf,rm a⟩]) (aq (aV e1 nofun fun _=>rfl) (aV e2 nofun fun _=>rfl))
    rw [g];have u:iX (fun t=>P.contains t) (fun t=>Q.contains t) (a::A)=iX (fun t=>P.contains t) (fun t=>Q.contains t) A:=by simp only [iX,hq,hp,Bool.false_or,Bool.true_and]
    rw [u];exact lz A _
theorem kJ {A P Q:List Nat}:fF [aF A,aF P,aF Q]=.ok ⟨.leaf,.bool (iX (fun t=>P.contains t) (fun t=>Q.contains t) A)⟩:=by
 refine aS ?_
 rcases lz (A0:=A) (P:=P) (Q:=Q) A none with ⟨y,e,u⟩ | e
 ·rw [u]
  exact aq (fM (cf (s:=.leaf) (aw rfl) rfl) e) rfl
 ·exact qy (fM (cf (s:=.leaf) (aw rfl) rfl) e)
noncomputable def wC (F R:List Nat):Nat:=if 1<F.length then F.getD 1 0 else R.getD ((1-F.length) % R.length) 0
theorem sd {F R:List Nat} (h:R≠[]):dG [wy F R,.int 1]=.ok ⟨.leaf,rm (wC F R)⟩:=by
 have hp:0<R.length:=by
  cases R with
  | nil=>exact absurd rfl h
  | cons a b=>simp
 have i0:ai (af 0) (eK (.int 0)) (aQ 3 [wy F R,.int 1])=.ok ⟨.leaf,aF F⟩ (aQ 3 [wy F R,.int 1]):=by simp [aQ]
 have j0:ai (af 0) (eK (.int 0)) [some ⟨.leaf,wy F R⟩,some ⟨.leaf,.int 1⟩,some ⟨.leaf,.int (F.length:Int)⟩]=.ok ⟨.leaf,aF F⟩ [some ⟨.leaf,wy F R⟩,some ⟨.leaf,.int 1⟩,some ⟨.leaf,.int (F.length:Int)⟩]:=by simp
 have j1:ai (af 0) (eK (.int 1)) [some ⟨.leaf,wy F R⟩,some ⟨.leaf,.int 1⟩,some ⟨.leaf,.int (F.length:Int)⟩]=.ok ⟨.leaf,aF R⟩ [some ⟨.leaf,wy F R⟩,some ⟨.leaf,.int 1⟩,some ⟨.leaf,.int (F.length:Int)⟩]:=by simp
 refine aS ?_
 refine aq (Γ1:=[some ⟨.leaf,wy F R⟩,some ⟨.leaf,.int 1⟩,some ⟨.leaf,.int (F.length:Int)⟩]) (cb (bQ (d:=.int (F.length:Int)) (ay i0 ah) (by simp)) rfl (by simp [aQ])) ?_
 have c:aN ax (az eR (af 1) (af 2)) [some ⟨.leaf,wy F R⟩,some ⟨.leaf,.int 1⟩,some ⟨.leaf,.int (F.length:Int)⟩]=.ok (decide ((1:Int)<(F.length:Int))) [some ⟨.leaf,wy F R⟩,some ⟨.leaf,.int 1⟩,some ⟨.leaf,.int (F.length:Int)⟩]:=dY (s:=.leaf) (aE (aw rfl) (aw rfl) KC.lt_int)
 refine aW (p:=⟨.leaf,rm (wC F R)⟩) (Γ1:=[some ⟨.leaf,wy F R⟩,some ⟨.leaf,.int 1⟩,some ⟨.leaf,.int (F.length:Int)⟩]) ?_ rfl
 unfold wG;rw [c];by_cases hl:1<F.length
 ·rw [decide_eq_true (by omega)]
  simp only [Out.bind,if_true]
  rw [eY (k:=1) (s:=.leaf) j0 (aw rfl) hl];unfold wC;rw [if_pos hl]
 ·rw [decide_eq_false (by omega)]
  simp only [Out.bind,Bool.false_eq_true,if_false]
  have m:bV (.int (1-(F.length:Int))) (.int (R.length:Int))=some (.int (((1-F.length) % R.length:Nat):Int)):=by
   rw [bX (by omega),show (1-(F.length:Int))=((1-F.length:Nat):Int) by omega]
   rfl
  rw [eY (k:=(1-F.length) % R.length) (s:=.leaf) j1 (aE (aE (aw rfl) (aw rfl) KC.sub_int') (bQ (d:=.int (R.length:Int)) (ay j1 ah) (by simp)) m) (Nat.mod_lt _ hp)]
  unfold wC;rw [if_neg hl]
noncomputable def Gh (w:Wd) (s:Sn) (F R:List Nat):Bool:=match s with
 | .bi _ a b=>iX (fun t=>(bc w a).contains t) (fun t=>(bc w b).contains t) (F++R)
 | .un .sa a=>(F++R).all fun t=>(bc w a).contains t
 | .un .aa a=>(F++R).all fun t=>(bc w a).contains t
 | .un _ a=>(bc w a).contains (wC F R)
 | _=>false
theorem si {w:Wd} {s:Sn} (ht:s.tm=true) {F R:List Nat} (h:R≠[]) (hl:F.length+R.length<=1000):dr [wy F R,.str s.w.t,bU (s.args.map (bc w))]=.ok ⟨.leaf,.bool (Gh w s F R)⟩:=by
 have i0:ai (af 0) (eK (.int 0)) (aQ 5 [wy F R,.str s.w.t,bU (s.args.map (bc w))])=.ok ⟨.leaf,aF F⟩ (aQ 5 [wy F R,.str s.w.t,bU (s.args.map (bc w))]):=by simp [aQ]
 have i1:ai (af 0) (eK (.int 1)) (aQ 5 [wy F R,.str s.w.t,bU (s.args.map (bc w))])=.ok ⟨.leaf,aF R⟩ (aQ 5 [wy F R,.str s.w.t,bU (s.args.map (bc w))]):=by simp [aQ]
 have ca:=dE i0 i1 rfl rfl (by simp;omega)
 rw [<-map_append] at ca;have hr:=sd (F:=F) h
 refine aS ?_
 refine aq (Γ1:=[some ⟨.leaf,wy F R⟩,some ⟨.leaf,.str s.w.t⟩,some ⟨.leaf,bU (s.args.map (bc w))⟩,some ⟨.leaf,aF (F++R)⟩,none]) (cb ca rfl (by simp [aQ])) ?_
 have t1:aN ax (az (bE false) (af 1) (eK bZ)) [some ⟨.leaf,wy F R⟩,some ⟨.leaf,.str s.w.t⟩,some ⟨.leaf,bU (s.args.map (bc w))⟩,some ⟨.leaf,aF (F++R)⟩,none]=.ok (decide (s.w=.su\/s.w=.au)) [some ⟨.leaf,wy F R⟩,some ⟨.leaf,.str s.w.t⟩,some ⟨.leaf,bU (s.args.map (bc w))⟩,some ⟨.leaf,aF (F++R)⟩,none]:=dY (s:=.leaf) (aE (aw rfl) aL (vg _))
 have t2:aN ax (az (bE false) (af 1) (eK cG)) [some ⟨.leaf,wy F R⟩,some ⟨.leaf,.str s.w.t⟩,some ⟨.leaf,bU (s.args.map (bc w))⟩,some ⟨.leaf,aF (F++R)⟩,none]=.ok (decide (s.w=.sa\/s.w=.aa)) [some ⟨.leaf,wy F R⟩,some ⟨.leaf,.str s.w.t⟩,some ⟨.leaf,bU (s.args.map (bc w))⟩,some ⟨.leaf,aF (F++R)⟩,none]:=dY (s:=.leaf) (aE (aw rfl) aL (CH _))
 have un:∀(a:Sn) (u:U5),s=.un u a->∀Γ:Ev,Γ[2]?=some (some ⟨.leaf,bU (s.args.map (bc w))⟩)->ai (af 2) (eK (.int 0)) Γ=.ok ⟨.leaf,aF (bc w a)⟩ Γ:=fun a u e Γ h2=>by
  rw [fQ,aw h2,e];simp [aL,Out.bind,Sn.args]
 cases s with
 | yes=>simp [Sn.tm,Sn.w,Wr.ofS,Wr.ofA] at ht
 | mk c=>simp [Sn.tm,Sn.w,Wr.ofS,Wr.ofA] at ht
 | bi k a b=>
  have hk:k.w=.su\/k.w=.au:=by
   cases k with
   | and=>simp [Sn.tm,Sn.w,B4.w,Wr.ofS,Wr.ofA] at ht
   | or=>simp [Sn.tm,Sn.w,B4.w,Wr.ofS,Wr.ofA] at ht
   | su=>exact .inl rfl
   | au=>exact .inr rfl
  have e0:ai (af 2) (eK (.int 0)) [some ⟨.leaf,wy F R⟩,some ⟨.leaf,.str (Sn.bi k a b).w.t⟩,some ⟨.leaf,bU ((Sn.bi k a b).args.map (bc w))⟩,some ⟨.leaf,aF (F++R)⟩,none]=.ok ⟨.leaf,aF (bc w a)⟩ [some ⟨.leaf,wy F R⟩,some ⟨.leaf,.str (Sn.bi k a b).w.t⟩,some ⟨.leaf,bU ((Sn.bi k a b).args.map (bc w))⟩,some ⟨.leaf,aF (F++R)⟩,none]:=by simp [Sn.args]
  have e1:ai (af 2) (eK (.int 1)) [some ⟨.leaf,wy F R⟩,some ⟨.leaf,.str (Sn.bi k a b).w.t⟩,some ⟨.leaf,bU ((Sn.bi k a b).args.map (bc w))⟩,some ⟨.leaf,aF (F++R)⟩,none]=.ok ⟨.leaf,aF (bc w b)⟩ [some ⟨.leaf,wy F R⟩,some ⟨.leaf,.str (Sn.bi k a b).w.t⟩,some ⟨.leaf,bU ((Sn.bi k a b).args.map (bc w))⟩,some ⟨.leaf,aF (F++R)⟩,none]:=by simp [Sn.args]
  refine qy (aV t1 (fun _=>aW (cn (ay (aw rfl) (ay e0 (ay e1 ah))) kJ rfl rfl) rfl) fun z=>?_)
  exact absurd z (by rw [decide_eq_true (show (Sn.bi k a b).w=.su\/(Sn.bi k a b).w=.au from hk)];simp)
 | un k a=>
  have hn:¬((Sn.un k a).w=.su\/(Sn.un k a).w=.au):=by cases k<;>simp [Sn.w,U5.w]
  rw [decide_eq_false hn] at t1;refine aq (aV t1 nofun fun _=>rfl) ?_
  by_cases hk:k=.sa\/k=.aa
  ·have ha:(Sn.un k a).w=.sa\/(Sn.un k a).w=.aa:=by rcases hk with rfl | rfl<;>simp [Sn.w,U5.w]
   rw [decide_eq_true ha] at t2;have cm:aC .leaf 4 (bt (af 3)) aR (az (bE false) (af 4) (ai (af 2) (eK (.int 0)))) [some ⟨.leaf,wy F R⟩,some ⟨.leaf,.str (Sn.un k a).w.t⟩,some ⟨.leaf,bU ((Sn.un k a).args.map (bc w))⟩,some ⟨.leaf,aF (F++R)⟩,none]=.ok ⟨.lst .leaf,.list ((F++R).map fun t=>.bool ((bc w a).contains t))⟩ [some ⟨.leaf,wy F R⟩,some ⟨.leaf,.str (Sn.un k a).w.t⟩,some ⟨.leaf,bU ((Sn.un k a).args.map (bc w))⟩,some ⟨.leaf,aF (F++R)⟩,none]:=
    oT rm (F++R) (fun t=>⟨.leaf,.bool ((bc w a).contains t)⟩) (st:=true) (cf (s:=.leaf) (aw rfl) rfl) (by simp) rfl (by simp;omega) fun t ht=>⟨aE (aw rfl) (un a k rfl _ rfl) wI,rfl⟩
   refine qy (aV t2 (fun _=>aW (bQ (ay cm ah) wu) rfl) nofun) |>.trans ?_
   rcases hk with rfl | rfl<;>rfl
  ·have ha:¬((Sn.un k a).w=.sa\/(Sn.un k a).w=.aa):=by cases k<;>simp_all [Sn.w,U5.w]
   rw [decide_eq_false ha] at t2;refine aq (aV t2 nofun fun _=>rfl) ?_
   refine (aW (aE (cn (ay (aw rfl) (ay aL ah)) hr rfl rfl) (un a k rfl _ rfl) wI) rfl).trans ?_
   cases k with
   | sa=>exact absurd (.inl rfl) hk
   | aa=>exact absurd (.inr rfl) hk
   | _=>rfl
theorem iz {w:Wd} (ok:w.Ok) {s:Sn} (hs:s.ok) (hd:s.dep<=24) {Γ:Ev} {j:Nat} (h0:Γ[0]?=some (some ⟨.leaf,w.enc⟩)) (h1:Γ[1]?=some (some ⟨.leaf,s.enc⟩)) (hj:j<Γ.length) (hj1:2<=j):aC .leaf j (eI (ak 1 bh (ae (af 1) ag))) aR (ak 2 dH (ae (af 0) (ae (af j) ag))) Γ=.ok ⟨.lst .leaf,bU (s.args.map (bc w))⟩ Γ:=by
 have pa:=jV s
 have e:=oT (s:=.leaf) (i:=j) (fi:=eI (ak 1 bh (ae (af 1) ag))) (fe:=ak 2 dH (ae (af 0) (ae (af j) ag))) (Γ:=Γ) Sn.enc s.args (fun a=>⟨.lst .leaf,aF (bc w a)⟩) (st:=true) (by
  have q:ak 1 bh (ae (af 1) ag) Γ=.ok ⟨s.psh,.tuple (s.args.map Sn.enc)⟩ Γ:=cn (ay (aw h1) ah) pa rfl rfl
  rw [Bw,q];simp [Out.bind,cR]) hj rfl (by have:=s.args_le;omega) fun a ha=>⟨by
   have g0:(Γ.set j (some ⟨.leaf,a.enc⟩))[0]?=some (some ⟨.leaf,w.enc⟩):=by rw [getElem?_set_ne (by omega)];exact h0
   have c3:dH [w.enc,a.enc]=_:=iQ ok 30 a (Sn.args_ok hs a ha) (by have:=yx ha;omega)
   exact cn (ay (aw g0) (ay (aw (getElem?_set_self hj)) ah)) c3 rfl rfl,rfl⟩
 rw [e];simp [map_map,Function.comp_def]
section
variable {w:Wd} {F R:List Nat}
theorem B9 (h:R≠[]):wC F R=(F++R++R.take 1).getD 1 0:=by
 unfold wC
 cases F with
 | nil=>
  cases R with
  | nil=>exact absurd rfl h
  | cons a r=>
   cases r with
   | nil=>simp
   | cons b s=>
    have:(1-0) % (s.length+1+1)=1:=by
     rw [Nat.sub_zero];exact Nat.mod_eq_of_lt (by omega)
    simp [this]
 | cons f s=>
  cases s with
  | nil=>
   cases R with
   | nil=>exact absurd rfl h
   | cons a r=>simp
  | cons g t=>simp
end
theorem GH {w:Wd} (ok:w.Ok) {s:Sn} {R:D} (h:wg w s R) {r:Nat} (hr:r<w.n):match s with
  | .bi .su a b=>∃rk,R=dm rk/\Right w true (bc w a) (bc w b) rk/\(d7 w s r↔aY rk r≠none)
  | .bi .au a b=>∃rk,R=dm rk/\Right w false (bc w a) (bc w b) rk/\(d7 w s r↔aY rk r≠none)
  | .un .sa a=>∃rk,R=dm rk/\Right w false (List.range w.n) ((List.range w.n).filter fun t=>!(bc w a).contains t) rk/\(d7 w s r↔aY rk r=none)
  | .un .aa a=>∃rk,R=dm rk/\Right w true (List.range w.n) ((List.range w.n).filter fun t=>!(bc w a).contains t) rk/\(d7 w s r↔aY rk r=none)
  | _=>True:=by
 have nn:∀(o:Option Nat) (P:Prop),(o≠none↔P)->(¬P↔o=none):=fun o P hp=>by
  cases o with
  | none=>simp at hp ⊢;exact hp
  | some k=>simp at hp ⊢;exact hp
 match s,h with
 | .bi .su a b,⟨rk,e,H⟩=>exact ⟨rk,e,H,((H.iff ok hr).trans (Hf ok hr)).symm⟩
 | .bi .au a b,⟨rk,e,H⟩=>exact ⟨rk,e,H,((H.iff ok hr).trans (Hf ok hr)).symm⟩
 | .un .sa a,⟨rk,e,H⟩=>exact ⟨rk,e,H,nn _ _ ((H.iff ok hr).trans (G6 ok hr))⟩
 | .un .aa a,⟨rk,e,H⟩=>exact ⟨rk,e,H,nn _ _ ((H.iff ok hr).trans (G6 ok hr))⟩
 | .yes,_=>trivial
 | .mk _,_=>trivial
 | .un .not _,_=>trivial
 | .un .sn _,_=>trivial
 | .un .an _,_=>trivial
 | .bi .and _ _,_=>trivial
 | .bi .or _ _,_=>trivial
end KC
namespace KC
open PySem PySem.Spec L2 T PySem.SeqAt
open PyProof.Rows hiding St
noncomputable def sS (ch:List (Option Nat)):List Nat->Prop
 | a::b::r=>aY ch a=some b/\sS ch (b::r)
 | _=>True
theorem IG {ch:List (Option Nat)} {z t:Nat} (ht:aY ch z=some t):∀{p:List Nat},sS ch p->p.getLast?=some z->sS ch (p++[t])
 | [],_,h=>by simp at h
 | [a],_,h=>by
  simp at h
  subst h;exact ⟨ht,trivial⟩
 | a::b::r,h,e=>⟨h.1,IG ht h.2 (by simpa using e)⟩
structure Lasso (n:Nat) (ch:List (Option Nat)) (r:Nat) (F R:List Nat):Prop where
 ne:R≠[]
 lt:∀x∈F++R,x<n
 nd:(F++R).Nodup
 hd:(F++R).head?=some r
 fc:sS ch (F++R++R.take 1)
noncomputable abbrev GA (ch:List (Option Nat)) (r:Nat) (b:List Nat×Option Nat):Ev:=[some ⟨.leaf,dm ch⟩,some ⟨.leaf,rm r⟩,some ⟨.lst .leaf,aF b.1⟩,some ⟨.leaf,oD b.2⟩,none]
structure AI (n:Nat) (ch:List (Option Nat)) (r:Nat) (b:List Nat×Option Nat):Prop where
 nd:b.1.Nodup
 lt:∀x∈b.1,x<n
 hl:∀t,b.2=some t->t<n
 fc:sS ch b.1
 st:(b.1=[]/\b.2=some r)\/(b.1.head?=some r/\∃z,b.1.getLast?=some z/\b.2=aY ch z)
theorem mr {t:Nat}:∀{p:List Nat} {j:Nat},sQ (t:Int) (p.map fun x:Nat=>(x:Int))=some j->j<p.length/\p.getD j 0=t
 | [],j,h=>by simp [sQ] at h
 | a::r,j,h=>by
  unfold sQ at h;simp only [map_cons] at h
  by_cases e:(a:Int)=(t:Int)
  ·rw [if_pos e] at h
   cases h;exact ⟨by simp,by simp;omega⟩
  ·rw [if_neg e] at h
   cases hr:sQ (t:Int) (r.map fun x:Nat=>(x:Int)) with
   | none=>rw [hr] at h;cases h
   | some j'=>
    rw [hr] at h
    cases h;obtain ⟨h1,h2⟩:=mr hr;exact ⟨by simp;omega,by simpa using h2⟩
theorem pX {t:Nat}:∀{p:List Nat},t∈p->∃j,sQ (t:Int) (p.map fun x:Nat=>(x:Int))=some j
 | [],h=>by simp at h
 | a::r,h=>by
  unfold sQ;simp only [map_cons]
  by_cases e:(a:Int)=(t:Int)
  ·exact ⟨0,by rw [if_pos e]⟩
  ·rw [if_neg e]
   obtain ⟨j,hj⟩:=pX (p:=r) (by
    rcases List.mem_cons.mp h with z | z
    ·exact absurd (by rw [z]) e
    ·exact z)
   exact ⟨j+1,by rw [hj];rfl⟩
theorem vf {p:List Nat}:wJ (p.map rm)=some (p.map fun x:Nat=>(x:Int)):=by
 have:=oi (p.map fun x:Nat=>(x:Int))
 rw [map_map] at this;exact this
noncomputable abbrev tv:FB:=dU (aN ax (az (cJ true) (af 3) (eK .none))) (aN ax (az (bE true) (af 3) (af 2)))
noncomputable abbrev AB:FS:=av (eN 2 (af 3)) (aA false 3 (ai (af 0) (af 3)))
theorem oC {n:Nat} (hn:n<=24) {ch:List (Option Nat)} (hl:ch.length=n) (hc:∀r,r<n->∃t,aY ch r=some t/\t<n) {r:Nat} (hr:r<n):∃F R,eD [dm ch,rm r]=.ok ⟨.tup [.lst .leaf,.lst .leaf],wy F R⟩/\Lasso n ch r F R:=by
 obtain ⟨b',e1,I,ht⟩:=El (β:=List Nat×Option Nat) (c:=tv) (g:=AB) (G:=GA ch r) (test:=fun b=>match b.2 with | some t=>!b.1.contains t | none=>false) (Inv:=AI n ch r) (meas:=fun b=>n-b.1.length)
  (fun b I=>by
   obtain ⟨met,here⟩:=b
   cases here with
   | none=>
    have e:aN ax (az (cJ true) (af 3) (eK .none)) (GA ch r (met,none))=.ok false (GA ch r (met,none)):=dY (s:=.leaf) (aE (aw rfl) aL rfl)
    unfold tv dU;rw [e];rfl
   | some t=>exact zT (a:=true) (dY (s:=.leaf) (aE (aw rfl) aL rfl)) (dY (s:=.leaf) (aE (aw (d:=rm t) rfl) (dD rfl) Hj)))
  (fun b I h=>by
   obtain ⟨met,here⟩:=b
   cases here with
   | none=>cases h
   | some t=>
    simp only [Bool.not_eq_true',Bool.eq_false_iff,ne_eq,contains_iff_mem] at h
    have htn:=I.hl t rfl
    have hml:=Ab I.nd I.lt
    have hml':=Ab (pU I.nd h) (n:=n) fun x hx=>by
     rcases List.mem_append.mp hx with z | z
     ·exact I.lt x z
     ·rw [List.mem_singleton.mp z];exact htn
    simp only [length_append,length_singleton] at hml hml'
    obtain ⟨u,hu,hun⟩:=hc t htn;have ap:=Dy (i:=2) (s:=.leaf) (ds:=met.map rm) (fa:=af 3) (p:=⟨.leaf,rm t⟩) (Γ:=GA ch r (met,some t)) rfl (aw rfl) rfl (by simp;omega)
    have a1:(ch.map oD)[t]?=some (oD (aY ch t)):=by
     rw [getElem?_map,getElem?_eq_getElem (by omega),aY,getD_eq_getElem?_getD,getElem?_eq_getElem (by omega)]
     rfl
    refine ⟨(met++[t],aY ch t),aq (Γ1:=GA ch r (met++[t],some t)) (ap.trans ?_) (cb (dJ (j:=t) (aw rfl) (aw (d:=rm t) rfl) (sW (by rw [length_map];omega)) a1 rfl) (by cases aY ch t<;>rfl) (by simp)),⟨pU I.nd h,fun x hx=>?_,fun v hv=>?_,?_,.inr ⟨?_,t,by simp,rfl⟩⟩,?_⟩
    ·simp [aF]
    ·rcases List.mem_append.mp hx with z | z
     ·exact I.lt x z
     ·rw [List.mem_singleton.mp z];exact htn
    ·rw [hu] at hv
     cases hv;exact hun
    ·rcases I.st with ⟨e,_⟩ | ⟨_,z,hz,ez⟩
     ·simp only at e
      rw [e];trivial
     ·exact IG ez.symm I.fc hz
    ·rcases I.st with ⟨e,e2⟩ | ⟨hh,_⟩
     ·simp only at e e2
      rw [e];simpa using e2
     ·simp only at hh ⊢
      cases met with
      | nil=>simp at hh
      | cons a s=>simpa using hh
    ·simp only [length_append,length_singleton]
     omega) 100 ([],some r) ⟨by simp,by simp,fun t e=>by cases e;exact hr,trivial,.inl ⟨rfl,rfl⟩⟩ (by simp;omega)
 obtain ⟨met,here⟩:=b'
 obtain ⟨t,eh,htm,hh,z,hz,ez⟩:∃t,here=some t/\t∈met/\met.head?=some r/\∃z,met.getLast?=some z/\here=aY ch z:=by
  rcases I.st with ⟨e,e2⟩ | ⟨hh,z,hz,ez⟩
  ·simp only at e e2
   subst e e2;simp at ht
  ·simp only at hh hz ez
   obtain ⟨t,hu,_⟩:=hc z (I.lt z (List.mem_of_getLast? hz))
   rw [hu] at ez;subst ez;simp only [Bool.not_eq_false',contains_iff_mem] at ht
   exact ⟨t,rfl,ht,hh,z,hz,hu.symm⟩
 subst eh;obtain ⟨j,hj⟩:=pX htm;obtain ⟨hjl,hjt⟩:=mr hj;have mlen:=Ab I.nd I.lt
 simp only at mlen
 have hz0:aA true 2 (aB .leaf ag) (aQ 5 [dm ch,rm r])=.nx [some ⟨.leaf,dm ch⟩,some ⟨.leaf,rm r⟩,some ⟨.lst .leaf,aF []⟩,none,none]:=zd (dz ah rfl rfl rfl) rfl (by simp [aQ])
 have tk:met.take j++met.drop j=met:=List.take_append_drop _ _
 have hd1:(met.drop j).take 1=[t]:=by
  rw [drop_eq_getElem_cons hjl];rw [getD_eq_getElem?_getD,getElem?_eq_getElem hjl] at hjt;exact congrArg (fun x=>[x]) hjt
 refine ⟨met.take j,met.drop j,?_,⟨?_,?_,?_,?_,?_⟩⟩
 ·refine aS ?_
  refine aq hz0 ?_
  refine aq (Γ1:=GA ch r ([],some r)) (cb (aw rfl) rfl (by simp)) ?_
  refine aq (Γ1:=GA ch r (met,some t)) ?_ ?_
  ·unfold sI
   exact e1
  refine aq (aV (t:=false) (dY (s:=.leaf) (aE (aw rfl) aL rfl)) nofun fun _=>rfl) ?_
  refine zo (p:=⟨.lst .leaf,aF met⟩) rfl ?_
  have ix:ox 2 (af 3) [some ⟨.leaf,dm ch⟩,some ⟨.leaf,rm r⟩,some ⟨.leaf,aF met⟩,some ⟨.leaf,rm t⟩,none]=.ok ⟨.leaf,.int (j:Int)⟩ [some ⟨.leaf,dm ch⟩,some ⟨.leaf,rm r⟩,some ⟨.leaf,aF met⟩,some ⟨.leaf,rm t⟩,none]:=by
   unfold ox;simp only [getElem?_cons_succ,List.getElem?_cons_zero,mv,if_true]
   rw [aw (d:=rm t) rfl];simp only [Out.bind,yf,getElem?_cons_succ,List.getElem?_cons_zero]
   rw [vf];simp only
   rw [hj]
  refine aq (Γ1:=[some ⟨.leaf,dm ch⟩,some ⟨.leaf,rm r⟩,some ⟨.leaf,aF met⟩,some ⟨.leaf,rm t⟩,some ⟨.leaf,.int (j:Int)⟩]) (cb ix rfl (by simp)) ?_
  have q1:=dg (g:=fun k=>(none,some k)) (Γ:=[some ⟨.leaf,dm ch⟩,some ⟨.leaf,rm r⟩,some ⟨.leaf,aF met⟩,some ⟨.leaf,rm t⟩,some ⟨.leaf,.int (j:Int)⟩]) (fa:=af 2) (fb:=af 4) (k:=(j:Int)) (aw rfl) (aw rfl) sH
  have q2:=dg (g:=fun k=>(some k,none)) (Γ:=[some ⟨.leaf,dm ch⟩,some ⟨.leaf,rm r⟩,some ⟨.leaf,aF met⟩,some ⟨.leaf,rm t⟩,some ⟨.leaf,.int (j:Int)⟩]) (fa:=af 2) (fb:=af 4) (k:=(j:Int)) (aw rfl) (aw rfl) sH
  simp only at q1 q2
  rw [o9] at q1;rw [pe] at q2;exact aW (bG (ay q1 (ay q2 ah)) rfl rfl) rfl
 ·intro e
  rw [e] at hd1;simp at hd1
 ·rw [tk];exact I.lt
 ·rw [tk];exact I.nd
 ·rw [tk];exact hh
 ·rw [tk,hd1]
  exact IG ez.symm I.fc hz
end KC
namespace KQ
open PySem PySem.Spec L2 T
open PyProof.Rows hiding St
open KC
noncomputable def oG:FS:=(aI (d9 (az bL (az bV (bw aT (ae (af 0) ag)) (af 1)) (eK (.int 0))) (az bL (bI (fun k=>(some k,none)) (af 0) (af 1)) (bI (fun k=>(none,some k)) (af 0) (eU bC (af 1))))))
noncomputable def dN:List PySem.PyData->Res:=aD 2 oG
noncomputable def kL:FS:=(aI (bI (fun k=>(none,some k)) (af 0) (ai (aC .leaf 1 (rK (ae (eK (.int 1)) (ae (az aO (bw aT (ae (af 0) ag)) (eK (.int 1))) ag))) (aN bf (ak 2 dN (ae (af 0) (ae (af 1) ag)))) (af 1)) (eK (.int 0)))))
noncomputable def cN:List PySem.PyData->Res:=aD 2 kL
noncomputable def yH:FS:=(av (bA (ak 1 dt (ae (af 0) ag)))
  (av (bA (ak 2 gL (ae (af 0) (ae (af 1) ag))))
  (av (aA true 2 (kX (ai (af 1) (eK (.int 0)))))
  (av (aA true 3 (ak 1 cN (ae (ai (af 1) (eK (.int 1))) ag)))
  (av (sI 1000 (dU (aN bf (af 2)) (aN ax (az bL (ai (af 2) (eU bC (eK (.int 1)))) (ai (af 3) (eU bC (eK (.int 1)))))))
  (fP true 2 3 (bI (fun k=>(none,some k)) (af 3) (eU bC (eK (.int 1))))))
  (aI (bo (ae (bT 2) (ae (bT 3) ag)))))))))
noncomputable def ia:List PySem.PyData->Res:=aD 4 yH
noncomputable def d__law_twin:FS:=(aI (bo (ae (kX (ai (af 0) (eK (.int 0)))) (ae (aC .leaf 1 (bt (ai (af 0) (eK (.int 1)))) aR (kX (af 1))) (ae (aC .leaf 1 (bt (ai (af 0) (eK (.int 2)))) aR (kX (af 1))) ag)))))
noncomputable def m__law_twin:List PySem.PyData->Res:=aD 2 d__law_twin
noncomputable def kM:FS:=(aI (d9 (jn "int" (af 0)) (vC (jn "bool" (af 0)))))
noncomputable def kz:List PySem.PyData->Res:=aD 1 kM
noncomputable def jx:FS:=(av (bF (hJ (b9 (aN bf (jn "tuple" (af 1)))) (hJ (aN ax (az jm (bw aT (ae (af 1) ag)) (eK (.int 2)))) (b9 (aN bf (jn "list" (ai (af 1) (eK (.int 0)))))))) (aI (eK (.bool false))) aG)
  (av (bF (hJ (b9 (aN bf (jn "list" (ai (af 1) (eK (.int 1)))))) (aN ax (az bL (bw aT (ae (ai (af 1) (eK (.int 1))) ag)) (eK (.int 0))))) (aI (eK (.bool false))) aG)
  (av (aA false 2 (bJ (ai (af 1) (eK (.int 0))) (ai (af 1) (eK (.int 1)))))
  (av (bF (b9 (aN bf (bw (cD false) (ae (aC .leaf 5 (bt (af 2)) aR (d9 (ak 1 kz (ae (af 5) ag)) (m9 sR eR (eK (.int 0)) (af 5) (bw aT (ae (ai (af 0) (eK (.int 0))) ag))))) ag)))) (aI (eK (.bool false))) aG)
  (av (aA false 3 (bJ (bI (fun k=>(some k,none)) (af 2) (eK (.int 1))) (aB .leaf (ae (ai (ai (af 1) (eK (.int 1))) (eK (.int 0))) ag))))
  (aI (bw (cD false) (ae (aC .leaf 4 (eJ (ae (bw aT (ae (af 2) ag)) ag)) aR (az (bE false) (ai (af 3) (af 4)) (ai (ai (af 0) (eK (.int 2))) (ai (af 2) (af 4))))) ag))))))))
noncomputable def jk:List PySem.PyData->Res:=aD 6 jx
noncomputable def kN:FS:=(av (bF (aN ax (az eR (af 1) (bw aT (ae (ai (af 0) (eK (.int 0))) ag)))) (aI (ai (ai (af 0) (eK (.int 0))) (af 1))) aG)
  (aI (ai (ai (af 0) (eK (.int 1))) (az bV (az gSub (af 1) (bw aT (ae (ai (af 0) (eK (.int 0))) ag))) (bw aT (ae (ai (af 0) (eK (.int 1))) ag))))))
noncomputable def cO:List PySem.PyData->Res:=aD 2 kN
noncomputable def g9:FS:=(av (gD [2,3] (af 0))
  (av (bF (dU (aN ax (az rO (bw aT (ae (af 2) ag)) (eK (.int 0)))) (aN ax (az bL (ai (af 2) (eU bC (eK (.int 1)))) (ai (af 3) (eU bC (eK (.int 1))))))) (aI (eK (.bool false))) aG)
  (av (d8 1 (rK (ae (eK (.int 1)) (ae (bw aT (ae (af 3) ag)) ag)))
  (bF (dU (aN ax (az bL (az bV (bw aT (ae (af 3) ag)) (af 1)) (eK (.int 0)))) (aN ax (az bL (af 3) (Kk (bI (fun k=>(none,some k)) (af 3) (af 1)) (az oq (bw aT (ae (af 3) ag)) (af 1)))))) (aI (eK (.bool false))) aG))
  (aI (eK (.bool true))))))
noncomputable def gW:List PySem.PyData->Res:=aD 4 g9
noncomputable def d_law:FS:=(av (aA false 1 (ak 3 m__law_world (ae (af 0) (ae (eK (.int 0)) (ae (eK (.int 6)) ag)))))
  (av (aA false 2 (ak 2 aM (ae (af 0) (ae (eK (.int 8)) ag))))
  (av (aA false 3 (ak 4 cT (ae (af 1) (ae (ak 2 aM (ae (af 0) (ae (eK (.int 7)) ag))) (ae (ak 3 aj (ae (af 2) (ae (eK (.int 0)) (ae (bw aT (ae (ai (af 1) (eK (.int 0))) ag)) ag)))) (ae (ak 3 aj (ae (af 2) (ae (eK (.int 1)) (ae (eK (.int 9)) ag)))) ag))))))
  (av (aA false 4 (ak 3 aj (ae (af 2) (ae (eK (.int 2)) (ae (eK (.int 7)) ag)))))
  (av (aA false 5 (az aO (bw aT (ae (ai (af 3) (eK (.int 0))) ag)) (af 4)))
  (av (aA false 6 (az kE (bw aT (ae (ai (af 3) (eK (.int 1))) ag)) (az aO (eK (.int 1)) (ak 3 aj (ae (af 2) (ae (eK (.int 3)) (ae (eK (.int 3)) ag)))))))
  (av (aA false 7 (bo (ae (aC .leaf 11 (eJ (ae (af 5) ag)) aR (ak 2 cO (ae (af 3) (ae (af 11) ag)))) (ae (aC .leaf 11 (eJ (ae (af 6) ag)) aR (ak 2 cO (ae (af 3) (ae (az aO (af 5) (af 11)) ag)))) ag))))
  (av (aA false 8 (aB .leaf (ae (ak 1 m__law_twin (ae (af 1) ag)) (ae (bo (ae (kX (ai (af 3) (eK (.int 0)))) (ae (kX (ai (af 3) (eK (.int 1)))) ag))) ag))))
  (av (aA true 9 (ak 2 ia (ae (ai (af 8) (eK (.int 0))) (ae (ai (af 8) (eK (.int 1))) ag))))
  (av (bF (hJ (b9 (aN bf (ak 2 jk (ae (af 1) (ae (af 9) ag))))) (hJ (b9 (aN bf (ak 1 gW (ae (af 9) ag)))) (aN ax (az jm (af 8) (aB .leaf (ae (af 1) (ae (af 3) ag))))))) (aI (eK (.bool false))) aG)
  (av (bF (b9 (aN bf (bw (cD false) (ae (aC .leaf 11 (eJ (ae (eK (.int 60)) ag)) aR (az bL (ak 2 cO (ae (af 9) (ae (af 11) ag))) (ak 2 cO (ae (af 3) (ae (af 11) ag))))) ag)))) (aI (eK (.bool false))) aG)
  (av (aA false 10 (bo (ae (kX (ai (af 9) (eK (.int 0)))) (ae (kX (ai (af 9) (eK (.int 1)))) ag))))
  (av (zz 9 0 (eK (.int 0)))
  (av (zz 9 1 (eK (.int 0)))
  (aI (d9 (az bL (ak 2 ia (ae (ai (af 8) (eK (.int 0))) (ae (ai (af 8) (eK (.int 1))) ag))) (af 10)) (d9 (az bL (ak 2 ia (ae (af 1) (ae (af 7) ag))) (af 10)) (az bL (af 8) (aB .leaf (ae (af 1) (ae (af 3) ag)))))))))))))))))))))
noncomputable def m_law:List PySem.PyData->Res:=aD 12 d_law
end KQ
namespace KC
noncomputable def kr (F R:List Nat) (k:Nat):Nat:=if k<F.length then F.getD k 0 else R.getD ((k-F.length) % R.length) 0
structure Gm (F R:List Nat):Prop where
 ne:R≠[]
 pr:∀s,1<=s->s<R.length->R.length % s=0->¬∀i,i+s<R.length->R.getD (i+s) 0=R.getD i 0
 la:F≠[]->F.getD (F.length-1) 0≠R.getD (R.length-1) 0
noncomputable def yX (R:List Nat) (s:Nat):Prop:=∀i,i+s<R.length->R.getD (i+s) 0=R.getD i 0
structure DN (R:List Nat):Prop where
 ne:R≠[]
 pr:∀s,1<=s->s<R.length->R.length % s=0->¬yX R s
theorem Im {R:List Nat} {s:Nat} (hs:0<s) (h:yX R s):∀i,i<R.length->R.getD i 0=R.getD (i % s) 0:=by
 intro i;induction i using Nat.strongRecOn with
 | ind i ih=>
  intro hi;by_cases c:i<s
  ·rw [Nat.mod_eq_of_lt c]
  ·have a:=h (i-s) (by omega)
   rw [show i-s+s=i by omega] at a
   rw [a,ih (i-s) (by omega) (by omega),<-Nat.mod_eq_sub_mod (by omega)]
theorem Io {F R:List Nat} {s k:Nat} (hs:0<s) (hR:0<R.length) (hd:R.length % s=0) (h:yX R s) (hk:F.length<=k):kr F R k=R.getD ((k-F.length) % s) 0:=by
 unfold kr;rw [if_neg (by omega),Im hs h _ (Nat.mod_lt _ hR),Nat.mod_mod_of_dvd _ (Nat.dvd_of_mod_eq_zero hd)]
theorem tV {F R:List Nat} {s:Nat} (hs:0<s) (hR:0<R.length) (hd:R.length % s=0) (h:yX R s):∀k,F.length<=k->kr F R (k+s)=kr F R k:=fun k hk=>by
 rw [Io hs hR hd h (by omega),Io hs hR hd h hk,show k+s-F.length=k-F.length+s by omega,Nat.add_mod_right]
theorem xR {F R:List Nat} (h:DN R) {m g:Nat} (hg:0<g) (hd:R.length % g=0) (hp:∀k,m<=k->kr F R (k+g)=kr F R k):g=R.length:=by
 have hR:0<R.length:=List.length_pos_iff.mpr h.ne
 have hle:g<=R.length:=Nat.le_of_dvd hR (Nat.dvd_of_mod_eq_zero hd)
 by_cases c:g<R.length
 ·exfalso
  refine h.pr g hg c hd fun i hi=>?_
  have key:=hp (F.length+i+m*R.length) (by
   have:m<=m*R.length:=Nat.le_mul_of_pos_right m hR
   omega)
  have pl:∀j,j<R.length->kr F R (F.length+j+m*R.length)=R.getD j 0:=fun j hj=>by
   unfold kr;rw [if_neg (by omega),show F.length+j+m*R.length-F.length=j+m*R.length by omega,Nat.add_mul_mod_self_right,Nat.mod_eq_of_lt hj]
  rw [show F.length+i+m*R.length+g=F.length+(i+g)+m*R.length by omega,pl _ hi,pl i (by omega)] at key
  exact key
 ·omega
theorem Ja {R:List Nat} {s i:Nat} (h:i<s):(R.take s).getD i 0=R.getD i 0:=by
 rw [getD_eq_getElem?_getD,getD_eq_getElem?_getD,getElem?_take,if_pos h]
theorem J0 {F R:List Nat} {s:Nat} (hs:1<=s) (hR:R≠[]) (hd:R.length % s=0) (h:yX R s) (least:∀t,1<=t->t<s->R.length % t=0->¬yX R t):DN (R.take s)/\∀k,kr F (R.take s) k=kr F R k:=by
 have hl:0<R.length:=List.length_pos_iff.mpr hR
 have hle:s<=R.length:=Nat.le_of_dvd hl (Nat.dvd_of_mod_eq_zero hd)
 have lt:(R.take s).length=s:=by rw [length_take];omega
 refine ⟨⟨fun z=>by rw [z] at lt;simp at lt;omega,fun t h1 h2 h3 h4=>?_⟩,fun k=>?_⟩
 ·rw [lt] at h2 h3
  have dv:R.length % t=0:=Nat.mod_eq_zero_of_dvd (Nat.dvd_trans (Nat.dvd_of_mod_eq_zero h3) (Nat.dvd_of_mod_eq_zero hd))
  refine least t h1 h2 dv fun i hi=>?_
  have key:∀j,j<R.length->R.getD j 0=R.getD (j % t) 0:=fun j hj=>by
   have a:=Im (by omega) h j hj
   have b:=Im (R:=R.take s) (by omega) h4 (j % s) (by rw [lt];exact Nat.mod_lt _ (by omega))
   rw [Ja (Nat.mod_lt _ (by omega)),Nat.mod_mod_of_dvd _ (Nat.dvd_of_mod_eq_zero h3),Ja (Nat.lt_trans (Nat.mod_lt _ (by omega)) h2)] at b
   rw [a,b]
  rw [key (i+t) hi,key i (by omega),Nat.add_mod_right]
 ·by_cases c:k<F.length
  ·unfold kr
   rw [if_pos c,if_pos c]
  ·rw [Io (by omega) hl hd h (by omega)]
   unfold kr;rw [if_neg c,lt,Ja (Nat.mod_lt _ (by omega))]
theorem turned {F R:List Nat} {x:Nat}:∀k,kr F (x::R) k=kr (F++[x]) (R++[x]) k:=fun k=>by
 unfold kr;rw [length_append,length_append,length_singleton,length_cons];by_cases c:k<F.length
 ·rw [if_pos c,if_pos (by omega),getD_eq_getElem?_getD,getD_eq_getElem?_getD,getElem?_append_left c]
 ·rw [if_neg c]
  by_cases d:k=F.length
  ·subst d
   rw [if_pos (by omega),Nat.sub_self,Nat.zero_mod,getD_eq_getElem?_getD,getD_eq_getElem?_getD,getElem?_append_right (by omega)]
   simp
  ·rw [if_neg (by omega)]
   have e:(k-F.length) % (R.length+1)=if (k-(F.length+1)) % (R.length+1)=R.length then 0 else (k-(F.length+1)) % (R.length+1)+1:=by
    rw [show k-F.length=k-(F.length+1)+1 by omega,Nat.add_mod]
    have:=Nat.mod_lt (k-(F.length+1)) (show 0<R.length+1 by omega)
    by_cases q:(k-(F.length+1)) % (R.length+1)=R.length
    ·rw [if_pos q,q]
     by_cases z:R.length=0
     ·rw [z]
     ·rw [Nat.mod_eq_of_lt (show 1<R.length+1 by omega),Nat.mod_self]
    ·rw [if_neg q,Nat.mod_eq_of_lt (show 1<R.length+1 by omega),Nat.mod_eq_of_lt (by omega)]
   have hlt:=Nat.mod_lt (k-(F.length+1)) (show 0<R.length+1 by omega)
   rw [e];by_cases q:(k-(F.length+1)) % (R.length+1)=R.length
   ·rw [if_pos q,q,getD_eq_getElem?_getD,getD_eq_getElem?_getD,getElem?_append_right (Nat.le_refl _),Nat.sub_self]
    rfl
   ·rw [if_neg q,getD_eq_getElem?_getD,getD_eq_getElem?_getD,getElem?_cons_succ,getElem?_append_left (by omega)]
theorem nt {F R:List Nat} {x:Nat} (h:DN (R++[x])):DN (x::R):=by
 refine ⟨by simp,fun s h1 h2 h3 h4=>?_⟩
 simp only [length_cons] at h2 h3
 have t:=tV (F:=F) (by omega) (by simp) (by simpa using h3) h4
 have:=xR (F:=F++[x]) h (m:=F.length) (g:=s) (by omega) (by simpa using h3) fun k hk=>by
  rw [<-turned,<-turned];exact t k hk
 simp at this
 omega
theorem xk {F R:List Nat} (h:DN R) (hl:F≠[]->F.getD (F.length-1) 0≠R.getD (R.length-1) 0):Gm F R:=⟨h.ne,h.pr,hl⟩
open PySem PySem.Spec L2 T PySem.SeqAt
open PyProof.Rows hiding St
end KC
namespace KQ
open PySem PySem.Spec L2 T PySem.SeqAt KC
open PyProof.Rows hiding St
theorem qh:∀a b:List Nat,PyData.eqvAll (a.map rm) (b.map rm)=(a==b)
 | [],[]=>by simp [PyData.eqvAll]
 | [],y::b=>by simp [PyData.eqvAll]
 | x::a,[]=>by simp [PyData.eqvAll]
 | x::a,y::b=>by
  rw [map_cons,map_cons,PyData.eqvAll,qh a b,PyData.eqv];have:((x:Int)==(y:Int))=(x==y):=by
   rw [Bool.eq_iff_iff];simp only [beq_iff_eq]
   omega
  rw [this];rfl
theorem yv {a b:List Nat}:bL (aF a) (aF b)=some (.bool (a==b)):=by
 show (if shaped (aF a)&&shaped (aF b) then some (PyData.bool (PyData.eqv (.list (a.map rm)) (.list (b.map rm)))) else none)=_
 rw [pf,pf,Bool.and_self,if_pos rfl,PyData.eqv,qh]
theorem AS {l:List Nat} {k:Nat} (h:1<=k):T.cutD (l.map rm) none (some (-(k:Int)))=(l.take (l.length-k)).map rm:=by
 unfold T.cutD;rw [HT.sIx_none,drop_zero,Nat.sub_zero,map_take,length_map,IS h]
noncomputable def kn (R:List Nat) (s:Nat):Bool:=decide (R.length % s=0)&&(R.drop s==R.take (R.length-s))
theorem Iw {R:List Nat} {s:Nat} (hs:s<=R.length):kn R s=true↔R.length % s=0/\yX R s:=by
 unfold kn;rw [Bool.and_eq_true,decide_eq_true_eq,beq_iff_eq];refine and_congr_right fun _=>⟨fun h i hi=>?_,fun h=>List.ext_getElem (by simp) fun i h1 h2=>?_⟩
 ·have:=congrArg (fun l:List Nat=>l.getD i 0) h
  simp only [getD_eq_getElem?_getD,List.getElem?_drop,getElem?_take] at this
  rw [if_pos (by omega),Nat.add_comm s i] at this
  rw [getD_eq_getElem?_getD,getD_eq_getElem?_getD];exact this
 ·simp only [length_drop] at h1
  have:=h i (by omega)
  rw [getD_eq_getElem?_getD,getD_eq_getElem?_getD,getElem?_eq_getElem (by omega),getElem?_eq_getElem (by omega)] at this
  simp only [List.getElem_drop,List.getElem_take]
  simp only [Option.getD_some] at this
  rw [<-this];congr 1
  omega
theorem r6 {R:List Nat} {s:Nat} (h1:1<=s):dN [aF R,.int (s:Int)]=.ok ⟨.leaf,.bool (kn R s)⟩:=by
 have a:=aE (Γ:=aQ 2 [aF R,.int (s:Int)]) (g:=bV) (fb:=af 1) (bQ (g:=aT) (fl:=ae (af 0) ag) (d:=.int (R.length:Int)) (ay (aw rfl) ah) (by simp)) (aw rfl) (bX (a:=(R.length:Int)) (b:=(s:Int)) (by omega))
 have b:=dg (Γ:=aQ 2 [aF R,.int (s:Int)]) (g:=fun k=>(some k,none)) (fa:=af 0) (fb:=af 1) (xs:=R.map rm) (k:=(s:Int)) (s:=.leaf) (s':=.leaf) (aw rfl) (aw rfl) sH
 have c:=dg (Γ:=aQ 2 [aF R,.int (s:Int)]) (g:=fun k=>(none,some k)) (fa:=af 0) (fb:=eU bC (af 1)) (xs:=R.map rm) (k:=-(s:Int)) (s:=.leaf) (s':=.leaf) (aw rfl) (AE (aw rfl) rfl) sH
 simp only at b c
 rw [pe] at b;rw [AS h1] at c;have e:decide (R.length % s=0)=((R.length:Int) % (s:Int)==0):=by
  rw [Bool.eq_iff_iff];simp only [decide_eq_true_eq,beq_iff_eq]
  omega
 unfold kn;rw [e];exact aS (aW (v_and (s:=.leaf) (aE a aL KC.eq_int) (aE b c yv)) rfl)
theorem Gp {n:Nat} {fl:FL} {Γ:Ev} {ps:List PV} (hn:n<=1000) (h:fl Γ=.ok ps Γ) (hp:ps.map (·.d)=[.int 1,.int ((n:Int)+1)]):rK fl Γ=.ok ⟨(List.range n).map (fun i=>rm (i+1)),true⟩ Γ:=by
 rw [xg (k:=1) (m:=(n:Int)+1) h hp (by omega) (by omega) (by omega) (by omega)]
 have:((n:Int)+1-1).toNat=n:=by omega
 rw [this];unfold b4;congr 2
 refine List.map_congr_left fun i _=>?_
 show PyData.int (1+(i:Int))=PyData.int ((i+1:Nat):Int)
 rw [Int.add_comm];rfl
theorem oj {n:Nat} {p:Nat->Bool} {i:Nat} {r:List Nat} (h:(List.range n).filter p=i::r):i<n/\p i=true/\∀j,j<i->p j=false:=by
 have m:i∈(List.range n).filter p:=by rw [h];simp
 obtain ⟨m1,m2⟩:=List.mem_filter.mp m;have m1:=List.mem_range.mp m1
 refine ⟨m1,m2,fun j hj=>?_⟩
 cases q:p j with
 | false=>rfl
 | true=>
  exfalso
  have mj:j∈(List.range n).filter p:=List.mem_filter.mpr ⟨List.mem_range.mpr (by omega),q⟩
  have so:((List.range n).filter p).Pairwise (· < ·):=List.Pairwise.filter _ List.pairwise_lt_range
  rw [h] at mj so
  rcases List.mem_cons.mp mj with z | z
  ·omega
  ·have:=(List.pairwise_cons.mp so).1 j z
   omega
theorem vI {R:List Nat} (hR:R≠[]) (hl:R.length<=900):∃s,1<=s/\s<=R.length/\cN [aF R]=.ok ⟨.lst .leaf,aF (R.take s)⟩/\R.length % s=0/\yX R s/\∀t,1<=t->t<s->R.length % t=0->¬yX R t:=by
 have hp:0<R.length:=List.length_pos_iff.mpr hR
 have c:aC .leaf 1 (rK (ae (eK (.int 1)) (ae (az aO (bw aT (ae (af 0) ag)) (eK (.int 1))) ag))) (aN bf (ak 2 dN (ae (af 0) (ae (af 1) ag)))) (af 1) (aQ 2 [aF R])=.ok ⟨.lst .leaf,.list (((List.range R.length).filter fun i=>kn R (i+1)).map fun i=>rm (i+1))⟩ (aQ 2 [aF R]):=
  wA (fun i=>rm (i+1)) (List.range R.length) (fun i=>kn R (i+1)) (fun i=>⟨.leaf,rm (i+1)⟩) (st:=true) (Gp (n:=R.length) (by omega) (ay aL (ay (aE (bQ (g:=aT) (d:=.int (R.length:Int)) (ay (aw rfl) ah) (by simp)) aL KC.add_int') ah)) rfl) (by simp [aQ]) rfl (by simp;omega) (fun i hi=>cK (s:=.leaf) (cn (ay (aw rfl) (ay (aw rfl) ah)) (r6 (by omega)) rfl rfl)) (fun i hi _=>⟨aw rfl,rfl⟩)
 have full:kn R (R.length-1+1)=true:=(Iw (by omega)).mpr ⟨by rw [show R.length-1+1=R.length by omega,Nat.mod_self],fun i hi=>by omega⟩
 cases e:(List.range R.length).filter (fun i=>kn R (i+1)) with
 | nil=>
  have:R.length-1∈(List.range R.length).filter (fun i=>kn R (i+1)):=List.mem_filter.mpr ⟨List.mem_range.mpr (by omega),full⟩
  rw [e] at this;simp at this
 | cons i r=>
  rw [e] at c;obtain ⟨h1,h2,h3⟩:=oj e;obtain ⟨h4,h5⟩:=(Iw (by omega)).mp h2
  have ix:=dJ (j:=0) (d:=rm (i+1)) (fb:=eK (.int 0)) c aL (sW (k:=0) (by simp)) rfl rfl
  have sl:=dg (g:=fun k=>(none,some k)) (fa:=af 0) (s:=.leaf) (xs:=R.map rm) (Γ:=aQ 2 [aF R]) (aw rfl) ix sH
  simp only at sl
  rw [o9] at sl;refine ⟨i+1,by omega,by omega,aS (aW sl rfl),h4,h5,fun t t1 t2 t3 t4=>?_⟩
  have:=h3 (t-1) (by omega)
  rw [show t-1+1=t by omega,(Iw (by omega)).mpr ⟨t3,t4⟩] at this
  cases this
theorem Ay {Γ Γ2:Ev} {i j:Nat} {fb:F1} {s:Sh} {ds es:List D} {d:D} (h:Γ[i]?=some (some ⟨.lst .leaf,.list ds⟩)) (hd:ds[ds.length-1]?=some d) (hf:fb (Γ.set i (some ⟨.lst .leaf,.list ds.dropLast⟩))=.ok ⟨s,.list es⟩ Γ2) (ho:cR ⟨s,.list es⟩ es=true) (hl:es.length<=900) (hj:j<Γ2.length):fP true i j fb Γ=.nx (Γ2.set j (some ⟨.lst .leaf,.list ([d]++es)⟩)):=by
 have hb:1+es.length<=sizeLine:=Nat.le_trans (by omega:1+es.length<=1000) Dx
 unfold fP;rw [h];simp only [hd,hf]
 unfold uP;simp only [ho,decide_eq_true hb,decide_eq_true hj,Bool.and_self,if_true]
noncomputable abbrev GS (w:Wd) (F0 R0 F R:List Nat):Ev:=[some ⟨.leaf,w.enc⟩,some ⟨.leaf,wy F0 R0⟩,some ⟨.lst .leaf,aF F⟩,some ⟨.lst .leaf,aF R⟩]
noncomputable abbrev ud:FB:=dU (aN bf (af 2)) (aN ax (az bL (ai (af 2) (eU bC (eK (.int 1)))) (ai (af 3) (eU bC (eK (.int 1))))))
noncomputable abbrev AZ:FS:=fP true 2 3 (bI (fun k=>(none,some k)) (af 3) (eU bC (eK (.int 1))))
noncomputable def EU (b:List Nat×List Nat):Bool:=!b.1.isEmpty&&(b.1.getLast?==b.2.getLast?)
theorem rZ {w:Wd} (ok:w.Ok) {F0 R0:List Nat} (h:eL w F0 R0) (hl:F0.length+R0.length<=800):∃F R,ia [w.enc,wy F0 R0]=.ok ⟨.tup [.lst .leaf,.lst .leaf],wy F R⟩/\Gm F R/\(∀k,kr F R k=kr F0 R0 k)/\F.length+R.length<=800:=by
 obtain ⟨s,s1,s2,es,d1,d2,d3⟩:=vI h.ne (by omega)
 obtain ⟨pr,pk⟩:=J0 (F:=F0) s1 h.ne d1 d2 d3
 obtain ⟨b',e,I,ht⟩:=El (β:=List Nat×List Nat) (c:=ud) (g:=AZ) (G:=fun b=>GS w F0 R0 b.1 b.2) (test:=EU) (Inv:=fun b=>DN b.2/\(∀k,kr b.1 b.2 k=kr F0 R0 k)/\b.1.length+b.2.length<=800) (meas:=fun b=>b.1.length)
  (fun b I=>by
   obtain ⟨F,R⟩:=b;simp only at I
   cases hF:F.getLast? with
   | none=>
    have:F=[]:=List.getLast?_eq_none_iff.mp hF
    subst this;have t:aN bf (af 2) (GS w F0 R0 [] R)=.ok false (GS w F0 R0 [] R):=by simp
    unfold ud dU;rw [t];rfl
   | some x=>
    obtain ⟨y,hy⟩:∃y,R.getLast?=some y:=by
     cases q:R.getLast? with
     | none=>exact absurd (List.getLast?_eq_none_iff.mp q) I.1.ne
     | some y=>exact ⟨y,rfl⟩
    have hne:F≠[]:=fun z=>by rw [z] at hF;cases hF
    have t:aN bf (af 2) (GS w F0 R0 F R)=.ok true (GS w F0 R0 F R):=by
     cases F with
     | nil=>exact absurd rfl hne
     | cons a r=>simp
    have e:EU (F,R)=(true&&((x:Int)==(y:Int))):=by
     unfold EU;simp only [hF,hy]
     have:F.isEmpty=false:=by cases F with | nil=>exact absurd rfl hne | cons a r=>rfl
     rw [this,Bool.not_false,Bool.true_and,Bool.true_and,Bool.eq_iff_iff];simp only [beq_iff_eq,Option.some.injEq]
     omega
    rw [e];exact zT t (dY (s:=.leaf) (aE (Ea (dD rfl) Ae hF) (Ea (dD rfl) Ae hy) KC.eq_int)))
  (fun b I hb=>by
   obtain ⟨F,R⟩:=b;simp only at I
   unfold EU at hb;simp only [Bool.and_eq_true,Bool.not_eq_true',beq_iff_eq] at hb
   obtain ⟨x,hF⟩:∃x,F.getLast?=some x:=by
    cases q:F.getLast? with
    | none=>rw [List.getLast?_eq_none_iff.mp q] at hb;cases hb.1
    | some x=>exact ⟨x,rfl⟩
   have hy:=hb.2.symm.trans hF
   obtain ⟨F',rfl⟩:=List.getLast?_eq_some_iff.mp hF
   obtain ⟨R',rfl⟩:=List.getLast?_eq_some_iff.mp hy
   have lr:R'.length<=900:=by have:=I.2.2;simp at this;omega
   have st:=Ay (Γ:=GS w F0 R0 (F'++[x]) (R'++[x])) (i:=2) (j:=3) (fb:=bI (fun k=>(none,some k)) (af 3) (eU bC (eK (.int 1)))) (ds:=(F'++[x]).map rm) (d:=rm x) (s:=.lst .leaf) (es:=R'.map rm) (Γ2:=GS w F0 R0 F' (R'++[x])) rfl (by simp) (by
     have c:=dg (Γ:=GS w F0 R0 F' (R'++[x])) (g:=fun k=>(none,some k)) (fa:=af 3) (fb:=eU bC (eK (.int 1))) (dD rfl) Ae sH
     simp only at c
     rw [pb,List.dropLast_concat] at c;rw [<-c];simp) rfl (by simpa using lr) (by simp)
   refine ⟨(F',x::R'),st.trans (by simp),⟨nt (F:=F') I.1,fun k=>by rw [turned];exact I.2.1 k,by have:=I.2.2;simp at this ⊢;omega⟩,by simp⟩) 1000 (F0,R0.take s) ⟨pr,pk,by simp;omega⟩ (by simp;omega)
 obtain ⟨F,R⟩:=b'
 simp only at e I ht
 refine ⟨F,R,?_,xk I.1 fun hne z=>?_,I.2.1,I.2.2⟩
 ·refine aS (aq (gz (cn (ay (aw rfl) ah) ok.check rfl rfl)) (aq (gz (cn (ay (aw rfl) (ay (aw rfl) ah)) (fo ok h) rfl rfl)) ?_))
  refine aq (zd (tO (nc (j:=0) (aw rfl) aL rfl rfl rfl) rfl) rfl (by simp [aQ])) ?_
  refine aq (Γ1:=GS w F0 R0 F0 (R0.take s)) (zd (cn (ay (nc (j:=1) (aw rfl) aL rfl rfl rfl) ah) es rfl rfl) rfl (by simp [aQ])) ?_
  refine aq (Γ1:=GS w F0 R0 F R) ?_ (aW (bG (ay (DV (p:=⟨.lst .leaf,aF F⟩) rfl) (ay (DV (p:=⟨.lst .leaf,aF R⟩) rfl) ah)) rfl rfl) rfl)
  unfold sI;exact e
 ·unfold EU at ht
  have lF:F.getLast?=some (F.getD (F.length-1) 0):=by
   rw [List.getLast?_eq_getElem?,getD_eq_getElem?_getD,getElem?_eq_getElem (by have:=List.length_pos_iff.mpr hne;omega)]
   rfl
  have lR:R.getLast?=some (R.getD (R.length-1) 0):=by
   rw [List.getLast?_eq_getElem?,getD_eq_getElem?_getD,getElem?_eq_getElem (by have:=List.length_pos_iff.mpr I.1.ne;omega)]
   rfl
  rw [lF,lR,z] at ht
  cases F with
  | nil=>exact hne rfl
  | cons a r=>simp at ht
end KQ
namespace KC
open PySem PySem.Spec L2 T PySem.SeqAt
open PyProof.Rows hiding St
structure Det (w:Wd):Prop where
 d:∀x,x<w.n->∃t,w.stp x=[t]
noncomputable def Sn.pl:Sn->Bool
 | .yes=>true | .mk _=>true | .un .not a=>a.pl | .bi .and a b=>a.pl&&b.pl | .bi .or a b=>a.pl&&b.pl | _=>false
structure Tmd (s a b:Sn):Prop where
 tm:s.tm=true
 ar:∀x∈s.args,x=a\/x=b
 sz:s.size<=a.size+b.size+1
 dp:s.dep<=max a.dep b.dep+1
 ok:a.ok->b.ok->s.ok
end KC
namespace KQ
open PySem PySem.Spec L2 T PySem.SeqAt KC
open PyProof.Rows hiding St
theorem rW {c k:Int} {b:Nat} (h0:0<=k) (h1:k<=1000) (hb:1<=b) (hb2:b<=1000):∃r:Nat,r<b/\aj [.int c,.int k,.int (b:Int)]=.ok ⟨.leaf,rm r⟩:=by
 have d:=wU (c:=c) (k:=k) (b:=(b:Int)) h0 h1 (by omega) (by omega)
 have i:=D3 (c:=c) (k:=k) (b:=(b:Int)) h0 h1 (by omega) (by omega)
 refine ⟨(cP c k b).toNat,by omega,?_⟩
 rw [d];show _=Res.ok ⟨.leaf,.int ((cP c k b).toNat:Int)⟩
 rw [Int.toNat_of_nonneg i.1]
end KQ
namespace KC
open PySem PySem.Spec L2 T PySem.SeqAt
open PyProof.Rows hiding St
theorem qe {ch:List (Option Nat)} {Q:Nat->Prop}:∀{l:List Nat},sS ch l->(∀x∈l,∀t,aY ch x=some t->Q x->Q t)->(∀a,l.head?=some a->Q a)->∀x∈l,Q x
 | [],_,_,_,x,hx=>by simp at hx
 | [a],_,_,h,x,hx=>by
  rw [List.mem_singleton.mp hx];exact h a rfl
 | a::b::r,f,c,h,x,hx=>by
  have ha:=h a rfl
  rcases List.mem_cons.mp hx with z | z
  ·rw [z];exact ha
  ·refine qe (l:=b::r) f.2 (fun x hx=>c x (mem_cons_of_mem _ hx)) (fun d hd=>?_) x z
   simp at hd
   rw [<-hd];exact c a (by simp) b f.1 ha
theorem mD {ch:List (Option Nat)} {a:Nat}:∀{l:List Nat},sS ch (l++[a])->∀x∈l,∃t,aY ch x=some t/\(t∈l\/t=a)
 | [],_,x,hx=>by simp at hx
 | [b],f,x,hx=>by
  rw [List.mem_singleton.mp hx];exact ⟨a,f.1,.inr rfl⟩
 | b::c::l,f,x,hx=>by
  rcases List.mem_cons.mp hx with z | z
  ·rw [z];exact ⟨c,f.1,.inl (by simp)⟩
  ·obtain ⟨t,e,h⟩:=mD (l:=c::l) f.2 x z
   exact ⟨t,e,h.imp (mem_cons_of_mem _) id⟩
theorem eq_bool {a b:Bool}:bL (.bool a) (.bool b)=some (.bool (a==b)):=by cases a<;>cases b<;>kernel_rfl
theorem ne_bool {a b:Bool}:jm (.bool a) (.bool b)=some (.bool (a != b)):=by cases a<;>cases b<;>kernel_rfl
theorem qo {v:Wd} {ch:List (Option Nat)} {n:Nat} (c:∀x,x<n->∀t,aY ch x=some t->t∈v.stp x):∀{l:List Nat},(∀x∈l,x<n)->sS ch l->yZ v l
 | [],_,_=>trivial
 | [a],_,_=>trivial
 | a::b::r,h,f=>⟨c a (h a (by simp)) b f.1,qo c (fun x hx=>h x (mem_cons_of_mem _ hx)) f.2⟩
theorem Lasso.allLt {n r:Nat} {ch:List (Option Nat)} {F R:List Nat} (L:Lasso n ch r F R):∀x∈F++R++R.take 1,x<n:=fun x hx=>by
 rcases List.mem_append.mp hx with z | z
 ·exact L.lt x z
 ·exact L.lt x (mem_append_right _ (List.mem_of_mem_take z))
theorem Lasso.way {v:Wd} {n r:Nat} {ch:List (Option Nat)} {F R:List Nat} (L:Lasso n ch r F R) (hn:v.n=n) (h24:n<=24) (c:∀x,x<n->∀t,aY ch x=some t->t∈v.stp x):eL v F R:=by
 have hl:=Ab L.nd L.lt
 rw [length_append] at hl;exact ⟨L.ne,fun x hx=>by rw [hn];exact L.lt x hx,qo c L.allLt L.fc,by omega⟩
theorem Lasso.closed {n r:Nat} {ch:List (Option Nat)} {F R:List Nat} (L:Lasso n ch r F R) {x t:Nat} (hx:x∈F++R) (e:aY ch x=some t):t∈F++R:=by
 obtain ⟨a,ea,ha⟩:=tU L.ne;have f:=L.fc
 rw [ea] at f;obtain ⟨t',e',h⟩:=mD f x hx;rw [e] at e'
 cases e'
 rcases h with h | h
 ·exact h
 ·rw [h];exact mem_append_right _ ha
theorem G7 {ch:List (Option Nat)}:∀{A B:List Nat},sS ch (A++B)->sS ch A
 | [],_,_=>trivial
 | [a],_,_=>trivial
 | a::b::r,B,h=>⟨h.1,G7 (A:=b::r) h.2⟩
theorem Lasso.nx {n r:Nat} {ch:List (Option Nat)} {F R:List Nat} (L:Lasso n ch r F R):aY ch r=some (wC F R):=by
 rw [B9 L.ne];obtain ⟨a,ea,ha⟩:=tU L.ne;have f:=L.fc
 have hd:=L.hd
 rw [ea] at f ⊢
 cases e:F++R with
 | nil=>rw [e] at hd;simp at hd
 | cons b s=>
  rw [e] at f hd
  have:b=r:=by simpa using hd
  subst this
  cases s with
  | nil=>simpa using f.1
  | cons c t=>simpa using f.1
section
variable {w:Wd} {thr goal:List Nat} {rk ch:List (Option Nat)} {n r:Nat} {F R:List Nat}
theorem iN (hs:∀y k,y<n->aY rk y=some k->y∉goal->y∈thr/\∀t,aY ch y=some t->∃j,aY rk t=some j/\j<k):∀{l:List Nat} {x:Nat},(∀y∈x::l,y<n)->sS ch (x::l)->aY rk x≠none->iX (eQ thr) (eQ goal) (x::l)=false->∀y∈x::l,y∉goal/\aY rk y≠none
 | l,x,hl,f,hk,hu=>by
  obtain ⟨k,ek⟩:=Option.ne_none_iff_exists'.mp hk
  have hg:x∉goal:=fun z=>by simp [iX,z] at hu
  obtain ⟨ht,hst⟩:=hs x k (hl x (by simp)) ek hg
  intro y hy;rcases List.mem_cons.mp hy with rfl | hy
  ·exact ⟨hg,hk⟩
  ·cases l with
   | nil=>simp at hy
   | cons b l=>
    obtain ⟨j,ej,_⟩:=hst b f.1;have hu2:iX (eQ thr) (eQ goal) (b::l)=false:=by
     have:(goal.contains x||(thr.contains x&&iX (eQ thr) (eQ goal) (b::l)))=false:=hu
     simp only [Bool.or_eq_false_iff,Bool.and_eq_false_iff] at this
     rcases this.2 with z | z
     ·simp [ht] at z
     ·exact z
    exact iN hs (fun z hz=>hl z (mem_cons_of_mem _ hz)) f.2 (by rw [ej];simp) hu2 y hy
theorem Lasso.down (L:Lasso n ch r F R) (hk:aY rk r≠none) (hs:∀y k,y<n->aY rk y=some k->y∉goal->y∈thr/\∃t,aY ch y=some t/\∃j,aY rk t=some j/\j<k):iX (eQ thr) (eQ goal) (F++R)=true:=by
 cases hu:iX (eQ thr) (eQ goal) (F++R) with
 | true=>rfl
 | false=>
  exfalso
  have hd:=L.hd
  have f:=G7 L.fc
  have lt:=L.lt
  have key:∀y∈F++R,y∉goal/\aY rk y≠none:=by
   cases e:F++R with
   | nil=>rw [e] at hd;simp at hd
   | cons b s=>
    rw [e] at hd f lt hu
    have:b=r:=by simpa using hd
    subst this;exact iN (fun y k h1 h2 h3=>⟨(hs y k h1 h2 h3).1,fun t et=>by
     obtain ⟨t',e1,j,e2,e3⟩:=(hs y k h1 h2 h3).2;rw [et] at e1
     cases e1;exact ⟨j,e2,e3⟩⟩) lt f hk hu
  have no:∀k,∀y∈F++R,aY rk y=some k->False:=by
   intro k;induction k using Nat.strongRecOn with
   | ind k ih=>
    intro y hy ek;obtain ⟨t,e1,j,e2,e3⟩:=(hs y k (L.lt y hy) ek (key y hy).1).2;exact ih j e3 t (L.closed hy e1) e2
  have hr:r∈F++R:=by
   cases e:F++R with
   | nil=>rw [e] at hd;simp at hd
   | cons b s=>
    rw [e] at hd;have:b=r:=by simpa using hd
    subst this;simp
  obtain ⟨k,ek⟩:=Option.ne_none_iff_exists'.mp hk
  exact no k r hr ek
theorem jJ (hs:∀y,y<n->aY rk y=none->y∉goal/\(y∉thr\/∃t,aY ch y=some t/\aY rk t=none)):∀{l:List Nat} {x:Nat},(∀y∈x::l,y<n)->sS ch (x::l)->aY rk x=none->iX (eQ thr) (eQ goal) (x::l)=false
 | l,x,hl,f,hk=>by
  obtain ⟨hg,h⟩:=hs x (hl x (by simp)) hk
  show (goal.contains x||(thr.contains x&&iX (eQ thr) (eQ goal) l))=false
  rcases h with h | ⟨t,e1,e2⟩
  ·simp [hg,h]
  ·cases l with
   | nil=>simp [hg,iX]
   | cons b l=>
    have e:b=t:=by
     have:=f.1
     rw [e1] at this;exact (Option.some.inj this).symm
    subst e;rw [jJ hs (fun z hz=>hl z (mem_cons_of_mem _ hz)) f.2 e2]
    simp [hg]
theorem Lasso.off (L:Lasso n ch r F R) (hk:aY rk r=none) (hs:∀y,y<n->aY rk y=none->y∉goal/\(y∉thr\/∃t,aY ch y=some t/\aY rk t=none)):iX (eQ thr) (eQ goal) (F++R)=false:=by
 have hd:=L.hd
 have f:=G7 L.fc
 have lt:=L.lt
 cases e:F++R with
 | nil=>rw [e] at hd;simp at hd
 | cons b s=>
  rw [e] at hd f lt
  have:b=r:=by simpa using hd
  subst this;exact jJ hs lt f hk
end
noncomputable def jF (w:Wd) (s:Sn) (rk:List (Option Nat)) (x:Nat):List Nat:=match s with
 | .un .sn a=>(w.stp x).filter fun t=>(bc w a).contains t==true
 | .un .an a=>(w.stp x).filter fun t=>(bc w a).contains t==false
 | .bi .su _ _=>rG w rk x
 | .un .aa _=>rG w rk x
 | _=>(w.stp x).filter fun t=>(aY rk t).isNone
noncomputable def sO (w:Wd) (s:Sn) (rk:List (Option Nat)):List (Option Nat):=(List.range w.n).map fun x=>some ((jF w s rk x++w.stp x).getD 0 0)
theorem AV {w:Wd} {s:Sn} {rk:List (Option Nat)} {x t:Nat} (h:t∈jF w s rk x):t∈w.stp x:=by
 unfold jF at h;split at h<;>exact (List.mem_filter.mp h).1
theorem GJ {w:Wd} {s:Sn} {rk:List (Option Nat)} {x:Nat} (hx:x<w.n):aY (sO w s rk) x=some ((jF w s rk x++w.stp x).getD 0 0):=by
 unfold aY sO;rw [getD_eq_getElem?_getD,getElem?_map,List.getElem?_range hx];rfl
theorem rN {l:List Nat} (h:l≠[]):l.getD 0 0∈l:=by
 cases l with
 | nil=>exact absurd rfl h
 | cons a r=>simp
theorem ue {w:Wd} (ok:w.Ok) {s:Sn} {rk:List (Option Nat)} {x:Nat} (hx:x<w.n):∀t,aY (sO w s rk) x=some t->t∈w.stp x:=fun t e=>by
 rw [GJ hx] at e
 cases e;have hne:jF w s rk x++w.stp x≠[]:=fun z=>ok.stp_ne hx (List.append_eq_nil_iff.mp z).2
 rcases List.mem_append.mp (rN hne) with z | z
 ·exact AV z
 ·exact z
theorem GK {w:Wd} {s:Sn} {rk:List (Option Nat)} {x:Nat} (hx:x<w.n) (hn:jF w s rk x≠[]):∃t,aY (sO w s rk) x=some t/\t∈jF w s rk x:=by
 refine ⟨_,GJ hx,?_⟩
 cases e:jF w s rk x with
 | nil=>exact absurd e hn
 | cons a r=>simp
noncomputable def Gn (s:Sn) (rk:List (Option Nat)) (R:D):Prop:=match s with
 | .un .sn _=>R=.none
 | .un .an _=>R=.none
 | _=>R=dm rk
theorem mF {w:Wd} (ok:w.Ok) {s:Sn} (ht:s.tm=true) {rk:List (Option Nat)} (hl:rk.length=w.n) {R:D} (hR:Gn s rk R) {x:Nat} (hx:x<w.n):bx [w.enc,.str s.w.t,bU (s.args.map (bc w)),R,rm x]=.ok ⟨.lst .leaf,aF (jF w s rk x)⟩:=by
 have h30:=(ok.z.len (r:=x))
 have st:aA false 5 (ai (ai (af 0) (eK (.int 2))) (af 4)) (aQ 7 [w.enc,.str s.w.t,bU (s.args.map (bc w)),R,rm x])=.nx [some ⟨.leaf,w.enc⟩,some ⟨.leaf,.str s.w.t⟩,some ⟨.leaf,bU (s.args.map (bc w))⟩,some ⟨.leaf,R⟩,some ⟨.leaf,rm x⟩,some ⟨.leaf,aF (w.stp x)⟩,none]:=cb (Ec ok rfl (aw rfl) hx) rfl (by simp [aQ])
 have pT:∀(u:U5) (a:Sn) (b:Bool),s=.un u a->bL (.str s.w.t) (.str "some next")=some (.bool b)->R=.none->bx [w.enc,.str s.w.t,bU (s.args.map (bc w)),R,rm x]=.ok ⟨.lst .leaf,aF ((w.stp x).filter fun t=>(bc w a).contains t==b)⟩:=fun u a b es e hr=>by
  subst es hr;have un:∀y,ai (af 2) (eK (.int 0)) [some ⟨.leaf,w.enc⟩,some ⟨.leaf,.str (Sn.un u a).w.t⟩,some ⟨.leaf,bU ((Sn.un u a).args.map (bc w))⟩,some ⟨.leaf,.none⟩,some ⟨.leaf,rm x⟩,some ⟨.leaf,aF (w.stp x)⟩,y]=.ok ⟨.leaf,aF (bc w a)⟩ [some ⟨.leaf,w.enc⟩,some ⟨.leaf,.str (Sn.un u a).w.t⟩,some ⟨.leaf,bU ((Sn.un u a).args.map (bc w))⟩,some ⟨.leaf,.none⟩,some ⟨.leaf,rm x⟩,some ⟨.leaf,aF (w.stp x)⟩,y]:=fun y=>dJ (j:=0) (aw rfl) aL rfl rfl rfl
  refine aS (aq st (qy (aV (t:=true) (dY (s:=.leaf) (aE (aw rfl) aL rfl)) (fun _=>aW (wA rm (w.stp x) (fun t=>(bc w a).contains t==b) (fun t=>⟨.leaf,rm t⟩) (st:=true) (cf (aw rfl) rfl) (by simp) rfl h30 (fun t ht=>?_) fun t ht _=>⟨aw rfl,rfl⟩) rfl) nofun)))
  exact dY (s:=.leaf) (aE (aE (aw (d:=rm t) rfl) (un _) wI) (aE (aw rfl) aL e) eq_bool)
 have isN:R=dm rk->aN ax (az (cJ false) (af 3) (eK .none)) [some ⟨.leaf,w.enc⟩,some ⟨.leaf,.str s.w.t⟩,some ⟨.leaf,bU (s.args.map (bc w))⟩,some ⟨.leaf,R⟩,some ⟨.leaf,rm x⟩,some ⟨.leaf,aF (w.stp x)⟩,none]=.ok false [some ⟨.leaf,w.enc⟩,some ⟨.leaf,.str s.w.t⟩,some ⟨.leaf,bU (s.args.map (bc w))⟩,some ⟨.leaf,R⟩,some ⟨.leaf,rm x⟩,some ⟨.leaf,aF (w.stp x)⟩,none]:=fun e=>by
  subst e;exact dY (s:=.leaf) (aE (aw rfl) aL rfl)
 have low:R=dm rk->s.w.some=true->bx [w.enc,.str s.w.t,bU (s.args.map (bc w)),R,rm x]=.ok ⟨.lst .leaf,aF (rG w rk x)⟩:=fun e hs=>by
  have q:=isN e
  subst e;refine aS (aq st (aq (aV q nofun fun _=>rfl) (qy (aV (t:=s.w.some) (dY (s:=.leaf) (aE (aw rfl) aL (vj _))) (fun _=>aW (cn (ay (aw rfl) (ay (aw rfl) (ay (aw rfl) ah))) (gZ ok hl hx) rfl rfl) rfl) fun z=>by rw [hs] at z;cases z))))
 have off:R=dm rk->s.w.some=false->bx [w.enc,.str s.w.t,bU (s.args.map (bc w)),R,rm x]=.ok ⟨.lst .leaf,aF ((w.stp x).filter fun t=>(aY rk t).isNone)⟩:=fun e hs=>by
  have q:=isN e
  subst e;refine aS (aq st (aq (aV q nofun fun _=>rfl) (aq (aV (t:=s.w.some) (dY (s:=.leaf) (aE (aw rfl) aL (vj _))) (fun z=>by rw [hs] at z;cases z) fun _=>rfl) (aW (wA rm (w.stp x) (fun t=>(aY rk t).isNone) (fun t=>⟨.leaf,rm t⟩) (st:=true) (cf (aw rfl) rfl) (by simp) rfl h30 (fun t ht=>?_) fun t ht _=>⟨aw rfl,rfl⟩) rfl))))
  have tn:t<rk.length:=by rw [hl];exact ok.stp_lt ht
  have a1:(rk.map oD)[t]?=some (oD (aY rk t)):=by
   rw [getElem?_map,getElem?_eq_getElem tn,aY,getD_eq_getElem?_getD,getElem?_eq_getElem tn];rfl
  refine dY (s:=.leaf) (aE (dJ (j:=t) (s2:=.leaf) (aw rfl) (aw (d:=rm t) rfl) (sW (by rw [length_map];exact tn)) a1 ?_) aL ?_)
  ·cases aY rk t<;>rfl
  ·cases aY rk t<;>rfl
 cases s with
 | yes=>simp [Sn.tm,Sn.w,Wr.ofS,Wr.ofA] at ht
 | mk c=>simp [Sn.tm,Sn.w,Wr.ofS,Wr.ofA] at ht
 | un k a=>
  cases k with
  | not=>simp [Sn.tm,Sn.w,U5.w,Wr.ofS,Wr.ofA] at ht
  | sn=>exact pT .sn a true rfl (iK .sn .sn) hR
  | an=>exact pT .an a false rfl (iK .an .sn) hR
  | sa=>exact off hR rfl
  | aa=>exact low hR rfl
 | bi k a b=>
  cases k with
  | and=>simp [Sn.tm,Sn.w,B4.w,Wr.ofS,Wr.ofA] at ht
  | or=>simp [Sn.tm,Sn.w,B4.w,Wr.ofS,Wr.ofA] at ht
  | su=>exact low hR rfl
  | au=>exact off hR rfl
theorem xq {w:Wd} {s:Sn} {rk:List (Option Nat)}:dm (sO w s rk)=.list ((List.range w.n).map fun x=>rm ((jF w s rk x++w.stp x).getD 0 0)):=by
 unfold sO;simp only [dm,map_map]
 rfl
theorem low_iff {a b:Option Nat}:jl a b=true↔∃i k,a=some i/\b=some k/\i<k:=by
 cases a with
 | none=>simp [jl]
 | some i=>cases b with
  | none=>simp [jl]
  | some k=>simp [jl]
theorem mn {w:Wd} {thr goal:List Nat} {rk:List (Option Nat)} (H:Right w true thr goal rk) {s:Sn} (hs:∀x,jF w s rk x=rG w rk x):∀y k,y<w.n->aY rk y=some k->y∉goal->y∈thr/\∃t,aY (sO w s rk) y=some t/\∃j,aY rk t=some j/\j<k:=fun y k hy ek hg=>by
 obtain ⟨h1,h2,h3⟩:=H.p y k hy hg ek;obtain ⟨t,ht,j,hj,hjk⟩:=led_t.mp h3;have hm:t∈jF w s rk y:=by
  rw [hs];exact List.mem_filter.mpr ⟨ht,low_iff.mpr ⟨j,k,hj,ek,hjk⟩⟩
 obtain ⟨u,e1,e2⟩:=GK hy (ne_nil_of_mem hm);rw [hs] at e2;obtain ⟨i,k',e3,e4,e5⟩:=low_iff.mp (List.mem_filter.mp e2).2;rw [ek] at e4
 cases e4;exact ⟨h2,u,e1,i,e3,e5⟩
theorem lW {w:Wd} {thr goal:List Nat} {rk:List (Option Nat)} (H:Right w false thr goal rk) {s:Sn} (hs:∀x,jF w s rk x=(w.stp x).filter fun t=>(aY rk t).isNone):∀y,y<w.n->aY rk y=none->y∉goal/\(y∉thr\/∃t,aY (sO w s rk) y=some t/\aY rk t=none):=fun y hy ek=>by
 obtain ⟨h1,h2⟩:=H.z y hy ek;refine ⟨h1,h2.imp id fun h3=>?_⟩
 have:∃t∈w.stp y,aY rk t=none:=Classical.byContradiction fun z=>h3 (led_f.mpr fun t ht e=>z ⟨t,ht,e⟩)
 obtain ⟨t,ht,et⟩:=this;have hm:t∈jF w s rk y:=by
  rw [hs];exact List.mem_filter.mpr ⟨ht,by rw [et];rfl⟩
 obtain ⟨u,e1,e2⟩:=GK hy (ne_nil_of_mem hm);rw [hs] at e2;exact ⟨u,e1,Option.isNone_iff_eq_none.mp (List.mem_filter.mp e2).2⟩
theorem shown {w:Wd} (ok:w.Ok) {s:Sn} (ht:s.tm=true) {D:D} (hk:wg w s D) {r:Nat} (hr:r<w.n) (hh:(bc w s).contains r=s.w.ofS):∃rk,rk.length=w.n/\Gn s rk D/\∀F R,Lasso w.n (sO w s rk) r F R->Gh w s F R=s.w.ofS:=by
 rw [wO hr] at hh;have nmem:∀(a:Sn) x,x<w.n->(x∈(List.range w.n).filter (fun t=>!(bc w a).contains t)↔x∉bc w a):=fun a x hx=>by simp [hx]
 have yes:s.w.ofS=true->d7 w s r:=fun e=>satB_iff.mp (hh.trans e)
 have no:s.w.ofS=false->¬d7 w s r:=fun e z=>by rw [satB_iff.mpr z,e] at hh;cases hh
 cases s with
 | yes=>simp [Sn.tm,Sn.w,Wr.ofS,Wr.ofA] at ht
 | mk c=>simp [Sn.tm,Sn.w,Wr.ofS,Wr.ofA] at ht
 | bi k a b=>
  cases k with
  | and=>simp [Sn.tm,Sn.w,B4.w,Wr.ofS,Wr.ofA] at ht
  | or=>simp [Sn.tm,Sn.w,B4.w,Wr.ofS,Wr.ofA] at ht
  | su=>
   obtain ⟨rk,e,H,hs⟩:=GH ok (s:=.bi .su a b) hk hr
   exact ⟨rk,H.len,e,fun F R L=>L.down (hs.mp (yes rfl)) (mn H fun _=>rfl)⟩
  | au=>
   obtain ⟨rk,e,H,hs⟩:=GH ok (s:=.bi .au a b) hk hr
   refine ⟨rk,H.len,e,fun F R L=>L.off ?_ (lW H fun _=>rfl)⟩
   exact Classical.byContradiction fun z=>no rfl (hs.mpr z)
 | un k a=>
  cases k with
  | not=>simp [Sn.tm,Sn.w,U5.w,Wr.ofS,Wr.ofA] at ht
  | sa=>
   obtain ⟨rk,e,H,hs⟩:=GH ok (s:=.un .sa a) hk hr
   refine ⟨rk,H.len,e,fun F R L=>?_⟩
   have h0:aY rk r=none:=hs.mp (yes rfl)
   have q:=qe (Q:=fun x=>aY rk x=none) (G7 L.fc) (fun x hx t et qx=>by
    rcases (lW H (s:=.un .sa a) (fun _=>rfl) x (L.lt x hx) qx).2 with z | ⟨u,e1,e2⟩
    ·exact absurd (List.mem_range.mpr (L.lt x hx)) z
    ·rw [et] at e1
     cases e1;exact e2) fun b hb=>by
      rw [L.hd] at hb
      cases hb;exact h0
   show ((F++R).all fun t=>(bc w a).contains t)=true
   rw [all_eq_true];intro x hx;have:=(H.z x (L.lt x hx) (q x hx)).1
   rw [nmem a x (L.lt x hx)] at this;rw [contains_iff_mem];exact Classical.byContradiction this
  | aa=>
   obtain ⟨rk,e,H,hs⟩:=GH ok (s:=.un .aa a) hk hr
   refine ⟨rk,H.len,e,fun F R L=>?_⟩
   have h0:aY rk r≠none:=fun z=>no rfl (hs.mpr z)
   have d:=L.down h0 (mn H (s:=.un .aa a) fun _=>rfl)
   show ((F++R).all fun t=>(bc w a).contains t)=false
   cases q:(F++R).all fun t=>(bc w a).contains t with
   | false=>rfl
   | true=>
    exfalso
    rw [tQ fun x hx=>by
     have:=List.all_eq_true.mp q x hx
     rw [contains_iff_mem] at this;rw [Bool.eq_false_iff,ne_eq,contains_iff_mem,nmem a x (L.lt x hx)];exact fun z=>z this] at d
    cases d
  | sn=>
   refine ⟨List.replicate w.n none,by simp,hk,fun F R L=>?_⟩
   obtain ⟨t,ht1,ht2⟩:=(yes rfl:∃t∈w.stp r,d7 w a t)
   have hm:t∈jF w (.un .sn a) (List.replicate w.n none) r:=List.mem_filter.mpr ⟨ht1,by
    have:t∈bc w a:=mem_rof.mpr ⟨ok.stp_lt ht1,ht2⟩
    rw [List.contains_iff_mem.mpr this];rfl⟩
   obtain ⟨u,e1,e2⟩:=GK hr (ne_nil_of_mem hm);rw [L.nx] at e1
   cases e1;have:=(List.mem_filter.mp e2).2
   show (bc w a).contains (wC F R)=true
   exact eq_of_beq this
  | an=>
   refine ⟨List.replicate w.n none,by simp,hk,fun F R L=>?_⟩
   have:∃t∈w.stp r,¬d7 w a t:=Classical.byContradiction fun z=>no rfl fun t ht=>Classical.byContradiction fun y=>z ⟨t,ht,y⟩
   obtain ⟨t,ht1,ht2⟩:=this;have hm:t∈jF w (.un .an a) (List.replicate w.n none) r:=List.mem_filter.mpr ⟨ht1,by
    have:¬t∈bc w a:=fun z=>ht2 (mem_rof.mp z).2
    rw [show (bc w a).contains t=false from by rw [Bool.eq_false_iff,ne_eq,contains_iff_mem];exact this]
    rfl⟩
   obtain ⟨u,e1,e2⟩:=GK hr (ne_nil_of_mem hm);rw [L.nx] at e1
   cases e1;have:=(List.mem_filter.mp e2).2
   show (bc w a).contains (wC F R)=false
   exact eq_of_beq this
end KC
namespace T
open PySem PySem.Spec L2
open PyProof.Rows hiding St
theorem rq {P:Program} {w:World} {H:Hp} {h:Heap} {a:Addr} {o:HO} (x:ObjOk P w H h a o):∃u,h.get? a=some u:=by
 cases o with
 | lst xs=>obtain ⟨_,_,_,_,e⟩:=x;exact ⟨_,e⟩
 | tup xs=>obtain ⟨_,_,_,_,e,_⟩:=x;exact ⟨_,e⟩
 | dK kvs=>obtain ⟨_,_,_,_,o,_,_,e,_⟩:=x;exact ⟨_,e⟩
 | dT kvs=>obtain ⟨_,_,_,_,o,_,_,e,_⟩:=x;exact ⟨_,e⟩
 | set S n=>obtain ⟨o,_,_,_,e,_⟩:=x;exact ⟨_,e⟩
 | ins C dx fs=>obtain ⟨_,_,_,e,_⟩:=x;exact ⟨_,e⟩
 | own y=>obtain ⟨_,e⟩:=x;exact ⟨_,e⟩
 | xd fs=>obtain ⟨_,⟨_,_,_,e,_⟩,_⟩:=x;exact ⟨_,e⟩
 | rng lo hi=>obtain ⟨_,_,_,e⟩:=x;exact ⟨_,e⟩
 | frz ob u=>obtain ⟨e,_⟩:=x;exact ⟨_,e⟩
 | tbl ps=>exact ⟨_,show h.get? a=some _ from x⟩
 | met f y=>exact ⟨_,show h.get? a=some _ from x⟩
 | ext φ=>obtain ⟨_,⟨_,e⟩,_⟩:=x;exact ⟨_,e⟩
structure Dr (P:Program) (w:World) (outer:List Env) (H:Hp) (s:Shared) (H':Hp) (C a:Addr) (s':Shared):Prop where
 os:s'.os=s.os
 bare:AllBare s'.gens
 un:Un (gw outer) [] H H' s.heap s'.heap
 hok:HOk P w H' s'.heap
 fly:∃B a0,Heap.FlyingW B outer a (.ref C) a0 s'.heap/\(∀b o,H' b=some o->∃u,B.get? b=some u)/\(∀b o,s.heap.get? b=some o->b∉gw outer->∃u,B.get? b=some u)
def sT (P:Program) (w:World):qt:=fun outer H s E e s'=>∃a C H',e=.ref a/\Dr P w outer H s H' C a s'/\E (.ref C) none H'
section
variable {X:Cx} {pins:List (Addr×Obj)} {σ:St} {H H':Hp} {s s':Shared} {B h2:Heap} {C a:Addr} {a0:Value} {E:XK}
theorem vA (I:Inv X pins σ H s) (hex:X.ex=[]) (hst:X.stack=X.env::X.outer) (hf:X.env.frame=some X.env.locals)
  (un:Un (gw X.stack) [] H H' s.heap h2) (hok:HOk X.prog X.w H' h2) (st:B.StaysIn h2) (c1:∀b o,H' b=some o->∃u,B.get? b=some u) (c2:∀b o,s.heap.get? b=some o->b∉gw X.stack->∃u,B.get? b=some u)
  (ff:h2.FunFrames B X.stack) (fl:Heap.FlyingW B X.outer a (.ref C) a0 s'.heap) (up:h2.UpToSlots s'.heap) (os:s'.os=s.os) (bare:AllBare s'.gens):Dr X.prog X.w X.outer X.H₀ X.s₀ H' C a s':=by
 have hfs:gw X.stack=X.env.locals::X.fs:=by
  rw [hst];show List.filterMap _ _=_
  rw [filterMap_cons,hf];rfl
 have hx:∀b:Addr,b∉X.ex:=fun b=>by rw [hex];exact nofun
 have hn:∀b:Addr,b∉([]:List Addr):=fun b z=>nomatch z
 have old:∀b o,X.s₀.heap.get? b=some o->b∉X.fs->b∉gw X.stack:=fun b o q hb z=>by
  rw [hfs] at z;rcases List.mem_cons.mp z with z | z
  ·have l1:=Heap.lt_size q
   have l2:=I.ok.above
   rw [<-z] at l2;exact absurd l1 (Nat.not_lt.mpr l2)
  ·exact hb z
 have keepB:∀b o u,B.get? b=some u->h2.get? b=some o->s'.heap.get? b=some o:=fun b o u e1 e2=>by
  have e3:=st b u e1
  rw [e2] at e3
  cases e3;exact fl.1 b o e1
 have ffo:=fl.2.2.1
 refine ⟨os.trans I.os,bare,⟨fun b o q n hb _=>?_,fun b o q n hb _=>?_,fun b o q n _=>?_,fun b o q _=>?_,fun b xs q=>un.tups b xs (I.base.tups b xs q),fun b o u q=>un.frzs b o u (I.base.frzs b o u q),fun b ps q=>?_⟩,fun b o e=>?_,B,a0,fl,c1,fun b o q hb=>?_⟩
 ·have q1:=I.base.keep b o q n hb (hx b)
  have n1:=I.base.free b o q n (hx b)
  have hb':=old b o q hb
  obtain ⟨u,e⟩:=c2 b o q1 hb'
  exact keepB b o u e (un.keep b o q1 n1 hb' (hn b))
 ·obtain ⟨sl,q1⟩:=I.base.slot b o q n hb (hx b)
  have n1:=I.base.free b o q n (hx b)
  have hb':b∈gw X.stack:=by rw [hfs];exact mem_cons_of_mem _ hb
  obtain ⟨sl2,q2⟩:=un.slot b _ q1 n1 hb' (hn b)
  obtain ⟨_,o',e,d⟩:=ff.mem hb'
  rw [q2] at e
  cases e;obtain ⟨sl3,q3⟩:=up b _ q2 d;exact ⟨sl3,q3⟩
 ·obtain ⟨o1,q1⟩:=I.base.there b o q (hx b)
  exact un.free b o1 q1 (I.base.free b o q n (hx b)) (hn b)
 ·obtain ⟨o1,q1⟩:=I.base.there b o q (hx b)
  by_cases hb:b∈X.fs
  ·obtain ⟨_,o',e,_⟩:=ffo.mem hb
   exact ⟨o',e⟩
  ·obtain ⟨u,e⟩:=c2 b o1 q1 (old b o q hb)
   exact ⟨u,fl.1 b u e⟩
 ·obtain ⟨m1,e1⟩:=I.base.tbls b ps q
  obtain ⟨m2,e2⟩:=un.tbls b _ e1;exact ⟨m1++m2,by rw [e2,Array.append_assoc]⟩
 ·refine (hok b o e).stay (fun c u hc q=>?_) (fun _ q=>q) fun _ _ q=>q
  have hc':∃o',H' c=some o':=by
   rcases hc with z | z
   ·exact ⟨o,by rw [z];exact e⟩
   ·exact ⟨_,z⟩
  obtain ⟨o',z⟩:=hc'
  obtain ⟨v,e1⟩:=c1 c o' z
  exact keepB c u v e1 q
 ·obtain ⟨o1,q1⟩:=I.base.there b o q (hx b)
  exact c2 b o1 q1 (old b o q hb)
theorem C3 {M:Model} {A:Around} {E2:Value->Shared->Prop} {Q:Unit->Shared->Prop} (I:Inv X pins σ H s) (hex:X.ex=[]) (hst:X.stack=X.env::X.outer) (hf:X.env.frame=some X.env.locals) (hA:A.frames=some X.stack) (f:Dr X.prog X.w X.stack H s H' C a s')
  (hQ:∀h',Dr X.prog X.w X.outer X.H₀ X.s₀ H' C a { s' with heap:=h' }->Q () { s' with heap:=h' }):wpAny M A (leaving X.env (.ref a)) Q E2 s':=by
 obtain ⟨os,bare,un,hok,B,a0,fl,c1,c2⟩:=f;refine wpAny_leaves_onW (by rw [hA,hst]) hf (by rw [<-hst];exact fl) fun h' fl' up=>hQ h' ?_
 exact vA (s':={ s' with heap:=h' }) I hex hst hf un hok fl.1 c1 c2 fl.2.2.1 fl' up os bare
theorem vB {M:Model} {A:Around} {E2:Value->Shared->Prop} {Q:Unit->Shared->Prop} {h1:Heap} {args:List Value} (I:Inv X pins σ H s) (hex:X.ex=[]) (hst:X.stack=X.env::X.outer) (hf:X.env.frame=some X.env.locals) (hA:A.frames=some X.stack)
  (hx:Heap.MadeExcOf s.heap h1 a (.ref C) args) (hQ:∀h',Dr X.prog X.w X.outer X.H₀ X.s₀ H C a { s with heap:=h' }->Q () { s with heap:=h' }):wpAny M A (leaving X.env (.ref a)) Q E2 { s with heap:=h1 }:=by
 have ff:s.heap.FunFrames (PySem.W.hideAll s.heap (gw X.stack)) X.stack:=PySem.W.funFrames_hide I.stack fun env he b hb=>List.mem_filterMap.mpr ⟨env,he,hb⟩
 refine wpAny_leaves_madeW (base:=PySem.W.hideAll s.heap (gw X.stack)) (h:=s.heap) (env:=X.env) (outer:=X.outer) (by rw [hA,hst]) hf (fun b o q=>PySem.W.of_hideAll _ q) (by rw [<-hst];exact ff) hx fun h' t fl _ _ up=>hQ h' ?_
 refine vA (h2:=s.heap) (s':={ s with heap:=h' }) I hex hst hf (Un.kept fun b o q=>q) I.hok (fun b o q=>PySem.W.of_hideAll _ q) (fun b o e=>?_) (fun b o q hb=>⟨o,PySem.W.hideAll_get _ q hb⟩) ff fl ((Heap.UpToSlots.of_keeps hx.keeps).trans up) rfl I.bare
 by_cases hb:b∈gw X.stack
 ·have:=I.stkFree b hb
  rw [this] at e
  cases e
 ·obtain ⟨u,hu⟩:∃u,s.heap.get? b=some u:=by
   exact rq (I.hok b o e)
  exact ⟨u,PySem.W.hideAll_get _ hu hb⟩
end
theorem Fl {P:Program} {w:World} {K:Fg} {mg:Str->Option Value} {base:Heap} {N:List Str} {qual:Str} {sc:Scope} {f:Addr} {cd:Value} {A:Around} {outer:List Env} {s:Shared} {H:Hp} {E E':XK}
  (h:∀u d H',E' u d H'->E u d H'):GL (sT P w) (eT (sT P w) P w K mg base N qual sc f cd A outer s H E) E':=by
 intro pins σ H1 s1 e s2 I h2;obtain ⟨a,C,H',rfl,fl,hE⟩:=h2;exact C3 I rfl rfl rfl I.ok.frames fl fun h' fl'=>⟨a,C,H',rfl,fl',h _ _ _ hE⟩
def Makes (X:Cx) (E:XK):Prop:=∀(pins:List (Addr×Obj)) (σ:St) (H:Hp) (s:Shared) (h1:Heap) (a C:Addr) (args:List Value),Inv X pins σ H s->Heap.MadeExcOf s.heap h1 a (.ref C) args->E (.ref C) none H->X.xe (.ref a) { s with heap:=h1 }
theorem Ce {P:Program} {w:World} {K:Fg} {mg:Str->Option Value} {base:Heap} {N:List Str} {qual:Str} {sc:Scope} {f:Addr} {cd:Value} {A:Around} {outer:List Env} {s:Shared} {H:Hp} {E E':XK}
  (h:∀u d H',E' u d H'->E u d H'):Makes (eT (sT P w) P w K mg base N qual sc f cd A outer s H E) E':=by
 intro pins σ H1 s1 h1 a C args I hx hE;exact vB I rfl rfl rfl I.ok.frames hx fun h' fl=>⟨a,C,H1,rfl,fl,h _ _ _ hE⟩
section
variable {X:Cx} {x:Str} {C:Addr} {B Bn newId nid initId inN:String} {bm bmN:List Value} {np cpos pos:Pos} {e:Expr} {es:List Expr} {t:TA} {E:XK}
def AM (C:Addr) (E:XK) (t:TA):TS:=fun _ σ H=>t σ H fun vs H1=>vs.length<=sizeLine/\E (.ref C) none H1
theorem uN (hc:X.calm=true) (O:OwnCls x C bm newId X.mg X.base) (Fn:ExcBaseFacts Bn newId inN bmN) (hBn:bm.contains (.type Bn)=true) (FB:ExcBaseFacts B nid initId bm) (hg:Gl X x) (hM:Makes X E) (ha:PA X (e::es) t)
  (he:starEach (e::es) X.env=(false,eval e X.env)::starEach es X.env:=by rfl) (hplain:(backTo cpos (starEach es X.env)).any (·.1)=false:=by rfl) (hd:(x==("__debug__":Str))=false:=by decide) :
  PS X (.Raise (some (.Call (.Name x np) (e::es) [] cpos)) none pos) (AM C E t):=by
 intro pins s σ H D I h;obtain ⟨tl,N,nm,q,bs,hdct,sn,sub,ab,col,dd,k0,k1,k2,k3,k5,mN,hC,hN,hni,T⟩:=O.obj;refine wpAny_Raise_call_subU (C:=C) (nm:=nm) (q:=q) (N:=N) (bs:=bs) (bm:=tl) (hdct:=hdct) (sn:=sn) (sub:=sub) (ab:=ab) (col:=col) (dd:=dd) (k0:=k0) (k1:=k1) (k2:=k2) (k3:=k3) (k5:=k5)
  Fn hBn FB (mN:=mN) (T.hasType FB.hasBase) (I.ok.hd hc) (by rw [he];show (false||(backTo cpos (starEach es X.env)).any (·.1))=false;rw [hplain];rfl) hni (Ah I hg O.bound ⟨rfl,?_⟩ hd)
 have h2:=ha cpos pins s σ H _ I h
 rw [he] at h2 ⊢;refine Calls.evalArgs_plain (wpAny_mono h2 (fun vs s₂ h₂=>?_) fun _ _ y=>y)
 obtain ⟨ws,H1,I1,r,hl,hE⟩:=h₂;exact ⟨rfl,by rw [<-r.length];exact hl,I1.bk _ _ hC,hN.keeps I1.bk,T.keeps I1.bk,fun h' a hx=>hM pins σ H1 s₂ h' a C vs I1 hx hE⟩
end
def GO (CX:qt) (X:Cx) (EE:St->XK):Prop:=∀(pins:List (Addr×Obj)) (σ:St) (H:Hp) (s:Shared) (e:Value) (s':Shared),Inv X pins σ H s->CX X.stack H s (EE σ) e s'->X.xe e s'
def t8 (sp:Sp) (EE:St->XK) (t:TA):TE:=fun σ H Q=>t σ H fun vs H1=>sp vs H1 Q (EE σ)
section
variable {X:Cx} {CX:qt} {k:Nat} {f:Addr} {fd:FuncData} {ps:List Str} {sp:Sp} {EE:St->XK} {x:Str} {p pos:Pos} {e:Expr} {es:List Expr} {t:TA}
theorem xo {pins:List (Addr×Obj)} {σ:St} {H:Hp} {s:Shared} {Q:VK} {us:List Value} {vs:List V} (F:du X.prog X.w X.K X.mg X.base CX k f fd ps sp) (hr:Room k X.A) (hb:Binds X.K fd ps []) (hx:GO CX X EE)
  (I:Inv X pins σ H s) (r:Vals vs us) (h:sp vs H Q (EE σ)):wpAny (model X.prog X.w) X.A (call (.ref f) us) (EP X pins σ Q) X.xe s:=by
 have hl:us.length=ps.length:=by rw [<-r.length];exact F.len _ _ _ _ h
 have hb2:=hb s us I.kIn (by rw [append_nil];exact hl)
 rw [append_nil] at hb2;refine wpAny_call (codeAny_mono (F.run X.A X.stack s H ⟨us,[]⟩ us vs Q (EE σ) hr I.env0 hb2 r h) fun r s' hq=>?_)
 cases r with
 | error e=>exact hx pins σ H s e s' I hq
 | ok fl=>
  cases fl with
  | ret u=>exact I.after hq
  | next=>exact False.elim hq
  | brk=>exact False.elim hq
  | cont=>exact False.elim hq
theorem uV (F:du X.prog X.w X.K X.mg X.base CX k f fd ps sp) (hr:Room k X.A) (hg:Gl X x) (hm:X.mg x=some (.ref f)) (hk:PySem.W.keepIn X.K (.ref f)=true) (hb:Binds X.K fd ps []) (hx:GO CX X EE)
  (ha:PA X (e::es) t) (hdb:(x==("__debug__":Str))=false:=by decide) (he:starEach (e::es) X.env=(false,eval e X.env)::starEach es X.env:=by rfl) (hpl:(backTo pos (starEach es X.env)).any (·.1)=false:=by rfl) :
  PE X (.Call (.Name x p) (e::es) [] pos) (t8 sp EE t):=by
 intro pins s σ H Q I h;refine wpAny_Call_Name_kw (Ah I hg hm ?_ hdb)
 refine PySem.W.callWith_K (h₀:=X.base) I.ok.mod.kin hk (bH (ha pos pins s σ H _ I h) fun us s1 ⟨vs,H1,I1,r,q⟩=>⟨I1.kIn,?_⟩) he hpl
 exact xo F hr hb hx I1 r q
end
def eH (X:Cx) (pins:List (Addr×Obj)) (W:Addr->St->Hp->Prop):Cx:=
 { X with pn:=X.pn++pins,xe:=fun e s'=>∃(ps:List (Addr×Obj)) (σ:St) (H H':Hp) (s:Shared) (a C:Addr),e=.ref a/\Inv X (pins++ps) σ H s/\Dr X.prog X.w X.stack H s H' C a s'/\W C σ H' }
section
variable {X:Cx} {pins ps:List (Addr×Obj)} {W:Addr->St->Hp->Prop} {σ:St} {H:Hp} {s:Shared}
theorem vn (ok:X.Ok):(eH X pins W).Ok:=⟨ok.mod,ok.kind,ok.glob,ok.blt,ok.above,ok.inj,ok.has,ok.cab,ok.hd,ok.frames,ok.stk,ok.exf,ok.bs,ok.bsz,ok.noex,ok.exfs,ok.funs,ok.frf⟩
theorem vk (ok:(eH X pins W).Ok):X.Ok:=⟨ok.mod,ok.kind,ok.glob,ok.blt,ok.above,ok.inj,ok.has,ok.cab,ok.hd,ok.frames,ok.stk,ok.exf,ok.bs,ok.bsz,ok.noex,ok.exfs,ok.funs,ok.frf⟩
theorem vm (I:Inv X (pins++ps) σ H s):Inv (eH X pins W) ps σ H s:=⟨vn I.ok,I.os,I.bare,I.base,I.loc,I.cell,I.free,I.freeC,fun p hp=>I.pin p (by rw [<-append_assoc];exact hp),I.hok,I.len⟩
theorem mx (I:Inv (eH X pins W) ps σ H s):Inv X (pins++ps) σ H s:=⟨vk I.ok,I.os,I.bare,I.base,I.loc,I.cell,I.free,I.freeC,fun p hp=>I.pin p (by rw [<-append_assoc] at hp;exact hp),I.hok,I.len⟩
theorem Inv.less (I:Inv X (pins++ps) σ H s):Inv X pins σ H s:=⟨I.ok,I.os,I.bare,I.base,I.loc,I.cell,I.free,I.freeC,fun p hp=>I.pin p (by rw [<-append_assoc];exact mem_append_left _ hp),I.hok,I.len⟩
theorem kC:GO (sT X.prog X.w) (eH X pins W) fun σ=>fun u _ H'=>∃C,u=.ref C/\W C σ H':=by
 intro qs σ H s e s' I h
 obtain ⟨a,C,H',rfl,fl,C',hC,hW⟩:=h
 cases hC;exact ⟨qs,σ,H,H',s,a,C,rfl,mx I,fl,hW⟩
end
end T
namespace T
open PySem
def Rs (xs:Array Nat):Prop:=xs.toList.Pairwise (· < ·)
structure Tb (b:Bool) (t:SetTable):Prop where
 led:b=false->t.led=true
 rs:Rs t.place
 nd:t.dummies=#[]
open PySem.Spec L2
open PyProof.Rows hiding St
end T
namespace TQ
open PySem PySem.Spec L2 T
open PyProof.Rows hiding St
variable {X:Cx} {N gl:List Str} {vs cs ls lo gs:List Nat} {W:XW} {a b:Expr} {pos p:Pos} {fl:FL}
end TQ
namespace T
open PySem PySem.Spec L2
open PyProof.Rows hiding St
section
variable {K:Fg} {W:XW} {He H:Hp} {O:List Addr} {Fs:List (List Addr)} {σ:St} {Γ:Ev} {D:dI}
theorem EnvOk.nm {j:Nat} {x:Option V} (E:EnvOk K He O Fs H σ Γ) (hj:∀p,Γ[j]?≠some (some p)):EnvOk K He O Fs H (σ.set j x) Γ:=
 ⟨by rw [length_set];exact E.len1,E.len2,E.same,E.nd,E.inH,E.fresh,fun m p hm=>by
  have hne:j≠m:=fun z=>hj p (by rw [z];exact hm)
  obtain ⟨a,v,F,b,c,d⟩:=E.slot m p hm;exact ⟨a,v,F,by rw [getElem?_set_ne hne];exact b,c,d⟩⟩
end
section
variable {X:Cx} {N gl:List Str} {vs cs ls lo gs:List Nat} {W:XW}
structure Ap (X:Cx) (o a:Expr) (apos cpos:Pos) (epos:Pos):Prop where
 hbase:attributeBase o "append" X.env (eval o X.env)=eval o X.env
 hline:(apos.endLine==cpos.line)=true
 hfew:((backTo cpos (starEach [a] X.env)).all (fun x=>!x.1)&&(backToKw cpos (keywordEach [] X.env)).all (fun x=>x.1.isSome)&&decide ([a].length+([]:List Keyword).length+(if ([]:List Keyword).isEmpty then 0 else 1)<30))=true
 hsw:swapsWith (.Call (.Attribute o "append" apos) [a] [] cpos) none epos.line X.env=pure false
 hst:starEach [a] X.env=[(false,eval a X.env)]
end
def Gi (L:List Nat) (σ σ':St):Prop:=∀i∈L,σ'[i]?=σ[i]?
def nD (L:List Nat) (D:dI) (σ:St):dI:={ D with nx:=fun σ' H'=>Gi L σ σ'->D.nx σ' H' }
def tN (L:List Nat) (K:Fg) (W:XW) (g:FS):TS:=fun D σ H=>tS K W g (nD L D σ) σ H
section
variable {K:Fg} {W:XW} {σ:St} {H:Hp} {D:dI} {fa fb fk:F1} {g g1 g2:FS} {c:FB} {L:List Nat}
theorem yW {i:Nat} {x:Option V} (h:i∉L):Gi L σ (σ.set i x):=fun j hj=>getElem?_set_ne (fun z:i=j=>h (by rw [z];exact hj))
theorem yb:(nD L D σ).nx σ=D.nx σ:=funext fun _=>propext ⟨fun h=>h fun _ _=>rfl,fun h _=>h⟩
theorem J1 {R:(Hp->Prop)->Prop} (h:R ((nD L D σ).nx σ)):R (D.nx σ):=yb (L:=L) (D:=D) (σ:=σ)▸h
theorem oZ {D':dI} (h:tS K W g D σ H) (h1:∀σ' H',D.nx σ' H'->D'.nx σ' H') (h2:D'.rt=D.rt) (h3:D'.bk=D.bk) (h4:D'.ct=D.ct):tS K W g D' σ H:=by
 obtain ⟨He,O,Fs,Γ,E,h⟩:=h;refine ⟨He,O,Fs,Γ,E,?_⟩
 cases e:g Γ with
 | nx Γ'=>rw [e] at h;exact fun σ' H' Fs' E'=>h1 _ _ (h σ' H' Fs' E')
 | bk Γ'=>rw [e] at h;exact fun σ' H' Fs' E'=>by rw [h3];exact h σ' H' Fs' E'
 | ct Γ'=>rw [e] at h;exact fun σ' H' Fs' E'=>by rw [h4];exact h σ' H' Fs' E'
 | rt p=>rw [e] at h;exact fun v H' G r=>by rw [h2];exact h v H' G r
 | er c Γ'=>rw [e] at h;exact h
 | no=>rw [e] at h;exact h
theorem Cb {σ1:St} (h:Gi L σ σ1):nD L D σ1=nD L D σ:=by
 unfold nD;congr 1
 funext σ' H'
 have:Gi L σ1 σ'↔Gi L σ σ':=⟨fun z i hi=>(z i hi).trans (h i hi),fun z i hi=>(z i hi).trans (h i hi).symm⟩
 rw [propext this]
theorem xA (h:tN L K W (av g1 g2) D σ H):AK (tN L K W g1) (tN L K W g2) D σ H:=by
 have h:=uq h
 refine oZ (D':=nD L { D with nx:=tN L K W g2 D } σ) h (fun σ1 H1 z a=>?_) rfl rfl rfl
 show tS K W g2 (nD L D σ1) σ1 H1
 rw [Cb a];exact z
theorem uu (h:tN L K W aG D σ H):t6 D σ H:=J1 (L:=L) (R:=fun P=>P H) (pB h)
theorem Bk (h:tN L K W (bF c g1 g2) D σ H):AO (tT K W c) (tN L K W g1) (tN L K W g2) D σ H:=uw h
theorem xx {own:Bool} {i:Nat} (hi:i∉L) (h:tN L K W (aA own i fa) D σ H):lB (tE K W fa) (L2.gName i) D σ H:=by
 have h:tE K W fa σ H fun v H1=>(nD L D σ).nx (σ.set i (some v)) H1:=GG h
 have e:(fun v H1=>(nD L D σ).nx (σ.set i (some v)) H1)=fun v H1=>D.nx (σ.set i (some v)) H1:=funext fun v=>funext fun H1=>propext ⟨fun z=>z (yW hi),fun z _=>z⟩
 rw [e] at h;exact h
end
structure Kv (K:Fg) (He:Hp) (O:List Addr) (ss:List Sh) (vs:List V) (ds:List PySem.PyData) (H:Hp) (Gs:List (List Addr)):Prop where
 same:Same He H
 lg:Gs.length=ss.length
 ld:ds.length=ss.length
 nd:Gs.flatten.Nodup
 inH:∀a∈Gs.flatten,H a≠none
 fresh:∀a∈Gs.flatten,He a=none
 own:∀(i:Nat) v d G s,vs[i]?=some v->ds[i]?=some d->Gs[i]?=some G->ss[i]?=some s->Own K (Gs.flatten++O) H s G v d
abbrev Af (x:Str) (s:Stmt) (ps:List Str) (us:List Value):Prop:=∀(kV doc pm:Value) (an:Option Addr) (cdv ct:Value),bindArgs (PySem.W.fnOf x x (Dz s) (qz s) (hV s) .none kV doc pm an cdv ct) ⟨us,[]⟩=pure (ps.zip us)
abbrev qu (x:Str) (s:Stmt) (ps:List Str):Prop:=∀us:List Value,us.length=ps.length->Af x s ps us
section
variable {x:Str} {s:Stmt} {p1 p2 p3 p4 p5 p6:Str}
theorem sD (h:∀a,Af x s [p1] [a]:=by exact fun _ _ _ _ _ _ _=>rfl):qu x s [p1]:=fun us hl=>match us,hl with | [_],_=>h _
theorem mY (h:∀a b,Af x s [p1,p2] [a,b]:=by exact fun _ _ _ _ _ _ _ _=>rfl):qu x s [p1,p2]:=fun us hl=>match us,hl with | [_,_],_=>h _ _
theorem vT (h:∀a b c,Af x s [p1,p2,p3] [a,b,c]:=by exact fun _ _ _ _ _ _ _ _ _=>rfl):qu x s [p1,p2,p3]:=fun us hl=>match us,hl with | [_,_,_],_=>h _ _ _
theorem HU (h:∀a b c d,Af x s [p1,p2,p3,p4] [a,b,c,d]:=by exact fun _ _ _ _ _ _ _ _ _ _=>rfl):qu x s [p1,p2,p3,p4]:=fun us hl=>match us,hl with | [_,_,_,_],_=>h _ _ _ _
theorem Lg (h:∀a b c d e,Af x s [p1,p2,p3,p4,p5] [a,b,c,d,e]:=by exact fun _ _ _ _ _ _ _ _ _ _ _=>rfl):qu x s [p1,p2,p3,p4,p5]:=fun us hl=>match us,hl with | [_,_,_,_,_],_=>h _ _ _ _ _
theorem Lf (h:∀a b c d e f,Af x s [p1,p2,p3,p4,p5,p6] [a,b,c,d,e,f]:=by exact fun _ _ _ _ _ _ _ _ _ _ _ _=>rfl):qu x s [p1,p2,p3,p4,p5,p6]:=fun us hl=>match us,hl with | [_,_,_,_,_,_],_=>h _ _ _ _ _ _
end
def Ft (K:Fg) (mg:Str->Option Value) (n:Str) (s:Stmt):Prop:=∃f fd,mg n=some (.ref f)/\Fun K n n s f fd
theorem ft {K:Fg} {h:Heap} {mg:Str->Option Value} {n:Str} {s:Stmt} {f:Addr} {od an:Option Addr} {sl:Array (Option Value)} {oc kV dc pm cd ct:Value} (X:K.In h) (G:h.Ns mainGlobals mg) (a:PySem.W.nsIn K mainGlobals n=some (some (.ref f))) (l:K.lookup f=some ⟨oc,od,.func (PySem.W.fnOf n n (Dz s) (qz s) (hV s) .none kV dc pm an cd ct),sl⟩) (c:PySem.W.codeIn K cd n=true) (k:PySem.W.keepIn K (.ref f)=true):Ft K mg n s:=⟨f,_,PySem.W.mg_of X G a,C1 (st:=s) l c k⟩
theorem D1 {K:Fg} {x:Str} {st:Stmt} {f:Addr} {fd:FuncData} {ps:List Str} (F:Fun K x x st f fd) (b:qu x st ps):Binds K fd ps []:=F.binds fun kV doc pm an cdv ct us hl=>b us hl kV doc pm an cdv ct
def nZ (vs cs:List Nat):List Nat:=vs.filter fun i=>!cs.contains i
def fB (N gl ps:List Str) (vs cs gs:List Nat) (s:Stmt):Bool:=vQ N gl vs cs vs (nZ vs cs) gs (hV s)&&DI N gl&&(!(hV s).isCoroutine&&!(hV s).isGenerator&&decide (N.take ps.length=ps)&&(ps.all fun x=>za (hV s) [.local,.cell] (some x))&&((hV s).names.all fun y=>!decide (y.2=.free)))
theorem qf {N gl ps:List Str} {vs cs gs:List Nat} {s:Stmt} (h:fB N gl ps vs cs gs s=true):vQ N gl vs cs vs (nZ vs cs) gs (hV s)=true/\DI N gl=true/\dW N ps (hV s):=by
 unfold fB at h;simp only [Bool.and_eq_true,decide_eq_true_eq,all_eq_true,Bool.not_eq_true',decide_eq_false_iff_not] at h
 obtain ⟨⟨h1,h2⟩,⟨⟨⟨h3,h4⟩,h5⟩,h6⟩,h7⟩:=h;refine ⟨h1,h2,(D2 h1).kind,h3,h4,(GC h2).1,h5,fun x hx=>?_,h7⟩
 obtain ⟨k,hk,q⟩:=DD (h6 x hx);simp only [mem_cons,not_mem_nil,or_false] at hk
 rcases hk with rfl | rfl
 ·exact .inl q
 ·exact .inr q
structure In (p:Fg->(Str->Option Value)->Prop) (X:Cx) (P:Program) (w:World) (K:Fg) (mg:Str->Option Value) (base:Heap) (k:Nat):Prop where
 e1:X.prog=P
 e2:X.w=w
 e3:X.K=K
 e4:X.mg=mg
 e5:X.base=base
 rm:Room k X.A
 pp:p K mg
section
variable {p:Fg->(Str->Option Value)->Prop} {X Y:Cx} {P:Program} {w:World} {K:Fg} {mg:Str->Option Value} {base:Heap} {j k n:Nat} {x:Str} {s:Stmt} {ps:List Str} {g:FS} {den:List PySem.PyData->Res} {ss:List Sh}
theorem In.r (I:In p X P w K mg base k):Rm X:=I.rm.units
theorem In.e (I:In p X P w K mg base k):p X.K X.mg:=by rw [I.e3,I.e4];exact I.pp
theorem In.c (I:In p X P w K mg base k) (h:DefOk P w K mg base j x n den) (hj:decide (j<=k)=true:=by first | exact rfl | exact decide_eq_true (by omega)):DP X x n den:=by
 obtain ⟨rfl,rfl,rfl,rfl,rfl,r,_⟩:=I;exact h.cal r hj
theorem Fx.i (F:Fx X Y) (I:In p X P w K mg base k):In p Y P w K mg base k:=⟨F.prog.trans I.e1,F.w.trans I.e2,F.K.trans I.e3,F.mg.trans I.e4,F.base.trans I.e5,by rw [F.A];exact I.rm,I.pp⟩
abbrev Bd (p:Fg->(Str->Option Value)->Prop) (P:Program) (w:World) (K:Fg) (mg:Str->Option Value) (base:Heap) (k:Nat) (N gl:List Str) (vs cs gs:List Nat) (s:Stmt) (g:FS):Prop:=∀X:Cx,Cp X N gl vs cs vs (nZ vs cs) gs->In p X P w K mg base k->PassesOwn (model X.prog X.w) X.A X.env X.xe->TQ.Q (PSs X (qz s) (tS X.K W0 g))
theorem Lz (F:Ft K mg x s) (b:qu x s ps):DefOk P w K mg base j x ps.length (fun _=>.no):=by
 obtain ⟨f,fd,hm,F⟩:=F;exact ⟨f,fd,ps,FQ,hm,F.kp,D1 F b⟩
theorem Ly {f:Addr} {fd:FuncData} (F:Fun K x x s f fd) (e:p K mg) (N gl:List Str) (vs cs gs:List Nat) (h:fB N gl ps vs cs gs s=true) (hb:Bd p P w K mg base k N gl vs cs gs s g):du P w K mg base j8 (k+1) f fd ps (o8 K ps.length (aD N.length g)):=by
 obtain ⟨h1,h2,h3⟩:=qf h;exact vz F h3 fun cdv A outer s H E hr=>(hb _ (Cp.fn h1 h2) ⟨rfl,rfl,rfl,rfl,rfl,hr,e⟩ PassesOwn.never).p
theorem mk (F:Ft K mg x s) (e:p K mg) (ps:List Str) (b:qu x s ps) (rs gl:List Str) (vs cs gs:List Nat) (hb:Bd p P w K mg base k (ps++rs) gl vs cs gs s g) (h:fB (ps++rs) gl ps vs cs gs s=true:=by kernel_rfl):DefOk P w K mg base (k+1) x ps.length (aD (ps++rs).length g):=by
 obtain ⟨f,fd,hm,F⟩:=F;exact ⟨f,fd,ps,Ly F e _ gl vs cs gs h hb,hm,F.kp,D1 F b⟩
section
variable {h:Heap} {a:Addr} {dd:Option Addr} {its:Array Value} {n:Nat} {sl:Array (Option Value)} {ds:List PySem.PyData} (KX:K.In h) (G:h.Ns mainGlobals mg)
include KX G
theorem gn (z:PySem.W.nsIn K mainGlobals x=some none):mg x=none:=PySem.W.mg_none_of KX G z
theorem gi {i:Int} {t:Tok} (z:PySem.W.nsIn K mainGlobals x=some (some (.int i t))):gk K mg x (.int i):=yK (PySem.W.mg_of KX G z)
theorem gt (z:PySem.W.nsIn K mainGlobals x=some (some (.ref a))) (l:K.lookup a=some ⟨.type "tuple",dd,.seq its n,sl⟩) (c:De its ds=true):gk K mg x (.tuple ds):=yI (PySem.W.mg_of KX G z) l c
theorem gd {es:Array DictEntry} {ep:Nat} {tab:List (Str×Int)} (z:PySem.W.nsIn K mainGlobals x=some (some (.ref a))) (l:K.lookup a=some ⟨.type "dict",none,.dict es ep,#[]⟩) (c:tX a es tab=true):qr K mg x tab:=yJ (PySem.W.mg_of KX G z) l c
end
theorem walkG {m:List PySem.PyData->Res} {l:PySem.W.OpenLaw} {q:Program} {loose:List Str} {XP:(Str->Option Value)->Heap->Prop} {YP:World->Heap->Prop} {d:DefRec} {K:Params->Fg} (lt:∀ns:List Int,ns.length<=63->m [.list (ns.map .int)]=.ok ⟨.leaf,.bool true⟩) (hr:Room j callerA) (hn:l.most=some 63) (hdf:d.params.defaults=[])
  (hY:∀(w:World) (h:Heap),YP w h->(K w.params).In h)
  (F:∀(w:World) (mg:Str->Option Value) (fa:Addr) (h:Heap),(K w.params).In h->h.Ns mainGlobals mg->mg d.name=some (.ref fa) ->
   ∃fd:FuncData,(∀(s:Shared) (u:Value),BindsTo s fd ⟨[u],[]⟩ [("script",u)])/\∀base:Heap,(K w.params).In base->base.Ns mainGlobals mg->du l.prog w (K w.params) mg base j8 j fa fd ["script"] (o8 (K w.params) 1 m)) :
  PySem.W.WalkO q loose XP YP l.row.toRowW d [] (fun f vs=>PySem.call f vs):=
 L2.walk_of (n:=63) (k:=j) (x := "script") (CX:=fun _=>j8) (sp:=fun w=>o8 (K w.params) 1 m) hn (by decide) hdf hr hY F (fun _ _ a ns hl _ hS=>Cg (lt ns hl) hS) fun _ _ _ _ _ z=>z
end
end T
namespace TQ
open PySem PySem.Spec L2 T
open PyProof.Rows hiding St
section
variable {X:Cx} {N gl:List Str} {vs cs ls lo gs:List Nat} {W:XW} {a b c e:Expr} {es:List Expr} {pos p:Pos} {fa fb fc:F1} {fl:FL} {ga gb:FB} {g1 g2 g:FS}
theorem ao (S:Cp X N gl vs cs ls lo gs) (i:Nat) {x:Str} (hN:N[i]?=some x:=by exact rfl) (hv:vs.contains i=true:=by exact rfl):Q (PE X (.Name x pos) (tE X.K W (af i))):=Jm S i hN hv
theorem aK (ha:Q (PE X e (tE X.K W fa))) (hr:Q (PA X es (tA X.K W fl))) (hs:wq e=false:=by exact rfl):Q (PA X (e::es) (tA X.K W (ae fa fl))):=jB ha hr (fJ hs)
theorem aJ (ha:Q (PE X e (tE X.K W fa))) (hs:wq e=false:=by exact rfl):Q (PA X [e] (tA X.K W (ae fa ag))):=jB ha kT (fJ hs)
theorem bj (ha:Q (PE X a (tE X.K W fa))) (hb:Q (PE X b (tE X.K W fb))) (hs:GP b:=by exact fun _ _=>rfl):Q (PE X (.Subscript a b pos) (tE X.K W (ai fa fb))):=tB ha hb hs
theorem bR {x:Str} {n:Nat} {den:List PySem.PyData->Res} (S:Cp X N gl vs cs ls lo gs) (j:Nat) (C:DP X x n den) (ha:Q (PA X (e::es) (tA X.K W fl))) (hj:gl[j]?=some x:=by exact rfl) (hg:gs.contains j=true:=by exact rfl) (he:wq e=false:=by exact rfl) (hpl:(backTo pos (starEach es X.env)).any (·.1)=false:=by exact rfl):Q (PE X (.Call (.Name x p) (e::es) [] pos) (tE X.K W (ak n den fl))):=Jq S j hj hg C ha (fJ he) hpl
theorem b7 (S:Cp X N gl vs cs ls lo gs) (own:Bool) (i:Nat) {x:Str} {pos':Pos} (ha:Q (PE X a (tE X.K W fa))) (hi:N[i]?=some x:=by exact rfl) (hl:ls.contains i=true:=by exact rfl) (hs:swapsWith a (some (.Name x pos')) pos.line X.env=pure false:=by exact rfl):Q (PS X (.Assign [.Name x pos'] a pos) (tS X.K W (aA own i fa))):=Jb S own i hi hl hs ha
theorem fK (S:Cp X N gl vs cs ls lo gs) (j:Nat) (hm:X.mg "len"=none) (ha:Q (PA X (e::es) (tA X.K W fl))) (hj:gl[j]?=some ("len":Str):=by exact rfl) (hg:gs.contains j=true:=by exact rfl) (he:wq e=false:=by exact rfl) (hpl:(backTo pos (starEach es X.env)).any (·.1)=false:=by exact rfl):Q (PE X (.Call (.Name "len" p) (e::es) [] pos) (tE X.K W (bw aT fl))):=tL S j hj hg hm ha (fJ he) hpl
theorem ck {op:CmpOp} {r:R2} {g:PySem.PyData->PySem.PyData->Option PySem.PyData} (k:Ck X op r g) (ha:Q (PE X a (tE X.K W fa))) (hb:Q (PE X b (tE X.K W fb))) (hm:behindInMarks op b=false:=by with_unfolding_all rfl):Q (PT X (.Compare a [op] [b] pos) (tT X.K W (aN ax (az g fa fb)))):=Jn k ha hb hm
theorem fz {op:CmpOp} {r:R2} {g:PySem.PyData->PySem.PyData->Option PySem.PyData} (k:Ck X op r g) (ha:Q (PE X a (tE X.K W fa))) (hb:Q (PE X b (tE X.K W fb))) (hm:behindInMarks op b=false:=by with_unfolding_all rfl):Q (PE X (.Compare a [op] [b] pos) (tE X.K W (az g fa fb))):=Jp k ha hb hm
theorem bP (ha:Q (PE X a (tE X.K W fa))):Q (PSs X [.Return (some a) pos] (tS X.K W (aI fa))):=dy (tw ha)
theorem il {scope:Scope} {x:Str} {px:Pos} {iter elt:Expr} {ifs:List Expr} {fi:FI} {fe:F1} {fc:FB} (vs' cs' gs':List Nat) (S:Cp X N gl vs cs ls lo gs) (i:Nat) (hi':Q (PI X (.Name x px) iter (tI X.K W fi))) (hc:zW X N gl vs' cs' [i] [] gs' fun Y=>Q (PF Y ifs (tT Y.K W0 fc))) (he:zW X N gl vs' cs' [i] [] gs' fun Y=>Q (PE Y elt (tE Y.K W0 fe))) (hx:N[i]?=some x:=by exact rfl) (h1:jY N i cs scope=true:=by kernel_rfl) (h2:vQ N gl vs' cs' [i] [] gs' scope=true:=by kernel_rfl) (hs:∀x,foldedSetIterable iter X.env x=pure x:=by exact fun _=>rfl):Q (PE X (.ListComp elt [⟨.Name x px,iter,ifs,0⟩] scope pos) (tE X.K W (aC .leaf i fi fc fe))):=Jo S .leaf i hx h1 h2 hi' hc he hs
end
end TQ
namespace T
open PySem PySem.Spec L2
open PyProof.Rows hiding St
def wX (mg:Str->Option Value) (E:XK):XW:=fun c _ H'=>∀C,mg c=some (.ref C)->E (.ref C) none H'
def Hz (K:Fg) (mg:Str->Option Value) (n:Nat) (den:List PySem.PyData->Res):Sp:=fun vs H Q E=>vs.length=n/\∃O ds,O.Nodup/\(∀a∈O,H a≠none)/\Reps K (cI H O) vs ds/\match den ds with
 | .ok p=>∀v H' G,RetOk K H O p v H' G->Q v H'
 | .er c=>∀C H',mg c=some (.ref C)->Same H H'->E (.ref C) none H'
 | .no=>False
section
variable {P:Program} {w:World} {K:Fg} {mg:Str->Option Value} {base:Heap}
theorem yt {x qual:Str} {st:Stmt} {f:Addr} {fd:FuncData} {N ps:List Str} {k:Nat} {g:FS} (F:Fun K x qual st f fd) (S:dW N ps (hV st))
  (hb:∀(cdv:Value) (A:Around) (outer:List Env) (s:Shared) (H:Hp) (E:XK),Room k (A.deeper (envOfC qual (hV st) s.heap.objs.size f cdv)) ->
   PSs (eT (sT P w) P w K mg base N qual (hV st) f cdv A outer s H E) (qz st) (tS K (wX mg E) g)):du P w K mg base (sT P w) (k+1) f fd ps (Hz K mg ps.length (aD N.length g)):=by
 have hpl:ps.length<=N.length:=by have:=congrArg List.length S.pre;rw [length_take] at this;omega
 obtain ⟨oc,od,kV,doc,pm,an,cdv,ct,osl,rfl,lk,hcd⟩:=F.ex;refine zR lk hcd S (fun vs H Q E h=>h.1) fun A outer s H vs Q E hr h=>⟨_,hb cdv A outer s H E hr,?_⟩
 obtain ⟨hl,O,ds,nd,inH,rs,w⟩:=h;refine ⟨H,O,List.replicate N.length [],aQ N.length ds,jU (by omega) nd inH rs,?_⟩
 unfold aD at w
 cases e:g (aQ N.length ds) with
 | nx Γ'=>
  rw [e] at w;exact fun σ' H' Fs' E'=>w .non H' [] ⟨E'.same,(fun _ z=>nomatch z),(fun _ z=>nomatch z),nodup_nil,.leaf .non,rfl⟩
 | rt p=>rw [e] at w;exact w
 | bk Γ'=>rw [e] at w;exact w.elim
 | ct Γ'=>rw [e] at w;exact w.elim
 | er c Γ'=>rw [e] at w;exact fun σ' H' Fs' E' C hC=>w C H' hC E'.same
 | no=>rw [e] at w;exact w.elim
end
def DefOkX (P:Program) (w:World) (K:Fg) (mg:Str->Option Value) (base:Heap) (j:Nat) (x:Str) (n:Nat) (den:List PySem.PyData->Res):Prop:=
 ∃(f:Addr) (fd:FuncData) (ps:List Str),du P w K mg base (sT P w) j f fd ps (Hz K mg n den)/\mg x=some (.ref f)/\PySem.W.keepIn K (.ref f)=true/\Binds K fd ps []
def y7 (X:Cx) (x:Str) (n:Nat) (den:List PySem.PyData->Res):Prop:=∃(k:Nat) (f:Addr) (fd:FuncData) (ps:List Str),du X.prog X.w X.K X.mg X.base (sT X.prog X.w) k f fd ps (Hz X.K X.mg n den)/\Room k X.A/\X.mg x=some (.ref f)/\PySem.W.keepIn X.K (.ref f)=true/\Binds X.K fd ps []
theorem DefOkX.cal {X:Cx} {j k n:Nat} {x:Str} {den:List PySem.PyData->Res} (h:DefOkX X.prog X.w X.K X.mg X.base j x n den) (hr:Room k X.A) (hj:decide (j<=k)=true):y7 X x n den:=by
 obtain ⟨f,fd,ps,F,a,b,c⟩:=h;exact ⟨j,f,fd,ps,F,hr.mono (of_decide_eq_true hj),a,b,c⟩
def fL (n:Nat) (den:List PySem.PyData->Res) (fl:FL):F1:=fun Γ=>(fl Γ).bind fun ps Γ'=>if ps.length=n then (match den (ps.map (·.d)) with
 | .ok p=>if ps.all (T.coer .leaf) then .ok p Γ' else if bu p.d then .ok ⟨.leaf,p.d⟩ Γ' else .ok ⟨.view,p.d⟩ Γ'
 | .er c=>.er c Γ'
 | .no=>.no) else .no
section
variable {K:Fg} {W:XW} {σ:St} {H:Hp} {Q:VK} {fl:FL}
theorem uA {mg:Str->Option Value} {n:Nat} {den:List PySem.PyData->Res} {EE:St->XK} (hW:∀c σ H' C,W c σ H'->mg c=some (.ref C)->EE σ (.ref C) none H') (h:tE K W (fL n den fl) σ H Q):t8 (Hz K mg n den) EE (tA K W fl) σ H Q:=by
 obtain ⟨He,O,Fs,Γ,E0,h⟩:=h;refine ⟨He,O,Fs,Γ,E0,?_⟩
 unfold fL at h
 cases e:fl Γ with
 | er c Γ'=>rw [e] at h;exact h
 | no=>rw [e] at h;exact h
 | ok ps Γ1=>
  rw [e] at h;intro vs H1 Gs Fs1 A;have h:Wants K W He O Fs H σ Q (if ps.length=n then (match den (ps.map (·.d)) with | .ok p=>if ps.all (T.coer .leaf) then .ok p Γ1 else if bu p.d then .ok ⟨.leaf,p.d⟩ Γ1 else .ok ⟨.view,p.d⟩ Γ1 | .er c=>.er c Γ1 | .no=>.no) else .no):=h
  by_cases hn:ps.length=n
  case neg=>rw [if_neg hn] at h;exact h.elim
  rw [if_pos hn] at h;have hl:vs.length=n:=by rw [A.len1];exact hn
  cases ed:den (ps.map (·.d)) with
  | er c=>
   rw [ed] at h;have h:Wants K W He O Fs H σ Q (.er c Γ1):=h
   refine ⟨hl,[],ps.map (·.d),nodup_nil,(fun _ z=>nomatch z),by rw [D5];exact A.reps,?_⟩
   rw [ed];exact fun C H' hC sm=>hW c σ H' C (h H' Fs1 (A.same.trans sm) (A.env.dropL.grow sm)) hC
  | no=>rw [ed] at h;exact h.elim
  | ok p=>
   rw [ed] at h;have h:Wants K W He O Fs H σ Q (if ps.all (T.coer .leaf) then .ok p Γ1 else if bu p.d then .ok ⟨.leaf,p.d⟩ Γ1 else .ok ⟨.view,p.d⟩ Γ1):=h
   obtain ⟨n1,n2,n3⟩:=List.nodup_append.mp A.env.nd;obtain ⟨m1,m2,m3⟩:=List.nodup_append.mp n1;have newF:∀a∈Fs1.flatten,a∈Fs.flatten\/H a=none:=fun a ha=>A.new a (mem_append_right _ ha)
   cases hc:ps.all (T.coer .leaf) with
   | true=>
    rw [hc] at h;have h:Wants K W He O Fs H σ Q (.ok p Γ1):=h
    refine ⟨hl,O++Fs1.flatten,ps.map (·.d),A.env.dropL.nd,A.env.dropL.inH,?_,?_⟩
    ·refine ⟨A.reps.1,fun i v d h1 h2=>?_⟩
     rw [getElem?_map] at h2
     cases e2:ps[i]? with
     | none=>rw [e2] at h2;cases h2
     | some q=>
      rw [e2] at h2
      cases h2;have hi:=(List.getElem?_eq_some_iff.mp e2).1
      have e3:Gs[i]?=some (Gs[i]'(by rw [A.len2];exact hi)):=getElem?_eq_getElem _
      have o:=A.own i v q _ h1 e2 e3
      have o2:=o.coer (s:=.leaf) (O':=O++Fs1.flatten) (List.all_eq_true.mp hc q (mem_of_getElem? e2)) gQ fun a ha z=>by
       exfalso
       have hG:=kY e3 ha
       rcases List.mem_append.mp z with y | y
       ·exact m3 a hG a y rfl
       ·exact n3 a (mem_append_left _ hG) a y rfl
      cases o2 with
      | leaf r=>exact r
    ·rw [ed]
     intro v H2 G r;refine h v H2 G Fs1 ⟨A.same.trans r.same,A.env.dropL.hide r.same r.nd r.fresh r.inH,fun a ha=>?_,by rw [append_assoc];exact r.own⟩
     rcases List.mem_append.mp ha with z | z
     ·exact .inr (A.same.free (r.fresh a z))
     ·exact newF a z
   | false=>
    rw [hc] at h;have h:Wants K W He O Fs H σ Q (if bu p.d then .ok ⟨.leaf,p.d⟩ Γ1 else .ok ⟨.view,p.d⟩ Γ1):=h
    refine ⟨hl,[],ps.map (·.d),nodup_nil,(fun _ z=>nomatch z),by rw [D5];exact A.reps,?_⟩
    rw [ed];intro v H2 G r
    cases hs:bu p.d with
    | true=>
     rw [hs] at h;exact Wants.scal h (r.own.rep.sc hs) (A.same.trans r.same) (A.env.dropL.grow r.same) (fun a ha=>ha) E0.ndO newF
    | false=>
     rw [hs] at h;have h:Wants K W He O Fs H σ Q (.ok ⟨.view,p.d⟩ Γ1):=h
     exact h v H2 [] Fs1 ⟨A.same.trans r.same,by simpa using A.env.dropL.grow r.same,by simpa using newF,.view r.own.rep⟩
end
def Gk (X:Cx) (W:XW):Prop:=∃EE:St->XK,GO (sT X.prog X.w) X EE/\∀c σ H' C,W c σ H'->X.mg c=some (.ref C)->EE σ (.ref C) none H'
def HY (X:Cx) (W:XW):Prop:=∃E:XK,Makes X E/\∀c σ H' C,W c σ H'->X.mg c=some (.ref C)->E (.ref C) none H'
theorem Jv {P:Program} {w:World} {K:Fg} {mg:Str->Option Value} {base:Heap} {N:List Str} {qual:Str} {sc:Scope} {f:Addr} {cd:Value} {A:Around} {outer:List Env} {s:Shared} {H:Hp} {E:XK} :
  Gk (eT (sT P w) P w K mg base N qual sc f cd A outer s H E) (wX mg E):=
 ⟨fun _=>E,fun pins σ H s e s' I h=>Fl (fun _ _ _ z=>z) pins σ H s e s' I h,fun c σ H' C h hC=>h C hC⟩
theorem J5 {P:Program} {w:World} {K:Fg} {mg:Str->Option Value} {base:Heap} {N:List Str} {qual:Str} {sc:Scope} {f:Addr} {cd:Value} {A:Around} {outer:List Env} {s:Shared} {H:Hp} {E:XK} :
  HY (eT (sT P w) P w K mg base N qual sc f cd A outer s H E) (wX mg E):=
 ⟨E,Ce fun _ _ _ z=>z,fun c σ H' C h hC=>h C hC⟩
section
variable {X:Cx} {N gl:List Str} {vs cs ls lo gs:List Nat} {W:XW} {a b c e:Expr} {es:List Expr} {pos p:Pos} {fa fb fc:F1} {fl:FL}
theorem Kl {x:Str} {n:Nat} {den:List PySem.PyData->Res} (S:Cp X N gl vs cs ls lo gs) (j:Nat) (hj:gl[j]?=some x) (hg:gs.contains j=true) (C:y7 X x n den) (th:Gk X W) (ha:PA X (e::es) (tA X.K W fl)) (he:starEach (e::es) X.env=(false,eval e X.env)::starEach es X.env) (hpl:(backTo pos (starEach es X.env)).any (·.1)=false) :
  PE X (.Call (.Name x p) (e::es) [] pos) (tE X.K W (fL n den fl)):=by
 obtain ⟨k,f,fd,ps,F,hr,hm,hk,hb⟩:=C;obtain ⟨EE,hx,hW⟩:=th;exact aX (uV F hr (S.g hj hg).1 hm hk hb hx ha (S.g hj hg).2.1 he hpl) fun _ _ _=>uA hW
def sE (mg:Str->Option Value) (base:Heap) (x:Str):Prop:=∃C,OwnCls x C [.type "ValueError",.type "Exception",.type "BaseException",.type "object"] "ValueError.__new__" mg base
def wM (c:Str):FS:=fun Γ=>.er c Γ
theorem vN {x m:Str} {np cpos mp:Pos} {mk:Nat} (S:Cp X N gl vs cs ls lo gs) (j:Nat) (hj:gl[j]?=some x) (hg:gs.contains j=true) (R:sE X.mg X.base x) (mk':HY X W) :
  PS X (.Raise (some (.Call (.Name x np) [.Constant (.str m) mk mp] [] cpos)) none pos) (tS X.K W (wM x)):=by
 obtain ⟨C,O⟩:=R;obtain ⟨E,hM,hW⟩:=mk'
 have ha:PA X [.Constant (.str m) mk mp] (tA X.K W (ae (eK (.str m)) ag)):=da_cons de_str da_nil rfl
 refine cw (uN S.calm O F.excBase_ValueError (by decide) F.excBase_ValueError (S.g hj hg).1 hM ha rfl rfl (S.g hj hg).2.1) fun D σ H h=>?_
 obtain ⟨He,O',Fs,Γ,E0,h⟩:=h;refine ⟨He,O',Fs,Γ,E0,?_⟩
 show ∀vs H1 Gs Fs1,_->_
 intro vs H1 Gs Fs1 A;refine ⟨?_,hW x σ H1 C (h σ H1 Fs1 A.env.dropL) O.bound⟩
 rw [A.len1];exact (by decide:1<=sizeLine)
theorem Dd {sts:List Stmt} {t:TS} (h:PSs X.nox sts t):PSs X sts t:=h.nox
theorem Cp.nox (S:Cp X N gl vs cs ls lo gs):Cp X.nox N gl vs cs ls lo gs:=⟨S.hN,S.nd,S.nm,S.ng,S.vis,S.cel,S.loc,S.loo,S.glb,S.calm,S.kind⟩
end
theorem Cp.fnX {P:Program} {w:World} {K:Fg} {mg:Str->Option Value} {base:Heap} {N gl:List Str} {vs cs ls lo gs:List Nat} {qual:Str} {sc:Scope} {f:Addr} {cd:Value} {A:Around} {outer:List Env} {s:Shared} {H:Hp} {E:XK}
  (h:vQ N gl vs cs ls lo gs sc=true) (h':DI N gl=true):Cp (eT (sT P w) P w K mg base N qual sc f cd A outer s H E) N gl vs cs ls lo gs:=by
 obtain ⟨a,b,c⟩:=GC h'
 have q:=D2 h
 exact ⟨rfl,a,b,c,q.vis,q.cel,fun i x e hi=>⟨q.loc i x e hi,.inl rfl⟩,q.loo,q.glb,rfl,q.kind⟩
section
variable {p:Fg->(Str->Option Value)->Prop} {X Y:Cx} {P:Program} {w:World} {K:Fg} {mg:Str->Option Value} {base:Heap} {j k n:Nat} {y:Str} {s:Stmt} {ps:List Str} {g:FS} {den:List PySem.PyData->Res}
theorem In.x (I:In p X P w K mg base k) (h:DefOkX P w K mg base j y n den) (hj:decide (j<=k)=true:=by first | exact rfl | exact decide_eq_true (by omega)):y7 X y n den:=by
 obtain ⟨rfl,rfl,rfl,rfl,rfl,r,_⟩:=I;exact h.cal r hj
theorem In.nox (I:In p X P w K mg base k):In p X.nox P w K mg base k:=⟨I.e1,I.e2,I.e3,I.e4,I.e5,I.rm,I.pp⟩
theorem In.ra (I:In p X P w K mg base k) (h:sE mg base y):sE X.mg X.base y:=by rw [I.e4,I.e5];exact h
abbrev LQ (p:Fg->(Str->Option Value)->Prop) (P:Program) (w:World) (K:Fg) (mg:Str->Option Value) (base:Heap) (k:Nat) (N gl:List Str) (vs cs gs:List Nat) (s:Stmt) (g:FS):Prop:=∀(X:Cx) (W:XW),Cp X N gl vs cs vs (nZ vs cs) gs->In p X P w K mg base k->Gk X W->HY X W->TQ.Q (PSs X (qz s) (tS X.K W g))
theorem sP (F:Ft K mg y s) (e:p K mg) (ps:List Str) (b:qu y s ps) (rs gl:List Str) (vs cs gs:List Nat) (hb:LQ p P w K mg base k (ps++rs) gl vs cs gs s g) (h:fB (ps++rs) gl ps vs cs gs s=true:=by kernel_rfl):DefOkX P w K mg base (k+1) y ps.length (aD (ps++rs).length g):=by
 obtain ⟨f,fd,hm,F⟩:=F;obtain ⟨h1,h2,h3⟩:=qf h;exact ⟨f,fd,ps,yt F h3 fun cdv A outer s H E hr=>(hb _ _ (Cp.fnX h1 h2) ⟨rfl,rfl,rfl,rfl,rfl,hr,e⟩ Jv J5).p,hm,F.kp,D1 F b⟩
theorem xK {h:Heap} {C:Addr} (KX:K.In base) (G:base.Ns mainGlobals mg) (e:PySem.W.nsIn K mainGlobals y=some (some (.ref C))) (q:PySem.W.excIn K C [.type "ValueError",.type "Exception",.type "BaseException",.type "object"] "ValueError.__new__"=true):sE mg base y:=by
 refine ⟨C,PySem.W.mg_of KX G e,?_⟩
 unfold PySem.W.excIn at q;split at q
 ·rename_i dd cd sl ho
  split at q
  ·rename_i C' bm k0 k1 k2 k3 n k5 hm hs
   simp only [Bool.and_eq_true,beq_iff_eq,Bool.not_eq_true'] at q
   obtain ⟨⟨⟨⟨⟨rfl,rfl⟩,hdel⟩,ht⟩,hok⟩,hni⟩:=q;obtain ⟨nm,bs,mro,ns,qn,hd,sn,sub,ab,col,del⟩:=cd;dsimp only at hm hdel hok hni
   subst hm hdel;have hsl:sl=#[k0,k1,k2,k3,some (.builtin "ValueError.__new__"),k5]:=by
    obtain ⟨l⟩:=sl;simp only at hs
    rw [hs]
   subst hsl;exact ⟨bm,ns,nm,qn,bs,hd,sn,sub,ab,col,dd,k0,k1,k2,k3,k5,_,KX _ _ ho,.of_isNs (PySem.W.isNs_of_in KX hok),PySem.W.nsMap_none_of_in KX hok hni,PySem.W.tail_of_in KX ht⟩
  ·cases q
 ·cases q
end
end T
namespace TQ
open PySem PySem.Spec L2 T
open PyProof.Rows hiding St
section
variable {X:Cx} {N gl:List Str} {vs cs ls lo gs:List Nat} {W:XW} {a b c e:Expr} {es:List Expr} {pos p:Pos} {fl:FL} {g:FS}
theorem ka {x:Str} {n:Nat} {den:List PySem.PyData->Res} (S:Cp X N gl vs cs ls lo gs) (th:Gk X W) (j:Nat) (C:y7 X x n den) (ha:Q (PA X (e::es) (tA X.K W fl))) (hj:gl[j]?=some x:=by exact rfl) (hg:gs.contains j=true:=by exact rfl) (he:wq e=false:=by exact rfl) (hpl:(backTo pos (starEach es X.env)).any (·.1)=false:=by exact rfl):Q (PE X (.Call (.Name x p) (e::es) [] pos) (tE X.K W (fL n den fl))):=⟨Kl S j hj hg C th ha.p (fJ he) hpl⟩
theorem Am {x m:Str} {np cpos mp:Pos} {mk:Nat} (S:Cp X N gl vs cs ls lo gs) (mk':HY X W) (j:Nat) (R:sE X.mg X.base x) (hj:gl[j]?=some x:=by exact rfl) (hg:gs.contains j=true:=by exact rfl):Q (PS X (.Raise (some (.Call (.Name x np) [.Constant (.str m) mk mp] [] cpos)) none pos) (tS X.K W (wM x))):=⟨vN S j hj hg R mk'⟩
theorem tF {sts:List Stmt} (h:Q (PSs X.nox sts (tS X.K W g))):Q (PSs X sts (tS X.K W g)):=⟨Dd h.p⟩
end
end TQ
namespace T
open PySem PySem.Spec L2 PySem.W
open PyProof.Rows hiding St
structure fH (K:Fg) (C:Addr):Prop where
 cl:(PySem.W.clsIn K C).isSome=true
 ga:PySem.W.findIn K (.ref C) "__getattribute__"=some (some (.builtin "BaseException.__getattribute__"))
 gn:PySem.W.findIn K (.ref C) "__getattr__"=some none
 gc:PySem.W.findIn K (.ref C) "__class__"=some (some (.builtin "object.__class__"))
 ob:PySem.W.mroIn K C (.type "object")=some true
 be:PySem.W.mroIn K C (.type "BaseException")=some true
def yu (K:Fg) (C:Addr):Bool:=(PySem.W.clsIn K C).isSome&&PySem.W.findIn K (.ref C) "__getattribute__"==some (some (.builtin "BaseException.__getattribute__"))&&PySem.W.findIn K (.ref C) "__getattr__"==some none &&
 PySem.W.findIn K (.ref C) "__class__"==some (some (.builtin "object.__class__"))&&PySem.W.mroIn K C (.type "object")==some true&&PySem.W.mroIn K C (.type "BaseException")==some true
theorem qg {K:Fg} {C:Addr} (h:yu K C=true):fH K C:=by
 unfold yu at h;simp only [Bool.and_eq_true,beq_iff_eq] at h
 obtain ⟨⟨⟨⟨⟨a,b⟩,c⟩,d⟩,e⟩,f⟩:=h;exact ⟨a,b,c,d,e,f⟩
def wo (x C:Addr) (h:Heap):Prop:=∃oe vs,h.get? x=some oe/\oe.cls=.ref C/\oe.data=.fields vs
section
variable {prog:Program} {w:World} {A:Around} {E:Value->Shared->Prop} {h:Heap} {g:Array GenState} {d:Drawn} {t:Nat} {os:OsState} {K:Fg} {x C:Addr} {o:Obj}
theorem u9 {Q:Bool->Shared->Prop} (X:K.In h) (Z:fH K C) (hx:h.get? x=some o) (hc:o.cls=.ref C) {T:Value} {b:Bool} (hm:PySem.W.mroIn K C T=some b) (hq:Q b ⟨h,g,d,t,os⟩):wpAny (model prog w) A (isInstance (.ref x) T) Q E ⟨h,g,d,t,os⟩:=by
 have LT:Looks (model prog w) h (typeOf (.ref x)) (.ref C):=hc▸(Looks.ld hx).andThen .now
 exact (show Looks (model prog w) h (isInstance (.ref x) T) b from LT.andThen (looks_mroIn X hm)).at hq
theorem oJ {R:Result->Shared->Prop} (X:K.In h) (Z:fH K C) (hx:h.get? x=some o) (hc:o.cls=.ref C) (hq:R (.ok (.ret (.ref C))) ⟨h,g,d,t,os⟩) :
  codeAny (model prog w) A (.call (.builtin "getset_descriptor.__get__") ⟨[.builtin "object.__class__",.ref x,.ref C],[]⟩) R ⟨h,g,d,t,os⟩:=by
 have hT5:(⟨h,g,d,t,os⟩:Shared).TypeIs (.builtin "object.__class__") "getset_descriptor":=F.typeOf_object_class
 have LS:Looks (model prog w) h (isSubtype (.ref C) (.type (".".intercalate ("object.__class__".cutAt '.').dropLast))) true:=by rw [F.owner_object_class];exact looks_mroIn X Z.ob
 refine codeAny_call_builtin F.slot_gs_get.plain F.entry_gs_get (F.slot_gs_get.check _ _ _ _ _ _ _ _ hT5 (F.args_gs_get _ _ _) ?_)
 repeat (any_goals (first | assumption | (with_reducible refine wpAny_loadPart_at hx ?_;rw [hc]) | with_reducible refine LS.at ?_ | wp_step))
 refine ⟨Code.quiet_builtin _ (by decide +kernel),codeAny_builtin F.entry_object_class ?_⟩
 repeat (any_goals (first | assumption | (with_reducible refine wpAny_loadPart_at hx ?_;rw [hc]) | wp_step))
theorem oK {tk:Tok} {Q:Fin->Shared->Prop} (X:K.In h) (Z:fH K C) (hx:h.get? x=some o) (hc:o.cls=.ref C) (hq:Q (.done (.ret (.ref C))) ⟨h,g,d,t,os⟩) :
  wpAny (model prog w) A (Builtin.«object.__getattribute__» ⟨[.ref x,.str "__class__" tk],[]⟩) Q E ⟨h,g,d,t,os⟩:=by
 have hT5:(⟨h,g,d,t,os⟩:Shared).TypeIs (.builtin "object.__class__") "getset_descriptor":=F.typeOf_object_class
 have L4:Looks (model prog w) h (typeLookup (.ref C) "__class__") (some (.builtin "object.__class__")):=looks_findIn X Z.gc
 have f5:=F.typeOf_object_class
 have f6:=F.slot_gs_get.lookup
 have f7:=F.slot_gs_set.lookup
 repeat (any_goals (first | assumption | (with_reducible refine wpAny_loadPart_at hx ?_;rw [hc]) | with_reducible refine L4.at ?_ | wp_step))
 refine oJ X Z hx hc ?_
 repeat (any_goals (first | assumption | wp_step))
theorem oM {nameV:Value} {Q:Unit->Shared->Prop} (X:K.In h) (Z:fH K C) (hx:h.get? x=some o) (hc:o.cls=.ref C) (hq:Q () ⟨h,g,d,t,os⟩):wpAny (model prog w) A (checkBuiltinCall "BaseException.__getattribute__" ⟨[.ref x,nameV],[]⟩) Q E ⟨h,g,d,t,os⟩:=by
 have hk:builtinKind "BaseException.__getattribute__"=some .slot:=by decide +kernel
 have hsplit:splitId "BaseException.__getattribute__"=some ("BaseException", "__getattribute__"):=by decide +kernel
 have ha:=F.args_bexc_ga (.ref x) nameV
 simp only [checkBuiltinCall,hk,hsplit]
 refine wpAny_bind (u9 X Z hx hc Z.be ?_)
 repeat (any_goals (first | assumption | wp_step))
theorem mT {tk:Tok} {R:Result->Shared->Prop} (X:K.In h) (Z:fH K C) (hx:h.get? x=some o) (hc:o.cls=.ref C) (hq:R (.ok (.ret (.ref C))) ⟨h,g,d,t,os⟩) :
  codeAny (model prog w) A (.call (.builtin "BaseException.__getattribute__") ⟨[.ref x,.str "__class__" tk],[]⟩) R ⟨h,g,d,t,os⟩:=
 codeAny_call_builtin F.excAttr_ValueError.ga.plain F.entry_bexc_ga (oM X Z hx hc (oK X Z hx hc hq))
theorem sr {tk:Tok} {Q:Value->Shared->Prop} (X:K.In h) (Z:fH K C) (hx:h.get? x=some o) (hc:o.cls=.ref C) (hq:Q (.ref C) ⟨h,g,d,t,os⟩):wpAny (model prog w) A (getAttrBy (.ref x) (.str "__class__" tk) false) Q E ⟨h,g,d,t,os⟩:=by
 have L2:Looks (model prog w) h (typeLookup (.ref C) "__getattribute__") (some (.builtin "BaseException.__getattribute__")):=looks_findIn X Z.ga
 have L3:Looks (model prog w) h (typeLookup (.ref C) "__getattr__") none:=looks_findIn X Z.gn
 have f3:=F.excAttr_ValueError.ga.bind (.ref x)
 have hx2:(Value.builtin "BaseException.__getattribute__"==Value.builtin "object.__getattribute__")=false:=by decide +kernel
 have hx1:(onTheHeap (Value.ref C)&&Value.builtin "BaseException.__getattribute__"==Value.builtin "object.__getattribute__")=false:=by rw [hx2];rfl
 repeat (any_goals (first | assumption | (with_reducible refine wpAny_loadPart_at hx ?_;rw [hc]) | with_reducible refine L2.at ?_ | with_reducible refine L3.at ?_ | wp_step))
 refine mT X Z hx hc ?_
 repeat (any_goals (first | assumption | wp_step))
theorem mU {Q:Option Value->Shared->Prop} (X:K.In h) (Z:fH K C) (hx:h.get? x=some o) (hc:o.cls=.ref C) (hq:Q (some (.ref C)) ⟨h,g,d,t+1,os⟩):wpAny (model prog w) A (getAttr? (.ref x) "__class__") Q E ⟨h,g,d,t,os⟩:=by
 unfold getAttr? getAttrBy?
 repeat (any_goals (first | assumption | with_reducible apply sr X Z hx hc | wp_step))
theorem u4 (Z:fH K C):KitX K (.ref x) (.ref C) (wo x C) where
 ty:=fun M h _ p=>by obtain ⟨o,_,hx,hc,_⟩:=p;exact hc▸(Looks.ld hx).andThen .now
 it:=fun _ _ X _=>by
  have z0:=Z.cl
  unfold clsIn at z0;split at z0
  ·rename_i c' d' cd' sl' ho
   intro A' Q' E' s' k q
   unfold isType loadHead;exact wpAny_bind (wpAny_loadPart (k _ _ (X _ _ ho)) (wpAny_pure q))
  ·cases z0
 ne:=fun h tp dd its n sl X htp=>by
  have z0:=Z.cl
  refine Bool.eq_false_iff.mpr fun q=>?_
  have e:C=tp:=Value.ref.inj (beq_iff_eq.mp q)
  subst e;unfold clsIn at z0;split at z0
  ·rename_i c' d' cd' sl' ho
   have z:=(X _ _ ho).symm.trans htp
   cases z
  ·cases z0
 ca:=fun {_ _ _ _ _ s} X p k=>by
  obtain ⟨h,g,d,t,os⟩:=s;obtain ⟨o,_,hx,hc,_⟩:=p;exact mU X Z hx hc k
end
theorem rQ {prog:Program} {w:World} {A:Around} {E:Value->Shared->Prop} {K:Fg} {x C D:Addr} {s:Shared} {o:Obj} {Q:Bool->Shared->Prop} {b:Bool} (X:K.In s.heap) (hx:s.heap.get? x=some o) (hc:o.cls=.ref C) (e1:PySem.W.typeIn K (.ref D)=some (.type "type")) (Z:fH K D) (e3:PySem.W.subIn K (.ref C) (.ref D)=some b) (hq:Q b s) :
  wpAny (model prog w) A (excMatches (.ref x) (.ref D)) Q E s:=by
 obtain ⟨h,g,d,t,os⟩:=s;have LT:Looks (model prog w) h (typeOf (.ref x)) (.ref C):=hc▸(Looks.ld hx).andThen .now
 have LD:Looks (model prog w) h (typeOf (.ref D)) (.type "type"):=looks_typeIn X e1
 have LB:Looks (model prog w) h (isSubtype (.ref D) (.type "BaseException")) true:=looks_mroIn X Z.be
 have LS:Looks (model prog w) h (isSubtype (.ref C) (.ref D)) b:=looks_subIn X e3
 have LY:Looks (model prog w) h (isType (.ref D)) true:=by
  have z0:=Z.cl
  unfold clsIn at z0;split at z0
  ·rename_i c' d' cd' sl' ho
   intro A' Q' E' s' k q
   unfold isType loadHead;exact wpAny_bind (wpAny_loadPart (k _ _ (X _ _ ho)) (wpAny_pure q))
  ·cases z0
 have f:=tc_notTuple
 unfold excMatches;refine wpAny_bind (wpAny_bind (LD.at ?_))
 repeat (any_goals (first | with_reducible refine LY.at ?_ | with_reducible refine LB.at ?_ | with_reducible refine LT.at ?_ | with_reducible refine LS.at ?_ | wp_step))
 first
  | exact hq
  | (cases b<;>(wp_walk;exact hq))
end T
namespace T
open PySem PySem.Spec L2
open PyProof.Rows hiding St
section
variable {X:Cx} {pins:List (Addr×Obj)} {σ:St} {H H':Hp} {s s':Shared} {C a:Addr} {M:Model} {A:Around} {E:Value->Shared->Prop}
theorem yp {i:Nat} {x:Str} {pos:Pos} {Q:Unit->Shared->Prop} (I:Inv X pins σ H s) (hN:X.N.Nodup) (hi:X.N[i]?=some x) (hk:X.env.scope.names.lookup x=some .local)
  (h:∀s',Inv X pins (σ.set i none) H s'->Q () s'):wpAny M A (do bindName X.env x .none;unbindBehindTheSuite X.env x pos) Q E s:=by
 obtain ⟨m,hn,hl⟩:=id I.loc;have hcls:(X.env.scope.kind==.class||(X.env.scope.kind==.module&&X.env.locals != X.env.globals))=false:=by rw [I.ok.kind];rfl
 have hiσ:i<σ.length:=by rw [I.len];exact (List.getElem?_eq_some_iff.mp hi).1
 have cne:=I.cne
 refine wpAny_nameGoes_keeps hk hn hcls fun h' v hn' hs=>?_
 obtain ⟨oL,_,_,hoL,_⟩:=id hn;refine h _ ⟨I.ok,I.os,I.bare,⟨fun b o e n hb hx=>?_,fun b o e n hb hx=>?_,I.base.free,fun b o e hx=>?_,I.base.tups,I.base.frzs,I.base.tbls⟩,⟨_,hn',fun j y v' e1 e2 e3=>?_⟩,fun y c e=>?_,I.free,I.freeC,fun p hp=>?_,fun b ob e=>?_,by simpa using I.len⟩
 ·exact (hs.2 b (Nat.ne_of_lt (Nat.lt_of_lt_of_le (Heap.lt_size e) I.ok.above))).trans (I.base.keep b o e n hb hx)
 ·obtain ⟨sl,e1⟩:=I.base.slot b o e n hb hx
  exact ⟨sl,(hs.2 b (Nat.ne_of_lt (Nat.lt_of_lt_of_le (Heap.lt_size e) I.ok.above))).trans e1⟩
 ·obtain ⟨o',e1⟩:=I.base.there b o e hx
  exact ⟨o',(hs.2 b (Nat.ne_of_lt (Nat.lt_of_lt_of_le (Heap.lt_size e) I.ok.above))).trans e1⟩
 ·by_cases hj:j=i
  ·subst hj
   rw [getElem?_set_self hiσ] at e2
   cases e2
  ·rw [getElem?_set_ne (Ne.symm hj)] at e2
   obtain ⟨u',r',q⟩:=hl j y v' e1 e2 e3
   refine ⟨u',r',?_⟩
   rcases q with ⟨k,e⟩ | ⟨k,c,e,z⟩
   ·refine .inl ⟨k,?_⟩
    have:y≠x:=fun e=>hj (IJ hN e1 (e▸hi))
    simp [this,e]
   ·exact .inr ⟨k,c,e,z.sameBut hs (cne y c e)⟩
 ·obtain ⟨w',z⟩:=I.cell y c e
  exact ⟨w',z.sameBut hs (cne y c e)⟩
 ·obtain ⟨e,n,ne,nf,d⟩:=I.pin p hp
  exact ⟨(hs.2 p.1 ne).trans e,n,ne,nf,d⟩
 ·refine (I.hok b ob e).stay (fun c w' hc q=>(hs.2 c ?_).trans q) (fun _ q=>q) fun _ _ q=>q
  rintro rfl
  rcases hc with rfl | hc
  ·rw [I.free] at e;cases e
  ·rw [I.free] at hc;cases hc
theorem rP {Q:Unit->Shared->Prop} (I:Inv X pins σ H s) (hst:X.stack=X.env::X.outer) (hf:X.env.frame=some X.env.locals) (hA:A.frames=some X.stack) (f:Dr X.prog X.w X.stack H s H' C a s')
  (hQ:∀h2 B a0,Heap.FlyingW B X.stack a (.ref C) a0 h2->H' a=none->a∉gw X.stack->(∀h3,Heap.FlyingW B X.stack a (.ref C) a0 h3->h2.UpToSlots h3->Inv X pins σ H' { s' with heap:=h3 })->Q () { s' with heap:=h2 }) :
  wpAny M A (noteFrame (.ref a) X.env) (fun _ s2=>wpAny M A (setFlight (.ref a) none) Q E s2) E s':=by
 have os:=f.os
 have bare:=f.bare
 obtain ⟨os',bare',un,hok,B,a0,fl,c1,c2⟩:=id f;have hn:∀b:Addr,b∉([]:List Addr):=fun b z=>nomatch z
 have keepB:∀h3,B.StaysIn h3->∀b o u,B.get? b=some u->s'.heap.get? b=some o->h3.get? b=some o:=fun h3 st b o u e1 e2=>by
  have e3:=fl.1 b u e1
  rw [e2] at e3
  cases e3;exact st b o e1
 have go:∀h3,B.StaysIn h3->h3.FunFrames B X.stack->s'.heap.UpToSlots h3->Un (gw X.stack) [] H H' s.heap h3/\HOk X.prog X.w H' h3:=fun h3 st ff up=>by
  refine ⟨⟨fun b o q n hb _=>?_,fun b o q n hb _=>?_,un.free,fun b o q _=>?_,un.tups,un.frzs,un.tbls⟩,fun b o e=>?_⟩
  ·obtain ⟨u,e⟩:=c2 b o q hb
   exact keepB h3 st b o u e (un.keep b o q n hb (hn b))
  ·obtain ⟨sl2,q2⟩:=un.slot b o q n hb (hn b)
   obtain ⟨_,o',e,d⟩:=fl.2.2.1.mem hb;rw [q2] at e
   cases e;obtain ⟨sl3,q3⟩:=up b _ q2 d;exact ⟨sl3,q3⟩
  ·by_cases hb:b∈gw X.stack
   ·obtain ⟨_,o',e,_⟩:=ff.mem hb
    exact ⟨o',e⟩
   ·obtain ⟨u,e⟩:=c2 b o q hb
    exact ⟨u,st b u e⟩
  ·refine (hok b o e).stay (fun c u hc q=>?_) (fun _ q=>q) fun _ _ q=>q
   have hc':∃o',H' c=some o':=by
    rcases hc with z | z
    ·exact ⟨o,by rw [z];exact e⟩
    ·exact ⟨_,z⟩
   obtain ⟨o',z⟩:=hc'
   obtain ⟨v,e1⟩:=c1 c o' z
   exact keepB h3 st c u v e1 q
 have hHa:H' a=none:=by
  cases e:H' a with
  | none=>rfl
  | some o=>
   obtain ⟨u,e1⟩:=c1 a o e;rw [fl.2.1] at e1
   cases e1
 have haf:a∉gw X.stack:=fun z=>by
  obtain ⟨_,o',e,d⟩:=fl.2.2.1.mem z;obtain ⟨oe,vs,_,_,_,he,_,hd,_⟩:=fl.2.2.2;rw [he] at e
  cases e;exact d vs hd
 refine wpAny_looks_onW (by rw [hA,hst]) hf (by rw [<-hst];exact fl) fun h1 hh1 up1=>?_
 refine wpAny_landsW hh1 fun h2 fl2 up2=>hQ h2 B a0 (by rw [hst];exact fl2) hHa haf fun h3 fl3 up3=>?_
 obtain ⟨un3,hok3⟩:=go h3 fl3.1 fl3.2.2.1 ((up1.trans up2).trans up3);exact I.call' (s':={ s' with heap:=h3 }) (ch:=[]) os un3 hok3 bare (fun b z=>absurd z (by simp))
end
def wH (X:Cx) (pins:List (Addr×Obj)) (a:Addr) (oe:Obj):Cx:={ X with A:=X.A.mark (some (.ref a)),calm:=false,pn:=(X.pn++pins)++[(a,oe)],xe:=fun _ _=>False }
section
variable {X:Cx} {pins:List (Addr×Obj)} {σ:St} {H:Hp} {s:Shared} {a:Addr} {oe:Obj}
theorem yk (I:Inv X pins σ H s) (hx:s.heap.get? a=some oe) (hH:H a=none) (hl:a≠X.env.locals) (hf:a∉X.fs) (hd:∀v,oe.data≠.cell v):Inv (wH X pins a oe) [] σ H s:=
 ⟨⟨I.ok.mod,I.ok.kind,I.ok.glob,I.ok.blt,I.ok.above,I.ok.inj,I.ok.has,I.ok.cab,fun z=>(nomatch z),I.ok.frames,I.ok.stk,I.ok.exf,I.ok.bs,I.ok.bsz,I.ok.noex,I.ok.exfs,I.ok.funs,I.ok.frf⟩,I.os,I.bare,I.base,I.loc,I.cell,I.free,I.freeC,fun p hp=>by
  have hp:p∈((X.pn++pins)++[(a,oe)])++[]:=hp
  rw [append_nil] at hp;rcases List.mem_append.mp hp with z | z
  ·exact I.pin p z
  ·cases List.mem_singleton.mp z
   exact ⟨hx,hH,hl,hf,hd⟩,I.hok,I.len⟩
theorem yl (ok:X.Ok) (I:Inv (wH X pins a oe) [] σ H s):Inv X pins σ H s:=
 ⟨ok,I.os,I.bare,I.base,I.loc,I.cell,I.free,I.freeC,fun p hp=>I.pin p (mem_append_left _ (mem_append_left _ hp)),I.hok,I.len⟩
end
def isN:Option (Option PV)->Bool
 | some none=>true
 | _=>false
theorem vc {Γ:Ev} {j:Nat} (h:isN Γ[j]?=true):∀p,Γ[j]?≠some (some p):=fun p z=>by rw [z] at h;cases h
def xh (cl:List Str) (ie:Nat) (k:Str->FS) (c:Str):FS:=fun Γ=>if cl.contains c&&isN Γ[ie]? then (match k c Γ with
 | .nx Γ'=>if isN Γ'[ie]? then .nx Γ' else .no
 | _=>.no) else .no
def lO (cl:List Str) (ie:Nat) (g:FS) (k:Str->FS):FS:=fun Γ=>match g Γ with
 | .er c Γ'=>xh cl ie k c Γ'
 | o=>o
def wT (mg:Str->Option Value) (W:Addr->St->Hp->Prop):XW:=fun c σ H'=>∀C,mg c=some (.ref C)->W C σ H'
def kU (i:Nat) (a:Addr) (σ:St):Prop:=σ[i]?=some (some (.ref a))
def Jw (φ:St->Prop) (t:TS):TS:=fun D σ H=>φ σ/\t D σ H
def tG (φ:St->Prop) (t:TE):TE:=fun σ H Q=>φ σ/\t σ H Q
theorem Ju {X:Cx} {pins:List (Addr×Obj)} {W:Addr->St->Hp->Prop}:Gk (eH X pins W) (wT X.mg W):=
 ⟨fun σ=>fun u _ H'=>∃C,u=.ref C/\W C σ H',kC,fun c σ H' C h hC=>⟨C,rfl,h C hC⟩⟩
structure zV (K:Fg) (D:Addr):Prop where
 ty:PySem.W.typeIn K (.ref D)=some (.type "type")
 ex:fH K D
theorem BJ {X:Cx} {N gl:List Str} {vs cs ls lo gs:List Nat} (S:Cp X N gl vs cs ls lo gs) {body:List Stmt} {g:FS} {k:Str->FS} {cl:List Str} {en hn:Str} {ie j:Nat} {np hpos pos:Pos} {suite:Stmt} {D:Addr}
  (hst:X.stack=X.env::X.outer) (hf:X.env.frame=some X.env.locals) (hie:N[ie]?=some en) (hel:lo.contains ie=true) (hj:gl[j]?=some hn) (hg:gs.contains j=true) (hD:X.mg hn=some (.ref D)) (hDc:zV X.K D)
  (hc:∀c∈cl,∀C,X.mg c=some (.ref C)->PySem.W.subIn X.K (.ref C) (.ref D)=some true)
  (hb:∀(pins:List (Addr×Obj)) (W:Addr->St->Hp->Prop),PSs (eH X pins W) body (tS X.K (wT X.mg W) g))
  (hh:∀(pins:List (Addr×Obj)) (a C:Addr) (oe:Obj) (c:Str),c∈cl->X.mg c=some (.ref C)->oe.cls=.ref C->(∃vs,oe.data=.fields vs)->PSs (wH X pins a oe) [suite] (Jw (kU ie a) (tS X.K W0 (k c)))) :
  PS X (.Try body [.ExceptHandler (some (.Name hn np)) (some en) [suite] hpos] [] [] pos) (tS X.K W0 (lO cl ie g k)):=by
 intro pins s σ H D0 I h;obtain ⟨He,O,Fs,Γ,E,h⟩:=h;refine wpAny_Try_except ?_
 let W:Addr->St->Hp->Prop:=fun C σ' H'=>∃c Γ' Fs',X.mg c=some (.ref C)/\EnvOk X.K He O Fs' H' σ' Γ'/\j9 X.K W0 He O D0 (xh cl ie k c Γ')
 have I':Inv X (pins++[]) σ H s:=by rw [append_nil];exact I
 have hw:j9 X.K (wT X.mg W) He O D0 (g Γ):=by
  unfold lO at h
  cases e:g Γ with
  | nx Γ'=>rw [e] at h;exact h
  | bk Γ'=>rw [e] at h;exact h
  | ct Γ'=>rw [e] at h;exact h
  | rt p=>rw [e] at h;exact h
  | no=>rw [e] at h;exact h
  | er c Γ'=>rw [e] at h;exact fun σ' H' Fs' E' C hC=>⟨c,Γ',Fs',hC,E',h⟩
 refine wpAny_mono (hb pins W [] s σ H D0 (vm I') ⟨He,O,Fs,Γ,E,hw⟩) (fun f s1 h1=>?_) fun e s1 h1=>?_
 ·have back:∀{σ' H'},Inv (eH X pins W) [] σ' H' s1->Inv X pins σ' H' s1:=fun {σ' H'} J=>by have:=mx J;rwa [append_nil] at this
  cases f with
  | next=>
   obtain ⟨σ',H',J,q⟩:=h1;exact bH (Ir pins s1 σ' H' D0 (back J) q) fun _ _ z=>z
  | brk=>obtain ⟨σ',H',J,q⟩:=h1;exact ⟨σ',H',back J,q⟩
  | cont=>obtain ⟨σ',H',J,q⟩:=h1;exact ⟨σ',H',back J,q⟩
  | ret u=>obtain ⟨v,σ',H',J,r,q⟩:=h1;exact ⟨v,σ',H',back J,r,q⟩
 ·obtain ⟨ps,σ1,H1,H',s0,a,C,rfl,J,fl,c,Γ',Fs',hC,E',hW⟩:=h1
  refine rP (T.Inv.less J) hst hf I.ok.frames fl fun h2 B a0 fl2 hHa haf go=>?_
  have I2:=go h2 fl2 (Heap.UpToSlots.refl h2)
  unfold xh at hW
  cases hcl:(cl.contains c&&isN Γ'[ie]?) with
  | false=>rw [hcl] at hW;exact hW.elim
  | true=>
   rw [hcl] at hW;simp only [Bool.and_eq_true] at hcl
   have hcm:c∈cl:=by simpa using hcl.1
   have hnm:=S.g hj hg
   obtain ⟨oe2,he2,hc2⟩:=fl2.there;refine wpAny_handleBy_cons (codeAny_handlers_test (Calls.Name_function_global I2.ok.kind hnm.1 (Calls.loadGlobal_global (by rw [I2.ok.glob];exact I2.mod.glob.keeps I2.bk) hD ?_) hnm.2.1)) (by intro q;cases q)
   refine rQ I2.kIn he2 hc2 hDc.ty hDc.ex (hc c hcm C hC) ?_
   refine codeAny_handlers_suite_as ?_
   refine lands_againW fl2 fun h3 fl3 up3=>?_
   have I3:=go h3 fl3 up3
   obtain ⟨oe,vs,_,_,_,he,⟨hcls,_⟩,hd,_⟩:=fl3.2.2.2;have hal:a≠X.env.locals:=fun z=>haf (by rw [hst];exact List.mem_filterMap.mpr ⟨X.env,mem_cons_self,by rw [z];exact hf⟩)
   have hafs:a∉X.fs:=fun z=>haf (by rw [hst];obtain ⟨en,h1,h2⟩:=List.mem_filterMap.mp z;exact List.mem_filterMap.mpr ⟨en,mem_cons_of_mem _ h1,h2⟩)
   have I4:Inv (wH X pins a oe) [] σ1 H' { s1 with heap:=h3 }:=yk I3 he hHa hal hafs fun v z=>by rw [hd] at z;cases z
   have hlo:=S.loo ie en hie hel
   have hN:X.N.Nodup:=by rw [S.hN];exact S.nd
   have hiN:X.N[ie]?=some en:=by rw [S.hN];exact hie
   refine Hd (X:=wH X pins a oe) (v:=.ref a) I4 hN hiN (.inl hlo) rfl (fun s5 I5=>?_) (.inr hlo)
   have hiσ:ie<σ1.length:=by rw [I3.len];exact (List.getElem?_eq_some_iff.mp hiN).1
   refine wpAny_mono (hh pins a C oe c hcm hC hcls ⟨vs,hd⟩ [] s5 _ H' { nx:=fun σ' H'=>D0.nx (σ'.set ie none) H',rt:=fun _ _=>False } I5 ⟨by unfold kU;exact getElem?_set_self hiσ,He,O,Fs',Γ',E'.nm (vc hcl.2),?_⟩) (fun f s6 h6=>?_) fun _ _ z=>z.elim
   ·cases ek:k c Γ' with
    | nx Γ2=>
     rw [ek] at hW;intro σ2 H2 Fs2 E2;have hW:j9 X.K W0 He O D0 (if isN Γ2[ie]? then .nx Γ2 else .no):=hW
     cases hn2:isN Γ2[ie]? with
     | false=>rw [hn2] at hW;exact hW.elim
     | true=>rw [hn2] at hW;exact hW _ H2 Fs2 (E2.nm (vc hn2))
    | bk Γ2=>rw [ek] at hW;exact hW.elim
    | ct Γ2=>rw [ek] at hW;exact hW.elim
    | rt p=>rw [ek] at hW;exact hW.elim
    | er c2 Γ2=>rw [ek] at hW;exact hW.elim
    | no=>rw [ek] at hW;exact hW.elim
   ·cases f with
    | next=>
     obtain ⟨σ2,H2,J2,q⟩:=h6;exact yp (yl I2.ok J2) hN hiN hlo fun s7 I7=>⟨_,H2,I7,q⟩
    | brk=>obtain ⟨_,_,_,q⟩:=h6;exact q.elim
    | cont=>obtain ⟨_,_,_,q⟩:=h6;exact q.elim
    | ret u=>obtain ⟨_,_,_,_,_,q⟩:=h6;exact q.elim
section
variable {K:Fg} {W:XW} {σ:St} {H:Hp} {fa fb:F1} {c:FB}
theorem oY {Q Q':Bool->Hp->Prop} (h:tT K W c σ H Q) (i:∀b H',Q b H'->Q' b H'):tT K W c σ H Q':=by
 obtain ⟨He,O,Fs,Γ,E,h⟩:=h;refine ⟨He,O,Fs,Γ,E,?_⟩
 cases e:c Γ with
 | ok p Γ'=>rw [e] at h;exact fun H' Fs' s E' n=>i _ _ (h H' Fs' s E' n)
 | er c Γ'=>rw [e] at h;exact h
 | no=>rw [e] at h;exact h
theorem t7 {Q:VK} {v:V} {d:PySem.PyData} (s:Sc v d) (h:tE K W (eK d) σ H Q):Q v H:=by
 obtain ⟨He,O,Fs,Γ,E,h⟩:=h;exact Wants.scal (W:=W) h s (Same.refl _) E (fun a ha=>ha) E.ndO fun a ha=>.inl ha
end
def zw (φ:St->Prop) (t:TA):TA:=fun σ H Q=>φ σ/\t σ H Q
def sN (φ:St->Prop) (t:TT):TT:=fun σ H Q=>φ σ/\t σ H Q
def jz (X:Cx) (a C:Addr):Prop:=∀pins σ H s,Inv X pins σ H s->wo a C s.heap
def JX (K:Fg) (a C:Addr) (cv:V) (cu:Value):List V->Hp->VK->Prop:=fun xs H Q=>∃b,xs=[.ref a,cv]/\PySem.W.kitOne K (.ref C) cu=some b/\Q (.bl b) H
section
variable {X:Cx} {N gl:List Str} {vs cs ls lo gs:List Nat} {W:XW} {φ:St->Prop} {a b c e:Expr} {es:List Expr} {pos p:Pos} {fa fb fc:F1} {fl:FL} {ga gb:FB} {g1 g2:FS}
theorem mX {x C:Addr} {cv:V} {cu:Value} (hx:jz X x C) (Z:fH X.K C) (hr:∀u,RelV cv u->u=cu):CallR X (.builtin "isinstance") (JX X.K x C cv cu):=by
 intro pins s σ H xs us Q I rv h;obtain ⟨b,rfl,hk,q⟩:=h;match us,rv with
 | [u,t],.cons r1 (.cons r2 .nil)=>
  cases (show u=Value.ref x from r1)
  cases hr t r2
  exact PySem.W.kia_one (u4 Z) I.kIn (hx _ _ _ _ I) hk nofun fun tk=>⟨.bl b,H,I.tok tk,rfl,q⟩
theorem gu (h:PE X a (tE X.K W fa)):PE X a (tG φ (tE X.K W fa)):=aX h fun _ _ _ h=>h.2
theorem FM {i:Nat} {x C D:Addr} {ex d:Str} {p1 p2:Pos} {bb:Bool} (S:Cp { X with calm:=true } N gl vs cs ls lo gs) (hx:jz X x C) (Z:fH X.K C) (hk:PySem.W.kitOne X.K (.ref C) (.ref D)=some bb) (hD:X.mg d=some (.ref D)) (hmi:X.mg "isinstance"=none)
  (hN:N[i]?=some ex) (hv:vs.contains i=true) (j k:Nat) (hj:gl[j]?=some ("isinstance":Str)) (hg:gs.contains j=true) (hk2:gl[k]?=some d) (hg2:gs.contains k=true) :
  PE X (.Call (.Name "isinstance" p) [.Name ex p1,.Name d p2] [] pos) (tG (kU i x) (tE X.K W (eK (.bool bb)))):=by
 have m:=S.nm ex (mem_of_getElem? hN)
 have hvar:PE X (.Name ex p1) (fA i):=qw (by show X.N[i]?=_;rw [show X.N=N from S.hN];exact hN) (S.vis i ex hN hv) m.1 m.2
 refine aX (G9 (mX (cv:=.ref D) (cu:=.ref D) hx Z fun u hu=>hu) (S.g hj hg).1 hmi Jg (sL hvar (sL (pQ (v:=.ref D) (S.g hk2 hg2).1 hD rfl (S.g hk2 hg2).2.1) zb rfl) rfl) (S.g hj hg).2.2 (S.g hj hg).2.1 rfl rfl) fun σ H Q h=>?_
 exact ⟨.ref x,h.1,bb,rfl,hk,t7 (.bl bb) h.2⟩
theorem CV {i:Nat} {x C:Addr} {ex d:Str} {T:String} {p1 p2:Pos} {bb:Bool} (S:Cp { X with calm:=true } N gl vs cs ls lo gs) (hx:jz X x C) (Z:fH X.K C) (hk:PySem.W.kitOne X.K (.ref C) (.type T)=some bb) (hD:X.mg d=none) (hb:bootBuiltins d=some (.type T)) (hmi:X.mg "isinstance"=none)
  (hN:N[i]?=some ex) (hv:vs.contains i=true) (j k:Nat) (hj:gl[j]?=some ("isinstance":Str)) (hg:gs.contains j=true) (hk2:gl[k]?=some d) (hg2:gs.contains k=true) :
  PE X (.Call (.Name "isinstance" p) [.Name ex p1,.Name d p2] [] pos) (tG (kU i x) (tE X.K W (eK (.bool bb)))):=by
 have m:=S.nm ex (mem_of_getElem? hN)
 have hvar:PE X (.Name ex p1) (fA i):=qw (by show X.N[i]?=_;rw [show X.N=N from S.hN];exact hN) (S.vis i ex hN hv) m.1 m.2
 refine aX (G9 (mX (cv:=.ty T) (cu:=.type T) hx Z fun u hu=>hu) (S.g hj hg).1 hmi Jg (sL hvar (sL (pS (v:=.ty T) (S.g hk2 hg2).1 hD hb rfl (S.g hk2 hg2).2.2 (S.g hk2 hg2).2.1) zb rfl) rfl) (S.g hj hg).2.2 (S.g hj hg).2.1 rfl rfl) fun σ H Q h=>?_
 exact ⟨.ref x,h.1,bb,rfl,hk,t7 (.bl bb) h.2⟩
theorem FK:PA X [] (zw φ (tA X.K W ag)):=qq da_nil fun _ _ _ h=>h.2
theorem CW (ha:PE X e (tG φ (tE X.K W fa))) (hr:PA X es (zw φ (tA X.K W fl))) (hs:starEach (e::es) X.env=(false,eval e X.env)::starEach es X.env:=by exact fJ rfl):PA X (e::es) (zw φ (tA X.K W (ae fa fl))):=
 qq (sL ha hr hs) fun σ H Q h=>⟨h.1,D9 (pD h.2) fun v H1 q=>⟨h.1,q⟩⟩
theorem CU (s:Sh) (h:PA X es (zw φ (tA X.K W fl))):PE X (.List es pos) (tG φ (tE X.K W (aB s fl))):=aX (Iz h) fun σ H Q h=>⟨h.1,pC h.2⟩
theorem FN (ha:PE X a (tG φ (tE X.K W fa))) (hb:PE X b (tG φ (tE X.K W fb))):PE X (.BinOp a .Add b pos) (tG φ (tE X.K W (bJ fa fb))):=
 aX (fR Il ha hb) fun σ H Q h=>⟨h.1,D9 (uz h.2) fun v H1 q=>⟨h.1,q⟩⟩
theorem FJ (S:Cp { X with calm:=true } N gl vs cs ls lo gs) (i:Nat) {x:Str} (hN:N[i]?=some x) (hv:vs.contains i=true):PE X (.Name x pos) (tE X.K W (af i)):=by
 have m:=S.nm x (mem_of_getElem? hN)
 exact vK (qw (by show X.N[i]?=_;rw [show X.N=N from S.hN];exact hN) (S.vis i x hN hv) m.1 m.2)
theorem CJ (ha:PE X a (tG φ (tE X.K W fa))) (he:∀whole,isTrue a X.env whole=(do let v <-whole;standAt a.pos;holding [v] (truthy v)):=by intro _;rfl):PT X a (sN φ (tT X.K W (aN bf fa))):=j7 (lU ha he) fun σ H Q h=>⟨h.1,uo h.2⟩
theorem CL (ha:PT X a (sN φ (tT X.K W ga))):PT X (.UnaryOp .Not a pos) (sN φ (tT X.K W (b9 ga))):=j7 (uJ ha) fun σ H Q h=>⟨h.1,pF h.2⟩
theorem CK (ha:PT X a (tT X.K W ga)) (hb:PT X b (sN φ (tT X.K W gb))):PT X (.BoolOp .Or [a,b] pos) (sN φ (tT X.K W (hJ ga gb))):=
 PW.pt (wj (zE ha (uH hb)) fun σ H Q h=>oY (uC h.2) fun c H1 q=>by
  cases c with
  | true=>exact q
  | false=>exact kB ⟨h.1,by simpa using q⟩)
def tZ (i:Nat) (x:Addr) (K:Fg) (W:XW) (g:FS):TS:=fun D σ H=>kU i x σ/\tN [i] K W g D σ H
theorem DS {i:Nat} {x:Addr} {st:Stmt} {g:FS} (h:PS X st (tZ i x X.K W g)):PSs X [st] (tZ i x X.K W g):=Iu h
theorem DT {i:Nat} {x:Addr}:PSs X [] (tZ i x X.K W aG):=DX Ir fun _ _ _ h=>uu h.2
theorem zX {i:Nat} {x:Addr} {st:Stmt} {rest:List Stmt} (h1:PS X st (tZ i x X.K W g1)) (h2:PSs X rest (tZ i x X.K W g2)):PSs X (st::rest) (tZ i x X.K W (av g1 g2)):=
 DX (lV h1 h2) fun D σ H h=>by
  refine ⟨h.1,?_⟩
  have q:=xA h.2
  refine oZ (D':=nD [i] { D with nx:=tZ i x X.K W g2 D } σ) q (fun σ1 H1 z a=>⟨?_,z a⟩) rfl rfl rfl
  unfold kU;rw [a i (List.mem_singleton.mpr rfl)];exact h.1
theorem DQ {i k:Nat} {x:Addr} {y:Str} {pos':Pos} (S:Cp { X with calm:=true } N gl vs cs ls lo gs) (hki:(k==i)=false) (hk:N[k]?=some y) (hl:ls.contains k=true) (ha:PE X a (tG (kU i x) (tE X.K W fa))) (hs:swapsWith a (some (.Name y pos')) pos.line X.env=pure false:=by rfl):PS X (.Assign [.Name y pos'] a pos) (tZ i x X.K W (aA false k fa)):=
 cw (GE (by show X.N.Nodup;rw [show X.N=N from S.hN];exact S.nd) (by show X.N[k]?=_;rw [show X.N=N from S.hN];exact hk) (S.loc k y hk hl).1 ha hs (S.loc k y hk hl).2) fun D σ H h=>⟨h.1,xx (by simpa using hki) h.2⟩
theorem Ib {i:Nat} {x:Addr} {A B:List Stmt} (hc:PT X c (sN (kU i x) (tT X.K W ga))) (ha:PSs X A (tZ i x X.K W g1)) (hb:PSs X B (tZ i x X.K W g2)):PS X (.If c A B pos) (tZ i x X.K W (bF ga g1 g2)):=
 cw (zF hc ha hb) fun D σ H h=>⟨h.1,oY (Bk h.2) fun b H1 q=>by
  cases b with
  | true=>exact ⟨h.1,q⟩
  | false=>exact kB ⟨h.1,by simpa using q⟩⟩
theorem DR {i:Nat} {x:Addr} (ha:PE X a (tG (kU i x) (tE X.K W fa))):PS X (.Return (some a) pos) (tZ i x X.K W (aI fa)):=cw (uM ha) fun D σ H h=>⟨h.1,ur (D:=nD [i] D σ) h.2⟩
end
theorem IF:∀{ns:List Bool} {us:List Value},Vals (ns.map V.bl) us->us=ns.map Value.bool
 | [],_,.nil=>rfl
 | n::ns,_,.cons r t=>by
  cases (show _=Value.bool n from r)
  rw [IF t];rfl
def vb:Value->Bool
 | .bool b=>b==true
 | _=>false
theorem jR (b:Bool):vb (.bool b)=b:=by cases b<;>rfl
def BF (K:Fg):V->List V->Hp->VK->Prop:=fun x xs H Q=>∃(l:Addr) (ns:List Bool),x=.ref l/\xs=[.bl true]/\SqL K H l (ns.map V.bl)/\Q (.int (ns.count true:Nat)) H
def BB (K:Fg):V->List V->Hp->VK->Prop:=fun x xs H Q=>∃(l:Addr) (ns:List Bool) (j:Nat),x=.ref l/\xs=[.bl true]/\SqL K H l (ns.map V.bl)/\ns[j]?=some true/\(∀m,m<j->ns[m]?≠some true)/\Q (.int j) H
theorem rF {X:Cx}:DO X "list.count" (BF X.K):=by
 intro pins s σ H x xs v us Q I rx rv h;obtain ⟨l,ns,rfl,rfl,hS,q⟩:=h
 cases rx;obtain ⟨u,rfl,ru⟩:=rv.one
 cases (show u=Value.bool true from ru)
 obtain ⟨its,r,pl,hz⟩:=I.list hS;have hI:=IF r
 subst hI;obtain ⟨o,n,ho,hc,hd,hdt⟩:=pl;obtain ⟨ocls,odict,odata,oslots⟩:=o;simp only at hc hd hdt
 subst hc hd hdt;refine call_meets F.slot_list_count ⟨_,ho,rfl⟩ F.entry_list_count (F.args_list_count_2 _ _) (SeqAt.list_countAt l (ns.map Value.bool).toArray n none oslots (.bool true) vb) ⟨ho,fun y hy=>?_,?_⟩
 ·obtain ⟨b,_,rfl⟩:=List.mem_map.mp (show y∈ns.map Value.bool by exact Array.mem_def.mp hy)
  exact SeqAt.EqAt.bool_bool b true
 ·have e:(ns.map Value.bool).toArray.toList.countP vb=ns.count true:=by
   show (ns.map Value.bool).countP vb=_
   rw [List.countP_map];unfold List.count;congr 1
  rw [e];exact ⟨.int (ns.count true:Nat),H,I.tok _,⟨_,rfl⟩,q⟩
theorem rE {X:Cx}:DO X "list.index" (BB X.K):=by
 intro pins s σ H x xs v us Q I rx rv h;obtain ⟨l,ns,j,rfl,rfl,hS,hj,hno,q⟩:=h
 cases rx;obtain ⟨u,rfl,ru⟩:=rv.one
 cases (show u=Value.bool true from ru)
 obtain ⟨its,r,pl,hz⟩:=I.list hS;have hI:=IF r
 subst hI;have hjl:j<(ns.map Value.bool).toArray.size:=by rw [size_toArray,length_map];exact (List.getElem?_eq_some_iff.mp hj).1
 obtain ⟨o,n,ho,hc,hd,hdt⟩:=pl;obtain ⟨ocls,odict,odata,oslots⟩:=o;simp only at hc hd hdt
 subst hc hd hdt;have hsm:(j:Int)<2 ^ 63-1:=by
  rw [length_map] at hz;have h1:sizeLine<2 ^ 62:=by decide
  have:=(List.getElem?_eq_some_iff.mp hj).1
  omega
 refine call_meets F.slot_list_index ⟨_,ho,rfl⟩ F.entry_list_index (F.args_list_index_2 _ _) (SeqAt.list_indexAt l (ns.map Value.bool).toArray n none oslots (.bool true) vb j hjl hsm ?_ fun m hm hmj=>?_) ⟨ho,fun y hy=>?_,⟨.int j,H,I.tok _,⟨_,rfl⟩,q⟩⟩
 ·rw [List.getElem_toArray,List.getElem_map,jR]
  obtain ⟨hl,e⟩:=List.getElem?_eq_some_iff.mp hj
  exact e
 ·rw [List.getElem_toArray,List.getElem_map,jR]
  have hml:m<ns.length:=by rw [size_toArray,length_map] at hm;exact hm
  have:=hno m hmj
  rw [getElem?_eq_getElem hml] at this
  cases e:ns[m] with
  | false=>rfl
  | true=>rw [e] at this;exact absurd rfl this
 ·obtain ⟨b,_,rfl⟩:=List.mem_map.mp (show y∈ns.map Value.bool by exact Array.mem_def.mp hy)
  exact SeqAt.EqAt.bool_bool b true
def DK:List Bool->Option Nat
 | []=>none
 | n::r=>if n then some 0 else (DK r).map (·+1)
theorem u6:∀{ns:List Bool} {j:Nat},DK ns=some j->ns[j]?=some true/\∀m,m<j->ns[m]?≠some true
 | [],_,h=>by cases h
 | n::r,j,h=>by
  unfold DK at h
  cases n with
  | true=>cases h;exact ⟨rfl,fun m hm=>by omega⟩
  | false=>
   cases hr:DK r with
   | none=>rw [hr] at h;cases h
   | some j'=>
    rw [hr] at h
    cases h;obtain ⟨h1,h2⟩:=u6 hr;refine ⟨by simpa using h1,fun m hm=>?_⟩
    cases m with
    | zero=>simp
    | succ m=>simpa using h2 m (by have:m+1<j'+1:=hm;omega)
def rT (i:Nat):F1:=fun Γ=>match Γ[i]? with
 | some (some ⟨.leaf,.list ds⟩)=>(match nh ds with
  | some ns=>.ok ⟨.leaf,.int (ns.count true:Nat)⟩ Γ
  | none=>.no)
 | _=>.no
def rS (i:Nat):F1:=fun Γ=>match Γ[i]? with
 | some (some ⟨.leaf,.list ds⟩)=>(match nh ds with
  | some ns=>(match DK ns with
   | some j=>.ok ⟨.leaf,.int (j:Nat)⟩ Γ
   | none=>.no)
  | none=>.no)
 | _=>.no
section
variable {K:Fg} {W:XW} {σ:St} {H:Hp} {Q:VK}
theorem Bs {i:Nat} (h:tE K W (rT i) σ H Q):AQ K "list" (BF K) (fA i) (ip (tC (.bl true)) qK) σ H Q:=by
 obtain ⟨He,O,Fs,Γ,E,h⟩:=h;have h:Wants K W He O Fs H σ Q (rT i Γ):=h
 unfold rT at h;split at h
 ·rename_i ds e0
  obtain ⟨l,vs,h1,h2,h3⟩:=GT E e0;refine ⟨.ref l,h1,.inl ⟨rfl,vs,h2⟩,?_⟩
  cases hi:nh ds with
  | none=>rw [hi] at h;exact h.elim
  | some ns=>
   rw [hi] at h;rw [Hk hi] at h3;have ev:=Hn h3
   subst ev;exact ⟨l,ns,rfl,rfl,h2,h _ _ _ _ (Ij E (Same.refl _) (fun a ha=>.inl ha) (.int _))⟩
 ·exact h.elim
theorem Bh {i:Nat} (h:tE K W (rS i) σ H Q):AQ K "list" (BB K) (fA i) (ip (tC (.bl true)) qK) σ H Q:=by
 obtain ⟨He,O,Fs,Γ,E,h⟩:=h;have h:Wants K W He O Fs H σ Q (rS i Γ):=h
 unfold rS at h;split at h
 ·rename_i ds e0
  obtain ⟨l,vs,h1,h2,h3⟩:=GT E e0;refine ⟨.ref l,h1,.inl ⟨rfl,vs,h2⟩,?_⟩
  cases hi:nh ds with
  | none=>rw [hi] at h;exact h.elim
  | some ns=>
   rw [hi] at h;dsimp only at h
   cases hj:DK ns with
   | none=>rw [hj] at h;exact h.elim
   | some j=>
    rw [hj] at h;rw [Hk hi] at h3;have ev:=Hn h3
    subst ev;obtain ⟨a1,a2⟩:=u6 hj;exact ⟨l,ns,j,rfl,rfl,h2,a1,a2,h _ _ _ _ (Ij E (Same.refl _) (fun a ha=>.inl ha) (.int _))⟩
 ·exact h.elim
end
section
variable {X:Cx} {N gl:List Str} {vs cs ls lo gs:List Nat} {W:XW} {p:Pos}
theorem Dg (S:Cp { X with calm:=true } N gl vs cs ls lo gs) (i:Nat) {x:Str} {kb:Nat} {apos cpos bp:Pos} (hi:N[i]?=some x) (hv:vs.contains i=true) (hbase:attributeBase (.Name x p) "count" X.env (eval (.Name x p) X.env)=eval (.Name x p) X.env:=by rfl) (hline:(apos.endLine==cpos.line)=true:=by rfl) :
  PE X (.Call (.Attribute (.Name x p) "count" apos) [.Constant (.bool true) kb bp] [] cpos) (tE X.K W (rT i)):=by
 have m:=S.nm x (mem_of_getElem? hi)
 exact aX (jI (T := "list") (r:=BF X.K) F.plainAttrs_list F.slot_list_count F.type_list_count rF (qw (by show X.N[i]?=_;rw [show X.N=N from S.hN];exact hi) (S.vis i x hi hv) m.1 m.2) (sL uW zb rfl) hbase rfl hline rfl rfl) fun _ _ _=>Bs
theorem Df (S:Cp { X with calm:=true } N gl vs cs ls lo gs) (i:Nat) {x:Str} {kb:Nat} {apos cpos bp:Pos} (hi:N[i]?=some x) (hv:vs.contains i=true) (hbase:attributeBase (.Name x p) "index" X.env (eval (.Name x p) X.env)=eval (.Name x p) X.env:=by rfl) (hline:(apos.endLine==cpos.line)=true:=by rfl) :
  PE X (.Call (.Attribute (.Name x p) "index" apos) [.Constant (.bool true) kb bp] [] cpos) (tE X.K W (rS i)):=by
 have m:=S.nm x (mem_of_getElem? hi)
 exact aX (jI (T := "list") (r:=BB X.K) F.plainAttrs_list F.slot_list_index F.type_list_index rE (qw (by show X.N[i]?=_;rw [show X.N=N from S.hN];exact hi) (S.vis i x hi hv) m.1 m.2) (sL uW zb rfl) hbase rfl hline rfl rfl) fun _ _ _=>Bh
end
structure RoomH (k:Nat) (A:Around):Prop where
 dp:A.depth+3*k+5<recursionLimit
 un:A.units+16*k+200<cLine
 gd:A.guards=some []
theorem Room.mark {k:Nat} {A:Around} (r:Room k A) (v:Option Value):RoomH k (A.mark v):=⟨r.dp,r.un,r.gd⟩
theorem RoomH.mono {j k:Nat} {A:Around} (r:RoomH k A) (h:j<=k):RoomH j A:=⟨by have:=r.dp;omega,by have:=r.un;omega,r.gd⟩
theorem RoomH.deeper {k:Nat} {A:Around} (r:RoomH (k+1) A) (env:Env):RoomH k (A.deeper env):=
 ⟨by have:=r.dp;show A.depth+1+3*k+5<_;omega,by have:=r.un;show A.units+3+16*k+200<_;omega,r.gd⟩
def FZ (P:Program) (w:World) (K:Fg) (mg:Str->Option Value) (base:Heap) (N:List Str) (qual:Str) (scope:Scope) (f:Addr) (cd:Value) (A:Around) (outer:List Env) (s:Shared) (H:Hp):Cx:=
 { eT j8 P w K mg base N qual scope f cd A outer s H E0 with calm:=false,xe:=fun _ _=>False }
theorem C2 {P:Program} {w:World} {K:Fg} {mg:Str->Option Value} {base:Heap} {k:Nat} {f:Addr} {name qual:Str} {params:Arguments} {body:List Stmt} {scope:Scope} {dV kV doc pm cdv ct oc:Value} {an od:Option Addr}
  {osl:Array (Option Value)} {N ps:List Str} (lk:K.lookup f=some ⟨oc,od,.func (PySem.W.fnOf name qual params body scope dV kV doc pm an cdv ct),osl⟩) (hcd:PySem.W.codeIn K cdv qual=true) (S:dW N ps scope)
  {A:Around} {outer:List Env} {s:Shared} {H:Hp} {args:Args} {us:List Value} {vs:List V} {Q:VK} {t:TS} (hr:RoomH (k+1) A) (e0:sF P w K mg base A outer s H) (hb:BindsTo s (PySem.W.fnOf name qual params body scope dV kV doc pm an cdv ct) args (ps.zip us)) (r:Vals vs us) (hl:vs.length=ps.length)
  (ht:PSs (FZ P w K mg base N qual scope f cdv A outer s H) body t) (hq:t { nx:=fun _ H'=>Q .non H',rt:=Q } (start N vs) H):codeAny (model P w) A (.call (.ref f) args) (CR j8 outer P w H s Q E0) s:=by
 have KX:K.In s.heap:=e0.mod.kin.keeps fun b o e=>(e0.bs b o e).1
 have lim:s.heap.NoLimit:=e0.mod.nolimit.keeps fun b o e=>(e0.bs b o e).1
 have hkind:∀y∈ps.zip us,scope.names.lookup y.1=some .local\/(scope.names.lookup y.1=some .cell/\((cellsFrom (s.heap.objs.size+1) scope.names []).lookup y.1).isSome=true):=fun ⟨n,v⟩ hy=>by
  rcases S.par n (of_mem_zip hy).1 with q | q
  ·exact .inl q
  ·exact .inr ⟨q,PySem.W.cellsFrom_some _ _ _ (.inl q)⟩
 refine codeAny_call_function (by have:=hr.dp;omega) (KX _ _ lk) rfl S.co S.gen rfl (PySem.W.codeRec_of KX hcd) (hb _ _ _ _ ?_)
 refine wpAny_newFunctionEnv_cells S.kind hkind fun env he s1 x=>?_
 subst he;refine ⟨lim.keeps x.toInCall.keep,codeAny_func ?_⟩
 have J:Inv (eT j8 P w K mg base N qual scope f cdv { A with handled:=none } outer s H E0) [] (start N vs) H s1:=jS S rfl ⟨e0.frames,e0.mod,e0.bs,e0.bsz,e0.funs,e0.frf,e0.hok,e0.bare⟩ hl r x
 have I:Inv (FZ P w K mg base N qual scope f cdv A outer s H) [] (start N vs) H s1:=
  ⟨⟨J.ok.mod,J.ok.kind,J.ok.glob,J.ok.blt,J.ok.above,J.ok.inj,J.ok.has,J.ok.cab,fun z=>(nomatch z),Around.frames_deeper e0.frames,J.ok.stk,J.ok.exf,J.ok.bs,J.ok.bsz,J.ok.noex,J.ok.exfs,J.ok.funs,J.ok.frf⟩,J.os,J.bare,J.base,J.loc,J.cell,J.free,J.freeC,J.pin,J.hok,J.len⟩
 refine wpAny_mono (ht [] s1 (start N vs) H _ I hq) (fun fl s' hs=>?_) fun e s' hs=>hs.elim
 have fin:∀{σ':St} {H':Hp} {v:V} {u:Value},Inv (FZ P w K mg base N qual scope f cdv A outer s H) [] σ' H' s'->RelV v u->Q v H'->CE outer P w H s Q u s':=
  fun {σ' H' v u} J rv q=>⟨v,H',J.os,J.bare,J.base,J.hok,rv,q⟩
 cases fl with
 | ret u=>
  obtain ⟨v,σ',H',J,rv,q⟩:=hs;exact fin J rv q
 | next=>
  obtain ⟨σ',H',J,q⟩:=hs;exact fin (v:=V.non) (u:=Value.none) J rfl q
 | brk=>
  obtain ⟨_,_,_,q⟩:=hs;exact False.elim q
 | cont=>
  obtain ⟨_,_,_,q⟩:=hs;exact False.elim q
def Da (n:Nat) (g:FS):Res:=match g (List.replicate n none) with
 | .nx _=>.ok ⟨.leaf,.none⟩
 | .rt p=>.ok p
 | _=>.no
def Ks (P:Program) (w:World) (K:Fg) (mg:Str->Option Value) (base:Heap) (k:Nat) (f:Addr) (fd:FuncData) (q:Str) (cl:List Str) (m:Str->Res):Prop:=
 ∀(A:Around) (outer:List Env) (s:Shared) (H:Hp) (a C:Addr) (c:Str) (O:List Addr) (Q:VK) (args:Args),RoomH k A->sF P w K mg base A outer s H->wo a C s.heap->H a=none->a∉gw outer->c∈cl->mg c=some (.ref C)->O.Nodup->(∀b∈O,H b≠none) ->
  (match m c with | .ok p=>∀v H' G,RetOk K H O p v H' G->Q v H' | _=>False)->BindsTo s fd args ([q].zip [.ref a])->codeAny (model P w) A (.call (.ref f) args) (CR j8 outer P w H s Q E0) s
def DW (P:Program) (w:World) (K:Fg) (mg:Str->Option Value) (base:Heap) (k:Nat) (x:Str) (cl:List Str) (m:Str->Res):Prop:=
 ∃(f:Addr) (fd:FuncData) (q:Str),mg x=some (.ref f)/\PySem.W.keepIn K (.ref f)=true/\Binds K fd [q] []/\Ks P w K mg base k f fd q cl m
structure InH (p:Fg->(Str->Option Value)->Prop) (X:Cx) (P:Program) (w:World) (K:Fg) (mg:Str->Option Value) (base:Heap) (k:Nat):Prop where
 e1:X.prog=P
 e2:X.w=w
 e3:X.K=K
 e4:X.mg=mg
 e5:X.base=base
 rm:RoomH k X.A
 pp:p K mg
theorem InH.r {p:Fg->(Str->Option Value)->Prop} {X:Cx} {P:Program} {w:World} {K:Fg} {mg:Str->Option Value} {base:Heap} {k:Nat} (I:InH p X P w K mg base k):Rm X:=by
 have:=I.rm.un
 unfold Rm;omega
section
variable {p:Fg->(Str->Option Value)->Prop} {P:Program} {w:World} {K:Fg} {mg:Str->Option Value} {base:Heap} {k:Nat} {x q:Str} {st:Stmt} {cl:List Str} {d:Str->FS}
theorem Lx (F:Ft K mg x st) (e:p K mg) (q:Str) (b:qu x st [q]) (rs gl:List Str) (vs cs gs:List Nat)
  (hb:∀(X:Cx) (a C:Addr) (c:Str),c∈cl->mg c=some (.ref C)->Cp { X with calm:=true } ([q]++rs) gl vs cs vs (nZ vs cs) gs->InH p X P w K mg base k->jz X a C->PSs X (qz st) (tZ 0 a X.K W0 (d c)))
  (h:fB ([q]++rs) gl [q] vs cs gs st=true:=by kernel_rfl):DW P w K mg base (k+1) x cl (fun c=>Da ([q]++rs).length (d c)):=by
 obtain ⟨f,fd,hm,F⟩:=F;obtain ⟨h1,h2,h3⟩:=qf h;refine ⟨f,fd,q,hm,F.kp,D1 F b,fun A outer s H a C c O Q args hr e0 hx hH haf hc hC nd inH hw hbn=>?_⟩
 obtain ⟨oc,od,kV,doc,pm,an,cdv,ct,osl,rfl,lk,hcd⟩:=F.ex;have hex:jz (FZ P w K mg base ([q]++rs) x (hV st) f cdv A outer s H) a C:=fun pins σ H' s' I=>by
  obtain ⟨oe,vs,g,hc1,hd⟩:=hx;exact ⟨oe,vs,I.base.keep a oe g hH haf nofun,hc1,hd⟩
 have S:Cp { FZ P w K mg base ([q]++rs) x (hV st) f cdv A outer s H with calm:=true } ([q]++rs) gl vs cs vs (nZ vs cs) gs:=by
  obtain ⟨a1,b1,c1⟩:=GC h2;have q1:=D2 h1
  exact ⟨rfl,a1,b1,c1,q1.vis,q1.cel,fun i x e hi=>⟨q1.loc i x e hi,.inl rfl⟩,q1.loo,q1.glb,rfl,q1.kind⟩
 refine C2 (k:=k) lk hcd h3 (vs:=[.ref a]) hr e0 hbn (.cons rfl .nil) rfl (hb _ a C c hc hC S ⟨rfl,rfl,rfl,rfl,rfl,hr.deeper _,e⟩ hex) ?_
 refine ⟨rfl,H,O,List.replicate ([q]++rs).length [],List.replicate ([q]++rs).length none,?_,?_⟩
 ·have fl:(List.replicate ([q]++rs).length ([]:List Addr)).flatten=[]:=by simp
  refine ⟨by simp [L2.start],by simp,Same.refl _,by rw [fl];simpa using nd,by rw [fl];simpa using inH,fun a ha=>by rw [fl] at ha;simp at ha,fun i p hp=>?_⟩
  rw [getElem?_replicate] at hp;split at hp<;>cases hp
 ·unfold Da at hw
  dsimp only at hw
  cases e:d c (List.replicate ([q]++rs).length none) with
  | nx Γ'=>
   rw [e] at hw;exact fun σ' H' Fs' E' _=>hw .non H' [] ⟨E'.same,(fun _ z=>nomatch z),(fun _ z=>nomatch z),nodup_nil,.leaf .non,rfl⟩
  | rt p=>rw [e] at hw;exact hw
  | bk Γ'=>rw [e] at hw;exact hw.elim
  | ct Γ'=>rw [e] at hw;exact hw.elim
  | er c Γ'=>rw [e] at hw;exact hw.elim
  | no=>rw [e] at hw;exact hw.elim
end
def rR (r:Res):F1:=fun Γ=>match r with
 | .ok p=>.ok p Γ
 | _=>.no
theorem CY {X:Cx} {pins:List (Addr×Obj)} {a C:Addr} {oe:Obj} {c:Str} {N gl:List Str} {vs cs ls lo gs:List Nat} {W:XW} {ie k kk:Nat} {x en:Str} {cl:List Str} {m:Str->Res} {pos p p1:Pos} (S:Cp X N gl vs cs ls lo gs) (hst:X.stack=X.env::X.outer) (hf:X.env.frame=some X.env.locals)
  (F:DW X.prog X.w X.K X.mg X.base k x cl m) (hr:Room kk X.A) (hk:decide (k<=kk)=true) (hc:c∈cl) (hC:X.mg c=some (.ref C)) (hcl:oe.cls=.ref C) (hd:∃vs,oe.data=.fields vs) (hN:N[ie]?=some en) (hv:vs.contains ie=true) (j:Nat) (hj:gl[j]?=some x) (hg:gs.contains j=true) :
  PE (wH X pins a oe) (.Call (.Name x p) [.Name en p1] [] pos) (tG (kU ie a) (tE X.K W (rR (m c)))):=by
 obtain ⟨f,fd,q,hm,hkp,hb,run⟩:=F;have mm:=S.nm en (mem_of_getElem? hN)
 have hvar:PE (wH X pins a oe) (.Name en p1) (fA ie):=qw (by show X.N[ie]?=_;rw [S.hN];exact hN) (S.vis ie en hN hv) mm.1 mm.2
 intro pins' s σ H Q I h
 obtain ⟨h1,He,O,Fs,Γ,E,h2⟩:=h;refine wpAny_Call_Name_kw (Ah I (S.g hj hg).1 hm ?_ (S.g hj hg).2.1)
 refine PySem.W.callWith_K (h₀:=X.base) I.ok.mod.kin hkp (bH (sL hvar zb rfl pos pins' s σ H (fun vs H1=>vs=[.ref a]/\H1=H) I ⟨.ref a,h1,rfl,rfl⟩) fun us s1 ⟨vs,H1,I1,r,q1,q2⟩=>⟨I1.kIn,?_⟩) (fJ rfl) rfl
 subst q1 q2;obtain ⟨u,rfl,ru⟩:=r.one
 cases (show u=Value.ref a from ru)
 obtain ⟨e,n,ne,nf,dd⟩:=I1.pin (a,oe) (mem_append_left _ (mem_append_right _ (List.mem_singleton.mpr rfl)))
 have haf:a∉gw X.stack:=fun z=>by
  rw [hst] at z;obtain ⟨en',m1,m2⟩:=List.mem_filterMap.mp z;rcases List.mem_cons.mp m1 with y | y
  ·rw [y,hf] at m2
   exact ne (Option.some.inj m2).symm
  ·exact nf (List.mem_filterMap.mpr ⟨en',y,m2⟩)
 have hb2:=hb s1 [.ref a] I1.kIn rfl
 rw [append_nil] at hb2;obtain ⟨vsd,hdd⟩:=hd;refine wpAny_call (codeAny_mono (run (X.A.mark (some (.ref a))) X.stack s1 _ a C c (O++Fs.flatten) Q ⟨[.ref a],[]⟩ ((Room.mark hr _).mono (of_decide_eq_true hk)) I1.env0 ⟨oe,vsd,e,hcl,hdd⟩ n haf hc hC E.nd E.inH ?_ hb2) fun r s' hq=>?_)
 ·cases em:m c with
  | er c'=>unfold rR at h2;rw [em] at h2;exact h2.elim
  | no=>unfold rR at h2;rw [em] at h2;exact h2.elim
  | ok p=>
   unfold rR at h2;rw [em] at h2;intro v H2 G r;refine h2 v H2 G Fs ⟨r.same,E.hide r.same r.nd r.fresh r.inH,fun b hb=>?_,by rw [append_assoc];exact r.own⟩
   rcases List.mem_append.mp hb with z | z
   ·exact .inr (r.fresh b z)
   ·exact .inl z
 ·cases r with
  | error e=>exact hq.elim
  | ok fl=>
   cases fl with
   | ret u=>exact I1.after hq
   | next=>exact False.elim hq
   | brk=>exact False.elim hq
   | cont=>exact False.elim hq
theorem Cp.hand {X:Cx} {pins:List (Addr×Obj)} {a:Addr} {oe:Obj} {N gl:List Str} {vs cs ls lo gs:List Nat} (S:Cp X N gl vs cs ls lo gs):Cp { wH X pins a oe with calm:=true } N gl vs cs ls lo gs:=⟨S.hN,S.nd,S.nm,S.ng,S.vis,S.cel,S.loc,S.loo,S.glb,rfl,S.kind⟩
theorem Cp.try {X:Cx} {pins:List (Addr×Obj)} {W:Addr->St->Hp->Prop} {N gl:List Str} {vs cs ls lo gs:List Nat} (S:Cp X N gl vs cs ls lo gs):Cp (eH X pins W) N gl vs cs ls lo gs:=⟨S.hN,S.nd,S.nm,S.ng,S.vis,S.cel,S.loc,S.loo,S.glb,S.calm,S.kind⟩
theorem In.try {p:Fg->(Str->Option Value)->Prop} {X:Cx} {P:Program} {w:World} {K:Fg} {mg:Str->Option Value} {base:Heap} {k:Nat} {pins:List (Addr×Obj)} {W:Addr->St->Hp->Prop} (I:In p X P w K mg base k):In p (eH X pins W) P w K mg base k:=⟨I.e1,I.e2,I.e3,I.e4,I.e5,I.rm,I.pp⟩
theorem CM {X:Cx} {N gl:List Str} {vs cs ls lo gs:List Nat} {W:XW} {a:Expr} {pos pos':Pos} {fa:F1} {k:Nat} {φ:St->Prop} {y:Str} (S:Cp { X with calm:=true } N gl vs cs ls lo gs) (hk:N[k]?=some y) (hl:ls.contains k=true) (ha:PE X a (tG φ (tE X.K W fa))) (hs:swapsWith a (some (.Name y pos')) pos.line X.env=pure false:=by rfl) :
  PSs X [.Assign [.Name y pos'] a pos] (Jw φ (tS X.K W (aA false k fa))):=
 Iu (cw (GE (by show X.N.Nodup;rw [show X.N=N from S.hN];exact S.nd) (by show X.N[k]?=_;rw [show X.N=N from S.hN];exact hk) (S.loc k y hk hl).1 ha hs (S.loc k y hk hl).2) fun D σ H h=>⟨h.1,GG h.2⟩)
abbrev Lh:List Value:=[.type "ValueError",.type "Exception",.type "BaseException",.type "object"]
def F5 (K:Fg) (D C:Addr) (c:Str) (ds:List Str):Bool:=PySem.W.excIn K C Lh "ValueError.__new__"&&yu K C&&PySem.W.subIn K (.ref C) (.ref D)==some true&&PySem.W.kitOne K (.ref C) (.type "ValueError")==some true&&ds.all fun d=>match PySem.W.nsIn K mainGlobals d with
 | some (some (.ref E))=>PySem.W.kitOne K (.ref C) (.ref E)==some (d==c)
 | _=>false
def FT (K:Fg) (cl ds:List Str):Bool:=match PySem.W.nsIn K mainGlobals "HallError" with
 | some (some (.ref D))=>PySem.W.typeIn K (.ref D)==some (.type "type")&&yu K D&&cl.all fun c=>match PySem.W.nsIn K mainGlobals c with
  | some (some (.ref C))=>F5 K D C c ds
  | _=>false
 | _=>false
structure Gz (K:Fg) (mg:Str->Option Value) (D C:Addr) (c:Str) (ds:List Str):Prop where
 ns:PySem.W.nsIn K mainGlobals c=some (some (.ref C))
 gm:mg c=some (.ref C)
 ei:PySem.W.excIn K C Lh "ValueError.__new__"=true
 ex:fH K C
 sub:PySem.W.subIn K (.ref C) (.ref D)=some true
 ve:PySem.W.kitOne K (.ref C) (.type "ValueError")=some true
 is:∀d,ds.contains d=true->∃E,mg d=some (.ref E)/\PySem.W.kitOne K (.ref C) (.ref E)=some (d==c)
structure ExT (K:Fg) (mg:Str->Option Value) (cl ds:List Str):Prop where
 h:∃D,mg "HallError"=some (.ref D)/\zV K D/\∀c∈cl,∃C,Gz K mg D C c ds
theorem gx {K:Fg} {h:Heap} {mg:Str->Option Value} {cl ds:List Str} (KX:K.In h) (G:h.Ns mainGlobals mg) (z:FT K cl ds=true):ExT K mg cl ds:=by
 unfold FT at z;split at z
 ·rename_i D e0
  simp only [Bool.and_eq_true,beq_iff_eq,all_eq_true] at z
  obtain ⟨⟨z1,z2⟩,z3⟩:=z;refine ⟨D,PySem.W.mg_of KX G e0,⟨z1,qg z2⟩,fun c hc=>?_⟩
  have z4:=z3 c hc
  split at z4
  ·rename_i C e1
   unfold F5 at z4;simp only [Bool.and_eq_true,beq_iff_eq,all_eq_true] at z4
   obtain ⟨⟨⟨⟨y1,y2⟩,y3⟩,y4⟩,y5⟩:=z4;refine ⟨C,e1,PySem.W.mg_of KX G e1,y1,qg y2,y3,y4,fun d hd=>?_⟩
   have y6:=y5 d (by simpa using hd)
   split at y6
   ·rename_i E e2
    exact ⟨E,PySem.W.mg_of KX G e2,beq_iff_eq.mp y6⟩
   ·cases y6
  ·cases z4
 ·cases z
theorem ExT.cls {K:Fg} {mg:Str->Option Value} {cl ds:List Str} (E:ExT K mg cl ds) {c:Str} {C:Addr} (hc:c∈cl) (hC:mg c=some (.ref C)):∃D,Gz K mg D C c ds:=by
 obtain ⟨D,_,_,h⟩:=E.h;obtain ⟨C',k⟩:=h c hc;have:=k.gm
 rw [hC] at this
 cases this;exact ⟨D,k⟩
theorem ExT.rais {K:Fg} {mg:Str->Option Value} {base:Heap} {cl ds:List Str} (E:ExT K mg cl ds) (KX:K.In base) (G:base.Ns mainGlobals mg) {c:Str} (hc:cl.contains c=true:=by kernel_rfl):sE mg base c:=by
 obtain ⟨D,_,_,h⟩:=E.h;obtain ⟨C,k⟩:=h c (by simpa using hc)
 exact xK (h:=base) KX G k.ns k.ei
section
variable {X:Cx} {N gl:List Str} {vs cs ls lo gs:List Nat} {W:XW} {cl ds:List Str} {i:Nat} {x C:Addr} {c ex d:Str} {p p1 p2 pos:Pos}
theorem FF (S:Cp { X with calm:=true } N gl vs cs ls lo gs) (E:ExT X.K X.mg cl ds) (hx:jz X x C) (hc:c∈cl) (hC:X.mg c=some (.ref C)) (hmi:X.mg "isinstance"=none) (j k:Nat) (hN:N[i]?=some ex:=by exact rfl) (hv:vs.contains i=true:=by exact rfl) (hj:gl[j]?=some ("isinstance":Str):=by exact rfl) (hg:gs.contains j=true:=by exact rfl) (hk2:gl[k]?=some d:=by exact rfl) (hg2:gs.contains k=true:=by exact rfl) (hd:ds.contains d=true:=by kernel_rfl) :
  PE X (.Call (.Name "isinstance" p) [.Name ex p1,.Name d p2] [] pos) (tG (kU i x) (tE X.K W (eK (.bool (d==c))))):=by
 obtain ⟨D,k'⟩:=E.cls hc hC;obtain ⟨E',h1,h2⟩:=k'.is d hd
 exact FM S hx k'.ex h2 h1 hmi hN hv j k hj hg hk2 hg2
theorem kR:bootBuiltins "ValueError"=some (.type "ValueError"):=by decide +kernel
theorem Kc (S:Cp { X with calm:=true } N gl vs cs ls lo gs) (E:ExT X.K X.mg cl ds) (hx:jz X x C) (hc:c∈cl) (hC:X.mg c=some (.ref C)) (hmi:X.mg "isinstance"=none) (hve:X.mg "ValueError"=none) (j k:Nat) (hN:N[i]?=some ex:=by exact rfl) (hv:vs.contains i=true:=by exact rfl) (hj:gl[j]?=some ("isinstance":Str):=by exact rfl) (hg:gs.contains j=true:=by exact rfl) (hk2:gl[k]?=some ("ValueError":Str):=by exact rfl) (hg2:gs.contains k=true:=by exact rfl) :
  PE X (.Call (.Name "isinstance" p) [.Name ex p1,.Name "ValueError" p2] [] pos) (tG (kU i x) (tE X.K W (eK (.bool true)))):=by
 obtain ⟨D,k'⟩:=E.cls hc hC;exact CV S hx k'.ex k'.ve hve kR hmi hN hv j k hj hg hk2 hg2
end
abbrev KD:List Str:=["NoWorld", "NoPlayer", "NoMark", "NoSentence", "NoRoom", "NoWay", "NoPlan", "NoPaper", "TooGreat", "NoNote"]
abbrev Lb:List Str:=["isinstance", "NoWorld", "NoPlayer", "NoMark", "NoSentence", "NoRoom", "NoWay", "NoPlan", "NoPaper", "TooGreat", "NoNote", "ValueError"]
abbrev bk (d c:Str):F1:=eK (.bool (d==c))
def FX (c:Str):FS:=av (aA false 1 (aB .leaf (ae (bk "NoWorld" c) (ae (bk "NoPlayer" c) (ae (bk "NoMark" c) (ae (bk "NoSentence" c) ag))))))
 (av (aA false 1 (bJ (af 1) (aB .leaf (ae (bk "NoRoom" c) (ae (bk "NoWay" c) (ae (bk "NoPlan" c) (ae (bk "NoPaper" c) ag)))))))
 (av (aA false 1 (bJ (af 1) (aB .leaf (ae (bk "TooGreat" c) (ae (bk "NoNote" c) ag)))))
 (av (bF (hJ (aN ax (az jm (rT 1) (eK (.int 1)))) (b9 (aN bf (eK (.bool true))))) (aI (eK (.str "other"))) aG)
 (aI (ai (aB .leaf (ae (eK (.str "world")) (ae (eK (.str "player")) (ae (eK (.str "mark")) (ae (eK (.str "sentence")) (ae (eK (.str "room")) (ae (eK (.str "way")) (ae (eK (.str "plan")) (ae (eK (.str "paper")) (ae (eK (.str "great")) (ae (eK (.str "note")) ag))))))))))) (rS 1))))))
end T
namespace TQ
open PySem PySem.Spec L2 T
open PyProof.Rows hiding St
section
variable {X:Cx} {N gl:List Str} {vs cs ls lo gs:List Nat} {W:XW} {φ:St->Prop} {a b c e:Expr} {es:List Expr} {pos p p1 p2:Pos} {fa fb fc:F1} {fl:FL} {ga gb:FB} {g1 g2:FS} {i k:Nat} {x C:Addr} {cl ds:List Str} {ex d y cc:Str}
theorem eV (S:Cp { X with calm:=true } N gl vs cs ls lo gs) (E:ExT X.K X.mg cl ds) (hx:jz X x C) (hc:cc∈cl) (hC:X.mg cc=some (.ref C)) (hmi:X.mg "isinstance"=none) (j k:Nat) (hN:N[i]?=some ex:=by exact rfl) (hv:vs.contains i=true:=by exact rfl) (hj:gl[j]?=some ("isinstance":Str):=by exact rfl) (hg:gs.contains j=true:=by exact rfl) (hk2:gl[k]?=some d:=by exact rfl) (hg2:gs.contains k=true:=by exact rfl) (hd:ds.contains d=true:=by kernel_rfl) :
  Q (PE X (.Call (.Name "isinstance" p) [.Name ex p1,.Name d p2] [] pos) (tG (kU i x) (tE X.K W (eK (.bool (d==cc)))))):=⟨FF S E hx hc hC hmi j k hN hv hj hg hk2 hg2 hd⟩
theorem Jk (S:Cp { X with calm:=true } N gl vs cs ls lo gs) (E:ExT X.K X.mg cl ds) (hx:jz X x C) (hc:cc∈cl) (hC:X.mg cc=some (.ref C)) (hmi:X.mg "isinstance"=none) (hve:X.mg "ValueError"=none) (j k:Nat) (hN:N[i]?=some ex:=by exact rfl) (hv:vs.contains i=true:=by exact rfl) (hj:gl[j]?=some ("isinstance":Str):=by exact rfl) (hg:gs.contains j=true:=by exact rfl) (hk2:gl[k]?=some ("ValueError":Str):=by exact rfl) (hg2:gs.contains k=true:=by exact rfl) :
  Q (PE X (.Call (.Name "isinstance" p) [.Name ex p1,.Name "ValueError" p2] [] pos) (tG (kU i x) (tE X.K W (eK (.bool true))))):=⟨Kc S E hx hc hC hmi hve j k hN hv hj hg hk2 hg2⟩
theorem Hv (h:Q (PE X a (tE X.K W fa))):Q (PE X a (tG φ (tE X.K W fa))):=⟨gu h.p⟩
theorem sZ:Q (PA X [] (zw φ (tA X.K W ag))):=⟨FK⟩
theorem wt (ha:Q (PE X e (tG φ (tE X.K W fa)))) (hr:Q (PA X es (zw φ (tA X.K W fl)))) (hs:wq e=false:=by exact rfl):Q (PA X (e::es) (zw φ (tA X.K W (ae fa fl)))):=⟨CW ha.p hr.p (fJ hs)⟩
theorem IE (s:Sh) (h:Q (PA X es (zw φ (tA X.K W fl)))):Q (PE X (.List es pos) (tG φ (tE X.K W (aB s fl)))):=⟨CU s h.p⟩
theorem zm (ha:Q (PE X a (tG φ (tE X.K W fa)))) (hb:Q (PE X b (tG φ (tE X.K W fb)))):Q (PE X (.BinOp a .Add b pos) (tG φ (tE X.K W (bJ fa fb)))):=⟨FN ha.p hb.p⟩
theorem zj (S:Cp { X with calm:=true } N gl vs cs ls lo gs) (i:Nat) {x:Str} (hN:N[i]?=some x:=by exact rfl) (hv:vs.contains i=true:=by exact rfl):Q (PE X (.Name x pos) (tE X.K W (af i))):=⟨FJ S i hN hv⟩
theorem Er (ha:Q (PE X a (tG φ (tE X.K W fa)))) (he:∀whole,isTrue a X.env whole=(do let v <-whole;standAt a.pos;holding [v] (truthy v)):=by exact fun _=>rfl):Q (PT X a (sN φ (tT X.K W (aN bf fa)))):=⟨CJ ha.p he⟩
theorem Et (ha:Q (PT X a (sN φ (tT X.K W ga)))):Q (PT X (.UnaryOp .Not a pos) (sN φ (tT X.K W (b9 ga)))):=⟨CL ha.p⟩
theorem Es (ha:Q (PT X a (tT X.K W ga))) (hb:Q (PT X b (sN φ (tT X.K W gb)))):Q (PT X (.BoolOp .Or [a,b] pos) (sN φ (tT X.K W (hJ ga gb)))):=⟨CK ha.p hb.p⟩
theorem zl {st:Stmt} {g:FS} (h:Q (PS X st (tZ i x X.K W g))):Q (PSs X [st] (tZ i x X.K W g)):=⟨DS h.p⟩
theorem Aq:Q (PSs X [] (tZ i x X.K W aG)):=⟨DT⟩
theorem Hi {st:Stmt} {rest:List Stmt} (h1:Q (PS X st (tZ i x X.K W g1))) (h2:Q (PSs X rest (tZ i x X.K W g2))):Q (PSs X (st::rest) (tZ i x X.K W (av g1 g2))):=⟨zX h1.p h2.p⟩
theorem sY {pos':Pos} (S:Cp { X with calm:=true } N gl vs cs ls lo gs) (ha:Q (PE X a (tG (kU i x) (tE X.K W fa)))) (hki:(k==i)=false:=by exact rfl) (hk:N[k]?=some y:=by exact rfl) (hl:ls.contains k=true:=by exact rfl) (hs:swapsWith a (some (.Name y pos')) pos.line X.env=pure false:=by exact rfl):Q (PS X (.Assign [.Name y pos'] a pos) (tZ i x X.K W (aA false k fa))):=⟨DQ S hki hk hl ha.p hs⟩
theorem Jl {A B:List Stmt} (hc:Q (PT X c (sN (kU i x) (tT X.K W ga)))) (ha:Q (PSs X A (tZ i x X.K W g1))) (hb:Q (PSs X B (tZ i x X.K W g2))):Q (PS X (.If c A B pos) (tZ i x X.K W (bF ga g1 g2))):=⟨Ib hc.p ha.p hb.p⟩
theorem zk (ha:Q (PE X a (tG (kU i x) (tE X.K W fa)))):Q (PS X (.Return (some a) pos) (tZ i x X.K W (aI fa))):=⟨DR ha.p⟩
theorem Ew (S:Cp { X with calm:=true } N gl vs cs ls lo gs) (i:Nat) {x:Str} {kb:Nat} {apos cpos bp:Pos} (hline:(apos.endLine==cpos.line)=true) (hi:N[i]?=some x:=by exact rfl) (hv:vs.contains i=true:=by exact rfl) (hbase:attributeBase (.Name x p) "count" X.env (eval (.Name x p) X.env)=eval (.Name x p) X.env:=by exact rfl) :
  Q (PE X (.Call (.Attribute (.Name x p) "count" apos) [.Constant (.bool true) kb bp] [] cpos) (tE X.K W (rT i))):=⟨Dg S i hi hv hbase hline⟩
theorem Eu (S:Cp { X with calm:=true } N gl vs cs ls lo gs) (i:Nat) {x:Str} {kb:Nat} {apos cpos bp:Pos} (hline:(apos.endLine==cpos.line)=true) (hi:N[i]?=some x:=by exact rfl) (hv:vs.contains i=true:=by exact rfl) (hbase:attributeBase (.Name x p) "index" X.env (eval (.Name x p) X.env)=eval (.Name x p) X.env:=by exact rfl) :
  Q (PE X (.Call (.Attribute (.Name x p) "index" apos) [.Constant (.bool true) kb bp] [] cpos) (tE X.K W (rS i))):=⟨Df S i hi hv hbase hline⟩
end
theorem xc {X:Cx} {cl:List Str} {a C:Addr} {c:Str} (S:Cp { X with calm:=true } ["e", "some"] Lb [0,1] [] [0,1] [0,1] [0,1,2,3,4,5,6,7,8,9,10,11]) (R:Rm X) (E:ExT X.K X.mg cl KD) (hx:jz X a C) (hc:c∈cl) (hC:X.mg c=some (.ref C)) (hmi:X.mg "isinstance"=none) (hve:X.mg "ValueError"=none)
  {q1 q2 q3 q4 q5 q6 q7 q8 q9 q10 q11 q12 q13 q14 q15 q16 q17 q18 q19 q20 q21 q22 q23 q24 q25 q26 q27 q28 q29 q30 q31 q32 q33 q34 q35 q36 q37 q38 q39 q40 q41 q42 q43 q44 q45 q46 q47 q48 q49 q50 q51 q52 q53 q54 q55 q56 q57 q58 q59 q60 q61 q62 q63 q64 q65 q66 q67 q68 q69 q70 q71 q72 q73 q74 q75 q76 q77 q78 q79 q80 q81 q82 q83 q84 q85:Pos}
  {k1 k2 k3 k4 k5 k6 k7 k8 k9 k10 k11 k12 k13 k14:Nat} (h1:(q47.endLine==q50.line)=true:=by exact rfl) (h2:(q60.endLine==q63.line)=true:=by exact rfl) :
  Q (PSs X [.Assign [.Name "some" q1] (.List [.Call (.Name "isinstance" q2) [.Name "e" q3,.Name "NoWorld" q4] [] q5,.Call (.Name "isinstance" q6) [.Name "e" q7,.Name "NoPlayer" q8] [] q9,.Call (.Name "isinstance" q10) [.Name "e" q11,.Name "NoMark" q12] [] q13,.Call (.Name "isinstance" q14) [.Name "e" q15,.Name "NoSentence" q16] [] q17] q18) q19,
   .Assign [.Name "some" q20] (.BinOp (.Name "some" q21) .Add (.List [.Call (.Name "isinstance" q22) [.Name "e" q23,.Name "NoRoom" q24] [] q25,.Call (.Name "isinstance" q26) [.Name "e" q27,.Name "NoWay" q28] [] q29,.Call (.Name "isinstance" q30) [.Name "e" q31,.Name "NoPlan" q32] [] q33,.Call (.Name "isinstance" q34) [.Name "e" q35,.Name "NoPaper" q36] [] q37] q38) q39) q40,
   .Assign [.Name "some" q41] (.BinOp (.Name "some" q42) .Add (.List [.Call (.Name "isinstance" q43) [.Name "e" q44,.Name "TooGreat" q45] [] q46,.Call (.Name "isinstance" q64) [.Name "e" q65,.Name "NoNote" q66] [] q67] q68) q69) q70,
   .If (.BoolOp .Or [.Compare (.Call (.Attribute (.Name "some" q48) "count" q47) [.Constant (.bool true) k1 q49] [] q50) [.NotEq] [.Constant (.int 1) k2 q51] q52,.UnaryOp .Not (.Call (.Name "isinstance" q53) [.Name "e" q54,.Name "ValueError" q55] [] q56) q57] q58) [.Return (some (.Constant (.str "other") k3 q59)) q71] [] q72,
   .Return (some (.Subscript (.List [.Constant (.str "world") k4 q73,.Constant (.str "player") k5 q74,.Constant (.str "mark") k6 q75,.Constant (.str "sentence") k7 q76,.Constant (.str "room") k8 q77,.Constant (.str "way") k9 q78,.Constant (.str "plan") k10 q79,.Constant (.str "paper") k11 q80,.Constant (.str "great") k12 q81,.Constant (.str "note") k13 q82] q83) (.Call (.Attribute (.Name "some" q61) "index" q60) [.Constant (.bool true) k14 q62] [] q63) q84)) q85] (tZ 0 a X.K W0 (FX c))):=by
 refine Hi (sY S (IE .leaf (wt (eV S E hx hc hC hmi 0 1) (wt (eV S E hx hc hC hmi 0 2) (wt (eV S E hx hc hC hmi 0 3) (wt (eV S E hx hc hC hmi 0 4) sZ)))))) ?_
 refine Hi (sY S (zm (Hv (zj S 1)) (IE .leaf (wt (eV S E hx hc hC hmi 0 5) (wt (eV S E hx hc hC hmi 0 6) (wt (eV S E hx hc hC hmi 0 7) (wt (eV S E hx hc hC hmi 0 8) sZ))))))) ?_
 refine Hi (sY S (zm (Hv (zj S 1)) (IE .leaf (wt (eV S E hx hc hC hmi 0 9) (wt (eV S E hx hc hC hmi 0 10) sZ))))) ?_
 refine Hi (Jl (Es (ck (uG R) (Ew S 1 h1) aH) (Et (Er (Jk S E hx hc hC hmi hve 0 11)))) (zl (zk (Hv cZ))) Aq) ?_
 exact zl (zk (Hv (bj (cY .leaf (aK cZ (aK cZ (aK cZ (aK cZ (aK cZ (aK cZ (aK cZ (aK cZ (aK cZ (aJ cZ))))))))))) (Eu S 1 h2))))
end TQ
namespace T
open PySem PySem.Spec L2
open PyProof.Rows hiding St
def Lj (X:Cx):Prop:=X.stack=X.env::X.outer/\X.env.frame=some X.env.locals
section
variable {p:Fg->(Str->Option Value)->Prop} {X Y:Cx} {P:Program} {w:World} {K:Fg} {mg:Str->Option Value} {base:Heap} {j k n:Nat} {y:Str} {s:Stmt} {ps:List Str} {g:FS} {den:List PySem.PyData->Res} {cl ds:List Str} {m:Str->Res}
abbrev KA (p:Fg->(Str->Option Value)->Prop) (P:Program) (w:World) (K:Fg) (mg:Str->Option Value) (base:Heap) (k:Nat) (N gl:List Str) (vs cs gs:List Nat) (s:Stmt) (g:FS):Prop:=∀X:Cx,Cp X N gl vs cs vs (nZ vs cs) gs->In p X P w K mg base k->Lj X->PassesOwn (model X.prog X.w) X.A X.env X.xe->TQ.Q (PSs X (qz s) (tS X.K W0 g))
theorem Fy {f:Addr} {fd:FuncData} (F:Fun K y y s f fd) (e:p K mg) (N gl:List Str) (vs cs gs:List Nat) (h:fB N gl ps vs cs gs s=true) (hb:KA p P w K mg base k N gl vs cs gs s g):du P w K mg base j8 (k+1) f fd ps (o8 K ps.length (aD N.length g)):=by
 obtain ⟨h1,h2,h3⟩:=qf h;exact vz F h3 fun cdv A outer s H E hr=>(hb _ (Cp.fn h1 h2) ⟨rfl,rfl,rfl,rfl,rfl,hr,e⟩ ⟨rfl,rfl⟩ PassesOwn.never).p
theorem Lw (F:Ft K mg y s) (e:p K mg) (ps:List Str) (b:qu y s ps) (rs gl:List Str) (vs cs gs:List Nat) (hb:KA p P w K mg base k (ps++rs) gl vs cs gs s g) (h:fB (ps++rs) gl ps vs cs gs s=true:=by kernel_rfl):DefOk P w K mg base (k+1) y ps.length (aD (ps++rs).length g):=by
 obtain ⟨f,fd,hm,F⟩:=F;exact ⟨f,fd,ps,Fy F e _ gl vs cs gs h hb,hm,F.kp,D1 F b⟩
theorem J7 {fa:Addr} (F:Ft K mg y s) (e:p K mg) (q:Str) (b:qu y s [q]) (hfa:mg y=some (.ref fa)) (rs gl:List Str) (vs cs gs:List Nat) (hb:∀base:Heap,(K.In base/\base.Ns mainGlobals mg)->KA p P w K mg base k ([q]++rs) gl vs cs gs s g) (h:fB ([q]++rs) gl [q] vs cs gs s=true:=by kernel_rfl) :
  ∃fd:FuncData,(∀(s:Shared) (v:Value),BindsTo s fd ⟨[v],[]⟩ [(q,v)])/\∀base:Heap,K.In base->base.Ns mainGlobals mg->du P w K mg base j8 (k+1) fa fd [q] (o8 K 1 (aD ([q]++rs).length g)):=by
 obtain ⟨f,fd,hm,F⟩:=F;have e':=hfa.symm.trans hm
 cases e'
 refine ⟨fd,fun s v=>?_,fun base kb nb=>Fy F e _ gl vs cs gs h (hb base ⟨kb,nb⟩)⟩
 obtain ⟨oc,od,kV,doc,pm,an,cdv,ct,osl,rfl,lk,hcd⟩:=F.ex;exact .of_eq (b [v] rfl kV doc pm an cdv ct)
theorem In.eE (I:In p X P w K mg base k) (h:DW P w K mg base j y cl m):DW X.prog X.w X.K X.mg X.base j y cl m:=by
 obtain ⟨rfl,rfl,rfl,rfl,rfl,r,_⟩:=I;exact h
theorem In.xt (I:In p X P w K mg base k) (h:ExT K mg cl ds):ExT X.K X.mg cl ds:=by rw [I.e3,I.e4];exact h
theorem InH.xt (I:InH p X P w K mg base k) (h:ExT K mg cl ds):ExT X.K X.mg cl ds:=by rw [I.e3,I.e4];exact h
theorem InH.gm {o:Option Value} (I:InH p X P w K mg base k) (h:mg y=o):X.mg y=o:=by rw [I.e4];exact h
theorem JZ {X:Cx}:PassesOwn (model X.nox.prog X.nox.w) X.nox.A X.nox.env X.nox.xe:=PassesOwn.never
end
end T
namespace TQ
open PySem PySem.Spec L2 T
open PyProof.Rows hiding St
theorem Ez {X:Cx} {N gl:List Str} {vs cs ls lo gs:List Nat} (S:Cp X N gl vs cs ls lo gs) (st:Lj X) {body:List Stmt} {g:FS} {k:Str->FS} {cl ds:List Str} {en:Str} (ie j:Nat) {np hpos pos:Pos} {suite:Stmt} (E:ExT X.K X.mg cl ds)
  (hb:∀(pins:List (Addr×Obj)) (W:Addr->L2.St->Hp->Prop),Q (PSs (eH X pins W) body (tS X.K (wT X.mg W) g)))
  (hh:∀(pins:List (Addr×Obj)) (a C:Addr) (oe:Obj) (c:Str),c∈cl->X.mg c=some (.ref C)->oe.cls=.ref C->(∃vs,oe.data=.fields vs)->PSs (wH X pins a oe) [suite] (Jw (kU ie a) (tS X.K W0 (k c))))
  (hie:N[ie]?=some en:=by exact rfl) (hel:lo.contains ie=true:=by exact rfl) (hj:gl[j]?=some ("HallError":Str):=by exact rfl) (hg:gs.contains j=true:=by exact rfl) :
  Q (PS X (.Try body [.ExceptHandler (some (.Name "HallError" np)) (some en) [suite] hpos] [] [] pos) (tS X.K W0 (lO cl ie g k))):=by
 obtain ⟨D,h1,h2,h3⟩:=E.h;refine ⟨BJ S st.1 st.2 hie hel hj hg h1 h2 (fun c hc C hC=>?_) (fun pins W=>(hb pins W).p) hh⟩
 obtain ⟨C',k'⟩:=h3 c hc;have:=k'.gm
 rw [hC] at this
 cases this;exact k'.sub
end TQ
namespace KQ.M
open PySem PySem.Spec L2 T
open PyProof.Rows hiding St
open KC
noncomputable def bD:Str->Res:=fun c=>Da 2 (FX c)
noncomputable def d__law_twin:FS:=(aI (bo (ae (kX (ai (af 0) (eK (.int 0)))) (ae (aC .leaf 1 (bt (ai (af 0) (eK (.int 1)))) aR (kX (af 1))) (ae (aC .leaf 1 (bt (ai (af 0) (eK (.int 2)))) aR (kX (af 1))) ag)))))
noncomputable def m__law_twin:List PySem.PyData->Res:=aD 2 d__law_twin
section
open PySem.SeqAt
theorem xf:bD "NoRoom"=.ok ⟨.leaf,.str "room"⟩:=by with_unfolding_all rfl
theorem AA:bD "NoWay"=.ok ⟨.leaf,.str "way"⟩:=by with_unfolding_all rfl
theorem tj:bD "NoWorld"=.ok ⟨.leaf,.str "world"⟩:=by with_unfolding_all rfl
theorem lh:bD "NoSentence"=.ok ⟨.leaf,.str "sentence"⟩:=by with_unfolding_all rfl
theorem Av {cl:List Str} {ie:Nat} {g:FS} {k:Str->FS} {Γ Γ':Ev} (h:g Γ=.nx Γ'):lO cl ie g k Γ=.nx Γ':=by unfold lO;rw [h]
theorem Aw {cl:List Str} {ie:Nat} {g:FS} {k:Str->FS} {Γ Γ1 Γ':Ev} {c:Str} (h:g Γ=.er c Γ1) (hc:cl.contains c=true) (h1:isN Γ1[ie]?=true) (hk:k c Γ1=.nx Γ') (h2:isN Γ'[ie]?=true):lO cl ie g k Γ=.nx Γ':=by
 unfold lO;rw [h];unfold xh;simp only [hc,h1,Bool.and_self,if_true,hk,h2]
theorem v_res {r:Res} {p:PV} {Γ:Ev} (h:r=.ok p):rR r Γ=.ok p Γ:=by rw [h];rfl
theorem iW {Γ Γ1:Ev} {fl:FL} {ps:List PV} {n:Nat} {p:PV} {den:List D->Res} (hl:fl Γ=.ok ps Γ1) (hd:den (ps.map (·.d))=.ok p) (hn:ps.length=n) (hc:ps.all (T.coer .leaf)=true):fL n den fl Γ=.ok p Γ1:=by
 unfold fL;rw [hl];simp only [Out.bind,hn,hd,hc,if_true]
theorem wZ {Γ Γ1:Ev} {fl:FL} {ps:List PV} {n:Nat} {c:Str} {den:List D->Res} (hl:fl Γ=.ok ps Γ1) (hd:den (ps.map (·.d))=.er c) (hn:ps.length=n):fL n den fl Γ=.er c Γ1:=by
 unfold fL;rw [hl];simp only [Out.bind,hn,hd,if_true]
theorem wR {fa:F1} {Γ Γ':Ev} {c:Str} (h:fa Γ=.er c Γ'):bA fa Γ=.er c Γ':=by unfold bA gE;rw [h]
theorem zc {g1 g2:FS} {Γ Γ':Ev} {c:Str} (h:g1 Γ=.er c Γ'):av g1 g2 Γ=.er c Γ':=by unfold av;rw [h]
theorem dZ {n:Nat} {g:FS} {ds:List D} {c:Str} {Γ':Ev} (h:g (aQ n ds)=.er c Γ'):aD n g ds=.er c:=by unfold aD;rw [h]
end
open PySem.SeqAt
noncomputable abbrev my (l:List Int):D:=.list (l.map .int)
noncomputable abbrev i4 (F R:List Int):D:=.tuple [my F,my R]
noncomputable def fX (n:Nat) (x:Int):Bool:=decide (0<=x)&&decide (x<(n:Int))
noncomputable def stB (w:Wd) (A:List Nat):Bool:=(List.range (A.length-1)).all fun k=>(w.stp (A.getD k 0)).contains (A.getD (k+1) 0)
noncomputable def nk (w:Wd) (F R:List Int):Bool:=!R.isEmpty&&(F++R).all (fX w.n)&&stB w ((F++R++R.take 1).map Int.toNat)
theorem ua {l:List D} {k:Nat}:T.cutD l none (some (k:Int))=l.take k:=by
 unfold T.cutD;rw [HT.sIx_none,HT.sIx_nat,drop_zero,Nat.sub_zero];by_cases h:k<=l.length
 ·rw [Nat.min_eq_left h]
 ·rw [Nat.min_eq_right (by omega),take_of_length_le (Nat.le_refl _),take_of_length_le (by omega)]
theorem ub {l:List D} {k:Nat}:T.cutD l (some (k:Int)) none=l.drop k:=by
 unfold T.cutD;rw [HT.sIx_none,HT.sIx_nat];by_cases h:k<=l.length
 ·rw [Nat.min_eq_left h,take_of_length_le (by simp)]
 ·rw [Nat.min_eq_right (by omega),drop_of_length_le (by simp),drop_of_length_le (by omega)]
  simp
theorem GD {s:Sh} {l:List Int}:cR ⟨s,my l⟩ (l.map .int)=true:=by
 unfold cR;simp [bu]
theorem J4 {n:Nat} {l:List Int} (h:l.all (fX n)=true):l.map PyData.int=(l.map Int.toNat).map rm/\∀x∈l.map Int.toNat,x<n:=by
 have h0:∀x∈l,0<=x/\x<(n:Int):=fun x hx=>by
  have:=List.all_eq_true.mp h x hx
  unfold fX at this;simpa using this
 refine ⟨?_,fun x hx=>?_⟩
 ·rw [map_map]
  refine List.map_congr_left fun x hx=>?_
  have:=h0 x hx
  show PyData.int x=.int ((x.toNat:Nat):Int)
  rw [Int.toNat_of_nonneg this.1]
 ·obtain ⟨y,hy,rfl⟩:=List.mem_map.mp hx
  have:=h0 y hy
  omega
theorem wb {n:Nat} {F R:List Int} (h:(F++R).all (fX n)=true):(F++R++R.take 1).all (fX n)=true:=by
 rw [List.all_append,h,Bool.true_and];refine List.all_eq_true.mpr fun x hx=>List.all_eq_true.mp h x (mem_append_right _ (List.mem_of_mem_take hx))
theorem Gg {n:Nat} {F R:List Int}:(F++R++R.take 1).all (fX n)=(F++R).all (fX n):=by
 cases e:(F++R).all (fX n) with
 | true=>exact wb e
 | false=>rw [List.all_append,e,Bool.false_and]
theorem chain_ev {w:Wd} (ok:w.Ok) {Γ:Ev} {i:Nat} {x:Int} (h0:Γ[0]?=some (some ⟨.leaf,w.enc⟩)) (hi:Γ[i]?=some (some ⟨.leaf,.int x⟩)):m9 sR eR (eK (.int 0)) (af i) (bw aT (ae (ai (af 0) (eK (.int 0))) ag)) Γ=.ok ⟨.leaf,.bool (fX w.n x)⟩ Γ:=
 IU (b:=decide ((0:Int)<=x)) (b':=decide (x<(w.n:Int))) (g:=sR) (g':=eR) (fa:=eK (.int 0)) (fb:=af i) aL (aw hi) rfl rfl (G5 ok (i:=0) h0) rfl
theorem sf {w:Wd} (ok:w.Ok) {F R:List Int} (hF:F.length<=450) (hR:R.length<=450):aZ [w.enc,i4 F R]=.ok ⟨.leaf,.bool (nk w F R)⟩:=by
 have hT:(R.take 1).length<=1:=by rw [length_take];omega
 have c1:bJ (bJ (ai (af 1) (eK (.int 0))) (ai (af 1) (eK (.int 1)))) (bI (fun k=>(none,some k)) (ai (af 1) (eK (.int 1))) (eK (.int 1))) (aQ 5 [w.enc,i4 F R])=.ok ⟨.lst .leaf,my (F++R++R.take 1)⟩ (aQ 5 [w.enc,i4 F R]):=by
  have i0:ai (af 1) (eK (.int 0)) (aQ 5 [w.enc,i4 F R])=.ok ⟨.leaf,my F⟩ (aQ 5 [w.enc,i4 F R]):=nc (j:=0) (aw rfl) aL rfl rfl rfl
  have i1:ai (af 1) (eK (.int 1)) (aQ 5 [w.enc,i4 F R])=.ok ⟨.leaf,my R⟩ (aQ 5 [w.enc,i4 F R]):=nc (j:=1) (aw rfl) aL rfl rfl rfl
  have s1:bI (fun k=>(none,some k)) (ai (af 1) (eK (.int 1))) (eK (.int 1)) (aQ 5 [w.enc,i4 F R])=.ok ⟨.lst .leaf,my (R.take 1)⟩ (aQ 5 [w.enc,i4 F R]):=by
   rw [dg i1 aL GD,show T.cutD (R.map PyData.int) none (some (1:Int))=(R.map PyData.int).take 1 from ua (k:=1),<-map_take]
  have:=dE (dE i0 i1 GD GD (by simp;omega)) s1 rfl rfl (by simp;omega)
  rw [this];simp
 have hne:(!R.isEmpty)=true->1<=(F++R++R.take 1).length-1:=fun z=>by
  cases R with
  | nil=>cases z
  | cons a r=>simp;omega
 generalize hA:F++R++R.take 1=A at c1 hne
 have lnA:A.length<=1801:=by rw [<-hA];simp;omega
 have t1:aN bf (ai (af 1) (eK (.int 1))) [some ⟨.leaf,w.enc⟩,some ⟨.leaf,i4 F R⟩,some ⟨.leaf,my A⟩,none,none]=.ok (!R.isEmpty) [some ⟨.leaf,w.enc⟩,some ⟨.leaf,i4 F R⟩,some ⟨.leaf,my A⟩,none,none]:=by
  have i1:ai (af 1) (eK (.int 1)) [some ⟨.leaf,w.enc⟩,some ⟨.leaf,i4 F R⟩,some ⟨.leaf,my A⟩,none,none]=.ok ⟨.leaf,my R⟩ [some ⟨.leaf,w.enc⟩,some ⟨.leaf,i4 F R⟩,some ⟨.leaf,my A⟩,none,none]:=nc (j:=1) (aw rfl) aL rfl rfl rfl
  unfold aN;rw [i1]
  cases R<;>rfl
 have cm:=oT (Γ:=[some ⟨.leaf,w.enc⟩,some ⟨.leaf,i4 F R⟩,some ⟨.leaf,my A⟩,none,none]) (s:=.leaf) (i:=4) (fi:=bt (af 2)) (fe:=m9 sR eR (eK (.int 0)) (af 4) (bw aT (ae (ai (af 0) (eK (.int 0))) ag))) PyData.int A (fun x=>⟨.leaf,.bool (fX w.n x)⟩) (st:=true) (cf (s:=.leaf) (aw rfl) GD) (by simp) rfl (by omega) fun x hx=>⟨chain_ev ok rfl rfl,rfl⟩
 have t2:=vV (fx t1) (fx (cK (s:=.leaf) (bQ (ay cm ah) (wu (xs:=A) (f:=fX w.n)))))
 refine aS ?_
 refine aq (Γ1:=[some ⟨.leaf,w.enc⟩,some ⟨.leaf,i4 F R⟩,some ⟨.leaf,my A⟩,none,none]) (cb c1 rfl (by simp [aQ])) ?_
 have eA:A.all (fX w.n)=(F++R).all (fX w.n):=by rw [<-hA];exact Gg
 cases e1:(!R.isEmpty&&(F++R).all (fX w.n)) with
 | false=>
  have:nk w F R=false:=by unfold nk;rw [e1,Bool.false_and]
  rw [this];refine qy (aV t2 (fun _=>aW aL rfl) fun z=>?_)
  rw [eA,<-Bool.not_and,e1] at z
  cases z
 | true=>
  have ew:nk w F R=stB w (A.map Int.toNat):=by unfold nk;rw [e1,Bool.true_and,hA]
  have e1':=e1
  rw [Bool.and_eq_true] at e1';rw [eA,<-Bool.not_and,e1] at t2;refine aq (aV t2 nofun fun _=>rfl) ?_
  have hn:=J4 (by rw [eA];exact e1'.2:A.all (fX w.n)=true)
  have l1:=hne e1'.1
  rw [ew];have lN:(A.map Int.toNat).length=A.length:=length_map _
  rw [show my A=aF (A.map Int.toNat) by show PyData.list _=_;rw [hn.1]]
  generalize A.map Int.toNat=N at hn lN
  refine aW (p:=⟨.leaf,.bool (stB w N)⟩) (bQ (ps:=[⟨.lst .leaf,.list ((List.range (N.length-1)).map fun k=>.bool ((w.stp (N.getD k 0)).contains (N.getD (k+1) 0)))⟩]) (ay (oT (fun k:Nat=>PyData.int (1+(k:Int))) (List.range (N.length-1)) (fun k=>⟨.leaf,.bool ((w.stp (N.getD k 0)).contains (N.getD (k+1) 0))⟩) (st:=true) ?_ (by simp) rfl (by simp;omega) ?_) ah) ?_) rfl
  ·refine (xg (k:=1) (m:=(N.length:Int)) (ay aL (ay (bQ (ay (aw rfl) ah) ?_) ah)) rfl (by omega) (by omega) (by omega) (by omega)).trans ?_
   ·simp only [map_cons,List.map_nil,GF,length_map]
   ·rw [show ((N.length:Int)-1).toNat=N.length-1 by omega,lQ]
  ·intro k hk
   have hk:=List.mem_range.mp hk
   refine ⟨?_,rfl⟩
   have x1:=eY (Γ:=[some ⟨.leaf,w.enc⟩,some ⟨.leaf,i4 F R⟩,some ⟨.leaf,aF N⟩,some ⟨.leaf,.int (1+(k:Int))⟩,none]) (fa:=af 2) (fb:=af 3) (s:=.leaf) (l:=N) (k:=k+1) (aw rfl) (by rw [aw (d:=.int (1+(k:Int))) rfl,show (1+(k:Int))=((k+1:Nat):Int) by omega]) (by omega)
   have x2:=eY (Γ:=[some ⟨.leaf,w.enc⟩,some ⟨.leaf,i4 F R⟩,some ⟨.leaf,aF N⟩,some ⟨.leaf,.int (1+(k:Int))⟩,none]) (fa:=af 2) (fb:=az gSub (af 3) (eK (.int 1))) (s:=.leaf) (l:=N) (k:=k) (aw rfl) (by rw [aE (aw rfl) aL sub_int',show (1+(k:Int)-1)=(k:Int) by omega]) (by omega)
   have hm:N.getD k 0<w.n:=hn.2 _ (by rw [getD_eq_getElem?_getD,getElem?_eq_getElem (by omega:k<N.length)];exact getElem_mem _)
   exact aE x1 (Ec ok rfl x2 hm) wI
  ·exact wu (xs:=List.range (N.length-1)) (f:=fun k=>(w.stp (N.getD k 0)).contains (N.getD (k+1) 0))
theorem pv {l:List Nat}:aF l=my (l.map fun x:Nat=>(x:Int)):=by
 show PyData.list _=PyData.list _
 rw [map_map];rfl
noncomputable def iM:FS:=(bF (b9 (aN bf (ak 3 cA (ae (ai (af 0) (eK (.int 0))) (ae (ai (af 0) (eK (.int 1))) (ae (ai (af 0) (eK (.int 2))) ag)))))) (wM "NoWorld") aG)
noncomputable def aU:List PySem.PyData->Res:=aD 1 iM
noncomputable def g6:FS:=(av (gD [4,5,6] (af 0))
  (av (aA false 2 (az bV (ak 3 aj (ae (af 1) (ae (eK (.int 1)) (ae (eK (.int 24)) ag)))) (bw aT (ae (af 4) ag))))
  (av (aA false 3 (az aO (eK (.int 1)) (ak 3 aj (ae (af 1) (ae (eK (.int 2)) (ae (az mB (eK (.int 10)) (eK (.int 9))) ag))))))
  (av (bF (aN ax (az bL (ak 3 aj (ae (af 1) (ae (eK (.int 0)) (ae (eK (.int 6)) ag)))) (eK (.int 0)))) (aI (bo (ae (aB .leaf ag) (ae (aB .leaf ag) (ae (aB .leaf ag) ag))))) aG)
  (av (bF (aN ax (az bL (ak 3 aj (ae (af 1) (ae (eK (.int 0)) (ae (eK (.int 6)) ag)))) (eK (.int 1)))) (av (aA false 7 (bJ (ai (af 6) (af 2)) (aB .leaf (ae (az aO (az gSub (bw aT (ae (af 4) ag)) (eK (.int 1))) (af 3)) ag))))
  (aI (bo (ae (af 4) (ae (af 5) (ae (bJ (bJ (bI (fun k=>(none,some k)) (af 6) (af 2)) (aB .leaf (ae (af 7) ag))) (bI (fun k=>(some k,none)) (af 6) (az aO (af 2) (eK (.int 1))))) ag)))))) aG)
  (av (bF (aN ax (az bL (ak 3 aj (ae (af 1) (ae (eK (.int 0)) (ae (eK (.int 6)) ag)))) (eK (.int 2)))) (aI (bo (ae (af 4) (ae (af 5) (ae (bJ (bJ (bI (fun k=>(none,some k)) (af 6) (af 2)) (aB .leaf (ae (aB .leaf ag) ag))) (bI (fun k=>(some k,none)) (af 6) (az aO (af 2) (eK (.int 1))))) ag))))) aG)
  (av (bF (aN ax (az bL (ak 3 aj (ae (af 1) (ae (eK (.int 0)) (ae (eK (.int 6)) ag)))) (eK (.int 3)))) (aI (bo (ae (bJ (bJ (bI (fun k=>(none,some k)) (af 4) (af 2)) (aB .leaf (ae (ai (aB .leaf (ae (eU bC (eK (.int 1))) (ae (eK (.int 2)) ag))) (az bV (af 3) (eK (.int 2)))) ag))) (bI (fun k=>(some k,none)) (af 4) (az aO (af 2) (eK (.int 1))))) (ae (af 5) (ae (af 6) ag))))) aG)
  (av (bF (aN ax (az bL (ak 3 aj (ae (af 1) (ae (eK (.int 0)) (ae (eK (.int 6)) ag)))) (eK (.int 4)))) (av (aA false 8 (ai (aB .leaf (ae (aB .leaf (ae (eK (.str "b")) (ae (eK (.str "a")) ag))) (ae (aB .leaf (ae (eK (.str "a")) (ae (eK (.str "a")) ag))) (ae (aB .leaf (ae (eK (.str "g")) ag)) (ae (aB .leaf (ae (eK (.str "ab")) ag)) (ae (aB .leaf (ae (eK (.str "")) ag)) ag)))))) (az bV (af 3) (eK (.int 5)))))
  (aI (bo (ae (af 4) (ae (bJ (bJ (bI (fun k=>(none,some k)) (af 5) (af 2)) (aB .leaf (ae (af 8) ag))) (bI (fun k=>(some k,none)) (af 5) (az aO (af 2) (eK (.int 1))))) (ae (af 6) ag)))))) aG)
  (aI (bo (ae (af 4) (ae (af 5) (ae (bJ (aB .leaf (ae (aB .leaf (ae (eU bC (af 3)) ag)) ag)) (bI (fun k=>(some k,none)) (af 6) (eK (.int 1)))) ag)))))))))))))
noncomputable def b3:List PySem.PyData->Res:=aD 9 g6
open PySem.SeqAt
theorem jW {c k b:Int} (hk:0<=k) (hk2:k<=1000) (hb:1<=b) (hb2:b<=1000000000):∃r,aj [.int c,.int k,.int b]=.ok ⟨.leaf,.int r⟩/\0<=r/\r<b:=by
 have t:aN ax (az mC (af 0) (az mB (eK (.int 10)) (eK (.int 18)))) [some ⟨.leaf,.int c⟩,some ⟨.leaf,.int k⟩,some ⟨.leaf,.int b⟩,none,none,none]=.ok (decide (10 ^ (18:Int).toNat<=c)) [some ⟨.leaf,.int c⟩,some ⟨.leaf,.int k⟩,some ⟨.leaf,.int b⟩,none,none,none]:=
  dY (aE (aw rfl) (aE aL aL (pO (by omega) (by omega))) qb)
 cases hge:decide (10 ^ (18:Int).toNat<=c) with
 | true=>
  rw [hge] at t;obtain ⟨Γ',e,l,x,hΓ⟩:=G8 (P:=fun _ Γ=>∃l x,Γ=[some ⟨.leaf,.int c⟩,some ⟨.leaf,.int k⟩,some ⟨.leaf,.int b⟩,none,some ⟨.leaf,.int l⟩,x]) (i:=5) (body:=aA false 4 (az oq (af 4) (af 2))) (b4 0 k.toNat) 0
   [some ⟨.leaf,.int c⟩,some ⟨.leaf,.int k⟩,some ⟨.leaf,.int b⟩,none,some ⟨.leaf,.int c⟩,none] ⟨c,none,rfl⟩ (fun m d Γ hd _ _ ⟨l,x,hΓ⟩=>by
    subst hΓ;refine ⟨by simp,_,cb (aE (aw rfl) (aw rfl) (qj (by omega) (by omega))) rfl (by simp),_,_,rfl⟩)
  subst hΓ;exact ⟨_,aS (qy (aV t (fun _=>aq (cb (aw rfl) rfl (by simp)) (aq (fM (nq (k:=k) (ay (aw rfl) ah) rfl (by omega) (by omega)) e) (aW (aE (aw rfl) (aw rfl) (bX (by omega))) rfl))) nofun)),Int.emod_nonneg _ (by omega),Int.emod_lt_of_pos _ (by omega)⟩
 | false=>
  rw [hge] at t;have m1:∀x:Int,0<=x % 2147483647/\x % 2147483647<2147483647:=fun x=>⟨Int.emod_nonneg _ (by omega),Int.emod_lt_of_pos _ (by omega)⟩
  refine ⟨_,aS (aq (aV t nofun (fun _=>rfl)) (aq (cb (aE (aE (aE (aE (aE (aw rfl) aL (bX (by omega))) (aE aL (aw rfl) (jN (by omega) (by omega))) KC.add_int') aL KC.add_int') aL (pV (by omega) (by omega))) aL (bX (by omega))) rfl (by simp [aQ]))
   (aq (cb (aE (aE (aE (aE (aw rfl) (aw rfl) (jN ?_ ?_)) (aE aL (aw rfl) (jN (by omega) (by omega))) KC.add_int') aL KC.add_int') aL (bX (by omega))) rfl (by simp [aQ]))
   (aW (aE (aE (aE (aE (aw rfl) aL (pV (by omega) (by omega))) aL (bX (by omega))) aL (qj (by omega) (by omega))) (aw rfl) (bX (by omega))) rfl)))),Int.emod_nonneg _ (by omega),Int.emod_lt_of_pos _ (by omega)⟩
  ·exact Int.lt_of_lt_of_le (by omega) (m1 _).1
  ·exact Int.lt_trans (m1 _).2 (by omega)
theorem vR {b:Nat} {os ms ss:List D} (h:Wk b os ms ss) (hb:b<=100):b9 (aN bf (ak 3 cA (ae (ai (af 0) (eK (.int 0))) (ae (ai (af 0) (eK (.int 1))) (ae (ai (af 0) (eK (.int 2))) ag))))) (aQ 1 [dM os ms ss])=.ok (!(isW os ms ss)) (aQ 1 [dM os ms ss]):=
 fx (cK (s:=.leaf) (cn (ay (nc (j:=0) (aw rfl) aL rfl rfl rfl) (ay (nc (j:=1) (aw rfl) aL rfl rfl rfl) (ay (nc (j:=2) (aw rfl) aL rfl rfl rfl) ah))) (gh h hb) rfl rfl))
theorem sG {w:Wd} (ok:w.Ok):aU [w.enc]=.ok ⟨.leaf,.none⟩:=by
 have t:=vR (ok.g.wk (b:=24) ok.h24) (by omega)
 rw [ok.g.isW ok.h1 ok.h24] at t;exact jM (Γ:=aQ 1 [w.enc]) (aV t nofun fun _=>rfl)
theorem yy {b:Nat} {os ms ss:List D} (h:Wk b os ms ss) (hb:b<=100) (hw:isW os ms ss=false):aU [dM os ms ss]=.er "NoWorld":=by
 have t:=vR h hb
 rw [hw] at t;exact dZ (Γ':=aQ 1 [dM os ms ss]) (aV t (fun _=>rfl) nofun)
theorem FC {os ms ss:List D} {a:D} (h:a∈os) (ha:CI a=false):isW os ms ss=false:=by
 have:os.all CI=false:=List.all_eq_false.mpr ⟨a,h,by rw [ha];simp⟩
 unfold isW;rw [this];simp
theorem FD {os ms ss:List D} {a:D} (h:a∈ms) (ha:yc a=false):isW os ms ss=false:=by
 have:ms.all yc=false:=List.all_eq_false.mpr ⟨a,h,by rw [ha];simp⟩
 unfold isW;rw [this];simp
theorem va {os ms ss:List D} {a:D} (h:a∈ss) (ha:zy os.length a=false):isW os ms ss=false:=by
 have:ss.all (zy os.length)=false:=List.all_eq_false.mpr ⟨a,h,by rw [ha];simp⟩
 unfold isW;rw [this];simp
theorem ph {n:Int} {xs:List D} {i:Int} (h:PyData.int i∈xs) (hi:i<0\/n<=i):zy n (.list xs)=false:=by
 have:xs.all (inR n)=false:=List.all_eq_false.mpr ⟨_,h,by
  show ¬(decide (0<=i)&&decide (i<n))=true
  rcases hi with hi | hi
  ·rw [decide_eq_false (by omega:¬0<=i)];simp
  ·rw [decide_eq_false (by omega:¬i<n)];simp⟩
 unfold zy;simp only [this]
 simp
theorem GU {α:Type} {l:List α} {a b:α} {k:Nat} (h:b∈l.take k++[a]++l.drop (k+1)):b∈l\/b=a:=by
 rcases List.mem_append.mp h with h | h
 ·rcases List.mem_append.mp h with h | h
  ·exact .inl (List.mem_of_mem_take h)
  ·exact .inr (by simpa using h)
 ·exact .inl (List.mem_of_mem_drop h)
theorem GX {α:Type} {l:List α} {a:α} {k:Nat}:a∈l.take k++[a]++l.drop (k+1):=by simp
theorem GV {α:Type} {l:List α} {a:α} {k:Nat} (h:k<l.length):(l.take k++[a]++l.drop (k+1)).length=l.length:=by simp;omega
noncomputable abbrev GN (os ms ss:List D) (c:Int) (x2 x3 x7 x8:Option PV):Ev:=[some ⟨.leaf,dM os ms ss⟩,some ⟨.leaf,.int c⟩,x2,x3,some ⟨.leaf,.list os⟩,some ⟨.leaf,.list ms⟩,some ⟨.leaf,.list ss⟩,x7,x8]
theorem oX {Γ:Ev} {i j:Nat} {fa:F1} {l:List D} {k:Nat} {s:Sh} {d:D} (hi:Γ[i]?=some (some ⟨.leaf,.list l⟩)) (hj:Γ[j]?=some (some ⟨.leaf,.int (k:Int)⟩)) (ha:aB .leaf (ae fa ag) Γ=.ok ⟨.lst .leaf,.list [d]⟩ Γ) (hl:l.length<=1000) :
  bJ (bJ (bI (fun k=>(none,some k)) (af i) (af j)) (aB .leaf (ae fa ag))) (bI (fun k=>(some k,none)) (af i) (az aO (af j) (eK (.int 1)))) Γ=.ok ⟨.lst .leaf,.list (l.take k++[d]++l.drop (k+1))⟩ Γ:=by
 have q1:=dg (g:=fun k=>(none,some k)) (Γ:=Γ) (fa:=af i) (fb:=af j) (k:=(k:Int)) (aw hi) (aw hj) rfl
 have q2:=dg (g:=fun k=>(some k,none)) (Γ:=Γ) (fa:=af i) (fb:=az aO (af j) (eK (.int 1))) (k:=((k+1:Nat):Int)) (aw hi) (aE (g:=aO) (aw hj) (aL (d:=.int 1)) (d:=.int ((k+1:Nat):Int)) (by rw [KC.add_int'];rfl)) rfl
 simp only at q1 q2
 rw [ua] at q1;rw [ub] at q2;exact dE (dE q1 ha rfl rfl (by simp;omega)) q2 rfl rfl (by simp;omega)
theorem kI {n:Nat} {os ms ss:List D} (g:Gw (n:Int) n os ms ss) (h1:1<=n) (h24:n<=24) {c:Int}:∃sh os' ms' ss',b3 [dM os ms ss,.int c]=.ok ⟨sh,dM os' ms' ss'⟩/\coer .leaf ⟨sh,dM os' ms' ss'⟩=true/\Wk 24 os' ms' ss'/\isW os' ms' ss'=false:=by
 have K:=g.wk (b:=24) h24
 have d1:=wU (c:=c) (k:=1) (b:=24) (by omega) (by omega) (by omega) (by omega)
 have i1:=D3 (c:=c) (k:=1) (b:=24) (by omega) (by omega) (by omega) (by omega)
 obtain ⟨z,d2,z0,z1⟩:=jW (c:=c) (k:=2) (b:=1000000000) (by omega) (by omega) (by omega) (by omega)
 obtain ⟨j,hj,d0⟩:=rW (c:=c) (k:=0) (b:=6) (by omega) (by omega) (by omega) (by omega)
 have m1:bV (.int (cP c 1 24)) (.int ((os.length:Nat):Int))=some (.int (((cP c 1 24).toNat % n:Nat):Int)):=by
  rw [g.lo,bX (by omega),Int.natCast_emod,Int.toNat_of_nonneg i1.1]
 have ha:(cP c 1 24).toNat % n<n:=Nat.mod_lt _ (by omega)
 generalize (cP c 1 24).toNat % n=a at m1 ha
 have s2:aA false 2 (az bV (ak 3 aj (ae (af 1) (ae (eK (.int 1)) (ae (eK (.int 24)) ag)))) (bw aT (ae (af 4) ag))) (GN os ms ss c none none none none)=.nx (GN os ms ss c (some ⟨.leaf,.int (a:Int)⟩) none none none):=
  cb (aE (cn (ay (aw rfl) (ay aL (ay aL ah))) d1 rfl rfl) (bQ (g:=aT) (d:=.int ((os.length:Nat):Int)) (ay (aw rfl) ah) (by simp)) m1) rfl (by simp)
 have s3:aA false 3 (az aO (eK (.int 1)) (ak 3 aj (ae (af 1) (ae (eK (.int 2)) (ae (az mB (eK (.int 10)) (eK (.int 9))) ag))))) (GN os ms ss c (some ⟨.leaf,.int (a:Int)⟩) none none none)=.nx (GN os ms ss c (some ⟨.leaf,.int (a:Int)⟩) (some ⟨.leaf,.int (1+z)⟩) none none):=
  cb (aE aL (cn (ay (aw rfl) (ay aL (ay (aE aL aL (pO (b:=9) (by omega) (by omega))) ah))) (by exact d2) rfl rfl) KC.add_int') rfl (by simp)
 have T:∀k:Int,aN ax (az bL (ak 3 aj (ae (af 1) (ae (eK (.int 0)) (ae (eK (.int 6)) ag)))) (eK (.int k))) (GN os ms ss c (some ⟨.leaf,.int (a:Int)⟩) (some ⟨.leaf,.int (1+z)⟩) none none)=.ok ((j:Int)==k) (GN os ms ss c (some ⟨.leaf,.int (a:Int)⟩) (some ⟨.leaf,.int (1+z)⟩) none none):=fun k=>
  dY (s:=.leaf) (aE (cn (ay (aw rfl) (ay aL (ay aL ah))) d0 rfl rfl) aL KC.eq_int)
 have un:gD [4,5,6] (af 0) (aQ 9 [dM os ms ss,.int c])=.nx (GN os ms ss c none none none none):=Au (ps:=[⟨.leaf,.list os⟩,⟨.leaf,.list ms⟩,⟨.leaf,.list ss⟩]) (aw rfl) rfl rfl rfl
 have ho:=g.lo
 have hm:=g.lm
 have hs:=g.ls
 have F:∀{k:Int} {g1:FS},¬(j:Int)=k->bF (aN ax (az bL (ak 3 aj (ae (af 1) (ae (eK (.int 0)) (ae (eK (.int 6)) ag)))) (eK (.int k)))) g1 aG (GN os ms ss c (some ⟨.leaf,.int (a:Int)⟩) (some ⟨.leaf,.int (1+z)⟩) none none)=.nx (GN os ms ss c (some ⟨.leaf,.int (a:Int)⟩) (some ⟨.leaf,.int (1+z)⟩) none none):=fun {k} {g1} hk=>by
  have t:=T k
  rw [show ((j:Int)==k)=false by simpa using hk] at t
  exact aV t nofun fun _=>rfl
 have Y:∀{k:Int} {g1 g2:FS} {p:PV},(j:Int)=k->g1 (GN os ms ss c (some ⟨.leaf,.int (a:Int)⟩) (some ⟨.leaf,.int (1+z)⟩) none none)=.rt p->av (bF (aN ax (az bL (ak 3 aj (ae (af 1) (ae (eK (.int 0)) (ae (eK (.int 6)) ag)))) (eK (.int k)))) g1 aG) g2 (GN os ms ss c (some ⟨.leaf,.int (a:Int)⟩) (some ⟨.leaf,.int (1+z)⟩) none none)=.rt p:=fun {k} {g1} {g2} {p} hk hg=>by
  have t:=T k
  rw [show ((j:Int)==k)=true by simpa using hk] at t
  exact qy (aV t (fun _=>hg) nofun)
 have js:j=0\/j=1\/j=2\/j=3\/j=4\/j=5:=by omega
 rcases js with e | e | e | e | e | e
 ·refine ⟨_,[],[],[],aS (aq un (aq s2 (aq s3 (Y (by omega) (aW (bG (ay (dz (s:=.leaf) ah rfl rfl rfl) (ay (dz (s:=.leaf) ah rfl rfl rfl) (ay (dz (s:=.leaf) ah rfl rfl rfl) ah))) rfl rfl) rfl))))),rfl,⟨fun a h=>by simp at h,fun a h=>by simp at h,fun a h=>by simp at h,by simp,by simp,by simp⟩,by decide +kernel⟩
 ·obtain ⟨ts,er,t30,tn,tin,tpw⟩:=g.s ss[a] (getElem_mem (by omega))
  have tl:ts.length<=24:=by
   have:=Ab (p:=ts.map Int.toNat) (n:=n) (by
    rw [List.Nodup,List.pairwise_map];exact tpw.imp_of_mem fun {x y} hx hy hxy=>by
     have:=tin x hx
     have:=tin y hy
     omega) (fun x hx=>by
    obtain ⟨y,hy,rfl⟩:=List.mem_map.mp hx;have:=tin y hy
    omega)
   rw [length_map] at this;omega
  have ga:ss[a]?=some (.list (ts.map .int)):=by rw [getElem?_eq_getElem (by omega),er]
  have rw7:aA false 7 (bJ (ai (af 6) (af 2)) (aB .leaf (ae (az aO (az gSub (bw aT (ae (af 4) ag)) (eK (.int 1))) (af 3)) ag))) (GN os ms ss c (some ⟨.leaf,.int (a:Int)⟩) (some ⟨.leaf,.int (1+z)⟩) none none)=.nx (GN os ms ss c (some ⟨.leaf,.int (a:Int)⟩) (some ⟨.leaf,.int (1+z)⟩) (some ⟨.leaf,.list (ts.map .int++[.int ((os.length:Int)-1+(1+z))])⟩) none):=
   cb (dE (dJ (j:=a) (aw rfl) (aw rfl) (sW (by omega)) ga rfl) (dz (s:=.leaf) (ay (aE (aE (bQ (g:=aT) (d:=.int ((os.length:Nat):Int)) (ay (aw rfl) ah) (by simp)) aL KC.sub_int') (aw rfl) KC.add_int') ah) rfl rfl rfl) rfl rfl (by simp;omega)) rfl (by simp)
  refine ⟨_,os,ms,ss.take a++[.list (ts.map .int++[.int ((os.length:Int)-1+(1+z))])]++ss.drop (a+1),aS (aq un (aq s2 (aq s3 (aq (F (by omega)) (Y (by omega) (aq rw7 (aW (bG (ay (aw rfl) (ay (aw rfl) (ay (oX (k:=a) (s:=.leaf) rfl rfl (dz (s:=.leaf) (ay (aw rfl) ah) rfl rfl rfl) (by omega)) ah))) rfl rfl) rfl))))))),rfl,⟨K.o,K.m,fun r hr=>?_,by omega,by omega,by rw [GV (by omega)];omega⟩,va GX (ph (i:=(os.length:Int)-1+(1+z)) (by simp) (.inr (by omega)))⟩
  rcases GU hr with h | h
  ·exact K.s r h
  ·exact ⟨_,h,rowI_map.snoc,by simp;omega⟩
 ·refine ⟨_,os,ms,ss.take a++[.list []]++ss.drop (a+1),aS (aq un (aq s2 (aq s3 (aq (F (by omega)) (aq (F (by omega)) (Y (by omega) (aW (bG (ay (aw rfl) (ay (aw rfl) (ay (oX (k:=a) (s:=.leaf) rfl rfl (dz (s:=.leaf) (ay (dz (s:=.leaf) ah rfl rfl rfl) ah) rfl rfl rfl) (by omega)) ah))) rfl rfl) rfl))))))),rfl,⟨K.o,K.m,fun r hr=>?_,by omega,by omega,by rw [GV (by omega)];omega⟩,va GX rfl⟩
  rcases GU hr with h | h
  ·exact K.s r h
  ·exact ⟨_,h,fun a h=>by simp at h,by simp⟩
 ·have od:∃o:Int,(o=-1\/o=2)/\ai (aB .leaf (ae (eU bC (eK (.int 1))) (ae (eK (.int 2)) ag))) (az bV (af 3) (eK (.int 2))) (GN os ms ss c (some ⟨.leaf,.int (a:Int)⟩) (some ⟨.leaf,.int (1+z)⟩) none none)=.ok ⟨.leaf,.int o⟩ (GN os ms ss c (some ⟨.leaf,.int (a:Int)⟩) (some ⟨.leaf,.int (1+z)⟩) none none):=by
   have l:=dz (s:=.leaf) (Γ:=GN os ms ss c (some ⟨.leaf,.int (a:Int)⟩) (some ⟨.leaf,.int (1+z)⟩) none none) (ay (AE (g:=bC) (aL (d:=.int 1)) (d:=.int (-1)) rfl) (ay (aL (d:=.int 2)) ah)) rfl rfl rfl
   have md:=aE (g:=bV) (Γ:=GN os ms ss c (some ⟨.leaf,.int (a:Int)⟩) (some ⟨.leaf,.int (1+z)⟩) none none) (aw (i:=3) rfl) (aL (d:=.int 2)) (bX (by omega))
   rcases (by omega:(1+z) % 2=0\/(1+z) % 2=1) with q | q
   ·rw [q] at md;exact ⟨-1,.inl rfl,dJ (j:=0) l md rfl rfl rfl⟩
   ·rw [q] at md;exact ⟨2,.inr rfl,dJ (j:=1) l md rfl rfl rfl⟩
  obtain ⟨o,oo,eo⟩:=od;refine ⟨_,os.take a++[.int o]++os.drop (a+1),ms,ss,aS (aq un (aq s2 (aq s3 (aq (F (by omega)) (aq (F (by omega)) (aq (F (by omega)) (Y (by omega) (aW (bG (ay (oX (k:=a) (s:=.leaf) rfl rfl (dz (s:=.leaf) (ay eo ah) rfl rfl rfl) (by omega)) (ay (aw rfl) (ay (aw rfl) ah))) rfl rfl) rfl)))))))),rfl,⟨fun r hr=>?_,K.m,K.s,by rw [GV (by omega)];omega,by omega,by omega⟩,FC GX (by rcases oo with rfl | rfl<;>decide +kernel)⟩
  rcases GU hr with h | h
  ·exact K.o r h
  ·exact ⟨_,h⟩
 ·have od:∃o:List D,gy o/\o.length<=30/\yc (.list o)=false/\aA false 8 (ai (aB .leaf (ae (aB .leaf (ae (eK (.str "b")) (ae (eK (.str "a")) ag))) (ae (aB .leaf (ae (eK (.str "a")) (ae (eK (.str "a")) ag))) (ae (aB .leaf (ae (eK (.str "g")) ag)) (ae (aB .leaf (ae (eK (.str "ab")) ag)) (ae (aB .leaf (ae (eK (.str "")) ag)) ag)))))) (az bV (af 3) (eK (.int 5)))) (GN os ms ss c (some ⟨.leaf,.int (a:Int)⟩) (some ⟨.leaf,.int (1+z)⟩) none none)=.nx (GN os ms ss c (some ⟨.leaf,.int (a:Int)⟩) (some ⟨.leaf,.int (1+z)⟩) none (some ⟨.leaf,.list o⟩)):=by
   have l:=dz (s:=.leaf) (Γ:=GN os ms ss c (some ⟨.leaf,.int (a:Int)⟩) (some ⟨.leaf,.int (1+z)⟩) none none) (ay (dz (s:=.leaf) (ay (aL (d:=.str "b")) (ay (aL (d:=.str "a")) ah)) rfl rfl rfl) (ay (dz (s:=.leaf) (ay (aL (d:=.str "a")) (ay (aL (d:=.str "a")) ah)) rfl rfl rfl) (ay (dz (s:=.leaf) (ay (aL (d:=.str "g")) ah) rfl rfl rfl) (ay (dz (s:=.leaf) (ay (aL (d:=.str "ab")) ah) rfl rfl rfl) (ay (dz (s:=.leaf) (ay (aL (d:=.str "")) ah) rfl rfl rfl) ah))))) rfl rfl rfl
   have md:=aE (g:=bV) (Γ:=GN os ms ss c (some ⟨.leaf,.int (a:Int)⟩) (some ⟨.leaf,.int (1+z)⟩) none none) (aw (i:=3) rfl) (aL (d:=.int 5)) (bX (by omega))
   have so:∀{x:Str},PyData.strOk x=true->gy [.str x]:=fun {x} hx a h=>⟨x,by simpa using h,hx⟩
   have s2:∀{x y:Str},PyData.strOk x=true->PyData.strOk y=true->gy [.str x,.str y]:=fun {x y} hx hy a h=>by
    rcases List.mem_cons.mp h with h | h
    ·exact ⟨x,h,hx⟩
    ·exact ⟨y,by simpa using h,hy⟩
   rcases (by omega:(1+z) % 5=0\/(1+z) % 5=1\/(1+z) % 5=2\/(1+z) % 5=3\/(1+z) % 5=4) with q | q | q | q | q
   ·rw [q] at md;exact ⟨_,s2 (by decide +kernel) (by decide +kernel),by simp,by decide +kernel,cb (dJ (j:=0) l md rfl rfl rfl) rfl (by simp)⟩
   ·rw [q] at md;exact ⟨_,s2 (by decide +kernel) (by decide +kernel),by simp,by decide +kernel,cb (dJ (j:=1) l md rfl rfl rfl) rfl (by simp)⟩
   ·rw [q] at md;exact ⟨_,so (by decide +kernel),by simp,by decide +kernel,cb (dJ (j:=2) l md rfl rfl rfl) rfl (by simp)⟩
   ·rw [q] at md;exact ⟨_,so (by decide +kernel),by simp,by decide +kernel,cb (dJ (j:=3) l md rfl rfl rfl) rfl (by simp)⟩
   ·rw [q] at md;exact ⟨_,so (by decide +kernel),by simp,by decide +kernel,cb (dJ (j:=4) l md rfl rfl rfl) rfl (by simp)⟩
  obtain ⟨o,o1,o2,o3,eo⟩:=od;refine ⟨_,os,ms.take a++[.list o]++ms.drop (a+1),ss,aS (aq un (aq s2 (aq s3 (aq (F (by omega)) (aq (F (by omega)) (aq (F (by omega)) (aq (F (by omega)) (Y (by omega) (aq eo (aW (bG (ay (aw rfl) (ay (oX (k:=a) (s:=.leaf) rfl rfl (dz (s:=.leaf) (ay (aw rfl) ah) rfl rfl rfl) (by omega)) (ay (aw rfl) ah))) rfl rfl) rfl)))))))))),rfl,⟨K.o,fun r hr=>?_,K.s,by omega,by rw [GV (by omega)];omega,by omega⟩,FD GX o3⟩
  rcases GU hr with h | h
  ·exact K.m r h
  ·exact ⟨_,h,o1,o2⟩
 ·have q2:=dg (g:=fun k=>(some k,none)) (Γ:=GN os ms ss c (some ⟨.leaf,.int (a:Int)⟩) (some ⟨.leaf,.int (1+z)⟩) none none) (fa:=af 6) (fb:=eK (.int 1)) (k:=((1:Nat):Int)) (aw rfl) aL rfl
  simp only at q2
  rw [ub] at q2;refine ⟨_,os,ms,[.list [.int (-(1+z))]]++ss.drop 1,aS (aq un (aq s2 (aq s3 (aq (F (by omega)) (aq (F (by omega)) (aq (F (by omega)) (aq (F (by omega)) (aq (F (by omega)) (aW (bG (ay (aw rfl) (ay (aw rfl) (ay (dE (dz (s:=.leaf) (ay (dz (s:=.leaf) (ay (AE (g:=bC) (aw rfl) (d:=.int (-(1+z))) rfl) ah) rfl rfl rfl) ah) rfl rfl rfl) q2 rfl rfl (by simp;omega)) ah))) rfl rfl) rfl))))))))),rfl,⟨K.o,K.m,fun r hr=>?_,by omega,by omega,by simp;omega⟩,va (a:=.list [.int (-(1+z))]) (by simp) (ph (i:=-(1+z)) (by simp) (.inl (by omega)))⟩
  rcases List.mem_append.mp hr with h | h
  ·exact ⟨_,by simpa using h,fun a h=>⟨_,by simpa using h⟩,by simp⟩
  ·exact K.s r (List.mem_of_mem_drop h)
noncomputable abbrev xcl:List Str:=["NoWorld", "NoSentence", "NoRoom", "NoWay"]
noncomputable def jo:FS:=(bF (b9 (aN ax (m9 sR eR (eK (.int 0)) (af 1) (bw aT (ae (ai (af 0) (eK (.int 0))) ag))))) (wM "NoRoom") aG)
noncomputable def cL:List PySem.PyData->Res:=aD 2 jo
noncomputable def fZ:FS:=(av (aA false 1 (ak 1 gJ (ae (af 0) ag)))
  (av (bF (aN ax (az (cJ false) (af 1) (eK .none))) (wM "NoSentence") aG)
  (aI (af 1))))
noncomputable def dA:List PySem.PyData->Res:=aD 2 fZ
noncomputable def gf:FS:=(bA (fL 1 dA (ae (af 0) ag)))
noncomputable def dB:List PySem.PyData->Res:=aD 1 gf
noncomputable def rU:FS:=(av (bA (fL 1 aU (ae (af 0) ag)))
  (aI (ak 2 aZ (ae (af 0) (ae (af 1) ag)))))
noncomputable def eC:List PySem.PyData->Res:=aD 2 rU
noncomputable def kG:FS:=(bF (b9 (aN bf (ak 2 aZ (ae (af 0) (ae (af 1) ag))))) (wM "NoWay") aG)
noncomputable def b6:List PySem.PyData->Res:=aD 2 kG
noncomputable def oz:FS:=(av (bA (fL 1 aU (ae (af 0) ag)))
  (av (bF (aN ax (az eR (af 2) (eK (.int 0)))) (wM "NoRoom") aG)
  (av (bA (fL 2 b6 (ae (af 0) (ae (af 1) ag))))
  (aI (ak 2 dG (ae (af 1) (ae (af 2) ag)))))))
noncomputable def cx:List PySem.PyData->Res:=aD 3 oz
noncomputable def vE:FS:=(av (bA (fL 1 aU (ae (af 0) ag)))
  (av (bA (fL 2 b6 (ae (af 0) (ae (af 1) ag))))
  (av (aA true 2 (kX (ai (af 1) (eK (.int 0)))))
  (av (aA true 3 (ak 1 cN (ae (ai (af 1) (eK (.int 1))) ag)))
  (av (sI 1000 (dU (aN bf (af 2)) (aN ax (az bL (ai (af 2) (eU bC (eK (.int 1)))) (ai (af 3) (eU bC (eK (.int 1)))))))
  (fP true 2 3 (bI (fun k=>(none,some k)) (af 3) (eU bC (eK (.int 1))))))
  (aI (bo (ae (bT 2) (ae (bT 3) ag)))))))))
noncomputable def eO:List PySem.PyData->Res:=aD 4 vE
noncomputable def jq:FS:=(av (bA (fL 1 dB (ae (af 0) ag)))
  (bF (dU (aN ax (az (bE true) (ai (af 0) (eK (.int 0))) (eK cC))) (aN ax (az (bE true) (ai (af 0) (eK (.int 0))) (eK iG)))) (wM "NoSentence") aG))
noncomputable def aP:List PySem.PyData->Res:=aD 1 jq
noncomputable def kF:FS:=(av (bA (fL 1 aU (ae (af 0) ag)))
  (av (bA (fL 1 aP (ae (af 1) ag)))
  (av (bA (fL 2 b6 (ae (af 0) (ae (af 2) ag))))
  (av (aA false 3 (aC .leaf 4 (eI (ak 1 bh (ae (af 1) ag))) aR (ak 2 dH (ae (af 0) (ae (af 4) ag)))))
  (aI (az bL (ak 3 dr (ae (af 2) (ae (ai (af 1) (eK (.int 0))) (ae (af 3) ag)))) (az (bE false) (ai (af 1) (eK (.int 0))) (eK cC))))))))
noncomputable def bM:List PySem.PyData->Res:=aD 5 kF
noncomputable def oy:FS:=(av (bA (fL 1 aU (ae (af 0) ag)))
  (av (bA (fL 1 aP (ae (af 1) ag)))
  (av (bA (fL 2 cL (ae (af 0) (ae (af 2) ag))))
  (av (aA false 3 (ai (af 1) (eK (.int 0))))
  (av (aA false 4 (aC .leaf 7 (eI (ak 1 bh (ae (af 1) ag))) aR (ak 2 dH (ae (af 0) (ae (af 7) ag)))))
  (av (aA false 5 (ak 3 bN (ae (af 0) (ae (af 1) (ae (af 4) ag)))))
  (av (bF (aN ax (az jm (az (bE false) (af 2) (ak 4 cz (ae (af 0) (ae (af 1) (ae (af 4) (ae (af 5) ag)))))) (az (bE false) (af 3) (eK cC)))) (wM "NoWay") aG)
  (av (aA false 6 (aC .leaf 8 (eJ (ae (bw aT (ae (ai (af 0) (eK (.int 0))) ag)) ag)) aR (ai (bJ (ak 5 bx (ae (af 0) (ae (af 3) (ae (af 4) (ae (af 5) (ae (af 8) ag)))))) (ai (ai (af 0) (eK (.int 2))) (af 8))) (eK (.int 0)))))
  (aI (ak 2 eD (ae (af 6) (ae (af 2) ag))))))))))))
noncomputable def b5:List PySem.PyData->Res:=aD 9 oy
noncomputable def fj:FS:=(bF (aN ax (az bL (af 0) (eK (.int 0)))) (bA (fL 2 eC (ae (af 1) (ae (af 5) ag)))) (bF (aN ax (az bL (af 0) (eK (.int 1)))) (bA (fL 3 cx (ae (af 1) (ae (af 5) (ae (af 4) ag))))) (bF (aN ax (az bL (af 0) (eK (.int 2)))) (bA (fL 2 eO (ae (af 1) (ae (af 5) ag)))) (bF (aN ax (az bL (af 0) (eK (.int 3)))) (bA (fL 3 bM (ae (af 1) (ae (af 2) (ae (af 5) ag))))) (bA (fL 3 b5 (ae (af 1) (ae (af 2) (ae (af 3) ag)))))))))
noncomputable def cM:List PySem.PyData->Res:=aD 6 fj
noncomputable def oI:FS:=(av (aA false 6 (eK (.str "")))
  (av (lO xcl 7 (bA (fL 6 cM (ae (af 0) (ae (af 1) (ae (af 2) (ae (af 3) (ae (af 4) (ae (af 5) ag)))))))) fun c=>aA false 6 (rR (bD c)))
  (aI (af 6))))
noncomputable def dQ:List PySem.PyData->Res:=aD 8 oI
noncomputable def d_law:FS:=(av (aA false 1 (ak 3 m__law_world (ae (af 0) (ae (eK (.int 0)) (ae (eK (.int 6)) ag)))))
  (av (aA false 2 (bw aT (ae (ai (af 1) (eK (.int 0))) ag)))
  (av (aA false 3 (ak 2 aM (ae (af 0) (ae (eK (.int 8)) ag))))
  (av (aA false 4 (aC .leaf 15 (eJ (ae (eK (.int 4)) ag)) aR (az bL (ak 3 aj (ae (af 3) (ae (af 15) (ae (eK (.int 3)) ag)))) (eK (.int 1)))))
  (av (aA false 5 (ak 3 aj (ae (af 3) (ae (eK (.int 4)) (ae (az mB (eK (.int 10)) (eK (.int 9))) ag)))))
  (av (aA false 6 (ak 4 cT (ae (af 1) (ae (ak 2 aM (ae (af 0) (ae (eK (.int 7)) ag))) (ae (ak 3 aj (ae (af 3) (ae (eK (.int 5)) (ae (af 2) ag)))) (ae (ak 3 aj (ae (af 3) (ae (eK (.int 6)) (ae (eK (.int 9)) ag)))) ag))))))
  (av (aA false 7 (bo (ae (eK (.str "some always")) (ae (bo (ae (eK (.str "yes")) ag)) ag))))
  (av (aA false 8 (eK (.int 0)))
  (av (aA false 9 (af 5))
  (av (bF (aN bf (ai (af 4) (eK (.int 1)))) (av (aA true 12 (aB .leaf (ae (bo (ae (eK (.str "yes")) ag)) (ae (bo (ae (eK (.str "mark")) (ae (eK (.str "g")) ag))) (ae (bo (ae (eK (.str "some")) ag)) (ae (bo ag) (ae (bo (ae (eK (.str "some next")) ag)) (ae (bo (ae (eK (.str "some always")) (ae (bo (ae (eK (.str "mark")) (ae (eK (.str "ab")) ag))) ag))) ag))))))))
  (av (eN 12 (bo (ae (eK (.str "all next")) (ae (bo (ae (eK (.str "a")) ag)) ag))))
  (lP 12 (aA false 7 (ai (af 12) (ak 3 aj (ae (af 3) (ae (eK (.int 7)) (ae (eK (.int 7)) ag))))))))) aG)
  (av (bF (aN bf (ai (af 4) (eK (.int 2)))) (av (aA false 8 (ai (aB .leaf (ae (az gSub (eU bC (eK (.int 1))) (af 5)) (ae (az aO (af 2) (af 5)) ag))) (ak 3 aj (ae (af 3) (ae (eK (.int 8)) (ae (eK (.int 2)) ag))))))
  (aA false 9 (az gSub (eU bC (eK (.int 1))) (af 5)))) aG)
  (av (bF (aN bf (ai (af 4) (eK (.int 3)))) (av (aA false 13 (aB .leaf (ae (bo (ae (aB .leaf ag) (ae (aB .leaf ag) ag))) (ae (bo (ae (aB .leaf (ae (az aO (af 2) (af 5)) ag)) (ae (ai (af 6) (eK (.int 1))) ag))) (ae (bo (ae (ai (af 6) (eK (.int 0))) (ae (bJ (ai (af 6) (eK (.int 1))) (aB .leaf (ae (az gSub (eU bC (eK (.int 1))) (af 5)) ag))) ag))) (ae (bo (ae (bJ (ai (af 6) (eK (.int 0))) (ai (af 6) (eK (.int 1)))) (ae (aB .leaf ag) ag))) ag))))))
  (aA false 6 (ai (af 13) (ak 3 aj (ae (af 3) (ae (eK (.int 9)) (ae (eK (.int 4)) ag))))))) aG)
  (av (bF (aN bf (ai (af 4) (eK (.int 0)))) (aA false 1 (ak 2 b3 (ae (af 1) (ae (ak 2 aM (ae (af 0) (ae (eK (.int 9)) ag))) ag)))) aG)
  (av (aA false 10 (aB .leaf (ae (aB .leaf (ae (eK (.int 0)) ag)) (ae (aB .leaf (ae (eK (.int 0)) (ae (eK (.int 2)) (ae (eK (.int 3)) ag)))) (ae (aB .leaf (ae (eK (.int 0)) (ae (eK (.int 3)) ag))) (ae (aB .leaf (ae (eK (.int 0)) (ae (eK (.int 1)) (ae (eK (.int 3)) ag)))) (ae (aB .leaf (ae (eK (.int 0)) (ae (eK (.int 1)) (ae (eK (.int 2)) ag)))) ag)))))))
  (av (d8 11 (eJ (ae (eK (.int 5)) ag))
  (av (aA false 14 (bJ (aC .leaf 15 (bt (ai (af 10) (af 11))) (aN bf (ai (af 4) (af 15))) (ai (aB .leaf (ae (eK (.str "world")) (ae (eK (.str "sentence")) (ae (eK (.str "room")) (ae (eK (.str "way")) ag))))) (af 15))) (aB .leaf (ae (eK (.str "")) ag))))
  (bF (aN ax (az jm (ak 6 dQ (ae (af 11) (ae (af 1) (ae (af 7) (ae (af 8) (ae (af 9) (ae (af 6) ag))))))) (ai (af 14) (eK (.int 0))))) (aI (eK (.bool false))) aG)))
  (aI (eK (.bool true))))))))))))))))))
noncomputable def m_law:List PySem.PyData->Res:=aD 16 d_law
open PySem.SeqAt
noncomputable def Fh (F R:List Nat) (k:Nat):Nat:=if k<F.length then F.getD k 0 else R.getD ((k-F.length) % R.length) 0
theorem r9 {F R:List Nat} (h:R≠[]) {p:Nat}:dG [wy F R,.int (p:Int)]=.ok ⟨.leaf,rm (Fh F R p)⟩:=by
 have hq:0<R.length:=by
  cases R with
  | nil=>exact absurd rfl h
  | cons a b=>simp
 have i0:ai (af 0) (eK (.int 0)) (aQ 3 [wy F R,.int (p:Int)])=.ok ⟨.leaf,aF F⟩ (aQ 3 [wy F R,.int (p:Int)]):=by simp [aQ]
 have j0:ai (af 0) (eK (.int 0)) [some ⟨.leaf,wy F R⟩,some ⟨.leaf,.int (p:Int)⟩,some ⟨.leaf,.int (F.length:Int)⟩]=.ok ⟨.leaf,aF F⟩ [some ⟨.leaf,wy F R⟩,some ⟨.leaf,.int (p:Int)⟩,some ⟨.leaf,.int (F.length:Int)⟩]:=by simp
 have j1:ai (af 0) (eK (.int 1)) [some ⟨.leaf,wy F R⟩,some ⟨.leaf,.int (p:Int)⟩,some ⟨.leaf,.int (F.length:Int)⟩]=.ok ⟨.leaf,aF R⟩ [some ⟨.leaf,wy F R⟩,some ⟨.leaf,.int (p:Int)⟩,some ⟨.leaf,.int (F.length:Int)⟩]:=by simp
 refine aS ?_
 refine aq (Γ1:=[some ⟨.leaf,wy F R⟩,some ⟨.leaf,.int (p:Int)⟩,some ⟨.leaf,.int (F.length:Int)⟩]) (cb (bQ (d:=.int (F.length:Int)) (ay i0 ah) (by simp)) rfl (by simp [aQ])) ?_
 have c:aN ax (az eR (af 1) (af 2)) [some ⟨.leaf,wy F R⟩,some ⟨.leaf,.int (p:Int)⟩,some ⟨.leaf,.int (F.length:Int)⟩]=.ok (decide ((p:Int)<(F.length:Int))) [some ⟨.leaf,wy F R⟩,some ⟨.leaf,.int (p:Int)⟩,some ⟨.leaf,.int (F.length:Int)⟩]:=dY (s:=.leaf) (aE (aw rfl) (aw rfl) KC.lt_int)
 refine aW (p:=⟨.leaf,rm (Fh F R p)⟩) (Γ1:=[some ⟨.leaf,wy F R⟩,some ⟨.leaf,.int (p:Int)⟩,some ⟨.leaf,.int (F.length:Int)⟩]) ?_ rfl
 unfold wG;rw [c];by_cases hl:p<F.length
 ·rw [decide_eq_true (by omega)]
  simp only [Out.bind,if_true]
  rw [eY (k:=p) (s:=.leaf) j0 (aw rfl) hl];unfold Fh;rw [if_pos hl]
 ·rw [decide_eq_false (by omega)]
  simp only [Out.bind,Bool.false_eq_true,if_false]
  have m:bV (.int ((p:Int)-(F.length:Int))) (.int (R.length:Int))=some (.int (((p-F.length) % R.length:Nat):Int)):=by
   rw [bX (by omega)]
   rw [Int.natCast_emod,show ((p-F.length:Nat):Int)=(p:Int)-(F.length:Int) by omega]
  rw [eY (k:=(p-F.length) % R.length) (s:=.leaf) j1 (aE (aE (aw rfl) (aw rfl) KC.sub_int') (bQ (d:=.int (R.length:Int)) (ay j1 ah) (by simp)) m) (Nat.mod_lt _ hq)]
  unfold Fh;rw [if_neg hl]
noncomputable abbrev sAY:Sn:=.un .sa .yes
theorem Ca {w:Wd} (ok:w.Ok) {r:Nat} (h:Unt w false (fun _=>True) (fun t=>¬d7 w .yes t) r):r<w.n->False:=by
 induction h with
 | now q=>exact fun _=>q trivial
 | some e _ _ _ _=>cases e
 | @all r0 _ _ _ ih=>
  intro hr
  cases e:w.stp r0 with
  | nil=>exact ok.stp_ne hr e
  | cons t l=>
   have ht:t∈w.stp r0:=by rw [e];simp
   exact ih t ht (ok.stp_lt ht)
theorem A6 {w:Wd} (ok:w.Ok) {r:Nat} (hr:r<w.n):d7 w sAY r:=fun h=>Ca ok h hr
theorem GQ:aP [sAY.enc]=.ok ⟨.leaf,.none⟩:=by kernel_rfl
theorem Cr:aP [.tuple [.str "yes"]]=.er "NoSentence":=by kernel_rfl
theorem Cq:aP [.tuple [.str "mark",.str "g"]]=.er "NoSentence":=by kernel_rfl
theorem Co:aP [.tuple [.str "some"]]=.er "NoSentence":=by kernel_rfl
theorem Cn:aP [.tuple []]=.er "NoSentence":=by kernel_rfl
theorem Cm:aP [.tuple [.str "some next"]]=.er "NoSentence":=by kernel_rfl
theorem Cj:aP [.tuple [.str "some always",.tuple [.str "mark",.str "ab"]]]=.er "NoSentence":=by kernel_rfl
theorem Ci:aP [.tuple [.str "all next",.tuple [.str "a"]]]=.er "NoSentence":=by kernel_rfl
section
variable {w:Wd} {y:D} {b:Bool}
theorem tu (hg:aZ [w.enc,y]=.ok ⟨.leaf,.bool b⟩):b9 (aN bf (ak 2 aZ (ae (af 0) (ae (af 1) ag)))) (aQ 2 [w.enc,y])=.ok (!b) (aQ 2 [w.enc,y]):=
 fx (cK (s:=.leaf) (cn (ay (aw rfl) (ay (aw rfl) ah)) hg rfl rfl))
theorem Ih (hg:aZ [w.enc,y]=.ok ⟨.leaf,.bool true⟩):b6 [w.enc,y]=.ok ⟨.leaf,.none⟩:=jM (Γ:=aQ 2 [w.enc,y]) (aV (tu hg) nofun fun _=>rfl)
theorem Ig (hg:aZ [w.enc,y]=.ok ⟨.leaf,.bool false⟩):b6 [w.enc,y]=.er "NoWay":=dZ (Γ':=aQ 2 [w.enc,y]) (aV (tu hg) (fun _=>rfl) nofun)
theorem oU (ok:w.Ok) (hg:aZ [w.enc,y]=.ok ⟨.leaf,.bool b⟩):eC [w.enc,y]=.ok ⟨.leaf,.bool b⟩:=
 aS (aq (gz (iW (ay (aw rfl) ah) (sG ok) rfl rfl)) (aW (cn (ay (aw rfl) (ay (aw rfl) ah)) hg rfl rfl) rfl))
theorem As (ok:w.Ok) {F R:List Nat} (h:eL w F R) {p:Nat}:cx [w.enc,wy F R,.int (p:Int)]=.ok ⟨.leaf,rm (Fh F R p)⟩:=by
 have t:=dY (s:=.leaf) (aE (g:=eR) (Γ:=aQ 3 [w.enc,wy F R,.int (p:Int)]) (aw (i:=2) rfl) (aL (d:=.int 0)) KC.lt_int)
 rw [decide_eq_false (show ¬(p:Int)<0 by omega)] at t
 exact aS (aq (gz (iW (ay (aw rfl) ah) (sG ok) rfl rfl)) (aq (aV t nofun fun _=>rfl) (aq (gz (iW (ay (aw rfl) (ay (aw rfl) ah)) (Ih (Ei ok h)) rfl rfl)) (aW (cn (ay (aw rfl) (ay (aw rfl) ah)) (r9 h.ne) rfl rfl) rfl))))
theorem tf (ok:w.Ok) {p:Int} (hp:p<0):cx [w.enc,y,.int p]=.er "NoRoom":=by
 have t:=dY (s:=.leaf) (aE (g:=eR) (Γ:=aQ 3 [w.enc,y,.int p]) (aw (i:=2) rfl) (aL (d:=.int 0)) KC.lt_int)
 rw [decide_eq_true hp] at t;exact dZ (aq (gz (iW (ay (aw rfl) ah) (sG ok) rfl rfl)) (zc (aV t (fun _=>rfl) nofun)))
theorem xb (ok:w.Ok) (hg:aZ [w.enc,y]=.ok ⟨.leaf,.bool false⟩) {p:Nat}:cx [w.enc,y,.int (p:Int)]=.er "NoWay":=by
 have t:=dY (s:=.leaf) (aE (g:=eR) (Γ:=aQ 3 [w.enc,y,.int (p:Int)]) (aw (i:=2) rfl) (aL (d:=.int 0)) KC.lt_int)
 rw [decide_eq_false (show ¬(p:Int)<0 by omega)] at t
 exact dZ (aq (gz (iW (ay (aw rfl) ah) (sG ok) rfl rfl)) (aq (aV t nofun fun _=>rfl) (zc (wR (wZ (ay (aw rfl) (ay (aw rfl) ah)) (Ig hg) rfl)))))
theorem AW (ok:w.Ok) (hg:aZ [w.enc,y]=.ok ⟨.leaf,.bool false⟩):eO [w.enc,y]=.er "NoWay":=
 dZ (aq (gz (iW (ay (aw rfl) ah) (sG ok) rfl rfl)) (zc (wR (wZ (ay (aw rfl) (ay (aw rfl) ah)) (Ig hg) rfl))))
theorem yA {n:Nat} {a b a' b' r:FS} {ds:List D} (ha:a (aQ n ds)=.nx (aQ n ds)) (hb:b (aQ n ds)=.nx (aQ n ds)) (ha':a' (aQ n ds)=.nx (aQ n ds)) (hb':b' (aQ n ds)=.nx (aQ n ds)):aD n (av a (av b r)) ds=aD n (av a' (av b' r)) ds:=by
 unfold aD av;simp only [ha,hb,ha',hb']
theorem ET (ok:w.Ok) {F0 R0:List Nat} (h:eL w F0 R0) (hl:F0.length+R0.length<=800):∃p,eO [w.enc,wy F0 R0]=.ok p:=by
 obtain ⟨F,R,e,_⟩:=rZ ok h hl;exact ⟨_,(yA (gz (iW (ay (aw rfl) ah) (sG ok) rfl rfl)) (gz (iW (ay (aw rfl) (ay (aw rfl) ah)) (Ih (Ei ok h)) rfl rfl)) (gz (cn (ay (aw rfl) ah) ok.check rfl rfl)) (gz (cn (ay (aw rfl) (ay (aw rfl) ah)) (fo ok h) rfl rfl))).trans e⟩
theorem w6 (ok:w.Ok) {S:D} (hk:aP [S]=.er "NoSentence"):bM [w.enc,S,y]=.er "NoSentence":=
 dZ (aq (gz (iW (ay (aw rfl) ah) (sG ok) rfl rfl)) (zc (wR (wZ (ay (aw rfl) ah) hk rfl))))
theorem Ar (ok:w.Ok) (hg:aZ [w.enc,y]=.ok ⟨.leaf,.bool false⟩):bM [w.enc,sAY.enc,y]=.er "NoWay":=
 dZ (aq (gz (iW (ay (aw rfl) ah) (sG ok) rfl rfl)) (aq (gz (iW (ay (aw rfl) ah) GQ rfl rfl)) (zc (wR (wZ (ay (aw rfl) (ay (aw rfl) ah)) (Ig hg) rfl)))))
theorem Ex (ok:w.Ok) {F R:List Nat} (h:eL w F R):∃p,bM [w.enc,sAY.enc,wy F R]=.ok p:=by
 refine ⟨⟨.leaf,.bool (Gh w sAY F R==sAY.w.ofS)⟩,aS ?_⟩
 refine aq (gz (iW (ay (aw rfl) ah) (sG ok) rfl rfl)) ?_
 refine aq (gz (iW (ay (aw rfl) ah) GQ rfl rfl)) ?_
 refine aq (gz (iW (ay (aw rfl) (ay (aw rfl) ah)) (Ih (Ei ok h)) rfl rfl)) ?_
 refine aq (Γ1:=[some ⟨.leaf,w.enc⟩,some ⟨.leaf,sAY.enc⟩,some ⟨.leaf,wy F R⟩,some ⟨.leaf,bU (sAY.args.map (bc w))⟩,none]) (cb (iz ok (s:=sAY) trivial (by decide) rfl rfl (by simp [aQ]) (by omega)) rfl (by simp [aQ])) ?_
 refine aW (aE (cn (ay (aw rfl) (ay (AD (s:=sAY) rfl) (ay (aw rfl) ah))) (si rfl h.ne h.len) rfl rfl) (aE (AD (s:=sAY) rfl) aL (vi _)) ?_) rfl
 cases Gh w sAY F R<;>cases sAY.w.ofS<;>kernel_rfl
theorem pj (ok:w.Ok) {r:Int}:b9 (aN ax (m9 sR eR (eK (.int 0)) (af 1) (bw aT (ae (ai (af 0) (eK (.int 0))) ag)))) (aQ 2 [w.enc,.int r])=.ok (!(fX w.n r)) (aQ 2 [w.enc,.int r]):=
 fx (dY (s:=.leaf) (chain_ev ok rfl rfl))
theorem vO (ok:w.Ok) {r:Nat} (hr:r<w.n):cL [w.enc,rm r]=.ok ⟨.leaf,.none⟩:=by
 have t:=pj ok (r:=(r:Int))
 rw [show fX w.n (r:Int)=true by unfold fX;simp;omega] at t
 exact jM (Γ:=aQ 2 [w.enc,rm r]) (aV t nofun fun _=>rfl)
theorem vP (ok:w.Ok) {r:Int} (hr:fX w.n r=false):cL [w.enc,.int r]=.er "NoRoom":=by
 have t:=pj ok (r:=r)
 rw [hr] at t;exact dZ (Γ':=aQ 2 [w.enc,.int r]) (aV t (fun _=>rfl) nofun)
theorem xa (ok:w.Ok) {S:D} (hk:aP [S]=.er "NoSentence"):b5 [w.enc,S,y]=.er "NoSentence":=
 dZ (aq (gz (iW (ay (aw rfl) ah) (sG ok) rfl rfl)) (zc (wR (wZ (ay (aw rfl) ah) hk rfl))))
theorem w9 (ok:w.Ok) {r:Int} (hr:fX w.n r=false):b5 [w.enc,sAY.enc,.int r]=.er "NoRoom":=
 dZ (aq (gz (iW (ay (aw rfl) ah) (sG ok) rfl rfl)) (aq (gz (iW (ay (aw rfl) ah) GQ rfl rfl)) (zc (wR (wZ (ay (aw rfl) (ay (aw rfl) ah)) (vP ok hr) rfl)))))
theorem vG (ok:w.Ok) {s:Sn} (hs:s.ok) (hd:s.dep<=24) (hc:aP [s.enc]=.ok ⟨.leaf,.none⟩) (ht:s.tm=true) {r:Nat} (hr:r<w.n) (hh:(bc w s).contains r=s.w.ofS):∃F R,b5 [w.enc,s.enc,rm r]=.ok ⟨.tup [.lst .leaf,.lst .leaf],wy F R⟩/\eL w F R/\(F++R).head?=some r/\Gh w s F R=s.w.ofS/\(F++R).Nodup:=by
 have h24:=ok.h24
 obtain ⟨p,ep,cp,hk⟩:=jG ok (s:=s)
 obtain ⟨sp,D⟩:=p;simp only at hk
 obtain ⟨rk,hl,hR,sh⟩:=shown ok ht hk hr hh;obtain ⟨F,R,ea,L⟩:=oC (n:=w.n) h24 (ch:=sO w s rk) (by simp [sO]) (fun x hx=>⟨_,GJ hx,ok.stp_lt (ue ok hx _ (GJ hx))⟩) hr
 refine ⟨F,R,?_,L.way rfl h24 fun x hx t e=>ue ok hx t e,L.hd,sh F R L,L.nd⟩
 have rb:=gg ok hs hk
 have cm:aC .leaf 8 (eJ (ae (bw aT (ae (ai (af 0) (eK (.int 0))) ag)) ag)) aR (ai (bJ (ak 5 bx (ae (af 0) (ae (af 3) (ae (af 4) (ae (af 5) (ae (af 8) ag)))))) (ai (ai (af 0) (eK (.int 2))) (af 8))) (eK (.int 0))) [some ⟨.leaf,w.enc⟩,some ⟨.leaf,s.enc⟩,some ⟨.leaf,rm r⟩,some ⟨.leaf,.str s.w.t⟩,some ⟨.leaf,bU (s.args.map (bc w))⟩,some ⟨.leaf,D⟩,none,none,none]=.ok ⟨.lst .leaf,dm (sO w s rk)⟩ [some ⟨.leaf,w.enc⟩,some ⟨.leaf,s.enc⟩,some ⟨.leaf,rm r⟩,some ⟨.leaf,.str s.w.t⟩,some ⟨.leaf,bU (s.args.map (bc w))⟩,some ⟨.leaf,D⟩,none,none,none]:=by
  rw [xq];refine oT rm (List.range w.n) (fun x=>⟨.leaf,rm ((jF w s rk x++w.stp x).getD 0 0)⟩) (st:=true) (m5 (s:=.leaf) (n:=w.n) (by omega) (ay (G5 ok rfl) ah)) (by simp) rfl (by simp;omega) fun x hx=>⟨?_,rfl⟩
  have hx:=List.mem_range.mp hx
  have b1:=cn (n:=5) (Γ:=[some ⟨.leaf,w.enc⟩,some ⟨.leaf,s.enc⟩,some ⟨.leaf,rm r⟩,some ⟨.leaf,.str s.w.t⟩,some ⟨.leaf,bU (s.args.map (bc w))⟩,some ⟨.leaf,D⟩,none,none,some ⟨.leaf,rm x⟩]) (fl:=ae (af 0) (ae (af 3) (ae (af 4) (ae (af 5) (ae (af 8) ag))))) (ay (aw rfl) (ay (aw rfl) (ay (aw rfl) (ay (aw rfl) (ay (aw rfl) ah))))) (mF ok ht hl hR hx) rfl rfl
  have b2:=Ec ok (Γ:=[some ⟨.leaf,w.enc⟩,some ⟨.leaf,s.enc⟩,some ⟨.leaf,rm r⟩,some ⟨.leaf,.str s.w.t⟩,some ⟨.leaf,bU (s.args.map (bc w))⟩,some ⟨.leaf,D⟩,none,none,some ⟨.leaf,rm x⟩]) (i:=0) (fb:=af 8) rfl (aw rfl) hx
  have l1:(jF w s rk x).length<=(w.stp x).length:=by
   unfold jF;split<;>exact length_filter_le _ _
  have l2:(w.stp x).length<=30:=by
   unfold Wd.stp;rw [getD_eq_getElem?_getD,getElem?_eq_getElem (by rw [ok.ls];exact hx)]
   exact (ok.st _ (getElem_mem _)).2.1
  have c:=dE b1 b2 rfl rfl (by simp;omega)
  rw [<-map_append] at c;have hne:jF w s rk x++w.stp x≠[]:=fun z=>ok.stp_ne hx (List.append_eq_nil_iff.mp z).2
  refine dJ (j:=0) c aL (sW (k:=0) (by rw [length_map];exact List.length_pos_iff.mpr hne)) ?_ rfl
  rw [getElem?_map,getD_eq_getElem?_getD,getElem?_eq_getElem (List.length_pos_iff.mpr hne)];rfl
 have tst:aN ax (az jm (az (bE false) (af 2) (ak 4 cz (ae (af 0) (ae (af 1) (ae (af 4) (ae (af 5) ag)))))) (az (bE false) (af 3) (eK cC))) [some ⟨.leaf,w.enc⟩,some ⟨.leaf,s.enc⟩,some ⟨.leaf,rm r⟩,some ⟨.leaf,.str s.w.t⟩,some ⟨.leaf,bU (s.args.map (bc w))⟩,some ⟨.leaf,D⟩,none,none,none]=.ok false [some ⟨.leaf,w.enc⟩,some ⟨.leaf,s.enc⟩,some ⟨.leaf,rm r⟩,some ⟨.leaf,.str s.w.t⟩,some ⟨.leaf,bU (s.args.map (bc w))⟩,some ⟨.leaf,D⟩,none,none,none]:=by
  have:=dY (s:=.leaf) (aE (g:=jm) (aE (g:=bE false) (fa:=af 2) (Γ:=[some ⟨.leaf,w.enc⟩,some ⟨.leaf,s.enc⟩,some ⟨.leaf,rm r⟩,some ⟨.leaf,.str s.w.t⟩,some ⟨.leaf,bU (s.args.map (bc w))⟩,some ⟨.leaf,D⟩,none,none,none]) (aw (d:=rm r) rfl) (cn (n:=4) (fl:=ae (af 0) (ae (af 1) (ae (af 4) (ae (af 5) ag)))) (ay (aw rfl) (ay (aw rfl) (ay (aw rfl) (ay (aw rfl) ah)))) rb rfl rfl) wI) (aE (fa:=af 3) (aw rfl) aL (vi s.w)) ne_bool)
  rw [hh,bne_self_eq_false] at this;exact this
 refine aS ?_
 refine aq (gz (iW (ay (aw rfl) ah) (sG ok) rfl rfl)) ?_
 refine aq (gz (iW (ay (aw rfl) ah) hc rfl rfl)) ?_
 refine aq (gz (iW (ay (aw rfl) (ay (aw rfl) ah)) (vO ok hr) rfl rfl)) ?_
 refine aq (cb (AD (s:=s) rfl) rfl (by simp [aQ])) ?_
 refine aq (cb (iz ok hs hd rfl rfl (by simp [aQ]) (by omega)) rfl (by simp [aQ])) ?_
 refine aq (cb (cn (ay (aw rfl) (ay (aw rfl) (ay (aw rfl) ah))) ep rfl rfl) cp (by simp [aQ])) ?_
 refine aq (aV tst nofun fun _=>rfl) ?_
 refine aq (cb cm rfl (by simp)) ?_
 exact aW (cn (ay (aw rfl) (ay (aw rfl) ah)) ea rfl rfl) rfl
theorem Ey (ok:w.Ok):∃p,b5 [w.enc,sAY.enc,rm 0]=.ok p:=by
 have h0:0<w.n:=ok.h1
 obtain ⟨F,R,e,_⟩:=vG ok (s:=sAY) trivial (by decide) GQ rfl h0 (by
  show (bc w sAY).contains 0=true
  exact List.contains_iff_mem.mpr (mem_rof.mpr ⟨h0,A6 ok h0⟩))
 exact ⟨_,e⟩
end
noncomputable def Tl (r:Res) (t:Str):Prop:=(t = ""/\∃p,r=.ok p)\/∃c,r=.er c/\xcl.contains c=true/\bD c=.ok ⟨.leaf,.str t⟩
theorem Tl.o {r:Res} {p:PV} (h:r=.ok p):Tl r "":=.inl ⟨rfl,p,h⟩
theorem Tl.w {r:Res} (h:r=.er "NoWorld"):Tl r "world":=.inr ⟨_,h,by decide +kernel,tj⟩
theorem Tl.s {r:Res} (h:r=.er "NoSentence"):Tl r "sentence":=.inr ⟨_,h,by decide +kernel,lh⟩
theorem Tl.r {r:Res} (h:r=.er "NoRoom"):Tl r "room":=.inr ⟨_,h,by decide +kernel,xf⟩
theorem Tl.y {r:Res} (h:r=.er "NoWay"):Tl r "way":=.inr ⟨_,h,by decide +kernel,AA⟩
noncomputable def fk (W S r p y:D):Nat->Res
 | 0=>eC [W,y]
 | 1=>cx [W,y,p]
 | 2=>eO [W,y]
 | 3=>bM [W,S,y]
 | _=>b5 [W,S,r]
noncomputable def wF:Nat->List Nat
 | 0=>[0]
 | 1=>[0,2,3]
 | 2=>[0,3]
 | 3=>[0,1,3]
 | _=>[0,1,2]
noncomputable def nm:Nat->Str
 | 0 => "world"
 | 1 => "sentence"
 | 2 => "room"
 | _ => "way"
noncomputable def DJ (m0 m1 m2 m3:Bool):Nat->Bool
 | 0=>m0
 | 1=>m1
 | 2=>m2
 | _=>m3
noncomputable def La:List Nat->Str
 | [] => ""
 | i::_=>nm i
noncomputable def DM (m0 m1 m2 m3:Bool) (k:Nat):Str:=La ((wF k).filter (DJ m0 m1 m2 m3))
theorem AY:∀(m0 m1 m2 m3:Bool) (k:Nat),k<5->shaped (.str (DM m0 m1 m2 m3 k))=true:=by
 intro m0 m1 m2 m3 k hk;have ks:k=0\/k=1\/k=2\/k=3\/k=4:=by omega
 rcases ks with rfl | rfl | rfl | rfl | rfl<;>cases m0<;>cases m1<;>cases m2<;>cases m3<;>decide +kernel
section
variable {w:Wd} {W S y:D} {r p:Int} {m0 m1 m2 m3:Bool} {F R:List Nat}
theorem Kg {n:Nat} {g:FS} {ds:List D} (h:aU [W]=.er "NoWorld") (e:(aQ n (W::ds))[0]?=some (some ⟨.leaf,W⟩)):aD n (av (bA (fL 1 aU (ae (af 0) ag))) g) (W::ds)=.er "NoWorld":=
 dZ (zc (wR (wZ (ay (aw e) ah) h rfl)))
theorem ED (ok:w.Ok) (hW1:m0=true->aU [W]=.er "NoWorld") (hW0:m0=false->W=w.enc) (hS1:m1=true->aP [S]=.er "NoSentence") (hS0:m1=false->S=sAY.enc) (hR1:m2=true->p<0/\fX w.n r=false) (hR0:m2=false->0<=p/\r=0) (hY1:m3=true->aZ [w.enc,y]=.ok ⟨.leaf,.bool false⟩) (hY0:m3=false->y=wy F R) (iw:eL w F R) (hl:F.length+R.length<=800) {k:Nat} (hk:k<5):Tl (fk W S (.int r) (.int p) y k) (DM m0 m1 m2 m3 k):=by
 have ks:k=0\/k=1\/k=2\/k=3\/k=4:=by omega
 cases m0 with
 | true=>
  have h:=hW1 rfl
  rcases ks with rfl | rfl | rfl | rfl | rfl<;>exact Tl.w (Kg h rfl)
 | false=>
  have:=hW0 rfl
  subst this;have pn:m2=false->∃q:Nat,p=(q:Int):=fun h=>⟨p.toNat,by have:=(hR0 h).1;omega⟩
  rcases ks with rfl | rfl | rfl | rfl | rfl
  ·cases m3 with
   | true=>exact Tl.o (oU ok (hY1 rfl))
   | false=>have:=hY0 rfl;subst this;exact Tl.o (oU ok (Ei ok iw))
  ·cases m2 with
   | true=>exact Tl.r (tf ok (hR1 rfl).1)
   | false=>
    obtain ⟨q,rfl⟩:=pn rfl
    cases m3 with
    | true=>exact Tl.y (xb ok (hY1 rfl))
    | false=>have:=hY0 rfl;subst this;exact Tl.o (As ok iw)
  ·cases m3 with
   | true=>exact Tl.y (AW ok (hY1 rfl))
   | false=>have:=hY0 rfl;subst this;obtain ⟨_,e⟩:=ET ok iw hl;exact Tl.o e
  ·cases m1 with
   | true=>exact Tl.s (w6 ok (hS1 rfl))
   | false=>
    have:=hS0 rfl
    subst this
    cases m3 with
    | true=>exact Tl.y (Ar ok (hY1 rfl))
    | false=>have:=hY0 rfl;subst this;obtain ⟨_,e⟩:=Ex ok iw;exact Tl.o e
  ·cases m1 with
   | true=>exact Tl.s (xa ok (hS1 rfl))
   | false=>
    have:=hS0 rfl
    subst this
    cases m2 with
    | true=>exact Tl.r (w9 ok (hR1 rfl).2)
    | false=>
     have:=(hR0 rfl).2
     subst this;obtain ⟨_,e⟩:=Ey ok;exact Tl.o e
end
section
variable {W S r p y:D} {t:Str}
theorem dk {k:Nat} {j:Int} {b:Bool} (hb:((k:Int)==j)=b):aN ax (az bL (af 0) (eK (.int j))) (aQ 6 [.int (k:Int),W,S,r,p,y])=.ok b (aQ 6 [.int (k:Int),W,S,r,p,y]):=by
 rw [<-hb];exact dY (s:=.leaf) (aE (aw rfl) aL KC.eq_int)
theorem vZ {k:Nat} (hk:k<5):∃(n:Nat) (ps:List PV) (fl:FL) (den:List D->Res),fl (aQ 6 [.int (k:Int),W,S,r,p,y])=.ok ps (aQ 6 [.int (k:Int),W,S,r,p,y])/\ps.length=n/\ps.all (coer .leaf)=true/\den (ps.map (·.d))=fk W S r p y k/\fj (aQ 6 [.int (k:Int),W,S,r,p,y])=bA (fL n den fl) (aQ 6 [.int (k:Int),W,S,r,p,y]):=by
 have ks:k=0\/k=1\/k=2\/k=3\/k=4:=by omega
 rcases ks with rfl | rfl | rfl | rfl | rfl
 ·exact ⟨2,_,ae (af 1) (ae (af 5) ag),eC,ay (aw rfl) (ay (aw rfl) ah),rfl,rfl,rfl,aV (t:=true) (dk (by decide)) (fun _=>rfl) nofun⟩
 ·exact ⟨3,_,ae (af 1) (ae (af 5) (ae (af 4) ag)),cx,ay (aw rfl) (ay (aw rfl) (ay (aw rfl) ah)),rfl,rfl,rfl,aV (t:=false) (dk (by decide)) nofun fun _=>aV (t:=true) (dk (by decide)) (fun _=>rfl) nofun⟩
 ·exact ⟨2,_,ae (af 1) (ae (af 5) ag),eO,ay (aw rfl) (ay (aw rfl) ah),rfl,rfl,rfl,aV (t:=false) (dk (by decide)) nofun fun _=>aV (t:=false) (dk (by decide)) nofun fun _=>aV (t:=true) (dk (by decide)) (fun _=>rfl) nofun⟩
 ·exact ⟨3,_,ae (af 1) (ae (af 2) (ae (af 5) ag)),bM,ay (aw rfl) (ay (aw rfl) (ay (aw rfl) ah)),rfl,rfl,rfl,aV (t:=false) (dk (by decide)) nofun fun _=>aV (t:=false) (dk (by decide)) nofun fun _=>aV (t:=false) (dk (by decide)) nofun fun _=>aV (t:=true) (dk (by decide)) (fun _=>rfl) nofun⟩
 ·exact ⟨3,_,ae (af 1) (ae (af 2) (ae (af 3) ag)),b5,ay (aw rfl) (ay (aw rfl) (ay (aw rfl) ah)),rfl,rfl,rfl,aV (t:=false) (dk (by decide)) nofun fun _=>aV (t:=false) (dk (by decide)) nofun fun _=>aV (t:=false) (dk (by decide)) nofun fun _=>aV (t:=false) (dk (by decide)) nofun fun _=>rfl⟩
theorem yB {k:Nat} (hk:k<5) (h:Tl (fk W S r p y k) t):dQ [.int (k:Int),W,S,r,p,y]=.ok ⟨.leaf,.str t⟩:=by
 obtain ⟨n,ps,fl,den,e1,e2,e3,e4,e5⟩:=vZ (W:=W) (S:=S) (r:=r) (p:=p) (y:=y) hk
 have al:∀{x6 x7},ae (af 0) (ae (af 1) (ae (af 2) (ae (af 3) (ae (af 4) (ae (af 5) ag))))) [some ⟨.leaf,.int (k:Int)⟩,some ⟨.leaf,W⟩,some ⟨.leaf,S⟩,some ⟨.leaf,r⟩,some ⟨.leaf,p⟩,some ⟨.leaf,y⟩,x6,x7]=.ok [⟨.leaf,.int (k:Int)⟩,⟨.leaf,W⟩,⟨.leaf,S⟩,⟨.leaf,r⟩,⟨.leaf,p⟩,⟨.leaf,y⟩] [some ⟨.leaf,.int (k:Int)⟩,some ⟨.leaf,W⟩,some ⟨.leaf,S⟩,some ⟨.leaf,r⟩,some ⟨.leaf,p⟩,some ⟨.leaf,y⟩,x6,x7]:=fun {x6 x7}=>ay (aw rfl) (ay (aw rfl) (ay (aw rfl) (ay (aw rfl) (ay (aw rfl) (ay (aw rfl) ah)))))
 rcases h with ⟨rfl,q,e⟩ | ⟨c,e,hc,hw⟩
 ·have a:cM [.int (k:Int),W,S,r,p,y]=.ok ⟨.leaf,.none⟩:=jM (Γ:=aQ 6 [.int (k:Int),W,S,r,p,y]) (e5.trans (gz (iW e1 (e4.trans e) e2 e3)))
  exact aS (aq (cb aL rfl (by simp [aQ])) (aq (Av (gz (iW al a rfl rfl))) (aW (aw rfl) rfl)))
 ·have a:cM [.int (k:Int),W,S,r,p,y]=.er c:=dZ (e5.trans (wR (wZ e1 (e4.trans e) e2)))
  exact aS (aq (cb aL rfl (by simp [aQ])) (aq (Aw (wR (wZ al a rfl)) hc rfl (cb (v_res hw) rfl (by simp)) rfl) (aW (aw rfl) rfl)))
end
noncomputable abbrev K8 (m0 m1 m2 m3:Bool):D:=.list [.bool m0,.bool m1,.bool m2,.bool m3]
noncomputable abbrev m4:D:=.list [.list [.int 0],.list [.int 0,.int 2,.int 3],.list [.int 0,.int 3],.list [.int 0,.int 1,.int 3],.list [.int 0,.int 1,.int 2]]
noncomputable abbrev eB (xs:List D) (W:D) (n c:Int) (m0 m1 m2 m3:Bool) (f:Int) (y S r p:D) (x10 x11 x12 x13 x14:Option PV):Ev:=[some ⟨.leaf,.list xs⟩,some ⟨.leaf,W⟩,some ⟨.leaf,.int n⟩,some ⟨.leaf,.int c⟩,some ⟨.leaf,K8 m0 m1 m2 m3⟩,some ⟨.leaf,.int f⟩,some ⟨.leaf,y⟩,some ⟨.leaf,S⟩,some ⟨.leaf,r⟩,some ⟨.leaf,p⟩,x10,x11,x12,x13,x14,none]
section
variable {m0 m1 m2 m3:Bool} {Γ:Ev} {i k:Nat}
theorem Fw (h4:Γ[4]?=some (some ⟨.leaf,K8 m0 m1 m2 m3⟩)) (h15:Γ[15]?=some (some ⟨.leaf,rm i⟩)) (hi:i<4):aN bf (ai (af 4) (af 15)) Γ=.ok (DJ m0 m1 m2 m3 i) Γ:=
 match i,hi,h15 with
 | 0,_,h=>cK (dJ (j:=0) (aw h4) (aw h) rfl rfl rfl)
 | 1,_,h=>cK (dJ (j:=1) (aw h4) (aw h) rfl rfl rfl)
 | 2,_,h=>cK (dJ (j:=2) (aw h4) (aw h) rfl rfl rfl)
 | 3,_,h=>cK (dJ (j:=3) (aw h4) (aw h) rfl rfl rfl)
noncomputable abbrev J3:F1:=aB .leaf (ae (eK (.str "world")) (ae (eK (.str "sentence")) (ae (eK (.str "room")) (ae (eK (.str "way")) ag))))
theorem Fv (h15:Γ[15]?=some (some ⟨.leaf,rm i⟩)) (hi:i<4):ai J3 (af 15) Γ=.ok ⟨.leaf,.str (nm i)⟩ Γ:=by
 have l:=dz (s:=.leaf) (Γ:=Γ) (ay (aL (d:=.str "world")) (ay (aL (d:=.str "sentence")) (ay (aL (d:=.str "room")) (ay (aL (d:=.str "way")) ah)))) rfl rfl rfl
 match i,hi,h15 with
 | 0,_,h=>exact dJ (j:=0) l (aw h) rfl rfl rfl
 | 1,_,h=>exact dJ (j:=1) l (aw h) rfl rfl rfl
 | 2,_,h=>exact dJ (j:=2) l (aw h) rfl rfl rfl
 | 3,_,h=>exact dJ (j:=3) l (aw h) rfl rfl rfl
theorem vo {k i:Nat} (h:i∈wF k):i<4:=by
 unfold wF at h;split at h<;>simp at h<;>omega
theorem Di (h10:Γ[10]?=some (some ⟨.leaf,m4⟩)) (h11:Γ[11]?=some (some ⟨.leaf,rm k⟩)) (hk:k<5):bt (ai (af 10) (af 11)) Γ=.ok ⟨(wF k).map rm,true⟩ Γ:=
 match k,hk,h11 with
 | 0,_,h=>cf (s:=.leaf) (dJ (j:=0) (aw h10) (aw h) rfl rfl rfl) rfl
 | 1,_,h=>cf (s:=.leaf) (dJ (j:=1) (aw h10) (aw h) rfl rfl rfl) rfl
 | 2,_,h=>cf (s:=.leaf) (dJ (j:=2) (aw h10) (aw h) rfl rfl rfl) rfl
 | 3,_,h=>cf (s:=.leaf) (dJ (j:=3) (aw h10) (aw h) rfl rfl rfl) rfl
 | 4,_,h=>cf (s:=.leaf) (dJ (j:=4) (aw h10) (aw h) rfl rfl rfl) rfl
theorem p8 {k:Nat}:(wF k).length<=3:=by unfold wF;split<;>simp
end
noncomputable abbrev EM:FS:=(av (aA false 14 (bJ (aC .leaf 15 (bt (ai (af 10) (af 11))) (aN bf (ai (af 4) (af 15))) (ai J3 (af 15))) (aB .leaf (ae (eK (.str "")) ag))))
  (bF (aN ax (az jm (ak 6 dQ (ae (af 11) (ae (af 1) (ae (af 7) (ae (af 8) (ae (af 9) (ae (af 6) ag))))))) (ai (af 14) (eK (.int 0))))) (aI (eK (.bool false))) aG))
theorem FH {l:List Nat}:((l.map fun i=>PyData.str (nm i))++[.str ""])[0]?=some (.str (La l)):=by cases l<;>rfl
theorem AH {xs:List D} {W S y:D} {n c f:Int} {r p:D} {m0 m1 m2 m3:Bool} {k:Nat} (hk:k<5) (h:Tl (fk W S r p y k) (DM m0 m1 m2 m3 k)) {x12 x13 x14:Option PV}:∃y14,EM (eB xs W n c m0 m1 m2 m3 f y S r p (some ⟨.leaf,m4⟩) (some ⟨.leaf,rm k⟩) x12 x13 x14)=.nx (eB xs W n c m0 m1 m2 m3 f y S r p (some ⟨.leaf,m4⟩) (some ⟨.leaf,rm k⟩) x12 x13 y14):=by
 have cm:=wA rm (wF k) (DJ m0 m1 m2 m3) (fun i=>⟨.leaf,.str (nm i)⟩) (s:=.leaf) (i:=15) (fi:=bt (ai (af 10) (af 11))) (fc:=aN bf (ai (af 4) (af 15))) (fe:=ai J3 (af 15)) (st:=true) (Γ:=eB xs W n c m0 m1 m2 m3 f y S r p (some ⟨.leaf,m4⟩) (some ⟨.leaf,rm k⟩) x12 x13 x14) (Di rfl rfl hk) (by simp) rfl (by have:=p8 (k:=k);omega) (fun i hi=>Fw rfl rfl (vo hi)) fun i hi _=>⟨Fv rfl (vo hi),rfl⟩
 have ln:((wF k).filter (DJ m0 m1 m2 m3)).length<=3:=Nat.le_trans (length_filter_le _ _) p8
 have ct:=dE cm (dz (s:=.leaf) (ay (aL (d:=.str "")) ah) rfl rfl rfl) rfl rfl (by simp;omega)
 refine ⟨some ⟨.leaf,.list (((wF k).filter (DJ m0 m1 m2 m3)).map (fun i=>PyData.str (nm i))++[.str ""])⟩,aq (Γ1:=eB xs W n c m0 m1 m2 m3 f y S r p (some ⟨.leaf,m4⟩) (some ⟨.leaf,rm k⟩) x12 x13 (some ⟨.leaf,.list (((wF k).filter (DJ m0 m1 m2 m3)).map (fun i=>PyData.str (nm i))++[.str ""])⟩)) (cb ct rfl (by simp)) ?_⟩
 have nn:∀d:D,(PyData.str (DM m0 m1 m2 m3 k))=d->jm (.str (DM m0 m1 m2 m3 k)) d=some (.bool false):=fun d e=>by rw [<-e];exact u1 (AY _ _ _ _ _ hk)
 exact aV (t:=false) (dY (s:=.leaf) (aE (cn (ay (aw rfl) (ay (aw rfl) (ay (aw rfl) (ay (aw rfl) (ay (aw rfl) (ay (aw rfl) ah)))))) (yB hk h) rfl rfl) (dJ (j:=0) (aw rfl) aL (sW (k:=0) (by simp)) FH rfl) (nn _ rfl))) nofun fun _=>rfl
noncomputable abbrev Km:F1:=aB .leaf (ae (bo (ae (eK (.str "yes")) ag)) (ae (bo (ae (eK (.str "mark")) (ae (eK (.str "g")) ag))) (ae (bo (ae (eK (.str "some")) ag)) (ae (bo ag) (ae (bo (ae (eK (.str "some next")) ag)) (ae (bo (ae (eK (.str "some always")) (ae (bo (ae (eK (.str "mark")) (ae (eK (.str "ab")) ag))) ag))) ag))))))
noncomputable abbrev yQ:List D:=[.tuple [.str "yes"],.tuple [.str "mark",.str "g"],.tuple [.str "some"],.tuple [],.tuple [.str "some next"],.tuple [.str "some always",.tuple [.str "mark",.str "ab"]]]
noncomputable abbrev vU:List D:=yQ++[.tuple [.str "all next",.tuple [.str "a"]]]
theorem yP {j:Nat} (hj:j<7):∃S,vU[j]?=some S/\aP [S]=.er "NoSentence":=
 match j,hj with
 | 0,_=>⟨_,rfl,Cr⟩
 | 1,_=>⟨_,rfl,Cq⟩
 | 2,_=>⟨_,rfl,Co⟩
 | 3,_=>⟨_,rfl,Cn⟩
 | 4,_=>⟨_,rfl,Cm⟩
 | 5,_=>⟨_,rfl,Cj⟩
 | 6,_=>⟨_,rfl,Ci⟩
section
variable {xs:List D} {W S y r p:D} {n c f:Int} {m0 m1 m2 m3:Bool} {x10 x11 x12 x13 x14:Option PV}
noncomputable abbrev LG:FS:=bF (aN bf (ai (af 4) (eK (.int 1)))) (av (aA true 12 Km)
  (av (eN 12 (bo (ae (eK (.str "all next")) (ae (bo (ae (eK (.str "a")) ag)) ag))))
  (lP 12 (aA false 7 (ai (af 12) (ak 3 aj (ae (af 3) (ae (eK (.int 7)) (ae (eK (.int 7)) ag)))))))) ) aG
theorem Lq:∃S' y12,LG (eB xs W n c m0 m1 m2 m3 f y sAY.enc r p none none none none none)=.nx (eB xs W n c m0 m1 m2 m3 f y S' r p none none y12 none none)/\(m1=true->aP [S']=.er "NoSentence")/\(m1=false->S'=sAY.enc):=by
 have t:aN bf (ai (af 4) (eK (.int 1))) (eB xs W n c m0 m1 m2 m3 f y sAY.enc r p none none none none none)=.ok m1 (eB xs W n c m0 m1 m2 m3 f y sAY.enc r p none none none none none):=cK (s:=.leaf) (dJ (j:=1) (aw rfl) aL rfl rfl rfl)
 cases m1 with
 | false=>exact ⟨_,none,aV t nofun fun _=>rfl,nofun,fun _=>rfl⟩
 | true=>
  obtain ⟨j,hj,ej⟩:=rW (c:=c) (k:=7) (b:=7) (by omega) (by omega) (by omega) (by omega)
  obtain ⟨S',e1,e2⟩:=yP hj;refine ⟨S',some ⟨.leaf,.list vU⟩,aV t (fun _=>?_) nofun,fun _=>e2,nofun⟩
  refine aq (Γ1:=eB xs W n c m0 true m2 m3 f y sAY.enc r p none none (some ⟨.lst .leaf,.list yQ⟩) none none) (zd (dz (s:=.leaf) (ay (bG (ay aL ah) rfl rfl) (ay (bG (ay aL (ay aL ah)) rfl rfl) (ay (bG (ay aL ah) rfl rfl) (ay (bG ah rfl rfl) (ay (bG (ay aL ah) rfl rfl) (ay (bG (ay aL (ay (bG (ay aL (ay aL ah)) rfl rfl) ah)) rfl rfl) ah)))))) rfl rfl rfl) rfl (by simp)) ?_
  have k1:=Dy (i:=12) (s:=.leaf) (ds:=yQ) (fa:=bo (ae (eK (.str "all next")) (ae (bo (ae (eK (.str "a")) ag)) ag))) (Γ:=eB xs W n c m0 true m2 m3 f y sAY.enc r p none none (some ⟨.lst .leaf,.list yQ⟩) none none) rfl (bG (ay aL (ay (bG (ay aL ah) rfl rfl) ah)) rfl rfl) rfl (by simp)
  refine aq (Γ1:=eB xs W n c m0 true m2 m3 f y sAY.enc r p none none (some ⟨.lst .leaf,.list vU⟩) none none) k1 ?_
  refine zo (p:=⟨.lst .leaf,.list vU⟩) rfl ?_
  exact cb (dJ (j:=j) (ds:=vU) (s:=.leaf) (s2:=.leaf) (aw rfl) (cn (ay (aw rfl) (ay aL (ay aL ah))) ej rfl rfl) (sW hj) e1 rfl) rfl (by simp)
noncomputable abbrev LF:FS:=bF (aN bf (ai (af 4) (eK (.int 2)))) (av (aA false 8 (ai (aB .leaf (ae (az gSub (eU bC (eK (.int 1))) (af 5)) (ae (az aO (af 2) (af 5)) ag))) (ak 3 aj (ae (af 3) (ae (eK (.int 8)) (ae (eK (.int 2)) ag))))))
  (aA false 9 (az gSub (eU bC (eK (.int 1))) (af 5)))) aG
theorem st2 {N:Nat} (hn:n=(N:Int)) (hf:0<=f):∃r' p':Int,LF (eB xs W n c m0 m1 m2 m3 f y S (.int 0) (.int f) none none x12 none none)=.nx (eB xs W n c m0 m1 m2 m3 f y S (.int r') (.int p') none none x12 none none)/\(m2=true->p'<0/\fX N r'=false)/\(m2=false->0<=p'/\r'=0):=by
 have t:aN bf (ai (af 4) (eK (.int 2))) (eB xs W n c m0 m1 m2 m3 f y S (.int 0) (.int f) none none x12 none none)=.ok m2 (eB xs W n c m0 m1 m2 m3 f y S (.int 0) (.int f) none none x12 none none):=cK (s:=.leaf) (dJ (j:=2) (aw rfl) aL rfl rfl rfl)
 cases m2 with
 | false=>exact ⟨0,f,aV t nofun fun _=>rfl,nofun,fun _=>⟨hf,rfl⟩⟩
 | true=>
  obtain ⟨j,hj,ej⟩:=rW (c:=c) (k:=8) (b:=2) (by omega) (by omega) (by omega) (by omega)
  have sb:gSub (.int (-1)) (.int f)=some (.int (-1-f)):=KC.sub_int'
  have l:=dz (s:=.leaf) (Γ:=eB xs W n c m0 m1 true m3 f y S (.int 0) (.int f) none none x12 none none) (ay (aE (AE (g:=bC) (aL (d:=.int 1)) (d:=.int (-1)) rfl) (aw (i:=5) rfl) sb) (ay (aE (g:=aO) (aw (i:=2) rfl) (aw (i:=5) rfl) KC.add_int') ah)) rfl rfl rfl
  have dd:=cn (n:=3) (Γ:=eB xs W n c m0 m1 true m3 f y S (.int 0) (.int f) none none x12 none none) (ay (aw (i:=3) rfl) (ay aL (ay aL ah))) ej rfl rfl
  have s9:∀r':D,aA false 9 (az gSub (eU bC (eK (.int 1))) (af 5)) (eB xs W n c m0 m1 true m3 f y S r' (.int f) none none x12 none none)=.nx (eB xs W n c m0 m1 true m3 f y S r' (.int (-1-f)) none none x12 none none):=fun r'=>cb (aE (AE (g:=bC) (aL (d:=.int 1)) (d:=.int (-1)) rfl) (aw (i:=5) rfl) sb) rfl (by simp)
  match j,hj,dd with
  | 0,_,dd=>exact ⟨-1-f,-1-f,aV t (fun _=>aq (cb (dJ (j:=0) l dd rfl rfl rfl) rfl (by simp)) (s9 _)) nofun,fun _=>⟨by omega,by unfold fX;rw [decide_eq_false (by omega)];rfl⟩,nofun⟩
  | 1,_,dd=>exact ⟨n+f,-1-f,aV t (fun _=>aq (cb (dJ (j:=1) l dd rfl rfl rfl) rfl (by simp)) (s9 _)) nofun,fun _=>⟨by omega,by unfold fX;rw [decide_eq_false (by omega:¬n+f<(N:Int)),Bool.and_false]⟩,nofun⟩
noncomputable abbrev F7:F1:=aB .leaf (ae (bo (ae (aB .leaf ag) (ae (aB .leaf ag) ag))) (ae (bo (ae (aB .leaf (ae (az aO (af 2) (af 5)) ag)) (ae (ai (af 6) (eK (.int 1))) ag))) (ae (bo (ae (ai (af 6) (eK (.int 0))) (ae (bJ (ai (af 6) (eK (.int 1))) (aB .leaf (ae (az gSub (eU bC (eK (.int 1))) (af 5)) ag))) ag))) (ae (bo (ae (bJ (ai (af 6) (eK (.int 0))) (ai (af 6) (eK (.int 1)))) (ae (aB .leaf ag) ag))) ag))))
noncomputable abbrev LC:FS:=bF (aN bf (ai (af 4) (eK (.int 3)))) (av (aA false 13 F7)
  (aA false 6 (ai (af 13) (ak 3 aj (ae (af 3) (ae (eK (.int 9)) (ae (eK (.int 4)) ag))))))) aG
theorem qp {n:Nat} {l:List Int} {x:Int} (h:x∈l) (hx:fX n x=false):l.all (fX n)=false:=List.all_eq_false.mpr ⟨x,h,by rw [hx];simp⟩
theorem st3 {w:Wd} (ok:w.Ok) {F R:List Nat} (hl:F.length+R.length<=100) (hn:n=(w.n:Int)) (hf:0<=f):∃y' y13,LC (eB xs W n c m0 m1 m2 m3 f (wy F R) S r p none none x12 none none)=.nx (eB xs W n c m0 m1 m2 m3 f y' S r p none none x12 y13 none)/\(m3=true->aZ [w.enc,y']=.ok ⟨.leaf,.bool false⟩)/\(m3=false->y'=wy F R):=by
 have t:aN bf (ai (af 4) (eK (.int 3))) (eB xs W n c m0 m1 m2 m3 f (wy F R) S r p none none x12 none none)=.ok m3 (eB xs W n c m0 m1 m2 m3 f (wy F R) S r p none none x12 none none):=cK (s:=.leaf) (dJ (j:=3) (aw rfl) aL rfl rfl rfl)
 cases m3 with
 | false=>exact ⟨_,none,aV t nofun fun _=>rfl,nofun,fun _=>rfl⟩
 | true=>
  obtain ⟨j,hj,ej⟩:=rW (c:=c) (k:=9) (b:=4) (by omega) (by omega) (by omega) (by omega)
  have sb:gSub (.int (-1)) (.int f)=some (.int (-1-f)):=KC.sub_int'
  have i0:ai (af 6) (eK (.int 0)) (eB xs W n c m0 m1 m2 true f (wy F R) S r p none none x12 none none)=.ok ⟨.leaf,aF F⟩ (eB xs W n c m0 m1 m2 true f (wy F R) S r p none none x12 none none):=nc (j:=0) (aw rfl) aL rfl rfl rfl
  have i1:ai (af 6) (eK (.int 1)) (eB xs W n c m0 m1 m2 true f (wy F R) S r p none none x12 none none)=.ok ⟨.leaf,aF R⟩ (eB xs W n c m0 m1 m2 true f (wy F R) S r p none none x12 none none):=nc (j:=1) (aw rfl) aL rfl rfl rfl
  let B:List D:=[.tuple [.list [],.list []],.tuple [.list [.int (n+f)],aF R],.tuple [aF F,.list (R.map rm++[.int (-1-f)])],.tuple [.list (F.map rm++R.map rm),.list []]]
  have s13:aA false 13 F7 (eB xs W n c m0 m1 m2 true f (wy F R) S r p none none x12 none none)=.nx (eB xs W n c m0 m1 m2 true f (wy F R) S r p none none x12 (some ⟨.leaf,.list B⟩) none):=
   cb (dz (s:=.leaf) (ay (bG (ay (dz (s:=.leaf) ah rfl rfl rfl) (ay (dz (s:=.leaf) ah rfl rfl rfl) ah)) rfl rfl) (ay (bG (ay (dz (s:=.leaf) (ay (aE (g:=aO) (aw (i:=2) rfl) (aw (i:=5) rfl) KC.add_int') ah) rfl rfl rfl) (ay i1 ah)) rfl rfl) (ay (bG (ay i0 (ay (dE i1 (dz (s:=.leaf) (ay (aE (AE (g:=bC) (aL (d:=.int 1)) (d:=.int (-1)) rfl) (aw (i:=5) rfl) sb) ah) rfl rfl rfl) sH rfl (by simp;omega)) ah)) rfl rfl) (ay (bG (ay (dE i0 i1 sH sH (by simp;omega)) (ay (dz (s:=.leaf) ah rfl rfl rfl) ah)) rfl rfl) ah)))) rfl rfl rfl) rfl (by simp)
  have go:∀{F' R':List Int},F'.length<=450->R'.length<=450->(R'=[]\/(F'++R').all (fX w.n)=false)->aZ [w.enc,i4 F' R']=.ok ⟨.leaf,.bool false⟩:=fun {F' R'} h1 h2 h=>by
   have:=sf ok h1 h2
   rw [this];have:nk w F' R'=false:=by
    unfold nk;rcases h with rfl | h
    ·rfl
    ·rw [h];simp
   rw [this]
  have goB:∀j,j<4->∃Y,B[j]?=some Y/\aZ [w.enc,Y]=.ok ⟨.leaf,.bool false⟩:=fun j hj=>
   match j,hj with
   | 0,_=>⟨_,rfl,go (F':=[]) (R':=[]) (by simp) (by simp) (.inl rfl)⟩
   | 1,_=>⟨_,rfl,by
     have:=go (F':=[n+f]) (R':=R.map fun x:Nat=>(x:Int)) (by simp) (by simp;omega) (.inr (qp (x:=n+f) (by simp) (by unfold fX;rw [decide_eq_false (by omega:¬n+f<(w.n:Int)),Bool.and_false])))
     rw [show i4 [n+f] (R.map fun x:Nat=>(x:Int))=.tuple [.list [.int (n+f)],aF R] by rw [pv];rfl] at this
     exact this⟩
   | 2,_=>⟨_,rfl,by
     have:=go (F':=F.map fun x:Nat=>(x:Int)) (R':=(R.map fun x:Nat=>(x:Int))++[-1-f]) (by simp;omega) (by simp;omega) (.inr (qp (x:=-1-f) (by simp) (by unfold fX;rw [decide_eq_false (by omega)];rfl)))
     rw [show i4 (F.map fun x:Nat=>(x:Int)) ((R.map fun x:Nat=>(x:Int))++[-1-f])=.tuple [aF F,.list (R.map rm++[.int (-1-f)])] by
      show PyData.tuple [my _,.list _]=_
      rw [<-pv,map_append,map_map];rfl] at this
     exact this⟩
   | 3,_=>⟨_,rfl,by
     have:=go (F':=(F.map fun x:Nat=>(x:Int))++(R.map fun x:Nat=>(x:Int))) (R':=[]) (by simp;omega) (by simp) (.inl rfl)
     rw [show i4 ((F.map fun x:Nat=>(x:Int))++(R.map fun x:Nat=>(x:Int))) []=.tuple [.list (F.map rm++R.map rm),.list []] by
      show PyData.tuple [.list _,.list _]=_
      rw [map_append,map_map,map_map];rfl] at this
     exact this⟩
  obtain ⟨Y,e1,e2⟩:=goB j hj;refine ⟨Y,some ⟨.leaf,.list B⟩,aV t (fun _=>aq s13 ?_) nofun,fun _=>e2,nofun⟩
  exact cb (dJ (j:=j) (ds:=B) (s:=.leaf) (s2:=.leaf) (aw rfl) (cn (ay (aw rfl) (ay aL (ay aL ah))) ej rfl rfl) (sW hj) e1 rfl) rfl (by simp)
noncomputable abbrev LH:FS:=bF (aN bf (ai (af 4) (eK (.int 0)))) (aA false 1 (ak 2 b3 (ae (af 1) (ae (ak 2 aM (ae (af 0) (ae (eK (.int 9)) ag))) ag)))) aG
theorem Lr (hx:RowI xs) {w:Wd} (ok:w.Ok):∃W',LH (eB xs w.enc n c m0 m1 m2 m3 f y S r p none none x12 x13 none)=.nx (eB xs W' n c m0 m1 m2 m3 f y S r p none none x12 x13 none)/\(m0=true->aU [W']=.er "NoWorld")/\(m0=false->W'=w.enc):=by
 have t:aN bf (ai (af 4) (eK (.int 0))) (eB xs w.enc n c m0 m1 m2 m3 f y S r p none none x12 x13 none)=.ok m0 (eB xs w.enc n c m0 m1 m2 m3 f y S r p none none x12 x13 none):=cK (s:=.leaf) (dJ (j:=0) (aw rfl) aL rfl rfl rfl)
 cases m0 with
 | false=>exact ⟨_,aV t nofun fun _=>rfl,nofun,fun _=>rfl⟩
 | true=>
  obtain ⟨c9,hc9⟩:=Eg hx (k:=9) (by omega)
  obtain ⟨sh,os',ms',ss',e1,e2,e3,e4⟩:=kI ok.g ok.h1 ok.h24 (c:=c9)
  exact ⟨dM os' ms' ss',aV t (fun _=>cb (cn (ay (aw rfl) (ay (cn (ay (aw rfl) (ay aL ah)) hc9 rfl rfl) ah)) e1 rfl rfl) e2 (by simp)) nofun,fun _=>yy e3 (by omega) e4,nofun⟩
end
theorem yC {xs:List D} (hx:RowI xs):m_law [.list xs]=.ok ⟨.leaf,.bool true⟩:=by
 obtain ⟨n,os,ms,ss,e0,g,h1,h6⟩:=rY hx (at':=0) (lim:=6) (by omega) (by omega) (by omega)
 obtain ⟨w,ok,ew,en⟩:=EC g h1 (by omega)
 rw [<-ew] at e0;have hn:w.n<=6:=by omega
 have hn1:=ok.h1
 obtain ⟨c,hc⟩:=Eg hx (k:=8) (by omega)
 obtain ⟨c7,hc7⟩:=Eg hx (k:=7) (by omega)
 obtain ⟨f,df,hf0,hf1⟩:=jW (c:=c) (k:=4) (b:=1000000000) (by omega) (by omega) (by omega) (by omega)
 obtain ⟨r0,hr,d5⟩:=rW (c:=c) (k:=5) (b:=w.n) (by omega) (by omega) (by omega) (by omega)
 obtain ⟨sz,hz,d6⟩:=rW (c:=c) (k:=6) (b:=9) (by omega) (by omega) (by omega) (by omega)
 obtain ⟨F,R,ey,iw,_,hly⟩:=yz ok (c:=c7) (r:=r0) (sz:=sz) hr (by omega)
 have cm:∀Γ:Ev,Γ.length=16->Γ[3]?=some (some ⟨.leaf,.int c⟩)->aC .leaf 15 (eJ (ae (eK (.int 4)) ag)) aR (az bL (ak 3 aj (ae (af 3) (ae (af 15) (ae (eK (.int 3)) ag)))) (eK (.int 1))) Γ=.ok ⟨.lst .leaf,.list ((List.range 4).map fun k:Nat=>.bool (cP c (k:Int) 3==1))⟩ Γ:=fun Γ hl h3=>
  oT rm (List.range 4) (fun k=>⟨.leaf,.bool (cP c (k:Int) 3==1)⟩) (st:=true) (m5 (s:=.leaf) (n:=4) (by omega) (ay aL ah)) (by omega) rfl (by simp) fun k hk=>by
   have hk:=List.mem_range.mp hk
   refine ⟨aE (cn (ay (aw (by rw [getElem?_set_ne (by omega)];exact h3)) (ay (aw (d:=rm k) (by rw [getElem?_set_self (by omega)])) (ay aL ah))) (wU (c:=c) (k:=(k:Int)) (b:=3) (by omega) (by omega) (by omega) (by omega)) rfl rfl) aL KC.eq_int,rfl⟩
 have e4:((List.range 4).map fun k:Nat=>PyData.bool (cP c (k:Int) 3==1))=[.bool (cP c ((0:Nat):Int) 3==1),.bool (cP c ((1:Nat):Int) 3==1),.bool (cP c ((2:Nat):Int) 3==1),.bool (cP c ((3:Nat):Int) 3==1)]:=rfl
 rw [e4] at cm;generalize (cP c ((0:Nat):Int) 3==1)=m0 at cm
 generalize (cP c ((1:Nat):Int) 3==1)=m1 at cm
 generalize (cP c ((2:Nat):Int) 3==1)=m2 at cm
 generalize (cP c ((3:Nat):Int) 3==1)=m3 at cm
 obtain ⟨S,y12,q1,hS1,hS0⟩:=Lq (xs:=xs) (W:=w.enc) (n:=(w.n:Int)) (c:=c) (m0:=m0) (m1:=m1) (m2:=m2) (m3:=m3) (f:=f) (y:=wy F R) (r:=.int 0) (p:=.int f)
 obtain ⟨r',p',q2,hR1,hR0⟩:=st2 (xs:=xs) (W:=w.enc) (N:=w.n) (c:=c) (m0:=m0) (m1:=m1) (m2:=m2) (m3:=m3) (f:=f) (y:=wy F R) (S:=S) (x12:=y12) rfl hf0
 obtain ⟨y',y13,q3,hY1,hY0⟩:=st3 (xs:=xs) (W:=w.enc) (c:=c) (m0:=m0) (m1:=m1) (m2:=m2) (m3:=m3) (f:=f) (S:=S) (r:=.int r') (p:=.int p') (x12:=y12) ok (F:=F) (R:=R) (by omega) rfl hf0
 obtain ⟨W,q0,hW1,hW0⟩:=Lr (n:=(w.n:Int)) (c:=c) (m0:=m0) (m1:=m1) (m2:=m2) (m3:=m3) (f:=f) (y:=y') (S:=S) (r:=.int r') (p:=.int p') (x12:=y12) (x13:=y13) hx ok
 have tl:=fun (k:Nat) (hk:k<5)=>ED ok hW1 hW0 hS1 hS0 hR1 hR0 hY1 hY0 iw (by omega) hk
 obtain ⟨Γ',ef,_,z11,z14,rfl⟩:=IZ rm (i:=11) (body:=EM) (Inv:=fun l' Γ=>(∀y∈l',y<5)/\∃x11 x14,Γ=eB xs W (w.n:Int) c m0 m1 m2 m3 f y' S (.int r') (.int p') (some ⟨.leaf,m4⟩) x11 y12 y13 x14) (fun y rest Γ ⟨hr,x11,x14,e⟩=>by
  subst e;obtain ⟨y14,e⟩:=AH (xs:=xs) (n:=(w.n:Int)) (c:=c) (f:=f) (hr y (by simp)) (tl y (hr y (by simp))) (x12:=y12) (x13:=y13) (x14:=x14)
  exact ⟨by simp,_,e,fun z hz=>hr z (by simp [hz]),_,_,rfl⟩) (List.range 5) (eB xs W (w.n:Int) c m0 m1 m2 m3 f y' S (.int r') (.int p') (some ⟨.leaf,m4⟩) none y12 y13 none) ⟨fun y hy=>List.mem_range.mp hy,_,_,rfl⟩
 refine aS ?_
 refine aq (cb (cn (ay (aw rfl) (ay aL (ay aL ah))) e0 rfl rfl) rfl (by simp [aQ])) ?_
 refine aq (cb (G5 ok rfl) rfl (by simp [aQ])) ?_
 refine aq (cb (cn (ay (aw rfl) (ay aL ah)) hc rfl rfl) rfl (by simp [aQ])) ?_
 refine aq (cb (cm _ rfl rfl) rfl (by simp [aQ])) ?_
 refine aq (cb (cn (ay (aw rfl) (ay aL (ay (aE aL aL (pO (b:=9) (by omega) (by omega))) ah))) (by exact df) rfl rfl) rfl (by simp [aQ])) ?_
 refine aq (cb (cn (ay (aw rfl) (ay (cn (ay (aw rfl) (ay aL ah)) hc7 rfl rfl) (ay (cn (ay (aw rfl) (ay aL (ay (aw rfl) ah))) d5 rfl rfl) (ay (cn (ay (aw rfl) (ay aL (ay aL ah))) d6 rfl rfl) ah)))) ey rfl rfl) rfl (by simp [aQ])) ?_
 refine aq (cb (bG (ay aL (ay (bG (ay aL ah) rfl rfl) ah)) rfl rfl) rfl (by simp [aQ])) ?_
 refine aq (cb aL rfl (by simp [aQ])) ?_
 refine aq (Γ1:=eB xs w.enc (w.n:Int) c m0 m1 m2 m3 f (wy F R) sAY.enc (.int 0) (.int f) none none none none none) (cb (aw rfl) rfl (by simp [aQ])) ?_
 refine aq q1 (aq q2 (aq q3 (aq q0 ?_)))
 refine aq (Γ1:=eB xs W (w.n:Int) c m0 m1 m2 m3 f y' S (.int r') (.int p') (some ⟨.leaf,m4⟩) none y12 y13 none) (cb (dz (s:=.leaf) (ay (dz (s:=.leaf) (ay aL ah) rfl rfl rfl) (ay (dz (s:=.leaf) (ay aL (ay aL (ay aL ah))) rfl rfl rfl) (ay (dz (s:=.leaf) (ay aL (ay aL ah)) rfl rfl rfl) (ay (dz (s:=.leaf) (ay aL (ay aL (ay aL ah))) rfl rfl rfl) (ay (dz (s:=.leaf) (ay aL (ay aL (ay aL ah))) rfl rfl rfl) ah))))) rfl rfl rfl) rfl (by simp)) ?_
 refine aq (fM (m5 (s:=.leaf) (n:=5) (by omega) (ay aL ah)) ef) ?_
 exact aW aL rfl
theorem law_true (ns:List Int) (hl:ns.length<=63):m_law [.list (ns.map .int)]=.ok ⟨.leaf,.bool true⟩:=yC rowI_map
end KQ.M
namespace T
open PySem PySem.Spec L2
open PyProof.Rows hiding St
section
variable {X:Cx} {N gl:List Str} {vs cs ls lo gs:List Nat} {W:XW} {a:Expr} {pos:Pos} {fa:F1}
theorem cs_unpt (S:Cp X N gl vs cs ls lo gs) (i j k:Nat) {x y z:Str} {px py pz pt:Pos} {kt:Nat} (hi:N[i]?=some x) (hj:N[j]?=some y) (hk:N[k]?=some z) (li:ls.contains i=true) (lj:ls.contains j=true) (lk:ls.contains k=true) (ha:PE X a (tE X.K W fa))
  (hs:swapsWithSole [.Tuple [.Name x px,.Name y py,.Name z pz] kt pt] a pos.line X.env=pure false) (hw:swappedStores [.Tuple [.Name x px,.Name y py,.Name z pz] kt pt] a X.env=pure none) :
  PS X (.Assign [.Tuple [.Name x px,.Name y py,.Name z pz] kt pt] a pos) (tS X.K W (gD [i,j,k] fa)):=by
 have hN:X.N.Nodup:=by rw [S.hN];exact S.nd
 exact cw (uO ha (BN S.calm (IK (DA hN (by rw [S.hN];exact hi) (S.loc i x hi li).1 (S.loc i x hi li).2) (IK (DA hN (by rw [S.hN];exact hj) (S.loc j y hj lj).1 (S.loc j y hj lj).2) (IK (DA hN (by rw [S.hN];exact hk) (S.loc k z hk lk).1 (S.loc k z hk lk).2) xU)))) hs hw) fun _ _ _=>xw (is:=[i,j,k])
end
end T
namespace TQ
open PySem PySem.Spec L2 T
open PyProof.Rows hiding St
variable {X:Cx} {N gl:List Str} {vs cs ls lo gs:List Nat} {W:XW} {a:Expr} {pos:Pos} {fa:F1}
theorem qC (S:Cp X N gl vs cs ls lo gs) (i j k:Nat) {x y z:Str} {px py pz pt:Pos} {kt:Nat} (hi:N[i]?=some x) (hj:N[j]?=some y) (hk:N[k]?=some z) (li:ls.contains i=true) (lj:ls.contains j=true) (lk:ls.contains k=true) (ha:Q (PE X a (tE X.K W fa)))
  (hs:swapsWithSole [.Tuple [.Name x px,.Name y py,.Name z pz] kt pt] a pos.line X.env=pure false) (hw:swappedStores [.Tuple [.Name x px,.Name y py,.Name z pz] kt pt] a X.env=pure none) :
  Q (PS X (.Assign [.Tuple [.Name x px,.Name y py,.Name z pz] kt pt] a pos) (tS X.K W (gD [i,j,k] fa))):=⟨T.cs_unpt S i j k hi hj hk li lj lk ha.p hs hw⟩
end TQ
namespace KQ.M
open PySem PySem.Spec L2 T TQ
open PyProof.Rows hiding St
open KC
noncomputable def cQ (n:Nat):Stmt:=(PySem.Challenge.pw_foreseehall_k38_ways_refused.main.body)[n]!
noncomputable def ui:Stmt:=cQ 13
noncomputable def nI:Stmt:=cQ 14
noncomputable def i8:Stmt:=cQ 15
noncomputable def i6:Stmt:=cQ 16
noncomputable def nB:Stmt:=cQ 17
noncomputable def lG:Stmt:=cQ 22
noncomputable def lL:Stmt:=cQ 23
noncomputable def lK:Stmt:=cQ 24
noncomputable def lJ:Stmt:=cQ 25
noncomputable def nF:Stmt:=cQ 26
noncomputable def ja:Stmt:=cQ 27
noncomputable def kh:Stmt:=cQ 28
noncomputable def nE:Stmt:=cQ 33
noncomputable def lH:Stmt:=cQ 34
noncomputable def ir:Stmt:=cQ 35
noncomputable def lE:Stmt:=cQ 36
noncomputable def gr:Stmt:=cQ 37
noncomputable def gv:Stmt:=cQ 38
noncomputable def i7:Stmt:=cQ 43
noncomputable def fC:Stmt:=cQ 44
noncomputable def nC:Stmt:=cQ 45
noncomputable def nJ:Stmt:=cQ 46
noncomputable def nA:Stmt:=cQ 47
noncomputable def ug:Stmt:=cQ 48
noncomputable def qP:Stmt:=cQ 52
noncomputable def uh:Stmt:=cQ 53
noncomputable def lI:Stmt:=cQ 54
noncomputable def qN:Stmt:=cQ 55
noncomputable def qO:Stmt:=cQ 56
noncomputable def nH:Stmt:=cQ 57
noncomputable def kg:Stmt:=cQ 58
noncomputable def xn:Stmt:=cQ 59
noncomputable def ki:Stmt:=cQ 60
noncomputable def nG:Stmt:=cQ 61
noncomputable def i9:Stmt:=cQ 62
noncomputable def lC:Stmt:=cQ 63
noncomputable def lD:Stmt:=cQ 64
noncomputable def gR:Stmt:=cQ 65
noncomputable def qM:Stmt:=cQ 66
noncomputable def iu:Stmt:=cQ 68
noncomputable def lM:Stmt:=cQ 69
noncomputable def kj:Stmt:=cQ 70
noncomputable def nK:Stmt:=cQ 71
noncomputable def gS:Stmt:=cQ 73
noncomputable def km:Stmt:=cQ 74
noncomputable def nL:Stmt:=cQ 75
noncomputable def EV:Stmt:=cQ 76
noncomputable def kl:Stmt:=cQ 72
structure Gl (K:Fg) (mg:Str->Option Value):Prop where
 n0:mg "any"=none
 n1:mg "all"=none
 n2:mg "len"=none
 n3:mg "range"=none
 n4:mg "isinstance"=none
 n5:mg "tuple"=none
 n6:mg "str"=none
 n7:mg "list"=none
 n8:mg "int"=none
 n9:mg "ValueError"=none
 h0:gk K mg "LETTERS" b8
 h1:gk K mg "MOST_ROOMS" dR
 h2:gk K mg "PLAYERS" cB
 h3:gk K mg "MOST_WORDS" fV
 h4:gk K mg "MOST_DEPTH" fW
 h5:gk K mg "UNTILS" bZ
 h6:gk K mg "ALWAYS" cG
 h7:gk K mg "BY_SOME_STEP" bB
 h8:gk K mg "OF_SOME" cC
 h9:gk K mg "OF_ALL" iG
 t0:qr K mg "PARTS" hZ
 xt:ExT K mg xcl KD
structure Al (K:Fg) (mg:Str->Option Value):Prop where
 g:Gl K mg
 f0:Ft K mg "is_led" ui
 f1:Ft K mg "is_lower" nI
 f2:Ft K mg "lower_steps" i8
 f3:Ft K mg "ranked_next" i6
 f4:Ft K mg "ranks_to" nB
 f5:Ft K mg "is_rising" lG
 f6:Ft K mg "are_marks" lL
 f7:Ft K mg "are_rooms" lK
 f8:Ft K mg "are_steps" lJ
 f9:Ft K mg "is_world" nF
 f10:Ft K mg "check_world" ja
 f11:Ft K mg "check_room" kh
 f12:Ft K mg "parts_of" nE
 f13:Ft K mg "is_formed" lH
 f14:Ft K mg "parts_of_all" ir
 f15:Ft K mg "layers_of" lE
 f16:Ft K mg "checked_layers" gr
 f17:Ft K mg "check_sentence" gv
 f18:Ft K mg "other_rooms" i7
 f19:Ft K mg "through_and_goal" fC
 f20:Ft K mg "ranks_of" nC
 f21:Ft K mg "holds_at" nJ
 f22:Ft K mg "rooms_by" nA
 f23:Ft K mg "judged" ug
 f24:Ft K mg "goes_on" qP
 f25:Ft K mg "is_way" uh
 f26:Ft K mg "check_way" lI
 f27:Ft K mg "room_of" qN
 f28:Ft K mg "room_at" qO
 f29:Ft K mg "is_round" nH
 f30:Ft K mg "once_round" kg
 f31:Ft K mg "short" xn
 f32:Ft K mg "check_kind" ki
 f33:Ft K mg "is_until" nG
 f34:Ft K mg "is_so_along" i9
 f35:Ft K mg "way_shows" lC
 f36:Ft K mg "way_along" lD
 f37:Ft K mg "showing_steps" gR
 f38:Ft K mg "way_for" qM
 f39:Ft K mg "_law_cell_at" iu
 f40:Ft K mg "_law_draw" lM
 f41:Ft K mg "_law_world" kj
 f42:Ft K mg "_law_way" nK
 f43:Ft K mg "_law_no_world" gS
 f44:Ft K mg "_law_asked" km
 f45:Ft K mg "_law_met" nL
 f46:Ft K mg "law" EV
 f47:Ft K mg "_law_which" kl
section
variable {P:Program} {w:World} {K:Fg} {mg:Str->Option Value} {base:Heap} (A:Al K mg) (B:K.In base/\base.Ns mainGlobals mg)
include A B
theorem je:DW P w K mg base 1 "_law_which" xcl bD:=Lx (p:=Gl) A.f47 A.g "e" sD ["some"] Lb [0,1] [] [0,1,2,3,4,5,6,7,8,9,10,11] fun X a C c hc hC S I hx=>
 TQ.Q.p (xc S I.r (I.xt A.g.xt) hx hc (I.gm hC) (I.gm A.g.n4) (I.gm A.g.n9))
theorem ma:DefOk P w K mg base 2 "is_led" 2 cF:=mk A.f0 A.g ["is_chosen", "by_steps"] mY [] ["any", "all"] [0,1] [] [0,1] fun X S I hp=>
 (bP (Hh (iZ (ao S 0) (fun _=>rfl)) (ly S 0 rfl rfl I.e.n0 (aJ (ao S 1)) (fJ rfl) rfl) (sJ S 1 rfl rfl I.e.n1 (aJ (ao S 1)) (fJ rfl) rfl)))
theorem nU:DefOk P w K mg base 2 "is_lower" 2 dO:=mk A.f1 A.g ["rank", "other"] mY [] [] [0,1] [] [] fun X S I hp=>
 (bP (w4 (fz (D8 I.r) (ao S 0) nj) (w4 (fz (D8 I.r) (ao S 1) nj) (zg (fz (kq I.r) (ao S 0) (ao S 1))))))
theorem jh:DefOk P w K mg base 3 "lower_steps" 3 dq:=mk A.f2 A.g ["world", "ranks", "room"] vT ["there"] ["is_lower"] [0,1,2] [1,2] [] fun X S I hp=>
 (bP (il [1,2,3] [1,2] [0] S 3 (iY (bj (bj (ao S 0) aH) (ao S 2))) (fun Y1 S1 F1=>have I:=F1.i I;wB (iZ (bR S1 0 (I.c (nU A B)) (aK (bj (ao S1 1) (ao S1 3)) (aJ (bj (ao S1 1) (ao S1 2))))) (fun _=>rfl))) (fun Y1 S1 F1=>have I:=F1.i I;(ao S1 3))))
theorem jf:DefOk P w K mg base 3 "ranked_next" 4 bY:=mk A.f3 A.g ["world", "chosen", "through", "ranks"] HU ["found", "room", "there"] ["is_led"] [0,1,2,3,4,5] [3] [0] fun X S I hp=>
 (ba (b7 S true 4 (cY .leaf kT)) (ba (ze S 5 rfl rfl hp (iY (ao S 2)) (dy (cX (wx (Ee (ck (qX I.r) (bj (ao S 3) (ao S 5)) nj) (Ej (iZ (bR S 0 (I.c (ma A B)) (aK (bj (ao S 1) (ao S 5)) (aJ (il [3,6] [3] [] S 6 (iY (bj (bj (ao S 0) aH) (ao S 5))) (fun _ _ _=>jA) (fun Y1 S1 F1=>have I:=F1.i I;(fz (D8 I.r) (bj (ao S1 3) (ao S1 6)) nj)))))) (fun _=>rfl))))) (dy (wW S 4 rfl rfl (ao S 5) (fI rfl) rfl rfl rfl rfl)) dw)) (fun _=>rfl)) (bP (ke S 4 rfl rfl))))
theorem nQ:DefOk P w K mg base 4 "ranks_to" 4 fE:=mk A.f4 A.g ["world", "chosen", "through", "goal"] HU ["ranks", "rank", "fresh", "room", "owner"] ["ranked_next"] [0,1,2,3,4,5,6,7] [] [0] fun X S I hp=>
 (ba (Ao (vs':=[8]) (cs':=[]) (lo':=[]) (gs':=[]) S true 4 .leaf 8 rfl rfl rfl rfl (by kernel_rfl) (by kernel_rfl) (by kernel_rfl) (iY (bj (ao S 0) aH)) (fun _ _ _=>jA) (fun Y1 S1 F1=>nj) (fun _=>rfl)) (ba (b7 S false 5 aH) (ba (b7 S false 6 (ao S 3)) (ba (Eh 1000 hp (iZ (ao S 6) (fun _=>rfl)) (ba (ze S 7 rfl rfl hp (iY (ao S 6)) (dy (qD S 4 rfl rfl (ao S 5) (ao S 7) rfl rfl rfl (fun _=>rfl))) (fun _=>rfl)) (ba (lu S 5 rfl rfl aH) (dy (b7 S false 6 (AC S 0 rfl rfl (I.c (jf A B)) (aK (ao S 0) (aK (ao S 1) (aK (ao S 2) (aJ (ao S 4))))) (fJ rfl) rfl)))))) (bP (ke S 4 rfl rfl))))))
theorem gH:DefOk P w K mg base 2 "is_rising" 1 dh:=mk A.f5 A.g ["entries"] sD ["k"] ["len", "range", "all"] [0] [0] [0,1,2] fun X S I hp=>
 (bP (sJ S 2 rfl rfl I.e.n1 (aJ (il [0,1] [0] [] S 1 (tH S 1 rfl rfl I.e.n3 (aK aH (aJ (fK S 0 I.e.n2 (aJ (ao S 0))))) (IQ rfl rfl) (fI rfl)) (fun _ _ _=>jA) (fun Y1 S1 F1=>have I:=F1.i I;(fz (kq I.r) (bj (ao S1 0) (zf (ao S1 1) aH)) (bj (ao S1 0) (ao S1 1)))))) (fJ rfl) rfl))
theorem mi:DefOk P w K mg base 3 "are_marks" 1 dj:=mk A.f6 A.g ["entries"] sD ["entry"] ["LETTERS", "all", "is_rising"] [0] [] [1,2] fun X S I hp=>
 (bP (w4 (sJ S 1 rfl rfl I.e.n1 (aJ (il [1] [] [0] S 1 (iY (ao S 0)) (fun _ _ _=>jA) (fun Y1 S1 F1=>have I:=F1.i I;(fz (de I.r) (ao S1 1) (dC S1 0 rfl rfl I.e.h0))))) (fJ rfl) rfl) (zg (bR S 2 (I.c (gH A B)) (aJ (ao S 0))))))
theorem mh:DefOk P w K mg base 3 "are_rooms" 2 eG:=mk A.f7 A.g ["entries", "size"] mY ["entry"] ["all", "is_rising"] [0,1] [1] [0,1] fun X S I hp=>
 (bP (w4 (sJ S 0 rfl rfl I.e.n1 (aJ (il [1,2] [1] [] S 2 (iY (ao S 0)) (fun _ _ _=>jA) (fun Y1 S1 F1=>have I:=F1.i I;(zp (BH I.r) (kq I.r) aH (ao S1 2) (ao S1 1) (by with_unfolding_all rfl))))) (fJ rfl) rfl) (zg (bR S 1 (I.c (gH A B)) (aJ (ao S 0))))))
theorem mf:DefOk P w K mg base 4 "are_steps" 2 di:=mk A.f8 A.g ["entries", "size"] mY [] ["len", "are_rooms"] [0,1] [] [0,1] fun X S I hp=>
 (bP (w4 (fz (xN I.r) (fK S 0 I.e.n2 (aJ (ao S 0))) aH) (zg (bR S 1 (I.c (mh A B)) (aK (ao S 0) (aJ (ao S 1)))))))
theorem nR:DefOk P w K mg base 5 "is_world" 3 cA:=mk A.f9 A.g ["owners", "marks", "steps"] vT ["size", "owner", "row"] ["len", "MOST_ROOMS", "PLAYERS", "all", "are_marks", "are_steps"] [0,1,2,3] [3] [0,1,3] fun X S I hp=>
 (ba (b7 S false 3 (fK S 0 I.e.n2 (aJ (ao S 0)))) (ba (cX (wx (wQ (ck (kq I.r) (ao S 3) aH) (wQ (ck (xN I.r) (ao S 3) (dC S 1 rfl rfl I.e.h1)) (wQ (ck (uG I.r) (fK S 0 I.e.n2 (aJ (ao S 1))) (ao S 3)) (Ef (ck (uG I.r) (fK S 0 I.e.n2 (aJ (ao S 2))) (ao S 3))))))) (bP wz) dw) (ba (cX (w5 (iZ (sJ S 3 rfl rfl I.e.n1 (aJ (il [4] [] [2] S 4 (iY (ao S 0)) (fun _ _ _=>jA) (fun Y1 S1 F1=>have I:=F1.i I;(fz (de I.r) (ao S1 4) (dC S1 2 rfl rfl I.e.h2))))) (fJ rfl) rfl) (fun _=>rfl))) (bP wz) dw) (bP (w4 (sJ S 3 rfl rfl I.e.n1 (aJ (il [5] [] [4] S 5 (iY (ao S 1)) (fun _ _ _=>jA) (fun Y2 S2 F2=>have I:=F2.i I;(bR S2 4 (I.c (mi A B)) (aJ (ao S2 5)))))) (fJ rfl) rfl) (zg (sJ S 3 rfl rfl I.e.n1 (aJ (il [3,5] [3] [5] S 5 (iY (ao S 2)) (fun _ _ _=>jA) (fun Y3 S3 F3=>have I:=F3.i I;(bR S3 5 (I.c (mf A B)) (aK (ao S3 5) (aJ (ao S3 3))))))) (fJ rfl) rfl)))))))
theorem Eo:DefOkX P w K mg base 6 "check_world" 1 aU:=sP (p:=Gl) A.f10 A.g ["world"] sD [] ["is_world", "NoWorld"] [0] [] [0,1] fun X W S I th mk=>
 (dy (cX (w5 (iZ (bR S 0 (I.c (nR A B)) (aK (bj (ao S 0) aH) (aK (bj (ao S 0) aH) (aJ (bj (ao S 0) aH))))) (fun _=>rfl))) (dy (Am S mk 1 (I.ra (A.g.xt.rais B.1 B.2)))) dw))
theorem jc:DefOkX P w K mg base 2 "check_room" 2 cL:=sP (p:=Gl) A.f11 A.g ["world", "room"] mY [] ["len", "NoRoom"] [0,1] [] [0,1] fun X W S I th mk=>
 (dy (cX (w5 (EA (BH I.r) (kq I.r) aH (ao S 1) (fK S 0 I.e.n2 (aJ (bj (ao S 0) aH))) (by with_unfolding_all rfl))) (dy (Am S mk 1 (I.ra (A.g.xt.rais B.1 B.2)))) dw))
theorem Hm:DefOk P w K mg base 2 "parts_of" 1 bh:=mk A.f12 A.g ["sentence"] sD [] [] [0] [] [] fun X S I hp=>
 (bP (Hh (ck (bW I.r) (bj (ao S 0) aH) cZ) (gp kT) (tJ (ao S 0) aH)))
theorem me:DefOk P w K mg base 2 "is_formed" 1 gK:=mk A.f13 A.g ["some"] sD [] ["isinstance", "tuple", "len", "str", "LETTERS", "PARTS"] [0] [] [0,1,2,3,4,5] fun X S I hp=>
 (ba (cX (wx (wQ (w5 (iZ (lx S 0 1 rfl rfl rfl rfl rfl yR I.e.n4 I.e.n5 (ao S 0) (fJ rfl) (fJ rfl) rfl) (fun _=>rfl))) (wQ (ck (bW I.r) (fK S 2 I.e.n2 (aJ (ao S 0))) aH) (Ef (w5 (iZ (lx S 0 3 rfl rfl rfl rfl rfl F9 I.e.n4 I.e.n6 (bj (ao S 0) aH) (fJ rfl) (fJ rfl) rfl) (fun _=>rfl))))))) (bP wz) dw) (ba (cX (ck (bW I.r) (bj (ao S 0) aH) cZ) (bP (w4 (fz (bW I.r) (fK S 2 I.e.n2 (aJ (ao S 0))) aH) (zg (fz (de I.r) (bj (ao S 0) aH) (dC S 4 rfl rfl I.e.h0))))) dw) (bP (w4 (ig S 5 rfl rfl I.e.t0 (bj (ao S 0) aH)) (zg (fz (bW I.r) (fK S 2 I.e.n2 (aJ (ao S 0))) (i2 aH (qG S 5 rfl rfl I.e.t0 (bj (ao S 0) aH) (fun _ _=>rfl)))))))))
theorem iC:DefOk P w K mg base 3 "parts_of_all" 1 eF:=mk A.f14 A.g ["sentences"] sD ["found", "sentence"] ["parts_of"] [0,1,2] [] [0] fun X S I hp=>
 (ba (b7 S true 1 (cY .leaf kT)) (ba (ze S 2 rfl rfl hp (iY (ao S 0)) (dy (lq S 1 rfl rfl (bR S 0 (I.c (Hm A B)) (aJ (ao S 2))) (fI rfl) rfl rfl rfl rfl)) (fun _=>rfl)) (bP (ke S 1 rfl rfl))))
theorem lY:DefOk P w K mg base 4 "layers_of" 1 gJ:=mk A.f15 A.g ["some"] sD ["layers", "layer", "many", "each"] ["len", "MOST_WORDS", "MOST_DEPTH", "is_formed", "all", "parts_of_all"] [0,1,2,3] [] [0,1,2,4,5] fun X S I hp=>
 (ba (b7 S true 1 (cY .leaf kT)) (ba (b7 S false 2 (cY .leaf (aJ (ao S 0)))) (ba (b7 S false 3 aH) (ba (Eh 1000 hp (iZ (ao S 2) (fun _=>rfl)) (ba (lu S 3 rfl rfl (fK S 0 I.e.n2 (aJ (ao S 2)))) (ba (cX (wx (wQ (ck (xN I.r) (ao S 3) (dC S 1 rfl rfl I.e.h3)) (wQ (ck (bW I.r) (fK S 0 I.e.n2 (aJ (ao S 1))) (dC S 2 rfl rfl I.e.h4)) (Ef (w5 (iZ (sJ S 4 rfl rfl I.e.n1 (aJ (il [4] [] [3] S 4 (iY (ao S 2)) (fun _ _ _=>jA) (fun Y1 S1 F1=>have I:=F1.i I;(bR S1 3 (I.c (me A B)) (aJ (ao S1 4)))))) (fJ rfl) rfl) (fun _=>rfl))))))) (bP nj) dw) (ba (wW S 1 rfl rfl (ao S 2) (fI rfl) rfl rfl rfl rfl) (dy (b7 S false 2 (bR S 5 (I.c (iC A B)) (aJ (ao S 2))))))))) (bP (ke S 1 rfl rfl))))))
theorem fS:DefOkX P w K mg base 5 "checked_layers" 1 dA:=sP (p:=Gl) A.f16 A.g ["sentence"] sD ["layers"] ["layers_of", "NoSentence"] [0,1] [] [0,1] fun X W S I th mk=>
 (ba (b7 S false 1 (bR S 0 (I.c (lY A B)) (aJ (ao S 0)))) (ba (cX (ck (qX I.r) (ao S 1) nj) (dy (Am S mk 1 (I.ra (A.g.xt.rais B.1 B.2)))) dw) (bP (ao S 1))))
theorem fT:DefOkX P w K mg base 6 "check_sentence" 1 dB:=sP (p:=Gl) A.f17 A.g ["sentence"] sD [] ["checked_layers"] [0] [] [0] fun X W S I th mk=>
 (dy (kc (ka S th 0 (I.x (fS A B)) (aJ (ao S 0))) rfl))
theorem jg:DefOk P w K mg base 2 "other_rooms" 2 cE:=mk A.f18 A.g ["world", "rooms"] mY ["room"] ["len", "range"] [0,1] [1] [0,1] fun X S I hp=>
 (bP (il [1,2] [1] [] S 2 (eX S 1 rfl rfl I.e.n3 (aJ (fK S 0 I.e.n2 (aJ (bj (ao S 0) aH)))) (fI rfl)) (fun Y1 S1 F1=>have I:=F1.i I;wB (ck (zh I.r) (ao S1 2) (ao S1 1))) (fun Y1 S1 F1=>have I:=F1.i I;(ao S1 2))))
theorem fD:DefOk P w K mg base 3 "through_and_goal" 3 bq:=mk A.f19 A.g ["world", "sentence", "parts"] vT [] ["UNTILS", "len", "list", "range", "other_rooms"] [0,1,2] [] [0,1,2,3,4] fun X S I hp=>
 (ba (cX (ck (de I.r) (bj (ao S 1) aH) (dC S 0 rfl rfl I.e.h5)) (bP (gp (aK (bj (ao S 2) aH) (aJ (bj (ao S 2) aH))))) dw) (bP (gp (aK (ik S 2 3 rfl rfl I.e.n7 rfl rfl I.e.n3 (aJ (fK S 1 I.e.n2 (aJ (bj (ao S 0) aH)))) (fI rfl) (fI rfl)) (aJ (bR S 4 (I.c (jg A B)) (aK (ao S 0) (aJ (bj (ao S 2) aH)))))))))
theorem iB:DefOk P w K mg base 5 "ranks_of" 3 bN:=mk A.f20 A.g ["world", "sentence", "parts"] vT ["word", "both", "owner"] ["UNTILS", "ALWAYS", "through_and_goal", "BY_SOME_STEP", "ranks_to"] [0,1,2,3,4] [3] [0,1,2,4] fun X S I hp=>
 (ba (b7 S false 3 (bj (ao S 1) aH)) (ba (cX (wx (Ee (ck (zh I.r) (ao S 3) (dC S 0 rfl rfl I.e.h5)) (Ej (ck (zh I.r) (ao S 3) (dC S 1 rfl rfl I.e.h6))))) (bP nj) dw) (ba (b7 S false 4 (bR S 2 (I.c (fD A B)) (aK (ao S 0) (aK (ao S 1) (aJ (ao S 2)))))) (bP (bR S 4 (I.c (nQ A B)) (aK (ao S 0) (aK (il [3,5] [3] [3] S 5 (iY (bj (ao S 0) aH)) (fun _ _ _=>jA) (fun Y1 S1 F1=>have I:=F1.i I;(fz (de I.r) (ao S1 3) (dC S1 3 rfl rfl I.e.h7)))) (aK (bj (ao S 4) aH) (aJ (bj (ao S 4) aH))))))))))
theorem nV:DefOk P w K mg base 3 "holds_at" 5 dP:=mk A.f21 A.g ["world", "sentence", "parts", "ranks", "room"] Lg ["word", "here", "rooms", "there"] ["UNTILS", "ALWAYS", "all", "any", "BY_SOME_STEP", "is_led"] [0,1,2,3,4,5,6] [2,4] [0,1,2,3,4,5] fun X S I hp=>
 (ba (b7 S false 5 (bj (ao S 1) aH)) (ba (cX (ck (bW I.r) (ao S 5) cZ) (bP wz) dw) (ba (cX (ck (bW I.r) (ao S 5) cZ) (bP (fz (de I.r) (bj (ao S 1) aH) (bj (bj (ao S 0) aH) (ao S 4)))) dw) (ba (cX (ck (de I.r) (ao S 5) (dC S 0 rfl rfl I.e.h5)) (bP (fz (D8 I.r) (bj (ao S 3) (ao S 4)) nj)) dw) (ba (cX (ck (de I.r) (ao S 5) (dC S 1 rfl rfl I.e.h6)) (bP (fz (qX I.r) (bj (ao S 3) (ao S 4)) nj)) dw) (ba (Ao (vs':=[4,7]) (cs':=[4]) (lo':=[]) (gs':=[]) S false 6 .leaf 7 rfl rfl rfl rfl (by kernel_rfl) (by kernel_rfl) (by kernel_rfl) (iY (ao S 2)) (fun _ _ _=>jA) (fun Y1 S1 F1=>have I:=F1.i I;(fz (de I.r) (ao S1 4) (ao S1 7))) (fun _=>rfl)) (ba (cX (ck (bW I.r) (ao S 5) cZ) (bP (tx (bj (ao S 6) aH))) dw) (ba (cX (wx (wQ (ck (bW I.r) (ao S 5) cZ) (Ef (ck (bW I.r) (ao S 5) cZ)))) (bP (Hh (ck (bW I.r) (ao S 5) cZ) (sJ S 2 rfl rfl I.e.n1 (aJ (ao S 6)) (fJ rfl) rfl) (ly S 3 rfl rfl I.e.n0 (aJ (ao S 6)) (fJ rfl) rfl))) dw) (bP (bR S 5 (I.c (ma A B)) (aK (fz (de I.r) (ao S 5) (dC S 4 rfl rfl I.e.h7)) (aJ (il [2,8] [2] [] S 8 (iY (bj (bj (ao S 0) aH) (ao S 4))) (fun _ _ _=>jA) (fun Y2 S2 F2=>have I:=F2.i I;(fz (de I.r) (ao S2 8) (bj (ao S2 2) aH))))))))))))))))
theorem iA:DefOk P w K mg base 4 "rooms_by" 4 cz:=mk A.f22 A.g ["world", "sentence", "parts", "ranks"] HU ["room"] ["len", "range", "holds_at"] [0,1,2,3] [0,1,2,3] [0,1] fun X S I hp=>
 (bP (il [0,1,2,3,4] [0,1,2,3] [2] S 4 (eX S 1 rfl rfl I.e.n3 (aJ (fK S 0 I.e.n2 (aJ (bj (ao S 0) aH)))) (fI rfl)) (fun Y1 S1 F1=>have I:=F1.i I;wB (iZ (bR S1 2 (I.c (nV A B)) (aK (ao S1 0) (aK (ao S1 1) (aK (ao S1 2) (aK (ao S1 3) (aJ (ao S1 4))))))) (fun _=>rfl))) (fun Y1 S1 F1=>have I:=F1.i I;(ao S1 4))))
theorem rl (n:Nat):DefOk P w K mg base (5+n) "judged" 2 (cS n):=by
 induction n with
 | zero=>exact Lz A.f23 mY
 | succ n ih=>exact mk (k:=5+n) A.f23 A.g ["world", "sentence"] mY ["parts", "part"] ["parts_of", "judged", "ranks_of", "rooms_by"] [0,1,2] [0] [0,2,3] fun X S I hp=>
  (ba (Ao (vs':=[0,3]) (cs':=[0]) (lo':=[]) (gs':=[1]) S false 2 .leaf 3 rfl rfl rfl rfl (by kernel_rfl) (by kernel_rfl) (by kernel_rfl) (Jd (bR S 0 (I.c (Hm A B)) (aJ (ao S 1)))) (fun _ _ _=>jA) (fun Y1 S1 F1=>have I:=F1.i I;(bR S1 1 (I.c ih) (aK (ao S1 0) (aJ (ao S1 3))))) (fun _=>rfl)) (bP (bR S 3 (I.c (iA A B)) (aK (ao S 0) (aK (ao S 1) (aK (ao S 2) (aJ (bR S 2 (I.c (iB A B)) (aK (ao S 0) (aK (ao S 1) (aJ (ao S 2))))))))))))
theorem lZ:DefOk P w K mg base 35 "judged" 2 dH:=rl A B 30
theorem jL:DefOk P w K mg base 2 "goes_on" 2 aZ:=mk A.f24 A.g ["world", "way"] mY ["rooms", "k", "room"] ["len", "all", "range"] [0,1,2] [0,2] [0,1,2] fun X S I hp=>
 (ba (b7 S false 2 (lb (lb (bj (ao S 1) aH) (bj (ao S 1) aH)) (sX (bj (ao S 1) aH) aH))) (ba (cX (wx (wQ (w5 (iZ (bj (ao S 1) aH) (fun _=>rfl))) (Ef (w5 (iZ (sJ S 1 rfl rfl I.e.n1 (aJ (il [0,4] [0] [0] S 4 (iY (ao S 2)) (fun _ _ _=>jA) (fun Y1 S1 F1=>have I:=F1.i I;(zp (BH I.r) (kq I.r) aH (ao S1 4) (fK S1 0 I.e.n2 (aJ (bj (ao S1 0) aH))) (by with_unfolding_all rfl))))) (fJ rfl) rfl) (fun _=>rfl)))))) (bP wz) dw) (bP (sJ S 1 rfl rfl I.e.n1 (aJ (il [0,2,3] [0,2] [] S 3 (tH S 2 rfl rfl I.e.n3 (aK aH (aJ (fK S 0 I.e.n2 (aJ (ao S 2))))) (IQ rfl rfl) (fI rfl)) (fun _ _ _=>jA) (fun Y2 S2 F2=>have I:=F2.i I;(fz (de I.r) (bj (ao S2 2) (ao S2 3)) (bj (bj (ao S2 0) aH) (bj (ao S2 2) (zf (ao S2 3) aH))))))) (fJ rfl) rfl))))
theorem rf:DefOkX P w K mg base 7 "is_way" 2 eC:=sP (p:=Gl) A.f25 A.g ["world", "way"] mY [] ["check_world", "goes_on"] [0,1] [] [0,1] fun X W S I th mk=>
 (ba (kc (ka S th 0 (I.x (Eo A B)) (aJ (ao S 0))) rfl) (bP (bR S 1 (I.c (jL A B)) (aK (ao S 0) (aJ (ao S 1))))))
theorem Ji:DefOkX P w K mg base 3 "check_way" 2 b6:=sP (p:=Gl) A.f26 A.g ["world", "way"] mY [] ["goes_on", "NoWay"] [0,1] [] [0,1] fun X W S I th mk=>
 (dy (cX (w5 (iZ (bR S 0 (I.c (jL A B)) (aK (ao S 0) (aJ (ao S 1)))) (fun _=>rfl))) (dy (Am S mk 1 (I.ra (A.g.xt.rais B.1 B.2)))) dw))
theorem jK:DefOk P w K mg base 2 "room_of" 2 dG:=mk A.f27 A.g ["way", "place"] mY ["many"] ["len"] [0,1,2] [] [0] fun X S I hp=>
 (ba (b7 S false 2 (fK S 0 I.e.n2 (aJ (bj (ao S 0) aH)))) (bP (Hh (ck (kq I.r) (ao S 1) (ao S 2)) (bj (bj (ao S 0) aH) (ao S 1)) (bj (bj (ao S 0) aH) (ni (zf (ao S 1) (ao S 2)) (fK S 0 I.e.n2 (aJ (bj (ao S 0) aH))))))))
theorem nP:DefOkX P w K mg base 7 "room_at" 3 cx:=sP (p:=Gl) A.f28 A.g ["world", "way", "place"] vT [] ["check_world", "NoRoom", "check_way", "room_of"] [0,1,2] [] [0,1,2,3] fun X W S I th mk=>
 (ba (kc (ka S th 0 (I.x (Eo A B)) (aJ (ao S 0))) rfl) (ba (cX (ck (kq I.r) (ao S 2) aH) (dy (Am S mk 1 (I.ra (A.g.xt.rais B.1 B.2)))) dw) (ba (kc (ka S th 2 (I.x (Ji A B)) (aK (ao S 0) (aJ (ao S 1)))) rfl) (bP (bR S 3 (I.c (jK A B)) (aK (ao S 1) (aJ (ao S 2))))))))
theorem nT:DefOk P w K mg base 2 "is_round" 2 dN:=mk A.f29 A.g ["ring", "many"] mY [] ["len"] [0,1] [] [0] fun X S I hp=>
 (bP (w4 (fz (bW I.r) (ni (fK S 0 I.e.n2 (aJ (ao S 0))) (ao S 1)) aH) (zg (fz (bW I.r) (An (ao S 0) (ao S 1)) (sX (ao S 0) (oS (ao S 1)))))))
theorem kx:DefOk P w K mg base 3 "once_round" 1 cN:=mk A.f30 A.g ["ring"] sD ["many"] ["len", "range", "is_round"] [0] [0] [0,1] fun X S I hp=>
 (bP (sX (ao S 0) (bj (il [0,1] [0] [2] S 1 (tH S 1 rfl rfl I.e.n3 (aK aH (aJ (i2 (fK S 0 I.e.n2 (aJ (ao S 0))) aH))) (IQ rfl rfl) (fI rfl)) (fun Y1 S1 F1=>have I:=F1.i I;wB (iZ (bR S1 2 (I.c (nT A B)) (aK (ao S1 0) (aJ (ao S1 1)))) (fun _=>rfl))) (fun Y1 S1 F1=>have I:=F1.i I;(ao S1 1))) aH)))
theorem uX:DefOkX P w K mg base 7 "short" 2 eO:=sP (p:=Gl) A.f31 A.g ["world", "way"] mY ["front", "ring"] ["check_world", "check_way", "list", "once_round"] [0,1,2,3] [] [0,1,2,3] fun X W S I th mk=>
 (ba (kc (ka S th 0 (I.x (Eo A B)) (aJ (ao S 0))) rfl) (ba (kc (ka S th 1 (I.x (Ji A B)) (aK (ao S 0) (aJ (ao S 1)))) rfl) (tF (have S:=S.nox;have I:=I.nox;have hp:=JZ (X:=X) ;(ba (b7 S true 2 (qH S 2 rfl rfl I.e.n7 (bj (ao S 1) aH) (fI rfl))) (ba (b7 S true 3 (bR S 3 (I.c (kx A B)) (aJ (bj (ao S 1) aH)))) (ba (Eh 1000 hp (wx (Ee (iZ (ao S 2) (fun _=>rfl)) (Ej (ck (bW I.r) (bj (ao S 2) (oS aH)) (bj (ao S 3) (oS aH)))))) (dy (qE S true 2 3 rfl rfl rfl rfl (sX (ao S 3) (oS aH)) (fI rfl) rfl rfl rfl))) (bP (gp (aK (ke S 2 rfl rfl) (aJ (ke S 3 rfl rfl))))))))))))
theorem fg:DefOkX P w K mg base 7 "check_kind" 1 aP:=sP (p:=Gl) A.f32 A.g ["sentence"] sD [] ["check_sentence", "OF_SOME", "OF_ALL", "NoSentence"] [0] [] [0,1,2,3] fun X W S I th mk=>
 (ba (kc (ka S th 0 (I.x (fT A B)) (aJ (ao S 0))) rfl) (dy (cX (wx (Ee (ck (zh I.r) (bj (ao S 0) aH) (dC S 1 rfl rfl I.e.h8)) (Ej (ck (zh I.r) (bj (ao S 0) aH) (dC S 2 rfl rfl I.e.h9))))) (dy (Am S mk 3 (I.ra (A.g.xt.rais B.1 B.2)))) dw)))
theorem nS:DefOk P w K mg base 2 "is_until" 3 fF:=mk A.f33 A.g ["rooms", "first", "second"] vT ["room"] [] [0,1,2,3] [] [] fun X S I hp=>
 (ba (ze S 3 rfl rfl hp (iY (ao S 0)) (ba (cX (ck (de I.r) (ao S 3) (ao S 2)) (bP wz) dw) (dy (cX (ck (zh I.r) (ao S 3) (ao S 1)) (bP wz) dw))) (fun _=>rfl)) (bP wz))
theorem ji:DefOk P w K mg base 3 "is_so_along" 3 dr:=mk A.f34 A.g ["way", "word", "parts"] vT ["rooms", "room"] ["UNTILS", "is_until", "ALWAYS", "all", "room_of"] [0,1,2,3] [2] [0,1,2,3,4] fun X S I hp=>
 (ba (b7 S false 3 (lb (bj (ao S 0) aH) (bj (ao S 0) aH))) (ba (cX (ck (de I.r) (ao S 1) (dC S 0 rfl rfl I.e.h5)) (bP (bR S 1 (I.c (nS A B)) (aK (ao S 3) (aK (bj (ao S 2) aH) (aJ (bj (ao S 2) aH)))))) dw) (ba (cX (ck (de I.r) (ao S 1) (dC S 2 rfl rfl I.e.h6)) (bP (sJ S 3 rfl rfl I.e.n1 (aJ (il [2,4] [2] [] S 4 (iY (ao S 3)) (fun _ _ _=>jA) (fun Y1 S1 F1=>have I:=F1.i I;(fz (de I.r) (ao S1 4) (bj (ao S1 2) aH))))) (fJ rfl) rfl)) dw) (bP (fz (de I.r) (bR S 4 (I.c (jK A B)) (aK (ao S 0) (aJ aH))) (bj (ao S 2) aH))))))
theorem kv:DefOkX P w K mg base 36 "way_shows" 3 bM:=sP (p:=Gl) A.f35 A.g ["world", "sentence", "way"] vT ["parts", "part"] ["check_world", "check_kind", "check_way", "parts_of", "judged", "is_so_along", "OF_SOME"] [0,1,2,3] [0] [0,1,2,3,5,6] fun X W S I th mk=>
 (ba (kc (ka S th 0 (I.x (Eo A B)) (aJ (ao S 0))) rfl) (ba (kc (ka S th 1 (I.x (fg A B)) (aJ (ao S 1))) rfl) (ba (kc (ka S th 2 (I.x (Ji A B)) (aK (ao S 0) (aJ (ao S 2)))) rfl) (ba (Ao (vs':=[0,4]) (cs':=[0]) (lo':=[]) (gs':=[4]) S false 3 .leaf 4 rfl rfl rfl rfl (by kernel_rfl) (by kernel_rfl) (by kernel_rfl) (Jd (bR S 3 (I.c (Hm A B)) (aJ (ao S 1)))) (fun _ _ _=>jA) (fun Y1 S1 F1=>have I:=F1.i I;(bR S1 4 (I.c (lZ A B)) (aK (ao S1 0) (aJ (ao S1 4))))) (fun _=>rfl)) (bP (fz (bW I.r) (bR S 5 (I.c (ji A B)) (aK (ao S 2) (aK (bj (ao S 1) aH) (aJ (ao S 3))))) (fz (de I.r) (bj (ao S 1) aH) (dC S 6 rfl rfl I.e.h8))))))))
theorem lX:DefOk P w K mg base 2 "way_along" 2 eD:=mk A.f36 A.g ["choices", "room"] mY ["met", "here", "place"] [] [0,1,2,3,4] [] [] fun X S I hp=>
 (ba (b7 S true 2 (cY .leaf kT)) (ba (b7 S false 3 (ao S 1)) (ba (Eh 100 hp (wx (Ee (ck (D8 I.r) (ao S 3) nj) (Ej (ck (zh I.r) (ao S 3) (ao S 2))))) (ba (wW S 2 rfl rfl (ao S 3) (fI rfl) rfl rfl rfl rfl) (dy (b7 S false 3 (bj (ao S 0) (ao S 3)))))) (ba (cX (ck (qX I.r) (ao S 3) nj) (bP nj) dw) (lp 2 (ba (b7 S false 4 (tK S 2 rfl rfl (ao S 3) rfl (fI rfl) rfl)) (bP (gp (aK (sX (ao S 2) (ao S 4)) (aJ (An (ao S 2) (ao S 4))))))))))))
theorem gT:DefOk P w K mg base 4 "showing_steps" 5 bx:=mk A.f37 A.g ["world", "word", "parts", "ranks", "room"] Lg ["steps", "there"] ["BY_SOME_STEP", "lower_steps"] [0,1,2,3,4,5] [1,2,3] [0,1] fun X S I hp=>
 (ba (b7 S false 5 (bj (bj (ao S 0) aH) (ao S 4))) (ba (cX (ck (qX I.r) (ao S 3) nj) (bP (il [1,2,6] [1,2] [] S 6 (iY (ao S 5)) (fun Y1 S1 F1=>have I:=F1.i I;wB (ck (bW I.r) (fz (de I.r) (ao S1 6) (bj (ao S1 2) aH)) (fz (bW I.r) (ao S1 1) cZ))) (fun Y1 S1 F1=>have I:=F1.i I;(ao S1 6)))) dw) (ba (cX (ck (de I.r) (ao S 1) (dC S 0 rfl rfl I.e.h7)) (bP (bR S 1 (I.c (jh A B)) (aK (ao S 0) (aK (ao S 3) (aJ (ao S 4)))))) dw) (bP (il [3,6] [3] [] S 6 (iY (ao S 5)) (fun Y2 S2 F2=>have I:=F2.i I;wB (ck (qX I.r) (bj (ao S2 3) (ao S2 6)) nj)) (fun Y2 S2 F2=>have I:=F2.i I;(ao S2 6)))))))
theorem nO:DefOkX P w K mg base 36 "way_for" 3 b5:=sP (p:=Gl) A.f38 A.g ["world", "sentence", "room"] vT ["word", "parts", "ranks", "choices", "part", "here"] ["check_world", "check_kind", "check_room", "parts_of", "judged", "ranks_of", "rooms_by", "OF_SOME", "NoWay", "len", "range", "showing_steps", "way_along"] [0,1,2,3,4,5,6] [0,3,4,5] [0,1,2,3,5,6,7,8,9,10,12] fun X W S I th mk=>
 (ba (kc (ka S th 0 (I.x (Eo A B)) (aJ (ao S 0))) rfl) (ba (kc (ka S th 1 (I.x (fg A B)) (aJ (ao S 1))) rfl) (ba (kc (ka S th 2 (I.x (jc A B)) (aK (ao S 0) (aJ (ao S 2)))) rfl) (ba (b7 S false 3 (bj (ao S 1) aH)) (ba (Jb S false 4 rfl rfl (gC (S.cel 4 _ rfl rfl)) (il [0,7] [0] [4] S 7 (Jd (bR S 3 (I.c (Hm A B)) (aJ (ao S 1)))) (fun _ _ _=>jA) (fun Y1 S1 F1=>have I:=F1.i I;(bR S1 4 (I.c (lZ A B)) (aK (ao S1 0) (aJ (ao S1 7))))))) (ba (b7 S false 5 (bR S 5 (I.c (iB A B)) (aK (ao S 0) (aK (ao S 1) (aJ (ao S 4)))))) (ba (cX (ck (uG I.r) (fz (de I.r) (ao S 2) (bR S 6 (I.c (iA A B)) (aK (ao S 0) (aK (ao S 1) (aK (ao S 4) (aJ (ao S 5))))))) (fz (de I.r) (ao S 3) (dC S 7 rfl rfl I.e.h8))) (dy (Am S mk 8 (I.ra (A.g.xt.rais B.1 B.2)))) dw) (ba (Ao (vs':=[0,3,4,5,8]) (cs':=[0,3,4,5]) (lo':=[]) (gs':=[11]) S false 6 .leaf 8 rfl rfl rfl rfl (by kernel_rfl) (by kernel_rfl) (by kernel_rfl) (eX S 10 rfl rfl I.e.n3 (aJ (fK S 9 I.e.n2 (aJ (bj (ao S 0) aH)))) (fI rfl)) (fun _ _ _=>jA) (fun Y2 S2 F2=>have I:=F2.i I;(bj (lb (bR S2 11 (I.c (gT A B)) (aK (ao S2 0) (aK (ao S2 3) (aK (ao S2 4) (aK (ao S2 5) (aJ (ao S2 8))))))) (bj (bj (ao S2 0) aH) (ao S2 8))) aH)) (fun _=>rfl)) (bP (bR S 12 (I.c (lX A B)) (aK (ao S 6) (aJ (ao S 2)))))))))))))
theorem En:DefOk P w K mg base 2 "_law_cell_at" 2 aM:=mk A.f39 A.g ["script", "k"] mY [] ["len"] [0,1] [] [0] fun X S I hp=>
 (ba (cX (ck (kq I.r) (ao S 1) (fK S 0 I.e.n2 (aJ (ao S 0)))) (bP (bj (ao S 0) (ao S 1))) dw) (bP aH))
theorem i3:DefOk P w K mg base 2 "_law_draw" 3 aj:=mk A.f40 A.g ["cell", "k", "bound"] vT ["stir", "left", "j"] ["range"] [0,1,2,3,4,5] [] [0] fun X S I hp=>
 (ba (cX (ck (JY I.r) (ao S 0) (Jc aH aH)) (ba (b7 S false 4 (ao S 0)) (ba (ze S 5 rfl rfl hp (eX S 0 rfl rfl I.e.n3 (aJ (ao S 1)) (fI rfl)) (dy (b7 S false 4 (ll (ao S 4) (ao S 2)))) (fun _=>rfl)) (bP (ni (ao S 4) (ao S 2))))) dw) (ba (b7 S false 3 (ni (Ed (i2 (i2 (ni (ao S 0) aH) (Ed aH (ao S 1))) aH) aH) aH)) (ba (b7 S false 3 (ni (i2 (i2 (Ed (ao S 3) (ao S 3)) (Ed aH (ao S 1))) aH) aH)) (bP (ni (ll (ni (Ed (ao S 3) aH) aH) aH) (ao S 2))))))
theorem ky:DefOk P w K mg base 3 "_law_world" 3 m__law_world:=mk A.f41 A.g ["script", "at", "most"] vT ["many", "owners", "marks", "steps", "room", "cell", "row", "there", "mark"] ["_law_cell_at", "range", "_law_draw", "int"] [0,1,2,3,4,5,6,7,8,9] [3,8] [0,1,2] fun X S I hp=>
 (ba (b7 S false 3 (i2 aH (ni (bR S 0 (I.c (En A B)) (aK (ao S 0) (aJ (ao S 1)))) (ao S 2)))) (ba (b7 S true 4 (cY .leaf kT)) (ba (b7 S true 5 (cY .leaf kT)) (ba (b7 S true 6 (cY .leaf kT)) (ba (ze S 7 rfl rfl hp (eX S 1 rfl rfl I.e.n3 (aJ (ao S 3)) (fI rfl)) (ba (b7 S false 8 (bR S 0 (I.c (En A B)) (aK (ao S 0) (aJ (i2 (i2 (ao S 1) aH) (ao S 7)))))) (ba (wW S 4 rfl rfl (bR S 2 (I.c (i3 A B)) (aK (ao S 8) (aK aH (aJ aH)))) (fI rfl) rfl rfl rfl rfl) (ba (wW S 5 rfl rfl (il [8,11] [8] [2] S 11 (qB (by kernel_rfl)) (fun Y1 S1 F1=>have I:=F1.i I;wB (ck (bW I.r) (bR S1 2 (I.c (i3 A B)) (aK (ao S1 8) (aK (i2 aH (qF (ao S1 11) (fI rfl) rfl)) (aJ aH)))) aH)) (fun Y1 S1 F1=>have I:=F1.i I;(ao S1 11))) (fI rfl) rfl rfl rfl rfl) (ba (Ao (vs':=[3,8,10]) (cs':=[3,8]) (lo':=[]) (gs':=[2,3]) S false 9 .leaf 10 rfl rfl rfl rfl (by kernel_rfl) (by kernel_rfl) (by kernel_rfl) (eX S 1 rfl rfl I.e.n3 (aJ (ao S 3)) (fI rfl)) (fun Y2 S2 F2=>have I:=F2.i I;wB (ck (bW I.r) (bR S2 2 (I.c (i3 A B)) (aK (ao S2 8) (aK (i2 aH (ao S2 10)) (aJ (i2 aH (tM S2 3 rfl rfl I.e.n8 (aJ (fz (xN I.r) (ao S2 3) aH)) (fJ rfl) rfl)))))) aH)) (fun Y2 S2 F2=>have I:=F2.i I;(ao S2 10)) (fun _=>rfl)) (ba (cX (ck (bW I.r) (ao S 9) (cY .leaf kT)) (dy (b7 S false 9 (cY .leaf (aJ (bR S 2 (I.c (i3 A B)) (aK (ao S 8) (aK (i2 aH (ao S 3)) (aJ (ao S 3))))))))) dw) (dy (wW S 6 rfl rfl (ao S 9) (fI rfl) rfl rfl rfl rfl))))))) (fun _=>rfl)) (bP (gp (aK (ke S 4 rfl rfl) (aK (ke S 5 rfl rfl) (aJ (ke S 6 rfl rfl)))))))))))
theorem nW:DefOk P w K mg base 3 "_law_way" 4 cT:=mk A.f42 A.g ["world", "cell", "room", "size"] HU ["rooms", "k", "places", "at", "steps"] ["range", "_law_draw", "len"] [0,1,2,3,4,5,6,7,8] [4] [0,1,2] fun X S I hp=>
 (ba (b7 S true 4 (cY .leaf (aJ (ao S 2)))) (ba (ze S 5 rfl rfl hp (eX S 0 rfl rfl I.e.n3 (aJ (ao S 3)) (fI rfl)) (ba (b7 S false 8 (bj (bj (ao S 0) aH) (bj (ao S 4) (oS aH)))) (dy (wW S 4 rfl rfl (bj (ao S 8) (ni (bR S 1 (I.c (i3 A B)) (aK (ao S 1) (aK (ao S 5) (aJ aH)))) (fK S 2 I.e.n2 (aJ (ao S 8))))) (fI rfl) rfl rfl rfl rfl))) (fun _=>rfl)) (ba (Eh 100 hp (ck (zh I.r) (bj (ao S 4) (oS aH)) (sX (ao S 4) (oS aH))) (ba (b7 S false 8 (bj (bj (ao S 0) aH) (bj (ao S 4) (oS aH)))) (dy (wW S 4 rfl rfl (bj (ao S 8) (ni (bR S 1 (I.c (i3 A B)) (aK (ao S 1) (aK (fK S 2 I.e.n2 (aJ (ao S 4))) (aJ aH)))) (fK S 2 I.e.n2 (aJ (ao S 8))))) (fI rfl) rfl rfl rfl rfl)))) (ba (Ao (vs':=[4,5]) (cs':=[4]) (lo':=[]) (gs':=[]) S false 6 .leaf 5 rfl rfl rfl rfl (by kernel_rfl) (by kernel_rfl) (by kernel_rfl) (eX S 0 rfl rfl I.e.n3 (aJ (zf (fK S 2 I.e.n2 (aJ (ao S 4))) aH)) (fI rfl)) (fun Y1 S1 F1=>have I:=F1.i I;wB (ck (bW I.r) (bj (ao S1 4) (ao S1 5)) (bj (ao S1 4) (oS aH)))) (fun Y1 S1 F1=>have I:=F1.i I;(ao S1 5)) (fun _=>rfl)) (ba (b7 S false 7 (bj (ao S 6) (ni (bR S 1 (I.c (i3 A B)) (aK (ao S 1) (aK aH (aJ aH)))) (fK S 2 I.e.n2 (aJ (ao S 6)))))) (bP (gp (aK (sX (ao S 4) (ao S 7)) (aJ (nr (ao S 4) (ao S 7)))))))))))
theorem gU:DefOk P w K mg base 3 "_law_no_world" 2 b3:=mk A.f43 A.g ["world", "cell"] mY ["at", "far", "owners", "marks", "steps", "row", "odd"] ["_law_draw", "len"] [0,1,2,3,4,5,6,7,8] [] [0,1] fun X S I hp=>
 (ba (qC S 4 5 6 rfl rfl rfl rfl rfl rfl (ao S 0) rfl rfl) (ba (b7 S false 2 (ni (bR S 0 (I.c (i3 A B)) (aK (ao S 1) (aK aH (aJ aH)))) (fK S 1 I.e.n2 (aJ (ao S 4))))) (ba (b7 S false 3 (i2 aH (bR S 0 (I.c (i3 A B)) (aK (ao S 1) (aK aH (aJ (Jc aH aH))))))) (ba (cX (ck (bW I.r) (bR S 0 (I.c (i3 A B)) (aK (ao S 1) (aK aH (aJ aH)))) aH) (bP (gp (aK (cY .leaf kT) (aK (cY .leaf kT) (aJ (cY .leaf kT)))))) dw) (ba (cX (ck (bW I.r) (bR S 0 (I.c (i3 A B)) (aK (ao S 1) (aK aH (aJ aH)))) aH) (ba (b7 S false 7 (lb (bj (ao S 6) (ao S 2)) (cY .leaf (aJ (i2 (zf (fK S 1 I.e.n2 (aJ (ao S 4))) aH) (ao S 3)))))) (bP (gp (aK (ao S 4) (aK (ao S 5) (aJ (lb (lb (sX (ao S 6) (ao S 2)) (cY .leaf (aJ (ao S 7)))) (An (ao S 6) (i2 (ao S 2) aH))))))))) dw) (ba (cX (ck (bW I.r) (bR S 0 (I.c (i3 A B)) (aK (ao S 1) (aK aH (aJ aH)))) aH) (bP (gp (aK (ao S 4) (aK (ao S 5) (aJ (lb (lb (sX (ao S 6) (ao S 2)) (cY .leaf (aJ (cY .leaf kT)))) (An (ao S 6) (i2 (ao S 2) aH)))))))) dw) (ba (cX (ck (bW I.r) (bR S 0 (I.c (i3 A B)) (aK (ao S 1) (aK aH (aJ aH)))) aH) (bP (gp (aK (lb (lb (sX (ao S 4) (ao S 2)) (cY .leaf (aJ (bj (cY .leaf (aK (oS aH) (aJ aH))) (ni (ao S 3) aH))))) (An (ao S 4) (i2 (ao S 2) aH))) (aK (ao S 5) (aJ (ao S 6)))))) dw) (ba (cX (ck (bW I.r) (bR S 0 (I.c (i3 A B)) (aK (ao S 1) (aK aH (aJ aH)))) aH) (ba (b7 S false 8 (bj (cY .leaf (aK (cY .leaf (aK cZ (aJ cZ))) (aK (cY .leaf (aK cZ (aJ cZ))) (aK (cY .leaf (aJ cZ)) (aK (cY .leaf (aJ cZ)) (aJ (cY .leaf (aJ cZ)))))))) (ni (ao S 3) aH))) (bP (gp (aK (ao S 4) (aK (lb (lb (sX (ao S 5) (ao S 2)) (cY .leaf (aJ (ao S 8)))) (An (ao S 5) (i2 (ao S 2) aH))) (aJ (ao S 6))))))) dw) (bP (gp (aK (ao S 4) (aK (ao S 5) (aJ (lb (cY .leaf (aJ (cY .leaf (aJ (oS (ao S 3)))))) (An (ao S 6) aH)))))))))))))))
theorem jd:DefOkX P w K mg base 37 "_law_asked" 6 cM:=sP (p:=Gl) A.f44 A.g ["call", "world", "sentence", "room", "place", "way"] Lf [] ["is_way", "room_at", "short", "way_shows", "way_for"] [0,1,2,3,4,5] [] [0,1,2,3,4] fun X W S I th mk=>
 (dy (cX (ck (bW I.r) (ao S 0) aH) (dy (kc (ka S th 0 (I.x (rf A B)) (aK (ao S 1) (aJ (ao S 5)))) rfl)) (dy (cX (ck (bW I.r) (ao S 0) aH) (dy (kc (ka S th 1 (I.x (nP A B)) (aK (ao S 1) (aK (ao S 5) (aJ (ao S 4))))) rfl)) (dy (cX (ck (bW I.r) (ao S 0) aH) (dy (kc (ka S th 2 (I.x (uX A B)) (aK (ao S 1) (aJ (ao S 5)))) rfl)) (dy (cX (ck (bW I.r) (ao S 0) aH) (dy (kc (ka S th 3 (I.x (kv A B)) (aK (ao S 1) (aK (ao S 2) (aJ (ao S 5))))) rfl)) (dy (kc (ka S th 4 (I.x (nO A B)) (aK (ao S 1) (aK (ao S 2) (aJ (ao S 3))))) rfl))))))))))
theorem nX:DefOk P w K mg base 38 "_law_met" 6 dQ:=Lw (p:=Gl) A.f45 A.g ["call", "world", "sentence", "room", "place", "way"] Lf ["told", "e"] ["_law_asked", "HallError", "_law_which"] [0,1,2,3,4,5,6,7] [] [0,1,2] fun X S I st hp=>
 (ba (b7 S false 6 cZ) (ba (Ez S st 7 1 (I.xt A.g.xt) (fun pins W=>have th:=Ju (X:=X) (pins:=pins) (W:=W) ;have S:=S.try;have I:=I.try;(dy (kc (ka S th 0 (I.x (jd A B)) (aK (ao S 0) (aK (ao S 1) (aK (ao S 2) (aK (ao S 3) (aK (ao S 4) (aJ (ao S 5)))))))) rfl))) fun pins a C oe c hc hC hcl hd=>CM S.hand rfl rfl (CY S st.1 st.2 (I.eE (je A B)) I.rm rfl hc hC hcl hd rfl rfl 2 rfl rfl)) (bP (ao S 6))))
end
section
variable {P:Program} {w:World} {K:Fg} {mg:Str->Option Value} (A:Al K mg)
include A
theorem o_law {fa:Addr} (hfa:mg "law"=some (.ref fa)):∃fd:FuncData,(∀(s:Shared) (v:Value),BindsTo s fd ⟨[v],[]⟩ [("script",v)])/\∀base:Heap,K.In base->base.Ns mainGlobals mg->du P w K mg base j8 39 fa fd ["script"] (o8 K 1 m_law):=J7 (p:=Gl) A.f46 A.g "script" sD hfa ["world", "many", "cell", "marks", "far", "way", "sentence", "room", "place", "asks", "call", "some", "bad", "due", "k"] ["_law_world", "len", "_law_cell_at", "range", "_law_draw", "_law_way", "_law_no_world", "_law_met"] [0,1,2,3,4,5,6,7,8,9,10,11,12,13,14] [3,4] [0,1,2,3,4,5,6,7] fun base B X S I st hp=>
 (ba (b7 S false 1 (bR S 0 (I.c (ky A B)) (aK (ao S 0) (aK aH (aJ aH))))) (ba (b7 S false 2 (fK S 1 I.e.n2 (aJ (bj (ao S 1) aH)))) (ba (b7 S false 3 (bR S 2 (I.c (En A B)) (aK (ao S 0) (aJ aH)))) (ba (Jb S false 4 rfl rfl (gC (S.cel 4 _ rfl rfl)) (il [3,15] [3] [4] S 15 (eX S 3 rfl rfl I.e.n3 (aJ aH) (fI rfl)) (fun _ _ _=>jA) (fun Y1 S1 F1=>have I:=F1.i I;(fz (bW I.r) (bR S1 4 (I.c (i3 A B)) (aK (ao S1 3) (aK (ao S1 15) (aJ aH)))) aH)))) (ba (b7 S false 5 (bR S 4 (I.c (i3 A B)) (aK (ao S 3) (aK aH (aJ (Jc aH aH)))))) (ba (b7 S false 6 (bR S 5 (I.c (nW A B)) (aK (ao S 1) (aK (bR S 2 (I.c (En A B)) (aK (ao S 0) (aJ aH))) (aK (bR S 4 (I.c (i3 A B)) (aK (ao S 3) (aK aH (aJ (ao S 2))))) (aJ (bR S 4 (I.c (i3 A B)) (aK (ao S 3) (aK aH (aJ aH)))))))))) (ba (b7 S false 7 (gp (aK cZ (aJ (gp (aJ cZ)))))) (ba (b7 S false 8 aH) (ba (b7 S false 9 (ao S 5)) (ba (cX (iZ (bj (ao S 4) aH) (fun _=>rfl)) (ba (b7 S true 12 (cY .leaf (aK (gp (aJ cZ)) (aK (gp (aK cZ (aJ cZ))) (aK (gp (aJ cZ)) (aK (gp kT) (aK (gp (aJ cZ)) (aJ (gp (aK cZ (aJ (gp (aK cZ (aJ cZ)))))))))))))) (ba (wW S 12 rfl rfl (gp (aK cZ (aJ (gp (aJ cZ))))) (fI rfl) rfl rfl rfl rfl) (lp 12 (dy (b7 S false 7 (bj (ao S 12) (bR S 4 (I.c (i3 A B)) (aK (ao S 3) (aK aH (aJ aH)))))))))) dw) (ba (cX (iZ (bj (ao S 4) aH) (fun _=>rfl)) (ba (b7 S false 8 (bj (cY .leaf (aK (zf (oS aH) (ao S 5)) (aJ (i2 (ao S 2) (ao S 5))))) (bR S 4 (I.c (i3 A B)) (aK (ao S 3) (aK aH (aJ aH)))))) (dy (b7 S false 9 (zf (oS aH) (ao S 5))))) dw) (ba (cX (iZ (bj (ao S 4) aH) (fun _=>rfl)) (ba (b7 S false 13 (cY .leaf (aK (gp (aK (cY .leaf kT) (aJ (cY .leaf kT)))) (aK (gp (aK (cY .leaf (aJ (i2 (ao S 2) (ao S 5)))) (aJ (bj (ao S 6) aH)))) (aK (gp (aK (bj (ao S 6) aH) (aJ (lb (bj (ao S 6) aH) (cY .leaf (aJ (zf (oS aH) (ao S 5)))))))) (aJ (gp (aK (lb (bj (ao S 6) aH) (bj (ao S 6) aH)) (aJ (cY .leaf kT)))))))))) (dy (b7 S false 6 (bj (ao S 13) (bR S 4 (I.c (i3 A B)) (aK (ao S 3) (aK aH (aJ aH)))))))) dw) (ba (cX (iZ (bj (ao S 4) aH) (fun _=>rfl)) (dy (b7 S false 1 (bR S 6 (I.c (gU A B)) (aK (ao S 1) (aJ (bR S 2 (I.c (En A B)) (aK (ao S 0) (aJ aH)))))))) dw) (ba (b7 S false 10 (cY .leaf (aK (cY .leaf (aJ aH)) (aK (cY .leaf (aK aH (aK aH (aJ aH)))) (aK (cY .leaf (aK aH (aJ aH))) (aK (cY .leaf (aK aH (aK aH (aJ aH)))) (aJ (cY .leaf (aK aH (aK aH (aJ aH))))))))))) (ba (ze S 11 rfl rfl hp (eX S 3 rfl rfl I.e.n3 (aJ aH) (fI rfl)) (ba (b7 S false 14 (lb (il [4,15] [4] [] S 15 (iY (bj (ao S 10) (ao S 11))) (fun Y2 S2 F2=>wB (iZ (bj (ao S2 4) (ao S2 15)) (fun _=>rfl))) (fun Y2 S2 F2=>(bj (cY .leaf (aK cZ (aK cZ (aK cZ (aJ cZ))))) (ao S2 15)))) (cY .leaf (aJ cZ)))) (dy (cX (ck (uG I.r) (bR S 7 (I.c (nX A B)) (aK (ao S 11) (aK (ao S 1) (aK (ao S 7) (aK (ao S 8) (aK (ao S 9) (aJ (ao S 6)))))))) (bj (ao S 14) aH)) (bP wz) dw))) (fun _=>rfl)) (bP wz))))))))))))))))
end
end KQ.M
open PySem PySem.W PyProof.Rows
def PySem.W.Fast.tw1828232730579328868:=0
def PySem.W.Fast.tw9580211301979851301:=0
def PySem.W.Fast.tw434498112577675270:=0
def PySem.W.Fast.tw3618145647537155879:=0
def PySem.W.Fast.tw15928921051281961768:=0
def PySem.W.Fast.tw1551857339857525929:=0
def PySem.W.Fast.tw9244449905296558857:=0
def PySem.W.Fast.tw1061638458310242570:=0
def PySem.W.Fast.tw14075641722111718858:=0
def PySem.W.Fast.tw4730980166475049482:=0
def PySem.W.Fast.tw108037425520623915:=0
def PySem.W.Fast.tw11061070126054158315:=0
def PySem.W.Fast.tw16319978034705613964:=0
def PySem.W.Fast.tw1621539320376251598:=0
def PySem.W.Fast.tw9884695252581607632:=0
def PySem.W.Fast.tw9128385065375889075:=0
def PySem.W.Fast.tw16884057751265978804:=0
def PySem.W.Fast.tw14350256911049326037:=0
def PySem.W.Fast.tw7684303292861729591:=0
def PySem.W.Fast.tw5905339300680547801:=0
set_option maxRecDepth 100000 in
set_option maxHeartbeats 0 in
theorem PySem.Challenge.cw_foreseehall_k38_ways_refused_holds : PySem.Challenge.rw_foreseehall_k38_ways_refused.Holds := by
 w_on;o_law;k_head;(case hw=>w_witness2)
 k_fill
 refine T.walkG (j:=39) (l:=PySem.Challenge.rw_foreseehall_k38_ways_refused) KQ.M.law_true ⟨rfl,by decide,by decide,rfl⟩ rfl rfl (fun w h Y=>PySem.W.kIn_of Y) ?F
 case F=>
  intro w mg fa h KX G hmg;refine' KQ.M.o_law (.mk (.mk (T.gn KX G ?z0) (T.gn KX G ?z1) (T.gn KX G ?z2) (T.gn KX G ?z3) (T.gn KX G ?z4) (T.gn KX G ?z5) (T.gn KX G ?z6) (T.gn KX G ?z7) (T.gn KX G ?z8) (T.gn KX G ?z9) (T.gt KX G ?e0 ?q0 ?v0) (T.gi KX G ?e1) (T.gt KX G ?e2 ?q2 ?v2) (T.gi KX G ?e3) (T.gi KX G ?e4) (T.gt KX G ?e5 ?q5 ?v5) (T.gt KX G ?e6 ?q6 ?v6) (T.gt KX G ?e7 ?q7 ?v7) (T.gt KX G ?e8 ?q8 ?v8) (T.gt KX G ?e9 ?q9 ?v9) (T.gd KX G ?x0 ?y0 ?w0) (T.gx KX G ?xt)) (T.ft KX G ?a0 ?l0 ?c0 ?k0) (T.ft KX G ?a1 ?l1 ?c1 ?k1) (T.ft KX G ?a2 ?l2 ?c2 ?k2) (T.ft KX G ?a3 ?l3 ?c3 ?k3) (T.ft KX G ?a4 ?l4 ?c4 ?k4) (T.ft KX G ?a5 ?l5 ?c5 ?k5) (T.ft KX G ?a6 ?l6 ?c6 ?k6) (T.ft KX G ?a7 ?l7 ?c7 ?k7) (T.ft KX G ?a8 ?l8 ?c8 ?k8) (T.ft KX G ?a9 ?l9 ?c9 ?k9) (T.ft KX G ?a10 ?l10 ?c10 ?k10) (T.ft KX G ?a11 ?l11 ?c11 ?k11) (T.ft KX G ?a12 ?l12 ?c12 ?k12) (T.ft KX G ?a13 ?l13 ?c13 ?k13) (T.ft KX G ?a14 ?l14 ?c14 ?k14) (T.ft KX G ?a15 ?l15 ?c15 ?k15) (T.ft KX G ?a16 ?l16 ?c16 ?k16) (T.ft KX G ?a17 ?l17 ?c17 ?k17) (T.ft KX G ?a18 ?l18 ?c18 ?k18) (T.ft KX G ?a19 ?l19 ?c19 ?k19) (T.ft KX G ?a20 ?l20 ?c20 ?k20) (T.ft KX G ?a21 ?l21 ?c21 ?k21) (T.ft KX G ?a22 ?l22 ?c22 ?k22) (T.ft KX G ?a23 ?l23 ?c23 ?k23) (T.ft KX G ?a24 ?l24 ?c24 ?k24) (T.ft KX G ?a25 ?l25 ?c25 ?k25) (T.ft KX G ?a26 ?l26 ?c26 ?k26) (T.ft KX G ?a27 ?l27 ?c27 ?k27) (T.ft KX G ?a28 ?l28 ?c28 ?k28) (T.ft KX G ?a29 ?l29 ?c29 ?k29) (T.ft KX G ?a30 ?l30 ?c30 ?k30) (T.ft KX G ?a31 ?l31 ?c31 ?k31) (T.ft KX G ?a32 ?l32 ?c32 ?k32) (T.ft KX G ?a33 ?l33 ?c33 ?k33) (T.ft KX G ?a34 ?l34 ?c34 ?k34) (T.ft KX G ?a35 ?l35 ?c35 ?k35) (T.ft KX G ?a36 ?l36 ?c36 ?k36) (T.ft KX G ?a37 ?l37 ?c37 ?k37) (T.ft KX G ?a38 ?l38 ?c38 ?k38) (T.ft KX G ?a39 ?l39 ?c39 ?k39) (T.ft KX G ?a40 ?l40 ?c40 ?k40) (T.ft KX G ?a41 ?l41 ?c41 ?k41) (T.ft KX G ?a42 ?l42 ?c42 ?k42) (T.ft KX G ?a43 ?l43 ?c43 ?k43) (T.ft KX G ?a44 ?l44 ?c44 ?k44) (T.ft KX G ?a45 ?l45 ?c45 ?k45) (T.ft KX G ?a46 ?l46 ?c46 ?k46) (T.ft KX G ?a47 ?l47 ?c47 ?k47)) hmg
  case a0|l0|c0|k0|a1|l1|c1|k1|a2|l2|c2|k2|a3|l3|c3|k3|a4|l4|c4|k4|a5|l5|c5|k5|a6|l6|c6|k6|a7|l7|c7|k7|a8|l8|c8|k8|a9|l9|c9|k9|a10|l10|c10|k10|a11|l11|c11|k11|a12|l12|c12|k12|a13|l13|c13|k13|a14|l14|c14|k14|a15|l15|c15|k15|a16|l16|c16|k16|a17|l17|c17|k17|a18|l18|c18|k18|a19|l19|c19|k19|a20|l20|c20|k20|a21|l21|c21|k21|a22|l22|c22|k22|a23|l23|c23|k23|a24|l24|c24|k24|a25|l25|c25|k25|a26|l26|c26|k26|a27|l27|c27|k27|a28|l28|c28|k28|a29|l29|c29|k29|a30|l30|c30|k30|a31|l31|c31|k31|a32|l32|c32|k32|a33|l33|c33|k33|a34|l34|c34|k34|a35|l35|c35|k35|a36|l36|c36|k36|a37|l37|c37|k37|a38|l38|c38|k38|a39|l39|c39|k39|a40|l40|c40|k40|a41|l41|c41|k41|a42|l42|c42|k42|a43|l43|c43|k43|a44|l44|c44|k44|a45|l45|c45|k45|a46|l46|c46|k46|a47|l47|c47|k47|z0|z1|z2|z3|z4|z5|z6|z7|z8|z9|e0|q0=>k_is
  case v0=>kernel_rfl
  case e1|e2|q2=>k_is
  case v2=>kernel_rfl
  case e3|e4|e5|q5=>k_is
  case v5=>kernel_rfl
  case e6|q6=>k_is
  case v6=>kernel_rfl
  case e7|q7=>k_is
  case v7=>kernel_rfl
  case e8|q8=>k_is
  case v8=>kernel_rfl
  case e9|q9=>k_is
  case v9=>kernel_rfl
  case x0|y0=>k_is
  case w0|xt=>kernel_rfl
