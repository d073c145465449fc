import PyProof.Rows.All
import Wide.All
import OpenK.AllK
import Wide.FinOn
import PyProof.EqAt
import PyProof.EqKinds
import PyProof.TupleCall
import PyProof.StrBlockH
import PyProof.StrWalks
import PyProof.StrCalls
import PyProof.SetRoads
import PyProof.DictRoadsH
import Lean
import PySem.Challenge.RW_foreseehall_k71_again_judged
open List (mem_append_right mem_append_left getElem?_eq_getElem length_set append_assoc mem_cons_of_mem length_map mem_cons_self getD_eq_getElem?_getD getElem?_map getElem?_set_ne mem_of_getElem? map_map getElem?_set_self map_cons size_toArray flatten_cons set_set getElem?_append_left lookup_cons getElem?_append_right nodup_nil length_cons all_eq_true length_filter_le mem_cons not_mem_nil append_nil length_append getElem_mem perm_append_comm nil_append any_eq_true length_singleton getElem?_set getElem_of_mem exists_mem_of_ne_nil map_set getElem?_replicate getElem?_eq_none all_map contains_iff_mem foldl_cons length_take ext_getElem? mem_range mem_map filter_cons map_dropLast)
set_option Elab.async false
set_option linter.all false
set_option maxRecDepth 100000
set_option maxHeartbeats 4000000
set_option maxRecDepth 10000
abbrev Fg:=PySem.W.Frag
namespace L2
open PySem PySem.Spec PyProof.Rows
abbrev lz:=Sum Int Str
def xq:lz->Value->Bool
 | .inl k,v=>Value.isInt k v
 | .inr x,v=>Value.isStrOf x v
def FQ (w:World):lz->Int
 | .inl k=>hashInt k
 | .inr x=>hashStr w x
theorem um:∀{k:lz} {v:Value},xq k v=true->(∃i t,k=Sum.inl i/\v=Value.int i t)\/(∃x t,k=Sum.inr x/\v=Value.str x t)
 | .inl i,v,h=>by
  obtain ⟨t,e⟩:=Value.isInt_shape (k:=i) (v:=v) h
  exact .inl ⟨i,t,rfl,e⟩
 | .inr x,v,h=>by
  obtain ⟨t,e⟩:=Value.isStrOf_shape (x:=x) (v:=v) h
  exact .inr ⟨x,t,rfl,e⟩
theorem zq (a b:Int):decide ((Sum.inl a:lz)=Sum.inl b)=(a==b):=by
 by_cases e:a=b
 ·subst e;simp
 ·have h:¬(Sum.inl a:lz)=Sum.inl b:=fun q=>e (Sum.inl.inj q)
  rw [decide_eq_false h];exact (beq_eq_false_iff_ne.mpr e).symm
theorem zm (a b:Str):decide ((Sum.inr a:lz)=Sum.inr b)=decide (a=b):=by
 by_cases e:a=b
 ·subst e;simp
 ·have h:¬(Sum.inr a:lz)=Sum.inr b:=fun q=>e (Sum.inr.inj q)
  rw [decide_eq_false h,decide_eq_false e]
theorem zp (a:Int) (b:Str):decide ((Sum.inl a:lz)=Sum.inr b)=false:=decide_eq_false (fun q=>nomatch q)
theorem zo (a:Str) (b:Int):decide ((Sum.inr a:lz)=Sum.inl b)=false:=decide_eq_false (fun q=>nomatch q)
def D7 (prog:Program) (w:World):PySem.KeyKind prog w lz where
 is:=xq
 hash:=FQ w
 inj:=fun v a b ha hb=>by
  rcases um ha with ⟨i,t,rfl,rfl⟩ | ⟨x,t,rfl,rfl⟩
  ·rcases um hb with ⟨j,u,rfl,e⟩ | ⟨y,u,rfl,e⟩
   ·injection e with e1 _;rw [e1]
   ·exact nomatch e
  ·rcases um hb with ⟨j,u,rfl,e⟩ | ⟨y,u,rfl,e⟩
   ·exact nomatch e
   ·injection e with e1 _;rw [e1]
 byValue:=fun k v h=>by
  rcases um h with ⟨i,t,rfl,rfl⟩ | ⟨x,t,rfl,rfl⟩<;>rfl
 pyHash:=fun hv h=>by
  rcases um hv with ⟨i,t,rfl,rfl⟩ | ⟨x,t,rfl,rfl⟩
  ·exact wpAny_pyHash_int h
  ·exact wpAny_pyHash_str h
 eqBool:=fun hu hv h=>by
  rcases um hu with ⟨i,t,rfl,rfl⟩ | ⟨x,t,rfl,rfl⟩
  ·rcases um hv with ⟨j,u,rfl,rfl⟩ | ⟨y,u,rfl,rfl⟩
   ·rw [zq] at h;exact wpAny_eqBool_int h
   ·rw [zp] at h;exact SeqAt.EqAt.int_str i t y u _ _ _ _ h
  ·rcases um hv with ⟨j,u,rfl,rfl⟩ | ⟨y,u,rfl,rfl⟩
   ·rw [zo] at h;exact SeqAt.EqAt.str_int x t j u _ _ _ _ h
   ·rw [zm] at h;exact wpAny_eqBool_str h
 «strs»:=fun k x t v h=>by
  rcases um h with ⟨i,u,rfl,e⟩ | ⟨y,u,rfl,e⟩
  ·exact nomatch e
  ·injection e with e1 _
   subst e1
   cases v<;>rfl
inductive V where
 | non | bl (b:Bool) | int (i:Int) | str (x:Str) | byt (b:Array UInt8) | flt (b:UInt64) | ref (a:Addr) | ty (n:String)
 deriving DecidableEq
def RelV:V->Value->Prop
 | .non,u=>u=Value.none
 | .bl b,u=>u=Value.bool b
 | .int i,u=>∃t,u=Value.int i t
 | .str x,u=>∃t,u=Value.str x t
 | .byt b,u=>∃t,u=Value.bytes b t
 | .flt b,u=>∃t,u=Value.float b t
 | .ref a,u=>u=Value.ref a
 | .ty n,u=>u=Value.type n
abbrev Vals:List V->List Value->Prop:=Paired RelV
theorem Vals.length {xs:List V} {us:List Value} (r:Vals xs us):xs.length=us.length:=Paired.length r
theorem Vals.get:∀{xs:List V} {us:List Value} {i:Nat} {x:V},Vals xs us->xs[i]?=some x->∃u,us[i]?=some u/\RelV x u
 | _,_,_,_,.nil,e=>by simp at e
 | _,_,0,_,.cons r _,e=>by simp at e;subst e;exact ⟨_,rfl,r⟩
 | _,_,i+1,x,.cons _ t,e=>by
  obtain ⟨u,h1,h2⟩:=Vals.get (i:=i) (x:=x) t (by simpa using e)
  exact ⟨u,by simpa using h1,h2⟩
theorem Vals.set {x:V} {u:Value} (r:RelV x u):∀{xs:List V} {us:List Value} (i:Nat),Vals xs us->Vals (xs.set i x) (us.set i u)
 | _,_,_,.nil=>.nil
 | _,_,0,.cons _ t=>.cons r t
 | _,_,i+1,.cons q t=>.cons q (Vals.set r i t)
theorem Vals.append:∀{xs ys:List V} {us ws:List Value},Vals xs us->Vals ys ws->Vals (xs++ys) (us++ws)
 | _,_,_,_,.nil,s=>s
 | _,_,_,_,.cons r t,s=>.cons r (Vals.append t s)
def Ad:Option V->Option Value->Prop
 | some v,some u=>RelV v u
 | none,none=>True
 | _,_=>False
def KV {κ:Type}:List (κ×V)->List (κ×Value)->Prop:=Paired fun (p:κ×V) (q:κ×Value)=>p.1=q.1/\RelV p.2 q.2
def kV:lz->V
 | .inl i=>.int i
 | .inr x=>.str x
inductive HO where
 | lst (xs:List V)
 | tup (xs:List V)
 | dK (kvs:List (lz×V)) | dT (kvs:List (List lz×V))
 | set (S:Int->Bool) (n:Nat)
 | ins (C dx:Addr) (fs:List (Str×V))
 | own (x:Addr)
 | xd (fs:List (Str×V))
 | met (f x:Addr)
 | rng (lo hi:Int)
 | frz (o:Obj) (u:HO)
 | tbl (ps:Array Value)
 | ext (φ:Heap->Prop)
abbrev Hp:=Addr->Option HO
def cF (H:Hp) (a:Addr) (o:HO):Hp:=fun b=>if b=a then some o else H b
theorem iY {H:Hp} {a:Addr} {o:HO}:cF H a o a=some o:=by unfold cF;rw [if_pos rfl]
theorem eV {H:Hp} {a b:Addr} {o:HO} (h:b≠a):cF H a o b=H b:=by unfold cF;rw [if_neg h]
theorem rq {H:Hp} {a b:Addr} {o:HO} (h:H a=some o) (h':H b=none):a≠b:=by
 intro e;subst e;rw [h] at h';cases h'
section
variable (P:Program) (w:World)
def ObjOk (H:Hp) (h:Heap) (a:Addr):HO->Prop
 | .lst xs=>xs.length<=sizeLine/\∃(its:List Value) (n:Nat),Vals xs its/\h.get? a=some { cls:=.type "list",data:=.seq its.toArray n }
 | .tup xs=>xs.length<=sizeLine/\∃its:List Value,Vals xs its/\IsTup h a its.toArray
 | .dK kvs=>kvs.length<=sizeLine/\(a==sysModules)=false/\∃vs,KV kvs vs/\h.DictOf (D7 P w) a vs
 | .dT kvs=>kvs.length<=sizeLine/\(a==sysModules)=false/\∃xs:List (List lz×Addr×Value),
   Paired (fun (p:List lz×V) (q:List lz×Addr×Value)=>p.1=q.1/\H q.2.1=some (.tup (p.1.map kV))/\RelV p.2 q.2.2) kvs xs /\
   ∃o es ep,h.get? a=some o/\o.ExactDict/\o.data=.dict es ep/\es.toList=xs.map (entryOfKey (tupleKind (D7 P w)))/\(xs.map (·.1)).Nodup
 | .set S n=>h.SetOf (intKind P w) a S n
 | .ins C dx fs=>H dx=some (.own a)/\fs.length<=1000/\dx≠a/\h.get? a=some (PySem.W.instObj C dx) /\
   ∃mA,h.Ns1 dx mA/\(∀f,Ad (fs.lookup f) (mA f))/\PySem.Within mA (fs.map (·.1))
 | .own _=>∃o,h.get? a=some o
 | .xd fs=>∃mA,h.Ns1 a mA/\∀f,Ad (fs.lookup f) (mA f)
 | .rng lo hi=>∃t u v,h.get? a=some { cls:=.type "range",data:=.fields #[.int lo t,.int hi u,.int 1 v] }
 | .frz o u=>h.get? a=some o/\ObjOk H h a u
 | .tbl ps=>h.get? a=some { cls:=.none,data:=.fields ps }
 | .met f x=>h.get? a=some (PySem.W.methodObj (.ref f) (.ref x))
 | .ext φ=>φ h/\(∃o,h.get? a=some o)/\∀h1 h2:Heap,φ h1->(∀o,h1.get? a=some o->h2.get? a=some o)->φ h2
def HOk (H:Hp) (h:Heap):Prop:=∀a o,H a=some o->ObjOk P w H h a o
end
section
variable {P:Program} {w:World} {H H':Hp} {h h':Heap} {a:Addr} {o:HO}
theorem ObjOk.lt (x:ObjOk P w H h a o):a<h.objs.size:=by
 cases o with
 | lst xs=>obtain ⟨_,_,_,_,e⟩:=x;exact Heap.lt_size e
 | tup xs=>obtain ⟨_,_,_,p⟩:=x;exact p.lt
 | dK kvs=>obtain ⟨_,_,_,_,o,_,_,e,_⟩:=x;exact Heap.lt_size e
 | dT kvs=>obtain ⟨_,_,_,_,o,_,_,e,_⟩:=x;exact Heap.lt_size e
 | set S n=>obtain ⟨o,_,_,_,e,_⟩:=x;exact Heap.lt_size e
 | ins C dx fs=>obtain ⟨_,_,_,e,_⟩:=x;exact Heap.lt_size e
 | own y=>obtain ⟨_,e⟩:=x;exact Heap.lt_size e
 | xd fs=>obtain ⟨_,⟨_,_,_,e,_⟩,_⟩:=x;exact Heap.lt_size e
 | rng lo hi=>obtain ⟨_,_,_,e⟩:=x;exact Heap.lt_size e
 | frz ob u=>obtain ⟨e,_⟩:=x;exact Heap.lt_size e
 | tbl ps=>exact Heap.lt_size (show h.get? a=some _ from x)
 | met f y=>exact Heap.lt_size (show h.get? a=some _ from x)
 | ext φ=>obtain ⟨_,⟨_,e⟩,_⟩:=x;exact Heap.lt_size e
theorem Paired.mapP {α β:Type} {F G:α->β->Prop}:∀{l₁:List α} {l₂:List β},Paired F l₁ l₂->(∀a b,F a b->G a b)->Paired G l₁ l₂
 | _,_,.nil,_=>.nil
 | _,_,.cons r t,f=>.cons (f _ _ r) (Paired.mapP t f)
theorem ObjOk.stay (x:ObjOk P w H h a o) (k:∀b u,(b=a\/H b=some (.own a))->h.get? b=some u->h'.get? b=some u)
  (ho:∀b,H b=some (.own a)->H' b=some (.own a)) (ht:∀b xs,H b=some (.tup xs)->H' b=some (.tup xs)):ObjOk P w H' h' a o:=by
 induction o with
 | lst xs=>obtain ⟨z,its,n,r,e⟩:=x;exact ⟨z,its,n,r,k _ _ (.inl rfl) e⟩
 | tup xs=>obtain ⟨z,its,r,ob,e,c⟩:=x;exact ⟨z,its,r,ob,k _ _ (.inl rfl) e,c⟩
 | dK kvs=>obtain ⟨z,y,vs,r,ob,es,ep,e,c⟩:=x;exact ⟨z,y,vs,r,ob,es,ep,k _ _ (.inl rfl) e,c⟩
 | dT kvs=>
  obtain ⟨z,y,xs,r,ob,es,ep,e,c⟩:=x;exact ⟨z,y,xs,Paired.mapP r fun p q z=>⟨z.1,ht _ _ z.2.1,z.2.2⟩,ob,es,ep,k _ _ (.inl rfl) e,c⟩
 | set S n=>obtain ⟨ob,es,ep,t,e,c⟩:=x;exact ⟨ob,es,ep,t,k _ _ (.inl rfl) e,c⟩
 | ins C dx fs=>
  obtain ⟨d,z,ne,e,mA,⟨od,es,ep,e2,c⟩,r⟩:=x;exact ⟨ho _ d,z,ne,k _ _ (.inl rfl) e,mA,⟨od,es,ep,k _ _ (.inr d) e2,c⟩,r⟩
 | own y=>obtain ⟨ob,e⟩:=x;exact ⟨ob,k _ _ (.inl rfl) e⟩
 | xd fs=>obtain ⟨mA,⟨od,es,ep,e,c⟩,r⟩:=x;exact ⟨mA,⟨od,es,ep,k _ _ (.inl rfl) e,c⟩,r⟩
 | rng lo hi=>obtain ⟨t,u,v,e⟩:=x;exact ⟨t,u,v,k _ _ (.inl rfl) e⟩
 | frz ob u ih=>obtain ⟨e,q⟩:=x;exact ⟨k _ _ (.inl rfl) e,ih q⟩
 | tbl ps=>
  have e:h.get? a=some { cls:=.none,data:=.fields ps }:=x
  show h'.get? a=some { cls:=.none,data:=.fields ps }
  exact k a _ (.inl rfl) e
 | met f y=>
  have e:h.get? a=some (PySem.W.methodObj (.ref f) (.ref y)):=x
  show h'.get? a=some (PySem.W.methodObj (.ref f) (.ref y))
  exact k a _ (.inl rfl) e
 | ext φ=>obtain ⟨p,⟨o,e⟩,st⟩:=x;exact ⟨st _ _ p fun o q=>k _ _ (.inl rfl) q,⟨o,k _ _ (.inl rfl) e⟩,st⟩
theorem HOk.lt (x:HOk P w H h) (e:H a=some o):a<h.objs.size:=(x a o e).lt
theorem HOk.fresh (x:HOk P w H h) (e:h.objs.size<=a):H a=none:=by
 cases q:H a with
 | none=>rfl
 | some u=>exact absurd (Nat.lt_of_lt_of_le (x.lt q) e) (Nat.lt_irrefl _)
theorem HOk.kept (x:HOk P w H h) (k:∀b u,h.get? b=some u->h'.get? b=some u):HOk P w H h':=fun a o e=>
 (x a o e).stay (fun b u _ q=>k b u q) (fun _ q=>q) fun _ _ q=>q
theorem HOk.laid (x:HOk P w H h) (k:∀b u,h.get? b=some u->h'.get? b=some u) (hp:h.objs.size<=a) (new:ObjOk P w (cF H a o) h' a o):HOk P w (cF H a o) h':=fun b u e=>by
 have hn:=x.fresh hp
 by_cases hb:b=a
 ·subst hb;rw [iY] at e;cases e;exact new
 ·rw [eV hb] at e
  exact (x b u e).stay (fun c v _ q=>k c v q) (fun c q=>by rw [eV (rq q hn)];exact q) fun c xs q=>by rw [eV (rq q hn)];exact q
end
def Rd (H:Hp) (a:Addr) (u:HO):Prop:=H a=some u\/∃o,H a=some (.frz o u)
theorem Rd.ok {P:Program} {w:World} {H:Hp} {h:Heap} {a:Addr} {u:HO} (r:Rd H a u) (x:HOk P w H h):ObjOk P w H h a u:=by
 rcases r with r | ⟨o,r⟩
 ·exact x a u r
 ·obtain ⟨_,q⟩:=x a _ r
  exact q
def Dq:Option HO->Prop
 | some (.lst _)=>True
 | some (.dK _)=>True
 | some (.dT _)=>True
 | some (.set _ _)=>True
 | some (.ins _ _ _)=>True
 | some (.ext _)=>True
 | _=>False
section
variable {P:Program} {w:World} {H:Hp} {h h':Heap} {x e:Addr} {o':HO}
theorem HOk.write (ok:HOk P w H h) (mu:Dq (H x)) (he:e=x\/H e=some (.own x)) (k:∀b u,b≠e->h.get? b=some u->h'.get? b=some u) (heo:∃u,h'.get? e=some u)
  (new:ObjOk P w (cF H x o') h' x o'):HOk P w (cF H x o') h':=fun b u q=>by
 have nown:∀c y,H c=some (.own y)->c≠x:=fun c y r z=>by subst z;rw [r] at mu;exact mu
 have ntup:∀c xs,H c=some (.tup xs)->c≠x:=fun c xs r z=>by subst z;rw [r] at mu;exact mu
 by_cases hb:b=x
 ·subst hb;rw [iY] at q;cases q;exact new
 ·rw [eV hb] at q
  by_cases hbe:b=e
  ·have q':H b=some (.own x):=by
    rcases he with z | z
    ·exact absurd (hbe.trans z) hb
    ·rw [hbe];exact z
   rw [q] at q';cases q'
   obtain ⟨v,hv⟩:=heo;exact ⟨v,by rw [hbe];exact hv⟩
  ·refine (ok b u q).stay (fun c v hc r=>k c v ?_ r) (fun c r=>by rw [eV (nown c b r)];exact r) fun c xs r=>by rw [eV (ntup c xs r)];exact r
   rcases hc with rfl | hc
   ·exact hbe
   ·rintro rfl
    rcases he with z | z
    ·exact nown c b hc z
    ·rw [hc] at z;cases z;exact hb rfl
end
structure Un (fs ex:List Addr) (H H':Hp) (h h':Heap):Prop where
 keep:∀b o,h.get? b=some o->H b=none->b∉fs->b∉ex->h'.get? b=some o
 slot:∀b o,h.get? b=some o->H b=none->b∈fs->b∉ex->∃sl,h'.get? b=some { o with slots:=sl }
 free:∀b o,h.get? b=some o->H b=none->b∉ex->H' b=none
 there:∀b o,h.get? b=some o->b∉ex->∃o',h'.get? b=some o'
 tups:∀b xs,H b=some (.tup xs)->H' b=some (.tup xs)
 frzs:∀b o u,H b=some (.frz o u)->H' b=some (.frz o u)
 tbls:∀b ps,H b=some (.tbl ps)->∃more,H' b=some (.tbl (ps++more))
section
variable {fs fs' ex ex':List Addr} {H H1 H2:Hp} {h h1 h2 h':Heap} {a x e:Addr} {o:HO}
theorem Un.any (u:Un fs ex H H1 h h1) {b:Addr} {ob:Obj} (q:h.get? b=some ob) (n:H b=none) (hx:b∉ex):∃sl,h1.get? b=some { ob with slots:=sl }:=by
 by_cases hb:b∈fs
 ·exact u.slot b ob q n hb hx
 ·exact ⟨ob.slots,u.keep b ob q n hb hx⟩
theorem Un.kept (k:∀b u,h.get? b=some u->h'.get? b=some u):Un fs ex H H h h':=
 ⟨fun b ob q _ _ _=>k b ob q,fun b ob q _ _ _=>⟨ob.slots,k b ob q⟩,fun _ _ _ n _=>n,fun b ob q _=>⟨ob,k b ob q⟩,fun _ _ q=>q,fun _ _ _ q=>q,fun _ ps q=>⟨#[],by rw [q];simp⟩⟩
theorem Un.refl:Un fs ex H H h h:=Un.kept fun _ _ q=>q
theorem Un.laid (k:∀b u,h.get? b=some u->h'.get? b=some u) (hp:h.objs.size<=a) (hn:H a=none):Un fs ex H (cF H a o) h h' where
 keep:=fun b u q _ _ _=>k b u q
 slot:=fun b u q _ _ _=>⟨u.slots,k b u q⟩
 free:=fun b u q n _=>by rw [eV (Nat.ne_of_lt (Nat.lt_of_lt_of_le (Heap.lt_size q) hp))];exact n
 there:=fun b u q _=>⟨u,k b u q⟩
 tups:=fun b xs q=>by rw [eV (rq q hn)];exact q
 frzs:=fun b u xs q=>by rw [eV (rq q hn)];exact q
 tbls:=fun b ps q=>⟨#[],by rw [eV (rq q hn),q];simp⟩
theorem Un.write (mu:Dq (H x)) (he:e=x\/H e=some (.own x)) (k:∀b u,b≠e->h.get? b=some u->h'.get? b=some u) (heo:∃u,h'.get? e=some u):Un fs ex H (cF H x o) h h':=by
 have hx:∀b,H b=none->b≠x:=fun b n z=>by subst z;rw [n] at mu;exact mu
 have hb:∀b,H b=none->b≠e:=fun b n z=>by
  subst z;rcases he with r | r
  ·exact hx b n r
  ·rw [n] at r;cases r
 have hm:∀b u,H b=some u->¬Dq (some u)->b≠x:=fun b u q nm z=>by subst z;rw [q] at mu;exact nm mu
 refine ⟨fun b u q n _ _=>k b u (hb b n) q,fun b u q n _ _=>⟨u.slots,k b u (hb b n) q⟩,fun b u q n _=>by rw [eV (hx b n)];exact n,fun b u q _=>?_,
  fun b xs q=>by rw [eV (hm b _ q fun z=>z)];exact q,fun b u xs q=>by rw [eV (hm b _ q fun z=>z)];exact q,fun b ps q=>⟨#[],by rw [eV (hm b _ q fun z=>z),q];simp⟩⟩
 by_cases hbe:b=e
 ·subst hbe;exact heo
 ·exact ⟨u,k b u hbe q⟩
end
def C0 (h:Heap) (H:Hp):List Addr:=(List.range h.objs.size).filter fun a=>(H a).isSome
def kM (h:Heap) (H:Hp):Heap:=PySem.W.hideAll h (C0 h H)
theorem ql (h:Heap) (H:Hp):(kM h H).objs.size=h.objs.size:=PySem.W.hideAll_size _ _
theorem tf {h:Heap} {H:Hp} {b:Addr} {o:Obj} (e:h.get? b=some o) (n:H b=none):(kM h H).get? b=some o:=
 PySem.W.hideAll_get _ e fun hm=>by
  have q:(H b).isSome=true:=(List.mem_filter.mp hm).2
  rw [n] at q;simp at q
theorem vl {h:Heap} {H:Hp} {b:Addr} {o:Obj} (e:(kM h H).get? b=some o):h.get? b=some o/\H b=none:=by
 have e':h.get? b=some o:=PySem.W.of_hideAll (C0 h H) e
 refine ⟨e',?_⟩
 cases q:H b with
 | none=>rfl
 | some x=>
  have hm:b∈C0 h H:=List.mem_filter.mpr ⟨List.mem_range.mpr (Heap.lt_size e'),by simp [q]⟩
  have z:(kM h H).get? b=none:=PySem.W.hideAll_none (C0 h H) hm
  rw [z] at e;cases e
def we (g h:Heap) (L:Addr):List (Addr×Obj):=(List.range h.objs.size).filterMap fun a=>if a=L\/(g.get? a).isSome=true then none else (h.get? a).map fun o=>(a,o)
def cg (g h:Heap) (L d:Addr):List (Addr×Obj):=(we g h L).filter fun p=>decide (p.1≠d)
structure Mod (K:Fg) (mg:Str->Option Value) (base:Heap):Prop where
 kin:K.In base
 glob:base.Ns mainGlobals mg
 blt:∃mb,base.Ns builtinsNs mb/\∀x:Str,x ≠ "__name__"->mb x=bootBuiltins x
 nolimit:base.NoLimit
structure Cx where
 prog:Program
 w:World
 K:Fg
 mg:Str->Option Value
 base:Heap
 A:Around
 N:List Str
 s₀:Shared
 H₀:Hp
 env:Env
 outer:List Env
 stack:List Env
 ex:List Addr
 fn:Str->Bool
 calm:Bool
 pn:List (Addr×Obj)
 xe:Value->Shared->Prop
def tw (l:List Env):List Addr:=l.filterMap (·.frame)
abbrev Cx.fs (X:Cx):List Addr:=tw X.outer
def Aa (sc:Scope) (x:Str):Prop:=sc.names.lookup x=some .local\/sc.names.lookup x=some .cell\/sc.names.lookup x=some .free
def Loc (sc:Scope) (x:Str):Prop:=sc.names.lookup x=some .local\/sc.names.lookup x=some .cell
def Look (env:Env) (h:Heap) (m:Str->Option Value) (x:Str) (u:Value):Prop:=
 (env.kindOf x=some .local/\m x=some u)\/((env.kindOf x=some .cell\/env.kindOf x=some .free)/\∃c,env.cells.lookup x=some c/\h.IsCell c (some u))
structure Cx.Ok (X:Cx):Prop where
 mod:Mod X.K X.mg X.base
 kind:X.env.scope.kind=.function
 glob:X.env.globals=mainGlobals
 blt:X.env.builtins=builtinsNs
 above:X.s₀.heap.objs.size<=X.env.locals
 inj:∀x y c,X.env.cells.lookup x=some c->X.env.cells.lookup y=some c->x=y
 has:∀x,(X.env.kindOf x=some .cell\/X.env.kindOf x=some .free)->∃c,X.env.cells.lookup x=some c
 cab:∀x c,X.fn x=true->X.env.cells.lookup x=some c->X.s₀.heap.objs.size<=c
 hd:X.calm=true->X.A.handled=none
 frames:X.A.frames=some X.stack
 stk:X.stack=X.outer\/(X.stack=X.env::X.outer/\X.env.frame=some X.env.locals)
 exf:∀b∈X.ex,b≠X.env.locals/\∀x c,X.env.cells.lookup x=some c->c≠b
 bs:∀b o,X.base.get? b=some o->X.s₀.heap.get? b=some o/\X.H₀ b=none
 bsz:X.base.objs.size<=X.s₀.heap.objs.size
 noex:∀b o,X.base.get? b=some o->b∉X.ex
 exfs:∀b∈X.ex,b∉X.fs
 funs:X.s₀.heap.FunFrames X.base X.outer
 frf:∀b∈X.fs,X.H₀ b=none
structure Inv (X:Cx) (pins:List (Addr×Obj)) (σ:List (Option V)) (H:Hp) (s:Shared):Prop where
 ok:X.Ok
 os:s.os=X.s₀.os
 bare:AllBare s.gens
 base:Un X.fs X.ex X.H₀ H X.s₀.heap s.heap
 loc:∃m,s.heap.Ns X.env.locals m/\∀(i:Nat) (x:Str) (v:V),X.N[i]?=some x->σ[i]?=some (some v)->Aa X.env.scope x->∃u,RelV v u/\Look X.env s.heap m x u
 cell:∀x c,X.env.cells.lookup x=some c->∃v,s.heap.IsCell c v
 free:H X.env.locals=none
 freeC:∀x c,X.env.cells.lookup x=some c->H c=none
 pin:∀p∈X.pn++pins,s.heap.get? p.1=some p.2/\H p.1=none/\p.1≠X.env.locals/\p.1∉X.fs/\∀v,p.2.data≠.cell v
 hok:HOk X.prog X.w H s.heap
 len:σ.length=X.N.length
section
variable {X:Cx} {pins:List (Addr×Obj)} {σ:List (Option V)} {H H':Hp} {s:Shared} {h':Heap}
theorem Cx.Ok.nofr (ok:X.Ok) {b:Addr} {o:Obj} (e:X.base.get? b=some o):b∉X.fs:=fun hb=>by
 have:=(ok.funs.mem hb).1
 rw [e] at this;cases this
theorem Inv.bs (I:Inv X pins σ H s):∀b o,X.base.get? b=some o->s.heap.get? b=some o/\H b=none:=fun b o e=>
 ⟨I.base.keep b o (I.ok.bs b o e).1 (I.ok.bs b o e).2 (I.ok.nofr e) (I.ok.noex b o e),I.base.free b o (I.ok.bs b o e).1 (I.ok.bs b o e).2 (I.ok.noex b o e)⟩
theorem Inv.bk (I:Inv X pins σ H s):∀b o,X.base.get? b=some o->s.heap.get? b=some o:=fun b o e=>(I.bs b o e).1
theorem Inv.mod (I:Inv X pins σ H s):Mod X.K X.mg X.base:=I.ok.mod
theorem Inv.kIn (I:Inv X pins σ H s):X.K.In s.heap:=I.ok.mod.kin.keeps I.bk
theorem Inv.lt (I:Inv X pins σ H s):X.env.locals<s.heap.objs.size:=let ⟨_,hn,_⟩:=I.loc;hn.lt
theorem Inv.sz (I:Inv X pins σ H s):X.s₀.heap.objs.size<=s.heap.objs.size:=Nat.le_trans I.ok.above (Nat.le_of_lt I.lt)
theorem Inv.nofs (I:Inv X pins σ H s) {a:Addr} (h:s.heap.objs.size<=a):a∉X.fs:=fun hb=>by
 obtain ⟨_,o,ho,_⟩:=I.ok.funs.mem hb;exact absurd (Nat.lt_of_lt_of_le (Heap.lt_size ho) (Nat.le_trans I.sz h)) (Nat.lt_irrefl _)
theorem Inv.cne (I:Inv X pins σ H s):∀x c,X.env.cells.lookup x=some c->c≠X.env.locals:=fun x c e z=>by
 obtain ⟨v,o,ho,hd⟩:=I.cell x c e;obtain ⟨m,⟨o',es,ep,ho',hd',_⟩,_⟩:=I.loc;rw [z,ho'] at ho;cases ho;rw [hd'] at hd;cases hd
theorem Inv.funs (I:Inv X pins σ H s):s.heap.FunFrames X.base X.outer:=by
 have all:∀(l:List Env),(∀b∈tw l,b∈X.fs)->X.s₀.heap.FunFrames X.base l->s.heap.FunFrames X.base l:=by
  intro l;induction l with
  | nil=>intro _ _;trivial
  | cons env r ih=>
   intro hs hl;obtain ⟨hk,⟨L,o,hf,hn,ho,hd⟩,hr⟩:=hl;have hL:L∈X.fs:=hs L (by unfold tw;rw [List.filterMap_cons,hf];exact mem_cons_self)
   obtain ⟨sl,e⟩:=I.base.slot L o ho (I.ok.frf L hL) hL fun z=>I.ok.exfs L z hL
   exact ⟨hk,⟨L,_,hf,hn,e,hd⟩,ih (fun b hb=>hs b (by unfold tw;rw [List.filterMap_cons,hf];exact mem_cons_of_mem _ hb)) hr⟩
 exact all X.outer (fun _ hb=>hb) I.ok.funs
theorem Inv.stack (I:Inv X pins σ H s):s.heap.FunFrames X.base X.stack:=by
 rcases I.ok.stk with e | ⟨e,hf⟩
 ·rw [e];exact I.funs
 ·rw [e]
  obtain ⟨m,hn,_⟩:=I.loc;refine .cons (by rw [I.ok.kind];decide) hf hn ?_ I.funs
  exact Heap.get?_none_of_le (Nat.le_trans I.ok.bsz I.ok.above)
theorem Inv.stkSub (I:Inv X pins σ H s):∀b∈tw X.stack,b∈X.env.locals::X.fs:=fun b hb=>by
 rcases I.ok.stk with e | ⟨e,hf⟩
 ·rw [e] at hb;exact mem_cons_of_mem _ hb
 ·rw [e] at hb
  unfold tw at hb;rw [List.filterMap_cons,hf] at hb;exact hb
theorem Inv.stkFree (I:Inv X pins σ H s):∀b∈tw X.stack,H b=none:=fun b hb=>by
 rcases List.mem_cons.mp (I.stkSub b hb) with e | hb
 ·rw [e];exact I.free
 ·obtain ⟨_,o,ho,_⟩:=I.ok.funs.mem hb
  exact I.base.free b o ho (I.ok.frf b hb) fun z=>I.ok.exfs b z hb
theorem Inv.step {g':Array GenState} {t':Nat} {d':Drawn} {ch:List Addr} (I:Inv X pins σ H s)
  (hch:∀b∈ch,(b∈X.ex\/X.s₀.heap.objs.size<=b)/\b≠X.env.locals/\(∀x c,X.env.cells.lookup x=some c->c≠b)/\∀p∈X.pn++pins,p.1≠b)
  (keep:∀b o,b≠X.env.locals->b∉X.fs->b∉ch->s.heap.get? b=some o->H b=none->h'.get? b=some o)
  (slot:∀b o,b≠X.env.locals->b∈X.fs->b∉ch->s.heap.get? b=some o->H b=none->∃sl,h'.get? b=some { o with slots:=sl }) (free:∀b o,b∉ch->s.heap.get? b=some o->H b=none->H' b=none)
  (there:∀b o,b∉ch->s.heap.get? b=some o->∃o',h'.get? b=some o')
  (tups:∀b xs,H b=some (.tup xs)->H' b=some (.tup xs)) (frzs:∀b o u,H b=some (.frz o u)->H' b=some (.frz o u)) (tbls:∀b ps,H b=some (.tbl ps)->∃more,H' b=some (.tbl (ps++more)))
  (ns:∀m,s.heap.Ns X.env.locals m->h'.Ns X.env.locals m) (hok:HOk X.prog X.w H' h') (hg:AllBare g') :
  Inv X pins σ H' { s with heap:=h',gens:=g',drawn:=d',toks:=t' }:=by
 have neL:∀b o,X.s₀.heap.get? b=some o->b≠X.env.locals:=fun b o e=>Nat.ne_of_lt (Nat.lt_of_lt_of_le (Heap.lt_size e) I.ok.above)
 have neC:∀b o,X.s₀.heap.get? b=some o->b∉X.ex->b∉ch:=fun b o e hx hb=>by
  rcases (hch b hb).1 with z | z
  ·exact hx z
  ·exact absurd (Nat.lt_of_lt_of_le (Heap.lt_size e) z) (Nat.lt_irrefl _)
 have cellK:∀x c,X.env.cells.lookup x=some c->∀v,s.heap.IsCell c v->h'.IsCell c v:=fun x c e v ⟨o,ho,hd⟩=>by
  have nch:c∉ch:=fun z=>(hch c z).2.2.1 x c e rfl
  by_cases hc:c∈X.fs
  ·obtain ⟨sl,q⟩:=slot c o (I.cne x c e) hc nch ho (I.freeC x c e)
   exact ⟨_,q,hd⟩
  ·exact ⟨o,keep c o (I.cne x c e) hc nch ho (I.freeC x c e),hd⟩
 refine ⟨I.ok,I.os,hg,⟨fun b o e n hb hx=>?_,fun b o e n hb hx=>?_,fun b o e n hx=>?_,fun b o e hx=>?_,fun b xs e=>tups b xs (I.base.tups b xs e),fun b o xs e=>frzs b o xs (I.base.frzs b o xs e),fun b ps e=>?_⟩,?_,fun x c e=>?_,?_,fun x c e=>?_,fun p hp=>?_,hok,I.len⟩
 ·exact keep b o (neL b o e) hb (neC b o e hx) (I.base.keep b o e n hb hx) (I.base.free b o e n hx)
 ·obtain ⟨sl,e1⟩:=I.base.slot b o e n hb hx
  obtain ⟨sl',e2⟩:=slot b _ (neL b o e) hb (neC b o e hx) e1 (I.base.free b o e n hx);exact ⟨sl',e2⟩
 ·obtain ⟨o',e1⟩:=I.base.there b o e hx
  exact free b o' (neC b o e hx) e1 (I.base.free b o e n hx)
 ·obtain ⟨o',e1⟩:=I.base.there b o e hx
  exact there b o' (neC b o e hx) e1
 ·obtain ⟨m1,e1⟩:=I.base.tbls b ps e
  obtain ⟨m2,e2⟩:=tbls b _ e1;exact ⟨m1++m2,by rw [e2,Array.append_assoc]⟩
 ·obtain ⟨m,hn,hl⟩:=I.loc
  refine ⟨m,ns m hn,fun i x v e1 e2 e3=>?_⟩
  obtain ⟨u,r,l⟩:=hl i x v e1 e2 e3;refine ⟨u,r,?_⟩
  rcases l with l | ⟨k,c,e,z⟩
  ·exact .inl l
  ·exact .inr ⟨k,c,e,cellK x c e _ z⟩
 ·obtain ⟨v,z⟩:=I.cell x c e
  exact ⟨v,cellK x c e v z⟩
 ·obtain ⟨m,⟨o,_,_,ho,_⟩,_⟩:=I.loc
  exact free _ o (fun z=>(hch _ z).2.1 rfl) ho I.free
 ·obtain ⟨v,o,ho,hd⟩:=I.cell x c e
  exact free c o (fun z=>(hch c z).2.2.1 x c e rfl) ho (I.freeC x c e)
 ·obtain ⟨e,n,ne,nf,d⟩:=I.pin p hp
  have nch:p.1∉ch:=fun z=>(hch p.1 z).2.2.2 p hp rfl
  exact ⟨keep p.1 p.2 ne nf nch e n,free p.1 p.2 nch e n,ne,nf,d⟩
theorem Inv.un {t':Nat} (I:Inv X pins σ H s) (u:Un X.fs [] H H' s.heap h') (hok:HOk X.prog X.w H' h'):Inv X pins σ H' { s with heap:=h',toks:=t' }:=by
 obtain ⟨m,⟨o,es,ep,ho,r⟩,_⟩:=id I.loc;obtain ⟨sl,hL⟩:=u.any ho I.free (by simp)
 exact I.step (g':=s.gens) (d':=s.drawn) (ch:=[]) (fun _ z=>nomatch z) (fun b o _ hb _ e n=>u.keep b o e n hb (by simp)) (fun b o _ hb _ e n=>u.slot b o e n hb (by simp)) (fun b o _ e n=>u.free b o e n (by simp)) (fun b o _ e=>u.there b o e (by simp)) u.tups u.frzs u.tbls (fun m' hm=>by
  obtain ⟨o',es',ep',ho',r'⟩:=hm;rw [ho] at ho';cases ho'
  exact ⟨_,es',ep',hL,r'⟩) hok I.bare
theorem Inv.call {g':Array GenState} {t':Nat} {d':Drawn} {ch:List Addr} (I:Inv X pins σ H s) (u:Un (tw X.stack) ch H H' s.heap h') (hok:HOk X.prog X.w H' h') (hg:AllBare g')
  (hch:∀b∈ch,(b∈X.ex\/X.s₀.heap.objs.size<=b)/\b≠X.env.locals/\(∀x c,X.env.cells.lookup x=some c->c≠b)/\∀p∈X.pn++pins,p.1≠b) :
  Inv X pins σ H' { s with heap:=h',gens:=g',drawn:=d',toks:=t' }:=by
 obtain ⟨m,⟨o,es,ep,ho,r⟩,_⟩:=id I.loc;obtain ⟨sl,hL⟩:=u.any ho I.free fun z=>(hch _ z).2.1 rfl
 exact I.step (ch:=ch) hch (fun b o hL hb hc e n=>u.keep b o e n (fun z=>(List.mem_cons.mp (I.stkSub b z)).elim hL hb) hc) (fun b o _ _ hc e n=>u.any e n hc) (fun b o hc e n=>u.free b o e n hc) (fun b o hc e=>u.there b o e hc) u.tups u.frzs u.tbls (fun m' hm=>by
  obtain ⟨o',es',ep',ho',r'⟩:=hm;rw [ho] at ho';cases ho'
  exact ⟨_,es',ep',hL,r'⟩) hok hg
theorem Inv.turned {t':Nat} {it:Addr} (I:Inv X pins σ H s) (k:∀b o,b≠it->s.heap.get? b=some o->h'.get? b=some o) (hn:H it=none) (hL:it≠X.env.locals)
  (h1:it∈X.ex\/X.s₀.heap.objs.size<=it) (h2:∀x c,X.env.cells.lookup x=some c->c≠it) (h3:∀p∈X.pn++pins,p.1≠it):Inv X pins σ H { s with heap:=h',toks:=t' }:=by
 have nit:∀b u,H b=some u->b≠it:=fun b u e z=>by rw [z,hn] at e;cases e
 refine I.step (g':=s.gens) (d':=s.drawn) (ch:=[it]) (fun b hb=>?_) (fun b o _ _ hc e _=>k b o (fun z=>hc (by simp [z])) e) (fun b o _ _ hc e _=>⟨o.slots,k b o (fun z=>hc (by simp [z])) e⟩) (fun _ _ _ _ n=>n)
  (fun b o hc e=>⟨o,k b o (fun z=>hc (by simp [z])) e⟩) (fun _ _ e=>e) (fun _ _ _ e=>e) (fun b ps e=>⟨#[],by rw [e];simp⟩) (fun m hm=>?_) (fun b u e=>?_) I.bare
 ·have e:b=it:=by simpa using hb
  subst e;exact ⟨h1,hL,h2,h3⟩
 ·obtain ⟨o,es,ep,ho,r⟩:=hm
  exact ⟨o,es,ep,k _ o (Ne.symm hL) ho,r⟩
 ·refine (I.hok b u e).stay (fun c v hc q=>k c v ?_ q) (fun _ q=>q) fun _ _ q=>q
  rcases hc with z | z
  ·rw [z];exact nit b u e
  ·exact nit c _ z
theorem Inv.tok (I:Inv X pins σ H s) (t:Nat):Inv X pins σ H { s with toks:=t }:=I.un (h':=s.heap) (t':=t) Un.refl I.hok
theorem Inv.kept {t':Nat} (I:Inv X pins σ H s) (k:∀b u,s.heap.get? b=some u->h'.get? b=some u):Inv X pins σ H { s with heap:=h',toks:=t' }:=I.un (Un.kept k) (I.hok.kept k)
theorem Inv.laid {a:Addr} {o:HO} {t':Nat} (I:Inv X pins σ H s) (k:∀b u,s.heap.get? b=some u->h'.get? b=some u) (hp:s.heap.objs.size<=a) (new:ObjOk X.prog X.w (cF H a o) h' a o) :
  Inv X pins σ (cF H a o) { s with heap:=h',toks:=t' }:=I.un (Un.laid k hp (I.hok.fresh hp)) (I.hok.laid k hp new)
theorem Inv.write {x e:Addr} {o:HO} {t':Nat} (I:Inv X pins σ H s) (mu:Dq (H x)) (he:e=x\/H e=some (.own x)) (k:∀b u,b≠e->s.heap.get? b=some u->h'.get? b=some u) (heo:∃u,h'.get? e=some u)
  (new:ObjOk X.prog X.w (cF H x o) h' x o):Inv X pins σ (cF H x o) { s with heap:=h',toks:=t' }:=I.un (Un.write mu he k heo) (I.hok.write mu he k heo new)
theorem Inv.weak {σ':List (Option V)} (I:Inv X pins σ H s) (hl:σ'.length=σ.length) (w:∀(i:Nat) v,σ'[i]?=some (some v)->σ[i]?=some (some v)):Inv X pins σ' H s:=
 ⟨I.ok,I.os,I.bare,I.base,let ⟨m,hn,hl'⟩:=I.loc;⟨m,hn,fun i x v e1 e2 e3=>hl' i x v e1 (w i v e2) e3⟩,I.cell,I.free,I.freeC,I.pin,I.hok,hl.trans I.len⟩
theorem Inv.pins_of {pins':List (Addr×Obj)} (I:Inv X pins σ H s) (h:∀p∈pins',s.heap.get? p.1=some p.2/\H p.1=none/\p.1≠X.env.locals/\p.1∉X.fs/\∀v,p.2.data≠.cell v):Inv X pins' σ H s:=
 ⟨I.ok,I.os,I.bare,I.base,I.loc,I.cell,I.free,I.freeC,fun p hp=>(List.mem_append.mp hp).elim (fun z=>I.pin p (mem_append_left _ z)) (h p),I.hok,I.len⟩
theorem my {N:List Str} (hN:N.Nodup) {i j:Nat} {x:Str} (a:N[i]?=some x) (b:N[j]?=some x):i=j:=by
 obtain ⟨h1,e1⟩:=List.getElem?_eq_some_iff.mp a
 obtain ⟨h2,e2⟩:=List.getElem?_eq_some_iff.mp b
 exact (List.getElem_inj hN).mp (e1.trans e2.symm)
theorem jP {M:Model} {A:Around} {E:Value->Shared->Prop} {i:Nat} {x:Str} {v:V} {u:Value} {Q:Unit->Shared->Prop} (I:Inv X pins σ H s) (hN:X.N.Nodup) (hi:X.N[i]?=some x) (hx:Loc X.env.scope x) (r:RelV v u)
  (h:∀s',Inv X pins (σ.set i (some v)) H s'->(∃a,Heap.SameBut a s.heap s'.heap/\(a=X.env.locals\/X.env.cells.lookup x=some a))->Q () s') (hf:X.fn x=true\/X.env.scope.names.lookup x=some .local:=by first | exact .inl rfl | exact .inr rfl | assumption):wpAny M A (storeName X.env x u) Q E s:=by
 obtain ⟨m,hn,hl⟩:=id I.loc;have hcls:(X.env.scope.kind==.class||(X.env.scope.kind==.module&&X.env.locals != X.env.globals))=false:=by rw [I.ok.kind];rfl
 have hiσ:i<σ.length:=by rw [I.len];exact (List.getElem?_eq_some_iff.mp hi).1
 have cne:=I.cne
 have tracked:∀{a:Addr} {h':Heap},(∃o,s.heap.get? a=some o/\H a=none)->Heap.SameBut a s.heap h'->HOk X.prog X.w H h':=fun {a h'} ha hs b ob e=>by
  obtain ⟨_,_,hfree⟩:=ha;refine (I.hok b ob e).stay (fun c w' hc q=>(hs.2 c ?_).trans q) (fun _ q=>q) fun _ _ q=>q
  rintro rfl
  rcases hc with rfl | hc
  ·rw [hfree] at e;cases e
  ·rw [hfree] at hc;cases hc
 rcases hx with hk | hk
 ·refine wpAny_storeName_local hk hn (fun h' hn' hs=>?_) hcls
  obtain ⟨oL,_,_,hoL,_⟩:=id hn;refine h _ ⟨I.ok,I.os,I.bare,⟨fun b o e n hb hx=>?_,fun b o e n hb hx=>?_,I.base.free,fun b o e hx=>?_,I.base.tups,I.base.frzs,I.base.tbls⟩,⟨_,hn',fun j y v' e1 e2 e3=>?_⟩,fun y c e=>?_,I.free,I.freeC,fun p hp=>?_,tracked ⟨oL,hoL,I.free⟩ hs,by simpa using I.len⟩ ⟨_,hs,.inl rfl⟩
  ·exact (hs.2 b (Nat.ne_of_lt (Nat.lt_of_lt_of_le (Heap.lt_size e) I.ok.above))).trans (I.base.keep b o e n hb hx)
  ·obtain ⟨sl,e1⟩:=I.base.slot b o e n hb hx
   exact ⟨sl,(hs.2 b (Nat.ne_of_lt (Nat.lt_of_lt_of_le (Heap.lt_size e) I.ok.above))).trans e1⟩
  ·obtain ⟨o',e1⟩:=I.base.there b o e hx
   exact ⟨o',(hs.2 b (Nat.ne_of_lt (Nat.lt_of_lt_of_le (Heap.lt_size e) I.ok.above))).trans e1⟩
  ·by_cases hj:j=i
   ·subst hj
    rw [hi] at e1;cases e1;rw [getElem?_set_self hiσ] at e2
    cases e2;exact ⟨u,r,.inl ⟨hk,by simp⟩⟩
   ·rw [getElem?_set_ne (Ne.symm hj)] at e2
    obtain ⟨u',r',q⟩:=hl j y v' e1 e2 e3
    refine ⟨u',r',?_⟩
    rcases q with ⟨k,e⟩ | ⟨k,c,e,z⟩
    ·refine .inl ⟨k,?_⟩
     have:y≠x:=fun e=>hj (my hN e1 (e▸hi))
     simp [this,e]
    ·exact .inr ⟨k,c,e,z.sameBut hs (cne y c e)⟩
  ·obtain ⟨w',z⟩:=I.cell y c e
   exact ⟨w',z.sameBut hs (cne y c e)⟩
  ·obtain ⟨e,n,ne,nf,d⟩:=I.pin p hp
   exact ⟨(hs.2 p.1 ne).trans e,n,ne,nf,d⟩
 ·have hfn:X.fn x=true:=by
   rcases hf with z | z
   ·exact z
   ·rw [z] at hk;cases hk
  obtain ⟨c,hc⟩:=I.ok.has x (.inl hk);obtain ⟨w',z⟩:=I.cell x c hc;refine wpAny_storeName_cell I.ok.kind hk hc z (fun h' hc' hs=>?_)
  obtain ⟨oc,hoc,hocd⟩:=id z;refine h { s with heap:=h' } ⟨I.ok,I.os,I.bare,⟨fun b o e n hb hx=>?_,fun b o e n hb hx=>?_,I.base.free,fun b o e hx=>?_,I.base.tups,I.base.frzs,I.base.tbls⟩,⟨m,hn.sameBut hs (Ne.symm (cne x c hc)),fun j y v' e1 e2 e3=>?_⟩,fun y c' e=>?_,I.free,I.freeC,fun p hp=>?_,tracked ⟨oc,hoc,I.freeC x c hc⟩ hs,by simpa using I.len⟩ ⟨c,hs,.inr hc⟩
  ·exact (hs.2 b (Nat.ne_of_lt (Nat.lt_of_lt_of_le (Heap.lt_size e) (I.ok.cab x c hfn hc)))).trans (I.base.keep b o e n hb hx)
  ·obtain ⟨sl,e1⟩:=I.base.slot b o e n hb hx
   exact ⟨sl,(hs.2 b (Nat.ne_of_lt (Nat.lt_of_lt_of_le (Heap.lt_size e) (I.ok.cab x c hfn hc)))).trans e1⟩
  ·obtain ⟨o',e1⟩:=I.base.there b o e hx
   exact ⟨o',(hs.2 b (Nat.ne_of_lt (Nat.lt_of_lt_of_le (Heap.lt_size e) (I.ok.cab x c hfn hc)))).trans e1⟩
  ·by_cases hj:j=i
   ·subst hj
    rw [hi] at e1;cases e1;rw [getElem?_set_self hiσ] at e2
    cases e2;exact ⟨u,r,.inr ⟨.inl hk,c,hc,hc'⟩⟩
   ·rw [getElem?_set_ne (Ne.symm hj)] at e2
    obtain ⟨u',r',q⟩:=hl j y v' e1 e2 e3
    refine ⟨u',r',?_⟩
    rcases q with q | ⟨k,c',e,z'⟩
    ·exact .inl q
    ·refine .inr ⟨k,c',e,z'.sameBut hs ?_⟩
     rintro rfl
     exact hj (my hN e1 (I.ok.inj _ _ _ e hc▸hi))
  ·by_cases hcc:c'=c
   ·subst hcc;exact ⟨_,hc'⟩
   ·obtain ⟨w2,z2⟩:=I.cell y c' e
    exact ⟨w2,z2.sameBut hs hcc⟩
  ·obtain ⟨e,n,ne,nf,d⟩:=I.pin p hp
   refine ⟨(hs.2 p.1 ?_).trans e,n,ne,nf,d⟩
   intro q;rw [q,hoc] at e;have q':oc=p.2:=Option.some.inj e
   exact d w' (by rw [<-q'];exact hocd)
theorem DZ {M:Model} {A:Around} {E:Value->Shared->Prop} {i:Nat} {x:Str} {v:V} {u:Value} {Q:Unit->Shared->Prop} (I:Inv X pins σ H s) (hN:X.N.Nodup) (hi:X.N[i]?=some x) (hx:Loc X.env.scope x) (r:RelV v u)
  (h:∀s',Inv X pins (σ.set i (some v)) H s'->Q () s') (hf:X.fn x=true\/X.env.scope.names.lookup x=some .local:=by first | exact .inl rfl | exact .inr rfl | assumption):wpAny M A (storeName X.env x u) Q E s:=
 jP I hN hi hx r (fun s' I' _=>h s' I') hf
theorem Inv.call' {s':Shared} {ch:List Addr} (I:Inv X pins σ H s) (ho:s'.os=s.os) (u:Un (tw X.stack) ch H H' s.heap s'.heap) (hok:HOk X.prog X.w H' s'.heap) (hg:AllBare s'.gens)
  (hch:∀b∈ch,(b∈X.ex\/X.s₀.heap.objs.size<=b)/\b≠X.env.locals/\(∀x c,X.env.cells.lookup x=some c->c≠b)/\∀p∈X.pn++pins,p.1≠b):Inv X pins σ H' s':=by
 obtain ⟨h',g',d',t',o'⟩:=s'
 have e:o'=s.os:=ho
 subst e;exact I.call (g':=g') (t':=t') (d':=d') u hok hg hch
end
abbrev XK:=Value->Option Addr->Hp->Prop
abbrev St:=List (Option V)
abbrev VK:=V->Hp->Prop
abbrev TE:=St->Hp->VK->Prop
abbrev TT:=St->Hp->(Bool->Hp->Prop)->Prop
abbrev TA:=St->Hp->(List V->Hp->Prop)->Prop
structure du where
 nx:St->Hp->Prop
 rt:VK
 bk:St->Hp->Prop:=fun _ _=>False
 ct:St->Hp->Prop:=fun _ _=>False
abbrev TS:=du->St->Hp->Prop
def EP (X:Cx) (pins:List (Addr×Obj)) (σ:St) (Q:VK) (u:Value) (s':Shared):Prop:=∃v H',Inv X pins σ H' s'/\RelV v u/\Q v H'
def TP (X:Cx) (pins:List (Addr×Obj)) (σ:St) (Q:Bool->Hp->Prop) (b:Bool) (s':Shared):Prop:=∃H',Inv X pins σ H' s'/\Q b H'
def AP (X:Cx) (pins:List (Addr×Obj)) (σ:St) (Q:List V->Hp->Prop) (us:List Value) (s':Shared):Prop:=∃vs H',Inv X pins σ H' s'/\Vals vs us/\Q vs H'
def SP (X:Cx) (pins:List (Addr×Obj)) (D:du) (f:Flow) (s':Shared):Prop:=
 match f with
 | .next=>∃σ' H',Inv X pins σ' H' s'/\D.nx σ' H'
 | .brk=>∃σ' H',Inv X pins σ' H' s'/\D.bk σ' H'
 | .cont=>∃σ' H',Inv X pins σ' H' s'/\D.ct σ' H'
 | .ret u=>∃v σ' H',Inv X pins σ' H' s'/\RelV v u/\D.rt v H'
def PE (X:Cx) (e:Expr) (t:TE):Prop:=
 ∀(pins:List (Addr×Obj)) (s:Shared) (σ:St) (H:Hp) (Q:VK),Inv X pins σ H s->t σ H Q->wpAny (model X.prog X.w) X.A (eval e X.env) (EP X pins σ Q) X.xe s
def PT (X:Cx) (e:Expr) (t:TT):Prop:=
 ∀(pins:List (Addr×Obj)) (s:Shared) (σ:St) (H:Hp) (Q:Bool->Hp->Prop),Inv X pins σ H s->t σ H Q->wpAny (model X.prog X.w) X.A (isTrue e X.env (eval e X.env)) (TP X pins σ Q) X.xe s
def PW (X:Cx) (e:Expr) (t:TT):Prop:=
 ∀(whole:Sem Value) (pins:List (Addr×Obj)) (s:Shared) (σ:St) (H:Hp) (Q:Bool->Hp->Prop),Inv X pins σ H s->t σ H Q->wpAny (model X.prog X.w) X.A (isTrue e X.env whole) (TP X pins σ Q) X.xe s
theorem PW.pt {X:Cx} {e:Expr} {t:TT} (h:PW X e t):PT X e t:=h _
def PA (X:Cx) (es:List Expr) (t:TA):Prop:=
 ∀(pos:Pos) (pins:List (Addr×Obj)) (s:Shared) (σ:St) (H:Hp) (Q:List V->Hp->Prop),Inv X pins σ H s->t σ H Q->wpAny (model X.prog X.w) X.A (spliced (backTo pos (starEach es X.env))) (AP X pins σ Q) X.xe s
def PS (X:Cx) (st:Stmt) (t:TS):Prop:=
 ∀(pins:List (Addr×Obj)) (s:Shared) (σ:St) (H:Hp) (D:du),Inv X pins σ H s->t D σ H->wpAny (model X.prog X.w) X.A (exec st X.env) (SP X pins D) X.xe s
def PSs (X:Cx) (st:List Stmt) (t:TS):Prop:=
 ∀(pins:List (Addr×Obj)) (s:Shared) (σ:St) (H:Hp) (D:du),Inv X pins σ H s->t D σ H->wpAny (model X.prog X.w) X.A (execs st X.env) (SP X pins D) X.xe s
theorem ck {α:Type} {t:Sem α} {Q Q':α->Shared->Prop} {M:Model} {A:Around} {E:Value->Shared->Prop} {s:Shared} (h:wpAny M A t Q E s) (hQ:∀a s,Q a s->Q' a s):wpAny M A t Q' E s:=wpAny_mono h hQ fun _ _ x=>x
section
variable {X:Cx}
def dE (i:Nat):TE:=fun σ H Q=>∃v,σ[i]?=some (some v)/\Q v H
def tC (v:V):TE:=fun _ H Q=>Q v H
theorem uh {i:Nat} {x:Str} {pos:Pos} (hN:X.N[i]?=some x) (hv:Aa X.env.scope x) (hd:(x==("__debug__":Str))=false:=by decide) (hcd:(x==("__classdict__":Str))=false:=by decide):PE X (.Name x pos) (dE i):=by
 intro pins s σ H Q I h;obtain ⟨v,e,h⟩:=h;obtain ⟨m,hn,hl⟩:=I.loc;obtain ⟨u,r,l⟩:=hl i x v hN e hv;have fin:EP X pins σ Q u s:=⟨v,H,I,r,h⟩
 rcases l with ⟨hk,hm⟩ | ⟨hk,c,hc,hcell⟩
 ·exact wpAny_Name (wpAny_loadName_local I.ok.kind hk hn hm fin) hd
 ·rcases hk with hk | hk
  ·exact wpAny_Name (wpAny_loadName_cell I.ok.kind hk hc hcell fin) hd
  ·exact wpAny_Name (wpAny_loadName_free I.ok.kind hk hc hcell fin hcd) hd
theorem sA {i j pos}:PE X (.Constant (.int i) j pos) (tC (.int i)):=fun _ _ _ H _ I h=>wpAny_Constant_int ⟨.int i,H,I.tok _,⟨_,rfl⟩,h⟩
theorem BK {b j pos}:PE X (.Constant (.bool b) j pos) (tC (.bl b)):=fun _ _ _ H _ I h=>Constant_bool ⟨.bl b,H,I,rfl,h⟩
theorem yU {j pos}:PE X (.Constant .none j pos) (tC .non):=fun _ _ _ H _ I h=>Constant_none ⟨.non,H,I,rfl,h⟩
theorem yS {x j pos}:PE X (.Constant (.str x) j pos) (tC (.str x)):=fun _ _ _ H _ I h=>Calls.Constant_str ⟨.str x,H,I.tok _,⟨_,rfl⟩,h⟩
def Gl (X:Cx) (x:Str):Prop:=X.env.kindOf x=some .globalImplicit
theorem oZ {E:Value->Shared->Prop} {pins:List (Addr×Obj)} {s:Shared} {σ:St} {H:Hp} {x:Str} {u:Value} {pos:Pos} {Q:Value->Shared->Prop} (I:Inv X pins σ H s) (hg:Gl X x) (hm:X.mg x=some u) (h:Q u s)
  (hd:(x==("__debug__":Str))=false:=by decide):wpAny (model X.prog X.w) X.A (eval (.Name x pos) X.env) Q E s:=
 Calls.Name_function_global I.ok.kind hg (Calls.loadGlobal_global (by rw [I.ok.glob];exact I.mod.glob.keeps I.bk) hm h) hd
theorem wB {E:Value->Shared->Prop} {pins:List (Addr×Obj)} {s:Shared} {σ:St} {H:Hp} {x:Str} {u:Value} {pos:Pos} {Q:Value->Shared->Prop} (I:Inv X pins σ H s) (hg:Gl X x) (hm:X.mg x=none) (hv:bootBuiltins x=some u) (h:Q u s)
  (hn:x ≠ "__name__":=by decide) (hd:(x==("__debug__":Str))=false:=by decide):wpAny (model X.prog X.w) X.A (eval (.Name x pos) X.env) Q E s:=by
 obtain ⟨mb,h1,h2⟩:=I.mod.blt;exact Calls.Name_function_global I.ok.kind hg (Calls.loadGlobal_builtin (by rw [I.ok.glob];exact I.mod.glob.keeps I.bk) hm (by rw [I.ok.blt];exact h1.keeps I.bk) ((h2 x hn).trans hv) h) hd
theorem vb {x:Str} {v:V} {u:Value} {pos:Pos} (hg:Gl X x) (hm:X.mg x=some u) (r:RelV v u) (hd:(x==("__debug__":Str))=false:=by decide):PE X (.Name x pos) (tC v):=
 fun _ _ _ H _ I h=>oZ I hg hm ⟨v,H,I,r,h⟩ hd
theorem vd {x:Str} {v:V} {u:Value} {pos:Pos} (hg:Gl X x) (hm:X.mg x=none) (hv:bootBuiltins x=some u) (r:RelV v u) (hn:x ≠ "__name__":=by decide) (hd:(x==("__debug__":Str))=false:=by decide):PE X (.Name x pos) (tC v):=
 fun _ _ _ H _ I h=>wB I hg hm hv ⟨v,H,I,r,h⟩ hn hd
variable {a b:Expr} {ta tb:TE} {pos:Pos}
def tB (t:TE):TT:=fun σ H Q=>t σ H fun x H1=>∃c,x=.bl c/\Q c H1
variable {tA tB':TT} {cg:List Expr}
def Bp (t u:TT):TT:=fun σ H Q=>t σ H fun c H1=>if c=true then u σ H1 Q else Q false H1
def Gu (t u:TT):TT:=fun σ H Q=>t σ H fun c H1=>if c=true then Q true H1 else u σ H1 Q
def Bk (t:TT):TT:=fun σ H Q=>t σ H fun c H1=>Q (!c) H1
theorem u3 (ha:PT X a tA):PW X (.BoolOp .And [a] pos) tA:=by
 intro wh pins s σ H Q I h;refine isTrue_and (ck (ha pins s σ H Q I h) fun c s1 e=>?_)
 cases c with
 | true=>exact isTrue_and_nil e
 | false=>exact e
theorem yJ (ha:PT X a tA):PW X (.BoolOp .Or [a] pos) tA:=by
 intro wh pins s σ H Q I h;refine isTrue_or (ck (ha pins s σ H Q I h) fun c s1 e=>?_)
 cases c with
 | false=>exact isTrue_or_nil e
 | true=>exact e
theorem yK (ha:PT X a tA) (hb:PW X (.BoolOp .And (b::cg) pos) tB'):PW X (.BoolOp .And (a::b::cg) pos) (Bp tA tB'):=by
 intro wh pins s σ H Q I h;refine isTrue_and (ck (ha pins s σ H _ I h) fun c s1 ⟨H1,I1,q1⟩=>?_)
 cases c with
 | true=>exact hb wh pins s1 σ H1 Q I1 q1
 | false=>exact ⟨H1,I1,q1⟩
theorem BG (ha:PT X a tA) (hb:PW X (.BoolOp .Or (b::cg) pos) tB'):PW X (.BoolOp .Or (a::b::cg) pos) (Gu tA tB'):=by
 intro wh pins s σ H Q I h;refine isTrue_or (ck (ha pins s σ H _ I h) fun c s1 ⟨H1,I1,q1⟩=>?_)
 cases c with
 | true=>exact ⟨H1,I1,q1⟩
 | false=>exact hb wh pins s1 σ H1 Q I1 q1
theorem yL (ha:PT X a tA):PT X (.UnaryOp .Not a pos) (Bk tA):=by
 intro pins s σ H Q I h;exact isTrue_not (ha pins s σ H (fun c H1=>Q (!c) H1) I h)
def w6 (ta tb:TE):TE:=fun σ H Q=>ta σ H fun x H1=>∃c,x=.bl c/\if c=true then tb σ H1 Q else Q (.bl false) H1
def Bj (ta tb:TE):TE:=fun σ H Q=>ta σ H fun x H1=>∃c,x=.bl c/\if c=true then Q (.bl true) H1 else tb σ H1 Q
def w5 (ta:TE):TE:=fun σ H Q=>ta σ H fun x H1=>∃c,x=.bl c/\Q (.bl (!c)) H1
theorem pe_one {op} {t:TE} (h:PE X a t):PE X (.BoolOp op [a] pos) t:=fun pins s σ H Q I hw=>BoolOp_one (h pins s σ H Q I hw)
theorem yX (ha:PE X a ta) (hb:PE X (.BoolOp .And (b::cg) pos) tb):PE X (.BoolOp .And (a::b::cg) pos) (w6 ta tb):=by
 intro pins s σ H Q I h;refine BoolOp_and (ck (ha pins s σ H _ I h) fun v s1 ⟨x,H1,I1,r1,q1⟩=>?_)
 obtain ⟨c,rfl,q1⟩:=q1
 cases r1;refine wpAny_truthy_bool ?_
 cases c with
 | true=>exact hb pins s1 σ H1 Q I1 q1
 | false=>exact ⟨.bl false,H1,I1,rfl,q1⟩
theorem BJ (ha:PE X a ta) (hb:PE X (.BoolOp .Or (b::cg) pos) tb):PE X (.BoolOp .Or (a::b::cg) pos) (Bj ta tb):=by
 intro pins s σ H Q I h;refine BoolOp_or (ck (ha pins s σ H _ I h) fun v s1 ⟨x,H1,I1,r1,q1⟩=>?_)
 obtain ⟨c,rfl,q1⟩:=q1
 cases r1;refine wpAny_truthy_bool ?_
 cases c with
 | false=>exact hb pins s1 σ H1 Q I1 q1
 | true=>exact ⟨.bl true,H1,I1,rfl,q1⟩
theorem yT (ha:PE X a ta):PE X (.UnaryOp .Not a pos) (w5 ta):=by
 intro pins s σ H Q I h;refine UnaryOp_ (ck (ha pins s σ H _ I h) fun v s1 ⟨x,H1,I1,r1,q1⟩=>?_)
 obtain ⟨c,rfl,q1⟩:=q1
 cases r1;exact not_of (wpAny_truthy_bool ⟨.bl (!c),H1,I1,rfl,q1⟩)
def Gx (t:TT) (ta tb:TE):TE:=fun σ H Q=>t σ H fun c H1=>if c=true then ta σ H1 Q else tb σ H1 Q
theorem sC {c:Expr} (hc:PT X c tA) (ha:PE X a ta) (hb:PE X b tb):PE X (.IfExp c a b pos) (Gx tA ta tb):=by
 intro pins s σ H Q I h;refine wpAny_IfExp (ck (hc pins s σ H _ I h) fun d s1 ⟨H1,I1,q1⟩=>?_)
 cases d with
 | true=>exact ha pins s1 σ H1 Q I1 q1
 | false=>exact hb pins s1 σ H1 Q I1 q1
end
def SqL (K:Fg) (H:Hp) (a:Addr) (xs:List V):Prop:=
 Rd H a (.lst xs) \/
  ∃(o:Obj) (its:Array Value) (n:Nat),K.lookup a=some o/\o.cls=.type "list"/\o.dict=none/\o.data=.seq its n/\its.size<=sizeLine/\Vals xs its.toList
def SqT (K:Fg) (H:Hp) (a:Addr) (xs:List V):Prop:=
 Rd H a (.tup xs) \/
  ∃(o:Obj) (its:Array Value) (n:Nat),K.lookup a=some o/\o.cls=.type "tuple"/\o.data=.seq its n/\its.size<=sizeLine/\Vals xs its.toList
def Gf:Value->Option V
 | .none=>some .non
 | .bool b=>some (.bl b)
 | .int i _=>some (.int i)
 | .str x _=>some (.str x)
 | .bytes b _=>some (.byt b)
 | .float b _=>some (.flt b)
 | .ref a=>some (.ref a)
 | .type n=>some (.ty n)
 | _=>none
theorem RelV.abs {x:V} {u:Value} (r:RelV x u):Gf u=some x:=by
 cases x with
 | non=>cases r;rfl
 | bl _=>cases r;rfl
 | int _=>obtain ⟨t,rfl⟩:=r;rfl
 | str _=>obtain ⟨t,rfl⟩:=r;rfl
 | byt _=>obtain ⟨t,rfl⟩:=r;rfl
 | flt _=>obtain ⟨t,rfl⟩:=r;rfl
 | ref _=>cases r;rfl
 | ty _=>cases r;rfl
theorem RelV.inj {x y:V} {u:Value} (r:RelV x u) (q:RelV y u):x=y:=Option.some.inj (r.abs.symm.trans q.abs)
theorem Vals.inj:∀{xs ys:List V} {us:List Value},Vals xs us->Vals ys us->xs=ys
 | _,_,_,.nil,.nil=>rfl
 | _,_,_,.cons r t,.cons r' t'=>by rw [r.inj r',Vals.inj t t']
section
variable {X:Cx} {pins:List (Addr×Obj)} {σ:St} {H:Hp} {s:Shared} {a:Addr} {xs ys:List V}
theorem SqL.of {K:Fg} (h:H a=some (.lst xs)):SqL K H a xs:=.inl (.inl h)
theorem SqT.of {K:Fg} (h:H a=some (.tup xs)):SqT K H a xs:=.inl (.inl h)
theorem Inv.list (I:Inv X pins σ H s) (h:SqL X.K H a xs):∃its:List Value,Vals xs its/\PlainL s.heap a its.toArray/\xs.length<=sizeLine:=by
 rcases h with h | ⟨o,its,n,hk,hc,hd,hs,hz,r⟩
 ·obtain ⟨z,its,n,r,e⟩:=h.ok I.hok
  exact ⟨its,r,⟨_,n,e,rfl,rfl,rfl⟩,z⟩
 ·refine ⟨its.toList,r,⟨o,n,I.kIn a o hk,hc,hd,by simpa using hs⟩,?_⟩
  have e:=r.length
  simp only [Array.length_toList] at e
  omega
theorem Inv.tuple (I:Inv X pins σ H s) (h:SqT X.K H a xs):∃its:List Value,Vals xs its/\IsTup s.heap a its.toArray/\xs.length<=sizeLine:=by
 rcases h with h | ⟨o,its,n,hk,hc,hs,hz,r⟩
 ·obtain ⟨z,its,r,p⟩:=h.ok I.hok
  exact ⟨its,r,p,z⟩
 ·refine ⟨its.toList,r,⟨o,I.kIn a o hk,hc,n,by simpa using hs⟩,?_⟩
  have e:=r.length
  simp only [Array.length_toList] at e
  omega
theorem Inv.list_inj (I:Inv X pins σ H s) (h:SqL X.K H a xs) (h':SqL X.K H a ys):xs=ys:=by
 obtain ⟨its,r,⟨o,n,e,_,_,d⟩,_⟩:=I.list h;obtain ⟨its',r',⟨o',n',e',_,_,d'⟩,_⟩:=I.list h'
 rw [e] at e';cases e'
 rw [d] at d';injection d' with d1 _
 have:its=its':=by simpa using congrArg Array.toList d1
 subst this;exact r.inj r'
end
abbrev Cx.wish (X:Cx) (E:Value->Shared->Prop):Cx:={ X with xe:=E }
abbrev Cx.nox (X:Cx):Cx:=X.wish fun _ _=>False
theorem Cx.Ok.wish {X:Cx} (ok:X.Ok) (E:Value->Shared->Prop):(X.wish E).Ok:=
 ⟨ok.mod,ok.kind,ok.glob,ok.blt,ok.above,ok.inj,ok.has,ok.cab,ok.hd,ok.frames,ok.stk,ok.exf,ok.bs,ok.bsz,ok.noex,ok.exfs,ok.funs,ok.frf⟩
theorem Cx.Ok.unwish {X:Cx} {E:Value->Shared->Prop} (ok:(X.wish E).Ok):X.Ok:=
 ⟨ok.mod,ok.kind,ok.glob,ok.blt,ok.above,ok.inj,ok.has,ok.cab,ok.hd,ok.frames,ok.stk,ok.exf,ok.bs,ok.bsz,ok.noex,ok.exfs,ok.funs,ok.frf⟩
section
variable {X:Cx} {pins:List (Addr×Obj)} {σ:St} {H:Hp} {s:Shared} {E:Value->Shared->Prop}
theorem Inv.wish (I:Inv X pins σ H s) (E:Value->Shared->Prop):Inv (X.wish E) pins σ H s:=⟨I.ok.wish E,I.os,I.bare,I.base,I.loc,I.cell,I.free,I.freeC,I.pin,I.hok,I.len⟩
theorem Inv.unwish (I:Inv (X.wish E) pins σ H s):Inv X pins σ H s:=⟨I.ok.unwish,I.os,I.bare,I.base,I.loc,I.cell,I.free,I.freeC,I.pin,I.hok,I.len⟩
theorem SP.unwish {D:du} {f:Flow} {s':Shared} (h:SP (X.wish E) pins D f s'):SP X pins D f s':=by
 cases f with
 | next=>obtain ⟨σ',H',I,q⟩:=h;exact ⟨σ',H',I.unwish,q⟩
 | brk=>obtain ⟨σ',H',I,q⟩:=h;exact ⟨σ',H',I.unwish,q⟩
 | cont=>obtain ⟨σ',H',I,q⟩:=h;exact ⟨σ',H',I.unwish,q⟩
 | ret u=>obtain ⟨v,σ',H',I,r,q⟩:=h;exact ⟨v,σ',H',I.unwish,r,q⟩
theorem PSs.nox {st:List Stmt} {t:TS} (h:PSs X.nox st t):PSs X st t:=fun pins s σ H D I hw=>
 wpAny_mono (h pins s σ H D (I.wish _) hw) (fun _ _ q=>q.unwish) fun _ _ z=>False.elim z
end
section
variable {X:Cx} {st:Stmt} {cg:List Stmt} {t u:TS} {e:Expr} {te:TE} {pos:Pos}
def rS:TS:=fun D σ H=>D.nx σ H
def uz (t u:TS):TS:=fun D σ H=>t { D with nx:=u D } σ H
theorem oQ:PSs X [] rS:=fun _ _ σ H _ I h=>wpAny_execs_nil ⟨σ,H,I,h⟩
theorem CL (h1:PS X st t) (h2:PSs X cg u):PSs X (st::cg) (uz t u):=by
 intro pins s σ H D I h;refine wpAny_execs_cons (ck (h1 pins s σ H { D with nx:=u D } I h) fun f s1 q=>?_)
 cases f with
 | next=>
  obtain ⟨σ',H',I',q⟩:=q;exact h2 pins s1 σ' H' D I' q
 | ret v=>exact q
 | brk=>exact q
 | cont=>exact q
theorem oP (h1:PS X st t):PSs X [st] t:=by
 intro pins s σ H D I h;refine wpAny_execs_cons (ck (h1 pins s σ H D I h) fun f s1 q=>?_)
 cases f with
 | next=>exact wpAny_execs_nil q
 | ret v=>exact q
 | brk=>exact q
 | cont=>exact q
theorem Inv.quiet {pins:List (Addr×Obj)} {σ:St} {H:Hp} {s:Shared} (I:Inv X pins σ H s):interactive X.env=false:=by simp [interactive,I.ok.kind]
def fK (te:TE):TS:=fun D σ H=>te σ H fun _ H1=>D.nx σ H1
theorem AU (he:PE X e te) (hs:swapsWith e none pos.line X.env=pure false:=by rfl):PS X (.Expr e pos) (fK te):=by
 intro pins s σ H D I h;exact wpAny_Expr_any (ck (he pins s σ H _ I h) fun v s1 ⟨x,H1,I1,r1,q1⟩=>⟨σ,H1,I1,q1⟩) I.quiet hs
def Bi (te:TE):TS:=fun D σ H=>te σ H D.rt
theorem yM (he:PE X e te):PS X (.Return (some e) pos) (Bi te):=by
 intro pins s σ H D I h;exact wpAny_Return_some (ck (he pins s σ H _ I h) fun v s1 ⟨x,H1,I1,r1,q1⟩=>⟨x,σ,H1,I1,r1,q1⟩)
def yf (c:TT) (t u:TS):TS:=fun D σ H=>c σ H fun b H1=>if b=true then t D σ H1 else u D σ H1
theorem xl {c:Expr} {a b:List Stmt} {tc:TT} (hc:PT X c tc) (ha:PSs X a t) (hb:PSs X b u):PS X (.If c a b pos) (yf tc t u):=by
 intro pins s σ H D I h;refine wpAny_If (ck (hc pins s σ H _ I h) fun d s1 ⟨H1,I1,q1⟩=>?_)
 cases d with
 | true=>exact ha pins s1 σ H1 D I1 q1
 | false=>exact hb pins s1 σ H1 D I1 q1
end
abbrev TG:=V->St->Hp->(St->Hp->Prop)->Prop
abbrev xJ:=List V->St->Hp->(St->Hp->Prop)->Prop
def PG (X:Cx) (target:Expr) (t:TG):Prop:=
 ∀(pins:List (Addr×Obj)) (s:Shared) (σ:St) (H:Hp) (v:V) (u:Value) (Q:St->Hp->Prop),Inv X pins σ H s->RelV v u->t v σ H Q ->
  wpAny (model X.prog X.w) X.A (assign target X.env u) (fun _ s'=>∃σ' H',Inv X pins σ' H' s'/\Q σ' H') X.xe s
def Dp (X:Cx) (ts:List Expr) (t:xJ):Prop:=
 ∀(pins:List (Addr×Obj)) (s:Shared) (σ:St) (H:Hp) (vs:List V) (us:List Value) (Q:St->Hp->Prop),Inv X pins σ H s->Vals vs us->t vs σ H Q ->
  wpAny (model X.prog X.w) X.A (assignInOrder ((assignEach ts X.env).map (·.2)) us) (fun _ s'=>∃σ' H',Inv X pins σ' H' s'/\Q σ' H') X.xe s
abbrev Ac:=V->V->V->Hp->(Hp->Prop)->Prop
def Cn (X:Cx) (t:Ac):Prop:=
 ∀(pins:List (Addr×Obj)) (s:Shared) (σ:St) (H:Hp) (o i v:V) (ov iv u:Value) (Q:Hp->Prop),Inv X pins σ H s->RelV o ov->RelV i iv->RelV v u->t o i v H Q ->
  wpAny (model X.prog X.w) X.A (setItem ov iv u) (fun _ s'=>∃H',Inv X pins σ H' s'/\Q H') X.xe s
abbrev Do:=V->V->Hp->VK->Prop
def Hi (X:Cx) (op:Operator) (t:Do):Prop:=
 ∀(pins:List (Addr×Obj)) (s:Shared) (σ:St) (H:Hp) (x y:V) (v u:Value) (Q:VK),Inv X pins σ H s->RelV x v->RelV y u->t x y H Q ->
  wpAny (model X.prog X.w) X.A (inplaceOp op v u) (EP X pins σ Q) X.xe s
section
variable {X:Cx} {pos:Pos}
def gName (i:Nat):TG:=fun v σ H Q=>Q (σ.set i (some v)) H
theorem rl {i:Nat} {x:Str} (hN:X.N.Nodup) (hi:X.N[i]?=some x) (hx:Loc X.env.scope x) (hf:X.fn x=true\/X.env.scope.names.lookup x=some .local:=by first | exact .inl rfl | exact .inr rfl | assumption):PG X (.Name x pos) (gName i):=by
 intro pins s σ H v u Q I r h;exact wpAny_assign_Name (DZ I hN hi hx r (fun s' I'=>⟨_,H,I',h⟩) hf)
def zI:xJ:=fun vs σ H Q=>vs=[]/\Q σ H
def o7 (t:TG) (u:xJ):xJ:=fun vs σ H Q=>∃v r,vs=v::r/\t v σ H fun σ' H'=>u r σ' H' Q
theorem DL:Dp X [] zI:=by
 intro pins s σ H vs us Q I r h;obtain ⟨e,h⟩:=h;subst e
 cases r;exact assignInOrder_nil ⟨σ,H,I,h⟩
theorem wI {e:Expr} {es:List Expr} {t:TG} {u:xJ} (h1:PG X e t) (h2:Dp X es u)
  (hs:(assignEach (e::es) X.env).map (·.2)=assign e X.env::(assignEach es X.env).map (·.2):=by rfl):Dp X (e::es) (o7 t u):=by
 intro pins s σ H vs us Q I r h;obtain ⟨v,vr,e1,h⟩:=h;subst e1
 cases r with
 | cons r rr=>
  rw [hs];refine assignInOrder_cons (ck (h1 pins s σ H _ _ _ I r h) fun _ s1 ⟨σ1,H1,I1,q1⟩=>?_)
  exact h2 pins s1 σ1 H1 _ _ Q I1 rr q1
def zH (K:Fg) (n:Nat) (t:xJ):TG:=fun v σ H Q=>∃a xs,v=.ref a/\SqT K H a xs/\xs.length=n/\t xs σ H Q
theorem DF {es:List Expr} {k:Nat} {t:xJ} {n:Nat} (hc:X.calm=true) (h:Dp X es t)
  (hn:(assignEach es X.env).length=n:=by rfl) (hst:(assignEach es X.env).findIdx? (·.1)=none:=by rfl):PG X (.Tuple es k pos) (zH X.K n t):=by
 intro pins s σ H v u Q I r hw;obtain ⟨a,xs,e1,hq,hl,hw⟩:=hw;subst e1
 cases r;obtain ⟨its,rv,ht,hz⟩:=I.tuple hq;refine assign_Tuple_tuple (I.ok.hd hc) ht (by simp [hn,<-hl,rv.length]) hst fun h' hx=>?_
 have I1:Inv X pins σ H { s with heap:=h' }:=I.kept (t':=s.toks) fun b o e=>hx b o (Nat.ne_of_lt (Heap.lt_size e)) e
 exact h pins _ σ H xs _ Q I1 (by simpa using rv) hw
def gSub (to ti:TE) (t:Ac):TG:=fun v σ H Q=>to σ H fun o H1=>ti σ H1 fun i H2=>t o i v H2 fun H3=>Q σ H3
theorem sy {o i:Expr} {to ti:TE} {t:Ac} (ho:PE X o to) (hi:PE X i ti) (hs:Cn X t)
  (ha:∀v,assign (.Subscript o i pos) X.env v=(do
   let ov <-holding [v] (eval o X.env)
   let iv <-holding [v,ov] (eval i X.env)
   standAt pos
   holding [v,ov,iv] (setItem ov iv v)
   release [v,ov,iv] []):=by intro _;rfl):PG X (.Subscript o i pos) (gSub to ti t):=by
 intro pins s σ H v u Q I r h;rw [ha];refine wpAny_bind (wpAny_holding (ck (ho pins s σ H _ I h) fun ov s1 ⟨x,H1,I1,r1,q1⟩=>?_))
 refine wpAny_bind (wpAny_holding (ck (hi pins s1 σ H1 _ I1 q1) fun iv s2 ⟨y,H2,I2,r2,q2⟩=>?_))
 refine wpAny_bind (wpAny_standAt (wpAny_bind (wpAny_holding (ck (hs pins s2 σ H2 x y v ov iv u _ I2 r1 r2 r q2) fun _ s3 ⟨H3,I3,q3⟩=>?_))))
 exact wpAny_release ⟨σ,H3,I3,q3⟩
def gO (te:TE) (g:TG):TS:=fun D σ H=>te σ H fun x H1=>g x σ H1 D.nx
theorem DG {tg e:Expr} {te:TE} {g:TG} (he:PE X e te) (hg:PG X tg g) (hs:swapsWithSole [tg] e pos.line X.env=pure false:=by rfl) (hw:swappedStores [tg] e X.env=pure none:=by rfl)
  (h1:(assignEach [tg] X.env).map (·.2)=[assign tg X.env]:=by rfl):PS X (.Assign [tg] e pos) (gO te g):=by
 intro pins s σ H D I h;refine wpAny_Assign_stores (ck (he pins s σ H _ I h) fun v s1 ⟨x,H1,I1,r1,q1⟩=>?_) hs hw
 rw [h1];exact ck (hg pins s1 σ H1 x v _ I1 r1 q1) fun _ s2 q=>q
theorem CA {i:Nat} {x:Str} {e:Expr} {te:TE} {pos':Pos} (hN:X.N.Nodup) (hi:X.N[i]?=some x) (hx:Loc X.env.scope x) (he:PE X e te) (hs:swapsWith e (some (.Name x pos')) pos.line X.env=pure false:=by rfl) (hf:X.fn x=true\/X.env.scope.names.lookup x=some .local:=by first | exact .inl rfl | exact .inr rfl | assumption) :
  PS X (.Assign [.Name x pos'] e pos) (gO te (gName i)):=by
 intro pins s σ H D I h;refine wpAny_Assign_Name (ck (he pins s σ H _ I h) fun v s1 ⟨y,H1,I1,r1,q1⟩=>?_) hs
 exact DZ I1 hN hi hx r1 (fun s2 I2=>⟨_,H1,I2,q1⟩) hf
def Bo (i:Nat) (te:TE) (ti:Do):TS:=fun D σ H=>∃x,σ[i]?=some (some x)/\te σ H fun y H1=>ti x y H1 fun z H2=>D.nx (σ.set i (some z)) H2
theorem yO {i:Nat} {x:Str} {e:Expr} {te:TE} {op:Operator} {ti:Do} {pos':Pos} (hN:X.N.Nodup) (hi:X.N[i]?=some x) (hx:Loc X.env.scope x) (he:PE X e te) (ho:Hi X op ti) (hf:X.fn x=true\/X.env.scope.names.lookup x=some .local:=by first | exact .inl rfl | exact .inr rfl | assumption) :
  PS X (.AugAssign (.Name x pos') op e pos) (Bo i te ti):=by
 intro pins s σ H D I h;obtain ⟨v,e1,h⟩:=h;obtain ⟨m,hn,hl⟩:=I.loc;have vis:Aa X.env.scope x:=by rcases hx with k | k;exact .inl k;exact .inr (.inl k)
 obtain ⟨u,r,l⟩:=hl i x v hi e1 vis;refine wpAny_AugAssign_Name ?_
 have go:wpAny (model X.prog X.w) X.A (eval e X.env) (fun w s₂=>wpAny (model X.prog X.w) X.A (inplaceOp op u w) (fun r s₃=>wpAny (model X.prog X.w) X.A (storeName X.env x r) (fun _=>SP X pins D .next) X.xe s₃) X.xe s₂) X.xe s:=by
  refine ck (he pins s σ H _ I h) fun w s1 ⟨y,H1,I1,r1,q1⟩=>?_
  refine ck (ho pins s1 σ H1 v y u w _ I1 r r1 q1) fun z s2 ⟨zv,H2,I2,r2,q2⟩=>?_
  exact DZ I2 hN hi hx r2 (fun s3 I3=>⟨_,H2,I3,q2⟩) hf
 rcases l with ⟨hk,hm⟩ | ⟨hk,c,hc,hcell⟩
 ·exact wpAny_loadName_local I.ok.kind hk hn hm go
 ·rcases hk with hk | hk
  ·exact wpAny_loadName_cell I.ok.kind hk hc hcell go
  ·rcases hx with k | k
   ·have:X.env.scope.names.lookup x=some .free:=hk
    rw [k] at this;cases this
   ·have:X.env.scope.names.lookup x=some .free:=hk
    rw [k] at this;cases this
def G8 (f:Int->Int->Int):Do:=fun x y H Q=>∃i j,x=.int i/\y=.int j/\Q (.int (f i j)) H
theorem zw:Hi X .Add (G8 fun i j=>i+j):=by
 intro pins s σ H x y v u Q I r1 r2 h;obtain ⟨i,j,e1,e2,q⟩:=h;subst e1;subst e2;obtain ⟨t,rfl⟩:=r1;obtain ⟨t',rfl⟩:=r2;exact iadd_int ⟨.int _,H,I.tok _,⟨_,rfl⟩,q⟩
end
section
variable {X:Cx} {pos:Pos}
def rR (c:TT) (tb:TS):TS:=fun D σ H=>∃W:Nat->St->Hp->Prop,(∃m,W m σ H)/\∀m σ H,W m σ H ->
 c σ H fun b H1=>if b=true then ∃N:St->Hp->Prop,(∀σ' H',N σ' H'->∃m',m'<m/\W m' σ' H')/\tb { D with nx:=N,ct:=N,bk:=D.nx } σ H1 else D.nx σ H1
theorem sx {c:Expr} {body:List Stmt} {tc:TT} {tb:TS} (hp:PassesOwn (model X.prog X.w) X.A X.env X.xe) (hc:PT X c tc) (hb:PSs X body tb):PS X (.While c body [] pos) (rR tc tb):=by
 intro pins s σ H D I h;obtain ⟨W,⟨m0,w0⟩,turn⟩:=h;refine wpAny_While (codeAny_whileLoop (fun n s'=>∃σ' H',Inv X pins σ' H' s'/\W n σ' H') ?_ m0 ⟨σ,H,I,w0⟩)
 rintro n s1 ⟨σ1,H1,I1,w1⟩
 refine wpAny_passesOwn hp (ck (hc pins s1 σ1 H1 _ I1 (turn n σ1 H1 w1)) fun b s2 ⟨H2,I2,q2⟩=>?_)
 cases b with
 | true=>
  obtain ⟨N,hN,q2⟩:=q2;rw [if_pos rfl];refine wpAny_passesOwn hp (ck (hb pins s2 σ1 H2 _ I2 q2) fun f s3 q3=>?_)
  cases f with
  | next=>
   obtain ⟨σ3,H3,I3,n3⟩:=q3;obtain ⟨m',hm,w3⟩:=hN σ3 H3 n3;exact ⟨m',hm,σ3,H3,I3,w3⟩
  | cont=>
   obtain ⟨σ3,H3,I3,n3⟩:=q3;obtain ⟨m',hm,w3⟩:=hN σ3 H3 n3;exact ⟨m',hm,σ3,H3,I3,w3⟩
  | brk=>exact q3
  | ret v=>exact q3
 | false=>
  rw [if_neg Bool.false_ne_true];exact wpAny_execs_nil ⟨σ1,H2,I2,q2⟩
end
structure It where
 go:Nat->Hp->Prop
 yld:Nat->Hp->V->Hp->Prop
 stop:Nat->Hp->Prop
def jH (X:Cx) (pins:List (Addr×Obj)) (H:Hp) (b:Addr):Prop:=
 H b=none/\b≠X.env.locals/\b∉X.fs/\(b∈X.ex\/X.s₀.heap.objs.size<=b)/\(∀x c,X.env.cells.lookup x=some c->c≠b)/\∀p∈X.pn++pins,p.1≠b
theorem Inv.fpOk {X:Cx} {pins:List (Addr×Obj)} {σ:St} {H H':Hp} {s:Shared} {b:Addr} (I:Inv X pins σ H s) (hb:s.heap.objs.size<=b) (hn:H' b=none):jH X pins H' b:=by
 refine ⟨hn,Nat.ne_of_gt (Nat.lt_of_lt_of_le I.lt hb),I.nofs hb,.inr (Nat.le_trans I.sz hb),fun x c e z=>?_,fun p hp z=>?_⟩
 ·obtain ⟨v,q⟩:=I.cell x c e
  exact absurd (Nat.lt_of_lt_of_le q.lt (by rw [z];exact hb)) (Nat.lt_irrefl _)
 ·exact absurd (Nat.lt_of_lt_of_le (Heap.lt_size (I.pin p hp).1) (by rw [z];exact hb)) (Nat.lt_irrefl _)
structure tW (P:Program) (w:World) (K:Fg) (tg:Expr) (J:It) (fp:List Addr) (it:Addr) (tn:Nat->Heap->Prop):Prop where
 mem:it∈fp
 obj:∀i h,tn i h->∀b∈fp,∃o,h.get? b=some o/\∀v,o.data≠.cell v
 keep:∀i h h',tn i h->(∀b∈fp,∀o,h.get? b=some o->h'.get? b=some o)->tn i h'
 item:∀(X:Cx),X.prog=P->X.w=w->X.K=K->X.calm=true->∀(i:Nat) (pins:List (Addr×Obj)) (s:Shared) (σ:St) (H:Hp) (E:Value->Shared->Prop),Inv X pins σ H s->(∀b∈fp,jH X pins H b)->tn i s.heap->J.go i H ->
  wpAny (model P w) X.A (pyNext (.ref it)) (fun r s1=>∃u,r=some u /\
   wpAny (model P w) X.A (letOwnedTupleGo tg (.ref it) u) (fun _ s2=>∃x H',Inv X pins σ H' s2/\RelV x u/\J.yld i H x H'/\tn (i+1) s2.heap/\∀b∈fp,H' b=none) E s1) E s
 done:∀(X:Cx),X.prog=P->X.w=w->X.K=K->X.calm=true->∀(i:Nat) (pins:List (Addr×Obj)) (s:Shared) (σ:St) (H:Hp) (E:Value->Shared->Prop),Inv X pins σ H s->(∀b∈fp,jH X pins H b)->tn i s.heap->J.stop i H ->
  wpAny (model P w) X.A (pyNext (.ref it)) (fun r s1=>r=none/\Inv X pins σ H s1) E s
 self:∀(A:Around) (i:Nat) (s:Shared) (Q:Value->Shared->Prop) (E:Value->Shared->Prop),tn i s.heap->Q (.ref it) s->wpAny (model P w) A (pyIter (.ref it)) Q E s
abbrev TI:=St->Hp->(It->Hp->Prop)->Prop
def Hj (X:Cx) (pins:List (Addr×Obj)) (σ:St) (tg:Expr) (R:It->Hp->Prop) (itv:Value) (s2:Shared):Prop:=
 ∃(it:Addr) (fp:List Addr) (tn:Nat->Heap->Prop) (J:It) (H':Hp),itv=.ref it/\Inv X pins σ H' s2/\tW X.prog X.w X.K tg J fp it tn/\tn 0 s2.heap/\(∀b∈fp,jH X pins H' b)/\R J H'
def PI (X:Cx) (tg iter:Expr) (wi:TI):Prop:=
 ∀(pins:List (Addr×Obj)) (s:Shared) (σ:St) (H:Hp) (R:It->Hp->Prop),Inv X pins σ H s->wi σ H R ->
  wpAny (model X.prog X.w) X.A (eval iter X.env) (fun v s1=>wpAny (model X.prog X.w) X.A (pyIter v) (Hj X pins σ tg R) X.xe s1) X.xe s
theorem tp {M:Model} {A:Around} {E:Value->Shared->Prop} {s:Shared} {tg:Expr} {it:Addr} {u:Value} {o:Obj} {n:String} {vs:Array Value} {Q:Unit->Shared->Prop} (ho:s.heap.get? it=some o) (hc:o.cls=.type n) (hd:o.data=.fields vs)
  (hn:["enumerate", "zip", "dict_itemiterator", "dict_reverseitemiterator", "odict_iterator", "itertools.zip_longest", "itertools.pairwise"].contains n=false) (hQ:Q () s):wpAny M A (letOwnedTupleGo tg (.ref it) u) Q E s:=by
 unfold letOwnedTupleGo
 cases tg<;>first
  | exact wpAny_pure hQ
  | (cases u<;>first
      | exact wpAny_pure hQ
      | (refine wpAny_bind (wpAny_load ho ?_)
         rw [hc,hd];show wpAny M A (if (["enumerate", "zip", "dict_itemiterator", "dict_reverseitemiterator", "odict_iterator", "itertools.zip_longest", "itertools.pairwise"].contains n&&vs[0]?==some (rawInt _))=true then _ else _) Q E s
         rw [if_neg (by intro h;rw [hn,Bool.false_and] at h;cases h)]
         exact wpAny_pure hQ))
def Dt (K:Fg) (a:Addr):It:=
 ⟨fun i H=>∃xs x,SqL K H a xs/\xs[i]?=some x,fun i H x H'=>H'=H/\∀xs,SqL K H a xs->xs[i]?=some x,fun i H=>∃xs,SqL K H a xs/\xs.length<=i⟩
def Ag (lo:Int) (n:Nat):It:=⟨fun i _=>i<n,fun i H x H'=>H'=H/\x=.int (lo+i),fun i _=>n<=i⟩
theorem pF {P:Program} {w:World} {K:Fg} {tg:Expr} (a it:Addr):tW P w K tg (Dt K a) [it] it (fun i h=>h.IsListIter it a i) where
 mem:=by simp
 obj:=fun i h st b hb=>by
  have e:b=it:=by simpa using hb
  subst e;obtain ⟨o,e,c,d⟩:=st;exact ⟨o,e,fun v z=>by rw [d] at z;cases z⟩
 keep:=fun i h h' st k=>st.at fun o e=>k it (by simp) o e
 item:=by
  intro X hP hw hK hc i pins s σ H E I hf st hg;subst hP hw hK;obtain ⟨xs,x,hq,hx⟩:=hg;obtain ⟨its,rv,p,hz⟩:=I.list hq;obtain ⟨u,hu,ru⟩:=rv.get hx;obtain ⟨f0,f1,f2,f3,f4,f5⟩:=hf it (by simp)
  refine wpAny_pyNext_list_item st p.isList (x:=u) (by simpa using hu) fun h' st' sb=>?_
  have I1:Inv X pins σ H { s with heap:=h' }:=I.turned (t':=s.toks) (fun b o hb e=>(sb.2 b hb).trans e) f0 f1 f3 f4 f5
  obtain ⟨o,e,c,d⟩:=id st'
  exact ⟨u,rfl,tp (s:={ s with heap:=h' }) e c d (by decide) ⟨x,H,I1,ru,⟨rfl,fun ys hy=>by rw [I.list_inj hy hq];exact hx⟩,st',fun b hb=>(hf b hb).1⟩⟩
 done:=by
  intro X hP hw hK hc i pins s σ H E I hf st hg;subst hP hw hK;obtain ⟨xs,hq,hx⟩:=hg;obtain ⟨its,rv,p,hz⟩:=I.list hq;obtain ⟨f0,f1,f2,f3,f4,f5⟩:=hf it (by simp)
  have hl:=rv.length
  exact wpAny_pyNext_list_end (I.ok.hd hc) st p.isList (by simp;omega) fun h' eb=>⟨rfl,I.turned (t':=s.toks) (fun b o hb e=>eb b o hb e) f0 f1 f3 f4 f5⟩
 self:=fun _ _ _ _ _ st h=>wpAny_pyIter_listiter st h
theorem nr {P:Program} {w:World} {K:Fg} {tg:Expr} (it:Addr) (lo:Int) (n:Nat):tW P w K tg (Ag lo n) [it] it (fun i h=>IsRangeIter h it (lo+(i:Nat)*1) ((n:Int)-(i:Nat)) 1) where
 mem:=by simp
 obj:=fun i h st b hb=>by
  have e:b=it:=by simpa using hb
  subst e;exact ⟨_,st,fun v z=>by
   have z':Data.fields _=Data.cell v:=z
   cases z'⟩
 keep:=fun i h h' st k=>k it (by simp) _ st
 item:=by
  intro X hP hw hK hc i pins s σ H E I hf st hg;subst hP hw hK;obtain ⟨f0,f1,f2,f3,f4,f5⟩:=hf it (by simp)
  have W:=Walks.range (prog:=X.prog) (w:=X.w) (I.ok.hd hc) it lo 1 n
  refine W.item i s _ _ hg st fun v h' tk hv st' kk=>?_
  obtain ⟨t,rfl⟩:=hv;have I1:Inv X pins σ H { s with heap:=h',toks:=tk }:=I.turned (fun b o hb e=>kk b o (by simpa using hb) e) f0 f1 f3 f4 f5
  refine ⟨_,rfl,tp (s:={ s with heap:=h',toks:=tk }) (n := "range_iterator") st' rfl rfl (by decide) ⟨.int (lo+i),H,I1,⟨t,?_⟩,⟨rfl,rfl⟩,st',fun b hb=>(hf b hb).1⟩⟩
  rw [Int.mul_one]
 done:=by
  intro X hP hw hK hc i pins s σ H E I hf st hg;subst hP hw hK;obtain ⟨f0,f1,f2,f3,f4,f5⟩:=hf it (by simp)
  exact wpAny_pyNext_range_end (I.ok.hd hc) st (by have:n<=i:=hg;omega) fun h' eb=>⟨rfl,I.turned (t':=s.toks) (fun b o hb e=>eb b o hb e) f0 f1 f3 f4 f5⟩
 self:=fun _ _ _ _ _ st h=>wpAny_pyIter_rangeiter st h
section
variable {X:Cx} {tg:Expr}
def xw (K:Fg) (tl:TE):TI:=fun σ H R=>tl σ H fun x H1=>∃a,x=.ref a/\(∃xs,SqL K H1 a xs)/\R (Dt K a) H1
theorem va {l:Expr} {tl:TE} (hl:PE X l tl):PI X tg l (xw X.K tl):=by
 intro pins s σ H R I h;refine ck (hl pins s σ H _ I h) fun v s1 ⟨x,H1,I1,r1,q1⟩=>?_
 obtain ⟨a,e,⟨xs,hq⟩,q⟩:=q1;subst e
 cases r1;obtain ⟨its,rv,p,hz⟩:=I1.list hq;refine wpAny_pyIter_list p.isList ?_
 refine ⟨s1.heap.objs.size,[s1.heap.objs.size],_,_,H1,rfl,I1.kept (t':=s1.toks) fun b o e=>Heap.get?_push_of_some _ e,pF a _,⟨_,Heap.get?_push_size _ rfl,rfl,rfl⟩,fun b hb=>?_,q⟩
 have e:b=s1.heap.objs.size:=by simpa using hb
 subst e;exact I1.fpOk (Nat.le_refl _) (I1.hok.fresh (Nat.le_refl _))
theorem ma {pins:List (Addr×Obj)} {σ:St} {H:Hp} {s:Shared} {R:It->Hp->Prop} {E:Value->Shared->Prop} {lo hi:Int} {t u v:Tok} {tk:Nat} (I:Inv X pins σ H s) (h1:-(2 ^ 62)<=lo) (h2:lo<2 ^ 62) (h3:-(2 ^ 62)<=hi) (h4:hi<2 ^ 62)
  (q:R (Ag lo (hi-lo).toNat) H):wpAny (model X.prog X.w) X.A (pyIter (.ref s.heap.objs.size)) (Hj X pins σ tg R) E { s with heap:=s.heap.push { cls:=.type "range",data:=.fields #[.int lo t,.int hi u,.int 1 v] },toks:=tk }:=by
 refine wpAny_pyIter_range (IsRange.new ..) (small_one h1 h2 h3 h4) ?_
 have I1:Inv X pins σ H { s with heap:=s.heap.push { cls:=.type "range",data:=.fields #[.int lo t,.int hi u,.int 1 v] },toks:=tk }:=I.kept fun b o e=>Heap.get?_push_of_some _ e
 refine ⟨(s.heap.push { cls:=.type "range",data:=.fields #[.int lo t,.int hi u,.int 1 v] }).objs.size,[(s.heap.push { cls:=.type "range",data:=.fields #[.int lo t,.int hi u,.int 1 v] }).objs.size],_,_,H,rfl,
  I1.kept (t':=tk) fun b o e=>Heap.get?_push_of_some _ e,nr _ lo (hi-lo).toNat,?_,fun b hb=>?_,q⟩
 ·have e1:lo+((0:Nat):Int)*1=lo:=by simp
  have e2:(((hi-lo).toNat:Nat):Int)-((0:Nat):Int)=Builtin.Range.rangeSize lo hi 1:=by rw [rangeSize_one];split<;>omega
  show IsRangeIter _ _ (lo+((0:Nat):Int)*1) ((((hi-lo).toNat:Nat):Int)-((0:Nat):Int)) 1
  rw [e1,e2];exact Heap.get?_push_size _ rfl
 ·have e:b=(s.heap.push { cls:=.type "range",data:=.fields #[.int lo t,.int hi u,.int 1 v] }).objs.size:=by simpa using hb
  subst e;exact I1.fpOk (Nat.le_refl _) (I1.hok.fresh (Nat.le_refl _))
def xv (ta:TA):TI:=fun σ H R=>ta σ H fun vs H1=>∃j:Int,vs=[.int j]/\-(2 ^ 62)<=j/\j<2 ^ 62/\R (Ag 0 j.toNat) H1
def xu (ta:TA):TI:=fun σ H R=>ta σ H fun vs H1=>∃i j:Int,vs=[.int i,.int j]/\(-(2 ^ 62)<=i/\i<2 ^ 62/\-(2 ^ 62)<=j/\j<2 ^ 62)/\R (Ag i (j-i).toNat) H1
theorem pW {a:Expr} {ta:TA} {p pos:Pos} (hg:Gl X "range") (hm:X.mg "range"=none) (ha:PA X [a] ta) (hs:starEach [a] X.env=[(false,eval a X.env)]:=by rfl):PI X tg (.Call (.Name "range" p) [a] [] pos) (xv ta):=by
 intro pins s σ H R I h;refine Call_ (wB I hg hm boot_range (PyProof.Rows.callWith_type1 (ck (ha pos pins s σ H _ I h) fun us s1 ⟨vs,H1,I1,r1,q1⟩=>?_) hs rfl))
 obtain ⟨j,e,q1,q2,q⟩:=q1;subst e
 cases r1 with
 | cons r rr=>
  cases rr;obtain ⟨t,rfl⟩:=r;exact call_range_1 (ma I1 (by omega) (by omega) q1 q2 (by simpa using q))
theorem pV {a b:Expr} {ta:TA} {p pos:Pos} (hg:Gl X "range") (hm:X.mg "range"=none) (ha:PA X [a,b] ta) (hs:starEach [a,b] X.env=[(false,eval a X.env),(false,eval b X.env)]:=by rfl) (hs2:starEach [b] X.env=[(false,eval b X.env)]:=by rfl) :
  PI X tg (.Call (.Name "range" p) [a,b] [] pos) (xu ta):=by
 intro pins s σ H R I h;refine Call_ (wB I hg hm boot_range (PyProof.Rows.callWith_type1 (ck (ha pos pins s σ H _ I h) fun us s1 ⟨vs,H1,I1,r1,q1⟩=>?_) (by rw [hs,hs2]) (by rw [hs2];rfl)))
 obtain ⟨i,j,e,⟨q1,q2,q3,q4⟩,q⟩:=q1;subst e
 cases r1 with
 | cons r rr=>
  cases rr with
  | cons r' rr=>
   cases rr;obtain ⟨t,rfl⟩:=r;obtain ⟨t',rfl⟩:=r'
   exact call_range_2 (ma I1 q1 q2 q3 q4 q)
def Bm (wi:TI) (g:TG) (tb:TS):TS:=fun D σ H=>wi σ H fun J H1=>∃W:Nat->Nat->St->Hp->Prop,(∃m,W 0 m σ H1)/\∀i m σ H,W i m σ H ->
 (J.stop i H/\D.nx σ H)\/(J.go i H/\∃N:St->Hp->Prop,(∀σ' H',N σ' H'->∃m',m'<m/\W (i+1) m' σ' H')/\∀x H',J.yld i H x H'->g x σ H' fun σ2 H2=>tb { D with nx:=N,ct:=N,bk:=D.nx } σ2 H2)
def AO (fp:List Addr) (h:Heap):List (Addr×Obj):=fp.filterMap fun b=>(h.get? b).map fun o=>(b,o)
theorem CQ {fp:List Addr} {h:Heap} {b:Addr} {o:Obj} (hb:b∈fp) (e:h.get? b=some o):(b,o)∈AO fp h:=List.mem_filterMap.mpr ⟨b,hb,by rw [e];rfl⟩
theorem p8 {fp:List Addr} {h:Heap} {p:Addr×Obj} (hp:p∈AO fp h):p.1∈fp/\h.get? p.1=some p.2:=by
 obtain ⟨b,hb,e⟩:=List.mem_filterMap.mp hp
 cases q:h.get? b with
 | none=>rw [q] at e;cases e
 | some o=>
  rw [q] at e;have e':(b,o)=p:=Option.some.inj e
  subst e'
  exact ⟨hb,q⟩
theorem Inv.pinned {pins:List (Addr×Obj)} {σ:St} {H:Hp} {s:Shared} {fp:List Addr} (I:Inv X pins σ H s) (hf:∀b∈fp,jH X pins H b) (ho:∀b∈fp,∃o,s.heap.get? b=some o/\∀v,o.data≠.cell v):Inv X (pins++AO fp s.heap) σ H s:=
 I.pins_of fun p hp=>(List.mem_append.mp hp).elim (fun z=>I.pin p (mem_append_right _ z)) fun z=>by
  obtain ⟨hb,e⟩:=p8 z;obtain ⟨f0,f1,f2,_⟩:=hf p.1 hb;obtain ⟨o,e',d⟩:=ho p.1 hb;rw [e] at e';cases e'
  exact ⟨e,f0,f1,f2,d⟩
theorem Inv.unpinned {pins pl:List (Addr×Obj)} {σ:St} {H:Hp} {s:Shared} (I:Inv X (pins++pl) σ H s):Inv X pins σ H s:=I.pins_of fun p hp=>I.pin p (mem_append_right _ (mem_append_left _ hp))
theorem yN {iter:Expr} {body:List Stmt} {wi:TI} {g:TG} {tb:TS} {pos:Pos} (hp:PassesOwn (model X.prog X.w) X.A X.env X.xe) (hc:X.calm=true) (hi:PI X tg iter wi) (hg:PG X tg g) (hb:PSs X body tb)
  (hs:∀x,foldedSetIterable iter X.env x=pure x:=by intro _;rfl):PS X (.For tg iter body [] pos) (Bm wi g tb):=by
 intro pins s σ H D I h;refine wpAny_For (ck (hi pins s σ H _ I h) fun v s1 h1=>ck h1 fun itv s2 h2=>?_) hs
 obtain ⟨it,fp,tn,J,H2,e,I2,T,st2,f2,W,⟨m0,w0⟩,turn⟩:=h2;subst e;have stat:∀{H':Hp},(∀b∈fp,H' b=none)->∀b∈fp,jH X pins H' b:=fun hn b hb=>⟨hn b hb,(f2 b hb).2⟩
 refine codeAny_forLoop_any (fun n s'=>∃i σ' H',Inv X pins σ' H' s'/\tn i s'.heap/\(∀b∈fp,H' b=none)/\W i n σ' H') ?_ m0 ⟨0,σ,H2,I2,st2,fun b hb=>(f2 b hb).1,w0⟩
 rintro n s3 ⟨i,σ3,H3,I3,st3,fr3,w3⟩
 rcases turn i n σ3 H3 w3 with ⟨stop,qn⟩ | ⟨go,N,hN,step⟩
 ·refine wpAny_passesOwn hp (ck (T.done X rfl rfl rfl hc i pins s3 σ3 H3 X.xe I3 (stat fr3) st3 stop) fun r s4 ⟨hr,I4⟩=>?_)
  subst hr;exact wpAny_execs_nil ⟨σ3,H3,I4,qn⟩
 ·refine wpAny_passesOwn hp (ck (T.item X rfl rfl rfl hc i pins s3 σ3 H3 X.xe I3 (stat fr3) st3 go) fun r s4 ⟨u,hr,h4⟩=>?_)
  subst hr;refine wpAny_passesOwn hp (ck h4 fun _ s5 ⟨x,H5,I5,r5,y5,st5,fr5⟩=>?_)
  have I5':=I5.pinned (stat fr5) (T.obj _ _ st5)
  refine wpAny_passesOwn hp (ck (hg _ s5 σ3 H5 x u _ I5' r5 (step x H5 y5)) fun _ s6 ⟨σ6,H6,I6,q6⟩=>?_)
  refine wpAny_passesOwn hp (ck (hb _ s6 σ6 H6 _ I6 q6) fun f s7 q7=>?_)
  have again:∀{σ7:St} {H7:Hp},Inv X (pins++AO fp s5.heap) σ7 H7 s7->N σ7 H7->∃m,m<n/\∃i σ' H',Inv X pins σ' H' s7/\tn i s7.heap/\(∀b∈fp,H' b=none)/\W i m σ' H':=fun {σ7 H7} I7 n7=>by
   obtain ⟨m',hm,w7⟩:=hN σ7 H7 n7;refine ⟨m',hm,i+1,σ7,H7,I7.unpinned,T.keep _ _ _ st5 fun b hb o e=>(I7.pin (b,o) (mem_append_right _ (mem_append_right _ (CQ hb e)))).1,fun b hb=>?_,w7⟩
   obtain ⟨o,e,d⟩:=T.obj _ _ st5 b hb;exact (I7.pin (b,o) (mem_append_right _ (mem_append_right _ (CQ hb e)))).2.1
  cases f with
  | next=>obtain ⟨σ7,H7,I7,n7⟩:=q7;exact again I7 n7
  | cont=>obtain ⟨σ7,H7,I7,n7⟩:=q7;exact again I7 n7
  | brk=>obtain ⟨σ7,H7,I7,q7⟩:=q7;exact ⟨σ7,H7,I7.unpinned,q7⟩
  | ret v=>obtain ⟨x7,σ7,H7,I7,r7,q7⟩:=q7;exact ⟨x7,σ7,H7,I7.unpinned,r7,q7⟩
end
abbrev R2:=V->V->Hp->VK->Prop
def OpR (X:Cx) (f:Value->Value->Sem Value) (r:R2):Prop:=
 ∀(pins:List (Addr×Obj)) (s:Shared) (σ:St) (H:Hp) (x y:V) (v u:Value) (Q:VK),Inv X pins σ H s->RelV x v->RelV y u->r x y H Q ->
  wpAny (model X.prog X.w) X.A (f v u) (EP X pins σ Q) X.xe s
def CallR (X:Cx) (f:Value) (r:List V->Hp->VK->Prop):Prop:=
 ∀(pins:List (Addr×Obj)) (s:Shared) (σ:St) (H:Hp) (xs:List V) (us:List Value) (Q:VK),Inv X pins σ H s->Vals xs us->r xs H Q ->
  wpAny (model X.prog X.w) X.A (call f us) (EP X pins σ Q) X.xe s
def Gg (X:Cx) (r:V->Hp->(Bool->Hp->Prop)->Prop):Prop:=
 ∀(pins:List (Addr×Obj)) (s:Shared) (σ:St) (H:Hp) (x:V) (v:Value) (Q:Bool->Hp->Prop),Inv X pins σ H s->RelV x v->r x H Q ->
  wpAny (model X.prog X.w) X.A (truthy v) (TP X pins σ Q) X.xe s
def lu (r:R2) (ta tb:TE):TE:=fun σ H Q=>ta σ H fun x H1=>tb σ H1 fun y H2=>r x y H2 Q
def rI (C:Int->Int->Prop) (g:Int->Int->V):R2:=fun x y H Q=>∃i j,x=.int i/\y=.int j/\C i j/\Q (g i j) H
def oM (g:Int->Int->V):R2:=fun x y H Q=>∃i j,x=.int i/\y=.int j/\Q (g i j) H
section
variable {X:Cx} {a b c:Expr} {ta tb tc:TE} {pos:Pos}
theorem zY (ha:PE X a ta) (hb:PE X b tb) {pins:List (Addr×Obj)} {s:Shared} {σ:St} {H:Hp} {R:V->V->Hp->Prop} (I:Inv X pins σ H s)
  (h:ta σ H fun x H1=>tb σ H1 fun y H2=>R x y H2) {Q:Value->Shared->Prop} {f:Value->Value->Sem Value}
  (hf:∀v u s2 x y H2,Inv X pins σ H2 s2->RelV x v->RelV y u->R x y H2->wpAny (model X.prog X.w) X.A (f v u) Q X.xe s2) :
  wpAny (model X.prog X.w) X.A (eval a X.env) (fun v s₁=>wpAny (model X.prog X.w) X.A (eval b X.env) (fun u s₂=>wpAny (model X.prog X.w) X.A (f v u) Q X.xe s₂) X.xe s₁) X.xe s:=by
 refine ck (ha pins s σ H _ I h) fun v s1 ⟨x,H1,I1,r1,q1⟩=>?_
 refine ck (hb pins s1 σ H1 _ I1 q1) fun u s2 ⟨y,H2,I2,r2,q2⟩=>?_
 exact hf v u s2 x y H2 I2 r1 r2 q2
theorem jZ {op:Operator} {r:R2} (ho:OpR X (binaryOp op) r) (ha:PE X a ta) (hb:PE X b tb):PE X (.BinOp a op b pos) (lu r ta tb):=by
 intro pins s σ H Q I h;exact wpAny_BinOp (zY ha hb I h fun v u s2 x y H2 I2 rx ry q=>ho pins s2 σ H2 x y v u Q I2 rx ry q)
theorem De {f:Value->Value->Sem Value} {C:Int->Int->Prop} {g:Int->Int->Int}
  (rule:∀(i j:Int) (t u:Tok) (s:Shared) (Q:Value->Shared->Prop) (E:Value->Shared->Prop),C i j->Q (.int (g i j) s.toks) { s with toks:=s.toks+1 }->wpAny (model X.prog X.w) X.A (f (.int i t) (.int j u)) Q E s) :
  OpR X f (rI C fun i j=>.int (g i j)):=by
 intro pins s σ H x y v u Q I rx ry h;obtain ⟨i,j,rfl,rfl,hc,q⟩:=h;obtain ⟨t,rfl⟩:=rx;obtain ⟨t',rfl⟩:=ry;exact rule i j t t' s _ _ hc ⟨.int (g i j),H,I.tok _,⟨_,rfl⟩,q⟩
theorem BN {f:Value->Value->Sem Value} {g:Int->Int->Int}
  (rule:∀(i j:Int) (t u:Tok) (s:Shared) (Q:Value->Shared->Prop) (E:Value->Shared->Prop),Q (.int (g i j) s.toks) { s with toks:=s.toks+1 }->wpAny (model X.prog X.w) X.A (f (.int i t) (.int j u)) Q E s) :
  OpR X f (oM fun i j=>.int (g i j)):=by
 intro pins s σ H x y v u Q I rx ry h;obtain ⟨i,j,rfl,rfl,q⟩:=h;obtain ⟨t,rfl⟩:=rx;obtain ⟨t',rfl⟩:=ry;exact rule i j t t' s _ _ ⟨.int (g i j),H,I.tok _,⟨_,rfl⟩,q⟩
theorem vh {f:Value->Value->Sem Value} {g:Int->Int->Bool}
  (rule:∀(i j:Int) (t u:Tok) (s:Shared) (Q:Value->Shared->Prop) (E:Value->Shared->Prop),Q (.bool (g i j)) s->wpAny (model X.prog X.w) X.A (f (.int i t) (.int j u)) Q E s) :
  OpR X f (oM fun i j=>.bl (g i j)):=by
 intro pins s σ H x y v u Q I rx ry h;obtain ⟨i,j,rfl,rfl,q⟩:=h;obtain ⟨t,rfl⟩:=rx;obtain ⟨t',rfl⟩:=ry;exact rule i j t t' s _ _ ⟨.bl (g i j),H,I,rfl,q⟩
def Gr (i j:Int):Prop:=0<j/\j<1073741824
def Gq (i j:Int):Prop:=0<=j/\j<=1000000/\i.natAbs<2 ^ 64
def CMul (i j:Int):Prop:=(-(2 ^ 64)<i/\i<2 ^ 64)\/(-(2 ^ 64)<j/\j<2 ^ 64)
theorem CMul.ok {i j:Int} (h:CMul i j):IntMulOk i j:=by
 rcases h with ⟨h1,h2⟩ | ⟨h1,h2⟩
 ·exact .of_left (intBits_le_64 h1 h2)
 ·exact .of_right (intBits_le_64 h1 h2)
theorem zd:OpR X (binaryOp .Add) (oM fun i j=>.int (i+j)):=BN fun _ _ _ _ _ _ _ q=>add_int q
theorem yY:OpR X (binaryOp .Sub) (oM fun i j=>.int (i-j)):=BN fun _ _ _ _ _ _ _ q=>sub_int q
theorem y1:OpR X (binaryOp .Mult) (rI CMul fun i j=>.int (i*j)):=De fun _ _ _ _ _ _ _ hc q=>mul_int q hc.ok
theorem vg:OpR X (binaryOp .FloorDiv) (rI Gr fun i j=>.int (i / j)):=De fun i j _ _ _ _ _ hc q=>by
 have h1:(0:Int)<j:=hc.1
 have h2:j<1073741824:=hc.2
 exact floordiv_int (by omega) (by rw [Int.fdiv_eq_ediv_of_nonneg i (by omega)];exact q) (.inl (PyProof.noPylong_small (by omega)))
theorem y2:OpR X (binaryOp .Mod) (rI (fun _ j=>0<j) fun i j=>.int (i % j)):=De fun i j _ _ _ _ _ hc q=>by
 have h1:(0:Int)<j:=hc
 exact mod_int' (by omega) (by rw [Int.fmod_eq_emod_of_nonneg i (by omega)];exact q)
theorem yZ:OpR X (binaryOp .Pow) (rI Gq fun i j=>.int (i ^ j.toNat)):=De fun _ _ _ _ _ _ _ hc q=>pow_int_small hc.1 hc.2.1 hc.2.2 q
end
def scal:V->V->Bool
 | .non,.non=>true | .non,.int _=>true | .int _,.non=>true | .non,.bl _=>true | .bl _,.non=>true | .non,.str _=>true | .str _,.non=>true
 | .int _,.int _=>true | .bl _,.bl _=>true | .str _,.str _=>true | .byt _,.byt _=>true
 | .int _,.str _=>true | .str _,.int _=>true | .bl _,.str _=>true | .str _,.bl _=>true
 | _,_=>false
section
variable {X:Cx} {a b c:Expr} {ta tb tc:TE} {pos:Pos}
theorem Cy {pins:List (Addr×Obj)} {σ:St} {H:Hp} {s:Shared} {Q:VK} {k k':Bool} (I:Inv X pins σ H s) (q:Q (.bl k) H) (e:k=k'):EP X pins σ Q (.bool k') s:=by
 subst e;exact ⟨.bl k,H,I,rfl,q⟩
theorem op_lt:OpR X (compareOp .Lt) (oM fun i j=>.bl (decide (i<j))):=vh fun _ _ _ _ _ _ _ q=>lt_int q
theorem BL:OpR X (compareOp .LtE) (oM fun i j=>.bl (decide (i<=j))):=vh fun _ _ _ _ _ _ _ q=>le_int q
theorem BM:OpR X (compareOp .Gt) (oM fun i j=>.bl (decide (j<i))):=vh fun _ _ _ _ _ _ _ q=>gt_int q
theorem op_ge:OpR X (compareOp .GtE) (oM fun i j=>.bl (decide (j<=i))):=vh fun _ _ _ _ _ _ _ q=>ge_int q
theorem pZ:OpR X (compareOp .Lt) (fun x y H Q=>∃i j,x=.str i/\y=.str j/\Q (.bl (decide (i.cps.toList<j.cps.toList))) H):=by
 intro pins s σ H x y v u Q I rx ry h;obtain ⟨i,j,rfl,rfl,q⟩:=h;obtain ⟨t,rfl⟩:=rx;obtain ⟨t',rfl⟩:=ry;exact lt_str (Cy I q rfl)
theorem y3:OpR X (compareOp .Is) (fun x y H Q=>y=.non/\Q (.bl (decide (x=.non))) H):=by
 intro pins s σ H x y v u Q I rx ry h;obtain ⟨rfl,q⟩:=h
 cases ry;refine is_none_gen (Cy I q ?_)
 cases x<;>first
  | (cases rx;rfl)
  | (obtain ⟨t,rfl⟩:=rx;rfl)
theorem vf:OpR X (compareOp .IsNot) (fun x y H Q=>y=.non/\Q (.bl (!decide (x=.non))) H):=by
 intro pins s σ H x y v u Q I rx ry h;obtain ⟨rfl,q⟩:=h
 cases ry;refine isnot_none_gen (Cy I q ?_)
 cases x<;>first
  | (cases rx;rfl)
  | (obtain ⟨t,rfl⟩:=rx;rfl)
theorem OpR.or {f:Value->Value->Sem Value} {r r':R2} (h:OpR X f r) (h':OpR X f r'):OpR X f (fun x y H Q=>r x y H Q\/r' x y H Q):=by
 intro pins s σ H x y v u Q I rx ry q;rcases q with q | q
 ·exact h pins s σ H x y v u Q I rx ry q
 ·exact h' pins s σ H x y v u Q I rx ry q
theorem vc {op:CmpOp} {r:R2} (ho:OpR X (compareOp op) r) (ha:PE X a ta) (hb:PE X b tb) (hm:behindInMarks op b=false):PE X (.Compare a [op] [b] pos) (lu r ta tb):=by
 intro pins s σ H Q I h;exact wpAny_Compare1 (zY ha hb I h fun v u s2 x y H2 I2 rx ry q=>ho pins s2 σ H2 x y v u Q I2 rx ry q) hm
def w4 (t:TE):TT:=fun σ H Q=>t σ H fun x H'=>∃k,x=.bl k/\Q k H'
theorem u7 {op:CmpOp} {r:R2} (ho:OpR X (compareOp op) r) (ha:PE X a ta) (hb:PE X b tb) (hm:behindInMarks op b=false):PT X (.Compare a [op] [b] pos) (w4 (lu r ta tb)):=by
 intro pins s σ H Q I h;refine wpAny_isTrue_Compare1 (ck (ha pins s σ H _ I h) fun v s1 ⟨x,H1,I1,r1,q1⟩=>ck (hb pins s1 σ H1 _ I1 q1) fun u s2 ⟨y,H2,I2,r2,q2⟩=>
  ck (ho pins s2 σ H2 x y v u _ I2 r1 r2 q2) fun c s3 ⟨z,H3,I3,r3,k,e,q3⟩=>?_) hm
 subst e
 cases r3;exact wpAny_truthy_bool ⟨H3,I3,q3⟩
def rT (r r':R2) (ta tb tc:TE):TE:=fun σ H Q=>ta σ H fun x H1=>tb σ H1 fun y H2=>r x y H2 fun z H3=>∃k,z=.bl k /\
 (if k=true then tc σ H3 fun w' H4=>r' y w' H4 Q else Q (.bl false) H3)
theorem sD {op op':CmpOp} {r r':R2} (ho:OpR X (compareOp op) r) (ho':OpR X (compareOp op') r') (ha:PE X a ta) (hb:PE X b tb) (hc:PE X c tc)
  (hm:lastMarks [op,op'] [b,c]=false:=by with_unfolding_all rfl):PE X (.Compare a [op,op'] [b,c] pos) (rT r r' ta tb tc):=by
 intro pins s σ H Q I h;refine Compare_chain (ck (ha pins s σ H _ I h) fun v s1 ⟨x,H1,I1,r1,q1⟩=>chain_link (ck (hb pins s1 σ H1 _ I1 q1) fun u s2 ⟨y,H2,I2,r2,q2⟩=>
  ck (ho pins s2 σ H2 x y v u _ I2 r1 r2 q2) fun d s3 ⟨z,H3,I3,r3,k,e,q3⟩=>?_)) hm
 subst e
 cases r3;refine wpAny_truthy_bool ?_
 cases k with
 | false=>exact ite_ff ⟨.bl false,H3,I3,rfl,q3⟩
 | true=>exact ite_tt (chain_last (ck (hc pins s3 σ H3 _ I3 q3) fun w' s4 ⟨z',H4,I4,r4,q4⟩=>ho' pins s4 σ H4 y z' u w' Q I4 r2 r4 q4))
def Ab (K:Fg) (x:V) (H:Hp) (k:Bool):Prop:=
 match x with
 | .non=>k=false
 | .bl b=>k=b
 | .int i=>k=(i != 0)
 | .str y=>y.length<=sizeLine/\k=((y.length:Int) != 0)
 | .byt y=>y.size<=sizeLine/\k=((y.size:Int) != 0)
 | .ref p=>(∃xs,SqL K H p xs/\k=!xs.isEmpty)\/(∃xs,SqT K H p xs/\k=!xs.isEmpty)\/∃kvs,H p=some (.dK kvs)/\k=!kvs.isEmpty
 | _=>False
theorem nK {κ:Type} {kvs:List (κ×V)} {vs:List (κ×Value)} (r:KV kvs vs):(!vs.isEmpty)=!kvs.isEmpty:=by
 cases r<;>rfl
theorem iL {xs:List V} {its:List Value} (r:Vals xs its):(!its.toArray.isEmpty)=!xs.isEmpty:=by
 cases r<;>simp
theorem xO:(sizeLine:Nat)<2 ^ 63:=by rw [sizeLine_eq];decide
theorem yb:Gg X (fun x H Q=>∃k,Ab X.K x H k/\Q k H):=by
 intro pins s σ H x v Q I rx h;obtain ⟨k,e,q⟩:=h;have hl:=xO
 have hs:sizeLine=16777216:=sizeLine_eq
 cases x with
 | non=>
  cases rx;have e':k=false:=e
  subst e'
  exact truthy_none ⟨H,I,q⟩
 | bl b=>
  cases rx;have e':k=b:=e
  subst e'
  exact wpAny_truthy_bool ⟨H,I,q⟩
 | int i=>
  obtain ⟨t,rfl⟩:=rx;have e':k=(i != 0):=e
  subst e'
  exact PySem.P.truthy_int ⟨H,I,q⟩
 | str y=>
  obtain ⟨t,rfl⟩:=rx;obtain ⟨hy,e'⟩:y.length<=sizeLine/\k=((y.length:Int) != 0):=e
  subst e'
  exact PySem.P.truthy_str (by omega) ⟨H,I.tok _,q⟩
 | byt y=>
  obtain ⟨t,rfl⟩:=rx;obtain ⟨hy,e'⟩:y.size<=sizeLine/\k=((y.size:Int) != 0):=e
  subst e'
  exact PySem.W.truthy_bytes (by omega) ⟨H,I.tok _,q⟩
 | ref p=>
  cases rx;have e':(∃xs,SqL X.K H p xs/\k=!xs.isEmpty)\/(∃xs,SqT X.K H p xs/\k=!xs.isEmpty)\/∃kvs,H p=some (.dK kvs)/\k=!kvs.isEmpty:=e
  rcases e' with ⟨xs,hx,e'⟩ | ⟨xs,hx,e'⟩ | ⟨kvs,hx,e'⟩
  ·subst e'
   obtain ⟨its,r,pl,hz⟩:=I.list hx;have hlen:=r.length
   exact wpAny_truthy_list pl.isList (by simp only [size_toArray];omega) ⟨H,I.tok _,by rw [iL r];exact q⟩
  ·subst e'
   obtain ⟨its,r,pl,hz⟩:=I.tuple hx;have hlen:=r.length
   exact truthy_tuple pl (by simp only [size_toArray];omega) ⟨H,I.tok _,by rw [iL r];exact q⟩
  ·subst e'
   obtain ⟨hz,hS,vs,r,m⟩:kvs.length<=sizeLine/\(p==sysModules)=false/\∃vs,KV kvs vs/\s.heap.DictOf (D7 X.prog X.w) p vs:=I.hok p _ hx
   have hlen:kvs.length=vs.length:=Paired.length r
   exact wpAny_truthy_dict hS m (by omega) ⟨H,I.tok _,by rw [nK r];exact q⟩
 | _=>exact (show False from e).elim
theorem sv (ha:PE X a ta) (he:∀whole,isTrue a X.env whole=(do let v <-whole;standAt a.pos;holding [v] (truthy v))) :
  PT X a (fun σ H Q=>ta σ H fun x H'=>∃k,Ab X.K x H' k/\Q k H'):=by
 intro pins s σ H Q I h;exact isTrue_plain (ck (ha pins s σ H _ I h) fun v s1 ⟨x,H1,I1,r1,q1⟩=>yb pins s1 σ H1 x v Q I1 r1 q1) (he _)
theorem vals1 {x:V} {us:List Value} (r:Vals [x] us):∃u,us=[u]/\RelV x u:=by
 cases r with
 | cons r1 r2=>cases r2;exact ⟨_,rfl,r1⟩
theorem qJ:CallR X (.type "int") (fun xs H Q=>(∃i,xs=[.int i]/\Q (.int i) H)\/∃k,xs=[.bl k]/\Q (.int (if k then 1 else 0)) H):=by
 intro pins s σ H xs us Q I r h;rcases h with ⟨i,rfl,q⟩ | ⟨k,rfl,q⟩
 ·obtain ⟨u,rfl,t,rfl⟩:=vals1 r
  exact call_int_int ⟨.int i,H,I,⟨_,rfl⟩,q⟩
 ·obtain ⟨u,rfl,r1⟩:=vals1 r
  cases r1;exact call_int_bool ⟨.int (if k then 1 else 0),H,I.tok _,⟨_,rfl⟩,q⟩
end
structure ObjM (h:Heap) (x dx C:Addr) (mA:Str->Option Value):Prop where
 obj:h.get? x=some (PySem.W.instObj C dx)
 ns:h.Ns1 dx mA
 ne:dx≠x
theorem qg {h:Heap} {dx:Addr} {mA:Str->Option Value} (n:h.Ns1 dx mA):∃od,h.get? dx=some od/\∀name,PySem.W.lookIn name od=some (mA name):=by
 obtain ⟨o,es,ep,ho,hd,hk,_,hm⟩:=n;refine ⟨o,ho,fun name=>?_⟩
 have e:=hm name
 unfold nsFind findBy at e;rw [<-Array.find?_toList] at e;unfold PySem.W.lookIn;rw [hd];dsimp only;split
 ·rename_i y q
  rw [q] at e;exact congrArg some e
 ·rename_i q
  rw [q] at e;have a:es.toList.any (·.refKey)=false:=by
   rw [List.any_eq_false];intro y hy;obtain ⟨z,t,hkey⟩:=hk y (Array.mem_toList_iff.mp hy);simp [DictEntry.refKey,hkey]
  have a':¬es.toList.any (·.refKey)=true:=by rw [a];exact Bool.false_ne_true
  rw [if_neg a'];exact congrArg some e
theorem ObjM.look {h:Heap} {x dx C:Addr} {mA:Str->Option Value} (I:ObjM h x dx C mA):∃od,PySem.W.InstAt h x (PySem.W.instObj C dx) C (some od)/\∀name,PySem.W.lookIn name od=some (mA name):=
 let ⟨od,ho,hl⟩:=qg I.ns
 ⟨od,⟨I.obj,rfl,rfl,ho⟩,hl⟩
section
variable {P:Program} {w:World} {H H':Hp} {h h':Heap} {a C dx:Addr} {fs fs':List (Str×V)}
theorem vA (hok:HOk P w H h) (e:H a=some (.ins C dx fs)):∃mA,ObjM h a dx C mA/\(∀f,Ad (fs.lookup f) (mA f))/\PySem.Within mA (fs.map (·.1))/\fs.length<=1000/\H dx=some (.own a):=by
 obtain ⟨d,z,ne,ob,mA,n,r,q⟩:=(show ObjOk P w H h a (.ins C dx fs) from hok a _ e);exact ⟨mA,⟨ob,n,ne⟩,r,q,z,d⟩
end
structure Cls (K:Fg) (C:Addr):Prop where
 pg:PySem.W.plainGet K C Str.empty=true
 hd:PySem.W.hasDictIn K C=true
 po:PySem.W.plainOver K C=true
 sa:PySem.W.findIn K (.ref C) "__setattr__"=some (some (.builtin "object.__setattr__"))
theorem Cls.get {K:Fg} {C:Addr} (c:Cls K C) (f:Str):PySem.W.plainGet K C f=true:=c.pg
structure Con (K:Fg) (C:Addr) (f:Str) (v:V) (u:Value):Prop where
 at_:PySem.W.findIn K (.ref C) f=some (some u)
 rel:RelV v u
 get:PySem.W.specialIn K u "__get__"=some none
 cp:PySem.W.copiedNames.contains f=false
structure HE (K:Fg) (C:Addr) (m:Str) (f:Addr):Prop where
 at_:PySem.W.findIn K (.ref C) m=some (some (.ref f))
 fn:PySem.W.isFn K (.ref f)=true
 kp:PySem.W.keepIn K (.ref f)=true
section
variable {X:Cx} {pins:List (Addr×Obj)} {σ:St} {H:Hp} {s:Shared} {A:Around} {E:Value->Shared->Prop} {Q:Value->Shared->Prop} {c:Value} {b:Bool}
inductive hE (K:Fg) (H:Hp):V->Value->Prop where
 | non:hE K H .non (.type "NoneType")
 | bl (x:Bool):hE K H (.bl x) (.type "bool")
 | int (i:Int):hE K H (.int i) (.type "int")
 | str (x:Str):hE K H (.str x) (.type "str")
 | flt (x:UInt64):hE K H (.flt x) (.type "float")
 | lst {a:Addr} {xs:List V} (e:H a=some (.lst xs)):hE K H (.ref a) (.type "list")
 | frz {a:Addr} {o:Obj} {xs:List V} (e:H a=some (.frz o (.lst xs))):hE K H (.ref a) (.type "list")
 | tup {a:Addr} {xs:List V} (e:H a=some (.tup xs)):hE K H (.ref a) (.type "tuple")
 | dK {a:Addr} {kvs:List (lz×V)} (e:H a=some (.dK kvs)):hE K H (.ref a) (.type "dict")
 | dT {a:Addr} {kvs:List (List lz×V)} (e:H a=some (.dT kvs)):hE K H (.ref a) (.type "dict")
 | ins {a C dx:Addr} {fs:List (Str×V)} (e:H a=some (.ins C dx fs)) (cl:Cls K C) (ha:PySem.W.findIn K (.ref C) "__class__"=some (some (.builtin "object.__class__")))
   (hn:PySem.W.specialIn K (.builtin "object.__class__") "__get__"=some (some (.builtin "getset_descriptor.__get__"))) (htk:PySem.W.takesIn K (.builtin "object.__class__")=some true)
   (hm:PySem.W.mroIn K C (.type "object")=some true):hE K H (.ref a) (.ref C)
theorem xW {x:V} {u t:Value} (I:Inv X pins σ H s) (rx:RelV x u) (ty:hE X.K H x t) (e:PySem.W.kitOne X.K t c=some b) (h:∀tk,Q (.bool b) { s with toks:=tk }) :
  wpAny (model X.prog X.w) A (call (.builtin "isinstance") [u,c]) Q E s:=by
 cases ty with
 | non=>cases (show u=Value.none from rx);exact PySem.W.kia_one PySem.W.kitx_none I.kIn True.intro e nofun h
 | bl y=>cases (show u=Value.bool y from rx);exact PySem.W.kia_one PySem.W.kitx_bool I.kIn True.intro e nofun h
 | int i=>obtain ⟨t,q⟩:=(show ∃t,u=Value.int i t from rx);cases q;exact PySem.W.kia_one PySem.W.kitx_int I.kIn True.intro e nofun h
 | str y=>obtain ⟨t,q⟩:=(show ∃t,u=Value.str y t from rx);cases q;exact PySem.W.kia_one PySem.W.kitx_str I.kIn True.intro e nofun h
 | flt y=>obtain ⟨t,q⟩:=(show ∃t,u=Value.float y t from rx);cases q;exact PySem.W.kia_one PySem.W.kitx_float I.kIn True.intro e nofun h
 | @lst a xs ea=>
  cases (show u=Value.ref a from rx)
  obtain ⟨_,_,n,_,h1⟩:=(show ObjOk X.prog X.w H s.heap a (.lst xs) from I.hok a _ ea);exact PySem.W.kia_one PySem.W.kitx_list I.kIn ⟨_,h1,rfl⟩ e nofun h
 | @frz a ob xs ea=>
  cases (show u=Value.ref a from rx)
  obtain ⟨_,_,_,n,_,h1⟩:=(show ObjOk X.prog X.w H s.heap a (.frz ob (.lst xs)) from I.hok a _ ea);exact PySem.W.kia_one PySem.W.kitx_list I.kIn ⟨_,h1,rfl⟩ e nofun h
 | @tup a xs ea=>
  cases (show u=Value.ref a from rx)
  obtain ⟨_,_,_,p⟩:=(show ObjOk X.prog X.w H s.heap a (.tup xs) from I.hok a _ ea);obtain ⟨o,h1,h2,_⟩:=p;exact PySem.W.kia_one PySem.W.kitx_tuple I.kIn ⟨o,h1,h2⟩ e nofun h
 | @dK a kvs ea=>
  cases (show u=Value.ref a from rx)
  obtain ⟨_,_,vs,_,p⟩:=(show ObjOk X.prog X.w H s.heap a (.dK kvs) from I.hok a _ ea);obtain ⟨o,es,ep,h1,h2,_⟩:=p;exact PySem.W.kia_one PySem.W.kitx_dict I.kIn ⟨o,h1,h2.1⟩ e nofun h
 | @dT a kvs ea=>
  cases (show u=Value.ref a from rx)
  obtain ⟨_,_,xs,_,o,es,ep,h1,h2,_⟩:=(show ObjOk X.prog X.w H s.heap a (.dT kvs) from I.hok a _ ea);exact PySem.W.kia_one PySem.W.kitx_dict I.kIn ⟨o,h1,h2.1⟩ e nofun h
 | @ins a C dx fs ea cl ha hn htk hm=>
  cases (show u=Value.ref a from rx)
  obtain ⟨mA,O,_⟩:=vA I.hok ea;obtain ⟨od,J,_⟩:=O.look;exact PySem.W.kia_one (PySem.W.kitx_own (cl.get _) cl.hd ha hn htk hm) I.kIn J e nofun h
end
structure Room (k:Nat) (A:Around):Prop where
 hd:A.handled=none
 dp:A.depth+3*k+5<recursionLimit
 un:A.units+16*k+200<cLine
 gd:A.guards=some []
theorem Room.mono {j k:Nat} {A:Around} (r:Room k A) (h:j<=k):Room j A:=⟨r.hd,by have:=r.dp;omega,by have:=r.un;omega,r.gd⟩
theorem Room.deeper {k:Nat} {A:Around} (r:Room (k+1) A) (env:Env):Room k (A.deeper env):=
 ⟨r.hd,by have:=r.dp;show A.depth+1+3*k+5<_;omega,by have:=r.un;show A.units+3+16*k+200<_;omega,r.gd⟩
theorem Room.depth {k:Nat} {A:Around} (r:Room k A):A.depth<recursionLimit:=by have:=r.dp;omega
theorem Room.units {k:Nat} {A:Around} (r:Room k A):A.units+64<cLine:=by have:=r.un;omega
def uB:TA:=fun _ H Q=>Q [] H
def lI (ta:TE) (tr:TA):TA:=fun σ H Q=>ta σ H fun x H1=>tr σ H1 fun xs H2=>Q (x::xs) H2
section
variable {X:Cx} {e:Expr} {es:List Expr} {te:TE} {t:TA} {pos:Pos}
theorem DE:PA X [] uB:=fun _ _ _ _ H Q I h=>Calls.spliced_nil ⟨[],H,I,.nil,h⟩
theorem CG (ha:PE X e te) (hr:PA X es t) (hs:starEach (e::es) X.env=(false,eval e X.env)::starEach es X.env:=by rfl):PA X (e::es) (lI te t):=by
 intro pos pins s σ H Q I h;rw [hs];show wpAny _ _ (spliced ((false,eval e X.env)::backTo pos (starEach es X.env))) _ _ s
 refine Calls.spliced_cons (ck (ha pins s σ H _ I h) fun u s1 ⟨x,H1,I1,r1,q1⟩=>?_)
 exact ck (hr pos pins s1 σ H1 _ I1 q1) fun us s2 ⟨xs,H2,I2,r2,q2⟩=>⟨x::xs,H2,I2,.cons r1 r2,q2⟩
def Bg (t:TA):TE:=fun σ H Q=>t σ H fun xs H1=>xs.length<=sizeLine/\∀p,H1 p=none->Q (.ref p) (cF H1 p (.tup xs))
def Bl (t:TA):TE:=fun σ H Q=>t σ H fun xs H1=>xs.length<=sizeLine/\∀p,H1 p=none->Q (.ref p) (cF H1 p (.lst xs))
theorem yR {x1} (h:PA X es t):PE X (.Tuple es x1 pos) (Bg t):=by
 intro pins s σ H Q I hq;refine wpAny_Tuple_spliced (ck (h pos pins s σ H _ I hq) fun us s1 ⟨xs,H1,I1,r,z,q⟩=>⟨by rw [<-r.length];exact z,?_⟩)
 have hf:H1 s1.heap.objs.size=none:=I1.hok.fresh (Nat.le_refl _)
 refine ⟨.ref s1.heap.objs.size,cF H1 s1.heap.objs.size (.tup xs),I1.laid (t':=s1.toks) (fun b u e=>Heap.get?_push_of_some _ e) (Nat.le_refl _) ?_,rfl,q _ hf⟩
 exact ⟨z,us,r,⟨_,Heap.get?_push_size _ rfl,rfl,_,rfl⟩⟩
theorem yV (h:PA X es t):PE X (.List es pos) (Bl t):=by
 intro pins s σ H Q I hq;refine wpAny_List_spliced (ck (h pos pins s σ H _ I hq) fun us s1 ⟨xs,H1,I1,r,z,q⟩=>⟨by rw [<-r.length];exact z,?_⟩)
 have hf:H1 s1.heap.objs.size=none:=I1.hok.fresh (Nat.le_refl _)
 refine ⟨.ref s1.heap.objs.size,cF H1 s1.heap.objs.size (.lst xs),I1.laid (t':=s1.toks) (fun b u e=>Heap.get?_push_of_some _ e) (Nat.le_refl _) ?_,rfl,q _ hf⟩
 exact ⟨z,us,0,r,Heap.get?_push_size _ rfl⟩
end
abbrev Sp:=List V->Hp->VK->XK->Prop
abbrev tY:=List Env->Hp->Shared->XK->Value->Shared->Prop
structure wq (P:Program) (w:World) (K:Fg) (mg:Str->Option Value) (base:Heap) (A:Around) (outer:List Env) (s:Shared) (H:Hp):Prop where
 frames:A.frames=some outer
 mod:Mod K mg base
 bs:∀b o,base.get? b=some o->s.heap.get? b=some o/\H b=none
 bsz:base.objs.size<=s.heap.objs.size
 funs:s.heap.FunFrames base outer
 frf:∀b∈tw outer,H b=none
 hok:HOk P w H s.heap
 bare:AllBare s.gens
def CE (outer:List Env) (P:Program) (w:World) (H:Hp) (s:Shared) (Q:VK) (u:Value) (s':Shared):Prop:=
 ∃v H',s'.os=s.os/\AllBare s'.gens/\Un (tw outer) [] H H' s.heap s'.heap/\HOk P w H' s'.heap/\RelV v u/\Q v H'
def CR (CX:tY) (outer:List Env) (P:Program) (w:World) (H:Hp) (s:Shared) (Q:VK) (E:XK) (r:Result) (s':Shared):Prop:=
 match r with
 | .ok (.ret u)=>CE outer P w H s Q u s'
 | .ok _=>False
 | .error e=>CX outer H s E e s'
structure eN (P:Program) (w:World) (K:Fg) (mg:Str->Option Value) (base:Heap) (CX:tY) (k:Nat) (f:Addr) (fd:FuncData) (ps:List Str) (sp:Sp):Prop where
 len:∀vs H Q E,sp vs H Q E->vs.length=ps.length
 run:∀(A:Around) (outer:List Env) (s:Shared) (H:Hp) (args:Args) (us:List Value) (vs:List V) (Q:VK) (E:XK),Room k A->wq P w K mg base A outer s H->BindsTo s fd args (ps.zip us)->Vals vs us->sp vs H Q E ->
  codeAny (model P w) A (.call (.ref f) args) (CR CX outer P w H s Q E) s
section
variable {X:Cx} {pins:List (Addr×Obj)} {σ:St} {H:Hp} {s s':Shared}
theorem Inv.env0 (I:Inv X pins σ H s):wq X.prog X.w X.K X.mg X.base X.A X.stack s H:=
 ⟨I.ok.frames,I.ok.mod,I.bs,Nat.le_trans I.ok.bsz I.sz,I.stack,I.stkFree,I.hok,I.bare⟩
theorem Inv.after {Q:VK} {u:Value} (I:Inv X pins σ H s) (h:CE X.stack X.prog X.w H s Q u s'):EP X pins σ Q u s':=by
 obtain ⟨v,H',os,bare,un,hok,r,q⟩:=h;obtain ⟨hh,g,d,t,os'⟩:=s'
 obtain rfl:os'=s.os:=os
 exact ⟨v,H',I.call (h':=hh) (g':=g) (d':=d) (t':=t) (ch:=[]) un hok bare (fun b z=>absurd z (by simp)),r,q⟩
end
def oA (sp:Sp) (dvs:List V) (E:XK) (t:TA):TE:=fun σ H Q=>t σ H fun vs H1=>sp (vs++dvs) H1 Q E
def Binds (K:Fg) (fd:FuncData) (ps:List Str) (ds:List Value):Prop:=
 ∀(s:Shared) (us:List Value),K.In s.heap->(us++ds).length=ps.length->BindsTo s fd ⟨us,[]⟩ (ps.zip (us++ds))
theorem Binds.all {K:Fg} {fd:FuncData} {ps:List Str} (h:∀us:List Value,us.length=ps.length->bindArgs fd ⟨us,[]⟩=pure (ps.zip us)):Binds K fd ps []:=fun s us _ hl=>by
 rw [append_nil] at hl ⊢;exact .of_eq (h us hl)
def Dv (CX:tY) (X:Cx) (E:XK):Prop:=∀(pins:List (Addr×Obj)) (σ:St) (H:Hp) (s:Shared) (e:Value) (s':Shared),Inv X pins σ H s->CX X.stack H s E e s'->X.xe e s'
section
variable {X:Cx} {CX:tY} {k:Nat} {f C:Addr} {fd:FuncData} {ps:List Str} {sp:Sp} {dvs:List V} {ds:List Value} {E:XK} {x m:Str} {p pos apos:Pos} {e o:Expr} {es:List Expr} {ta:TE} {t:TA}
theorem ym {pins:List (Addr×Obj)} {σ:St} {H:Hp} {s:Shared} {Q:VK} {us:List Value} {vs:List V} (F:eN X.prog X.w X.K X.mg X.base CX k f fd ps sp) (hr:Room k X.A) (hb:Binds X.K fd ps ds) (hd:Vals dvs ds) (hx:Dv CX X E)
  (I:Inv X pins σ H s) (r:Vals vs us) (h:sp (vs++dvs) H Q E):wpAny (model X.prog X.w) X.A (call (.ref f) us) (EP X pins σ Q) X.xe s:=by
 have r2:Vals (vs++dvs) (us++ds):=r.append hd
 have hl:(us++ds).length=ps.length:=by rw [<-r2.length];exact F.len _ _ _ _ h
 refine wpAny_call (codeAny_mono (F.run X.A X.stack s H ⟨us,[]⟩ (us++ds) (vs++dvs) Q E hr I.env0 (hb s us I.kIn hl) r2 h) fun r s' hq=>?_)
 cases r with
 | error e=>exact hx pins σ H s e s' I hq
 | ok fl=>
  cases fl with
  | ret u=>exact I.after hq
  | next=>exact False.elim hq
  | brk=>exact False.elim hq
  | cont=>exact False.elim hq
theorem Ea (F:eN X.prog X.w X.K X.mg X.base CX k f fd ps sp) (hr:Room k X.A) (hg:Gl X x) (hm:X.mg x=some (.ref f)) (hk:PySem.W.keepIn X.K (.ref f)=true) (hb:Binds X.K fd ps ds) (hd:Vals dvs ds) (hx:Dv CX X E)
  (ha:PA X (e::es) t) (hdb:(x==("__debug__":Str))=false:=by decide) (he:starEach (e::es) X.env=(false,eval e X.env)::starEach es X.env:=by rfl) (hpl:(backTo pos (starEach es X.env)).any (·.1)=false:=by rfl) :
  PE X (.Call (.Name x p) (e::es) [] pos) (oA sp dvs E t):=by
 intro pins s σ H Q I h;refine wpAny_Call_Name_kw (oZ I hg hm ?_ hdb)
 refine PySem.W.callWith_K (h₀:=X.base) I.ok.mod.kin hk (ck (ha pos pins s σ H _ I h) fun us s1 ⟨vs,H1,I1,r,q⟩=>⟨I1.kIn,?_⟩) he hpl
 exact ym F hr hb hd hx I1 r q
structure Mk (K:Fg) (C f:Addr):Prop where
 makes:PySem.W.makesIn K C=true
 init:PySem.W.findIn K (.ref C) "__init__"=some (some (.ref f))
 fn:PySem.W.isFn K (.ref f)=true
 kp:PySem.W.keepIn K (.ref C)=true
end
section
variable {X:Cx} {CX:tY} {k:Nat} {f C:Addr} {fd:FuncData} {ps ks:List Str} {sp:Sp} {E:XK} {x m:Str} {p pos apos kpos:Pos} {e o:Expr} {es:List Expr} {kws:List Keyword} {te ta:TE} {t tk:TA} {nm:Option Str}
structure Gi (K:Fg) (fd:FuncData) (ps ks:List Str) (g:List Value->List Value->List Value) (gV:List V->List V->List V):Prop where
 to:∀(s:Shared) (us ws:List Value),K.In s.heap->(g us ws).length=ps.length->BindsTo s fd ⟨us,ks.zip ws⟩ (ps.zip (g us ws))
 rel:∀{vs:List V} {us:List Value} {zs:List V} {ws:List Value},Vals vs us->Vals zs ws->Vals (gV vs zs) (g us ws)
variable {g:List Value->List Value->List Value} {gV:List V->List V->List V}
end
structure eT (N P:List Str) (sc:Scope):Prop where
 kind:sc.kind=.function
 co:sc.isCoroutine=false
 gen:sc.isGenerator=false
 nd:N.Nodup
 pre:N.take P.length=P
 par:∀x∈P,sc.names.lookup x=some .local\/sc.names.lookup x=some .cell
 nofree:∀y∈sc.names,y.2≠.free
theorem kf {kindOf:Str->Option NameKind} {x:Str}:∀{binds:List (Str×Value)} {m:Str->Option Value},(∀v,(x,v)∉binds)->bindL kindOf binds m x=m x
 | [],_,_=>rfl
 | (n,v)::r,m,h=>by
  unfold bindL;rw [kf fun w hw=>h w (mem_cons_of_mem _ hw)]
  split
  ·have:x≠n:=by rintro rfl;exact h v mem_cons_self
   simp [this]
  ·rfl
theorem kh {kindOf:Str->Option NameKind} {x:Str}:∀{binds:List (Str×Value)} {m:Str->Option Value},(∀v,(x,v)∉binds)->bindC kindOf binds m x=m x
 | [],_,_=>rfl
 | (n,v)::r,m,h=>by
  unfold bindC;rw [kh fun w hw=>h w (mem_cons_of_mem _ hw)]
  split
  ·rfl
  ·have:x≠n:=by rintro rfl;exact h v mem_cons_self
   simp [this]
theorem kg {kindOf:Str->Option NameKind} {x:Str} {v:Value}:∀{P:List Str} {vs:List Value} {i:Nat} {m:Str->Option Value},P.Nodup->P[i]?=some x->vs[i]?=some v->kindOf x=some .local ->
  bindL kindOf (P.zip vs) m x=some v
 | [],_,_,_,_,h,_,_=>by simp at h
 | _::_,[],_,_,_,_,h,_=>by simp at h
 | p::P,w::vs,0,m,nd,h1,h2,hk=>by
  simp at h1 h2;subst h1;subst h2;show bindL kindOf ((p,w)::P.zip vs) m p=_
  unfold bindL;rw [kf fun v hv=>(List.nodup_cons.mp nd).1 (List.of_mem_zip hv).1,if_pos hk]
  simp
 | p::P,w::vs,i+1,m,nd,h1,h2,hk=>by
  show bindL kindOf ((p,w)::P.zip vs) m x=_
  unfold bindL;exact kg (i:=i) (List.nodup_cons.mp nd).2 (by simpa using h1) (by simpa using h2) hk
theorem ki {kindOf:Str->Option NameKind} {x:Str} {v:Value}:∀{P:List Str} {vs:List Value} {i:Nat} {m:Str->Option Value},P.Nodup->P[i]?=some x->vs[i]?=some v->kindOf x≠some .local ->
  bindC kindOf (P.zip vs) m x=some v
 | [],_,_,_,_,h,_,_=>by simp at h
 | _::_,[],_,_,_,_,h,_=>by simp at h
 | p::P,w::vs,0,m,nd,h1,h2,hk=>by
  simp at h1 h2;subst h1;subst h2;show bindC kindOf ((p,w)::P.zip vs) m p=_
  unfold bindC;rw [kh fun v hv=>(List.nodup_cons.mp nd).1 (List.of_mem_zip hv).1,if_neg hk]
  simp
 | p::P,w::vs,i+1,m,nd,h1,h2,hk=>by
  show bindC kindOf ((p,w)::P.zip vs) m x=_
  unfold bindC;exact ki (i:=i) (List.nodup_cons.mp nd).2 (by simpa using h1) (by simpa using h2) hk
def start (N:List Str) (vs:List V):St:=vs.map some++List.replicate (N.length-vs.length) none
def kZ (CX:tY) (P:Program) (w:World) (K:Fg) (mg:Str->Option Value) (base:Heap) (N:List Str) (qual:Str) (scope:Scope) (f:Addr) (cd:Value) (A:Around) (outer:List Env) (s:Shared) (H:Hp) (E:XK):Cx where
 prog:=P
 w:=w
 K:=K
 mg:=mg
 base:=base
 A:=A.deeper (envOfC qual scope s.heap.objs.size f cd)
 N:=N
 s₀:=s
 H₀:=H
 env:=envOfC qual scope s.heap.objs.size f cd
 outer:=outer
 stack:=envOfC qual scope s.heap.objs.size f cd::outer
 ex:=[]
 calm:=true
 fn:=fun _=>true
 pn:=[]
 xe:=fun e s'=>wpAny (model P w) (A.deeper (envOfC qual scope s.heap.objs.size f cd)) (leaving (envOfC qual scope s.heap.objs.size f cd) e) (fun _ s''=>CX outer H s E e s'') (fun e' s''=>CX outer H s E e' s'') s'
theorem m4 {sc:Scope} {n:Nat} {x:Str} (h:sc.names.lookup x=some .cell):∃c,(cellsFrom n sc.names []).lookup x=some c:=by
 have q:=PySem.W.cellsFrom_some sc.names n [] (.inl h)
 exact Option.isSome_iff_exists.mp q
theorem qk {CX:tY} {P:Program} {w:World} {K:Fg} {mg:Str->Option Value} {base:Heap} {N ps:List Str} {qual:Str} {scope:Scope} {f:Addr} {cd:Value} {A:Around} {outer:List Env} {s s1:Shared} {H:Hp} {E:XK} {us:List Value} {vs:List V}
  (S:eT N ps scope) (hd:A.handled=none) (e0:wq P w K mg base A outer s H) (hl:vs.length=ps.length) (r:Vals vs us)
  (x:InCallC s s.heap.objs.size (bindL (envOfC qual scope s.heap.objs.size f cd).kindOf (ps.zip us) fun _=>none) (cellsFrom (s.heap.objs.size+1) scope.names []) (bindC (envOfC qual scope s.heap.objs.size f cd).kindOf (ps.zip us) fun _=>none) s1) :
  Inv (kZ CX P w K mg base N qual scope f cd A outer s H E) [] (start N vs) H s1:=by
 have hpl:ps.length<=N.length:=by have:=congrArg List.length S.pre;rw [length_take] at this;omega
 obtain ⟨h1,tk,rfl,hk⟩:=x.done;have noA:∀b:Addr,b∉(kZ CX P w K mg base N qual scope f cd A outer s H E).ex:=fun b z=>absurd (show b∈([]:List Addr) from z) (by simp)
 refine ⟨⟨e0.mod,S.kind,rfl,rfl,Nat.le_refl _,fun y z c h1 h2=>?_,fun y hy=>?_,fun y c _ h=>?_,fun _=>hd,Around.frames_deeper e0.frames,.inr ⟨rfl,rfl⟩,fun b z=>absurd z (noA b),e0.bs,e0.bsz,fun b _ _=>noA b,fun b z=>absurd z (noA b),e0.funs,e0.frf⟩,
  rfl,e0.bare,Un.kept hk,⟨_,x.toInCall.ns,fun i y v h1 h2 h3=>?_⟩,fun y c h=>⟨_,x.cell y c h⟩,e0.hok.fresh (Nat.le_refl _),fun y c h=>?_,fun p hp=>absurd (show p∈([]:List (Addr×Obj)) from hp) (by simp),e0.hok.kept hk,?_⟩
 ·exact name_of_addr x.apart (PySem.mem_of_lookup h1) (PySem.mem_of_lookup h2)
 ·have hy:scope.names.lookup y=some .cell\/scope.names.lookup y=some .free:=hy
  rcases hy with hy | hy
  ·exact m4 hy
  ·exact absurd rfl (S.nofree _ (PySem.mem_of_lookup hy))
 ·exact Nat.le_of_lt (x.above y c (PySem.mem_of_lookup h))
 ·have hi:i<vs.length:=by
   unfold start at h2;by_cases hi:i<vs.length
   ·exact hi
   ·rw [getElem?_append_right (by simpa using hi)] at h2
    rw [getElem?_replicate] at h2;split at h2<;>cases h2
  have ha:vs[i]?=some v:=by
   unfold start at h2;rw [getElem?_append_left (by simpa using hi),getElem?_map] at h2
   cases e:vs[i]? with
   | none=>rw [e] at h2;cases h2
   | some a=>rw [e] at h2;cases h2;rfl
  obtain ⟨u,hu,rv⟩:=r.get ha;have hp:ps[i]?=some y:=by
   rw [<-S.pre,List.getElem?_take_of_lt (by omega)];exact h1
  have ndP:ps.Nodup:=by rw [<-S.pre];exact S.nd.sublist (List.take_sublist _ _)
  refine ⟨u,rv,?_⟩
  rcases S.par y (mem_of_getElem? hp) with k | k
  ·exact .inl ⟨k,kg ndP hp hu k⟩
  ·obtain ⟨c,e⟩:=m4 (n:=s.heap.objs.size+1) k
   refine .inr ⟨.inl k,c,e,?_⟩
   have q:=x.cell y c e
   rw [ki ndP hp hu (by show scope.names.lookup y≠_;rw [k];decide)] at q
   exact q
 ·exact e0.hok.fresh (Nat.le_of_lt (x.above y c (PySem.mem_of_lookup h)))
 ·unfold start
  show _=N.length
  rw [length_append,length_map,List.length_replicate];omega
theorem BX {CX:tY} {P:Program} {w:World} {K:Fg} {mg:Str->Option Value} {base:Heap} {k:Nat} {f:Addr} {name qual:Str} {params:Arguments} {body:List Stmt} {scope:Scope} {dV kV doc pm cdv ct oc:Value} {an od:Option Addr}
  {osl:Array (Option Value)} {N ps:List Str} {sp:Sp} (lk:K.lookup f=some ⟨oc,od,.func (PySem.W.fnOf name qual params body scope dV kV doc pm an cdv ct),osl⟩) (hcd:PySem.W.codeIn K cdv qual=true) (S:eT N ps scope)
  (len:∀vs H Q E,sp vs H Q E->vs.length=ps.length)
  (hbody:∀(A:Around) (outer:List Env) (s:Shared) (H:Hp) (vs:List V) (Q:VK) (E:XK),Room k (A.deeper (envOfC qual scope s.heap.objs.size f cdv))->sp vs H Q E ->
   ∃t,PSs (kZ CX P w K mg base N qual scope f cdv A outer s H E) body t/\t { nx:=fun _ H'=>Q .non H',rt:=Q } (start N vs) H) :
  eN P w K mg base CX (k+1) f (PySem.W.fnOf name qual params body scope dV kV doc pm an cdv ct) ps sp:=by
 refine ⟨len,fun A outer s H args us vs Q E hr e0 hb r hsp=>?_⟩
 have hl:=len _ _ _ _ hsp
 have KX:K.In s.heap:=e0.mod.kin.keeps fun b o e=>(e0.bs b o e).1
 have lim:s.heap.NoLimit:=e0.mod.nolimit.keeps fun b o e=>(e0.bs b o e).1
 have hkind:∀y∈ps.zip us,scope.names.lookup y.1=some .local\/(scope.names.lookup y.1=some .cell/\((cellsFrom (s.heap.objs.size+1) scope.names []).lookup y.1).isSome=true):=fun ⟨n,v⟩ hy=>by
  rcases S.par n (List.of_mem_zip hy).1 with q | q
  ·exact .inl q
  ·exact .inr ⟨q,PySem.W.cellsFrom_some _ _ _ (.inl q)⟩
 refine codeAny_call_function hr.depth (KX _ _ lk) rfl S.co S.gen rfl (PySem.W.codeRec_of KX hcd) (hb _ _ _ _ ?_)
 refine wpAny_newFunctionEnv_cells S.kind hkind fun env he s1 x=>?_
 subst he;refine ⟨lim.keeps x.toInCall.keep,codeAny_func ?_⟩
 obtain ⟨t,ht,hq⟩:=hbody A outer s H vs Q E (hr.deeper _) hsp;have I:Inv (kZ CX P w K mg base N qual scope f cdv A outer s H E) [] (start N vs) H s1:=qk S hr.hd e0 hl r x
 refine wpAny_mono (ht [] s1 (start N vs) H _ I hq) (fun fl s' hs=>?_) fun e s' hs=>hs
 have fin:∀{σ':St} {H':Hp} {v:V} {u:Value},Inv (kZ CX P w K mg base N qual scope f cdv A outer s H E) [] σ' H' s'->RelV v u->Q v H'->CE outer P w H s Q u s':=
  fun {σ' H' v u} J rv q=>⟨v,H',J.os,J.bare,J.base,J.hok,rv,q⟩
 cases fl with
 | ret u=>
  obtain ⟨v,σ',H',J,rv,q⟩:=hs;exact fin J rv q
 | next=>
  obtain ⟨σ',H',J,q⟩:=hs;exact fin (v:=V.non) (u:=Value.none) J rfl q
 | brk=>
  obtain ⟨_,_,_,q⟩:=hs;exact False.elim q
 | cont=>
  obtain ⟨_,_,_,q⟩:=hs;exact False.elim q
section
variable {X:Cx} {x:Str} {p pos:Pos} {e:Expr} {es:List Expr} {t:TA} {id T:String} {r:List V->Hp->VK->Prop}
def Bn (r:List V->Hp->VK->Prop) (t:TA):TE:=fun σ H Q=>t σ H fun vs H1=>r vs H1 Q
theorem DT (hc:CallR X (.builtin id) r) (hg:Gl X x) (hm:X.mg x=none) (hv:bootBuiltins x=some (.builtin id)) (ha:PA X (e::es) t) (hn:x ≠ "__name__":=by decide) (hdb:(x==("__debug__":Str))=false:=by decide)
  (he:starEach (e::es) X.env=(false,eval e X.env)::starEach es X.env:=by rfl) (hpl:(backTo pos (starEach es X.env)).any (·.1)=false:=by rfl):PE X (.Call (.Name x p) (e::es) [] pos) (Bn r t):=by
 intro pins s σ H Q I h;refine wpAny_Call_Name_kw (wB I hg hm hv ?_ hn hdb)
 exact PyProof.Rows.callWith_builtin1 (ck (ha pos pins s σ H _ I h) fun us s1 ⟨vs,H1,I1,r1,q1⟩=>hc pins s1 σ H1 vs us Q I1 r1 q1) he hpl
theorem j0 (hc:CallR X (.type T) r) (hg:Gl X x) (hm:X.mg x=none) (hv:bootBuiltins x=some (.type T)) (ha:PA X (e::es) t) (hn:x ≠ "__name__":=by decide) (hdb:(x==("__debug__":Str))=false:=by decide)
  (he:starEach (e::es) X.env=(false,eval e X.env)::starEach es X.env:=by rfl) (hpl:(backTo pos (starEach es X.env)).any (·.1)=false:=by rfl):PE X (.Call (.Name x p) (e::es) [] pos) (Bn r t):=by
 intro pins s σ H Q I h;refine wpAny_Call_Name_kw (wB I hg hm hv ?_ hn hdb)
 exact PyProof.Rows.callWith_type1 (ck (ha pos pins s σ H _ I h) fun us s1 ⟨vs,H1,I1,r1,q1⟩=>hc pins s1 σ H1 vs us Q I1 r1 q1) he hpl
end
end L2
namespace HT
open PySem PyProof.Rows
section
open PySem.SeqAt
open PySem.AutoSeq1 (wpAny_loadPart')
open PySem.MeetsSeq PySem.MeetsSeq2 PySem.MeetsSeq3
end
section
variable {prog:Program} {w:World} {A:Around} {E:Value->Shared->Prop} {s:Shared}
def sIx (n d:Nat):Option Int->Nat
 | none=>d
 | some v=>if v<0 then (v+(n:Int)).toNat else min v.toNat n
end
end HT
namespace L2
open PySem PySem.Spec PyProof.Rows
abbrev TO:=St->Hp->(Option Int->Hp->Prop)->Prop
def d6 (n:Nat) (i:Int):Option Nat:=if 0<=i then (if i<n then some i.toNat else none) else if -(n:Int)<=i then some (i+n).toNat else none
def eR {α:Type} (xs:List α) (i:Int):Option α:=(d6 xs.length i).bind fun j=>xs[j]?
theorem o5 {n:Nat} {i:Int} {j:Nat} (h:d6 n i=some j):seqIndex? i n=some j/\j<n/\-(n:Int)<=i/\i<n:=by
 unfold d6 at h;by_cases h0:0<=i
 ·rw [if_pos h0] at h
  by_cases h1:i<n
  ·rw [if_pos h1] at h
   have e:i.toNat=j:=Option.some.inj h
   exact ⟨by rw [seqIndex_of h0 h1,e],by omega,by omega,h1⟩
  ·rw [if_neg h1] at h;cases h
 ·rw [if_neg h0] at h
  by_cases h1:-(n:Int)<=i
  ·rw [if_pos h1] at h
   have e:(i+n).toNat=j:=Option.some.inj h
   exact ⟨by rw [seqIndex_neg (by omega) h1,e],by omega,h1,by omega⟩
  ·rw [if_neg h1] at h;cases h
theorem D1 {α:Type} {xs:List α} {i:Int} {v:α} (h:eR xs i=some v):∃j,seqIndex? i xs.length=some j/\xs[j]?=some v/\j<xs.length/\-(xs.length:Int)<=i/\i<xs.length:=by
 unfold eR at h
 cases e:d6 xs.length i with
 | none=>rw [e] at h;cases h
 | some j=>
  rw [e] at h;obtain ⟨h1,h2,h3,h4⟩:=o5 e;exact ⟨j,h1,h,h2,h3,h4⟩
def wN (b:Expr):Prop:=∀o i,subscripted b false o i=operate [o,i] (getItem o i)
def IxR (X:Cx) (r:R2):Prop:=
 ∀(value slice:Expr) (pins:List (Addr×Obj)) (s:Shared) (σ:St) (H:Hp) (x y:V) (v u:Value) (Q:VK),Inv X pins σ H s->RelV x v->RelV y u->r x y H Q ->
  subscripted slice false v u=operate [v,u] (getItem v u)->wpAny (model X.prog X.w) X.A (subscriptTail value slice v u) (EP X pins σ Q) X.xe s
def Gh (X:Cx) (id:String) (r:V->List V->Hp->VK->Prop):Prop:=
 ∀(pins:List (Addr×Obj)) (s:Shared) (σ:St) (H:Hp) (x:V) (xs:List V) (v:Value) (us:List Value) (Q:VK),Inv X pins σ H s->RelV x v->Vals xs us->r x xs H Q ->
  wpAny (model X.prog X.w) X.A (call (.builtin id) (v::us)) (EP X pins σ Q) X.xe s
section
variable {X:Cx} {a b:Expr} {ta tb:TE} {pos:Pos}
theorem IxR.or {r r':R2} (h:IxR X r) (h':IxR X r'):IxR X (fun x y H Q=>r x y H Q\/r' x y H Q):=by
 intro value slice pins s σ H x y v u Q I rx ry q hs;rcases q with q | q
 ·exact h value slice pins s σ H x y v u Q I rx ry q hs
 ·exact h' value slice pins s σ H x y v u Q I rx ry q hs
theorem mf {r:R2} (hr:IxR X r) (ha:PE X a ta) (hb:PE X b tb) (hs:wN b):PE X (.Subscript a b pos) (lu r ta tb):=by
 intro pins s σ H Q I h;exact Subscript_ (zY ha hb I h fun v u s2 x y H2 I2 rx ry q=>hr a b pins s2 σ H2 x y v u Q I2 rx ry q (hs _ _))
def BF (K:Fg):R2:=fun x y H Q=>∃p xs i v,x=.ref p/\y=.int i/\SqL K H p xs/\eR xs i=some v/\Q v H
def BD (K:Fg):R2:=fun x y H Q=>∃p xs i v,x=.ref p/\y=.int i/\SqT K H p xs/\eR xs i=some v/\Q v H
def BE:R2:=fun x y H Q=>∃z i c,x=.str z/\y=.int i/\z.length<=sizeLine/\eR z.cps.toList i=some c/\Q (.str ⟨#[c]⟩) H
theorem ix_list:IxR X (BF X.K):=by
 intro value slice pins s σ H x y v u Q I rx ry h hs;obtain ⟨p,xs,i,z,rfl,rfl,hq,he,q⟩:=h
 cases rx;obtain ⟨t,rfl⟩:=ry;obtain ⟨its,r,pl,hz⟩:=I.list hq;obtain ⟨j,h1,h2,h3,h4,h5⟩:=D1 he;obtain ⟨w,ew,rw'⟩:=r.get h2;have hl:=r.length
 have hn:=xO
 have fin:EP X pins σ Q w s:=⟨z,H,I,rw',q⟩
 by_cases h0:0<=i
 ·have hj:i.toNat=j:=by
   rw [seqIndex_of h0 h5] at h1;exact Option.some.inj h1
  exact item_listR pl.isList h0 (by omega) (by rw [hj];simpa using ew) fin hs
 ·have hj:(i+(its.toArray.size:Int)).toNat=j:=by
   rw [seqIndex_neg (by omega) h4] at h1
   rw [size_toArray,<-hl];exact Option.some.inj h1
  exact subscriptTail_builtinR (x:=w) pl.isList.typeIs slot_list_getitem.lookup
   (wpAny_getItem_list_neg (Q:=fun r s'=>r=w/\EP X pins σ Q r s') pl.isList (by omega) (by rw [size_toArray]<;>omega) (by omega) (by rw [hj];simpa using ew) ⟨rfl,fin⟩) hs
theorem ix_tup:IxR X (BD X.K):=by
 intro value slice pins s σ H x y v u Q I rx ry h hs;obtain ⟨p,xs,i,z,rfl,rfl,hq,he,q⟩:=h
 cases rx;obtain ⟨t,rfl⟩:=ry;obtain ⟨its,r,pl,hz⟩:=I.tuple hq;obtain ⟨j,h1,h2,h3,h4,h5⟩:=D1 he;obtain ⟨w,ew,rw'⟩:=r.get h2;have hl:=r.length
 have hn:=xO
 have fin:EP X pins σ Q w s:=⟨z,H,I,rw',q⟩
 exact subscriptTail_builtinR (x:=w) pl.typeIs slot_tuple_getitem.lookup
  (getItem_tuple (j:=j) (Q:=fun r s'=>r=w/\EP X pins σ Q r s') pl (by omega) (by omega) (by rw [size_toArray,<-hl];exact h1) (by simpa using ew) ⟨rfl,fin⟩) hs
theorem zr:IxR X BE:=by
 intro value slice pins s σ H x y v u Q I rx ry h hs;obtain ⟨z,i,c,rfl,rfl,hz,he,q⟩:=h;obtain ⟨t,rfl⟩:=rx;obtain ⟨t',rfl⟩:=ry;obtain ⟨j,h1,h2,h3,h4,h5⟩:=D1 he;have hl:z.cps.toList.length=z.length:=by simp [Str.length]
 rw [hl] at h1 h4 h5
 have hn:=xO
 exact tail_any (typeIs_str s z t) slot_str_getitem.lookup (getItem_str (c:=c) (by
  have e1:decide (i < -(2 ^ 63:Int))=false:=decide_eq_false (by omega)
  have e2:decide (i≥2 ^ 63)=false:=decide_eq_false (by omega)
  rw [e1,e2,Bool.or_false]) (by rw [h1];simpa using h2) ⟨.str ⟨#[c]⟩,H,I.tok _,⟨_,rfl⟩,q⟩) hs
def m8 (K:Fg):R2:=fun x y H Q=>BF K x y H Q\/BD K x y H Q\/BE x y H Q
theorem AN:IxR X (m8 X.K):=ix_list.or (ix_tup.or zr)
theorem nG (its:List Value) (n j:Nat) (u:Value):Obj.mapSeq (·.setIfInBounds j u) { cls:=.type "list",data:=.seq its.toArray n }={ cls:=.type "list",data:=.seq (its.set j u).toArray n }:=by
 simp [Obj.mapSeq]
theorem Inv.lst {pins:List (Addr×Obj)} {σ:St} {H:Hp} {s:Shared} {p:Addr} {xs:List V} (I:Inv X pins σ H s) (h:H p=some (.lst xs)) :
  ∃(its:List Value) (n:Nat),Vals xs its/\s.heap.get? p=some { cls:=.type "list",data:=.seq its.toArray n }/\xs.length<=sizeLine:=by
 obtain ⟨z,its,n,r,e⟩:=I.hok p _ h;exact ⟨its,n,r,e,z⟩
theorem Inv.lstUpd {pins:List (Addr×Obj)} {σ:St} {H:Hp} {s:Shared} {p:Addr} {xs ys:List V} {its its':List Value} {n n':Nat} {f:Obj->Obj} (I:Inv X pins σ H s) (h:H p=some (.lst xs))
  (ho:s.heap.get? p=some { cls:=.type "list",data:=.seq its.toArray n }) (hf:f { cls:=.type "list",data:=.seq its.toArray n }={ cls:=.type "list",data:=.seq its'.toArray n' }) (r:Vals ys its') (hz:ys.length<=sizeLine) (t:Nat) :
  Inv X pins σ (cF H p (.lst ys)) { s with heap:=s.heap.update p f,toks:=t }:=by
 have e:(s.heap.update p f).get? p=some { cls:=.type "list",data:=.seq its'.toArray n' }:=by
  rw [Heap.get?_update_self f ho (by rw [hf]<;>rfl),hf]
 refine I.write (x:=p) (e:=p) (by rw [h];trivial) (.inl rfl) (fun b u hb q=>(Heap.get?_update_other _ _ (Ne.symm hb)).trans q) ⟨_,e⟩ ?_
 exact ⟨hz,its',n',r,e⟩
def iz:V->V->V->Hp->(Hp->Prop)->Prop:=fun o i v H Q=>∃p xs k j,o=.ref p/\i=.int k/\H p=some (.lst xs)/\d6 xs.length k=some j/\Q (cF H p (.lst (xs.set j v)))
theorem lO:Cn X iz:=by
 intro pins s σ H o i v ov iv u Q I ro ri rv h;obtain ⟨p,xs,k,j,rfl,rfl,hp,hj,q⟩:=h
 cases ro;obtain ⟨t,rfl⟩:=ri;obtain ⟨its,n,r,ho,hz⟩:=I.lst hp;obtain ⟨h1,h2,h3,h4⟩:=o5 hj;have hl:=r.length
 have hn:=xO
 have I':Inv X pins σ (cF H p (.lst (xs.set j v))) { s with heap:=s.heap.update p (Obj.mapSeq (·.setIfInBounds j u)) }:=
  I.lstUpd hp ho (nG its n j u) (r.set rv j) (by rw [length_set];exact hz) s.toks
 by_cases h0:0<=k
 ·have hk:k.toNat=j:=by
   rw [seqIndex_of h0 h4] at h1;exact Option.some.inj h1
  exact PySem.W.ki_setAt ho h0 (by omega) (by rw [size_toArray,<-hl];exact h4) (by rw [hk];exact ⟨_,I',q⟩)
 ·have hk:(k+(its.toArray.size:Int)).toNat=j:=by
   rw [seqIndex_neg (by omega) h3] at h1
   rw [size_toArray,<-hl];exact Option.some.inj h1
  exact PySem.W.ki_setBack ho (by omega) (by rw [size_toArray,<-hl];exact h3) (by omega) (by rw [hk];exact ⟨_,I',q⟩)
theorem call_len_seq:CallR X (.builtin "len") (fun xs H Q=>∃p ys,xs=[.ref p]/\(SqL X.K H p ys\/SqT X.K H p ys)/\Q (.int ys.length) H):=by
 intro pins s σ H xs us Q I r h;obtain ⟨p,ys,rfl,hq,q⟩:=h;obtain ⟨u,rfl,rx⟩:=vals1 r
 cases rx;have hn:=xO
 rcases hq with hq | hq
 ·obtain ⟨its,r',pl,hz⟩:=I.list hq
  have hlen:=r'.length
  exact Calls.call_len_list pl.isList (by simp only [size_toArray]<;>omega) ⟨.int ys.length,H,I.tok _,⟨s.toks+1,by rw [size_toArray,hlen]⟩,q⟩
 ·obtain ⟨its,r',pl,hz⟩:=I.tuple hq
  have hlen:=r'.length
  exact len_tuple pl (by simp only [size_toArray]<;>omega) ⟨.int ys.length,H,I.tok _,⟨s.toks+1,by rw [size_toArray,hlen]⟩,q⟩
theorem lh:CallR X (.builtin "len") (fun xs H Q=>∃z,xs=[.str z]/\z.length<=sizeLine/\Q (.int z.length) H):=by
 intro pins s σ H xs us Q I r h;obtain ⟨z,rfl,hz,q⟩:=h;obtain ⟨u,rfl,t,rfl⟩:=vals1 r;have hn:=xO
 exact len_str (by omega) ⟨.int z.length,H,I.tok _,⟨_,rfl⟩,q⟩
theorem CallR.or {f:Value} {r r':List V->Hp->VK->Prop} (h:CallR X f r) (h':CallR X f r'):CallR X f (fun xs H Q=>r xs H Q\/r' xs H Q):=by
 intro pins s σ H xs us Q I rs q;rcases q with q | q
 ·exact h pins s σ H xs us Q I rs q
 ·exact h' pins s σ H xs us Q I rs q
theorem lb:CallR X (.type "list") (fun xs H Q=>∃p ys,xs=[.ref p]/\(SqL X.K H p ys\/SqT X.K H p ys)/\∀l,H l=none->Q (.ref l) (cF H l (.lst ys))):=by
 intro pins s σ H xs us Q I r h;obtain ⟨p,ys,rfl,hq,q⟩:=h;obtain ⟨u,rfl,rx⟩:=vals1 r
 cases rx;have fin:∀(its:List Value),Vals ys its->ys.length<=sizeLine->∀(h':Heap) (c':Nat),(∀b o',s.heap.get? b=some o'->h'.get? b=some o') ->
   h'.get? s.heap.objs.size=some { cls:=.type "list",dict:=none,data:=.seq its.toArray c',slots:=#[] }->EP X pins σ Q (.ref s.heap.objs.size) { s with heap:=h' }:=fun its r' hz h' c' kp e=>
  ⟨.ref s.heap.objs.size,_,I.laid (t':=s.toks) kp (Nat.le_refl _) (show ObjOk X.prog X.w _ h' _ (.lst ys) from ⟨hz,its,c',r',e⟩),rfl,q _ (I.hok.fresh (Nat.le_refl _))⟩
 rcases hq with hq | hq
 ·obtain ⟨its,r',pl,hz⟩:=I.list hq
  have hlen:=r'.length
  obtain ⟨o,ho,hc,n,hd⟩:=pl.isList;exact call_list_seq p (.inl rfl) ho hc hd (fun h' c' kp e=>fin its r' hz h' c' kp e) (by simp only [size_toArray]<;>omega)
 ·obtain ⟨its,r',pl,hz⟩:=I.tuple hq
  have hlen:=r'.length
  obtain ⟨o,ho,hc,n,hd⟩:=pl;exact call_list_seq p (.inr rfl) ho hc hd (fun h' c' kp e=>fin its r' hz h' c' kp e) (by simp only [size_toArray]<;>omega)
def xZ (K:Fg) (T:String) (x:V) (H:Hp):Prop:=match x with
 | .str _=>T = "str"
 | .int _=>T = "int"
 | .ref p=>(T = "list"/\∃xs,SqL K H p xs)\/(T = "tuple"/\∃o,K.lookup p=some o/\o.cls=.type "tuple"/\o.dict=none) \/
   (T = "dict"/\((∃kvs,H p=some (.dK kvs))\/∃kvs,H p=some (.dT kvs)))\/(T = "set"/\∃S n,H p=some (.set S n))
 | _=>False
theorem rO {pins:List (Addr×Obj)} {σ:St} {H:Hp} {s:Shared} {T:String} {x:V} {v:Value} (I:Inv X pins σ H s) (r:RelV x v) (ty:xZ X.K T x H) :
  s.TypeIs v T/\∀a,v=.ref a->∃ob,s.heap.get? a=some ob/\ob.dict=none:=by
 cases x with
 | str z=>
  obtain ⟨t,rfl⟩:=r
  cases (show T = "str" from ty)
  exact ⟨typeIs_str s z t,fun _ e=>nomatch e⟩
 | int i=>
  obtain ⟨t,rfl⟩:=r
  cases (show T = "int" from ty)
  exact ⟨typeIs_int s i t,fun _ e=>nomatch e⟩
 | ref p=>
  cases r;rcases ty with ⟨rfl,xs,hq⟩ | ⟨rfl,o,hk,hc,hd⟩ | ⟨rfl,hk⟩ | ⟨rfl,S,n,hk⟩
  ·obtain ⟨its,_,pl,_⟩:=I.list hq
   refine ⟨pl.isList.typeIs,fun a e=>?_⟩
   cases e;obtain ⟨o,n,e,c,hd,_⟩:=pl;exact ⟨o,e,hd⟩
  ·refine ⟨⟨o,I.kIn p o hk,hc⟩,fun a e=>?_⟩
   cases e;exact ⟨o,I.kIn _ o hk,hd⟩
  ·have z:∃o,s.heap.get? p=some o/\o.ExactDict:=by
    rcases hk with ⟨kvs,hk⟩ | ⟨kvs,hk⟩
    ·obtain ⟨_,_,_,_,o,_,_,e,ex,_⟩:=I.hok p _ hk
     exact ⟨o,e,ex⟩
    ·obtain ⟨_,_,_,_,o,_,_,e,ex,_⟩:=I.hok p _ hk
     exact ⟨o,e,ex⟩
   obtain ⟨o,e,ex⟩:=z;refine ⟨⟨o,e,ex.1⟩,fun a e2=>?_⟩
   cases e2;exact ⟨o,e,ex.2.1⟩
  ·obtain ⟨o,_,_,_,e,ex,_⟩:=I.hok p _ hk
   refine ⟨⟨o,e,ex.1⟩,fun a e2=>?_⟩
   cases e2;exact ⟨o,e,ex.2.1⟩
 | _=>exact False.elim ty
def yh (K:Fg) (T:String) (r:V->List V->Hp->VK->Prop) (to:TE):TE:=fun σ H Q=>to σ H fun x H1=>xZ K T x H1/\r x [] H1 Q
def AF (K:Fg) (T:String) (r:V->List V->Hp->VK->Prop) (to:TE) (t:TA):TE:=fun σ H Q=>to σ H fun x H1=>xZ K T x H1/\t σ H1 fun xs H2=>r x xs H2 Q
variable {o e:Expr} {es:List Expr} {to:TE} {t:TA} {name:Str} {apos cpos:Pos} {T id:String} {r:V->List V->Hp->VK->Prop}
theorem yW (pa:PlainAttrs T) (slot:Slot T name id) (hty:typeOf (.builtin id)=pure (.type "method_descriptor")) (hm:Gh X id r) (ho:PE X o to)
  (hbase:attributeBase o name X.env (eval o X.env)=eval o X.env:=by rfl) (hline:(apos.endLine==cpos.line)=true:=by rfl):PE X (.Call (.Attribute o name apos) [] [] cpos) (yh X.K T r to):=by
 intro pins s σ H Q I h;refine wpAny_Call_method0_late hbase hline (ck (ho pins s σ H _ I h) fun v s1 ⟨x,H1,I1,r1,ty,q1⟩=>?_)
 obtain ⟨h1,h2⟩:=rO I1 r1 ty;exact ⟨T,id,pa,slot,hty,h1,h2,Calls.callWith_builtin rfl (PySem.evalArgs_none (hm pins s1 σ H1 x [] v [] Q I1 r1 .nil q1))⟩
theorem sE (pa:PlainAttrs T) (slot:Slot T name id) (hty:typeOf (.builtin id)=pure (.type "method_descriptor")) (hm:Gh X id r) (ho:PE X o to) (ha:PA X (e::es) t)
  (hbase:attributeBase o name X.env (eval o X.env)=eval o X.env:=by rfl)
  (hfew:((backTo cpos (starEach (e::es) X.env)).all (fun x=>!x.1)&&(backToKw cpos (keywordEach [] X.env)).all (fun x=>x.1.isSome)
   && decide ((e::es).length+([]:List Keyword).length+(if ([]:List Keyword).isEmpty then 0 else 1)<30))=true:=by rfl)
  (hline:(apos.endLine==cpos.line)=true:=by rfl) (hs:starEach (e::es) X.env=(false,eval e X.env)::starEach es X.env:=by rfl) (hplain:(backTo cpos (starEach es X.env)).any (·.1)=false:=by rfl) :
  PE X (.Call (.Attribute o name apos) (e::es) [] cpos) (AF X.K T r to t):=by
 intro pins s σ H Q I h;refine wpAny_Call_method_late hbase hfew hline rfl (ck (ho pins s σ H _ I h) fun v s1 ⟨x,H1,I1,r1,ty,q1⟩=>?_)
 obtain ⟨h1,h2⟩:=rO I1 r1 ty;refine ⟨T,id,pa,slot,hty,h1,h2,?_⟩
 have hA:=ha cpos pins s1 σ H1 _ I1 q1
 rw [hs] at hA ⊢;refine Calls.callWith_builtin (by show (false||(backTo cpos (starEach es X.env)).any (·.1))=false;rw [hplain]<;>rfl) (Calls.evalArgs_plain ?_)
 exact ck hA fun us s2 ⟨vs,H2,I2,r2,q2⟩=>hm pins s2 σ H2 x vs v us Q I2 r1 r2 q2
end
def Hk (X:Cx) (id:String) (r:V->List V->Hp->VK->Prop):Prop:=
 ∀(pins:List (Addr×Obj)) (s:Shared) (σ:St) (H:Hp) (x:V) (xs:List V) (v:Value) (us:List Value) (Q:VK),Inv X pins σ H s->RelV x v->Vals xs us->r x xs H Q ->
  wpAny (model X.prog X.w) X.A (call (.builtin id) (v::us)) (EP X pins σ Q) X.xe s
theorem Vals.one:∀{x:V} {us:List Value},Vals [x] us->∃u,us=[u]/\RelV x u
 | _,_,.cons r .nil=>⟨_,rfl,r⟩
theorem Vals.zero:∀{us:List Value},Vals [] us->us=[]
 | _,.nil=>rfl
theorem Vals.dropLast {xs:List V} {us:List Value} (h:Vals xs us):Vals xs.dropLast us.dropLast:=by
 induction h with
 | nil=>exact .nil
 | cons r t ih=>
  cases t with
  | nil=>exact .nil
  | cons q t'=>exact .cons r ih
theorem nP {α:Type} (l:List α):l.eraseIdx (l.length-1)=l.dropLast:=by
 induction l with
 | nil=>rfl
 | cons a r ih=>
  cases r with
  | nil=>rfl
  | cons b r=>
   have e:(a::b::r).length-1=((b::r).length-1)+1:=by
    have h1:(a::b::r).length=r.length+2:=rfl
    have h2:(b::r).length=r.length+1:=rfl
    omega
   rw [e,List.eraseIdx_cons_succ,ih];all_goals rfl
section
variable {X:Cx} {pins:List (Addr×Obj)} {σ:St} {H:Hp} {s:Shared} {l b:Addr} {xs ys zs:List V}
theorem Inv.lset {its its':List Value} {n:Nat} {f:Array Value->Array Value} {t':Nat} (I:Inv X pins σ H s) (hH:H l=some (.lst xs))
  (e:s.heap.get? l=some { cls:=.type "list",data:=.seq its.toArray n }) (hf:f its.toArray=its'.toArray) (hv:Vals ys its') (hz:ys.length<=sizeLine) :
  Inv X pins σ (cF H l (.lst ys)) { s with heap:=s.heap.update l (Obj.mapSeq f),toks:=t' }:=by
 have q:=PySem.IsL.update e f
 rw [hf] at q;refine I.write (x:=l) (e:=l) (by rw [hH];exact trivial) (.inl rfl) (fun b' u hb hu=>(Heap.get?_update_other s.heap (Obj.mapSeq f) (Ne.symm hb)).trans hu) ⟨_,q⟩ ?_
 exact ⟨hz,its',_,hv,q⟩
theorem Inv.lstM (I:Inv X pins σ H s) (hH:H l=some (.lst xs)):xs.length<=sizeLine/\∃(its:List Value) (n:Nat),Vals xs its/\xs.length=its.length/\s.heap.get? l=some { cls:=.type "list",data:=.seq its.toArray n }:=by
 obtain ⟨z,its,n,r,e⟩:=I.hok l _ hH;exact ⟨z,its,n,r,r.length,e⟩
end
section
variable {X:Cx}
def xS:V->List V->Hp->VK->Prop:=fun x vs H Q=>∃l xs y,x=.ref l/\vs=[y]/\H l=some (.lst xs)/\xs.length<sizeLine/\Q .non (cF H l (.lst (xs++[y])))
theorem En:Hk X "list.append" xS:=by
 intro pins s σ H x vs v us Q I rx rv h;obtain ⟨l,xs,y,rfl,rfl,hH,hz,q⟩:=h
 cases rx;obtain ⟨u,rfl,ru⟩:=rv.one;obtain ⟨z,its,n,r,hl,e⟩:=I.lstM hH;refine call_meets F.slot_list_append ⟨_,e,rfl⟩ F.entry_list_append (F.args_list_append_2 _ _) (PySem.list_append l its.toArray n u (by rw [size_toArray];omega)) ⟨e,?_⟩
 refine ⟨.non,_,I.lset (its':=its++[u]) hH e (by simp) (r.append (.cons ru .nil)) ?_,rfl,q⟩
 rw [length_append,length_singleton];omega
def so:V->List V->Hp->VK->Prop:=fun x vs H Q=>∃l xs y,x=.ref l/\vs=[]/\H l=some (.lst xs)/\xs[xs.length-1]?=some y/\Q y (cF H l (.lst xs.dropLast))
theorem zi:Hk X "list.pop" so:=by
 intro pins s σ H x vs v us Q I rx rv h;obtain ⟨l,xs,y,rfl,rfl,hH,hy,q⟩:=h
 cases rx;have hus:=rv.zero
 subst hus;obtain ⟨z,its,n,r,hl,e⟩:=I.lstM hH;obtain ⟨u,hu,ru⟩:=r.get hy;have hy':its.toArray[its.toArray.size-1]?=some u:=by
  show its.toArray[its.length-1]?=some u
  rw [<-Array.getElem?_toList,<-hl];exact hu
 refine call_meets F.slot_list_pop ⟨_,e,rfl⟩ F.entry_list_pop (F.args_list_pop_1 _) (MeetsSeq.list_pop_last l its.toArray n u hy' (by rw [size_toArray];omega)) ⟨e,?_⟩
 refine ⟨y,_,I.lset (its':=its.dropLast) hH e ?_ r.dropLast ?_,ru,q⟩
 ·show its.toArray.eraseIdxIfInBounds (its.toArray.size-1)=its.dropLast.toArray
  rw [size_toArray,List.eraseIdxIfInBounds_toArray,nP]
 ·rw [List.length_dropLast]
  omega
end
section
variable {prog:Program} {w:World} {A:Around} {E:Value->Shared->Prop} {s:Shared}
set_option maxRecDepth 100000 in
end
end L2
namespace Att
open PySem PySem.W PySem.Calls PyProof.Rows
theorem gY {P:Params} {h:Heap}:∀(ns:List Int) (vs:List Value),WellAll P h vs (ns.map WData.int)->IntsAre vs ns:=by
 intro ns;induction ns with
 | nil=>
  intro vs w;rw [List.map_nil] at w
  cases w;exact .nil
 | cons n ns ih=>
  intro vs w;rw [map_cons] at w
  cases w with
  | cons a b=>
   cases a;exact .cons _ _ (ih _ b)
theorem pH {l:OpenLaw} {n:Nat} (hn:l.most=some n) {P:Params} {h:Heap} {args:List WData} {vals:List Value}
  (hpre:l.row.toRowW.claim.pre args=true) (hwl:WellAll P h vals args) :
  ∃a vs ns,vals=[Value.ref a]/\args=[WData.list (ns.map WData.int)]/\h.get? a=some { cls:=.type "list",data:=.seq vs.toArray }/\IntsAre vs ns/\ns.length<=n:=by
 have hsh:WShape.hasAll [] args [.list .int]=true:=(pre_splitW hpre).1
 have hc:l.pre.holds [] { args:=args }=true:=(pre_splitW hpre).2
 obtain ⟨d,r,rfl,h1,h2⟩:=hasAllW_cons hsh;obtain rfl:=hasAllW_nil h2
 obtain ⟨xs,rfl,h3⟩:=hasW_list h1;obtain ⟨ns,rfl⟩:=items_int h3;have hlen:ns.length<=n:=by
  unfold OpenLaw.pre at hc;have h4:(WTm.not (.lt (.lit (.int (n:Int))) (.len (.arg 0)))).holds [] { args:=[.list (ns.map .int)] }=true:=by
   have h4:=(holds_andW hc).1
   rw [hn] at h4;exact h4
  have h5:=condW_of h4 (w_not (w_lt w_lit (w_len_list (w_arg rfl))))
  rw [length_map] at h5;refine Nat.le_of_not_lt fun q=>?_
  have q':(n:Int)<((ns.length:Nat):Int):=by omega
  first
   | (rw [decide_eq_true q'] at h5;exact absurd h5 (by decide))
   | (simp at h5;omega)
 cases hwl with
 | cons w1 w2=>
  cases w2
  cases w1 with
  | list ho hall=>exact ⟨_,_,ns,rfl,rfl,ho,gY ns _ hall,hlen⟩
theorem pT (l:OpenLaw) (args:List WData):l.row.toRowW.claim.post args (.bool true) args=true:=
 postW_of (r:=l.row.toRowW) (X:=(true==true))
  (show WShape.has [] (.bool true) .bool=true by first | rfl | decide | simp [WShape.has,WShape.arms,WShape.armsAll])
  (show (WTm.eq .res (.lit (.bool true))).value [] { args:=args,res:=some (.bool true),after:=args }=some (.bool (true==true)) from w_eq_bool (w_res rfl) w_lit) rfl
theorem attach_call {l:OpenLaw} {n:Nat} {q:Program} {loose:List Str} {XP:(Str->Option Value)->Heap->Prop} {YP:World->Heap->Prop} {d:DefRec}
  (hn:l.most=some n) (hdf:d.params.defaults=[])
  (call:∀(w:World) (s₀ s₁:Shared) (mg mb:Str->Option Value) (fa:Addr) (o:Obj) (pm cd doc:Value) (a:Addr) (vs:List Value) (ns:List Int),
   Ground q loose [] XP w s₀ mg mb s₁.heap->YP w s₁.heap ->
   s₁.heap.get? fa=some o->o.data=.func (docDef d.name d.params d.body d.scope pm cd doc)->s₁.heap.CodeRec cd d.name->mg d.name=some (.ref fa) ->
   s₁.heap.get? a=some { cls:=.type "list",data:=.seq vs.toArray }->IntsAre vs ns->ns.length<=n->s₁.gens=#[] ->
   codeAny (model l.prog w) callerA (.call (.ref fa) ⟨[.ref a],[]⟩) (fun r s'=>r=.ok (.ret (.bool true))/\OldK s₁.heap s'.heap/\s'.os=s₁.os/\AllBare s'.gens) s₁) :
  WalkO q loose XP YP l.row.toRowW d [] (fun f vs=>PySem.call f vs):=by
 intro w s₀ s₁ mg mb G Y fa o pm cd doc dV kV ho hd hcd hD hmg hg args vals as hpre hlay hrd hwl hlo;obtain rfl:dV=.none:=Dflts.none hD hdf
 obtain rfl:kV=.none:=Dflts.noKw hD
 obtain ⟨a,vs,ns,rfl,rfl,hobj,hints,hlen⟩:=pH hn hpre hwl;refine enter_call (codeAny_mono (call w s₀ s₁ mg mb fa o pm cd doc a vs ns G Y ho (fd_plain hd) hcd hmg hobj hints hlen hg) fun r s' hq=>?_)
 obtain ⟨rfl,h2,h3,h4⟩:=hq;exact ⟨.inl ⟨.bool true,.bool true,[],rfl,fun _=>rfl,.bool true,pT l _,fun _=>⟨List.Pairwise.nil,fun _ hm=>(nomatch hm)⟩⟩,h2,h3,h4⟩
end Att
namespace L2
open PySem PySem.Spec PyProof.Rows
theorem jO:∀{vs:List Value} {ns:List Int},IntsAre vs ns->Vals (ns.map V.int) vs
 | _,_,.nil=>.nil
 | _,_,.cons n t h=>.cons ⟨t,rfl⟩ (jO h)
def Ae (H:Hp):Prop:=∀b,H b=none\/∃o xs,H b=some (.frz o (.lst xs))
theorem sU {P:Program} {w:World} {K:Fg} {mg mb:Str->Option Value} {CX:tY} {k:Nat} {fa a:Addr} {fd:FuncData} {x:Str} {sp:Sp} {s₁:Shared} {vs:List Value} {ns:List Int}
  (KX:K.In s₁.heap) (hns:s₁.heap.Ns mainGlobals mg) (hb:s₁.heap.Ns builtinsNs mb) (hbb:∀x:Str,x ≠ "__name__"->mb x=bootBuiltins x) (hlim:s₁.heap.NoLimit) (hg:s₁.gens=#[])
  (ha:s₁.heap.get? a=some { cls:=.type "list",data:=.seq vs.toArray }) (hi:IntsAre vs ns) (hl:ns.length<=sizeLine) (hr:Room k callerA)
  (F:∀base:Heap,K.In base->base.Ns mainGlobals mg->eN P w K mg base CX k fa fd [x] sp) (hbind:∀(s:Shared) (u:Value),BindsTo s fd ⟨[u],[]⟩ [(x,u)])
  (hsp:∀H:Hp,Ae H->SqL K H a (ns.map V.int)->sp [.ref a] H (fun v _=>v=.bl true) fun _ _ _=>False)
  (hCX:∀H e s',CX [] H s₁ (fun _ _ _=>False) e s'->False) :
  codeAny (model P w) callerA (.call (.ref fa) ⟨[.ref a],[]⟩) (fun r s'=>r=.ok (.ret (.bool true))/\OldK s₁.heap s'.heap/\s'.os=s₁.os/\AllBare s'.gens) s₁:=by
 have rv:=jO hi
 have lenV:=hi.length
 have core:∀H:Hp,Ae H->SqL K H a (ns.map V.int)->HOk P w H s₁.heap->(∀b,H b≠none->b=a)->(H a≠none->K.lookup a=none) ->
   codeAny (model P w) callerA (.call (.ref fa) ⟨[.ref a],[]⟩) (fun r s'=>r=.ok (.ret (.bool true))/\OldK s₁.heap s'.heap/\s'.os=s₁.os/\AllBare s'.gens) s₁:=by
  intro H hO hS hok hA hK;have base_of:∀{b:Addr} {o:Obj},s₁.heap.get? b=some o->H b=none->(kM s₁.heap H).get? b=some o:=fun e n=>tf e n
  have noA:∀{b:Addr} {o:Obj} {es:Array DictEntry} {ep:Nat},s₁.heap.get? b=some o->o.data=.dict es ep->H b=none:=fun {b o es ep} e d=>by
   cases q:H b with
   | none=>rfl
   | some u=>
    have e':b=a:=hA b (by rw [q];simp)
    subst e'
    rw [ha] at e;cases e;have d':Data.seq vs.toArray _=Data.dict es ep:=d
    cases d'
  have nsK:∀{b:Addr} {m:Str->Option Value},s₁.heap.Ns b m->(kM s₁.heap H).Ns b m:=fun {b m} ⟨o,es,ep,e,d,r⟩=>⟨o,es,ep,base_of e (noA e d),d,r⟩
  have hKb:K.In (kM s₁.heap H):=fun b o e=>base_of (KX b o e) (by
   cases q:H b with
   | none=>rfl
   | some u=>
    have e':b=a:=hA b (by rw [q];simp)
    subst e'
    rw [hK (by rw [q];simp)] at e;cases e)
  have hM:Mod K mg (kM s₁.heap H):=⟨hKb,nsK hns,⟨mb,nsK hb,hbb⟩,let ⟨mc,h1,h2⟩:=hlim;⟨mc,nsK h1,h2⟩⟩
  have e0:wq P w K mg (kM s₁.heap H) callerA [] s₁ H:=⟨rfl,hM,fun b o e=>vl e,Nat.le_of_eq (ql _ _),trivial,fun b hb=>absurd (show b∈([]:List Addr) from hb) (by simp),hok,.of_eq hg⟩
  refine codeAny_mono ((F _ hKb (nsK hns)).run callerA [] s₁ H ⟨[.ref a],[]⟩ [.ref a] [.ref a] _ _ hr e0 (hbind s₁ (.ref a)) (.cons rfl .nil) (hsp H hO hS)) fun r s' h=>?_
  cases r with
  | error e=>exact (hCX H e s' h).elim
  | ok fl=>
   cases fl with
   | next=>exact False.elim h
   | brk=>exact False.elim h
   | cont=>exact False.elim h
   | ret u=>
    obtain ⟨v,H',os,bare,un,hok',r',q⟩:=h;have q':v=.bl true:=q
    subst q'
    obtain rfl:u=Value.bool true:=r'
    refine ⟨rfl,OldK.of_keep fun b o e=>?_,os,bare⟩
    cases q:H b with
    | none=>exact un.keep b o e q (by intro z;exact absurd (show b∈([]:List Addr) from z) (by simp)) (by simp)
    | some u=>
     rcases hO b with z | ⟨ob,xs,z⟩
     ·rw [q] at z;cases z
     ·have z2:=un.frzs b ob _ z
      obtain ⟨e1,_⟩:=hok b _ z;obtain ⟨e2,_⟩:=hok' b _ z2
      rw [e] at e1;cases e1;exact e2
 cases hk:K.lookup a with
 | some o=>
  have e:=KX a o hk
  rw [ha] at e
  cases e;refine core (fun _=>none) (fun _=>.inl rfl) (.inr ⟨_,vs.toArray,_,hk,rfl,rfl,rfl,by rw [size_toArray,lenV];exact hl,by simpa using rv⟩) (fun b u z=>by have z':(none:Option HO)=some u:=z;cases z') (fun b z=>absurd rfl z) fun z=>absurd rfl z
 | none=>
  refine core (fun b=>if b=a then some (.frz { cls:=.type "list",data:=.seq vs.toArray } (.lst (ns.map V.int))) else none) (fun b=>?_) (.inl (.inr ⟨{ cls:=.type "list",data:=.seq vs.toArray },if_pos rfl⟩)) (fun b u z=>?_) (fun b z=>?_) fun _=>hk
  ·by_cases hb:b=a
   ·exact .inr ⟨_,_,if_pos hb⟩
   ·exact .inl (if_neg hb)
  ·by_cases hb:b=a
   ·have z':=(if_pos hb).symm.trans z
    cases z'
    subst hb;exact ⟨ha,by rw [length_map];exact hl,vs,_,rv,ha⟩
   ·have z':=(if_neg hb).symm.trans z
    cases z'
  ·by_cases hb:b=a
   ·exact hb
   ·exact absurd (if_neg hb) z
theorem walk_of {l:PySem.W.OpenLaw} {n k:Nat} {q:Program} {loose:List Str} {XP:(Str->Option Value)->Heap->Prop} {YP:World->Heap->Prop} {d:DefRec} {K:Params->Fg} {CX:World->tY} {sp:World->Sp} {x:Str}
  (hn:l.most=some n) (hn2:n<=sizeLine) (hdf:d.params.defaults=[]) (hr:Room k callerA)
  (hY:∀(w:World) (h:Heap),YP w h->(K w.params).In h)
  (F:∀(w:World) (mg:Str->Option Value) (fa:Addr) (h:Heap),(K w.params).In h->h.Ns mainGlobals mg->mg d.name=some (.ref fa) ->
   ∃fd:FuncData,(∀(s:Shared) (u:Value),BindsTo s fd ⟨[u],[]⟩ [(x,u)]) /\
    ∀base:Heap,(K w.params).In base->base.Ns mainGlobals mg->eN l.prog w (K w.params) mg base (CX w) k fa fd [x] (sp w))
  (hsp:∀(w:World) (H:Hp) (a:Addr) (ns:List Int),ns.length<=n->Ae H->SqL (K w.params) H a (ns.map V.int)->sp w [.ref a] H (fun v _=>v=.bl true) fun _ _ _=>False)
  (hCX:∀(w:World) (H:Hp) (s:Shared) (e:Value) (s':Shared),CX w [] H s (fun _ _ _=>False) e s'->False) :
  PySem.W.WalkO q loose XP YP l.row.toRowW d [] (fun f vs=>PySem.call f vs):=by
 refine Att.attach_call hn hdf fun w s₀ s₁ mg mb fa o pm cd doc a vs ns G Y ho hd hcd hmg hobj hints hlen hg=>?_
 have KX:=hY w _ Y
 obtain ⟨fd,hb,hF⟩:=F w mg fa _ KX G.T.g hmg;exact sU KX G.T.g G.T.b G.T.builtins G.T.nolimit hg hobj hints (Nat.le_trans hlen hn2) hr hF hb (fun H hO hS=>hsp w H a ns hlen hO hS) fun H e s'=>hCX w H s₁ e s'
def Ay (s:Stmt):Arguments:=match s with
 | .FunctionDef _ a _ _ _ _ _ _ _ _=>a
 | _=>{ posonlyargs:=[],args:=[],vararg:=none,kwonlyargs:=[],kw_defaults:=[],kwarg:=none,defaults:=[] }
def rf (s:Stmt):List Stmt:=match s with
 | .FunctionDef _ _ b _ _ _ _ _ _ _=>b
 | _=>[]
def iX (s:Stmt):Scope:=match s with
 | .FunctionDef _ _ _ _ _ _ sc _ _ _=>sc
 | _=>{ kind:=.function,names:=[],isGenerator:=false,isCoroutine:=false }
abbrev lA:tY:=fun _ _ _ _ _ _=>False
abbrev E0:XK:=fun _ _ _=>False
theorem sF {X:Cx}:Dv lA X E0:=fun _ _ _ _ _ _ _ h=>h.elim
structure Fun (K:Fg) (x qual:Str) (st:Stmt) (f:Addr) (fd:FuncData):Prop where
 ex:∃(oc:Value) (od:Option Addr) (kV doc pm:Value) (an:Option Addr) (cdv ct:Value) (osl:Array (Option Value)),
  fd=PySem.W.fnOf x qual (Ay st) (rf st) (iX st) .none kV doc pm an cdv ct/\K.lookup f=some ⟨oc,od,.func fd,osl⟩/\PySem.W.codeIn K cdv qual=true
 kp:PySem.W.keepIn K (.ref f)=true
section
variable {P:Program} {w:World} {K:Fg} {mg:Str->Option Value} {base:Heap}
theorem Fun.ok {x qual:Str} {st:Stmt} {f:Addr} {fd:FuncData} {N ps:List Str} {k:Nat} {sp:Sp} (F:Fun K x qual st f fd) (S:eT N ps (iX st)) (len:∀vs H Q E,sp vs H Q E->vs.length=ps.length)
  (hbody:∀(cdv:Value) (A:Around) (outer:List Env) (s:Shared) (H:Hp) (vs:List V) (Q:VK) (E:XK),Room k (A.deeper (envOfC qual (iX st) s.heap.objs.size f cdv))->sp vs H Q E ->
   ∃t,PSs (kZ lA P w K mg base N qual (iX st) f cdv A outer s H E).nox (rf st) t/\t { nx:=fun _ H'=>Q .non H',rt:=Q } (start N vs) H):eN P w K mg base lA (k+1) f fd ps sp:=by
 obtain ⟨oc,od,kV,doc,pm,an,cdv,ct,osl,rfl,lk,hcd⟩:=F.ex;refine BX lk hcd S len fun A outer s H vs Q E hr hsp=>?_
 obtain ⟨t,h,q⟩:=hbody cdv A outer s H vs Q E hr hsp;exact ⟨t,h.nox,q⟩
theorem Fun.binds {x qual:Str} {st:Stmt} {f:Addr} {fd:FuncData} {ps:List Str} (F:Fun K x qual st f fd)
  (h:∀(kV doc pm:Value) (an:Option Addr) (cdv ct:Value) (us:List Value),us.length=ps.length->bindArgs (PySem.W.fnOf x qual (Ay st) (rf st) (iX st) .none kV doc pm an cdv ct) ⟨us,[]⟩=pure (ps.zip us)):Binds K fd ps []:=by
 obtain ⟨oc,od,kV,doc,pm,an,cdv,ct,osl,rfl,lk,hcd⟩:=F.ex;exact .all (h kV doc pm an cdv ct)
theorem zL {x qual:Str} {st:Stmt} {f:Addr} {oc:Value} {od an:Option Addr} {osl:Array (Option Value)} {kV doc pm cdv ct:Value} (l:K.lookup f=some ⟨oc,od,.func (PySem.W.fnOf x qual (Ay st) (rf st) (iX st) .none kV doc pm an cdv ct),osl⟩)
  (c:PySem.W.codeIn K cdv qual=true) (k:PySem.W.keepIn K (.ref f)=true):Fun K x qual st f (PySem.W.fnOf x qual (Ay st) (rf st) (iX st) .none kV doc pm an cdv ct):=⟨⟨oc,od,kV,doc,pm,an,cdv,ct,osl,rfl,l,c⟩,k⟩
end
theorem kK {A B:Prop} (h:B):if false=true then A else B:=by
 rw [if_neg Bool.false_ne_true];exact h
theorem kJ {A B:Prop} (h:A):if true=true then A else B:=by
 rw [if_pos rfl];exact h
def Same (H H':Hp):Prop:=∀b o,H b=some o->H' b=some o
theorem Same.refl (H:Hp):Same H H:=fun _ _ h=>h
theorem Same.trans {H H1 H2:Hp} (a:Same H H1) (b:Same H1 H2):Same H H2:=fun c o h=>b c o (a c o h)
theorem Same.free {H H':Hp} (e:Same H H') {l:Addr} (h:H' l=Option.none):H l=Option.none:=by
 cases q:H l with
 | none=>rfl
 | some o=>
  rw [e l o q] at h
  cases h
theorem Same.seq {K:Fg} {H H':Hp} {a:Addr} {xs:List V} (e:Same H H') (h:SqL K H a xs):SqL K H' a xs:=by
 rcases h with (h | ⟨o,h⟩) | h
 ·exact .inl (.inl (e _ _ h))
 ·exact .inl (.inr ⟨o,e _ _ h⟩)
 ·exact .inr h
section
variable {prog:Program} {w:World} {A:Around} {R:Result->Shared->Prop} {s:Shared}
abbrev wj:Value->Shared->Prop:=fun _ _=>False
theorem la {elt target iter:Expr} {ifs:List Expr} {scope:Scope} {pos:Pos} {it acc:Value} {env:Env} (I:Nat->Shared->Prop)
  (turn:∀n s,I n s->wpAny (model prog w) A (pyNext it) (fun r s₁=>match r with
   | none=>R (.ok .next) s₁
   | some v=>wpAny (model prog w) A (letOwnedTupleGo target it v) (fun _ s₁'=>wpAny (model prog w) A (assign target env v) (fun _ s₂=>
     wpAny (model prog w) A (forIn ifs true fun c r=>if r=true then do let ok <-isTrue c env (eval c env);pure (ForInStep.yield ok) else pure (ForInStep.yield r)) (fun ok s₃=>
      if ok=true then wpAny (model prog w) A (eval elt env) (fun x s₄=>
       wpAny (model prog w) A (call (.builtin "list.append") [acc,x]) (fun _ s₅=>∃m,m<n/\I m s₅) wj s₄) wj s₃
      else ∃m,m<n/\I m s₃) wj s₂) wj s₁') wj s₁) wj s)
  (n:Nat) (h:I n s) :
  codeAny (model prog w) A (.compLoop (.ListComp elt [⟨target,iter,ifs,0⟩] scope pos) 0 it acc env) R s:=by
 refine codeAny_loop rfl I (fun n s hI=>?_) n h
 show wpAny _ A ((compTurn (.ListComp elt [⟨target,iter,ifs,0⟩] scope pos) 0 it acc env).onRaise (fun x=>do noteFrame x env;theTreesLotGoes x)) _ _ s
 refine wpAny_noted ?_
 rw [compTurn_list];have F:∀{Z:Value->Shared->Prop},∀(e:Value) (s:Shared),wj e s->Z e s:=fun _ _ x=>x.elim
 refine wpAny_bind (wpAny_standAt (wpAny_bind (wpAny_mono (turn n s hI) (fun r s₁ h₁=>?_) F)))
 cases r with
 | none=>exact wpAny_pure h₁
 | some v=>
  refine wpAny_bind (wpAny_mono h₁ (fun _ s₁' h₁'=>?_) F)
  refine wpAny_bind (wpAny_mono h₁' (fun _ s₂ h₂=>wpAny_bind (wpAny_mono h₂ (fun ok s₃ h₃=>?_) F)) F)
  cases ok with
  | false=>exact wpAny_pure ⟨rfl,h₃⟩
  | true=>
   exact wpAny_bind (wpAny_bind (wpAny_mono h₃ (fun x s₄ h₄=>wpAny_bind (wpAny_mono h₄ (fun _ s₅ h₅=>wpAny_pure (wpAny_pure ⟨rfl,h₅⟩)) F)) F))
end
def cU (env:Env):List (Str×NameKind)->List (Str×Addr)->List (Str×Addr)
 | [],acc=>acc
 | (n,k)::r,acc=>if k==.free then cU env r ((n,(env.cells.lookup n).getD 0)::acc) else cU env r acc
theorem Et {env:Env}:∀(names:List (Str×NameKind)) (acc:List (Str×Addr)),(∀n,(n,NameKind.free)∈names->∃c,env.cells.lookup n=some c) ->
  (forIn names acc fun (x:Str×NameKind) (cs:List (Str×Addr))=>(match x with | (name,kind)=>if kind==.free then (do let a <-cellOf env name;pure (ForInStep.yield ((name,a)::cs))) else pure (ForInStep.yield cs):Sem (ForInStep (List (Str×Addr)))))=(pure (cU env names acc):Sem (List (Str×Addr)))
 | [],acc,_=>by rw [List.forIn_nil];rfl
 | (n,k)::r,acc,h=>by
  rw [List.forIn_cons];unfold cU;by_cases hk:(k==.free)=true
  ·simp only [hk,if_true]
   have hk':k=.free:=by simpa using hk
   obtain ⟨c,hc⟩:=h n (by rw [hk'];exact mem_cons_self)
   have e:cellOf env n=pure c:=by unfold cellOf;rw [hc]
   rw [e,hc];exact Et r ((n,c)::acc) fun n' hn=>h n' (mem_cons_of_mem _ hn)
  ·rw [if_neg hk]
   simp only [hk]
   exact Et r acc fun n' hn=>h n' (mem_cons_of_mem _ hn)
theorem gm {env:Env} {scope:Scope} (h:∀n,(n,NameKind.free)∈scope.names->∃c,env.cells.lookup n=some c):closureFor scope env=pure (cU env scope.names []):=by
 have:=Et (env:=env) scope.names [] h
 unfold closureFor;rw [show (pure (cU env scope.names []):Sem (List (Str×Addr)))=(pure (cU env scope.names []) >>= fun x=>pure x) from rfl,<-this]
theorem Ex {env:Env} {x:Str} {c:Addr}:∀{names:List (Str×NameKind)} {acc:List (Str×Addr)},(∀n,(n,NameKind.free)∈names->∃c,env.cells.lookup n=some c)->(cU env names acc).lookup x=some c->env.cells.lookup x=some c\/acc.lookup x=some c
 | [],_,_,e=>.inr e
 | (n,k)::r,acc,h,e=>by
  unfold cU at e;have h':∀n',(n',NameKind.free)∈r->∃c,env.cells.lookup n'=some c:=fun n' hn=>h n' (mem_cons_of_mem _ hn)
  by_cases hk:(k==.free)=true
  ·rw [if_pos hk] at e
   rcases Ex h' e with q | q
   ·exact .inl q
   ·rw [lookup_cons] at q
    have hk':k=.free:=by simpa using hk
    obtain ⟨c',hc⟩:=h n (by rw [hk'];exact mem_cons_self)
    cases hx:x==n with
    | true=>
     rw [hx,hc] at q
     cases q;rw [eq_of_beq hx];exact .inl hc
    | false=>
     rw [hx] at q;exact .inr q
  ·rw [if_neg hk] at e
   exact Ex h' e
theorem AE {env:Env} {x:Str}:∀{names:List (Str×NameKind)} {acc:List (Str×Addr)},(x,NameKind.free)∈names\/(acc.lookup x).isSome=true->((cU env names acc).lookup x).isSome=true
 | [],_,h=>h.elim nofun id
 | (n,k)::r,acc,h=>by
  unfold cU;by_cases hk:(k==.free)=true
  ·rw [if_pos hk]
   refine AE (names:=r) ?_
   rcases h with h | h
   ·rcases List.mem_cons.mp h with e | h
    ·cases e
     exact .inr (by rw [lookup_cons];simp)
    ·exact .inl h
   ·right
    rw [lookup_cons]
    cases hx:x==n with
    | true=>rfl
    | false=>exact h
  ·rw [if_neg hk]
   refine AE (names:=r) ?_
   rcases h with h | h
   ·rcases List.mem_cons.mp h with e | h
    ·cases e
     exact absurd rfl hk
    ·exact .inl h
   ·exact .inr h
theorem AZ {x:Str} {c:Addr}:∀{names:List (Str×NameKind)} {n:Nat} {acc:List (Str×Addr)},(cellsFrom n names acc).lookup x=some c->((x,NameKind.cell)∈names/\n<=c)\/acc.lookup x=some c
 | [],_,_,e=>.inr e
 | (y,k)::r,n,acc,e=>by
  unfold cellsFrom at e;by_cases hk:(k==.cell)=true
  ·rw [if_pos hk] at e
   have hk':k=.cell:=by simpa using hk
   rcases AZ e with ⟨q,l⟩ | q
   ·exact .inl ⟨mem_cons_of_mem _ q,by omega⟩
   ·rw [lookup_cons] at q
    cases hx:x==y with
    | true=>
     rw [hx] at q
     cases q;exact .inl ⟨by rw [eq_of_beq hx,hk'];exact mem_cons_self,Nat.le_refl _⟩
    | false=>
     rw [hx] at q;exact .inr q
  ·rw [if_neg hk] at e
   rcases AZ e with ⟨q,l⟩ | q
   ·exact .inl ⟨mem_cons_of_mem _ q,l⟩
   ·exact .inr q
theorem EE {x y:Str} {c:Addr}:∀{names:List (Str×NameKind)} {n:Nat} {acc:List (Str×Addr)},(∀z d,acc.lookup z=some d->d<n)->(∀x y d,acc.lookup x=some d->acc.lookup y=some d->x=y) ->
  (cellsFrom n names acc).lookup x=some c->(cellsFrom n names acc).lookup y=some c->x=y
 | [],_,_,_,hi,e,e'=>hi _ _ _ e e'
 | (z,k)::r,n,acc,hl,hi,e,e'=>by
  unfold cellsFrom at e e'
  by_cases hk:(k==.cell)=true
  ·rw [if_pos hk] at e e'
   refine EE (names:=r) (n:=n+1) (acc:=(z,n)::acc) (fun a d q=>?_) (fun a b d q q'=>?_) e e'
   ·rw [lookup_cons] at q
    cases hx:a==z with
    | true=>rw [hx] at q;cases q;exact Nat.lt_succ_self _
    | false=>rw [hx] at q;exact Nat.lt_succ_of_lt (hl a d q)
   ·rw [lookup_cons] at q q'
    cases hx:a==z with
    | true=>
     rw [hx] at q
     cases q
     cases hy:b==z with
     | true=>rw [eq_of_beq hx,eq_of_beq hy]
     | false=>rw [hy] at q';exact absurd (hl b n q') (Nat.lt_irrefl _)
    | false=>
     rw [hx] at q
     cases hy:b==z with
     | true=>rw [hy] at q';cases q';exact absurd (hl a n q) (Nat.lt_irrefl _)
     | false=>rw [hy] at q';exact hi a b d q q'
  ·rw [if_neg hk] at e e'
   exact EE hl hi e e'
theorem Eb {env:Env} {x:Str} {c:Addr}:∀{names:List (Str×NameKind)} {acc:List (Str×Addr)},(cU env names acc).lookup x=some c->(x,NameKind.free)∈names\/acc.lookup x=some c
 | [],_,e=>.inr e
 | (n,k)::r,acc,e=>by
  unfold cU at e;by_cases hk:(k==.free)=true
  ·rw [if_pos hk] at e
   have hk':k=.free:=by simpa using hk
   rcases Eb e with q | q
   ·exact .inl (mem_cons_of_mem _ q)
   ·rw [lookup_cons] at q
    cases hx:x==n with
    | true=>rw [eq_of_beq hx,hk'];exact .inl mem_cons_self
    | false=>rw [hx] at q;exact .inr q
  ·rw [if_neg hk] at e
   rcases Eb e with q | q
   ·exact .inl (mem_cons_of_mem _ q)
   ·exact .inr q
theorem CY {x:Str}:∀{names:List (Str×NameKind)} {n:Nat} {acc:List (Str×Addr)},(x,NameKind.cell)∈names\/(acc.lookup x).isSome=true->((cellsFrom n names acc).lookup x).isSome=true
 | [],_,_,h=>h.elim nofun id
 | (y,k)::r,n,acc,h=>by
  unfold cellsFrom;by_cases hk:(k==.cell)=true
  ·rw [if_pos hk]
   refine CY (names:=r) ?_
   rcases h with h | h
   ·rcases List.mem_cons.mp h with e | h
    ·cases e
     exact .inr (by rw [lookup_cons];simp)
    ·exact .inl h
   ·right
    rw [lookup_cons]
    cases hx:x==y with
    | true=>rfl
    | false=>exact h
  ·rw [if_neg hk]
   refine CY (names:=r) ?_
   rcases h with h | h
   ·rcases List.mem_cons.mp h with e | h
    ·cases e
     exact absurd rfl hk
    ·exact .inl h
   ·exact .inr h
theorem CW {x:Str}:∀{names:List (Str×NameKind)} {n:Nat} {acc:List (Str×Addr)},(x,NameKind.cell)∉names->(cellsFrom n names acc).lookup x=acc.lookup x
 | [],_,_,_=>rfl
 | (y,k)::r,n,acc,h=>by
  unfold cellsFrom;have hr:(x,NameKind.cell)∉r:=fun z=>h (mem_cons_of_mem _ z)
  by_cases hk:(k==.cell)=true
  ·rw [if_pos hk,CW hr,lookup_cons]
   have hk':k=.cell:=by simpa using hk
   cases hx:x==y with
   | true=>exact absurd (by rw [eq_of_beq hx,hk'];exact mem_cons_self) h
   | false=>rfl
  ·rw [if_neg hk]
   exact CW hr
theorem CZ {x:Str} {c:Addr}:∀{names:List (Str×NameKind)} {n:Nat} {acc:List (Str×Addr)},(x,NameKind.cell)∈names->(cellsFrom n names acc).lookup x=some c->(cellsFrom n names []).lookup x=some c
 | [],_,_,h,_=>nomatch h
 | (y,k)::r,n,acc,h,e=>by
  unfold cellsFrom at e ⊢
  by_cases hk:(k==.cell)=true
  ·rw [if_pos hk] at e ⊢
   by_cases hr:(x,NameKind.cell)∈r
   ·have:∀{acc acc':List (Str×Addr)},(cellsFrom (n+1) r acc).lookup x=some c->(cellsFrom (n+1) r acc').lookup x=some c:=fun {a a'} q=>by
     have q0:=CZ hr q
     have hs:=CY (n:=n+1) (acc:=a') (.inl hr)
     obtain ⟨c',hc'⟩:=Option.isSome_iff_exists.mp hs;have q1:=CZ hr hc'
     rw [q0] at q1
     cases q1;exact hc'
    exact this e
   ·rw [CW hr] at e ⊢
    rw [lookup_cons] at e ⊢
    cases hx:x==y with
    | true=>rw [hx] at e;exact e
    | false=>
     rcases List.mem_cons.mp h with z | z
     ·cases z
      simp at hx
     ·exact absurd z hr
  ·rw [if_neg hk] at e ⊢
   rcases List.mem_cons.mp h with z | z
   ·cases z
    exact absurd rfl hk
   ·exact CZ z e
def blk (X:Cx) (scope:Scope) (cells:List (Str×Addr)) (C:Addr) (s₀:Shared) (H₀:Hp) (ex:List Addr):Cx where
 prog:=X.prog
 w:=X.w
 K:=X.K
 mg:=X.mg
 base:=X.base
 A:=X.A
 N:=X.N
 s₀:=s₀
 H₀:=H₀
 env:={ scope:=relabel scope X.env,locals:=C,globals:=X.env.globals,cells:=cells,qual:=X.env.qual,func:=none,code:=X.env.code,frame:=X.env.frame,builtins:=X.env.builtins }
 outer:=X.stack
 stack:=X.stack
 ex:=ex
 fn:=fun x=>scope.names.any fun y=>y.1==x&&y.2==.cell
 calm:=X.calm
 pn:=[]
 xe:=fun _ _=>False
structure dJ (N:List Str) (is:List Nat) (osc scope:Scope):Prop where
 kind:scope.kind=.function
 free:∀n,(n,NameKind.free)∈scope.names->osc.names.lookup n=some .cell\/osc.names.lookup n=some .free
 own:∀(i:Nat) (x:Str),N[i]?=some x->(x,NameKind.local)∈scope.names\/(x,NameKind.cell)∈scope.names->i∈is
 loc:∀x∈scope.names,x.2=.local->scope.names.lookup x.1=some .local
 one:∀n,(n,NameKind.free)∈scope.names->(n,NameKind.cell)∉scope.names
def bE (is:List Nat) (σ:St):St:=σ.mapIdx fun i v=>if i∈is then none else v
theorem wU (is:List Nat) (σ:St):(bE is σ).length=σ.length:=by unfold bE;simp
theorem CP {is:List Nat} {σ:St} {i:Nat} {v:V} (h:(bE is σ)[i]?=some (some v)):i∉is/\σ[i]?=some (some v):=by
 unfold bE at h;rw [List.getElem?_mapIdx] at h
 cases e:σ[i]? with
 | none=>rw [e] at h;cases h
 | some o=>
  rw [e] at h;simp only [Option.map_some,Option.some.injEq] at h
  by_cases hi:i∈is
  ·rw [if_pos hi] at h;cases h
  ·rw [if_neg hi] at h;exact ⟨hi,by rw [h]⟩
def Hl (σ0 σ2:St):Prop:=σ2.length=σ0.length/\∀(i:Nat) v,σ0[i]?=some (some v)->σ2[i]?=some (some v)
theorem iH {x:Str} {k:NameKind} {l:List (Str×NameKind)} (h:l.lookup x=some k):(x,k)∈l:=PySem.mem_of_lookup h
theorem AD {scope:Scope} {env:Env} {x:Str} {k:NameKind} (h:(relabel scope env).names.lookup x=some k) :
  (x,k)∈scope.names\/((x,NameKind.free)∈scope.names/\k=.cell):=by
 have h:=iH h
 unfold relabel at h;obtain ⟨⟨n,k'⟩,hm,e⟩:=List.mem_map.mp h;dsimp only at e;by_cases hc:(k'==NameKind.free&&env.scope.kind==.function&&env.kindOf n==some .cell)=true
 ·rw [if_pos hc] at e
  cases e;have:k'=.free:=by
   simp only [Bool.and_eq_true,beq_iff_eq] at hc
   exact hc.1.1
  exact .inr ⟨this▸hm,rfl⟩
 ·rw [if_neg hc] at e
  cases e;exact .inl hm
def ko (X:Cx) (scope:Scope) (C:Addr):List (Str×Addr):=cellsFrom (C+1) scope.names (cU X.env scope.names [])
section
variable {X:Cx} {pins:List (Addr×Obj)} {σ:St} {H:Hp} {s:Shared} {scope:Scope} {is:List Nat}
theorem Inv.freeCells (I:Inv X pins σ H s) (S:dJ X.N is X.env.scope scope):∀n,(n,NameKind.free)∈scope.names->∃c,X.env.cells.lookup n=some c:=fun n hn=>
 I.ok.has n (S.free n hn)
theorem Inv.blkOld (I:Inv X pins σ H s) (S:dJ X.N is X.env.scope scope) {x:Str} {c:Addr} (h:(cU X.env scope.names []).lookup x=some c):X.env.cells.lookup x=some c:=by
 rcases Ex (I.freeCells S) h with q | q
 ·exact q
 ·cases q
theorem Inv.block {fp:List Addr} {t':Nat} (I:Inv X pins σ H s) (S:dJ X.N is X.env.scope scope) (hf:∀b∈fp,jH X pins H b) (hfs:∀b∈fp,b<s.heap.objs.size) :
  Inv (blk X scope (ko X scope (s.heap.objs.size+1)) (s.heap.objs.size+1) s H fp) [] (bE is σ) (cF H s.heap.objs.size (.lst []))
   { s with heap:=pushCells ((s.heap.push { cls:=.type "list",data:=.seq ([]:List Value).toArray }).push { cls:=.type "dict",data:=.dict #[] }) scope.names,toks:=t' }:=by
 generalize hC:s.heap.objs.size+1=C
 have hDn:H s.heap.objs.size=none:=I.hok.fresh (Nat.le_refl _)
 have s1:(s.heap.push { cls:=.type "list",data:=.seq ([]:List Value).toArray }).objs.size=C:=by rw [Heap.size_push,hC]
 have kept:∀b o,s.heap.get? b=some o->(pushCells ((s.heap.push { cls:=.type "list",data:=.seq ([]:List Value).toArray }).push { cls:=.type "dict",data:=.dict #[] }) scope.names).get? b=some o:=
  fun b o e=>pushCells_keeps _ _ b o (Heap.get?_push_of_some _ (Heap.get?_push_of_some _ e))
 have cellsL:∀x c,(ko X scope C).lookup x=some c->((x,NameKind.cell)∈scope.names/\C+1<=c)\/X.env.cells.lookup x=some c:=fun x c e=>by
  rcases AZ e with q | q
  ·exact .inl q
  ·exact .inr (I.blkOld S q)
 have oldLt:∀x c,X.env.cells.lookup x=some c->c<s.heap.objs.size:=fun x c e=>by
  obtain ⟨v,q⟩:=I.cell x c e;exact q.lt
 have cok:CellsOk (pushCells ((s.heap.push { cls:=.type "list",data:=.seq ([]:List Value).toArray }).push { cls:=.type "dict",data:=.dict #[] }) scope.names) (C+1)
   (cellsFrom (C+1) scope.names []):=by
  have:=cellsFrom_ok scope.names ((s.heap.push { cls:=.type "list",data:=.seq ([]:List Value).toArray }).push { cls:=.type "dict",data:=.dict #[] }) (C+1) [] ⟨fun _ _ hm=>(nomatch hm),List.Pairwise.nil⟩ (by rw [Heap.size_push,s1];exact Nat.le_refl _)
  rw [Heap.size_push,s1] at this;exact this
 have lt1:∀{b:Nat},b<s.heap.objs.size->b≠C:=fun {b} h e=>by subst e;rw [<-hC] at h;exact absurd (Nat.lt_of_succ_lt h) (Nat.lt_irrefl _)
 have hDle:s.heap.objs.size<=C:=by rw [<-hC];exact Nat.le_succ _
 have cellAt:∀x c,(ko X scope C).lookup x=some c->(C<c/\(pushCells ((s.heap.push { cls:=.type "list",data:=.seq ([]:List Value).toArray }).push { cls:=.type "dict",data:=.dict #[] }) scope.names).IsCell c none)\/X.env.cells.lookup x=some c:=fun x c e=>by
  rcases cellsL x c e with ⟨q1,q2⟩ | q
  ·exact .inl ⟨q2,(cok.empty x c (PySem.mem_of_lookup (CZ q1 e))).1⟩
  ·exact .inr q
 refine ⟨⟨I.ok.mod,S.kind,I.ok.glob,I.ok.blt,hDle,?_,?_,?_,I.ok.hd,I.ok.frames,.inl rfl,?_,I.bs,Nat.le_trans I.ok.bsz I.sz,?_,?_,I.stack,I.stkFree⟩,rfl,I.bare,?_,?_,?_,?_,?_,fun p hp=>absurd (show p∈([]:List (Addr×Obj)) from hp) (by simp),?_,(wU _ _).trans I.len⟩
 ·-- inj
  intro x y c hx hy;refine EE (fun z d q=>?_) (fun a b d q q'=>I.ok.inj a b d (I.blkOld S q) (I.blkOld S q')) hx hy
  exact Nat.lt_succ_of_lt (Nat.lt_of_lt_of_le (oldLt z d (I.blkOld S q)) hDle)
 ·-- has
  intro x hx;have q:((ko X scope C).lookup x).isSome=true:=by
   refine CY ?_
   have hx:(relabel scope X.env).names.lookup x=some .cell\/(relabel scope X.env).names.lookup x=some .free:=hx
   rcases hx with hx | hx
   ·rcases AD hx with z | ⟨z,_⟩
    ·exact .inl z
    ·exact .inr (AE (.inl z))
   ·rcases AD hx with z | ⟨z,_⟩
    ·exact .inr (AE (.inl z))
    ·exact .inr (AE (.inl z))
  exact Option.isSome_iff_exists.mp q
 ·-- cab
  intro x c hx e;have hx:(scope.names.any fun y=>y.1==x&&y.2==NameKind.cell)=true:=hx
  obtain ⟨y,hy,hz⟩:=List.any_eq_true.mp hx;simp only [Bool.and_eq_true,beq_iff_eq] at hz
  have hm:(x,NameKind.cell)∈scope.names:=by rw [<-hz.1,<-hz.2];exact hy
  rcases AZ e with ⟨_,q⟩ | q
  ·exact Nat.le_trans hDle (Nat.le_of_succ_le q)
  ·rcases Eb q with z | z
   ·exact absurd hm (S.one x z)
   ·cases z
 ·-- exf
  intro b hb;obtain ⟨f0,f1,f2,f3,f4,f5⟩:=hf b hb;refine ⟨lt1 (hfs b hb),fun x c e z=>?_⟩
  rcases cellsL x c e with ⟨_,q⟩ | q
  ·subst z
   exact absurd (Nat.lt_of_lt_of_le (hfs _ hb) hDle) (Nat.not_lt.mpr (Nat.le_of_succ_le q))
  ·exact f4 x c q z
 ·-- noex
  intro b o e hb;obtain ⟨f0,f1,f2,f3,f4,f5⟩:=hf b hb;rcases f3 with z | z
  ·exact I.ok.noex b o e z
  ·exact absurd (Nat.lt_of_lt_of_le (Heap.lt_size e) (Nat.le_trans I.ok.bsz z)) (Nat.lt_irrefl _)
 ·-- exfs
  intro b hb z;obtain ⟨f0,f1,f2,f3,f4,f5⟩:=hf b hb;rcases List.mem_cons.mp (I.stkSub b z) with e | e
  ·exact f1 e
  ·exact f2 e
 ·-- base
  exact Un.laid kept (Nat.le_refl _) hDn
 ·-- loc
  refine ⟨fun _=>none,?_,fun i x v e1 e2 e3=>?_⟩
  ·have:=(Heap.Ns.new (s.heap.push { cls:=.type "list",data:=.seq ([]:List Value).toArray }) (.type "dict")).keeps (pushCells_keeps scope.names _)
   rw [s1] at this;exact this
  ·obtain ⟨hni,e2'⟩:=CP e2
   obtain ⟨m,hn,hl⟩:=id I.loc;have hfree:(x,NameKind.free)∈scope.names:=by
    have e3:(relabel scope X.env).names.lookup x=some .local\/(relabel scope X.env).names.lookup x=some .cell\/(relabel scope X.env).names.lookup x=some .free:=e3
    rcases e3 with z | z | z
    ·rcases AD z with y | ⟨y,_⟩
     ·exact absurd (S.own i x e1 (.inl y)) hni
     ·exact y
    ·rcases AD z with y | ⟨y,_⟩
     ·exact absurd (S.own i x e1 (.inr y)) hni
     ·exact y
    ·rcases AD z with y | ⟨y,_⟩
     ·exact y
     ·exact y
   have hk:=S.free x hfree
   obtain ⟨u,r,l⟩:=hl i x v e1 e2' (.inr hk)
   refine ⟨u,r,?_⟩
   rcases l with ⟨k,_⟩ | ⟨k,c,e,z⟩
   ·have k:X.env.scope.names.lookup x=some .local:=k
    rcases hk with q | q<;>(rw [q] at k;cases k)
   ·refine .inr ⟨?_,c,?_,z.keeps kept⟩
    ·have e3:(relabel scope X.env).names.lookup x=some .local\/(relabel scope X.env).names.lookup x=some .cell\/(relabel scope X.env).names.lookup x=some .free:=e3
     rcases e3 with y | y | y
     ·rcases AD y with y' | ⟨_,y'⟩
      ·exact absurd (S.own i x e1 (.inl y')) hni
      ·cases y'
     ·exact .inl y
     ·exact .inr y
    ·have q:=AE (env:=X.env) (acc:=[]) (.inl hfree)
     obtain ⟨c',hc'⟩:=Option.isSome_iff_exists.mp q;have:=I.blkOld S hc'
     rw [e] at this
     cases this;show (ko X scope C).lookup x=some c
     unfold ko;rw [CW (S.one x hfree)];exact hc'
 ·-- cell
  intro x c e;rcases cellAt x c e with ⟨_,q⟩ | q
  ·exact ⟨_,q⟩
  ·obtain ⟨v,z⟩:=I.cell x c q
   exact ⟨v,z.keeps kept⟩
 ·-- free
  show cF H s.heap.objs.size (.lst []) C=none
  rw [eV (by rw [<-hC];exact Nat.ne_of_gt (Nat.lt_succ_self _))]
  exact I.hok.fresh hDle
 ·-- freeC
  intro x c e;show cF H s.heap.objs.size (.lst []) c=none
  rcases cellAt x c e with ⟨q,_⟩ | q
  ·have hc:s.heap.objs.size<c:=Nat.lt_of_le_of_lt hDle q
   rw [eV (Nat.ne_of_gt hc)];exact I.hok.fresh (Nat.le_of_lt hc)
  ·rw [eV (Nat.ne_of_lt (oldLt x c q))]
   exact I.freeC x c q
 ·-- hok
  exact I.hok.laid kept (Nat.le_refl _) ⟨Nat.zero_le _,[],0,.nil,pushCells_keeps _ _ _ _ (Heap.get?_push_of_some _ (Heap.get?_push_size _ rfl))⟩
end
section
variable {M:Model} {A:Around} {E:Value->Shared->Prop} {s:Shared}
theorem jm {scope:Scope} {globals:Addr} {cl:List (Str×Addr)} {qual:Str} {env:Env} {Q:Env->Shared->Prop}
  (hQ:Q (newEnv scope s.heap.objs.size globals (cellsFrom (s.heap.objs.size+1) scope.names cl) qual none .none (some env) builtinsNs) { s with heap:=pushCells (s.heap.push { cls:=.type "dict",data:=.dict #[] }) scope.names }) :
  wpAny M A (newFunctionEnv scope globals cl [] qual none .none (some env)) Q E s:=by
 simp only [newFunctionEnv,Option.isSome_some,if_true]
 refine wpAny_bind (wpAny_alloc ?_)
 refine wpAny_bind (wpAny_layCells _ (fun name kind cells=>by cases hkc:kind==NameKind.cell<;>simp [hkc]) _ _ _ _ ?_)
 rw [show ({ s with heap:=s.heap.push { cls:=.type "dict",data:=.dict #[] } }:Shared).heap.objs.size=s.heap.objs.size+1 from Heap.size_push ..]
 rw [List.forIn_nil];exact wpAny_bind (wpAny_pure (wpAny_pure hQ))
end
def PF (X:Cx) (ifs:List Expr) (t:TT):Prop:=
 ∀(pins:List (Addr×Obj)) (s:Shared) (σ:St) (H:Hp) (Q:Bool->Hp->Prop),Inv X pins σ H s->t σ H Q ->
  wpAny (model X.prog X.w) X.A (forIn ifs true fun c r=>if r=true then do let ok <-isTrue c X.env (eval c X.env);pure (ForInStep.yield ok) else pure (ForInStep.yield r)) (TP X pins σ Q) X.xe s
def Bh:TT:=fun _ H Q=>Q true H
theorem yQ {X:Cx}:PF X [] Bh:=fun pins s σ H Q I h=>wpAny_tests_nil ⟨H,I,h⟩
theorem yP {X:Cx} {c:Expr} {t:TT} (h:PT X c t):PF X [c] t:=fun pins s σ H Q I q=>wpAny_tests_one (h pins s σ H Q I q)
def lJ (is:List Nat) (wi:TI) (g:TG) (tc:TT) (te:TE):TE:=fun σ H Q=>wi σ H fun J H1=>∀D,H1 D=none->∃W:Nat->Nat->List V->Hp->Prop,(∃m,W 0 m [] (cF H1 D (.lst [])))/\∀k m ys H,W k m ys H ->
 H D=some (.lst ys)/\((J.stop k H/\Q (.ref D) H)\/(J.go k H/\ys.length<sizeLine/\∀x H',J.yld k H x H'->g x (bE is σ) H' fun σ2 H2=>Hl (bE is σ) σ2/\tc σ2 H2 fun b H3=>
  if b=true then te σ2 H3 fun v H4=>H4 D=some (.lst ys)/\∃m',m'<m/\W (k+1) m' (ys++[v]) (cF H4 D (.lst (ys++[v]))) else ∃m',m'<m/\W (k+1) m' ys H3))
section
variable {X:Cx} {scope:Scope} {is:List Nat} {tg iter elt:Expr} {ifs:List Expr} {wi:TI} {g:TG} {tc:TT} {te:TE} {pos:Pos}
theorem kb {pins:List (Addr×Obj)} {s:Shared} {σ:St} {H:Hp} {Q:VK} {RR:Value->Addr->Result->Shared->Prop} (S:dJ X.N is X.env.scope scope) (hcalm:X.calm=true) (hi:PI X tg iter wi)
  (hg:∀cells C s₀ H₀ ex,PG (blk X scope cells C s₀ H₀ ex) tg g) (hc:∀cells C s₀ H₀ ex,PF (blk X scope cells C s₀ H₀ ex) ifs tc) (he:∀cells C s₀ H₀ ex,PE (blk X scope cells C s₀ H₀ ex) elt te)
  (I:Inv X pins σ H s) (h:lJ is wi g tc te σ H Q)
  (hRR:∀D C s' H' m,Inv X pins σ H' s'->s'.heap.Ns C m->Q (.ref D) H'->H' C=none->C≠X.env.locals->X.s₀.heap.objs.size<=C->(∀x c,X.env.cells.lookup x=some c->c≠C)->(∀p∈X.pn++pins,p.1≠C)->RR (.ref D) C (.ok .next) s') :
  wpAny (model X.prog X.w) X.A (eval iter X.env) (fun x s₁=>wpAny (model X.prog X.w) X.A (pyIter x) (fun it s₂=>wpAny (model X.prog X.w) X.A (newList []) (fun acc s₃=>
   wpAny (model X.prog X.w) X.A (newFunctionEnv scope X.env.globals (cU X.env scope.names []) [] X.env.qual none .none (some X.env)) (fun cenv s₄=>
    codeAny (model X.prog X.w) X.A (.compStart (.ListComp elt [⟨tg,iter,ifs,0⟩] scope pos) 0 it acc { cenv with scope:=relabel scope X.env }) (RR acc cenv.locals) s₄) X.xe s₃) X.xe s₂) X.xe s₁) X.xe s:=by
 refine ck (hi pins s σ H _ I h) fun v s1 h1=>ck h1 fun itv s2 h2=>?_
 obtain ⟨it,fp,tn,J,H2,e,I2,T,st2,f2,hW⟩:=h2;subst e;obtain ⟨W,⟨m0,w0⟩,turn⟩:=hW s2.heap.objs.size (I2.hok.fresh (Nat.le_refl _));refine wpAny_newObj_type (jm ?_)
 have s1:(s2.heap.push { cls:=.type "list",dict:=none,data:=.seq ([]:List Value).toArray }).objs.size=s2.heap.objs.size+1:=by rw [Heap.size_push]
 dsimp only;rw [s1];have hfs:∀b∈fp,b<s2.heap.objs.size:=fun b hb=>by
  obtain ⟨o,e,_⟩:=T.obj 0 _ st2 b hb;exact Heap.lt_size e
 have I4:=I2.block (t':=s2.toks) S f2 hfs
 generalize hCC:s2.heap.objs.size+1=C at I4 ⊢
 have hDC:s2.heap.objs.size<C:=by rw [<-hCC];exact Nat.lt_succ_self _
 have Hg:=hg (ko X scope C) C s2 H2 fp
 have Hc:=hc (ko X scope C) C s2 H2 fp
 have He:=he (ko X scope C) C s2 H2 fp
 have Ha:=En (X:=blk X scope (ko X scope C) C s2 H2 fp)
 have hYcell:∀x c,(blk X scope (ko X scope C) C s2 H2 fp).env.cells.lookup x=some c->s2.heap.objs.size<=c\/X.env.cells.lookup x=some c:=fun x c e=>by
  have e:(cellsFrom (C+1) scope.names (cU X.env scope.names [])).lookup x=some c:=e
  rcases AZ e with ⟨_,q⟩ | q
  ·exact .inl (Nat.le_trans (Nat.le_of_lt hDC) (Nat.le_of_succ_le q))
  ·exact .inr (I2.blkOld S q)
 have FY:∀{H':Hp},(∀b∈fp,H' b=none)->∀b∈fp,jH (blk X scope (ko X scope C) C s2 H2 fp) [] H' b:=fun {H'} hn b hb=>by
  obtain ⟨f0,f1,f3,f4,f5,f6⟩:=f2 b hb;refine ⟨hn b hb,Nat.ne_of_lt (Nat.lt_trans (hfs b hb) hDC),fun z=>?_,.inl hb,fun x c e z=>?_,fun p hp=>absurd (show p∈([]:List (Addr×Obj)) from hp) (by simp)⟩
  ·rcases List.mem_cons.mp (I2.stkSub b z) with e | e
   ·exact f1 e
   ·exact f3 e
  ·rcases hYcell x c e with q | q
   ·rw [z] at q
    exact absurd (Nat.lt_of_lt_of_le (hfs b hb) q) (Nat.lt_irrefl _)
   ·exact f5 x c q z
 have hCx:∀x c,X.env.cells.lookup x=some c->c≠C:=fun x c e z=>by
  obtain ⟨v,q⟩:=I2.cell x c e;have:=q.lt
  rw [z] at this;exact absurd (Nat.lt_trans this hDC) (Nat.lt_irrefl _)
 have hCp:∀p∈X.pn++pins,p.1≠C:=fun p hp z=>by
  have:=Heap.lt_size (I2.pin p hp).1
  rw [z] at this;exact absurd (Nat.lt_trans this hDC) (Nat.lt_irrefl _)
 have out:∀{σ':St} {H':Hp} {s':Shared},Inv (blk X scope (ko X scope C) C s2 H2 fp) [] σ' H' s'->Inv X pins σ H' s':=fun {σ' H' s'} J=>
  I2.call' (ch:=fp) J.os J.base J.hok J.bare fun b hb=>by
   obtain ⟨f0,f1,f3,f4,f5,f6⟩:=f2 b hb;exact ⟨f4,f1,f5,f6⟩
 have loop:∀s₃:Shared,s₃={ s2 with heap:=pushCells ((s2.heap.push { cls:=.type "list",data:=.seq ([]:List Value).toArray }).push { cls:=.type "dict",data:=.dict #[] }) scope.names } ->
   codeAny (model X.prog X.w) X.A (.compLoop (.ListComp elt [⟨tg,iter,ifs,0⟩] scope pos) 0 (.ref it) (.ref s2.heap.objs.size) (blk X scope (ko X scope C) C s2 H2 fp).env) (RR (.ref s2.heap.objs.size) C) s₃:=by
  rintro s₃ rfl
  refine la (fun n s'=>∃k ys H',Inv (blk X scope (ko X scope C) C s2 H2 fp) [] (bE is σ) H' s'/\tn k s'.heap/\(∀b∈fp,H' b=none)/\W k n ys H') ?_ m0
   ⟨0,[],_,I4,T.keep 0 _ _ st2 fun b _ o e=>pushCells_keeps _ _ b o (Heap.get?_push_of_some _ (Heap.get?_push_of_some _ e)),fun b hb=>by rw [eV (Nat.ne_of_lt (hfs b hb))];exact (f2 b hb).1,w0⟩
  rintro n s3 ⟨k,ys,H3,I3,st3,fr3,w3⟩
  obtain ⟨hD3,hcase⟩:=turn k n ys H3 w3;rcases hcase with ⟨stop,qn⟩ | ⟨go,hlen,step⟩
  ·refine ck (T.done (blk X scope (ko X scope C) C s2 H2 fp) rfl rfl rfl hcalm k [] s3 (bE is σ) H3 wj I3 (FY fr3) st3 stop) fun r s4 ⟨hr,I4⟩=>?_
   subst hr;obtain ⟨m,hn,_⟩:=id I4.loc;exact hRR _ C s4 H3 m (out I4) hn qn I4.free (fun z=>Nat.lt_irrefl _ (Nat.lt_trans (Nat.lt_of_lt_of_eq hDC z) I2.lt)) (Nat.le_trans I2.sz (Nat.le_of_lt hDC)) hCx hCp
  ·refine ck (T.item (blk X scope (ko X scope C) C s2 H2 fp) rfl rfl rfl hcalm k [] s3 (bE is σ) H3 wj I3 (FY fr3) st3 go) fun r s4 ⟨u,hr,h4⟩=>?_
   subst hr;refine ck h4 fun _ s5 ⟨x,H5,I5,r5,y5,st5,fr5⟩=>?_
   have I5':=I5.pinned (FY fr5) (T.obj _ _ st5)
   refine ck (Hg _ s5 (bE is σ) H5 x u _ I5' r5 (step x H5 y5)) fun _ s6 ⟨σ6,H6,I6,le6,q6⟩=>?_
   refine ck (Hc _ s6 σ6 H6 _ I6 q6) fun ok s7 ⟨H7,I7,q7⟩=>?_
   have again:∀{H8:Hp} {s8:Shared} {ys':List V},Inv (blk X scope (ko X scope C) C s2 H2 fp) ([]++AO fp s5.heap) σ6 H8 s8->(∃m',m'<n/\W (k+1) m' ys' H8) ->
     ∃m,m<n/\∃k ys H',Inv (blk X scope (ko X scope C) C s2 H2 fp) [] (bE is σ) H' s8/\tn k s8.heap/\(∀b∈fp,H' b=none)/\W k m ys H':=fun {H8 s8 ys'} I8 ⟨m',hm,w8⟩=>by
    refine ⟨m',hm,k+1,ys',H8,(I8.weak le6.1.symm le6.2).unpinned,T.keep _ _ _ st5 fun b hb o e=>(I8.pin (b,o) (mem_append_right _ (mem_append_right _ (CQ hb e)))).1,fun b hb=>?_,w8⟩
    obtain ⟨o,e,d⟩:=T.obj _ _ st5 b hb;exact (I8.pin (b,o) (mem_append_right _ (mem_append_right _ (CQ hb e)))).2.1
   cases ok with
   | false=>
    rw [if_neg Bool.false_ne_true] at q7;exact again I7 q7
   | true=>
    rw [if_pos rfl] at q7;refine ck (He _ s7 σ6 H7 _ I7 q7) fun y s8 ⟨v8,H8,I8,r8,q8⟩=>?_
    obtain ⟨hD8,q8⟩:=q8;refine ck (Ha _ s8 σ6 H8 (.ref s2.heap.objs.size) [v8] (.ref s2.heap.objs.size) [y] (fun _ H9=>∃m',m'<n/\W (k+1) m' (ys++[v8]) H9) I8 rfl (.cons r8 .nil) ⟨_,ys,v8,rfl,rfl,hD8,hlen,q8⟩) fun _ s9 ⟨_,H9,I9,_,q9⟩=>?_
    exact again I9 q9
 exact codeAny_compStart_list (loop _ rfl) (T.self X.A 0 _ _ _ (T.keep 0 _ _ st2 fun b _ o e=>pushCells_keeps _ _ b o (Heap.get?_push_of_some _ (Heap.get?_push_of_some _ e))) (loop _ rfl))
theorem oS (S:dJ X.N is X.env.scope scope) (hcalm:X.calm=true) (hi:PI X tg iter wi)
  (hg:∀cells C s₀ H₀ ex,PG (blk X scope cells C s₀ H₀ ex) tg g) (hc:∀cells C s₀ H₀ ex,PF (blk X scope cells C s₀ H₀ ex) ifs tc) (he:∀cells C s₀ H₀ ex,PE (blk X scope cells C s₀ H₀ ex) elt te)
  (hs:∀x,foldedSetIterable iter X.env x=pure x:=by intro _;rfl):PE X (.ListComp elt [⟨tg,iter,ifs,0⟩] scope pos) (lJ is wi g tc te):=by
 intro pins s σ H Q I h;rw [eval_ListComp];refine wpAny_comprehension_free (use:=none) rfl hs (gm (I.freeCells S)) S.kind S.loc (kb (RR:=fun acc C=>compPost (model X.prog X.w) X.A X.xe none (EP X pins σ Q) acc C) S hcalm hi hg hc he I h ?_)
 intro D C s' H' m I' hn q n1 n2 n3 n4 n5
 refine ⟨m,hn,fun h' hs'=>?_⟩
 exact ⟨.ref D,H',I'.turned (t':=s'.toks) (fun b o hb e=>(hs'.2 b hb).trans e) n1 n2 (.inr n3) n4 n5,rfl,q⟩
theorem iA {i:Nat} {y:Str} {pos' spos:Pos} (hN:X.N.Nodup) (hy:X.N[i]?=some y) (hl:X.env.scope.names.lookup y=some .local) (S:dJ X.N is X.env.scope scope) (hcalm:X.calm=true) (hi:PI X tg iter wi)
  (hg:∀cells C s₀ H₀ ex,PG (blk X scope cells C s₀ H₀ ex) tg g) (hc:∀cells C s₀ H₀ ex,PF (blk X scope cells C s₀ H₀ ex) ifs tc) (he:∀cells C s₀ H₀ ex,PE (blk X scope cells C s₀ H₀ ex) elt te)
  (hsw:swapsWith (.ListComp elt [⟨tg,iter,ifs,0⟩] scope pos) (some (.Name y pos')) spos.line X.env=pure true)
  (hs:∀x,foldedSetIterable iter X.env x=pure x:=by intro _;rfl):PS X (.Assign [.Name y pos'] (.ListComp elt [⟨tg,iter,ifs,0⟩] scope pos) spos) (fun D σ H=>lJ is wi g tc te σ H fun v H'=>D.nx (σ.set i (some v)) H'):=by
 intro pins s σ H Ds I h;rw [exec_Assign_Name_used _ _ _ _ hsw];refine wpAny_bind (wpAny_standAt (wpAny_bind ?_))
 show wpAny _ X.A (do let _ <-comprehension (.ListComp elt [⟨tg,iter,ifs,0⟩] scope pos) scope X.env _ (newList []) false (eval iter X.env) (some (assign (.Name y pos') X.env))) _ _ s
 refine wpAny_bind (wpAny_mono (wpAny_comprehension_free (use:=some (assign (.Name y pos') X.env)) (Q:=fun _ s'=>SP X pins Ds .next s') rfl hs (gm (I.freeCells S)) S.kind S.loc
  (kb (RR:=fun acc C=>compPost (model X.prog X.w) X.A X.xe (some (assign (.Name y pos') X.env)) (fun _ s'=>SP X pins Ds .next s') acc C) S hcalm hi hg hc he I h ?_)) (fun _ s' hq=>wpAny_pure (wpAny_pure hq)) fun _ _ e=>e)
 intro D C s' H' m I' hn q n1 n2 n3 n4 n5
 show wpAny _ X.A (assign (.Name y pos') X.env (.ref D)) _ _ _
 refine wpAny_assign_Name (jP (v:=.ref D) I' hN hy (.inl hl) rfl (fun s'' I'' hch=>?_) (.inr hl))
 obtain ⟨a,hsb,ha⟩:=hch;have hCa:C≠a:=by
  rcases ha with e | e
  ·rw [e];exact n2
  ·exact (n4 y a e).symm
 refine ⟨m,hn.sameBut hsb hCa,fun h' hs'=>?_⟩
 exact ⟨_,H',I''.turned (t':=s''.toks) (fun b o hb e=>(hs'.2 b hb).trans e) n1 n2 (.inr n3) n4 n5,q⟩
end
end L2
namespace T
open PySem PySem.Spec L2
open PyProof.Rows hiding St
abbrev D:=PyData
inductive Rep (K:Fg) (H:Hp):V->D->Prop where
 | non:Rep K H .non .none
 | bl (b:Bool):Rep K H (.bl b) (.bool b)
 | int (i:Int):Rep K H (.int i) (.int i)
 | str (x:Str):Rep K H (.str x) (.str x)
 | lst {p:Addr} {vs:List V} {ds:List D}:SqL K H p vs->vs.length=ds.length->(∀(i:Nat) v d,vs[i]?=some v->ds[i]?=some d->Rep K H v d)->Rep K H (.ref p) (.list ds)
 | tup {p:Addr} {vs:List V} {ds:List D}:SqT K H p vs->vs.length=ds.length->(∀(i:Nat) v d,vs[i]?=some v->ds[i]?=some d->Rep K H v d)->Rep K H (.ref p) (.tuple ds)
theorem pb {K:Fg} {H H':Hp} {a:Addr} {xs:List V} (e:Same H H') (h:SqT K H a xs):SqT K H' a xs:=by
 rcases h with (h | ⟨o,h⟩) | h
 ·exact .inl (.inl (e _ _ h))
 ·exact .inl (.inr ⟨o,e _ _ h⟩)
 ·exact .inr h
theorem Rep.mono {K:Fg} {H H':Hp} {v:V} {d:D} (e:Same H H') (h:Rep K H v d):Rep K H' v d:=by
 induction h with
 | non=>exact .non
 | bl b=>exact .bl b
 | int i=>exact .int i
 | str x=>exact .str x
 | lst hs hl _ ih=>exact .lst (e.seq hs) hl ih
 | tup hs hl _ ih=>exact .tup (pb e hs) hl ih
def Reps (K:Fg) (H:Hp) (vs:List V) (ds:List D):Prop:=vs.length=ds.length/\∀(i:Nat) v d,vs[i]?=some v->ds[i]?=some d->Rep K H v d
def cQ (H:Hp) (O:List Addr):Hp:=fun a=>if a∈O then none else H a
theorem hid_le {H:Hp} {O:List Addr}:Same (cQ H O) H:=fun b o h=>by
 unfold cQ at h;split at h
 ·cases h
 ·exact h
theorem t7 {H:Hp} {O:List Addr} {a:Addr} {o:HO} (h:H a=some o) (n:a∉O):cQ H O a=some o:=by
 unfold cQ;rw [if_neg n];exact h
theorem wH {H H':Hp} {O O':List Addr} (e:Same H H') (h:∀a∈O',a∈O\/H a=none):Same (cQ H O) (cQ H' O'):=fun b o q=>by
 unfold cQ at q ⊢
 split at q
 ·cases q
 ·rename_i hn
  have hb:b∉O':=fun z=>(h b z).elim hn fun z=>by rw [z] at q;cases q
  rw [if_neg hb];exact e b o q
theorem D5 {H:Hp} {O:List Addr} {p:Addr} {o:HO} (h:p∈O):cQ (cF H p o) O=cQ H O:=by
 funext b
 unfold cQ;split
 ·rfl
 ·rename_i hb
  exact eV fun e=>hb (e▸h)
theorem D4 {H:Hp}:cQ H []=H:=by
 funext b;unfold cQ;simp
theorem m7 {H:Hp} {p:Addr} {o:HO} (h:H p=none):Same H (cF H p o):=fun b u e=>by
 rw [eV (rq e h)];exact e
inductive Sh where
 | view | leaf | lst (s:Sh) | tup (ss:List Sh)
def Sh.isView:Sh->Bool
 | .view=>true
 | _=>false
inductive Own (K:Fg) (O:List Addr) (H:Hp):Sh->List Addr->V->D->Prop where
 | view {v d}:Rep K H v d->Own K O H .view [] v d
 | leaf {v d}:Rep K (cQ H O) v d->Own K O H .leaf [] v d
 | lst {s:Sh} {p:Addr} {vs:List V} {ds:List D} {Fs:List (List Addr)}:s.isView=false->H p=some (.lst vs)->vs.length=ds.length->Fs.length=ds.length->(p::Fs.flatten).Nodup ->
   (∀(i:Nat) v d F,vs[i]?=some v->ds[i]?=some d->Fs[i]?=some F->Own K O H s F v d)->Own K O H (.lst s) (p::Fs.flatten) (.ref p) (.list ds)
 | tup {ss:List Sh} {p:Addr} {vs:List V} {ds:List D} {Fs:List (List Addr)}:(∀s∈ss,s.isView=false)->H p=some (.tup vs)->p∉O->vs.length=ds.length->Fs.length=ds.length->ss.length=ds.length->Fs.flatten.Nodup ->
   (∀(i:Nat) v d F s,vs[i]?=some v->ds[i]?=some d->Fs[i]?=some F->ss[i]?=some s->Own K O H s F v d)->Own K O H (.tup ss) Fs.flatten (.ref p) (.tuple ds)
theorem Own.mono {K:Fg} {O O':List Addr} {H H':Hp} {s:Sh} {G:List Addr} {v:V} {d:D} (h:Own K O H s G v d) (e:Same H H') (hO:∀a∈O',a∈O\/H a=none):Own K O' H' s G v d:=by
 induction h with
 | view r=>exact .view (r.mono e)
 | leaf r=>exact .leaf (r.mono (wH e hO))
 | lst hv hp hl hf nd _ ih=>exact .lst hv (e _ _ hp) hl hf nd fun i v d F h1 h2 h3=>ih i v d F h1 h2 h3
 | tup hv hp hn hl hf hs nd _ ih=>exact .tup hv (e _ _ hp) (fun z=>(hO _ z).elim hn fun z=>by rw [z] at hp;cases hp) hl hf hs nd fun i v d F s h1 h2 h3 h4=>ih i v d F s h1 h2 h3 h4
theorem Own.rep {K:Fg} {O:List Addr} {H:Hp} {s:Sh} {G:List Addr} {v:V} {d:D} (h:Own K O H s G v d):Rep K H v d:=by
 induction h with
 | view r=>exact r
 | leaf r=>exact r.mono hid_le
 | lst hv hp hl hf _ q ih=>
  refine .lst (.of hp) hl fun i v d h1 h2=>?_
  rename_i Fs _;obtain ⟨F,hF⟩:∃F,Fs[i]?=some F:=by
   have:=(List.getElem?_eq_some_iff.mp h2).1
   exact ⟨Fs[i]'(by omega),getElem?_eq_getElem _⟩
  exact ih i v d F h1 h2 hF
 | tup hv hp hn hl hf hs _ q ih=>
  refine .tup (.of hp) hl fun i v d h1 h2=>?_
  rename_i ss _ _ _ Fs _;have hi:=(List.getElem?_eq_some_iff.mp h2).1
  exact ih i v d (Fs[i]'(by omega)) (ss[i]'(by omega)) h1 h2 (getElem?_eq_getElem _) (getElem?_eq_getElem _)
theorem hV {Fs:List (List Addr)} {i:Nat} {F:List Addr} {a:Addr} (h:Fs[i]?=some F) (ha:a∈F):a∈Fs.flatten:=List.mem_flatten.mpr ⟨F,mem_of_getElem? h,ha⟩
theorem Own.freeze {K:Fg} {O O':List Addr} {H:Hp} {s:Sh} {G:List Addr} {v:V} {d:D} (h:Own K O H s G v d) (hs:s.isView=false) (h1:∀a∈O',a∈O) (h2:∀a∈G,a∉O'):Rep K (cQ H O') v d:=by
 induction h with
 | view r=>cases hs
 | leaf r=>exact r.mono (wH (Same.refl _) fun a z=>.inl (h1 a z))
 | lst hv hp hl hf _ q ih=>
  refine .lst (.of (t7 hp (h2 _ mem_cons_self))) hl fun i v d e1 e2=>?_
  rename_i Fs _;obtain ⟨F,hF⟩:∃F,Fs[i]?=some F:=by
   have:=(List.getElem?_eq_some_iff.mp e2).1
   exact ⟨Fs[i]'(by omega),getElem?_eq_getElem _⟩
  exact ih i v d F e1 e2 hF hv fun a ha=>h2 a (mem_cons_of_mem _ (hV hF ha))
 | tup hv hp hn hl hf hs' _ q ih=>
  refine .tup (.of (t7 hp fun z=>hn (h1 _ z))) hl fun i v d e1 e2=>?_
  rename_i ss _ _ _ Fs _;have hi:=(List.getElem?_eq_some_iff.mp e2).1
  have e3:Fs[i]?=some (Fs[i]'(by omega)):=getElem?_eq_getElem _
  exact ih i v d _ (ss[i]'(by omega)) e1 e2 e3 (getElem?_eq_getElem _) (hv _ (getElem_mem _)) fun a ha=>h2 a (hV e3 ha)
theorem Own.mut {K:Fg} {O:List Addr} {H:Hp} {s:Sh} {G:List Addr} {v:V} {d:D} {p:Addr} {o:HO} {xs:List V} (h:Own K O H s G v d) (hs:s.isView=false) (hp:p∈O) (hg:p∉G) (hl:H p=some (.lst xs)):Own K O (cF H p o) s G v d:=by
 induction h with
 | view r=>cases hs
 | leaf r=>refine .leaf ?_;rw [D5 hp];exact r
 | lst hv hq hl' hf nd q ih=>
  refine .lst hv ?_ hl' hf nd fun i v d F e1 e2 e3=>ih i v d F e1 e2 e3 hv fun z=>hg (mem_cons_of_mem _ (hV e3 z))
  rw [eV (fun z=>hg (by rw [<-z];exact mem_cons_self))]
  exact hq
 | tup hv hq hn hl' hf hs' nd q ih=>
  refine .tup hv ?_ hn hl' hf hs' nd fun i v d F s e1 e2 e3 e4=>ih i v d F s e1 e2 e3 e4 (hv _ (mem_of_getElem? e4)) fun z=>hg (hV e3 z)
  rw [eV (fun z=>by rw [z,hl] at hq;cases hq)]
  exact hq
inductive Sc:V->D->Prop where
 | non:Sc .non .none
 | bl (b:Bool):Sc (.bl b) (.bool b)
 | int (i:Int):Sc (.int i) (.int i)
 | str (x:Str):Sc (.str x) (.str x)
theorem Sc.rep {K:Fg} {H:Hp} {v:V} {d:D} (h:Sc v d):Rep K H v d:=by cases h<;>constructor
def bz:D->Bool
 | .list _=>false
 | .tuple _=>false
 | .dict _=>false
 | _=>true
theorem Rep.sc {K:Fg} {H:Hp} {v:V} {d:D} (h:Rep K H v d) (s:bz d=true):Sc v d:=by
 cases h with
 | non=>exact .non
 | bl b=>exact .bl b
 | int i=>exact .int i
 | str x=>exact .str x
 | lst _ _ _=>cases s
 | tup _ _ _=>cases s
structure PV where
 s:Sh
 d:D
abbrev Ev:=List (Option PV)
inductive Out (α:Type) where
 | ok (a:α) (e:Ev)
 | er (c:Str) (e:Ev)
 | no
def Out.bind {α β:Type} (x:Out α) (k:α->Ev->Out β):Out β:=match x with
 | .ok a e=>k a e
 | .er c e=>.er c e
 | .no=>.no
structure EnvOk (K:Fg) (He:Hp) (O:List Addr) (Fs:List (List Addr)) (H:Hp) (σ:St) (Γ:Ev):Prop where
 len1:σ.length=Γ.length
 len2:Fs.length=Γ.length
 same:Same He H
 nd:(O++Fs.flatten).Nodup
 inH:∀a∈O++Fs.flatten,H a≠none
 fresh:∀a∈Fs.flatten,He a=none
 slot:∀(i:Nat) (p:PV),Γ[i]?=some (some p)->p.s.isView=false/\∃v F,σ[i]?=some (some v)/\Fs[i]?=some F/\Own K (O++Fs.flatten) H p.s F v p.d
section
variable {K:Fg} {He H H':Hp} {O O' G:List Addr} {Fs:List (List Addr)} {σ:St} {Γ:Ev}
theorem EnvOk.grow (h:EnvOk K He O Fs H σ Γ) (e:Same H H'):EnvOk K He O Fs H' σ Γ:=
 ⟨h.len1,h.len2,h.same.trans e,h.nd,fun a ha z=>h.inH a ha (e.free z),h.fresh,fun i p q=>let ⟨a,v,F,b,c,d⟩:=h.slot i p q;⟨a,v,F,b,c,d.mono e fun _ z=>.inl z⟩⟩
theorem EnvOk.drop (h:EnvOk K He O Fs H σ Γ) (hs:∀a∈O',a∈O) (nd:O'.Nodup):EnvOk K He O' Fs H σ Γ:=by
 obtain ⟨n1,n2,n3⟩:=List.nodup_append.mp h.nd;refine ⟨h.len1,h.len2,h.same,List.nodup_append.mpr ⟨nd,n2,fun a ha b hb=>n3 a (hs a ha) b hb⟩,fun a ha=>h.inH a ?_,h.fresh,fun i p q=>let ⟨a,v,F,b,c,d⟩:=h.slot i p q;⟨a,v,F,b,c,d.mono (Same.refl _) fun a z=>.inl ?_⟩⟩
 ·rcases List.mem_append.mp ha with z | z
  ·exact mem_append_left _ (hs a z)
  ·exact mem_append_right _ z
 ·rcases List.mem_append.mp z with z | z
  ·exact mem_append_left _ (hs a z)
  ·exact mem_append_right _ z
theorem EnvOk.dropL (h:EnvOk K He (G++O) Fs H σ Γ):EnvOk K He O Fs H σ Γ:=h.drop (fun a z=>mem_append_right _ z) (List.nodup_append.mp (List.nodup_append.mp h.nd).1).2.1
theorem EnvOk.hide (h:EnvOk K He O Fs H σ Γ) (e:Same H H') (nd:G.Nodup) (hn:∀a∈G,H a=none) (hi:∀a∈G,H' a≠none):EnvOk K He (G++O) Fs H' σ Γ:=by
 refine ⟨h.len1,h.len2,h.same.trans e,?_,fun a ha=>?_,h.fresh,fun i p q=>let ⟨a,v,F,b,c,d⟩:=h.slot i p q;⟨a,v,F,b,c,d.mono e fun a z=>?_⟩⟩
 ·rw [append_assoc]
  exact List.nodup_append.mpr ⟨nd,h.nd,fun a ha b hb z=>h.inH b hb (by rw [<-z];exact hn a ha)⟩
 ·rw [append_assoc] at ha
  rcases List.mem_append.mp ha with z | z
  ·exact hi a z
  ·exact fun q=>h.inH a z (e.free q)
 ·rw [append_assoc] at z
  rcases List.mem_append.mp z with z | z
  ·exact .inr (hn a z)
  ·exact .inl z
end
structure Aft (K:Fg) (He:Hp) (O:List Addr) (Fs:List (List Addr)) (H:Hp) (σ:St) (Γ':Ev) (p:PV) (v:V) (H':Hp) (G:List Addr) (Fs':List (List Addr)):Prop where
 same:Same H H'
 env:EnvOk K He (G++O) Fs' H' σ Γ'
 new:∀a∈G++Fs'.flatten,a∈Fs.flatten\/H a=none
 own:Own K (G++O++Fs'.flatten) H' p.s G v p.d
abbrev XW:=Str->St->Hp->Prop
abbrev F1:=Ev->Out PV
def tE (K:Fg) (W:XW) (f:F1):TE:=fun σ H Q=>∃He O Fs Γ,EnvOk K He O Fs H σ Γ/\match f Γ with
 | .ok p Γ'=>∀v H' G Fs',Aft K He O Fs H σ Γ' p v H' G Fs'->Q v H'
 | .er c Γ'=>∀H' Fs',Same H H'->EnvOk K He O Fs' H' σ Γ'->W c σ H'
 | .no=>False
def Wants (K:Fg) (W:XW) (He:Hp) (O:List Addr) (Fs:List (List Addr)) (H:Hp) (σ:St) (Q:VK) (o:Out PV):Prop:=match o with
 | .ok p Γ'=>∀v H' G Fs',Aft K He O Fs H σ Γ' p v H' G Fs'->Q v H'
 | .er c Γ'=>∀H' Fs',Same H H'->EnvOk K He O Fs' H' σ Γ'->W c σ H'
 | .no=>False
section
variable {K:Fg} {W:XW} {He H:Hp} {O:List Addr} {Fs:List (List Addr)} {σ:St} {Γ Γ':Ev} {Q:VK}
theorem Wants.scal {H2:Hp} {O2:List Addr} {Fs2:List (List Addr)} {v:V} {d:D} (h:Wants K W He O Fs H σ Q (.ok ⟨.leaf,d⟩ Γ')) (s:Sc v d) (e:Same H H2) (E:EnvOk K He O2 Fs2 H2 σ Γ')
  (hO:∀a∈O,a∈O2) (nd:O.Nodup) (new:∀a∈Fs2.flatten,a∈Fs.flatten\/H a=none):Q v H2:=
 h v H2 [] Fs2 ⟨e,by rw [nil_append];exact E.drop hO nd,by rw [nil_append];exact new,.leaf s.rep⟩
theorem EnvOk.ndO (E:EnvOk K He O Fs H σ Γ):O.Nodup:=(List.nodup_append.mp E.nd).1
end
def bj {β:Type} (f:F1) (k:PV->Ev->Out β):Ev->Out β:=fun Γ=>(f Γ).bind k
section
variable {K:Fg} {W:XW} {σ:St} {H:Hp} {Q:VK} {fa fb:F1}
theorem Am {k:PV->F1} {R:VK} (h:tE K W (bj fa k) σ H Q)
  (hk:∀He O Fs Γ1 p v H1 G Fs1,O.Nodup->Aft K He O Fs H σ Γ1 p v H1 G Fs1->Wants K W He O Fs H σ Q (k p Γ1)->R v H1):tE K W fa σ H R:=by
 obtain ⟨He,O,Fs,Γ,E,h⟩:=h;refine ⟨He,O,Fs,Γ,E,?_⟩
 unfold bj at h
 cases e:fa Γ with
 | ok p Γ1=>
  rw [e] at h;exact fun v H' G Fs' A=>hk He O Fs Γ1 p v H' G Fs' E.ndO A h
 | er c Γ1=>
  rw [e] at h;exact h
 | no=>
  rw [e] at h;exact h
theorem DJ {k:PV->PV->F1} {R:V->V->Hp->Prop} (h:tE K W (bj fa fun p=>bj fb fun q=>k p q) σ H Q)
  (hk:∀He O Fs Γ2 p q v u H1 H2 G1 G2 Fs2,O.Nodup->Same H H1->Same H1 H2->EnvOk K He (G2++(G1++O)) Fs2 H2 σ Γ2->(∀a∈G2++(G1++Fs2.flatten),a∈Fs.flatten\/H a=none) ->
   Own K (G2++(G1++O)++Fs2.flatten) H2 p.s G1 v p.d->Own K (G2++(G1++O)++Fs2.flatten) H2 q.s G2 u q.d->Wants K W He O Fs H σ Q (k p q Γ2)->R v u H2) :
  tE K W fa σ H fun v H1=>tE K W fb σ H1 fun u H2=>R v u H2:=by
 refine Am (k:=fun p=>bj fb fun q=>k p q) h fun He O Fs Γ1 p v H1 G1 Fs1 nd A1 h1=>?_
 refine ⟨He,G1++O,Fs1,Γ1,A1.env,?_⟩
 unfold bj at h1
 cases e:fb Γ1 with
 | ok q Γ2=>
  rw [e] at h1;intro u H2 G2 Fs2 A2;have new:∀a∈G2++(G1++Fs2.flatten),a∈Fs.flatten\/H a=none:=fun a ha=>by
   have up:a∈G1++Fs1.flatten->a∈Fs.flatten\/H a=none:=A1.new a
   rcases List.mem_append.mp ha with z | z
   ·rcases A2.new a (mem_append_left _ z) with y | y
    ·exact up (mem_append_right _ y)
    ·exact .inr (A1.same.free y)
   ·rcases List.mem_append.mp z with z | z
    ·exact up (mem_append_left _ z)
    ·rcases A2.new a (mem_append_right _ z) with y | y
     ·exact up (mem_append_right _ y)
     ·exact .inr (A1.same.free y)
  refine hk He O Fs Γ2 p q v u H1 H2 G1 G2 Fs2 nd A1.same A2.same A2.env new (A1.own.mono A2.same fun a ha=>?_) A2.own h1
  rcases List.mem_append.mp ha with z | z
  ·rcases List.mem_append.mp z with z | z
   ·rcases A2.new a (mem_append_left _ z) with y | y
    ·exact .inl (mem_append_right _ y)
    ·exact .inr y
   ·exact .inl (mem_append_left _ z)
  ·rcases A2.new a (mem_append_right _ z) with y | y
   ·exact .inl (mem_append_right _ y)
   ·exact .inr y
 | er c Γ2=>
  rw [e] at h1;intro H2 Fs2 hs E2;exact h1 H2 Fs2 (A1.same.trans hs) E2.dropL
 | no=>
  rw [e] at h1;exact h1
end
section
variable {X:Cx} {e:Expr}
theorem bC {t t':TE} (h:PE X e t) (i:∀σ H Q,t' σ H Q->t σ H Q):PE X e t':=fun pins s σ H Q I q=>h pins s σ H Q I (i σ H Q q)
theorem tX {t t':TT} (h:PT X e t) (i:∀σ H Q,t' σ H Q->t σ H Q):PT X e t':=fun pins s σ H Q I q=>h pins s σ H Q I (i σ H Q q)
theorem xK {t t':TT} (h:PW X e t) (i:∀σ H Q,t' σ H Q->t σ H Q):PW X e t':=fun whole pins s σ H Q I q=>h whole pins s σ H Q I (i σ H Q q)
theorem xM {es:List Expr} {t t':TA} (h:PA X es t) (i:∀σ H Q,t' σ H Q->t σ H Q):PA X es t':=fun pos pins s σ H Q I q=>h pos pins s σ H Q I (i σ H Q q)
theorem cL {st:Stmt} {t t':TS} (h:PS X st t) (i:∀D σ H,t' D σ H->t D σ H):PS X st t':=fun pins s σ H D I q=>h pins s σ H D I (i D σ H q)
theorem Ah {st:List Stmt} {t t':TS} (h:PSs X st t) (i:∀D σ H,t' D σ H->t D σ H):PSs X st t':=fun pins s σ H D I q=>h pins s σ H D I (i D σ H q)
theorem Co {es:List Expr} {t t':TT} (h:PF X es t) (i:∀σ H Q,t' σ H Q->t σ H Q):PF X es t':=fun pins s σ H Q I q=>h pins s σ H Q I (i σ H Q q)
end
theorem Ew {h:Heap}:∀{vs:List V} {its:List Value} {ds:List D},Vals vs its->vs.length=ds.length->(∀(i:Nat) v d,vs[i]?=some v->ds[i]?=some d->∀u,RelV v u->∃as,Reads h u d as)->∃as,ReadsAll h its ds as
 | _,_,[],.nil,_,_=>⟨_,.nil⟩
 | _,_,d::ds,.cons (a:=v) (b:=u) r t,hl,h=>by
  obtain ⟨as,ra⟩:=h 0 v d rfl rfl u r;obtain ⟨bs,rb⟩:=Ew t (by simpa using hl) fun i v d h1 h2=>h (i+1) v d (by simpa using h1) (by simpa using h2)
  exact ⟨_,.cons ra rb⟩
 | _,_,[],.cons _ _,hl,_=>by simp at hl
 | _,_,_::_,.nil,hl,_=>by simp at hl
theorem Rep.reads {X:Cx} {pins:List (Addr×Obj)} {σ:St} {H:Hp} {s:Shared} {x:V} {d:D} (I:Inv X pins σ H s) (r:Rep X.K H x d):∀u,RelV x u->∃as,Reads s.heap u d as:=by
 induction r with
 | non=>rintro u rfl;exact ⟨_,.none⟩
 | bl b=>rintro u rfl;exact ⟨_,.bool b⟩
 | int i=>rintro u ⟨t,rfl⟩;exact ⟨_,.int i t⟩
 | str x=>rintro u ⟨t,rfl⟩;exact ⟨_,.str x t⟩
 | lst hq hl _ ih=>
  rintro u rfl
  obtain ⟨its,rv,⟨o,n,e1,e2,e3,e4⟩,_⟩:=I.list hq;obtain ⟨as,ra⟩:=Ew rv hl ih;exact ⟨_,.list e1 e2 e4 (by simpa using ra)⟩
 | tup hq hl _ ih=>
  rintro u rfl
  obtain ⟨its,rv,⟨o,e1,e2,n,e4⟩,_⟩:=I.tuple hq;obtain ⟨as,ra⟩:=Ew rv hl ih;exact ⟨_,.tuple e1 e2 e4 (by simpa using ra)⟩
theorem m9 {α:Type} {F G:List α}:∀{Fs:List (List α)} {i:Nat},Fs[i]?=some F->(F++(Fs.set i G).flatten).Perm (G++Fs.flatten)
 | [],_,h=>by simp at h
 | A::r,0,h=>by
  simp at h
  subst h;simp only [List.set_cons_zero,flatten_cons]
  rw [<-append_assoc,<-append_assoc];exact List.Perm.append_right _ perm_append_comm
 | A::r,i+1,h=>by
  have ih:=m9 (G:=G) (Fs:=r) (i:=i) (by simpa using h)
  simp only [List.set_cons_succ,flatten_cons]
  calc (F++(A++(r.set i G).flatten)).Perm (A++(F++(r.set i G).flatten)):=by
        rw [<-append_assoc,<-append_assoc];exact List.Perm.append_right _ perm_append_comm
    _ |>.Perm (A++(G++r.flatten)):=List.Perm.append_left _ ih
    _ |>.Perm (G++(A++r.flatten)):=by
        rw [<-append_assoc,<-append_assoc];exact List.Perm.append_right _ perm_append_comm
section
variable {K:Fg} {He H:Hp} {O G:List Addr} {Fs:List (List Addr)} {σ:St} {Γ:Ev}
theorem EnvOk.lt (E:EnvOk K He O Fs H σ Γ) {i:Nat} (h:i<Γ.length):∃F,Fs[i]?=some F:=⟨Fs[i]'(by rw [E.len2];exact h),getElem?_eq_getElem _⟩
theorem EnvOk.move {i:Nat} {p:PV} (E:EnvOk K He O Fs H σ Γ) (h:Γ[i]?=some (some p)) :
  p.s.isView=false/\∃v F,σ[i]?=some (some v)/\EnvOk K He (F++O) (Fs.set i []) H σ (Γ.set i none)/\Own K (F++O++(Fs.set i []).flatten) H p.s F v p.d/\(∀a∈F++(Fs.set i []).flatten,a∈Fs.flatten):=by
 obtain ⟨hv,v,F,h1,h2,h3⟩:=E.slot i p h;have pm:(F++(Fs.set i []).flatten).Perm Fs.flatten:=by simpa using m9 (G:=[]) h2
 have pm2:(F++O++(Fs.set i []).flatten).Perm (O++Fs.flatten):=by
  rw [append_assoc]
  calc (F++(O++(Fs.set i []).flatten)).Perm (O++(F++(Fs.set i []).flatten)):=by
        rw [<-append_assoc,<-append_assoc];exact List.Perm.append_right _ perm_append_comm
    _ |>.Perm (O++Fs.flatten):=List.Perm.append_left _ pm
 refine ⟨hv,v,F,h1,⟨by rw [length_set];exact E.len1,by rw [length_set,length_set];exact E.len2,E.same,pm2.nodup_iff.mpr E.nd,fun a ha=>E.inH a (pm2.mem_iff.mp ha),fun a ha=>E.fresh a (pm.mem_iff.mp (mem_append_right _ ha)),fun j q hq=>?_⟩,h3.mono (Same.refl _) fun a ha=>.inl (pm2.mem_iff.mp ha),fun a ha=>pm.mem_iff.mp ha⟩
 by_cases hj:j=i
 ·subst hj
  rw [getElem?_set] at hq;split at hq
  ·split at hq<;>cases hq
  ·rename_i z
   exact absurd rfl z
 ·rw [getElem?_set_ne (Ne.symm hj)] at hq
  obtain ⟨w1,v',F',e1,e2,e3⟩:=E.slot j q hq;exact ⟨w1,v',F',e1,by rw [getElem?_set_ne (Ne.symm hj)];exact e2,e3.mono (Same.refl _) fun a ha=>.inl (pm2.mem_iff.mp ha)⟩
theorem EnvOk.put {i:Nat} {p:PV} {v:V} (E:EnvOk K He (G++O) Fs H σ Γ) (ho:Own K (G++O++Fs.flatten) H p.s G v p.d) (hv:p.s.isView=false) (hn:∀a∈G,He a=none) (hi:i<Γ.length) :
  EnvOk K He O (Fs.set i G) H (σ.set i (some v)) (Γ.set i (some p)):=by
 obtain ⟨F,hF⟩:=E.lt hi;have pm:=m9 (G:=G) hF
 have nd:=E.nd
 rw [append_assoc] at nd;have sub:∀a∈O++(Fs.set i G).flatten,a∈G++O++Fs.flatten:=fun a ha=>by
  rw [append_assoc];rcases List.mem_append.mp ha with z | z
  ·exact mem_append_right _ (mem_append_left _ z)
  ·rcases List.mem_append.mp (pm.mem_iff.mp (mem_append_right _ z)) with y | y
   ·exact mem_append_left _ y
   ·exact mem_append_right _ (mem_append_right _ y)
 refine ⟨by rw [length_set,length_set];exact E.len1,by rw [length_set,length_set];exact E.len2,E.same,?_,fun a ha=>E.inH a (sub a ha),fun a ha=>?_,fun j q hq=>?_⟩
 ·have p1:(O++(F++(Fs.set i G).flatten)).Perm (G++(O++Fs.flatten)):=by
   calc (O++(F++(Fs.set i G).flatten)).Perm (O++(G++Fs.flatten)):=List.Perm.append_left _ pm
     _ |>.Perm (G++(O++Fs.flatten)):=by
       rw [<-append_assoc,<-append_assoc];exact List.Perm.append_right _ perm_append_comm
  have p2:=p1.nodup_iff.mpr nd
  refine p2.sublist ?_
  exact List.Sublist.append_left (List.sublist_append_right _ _) _
 ·rcases List.mem_append.mp (pm.mem_iff.mp (mem_append_right _ ha)) with y | y
  ·exact hn a y
  ·exact E.fresh a y
 ·by_cases hj:j=i
  ·subst hj
   rw [getElem?_set_self hi] at hq
   cases hq;refine ⟨hv,v,G,?_,?_,ho.mono (Same.refl _) fun a ha=>.inl (sub a ha)⟩
   ·rw [getElem?_set_self (by rw [E.len1];exact hi)]
   ·rw [getElem?_set_self (by rw [E.len2];exact hi)]
  ·rw [getElem?_set_ne (Ne.symm hj)] at hq
   obtain ⟨w1,v',F',e1,e2,e3⟩:=E.slot j q hq;exact ⟨w1,v',F',by rw [getElem?_set_ne (Ne.symm hj)];exact e1,by rw [getElem?_set_ne (Ne.symm hj)];exact e2,e3.mono (Same.refl _) fun a ha=>.inl (sub a ha)⟩
theorem Aft.freshG {Γ':Ev} {p:PV} {v:V} {H':Hp} {Fs':List (List Addr)} (E:EnvOk K He O Fs H σ Γ) (A:Aft K He O Fs H σ Γ' p v H' G Fs'):∀a∈G,He a=none:=fun a ha=>by
 rcases A.new a (mem_append_left _ ha) with z | z
 ·exact E.fresh a z
 ·exact E.same.free z
end
def ae (i:Nat):F1:=fun Γ=>match Γ[i]? with
 | some (some p)=>(match p.s with
  | .leaf=>.ok ⟨.leaf,p.d⟩ Γ
  | _=>.ok ⟨.view,p.d⟩ Γ)
 | _=>.no
def bB (i:Nat):F1:=fun Γ=>match Γ[i]? with
 | some (some p)=>.ok p (Γ.set i none)
 | _=>.no
def eK (d:D):F1:=fun Γ=>.ok ⟨.leaf,d⟩ Γ
section
variable {X:Cx} {W:XW} {i:Nat} {e:Expr} {pos:Pos}
theorem yp {K:Fg} {σ:St} {H:Hp} {Q:VK} (h:tE K W (ae i) σ H Q):dE i σ H Q:=by
 obtain ⟨He,O,Fs,Γ,E,h⟩:=h;unfold ae at h
 cases e:Γ[i]? with
 | none=>rw [e] at h;exact h.elim
 | some o=>
  rw [e] at h
  cases o with
  | none=>exact h.elim
  | some p=>
   obtain ⟨hv,v,F,h1,h2,h3⟩:=E.slot i p e;obtain ⟨s,d⟩:=p;have new:∀a∈[]++Fs.flatten,a∈Fs.flatten\/H a=none:=fun a ha=>.inl (by simpa using ha)
   cases s with
   | leaf=>
    cases h3 with
    | leaf r=>exact ⟨v,h1,h v H [] Fs ⟨Same.refl _,by simpa using E,new,.leaf r⟩⟩
   | view=>cases hv
   | lst s=>exact ⟨v,h1,h v H [] Fs ⟨Same.refl _,by simpa using E,new,.view h3.rep⟩⟩
   | tup ss=>exact ⟨v,h1,h v H [] Fs ⟨Same.refl _,by simpa using E,new,.view h3.rep⟩⟩
theorem uQ {K:Fg} {σ:St} {H:Hp} {Q:VK} (h:tE K W (bB i) σ H Q):dE i σ H Q:=by
 obtain ⟨He,O,Fs,Γ,E,h⟩:=h;unfold bB at h
 cases e:Γ[i]? with
 | none=>rw [e] at h;exact h.elim
 | some o=>
  rw [e] at h
  cases o with
  | none=>exact h.elim
  | some p=>
   obtain ⟨hv,v,F,h1,E',o',sub⟩:=E.move e;exact ⟨v,h1,h v H F (Fs.set i []) ⟨Same.refl _,E',fun a ha=>.inl (sub a ha),o'⟩⟩
theorem zT (h:PE X e (dE i)):PE X e (tE X.K W (ae i)):=bC h fun _ _ _=>yp
theorem vW (h:PE X e (dE i)):PE X e (tE X.K W (bB i)):=bC h fun _ _ _=>uQ
theorem uT {K:Fg} {σ:St} {H:Hp} {Q:VK} {v:V} {d:D} (hs:∀H,Rep K H v d) (h:tE K W (eK d) σ H Q):Q v H:=by
 obtain ⟨He,O,Fs,Γ,E,h⟩:=h;exact h v H [] Fs ⟨Same.refl _,by simpa using E,fun a ha=>.inl (by simpa using ha),.leaf (hs _)⟩
theorem vX {x:Str} {v:V} {u:Value} {d:D} (hg:Gl X x) (hm:X.mg x=some u) (r:RelV v u) (hr:∀H,Rep X.K H v d) (hd:(x==("__debug__":Str))=false:=by decide):PE X (.Name x pos) (tE X.K W (eK d)):=
 bC (vb hg hm r hd) fun _ _ _=>uT hr
end
def aw (g:D->D->Option D) (fa fb:F1):F1:=bj fa fun p=>bj fb fun q=>fun Γ=>match g p.d q.d with
 | some d=>.ok ⟨.leaf,d⟩ Γ
 | none=>.no
def GOp (K:Fg) (r:R2) (g:D->D->Option D):Prop:=∀x y H Q a b d,Rep K H x a->Rep K H y b->g a b=some d->(∀v,Sc v d->Q v H)->r x y H Q
section
variable {K:Fg} {W:XW} {σ:St} {H:Hp} {Q:VK} {fa fb:F1} {r:R2} {g:D->D->Option D}
theorem gJ (hg:GOp K r g) (h:tE K W (aw g fa fb) σ H Q):lu r (tE K W fa) (tE K W fb) σ H Q:=by
 refine DJ h ?_
 intro He O Fs Γ2 p q v u H1 H2 G1 G2 Fs2 nd s1 s2 E new o1 o2 w
 cases e:g p.d q.d with
 | none=>rw [e] at w;exact w.elim
 | some d=>
  rw [e] at w;exact hg v u H2 Q p.d q.d d o1.rep o2.rep e fun z s=>w.scal s (s1.trans s2) E (fun a ha=>mem_append_right _ (mem_append_right _ ha)) nd fun a ha=>new a (mem_append_right _ (mem_append_right _ ha))
end
theorem GOp.or {K:Fg} {r r':R2} {g g':D->D->Option D} (h:GOp K r g) (h':GOp K r' g'):GOp K (fun x y H Q=>r x y H Q\/r' x y H Q) (fun a b=>(g a b).or (g' a b)):=by
 intro x y H Q a b d ra rb e k;have e:(g a b).or (g' a b)=some d:=e
 cases e1:g a b with
 | some z=>rw [e1] at e;cases e;exact .inl (h x y H Q a b _ ra rb e1 k)
 | none=>rw [e1] at e;exact .inr (h' x y H Q a b d ra rb (by simpa using e) k)
def gI (C:Int->Int->Bool) (f:Int->Int->D):D->D->Option D
 | .int i,.int j=>if C i j then some (f i j) else none
 | _,_=>none
theorem o6 {K:Fg} {C:Int->Int->Prop} {C':Int->Int->Bool} {g:Int->Int->V} {f:Int->Int->D} (hC:∀i j,C' i j=true->C i j) (hs:∀i j,Sc (g i j) (f i j)):GOp K (rI C g) (gI C' f):=by
 intro x y H Q a b d ra rb e k
 cases ra<;>cases rb<;>simp only [gI] at e<;>try cases e
 rename_i i j;split at e
 ·rename_i c
  cases e;exact ⟨i,j,rfl,rfl,hC i j c,k _ (hs i j)⟩
 ·cases e
def xA (f:Int->Int->D):D->D->Option D
 | .int i,.int j=>some (f i j)
 | _,_=>none
theorem Aj {K:Fg} {g:Int->Int->V} {f:Int->Int->D} (hs:∀i j,Sc (g i j) (f i j)):GOp K (oM g) (xA f):=by
 intro x y H Q a b d ra rb e k
 cases ra<;>cases rb<;>simp only [xA] at e<;>try cases e
 rename_i i j;exact ⟨i,j,rfl,rfl,k _ (hs i j)⟩
abbrev gSub:=xA fun i j=>.int (i-j)
abbrev bc:=xA fun i j=>.int (i+j)
def qM (i j:Int):Bool:=(decide (-(2 ^ 64)<i)&&decide (i<2 ^ 64))||(decide (-(2 ^ 64)<j)&&decide (j<2 ^ 64))
abbrev cD:=gI qM fun i j=>.int (i*j)
def wb (_ j:Int):Bool:=decide (0<j)&&decide (j<1073741824)
abbrev nN:=gI wb fun i j=>.int (i / j)
def wa (_ j:Int):Bool:=decide (0<j)
abbrev cj:=gI wa fun i j=>.int (i % j)
def v9 (i j:Int):Bool:=decide (0<=j)&&decide (j<=1000000)&&decide (i.natAbs<2 ^ 64)
abbrev vL:=gI v9 fun i j=>.int (i ^ j.toNat)
mutual
def Sh.same:Sh->Sh->Bool
 | .view,.view=>true
 | .leaf,.leaf=>true
 | .lst a,.lst b=>Sh.same a b
 | .tup as,.tup bs=>Sh.sameL as bs
 | _,_=>false
def Sh.sameL:List Sh->List Sh->Bool
 | [],[]=>true
 | a::as,b::bs=>Sh.same a b&&Sh.sameL as bs
 | _,_=>false
end
mutual
theorem Sh.same_eq:∀{a b:Sh},Sh.same a b=true->a=b
 | .view,.view,_=>rfl
 | .leaf,.leaf,_=>rfl
 | .lst a,.lst b,h=>by rw [Sh.same_eq (a:=a) (b:=b) (by simpa [Sh.same] using h)]
 | .tup as,.tup bs,h=>by rw [Sh.sameL_eq (as:=as) (bs:=bs) (by simpa [Sh.same] using h)]
 | .view,.leaf,h=>by simp [Sh.same] at h
 | .view,.lst _,h=>by simp [Sh.same] at h
 | .view,.tup _,h=>by simp [Sh.same] at h
 | .leaf,.view,h=>by simp [Sh.same] at h
 | .leaf,.lst _,h=>by simp [Sh.same] at h
 | .leaf,.tup _,h=>by simp [Sh.same] at h
 | .lst _,.view,h=>by simp [Sh.same] at h
 | .lst _,.leaf,h=>by simp [Sh.same] at h
 | .lst _,.tup _,h=>by simp [Sh.same] at h
 | .tup _,.view,h=>by simp [Sh.same] at h
 | .tup _,.leaf,h=>by simp [Sh.same] at h
 | .tup _,.lst _,h=>by simp [Sh.same] at h
theorem Sh.sameL_eq:∀{as bs:List Sh},Sh.sameL as bs=true->as=bs
 | [],[],_=>rfl
 | a::as,b::bs,h=>by
  have h:Sh.same a b=true/\Sh.sameL as bs=true:=by simpa [Sh.sameL] using h
  rw [Sh.same_eq h.1,Sh.sameL_eq h.2]
 | [],_::_,h=>by simp [Sh.sameL] at h
 | _::_,[],h=>by simp [Sh.sameL] at h
end
def coer (s:Sh) (p:PV):Bool:=match s with
 | .leaf=>!p.s.isView||bz p.d
 | .view=>false
 | s=>Sh.same s p.s
def bb (s:Sh) (G:List Addr):List Addr:=match s with
 | .leaf=>[]
 | _=>G
theorem Em {s:Sh} {G:List Addr} {a:Addr} (h:a∈bb s G):a∈G:=by
 unfold bb at h;split at h
 ·simp at h
 ·exact h
theorem Own.coer {K:Fg} {O O':List Addr} {H:Hp} {s:Sh} {p:PV} {G:List Addr} {v:V} (h:Own K O H p.s G v p.d) (c:coer s p=true) (h1:∀a∈O',a∈O) (h2:∀a∈G,a∈O'->a∈bb s G):Own K O' H s (bb s G) v p.d:=by
 cases s with
 | view=>simp [T.coer] at c
 | leaf=>
  show Own K O' H .leaf [] v p.d
  have c:(!p.s.isView||bz p.d)=true:=c
  cases hv:p.s.isView with
  | false=>exact .leaf (h.freeze hv h1 fun a ha z=>by simpa [bb] using h2 a ha z)
  | true=>
   rw [hv] at c;exact .leaf (h.rep.sc (by simpa using c)).rep
 | lst s=>
  have e:Sh.lst s=p.s:=Sh.same_eq c
  show Own K O' H (.lst s) G v p.d
  rw [e];exact h.mono (Same.refl _) fun a ha=>.inl (h1 a ha)
 | tup ss=>
  have e:Sh.tup ss=p.s:=Sh.same_eq c
  show Own K O' H (.tup ss) G v p.d
  rw [e];exact h.mono (Same.refl _) fun a ha=>.inl (h1 a ha)
open PySem.SeqAt in
def bg:D->D->Option D:=fun a b=>if shaped a&&shaped b then some (.bool (PyData.eqv a b)) else none
open PySem.SeqAt in
def bK:D->D->Option D:=fun a b=>if shaped a&&shaped b then some (.bool (!PyData.eqv a b)) else none
open PySem.SeqAt in
def pS (K:Fg) (neg:Bool):R2:=fun x y H Q=>∃a b,Rep K H x a/\Rep K H y b/\shaped a=true/\shaped b=true/\Q (.bl (if neg then !PyData.eqv a b else PyData.eqv a b)) H
section
variable {X:Cx}
theorem y6 (hu:X.A.units+64<cLine):OpR X (compareOp .Eq) (pS X.K false):=by
 intro pins s σ H x y v u Q I rx ry h;obtain ⟨a,b,ra,rb,sa,sb,q⟩:=h;obtain ⟨as,r1⟩:=ra.reads I v rx;obtain ⟨bs,r2⟩:=rb.reads I u ry;exact SeqAt.compareEq_shaped r1 r2 sa sb hu ⟨.bl _,H,I,rfl,q⟩
theorem y0 (hu:X.A.units+64<cLine):OpR X (compareOp .NotEq) (pS X.K true):=by
 intro pins s σ H x y v u Q I rx ry h;obtain ⟨a,b,ra,rb,sa,sb,q⟩:=h;obtain ⟨as,r1⟩:=ra.reads I v rx;obtain ⟨bs,r2⟩:=rb.reads I u ry;exact SeqAt.compareNe_shaped r1 r2 sa sb hu ⟨.bl _,H,I,rfl,q⟩
end
theorem zE {K:Fg}:GOp K (pS K false) bg:=by
 intro x y H Q a b d ra rb e k;unfold bg at e;split at e
 ·rename_i c
  cases e;simp only [Bool.and_eq_true] at c
  exact ⟨a,b,ra,rb,c.1,c.2,k _ (.bl _)⟩
 ·cases e
theorem zz {K:Fg}:GOp K (pS K true) bK:=by
 intro x y H Q a b d ra rb e k;unfold bK at e;split at e
 ·rename_i c
  cases e;simp only [Bool.and_eq_true] at c
  exact ⟨a,b,ra,rb,c.1,c.2,k _ (.bl _)⟩
 ·cases e
def zJ:D->D->Option D
 | .str i,.str j=>some (.bool (decide (i.cps.toList<j.cps.toList)))
 | _,_=>none
abbrev FX:=xA fun i j=>.bool (decide (i<j))
abbrev dI:D->D->Option D:=fun a b=>(FX a b).or (zJ a b)
abbrev AJ:=xA fun i j=>.bool (decide (i<=j))
abbrev eF:=xA fun i j=>.bool (decide (j<i))
abbrev HA:=xA fun i j=>.bool (decide (j<=i))
theorem vD {K:Fg}:GOp K (fun x y H Q=>∃i j,x=.str i/\y=.str j/\Q (.bl (decide (i.cps.toList<j.cps.toList))) H) zJ:=by
 intro x y H Q a b d ra rb e k
 cases ra<;>cases rb<;>simp only [zJ] at e<;>try cases e
 rename_i i j;exact ⟨i,j,rfl,rfl,k _ (.bl _)⟩
theorem zB {K:Fg}:GOp K (fun x y H Q=>oM (fun i j=>.bl (decide (i<j))) x y H Q\/∃i j,x=.str i/\y=.str j/\Q (.bl (decide (i.cps.toList<j.cps.toList))) H) dI:=
 (Aj fun _ _=>.bl _).or vD
open PySem.SeqAt in
def bV (neg:Bool):D->D->Option D
 | a,.list xs=>if shaped a&&shaped (.list xs) then some (.bool (if neg then !xs.any fun y=>PyData.eqv y a else xs.any fun y=>PyData.eqv y a)) else none
 | a,.tuple xs=>if shaped a&&shaped (.tuple xs) then some (.bool (if neg then !xs.any fun y=>PyData.eqv y a else xs.any fun y=>PyData.eqv y a)) else none
 | _,_=>none
def sq (K:Fg) (neg:Bool):R2:=fun x y H Q=>∃a b d,Rep K H x a/\Rep K H y b/\bV neg a b=some (.bool d)/\Q (.bl d) H
theorem tm {K:Fg} {neg:Bool}:GOp K (sq K neg) (bV neg):=by
 intro x y H Q a b d ra rb e k;have:∃c,d=.bool c:=by
  cases b<;>simp only [bV] at e<;>(try cases e)<;>(split at e<;>cases e<;>exact ⟨_,rfl⟩)
 obtain ⟨c,rfl⟩:=this;exact ⟨a,b,c,ra,rb,e,k _ (.bl c)⟩
theorem CU {d:D} {xs:List D} (h:SeqAt.shaped d=true) (e:d=.list xs\/d=.tuple xs):PyData.canLayAll0 xs=true/\PyData.depthAll xs+1<=64:=by
 have h1:=SeqAt.canLay_of_shaped h
 have h2:=SeqAt.depth_of_shaped h
 rcases e with e | e<;>subst e<;>exact ⟨by simpa [PyData.canLay0] using h1,by simpa [PyData.depth] using h2⟩
section
variable {X:Cx}
theorem y4 (hu:X.A.units+64<cLine):OpR X (compareOp .In) (sq X.K false):=by
 intro pins s σ H x y v u Q I rx ry h;obtain ⟨a,b,d,ra,rb,e,q⟩:=h;obtain ⟨as,r1⟩:=ra.reads I v rx;obtain ⟨bs,r2⟩:=rb.reads I u ry
 cases b<;>simp only [bV] at e<;>try cases e
 all_goals
  split at e
  ·rename_i c
   simp only [Bool.and_eq_true] at c
   simp only [Option.some.injEq,PyData.bool.injEq] at e
   subst e;first
    | (obtain ⟨p1,p2⟩:=CU c.2 (.inl rfl)
       exact SeqAt.in_list_reads r2 r1 p1 (SeqAt.canLay_of_shaped c.1) (Nat.lt_of_le_of_lt (by have:=Nat.min_le_left (PyData.depthAll ‹_›) a.depth;omega) hu) ⟨.bl _,H,I,rfl,q⟩)
    | (obtain ⟨p1,p2⟩:=CU c.2 (.inr rfl)
       exact SeqAt.in_tuple_reads r2 r1 p1 (SeqAt.canLay_of_shaped c.1) (Nat.lt_of_le_of_lt (by have:=Nat.min_le_left (PyData.depthAll ‹_›) a.depth;omega) hu) ⟨.bl _,H,I,rfl,q⟩)
  ·cases e
theorem pY (hu:X.A.units+64<cLine):OpR X (compareOp .NotIn) (sq X.K true):=by
 intro pins s σ H x y v u Q I rx ry h;obtain ⟨a,b,d,ra,rb,e,q⟩:=h;obtain ⟨as,r1⟩:=ra.reads I v rx;obtain ⟨bs,r2⟩:=rb.reads I u ry
 cases b<;>simp only [bV] at e<;>try cases e
 all_goals
  split at e
  ·rename_i c
   simp only [Bool.and_eq_true] at c
   simp only [Option.some.injEq,PyData.bool.injEq] at e
   subst e;first
    | (obtain ⟨p1,p2⟩:=CU c.2 (.inl rfl)
       exact SeqAt.notIn_list_reads r2 r1 p1 (SeqAt.canLay_of_shaped c.1) (Nat.lt_of_le_of_lt (by have:=Nat.min_le_left (PyData.depthAll ‹_›) a.depth;omega) hu) ⟨.bl _,H,I,rfl,q⟩)
    | (obtain ⟨p1,p2⟩:=CU c.2 (.inr rfl)
       exact SeqAt.notIn_tuple_reads r2 r1 p1 (SeqAt.canLay_of_shaped c.1) (Nat.lt_of_le_of_lt (by have:=Nat.min_le_left (PyData.depthAll ‹_›) a.depth;omega) hu) ⟨.bl _,H,I,rfl,q⟩)
  ·cases e
end
def WantsB (K:Fg) (W:XW) (He:Hp) (O:List Addr) (Fs:List (List Addr)) (H:Hp) (σ:St) (Q:Bool->Hp->Prop) (o:Out Bool):Prop:=match o with
 | .ok b Γ'=>∀H' Fs',Same H H'->EnvOk K He O Fs' H' σ Γ'->(∀a∈Fs'.flatten,a∈Fs.flatten\/H a=none)->Q b H'
 | .er c Γ'=>∀H' Fs',Same H H'->EnvOk K He O Fs' H' σ Γ'->W c σ H'
 | .no=>False
abbrev FB:=Ev->Out Bool
def tT (K:Fg) (W:XW) (f:FB):TT:=fun σ H Q=>∃He O Fs Γ,EnvOk K He O Fs H σ Γ/\WantsB K W He O Fs H σ Q (f Γ)
section
variable {K:Fg} {W:XW} {He H H1:Hp} {O:List Addr} {Fs Fs1:List (List Addr)} {σ:St} {Γ Γ':Ev} {Q:VK} {QB:Bool->Hp->Prop}
theorem Wants.after {o:Out PV} (h:Wants K W He O Fs H σ Q o) (s:Same H H1) (n:∀a∈Fs1.flatten,a∈Fs.flatten\/H a=none):Wants K W He O Fs1 H1 σ Q o:=by
 cases o with
 | ok p Γ'=>exact fun v H' G Fs' A=>h v H' G Fs' ⟨s.trans A.same,A.env,fun a ha=>(A.new a ha).elim (n a) fun z=>.inr (s.free z),A.own⟩
 | er c Γ'=>exact fun H' Fs' e E=>h H' Fs' (s.trans e) E
 | no=>exact h
theorem WantsB.after {o:Out Bool} (h:WantsB K W He O Fs H σ QB o) (s:Same H H1) (n:∀a∈Fs1.flatten,a∈Fs.flatten\/H a=none):WantsB K W He O Fs1 H1 σ QB o:=by
 cases o with
 | ok p Γ'=>exact fun H' Fs' e E n'=>h H' Fs' (s.trans e) E fun a ha=>(n' a ha).elim (n a) fun z=>.inr (s.free z)
 | er c Γ'=>exact fun H' Fs' e E=>h H' Fs' (s.trans e) E
 | no=>exact h
theorem Aft.go {p:PV} {v:V} {G:List Addr} (A:Aft K He O Fs H σ Γ' p v H1 G Fs1):EnvOk K He O Fs1 H1 σ Γ':=A.env.dropL
theorem Aft.newF {p:PV} {v:V} {G:List Addr} (A:Aft K He O Fs H σ Γ' p v H1 G Fs1):∀a∈Fs1.flatten,a∈Fs.flatten\/H a=none:=fun a ha=>A.new a (mem_append_right _ ha)
end
section
variable {K:Fg} {W:XW} {σ:St} {H:Hp} {Q:VK} {QB:Bool->Hp->Prop} {fa fb fc:F1} {ga gb:FB}
def aC (g:D->Option Bool) (f:F1):FB:=fun Γ=>(f Γ).bind fun p Γ'=>match g p.d with
 | some b=>.ok b Γ'
 | none=>.no
theorem oz {g:D->Option Bool} {R:VK} (h:tT K W (aC g fa) σ H QB) (hR:∀v d b H1,Rep K H1 v d->g d=some b->QB b H1->R v H1):tE K W fa σ H R:=by
 obtain ⟨He,O,Fs,Γ,E,h⟩:=h;refine ⟨He,O,Fs,Γ,E,?_⟩
 unfold aC at h
 cases e:fa Γ with
 | ok p Γ'=>
  rw [e] at h;intro v H' G Fs' A
  have h:WantsB K W He O Fs H σ QB (match g p.d with | some b=>.ok b Γ' | none=>.no):=h
  cases e2:g p.d with
  | some b=>
   rw [e2] at h;exact hR v p.d b H' A.own.rep e2 (h H' Fs' A.same A.go A.newF)
  | none=>rw [e2] at h;exact h.elim
 | er c Γ'=>rw [e] at h;exact h
 | no=>rw [e] at h;exact h
def aj:D->Option Bool
 | .bool b=>some b
 | _=>none
theorem uM {t:TE} (hi:∀Q,tE K W fa σ H Q->t σ H Q) (h:tT K W (aC aj fa) σ H QB):w4 t σ H QB:=by
 refine hi _ (oz h fun v d b H1 r e q=>?_)
 cases r<;>simp only [aj] at e<;>try cases e
 exact ⟨_,rfl,q⟩
def aZ:D->Option Bool
 | .none=>some false
 | .bool b=>some b
 | .int i=>some (i != 0)
 | .str x=>if x.length<=sizeLine then some ((x.length:Int) != 0) else none
 | .list xs=>some (!xs.isEmpty)
 | .tuple xs=>some (!xs.isEmpty)
 | .dict _=>none
theorem yr (h:tT K W (aC aZ fa) σ H QB):tE K W fa σ H fun x H'=>∃k,Ab K x H' k/\QB k H':=by
 refine oz h fun v d b H1 r e q=>?_
 cases r with
 | non=>cases e;exact ⟨_,rfl,q⟩
 | bl c=>cases e;exact ⟨_,rfl,q⟩
 | int i=>cases e;exact ⟨_,rfl,q⟩
 | str x=>
  simp only [aZ] at e
  split at e
  ·rename_i z;cases e;exact ⟨_,⟨z,rfl⟩,q⟩
  ·cases e
 | @lst p vs ds hq hl _=>
  cases e;exact ⟨_,.inl ⟨vs,hq,by cases vs<;>cases ds<;>simp_all⟩,q⟩
 | @tup p vs ds hq hl _=>
  cases e;exact ⟨_,.inr (.inl ⟨vs,hq,by cases vs<;>cases ds<;>simp_all⟩),q⟩
def bQ (a b:FB):FB:=fun Γ=>(a Γ).bind fun c Γ'=>if c then b Γ' else .ok false Γ'
def b7 (a b:FB):FB:=fun Γ=>(a Γ).bind fun c Γ'=>if c then .ok true Γ' else b Γ'
def bu (a:FB):FB:=fun Γ=>(a Γ).bind fun c Γ'=>.ok (!c) Γ'
theorem DK {k:Bool->Ev->Out Bool} {R:Bool->Hp->Prop} (h:tT K W (fun Γ=>(ga Γ).bind k) σ H QB)
  (hk:∀(He:Hp) (O:List Addr) Γ1 b H1 Fs1,Same H H1->EnvOk K He O Fs1 H1 σ Γ1->WantsB K W He O Fs1 H1 σ QB (k b Γ1)->R b H1):tT K W ga σ H R:=by
 obtain ⟨He,O,Fs,Γ,E,h⟩:=h;have h:WantsB K W He O Fs H σ QB ((ga Γ).bind k):=h
 refine ⟨He,O,Fs,Γ,E,?_⟩
 cases e:ga Γ with
 | ok b Γ1=>rw [e] at h;exact fun H' Fs' s E' n=>hk He O Γ1 b H' Fs' s E' (WantsB.after (o:=k b Γ1) h s n)
 | er c Γ1=>rw [e] at h;exact h
 | no=>rw [e] at h;exact h
theorem WantsB.now {He:Hp} {O:List Addr} {Fs:List (List Addr)} {Γ:Ev} {b:Bool} (h:WantsB K W He O Fs H σ QB (.ok b Γ)) (E:EnvOk K He O Fs H σ Γ):QB b H:=h H Fs (Same.refl _) E fun _ z=>.inl z
theorem u0 (h:tT K W (bQ ga gb) σ H QB):Bp (tT K W ga) (tT K W gb) σ H QB:=by
 refine DK h fun He O Γ1 b H1 Fs1 s E w=>?_
 cases b with
 | true=>exact kJ ⟨He,O,Fs1,Γ1,E,w⟩
 | false=>exact kK (WantsB.now w E)
theorem yD (h:tT K W (b7 ga gb) σ H QB):Gu (tT K W ga) (tT K W gb) σ H QB:=by
 refine DK h fun He O Γ1 b H1 Fs1 s E w=>?_
 cases b with
 | false=>exact kK ⟨He,O,Fs1,Γ1,E,w⟩
 | true=>exact kJ (WantsB.now w E)
theorem uZ (h:tT K W (bu ga) σ H QB):Bk (tT K W ga) σ H QB:=DK h fun He O Γ1 b H1 Fs1 s E w=>WantsB.now w E
def de (fa fb:F1):F1:=bj fa fun p Γ=>match p.d with
 | .bool true=>fb Γ
 | .bool false=>.ok ⟨.leaf,.bool false⟩ Γ
 | _=>.no
def qo (fa fb:F1):F1:=bj fa fun p Γ=>match p.d with
 | .bool true=>.ok ⟨.leaf,.bool true⟩ Γ
 | .bool false=>fb Γ
 | _=>.no
def nR (fa:F1):F1:=bj fa fun p Γ=>match p.d with
 | .bool b=>.ok ⟨.leaf,.bool (!b)⟩ Γ
 | _=>.no
theorem yF (h:tE K W (de fa fb) σ H Q):w6 (tE K W fa) (tE K W fb) σ H Q:=by
 refine Am h fun He O Fs Γ1 p v H1 G Fs1 nd A w=>?_
 have r:=A.own.rep
 obtain ⟨s,d⟩:=p
 cases r with
 | bl b=>
  cases b with
  | true=>exact ⟨true,rfl,kJ ⟨He,O,Fs1,Γ1,A.go,Wants.after w A.same A.newF⟩⟩
  | false=>exact ⟨false,rfl,kK (Wants.scal w (.bl false) A.same A.env (fun a ha=>mem_append_right _ ha) nd A.newF)⟩
 | _=>exact w.elim
theorem Bw (h:tE K W (qo fa fb) σ H Q):Bj (tE K W fa) (tE K W fb) σ H Q:=by
 refine Am h fun He O Fs Γ1 p v H1 G Fs1 nd A w=>?_
 have r:=A.own.rep
 obtain ⟨s,d⟩:=p
 cases r with
 | bl b=>
  cases b with
  | false=>exact ⟨false,rfl,kK ⟨He,O,Fs1,Γ1,A.go,Wants.after w A.same A.newF⟩⟩
  | true=>exact ⟨true,rfl,kJ (Wants.scal w (.bl true) A.same A.env (fun a ha=>mem_append_right _ ha) nd A.newF)⟩
 | _=>exact w.elim
theorem yu (h:tE K W (nR fa) σ H Q):w5 (tE K W fa) σ H Q:=by
 refine Am h fun He O Fs Γ1 p v H1 G Fs1 nd A w=>?_
 have r:=A.own.rep
 obtain ⟨s,d⟩:=p
 cases r with
 | bl b=>exact ⟨b,rfl,Wants.scal w (.bl _) A.same A.env (fun a ha=>mem_append_right _ ha) nd A.newF⟩
 | _=>exact w.elim
def fm (c:FB) (fa fb:F1):F1:=fun Γ=>(c Γ).bind fun b Γ'=>if b then fa Γ' else fb Γ'
theorem Bx (h:tE K W (fm ga fa fb) σ H Q):Gx (tT K W ga) (tE K W fa) (tE K W fb) σ H Q:=by
 obtain ⟨He,O,Fs,Γ,E,h⟩:=h;refine ⟨He,O,Fs,Γ,E,?_⟩
 unfold fm at h
 cases e:ga Γ with
 | ok b Γ1=>
  rw [e] at h;intro H' Fs' s E' n
  have h':=Wants.after (o:=if b then fa Γ1 else fb Γ1) h s n
  cases b with
  | true=>exact kJ ⟨He,O,Fs',Γ1,E',h'⟩
  | false=>exact kK ⟨He,O,Fs',Γ1,E',h'⟩
 | er c Γ1=>rw [e] at h;exact h
 | no=>rw [e] at h;exact h
def xN (g g':D->D->Option D) (fa fb fc:F1):F1:=bj fa fun p=>bj fb fun q=>fun Γ=>match g p.d q.d with
 | some (.bool true)=>if bz q.d then (fc Γ).bind fun z Γ'=>(match g' q.d z.d with | some d=>.ok ⟨.leaf,d⟩ Γ' | none=>.no) else .no
 | some (.bool false)=>.ok ⟨.leaf,.bool false⟩ Γ
 | _=>.no
theorem si {r r':R2} {g g':D->D->Option D} (hg:GOp K r g) (hg':GOp K r' g') (h:tE K W (xN g g' fa fb fc) σ H Q):rT r r' (tE K W fa) (tE K W fb) (tE K W fc) σ H Q:=by
 refine DJ h ?_
 intro He O Fs Γ2 p q v u H1 H2 G1 G2 Fs2 nd s1 s2 E new o1 o2 w;have sub:∀a∈O,a∈G2++(G1++O):=fun a ha=>mem_append_right _ (mem_append_right _ ha)
 have newF:∀a∈Fs2.flatten,a∈Fs.flatten\/H a=none:=fun a ha=>new a (mem_append_right _ (mem_append_right _ ha))
 cases e:g p.d q.d with
 | none=>rw [e] at w;exact w.elim
 | some d=>
  rw [e] at w;refine hg v u H2 _ p.d q.d d o1.rep o2.rep e fun z s=>?_
  cases s with
  | bl b=>
   cases b with
   | false=>exact ⟨false,rfl,kK (Wants.scal w (.bl false) (s1.trans s2) E sub nd newF)⟩
   | true=>
    refine ⟨true,rfl,kJ ?_⟩
    have w:Wants K W He O Fs H σ Q (if bz q.d then (fc Γ2).bind fun z Γ'=>(match g' q.d z.d with | some d=>.ok ⟨.leaf,d⟩ Γ' | none=>.no) else .no):=w
    cases hs:bz q.d with
    | false=>rw [hs] at w;exact w.elim
    | true=>
     rw [hs] at w;have w:Wants K W He O Fs H σ Q ((fc Γ2).bind fun z Γ'=>(match g' q.d z.d with | some d=>.ok ⟨.leaf,d⟩ Γ' | none=>.no)):=w
     have su:=o2.rep.sc hs
     refine ⟨He,O,Fs2,Γ2,E.drop sub nd,?_⟩
     cases e3:fc Γ2 with
     | ok p3 Γ3=>
      rw [e3] at w;intro v3 H3 G3 Fs3 A3;have w:Wants K W He O Fs H σ Q (match g' q.d p3.d with | some d=>.ok ⟨.leaf,d⟩ Γ3 | none=>.no):=w
      cases e4:g' q.d p3.d with
      | none=>rw [e4] at w;exact w.elim
      | some d4=>
       rw [e4] at w;exact hg' u v3 H3 Q q.d p3.d d4 su.rep A3.own.rep e4 fun z s=>Wants.scal w s ((s1.trans s2).trans A3.same) A3.env (fun a ha=>mem_append_right _ ha) nd fun a ha=>(A3.new a (mem_append_right _ ha)).elim (newF a) fun z=>.inr ((s1.trans s2).free z)
     | er c Γ3=>
      rw [e3] at w;exact fun H' Fs' s E'=>w H' Fs' ((s1.trans s2).trans s) E'
     | no=>rw [e3] at w;exact w
  | non=>exact w.elim
  | int i=>exact w.elim
  | str x=>exact w.elim
end
structure AftL (K:Fg) (He:Hp) (O:List Addr) (Fs:List (List Addr)) (H:Hp) (σ:St) (Γ':Ev) (ps:List PV) (vs:List V) (H':Hp) (Gs Fs':List (List Addr)):Prop where
 same:Same H H'
 len1:vs.length=ps.length
 len2:Gs.length=ps.length
 env:EnvOk K He (Gs.flatten++O) Fs' H' σ Γ'
 new:∀a∈Gs.flatten++Fs'.flatten,a∈Fs.flatten\/H a=none
 own:∀(i:Nat) v p G,vs[i]?=some v->ps[i]?=some p->Gs[i]?=some G->Own K (Gs.flatten++O++Fs'.flatten) H' p.s G v p.d
abbrev FL:=Ev->Out (List PV)
def tV (K:Fg) (W:XW) (He:Hp) (O:List Addr) (Fs:List (List Addr)) (H:Hp) (σ:St) (Q:List V->Hp->Prop) (o:Out (List PV)):Prop:=match o with
 | .ok ps Γ'=>∀vs H' Gs Fs',AftL K He O Fs H σ Γ' ps vs H' Gs Fs'->Q vs H'
 | .er c Γ'=>∀H' Fs',Same H H'->EnvOk K He O Fs' H' σ Γ'->W c σ H'
 | .no=>False
def tA (K:Fg) (W:XW) (f:FL):TA:=fun σ H Q=>∃He O Fs Γ,EnvOk K He O Fs H σ Γ/\tV K W He O Fs H σ Q (f Γ)
def af:FL:=fun Γ=>.ok [] Γ
def ab (fa:F1) (fl:FL):FL:=fun Γ=>(fa Γ).bind fun p Γ1=>(fl Γ1).bind fun ps Γ2=>.ok (p::ps) Γ2
section
variable {K:Fg} {W:XW} {σ:St} {H:Hp} {Q:VK} {QL:List V->Hp->Prop} {fa fb:F1} {fl:FL}
theorem yv (h:tA K W af σ H QL):uB σ H QL:=by
 obtain ⟨He,O,Fs,Γ,E,h⟩:=h;exact h [] H [] Fs ⟨Same.refl _,rfl,rfl,by simpa using E,fun a ha=>.inl (by simpa using ha),fun i v p G e=>by simp at e⟩
theorem jY {α:Type} (A B C:List α):(A++(B++C)).Perm (B++(A++C)):=by
 rw [<-append_assoc,<-append_assoc];exact List.Perm.append_right _ perm_append_comm
theorem EnvOk.perm {He H:Hp} {O O':List Addr} {Fs:List (List Addr)} {Γ:Ev} (E:EnvOk K He O Fs H σ Γ) (p:O'.Perm O):EnvOk K He O' Fs H σ Γ:=E.drop (fun a ha=>p.mem_iff.mp ha) (p.nodup_iff.mpr E.ndO)
theorem Own.perm {H:Hp} {O O':List Addr} {s:Sh} {G:List Addr} {v:V} {d:D} (h:Own K O H s G v d) (p:∀a∈O',a∈O):Own K O' H s G v d:=h.mono (Same.refl _) fun a ha=>.inl (p a ha)
theorem uX (h:tA K W (ab fa fl) σ H QL):lI (tE K W fa) (tA K W fl) σ H QL:=by
 obtain ⟨He,O,Fs,Γ,E,h⟩:=h;refine ⟨He,O,Fs,Γ,E,?_⟩
 unfold ab at h
 cases e:fa Γ with
 | ok p Γ1=>
  rw [e] at h;intro v H1 G1 Fs1 A1;refine ⟨He,G1++O,Fs1,Γ1,A1.env,?_⟩
  have h:tV K W He O Fs H σ QL ((fl Γ1).bind fun ps Γ2=>.ok (p::ps) Γ2):=h
  cases e2:fl Γ1 with
  | ok ps Γ2=>
   rw [e2] at h;intro vs H2 Gs Fs2 A2;have pm:((G1::Gs).flatten++O).Perm (Gs.flatten++(G1++O)):=by
    rw [flatten_cons,append_assoc];exact jY _ _ _
   refine h (v::vs) H2 (G1::Gs) Fs2 ⟨A1.same.trans A2.same,by simp [A2.len1],by simp [A2.len2],A2.env.perm pm,fun a ha=>?_,fun i u q G h1 h2 h3=>?_⟩
   ·rcases List.mem_append.mp ha with z | z
    ·rw [flatten_cons] at z
     rcases List.mem_append.mp z with z | z
     ·exact A1.new a (mem_append_left _ z)
     ·exact (A2.new a (mem_append_left _ z)).elim (fun y=>A1.new a (mem_append_right _ y)) fun y=>.inr (A1.same.free y)
    ·exact (A2.new a (mem_append_right _ z)).elim (fun y=>A1.new a (mem_append_right _ y)) fun y=>.inr (A1.same.free y)
   ·have sub:∀a∈(G1::Gs).flatten++O++Fs2.flatten,a∈Gs.flatten++(G1++O)++Fs2.flatten:=fun a ha=>by
     rcases List.mem_append.mp ha with z | z
     ·exact mem_append_left _ (pm.mem_iff.mp z)
     ·exact mem_append_right _ z
    cases i with
    | zero=>
     simp at h1 h2 h3
     subst h1 h2 h3;refine (A1.own.mono A2.same fun a ha=>?_).perm sub
     rcases List.mem_append.mp ha with z | z
     ·rcases List.mem_append.mp z with z | z
      ·exact (A2.new a (mem_append_left _ z)).elim (fun y=>.inl (mem_append_right _ y)) .inr
      ·exact .inl (mem_append_left _ z)
     ·exact (A2.new a (mem_append_right _ z)).elim (fun y=>.inl (mem_append_right _ y)) .inr
    | succ i=>
     simp at h1 h2 h3
     exact (A2.own i u q G h1 h2 h3).perm sub
  | er c Γ2=>
   rw [e2] at h;exact fun H2 Fs2 s E2=>h H2 Fs2 (A1.same.trans s) E2.dropL
  | no=>rw [e2] at h;exact h
 | er c Γ1=>rw [e] at h;exact h
 | no=>rw [e] at h;exact h
theorem AftL.reps {He:Hp} {O:List Addr} {Fs Gs Fs':List (List Addr)} {Γ':Ev} {ps:List PV} {vs:List V} {H':Hp} (A:AftL K He O Fs H σ Γ' ps vs H' Gs Fs'):Reps K H' vs (ps.map (·.d)):=by
 refine ⟨by rw [length_map];exact A.len1,fun i v d h1 h2=>?_⟩
 rw [getElem?_map] at h2
 cases e:ps[i]? with
 | none=>rw [e] at h2;cases h2
 | some p=>
  rw [e] at h2
  cases h2;have hi:=(List.getElem?_eq_some_iff.mp e).1
  exact (A.own i v p (Gs[i]'(by rw [A.len2];exact hi)) h1 e (getElem?_eq_getElem _)).rep
def aY (g:List D->Option D) (fl:FL):F1:=fun Γ=>(fl Γ).bind fun ps Γ'=>match g (ps.map (·.d)) with
 | some d=>.ok ⟨.leaf,d⟩ Γ'
 | none=>.no
def GCall (K:Fg) (r:List V->Hp->VK->Prop) (g:List D->Option D):Prop:=∀vs H Q ds d,Reps K H vs ds->g ds=some d->(∀v,Sc v d->Q v H)->r vs H Q
theorem oI {r:List V->Hp->VK->Prop} {g:List D->Option D} (hg:GCall K r g) (h:tE K W (aY g fl) σ H Q):Bn r (tA K W fl) σ H Q:=by
 obtain ⟨He,O,Fs,Γ,E,h⟩:=h;refine ⟨He,O,Fs,Γ,E,?_⟩
 unfold aY at h
 cases e:fl Γ with
 | ok ps Γ'=>
  rw [e] at h;intro vs H' Gs Fs' A
  have h:Wants K W He O Fs H σ Q (match g (ps.map (·.d)) with | some d=>.ok ⟨.leaf,d⟩ Γ' | none=>.no):=h
  cases e2:g (ps.map (·.d)) with
  | none=>rw [e2] at h;exact h.elim
  | some d=>
   rw [e2] at h;exact hg vs H' Q _ d A.reps e2 fun v s=>Wants.scal h s A.same A.env (fun a ha=>mem_append_right _ ha) E.ndO fun a ha=>A.new a (mem_append_right _ ha)
 | er c Γ'=>rw [e] at h;exact h
 | no=>rw [e] at h;exact h
theorem GCall.or {r r':List V->Hp->VK->Prop} {g g':List D->Option D} (h:GCall K r g) (h':GCall K r' g'):GCall K (fun xs H Q=>r xs H Q\/r' xs H Q) (fun ds=>(g ds).or (g' ds)):=by
 intro vs H Q ds d rs e k;have e:(g ds).or (g' ds)=some d:=e
 cases e1:g ds with
 | some z=>rw [e1] at e;cases e;exact .inl (h vs H Q ds _ rs e1 k)
 | none=>rw [e1] at e;exact .inr (h' vs H Q ds d rs (by simpa using e) k)
theorem Reps.one {vs:List V} {d:D} (h:Reps K H vs [d]):∃v,vs=[v]/\Rep K H v d:=by
 obtain ⟨hl,h⟩:=h;match vs,hl with
 | [v],_=>exact ⟨v,rfl,h 0 v d rfl rfl⟩
theorem Reps.two {vs:List V} {d e:D} (h:Reps K H vs [d,e]):∃v u,vs=[v,u]/\Rep K H v d/\Rep K H u e:=by
 obtain ⟨hl,h⟩:=h;match vs,hl with
 | [v,u],_=>exact ⟨v,u,rfl,h 0 v d rfl rfl,h 1 u e rfl rfl⟩
end
def xy:List D->Option D
 | [.list xs]=>some (.int xs.length)
 | [.tuple xs]=>some (.int xs.length)
 | _=>none
def tu:List D->Option D
 | [.str x]=>if x.length<=sizeLine then some (.int x.length) else none
 | _=>none
abbrev aM:List D->Option D:=fun ds=>(xy ds).or (tu ds)
theorem zF {K:Fg}:GCall K (fun xs H Q=>(∃p ys,xs=[.ref p]/\(SqL K H p ys\/SqT K H p ys)/\Q (.int ys.length) H)\/∃z,xs=[.str z]/\z.length<=sizeLine/\Q (.int z.length) H) aM:=by
 refine GCall.or (g:=xy) (g':=tu) (r:=fun xs H Q=>∃p ys,xs=[.ref p]/\(SqL K H p ys\/SqT K H p ys)/\Q (.int ys.length) H) (r':=fun xs H Q=>∃z,xs=[.str z]/\z.length<=sizeLine/\Q (.int z.length) H) ?_ ?_
 ·intro vs H Q ds d rs e k
  match ds,e with
  | [.list xs],e=>
   obtain ⟨v,rfl,r⟩:=rs.one
   cases e
   cases r with
   | @lst p us _ hq hl _=>exact ⟨p,us,rfl,.inl hq,by rw [hl];exact k _ (.int _)⟩
  | [.tuple xs],e=>
   obtain ⟨v,rfl,r⟩:=rs.one
   cases e
   cases r with
   | @tup p us _ hq hl _=>exact ⟨p,us,rfl,.inr hq,by rw [hl];exact k _ (.int _)⟩
 ·intro vs H Q ds d rs e k
  match ds,e with
  | [.str x],e=>
   obtain ⟨v,rfl,r⟩:=rs.one;simp only [tu] at e
   split at e
   ·rename_i z
    cases e
    cases r;exact ⟨x,rfl,z,k _ (.int _)⟩
   ·cases e
def nM:List D->Option D
 | [.int i]=>some (.int i)
 | [.bool b]=>some (.int (if b then 1 else 0))
 | _=>none
theorem zG {K:Fg}:GCall K (fun xs H Q=>(∃i,xs=[.int i]/\Q (.int i) H)\/∃k,xs=[.bl k]/\Q (.int (if k then 1 else 0)) H) nM:=by
 intro vs H Q ds d rs e k;match ds,e with
 | [.int i],e=>
  obtain ⟨v,rfl,r⟩:=rs.one
  cases e;cases r;exact .inl ⟨i,rfl,k _ (.int _)⟩
 | [.bool b],e=>
  obtain ⟨v,rfl,r⟩:=rs.one
  cases e;cases r;exact .inr ⟨b,rfl,k _ (.int _)⟩
def Hz:List D->Option D
 | [.int i,.int j]=>some (.int (if j>i then j else i))
 | _=>none
def qZ:List D->Option (List Bool)
 | []=>some []
 | .bool b::r=>(qZ r).map (b :: ·)
 | _=>none
theorem iV:∀{ds:List D} {bs:List Bool},qZ ds=some bs->ds=bs.map PyData.bool
 | [],bs,h=>by cases h;rfl
 | .bool b::r,bs,h=>by
  simp only [qZ] at h
  cases e:qZ r with
  | none=>rw [e] at h;cases h
  | some cs=>rw [e] at h;cases h;rw [iV e];rfl
 | .none::_,_,h=>by cases h
 | .int _::_,_,h=>by cases h
 | .str _::_,_,h=>by cases h
 | .list _::_,_,h=>by cases h
 | .tuple _::_,_,h=>by cases h
 | .dict _::_,_,h=>by cases h
def cE (any:Bool):List D->Option D
 | [.list xs]=>(qZ xs).map fun bs=>.bool (if any then bs.any id else bs.all id)
 | _=>none
theorem iy {K:Fg} {H:Hp}:∀{vs:List V} {bs:List Bool},Reps K H vs (bs.map PyData.bool)->vs=bs.map V.bl
 | [],[],_=>rfl
 | v::vs,b::bs,⟨hl,h⟩=>by
  have r:=h 0 v (.bool b) rfl rfl
  cases r;rw [iy (bs:=bs) (vs:=vs) ⟨by simpa using hl,fun i v d h1 h2=>h (i+1) v d (by simpa using h1) (by simpa using h2)⟩]
  rfl
 | [],_::_,⟨hl,_⟩=>by simp at hl
 | _::_,[],⟨hl,_⟩=>by simp at hl
def yI (K:Fg) (any:Bool):List V->Hp->VK->Prop:=fun xs H Q=>∃(p:Addr) (bs:List Bool),xs=[.ref p]/\SqL K H p (bs.map V.bl)/\Q (.bl (if any then bs.any id else bs.all id)) H
theorem tq {K:Fg} {any:Bool}:GCall K (yI K any) (cE any):=by
 intro vs H Q ds d rs e k;match ds,e with
 | [.list xs],e=>
  obtain ⟨v,rfl,r⟩:=rs.one;simp only [cE] at e
  cases eb:qZ xs with
  | none=>rw [eb] at e;cases e
  | some bs=>
   rw [eb] at e
   cases e;have:=iV eb
   subst this
   cases r with
   | @lst p us _ hq hl hr=>
    have:=iy ⟨hl,hr⟩
    subst this;exact ⟨p,bs,rfl,hq,k _ (.bl _)⟩
section
variable {X:Cx}
theorem ke {bs:List Bool}:∀{its:List Value},Vals (bs.map V.bl) its->its=bs.map Value.bool:=by
 induction bs with
 | nil=>intro its h;cases h;rfl
 | cons b bs ih=>
  intro its h
  cases h with
  | cons r t=>
   cases (show _=Value.bool b from r)
   rw [ih t];rfl
theorem pR (bs:List Bool):(List.range bs.length).all (fun i=>bs.getD i false)=bs.all id:=by
 rw [Bool.eq_iff_iff,all_eq_true,all_eq_true];constructor
 ·intro h b hb
  obtain ⟨i,hi,e⟩:=List.mem_iff_getElem.mp hb;have:=h i (List.mem_range.mpr hi)
  rw [getD_eq_getElem?_getD,getElem?_eq_getElem hi] at this;rw [<-e];simpa using this
 ·intro h i hi
  have hi:=List.mem_range.mp hi
  rw [getD_eq_getElem?_getD,getElem?_eq_getElem hi];exact h _ (getElem_mem hi)
theorem pQ (bs:List Bool):(List.range bs.length).any (fun i=>bs.getD i false)=bs.any id:=by
 rw [Bool.eq_iff_iff,any_eq_true,any_eq_true];constructor
 ·rintro ⟨i,hi,h⟩
  have hi:=List.mem_range.mp hi
  rw [getD_eq_getElem?_getD,getElem?_eq_getElem hi] at h;exact ⟨_,getElem_mem hi,h⟩
 ·rintro ⟨b,hb,h⟩
  obtain ⟨i,hi,e⟩:=List.mem_iff_getElem.mp hb;refine ⟨i,List.mem_range.mpr hi,?_⟩
  rw [getD_eq_getElem?_getD,getElem?_eq_getElem hi,e];exact h
theorem gD {prog:Program} {w:World} {A:Around} {bs:List Bool}:TruthOf prog w A (fun i v=>(bs.map Value.bool).toArray[i]?=some v) (fun i=>bs.getD i false):=by
 intro i v s Q E hP hQ;simp only [List.getElem?_toArray,getElem?_map] at hP
 cases e:bs[i]? with
 | none=>rw [e] at hP;cases hP
 | some b=>
  rw [e] at hP
  cases hP;have hQ:Q (bs.getD i false) s:=hQ
  rw [getD_eq_getElem?_getD,e] at hQ;exact wpAny_truthy_bool hQ
theorem qL (hc:X.calm=true):CallR X (.builtin "all") (yI X.K false):=by
 intro pins s σ H vs us Q I rv h;obtain ⟨p,bs,rfl,hq,q⟩:=h;obtain ⟨u,rfl,ru⟩:=vals1 rv
 cases ru;obtain ⟨its,rv,pl,hz⟩:=I.list hq;have:=ke rv
 subst this;have hd:=I.ok.hd hc
 refine call_all_walk (wpAny_pyIter_list pl.isList ?_)
 have ne:p≠s.heap.objs.size:=by
  obtain ⟨o,n,e,_⟩:=pl;exact Nat.ne_of_lt (Heap.lt_size e)
 refine ⟨s.heap.objs.size,_,_,_,_,_,fun i=>bs.getD i false,rfl,Walks.list (prog:=X.prog) (w:=X.w) (A:=X.A.in1) hd s.heap.objs.size p ne (bs.map Value.bool).toArray,⟨⟨_,Heap.get?_push_size _ rfl,rfl,rfl⟩,pl.isList.at fun o e=>Heap.get?_push_of_some _ e⟩,gD,fun h' tk hk=>?_⟩
 refine ⟨.bl _,H,I.kept (h':=h') (t':=tk) fun b o e=>hk b o (fun z=>?_) (Heap.get?_push_of_some _ e),rfl,?_⟩
 ·have z:b=s.heap.objs.size:=by simpa using z
  exact absurd (Heap.lt_size e) (by rw [z];exact Nat.lt_irrefl _)
 ·rw [size_toArray,length_map,pR]
  exact q
theorem qK (hc:X.calm=true):CallR X (.builtin "any") (yI X.K true):=by
 intro pins s σ H vs us Q I rv h;obtain ⟨p,bs,rfl,hq,q⟩:=h;obtain ⟨u,rfl,ru⟩:=vals1 rv
 cases ru;obtain ⟨its,rv,pl,hz⟩:=I.list hq;have:=ke rv
 subst this;have hd:=I.ok.hd hc
 refine call_any_walk (wpAny_pyIter_list pl.isList ?_)
 have ne:p≠s.heap.objs.size:=by
  obtain ⟨o,n,e,_⟩:=pl;exact Nat.ne_of_lt (Heap.lt_size e)
 refine ⟨s.heap.objs.size,_,_,_,_,_,fun i=>bs.getD i false,rfl,Walks.list (prog:=X.prog) (w:=X.w) (A:=X.A.in1) hd s.heap.objs.size p ne (bs.map Value.bool).toArray,⟨⟨_,Heap.get?_push_size _ rfl,rfl,rfl⟩,pl.isList.at fun o e=>Heap.get?_push_of_some _ e⟩,gD,fun h' tk hk=>?_⟩
 refine ⟨.bl _,H,I.kept (h':=h') (t':=tk) fun b o e=>hk b o (fun z=>?_) (Heap.get?_push_of_some _ e),rfl,?_⟩
 ·have z:b=s.heap.objs.size:=by simpa using z
  exact absurd (Heap.lt_size e) (by rw [z];exact Nat.lt_irrefl _)
 ·rw [size_toArray,length_map,pQ]
  exact q
end
def m6 (s:Sh) (j:Nat) (d:D):Option Sh:=match s with
 | .leaf=>some .leaf
 | .view=>some (if bz d then .leaf else .view)
 | .lst s=>some s
 | .tup ss=>ss[j]?
def ah (fa fb:F1):F1:=bj fa fun p=>bj fb fun q=>fun Γ=>match q.d with
 | .int i=>(match p.d with
  | .list ds=>(match d6 ds.length i with
   | some j=>(match ds[j]? with
    | some d=>(match m6 p.s j d with
     | some s=>.ok ⟨s,d⟩ Γ
     | none=>.no)
    | none=>.no)
   | none=>.no)
  | .tuple ds=>(match d6 ds.length i with
   | some j=>(match ds[j]? with
    | some d=>(match m6 p.s j d with
     | some s=>.ok ⟨s,d⟩ Γ
     | none=>.no)
    | none=>.no)
   | none=>.no)
  | .str z=>if z.length<=sizeLine then (match eR z.cps.toList i with
   | some c=>.ok ⟨.leaf,.str ⟨#[c]⟩⟩ Γ
   | none=>.no) else .no
  | _=>.no)
 | _=>.no
theorem Own.item {K:Fg} {O:List Addr} {H:Hp} {s s':Sh} {G:List Addr} {p:Addr} {ds:List D} {j:Nat} {d:D} (h:Own K O H s G (.ref p) (.list ds)) (hd:ds[j]?=some d) (hs:m6 s j d=some s') :
  ∃vs v G',SqL K H p vs/\vs.length=ds.length/\vs[j]?=some v/\(∀a∈G',a∈G)/\G'.Nodup/\Own K O H s' G' v d:=by
 have hi:=(List.getElem?_eq_some_iff.mp hd).1
 cases h with
 | view r=>
  cases r with
  | @lst _ vs _ hq hl hr=>
   have hv:vs[j]?=some (vs[j]'(by omega)):=getElem?_eq_getElem _
   have r':=hr j _ d hv hd
   simp only [m6,Option.some.injEq] at hs
   cases e:bz d with
   | true=>
    rw [e] at hs
    cases hs;exact ⟨vs,_,[],hq,hl,hv,(fun _ z=>nomatch z),nodup_nil,.leaf (r'.sc e).rep⟩
   | false=>
    rw [e] at hs
    cases hs;exact ⟨vs,_,[],hq,hl,hv,(fun _ z=>nomatch z),nodup_nil,.view r'⟩
 | leaf r=>
  cases r with
  | @lst _ vs _ hq hl hr=>
   have hv:vs[j]?=some (vs[j]'(by omega)):=getElem?_eq_getElem _
   cases hs;exact ⟨vs,_,[],hid_le.seq hq,hl,hv,(fun _ z=>nomatch z),nodup_nil,.leaf (hr j _ d hv hd)⟩
 | @lst s₀ _ vs _ Fs hv hp hl hf nd hr=>
  have hv':vs[j]?=some (vs[j]'(by omega)):=getElem?_eq_getElem _
  have hF:Fs[j]?=some (Fs[j]'(by omega)):=getElem?_eq_getElem _
  cases hs;refine ⟨vs,_,_,.of hp,hl,hv',fun a ha=>mem_cons_of_mem _ (hV hF ha),?_,hr j _ d _ hv' hd hF⟩
  exact ((List.nodup_cons.mp nd).2).sublist (List.sublist_flatten_of_mem (mem_of_getElem? hF))
theorem Own.itemT {K:Fg} {O:List Addr} {H:Hp} {s s':Sh} {G:List Addr} {p:Addr} {ds:List D} {j:Nat} {d:D} (h:Own K O H s G (.ref p) (.tuple ds)) (hd:ds[j]?=some d) (hs:m6 s j d=some s') :
  ∃vs v G',SqT K H p vs/\vs.length=ds.length/\vs[j]?=some v/\(∀a∈G',a∈G)/\G'.Nodup/\Own K O H s' G' v d:=by
 have hi:=(List.getElem?_eq_some_iff.mp hd).1
 cases h with
 | view r=>
  cases r with
  | @tup _ vs _ hq hl hr=>
   have hv:vs[j]?=some (vs[j]'(by omega)):=getElem?_eq_getElem _
   have r':=hr j _ d hv hd
   simp only [m6,Option.some.injEq] at hs
   cases e:bz d with
   | true=>
    rw [e] at hs
    cases hs;exact ⟨vs,_,[],hq,hl,hv,(fun _ z=>nomatch z),nodup_nil,.leaf (r'.sc e).rep⟩
   | false=>
    rw [e] at hs
    cases hs;exact ⟨vs,_,[],hq,hl,hv,(fun _ z=>nomatch z),nodup_nil,.view r'⟩
 | leaf r=>
  cases r with
  | @tup _ vs _ hq hl hr=>
   have hv:vs[j]?=some (vs[j]'(by omega)):=getElem?_eq_getElem _
   cases hs;exact ⟨vs,_,[],pb hid_le hq,hl,hv,(fun _ z=>nomatch z),nodup_nil,.leaf (hr j _ d hv hd)⟩
 | @tup ss _ vs _ Fs hv hp hn hl hf hl2 nd hr=>
  have hv':vs[j]?=some (vs[j]'(by omega)):=getElem?_eq_getElem _
  have hF:Fs[j]?=some (Fs[j]'(by omega)):=getElem?_eq_getElem _
  have hs:ss[j]?=some s':=hs
  refine ⟨vs,_,_,.of hp,hl,hv',fun a ha=>hV hF ha,?_,hr j _ d _ _ hv' hd hF hs⟩
  exact nd.sublist (List.sublist_flatten_of_mem (mem_of_getElem? hF))
theorem Wants.part {K:Fg} {W:XW} {σ:St} {He H H2:Hp} {O G G':List Addr} {Fs Fs2:List (List Addr)} {Γ':Ev} {Q:VK} {s:Sh} {v:V} {d:D} (h:Wants K W He O Fs H σ Q (.ok ⟨s,d⟩ Γ')) (e:Same H H2)
  (E:EnvOk K He (G++O) Fs2 H2 σ Γ') (sub:∀a∈G',a∈G) (nd:G'.Nodup) (new:∀a∈G++Fs2.flatten,a∈Fs.flatten\/H a=none) (o:Own K (G++O++Fs2.flatten) H2 s G' v d):Q v H2:=by
 have sub2:∀a∈G'++O,a∈G++O:=fun a ha=>by
  rcases List.mem_append.mp ha with z | z
  ·exact mem_append_left _ (sub a z)
  ·exact mem_append_right _ z
 obtain ⟨n1,n2,n3⟩:=List.nodup_append.mp E.ndO;refine h v H2 G' Fs2 ⟨e,E.drop sub2 (List.nodup_append.mpr ⟨nd,n2,fun a ha b hb=>n3 a (sub a ha) b hb⟩),fun a ha=>new a ?_,o.perm fun a ha=>?_⟩
 ·rcases List.mem_append.mp ha with z | z
  ·exact mem_append_left _ (sub a z)
  ·exact mem_append_right _ z
 ·rcases List.mem_append.mp ha with z | z
  ·exact mem_append_left _ (sub2 a z)
  ·exact mem_append_right _ z
theorem tQ {α β:Type} {xs:List α} {ys:List β} {i:Int} {j:Nat} {v:α} (hl:xs.length=ys.length) (h:d6 ys.length i=some j) (hv:xs[j]?=some v):eR xs i=some v:=by
 unfold eR;rw [hl,h];exact hv
section
variable {K:Fg} {W:XW} {σ:St} {H:Hp} {Q:VK} {fa fb:F1}
theorem yy (h:tE K W (ah fa fb) σ H Q):lu (m8 K) (tE K W fa) (tE K W fb) σ H Q:=by
 refine DJ h ?_
 intro He O Fs Γ2 p q v u H1 H2 G1 G2 Fs2 nd s1 s2 E new o1 o2 w;obtain ⟨ps,pd⟩:=p;obtain ⟨qs,qd⟩:=q;have ri:=o2.rep
 cases qd<;>try exact w.elim
 rename_i i
 cases ri;have E':EnvOk K He ((G2++G1)++O) Fs2 H2 σ Γ2:=by rw [append_assoc];exact E
 have new':∀a∈(G2++G1)++Fs2.flatten,a∈Fs.flatten\/H a=none:=fun a ha=>new a (by rw [<-append_assoc];exact ha)
 have o1':Own K ((G2++G1)++O++Fs2.flatten) H2 ps G1 v pd:=o1.perm fun a ha=>by rw [append_assoc G2] at ha;exact ha
 have rp:=o1.rep
 cases pd with
 | list ds=>
  obtain ⟨p0,rfl⟩:∃p0,v=.ref p0:=by cases rp;exact ⟨_,rfl⟩
  have w:Wants K W He O Fs H σ Q (match d6 ds.length i with | some j=>(match ds[j]? with | some d=>(match m6 ps j d with | some s=>.ok ⟨s,d⟩ Γ2 | none=>.no) | none=>.no) | none=>.no):=w
  cases e1:d6 ds.length i with
  | none=>rw [e1] at w;exact w.elim
  | some j=>
   rw [e1] at w;have w:Wants K W He O Fs H σ Q (match ds[j]? with | some d=>(match m6 ps j d with | some s=>.ok ⟨s,d⟩ Γ2 | none=>.no) | none=>.no):=w
   cases e2:ds[j]? with
   | none=>rw [e2] at w;exact w.elim
   | some d=>
    rw [e2] at w;have w:Wants K W He O Fs H σ Q (match m6 ps j d with | some s=>.ok ⟨s,d⟩ Γ2 | none=>.no):=w
    cases e3:m6 ps j d with
    | none=>rw [e3] at w;exact w.elim
    | some s=>
     rw [e3] at w;obtain ⟨vs,v',G',h1,h2,h3,h4,h5,h6⟩:=o1'.item e2 e3
     exact .inl ⟨p0,vs,i,v',rfl,rfl,h1,tQ h2 e1 h3,Wants.part w (s1.trans s2) E' (fun a ha=>mem_append_right _ (h4 a ha)) h5 new' h6⟩
 | tuple ds=>
  obtain ⟨p0,rfl⟩:∃p0,v=.ref p0:=by cases rp;exact ⟨_,rfl⟩
  have w:Wants K W He O Fs H σ Q (match d6 ds.length i with | some j=>(match ds[j]? with | some d=>(match m6 ps j d with | some s=>.ok ⟨s,d⟩ Γ2 | none=>.no) | none=>.no) | none=>.no):=w
  cases e1:d6 ds.length i with
  | none=>rw [e1] at w;exact w.elim
  | some j=>
   rw [e1] at w;have w:Wants K W He O Fs H σ Q (match ds[j]? with | some d=>(match m6 ps j d with | some s=>.ok ⟨s,d⟩ Γ2 | none=>.no) | none=>.no):=w
   cases e2:ds[j]? with
   | none=>rw [e2] at w;exact w.elim
   | some d=>
    rw [e2] at w;have w:Wants K W He O Fs H σ Q (match m6 ps j d with | some s=>.ok ⟨s,d⟩ Γ2 | none=>.no):=w
    cases e3:m6 ps j d with
    | none=>rw [e3] at w;exact w.elim
    | some s=>
     rw [e3] at w;obtain ⟨vs,v',G',h1,h2,h3,h4,h5,h6⟩:=o1'.itemT e2 e3
     exact .inr (.inl ⟨p0,vs,i,v',rfl,rfl,h1,tQ h2 e1 h3,Wants.part w (s1.trans s2) E' (fun a ha=>mem_append_right _ (h4 a ha)) h5 new' h6⟩)
 | str z=>
  cases rp;have w:Wants K W He O Fs H σ Q (if z.length<=sizeLine then (match eR z.cps.toList i with | some c=>.ok ⟨.leaf,.str ⟨#[c]⟩⟩ Γ2 | none=>.no) else .no):=w
  by_cases hz:z.length<=sizeLine
  ·rw [if_pos hz] at w
   cases e1:eR z.cps.toList i with
   | none=>rw [e1] at w;exact w.elim
   | some c=>
    rw [e1] at w;exact .inr (.inr ⟨z,i,c,rfl,rfl,hz,e1,Wants.scal w (.str _) (s1.trans s2) E (fun a ha=>mem_append_right _ (mem_append_right _ ha)) nd fun a ha=>new a (mem_append_right _ (mem_append_right _ ha))⟩)
  ·rw [if_neg hz] at w
   exact w.elim
 | none=>exact w.elim
 | bool b=>exact w.elim
 | int k=>exact w.elim
 | dict k=>exact w.elim
end
theorem mC (s:Sh):∀Gs:List (List Addr),((Gs.map (bb s)).flatten).Sublist Gs.flatten
 | []=>List.Sublist.refl _
 | G::Gs=>by
  simp only [map_cons,flatten_cons]
  refine List.Sublist.append ?_ (mC s Gs)
  unfold bb;split
  ·exact List.nil_sublist _
  ·exact List.Sublist.refl _
theorem j6:∀Gs:List (List Addr),(Gs.map (bb .leaf)).flatten=[]
 | []=>rfl
 | _::Gs=>by simp only [map_cons,flatten_cons,j6 Gs];rfl
section
variable {K:Fg} {W:XW} {σ:St} {He H H':Hp} {O:List Addr} {Fs Fs' Gs:List (List Addr)} {Γ':Ev} {ps:List PV} {vs:List V} {Q:VK}
theorem AftL.newList {s:Sh} {p:Addr} (A:AftL K He O Fs H σ Γ' ps vs H' Gs Fs') (hs:s.isView=false) (hc:ps.all (T.coer s)=true) (hp:H' p=none) :
  Aft K He O Fs H σ Γ' ⟨.lst s,.list (ps.map (·.d))⟩ (.ref p) (cF H' p (.lst vs)) (p::(Gs.map (bb s)).flatten) Fs':=by
 obtain ⟨n1,n2,n3⟩:=List.nodup_append.mp A.env.ndO;obtain ⟨m1,m2,m3⟩:=List.nodup_append.mp A.env.nd;have hsub:=mC s Gs
 have E1:EnvOk K He ((Gs.map (bb s)).flatten++O) Fs' H' σ Γ':=A.env.drop (fun a ha=>by
   rcases List.mem_append.mp ha with z | z
   ·exact mem_append_left _ (hsub.subset z)
   ·exact mem_append_right _ z) (List.nodup_append.mpr ⟨n1.sublist hsub,n2,fun a ha b hb=>n3 a (hsub.subset ha) b hb⟩)
 have E2:=E1.hide (G:=[p]) (m7 (o:=.lst vs) hp) (by simp) (fun a ha=>by simp at ha;rw [ha];exact hp) (fun a ha=>by simp at ha;rw [ha,iY];exact Option.some_ne_none _)
 have pn:∀{a},a∈Gs.flatten++O++Fs'.flatten->a≠p:=fun {a} ha z=>A.env.inH a ha (by rw [z];exact hp)
 refine ⟨A.same.trans (m7 hp),E2,fun a ha=>?_,?_⟩
 ·rcases List.mem_append.mp ha with z | z
  ·rcases List.mem_cons.mp z with z | z
   ·rw [z];exact .inr (A.same.free hp)
   ·exact A.new a (mem_append_left _ (hsub.subset z))
  ·exact A.new a (mem_append_right _ z)
 ·refine .lst hs iY (by rw [length_map];exact A.len1) (by rw [length_map,length_map];exact A.len2) ?_ fun i v d F h1 h2 h3=>?_
  ·refine List.nodup_cons.mpr ⟨fun z=>pn (mem_append_left _ (mem_append_left _ (hsub.subset z))) rfl,n1.sublist hsub⟩
  ·rw [getElem?_map] at h2 h3
   cases e2:ps[i]? with
   | none=>rw [e2] at h2;cases h2
   | some q=>
    cases e3:Gs[i]? with
    | none=>rw [e3] at h3;cases h3
    | some G=>
     rw [e2] at h2;rw [e3] at h3
     cases h2
     cases h3;have cq:T.coer s q=true:=List.all_eq_true.mp hc q (mem_of_getElem? e2)
     have o1:=(A.own i v q G h1 e2 e3).mono (O':=p::(Gs.flatten++O++Fs'.flatten)) (m7 (o:=.lst vs) hp) fun a ha=>by
      rcases List.mem_cons.mp ha with z | z
      ·rw [z];exact .inr hp
      ·exact .inl z
     refine o1.coer cq (fun a ha=>?_) fun a ha hO=>?_
     ·rw [append_assoc] at ha
      rcases List.mem_append.mp ha with z | z
      ·rcases List.mem_cons.mp z with z | z
       ·rw [z];exact mem_cons_self
       ·exact mem_cons_of_mem _ (mem_append_left _ (mem_append_left _ (hsub.subset z)))
      ·rcases List.mem_append.mp z with z | z
       ·exact mem_cons_of_mem _ (mem_append_left _ (mem_append_right _ z))
       ·exact mem_cons_of_mem _ (mem_append_right _ z)
     ·have hG:a∈Gs.flatten:=hV e3 ha
      cases s with
      | leaf=>
       rw [j6] at hO;exfalso
       rw [append_assoc] at hO;rcases List.mem_append.mp hO with z | z
       ·have z:a=p:=by simpa using z
        exact pn (mem_append_left _ (mem_append_left _ hG)) z
       ·rcases List.mem_append.mp z with z | z
        ·exact n3 a hG a z rfl
        ·exact m3 a (mem_append_left _ hG) a z rfl
      | view=>cases hs
      | lst s=>exact ha
      | tup ss=>exact ha
def aP (s:Sh) (fl:FL):F1:=fun Γ=>(fl Γ).bind fun ps Γ'=>if !s.isView&&ps.all (T.coer s)&&decide (ps.length<=sizeLine) then .ok ⟨.lst s,.list (ps.map (·.d))⟩ Γ' else .no
theorem uR {s:Sh} {fl:FL} (h:tE K W (aP s fl) σ H Q):Bl (tA K W fl) σ H Q:=by
 obtain ⟨He,O,Fs,Γ,E,h⟩:=h;refine ⟨He,O,Fs,Γ,E,?_⟩
 unfold aP at h
 cases e:fl Γ with
 | ok ps Γ'=>
  rw [e] at h;intro vs H' Gs Fs' A
  have h:Wants K W He O Fs H σ Q (if (!s.isView&&ps.all (T.coer s)&&decide (ps.length<=sizeLine))=true then .ok ⟨.lst s,.list (ps.map (·.d))⟩ Γ' else .no):=h
  by_cases hc:(!s.isView&&ps.all (T.coer s)&&decide (ps.length<=sizeLine))=true
  ·rw [if_pos hc] at h
   simp only [Bool.and_eq_true,decide_eq_true_eq,Bool.not_eq_true'] at hc
   exact ⟨by rw [A.len1];exact hc.2,fun p hp=>h _ _ _ _ (A.newList hc.1.1 hc.1.2 hp)⟩
  ·rw [if_neg hc] at h
   exact h.elim
 | er c Γ'=>rw [e] at h;exact h
 | no=>rw [e] at h;exact h
def wX (p:PV):Sh:=if p.s.isView then .leaf else p.s
def tok (p:PV):Bool:=!p.s.isView||bz p.d
theorem AftL.newTup {p:Addr} (A:AftL K He O Fs H σ Γ' ps vs H' Gs Fs') (hc:ps.all tok=true) (hp:H' p=none) :
  Aft K He O Fs H σ Γ' ⟨.tup (ps.map wX),.tuple (ps.map (·.d))⟩ (.ref p) (cF H' p (.tup vs)) Gs.flatten Fs':=by
 obtain ⟨n1,n2,n3⟩:=List.nodup_append.mp A.env.ndO;have pn:p∉Gs.flatten++O++Fs'.flatten:=fun ha=>A.env.inH p ha hp
 refine ⟨A.same.trans (m7 hp),A.env.grow (m7 hp),A.new,?_⟩
 refine .tup (fun s hs=>?_) iY pn (by rw [length_map];exact A.len1) (by rw [length_map];exact A.len2) (by rw [length_map,length_map]) n1 fun i v d F s h1 h2 h3 h4=>?_
 ·obtain ⟨q,_,rfl⟩:=List.mem_map.mp hs
  unfold wX;split
  ·rfl
  ·rename_i z;simpa using z
 ·rw [getElem?_map] at h2 h4
  cases e2:ps[i]? with
  | none=>rw [e2] at h2;cases h2
  | some q=>
   rw [e2] at h2 h4
   cases h2
   cases h4;have cq:tok q=true:=List.all_eq_true.mp hc q (mem_of_getElem? e2)
   have o1:=(A.own i v q F h1 e2 h3).mono (O':=Gs.flatten++O++Fs'.flatten) (m7 (o:=.tup vs) hp) fun a ha=>.inl ha
   unfold wX
   cases hv:q.s.isView with
   | false=>exact o1
   | true=>
    unfold tok at cq;rw [hv] at cq;obtain ⟨s,d⟩:=q
    cases s with
    | view=>
     cases o1 with
     | view r=>exact .leaf (r.sc (by simpa using cq)).rep
    | _=>cases hv
def bF (fl:FL):F1:=fun Γ=>(fl Γ).bind fun ps Γ'=>if ps.all tok&&decide (ps.length<=sizeLine) then .ok ⟨.tup (ps.map wX),.tuple (ps.map (·.d))⟩ Γ' else .no
theorem yq {fl:FL} (h:tE K W (bF fl) σ H Q):Bg (tA K W fl) σ H Q:=by
 obtain ⟨He,O,Fs,Γ,E,h⟩:=h;refine ⟨He,O,Fs,Γ,E,?_⟩
 unfold bF at h
 cases e:fl Γ with
 | ok ps Γ'=>
  rw [e] at h;intro vs H' Gs Fs' A
  have h:Wants K W He O Fs H σ Q (if (ps.all tok&&decide (ps.length<=sizeLine))=true then .ok ⟨.tup (ps.map wX),.tuple (ps.map (·.d))⟩ Γ' else .no):=h
  by_cases hc:(ps.all tok&&decide (ps.length<=sizeLine))=true
  ·rw [if_pos hc] at h
   simp only [Bool.and_eq_true,decide_eq_true_eq] at hc
   exact ⟨by rw [A.len1];exact hc.2,fun p hp=>h _ _ _ _ (A.newTup hc.1 hp)⟩
  ·rw [if_neg hc] at h
   exact h.elim
 | er c Γ'=>rw [e] at h;exact h
 | no=>rw [e] at h;exact h
end
def fx (p:PV) (ds:List D):Bool:=!p.s.isView||ds.all bz
theorem Own.items {K:Fg} {O O':List Addr} {H:Hp} {s:Sh} {G:List Addr} {v:V} {ds:List D} (h:Own K O H s G v (.list ds)) (hc:fx ⟨s,.list ds⟩ ds=true) (h1:∀a∈O',a∈O) (h2:∀a∈G,a∉O') :
  ∃p vs,v=.ref p/\SqL K H p vs/\(s.isView=false->SqL K (cQ H O') p vs)/\Reps K (cQ H O') vs ds:=by
 have hr:=h.rep
 cases hv:s.isView with
 | false=>
  have r:=h.freeze hv h1 h2
  cases r with
  | @lst p vs _ hq hl hr=>exact ⟨p,vs,rfl,hid_le.seq hq,fun _=>hq,hl,hr⟩
 | true=>
  unfold fx at hc;have hc:ds.all bz=true:=by simpa [hv] using hc
  cases hr with
  | @lst p vs _ hq hl hr=>exact ⟨p,vs,rfl,hq,nofun,hl,fun i v d e1 e2=>((hr i v d e1 e2).sc (List.all_eq_true.mp hc d (mem_of_getElem? e2))).rep⟩
theorem Own.itemsT {K:Fg} {O O':List Addr} {H:Hp} {s:Sh} {G:List Addr} {v:V} {ds:List D} (h:Own K O H s G v (.tuple ds)) (hc:fx ⟨s,.tuple ds⟩ ds=true) (h1:∀a∈O',a∈O) (h2:∀a∈G,a∉O') :
  ∃p vs,v=.ref p/\SqT K H p vs/\(s.isView=false->SqT K (cQ H O') p vs)/\Reps K (cQ H O') vs ds:=by
 have hr:=h.rep
 cases hv:s.isView with
 | false=>
  have r:=h.freeze hv h1 h2
  cases r with
  | @tup p vs _ hq hl hr=>exact ⟨p,vs,rfl,pb hid_le hq,fun _=>hq,hl,hr⟩
 | true=>
  unfold fx at hc;have hc:ds.all bz=true:=by simpa [hv] using hc
  cases hr with
  | @tup p vs _ hq hl hr=>exact ⟨p,vs,rfl,hq,nofun,hl,fun i v d e1 e2=>((hr i v d e1 e2).sc (List.all_eq_true.mp hc d (mem_of_getElem? e2))).rep⟩
theorem mB {K:Fg} {σ:St} {He H H1:Hp} {O:List Addr} {Fs Fs1:List (List Addr)} {Γ1:Ev} {vs:List V} {ds:List D} {p:Addr} (E:EnvOk K He O Fs1 H1 σ Γ1) (s:Same H H1) (n:∀a∈Fs1.flatten,a∈Fs.flatten\/H a=none)
  (hr:Reps K (cQ H1 (O++Fs1.flatten)) vs ds) (hp:H1 p=none):Aft K He O Fs H σ Γ1 ⟨.lst .leaf,.list ds⟩ (.ref p) (cF H1 p (.lst vs)) [p] Fs1:=by
 have E2:=E.hide (G:=[p]) (m7 (o:=.lst vs) hp) (by simp) (fun a ha=>by simp at ha;rw [ha];exact hp) (fun a ha=>by simp at ha;rw [ha,iY];exact Option.some_ne_none _)
 refine ⟨s.trans (m7 hp),E2,fun a ha=>?_,?_⟩
 ·rcases List.mem_append.mp ha with z | z
  ·have z:a=p:=by simpa using z
   rw [z];exact .inr (s.free hp)
  ·exact n a z
 ·have fl:(List.replicate ds.length ([]:List Addr)).flatten=[]:=by simp
  have:[p]=p::(List.replicate ds.length ([]:List Addr)).flatten:=by rw [fl]
  rw [this];refine .lst rfl iY hr.1 (by simp) (by rw [fl];simp) fun i v d F h1 h2 h3=>?_
  rw [getElem?_replicate] at h3;split at h3
  ·cases h3
   refine .leaf ((hr.2 i v d h1 h2).mono (wH (m7 hp) fun a ha=>?_))
   rw [fl] at ha;rcases List.mem_append.mp ha with z | z
   ·rcases List.mem_append.mp z with z | z
    ·have z:a=p:=by simpa using z
     rw [z];exact .inr hp
    ·exact .inl (mem_append_left _ z)
   ·exact .inl (mem_append_right _ z)
  ·cases h3
def ia (fa:F1):F1:=bj fa fun p Γ=>match p.d with
 | .list ds=>if fx p ds then .ok ⟨.lst .leaf,.list ds⟩ Γ else .no
 | .tuple ds=>if fx p ds then .ok ⟨.lst .leaf,.list ds⟩ Γ else .no
 | _=>.no
section
variable {K:Fg} {W:XW} {σ:St} {H:Hp} {Q:VK} {fa fb:F1}
theorem Aft.disj {He H1:Hp} {O G:List Addr} {Fs Fs1:List (List Addr)} {Γ1:Ev} {p:PV} {v:V} (A:Aft K He O Fs H σ Γ1 p v H1 G Fs1):∀a∈G,a∉O++Fs1.flatten:=fun a ha z=>by
 have nd:=A.env.nd
 rw [append_assoc] at nd;exact (List.nodup_append.mp nd).2.2 a ha a z rfl
theorem lK {G O F:List Addr}:∀a∈O++F,a∈G++O++F:=fun a ha=>by
 rw [append_assoc];exact mem_append_right _ ha
theorem pN (h:tE K W (ia fa) σ H Q):Bn (fun xs H Q=>∃p ys,xs=[.ref p]/\(SqL K H p ys\/SqT K H p ys)/\∀l,H l=none->Q (.ref l) (cF H l (.lst ys))) (tA K W (ab fa af)) σ H Q:=by
 have h1:tE K W fa σ H fun x H1=>∃p ys,x=.ref p/\(SqL K H1 p ys\/SqT K H1 p ys)/\∀l,H1 l=none->Q (.ref l) (cF H1 l (.lst ys)):=by
  refine Am h fun He O Fs Γ1 p v H1 G Fs1 nd A w=>?_
  obtain ⟨s,d⟩:=p
  cases d with
  | list ds=>
   have w:Wants K W He O Fs H σ Q (if fx ⟨s,.list ds⟩ ds then .ok ⟨.lst .leaf,.list ds⟩ Γ1 else .no):=w
   cases hc:fx ⟨s,.list ds⟩ ds with
   | false=>rw [hc] at w;exact w.elim
   | true=>
    rw [hc] at w;obtain ⟨p,vs,rfl,hq,_,hr⟩:=A.own.items (O':=O++Fs1.flatten) hc lK A.disj
    exact ⟨p,vs,rfl,.inl hq,fun l hl=>w _ _ _ _ (mB A.go A.same A.newF hr hl)⟩
  | tuple ds=>
   have w:Wants K W He O Fs H σ Q (if fx ⟨s,.tuple ds⟩ ds then .ok ⟨.lst .leaf,.list ds⟩ Γ1 else .no):=w
   cases hc:fx ⟨s,.tuple ds⟩ ds with
   | false=>rw [hc] at w;exact w.elim
   | true=>
    rw [hc] at w;obtain ⟨p,vs,rfl,hq,_,hr⟩:=A.own.itemsT (O':=O++Fs1.flatten) hc lK A.disj
    exact ⟨p,vs,rfl,.inr hq,fun l hl=>w _ _ _ _ (mB A.go A.same A.newF hr hl)⟩
  | _=>exact w.elim
 obtain ⟨He,O,Fs,Γ,E,h1⟩:=h1;refine ⟨He,O,Fs,Γ,E,?_⟩
 unfold ab af
 cases e:fa Γ with
 | ok p Γ'=>
  rw [e] at h1;intro vs H' Gs Fs' A
  match vs,Gs,A.len1,A.len2 with
  | [v],[G],_,_=>
   have A':Aft K He O Fs H σ Γ' p v H' G Fs':=⟨A.same,by simpa using A.env,by simpa using A.new,by simpa using A.own 0 v p G rfl rfl rfl⟩
   obtain ⟨q,ys,rfl,h2,h3⟩:=h1 v H' G Fs' A'
   exact ⟨q,ys,rfl,h2,h3⟩
 | er c Γ'=>rw [e] at h1;exact h1
 | no=>rw [e] at h1;exact h1
end
structure wm (J:It) (P:Hp->Prop) (vs:List V):Prop where
 go:∀(i:Nat) H v,P H->vs[i]?=some v->J.go i H/\∀x H',J.yld i H x H'->H'=H/\x=v
 stop:∀H,P H->J.stop vs.length H
theorem vy {K:Fg} {a:Addr} {vs:List V}:wm (Dt K a) (fun H=>SqL K H a vs) vs:=
 ⟨fun i H v hp hv=>⟨⟨vs,v,hp,hv⟩,fun x H' ⟨e,q⟩=>⟨e,Option.some.inj ((q vs hp).symm.trans hv)⟩⟩,fun H hp=>⟨vs,hp,Nat.le_refl _⟩⟩
def eY (lo:Int) (n:Nat):List V:=(List.range n).map fun i=>.int (lo+(i:Nat))
def cI (lo:Int) (n:Nat):List D:=(List.range n).map fun i=>.int (lo+(i:Nat))
theorem sV {lo:Int} {n:Nat}:wm (Ag lo n) (fun _=>True) (eY lo n):=by
 refine ⟨fun i H v _ hv=>?_,fun H _=>?_⟩
 ·unfold eY at hv
  rw [getElem?_map] at hv
  cases e:(List.range n)[i]? with
  | none=>rw [e] at hv;cases hv
  | some k=>
   rw [e] at hv;obtain ⟨h1,h2⟩:=List.getElem?_eq_some_iff.mp e
   simp at h1 h2
   subst h2
   cases hv;exact ⟨h1,fun x H' ⟨q1,q2⟩=>⟨q1,q2⟩⟩
 ·show n<=(eY lo n).length
  simp [eY]
theorem DY {K:Fg} {H:Hp} {lo:Int} {n:Nat}:Reps K H (eY lo n) (cI lo n):=by
 refine ⟨by simp [eY,cI],fun i v d h1 h2=>?_⟩
 unfold eY at h1;unfold cI at h2;rw [getElem?_map] at h1 h2
 cases e:(List.range n)[i]? with
 | none=>rw [e] at h1;cases h1
 | some k=>
  rw [e] at h1 h2
  cases h1
  cases h2;exact .int _
structure Gk where
 ds:List D
 st:Bool
abbrev FI:=Ev->Out Gk
def Cw (K:Fg) (W:XW) (He:Hp) (O:List Addr) (Fs:List (List Addr)) (H:Hp) (σ:St) (R:It->Hp->Prop) (o:Out Gk):Prop:=match o with
 | .ok t Γ'=>∀J H' Fs' vs P,Same H H'->EnvOk K He O Fs' H' σ Γ'->(∀a∈Fs'.flatten,a∈Fs.flatten\/H a=none)->wm J P vs->P H'->(∀H2,Same H' H2->P H2)->(t.st=true->∀H2,Same (cQ H' Fs'.flatten) H2->P H2) ->
   Reps K (cQ H' (O++Fs'.flatten)) vs t.ds->R J H'
 | .er c Γ'=>∀H' Fs',Same H H'->EnvOk K He O Fs' H' σ Γ'->W c σ H'
 | .no=>False
def tI (K:Fg) (W:XW) (f:FI):TI:=fun σ H R=>∃He O Fs Γ,EnvOk K He O Fs H σ Γ/\Cw K W He O Fs H σ R (f Γ)
theorem pe {X:Cx} {tg iter:Expr} {t t':TI} (h:PI X tg iter t) (i:∀σ H R,t' σ H R->t σ H R):PI X tg iter t':=fun pins s σ H R I q=>h pins s σ H R I (i σ H R q)
def aK (fa:F1):FI:=fun Γ=>(fa Γ).bind fun p Γ'=>match p.d with
 | .list ds=>if fx p ds then .ok ⟨ds,!p.s.isView⟩ Γ' else .no
 | _=>.no
def xt (fa:F1):FI:=fun Γ=>(fa Γ).bind fun p Γ'=>match p.d with
 | .tuple ds=>if fx p ds then .ok ⟨ds,!p.s.isView⟩ Γ' else .no
 | _=>.no
section
variable {K:Fg} {W:XW} {σ:St} {H:Hp} {R:It->Hp->Prop} {fa fb:F1}
theorem sub_hid {H:Hp} {O F:List Addr}:Same (cQ H (O++F)) (cQ H F):=wH (Same.refl _) fun a ha=>.inl (mem_append_right _ ha)
theorem uV (h:tI K W (aK fa) σ H R):xw K (tE K W fa) σ H R:=by
 obtain ⟨He,O,Fs,Γ,E,h⟩:=h;refine ⟨He,O,Fs,Γ,E,?_⟩
 unfold aK at h
 cases e:fa Γ with
 | ok p Γ1=>
  rw [e] at h;intro v H1 G Fs1 A;obtain ⟨s,d⟩:=p
  cases d with
  | list ds=>
   have h:Cw K W He O Fs H σ R (if fx ⟨s,.list ds⟩ ds then .ok ⟨ds,!s.isView⟩ Γ1 else .no):=h
   cases hc:fx ⟨s,.list ds⟩ ds with
   | false=>rw [hc] at h;exact h.elim
   | true=>
    rw [hc] at h;obtain ⟨p,vs,rfl,hq,hst,hr⟩:=A.own.items (O':=O++Fs1.flatten) hc lK A.disj
    exact ⟨p,rfl,⟨vs,hq⟩,h (Dt K p) H1 Fs1 vs (fun H=>SqL K H p vs) A.same A.go A.newF vy hq (fun H2 s2=>s2.seq hq) (fun ht H2 s2=>s2.seq (sub_hid.seq (hst (by simpa using ht)))) hr⟩
  | _=>exact h.elim
 | er c Γ'=>rw [e] at h;exact h
 | no=>rw [e] at h;exact h
def dt (j:Int):Bool:=decide (-(2 ^ 62)<=j)&&decide (j<2 ^ 62)
def jf:List D->Option Int
 | [.int j]=>if dt j then some j else none
 | _=>none
def pK:List D->Option (Int×Int)
 | [.int i,.int j]=>if dt i&&dt j then some (i,j) else none
 | _=>none
theorem oE {ds:List D} {j:Int} (h:jf ds=some j):ds=[.int j]/\-(2 ^ 62)<=j/\j<2 ^ 62:=by
 unfold jf at h;split at h
 ·split at h
  ·rename_i hc
   cases h;simp only [dt,Bool.and_eq_true,decide_eq_true_eq] at hc
   exact ⟨rfl,hc.1,hc.2⟩
  ·cases h
 ·cases h
theorem uG {ds:List D} {i j:Int} (h:pK ds=some (i,j)):ds=[.int i,.int j]/\(-(2 ^ 62)<=i/\i<2 ^ 62/\-(2 ^ 62)<=j/\j<2 ^ 62):=by
 unfold pK at h;split at h
 ·split at h
  ·rename_i hc
   cases h;simp only [dt,Bool.and_eq_true,decide_eq_true_eq] at hc
   exact ⟨rfl,hc.1.1,hc.1.2,hc.2.1,hc.2.2⟩
  ·cases h
 ·cases h
def cx (fl:FL):FI:=fun Γ=>(fl Γ).bind fun ps Γ'=>match jf (ps.map (·.d)) with
 | some j=>.ok ⟨cI 0 j.toNat,true⟩ Γ'
 | none=>.no
def vB (fl:FL):FI:=fun Γ=>(fl Γ).bind fun ps Γ'=>match pK (ps.map (·.d)) with
 | some (i,j)=>.ok ⟨cI i (j-i).toNat,true⟩ Γ'
 | none=>.no
theorem yA {fl:FL} (h:tI K W (cx fl) σ H R):xv (tA K W fl) σ H R:=by
 obtain ⟨He,O,Fs,Γ,E,h⟩:=h;refine ⟨He,O,Fs,Γ,E,?_⟩
 unfold cx at h
 cases e:fl Γ with
 | ok ps Γ1=>
  rw [e] at h;intro vs H1 Gs Fs1 A;have h:Cw K W He O Fs H σ R (match jf (ps.map (·.d)) with | some j=>.ok ⟨cI 0 j.toNat,true⟩ Γ1 | none=>.no):=h
  have rs:=A.reps
  cases e1:jf (ps.map (·.d)) with
  | none=>rw [e1] at h;exact h.elim
  | some j=>
   rw [e1] at h;obtain ⟨e2,h1,h2⟩:=oE e1;rw [e2] at rs;obtain ⟨v,rfl,r⟩:=rs.one
   cases r;exact ⟨j,rfl,h1,h2,h (Ag 0 j.toNat) H1 Fs1 (eY 0 j.toNat) (fun _=>True) A.same A.env.dropL (fun a ha=>A.new a (mem_append_right _ ha)) sV trivial (fun _ _=>trivial) (fun _ _ _=>trivial) DY⟩
 | er c Γ'=>rw [e] at h;exact h
 | no=>rw [e] at h;exact h
theorem yz {fl:FL} (h:tI K W (vB fl) σ H R):xu (tA K W fl) σ H R:=by
 obtain ⟨He,O,Fs,Γ,E,h⟩:=h;refine ⟨He,O,Fs,Γ,E,?_⟩
 unfold vB at h
 cases e:fl Γ with
 | ok ps Γ1=>
  rw [e] at h;intro vs H1 Gs Fs1 A;have h:Cw K W He O Fs H σ R (match pK (ps.map (·.d)) with | some (i,j)=>.ok ⟨cI i (j-i).toNat,true⟩ Γ1 | none=>.no):=h
  have rs:=A.reps
  cases e1:pK (ps.map (·.d)) with
  | none=>rw [e1] at h;exact h.elim
  | some ij=>
   obtain ⟨i,j⟩:=ij;rw [e1] at h;obtain ⟨e2,hb⟩:=uG e1;rw [e2] at rs;obtain ⟨v,u,rfl,r,r'⟩:=rs.two
   cases r
   cases r'
   exact ⟨i,j,rfl,hb,h (Ag i (j-i).toNat) H1 Fs1 (eY i (j-i).toNat) (fun _=>True) A.same A.env.dropL (fun a ha=>A.new a (mem_append_right _ ha)) sV trivial (fun _ _=>trivial) (fun _ _ _=>trivial) DY⟩
 | er c Γ'=>rw [e] at h;exact h
 | no=>rw [e] at h;exact h
end
def ph (i:Nat) (fc:FB) (fe:F1) (s:Sh):List D->Ev->List D->Out (List D)
 | [],Γ,acc=>.ok acc Γ
 | d::r,Γ,acc=>match fc (Γ.set i (some ⟨.leaf,d⟩)) with
  | .ok true Γ1=>(match fe Γ1 with
   | .ok p Γ2=>if T.coer s p&&decide (acc.length<sizeLine) then ph i fc fe s r (Γ2.set i none) (acc++[p.d]) else .no
   | _=>.no)
  | .ok false Γ1=>if acc.length<sizeLine then ph i fc fe s r (Γ1.set i none) acc else .no
  | _=>.no
def av (s:Sh) (i:Nat) (fi:FI) (fc:FB) (fe:F1):F1:=fun Γ=>(fi Γ).bind fun t Γ1=>match ph i fc fe s t.ds (Γ1.set i none) [] with
 | .ok ds Γ2=>if !s.isView&&decide (i<Γ1.length) then .ok ⟨.lst s,.list ds⟩ (Γ2.set i (Γ1.getD i none)) else .no
 | _=>.no
abbrev W0:XW:=fun _ _ _=>False
section
variable {K:Fg} {He H H1 H2:Hp} {O G:List Addr} {Fs Fs1 Fs2:List (List Addr)} {σ:St} {Γ Γ1 Γ2:Ev}
theorem DQ {is:List Nat} {σ:St} {j:Nat} (h:j∉is):(bE is σ)[j]?=σ[j]?:=by
 unfold bE;rw [List.getElem?_mapIdx]
 cases σ[j]? with
 | none=>rfl
 | some o=>simp [h]
theorem CT {Γ:Ev} {i j:Nat} {p:PV} (h:(Γ.set i none)[j]?=some (some p)):j≠i/\Γ[j]?=some (some p):=by
 by_cases hj:j=i
 ·subst hj
  rw [getElem?_set] at h;split at h
  ·split at h<;>cases h
  ·rename_i z;exact absurd rfl z
 ·rw [getElem?_set_ne (Ne.symm hj)] at h
  exact ⟨hj,h⟩
theorem EnvOk.shut {i:Nat} (E:EnvOk K He O Fs H σ Γ) (hi:i<Γ.length) :
  ∃F,Fs[i]?=some F/\EnvOk K He (F++O) (Fs.set i []) H (bE [i] σ) (Γ.set i none)/\∀a,a∈F++(Fs.set i []).flatten↔a∈Fs.flatten:=by
 obtain ⟨F,hF⟩:=E.lt hi;have pm:(F++(Fs.set i []).flatten).Perm Fs.flatten:=by simpa using m9 (G:=[]) hF
 have pm2:(F++O++(Fs.set i []).flatten).Perm (O++Fs.flatten):=by
  rw [append_assoc];exact (jY _ _ _).trans (List.Perm.append_left _ pm)
 refine ⟨F,hF,⟨by rw [wU,length_set];exact E.len1,by rw [length_set,length_set];exact E.len2,E.same,pm2.nodup_iff.mpr E.nd,fun a ha=>E.inH a (pm2.mem_iff.mp ha),fun a ha=>E.fresh a (pm.mem_iff.mp (mem_append_right _ ha)),fun j q hq=>?_⟩,fun a=>pm.mem_iff⟩
 obtain ⟨hj,hq⟩:=CT hq;obtain ⟨w1,v',F',e1,e2,e3⟩:=E.slot j q hq;exact ⟨w1,v',F',by rw [DQ (by simpa using hj)];exact e1,by rw [getElem?_set_ne (Ne.symm hj)];exact e2,e3.mono (Same.refl _) fun a ha=>.inl (pm2.mem_iff.mp ha)⟩
theorem EnvOk.forget {i:Nat} {x:Option V} (E:EnvOk K He O Fs H ((bE [i] σ).set i x) Γ) (hi:i<Γ.length):EnvOk K He O (Fs.set i []) H (bE [i] σ) (Γ.set i none):=by
 obtain ⟨F,hF⟩:=E.lt hi;have pm:(F++(Fs.set i []).flatten).Perm Fs.flatten:=by simpa using m9 (G:=[]) hF
 have sub:∀a∈O++(Fs.set i []).flatten,a∈O++Fs.flatten:=fun a ha=>by
  rcases List.mem_append.mp ha with z | z
  ·exact mem_append_left _ z
  ·exact mem_append_right _ (pm.mem_iff.mp (mem_append_right _ z))
 have l1:=E.len1
 rw [length_set] at l1;obtain ⟨n1,n2,n3⟩:=List.nodup_append.mp E.nd;have n4:((Fs.set i []).flatten).Nodup:=(List.nodup_append.mp (pm.nodup_iff.mpr n2)).2.1
 refine ⟨by rw [length_set];exact l1,by rw [length_set,length_set];exact E.len2,E.same,List.nodup_append.mpr ⟨n1,n4,fun a ha b hb=>n3 a ha b (pm.mem_iff.mp (mem_append_right _ hb))⟩,fun a ha=>E.inH a (sub a ha),fun a ha=>E.fresh a (pm.mem_iff.mp (mem_append_right _ ha)),fun j q hq=>?_⟩
 obtain ⟨hj,hq⟩:=CT hq;obtain ⟨w1,v',F',e1,e2,e3⟩:=E.slot j q hq;rw [getElem?_set_ne (Ne.symm hj)] at e1;exact ⟨w1,v',F',e1,by rw [getElem?_set_ne (Ne.symm hj)];exact e2,e3.mono (Same.refl _) fun a ha=>.inl (sub a ha)⟩
theorem EnvOk.reopen {i:Nat} {F:List Addr} (E1:EnvOk K He O Fs1 H1 σ Γ1) (hF:Fs1[i]?=some F) (E2:EnvOk K He (G++(F++O)) Fs2 H2 (bE [i] σ) Γ2) (hl:Γ2.length=Γ1.length) (s:Same H1 H2)
  (hn:Γ2[i]?=some none) (hF2:Fs2[i]?=some []) (new:∀a∈G++Fs2.flatten,a∈Fs1.flatten\/H1 a=none):EnvOk K He (G++O) (Fs2.set i F) H2 σ (Γ2.set i (Γ1.getD i none)):=by
 have pm:((Fs2.set i F).flatten).Perm (F++Fs2.flatten):=by simpa using m9 (G:=F) hF2
 have pm2:(G++O++(Fs2.set i F).flatten).Perm (G++(F++O)++Fs2.flatten):=by
  refine (List.Perm.append_left _ pm).trans ?_
  rw [append_assoc,append_assoc];refine List.Perm.append_left _ ?_
  rw [append_assoc];exact jY _ _ _
 have hi:i<Γ2.length:=(List.getElem?_eq_some_iff.mp hn).1
 refine ⟨by rw [length_set,hl];exact E1.len1,by rw [length_set,length_set];exact E2.len2,E2.same,pm2.nodup_iff.mpr E2.nd,fun a ha=>E2.inH a (pm2.mem_iff.mp ha),fun a ha=>?_,fun j q hq=>?_⟩
 ·rcases List.mem_append.mp (pm.mem_iff.mp ha) with z | z
  ·exact E1.fresh a (hV hF z)
  ·exact E2.fresh a z
 ·by_cases hj:j=i
  ·subst hj
   rw [getElem?_set_self hi] at hq;have hq:Γ1.getD j none=some q:=Option.some.inj hq
   rw [getD_eq_getElem?_getD] at hq;have hq':Γ1[j]?=some (some q):=by
    cases e:Γ1[j]? with
    | none=>rw [e] at hq;cases hq
    | some o=>rw [e] at hq;simp only [Option.getD_some] at hq;rw [hq]
   obtain ⟨w1,v',F',e1,e2,e3⟩:=E1.slot j q hq'
   rw [hF] at e2
   cases e2;refine ⟨w1,v',F,e1,getElem?_set_self (by rw [E2.len2];exact hi),e3.mono s fun a ha=>?_⟩
   rcases List.mem_append.mp ha with z | z
   ·rcases List.mem_append.mp z with z | z
    ·exact (new a (mem_append_left _ z)).elim (fun y=>.inl (mem_append_right _ y)) .inr
    ·exact .inl (mem_append_left _ z)
   ·rcases List.mem_append.mp (pm.mem_iff.mp z) with y | y
    ·exact .inl (mem_append_right _ (hV hF y))
    ·exact (new a (mem_append_right _ y)).elim (fun y=>.inl (mem_append_right _ y)) .inr
  ·rw [getElem?_set_ne (Ne.symm hj)] at hq
   obtain ⟨w1,v',F',e1,e2,e3⟩:=E2.slot j q hq;rw [DQ (by simpa using hj)] at e1
   exact ⟨w1,v',F',e1,by rw [getElem?_set_ne (Ne.symm hj)];exact e2,e3.mono (Same.refl _) fun a ha=>.inl (pm2.mem_iff.mp ha)⟩
theorem EnvOk.mutO {p:Addr} {o:HO} {xs:List V} (E:EnvOk K He O Fs H σ Γ) (hp:p∈O) (hl:H p=some (.lst xs)) (hn:He p=none):EnvOk K He O Fs (cF H p o) σ Γ:=by
 obtain ⟨n1,n2,n3⟩:=List.nodup_append.mp E.nd;refine ⟨E.len1,E.len2,fun b u e=>?_,E.nd,fun a ha=>?_,E.fresh,fun j q hq=>?_⟩
 ·rw [eV (rq e hn)]
  exact E.same b u e
 ·by_cases h:a=p
  ·rw [h,iY];exact Option.some_ne_none _
  ·rw [eV h];exact E.inH a ha
 ·obtain ⟨w1,v',F',e1,e2,e3⟩:=E.slot j q hq
  exact ⟨w1,v',F',e1,e2,e3.mut w1 (mem_append_left _ hp) (fun z=>n3 p hp p (hV e2 z) rfl) hl⟩
end
structure Gn (K:Fg) (He:Hp) (O F:List Addr) (Fs1:List (List Addr)) (H1:Hp) (σ:St) (i:Nat) (s:Sh) (A0:Addr) (n:Nat) (ys:List V) (H:Hp) (Γk:Ev) (Fk Gs:List (List Addr)) (acc:List D):Prop where
 env:EnvOk K He (A0::Gs.flatten++(F++O)) Fk H (bE [i] σ) Γk
 same:Same H1 H
 at_:H A0=some (.lst ys)
 new:∀a∈Gs.flatten++Fk.flatten,a∈Fs1.flatten\/H1 a=none
 l1:ys.length=acc.length
 l2:Gs.length=acc.length
 own:∀(j:Nat) v d G,ys[j]?=some v->acc[j]?=some d->Gs[j]?=some G->Own K (A0::Gs.flatten++(F++O)++Fk.flatten) H s G v d
 noneG:Γk[i]?=some none
 noneF:Fk[i]?=some []
 len:Γk.length=n
theorem uo {α:Type} (Gs:List (List α)) (G:List α):(Gs++[G]).flatten=Gs.flatten++G:=by simp
section
variable {K:Fg} {W:XW} {σ:St} {H:Hp} {Q:VK} {fe:F1} {fc:FB} {fi:FI} {s:Sh} {i:Nat}
theorem oH (h:tE K W (av s i fi fc fe) σ H Q):lJ [i] (tI K W fi) (gName i) (tT K W0 fc) (tE K W0 fe) σ H Q:=by
 obtain ⟨He,O,Fs,Γ,E,h⟩:=h;refine ⟨He,O,Fs,Γ,E,?_⟩
 unfold av at h
 cases e:fi Γ with
 | er c Γ'=>rw [e] at h;exact h
 | no=>rw [e] at h;exact h
 | ok t Γ1=>
  rw [e] at h;intro J H1 Fs1 vs P s1 E1 n1 it hP hP1 _ hr A0 hD;have h:Wants K W He O Fs H σ Q (match ph i fc fe s t.ds (Γ1.set i none) [] with | .ok ds Γ2=>if !s.isView&&decide (i<Γ1.length) then .ok ⟨.lst s,.list ds⟩ (Γ2.set i (Γ1.getD i none)) else .no | _=>.no):=h
  cases eg:ph i fc fe s t.ds (Γ1.set i none) [] with
  | er c Γ'=>rw [eg] at h;exact h.elim
  | no=>rw [eg] at h;exact h.elim
  | ok ds' Γ2=>
   rw [eg] at h;have h:Wants K W He O Fs H σ Q (if (!s.isView&&decide (i<Γ1.length))=true then .ok ⟨.lst s,.list ds'⟩ (Γ2.set i (Γ1.getD i none)) else .no):=h
   by_cases hc:(!s.isView&&decide (i<Γ1.length))=true
   case neg=>rw [if_neg hc] at h;exact h.elim
   rw [if_pos hc] at h;simp only [Bool.and_eq_true,decide_eq_true_eq,Bool.not_eq_true'] at hc
   obtain ⟨hsv,hi⟩:=hc;obtain ⟨F,hF,E0,hmem⟩:=E1.shut hi;have hHeD:He A0=none:=E1.same.free hD
   have E0':EnvOk K He (A0::([]:List (List Addr)).flatten++(F++O)) (Fs1.set i []) (cF H1 A0 (.lst [])) (bE [i] σ) (Γ1.set i none):=
    E0.hide (G:=[A0]) (m7 hD) (by simp) (fun a ha=>by simp at ha;rw [ha];exact hD) (fun a ha=>by simp at ha;rw [ha,iY];exact Option.some_ne_none _)
   refine ⟨fun k m ys H'=>m=vs.length-k/\k<=vs.length/\∃Γk Fk Gs acc,Gn K He O F Fs1 H1 σ i s A0 Γ1.length ys H' Γk Fk Gs acc/\ph i fc fe s (t.ds.drop k) Γk acc=.ok ds' Γ2,⟨vs.length,by simp,Nat.zero_le _,Γ1.set i none,Fs1.set i [],[],[],⟨E0',m7 hD,iY,fun a ha=>.inl ((hmem a).mp (mem_append_right _ (by simpa using ha))),rfl,rfl,fun j v d G h1=>by simp at h1,getElem?_set_self hi,getElem?_set_self (by rw [E1.len2];exact hi),by rw [length_set]⟩,by simpa using eg⟩,?_⟩
   rintro k m ys H' ⟨rfl,hk,Γk,Fk,Gs,acc,g,eg'⟩
   refine ⟨g.at_,?_⟩
   have hPk:P H':=hP1 H' g.same
   have hlen:vs.length=t.ds.length:=hr.1
   by_cases hlt:k<vs.length
   case neg=>
    have hke:k=vs.length:=by omega
    left
    have:t.ds.drop k=[]:=List.drop_eq_nil_of_le (by omega)
    rw [this] at eg';have eg'':(Out.ok acc Γk:Out (List D))=.ok ds' Γ2:=eg'
    injection eg'' with e1 e2
    subst e1;subst e2;refine ⟨by rw [hke];exact it.stop H' hPk,?_⟩
    have E3:EnvOk K He ((A0::Gs.flatten)++O) (Fk.set i F) H' σ (Γk.set i (Γ1.getD i none)):=
     EnvOk.reopen (G:=A0::Gs.flatten) E1 hF g.env g.len g.same g.noneG g.noneF fun a ha=>by
      rcases List.mem_append.mp ha with z | z
      ·rcases List.mem_cons.mp z with z | z
       ·rw [z];exact .inr hD
       ·exact g.new a (mem_append_left _ z)
      ·exact g.new a (mem_append_right _ z)
    have pmF:((Fk.set i F).flatten).Perm (F++Fk.flatten):=by simpa using m9 (G:=F) g.noneF
    obtain ⟨n1',_,n3'⟩:=List.nodup_append.mp g.env.ndO;refine h (.ref A0) H' (A0::Gs.flatten) (Fk.set i F) ⟨s1.trans g.same,E3,fun a ha=>?_,?_⟩
    ·have up:a∈Fs1.flatten\/H1 a=none->a∈Fs.flatten\/H a=none:=fun z=>z.elim (n1 a) fun y=>.inr (s1.free y)
     rcases List.mem_append.mp ha with z | z
     ·rcases List.mem_cons.mp z with z | z
      ·exact up (.inr (by rw [z];exact hD))
      ·exact up (g.new a (mem_append_left _ z))
     ·rcases List.mem_append.mp (pmF.mem_iff.mp z) with y | y
      ·exact up (.inl (hV hF y))
      ·exact up (g.new a (mem_append_right _ y))
    ·refine .lst hsv g.at_ g.l1 g.l2 n1' fun j v d G h1 h2 h3=>(g.own j v d G h1 h2 h3).perm fun a ha=>?_
     rw [append_assoc] at ha ⊢;rcases List.mem_append.mp ha with z | z
     ·exact mem_append_left _ z
     ·refine mem_append_right _ ?_
      rcases List.mem_append.mp z with z | z
      ·exact mem_append_left _ (mem_append_right _ z)
      ·rcases List.mem_append.mp (pmF.mem_iff.mp z) with y | y
       ·exact mem_append_left _ (mem_append_left _ y)
       ·exact mem_append_right _ y
   case pos=>
    right
    have hv:vs[k]?=some vs[k]:=getElem?_eq_getElem hlt
    have hkd:k<t.ds.length:=by omega
    have hd:t.ds[k]?=some t.ds[k]:=getElem?_eq_getElem hkd
    have hdr:t.ds.drop k=t.ds[k]::t.ds.drop (k+1):=List.drop_eq_getElem_cons hkd
    rw [hdr] at eg';generalize hdk:t.ds[k]=d at hd eg'
    generalize hvk:vs[k]=v at hv
    obtain ⟨hgo,hyld⟩:=it.go k H' v hPk hv
    simp only [ph] at eg'
    have hik:i<Γk.length:=by rw [g.len];exact hi
    have rep:Rep K (cQ H' (A0::Gs.flatten++(F++O)++Fk.flatten)) v d:=(hr.2 k v d hv hd).mono (wH g.same fun a ha=>by
     rcases List.mem_append.mp ha with z | z
     ·rcases List.mem_append.mp z with z | z
      ·rcases List.mem_cons.mp z with z | z
       ·rw [z];exact .inr hD
       ·exact (g.new a (mem_append_left _ z)).elim (fun y=>.inl (mem_append_right _ y)) .inr
      ·rcases List.mem_append.mp z with z | z
       ·exact .inl (mem_append_right _ (hV hF z))
       ·exact .inl (mem_append_left _ z)
     ·exact (g.new a (mem_append_right _ z)).elim (fun y=>.inl (mem_append_right _ y)) .inr)
    have Ep:EnvOk K He (A0::Gs.flatten++(F++O)) (Fk.set i []) H' ((bE [i] σ).set i (some v)) (Γk.set i (some ⟨.leaf,d⟩)):=
     EnvOk.put (G:=[]) (p:=⟨.leaf,d⟩) (v:=v) g.env (.leaf rep) rfl (fun a ha=>by simp at ha) hik
    have hsl:ys.length<sizeLine:=by
     rw [g.l1]
     cases ec:fc (Γk.set i (some ⟨.leaf,d⟩)) with
     | no=>rw [ec] at eg';cases eg'
     | er c Γ'=>rw [ec] at eg';cases eg'
     | ok b Γa=>
      rw [ec] at eg'
      cases b with
      | false=>
       dsimp only at eg'
       split at eg'
       ·assumption
       ·cases eg'
      | true=>
       dsimp only at eg'
       split at eg'
       ·split at eg'
        ·rename_i z
         simp only [Bool.and_eq_true,decide_eq_true_eq] at z
         exact z.2
        ·cases eg'
       ·cases eg'
    refine ⟨hgo,hsl,fun x Hx hx=>?_⟩
    obtain ⟨rfl,rfl⟩:=hyld x Hx hx;show Hl (bE [i] σ) ((bE [i] σ).set i (some x))/\_
    refine ⟨⟨by rw [length_set],fun j u hj=>?_⟩,?_⟩
    ·have:=(CP hj).1
     rw [getElem?_set_ne (by simp at this;exact fun z=>this z.symm)]
     exact hj
    refine ⟨He,_,_,_,Ep,?_⟩
    cases ec:fc (Γk.set i (some ⟨.leaf,d⟩)) with
    | no=>rw [ec] at eg';cases eg'
    | er c Γ'=>rw [ec] at eg';cases eg'
    | ok b Γa=>
     rw [ec] at eg';intro H3 Fs3 s3 E3 n3;have lena:Γa.length=Γ1.length:=by
      have:=E3.len1
      rw [length_set,wU,E1.len1] at this;exact this.symm
     have n3':∀a∈Fs3.flatten,a∈Fs1.flatten\/H1 a=none:=fun a ha=>(n3 a ha).elim (fun z=>by
      have pm:((Fk.set i []).flatten).Perm Fk.flatten:=by simpa using m9 (G:=[]) g.noneF
      exact g.new a (mem_append_right _ (pm.mem_iff.mp z))) fun z=>.inr (g.same.free z)
     cases b with
     | false=>
      dsimp only at eg'
      split at eg'
      case isFalse=>cases eg'
      refine kK ⟨vs.length-(k+1),by omega,rfl,hlt,Γa.set i none,Fs3.set i [],Gs,acc,⟨E3.forget (by rw [lena];exact hi),g.same.trans s3,s3 _ _ g.at_,fun a ha=>?_,g.l1,g.l2,fun j v d G h1 h2 h3=>(g.own j v d G h1 h2 h3).mono s3 fun a ha=>?_,getElem?_set_self (by rw [lena];exact hi),getElem?_set_self (by rw [E3.len2,lena];exact hi),by rw [length_set];exact lena⟩,eg'⟩
      ·rcases List.mem_append.mp ha with z | z
       ·exact g.new a (mem_append_left _ z)
       ·obtain ⟨F3,hF3⟩:=E3.lt (i:=i) (by rw [lena];exact hi)
        have pm:(F3++(Fs3.set i []).flatten).Perm Fs3.flatten:=by simpa using m9 (G:=[]) hF3
        exact n3' a (pm.mem_iff.mp (mem_append_right _ z))
      ·rcases List.mem_append.mp ha with z | z
       ·exact .inl (mem_append_left _ z)
       ·obtain ⟨F3,hF3⟩:=E3.lt (i:=i) (by rw [lena];exact hi)
        have pm:(F3++(Fs3.set i []).flatten).Perm Fs3.flatten:=by simpa using m9 (G:=[]) hF3
        have pm2:((Fk.set i []).flatten).Perm Fk.flatten:=by simpa using m9 (G:=[]) g.noneF
        exact (n3 a (pm.mem_iff.mp (mem_append_right _ z))).elim (fun y=>.inl (mem_append_right _ (pm2.mem_iff.mp y))) .inr
     | true=>
      refine kJ ⟨He,_,_,_,E3,?_⟩
      dsimp only at eg'
      cases ee:fe Γa with
      | no=>rw [ee] at eg';cases eg'
      | er c Γ'=>rw [ee] at eg';cases eg'
      | ok p Γb=>
       rw [ee] at eg';dsimp only at eg'
       split at eg'
       case isFalse=>cases eg'
       rename_i hco;simp only [Bool.and_eq_true,decide_eq_true_eq] at hco
       obtain ⟨hco,_⟩:=hco;intro u H4 G Fs4 A4;have lenb:Γb.length=Γ1.length:=by
        have:=A4.env.len1
        rw [length_set,wU,E1.len1] at this;exact this.symm
       have hib:i<Γb.length:=by rw [lenb];exact hi
       have at4:H4 A0=some (.lst ys):=A4.same _ _ (s3 _ _ g.at_)
       have s14:Same H1 H4:=(g.same.trans s3).trans A4.same
       have pmk:((Fk.set i []).flatten).Perm Fk.flatten:=by simpa using m9 (G:=[]) g.noneF
       obtain ⟨F4,hF4⟩:=A4.env.lt hib;have pm4:(F4++(Fs4.set i []).flatten).Perm Fs4.flatten:=by simpa using m9 (G:=[]) hF4
       have new4:∀a∈G++Fs4.flatten,a∈Fs1.flatten\/H1 a=none:=fun a ha=>(A4.new a ha).elim (n3' a) fun z=>.inr ((g.same.trans s3).free z)
       have hG':∀a∈bb s G,a∈G:=fun a ha=>Em ha
       obtain ⟨k1,k2,k3⟩:=List.nodup_append.mp A4.env.ndO;have ndk:(bb s G).Nodup:=by
        cases s<;>first | exact nodup_nil | exact k1
       have pmO:(A0::(Gs++[bb s G]).flatten++(F++O)).Perm (bb s G++(A0::Gs.flatten++(F++O))):=by
        rw [uo];show (A0::((Gs.flatten++bb s G)++(F++O))).Perm _
        refine List.Perm.trans ?_ List.perm_middle.symm
        refine List.Perm.cons _ ?_
        rw [append_assoc];exact jY _ _ _
       have E5:EnvOk K He (bb s G++(A0::Gs.flatten++(F++O))) Fs4 H4 ((bE [i] σ).set i (some x)) Γb:=A4.env.drop (fun a ha=>by
        rcases List.mem_append.mp ha with z | z
        ·exact mem_append_left _ (hG' a z)
        ·exact mem_append_right _ z) (List.nodup_append.mpr ⟨ndk,k2,fun a ha b hb=>k3 a (hG' a ha) b hb⟩)
       have E6:=(E5.perm pmO).forget hib
       have hDin:A0∈A0::(Gs++[bb s G]).flatten++(F++O):=mem_cons_self
       have E7:=E6.mutO (o:=.lst (ys++[u])) hDin at4 hHeD
       have subH:∀a∈A0::(Gs++[bb s G]).flatten++(F++O)++(Fs4.set i []).flatten,a∈G++(A0::Gs.flatten++(F++O))++Fs4.flatten:=fun a ha=>by
        rcases List.mem_append.mp ha with z | z
        ·rcases List.mem_append.mp (pmO.mem_iff.mp z) with y | y
         ·exact mem_append_left _ (mem_append_left _ (hG' a y))
         ·exact mem_append_left _ (mem_append_right _ y)
        ·exact mem_append_right _ (pm4.mem_iff.mp (mem_append_right _ z))
       have Dnot:∀{j:Nat} {Gj:List Addr},Gs[j]?=some Gj->A0∉Gj:=fun {j Gj} hj z=>by
        have nd:=g.env.ndO
        exact (List.nodup_cons.mp nd).1 (mem_append_left _ (hV hj z))
       refine ⟨at4,vs.length-(k+1),by omega,rfl,hlt,Γb.set i none,Fs4.set i [],Gs++[bb s G],acc++[p.d],⟨E7,fun b o hb=>?_,iY,fun a ha=>?_,by simp [g.l1],by simp [g.l2],fun j w d' G' h1 h2 h3=>?_,getElem?_set_self hib,getElem?_set_self (by rw [A4.env.len2];exact hib),by rw [length_set];exact lenb⟩,eg'⟩
       ·rw [eV (rq hb hD)]
        exact s14 b o hb
       ·rcases List.mem_append.mp ha with z | z
        ·rw [uo] at z
         rcases List.mem_append.mp z with z | z
         ·exact g.new a (mem_append_left _ z)
         ·exact new4 a (mem_append_left _ (hG' a z))
        ·exact new4 a (mem_append_right _ (pm4.mem_iff.mp (mem_append_right _ z)))
       ·by_cases hj:j<ys.length
        ·rw [getElem?_append_left hj] at h1
         rw [getElem?_append_left (by rw [<-g.l1];exact hj)] at h2
         rw [getElem?_append_left (by rw [g.l2,<-g.l1];exact hj)] at h3
         have o1:=g.own j w d' G' h1 h2 h3
         have o2:=o1.mono (O':=A0::(Gs++[bb s G]).flatten++(F++O)++(Fs4.set i []).flatten) (s3.trans A4.same) fun a ha=>by
          have up:a∈G++Fs4.flatten->a∈A0::Gs.flatten++(F++O)++Fk.flatten\/Hx a=none:=fun z=>(A4.new a z).elim (fun y=>(n3 a y).elim (fun y=>.inl (mem_append_right _ (pmk.mem_iff.mp y))) .inr) fun y=>.inr (s3.free y)
          rcases List.mem_append.mp (subH a ha) with z | z
          ·rcases List.mem_append.mp z with z | z
           ·exact up (mem_append_left _ z)
           ·exact .inl (mem_append_left _ z)
          ·exact up (mem_append_right _ z)
         exact o2.mut hsv (mem_append_left _ hDin) (Dnot h3) at4
        ·have hj':j=ys.length:=by
          have:=(List.getElem?_eq_some_iff.mp h1).1
          rw [length_append,length_singleton] at this;omega
         subst hj'
         rw [getElem?_append_right (Nat.le_refl _),Nat.sub_self] at h1;rw [getElem?_append_right (by rw [g.l1];exact Nat.le_refl _),show ys.length-acc.length=0 by rw [g.l1];exact Nat.sub_self _] at h2
         rw [getElem?_append_right (by rw [g.l2,g.l1];exact Nat.le_refl _),show ys.length-Gs.length=0 by rw [g.l2,g.l1];exact Nat.sub_self _] at h3
         cases h1
         cases h2
         cases h3;have o3:=A4.own.coer (s:=s) (O':=A0::(Gs++[bb s G]).flatten++(F++O)++(Fs4.set i []).flatten) hco subH fun a ha hO=>by
          cases s with
          | leaf=>
           exfalso
           have hO':a∈(A0::Gs.flatten++(F++O))++(Fs4.set i []).flatten:=by
            rw [uo] at hO;simpa [bb] using hO
           rcases List.mem_append.mp hO' with z | z
           ·exact k3 a ha a z rfl
           ·have nd:=A4.env.nd
            exact (List.nodup_append.mp nd).2.2 a (mem_append_left _ ha) a (pm4.mem_iff.mp (mem_append_right _ z)) rfl
          | view=>cases hsv
          | lst s=>exact ha
          | tup ss=>exact ha
         refine o3.mut hsv (mem_append_left _ hDin) (fun z=>?_) at4
         exact k3 A0 (hG' A0 z) A0 mem_cons_self rfl
end
inductive OutS where
 | nx (e:Ev) | bk (e:Ev) | ct (e:Ev) | rt (p:PV) | er (c:Str) (e:Ev) | no
abbrev FS:=Ev->OutS
structure RetOk (K:Fg) (He:Hp) (O:List Addr) (p:PV) (v:V) (H':Hp) (G:List Addr):Prop where
 same:Same He H'
 fresh:∀a∈G,He a=none
 inH:∀a∈G,H' a≠none
 nd:G.Nodup
 own:Own K (G++O) H' p.s G v p.d
 nv:p.s.isView=false
def jJ (K:Fg) (W:XW) (He:Hp) (O:List Addr) (D:du):OutS->Prop
 | .nx Γ'=>∀σ' H' Fs',EnvOk K He O Fs' H' σ' Γ'->D.nx σ' H'
 | .bk Γ'=>∀σ' H' Fs',EnvOk K He O Fs' H' σ' Γ'->D.bk σ' H'
 | .ct Γ'=>∀σ' H' Fs',EnvOk K He O Fs' H' σ' Γ'->D.ct σ' H'
 | .rt p=>∀v H' G,RetOk K He O p v H' G->D.rt v H'
 | .er c Γ'=>∀σ' H' Fs',EnvOk K He O Fs' H' σ' Γ'->W c σ' H'
 | .no=>False
def tS (K:Fg) (W:XW) (g:FS):TS:=fun D σ H=>∃He O Fs Γ,EnvOk K He O Fs H σ Γ/\jJ K W He O D (g Γ)
def az:FS:=fun Γ=>.nx Γ
def ao (g1 g2:FS):FS:=fun Γ=>match g1 Γ with
 | .nx Γ'=>g2 Γ'
 | o=>o
def fz (f:F1) (k:PV->Ev->OutS):FS:=fun Γ=>match f Γ with
 | .ok p Γ'=>k p Γ'
 | .er c Γ'=>.er c Γ'
 | .no=>.no
def bf (c:FB) (a b:FS):FS:=fun Γ=>match c Γ with
 | .ok t Γ'=>if t then a Γ' else b Γ'
 | .er c Γ'=>.er c Γ'
 | .no=>.no
section
variable {K:Fg} {W:XW} {σ:St} {H:Hp} {D:du} {fa fb:F1} {ga gb:FB} {g1 g2:FS}
theorem oG (h:tS K W az D σ H):rS D σ H:=by
 obtain ⟨He,O,Fs,Γ,E,h⟩:=h;exact h σ H Fs E
theorem DH (h:tS K W (ao g1 g2) D σ H):uz (tS K W g1) (tS K W g2) D σ H:=by
 obtain ⟨He,O,Fs,Γ,E,h⟩:=h;refine ⟨He,O,Fs,Γ,E,?_⟩
 unfold ao at h
 cases e:g1 Γ with
 | nx Γ'=>rw [e] at h;exact fun σ' H' Fs' E'=>⟨He,O,Fs',Γ',E',h⟩
 | bk Γ'=>rw [e] at h;exact h
 | ct Γ'=>rw [e] at h;exact h
 | rt p=>rw [e] at h;exact h
 | er c Γ'=>rw [e] at h;exact h
 | no=>rw [e] at h;exact h
theorem fJ {k:PV->Ev->OutS} {R:VK} (h:tS K W (fz fa k) D σ H)
  (hk:∀He O Fs Γ1 p v H1 G Fs1,EnvOk K He O Fs H σ Γ1\/True->(∀a∈G,He a=none)->Aft K He O Fs H σ Γ1 p v H1 G Fs1->jJ K W He O D (k p Γ1)->R v H1):tE K W fa σ H R:=by
 obtain ⟨He,O,Fs,Γ,E,h⟩:=h;refine ⟨He,O,Fs,Γ,E,?_⟩
 unfold fz at h
 cases e:fa Γ with
 | ok p Γ1=>rw [e] at h;exact fun v H' G Fs' A=>hk He O Fs Γ1 p v H' G Fs' (.inr trivial) (A.freshG E) A h
 | er c Γ1=>rw [e] at h;exact fun H' Fs' s E'=>h σ H' Fs' E'
 | no=>rw [e] at h;exact h
theorem sg (h:tS K W (bf ga g1 g2) D σ H):yf (tT K W ga) (tS K W g1) (tS K W g2) D σ H:=by
 obtain ⟨He,O,Fs,Γ,E,h⟩:=h;refine ⟨He,O,Fs,Γ,E,?_⟩
 unfold bf at h
 cases e:ga Γ with
 | ok b Γ1=>
  rw [e] at h;intro H' Fs' s E' n
  cases b with
  | true=>exact kJ ⟨He,O,Fs',Γ1,E',h⟩
  | false=>exact kK ⟨He,O,Fs',Γ1,E',h⟩
 | er c Γ1=>rw [e] at h;exact fun H' Fs' s E'=>h σ H' Fs' E'
 | no=>rw [e] at h;exact h
def aG (f:F1):FS:=fz f fun p _=>if p.s.isView then (if bz p.d then .rt ⟨.leaf,p.d⟩ else .no) else .rt p
theorem yt (h:tS K W (aG fa) D σ H):Bi (tE K W fa) D σ H:=by
 refine fJ h fun He O Fs Γ1 p v H1 G Fs1 _ fr A w=>?_
 obtain ⟨n1,n2,n3⟩:=List.nodup_append.mp A.env.ndO;have inH:∀a∈G,H1 a≠none:=fun a ha=>A.env.inH a (mem_append_left _ (mem_append_left _ ha))
 cases hv:p.s.isView with
 | false=>
  have w:jJ K W He O D (.rt p):=by simpa [hv] using w
  exact w v H1 G ⟨A.env.same,fr,inH,n1,A.own.perm fun a ha=>mem_append_left _ ha,hv⟩
 | true=>
  cases hs:bz p.d with
  | false=>rw [hv,hs] at w;exact w.elim
  | true=>
   have w:jJ K W He O D (.rt ⟨.leaf,p.d⟩):=by simpa [hv,hs] using w
   exact w v H1 [] ⟨A.env.same,(fun _ z=>nomatch z),(fun _ z=>nomatch z),nodup_nil,.leaf (A.own.rep.sc hs).rep,rfl⟩
def ax (own:Bool) (i:Nat) (f:F1):FS:=fz f fun p Γ=>if i<Γ.length then (if own&&!p.s.isView then .nx (Γ.set i (some p)) else if T.coer .leaf p then .nx (Γ.set i (some ⟨.leaf,p.d⟩)) else .no) else .no
theorem CB {own:Bool} {i:Nat} (h:tS K W (ax own i fa) D σ H):gO (tE K W fa) (gName i) D σ H:=by
 refine fJ h fun He O Fs Γ1 p v H1 G Fs1 _ fr A w=>?_
 show D.nx (σ.set i (some v)) H1
 have w:jJ K W He O D (if i<Γ1.length then (if own&&!p.s.isView then .nx (Γ1.set i (some p)) else if T.coer .leaf p then .nx (Γ1.set i (some ⟨.leaf,p.d⟩)) else .no) else .no):=w
 by_cases hi:i<Γ1.length
 case neg=>rw [if_neg hi] at w;exact w.elim
 rw [if_pos hi] at w
 cases ho:(own&&!p.s.isView) with
 | true=>
  rw [ho] at w;have hv:p.s.isView=false:=by
   simp only [Bool.and_eq_true,Bool.not_eq_true'] at ho
   exact ho.2
  exact w _ H1 _ (EnvOk.put A.env A.own hv fr hi)
 | false=>
  rw [ho] at w
  cases hc:T.coer .leaf p with
  | false=>rw [hc] at w;exact w.elim
  | true=>
   rw [hc] at w;have o:=A.own.coer (s:=.leaf) (O':=O++Fs1.flatten) hc lK fun a ha z=>absurd z (A.disj a ha)
   exact w _ H1 _ (EnvOk.put (G:=[]) (p:=⟨.leaf,p.d⟩) (v:=v) A.go o rfl (fun a ha=>by simp at ha) hi)
def cK (f:F1):FS:=fz f fun _ Γ=>.nx Γ
theorem uW (h:tS K W (cK fa) D σ H):fK (tE K W fa) D σ H:=
 fJ h fun He O Fs Γ1 p v H1 G Fs1 _ fr A w=>w σ H1 Fs1 A.go
theorem wK {α:Type} {l:List α} {i:Nat} {x:α} (h:l[i]?=some x):l.set i x=l:=by
 apply ext_getElem?
 intro j;by_cases hj:j=i
 ·subst hj
  rw [getElem?_set_self (List.getElem?_eq_some_iff.mp h).1,h]
 ·rw [getElem?_set_ne (Ne.symm hj)]
def wd (i:Nat) (p:PV) (Γ:Ev):OutS:=match Γ[i]? with
 | some (some ⟨.lst s,.list ds⟩)=>if T.coer s p&&decide (ds.length<sizeLine) then .nx (Γ.set i (some ⟨.lst s,.list (ds++[p.d])⟩)) else .no
 | _=>.no
def Ak:Option (Option PV)->Bool
 | some (some ⟨.lst _,.list _⟩)=>true
 | _=>false
def gr (i:Nat) (f:F1):FS:=fun Γ=>if Ak Γ[i]? then fz f (wd i) Γ else .no
theorem wc {He H:Hp} {O G:List Addr} {Fs:List (List Addr)} {Γ:Ev} {i:Nat} {s:Sh} {ds:List PySem.PyData} {p:PV} {v:V} (E:EnvOk K He (G++O) Fs H σ Γ) (o:Own K (G++O++Fs.flatten) H p.s G v p.d) (fr:∀a∈G,He a=none)
  (h:Γ[i]?=some (some ⟨.lst s,.list ds⟩)) (hc:T.coer s p=true) :
  ∃l vs,σ[i]?=some (some (.ref l))/\H l=some (.lst vs)/\vs.length=ds.length/\∃Fs',EnvOk K He O Fs' (cF H l (.lst (vs++[v]))) σ (Γ.set i (some ⟨.lst s,.list (ds++[p.d])⟩)):=by
 obtain ⟨hv,u,F,h1,E1,o1,sub⟩:=E.move h;have hi:i<Γ.length:=(List.getElem?_eq_some_iff.mp h).1
 cases o1 with
 | @lst _ l vs _ Fs0 hsv hp hl hf nd q=>
  refine ⟨l,vs,h1,hp,hl,Fs.set i (l::(Fs0++[bb s G]).flatten),?_⟩
  have hlF:l∈Fs.flatten:=sub l (mem_append_left _ mem_cons_self)
  have hHe:He l=none:=E.fresh l hlF
  have hG':∀a∈bb s G,a∈G:=fun a ha=>Em ha
  obtain ⟨k1,k2,k3⟩:=List.nodup_append.mp E1.ndO;obtain ⟨g1,g2,g3⟩:=List.nodup_append.mp k2;have ndk:(bb s G).Nodup:=by
   cases s<;>first | exact nodup_nil | exact g1
  have pmO:((l::(Fs0++[bb s G]).flatten)++O).Perm ((l::Fs0.flatten)++(bb s G++O)):=by
   rw [uo];show (l::((Fs0.flatten++bb s G)++O)).Perm (l::(Fs0.flatten++(bb s G++O)))
   rw [append_assoc]
  have E2:EnvOk K He ((l::Fs0.flatten)++(bb s G++O)) (Fs.set i []) H σ (Γ.set i none):=E1.drop (fun a ha=>by
   rcases List.mem_append.mp ha with z | z
   ·exact mem_append_left _ z
   ·refine mem_append_right _ ?_
    rcases List.mem_append.mp z with z | z
    ·exact mem_append_left _ (hG' a z)
    ·exact mem_append_right _ z) (List.nodup_append.mpr ⟨k1,List.nodup_append.mpr ⟨ndk,g2,fun a ha b hb=>g3 a (hG' a ha) b hb⟩,fun a ha b hb=>k3 a ha b (by
     rcases List.mem_append.mp hb with z | z
     ·exact mem_append_left _ (hG' b z)
     ·exact mem_append_right _ z)⟩)
  have E3:=E2.perm pmO
  have hlin:l∈(l::(Fs0++[bb s G]).flatten)++O:=mem_cons_self
  have E4:=E3.mutO (o:=.lst (vs++[v])) hlin hp hHe
  have lnG:l∉G:=fun z=>k3 l mem_cons_self l (mem_append_left _ z) rfl
  have subH:∀a∈(l::(Fs0++[bb s G]).flatten)++O++(Fs.set i []).flatten,a∈(l::Fs0.flatten)++(G++O)++(Fs.set i []).flatten:=fun a ha=>by
   rcases List.mem_append.mp ha with z | z
   ·refine mem_append_left _ ?_
    rcases List.mem_append.mp (pmO.mem_iff.mp z) with y | y
    ·exact mem_append_left _ y
    ·refine mem_append_right _ ?_
     rcases List.mem_append.mp y with y | y
     ·exact mem_append_left _ (hG' a y)
     ·exact mem_append_right _ y
   ·exact mem_append_right _ z
  have ownL:Own K ((l::(Fs0++[bb s G]).flatten)++O++(Fs.set i []).flatten) (cF H l (.lst (vs++[v]))) (.lst s) (l::(Fs0++[bb s G]).flatten) (.ref l) (.list (ds++[p.d])):=by
   refine .lst hsv iY (by simp [hl]) (by simp [hf]) ?_ fun j w d' G' e1 e2 e3=>?_
   ·have nd2:=E3.ndO
    exact (List.nodup_append.mp nd2).1
   ·by_cases hj:j<vs.length
    ·rw [getElem?_append_left hj] at e1
     rw [getElem?_append_left (by omega)] at e2
     rw [getElem?_append_left (by omega)] at e3
     exact ((q j w d' G' e1 e2 e3).perm subH).mut hsv (mem_append_left _ hlin) (fun z=>(List.nodup_cons.mp nd).1 (hV e3 z)) hp
    ·have hj':j=vs.length:=by
      have:=(List.getElem?_eq_some_iff.mp e1).1
      rw [length_append,length_singleton] at this;omega
     subst hj'
     rw [getElem?_append_right (Nat.le_refl _),Nat.sub_self] at e1;rw [getElem?_append_right (by omega),show vs.length-ds.length=0 by omega] at e2
     rw [getElem?_append_right (by omega),show vs.length-Fs0.length=0 by omega] at e3
     cases e1
     cases e2
     cases e3;have osub:∀a∈(l::(Fs0++[bb s G]).flatten)++O++(Fs.set i []).flatten,a∈G++O++Fs.flatten:=fun a ha=>by
      rcases List.mem_append.mp (subH a ha) with z | z
      ·rcases List.mem_append.mp z with z | z
       ·exact mem_append_right _ (sub a (mem_append_left _ z))
       ·exact mem_append_left _ z
      ·exact mem_append_right _ (sub a (mem_append_right _ z))
     have o3:=o.coer (s:=s) hc osub fun a ha hO=>by
      cases s with
      | leaf=>
       exfalso
       rw [uo] at hO;have hO':a∈(l::Fs0.flatten)++O++(Fs.set i []).flatten:=by simpa [bb] using hO
       have ndE:=E.nd
       rw [append_assoc] at ndE;have dis:=(List.nodup_append.mp ndE).2.2
       rcases List.mem_append.mp hO' with z | z
       ·rcases List.mem_append.mp z with z | z
        ·exact dis a ha a (mem_append_right _ (sub a (mem_append_left _ z))) rfl
        ·exact dis a ha a (mem_append_left _ z) rfl
       ·exact dis a ha a (mem_append_right _ (sub a (mem_append_right _ z))) rfl
      | view=>cases hsv
      | lst s=>exact ha
      | tup ss=>exact ha
     exact o3.mut hsv (mem_append_left _ hlin) (fun z=>lnG (hG' l z)) hp
  have fin:=EnvOk.put (i:=i) (p:=⟨.lst s,.list (ds++[p.d])⟩) (v:=.ref l) E4 ownL rfl (fun a ha=>?_) (by rw [length_set];exact hi)
  ·rw [set_set,set_set,wK h1] at fin
   exact fin
  ·rcases List.mem_cons.mp ha with z | z
   ·rw [z];exact hHe
   ·rw [uo] at z
    rcases List.mem_append.mp z with z | z
    ·exact E.fresh a (sub a (mem_append_left _ (mem_cons_of_mem _ z)))
    ·exact fr a (hG' a z)
theorem DI {QL:List V->Hp->Prop} (h1:tE K W fa σ H fun v H'=>QL [v] H'):tA K W (ab fa af) σ H QL:=by
 obtain ⟨He,O,Fs,Γ,E,h1⟩:=h1;refine ⟨He,O,Fs,Γ,E,?_⟩
 unfold ab af
 cases e:fa Γ with
 | ok p Γ'=>
  rw [e] at h1;intro vs H' Gs Fs' A
  match vs,Gs,A.len1,A.len2 with
  | [v],[G],_,_=>exact h1 v H' G Fs' ⟨A.same,by simpa using A.env,by simpa using A.new,by simpa using A.own 0 v p G rfl rfl rfl⟩
 | er c Γ'=>rw [e] at h1;exact h1
 | no=>rw [e] at h1;exact h1
theorem qi {o:Option (Option PV)} (h:Ak o=true):∃s ds,o=some (some ⟨.lst s,.list ds⟩):=by
 unfold Ak at h;split at h
 ·exact ⟨_,_,rfl⟩
 ·cases h
theorem EnvOk.ownL {He H:Hp} {O:List Addr} {Fs:List (List Addr)} {Γ:Ev} {i:Nat} {s:Sh} {ds:List PySem.PyData} (E:EnvOk K He O Fs H σ Γ) (h:Γ[i]?=some (some ⟨.lst s,.list ds⟩)):∃l vs,σ[i]?=some (some (.ref l))/\H l=some (.lst vs)/\vs.length=ds.length:=by
 obtain ⟨hv,v,F,h1,h2,h3⟩:=E.slot i _ h
 cases h3 with
 | @lst _ l vs _ Fs0 hsv hp hl hf nd q=>exact ⟨l,vs,h1,hp,hl⟩
theorem pO {i:Nat} (h:tS K W (gr i fa) D σ H):fK (AF K "list" xS (dE i) (tA K W (ab fa af))) D σ H:=by
 obtain ⟨He,O,Fs,Γ,E,h⟩:=h;unfold gr at h
 cases ho:Ak Γ[i]? with
 | false=>rw [ho] at h;exact h.elim
 | true=>
  rw [ho] at h;obtain ⟨s,ds,e0⟩:=qi ho;obtain ⟨l,vs,h1,h2,h3⟩:=E.ownL e0;refine ⟨.ref l,h1,.inl ⟨rfl,vs,.of h2⟩,DI (fJ (D:=D) ⟨He,O,Fs,Γ,E,h⟩ fun He O Fs Γ1 p v H1 G Fs1 _ fr A w=>?_)⟩
  unfold wd at w;split at w
  ·rename_i s1 ds1 e1
   cases hc:(T.coer s1 p&&decide (ds1.length<sizeLine)) with
   | false=>rw [hc] at w;exact w.elim
   | true=>
    rw [hc] at w;simp only [Bool.and_eq_true,decide_eq_true_eq] at hc
    obtain ⟨l1,vs1,q1,q2,q3,Fs',E'⟩:=wc A.env A.own fr e1 hc.1;rw [h1] at q1
    cases q1;exact ⟨l,vs1,v,rfl,rfl,q2,by rw [q3];exact hc.2,w σ _ Fs' E'⟩
  ·exact w.elim
def cv (i:Nat) (body:FS):List PySem.PyData->Ev->OutS
 | [],Γ=>.nx Γ
 | d::r,Γ=>if i<Γ.length then (match body (Γ.set i (some ⟨.leaf,d⟩)) with
  | .nx Γ'=>cv i body r Γ'
  | .ct Γ'=>cv i body r Γ'
  | .bk Γ'=>.nx Γ'
  | .rt p=>.rt p
  | .er c Γ'=>.er c Γ'
  | .no=>.no) else .no
def cM (i:Nat) (fi:FI) (body:FS):FS:=fun Γ=>match fi Γ with
 | .ok t Γ1=>if t.st then cv i body t.ds Γ1 else .no
 | .er c Γ1=>.er c Γ1
 | .no=>.no
theorem EnvOk.rebase {He H:Hp} {O:List Addr} {Fs:List (List Addr)} {Γ:Ev} (E:EnvOk K He O Fs H σ Γ):EnvOk K (cQ H Fs.flatten) O Fs H σ Γ/\Same He (cQ H Fs.flatten):=
 ⟨⟨E.len1,E.len2,hid_le,E.nd,E.inH,fun a ha=>by unfold cQ;rw [if_pos ha],E.slot⟩,fun b o e=>t7 (E.same b o e) fun z=>by have:=E.fresh b z;rw [e] at this;cases this⟩
theorem EnvOk.unbase {He He' H:Hp} {O:List Addr} {Fs:List (List Addr)} {Γ:Ev} (E:EnvOk K He' O Fs H σ Γ) (s:Same He He'):EnvOk K He O Fs H σ Γ:=
 ⟨E.len1,E.len2,s.trans E.same,E.nd,E.inH,fun a ha=>s.free (E.fresh a ha),E.slot⟩
theorem RetOk.unbase {He He' H:Hp} {O G:List Addr} {p:PV} {v:V} (r:RetOk K He' O p v H G) (s:Same He He'):RetOk K He O p v H G:=
 ⟨s.trans r.same,fun a ha=>s.free (r.fresh a ha),r.inH,r.nd,r.own,r.nv⟩
theorem yC {i:Nat} {fi:FI} {body:FS} (h:tS K W (cM i fi body) D σ H):Bm (tI K W fi) (gName i) (tS K W body) D σ H:=by
 obtain ⟨He,O,Fs,Γ,E,h⟩:=h;refine ⟨He,O,Fs,Γ,E,?_⟩
 unfold cM at h
 cases e:fi Γ with
 | er c Γ1=>rw [e] at h;exact fun H' Fs' s E'=>h σ H' Fs' E'
 | no=>rw [e] at h;exact h
 | ok t Γ1=>
  rw [e] at h;intro J H1 Fs1 vs P s1 E1 n1 it hP hP1 hst hr;have h:jJ K W He O D (if t.st then cv i body t.ds Γ1 else .no):=h
  cases ht:t.st with
  | false=>rw [ht] at h;exact h.elim
  | true=>
   rw [ht] at h;have h:jJ K W He O D (cv i body t.ds Γ1):=h
   obtain ⟨E1',sHe⟩:=E1.rebase;have hlen:vs.length=t.ds.length:=hr.1
   refine ⟨fun k m σ' H'=>m=vs.length-k/\k<=vs.length/\∃Γk Fk,EnvOk K (cQ H1 Fs1.flatten) O Fk H' σ' Γk/\jJ K W He O D (cv i body (t.ds.drop k) Γk),⟨vs.length,by simp,Nat.zero_le _,Γ1,Fs1,E1',by simpa using h⟩,?_⟩
   rintro k m σ' H' ⟨rfl,hk,Γk,Fk,Ek,hw⟩
   have hPk:P H':=hst ht H' Ek.same
   by_cases hlt:k<vs.length
   case neg=>
    left
    have hke:k=vs.length:=by omega
    have:t.ds.drop k=[]:=List.drop_eq_nil_of_le (by omega)
    rw [this] at hw;exact ⟨by rw [hke];exact it.stop H' hPk,hw σ' H' Fk (Ek.unbase sHe)⟩
   case pos=>
    right
    have hv:vs[k]?=some vs[k]:=getElem?_eq_getElem hlt
    have hkd:k<t.ds.length:=by omega
    have hd:t.ds[k]?=some t.ds[k]:=getElem?_eq_getElem hkd
    have hdr:t.ds.drop k=t.ds[k]::t.ds.drop (k+1):=List.drop_eq_getElem_cons hkd
    rw [hdr] at hw;generalize hdk:t.ds[k]=d at hd hw
    generalize hvk:vs[k]=v at hv
    obtain ⟨hgo,hyld⟩:=it.go k H' v hPk hv
    simp only [cv] at hw
    by_cases hi:i<Γk.length
    case neg=>rw [if_neg hi] at hw;exact hw.elim
    rw [if_pos hi] at hw;have rep:Rep K (cQ H' (O++Fk.flatten)) v d:=by
     refine (hr.2 k v d hv hd).mono fun b o hb=>?_
     have hb1:cQ H1 Fs1.flatten b=some o:=sub_hid b o hb
     have hbO:b∉O:=fun z=>by
      unfold cQ at hb;rw [if_pos (mem_append_left _ z)] at hb
      cases hb
     have hbF:b∉Fk.flatten:=fun z=>by
      have:=Ek.fresh b z
      rw [hb1] at this
      cases this
     exact t7 (Ek.same b o hb1) fun z=>(List.mem_append.mp z).elim hbO hbF
    have Ep:EnvOk K (cQ H1 Fs1.flatten) O (Fk.set i []) H' (σ'.set i (some v)) (Γk.set i (some ⟨.leaf,d⟩)):=
     EnvOk.put (G:=[]) (p:=⟨.leaf,d⟩) (v:=v) Ek (.leaf rep) rfl (fun a ha=>by simp at ha) hi
    refine ⟨hgo,fun σ2 H2=>∃Γk Fk,EnvOk K (cQ H1 Fs1.flatten) O Fk H2 σ2 Γk/\jJ K W He O D (cv i body (t.ds.drop (k+1)) Γk),fun σ2 H2 q=>⟨vs.length-(k+1),by omega,rfl,hlt,q⟩,fun x Hx hx=>?_⟩
    obtain ⟨rfl,rfl⟩:=hyld x Hx hx;show tS K W body _ (σ'.set i (some x)) Hx
    refine ⟨cQ H1 Fs1.flatten,O,_,_,Ep,?_⟩
    cases eb:body (Γk.set i (some ⟨.leaf,d⟩)) with
    | nx Γ'=>rw [eb] at hw;exact fun σ2 H2 F2 E2=>⟨Γ',F2,E2,hw⟩
    | ct Γ'=>rw [eb] at hw;exact fun σ2 H2 F2 E2=>⟨Γ',F2,E2,hw⟩
    | bk Γ'=>rw [eb] at hw;exact fun σ2 H2 F2 E2=>hw σ2 H2 F2 (E2.unbase sHe)
    | rt p=>rw [eb] at hw;exact fun u H2 G r=>hw u H2 G (r.unbase sHe)
    | er c Γ'=>rw [eb] at hw;exact fun σ2 H2 F2 E2=>hw σ2 H2 F2 (E2.unbase sHe)
    | no=>rw [eb] at hw;exact hw
end
inductive bD where
 | ok (p:PV) | er (c:Str) | no
def qX (K:Fg) (n:Nat) (den:List PySem.PyData->bD):Sp:=fun vs H Q _=>vs.length=n/\∃O ds,O.Nodup/\(∀a∈O,H a≠none)/\Reps K (cQ H O) vs ds/\match den ds with
 | .ok p=>∀v H' G,RetOk K H O p v H' G->Q v H'
 | .er _=>False
 | .no=>False
def bw (n:Nat) (ds:List PySem.PyData):Ev:=ds.map (fun d=>some ⟨.leaf,d⟩)++List.replicate (n-ds.length) none
def aL (n:Nat) (g:FS) (ds:List PySem.PyData):bD:=match g (bw n ds) with
 | .nx _=>.ok ⟨.leaf,.none⟩
 | .rt p=>.ok p
 | .er c _=>.er c
 | _=>.no
section
variable {P:Program} {w:World} {K:Fg} {mg:Str->Option Value} {base:Heap}
theorem qm {N:List Str} {H:Hp} {O:List Addr} {vs:List V} {ds:List PySem.PyData} (hn:vs.length<=N.length) (nd:O.Nodup) (inH:∀a∈O,H a≠none) (rs:Reps K (cQ H O) vs ds) :
  EnvOk K H O (List.replicate N.length []) H (L2.start N vs) (bw N.length ds):=by
 have fl:(List.replicate N.length ([]:List Addr)).flatten=[]:=by simp
 have hl:=rs.1
 refine ⟨by simp [L2.start,bw,hl],by simp [bw];omega,Same.refl _,by rw [fl];simpa using nd,by rw [fl];simpa using inH,fun a ha=>by rw [fl] at ha;simp at ha,fun i p hp=>?_⟩
 unfold bw at hp;by_cases hi:i<ds.length
 ·rw [getElem?_append_left (by simpa using hi),getElem?_map,getElem?_eq_getElem hi] at hp
  cases hp;refine ⟨rfl,vs[i]'(by omega),[],?_,?_,?_⟩
  ·unfold L2.start
   rw [getElem?_append_left (by simp;omega),getElem?_map,getElem?_eq_getElem (by omega)]
   rfl
  ·rw [getElem?_replicate,if_pos (by omega)]
  ·refine .leaf ?_
   rw [fl,append_nil];exact rs.2 i _ _ (getElem?_eq_getElem _) (getElem?_eq_getElem hi)
 ·rw [getElem?_append_right (by simpa using hi),getElem?_replicate] at hp
  split at hp<;>cases hp
theorem zM {x qual:Str} {st:Stmt} {f:Addr} {fd:FuncData} {N ps:List Str} {k:Nat} {g:FS} (F:Fun K x qual st f fd) (S:eT N ps (iX st))
  (hb:∀(cdv:Value) (A:Around) (outer:List Env) (s:Shared) (H:Hp) (E:XK),Room k (A.deeper (envOfC qual (iX st) s.heap.objs.size f cdv)) ->
   PSs (kZ lA P w K mg base N qual (iX st) f cdv A outer s H E).nox (rf st) (tS K W0 g)):eN P w K mg base lA (k+1) f fd ps (qX K ps.length (aL N.length g)):=by
 have hpl:ps.length<=N.length:=by have:=congrArg List.length S.pre;rw [length_take] at this;omega
 refine F.ok S (fun vs H Q E h=>h.1) (fun cdv A outer s H vs Q E hr h=>⟨_,hb cdv A outer s H E hr,?_⟩)
 obtain ⟨hl,O,ds,nd,inH,rs,w⟩:=h;refine ⟨H,O,List.replicate N.length [],bw N.length ds,qm (by omega) nd inH rs,?_⟩
 unfold aL at w
 cases e:g (bw N.length ds) with
 | nx Γ'=>
  rw [e] at w;exact fun σ' H' Fs' E'=>w .non H' [] ⟨E'.same,(fun _ z=>nomatch z),(fun _ z=>nomatch z),nodup_nil,.leaf .non,rfl⟩
 | rt p=>rw [e] at w;exact w
 | bk Γ'=>rw [e] at w;exact w.elim
 | ct Γ'=>rw [e] at w;exact w.elim
 | er c Γ'=>rw [e] at w;exact w.elim
 | no=>rw [e] at w;exact w.elim
end
def ai (n:Nat) (den:List PySem.PyData->bD) (fl:FL):F1:=fun Γ=>(fl Γ).bind fun ps Γ'=>if ps.length=n then (match den (ps.map (·.d)) with
 | .ok p=>if ps.all (T.coer .leaf) then .ok p Γ' else if bz p.d then .ok ⟨.leaf,p.d⟩ Γ' else .ok ⟨.view,p.d⟩ Γ'
 | _=>.no) else .no
section
variable {K:Fg} {W:XW} {σ:St} {H:Hp} {Q:VK} {fl:FL}
theorem uY {n:Nat} {den:List PySem.PyData->bD} {E:XK} (h:tE K W (ai n den fl) σ H Q):oA (qX K n den) [] E (tA K W fl) σ H Q:=by
 obtain ⟨He,O,Fs,Γ,E0,h⟩:=h;refine ⟨He,O,Fs,Γ,E0,?_⟩
 unfold ai at h
 cases e:fl Γ with
 | er c Γ'=>rw [e] at h;exact h
 | no=>rw [e] at h;exact h
 | ok ps Γ1=>
  rw [e] at h;intro vs H1 Gs Fs1 A;have h:Wants K W He O Fs H σ Q (if ps.length=n then (match den (ps.map (·.d)) with | .ok p=>if ps.all (T.coer .leaf) then .ok p Γ1 else if bz p.d then .ok ⟨.leaf,p.d⟩ Γ1 else .ok ⟨.view,p.d⟩ Γ1 | _=>.no) else .no):=h
  by_cases hn:ps.length=n
  case neg=>rw [if_neg hn] at h;exact h.elim
  rw [if_pos hn] at h;have hl:(vs++[]).length=n:=by rw [append_nil,A.len1];exact hn
  cases ed:den (ps.map (·.d)) with
  | er c=>rw [ed] at h;exact h.elim
  | no=>rw [ed] at h;exact h.elim
  | ok p=>
   rw [ed] at h;have h:Wants K W He O Fs H σ Q (if ps.all (T.coer .leaf) then .ok p Γ1 else if bz p.d then .ok ⟨.leaf,p.d⟩ Γ1 else .ok ⟨.view,p.d⟩ Γ1):=h
   obtain ⟨n1,n2,n3⟩:=List.nodup_append.mp A.env.nd;obtain ⟨m1,m2,m3⟩:=List.nodup_append.mp n1;have newF:∀a∈Fs1.flatten,a∈Fs.flatten\/H a=none:=fun a ha=>A.new a (mem_append_right _ ha)
   cases hc:ps.all (T.coer .leaf) with
   | true=>
    rw [hc] at h;have h:Wants K W He O Fs H σ Q (.ok p Γ1):=h
    refine ⟨hl,O++Fs1.flatten,ps.map (·.d),A.env.dropL.nd,A.env.dropL.inH,?_,?_⟩
    ·rw [append_nil]
     refine ⟨A.reps.1,fun i v d h1 h2=>?_⟩
     rw [getElem?_map] at h2
     cases e2:ps[i]? with
     | none=>rw [e2] at h2;cases h2
     | some q=>
      rw [e2] at h2
      cases h2;have hi:=(List.getElem?_eq_some_iff.mp e2).1
      have e3:Gs[i]?=some (Gs[i]'(by rw [A.len2];exact hi)):=getElem?_eq_getElem _
      have o:=A.own i v q _ h1 e2 e3
      have o2:=o.coer (s:=.leaf) (O':=O++Fs1.flatten) (List.all_eq_true.mp hc q (mem_of_getElem? e2)) lK fun a ha z=>by
       exfalso
       have hG:=hV e3 ha
       rcases List.mem_append.mp z with y | y
       ·exact m3 a hG a y rfl
       ·exact n3 a (mem_append_left _ hG) a y rfl
      cases o2 with
      | leaf r=>exact r
    ·rw [ed]
     intro v H2 G r;refine h v H2 G Fs1 ⟨A.same.trans r.same,A.env.dropL.hide r.same r.nd r.fresh r.inH,fun a ha=>?_,by rw [append_assoc];exact r.own⟩
     rcases List.mem_append.mp ha with z | z
     ·exact .inr (A.same.free (r.fresh a z))
     ·exact newF a z
   | false=>
    rw [hc] at h;have h:Wants K W He O Fs H σ Q (if bz p.d then .ok ⟨.leaf,p.d⟩ Γ1 else .ok ⟨.view,p.d⟩ Γ1):=h
    refine ⟨hl,[],ps.map (·.d),nodup_nil,(fun _ z=>nomatch z),by rw [append_nil,D4];exact A.reps,?_⟩
    rw [ed];intro v H2 G r
    cases hs:bz p.d with
    | true=>
     rw [hs] at h;exact Wants.scal h (r.own.rep.sc hs) (A.same.trans r.same) (A.env.dropL.grow r.same) (fun a ha=>ha) E0.ndO newF
    | false=>
     rw [hs] at h;have h:Wants K W He O Fs H σ Q (.ok ⟨.view,p.d⟩ Γ1):=h
     exact h v H2 [] Fs1 ⟨A.same.trans r.same,by simpa using A.env.dropL.grow r.same,by simpa using newF,.view r.own.rep⟩
end
theorem Ce:bootBuiltins "len"=some (.builtin "len"):=by decide +kernel
theorem Cg:bootBuiltins "all"=some (.builtin "all"):=by decide +kernel
theorem Cf:bootBuiltins "any"=some (.builtin "any"):=by decide +kernel
theorem Cd:bootBuiltins "max"=some (.builtin "max"):=by decide +kernel
theorem Cc:bootBuiltins "min"=some (.builtin "min"):=by decide +kernel
theorem lq:bootBuiltins "isinstance"=some (.builtin "isinstance"):=by decide +kernel
theorem xH:bootBuiltins "int"=some (.type "int"):=by decide +kernel
theorem Dw:bootBuiltins "list"=some (.type "list"):=by decide +kernel
theorem tM:bootBuiltins "bool"=some (.type "bool"):=by decide +kernel
section
variable {X:Cx} {W:XW} {a b c e:Expr} {es:List Expr} {pos:Pos} {fa fb fc:F1} {fl:FL} {ga gb:FB} {g1 g2:FS}
theorem zU {op:CmpOp} {r:R2} {g:PySem.PyData->PySem.PyData->Option PySem.PyData} (ho:OpR X (compareOp op) r) (hg:GOp X.K r g) (ha:PE X a (tE X.K W fa)) (hb:PE X b (tE X.K W fb)) (hm:behindInMarks op b=false:=by with_unfolding_all rfl) :
  PE X (.Compare a [op] [b] pos) (tE X.K W (aw g fa fb)):=bC (vc ho ha hb hm) fun _ _ _=>gJ hg
theorem zO {op:CmpOp} {r:R2} {g:PySem.PyData->PySem.PyData->Option PySem.PyData} (ho:OpR X (compareOp op) r) (hg:GOp X.K r g) (ha:PE X a (tE X.K W fa)) (hb:PE X b (tE X.K W fb)) (hm:behindInMarks op b=false:=by with_unfolding_all rfl) :
  PT X (.Compare a [op] [b] pos) (tT X.K W (aC aj (aw g fa fb))):=tX (u7 ho ha hb hm) fun σ H QB=>uM fun Q=>gJ hg
theorem tJ {op op':CmpOp} {r r':R2} {g g':PySem.PyData->PySem.PyData->Option PySem.PyData} (ho:OpR X (compareOp op) r) (hg:GOp X.K r g) (ho':OpR X (compareOp op') r') (hg':GOp X.K r' g') (ha:PE X a (tE X.K W fa)) (hb:PE X b (tE X.K W fb)) (hc:PE X c (tE X.K W fc))
  (hm:lastMarks [op,op'] [b,c]=false:=by with_unfolding_all rfl):PE X (.Compare a [op,op'] [b,c] pos) (tE X.K W (xN g g' fa fb fc)):=bC (sD ho ho' ha hb hc hm) fun _ _ _=>si hg hg'
theorem da_nil:PA X [] (tA X.K W af):=xM DE fun _ _ _=>yv
theorem da_cons (ha:PE X e (tE X.K W fa)) (hr:PA X es (tA X.K W fl)) (hs:starEach (e::es) X.env=(false,eval e X.env)::starEach es X.env:=by rfl):PA X (e::es) (tA X.K W (ab fa fl)):=xM (CG ha hr hs) fun _ _ _=>uX
theorem mO {x:Str} {id:String} {r:List V->Hp->VK->Prop} {g:List PySem.PyData->Option PySem.PyData} {p:Pos} (hc:CallR X (.builtin id) r) (hg:GCall X.K r g) (hv:bootBuiltins x=some (.builtin id)) (hm:X.mg x=none) (ha:PA X (e::es) (tA X.K W fl)) (hG:Gl X x:=by rfl)
  (hn:x ≠ "__name__":=by decide) (hdb:(x==("__debug__":Str))=false:=by decide) (he:starEach (e::es) X.env=(false,eval e X.env)::starEach es X.env:=by rfl) (hpl:(backTo pos (starEach es X.env)).any (·.1)=false:=by rfl) :
  PE X (.Call (.Name x p) (e::es) [] pos) (tE X.K W (aY g fl)):=bC (DT hc hG hm hv ha hn hdb he hpl) fun _ _ _=>oI hg
theorem B9 {x:Str} {id:String} {r:List V->Hp->VK->Prop} {g:List PySem.PyData->Option PySem.PyData} {p:Pos} (hc:CallR X (.type id) r) (hg:GCall X.K r g) (hv:bootBuiltins x=some (.type id)) (hm:X.mg x=none) (ha:PA X (e::es) (tA X.K W fl)) (hG:Gl X x:=by rfl)
  (hn:x ≠ "__name__":=by decide) (hdb:(x==("__debug__":Str))=false:=by decide) (he:starEach (e::es) X.env=(false,eval e X.env)::starEach es X.env:=by rfl) (hpl:(backTo pos (starEach es X.env)).any (·.1)=false:=by rfl) :
  PE X (.Call (.Name x p) (e::es) [] pos) (tE X.K W (aY g fl)):=bC (j0 hc hG hm hv ha hn hdb he hpl) fun _ _ _=>oI hg
theorem qC {p:Pos} (hm:X.mg "list"=none) (ha:PE X e (tE X.K W fa)) (hG:Gl X "list":=by rfl) (hs:starEach [e] X.env=[(false,eval e X.env)]:=by rfl) :
  PE X (.Call (.Name "list" p) [e] [] pos) (tE X.K W (ia fa)):=bC (j0 lb hG hm Dw (da_cons ha da_nil hs) (by decide) (by decide) hs rfl) fun _ _ _=>pN
theorem vZ {f:Addr} {fd:FuncData} {ps:List Str} {k n:Nat} {den:List PySem.PyData->bD} {x:Str} {p:Pos} (F:eN X.prog X.w X.K X.mg X.base lA k f fd ps (qX X.K n den)) (hr:Room k X.A) (hm:X.mg x=some (.ref f)) (hk:PySem.W.keepIn X.K (.ref f)=true)
  (hb:Binds X.K fd ps []) (ha:PA X (e::es) (tA X.K W fl)) (hg:Gl X x:=by rfl) (hdb:(x==("__debug__":Str))=false:=by decide) (he:starEach (e::es) X.env=(false,eval e X.env)::starEach es X.env:=by rfl)
  (hpl:(backTo pos (starEach es X.env)).any (·.1)=false:=by rfl):PE X (.Call (.Name x p) (e::es) [] pos) (tE X.K W (ai n den fl)):=bC (Ea F hr hg hm hk hb .nil sF ha hdb he hpl) fun _ _ _=>uY
theorem B8 {tg:Expr} {p:Pos} (hm:X.mg "range"=none) (ha:PA X [a] (tA X.K W fl)) (hg:Gl X "range":=by rfl) (hs:starEach [a] X.env=[(false,eval a X.env)]:=by rfl):PI X tg (.Call (.Name "range" p) [a] [] pos) (tI X.K W (cx fl)):=pe (pW hg hm ha hs) fun _ _ _=>yA
theorem B7 {tg:Expr} {p:Pos} (hm:X.mg "range"=none) (ha:PA X [a,b] (tA X.K W fl)) (hg:Gl X "range":=by rfl) (hs:starEach [a,b] X.env=[(false,eval a X.env),(false,eval b X.env)]:=by rfl) (hs2:starEach [b] X.env=[(false,eval b X.env)]:=by rfl) :
  PI X tg (.Call (.Name "range" p) [a,b] [] pos) (tI X.K W (vB fl)):=pe (pV hg hm ha hs hs2) fun _ _ _=>yz
def aE:FB:=fun Γ=>.ok true Γ
theorem vY {scope:Scope} {x:Str} {px:Pos} {iter elt:Expr} {ifs:List Expr} {fi:FI} {fe:F1} {fc:FB} (s:Sh) (i:Nat) (S:dJ X.N [i] X.env.scope scope) (hN:X.N.Nodup) (hi':PI X (.Name x px) iter (tI X.K W fi))
  (hc:∀cells C s₀ H₀ ex,PF (blk X scope cells C s₀ H₀ ex) ifs (tT X.K W0 fc)) (he:∀cells C s₀ H₀ ex,PE (blk X scope cells C s₀ H₀ ex) elt (tE X.K W0 fe))
  (hcalm:X.calm=true:=by rfl) (hx:X.N[i]?=some x:=by rfl) (hl:∀cells C s₀ H₀ ex,Loc (blk X scope cells C s₀ H₀ ex).env.scope x:=by first | exact fun _ _ _ _ _=>Or.inl rfl | exact fun _ _ _ _ _=>Or.inr rfl)
  (hf:∀cells C s₀ H₀ ex,(blk X scope cells C s₀ H₀ ex).fn x=true\/(blk X scope cells C s₀ H₀ ex).env.scope.names.lookup x=some .local:=by first | exact fun _ _ _ _ _=>Or.inr rfl | exact fun _ _ _ _ _=>Or.inl rfl)
  (hs:∀x,foldedSetIterable iter X.env x=pure x:=by intro _;rfl):PE X (.ListComp elt [⟨.Name x px,iter,ifs,0⟩] scope pos) (tE X.K W (av s i fi fc fe)):=
 bC (oS S hcalm hi' (fun cells C s₀ H₀ ex=>rl (X:=blk X scope cells C s₀ H₀ ex) (i:=i) hN hx (hl cells C s₀ H₀ ex) (hf cells C s₀ H₀ ex)) hc he hs) fun _ _ _=>oH
theorem zP (own:Bool) (i:Nat) {x:Str} {pos':Pos} (hN:X.N.Nodup) (ha:PE X a (tE X.K W fa)) (hi:X.N[i]?=some x:=by rfl) (hx:Loc X.env.scope x:=by first | exact Or.inl rfl | exact Or.inr rfl) (hs:swapsWith a (some (.Name x pos')) pos.line X.env=pure false:=by rfl)
  (hf:X.fn x=true\/X.env.scope.names.lookup x=some .local:=by first | exact .inl rfl | exact .inr rfl):PS X (.Assign [.Name x pos'] a pos) (tS X.K W (ax own i fa)):=cL (CA hN hi hx ha hs hf) fun _ _ _=>CB
theorem nS (own:Bool) (j:Nat) {scope:Scope} {x y:Str} {px pos' spos:Pos} {iter elt:Expr} {ifs:List Expr} {fi:FI} {fe:F1} {fc:FB} (s:Sh) (i:Nat) (S:dJ X.N [i] X.env.scope scope) (hN:X.N.Nodup) (hi':PI X (.Name x px) iter (tI X.K W fi))
  (hc:∀cells C s₀ H₀ ex,PF (blk X scope cells C s₀ H₀ ex) ifs (tT X.K W0 fc)) (he:∀cells C s₀ H₀ ex,PE (blk X scope cells C s₀ H₀ ex) elt (tE X.K W0 fe))
  (hsw:swapsWith (.ListComp elt [⟨.Name x px,iter,ifs,0⟩] scope pos) (some (.Name y pos')) spos.line X.env=pure true:=by rfl)
  (hy:X.N[j]?=some y:=by rfl) (hly:X.env.scope.names.lookup y=some .local:=by rfl)
  (hcalm:X.calm=true:=by rfl) (hx:X.N[i]?=some x:=by rfl) (hl:∀cells C s₀ H₀ ex,Loc (blk X scope cells C s₀ H₀ ex).env.scope x:=by first | exact fun _ _ _ _ _=>Or.inl rfl | exact fun _ _ _ _ _=>Or.inr rfl)
  (hf:∀cells C s₀ H₀ ex,(blk X scope cells C s₀ H₀ ex).fn x=true\/(blk X scope cells C s₀ H₀ ex).env.scope.names.lookup x=some .local:=by first | exact fun _ _ _ _ _=>Or.inr rfl | exact fun _ _ _ _ _=>Or.inl rfl)
  (hs:∀x,foldedSetIterable iter X.env x=pure x:=by intro _;rfl):PS X (.Assign [.Name y pos'] (.ListComp elt [⟨.Name x px,iter,ifs,0⟩] scope pos) spos) (tS X.K W (ax own j (av s i fi fc fe))):=
 cL (iA hN hy hly S hcalm hi' (fun cells C s₀ H₀ ex=>rl (X:=blk X scope cells C s₀ H₀ ex) (i:=i) hN hx (hl cells C s₀ H₀ ex) (hf cells C s₀ H₀ ex)) hc he hsw hs) fun D σ H h=>by
  have h2:gO (tE X.K W (av s i fi fc fe)) (gName j) D σ H:=CB h
  exact oH h2
theorem qp (i:Nat) {x:Str} {p apos cpos:Pos} (ha:PE X a (tE X.K W fa)) (hN:X.N[i]?=some x:=by rfl) (hv:Aa X.env.scope x:=by first | exact Or.inl rfl | exact Or.inr (Or.inl rfl) | exact Or.inr (Or.inr rfl)) (hd:(x==("__debug__":Str))=false:=by decide)
  (hcd:(x==("__classdict__":Str))=false:=by decide) (hs:starEach [a] X.env=[(false,eval a X.env)]:=by rfl)
  (hbase:attributeBase (.Name x p) "append" X.env (eval (.Name x p) X.env)=eval (.Name x p) X.env:=by rfl) (hline:(apos.endLine==cpos.line)=true:=by rfl)
  (hfew:((backTo cpos (starEach [a] X.env)).all (fun x=>!x.1)&&(backToKw cpos (keywordEach [] X.env)).all (fun x=>x.1.isSome)
   && decide ([a].length+([]:List Keyword).length+(if ([]:List Keyword).isEmpty then 0 else 1)<30))=true:=by rfl)
  (hsw:swapsWith (.Call (.Attribute (.Name x p) "append" apos) [a] [] cpos) none pos.line X.env=pure false:=by rfl) :
  PS X (.Expr (.Call (.Attribute (.Name x p) "append" apos) [a] [] cpos) pos) (tS X.K W (gr i fa)):=
 cL (AU (sE PySem.F.plainAttrs_list PySem.F.slot_list_append PySem.F.type_list_append En (uh hN hv hd hcd) (da_cons ha da_nil hs) hbase hfew hline hs rfl) hsw) fun _ _ _=>pO
theorem zQ (i:Nat) {x:Str} {px:Pos} {iter:Expr} {body:List Stmt} {fi:FI} {g:FS} (hp:PassesOwn (model X.prog X.w) X.A X.env X.xe) (hN:X.N.Nodup) (hi':PI X (.Name x px) iter (tI X.K W fi)) (hb:PSs X body (tS X.K W g)) (hcalm:X.calm=true:=by rfl)
  (hx:X.N[i]?=some x:=by rfl) (hl:Loc X.env.scope x:=by first | exact Or.inl rfl | exact Or.inr rfl) (hf:X.fn x=true\/X.env.scope.names.lookup x=some .local:=by first | exact .inl rfl | exact .inr rfl)
  (hs:∀x,foldedSetIterable iter X.env x=pure x:=by intro _;rfl):PS X (.For (.Name x px) iter body [] pos) (tS X.K W (cM i fi g)):=
 cL (yN hp hcalm hi' (rl hN hx hl hf) hb hs) fun _ _ _=>yC
end
structure Cp (X:Cx) (N gl:List Str) (vs cs ls lo gs:List Nat):Prop where
 hN:X.N=N
 nd:N.Nodup
 nm:∀x∈N,(x==("__debug__":Str))=false/\(x==("__classdict__":Str))=false
 ng:∀x∈gl,(x==("__debug__":Str))=false/\x ≠ "__name__"
 vis:∀(i:Nat) x,N[i]?=some x->vs.contains i=true->Aa X.env.scope x
 cel:∀(i:Nat) x,N[i]?=some x->cs.contains i=true->X.env.scope.names.lookup x=some .cell\/X.env.scope.names.lookup x=some .free
 loc:∀(i:Nat) x,N[i]?=some x->ls.contains i=true->Loc X.env.scope x/\(X.fn x=true\/X.env.scope.names.lookup x=some .local)
 loo:∀(i:Nat) x,N[i]?=some x->lo.contains i=true->X.env.scope.names.lookup x=some .local
 glb:∀(j:Nat) x,gl[j]?=some x->gs.contains j=true->Gl X x
 calm:X.calm=true
 kind:X.env.scope.kind=.function
def wA (sc:Scope) (ks:List NameKind) (o:Option Str):Bool:=match o with
 | some x=>(match sc.names.lookup x with
  | some k=>ks.any fun z=>decide (z=k)
  | none=>false)
 | none=>true
def qD (N gl:List Str) (vs cs ls lo gs:List Nat) (sc:Scope):Bool:=
 decide (sc.kind=.function)&&(vs.all fun i=>wA sc [.local,.cell,.free] N[i]?)&&(cs.all fun i=>wA sc [.cell,.free] N[i]?)&&(ls.all fun i=>wA sc [.local,.cell] N[i]?)&&(lo.all fun i=>wA sc [.local] N[i]?)&&(gs.all fun j=>wA sc [.globalImplicit] gl[j]?)
def BR (N gl:List Str):Bool:=decide N.Nodup&&(N.all fun x=>!(x==("__debug__":Str))&&!(x==("__classdict__":Str)))&&(gl.all fun x=>!(x==("__debug__":Str))&&!decide (x = "__name__"))
theorem AC {sc:Scope} {ks:List NameKind} {x:Str} (h:wA sc ks (some x)=true):∃k∈ks,sc.names.lookup x=some k:=by
 unfold wA at h;simp only at h
 split at h
 ·rename_i k e
  simp only [any_eq_true,decide_eq_true_eq] at h
  obtain ⟨z,hz,rfl⟩:=h;exact ⟨z,hz,e⟩
 ·cases h
theorem AL {P:Nat->Bool} {l:List Nat} {i:Nat} (h:l.all P=true) (hi:l.contains i=true):P i=true:=by
 rw [all_eq_true] at h;exact h i (by simpa using hi)
structure HG (N gl:List Str) (vs cs ls lo gs:List Nat) (sc:Scope):Prop where
 kind:sc.kind=.function
 vis:∀(i:Nat) x,N[i]?=some x->vs.contains i=true->Aa sc x
 cel:∀(i:Nat) x,N[i]?=some x->cs.contains i=true->sc.names.lookup x=some .cell\/sc.names.lookup x=some .free
 loc:∀(i:Nat) x,N[i]?=some x->ls.contains i=true->Loc sc x
 loo:∀(i:Nat) x,N[i]?=some x->lo.contains i=true->sc.names.lookup x=some .local
 glb:∀(j:Nat) x,gl[j]?=some x->gs.contains j=true->sc.names.lookup x=some .globalImplicit
theorem Dy {N gl:List Str} {vs cs ls lo gs:List Nat} {sc:Scope} (h:qD N gl vs cs ls lo gs sc=true):HG N gl vs cs ls lo gs sc:=by
 unfold qD at h;simp only [Bool.and_eq_true,decide_eq_true_eq] at h
 obtain ⟨⟨⟨⟨⟨h0,h1⟩,h2⟩,h3⟩,h4⟩,h5⟩:=h;refine ⟨h0,fun i x e hi=>?_,fun i x e hi=>?_,fun i x e hi=>?_,fun i x e hi=>?_,fun i x e hi=>?_⟩
 ·have q:=AL h1 hi
  rw [e] at q;obtain ⟨k,hk,q⟩:=AC q;simp only [mem_cons,not_mem_nil,or_false] at hk
  rcases hk with rfl | rfl | rfl
  ·exact .inl q
  ·exact .inr (.inl q)
  ·exact .inr (.inr q)
 ·have q:=AL h2 hi
  rw [e] at q;obtain ⟨k,hk,q⟩:=AC q;simp only [mem_cons,not_mem_nil,or_false] at hk
  rcases hk with rfl | rfl
  ·exact .inl q
  ·exact .inr q
 ·have q:=AL h3 hi
  rw [e] at q;obtain ⟨k,hk,q⟩:=AC q;simp only [mem_cons,not_mem_nil,or_false] at hk
  rcases hk with rfl | rfl
  ·exact .inl q
  ·exact .inr q
 ·have q:=AL h4 hi
  rw [e] at q;obtain ⟨k,hk,q⟩:=AC q;simp only [mem_cons,not_mem_nil,or_false] at hk
  rw [hk] at q;exact q
 ·have q:=AL h5 hi
  rw [e] at q;obtain ⟨k,hk,q⟩:=AC q;simp only [mem_cons,not_mem_nil,or_false] at hk
  rw [hk] at q;exact q
theorem sM {N gl:List Str} (h:BR N gl=true):N.Nodup/\(∀x∈N,(x==("__debug__":Str))=false/\(x==("__classdict__":Str))=false)/\∀x∈gl,(x==("__debug__":Str))=false/\x ≠ "__name__":=by
 unfold BR at h;simp only [Bool.and_eq_true,decide_eq_true_eq,all_eq_true,Bool.not_eq_true',decide_eq_false_iff_not] at h
 exact ⟨h.1.1,h.1.2,h.2⟩
theorem Cp.fn {P:Program} {w:World} {K:Fg} {mg:Str->Option Value} {base:Heap} {N gl:List Str} {vs cs ls lo gs:List Nat} {qual:Str} {sc:Scope} {f:Addr} {cd:Value} {A:Around} {outer:List Env} {s:Shared} {H:Hp} {E:XK}
  (h:qD N gl vs cs ls lo gs sc=true) (h':BR N gl=true):Cp (kZ lA P w K mg base N qual sc f cd A outer s H E).nox N gl vs cs ls lo gs:=by
 obtain ⟨a,b,c⟩:=sM h'
 have q:=Dy h
 exact ⟨rfl,a,b,c,q.vis,q.cel,fun i x e hi=>⟨q.loc i x e hi,.inl rfl⟩,q.loo,q.glb,rfl,q.kind⟩
theorem xb {env:Env} {x:Str} {k:NameKind}:∀{names:List (Str×NameKind)},names.lookup x=some k ->
  (names.map fun (n,k)=>if (k==NameKind.free&&env.scope.kind==.function&&env.kindOf n==some .cell) then (n,NameKind.cell) else (n,k)).lookup x=some k \/
  (k=.free/\(names.map fun (n,k)=>if (k==NameKind.free&&env.scope.kind==.function&&env.kindOf n==some .cell) then (n,NameKind.cell) else (n,k)).lookup x=some .cell)
 | [],h=>by simp at h
 | (n,k')::r,h=>by
  have ih:=@xb env x k r
  rw [map_cons];show List.lookup x ((if (k'==NameKind.free&&env.scope.kind==.function&&env.kindOf n==some .cell)=true then (n,NameKind.cell) else (n,k'))::_)=_\/_/\List.lookup x ((if (k'==NameKind.free&&env.scope.kind==.function&&env.kindOf n==some .cell)=true then (n,NameKind.cell) else (n,k'))::_)=_
  by_cases hc:(k'==NameKind.free&&env.scope.kind==.function&&env.kindOf n==some .cell)=true
  ·rw [if_pos hc]
   cases hx:x==n with
   | true=>
    simp only [lookup_cons,hx] at h ⊢
    cases h;simp only [Bool.and_eq_true,beq_iff_eq] at hc
    exact .inr ⟨hc.1.1,trivial⟩
   | false=>
    simp only [lookup_cons,hx] at h ⊢
    exact ih h
  ·rw [if_neg hc]
   cases hx:x==n with
   | true=>
    simp only [lookup_cons,hx] at h ⊢
    cases h;exact .inl rfl
   | false=>
    simp only [lookup_cons,hx] at h ⊢
    exact ih h
theorem uj {scope:Scope} {env:Env} {x:Str} {k:NameKind} (h:scope.names.lookup x=some k):(relabel scope env).names.lookup x=some k\/(k=.free/\(relabel scope env).names.lookup x=some .cell):=xb h
theorem Cp.blk {X:Cx} {N gl:List Str} {vs cs ls lo gs vs' cs' ls' lo' gs':List Nat} {scope:Scope} (S:Cp X N gl vs cs ls lo gs) (h:qD N gl vs' cs' ls' lo' gs' scope=true) (cells C s₀ H₀ ex) :
  Cp (blk X scope cells C s₀ H₀ ex) N gl vs' cs' ls' lo' gs':=by
 have q:=Dy h
 refine ⟨S.hN,S.nd,S.nm,S.ng,fun i x e hi=>?_,fun i x e hi=>?_,fun i x e hi=>?_,fun i x e hi=>?_,fun i x e hi=>?_,S.calm,q.kind⟩
 ·show Aa (relabel scope X.env) x
  rcases q.vis i x e hi with z | z | z
  ·rcases uj (env:=X.env) z with y | ⟨y,_⟩
   ·exact .inl y
   ·cases y
  ·rcases uj (env:=X.env) z with y | ⟨y,_⟩
   ·exact .inr (.inl y)
   ·cases y
  ·rcases uj (env:=X.env) z with y | ⟨_,y⟩
   ·exact .inr (.inr y)
   ·exact .inr (.inl y)
 ·show (relabel scope X.env).names.lookup x=some .cell\/(relabel scope X.env).names.lookup x=some .free
  rcases q.cel i x e hi with z | z
  ·rcases uj (env:=X.env) z with y | ⟨y,_⟩
   ·exact .inl y
   ·cases y
  ·rcases uj (env:=X.env) z with y | ⟨_,y⟩
   ·exact .inr y
   ·exact .inl y
 ·show Loc (relabel scope X.env) x/\((scope.names.any fun y=>y.1==x&&y.2==.cell)=true\/(relabel scope X.env).names.lookup x=some .local)
  rcases q.loc i x e hi with z | z
  ·rcases uj (env:=X.env) z with y | ⟨y,_⟩
   ·exact ⟨.inl y,.inr y⟩
   ·cases y
  ·rcases uj (env:=X.env) z with y | ⟨y,_⟩
   ·refine ⟨.inr y,.inl ?_⟩
    rw [any_eq_true];exact ⟨(x,.cell),iH z,by simp⟩
   ·cases y
 ·show (relabel scope X.env).names.lookup x=some .local
  rcases uj (env:=X.env) (q.loo i x e hi) with y | ⟨y,_⟩
  ·exact y
  ·cases y
 ·show (relabel scope X.env).names.lookup x=some .globalImplicit
  rcases uj (env:=X.env) (q.glb i x e hi) with y | ⟨y,_⟩
  ·exact y
  ·cases y
def kd (N:List Str) (i:Nat) (cs:List Nat) (sc:Scope):Bool:=
 decide (sc.kind=.function)&&(sc.names.all fun p=>!decide (p.2=.free)||cs.any fun j=>decide (N[j]?=some p.1)) &&
 ((List.range N.length).all fun j=>j==i||(sc.names.all fun p=>!decide (some p.1=N[j]?)||(!decide (p.2=.local)&&!decide (p.2=.cell)))) &&
 (sc.names.all fun p=>!decide (p.2=.local)||decide (sc.names.lookup p.1=some .local)) &&
 (sc.names.all fun p=>!decide (p.2=.free)||sc.names.all fun q=>!decide (q.1=p.1)||!decide (q.2=.cell))
theorem mX {X:Cx} {N gl:List Str} {vs cs ls lo gs:List Nat} {scope:Scope} {i:Nat} (S:Cp X N gl vs cs ls lo gs) (h:kd N i cs scope=true):dJ X.N [i] X.env.scope scope:=by
 unfold kd at h;simp only [Bool.and_eq_true,decide_eq_true_eq,all_eq_true,Bool.or_eq_true,Bool.not_eq_true',decide_eq_false_iff_not,any_eq_true,mem_range,beq_iff_eq] at h
 obtain ⟨⟨⟨⟨h0,h1⟩,h2⟩,h3⟩,h4⟩:=h;refine ⟨h0,fun n hn=>?_,fun j x e hj=>?_,fun x hx e=>?_,fun n hn hc=>?_⟩
 ·rcases h1 _ hn with z | ⟨j,hj,e⟩
  ·exact absurd rfl z
  ·exact S.cel j n e (by simpa using hj)
 ·rw [S.hN] at e
  rcases h2 j (List.getElem?_eq_some_iff.mp e).1 with z | z
  ·rw [z];exact List.mem_singleton.mpr rfl
  ·exfalso
   rcases hj with y | y
   ·rcases z _ y with w | w
    ·exact w e.symm
    ·exact w.1 rfl
   ·rcases z _ y with w | w
    ·exact w e.symm
    ·exact w.2 rfl
 ·rcases h3 x hx with z | z
  ·exact absurd e z
  ·exact z
 ·rcases h4 _ hn with z | z
  ·exact z rfl
  ·rcases z _ hc with w | w
   ·exact w rfl
   ·exact w rfl
structure Fx (X Y:Cx):Prop where
 prog:Y.prog=X.prog
 w:Y.w=X.w
 K:Y.K=X.K
 mg:Y.mg=X.mg
 base:Y.base=X.base
 A:Y.A=X.A
def Rm (X:Cx):Prop:=X.A.units+64<cLine
def AK (X:Cx) (x:Str) (n:Nat) (den:List PySem.PyData->bD):Prop:=∃(k:Nat) (f:Addr) (fd:FuncData) (ps:List Str),eN X.prog X.w X.K X.mg X.base lA k f fd ps (qX X.K n den)/\Room k X.A/\X.mg x=some (.ref f)/\PySem.W.keepIn X.K (.ref f)=true/\Binds X.K fd ps []
def Con (X:Cx) (x:Str) (d:PySem.PyData):Prop:=∃u v,X.mg x=some u/\RelV v u/\∀H,Rep X.K H v d
section
variable {X:Cx} {N gl:List Str} {vs cs ls lo gs:List Nat} {W:XW} {a b c e:Expr} {es:List Expr} {pos p:Pos} {fa fb fc:F1} {fl:FL} {ga gb:FB} {g1 g2:FS}
theorem cm (S:Cp X N gl vs cs ls lo gs) (i:Nat) {x:Str} (hN:N[i]?=some x) (hv:vs.contains i=true):PE X (.Name x pos) (tE X.K W (bB i)):=by
 have m:=S.nm x (mem_of_getElem? hN)
 exact vW (uh (by rw [S.hN];exact hN) (S.vis i x hN hv) m.1 m.2)
theorem Cp.g (S:Cp X N gl vs cs ls lo gs) {j:Nat} {x:Str} (hj:gl[j]?=some x) (hg:gs.contains j=true):Gl X x/\(x==("__debug__":Str))=false/\x ≠ "__name__":=
 ⟨S.glb j x hj hg,S.ng x (mem_of_getElem? hj)⟩
def BC:R2:=fun x y H Q=>oM (fun i j=>.bl (decide (i<j))) x y H Q\/∃i j,x=.str i/\y=.str j/\Q (.bl (decide (i.cps.toList<j.cps.toList))) H
theorem BP:OpR X (compareOp .Lt) BC:=op_lt.or pZ
def zK:PySem.PyData->PySem.PyData->Option PySem.PyData
 | .str i,.str j=>some (.bool (!decide (i.cps.toList<j.cps.toList)))
 | _,_=>none
abbrev kN:PySem.PyData->PySem.PyData->Option PySem.PyData:=fun a b=>(HA a b).or (zK a b)
def yH:R2:=fun x y H Q=>oM (fun i j=>.bl (decide (j<=i))) x y H Q\/∃i j,x=.str i/\y=.str j/\Q (.bl (!decide (i.cps.toList<j.cps.toList))) H
theorem p7:OpR X (compareOp .GtE) (fun x y H Q=>∃i j,x=.str i/\y=.str j/\Q (.bl (!decide (i.cps.toList<j.cps.toList))) H):=by
 intro pins s σ H x y v u Q I rx ry h;obtain ⟨i,j,rfl,rfl,q⟩:=h;obtain ⟨t,rfl⟩:=rx;obtain ⟨t',rfl⟩:=ry;exact PySem.P.ge_str (Cy I q rfl)
theorem BQ:OpR X (compareOp .GtE) yH:=op_ge.or p7
theorem vF {K:Fg}:GOp K (fun x y H Q=>∃i j,x=.str i/\y=.str j/\Q (.bl (!decide (i.cps.toList<j.cps.toList))) H) zK:=by
 intro x y H Q a b d ra rb e k
 cases ra<;>cases rb<;>simp only [zK] at e<;>try cases e
 rename_i i j;exact ⟨i,j,rfl,rfl,k _ (.bl _)⟩
theorem zC {K:Fg}:GOp K yH kN:=(Aj fun _ _=>.bl _).or vF
structure Ck (X:Cx) (op:CmpOp) (r:R2) (g:PySem.PyData->PySem.PyData->Option PySem.PyData):Prop where
 o:OpR X (compareOp op) r
 g:GOp X.K r g
theorem fA (R:Rm X):Ck X .Lt BC dI:=⟨BP,zB⟩
theorem FC (R:Rm X):Ck X .LtE (oM fun i j=>.bl (decide (i<=j))) AJ:=⟨BL,Aj fun _ _=>.bl _⟩
theorem me (R:Rm X):Ck X .Gt (oM fun i j=>.bl (decide (j<i))) eF:=⟨BM,Aj fun _ _=>.bl _⟩
theorem FD (R:Rm X):Ck X .GtE yH kN:=⟨BQ,zC⟩
theorem cn (R:Rm X):Ck X .Eq (pS X.K false) bg:=⟨y6 R,zE⟩
theorem dR (R:Rm X):Ck X .NotEq (pS X.K true) bK:=⟨y0 R,zz⟩
theorem jg (R:Rm X):Ck X .In (sq X.K false) (bV false):=⟨y4 R,tm⟩
theorem oN (R:Rm X):Ck X .NotIn (sq X.K true) (bV true):=⟨pY R,tm⟩
theorem ct {op:CmpOp} {r:R2} {g:PySem.PyData->PySem.PyData->Option PySem.PyData} (k:Ck X op r g) (ha:PE X a (tE X.K W fa)) (hb:PE X b (tE X.K W fb)) (hm:behindInMarks op b=false):PT X (.Compare a [op] [b] pos) (tT X.K W (aC aj (aw g fa fb))):=zO k.o k.g ha hb hm
theorem cc {x:Str} {n:Nat} {den:List PySem.PyData->bD} (S:Cp X N gl vs cs ls lo gs) (j:Nat) (hj:gl[j]?=some x) (hg:gs.contains j=true) (C:AK X x n den) (ha:PA X (e::es) (tA X.K W fl)) (he:starEach (e::es) X.env=(false,eval e X.env)::starEach es X.env) (hpl:(backTo pos (starEach es X.env)).any (·.1)=false) :
  PE X (.Call (.Name x p) (e::es) [] pos) (tE X.K W (ai n den fl)):=by
 obtain ⟨k,f,fd,ps,F,hr,hm,hk,hb⟩:=C;exact vZ F hr hm hk hb ha (S.g hj hg).1 (S.g hj hg).2.1 he hpl
abbrev pf (X:Cx) (N gl:List Str) (vs cs ls lo gs:List Nat) (R:Cx->Prop):Prop:=∀Y:Cx,Cp Y N gl vs cs ls lo gs->Fx X Y->R Y
theorem co {scope:Scope} {x:Str} {px:Pos} {iter elt:Expr} {ifs:List Expr} {fi:FI} {fe:F1} {fc:FB} {vs' cs' lo' gs':List Nat} (S:Cp X N gl vs cs ls lo gs) (s:Sh) (i:Nat) (hx:N[i]?=some x) (h1:kd N i cs scope=true) (h2:qD N gl vs' cs' [i] lo' gs' scope=true)
  (hi':PI X (.Name x px) iter (tI X.K W fi)) (hc:pf X N gl vs' cs' [i] lo' gs' fun Y=>PF Y ifs (tT Y.K W0 fc)) (he:pf X N gl vs' cs' [i] lo' gs' fun Y=>PE Y elt (tE Y.K W0 fe)) (hs:∀x,foldedSetIterable iter X.env x=pure x) :
  PE X (.ListComp elt [⟨.Name x px,iter,ifs,0⟩] scope pos) (tE X.K W (av s i fi fc fe)):=by
 have B:=fun cells C s₀ H₀ ex=>S.blk h2 cells C s₀ H₀ ex
 have L:=fun cells C s₀ H₀ ex=>(B cells C s₀ H₀ ex).loc i x hx (by simp)
 exact vY (X:=X) s i (mX S h1) (by rw [S.hN];exact S.nd) hi' (fun cells C s₀ H₀ ex=>hc _ (B cells C s₀ H₀ ex) ⟨rfl,rfl,rfl,rfl,rfl,rfl⟩) (fun cells C s₀ H₀ ex=>he _ (B cells C s₀ H₀ ex) ⟨rfl,rfl,rfl,rfl,rfl,rfl⟩)
  S.calm (by rw [S.hN];exact hx) (fun cells C s₀ H₀ ex=>(L cells C s₀ H₀ ex).1) (fun cells C s₀ H₀ ex=>(L cells C s₀ H₀ ex).2) hs
theorem il {elt:Expr} {gens:List Comprehension} {scope:Scope} {y:Str} {pos':Pos} {line:Nat} (hk:X.env.scope.kind=.function) (hy:X.env.scope.names.lookup y=some .local) (hl:(pos'.line==pos.line)=true)
  (hn:(scope.names.any fun (n,k)=>n==y&&(k==NameKind.local||k==NameKind.cell))=false):swapsWith (.ListComp elt gens scope pos) (some (.Name y pos')) line X.env=pure true:=by
 have e1:(X.env.blockKind==ScopeKind.function)=true:=by unfold Env.blockKind;rw [hk];rfl
 have e2:(X.env.kindOf y==some NameKind.local)=true:=by unfold Env.kindOf;rw [hy];rfl
 show (pure (X.env.blockKind==.function&&X.env.kindOf y==some .local&&pos'.line==pos.line&&!(scope.names.any fun (n,k)=>n==y&&(k==NameKind.local||k==NameKind.cell))):Sem Bool)=pure true
 rw [e1,e2,hl,hn];rfl
theorem gF {elt:Expr} {gens:List Comprehension} {scope:Scope} {y:Str} {pos':Pos} {line:Nat} (hy:X.env.scope.names.lookup y=some .cell\/X.env.scope.names.lookup y=some .free):swapsWith (.ListComp elt gens scope pos) (some (.Name y pos')) line X.env=pure false:=by
 have e2:(X.env.kindOf y==some NameKind.local)=false:=by
  unfold Env.kindOf;rcases hy with hy | hy<;>rw [hy]<;>rfl
 show (pure (X.env.blockKind==.function&&X.env.kindOf y==some .local&&pos'.line==pos.line&&!(scope.names.any fun (n,k)=>n==y&&(k==NameKind.local||k==NameKind.cell))):Sem Bool)=pure false
 rw [e2,Bool.and_false,Bool.false_and,Bool.false_and]
theorem cs_append (S:Cp X N gl vs cs ls lo gs) (i:Nat) {x:Str} {apos cpos:Pos} (hi:N[i]?=some x) (hv:vs.contains i=true) (ha:PE X a (tE X.K W fa)) (hs:starEach [a] X.env=[(false,eval a X.env)])
  (hbase:attributeBase (.Name x p) "append" X.env (eval (.Name x p) X.env)=eval (.Name x p) X.env) (hline:(apos.endLine==cpos.line)=true)
  (hfew:((backTo cpos (starEach [a] X.env)).all (fun x=>!x.1)&&(backToKw cpos (keywordEach [] X.env)).all (fun x=>x.1.isSome)
   && decide ([a].length+([]:List Keyword).length+(if ([]:List Keyword).isEmpty then 0 else 1)<30))=true)
  (hsw:swapsWith (.Call (.Attribute (.Name x p) "append" apos) [a] [] cpos) none pos.line X.env=pure false) :
  PS X (.Expr (.Call (.Attribute (.Name x p) "append" apos) [a] [] cpos) pos) (tS X.K W (gr i fa)):=
 qp i ha (by rw [S.hN];exact hi) (S.vis i x hi hv) (S.nm x (mem_of_getElem? hi)).1 (S.nm x (mem_of_getElem? hi)).2 hs hbase hline hfew hsw
end
def eU (g:PySem.PyData->Option PySem.PyData) (fa:F1):F1:=bj fa fun p Γ=>match g p.d with
 | some d=>.ok ⟨.leaf,d⟩ Γ
 | none=>.no
def FW:PySem.PyData->Option PySem.PyData
 | .int i=>some (.int (-i))
 | _=>none
def HC (fa fb:F1):F1:=bj fa fun p=>bj fb fun q=>fun Γ=>match p.s,p.d,q.d with
 | .lst .leaf,.list ds,.int k=>if dt k&&decide (ds.length*k.toNat<=sizeLine) then .ok ⟨.lst .leaf,.list (List.replicate k.toNat ds).flatten⟩ Γ else .no
 | _,_,_=>.no
def wO:Option (Option PV)->Bool
 | some (some ⟨.lst .leaf,.list _⟩)=>true
 | _=>false
def yl (i:Nat) (p q:PV) (Γ:Ev):OutS:=match Γ[i]? with
 | some (some ⟨.lst .leaf,.list ds⟩)=>(match q.d with
  | .int k=>(match d6 ds.length k with
   | some j=>if T.coer .leaf p then .nx (Γ.set i (some ⟨.lst .leaf,.list (ds.set j p.d)⟩)) else .no
   | none=>.no)
  | _=>.no)
 | _=>.no
def dk (i:Nat) (fv fk:F1):FS:=fun Γ=>if wO Γ[i]? then fz fv (fun p=>fz fk (yl i p)) Γ else .no
def ES (i:Nat):FS:=fun Γ=>match Γ[i]? with
 | some (some ⟨.lst .leaf,.list ds⟩)=>if ds.isEmpty then .no else .nx (Γ.set i (some ⟨.lst .leaf,.list ds.dropLast⟩))
 | _=>.no
def je (i:Nat) (g:FS):FS:=fun Γ=>match Γ[i]? with
 | some (some p)=>g (Γ.set i (some ⟨.leaf,p.d⟩))
 | _=>.no
def wG (n:Nat) (ss:List Sh) (ds:List PySem.PyData):Ev:=(ss.zip ds).map (fun x=>some ⟨x.1,x.2⟩)++List.replicate (n-ds.length) none
section
variable {K:Fg} {W:XW} {σ:St} {H:Hp} {Q:VK} {D:du} {fa fb:F1} {fl:FL}
theorem Ei:∀{Fs:List (List Addr)},(∀F∈Fs,F=[])->Fs.flatten=[]
 | [],_=>rfl
 | F::r,h=>by rw [flatten_cons,h F mem_cons_self,Ei fun G hG=>h G (mem_cons_of_mem _ hG)];rfl
theorem Own.leaves {O:List Addr} {G:List Addr} {v:V} {ds:List PySem.PyData} (h:Own K O H (.lst .leaf) G v (.list ds)):∃l vs,v=.ref l/\G=[l]/\H l=some (.lst vs)/\vs.length=ds.length/\∀(j:Nat) u d,vs[j]?=some u->ds[j]?=some d->Rep K (cQ H O) u d:=by
 cases h with
 | @lst _ l vs _ Fs hsv hp hl hf nd q=>
  have hF:∀F∈Fs,F=[]:=fun F hF=>by
   obtain ⟨j,hj,e⟩:=getElem_of_mem hF;have o:=q j (vs[j]'(by omega)) (ds[j]'(by omega)) F (getElem?_eq_getElem _) (getElem?_eq_getElem _) (by rw [getElem?_eq_getElem hj,e])
   cases o;rfl
  refine ⟨l,vs,rfl,by rw [Ei hF],hp,hl,fun j u d h1 h2=>?_⟩
  have hj:=(List.getElem?_eq_some_iff.mp h2).1
  have o:=q j u d (Fs[j]'(by omega)) h1 h2 (getElem?_eq_getElem _)
  generalize Fs[j]'(by omega)=F at o
  cases o with
  | leaf r=>exact r
theorem Own.mkLeaves {O:List Addr} {l:Addr} {vs:List V} {ds:List PySem.PyData} (hp:H l=some (.lst vs)) (hl:vs.length=ds.length) (q:∀(j:Nat) u d,vs[j]?=some u->ds[j]?=some d->Rep K (cQ H O) u d):Own K O H (.lst .leaf) [l] (.ref l) (.list ds):=by
 have hF:(List.replicate ds.length ([]:List Addr)).flatten=[]:=Ei fun F hF=>(List.mem_replicate.mp hF).2
 have o:Own K O H (.lst .leaf) (l::(List.replicate ds.length ([]:List Addr)).flatten) (.ref l) (.list ds):=by
  refine .lst rfl hp hl (by simp) (by rw [hF];simp) fun j u d F h1 h2 h3=>?_
  have:F=[]:=(List.mem_replicate.mp (mem_of_getElem? h3)).2
  subst this;exact .leaf (q j u d h1 h2)
 rw [hF] at o;exact o
theorem ye {k:PV->PV->Ev->OutS} {R:V->V->Hp->Prop} (h:tS K W (fz fa fun p=>fz fb (k p)) D σ H)
  (hk:∀He O Γ2 p q v u H1 H2 G1 G2 Fs2,O.Nodup->Same H H1->Same H1 H2->EnvOk K He (G2++(G1++O)) Fs2 H2 σ Γ2->(∀a∈G2++G1,He a=none) ->
   Own K (G2++(G1++O)++Fs2.flatten) H2 p.s G1 v p.d->Own K (G2++(G1++O)++Fs2.flatten) H2 q.s G2 u q.d->jJ K W He O D (k p q Γ2)->R v u H2) :
  tE K W fa σ H fun v H1=>tE K W fb σ H1 fun u H2=>R v u H2:=by
 refine fJ h fun He O Fs Γ1 p v H1 G1 Fs1 _ fr A1 h1=>?_
 refine ⟨He,G1++O,Fs1,Γ1,A1.env,?_⟩
 unfold fz at h1;have nd:O.Nodup:=(List.nodup_append.mp A1.env.ndO).2.1
 cases e:fb Γ1 with
 | ok q Γ2=>
  rw [e] at h1;intro u H2 G2 Fs2 A2;refine hk He O Γ2 p q v u H1 H2 G1 G2 Fs2 nd A1.same A2.same A2.env (fun a ha=>?_) (A1.own.mono A2.same fun a ha=>?_) A2.own h1
  ·rcases List.mem_append.mp ha with z | z
   ·exact A2.freshG A1.env a z
   ·exact fr a z
  ·rcases List.mem_append.mp ha with z | z
   ·rcases List.mem_append.mp z with z | z
    ·rcases A2.new a (mem_append_left _ z) with y | y
     ·exact .inl (mem_append_right _ y)
     ·exact .inr y
    ·exact .inl (mem_append_left _ z)
   ·rcases A2.new a (mem_append_right _ z) with y | y
    ·exact .inl (mem_append_right _ y)
    ·exact .inr y
 | er c Γ2=>
  rw [e] at h1;intro H2 Fs2 hs E2;exact h1 σ H2 Fs2 E2.dropL
 | no=>
  rw [e] at h1;exact h1
theorem uC {Q':VK} (h:tE K W fa σ H Q) (hq:∀v H',Q v H'->Q' v H'):tE K W fa σ H Q':=by
 obtain ⟨He,O,Fs,Γ,E,h⟩:=h;refine ⟨He,O,Fs,Γ,E,?_⟩
 cases e:fa Γ with
 | ok p Γ'=>rw [e] at h;exact fun v H' G Fs' A=>hq v H' (h v H' G Fs' A)
 | er c Γ'=>rw [e] at h;exact h
 | no=>rw [e] at h;exact h
theorem EnvOk.chg {He:Hp} {O:List Addr} {Fs:List (List Addr)} {Γ:Ev} {i:Nat} {ds:List PySem.PyData} (E:EnvOk K He O Fs H σ Γ) (h:Γ[i]?=some (some ⟨.lst .leaf,.list ds⟩)) :
  ∃l vs,σ[i]?=some (some (.ref l))/\H l=some (.lst vs)/\vs.length=ds.length/\(∀(j:Nat) u d,vs[j]?=some u->ds[j]?=some d->Rep K (cQ H (O++Fs.flatten)) u d) /\
   ∀(vs':List V) (ds':List PySem.PyData),vs'.length=ds'.length->(∀(j:Nat) u d,vs'[j]?=some u->ds'[j]?=some d->Rep K (cQ H (O++Fs.flatten)) u d)->∃Fs',EnvOk K He O Fs' (cF H l (.lst vs')) σ (Γ.set i (some ⟨.lst .leaf,.list ds'⟩)):=by
 obtain ⟨hv,v,F,h1,E1,o1,sub⟩:=E.move h;have hi:i<Γ.length:=(List.getElem?_eq_some_iff.mp h).1
 obtain ⟨_,v0,F0,h10,h20,o0⟩:=E.slot i _ h;obtain ⟨l,vs,rfl,rfl,hp,hl,hr⟩:=o1.leaves;obtain ⟨l',vs',e0,e1,hp',hl',hr'⟩:=o0.leaves;rw [h1] at h10
 cases h10
 cases e0;rw [hp] at hp'
 cases hp'
 refine ⟨l,vs,h1,hp,hl,hr',fun ws ds' hw q=>?_⟩
 have hlF:l∈Fs.flatten:=sub l (mem_append_left _ (List.mem_singleton.mpr rfl))
 have hHe:He l=none:=E.fresh l hlF
 have E4:=E1.mutO (o:=.lst ws) (mem_append_left _ (List.mem_singleton.mpr rfl)) hp hHe
 have ownL:Own K ([l]++O++(Fs.set i []).flatten) (cF H l (.lst ws)) (.lst .leaf) [l] (.ref l) (.list ds'):=by
  refine Own.mkLeaves iY hw fun j u d a1 a2=>?_
  rw [D5 (mem_append_left _ (mem_append_left _ (List.mem_singleton.mpr rfl)))];refine (q j u d a1 a2).mono (wH (Same.refl _) fun a ha=>.inl ?_)
  rcases List.mem_append.mp ha with z | z
  ·rcases List.mem_append.mp z with z | z
   ·rw [List.mem_singleton.mp z];exact mem_append_right _ hlF
   ·exact mem_append_left _ z
  ·exact mem_append_right _ (sub a (mem_append_right _ z))
 have fin:=EnvOk.put (i:=i) (p:=⟨.lst .leaf,.list ds'⟩) (v:=.ref l) E4 ownL rfl (fun a ha=>by rw [List.mem_singleton.mp ha];exact hHe) (by rw [length_set];exact hi)
 rw [set_set,set_set,wK h1] at fin;exact ⟨_,fin⟩
theorem nJ {o:Option (Option PV)} (h:wO o=true):∃ds,o=some (some ⟨.lst .leaf,.list ds⟩):=by
 unfold wO at h;split at h
 ·exact ⟨_,rfl⟩
 ·cases h
theorem uO {i:Nat} (h:tS K W (dk i fa fb) D σ H):gO (tE K W fa) (L2.gSub (dE i) (tE K W fb) iz) D σ H:=by
 obtain ⟨He,O,Fs,Γ,E,h⟩:=h;unfold dk at h
 cases ho:wO Γ[i]? with
 | false=>rw [ho] at h;exact h.elim
 | true=>
  rw [ho] at h;obtain ⟨ds,e0⟩:=nJ ho;obtain ⟨l,vs,h1,h2,h3,_,_⟩:=E.chg e0;refine uC (ye (D:=D) (R:=fun v u H2=>iz (.ref l) u v H2 fun H3=>D.nx σ H3) ⟨He,O,Fs,Γ,E,h⟩ fun He O Γ2 p q v u H1 H2 G1 G2 Fs2 nd s1 s2 E2 fr o1 o2 w=>?_) fun v H' q=>⟨.ref l,h1,q⟩
  unfold yl at w;split at w
  ·rename_i ds1 e1
   split at w
   ·rename_i k ek
    split at w
    ·rename_i j ej
     cases hc:T.coer .leaf p with
     | false=>rw [hc] at w;exact w.elim
     | true=>
      rw [hc] at w;have E3:EnvOk K He O Fs2 H2 σ Γ2:=E2.drop (fun a ha=>mem_append_right _ (mem_append_right _ ha)) nd
      obtain ⟨l1,vs1,q1,q2,q3,q4,q5⟩:=E3.chg e1;rw [h1] at q1
      cases q1;have hu:=o2.rep
      rw [ek] at hu
      cases hu;have ov:Own K (O++Fs2.flatten) H2 .leaf [] v p.d:=by
       refine o1.coer (s:=.leaf) hc (fun a ha=>?_) fun a ha z=>?_
       ·rcases List.mem_append.mp ha with z | z
        ·exact mem_append_left _ (mem_append_right _ (mem_append_right _ z))
        ·exact mem_append_right _ z
       ·exfalso
        have ndE:=E2.nd
        rw [append_assoc] at ndE;have n2:=(List.nodup_append.mp ndE).2.1
        rw [append_assoc] at n2;exact (List.nodup_append.mp n2).2.2 a ha a z rfl
      cases ov with
      | leaf rv=>
       have ixl:d6 vs1.length k=some j:=by rw [q3];exact ej
       obtain ⟨Fs',E4⟩:=q5 (vs1.set j v) (ds1.set j p.d) (by rw [length_set,length_set,q3]) fun m x d a1 a2=>by
        by_cases hm:m=j
        ·subst hm
         rw [getElem?_set] at a1 a2
         rw [if_pos rfl] at a1 a2
         split at a1
         ·split at a2
          ·cases a1;cases a2;exact rv
          ·cases a2
         ·cases a1
        ·rw [getElem?_set_ne (Ne.symm hm)] at a1 a2
         exact q4 m x d a1 a2
       exact ⟨l,vs1,k,j,rfl,rfl,q2,ixl,w σ _ Fs' E4⟩
    ·exact w.elim
   ·exact w.elim
  ·exact w.elim
theorem yB {i:Nat} {g:FS} (h:tS K W (je i g) D σ H):tS K W g D σ H:=by
 obtain ⟨He,O,Fs,Γ,E,h⟩:=h;unfold je at h;split at h
 ·rename_i p e0
  obtain ⟨hv,v,F,h1,E1,o1,sub⟩:=E.move e0;have hi:i<Γ.length:=(List.getElem?_eq_some_iff.mp e0).1
  have c:T.coer .leaf p=true:=by show (!p.s.isView||bz p.d)=true;rw [hv];rfl
  have o:=o1.coer (s:=.leaf) (O':=O++(Fs.set i []).flatten) c lK fun a ha z=>by
   exfalso
   have nd:=E1.nd
   rw [append_assoc] at nd;exact (List.nodup_append.mp nd).2.2 a ha a z rfl
  have E2:EnvOk K He O ((Fs.set i []).set i []) H (σ.set i (some v)) ((Γ.set i none).set i (some ⟨.leaf,p.d⟩)):=
   EnvOk.put (G:=[]) (p:=⟨.leaf,p.d⟩) (v:=v) (by rw [nil_append];exact E1.dropL) (by rw [nil_append];exact o) rfl (fun a ha=>by simp at ha) (by rw [length_set];exact hi)
  rw [set_set,set_set,wK h1] at E2;exact ⟨He,O,_,_,E2,h⟩
 ·exact h.elim
end
section
variable {P:Program} {w:World} {K:Fg} {mg:Str->Option Value} {base:Heap}
theorem nQ {N:List Str} {H:Hp} {O:List Addr} {Gs:List (List Addr)} {ss:List Sh} {vs:List V} {ds:List PySem.PyData} (hn:ss.length<=N.length) (hv:vs.length=ss.length) (hG:Gs.length=ss.length) (hd:ds.length=ss.length) (nd:(Gs.flatten++O).Nodup) (inH:∀a∈Gs.flatten++O,H a≠none) (nv:∀s∈ss,s.isView=false)
  (ow:∀(i:Nat) v d G s,vs[i]?=some v->ds[i]?=some d->Gs[i]?=some G->ss[i]?=some s->Own K (Gs.flatten++O) H s G v d) :
  EnvOk K (cQ H Gs.flatten) O (Gs++List.replicate (N.length-ss.length) []) H (L2.start N vs) (wG N.length ss ds):=by
 have fl:(Gs++List.replicate (N.length-ss.length) ([]:List Addr)).flatten=Gs.flatten:=by simp
 have pm:(O++Gs.flatten).Perm (Gs.flatten++O):=perm_append_comm
 refine ⟨by simp [L2.start,wG,hd,hv],by simp [wG,hd,hG],hid_le,by rw [fl];exact pm.nodup_iff.mpr nd,fun a ha=>inH a (by rw [fl] at ha;exact pm.mem_iff.mp ha),fun a ha=>by rw [fl] at ha;unfold cQ;rw [if_pos ha],fun i p hp=>?_⟩
 unfold wG at hp;have hzl:((ss.zip ds).map (fun x=>some (⟨x.1,x.2⟩:PV))).length=ss.length:=by simp [hd]
 by_cases hi:i<ss.length
 ·rw [getElem?_append_left (by rw [hzl];exact hi),getElem?_map] at hp
  have hz:(ss.zip ds)[i]?=some (ss[i]'hi,ds[i]'(by omega)):=by
   rw [getElem?_eq_getElem (by simp;omega),List.getElem_zip]
  rw [hz] at hp
  cases hp;refine ⟨nv _ (getElem_mem _),vs[i]'(by omega),Gs[i]'(by omega),?_,?_,?_⟩
  ·unfold L2.start
   rw [getElem?_append_left (by simp;omega),getElem?_map,getElem?_eq_getElem (by omega)]
   rfl
  ·rw [getElem?_append_left (by omega),getElem?_eq_getElem]
  ·refine (ow i _ _ _ _ (getElem?_eq_getElem _) (getElem?_eq_getElem (by omega)) (getElem?_eq_getElem (by omega)) (getElem?_eq_getElem hi)).perm fun a ha=>?_
   rw [fl] at ha;exact pm.mem_iff.mp ha
 ·rw [getElem?_append_right (by rw [hzl];omega),getElem?_replicate] at hp
  split at hp<;>cases hp
end
theorem Own.step {K:Fg} {O O' M:List Addr} {H H':Hp} {s:Sh} {G:List Addr} {v:V} {d:PySem.PyData} (h:Own K O H s G v d) (hs:s.isView=false) (e:Same (cQ H M) H') (hM:∀a∈M,a∈O) (hG:∀a∈G,a∉M) (hO:∀a∈O',a∈O\/cQ H M a=none):Own K O' H' s G v d:=by
 induction h with
 | view r=>cases hs
 | leaf r=>
  refine .leaf (r.mono fun b o q=>?_)
  have hb:b∉O:=fun z=>by unfold cQ at q;rw [if_pos z] at q;cases q
  have q1:H b=some o:=hid_le b o q
  have q2:cQ H M b=some o:=t7 q1 fun z=>hb (hM b z)
  exact t7 (e b o q2) fun z=>(hO b z).elim hb fun y=>by rw [q2] at y;cases y
 | lst hv hp hl hf nd q ih=>exact .lst hv (e _ _ (t7 hp (hG _ mem_cons_self))) hl hf nd fun i v d F h1 h2 h3=>ih i v d F h1 h2 h3 hv fun a ha=>hG a (mem_cons_of_mem _ (hV h3 ha))
 | @tup ss p vs ds Fs hv hp hn hl hf hs' nd q ih=>
  have q2:cQ H M p=some (.tup vs):=t7 hp fun z=>hn (hM _ z)
  exact .tup hv (e _ _ q2) (fun z=>(hO _ z).elim hn fun y=>by rw [q2] at y;cases y) hl hf hs' nd fun i v d F s h1 h2 h3 h4=>ih i v d F s h1 h2 h3 h4 (hv _ (mem_of_getElem? h4)) fun a ha=>hG a (hV h3 ha)
section
variable {K:Fg} {W:XW} {σ:St} {H:Hp} {Q:VK} {D:du} {fa fb:F1} {fl:FL}
theorem EnvOk.step {He H':Hp} {O G M:List Addr} {Fs:List (List Addr)} {Γ:Ev} (E:EnvOk K He (M++O) Fs H σ Γ) (e:Same (cQ H M) H') (hHe:∀a∈M,He a=none) (gn:G.Nodup) (gf:∀a∈G,cQ H M a=none) (gi:∀a∈G,H' a≠none):EnvOk K He (G++O) Fs H' σ Γ:=by
 have nd:=E.nd
 rw [append_assoc] at nd;obtain ⟨n1,n2,n3⟩:=List.nodup_append.mp nd;have st:∀a∈O++Fs.flatten,H' a≠none/\a∉G:=fun a ha=>by
  have h1:H a≠none:=E.inH a (by rw [append_assoc];exact mem_append_right _ ha)
  cases h2:H a with
  | none=>exact absurd h2 h1
  | some o=>
   have h3:cQ H M a=some o:=t7 h2 fun z=>n3 a z a ha rfl
   exact ⟨by rw [e a o h3];exact Option.some_ne_none _,fun z=>by have:=gf a z;rw [h3] at this;cases this⟩
 refine ⟨E.len1,E.len2,fun b o q=>e b o (t7 (E.same b o q) fun z=>by have:=hHe b z;rw [q] at this;cases this),?_,fun a ha=>?_,E.fresh,fun i p q=>?_⟩
 ·rw [append_assoc]
  exact List.nodup_append.mpr ⟨gn,n2,fun a ha b hb z=>(st b hb).2 (z▸ha)⟩
 ·rw [append_assoc] at ha
  rcases List.mem_append.mp ha with z | z
  ·exact gi a z
  ·exact (st a z).1
 ·obtain ⟨hv,v,F,h1,h2,h3⟩:=E.slot i p q
  refine ⟨hv,v,F,h1,h2,h3.step hv e (fun a ha=>mem_append_left _ (mem_append_left _ ha)) (fun a ha z=>n3 a z a (mem_append_right _ (hV h2 ha)) rfl) fun a ha=>?_⟩
  rw [append_assoc] at ha;rcases List.mem_append.mp ha with z | z
  ·exact .inr (gf a z)
  ·exact .inl (by rw [append_assoc];exact mem_append_right _ z)
theorem Eh:∀{Gs:List (List Addr)} {i j:Nat} {A B:List Addr},Gs.flatten.Nodup->Gs[i]?=some A->Gs[j]?=some B->i≠j->∀a∈A,a∉B
 | G::Gs,0,j+1,A,B,nd,h1,h2,_,a,ha=>by
  rw [flatten_cons] at nd;simp at h1 h2
  subst h1;exact fun z=>(List.nodup_append.mp nd).2.2 a ha a (hV h2 z) rfl
 | G::Gs,i+1,0,A,B,nd,h1,h2,_,a,ha=>by
  rw [flatten_cons] at nd;simp at h1 h2
  subst h2;exact fun z=>(List.nodup_append.mp nd).2.2 a z a (hV h1 ha) rfl
 | G::Gs,i+1,j+1,A,B,nd,h1,h2,hij,a,ha=>by
  rw [flatten_cons] at nd;exact Eh (Gs:=Gs) (i:=i) (j:=j) (List.nodup_append.mp nd).2.1 (by simpa using h1) (by simpa using h2) (by omega) a ha
 | G::Gs,0,0,A,B,_,_,_,h,_,_=>absurd rfl h
 | [],i,j,A,B,_,h1,_,_,_,_=>by simp at h1
end
section
variable {X:Cx}
variable {N gl:List Str} {vs cs ls lo gs:List Nat} {W:XW} {a b c e:Expr} {es:List Expr} {pos p:Pos} {fa fb fc:F1} {fl:FL} {g:FS}
theorem cs_setI (S:Cp X N gl vs cs ls lo gs) (i:Nat) {x:Str} {px pos':Pos} (hi:N[i]?=some x) (hv:vs.contains i=true) (ha:PE X a (tE X.K W fa)) (hb:PE X b (tE X.K W fb))
  (hs:swapsWithSole [.Subscript (.Name x px) b pos'] a pos.line X.env=pure false) (hw:swappedStores [.Subscript (.Name x px) b pos'] a X.env=pure none)
  (h1:(assignEach [.Subscript (.Name x px) b pos'] X.env).map (·.2)=[assign (.Subscript (.Name x px) b pos') X.env])
  (has:∀v,assign (.Subscript (.Name x px) b pos') X.env v=(do
   let ov <-holding [v] (eval (.Name x px) X.env)
   let iv <-holding [v,ov] (eval b X.env)
   standAt pos'
   holding [v,ov,iv] (setItem ov iv v)
   release [v,ov,iv] [])):PS X (.Assign [.Subscript (.Name x px) b pos'] a pos) (tS X.K W (dk i fa fb)):=by
 have m:=S.nm x (mem_of_getElem? hi)
 exact cL (DG ha (sy (uh (by rw [S.hN];exact hi) (S.vis i x hi hv) m.1 m.2) hb lO has) hs hw h1) fun _ _ _=>uO
end
def wy:Expr->Bool
 | .Starred ..=>true
 | _=>false
theorem eP {e:Expr} {es:List Expr} {env:Env} (h:wy e=false):starEach (e::es) env=(false,eval e env)::starEach es env:=by
 cases e<;>first | rfl | cases h
theorem eX {a:Expr} {env:Env} (h:wy a=false):starEach [a] env=[(false,eval a env)]:=eP h
theorem rU {a b:Expr} {env:Env} (h:wy a=false) (h2:wy b=false):starEach [a,b] env=[(false,eval a env),(false,eval b env)]:=by rw [eP h,eX h2]
def DefOk (P:Program) (w:World) (K:Fg) (mg:Str->Option Value) (base:Heap) (j:Nat) (x:Str) (n:Nat) (den:List PySem.PyData->bD):Prop:=
 ∃(f:Addr) (fd:FuncData) (ps:List Str),eN P w K mg base lA j f fd ps (qX K n den)/\mg x=some (.ref f)/\PySem.W.keepIn K (.ref f)=true/\Binds K fd ps []
def og (K:Fg) (mg:Str->Option Value) (x:Str) (d:PySem.PyData):Prop:=∃u v,mg x=some u/\RelV v u/\∀H,Rep K H v d
theorem DefOk.cal {X:Cx} {j k n:Nat} {x:Str} {den:List PySem.PyData->bD} (h:DefOk X.prog X.w X.K X.mg X.base j x n den) (hr:Room k X.A) (hj:decide (j<=k)=true):AK X x n den:=by
 obtain ⟨f,fd,ps,F,a,b,c⟩:=h;exact ⟨j,f,fd,ps,F,hr.mono (of_decide_eq_true hj),a,b,c⟩
def ER:PySem.PyData->V
 | .none=>.non
 | .bool b=>.bl b
 | .int i=>.int i
 | .str x=>.str x
 | _=>.non
def qF:List Value->List PySem.PyData->Bool
 | .int i _::r,.int j::ds=>decide (i=j)&&qF r ds
 | .str x _::r,.str y::ds=>decide (x=y)&&qF r ds
 | [],[]=>true
 | _,_=>false
theorem D3:∀{us:List Value} {ds:List PySem.PyData},qF us ds=true->Vals (ds.map ER) us/\∀d∈ds,Sc (ER d) d
 | [],[],_=>⟨.nil,fun d hd=>(nomatch hd)⟩
 | .int i t::r,.int j::ds,h=>by
  simp only [qF,Bool.and_eq_true,decide_eq_true_eq] at h
  obtain ⟨rfl,h⟩:=h;obtain ⟨a,b⟩:=D3 h;refine ⟨.cons ⟨t,rfl⟩ a,fun d hd=>?_⟩
  rcases List.mem_cons.mp hd with z | z
  ·rw [z];exact .int i
  ·exact b d z
 | .str i t::r,.str j::ds,h=>by
  simp only [qF,Bool.and_eq_true,decide_eq_true_eq] at h
  obtain ⟨rfl,h⟩:=h;obtain ⟨a,b⟩:=D3 h;refine ⟨.cons ⟨t,rfl⟩ a,fun d hd=>?_⟩
  rcases List.mem_cons.mp hd with z | z
  ·rw [z];exact .str i
  ·exact b d z
def zX (its:Array Value) (ds:List PySem.PyData):Bool:=decide (its.size<=sizeLine)&&qF its.toList ds
theorem v5 {K:Fg} {mg:Str->Option Value} {x:Str} {a:Addr} {dd:Option Addr} {its:Array Value} {n:Nat} {sl:Array (Option Value)} {ds:List PySem.PyData} (hm:mg x=some (.ref a)) (l:K.lookup a=some ⟨.type "tuple",dd,.seq its n,sl⟩) (h:zX its ds=true):og K mg x (.tuple ds):=by
 unfold zX at h;simp only [Bool.and_eq_true,decide_eq_true_eq] at h
 obtain ⟨v,s⟩:=D3 h.2;refine ⟨.ref a,.ref a,hm,rfl,fun H=>.tup (vs:=ds.map ER) (.inr ⟨_,its,n,l,rfl,rfl,h.1,v⟩) (by simp) fun i v d h1 h2=>?_⟩
 rw [getElem?_map,h2] at h1
 cases h1;exact (s d (mem_of_getElem? h2)).rep
theorem v7 {K:Fg} {mg:Str->Option Value} {x:Str} {i:Int} {t:Tok} (hm:mg x=some (.int i t)):og K mg x (.int i):=⟨.int i t,.int i,hm,⟨t,rfl⟩,fun H=>.int i⟩
theorem zk {K:Fg} {m:List PySem.PyData->bD} {H:Hp} {a:Addr} {ns:List Int} {E:XK} (h:m [.list (ns.map .int)]=.ok ⟨.leaf,.bool true⟩) (hS:SqL K H a (ns.map V.int)):qX K 1 m [.ref a] H (fun v _=>v=.bl true) E:=by
 refine ⟨rfl,[],[.list (ns.map .int)],nodup_nil,(fun _ z=>nomatch z),⟨rfl,fun i v d h1 h2=>?_⟩,?_⟩
 ·rw [D4]
  match i,h1,h2 with
  | 0,h1,h2=>
   cases h1
   cases h2;refine .lst hS (by simp) fun i v d h1 h2=>?_
   rw [getElem?_map] at h1 h2
   cases e:ns[i]? with
   | none=>rw [e] at h1;cases h1
   | some z=>
    rw [e] at h1 h2
    cases h1
    cases h2;exact .int z
  | i+1,h1,h2=>simp at h1
 ·rw [h]
  intro v H' G r
  have o:=r.own.rep
  cases o;rfl
end T
namespace TQ
open PySem PySem.Spec L2 T
open PyProof.Rows hiding St
structure Q (p:Prop):Prop where
 p:p
section
variable {X:Cx} {N gl:List Str} {vs cs ls lo gs:List Nat} {W:XW} {a b c e:Expr} {es:List Expr} {pos p:Pos} {fa fb fc:F1} {fl:FL} {ga gb:FB} {g1 g2 g:FS}
theorem EI (S:Cp X N gl vs cs ls lo gs) (i:Nat) {x:Str} (hN:N[i]?=some x) (hv:vs.contains i=true):Q (PE X (.Name x pos) (tE X.K W (ae i))):=⟨by
 have m:=S.nm x (mem_of_getElem? hN)
 exact zT (uh (by rw [S.hN];exact hN) (S.vis i x hN hv) m.1 m.2)⟩
theorem fI (S:Cp X N gl vs cs ls lo gs) (i:Nat) {x:Str} (hN:N[i]?=some x) (hv:vs.contains i=true):Q (PE X (.Name x pos) (tE X.K W (bB i))):=⟨T.cm S i hN hv⟩
theorem uv (S:Cp X N gl vs cs ls lo gs) (j:Nat) {x:Str} {d:PySem.PyData} (hj:gl[j]?=some x) (hg:gs.contains j=true) (h:Con X x d):Q (PE X (.Name x pos) (tE X.K W (eK d))):=⟨by
 obtain ⟨u,v,h1,h2,h3⟩:=h;have q:=S.g hj hg
 exact vX q.1 h1 h2 h3 q.2.1⟩
theorem aQ {j:Int} {k pos}:Q (PE X (.Constant (.int j) k pos) (tE X.K W (eK (.int j)))):=⟨bC sA fun _ _ _=>uT fun _=>.int j⟩
theorem gu {j:Bool} {k pos}:Q (PE X (.Constant (.bool j) k pos) (tE X.K W (eK (.bool j)))):=⟨bC BK fun _ _ _=>uT fun _=>.bl j⟩
theorem dY {k pos}:Q (PE X (.Constant .none k pos) (tE X.K W (eK .none))):=⟨bC yU fun _ _ _=>uT fun _=>.non⟩
theorem qW (ha:Q (PE X a (tE X.K W fa))) (hb:Q (PE X b (tE X.K W fb))):Q (PE X (.BinOp a .Add b pos) (tE X.K W (aw bc fa fb))):=⟨have ha:=ha.p;have hb:=hb.p;bC (jZ zd ha hb) fun _ _ _=>gJ (Aj fun _ _=>.int _)⟩
theorem Aw (ha:Q (PE X a (tE X.K W fa))) (hb:Q (PE X b (tE X.K W fb))):Q (PE X (.BinOp a .Sub b pos) (tE X.K W (aw gSub fa fb))):=⟨have ha:=ha.p;have hb:=hb.p;bC (jZ yY ha hb) fun _ _ _=>gJ (Aj fun _ _=>.int _)⟩
theorem ua (ha:Q (PE X a (tE X.K W fa))) (hb:Q (PE X b (tE X.K W fb))):Q (PE X (.BinOp a .Mult b pos) (tE X.K W (aw cD fa fb))):=⟨have ha:=ha.p;have hb:=hb.p;bC (jZ y1 ha hb) fun _ _ _=>gJ (o6 (fun i j h=>by
 simp only [qM,Bool.or_eq_true,Bool.and_eq_true,decide_eq_true_eq] at h
 exact h) fun _ _=>.int _)⟩
theorem lC (ha:Q (PE X a (tE X.K W fa))) (hb:Q (PE X b (tE X.K W fb))):Q (PE X (.BinOp a .FloorDiv b pos) (tE X.K W (aw nN fa fb))):=⟨have ha:=ha.p;have hb:=hb.p;bC (jZ vg ha hb) fun _ _ _=>gJ (o6 (fun i j h=>by
 simp only [wb,Bool.and_eq_true,decide_eq_true_eq] at h
 exact h) fun _ _=>.int _)⟩
theorem rj (ha:Q (PE X a (tE X.K W fa))) (hb:Q (PE X b (tE X.K W fb))):Q (PE X (.BinOp a .Mod b pos) (tE X.K W (aw cj fa fb))):=⟨have ha:=ha.p;have hb:=hb.p;bC (jZ y2 ha hb) fun _ _ _=>gJ (o6 (fun i j h=>by
 simp only [wa,decide_eq_true_eq] at h
 exact h) fun _ _=>.int _)⟩
theorem rE (ha:Q (PE X a (tE X.K W fa))) (hb:Q (PE X b (tE X.K W fb))):Q (PE X (.BinOp a .Pow b pos) (tE X.K W (aw vL fa fb))):=⟨have ha:=ha.p;have hb:=hb.p;bC (jZ yZ ha hb) fun _ _ _=>gJ (o6 (fun i j h=>by
 simp only [v9,Bool.and_eq_true,decide_eq_true_eq] at h
 exact ⟨h.1.1,h.1.2,h.2⟩) fun _ _=>.int _)⟩
theorem rF (ha:Q (PE X a (tE X.K W fa))):Q (PE X (.UnaryOp .Not a pos) (tE X.K W (nR fa))):=⟨have ha:=ha.p;bC (yT ha) fun _ _ _=>yu⟩
theorem EL {op:CmpOp} {r:R2} {g:PySem.PyData->PySem.PyData->Option PySem.PyData} (k:Ck X op r g) (ha:Q (PE X a (tE X.K W fa))) (hb:Q (PE X b (tE X.K W fb))) (hm:behindInMarks op b=false):Q (PE X (.Compare a [op] [b] pos) (tE X.K W (aw g fa fb))):=⟨have ha:=ha.p;have hb:=hb.p;zU k.o k.g ha hb hm⟩
theorem A8 {op op':CmpOp} {r r':R2} {g g':PySem.PyData->PySem.PyData->Option PySem.PyData} (k:Ck X op r g) (k':Ck X op' r' g') (ha:Q (PE X a (tE X.K W fa))) (hb:Q (PE X b (tE X.K W fb))) (hc:Q (PE X c (tE X.K W fc))) (hm:lastMarks [op,op'] [b,c]=false):Q (PE X (.Compare a [op,op'] [b,c] pos) (tE X.K W (xN g g' fa fb fc))):=⟨have ha:=ha.p;have hb:=hb.p;have hc:=hc.p;tJ k.o k.g k'.o k'.g ha hb hc hm⟩
theorem oo {op} (h:Q (PE X a (tE X.K W fa))):Q (PE X (.BoolOp op [a] pos) (tE X.K W fa)):=⟨L2.pe_one h.p⟩
theorem qT (ha:Q (PE X a (tE X.K W fa))) (hb:Q (PE X (.BoolOp .And (b::es) pos) (tE X.K W fb))):Q (PE X (.BoolOp .And (a::b::es) pos) (tE X.K W (de fa fb))):=⟨have ha:=ha.p;have hb:=hb.p;bC (yX ha hb) fun _ _ _=>yF⟩
theorem DO (ha:Q (PE X a (tE X.K W fa))) (hb:Q (PE X (.BoolOp .Or (b::es) pos) (tE X.K W fb))):Q (PE X (.BoolOp .Or (a::b::es) pos) (tE X.K W (qo fa fb))):=⟨have ha:=ha.p;have hb:=hb.p;bC (BJ ha hb) fun _ _ _=>Bw⟩
theorem uk (hc:Q (PT X c (tT X.K W ga))) (ha:Q (PE X a (tE X.K W fa))) (hb:Q (PE X b (tE X.K W fb))):Q (PE X (.IfExp c a b pos) (tE X.K W (fm ga fa fb))):=⟨have hc:=hc.p;have ha:=ha.p;have hb:=hb.p;bC (sC hc ha hb) fun _ _ _=>Bx⟩
theorem rG (ha:Q (PE X a (tE X.K W fa))) (hb:Q (PE X b (tE X.K W fb))) (hs:wN b):Q (PE X (.Subscript a b pos) (tE X.K W (ah fa fb))):=⟨have ha:=ha.p;have hb:=hb.p;bC (mf AN ha hb hs) fun _ _ _=>yy⟩
theorem nh (s:Sh) (h:Q (PA X es (tA X.K W fl))):Q (PE X (.List es pos) (tE X.K W (aP s fl))):=⟨have h:=h.p;bC (yV h) fun _ _ _=>uR⟩
theorem om {x1} (h:Q (PA X es (tA X.K W fl))):Q (PE X (.Tuple es x1 pos) (tE X.K W (bF fl))):=⟨have h:=h.p;bC (yR h) fun _ _ _=>yq⟩
theorem xT :Q (PA X [] (tA X.K W af)):=⟨T.da_nil ⟩
theorem jK (ha:Q (PE X e (tE X.K W fa))) (hr:Q (PA X es (tA X.K W fl))) (hs:starEach (e::es) X.env=(false,eval e X.env)::starEach es X.env):Q (PA X (e::es) (tA X.K W (ab fa fl))):=⟨T.da_cons ha.p hr.p hs⟩
theorem EK {scope:Scope} {x:Str} {px:Pos} {iter elt:Expr} {ifs:List Expr} {fi:FI} {fe:F1} {fc:FB} {vs' cs' lo' gs':List Nat} (S:Cp X N gl vs cs ls lo gs) (s:Sh) (i:Nat) (hx:N[i]?=some x) (h1:kd N i cs scope=true) (h2:qD N gl vs' cs' [i] lo' gs' scope=true) (hi':Q (PI X (.Name x px) iter (tI X.K W fi))) (hc:pf X N gl vs' cs' [i] lo' gs' fun Y=>Q (PF Y ifs (tT Y.K W0 fc))) (he:pf X N gl vs' cs' [i] lo' gs' fun Y=>Q (PE Y elt (tE Y.K W0 fe))) (hs:∀x,foldedSetIterable iter X.env x=pure x):Q (PE X (.ListComp elt [⟨.Name x px,iter,ifs,0⟩] scope pos) (tE X.K W (av s i fi fc fe))):=⟨T.co S s i hx h1 h2 hi'.p (fun Y S F=>(hc Y S F).p) (fun Y S F=>(he Y S F).p) hs⟩
theorem uq {scope:Scope} {x y:Str} {px pos' spos:Pos} {iter elt:Expr} {ifs:List Expr} {fi:FI} {fe:F1} {fc:FB} {vs' cs' lo' gs':List Nat} (S:Cp X N gl vs cs ls lo gs) (own:Bool) (j:Nat) (s:Sh) (i:Nat) (hy:N[j]?=some y) (hyl:lo.contains j=true) (hx:N[i]?=some x) (hsl:(pos'.line==pos.line)=true) (hsn:(scope.names.any fun (n,k)=>n==y&&(k==NameKind.local||k==NameKind.cell))=false) (h1:kd N i cs scope=true) (h2:qD N gl vs' cs' [i] lo' gs' scope=true) (hi':Q (PI X (.Name x px) iter (tI X.K W fi))) (hc:pf X N gl vs' cs' [i] lo' gs' fun Y=>Q (PF Y ifs (tT Y.K W0 fc))) (he:pf X N gl vs' cs' [i] lo' gs' fun Y=>Q (PE Y elt (tE Y.K W0 fe))) (hs:∀x,foldedSetIterable iter X.env x=pure x):Q (PS X (.Assign [.Name y pos'] (.ListComp elt [⟨.Name x px,iter,ifs,0⟩] scope pos) spos) (tS X.K W (ax own j (av s i fi fc fe)))):=⟨by
 have hi':=hi'.p
 have hc:=fun Y S F=>(hc Y S F).p
 have he:=fun Y S F=>(he Y S F).p
 have B:=fun cells C s₀ H₀ ex=>S.blk h2 cells C s₀ H₀ ex
 have L:=fun cells C s₀ H₀ ex=>(B cells C s₀ H₀ ex).loc i x hx (by simp)
 exact nS (X:=X) own j s i (mX S h1) (by rw [S.hN];exact S.nd) hi' (fun cells C s₀ H₀ ex=>hc _ (B cells C s₀ H₀ ex) ⟨rfl,rfl,rfl,rfl,rfl,rfl⟩) (fun cells C s₀ H₀ ex=>he _ (B cells C s₀ H₀ ex) ⟨rfl,rfl,rfl,rfl,rfl,rfl⟩)
  (il S.kind (S.loo j y hy hyl) hsl hsn) (by rw [S.hN];exact hy) (S.loo j y hy hyl) S.calm (by rw [S.hN];exact hx) (fun cells C s₀ H₀ ex=>(L cells C s₀ H₀ ex).1) (fun cells C s₀ H₀ ex=>(L cells C s₀ H₀ ex).2) hs⟩
theorem rJ (S:Cp X N gl vs cs ls lo gs) (j:Nat) (hj:gl[j]?=some ("len":Str)) (hg:gs.contains j=true) (hm:X.mg "len"=none) (ha:Q (PA X (e::es) (tA X.K W fl))) (he:starEach (e::es) X.env=(false,eval e X.env)::starEach es X.env) (hpl:(backTo pos (starEach es X.env)).any (·.1)=false):Q (PE X (.Call (.Name "len" p) (e::es) [] pos) (tE X.K W (aY aM fl))):=⟨have ha:=ha.p;mO (call_len_seq.or lh) zF Ce hm ha (S.g hj hg).1 (S.g hj hg).2.2 (S.g hj hg).2.1 he hpl⟩
theorem qS (S:Cp X N gl vs cs ls lo gs) (j:Nat) (hj:gl[j]?=some ("all":Str)) (hg:gs.contains j=true) (hm:X.mg "all"=none) (ha:Q (PA X (e::es) (tA X.K W fl))) (he:starEach (e::es) X.env=(false,eval e X.env)::starEach es X.env) (hpl:(backTo pos (starEach es X.env)).any (·.1)=false):Q (PE X (.Call (.Name "all" p) (e::es) [] pos) (tE X.K W (aY (cE false) fl))):=⟨have ha:=ha.p;mO (qL S.calm) tq Cg hm ha (S.g hj hg).1 (S.g hj hg).2.2 (S.g hj hg).2.1 he hpl⟩
theorem rL (S:Cp X N gl vs cs ls lo gs) (j:Nat) (hj:gl[j]?=some ("any":Str)) (hg:gs.contains j=true) (hm:X.mg "any"=none) (ha:Q (PA X (e::es) (tA X.K W fl))) (he:starEach (e::es) X.env=(false,eval e X.env)::starEach es X.env) (hpl:(backTo pos (starEach es X.env)).any (·.1)=false):Q (PE X (.Call (.Name "any" p) (e::es) [] pos) (tE X.K W (aY (cE true) fl))):=⟨have ha:=ha.p;mO (qK S.calm) tq Cf hm ha (S.g hj hg).1 (S.g hj hg).2.2 (S.g hj hg).2.1 he hpl⟩
theorem rK (S:Cp X N gl vs cs ls lo gs) (j:Nat) (hj:gl[j]?=some ("int":Str)) (hg:gs.contains j=true) (hm:X.mg "int"=none) (ha:Q (PA X (e::es) (tA X.K W fl))) (he:starEach (e::es) X.env=(false,eval e X.env)::starEach es X.env) (hpl:(backTo pos (starEach es X.env)).any (·.1)=false):Q (PE X (.Call (.Name "int" p) (e::es) [] pos) (tE X.K W (aY nM fl))):=⟨have ha:=ha.p;B9 qJ zG xH hm ha (S.g hj hg).1 (S.g hj hg).2.2 (S.g hj hg).2.1 he hpl⟩
theorem AB (S:Cp X N gl vs cs ls lo gs) (j:Nat) (hj:gl[j]?=some ("list":Str)) (hg:gs.contains j=true) (hm:X.mg "list"=none) (ha:Q (PE X e (tE X.K W fa))) (hs:starEach [e] X.env=[(false,eval e X.env)]):Q (PE X (.Call (.Name "list" p) [e] [] pos) (tE X.K W (ia fa))):=⟨have ha:=ha.p;qC hm ha (S.g hj hg).1 hs⟩
theorem EM {x:Str} {n:Nat} {den:List PySem.PyData->bD} (S:Cp X N gl vs cs ls lo gs) (j:Nat) (hj:gl[j]?=some x) (hg:gs.contains j=true) (C:AK X x n den) (ha:Q (PA X (e::es) (tA X.K W fl))) (he:starEach (e::es) X.env=(false,eval e X.env)::starEach es X.env) (hpl:(backTo pos (starEach es X.env)).any (·.1)=false):Q (PE X (.Call (.Name x p) (e::es) [] pos) (tE X.K W (ai n den fl))):=⟨T.cc S j hj hg C ha.p he hpl⟩
theorem d9 {tg:Expr} (S:Cp X N gl vs cs ls lo gs) (j:Nat) (hj:gl[j]?=some ("range":Str)) (hg:gs.contains j=true) (hm:X.mg "range"=none) (ha:Q (PA X [a] (tA X.K W fl))) (hs:starEach [a] X.env=[(false,eval a X.env)]):Q (PI X tg (.Call (.Name "range" p) [a] [] pos) (tI X.K W (cx fl))):=⟨have ha:=ha.p;B8 hm ha (S.g hj hg).1 hs⟩
theorem A6 {tg:Expr} (S:Cp X N gl vs cs ls lo gs) (j:Nat) (hj:gl[j]?=some ("range":Str)) (hg:gs.contains j=true) (hm:X.mg "range"=none) (ha:Q (PA X [a,b] (tA X.K W fl))) (hs:starEach [a,b] X.env=[(false,eval a X.env),(false,eval b X.env)]) (hs2:starEach [b] X.env=[(false,eval b X.env)]):Q (PI X tg (.Call (.Name "range" p) [a,b] [] pos) (tI X.K W (vB fl))):=⟨have ha:=ha.p;B7 hm ha (S.g hj hg).1 hs hs2⟩
theorem eO {tg:Expr} (ha:Q (PE X a (tE X.K W fa))):Q (PI X tg a (tI X.K W (aK fa))):=⟨have ha:=ha.p;pe (va ha) fun _ _ _=>uV⟩
theorem EJ {op:CmpOp} {r:R2} {g:PySem.PyData->PySem.PyData->Option PySem.PyData} (k:Ck X op r g) (ha:Q (PE X a (tE X.K W fa))) (hb:Q (PE X b (tE X.K W fb))) (hm:behindInMarks op b=false):Q (PT X (.Compare a [op] [b] pos) (tT X.K W (aC aj (aw g fa fb)))):=⟨T.ct k ha.p hb.p hm⟩
theorem qV (ha:Q (PT X a (tT X.K W ga))):Q (PT X (.UnaryOp .Not a pos) (tT X.K W (bu ga))):=⟨have ha:=ha.p;tX (yL ha) fun _ _ _=>uZ⟩
theorem wR (ha:Q (PT X a (tT X.K W ga))):Q (PW X (.BoolOp .And [a] pos) (tT X.K W ga)):=⟨have ha:=ha.p;u3 ha⟩
theorem nc (ha:Q (PT X a (tT X.K W ga))):Q (PW X (.BoolOp .Or [a] pos) (tT X.K W ga)):=⟨have ha:=ha.p;yJ ha⟩
theorem wM (ha:Q (PT X a (tT X.K W ga))) (hb:Q (PW X (.BoolOp .And (b::es) pos) (tT X.K W gb))):Q (PW X (.BoolOp .And (a::b::es) pos) (tT X.K W (bQ ga gb))):=⟨have ha:=ha.p;have hb:=hb.p;xK (yK ha hb) fun _ _ _=>u0⟩
theorem km (ha:Q (PT X a (tT X.K W ga))) (hb:Q (PW X (.BoolOp .Or (b::es) pos) (tT X.K W gb))):Q (PW X (.BoolOp .Or (a::b::es) pos) (tT X.K W (b7 ga gb))):=⟨have ha:=ha.p;have hb:=hb.p;xK (BG ha hb) fun _ _ _=>yD⟩
theorem ib (h:Q (PW X a (tT X.K W ga))):Q (PT X a (tT X.K W ga)):=⟨L2.PW.pt h.p⟩
theorem kr (ha:Q (PE X a (tE X.K W fa))) (he:∀whole,isTrue a X.env whole=(do let v <-whole;standAt a.pos;holding [v] (truthy v))):Q (PT X a (tT X.K W (aC aZ fa))):=⟨have ha:=ha.p;tX (sv ha he) fun _ _ _=>yr⟩
theorem dM :Q (PSs X [] (tS X.K W az)):=⟨Ah oQ fun _ _ _=>oG⟩
theorem gq {st:Stmt} (h1:Q (PS X st (tS X.K W g1))):Q (PSs X [st] (tS X.K W g1)):=⟨have h1:=h1.p;oP h1⟩
theorem bx {st:Stmt} {cg:List Stmt} (h1:Q (PS X st (tS X.K W g1))) (h2:Q (PSs X cg (tS X.K W g2))):Q (PSs X (st::cg) (tS X.K W (ao g1 g2))):=⟨have h1:=h1.p;have h2:=h2.p;Ah (CL h1 h2) fun _ _ _=>DH⟩
theorem lD (i:Nat) {sts:List Stmt} (h:Q (PSs X sts (tS X.K W g))):Q (PSs X sts (tS X.K W (je i g))):=⟨have h:=h.p;Ah h fun _ _ _=>yB⟩
theorem rD (ha:Q (PE X a (tE X.K W fa))):Q (PS X (.Return (some a) pos) (tS X.K W (aG fa))):=⟨have ha:=ha.p;cL (yM ha) fun _ _ _=>yt⟩
theorem dD {A B:List Stmt} (hc:Q (PT X c (tT X.K W ga))) (ha:Q (PSs X A (tS X.K W g1))) (hb:Q (PSs X B (tS X.K W g2))):Q (PS X (.If c A B pos) (tS X.K W (bf ga g1 g2))):=⟨have hc:=hc.p;have ha:=ha.p;have hb:=hb.p;cL (xl hc ha hb) fun _ _ _=>sg⟩
theorem wL (S:Cp X N gl vs cs ls lo gs) (i:Nat) {x:Str} {px:Pos} {iter:Expr} {body:List Stmt} {fi:FI} {g:FS} (hx:N[i]?=some x) (hl:ls.contains i=true) (hp:PassesOwn (model X.prog X.w) X.A X.env X.xe) (hi':Q (PI X (.Name x px) iter (tI X.K W fi))) (hb:Q (PSs X body (tS X.K W g))) (hs:∀x,foldedSetIterable iter X.env x=pure x):Q (PS X (.For (.Name x px) iter body [] pos) (tS X.K W (cM i fi g))):=⟨have hi':=hi'.p;have hb:=hb.p;zQ i hp (by rw [S.hN];exact S.nd) hi' hb S.calm (by rw [S.hN];exact hx) (S.loc i x hx hl).1 (S.loc i x hx hl).2 hs⟩
theorem D0 (S:Cp X N gl vs cs ls lo gs) (own:Bool) (i:Nat) {x:Str} {pos':Pos} (hi:N[i]?=some x) (hl:ls.contains i=true) (hs:swapsWith a (some (.Name x pos')) pos.line X.env=pure false) (ha:Q (PE X a (tE X.K W fa))):Q (PS X (.Assign [.Name x pos'] a pos) (tS X.K W (ax own i fa))):=⟨have ha:=ha.p;zP own i (by rw [S.hN];exact S.nd) ha (by rw [S.hN];exact hi) (S.loc i x hi hl).1 hs (S.loc i x hi hl).2⟩
theorem jM (S:Cp X N gl vs cs ls lo gs) (i:Nat) {x:Str} {px pos':Pos} (hi:N[i]?=some x) (hv:vs.contains i=true) (ha:Q (PE X a (tE X.K W fa))) (hb:Q (PE X b (tE X.K W fb))) (hs:swapsWithSole [.Subscript (.Name x px) b pos'] a pos.line X.env=pure false) (hw:swappedStores [.Subscript (.Name x px) b pos'] a X.env=pure none) (h1:(assignEach [.Subscript (.Name x px) b pos'] X.env).map (·.2)=[assign (.Subscript (.Name x px) b pos') X.env]) (has:∀v,assign (.Subscript (.Name x px) b pos') X.env v=(do
   let ov <-holding [v] (eval (.Name x px) X.env)
   let iv <-holding [v,ov] (eval b X.env)
   standAt pos'
   holding [v,ov,iv] (setItem ov iv v)
   release [v,ov,iv] [])):Q (PS X (.Assign [.Subscript (.Name x px) b pos'] a pos) (tS X.K W (dk i fa fb))):=⟨T.cs_setI S i hi hv ha.p hb.p hs hw h1 has⟩
theorem CS (S:Cp X N gl vs cs ls lo gs) (i:Nat) {x:Str} {apos cpos:Pos} (hi:N[i]?=some x) (hv:vs.contains i=true) (ha:Q (PE X a (tE X.K W fa))) (hs:starEach [a] X.env=[(false,eval a X.env)]) (hbase:attributeBase (.Name x p) "append" X.env (eval (.Name x p) X.env)=eval (.Name x p) X.env) (hline:(apos.endLine==cpos.line)=true) (hfew:((backTo cpos (starEach [a] X.env)).all (fun x=>!x.1)&&(backToKw cpos (keywordEach [] X.env)).all (fun x=>x.1.isSome)
   && decide ([a].length+([]:List Keyword).length+(if ([]:List Keyword).isEmpty then 0 else 1)<30))=true) (hsw:swapsWith (.Call (.Attribute (.Name x p) "append" apos) [a] [] cpos) none pos.line X.env=pure false):Q (PS X (.Expr (.Call (.Attribute (.Name x p) "append" apos) [a] [] cpos) pos) (tS X.K W (gr i fa))):=⟨T.cs_append S i hi hv ha.p hs hbase hline hfew hsw⟩
theorem fy :Q (PF X [] (tT X.K W0 aE)):=⟨Co yQ fun σ H Q h=>by
 obtain ⟨He,O,Fs,Γ,E,h⟩:=h;exact h H Fs (Same.refl _) E fun _ z=>.inl z⟩
theorem qU (h:Q (PT X c (tT X.K W0 ga))):Q (PF X [c] (tT X.K W0 ga)):=⟨have h:=h.p;yP h⟩
end
end TQ
namespace T
open PySem PySem.Spec L2
open PyProof.Rows hiding St
def C4:FS:=fun _=>.no
def ya:PySem.PyData->String
 | .none => "NoneType"
 | .bool _ => "bool"
 | .int _ => "int"
 | .str _ => "str"
 | .list _ => "list"
 | .tuple _ => "tuple"
 | .dict _ => "dict"
def sW (t c:String):Bool:=t==c||(t == "bool"&&c == "int")
def kinds:List String:=["bool", "int", "str", "list", "tuple"]
theorem vw {K:Fg} {c:String} (hc:c∈kinds):∀t∈["NoneType", "bool", "int", "str", "list", "tuple"],PySem.W.kitOne K (.type t) (.type c)=some (sW t c):=by
 intro t ht;unfold kinds at hc;simp only [mem_cons,not_mem_nil,or_false] at hc ht
 rcases hc with rfl | rfl | rfl | rfl | rfl<;>rcases ht with rfl | rfl | rfl | rfl | rfl | rfl<;>kernel_rfl
section
variable {X:Cx} {pins:List (Addr×Obj)} {σ:St} {H:Hp} {s:Shared} {A:Around} {E:Value->Shared->Prop} {Q:Value->Shared->Prop} {c:Value} {b:Bool}
theorem nI {x:V} {u:Value} {d:PySem.PyData} (I:Inv X pins σ H s) (rx:RelV x u) (r:Rep X.K H x d) (e:PySem.W.kitOne X.K (.type (ya d)) c=some b) (h:∀tk,Q (.bool b) { s with toks:=tk }) :
  wpAny (model X.prog X.w) A (call (.builtin "isinstance") [u,c]) Q E s:=by
 cases r with
 | non=>exact xW I rx .non e h
 | bl y=>exact xW I rx (.bl y) e h
 | int i=>exact xW I rx (.int i) e h
 | str y=>exact xW I rx (.str y) e h
 | @lst p vs ds hs hl q=>
  rcases hs with (z | ⟨o,z⟩) | ⟨o,its,n,hk,hc,hd,hz,_⟩
  ·exact xW I rx (.lst z) e h
  ·exact xW I rx (.frz z) e h
  ·cases (show u=Value.ref p from rx)
   exact PySem.W.kia_one PySem.W.kitx_list I.kIn ⟨o,I.kIn _ o hk,hc⟩ e nofun h
 | @tup p vs ds hs hl q=>
  rcases hs with (z | ⟨o,z⟩) | ⟨o,its,n,hk,hc,hd,hz,_⟩
  ·exact xW I rx (.tup z) e h
  ·cases (show u=Value.ref p from rx)
   obtain ⟨_,_,_,n,p1,h1,h2,_⟩:=(show ObjOk X.prog X.w H s.heap p (.frz o (.tup vs)) from I.hok p _ z);exact PySem.W.kia_one PySem.W.kitx_tuple I.kIn ⟨p1,h1,h2⟩ e nofun h
  ·cases (show u=Value.ref p from rx)
   exact PySem.W.kia_one PySem.W.kitx_tuple I.kIn ⟨o,I.kIn _ o hk,hc⟩ e nofun h
end
def yG (K:Fg) (c:String):List V->Hp->VK->Prop:=fun xs H Q=>∃x d,xs=[x,.ty c]/\Rep K H x d/\Q (.bl (sW (ya d) c)) H
theorem tK {X:Cx} {c:String} (hc:c∈kinds):CallR X (.builtin "isinstance") (yG X.K c):=by
 intro pins s σ H xs us Q I rv h;obtain ⟨x,d,rfl,r,q⟩:=h;match us,rv with
 | [u,t],.cons r1 (.cons r2 .nil)=>
  cases (show t=Value.type c from r2)
  have ht:ya d∈["NoneType", "bool", "int", "str", "list", "tuple"]:=by cases r<;>simp [ya]
  exact nI I r1 r (vw hc _ ht) fun tk=>⟨.bl _,H,I.tok tk,rfl,q⟩
def dW (c:String) (fa:F1):F1:=bj fa fun p Γ=>.ok ⟨.leaf,.bool (sW (ya p.d) c)⟩ Γ
theorem yw {K:Fg} {W:XW} {σ:St} {H:Hp} {Q:VK} {fa:F1} {c:String} (h:tE K W (dW c fa) σ H Q):Bn (yG K c) (lI (tE K W fa) (lI (tC (.ty c)) uB)) σ H Q:=by
 show tE K W fa σ H fun x H1=>yG K c [x,.ty c] H1 Q
 refine Am h fun He O Fs Γ1 p v H1 G Fs1 nd A w=>?_
 exact ⟨v,p.d,rfl,A.own.rep,Wants.scal w (.bl _) A.same A.env.dropL (fun a ha=>ha) nd fun a ha=>A.new a (mem_append_right _ ha)⟩
def rn (c:FB) (g:FS):Nat->Ev->OutS
 | 0,_=>.no
 | n+1,Γ=>match c Γ with
  | .ok true Γ1=>(match g Γ1 with
   | .nx Γ2=>rn c g n Γ2
   | .ct Γ2=>rn c g n Γ2
   | .bk Γ2=>.nx Γ2
   | .rt p=>.rt p
   | .er e Γ2=>.er e Γ2
   | .no=>.no)
  | .ok false Γ1=>.nx Γ1
  | .er e Γ1=>.er e Γ1
  | .no=>.no
def wF (n:Nat) (c:FB) (g:FS):FS:=rn c g n
section
variable {K:Fg} {W:XW} {σ:St} {H:Hp} {Q:VK} {D:du} {fa fb:F1} {fl:FL}
theorem rZ {n:Nat} {c:FB} {g:FS} (h:tS K W (wF n c g) D σ H):rR (tT K W c) (tS K W g) D σ H:=by
 obtain ⟨He,O,Fs,Γ,E,h⟩:=h;refine ⟨fun m σ' H'=>∃Γk Fk,EnvOk K He O Fk H' σ' Γk/\jJ K W He O D (rn c g m Γk),⟨n,Γ,Fs,E,h⟩,?_⟩
 rintro m σ' H' ⟨Γk,Fk,Ek,hw⟩
 cases m with
 | zero=>exact hw.elim
 | succ m=>
  refine ⟨He,O,Fk,Γk,Ek,?_⟩
  rw [rn] at hw
  cases e:c Γk with
  | er x Γ1=>rw [e] at hw;exact fun H2 Fs2 s E2=>hw σ' H2 Fs2 E2
  | no=>rw [e] at hw;exact hw
  | ok b Γ1=>
   rw [e] at hw;intro H2 Fs2 s2 E2 n2
   cases b with
   | false=>rw [if_neg Bool.false_ne_true];exact hw σ' H2 Fs2 E2
   | true=>
    rw [if_pos rfl];refine ⟨fun σ3 H3=>∃Γ3 F3,EnvOk K He O F3 H3 σ3 Γ3/\jJ K W He O D (rn c g m Γ3),fun σ3 H3 q=>⟨m,Nat.lt_succ_self _,q⟩,He,O,Fs2,Γ1,E2,?_⟩
    have hw:jJ K W He O D (match g Γ1 with | .nx Γ2=>rn c g m Γ2 | .ct Γ2=>rn c g m Γ2 | .bk Γ2=>.nx Γ2 | .rt p=>.rt p | .er e Γ2=>.er e Γ2 | .no=>.no):=hw
    cases eb:g Γ1 with
    | nx Γ'=>rw [eb] at hw;exact fun σ2 H2 F2 E2=>⟨Γ',F2,E2,hw⟩
    | ct Γ'=>rw [eb] at hw;exact fun σ2 H2 F2 E2=>⟨Γ',F2,E2,hw⟩
    | bk Γ'=>rw [eb] at hw;exact fun σ2 H2 F2 E2=>hw σ2 H2 F2 E2
    | rt p=>rw [eb] at hw;exact fun u H2 G r=>hw u H2 G r
    | er x Γ'=>rw [eb] at hw;exact fun σ2 H2 F2 E2=>hw σ2 H2 F2 E2
    | no=>rw [eb] at hw;exact hw
end
theorem D6:∀{ns:List Int} {us:List Value},Vals (ns.map V.int) us->IntsAre us ns
 | [],_,.nil=>.nil
 | n::ns,_,.cons r t=>by
  obtain ⟨tk,rfl⟩:=(show ∃t,_=Value.int n t from r)
  exact .cons _ _ (D6 t)
theorem ot:∀{xs:List V} {us:List Value},xs.length=us.length->(∀(i:Nat) x u,xs[i]?=some x->us[i]?=some u->RelV x u)->Vals xs us
 | [],[],_,_=>.nil
 | x::xs,u::us,hl,h=>.cons (h 0 x u rfl rfl) (ot (by simpa using hl) fun i x u a b=>h (i+1) x u (by simpa using a) (by simpa using b))
 | [],_::_,hl,_=>by simp at hl
 | _::_,[],hl,_=>by simp at hl
def Gv (ta:TA):TE:=fun σ H Q=>ta σ H fun vs H1=>∃j:Int,vs=[.int j]/\-(2 ^ 62)<=j/\j<=sizeLine/\∀l,H1 l=none->Q (.ref l) (cF H1 l (.lst (eY 0 j.toNat)))
theorem kD {X:Cx} {a:Expr} {ta:TA} {p p2 pos pos2:Pos} (hg:Gl X "list") (hm:X.mg "list"=none) (hg2:Gl X "range") (hm2:X.mg "range"=none) (hc:X.calm=true) (ha:PA X [a] ta) (hs:starEach [a] X.env=[(false,eval a X.env)])
  (hs1:starEach [.Call (.Name "range" p2) [a] [] pos2] X.env=[(false,eval (.Call (.Name "range" p2) [a] [] pos2) X.env)]):PE X (.Call (.Name "list" p) [.Call (.Name "range" p2) [a] [] pos2] [] pos) (Gv ta):=by
 intro pins s σ H Q I h;refine Call_ (wB I hg hm Dw (PyProof.Rows.callWith_type1 ?_ hs1 rfl))
 rw [hs1];show wpAny _ _ (spliced ((false,eval (.Call (.Name "range" p2) [a] [] pos2) X.env)::[])) _ _ s
 refine Calls.spliced_cons (Call_ (wB I hg2 hm2 boot_range (PyProof.Rows.callWith_type1 (ck (ha pos2 pins s σ H _ I h) fun us s1 ⟨vs,H1,I1,r1,q1⟩=>?_) hs rfl)))
 obtain ⟨j,e,q1,q2,q⟩:=q1;subst e;obtain ⟨u,rfl,ru⟩:=r1.one;obtain ⟨t,rfl⟩:=(show ∃t,u=Value.int j t from ru)
 refine call_range_1 (Calls.spliced_nil ?_)
 have hz:(sizeLine:Int)<2 ^ 62:=by decide
 refine call_list_range (n:=j.toNat) (I.ok.hd hc) (IsRange.new ..) (small_one (by omega) (by omega) q1 (by omega)) (by rw [rangeSize_one];split<;>omega) (by have:(sizeLine:Nat)=2 ^ 24:=rfl;omega) fun h' tk acc' c' hk ho hacc=>?_
 have I2:Inv X pins σ H1 { s1 with heap:=s1.heap.push { cls:=.type "range",data:=.fields #[.int 0 s1.toks,.int j t,.int 1 (s1.toks+1)] },toks:=s1.toks+1+1 }:=I1.kept fun b o e=>Heap.get?_push_of_some _ e
 have hv:Vals (eY 0 j.toNat) acc'.toList:=by
  refine ot (by have:=hacc.1;simp only [Array.length_toList,eY,length_map,List.length_range];omega) fun i x u e1 e2=>?_
  obtain ⟨t2,rfl⟩:=hacc.2 i u (by rw [<-Array.getElem?_toList];exact e2)
  unfold eY at e1;rw [getElem?_map] at e1
  cases e3:(List.range j.toNat)[i]? with
  | none=>rw [e3] at e1;cases e1
  | some k=>
   rw [e3] at e1;obtain ⟨k1,k2⟩:=List.getElem?_eq_some_iff.mp e3
   simp at k2
   subst k2
   cases e1;exact ⟨t2,by simp⟩
 refine ⟨.ref _,cF H1 _ (.lst (eY 0 j.toNat)),I2.laid (t':=tk) (fun b o e=>hk b o e) (Nat.le_refl _) ⟨?_,acc'.toList,c',hv,by simpa using ho⟩,rfl,q _ (I2.hok.fresh (Nat.le_refl _))⟩
 simp only [eY,length_map,List.length_range]
 omega
section
variable {K:Fg} {W:XW} {σ:St} {H:Hp} {Q:VK} {fa:F1} {fl:FL}
theorem AftL.newSc {He:Hp} {O:List Addr} {Fs Gs Fs1:List (List Addr)} {Γ1:Ev} {ps:List PV} {us:List V} {H1:Hp} {l:Addr} {vs:List V} {ds:List PySem.PyData} (A:AftL K He O Fs H σ Γ1 ps us H1 Gs Fs1) (nd:O.Nodup) (hl:H1 l=none) (hv:vs.length=ds.length) (hs:∀(i:Nat) v d,vs[i]?=some v->ds[i]?=some d->Sc v d) :
  Aft K He O Fs H σ Γ1 ⟨.lst .leaf,.list ds⟩ (.ref l) (cF H1 l (.lst vs)) [l] Fs1:=by
 refine ⟨A.same.trans (m7 hl),A.env.dropL.hide (m7 hl) (by simp) (by simpa using hl) (fun a ha=>by rw [List.mem_singleton.mp ha,iY];exact Option.some_ne_none _),fun a ha=>?_,?_⟩
 ·rcases List.mem_append.mp ha with z | z
  ·rw [List.mem_singleton.mp z];exact .inr (A.same.free hl)
  ·exact A.new a (mem_append_right _ z)
 ·exact Own.mkLeaves iY hv fun j u d e1 e2=>(hs j u d e1 e2).rep
def ue (fl:FL):F1:=fun Γ=>(fl Γ).bind fun ps Γ'=>match jf (ps.map (·.d)) with
 | some j=>if j<=sizeLine then .ok ⟨.lst .leaf,.list (cI 0 j.toNat)⟩ Γ' else .no
 | none=>.no
theorem By (h:tE K W (ue fl) σ H Q):Gv (tA K W fl) σ H Q:=by
 obtain ⟨He,O,Fs,Γ,E,h⟩:=h;refine ⟨He,O,Fs,Γ,E,?_⟩
 unfold ue at h
 cases e:fl Γ with
 | er c Γ'=>rw [e] at h;exact h
 | no=>rw [e] at h;exact h
 | ok ps Γ1=>
  rw [e] at h;intro vs H1 Gs Fs1 A;have h:Wants K W He O Fs H σ Q (match jf (ps.map (·.d)) with | some j=>if j<=sizeLine then .ok ⟨.lst .leaf,.list (cI 0 j.toNat)⟩ Γ1 else .no | none=>.no):=h
  cases er:jf (ps.map (·.d)) with
  | none=>rw [er] at h;exact h.elim
  | some j=>
   rw [er] at h;obtain ⟨e1,e2,e3⟩:=oE er;have r:=A.reps
   rw [e1] at r;have h:Wants K W He O Fs H σ Q (if j<=sizeLine then .ok ⟨.lst .leaf,.list (cI 0 j.toNat)⟩ Γ1 else .no):=h
   by_cases hj:j<=sizeLine
   ·rw [if_pos hj] at h
    have hv:vs=[.int j]:=by
     have hl:=r.1
     match vs,hl with
     | [v],_=>
      have q:=r.2 0 v (.int j) rfl rfl
      cases q;rfl
    refine ⟨j,hv,e2,hj,fun l hl=>h _ _ _ _ (A.newSc E.ndO hl (by simp [eY,cI]) fun i v d a1 a2=>?_)⟩
    have q:=DY (K:=K) (H:=H1) (lo:=0) (n:=j.toNat)
    refine (q.2 i v d a1 a2).sc ?_
    unfold cI at a2;rw [getElem?_map] at a2
    cases e3:(List.range j.toNat)[i]? with
    | none=>rw [e3] at a2;cases a2
    | some k=>rw [e3] at a2;cases a2;rfl
   ·rw [if_neg hj] at h;exact h.elim
def wx:List PySem.PyData->Option (List Int)
 | []=>some []
 | .int i::r=>(wx r).map (i :: ·)
 | _=>none
theorem El:∀{ds:List PySem.PyData} {ns:List Int},wx ds=some ns->ds=ns.map .int
 | [],ns,h=>by cases h;rfl
 | .int i::r,ns,h=>by
  unfold wx at h
  cases e:wx r with
  | none=>rw [e] at h;cases h
  | some ms=>rw [e] at h;cases h;rw [El e];rfl
 | .none::_,_,h=>by cases h
 | .bool _::_,_,h=>by cases h
 | .str _::_,_,h=>by cases h
 | .list _::_,_,h=>by cases h
 | .tuple _::_,_,h=>by cases h
 | .dict _::_,_,h=>by cases h
end
theorem Inv.turnedL {X:Cx} {pins:List (Addr×Obj)} {σ:St} {H:Hp} {s:Shared} {h':Heap} {t':Nat} {fp:List Addr} (I:L2.Inv X pins σ H s) (k:∀b o,b∉fp->s.heap.get? b=some o->h'.get? b=some o) (hf:∀b∈fp,jH X pins H b):L2.Inv X pins σ H { s with heap:=h',toks:=t' }:=by
 have nit:∀b u,H b=some u->b∉fp:=fun b u e z=>by have:=(hf b z).1;rw [e] at this;cases this
 have hL:X.env.locals∉fp:=fun z=>(hf _ z).2.1 rfl
 refine I.step (g':=s.gens) (d':=s.drawn) (ch:=fp) (fun b hb=>?_) (fun b o _ _ hc e _=>k b o hc e) (fun b o _ _ hc e _=>⟨o.slots,k b o hc e⟩) (fun _ _ _ _ n=>n)
  (fun b o hc e=>⟨o,k b o hc e⟩) (fun _ _ e=>e) (fun _ _ _ e=>e) (fun b ps e=>⟨#[],by rw [e];simp⟩) (fun m hm=>?_) (fun b u e=>?_) I.bare
 ·obtain ⟨f0,f1,f2,f3,f4,f5⟩:=hf b hb
  exact ⟨f3,f1,f4,f5⟩
 ·obtain ⟨o,es,ep,ho,r⟩:=hm
  exact ⟨o,es,ep,k _ o hL ho,r⟩
 ·refine (I.hok b u e).stay (fun c v hc q=>k c v ?_ q) (fun _ q=>q) fun _ _ q=>q
  rcases hc with z | z
  ·rw [z];exact nit b u e
  ·exact nit c _ z
theorem Inv.turnedT {X:Cx} {pins:List (Addr×Obj)} {σ:St} {H:Hp} {s:Shared} {h':Heap} {t':Nat} {fp:List Addr} {T:Addr} {xs:List V} (I:L2.Inv X pins σ H s) (k:∀b o,b∉fp->s.heap.get? b=some o->h'.get? b=some o) (hf:∀b∈fp,jH X pins H b) (hT:s.heap.objs.size<=T)
  (new:ObjOk X.prog X.w (cF H T (.tup xs)) h' T (.tup xs)):L2.Inv X pins σ (cF H T (.tup xs)) { s with heap:=h',toks:=t' }:=by
 have hTn:H T=none:=I.hok.fresh hT
 have nit:∀b u,H b=some u->b∉fp:=fun b u e z=>by have:=(hf b z).1;rw [e] at this;cases this
 have up:∀b u,H b=some u->cF H T (.tup xs) b=some u:=fun b u e=>by rw [eV (rq e hTn)];exact e
 have hL:X.env.locals∉fp:=fun z=>(hf _ z).2.1 rfl
 refine I.step (g':=s.gens) (d':=s.drawn) (ch:=fp) (fun b hb=>?_) (fun b o _ _ hc e _=>k b o hc e) (fun b o _ _ hc e _=>⟨o.slots,k b o hc e⟩) (fun b o _ e n=>by rw [eV (Nat.ne_of_lt (Nat.lt_of_lt_of_le (Heap.lt_size e) hT))];exact n)
  (fun b o hc e=>⟨o,k b o hc e⟩) (fun b _ e=>up b _ e) (fun b _ _ e=>up b _ e) (fun b ps e=>⟨#[],by rw [up b _ e];simp⟩) (fun m hm=>?_) (fun b u e=>?_) I.bare
 ·obtain ⟨f0,f1,f2,f3,f4,f5⟩:=hf b hb
  exact ⟨f3,f1,f4,f5⟩
 ·obtain ⟨o,es,ep,ho,r⟩:=hm
  exact ⟨o,es,ep,k _ o hL ho,r⟩
 ·by_cases hb:b=T
  ·subst hb
   rw [iY] at e
   cases e;exact new
  ·rw [eV hb] at e
   refine (I.hok b u e).stay (fun c v hc q=>k c v ?_ q) (fun c q=>up c _ q) fun c _ q=>up c _ q
   rcases hc with z | z
   ·rw [z];exact nit b u e
   ·exact nit c _ z
def Gm (K:Fg) (a:Addr):It:=
 ⟨fun i H=>∃xs x,SqL K H a xs/\xs[i]?=some x,fun i H x H'=>∃T v,x=.ref T/\H T=none/\H'=cF H T (.tup [.int i,v])/\∀xs,SqL K H a xs->xs[i]?=some v,fun i H=>∃xs,SqL K H a xs/\xs.length<=i⟩
theorem pG {P:Program} {w:World} {K:Fg} {elts:List Expr} {k:Nat} {pos:Pos} (a e it:Addr) (hei:e≠it) (hae:a≠e) (hai:a≠it) :
  tW P w K (.Tuple elts k pos) (Gm K a) [e,it] e (fun i h=>(∃old,IsEnum h e it i old)/\h.IsListIter it a i) where
 mem:=by simp
 obj:=fun i h st b hb=>by
  obtain ⟨⟨old,he⟩,o,e1,c,d⟩:=st;simp only [mem_cons,not_mem_nil,or_false] at hb
  rcases hb with rfl | rfl
  ·exact ⟨_,he,fun v z=>by
    have z':Data.fields _=Data.cell v:=z
    cases z'⟩
  ·exact ⟨o,e1,fun v z=>by rw [d] at z;cases z⟩
 keep:=fun i h h' st kk=>by
  obtain ⟨⟨old,he⟩,hit⟩:=st;exact ⟨⟨old,kk e (by simp) _ he⟩,hit.at fun o q=>kk it (by simp) o q⟩
 item:=by
  intro X hP hw hK hc i pins s σ H E I hf st hg;subst hP hw hK;obtain ⟨xs,x,hq,hx⟩:=hg;obtain ⟨its,rv,p,hz⟩:=I.list hq;obtain ⟨u,hu,ru⟩:=rv.get hx;have W:=WalksT.enumerate (prog:=X.prog) (w:=X.w) (A:=X.A) (I.ok.hd hc) e it a hei hae hai its.toArray
  have hil:i<its.toArray.size:=by
   have:=(List.getElem?_eq_some_iff.mp hu).1
   simpa using this
  refine W.item i s _ _ hil ⟨st.1,st.2,p.isList⟩ fun T vals h' tk hv hT hTT hMid kk=>?_
  obtain ⟨t,y,hy,rfl⟩:=hv;have ey:y=u:=by
   rw [List.getElem?_toArray,hu] at hy;exact (Option.some.inj hy).symm
  subst ey;refine ⟨.ref T,rfl,W.go elts k pos i T _ _ _ hMid fun h2 st2 kk2=>?_⟩
  have hTn:H T=none:=I.hok.fresh hT
  have hTw:T∉[e,it]:=W.apart i T _ hMid
  have kAll:∀b o,b∉[e,it]->s.heap.get? b=some o->h2.get? b=some o:=fun b o hb q=>kk2 b o hb (kk b o hb q)
  have I1:L2.Inv X pins σ H { s with heap:=h2,toks:=tk }:=Inv.turnedL I kAll hf
  have tT:h2.IsTuple T #[.int i t,y]:=by
   obtain ⟨o,q1,q2⟩:=hTT;exact ⟨o,kk2 T o hTw q1,q2⟩
  have hvs:Vals [.int (i:Int),x] [.int i t,y]:=.cons (show RelV (.int (i:Int)) (.int i t) from ⟨t,rfl⟩) (.cons ru .nil)
  have I3:L2.Inv X pins σ (cF H T (.tup [.int i,x])) { s with heap:=h2,toks:=tk }:=Inv.turnedT (t':=tk) I kAll hf hT ⟨by show 2<=sizeLine;decide,[.int i t,y],hvs,(show IsTup h2 T _ from tT)⟩
  refine ⟨.ref T,cF H T (.tup [.int i,x]),I3,rfl,⟨T,x,rfl,hTn,rfl,fun ys hy=>by rw [I.list_inj hy hq];exact hx⟩,⟨st2.1,st2.2.1⟩,fun b hb=>?_⟩
  have hbT:b≠T:=fun z=>by rw [z] at hb;exact hTw hb
  rw [eV hbT];exact (hf b hb).1
 done:=by
  intro X hP hw hK hc i pins s σ H E I hf st hg;subst hP hw hK;obtain ⟨xs,hq,hx⟩:=hg;obtain ⟨its,rv,p,hz⟩:=I.list hq;have hl:=rv.length
  obtain ⟨⟨old,he⟩,hit⟩:=st;refine wpAny_pyNext_enum_end (I.ok.hd hc) he hit p.isList (Array.getElem?_eq_none (by simp;omega)) fun h' hk=>⟨rfl,Inv.turnedL (t':=s.toks) I (fun b o hb q=>hk b o (fun z=>hb (by simp [z])) q) hf⟩
 self:=fun _ _ _ _ _ st h=>by
  obtain ⟨⟨old,he⟩,hit⟩:=st;exact wpAny_pyIter_enum he h
def xx (K:Fg) (ta:TA):TI:=fun σ H R=>ta σ H fun vs H1=>∃a,vs=[.ref a]/\(∃xs,SqL K H1 a xs)/\R (Gm K a) H1
theorem oR {X:Cx} {elts:List Expr} {kt:Nat} {ptg:Pos} {l:Expr} {ta:TA} {p pos:Pos} (hg:Gl X "enumerate") (hm:X.mg "enumerate"=none) (ha:PA X [l] ta) (hs:starEach [l] X.env=[(false,eval l X.env)]) :
  PI X (.Tuple elts kt ptg) (.Call (.Name "enumerate" p) [l] [] pos) (xx X.K ta):=by
 intro pins s σ H R I h;refine Call_ (wB I hg hm boot_enumerate (PyProof.Rows.callWith_type1 (ck (ha pos pins s σ H _ I h) fun us s1 ⟨vs,H1,I1,r1,q1⟩=>?_) hs rfl))
 obtain ⟨a,e,⟨xs,hq⟩,q⟩:=q1;subst e;obtain ⟨u,rfl,ru⟩:=r1.one
 cases ru;obtain ⟨its,rv,pl,hz⟩:=I1.list hq;refine call_enumerate_list pl.isList fun h' he hit hsz hk=>?_
 have ha1:a<s1.heap.objs.size:=by
  obtain ⟨o,q1,_⟩:=pl.isList;exact Heap.lt_size q1
 refine wpAny_pyIter_enum (s:={ s1 with heap:=h' }) he ?_
 have I2:L2.Inv X pins σ H1 { s1 with heap:=h' }:=I1.kept (t':=s1.toks) hk
 refine ⟨s1.heap.objs.size+1,[s1.heap.objs.size+1,s1.heap.objs.size],_,Gm X.K a,H1,rfl,I2,pG a _ _ (Nat.succ_ne_self _) (Nat.ne_of_lt (Nat.lt_succ_of_lt ha1)) (Nat.ne_of_lt ha1),⟨⟨_,he⟩,hit⟩,fun b hb=>?_,q⟩
 simp only [mem_cons,not_mem_nil,or_false] at hb
 have hb2:s1.heap.objs.size<=b:=by
  rcases hb with z | z
  ·rw [z];exact Nat.le_succ _
  ·rw [z];exact Nat.le_refl _
 have f:=I1.fpOk hb2 (I1.hok.fresh hb2)
 exact f
def rd (i j:Nat) (fc:FB) (fe:F1) (s:Sh):Nat->List PySem.PyData->Ev->List PySem.PyData->Out (List PySem.PyData)
 | _,[],Γ,acc=>.ok acc Γ
 | k,d::r,Γ,acc=>match fc ((Γ.set i (some ⟨.leaf,.int (k:Nat)⟩)).set j (some ⟨.leaf,d⟩)) with
  | .ok true Γ1=>(match fe Γ1 with
   | .ok p Γ2=>if T.coer s p&&decide (acc.length<sizeLine) then rd i j fc fe s (k+1) r ((Γ2.set i none).set j none) (acc++[p.d]) else .no
   | _=>.no)
  | .ok false Γ1=>if acc.length<sizeLine then rd i j fc fe s (k+1) r ((Γ1.set i none).set j none) acc else .no
  | _=>.no
def t8:Option (Option PV)->Bool
 | some none=>true
 | _=>false
def iZ (s:Sh) (i j:Nat) (fa:F1) (fc:FB) (fe:F1):F1:=fun Γ=>(aK fa Γ).bind fun t Γ1=>if t8 Γ1[i]?&&t8 Γ1[j]?&&!s.isView then (match rd i j fc fe s 0 t.ds Γ1 [] with
 | .ok ds Γ2=>.ok ⟨.lst s,.list ds⟩ Γ2
 | _=>.no) else .no
theorem iK {o:Option (Option PV)} (h:t8 o=true):o=some none:=by
 unfold t8 at h;split at h
 ·rfl
 ·cases h
section
variable {K:Fg} {He H H1 H2:Hp} {O G:List Addr} {Fs Fs1 Fs2:List (List Addr)} {σ:St} {Γ Γ1 Γ2:Ev}
theorem rX {Γ:Ev} {i j m:Nat} {p:PV} (h:((Γ.set i none).set j none)[m]?=some (some p)):m≠i/\m≠j/\Γ[m]?=some (some p):=by
 obtain ⟨h1,h2⟩:=CT h;obtain ⟨h3,h4⟩:=CT h2;exact ⟨h3,h1,h4⟩
theorem EnvOk.forget2 {i j:Nat} {x y:Option V} (E:EnvOk K He O Fs H (((bE [i,j] σ).set i x).set j y) Γ):EnvOk K He O Fs H (bE [i,j] σ) ((Γ.set i none).set j none):=by
 refine ⟨by have:=E.len1;simpa using this,by have:=E.len2;simpa using this,E.same,E.nd,E.inH,E.fresh,fun m q hq=>?_⟩
 obtain ⟨h1,h2,h3⟩:=rX hq;obtain ⟨w1,v',F',e1,e2,e3⟩:=E.slot m q h3;rw [getElem?_set_ne (Ne.symm h2),getElem?_set_ne (Ne.symm h1)] at e1;exact ⟨w1,v',F',e1,e2,e3⟩
theorem EnvOk.blank2 {i j:Nat} (E:EnvOk K He O Fs H σ Γ) (hi:Γ[i]?=some none) (hj:Γ[j]?=some none):EnvOk K He O Fs H (bE [i,j] σ) Γ:=by
 refine ⟨by rw [wU];exact E.len1,E.len2,E.same,E.nd,E.inH,E.fresh,fun m q hq=>?_⟩
 obtain ⟨w1,v',F',e1,e2,e3⟩:=E.slot m q hq;refine ⟨w1,v',F',?_,e2,e3⟩
 rw [DQ (fun z=>?_)]
 ·exact e1
 ·simp only [mem_cons,not_mem_nil,or_false] at z
  rcases z with z | z
  ·rw [z,hi] at hq;cases hq
  ·rw [z,hj] at hq;cases hq
theorem EnvOk.unblank2 {i j:Nat} (E:EnvOk K He O Fs H (bE [i,j] σ) Γ):EnvOk K He O Fs H σ Γ:=by
 refine ⟨by have:=E.len1;rw [wU] at this;exact this,E.len2,E.same,E.nd,E.inH,E.fresh,fun m q hq=>?_⟩
 obtain ⟨w1,v',F',e1,e2,e3⟩:=E.slot m q hq;exact ⟨w1,v',F',(CP e1).2,e2,e3⟩
theorem mG {i:Nat} {a:Addr} (hi:i<Fs.length) (h:a∈(Fs.set i []).flatten):a∈Fs.flatten:=by
 have hF:Fs[i]?=some (Fs[i]'hi):=getElem?_eq_getElem _
 have:=(m9 (G:=[]) hF).mem_iff.mp (mem_append_right _ h)
 simpa using this
structure Cs (K:Fg) (He:Hp) (O:List Addr) (Fs1:List (List Addr)) (H1:Hp) (σ:St) (i j:Nat) (s:Sh) (A0:Addr) (n:Nat) (ys:List V) (H:Hp) (Γk:Ev) (Fk Gs:List (List Addr)) (acc:List PySem.PyData):Prop where
 env:EnvOk K He (A0::Gs.flatten++O) Fk H (bE [i,j] σ) Γk
 same:Same H1 H
 at_:H A0=some (.lst ys)
 new:∀a∈Gs.flatten++Fk.flatten,a∈Fs1.flatten\/H1 a=none
 l1:ys.length=acc.length
 l2:Gs.length=acc.length
 own:∀(m:Nat) v d G,ys[m]?=some v->acc[m]?=some d->Gs[m]?=some G->Own K (A0::Gs.flatten++O++Fk.flatten) H s G v d
 len:Γk.length=n
end
section
variable {K:Fg} {W:XW} {σ:St} {H:Hp} {Q:VK} {fa fe:F1} {fc:FB} {s:Sh} {i j:Nat}
theorem lZ (hij:i≠j) (h:tE K W (iZ s i j fa fc fe) σ H Q):lJ [i,j] (xx K (tA K W (ab fa af))) (zH K 2 (o7 (gName i) (o7 (gName j) zI))) (tT K W0 fc) (tE K W0 fe) σ H Q:=by
 obtain ⟨He,O,Fs,Γ,E,h⟩:=h;refine DI ⟨He,O,Fs,Γ,E,?_⟩
 unfold iZ aK at h
 cases e:fa Γ with
 | er c Γ1=>rw [e] at h;exact h
 | no=>rw [e] at h;exact h
 | ok p Γ1=>
  rw [e] at h;intro v H1 G Fs1 A;obtain ⟨sp,d⟩:=p
  cases d with
  | list ds=>
   have h:Wants K W He O Fs H σ Q ((if fx ⟨sp,.list ds⟩ ds then Out.ok (⟨ds,!sp.isView⟩:Gk) Γ1 else .no).bind fun t Γ1=>if t8 Γ1[i]?&&t8 Γ1[j]?&&!s.isView then (match rd i j fc fe s 0 t.ds Γ1 [] with | .ok ds Γ2=>.ok ⟨.lst s,.list ds⟩ Γ2 | _=>.no) else .no):=h
   cases hc:fx ⟨sp,.list ds⟩ ds with
   | false=>rw [hc] at h;exact h.elim
   | true=>
    rw [hc] at h;have h:Wants K W He O Fs H σ Q (if t8 Γ1[i]?&&t8 Γ1[j]?&&!s.isView then (match rd i j fc fe s 0 ds Γ1 [] with | .ok ds Γ2=>.ok ⟨.lst s,.list ds⟩ Γ2 | _=>.no) else .no):=h
    by_cases hn:(t8 Γ1[i]?&&t8 Γ1[j]?&&!s.isView)=true
    case neg=>rw [if_neg hn] at h;exact h.elim
    rw [if_pos hn] at h;simp only [Bool.and_eq_true,Bool.not_eq_true'] at hn
    obtain ⟨⟨hni,hnj⟩,hsv⟩:=hn;have hni:=iK hni
    have hnj:=iK hnj
    cases eg:rd i j fc fe s 0 ds Γ1 [] with
    | er c Γ'=>rw [eg] at h;exact h.elim
    | no=>rw [eg] at h;exact h.elim
    | ok ds' Γ2=>
     rw [eg] at h;have h:Wants K W He O Fs H σ Q (.ok ⟨.lst s,.list ds'⟩ Γ2):=h
     obtain ⟨p,vs,rfl,hq,hst,hr⟩:=A.own.items (O':=O++Fs1.flatten) hc lK A.disj
     have E1:=A.go
     have hlen:vs.length=ds.length:=hr.1
     have hi:i<Γ1.length:=(List.getElem?_eq_some_iff.mp hni).1
     have hj:j<Γ1.length:=(List.getElem?_eq_some_iff.mp hnj).1
     refine ⟨p,rfl,⟨vs,hq⟩,fun A0 hD=>?_⟩
     have hHeD:He A0=none:=E1.same.free hD
     have E0':EnvOk K He (A0::([]:List (List Addr)).flatten++O) Fs1 (cF H1 A0 (.lst [])) (bE [i,j] σ) Γ1:=
      (E1.blank2 hni hnj).hide (G:=[A0]) (m7 hD) (by simp) (fun a ha=>by simp at ha;rw [ha];exact hD) (fun a ha=>by simp at ha;rw [ha,iY];exact Option.some_ne_none _)
     refine ⟨fun k m ys H'=>m=vs.length-k/\k<=vs.length/\∃Γk Fk Gs acc,Cs K He O Fs1 H1 σ i j s A0 Γ1.length ys H' Γk Fk Gs acc/\rd i j fc fe s k (ds.drop k) Γk acc=.ok ds' Γ2,⟨vs.length,by simp,Nat.zero_le _,Γ1,Fs1,[],[],⟨E0',m7 hD,iY,fun a ha=>.inl (by simpa using ha),rfl,rfl,fun m v d G h1=>by simp at h1,rfl⟩,by simpa using eg⟩,?_⟩
     rintro k m ys H' ⟨rfl,hk,Γk,Fk,Gs,acc,g,eg'⟩
     refine ⟨g.at_,?_⟩
     have hPk:SqL K H' p vs:=g.same.seq hq
     by_cases hlt:k<vs.length
     case neg=>
      left
      have:ds.drop k=[]:=List.drop_eq_nil_of_le (by omega)
      rw [this] at eg';have eg'':(Out.ok acc Γk:Out (List PySem.PyData))=.ok ds' Γ2:=eg'
      injection eg'' with e1 e2
      subst e1;subst e2;refine ⟨⟨vs,hPk,by omega⟩,?_⟩
      obtain ⟨n1',_,n3'⟩:=List.nodup_append.mp g.env.ndO;refine h (.ref A0) H' (A0::Gs.flatten) Fk ⟨A.same.trans g.same,g.env.unblank2,fun a ha=>?_,?_⟩
      ·have up:a∈Fs1.flatten\/H1 a=none->a∈Fs.flatten\/H a=none:=fun z=>z.elim (fun y=>A.newF a y) fun y=>.inr (A.same.free y)
       rcases List.mem_append.mp ha with z | z
       ·rcases List.mem_cons.mp z with z | z
        ·exact up (.inr (by rw [z];exact hD))
        ·exact up (g.new a (mem_append_left _ z))
       ·exact up (g.new a (mem_append_right _ z))
      ·exact .lst hsv g.at_ g.l1 g.l2 n1' fun m v d G h1 h2 h3=>g.own m v d G h1 h2 h3
     case pos=>
      right
      have hv:vs[k]?=some vs[k]:=getElem?_eq_getElem hlt
      have hkd:k<ds.length:=by omega
      have hd:ds[k]?=some ds[k]:=getElem?_eq_getElem hkd
      have hdr:ds.drop k=ds[k]::ds.drop (k+1):=List.drop_eq_getElem_cons hkd
      rw [hdr] at eg';generalize hdk:ds[k]=d at hd eg'
      generalize hvk:vs[k]=v at hv
      simp only [rd] at eg'
      have hik:i<Γk.length:=by rw [g.len];exact hi
      have hjk:j<Γk.length:=by rw [g.len];exact hj
      have hsl:ys.length<sizeLine:=by
       rw [g.l1]
       cases ec:fc ((Γk.set i (some ⟨.leaf,.int (k:Nat)⟩)).set j (some ⟨.leaf,d⟩)) with
       | no=>rw [ec] at eg';cases eg'
       | er c Γ'=>rw [ec] at eg';cases eg'
       | ok b Γa=>
        rw [ec] at eg'
        cases b with
        | false=>
         dsimp only at eg'
         split at eg'
         ·assumption
         ·cases eg'
        | true=>
         dsimp only at eg'
         split at eg'
         ·split at eg'
          ·rename_i z
           simp only [Bool.and_eq_true,decide_eq_true_eq] at z
           exact z.2
          ·cases eg'
         ·cases eg'
      refine ⟨⟨vs,v,hPk,hv⟩,hsl,?_⟩
      rintro x Hx ⟨T,v',rfl,hTn,rfl,hv'⟩
      have ev:v'=v:=Option.some.inj ((hv' vs hPk).symm.trans hv)
      subst ev;refine ⟨T,[.int k,v'],rfl,.of iY,rfl,.int k,[v'],rfl,v',[],rfl,rfl,?_⟩
      have sT:Same H' (cF H' T (.tup [.int k,v'])):=m7 hTn
      have Eg:=g.env.grow sT
      have rep:Rep K (cQ (cF H' T (.tup [.int k,v'])) (A0::Gs.flatten++O++Fk.flatten)) v' d:=(hr.2 k v' d hv hd).mono (wH (g.same.trans sT) fun a ha=>by
       rcases List.mem_append.mp ha with z | z
       ·rcases List.mem_append.mp z with z | z
        ·rcases List.mem_cons.mp z with z | z
         ·rw [z];exact .inr hD
         ·exact (g.new a (mem_append_left _ z)).elim (fun y=>.inl (mem_append_right _ y)) .inr
        ·exact .inl (mem_append_left _ z)
       ·exact (g.new a (mem_append_right _ z)).elim (fun y=>.inl (mem_append_right _ y)) .inr)
      have lF:Fk.length=Γk.length:=g.env.len2
      have Ep:=EnvOk.put (G:=[]) (i:=i) (p:=⟨.leaf,.int (k:Nat)⟩) (v:=.int k) Eg (.leaf (.int _)) rfl (fun a ha=>by simp at ha) hik
      have fk:∀a∈(Fk.set i []).flatten,a∈Fk.flatten:=fun a ha=>mG (by omega) ha
      have Eq:=EnvOk.put (G:=[]) (i:=j) (p:=⟨.leaf,d⟩) (v:=v') Ep (.leaf (rep.mono (wH (Same.refl _) fun a ha=>.inl (by
       rcases List.mem_append.mp ha with z | z
       ·exact mem_append_left _ z
       ·exact mem_append_right _ (fk a z))))) rfl (fun a ha=>by simp at ha) (by rw [length_set];exact hjk)
      have fkk:∀a∈((Fk.set i []).set j []).flatten,a∈Fk.flatten:=fun a ha=>fk a (mG (by rw [length_set];omega) ha)
      refine ⟨⟨by rw [length_set,length_set],fun m u hm=>?_⟩,?_⟩
      ·have:=(CP hm).1
       simp only [mem_cons,not_mem_nil,or_false,not_or] at this
       rw [getElem?_set_ne (Ne.symm this.2),getElem?_set_ne (Ne.symm this.1)];exact hm
      refine ⟨He,_,_,_,Eq,?_⟩
      cases ec:fc ((Γk.set i (some ⟨.leaf,.int (k:Nat)⟩)).set j (some ⟨.leaf,d⟩)) with
      | no=>rw [ec] at eg';cases eg'
      | er c Γ'=>rw [ec] at eg';cases eg'
      | ok b Γa=>
       rw [ec] at eg';intro H3 Fs3 s3' E3 n3
       have s3:Same H' H3:=sT.trans s3'
       have lena:Γa.length=Γ1.length:=by
        have:=E3.len1
        rw [length_set,length_set,wU,E1.len1] at this;exact this.symm
       have n3':∀a∈Fs3.flatten,a∈Fs1.flatten\/H1 a=none:=fun a ha=>(n3 a ha).elim (fun z=>g.new a (mem_append_right _ (fkk a z))) fun z=>.inr (g.same.free (sT.free z))
       have n3k:∀a∈Fs3.flatten,a∈Fk.flatten\/H' a=none:=fun a ha=>(n3 a ha).elim (fun z=>.inl (fkk a z)) fun z=>.inr (sT.free z)
       cases b with
       | false=>
        dsimp only at eg'
        split at eg'
        case isFalse=>cases eg'
        refine kK ⟨vs.length-(k+1),by omega,rfl,hlt,(Γa.set i none).set j none,Fs3,Gs,acc,⟨E3.forget2,g.same.trans s3,s3 _ _ g.at_,fun a ha=>?_,g.l1,g.l2,fun m v d G h1 h2 h3=>(g.own m v d G h1 h2 h3).mono s3 fun a ha=>?_,by rw [length_set,length_set];exact lena⟩,eg'⟩
        ·rcases List.mem_append.mp ha with z | z
         ·exact g.new a (mem_append_left _ z)
         ·exact n3' a z
        ·rcases List.mem_append.mp ha with z | z
         ·exact .inl (mem_append_left _ z)
         ·exact (n3k a z).elim (fun y=>.inl (mem_append_right _ y)) .inr
       | true=>
        refine kJ ⟨He,_,_,_,E3,?_⟩
        dsimp only at eg'
        cases ee:fe Γa with
        | no=>rw [ee] at eg';cases eg'
        | er c Γ'=>rw [ee] at eg';cases eg'
        | ok p Γb=>
         rw [ee] at eg';dsimp only at eg'
         split at eg'
         case isFalse=>cases eg'
         rename_i hco;simp only [Bool.and_eq_true,decide_eq_true_eq] at hco
         obtain ⟨hco,_⟩:=hco;intro u H4 G Fs4 A4;have lenb:Γb.length=Γ1.length:=by
          have:=A4.env.len1
          rw [length_set,length_set,wU,E1.len1] at this;exact this.symm
         have at4:H4 A0=some (.lst ys):=A4.same _ _ (s3 _ _ g.at_)
         have s14:Same H1 H4:=(g.same.trans s3).trans A4.same
         have new4:∀a∈G++Fs4.flatten,a∈Fs1.flatten\/H1 a=none:=fun a ha=>(A4.new a ha).elim (n3' a) fun z=>.inr ((g.same.trans s3).free z)
         have hG':∀a∈bb s G,a∈G:=fun a ha=>Em ha
         obtain ⟨k1,k2,k3⟩:=List.nodup_append.mp A4.env.ndO;have ndk:(bb s G).Nodup:=by
          cases s<;>first | exact nodup_nil | exact k1
         have pmO:(A0::(Gs++[bb s G]).flatten++O).Perm (bb s G++(A0::Gs.flatten++O)):=by
          rw [uo];show (A0::((Gs.flatten++bb s G)++O)).Perm _
          refine List.Perm.trans ?_ List.perm_middle.symm
          refine List.Perm.cons _ ?_
          rw [append_assoc];exact jY _ _ _
         have E5:EnvOk K He (bb s G++(A0::Gs.flatten++O)) Fs4 H4 (((bE [i,j] σ).set i (some (.int k))).set j (some v')) Γb:=A4.env.drop (fun a ha=>by
          rcases List.mem_append.mp ha with z | z
          ·exact mem_append_left _ (hG' a z)
          ·exact mem_append_right _ z) (List.nodup_append.mpr ⟨ndk,k2,fun a ha b hb=>k3 a (hG' a ha) b hb⟩)
         have E6:=(E5.perm pmO).forget2
         have hDin:A0∈A0::(Gs++[bb s G]).flatten++O:=mem_cons_self
         have E7:=E6.mutO (o:=.lst (ys++[u])) hDin at4 hHeD
         have subH:∀a∈A0::(Gs++[bb s G]).flatten++O++Fs4.flatten,a∈G++(A0::Gs.flatten++O)++Fs4.flatten:=fun a ha=>by
          rcases List.mem_append.mp ha with z | z
          ·rcases List.mem_append.mp (pmO.mem_iff.mp z) with y | y
           ·exact mem_append_left _ (mem_append_left _ (hG' a y))
           ·exact mem_append_left _ (mem_append_right _ y)
          ·exact mem_append_right _ z
         have Dnot:∀{m:Nat} {Gj:List Addr},Gs[m]?=some Gj->A0∉Gj:=fun {m Gj} hj z=>by
          have nd:=g.env.ndO
          exact (List.nodup_cons.mp nd).1 (mem_append_left _ (hV hj z))
         refine ⟨at4,vs.length-(k+1),by omega,rfl,hlt,(Γb.set i none).set j none,Fs4,Gs++[bb s G],acc++[p.d],⟨E7,fun b o hb=>?_,iY,fun a ha=>?_,by simp [g.l1],by simp [g.l2],fun m w d' G' h1 h2 h3=>?_,by rw [length_set,length_set];exact lenb⟩,eg'⟩
         ·rw [eV (rq hb hD)]
          exact s14 b o hb
         ·rcases List.mem_append.mp ha with z | z
          ·rw [uo] at z
           rcases List.mem_append.mp z with z | z
           ·exact g.new a (mem_append_left _ z)
           ·exact new4 a (mem_append_left _ (hG' a z))
          ·exact new4 a (mem_append_right _ z)
         ·by_cases hm:m<ys.length
          ·rw [getElem?_append_left hm] at h1
           rw [getElem?_append_left (by rw [<-g.l1];exact hm)] at h2
           rw [getElem?_append_left (by rw [g.l2,<-g.l1];exact hm)] at h3
           have o1:=g.own m w d' G' h1 h2 h3
           have o2:=o1.mono (O':=A0::(Gs++[bb s G]).flatten++O++Fs4.flatten) (s3.trans A4.same) fun a ha=>by
            have up:a∈G++Fs4.flatten->a∈A0::Gs.flatten++O++Fk.flatten\/H' a=none:=fun z=>(A4.new a z).elim (fun y=>(n3k a y).elim (fun y=>.inl (mem_append_right _ y)) .inr) fun y=>.inr (s3.free y)
            rcases List.mem_append.mp (subH a ha) with z | z
            ·rcases List.mem_append.mp z with z | z
             ·exact up (mem_append_left _ z)
             ·exact .inl (mem_append_left _ z)
            ·exact up (mem_append_right _ z)
           exact o2.mut hsv (mem_append_left _ hDin) (Dnot h3) at4
          ·have hm':m=ys.length:=by
            have:=(List.getElem?_eq_some_iff.mp h1).1
            rw [length_append,length_singleton] at this;omega
           subst hm'
           rw [getElem?_append_right (Nat.le_refl _),Nat.sub_self] at h1;rw [getElem?_append_right (by rw [g.l1];exact Nat.le_refl _),show ys.length-acc.length=0 by rw [g.l1];exact Nat.sub_self _] at h2
           rw [getElem?_append_right (by rw [g.l2,g.l1];exact Nat.le_refl _),show ys.length-Gs.length=0 by rw [g.l2,g.l1];exact Nat.sub_self _] at h3
           cases h1
           cases h2
           cases h3;have o3:=A4.own.coer (s:=s) (O':=A0::(Gs++[bb s G]).flatten++O++Fs4.flatten) hco subH fun a ha hO=>by
            cases s with
            | leaf=>
             exfalso
             have hO':a∈(A0::Gs.flatten++O)++Fs4.flatten:=by
              rw [uo] at hO;simpa [bb] using hO
             rcases List.mem_append.mp hO' with z | z
             ·exact k3 a ha a z rfl
             ·have nd:=A4.env.nd
              exact (List.nodup_append.mp nd).2.2 a (mem_append_left _ ha) a z rfl
            | view=>cases hsv
            | lst s=>exact ha
            | tup ss=>exact ha
           refine o3.mut hsv (mem_append_left _ hDin) (fun z=>?_) at4
           exact k3 A0 (hG' A0 z) A0 mem_cons_self rfl
  | _=>exact h.elim
end
def AM (N:List Str) (is:List Nat) (cs:List Nat) (sc:Scope):Bool:=
 decide (sc.kind=.function)&&(sc.names.all fun p=>!decide (p.2=.free)||cs.any fun j=>decide (N[j]?=some p.1)) &&
 ((List.range N.length).all fun j=>is.contains j||(sc.names.all fun p=>!decide (some p.1=N[j]?)||(!decide (p.2=.local)&&!decide (p.2=.cell)))) &&
 (sc.names.all fun p=>!decide (p.2=.local)||decide (sc.names.lookup p.1=some .local)) &&
 (sc.names.all fun p=>!decide (p.2=.free)||sc.names.all fun q=>!decide (q.1=p.1)||!decide (q.2=.cell))
theorem kc {X:Cx} {N gl:List Str} {vs cs ls lo gs is:List Nat} {scope:Scope} (S:Cp X N gl vs cs ls lo gs) (h:AM N is cs scope=true):dJ X.N is X.env.scope scope:=by
 unfold AM at h;simp only [Bool.and_eq_true,decide_eq_true_eq,all_eq_true,Bool.or_eq_true,Bool.not_eq_true',decide_eq_false_iff_not,any_eq_true,mem_range] at h
 obtain ⟨⟨⟨⟨h0,h1⟩,h2⟩,h3⟩,h4⟩:=h;refine ⟨h0,fun n hn=>?_,fun j x e hj=>?_,fun x hx e=>?_,fun n hn hc=>?_⟩
 ·rcases h1 _ hn with z | ⟨j,hj,e⟩
  ·exact absurd rfl z
  ·exact S.cel j n e (by simpa using hj)
 ·rw [S.hN] at e
  rcases h2 j (List.getElem?_eq_some_iff.mp e).1 with z | z
  ·simpa using z
  ·exfalso
   rcases hj with y | y
   ·rcases z _ y with w | w
    ·exact w e.symm
    ·exact w.1 rfl
   ·rcases z _ y with w | w
    ·exact w e.symm
    ·exact w.2 rfl
 ·rcases h3 x hx with z | z
  ·exact absurd e z
  ·exact z
 ·rcases h4 _ hn with z | z
  ·exact z rfl
  ·rcases z _ hc with w | w
   ·exact w rfl
   ·exact w rfl
end T
namespace TQ
open PySem PySem.Spec L2 T
open PyProof.Rows hiding St
section
variable {X:Cx} {N gl:List Str} {vs cs ls lo gs:List Nat} {W:XW} {a b c e:Expr} {es:List Expr} {pos p:Pos} {fa fb fc:F1} {fl:FL} {ga gb:FB} {g1 g2 g:FS}
theorem DP {st:Stmt}:Q (PS X st (tS X.K W C4)):=⟨fun pins s σ H D I h=>by
 obtain ⟨He,O,Fs,Γ,E,h⟩:=h;exact h.elim⟩
theorem AY (ha:Q (PE X e (tE X.K W fa))) (hs:swapsWith e none pos.line X.env=pure false):Q (PS X (.Expr e pos) (tS X.K W (cK fa))):=⟨have ha:=ha.p;cL (AU ha hs) fun _ _ _=>uW⟩
theorem CM {X:Cx} {N gl:List Str} {vs cs ls lo gs:List Nat} {W:XW} {a:Expr} {pos p p2:Pos} {fa:F1} {c:String} {x:Str} (S:Cp X N gl vs cs ls lo gs) (j k:Nat) (hj:gl[j]?=some ("isinstance":Str)) (hg:gs.contains j=true) (hk:gl[k]?=some x) (hg2:gs.contains k=true) (hc:kinds.contains c=true) (hv:bootBuiltins x=some (.type c)) (hm:X.mg "isinstance"=none) (hm2:X.mg x=none) (ha:Q (PE X a (tE X.K W fa))) (hs:starEach [a,.Name x p2] X.env=(false,eval a X.env)::starEach [.Name x p2] X.env) (hs2:starEach [.Name x p2] X.env=(false,eval (.Name x p2) X.env)::starEach [] X.env) (hpl:(backTo pos (starEach [.Name x p2] X.env)).any (·.1)=false):Q (PE X (.Call (.Name "isinstance" p) [a,.Name x p2] [] pos) (tE X.K W (dW c fa))):=⟨have ha:=ha.p;bC (DT (tK (by simpa using hc)) (S.g hj hg).1 hm lq (CG ha (CG (vd (v:=.ty c) (S.g hk hg2).1 hm2 hv rfl (S.g hk hg2).2.2 (S.g hk hg2).2.1) DE hs2) hs) (S.g hj hg).2.2 (S.g hj hg).2.1 hs hpl) fun _ _ _=>yw⟩
theorem ig {p2 pos2:Pos} (S:Cp X N gl vs cs ls lo gs) (j k:Nat) (hj:gl[j]?=some ("list":Str)) (hg:gs.contains j=true) (hm:X.mg "list"=none) (hk:gl[k]?=some ("range":Str)) (hg2:gs.contains k=true) (hm2:X.mg "range"=none) (ha:Q (PA X [a] (tA X.K W fl))) (hs:starEach [a] X.env=[(false,eval a X.env)]) (hs1:starEach [.Call (.Name "range" p2) [a] [] pos2] X.env=[(false,eval (.Call (.Name "range" p2) [a] [] pos2) X.env)]):Q (PE X (.Call (.Name "list" p) [.Call (.Name "range" p2) [a] [] pos2] [] pos) (tE X.K W (ue fl))):=⟨have ha:=ha.p;bC (kD (S.g hj hg).1 hm (S.g hk hg2).1 hm2 S.calm ha hs hs1) fun _ _ _=>By⟩
theorem ic (n:Nat) {body:List Stmt} (hp:PassesOwn (model X.prog X.w) X.A X.env X.xe) (hc:Q (PT X c (tT X.K W ga))) (hb:Q (PSs X body (tS X.K W g))):Q (PS X (.While c body [] pos) (tS X.K W (wF n ga g))):=⟨have hc:=hc.p;have hb:=hb.p;cL (sx hp hc hb) fun _ _ _=>rZ⟩
theorem A7 {scope:Scope} {x y:Str} {px py pt cpos:Pos} {kt:Nat} {elt:Expr} {ifs:List Expr} {fe:F1} {fc:FB} {vs' cs' lo' gs':List Nat} (S:Cp X N gl vs cs ls lo gs) (s:Sh) (i j k:Nat) (hij:(i != j)=true) (hx:N[i]?=some x) (hy:N[j]?=some y) (hk:gl[k]?=some ("enumerate":Str)) (hg:gs.contains k=true) (hm:X.mg "enumerate"=none) (h1:AM N [i,j] cs scope=true) (h2:qD N gl vs' cs' [i,j] lo' gs' scope=true) (ha:Q (PE X a (tE X.K W fa))) (hs1:starEach [a] X.env=[(false,eval a X.env)]) (hc:pf X N gl vs' cs' [i,j] lo' gs' fun Y=>Q (PF Y ifs (tT Y.K W0 fc))) (he:pf X N gl vs' cs' [i,j] lo' gs' fun Y=>Q (PE Y elt (tE Y.K W0 fe))) (hs:∀x,foldedSetIterable (.Call (.Name "enumerate" p) [a] [] cpos) X.env x=pure x):Q (PE X (.ListComp elt [⟨.Tuple [.Name x px,.Name y py] kt pt,.Call (.Name "enumerate" p) [a] [] cpos,ifs,0⟩] scope pos) (tE X.K W (iZ s i j fa fc fe))):=⟨by
 have ha:=ha.p
 have hc:=fun Y S F=>(hc Y S F).p
 have he:=fun Y S F=>(he Y S F).p
 have B:=fun cells C s₀ H₀ ex=>S.blk h2 cells C s₀ H₀ ex
 have L:=fun cells C s₀ H₀ ex=>(B cells C s₀ H₀ ex).loc i x hx (by simp)
 have L2':=fun cells C s₀ H₀ ex=>(B cells C s₀ H₀ ex).loc j y hy (by simp)
 have hN:X.N.Nodup:=by rw [S.hN];exact S.nd
 exact bC (oS (kc S h1) S.calm (oR (S.g hk hg).1 hm (da_cons ha da_nil hs1) hs1)
  (fun cells C s₀ H₀ ex=>DF (X:=blk X scope cells C s₀ H₀ ex) S.calm (wI (rl (X:=blk X scope cells C s₀ H₀ ex) (i:=i) hN (by show X.N[i]?=_;rw [S.hN];exact hx) (L cells C s₀ H₀ ex).1 (L cells C s₀ H₀ ex).2) (wI (rl (X:=blk X scope cells C s₀ H₀ ex) (i:=j) hN (by show X.N[j]?=_;rw [S.hN];exact hy) (L2' cells C s₀ H₀ ex).1 (L2' cells C s₀ H₀ ex).2) DL)))
  (fun cells C s₀ H₀ ex=>hc _ (B cells C s₀ H₀ ex) ⟨rfl,rfl,rfl,rfl,rfl,rfl⟩) (fun cells C s₀ H₀ ex=>he _ (B cells C s₀ H₀ ex) ⟨rfl,rfl,rfl,rfl,rfl,rfl⟩) hs) fun _ _ _=>lZ (by simpa using hij)⟩
end
end TQ
namespace T
open PySem PySem.Spec L2
open PyProof.Rows hiding St
def oj:PySem.PyData->Bool
 | .none=>true
 | _=>false
def aO (neg:Bool):PySem.PyData->PySem.PyData->Option PySem.PyData
 | a,.none=>some (.bool (if neg then !oj a else oj a))
 | _,_=>none
theorem mx {K:Fg} {H:Hp} {x:V} {a:PySem.PyData} (r:Rep K H x a):decide (x=V.non)=oj a:=by
 cases r<;>simp [oj]
theorem vE {K:Fg}:GOp K (fun x y H Q=>y=.non/\Q (.bl (decide (x=.non))) H) (aO false):=by
 intro x y H Q a b d ra rb e k
 cases rb<;>simp only [aO] at e<;>try cases e
 exact ⟨rfl,by rw [mx ra];exact k _ (.bl _)⟩
theorem tj {K:Fg}:GOp K (fun x y H Q=>y=.non/\Q (.bl (!decide (x=.non))) H) (aO true):=by
 intro x y H Q a b d ra rb e k
 cases rb<;>simp only [aO] at e<;>try cases e
 exact ⟨rfl,by rw [mx ra];exact k _ (.bl _)⟩
theorem d5 {X:Cx} (R:Rm X):Ck X .Is (fun x y H Q=>y=.non/\Q (.bl (decide (x=.non))) H) (aO false):=⟨y3,vE⟩
theorem t9 {X:Cx} (R:Rm X):Ck X .IsNot (fun x y H Q=>y=.non/\Q (.bl (!decide (x=.non))) H) (aO true):=⟨vf,tj⟩
def G9:PySem.PyData->PySem.PyData->Option PySem.PyData
 | .str i,.str j=>if i.length+j.length<=sizeLine then some (.str (i++j)) else none
 | _,_=>none
def Hd (fa fb:F1):F1:=bj fa fun p=>bj fb fun q=>fun Γ=>match p.d,q.d with
 | .tuple xs,.tuple ys=>if !p.s.isView&&fx q ys&&!xs.isEmpty&&decide (xs.length+ys.length<=sizeLine) then .ok ⟨.leaf,.tuple (xs++ys)⟩ Γ else .no
 | _,_=>.no
def F9 (fa fb:F1):F1:=bj fa fun p=>bj fb fun q=>fun Γ=>match p.d,q.d with
 | .tuple xs,.int k=>if !p.s.isView&&decide (1<=k)&&decide (k<=xs.length) then .ok ⟨.leaf,.tuple (xs.drop k.toNat)⟩ Γ else .no
 | _,_=>.no
theorem jW {K:Fg} {H:Hp} {ws:List V} {ns:List Int} (h:Reps K H ws (ns.map .int)):ws=ns.map V.int:=by
 obtain ⟨hwl,hw⟩:=h;apply ext_getElem?
 intro i;by_cases hi:i<ws.length
 ·have hi2:i<ns.length:=by rw [length_map] at hwl;omega
  have q:=hw i (ws[i]'hi) (.int (ns[i]'hi2)) (getElem?_eq_getElem _) (by rw [getElem?_map,getElem?_eq_getElem hi2];rfl)
  rw [getElem?_eq_getElem hi,getElem?_map,getElem?_eq_getElem hi2];generalize ws[i]'hi=u at q
  cases q;rfl
 ·rw [getElem?_eq_none (by omega),getElem?_eq_none (by rw [length_map] at hwl ⊢;omega)]
def gM (k:Str):List (Str×Int)->Option Int
 | []=>none
 | (x,i)::r=>if k=x then some i else gM k r
def Ga (neg:Bool) (tab:List (Str×Int)) (fa:F1):F1:=bj fa fun p Γ=>match p.d with
 | .str k=>.ok ⟨.leaf,.bool (if neg then !(gM k tab).isSome else (gM k tab).isSome)⟩ Γ
 | _=>.no
def B2 (tab:List (Str×Int)) (fa:F1):F1:=bj fa fun p Γ=>match p.d with
 | .str k=>(match gM k tab with
  | some i=>.ok ⟨.leaf,.int i⟩ Γ
  | none=>.no)
 | _=>.no
def Hy (i:Nat) (q:PV) (Γ:Ev):Out PV:=match Γ[i]?,q.d with
 | some (some ⟨.lst .leaf,.list ds⟩),.int k=>(match d6 ds.length k with
  | some j=>(match ds[j]? with
   | some d=>.ok ⟨.leaf,d⟩ Γ
   | none=>.no)
  | none=>.no)
 | _,_=>.no
section
variable {K:Fg} {W:XW} {σ:St} {H:Hp} {Q:VK} {D:du} {fa fb:F1} {fl:FL}
def mH (p:PV):Bool:=match p with
 | ⟨.lst .leaf,.list ds⟩=>ds.all bz
 | _=>false
def oi (n:Nat) (den:List PySem.PyData->bD) (fl:FL):F1:=fun Γ=>(fl Γ).bind fun ps Γ'=>if ps.length=n then (match den (ps.map (·.d)) with
 | .ok p=>if mH p then .ok p Γ' else .no
 | _=>.no) else .no
theorem sj {n:Nat} {den:List PySem.PyData->bD} {E:XK} (h:tE K W (oi n den fl) σ H Q):oA (qX K n den) [] E (tA K W fl) σ H Q:=by
 obtain ⟨He,O,Fs,Γ,E0,h⟩:=h;refine ⟨He,O,Fs,Γ,E0,?_⟩
 unfold oi at h
 cases e:fl Γ with
 | er c Γ'=>rw [e] at h;exact h
 | no=>rw [e] at h;exact h
 | ok ps Γ1=>
  rw [e] at h;intro vs H1 Gs Fs1 A;have h:Wants K W He O Fs H σ Q (if ps.length=n then (match den (ps.map (·.d)) with | .ok p=>if mH p then .ok p Γ1 else .no | _=>.no) else .no):=h
  by_cases hn:ps.length=n
  case neg=>rw [if_neg hn] at h;exact h.elim
  rw [if_pos hn] at h;have hl:(vs++[]).length=n:=by rw [append_nil,A.len1];exact hn
  cases ed:den (ps.map (·.d)) with
  | er c=>rw [ed] at h;exact h.elim
  | no=>rw [ed] at h;exact h.elim
  | ok p=>
   rw [ed] at h;have h:Wants K W He O Fs H σ Q (if mH p then .ok p Γ1 else .no):=h
   have newF:∀a∈Fs1.flatten,a∈Fs.flatten\/H a=none:=fun a ha=>A.new a (mem_append_right _ ha)
   cases hc:mH p with
   | false=>rw [hc] at h;exact h.elim
   | true=>
    rw [hc] at h;have h:Wants K W He O Fs H σ Q (.ok p Γ1):=h
    refine ⟨hl,[],ps.map (·.d),nodup_nil,(fun _ z=>nomatch z),by rw [append_nil,D4];exact A.reps,?_⟩
    rw [ed];intro v H2 G r;unfold mH at hc;split at hc
    ·rename_i ds
     obtain ⟨l,us,rfl,rfl,hp,hul,hr⟩:=r.own.leaves;refine h (.ref l) H2 [l] Fs1 ⟨A.same.trans r.same,A.env.dropL.hide r.same r.nd r.fresh r.inH,fun a ha=>?_,Own.mkLeaves hp hul fun j u d e1 e2=>((hr j u d e1 e2).sc (List.all_eq_true.mp hc d (mem_of_getElem? e2))).rep⟩
     rcases List.mem_append.mp ha with z | z
     ·exact .inr (A.same.free (r.fresh a z))
     ·exact newF a z
    ·cases hc
def tO (i:Nat) (a:Int) (p:PV) (Γ:Ev):OutS:=match p.d with
 | .int b=>if i<Γ.length then .nx (Γ.set i (some ⟨.leaf,.int (a+b)⟩)) else .no
 | _=>.no
def fN (i:Nat) (f:F1):FS:=fun Γ=>match Γ[i]? with
 | some (some ⟨.leaf,.int a⟩)=>fz f (tO i a) Γ
 | _=>.no
theorem yE {i:Nat} (h:tS K W (fN i fa) D σ H):Bo i (tE K W fa) (G8 fun i j=>i+j) D σ H:=by
 obtain ⟨He,O,Fs,Γ,E,h⟩:=h;unfold fN at h;split at h
 ·rename_i a e0
  obtain ⟨_,v,F,h1,h2,h3⟩:=E.slot i _ e0;have r:=h3.rep
  cases r;refine ⟨.int a,h1,?_⟩
  refine fJ (D:=D) (k:=tO i a) ⟨He,O,Fs,Γ,E,h⟩ fun He O Fs Γ1 p u H1 G Fs1 _ fr A w=>?_
  unfold tO at w;split at w
  ·rename_i b eb
   have r:=A.own.rep
   rw [eb] at r
   cases r;by_cases hi:i<Γ1.length
   ·rw [if_pos hi] at w
    exact ⟨a,b,rfl,rfl,w _ _ _ (EnvOk.put (G:=[]) (p:=⟨.leaf,.int (a+b)⟩) (v:=.int (a+b)) A.go (.leaf (.int _)) rfl (fun a ha=>by simp at ha) hi)⟩
   ·rw [if_neg hi] at w;exact w.elim
  ·exact w.elim
 ·exact h.elim
end
end T
namespace TQ
open PySem PySem.Spec L2 T
open PyProof.Rows hiding St
section
variable {X:Cx} {N gl:List Str} {vs cs ls lo gs:List Nat} {W:XW} {a b c e:Expr} {es:List Expr} {pos p:Pos} {fa fb fc:F1} {fl:FL} {ga gb:FB} {g1 g2 g:FS}
theorem rH {x:Str} {n:Nat} {den:List PySem.PyData->bD} (S:Cp X N gl vs cs ls lo gs) (j:Nat) (hj:gl[j]?=some x) (hg:gs.contains j=true) (C:AK X x n den) (ha:Q (PA X (e::es) (tA X.K W fl))) (he:starEach (e::es) X.env=(false,eval e X.env)::starEach es X.env) (hpl:(backTo pos (starEach es X.env)).any (·.1)=false):Q (PE X (.Call (.Name x p) (e::es) [] pos) (tE X.K W (oi n den fl))):=⟨by
 have ha:=ha.p
 obtain ⟨k,f,fd,ps,F,hr,hm,hk,hb⟩:=C;exact bC (Ea F hr (S.g hj hg).1 hm hk hb .nil sF ha (S.g hj hg).2.1 he hpl) fun _ _ _=>sj⟩
theorem lE (S:Cp X N gl vs cs ls lo gs) (i:Nat) {x:Str} {pos':Pos} (hi:N[i]?=some x) (hl:ls.contains i=true) (ha:Q (PE X a (tE X.K W fa))):Q (PS X (.AugAssign (.Name x pos') .Add a pos) (tS X.K W (fN i fa))):=⟨have ha:=ha.p;cL (yO (by rw [S.hN];exact S.nd) (by rw [S.hN];exact hi) (S.loc i x hi hl).1 ha zw (S.loc i x hi hl).2) fun _ _ _=>yE⟩
end
end TQ
namespace T
open PySem PySem.Spec L2
open PyProof.Rows hiding St
def tv (neg:Bool):PySem.PyData->PySem.PyData->Option PySem.PyData
 | .bool a,.bool b=>some (.bool (if neg then a != b else a==b))
 | _,_=>none
def Dr (x:Str):It where
 go:=fun i _=>i<x.cps.size
 yld:=fun i H v H'=>H'=H/\∃c,x.cps[i]?=some c/\v=.str ⟨#[c]⟩
 stop:=fun i _=>x.cps.size<=i
theorem pE {P:Program} {w:World} {K:Fg} {tg:Expr} (it:Addr) (x:Str) (t:Tok):tW P w K tg (Dr x) [it] it (fun i h=>h.IsStrIter it "str_ascii_iterator" x t i) where
 mem:=by simp
 obj:=fun i h st b hb=>by
  have e:b=it:=by simpa using hb
  subst e;obtain ⟨o,ho,hc,hd⟩:=st;exact ⟨o,ho,fun v z=>by rw [hd] at z;cases z⟩
 keep:=fun i h h' st k=>let ⟨o,ho,r⟩:=st;⟨o,k it (by simp) o ho,r⟩
 item:=by
  intro X hP hw hK hc i pins s σ H E I hf st hg;subst hP hw hK;obtain ⟨f0,f1,f2,f3,f4,f5⟩:=hf it (by simp)
  have W:=Walks.strAscii (prog:=X.prog) (w:=X.w) (I.ok.hd hc) it x t
  refine W.item i s _ _ hg st fun v h' tk hv st' kk=>?_
  obtain ⟨c,u,hx,rfl⟩:=hv;have I1:Inv X pins σ H { s with heap:=h',toks:=tk }:=I.turned (fun b o hb e=>kk b o (by simpa using hb) e) f0 f1 f3 f4 f5
  obtain ⟨o,ho,oc,od⟩:=id st'
  exact ⟨_,rfl,tp (s:={ s with heap:=h',toks:=tk }) (n := "str_ascii_iterator") ho oc od (by decide) ⟨.str ⟨#[c]⟩,H,I1,⟨u,rfl⟩,⟨rfl,c,hx,rfl⟩,st',fun b hb=>(hf b hb).1⟩⟩
 done:=by
  intro X hP hw hK hc i pins s σ H E I hf st hg;subst hP hw hK;obtain ⟨f0,f1,f2,f3,f4,f5⟩:=hf it (by simp)
  exact wpAny_pyNext_ascii_end (I.ok.hd hc) st (by have:x.cps.size<=i:=hg;simp;omega) fun h' eb=>⟨rfl,I.turned (t':=s.toks) (fun b o hb e=>eb b o hb e) f0 f1 f3 f4 f5⟩
 self:=fun _ _ _ _ _ st h=>wpAny_pyIter_striter_ascii st h
def sZ (x:Str):TI:=fun σ H R=>R (Dr x) H
theorem u9 {X:Cx} {tg:Expr} {x:Str} {j:Nat} {pos:Pos} (ha:x.cps.all (·<128)=true):PI X tg (.Constant (.str x) j pos) (sZ x):=by
 intro pins s σ H R I h;refine Calls.Constant_str ?_
 refine wpAny_pyIter_ascii ha ?_
 have I1:=I.tok (s.toks+1)
 refine ⟨s.heap.objs.size,[s.heap.objs.size],_,_,H,rfl,I1.kept (t':=s.toks+1) fun b o e=>Heap.get?_push_of_some _ e,pE _ x _,⟨_,Heap.get?_push_size _ rfl,rfl,rfl⟩,fun b hb=>?_,h⟩
 have e:b=s.heap.objs.size:=by simpa using hb
 subst e;exact I1.fpOk (Nat.le_refl _) (I1.hok.fresh (Nat.le_refl _))
def xD (x:Str):List V:=x.cps.toList.map fun c=>.str ⟨#[c]⟩
def Cb (x:Str):List PySem.PyData:=x.cps.toList.map fun c=>.str ⟨#[c]⟩
theorem vx {x:Str}:wm (Dr x) (fun _=>True) (xD x):=by
 refine ⟨fun i H v _ hv=>?_,fun H _=>?_⟩
 ·unfold xD at hv
  rw [getElem?_map,Array.getElem?_toList] at hv
  cases e:x.cps[i]? with
  | none=>rw [e] at hv;cases hv
  | some c=>
   rw [e] at hv
   cases hv;refine ⟨(Array.getElem?_eq_some_iff.mp e).1,fun y H' ⟨h1,c',h2,h3⟩=>⟨h1,?_⟩⟩
   rw [e] at h2
   cases h2;exact h3
 ·show x.cps.size<=(xD x).length
  unfold xD;rw [length_map,Array.length_toList];exact Nat.le_refl _
theorem uK {K:Fg} {H:Hp} {x:Str}:Reps K H (xD x) (Cb x):=by
 refine ⟨by simp [xD,Cb],fun i v d h1 h2=>?_⟩
 unfold xD at h1;unfold Cb at h2;rw [getElem?_map] at h1 h2
 cases e:x.cps.toList[i]? with
 | none=>rw [e] at h1;cases h1
 | some c=>
  rw [e] at h1 h2
  cases h1
  cases h2;exact .str _
def iM (x:Str):FI:=fun Γ=>.ok ⟨Cb x,true⟩ Γ
theorem sh {K:Fg} {W:XW} {σ:St} {H:Hp} {R:It->Hp->Prop} {x:Str} (h:tI K W (iM x) σ H R):sZ x σ H R:=by
 obtain ⟨He,O,Fs,Γ,E,h⟩:=h;exact h (Dr x) H Fs (xD x) (fun _=>True) (Same.refl _) E (fun a ha=>.inl ha) vx trivial (fun _ _=>trivial) (fun _ _ _=>trivial) uK
def oK:V->List V->Hp->VK->Prop:=fun x xs H Q=>∃(i j:Str) (k:Nat) (cg:List Nat),x=.str i/\xs=[.str j]/\Builtin.Str.occurrences i j 0 i.length 1=k::cg/\Q (.int k) H
theorem qe {X:Cx}:Gh X "str.index" oK:=by
 intro pins s σ H x xs v us Q I rx rv h;obtain ⟨i,j,k,cg,rfl,rfl,ho,q⟩:=h;obtain ⟨t,rfl⟩:=rx;obtain ⟨u,rfl,ru⟩:=rv.one;obtain ⟨t',rfl⟩:=ru;exact SC.index ho ⟨.int k,H,I.tok _,⟨_,rfl⟩,q⟩
def gc (x:Str):List PySem.PyData->Option PySem.PyData
 | [.str j]=>match Builtin.Str.occurrences x j 0 x.length 1 with
  | k::_=>some (.int k)
  | []=>none
 | _=>none
theorem vK {K:Fg} {x:Str}:GCall K (fun xs H Q=>oK (.str x) xs H Q) (gc x):=by
 intro vs H Q ds d rs e k;unfold gc at e;split at e
 ·rename_i j
  obtain ⟨v,rfl,r⟩:=rs.one
  cases r;split at e
  ·rename_i k' cg ho
   cases e;exact ⟨x,j,k',cg,rfl,rfl,ho,k _ (.int _)⟩
  ·cases e
 ·cases e
theorem uU {K:Fg} {W:XW} {σ:St} {H:Hp} {Q:VK} {x:Str} {fl:FL} (h:tE K W (aY (gc x) fl) σ H Q):AF K "str" oK (tC (.str x)) (tA K W fl) σ H Q:=
 ⟨rfl,oI vK h⟩
theorem ce_idxS {X:Cx} {W:XW} {x:Str} {j:Nat} {p apos cpos:Pos} {e:Expr} {fe:F1} (ha:PE X e (tE X.K W fe)) (hs:starEach [e] X.env=[(false,eval e X.env)]) (hline:(apos.endLine==cpos.line)=true) :
  PE X (.Call (.Attribute (.Constant (.str x) j p) "index" apos) [e] [] cpos) (tE X.K W (aY (gc x) (ab fe af))):=
 bC (sE (T := "str") (r:=oK) F.plainAttrs_str F.slot_str_index F.type_str_index qe yS (da_cons ha da_nil hs) rfl (by rw [hs];rfl) hline hs rfl) fun _ _ _=>uU
end T
namespace TQ
open PySem PySem.Spec L2 T
open PyProof.Rows hiding St
theorem pv {X:Cx} {W:XW} {tg:Expr} {x:Str} {j:Nat} {pos:Pos} (ha:x.cps.all (·<128)=true):Q (PI X tg (.Constant (.str x) j pos) (tI X.K W (iM x))):=⟨pe (u9 ha) fun _ _ _=>sh⟩
theorem pA {X:Cx} {W:XW} {x:Str} {j:Nat} {p apos cpos:Pos} {e:Expr} {fe:F1} (ha:Q (PE X e (tE X.K W fe))) (hs:starEach [e] X.env=[(false,eval e X.env)]) (hline:(apos.endLine==cpos.line)=true) :
  Q (PE X (.Call (.Attribute (.Constant (.str x) j p) "index" apos) [e] [] cpos) (tE X.K W (aY (gc x) (ab fe af)))):=⟨T.ce_idxS ha.p hs hline⟩
end TQ
namespace T
open PySem PySem.Spec L2
open PyProof.Rows hiding St
def putN:List Nat->List PV->Ev->Option Ev
 | [],[],Γ=>some Γ
 | i::is,p::ps,Γ=>if decide (i<Γ.length)&&!p.s.isView then putN is ps (Γ.set i (some p)) else none
 | _,_,_=>none
def uE:List Nat->List V->St->St
 | i::is,v::vs,σ=>uE is vs (σ.set i (some v))
 | _,_,σ=>σ
def u4:List Sh->List PySem.PyData->List PV
 | s::ss,d::ds=>⟨s,d⟩::u4 ss ds
 | _,_=>[]
def xX (p:PV):Option (List PV):=match p.s,p.d with
 | .tup ss,.tuple ds=>some (u4 ss ds)
 | .leaf,.tuple ds=>some (ds.map fun d=>⟨.leaf,d⟩)
 | _,_=>none
def fM (is:List Nat) (f:F1):FS:=fz f fun p Γ=>match xX p with
 | some ps=>if ps.length=is.length then (match putN is ps Γ with
  | some Γ'=>.nx Γ'
  | none=>.no) else .no
 | none=>.no
def Dz:List Nat->xJ
 | []=>zI
 | i::is=>o7 (gName i) (Dz is)
theorem Ej {H:Hp} {Q:St->Hp->Prop}:∀{is:List Nat} {vs:List V} {σ:St},vs.length=is.length->Q (uE is vs σ) H->Dz is vs σ H Q
 | [],[],_,_,q=>⟨rfl,q⟩
 | i::is,v::vs,σ,hl,q=>⟨v,vs,rfl,Ej (is:=is) (vs:=vs) (by simpa using hl) q⟩
 | [],_::_,_,hl,_=>by simp at hl
 | _::_,[],_,hl,_=>by simp at hl
section
variable {K:Fg} {W:XW} {σ:St} {H:Hp} {D:du} {fa:F1}
theorem DV {He:Hp} {O:List Addr}:∀{is:List Nat} {ps:List PV} {vs:List V} {Gs:List (List Addr)} {Fs:List (List Addr)} {σ:St} {Γ Γ':Ev},vs.length=ps.length->Gs.length=ps.length->EnvOk K He (Gs.flatten++O) Fs H σ Γ->(∀a∈Gs.flatten,He a=none) ->
  (∀(k:Nat) v p G,vs[k]?=some v->ps[k]?=some p->Gs[k]?=some G->Own K (Gs.flatten++O++Fs.flatten) H p.s G v p.d)->putN is ps Γ=some Γ'->∃Fs',EnvOk K He O Fs' H (uE is vs σ) Γ'
 | [],[],[],[],Fs,σ,Γ,Γ',_,_,E,_,_,h=>by
  cases h;exact ⟨Fs,by simpa [uE] using E⟩
 | i::is,p::ps,v::vs,G::Gs,Fs,σ,Γ,Γ',h1,h2,E,fr,o,h=>by
  unfold putN at h;split at h
  ·rename_i hc
   simp only [Bool.and_eq_true,decide_eq_true_eq,Bool.not_eq_true'] at hc
   obtain ⟨hi,n1⟩:=hc;have fl:(G::Gs).flatten++O=G++(Gs.flatten++O):=by simp [append_assoc]
   rw [fl] at E o
   have E1:=EnvOk.put (i:=i) E (o 0 v p G rfl rfl rfl) n1 (fun a ha=>fr a (by simp [ha])) hi
   refine DV (is:=is) (ps:=ps) (vs:=vs) (Gs:=Gs) (by simpa using h1) (by simpa using h2) E1 (fun a ha=>fr a (mem_append_right G ha)) (fun k v' p' G' a1 a2 a3=>?_) h
   refine (o (k+1) v' p' G' (by simpa using a1) (by simpa using a2) (by simpa using a3)).perm fun a ha=>?_
   rcases List.mem_append.mp ha with z | z
   ·exact mem_append_left _ (mem_append_right _ z)
   ·obtain ⟨F,hF⟩:=E.lt hi
    rcases List.mem_append.mp ((m9 (G:=G) hF).mem_iff.mp (mem_append_right _ z)) with y | y
    ·exact mem_append_left _ (mem_append_left _ y)
    ·exact mem_append_right _ y
  ·cases h
 | [],_::_,_,_,_,_,_,_,_,_,_,_,_,h=>by cases h
 | _::_,[],_,_,_,_,_,_,_,_,_,_,_,h=>by cases h
 | [],[],_::_,_,_,_,_,_,h,_,_,_,_,_=>by simp at h
 | [],[],[],_::_,_,_,_,_,_,h,_,_,_,_=>by simp at h
 | _::_,_::_,[],_,_,_,_,_,h,_,_,_,_,_=>by simp at h
 | _::_,_::_,_::_,[],_,_,_,_,_,h,_,_,_,_=>by simp at h
theorem oO:∀{ss:List Sh} {ds:List PySem.PyData},ss.length=ds.length->(u4 ss ds).length=ds.length
 | [],[],_=>rfl
 | _::ss,_::ds,h=>by simp only [u4,length_cons];rw [oO (ss:=ss) (ds:=ds) (by simpa using h)]
 | [],_::_,h=>by simp at h
 | _::_,[],h=>by simp at h
theorem sr:∀{ss:List Sh} {ds:List PySem.PyData} {k:Nat} {p:PV},(u4 ss ds)[k]?=some p->ss[k]?=some p.s/\ds[k]?=some p.d
 | [],_,k,p,h=>by simp [u4] at h
 | _::_,[],k,p,h=>by simp [u4] at h
 | s::ss,d::ds,0,p,h=>by
  simp only [u4,List.getElem?_cons_zero,Option.some.injEq] at h
  subst h;exact ⟨rfl,rfl⟩
 | s::ss,d::ds,k+1,p,h=>by
  simp only [u4,List.getElem?_cons_succ] at h ⊢
  exact sr h
theorem DM {n:Nat}:(List.replicate n ([]:List Addr)).flatten=[]:=by
 induction n with
 | zero=>rfl
 | succ n ih=>rw [List.replicate_succ,flatten_cons,ih];rfl
theorem uL {is:List Nat} (h:tS K W (fM is fa) D σ H):gO (tE K W fa) (zH K is.length (Dz is)) D σ H:=by
 refine fJ h fun He O Fs Γ1 p v H1 G Fs1 _ fr A w=>?_
 obtain ⟨s,d⟩:=p;have o:=A.own
 have E:=A.env
 dsimp only at w o
 cases hu:xX ⟨s,d⟩ with
 | none=>rw [hu] at w;exact w.elim
 | some ps=>
  rw [hu] at w;dsimp only at w;by_cases hl:ps.length=is.length
  ·rw [if_pos hl] at w
   cases hp:putN is ps Γ1 with
   | none=>rw [hp] at w;exact w.elim
   | some Γ'=>
    rw [hp] at w
    cases o with
    | view r=>cases hu
    | lst=>cases hu
    | leaf r=>
     cases d with
     | tuple ds=>
      cases hu
      cases r with
      | @tup a vs _ hq hlen hr=>
       obtain ⟨Fs',E'⟩:=DV (is:=is) (vs:=vs) (Gs:=List.replicate ds.length []) (Fs:=Fs1) (by rw [hlen,length_map]) (by rw [List.length_replicate,length_map]) (by rw [DM];exact E) (by rw [DM];intro a ha;simp at ha) (fun k v' p' G' a1 a2 a3=>by
        rw [DM];rw [getElem?_map] at a2
        cases ed:ds[k]? with
        | none=>rw [ed] at a2;cases a2
        | some d'=>
         rw [ed] at a2
         cases a2;have:G'=[]:=List.eq_of_mem_replicate (mem_of_getElem? a3)
         subst this;exact .leaf (hr k v' d' a1 ed)) hp
       exact ⟨a,vs,rfl,pb hid_le hq,by rw [hlen];simpa using hl,Ej (by rw [hlen];simpa using hl) (w _ _ _ E')⟩
     | _=>cases hu
    | @tup ss a vs ds Fs0 hv hpa hn hlen hf hs nd q=>
     cases hu;have pl:=oO hs
     obtain ⟨Fs',E'⟩:=DV (is:=is) (vs:=vs) (Gs:=Fs0) (Fs:=Fs1) (by rw [hlen,pl]) (by rw [hf,pl]) E fr (fun k v' p' G' a1 a2 a3=>by
      obtain ⟨z1,z2⟩:=sr a2;exact q k v' p'.d G' p'.s a1 z2 a3 z1) hp
     have hn2:vs.length=is.length:=by rw [hlen,<-pl];exact hl
     exact ⟨a,vs,rfl,.of hpa,hn2,Ej hn2 (w _ _ _ E')⟩
  ·rw [if_neg hl] at w
   exact w.elim
end
section
variable {X:Cx} {N gl:List Str} {vs cs ls lo gs:List Nat} {W:XW} {a:Expr} {pos:Pos} {fa:F1}
theorem cs_unp4 (S:Cp X N gl vs cs ls lo gs) (i j k l:Nat) {x y z u:Str} {px py pz pu pt:Pos} {kt:Nat} (hi:N[i]?=some x) (hj:N[j]?=some y) (hk:N[k]?=some z) (hl:N[l]?=some u) (li:ls.contains i=true) (lj:ls.contains j=true) (lk:ls.contains k=true) (ll:ls.contains l=true) (ha:PE X a (tE X.K W fa))
  (hs:swapsWithSole [.Tuple [.Name x px,.Name y py,.Name z pz,.Name u pu] kt pt] a pos.line X.env=pure false) (hw:swappedStores [.Tuple [.Name x px,.Name y py,.Name z pz,.Name u pu] kt pt] a X.env=pure none) :
  PS X (.Assign [.Tuple [.Name x px,.Name y py,.Name z pz,.Name u pu] kt pt] a pos) (tS X.K W (fM [i,j,k,l] fa)):=by
 have hN:X.N.Nodup:=by rw [S.hN];exact S.nd
 exact cL (DG ha (DF S.calm (wI (rl hN (by rw [S.hN];exact hi) (S.loc i x hi li).1 (S.loc i x hi li).2) (wI (rl hN (by rw [S.hN];exact hj) (S.loc j y hj lj).1 (S.loc j y hj lj).2) (wI (rl hN (by rw [S.hN];exact hk) (S.loc k z hk lk).1 (S.loc k z hk lk).2) (wI (rl hN (by rw [S.hN];exact hl) (S.loc l u hl ll).1 (S.loc l u hl ll).2) DL))))) hs hw) fun _ _ _=>uL (is:=[i,j,k,l])
end
end T
namespace TQ
open PySem PySem.Spec L2 T
open PyProof.Rows hiding St
variable {X:Cx} {N gl:List Str} {vs cs ls lo gs:List Nat} {W:XW} {a:Expr} {pos:Pos} {fa:F1}
theorem jL (S:Cp X N gl vs cs ls lo gs) (i j k l:Nat) {x y z u:Str} {px py pz pu pt:Pos} {kt:Nat} (hi:N[i]?=some x) (hj:N[j]?=some y) (hk:N[k]?=some z) (hl:N[l]?=some u) (li:ls.contains i=true) (lj:ls.contains j=true) (lk:ls.contains k=true) (ll:ls.contains l=true) (ha:Q (PE X a (tE X.K W fa)))
  (hs:swapsWithSole [.Tuple [.Name x px,.Name y py,.Name z pz,.Name u pu] kt pt] a pos.line X.env=pure false) (hw:swappedStores [.Tuple [.Name x px,.Name y py,.Name z pz,.Name u pu] kt pt] a X.env=pure none) :
  Q (PS X (.Assign [.Tuple [.Name x px,.Name y py,.Name z pz,.Name u pu] kt pt] a pos) (tS X.K W (fM [i,j,k,l] fa))):=⟨T.cs_unp4 S i j k l hi hj hk hl li lj lk ll ha.p hs hw⟩
end TQ
namespace T
open PySem PySem.Spec L2
open PyProof.Rows hiding St
def cutD (xs:List PySem.PyData) (lo hi:Option Int):List PySem.PyData:=(xs.drop (HT.sIx xs.length 0 lo)).take (HT.sIx xs.length xs.length hi-HT.sIx xs.length 0 lo)
def B1 (g:Int->Option Int×Option Int) (fa fb:F1):F1:=bj fa fun p=>bj fb fun q=>fun Γ=>match p.d,q.d with
 | .list xs,.int k=>if fx p xs then .ok ⟨.lst .leaf,.list (cutD xs (g k).1 (g k).2)⟩ Γ else .no
 | _,_=>.no
end T
namespace TQ
open PySem PySem.Spec L2 T
open PyProof.Rows hiding St
variable {X:Cx} {W:XW} {a b:Expr} {fa fb:F1} {p2 pos:Pos}
variable {X:Cx} {N gl:List Str} {vs cs ls lo gs:List Nat} {W:XW} {e a:Expr} {fe fa:F1} {p pos:Pos}
variable {X:Cx} {N gl:List Str} {vs cs ls lo gs:List Nat} {W:XW} {a:Expr} {pos p:Pos} {fa:F1}
end TQ
namespace T
open PySem PySem.Spec L2
open PyProof.Rows hiding St
section
variable {X:Cx} {N gl:List Str} {vs cs ls lo gs:List Nat} {W:XW} {a:Expr} {pos p:Pos} {fa:F1}
theorem cs_setCompE {scope:Scope} {x y z:Str} {px py pt pos' spos cpos:Pos} {kt:Nat} {elt:Expr} {ifs:List Expr} {fe:F1} {fc:FB} {vs' cs' lo' gs':List Nat} (S:Cp X N gl vs cs ls lo gs) (own:Bool) (l:Nat) (s:Sh) (i j:Nat) (hz:N[l]?=some z) (hzl:lo.contains l=true) (hij:(i != j)=true) (hx:N[i]?=some x) (hy:N[j]?=some y) (k:Nat) (hk:gl[k]?=some ("enumerate":Str)) (hg:gs.contains k=true) (hm:X.mg "enumerate"=none)
  (hsl:(pos'.line==pos.line)=true) (hsn:(scope.names.any fun (n,k)=>n==z&&(k==NameKind.local||k==NameKind.cell))=false)
  (h1:AM N [i,j] cs scope=true) (h2:qD N gl vs' cs' [i,j] lo' gs' scope=true) (ha:PE X a (tE X.K W fa)) (hs1:starEach [a] X.env=[(false,eval a X.env)])
  (hc:pf X N gl vs' cs' [i,j] lo' gs' fun Y=>PF Y ifs (tT Y.K W0 fc)) (he:pf X N gl vs' cs' [i,j] lo' gs' fun Y=>PE Y elt (tE Y.K W0 fe)) (hs:∀x,foldedSetIterable (.Call (.Name "enumerate" p) [a] [] cpos) X.env x=pure x) :
  PS X (.Assign [.Name z pos'] (.ListComp elt [⟨.Tuple [.Name x px,.Name y py] kt pt,.Call (.Name "enumerate" p) [a] [] cpos,ifs,0⟩] scope pos) spos) (tS X.K W (ax own l (iZ s i j fa fc fe))):=by
 have B:=fun cells C s₀ H₀ ex=>S.blk h2 cells C s₀ H₀ ex
 have L:=fun cells C s₀ H₀ ex=>(B cells C s₀ H₀ ex).loc i x hx (by simp)
 have L2':=fun cells C s₀ H₀ ex=>(B cells C s₀ H₀ ex).loc j y hy (by simp)
 have hN:X.N.Nodup:=by rw [S.hN];exact S.nd
 exact cL (iA hN (by rw [S.hN];exact hz) (S.loo l z hz hzl) (kc S h1) S.calm (oR (S.g hk hg).1 hm (da_cons ha da_nil hs1) hs1)
  (fun cells C s₀ H₀ ex=>DF (X:=blk X scope cells C s₀ H₀ ex) S.calm (wI (rl (X:=blk X scope cells C s₀ H₀ ex) (i:=i) hN (by show X.N[i]?=_;rw [S.hN];exact hx) (L cells C s₀ H₀ ex).1 (L cells C s₀ H₀ ex).2) (wI (rl (X:=blk X scope cells C s₀ H₀ ex) (i:=j) hN (by show X.N[j]?=_;rw [S.hN];exact hy) (L2' cells C s₀ H₀ ex).1 (L2' cells C s₀ H₀ ex).2) DL)))
  (fun cells C s₀ H₀ ex=>hc _ (B cells C s₀ H₀ ex) ⟨rfl,rfl,rfl,rfl,rfl,rfl⟩) (fun cells C s₀ H₀ ex=>he _ (B cells C s₀ H₀ ex) ⟨rfl,rfl,rfl,rfl,rfl,rfl⟩) (il S.kind (S.loo l z hz hzl) hsl hsn) hs) fun D σ H h=>by
   have h2:gO (tE X.K W (iZ s i j fa fc fe)) (gName l) D σ H:=CB h
   exact lZ (by simpa using hij) h2
end
end T
namespace TQ
open PySem PySem.Spec L2 T
open PyProof.Rows hiding St
variable {X:Cx} {N gl:List Str} {vs cs ls lo gs:List Nat} {W:XW} {a:Expr} {pos p:Pos} {fa:F1}
theorem EB {scope:Scope} {x y z:Str} {px py pt pos' spos cpos:Pos} {kt:Nat} {elt:Expr} {ifs:List Expr} {fe:F1} {fc:FB} {vs' cs' lo' gs':List Nat} (S:Cp X N gl vs cs ls lo gs) (own:Bool) (l:Nat) (s:Sh) (i j:Nat) (hz:N[l]?=some z) (hzl:lo.contains l=true) (hij:(i != j)=true) (hx:N[i]?=some x) (hy:N[j]?=some y) (k:Nat) (hk:gl[k]?=some ("enumerate":Str)) (hg:gs.contains k=true) (hm:X.mg "enumerate"=none)
  (hsl:(pos'.line==pos.line)=true) (hsn:(scope.names.any fun (n,k)=>n==z&&(k==NameKind.local||k==NameKind.cell))=false)
  (h1:AM N [i,j] cs scope=true) (h2:qD N gl vs' cs' [i,j] lo' gs' scope=true) (ha:Q (PE X a (tE X.K W fa))) (hs1:starEach [a] X.env=[(false,eval a X.env)])
  (hc:pf X N gl vs' cs' [i,j] lo' gs' fun Y=>Q (PF Y ifs (tT Y.K W0 fc))) (he:pf X N gl vs' cs' [i,j] lo' gs' fun Y=>Q (PE Y elt (tE Y.K W0 fe))) (hs:∀x,foldedSetIterable (.Call (.Name "enumerate" p) [a] [] cpos) X.env x=pure x) :
  Q (PS X (.Assign [.Name z pos'] (.ListComp elt [⟨.Tuple [.Name x px,.Name y py] kt pt,.Call (.Name "enumerate" p) [a] [] cpos,ifs,0⟩] scope pos) spos) (tS X.K W (ax own l (iZ s i j fa fc fe)))):=⟨T.cs_setCompE S own l s i j hz hzl hij hx hy k hk hg hm hsl hsn h1 h2 ha.p hs1 (fun Y S' F=>(hc Y S' F).p) (fun Y S' F=>(he Y S' F).p) hs⟩
end TQ
namespace T
open PySem PySem.Spec L2
open PyProof.Rows hiding St
theorem As:(1000:Nat)<=sizeLine:=by decide
theorem Eu {i:Nat} {fc:FB} {fe:F1} {s:Sh} {c:D->Bool} {f:D->PV} {Γ:Ev} (hΓ:Γ.set i none=Γ):∀(r acc:List D),(∀d∈r,fc (Γ.set i (some ⟨.leaf,d⟩))=.ok (c d) (Γ.set i (some ⟨.leaf,d⟩))) ->
  (∀d∈r,c d=true->fe (Γ.set i (some ⟨.leaf,d⟩))=.ok (f d) (Γ.set i (some ⟨.leaf,d⟩))/\coer s (f d)=true)->acc.length+r.length<=sizeLine->ph i fc fe s r Γ acc=.ok (acc++((r.filter c).map fun d=>(f d).d)) Γ
 | [],acc,_,_,_=>by simp [ph]
 | d::r,acc,hc,he,hl=>by
  have h1:=hc d mem_cons_self
  have hl1:acc.length<sizeLine:=by simp at hl;omega
  have back:(Γ.set i (some ⟨.leaf,d⟩)).set i none=Γ:=by rw [set_set];exact hΓ
  rw [ph,h1]
  cases hcd:c d with
  | false=>
   dsimp only;rw [if_pos hl1,back,Eu hΓ r acc (fun d hd=>hc d (mem_cons_of_mem _ hd)) (fun d hd=>he d (mem_cons_of_mem _ hd)) (by simp at hl;omega)]
   rw [List.filter_cons_of_neg (by rw [hcd];exact Bool.false_ne_true)]
  | true=>
   obtain ⟨h2,h3⟩:=he d mem_cons_self hcd;dsimp only;rw [h2];dsimp only;rw [h3,decide_eq_true hl1,Bool.and_self,if_pos rfl,back,Eu hΓ r (acc++[(f d).d]) (fun d hd=>hc d (mem_cons_of_mem _ hd)) (fun d hd=>he d (mem_cons_of_mem _ hd)) (by simp at hl ⊢;omega)]
   rw [List.filter_cons_of_pos hcd,map_cons,append_assoc];rfl
theorem iN {s:Sh} {i:Nat} {fi:FI} {fc:FB} {fe:F1} {c:D->Bool} {f:D->PV} {ds:List D} {st:Bool} {Γ:Ev} (hi:fi Γ=.ok ⟨ds,st⟩ Γ) (hl:i<Γ.length) (hs:s.isView=false) (hn:ds.length<=1000)
  (hc:∀d∈ds,fc (Γ.set i (some ⟨.leaf,d⟩))=.ok (c d) (Γ.set i (some ⟨.leaf,d⟩))) (he:∀d∈ds,c d=true->fe (Γ.set i (some ⟨.leaf,d⟩))=.ok (f d) (Γ.set i (some ⟨.leaf,d⟩))/\coer s (f d)=true) :
  av s i fi fc fe Γ=.ok ⟨.lst s,.list ((ds.filter c).map fun d=>(f d).d)⟩ Γ:=by
 have hb:=As
 unfold av;rw [hi];unfold Out.bind;dsimp only;rw [Eu (c:=c) (f:=f) (by rw [set_set]) ds [] (fun d hd=>by rw [set_set];exact hc d hd) (fun d hd=>by rw [set_set];exact he d hd) (by simp;omega)]
 dsimp only;rw [hs,decide_eq_true hl];simp only [Bool.not_false,Bool.and_self,if_true,nil_append,set_set]
 have:Γ.set i (Γ.getD i none)=Γ:=by
  apply wK
  rw [getD_eq_getElem?_getD,getElem?_eq_getElem hl];rfl
 rw [this]
theorem AA {s:Sh} {i:Nat} {fi:FI} {fe:F1} {f:D->PV} {ds:List D} {st:Bool} {Γ:Ev} (hi:fi Γ=.ok ⟨ds,st⟩ Γ) (hl:i<Γ.length) (hs:s.isView=false) (hn:ds.length<=1000)
  (he:∀d∈ds,fe (Γ.set i (some ⟨.leaf,d⟩))=.ok (f d) (Γ.set i (some ⟨.leaf,d⟩))/\coer s (f d)=true) :
  av s i fi aE fe Γ=.ok ⟨.lst s,.list (ds.map fun d=>(f d).d)⟩ Γ:=by
 rw [iN (fc:=aE) (c:=fun _=>true) (f:=f) hi hl hs hn (fun d hd=>rfl) fun d hd _=>he d hd,List.filter_eq_self.mpr fun _ _=>rfl]
theorem DR {P:Nat->Ev->Prop} {i:Nat} {body:FS}:∀(ds:List D) (n:Nat) (Γ:Ev),P n Γ->(∀k d Γ,d∈ds->n<=k->k<n+ds.length->P k Γ->i<Γ.length/\∃Γ',body (Γ.set i (some ⟨.leaf,d⟩))=.nx Γ'/\P (k+1) Γ')->∃Γ',cv i body ds Γ=.nx Γ'/\P (n+ds.length) Γ'
 | [],n,Γ,h,_=>⟨Γ,rfl,h⟩
 | d::r,n,Γ,h,st=>by
  obtain ⟨hi,Γ1,e1,h1⟩:=st n d Γ mem_cons_self (Nat.le_refl _) (by simp) h
  obtain ⟨Γ2,e2,h2⟩:=DR r (n+1) Γ1 h1 fun k d Γ hd a b c=>st k d Γ (mem_cons_of_mem _ hd) (by omega) (by simp;omega) c
  refine ⟨Γ2,?_,?_⟩
  ·rw [cv,if_pos hi,e1]
   exact e2
  ·rw [length_cons,show n+(r.length+1)=n+1+r.length by omega]
   exact h2
theorem DS {any:Bool} {α:Type} {xs:List α} {f:α->Bool}:qZ (xs.map fun x=>.bool (f x))=some (xs.map f):=by
 induction xs with
 | nil=>rfl
 | cons x r ih=>rw [map_cons,qZ,ih];rfl
theorem An {α:Type} {xs:List α} {f:α->Bool}:cE false [.list (xs.map fun x=>.bool (f x))]=some (.bool (xs.all f)):=by
 show Option.map _ (qZ _)=_
 rw [DS (any:=false)];simp [all_map]
section
variable {Γ Γ1 Γ2:Ev} {fa fb fc:F1} {fl:FL} {p q:PV} {ps:List PV} {d e:D} {s s' s2:Sh} {i j n:Nat}
theorem aB (h:Γ[i]?=some (some ⟨.leaf,d⟩)):ae i Γ=.ok ⟨.leaf,d⟩ Γ:=by unfold ae;rw [h]
theorem ou (h:Γ[i]?=some (some ⟨.lst s,d⟩)):ae i Γ=.ok ⟨.view,d⟩ Γ:=by unfold ae;rw [h]
theorem qQ (h:Γ[i]?=some (some p)):bB i Γ=.ok p (Γ.set i none):=by unfold bB;rw [h]
theorem aV:eK d Γ=.ok ⟨.leaf,d⟩ Γ:=rfl
theorem aI {g:D->D->Option D} (ha:fa Γ=.ok p Γ1) (hb:fb Γ1=.ok q Γ2) (hg:g p.d q.d=some d):aw g fa fb Γ=.ok ⟨.leaf,d⟩ Γ2:=by
 unfold aw bj;rw [ha];simp only [Out.bind];rw [hb];simp only [hg]
theorem aH (ha:fa Γ=.ok p Γ1) (hl:fl Γ1=.ok ps Γ2):ab fa fl Γ=.ok (p::ps) Γ2:=by
 unfold ab;rw [ha];simp only [Out.bind];rw [hl]
theorem ay:af Γ=.ok [] Γ:=rfl
theorem bT {g:List D->Option D} (hl:fl Γ=.ok ps Γ1) (hg:g (ps.map (·.d))=some d):aY g fl Γ=.ok ⟨.leaf,d⟩ Γ1:=by
 unfold aY;rw [hl];simp only [Out.bind];rw [hg]
theorem cC {den:List D->bD} (hl:fl Γ=.ok ps Γ1) (hd:den (ps.map (·.d))=.ok p) (hn:ps.length=n) (hc:ps.all (coer .leaf)=true):ai n den fl Γ=.ok p Γ1:=by
 unfold ai;rw [hl];simp only [Out.bind,hn,hd,hc,if_true]
theorem qP {ds:List D} {k:Int} (ha:fa Γ=.ok ⟨s,.list ds⟩ Γ1) (hb:fb Γ1=.ok ⟨s',.int k⟩ Γ2) (hi:d6 ds.length k=some j) (hd:ds[j]?=some d) (hs:m6 s j d=some s2):ah fa fb Γ=.ok ⟨s2,d⟩ Γ2:=by
 unfold ah bj;rw [ha];simp only [Out.bind];rw [hb];simp only [hi,hd,hs]
theorem fG {ds:List D} {k:Int} (ha:fa Γ=.ok ⟨s,.tuple ds⟩ Γ1) (hb:fb Γ1=.ok ⟨s',.int k⟩ Γ2) (hi:d6 ds.length k=some j) (hd:ds[j]?=some d) (hs:m6 s j d=some s2):ah fa fb Γ=.ok ⟨s2,d⟩ Γ2:=by
 unfold ah bj;rw [ha];simp only [Out.bind];rw [hb];simp only [hi,hd,hs]
theorem pj (hl:fl Γ=.ok ps Γ1) (hs:s.isView=false) (hc:ps.all (coer s)=true) (hn:decide (ps.length<=1000)=true):aP s fl Γ=.ok ⟨.lst s,.list (ps.map (·.d))⟩ Γ1:=by
 have h2:ps.length<=sizeLine:=Nat.le_trans (of_decide_eq_true hn) As
 unfold aP;rw [hl];simp only [Out.bind,hs,hc,decide_eq_true h2,Bool.not_false,Bool.and_self,if_true]
theorem dv (hl:fl Γ=.ok ps Γ1) (hc:ps.all tok=true) (hn:decide (ps.length<=1000)=true):bF fl Γ=.ok ⟨.tup (ps.map wX),.tuple (ps.map (·.d))⟩ Γ1:=by
 have h2:ps.length<=sizeLine:=Nat.le_trans (of_decide_eq_true hn) As
 unfold bF;rw [hl];simp only [Out.bind,hc,decide_eq_true h2,Bool.and_self,if_true]
theorem AW {ds:List D} (ha:fa Γ=.ok ⟨s,.list ds⟩ Γ1) (ho:fx ⟨s,.list ds⟩ ds=true):ia fa Γ=.ok ⟨.lst .leaf,.list ds⟩ Γ1:=by
 unfold ia bj;rw [ha];simp only [Out.bind,ho,if_true]
theorem v_and {a b:Bool} (ha:fa Γ=.ok ⟨s,.bool a⟩ Γ) (hb:fb Γ=.ok ⟨.leaf,.bool b⟩ Γ):de fa fb Γ=.ok ⟨.leaf,.bool (a&&b)⟩ Γ:=by
 unfold de bj;rw [ha];simp only [Out.bind]
 cases a with
 | false=>rfl
 | true=>exact hb
theorem uw {g g':D->D->Option D} {b b':Bool} (ha:fa Γ=.ok p Γ) (hb:fb Γ=.ok q Γ) (hg:g p.d q.d=some (.bool b)) (hs:bz q.d=true) {z:PV} (hc:fc Γ=.ok z Γ) (hg':g' q.d z.d=some (.bool b')):xN g g' fa fb fc Γ=.ok ⟨.leaf,.bool (b&&b')⟩ Γ:=by
 unfold xN bj;rw [ha];simp only [Out.bind];rw [hb];simp only [hg]
 cases b with
 | false=>rfl
 | true=>simp only [hs,if_true,hc,hg',Bool.true_and]
theorem b6 (ha:fa Γ=.ok ⟨s,.bool b⟩ Γ1):aC aj fa Γ=.ok b Γ1:=by unfold aC;rw [ha];rfl
theorem dP (ha:fa Γ=.ok ⟨s,.bool b⟩ Γ1):aC aZ fa Γ=.ok b Γ1:=by unfold aC;rw [ha];rfl
theorem eL {ga:FB} {b:Bool} (h:ga Γ=.ok b Γ1):bu ga Γ=.ok (!b) Γ1:=by unfold bu;rw [h];rfl
theorem kj {ga gb:FB} {a b:Bool} (ha:ga Γ=.ok a Γ) (hb:gb Γ=.ok b Γ):bQ ga gb Γ=.ok (a&&b) Γ:=by
 unfold bQ;rw [ha];simp only [Out.bind]
 cases a with
 | false=>rfl
 | true=>exact hb
theorem dQ {ga gb:FB} {a b:Bool} (ha:ga Γ=.ok a Γ) (hb:gb Γ=.ok b Γ):b7 ga gb Γ=.ok (a||b) Γ:=by
 unfold b7;rw [ha];simp only [Out.bind]
 cases a with
 | false=>exact hb
 | true=>rfl
theorem cB {ds:List D} (ha:fa Γ=.ok ⟨s,.list ds⟩ Γ1) (ho:fx ⟨s,.list ds⟩ ds=true):aK fa Γ=.ok ⟨ds,!s.isView⟩ Γ1:=by
 unfold aK;rw [ha];simp only [Out.bind,ho,if_true]
theorem uu {k:Int} (hl:fl Γ=.ok ps Γ1) (hp:ps.map (·.d)=[.int k]) (h0:-1000<=k) (h1:k<=100000):cx fl Γ=.ok ⟨cI 0 k.toNat,true⟩ Γ1:=by
 have h3:dt k=true:=by unfold dt;simp only [Bool.and_eq_true,decide_eq_true_eq];omega
 unfold cx;rw [hl];simp only [Out.bind,hp,jf,h3,if_true]
theorem EH {k m:Int} (hl:fl Γ=.ok ps Γ1) (hp:ps.map (·.d)=[.int k,.int m]) (h0:-1000<=k) (h1:k<=100000) (h2:-1000<=m) (h4:m<=100000):vB fl Γ=.ok ⟨cI k (m-k).toNat,true⟩ Γ1:=by
 have h3:dt k=true:=by unfold dt;simp only [Bool.and_eq_true,decide_eq_true_eq];omega
 have h5:dt m=true:=by unfold dt;simp only [Bool.and_eq_true,decide_eq_true_eq];omega
 unfold vB;rw [hl];simp only [Out.bind,hp,pK,h3,h5,Bool.and_self,if_true]
theorem aA {g1 g2:FS} {o:OutS} (h1:g1 Γ=.nx Γ1) (h2:g2 Γ1=o):ao g1 g2 Γ=o:=by unfold ao;rw [h1];exact h2
theorem d8 {g1 g2:FS} (h1:g1 Γ=.rt p):ao g1 g2 Γ=.rt p:=by unfold ao;rw [h1]
theorem aN {c:FB} {a b:FS} {t:Bool} {o:OutS} (hc:c Γ=.ok t Γ1) (ht:t=true->a Γ1=o) (hf:t=false->b Γ1=o):bf c a b Γ=o:=by
 unfold bf;rw [hc]
 cases t with
 | true=>exact ht rfl
 | false=>exact hf rfl
theorem aS (h:fa Γ=.ok p Γ1) (hs:p.s.isView=false):aG fa Γ=.rt p:=by
 unfold aG fz;rw [h];simp only [hs];rfl
theorem cV (h:fa Γ=.ok p Γ1) (hc:coer .leaf p=true) (hi:i<Γ1.length):ax false i fa Γ=.nx (Γ1.set i (some ⟨.leaf,p.d⟩)):=by
 unfold ax fz;rw [h];simp only [hi,if_true,hc,Bool.false_and];rfl
theorem t6 (h:fa Γ=.ok p Γ1) (hs:p.s.isView=false) (hi:i<Γ1.length):ax true i fa Γ=.nx (Γ1.set i (some p)):=by
 unfold ax fz;rw [h];simp only [hi,if_true,hs,Bool.true_and,Bool.not_false]
theorem Es {ds:List D} (ho:Γ[i]?=some (some ⟨.lst s,.list ds⟩)) (h:fa Γ=.ok p Γ) (hc:coer s p=true) (hn:ds.length<=900):gr i fa Γ=.nx (Γ.set i (some ⟨.lst s,.list (ds++[p.d])⟩)):=by
 have h2:ds.length<sizeLine:=Nat.lt_of_lt_of_le (by omega:ds.length<1000) As
 unfold gr Ak;rw [ho];simp only [if_true];unfold fz;rw [h];simp only;unfold wd;rw [ho];simp only [hc,decide_eq_true h2,Bool.and_self,if_true]
theorem rB {ds:List D} {k:Int} (ho:Γ[i]?=some (some ⟨.lst .leaf,.list ds⟩)) (h:fa Γ=.ok p Γ) (hk:fb Γ=.ok ⟨s,.int k⟩ Γ) (hi:d6 ds.length k=some j) (hc:coer .leaf p=true):dk i fa fb Γ=.nx (Γ.set i (some ⟨.lst .leaf,.list (ds.set j p.d)⟩)):=by
 unfold dk wO;rw [ho];simp only [if_true];unfold fz;rw [h];simp only;rw [hk];simp only;unfold yl;rw [ho];simp only [hi,hc,if_true]
theorem wV {g:FS} {o:OutS} (h:Γ[i]?=some (some p)) (hg:g (Γ.set i (some ⟨.leaf,p.d⟩))=o):je i g Γ=o:=by unfold je;rw [h];exact hg
theorem eZ {fi:FI} {body:FS} {ds:List D} {o:OutS} (h:fi Γ=.ok ⟨ds,true⟩ Γ1) (hg:cv i body ds Γ1=o):cM i fi body Γ=o:=by unfold cM;rw [h];exact hg
end
end T
namespace KC
open PySem PySem.Spec L2 T
open PyProof.Rows hiding St
noncomputable def cP:PySem.PyData:=.tuple [.str "a",.str "b",.str "c",.str "d",.str "e",.str "f"]
noncomputable def b9:PySem.PyData:=.tuple [.int 0,.int 1]
noncomputable def dU:PySem.PyData:=.int 24
noncomputable def mD:PySem.PyData:=.tuple [.str "some until",.str "all until"]
noncomputable def mE:PySem.PyData:=.tuple [.str "some always",.str "all always"]
noncomputable def iI:PySem.PyData:=.tuple [.str "some next",.str "some until",.str "all always"]
noncomputable def uy:List (Str×Int):=[("yes",0),("not",1),("some next",1),("all next",1),("some always",1),("all always",1),("and",2),("or",2),("some until",2),("all until",2)]
noncomputable def mP:FS:=(aG (aY (cE false) (ab (av .leaf 1 (vB (ab (eK (.int 1)) (ab (aY aM (ab (ae 0) af)) af))) aE (aw dI (ah (ae 0) (aw gSub (ae 1) (eK (.int 1)))) (ah (ae 0) (ae 1)))) af)))
noncomputable def dz:List PySem.PyData->bD:=aL 2 mP
noncomputable def mT:FS:=(aG (de (aY (cE false) (ab (av .leaf 1 (aK (ae 0)) aE (aw (bV false) (ae 1) (eK cP))) af)) (ai 1 dz (ab (ae 0) af))))
noncomputable def dB:List PySem.PyData->bD:=aL 2 mT
noncomputable def mS:FS:=(aG (de (aY (cE false) (ab (av .leaf 2 (aK (ae 0)) aE (xN AJ dI (eK (.int 0)) (ae 2) (ae 1))) af)) (ai 1 dz (ab (ae 0) af))))
noncomputable def cT:List PySem.PyData->bD:=aL 3 mS
noncomputable def mR:FS:=(aG (de (aw eF (aY aM (ab (ae 0) af)) (eK (.int 0))) (ai 2 cT (ab (ae 0) (ab (ae 1) af)))))
noncomputable def dA:List PySem.PyData->bD:=aL 2 mR
noncomputable def nY:FS:=(ao (ax false 3 (aY aM (ab (ae 0) af)))
  (ao (bf (b7 (aC aj (aw dI (ae 3) (eK (.int 1)))) (b7 (aC aj (aw eF (ae 3) (eK dU))) (b7 (aC aj (aw bK (aY aM (ab (ae 1) af)) (ae 3))) (aC aj (aw bK (aY aM (ab (ae 2) af)) (ae 3)))))) (aG (eK (.bool false))) az)
  (ao (bf (bu (aC aZ (aY (cE false) (ab (av .leaf 4 (aK (ae 0)) aE (aw (bV false) (ae 4) (eK b9))) af)))) (aG (eK (.bool false))) az)
  (aG (de (aY (cE false) (ab (av .leaf 5 (aK (ae 1)) aE (ai 1 dB (ab (ae 5) af))) af)) (aY (cE false) (ab (av .leaf 5 (aK (ae 2)) aE (ai 2 dA (ab (ae 5) (ab (ae 3) af)))) af)))))))
noncomputable def dS:List PySem.PyData->bD:=aL 6 nY
noncomputable def jz:FS:=(bf (bu (aC aZ (ai 3 dS (ab (ah (ae 0) (eK (.int 0))) (ab (ah (ae 0) (eK (.int 1))) (ab (ah (ae 0) (eK (.int 2))) af)))))) C4 az)
noncomputable def cR:List PySem.PyData->bD:=aL 1 jz
noncomputable def jw:FS:=(aG (av .leaf 2 (cx (ab (aY aM (ab (ah (ae 0) (eK (.int 0))) af)) af)) (aC aj (aw (bV true) (ae 2) (ae 1))) (ae 2)))
noncomputable def dF:List PySem.PyData->bD:=aL 3 jw
noncomputable def mQ:FS:=(aG (fm (aC aZ (ae 0)) (aY (cE true) (ab (ae 1) af)) (aY (cE false) (ab (ae 1) af))))
noncomputable def dm:List PySem.PyData->bD:=aL 2 mQ
noncomputable def fu:FS:=(ao (ax true 4 (aP .leaf af))
  (ao (cM 5 (aK (ae 2))
  (bf (bQ (aC aj (aw (aO false) (ah (ae 3) (ae 5)) (eK .none))) (aC aZ (ai 2 dm (ab (ah (ae 1) (ae 5)) (ab (av .leaf 6 (aK (ah (ah (ae 0) (eK (.int 2))) (ae 5))) aE (aw (aO true) (ah (ae 3) (ae 6)) (eK .none))) af))))) (gr 4 (ae 5)) az))
  (aG (bB 4))))
noncomputable def cu:List PySem.PyData->bD:=aL 7 fu
noncomputable def iQ:FS:=(ao (ax true 4 (av .leaf 8 (aK (ah (ae 0) (eK (.int 0)))) aE (eK .none)))
  (ao (ax false 5 (eK (.int 0)))
  (ao (ax false 6 (ae 3))
  (ao (wF 1000 (aC aZ (ae 6))
  (ao (cM 7 (aK (ae 6))
  (dk 4 (ae 5) (ae 7)))
  (ao (fN 5 (eK (.int 1)))
  (ax false 6 (oi 4 cu (ab (ae 0) (ab (ae 1) (ab (ae 2) (ab (ae 4) af)))))))))
  (aG (bB 4))))))
noncomputable def bW:List PySem.PyData->bD:=aL 9 iQ
noncomputable def iT:FS:=(ao (bf (aC aj (aw dI (ae 1) (aY aM (ab (ae 0) af)))) (aG (ah (ae 0) (ae 1))) az)
  (aG (eK (.int 0))))
noncomputable def aF:List PySem.PyData->bD:=aL 2 iT
noncomputable def mV:FS:=(ao (bf (aC aj (aw kN (ae 0) (aw vL (eK (.int 10)) (eK (.int 18))))) (ao (ax false 4 (ae 0))
  (ao (cM 5 (cx (ab (ae 1) af))
  (ax false 4 (aw nN (ae 4) (ae 2))))
  (aG (aw cj (ae 4) (ae 2))))) az)
  (ao (ax false 3 (aw cj (aw cD (aw bc (aw bc (aw cj (ae 0) (eK (.int 1000000007))) (aw cD (eK (.int 1009)) (ae 1))) (eK (.int 17))) (eK (.int 69621))) (eK (.int 2147483647))))
  (ao (ax false 3 (aw cj (aw bc (aw bc (aw cD (ae 3) (ae 3)) (aw cD (eK (.int 40503)) (ae 1))) (eK (.int 5))) (eK (.int 2147483629))))
  (aG (aw cj (aw nN (aw cj (aw cD (ae 3) (eK (.int 48271))) (eK (.int 2147483647))) (eK (.int 32))) (ae 2))))))
noncomputable def ak:List PySem.PyData->bD:=aL 6 mV
noncomputable def d__law_world:FS:=(ao (ax false 3 (aw bc (eK (.int 1)) (aw cj (ai 2 aF (ab (ae 0) (ab (ae 1) af))) (ae 2))))
  (ao (ax true 4 (aP .leaf af))
  (ao (ax true 5 (aP .leaf af))
  (ao (ax true 6 (aP .leaf af))
  (ao (cM 7 (cx (ab (ae 3) af))
  (ao (ax false 8 (ai 2 aF (ab (ae 0) (ab (aw bc (aw bc (ae 1) (eK (.int 1))) (ae 7)) af))))
  (ao (gr 4 (ai 3 ak (ab (ae 8) (ab (eK (.int 0)) (ab (eK (.int 2)) af)))))
  (ao (gr 5 (av .leaf 11 (cx (ab (eK (.int 3)) af)) (aC aj (aw bg (ai 3 ak (ab (ae 8) (ab (aw bc (eK (.int 1)) (ae 11)) (ab (eK (.int 2)) af)))) (eK (.int 1)))) (ah (eK (.str "abc")) (ae 11))))
  (ao (ax false 9 (av .leaf 10 (cx (ab (ae 3) af)) (aC aj (aw bg (ai 3 ak (ab (ae 8) (ab (aw bc (eK (.int 4)) (ae 10)) (ab (aw bc (eK (.int 2)) (aY nM (ab (aw eF (ae 3) (eK (.int 3))) af))) af)))) (eK (.int 1)))) (ae 10)))
  (ao (bf (aC aj (aw bg (ae 9) (aP .leaf af))) (ax false 9 (aP .leaf (ab (ai 3 ak (ab (ae 8) (ab (aw bc (eK (.int 4)) (ae 3)) (ab (ae 3) af)))) af))) az)
  (gr 6 (ae 9))))))))
  (aG (bF (ab (bB 4) (ab (bB 5) (ab (bB 6) af))))))))))
noncomputable def m__law_world:List PySem.PyData->bD:=aL 12 d__law_world
open PySem.SeqAt
noncomputable def Dj (a b:D):Bool:=match dI a b with
 | some (.bool t)=>t
 | _=>false
noncomputable def hU (ds:List D):Prop:=∀a∈ds,∃n,a=.int n
noncomputable def m5 (ds:List D):Prop:=∀a∈ds,∃x,a=.str x/\PyData.strOk x=true
noncomputable def Row (ds:List D):Prop:=hU ds\/m5 ds
theorem xP (i:Int):shaped (.int i)=true:=by simp [shaped,PyData.canLay0,PyData.depth]
theorem yj {x:Str} (h:PyData.strOk x=true):shaped (.str x)=true:=by simp [shaped,PyData.canLay0,PyData.depth,h]
theorem Row.lt {ds:List D} {a b:D} (h:Row ds) (ha:a∈ds) (hb:b∈ds):dI a b=some (.bool (Dj a b))/\kN a b=some (.bool (!Dj a b)):=by
 rcases h with h | h
 ·obtain ⟨n,rfl⟩:=h a ha
  obtain ⟨m,rfl⟩:=h b hb;refine ⟨rfl,?_⟩
  show some (PyData.bool (decide (m<=n)))=some (.bool (!decide (n<m)))
  congr 2
  by_cases q:n<m
  ·simp [q,Int.not_le.mpr q]
  ·simp [q,Int.not_lt.mp q]
 ·obtain ⟨n,rfl,_⟩:=h a ha
  obtain ⟨m,rfl,_⟩:=h b hb;exact ⟨rfl,rfl⟩
noncomputable def xp (ds:List D) (d:D):Bool:=match d with
 | .int j=>Dj (ds.getD (j-1).toNat .none) (ds.getD j.toNat .none)
 | _=>false
noncomputable def fO (ds:List D):Bool:=(cI 1 ((ds.length:Int)-1).toNat).all (xp ds)
theorem AR {lo:Int} {n:Nat} {d:D} (h:d∈cI lo n):∃k:Nat,k<n/\d=.int (lo+k):=by
 unfold cI at h;simp only [mem_map,mem_range] at h
 obtain ⟨k,hk,e⟩:=h;exact ⟨k,hk,e.symm⟩
theorem CI {lo:Int} {n:Nat}:(cI lo n).length=n:=by unfold cI;simp
theorem lB {n:Nat} {k:Nat} (h:k<n):d6 n (k:Int)=some k:=by
 unfold d6;rw [if_pos (by omega),if_pos (by omega)]
 simp
theorem BU {n:Nat} {i:Int} (h0:0<=i) (h1:i<n):d6 n i=some i.toNat:=by
 unfold d6;rw [if_pos h0,if_pos h1]
theorem zx {i:Int} (h0:-1000<=i) (h1:i<=100000):dt i=true:=by
 unfold dt;simp only [Bool.and_eq_true,decide_eq_true_eq]
 omega
theorem Cz {ds:List D} {k:Nat} (h:k<ds.length):ds[k]?=some (ds.getD k .none):=by
 rw [getD_eq_getElem?_getD,getElem?_eq_getElem h];rfl
theorem getD_mem {ds:List D} {k:Nat} (h:k<ds.length):ds.getD k .none∈ds:=mem_of_getElem? (Cz h)
theorem BS {ds:List D} {k:Nat} (h:Row ds) (hk:k<((ds.length:Int)-1).toNat):d6 ds.length (1+(k:Int)-1)=some k/\d6 ds.length (1+(k:Int))=some (k+1)/\ds[k]?=some (ds.getD k .none)/\ds[k+1]?=some (ds.getD (k+1) .none) /\
  dI (ds.getD k .none) (ds.getD (k+1) .none)=some (.bool (xp ds (.int (1+(k:Int)))))/\kN (ds.getD k .none) (ds.getD (k+1) .none)=some (.bool (!xp ds (.int (1+(k:Int))))):=by
 have h1:k<ds.length:=by omega
 have h2:k+1<ds.length:=by omega
 have l:=h.lt (getD_mem h1) (getD_mem h2)
 have e3:xp ds (.int (1+(k:Int)))=Dj (ds.getD k .none) (ds.getD (k+1) .none):=by
  unfold xp;dsimp only;rw [show (1+(k:Int)-1).toNat=k by omega,show (1+(k:Int)).toNat=k+1 by omega]
 rw [e3];exact ⟨by rw [show (1+(k:Int)-1)=k by omega];exact lB h1,by rw [show (1+(k:Int))=((k+1:Nat):Int) by omega];exact lB h2,Cz h1,Cz h2,l.1,l.2⟩
theorem aW {n:Nat} {g:FS} {ds:List D} {p:PV} (h:g (bw n ds)=.rt p):aL n g ds=.ok p:=by unfold aL;rw [h]
theorem eq_int {a b:Int}:bg (.int a) (.int b)=some (.bool (a==b)):=by
 unfold bg;rw [xP,xP,Bool.and_self,if_pos rfl,PyData.eqv]
theorem fo {ds:List D} (h:Row ds) (hl:ds.length<=100):dz [.list ds]=.ok ⟨.leaf,.bool (fO ds)⟩:=by
 have hc:av .leaf 1 (vB (ab (eK (.int 1)) (ab (aY aM (ab (ae 0) af)) af))) aE (aw dI (ah (ae 0) (aw gSub (ae 1) (eK (.int 1)))) (ah (ae 0) (ae 1))) [some ⟨.leaf,.list ds⟩,none] =
   .ok ⟨.lst .leaf,.list ((cI 1 ((ds.length:Int)-1).toNat).map fun d=>.bool (xp ds d))⟩ [some ⟨.leaf,.list ds⟩,none]:=by
  refine AA (f:=fun d=>⟨.leaf,.bool (xp ds d)⟩) (st:=true) (EH (k:=1) (m:=(ds.length:Int)) (aH aV (aH (bT (aH (aB rfl) ay) rfl) ay)) rfl (by omega) (by omega) (by omega) (by omega)) (by simp) rfl (by rw [CI];omega) fun d hd=>⟨?_,rfl⟩
  obtain ⟨k,hk,rfl⟩:=AR hd;obtain ⟨e1,e2,e3,e4,e5,e6⟩:=BS h hk;exact aI (qP (aB rfl) (aI (aB rfl) aV rfl) e1 e3 rfl) (qP (aB rfl) (aB rfl) e2 e4 rfl) e5
 exact aW (aS (bT (aH hc ay) An) rfl)
noncomputable def xr (a:D):Bool:=[PyData.str "a",.str "b",.str "c",.str "d",.str "e",.str "f"].any fun y=>PyData.eqv y a
noncomputable def BW (a:D):Bool:=[PyData.int 0,.int 1].any fun y=>PyData.eqv y a
noncomputable def inR (n:Int) (a:D):Bool:=match a with
 | .int i=>decide (0<=i)&&decide (i<n)
 | _=>false
noncomputable def AH (d:D):Bool:=match d with
 | .list xs=>xs.all xr&&fO xs
 | _=>false
noncomputable def C3 (n:Int) (d:D):Bool:=match d with
 | .list xs=>decide (0<xs.length)&&(xs.all (inR n)&&fO xs)
 | _=>false
theorem yk:shaped cP=true:=by decide +kernel
theorem Bq:shaped b9=true:=by decide +kernel
theorem zy {x:Str} (hx:PyData.strOk x=true):bV false (.str x) cP=some (.bool (xr (.str x))):=by
 unfold bV cP;have:=yk
 unfold cP at this;simp only [yj hx,this,Bool.and_self,if_true]
 rfl
theorem BV {i:Int}:bV false (.int i) b9=some (.bool (BW (.int i))):=by
 unfold bV b9;have:=Bq
 unfold b9 at this;simp only [xP,this,Bool.and_self,if_true]
 rfl
theorem ju {ds:List D} (h:m5 ds) (hl:ds.length<=100):dB [.list ds]=.ok ⟨.leaf,.bool (ds.all xr&&fO ds)⟩:=by
 have hc:av .leaf 1 (aK (ae 0)) aE (aw (bV false) (ae 1) (eK cP)) [some ⟨.leaf,.list ds⟩,none]=.ok ⟨.lst .leaf,.list (ds.map fun d=>.bool (xr d))⟩ [some ⟨.leaf,.list ds⟩,none]:=by
  refine AA (f:=fun d=>⟨.leaf,.bool (xr d)⟩) (cB (aB rfl) rfl) (by simp) rfl (by omega) fun d hd=>⟨?_,rfl⟩
  obtain ⟨x,rfl,hx⟩:=h d hd;exact aI (aB rfl) aV (zy hx)
 exact aW (aS (v_and (bT (aH hc ay) An) (cC (aH (aB rfl) ay) (fo (.inr h) hl) rfl rfl)) rfl)
theorem chain_ev {i n:Int}:AJ (.int 0) (.int i)=some (.bool (decide (0<=i)))/\dI (.int i) (.int n)=some (.bool (decide (i<n))):=⟨rfl,rfl⟩
theorem fq {ds:List D} {n:Int} (h:hU ds) (hl:ds.length<=100):cT [.list ds,.int n]=.ok ⟨.leaf,.bool (ds.all (inR n)&&fO ds)⟩:=by
 have hc:av .leaf 2 (aK (ae 0)) aE (xN AJ dI (eK (.int 0)) (ae 2) (ae 1)) [some ⟨.leaf,.list ds⟩,some ⟨.leaf,.int n⟩,none]=.ok ⟨.lst .leaf,.list (ds.map fun d=>.bool (inR n d))⟩ [some ⟨.leaf,.list ds⟩,some ⟨.leaf,.int n⟩,none]:=by
  refine AA (f:=fun d=>⟨.leaf,.bool (inR n d)⟩) (cB (aB rfl) rfl) (by simp) rfl (by omega) fun d hd=>⟨?_,rfl⟩
  obtain ⟨i,rfl⟩:=h d hd;exact uw aV (aB rfl) (chain_ev (n:=n)).1 rfl (aB rfl) chain_ev.2
 exact aW (aS (v_and (bT (aH hc ay) An) (cC (aH (aB rfl) ay) (fo (.inl h) hl) rfl rfl)) rfl)
theorem jt {ds:List D} {n:Int} (h:hU ds) (hl:ds.length<=100):dA [.list ds,.int n]=.ok ⟨.leaf,.bool (decide (0<ds.length)&&(ds.all (inR n)&&fO ds))⟩:=by
 have e:eF (.int (ds.length:Nat)) (.int 0)=some (.bool (decide (0<ds.length))):=by
  show some (PyData.bool (decide ((0:Int)<(ds.length:Int))))=_
  congr 2
  exact decide_eq_decide.mpr (by omega)
 exact aW (aS (v_and (aI (bT (aH (aB rfl) ay) rfl) aV e) (cC (aH (aB rfl) (aH (aB rfl) ay)) (fq h hl) rfl rfl)) rfl)
structure Wk (b:Nat) (os ms ss:List D):Prop where
 o:hU os
 m:∀r∈ms,∃xs,r=.list xs/\m5 xs/\xs.length<=30
 s:∀r∈ss,∃xs,r=.list xs/\hU xs/\xs.length<=30
 lo:os.length<=b
 lm:ms.length<=b
 ls:ss.length<=b
noncomputable def Dn (os ms ss:List D):Bool:=decide ((os.length:Int)<1)||(decide ((24:Int)<os.length)||((!((ms.length:Int)==(os.length:Int)))||(!((ss.length:Int)==(os.length:Int)))))
noncomputable def isW (os ms ss:List D):Bool:=!Dn os ms ss&&(os.all BW&&(ms.all AH&&ss.all (C3 os.length)))
theorem ne_int {a b:Int}:bK (.int a) (.int b)=some (.bool (!(a==b))):=by
 unfold bK;rw [xP,xP,Bool.and_self,if_pos rfl,PyData.eqv]
theorem kQ {b:Nat} {os ms ss:List D} (h:Wk b os ms ss) (hb:b<=100):dS [.list os,.list ms,.list ss]=.ok ⟨.leaf,.bool (isW os ms ss)⟩:=by
 have lo:=h.lo
 have lm:=h.lm
 have ls:=h.ls
 refine aW ?_
 refine aA (cV (bT (aH (aB rfl) ay) rfl) rfl (by simp [bw])) ?_
 have hif:(b7 (aC aj (aw dI (ae 3) (eK (.int 1)))) (b7 (aC aj (aw eF (ae 3) (eK dU))) (b7 (aC aj (aw bK (aY aM (ab (ae 1) af)) (ae 3))) (aC aj (aw bK (aY aM (ab (ae 2) af)) (ae 3)))))) [some ⟨.leaf,.list os⟩,some ⟨.leaf,.list ms⟩,some ⟨.leaf,.list ss⟩,some ⟨.leaf,.int (os.length:Nat)⟩,none,none]
   = .ok (Dn os ms ss) [some ⟨.leaf,.list os⟩,some ⟨.leaf,.list ms⟩,some ⟨.leaf,.list ss⟩,some ⟨.leaf,.int (os.length:Nat)⟩,none,none]:=
  dQ (b6 (aI (aB rfl) aV rfl)) (dQ (b6 (aI (aB rfl) aV rfl)) (dQ (b6 (aI (bT (aH (aB rfl) ay) rfl) (aB rfl) ne_int)) (b6 (aI (bT (aH (aB rfl) ay) rfl) (aB rfl) ne_int))))
 cases hbad:Dn os ms ss with
 | true=>
  rw [hbad] at hif;unfold isW;rw [hbad];exact d8 (aN hif (fun _=>aS aV rfl) nofun)
 | false=>
  rw [hbad] at hif;refine aA (aN hif nofun (fun _=>rfl)) ?_
  have c1:av .leaf 4 (aK (ae 0)) aE (aw (bV false) (ae 4) (eK b9)) [some ⟨.leaf,.list os⟩,some ⟨.leaf,.list ms⟩,some ⟨.leaf,.list ss⟩,some ⟨.leaf,.int (os.length:Nat)⟩,none,none]
    = .ok ⟨.lst .leaf,.list (os.map fun d=>.bool (BW d))⟩ [some ⟨.leaf,.list os⟩,some ⟨.leaf,.list ms⟩,some ⟨.leaf,.list ss⟩,some ⟨.leaf,.int (os.length:Nat)⟩,none,none]:=by
   refine AA (f:=fun d=>⟨.leaf,.bool (BW d)⟩) (cB (aB rfl) rfl) (by simp) rfl (by omega) fun d hd=>⟨?_,rfl⟩
   obtain ⟨i,rfl⟩:=h.o d hd;exact aI (aB rfl) aV BV
  have c2:av .leaf 5 (aK (ae 1)) aE (ai 1 dB (ab (ae 5) af)) [some ⟨.leaf,.list os⟩,some ⟨.leaf,.list ms⟩,some ⟨.leaf,.list ss⟩,some ⟨.leaf,.int (os.length:Nat)⟩,none,none]
    = .ok ⟨.lst .leaf,.list (ms.map fun d=>.bool (AH d))⟩ [some ⟨.leaf,.list os⟩,some ⟨.leaf,.list ms⟩,some ⟨.leaf,.list ss⟩,some ⟨.leaf,.int (os.length:Nat)⟩,none,none]:=by
   refine AA (f:=fun d=>⟨.leaf,.bool (AH d)⟩) (cB (aB rfl) rfl) (by simp) rfl (by omega) fun d hd=>⟨?_,rfl⟩
   obtain ⟨xs,rfl,hx,hl⟩:=h.m d hd;exact cC (aH (aB rfl) ay) (ju hx (by omega)) rfl rfl
  have c3:av .leaf 5 (aK (ae 2)) aE (ai 2 dA (ab (ae 5) (ab (ae 3) af))) [some ⟨.leaf,.list os⟩,some ⟨.leaf,.list ms⟩,some ⟨.leaf,.list ss⟩,some ⟨.leaf,.int (os.length:Nat)⟩,none,none]
    = .ok ⟨.lst .leaf,.list (ss.map fun d=>.bool (C3 os.length d))⟩ [some ⟨.leaf,.list os⟩,some ⟨.leaf,.list ms⟩,some ⟨.leaf,.list ss⟩,some ⟨.leaf,.int (os.length:Nat)⟩,none,none]:=by
   refine AA (f:=fun d=>⟨.leaf,.bool (C3 os.length d)⟩) (cB (aB rfl) rfl) (by simp) rfl (by omega) fun d hd=>⟨?_,rfl⟩
   obtain ⟨xs,rfl,hx,hl⟩:=h.s d hd;exact cC (aH (aB rfl) (aH (aB rfl) ay)) (jt hx (by omega)) rfl rfl
  have t1:=eL (dP (bT (aH c1 ay) An))
  cases ho:os.all BW with
  | false=>
   rw [ho] at t1;unfold isW;rw [ho,Bool.false_and,Bool.and_false];exact d8 (aN t1 (fun _=>aS aV rfl) nofun)
  | true=>
   rw [ho] at t1;refine aA (aN t1 nofun (fun _=>rfl)) ?_
   unfold isW;rw [hbad,ho,Bool.not_false,Bool.true_and,Bool.true_and];exact aS (v_and (bT (aH c2 ay) An) (bT (aH c3 ay) An)) rfl
theorem zN {xs:List D} (h:shaped (.list xs)=true):bg (.list xs) (.list [])=some (.bool (decide (xs.length=0))):=by
 unfold bg;have h2:shaped (.list [])=true:=by decide +kernel
 rw [h,h2,Bool.and_self,if_pos rfl]
 cases xs with
 | nil=>rfl
 | cons a r=>rfl
theorem DN {xs:List D} (h:hU xs):shaped (.list xs)=true:=by
 have c:PyData.canLayAll0 xs=true/\PyData.depthAll xs=0:=by
  induction xs with
  | nil=>exact ⟨rfl,rfl⟩
  | cons a r ih=>
   obtain ⟨n,rfl⟩:=h a mem_cons_self;have q:=ih fun x hx=>h x (mem_cons_of_mem _ hx)
   simp [PyData.canLayAll0,PyData.canLay0,PyData.depthAll,PyData.depth,q.1,q.2]
 simp [shaped,PyData.canLay0,PyData.depth,c.1,c.2]
theorem lt_int {a b:Int}:dI (.int a) (.int b)=some (.bool (decide (a<b))):=rfl
theorem vG {a b:Int}:kN (.int a) (.int b)=some (.bool (decide (b<=a))):=rfl
theorem add_int' {a b:Int}:bc (.int a) (.int b)=some (.int (a+b)):=rfl
theorem sub_int' {a b:Int}:gSub (.int a) (.int b)=some (.int (a-b)):=rfl
theorem eC {a b:Int} (h:0<b):cj (.int a) (.int b)=some (.int (a % b)):=by
 show (if wa a b then _ else _)=_
 rw [if_pos (by unfold wa;simpa using h)]
theorem xC {a b:Int} (h:0<b) (h2:b<1073741824):nN (.int a) (.int b)=some (.int (a / b)):=by
 show (if wb a b then _ else _)=_
 rw [if_pos (by unfold wb;simp [h,h2])]
theorem xn {a b:Int} (h:-1000000000000<b) (h2:b<1000000000000):cD (.int a) (.int b)=some (.int (a*b)):=by
 show (if qM a b then _ else _)=_
 rw [if_pos (by unfold qM;simp only [Bool.or_eq_true,Bool.and_eq_true,decide_eq_true_eq];right;omega)]
theorem iF {a b:Int} (h:-1000000000000<a) (h2:a<1000000000000):cD (.int a) (.int b)=some (.int (a*b)):=by
 show (if qM a b then _ else _)=_
 rw [if_pos (by unfold qM;simp only [Bool.or_eq_true,Bool.and_eq_true,decide_eq_true_eq];left;omega)]
theorem BI {b:Int} (h:0<=b) (h2:b<=100):vL (.int 10) (.int b)=some (.int (10 ^ b.toNat)):=by
 show (if v9 10 b then _ else _)=_
 rw [if_pos (by unfold v9;simp only [Bool.and_eq_true,decide_eq_true_eq];exact ⟨⟨h,by omega⟩,by decide⟩)]
theorem AV {xs:List D} (h:hU xs) {k:Int} (hk:0<=k):∃c,aF [.list xs,.int k]=.ok ⟨.leaf,.int c⟩:=by
 have t:aC aj (aw dI (ae 1) (aY aM (ab (ae 0) af))) [some ⟨.leaf,.list xs⟩,some ⟨.leaf,.int k⟩]=.ok (decide (k<(xs.length:Int))) [some ⟨.leaf,.list xs⟩,some ⟨.leaf,.int k⟩]:=
  b6 (aI (aB rfl) (bT (aH (aB rfl) ay) rfl) lt_int)
 cases hlt:decide (k<(xs.length:Int)) with
 | true=>
  rw [hlt] at t;have hl:=of_decide_eq_true hlt
  have hk2:k.toNat<xs.length:=by omega
  obtain ⟨c,hc⟩:=h _ (getD_mem hk2);have g:=Cz hk2
  rw [hc] at g;exact ⟨c,aW (d8 (aN t (fun _=>aS (qP (aB rfl) (aB rfl) (BU hk hl) g rfl) rfl) nofun))⟩
 | false=>
  rw [hlt] at t;exact ⟨0,aW (aA (aN t nofun (fun _=>rfl)) (aS aV rfl))⟩
theorem mN {c k b:Int} (hk:0<=k) (hk2:k<=1000) (hb:1<=b) (hb2:b<=1000):∃r,ak [.int c,.int k,.int b]=.ok ⟨.leaf,.int r⟩/\0<=r/\r<b:=by
 have t:aC aj (aw kN (ae 0) (aw vL (eK (.int 10)) (eK (.int 18)))) [some ⟨.leaf,.int c⟩,some ⟨.leaf,.int k⟩,some ⟨.leaf,.int b⟩,none,none,none]=.ok (decide (10 ^ (18:Int).toNat<=c)) [some ⟨.leaf,.int c⟩,some ⟨.leaf,.int k⟩,some ⟨.leaf,.int b⟩,none,none,none]:=
  b6 (aI (aB rfl) (aI aV aV (BI (by omega) (by omega))) vG)
 cases hge:decide (10 ^ (18:Int).toNat<=c) with
 | true=>
  rw [hge] at t;obtain ⟨Γ',e,l,x,hΓ⟩:=DR (P:=fun _ Γ=>∃l x,Γ=[some ⟨.leaf,.int c⟩,some ⟨.leaf,.int k⟩,some ⟨.leaf,.int b⟩,none,some ⟨.leaf,.int l⟩,x]) (i:=5) (body:=ax false 4 (aw nN (ae 4) (ae 2))) (cI 0 k.toNat) 0
   [some ⟨.leaf,.int c⟩,some ⟨.leaf,.int k⟩,some ⟨.leaf,.int b⟩,none,some ⟨.leaf,.int c⟩,none] ⟨c,none,rfl⟩ (fun m d Γ hd _ _ ⟨l,x,hΓ⟩=>by
    subst hΓ;refine ⟨by simp,_,cV (aI (aB rfl) (aB rfl) (xC (by omega) (by omega))) rfl (by simp),_,_,rfl⟩)
  subst hΓ;exact ⟨_,aW (d8 (aN t (fun _=>aA (cV (aB rfl) rfl (by simp)) (aA (eZ (uu (k:=k) (aH (aB rfl) ay) rfl (by omega) (by omega)) e) (aS (aI (aB rfl) (aB rfl) (eC (by omega))) rfl))) nofun)),Int.emod_nonneg _ (by omega),Int.emod_lt_of_pos _ (by omega)⟩
 | false=>
  rw [hge] at t;have m1:∀x:Int,0<=x % 2147483647/\x % 2147483647<2147483647:=fun x=>⟨Int.emod_nonneg _ (by omega),Int.emod_lt_of_pos _ (by omega)⟩
  refine ⟨_,aW (aA (aN t nofun (fun _=>rfl)) (aA (cV (aI (aI (aI (aI (aI (aB rfl) aV (eC (by omega))) (aI aV (aB rfl) (iF (by omega) (by omega))) add_int') aV add_int') aV (xn (by omega) (by omega))) aV (eC (by omega))) rfl (by simp [bw]))
   (aA (cV (aI (aI (aI (aI (aB rfl) (aB rfl) (iF ?_ ?_)) (aI aV (aB rfl) (iF (by omega) (by omega))) add_int') aV add_int') aV (eC (by omega))) rfl (by simp [bw]))
   (aS (aI (aI (aI (aI (aB rfl) aV (xn (by omega) (by omega))) aV (eC (by omega))) aV (xC (by omega) (by omega))) (aB rfl) (eC (by omega))) rfl)))),Int.emod_nonneg _ (by omega),Int.emod_lt_of_pos _ (by omega)⟩
  ·exact Int.lt_of_lt_of_le (by omega) (m1 _).1
  ·exact Int.lt_trans (m1 _).2 (by omega)
noncomputable def df (c k b:Int):Int:=match ak [.int c,.int k,.int b] with
 | .ok ⟨_,.int r⟩=>r
 | _=>0
theorem rg {c k b:Int} (hk:0<=k) (hk2:k<=1000) (hb:1<=b) (hb2:b<=1000):ak [.int c,.int k,.int b]=.ok ⟨.leaf,.int (df c k b)⟩:=by
 obtain ⟨r,e,_⟩:=mN (c:=c) hk hk2 hb hb2
 unfold df;rw [e]
theorem uf {c k b:Int} (hk:0<=k) (hk2:k<=1000) (hb:1<=b) (hb2:b<=1000):0<=df c k b/\df c k b<b:=by
 obtain ⟨r,e,h⟩:=mN (c:=c) hk hk2 hb hb2
 unfold df;rw [e];exact h
noncomputable def abc (d:D):D:=match d with
 | .int k=>(match eR [97,98,99] k with
  | some c=>.str ⟨#[c]⟩
  | none=>.none)
 | _=>.none
theorem sG {c:Nat} (h:c<1000):PyData.strOk ⟨#[c]⟩=true:=by
 unfold PyData.strOk;simp
 omega
noncomputable abbrev eW:FS:=(ao (ax false 8 (ai 2 aF (ab (ae 0) (ab (aw bc (aw bc (ae 1) (eK (.int 1))) (ae 7)) af))))
  (ao (gr 4 (ai 3 ak (ab (ae 8) (ab (eK (.int 0)) (ab (eK (.int 2)) af)))))
  (ao (gr 5 (av .leaf 11 (cx (ab (eK (.int 3)) af)) (aC aj (aw bg (ai 3 ak (ab (ae 8) (ab (aw bc (eK (.int 1)) (ae 11)) (ab (eK (.int 2)) af)))) (eK (.int 1)))) (ah (eK (.str "abc")) (ae 11))))
  (ao (ax false 9 (av .leaf 10 (cx (ab (ae 3) af)) (aC aj (aw bg (ai 3 ak (ab (ae 8) (ab (aw bc (eK (.int 4)) (ae 10)) (ab (aw bc (eK (.int 2)) (aY nM (ab (aw eF (ae 3) (eK (.int 3))) af))) af)))) (eK (.int 1)))) (ae 10)))
  (ao (bf (aC aj (aw bg (ae 9) (aP .leaf af))) (ax false 9 (aP .leaf (ab (ai 3 ak (ab (ae 8) (ab (aw bc (eK (.int 4)) (ae 3)) (ab (ae 3) af)))) af))) az)
  (gr 6 (ae 9)))))))
theorem lY {ts:List Int} (h:ts.Pairwise (· < ·)):fO (ts.map .int)=true:=by
 unfold fO;rw [all_eq_true];intro d hd;obtain ⟨k,hk,rfl⟩:=AR hd;rw [length_map] at hk;have h1:k<ts.length:=by omega
 have h2:k+1<ts.length:=by omega
 unfold xp;dsimp only;rw [show (1+(k:Int)-1).toNat=k by omega,show (1+(k:Int)).toNat=k+1 by omega]
 rw [getD_eq_getElem?_getD,getD_eq_getElem?_getD,getElem?_map,getElem?_map,getElem?_eq_getElem h1,getElem?_eq_getElem h2];have:=List.pairwise_iff_getElem.mp h k (k+1) h1 h2 (by omega)
 show decide (ts[k]<ts[k+1])=true
 exact decide_eq_true this
structure Gw (N:Int) (n:Nat) (os ms ss:List D):Prop where
 lo:os.length=n
 lm:ms.length=n
 ls:ss.length=n
 o:∀a∈os,a=.int 0\/a=.int 1
 m:∀r∈ms,∃xs,r=.list xs/\m5 xs/\xs.length<=30/\AH r=true
 s:∀r∈ss,∃ts:List Int,r=.list (ts.map .int)/\ts.length<=30/\ts≠[]/\(∀t∈ts,0<=t/\t<N)/\ts.Pairwise (· < ·)
theorem Au {ts:List Int}:hU (ts.map .int):=fun a ha=>by
 obtain ⟨n,_,e⟩:=List.mem_map.mp ha;exact ⟨n,e.symm⟩
theorem Gw.wk {N:Int} {n b:Nat} {os ms ss:List D} (h:Gw N n os ms ss) (hb:n<=b):Wk b os ms ss:=
 ⟨fun a ha=>(h.o a ha).elim (fun e=>⟨0,e⟩) fun e=>⟨1,e⟩,fun r hr=>let ⟨xs,e,a,b,_⟩:=h.m r hr;⟨xs,e,a,b⟩,fun r hr=>let ⟨ts,e,a,_⟩:=h.s r hr;⟨_,e,Au,by rw [length_map];exact a⟩,by rw [h.lo];exact hb,by rw [h.lm];exact hb,by rw [h.ls];exact hb⟩
theorem Gw.isW {n:Nat} {os ms ss:List D} (h:Gw (n:Int) n os ms ss) (h1:1<=n) (h24:n<=24):isW os ms ss=true:=by
 unfold KC.isW Dn;rw [h.lo,h.lm,h.ls];have e1:decide ((n:Int)<1)=false:=decide_eq_false (by omega)
 have e2:decide ((24:Int)<n)=false:=decide_eq_false (by omega)
 rw [e1,e2];simp only [beq_self_eq_true,Bool.not_true,Bool.or_self,Bool.not_false,Bool.true_and,Bool.and_eq_true,all_eq_true]
 refine ⟨fun a ha=>?_,fun r hr=>?_,fun r hr=>?_⟩
 ·rcases h.o a ha with rfl | rfl<;>rfl
 ·obtain ⟨xs,_,_,_,e⟩:=h.m r hr
  exact e
 ·obtain ⟨ts,rfl,h2,h3,h4,h5⟩:=h.s r hr
  unfold C3;simp only [Bool.and_eq_true,decide_eq_true_eq,length_map,all_eq_true]
  refine ⟨by cases ts with | nil=>exact absurd rfl h3 | cons a r=>simp,fun a ha=>?_,lY h5⟩
  obtain ⟨t,ht,rfl⟩:=List.mem_map.mp ha;have:=h4 t ht
  unfold inR;simp only [Bool.and_eq_true,decide_eq_true_eq]
  exact this
theorem FN (c0 c1 c2:Bool):AH (.list (((if c0 then [PyData.str ⟨#[97]⟩] else [])++((if c1 then [PyData.str ⟨#[98]⟩] else [])++(if c2 then [PyData.str ⟨#[99]⟩] else [])))))=true:=by
 cases c0<;>cases c1<;>cases c2<;>decide +kernel
theorem yn (n:Nat) (c:D->Bool):∃ts:List Int,((cI 0 n).filter c).map (fun d=>d)=ts.map .int/\(∀t∈ts,0<=t/\t<(n:Int))/\ts.Pairwise (· < ·)/\ts.length<=n:=by
 refine ⟨((List.range n).map fun i=>(0:Int)+(i:Nat)).filter fun i=>c (.int i),?_,fun t ht=>?_,?_,?_⟩
 ·rw [List.map_id']
  unfold cI;rw [show (fun i:Nat=>PyData.int (0+(i:Int)))=(PyData.int∘fun i:Nat=>(0:Int)+(i:Nat)) from rfl,<-map_map,List.filter_map]
  rfl
 ·obtain ⟨h1,_⟩:=List.mem_filter.mp ht
  obtain ⟨i,hi,rfl⟩:=List.mem_map.mp h1;rw [mem_range] at hi;omega
 ·refine List.Pairwise.filter _ ?_
  rw [List.pairwise_map];exact List.pairwise_lt_range.imp fun h=>by omega
 ·refine Nat.le_trans (length_filter_le _ _) ?_
  simp
noncomputable abbrev W3:Sh:=.tup [.lst .leaf,.lst .leaf,.lst .leaf]
noncomputable abbrev cW (os ms ss:List D):D:=.tuple [.list os,.list ms,.list ss]
theorem oV {n:Nat} {g:FS} {ds:List D} {Γ:Ev} (h:g (bw n ds)=.nx Γ):aL n g ds=.ok ⟨.leaf,.none⟩:=by unfold aL;rw [h]
theorem ox {Γ Γ1:Ev} {fa:F1} {p:PV} {c:String} {b:Bool} (ha:fa Γ=.ok p Γ1) (hb:sW (ya p.d) c=b):dW c fa Γ=.ok ⟨.leaf,.bool b⟩ Γ1:=by
 unfold dW bj;rw [ha];simp only [Out.bind,hb]
theorem v_not {Γ Γ1:Ev} {fa:F1} {s:Sh} {b:Bool} (ha:fa Γ=.ok ⟨s,.bool b⟩ Γ1):nR fa Γ=.ok ⟨.leaf,.bool (!b)⟩ Γ1:=by
 unfold nR bj;rw [ha];rfl
theorem oq {Γ Γ1:Ev} {fa:F1} {p:PV} (h:fa Γ=.ok p Γ1):cK fa Γ=.nx Γ1:=by unfold cK fz;rw [h]
theorem qy {b:Nat} {os ms ss:List D} (h:Wk b os ms ss) (hb:b<=100) (hw:isW os ms ss=true):cR [cW os ms ss]=.ok ⟨.leaf,.none⟩:=by
 have t:bu (aC aZ (ai 3 dS (ab (ah (ae 0) (eK (.int 0))) (ab (ah (ae 0) (eK (.int 1))) (ab (ah (ae 0) (eK (.int 2))) af))))) [some ⟨.leaf,cW os ms ss⟩]=.ok (!(isW os ms ss)) [some ⟨.leaf,cW os ms ss⟩]:=
  eL (dP (cC (aH (fG (j:=0) (aB rfl) aV rfl rfl rfl) (aH (fG (j:=1) (aB rfl) aV rfl rfl rfl) (aH (fG (j:=2) (aB rfl) aV rfl rfl rfl) ay))) (kQ h hb) rfl rfl))
 rw [hw] at t;exact oV (aN t nofun (fun _=>rfl))
theorem sN {d:D} (h:shaped d=true):bK d d=some (.bool false):=by
 unfold bK;rw [h,Bool.and_self,if_pos rfl,PySem.SeqAt.eqv_refl _ (canLay_of_shaped h)];rfl
noncomputable def dl (S:List (List Int)):List D:=S.map fun ts=>.list (ts.map .int)
structure Sw (n:Nat) (S:List (List Int)):Prop where
 len:S.length=n
 row:∀ts∈S,ts.length<=30/\(∀t∈ts,0<=t/\t<(n:Int))/\ts.Pairwise (· < ·)
theorem sY {ts:List Int} {i:Int}:bV false (.int i) (.list (ts.map .int))=some (.bool (ts.contains i)):=by
 unfold bV;simp only [xP,DN Au,Bool.and_self,if_true]
 congr 2
 rw [Bool.eq_iff_iff];simp only [Bool.false_eq_true,if_false,any_eq_true,mem_map,contains_iff_mem]
 constructor
 ·rintro ⟨d,⟨t,ht,rfl⟩,e⟩
  rw [PyData.eqv] at e;have:t=i:=by simpa using e
  rw [<-this];exact ht
 ·intro h
  exact ⟨.int i,⟨i,h,rfl⟩,by rw [PyData.eqv];simp⟩
theorem zW {xs:List D} (h:hU xs):PyData.canLayAll0 xs=true/\PyData.depthAll xs=0:=by
 induction xs with
 | nil=>exact ⟨rfl,rfl⟩
 | cons a r ih=>
  obtain ⟨n,rfl⟩:=h a mem_cons_self;have q:=ih fun x hx=>h x (mem_cons_of_mem _ hx)
  simp [PyData.canLayAll0,PyData.canLay0,PyData.depthAll,PyData.depth,q.1,q.2]
theorem Gd {xs:List D} (h:m5 xs):PyData.canLayAll0 xs=true/\PyData.depthAll xs=0:=by
 induction xs with
 | nil=>exact ⟨rfl,rfl⟩
 | cons a r ih=>
  obtain ⟨n,rfl,hn⟩:=h a mem_cons_self;have q:=ih fun x hx=>h x (mem_cons_of_mem _ hx)
  simp [PyData.canLayAll0,PyData.canLay0,PyData.depthAll,PyData.depth,q.1,q.2,hn]
theorem o9 {ms:List D} (h:∀r∈ms,∃xs,r=.list xs/\PyData.canLayAll0 xs=true/\PyData.depthAll xs=0):PyData.canLayAll0 ms=true/\PyData.depthAll ms<=1:=by
 induction ms with
 | nil=>exact ⟨rfl,Nat.zero_le _⟩
 | cons a r ih=>
  obtain ⟨xs,rfl,h1,h2⟩:=h a mem_cons_self;have q:=ih fun x hx=>h x (mem_cons_of_mem _ hx)
  refine ⟨by simp [PyData.canLayAll0,PyData.canLay0,q.1,h1],?_⟩
  rw [PyData.depthAll,PyData.depth,h2];exact Nat.max_le.mpr ⟨by omega,q.2⟩
noncomputable def has (x:Str) (d:D):Bool:=match d with
 | .list xs=>xs.any fun y=>PyData.eqv y (.str x)
 | _=>false
theorem p9 {ts:List Int} {i:Int}:bV true (.int i) (.list (ts.map .int))=some (.bool (!ts.contains i)):=by
 have h:=sY (ts:=ts) (i:=i)
 unfold bV at h ⊢
 simp only [xP,DN Au,Bool.and_self,if_true,Bool.false_eq_true,if_false] at h ⊢
 have h:=Option.some.inj h
 injection h with h
 rw [h]
end KC
namespace T
open PySem PySem.Spec L2
open PyProof.Rows hiding St
section
variable {Γ Γ1:Ev} {fa fb fc:F1} {fl:FL} {p:PV} {i n:Nat} {ga gb:FB} {g1 g2:FS}
@[simp] theorem E8:sizeLine=16777216:=rfl
@[simp] theorem ui {α β:Type} {a:α} {e:Ev} {k:α->Ev->Out β}:(Out.ok a e).bind k=k a e:=rfl
@[simp] theorem r_k {d:D}:eK d Γ=.ok ⟨.leaf,d⟩ Γ:=rfl
@[simp] theorem GN:af Γ=.ok [] Γ:=rfl
@[simp] theorem ET:aE Γ=.ok true Γ:=rfl
@[simp] theorem EX:az Γ=.nx Γ:=rfl
@[simp] theorem Fq:ab fa fl Γ=(fa Γ).bind fun p Γ1=>(fl Γ1).bind fun ps Γ2=>.ok (p::ps) Γ2:=rfl
@[simp] theorem Hr {g:D->D->Option D}:aw g fa fb Γ=(fa Γ).bind fun p Γ1=>(fb Γ1).bind fun q Γ2=>match g p.d q.d with | some d=>.ok ⟨.leaf,d⟩ Γ2 | none=>.no:=rfl
@[simp] theorem Ht {g:List D->Option D}:aY g fl Γ=(fl Γ).bind fun ps Γ'=>match g (ps.map (·.d)) with | some d=>.ok ⟨.leaf,d⟩ Γ' | none=>.no:=rfl
@[simp] theorem GZ {g:D->Option Bool}:aC g fa Γ=(fa Γ).bind fun p Γ'=>match g p.d with | some b=>.ok b Γ' | none=>.no:=rfl
@[simp] theorem Fy:bu ga Γ=(ga Γ).bind fun c Γ'=>.ok (!c) Γ':=rfl
@[simp] theorem Fz:bQ ga gb Γ=(ga Γ).bind fun c Γ'=>if c then gb Γ' else .ok false Γ':=rfl
@[simp] theorem GY:b7 ga gb Γ=(ga Γ).bind fun c Γ'=>if c then .ok true Γ' else gb Γ':=rfl
@[simp] theorem GX:fm ga fa fb Γ=(ga Γ).bind fun b Γ'=>if b then fa Γ' else fb Γ':=rfl
@[simp] theorem Fo:de fa fb Γ=(fa Γ).bind fun p Γ=>match p.d with | .bool true=>fb Γ | .bool false=>.ok ⟨.leaf,.bool false⟩ Γ | _=>.no:=rfl
@[simp] theorem Fn:nR fa Γ=(fa Γ).bind fun p Γ=>match p.d with | .bool b=>.ok ⟨.leaf,.bool (!b)⟩ Γ | _=>.no:=rfl
@[simp] theorem oJ:ao g1 g2 Γ=match g1 Γ with | .nx Γ'=>g2 Γ' | .rt p=>.rt p | .bk Γ'=>.bk Γ' | .ct Γ'=>.ct Γ' | .er c Γ'=>.er c Γ' | .no=>.no:=by
 unfold ao
 cases g1 Γ<;>rfl
@[simp] theorem u2 {k:PV->Ev->OutS}:fz fa k Γ=match fa Γ with | .ok p Γ1=>k p Γ1 | .er c Γ1=>.er c Γ1 | .no=>.no:=by
 unfold fz
 cases fa Γ<;>rfl
@[simp] theorem Hs:bf ga g1 g2 Γ=match ga Γ with | .ok b Γ1=>if b then g1 Γ1 else g2 Γ1 | .er c Γ1=>.er c Γ1 | .no=>.no:=by
 unfold bf
 cases ga Γ<;>rfl
@[simp] theorem C7 {b:Bool}:aj (.bool b)=some b:=rfl
@[simp] theorem Fi {b:Bool}:aZ (.bool b)=some b:=rfl
@[simp] theorem C5 {xs:List D}:aZ (.list xs)=some (!xs.isEmpty):=rfl
noncomputable def Dd (p:PV):PV:=match p.s with
 | .leaf=>p
 | _=>⟨.view,p.d⟩
@[simp] theorem GG {d:D}:Dd ⟨.leaf,d⟩=⟨.leaf,d⟩:=rfl
@[simp] theorem GE {s:Sh} {d:D}:Dd ⟨.lst s,d⟩=⟨.view,d⟩:=rfl
@[simp] theorem GD {s:List Sh} {d:D}:Dd ⟨.tup s,d⟩=⟨.view,d⟩:=rfl
@[simp] theorem Gz:ae i Γ=match Γ[i]? with | some (some p)=>.ok (Dd p) Γ | _=>.no:=by
 unfold ae
 cases h:Γ[i]? with
 | none=>rfl
 | some o=>
  cases o with
  | none=>rfl
  | some p=>
   obtain ⟨s,d⟩:=p
   cases s<;>rfl
@[simp] theorem EY:bB i Γ=match Γ[i]? with | some (some p)=>.ok p (Γ.set i none) | _=>.no:=rfl
@[simp] theorem Fu {d:D}:coer .leaf ⟨.leaf,d⟩=true:=rfl
@[simp] theorem C9 {s:Sh} {d:D}:coer .leaf ⟨.lst s,d⟩=true:=rfl
@[simp] theorem C8 {s:List Sh} {d:D}:coer .leaf ⟨.tup s,d⟩=true:=rfl
@[simp] theorem Da {i:Int} {s:Sh}:coer .leaf ⟨s,.int i⟩=true:=by cases s<;>rfl
@[simp] theorem Dc {b:Bool} {s:Sh}:coer .leaf ⟨s,.bool b⟩=true:=by cases s<;>rfl
@[simp] theorem Fd:Sh.isView .leaf=false:=rfl
@[simp] theorem Fc {s:Sh}:Sh.isView (.lst s)=false:=rfl
@[simp] theorem Fb {s:List Sh}:Sh.isView (.tup s)=false:=rfl
@[simp] theorem Bz {own:Bool}:ax own i fa Γ=match fa Γ with | .ok p Γ1=>(if i<Γ1.length then (if own&&!p.s.isView then .nx (Γ1.set i (some p)) else if T.coer .leaf p then .nx (Γ1.set i (some ⟨.leaf,p.d⟩)) else .no) else .no) | .er c Γ1=>.er c Γ1 | .no=>.no:=by
 unfold ax;rw [u2]
@[simp] theorem BA:aG fa Γ=match fa Γ with | .ok p Γ1=>(if p.s.isView then (if bz p.d then .rt ⟨.leaf,p.d⟩ else .no) else .rt p) | .er c Γ1=>.er c Γ1 | .no=>.no:=by
 unfold aG;rw [u2]
@[simp] theorem Fp:cK fa Γ=match fa Γ with | .ok p Γ1=>.nx Γ1 | .er c Γ1=>.er c Γ1 | .no=>.no:=by
 unfold cK;rw [u2]
@[simp] theorem Fv {den:List D->bD}:ai n den fl Γ=(fl Γ).bind fun ps Γ'=>if ps.length=n then (match den (ps.map (·.d)) with | .ok p=>if ps.all (T.coer .leaf) then .ok p Γ' else if bz p.d then .ok ⟨.leaf,p.d⟩ Γ' else .ok ⟨.view,p.d⟩ Γ' | _=>.no) else .no:=rfl
@[simp] theorem Fm {a b:Int}:bc (.int a) (.int b)=some (.int (a+b)):=rfl
@[simp] theorem Fj {a b:Int}:gSub (.int a) (.int b)=some (.int (a-b)):=rfl
@[simp] theorem GU {a b:Int}:dI (.int a) (.int b)=some (.bool (decide (a<b))):=rfl
@[simp] theorem GV {a b:Int}:eF (.int a) (.int b)=some (.bool (decide (b<a))):=rfl
@[simp] theorem Fl {ds:List D}:aM [.list ds]=some (.int ds.length):=rfl
@[simp] theorem C6 {ds:List D}:aM [.tuple ds]=some (.int ds.length):=rfl
noncomputable def mF (p q:PV):Ev->Out PV:=ah (fun Γ=>.ok p Γ) (fun Γ=>.ok q Γ)
@[simp] theorem md:ah fa fb Γ=(fa Γ).bind fun p Γ1=>(fb Γ1).bind fun q Γ2=>mF p q Γ2:=by
 unfold mF ah bj
 cases fa Γ with
 | ok p Γ1=>simp only [ui]
 | er c Γ1=>rfl
 | no=>rfl
@[simp] theorem sm {ds:List D} {k:Int} {s:Sh}:mF ⟨.leaf,.tuple ds⟩ ⟨s,.int k⟩ Γ=match eR ds k with | some d=>.ok ⟨.leaf,d⟩ Γ | none=>.no:=by
 unfold mF ah bj eR;simp only [ui]
 cases h:d6 ds.length k with
 | none=>rfl
 | some j=>
  simp only [Option.bind_some]
  cases h2:ds[j]? with
  | none=>rfl
  | some d=>rfl
@[simp] theorem xf {ds:List D} {k:Int} {s:Sh}:mF ⟨.leaf,.list ds⟩ ⟨s,.int k⟩ Γ=match eR ds k with | some d=>.ok ⟨.leaf,d⟩ Γ | none=>.no:=by
 unfold mF ah bj eR;simp only [ui]
 cases h:d6 ds.length k with
 | none=>rfl
 | some j=>
  simp only [Option.bind_some]
  cases h2:ds[j]? with
  | none=>rfl
  | some d=>rfl
@[simp] theorem GS {ds:List D} {k:Int} {s:Sh}:mF ⟨.view,.list ds⟩ ⟨s,.int k⟩ Γ=match eR ds k with | some d=>.ok ⟨if bz d then .leaf else .view,d⟩ Γ | none=>.no:=by
 unfold mF ah bj eR;simp only [ui]
 cases h:d6 ds.length k with
 | none=>rfl
 | some j=>
  simp only [Option.bind_some]
  cases h2:ds[j]? with
  | none=>rfl
  | some d=>rfl
@[simp] theorem xg {α:Type} {a:α} {r:List α}:eR (a::r) 0=some a:=by
 simp [eR,d6]
@[simp] theorem G4 {α:Type} {a b:α} {r:List α}:eR (a::b::r) 1=some b:=by
 have:(1:Int)<(r.length:Int)+1+1:=by omega
 simp [eR,d6,this]
@[simp] theorem BB {α:Type} {a b c:α} {r:List α}:eR (a::b::c::r) 2=some c:=by
 have:(2:Int)<(r.length:Int)+1+1+1:=by omega
 simp [eR,d6,this]
theorem Ai {α:Type} {xs:List α} {k:Nat} {x:α} (h:xs[k]?=some x):eR xs (k:Int)=some x:=by
 have hk:=(List.getElem?_eq_some_iff.mp h).1
 have:(k:Int)<(xs.length:Int):=by omega
 simp [eR,d6,this,h]
end
section
variable {Γ:Ev} {fa fb:F1} {i:Nat}
@[simp] theorem GO {c:String}:dW c fa Γ=(fa Γ).bind fun p Γ=>.ok ⟨.leaf,.bool (sW (ya p.d) c)⟩ Γ:=rfl
@[simp] theorem EZ {s:Sh} {fl:FL}:aP s fl Γ=(fl Γ).bind fun ps Γ'=>if !s.isView&&ps.all (T.coer s)&&decide (ps.length<=sizeLine) then .ok ⟨.lst s,.list (ps.map (·.d))⟩ Γ' else .no:=rfl
@[simp] theorem GA {fl:FL}:bF fl Γ=(fl Γ).bind fun ps Γ'=>if ps.all tok&&decide (ps.length<=sizeLine) then .ok ⟨.tup (ps.map wX),.tuple (ps.map (·.d))⟩ Γ' else .no:=rfl
@[simp] theorem EW {d:D}:tok ⟨.leaf,d⟩=true:=rfl
@[simp] theorem EV {s:Sh} {d:D}:tok ⟨.lst s,d⟩=true:=rfl
@[simp] theorem EU {s:List Sh} {d:D}:tok ⟨.tup s,d⟩=true:=rfl
@[simp] theorem GP {a:D}:aO false a .none=some (.bool (oj a)):=rfl
@[simp] theorem E9 {a:D}:aO true a .none=some (.bool (!oj a)):=rfl
@[simp] theorem GC:F9 fa fb Γ=(fa Γ).bind fun p Γ1=>(fb Γ1).bind fun q Γ2=>match p.d,q.d with | .tuple xs,.int k=>if !p.s.isView&&decide (1<=k)&&decide (k<=xs.length) then .ok ⟨.leaf,.tuple (xs.drop k.toNat)⟩ Γ2 else .no | _,_=>.no:=rfl
@[simp] theorem GQ {neg:Bool} {tab:List (Str×Int)}:Ga neg tab fa Γ=(fa Γ).bind fun p Γ=>match p.d with | .str k=>.ok ⟨.leaf,.bool (if neg then !(gM k tab).isSome else (gM k tab).isSome)⟩ Γ | _=>.no:=rfl
@[simp] theorem Fh {tab:List (Str×Int)}:B2 tab fa Γ=(fa Γ).bind fun p Γ=>match p.d with | .str k=>(match gM k tab with | some i=>.ok ⟨.leaf,.int i⟩ Γ | none=>.no) | _=>.no:=rfl
@[simp] theorem Fe:xt fa Γ=(fa Γ).bind fun p Γ'=>match p.d with | .tuple ds=>if fx p ds then .ok ⟨ds,!p.s.isView⟩ Γ' else .no | _=>.no:=rfl
@[simp] theorem Ff:aK fa Γ=(fa Γ).bind fun p Γ'=>match p.d with | .list ds=>if fx p ds then .ok ⟨ds,!p.s.isView⟩ Γ' else .no | _=>.no:=rfl
@[simp] theorem GM {d:D} {ds:List D}:fx ⟨.leaf,d⟩ ds=true:=rfl
@[simp] theorem GK {s:Sh} {d:D} {ds:List D}:fx ⟨.lst s,d⟩ ds=true:=rfl
@[simp] theorem GJ {s:List Sh} {d:D} {ds:List D}:fx ⟨.tup s,d⟩ ds=true:=rfl
@[simp] theorem G0 {f:F1}:fN i f Γ=match Γ[i]? with | some (some ⟨.leaf,.int a⟩)=>fz f (tO i a) Γ | _=>.no:=rfl
@[simp] theorem FA {a b:Int} {s:Sh}:tO i a ⟨s,.int b⟩ Γ=if i<Γ.length then .nx (Γ.set i (some ⟨.leaf,.int (a+b)⟩)) else .no:=rfl
theorem Er {β:Type} {c:FB} {g:FS} {G:β->Ev} {test:β->Bool} {Inv:β->Prop} {meas:β->Nat} (hc:∀b,Inv b->c (G b)=.ok (test b) (G b)) (hg:∀b,Inv b->test b=true->∃b',g (G b)=.nx (G b')/\Inv b'/\meas b'<meas b) :
  ∀(N:Nat) (b:β),Inv b->meas b<N->∃b',rn c g N (G b)=.nx (G b')/\Inv b'/\test b'=false
 | 0,b,_,h=>by omega
 | N+1,b,hi,hm=>by
  rw [rn,hc b hi]
  cases ht:test b with
  | false=>exact ⟨b,rfl,hi,ht⟩
  | true=>
   obtain ⟨b1,h1,h2,h3⟩:=hg b hi ht;obtain ⟨b',e,q⟩:=Er hc hg N b1 h2 (by omega)
   refine ⟨b',?_,q⟩
   simp only [h1]
   exact e
theorem zZ {fa:F1} {p:PV} {ds:List D} (ho:Γ[i]?=some (some ⟨.lst .leaf,.list ds⟩)) (h:fa Γ=.ok p Γ) (hc:coer .leaf p=true) (hn:ds.length<=9000):gr i fa Γ=.nx (Γ.set i (some ⟨.lst .leaf,.list (ds++[p.d])⟩)):=by
 have hb:(10000:Nat)<=sizeLine:=by decide
 unfold gr Ak;rw [ho];simp only [if_true,u2,h]
 unfold wd;rw [ho];have:ds.length<sizeLine:=by omega
 simp only [hc,decide_eq_true this,Bool.and_self,if_true]
end
theorem Ec {α:Type} {en:α->D} {i:Nat} {fc:FB} {fe:F1} {s:Sh} {c:α->Bool} {f:α->PV} {Γ:Ev} (hΓ:Γ.set i none=Γ):∀(r:List α) (acc:List D),(∀x∈r,fc (Γ.set i (some ⟨.leaf,en x⟩))=.ok (c x) (Γ.set i (some ⟨.leaf,en x⟩))) ->
  (∀x∈r,c x=true->fe (Γ.set i (some ⟨.leaf,en x⟩))=.ok (f x) (Γ.set i (some ⟨.leaf,en x⟩))/\coer s (f x)=true)->acc.length+r.length<=sizeLine->ph i fc fe s (r.map en) Γ acc=.ok (acc++((r.filter c).map fun x=>(f x).d)) Γ
 | [],acc,_,_,_=>by simp [ph]
 | x::r,acc,hc,he,hl=>by
  have h1:=hc x mem_cons_self
  have hl1:acc.length<sizeLine:=by simp only [length_cons] at hl;omega
  have back:(Γ.set i (some ⟨.leaf,en x⟩)).set i none=Γ:=by rw [set_set];exact hΓ
  rw [map_cons,ph,h1]
  cases hcd:c x with
  | false=>
   dsimp only;rw [if_pos hl1,back,Ec hΓ r acc (fun d hd=>hc d (mem_cons_of_mem _ hd)) (fun d hd=>he d (mem_cons_of_mem _ hd)) (by simp only [length_cons] at hl;omega)]
   rw [List.filter_cons_of_neg (by rw [hcd];exact Bool.false_ne_true)]
  | true=>
   obtain ⟨h2,h3⟩:=he x mem_cons_self hcd;dsimp only;rw [h2];dsimp only;rw [h3,decide_eq_true hl1,Bool.and_self,if_pos rfl,back,Ec hΓ r (acc++[(f x).d]) (fun d hd=>hc d (mem_cons_of_mem _ hd)) (fun d hd=>he d (mem_cons_of_mem _ hd)) (by simp only [length_cons,length_append,List.length_nil] at hl ⊢;omega)]
   rw [List.filter_cons_of_pos hcd,map_cons,append_assoc];rfl
theorem qR {α:Type} (en:α->D) (xs:List α) (c:α->Bool) (f:α->PV) {s:Sh} {i:Nat} {fi:FI} {fc:FB} {fe:F1} {st:Bool} {Γ:Ev} (hi:fi Γ=.ok ⟨xs.map en,st⟩ Γ) (hl:i<Γ.length) (hs:s.isView=false) (hn:xs.length<=10000)
  (hc:∀x∈xs,fc (Γ.set i (some ⟨.leaf,en x⟩))=.ok (c x) (Γ.set i (some ⟨.leaf,en x⟩))) (he:∀x∈xs,c x=true->fe (Γ.set i (some ⟨.leaf,en x⟩))=.ok (f x) (Γ.set i (some ⟨.leaf,en x⟩))/\coer s (f x)=true) :
  av s i fi fc fe Γ=.ok ⟨.lst s,.list ((xs.filter c).map fun x=>(f x).d)⟩ Γ:=by
 have hb:(10000:Nat)<=sizeLine:=by decide
 unfold av;rw [hi];unfold Out.bind;dsimp only;rw [Ec (c:=c) (f:=f) (by rw [set_set]) xs [] (fun d hd=>by rw [set_set];exact hc d hd) (fun d hd=>by rw [set_set];exact he d hd) (by simp;omega)]
 dsimp only;rw [hs,decide_eq_true hl];simp only [Bool.not_false,Bool.and_self,if_true,nil_append,set_set]
 have:Γ.set i (Γ.getD i none)=Γ:=by
  apply wK
  rw [getD_eq_getElem?_getD,getElem?_eq_getElem hl];rfl
 rw [this]
theorem h9 {α:Type} (en:α->D) (xs:List α) (f:α->PV) {s:Sh} {i:Nat} {fi:FI} {fe:F1} {st:Bool} {Γ:Ev} (hi:fi Γ=.ok ⟨xs.map en,st⟩ Γ) (hl:i<Γ.length) (hs:s.isView=false) (hn:xs.length<=10000)
  (he:∀x∈xs,fe (Γ.set i (some ⟨.leaf,en x⟩))=.ok (f x) (Γ.set i (some ⟨.leaf,en x⟩))/\coer s (f x)=true):av s i fi aE fe Γ=.ok ⟨.lst s,.list (xs.map fun x=>(f x).d)⟩ Γ:=by
 rw [qR (fc:=aE) en xs (fun _=>true) f hi hl hs hn (fun _ _=>rfl) fun x hx _=>he x hx,List.filter_eq_self.mpr fun _ _=>rfl]
theorem CK {α β:Type} (en:α->D) (step:β->α->β) {Inv:β->List α->Prop} {i:Nat} {body:FS} {G:β->Option PV->Ev} (hi:∀b x,i<(G b x).length) (hset:∀b x y,(G b x).set i y=G b y)
  (hb:∀b a r,Inv b (a::r)->body (G b (some ⟨.leaf,en a⟩))=.nx (G (step b a) (some ⟨.leaf,en a⟩))/\Inv (step b a) r):∀(xs:List α) (b:β) (x:Option PV),Inv b xs->∃y,cv i body (xs.map en) (G b x)=.nx (G (xs.foldl step b) y)/\Inv (xs.foldl step b) []
 | [],b,x,h=>⟨x,rfl,h⟩
 | a::r,b,x,h=>by
  obtain ⟨h1,h2⟩:=hb b a r h;obtain ⟨y,e,h3⟩:=CK en step hi hset hb r (step b a) (some ⟨.leaf,en a⟩) h2
  refine ⟨y,?_,h3⟩
  rw [map_cons,cv,if_pos (hi b x),hset,h1];exact e
end T
namespace KC
open PySem PySem.Spec L2 T PySem.SeqAt
open PyProof.Rows hiding St
noncomputable abbrev rm (t:Nat):D:=.int (t:Int)
noncomputable abbrev aJ (r:List Nat):D:=.list (r.map rm)
theorem oC {n:Nat}:cI 0 n=(List.range n).map rm:=by
 unfold cI;simp
theorem t5 {t:Nat} {r:List Nat}:bV false (rm t) (aJ r)=some (.bool (r.contains t)):=by
 have h:=sY (ts:=r.map fun t:Nat=>(t:Int)) (i:=t)
 rw [map_map] at h;refine h.trans ?_
 congr 2
 rw [Bool.eq_iff_iff,contains_iff_mem,contains_iff_mem,mem_map];exact ⟨fun ⟨a,h1,h2⟩=>by rw [<-Int.ofNat_inj.mp h2];exact h1,fun h=>⟨t,h,rfl⟩⟩
theorem qa {t:Nat} {r:List Nat}:bV true (rm t) (aJ r)=some (.bool (!r.contains t)):=by
 have h:=p9 (ts:=r.map fun t:Nat=>(t:Int)) (i:=t)
 rw [map_map] at h;refine h.trans ?_
 congr 3
 rw [Bool.eq_iff_iff,contains_iff_mem,contains_iff_mem,mem_map];exact ⟨fun ⟨a,h1,h2⟩=>by rw [<-Int.ofNat_inj.mp h2];exact h1,fun h=>⟨t,h,rfl⟩⟩
structure Wd where
 n:Nat
 os:List D
 m:List (List Str)
 s:List (List Nat)
noncomputable def wW (r:List Str):D:=.list (r.map .str)
noncomputable def Wd.enc (w:Wd):D:=cW w.os (w.m.map wW) (w.s.map aJ)
structure Wd.Ok (w:Wd):Prop where
 g:Gw (w.n:Int) w.n w.os (w.m.map wW) (w.s.map aJ)
 h1:1<=w.n
 h24:w.n<=24
 lm:w.m.length=w.n
 ls:w.s.length=w.n
 st:∀r∈w.s,r≠[]/\r.length<=30/\∀t∈r,t<w.n
 mc:∀r∈w.m,∀c∈r,PyData.strOk c=true
noncomputable def Wd.stp (w:Wd) (r:Nat):List Nat:=w.s.getD r []
noncomputable def Wd.mks (w:Wd) (r:Nat):List Str:=w.m.getD r []
theorem Wd.Ok.at2 {w:Wd} (h:w.Ok) {r:Nat} (hr:r<w.n):eR (w.s.map aJ) (r:Int)=some (aJ (w.stp r)):=by
 refine Ai ?_
 unfold Wd.stp;rw [getElem?_map,getD_eq_getElem?_getD,getElem?_eq_getElem (by rw [h.ls];exact hr)]
 rfl
theorem Wd.Ok.stp_lt {w:Wd} (h:w.Ok) {r t:Nat} (ht:t∈w.stp r):t<w.n:=by
 unfold Wd.stp at ht;rw [getD_eq_getElem?_getD] at ht
 cases e:w.s[r]? with
 | none=>rw [e] at ht;simp at ht
 | some x=>rw [e] at ht;exact (h.st x (mem_of_getElem? e)).2.2 t ht
theorem Wd.Ok.stp_ne {w:Wd} (h:w.Ok) {r:Nat} (hr:r<w.n):w.stp r≠[]:=by
 unfold Wd.stp;rw [getD_eq_getElem?_getD,getElem?_eq_getElem (by rw [h.ls];exact hr)]
 exact (h.st _ (getElem_mem _)).1
inductive Wr where
 | yes | mark | not | sn | an | sa | aa | and | or | su | au
 deriving DecidableEq
noncomputable def Wr.t:Wr->Str
 | .yes => "yes" | .mark => "mark" | .not => "not" | .sn => "some next" | .an => "all next" | .sa => "some always" | .aa => "all always" | .and => "and" | .or => "or" | .su => "some until" | .au => "all until"
theorem mJ (a b:Wr):bg (.str a.t) (.str b.t)=some (.bool (decide (a=b))):=by cases a<;>cases b<;>kernel_rfl
@[simp] theorem FZ (a:Wr):bg (.str a.t) (.str "yes")=some (.bool (decide (a=.yes))):=mJ a .yes
@[simp] theorem Dl (a:Wr):bg (.str a.t) (.str "mark")=some (.bool (decide (a=.mark))):=mJ a .mark
@[simp] theorem F7 (a:Wr):bg (.str a.t) (.str "not")=some (.bool (decide (a=.not))):=mJ a .not
@[simp] theorem F8 (a:Wr):bg (.str a.t) (.str "and")=some (.bool (decide (a=.and))):=mJ a .and
@[simp] theorem Hb (a:Wr):bg (.str a.t) (.str "or")=some (.bool (decide (a=.or))):=mJ a .or
@[simp] theorem FR (a:Wr):bV false (.str a.t) mD=some (.bool (decide (a=.su\/a=.au))):=by cases a<;>kernel_rfl
@[simp] theorem Dh (a:Wr):bV true (.str a.t) mD=some (.bool (!decide (a=.su\/a=.au))):=by cases a<;>kernel_rfl
@[simp] theorem FV (a:Wr):bV false (.str a.t) mE=some (.bool (decide (a=.sa\/a=.aa))):=by cases a<;>kernel_rfl
@[simp] theorem Di (a:Wr):bV true (.str a.t) mE=some (.bool (!decide (a=.sa\/a=.aa))):=by cases a<;>kernel_rfl
noncomputable def Wr.some (a:Wr):Bool:=decide (a=.sn\/a=.su\/a=.aa)
@[simp] theorem FT (a:Wr):bV false (.str a.t) iI=.some (.bool a.some):=by cases a<;>kernel_rfl
noncomputable def Wr.ar:Wr->Option Int
 | .yes=>Option.some 0 | .mark=>none | .and=>Option.some 2 | .or=>Option.some 2 | .su=>Option.some 2 | .au=>Option.some 2 | _=>Option.some 1
@[simp] theorem Dk (a:Wr):gM a.t uy=a.ar:=by cases a<;>kernel_rfl
inductive U5 where
 | not | sn | an | sa | aa
 deriving DecidableEq
inductive B4 where
 | and | or | su | au
 deriving DecidableEq
noncomputable def U5.w:U5->Wr
 | .not=>.not | .sn=>.sn | .an=>.an | .sa=>.sa | .aa=>.aa
noncomputable def B4.w:B4->Wr
 | .and=>.and | .or=>.or | .su=>.su | .au=>.au
inductive Sn where
 | yes | mk (c:Str) | un (k:U5) (a:Sn) | bi (k:B4) (a b:Sn)
 deriving DecidableEq
noncomputable def Sn.w:Sn->Wr
 | .yes=>.yes | .mk _=>.mark | .un k _=>k.w | .bi k _ _=>k.w
noncomputable def Sn.args:Sn->List Sn
 | .yes=>[] | .mk _=>[] | .un _ a=>[a] | .bi _ a b=>[a,b]
noncomputable def Sn.enc:Sn->D
 | .yes=>.tuple [.str Wr.yes.t] | .mk c=>.tuple [.str Wr.mark.t,.str c] | .un k a=>.tuple [.str k.w.t,a.enc] | .bi k a b=>.tuple [.str k.w.t,a.enc,b.enc]
noncomputable def Sn.size:Sn->Nat
 | .yes=>1 | .mk _=>1 | .un _ a=>a.size+1 | .bi _ a b=>a.size+b.size+1
noncomputable def Sn.dep:Sn->Nat
 | .yes=>1 | .mk _=>1 | .un _ a=>a.dep+1 | .bi _ a b=>max a.dep b.dep+1
noncomputable def vv:List Str:=["a", "b", "c", "d", "e", "f"]
noncomputable def Sn.ok:Sn->Prop
 | .yes=>True | .mk c=>c∈vv | .un _ a=>a.ok | .bi _ a b=>a.ok/\b.ok
noncomputable def Sn.psh:Sn->Sh
 | .mk _=>.tup [] | _=>.leaf
@[simp] theorem G5 (s:Sn):s.psh.isView=false:=by cases s<;>rfl
noncomputable def Hn (l:List Sn):Nat:=(l.map Sn.size).sum
noncomputable def Gc (l:List Sn):Nat:=l.foldr (fun s m=>max s.dep m) 0
structure LS where
 ls:List (List Sn)
 l:List Sn
 many:Nat
structure LI (s:Sn) (b:LS):Prop where
 tot:(b.ls.map List.length).sum+Hn b.l=s.size
 mny:b.many=(b.ls.map List.length).sum
 dep:b.ls.length+Gc b.l=s.dep
 ok:∀a∈b.l,a.ok
end KC
namespace KC
noncomputable def aU (rk:List (Option Nat)) (t:Nat):Option Nat:=rk.getD t none
noncomputable def led (any:Bool) (l:List Nat) (P:Nat->Prop):Prop:=if any then ∃t∈l,P t else ∀t∈l,P t
theorem led_t {l:List Nat} {P:Nat->Prop}:led true l P↔∃t∈l,P t:=by unfold led;simp
theorem led_f {l:List Nat} {P:Nat->Prop}:led false l P↔∀t∈l,P t:=by unfold led;simp
theorem rh {any:Bool} {l:List Nat} {P Q:Nat->Prop} (h:led any l P) (i:∀t∈l,P t->Q t):led any l Q:=by
 cases any with
 | true=>obtain ⟨t,ht,hp⟩:=led_t.mp h;exact led_t.mpr ⟨t,ht,i t ht hp⟩
 | false=>exact led_f.mpr fun t ht=>i t ht (led_f.mp h t ht)
structure RightG (n:Nat) (st:Nat->List Nat) (ch:Nat->Bool) (thr goal:List Nat) (rk:List (Option Nat)):Prop where
 len:rk.length=n
 g:∀r,r<n->r∈goal->aU rk r=some 0
 p:∀r k,r<n->r∉goal->aU rk r=some k->0<k/\r∈thr/\led (ch r) (st r) fun t=>∃j,aU rk t=some j/\j<k
 z:∀r,r<n->aU rk r=none->r∉goal/\(r∉thr\/¬led (ch r) (st r) fun t=>aU rk t≠none)
section
variable {n:Nat} {st:Nat->List Nat} {ch own:Nat->Bool} {thr goal:List Nat} {rk:List (Option Nat)}
theorem RightG.min (h:RightG n st ch thr goal rk) {S:Nat->Prop} (cl:∀r t,t∈st r->t<n) (hg:∀r,r<n->r∈goal->S r) (hs:∀r,r<n->r∈thr->led (ch r) (st r) S->S r) {r:Nat} (hr:r<n) (hk:aU rk r≠none):S r:=by
 have key:∀k r,r<n->aU rk r=some k->S r:=by
  intro k;induction k using Nat.strongRecOn with
  | ind k ih=>
   intro r hr hk;by_cases hgo:r∈goal
   ·exact hg r hr hgo
   ·obtain ⟨_,h2,h3⟩:=h.p r k hr hgo hk
    exact hs r hr h2 (rh h3 fun t ht ⟨j,hj,hlt⟩=>ih j hlt t (cl r t ht) hj)
 obtain ⟨k,hk⟩:=Option.ne_none_iff_exists'.mp hk
 exact key k r hr hk
theorem RightG.goal_ok (h:RightG n st ch thr goal rk) {r:Nat} (hr:r<n) (hg:r∈goal):aU rk r≠none:=by rw [h.g r hr hg];simp
theorem RightG.step_ok (h:RightG n st ch thr goal rk) {r:Nat} (hr:r<n) (ht:r∈thr) (hl:led (ch r) (st r) fun t=>aU rk t≠none):aU rk r≠none:=fun z=>by
 rcases (h.z r hr z).2 with q | q
 ·exact q ht
 ·exact q hl
theorem RightG.no (h:RightG n st ch thr goal rk) {r:Nat} (hr:r<n) (ht:r∈thr) (hz:aU rk r=none):led (!ch r) (st r) fun t=>aU rk t=none:=by
 rcases (h.z r hr hz).2 with q | q
 ·exact absurd ht q
 ·cases hc:ch r with
  | true=>
   rw [hc,led_t] at q;refine led_f.mpr fun t ht=>?_
   cases e:aU rk t with
   | none=>rfl
   | some k=>exact absurd ⟨t,ht,by rw [e];simp⟩ q
  | false=>
   rw [hc,led_f] at q;refine led_t.mpr ?_
   exact Classical.byContradiction fun c=>q fun t ht e=>c ⟨t,ht,e⟩
end
noncomputable def inn (st:Nat->List Nat) (L:List Nat) (r:Nat):List Nat:=(st r).filter fun t=>L.contains t
theorem mem_inn {st:Nat->List Nat} {L:List Nat} {r t:Nat}:t∈inn st L r↔t∈st r/\t∈L:=by unfold inn;simp
structure Suff (n:Nat) (st:Nat->List Nat) (own:Nat->Bool) (T X:Nat->Prop):Prop where
 lt:∀r,X r->r<n
 c:∀r,X r->led (own r) (st r) X
 a:∀S:Nat->Prop,(∀r,X r->T r->S r)->(∀r,X r->led (own r) (st r) (fun t=>X t/\S t)->S r)->∀r,X r->S r
section
variable {n:Nat} {st:Nat->List Nat} {own:Nat->Bool} {T T' X:Nat->Prop} {L G lost:List Nat} {rk rk2:List (Option Nat)}
theorem Suff.ranked (h:Suff n st own T X) (hX:∀r,X r->r∈L) (hG:∀r,r∈L->T r->r∈G) (R:RightG n (inn st L) own L G rk) {r:Nat} (hr:X r):aU rk r≠none:=by
 refine h.a (fun r=>aU rk r≠none) (fun r hx ht=>R.goal_ok (h.lt r hx) (hG r (hX r hx) ht)) (fun r hx hl=>?_) r hr
 refine R.step_ok (h.lt r hx) (hX r hx) ?_
 cases ho:own r with
 | true=>
  rw [ho] at hl;obtain ⟨t,ht,hxt,hk⟩:=led_t.mp hl;exact led_t.mpr ⟨t,mem_inn.mpr ⟨ht,hX t hxt⟩,hk⟩
 | false=>
  rw [ho] at hl;exact led_f.mpr fun t ht=>(led_f.mp hl t (mem_inn.mp ht).1).2
theorem Suff.stays (h:Suff n st own T X) (cl:∀r t,t∈st r->t<n) (hX:∀r,X r->r∈L) (hl:∀r,X r->r∉lost) (R:RightG n (inn st L) (fun r=>!own r) L lost rk2) {r:Nat} (hr:X r):aU rk2 r=none:=by
 cases e:aU rk2 r with
 | none=>rfl
 | some k=>
  exfalso
  refine R.min (S:=fun r=>¬X r) (fun r t ht=>cl r t (mem_inn.mp ht).1) (fun r _ hg hx=>hl r hx hg) (fun r hr' ht hl' hx=>?_) (h.lt r hr) (by rw [e];simp) hr
  have hc:=h.c r hx
  cases ho:own r with
  | true=>
   rw [ho] at hl' hc
   obtain ⟨t,ht,hxt⟩:=led_t.mp hc;exact led_f.mp hl' t (mem_inn.mpr ⟨ht,hX t hxt⟩) hxt
  | false=>
   rw [ho] at hl' hc
   obtain ⟨t,ht,hxt⟩:=led_t.mp hl'
   exact hxt (led_f.mp hc t (mem_inn.mp ht).1)
theorem uD (cl:∀r t,t∈st r->t<n) (hL:∀r∈L,r<n) (hc:∀r∈L,led (own r) (st r) (·∈L)) (hG:∀r,r∈G↔r∈L/\T r) (R:RightG n (inn st L) own L G rk) (hr:∀r∈L,aU rk r≠none):Suff n st own T (·∈L):=by
 refine ⟨hL,hc,fun S h1 h2 r hx=>?_⟩
 refine R.min (S:=S) (fun r t ht=>cl r t (mem_inn.mp ht).1) (fun r _ hg=>h1 r ((hG r).mp hg).1 ((hG r).mp hg).2) (fun r hr' ht hl=>h2 r ht ?_) (hL r hx) (hr r hx)
 have hc:=hc r ht
 cases ho:own r with
 | true=>
  rw [ho] at hl;obtain ⟨t,ht,hs⟩:=led_t.mp hl;exact led_t.mpr ⟨t,(mem_inn.mp ht).1,(mem_inn.mp ht).2,hs⟩
 | false=>
  rw [ho] at hl hc
  exact led_f.mpr fun t ht=>⟨led_f.mp hc t ht,led_f.mp hl t (mem_inn.mpr ⟨ht,led_f.mp hc t ht⟩)⟩
theorem sS (hL:∀r∈L,r<n) (hc:∀r∈L,led (own r) (st r) (·∈L)) (R:RightG n (inn st L) (fun r=>!own r) L lost rk2) {r:Nat} (hr:r∈L) (hz:aU rk2 r=none):led (own r) (st r) fun t=>t∈L/\aU rk2 t=none:=by
 have h:=R.no (hL r hr) hr hz
 have hc:=hc r hr
 cases ho:own r with
 | true=>
  simp only [ho,Bool.not_true,Bool.not_false] at h
  obtain ⟨t,ht,e⟩:=led_t.mp h;exact led_t.mpr ⟨t,(mem_inn.mp ht).1,(mem_inn.mp ht).2,e⟩
 | false=>
  simp only [ho,Bool.not_true,Bool.not_false] at h
  rw [ho] at hc;exact led_f.mpr fun t ht=>⟨led_f.mp hc t ht,led_f.mp h t (mem_inn.mpr ⟨ht,led_f.mp hc t ht⟩)⟩
end
structure Fr {α:Type} (n:Nat) (st:Nat->List Nat) (R:Nat->Prop) (M:List α) (mk:α->Nat->Prop) (X:Nat->Prop):Prop where
 lt:∀r,X r->r<n
 sub:∀r,X r->R r
 c:∀r,X r->∃t∈st r,X t
 a:∀m∈M,∀S:Nat->Prop,(∀r,X r->mk m r->S r)->(∀r,X r->(∃t∈st r,X t/\S t)->S r)->∀r,X r->S r
noncomputable def Std (n:Nat) (L:List Nat):Prop:=∃q:Nat->Bool,L=(List.range n).filter q
theorem Std.lt {n:Nat} {L:List Nat} (h:Std n L):∀r∈L,r<n:=by
 obtain ⟨q,rfl⟩:=h;intro r hr;exact List.mem_range.mp (List.mem_filter.mp hr).1
theorem Std.len {n:Nat} {L:List Nat} (h:Std n L):L.length<=n:=by
 obtain ⟨q,rfl⟩:=h;exact Nat.le_trans (length_filter_le _ _) (by simp)
theorem Std.filter {n:Nat} {L:List Nat} (h:Std n L) (p:Nat->Bool):Std n (L.filter p):=by
 obtain ⟨q,rfl⟩:=h;exact ⟨fun t=>p t&&q t,List.filter_filter ..⟩
theorem Std.range {n:Nat}:Std n (List.range n):=⟨fun _=>true,(List.filter_eq_self.mpr fun _ _=>rfl).symm⟩
theorem Std.of {n:Nat} (q:Nat->Bool):Std n ((List.range n).filter q):=⟨q,rfl⟩
open PySem PySem.Spec L2 T PySem.SeqAt
open PyProof.Rows hiding St
noncomputable def oD:Option Nat->D
 | none=>.none
 | some k=>.int (k:Int)
@[simp] theorem Dg (o:Option Nat):oj (oD o)=o.isNone:=by cases o<;>rfl
@[simp] theorem Df (o:Option Nat):bz (oD o)=true:=by cases o<;>rfl
noncomputable abbrev aR (rk:List (Option Nat)):D:=.list (rk.map oD)
theorem iW {rk:List (Option Nat)} {t:Nat} (h:t<rk.length):eR (rk.map oD) (t:Int)=some (oD (aU rk t)):=by
 refine Ai ?_
 unfold aU;rw [getElem?_map,getD_eq_getElem?_getD,getElem?_eq_getElem h];rfl
noncomputable def kI (any:Bool) (bs:List Bool):Bool:=if any then bs.any id else bs.all id
theorem vM {bs:List Bool}:cE true [.list (bs.map .bool)]=some (.bool (bs.any id)):=by
 have h:=DS (any:=true) (xs:=bs) (f:=id)
 show Option.map _ (qZ _)=_
 rw [show (bs.map PyData.bool)=bs.map fun x=>PyData.bool (id x) from rfl,h]
 simp
theorem xV {bs:List Bool}:cE false [.list (bs.map .bool)]=some (.bool (bs.all id)):=by
 have h:=DS (any:=true) (xs:=bs) (f:=id)
 show Option.map _ (qZ _)=_
 rw [show (bs.map PyData.bool)=bs.map fun x=>PyData.bool (id x) from rfl,h]
 simp
theorem vT {c:Bool} {bs:List Bool}:dm [.bool c,.list (bs.map .bool)]=.ok ⟨.leaf,.bool (kI c bs)⟩:=by
 unfold kI
 cases c<;>simp [dm,aL,mQ,bw,vM,xV]
structure Wd.Ok0 (w:Wd):Prop where
 lo:w.os.length=w.n
 h24:w.n<=24
 ls:w.s.length=w.n
 st:∀r∈w.s,r.length<=30/\∀t∈r,t<w.n
theorem Wd.Ok.z {w:Wd} (h:w.Ok):w.Ok0:=⟨h.g.lo,h.h24,h.ls,fun r hr=>(h.st r hr).2⟩
theorem Wd.Ok0.at2 {w:Wd} (h:w.Ok0) {r:Nat} (hr:r<w.n):eR (w.s.map aJ) (r:Int)=some (aJ (w.stp r)):=by
 refine Ai ?_
 unfold Wd.stp;rw [getElem?_map,getD_eq_getElem?_getD,getElem?_eq_getElem (by rw [h.ls];exact hr)]
 rfl
theorem Wd.Ok0.stp_lt {w:Wd} (h:w.Ok0) {r t:Nat} (ht:t∈w.stp r):t<w.n:=by
 unfold Wd.stp at ht;rw [getD_eq_getElem?_getD] at ht
 cases e:w.s[r]? with
 | none=>rw [e] at ht;simp at ht
 | some x=>rw [e] at ht;exact (h.st x (mem_of_getElem? e)).2 t ht
theorem Wd.Ok0.len {w:Wd} (h:w.Ok0) {r:Nat}:(w.stp r).length<=10000:=by
 unfold Wd.stp;rw [getD_eq_getElem?_getD]
 cases e:w.s[r]? with
 | none=>simp
 | some x=>
  have:=(h.st x (mem_of_getElem? e)).1
  simp only [Option.getD_some]
  omega
noncomputable abbrev mZ (cl:List Bool):D:=.list (cl.map .bool)
noncomputable def hZ (cl:List Bool) (r:Nat):Bool:=cl.getD r false
theorem Ci {cl:List Bool} {t:Nat} (h:t<cl.length):eR (cl.map PyData.bool) (t:Int)=some (.bool (hZ cl t)):=by
 refine Ai ?_
 unfold hZ;rw [getElem?_map,getD_eq_getElem?_getD,getElem?_eq_getElem h];rfl
noncomputable def sJ (w:Wd) (ch:Nat->Bool) (thr:List Nat) (rk:List (Option Nat)):List Nat:=thr.filter fun r=>(aU rk r).isNone&&kI (ch r) ((w.stp r).map fun t=>(aU rk t).isSome)
theorem tG {w:Wd} (h:w.Ok0) {cl:List Bool} {thr:List Nat} {rk:List (Option Nat)} (hcl:cl.length=w.n) (ht:∀r∈thr,r<w.n) (hl:rk.length=w.n) (hn:thr.length<=1000):cu [w.enc,mZ cl,aJ thr,aR rk]=.ok ⟨.lst .leaf,aJ (sJ w (hZ cl) thr rk)⟩:=by
 obtain ⟨y,e,_⟩:=CK rm (fun (b:List Nat) r=>if (aU rk r).isNone&&kI (hZ cl r) ((w.stp r).map fun t=>(aU rk t).isSome) then b++[r] else b) (Inv:=fun b r=>b.length+r.length<=1000/\∀t∈r,t<w.n) (i:=5)
  (body:=(bf (bQ (aC aj (aw (aO false) (ah (ae 3) (ae 5)) (eK .none))) (aC aZ (ai 2 dm (ab (ah (ae 1) (ae 5)) (ab (av .leaf 6 (aK (ah (ah (ae 0) (eK (.int 2))) (ae 5))) aE (aw (aO true) (ah (ae 3) (ae 6)) (eK .none))) af))))) (gr 4 (ae 5)) az))
  (G:=fun b x=>[some ⟨.leaf,w.enc⟩,some ⟨.leaf,mZ cl⟩,some ⟨.leaf,aJ thr⟩,some ⟨.leaf,aR rk⟩,some ⟨.lst .leaf,aJ b⟩,x,none])
  (fun _ _=>by simp) (fun _ _ _=>by simp) (fun b r cg hI=>by
   obtain ⟨h1,h2⟩:=hI;have hr:r<w.n:=h2 r mem_cons_self
   have a1:=iW (rk:=rk) (t:=r) (by omega)
   have a2:=h.at2 hr
   have a4:=Ci (cl:=cl) (t:=r) (by omega)
   simp only [length_cons] at h1
   have c1:av .leaf 6 (aK (ah (ah (ae 0) (eK (.int 2))) (ae 5))) aE (aw (aO true) (ah (ae 3) (ae 6)) (eK .none)) [some ⟨.leaf,w.enc⟩,some ⟨.leaf,mZ cl⟩,some ⟨.leaf,aJ thr⟩,some ⟨.leaf,aR rk⟩,some ⟨.lst .leaf,aJ b⟩,some ⟨.leaf,rm r⟩,none]
     = .ok ⟨.lst .leaf,.list ((w.stp r).map fun t=>.bool (aU rk t).isSome)⟩ [some ⟨.leaf,w.enc⟩,some ⟨.leaf,mZ cl⟩,some ⟨.leaf,aJ thr⟩,some ⟨.leaf,aR rk⟩,some ⟨.lst .leaf,aJ b⟩,some ⟨.leaf,rm r⟩,none]:=by
    refine h9 rm (w.stp r) (fun t=>⟨.leaf,.bool (aU rk t).isSome⟩) (st:=true) (by simp [Wd.enc,a2]) (by simp) rfl h.len fun t ht=>?_
    have a3:=iW (rk:=rk) (t:=t) (by rw [hl];exact h.stp_lt ht)
    simp [a3]
   have dl:=vT (c:=hZ cl r) (bs:=(w.stp r).map fun t=>(aU rk t).isSome)
   rw [map_map] at dl;have dl:dm [.bool (hZ cl r),.list ((w.stp r).map fun t=>.bool (aU rk t).isSome)]=.ok ⟨.leaf,.bool (kI (hZ cl r) ((w.stp r).map fun t=>(aU rk t).isSome))⟩:=dl
   have ap:gr 4 (ae 5) [some ⟨.leaf,w.enc⟩,some ⟨.leaf,mZ cl⟩,some ⟨.leaf,aJ thr⟩,some ⟨.leaf,aR rk⟩,some ⟨.lst .leaf,aJ b⟩,some ⟨.leaf,rm r⟩,none]=.nx [some ⟨.leaf,w.enc⟩,some ⟨.leaf,mZ cl⟩,some ⟨.leaf,aJ thr⟩,some ⟨.leaf,aR rk⟩,some ⟨.lst .leaf,.list (b.map rm++[rm r])⟩,some ⟨.leaf,rm r⟩,none]:=
    zZ rfl (aB rfl) rfl (by simp;omega)
   refine ⟨?_,?_⟩
   ·cases q1:(aU rk r).isNone with
    | false=>simp [a1,q1]
    | true=>
     cases q2:kI (hZ cl r) ((w.stp r).map fun t=>(aU rk t).isSome) with
     | false=>simp [a1,a4,q1,c1,dl,q2]
     | true=>simp [a1,a4,q1,c1,dl,q2,ap]
   ·refine ⟨?_,fun t ht=>h2 t (mem_cons_of_mem _ ht)⟩
    split
    ·rw [length_append,length_singleton];omega
    ·omega) thr [] none (by simp;exact ⟨hn,ht⟩)
 have ef:∀(l b:List Nat),l.foldl (fun (b:List Nat) r=>if (aU rk r).isNone&&kI (hZ cl r) ((w.stp r).map fun t=>(aU rk t).isSome) then b++[r] else b) b=b++sJ w (hZ cl) l rk:=by
  intro l;induction l with
  | nil=>intro b;simp [sJ]
  | cons r t ih=>
   intro b;rw [foldl_cons,ih];unfold sJ;rw [filter_cons];split<;>simp
 rw [ef,nil_append] at e;refine aW ?_
 have e2:=eZ (fi:=aK (ae 2)) (Γ:=[some ⟨.leaf,w.enc⟩,some ⟨.leaf,mZ cl⟩,some ⟨.leaf,aJ thr⟩,some ⟨.leaf,aR rk⟩,some ⟨.lst .leaf,aJ []⟩,none,none]) (cB (ds:=thr.map rm) (aB rfl) rfl) e
 have e1:ax true 4 (aP .leaf af) (bw 7 [w.enc,mZ cl,aJ thr,aR rk])=.nx [some ⟨.leaf,w.enc⟩,some ⟨.leaf,mZ cl⟩,some ⟨.leaf,aJ thr⟩,some ⟨.leaf,aR rk⟩,some ⟨.lst .leaf,aJ []⟩,none,none]:=by simp [bw]
 unfold fu;rw [oJ,e1];simp only
 rw [oJ,e2];simp
theorem led_iff {any:Bool} {l:List Nat} {b:Nat->Bool}:kI any (l.map b)=true↔led any l fun t=>b t=true:=by
 unfold kI led
 cases any<;>simp
structure Hh (w:Wd) (any:Bool) (thr goal:List Nat) (rk:List (Option Nat)):Prop where
 len:rk.length=w.n
 g:∀r,r<w.n->r∈goal->aU rk r=some 0
 p:∀r k,r<w.n->r∉goal->aU rk r=some k->0<k/\r∈thr/\led any (w.stp r) fun t=>∃j,aU rk t=some j/\j<k
 z:∀r,r<w.n->aU rk r=none->r∉goal/\(r∉thr\/¬led any (w.stp r) fun t=>aU rk t≠none)
inductive Cm (w:Wd) (any:Bool) (P Q:Nat->Prop):Nat->Prop where
 | now {r:Nat}:Q r->Cm w any P Q r
 | some {r t:Nat}:any=true->P r->t∈w.stp r->Cm w any P Q t->Cm w any P Q r
 | all {r:Nat}:any=false->P r->(∀t∈w.stp r,Cm w any P Q t)->Cm w any P Q r
noncomputable def cN (rk:List (Option Nat)) (k:Nat) (fr:List Nat):List (Option Nat):=fr.foldl (fun l r=>l.set r (some k)) rk
theorem DW {k:Nat}:∀(fr:List Nat) (rk:List (Option Nat)),(cN rk k fr).length=rk.length
 | [],_=>rfl
 | a::r,rk=>by
  show (cN (rk.set a (some k)) k r).length=_
  rw [DW,length_set]
theorem uJ {rk:List (Option Nat)} {a t:Nat} {o:Option Nat} (h:a<rk.length):aU (rk.set a o) t=if t=a then o else aU rk t:=by
 unfold aU;rw [getD_eq_getElem?_getD,getD_eq_getElem?_getD];split
 ·rename_i e;subst e;rw [getElem?_set_self h];rfl
 ·rename_i e;rw [getElem?_set_ne (fun z=>e z.symm)]
theorem oF {k t:Nat}:∀(fr:List Nat) (rk:List (Option Nat)),(∀a∈fr,a<rk.length)->aU (cN rk k fr) t=if t∈fr then some k else aU rk t
 | [],rk,_=>by simp [cN]
 | a::r,rk,h=>by
  show aU (cN (rk.set a (some k)) k r) t=_
  rw [oF r _ (fun b hb=>by rw [length_set];exact h b (mem_cons_of_mem _ hb)),uJ (h a mem_cons_self)]
  by_cases e1:t∈r
  ·simp [e1]
  ·by_cases e2:t=a
   ·simp [e2]
   ·simp [e1,e2]
noncomputable def cf (rk:List (Option Nat)):Nat:=(rk.filter Option.isNone).length
theorem qb {rk:List (Option Nat)} {a k:Nat} (h:rk[a]?=some none):cf (rk.set a (some k))+1=cf rk:=by
 induction rk generalizing a with
 | nil=>simp at h
 | cons x r ih=>
  cases a with
  | zero=>
   simp at h
   subst h;simp [cf]
  | succ a=>
   have:=ih (a:=a) (by simpa using h)
   simp only [cf,List.set_cons_succ,filter_cons] at this ⊢
   cases x with
   | none=>simp only [Option.isNone_none,if_true,length_cons];omega
   | some v=>simpa using this
theorem sL {rk:List (Option Nat)} {a k:Nat}:cf (rk.set a (some k))<=cf rk:=by
 induction rk generalizing a with
 | nil=>simp [cf]
 | cons x r ih=>
  cases a with
  | zero=>cases x<;>simp [cf]
  | succ a=>
   have:=ih (a:=a)
   simp only [cf,List.set_cons_succ,filter_cons] at this ⊢
   cases x with
   | none=>simp only [Option.isNone_none,if_true,length_cons];omega
   | some v=>simpa using this
theorem fV {k:Nat}:∀(fr:List Nat) (rk:List (Option Nat)),cf (cN rk k fr)<=cf rk
 | [],_=>Nat.le_refl _
 | a::r,rk=>Nat.le_trans (fV r (rk.set a (some k))) sL
theorem qc {k:Nat} {fr:List Nat} {rk:List (Option Nat)} (hne:fr≠[]) (h:∀a∈fr,rk[a]?=some none):cf (cN rk k fr)<cf rk:=by
 cases fr with
 | nil=>exact absurd rfl hne
 | cons a r=>
  have h1:=qb (k:=k) (h a mem_cons_self)
  have h2:=fV (k:=k) r (rk.set a (some k))
  show cf (cN (rk.set a (some k)) k r)<_
  omega
structure RS where
 rk:List (Option Nat)
 k:Nat
 fr:List Nat
 x8:Option PV
structure RI (w:Wd) (ch:Nat->Bool) (thr goal:List Nat) (b:RS):Prop where
 len:b.rk.length=w.n
 frn:∀r∈b.fr,r<w.n/\aU b.rk r=none
 frl:b.fr.length<=1000
 lt:∀r j,aU b.rk r=some j->j<b.k
 zero:b.k=0->b.fr=goal
 g:0<b.k->∀r,r∈goal->aU b.rk r=some 0
 p:∀r j,r<w.n->r∉goal->aU b.rk r=some j->0<j/\r∈thr/\led (ch r) (w.stp r) fun t=>∃i,aU b.rk t=some i/\i<j
 nx:0<b.k->b.fr=sJ w ch thr b.rk
 m1:∀r,r∈thr->aU b.rk r=none->¬led (ch r) (w.stp r) fun t=>∃i,aU b.rk t=some i/\i+1<b.k
 m2:∀r j,r∉goal->aU b.rk r=some j->¬led (ch r) (w.stp r) fun t=>∃i,aU b.rk t=some i/\i+1<j
noncomputable def Du (st:Nat->List Nat) (ch:Nat->Bool) (goal:List Nat) (rk:List (Option Nat)):Prop:=∀r j,r∉goal->aU rk r=some j->¬led (ch r) (st r) fun t=>∃i,aU rk t=some i/\i+1<j
theorem RI.right {w:Wd} {ch:Nat->Bool} {thr goal:List Nat} {b:RS} (hne:∀r∈thr,w.stp r≠[]) (I:RI w ch thr goal b) (he:b.fr=[]):RightG w.n w.stp ch thr goal b.rk:=by
 refine ⟨I.len,fun r hr hg=>?_,I.p,fun r hr hz=>?_⟩
 ·rcases Nat.eq_zero_or_pos b.k with h | h
  ·rw [<-I.zero h,he] at hg;simp at hg
  ·exact I.g h r hg
 ·rcases Nat.eq_zero_or_pos b.k with h | h
  ·have hg:goal=[]:=by rw [<-I.zero h];exact he
   refine ⟨by rw [hg];simp,?_⟩
   by_cases ht:r∈thr
   case neg=>exact .inl ht
   refine .inr fun hl=>?_
   have no:∀t,aU b.rk t=none:=fun t=>by
    cases e:aU b.rk t with
    | none=>rfl
    | some j=>have:=I.lt t j e;omega
   cases hc:ch r with
   | true=>
    rw [hc] at hl;obtain ⟨t,_,z⟩:=led_t.mp hl;exact z (no t)
   | false=>
    rw [hc] at hl;obtain ⟨t,ht'⟩:=exists_mem_of_ne_nil _ (hne r ht);exact led_f.mp hl t ht' (no t)
  ·refine ⟨fun hg=>(by rw [I.g h r hg] at hz;cases hz),?_⟩
   by_cases ht:r∈thr
   ·refine .inr fun hl=>?_
    have hx:=I.nx h
    rw [he] at hx;have:r∈sJ w ch thr b.rk:=by
     unfold sJ;refine List.mem_filter.mpr ⟨ht,?_⟩
     rw [hz];simp only [Option.isNone_none,Bool.true_and]
     exact led_iff.mpr (rh hl fun t _ z=>by cases e:aU b.rk t with | none=>exact absurd e z | some j=>rfl)
    rw [<-hx] at this;simp at this
   ·exact .inl ht
theorem RI.step {w:Wd} {ch:Nat->Bool} {thr goal:List Nat} (hne0:∀r∈thr,w.stp r≠[]) {b:RS} {y:Option PV} (hthr:∀r∈thr,r<w.n) (hl:thr.length<=1000) (I:RI w ch thr goal b) (hne:b.fr≠[]) :
  RI w ch thr goal ⟨cN b.rk b.k b.fr,b.k+1,sJ w ch thr (cN b.rk b.k b.fr),y⟩/\cf (cN b.rk b.k b.fr)<cf b.rk:=by
 have hfl:∀a∈b.fr,a<b.rk.length:=fun a ha=>by rw [I.len];exact (I.frn a ha).1
 have pt:∀t,aU (cN b.rk b.k b.fr) t=if t∈b.fr then some b.k else aU b.rk t:=fun t=>oF _ _ hfl
 refine ⟨⟨by rw [DW];exact I.len,fun r hr=>?_,?_,fun r j e=>?_,fun z=>absurd z (Nat.succ_ne_zero _),fun _ r hg=>?_,fun r j hr hg e=>?_,fun _=>rfl,fun r ht hz hl=>?_,fun r j hg e hl=>?_⟩,qc hne fun a ha=>?_⟩
 ·obtain ⟨h1,h2⟩:=List.mem_filter.mp hr
  simp only [Bool.and_eq_true,Option.isNone_iff_eq_none] at h2
  exact ⟨hthr r h1,h2.1⟩
 ·exact Nat.le_trans (length_filter_le _ _) hl
 ·rw [pt] at e
  show j<b.k+1
  split at e
  ·cases e;omega
  ·have:=I.lt r j e;omega
 ·show aU (cN b.rk b.k b.fr) r=some 0
  rw [pt];rcases Nat.eq_zero_or_pos b.k with h | h
  ·rw [I.zero h,if_pos hg,h]
  ·have:=I.g h r hg
   split
   ·rename_i z;rw [(I.frn r z).2] at this;cases this
   ·exact this
 ·have e:aU (cN b.rk b.k b.fr) r=some j:=e
  rw [pt] at e;split at e
  ·rename_i hm
   cases e;have hk:0<b.k:=by
    rcases Nat.eq_zero_or_pos b.k with h | h
    ·rw [I.zero h] at hm;exact absurd hm hg
    ·exact h
   have hx:=I.nx hk
   rw [hx] at hm;obtain ⟨h1,h2⟩:=List.mem_filter.mp hm;simp only [Bool.and_eq_true] at h2
   refine ⟨hk,h1,rh (led_iff.mp h2.2) fun t _ z=>?_⟩
   cases e:aU b.rk t with
   | none=>rw [e] at z;cases z
   | some i=>
    refine ⟨i,?_,I.lt t i e⟩
    show aU (cN b.rk b.k b.fr) t=_
    rw [pt,if_neg (fun q=>by rw [(I.frn t q).2] at e;cases e),e]
  ·obtain ⟨h1,h2,h3⟩:=I.p r j hr hg e
   refine ⟨h1,h2,rh h3 fun t _ ⟨i,hi,hlt⟩=>⟨i,?_,hlt⟩⟩
   show aU (cN b.rk b.k b.fr) t=_
   rw [pt,if_neg (fun q=>by rw [(I.frn t q).2] at hi;cases hi),hi]
 ·have hz:aU (cN b.rk b.k b.fr) r=none:=hz
  rw [pt] at hz;split at hz
  ·cases hz
  rename_i hf;have hl:led (ch r) (w.stp r) fun t=>∃i,aU (cN b.rk b.k b.fr) t=some i/\i+1<b.k+1:=hl
  have hl:led (ch r) (w.stp r) fun t=>∃i,aU b.rk t=some i/\i<b.k:=rh hl fun t _ ⟨i,hi,hlt⟩=>by
   rw [pt] at hi;split at hi
   ·cases hi;omega
   ·exact ⟨i,hi,by omega⟩
  rcases Nat.eq_zero_or_pos b.k with h | h
  ·cases hc:ch r with
   | true=>
    rw [hc] at hl;obtain ⟨t,_,i,_,z⟩:=led_t.mp hl;omega
   | false=>
    rw [hc] at hl;obtain ⟨t,ht'⟩:=exists_mem_of_ne_nil _ (hne0 r ht);obtain ⟨i,_,z⟩:=led_f.mp hl t ht'
    omega
  ·refine hf ?_
   rw [I.nx h];refine List.mem_filter.mpr ⟨ht,?_⟩
   rw [hz];simp only [Option.isNone_none,Bool.true_and]
   exact led_iff.mpr (rh hl fun t _ ⟨i,hi,_⟩=>by rw [hi];rfl)
 ·have e:aU (cN b.rk b.k b.fr) r=some j:=e
  have hl:led (ch r) (w.stp r) fun t=>∃i,aU (cN b.rk b.k b.fr) t=some i/\i+1<j:=hl
  have hj:j<=b.k:=by
   rw [pt] at e;split at e
   ·cases e;omega
   ·have:=I.lt r j e;omega
  have hl:led (ch r) (w.stp r) fun t=>∃i,aU b.rk t=some i/\i+1<j:=rh hl fun t _ ⟨i,hi,hlt⟩=>by
   rw [pt] at hi;split at hi
   ·cases hi;omega
   ·exact ⟨i,hi,hlt⟩
  rw [pt] at e;split at e
  ·rename_i hm
   cases e;have hk:0<b.k:=by
    rcases Nat.eq_zero_or_pos b.k with h | h
    ·rw [I.zero h] at hm;exact absurd hm hg
    ·exact h
   have hm':=hm
   rw [I.nx hk] at hm';exact I.m1 r (List.mem_filter.mp hm').1 (I.frn r hm).2 hl
  ·exact I.m2 r j hg e hl
 ·obtain ⟨h1,h2⟩:=I.frn a ha
  unfold aU at h2;rw [getD_eq_getElem?_getD,getElem?_eq_getElem (by rw [I.len];exact h1)] at h2
  rw [getElem?_eq_getElem (by rw [I.len];exact h1)]
  simpa using h2
noncomputable abbrev GR (w:Wd) (cl:List Bool) (thr goal:List Nat) (b:RS):Ev:=[some ⟨.leaf,w.enc⟩,some ⟨.leaf,mZ cl⟩,some ⟨.leaf,aJ thr⟩,some ⟨.leaf,aJ goal⟩,some ⟨.lst .leaf,aR b.rk⟩,some ⟨.leaf,.int (b.k:Int)⟩,some ⟨.leaf,aJ b.fr⟩,b.x8,none]
noncomputable abbrev kC:FS:=(ao (cM 7 (aK (ae 6))
  (dk 4 (ae 5) (ae 7)))
  (ao (fN 5 (eK (.int 1)))
  (ax false 6 (oi 4 cu (ab (ae 0) (ab (ae 1) (ab (ae 2) (ab (ae 4) af))))))))
theorem uI {w:Wd} (ok:w.Ok0) {cl:List Bool} {thr goal:List Nat} {b:RS} (hcl:cl.length=w.n) (hne0:∀r∈thr,w.stp r≠[]) (hthr:∀r∈thr,r<w.n) (hl:thr.length<=1000) (I:RI w (hZ cl) thr goal b) (hne:b.fr≠[]) :
  ∃b',kC (GR w cl thr goal b)=.nx (GR w cl thr goal b')/\RI w (hZ cl) thr goal b'/\cf b'.rk<cf b.rk:=by
 obtain ⟨y,e,_⟩:=CK rm (fun (l:List (Option Nat)) r=>l.set r (some b.k)) (Inv:=fun l r=>l.length=w.n/\∀t∈r,t<w.n) (i:=7) (body:=dk 4 (ae 5) (ae 7))
  (G:=fun l x=>[some ⟨.leaf,w.enc⟩,some ⟨.leaf,mZ cl⟩,some ⟨.leaf,aJ thr⟩,some ⟨.leaf,aJ goal⟩,some ⟨.lst .leaf,aR l⟩,some ⟨.leaf,.int (b.k:Int)⟩,some ⟨.leaf,aJ b.fr⟩,x,none])
  (fun _ _=>by simp) (fun _ _ _=>by simp) (fun l r cg ⟨h1,h2⟩=>by
   have hr:=h2 r mem_cons_self
   refine ⟨?_,by rw [length_set];exact h1,fun t ht=>h2 t (mem_cons_of_mem _ ht)⟩
   rw [rB (ds:=l.map oD) (j:=r) (k:=(r:Int)) rfl (aB rfl) (aB rfl) (lB (by rw [length_map,h1];exact hr)) rfl]
   simp [map_set,oD]) b.fr b.rk b.x8 ⟨I.len,fun t ht=>(I.frn t ht).1⟩
 obtain ⟨I',hm⟩:=RI.step (y:=y) hne0 hthr hl I hne
 refine ⟨⟨cN b.rk b.k b.fr,b.k+1,sJ w (hZ cl) thr (cN b.rk b.k b.fr),y⟩,?_,I',hm⟩
 have e2:=eZ (fi:=aK (ae 6)) (Γ:=GR w cl thr goal b) (cB (ds:=b.fr.map rm) (aB rfl) rfl) e
 have dn:=tG ok (cl:=cl) (thr:=thr) (rk:=cN b.rk b.k b.fr) hcl hthr (by rw [DW];exact I.len) hl
 unfold kC;rw [oJ,e2];have fr:mH ⟨.lst .leaf,aJ (sJ w (hZ cl) thr (cN b.rk b.k b.fr))⟩=true:=by
  unfold mH;simp [bz]
 have ec:∀Γ:Ev,Γ=[some ⟨.leaf,w.enc⟩,some ⟨.leaf,mZ cl⟩,some ⟨.leaf,aJ thr⟩,some ⟨.leaf,aJ goal⟩,some ⟨.lst .leaf,aR (cN b.rk b.k b.fr)⟩,some ⟨.leaf,.int ((b.k:Int)+1)⟩,some ⟨.leaf,aJ b.fr⟩,y,none] ->
   oi 4 cu (ab (ae 0) (ab (ae 1) (ab (ae 2) (ab (ae 4) af)))) Γ=.ok ⟨.lst .leaf,aJ (sJ w (hZ cl) thr (cN b.rk b.k b.fr))⟩ Γ:=fun Γ hΓ=>by
  subst hΓ;unfold oi;simp [dn,fr]
 have pu:b.fr.foldl (fun l r=>l.set r (some b.k)) b.rk=cN b.rk b.k b.fr:=rfl
 rw [pu];simp [ec _ rfl]
theorem ED {w:Wd} (ok:w.Ok0) {cl:List Bool} {thr goal:List Nat} (hcl:cl.length=w.n) (hne0:∀r∈thr,w.stp r≠[]) (hthr:∀r∈thr,r<w.n) (hl:thr.length<=1000) (hgoal:∀r∈goal,r<w.n) (hgl:goal.length<=1000) :
  ∃rk,bW [w.enc,mZ cl,aJ thr,aJ goal]=.ok ⟨.lst .leaf,aR rk⟩/\RightG w.n w.stp (hZ cl) thr goal rk/\Du w.stp (hZ cl) goal rk:=by
 have lo:=ok.lo
 have h24:=ok.h24
 have i0:RI w (hZ cl) thr goal ⟨w.os.map fun _=>none,0,goal,none⟩:=by
  have z:∀r,aU (w.os.map fun _=>none) r=none:=fun r=>by
   unfold aU;rw [getD_eq_getElem?_getD,getElem?_map]
   cases w.os[r]?<;>rfl
  refine ⟨by simp [lo],fun r hr=>⟨hgoal r hr,z r⟩,hgl,fun r j e=>(by rw [z] at e;cases e),fun _=>rfl,fun h=>absurd h (by simp),fun r j _ _ e=>(by rw [z] at e;cases e),fun h=>absurd h (by simp),fun r ht _ hl=>?_,fun r j _ e=>(by rw [z] at e;cases e)⟩
  have hl:led (hZ cl r) (w.stp r) fun t=>∃i,aU (w.os.map fun _=>none) t=some i/\i+1<0:=hl
  cases hc:hZ cl r with
  | true=>
   rw [hc] at hl;obtain ⟨t,_,i,_,z⟩:=led_t.mp hl;omega
  | false=>
   rw [hc] at hl;obtain ⟨t,ht'⟩:=exists_mem_of_ne_nil _ (hne0 r ht);obtain ⟨i,_,z⟩:=led_f.mp hl t ht'
   omega
 obtain ⟨b',e,I,hf⟩:=Er (c:=aC aZ (ae 6)) (g:=kC) (G:=GR w cl thr goal) (test:=fun b=>!b.fr.isEmpty) (Inv:=RI w (hZ cl) thr goal) (meas:=fun b=>cf b.rk) (fun b I=>by simp) (fun b I hb=>uI ok hcl hne0 hthr hl I (by intro z;rw [z] at hb;simp at hb)) 1000 _ i0 (by
  have:cf (w.os.map fun _=>none)<=w.os.length:=by unfold cf;exact Nat.le_trans (length_filter_le _ _) (by simp)
  show cf (w.os.map fun _=>none)<1000
  omega)
 refine ⟨b'.rk,?_,I.right hne0 (by simpa using hf),I.m2⟩
 refine aW ?_
 have co:∀Γ:Ev,Γ.length=9->Γ[0]?=some (some ⟨.leaf,w.enc⟩)->av .leaf 8 (aK (ah (ae 0) (eK (.int 0)))) aE (eK .none) Γ=.ok ⟨.lst .leaf,.list (w.os.map fun _=>.none)⟩ Γ:=fun Γ h1 h2=>by
  have:=h9 (fun d:D=>d) w.os (fun _=>⟨.leaf,.none⟩) (s:=.leaf) (i:=8) (fi:=aK (ah (ae 0) (eK (.int 0)))) (fe:=eK .none) (st:=true) (Γ:=Γ) (by simp [h2,Wd.enc]) (by omega) rfl (by omega) (fun x hx=>by simp)
  simpa using this
 have e:rn (aC aZ (ae 6)) kC 1000 [some ⟨.leaf,w.enc⟩,some ⟨.leaf,mZ cl⟩,some ⟨.leaf,aJ thr⟩,some ⟨.leaf,aJ goal⟩,some ⟨.lst .leaf,.list (w.os.map fun _=>.none)⟩,some ⟨.leaf,.int 0⟩,some ⟨.leaf,aJ goal⟩,none,none]=.nx (GR w cl thr goal b'):=by
  have q:aR (w.os.map fun _=>none)=.list (w.os.map fun _=>.none):=by
   unfold aR;rw [map_map];rfl
  rw [<-q];exact e
 unfold iQ;rw [oJ,Bz,co _ rfl rfl];simp [bw]
 unfold wF;rw [e];simp
theorem EN {Γ Γ1:Ev} {fl:FL} {ps:List PV} {k:Int} (hl:fl Γ=.ok ps Γ1) (hp:ps.map (·.d)=[.int k]) (h0:0<=k) (h1:k<=1000):ue fl Γ=.ok ⟨.lst .leaf,.list (cI 0 k.toNat)⟩ Γ1:=by
 have h3:dt k=true:=zx (by omega) (by omega)
 have hb:=As
 have h4:k<=(sizeLine:Int):=by omega
 unfold ue;rw [hl];simp only [Out.bind,hp,jf,h3,if_true,h4]
theorem Cr {w:Wd} (ok:w.Ok) {Γ:Ev} (h0:Γ[0]?=some (some ⟨.leaf,w.enc⟩)):ue (ab (aY aM (ab (ah (ae 0) (eK (.int 0))) af)) af) Γ=.ok ⟨.lst .leaf,aJ (List.range w.n)⟩ Γ:=by
 have lo:=ok.g.lo
 have h24:=ok.h24
 rw [EN (Γ1:=Γ) (ps:=[⟨.leaf,.int w.n⟩]) (k:=(w.n:Int)) (by simp [h0,Wd.enc,lo]) rfl (by omega) (by omega),Int.toNat_natCast,oC]
theorem Wd.Ok.check {w:Wd} (ok:w.Ok):cR [w.enc]=.ok ⟨.leaf,.none⟩:=qy (ok.g.wk (b:=24) ok.h24) (by omega) (ok.g.isW ok.h1 ok.h24)
end KC
namespace T
open PySem PySem.Spec L2
open PyProof.Rows hiding St
theorem j8 {α:Type} (en:α->D) {i:Nat} {body:FS} {Inv:List α->Ev->Prop} (hb:∀a r Γ,Inv (a::r) Γ->i<Γ.length/\∃Γ',body (Γ.set i (some ⟨.leaf,en a⟩))=.nx Γ'/\Inv r Γ'):∀(xs:List α) (Γ:Ev),Inv xs Γ->∃Γ',cv i body (xs.map en) Γ=.nx Γ'/\Inv [] Γ'
 | [],Γ,h=>⟨Γ,rfl,h⟩
 | a::r,Γ,h=>by
  obtain ⟨hi,Γ1,h1,h2⟩:=hb a r Γ h;obtain ⟨Γ2,e,h3⟩:=j8 en hb r Γ1 h2;refine ⟨Γ2,?_,h3⟩
  rw [map_cons,cv,if_pos hi,h1];exact e
end T
namespace KC
open PySem PySem.Spec L2 T PySem.SeqAt
open PyProof.Rows hiding St
theorem Bf {n:Nat} {os ms ss:List D} (g:Gw (n:Int) n os ms ss) (h1:1<=n) (h24:n<=24):∃w:Wd,w.Ok/\w.enc=cW os ms ss/\w.n=n:=by
 have hm:∀l:List D,(∀r∈l,∃xs,r=.list xs/\m5 xs)->∃M:List (List Str),l=M.map wW/\∀r∈M,∀c∈r,PyData.strOk c=true:=by
  have one:∀xs:List D,m5 xs->∃r:List Str,xs=r.map .str/\∀c∈r,PyData.strOk c=true:=by
   intro xs;induction xs with
   | nil=>intro _;exact ⟨[],rfl,by simp⟩
   | cons a r ih=>
    intro h;obtain ⟨x,rfl,hx⟩:=h a mem_cons_self;obtain ⟨t,rfl,ht⟩:=ih fun b hb=>h b (mem_cons_of_mem _ hb)
    exact ⟨x::t,rfl,fun c hc=>(List.mem_cons.mp hc).elim (fun e=>by rw [e];exact hx) (ht c)⟩
  intro l;induction l with
  | nil=>intro _;exact ⟨[],rfl,by simp⟩
  | cons a r ih=>
   intro h;obtain ⟨xs,rfl,hx⟩:=h a mem_cons_self;obtain ⟨x,rfl,hx2⟩:=one xs hx;obtain ⟨M,rfl,hM⟩:=ih fun b hb=>h b (mem_cons_of_mem _ hb)
   exact ⟨x::M,rfl,fun c hc=>(List.mem_cons.mp hc).elim (fun e=>by rw [e];exact hx2) (hM c)⟩
 have hs:∀l:List D,(∀r∈l,∃ts:List Int,r=.list (ts.map .int)/\ts.length<=30/\ts≠[]/\(∀t∈ts,0<=t/\t<(n:Int))/\ts.Pairwise (· < ·))->∃S:List (List Nat),l=S.map aJ/\∀r∈S,r≠[]/\r.length<=30/\∀t∈r,t<n:=by
  have one:∀ts:List Int,(∀t∈ts,0<=t/\t<(n:Int))->∃r:List Nat,ts.map PyData.int=r.map rm/\r.length=ts.length/\∀t∈r,t<n:=by
   intro ts;induction ts with
   | nil=>intro _;exact ⟨[],rfl,rfl,by simp⟩
   | cons a r ih=>
    intro h;have ha:=h a mem_cons_self
    obtain ⟨t,e,el,ht⟩:=ih fun b hb=>h b (mem_cons_of_mem _ hb)
    refine ⟨a.toNat::t,?_,by simp [el],fun c hc=>(List.mem_cons.mp hc).elim (fun e=>by omega) (ht c)⟩
    rw [map_cons,map_cons,e];congr 2
    omega
  intro l;induction l with
  | nil=>intro _;exact ⟨[],rfl,by simp⟩
  | cons a r ih=>
   intro h;obtain ⟨ts,rfl,t1,t2,t3,_⟩:=h a mem_cons_self;obtain ⟨x,e,el,hx⟩:=one ts t3;obtain ⟨S,rfl,hS⟩:=ih fun b hb=>h b (mem_cons_of_mem _ hb)
   refine ⟨x::S,by rw [map_cons,e],fun c hc=>(List.mem_cons.mp hc).elim (fun e=>by
    subst e;exact ⟨fun z=>t2 (List.length_eq_zero_iff.mp (by rw [<-el,z];rfl)),by omega,hx⟩) (hS c)⟩
 obtain ⟨M,eM,hM⟩:=hm ms fun r hr=>let ⟨xs,a,b,_⟩:=g.m r hr;⟨xs,a,b⟩
 obtain ⟨S,eS,hS⟩:=hs ss g.s;subst eM eS;refine ⟨⟨n,os,M,S⟩,⟨g,h1,h24,?_,?_,hS,hM⟩,rfl,rfl⟩
 ·have:=g.lm;simpa using this
 ·have:=g.ls;simpa using this
@[simp] theorem FU (a:Wr):bV false (.str a.t) (.tuple [.str "and",.str "or",.str "some until",.str "all until"])=some (.bool (decide (a=.and\/a=.or\/a=.su\/a=.au))):=by cases a<;>kernel_rfl
structure Mad (made:List Sn):Prop where
 ne:0<made.length
 ok:∀s∈made,s.ok
 dp:∀s∈made,s.dep<=made.length
theorem intsOf_map (l:List Int):wx (l.map .int)=some l:=by
 induction l with
 | nil=>rfl
 | cons a r ih=>rw [map_cons,wx,ih];rfl
end KC
namespace KQ
open PySem PySem.Spec L2 T PySem.SeqAt KC
open PyProof.Rows hiding St
noncomputable def d__law_world:FS:=(ao (ax false 3 (aw bc (eK (.int 1)) (aw cj (ai 2 aF (ab (ae 0) (ab (ae 1) af))) (ae 2))))
  (ao (ax true 4 (aP .leaf af))
  (ao (ax true 5 (aP .leaf af))
  (ao (ax true 6 (aP .leaf af))
  (ao (cM 7 (cx (ab (ae 3) af))
  (ao (ax false 8 (ai 2 aF (ab (ae 0) (ab (aw bc (aw bc (ae 1) (eK (.int 1))) (ae 7)) af))))
  (ao (gr 4 (ai 3 ak (ab (ae 8) (ab (eK (.int 0)) (ab (eK (.int 2)) af)))))
  (ao (gr 5 (av .leaf 11 (iM "abc") (aC aj (aw bg (ai 3 ak (ab (ae 8) (ab (aw bc (eK (.int 1)) (aY (gc "abc") (ab (ae 11) af))) (ab (eK (.int 2)) af)))) (eK (.int 1)))) (ae 11)))
  (ao (ax false 9 (av .leaf 10 (cx (ab (ae 3) af)) (aC aj (aw bg (ai 3 ak (ab (ae 8) (ab (aw bc (eK (.int 4)) (ae 10)) (ab (aw bc (eK (.int 2)) (aY nM (ab (aw eF (ae 3) (eK (.int 3))) af))) af)))) (eK (.int 1)))) (ae 10)))
  (ao (bf (aC aj (aw bg (ae 9) (aP .leaf af))) (ax false 9 (aP .leaf (ab (ai 3 ak (ab (ae 8) (ab (aw bc (eK (.int 4)) (ae 3)) (ab (ae 3) af)))) af))) az)
  (gr 6 (ae 9))))))))
  (aG (bF (ab (bB 4) (ab (bB 5) (ab (bB 6) af))))))))))
noncomputable def m__law_world:List PySem.PyData->bD:=aL 12 d__law_world
noncomputable abbrev eW:FS:=(ao (ax false 8 (ai 2 aF (ab (ae 0) (ab (aw bc (aw bc (ae 1) (eK (.int 1))) (ae 7)) af))))
  (ao (gr 4 (ai 3 ak (ab (ae 8) (ab (eK (.int 0)) (ab (eK (.int 2)) af)))))
  (ao (gr 5 (av .leaf 11 (iM "abc") (aC aj (aw bg (ai 3 ak (ab (ae 8) (ab (aw bc (eK (.int 1)) (aY (gc "abc") (ab (ae 11) af))) (ab (eK (.int 2)) af)))) (eK (.int 1)))) (ae 11)))
  (ao (ax false 9 (av .leaf 10 (cx (ab (ae 3) af)) (aC aj (aw bg (ai 3 ak (ab (ae 8) (ab (aw bc (eK (.int 4)) (ae 10)) (ab (aw bc (eK (.int 2)) (aY nM (ab (aw eF (ae 3) (eK (.int 3))) af))) af)))) (eK (.int 1)))) (ae 10)))
  (ao (bf (aC aj (aw bg (ae 9) (aP .leaf af))) (ax false 9 (aP .leaf (ab (ai 3 ak (ab (ae 8) (ab (aw bc (eK (.int 4)) (ae 3)) (ab (ae 3) af)))) af))) az)
  (gr 6 (ae 9)))))))
noncomputable def uc (k:Nat):D:=.str ⟨#[97+k]⟩
theorem tU {Γ:Ev}:iM "abc" Γ=.ok ⟨[0,1,2].map uc,true⟩ Γ:=by
 have:Cb "abc"=[0,1,2].map uc:=by kernel_rfl
 unfold iM;rw [this]
theorem sQ {k:Nat} (h:k∈[0,1,2]):k<3:=by
 simp at h
 omega
theorem zt {k:Nat} (h:k∈[0,1,2]):gc "abc" [uc k]=some (.int (k:Int)):=by
 simp at h
 rcases h with rfl | rfl | rfl<;>kernel_rfl
theorem oe {xs os ms ss:List D} {at' lim many:Int} {n:Nat} {x8 x9:Option PV} (hx:hU xs) (ha:0<=at') (hm:1<=many) (hm2:many<=24) (h:Gw many n os ms ss) (hn:n<=30) {r:Nat} :
  ∃os' ms' ss' x8' x9',eW [some ⟨.leaf,.list xs⟩,some ⟨.leaf,.int at'⟩,some ⟨.leaf,.int lim⟩,some ⟨.leaf,.int many⟩,some ⟨.lst .leaf,.list os⟩,some ⟨.lst .leaf,.list ms⟩,some ⟨.lst .leaf,.list ss⟩,some ⟨.leaf,.int (r:Nat)⟩,x8,x9,none,none]
   = .nx [some ⟨.leaf,.list xs⟩,some ⟨.leaf,.int at'⟩,some ⟨.leaf,.int lim⟩,some ⟨.leaf,.int many⟩,some ⟨.lst .leaf,.list os'⟩,some ⟨.lst .leaf,.list ms'⟩,some ⟨.lst .leaf,.list ss'⟩,some ⟨.leaf,.int (r:Nat)⟩,x8',x9',none,none]/\Gw many (n+1) os' ms' ss':=by
 obtain ⟨c,hc⟩:=AV hx (k:=at'+1+(r:Int)) (by omega)
 have lo:=h.lo
 have lm:=h.lm
 have ls:=h.ls
 have c5:∀(Γ:Ev),Γ.length=12->Γ[8]?=some (some ⟨.leaf,.int c⟩)->(av .leaf 11 (iM "abc") (aC aj (aw bg (ai 3 ak (ab (ae 8) (ab (aw bc (eK (.int 1)) (aY (gc "abc") (ab (ae 11) af))) (ab (eK (.int 2)) af)))) (eK (.int 1)))) (ae 11)) Γ
   = .ok ⟨.lst .leaf,.list (([0,1,2].filter fun k:Nat=>df c (1+(k:Int)) 2==1).map uc)⟩ Γ:=fun Γ hl h8=>by
  refine qR uc [0,1,2] (fun k:Nat=>df c (1+(k:Int)) 2==1) (fun k=>⟨.leaf,uc k⟩) (st:=true) tU (by omega) rfl (by simp) (fun k hk=>?_) fun k hk _=>?_
  ·have g11:(Γ.set 11 (some ⟨.leaf,uc k⟩))[11]?=some (some ⟨.leaf,uc k⟩):=by rw [getElem?_set_self (by omega)]
   have g8:(Γ.set 11 (some ⟨.leaf,uc k⟩))[8]?=some (some ⟨.leaf,.int c⟩):=by rw [getElem?_set_ne (by omega)];exact h8
   exact b6 (aI (cC (aH (aB g8) (aH (aI aV (bT (aH (aB g11) ay) (zt hk)) add_int') (aH aV ay))) (rg (by omega) (by have:=sQ hk;omega) (by omega) (by omega)) rfl rfl) aV eq_int)
  ·exact ⟨aB (by rw [getElem?_set_self (by omega)]),rfl⟩
 generalize hM:(([0,1,2].filter fun k:Nat=>df c (1+(k:Int)) 2==1).map uc)=M at c5
 have rM:m5 M/\M.length<=30/\AH (.list M)=true:=by
  refine ⟨?_,?_,?_⟩
  ·rw [<-hM]
   intro a ha;obtain ⟨k,hk,rfl⟩:=List.mem_map.mp ha;have:=sQ (List.mem_filter.mp hk).1
   exact ⟨_,rfl,sG (by omega)⟩
  ·rw [<-hM,length_map]
   exact Nat.le_trans (length_filter_le _ _) (by simp)
  ·rw [<-hM]
   simp only [filter_cons,List.filter_nil]
   have:=FN (df c (1+((0:Nat):Int)) 2==1) (df c (1+((1:Nat):Int)) 2==1) (df c (1+((2:Nat):Int)) 2==1)
   revert this
   cases (df c (1+((0:Nat):Int)) 2==1)<;>cases (df c (1+((1:Nat):Int)) 2==1)<;>cases (df c (1+((2:Nat):Int)) 2==1)<;>exact fun h=>h
 have c6:∀(Γ:Ev),Γ.length=12->Γ[8]?=some (some ⟨.leaf,.int c⟩)->Γ[3]?=some (some ⟨.leaf,.int many⟩)->av .leaf 10 (cx (ab (ae 3) af)) (aC aj (aw bg (ai 3 ak (ab (ae 8) (ab (aw bc (eK (.int 4)) (ae 10)) (ab (aw bc (eK (.int 2)) (aY nM (ab (aw eF (ae 3) (eK (.int 3))) af))) af)))) (eK (.int 1)))) (ae 10) Γ
   = .ok ⟨.lst .leaf,.list (((cI 0 many.toNat).filter fun d=>match d with | .int k=>df c (4+k) (2+(if decide (3<many) then 1 else 0))==1 | _=>false).map fun d=>d)⟩ Γ:=fun Γ hl h8 h3=>by
  refine iN (c:=fun d=>match d with | .int k=>df c (4+k) (2+(if decide (3<many) then 1 else 0))==1 | _=>false) (f:=fun d=>⟨.leaf,d⟩) (st:=true) (uu (k:=many) (aH (aB h3) ay) rfl (by omega) (by omega)) (by omega) rfl (by rw [CI];omega) (fun d hd=>?_) fun d hd _=>?_
  ·obtain ⟨k,hk,rfl⟩:=AR hd
   have g10:(Γ.set 10 (some ⟨.leaf,.int (0+(k:Int))⟩))[10]?=some (some ⟨.leaf,.int (0+(k:Int))⟩):=by rw [getElem?_set_self (by omega)]
   have g8:(Γ.set 10 (some ⟨.leaf,.int (0+(k:Int))⟩))[8]?=some (some ⟨.leaf,.int c⟩):=by rw [getElem?_set_ne (by omega)];exact h8
   have g3:(Γ.set 10 (some ⟨.leaf,.int (0+(k:Int))⟩))[3]?=some (some ⟨.leaf,.int many⟩):=by rw [getElem?_set_ne (by omega)];exact h3
   have b1:(1:Int)<=2+(if decide (3<many) then 1 else 0)/\(2:Int)+(if decide (3<many) then 1 else 0)<=1000:=by split<;>omega
   exact b6 (aI (cC (aH (aB g8) (aH (aI aV (aB g10) add_int') (aH (aI aV (bT (aH (aI (aB g3) aV rfl) ay) rfl) add_int') ay))) (rg (by omega) (by omega) b1.1 b1.2) rfl rfl) aV eq_int)
  ·obtain ⟨k,hk,rfl⟩:=AR hd
   exact ⟨aB (by rw [getElem?_set_self (by omega)]),rfl⟩
 obtain ⟨ts,hT,hts1,hts2,hts3⟩:=yn many.toNat (fun d=>match d with | .int k=>df c (4+k) (2+(if decide (3<many) then 1 else 0))==1 | _=>false)
 rw [hT] at c6;have fin:∀(Γ:Ev) (T:List Int),(T.length<=30/\T≠[]/\(∀t∈T,0<=t/\t<many)/\T.Pairwise (· < ·))->Γ=[some ⟨.leaf,.list xs⟩,some ⟨.leaf,.int at'⟩,some ⟨.leaf,.int lim⟩,some ⟨.leaf,.int many⟩,some ⟨.lst .leaf,.list (os++[.int (df c 0 2)])⟩,some ⟨.lst .leaf,.list (ms++[.list M])⟩,some ⟨.lst .leaf,.list ss⟩,some ⟨.leaf,.int (r:Nat)⟩,some ⟨.leaf,.int c⟩,some ⟨.leaf,.list (T.map .int)⟩,none,none] ->
   ∃os' ms' ss' x8' x9',gr 6 (ae 9) Γ=.nx [some ⟨.leaf,.list xs⟩,some ⟨.leaf,.int at'⟩,some ⟨.leaf,.int lim⟩,some ⟨.leaf,.int many⟩,some ⟨.lst .leaf,.list os'⟩,some ⟨.lst .leaf,.list ms'⟩,some ⟨.lst .leaf,.list ss'⟩,some ⟨.leaf,.int (r:Nat)⟩,x8',x9',none,none]/\Gw many (n+1) os' ms' ss':=fun Γ T hT2 hΓ=>by
  subst hΓ;refine ⟨os++[.int (df c 0 2)],ms++[.list M],ss++[.list (T.map .int)],_,_,Es rfl (aB rfl) rfl (by omega),by simp;omega,by simp;omega,by simp;omega,fun a ha=>?_,fun a ha=>?_,fun a ha=>?_⟩
  ·rcases List.mem_append.mp ha with z | z
   ·exact h.o a z
   ·have:=uf (c:=c) (k:=0) (b:=2) (by omega) (by omega) (by omega) (by omega)
    rw [List.mem_singleton.mp z];rcases (by omega:df c 0 2=0\/df c 0 2=1) with e | e
    ·exact .inl (by rw [e])
    ·exact .inr (by rw [e])
  ·rcases List.mem_append.mp ha with z | z
   ·exact h.m a z
   ·exact ⟨M,List.mem_singleton.mp z,rM.1,rM.2.1,by rw [List.mem_singleton.mp z];exact rM.2.2⟩
  ·rcases List.mem_append.mp ha with z | z
   ·exact h.s a z
   ·exact ⟨T,List.mem_singleton.mp z,hT2⟩
 have e1:=cV (i:=8) (cC (fl:=ab (ae 0) (ab (aw bc (aw bc (ae 1) (eK (.int 1))) (ae 7)) af)) (Γ:=[some ⟨.leaf,.list xs⟩,some ⟨.leaf,.int at'⟩,some ⟨.leaf,.int lim⟩,some ⟨.leaf,.int many⟩,some ⟨.lst .leaf,.list os⟩,some ⟨.lst .leaf,.list ms⟩,some ⟨.lst .leaf,.list ss⟩,some ⟨.leaf,.int (r:Nat)⟩,x8,x9,none,none]) (aH (aB rfl) (aH (aI (aI (aB rfl) aV add_int') (aB rfl) add_int') ay)) hc rfl rfl) rfl (by simp)
 have e2:gr 4 (ai 3 ak (ab (ae 8) (ab (eK (.int 0)) (ab (eK (.int 2)) af)))) [some ⟨.leaf,.list xs⟩,some ⟨.leaf,.int at'⟩,some ⟨.leaf,.int lim⟩,some ⟨.leaf,.int many⟩,some ⟨.lst .leaf,.list os⟩,some ⟨.lst .leaf,.list ms⟩,some ⟨.lst .leaf,.list ss⟩,some ⟨.leaf,.int (r:Nat)⟩,some ⟨.leaf,.int c⟩,x9,none,none]=_:=
  Es rfl (cC (aH (aB rfl) (aH aV (aH aV ay))) (rg (by omega) (by omega) (by omega) (by omega)) rfl rfl) rfl (by omega)
 have e3:=Es (i:=5) (Γ:=[some ⟨.leaf,.list xs⟩,some ⟨.leaf,.int at'⟩,some ⟨.leaf,.int lim⟩,some ⟨.leaf,.int many⟩,some ⟨.lst .leaf,.list (os++[.int (df c 0 2)])⟩,some ⟨.lst .leaf,.list ms⟩,some ⟨.lst .leaf,.list ss⟩,some ⟨.leaf,.int (r:Nat)⟩,some ⟨.leaf,.int c⟩,x9,none,none]) rfl (c5 _ rfl rfl) rfl (by omega)
 have e4:=cV (i:=9) (Γ:=[some ⟨.leaf,.list xs⟩,some ⟨.leaf,.int at'⟩,some ⟨.leaf,.int lim⟩,some ⟨.leaf,.int many⟩,some ⟨.lst .leaf,.list (os++[.int (df c 0 2)])⟩,some ⟨.lst .leaf,.list (ms++[.list M])⟩,some ⟨.lst .leaf,.list ss⟩,some ⟨.leaf,.int (r:Nat)⟩,some ⟨.leaf,.int c⟩,x9,none,none]) (c6 _ rfl rfl rfl) rfl (by simp)
 have t:aC aj (aw bg (ae 9) (aP .leaf af)) [some ⟨.leaf,.list xs⟩,some ⟨.leaf,.int at'⟩,some ⟨.leaf,.int lim⟩,some ⟨.leaf,.int many⟩,some ⟨.lst .leaf,.list (os++[.int (df c 0 2)])⟩,some ⟨.lst .leaf,.list (ms++[.list M])⟩,some ⟨.lst .leaf,.list ss⟩,some ⟨.leaf,.int (r:Nat)⟩,some ⟨.leaf,.int c⟩,some ⟨.leaf,.list (ts.map .int)⟩,none,none]
   = .ok (decide ((ts.map PyData.int).length=0)) _:=b6 (aI (aB rfl) (pj (s:=.leaf) ay rfl rfl rfl) (zN (DN Au)))
 cases hz:decide ((ts.map PyData.int).length=0) with
 | true=>
  rw [hz] at t;obtain ⟨o',m',s',y8,y9,f1,f2⟩:=fin _ [df c (4+many) many] ⟨by simp,by simp,fun t ht=>by rw [List.mem_singleton.mp ht];exact uf (by omega) (by omega) (by omega) (by omega),List.pairwise_singleton _ _⟩ rfl
  exact ⟨o',m',s',y8,y9,aA e1 (aA e2 (aA e3 (aA e4 (aA (aN t (fun _=>cV (pj (s:=.leaf) (aH (cC (aH (aB rfl) (aH (aI aV (aB rfl) add_int') (aH (aB rfl) ay))) (rg (by omega) (by omega) (by omega) (by omega)) rfl rfl) ay) rfl rfl rfl) rfl (by simp)) nofun) f1)))),f2⟩
 | false=>
  rw [hz] at t;obtain ⟨o',m',s',y8,y9,f1,f2⟩:=fin _ ts ⟨by omega,(fun z=>by rw [z] at hz;cases hz),(fun t ht=>by have:=hts1 t ht;omega),hts2⟩ rfl
  exact ⟨o',m',s',y8,y9,aA e1 (aA e2 (aA e3 (aA e4 (aA (aN t nofun (fun _=>rfl)) f1)))),f2⟩
theorem qr {xs:List D} {at' lim:Int} (hx:hU xs) (ha:0<=at') (hl:1<=lim) (hl2:lim<=24):∃(n:Nat) (os ms ss:List D),m__law_world [.list xs,.int at',.int lim]=.ok ⟨W3,cW os ms ss⟩/\Gw (n:Int) n os ms ss/\1<=n/\(n:Int)<=lim:=by
 obtain ⟨c,hc⟩:=AV hx (k:=at') ha
 have b0:0<=c % lim:=Int.emod_nonneg _ (by omega)
 have b1:c % lim<lim:=Int.emod_lt_of_pos _ (by omega)
 generalize hmm:1+c % lim=many at *
 have e0:ax false 3 (aw bc (eK (.int 1)) (aw cj (ai 2 aF (ab (ae 0) (ab (ae 1) af))) (ae 2))) [some ⟨.leaf,.list xs⟩,some ⟨.leaf,.int at'⟩,some ⟨.leaf,.int lim⟩,none,none,none,none,none,none,none,none,none]
   = .nx [some ⟨.leaf,.list xs⟩,some ⟨.leaf,.int at'⟩,some ⟨.leaf,.int lim⟩,some ⟨.leaf,.int many⟩,none,none,none,none,none,none,none,none]:=by
  rw [<-hmm];exact cV (aI aV (aI (cC (aH (aB rfl) (aH (aB rfl) ay)) hc rfl rfl) (aB rfl) (eC (by omega))) add_int') rfl (by simp)
 obtain ⟨Γ',e,os,ms,ss,x7,x8,x9,hΓ,hw⟩:=DR (P:=fun n Γ=>∃os ms ss x7 x8 x9,Γ=[some ⟨.leaf,.list xs⟩,some ⟨.leaf,.int at'⟩,some ⟨.leaf,.int lim⟩,some ⟨.leaf,.int many⟩,some ⟨.lst .leaf,.list os⟩,some ⟨.lst .leaf,.list ms⟩,some ⟨.lst .leaf,.list ss⟩,x7,x8,x9,none,none]/\Gw many n os ms ss) (i:=7) (body:=eW) (cI 0 many.toNat) 0
  [some ⟨.leaf,.list xs⟩,some ⟨.leaf,.int at'⟩,some ⟨.leaf,.int lim⟩,some ⟨.leaf,.int many⟩,some ⟨.lst .leaf,.list []⟩,some ⟨.lst .leaf,.list []⟩,some ⟨.lst .leaf,.list []⟩,none,none,none,none,none] ⟨[],[],[],none,none,none,rfl,rfl,rfl,rfl,fun a ha=>(nomatch ha),fun a ha=>(nomatch ha),fun a ha=>(nomatch ha)⟩ (fun m d Γ hd h1 h2 ⟨os,ms,ss,x7,x8,x9,hΓ,hw⟩=>by
   subst hΓ;obtain ⟨k,hk,rfl⟩:=AR hd;rw [CI] at h2;rw [Int.zero_add];obtain ⟨os',ms',ss',y8,y9,f1,f2⟩:=oe (at':=at') (lim:=lim) (many:=many) (x8:=x8) (x9:=x9) hx ha (by omega) (by omega) hw (by omega) (r:=k)
   exact ⟨by simp,_,f1,os',ms',ss',_,y8,y9,rfl,f2⟩)
 subst hΓ;rw [CI,Nat.zero_add] at hw;have en:((many.toNat:Nat):Int)=many:=by omega
 refine ⟨many.toNat,os,ms,ss,aW (aA e0 (aA (t6 (pj (s:=.leaf) ay rfl rfl rfl) rfl (by simp)) (aA (t6 (pj (s:=.leaf) ay rfl rfl rfl) rfl (by simp)) (aA (t6 (pj (s:=.leaf) ay rfl rfl rfl) rfl (by simp)) (aA (eZ (uu (k:=many) (aH (aB rfl) ay) rfl (by omega) (by omega)) e) (aS (dv (aH (qQ (p:=⟨.lst .leaf,.list os⟩) rfl) (aH (qQ (p:=⟨.lst .leaf,.list ms⟩) rfl) (aH (qQ (p:=⟨.lst .leaf,.list ss⟩) rfl) ay))) rfl rfl) rfl)))))),by rw [en];exact hw,by omega,by omega⟩
end KQ
namespace KC
open PySem PySem.Spec L2 T
open PyProof.Rows hiding St
noncomputable def cz:FS:=(aG (de (aw (aO true) (ae 0) (eK .none)) (de (aw (aO true) (ae 1) (eK .none)) (aw dI (ae 0) (ae 1)))))
noncomputable def cO:List PySem.PyData->bD:=aL 2 cz
noncomputable def jx:FS:=(aG (av .leaf 3 (aK (ah (ah (ae 0) (eK (.int 2))) (ae 2))) (aC aZ (ai 2 cO (ab (ah (ae 1) (ae 3)) (ab (ah (ae 1) (ae 2)) af)))) (ae 3)))
noncomputable def fg:List PySem.PyData->bD:=aL 4 jx
noncomputable def eJ:FS:=(bf (aC aj (aw (bV true) (ae 0) (eK b9))) C4 az)
noncomputable def dq:List PySem.PyData->bD:=aL 1 eJ
noncomputable def fw:FS:=(bf (bu (aC aZ (ai 2 cT (ab (ae 1) (ab (aY aM (ab (ah (ae 0) (eK (.int 0))) af)) af))))) C4 az)
noncomputable def dG:List PySem.PyData->bD:=aL 2 fw
noncomputable def eI:FS:=(aG (aw gSub (eK (.int 1)) (ae 0)))
noncomputable def bh:List PySem.PyData->bD:=aL 1 eI
noncomputable def kT:FS:=(ao (bf (aC aj (aw bK (aY aM (ab (ae 2) af)) (aY aM (ab (ah (ae 0) (eK (.int 0))) af)))) (aG (eK (.bool false))) az)
  (ao (ax false 3 (iZ .leaf 4 5 (ae 2) (aC aj (aw (aO true) (ae 5) (eK .none))) (ae 4)))
  (aG (aY (cE false) (ab (av .leaf 4 (aK (ae 3)) aE (de (aw bg (ah (ah (ae 0) (eK (.int 0))) (ae 4)) (ae 1)) (aw (bV false) (ah (ae 2) (ae 4)) (ah (ah (ae 0) (eK (.int 2))) (ae 4))))) af)))))
noncomputable def bO:List PySem.PyData->bD:=aL 6 kT
noncomputable def ka:FS:=(aG (iZ .leaf 3 4 (ae 2) aE (fm (bQ (aC aZ (ae 4)) (aC aj (aw bg (ah (ah (ae 0) (eK (.int 0))) (ae 3)) (ae 1)))) (ah (ae 4) (eK (.int 0))) (eK .none))))
noncomputable def bR:List PySem.PyData->bD:=aL 5 ka
noncomputable def gh:FS:=(ao (cK (ai 1 cR (ab (ae 0) af)))
  (ao (cK (ai 1 dq (ab (ae 1) af)))
  (cK (ai 2 dG (ab (ae 0) (ab (ae 2) af))))))
noncomputable def bp:List PySem.PyData->bD:=aL 3 gh
noncomputable def d_brought:FS:=(ao (ax false 3 (aY aM (ab (ah (ae 0) (eK (.int 0))) af)))
  (ao (ax false 4 (ai 4 bW (ab (ae 0) (ab (av .leaf 5 (aK (ah (ae 0) (eK (.int 0)))) aE (aw bg (ae 5) (ae 1))) (ab (ue (ab (ae 3) af)) (ab (ae 2) af))))))
  (aG (bF (ab (ae 4) (ab (ai 3 bR (ab (ae 0) (ab (ae 1) (ab (av .leaf 6 (cx (ab (ae 3) af)) aE (ai 3 fg (ab (ae 0) (ab (ae 4) (ab (ae 6) af))))) af)))) af))))))
noncomputable def m_brought:List PySem.PyData->bD:=aL 7 d_brought
noncomputable def d_bring:FS:=(ao (cK (ai 3 bp (ab (ae 0) (ab (ae 1) (ab (ae 2) af)))))
  (aG (ai 3 m_brought (ab (ae 0) (ab (ae 1) (ab (ae 2) af))))))
noncomputable def m_bring:List PySem.PyData->bD:=aL 3 d_bring
noncomputable def jy:FS:=(aG (bF (ab (ah (ae 0) (eK (.int 0))) (ab (ah (ae 0) (eK (.int 1))) (ab (av .leaf 2 (aK (ah (ae 0) (eK (.int 2)))) aE (av .leaf 3 (aK (ae 2)) (aC aj (aw (bV false) (ae 3) (ae 1))) (ae 3))) af)))))
noncomputable def bS:List PySem.PyData->bD:=aL 4 jy
noncomputable def jv:FS:=(ao (ax false 4 (av .leaf 5 (aK (ae 3)) (aC aj (aw (bV false) (ae 5) (ae 2))) (ae 5)))
  (aG (ai 4 bW (ab (ai 2 bS (ab (ae 0) (ab (ae 3) af))) (ab (av .leaf 6 (aK (ah (ae 0) (eK (.int 0)))) aE (aw bg (ae 6) (ae 1))) (ab (ae 3) (ab (ae 4) af)))))))
noncomputable def bI:List PySem.PyData->bD:=aL 7 jv
noncomputable def kR:FS:=(ao (ax false 4 (ai 4 bI (ab (ae 0) (ab (ae 1) (ab (ae 2) (ab (ae 3) af))))))
  (aG (av .leaf 5 (aK (ae 3)) (aC aj (aw (aO false) (ah (ae 4) (ae 5)) (eK .none))) (ae 5))))
noncomputable def cG:List PySem.PyData->bD:=aL 6 kR
noncomputable def gA:FS:=(ao (ax true 3 (av .leaf 9 (aK (ah (ae 0) (eK (.int 0)))) aE (eK .none)))
  (ao (ax false 4 (ue (ab (aY aM (ab (ah (ae 0) (eK (.int 0))) af)) af)))
  (ao (ax false 5 (eK (.int 0)))
  (ao (ax false 6 (ai 4 cG (ab (ae 0) (ab (ae 1) (ab (ae 2) (ab (ae 4) af))))))
  (ao (wF 1000 (aC aZ (ae 6))
  (ao (ax false 7 (ai 4 bW (ab (ai 2 bS (ab (ae 0) (ab (ae 4) af))) (ab (av .leaf 9 (aK (ah (ae 0) (eK (.int 0)))) aE (aw bK (ae 9) (ae 1))) (ab (ae 4) (ab (ae 6) af))))))
  (ao (cM 8 (aK (ae 4))
  (bf (aC aj (aw (aO true) (ah (ae 7) (ae 8)) (eK .none))) (dk 3 (bF (ab (ae 5) (ab (ah (ae 7) (ae 8)) af))) (ae 8)) az))
  (ao (fN 5 (eK (.int 1)))
  (ao (ax false 4 (av .leaf 8 (aK (ae 4)) (aC aj (aw (aO false) (ah (ae 3) (ae 8)) (eK .none))) (ae 8)))
  (ax false 6 (ai 4 cG (ab (ae 0) (ab (ae 1) (ab (ae 2) (ab (ae 4) af)))))))))))
  (aG (bF (ab (bB 3) (ab (ae 4) af)))))))))
noncomputable def bL:List PySem.PyData->bD:=aL 10 gA
noncomputable def fF:FS:=(aG (fm (aC aj (aw bg (ah (ae 0) (ae 1)) (eK (.int 0)))) (aw (aO true) (ah (ae 0) (ae 2)) (eK .none)) (ai 2 cO (ab (ah (ae 0) (ae 2)) (ab (ah (ae 0) (ae 1)) af)))))
noncomputable def bX:List PySem.PyData->bD:=aL 3 fF
noncomputable def dX:FS:=(ao (ax false 3 (ah (ae 0) (ae 1)))
  (ao (ax false 4 (ah (ae 0) (ae 2)))
  (ao (bf (b7 (aC aj (aw (aO false) (ae 3) (eK .none))) (aC aj (aw (aO false) (ae 4) (eK .none)))) (aG (eK (.bool false))) az)
  (ao (bf (aC aj (aw bK (ah (ae 3) (eK (.int 0))) (ah (ae 4) (eK (.int 0))))) (aG (aw dI (ah (ae 4) (eK (.int 0))) (ah (ae 3) (eK (.int 0))))) az)
  (aG (qo (aw dI (ah (ae 4) (eK (.int 1))) (ah (ae 3) (eK (.int 1)))) (de (aw bg (ah (ae 3) (eK (.int 1))) (eK (.int 0))) (aw bg (ah (ae 4) (eK (.int 1))) (eK (.int 0))))))))))
noncomputable def bG:List PySem.PyData->bD:=aL 5 dX
noncomputable def d_again:FS:=(ao (cK (ai 3 bp (ab (ae 0) (ab (ae 1) (ab (ae 2) af)))))
  (ao (ax false 3 (ai 3 bL (ab (ae 0) (ab (ae 1) (ab (ae 2) af)))))
  (ao (ax false 4 (ah (ae 3) (eK (.int 0))))
  (ao (ax false 5 (ai 4 bI (ab (ae 0) (ab (ae 1) (ab (ae 2) (ab (ah (ae 3) (eK (.int 1))) af))))))
  (ao (ax false 6 (iZ .leaf 9 10 (ah (ae 0) (eK (.int 2))) aE (av .leaf 8 (aK (ae 10)) (aC aZ (ai 3 bX (ab (ae 5) (ab (ae 9) (ab (ae 8) af))))) (ae 8))))
  (ao (ax false 7 (iZ .leaf 9 10 (ah (ae 0) (eK (.int 2))) aE (av .leaf 8 (aK (ae 10)) (aC aZ (ai 3 bG (ab (ae 4) (ab (ae 9) (ab (ae 8) af))))) (ae 8))))
  (aG (bF (ab (ae 5) (ab (ai 3 bR (ab (ae 0) (ab (ae 1) (ab (ae 6) af)))) (ab (ae 4) (ab (ai 3 bR (ab (ae 0) (ab (ai 1 bh (ab (ae 1) af)) (ab (ae 7) af)))) af))))))))))))
noncomputable def m_again:List PySem.PyData->bD:=aL 11 d_again
noncomputable def g4:FS:=(aG (iZ .leaf 1 2 (ae 0) (aC aj (aw (aO false) (ae 2) (eK .none))) (ae 1)))
noncomputable def cY:List PySem.PyData->bD:=aL 3 g4
noncomputable def iP:FS:=(aG (av .leaf 3 (aK (ah (ah (ae 0) (eK (.int 2))) (ae 2))) (bQ (aC aj (aw (bV false) (ae 2) (ae 1))) (aC aj (aw (bV false) (ae 3) (ae 1)))) (ae 3)))
noncomputable def eD:List PySem.PyData->bD:=aL 4 iP
noncomputable def d_keep:FS:=(ao (cK (ai 3 bp (ab (ae 0) (ab (ae 1) (ab (ae 2) af)))))
  (ao (ax false 3 (ai 3 m_brought (ab (ae 0) (ab (ai 1 bh (ab (ae 1) af)) (ab (ai 2 dF (ab (ae 0) (ab (ae 2) af))) af)))))
  (ao (ax false 4 (ai 1 cY (ab (ah (ae 3) (eK (.int 0))) af)))
  (ao (ax false 5 (ai 3 bR (ab (ae 0) (ab (ae 1) (ab (av .leaf 6 (cx (ab (aY aM (ab (ah (ae 0) (eK (.int 0))) af)) af)) aE (ai 3 eD (ab (ae 0) (ab (ae 4) (ab (ae 6) af))))) af)))))
  (aG (bF (ab (ae 4) (ab (ae 5) (ab (ah (ae 3) (eK (.int 0))) (ab (ah (ae 3) (eK (.int 1))) af))))))))))
noncomputable def m_keep:List PySem.PyData->bD:=aL 7 d_keep
open PySem.SeqAt
theorem Bu {α:Type} {l:List α} {n:Nat} (d:α) (h:l.length=n):l=(List.range n).map fun r=>l.getD r d:=by
 apply ext_getElem?
 intro k;rw [getElem?_map];by_cases hk:k<n
 ·rw [List.getElem?_range hk]
  show l[k]?=some (l.getD k d)
  rw [getD_eq_getElem?_getD,getElem?_eq_getElem (by omega)]
  rfl
 ·rw [getElem?_eq_none (by omega),getElem?_eq_none (by simp;omega)]
  rfl
theorem gp {n:Nat} {fl:FL} {Γ:Ev} {s:Sh} (hn:n<=1000) (h:fl Γ=.ok [⟨s,.int (n:Int)⟩] Γ):cx fl Γ=.ok ⟨(List.range n).map rm,true⟩ Γ:=by
 rw [uu (k:=(n:Int)) h rfl (by omega) (by omega),Int.toNat_natCast,oC]
section
variable {i j:Nat} {fc:FB} {fe:F1} {s:Sh} {Γ:Ev} {e:Nat->D} {c:Nat->Bool} {f:Nat->PV}
noncomputable abbrev Γ2 (Γ:Ev) (i j:Nat) (e:Nat->D) (r:Nat):Ev:=(Γ.set i (some ⟨.leaf,.int (r:Nat)⟩)).set j (some ⟨.leaf,e r⟩)
theorem Ey (hij:i≠j) (hΓ:(Γ.set i none).set j none=Γ):∀(m k:Nat) (acc:List D),(∀r,k<=r->r<k+m->fc (Γ2 Γ i j e r)=.ok (c r) (Γ2 Γ i j e r)) ->
  (∀r,k<=r->r<k+m->c r=true->fe (Γ2 Γ i j e r)=.ok (f r) (Γ2 Γ i j e r)/\coer s (f r)=true)->acc.length+m<=sizeLine->rd i j fc fe s k ((List.range' k m).map e) Γ acc=.ok (acc++(((List.range' k m).filter c).map fun r=>(f r).d)) Γ
 | 0,k,acc,_,_,_=>by simp [rd]
 | m+1,k,acc,hc,he,hl=>by
  have h1:=hc k (Nat.le_refl _) (by omega)
  have hl1:acc.length<sizeLine:=by omega
  have back:((Γ2 Γ i j e k).set i none).set j none=Γ:=by
   unfold Γ2;rw [List.set_comm _ _ (Ne.symm hij),set_set,set_set];exact hΓ
  rw [List.range'_succ,map_cons,rd];have h1:fc ((Γ.set i (some ⟨.leaf,.int (k:Nat)⟩)).set j (some ⟨.leaf,e k⟩))=_:=h1
  rw [h1]
  cases hcd:c k with
  | false=>
   dsimp only;rw [if_pos hl1,back,Ey hij hΓ m (k+1) acc (fun r h1 h2=>hc r (by omega) (by omega)) (fun r h1 h2=>he r (by omega) (by omega)) (by omega)]
   rw [List.filter_cons_of_neg (by rw [hcd];exact Bool.false_ne_true)]
  | true=>
   obtain ⟨h2,h3⟩:=he k (Nat.le_refl _) (by omega) hcd
   dsimp only;rw [h2];dsimp only;rw [h3,decide_eq_true hl1,Bool.and_self,if_pos rfl,back,Ey hij hΓ m (k+1) (acc++[(f k).d]) (fun r h1 h2=>hc r (by omega) (by omega)) (fun r h1 h2=>he r (by omega) (by omega)) (by simp only [length_append,length_cons,List.length_nil];omega)]
   rw [List.filter_cons_of_pos hcd,map_cons,append_assoc];rfl
theorem Ef (e:Nat->D) (n:Nat) (c:Nat->Bool) (f:Nat->PV) {fa:F1} {st:Bool} (hi:aK fa Γ=.ok ⟨(List.range n).map e,st⟩ Γ) (h1:Γ[i]?=some none) (h2:Γ[j]?=some none) (hij:i≠j) (hs:s.isView=false) (hn:n<=10000)
  (hc:∀r,r<n->fc (Γ2 Γ i j e r)=.ok (c r) (Γ2 Γ i j e r)) (he:∀r,r<n->c r=true->fe (Γ2 Γ i j e r)=.ok (f r) (Γ2 Γ i j e r)/\coer s (f r)=true) :
  iZ s i j fa fc fe Γ=.ok ⟨.lst s,.list (((List.range n).filter c).map fun r=>(f r).d)⟩ Γ:=by
 have hb:(10000:Nat)<=sizeLine:=by decide
 unfold iZ;rw [hi];unfold Out.bind;dsimp only;rw [h1,h2,hs];have hΓ:(Γ.set i none).set j none=Γ:=by rw [wK h1,wK h2]
 rw [List.range_eq_range',Ey (c:=c) (f:=f) hij hΓ n 0 [] (fun r _ h=>hc r (by omega)) (fun r _ h=>he r (by omega)) (by simp;omega)]
 rfl
theorem EA (e:Nat->D) (n:Nat) (f:Nat->PV) {fa:F1} {st:Bool} (hi:aK fa Γ=.ok ⟨(List.range n).map e,st⟩ Γ) (h1:Γ[i]?=some none) (h2:Γ[j]?=some none) (hij:i≠j) (hs:s.isView=false) (hn:n<=10000)
  (he:∀r,r<n->fe (Γ2 Γ i j e r)=.ok (f r) (Γ2 Γ i j e r)/\coer s (f r)=true) :
  iZ s i j fa aE fe Γ=.ok ⟨.lst s,.list ((List.range n).map fun r=>(f r).d)⟩ Γ:=by
 have:=Ef (fc:=aE) e n (fun _=>true) f hi h1 h2 hij hs hn (fun _ _=>rfl) fun r hr _=>he r hr
 rw [this,List.filter_eq_self.mpr fun _ _=>rfl]
end
theorem gz {p:Int} (h:p=0\/p=1):dq [.int p]=.ok ⟨.leaf,.none⟩:=by
 have:bV true (.int p) b9=some (.bool false):=by rcases h with rfl | rfl<;>kernel_rfl
 refine oV (Γ:=bw 1 [.int p]) ?_
 simp [eJ,bw,this]
theorem uH {r:List Nat}:r.map rm=(r.map fun t:Nat=>(t:Int)).map PyData.int:=by rw [map_map];rfl
theorem Std.sorted {n:Nat} {L:List Nat} (h:Std n L):L.Pairwise (· < ·):=by
 obtain ⟨q,rfl⟩:=h;exact List.Pairwise.filter _ List.pairwise_lt_range
theorem kO {n:Nat} (h24:n<=24) {R:List Nat} (h:Std n R):cT [aJ R,.int (n:Int)]=.ok ⟨.leaf,.bool true⟩:=by
 have hl:=h.len
 rw [aJ,uH,fq Au (by simp;omega)]
 have h1:((R.map fun t:Nat=>(t:Int)).map PyData.int).all (inR (n:Int))=true:=by
  rw [all_eq_true];intro d hd;obtain ⟨i,hi,rfl⟩:=List.mem_map.mp hd;obtain ⟨t,ht,rfl⟩:=List.mem_map.mp hi;have:=h.lt t ht
  simp [inR]
  omega
 have h2:fO ((R.map fun t:Nat=>(t:Int)).map PyData.int)=true:=lY (by
  rw [List.pairwise_map];exact h.sorted.imp fun h=>by omega)
 rw [h1,h2];rfl
theorem gZ {w:Wd} (ok:w.Ok) {R:List Nat} (h:Std w.n R):dG [w.enc,aJ R]=.ok ⟨.leaf,.none⟩:=by
 have lo:=ok.g.lo
 have:=kO ok.h24 h
 refine oV (Γ:=bw 2 [w.enc,aJ R]) ?_
 simp [fw,bw,Wd.enc,cW,lo,this]
theorem eH {w:Wd} (ok:w.Ok) {p:Int} (hp:p=0\/p=1) {R:List Nat} (h:Std w.n R):bp [w.enc,.int p,aJ R]=.ok ⟨.leaf,.none⟩:=by
 have c1:=ok.check
 have c2:=gz hp
 have c3:=gZ ok h
 refine oV (Γ:=bw 3 [w.enc,.int p,aJ R]) ?_
 simp [gh,bw,c1,c2,c3]
theorem Wd.Ok0.s_range {w:Wd} (ok:w.Ok0):w.s.map aJ=(List.range w.n).map fun r=>aJ (w.stp r):=by
 conv=>lhs;rw [Bu (l:=w.s) [] ok.ls]
 rw [map_map];rfl
noncomputable def qj (p:Int):D->Bool
 | .int o=>o==p
 | _=>false
noncomputable def own (w:Wd) (p:Int):Nat->Bool:=hZ (w.os.map (qj p))
theorem Wd.Ok.o_at {w:Wd} (ok:w.Ok) {r:Nat} (hr:r<w.n):∃o:Int,(o=0\/o=1)/\eR w.os (r:Int)=some (.int o)/\∀p,own w p r=(o==p):=by
 have hl:r<w.os.length:=by rw [ok.g.lo];exact hr
 have hm:=ok.g.o _ (getElem_mem hl)
 have key:∀o:Int,w.os[r]=.int o->eR w.os (r:Int)=some (.int o)/\∀p,own w p r=(o==p):=fun o e=>by
  refine ⟨Ai (by rw [getElem?_eq_getElem hl,e]),fun p=>?_⟩
  unfold own hZ;rw [getD_eq_getElem?_getD,getElem?_map,getElem?_eq_getElem hl,e];rfl
 rcases hm with e | e
 ·exact ⟨0,.inl rfl,key 0 e⟩
 ·exact ⟨1,.inr rfl,key 1 e⟩
theorem ve {w:Wd} (ok:w.Ok) {p:Int} (hp:p=0\/p=1) {r:Nat} (hr:r<w.n):own w (1-p) r=!own w p r:=by
 obtain ⟨o,ho,_,h⟩:=ok.o_at hr;rw [h,h];rcases ho with rfl | rfl<;>rcases hp with rfl | rfl<;>rfl
theorem RightG.congr {n:Nat} {st:Nat->List Nat} {ch ch':Nat->Bool} {thr goal:List Nat} {rk:List (Option Nat)} (h:RightG n st ch thr goal rk) (e:∀r,r<n->ch r=ch' r):RightG n st ch' thr goal rk:=
 ⟨h.len,h.g,fun r k hr hg hk=>by rw [<-e r hr];exact h.p r k hr hg hk,fun r hr hz=>by rw [<-e r hr];exact h.z r hr hz⟩
noncomputable def qf:Option Nat->Option Nat->Bool
 | some a,some b=>decide (a<b)
 | _,_=>false
theorem qv {a b:Option Nat}:cO [oD a,oD b]=.ok ⟨.leaf,.bool (qf a b)⟩:=by
 refine aW ?_
 cases a with
 | none=>simp [cz,bw,oD,qf,oj]
 | some a=>
  cases b with
  | none=>simp [cz,bw,oD,qf,oj]
  | some b=>simp [cz,bw,oD,qf,oj]
noncomputable def FP (w:Wd) (rk:List (Option Nat)) (r:Nat):List Nat:=(w.stp r).filter fun t=>qf (aU rk t) (aU rk r)
noncomputable def cX (w:Wd) (p:Int) (sd:Nat->List Nat):List (Option Nat):=(List.range w.n).map fun r=>if own w p r then (sd r).head? else none
theorem pU {w:Wd} {p:Int} {sd:Nat->List Nat} {r:Nat} (hr:r<w.n):aU (cX w p sd) r=if own w p r then (sd r).head? else none:=by
 unfold aU cX;rw [getD_eq_getElem?_getD,getElem?_map,List.getElem?_range hr];rfl
theorem gN {w:Wd} (ok:w.Ok) {p:Int} {sd:Nat->List Nat}:bR [w.enc,.int p,.list ((List.range w.n).map fun r=>aJ (sd r))]=.ok ⟨.lst .leaf,aR (cX w p sd)⟩:=by
 have h24:=ok.h24
 have e:iZ .leaf 3 4 (ae 2) aE (fm (bQ (aC aZ (ae 4)) (aC aj (aw bg (ah (ah (ae 0) (eK (.int 0))) (ae 3)) (ae 1)))) (ah (ae 4) (eK (.int 0))) (eK .none)) (bw 5 [w.enc,.int p,.list ((List.range w.n).map fun r=>aJ (sd r))])=.ok ⟨.lst .leaf,.list ((List.range w.n).map fun r=>(⟨.leaf,oD (if own w p r then (sd r).head? else none)⟩:PV).d)⟩ (bw 5 [w.enc,.int p,.list ((List.range w.n).map fun r=>aJ (sd r))]):=by
  refine EA (fun r=>aJ (sd r)) w.n (fun r=>⟨.leaf,oD (if own w p r then (sd r).head? else none)⟩) (st:=true) (by simp [bw]) rfl rfl (by omega) rfl (by omega) (fun r hr=>⟨?_,rfl⟩)
  obtain ⟨o,_,a0,ho⟩:=ok.o_at hr;rw [ho p]
  cases hs:sd r with
  | nil=>simp [Γ2,bw,hs,oD]
  | cons t l=>
   by_cases eo:o=p
   ·simp [Γ2,bw,hs,Wd.enc,cW,a0,eq_int,eo,oD]
   ·simp [Γ2,bw,hs,Wd.enc,cW,a0,eq_int,eo,oD]
 refine aW ?_
 unfold ka;rw [BA,e];simp [cX]
noncomputable def G6 (n:Nat) (rk:List (Option Nat)):List Nat:=(List.range n).filter fun r=>(aU rk r).isNone
theorem jV {rk:List (Option Nat)} {n:Nat} (h:rk.length=n):rk.map oD=(List.range n).map fun r=>oD (aU rk r):=by
 conv=>lhs;rw [Bu (l:=rk) none h]
 rw [map_map];rfl
noncomputable def EG (w:Wd) (K:List Nat) (r:Nat):List Nat:=(w.stp r).filter fun t=>K.contains r&&K.contains t
theorem EF {p:Int}:bh [.int p]=.ok ⟨.leaf,.int (1-p)⟩:=by
 refine aW ?_
 simp [eI,bw]
structure bZ (w:Wd) (p:Int) (pl:List (Option Nat)):Prop where
 len:pl.length=w.n
 st:∀r t,r<w.n->aU pl r=some t->own w p r=true/\t∈w.stp r
theorem jX {w:Wd} {p:Int} {sd:Nat->List Nat} (h:∀r t,r<w.n->t∈sd r->t∈w.stp r):bZ w p (cX w p sd):=by
 refine ⟨by simp [cX],fun r t hr e=>?_⟩
 rw [pU hr] at e;split at e
 ·rename_i ho
  exact ⟨ho,h r t hr (List.mem_of_mem_head? e)⟩
 ·cases e
theorem mM {w:Wd} (ok:w.Ok) {p:Int} {pl:List (Option Nat)} (h:bZ w p pl):bO [w.enc,.int p,aR pl]=.ok ⟨.leaf,.bool true⟩:=by
 have lo:=ok.g.lo
 have h24:=ok.h24
 have hl:=h.len
 have e1:iZ .leaf 4 5 (ae 2) (aC aj (aw (aO true) (ae 5) (eK .none))) (ae 4) [some ⟨.leaf,w.enc⟩,some ⟨.leaf,.int p⟩,some ⟨.leaf,aR pl⟩,none,none,none]=.ok ⟨.lst .leaf,.list (((List.range w.n).filter fun r=>!(aU pl r).isNone).map fun r=>rm r)⟩ [some ⟨.leaf,w.enc⟩,some ⟨.leaf,.int p⟩,some ⟨.leaf,aR pl⟩,none,none,none]:=by
  refine Ef (fun r=>oD (aU pl r)) w.n (fun r=>!(aU pl r).isNone) (fun r=>⟨.leaf,rm r⟩) (st:=true) ?_ rfl rfl (by omega) rfl (by omega) (fun r hr=>?_) (fun r hr _=>?_)
  ·simp only [aR,jV h.len]
   simp
  ·simp [Γ2]
  ·simp [Γ2]
 have e2:av .leaf 4 (aK (ae 3)) aE (de (aw bg (ah (ah (ae 0) (eK (.int 0))) (ae 4)) (ae 1)) (aw (bV false) (ah (ae 2) (ae 4)) (ah (ah (ae 0) (eK (.int 2))) (ae 4)))) [some ⟨.leaf,w.enc⟩,some ⟨.leaf,.int p⟩,some ⟨.leaf,aR pl⟩,some ⟨.leaf,aJ ((List.range w.n).filter fun r=>!(aU pl r).isNone)⟩,none,none]=.ok ⟨.lst .leaf,.list (((List.range w.n).filter fun r=>!(aU pl r).isNone).map fun r=>.bool true)⟩ [some ⟨.leaf,w.enc⟩,some ⟨.leaf,.int p⟩,some ⟨.leaf,aR pl⟩,some ⟨.leaf,aJ ((List.range w.n).filter fun r=>!(aU pl r).isNone)⟩,none,none]:=by
  refine h9 rm _ (fun r=>⟨.leaf,.bool true⟩) (st:=true) (by simp) (by simp) rfl (Nat.le_trans (length_filter_le _ _) (by simp;omega)) (fun r hr=>⟨?_,rfl⟩)
  obtain ⟨h1,h2⟩:=List.mem_filter.mp hr;have h1:=List.mem_range.mp h1
  obtain ⟨o,_,a0,ho⟩:=ok.o_at h1;have a1:=iW (rk:=pl) (t:=r) (by omega)
  have a2:=ok.at2 h1
  cases e:aU pl r with
  | none=>rw [e] at h2;simp at h2
  | some t=>
   obtain ⟨q1,q2⟩:=h.st r t h1 e;rw [ho p] at q1;have q1:o=p:=by simpa using q1
   subst q1;rw [e] at a1;have i1:bV false (rm t) (aJ (w.stp r))=some (.bool true):=by rw [t5];simp [q2]
   refine v_and (s:=.leaf) (b:=true) (a:=true) ?_ ?_
   ·simp [Wd.enc,cW,a0,eq_int]
   ·simp [Wd.enc,cW,a1,a2,oD,i1]
 have g1:cE false [.list (((List.range w.n).filter fun r=>!(aU pl r).isNone).map fun r=>PyData.bool true)]=some (.bool true):=by
  have:=xV (bs:=((List.range w.n).filter fun r=>!(aU pl r).isNone).map fun _=>true)
  rw [map_map] at this;refine this.trans ?_
  simp
 refine aW (aA (Γ1:=bw 6 [w.enc,.int p,aR pl]) ?_ (aA (cV e1 rfl (by simp)) (aS (bT (aH e2 ay) g1) rfl)))
 simp [bw,Wd.enc,cW,lo,hl,ne_int]
end KC
namespace T
open PySem PySem.Spec L2
open PyProof.Rows hiding St
section
variable {K:Fg} {W:XW} {σ:St} {H:Hp} {Q:VK} {D:du} {fa fb:F1} {fl:FL}
theorem EnvOk.chgAt {He:Hp} {O:List Addr} {Fs:List (List Addr)} {Γ:Ev} {i:Nat} {s:Sh} {d d':PySem.PyData} {v:V} {F:List Addr} {m:Addr} {xs ys:List V} (E:EnvOk K He O Fs H σ Γ) (h:Γ[i]?=some (some ⟨s,d⟩)) (h1:σ[i]?=some (some v)) (h2:Fs[i]?=some F)
  (hm:m∈F) (hx:H m=some (.lst xs)) (hs:s.isView=false) (o:Own K (O++Fs.flatten) (cF H m (.lst ys)) s F v d'):EnvOk K He O Fs (cF H m (.lst ys)) σ (Γ.set i (some ⟨s,d'⟩)):=by
 have hi:i<Γ.length:=(List.getElem?_eq_some_iff.mp h).1
 have hmF:m∈Fs.flatten:=hV h2 hm
 have hHe:=E.fresh m hmF
 refine ⟨by rw [length_set];exact E.len1,by rw [length_set];exact E.len2,fun b u e=>?_,E.nd,fun a ha=>?_,E.fresh,fun j q hq=>?_⟩
 ·rw [eV (rq e hHe)]
  exact E.same b u e
 ·by_cases z:a=m
  ·rw [z,iY];exact Option.some_ne_none _
  ·rw [eV z];exact E.inH a ha
 ·by_cases hj:j=i
  ·subst hj
   rw [getElem?_set_self hi] at hq
   cases hq;exact ⟨hs,v,F,h1,h2,o⟩
  ·rw [getElem?_set_ne (Ne.symm hj)] at hq
   obtain ⟨w1,v',F',e1,e2,e3⟩:=E.slot j q hq;exact ⟨w1,v',F',e1,e2,e3.mut w1 (mem_append_right _ hmF) (fun z=>Eh (List.nodup_append.mp E.nd).2.1 e2 h2 hj m z hm) hx⟩
theorem EnvOk.chgT {He:Hp} {O:List Addr} {Fs:List (List Addr)} {Γ:Ev} {i j:Nat} {ss:List Sh} {ds es:List PySem.PyData} (E:EnvOk K He O Fs H σ Γ) (h:Γ[i]?=some (some ⟨.tup ss,.tuple ds⟩)) (hj:ds[j]?=some (.list es)) (hsj:ss[j]?=some (.lst .leaf)) :
  ∃l vs m ws,σ[i]?=some (some (.ref l))/\H l=some (.tup vs)/\vs.length=ds.length/\vs[j]?=some (.ref m)/\H m=some (.lst ws)/\ws.length=es.length/\(∀(k:Nat) u d,ws[k]?=some u->es[k]?=some d->Rep K (cQ H (O++Fs.flatten)) u d) /\
   ∀(ws':List V) (es':List PySem.PyData),ws'.length=es'.length->(∀(k:Nat) u d,ws'[k]?=some u->es'[k]?=some d->Rep K (cQ H (O++Fs.flatten)) u d)->EnvOk K He O Fs (cF H m (.lst ws')) σ (Γ.set i (some ⟨.tup ss,.tuple (ds.set j (.list es'))⟩)):=by
 obtain ⟨hv,v,F,h1,h2,o⟩:=E.slot i _ h
 cases o with
 | @tup _ p vs _ Fs0 hsv hp hn hl hf hs nd q=>
  have hjl:j<ds.length:=(List.getElem?_eq_some_iff.mp hj).1
  have vj:vs[j]?=some (vs[j]'(by omega)):=getElem?_eq_getElem _
  have fj:Fs0[j]?=some (Fs0[j]'(by omega)):=getElem?_eq_getElem _
  obtain ⟨m,ws,em,eG,hm,hwl,hwr⟩:=(q j _ _ _ _ vj hj fj hsj).leaves;rw [em] at vj;rw [eG] at fj;have hmF:m∈Fs0.flatten:=hV fj (List.mem_singleton.mpr rfl)
  have hmO:m∈O++Fs.flatten:=mem_append_right _ (hV h2 hmF)
  have pnm:p≠m:=fun z=>hn (z▸hmO)
  refine ⟨p,vs,m,ws,h1,hp,hl,vj,hm,hwl,hwr,fun ws' es' hw q'=>?_⟩
  refine E.chgAt h h1 h2 hmF hm rfl ?_
  refine .tup hsv (by rw [eV pnm];exact hp) hn (by rw [length_set];exact hl) (by rw [length_set];exact hf) (by rw [length_set];exact hs) nd fun k v d F s e1 e2 e3 e4=>?_
  by_cases hk:k=j
  ·subst hk
   rw [getElem?_set_self hjl] at e2
   cases e2;rw [vj] at e1
   cases e1;rw [fj] at e3
   cases e3;rw [hsj] at e4
   cases e4;refine Own.mkLeaves iY hw fun n u d a1 a2=>?_
   rw [D5 hmO];exact q' n u d a1 a2
  ·rw [getElem?_set_ne (Ne.symm hk)] at e2
   exact (q k v d F s e1 e2 e3 e4).mut (hsv s (mem_of_getElem? e4)) hmO (fun z=>Eh nd e3 fj hk m z (List.mem_singleton.mpr rfl)) hm
def Hw (i:Nat) (q p:PV) (Γ:Ev):OutS:=match Γ[i]? with
 | some (some ⟨.lst .leaf,.list ds⟩)=>(match q.d with
  | .int k=>if decide (0<=k)&&decide (k<=ds.length)&&decide (ds.length<10000)&&T.coer .leaf p then .nx (Γ.set i (some ⟨.lst .leaf,.list (ds.take k.toNat++p.d::ds.drop k.toNat)⟩)) else .no
  | _=>.no)
 | _=>.no
def tR (i:Nat) (k:Nat) (p:PV) (Γ:Ev):OutS:=match Γ[i]? with
 | some (some ⟨.tup ss,.tuple ds⟩)=>(match ss[k]?,ds[k]? with
  | some (.lst .leaf),some (.list es)=>if T.coer .leaf p&&decide (es.length<sizeLine) then .nx (Γ.set i (some ⟨.tup ss,.tuple (ds.set k (.list (es++[p.d])))⟩)) else .no
  | _,_=>.no)
 | _=>.no
def xm (i k:Nat) (Γ:Ev):Bool:=match Γ[i]? with
 | some (some ⟨.tup ss,.tuple ds⟩)=>(match ss[k]?,ds[k]? with
  | some (.lst .leaf),some (.list _)=>true
  | _,_=>false)
 | _=>false
theorem sH {i k:Nat} {Γ:Ev} (h:xm i k Γ=true):∃ss ds es,Γ[i]?=some (some ⟨.tup ss,.tuple ds⟩)/\ss[k]?=some (.lst .leaf)/\ds[k]?=some (.list es):=by
 unfold xm at h;split at h
 ·rename_i ss ds e
  split at h
  ·rename_i es e1 e2
   exact ⟨ss,ds,es,e,e1,e2⟩
  ·cases h
 ·cases h
def eA (i k:Nat) (fa:F1):FS:=fun Γ=>if xm i k Γ then fz fa (tR i k) Γ else .no
theorem D2 {xs:List V} {k:Nat} {v:V} (h:xs[k]?=some v):eR xs (k:Int)=some v:=by
 have hk:=(List.getElem?_eq_some_iff.mp h).1
 have e:=(List.getElem?_eq_some_iff.mp h).2
 simp [eR,d6,hk,e]
theorem u1 {i k:Nat} (h:tS K W (eA i k fa) D σ H):fK (AF K "list" xS (lu (m8 K) (dE i) (tE K W (eK (.int (k:Int))))) (tA K W (ab fa af))) D σ H:=by
 obtain ⟨He,O,Fs,Γ,E,h⟩:=h;unfold eA at h
 cases ho:xm i k Γ with
 | false=>rw [ho] at h;exact h.elim
 | true=>
  rw [ho] at h;obtain ⟨ss,ds,es,e1,es1,ee⟩:=sH ho;obtain ⟨l,vs,m,ws,q1,q2,q3,q4,q5,q6,q7,q8⟩:=E.chgT e1 ee es1;refine ⟨.ref l,q1,He,O,Fs,Γ,E,?_⟩
  intro u H1 G1 Fs1 A1;have hu:=A1.own.rep
  cases hu;have q2':H1 l=some (.tup vs):=A1.same _ _ q2
  have q5':H1 m=some (.lst ws):=A1.same _ _ q5
  refine .inr (.inl ⟨l,vs,(k:Int),.ref m,rfl,rfl,.of q2',D2 q4,.inl ⟨rfl,ws,.of q5'⟩,DI (fJ (D:=D) ⟨He,O,Fs1,Γ,A1.env.dropL,h⟩ fun He O Fs Γ2 p v H2 G Fs2 _ fr2 A2 w2=>?_)⟩)
  unfold tR at w2;split at w2
  ·rename_i ss2 ds2 e2
   split at w2
   ·rename_i es2 e3 e4
    cases hc:(T.coer .leaf p&&decide (es2.length<sizeLine)) with
    | false=>rw [hc] at w2;exact w2.elim
    | true=>
     rw [hc] at w2;simp only [Bool.and_eq_true,decide_eq_true_eq] at hc
     obtain ⟨l2,vs2,m2,ws2,r1,r2,r3,r4,r5,r6,r7,r8⟩:=A2.env.dropL.chgT e2 e4 e3;rw [q1] at r1
     cases r1;have x2:H2 l=some (.tup vs):=A2.same _ _ q2'
     rw [x2] at r2
     cases r2;rw [q4] at r4
     cases r4;have ov:Own K (O++Fs2.flatten) H2 .leaf [] v p.d:=A2.own.coer (s:=.leaf) hc.1 lK fun a ha z=>absurd z (A2.disj a ha)
     cases ov with
     | leaf rv=>
      have E4:=r8 (ws2++[v]) (es2++[p.d]) (by simp [r6]) fun n x d a1 a2=>by
       by_cases hn:n<ws2.length
       ·rw [getElem?_append_left hn] at a1
        rw [getElem?_append_left (by omega)] at a2
        exact r7 n x d a1 a2
       ·have hn':n=ws2.length:=by
         have:=(List.getElem?_eq_some_iff.mp a1).1
         rw [length_append,length_singleton] at this;omega
        subst hn'
        rw [getElem?_append_right (Nat.le_refl _),Nat.sub_self] at a1;rw [getElem?_append_right (by omega),show ws2.length-es2.length=0 by omega] at a2
        cases a1
        cases a2;exact rv
      exact ⟨m,ws2,v,rfl,rfl,r5,by rw [r6];exact hc.2,w2 σ _ _ E4⟩
   ·exact w2.elim
  ·exact w2.elim
end
end T
namespace TQ
open PySem PySem.Spec L2 T
open PyProof.Rows hiding St
variable {X:Cx} {N gl:List Str} {vs cs ls lo gs:List Nat} {W:XW} {a b:Expr} {pos p:Pos} {fl:FL}
end TQ
namespace T
open PySem PySem.Spec L2
open PyProof.Rows hiding St
section
variable {K:Fg} {W:XW} {σ:St} {H:Hp} {Q:VK} {D:du} {fa fb:F1} {fl:FL}
open Classical in
end
def Be (i:Nat) (q:PV) (Γ:Ev):Out PV:=match Γ[i]? with
 | some (some p)=>if [p,q].all tok then .ok ⟨.tup ([p,q].map wX),.tuple ([p,q].map (·.d))⟩ (Γ.set i none) else .no
 | _=>.no
def B0 (i:Nat) (fb:F1):F1:=fun Γ=>if wO Γ[i]? then (fb Γ).bind (Be i) else .no
def BY (fl:FL):F1:=fun Γ=>(fl Γ).bind fun ps Γ1=>if ps.length<=sizeLine then .ok ⟨.view,.tuple (ps.map (·.d))⟩ Γ1 else .no
def Gy (i j:Nat) (fk:F1) (g:Nat->FS):FS:=fun Γ=>if wO Γ[i]?&&wO Γ[j]? then (match fk Γ with
 | .ok q Γ1=>(match q.d with
  | .int k=>if k=0 then g i Γ1 else if k=1 then g j Γ1 else .no
  | _=>.no)
 | _=>.no) else .no
end T
namespace KC
open PySem PySem.Spec L2 T PySem.SeqAt
open PyProof.Rows hiding St
noncomputable def Wd.inn (w:Wd) (L:List Nat):Wd:=⟨w.n,w.os,w.m,w.s.map fun row=>row.filter fun t=>L.contains t⟩
theorem Ao {w:Wd} {L:List Nat}:(w.inn L).stp=inn w.stp L:=by
 funext r
 unfold Wd.stp Wd.inn inn;simp only
 rw [getD_eq_getElem?_getD,getElem?_map,getD_eq_getElem?_getD]
 cases w.s[r]?<;>rfl
theorem DB {w:Wd} (ok:w.Ok) {L:List Nat}:(w.inn L).Ok0:=by
 refine ⟨ok.g.lo,ok.h24,by simp [Wd.inn,ok.ls],fun x hx=>?_⟩
 obtain ⟨l,hl,rfl⟩:=List.mem_map.mp hx;obtain ⟨_,h2,h3⟩:=ok.st l hl;exact ⟨Nat.le_trans (length_filter_le _ _) h2,fun t ht=>h3 t (List.mem_filter.mp ht).1⟩
theorem Ed {w:Wd} (ok:w.Ok) {L:List Nat}:bS [w.enc,aJ L]=.ok ⟨.tup [.leaf,.leaf,.lst .leaf],(w.inn L).enc⟩:=by
 have h24:=ok.h24
 have ls:=ok.ls
 have e:av .leaf 2 (aK (ah (ae 0) (eK (.int 2)))) aE (av .leaf 3 (aK (ae 2)) (aC aj (aw (bV false) (ae 3) (ae 1))) (ae 3)) (bw 4 [w.enc,aJ L])=.ok ⟨.lst .leaf,.list (w.s.map fun row=>aJ (row.filter fun t=>L.contains t))⟩ (bw 4 [w.enc,aJ L]):=by
  refine h9 aJ w.s (fun row=>⟨.lst .leaf,aJ (row.filter fun t=>L.contains t)⟩) (st:=true) (by simp [bw,Wd.enc,cW]) (by simp [bw]) rfl (by omega) (fun row hrow=>⟨?_,rfl⟩)
  refine qR rm row (fun t=>L.contains t) (fun t=>⟨.leaf,rm t⟩) (st:=true) (by simp [bw]) (by simp [bw]) rfl (by have:=(ok.st row hrow).2.1;omega) (fun t ht=>?_) (fun t ht _=>?_)
  ·exact b6 (s:=.leaf) (aI (aB rfl) (aB rfl) t5)
  ·simp [bw]
 have e3:(w.inn L).enc=.tuple [.list w.os,.list (w.m.map wW),.list (w.s.map fun row=>aJ (row.filter fun t=>L.contains t))]:=by
  unfold Wd.inn Wd.enc cW;simp
 rw [e3];refine aW (aS (dv (aH (fG (j:=0) (aB rfl) aV rfl rfl rfl) (aH (fG (j:=1) (aB rfl) aV rfl rfl rfl) (aH e ay))) rfl rfl) rfl)
theorem DA {w:Wd} (ok:w.Ok) {p:Int} {L:List Nat} (hL:∀r∈L,r<w.n) (hc:∀r∈L,led (own w p r) (w.stp r) (·∈L)):∀r∈L,(w.inn L).stp r≠[]:=fun r hr=>by
 rw [Ao];have h:=hc r hr
 cases ho:own w p r with
 | true=>
  rw [ho] at h;obtain ⟨t,ht,hl⟩:=led_t.mp h;exact List.ne_nil_of_mem (mem_inn.mpr ⟨ht,hl⟩)
 | false=>
  rw [ho] at h;obtain ⟨t,ht⟩:=exists_mem_of_ne_nil _ (ok.stp_ne (hL r hr));exact List.ne_nil_of_mem (mem_inn.mpr ⟨ht,led_f.mp h t ht⟩)
noncomputable abbrev gl (T L:List Nat):List Nat:=L.filter fun r=>T.contains r
theorem qA {w:Wd} (ok:w.Ok) {p:Int} {T L:List Nat} (hs:Std w.n L) (hc:∀r∈L,led (own w p r) (w.stp r) (·∈L)) :
  ∃rk,bI [w.enc,.int p,aJ T,aJ L]=.ok ⟨.lst .leaf,aR rk⟩/\RightG w.n (inn w.stp L) (own w p) L (gl T L) rk:=by
 have lo:=ok.g.lo
 have h24:=ok.h24
 have hl:=hs.len
 obtain ⟨rk,e,Rt,_⟩:=ED (DB ok (L:=L)) (cl:=w.os.map (qj p)) (thr:=L) (goal:=gl T L) (by rw [length_map];exact lo) (DA ok hs.lt hc) hs.lt (by omega) (fun r hr=>hs.lt r (List.mem_filter.mp hr).1) (Nat.le_trans (length_filter_le _ _) (by omega))
 rw [Ao] at Rt;refine ⟨rk,?_,Rt⟩
 have c0:av .leaf 5 (aK (ae 3)) (aC aj (aw (bV false) (ae 5) (ae 2))) (ae 5) (bw 7 [w.enc,.int p,aJ T,aJ L])=.ok ⟨.lst .leaf,.list ((gl T L).map fun t=>rm t)⟩ (bw 7 [w.enc,.int p,aJ T,aJ L]):=by
  refine qR rm L (fun r=>T.contains r) (fun t=>⟨.leaf,rm t⟩) (st:=true) (by simp [bw]) (by simp [bw]) rfl (by omega) (fun t ht=>?_) (fun t ht _=>?_)
  ·exact b6 (s:=.leaf) (aI (aB rfl) (aB rfl) t5)
  ·simp [bw]
 have c1:av .leaf 6 (aK (ah (ae 0) (eK (.int 0)))) aE (aw bg (ae 6) (ae 1)) [some ⟨.leaf,w.enc⟩,some ⟨.leaf,.int p⟩,some ⟨.leaf,aJ T⟩,some ⟨.leaf,aJ L⟩,some ⟨.leaf,aJ (gl T L)⟩,none,none]=.ok ⟨.lst .leaf,mZ (w.os.map (qj p))⟩ [some ⟨.leaf,w.enc⟩,some ⟨.leaf,.int p⟩,some ⟨.leaf,aJ T⟩,some ⟨.leaf,aJ L⟩,some ⟨.leaf,aJ (gl T L)⟩,none,none]:=by
  have:=h9 (fun d:D=>d) w.os (fun d=>⟨.leaf,.bool (qj p d)⟩) (s:=.leaf) (i:=6) (fi:=aK (ah (ae 0) (eK (.int 0)))) (fe:=aw bg (ae 6) (ae 1)) (st:=true) (Γ:=[some ⟨.leaf,w.enc⟩,some ⟨.leaf,.int p⟩,some ⟨.leaf,aJ T⟩,some ⟨.leaf,aJ L⟩,some ⟨.leaf,aJ (gl T L)⟩,none,none]) (by simp [Wd.enc,cW]) (by simp) rfl (by omega) (fun d hd=>by
   rcases ok.g.o d hd with rfl | rfl<;>simp [eq_int,qj])
  rw [this];simp
 refine aW (aA (cV c0 rfl (by simp [bw])) (aS (cC (aH (cC (aH (aB rfl) (aH (aB rfl) ay)) (Ed ok) rfl rfl) (aH c1 (aH (aB rfl) (aH (aB rfl) ay)))) e rfl rfl) rfl))
noncomputable abbrev lst (rk:List (Option Nat)) (L:List Nat):List Nat:=L.filter fun r=>(aU rk r).isNone
theorem mL {w:Wd} (ok:w.Ok) {p:Int} {T L:List Nat} (hs:Std w.n L) (hc:∀r∈L,led (own w p r) (w.stp r) (·∈L)) :
  ∃rk,cG [w.enc,.int p,aJ T,aJ L]=.ok ⟨.lst .leaf,aJ (lst rk L)⟩/\RightG w.n (inn w.stp L) (own w p) L (gl T L) rk:=by
 have h24:=ok.h24
 have hl:=hs.len
 obtain ⟨rk,e,Rt⟩:=qA ok (T:=T) hs hc
 refine ⟨rk,?_,Rt⟩
 have c0:av .leaf 5 (aK (ae 3)) (aC aj (aw (aO false) (ah (ae 4) (ae 5)) (eK .none))) (ae 5) [some ⟨.leaf,w.enc⟩,some ⟨.leaf,.int p⟩,some ⟨.leaf,aJ T⟩,some ⟨.leaf,aJ L⟩,some ⟨.leaf,aR rk⟩,none]=.ok ⟨.lst .leaf,.list ((lst rk L).map fun t=>rm t)⟩ [some ⟨.leaf,w.enc⟩,some ⟨.leaf,.int p⟩,some ⟨.leaf,aJ T⟩,some ⟨.leaf,aJ L⟩,some ⟨.leaf,aR rk⟩,none]:=by
  refine qR rm L (fun r=>(aU rk r).isNone) (fun t=>⟨.leaf,rm t⟩) (st:=true) (by simp) (by simp) rfl (by omega) (fun t ht=>?_) (fun t ht _=>?_)
  ·have a1:=iW (rk:=rk) (t:=t) (by rw [Rt.len];exact hs.lt t ht)
   simp [a1]
  ·simp
 refine aW (aA (cV (cC (aH (aB rfl) (aH (aB rfl) (aH (aB rfl) (aH (aB rfl) ay)))) e rfl rfl) rfl (by simp [bw])) (aS c0 rfl))
noncomputable def tD:Option (Nat×Nat)->D
 | none=>.none
 | some (a,b)=>.tuple [.int (a:Int),.int (b:Int)]
@[simp] theorem C1 (o:Option (Nat×Nat)):oj (tD o)=o.isNone:=by cases o<;>rfl
noncomputable abbrev d7 (tn:List (Option (Nat×Nat))):D:=.list (tn.map tD)
noncomputable def dj (tn:List (Option (Nat×Nat))) (t:Nat):Option (Nat×Nat):=tn.getD t none
theorem tP {tn:List (Option (Nat×Nat))} {t:Nat} (h:t<tn.length):eR (tn.map tD) (t:Int)=some (tD (dj tn t)):=by
 refine Ai ?_
 unfold dj;rw [getElem?_map,getD_eq_getElem?_getD,getElem?_eq_getElem h];rfl
noncomputable def cJ (rk:List (Option Nat)) (k:Nat) (tn:List (Option (Nat×Nat))) (r:Nat):List (Option (Nat×Nat)):=match aU rk r with
 | some j=>tn.set r (some (k,j))
 | none=>tn
theorem DU {rk:List (Option Nat)} {k:Nat} {tn:List (Option (Nat×Nat))} {r:Nat}:(cJ rk k tn r).length=tn.length:=by
 unfold cJ;split
 ·exact length_set
 ·rfl
theorem u6 {rk:List (Option Nat)} {k:Nat} {tn:List (Option (Nat×Nat))} {r t:Nat} (hr:r<tn.length):dj (cJ rk k tn r) t=if t=r then (match aU rk t with | some j=>some (k,j) | none=>dj tn t) else dj tn t:=by
 unfold cJ;split
 ·rename_i j e
  unfold dj;rw [getD_eq_getElem?_getD,getD_eq_getElem?_getD];split
  ·rename_i z
   subst z;rw [getElem?_set_self hr,e];rfl
  ·rename_i z
   rw [getElem?_set_ne (fun y=>z y.symm)]
 ·rename_i e
  split
  ·rename_i z
   subst z;rw [e]
  ·rfl
theorem CH {rk:List (Option Nat)} {k t:Nat}:∀(L:List Nat) (tn:List (Option (Nat×Nat))),(∀r∈L,r<tn.length)->L.Nodup->dj (L.foldl (cJ rk k) tn) t=if t∈L then (match aU rk t with | some j=>some (k,j) | none=>dj tn t) else dj tn t
 | [],tn,_,_=>by simp
 | a::r,tn,h,nd=>by
  rw [foldl_cons,CH r _ (fun b hb=>by rw [DU];exact h b (mem_cons_of_mem _ hb)) (List.nodup_cons.mp nd).2,u6 (h a mem_cons_self)]
  by_cases e1:t=a
  ·subst e1
   have:t∉r:=(List.nodup_cons.mp nd).1
   simp [this]
  ·simp [e1]
theorem DX {rk:List (Option Nat)} {k:Nat}:∀(L:List Nat) (tn:List (Option (Nat×Nat))),(L.foldl (cJ rk k) tn).length=tn.length
 | [],_=>rfl
 | a::r,tn=>by rw [foldl_cons,DX,DU]
noncomputable def qO (tn:List (Option (Nat×Nat))) (a b t:Nat):Prop:=∃a' b',dj tn t=some (a',b')/\(a'<a\/(a'=a/\(b'<b\/(b=0/\b'=0))))
structure TS where
 tn:List (Option (Nat×Nat))
 L:List Nat
 k:Nat
 lost:List Nat
 x7:Option PV
 x8:Option PV
structure TI (w:Wd) (p:Int) (T:List Nat) (b:TS):Prop where
 len:b.tn.length=w.n
 std:Std w.n b.L
 mem:∀r,r<w.n->(r∈b.L↔dj b.tn r=none)
 c:∀r∈b.L,led (own w p r) (w.stp r) (·∈b.L)
 big:∀X,Suff w.n w.stp (own w p) (·∈T) X->∀r,X r->r∈b.L
 los:∃rk,RightG w.n (inn w.stp b.L) (own w p) b.L (gl T b.L) rk/\b.lost=lst rk b.L
 tk:∀r a j,dj b.tn r=some (a,j)->a<b.k
 td:∀r a j,r<w.n->dj b.tn r=some (a,j)->(j=0->r∉T)/\led (!own w p r) (w.stp r) (qO b.tn a j)
theorem TI.step {w:Wd} (ok:w.Ok) {p:Int} {T:List Nat} {b:TS} (I:TI w p T b) {rk2:List (Option Nat)} (R2:RightG w.n (inn w.stp b.L) (fun r=>!own w p r) b.L b.lost rk2) (hne:b.lost≠[]) {rk:List (Option Nat)} {y7 y8:Option PV}
  (hR:(∀r∈b.L.filter (fun r=>(aU rk2 r).isNone),led (own w p r) (w.stp r) (·∈b.L.filter (fun r=>(aU rk2 r).isNone)))->RightG w.n (inn w.stp (b.L.filter fun r=>(aU rk2 r).isNone)) (own w p) (b.L.filter fun r=>(aU rk2 r).isNone) (gl T (b.L.filter fun r=>(aU rk2 r).isNone)) rk) :
  TI w p T ⟨b.L.foldl (cJ rk2 b.k) b.tn,b.L.filter fun r=>(aU rk2 r).isNone,b.k+1,lst rk (b.L.filter fun r=>(aU rk2 r).isNone),y7,y8⟩/\(b.L.filter fun r=>(aU rk2 r).isNone).length<b.L.length:=by
 have hL:=I.std.lt
 have nd:b.L.Nodup:=I.std.sorted.imp fun h=>by omega
 have pt:∀t,dj (b.L.foldl (cJ rk2 b.k) b.tn) t=if t∈b.L then (match aU rk2 t with | some j=>some (b.k,j) | none=>dj b.tn t) else dj b.tn t:=fun t=>CH _ _ (fun r hr=>by rw [I.len];exact hL r hr) nd
 have hm:∀r,r∈b.L.filter (fun r=>(aU rk2 r).isNone)↔r∈b.L/\aU rk2 r=none:=fun r=>by simp
 obtain ⟨rk1,R1,el⟩:=I.los;have hlost:∀r,r∈b.lost↔r∈b.L/\aU rk1 r=none:=fun r=>by rw [el];simp
 have hc':∀r∈b.L.filter (fun r=>(aU rk2 r).isNone),led (own w p r) (w.stp r) (·∈b.L.filter (fun r=>(aU rk2 r).isNone)):=fun r hr=>by
  obtain ⟨h1,h2⟩:=(hm r).mp hr;exact rh (sS hL I.c R2 h1 h2) fun t _ h=>(hm t).mpr h
 have keep:∀r v,dj b.tn r=some v->dj (b.L.foldl (cJ rk2 b.k) b.tn) r=some v:=fun r v e=>by
  rw [pt];split
  ·rename_i hr
   have:=(I.mem r (hL r hr)).mp hr
   rw [this] at e
   cases e
  ·exact e
 refine ⟨⟨by rw [DX];exact I.len,I.std.filter _,fun r hr=>?_,hc',fun X hX r hx=>?_,⟨rk,hR hc',rfl⟩,fun r a j e=>?_,fun r a j hr e=>?_⟩,?_⟩
 ·show r∈b.L.filter (fun r=>(aU rk2 r).isNone)↔dj (b.L.foldl (cJ rk2 b.k) b.tn) r=none
  rw [hm,pt];constructor
  ·rintro ⟨h1,h2⟩
   rw [if_pos h1,h2];exact (I.mem r hr).mp h1
  ·intro h
   split at h
   ·rename_i h1
    cases e:aU rk2 r with
    | none=>exact ⟨h1,rfl⟩
    | some j=>rw [e] at h;cases h
   ·rename_i h1
    exact absurd ((I.mem r hr).mpr h) h1
 ·show r∈b.L.filter (fun r=>(aU rk2 r).isNone)
  refine (hm r).mpr ⟨I.big X hX r hx,?_⟩
  refine hX.stays (fun r t ht=>ok.stp_lt ht) (I.big X hX) (fun r hx hl=>?_) R2 hx
  exact hX.ranked (I.big X hX) (fun r h1 h2=>List.mem_filter.mpr ⟨h1,by simpa using h2⟩) R1 hx ((hlost r).mp hl).2
 ·have e:dj (b.L.foldl (cJ rk2 b.k) b.tn) r=some (a,j):=e
  show a<b.k+1
  rw [pt] at e;split at e
  ·cases e2:aU rk2 r with
   | none=>rw [e2] at e;have:=I.tk r a j e;omega
   | some i=>rw [e2] at e;cases e;omega
  ·have:=I.tk r a j e;omega
 ·have e:dj (b.L.foldl (cJ rk2 b.k) b.tn) r=some (a,j):=e
  have old:dj b.tn r=some (a,j)->(j=0->r∉T)/\led (!own w p r) (w.stp r) (qO (b.L.foldl (cJ rk2 b.k) b.tn) a j):=fun e=>by
   obtain ⟨h1,h2⟩:=I.td r a j hr e;exact ⟨h1,rh h2 fun t _ ⟨a',b',e',h⟩=>⟨a',b',keep t _ e',h⟩⟩
  rw [pt] at e;split at e
  case isFalse=>exact old e
  rename_i hrL
  cases e2:aU rk2 r with
  | none=>rw [e2] at e;exact old e
  | some i=>
   rw [e2] at e;have e:=Option.some.inj e
   have ea:=(Prod.mk.inj e).1
   have ej:=(Prod.mk.inj e).2
   subst ea;subst ej;have out:∀t∈w.stp r,t∉b.L->qO (b.L.foldl (cJ rk2 b.k) b.tn) b.k i t:=fun t ht hn=>by
    have htn:=ok.stp_lt ht
    cases e3:dj b.tn t with
    | none=>exact absurd ((I.mem t htn).mpr e3) hn
    | some v=>
     obtain ⟨a',b'⟩:=v;exact ⟨a',b',keep t _ e3,.inl (I.tk t a' b' e3)⟩
   have xr:∀t,t∈b.L->∀i',aU rk2 t=some i'->dj (b.L.foldl (cJ rk2 b.k) b.tn) t=some (b.k,i'):=fun t ht i' e3=>by rw [pt,if_pos ht,e3]
   by_cases hl:r∈b.lost
   ·have h0:i=0:=by have:=R2.g r hr hl;rw [e2] at this;cases this;rfl
    subst h0;obtain ⟨_,hz⟩:=(hlost r).mp hl;refine ⟨fun _ hT=>(R1.z r hr hz).1 (List.mem_filter.mpr ⟨hrL,by simpa using hT⟩),?_⟩
    have hno:=R1.no hr hrL hz
    have good:∀t∈inn w.stp b.L r,aU rk1 t=none->qO (b.L.foldl (cJ rk2 b.k) b.tn) b.k 0 t:=fun t ht z=>by
     obtain ⟨h1,h2⟩:=mem_inn.mp ht;exact ⟨b.k,0,xr t h2 0 (R2.g t (hL t h2) ((hlost t).mpr ⟨h2,z⟩)),.inr ⟨rfl,.inr ⟨rfl,rfl⟩⟩⟩
    cases ho:own w p r with
    | true=>
     rw [ho] at hno;refine led_f.mpr fun t ht=>?_
     by_cases h:t∈b.L
     ·have:=mem_inn.mpr ⟨ht,h⟩
      exact good t this (led_f.mp hno t this)
     ·exact out t ht h
    | false=>
     rw [ho] at hno;obtain ⟨t,ht,z⟩:=led_t.mp hno;exact led_t.mpr ⟨t,(mem_inn.mp ht).1,good t ht z⟩
   ·obtain ⟨h1,_,h3⟩:=R2.p r i hr hl e2
    refine ⟨fun z=>by omega,?_⟩
    have good:∀t∈inn w.stp b.L r,(∃i',aU rk2 t=some i'/\i'<i)->qO (b.L.foldl (cJ rk2 b.k) b.tn) b.k i t:=fun t ht ⟨i',z1,z2⟩=>⟨b.k,i',xr t (mem_inn.mp ht).2 i' z1,.inr ⟨rfl,.inl z2⟩⟩
    cases ho:own w p r with
    | true=>
     simp only [ho,Bool.not_true] at h3
     refine led_f.mpr fun t ht=>?_
     by_cases h:t∈b.L
     ·have:=mem_inn.mpr ⟨ht,h⟩
      exact good t this (led_f.mp h3 t this)
     ·exact out t ht h
    | false=>
     simp only [ho,Bool.not_false] at h3
     obtain ⟨t,ht,z⟩:=led_t.mp h3;exact led_t.mpr ⟨t,(mem_inn.mp ht).1,good t ht z⟩
 ·obtain ⟨x,hx⟩:=exists_mem_of_ne_nil _ hne
  have hxL:=((hlost x).mp hx).1
  have h0:=R2.g x (hL x hxL) hx
  have:(b.L.filter fun r=>(aU rk2 r).isNone).length≠b.L.length:=fun e=>by
   have:=List.length_filter_eq_length_iff.mp e x hxL
   rw [h0] at this
   cases this
  have:=length_filter_le (fun r=>(aU rk2 r).isNone) b.L
  omega
noncomputable abbrev wo (w:Wd) (p:Int) (T:List Nat) (b:TS):Ev:=[some ⟨.leaf,w.enc⟩,some ⟨.leaf,.int p⟩,some ⟨.leaf,aJ T⟩,some ⟨.lst .leaf,d7 b.tn⟩,some ⟨.leaf,aJ b.L⟩,some ⟨.leaf,.int (b.k:Int)⟩,some ⟨.leaf,aJ b.lost⟩,b.x7,b.x8,none]
noncomputable abbrev wZ:FS:=(bf (aC aj (aw (aO true) (ah (ae 7) (ae 8)) (eK .none))) (dk 3 (bF (ab (ae 5) (ab (ah (ae 7) (ae 8)) af))) (ae 8)) az)
noncomputable abbrev nt:FS:=(ao (ax false 7 (ai 4 bW (ab (ai 2 bS (ab (ae 0) (ab (ae 4) af))) (ab (av .leaf 9 (aK (ah (ae 0) (eK (.int 0)))) aE (aw bK (ae 9) (ae 1))) (ab (ae 4) (ab (ae 6) af))))))
  (ao (cM 8 (aK (ae 4)) wZ)
  (ao (fN 5 (eK (.int 1)))
  (ao (ax false 4 (av .leaf 8 (aK (ae 4)) (aC aj (aw (aO false) (ah (ae 3) (ae 8)) (eK .none))) (ae 8)))
  (ax false 6 (ai 4 cG (ab (ae 0) (ab (ae 1) (ab (ae 2) (ab (ae 4) af))))))))))
structure Cu (w:Wd) (p:Int) (T:List Nat) (tn:List (Option (Nat×Nat))) (L:List Nat):Prop where
 len:tn.length=w.n
 std:Std w.n L
 mem:∀r,r<w.n->(r∈L↔dj tn r=none)
 c:∀r∈L,led (own w p r) (w.stp r) (·∈L)
 suff:Suff w.n w.stp (own w p) (·∈T) (·∈L)
 big:∀X,Suff w.n w.stp (own w p) (·∈T) X->∀r,X r->r∈L
 td:∀r a j,r<w.n->dj tn r=some (a,j)->(j=0->r∉T)/\led (!own w p r) (w.stp r) (qO tn a j)
noncomputable def BO (rk:List (Option Nat)) (h t:Nat):Bool:=if aU rk h=some 0 then !(aU rk t).isNone else qf (aU rk t) (aU rk h)
theorem kP {rk:List (Option Nat)} {h t:Nat} (hh:h<rk.length) (ht:t<rk.length):bX [aR rk,rm h,rm t]=.ok ⟨.leaf,.bool (BO rk h t)⟩:=by
 have a1:=iW (rk:=rk) hh
 have a2:=iW (rk:=rk) ht
 have dl:=qv (a:=aU rk t) (b:=aU rk h)
 have e:∀o:Option Nat,bg (oD o) (.int 0)=some (.bool (decide (o=some 0))):=fun o=>by
  cases o with
  | none=>kernel_rfl
  | some k=>
   show bg (.int (k:Int)) (.int 0)=_
   rw [eq_int];congr 2
   rw [Bool.eq_iff_iff];simp
 refine aW ?_
 unfold BO;by_cases q:aU rk h=some 0
 ·simp [fF,bw,a1,a2,e,q]
 ·simp [fF,bw,a1,a2,e,q,dl]
theorem v_or {Γ:Ev} {fa fb:F1} {s:Sh} {a b:Bool} (ha:fa Γ=.ok ⟨s,.bool a⟩ Γ) (hb:fb Γ=.ok ⟨.leaf,.bool b⟩ Γ):qo fa fb Γ=.ok ⟨.leaf,.bool (a||b)⟩ Γ:=by
 unfold qo bj;rw [ha]
 cases a with
 | true=>cases s<;>rfl
 | false=>exact hb
noncomputable def B6 (tn:List (Option (Nat×Nat))) (h t:Nat):Bool:=match dj tn h,dj tn t with
 | some (a,b),some (a',b')=>if a=a' then decide (b'<b)||(decide (b=0)&&decide (b'=0)) else decide (a'<a)
 | _,_=>false
theorem iO {tn:List (Option (Nat×Nat))} {h t:Nat} (hh:h<tn.length) (ht:t<tn.length):bG [d7 tn,rm h,rm t]=.ok ⟨.leaf,.bool (B6 tn h t)⟩:=by
 have a1:=tP (tn:=tn) hh
 have a2:=tP (tn:=tn) ht
 refine aW ?_
 unfold B6
 cases e1:dj tn h with
 | none=>rw [e1] at a1;simp [dX,bw,a1,a2]
 | some v=>
  obtain ⟨a,b⟩:=v
  cases e2:dj tn t with
  | none=>rw [e1] at a1;rw [e2] at a2;simp [dX,bw,a1,a2]
  | some u=>
   obtain ⟨a',b'⟩:=u;rw [e1] at a1;rw [e2] at a2;simp only [tD] at a1 a2
   have g1:∀x y:Nat,bK (.int (x:Int)) (.int (y:Int))=some (.bool (!decide (x=y))):=fun x y=>by
    rw [ne_int];congr 3
    rw [Bool.eq_iff_iff];simp
    omega
   have g2:∀x:Nat,bg (.int (x:Int)) (.int 0)=some (.bool (decide (x=0))):=fun x=>by
    rw [eq_int];congr 2
    rw [Bool.eq_iff_iff];simp
   have g3:∀x y:Nat,dI (.int (x:Int)) (.int (y:Int))=some (.bool (decide (x<y))):=fun x y=>by
    rw [lt_int];congr 2
    rw [Bool.eq_iff_iff];simp
   have s1:ax false 3 (ah (ae 0) (ae 1)) (bw 5 [d7 tn,rm h,rm t])=.nx [some ⟨.leaf,d7 tn⟩,some ⟨.leaf,rm h⟩,some ⟨.leaf,rm t⟩,some ⟨.leaf,.tuple [.int (a:Int),.int (b:Int)]⟩,none]:=by simp [bw,a1]
   have s2:ax false 4 (ah (ae 0) (ae 2)) [some ⟨.leaf,d7 tn⟩,some ⟨.leaf,rm h⟩,some ⟨.leaf,rm t⟩,some ⟨.leaf,.tuple [.int (a:Int),.int (b:Int)]⟩,none]=.nx [some ⟨.leaf,d7 tn⟩,some ⟨.leaf,rm h⟩,some ⟨.leaf,rm t⟩,some ⟨.leaf,.tuple [.int (a:Int),.int (b:Int)]⟩,some ⟨.leaf,.tuple [.int (a':Int),.int (b':Int)]⟩]:=by simp [a2]
   refine aA s1 (aA s2 (aA (aN (t:=false) (dQ (a:=false) (b:=false) (b6 (s:=.leaf) (aI (aB rfl) aV rfl)) (b6 (s:=.leaf) (aI (aB rfl) aV rfl))) nofun (fun _=>rfl)) ?_))
   have t1:aC aj (aw bK (ah (ae 3) (eK (.int 0))) (ah (ae 4) (eK (.int 0)))) [some ⟨.leaf,d7 tn⟩,some ⟨.leaf,rm h⟩,some ⟨.leaf,rm t⟩,some ⟨.leaf,.tuple [.int (a:Int),.int (b:Int)]⟩,some ⟨.leaf,.tuple [.int (a':Int),.int (b':Int)]⟩]=.ok (!decide (a=a')) [some ⟨.leaf,d7 tn⟩,some ⟨.leaf,rm h⟩,some ⟨.leaf,rm t⟩,some ⟨.leaf,.tuple [.int (a:Int),.int (b:Int)]⟩,some ⟨.leaf,.tuple [.int (a':Int),.int (b':Int)]⟩]:=by simp [g1]
   by_cases q:a=a'
   ·dsimp only
    rw [if_pos q];rw [decide_eq_true q] at t1;refine aA (aN t1 nofun (fun _=>rfl)) (aS (v_or (s:=.leaf) (aI (fG (j:=1) (aB rfl) aV rfl rfl rfl) (fG (j:=1) (aB rfl) aV rfl rfl rfl) (g3 _ _)) (v_and (s:=.leaf) (aI (fG (j:=1) (aB rfl) aV rfl rfl rfl) aV (g2 _)) (aI (fG (j:=1) (aB rfl) aV rfl rfl rfl) aV (g2 _)))) rfl)
   ·dsimp only
    rw [if_neg q];rw [decide_eq_false q] at t1;refine d8 (aN t1 (fun _=>aS (aI (fG (j:=0) (aB rfl) aV rfl rfl rfl) (fG (j:=0) (aB rfl) aV rfl rfl rfl) (g3 _ _)) rfl) nofun)
noncomputable def vi (w:Wd) (rk:List (Option Nat)) (r:Nat):List Nat:=(w.stp r).filter fun t=>BO rk r t
noncomputable def zS (w:Wd) (tn:List (Option (Nat×Nat))) (r:Nat):List Nat:=(w.stp r).filter fun t=>B6 tn r t
noncomputable abbrev FM (w:Wd) (c:Str) (r:Nat):Prop:=c∈w.mks r
structure Cq (w:Wd) (M:List Str) (L off:List Nat):Prop where
 ne:off≠[]
 sub:∀r∈off,r∈L
 no:∀(R:Nat->Prop) X,Fr w.n w.stp R M (FM w) X->(∀r,X r->r∈L)->∀r∈off,¬X r
structure Ct (w:Wd) (M:List Str) (L:List Nat):Prop where
 c:∀r∈L,∃t∈w.stp r,t∈L
 a:∀m∈M,∀S:Nat->Prop,(∀r,r∈L->FM w m r->S r)->(∀r,r∈L->(∃t∈w.stp r,t∈L/\S t)->S r)->∀r,r∈L->S r
structure HF where
 rows:List D
 L:List Nat
 row:D
structure FI (w:Wd) (R:List Nat) (M:List Str) (b:HF):Prop where
 std:Std w.n b.L
 sub:∀r∈b.L,r∈R
 cnt:b.rows.length+b.L.length<=w.n
 big:∀X,Fr w.n w.stp (·∈R) M (FM w) X->∀r,X r->r∈b.L
 row:(b.row=.none/\Ct w M b.L)\/(∃off o,b.row=.tuple [aJ off,o]/\Cq w M b.L off)
theorem rA {is:List Nat} {f:F1} {Γ Γ1 Γ':Ev} {p:PV} {ps:List PV} (h:f Γ=.ok p Γ1) (hu:xX p=some ps) (hl:ps.length=is.length) (hp:putN is ps Γ1=some Γ'):fM is f Γ=.nx Γ':=by
 unfold fM fz;rw [h];simp only [hu,hl,if_true,hp]
theorem Gb {c k:Int} (h0:0<=k) (h1:k<=1000):df c k 2=0\/df c k 2=1:=by
 have:=uf (c:=c) (k:=k) (b:=2) h0 h1 (by omega) (by omega)
 omega
noncomputable def Gp (w:Wd):List Nat->Prop
 | a::b::r=>b∈w.stp a/\Gp w (b::r)
 | _=>True
structure Las (w:Wd) (p:List Nat):Prop where
 ch:Gp w p
 nd:p.Nodup
 bk:∃z t,p.getLast?=some z/\t∈w.stp z/\t∈p
theorem DC:∀{n:Nat} {p:List Nat},p.Nodup->(∀x∈p,x<n)->p.length<=n
 | 0,[],_,_=>Nat.le_refl _
 | 0,a::p,_,h=>absurd (h a (by simp)) (Nat.not_lt_zero _)
 | n+1,p,nd,h=>by
  by_cases hn:n∈p
  ·have:=DC (n:=n) (nd.erase n) fun x hx=>by
    obtain ⟨h1,h2⟩:=nd.mem_erase_iff.mp hx;have:=h x h2
    omega
   rw [List.length_erase_of_mem hn] at this;omega
  ·have:=DC (n:=n) nd fun x hx=>by
    have h1:=h x hx
    have:x≠n:=fun e=>hn (e▸hx)
    omega
   omega
end KC
namespace KQ
open PySem PySem.Spec L2 T
open PyProof.Rows hiding St
open KC
noncomputable def d__law_rooms:FS:=(aG (av .leaf 2 (cx (ab (ae 1) af)) (aC aj (aw eF (ai 3 ak (ab (ae 0) (ab (ae 2) (ab (eK (.int 3)) af)))) (eK (.int 0)))) (ae 2)))
noncomputable def m__law_rooms:List PySem.PyData->bD:=aL 3 d__law_rooms
end KQ
namespace KC
open PySem PySem.Spec L2 T PySem.SeqAt
open PyProof.Rows hiding St
theorem wC {s:Sh} {l:List Nat}:fx ⟨s,aJ l⟩ (l.map rm)=true:=by
 unfold fx;simp [bz]
structure Hm (w:Wd) (F R:List Nat):Prop where
 ne:R≠[]
 lt:∀x∈F++R,x<w.n
 ch:Gp w (F++R++R.take 1)
 len:F.length+R.length<=1000
theorem Av {w:Wd} (ok:w.Ok) {Γ:Ev} {i:Nat} {fb:F1} {s:Sh} {r:Nat} (h0:Γ[i]?=some (some ⟨.leaf,w.enc⟩)) (hb:fb Γ=.ok ⟨s,rm r⟩ Γ) (hr:r<w.n):ah (ah (ae i) (eK (.int 2))) fb Γ=.ok ⟨.leaf,aJ (w.stp r)⟩ Γ:=by
 rw [md,md,aB h0];simp only [Out.bind,aV,Wd.enc,cW,sm,BB]
 rw [hb];simp only [xf]
 rw [ok.at2 hr]
theorem wQ {w:Wd} (ok:w.Ok) {Γ:Ev} {i:Nat} (h0:Γ[i]?=some (some ⟨.leaf,w.enc⟩)):aY aM (ab (ah (ae i) (eK (.int 0))) af) Γ=.ok ⟨.leaf,.int (w.n:Int)⟩ Γ:=by
 have e:ah (ae i) (eK (.int 0)) Γ=.ok ⟨.leaf,.list w.os⟩ Γ:=by
  rw [md,aB h0];simp only [Out.bind,aV,Wd.enc,cW,sm,xg]
 refine bT (aH e ay) ?_
 simp [ok.g.lo]
end KC
namespace KQ
open PySem PySem.Spec L2 T
open PyProof.Rows hiding St
open KC
noncomputable def d_brought:FS:=(ao (ax false 3 (aY aM (ab (ah (ae 0) (eK (.int 0))) af)))
  (ao (ax true 4 (ai 4 bW (ab (ae 0) (ab (av .leaf 5 (aK (ah (ae 0) (eK (.int 0)))) aE (aw bg (ae 5) (ae 1))) (ab (ue (ab (ae 3) af)) (ab (ae 2) af))))))
  (aG (B0 4 (ai 3 bR (ab (ae 0) (ab (ae 1) (ab (av .leaf 6 (cx (ab (ae 3) af)) aE (oi 3 fg (ab (ae 0) (ab (ae 4) (ab (ae 6) af))))) af))))))))
noncomputable def m_brought:List PySem.PyData->bD:=aL 7 d_brought
noncomputable def d_bring:FS:=(ao (cK (ai 3 bp (ab (ae 0) (ab (ae 1) (ab (ae 2) af)))))
  (aG (ai 3 m_brought (ab (ae 0) (ab (ae 1) (ab (ae 2) af))))))
noncomputable def m_bring:List PySem.PyData->bD:=aL 3 d_bring
noncomputable def nX:FS:=(ao (bf (aC aj (aw bK (ah (ah (ae 0) (eK (.int 0))) (ae 3)) (ae 1))) (aG (ah (ah (ae 0) (eK (.int 2))) (ae 3))) az)
  (aG (fm (aC aj (aw (aO false) (ah (ae 2) (ae 3)) (eK .none))) (aP .leaf af) (aP .leaf (ab (ah (ae 2) (ae 3)) af)))))
noncomputable def cy:List PySem.PyData->bD:=aL 4 nX
noncomputable def d_is_room_right:FS:=(ao (ax false 6 (ah (ae 3) (ae 5)))
  (ao (bf (aC aj (aw (bV false) (ae 5) (ae 2))) (aG (aw bg (ae 6) (eK (.int 0)))) az)
  (ao (bf (aC aj (aw (aO false) (ae 6) (eK .none))) (aG (nR (ai 2 dm (ab (aw bg (ah (ah (ae 0) (eK (.int 0))) (ae 5)) (ae 1)) (ab (av .leaf 8 (aK (ah (ah (ae 0) (eK (.int 2))) (ae 5))) aE (aw (aO true) (ah (ae 3) (ae 8)) (eK .none))) af))))) az)
  (ao (ax false 7 (av .leaf 8 (aK (ai 4 cy (ab (ae 0) (ab (ae 1) (ab (ae 4) (ab (ae 5) af)))))) aE (ah (ae 3) (ae 8))))
  (aG (de (aw eF (ae 6) (eK (.int 0))) (de (aw eF (aY aM (ab (ae 7) af)) (eK (.int 0))) (aY (cE false) (ab (av .leaf 9 (aK (ae 7)) aE (ai 2 cO (ab (ae 9) (ab (ae 6) af)))) af)))))))))
noncomputable def m_is_room_right:List PySem.PyData->bD:=aL 10 d_is_room_right
noncomputable def g7:FS:=(ao (bf (b7 (aC aj (aw bK (aY aM (ab (ae 3) af)) (aY aM (ab (ah (ae 0) (eK (.int 0))) af)))) (bu (aC aZ (ai 3 bO (ab (ae 0) (ab (ae 1) (ab (ae 4) af))))))) (aG (eK (.bool false))) az)
  (aG (aY (cE false) (ab (av .leaf 5 (cx (ab (aY aM (ab (ae 3) af)) af)) aE (ai 6 m_is_room_right (ab (ae 0) (ab (ae 1) (ab (ae 2) (ab (ae 3) (ab (ae 4) (ab (ae 5) af)))))))) af))))
noncomputable def d2:List PySem.PyData->bD:=aL 6 g7
noncomputable def jA:FS:=(ao (cK (ai 3 bp (ab (ae 0) (ab (ae 1) (ab (ae 2) af)))))
  (aG (ai 5 d2 (ab (ae 0) (ab (ae 1) (ab (ae 2) (ab (ae 3) (ab (ae 4) af))))))))
noncomputable def dH:List PySem.PyData->bD:=aL 5 jA
noncomputable def mU:FS:=(aG (bF (ab (ia (ah (ae 0) (eK (.int 0)))) (ab (av .leaf 1 (aK (ah (ae 0) (eK (.int 1)))) aE (ia (ae 1))) (ab (av .leaf 1 (aK (ah (ae 0) (eK (.int 2)))) aE (ia (ae 1))) af)))))
noncomputable def bY:List PySem.PyData->bD:=aL 2 mU
noncomputable def kW:FS:=(aG (de (dW "int" (ae 0)) (nR (dW "bool" (ae 0)))))
noncomputable def bA:List PySem.PyData->bD:=aL 1 kW
noncomputable def oa:FS:=(aG (av .leaf 2 (cx (ab (ae 1) af)) (aC aj (aw bg (ai 3 ak (ab (ae 0) (ab (ae 2) (ab (eK (.int 3)) af)))) (eK (.int 0)))) (ae 2)))
noncomputable def fE:List PySem.PyData->bD:=aL 3 oa
noncomputable def iS:FS:=(ao (bf (b7 (bu (aC aZ (dW "list" (ae 2)))) (aC aj (aw bK (aY aM (ab (ae 2) af)) (aY aM (ab (ah (ae 0) (eK (.int 0))) af))))) (aG (eK (.bool false))) az)
  (ao (cM 3 (cx (ab (aY aM (ab (ae 2) af)) af))
  (ao (ax false 4 (ah (ae 2) (ae 3)))
  (ao (bf (bQ (aC aj (aw (aO true) (ae 4) (eK .none))) (b7 (bu (aC aZ (ai 1 bA (ab (ae 4) af)))) (aC aj (aw bK (ah (ah (ae 0) (eK (.int 0))) (ae 3)) (ae 1))))) (aG (eK (.bool false))) az)
  (bf (bQ (aC aj (aw (aO true) (ae 4) (eK .none))) (aC aj (aw (bV true) (ae 4) (ah (ah (ae 0) (eK (.int 2))) (ae 3))))) (aG (eK (.bool false))) az))))
  (aG (eK (.bool true)))))
noncomputable def bM:List PySem.PyData->bD:=aL 5 iS
noncomputable def nZ:FS:=(ao (ax false 4 (av .leaf 5 (aK (ah (ah (ae 0) (eK (.int 2))) (ae 2))) (aC aj (aw (bV false) (ae 5) (ae 3))) (ae 5)))
  (ao (bf (aC aj (aw bg (ah (ah (ae 0) (eK (.int 0))) (ae 2)) (ae 1))) (aG (aw eF (aY aM (ab (ae 4) af)) (eK (.int 0)))) az)
  (aG (aw bg (aY aM (ab (ae 4) af)) (aY aM (ab (ah (ah (ae 0) (eK (.int 2))) (ae 2)) af))))))
noncomputable def fC:List PySem.PyData->bD:=aL 6 nZ
noncomputable def iU:FS:=(ao (ax false 3 (aY aM (ab (ah (ae 0) (eK (.int 0))) af)))
  (ao (ax true 4 (av .leaf 8 (cx (ab (ae 3) af)) aE (fm (aC aj (aw (bV false) (ae 8) (ae 2))) (eK (.int 0)) (eK .none))))
  (ao (cM 5 (vB (ab (eK (.int 1)) (ab (aw bc (ae 3) (eK (.int 1))) af)))
  (ao (ax false 6 (av .leaf 8 (cx (ab (ae 3) af)) (aC aj (aw (aO true) (ah (ae 4) (ae 8)) (eK .none))) (ae 8)))
  (ao (ax false 7 (av .leaf 8 (cx (ab (ae 3) af)) (bQ (aC aj (aw (aO false) (ah (ae 4) (ae 8)) (eK .none))) (aC aZ (ai 4 fC (ab (ae 0) (ab (ae 1) (ab (ae 8) (ab (ae 6) af))))))) (ae 8)))
  (cM 8 (aK (ae 7))
  (dk 4 (ae 5) (ae 8))))))
  (aG (bB 4)))))
noncomputable def eE:List PySem.PyData->bD:=aL 9 iU
noncomputable def gC:FS:=(ao (bf (b7 (bu (aC aZ (dW "list" (ae 0)))) (aC aj (aw bK (ae 0) (ae 1)))) (aG (eK (.bool false))) az)
  (aG (aY (cE false) (ab (av .leaf 2 (aK (ae 0)) aE (qo (aw (aO false) (ae 2) (eK .none)) (ai 1 bA (ab (ae 2) af)))) af))))
noncomputable def dO:List PySem.PyData->bD:=aL 3 gC
noncomputable def gj:FS:=(ao (bf (bu (aC aZ (ai 3 bM (ab (ae 0) (ab (ae 1) (ab (ae 2) af)))))) (aG (eK (.bool false))) az)
  (aG (aw bg (av .leaf 4 (cx (ab (aY aM (ab (ae 2) af)) af)) (aC aj (aw (aO true) (ah (ae 2) (ae 4)) (eK .none))) (ae 4)) (ae 3))))
noncomputable def bq:List PySem.PyData->bD:=aL 5 gj
noncomputable def d_law:FS:=(ao (ax false 1 (ai 3 m__law_world (ab (ae 0) (ab (eK (.int 0)) (ab (eK (.int 6)) af)))))
  (ao (bf (aC aj (aw bg (ai 3 ak (ab (ai 2 aF (ab (ae 0) (ab (eK (.int 8)) af))) (ab (eK (.int 1)) (ab (eK (.int 8)) af)))) (eK (.int 1)))) (ax false 1 (bF (ab (av .leaf 12 (cx (ab (eK (.int 24)) af)) aE (aw cj (aw nN (ae 12) (eK (.int 3))) (eK (.int 2)))) (ab (av .leaf 12 (cx (ab (eK (.int 24)) af)) aE (aP .leaf af)) (ab (av .leaf 12 (cx (ab (eK (.int 24)) af)) aE (aP .leaf (ab (aw cj (aw bc (ae 12) (eK (.int 1))) (eK (.int 24))) af))) af))))) az)
  (ao (ax false 2 (aY aM (ab (ah (ae 1) (eK (.int 0))) af)))
  (ao (ax false 3 (ai 3 ak (ab (ai 2 aF (ab (ae 0) (ab (eK (.int 8)) af))) (ab (eK (.int 0)) (ab (eK (.int 2)) af)))))
  (ao (ax false 4 (B1 (fun k=>(none,some k)) (ai 2 fE (ab (ai 2 aF (ab (ae 0) (ab (eK (.int 7)) af))) (ab (ae 2) af))) (ah (aP .leaf (ab (eK (.int 24)) (ab (eK (.int 1)) af))) (ai 3 ak (ab (ai 2 aF (ab (ae 0) (ab (eK (.int 8)) af))) (ab (eK (.int 2)) (ab (eK (.int 2)) af)))))))
  (ao (ax false 5 (ai 3 eE (ab (ae 1) (ab (ae 3) (ab (ae 4) af)))))
  (ao (ax false 6 (av .leaf 11 (cx (ab (ae 2) af)) (bQ (aC aj (aw bg (ah (ah (ae 1) (eK (.int 0))) (ae 11)) (ae 3))) (bQ (aC aj (aw (aO true) (ah (ae 5) (ae 11)) (eK .none))) (aC aj (aw eF (ah (ae 5) (ae 11)) (eK (.int 0)))))) (ae 11)))
  (ao (ax false 7 (aP .leaf (ab (ai 1 bY (ab (ae 1) af)) (ab (ia (ae 4)) af))))
  (ao (ax false 8 (eK .none))
  (ao (cM 9 (cx (ab (eK (.int 2)) af))
  (ao (ax true 10 (ai 3 m_bring (ab (ah (ae 7) (eK (.int 0))) (ab (ae 3) (ab (ah (ae 7) (eK (.int 1))) af)))))
  (ao (bf (b7 (bu (aC aZ (dW "tuple" (ae 10)))) (b7 (aC aj (aw bK (aY aM (ab (ae 10) af)) (eK (.int 2)))) (bu (aC aZ (ai 2 dO (ab (ah (ae 10) (eK (.int 0))) (ab (ae 5) af))))))) (aG (eK (.bool false))) az)
  (ao (bf (b7 (bu (aC aZ (ai 4 bq (ab (ae 1) (ab (ae 3) (ab (ah (ae 10) (eK (.int 1))) (ab (ae 6) af))))))) (aC aj (aw bK (ae 7) (aP .leaf (ab (ae 1) (ab (ae 4) af)))))) (aG (eK (.bool false))) az)
  (ao (bf (bu (aC aZ (aY (cE false) (ab (av .leaf 11 (aK (ae 6)) (aC aj (aw (aO true) (ah (ae 5) (ah (ah (ae 10) (eK (.int 1))) (ae 11))) (eK .none))) (aw dI (ah (ae 5) (ah (ah (ae 10) (eK (.int 1))) (ae 11))) (ah (ae 5) (ae 11)))) af)))) (aG (eK (.bool false))) az)
  (ao (bf (b7 (aC aj (aw eF (aY aM (ab (av .leaf 11 (aK (ae 6)) (aC aj (aw (aO false) (ah (ae 5) (ah (ah (ae 10) (eK (.int 1))) (ae 11))) (eK .none))) (ae 11)) af)) (eK (.int 0)))) (aC aj (aw (bV true) (ae 8) (BY (ab (eK .none) (ab (ah (ae 10) (eK (.int 1))) af)))))) (aG (eK (.bool false))) az)
  (ao (bf (b7 (aC aj (aw (tv true) (ai 5 dH (ab (ah (ae 7) (eK (.int 0))) (ab (ae 3) (ab (ah (ae 7) (eK (.int 1))) (ab (ah (ae 10) (eK (.int 0))) (ab (ah (ae 10) (eK (.int 1))) af)))))) (eK (.bool true)))) (aC aj (aw bK (ae 7) (aP .leaf (ab (ae 1) (ab (ae 4) af)))))) (aG (eK (.bool false))) az)
  (ao (ax false 8 (ia (ah (ae 10) (eK (.int 1)))))
  (ao (eA 10 0 (eK (.int 0)))
  (eA 10 1 (eK .none)))))))))))
  (aG (eK (.bool true)))))))))))))
noncomputable def m_law:List PySem.PyData->bD:=aL 13 d_law
end KQ
namespace KC
section
variable {n:Nat} {st:Nat->List Nat} {ch:Nat->Bool} {goal:List Nat} {rk:List (Option Nat)}
open Classical in
end
end KC
namespace KQ
open PySem PySem.Spec L2 T PySem.SeqAt KC
open PyProof.Rows hiding St
theorem j1 {w:Wd} (ok:w.Ok) {Γ:Ev} {i:Nat} {fb:F1} {s:Sh} {r:Nat} (h0:Γ[i]?=some (some ⟨.leaf,w.enc⟩)) (hb:fb Γ=.ok ⟨s,rm r⟩ Γ) (hr:r<w.n):∃o:Int,ah (ah (ae i) (eK (.int 0))) fb Γ=.ok ⟨.leaf,.int o⟩ Γ/\∀p,own w p r=(o==p):=by
 obtain ⟨o,_,a0,ho⟩:=ok.o_at hr;refine ⟨o,?_,ho⟩
 rw [md,md,aB h0];simp only [Out.bind,aV,Wd.enc,cW,sm,xg]
 rw [hb];simp only [xf]
 rw [a0]
theorem yo {pl:List (Option Nat)} {r:Nat} (h:r<pl.length):(pl.map oD)[r]?=some (oD (aU pl r)):=by
 rw [getElem?_map,getElem?_eq_getElem h,aU,getD_eq_getElem?_getD,getElem?_eq_getElem h];rfl
theorem rN {Γ:Ev} {fa fb:F1} {s:Sh} {rk:List (Option Nat)} {r:Nat} (ha:fa Γ=.ok ⟨.leaf,aR rk⟩ Γ) (hb:fb Γ=.ok ⟨s,rm r⟩ Γ) (h:r<rk.length):ah fa fb Γ=.ok ⟨.leaf,oD (aU rk r)⟩ Γ:=qP (j:=r) ha hb (lB (by rw [length_map];exact h)) (yo h) rfl
noncomputable def sb (w:Wd) (p:Int) (pl:List (Option Nat)) (r:Nat):List Nat:=if own w p r then (match aU pl r with | none=>[] | some t=>[t]) else w.stp r
theorem gg {w:Wd} (ok:w.Ok) {p:Int} {pl:List (Option Nat)} (hl:pl.length=w.n) {r:Nat} (hr:r<w.n):∃s:Sh,s.isView=false/\cy [w.enc,.int p,aR pl,rm r]=.ok ⟨s,aJ (sb w p pl r)⟩:=by
 obtain ⟨o,eo,ho⟩:=j1 ok (Γ:=bw 4 [w.enc,.int p,aR pl,rm r]) (i:=0) (fb:=ae 3) (s:=.leaf) (r:=r) rfl (aB rfl) hr
 have t:=b6 (s:=.leaf) (aI (g:=bK) eo (aB (i:=1) rfl) KC.ne_int)
 rw [<-ho p] at t;have ip:ah (ae 2) (ae 3) (bw 4 [w.enc,.int p,aR pl,rm r])=.ok ⟨.leaf,oD (aU pl r)⟩ (bw 4 [w.enc,.int p,aR pl,rm r]):=rN (aB rfl) (aB (d:=rm r) rfl) (by omega)
 cases ho:own w p r with
 | false=>
  rw [ho] at t;refine ⟨.leaf,rfl,?_⟩
  rw [show sb w p pl r=w.stp r by unfold sb;rw [ho];rfl]
  exact aW (d8 (aN t (fun _=>aS (Av ok rfl (aB rfl) hr) rfl) nofun))
 | true=>
  rw [ho] at t;refine ⟨.lst .leaf,rfl,?_⟩
  refine aW (aA (aN t nofun fun _=>rfl) (aS (Γ1:=bw 4 [w.enc,.int p,aR pl,rm r]) ?_ rfl))
  cases e:aU pl r with
  | none=>
   rw [e] at ip;rw [show sb w p pl r=[] by unfold sb;rw [ho,e];rfl]
   unfold fm;rw [b6 (s:=.leaf) (aI (g:=aO false) ip (aV (d:=.none)) (d:=.bool true) rfl)];simp only [ui]
   exact pj ay rfl rfl rfl
  | some t=>
   rw [e] at ip;rw [show sb w p pl r=[t] by unfold sb;rw [ho,e];rfl]
   unfold fm;rw [b6 (s:=.leaf) (aI (g:=aO false) ip (aV (d:=.none)) (d:=.bool false) rfl)];simp only [ui]
   exact pj (s:=.leaf) (aH ip ay) rfl rfl rfl
section
variable {w:Wd} {p:Int} {R:List Nat} {rk:List (Option Nat)}
noncomputable abbrev GR (w:Wd) (p:Int) (R:List Nat) (rk pl:List (Option Nat)) (r:Nat) (x6 x7:Option PV):Ev:=[some ⟨.leaf,w.enc⟩,some ⟨.leaf,.int p⟩,some ⟨.leaf,aJ R⟩,some ⟨.leaf,aR rk⟩,some ⟨.leaf,aR pl⟩,some ⟨.leaf,rm r⟩,x6,x7,none,none]
end
theorem qu {w:Wd} (ok:w.Ok):bY [w.enc]=.ok ⟨W3,w.enc⟩:=by
 have i0:ah (ae 0) (eK (.int 0)) [some ⟨.leaf,w.enc⟩,none]=.ok ⟨.leaf,.list w.os⟩ [some ⟨.leaf,w.enc⟩,none]:=fG (j:=0) (aB rfl) aV rfl rfl rfl
 have i1:ah (ae 0) (eK (.int 1)) [some ⟨.leaf,w.enc⟩,none]=.ok ⟨.leaf,.list (w.m.map wW)⟩ [some ⟨.leaf,w.enc⟩,none]:=fG (j:=1) (aB rfl) aV rfl rfl rfl
 have i2:ah (ae 0) (eK (.int 2)) [some ⟨.leaf,w.enc⟩,none]=.ok ⟨.leaf,.list (w.s.map aJ)⟩ [some ⟨.leaf,w.enc⟩,none]:=fG (j:=2) (aB rfl) aV rfl rfl rfl
 have h24:=ok.h24
 have c1:av .leaf 1 (aK (ah (ae 0) (eK (.int 1)))) aE (ia (ae 1)) [some ⟨.leaf,w.enc⟩,none]=.ok ⟨.lst .leaf,.list (w.m.map wW)⟩ [some ⟨.leaf,w.enc⟩,none]:=
  h9 wW w.m (fun x=>⟨.lst .leaf,wW x⟩) (st:=true) (cB (s:=.leaf) i1 rfl) (by simp) rfl (by rw [ok.lm];omega) fun x hx=>⟨AW (aB rfl) rfl,rfl⟩
 have c2:av .leaf 1 (aK (ah (ae 0) (eK (.int 2)))) aE (ia (ae 1)) [some ⟨.leaf,w.enc⟩,none]=.ok ⟨.lst .leaf,.list (w.s.map aJ)⟩ [some ⟨.leaf,w.enc⟩,none]:=
  h9 aJ w.s (fun x=>⟨.lst .leaf,aJ x⟩) (st:=true) (cB (s:=.leaf) i2 rfl) (by simp) rfl (by rw [ok.ls];omega) fun x hx=>⟨AW (aB rfl) rfl,rfl⟩
 exact aW (aS (dv (aH (AW i0 rfl) (aH c1 (aH c2 ay))) rfl rfl) rfl)
theorem qt {z:Int}:bA [.int z]=.ok ⟨.leaf,.bool true⟩:=aW (aS (v_and (s:=.leaf) (a:=true) (b:=true) (ox (aB rfl) rfl) (v_not (b:=false) (s:=.leaf) (ox (aB rfl) rfl))) rfl)
theorem v_callS {Γ Γ1:Ev} {fl:FL} {ps:List PV} {n:Nat} {d:D} {den:List D->bD} (hl:fl Γ=.ok ps Γ1) (hd:den (ps.map (·.d))=.ok ⟨.leaf,d⟩) (hn:ps.length=n) (hs:bz d=true):ai n den fl Γ=.ok ⟨.leaf,d⟩ Γ1:=by
 unfold ai;rw [hl];simp only [Out.bind,hn,hd,hs,if_true]
 split<;>rfl
theorem cl_rks {pl:List (Option Nat)}:PyData.canLayAll0 (pl.map oD)=true/\PyData.depthAll (pl.map oD)=0:=by
 induction pl with
 | nil=>exact ⟨rfl,rfl⟩
 | cons a r ih=>
  cases a<;>simp [oD,PyData.canLayAll0,PyData.canLay0,PyData.depthAll,PyData.depth,ih.1,ih.2]
noncomputable abbrev nH:FS:=(ao (ax false 4 (ah (ae 2) (ae 3)))
  (ao (bf (bQ (aC aj (aw (aO true) (ae 4) (eK .none))) (b7 (bu (aC aZ (ai 1 bA (ab (ae 4) af)))) (aC aj (aw bK (ah (ah (ae 0) (eK (.int 0))) (ae 3)) (ae 1))))) (aG (eK (.bool false))) az)
  (bf (bQ (aC aj (aw (aO true) (ae 4) (eK .none))) (aC aj (aw (bV true) (ae 4) (ah (ah (ae 0) (eK (.int 2))) (ae 3))))) (aG (eK (.bool false))) az)))
theorem b_andF {Γ:Ev} {ga gb:FB} (h:ga Γ=.ok false Γ):bQ ga gb Γ=.ok false Γ:=by
 unfold bQ;rw [h];rfl
noncomputable abbrev GI (w:Wd) (p:Int) (pl:List (Option Nat)) (x3 x4:Option PV):Ev:=[some ⟨.leaf,w.enc⟩,some ⟨.leaf,.int p⟩,some ⟨.leaf,aR pl⟩,x3,x4]
noncomputable def nowB (w:Wd) (p:Int) (K:List Nat) (r:Nat):Bool:=if own w p r then decide (0<((w.stp r).filter fun t=>K.contains t).length) else (((w.stp r).filter fun t=>K.contains t).length==(w.stp r).length)
noncomputable abbrev GB (w:Wd) (p:Int) (R:List Nat) (l:List (Option Nat)) (x5 x6 x7 x8:Option PV):Ev:=[some ⟨.leaf,w.enc⟩,some ⟨.leaf,.int p⟩,some ⟨.leaf,aJ R⟩,some ⟨.leaf,.int (w.n:Int)⟩,some ⟨.lst .leaf,aR l⟩,x5,x6,x7,x8]
theorem sc_rks {l:List (Option Nat)}:(l.map oD).all bz=true:=List.all_eq_true.mpr fun d hd=>by
 obtain ⟨t,_,rfl⟩:=List.mem_map.mp hd
 cases t<;>rfl
theorem v_orQ {Γ:Ev} {fa fb:F1} {s:Sh} {a b:Bool} (ha:fa Γ=.ok ⟨s,.bool a⟩ Γ) (hb:fb Γ=.ok ⟨.leaf,.bool b⟩ Γ):qo fa fb Γ=.ok ⟨.leaf,.bool (a||b)⟩ Γ:=by
 unfold qo bj;rw [ha];simp only [Out.bind]
 cases a with
 | true=>rfl
 | false=>exact hb
section
variable {w:Wd} {p:Int} {R:List Nat} {rk:List (Option Nat)}
theorem A9 {Γ:Ev} {i:Nat} {ss:List Sh} {d:D} (h:Γ[i]?=some (some ⟨.tup ss,d⟩)):ae i Γ=.ok ⟨.view,d⟩ Γ:=by unfold ae;rw [h]
noncomputable abbrev GL (xs:List D) (w:Wd) (p:Int) (R:List Nat) (rk:List (Option Nat)) (OW:List Nat) (x8 x9 x10:Option PV):Ev:=[some ⟨.leaf,.list xs⟩,some ⟨.leaf,w.enc⟩,some ⟨.leaf,.int (w.n:Int)⟩,some ⟨.leaf,.int p⟩,some ⟨.leaf,aJ R⟩,some ⟨.leaf,aR rk⟩,some ⟨.leaf,aJ OW⟩,some ⟨.leaf,.list [w.enc,aJ R]⟩,x8,x9,x10,none,none]
noncomputable abbrev T2 (rk pl:List (Option Nat)):PV:=⟨.tup [.lst .leaf,.lst .leaf],.tuple [aR rk,aR pl]⟩
theorem zV (ok:w.Ok):PyData.canLay0 w.enc=true/\PyData.depth w.enc<=3:=by
 have h:=ok.g.wk (b:=24) ok.h24
 have o:=zW h.o
 have m:=o9 fun r hr=>let ⟨xs,e,q,_⟩:=h.m r hr;⟨xs,e,Gd q⟩
 have s:=o9 fun r hr=>let ⟨xs,e,q,_⟩:=h.s r hr;⟨xs,e,zW q⟩
 simp only [Wd.enc,cW,PyData.canLay0,PyData.canLayAll0,PyData.depth,PyData.depthAll,o.1,m.1,s.1,o.2,Bool.and_self,Bool.true_and,true_and]
 have:=m.2
 have:=s.2
 omega
end
end KQ
namespace KC
open PySem PySem.Spec L2 T PySem.SeqAt
open PyProof.Rows hiding St
section
variable {n:Nat} {st:Nat->List Nat} {ch:Nat->Bool} {goal thr:List Nat} {rk:List (Option Nat)}
theorem nO (R:RightG n st ch thr goal rk) (F:Du st ch goal rk) (cl:∀r t,t∈st r->t<n) {r j:Nat} (hr:r<n) (e:aU rk r=some (j+1)):∃t,t<n/\aU rk t=some j:=by
 have hg:r∉goal:=fun z=>by have:=R.g r hr z;rw [e] at this;cases this
 refine Classical.byContradiction fun no=>F r (j+1) hg e (rh (R.p r (j+1) hr hg e).2.2 fun t ht ⟨i,ei,hi⟩=>⟨i,ei,?_⟩)
 have:i≠j:=fun z=>no ⟨t,cl r t ht,by rw [ei,z]⟩
 omega
theorem mI (R:RightG n st ch thr goal rk) (F:Du st ch goal rk) (cl:∀r t,t∈st r->t<n):∀j r,r<n->aU rk r=some j->∀i,i<=j->∃t,t<n/\aU rk t=some i
 | 0,r,hr,e,i,hi=>⟨r,hr,by rw [e,Nat.le_zero.mp hi]⟩
 | j+1,r,hr,e,i,hi=>by
  by_cases q:i=j+1
  ·exact ⟨r,hr,by rw [e,q]⟩
  ·obtain ⟨t,ht,et⟩:=nO R F cl hr e
   exact mI R F cl j t ht et i (by omega)
open Classical in
theorem o8 (R:RightG n st ch thr goal rk) (F:Du st ch goal rk) (cl:∀r t,t∈st r->t<n) {j r:Nat} (hr:r<n) (e:aU rk r=some j):j<n:=by
 have h:=mI R F cl j r hr e
 let f:Nat->Nat:=fun i=>if q:i<=j then choose (h i q) else 0
 have hf:∀i,i<=j->f i<n/\aU rk (f i)=some i:=fun i q=>by
  have:=choose_spec (h i q)
  show (if q:i<=j then choose (h i q) else 0)<n/\_
  simp only [f,dif_pos q]
  exact this
 have:=DC (p:=(List.range (j+1)).map f) (n:=n) (by
  unfold List.Nodup;rw [List.pairwise_map];refine List.Pairwise.imp_of_mem (fun {a b} ha hb ne=>fun z=>ne ?_) List.nodup_range
  have e1:=(hf a (by have:=List.mem_range.mp ha;omega)).2
  have e2:=(hf b (by have:=List.mem_range.mp hb;omega)).2
  rw [z,e2] at e1
  cases e1;rfl) (fun x hx=>by
  obtain ⟨i,hi,rfl⟩:=List.mem_map.mp hx;exact (hf i (by have:=List.mem_range.mp hi;omega)).1)
 simp at this
 omega
end
theorem nV {w:Wd} (ok:w.Ok) {p:Int} {T L:List Nat} (hs:Std w.n L) (hc:∀r∈L,led (own w p r) (w.stp r) (·∈L)) :
  ∃rk,bI [w.enc,.int p,aJ T,aJ L]=.ok ⟨.lst .leaf,aR rk⟩/\RightG w.n (inn w.stp L) (own w p) L (gl T L) rk/\∀r k,r<w.n->aU rk r=some k->k<w.n:=by
 have lo:=ok.g.lo
 have h24:=ok.h24
 have hl:=hs.len
 obtain ⟨rk,e,Rt,Fw⟩:=ED (DB ok (L:=L)) (cl:=w.os.map (qj p)) (thr:=L) (goal:=gl T L) (by rw [length_map];exact lo) (DA ok hs.lt hc) hs.lt (by omega) (fun r hr=>hs.lt r (List.mem_filter.mp hr).1) (Nat.le_trans (length_filter_le _ _) (by omega))
 have bd:∀r k,r<w.n->aU rk r=some k->k<w.n:=fun r k hr e=>o8 Rt Fw (fun r t ht=>by rw [Ao] at ht;exact ok.stp_lt (mem_inn.mp ht).1) hr e
 rw [Ao] at Rt;refine ⟨rk,?_,Rt,bd⟩
 have c0:av .leaf 5 (aK (ae 3)) (aC aj (aw (bV false) (ae 5) (ae 2))) (ae 5) (bw 7 [w.enc,.int p,aJ T,aJ L])=.ok ⟨.lst .leaf,.list ((gl T L).map fun t=>rm t)⟩ (bw 7 [w.enc,.int p,aJ T,aJ L]):=by
  refine qR rm L (fun r=>T.contains r) (fun t=>⟨.leaf,rm t⟩) (st:=true) (by simp [bw]) (by simp [bw]) rfl (by omega) (fun t ht=>?_) (fun t ht _=>?_)
  ·exact b6 (s:=.leaf) (aI (aB rfl) (aB rfl) t5)
  ·simp [bw]
 have c1:av .leaf 6 (aK (ah (ae 0) (eK (.int 0)))) aE (aw bg (ae 6) (ae 1)) [some ⟨.leaf,w.enc⟩,some ⟨.leaf,.int p⟩,some ⟨.leaf,aJ T⟩,some ⟨.leaf,aJ L⟩,some ⟨.leaf,aJ (gl T L)⟩,none,none]=.ok ⟨.lst .leaf,mZ (w.os.map (qj p))⟩ [some ⟨.leaf,w.enc⟩,some ⟨.leaf,.int p⟩,some ⟨.leaf,aJ T⟩,some ⟨.leaf,aJ L⟩,some ⟨.leaf,aJ (gl T L)⟩,none,none]:=by
  have:=h9 (fun d:D=>d) w.os (fun d=>⟨.leaf,.bool (qj p d)⟩) (s:=.leaf) (i:=6) (fi:=aK (ah (ae 0) (eK (.int 0)))) (fe:=aw bg (ae 6) (ae 1)) (st:=true) (Γ:=[some ⟨.leaf,w.enc⟩,some ⟨.leaf,.int p⟩,some ⟨.leaf,aJ T⟩,some ⟨.leaf,aJ L⟩,some ⟨.leaf,aJ (gl T L)⟩,none,none]) (by simp [Wd.enc,cW]) (by simp) rfl (by omega) (fun d hd=>by
   rcases ok.g.o d hd with rfl | rfl<;>simp [eq_int,qj])
  rw [this];simp
 refine aW (aA (cV c0 rfl (by simp [bw])) (aS (cC (aH (cC (aH (aB rfl) (aH (aB rfl) ay)) (Ed ok) rfl rfl) (aH c1 (aH (aB rfl) (aH (aB rfl) ay)))) e rfl rfl) rfl))
theorem rQ {w:Wd} (ok:w.Ok) {p:Int} {T:List Nat} {b:TS} (I:TI w p T b) (hne:b.lost≠[]):∃b',nt (wo w p T b)=.nx (wo w p T b')/\TI w p T b'/\b'.L.length<b.L.length/\b'.k=b.k+1/\∀r a j,dj b'.tn r=some (a,j)->dj b.tn r=some (a,j)\/j<w.n:=by
 have lo:=ok.g.lo
 have h24:=ok.h24
 have hl:=I.std.len
 have hL:=I.std.lt
 obtain ⟨rk1,R1,el⟩:=I.los;have hlo:∀r∈b.lost,r<w.n:=fun r hr=>by rw [el] at hr;exact hL r (List.mem_filter.mp hr).1
 have hll:b.lost.length<=1000:=by rw [el];exact Nat.le_trans (length_filter_le _ _) (by omega)
 obtain ⟨rk2,e2,R2,Fw⟩:=ED (DB ok (L:=b.L)) (cl:=w.os.map fun d=>!qj p d) (thr:=b.L) (goal:=b.lost) (by rw [length_map];exact lo) (DA ok hL I.c) hL (by omega) hlo hll
 have bd:∀r k,r<w.n->aU rk2 r=some k->k<w.n:=fun r k hr e=>o8 R2 Fw (fun r t ht=>by rw [Ao] at ht;exact ok.stp_lt (mem_inn.mp ht).1) hr e
 rw [Ao] at R2;have R2:RightG w.n (inn w.stp b.L) (fun r=>!own w p r) b.L b.lost rk2:=R2.congr fun r hr=>by
  have hr:r<w.n:=hr
  unfold own hZ;rw [getD_eq_getElem?_getD,getD_eq_getElem?_getD,getElem?_map,getElem?_map,getElem?_eq_getElem (by omega)]
  rfl
 have hc':∀r∈b.L.filter (fun r=>(aU rk2 r).isNone),led (own w p r) (w.stp r) (·∈b.L.filter (fun r=>(aU rk2 r).isNone)):=fun r hr=>by
  obtain ⟨h1,h2⟩:=List.mem_filter.mp hr;exact rh (sS hL I.c R2 h1 (by simpa using h2)) fun t _ h=>List.mem_filter.mpr ⟨h.1,by simpa using h.2⟩
 obtain ⟨rk,e3,R3⟩:=mL ok (T:=T) (I.std.filter fun r=>(aU rk2 r).isNone) hc'
 have c1:av .leaf 9 (aK (ah (ae 0) (eK (.int 0)))) aE (aw bK (ae 9) (ae 1)) (wo w p T b)=.ok ⟨.lst .leaf,mZ (w.os.map fun d=>!qj p d)⟩ (wo w p T b):=by
  have:=h9 (fun d:D=>d) w.os (fun d=>⟨.leaf,.bool (!qj p d)⟩) (s:=.leaf) (i:=9) (fi:=aK (ah (ae 0) (eK (.int 0)))) (fe:=aw bK (ae 9) (ae 1)) (st:=true) (Γ:=wo w p T b) (by simp [Wd.enc,cW]) (by simp) rfl (by omega) (fun d hd=>by
   rcases ok.g.o d hd with rfl | rfl<;>simp [ne_int,qj])
  rw [this];simp
 have s1:ax false 7 (ai 4 bW (ab (ai 2 bS (ab (ae 0) (ab (ae 4) af))) (ab (av .leaf 9 (aK (ah (ae 0) (eK (.int 0)))) aE (aw bK (ae 9) (ae 1))) (ab (ae 4) (ab (ae 6) af))))) (wo w p T b)=.nx [some ⟨.leaf,w.enc⟩,some ⟨.leaf,.int p⟩,some ⟨.leaf,aJ T⟩,some ⟨.lst .leaf,d7 b.tn⟩,some ⟨.leaf,aJ b.L⟩,some ⟨.leaf,.int (b.k:Int)⟩,some ⟨.leaf,aJ b.lost⟩,some ⟨.leaf,aR rk2⟩,b.x8,none]:=cV (cC (aH (cC (aH (aB rfl) (aH (aB rfl) ay)) (Ed ok) rfl rfl) (aH c1 (aH (aB rfl) (aH (aB rfl) ay)))) e2 rfl rfl) rfl (by simp)
 obtain ⟨y,f1,_⟩:=CK rm (cJ rk2 b.k) (Inv:=fun l r=>l.length=w.n/\∀t∈r,t<w.n) (i:=8) (body:=wZ)
  (G:=fun l x=>[some ⟨.leaf,w.enc⟩,some ⟨.leaf,.int p⟩,some ⟨.leaf,aJ T⟩,some ⟨.lst .leaf,d7 l⟩,some ⟨.leaf,aJ b.L⟩,some ⟨.leaf,.int (b.k:Int)⟩,some ⟨.leaf,aJ b.lost⟩,some ⟨.leaf,aR rk2⟩,x,none])
  (fun _ _=>by simp) (fun _ _ _=>by simp) (fun l r cg ⟨h1,h2⟩=>by
   have hr:=h2 r mem_cons_self
   refine ⟨?_,by rw [DU];exact h1,fun t ht=>h2 t (mem_cons_of_mem _ ht)⟩
   have a1:=iW (rk:=rk2) (t:=r) (by rw [R2.len];exact hr)
   have b1:aC aj (aw (aO true) (ah (ae 7) (ae 8)) (eK .none)) [some ⟨.leaf,w.enc⟩,some ⟨.leaf,.int p⟩,some ⟨.leaf,aJ T⟩,some ⟨.lst .leaf,d7 l⟩,some ⟨.leaf,aJ b.L⟩,some ⟨.leaf,.int (b.k:Int)⟩,some ⟨.leaf,aJ b.lost⟩,some ⟨.leaf,aR rk2⟩,some ⟨.leaf,rm r⟩,none]=.ok (!(aU rk2 r).isNone) [some ⟨.leaf,w.enc⟩,some ⟨.leaf,.int p⟩,some ⟨.leaf,aJ T⟩,some ⟨.lst .leaf,d7 l⟩,some ⟨.leaf,aJ b.L⟩,some ⟨.leaf,.int (b.k:Int)⟩,some ⟨.leaf,aJ b.lost⟩,some ⟨.leaf,aR rk2⟩,some ⟨.leaf,rm r⟩,none]:=by simp [a1]
   refine aN b1 (fun z=>?_) (fun z=>?_)
   ·cases e:aU rk2 r with
    | none=>rw [e] at z;cases z
    | some j=>
     rw [e] at a1;rw [rB (ds:=l.map tD) (j:=r) (k:=(r:Int)) (p:=⟨.tup [.leaf,.leaf],.tuple [.int (b.k:Int),.int (j:Int)]⟩) (s:=.leaf) rfl ?_ (aB rfl) (lB (by rw [length_map,h1];exact hr)) rfl]
     ·simp [cJ,e,map_set,tD]
     ·refine dv (ps:=[⟨.leaf,.int (b.k:Int)⟩,⟨.leaf,.int (j:Int)⟩]) (aH (aB rfl) (aH ?_ ay)) rfl rfl
      simp [a1,oD]
   ·cases e:aU rk2 r with
    | none=>simp [cJ,e]
    | some j=>rw [e] at z;cases z) b.L b.tn b.x8 ⟨I.len,hL⟩
 have f2:=eZ (fi:=aK (ae 4)) (Γ:=[some ⟨.leaf,w.enc⟩,some ⟨.leaf,.int p⟩,some ⟨.leaf,aJ T⟩,some ⟨.lst .leaf,d7 b.tn⟩,some ⟨.leaf,aJ b.L⟩,some ⟨.leaf,.int (b.k:Int)⟩,some ⟨.leaf,aJ b.lost⟩,some ⟨.leaf,aR rk2⟩,b.x8,none]) (cB (ds:=b.L.map rm) (aB rfl) rfl) f1
 obtain ⟨I',hm⟩:=I.step ok R2 hne (rk:=rk) (y7:=some ⟨.leaf,aR rk2⟩) (y8:=y) (fun _=>R3)
 refine ⟨_,?_,I',hm,rfl,fun r a j e=>?b⟩
 case b=>
  have e:dj (b.L.foldl (cJ rk2 b.k) b.tn) r=some (a,j):=e
  rw [CH _ _ (fun r hr=>by rw [I.len];exact hL r hr) (I.std.sorted.imp fun h=>by omega)] at e
  split at e
  ·rename_i hr
   cases e3:aU rk2 r with
   | none=>rw [e3] at e;exact .inl e
   | some i=>
    rw [e3] at e
    cases e;exact .inr (bd r _ (hL r hr) e3)
  ·exact .inl e
 have hmem:∀r∈b.L,dj (b.L.foldl (cJ rk2 b.k) b.tn) r=(match aU rk2 r with | some j=>some (b.k,j) | none=>none):=fun r hr=>by
  rw [CH _ _ (fun r hr=>by rw [I.len];exact hL r hr) (I.std.sorted.imp fun h=>by omega),if_pos hr]
  cases aU rk2 r with
  | none=>exact (I.mem r (hL r hr)).mp hr
  | some j=>rfl
 have ag:fN 5 (eK (.int 1)) [some ⟨.leaf,w.enc⟩,some ⟨.leaf,.int p⟩,some ⟨.leaf,aJ T⟩,some ⟨.lst .leaf,d7 (b.L.foldl (cJ rk2 b.k) b.tn)⟩,some ⟨.leaf,aJ b.L⟩,some ⟨.leaf,.int (b.k:Int)⟩,some ⟨.leaf,aJ b.lost⟩,some ⟨.leaf,aR rk2⟩,y,none]=.nx [some ⟨.leaf,w.enc⟩,some ⟨.leaf,.int p⟩,some ⟨.leaf,aJ T⟩,some ⟨.lst .leaf,d7 (b.L.foldl (cJ rk2 b.k) b.tn)⟩,some ⟨.leaf,aJ b.L⟩,some ⟨.leaf,.int ((b.k+1:Nat):Int)⟩,some ⟨.leaf,aJ b.lost⟩,some ⟨.leaf,aR rk2⟩,y,none]:=by simp
 have c4:av .leaf 8 (aK (ae 4)) (aC aj (aw (aO false) (ah (ae 3) (ae 8)) (eK .none))) (ae 8) [some ⟨.leaf,w.enc⟩,some ⟨.leaf,.int p⟩,some ⟨.leaf,aJ T⟩,some ⟨.lst .leaf,d7 (b.L.foldl (cJ rk2 b.k) b.tn)⟩,some ⟨.leaf,aJ b.L⟩,some ⟨.leaf,.int ((b.k+1:Nat):Int)⟩,some ⟨.leaf,aJ b.lost⟩,some ⟨.leaf,aR rk2⟩,y,none]=.ok ⟨.lst .leaf,.list ((b.L.filter fun r=>(aU rk2 r).isNone).map fun t=>rm t)⟩ [some ⟨.leaf,w.enc⟩,some ⟨.leaf,.int p⟩,some ⟨.leaf,aJ T⟩,some ⟨.lst .leaf,d7 (b.L.foldl (cJ rk2 b.k) b.tn)⟩,some ⟨.leaf,aJ b.L⟩,some ⟨.leaf,.int ((b.k+1:Nat):Int)⟩,some ⟨.leaf,aJ b.lost⟩,some ⟨.leaf,aR rk2⟩,y,none]:=by
  refine qR rm b.L (fun r=>(aU rk2 r).isNone) (fun t=>⟨.leaf,rm t⟩) (st:=true) (by simp) (by simp) rfl (by omega) (fun t ht=>?_) (fun t ht _=>?_)
  ·have a1:=tP (tn:=b.L.foldl (cJ rk2 b.k) b.tn) (t:=t) (by rw [DX,I.len];exact hL t ht)
   have:(dj (b.L.foldl (cJ rk2 b.k) b.tn) t).isNone=(aU rk2 t).isNone:=by
    rw [hmem t ht]
    cases aU rk2 t<;>rfl
   simp [a1,this]
  ·simp
 exact aA s1 (aA f2 (aA ag (aA (cV c4 rfl (by simp)) (cV (cC (aH (aB rfl) (aH (aB rfl) (aH (aB rfl) (aH (aB rfl) ay)))) e3 rfl rfl) rfl (by simp)))))
theorem nT {w:Wd} (ok:w.Ok) {p:Int} {T:List Nat} (hT:Std w.n T):∃tn L,bL [w.enc,.int p,aJ T]=.ok ⟨.tup [.lst .leaf,.leaf],.tuple [d7 tn,aJ L]⟩/\Cu w p T tn L/\∀r a j,dj tn r=some (a,j)->a<w.n/\j<w.n:=by
 have lo:=ok.g.lo
 have h24:=ok.h24
 have z:∀r,dj (w.os.map fun _=>none) r=none:=fun r=>by
  unfold dj;rw [getD_eq_getElem?_getD,getElem?_map]
  cases w.os[r]?<;>rfl
 have hc:∀r∈List.range w.n,led (own w p r) (w.stp r) (·∈List.range w.n):=fun r hr=>by
  have hr:=List.mem_range.mp hr
  cases own w p r with
  | true=>
   obtain ⟨t,ht⟩:=exists_mem_of_ne_nil _ (ok.stp_ne hr);exact led_t.mpr ⟨t,ht,List.mem_range.mpr (ok.stp_lt ht)⟩
  | false=>exact led_f.mpr fun t ht=>List.mem_range.mpr (ok.stp_lt ht)
 obtain ⟨rk,e0,R0⟩:=mL ok (T:=T) (L:=List.range w.n) Std.range hc
 have i0:TI w p T ⟨w.os.map fun _=>none,List.range w.n,0,lst rk (List.range w.n),none,none⟩:=by
  refine ⟨by simp [lo],Std.range,fun r hr=>⟨fun _=>z r,fun _=>List.mem_range.mpr hr⟩,hc,fun X hX r hx=>List.mem_range.mpr (hX.lt r hx),⟨rk,R0,rfl⟩,fun r a j e=>?_,fun r a j _ e=>?_⟩
  ·have e:dj (w.os.map fun _=>none) r=some (a,j):=e
   rw [z] at e;cases e
  ·have e:dj (w.os.map fun _=>none) r=some (a,j):=e
   rw [z] at e;cases e
 obtain ⟨b,e,⟨I,hk,hb⟩,hf⟩:=Er (c:=aC aZ (ae 6)) (g:=nt) (G:=wo w p T) (test:=fun b=>!b.lost.isEmpty) (Inv:=fun b=>TI w p T b/\b.k+b.L.length<=w.n/\∀r a j,dj b.tn r=some (a,j)->j<w.n) (meas:=fun b=>b.L.length) (fun b I=>by simp) (fun b ⟨I,hk,hb⟩ hne=>by
  obtain ⟨b',e1,I',hm,hk',hb'⟩:=rQ ok I (by intro z;rw [z] at hne;simp at hne)
  exact ⟨b',e1,⟨I',by omega,fun r a j e=>(hb' r a j e).elim (hb r a j) id⟩,hm⟩) 1000 _ ⟨i0,by simp,fun r a j e=>by
   have e:dj (w.os.map fun _=>none) r=some (a,j):=e
   rw [z] at e;cases e⟩ (by
  show (List.range w.n).length<1000
  simp
  omega)
 have hf:b.lost=[]:=by simpa using hf
 obtain ⟨rk1,R1,el⟩:=I.los;have hall:∀r∈b.L,aU rk1 r≠none:=fun r hr hz=>by
  have:r∈b.lost:=by rw [el];exact List.mem_filter.mpr ⟨hr,by simp [hz]⟩
  rw [hf] at this;simp at this
 refine ⟨b.tn,b.L,?_,⟨I.len,I.std,I.mem,I.c,uD (fun r t ht=>ok.stp_lt ht) I.std.lt I.c (fun r=>by simp [gl]) R1 hall,I.big,I.td⟩,fun r a j e=>⟨by have:=I.tk r a j e;omega,hb r a j e⟩⟩
 have co:av .leaf 9 (aK (ah (ae 0) (eK (.int 0)))) aE (eK .none) (bw 10 [w.enc,.int p,aJ T])=.ok ⟨.lst .leaf,d7 (w.os.map fun _=>none)⟩ (bw 10 [w.enc,.int p,aJ T]):=by
  have:=h9 (fun d:D=>d) w.os (fun _=>⟨.leaf,.none⟩) (s:=.leaf) (i:=9) (fi:=aK (ah (ae 0) (eK (.int 0)))) (fe:=eK .none) (st:=true) (Γ:=bw 10 [w.enc,.int p,aJ T]) (by simp [bw,Wd.enc,cW]) (by simp [bw]) rfl (by omega) (fun x hx=>by simp)
  rw [this];unfold d7;rw [map_map];rfl
 have lr:=Cr ok (Γ:=[some ⟨.leaf,w.enc⟩,some ⟨.leaf,.int p⟩,some ⟨.leaf,aJ T⟩,some ⟨.lst .leaf,d7 (w.os.map fun _=>none)⟩,none,none,none,none,none,none]) rfl
 have wh:wF 1000 (aC aZ (ae 6)) nt (wo w p T ⟨w.os.map fun _=>none,List.range w.n,0,lst rk (List.range w.n),none,none⟩)=.nx (wo w p T b):=by
  unfold wF;rw [e]
 refine aW (aA (t6 co rfl (by simp [bw])) (aA (cV lr rfl (by simp [bw])) (aA (cV aV rfl (by simp [bw])) (aA (cV (cC (aH (aB rfl) (aH (aB rfl) (aH (aB rfl) (aH (aB rfl) ay)))) e0 rfl rfl) rfl (by simp [bw])) (aA wh (aS (dv (aH (qQ (p:=⟨.lst .leaf,d7 b.tn⟩) rfl) (aH (aB rfl) ay)) rfl rfl) rfl))))))
end KC
namespace T
open PySem
def Rs (xs:Array Nat):Prop:=xs.toList.Pairwise (· < ·)
structure Tb (b:Bool) (t:SetTable):Prop where
 led:b=false->t.led=true
 rs:Rs t.place
 nd:t.dummies=#[]
open PySem.Spec L2
open PyProof.Rows hiding St
end T
namespace T
open PySem PySem.Spec L2
open PyProof.Rows hiding St
def zh:List Int->Int
 | []=>0
 | a::r=>r.foldl (fun x y=>if x<y then y else x) a
theorem D8:∀(r:List Int) (a:Int),(r.foldl (fun x y=>if x<y then y else x) a=a\/r.foldl (fun x y=>if x<y then y else x) a∈r)/\a<=r.foldl (fun x y=>if x<y then y else x) a/\∀b∈r,b<=r.foldl (fun x y=>if x<y then y else x) a
 | [],a=>⟨.inl rfl,Int.le_refl _,fun b hb=>by cases hb⟩
 | c::r,a=>by
  rw [foldl_cons];obtain ⟨h1,h2,h3⟩:=D8 r (if a<c then c else a)
  have e:a<=(if a<c then c else a)/\c<=(if a<c then c else a)/\((if a<c then c else a)=a\/(if a<c then c else a)=c):=by split<;>omega
  refine ⟨?_,by omega,fun b hb=>?_⟩
  ·rcases h1 with h1 | h1
   ·rw [h1]
    rcases e.2.2 with z | z
    ·exact .inl z
    ·exact .inr (by rw [z];exact mem_cons_self)
   ·exact .inr (mem_cons_of_mem _ h1)
  ·rcases List.mem_cons.mp hb with rfl | hb
   ·omega
   ·exact h3 b hb
theorem zg {ns:List Int} {M:Int} (h1:M∈ns) (h2:∀a∈ns,a<=M):zh ns=M:=by
 cases ns with
 | nil=>cases h1
 | cons a r=>
  obtain ⟨g1,g2,g3⟩:=D8 r a;show r.foldl _ a=M
  have u:r.foldl (fun x y=>if x<y then y else x) a<=M:=by
   rcases g1 with g1 | g1
   ·rw [g1];exact h2 a (by simp)
   ·exact h2 _ (mem_cons_of_mem _ g1)
  have l:M<=r.foldl (fun x y=>if x<y then y else x) a:=by
   rcases List.mem_cons.mp h1 with rfl | h1
   ·exact g2
   ·exact g3 M h1
  omega
def fZ:List PySem.PyData->Option PySem.PyData
 | [.list ds]=>match wx ds with
  | some (a::r)=>some (.int (zh (a::r)))
  | _=>none
 | _=>none
def xj (K:Fg):List V->Hp->VK->Prop:=fun xs H Q=>∃(p:Addr) (ns:List Int),xs=[.ref p]/\SqL K H p (ns.map V.int)/\0<ns.length/\Q (.int (zh ns)) H
theorem vJ {K:Fg}:GCall K (xj K) fZ:=by
 intro vs H Q ds d r e k;unfold fZ at e;split at e
 ·rename_i es
  split at e
  ·rename_i a q ei
   cases e;rw [El ei] at r;have hl:=r.1
   match vs,hl with
   | [v],_=>
    have z:=r.2 0 v (.list ((a::q).map .int)) rfl rfl
    cases z with
    | @lst p ws _ hq hwl hw=>
     have ew:=jW (K:=K) (H:=H) ⟨hwl,hw⟩
     rw [ew] at hq;exact ⟨p,a::q,rfl,hq,by simp,k _ (.int _)⟩
  ·cases e
 ·cases e
theorem qI {X:Cx} (hc:X.calm=true):CallR X (.builtin "max") (xj X.K):=by
 intro pins s σ H vs us Q I rv h;obtain ⟨p,ns,rfl,hq,hne,q⟩:=h;obtain ⟨u,rfl,ru⟩:=vals1 rv
 cases ru;obtain ⟨its,rv,pl,hz⟩:=I.list hq;have hi:=D6 rv
 obtain ⟨xs,ex⟩:=(hi.allInts:AllInts its.toArray).items
 have en:ns=xs.toList.map (·.1):=by
  rw [<-nums_intItems,<-ex];exact hi.numsOf.symm
 have hl:=pl.isList
 rw [ex] at hl;have hsz:0<xs.size:=by
  have h3:=hne
  rw [en,length_map,Array.length_toList] at h3;exact h3
 refine max_intList (I.ok.hd hc) hl hsz fun v h' tk hv hk=>?_
 obtain ⟨t,rfl⟩:=intItems_at hv;obtain ⟨h1,h2⟩:=argBest_gt (numAt xs) (xs.size-1)
 have eM:zh ns=numAt xs (argBest (fun i j=>decide (numAt xs i>numAt xs j)) (xs.size-1)):=by
  refine zg ?_ fun a ha=>?_
  ·rw [en,numAt_eq]
   exact getD_mem (by rw [length_map,Array.length_toList];omega)
  ·rw [en] at ha
   obtain ⟨j,hj,rfl⟩:=mem_getD ha;rw [length_map,Array.length_toList] at hj;rw [<-numAt_eq];exact h2 j (by omega)
 rw [eM] at q;exact ⟨.int (numAt xs (argBest (fun i j=>decide (numAt xs i>numAt xs j)) (xs.size-1))),H,I.kept (h':=h') (t':=tk) hk,⟨_,rfl⟩,q⟩
section
variable {X:Cx} {N gl:List Str} {vs cs ls lo gs:List Nat} {W:XW} {e:Expr} {es:List Expr} {pos p:Pos} {fl:FL}
theorem cb_maxL (S:Cp X N gl vs cs ls lo gs) (j:Nat) (hj:gl[j]?=some ("max":Str)) (hg:gs.contains j=true) (hm:X.mg "max"=none) (ha:PA X (e::es) (tA X.K W fl)) (he:starEach (e::es) X.env=(false,eval e X.env)::starEach es X.env) (hpl:(backTo pos (starEach es X.env)).any (·.1)=false) :
  PE X (.Call (.Name "max" p) (e::es) [] pos) (tE X.K W (aY fZ fl)):=mO (qI S.calm) vJ Cd hm ha (S.g hj hg).1 (S.g hj hg).2.2 (S.g hj hg).2.1 he hpl
end
end T
namespace TQ
open PySem PySem.Spec L2 T
open PyProof.Rows hiding St
section
variable {X:Cx} {N gl:List Str} {vs cs ls lo gs:List Nat} {W:XW} {e:Expr} {es:List Expr} {pos p:Pos} {fl:FL}
theorem pD (S:Cp X N gl vs cs ls lo gs) (j:Nat) (hj:gl[j]?=some ("max":Str)) (hg:gs.contains j=true) (hm:X.mg "max"=none) (ha:Q (PA X (e::es) (tA X.K W fl))) (he:starEach (e::es) X.env=(false,eval e X.env)::starEach es X.env) (hpl:(backTo pos (starEach es X.env)).any (·.1)=false) :
  Q (PE X (.Call (.Name "max" p) (e::es) [] pos) (tE X.K W (aY fZ fl))):=⟨T.cb_maxL S j hj hg hm ha.p he hpl⟩
end
variable {X:Cx} {N gl:List Str} {vs cs ls lo gs:List Nat} {W:XW} {a b:Expr} {pos p:Pos} {fl:FL}
end TQ
namespace T
open PySem PySem.Spec L2
open PyProof.Rows hiding St
def HB (Γ:Ev) (i:Nat):Ev:=match Γ[i]? with
 | some (some p)=>Γ.set i (some ⟨.leaf,p.d⟩)
 | _=>Γ
def lP (i k:Nat) (p q:PV) (Γ:Ev):OutS:=match Γ[i]? with
 | some (some ⟨.tup ss,.tuple ds⟩)=>(match ss[k]?,ds[k]?,q.d with
  | some (.lst .leaf),some (.list es),.int z=>(match d6 es.length z with
   | some j=>if T.coer .leaf p then .nx (Γ.set i (some ⟨.tup ss,.tuple (ds.set k (.list (es.set j p.d)))⟩)) else .no
   | none=>.no)
  | _,_,_=>.no)
 | _=>.no
def jR (i k:Nat) (fb:F1) (p:PV):FS:=fun Γ=>if xm i k Γ then fz fb (lP i k p) Γ else .no
def kL:Sh->Bool
 | .lst .leaf=>true
 | _=>false
def yi:PySem.PyData->Bool
 | .list es=>decide (es.length<=1000)
 | _=>false
theorem CF {s:Sh} (h:kL s=true):s=.lst .leaf:=by
 unfold kL at h;split at h
 ·rfl
 ·cases h
def CC (i j:Nat):FS:=fun Γ=>match Γ[i]? with
 | some (some ⟨.tup ss,.tuple ds⟩)=>if ss.all kL&&ds.all yi&&decide (ds.length<=1000)&&decide (i≠j)&&decide (j<Γ.length) then .nx ((Γ.set i none).set j none) else .no
 | _=>.no
section
variable {K:Fg} {W:XW} {He H:Hp} {O:List Addr} {Fs:List (List Addr)} {σ:St} {Γ:Ev} {D:du}
theorem EnvOk.nm {j:Nat} {x:Option V} (E:EnvOk K He O Fs H σ Γ) (hj:∀p,Γ[j]?≠some (some p)):EnvOk K He O Fs H (σ.set j x) Γ:=
 ⟨by rw [length_set];exact E.len1,E.len2,E.same,E.nd,E.inH,E.fresh,fun m p hm=>by
  have hne:j≠m:=fun z=>hj p (by rw [z];exact hm)
  obtain ⟨a,v,F,b,c,d⟩:=E.slot m p hm;exact ⟨a,v,F,by rw [getElem?_set_ne hne];exact b,c,d⟩⟩
theorem EnvOk.loose (E:EnvOk K He O Fs H σ Γ) (j:Nat):∃Fs',EnvOk K He O Fs' H σ (Γ.set j none):=by
 cases e:Γ[j]? with
 | none=>exact ⟨Fs,by rw [List.set_eq_of_length_le (by simpa using e)];exact E⟩
 | some o=>
  cases o with
  | none=>
   have:Γ.set j none=Γ:=by
    apply ext_getElem?
    intro m;rw [getElem?_set];split
    ·rename_i z
     subst z;have:=(List.getElem?_eq_some_iff.mp e).1
     rw [if_pos this,e]
    ·rfl
   exact ⟨Fs,by rw [this];exact E⟩
  | some p=>
   obtain ⟨_,v,F,_,E1,_,_⟩:=E.move e;exact ⟨_,E1.dropL⟩
theorem lN {Γ:Ev} {j:Nat}:∀p,(Γ.set j none)[j]?≠some (some p):=fun p z=>by
 rw [getElem?_set] at z;rw [if_pos rfl] at z;split at z<;>cases z
end
section
variable {X:Cx} {N gl:List Str} {vs cs ls lo gs:List Nat} {W:XW}
structure Ap (X:Cx) (o a:Expr) (apos cpos:Pos) (epos:Pos):Prop where
 hbase:attributeBase o "append" X.env (eval o X.env)=eval o X.env
 hline:(apos.endLine==cpos.line)=true
 hfew:((backTo cpos (starEach [a] X.env)).all (fun x=>!x.1)&&(backToKw cpos (keywordEach [] X.env)).all (fun x=>x.1.isSome)&&decide ([a].length+([]:List Keyword).length+(if ([]:List Keyword).isEmpty then 0 else 1)<30))=true
 hsw:swapsWith (.Call (.Attribute o "append" apos) [a] [] cpos) none epos.line X.env=pure false
 hst:starEach [a] X.env=[(false,eval a X.env)]
end
mutual
def rz:PySem.PyData->Nat
 | .none=>4
 | .bool _=>5
 | .int _=>1921
 | .str _=>20000000
 | .list xs=>2+rzL xs
 | .tuple xs=>3+rzL xs
 | .dict _=>20000000
def rzL:List PySem.PyData->Nat
 | []=>0
 | x::xs=>(rz x+2)+rzL xs
end
theorem oy:∀(ts:List Str) (k:Nat) (acc:Str),(textFrom k acc ts).length<=acc.length+piled ts
 | [],k,acc=>Nat.le_refl _
 | t::ts,k,acc=>by
  have h:=oy ts (k+1) (acc++(if k>0 then ", " else "":String)++t)
  rw [Str.length_append,Str.length_append] at h;have h2:(Str.ofString (if k>0 then ", " else "":String)).length<=2:=by
   split
   ·rw [PySem.ofString_length];decide
   ·rw [PySem.ofString_length];decide
  show (textFrom (k+1) (acc++(if k>0 then ", " else "":String)++t) ts).length<=_
  rw [piled_cons];omega
mutual
theorem lM:∀(d:PySem.PyData),d.showable=true->rz d<17000000->d.shown.length<=rz d
 | .none,_,_=>by
  show (Str.ofString "None").length<=4
  rw [PySem.ofString_length];decide
 | .bool b,_,_=>by
  cases b
  ·show (Str.ofString (if false then "True" else "False")).length<=5
   rw [PySem.ofString_length];decide
  ·show (Str.ofString (if true then "True" else "False")).length<=5
   rw [PySem.ofString_length];decide
 | .int i,h,_=>by
  have h:i.natAbs.log2<1920:=of_decide_eq_true (by simpa [PyData.showable] using h)
  show (Str.ofString (toString i)).length<=1921
  rw [PySem.ofString_length];exact int_text_length_le (by decide) h
 | .str x,_,h=>by
  have h:(20000000:Nat)<17000000:=h
  omega
 | .dict _,_,h=>by
  have h:(20000000:Nat)<17000000:=h
  omega
 | .list xs,h,hz=>by
  have hz:2+rzL xs<17000000:=hz
  have p:=shownAll_le xs (by simpa [PyData.showable] using h) (by omega)
  show (listText (PyData.shownAll xs)).length<=2+rzL xs
  unfold listText;rw [Str.length_append];have t:=oy (PyData.shownAll xs) 0 "["
  have e1:(Str.ofString "[").length=1:=by rw [PySem.ofString_length];decide
  have e2:(Str.ofString "]").length=1:=by rw [PySem.ofString_length];decide
  omega
 | .tuple xs,h,hz=>by
  have hz:3+rzL xs<17000000:=hz
  have p:=shownAll_le xs (by simpa [PyData.showable] using h) (by omega)
  show (tupleText (PyData.shownAll xs)).length<=3+rzL xs
  unfold tupleText;rw [Str.length_append,Str.length_append];have e1:(Str.ofString "(").length=1:=by rw [PySem.ofString_length];decide
  have e2:(Str.ofString (if (PyData.shownAll xs).length==1 then ",)" else ")":String)).length<=2:=by
   split
   ·rw [PySem.ofString_length];decide
   ·rw [PySem.ofString_length];decide
  have e3:(Str.join ", " (PyData.shownAll xs)).length<=piled (PyData.shownAll xs):=by
   by_cases hn:PyData.shownAll xs=[]
   ·rw [hn];exact Nat.le_of_eq rfl
   ·have:=join_length_add _ hn
    omega
  omega
theorem shownAll_le:∀(xs:List PySem.PyData),PyData.showableAll xs=true->rzL xs<17000000->piled (PyData.shownAll xs)<=rzL xs
 | [],_,_=>Nat.le_refl _
 | x::xs,h,hz=>by
  have h:x.showable=true/\PyData.showableAll xs=true:=by simpa [PyData.showableAll] using h
  have hz:(rz x+2)+rzL xs<17000000:=hz
  have a:=lM x h.1 (by omega)
  have b:=shownAll_le xs h.2 (by omega)
  show piled (x.shown::PyData.shownAll xs)<=(rz x+2)+rzL xs
  rw [piled_cons];omega
end
def zu:PySem.PyData->Bool
 | .list _=>true
 | .tuple _=>true
 | _=>false
def cH:List PySem.PyData->Option PySem.PyData
 | [d]=>if zu d&&d.canLay0&&d.showable&&decide (d.depth<=50)&&decide (rz d<=16000000) then some (.str d.shown) else none
 | _=>none
def xh (K:Fg):List V->Hp->VK->Prop:=fun xs H Q=>∃(p:Addr) (d:PySem.PyData),xs=[.ref p]/\Rep K H (.ref p) d/\d.canLay0=true/\d.showable=true/\d.depth<=50/\rz d<=16000000/\Q (.str d.shown) H
theorem vH {K:Fg}:GCall K (xh K) cH:=by
 intro vs H Q ds d r e k;unfold cH at e;split at e
 case h_2=>cases e
 rename_i d0
 cases hc:(zu d0&&d0.canLay0&&d0.showable&&decide (d0.depth<=50)&&decide (rz d0<=16000000)) with
 | false=>rw [hc] at e;cases e
 | true=>
  rw [hc] at e
  cases e;simp only [Bool.and_eq_true,decide_eq_true_eq] at hc
  obtain ⟨⟨⟨⟨c1,c2⟩,c3⟩,c4⟩,c5⟩:=hc;match vs,r.1 with
  | [v],_=>
   have rv:Rep K H v d0:=r.2 0 v d0 rfl rfl
   obtain ⟨p,rfl⟩:∃p,v=.ref p:=by
    cases rv with
    | lst=>exact ⟨_,rfl⟩
    | tup=>exact ⟨_,rfl⟩
    | _=>cases c1
   exact ⟨p,d0,rfl,rv,c2,c3,c4,c5,k _ (.str _)⟩
theorem qG {X:Cx} (hr:Rm X) (hg:X.A.guards=some []):CallR X (.builtin "repr") (xh X.K):=by
 intro pins s σ H xs us Q I rv h;obtain ⟨p,d,rfl,r,c2,c3,c4,c5,q⟩:=h;obtain ⟨u,rfl,ru⟩:∃u,us=[u]/\RelV (.ref p) u:=by
  cases rv with
  | cons a b=>cases b;exact ⟨_,rfl,a⟩
 cases ru;obtain ⟨as,R⟩:=r.reads I (.ref p) rfl;have hu:X.A.units+64<cLine:=hr
 have big:(16000000:Nat)<=sizeLine:=by decide
 refine repr_of_reads' R c3 (PyData.noDict_hsm (PyData.hasDict_of_canLay d c2)) hg (by omega) (fun _ _ e=>e) (fun h' u tk hk=>?_) (by have:=lM d c3 (by omega);omega)
 exact ⟨.str d.shown,H,I.kept (t':=tk) hk,⟨u,rfl⟩,q⟩
theorem boot_repr:bootBuiltins "repr"=some (.builtin "repr"):=by decide +kernel
section
variable {X:Cx} {N gl:List Str} {vs cs ls lo gs:List Nat} {W:XW} {a:Expr} {pos p:Pos} {fa:F1}
theorem cb_repr (S:Cp X N gl vs cs ls lo gs) (hr:Rm X) (hG:X.A.guards=some []) (j:Nat) (hj:gl[j]?=some ("repr":Str)) (hg:gs.contains j=true) (hm:X.mg "repr"=none) (ha:PE X a (tE X.K W fa)) (hs:starEach [a] X.env=[(false,eval a X.env)]) (hpl:(backTo pos (starEach [] X.env)).any (·.1)=false) :
  PE X (.Call (.Name "repr" p) [a] [] pos) (tE X.K W (aY cH (ab fa af))):=
 bC (DT (qG hr hG) (S.g hj hg).1 hm boot_repr (da_cons ha da_nil hs) (S.g hj hg).2.2 (S.g hj hg).2.1 hs hpl) fun _ _ _=>oI vH
end
end T
namespace TQ
open PySem PySem.Spec L2 T
open PyProof.Rows hiding St
section
variable {X:Cx} {N gl:List Str} {vs cs ls lo gs:List Nat} {W:XW} {a:Expr} {pos p:Pos} {fa:F1}
theorem jN (S:Cp X N gl vs cs ls lo gs) (hr:Rm X) (hG:X.A.guards=some []) (j:Nat) (hj:gl[j]?=some ("repr":Str)) (hg:gs.contains j=true) (hm:X.mg "repr"=none) (ha:Q (PE X a (tE X.K W fa))) (hs:starEach [a] X.env=[(false,eval a X.env)]) (hpl:(backTo pos (starEach [] X.env)).any (·.1)=false) :
  Q (PE X (.Call (.Name "repr" p) [a] [] pos) (tE X.K W (aY cH (ab fa af)))):=⟨T.cb_repr S hr hG j hj hg hm ha.p hs hpl⟩
end
end TQ
namespace T
open PySem PySem.Spec L2
open PyProof.Rows hiding St
def BZ (i j k:Nat):F1:=fun Γ=>match Γ[i]?,Γ[j]?,Γ[k]? with
 | some (some ⟨.lst .leaf,.list a⟩),some (some ⟨.lst .leaf,.list b⟩),some (some ⟨.tup [.lst .leaf,.lst .leaf],.tuple [c,d]⟩)=>if i≠j/\i≠k/\j≠k then .ok ⟨.tup [.lst .leaf,.lst .leaf,.lst .leaf,.lst .leaf],.tuple [.list a,.list b,c,d]⟩ (((Γ.set i none).set j none).set k none) else .no
 | _,_,_=>.no
end T
namespace KQ.X
open PySem PySem.Spec L2 T
open PyProof.Rows hiding St
open KC
noncomputable def d_keep:FS:=(ao (cK (ai 3 bp (ab (ae 0) (ab (ae 1) (ab (ae 2) af)))))
  (ao (ax true 3 (ai 3 m_brought (ab (ae 0) (ab (ai 1 bh (ab (ae 1) af)) (ab (ai 2 dF (ab (ae 0) (ab (ae 2) af))) af)))))
  (ao (ax true 4 (oi 1 cY (ab (ah (ae 3) (eK (.int 0))) af)))
  (ao (ax true 5 (ai 3 bR (ab (ae 0) (ab (ae 1) (ab (av .leaf 6 (cx (ab (aY aM (ab (ah (ae 0) (eK (.int 0))) af)) af)) aE (oi 3 eD (ab (ae 0) (ab (ae 4) (ab (ae 6) af))))) af)))))
  (aG (BZ 4 5 3))))))
noncomputable def m_keep:List PySem.PyData->bD:=aL 7 d_keep
noncomputable def kU:FS:=(ao (ax false 4 (av .leaf 5 (aK (ae 2)) (aC aj (aw bg (ah (ah (ae 0) (eK (.int 0))) (ae 5)) (ae 1))) (ae 5)))
  (aG (de (ai 3 bO (ab (ae 0) (ab (ae 1) (ab (ae 3) af)))) (aY (cE false) (ab (av .leaf 5 (aK (ae 4)) aE (aw (bV false) (ah (ae 3) (ae 5)) (ae 2))) af)))))
noncomputable def kG:List PySem.PyData->bD:=aL 6 kU
noncomputable def kS:FS:=(ao (cK (ai 3 bp (ab (ae 0) (ab (ae 1) (ab (ae 2) af)))))
  (ao (bf (bu (aC aZ (ai 5 d2 (ab (ae 0) (ab (ai 1 bh (ab (ae 1) af)) (ab (ai 2 dF (ab (ae 0) (ab (ae 2) af))) (ab (ah (ae 3) (eK (.int 2))) (ab (ah (ae 3) (eK (.int 3))) af)))))))) (aG (eK (.bool false))) az)
  (ao (ax false 4 (ai 1 cY (ab (ah (ae 3) (eK (.int 2))) af)))
  (aG (de (aw bg (ah (ae 3) (eK (.int 0))) (ae 4)) (ai 4 kG (ab (ae 0) (ab (ae 1) (ab (ae 4) (ab (ah (ae 3) (eK (.int 1))) af))))))))))
noncomputable def fX:List PySem.PyData->bD:=aL 5 kS
noncomputable def iR:FS:=(ao (bf (b7 (bu (aC aZ (dW "list" (ae 0)))) (aC aj (aw bK (aY aM (ab (ae 0) af)) (aY aM (ab (ae 1) af))))) (aG (eK (.bool false))) az)
  (aG (de (aY (cE false) (ab (av .leaf 2 (aK (ae 0)) aE (ai 1 bA (ab (ae 2) af))) af)) (aw bg (ae 0) (ae 1)))))
noncomputable def iG:List PySem.PyData->bD:=aL 3 iR
noncomputable def d__law_rooms:FS:=(aG (av .leaf 2 (cx (ab (ae 1) af)) (aC aj (aw eF (ai 3 ak (ab (ae 0) (ab (ae 2) (ab (eK (.int 3)) af)))) (eK (.int 0)))) (ae 2)))
noncomputable def m__law_rooms:List PySem.PyData->bD:=aL 3 d__law_rooms
noncomputable def jF:FS:=(aG (av .leaf 2 (cx (ab (aY aM (ab (ah (ae 0) (eK (.int 0))) af)) af)) (aC aj (aw (bV true) (ae 2) (ae 1))) (ae 2)))
noncomputable def jq:List PySem.PyData->bD:=aL 3 jF
noncomputable def kX:FS:=(ao (ax false 4 (ai 3 eE (ab (ae 0) (ab (aw gSub (eK (.int 1)) (ae 1)) (ab (ai 2 jq (ab (ae 0) (ab (ae 2) af))) af)))))
  (ao (ax false 5 (av .leaf 8 (cx (ab (aY aM (ab (ae 4) af)) af)) (aC aj (aw (aO false) (ah (ae 4) (ae 8)) (eK .none))) (ae 8)))
  (ao (bf (b7 (bu (aC aZ (dW "tuple" (ae 3)))) (b7 (aC aj (aw bK (aY aM (ab (ae 3) af)) (eK (.int 4)))) (bu (aC aZ (ai 2 iG (ab (ah (ae 3) (eK (.int 0))) (ab (ae 5) af))))))) (aG (eK (.bool false))) az)
  (ao (ax false 6 (av .leaf 8 (aK (ae 5)) (aC aj (aw bg (ah (ah (ae 0) (eK (.int 0))) (ae 8)) (ae 1))) (ae 8)))
  (ao (bf (b7 (bu (aC aZ (ai 4 bq (ab (ae 0) (ab (ae 1) (ab (ah (ae 3) (eK (.int 1))) (ab (ae 6) af))))))) (bu (aC aZ (aY (cE false) (ab (av .leaf 8 (aK (ae 6)) aE (aw (bV false) (ah (ah (ae 3) (eK (.int 1))) (ae 8)) (ae 5))) af))))) (aG (eK (.bool false))) az)
  (ao (bf (bu (aC aZ (ai 2 dO (ab (ah (ae 3) (eK (.int 2))) (ab (ae 4) af))))) (aG (eK (.bool false))) az)
  (ao (ax false 7 (av .leaf 8 (cx (ab (aY aM (ab (ae 4) af)) af)) (bQ (aC aj (aw (bV true) (ae 8) (ae 5))) (bQ (aC aj (aw eF (ah (ae 4) (ae 8)) (eK (.int 0)))) (aC aj (aw bK (ah (ah (ae 0) (eK (.int 0))) (ae 8)) (ae 1))))) (ae 8)))
  (ao (bf (bu (aC aZ (ai 4 bq (ab (ae 0) (ab (aw gSub (eK (.int 1)) (ae 1)) (ab (ah (ae 3) (eK (.int 3))) (ab (ae 7) af))))))) (aG (eK (.bool false))) az)
  (ao (cM 8 (aK (ae 7))
  (bf (b7 (aC aj (aw (bV false) (ah (ah (ae 3) (eK (.int 3))) (ae 8)) (ae 5))) (aC aj (aw kN (ah (ae 4) (ah (ah (ae 3) (eK (.int 3))) (ae 8))) (ah (ae 4) (ae 8))))) (aG (eK (.bool false))) az))
  (aG (eK (.bool true))))))))))))
noncomputable def fY:List PySem.PyData->bD:=aL 9 kX
noncomputable def d_law:FS:=(ao (ax false 1 (ai 3 m__law_world (ab (ae 0) (ab (eK (.int 0)) (ab (eK (.int 6)) af)))))
  (ao (ax false 2 (ai 3 ak (ab (ai 2 aF (ab (ae 0) (ab (eK (.int 8)) af))) (ab (eK (.int 0)) (ab (eK (.int 2)) af)))))
  (ao (ax false 3 (ai 2 m__law_rooms (ab (ai 2 aF (ab (ae 0) (ab (eK (.int 7)) af))) (ab (aY aM (ab (ah (ae 1) (eK (.int 0))) af)) af))))
  (ao (ax false 4 (aP .leaf (ab (ai 1 bY (ab (ae 1) af)) (ab (ia (ae 3)) af))))
  (ao (ax false 5 (eK (.str "")))
  (ao (cM 6 (cx (ab (eK (.int 2)) af))
  (ao (ax true 7 (ai 3 m_keep (ab (ah (ae 4) (eK (.int 0))) (ab (ae 2) (ab (ah (ae 4) (eK (.int 1))) af)))))
  (ao (bf (b7 (bu (aC aZ (ai 4 fY (ab (ae 1) (ab (ae 2) (ab (ae 3) (ab (ae 7) af))))))) (b7 (aC aj (aw bK (ae 4) (aP .leaf (ab (ae 1) (ab (ae 3) af))))) (aC aj (aw (bV true) (ae 5) (bF (ab (eK (.str "")) (ab (aY cH (ab (ae 7) af)) af))))))) (aG (eK (.bool false))) az)
  (ao (bf (b7 (aC aj (aw (tv true) (ai 4 fX (ab (ah (ae 4) (eK (.int 0))) (ab (ae 2) (ab (ah (ae 4) (eK (.int 1))) (ab (ae 7) af))))) (eK (.bool true)))) (aC aj (aw bK (ae 4) (aP .leaf (ab (ae 1) (ab (ae 3) af)))))) (aG (eK (.bool false))) az)
  (ao (ax false 5 (aY cH (ab (ae 7) af)))
  (CC 7 8))))))
  (aG (eK (.bool true)))))))))
noncomputable def m_law:List PySem.PyData->bD:=aL 9 d_law
end KQ.X
namespace T
open PySem PySem.Spec L2
open PyProof.Rows hiding St
theorem ug (s:String):PyData.strOk (Str.ofString s)=true:=by
 unfold PyData.strOk;rw [Array.all_eq_true'];intro c hc;have:c∈(Str.ofString s).cps.toList:=by simpa using hc
 obtain ⟨d,hd,rfl⟩:∃d:Char,d∈s.toList/\d.toNat=c:=by
  rw [Str.ofString_eq_toList] at this;simpa using this
 have:=d.valid
 simp only [decide_eq_true_eq]
 show d.val.toNat<0x110000
 rcases this with h | h
 ·exact Nat.lt_trans h (by decide)
 ·exact h.2
theorem xR {a b:Str} (ha:PyData.strOk a=true) (hb:PyData.strOk b=true):PyData.strOk (a++b)=true:=by
 unfold PyData.strOk at *
 rw [Str.cps_append,Array.all_append,ha,hb];rfl
theorem mi:∀(ts:List Str) (k:Nat) (acc:Str),PyData.strOk acc=true->(∀t∈ts,PyData.strOk t=true)->PyData.strOk (textFrom k acc ts)=true
 | [],k,acc,h,_=>h
 | t::ts,k,acc,h,ht=>mi ts (k+1) _ (xR (xR h (ug _)) (ht t mem_cons_self)) fun x hx=>ht x (mem_cons_of_mem _ hx)
theorem mj:∀(ts:List Str),(∀t∈ts,PyData.strOk t=true)->PyData.strOk (Str.join ", " ts)=true
 | [],_=>by decide +kernel
 | [x],h=>h x mem_cons_self
 | x::y::r,h=>xR (xR (h x mem_cons_self) (ug _)) (mj (y::r) fun t ht=>h t (mem_cons_of_mem _ ht))
mutual
theorem j2:∀(d:PySem.PyData),rz d<17000000->PyData.strOk d.shown=true
 | .none,_=>ug _
 | .bool b,_=>by cases b<;>exact ug _
 | .int i,_=>ug _
 | .str x,h=>by
  have h:(20000000:Nat)<17000000:=h
  omega
 | .dict _,h=>by
  have h:(20000000:Nat)<17000000:=h
  omega
 | .list xs,hz=>xR (mi _ _ _ (ug _) (okS_all xs (by have hz:2+rzL xs<17000000:=hz;omega))) (ug _)
 | .tuple xs,hz=>xR (xR (ug _) (mj _ (okS_all xs (by have hz:3+rzL xs<17000000:=hz;omega)))) (ug _)
theorem okS_all:∀(xs:List PySem.PyData),rzL xs<17000000->∀t∈PyData.shownAll xs,PyData.strOk t=true
 | [],_,t,ht=>nomatch ht
 | x::xs,hz,t,ht=>by
  have hz:(rz x+2)+rzL xs<17000000:=hz
  have ht:t∈x.shown::PyData.shownAll xs:=ht
  rcases List.mem_cons.mp ht with rfl | ht
  ·exact j2 x (by omega)
  ·exact okS_all xs (by omega) t ht
end
end T
namespace KQ.X
open PySem PySem.Spec L2 T PySem.SeqAt
open PyProof.Rows hiding St
open KC
noncomputable abbrev F4:Sh:=.tup [.lst .leaf,.lst .leaf,.lst .leaf,.lst .leaf]
noncomputable abbrev fD (w:Wd) (p:Int) (rk:List (Option Nat)):D:=.tuple [aJ (G6 w.n rk),aR (cX w p (EG w (G6 w.n rk))),aR rk,aR (cX w (1-p) (FP w rk))]
section
variable {w:Wd} {p:Int} {R:List Nat} {rk:List (Option Nat)}
noncomputable abbrev E4 (w:Wd) (p:Int) (R:List Nat) (rk:List (Option Nat)) (x4 x5 x6 x7 x8:Option PV):Ev:=[some ⟨.leaf,w.enc⟩,some ⟨.leaf,.int p⟩,some ⟨.leaf,aJ R⟩,some ⟨.leaf,fD w p rk⟩,x4,x5,x6,x7,x8]
theorem rz_rks:∀pl:List (Option Nat),rzL (pl.map oD)<=1923*pl.length
 | []=>Nat.le_refl _
 | a::r=>by
  have h:=rz_rks r
  cases a with
  | none=>show (4+2)+rzL (r.map oD)<=_;rw [length_cons];omega
  | some k=>show (1921+2)+rzL (r.map oD)<=_;rw [length_cons];omega
theorem log_small {k:Nat} (h:k<1000):(k:Int).natAbs.log2<1920:=by
 rw [Int.natAbs_natCast];by_cases h0:k=0
 ·subst h0;decide
 ·exact (Nat.log2_lt h0).mpr (Nat.lt_of_lt_of_le h (by
   have:(2:Nat) ^ 10<=2 ^ 1920:=Nat.pow_le_pow_right (by decide) (by decide)
   omega))
end
noncomputable abbrev GL (xs:List D) (w:Wd) (p:Int) (R:List Nat) (k:Str) (x6 x7:Option PV):Ev:=[some ⟨.leaf,.list xs⟩,some ⟨.leaf,w.enc⟩,some ⟨.leaf,.int p⟩,some ⟨.leaf,aJ R⟩,some ⟨.leaf,.list [w.enc,aJ R]⟩,some ⟨.leaf,.str k⟩,x6,x7,none]
noncomputable abbrev tB:FS:=(ao (ax true 7 (ai 3 m_keep (ab (ah (ae 4) (eK (.int 0))) (ab (ae 2) (ab (ah (ae 4) (eK (.int 1))) af)))))
  (ao (bf (b7 (bu (aC aZ (ai 4 fY (ab (ae 1) (ab (ae 2) (ab (ae 3) (ab (ae 7) af))))))) (b7 (aC aj (aw bK (ae 4) (aP .leaf (ab (ae 1) (ab (ae 3) af))))) (aC aj (aw (bV true) (ae 5) (bF (ab (eK (.str "")) (ab (aY cH (ab (ae 7) af)) af))))))) (aG (eK (.bool false))) az)
  (ao (bf (b7 (aC aj (aw (tv true) (ai 4 fX (ab (ah (ae 4) (eK (.int 0))) (ab (ae 2) (ab (ah (ae 4) (eK (.int 1))) (ab (ae 7) af))))) (eK (.bool true)))) (aC aj (aw bK (ae 4) (aP .leaf (ab (ae 1) (ab (ae 3) af)))))) (aG (eK (.bool false))) az)
  (ao (ax false 5 (aY cH (ab (ae 7) af)))
  (CC 7 8)))))
end KQ.X
namespace T
open PySem PySem.Spec L2
open PyProof.Rows hiding St
def sX:Option (Option PV)->Bool
 | some (some ⟨.tup [_,_],.tuple [_,_]⟩)=>true
 | _=>false
theorem vz {o:Option (Option PV)} (h:sX o=true):∃s t a b,o=some (some ⟨.tup [s,t],.tuple [a,b]⟩):=by
 unfold sX at h;split at h
 ·exact ⟨_,_,_,_,rfl⟩
 ·cases h
def wD (i j r:Nat) (f:F1):FS:=fun Γ=>if sX Γ[j]? then (match f (Γ.set i none) with
 | .ok q Γ2=>(match Γ2[j]? with
  | some (some ⟨.tup [s0,_],.tuple [d0,_]⟩)=>if i≠j/\i≠r/\j≠r/\i<Γ2.length/\r<Γ2.length/\q.s.isView=false then .nx (((Γ2.set j none).set i (some ⟨s0,d0⟩)).set r (some q)) else .no
  | _=>.no)
 | _=>.no) else .no
theorem fW {L:List (List Addr)} {i:Nat} {F:List Addr} {a:Addr} (h:a∈(L.set i F).flatten):a∈F\/a∈L.flatten:=by
 obtain ⟨l,h1,h2⟩:=List.mem_flatten.mp h;rcases List.mem_or_eq_of_mem_set h1 with z | z
 ·exact .inr (List.mem_flatten.mpr ⟨l,z,h2⟩)
 ·exact .inl (z▸h2)
section
variable {K:Fg} {W:XW} {σ:St} {H:Hp} {D:du} {f:F1}
theorem r0 {i j r:Nat} (h:tS K W (wD i j r f) D σ H):uz (gO (lu (m8 K) (dE j) (tC (.int 0))) (L2.gName i)) (gO (tE K W f) (L2.gName r)) D σ H:=by
 obtain ⟨He,O,Fs,Γ,E,h⟩:=h;unfold wD at h
 cases h0:sX Γ[j]? with
 | false=>rw [h0] at h;exact h.elim
 | true=>
  rw [h0] at h;obtain ⟨t0,t1,c0,c1,e0⟩:=vz h0;obtain ⟨_,v,F,s3,_,o3,_⟩:=E.move e0
  cases o3 with
  | @tup _ p vs _ Fs0 hsv hp hnp hl hf hs nd q=>
   obtain ⟨v0,v1,rfl⟩:∃a b,vs=[a,b]:=by
    match vs,hl with
    | [a,b],_=>exact ⟨a,b,rfl⟩
   refine ⟨.ref p,s3,.inr (.inl ⟨p,[v0,v1],0,v0,rfl,rfl,.of hp,rfl,?_⟩)⟩
   obtain ⟨Fs1,E0⟩:=E.loose i;have E1:EnvOk K He O Fs1 H (σ.set i (some v0)) (Γ.set i none):=E0.nm lN
   refine ⟨He,O,Fs1,Γ.set i none,E1,?_⟩
   have h:jJ K W He O D (match f (Γ.set i none) with
    | .ok q Γ2=>(match Γ2[j]? with
     | some (some ⟨.tup [s0,_],.tuple [d0,_]⟩)=>if i≠j/\i≠r/\j≠r/\i<Γ2.length/\r<Γ2.length/\q.s.isView=false then .nx (((Γ2.set j none).set i (some ⟨s0,d0⟩)).set r (some q)) else .no
     | _=>.no)
    | _=>.no):=h
   cases e:f (Γ.set i none) with
   | no=>rw [e] at h;exact h.elim
   | er c Γ2=>rw [e] at h;exact h.elim
   | ok q Γ2=>
    rw [e] at h;intro w H2 G Fs2 A;have fr:=A.freshG E1
    show D.nx ((σ.set i (some v0)).set r (some w)) H2
    have h:jJ K W He O D (match Γ2[j]? with
     | some (some ⟨.tup [s0,_],.tuple [d0,_]⟩)=>if i≠j/\i≠r/\j≠r/\i<Γ2.length/\r<Γ2.length/\q.s.isView=false then .nx (((Γ2.set j none).set i (some ⟨s0,d0⟩)).set r (some q)) else .no
     | _=>.no):=h
    split at h
    case h_2=>exact h.elim
    rename_i s0 s1 d0 d1 e2;by_cases hc:i≠j/\i≠r/\j≠r/\i<Γ2.length/\r<Γ2.length/\q.s.isView=false
    case neg=>rw [if_neg hc] at h;exact h.elim
    rw [if_pos hc] at h;obtain ⟨n1,n2,n3,l1,l2,hv⟩:=hc;obtain ⟨_,v',F2,s4,E3,o4,sub⟩:=A.env.move e2;have ev:v'=.ref p:=by
     rw [getElem?_set_ne n1,s3] at s4
     cases s4;rfl
    subst ev;generalize hF2:Fs2.set j []=Fs3 at *
    have hfr:=A.env.fresh
    cases o4 with
    | @tup _ _ vs2 _ Fs0 hsv hp2 hnp hl hf hs nd qq=>
     have z:=A.same _ _ hp
     rw [hp2] at z
     cases z;obtain ⟨F0,F1,rfl⟩:∃a b,Fs0=[a,b]:=by
      match Fs0,hf with
      | [a,b],_=>exact ⟨a,b,rfl⟩
     have q0:=qq 0 v0 _ F0 _ rfl rfl rfl rfl
     have fl:([F0,F1]:List (List Addr)).flatten=F0++F1:=by simp
     rw [fl] at E3 q0 sub
     have pm:(F1++(F0++(G++O))).Perm ((F0++F1)++(G++O)):=by
      rw [<-append_assoc];exact List.Perm.append_right _ perm_append_comm
     have E4:=(E3.perm pm).dropL
     have hv0:s0.isView=false:=hsv s0 (by simp)
     have E5:=EnvOk.put (i:=i) (p:=⟨s0,d0⟩) (v:=v0) E4 (q0.mono (Same.refl _) fun a ha=>.inl (by
      rcases List.mem_append.mp ha with y | y
      ·rcases List.mem_append.mp y with y | y
       ·exact mem_append_left _ (mem_append_left _ (mem_append_left _ y))
       ·exact mem_append_left _ (mem_append_right _ y)
      ·exact mem_append_right _ y)) hv0 (fun a ha=>hfr a (sub a (mem_append_left _ (mem_append_left _ ha)))) (by rw [length_set];exact l1)
     rw [set_set] at E5;have E6:=EnvOk.put (i:=r) (p:=q) (v:=w) E5 (A.own.mono (Same.refl _) fun a ha=>.inl (by
      rcases List.mem_append.mp ha with y | y
      ·exact mem_append_left _ y
      ·refine mem_append_right _ ?_
       rcases fW y with y | y
       ·exact sub a (mem_append_left _ (mem_append_left _ y))
       ·exact sub a (mem_append_right _ y))) hv fr (by rw [length_set,length_set];exact l2)
     exact h _ _ _ E6
end
section
variable {X:Cx} {N gl:List Str} {vs cs ls lo gs:List Nat} {W:XW} {b:Expr} {pos p:Pos} {f:F1} {g:FS}
theorem cs_take2 (S:Cp X N gl vs cs ls lo gs) (i j r:Nat) {x t y:Str} {px pt py:Pos} {kk:Nat} {pk sp pos1 pos2:Pos} {cg:List Stmt} (hx:N[i]?=some x) (lx:ls.contains i=true) (ht:N[j]?=some t) (vt:vs.contains j=true) (hy:N[r]?=some y) (ly:ls.contains r=true)
  (h0:wN (.Constant (.int 0) kk pk)) (hs1:swapsWith (.Subscript (.Name t pt) (.Constant (.int 0) kk pk) sp) (some (.Name x px)) pos1.line X.env=pure false) (hs2:swapsWith b (some (.Name y py)) pos2.line X.env=pure false)
  (hb:PE X b (tE X.K W f)) (hr:PSs X cg (tS X.K W g)) :
  PSs X (.Assign [.Name x px] (.Subscript (.Name t pt) (.Constant (.int 0) kk pk) sp) pos1::.Assign [.Name y py] b pos2::cg) (tS X.K W (ao (wD i j r f) g)):=by
 have m:=S.nm t (mem_of_getElem? ht)
 have hN:X.N.Nodup:=by rw [S.hN];exact S.nd
 have vt:PE X (.Name t pt) (dE j):=uh (by rw [S.hN];exact ht) (S.vis j t ht vt) m.1 m.2
 have p1:=CA hN (by rw [S.hN];exact hx) (S.loc i x hx lx).1 (mf AN vt sA h0) hs1 (S.loc i x hx lx).2
 have p2:=CA hN (by rw [S.hN];exact hy) (S.loc r y hy ly).1 hb hs2 (S.loc r y hy ly).2
 exact Ah (CL p1 (CL p2 hr)) fun _ _ _ h=>r0 (DH h)
end
def AG:List Int->Int
 | []=>0
 | a::r=>r.foldl (fun x y=>if y<x then y else x) a
theorem oW:∀(r:List Int) (a:Int),(r.foldl (fun x y=>if y<x then y else x) a=a\/r.foldl (fun x y=>if y<x then y else x) a∈r)/\r.foldl (fun x y=>if y<x then y else x) a<=a/\∀b∈r,r.foldl (fun x y=>if y<x then y else x) a<=b
 | [],a=>⟨.inl rfl,Int.le_refl _,fun b hb=>by cases hb⟩
 | c::r,a=>by
  rw [foldl_cons];obtain ⟨h1,h2,h3⟩:=oW r (if c<a then c else a)
  have e:(if c<a then c else a)<=a/\(if c<a then c else a)<=c/\((if c<a then c else a)=a\/(if c<a then c else a)=c):=by split<;>omega
  refine ⟨?_,by omega,fun b hb=>?_⟩
  ·rcases h1 with h1 | h1
   ·rw [h1]
    rcases e.2.2 with z | z
    ·exact .inl z
    ·exact .inr (by rw [z];exact mem_cons_self)
   ·exact .inr (mem_cons_of_mem _ h1)
  ·rcases List.mem_cons.mp hb with rfl | hb
   ·omega
   ·exact h3 b hb
theorem zj {ns:List Int} {M:Int} (h1:M∈ns) (h2:∀a∈ns,M<=a):AG ns=M:=by
 cases ns with
 | nil=>cases h1
 | cons a r=>
  obtain ⟨g1,g2,g3⟩:=oW r a;show r.foldl _ a=M
  have u:M<=r.foldl (fun x y=>if y<x then y else x) a:=by
   rcases g1 with g1 | g1
   ·rw [g1];exact h2 a (by simp)
   ·exact h2 _ (mem_cons_of_mem _ g1)
  have l:r.foldl (fun x y=>if y<x then y else x) a<=M:=by
   rcases List.mem_cons.mp h1 with rfl | h1
   ·exact g2
   ·exact g3 M h1
  omega
def j7:List PySem.PyData->Option PySem.PyData
 | [.tuple ds]=>match wx ds with
  | some (a::r)=>some (.int (AG (a::r)))
  | _=>none
 | _=>none
def xi (K:Fg):List V->Hp->VK->Prop:=fun xs H Q=>∃(p:Addr) (ns:List Int),xs=[.ref p]/\SqT K H p (ns.map V.int)/\0<ns.length/\Q (.int (AG ns)) H
theorem vI {K:Fg}:GCall K (xi K) j7:=by
 intro vs H Q ds d r e k;unfold j7 at e;split at e
 ·rename_i es
  split at e
  ·rename_i a q ei
   cases e;rw [El ei] at r;have hl:=r.1
   match vs,hl with
   | [v],_=>
    have z:=r.2 0 v (.tuple ((a::q).map .int)) rfl rfl
    cases z with
    | @tup p ws _ hq hwl hw=>
     have ew:=jW (K:=K) (H:=H) ⟨hwl,hw⟩
     rw [ew] at hq;exact ⟨p,a::q,rfl,hq,by simp,k _ (.int _)⟩
  ·cases e
 ·cases e
theorem nF {prog:Program} {w:World} {A:Around} {E:Value->Shared->Prop} {s:Shared} {l:Addr} {xs:Array (Int×Tok)} {Q:Value->Shared->Prop} (hh:A.handled=none) (hl:s.heap.IsTuple l (intItems xs)) (hne:0<xs.size)
  (h:∀v h' tk,(intItems xs)[argBest (fun i j=>decide (numAt xs i<numAt xs j)) (xs.size-1)]?=some v->(∀b o,s.heap.get? b=some o->h'.get? b=some o)->Q v { s with heap:=h',toks:=tk }) :
  wpAny (model prog w) A (call (.builtin "min") [.ref l]) Q E s:=by
 have hlt:l<s.heap.objs.size:=by obtain ⟨_,e,_⟩:=hl;exact Heap.lt_size e
 refine call_min_walk (wpAny_pyIter_tuple hl ?_)
 refine ⟨_,[_,l],[_],_,_,_,_,rfl,Walks.tuple (A:=A.in1) hh _ l (Nat.ne_of_lt hlt) (intItems xs),⟨⟨_,Heap.get?_push_size _ rfl,rfl,rfl⟩,hl.push _⟩,fun c hc=>?_,by simpa [intItems] using hne,CmpOf.ints_lt (numAt xs) (fun _ _=>intItems_at),fun v h' tk hP hk=>?_⟩
 ·show c<(s.heap.push _).objs.size
  rw [Heap.size_push];rcases List.mem_cons.mp hc with rfl | hc
  ·exact Nat.lt_succ_self _
  ·rcases List.mem_cons.mp hc with rfl | hc
   ·exact Nat.lt_succ_of_lt hlt
   ·cases hc
 ·refine h v h' tk (by simpa [intItems] using hP) fun c o e=>?_
  refine hk c o (fun hm=>?_) (Heap.get?_push_of_some _ e)
  rcases List.mem_cons.mp hm with e1 | hm
  ·exact absurd (e1▸Heap.lt_size e) (Nat.lt_irrefl _)
  ·cases hm
theorem qH {X:Cx} (hc:X.calm=true):CallR X (.builtin "min") (xi X.K):=by
 intro pins s σ H vs us Q I rv h;obtain ⟨p,ns,rfl,hq,hne,q⟩:=h;obtain ⟨u,rfl,ru⟩:=vals1 rv
 cases ru;obtain ⟨its,rv,pl,hz⟩:=I.tuple hq;have hi:=D6 rv
 obtain ⟨xs,ex⟩:=(hi.allInts:AllInts its.toArray).items
 have en:ns=xs.toList.map (·.1):=by
  rw [<-nums_intItems,<-ex];exact hi.numsOf.symm
 have hl:s.heap.IsTuple p its.toArray:=pl
 rw [ex] at hl;have hsz:0<xs.size:=by
  have h3:=hne
  rw [en,length_map,Array.length_toList] at h3;exact h3
 refine nF (I.ok.hd hc) hl hsz fun v h' tk hv hk=>?_
 obtain ⟨t,rfl⟩:=intItems_at hv;obtain ⟨h1,h2⟩:=argBest_lt (numAt xs) (xs.size-1)
 have eM:AG ns=numAt xs (argBest (fun i j=>decide (numAt xs i<numAt xs j)) (xs.size-1)):=by
  refine zj ?_ fun a ha=>?_
  ·rw [en,numAt_eq]
   exact getD_mem (by rw [length_map,Array.length_toList];omega)
  ·rw [en] at ha
   obtain ⟨j,hj,rfl⟩:=mem_getD ha;rw [length_map,Array.length_toList] at hj;rw [<-numAt_eq];exact h2 j (by omega)
 rw [eM] at q;exact ⟨.int (numAt xs (argBest (fun i j=>decide (numAt xs i<numAt xs j)) (xs.size-1))),H,I.kept (h':=h') (t':=tk) hk,⟨_,rfl⟩,q⟩
section
variable {X:Cx} {N gl:List Str} {vs cs ls lo gs:List Nat} {W:XW} {e:Expr} {es:List Expr} {pos p:Pos} {fl:FL}
theorem cb_minT (S:Cp X N gl vs cs ls lo gs) (j:Nat) (hj:gl[j]?=some ("min":Str)) (hg:gs.contains j=true) (hm:X.mg "min"=none) (ha:PA X (e::es) (tA X.K W fl)) (he:starEach (e::es) X.env=(false,eval e X.env)::starEach es X.env) (hpl:(backTo pos (starEach es X.env)).any (·.1)=false) :
  PE X (.Call (.Name "min" p) (e::es) [] pos) (tE X.K W (aY j7 fl)):=mO (qH S.calm) vI Cc hm ha (S.g hj hg).1 (S.g hj hg).2.2 (S.g hj hg).2.1 he hpl
end
end T
namespace TQ
open PySem PySem.Spec L2 T
open PyProof.Rows hiding St
section
variable {X:Cx} {N gl:List Str} {vs cs ls lo gs:List Nat} {W:XW} {b e:Expr} {es:List Expr} {pos p:Pos} {fl:FL} {f:F1} {g:FS}
theorem pC (S:Cp X N gl vs cs ls lo gs) (j:Nat) (hj:gl[j]?=some ("min":Str)) (hg:gs.contains j=true) (hm:X.mg "min"=none) (ha:Q (PA X (e::es) (tA X.K W fl))) (he:starEach (e::es) X.env=(false,eval e X.env)::starEach es X.env) (hpl:(backTo pos (starEach es X.env)).any (·.1)=false) :
  Q (PE X (.Call (.Name "min" p) (e::es) [] pos) (tE X.K W (aY j7 fl))):=⟨T.cb_minT S j hj hg hm ha.p he hpl⟩
theorem nq (S:Cp X N gl vs cs ls lo gs) (i j r:Nat) {x t y:Str} {px pt py:Pos} {kk:Nat} {pk sp pos1 pos2:Pos} {cg:List Stmt} (hb:Q (PE X b (tE X.K W f))) (hr:Q (PSs X cg (tS X.K W g))) (hx:N[i]?=some x:=by rfl) (lx:ls.contains i=true:=by rfl) (ht:N[j]?=some t:=by rfl) (vt:vs.contains j=true:=by rfl) (hy:N[r]?=some y:=by rfl) (ly:ls.contains r=true:=by rfl)
  (h0:wN (.Constant (.int 0) kk pk):=by exact fun _ _=>rfl) (hs1:swapsWith (.Subscript (.Name t pt) (.Constant (.int 0) kk pk) sp) (some (.Name x px)) pos1.line X.env=pure false:=by rfl) (hs2:swapsWith b (some (.Name y py)) pos2.line X.env=pure false:=by rfl) :
  Q (PSs X (.Assign [.Name x px] (.Subscript (.Name t pt) (.Constant (.int 0) kk pk) sp) pos1::.Assign [.Name y py] b pos2::cg) (tS X.K W (ao (wD i j r f) g))):=⟨T.cs_take2 S i j r hx lx ht vt hy ly h0 hs1 hs2 hb.p hr.p⟩
end
end TQ
namespace KQ.Y
open PySem PySem.Spec L2 T
open PyProof.Rows hiding St
open KC
noncomputable def d_again:FS:=(ao (cK (ai 3 bp (ab (ae 0) (ab (ae 1) (ab (ae 2) af)))))
  (ao (ax true 3 (ai 3 bL (ab (ae 0) (ab (ae 1) (ab (ae 2) af)))))
  (ao (wD 4 3 5 (oi 4 bI (ab (ae 0) (ab (ae 1) (ab (ae 2) (ab (ah (ae 3) (eK (.int 1))) af))))))
  (ao (ax false 6 (iZ .leaf 9 10 (ah (ae 0) (eK (.int 2))) aE (av .leaf 8 (aK (ae 10)) (aC aZ (ai 3 bX (ab (ae 5) (ab (ae 9) (ab (ae 8) af))))) (ae 8))))
  (ao (ax false 7 (iZ .leaf 9 10 (ah (ae 0) (eK (.int 2))) aE (av .leaf 8 (aK (ae 10)) (aC aZ (ai 3 bG (ab (ae 4) (ab (ae 9) (ab (ae 8) af))))) (ae 8))))
  (aG (bF (ab (bB 5) (ab (ai 3 bR (ab (ae 0) (ab (ae 1) (ab (ae 6) af)))) (ab (bB 4) (ab (ai 3 bR (ab (ae 0) (ab (ai 1 bh (ab (ae 1) af)) (ab (ae 7) af)))) af)))))))))))
noncomputable def m_again:List PySem.PyData->bD:=aL 11 d_again
noncomputable def g6:FS:=(ao (bf (b7 (aC aj (aw dI (ah (ae 3) (ae 5)) (eK (.int 0)))) (aC aj (aw bK (aw bg (ah (ae 3) (ae 5)) (eK (.int 0))) (aw (bV false) (ae 5) (ae 2))))) (aG (eK (.bool false))) az)
  (ao (ax false 6 (ai 4 cy (ab (ae 0) (ab (ae 1) (ab (ae 4) (ab (ae 5) af))))))
  (aG (de (aw eF (aY aM (ab (ae 6) af)) (eK (.int 0))) (aY (cE false) (ab (av .leaf 7 (aK (ae 6)) aE (ai 3 bX (ab (ae 3) (ab (ae 5) (ab (ae 7) af))))) af))))))
noncomputable def da:List PySem.PyData->bD:=aL 8 g6
noncomputable def g5:FS:=(ao (ax false 6 (ah (ae 3) (ae 5)))
  (ao (bf (b7 (aC aj (aw dI (ah (ae 6) (eK (.int 0))) (eK (.int 0)))) (b7 (aC aj (aw dI (ah (ae 6) (eK (.int 1))) (eK (.int 0)))) (bQ (aC aj (aw bg (ah (ae 6) (eK (.int 1))) (eK (.int 0)))) (aC aj (aw (bV false) (ae 5) (ae 2)))))) (aG (eK (.bool false))) az)
  (ao (ax false 7 (ai 4 cy (ab (ae 0) (ab (ai 1 bh (ab (ae 1) af)) (ab (ae 4) (ab (ae 5) af))))))
  (aG (de (aw eF (aY aM (ab (ae 7) af)) (eK (.int 0))) (aY (cE false) (ab (av .leaf 8 (aK (ae 7)) aE (ai 3 bG (ab (ae 3) (ab (ae 5) (ab (ae 8) af))))) af)))))))
noncomputable def cZ:List PySem.PyData->bD:=aL 9 g5
noncomputable def d_is_room_right:FS:=(ao (bf (aC aj (aw bg (aw (aO false) (ah (ah (ae 3) (eK (.int 0))) (ae 4)) (eK .none)) (aw (aO false) (ah (ah (ae 3) (eK (.int 2))) (ae 4)) (eK .none)))) (aG (eK (.bool false))) az)
  (ao (bf (aC aj (aw (aO false) (ah (ah (ae 3) (eK (.int 2))) (ae 4)) (eK .none))) (aG (ai 6 da (ab (ae 0) (ab (ae 1) (ab (ae 2) (ab (ah (ae 3) (eK (.int 0))) (ab (ah (ae 3) (eK (.int 1))) (ab (ae 4) af)))))))) az)
  (aG (ai 6 cZ (ab (ae 0) (ab (ae 1) (ab (ae 2) (ab (ah (ae 3) (eK (.int 2))) (ab (ah (ae 3) (eK (.int 3))) (ab (ae 4) af))))))))))
noncomputable def m_is_room_right:List PySem.PyData->bD:=aL 5 d_is_room_right
noncomputable def jB:FS:=(ao (cK (ai 3 bp (ab (ae 0) (ab (ae 1) (ab (ae 2) af)))))
  (ao (ax false 4 (aY aM (ab (ah (ae 0) (eK (.int 0))) af)))
  (ao (bf (b7 (aC aj (aw bK (aY aM (ab (ah (ae 3) (eK (.int 0))) af)) (ae 4))) (aC aj (aw bK (aY aM (ab (ah (ae 3) (eK (.int 2))) af)) (ae 4)))) (aG (eK (.bool false))) az)
  (ao (bf (b7 (bu (aC aZ (ai 3 bO (ab (ae 0) (ab (ae 1) (ab (ah (ae 3) (eK (.int 1))) af)))))) (bu (aC aZ (ai 3 bO (ab (ae 0) (ab (ai 1 bh (ab (ae 1) af)) (ab (ah (ae 3) (eK (.int 3))) af))))))) (aG (eK (.bool false))) az)
  (aG (aY (cE false) (ab (av .leaf 5 (cx (ab (ae 4) af)) aE (ai 5 m_is_room_right (ab (ae 0) (ab (ae 1) (ab (ae 2) (ab (ae 3) (ab (ae 5) af))))))) af)))))))
noncomputable def bJ:List PySem.PyData->bD:=aL 6 jB
noncomputable def d__law_rooms:FS:=(aG (av .leaf 2 (cx (ab (ae 1) af)) (aC aj (aw eF (ai 3 ak (ab (ae 0) (ab (ae 2) (ab (eK (.int 3)) af)))) (eK (.int 0)))) (ae 2)))
noncomputable def m__law_rooms:List PySem.PyData->bD:=aL 3 d__law_rooms
noncomputable def kY:FS:=(ao (ax false 3 (ue (ab (aY aM (ab (ah (ae 0) (eK (.int 0))) af)) af)))
  (ao (ax false 4 (eU FW (eK (.int 1))))
  (ao (wF 1000 (aC aj (aw bK (ae 4) (aY aM (ab (ae 3) af))))
  (ao (ax false 4 (aY aM (ab (ae 3) af)))
  (ao (ax false 5 (av .leaf 8 (aK (ae 2)) (aC aZ (ai 4 fC (ab (ae 0) (ab (ae 1) (ab (ae 8) (ab (ae 3) af)))))) (ae 8)))
  (ao (ax false 6 (ia (ae 5)))
  (ao (cM 7 (cx (ab (aY aM (ab (ah (ae 0) (eK (.int 0))) af)) af))
  (ax false 6 (av .leaf 8 (cx (ab (aY aM (ab (ah (ae 0) (eK (.int 0))) af)) af)) (b7 (aC aj (aw (bV false) (ae 8) (ae 5))) (aC aZ (ai 4 fC (ab (ae 0) (ab (ae 1) (ab (ae 8) (ab (ae 6) af))))))) (ae 8))))
  (ax false 3 (av .leaf 8 (aK (ae 3)) (aC aj (aw (bV false) (ae 8) (ae 6))) (ae 8))))))))
  (aG (ae 3)))))
noncomputable def kH:List PySem.PyData->bD:=aL 9 kY
noncomputable def mW:FS:=(ao (bf (aC aj (aw (aO false) (ah (ae 0) (ae 1)) (eK .none))) (aG (eK (.bool false))) az)
  (ao (bf (aC aj (aw bK (ah (ah (ae 0) (ae 1)) (eK (.int 0))) (ah (ah (ae 0) (ae 2)) (eK (.int 0))))) (aG (aw dI (ah (ah (ae 0) (ae 1)) (eK (.int 0))) (ah (ah (ae 0) (ae 2)) (eK (.int 0))))) az)
  (aG (qo (aw dI (ah (ah (ae 0) (ae 1)) (eK (.int 1))) (ah (ah (ae 0) (ae 2)) (eK (.int 1)))) (de (aw bg (ah (ah (ae 0) (ae 1)) (eK (.int 1))) (eK (.int 0))) (aw bg (ah (ah (ae 0) (ae 2)) (eK (.int 1))) (eK (.int 0))))))))
noncomputable def dC:List PySem.PyData->bD:=aL 3 mW
noncomputable def g9:FS:=(ao (ax false 6 (ah (ah (ae 0) (eK (.int 2))) (ae 5)))
  (ao (bf (aC aj (aw bg (ah (ah (ae 0) (eK (.int 0))) (ae 5)) (ae 1))) (ao (bf (aC aj (aw (aO false) (ah (ae 4) (ae 5)) (eK .none))) (aG (eK (.bool false))) az)
  (ax false 6 (aP .leaf (ab (ah (ae 4) (ae 5)) af)))) az)
  (ao (bf (b7 (aC aj (aw bK (aw bg (ah (ae 3) (ae 5)) (eK (.int 0))) (aw (bV false) (ae 5) (ae 2)))) (aC aj (aw eF (aY aM (ab (av .leaf 7 (aK (ae 6)) (aC aj (aw (aO false) (ah (ae 3) (ae 7)) (eK .none))) (ae 7)) af)) (eK (.int 0))))) (aG (eK (.bool false))) az)
  (aG (qo (aw bg (ah (ae 3) (ae 5)) (eK (.int 0))) (aw dI (aY fZ (ab (av .leaf 7 (aK (ae 6)) aE (ah (ae 3) (ae 7))) af)) (ah (ae 3) (ae 5))))))))
noncomputable def cw:List PySem.PyData->bD:=aL 8 g9
noncomputable def gB:FS:=(ao (ax false 6 (ah (ah (ae 0) (eK (.int 2))) (ae 5)))
  (ao (bf (aC aj (aw bK (ah (ah (ae 0) (eK (.int 0))) (ae 5)) (ae 1))) (ao (bf (aC aj (aw (aO false) (ah (ae 4) (ae 5)) (eK .none))) (aG (eK (.bool false))) az)
  (ax false 6 (aP .leaf (ab (ah (ae 4) (ae 5)) af)))) az)
  (ao (bf (b7 (aC aj (aw dI (aY j7 (ab (ah (ae 3) (ae 5)) af)) (eK (.int 0)))) (bQ (aC aj (aw bg (ah (ah (ae 3) (ae 5)) (eK (.int 1))) (eK (.int 0)))) (aC aj (aw (bV false) (ae 5) (ae 2))))) (aG (eK (.bool false))) az)
  (aG (aY (cE false) (ab (av .leaf 7 (aK (ae 6)) aE (ai 3 dC (ab (ae 3) (ab (ae 7) (ab (ae 5) af))))) af))))))
noncomputable def b8:List PySem.PyData->bD:=aL 8 gB
noncomputable def gk:FS:=(ao (fM [5,6,7,8] (ae 3))
  (ao (bf (b7 (aC aj (aw bK (aY aM (ab (ae 5) af)) (aY aM (ab (ah (ae 0) (eK (.int 0))) af)))) (aC aj (aw bK (aY aM (ab (ae 7) af)) (aY aM (ab (ah (ae 0) (eK (.int 0))) af))))) (aG (eK (.bool false))) az)
  (ao (bf (aC aj (aw eF (aY aM (ab (av .leaf 9 (aK (ae 5)) (bQ (aC aj (aw (aO true) (ae 9) (eK .none))) (aC aj (aw dI (ae 9) (eK (.int 0))))) (ae 9)) af)) (eK (.int 0)))) (aG (eK (.bool false))) az)
  (ao (bf (b7 (bu (aC aZ (ai 3 bM (ab (ae 0) (ab (ae 1) (ab (ae 6) af)))))) (bu (aC aZ (ai 3 bM (ab (ae 0) (ab (aw gSub (eK (.int 1)) (ae 1)) (ab (ae 8) af))))))) (aG (eK (.bool false))) az)
  (ao (cM 4 (cx (ab (aY aM (ab (ae 5) af)) af))
  (ao (bf (aC aj (aw bg (aw (aO false) (ah (ae 5) (ae 4)) (eK .none)) (aw (aO false) (ah (ae 7) (ae 4)) (eK .none)))) (aG (eK (.bool false))) az)
  (ao (bf (bQ (aC aj (aw (aO false) (ah (ae 7) (ae 4)) (eK .none))) (bu (aC aZ (ai 6 cw (ab (ae 0) (ab (ae 1) (ab (ae 2) (ab (ae 5) (ab (ae 6) (ab (ae 4) af)))))))))) (aG (eK (.bool false))) az)
  (bf (aC aj (aw (aO true) (ah (ae 7) (ae 4)) (eK .none))) (bf (bu (aC aZ (ai 6 b8 (ab (ae 0) (ab (ae 1) (ab (ae 2) (ab (ae 7) (ab (ae 8) (ab (ae 4) af))))))))) (aG (eK (.bool false))) az) az))))
  (aG (eK (.bool true))))))))
noncomputable def bH:List PySem.PyData->bD:=aL 10 gk
noncomputable def jD:FS:=(ao (bf (b7 (bu (aC aZ (dW "tuple" (ae 0)))) (b7 (aC aj (aw bK (aY aM (ab (ae 0) af)) (eK (.int 4)))) (bu (aC aZ (aY (cE false) (ab (av .leaf 3 (xt (ae 0)) aE (dW "list" (ae 3))) af)))))) (aG (eK (.bool false))) az)
  (ao (bf (bu (aC aZ (aY (cE false) (ab (av .leaf 2 (aK (ah (ae 0) (eK (.int 0)))) aE (qo (aw (aO false) (ae 2) (eK .none)) (ai 1 bA (ab (ae 2) af)))) af)))) (aG (eK (.bool false))) az)
  (ao (cM 1 (aK (ah (ae 0) (eK (.int 2))))
  (ao (bf (bQ (aC aj (aw (aO true) (ae 1) (eK .none))) (b7 (bu (aC aZ (dW "tuple" (ae 1)))) (aC aj (aw bK (aY aM (ab (ae 1) af)) (eK (.int 2)))))) (aG (eK (.bool false))) az)
  (bf (bQ (aC aj (aw (aO true) (ae 1) (eK .none))) (bu (bQ (aC aZ (ai 1 bA (ab (ah (ae 1) (eK (.int 0))) af))) (aC aZ (ai 1 bA (ab (ah (ae 1) (eK (.int 1))) af)))))) (aG (eK (.bool false))) az)))
  (aG (eK (.bool true))))))
noncomputable def fh:List PySem.PyData->bD:=aL 4 jD
noncomputable def d_law:FS:=(ao (ax false 1 (ai 3 m__law_world (ab (ae 0) (ab (eK (.int 0)) (ab (eK (.int 6)) af)))))
  (ao (bf (aC aj (aw bg (ai 3 ak (ab (ai 2 aF (ab (ae 0) (ab (eK (.int 8)) af))) (ab (eK (.int 1)) (ab (eK (.int 8)) af)))) (eK (.int 1)))) (ax false 1 (bF (ab (av .leaf 14 (cx (ab (eK (.int 24)) af)) aE (aw cj (aw nN (ae 14) (eK (.int 3))) (eK (.int 2)))) (ab (av .leaf 14 (cx (ab (eK (.int 24)) af)) aE (aP .leaf af)) (ab (av .leaf 14 (cx (ab (eK (.int 24)) af)) aE (aP .leaf (ab (aw cj (aw bc (ae 14) (eK (.int 1))) (eK (.int 24))) af))) af))))) az)
  (ao (ax false 2 (aY aM (ab (ah (ae 1) (eK (.int 0))) af)))
  (ao (ax false 3 (ai 3 ak (ab (ai 2 aF (ab (ae 0) (ab (eK (.int 8)) af))) (ab (eK (.int 0)) (ab (eK (.int 2)) af)))))
  (ao (ax false 4 (B1 (fun k=>(none,some k)) (ai 2 m__law_rooms (ab (ai 2 aF (ab (ae 0) (ab (eK (.int 7)) af))) (ab (ae 2) af))) (ah (aP .leaf (ab (eK (.int 24)) (ab (eK (.int 1)) af))) (ai 3 ak (ab (ai 2 aF (ab (ae 0) (ab (eK (.int 8)) af))) (ab (eK (.int 2)) (ab (eK (.int 2)) af)))))))
  (ao (ax false 5 (ai 3 kH (ab (ae 1) (ab (ae 3) (ab (ae 4) af)))))
  (ao (ax false 6 (av .leaf 13 (aK (ae 5)) (aC aj (aw bg (ah (ah (ae 1) (eK (.int 0))) (ae 13)) (ae 3))) (ae 13)))
  (ao (ax false 7 (av .leaf 13 (cx (ab (ae 2) af)) (bQ (aC aj (aw (bV true) (ae 13) (ae 5))) (aC aj (aw bK (ah (ah (ae 1) (eK (.int 0))) (ae 13)) (ae 3)))) (ae 13)))
  (ao (ax false 8 (aP .leaf (ab (ai 1 bY (ab (ae 1) af)) (ab (ia (ae 4)) af))))
  (ao (ax false 9 (eK (.str "")))
  (ao (cM 10 (cx (ab (eK (.int 2)) af))
  (ao (ax true 11 (ai 3 m_again (ab (ah (ae 8) (eK (.int 0))) (ab (ae 3) (ab (ah (ae 8) (eK (.int 1))) af)))))
  (ao (bf (b7 (bu (aC aZ (ai 1 fh (ab (ae 11) af)))) (b7 (bu (aC aZ (ai 4 bH (ab (ae 1) (ab (ae 3) (ab (ae 4) (ab (ae 11) af))))))) (aC aj (aw bK (ae 8) (aP .leaf (ab (ae 1) (ab (ae 4) af))))))) (aG (eK (.bool false))) az)
  (ao (bf (b7 (aC aj (aw bK (av .leaf 13 (cx (ab (ae 2) af)) (aC aj (aw (aO true) (ah (ah (ae 11) (eK (.int 0))) (ae 13)) (eK .none))) (ae 13)) (ae 5))) (aC aj (aw (bV true) (ae 9) (bF (ab (eK (.str "")) (ab (aY cH (ab (ae 11) af)) af)))))) (aG (eK (.bool false))) az)
  (ao (bf (bu (aC aZ (ai 4 bq (ab (ae 1) (ab (ae 3) (ab (ah (ae 11) (eK (.int 1))) (ab (ae 6) af))))))) (aG (eK (.bool false))) az)
  (ao (bf (bu (aC aZ (ai 4 bq (ab (ae 1) (ab (aw gSub (eK (.int 1)) (ae 3)) (ab (ah (ae 11) (eK (.int 3))) (ab (ae 7) af))))))) (aG (eK (.bool false))) az)
  (ao (bf (b7 (aC aj (aw (tv true) (ai 4 bJ (ab (ah (ae 8) (eK (.int 0))) (ab (ae 3) (ab (ah (ae 8) (eK (.int 1))) (ab (ae 11) af))))) (eK (.bool true)))) (aC aj (aw bK (ae 8) (aP .leaf (ab (ae 1) (ab (ae 4) af)))))) (aG (eK (.bool false))) az)
  (ao (ax false 9 (aY cH (ab (ae 11) af)))
  (CC 11 12)))))))))
  (aG (eK (.bool true))))))))))))))
noncomputable def m_law:List PySem.PyData->bD:=aL 15 d_law
open PySem.SeqAt
noncomputable def nowB (w:Wd) (p:Int) (r:Nat) (K:List Nat):Bool:=if own w p r then decide (0<((w.stp r).filter fun t=>K.contains t).length) else decide (((w.stp r).filter fun t=>K.contains t).length=(w.stp r).length)
noncomputable abbrev good (w:Wd) (p:Int) (T W:List Nat):List Nat:=T.filter fun r=>nowB w p r W
noncomputable abbrev Hq (w:Wd) (p:Int) (g K:List Nat):List Nat:=(List.range w.n).filter fun r=>g.contains r||nowB w p r K
noncomputable def kn (w:Wd) (p:Int) (g:List Nat):Nat->List Nat
 | 0=>g
 | i+1=>Hq w p g (kn w p g i)
noncomputable abbrev KN (w:Wd) (p:Int) (T W:List Nat):List Nat:=kn w p (good w p T W) w.n
structure AS where
 W:List Nat
 size:Int
 x5:Option PV
 x6:Option PV
 x7:Option PV
structure AI (w:Wd) (p:Int) (T:List Nat) (b:AS):Prop where
 std:Std w.n b.W
 big:∀X,Suff w.n w.stp (own w p) (·∈T) X->∀r,X r->r∈b.W
 kw:∀r∈KN w p T b.W,r∈b.W
 sz:b.size=-1\/∃W0,Std w.n W0/\b.size=(W0.length:Int)/\b.W=W0.filter fun r=>(KN w p T W0).contains r
structure Pap (w:Wd) (p:Int) (T:List Nat) (rk pl:List (Option Nat)) (tn:List (Option (Nat×Nat))) (ct:List (Option Nat)):Prop where
 lr:rk.length=w.n
 lt:tn.length=w.n
 pp:bZ w p pl
 pc:bZ w (1-p) ct
 ex:∀r,r<w.n->(aU rk r).isNone=!(dj tn r).isNone
 won:∀r k,r<w.n->aU rk r=some k->(k=0↔r∈T)/\sb w p pl r≠[]/\∀t∈sb w p pl r,BO rk r t=true
 lost:∀r a j,r<w.n->dj tn r=some (a,j)->(j=0->r∉T)/\sb w (1-p) ct r≠[]/\∀t∈sb w (1-p) ct r,B6 tn r t=true
section
variable {w:Wd} {p:Int} {T L:List Nat} {rk pl ct:List (Option Nat)} {tn:List (Option (Nat×Nat))}
theorem oB {q:Int} {pl:List (Option Nat)} (h:bZ w q pl) {r t:Nat} (hr:r<w.n) (ht:t∈sb w q pl r):t∈w.stp r:=by
 unfold sb at ht;split at ht
 ·cases e:aU pl r with
  | none=>rw [e] at ht;simp at ht
  | some u=>rw [e] at ht;rw [List.mem_singleton.mp ht];exact (h.st r u hr e).2
 ·exact ht
theorem CD (ok:w.Ok) {q:Int} {pl:List (Option Nat)} {r:Nat}:(sb w q pl r).length<=10000:=by
 have z:=ok.z.len (r:=r)
 unfold sb;split
 ·split<;>simp
 ·exact z
theorem ze:∀r t,r<w.n->t∈vi w rk r->t∈w.stp r:=fun r t _ h=>(List.mem_filter.mp h).1
theorem zR:∀r t,r<w.n->t∈zS w tn r->t∈w.stp r:=fun r t _ h=>(List.mem_filter.mp h).1
end
noncomputable abbrev F4:Sh:=.tup [.lst .leaf,.lst .leaf,.lst .leaf,.lst .leaf]
noncomputable abbrev aD (rk pl:List (Option Nat)) (tn:List (Option (Nat×Nat))) (ct:List (Option Nat)):D:=.tuple [aR rk,aR pl,d7 tn,aR ct]
theorem Ge (a b:Bool):bK (.bool a) (.bool b)=some (.bool (a != b)):=by cases a<;>cases b<;>kernel_rfl
theorem Hf (a b:Bool):bg (.bool a) (.bool b)=some (.bool (a==b)):=by cases a<;>cases b<;>kernel_rfl
theorem ux {Γ Γ1:Ev} {fl:FL} {ps:List PV} {n:Nat} {l:List (Option Nat)} {den:List D->bD} (hl:fl Γ=.ok ps Γ1) (hd:den (ps.map (·.d))=.ok ⟨.lst .leaf,aR l⟩) (hn:ps.length=n):oi n den fl Γ=.ok ⟨.lst .leaf,aR l⟩ Γ1:=by
 unfold oi;rw [hl];simp only [Out.bind,hn,if_true,hd]
 have:mH ⟨.lst .leaf,aR l⟩=true:=KQ.sc_rks
 rw [this];rfl
section
variable {w:Wd} {p:Int} {T L:List Nat} {rk pl ct:List (Option Nat)} {tn:List (Option (Nat×Nat))}
noncomputable abbrev GR (w:Wd) (p:Int) (R:List Nat) (rk pl:List (Option Nat)) (r:Nat) (x6:Option PV):Ev:=[some ⟨.leaf,w.enc⟩,some ⟨.leaf,.int p⟩,some ⟨.leaf,aJ R⟩,some ⟨.leaf,aR rk⟩,some ⟨.leaf,aR pl⟩,some ⟨.leaf,rm r⟩,x6,none]
noncomputable abbrev GT (w:Wd) (p:Int) (R:List Nat) (tn:List (Option (Nat×Nat))) (pl:List (Option Nat)) (r:Nat) (x6 x7:Option PV):Ev:=[some ⟨.leaf,w.enc⟩,some ⟨.leaf,.int p⟩,some ⟨.leaf,aJ R⟩,some ⟨.leaf,d7 tn⟩,some ⟨.leaf,aR pl⟩,some ⟨.leaf,rm r⟩,x6,x7,none]
noncomputable abbrev GW (w:Wd) (p:Int) (T:List Nat) (d:D) (x4:Option PV):Ev:=[some ⟨.leaf,w.enc⟩,some ⟨.leaf,.int p⟩,some ⟨.leaf,aJ T⟩,some ⟨.leaf,d⟩,x4,none]
end
theorem Ba {Γ:Ev} {fa fb:F1} (ha:fa Γ=.ok ⟨.leaf,.bool true⟩ Γ):qo fa fb Γ=.ok ⟨.leaf,.bool true⟩ Γ:=by
 unfold qo bj;rw [ha];rfl
section
variable {w:Wd} {p:Int} {T L:List Nat} {rk pl ct:List (Option Nat)} {tn:List (Option (Nat×Nat))}
noncomputable abbrev GH (w:Wd) (p:Int) (R:List Nat) (d:D) (pl:List (Option Nat)) (r:Nat) (x6:Option PV):Ev:=[some ⟨.leaf,w.enc⟩,some ⟨.leaf,.int p⟩,some ⟨.leaf,aJ R⟩,some ⟨.leaf,d⟩,some ⟨.leaf,aR pl⟩,some ⟨.leaf,rm r⟩,x6,none]
theorem jQ (ok:w.Ok) {q:Int} {d:D} {g:D->D->Option D} {b:Bool} (hP:bZ w q pl) {r:Nat} (hr:r<w.n) (ne:sb w q pl r≠[]) (hg:∀o:Int,(∀p',own w p' r=(o==p'))->g (.int o) (.int p)=some (.bool (own w q r))) :
  ao (ax false 6 (ah (ah (ae 0) (eK (.int 2))) (ae 5)))
   (bf (aC aj (aw g (ah (ah (ae 0) (eK (.int 0))) (ae 5)) (ae 1))) (ao (bf (aC aj (aw (aO false) (ah (ae 4) (ae 5)) (eK .none))) (aG (eK (.bool false))) az)
   (ax false 6 (aP .leaf (ab (ah (ae 4) (ae 5)) af)))) az) (GH w p T d pl r none)=.nx (GH w p T d pl r (some ⟨.leaf,aJ (sb w q pl r)⟩)):=by
 have s6:ax false 6 (ah (ah (ae 0) (eK (.int 2))) (ae 5)) (GH w p T d pl r none)=.nx (GH w p T d pl r (some ⟨.leaf,aJ (w.stp r)⟩)):=cV (Av ok rfl (aB rfl) hr) rfl (by simp)
 refine aA s6 ?_
 obtain ⟨o,eo,ho⟩:=j1 ok (Γ:=GH w p T d pl r (some ⟨.leaf,aJ (w.stp r)⟩)) (i:=0) (fb:=ae 5) (s:=.leaf) (r:=r) rfl (aB rfl) hr
 have t:=b6 (s:=.leaf) (aI (g:=g) eo (aB (i:=1) rfl) (hg o ho))
 have ip:ah (ae 4) (ae 5) (GH w p T d pl r (some ⟨.leaf,aJ (w.stp r)⟩))=.ok ⟨.leaf,oD (aU pl r)⟩ (GH w p T d pl r (some ⟨.leaf,aJ (w.stp r)⟩)):=rN (aB rfl) (aB (d:=rm r) rfl) (by rw [hP.len];exact hr)
 unfold sb at ne ⊢
 cases hw:own w q r with
 | false=>
  rw [hw] at t;exact aN t nofun fun _=>rfl
 | true=>
  rw [hw] at t ne
  refine aN t (fun _=>?_) nofun
  cases e:aU pl r with
  | none=>rw [e] at ne;exact absurd rfl ne
  | some u=>
   rw [e] at ip;have t2:=b6 (s:=.leaf) (aI (g:=aO false) (d:=.bool false) ip (aV (d:=.none)) rfl)
   exact aA (aN t2 nofun fun _=>rfl) (cV (pj (s:=.leaf) (aH ip ay) rfl rfl rfl) rfl (by simp))
theorem jS {a b c:FS} {Γ Γ1:Ev} {o:OutS} (h1:ao a b Γ=.nx Γ1) (h2:c Γ1=o):ao a (ao b c) Γ=o:=by
 unfold ao at *
 cases e:a Γ with
 | nx Γ'=>
  rw [e] at h1;dsimp only at h1 ⊢
  rw [h1];exact h2
 | bk _=>rw [e] at h1;cases h1
 | ct _=>rw [e] at h1;cases h1
 | rt _=>rw [e] at h1;cases h1
 | er _ _=>rw [e] at h1;cases h1
 | no=>rw [e] at h1;cases h1
noncomputable abbrev G10 (w:Wd) (p:Int) (T:List Nat) (rk pl:List (Option Nat)) (tn:List (Option (Nat×Nat))) (ct:List (Option Nat)) (x4:Option PV):Ev:=[some ⟨.leaf,w.enc⟩,some ⟨.leaf,.int p⟩,some ⟨.leaf,aJ T⟩,some ⟨.leaf,aD rk pl tn ct⟩,x4,some ⟨.leaf,aR rk⟩,some ⟨.leaf,aR pl⟩,some ⟨.leaf,d7 tn⟩,some ⟨.leaf,aR ct⟩,none]
noncomputable abbrev th:FS:=(ao (bf (aC aj (aw bg (aw (aO false) (ah (ae 5) (ae 4)) (eK .none)) (aw (aO false) (ah (ae 7) (ae 4)) (eK .none)))) (aG (eK (.bool false))) az)
  (ao (bf (bQ (aC aj (aw (aO false) (ah (ae 7) (ae 4)) (eK .none))) (bu (aC aZ (ai 6 cw (ab (ae 0) (ab (ae 1) (ab (ae 2) (ab (ae 5) (ab (ae 6) (ab (ae 4) af)))))))))) (aG (eK (.bool false))) az)
  (bf (aC aj (aw (aO true) (ah (ae 7) (ae 4)) (eK .none))) (bf (bu (aC aZ (ai 6 b8 (ab (ae 0) (ab (ae 1) (ab (ae 2) (ab (ae 7) (ab (ae 8) (ab (ae 4) af))))))))) (aG (eK (.bool false))) az) az)))
end
theorem ur {i j r:Nat} {f:F1} {Γ Γ2:Ev} {q:PV} {s0 s1:Sh} {d0 d1:D} (h0:sX Γ[j]?=true) (hf:f (Γ.set i none)=.ok q Γ2) (h2:Γ2[j]?=some (some ⟨.tup [s0,s1],.tuple [d0,d1]⟩)) (hc:i≠j/\i≠r/\j≠r/\i<Γ2.length/\r<Γ2.length/\q.s.isView=false):wD i j r f Γ=.nx (((Γ2.set j none).set i (some ⟨s0,d0⟩)).set r (some q)):=by
 unfold wD;rw [h0,hf];simp only [if_true,h2]
 rw [if_pos hc]
section
variable {w:Wd} {p:Int} {T L:List Nat} {rk pl ct:List (Option Nat)} {tn:List (Option (Nat×Nat))}
noncomputable abbrev jG (w:Wd) (p:Int) (T:List Nat) (x3 x4 x5 x6 x7:Option PV):Ev:=[some ⟨.leaf,w.enc⟩,some ⟨.leaf,.int p⟩,some ⟨.leaf,aJ T⟩,x3,x4,x5,x6,x7,none,none,none]
theorem nW (ok:w.Ok) (hp:p=0\/p=1) (hT:Std w.n T):∃rk tn L,m_again [w.enc,.int p,aJ T]=.ok ⟨F4,aD rk (cX w p (vi w rk)) tn (cX w (1-p) (zS w tn))⟩/\Cu w p T tn L/\RightG w.n (inn w.stp L) (own w p) L (gl T L) rk/\(∀r k,r<w.n->aU rk r=some k->k<w.n)/\∀r a j,dj tn r=some (a,j)->a<w.n/\j<w.n:=by
 have h24:=ok.h24
 have c1:=eH ok hp hT
 obtain ⟨tn,L,e1,A,bt⟩:=nT ok (p:=p) hT
 obtain ⟨rk,e2,R,br⟩:=nV ok (T:=T) A.std A.c
 refine ⟨rk,tn,L,?_,A,R,br,bt⟩
 have p1:=gN ok (p:=p) (sd:=vi w rk)
 have p2:=gN ok (p:=1-p) (sd:=zS w tn)
 have o1:=EF (p:=p)
 have s3:ax true 3 (ai 3 bL (ab (ae 0) (ab (ae 1) (ab (ae 2) af)))) (jG w p T none none none none none)=.nx (jG w p T (some ⟨.tup [.lst .leaf,.leaf],.tuple [d7 tn,aJ L]⟩) none none none none):=t6 (cC (aH (aB rfl) (aH (aB rfl) (aH (aB rfl) ay))) e1 rfl rfl) rfl (by simp)
 have s4:wD 4 3 5 (oi 4 bI (ab (ae 0) (ab (ae 1) (ab (ae 2) (ab (ah (ae 3) (eK (.int 1))) af))))) (jG w p T (some ⟨.tup [.lst .leaf,.leaf],.tuple [d7 tn,aJ L]⟩) none none none none)=.nx (jG w p T none (some ⟨.lst .leaf,d7 tn⟩) (some ⟨.lst .leaf,aR rk⟩) none none):=
  ur (Γ2:=jG w p T (some ⟨.tup [.lst .leaf,.leaf],.tuple [d7 tn,aJ L]⟩) none none none none) (q:=⟨.lst .leaf,aR rk⟩) (s1:=.leaf) (d1:=aJ L) rfl (ux (aH (aB rfl) (aH (aB rfl) (aH (aB rfl) (aH (fG (j:=1) (s:=.view) (s2:=.view) (A9 rfl) aV rfl rfl rfl) ay)))) e2 rfl) rfl ⟨by omega,by omega,by omega,by simp,by simp,rfl⟩
 have k1:iZ .leaf 9 10 (ah (ae 0) (eK (.int 2))) aE (av .leaf 8 (aK (ae 10)) (aC aZ (ai 3 bX (ab (ae 5) (ab (ae 9) (ab (ae 8) af))))) (ae 8)) (jG w p T none (some ⟨.lst .leaf,d7 tn⟩) (some ⟨.lst .leaf,aR rk⟩) none none)=.ok ⟨.lst .leaf,.list ((List.range w.n).map fun r=>aJ (vi w rk r))⟩ (jG w p T none (some ⟨.lst .leaf,d7 tn⟩) (some ⟨.lst .leaf,aR rk⟩) none none):=by
  refine EA (fun r=>aJ (w.stp r)) w.n (fun r=>⟨.lst .leaf,aJ (vi w rk r)⟩) (st:=true) ?_ rfl rfl (by omega) rfl (by omega) (fun r hr=>⟨?_,rfl⟩)
  ·simp [Wd.enc,cW,ok.z.s_range]
  ·refine qR rm (w.stp r) (fun t=>BO rk r t) (fun t=>⟨.leaf,rm t⟩) (st:=true) (by simp [Γ2]) (by simp [Γ2]) rfl ok.z.len (fun t ht=>?_) (fun t ht _=>?_)
   ·have:=kP (rk:=rk) (h:=r) (t:=t) (by rw [R.len];exact hr) (by rw [R.len];exact ok.stp_lt ht)
    exact dP (s:=.leaf) (KQ.v_callS (n:=3) (aH (ou (i:=5) rfl) (aH (aB (i:=9) rfl) (aH (aB (i:=8) rfl) ay))) this rfl rfl)
   ·simp [Γ2]
 have k2:iZ .leaf 9 10 (ah (ae 0) (eK (.int 2))) aE (av .leaf 8 (aK (ae 10)) (aC aZ (ai 3 bG (ab (ae 4) (ab (ae 9) (ab (ae 8) af))))) (ae 8)) (jG w p T none (some ⟨.lst .leaf,d7 tn⟩) (some ⟨.lst .leaf,aR rk⟩) (some ⟨.leaf,.list ((List.range w.n).map fun r=>aJ (vi w rk r))⟩) none)=.ok ⟨.lst .leaf,.list ((List.range w.n).map fun r=>aJ (zS w tn r))⟩ (jG w p T none (some ⟨.lst .leaf,d7 tn⟩) (some ⟨.lst .leaf,aR rk⟩) (some ⟨.leaf,.list ((List.range w.n).map fun r=>aJ (vi w rk r))⟩) none):=by
  refine EA (fun r=>aJ (w.stp r)) w.n (fun r=>⟨.lst .leaf,aJ (zS w tn r)⟩) (st:=true) ?_ rfl rfl (by omega) rfl (by omega) (fun r hr=>⟨?_,rfl⟩)
  ·simp [Wd.enc,cW,ok.z.s_range]
  ·refine qR rm (w.stp r) (fun t=>B6 tn r t) (fun t=>⟨.leaf,rm t⟩) (st:=true) (by simp [Γ2]) (by simp [Γ2]) rfl ok.z.len (fun t ht=>?_) (fun t ht _=>?_)
   ·have:=iO (tn:=tn) (h:=r) (t:=t) (by rw [A.len];exact hr) (by rw [A.len];exact ok.stp_lt ht)
    exact dP (s:=.leaf) (KQ.v_callS (n:=3) (aH (ou (i:=4) rfl) (aH (aB (i:=9) rfl) (aH (aB (i:=8) rfl) ay))) this rfl rfl)
   ·simp [Γ2]
 refine aW (aA (Γ1:=jG w p T none none none none none) (oq (cC (aH (aB rfl) (aH (aB rfl) (aH (aB rfl) ay))) c1 rfl rfl)) (aA s3 (aA s4 (aA (cV k1 rfl (by simp)) (aA (cV k2 rfl (by simp)) (aS (dv (aH (qQ (p:=⟨.lst .leaf,aR rk⟩) rfl) (aH (cC (aH (aB rfl) (aH (aB rfl) (aH (aB rfl) ay))) p1 rfl rfl) (aH (qQ (p:=⟨.lst .leaf,d7 tn⟩) rfl) (aH (cC (aH (aB rfl) (aH (cC (aH (aB rfl) ay) o1 rfl rfl) (aH (aB rfl) ay))) p2 rfl rfl) ay)))) rfl rfl) rfl))))))
noncomputable abbrev GL (xs:List D) (w:Wd) (p:Int) (R W OW TH:List Nat) (k:Str) (x10 x11:Option PV):Ev:=[some ⟨.leaf,.list xs⟩,some ⟨.leaf,w.enc⟩,some ⟨.leaf,.int (w.n:Int)⟩,some ⟨.leaf,.int p⟩,some ⟨.leaf,aJ R⟩,some ⟨.leaf,aJ W⟩,some ⟨.leaf,aJ OW⟩,some ⟨.leaf,aJ TH⟩,some ⟨.leaf,.list [w.enc,aJ R]⟩,some ⟨.leaf,.str k⟩,x10,x11,none,none,none]
noncomputable abbrev tB:FS:=(ao (ax true 11 (ai 3 m_again (ab (ah (ae 8) (eK (.int 0))) (ab (ae 3) (ab (ah (ae 8) (eK (.int 1))) af)))))
  (ao (bf (b7 (bu (aC aZ (ai 1 fh (ab (ae 11) af)))) (b7 (bu (aC aZ (ai 4 bH (ab (ae 1) (ab (ae 3) (ab (ae 4) (ab (ae 11) af))))))) (aC aj (aw bK (ae 8) (aP .leaf (ab (ae 1) (ab (ae 4) af))))))) (aG (eK (.bool false))) az)
  (ao (bf (b7 (aC aj (aw bK (av .leaf 13 (cx (ab (ae 2) af)) (aC aj (aw (aO true) (ah (ah (ae 11) (eK (.int 0))) (ae 13)) (eK .none))) (ae 13)) (ae 5))) (aC aj (aw (bV true) (ae 9) (bF (ab (eK (.str "")) (ab (aY cH (ab (ae 11) af)) af)))))) (aG (eK (.bool false))) az)
  (ao (bf (bu (aC aZ (ai 4 bq (ab (ae 1) (ab (ae 3) (ab (ah (ae 11) (eK (.int 1))) (ab (ae 6) af))))))) (aG (eK (.bool false))) az)
  (ao (bf (bu (aC aZ (ai 4 bq (ab (ae 1) (ab (aw gSub (eK (.int 1)) (ae 3)) (ab (ah (ae 11) (eK (.int 3))) (ab (ae 7) af))))))) (aG (eK (.bool false))) az)
  (ao (bf (b7 (aC aj (aw (tv true) (ai 4 bJ (ab (ah (ae 8) (eK (.int 0))) (ab (ae 3) (ab (ah (ae 8) (eK (.int 1))) (ab (ae 11) af))))) (eK (.bool true)))) (aC aj (aw bK (ae 8) (aP .leaf (ab (ae 1) (ab (ae 4) af)))))) (aG (eK (.bool false))) az)
  (ao (ax false 9 (aY cH (ab (ae 11) af)))
  (CC 11 12))))))))
end
theorem j9 {c:Int} {n:Nat} (hn:n<=24):∃R,m__law_rooms [.int c,.int (n:Int)]=.ok ⟨.lst .leaf,aJ R⟩/\Std n R:=by
 refine ⟨(List.range n).filter fun r:Nat=>decide (0<df c (r:Int) 3),?_,Std.of _⟩
 have e:av .leaf 2 (cx (ab (ae 1) af)) (aC aj (aw eF (ai 3 ak (ab (ae 0) (ab (ae 2) (ab (eK (.int 3)) af)))) (eK (.int 0)))) (ae 2) (bw 3 [.int c,.int (n:Int)])=.ok ⟨.lst .leaf,.list (((List.range n).filter fun r:Nat=>decide (0<df c (r:Int) 3)).map fun r=>rm r)⟩ (bw 3 [.int c,.int (n:Int)]):=by
  refine qR rm (List.range n) (fun r:Nat=>decide (0<df c (r:Int) 3)) (fun r=>⟨.leaf,rm r⟩) (st:=true) ?_ (by simp [bw]) rfl (by simp;omega) (fun r hr=>?_) (fun r hr _=>⟨aB rfl,rfl⟩)
  ·exact gp (s:=.leaf) (n:=n) (by omega) (by simp [bw])
  ·have:=List.mem_range.mp hr
   exact b6 (s:=.leaf) (aI (cC (aH (aB rfl) (aH (aB rfl) (aH aV ay))) (rg (c:=c) (k:=(r:Int)) (b:=3) (by omega) (by omega) (by omega) (by omega)) rfl rfl) aV rfl)
 exact aW (aS e rfl)
end KQ.Y
namespace T
open PySem PySem.Spec L2
open PyProof.Rows hiding St
def Cj (L:List Nat) (σ σ':St):Prop:=∀i∈L,σ'[i]?=σ[i]?
def nD (L:List Nat) (D:du) (σ:St):du:={ D with nx:=fun σ' H'=>Cj L σ σ'->D.nx σ' H' }
def tN (L:List Nat) (K:Fg) (W:XW) (g:FS):TS:=fun D σ H=>tS K W g (nD L D σ) σ H
section
variable {K:Fg} {W:XW} {σ:St} {H:Hp} {D:du} {fa fb fk:F1} {g g1 g2:FS} {c:FB} {L:List Nat}
theorem wg {i:Nat} {x:Option V} (h:i∉L):Cj L σ (σ.set i x):=fun j hj=>getElem?_set_ne (fun z:i=j=>h (by rw [z];exact hj))
theorem vo:(nD L D σ).nx σ=D.nx σ:=funext fun _=>propext ⟨fun h=>h fun _ _=>rfl,fun h _=>h⟩
theorem vn {R:(Hp->Prop)->Prop} (h:R ((nD L D σ).nx σ)):R (D.nx σ):=vo (L:=L) (D:=D) (σ:=σ)▸h
theorem uA {D':du} (h:tS K W g D σ H) (h1:∀σ' H',D.nx σ' H'->D'.nx σ' H') (h2:D'.rt=D.rt) (h3:D'.bk=D.bk) (h4:D'.ct=D.ct):tS K W g D' σ H:=by
 obtain ⟨He,O,Fs,Γ,E,h⟩:=h;refine ⟨He,O,Fs,Γ,E,?_⟩
 cases e:g Γ with
 | nx Γ'=>rw [e] at h;exact fun σ' H' Fs' E'=>h1 _ _ (h σ' H' Fs' E')
 | bk Γ'=>rw [e] at h;exact fun σ' H' Fs' E'=>by rw [h3];exact h σ' H' Fs' E'
 | ct Γ'=>rw [e] at h;exact fun σ' H' Fs' E'=>by rw [h4];exact h σ' H' Fs' E'
 | rt p=>rw [e] at h;exact fun v H' G r=>by rw [h2];exact h v H' G r
 | er c Γ'=>rw [e] at h;exact h
 | no=>rw [e] at h;exact h
theorem zf {σ1:St} (h:Cj L σ σ1):nD L D σ1=nD L D σ:=by
 unfold nD;congr 1
 funext σ' H'
 have:Cj L σ1 σ'↔Cj L σ σ':=⟨fun z i hi=>(z i hi).trans (h i hi),fun z i hi=>(z i hi).trans (h i hi).symm⟩
 rw [propext this]
theorem uP (h:tN L K W (ao g1 g2) D σ H):uz (tN L K W g1) (tN L K W g2) D σ H:=by
 have h:=DH h
 refine uA (D':=nD L { D with nx:=tN L K W g2 D } σ) h (fun σ1 H1 z a=>?_) rfl rfl rfl
 show tS K W g2 (nD L D σ1) σ1 H1
 rw [zf a];exact z
theorem sf (h:tN L K W az D σ H):rS D σ H:=vn (L:=L) (R:=fun P=>P H) (oG h)
theorem yx (h:tN L K W (bf c g1 g2) D σ H):yf (tT K W c) (tN L K W g1) (tN L K W g2) D σ H:=sg h
theorem uN {own:Bool} {i:Nat} (hi:i∉L) (h:tN L K W (ax own i fa) D σ H):gO (tE K W fa) (L2.gName i) D σ H:=by
 have h:tE K W fa σ H fun v H1=>(nD L D σ).nx (σ.set i (some v)) H1:=CB h
 have e:(fun v H1=>(nD L D σ).nx (σ.set i (some v)) H1)=fun v H1=>D.nx (σ.set i (some v)) H1:=funext fun v=>funext fun H1=>propext ⟨fun z=>z (wg hi),fun z _=>z⟩
 rw [e] at h;exact h
end
def AQ:Sh->Sh->Bool
 | .leaf,.leaf=>true
 | .lst s,.lst t=>kL (.lst s)&&kL (.lst t)
 | .tup ss,.tup ts=>ss.all kL&&ts.all kL&&decide (ss.length=ts.length)
 | _,_=>false
theorem xI:∀{ss ts:List Sh},ss.all kL=true->ts.all kL=true->ss.length=ts.length->ss=ts
 | [],[],_,_,_=>rfl
 | s::ss,t::ts,h1,h2,h3=>by
  simp only [List.all_cons,Bool.and_eq_true] at h1 h2
  rw [CF h1.1,CF h2.1,xI h1.2 h2.2 (by simpa using h3)]
 | [],_::_,_,_,h=>by cases h
 | _::_,[],_,_,h=>by cases h
theorem jT {s t:Sh} (h:AQ s t=true):s=t:=by
 unfold AQ at h;split at h
 ·rfl
 ·simp only [Bool.and_eq_true] at h
  rw [CF h.1,CF h.2]
 ·simp only [Bool.and_eq_true,decide_eq_true_eq] at h
  rw [xI h.1.1 h.1.2 h.2]
 ·cases h
def pX:List Sh->Ev->Option (List PySem.PyData)
 | [],_=>some []
 | s::ss,some p::Γ=>if AQ p.s s then (pX ss Γ).map (p.d :: ·) else none
 | _,_=>none
theorem mh:∀{ss:List Sh} {Γ:Ev} {ds:List PySem.PyData},pX ss Γ=some ds->ds.length=ss.length/\ss.length<=Γ.length/\∀(i:Nat) s d,ss[i]?=some s->ds[i]?=some d->Γ[i]?=some (some ⟨s,d⟩)
 | [],Γ,ds,h=>by
  cases h;exact ⟨rfl,Nat.zero_le _,fun i s d e=>by simp at e⟩
 | s::ss,[],ds,h=>by cases h
 | s::ss,none::Γ,ds,h=>by cases h
 | s::ss,some p::Γ,ds,h=>by
  unfold pX at h
  cases hs:AQ p.s s with
  | false=>rw [hs] at h;cases h
  | true=>
   rw [hs] at h;simp only [if_true] at h
   cases e:pX ss Γ with
   | none=>rw [e] at h;cases h
   | some ds'=>
    rw [e] at h
    cases h;obtain ⟨a,b,c⟩:=mh e;refine ⟨by simp [a],by simpa using b,fun i s' d e1 e2=>?_⟩
    cases i with
    | zero=>
     simp at e1 e2
     subst e1 e2;have:=jT hs
     obtain ⟨ps,pd⟩:=p
     cases this;rfl
    | succ i=>simpa using c i s' d (by simpa using e1) (by simpa using e2)
def qB (n:Nat) (ss:List Sh) (g:FS) (ds:List PySem.PyData):Option (List PySem.PyData):=match g (wG n ss ds) with
 | .nx Γ=>pX ss Γ
 | _=>none
structure Af (K:Fg) (He:Hp) (O:List Addr) (ss:List Sh) (vs:List V) (ds:List PySem.PyData) (H:Hp) (Gs:List (List Addr)):Prop where
 same:Same He H
 lg:Gs.length=ss.length
 ld:ds.length=ss.length
 nd:Gs.flatten.Nodup
 inH:∀a∈Gs.flatten,H a≠none
 fresh:∀a∈Gs.flatten,He a=none
 own:∀(i:Nat) v d G s,vs[i]?=some v->ds[i]?=some d->Gs[i]?=some G->ss[i]?=some s->Own K (Gs.flatten++O) H s G v d
def C2 (K:Fg) (ss:List Sh) (den:List PySem.PyData->Option (List PySem.PyData)):Sp:=fun vs H Q _=>vs.length=ss.length/\∃(O:List Addr) (Gs:List (List Addr)) (ds:List PySem.PyData),(Gs.flatten++O).Nodup/\(∀a∈Gs.flatten++O,H a≠none)/\Gs.length=ss.length/\ds.length=ss.length/\(∀s∈ss,s.isView=false) /\
 (∀(i:Nat) v d G s,vs[i]?=some v->ds[i]?=some d->Gs[i]?=some G->ss[i]?=some s->Own K (Gs.flatten++O) H s G v d)/\match den ds with
 | some ds'=>∀H' Gs',Af K (cQ H Gs.flatten) O ss vs ds' H' Gs'->Q .non H'
 | none=>False
section
variable {P:Program} {w:World} {K:Fg} {mg:Str->Option Value} {base:Heap}
theorem flat_take:∀{Fs:List (List Addr)} {n:Nat},(Fs.take n).flatten.Sublist Fs.flatten
 | [],n=>by rw [List.take_nil];exact List.Sublist.refl _
 | F::Fs,0=>List.nil_sublist _
 | F::Fs,n+1=>by
  rw [List.take_succ_cons,flatten_cons,flatten_cons];exact List.Sublist.append (List.Sublist.refl _) flat_take
theorem vN {x qual:Str} {st:Stmt} {f:Addr} {fd:FuncData} {N ps:List Str} {k:Nat} {g:FS} {ss:List Sh} (F:Fun K x qual st f fd) (S:eT N ps (iX st)) (hss:ss.length=ps.length)
  (hb:∀(cdv:Value) (A:Around) (outer:List Env) (s:Shared) (H:Hp) (E:XK),Room k (A.deeper (envOfC qual (iX st) s.heap.objs.size f cdv)) ->
   PSs (kZ lA P w K mg base N qual (iX st) f cdv A outer s H E).nox (rf st) (tN (List.range ss.length) K W0 g)):eN P w K mg base lA (k+1) f fd ps (C2 K ss (qB N.length ss g)):=by
 have hpl:ps.length<=N.length:=by have:=congrArg List.length S.pre;rw [length_take] at this;omega
 refine F.ok S (fun vs H Q E h=>by rw [h.1];exact hss) (fun cdv A outer s H vs Q E hr h=>⟨_,hb cdv A outer s H E hr,?_⟩)
 obtain ⟨hl,O,Gs,ds,nd,inH,hG,hd,nv,ow,w⟩:=h;refine ⟨_,O,_,wG N.length ss ds,nQ (by omega) hl hG hd nd inH nv ow,?_⟩
 unfold qB at w
 cases e:g (wG N.length ss ds) with
 | nx Γ'=>
  rw [e] at w;dsimp only at w;intro σ' H' Fs' E' ag
  show Q .non H'
  cases eo:pX ss Γ' with
  | none=>rw [eo] at w;exact w.elim
  | some ds'=>
   rw [eo] at w;obtain ⟨b1,b2,b3⟩:=mh eo;have hF:Fs'.length=Γ'.length:=E'.len2
   obtain ⟨m1,m2,m3⟩:=List.nodup_append.mp E'.nd
   have sub:∀a∈(Fs'.take ss.length).flatten,a∈Fs'.flatten:=fun a ha=>flat_take.subset ha
   refine w H' (Fs'.take ss.length) ⟨E'.same,by rw [length_take];omega,b1,m2.sublist flat_take,fun a ha=>E'.inH a (mem_append_right _ (sub a ha)),fun a ha=>E'.fresh a (sub a ha),fun i v d G s h1 h2 h3 h4=>?_⟩
   have hi:i<ss.length:=(List.getElem?_eq_some_iff.mp h4).1
   obtain ⟨_,u,F2,c1,c2,c3⟩:=E'.slot i ⟨s,d⟩ (b3 i s d h4 h2)
   have a1:=ag i (List.mem_range.mpr hi)
   have s1:(L2.start N vs)[i]?=some (some v):=by
    unfold L2.start;rw [getElem?_append_left (by simp;omega),getElem?_map,h1]
    rfl
   rw [s1,c1] at a1
   cases a1;rw [List.getElem?_take_of_lt hi,c2] at h3
   cases h3;exact c3.mono (Same.refl _) fun a ha=>.inl (by
    rcases List.mem_append.mp ha with z | z
    ·exact mem_append_right _ (sub a z)
    ·exact mem_append_left _ z)
 | rt p=>rw [e] at w;exact w.elim
 | bk Γ'=>rw [e] at w;exact w.elim
 | ct Γ'=>rw [e] at w;exact w.elim
 | er c Γ'=>rw [e] at w;exact w.elim
 | no=>rw [e] at w;exact w.elim
end
def nL:List Nat->Ev->Option (List PV)
 | [],_=>some []
 | j::js,Γ=>match Γ[j]? with
  | some (some p)=>(nL js (Γ.set j none)).map (p :: ·)
  | _=>none
def qE:List Nat->Ev->Ev
 | [],Γ=>Γ
 | j::js,Γ=>qE js (Γ.set j none)
def u5:List Nat->List Sh->List PySem.PyData->Ev->Ev
 | j::js,s::ss,d::ds,Γ=>u5 js ss ds (Γ.set j (some ⟨s,d⟩))
 | _,_,_,Γ=>Γ
def vk:List Sh->List PV->Bool
 | [],[]=>true
 | s::ss,p::ps=>AQ p.s s&&vk ss ps
 | _,_=>false
theorem oU:∀{ss:List Sh} {ps:List PV},vk ss ps=true->ps.length=ss.length
 | [],[],_=>rfl
 | s::ss,p::ps,h=>by
  simp only [vk,Bool.and_eq_true] at h
  simp [oU h.2]
 | [],_::_,h=>by cases h
 | _::_,[],h=>by cases h
theorem D9:∀{ss:List Sh} {ps:List PV} {i:Nat} {s:Sh} {p:PV},vk ss ps=true->ss[i]?=some s->ps[i]?=some p->p.s=s
 | s::ss,p::ps,0,_,_,h,h1,h2=>by
  simp only [vk,Bool.and_eq_true] at h
  simp at h1 h2
  subst h1 h2;exact jT h.1
 | s::ss,p::ps,i+1,_,_,h,h1,h2=>by
  simp only [vk,Bool.and_eq_true] at h
  exact D9 (i:=i) h.2 (by simpa using h1) (by simpa using h2)
 | [],[],i,_,_,_,h1,_=>by simp at h1
 | [],_::_,_,_,_,h,_,_=>by cases h
 | _::_,[],_,_,_,h,_,_=>by cases h
def gH (js:List Nat) (ss:List Sh) (den:List PySem.PyData->Option (List PySem.PyData)):FS:=fun Γ=>match nL js Γ with
 | some ps=>if vk ss ps then (match den (ps.map (·.d)) with
  | some ds=>if js.all (fun j=>decide (j<Γ.length))&&decide (ss.length=js.length) then .nx (u5 js ss ds (qE js Γ)) else .no
  | none=>.no) else .no
 | none=>.no
def gE:List Nat->TA
 | []=>uB
 | j::js=>lI (dE j) (gE js)
section
variable {K:Fg} {W:XW} {He H:Hp} {σ:St} {D:du}
theorem lH:∀{js:List Nat} {vs:List V} {Q:List V->Hp->Prop},vs.length=js.length->(∀(m:Nat) j v,js[m]?=some j->vs[m]?=some v->σ[j]?=some (some v))->Q vs H->gE js σ H Q
 | [],[],Q,_,_,q=>q
 | j::js,v::vs,Q,hl,h,q=>⟨v,h 0 j v rfl rfl,lH (vs:=vs) (by simpa using hl) (fun m j' v' e1 e2=>h (m+1) j' v' (by simpa using e1) (by simpa using e2)) q⟩
 | [],_::_,_,hl,_,_=>by cases hl
 | _::_,[],_,hl,_,_=>by cases hl
theorem xo:∀{js:List Nat} {O:List Addr} {Fs:List (List Addr)} {Γ:Ev} {ps:List PV},EnvOk K He O Fs H σ Γ->nL js Γ=some ps ->
  ∃(vs:List V) (Gs Fs':List (List Addr)),vs.length=js.length/\Gs.length=js.length/\ps.length=js.length/\(∀(m:Nat) j v,js[m]?=some j->vs[m]?=some v->σ[j]?=some (some v))/\EnvOk K He (Gs.flatten++O) Fs' H σ (qE js Γ) /\
   (∀(m:Nat) v p G,vs[m]?=some v->ps[m]?=some p->Gs[m]?=some G->p.s.isView=false/\Own K (Gs.flatten++O++Fs'.flatten) H p.s G v p.d)/\∀a∈Gs.flatten++Fs'.flatten,a∈Fs.flatten
 | [],O,Fs,Γ,ps,E,h=>by
  cases h;exact ⟨[],[],Fs,rfl,rfl,rfl,fun m j v e=>by simp at e,E,fun m v p G e=>by simp at e,fun a ha=>by simpa using ha⟩
 | j::js,O,Fs,Γ,ps,E,h=>by
  unfold nL at h;split at h
  ·rename_i p e0
   cases eg:nL js (Γ.set j none) with
   | none=>rw [eg] at h;cases h
   | some ps'=>
    rw [eg] at h
    cases h;obtain ⟨hv,v,F,h1,E1,o1,sub⟩:=E.move e0;obtain ⟨vs,Gs,Fs',l1,l2,l3,hn,E2,ow,sub2⟩:=xo E1 eg;have pm:((F::Gs).flatten++O).Perm (Gs.flatten++(F++O)):=by
     rw [flatten_cons,append_assoc];exact jY _ _ _
    refine ⟨v::vs,F::Gs,Fs',by simp [l1],by simp [l2],by simp [l3],fun m j' v' a1 a2=>?_,E2.perm pm,fun m v' p' G' a1 a2 a3=>?_,fun a ha=>?_⟩
    ·cases m with
     | zero=>simp at a1 a2;subst a1 a2;exact h1
     | succ m=>exact hn m j' v' (by simpa using a1) (by simpa using a2)
    ·cases m with
     | zero=>
      simp at a1 a2 a3
      subst a1 a2 a3;refine ⟨hv,o1.mono (Same.refl _) fun a ha=>.inl ?_⟩
      rw [flatten_cons] at ha;rcases List.mem_append.mp ha with z | z
      ·rcases List.mem_append.mp z with z | z
       ·rcases List.mem_append.mp z with z | z
        ·exact mem_append_left _ (mem_append_left _ z)
        ·exact mem_append_right _ (sub2 a (mem_append_left _ z))
       ·exact mem_append_left _ (mem_append_right _ z)
      ·exact mem_append_right _ (sub2 a (mem_append_right _ z))
     | succ m=>
      obtain ⟨b1,b2⟩:=ow m v' p' G' (by simpa using a1) (by simpa using a2) (by simpa using a3)
      refine ⟨b1,b2.mono (Same.refl _) fun a ha=>.inl ?_⟩
      rcases List.mem_append.mp ha with z | z
      ·exact mem_append_left _ (pm.mem_iff.mp z)
      ·exact mem_append_right _ z
    ·rw [flatten_cons,append_assoc] at ha
     rcases List.mem_append.mp ha with z | z
     ·exact sub a (mem_append_left _ z)
     ·exact sub a (mem_append_right _ (sub2 a z))
  ·cases h
theorem BH:∀{js:List Nat} {ss:List Sh} {ds:List PySem.PyData} {vs:List V} {Gs:List (List Addr)} {O:List Addr} {Fs:List (List Addr)} {Γ:Ev},EnvOk K He (Gs.flatten++O) Fs H σ Γ->ss.length=js.length->ds.length=js.length->vs.length=js.length->Gs.length=js.length->(∀j∈js,j<Γ.length)->(∀s∈ss,s.isView=false) ->
  (∀(m:Nat) j v,js[m]?=some j->vs[m]?=some v->σ[j]?=some (some v))->(∀a∈Gs.flatten,He a=none)->(∀(m:Nat) v d G s,vs[m]?=some v->ds[m]?=some d->Gs[m]?=some G->ss[m]?=some s->Own K (Gs.flatten++O++Fs.flatten) H s G v d)->∃Fs',EnvOk K He O Fs' H σ (u5 js ss ds Γ)
 | [],[],[],[],[],O,Fs,Γ,E,_,_,_,_,_,_,_,_,_=>⟨Fs,E⟩
 | j::js,s::ss,d::ds,v::vs,G::Gs,O,Fs,Γ,E,l1,l2,l3,l4,hj,hs,hn,fr,ow=>by
  have e1:((G::Gs).flatten++O)=G++(Gs.flatten++O):=by rw [flatten_cons,append_assoc]
  rw [e1] at E;have o0:=ow 0 v d G s rfl rfl rfl rfl
  rw [e1] at o0;have E1:=EnvOk.put (i:=j) (p:=⟨s,d⟩) (v:=v) E o0 (hs s (by simp)) (fun a ha=>fr a (by rw [flatten_cons];exact mem_append_left _ ha)) (hj j (by simp))
  rw [wK (hn 0 j v rfl rfl)] at E1;refine BH (js:=js) (ss:=ss) (ds:=ds) (vs:=vs) (Gs:=Gs) E1 (by simpa using l1) (by simpa using l2) (by simpa using l3) (by simpa using l4) (fun i hi=>by rw [length_set];exact hj i (by simp [hi])) (fun t ht=>hs t (by simp [ht])) (fun m j' v' a1 a2=>hn (m+1) j' v' (by simpa using a1) (by simpa using a2)) (fun a ha=>fr a (by rw [flatten_cons];exact mem_append_right _ ha)) fun m v' d' G' s' a1 a2 a3 a4=>?_
  refine (ow (m+1) v' d' G' s' (by simpa using a1) (by simpa using a2) (by simpa using a3) (by simpa using a4)).mono (Same.refl _) fun a ha=>.inl ?_
  rw [flatten_cons];rcases List.mem_append.mp ha with z | z
  ·rw [append_assoc,append_assoc,<-append_assoc Gs.flatten]
   exact mem_append_right _ (mem_append_left _ z)
  ·rcases fW z with z | z
   ·exact mem_append_left _ (mem_append_left _ (mem_append_left _ z))
   ·exact mem_append_right _ z
 | [],_::_,_,_,_,_,_,_,_,h,_,_,_,_,_,_,_,_=>by cases h
 | [],[],_::_,_,_,_,_,_,_,_,h,_,_,_,_,_,_,_=>by cases h
 | [],[],[],_::_,_,_,_,_,_,_,_,h,_,_,_,_,_,_=>by cases h
 | [],[],[],[],_::_,_,_,_,_,_,_,_,h,_,_,_,_,_=>by cases h
 | _::_,[],_,_,_,_,_,_,_,h,_,_,_,_,_,_,_,_=>by cases h
 | _::_,_::_,[],_,_,_,_,_,_,_,h,_,_,_,_,_,_,_=>by cases h
 | _::_,_::_,_::_,[],_,_,_,_,_,_,_,h,_,_,_,_,_,_=>by cases h
 | _::_,_::_,_::_,_::_,[],_,_,_,_,_,_,_,h,_,_,_,_,_=>by cases h
theorem mY:∀{js:List Nat} {Γ:Ev},(qE js Γ).length=Γ.length
 | [],_=>rfl
 | j::js,Γ=>by unfold qE;rw [mY,length_set]
theorem uS {js:List Nat} {ss:List Sh} {den:List PySem.PyData->Option (List PySem.PyData)} {E:XK} (h:tS K W (gH js ss den) D σ H):fK (oA (C2 K ss den) [] E (gE js)) D σ H:=by
 obtain ⟨He,O,Fs,Γ,E0,h⟩:=h;unfold gH at h
 cases eg:nL js Γ with
 | none=>rw [eg] at h;exact h.elim
 | some ps=>
  rw [eg] at h
  cases ho:vk ss ps with
  | false=>simp only [ho] at h;exact h.elim
  | true=>
   simp only [ho,if_true] at h
   cases ed:den (ps.map (·.d)) with
   | none=>rw [ed] at h;exact h.elim
   | some ds=>
    rw [ed] at h
    cases hc:(js.all (fun j=>decide (j<Γ.length))&&decide (ss.length=js.length)) with
    | false=>simp only [hc] at h;exact h.elim
    | true=>
     simp only [hc,if_true] at h
     have h:∀σ' H' Fs',EnvOk K He O Fs' H' σ' (u5 js ss ds (qE js Γ))->D.nx σ' H':=h
     simp only [Bool.and_eq_true,decide_eq_true_eq] at hc
     obtain ⟨vs,Gs,Fs',l1,l2,l3,hn,E2,ow,sub⟩:=xo E0 eg;have fr0:∀a∈Gs.flatten,He a=none:=fun a ha=>E0.fresh a (sub a (mem_append_left _ ha))
     have lp:=oU ho
     refine lH l1 hn ?_
     have nd2:=E2.nd
     rw [append_assoc] at nd2;have nv:∀s∈ss,s.isView=false:=fun s hs=>by
      obtain ⟨i,hi,e⟩:=getElem_of_mem hs;have e4:ss[i]?=some s:=by rw [getElem?_eq_getElem hi,e]
      have e2:ps[i]?=some (ps[i]'(by omega)):=getElem?_eq_getElem _
      rw [<-D9 ho e4 e2];exact (ow i (vs[i]'(by omega)) _ (Gs[i]'(by omega)) (getElem?_eq_getElem _) e2 (getElem?_eq_getElem _)).1
     refine ⟨by rw [append_nil];omega,O++Fs'.flatten,Gs,ps.map (·.d),nd2,fun a ha=>E2.inH a (by rw [append_assoc];exact ha),by omega,by rw [length_map];omega,nv,fun i v d G s a1 a2 a3 a4=>?_,?_⟩
     ·rw [append_nil] at a1
      rw [getElem?_map] at a2
      cases e2:ps[i]? with
      | none=>rw [e2] at a2;cases a2
      | some q=>
       rw [e2] at a2
       cases a2;have:=(ow i v q G a1 e2 a3).2
       rw [D9 ho a4 e2,append_assoc] at this;exact this
     ·rw [ed]
      intro H2 Gs2 r;rw [append_nil] at r;show D.nx σ H2
      have E3:=E2.step (G:=Gs2.flatten) r.same fr0 r.nd r.fresh r.inH
      have fr2:∀a∈Gs2.flatten,He a=none:=fun a ha=>by
       by_cases hm:a∈Gs.flatten
       ·exact fr0 a hm
       ·have:=r.fresh a ha
        unfold cQ at this;rw [if_neg hm] at this;exact E2.same.free this
      obtain ⟨Fs4,E4⟩:=BH (js:=js) (ss:=ss) (ds:=ds) (vs:=vs) (Gs:=Gs2) E3 hc.2 (by rw [r.ld];omega) l1 (by rw [r.lg];omega) (fun j hj=>by rw [mY];simpa using List.all_eq_true.mp hc.1 j hj) nv hn fr2 fun m v d G s a1 a2 a3 a4=>by
       have:=r.own m v d G s a1 a2 a3 a4
       rw [<-append_assoc] at this;exact this
      exact h σ H2 Fs4 E4
end
def DefOkL (P:Program) (w:World) (K:Fg) (mg:Str->Option Value) (base:Heap) (j:Nat) (x:Str) (ss:List Sh) (den:List PySem.PyData->Option (List PySem.PyData)):Prop:=
 ∃(f:Addr) (fd:FuncData) (ps:List Str),eN P w K mg base lA j f fd ps (C2 K ss den)/\mg x=some (.ref f)/\PySem.W.keepIn K (.ref f)=true/\Binds K fd ps []
def wt (X:Cx) (x:Str) (ss:List Sh) (den:List PySem.PyData->Option (List PySem.PyData)):Prop:=∃(k:Nat) (f:Addr) (fd:FuncData) (ps:List Str),eN X.prog X.w X.K X.mg X.base lA k f fd ps (C2 X.K ss den)/\Room k X.A/\X.mg x=some (.ref f)/\PySem.W.keepIn X.K (.ref f)=true/\Binds X.K fd ps []
theorem DefOkL.cal {X:Cx} {j k:Nat} {x:Str} {ss:List Sh} {den:List PySem.PyData->Option (List PySem.PyData)} (h:DefOkL X.prog X.w X.K X.mg X.base j x ss den) (hr:Room k X.A) (hj:decide (j<=k)=true):wt X x ss den:=by
 obtain ⟨f,fd,ps,F,a,b,c⟩:=h;exact ⟨j,f,fd,ps,F,hr.mono (of_decide_eq_true hj),a,b,c⟩
section
variable {X:Cx} {N gl:List Str} {vs cs ls lo gs:List Nat} {W:XW} {L:List Nat} {a b c e:Expr} {es:List Expr} {pos p:Pos} {fa fb fk:F1} {ga:FB} {g g1 g2:FS}
theorem cs_lent (S:Cp X N gl vs cs ls lo gs) (j:Nat) (js:List Nat) {x:Str} {ss:List Sh} {den:List PySem.PyData->Option (List PySem.PyData)} {cpos:Pos} (hj:gl[j]?=some x) (hg:gs.contains j=true) (C:wt X x ss den) (ha:PA X (e::es) (gE js))
  (he:starEach (e::es) X.env=(false,eval e X.env)::starEach es X.env) (hpl:(backTo cpos (starEach es X.env)).any (·.1)=false) (hs:swapsWith (.Call (.Name x p) (e::es) [] cpos) none pos.line X.env=pure false) :
  PS X (.Expr (.Call (.Name x p) (e::es) [] cpos) pos) (tS X.K W (gH js ss den)):=by
 obtain ⟨k,f,fd,ps,F,hr,hm,hk,hb⟩:=C;exact cL (AU (Ea F hr (S.g hj hg).1 hm hk hb .nil sF ha (S.g hj hg).2.1 he hpl) hs) fun _ _ _=>uS
end
abbrev xQ (x:Str) (s:Stmt) (ps:List Str) (us:List Value):Prop:=∀(kV doc pm:Value) (an:Option Addr) (cdv ct:Value),bindArgs (PySem.W.fnOf x x (Ay s) (rf s) (iX s) .none kV doc pm an cdv ct) ⟨us,[]⟩=pure (ps.zip us)
abbrev tZ (x:Str) (s:Stmt) (ps:List Str):Prop:=∀us:List Value,us.length=ps.length->xQ x s ps us
section
variable {x:Str} {s:Stmt} {p1 p2 p3 p4 p5 p6:Str}
theorem xG (h:∀a,xQ x s [p1] [a]:=by exact fun _ _ _ _ _ _ _=>rfl):tZ x s [p1]:=fun us hl=>match us,hl with | [_],_=>h _
theorem xF (h:∀a b,xQ x s [p1,p2] [a,b]:=by exact fun _ _ _ _ _ _ _ _=>rfl):tZ x s [p1,p2]:=fun us hl=>match us,hl with | [_,_],_=>h _ _
theorem qN (h:∀a b c,xQ x s [p1,p2,p3] [a,b,c]:=by exact fun _ _ _ _ _ _ _ _ _=>rfl):tZ x s [p1,p2,p3]:=fun us hl=>match us,hl with | [_,_,_],_=>h _ _ _
theorem xE (h:∀a b c d,xQ x s [p1,p2,p3,p4] [a,b,c,d]:=by exact fun _ _ _ _ _ _ _ _ _ _=>rfl):tZ x s [p1,p2,p3,p4]:=fun us hl=>match us,hl with | [_,_,_,_],_=>h _ _ _ _
theorem HD (h:∀a b c d e,xQ x s [p1,p2,p3,p4,p5] [a,b,c,d,e]:=by exact fun _ _ _ _ _ _ _ _ _ _ _=>rfl):tZ x s [p1,p2,p3,p4,p5]:=fun us hl=>match us,hl with | [_,_,_,_,_],_=>h _ _ _ _ _
theorem Dm (h:∀a b c d e f,xQ x s [p1,p2,p3,p4,p5,p6] [a,b,c,d,e,f]:=by exact fun _ _ _ _ _ _ _ _ _ _ _ _=>rfl):tZ x s [p1,p2,p3,p4,p5,p6]:=fun us hl=>match us,hl with | [_,_,_,_,_,_],_=>h _ _ _ _ _ _
end
def Ft (K:Fg) (mg:Str->Option Value) (n:Str) (s:Stmt):Prop:=∃f fd,mg n=some (.ref f)/\Fun K n n s f fd
theorem ft {K:Fg} {h:Heap} {mg:Str->Option Value} {n:Str} {s:Stmt} {f:Addr} {od an:Option Addr} {sl:Array (Option Value)} {oc kV dc pm cd ct:Value} (X:K.In h) (G:h.Ns mainGlobals mg) (a:PySem.W.nsIn K mainGlobals n=some (some (.ref f))) (l:K.lookup f=some ⟨oc,od,.func (PySem.W.fnOf n n (Ay s) (rf s) (iX s) .none kV dc pm an cd ct),sl⟩) (c:PySem.W.codeIn K cd n=true) (k:PySem.W.keepIn K (.ref f)=true):Ft K mg n s:=⟨f,_,PySem.W.mg_of X G a,zL (st:=s) l c k⟩
theorem tL {K:Fg} {x:Str} {st:Stmt} {f:Addr} {fd:FuncData} {ps:List Str} (F:Fun K x x st f fd) (b:tZ x st ps):Binds K fd ps []:=F.binds fun kV doc pm an cdv ct us hl=>b us hl kV doc pm an cdv ct
def vu (vs cs:List Nat):List Nat:=vs.filter fun i=>!cs.contains i
def fB (N gl ps:List Str) (vs cs gs:List Nat) (s:Stmt):Bool:=qD N gl vs cs vs (vu vs cs) gs (iX s)&&BR N gl&&(!(iX s).isCoroutine&&!(iX s).isGenerator&&decide (N.take ps.length=ps)&&(ps.all fun x=>wA (iX s) [.local,.cell] (some x))&&((iX s).names.all fun y=>!decide (y.2=.free)))
theorem xB {N gl ps:List Str} {vs cs gs:List Nat} {s:Stmt} (h:fB N gl ps vs cs gs s=true):qD N gl vs cs vs (vu vs cs) gs (iX s)=true/\BR N gl=true/\eT N ps (iX s):=by
 unfold fB at h;simp only [Bool.and_eq_true,decide_eq_true_eq,all_eq_true,Bool.not_eq_true',decide_eq_false_iff_not] at h
 obtain ⟨⟨h1,h2⟩,⟨⟨⟨h3,h4⟩,h5⟩,h6⟩,h7⟩:=h;refine ⟨h1,h2,(Dy h1).kind,h3,h4,(sM h2).1,h5,fun x hx=>?_,h7⟩
 obtain ⟨k,hk,q⟩:=AC (h6 x hx);simp only [mem_cons,not_mem_nil,or_false] at hk
 rcases hk with rfl | rfl
 ·exact .inl q
 ·exact .inr q
structure In (p:Fg->(Str->Option Value)->Prop) (X:Cx) (P:Program) (w:World) (K:Fg) (mg:Str->Option Value) (base:Heap) (k:Nat):Prop where
 e1:X.prog=P
 e2:X.w=w
 e3:X.K=K
 e4:X.mg=mg
 e5:X.base=base
 rm:Room k X.A
 pp:p K mg
section
variable {p:Fg->(Str->Option Value)->Prop} {X Y:Cx} {P:Program} {w:World} {K:Fg} {mg:Str->Option Value} {base:Heap} {j k n:Nat} {x:Str} {s:Stmt} {ps:List Str} {g:FS} {den:List PySem.PyData->bD} {ss:List Sh}
theorem In.r (I:In p X P w K mg base k):Rm X:=I.rm.units
theorem In.e (I:In p X P w K mg base k):p X.K X.mg:=by rw [I.e3,I.e4];exact I.pp
theorem In.c (I:In p X P w K mg base k) (h:DefOk P w K mg base j x n den) (hj:decide (j<=k)=true:=by first | exact rfl | exact decide_eq_true (by omega)):AK X x n den:=by
 obtain ⟨rfl,rfl,rfl,rfl,rfl,r,_⟩:=I;exact h.cal r hj
theorem Fx.i (F:Fx X Y) (I:In p X P w K mg base k):In p Y P w K mg base k:=⟨F.prog.trans I.e1,F.w.trans I.e2,F.K.trans I.e3,F.mg.trans I.e4,F.base.trans I.e5,by rw [F.A];exact I.rm,I.pp⟩
abbrev Bd (p:Fg->(Str->Option Value)->Prop) (P:Program) (w:World) (K:Fg) (mg:Str->Option Value) (base:Heap) (k:Nat) (N gl:List Str) (vs cs gs:List Nat) (s:Stmt) (g:FS):Prop:=∀X:Cx,Cp X N gl vs cs vs (vu vs cs) gs->In p X P w K mg base k->PassesOwn (model X.prog X.w) X.A X.env X.xe->TQ.Q (PSs X (rf s) (tS X.K W0 g))
theorem G7 {f:Addr} {fd:FuncData} (F:Fun K x x s f fd) (e:p K mg) (N gl:List Str) (vs cs gs:List Nat) (h:fB N gl ps vs cs gs s=true) (hb:Bd p P w K mg base k N gl vs cs gs s g):eN P w K mg base lA (k+1) f fd ps (qX K ps.length (aL N.length g)):=by
 obtain ⟨h1,h2,h3⟩:=xB h;exact zM F h3 fun cdv A outer s H E hr=>(hb _ (Cp.fn h1 h2) ⟨rfl,rfl,rfl,rfl,rfl,hr,e⟩ PassesOwn.never).p
theorem mk (F:Ft K mg x s) (e:p K mg) (ps:List Str) (b:tZ x s ps) (rs gl:List Str) (vs cs gs:List Nat) (hb:Bd p P w K mg base k (ps++rs) gl vs cs gs s g) (h:fB (ps++rs) gl ps vs cs gs s=true:=by kernel_rfl):DefOk P w K mg base (k+1) x ps.length (aL (ps++rs).length g):=by
 obtain ⟨f,fd,hm,F⟩:=F;exact ⟨f,fd,ps,G7 F e _ gl vs cs gs h hb,hm,F.kp,tL F b⟩
theorem Hv {fa:Addr} (F:Ft K mg x s) (e:p K mg) (q:Str) (b:tZ x s [q]) (hfa:mg x=some (.ref fa)) (rs gl:List Str) (vs cs gs:List Nat) (hb:∀base,Bd p P w K mg base k ([q]++rs) gl vs cs gs s g) (h:fB ([q]++rs) gl [q] vs cs gs s=true:=by kernel_rfl) :
  ∃fd:FuncData,(∀(s:Shared) (v:Value),BindsTo s fd ⟨[v],[]⟩ [(q,v)])/\∀base:Heap,K.In base->base.Ns mainGlobals mg->eN P w K mg base lA (k+1) fa fd [q] (qX K 1 (aL ([q]++rs).length g)):=by
 obtain ⟨f,fd,hm,F⟩:=F;have e':=hfa.symm.trans hm
 cases e'
 refine ⟨fd,fun s v=>?_,fun base _ _=>G7 F e _ gl vs cs gs h (hb base)⟩
 obtain ⟨oc,od,kV,doc,pm,an,cdv,ct,osl,rfl,lk,hcd⟩:=F.ex;exact .of_eq (b [v] rfl kV doc pm an cdv ct)
section
variable {h:Heap} {a:Addr} {dd:Option Addr} {its:Array Value} {n:Nat} {sl:Array (Option Value)} {ds:List PySem.PyData} (KX:K.In h) (G:h.Ns mainGlobals mg)
include KX G
theorem gn (z:PySem.W.nsIn K mainGlobals x=some none):mg x=none:=PySem.W.mg_none_of KX G z
theorem gi {i:Int} {t:Tok} (z:PySem.W.nsIn K mainGlobals x=some (some (.int i t))):og K mg x (.int i):=v7 (PySem.W.mg_of KX G z)
theorem gt (z:PySem.W.nsIn K mainGlobals x=some (some (.ref a))) (l:K.lookup a=some ⟨.type "tuple",dd,.seq its n,sl⟩) (c:zX its ds=true):og K mg x (.tuple ds):=v5 (PySem.W.mg_of KX G z) l c
end
theorem walkG {m:List PySem.PyData->bD} {l:PySem.W.OpenLaw} {q:Program} {loose:List Str} {XP:(Str->Option Value)->Heap->Prop} {YP:World->Heap->Prop} {d:DefRec} {K:Params->Fg} (lt:∀ns:List Int,ns.length<=63->m [.list (ns.map .int)]=.ok ⟨.leaf,.bool true⟩) (hr:Room j callerA) (hn:l.most=some 63) (hdf:d.params.defaults=[])
  (hY:∀(w:World) (h:Heap),YP w h->(K w.params).In h)
  (F:∀(w:World) (mg:Str->Option Value) (fa:Addr) (h:Heap),(K w.params).In h->h.Ns mainGlobals mg->mg d.name=some (.ref fa) ->
   ∃fd:FuncData,(∀(s:Shared) (u:Value),BindsTo s fd ⟨[u],[]⟩ [("script",u)])/\∀base:Heap,(K w.params).In base->base.Ns mainGlobals mg->eN l.prog w (K w.params) mg base lA j fa fd ["script"] (qX (K w.params) 1 m)) :
  PySem.W.WalkO q loose XP YP l.row.toRowW d [] (fun f vs=>PySem.call f vs):=
 L2.walk_of (n:=63) (k:=j) (x := "script") (CX:=fun _=>lA) (sp:=fun w=>qX (K w.params) 1 m) hn (by decide) hdf hr hY F (fun _ _ a ns hl _ hS=>zk (lt ns hl) hS) fun _ _ _ _ _ z=>z
end
end T
namespace TQ
open PySem PySem.Spec L2 T
open PyProof.Rows hiding St
section
variable {X:Cx} {N gl:List Str} {vs cs ls lo gs:List Nat} {W:XW} {a b c e:Expr} {es:List Expr} {pos p:Pos} {fa fb fc:F1} {fl:FL} {ga gb:FB} {g1 g2 g:FS}
theorem aq (S:Cp X N gl vs cs ls lo gs) (i:Nat) {x:Str} (hN:N[i]?=some x:=by exact rfl) (hv:vs.contains i=true:=by exact rfl):Q (PE X (.Name x pos) (tE X.K W (ae i))):=EI S i hN hv
theorem aT (ha:Q (PE X e (tE X.K W fa))) (hr:Q (PA X es (tA X.K W fl))) (hs:wy e=false:=by exact rfl):Q (PA X (e::es) (tA X.K W (ab fa fl))):=jK ha hr (eP hs)
theorem aX (ha:Q (PE X e (tE X.K W fa))) (hs:wy e=false:=by exact rfl):Q (PA X [e] (tA X.K W (ab fa af))):=jK ha xT (eP hs)
theorem ba (ha:Q (PE X a (tE X.K W fa))) (hb:Q (PE X b (tE X.K W fb))) (hs:wN b:=by exact fun _ _=>rfl):Q (PE X (.Subscript a b pos) (tE X.K W (ah fa fb))):=rG ha hb hs
theorem bP {x:Str} {n:Nat} {den:List PySem.PyData->bD} (S:Cp X N gl vs cs ls lo gs) (j:Nat) (C:AK X x n den) (ha:Q (PA X (e::es) (tA X.K W fl))) (hj:gl[j]?=some x:=by exact rfl) (hg:gs.contains j=true:=by exact rfl) (he:wy e=false:=by exact rfl) (hpl:(backTo pos (starEach es X.env)).any (·.1)=false:=by exact rfl):Q (PE X (.Call (.Name x p) (e::es) [] pos) (tE X.K W (ai n den fl))):=EM S j hj hg C ha (eP he) hpl
theorem dy (S:Cp X N gl vs cs ls lo gs) (own:Bool) (i:Nat) {x:Str} {pos':Pos} (ha:Q (PE X a (tE X.K W fa))) (hi:N[i]?=some x:=by exact rfl) (hl:ls.contains i=true:=by exact rfl) (hs:swapsWith a (some (.Name x pos')) pos.line X.env=pure false:=by exact rfl):Q (PS X (.Assign [.Name x pos'] a pos) (tS X.K W (ax own i fa))):=D0 S own i hi hl hs ha
theorem e8 (S:Cp X N gl vs cs ls lo gs) (j:Nat) (hm:X.mg "len"=none) (ha:Q (PA X (e::es) (tA X.K W fl))) (hj:gl[j]?=some ("len":Str):=by exact rfl) (hg:gs.contains j=true:=by exact rfl) (he:wy e=false:=by exact rfl) (hpl:(backTo pos (starEach es X.env)).any (·.1)=false:=by exact rfl):Q (PE X (.Call (.Name "len" p) (e::es) [] pos) (tE X.K W (aY aM fl))):=rJ S j hj hg hm ha (eP he) hpl
theorem bN {op:CmpOp} {r:R2} {g:PySem.PyData->PySem.PyData->Option PySem.PyData} (k:Ck X op r g) (ha:Q (PE X a (tE X.K W fa))) (hb:Q (PE X b (tE X.K W fb))) (hm:behindInMarks op b=false:=by with_unfolding_all rfl):Q (PT X (.Compare a [op] [b] pos) (tT X.K W (aC aj (aw g fa fb)))):=EJ k ha hb hm
theorem eQ {op:CmpOp} {r:R2} {g:PySem.PyData->PySem.PyData->Option PySem.PyData} (k:Ck X op r g) (ha:Q (PE X a (tE X.K W fa))) (hb:Q (PE X b (tE X.K W fb))) (hm:behindInMarks op b=false:=by with_unfolding_all rfl):Q (PE X (.Compare a [op] [b] pos) (tE X.K W (aw g fa fb))):=EL k ha hb hm
theorem cb (ha:Q (PE X a (tE X.K W fa))):Q (PSs X [.Return (some a) pos] (tS X.K W (aG fa))):=gq (rD ha)
theorem fH {scope:Scope} {x:Str} {px:Pos} {iter elt:Expr} {ifs:List Expr} {fi:FI} {fe:F1} {fc:FB} (vs' cs' gs':List Nat) (S:Cp X N gl vs cs ls lo gs) (i:Nat) (hi':Q (PI X (.Name x px) iter (tI X.K W fi))) (hc:pf X N gl vs' cs' [i] [] gs' fun Y=>Q (PF Y ifs (tT Y.K W0 fc))) (he:pf X N gl vs' cs' [i] [] gs' fun Y=>Q (PE Y elt (tE Y.K W0 fe))) (hx:N[i]?=some x:=by exact rfl) (h1:kd N i cs scope=true:=by kernel_rfl) (h2:qD N gl vs' cs' [i] [] gs' scope=true:=by kernel_rfl) (hs:∀x,foldedSetIterable iter X.env x=pure x:=by exact fun _=>rfl):Q (PE X (.ListComp elt [⟨.Name x px,iter,ifs,0⟩] scope pos) (tE X.K W (av .leaf i fi fc fe))):=EK S .leaf i hx h1 h2 hi' hc he hs
end
end TQ
namespace T
open PySem PySem.Spec L2
open PyProof.Rows hiding St
section
variable {p:Fg->(Str->Option Value)->Prop} {X Y:Cx} {P:Program} {w:World} {K:Fg} {mg:Str->Option Value} {base:Heap} {j k n:Nat} {x:Str} {s:Stmt} {ps:List Str} {g:FS} {den:List PySem.PyData->Option (List PySem.PyData)} {ss:List Sh}
theorem In.l (I:In p X P w K mg base k) (h:DefOkL P w K mg base j x ss den) (hj:decide (j<=k)=true:=by first | exact rfl | exact decide_eq_true (by omega)):wt X x ss den:=by
 obtain ⟨rfl,rfl,rfl,rfl,rfl,r,_⟩:=I;exact h.cal r hj
abbrev HH (L:List Nat) (p:Fg->(Str->Option Value)->Prop) (P:Program) (w:World) (K:Fg) (mg:Str->Option Value) (base:Heap) (k:Nat) (N gl:List Str) (vs cs gs:List Nat) (s:Stmt) (g:FS):Prop:=∀X:Cx,Cp X N gl vs cs vs (vu vs cs) gs->In p X P w K mg base k->PassesOwn (model X.prog X.w) X.A X.env X.xe->TQ.Q (PSs X (rf s) (tN L X.K W0 g))
theorem Hu (F:Ft K mg x s) (e:p K mg) (ps:List Str) (b:tZ x s ps) (hss:ss.length=ps.length) (rs gl:List Str) (vs cs gs:List Nat) (hb:HH (List.range ss.length) p P w K mg base k (ps++rs) gl vs cs gs s g) (h:fB (ps++rs) gl ps vs cs gs s=true:=by kernel_rfl):DefOkL P w K mg base (k+1) x ss (qB (ps++rs).length ss g):=by
 obtain ⟨f,fd,hm,F⟩:=F;obtain ⟨h1,h2,h3⟩:=xB h;exact ⟨f,fd,ps,vN F h3 hss fun cdv A outer s H E hr=>(hb _ (Cp.fn h1 h2) ⟨rfl,rfl,rfl,rfl,rfl,hr,e⟩ PassesOwn.never).p,hm,F.kp,tL F b⟩
end
end T
namespace TQ
open PySem PySem.Spec L2 T
open PyProof.Rows hiding St
section
variable {X:Cx} {N gl:List Str} {vs cs ls lo gs:List Nat} {W:XW} {L:List Nat} {a b c e:Expr} {es:List Expr} {pos p:Pos} {fa fb fk:F1} {ga:FB} {g g1 g2:FS}
theorem rC:Q (PA X [] (gE [])):=⟨DE⟩
theorem Eo (S:Cp X N gl vs cs ls lo gs) (i:Nat) {js:List Nat} {x:Str} {px:Pos} (hr:Q (PA X es (gE js))) (hi:N[i]?=some x:=by rfl) (hv:vs.contains i=true:=by rfl) (hs:starEach (.Name x px::es) X.env=(false,eval (.Name x px) X.env)::starEach es X.env:=by exact eP rfl):Q (PA X (.Name x px::es) (gE (i::js))):=⟨by
 have hr:=hr.p
 have m:=S.nm x (mem_of_getElem? hi)
 exact CG (uh (by rw [S.hN];exact hi) (S.vis i x hi hv) m.1 m.2) hr hs⟩
theorem pw (S:Cp X N gl vs cs ls lo gs) (j:Nat) {js:List Nat} {x:Str} {ss:List Sh} {den:List PySem.PyData->Option (List PySem.PyData)} {cpos:Pos} (C:wt X x ss den) (ha:Q (PA X (e::es) (gE js))) (hj:gl[j]?=some x:=by rfl) (hg:gs.contains j=true:=by rfl)
  (he:starEach (e::es) X.env=(false,eval e X.env)::starEach es X.env:=by exact eP rfl) (hpl:(backTo cpos (starEach es X.env)).any (·.1)=false:=by rfl) (hs:swapsWith (.Call (.Name x p) (e::es) [] cpos) none pos.line X.env=pure false:=by rfl) :
  Q (PS X (.Expr (.Call (.Name x p) (e::es) [] cpos) pos) (tS X.K W (gH js ss den))):=⟨T.cs_lent S j js hj hg C ha.p he hpl hs⟩
theorem Ax:Q (PSs X [] (tN L X.K W az)):=⟨Ah oQ fun _ _ _=>sf⟩
theorem ub {st:Stmt} {cg:List Stmt} (h1:Q (PS X st (tN L X.K W g1))) (h2:Q (PSs X cg (tN L X.K W g2))):Q (PSs X (st::cg) (tN L X.K W (ao g1 g2))):=⟨have h1:=h1.p;have h2:=h2.p;Ah (CL h1 h2) fun _ _ _=>uP⟩
theorem xU {st:Stmt} (h1:Q (PS X st (tN L X.K W g1))):Q (PSs X [st] (tN L X.K W g1)):=⟨have h1:=h1.p;oP h1⟩
theorem Ar {A B:List Stmt} (hc:Q (PT X c (tT X.K W ga))) (ha:Q (PSs X A (tN L X.K W g1))) (hb:Q (PSs X B (tN L X.K W g2))):Q (PS X (.If c A B pos) (tN L X.K W (bf ga g1 g2))):=⟨have hc:=hc.p;have ha:=ha.p;have hb:=hb.p;cL (xl hc ha hb) fun _ _ _=>yx⟩
theorem AX (S:Cp X N gl vs cs ls lo gs) (own:Bool) (i:Nat) {x:Str} {pos':Pos} (hi:N[i]?=some x) (hl:ls.contains i=true) (hs:swapsWith a (some (.Name x pos')) pos.line X.env=pure false) (ha:Q (PE X a (tE X.K W fa))) (hL:L.contains i=false:=by rfl):Q (PS X (.Assign [.Name x pos'] a pos) (tN L X.K W (ax own i fa))):=⟨have ha:=ha.p;cL (CA (by rw [S.hN];exact S.nd) (by rw [S.hN];exact hi) (S.loc i x hi hl).1 ha hs (S.loc i x hi hl).2) fun _ _ _=>uN fun z=>by rw [List.contains_iff_mem.mpr z] at hL;cases hL⟩
end
end TQ
namespace KQ.Z
open PySem PySem.Spec L2 T
open PyProof.Rows hiding St
open KC
noncomputable def jC:FS:=(ao (bf (b7 (aC aj (aw bK (aY aM (ab (ae 3) af)) (aY aM (ab (ah (ae 0) (eK (.int 0))) af)))) (aC aj (aw eF (aY aM (ab (av .leaf 9 (aK (ae 3)) (bQ (aC aj (aw (aO true) (ae 9) (eK .none))) (aC aj (aw dI (ae 9) (eK (.int 0))))) (ae 9)) af)) (eK (.int 0))))) (aG (eK (.bool false))) az)
  (ao (cM 5 (cx (ab (aY aM (ab (ae 3) af)) af))
  (ao (bf (aC aj (aw bK (aw bg (ah (ae 3) (ae 5)) (eK (.int 0))) (aw (bV false) (ae 5) (ae 2)))) (aG (eK (.bool false))) az)
  (ao (ax false 6 (ah (ah (ae 0) (eK (.int 2))) (ae 5)))
  (ao (bf (bQ (aC aj (aw (aO true) (ah (ae 3) (ae 5)) (eK .none))) (bQ (aC aj (aw eF (ah (ae 3) (ae 5)) (eK (.int 0)))) (aC aj (aw bg (ah (ah (ae 0) (eK (.int 0))) (ae 5)) (ae 1))))) (ao (ax false 6 (aP .leaf (ab (ah (ae 4) (ae 5)) af)))
  (bf (aC aj (aw (aO false) (ah (ae 4) (ae 5)) (eK .none))) (aG (eK (.bool false))) az)) az)
  (ao (ax false 7 (av .leaf 8 (aK (ae 6)) (aC aj (aw (aO true) (ah (ae 3) (ae 8)) (eK .none))) (ae 8)))
  (ao (bf (bQ (aC aj (aw (aO true) (ah (ae 3) (ae 5)) (eK .none))) (aC aj (aw eF (ah (ae 3) (ae 5)) (eK (.int 0))))) (bf (b7 (aC aj (aw dI (aY aM (ab (ae 7) af)) (aY aM (ab (ae 6) af)))) (aC aj (aw kN (aY fZ (ab (av .leaf 8 (aK (ae 7)) aE (ah (ae 3) (ae 8))) af)) (ah (ae 3) (ae 5))))) (aG (eK (.bool false))) az) az)
  (bf (aC aj (aw (aO false) (ah (ae 3) (ae 5)) (eK .none))) (bf (b7 (aC aj (aw bg (aY aM (ab (ae 7) af)) (aY aM (ab (ae 6) af)))) (bQ (aC aj (aw bg (ah (ah (ae 0) (eK (.int 0))) (ae 5)) (ae 1))) (aC aj (aw eF (aY aM (ab (ae 7) af)) (eK (.int 0)))))) (aG (eK (.bool false))) az) az)))))))
  (aG (eK (.bool true)))))
noncomputable def jo:List PySem.PyData->bD:=aL 10 jC
noncomputable def d__law_bent:FS:=(ao (ax false 5 (ai 3 ak (ab (ae 4) (ab (eK (.int 0)) (ab (eK (.int 8)) af)))))
  (ao (ax false 6 (aw cj (ai 3 ak (ab (ae 4) (ab (eK (.int 1)) (ab (eK (.int 24)) af)))) (aY aM (ab (ah (ae 0) (eK (.int 0))) af))))
  (ao (bf (aC aj (aw dI (ae 5) (eK (.int 3)))) (dk 2 (ah (aP .leaf (ab (eK .none) (ab (aw gSub (ai 3 ak (ab (ae 4) (ab (eK (.int 2)) (ab (eK (.int 9)) af)))) (eK (.int 2))) (ab (eK (.int 0)) af)))) (ae 5)) (ae 6)) az)
  (ao (bf (aC aj (aw bg (ae 5) (eK (.int 3)))) (dk 3 (ah (aP .leaf (ab (eK .none) (ab (aw cj (ai 3 ak (ab (ae 4) (ab (eK (.int 2)) (ab (eK (.int 24)) af)))) (aY aM (ab (ah (ae 0) (eK (.int 0))) af))) af))) (aw cj (ai 3 ak (ab (ae 4) (ab (eK (.int 3)) (ab (eK (.int 3)) af)))) (eK (.int 2)))) (ae 6)) az)
  (ao (bf (aC aj (aw bg (ae 5) (eK (.int 4)))) (dk 3 (ah (ah (ah (ae 0) (eK (.int 2))) (ae 6)) (aw cj (ai 3 ak (ab (ae 4) (ab (eK (.int 2)) (ab (eK (.int 24)) af)))) (aY aM (ab (ah (ah (ae 0) (eK (.int 2))) (ae 6)) af)))) (ae 6)) az)
  (ao (bf (aC aj (aw bg (ae 5) (eK (.int 5)))) (Gy 2 3 (ai 3 ak (ab (ae 4) (ab (eK (.int 2)) (ab (eK (.int 2)) af)))) fun m=>gr m (eK .none)) az)
  (bf (aC aj (aw bg (ae 5) (eK (.int 6)))) (Gy 2 3 (ai 3 ak (ab (ae 4) (ab (eK (.int 2)) (ab (eK (.int 2)) af)))) ES) az)))))))
noncomputable def m__law_bent:List PySem.PyData->Option (List PySem.PyData):=qB 7 [.leaf,.leaf,.lst .leaf,.lst .leaf,.leaf] d__law_bent
noncomputable def d_law:FS:=(ao (ax false 1 (ai 3 m__law_world (ab (ae 0) (ab (eK (.int 0)) (ab (eK (.int 6)) af)))))
  (ao (ax false 2 (aY aM (ab (ah (ae 1) (eK (.int 0))) af)))
  (ao (ax false 3 (ai 2 aF (ab (ae 0) (ab (eK (.int 8)) af))))
  (ao (ax false 4 (ai 3 ak (ab (ae 3) (ab (eK (.int 30)) (ab (eK (.int 2)) af)))))
  (ao (ax false 5 (ai 2 fE (ab (ai 2 aF (ab (ae 0) (ab (eK (.int 7)) af))) (ab (ae 2) af))))
  (ao (fM [9,10] (ai 3 m_bring (ab (ae 1) (ab (ae 4) (ab (ae 5) af)))))
  (ao (bf (aC aj (aw bg (ai 3 ak (ab (ae 3) (ab (eK (.int 31)) (ab (eK (.int 2)) af)))) (eK (.int 1)))) (ax true 9 (av .leaf 13 (aK (ae 9)) aE (fm (aC aj (aw (aO false) (ae 13) (eK .none))) (eK .none) (aw cD (eK (.int 3)) (ae 13))))) az)
  (ao (bf (aC aj (aw bg (ai 3 ak (ab (ae 3) (ab (eK (.int 33)) (ab (eK (.int 3)) af)))) (eK (.int 1)))) (ao (ax false 11 (ai 3 ak (ab (ae 3) (ab (eK (.int 34)) (ab (eK (.int 6)) af)))))
  (ao (ax true 10 (av .leaf 14 (cx (ab (ae 2) af)) aE (fm (bQ (aC aj (aw (aO true) (ah (ae 9) (ae 14)) (eK .none))) (aC aj (aw AJ (ah (ae 9) (ae 14)) (ae 11)))) (ah (ae 10) (ae 14)) (eK .none))))
  (ax true 9 (av .leaf 13 (aK (ae 9)) aE (fm (bQ (aC aj (aw (aO true) (ae 13) (eK .none))) (aC aj (aw AJ (ae 13) (ae 11)))) (ae 13) (eK .none)))))) (gH [1,4,9,10,3] [.leaf,.leaf,.lst .leaf,.lst .leaf,.leaf] m__law_bent))
  (ao (bf (aC aj (aw bg (ai 3 ak (ab (ae 3) (ab (eK (.int 32)) (ab (eK (.int 9)) af)))) (eK (.int 1)))) (ax false 5 (ai 2 fE (ab (ai 2 aF (ab (ae 0) (ab (eK (.int 9)) af))) (ab (ae 2) af)))) az)
  (je 10 (je 9 (ao (ax false 6 (aP .leaf (ab (ai 1 bY (ab (ae 1) af)) (ab (ia (ae 5)) (ab (ia (ae 9)) (ab (ia (ae 10)) af))))))
  (ao (ax false 7 (de (ai 3 bM (ab (ae 1) (ab (ae 4) (ab (ae 10) af)))) (ai 5 jo (ab (ae 1) (ab (ae 4) (ab (ae 5) (ab (ae 9) (ab (ae 10) af))))))))
  (ao (cM 8 (cx (ab (eK (.int 2)) af))
  (ao (ax false 12 (ai 5 dH (ab (ae 1) (ab (ae 4) (ab (ae 5) (ab (ae 9) (ab (ae 10) af)))))))
  (bf (b7 (bu (aC aZ (dW "bool" (ae 12)))) (b7 (aC aj (aw bK (ae 12) (ae 7))) (aC aj (aw bK (aP .leaf (ab (ae 1) (ab (ae 5) (ab (ae 9) (ab (ae 10) af))))) (ae 6))))) (aG (eK (.bool false))) az)))
  (aG (eK (.bool true)))))))))))))))))
noncomputable def m_law:List PySem.PyData->bD:=aL 15 d_law
open PySem.SeqAt
noncomputable def zD:Option Int->D
 | none=>.none
 | some z=>.int z
noncomputable abbrev b5 (rk:List (Option Int)):D:=.list (rk.map zD)
noncomputable def zA (rk:List (Option Int)) (r:Nat):Option Int:=rk.getD r none
theorem oh {rk:List (Option Int)} {r:Nat} (h:r<rk.length):(rk.map zD)[r]?=some (zD (zA rk r)):=by
 rw [getElem?_map,getElem?_eq_getElem h,zA,getD_eq_getElem?_getD,getElem?_eq_getElem h];rfl
theorem ik {Γ:Ev} {fa fb:F1} {s:Sh} {rk:List (Option Int)} {r:Nat} (ha:fa Γ=.ok ⟨.leaf,b5 rk⟩ Γ) (hb:fb Γ=.ok ⟨s,rm r⟩ Γ) (h:r<rk.length):ah fa fb Γ=.ok ⟨.leaf,zD (zA rk r)⟩ Γ:=qP (j:=r) ha hb (lB (by rw [length_map];exact h)) (oh h) rfl
theorem Cv (o:Option Int):bg (zD o) (.int 0)=some (.bool (decide (o=some 0))):=by
 cases o with
 | none=>kernel_rfl
 | some z=>
  show bg (.int z) (.int 0)=_
  rw [KC.eq_int];congr 2
  rw [Bool.eq_iff_iff];simp
theorem Az {α:Type} (en:α->D) {i:Nat} {body:FS} {Inv:Ev->Prop} {c:α->Bool} {q:PV}:∀(xs:List α) (Γ:Ev),(∀a∈xs,∀Γ,Inv Γ->i<Γ.length/\(c a=true->∃Γ',body (Γ.set i (some ⟨.leaf,en a⟩))=.nx Γ'/\Inv Γ')/\(c a=false->body (Γ.set i (some ⟨.leaf,en a⟩))=.rt q))->Inv Γ ->
  (xs.all c=true->∃Γ',cv i body (xs.map en) Γ=.nx Γ'/\Inv Γ')/\(xs.all c=false->cv i body (xs.map en) Γ=.rt q)
 | [],Γ,_,h=>⟨fun _=>⟨Γ,rfl,h⟩,nofun⟩
 | a::r,Γ,hb,h=>by
  obtain ⟨h1,h2,h3⟩:=hb a mem_cons_self Γ h;rw [map_cons,List.all_cons]
  cases e:c a with
  | true=>
   obtain ⟨Γ1,e1,i1⟩:=h2 e;have ih:=Az en r Γ1 (fun b hb'=>hb b (mem_cons_of_mem _ hb')) i1
   have ef:cv i body (en a::r.map en) Γ=cv i body (r.map en) Γ1:=by
    rw [cv,if_pos h1,e1]
   rw [ef,Bool.true_and];exact ih
  | false=>
   rw [Bool.false_and];refine ⟨fun z=>(nomatch z),fun _=>?_⟩
   rw [cv,if_pos h1,h3 e]
section
variable {w:Wd} {p:Int} {R:List Nat} {rk:List (Option Int)} {pl:List (Option Nat)}
noncomputable def pB (w:Wd) (p:Int) (pl:List (Option Nat)) (r:Nat):Bool:=match aU pl r with
 | none=>true
 | some t=>own w p r&&(w.stp r).contains t
noncomputable def dh (w:Wd) (p:Int) (pl:List (Option Nat)):Bool:=decide (pl.length=w.n)&&(List.range w.n).all (pB w p pl)
theorem wJ (h:dh w p pl=true):bZ w p pl:=by
 simp only [dh,Bool.and_eq_true,decide_eq_true_eq] at h
 refine ⟨h.1,fun r t hr e=>?_⟩
 have:=List.all_eq_true.mp h.2 r (List.mem_range.mpr hr)
 unfold pB at this;rw [e] at this;simpa using this
theorem Ez (ok:w.Ok) (hm:pl.length<=1000):bO [w.enc,.int p,aR pl]=.ok ⟨.leaf,.bool (dh w p pl)⟩:=by
 cases hB:dh w p pl with
 | true=>exact mM ok (wJ hB)
 | false=>
  have h24:=ok.h24
  have t:=b6 (s:=.leaf) (aI (Γ:=bw 6 [w.enc,.int p,aR pl]) (g:=bK) (bT (g:=aM) (d:=.int (pl.length:Int)) (aH (aB (i:=2) rfl) ay) (by simp)) (wQ ok (i:=0) rfl) KC.ne_int)
  by_cases hl:pl.length=w.n
  ·rw [hl,beq_self_eq_true] at t
   have e1:iZ .leaf 4 5 (ae 2) (aC aj (aw (aO true) (ae 5) (eK .none))) (ae 4) [some ⟨.leaf,w.enc⟩,some ⟨.leaf,.int p⟩,some ⟨.leaf,aR pl⟩,none,none,none]=.ok ⟨.lst .leaf,.list (((List.range w.n).filter fun r=>!(aU pl r).isNone).map fun r=>rm r)⟩ [some ⟨.leaf,w.enc⟩,some ⟨.leaf,.int p⟩,some ⟨.leaf,aR pl⟩,none,none,none]:=by
    refine Ef (fun r=>oD (aU pl r)) w.n (fun r=>!(aU pl r).isNone) (fun r=>⟨.leaf,rm r⟩) (st:=true) ?_ rfl rfl (by omega) rfl (by omega) (fun r hr=>?_) (fun r hr _=>?_)
    ·simp only [aR,jV hl]
     simp
    ·simp [Γ2]
    ·simp [Γ2]
   have e2:av .leaf 4 (aK (ae 3)) aE (de (aw bg (ah (ah (ae 0) (eK (.int 0))) (ae 4)) (ae 1)) (aw (bV false) (ah (ae 2) (ae 4)) (ah (ah (ae 0) (eK (.int 2))) (ae 4)))) [some ⟨.leaf,w.enc⟩,some ⟨.leaf,.int p⟩,some ⟨.leaf,aR pl⟩,some ⟨.leaf,aJ ((List.range w.n).filter fun r=>!(aU pl r).isNone)⟩,none,none]=.ok ⟨.lst .leaf,.list ((((List.range w.n).filter fun r=>!(aU pl r).isNone).map (pB w p pl)).map .bool)⟩ [some ⟨.leaf,w.enc⟩,some ⟨.leaf,.int p⟩,some ⟨.leaf,aR pl⟩,some ⟨.leaf,aJ ((List.range w.n).filter fun r=>!(aU pl r).isNone)⟩,none,none]:=by
    rw [map_map];refine h9 rm _ (fun r=>⟨.leaf,.bool (pB w p pl r)⟩) (st:=true) (by simp) (by simp) rfl (Nat.le_trans (length_filter_le _ _) (by simp;omega)) (fun r hr=>⟨?_,rfl⟩)
    obtain ⟨h1,h2⟩:=List.mem_filter.mp hr;have h1:=List.mem_range.mp h1
    cases e:aU pl r with
    | none=>rw [e] at h2;simp at h2
    | some u=>
     obtain ⟨o,eo,ho⟩:=j1 ok (Γ:=[some ⟨.leaf,w.enc⟩,some ⟨.leaf,.int p⟩,some ⟨.leaf,aR pl⟩,some ⟨.leaf,aJ ((List.range w.n).filter fun r=>!(aU pl r).isNone)⟩,some ⟨.leaf,rm r⟩,none]) (i:=0) (fb:=ae 4) (s:=.leaf) (r:=r) rfl (aB rfl) h1
     have ip:=rN (Γ:=[some ⟨.leaf,w.enc⟩,some ⟨.leaf,.int p⟩,some ⟨.leaf,aR pl⟩,some ⟨.leaf,aJ ((List.range w.n).filter fun r=>!(aU pl r).isNone)⟩,some ⟨.leaf,rm r⟩,none]) (fa:=ae 2) (fb:=ae 4) (rk:=pl) (r:=r) (aB rfl) (aB (d:=rm r) rfl) (by omega)
     rw [e] at ip;have:=v_and (s:=.leaf) (aI (g:=bg) eo (aB (i:=1) rfl) KC.eq_int) (aI (g:=bV false) ip (Av ok (i:=0) rfl (aB (i:=4) rfl) h1) (t5 (t:=u)))
     rw [<-ho p] at this;unfold pB;rw [e];exact this
   have hall:(((List.range w.n).filter fun r=>!(aU pl r).isNone).map (pB w p pl)).all id=false:=by
    have hB2:(List.range w.n).all (pB w p pl)=false:=by
     unfold dh at hB;rw [decide_eq_true hl,Bool.true_and] at hB;exact hB
    rw [Bool.eq_false_iff] at hB2 ⊢;intro z;refine hB2 (List.all_eq_true.mpr fun r hr=>?_)
    cases e:aU pl r with
    | none=>unfold pB;rw [e]
    | some u=>
     exact List.all_eq_true.mp z _ (List.mem_map.mpr ⟨r,List.mem_filter.mpr ⟨hr,by simp [e]⟩,rfl⟩)
   have ga:=xV (bs:=((List.range w.n).filter fun r=>!(aU pl r).isNone).map (pB w p pl))
   rw [hall] at ga;exact aW (aA (aN t nofun fun _=>rfl) (aA (cV e1 rfl (by simp [bw])) (aS (bT (aH e2 ay) ga) rfl)))
  ·rw [show ((pl.length:Int)==(w.n:Int))=false by simp;omega] at t
   exact aW (d8 (aN t (fun _=>aS aV rfl) nofun))
theorem FO (ok:w.Ok) (hl:pl.length=w.n) {r:Nat} (hr:r<w.n) {x:Option PV}:(pB w p pl r=true->∃y,nH (GI w p pl (some ⟨.leaf,rm r⟩) x)=.nx (GI w p pl (some ⟨.leaf,rm r⟩) y))/\(pB w p pl r=false->nH (GI w p pl (some ⟨.leaf,rm r⟩) x)=.rt ⟨.leaf,.bool false⟩):=by
 have e0:ax false 4 (ah (ae 2) (ae 3)) (GI w p pl (some ⟨.leaf,rm r⟩) x)=.nx (GI w p pl (some ⟨.leaf,rm r⟩) (some ⟨.leaf,oD (aU pl r)⟩)):=cV (rN (aB rfl) (aB (d:=rm r) rfl) (by omega)) (by cases aU pl r<;>rfl) (by simp)
 unfold pB
 cases e:aU pl r with
 | none=>
  rw [e] at e0;have n4:aC aj (aw (aO true) (ae 4) (eK .none)) (GI w p pl (some ⟨.leaf,rm r⟩) (some ⟨.leaf,oD none⟩))=.ok false (GI w p pl (some ⟨.leaf,rm r⟩) (some ⟨.leaf,oD none⟩)):=b6 (s:=.leaf) (aI (aB rfl) aV rfl)
  exact ⟨fun _=>⟨_,aA e0 (aA (aN (b_andF n4) nofun fun _=>rfl) (aN (b_andF n4) nofun fun _=>rfl))⟩,nofun⟩
 | some t=>
  rw [e] at e0;have n4:aC aj (aw (aO true) (ae 4) (eK .none)) (GI w p pl (some ⟨.leaf,rm r⟩) (some ⟨.leaf,oD (some t)⟩))=.ok true (GI w p pl (some ⟨.leaf,rm r⟩) (some ⟨.leaf,oD (some t)⟩)):=b6 (s:=.leaf) (aI (aB rfl) aV rfl)
  obtain ⟨o,eo,ho⟩:=j1 ok (Γ:=GI w p pl (some ⟨.leaf,rm r⟩) (some ⟨.leaf,oD (some t)⟩)) (i:=0) (fb:=ae 3) (s:=.leaf) (r:=r) rfl (aB rfl) hr
  have t1:=kj n4 (dQ (a:=!true) (eL (b:=true) (dP (s:=.leaf) (cC (aH (aB (i:=4) (d:=rm t) rfl) ay) qt rfl rfl))) (b6 (s:=.leaf) (aI eo (aB (i:=1) rfl) KC.ne_int)))
  rw [<-ho p] at t1;have t2:=kj n4 (b6 (s:=.leaf) (aI (aB (i:=4) (d:=rm t) rfl) (Av ok (i:=0) rfl (aB (i:=3) rfl) hr) qa))
  dsimp only
  cases h1:own w p r with
  | false=>
   rw [h1] at t1;exact ⟨fun z=>(nomatch z),fun _=>aA e0 (d8 (aN t1 (fun _=>aS aV rfl) nofun))⟩
  | true=>
   rw [h1] at t1
   cases h2:(w.stp r).contains t with
   | false=>
    rw [h2] at t2;exact ⟨fun z=>(nomatch z),fun _=>aA e0 (aA (aN t1 nofun fun _=>rfl) (aN t2 (fun _=>aS aV rfl) nofun))⟩
   | true=>
    rw [h2] at t2;exact ⟨fun _=>⟨_,aA e0 (aA (aN t1 nofun fun _=>rfl) (aN t2 nofun fun _=>rfl))⟩,nofun⟩
theorem Ee (ok:w.Ok) (hm:pl.length<=1000):bM [w.enc,.int p,aR pl]=.ok ⟨.leaf,.bool (dh w p pl)⟩:=by
 have h24:=ok.h24
 have ln:aY aM (ab (ae 2) af) (bw 5 [w.enc,.int p,aR pl])=.ok ⟨.leaf,.int (pl.length:Int)⟩ (bw 5 [w.enc,.int p,aR pl]):=bT (d:=.int (pl.length:Int)) (aH (aB rfl) ay) (by simp)
 have t:aC aj (aw bK (aY aM (ab (ae 2) af)) (aY aM (ab (ah (ae 0) (eK (.int 0))) af))) (bw 5 [w.enc,.int p,aR pl])=.ok (!((pl.length:Int)==(w.n:Int))) (bw 5 [w.enc,.int p,aR pl]):=
  b6 (s:=.leaf) (aI ln (wQ ok rfl) KC.ne_int)
 have t0:=dQ (a:=!true) (eL (b:=true) (dP (s:=.leaf) (ox (b:=true) (c := "list") (fa:=ae 2) (Γ:=bw 5 [w.enc,.int p,aR pl]) (aB rfl) rfl))) t
 unfold dh;by_cases hl:pl.length=w.n
 ·rw [hl,beq_self_eq_true] at t0
  rw [hl] at ln;obtain ⟨f1,f2⟩:=Az rm (i:=3) (body:=nH) (Inv:=fun Γ=>∃x y,Γ=GI w p pl x y) (c:=pB w p pl) (q:=⟨.leaf,.bool false⟩) (List.range w.n) (GI w p pl none none) (fun a ha Γ ⟨x,y,e⟩=>by
   subst e;obtain ⟨g1,g2⟩:=FO ok hl (List.mem_range.mp ha) (p:=p) (x:=y)
   exact ⟨by simp,fun z=>let ⟨y',e⟩:=g1 z;⟨_,e,_,_,rfl⟩,fun z=>g2 z⟩) ⟨none,none,rfl⟩
  rw [decide_eq_true hl,Bool.true_and]
  cases hB:(List.range w.n).all (pB w p pl) with
  | true=>
   obtain ⟨Γ',e1,x,y,hΓ⟩:=f1 hB;subst hΓ;exact aW (aA (aN t0 nofun fun _=>rfl) (aA (eZ (gp (s:=.leaf) (n:=w.n) (by omega) (aH ln ay)) e1) rfl))
  | false=>
   exact aW (aA (aN t0 nofun fun _=>rfl) (d8 (eZ (gp (s:=.leaf) (n:=w.n) (by omega) (aH ln ay)) (f2 hB))))
 ·rw [show ((pl.length:Int)==(w.n:Int))=false by simp;omega] at t0
  rw [decide_eq_false hl,Bool.false_and];exact aW (d8 (aN t0 (fun _=>aS aV rfl) nofun))
noncomputable def jr:Option Int->Option Int->Bool
 | some a,some b=>decide (a<b)
 | _,_=>false
theorem mK {a b:Option Int}:cO [zD a,zD b]=.ok ⟨.leaf,.bool (jr a b)⟩:=by
 refine aW ?_
 cases a with
 | none=>simp [cz,bw,zD,jr,oj]
 | some a=>
  cases b with
  | none=>simp [cz,bw,zD,jr,oj]
  | some b=>simp [cz,bw,zD,jr,oj,KC.lt_int]
noncomputable abbrev GR (w:Wd) (p:Int) (R:List Nat) (rk:List (Option Int)) (pl:List (Option Nat)) (r:Nat) (x6 x7:Option PV):Ev:=[some ⟨.leaf,w.enc⟩,some ⟨.leaf,.int p⟩,some ⟨.leaf,aJ R⟩,some ⟨.leaf,b5 rk⟩,some ⟨.leaf,aR pl⟩,some ⟨.leaf,rm r⟩,x6,x7,none,none]
end
section
variable {w:Wd} {p:Int} {R:List Nat} {rk:List (Option Int)} {pl:List (Option Nat)}
noncomputable abbrev kn (rk:List (Option Int)) (L:List Nat):List Nat:=L.filter fun t=>(zA rk t).isSome
theorem sO {ns:List Int} {k:Int} (ne:ns≠[]):k<=zh ns↔∃a∈ns,k<=a:=by
 cases ns with
 | nil=>exact absurd rfl ne
 | cons a r=>
  obtain ⟨h1,h2,h3⟩:=D8 r a;constructor
  ·intro h
   have h:k<=r.foldl (fun x y=>if x<y then y else x) a:=h
   rcases h1 with z | z
   ·exact ⟨a,by simp,by rw [z] at h;exact h⟩
   ·exact ⟨_,mem_cons_of_mem _ z,h⟩
  ·rintro ⟨b,hb,hk⟩
   show k<=r.foldl (fun x y=>if x<y then y else x) a
   rcases List.mem_cons.mp hb with rfl | hb
   ·omega
   ·have:=h3 b hb
    omega
noncomputable def jn:Option Int->Bool
 | some z=>decide (z<0)
 | none=>false
end
theorem e7 {c:FB} {fa fb:F1} {Γ:Ev} {t:Bool} {p:PV} (hc:c Γ=.ok t Γ) (ha:t=true->fa Γ=.ok p Γ) (hb:t=false->fb Γ=.ok p Γ):fm c fa fb Γ=.ok p Γ:=by
 unfold fm;rw [hc];simp only [ui]
 cases t with
 | true=>exact ha rfl
 | false=>exact hb rfl
section
variable {w:Wd} {p c:Int} {R:List Nat} {rk:List (Option Int)} {pl:List (Option Nat)}
noncomputable abbrev GB (w:Wd) (p c:Int) (rk:List (Option Int)) (pl:List (Option Nat)) (x5 x6:Option PV):Ev:=[some ⟨.leaf,w.enc⟩,some ⟨.leaf,.int p⟩,some ⟨.lst .leaf,b5 rk⟩,some ⟨.lst .leaf,aR pl⟩,some ⟨.leaf,.int c⟩,x5,x6]
theorem j4 {a:Int} {n:Nat} (h:0<n):∃u:Nat,u<n/\a % (n:Int)=(u:Int):=by
 have h1:=Int.emod_nonneg a (show (n:Int)≠0 by omega)
 have h2:=Int.emod_lt_of_pos a (show (0:Int)<(n:Int) by omega)
 exact ⟨(a % (n:Int)).toNat,by omega,by omega⟩
noncomputable abbrev GL (xs:List D) (w:Wd) (p c:Int) (R:List Nat) (rk:List (Option Int)) (pl:List (Option Nat)) (x6 x7 x8 x11 x12:Option PV) (s:Sh):Ev:=[some ⟨.leaf,.list xs⟩,some ⟨.leaf,w.enc⟩,some ⟨.leaf,.int (w.n:Int)⟩,some ⟨.leaf,.int c⟩,some ⟨.leaf,.int p⟩,some ⟨.leaf,aJ R⟩,x6,x7,x8,some ⟨s,b5 rk⟩,some ⟨s,aR pl⟩,x11,x12,none,none]
noncomputable def wY (rk:List (Option Nat)):List (Option Int):=rk.map fun o=>o.map fun n=>(n:Int)
theorem rP {rk:List (Option Nat)}:aR rk=b5 (wY rk):=by
 unfold aR b5 wY;rw [map_map];congr 1
 refine List.map_congr_left fun o _=>?_
 cases o<;>rfl
theorem DD {s:Sh} {rk:List (Option Int)}:fx ⟨s,b5 rk⟩ (rk.map zD)=true:=by
 unfold fx;have:(rk.map zD).all bz=true:=List.all_eq_true.mpr fun d hd=>by
  obtain ⟨o,_,rfl⟩:=List.mem_map.mp hd
  cases o<;>rfl
 cases s<;>simp [this]
theorem ok_rks {s:Sh} {pl:List (Option Nat)}:fx ⟨s,aR pl⟩ (pl.map oD)=true:=by
 unfold fx;have:(pl.map oD).all bz=true:=KQ.sc_rks
 cases s<;>simp [this]
theorem Dx {rk:List (Option Int)}:PyData.canLayAll0 (rk.map zD)=true/\PyData.depthAll (rk.map zD)=0:=by
 induction rk with
 | nil=>exact ⟨rfl,by simp [PyData.depthAll]⟩
 | cons a r ih=>
  cases a<;>simp [zD,PyData.canLayAll0,PyData.canLay0,PyData.depthAll,PyData.depth,ih.1,ih.2]
noncomputable abbrev tB:FS:=(ao (ax false 12 (ai 5 dH (ab (ae 1) (ab (ae 4) (ab (ae 5) (ab (ae 9) (ab (ae 10) af)))))))
  (bf (b7 (bu (aC aZ (dW "bool" (ae 12)))) (b7 (aC aj (aw bK (ae 12) (ae 7))) (aC aj (aw bK (aP .leaf (ab (ae 1) (ab (ae 5) (ab (ae 9) (ab (ae 10) af))))) (ae 6))))) (aG (eK (.bool false))) az))
end
end KQ.Z
namespace T
open PySem PySem.Spec L2
open PyProof.Rows hiding St
def gG (i k:Nat):FS:=fun Γ=>match Γ[i]? with
 | some (some ⟨.tup ss,.tuple ds⟩)=>(match ss[k]?,ds[k]? with
  | some (.lst .leaf),some (.list es)=>if es.isEmpty then .no else .nx (Γ.set i (some ⟨.tup ss,.tuple (ds.set k (.list es.dropLast))⟩))
  | _,_=>.no)
 | _=>.no
def wz:Option (Option PV)->Bool
 | some (some ⟨.tup _,.tuple _⟩)=>true
 | _=>false
def jU (i:Nat) (fk:F1) (g:Nat->FS):FS:=fun Γ=>if wz Γ[i]? then (match fk Γ with
 | .ok q Γ1=>(match q.d with
  | .int z=>if 0<=z then g z.toNat Γ1 else .no
  | _=>.no)
 | _=>.no) else .no
def kl (i:Nat) (fk fa fb:F1):FS:=fz fa fun p=>jU i fk fun j=>jR i j fb p
section
variable {K:Fg} {W:XW} {σ:St} {H:Hp} {Q:VK} {D:du} {fa fb fk:F1}
theorem iJ {He:Hp} {O:List Addr} {Fs:List (List Addr)} {Γ:Ev} {i:Nat} (h:wz Γ[i]?=true) (E:EnvOk K He O Fs H σ Γ):∃v,σ[i]?=some (some v):=by
 unfold wz at h;split at h
 ·rename_i e
  obtain ⟨_,v,_,h1,_⟩:=E.slot i _ e;exact ⟨v,h1⟩
 ·cases h
theorem yg {z:Int} (h:tE K W (eK (.int z)) σ H Q):Q (.int z) H:=by
 obtain ⟨He,O,Fs,Γ,E,h⟩:=h;exact h (.int z) H [] Fs ⟨Same.refl _,by simpa using E,fun a ha=>.inl (by simpa using ha),.leaf (.int z)⟩
theorem xc {i:Nat} {g:Nat->FS} {C:V->Hp->Prop} (hg:∀(j:Nat) H,tS K W (g j) D σ H->∃v,σ[i]?=some (some v)/\m8 K v (.int (j:Int)) H C) (h:tS K W (jU i fk g) D σ H):lu (m8 K) (dE i) (tE K W fk) σ H C:=by
 obtain ⟨He,O,Fs,Γ,E,h⟩:=h;unfold jU at h
 cases ho:wz Γ[i]? with
 | false=>rw [ho] at h;exact h.elim
 | true=>
  rw [ho] at h;obtain ⟨v,hv⟩:=iJ ho E;refine ⟨v,hv,He,O,Fs,Γ,E,?_⟩
  cases e:fk Γ with
  | er c Γ'=>rw [e] at h;exact h.elim
  | no=>rw [e] at h;exact h.elim
  | ok q Γ1=>
   rw [e] at h;intro u H1 G Fs1 A;have h:jJ K W He O D (match q.d with | .int z=>if 0<=z then g z.toNat Γ1 else .no | _=>.no):=h
   have r:=A.own.rep
   split at h
   ·rename_i z ez
    rw [ez] at r
    cases r;by_cases h0:0<=z
    ·rw [if_pos h0] at h
     obtain ⟨v',hv',c⟩:=hg z.toNat H1 ⟨He,O,Fs1,Γ1,A.env.dropL,h⟩
     rw [hv] at hv'
     cases hv'
     rw [show ((z.toNat:Nat):Int)=z by omega] at c
     exact c
    ·rw [if_neg h0] at h
     exact h.elim
   ·exact h.elim
theorem sk {i:Nat} (h:tS K W (jU i fk fun j=>eA i j fa) D σ H):fK (AF K "list" xS (lu (m8 K) (dE i) (tE K W fk)) (tA K W (ab fa af))) D σ H:=
 xc (C:=fun x H1=>xZ K "list" x H1/\tA K W (ab fa af) σ H1 fun xs H2=>xS x xs H2 fun _ H1=>D.nx σ H1) (fun j H h=>by
  obtain ⟨v,hv,q⟩:=u1 h;exact ⟨v,hv,yg q⟩) h
theorem se {i:Nat} (h:tS K W (jU i fk (gG i)) D σ H):fK (yh K "list" so (lu (m8 K) (dE i) (tE K W fk))) D σ H:=
 xc (C:=fun x H1=>xZ K "list" x H1/\so x [] H1 fun _ H1=>D.nx σ H1) (fun j H h=>by
  obtain ⟨He,O,Fs,Γ,E,h⟩:=h;unfold gG at h;split at h
  case h_2=>exact h.elim
  rename_i ss ds e1;split at h
  case h_2=>exact h.elim
  rename_i es e2 e3
  cases he:es.isEmpty with
  | true=>rw [he] at h;exact h.elim
  | false=>
   rw [he] at h;have h:∀σ' H' Fs',EnvOk K He O Fs' H' σ' (Γ.set i (some ⟨.tup ss,.tuple (ds.set j (.list es.dropLast))⟩))->D.nx σ' H':=h
   obtain ⟨l,vs,m,ws,q1,q2,q3,q4,q5,q6,q7,q8⟩:=E.chgT e1 e3 e2;have hpos:0<ws.length:=by
    rw [q6]
    cases es with
    | nil=>cases he
    | cons a b=>simp
   refine ⟨.ref l,q1,.inr (.inl ⟨l,vs,(j:Int),.ref m,rfl,rfl,.of q2,D2 q4,.inl ⟨rfl,ws,.of q5⟩,m,ws,ws[ws.length-1]'(by omega),rfl,rfl,q5,getElem?_eq_getElem _,?_⟩)⟩
   refine h σ _ Fs (q8 ws.dropLast es.dropLast (by rw [List.length_dropLast,List.length_dropLast,q6]) fun k u d a1 a2=>?_)
   rw [List.getElem?_dropLast] at a1 a2
   split at a1
   ·split at a2
    ·exact q7 k u d a1 a2
    ·cases a2
   ·cases a1) h
theorem rW {He H0 H1:Hp} {O:List Addr} {Fs0 Fs1:List (List Addr)} {Γ1:Ev} {p:PV} {v:V} {G1:List Addr} {i k:Nat} (A1:Aft K He O Fs0 H0 σ Γ1 p v H1 G1 Fs1) (h1:jJ K W He O D (jR i k fb p Γ1)) :
  ∃o,σ[i]?=some (some o)/\m8 K o (.int (k:Int)) H1 fun o H2=>tE K W fb σ H2 fun u H3=>iz o u v H3 fun H4=>D.nx σ H4:=by
 unfold jR at h1
 cases ho:xm i k Γ1 with
 | false=>rw [ho] at h1;exact h1.elim
 | true=>
  rw [ho] at h1;have h1:jJ K W He O D (fz fb (lP i k p) Γ1):=h1
  obtain ⟨ss,ds,es,e1,es1,ee⟩:=sH ho;obtain ⟨l,vs,m,ws,q1,q2,q3,q4,q5,q6,q7,q8⟩:=A1.env.dropL.chgT e1 ee es1;refine ⟨.ref l,q1,.inr (.inl ⟨l,vs,(k:Int),.ref m,rfl,rfl,.of q2,D2 q4,?_⟩)⟩
  refine ⟨He,G1++O,Fs1,Γ1,A1.env,?_⟩
  unfold fz at h1
  cases e2:fb Γ1 with
  | no=>rw [e2] at h1;exact h1
  | er c Γ2=>rw [e2] at h1;exact fun H' Fs' s E=>h1 σ H' Fs' E.dropL
  | ok q Γ2=>
   rw [e2] at h1;have h1:jJ K W He O D (lP i k p q Γ2):=h1
   intro u H2 G2 Fs2 A2;have E3:EnvOk K He O Fs2 H2 σ Γ2:=A2.env.dropL.dropL
   unfold lP at h1;split at h1
   ·rename_i ss2 ds2 e3
    split at h1
    ·rename_i es2 z e4 e5 e6
     split at h1
     ·rename_i j ej
      cases hc:T.coer .leaf p with
      | false=>rw [hc] at h1;exact h1.elim
      | true=>
       rw [hc] at h1;obtain ⟨l2,vs2,m2,ws2,r1,r2,r3,r4,r5,r6,r7,r8⟩:=E3.chgT e3 e5 e4;rw [q1] at r1
       cases r1;have x2:H2 l=some (.tup vs):=A2.same _ _ q2
       rw [x2] at r2
       cases r2;rw [q4] at r4
       cases r4;have hu:=A2.own.rep
       rw [e6] at hu
       cases hu;have ov:Own K (O++Fs2.flatten) H2 .leaf [] v p.d:=by
        have o1:Own K (G2++(G1++O)++Fs2.flatten) H2 p.s G1 v p.d:=A1.own.mono A2.same fun a ha=>by
         rcases List.mem_append.mp ha with y | y
         ·rcases List.mem_append.mp y with y | y
          ·exact (A2.new a (mem_append_left _ y)).elim (fun x=>.inl (mem_append_right _ x)) .inr
          ·exact .inl (mem_append_left _ y)
         ·exact (A2.new a (mem_append_right _ y)).elim (fun x=>.inl (mem_append_right _ x)) .inr
        refine o1.coer (s:=.leaf) hc (fun a ha=>?_) fun a ha y=>?_
        ·rcases List.mem_append.mp ha with y | y
         ·exact mem_append_left _ (mem_append_right _ (mem_append_right _ y))
         ·exact mem_append_right _ y
        ·exfalso
         have ndE:=A2.env.nd
         rw [append_assoc] at ndE;have n2:=(List.nodup_append.mp ndE).2.1
         rw [append_assoc] at n2;exact (List.nodup_append.mp n2).2.2 a ha a y rfl
       cases ov with
       | leaf rv=>
        have ixl:d6 ws2.length z=some j:=by rw [r6];exact ej
        have E4:=r8 (ws2.set j v) (es2.set j p.d) (by rw [length_set,length_set,r6]) fun n x d a1 a2=>by
         by_cases hn:n=j
         ·subst hn
          rw [getElem?_set] at a1 a2
          rw [if_pos rfl] at a1 a2
          split at a1
          ·split at a2
           ·cases a1;cases a2;exact rv
           ·cases a2
          ·cases a1
         ·rw [getElem?_set_ne (Ne.symm hn)] at a1 a2
          exact r7 n x d a1 a2
        exact ⟨m,ws2,z,j,rfl,rfl,r5,ixl,h1 σ _ _ E4⟩
     ·exact h1.elim
    ·exact h1.elim
   ·exact h1.elim
theorem Aft.past {He H0 H1 H2:Hp} {O:List Addr} {Fs0 Fs1 Fs2:List (List Addr)} {Γ1 Γ2:Ev} {p q:PV} {v u:V} {G1 G2:List Addr} (A1:Aft K He O Fs0 H0 σ Γ1 p v H1 G1 Fs1) (A2:Aft K He (G1++O) Fs1 H1 σ Γ2 q u H2 G2 Fs2):Aft K He O Fs0 H0 σ Γ2 p v H2 G1 Fs2:=by
 have nw:∀a∈Fs2.flatten,a∈Fs1.flatten\/H1 a=none:=fun a ha=>A2.new a (mem_append_right _ ha)
 refine ⟨A1.same.trans A2.same,A2.env.dropL,fun a ha=>?_,A1.own.mono A2.same fun a ha=>?_⟩
 ·rcases List.mem_append.mp ha with z | z
  ·exact A1.new a (mem_append_left _ z)
  ·rcases nw a z with y | y
   ·exact A1.new a (mem_append_right _ y)
   ·exact .inr (A1.same.free y)
 ·rcases List.mem_append.mp ha with z | z
  ·exact .inl (mem_append_left _ z)
  ·exact (nw a z).elim (fun y=>.inl (mem_append_right _ y)) .inr
theorem r9 {i:Nat} (h:tS K W (kl i fk fa fb) D σ H):gO (tE K W fa) (L2.gSub (lu (m8 K) (dE i) (tE K W fk)) (tE K W fb) iz) D σ H:=by
 refine fJ h fun He O Fs Γ1 p v H1 G1 Fs1 nd fr A1 h1=>?_
 unfold jU at h1
 cases ho:wz Γ1[i]? with
 | false=>rw [ho] at h1;exact h1.elim
 | true=>
  rw [ho] at h1;obtain ⟨o,hv⟩:=iJ ho A1.env;refine ⟨o,hv,He,G1++O,Fs1,Γ1,A1.env,?_⟩
  cases e:fk Γ1 with
  | er c Γ'=>rw [e] at h1;exact h1.elim
  | no=>rw [e] at h1;exact h1.elim
  | ok q Γ2=>
   rw [e] at h1;intro u H2 G2 Fs2 A2;have h1:jJ K W He O D (match q.d with | .int z=>if 0<=z then jR i z.toNat fb p Γ2 else .no | _=>.no):=h1
   have r:=A2.own.rep
   split at h1
   ·rename_i z ez
    rw [ez] at r
    cases r;by_cases h0:0<=z
    ·rw [if_pos h0] at h1
     obtain ⟨o',ho',c⟩:=rW (A1.past A2) h1;rw [hv] at ho'
     cases ho'
     rw [show ((z.toNat:Nat):Int)=z by omega] at c
     exact c
    ·rw [if_neg h0] at h1
     exact h1.elim
   ·exact h1.elim
variable {L:List Nat}
theorem pP {i:Nat} (h:tN L K W (jU i fk fun j=>eA i j fa) D σ H):fK (AF K "list" xS (lu (m8 K) (dE i) (tE K W fk)) (tA K W (ab fa af))) D σ H:=
 vn (L:=L) (R:=fun P=>lu (m8 K) (dE i) (tE K W fk) σ H fun x H1=>xZ K "list" x H1/\tA K W (ab fa af) σ H1 fun xs H2=>xS x xs H2 fun _ H3=>P H3) (sk h)
theorem pM {i:Nat} (h:tN L K W (jU i fk (gG i)) D σ H):fK (yh K "list" so (lu (m8 K) (dE i) (tE K W fk))) D σ H:=
 vn (L:=L) (R:=fun P=>lu (m8 K) (dE i) (tE K W fk) σ H fun x H1=>xZ K "list" x H1/\so x [] H1 fun _ H3=>P H3) (se h)
theorem pL {i:Nat} (h:tN L K W (kl i fk fa fb) D σ H):gO (tE K W fa) (L2.gSub (lu (m8 K) (dE i) (tE K W fk)) (tE K W fb) iz) D σ H:=
 vn (L:=L) (R:=fun P=>tE K W fa σ H fun x H1=>lu (m8 K) (dE i) (tE K W fk) σ H1 fun o H1=>tE K W fb σ H1 fun i H2=>iz o i x H2 fun H3=>P H3) (r9 h)
end
end T
namespace TQ
open PySem PySem.Spec L2 T
open PyProof.Rows hiding St
section
variable {X:Cx} {N gl:List Str} {vs cs ls lo gs:List Nat} {W:XW} {L:List Nat} {a b k:Expr} {pos p:Pos} {fa fb fk:F1}
theorem nk (S:Cp X N gl vs cs ls lo gs) (i:Nat) {x:Str} {spos apos cpos:Pos} (hk:Q (PE X k (tE X.K W fk))) (ha:Q (PE X a (tE X.K W fa))) (hi:N[i]?=some x:=by rfl) (hv:vs.contains i=true:=by rfl) (hx:wN k:=by exact fun _ _=>rfl) (hs:starEach [a] X.env=[(false,eval a X.env)]:=by exact eX rfl)
  (hbase:attributeBase (.Subscript (.Name x p) k spos) "append" X.env (eval (.Subscript (.Name x p) k spos) X.env)=eval (.Subscript (.Name x p) k spos) X.env:=by rfl) (hline:(apos.endLine==cpos.line)=true:=by rfl)
  (hfew:((backTo cpos (starEach [a] X.env)).all (fun x=>!x.1)&&(backToKw cpos (keywordEach [] X.env)).all (fun x=>x.1.isSome)
   && decide ([a].length+([]:List Keyword).length+(if ([]:List Keyword).isEmpty then 0 else 1)<30))=true:=by rfl)
  (hsw:swapsWith (.Call (.Attribute (.Subscript (.Name x p) k spos) "append" apos) [a] [] cpos) none pos.line X.env=pure false:=by rfl) :
  Q (PS X (.Expr (.Call (.Attribute (.Subscript (.Name x p) k spos) "append" apos) [a] [] cpos) pos) (tN L X.K W (jU i fk fun j=>eA i j fa))):=by
 have m:=S.nm x (mem_of_getElem? hi)
 exact ⟨cL (AU (sE PySem.F.plainAttrs_list PySem.F.slot_list_append PySem.F.type_list_append En (mf AN (uh (by rw [S.hN];exact hi) (S.vis i x hi hv) m.1 m.2) hk.p hx) (da_cons ha.p da_nil hs) hbase hfew hline hs rfl) hsw) fun _ _ _=>pP⟩
theorem nj (S:Cp X N gl vs cs ls lo gs) (i:Nat) {x:Str} {spos apos cpos:Pos} (hk:Q (PE X k (tE X.K W fk))) (hi:N[i]?=some x:=by rfl) (hv:vs.contains i=true:=by rfl) (hx:wN k:=by exact fun _ _=>rfl)
  (hbase:attributeBase (.Subscript (.Name x p) k spos) "pop" X.env (eval (.Subscript (.Name x p) k spos) X.env)=eval (.Subscript (.Name x p) k spos) X.env:=by rfl) (hline:(apos.endLine==cpos.line)=true:=by rfl)
  (hsw:swapsWith (.Call (.Attribute (.Subscript (.Name x p) k spos) "pop" apos) [] [] cpos) none pos.line X.env=pure false:=by rfl) :
  Q (PS X (.Expr (.Call (.Attribute (.Subscript (.Name x p) k spos) "pop" apos) [] [] cpos) pos) (tN L X.K W (jU i fk (gG i)))):=by
 have m:=S.nm x (mem_of_getElem? hi)
 exact ⟨cL (AU (yW PySem.F.plainAttrs_list PySem.F.slot_list_pop PySem.F.type_list_pop zi (mf AN (uh (by rw [S.hN];exact hi) (S.vis i x hi hv) m.1 m.2) hk.p hx) hbase hline) hsw) fun _ _ _=>pM⟩
theorem CV (S:Cp X N gl vs cs ls lo gs) (i:Nat) {x:Str} {px pos' spos:Pos} (hk:Q (PE X k (tE X.K W fk))) (ha:Q (PE X a (tE X.K W fa))) (hb:Q (PE X b (tE X.K W fb))) (has:∀v,assign (.Subscript (.Subscript (.Name x px) k spos) b pos') X.env v=(do
   let ov <-holding [v] (eval (.Subscript (.Name x px) k spos) X.env)
   let iv <-holding [v,ov] (eval b X.env)
   standAt pos'
   holding [v,ov,iv] (setItem ov iv v)
   release [v,ov,iv] [])) (hi:N[i]?=some x:=by rfl) (hv:vs.contains i=true:=by rfl) (hx:wN k:=by exact fun _ _=>rfl)
  (hs:swapsWithSole [.Subscript (.Subscript (.Name x px) k spos) b pos'] a pos.line X.env=pure false:=by rfl) (hw:swappedStores [.Subscript (.Subscript (.Name x px) k spos) b pos'] a X.env=pure none:=by rfl)
  (h1:(assignEach [.Subscript (.Subscript (.Name x px) k spos) b pos'] X.env).map (·.2)=[assign (.Subscript (.Subscript (.Name x px) k spos) b pos') X.env]:=by rfl):Q (PS X (.Assign [.Subscript (.Subscript (.Name x px) k spos) b pos'] a pos) (tN L X.K W (kl i fk fa fb))):=by
 have m:=S.nm x (mem_of_getElem? hi)
 exact ⟨cL (DG ha.p (sy (mf AN (uh (by rw [S.hN];exact hi) (S.vis i x hi hv) m.1 m.2) hk.p hx) hb.p lO has) hs hw h1) fun _ _ _=>pL⟩
end
end TQ
namespace KQ.Y.V
open PySem PySem.Spec L2 T
open PyProof.Rows hiding St
open KC
noncomputable def d__law_bent:FS:=(ao (ax false 3 (ai 3 ak (ab (ae 2) (ab (eK (.int 0)) (ab (eK (.int 9)) af)))))
  (ao (ax false 4 (aw cj (ai 3 ak (ab (ae 2) (ab (eK (.int 1)) (ab (eK (.int 24)) af)))) (aY aM (ab (ah (ae 0) (eK (.int 0))) af))))
  (ao (ax false 5 (aw gSub (ai 3 ak (ab (ae 2) (ab (eK (.int 2)) (ab (eK (.int 7)) af)))) (eK (.int 1))))
  (ao (bf (aC aj (aw bg (ae 3) (eK (.int 0)))) (kl 1 (eK (.int 0)) (ah (aP .leaf (ab (eK .none) (ab (ae 5) (ab (eK (.int 0)) af)))) (ai 3 ak (ab (ae 2) (ab (eK (.int 3)) (ab (eK (.int 3)) af))))) (ae 4)) az)
  (ao (bf (aC aj (aw bg (ae 3) (eK (.int 1)))) (ao (ax false 6 (ai 3 ak (ab (ae 2) (ab (eK (.int 4)) (ab (eK (.int 4)) af)))))
  (kl 1 (eK (.int 2)) (ah (aP .leaf (ab (eK .none) (ab (bF (ab (ae 5) (ab (ae 6) af))) (ab (bF (ab (eK (.int 0)) (ab (eK (.int 0)) af))) (ab (bF (ab (ae 6) (ab (ae 5) af))) af))))) (ai 3 ak (ab (ae 2) (ab (eK (.int 3)) (ab (eK (.int 4)) af))))) (ae 4))) az)
  (ao (bf (b7 (aC aj (aw bg (ae 3) (eK (.int 2)))) (aC aj (aw bg (ae 3) (eK (.int 3))))) (kl 1 (aw gSub (aw cD (eK (.int 2)) (ae 3)) (eK (.int 3))) (ah (aP .leaf (ab (eK .none) (ab (aw cj (ai 3 ak (ab (ae 2) (ab (eK (.int 4)) (ab (eK (.int 24)) af)))) (aY aM (ab (ah (ae 0) (eK (.int 0))) af))) af))) (aw cj (ai 3 ak (ab (ae 2) (ab (eK (.int 3)) (ab (eK (.int 3)) af)))) (eK (.int 2)))) (ae 4)) az)
  (ao (bf (b7 (aC aj (aw bg (ae 3) (eK (.int 4)))) (aC aj (aw bg (ae 3) (eK (.int 5))))) (ao (ax false 7 (ah (ah (ae 0) (eK (.int 2))) (ae 4)))
  (kl 1 (aw gSub (aw cD (eK (.int 2)) (ae 3)) (eK (.int 7))) (ah (ae 7) (aw cj (ai 3 ak (ab (ae 2) (ab (eK (.int 4)) (ab (eK (.int 24)) af)))) (aY aM (ab (ae 7) af)))) (ae 4))) az)
  (ao (bf (aC aj (aw bg (ae 3) (eK (.int 6)))) (jU 1 (ai 3 ak (ab (ae 2) (ab (eK (.int 3)) (ab (eK (.int 4)) af)))) fun j=>eA 1 j (eK .none)) az)
  (bf (aC aj (aw bg (ae 3) (eK (.int 7)))) (jU 1 (ai 3 ak (ab (ae 2) (ab (eK (.int 3)) (ab (eK (.int 4)) af)))) (gG 1)) az)))))))))
noncomputable def m__law_bent:List PySem.PyData->Option (List PySem.PyData):=qB 8 [.leaf,.tup [.lst .leaf,.lst .leaf,.lst .leaf,.lst .leaf],.leaf] d__law_bent
noncomputable def jE:FS:=(ao (ax false 4 (av .leaf 8 (aK (ah (ae 0) (eK (.int 2)))) aE (ah (ae 8) (eK (.int 0)))))
  (ao (ax true 5 (av .leaf 9 (aK (ae 4)) aE (eK .none)))
  (ao (ax false 6 (av .leaf 9 (cx (ab (aY aM (ab (ae 4) af)) af)) aE (fm (aC aj (aw bg (ah (ah (ae 0) (eK (.int 0))) (ae 9)) (ae 1))) (ah (ae 4) (ae 9)) (eK .none))))
  (ao (ax false 7 (av .leaf 9 (cx (ab (aY aM (ab (ae 4) af)) af)) aE (fm (aC aj (aw bK (ah (ah (ae 0) (eK (.int 0))) (ae 9)) (ae 1))) (ah (ae 4) (ae 9)) (eK .none))))
  (ao (bf (aC aj (aw bg (ai 3 ak (ab (ae 3) (ab (eK (.int 34)) (ab (eK (.int 2)) af)))) (eK (.int 0)))) (aG (bF (ab (ia (ae 5)) (ab (bB 5) (ab (av .leaf 9 (aK (ae 4)) aE (bF (ab (eK (.int 0)) (ab (eK (.int 0)) af)))) (ab (ae 7) af)))))) az)
  (aG (bF (ab (av .leaf 9 (cx (ab (aY aM (ab (ae 4) af)) af)) aE (fm (aC aj (aw (bV false) (ae 9) (ae 2))) (eK (.int 0)) (eK (.int 1)))) (ab (ae 6) (ab (ia (ae 5)) (ab (bB 5) af)))))))))))
noncomputable def cS:List PySem.PyData->bD:=aL 10 jE
noncomputable def d_law:FS:=(ao (ax false 1 (ai 3 m__law_world (ab (ae 0) (ab (eK (.int 0)) (ab (eK (.int 6)) af)))))
  (ao (ax false 2 (aY aM (ab (ah (ae 1) (eK (.int 0))) af)))
  (ao (ax false 3 (ai 2 aF (ab (ae 0) (ab (eK (.int 8)) af))))
  (ao (ax false 4 (ai 3 ak (ab (ae 3) (ab (eK (.int 30)) (ab (eK (.int 2)) af)))))
  (ao (ax false 5 (ai 2 m__law_rooms (ab (ai 2 aF (ab (ae 0) (ab (eK (.int 7)) af))) (ab (ae 2) af))))
  (ao (fM [10,11,12,13] (ai 3 m_again (ab (ae 1) (ab (ae 4) (ab (ae 5) af)))))
  (ao (bf (aC aj (aw bg (ai 3 ak (ab (ae 3) (ab (eK (.int 31)) (ab (eK (.int 2)) af)))) (eK (.int 1)))) (ao (ax true 10 (av .leaf 15 (aK (ae 10)) aE (fm (aC aj (aw (aO false) (ae 15) (eK .none))) (ae 15) (aw cD (eK (.int 2)) (ae 15)))))
  (je 12 (ax true 12 (av .leaf 9 (aK (ae 12)) aE (fm (aC aj (aw (aO false) (ae 9) (eK .none))) (ae 9) (bF (ab (aw bc (aw cD (eK (.int 3)) (ah (ae 9) (eK (.int 0)))) (eK (.int 1))) (ab (aw cD (eK (.int 2)) (ah (ae 9) (eK (.int 1)))) af)))))))) az)
  (ao (ax true 6 (bF (ab (bB 10) (ab (bB 11) (ab (bB 12) (ab (bB 13) af))))))
  (ao (bf (aC aj (aw bg (ai 3 ak (ab (ae 3) (ab (eK (.int 33)) (ab (eK (.int 4)) af)))) (eK (.int 1)))) (ax true 6 (ai 4 cS (ab (ae 1) (ab (ae 4) (ab (ae 5) (ab (ae 3) af)))))) (gH [1,6,3] [.leaf,.tup [.lst .leaf,.lst .leaf,.lst .leaf,.lst .leaf],.leaf] m__law_bent))
  (ao (bf (aC aj (aw bg (ai 3 ak (ab (ae 3) (ab (eK (.int 32)) (ab (eK (.int 9)) af)))) (eK (.int 1)))) (ax false 5 (ai 2 m__law_rooms (ab (ai 2 aF (ab (ae 0) (ab (eK (.int 9)) af))) (ab (ae 2) af)))) az)
  (je 6 (ao (ax false 7 (aP .leaf (ab (ai 1 bY (ab (ae 1) af)) (ab (ia (ae 5)) (ab (aY cH (ab (ae 6) af)) af)))))
  (ao (ax false 8 (ai 4 bH (ab (ae 1) (ab (ae 4) (ab (ae 5) (ab (ae 6) af))))))
  (ao (cM 9 (cx (ab (eK (.int 2)) af))
  (ao (ax false 14 (ai 4 bJ (ab (ae 1) (ab (ae 4) (ab (ae 5) (ab (ae 6) af))))))
  (bf (b7 (bu (aC aZ (dW "bool" (ae 14)))) (b7 (aC aj (aw bK (ae 14) (ae 8))) (aC aj (aw bK (aP .leaf (ab (ae 1) (ab (ae 5) (ab (aY cH (ab (ae 6) af)) af)))) (ae 7))))) (aG (eK (.bool false))) az)))
  (aG (eK (.bool true)))))))))))))))))
noncomputable def m_law:List PySem.PyData->bD:=aL 16 d_law
open PySem.SeqAt
open KQ.Z (zD b5 zA oh ik Cv Az dh wJ Ez Ee jr mK sO jn)
noncomputable def dg:Option (Int×Int)->D
 | none=>.none
 | some (a,b)=>.tuple [.int a,.int b]
noncomputable abbrev bU (tn:List (Option (Int×Int))):D:=.list (tn.map dg)
noncomputable def dZ (tn:List (Option (Int×Int))) (r:Nat):Option (Int×Int):=tn.getD r none
theorem xY {tn:List (Option (Int×Int))} {r:Nat} (h:r<tn.length):(tn.map dg)[r]?=some (dg (dZ tn r)):=by
 rw [getElem?_map,getElem?_eq_getElem h,dZ,getD_eq_getElem?_getD,getElem?_eq_getElem h];rfl
theorem lG {Γ:Ev} {fa fb:F1} {s:Sh} {tn:List (Option (Int×Int))} {r:Nat} (ha:fa Γ=.ok ⟨.leaf,bU tn⟩ Γ) (hb:fb Γ=.ok ⟨s,rm r⟩ Γ) (h:r<tn.length):ah fa fb Γ=.ok ⟨.leaf,dg (dZ tn r)⟩ Γ:=qP (j:=r) ha hb (lB (by rw [length_map];exact h)) (xY h) rfl
noncomputable abbrev bo (rk:List (Option Int)) (pl:List (Option Nat)) (tn:List (Option (Int×Int))) (ct:List (Option Nat)):D:=.tuple [b5 rk,aR pl,bU tn,aR ct]
section
variable {w:Wd} {p:Int} {T:List Nat} {rk:List (Option Int)} {pl ct:List (Option Nat)} {tn:List (Option (Int×Int))}
noncomputable def oT (rk:List (Option Int)) (r t:Nat):Bool:=if zA rk r=some 0 then (zA rk t).isSome else jr (zA rk t) (zA rk r)
theorem vS {h t:Nat} (hh:h<rk.length) (ht:t<rk.length):bX [b5 rk,rm h,rm t]=.ok ⟨.leaf,.bool (oT rk h t)⟩:=by
 have ih:=ik (Γ:=bw 3 [b5 rk,rm h,rm t]) (fa:=ae 0) (fb:=ae 1) (rk:=rk) (r:=h) (aB rfl) (aB (d:=rm h) rfl) hh
 have it:=ik (Γ:=bw 3 [b5 rk,rm h,rm t]) (fa:=ae 0) (fb:=ae 2) (rk:=rk) (r:=t) (aB rfl) (aB (d:=rm t) rfl) ht
 have t0:=b6 (s:=.leaf) (aI (g:=bg) ih (aV (d:=.int 0)) (Cv _))
 refine aW (aS (Γ1:=bw 3 [b5 rk,rm h,rm t]) ?_ rfl)
 unfold oT;by_cases q:zA rk h=some 0
 ·rw [decide_eq_true q] at t0
  rw [if_pos q];unfold fm;rw [t0];simp only [ui]
  exact aI (g:=aO true) it (aV (d:=.none)) (by cases zA rk t<;>rfl)
 ·rw [decide_eq_false q] at t0
  rw [if_neg q];unfold fm;rw [t0];simp only [ui]
  exact cC (aH it (aH ih ay)) mK rfl (by cases zA rk t<;>cases zA rk h<;>rfl)
noncomputable def B3 (x y:Int×Int):Bool:=if x.1=y.1 then decide (y.2<x.2)||(decide (x.2=0)&&decide (y.2=0)) else decide (y.1<x.1)
noncomputable def qY (tn:List (Option (Int×Int))) (r t:Nat):Bool:=match dZ tn r,dZ tn t with
 | some x,some y=>B3 x y
 | _,_=>false
theorem ud (z:Int):bg (.int z) (.int 0)=some (.bool (decide (z=0))):=by
 rw [KC.eq_int];congr 2
theorem FK (a b:Int):bK (.int a) (.int b)=some (.bool (!decide (a=b))):=by
 rw [KC.ne_int];congr 2
theorem vV {h t:Nat} (hh:h<tn.length) (ht:t<tn.length):bG [bU tn,rm h,rm t]=.ok ⟨.leaf,.bool (qY tn h t)⟩:=by
 have ih:=lG (Γ:=bw 5 [bU tn,rm h,rm t]) (fa:=ae 0) (fb:=ae 1) (tn:=tn) (r:=h) (aB rfl) (aB (d:=rm h) rfl) hh
 have s3:ax false 3 (ah (ae 0) (ae 1)) (bw 5 [bU tn,rm h,rm t])=.nx [some ⟨.leaf,bU tn⟩,some ⟨.leaf,rm h⟩,some ⟨.leaf,rm t⟩,some ⟨.leaf,dg (dZ tn h)⟩,none]:=cV ih rfl (by simp [bw])
 have it:=lG (Γ:=[some ⟨.leaf,bU tn⟩,some ⟨.leaf,rm h⟩,some ⟨.leaf,rm t⟩,some ⟨.leaf,dg (dZ tn h)⟩,none]) (fa:=ae 0) (fb:=ae 2) (tn:=tn) (r:=t) (aB rfl) (aB (d:=rm t) rfl) ht
 have s4:ax false 4 (ah (ae 0) (ae 2)) [some ⟨.leaf,bU tn⟩,some ⟨.leaf,rm h⟩,some ⟨.leaf,rm t⟩,some ⟨.leaf,dg (dZ tn h)⟩,none]=.nx [some ⟨.leaf,bU tn⟩,some ⟨.leaf,rm h⟩,some ⟨.leaf,rm t⟩,some ⟨.leaf,dg (dZ tn h)⟩,some ⟨.leaf,dg (dZ tn t)⟩]:=cV it rfl (by simp)
 refine aW (aA s3 (aA s4 ?_))
 unfold qY;have n3:=b6 (s:=.leaf) (aI (Γ:=[some ⟨.leaf,bU tn⟩,some ⟨.leaf,rm h⟩,some ⟨.leaf,rm t⟩,some ⟨.leaf,dg (dZ tn h)⟩,some ⟨.leaf,dg (dZ tn t)⟩]) (g:=aO false) (d:=.bool (dZ tn h).isNone) (aB (i:=3) rfl) (aV (d:=.none)) (by cases dZ tn h<;>rfl))
 have n4:=b6 (s:=.leaf) (aI (Γ:=[some ⟨.leaf,bU tn⟩,some ⟨.leaf,rm h⟩,some ⟨.leaf,rm t⟩,some ⟨.leaf,dg (dZ tn h)⟩,some ⟨.leaf,dg (dZ tn t)⟩]) (g:=aO false) (d:=.bool (dZ tn t).isNone) (aB (i:=4) rfl) (aV (d:=.none)) (by cases dZ tn t<;>rfl))
 have t0:=dQ n3 n4
 cases e1:dZ tn h with
 | none=>
  rw [e1] at t0;exact d8 (aN t0 (fun _=>aS aV rfl) nofun)
 | some x=>
  cases e2:dZ tn t with
  | none=>
   rw [e1,e2] at t0;exact d8 (aN t0 (fun _=>aS aV rfl) nofun)
  | some y=>
   rw [e1,e2] at t0;obtain ⟨a,b⟩:=x;obtain ⟨a',b'⟩:=y;refine aA (aN t0 nofun fun _=>rfl) ?_
   have f0:=fG (Γ:=[some ⟨.leaf,bU tn⟩,some ⟨.leaf,rm h⟩,some ⟨.leaf,rm t⟩,some ⟨.leaf,dg (some (a,b))⟩,some ⟨.leaf,dg (some (a',b'))⟩]) (fa:=ae 3) (ds:=[.int a,.int b]) (j:=0) (s:=.leaf) (s2:=.leaf) (aB rfl) (aV (d:=.int 0)) rfl rfl rfl
   have f1:=fG (Γ:=[some ⟨.leaf,bU tn⟩,some ⟨.leaf,rm h⟩,some ⟨.leaf,rm t⟩,some ⟨.leaf,dg (some (a,b))⟩,some ⟨.leaf,dg (some (a',b'))⟩]) (fa:=ae 3) (ds:=[.int a,.int b]) (j:=1) (s:=.leaf) (s2:=.leaf) (aB rfl) (aV (d:=.int 1)) rfl rfl rfl
   have g0:=fG (Γ:=[some ⟨.leaf,bU tn⟩,some ⟨.leaf,rm h⟩,some ⟨.leaf,rm t⟩,some ⟨.leaf,dg (some (a,b))⟩,some ⟨.leaf,dg (some (a',b'))⟩]) (fa:=ae 4) (ds:=[.int a',.int b']) (j:=0) (s:=.leaf) (s2:=.leaf) (aB rfl) (aV (d:=.int 0)) rfl rfl rfl
   have g1:=fG (Γ:=[some ⟨.leaf,bU tn⟩,some ⟨.leaf,rm h⟩,some ⟨.leaf,rm t⟩,some ⟨.leaf,dg (some (a,b))⟩,some ⟨.leaf,dg (some (a',b'))⟩]) (fa:=ae 4) (ds:=[.int a',.int b']) (j:=1) (s:=.leaf) (s2:=.leaf) (aB rfl) (aV (d:=.int 1)) rfl rfl rfl
   have t1:=b6 (s:=.leaf) (aI (g:=bK) f0 g0 (FK a a'))
   show _=OutS.rt ⟨.leaf,.bool (B3 (a,b) (a',b'))⟩
   unfold B3;by_cases q:a=a'
   ·rw [decide_eq_true q] at t1
    rw [if_pos q];exact aA (aN t1 nofun fun _=>rfl) (aS (KQ.v_orQ (s:=.leaf) (aI (g:=dI) g1 f1 KC.lt_int) (v_and (s:=.leaf) (aI (g:=bg) f1 (aV (d:=.int 0)) (ud b)) (aI (g:=bg) g1 (aV (d:=.int 0)) (ud b')))) rfl)
   ·rw [decide_eq_false q] at t1
    rw [if_neg q];exact d8 (aN t1 (fun _=>aS (aI (g:=dI) g0 f0 KC.lt_int) rfl) nofun)
theorem tH {r t:Nat} (hr:r<tn.length) (ht:t<tn.length) {x:Int×Int} (e:dZ tn r=some x):dC [bU tn,rm t,rm r]=.ok ⟨.leaf,.bool (qY tn r t)⟩:=by
 have it:=lG (Γ:=bw 3 [bU tn,rm t,rm r]) (fa:=ae 0) (fb:=ae 1) (tn:=tn) (r:=t) (aB rfl) (aB (d:=rm t) rfl) ht
 have ir:=lG (Γ:=bw 3 [bU tn,rm t,rm r]) (fa:=ae 0) (fb:=ae 2) (tn:=tn) (r:=r) (aB rfl) (aB (d:=rm r) rfl) hr
 have t0:=b6 (s:=.leaf) (aI (g:=aO false) (d:=.bool (dZ tn t).isNone) it (aV (d:=.none)) (by cases dZ tn t<;>rfl))
 unfold qY
 cases e2:dZ tn t with
 | none=>
  rw [e2] at t0;rw [e];exact aW (d8 (aN t0 (fun _=>aS aV rfl) nofun))
 | some y=>
  rw [e2] at t0 it
  rw [e] at ir ⊢;obtain ⟨a,b⟩:=x;obtain ⟨a',b'⟩:=y;have t0':=fG (ds:=[.int a',.int b']) (j:=0) (s:=.leaf) (s2:=.leaf) it (aV (d:=.int 0)) rfl rfl rfl
  have t1':=fG (ds:=[.int a',.int b']) (j:=1) (s:=.leaf) (s2:=.leaf) it (aV (d:=.int 1)) rfl rfl rfl
  have r0':=fG (ds:=[.int a,.int b]) (j:=0) (s:=.leaf) (s2:=.leaf) ir (aV (d:=.int 0)) rfl rfl rfl
  have r1':=fG (ds:=[.int a,.int b]) (j:=1) (s:=.leaf) (s2:=.leaf) ir (aV (d:=.int 1)) rfl rfl rfl
  have t1:=b6 (s:=.leaf) (aI (g:=bK) t0' r0' (FK a' a))
  refine aW (aA (aN t0 nofun fun _=>rfl) ?_)
  show _=OutS.rt ⟨.leaf,.bool (B3 (a,b) (a',b'))⟩
  unfold B3;by_cases q:a=a'
  ·rw [decide_eq_true q.symm] at t1
   rw [if_pos q];have hv:=KQ.v_orQ (s:=.leaf) (aI (g:=dI) t1' r1' KC.lt_int) (v_and (s:=.leaf) (aI (g:=bg) t1' (aV (d:=.int 0)) (ud b')) (aI (g:=bg) r1' (aV (d:=.int 0)) (ud b)))
   rw [Bool.and_comm (decide (b'=0))] at hv;exact aA (aN t1 nofun fun _=>rfl) (aS hv rfl)
  ·rw [decide_eq_false (fun z=>q z.symm)] at t1
   rw [if_neg q];exact d8 (aN t1 (fun _=>aS (aI (g:=dI) t0' r0' KC.lt_int) rfl) nofun)
noncomputable def ni (w:Wd) (p:Int) (T:List Nat) (rk:List (Option Int)) (pl:List (Option Nat)) (r:Nat) (k:Int):Bool:=!(decide (k<0)||(decide (k=0) != T.contains r))&&(decide (0<(sb w p pl r).length)&&(sb w p pl r).all fun t=>oT rk r t)
noncomputable def j5 (w:Wd) (p:Int) (T:List Nat) (tn:List (Option (Int×Int))) (ct:List (Option Nat)) (r:Nat) (x:Int×Int):Bool:=!(decide (x.1<0)||(decide (x.2<0)||(decide (x.2=0)&&T.contains r)))&&(decide (0<(sb w (1-p) ct r).length)&&(sb w (1-p) ct r).all fun t=>qY tn r t)
noncomputable def pJ (w:Wd) (p:Int) (T:List Nat) (rk:List (Option Int)) (pl:List (Option Nat)) (tn:List (Option (Int×Int))) (ct:List (Option Nat)) (r:Nat):Bool:=match zA rk r,dZ tn r with
 | some k,none=>ni w p T rk pl r k
 | none,some x=>j5 w p T tn ct r x
 | _,_=>false
theorem oY {α:Type} (L:List α):eF (.int (L.length:Int)) (.int 0)=some (.bool (decide (0<L.length))):=by
 rw [show eF (.int (L.length:Int)) (.int 0)=some (.bool (decide ((0:Int)<(L.length:Int)))) from rfl];congr 2
 rw [Bool.eq_iff_iff];simp only [decide_eq_true_eq]
 omega
noncomputable abbrev GR (w:Wd) (p:Int) (R:List Nat) (d:D) (pl:List (Option Nat)) (r:Nat) (x6:Option PV):Ev:=[some ⟨.leaf,w.enc⟩,some ⟨.leaf,.int p⟩,some ⟨.leaf,aJ R⟩,some ⟨.leaf,d⟩,some ⟨.leaf,aR pl⟩,some ⟨.leaf,rm r⟩,x6,none]
theorem vQ (ok:w.Ok) (hl:rk.length=w.n) (hP:bZ w p pl) {r:Nat} {k:Int} (hr:r<w.n) (e:zA rk r=some k):da [w.enc,.int p,aJ T,b5 rk,aR pl,rm r]=.ok ⟨.leaf,.bool (ni w p T rk pl r k)⟩:=by
 have hst:∀t∈sb w p pl r,t<w.n:=fun t ht=>ok.stp_lt (oB hP hr ht)
 have hln:=CD ok (q:=p) (pl:=pl) (r:=r)
 obtain ⟨s,hs,es⟩:=gg ok (p:=p) hP.len hr
 unfold ni;generalize sb w p pl r=M at hst hln es
 have ir:ah (ae 3) (ae 5) (GR w p T (b5 rk) pl r none)=.ok ⟨.leaf,.int k⟩ (GR w p T (b5 rk) pl r none):=by
  have:=ik (Γ:=GR w p T (b5 rk) pl r none) (fa:=ae 3) (fb:=ae 5) (rk:=rk) (r:=r) (aB rfl) (aB (d:=rm r) rfl) (by omega)
  rw [e] at this;exact this
 have t1:=dQ (b6 (s:=.leaf) (aI (g:=dI) ir (aV (d:=.int 0)) KC.lt_int)) (b6 (s:=.leaf) (aI (g:=bK) (aI (g:=bg) ir (aV (d:=.int 0)) (ud k)) (aI (g:=bV false) (aB (Γ:=GR w p T (b5 rk) pl r none) (i:=5) rfl) (aB (i:=2) rfl) t5) (Ge _ _)))
 cases hc:(decide (k<0)||(decide (k=0) != T.contains r)) with
 | true=>
  rw [hc] at t1;exact aW (d8 (aN t1 (fun _=>aS aV rfl) nofun))
 | false=>
  rw [hc] at t1;rw [Bool.not_false,Bool.true_and];have s6:ax false 6 (ai 4 cy (ab (ae 0) (ab (ae 1) (ab (ae 4) (ab (ae 5) af))))) (GR w p T (b5 rk) pl r none)=.nx (GR w p T (b5 rk) pl r (some ⟨.leaf,aJ M⟩)):=cV (cC (aH (aB rfl) (aH (aB rfl) (aH (aB rfl) (aH (aB rfl) ay)))) es rfl rfl) (by show (!s.isView||_)=true;rw [hs];rfl) (by simp)
  have cA:av .leaf 7 (aK (ae 6)) aE (ai 3 bX (ab (ae 3) (ab (ae 5) (ab (ae 7) af)))) (GR w p T (b5 rk) pl r (some ⟨.leaf,aJ M⟩))=.ok ⟨.lst .leaf,.list ((M.map fun t=>oT rk r t).map .bool)⟩ (GR w p T (b5 rk) pl r (some ⟨.leaf,aJ M⟩)):=by
   rw [map_map];exact h9 rm M (fun t=>⟨.leaf,.bool (oT rk r t)⟩) (st:=true) (cB (s:=.leaf) (aB rfl) wC) (by simp) rfl hln (fun t ht=>⟨cC (aH (aB rfl) (aH (aB rfl) (aH (aB rfl) ay))) (vS (by omega) (by rw [hl];exact hst t ht)) rfl rfl,rfl⟩)
  have ga:=xV (bs:=M.map fun t=>oT rk r t)
  rw [all_map] at ga;exact aW (aA (aN t1 nofun fun _=>rfl) (aA s6 (aS (v_and (s:=.leaf) (aI (g:=eF) (bT (g:=aM) (d:=.int (M.length:Int)) (aH (aB (i:=6) rfl) ay) (by simp)) (aV (d:=.int 0)) (oY M)) (bT (aH cA ay) ga)) rfl)))
noncomputable abbrev GT (w:Wd) (p:Int) (R:List Nat) (d:D) (pl:List (Option Nat)) (r:Nat) (x6 x7:Option PV):Ev:=[some ⟨.leaf,w.enc⟩,some ⟨.leaf,.int p⟩,some ⟨.leaf,aJ R⟩,some ⟨.leaf,d⟩,some ⟨.leaf,aR pl⟩,some ⟨.leaf,rm r⟩,x6,x7,none]
theorem vO (ok:w.Ok) (hl:tn.length=w.n) (hP:bZ w (1-p) ct) {r:Nat} {x:Int×Int} (hr:r<w.n) (e:dZ tn r=some x):cZ [w.enc,.int p,aJ T,bU tn,aR ct,rm r]=.ok ⟨.leaf,.bool (j5 w p T tn ct r x)⟩:=by
 have hst:∀t∈sb w (1-p) ct r,t<w.n:=fun t ht=>ok.stp_lt (oB hP hr ht)
 have hln:=CD ok (q:=1-p) (pl:=ct) (r:=r)
 obtain ⟨s,hs,es⟩:=gg ok (p:=1-p) hP.len hr
 unfold j5;generalize sb w (1-p) ct r=M at hst hln es
 obtain ⟨a,j⟩:=x;have s6:ax false 6 (ah (ae 3) (ae 5)) (GT w p T (bU tn) ct r none none)=.nx (GT w p T (bU tn) ct r (some ⟨.leaf,.tuple [.int a,.int j]⟩) none):=by
  have:=lG (Γ:=GT w p T (bU tn) ct r none none) (fa:=ae 3) (fb:=ae 5) (tn:=tn) (r:=r) (aB rfl) (aB (d:=rm r) rfl) (by omega)
  rw [e] at this;exact cV this rfl (by simp)
 have i0:ah (ae 6) (eK (.int 0)) (GT w p T (bU tn) ct r (some ⟨.leaf,.tuple [.int a,.int j]⟩) none)=.ok ⟨.leaf,.int a⟩ (GT w p T (bU tn) ct r (some ⟨.leaf,.tuple [.int a,.int j]⟩) none):=fG (j:=0) (aB rfl) aV rfl rfl rfl
 have i1:ah (ae 6) (eK (.int 1)) (GT w p T (bU tn) ct r (some ⟨.leaf,.tuple [.int a,.int j]⟩) none)=.ok ⟨.leaf,.int j⟩ (GT w p T (bU tn) ct r (some ⟨.leaf,.tuple [.int a,.int j]⟩) none):=fG (j:=1) (aB rfl) aV rfl rfl rfl
 have t1:=dQ (b6 (s:=.leaf) (aI (g:=dI) i0 (aV (d:=.int 0)) KC.lt_int)) (dQ (b6 (s:=.leaf) (aI (g:=dI) i1 (aV (d:=.int 0)) KC.lt_int)) (kj (b6 (s:=.leaf) (aI (g:=bg) i1 (aV (d:=.int 0)) (ud j))) (b6 (s:=.leaf) (aI (g:=bV false) (aB (i:=5) rfl) (aB (i:=2) rfl) t5))))
 dsimp only
 cases hc:(decide (a<0)||(decide (j<0)||(decide (j=0)&&T.contains r))) with
 | true=>
  rw [hc] at t1;exact aW (aA s6 (d8 (aN t1 (fun _=>aS aV rfl) nofun)))
 | false=>
  rw [hc] at t1;rw [Bool.not_false,Bool.true_and];have s7:ax false 7 (ai 4 cy (ab (ae 0) (ab (ai 1 bh (ab (ae 1) af)) (ab (ae 4) (ab (ae 5) af))))) (GT w p T (bU tn) ct r (some ⟨.leaf,.tuple [.int a,.int j]⟩) none)=.nx (GT w p T (bU tn) ct r (some ⟨.leaf,.tuple [.int a,.int j]⟩) (some ⟨.leaf,aJ M⟩)):=cV (cC (aH (aB rfl) (aH (cC (aH (aB rfl) ay) EF rfl rfl) (aH (aB rfl) (aH (aB rfl) ay)))) es rfl rfl) (by show (!s.isView||_)=true;rw [hs];rfl) (by simp)
  have cA:av .leaf 8 (aK (ae 7)) aE (ai 3 bG (ab (ae 3) (ab (ae 5) (ab (ae 8) af)))) (GT w p T (bU tn) ct r (some ⟨.leaf,.tuple [.int a,.int j]⟩) (some ⟨.leaf,aJ M⟩))=.ok ⟨.lst .leaf,.list ((M.map fun t=>qY tn r t).map .bool)⟩ (GT w p T (bU tn) ct r (some ⟨.leaf,.tuple [.int a,.int j]⟩) (some ⟨.leaf,aJ M⟩)):=by
   rw [map_map];exact h9 rm M (fun t=>⟨.leaf,.bool (qY tn r t)⟩) (st:=true) (cB (s:=.leaf) (aB rfl) wC) (by simp) rfl hln (fun t ht=>⟨cC (aH (aB rfl) (aH (aB rfl) (aH (aB rfl) ay))) (vV (by omega) (by rw [hl];exact hst t ht)) rfl rfl,rfl⟩)
  have ga:=xV (bs:=M.map fun t=>qY tn r t)
  rw [all_map] at ga;exact aW (aA s6 (aA (aN t1 nofun fun _=>rfl) (aA s7 (aS (v_and (s:=.leaf) (aI (g:=eF) (bT (g:=aM) (d:=.int (M.length:Int)) (aH (aB (i:=7) rfl) ay) (by simp)) (aV (d:=.int 0)) (oY M)) (bT (aH cA ay) ga)) rfl))))
theorem vR (ok:w.Ok) (h1:rk.length=w.n) (h2:tn.length=w.n) (hP:bZ w p pl) (hC:bZ w (1-p) ct) {r:Nat} (hr:r<w.n):m_is_room_right [w.enc,.int p,aJ T,bo rk pl tn ct,rm r]=.ok ⟨.leaf,.bool (pJ w p T rk pl tn ct r)⟩:=by
 have ie:∀(j:Nat) (z:Int) (d:D),d6 4 z=some j->[b5 rk,aR pl,bU tn,aR ct][j]?=some d->ah (ae 3) (eK (.int z)) (bw 5 [w.enc,.int p,aJ T,bo rk pl tn ct,rm r])=.ok ⟨.leaf,d⟩ (bw 5 [w.enc,.int p,aJ T,bo rk pl tn ct,rm r]):=fun j z d h1 h2=>fG (j:=j) (s:=.leaf) (s2:=.leaf) (aB rfl) aV h1 h2 rfl
 have n0:=aI (g:=aO false) (d:=.bool (zA rk r).isNone) (ik (ie 0 0 _ rfl rfl) (aB (i:=4) (d:=rm r) rfl) (by omega)) (aV (d:=.none)) (by cases zA rk r<;>rfl)
 have n2:=aI (g:=aO false) (d:=.bool (dZ tn r).isNone) (lG (ie 2 2 _ rfl rfl) (aB (i:=4) (d:=rm r) rfl) (by omega)) (aV (d:=.none)) (by cases dZ tn r<;>rfl)
 have t1:=b6 (s:=.leaf) (aI (g:=bg) n0 n2 (Hf _ _))
 have t2:=b6 (s:=.leaf) n2
 unfold pJ
 cases e1:zA rk r with
 | none=>
  cases e2:dZ tn r with
  | none=>
   rw [e1,e2] at t1;exact aW (d8 (aN t1 (fun _=>aS aV rfl) nofun))
  | some x=>
   rw [e1,e2] at t1;rw [e2] at t2;exact aW (aA (aN t1 nofun fun _=>rfl) (aA (aN t2 nofun fun _=>rfl) (aS (cC (aH (aB rfl) (aH (aB rfl) (aH (aB rfl) (aH (ie 2 2 _ rfl rfl) (aH (ie 3 3 _ rfl rfl) (aH (aB rfl) ay)))))) (vO ok h2 hC hr e2) rfl rfl) rfl)))
 | some k=>
  cases e2:dZ tn r with
  | none=>
   rw [e1,e2] at t1;rw [e2] at t2;exact aW (aA (aN t1 nofun fun _=>rfl) (d8 (aN t2 (fun _=>aS (cC (aH (aB rfl) (aH (aB rfl) (aH (aB rfl) (aH (ie 0 0 _ rfl rfl) (aH (ie 1 1 _ rfl rfl) (aH (aB rfl) ay)))))) (vQ ok h1 hP hr e1) rfl rfl) rfl) nofun)))
  | some x=>
   rw [e1,e2] at t1;exact aW (d8 (aN t1 (fun _=>aS aV rfl) nofun))
noncomputable def qh (w:Wd) (p:Int) (T:List Nat) (rk:List (Option Int)) (pl:List (Option Nat)) (tn:List (Option (Int×Int))) (ct:List (Option Nat)):Bool:=(decide (rk.length=w.n)&&decide (tn.length=w.n))&&((dh w p pl&&dh w (1-p) ct)&&(List.range w.n).all (pJ w p T rk pl tn ct))
theorem oX {a b:Nat}:bK (.int (a:Int)) (.int (b:Int))=some (.bool (!decide (a=b))):=by
 rw [FK];congr 3
 rw [Bool.eq_iff_iff];simp only [decide_eq_true_eq]
 omega
theorem vP (ok:w.Ok) (hp:p=0\/p=1) (hT:Std w.n T) (hm:pl.length<=1000) (hc:ct.length<=1000):bJ [w.enc,.int p,aJ T,bo rk pl tn ct]=.ok ⟨.leaf,.bool (qh w p T rk pl tn ct)⟩:=by
 have h24:=ok.h24
 have ie:∀(j:Nat) (z:Int) (d:D),d6 4 z=some j->[b5 rk,aR pl,bU tn,aR ct][j]?=some d->ah (ae 3) (eK (.int z)) (GW w p T (bo rk pl tn ct) (some ⟨.leaf,.int (w.n:Int)⟩))=.ok ⟨.leaf,d⟩ (GW w p T (bo rk pl tn ct) (some ⟨.leaf,.int (w.n:Int)⟩)):=fun j z d h1 h2=>fG (j:=j) (s:=.leaf) (s2:=.leaf) (aB rfl) aV h1 h2 rfl
 have t1:=dQ (b6 (s:=.leaf) (aI (g:=bK) (bT (g:=aM) (d:=.int (rk.length:Int)) (aH (ie 0 0 _ rfl rfl) ay) (by simp)) (aB (i:=4) rfl) oX)) (b6 (s:=.leaf) (aI (g:=bK) (bT (g:=aM) (d:=.int (tn.length:Int)) (aH (ie 2 2 _ rfl rfl) ay) (by simp)) (aB (i:=4) rfl) oX))
 have t2:=dQ (eL (dP (s:=.leaf) (cC (n:=3) (aH (aB (i:=0) rfl) (aH (aB (i:=1) rfl) (aH (ie 1 1 _ rfl rfl) ay))) (Ez ok hm) rfl rfl))) (eL (dP (s:=.leaf) (cC (n:=3) (aH (aB (i:=0) rfl) (aH (cC (n:=1) (aH (aB (i:=1) rfl) ay) EF rfl rfl) (aH (ie 3 3 _ rfl rfl) ay))) (Ez ok hc) rfl rfl)))
 rw [<-Bool.not_and] at t1 t2
 unfold qh;refine aW (aA (oq (cC (aH (aB rfl) (aH (aB rfl) (aH (aB rfl) ay))) (eH ok hp hT) rfl rfl)) (aA (cV (wQ ok rfl) rfl (by simp [bw])) ?_))
 cases hl:(decide (rk.length=w.n)&&decide (tn.length=w.n)) with
 | false=>
  rw [hl] at t1;exact d8 (aN t1 (fun _=>aS aV rfl) nofun)
 | true=>
  rw [hl] at t1;simp only [Bool.and_eq_true,decide_eq_true_eq] at hl
  refine aA (aN t1 nofun fun _=>rfl) ?_
  rw [Bool.true_and]
  cases hB:(dh w p pl&&dh w (1-p) ct) with
  | false=>
   rw [hB] at t2;exact d8 (aN t2 (fun _=>aS aV rfl) nofun)
  | true=>
   rw [hB] at t2;simp only [Bool.and_eq_true] at hB
   refine aA (aN t2 nofun fun _=>rfl) ?_
   rw [Bool.true_and];have c:av .leaf 5 (cx (ab (ae 4) af)) aE (ai 5 m_is_room_right (ab (ae 0) (ab (ae 1) (ab (ae 2) (ab (ae 3) (ab (ae 5) af)))))) (GW w p T (bo rk pl tn ct) (some ⟨.leaf,.int (w.n:Int)⟩))=.ok ⟨.lst .leaf,.list (((List.range w.n).map (pJ w p T rk pl tn ct)).map .bool)⟩ (GW w p T (bo rk pl tn ct) (some ⟨.leaf,.int (w.n:Int)⟩)):=by
    rw [map_map];exact h9 rm (List.range w.n) (fun r=>⟨.leaf,.bool (pJ w p T rk pl tn ct r)⟩) (st:=true) (gp (s:=.leaf) (n:=w.n) (by omega) (aH (aB (i:=4) rfl) ay)) (by simp) rfl (by simp;omega) (fun r hr=>⟨cC (aH (aB rfl) (aH (aB rfl) (aH (aB rfl) (aH (aB rfl) (aH (aB rfl) ay))))) (vR ok hl.1 hl.2 (wJ hB.1) (wJ hB.2) (List.mem_range.mp hr)) rfl rfl,rfl⟩)
   have ga:=xV (bs:=(List.range w.n).map (pJ w p T rk pl tn ct))
   rw [all_map] at ga;exact aS (bT (aH c ay) ga) rfl
end
section
variable {w:Wd} {p:Int} {T:List Nat} {rk:List (Option Int)} {pl ct:List (Option Nat)} {tn:List (Option (Int×Int))}
theorem lL (ok:w.Ok) {q:Int} {d:D} {g:D->D->Option D} (hP:bZ w q pl) {r:Nat} (hr:r<w.n) (e0:sb w q pl r=[]) (hg:∀o:Int,(∀p',own w p' r=(o==p'))->g (.int o) (.int p)=some (.bool (own w q r))) {c:FS} :
  ao (ax false 6 (ah (ah (ae 0) (eK (.int 2))) (ae 5)))
   (ao (bf (aC aj (aw g (ah (ah (ae 0) (eK (.int 0))) (ae 5)) (ae 1))) (ao (bf (aC aj (aw (aO false) (ah (ae 4) (ae 5)) (eK .none))) (aG (eK (.bool false))) az)
   (ax false 6 (aP .leaf (ab (ah (ae 4) (ae 5)) af)))) az) c) (GH w p T d pl r none)=.rt ⟨.leaf,.bool false⟩:=by
 have s6:ax false 6 (ah (ah (ae 0) (eK (.int 2))) (ae 5)) (GH w p T d pl r none)=.nx (GH w p T d pl r (some ⟨.leaf,aJ (w.stp r)⟩)):=cV (Av ok rfl (aB rfl) hr) rfl (by simp)
 refine aA s6 (d8 ?_)
 obtain ⟨o,eo,ho⟩:=j1 ok (Γ:=GH w p T d pl r (some ⟨.leaf,aJ (w.stp r)⟩)) (i:=0) (fb:=ae 5) (s:=.leaf) (r:=r) rfl (aB rfl) hr
 have t:=b6 (s:=.leaf) (aI (g:=g) eo (aB (i:=1) rfl) (hg o ho))
 have ip:ah (ae 4) (ae 5) (GH w p T d pl r (some ⟨.leaf,aJ (w.stp r)⟩))=.ok ⟨.leaf,oD (aU pl r)⟩ (GH w p T d pl r (some ⟨.leaf,aJ (w.stp r)⟩)):=rN (aB rfl) (aB (d:=rm r) rfl) (by rw [hP.len];exact hr)
 unfold sb at e0
 cases hw:own w q r with
 | false=>
  rw [hw] at e0;exact absurd e0 (ok.stp_ne hr)
 | true=>
  rw [hw] at t e0
  cases e:aU pl r with
  | some u=>rw [e] at e0;cases e0
  | none=>
   rw [e] at ip;have t2:=b6 (s:=.leaf) (aI (g:=aO false) (d:=.bool true) ip (aV (d:=.none)) rfl)
   exact aN t (fun _=>d8 (aN t2 (fun _=>aS aV rfl) nofun)) nofun
theorem tF (ok:w.Ok) (hl:rk.length=w.n) (hP:bZ w p pl) {r:Nat} {k:Int} (hk:0<=k) (hr:r<w.n) (e:zA rk r=some k):cw [w.enc,.int p,aJ T,b5 rk,aR pl,rm r]=.ok ⟨.leaf,.bool (ni w p T rk pl r k)⟩:=by
 unfold ni;rw [decide_eq_false (by omega:¬k<0),Bool.false_or]
 by_cases e0:sb w p pl r=[]
 ·rw [e0]
  have:(!(decide (k=0) != T.contains r)&&(decide (0<([]:List Nat).length)&&([]:List Nat).all fun t=>oT rk r t))=false:=by simp
  rw [this];exact aW (lL (p:=p) (T:=T) (d:=b5 rk) (g:=bg) ok hP hr e0 fun o ho=>by rw [KC.eq_int,ho p])
 have st:=jQ (b:=true) (p:=p) (T:=T) (d:=b5 rk) (g:=bg) ok hP hr e0 fun o ho=>by rw [KC.eq_int,ho p]
 have hst:∀t∈sb w p pl r,t<w.n:=fun t ht=>ok.stp_lt (oB hP hr ht)
 have hln:=CD ok (q:=p) (pl:=pl) (r:=r)
 generalize sb w p pl r=M at e0 hst hln st
 refine aW (jS st ?_)
 rw [decide_eq_true (List.length_pos_iff.mpr e0),Bool.true_and];have ir:ah (ae 3) (ae 5) (GH w p T (b5 rk) pl r (some ⟨.leaf,aJ M⟩))=.ok ⟨.leaf,.int k⟩ (GH w p T (b5 rk) pl r (some ⟨.leaf,aJ M⟩)):=by
  have:=ik (Γ:=GH w p T (b5 rk) pl r (some ⟨.leaf,aJ M⟩)) (fa:=ae 3) (fb:=ae 5) (rk:=rk) (r:=r) (aB rfl) (aB (d:=rm r) rfl) (by omega)
  rw [e] at this;exact this
 have c:av .leaf 7 (aK (ae 6)) (aC aj (aw (aO false) (ah (ae 3) (ae 7)) (eK .none))) (ae 7) (GH w p T (b5 rk) pl r (some ⟨.leaf,aJ M⟩))=.ok ⟨.lst .leaf,aJ (M.filter fun t=>(zA rk t).isNone)⟩ (GH w p T (b5 rk) pl r (some ⟨.leaf,aJ M⟩)):=
  qR rm M (fun t=>(zA rk t).isNone) (fun t=>⟨.leaf,rm t⟩) (st:=true) (cB (s:=.leaf) (aB rfl) wC) (by simp) rfl hln (fun t ht=>b6 (s:=.leaf) (aI (g:=aO false) (ik (rk:=rk) (aB (i:=3) rfl) (aB (i:=7) (d:=rm t) rfl) (by rw [hl];exact hst t ht)) (aV (d:=.none)) (by cases zA rk t<;>rfl))) (fun t ht _=>⟨aB rfl,rfl⟩)
 have t1:=dQ (b6 (s:=.leaf) (aI (g:=bK) (aI (g:=bg) ir (aV (d:=.int 0)) (ud k)) (aI (g:=bV false) (aB (i:=5) rfl) (aB (i:=2) rfl) t5) (Ge _ _))) (b6 (s:=.leaf) (aI (g:=eF) (bT (g:=aM) (d:=.int ((M.filter fun t=>(zA rk t).isNone).length:Int)) (aH c ay) (by simp)) (aV (d:=.int 0)) (oY _)))
 cases hx:(decide (k=0) != T.contains r) with
 | true=>
  rw [hx,Bool.true_or] at t1;exact d8 (aN t1 (fun _=>aS aV rfl) nofun)
 | false=>
  rw [hx,Bool.false_or] at t1;rw [Bool.not_false,Bool.true_and];by_cases hall:∀t∈M,(zA rk t).isSome=true
  ·have h0:(M.filter fun t=>(zA rk t).isNone)=[]:=List.filter_eq_nil_iff.mpr fun t ht=>by
    have:=hall t ht
    cases q:zA rk t with
    | none=>rw [q] at this;cases this
    | some _=>simp
   rw [h0] at t1;refine aA (aN t1 nofun fun _=>rfl) (aS (Γ1:=GH w p T (b5 rk) pl r (some ⟨.leaf,aJ M⟩)) ?_ rfl)
   by_cases q:k=0
   ·subst q
    have:(M.all fun t=>oT rk r t)=true:=List.all_eq_true.mpr fun t ht=>by unfold oT;rw [if_pos e];exact hall t ht
    rw [this];exact Ba (aI (g:=bg) ir (aV (d:=.int 0)) (ud 0))
   ·have cm:av .leaf 7 (aK (ae 6)) aE (ah (ae 3) (ae 7)) (GH w p T (b5 rk) pl r (some ⟨.leaf,aJ M⟩))=.ok ⟨.lst .leaf,.list ((M.map fun t=>(zA rk t).getD 0).map .int)⟩ (GH w p T (b5 rk) pl r (some ⟨.leaf,aJ M⟩)):=by
     rw [map_map];refine h9 rm M (fun t=>⟨.leaf,.int ((zA rk t).getD 0)⟩) (st:=true) (cB (s:=.leaf) (aB rfl) wC) (by simp) rfl hln (fun t ht=>⟨?_,rfl⟩)
     have:=ik (Γ:=(GH w p T (b5 rk) pl r (some ⟨.leaf,aJ M⟩)).set 7 (some ⟨.leaf,rm t⟩)) (fa:=ae 3) (fb:=ae 7) (rk:=rk) (r:=t) (aB rfl) (aB (d:=rm t) rfl) (by rw [hl];exact hst t ht)
     obtain ⟨y,hy⟩:=Option.isSome_iff_exists.mp (hall t ht);rw [hy] at this ⊢;exact this
    have hm:fZ [.list ((M.map fun t=>(zA rk t).getD 0).map .int)]=some (.int (zh (M.map fun t=>(zA rk t).getD 0))):=by
     unfold fZ;dsimp only;rw [KC.intsOf_map]
     cases M with
     | nil=>exact absurd rfl e0
     | cons a r=>rfl
    have hv:=v_orQ (s:=.leaf) (aI (g:=bg) ir (aV (d:=.int 0)) (ud k)) (aI (g:=dI) (bT (g:=fZ) (aH cm ay) hm) ir KC.lt_int)
    rw [decide_eq_false q,Bool.false_or] at hv;have key:decide (zh (M.map fun t=>(zA rk t).getD 0)<k)=M.all fun t=>oT rk r t:=by
     rw [Bool.eq_iff_iff,decide_eq_true_iff,all_eq_true];have h1:=sO (ns:=M.map fun t=>(zA rk t).getD 0) (k:=k) (by simpa using e0)
     constructor
     ·intro h t ht
      obtain ⟨y,hy⟩:=Option.isSome_iff_exists.mp (hall t ht);unfold oT;rw [if_neg (by rw [e];intro z;cases z;exact q rfl),e,hy]
      have:¬k<=y:=fun z=>by
       have:=h1.mpr ⟨y,List.mem_map.mpr ⟨t,ht,by rw [hy];rfl⟩,z⟩
       omega
      simp [jr]
      omega
     ·intro h
      refine Classical.byContradiction fun n=>?_
      obtain ⟨a,ha,hka⟩:=h1.mp (by omega)
      obtain ⟨t,ht,rfl⟩:=List.mem_map.mp ha;have h2:=h t ht
      obtain ⟨y,hy⟩:=Option.isSome_iff_exists.mp (hall t ht);unfold oT at h2;rw [if_neg (by rw [e];intro z;cases z;exact q rfl),e,hy] at h2
      rw [hy] at hka;have h2:y<k:=by simpa [jr] using h2
      have hka:k<=y:=hka
      omega
    rw [key] at hv;exact hv
  ·obtain ⟨t,ht⟩:=Classical.not_forall.mp hall
   obtain ⟨ht,hn⟩:=Classical.not_imp.mp ht;have hz:zA rk t=none:=by
    cases q:zA rk t with
    | none=>rfl
    | some _=>rw [q] at hn;exact absurd rfl hn
   rw [decide_eq_true (List.length_pos_of_mem (List.mem_filter.mpr ⟨ht,by rw [hz];rfl⟩))] at t1
   have:(M.all fun t=>oT rk r t)=false:=by
    rw [Bool.eq_false_iff];intro z;have:=List.all_eq_true.mp z t ht
    unfold oT at this;rw [hz] at this;split at this
    ·cases this
    ·cases zA rk r<;>cases this
   rw [this];exact d8 (aN t1 (fun _=>aS aV rfl) nofun)
theorem qw (ok:w.Ok) (hp:p=0\/p=1) (hl:tn.length=w.n) (hP:bZ w (1-p) ct) {r:Nat} {x:Int×Int} (hr:r<w.n) (e:dZ tn r=some x):b8 [w.enc,.int p,aJ T,bU tn,aR ct,rm r]=.ok ⟨.leaf,.bool (j5 w p T tn ct r x)⟩:=by
 unfold j5;have hg:∀o:Int,(∀p',own w p' r=(o==p'))->bK (.int o) (.int p)=some (.bool (own w (1-p) r)):=fun o ho=>by rw [KC.ne_int,ve ok hp hr,ho p]
 by_cases e0:sb w (1-p) ct r=[]
 ·rw [e0]
  have:(!(decide (x.1<0)||(decide (x.2<0)||(decide (x.2=0)&&T.contains r)))&&(decide (0<([]:List Nat).length)&&([]:List Nat).all fun t=>qY tn r t))=false:=by simp
  rw [this];exact aW (lL (p:=p) (T:=T) (d:=bU tn) (g:=bK) ok hP hr e0 hg)
 have st:=jQ (b:=true) (p:=p) (T:=T) (d:=bU tn) (g:=bK) ok hP hr e0 hg
 have hst:∀t∈sb w (1-p) ct r,t<w.n:=fun t ht=>ok.stp_lt (oB hP hr ht)
 have hln:=CD ok (q:=1-p) (pl:=ct) (r:=r)
 generalize sb w (1-p) ct r=M at e0 hst hln st
 refine aW (jS st ?_)
 rw [decide_eq_true (List.length_pos_iff.mpr e0),Bool.true_and];obtain ⟨a,j⟩:=x;have ir:ah (ae 3) (ae 5) (GH w p T (bU tn) ct r (some ⟨.leaf,aJ M⟩))=.ok ⟨.leaf,.tuple [.int a,.int j]⟩ (GH w p T (bU tn) ct r (some ⟨.leaf,aJ M⟩)):=by
  have:=lG (Γ:=GH w p T (bU tn) ct r (some ⟨.leaf,aJ M⟩)) (fa:=ae 3) (fb:=ae 5) (tn:=tn) (r:=r) (aB rfl) (aB (d:=rm r) rfl) (by omega)
  rw [e] at this;exact this
 have t1:=dQ (b6 (s:=.leaf) (aI (g:=dI) (bT (g:=j7) (d:=.int (AG [a,j])) (aH ir ay) rfl) (aV (d:=.int 0)) KC.lt_int)) (kj (b6 (s:=.leaf) (aI (g:=bg) (fG (j:=1) (s2:=.leaf) ir (aV (d:=.int 1)) rfl rfl rfl) (aV (d:=.int 0)) (ud j))) (b6 (s:=.leaf) (aI (g:=bV false) (aB (i:=5) rfl) (aB (i:=2) rfl) t5)))
 have hmn:(decide (AG [a,j]<0)||(decide (j=0)&&T.contains r))=(decide (a<0)||(decide (j<0)||(decide (j=0)&&T.contains r))):=by
  rw [<-Bool.or_assoc];congr 1
  rw [Bool.eq_iff_iff];simp only [Bool.or_eq_true,decide_eq_true_eq]
  show (if j<a then j else a)<0↔_
  split<;>omega
 rw [hmn] at t1;dsimp only
 cases hc:(decide (a<0)||(decide (j<0)||(decide (j=0)&&T.contains r))) with
 | true=>
  rw [hc] at t1;exact d8 (aN t1 (fun _=>aS aV rfl) nofun)
 | false=>
  rw [hc] at t1;rw [Bool.not_false,Bool.true_and];have cA:av .leaf 7 (aK (ae 6)) aE (ai 3 dC (ab (ae 3) (ab (ae 7) (ab (ae 5) af)))) (GH w p T (bU tn) ct r (some ⟨.leaf,aJ M⟩))=.ok ⟨.lst .leaf,.list ((M.map fun t=>qY tn r t).map .bool)⟩ (GH w p T (bU tn) ct r (some ⟨.leaf,aJ M⟩)):=by
   rw [map_map];exact h9 rm M (fun t=>⟨.leaf,.bool (qY tn r t)⟩) (st:=true) (cB (s:=.leaf) (aB rfl) wC) (by simp) rfl hln (fun t ht=>⟨cC (aH (aB rfl) (aH (aB rfl) (aH (aB rfl) ay))) (tH (by omega) (by rw [hl];exact hst t ht) e) rfl rfl,rfl⟩)
  have ga:=xV (bs:=M.map fun t=>qY tn r t)
  rw [all_map] at ga;exact aA (aN t1 nofun fun _=>rfl) (aS (bT (aH cA ay) ga) rfl)
noncomputable abbrev G10 (w:Wd) (p:Int) (T:List Nat) (rk:List (Option Int)) (pl:List (Option Nat)) (tn:List (Option (Int×Int))) (ct:List (Option Nat)) (x4:Option PV):Ev:=[some ⟨.leaf,w.enc⟩,some ⟨.leaf,.int p⟩,some ⟨.leaf,aJ T⟩,some ⟨.leaf,bo rk pl tn ct⟩,x4,some ⟨.leaf,b5 rk⟩,some ⟨.leaf,aR pl⟩,some ⟨.leaf,bU tn⟩,some ⟨.leaf,aR ct⟩,none]
theorem vC (ok:w.Ok) (hp:p=0\/p=1) (h1:rk.length=w.n) (h2:tn.length=w.n) (hP:bZ w p pl) (hC:bZ w (1-p) ct) (nn:∀r z,zA rk r=some z->0<=z) {r:Nat} (hr:r<w.n) :
  (pJ w p T rk pl tn ct r=true->th (G10 w p T rk pl tn ct (some ⟨.leaf,rm r⟩))=.nx (G10 w p T rk pl tn ct (some ⟨.leaf,rm r⟩)))/\(pJ w p T rk pl tn ct r=false->th (G10 w p T rk pl tn ct (some ⟨.leaf,rm r⟩))=.rt ⟨.leaf,.bool false⟩):=by
 have i0:=ik (Γ:=G10 w p T rk pl tn ct (some ⟨.leaf,rm r⟩)) (fa:=ae 5) (fb:=ae 4) (rk:=rk) (r:=r) (aB rfl) (aB (d:=rm r) rfl) (by omega)
 have i2:=lG (Γ:=G10 w p T rk pl tn ct (some ⟨.leaf,rm r⟩)) (fa:=ae 7) (fb:=ae 4) (tn:=tn) (r:=r) (aB rfl) (aB (d:=rm r) rfl) (by omega)
 have n0:=aI (g:=aO false) (d:=.bool (zA rk r).isNone) i0 (aV (d:=.none)) (by cases zA rk r<;>rfl)
 have n2:=aI (g:=aO false) (d:=.bool (dZ tn r).isNone) i2 (aV (d:=.none)) (by cases dZ tn r<;>rfl)
 have n3:=aI (g:=aO true) (d:=.bool (!(dZ tn r).isNone)) i2 (aV (d:=.none)) (by cases dZ tn r<;>rfl)
 have t1:=b6 (s:=.leaf) (aI (g:=bg) n0 n2 (Hf _ _))
 have t2:=b6 (s:=.leaf) n2
 have t3:=b6 (s:=.leaf) n3
 unfold pJ
 cases e1:zA rk r with
 | none=>
  cases e2:dZ tn r with
  | none=>
   rw [e1,e2] at t1;exact ⟨fun z=>(nomatch z),fun _=>d8 (aN t1 (fun _=>aS aV rfl) nofun)⟩
  | some x=>
   rw [e1,e2] at t1;rw [e2] at t2 t3
   have t4:=eL (dP (s:=.leaf) (cC (Γ:=G10 w p T rk pl tn ct (some ⟨.leaf,rm r⟩)) (n:=6) (aH (aB (i:=0) rfl) (aH (aB (i:=1) rfl) (aH (aB (i:=2) rfl) (aH (aB (i:=7) rfl) (aH (aB (i:=8) rfl) (aH (aB (i:=4) rfl) ay)))))) (qw ok hp h2 hC hr e2) rfl rfl))
   dsimp only
   cases hb:j5 w p T tn ct r x with
   | true=>
    rw [hb] at t4;exact ⟨fun _=>aA (aN t1 nofun fun _=>rfl) (aA (aN (KQ.b_andF t2) nofun fun _=>rfl) (aN t3 (fun _=>aN t4 nofun fun _=>rfl) nofun)),nofun⟩
   | false=>
    rw [hb] at t4;exact ⟨fun z=>(nomatch z),fun _=>aA (aN t1 nofun fun _=>rfl) (aA (aN (KQ.b_andF t2) nofun fun _=>rfl) (aN t3 (fun _=>aN t4 (fun _=>aS aV rfl) nofun) nofun))⟩
 | some k=>
  cases e2:dZ tn r with
  | none=>
   rw [e1,e2] at t1;rw [e2] at t2 t3
   have t4:=kj t2 (eL (dP (s:=.leaf) (cC (n:=6) (aH (aB (i:=0) rfl) (aH (aB (i:=1) rfl) (aH (aB (i:=2) rfl) (aH (aB (i:=5) rfl) (aH (aB (i:=6) rfl) (aH (aB (i:=4) rfl) ay)))))) (tF ok h1 hP (nn r k e1) hr e1) rfl rfl)))
   dsimp only
   cases hb:ni w p T rk pl r k with
   | true=>
    rw [hb] at t4;exact ⟨fun _=>aA (aN t1 nofun fun _=>rfl) (aA (aN t4 nofun fun _=>rfl) (aN t3 nofun fun _=>rfl)),nofun⟩
   | false=>
    rw [hb] at t4;exact ⟨fun z=>(nomatch z),fun _=>aA (aN t1 nofun fun _=>rfl) (d8 (aN t4 (fun _=>aS aV rfl) nofun))⟩
  | some x=>
   rw [e1,e2] at t1;exact ⟨fun z=>(nomatch z),fun _=>d8 (aN t1 (fun _=>aS aV rfl) nofun)⟩
theorem qx (ok:w.Ok) (hp:p=0\/p=1) (hk:rk.length<=1000) (hm:pl.length<=1000) (hc:ct.length<=1000):bH [w.enc,.int p,aJ T,bo rk pl tn ct]=.ok ⟨.leaf,.bool (qh w p T rk pl tn ct)⟩:=by
 have h24:=ok.h24
 have s0:fM [5,6,7,8] (ae 3) (bw 10 [w.enc,.int p,aJ T,bo rk pl tn ct])=.nx (G10 w p T rk pl tn ct none):=rA (aB rfl) rfl rfl rfl
 have l5:aY aM (ab (ae 5) af) (G10 w p T rk pl tn ct none)=.ok ⟨.leaf,.int (rk.length:Int)⟩ (G10 w p T rk pl tn ct none):=bT (g:=aM) (d:=.int (rk.length:Int)) (aH (aB (i:=5) rfl) ay) (by simp)
 have t1:=dQ (b6 (s:=.leaf) (aI (g:=bK) l5 (wQ ok (i:=0) rfl) oX)) (b6 (s:=.leaf) (aI (g:=bK) (bT (g:=aM) (d:=.int (tn.length:Int)) (aH (aB (i:=7) rfl) ay) (by simp)) (wQ ok (i:=0) rfl) oX))
 rw [<-Bool.not_and] at t1;have c:av .leaf 9 (aK (ae 5)) (bQ (aC aj (aw (aO true) (ae 9) (eK .none))) (aC aj (aw dI (ae 9) (eK (.int 0))))) (ae 9) (G10 w p T rk pl tn ct none)=.ok ⟨.lst .leaf,.list ((rk.filter jn).map fun o=>zD o)⟩ (G10 w p T rk pl tn ct none):=
  qR zD rk jn (fun o=>⟨.leaf,zD o⟩) (st:=true) (cB (s:=.leaf) (aB rfl) rfl) (by simp) rfl (by omega) (fun o ho=>by
   cases o with
   | none=>exact KQ.b_andF (b6 (s:=.leaf) (aI (g:=aO true) (d:=.bool false) (aB (i:=9) rfl) (aV (d:=.none)) rfl))
   | some k=>exact kj (a:=true) (b6 (s:=.leaf) (aI (g:=aO true) (d:=.bool true) (aB (i:=9) rfl) (aV (d:=.none)) rfl)) (b6 (s:=.leaf) (aI (g:=dI) (aB (i:=9) (d:=.int k) rfl) (aV (d:=.int 0)) KC.lt_int))) (fun o ho _=>⟨aB rfl,by cases o<;>rfl⟩)
 have t2:=b6 (s:=.leaf) (aI (g:=eF) (bT (g:=aM) (d:=.int ((rk.filter jn).length:Int)) (aH c ay) (by simp)) (aV (d:=.int 0)) (oY _))
 have t3:=dQ (eL (dP (s:=.leaf) (cC (Γ:=G10 w p T rk pl tn ct none) (n:=3) (aH (aB (i:=0) rfl) (aH (aB (i:=1) rfl) (aH (aB (i:=6) rfl) ay))) (Ee ok hm) rfl rfl))) (eL (dP (s:=.leaf) (cC (n:=3) (aH (aB (i:=0) rfl) (aH (aI (g:=gSub) (aV (d:=.int 1)) (aB (i:=1) rfl) sub_int') (aH (aB (i:=8) rfl) ay))) (Ee ok hc) rfl rfl)))
 rw [<-Bool.not_and] at t3;unfold qh;refine aW (aA s0 ?_)
 cases hl:(decide (rk.length=w.n)&&decide (tn.length=w.n)) with
 | false=>
  rw [hl] at t1;exact d8 (aN t1 (fun _=>aS aV rfl) nofun)
 | true=>
  rw [hl] at t1;simp only [Bool.and_eq_true,decide_eq_true_eq] at hl
  refine aA (aN t1 nofun fun _=>rfl) ?_
  rw [Bool.true_and];by_cases hn:∃r z,zA rk r=some z/\z<0
  ·obtain ⟨r,z,hz,hlt⟩:=hn
   have hr:r<w.n:=by
    rw [<-hl.1];refine Classical.byContradiction fun q=>?_
    unfold zA at hz;rw [getD_eq_getElem?_getD,getElem?_eq_none (by omega)] at hz
    cases hz
   have hmem:some z∈rk:=by
    unfold zA at hz;rw [getD_eq_getElem?_getD,getElem?_eq_getElem (by omega)] at hz
    have hz:rk[r]'(by omega)=some z:=hz
    rw [<-hz];exact getElem_mem _
   rw [decide_eq_true (List.length_pos_of_mem (List.mem_filter.mpr ⟨hmem,by simpa [jn] using hlt⟩))] at t2
   have hA:(List.range w.n).all (pJ w p T rk pl tn ct)=false:=by
    rw [Bool.eq_false_iff];intro y;have:=List.all_eq_true.mp y r (List.mem_range.mpr hr)
    unfold pJ at this;rw [hz] at this
    cases e2:dZ tn r with
    | some x=>rw [e2] at this;cases this
    | none=>
     rw [e2] at this;dsimp only at this;unfold ni at this;rw [decide_eq_true hlt] at this
     cases this
   rw [hA,Bool.and_false];exact d8 (aN t2 (fun _=>aS aV rfl) nofun)
  ·have nn:∀r z,zA rk r=some z->0<=z:=fun r z hz=>Classical.byContradiction fun q=>hn ⟨r,z,hz,by omega⟩
   have h0:(rk.filter jn).length=0:=by
    rw [List.length_eq_zero_iff,List.filter_eq_nil_iff];intro o ho
    cases o with
    | none=>simp [jn]
    | some z=>
     obtain ⟨i,hi,ei⟩:=getElem_of_mem ho;have:=nn i z (by unfold zA;rw [getD_eq_getElem?_getD,getElem?_eq_getElem hi,ei];rfl)
     simp [jn]
     omega
   rw [h0] at t2;refine aA (aN t2 nofun fun _=>rfl) ?_
   cases hB:(dh w p pl&&dh w (1-p) ct) with
   | false=>
    rw [hB] at t3;exact d8 (aN t3 (fun _=>aS aV rfl) nofun)
   | true=>
    rw [hB] at t3;simp only [Bool.and_eq_true] at hB
    refine aA (aN t3 nofun fun _=>rfl) ?_
    rw [Bool.true_and];rw [hl.1] at l5;obtain ⟨f1,f2⟩:=Az rm (i:=4) (body:=th) (Inv:=fun Γ=>∃x,Γ=G10 w p T rk pl tn ct x) (c:=pJ w p T rk pl tn ct) (q:=⟨.leaf,.bool false⟩) (List.range w.n) (G10 w p T rk pl tn ct none) (fun a ha Γ ⟨x,e⟩=>by
     subst e;obtain ⟨g1,g2⟩:=vC (T:=T) ok hp hl.1 hl.2 (wJ hB.1) (wJ hB.2) nn (List.mem_range.mp ha)
     exact ⟨by simp,fun z=>⟨_,g1 z,_,rfl⟩,fun z=>g2 z⟩) ⟨none,rfl⟩
    cases hA:(List.range w.n).all (pJ w p T rk pl tn ct) with
    | true=>
     obtain ⟨Γ',e1,x,hΓ⟩:=f1 hA;subst hΓ;exact aA (eZ (gp (s:=.leaf) (n:=w.n) (by omega) (aH l5 ay)) e1) rfl
    | false=>exact d8 (eZ (gp (s:=.leaf) (n:=w.n) (by omega) (aH l5 ay)) (f2 hA))
end
end KQ.Y.V
namespace KQ.Y.V
open PySem PySem.Spec L2 T PySem.SeqAt
open PyProof.Rows hiding St
open KC
open KQ.Z (zD b5 zA oh ik Cv Az dh wJ jr jn j4 e7 DD Dx)
structure wu (rk:List (Option Int)) (pl:List (Option Nat)) (tn:List (Option (Int×Int))) (ct:List (Option Nat)) (m:Nat):Prop where
 l1:rk.length<=m
 l2:pl.length<=m
 l3:tn.length<=m
 l4:ct.length<=m
 b1:∀z,some z∈rk->z.natAbs<100000
 b2:∀t,some t∈pl->t<1000
 b3:∀x,some x∈tn->x.1.natAbs<100000/\x.2.natAbs<100000
 b4:∀t,some t∈ct->t<1000
section
variable {rk:List (Option Int)} {pl ct:List (Option Nat)} {tn:List (Option (Int×Int))}
theorem sR {z:Int} (h:z.natAbs<100000):z.natAbs.log2<1920:=by
 by_cases h0:z.natAbs=0
 ·rw [h0];decide
 ·exact (Nat.log2_lt h0).mpr (Nat.lt_of_lt_of_le h (by
   have:(2:Nat) ^ 17<=2 ^ 1920:=Nat.pow_le_pow_right (by decide) (by decide)
   omega))
theorem w9:∀{rk:List (Option Int)},(∀z,some z∈rk->z.natAbs<100000)->PyData.showableAll (rk.map zD)=true
 | [],_=>rfl
 | a::r,h=>by
  have t:=w9 (rk:=r) fun z hz=>h z (mem_cons_of_mem _ hz)
  cases a with
  | none=>simpa [zD,PyData.showableAll,PyData.showable] using t
  | some z=>
   have:=sR (h z mem_cons_self)
   simp only [map_cons,zD,PyData.showableAll,PyData.showable,Bool.and_eq_true,decide_eq_true_eq]
   exact ⟨this,t⟩
theorem rV:∀{pl:List (Option Nat)},(∀z,some z∈pl->z<1000)->PyData.showableAll (pl.map oD)=true
 | [],_=>rfl
 | a::r,h=>by
  have t:=rV (pl:=r) fun z hz=>h z (mem_cons_of_mem _ hz)
  cases a with
  | none=>simpa [oD,PyData.showableAll,PyData.showable] using t
  | some z=>
   have:=KQ.X.log_small (h z mem_cons_self)
   simp only [map_cons,oD,PyData.showableAll,PyData.showable,Bool.and_eq_true,decide_eq_true_eq]
   exact ⟨this,t⟩
theorem xa:∀{tn:List (Option (Int×Int))},(∀x,some x∈tn->x.1.natAbs<100000/\x.2.natAbs<100000)->PyData.showableAll (tn.map dg)=true
 | [],_=>rfl
 | a::r,h=>by
  have t:=xa (tn:=r) fun z hz=>h z (mem_cons_of_mem _ hz)
  cases a with
  | none=>simpa [dg,PyData.showableAll,PyData.showable] using t
  | some v=>
   obtain ⟨x,y⟩:=v;obtain ⟨h1,h2⟩:=h (x,y) mem_cons_self
   have l1:=sR h1
   have l2:=sR h2
   simp only [map_cons,dg,PyData.showableAll,PyData.showable,Bool.and_eq_true,decide_eq_true_eq]
   exact ⟨⟨l1,l2,trivial⟩,t⟩
theorem Bs:∀rk:List (Option Int),rzL (rk.map zD)<=1923*rk.length
 | []=>Nat.le_refl _
 | a::r=>by
  have:=Bs r
  have h:rz (zD a)<=1921:=by
   cases a with
   | none=>show 4<=1921;omega
   | some k=>exact Nat.le_refl _
  show (rz (zD a)+2)+rzL (r.map zD)<=1923*(a::r).length
  rw [length_cons];omega
theorem Bt:∀tn:List (Option (Int×Int)),rzL (tn.map dg)<=3900*tn.length
 | []=>Nat.le_refl _
 | a::r=>by
  have:=Bt r
  have h:rz (dg a)<=3849:=by
   cases a with
   | none=>show 4<=3849;omega
   | some v=>obtain ⟨x,y⟩:=v;show 3+((1921+2)+((1921+2)+0))<=3849;omega
  show (rz (dg a)+2)+rzL (r.map dg)<=3900*(a::r).length
  rw [length_cons];omega
theorem Ca:∀tn:List (Option (Int×Int)),PyData.canLayAll0 (tn.map dg)=true/\PyData.depthAll (tn.map dg)<=1
 | []=>⟨rfl,by simp [PyData.depthAll]⟩
 | a::r=>by
  have ih:=Ca r
  have h:=ih.2
  cases a with
  | none=>simp [dg,PyData.canLayAll0,PyData.canLay0,PyData.depthAll,PyData.depth,ih.1];omega
  | some v=>obtain ⟨x,y⟩:=v;simp [dg,PyData.canLayAll0,PyData.canLay0,PyData.depthAll,PyData.depth,ih.1];omega
theorem Bv (B:wu rk pl tn ct 900):cH [bo rk pl tn ct]=some (.str (bo rk pl tn ct).shown)/\rz (bo rk pl tn ct)<17000000:=by
 have a1:=Dx (rk:=rk)
 have a2:=KQ.cl_rks (pl:=pl)
 have a3:=Ca tn
 have a4:=KQ.cl_rks (pl:=ct)
 have b1:=w9 B.b1
 have b2:=rV B.b2
 have b3:=xa B.b3
 have b4:=rV B.b4
 have z1:=Bs rk
 have z2:=KQ.X.rz_rks pl
 have z3:=Bt tn
 have z4:=KQ.X.rz_rks ct
 have l1:=B.l1
 have l2:=B.l2
 have l3:=B.l3
 have l4:=B.l4
 have c1:PyData.canLay0 (bo rk pl tn ct)=true:=by simp only [bo,PyData.canLay0,PyData.canLayAll0,a1.1,a2.1,a3.1,a4.1,Bool.and_self]
 have c2:PyData.showable (bo rk pl tn ct)=true:=by simp only [bo,PyData.showable,PyData.showableAll,b1,b2,b3,b4,Bool.and_self]
 have c3:PyData.depth (bo rk pl tn ct)<=50:=by
  have:=a3.2
  simp only [bo,PyData.depth,PyData.depthAll,a1.2,a2.2,a4.2]
  omega
 have c4:rz (bo rk pl tn ct)<=16000000:=by
  show 3+(((2+rzL (rk.map zD))+2)+(((2+rzL (pl.map oD))+2)+(((2+rzL (tn.map dg))+2)+(((2+rzL (ct.map oD))+2)+0))))<=_
  omega
 refine ⟨?_,by omega⟩
 show (if zu (bo rk pl tn ct)&&(bo rk pl tn ct).canLay0&&(bo rk pl tn ct).showable&&decide ((bo rk pl tn ct).depth<=50)&&decide (rz (bo rk pl tn ct)<=16000000) then some (PyData.str (bo rk pl tn ct).shown) else none)=_
 rw [c1,c2,decide_eq_true c3,decide_eq_true c4];rfl
theorem CO {Γ:Ev} {i j m:Nat} {fk fa fb:F1} {ss:List Sh} {ds es:List D} {p:PV} {s s':Sh} {z:Int} (h0:Γ[i]?=some (some ⟨.tup ss,.tuple ds⟩)) (hs:ss[j]?=some (.lst .leaf)) (hd:ds[j]?=some (.list es)) (ha:fa Γ=.ok p Γ) (hk:fk Γ=.ok ⟨s,.int (j:Int)⟩ Γ) (hb:fb Γ=.ok ⟨s',.int z⟩ Γ) (hi:d6 es.length z=some m) (hc:coer .leaf p=true) :
  kl i fk fa fb Γ=.nx (Γ.set i (some ⟨.tup ss,.tuple (ds.set j (.list (es.set m p.d)))⟩)):=by
 unfold kl fz;rw [ha];show jU i fk (fun j=>jR i j fb p) Γ=_
 unfold jU;rw [h0];simp only [wz,if_true,hk]
 rw [if_pos (by omega),Int.toNat_natCast]
 unfold jR xm;rw [h0];simp only [hs,hd,if_true]
 unfold fz;rw [hb];simp only
 unfold lP;rw [h0];simp only [hs,hd,hi,hc,if_true]
theorem CJ {Γ:Ev} {i j:Nat} {fk fa:F1} {ss:List Sh} {ds es:List D} {p:PV} {s:Sh} (h0:Γ[i]?=some (some ⟨.tup ss,.tuple ds⟩)) (hs:ss[j]?=some (.lst .leaf)) (hd:ds[j]?=some (.list es)) (hk:fk Γ=.ok ⟨s,.int (j:Int)⟩ Γ) (ha:fa Γ=.ok p Γ) (hc:coer .leaf p=true) (hl:es.length<=900) :
  jU i fk (fun j=>eA i j fa) Γ=.nx (Γ.set i (some ⟨.tup ss,.tuple (ds.set j (.list (es++[p.d])))⟩)):=by
 have hz:es.length<sizeLine:=Nat.lt_of_lt_of_le (by omega:es.length<1000) As
 unfold jU;rw [h0];simp only [wz,if_true,hk]
 rw [if_pos (by omega),Int.toNat_natCast]
 unfold eA xm;rw [h0];simp only [hs,hd,if_true]
 unfold fz;rw [ha];simp only
 unfold tR;rw [h0];simp only [hs,hd,hc,decide_eq_true hz,Bool.and_self,if_true]
theorem CN {Γ:Ev} {i j:Nat} {fk:F1} {ss:List Sh} {ds es:List D} {s:Sh} (h0:Γ[i]?=some (some ⟨.tup ss,.tuple ds⟩)) (hs:ss[j]?=some (.lst .leaf)) (hd:ds[j]?=some (.list es)) (hk:fk Γ=.ok ⟨s,.int (j:Int)⟩ Γ) (he:es.isEmpty=false) :
  jU i fk (gG i) Γ=.nx (Γ.set i (some ⟨.tup ss,.tuple (ds.set j (.list es.dropLast))⟩)):=by
 unfold jU;rw [h0];simp only [wz,if_true,hk]
 rw [if_pos (by omega),Int.toNat_natCast]
 unfold gG;rw [h0];simp only [hs,hd,he]
 rfl
end
section
variable {w:Wd} {p c:Int} {rk:List (Option Int)} {pl ct:List (Option Nat)} {tn:List (Option (Int×Int))}
noncomputable abbrev jI:List Sh:=[.lst .leaf,.lst .leaf,.lst .leaf,.lst .leaf]
noncomputable abbrev GB (w:Wd) (c:Int) (d:D) (x3 x4 x5 x6 x7:Option PV):Ev:=[some ⟨.leaf,w.enc⟩,some ⟨.tup jI,d⟩,some ⟨.leaf,.int c⟩,x3,x4,x5,x6,x7]
theorem dr {k b:Int} {d:D} {x3 x4 x5 x6 x7:Option PV} (hk:0<=k) (hk2:k<=1000) (hb:1<=b) (hb2:b<=1000):ai 3 ak (ab (ae 2) (ab (eK (.int k)) (ab (eK (.int b)) af))) (GB w c d x3 x4 x5 x6 x7)=.ok ⟨.leaf,.int (df c k b)⟩ (GB w c d x3 x4 x5 x6 x7):=cC (aH (aB rfl) (aH aV (aH aV ay))) (rg hk hk2 hb hb2) rfl rfl
theorem FF {x3 x5 x6 x7:Option PV} {fk fa:F1} {o:Option Int} {r:Nat} (hk:fk (GB w c (bo rk pl tn ct) x3 (some ⟨.leaf,rm r⟩) x5 x6 x7)=.ok ⟨.leaf,.int 0⟩ (GB w c (bo rk pl tn ct) x3 (some ⟨.leaf,rm r⟩) x5 x6 x7)) (ha:fa (GB w c (bo rk pl tn ct) x3 (some ⟨.leaf,rm r⟩) x5 x6 x7)=.ok ⟨.leaf,zD o⟩ (GB w c (bo rk pl tn ct) x3 (some ⟨.leaf,rm r⟩) x5 x6 x7)) (hr:r<rk.length) :
  kl 1 fk fa (ae 4) (GB w c (bo rk pl tn ct) x3 (some ⟨.leaf,rm r⟩) x5 x6 x7)=.nx (GB w c (bo (rk.set r o) pl tn ct) x3 (some ⟨.leaf,rm r⟩) x5 x6 x7):=by
 rw [CO (j:=0) (ss:=jI) (ds:=[b5 rk,aR pl,bU tn,aR ct]) (es:=rk.map zD) (m:=r) (z:=(r:Int)) rfl rfl rfl ha hk (aB rfl) (lB (by rw [length_map];exact hr)) rfl]
 simp [map_set]
theorem FE {x3 x5 x6 x7:Option PV} {fk fa:F1} {o:Option (Int×Int)} {r:Nat} (hk:fk (GB w c (bo rk pl tn ct) x3 (some ⟨.leaf,rm r⟩) x5 x6 x7)=.ok ⟨.leaf,.int 2⟩ (GB w c (bo rk pl tn ct) x3 (some ⟨.leaf,rm r⟩) x5 x6 x7)) (ha:fa (GB w c (bo rk pl tn ct) x3 (some ⟨.leaf,rm r⟩) x5 x6 x7)=.ok ⟨.leaf,dg o⟩ (GB w c (bo rk pl tn ct) x3 (some ⟨.leaf,rm r⟩) x5 x6 x7)) (hr:r<tn.length) :
  kl 1 fk fa (ae 4) (GB w c (bo rk pl tn ct) x3 (some ⟨.leaf,rm r⟩) x5 x6 x7)=.nx (GB w c (bo rk pl (tn.set r o) ct) x3 (some ⟨.leaf,rm r⟩) x5 x6 x7):=by
 rw [CO (j:=2) (ss:=jI) (ds:=[b5 rk,aR pl,bU tn,aR ct]) (es:=tn.map dg) (m:=r) (z:=(r:Int)) rfl rfl rfl ha hk (aB rfl) (lB (by rw [length_map];exact hr)) rfl]
 simp [map_set]
theorem xk {x3 x5 x6 x7:Option PV} {fk fa:F1} {o:Option Nat} {r:Nat} {j:Int} (hj:j=1\/j=3) (hk:fk (GB w c (bo rk pl tn ct) x3 (some ⟨.leaf,rm r⟩) x5 x6 x7)=.ok ⟨.leaf,.int j⟩ (GB w c (bo rk pl tn ct) x3 (some ⟨.leaf,rm r⟩) x5 x6 x7)) (ha:fa (GB w c (bo rk pl tn ct) x3 (some ⟨.leaf,rm r⟩) x5 x6 x7)=.ok ⟨.leaf,oD o⟩ (GB w c (bo rk pl tn ct) x3 (some ⟨.leaf,rm r⟩) x5 x6 x7)) (hr:r<pl.length) (hr2:r<ct.length) :
  ∃pl' ct',kl 1 fk fa (ae 4) (GB w c (bo rk pl tn ct) x3 (some ⟨.leaf,rm r⟩) x5 x6 x7)=.nx (GB w c (bo rk pl' tn ct') x3 (some ⟨.leaf,rm r⟩) x5 x6 x7)/\(pl'=pl\/pl'=pl.set r o)/\(ct'=ct\/ct'=ct.set r o):=by
 rcases hj with rfl | rfl
 ·refine ⟨pl.set r o,ct,?_,.inr rfl,.inl rfl⟩
  rw [CO (j:=1) (ss:=jI) (ds:=[b5 rk,aR pl,bU tn,aR ct]) (es:=pl.map oD) (m:=r) (z:=(r:Int)) rfl rfl rfl ha hk (aB rfl) (lB (by rw [length_map];exact hr)) rfl]
  simp [map_set]
 ·refine ⟨pl,ct.set r o,?_,.inl rfl,.inr rfl⟩
  rw [CO (j:=3) (ss:=jI) (ds:=[b5 rk,aR pl,bU tn,aR ct]) (es:=ct.map oD) (m:=r) (z:=(r:Int)) rfl rfl rfl ha hk (aB rfl) (lB (by rw [length_map];exact hr2)) rfl]
  simp [map_set]
end
theorem Aq {α:Type} {l:List (Option α)} {r:Nat} {o:Option α} {P:α->Prop} (h:∀z,some z∈l->P z) (ho:∀z,o=some z->P z):∀z,some z∈l.set r o->P z:=fun z hz=>by
 rcases List.mem_or_eq_of_mem_set hz with q | q
 ·exact h z q
 ·exact ho z q.symm
section
variable {w:Wd} {p c:Int} {rk:List (Option Int)} {pl ct:List (Option Nat)} {tn:List (Option (Int×Int))}
theorem qz (ok:w.Ok) (h1:rk.length=w.n) (h2:pl.length=w.n) (h3:tn.length=w.n) (h4:ct.length=w.n) (B:wu rk pl tn ct 800):∃rk' pl' tn' ct',m__law_bent [w.enc,bo rk pl tn ct,.int c]=some [w.enc,bo rk' pl' tn' ct',.int c]/\wu rk' pl' tn' ct' 900:=by
 have h24:=ok.h24
 have hn:0<w.n:=ok.h1
 have d0:=uf (c:=c) (k:=0) (b:=9) (by omega) (by omega) (by omega) (by omega)
 obtain ⟨k,hk9,ek⟩:∃k:Nat,k<9/\df c 0 9=(k:Int):=⟨(df c 0 9).toNat,by omega,by omega⟩
 obtain ⟨r,hr,er⟩:=j4 (a:=df c 1 24) hn
 have dn:=uf (c:=c) (k:=2) (b:=7) (by omega) (by omega) (by omega) (by omega)
 generalize hm:df c 2 7-1=m
 have hmb:m.natAbs<100000:=by omega
 let X3:Option PV:=some ⟨.leaf,rm k⟩
 let X4:Option PV:=some ⟨.leaf,rm r⟩
 let X5:Option PV:=some ⟨.leaf,.int m⟩
 have s3:ax false 3 (ai 3 ak (ab (ae 2) (ab (eK (.int 0)) (ab (eK (.int 9)) af)))) (GB w c (bo rk pl tn ct) none none none none none)=.nx (GB w c (bo rk pl tn ct) X3 none none none none):=by
  have:=dr (w:=w) (c:=c) (d:=bo rk pl tn ct) (k:=0) (b:=9) (x3:=none) (x4:=none) (x5:=none) (x6:=none) (x7:=none) (by omega) (by omega) (by omega) (by omega)
  rw [ek] at this;exact cV this rfl (by simp)
 have s4:ax false 4 (aw cj (ai 3 ak (ab (ae 2) (ab (eK (.int 1)) (ab (eK (.int 24)) af)))) (aY aM (ab (ah (ae 0) (eK (.int 0))) af))) (GB w c (bo rk pl tn ct) X3 none none none none)=.nx (GB w c (bo rk pl tn ct) X3 X4 none none none):=by
  have:=aI (g:=cj) (dr (w:=w) (c:=c) (d:=bo rk pl tn ct) (k:=1) (b:=24) (x3:=X3) (x4:=none) (x5:=none) (x6:=none) (x7:=none) (by omega) (by omega) (by omega) (by omega)) (wQ ok (i:=0) rfl) (eC (by omega))
  rw [er] at this;exact cV this rfl (by simp)
 have s5:ax false 5 (aw gSub (ai 3 ak (ab (ae 2) (ab (eK (.int 2)) (ab (eK (.int 7)) af)))) (eK (.int 1))) (GB w c (bo rk pl tn ct) X3 X4 none none none)=.nx (GB w c (bo rk pl tn ct) X3 X4 X5 none none):=by
  have:=aI (g:=gSub) (dr (w:=w) (c:=c) (d:=bo rk pl tn ct) (k:=2) (b:=7) (x3:=X3) (x4:=X4) (x5:=none) (x6:=none) (x7:=none) (by omega) (by omega) (by omega) (by omega)) (aV (d:=.int 1)) sub_int'
  rw [hm] at this;exact cV this rfl (by simp)
 have kq:∀(q:Nat) (d:D) (x6 x7:Option PV),aC aj (aw bg (ae 3) (eK (.int (q:Int)))) (GB w c d X3 X4 X5 x6 x7)=.ok (decide (k=q)) (GB w c d X3 X4 X5 x6 x7):=fun q d x6 x7=>by
  have:=b6 (s:=.leaf) (aI (Γ:=GB w c d X3 X4 X5 x6 x7) (g:=bg) (aB (i:=3) (d:=rm k) rfl) (aV (d:=.int (q:Int))) KC.eq_int)
  rw [this];congr 1
  rw [Bool.eq_iff_iff];simp
  omega
 obtain ⟨rk1,hl1,hb1,i0⟩:∃rk1:List (Option Int),rk1.length=w.n/\(∀z,some z∈rk1->z.natAbs<100000)/\bf (aC aj (aw bg (ae 3) (eK (.int 0)))) (kl 1 (eK (.int 0)) (ah (aP .leaf (ab (eK .none) (ab (ae 5) (ab (eK (.int 0)) af)))) (ai 3 ak (ab (ae 2) (ab (eK (.int 3)) (ab (eK (.int 3)) af))))) (ae 4)) az (GB w c (bo rk pl tn ct) X3 X4 X5 none none)=.nx (GB w c (bo rk1 pl tn ct) X3 X4 X5 none none):=by
  have t:=kq 0 (bo rk pl tn ct) none none
  by_cases hk:k=0
  ·rw [decide_eq_true hk] at t
   have d3:=uf (c:=c) (k:=3) (b:=3) (by omega) (by omega) (by omega) (by omega)
   obtain ⟨b,hb,eb⟩:∃b:Nat,b<3/\df c 3 3=(b:Int):=⟨(df c 3 3).toNat,by omega,by omega⟩
   have di:=dr (w:=w) (c:=c) (d:=bo rk pl tn ct) (k:=3) (b:=3) (x3:=X3) (x4:=X4) (x5:=X5) (x6:=none) (x7:=none) (by omega) (by omega) (by omega) (by omega)
   rw [eb] at di;have li:aP .leaf (ab (eK .none) (ab (ae 5) (ab (eK (.int 0)) af))) (GB w c (bo rk pl tn ct) X3 X4 X5 none none)=.ok ⟨.lst .leaf,.list [zD none,zD (some m),zD (some 0)]⟩ (GB w c (bo rk pl tn ct) X3 X4 X5 none none):=pj (s:=.leaf) (aH aV (aH (aB rfl) (aH aV ay))) rfl rfl rfl
   have one:∀o:Option Int,(∀z,o=some z->z.natAbs<100000)->[zD none,zD (some m),zD (some 0)][b]?=some (zD o)->∃rk1:List (Option Int),rk1.length=w.n/\(∀z,some z∈rk1->z.natAbs<100000)/\bf (aC aj (aw bg (ae 3) (eK (.int 0)))) (kl 1 (eK (.int 0)) (ah (aP .leaf (ab (eK .none) (ab (ae 5) (ab (eK (.int 0)) af)))) (ai 3 ak (ab (ae 2) (ab (eK (.int 3)) (ab (eK (.int 3)) af))))) (ae 4)) az (GB w c (bo rk pl tn ct) X3 X4 X5 none none)=.nx (GB w c (bo rk1 pl tn ct) X3 X4 X5 none none):=fun o ho eo=>
    ⟨rk.set r o,by rw [length_set];exact h1,Aq B.b1 ho,aN t (fun _=>FF aV (qP (j:=b) (s:=.lst .leaf) li di (lB (by simpa using hb)) eo rfl) (by omega)) nofun⟩
   rcases (by omega:b=0\/b=1\/b=2) with rfl | rfl | rfl
   ·exact one none (fun z h=>nomatch h) rfl
   ·exact one (some m) (fun z h=>by cases h;exact hmb) rfl
   ·exact one (some 0) (fun z h=>by cases h;decide) rfl
  ·rw [decide_eq_false hk] at t
   exact ⟨rk,h1,B.b1,aN t nofun fun _=>rfl⟩
 obtain ⟨tn1,x6,hl2,hb2,i1⟩:∃(tn1:List (Option (Int×Int))) (x6:Option PV),tn1.length=w.n/\(∀x,some x∈tn1->x.1.natAbs<100000/\x.2.natAbs<100000)/\bf (aC aj (aw bg (ae 3) (eK (.int 1)))) (ao (ax false 6 (ai 3 ak (ab (ae 2) (ab (eK (.int 4)) (ab (eK (.int 4)) af)))))
   (kl 1 (eK (.int 2)) (ah (aP .leaf (ab (eK .none) (ab (bF (ab (ae 5) (ab (ae 6) af))) (ab (bF (ab (eK (.int 0)) (ab (eK (.int 0)) af))) (ab (bF (ab (ae 6) (ab (ae 5) af))) af))))) (ai 3 ak (ab (ae 2) (ab (eK (.int 3)) (ab (eK (.int 4)) af))))) (ae 4))) az (GB w c (bo rk1 pl tn ct) X3 X4 X5 none none)=.nx (GB w c (bo rk1 pl tn1 ct) X3 X4 X5 x6 none):=by
  have t:=kq 1 (bo rk1 pl tn ct) none none
  by_cases hk:k=1
  ·rw [decide_eq_true hk] at t
   have d4:=uf (c:=c) (k:=4) (b:=4) (by omega) (by omega) (by omega) (by omega)
   have d3:=uf (c:=c) (k:=3) (b:=4) (by omega) (by omega) (by omega) (by omega)
   obtain ⟨b,hb,eb⟩:∃b:Nat,b<4/\df c 3 4=(b:Int):=⟨(df c 3 4).toNat,by omega,by omega⟩
   have s6:=cV (i:=6) (dr (w:=w) (c:=c) (d:=bo rk1 pl tn ct) (k:=4) (b:=4) (x3:=X3) (x4:=X4) (x5:=X5) (x6:=none) (x7:=none) (by omega) (by omega) (by omega) (by omega)) rfl (by simp)
   generalize df c 4 4=q at d4 s6
   have hqb:q.natAbs<100000:=by omega
   have di:=dr (w:=w) (c:=c) (d:=bo rk1 pl tn ct) (k:=3) (b:=4) (x3:=X3) (x4:=X4) (x5:=X5) (x6:=some ⟨.leaf,.int q⟩) (x7:=none) (by omega) (by omega) (by omega) (by omega)
   rw [eb] at di;have li:aP .leaf (ab (eK .none) (ab (bF (ab (ae 5) (ab (ae 6) af))) (ab (bF (ab (eK (.int 0)) (ab (eK (.int 0)) af))) (ab (bF (ab (ae 6) (ab (ae 5) af))) af)))) (GB w c (bo rk1 pl tn ct) X3 X4 X5 (some ⟨.leaf,.int q⟩) none)=.ok ⟨.lst .leaf,.list [dg none,dg (some (m,q)),dg (some (0,0)),dg (some (q,m))]⟩ (GB w c (bo rk1 pl tn ct) X3 X4 X5 (some ⟨.leaf,.int q⟩) none):=pj (s:=.leaf) (aH aV (aH (dv (aH (aB rfl) (aH (aB rfl) ay)) rfl rfl) (aH (dv (aH aV (aH aV ay)) rfl rfl) (aH (dv (aH (aB rfl) (aH (aB rfl) ay)) rfl rfl) ay)))) rfl rfl rfl
   have one:∀o:Option (Int×Int),(∀x,o=some x->x.1.natAbs<100000/\x.2.natAbs<100000)->[dg none,dg (some (m,q)),dg (some (0,0)),dg (some (q,m))][b]?=some (dg o)->∃(tn1:List (Option (Int×Int))) (x6:Option PV),tn1.length=w.n/\(∀x,some x∈tn1->x.1.natAbs<100000/\x.2.natAbs<100000)/\bf (aC aj (aw bg (ae 3) (eK (.int 1)))) (ao (ax false 6 (ai 3 ak (ab (ae 2) (ab (eK (.int 4)) (ab (eK (.int 4)) af)))))
     (kl 1 (eK (.int 2)) (ah (aP .leaf (ab (eK .none) (ab (bF (ab (ae 5) (ab (ae 6) af))) (ab (bF (ab (eK (.int 0)) (ab (eK (.int 0)) af))) (ab (bF (ab (ae 6) (ab (ae 5) af))) af))))) (ai 3 ak (ab (ae 2) (ab (eK (.int 3)) (ab (eK (.int 4)) af))))) (ae 4))) az (GB w c (bo rk1 pl tn ct) X3 X4 X5 none none)=.nx (GB w c (bo rk1 pl tn1 ct) X3 X4 X5 x6 none):=fun o ho eo=>
    ⟨tn.set r o,some ⟨.leaf,.int q⟩,by rw [length_set];exact h3,Aq B.b3 ho,aN t (fun _=>aA s6 (FE aV (qP (j:=b) (s:=.lst .leaf) li di (lB (by simpa using hb)) eo rfl) (by omega))) nofun⟩
   rcases (by omega:b=0\/b=1\/b=2\/b=3) with rfl | rfl | rfl | rfl
   ·exact one none (fun z h=>nomatch h) rfl
   ·exact one (some (m,q)) (fun z h=>by cases h;exact ⟨hmb,hqb⟩) rfl
   ·exact one (some (0,0)) (fun z h=>by cases h;decide) rfl
   ·exact one (some (q,m)) (fun z h=>by cases h;exact ⟨hqb,hmb⟩) rfl
  ·rw [decide_eq_false hk] at t
   exact ⟨tn,none,h3,B.b3,aN t nofun fun _=>rfl⟩
 have two:∀(a:Int) (j:Nat),(j:Int)=2*(k:Int)-a->∀d x6 x7,aw gSub (aw cD (eK (.int 2)) (ae 3)) (eK (.int a)) (GB w c d X3 X4 X5 x6 x7)=.ok ⟨.leaf,.int (j:Int)⟩ (GB w c d X3 X4 X5 x6 x7):=fun a j hj d x6 x7=>by
  have:=aI (Γ:=GB w c d X3 X4 X5 x6 x7) (g:=gSub) (aI (g:=cD) (aV (d:=.int 2)) (aB (i:=3) (d:=rm k) rfl) (iF (by omega) (by omega))) (aV (d:=.int a)) sub_int'
  rw [<-hj] at this;exact this
 obtain ⟨pl2,ct2,hl3,hl4,hb3,hb4,i2⟩:∃(pl2 ct2:List (Option Nat)),pl2.length=w.n/\ct2.length=w.n/\(∀t,some t∈pl2->t<1000)/\(∀t,some t∈ct2->t<1000)/\bf (b7 (aC aj (aw bg (ae 3) (eK (.int 2)))) (aC aj (aw bg (ae 3) (eK (.int 3))))) (kl 1 (aw gSub (aw cD (eK (.int 2)) (ae 3)) (eK (.int 3))) (ah (aP .leaf (ab (eK .none) (ab (aw cj (ai 3 ak (ab (ae 2) (ab (eK (.int 4)) (ab (eK (.int 24)) af)))) (aY aM (ab (ah (ae 0) (eK (.int 0))) af))) af))) (aw cj (ai 3 ak (ab (ae 2) (ab (eK (.int 3)) (ab (eK (.int 3)) af)))) (eK (.int 2)))) (ae 4)) az (GB w c (bo rk1 pl tn1 ct) X3 X4 X5 x6 none)=.nx (GB w c (bo rk1 pl2 tn1 ct2) X3 X4 X5 x6 none):=by
  have t:=dQ (kq 2 (bo rk1 pl tn1 ct) x6 none) (kq 3 (bo rk1 pl tn1 ct) x6 none)
  by_cases hk:k=2\/k=3
  ·have ht:(decide (k=2)||decide (k=3))=true:=by simpa using hk
   rw [ht] at t;obtain ⟨u,hu,eu⟩:=j4 (a:=df c 4 24) hn
   obtain ⟨b,hb,eb⟩:=j4 (a:=df c 3 3) (n:=2) (by omega)
   have m1:=aI (g:=cj) (dr (w:=w) (c:=c) (d:=bo rk1 pl tn1 ct) (k:=4) (b:=24) (x3:=X3) (x4:=X4) (x5:=X5) (x6:=x6) (x7:=none) (by omega) (by omega) (by omega) (by omega)) (wQ ok (i:=0) rfl) (eC (by omega))
   rw [eu] at m1;have m2:=aI (g:=cj) (dr (w:=w) (c:=c) (d:=bo rk1 pl tn1 ct) (k:=3) (b:=3) (x3:=X3) (x4:=X4) (x5:=X5) (x6:=x6) (x7:=none) (by omega) (by omega) (by omega) (by omega)) (aV (d:=.int 2)) (eC (by omega))
   have eb:df c 3 3 % 2=(b:Int):=eb
   rw [eb] at m2;have li:=pj (s:=.leaf) (aH (aV (d:=.none)) (aH m1 ay)) rfl rfl rfl
   have one:∀o:Option Nat,(∀z,o=some z->z<1000)->[oD none,oD (some u)][b]?=some (oD o)->∃(pl2 ct2:List (Option Nat)),pl2.length=w.n/\ct2.length=w.n/\(∀t,some t∈pl2->t<1000)/\(∀t,some t∈ct2->t<1000)/\bf (b7 (aC aj (aw bg (ae 3) (eK (.int 2)))) (aC aj (aw bg (ae 3) (eK (.int 3))))) (kl 1 (aw gSub (aw cD (eK (.int 2)) (ae 3)) (eK (.int 3))) (ah (aP .leaf (ab (eK .none) (ab (aw cj (ai 3 ak (ab (ae 2) (ab (eK (.int 4)) (ab (eK (.int 24)) af)))) (aY aM (ab (ah (ae 0) (eK (.int 0))) af))) af))) (aw cj (ai 3 ak (ab (ae 2) (ab (eK (.int 3)) (ab (eK (.int 3)) af)))) (eK (.int 2)))) (ae 4)) az (GB w c (bo rk1 pl tn1 ct) X3 X4 X5 x6 none)=.nx (GB w c (bo rk1 pl2 tn1 ct2) X3 X4 X5 x6 none):=fun o ho eo=>by
    obtain ⟨j,hj⟩:∃j:Nat,(j:Int)=2*(k:Int)-3:=⟨2*k-3,by omega⟩
    obtain ⟨pl',ct',e1,e2,e3⟩:=xk (w:=w) (c:=c) (rk:=rk1) (pl:=pl) (tn:=tn1) (ct:=ct) (x3:=X3) (x5:=X5) (x6:=x6) (x7:=none) (r:=r) (o:=o) (j:=(j:Int)) (by omega) (two 3 j hj _ _ _) (qP (j:=b) (s:=.lst .leaf) li m2 (lB (by simpa using hb)) eo rfl) (by omega) (by omega)
    refine ⟨pl',ct',?_,?_,?_,?_,aN t (fun _=>e1) nofun⟩
    ·rcases e2 with rfl | rfl
     ·exact h2
     ·rw [length_set];exact h2
    ·rcases e3 with rfl | rfl
     ·exact h4
     ·rw [length_set];exact h4
    ·rcases e2 with rfl | rfl
     ·exact B.b2
     ·exact Aq B.b2 ho
    ·rcases e3 with rfl | rfl
     ·exact B.b4
     ·exact Aq B.b4 ho
   rcases (by omega:b=0\/b=1) with rfl | rfl
   ·exact one none (fun z h=>nomatch h) rfl
   ·exact one (some u) (fun z h=>by cases h;omega) rfl
  ·have ht:(decide (k=2)||decide (k=3))=false:=by simpa using hk
   rw [ht] at t;exact ⟨pl,ct,h2,h4,B.b2,B.b4,aN t nofun fun _=>rfl⟩
 obtain ⟨pl3,ct3,x7,hl5,hl6,hb5,hb6,i3⟩:∃(pl3 ct3:List (Option Nat)) (x7:Option PV),pl3.length=w.n/\ct3.length=w.n/\(∀t,some t∈pl3->t<1000)/\(∀t,some t∈ct3->t<1000)/\bf (b7 (aC aj (aw bg (ae 3) (eK (.int 4)))) (aC aj (aw bg (ae 3) (eK (.int 5))))) (ao (ax false 7 (ah (ah (ae 0) (eK (.int 2))) (ae 4)))
   (kl 1 (aw gSub (aw cD (eK (.int 2)) (ae 3)) (eK (.int 7))) (ah (ae 7) (aw cj (ai 3 ak (ab (ae 2) (ab (eK (.int 4)) (ab (eK (.int 24)) af)))) (aY aM (ab (ae 7) af)))) (ae 4))) az (GB w c (bo rk1 pl2 tn1 ct2) X3 X4 X5 x6 none)=.nx (GB w c (bo rk1 pl3 tn1 ct3) X3 X4 X5 x6 x7):=by
  have t:=dQ (kq 4 (bo rk1 pl2 tn1 ct2) x6 none) (kq 5 (bo rk1 pl2 tn1 ct2) x6 none)
  by_cases hk:k=4\/k=5
  ·have ht:(decide (k=4)||decide (k=5))=true:=by simpa using hk
   rw [ht] at t;have hs:0<(w.stp r).length:=List.length_pos_iff.mpr (ok.stp_ne hr)
   obtain ⟨u,hu,eu⟩:=j4 (a:=df c 4 24) hs
   have s7:ax false 7 (ah (ah (ae 0) (eK (.int 2))) (ae 4)) (GB w c (bo rk1 pl2 tn1 ct2) X3 X4 X5 x6 none)=.nx (GB w c (bo rk1 pl2 tn1 ct2) X3 X4 X5 x6 (some ⟨.leaf,aJ (w.stp r)⟩)):=cV (Av ok (i:=0) rfl (aB (d:=rm r) rfl) hr) rfl (by simp)
   have m1:=aI (g:=cj) (dr (w:=w) (c:=c) (d:=bo rk1 pl2 tn1 ct2) (k:=4) (b:=24) (x3:=X3) (x4:=X4) (x5:=X5) (x6:=x6) (x7:=some ⟨.leaf,aJ (w.stp r)⟩) (by omega) (by omega) (by omega) (by omega)) (bT (g:=aM) (d:=.int ((w.stp r).length:Int)) (aH (aB (i:=7) rfl) ay) (by simp)) (eC (by omega))
   rw [eu] at m1;obtain ⟨j,hj⟩:∃j:Nat,(j:Int)=2*(k:Int)-7:=⟨2*k-7,by omega⟩
   obtain ⟨pl',ct',e1,e2,e3⟩:=xk (w:=w) (c:=c) (rk:=rk1) (pl:=pl2) (tn:=tn1) (ct:=ct2) (x3:=X3) (x5:=X5) (x6:=x6) (x7:=some ⟨.leaf,aJ (w.stp r)⟩) (r:=r) (o:=some ((w.stp r)[u]'hu)) (j:=(j:Int)) (by omega) (two 7 j hj _ _ _) (qP (ds:=(w.stp r).map rm) (j:=u) (s:=.leaf) (aB (i:=7) (d:=aJ (w.stp r)) rfl) m1 (lB (by rw [length_map];exact hu)) (by rw [getElem?_map,getElem?_eq_getElem hu];rfl) rfl) (by omega) (by omega)
   have hub:(w.stp r)[u]'hu<1000:=by have:=ok.stp_lt (getElem_mem hu);omega
   refine ⟨pl',ct',_,?_,?_,?_,?_,aN t (fun _=>aA s7 e1) nofun⟩
   ·rcases e2 with rfl | rfl
    ·exact hl3
    ·rw [length_set];exact hl3
   ·rcases e3 with rfl | rfl
    ·exact hl4
    ·rw [length_set];exact hl4
   ·rcases e2 with rfl | rfl
    ·exact hb3
    ·exact Aq hb3 fun z h=>by cases h;exact hub
   ·rcases e3 with rfl | rfl
    ·exact hb4
    ·exact Aq hb4 fun z h=>by cases h;exact hub
  ·have ht:(decide (k=4)||decide (k=5))=false:=by simpa using hk
   rw [ht] at t;exact ⟨pl2,ct2,none,hl3,hl4,hb3,hb4,aN t nofun fun _=>rfl⟩
 have d3:=uf (c:=c) (k:=3) (b:=4) (by omega) (by omega) (by omega) (by omega)
 obtain ⟨b,hb,eb⟩:∃b:Nat,b<4/\df c 3 4=(b:Int):=⟨(df c 3 4).toNat,by omega,by omega⟩
 have db:∀d,ai 3 ak (ab (ae 2) (ab (eK (.int 3)) (ab (eK (.int 4)) af))) (GB w c d X3 X4 X5 x6 x7)=.ok ⟨.leaf,.int (b:Int)⟩ (GB w c d X3 X4 X5 x6 x7):=fun d=>by
  have:=dr (w:=w) (c:=c) (d:=d) (k:=3) (b:=4) (x3:=X3) (x4:=X4) (x5:=X5) (x6:=x6) (x7:=x7) (by omega) (by omega) (by omega) (by omega)
  rw [eb] at this;exact this
 obtain ⟨rk4,pl4,tn4,ct4,B4,⟨p1,p2,p3,p4⟩,i4⟩:∃rk4 pl4 tn4 ct4,wu rk4 pl4 tn4 ct4 850/\(0<rk4.length/\0<pl4.length/\0<tn4.length/\0<ct4.length)/\bf (aC aj (aw bg (ae 3) (eK (.int 6)))) (jU 1 (ai 3 ak (ab (ae 2) (ab (eK (.int 3)) (ab (eK (.int 4)) af)))) fun j=>eA 1 j (eK .none)) az (GB w c (bo rk1 pl3 tn1 ct3) X3 X4 X5 x6 x7)=.nx (GB w c (bo rk4 pl4 tn4 ct4) X3 X4 X5 x6 x7):=by
  have t:=kq 6 (bo rk1 pl3 tn1 ct3) x6 x7
  by_cases hk:k=6
  ·rw [decide_eq_true hk] at t
   have ap:∀{α:Type} {P:α->Prop} {l:List (Option α)},(∀z,some z∈l->P z)->∀z,some z∈l++[none]->P z:=fun h z hz=>by
    rcases List.mem_append.mp hz with q | q
    ·exact h z q
    ·exact absurd (List.mem_singleton.mp q) (by simp)
   rcases (by omega:b=0\/b=1\/b=2\/b=3) with rfl | rfl | rfl | rfl
   ·refine ⟨rk1++[none],pl3,tn1,ct3,⟨by simp;omega,by omega,by omega,by omega,ap hb1,hb5,hb2,hb6⟩,by simp;omega,aN t (fun _=>?_) nofun⟩
    rw [CJ (j:=0) (ss:=jI) (ds:=[b5 rk1,aR pl3,bU tn1,aR ct3]) (es:=rk1.map zD) (p:=⟨.leaf,.none⟩) rfl rfl rfl (db _) aV rfl (by rw [length_map];omega)]
    simp [zD]
   ·refine ⟨rk1,pl3++[none],tn1,ct3,⟨by omega,by simp;omega,by omega,by omega,hb1,ap hb5,hb2,hb6⟩,by simp;omega,aN t (fun _=>?_) nofun⟩
    rw [CJ (j:=1) (ss:=jI) (ds:=[b5 rk1,aR pl3,bU tn1,aR ct3]) (es:=pl3.map oD) (p:=⟨.leaf,.none⟩) rfl rfl rfl (db _) aV rfl (by rw [length_map];omega)]
    simp [oD]
   ·refine ⟨rk1,pl3,tn1++[none],ct3,⟨by omega,by omega,by simp;omega,by omega,hb1,hb5,ap hb2,hb6⟩,by simp;omega,aN t (fun _=>?_) nofun⟩
    rw [CJ (j:=2) (ss:=jI) (ds:=[b5 rk1,aR pl3,bU tn1,aR ct3]) (es:=tn1.map dg) (p:=⟨.leaf,.none⟩) rfl rfl rfl (db _) aV rfl (by rw [length_map];omega)]
    simp [dg]
   ·refine ⟨rk1,pl3,tn1,ct3++[none],⟨by omega,by omega,by omega,by simp;omega,hb1,hb5,hb2,ap hb6⟩,by simp;omega,aN t (fun _=>?_) nofun⟩
    rw [CJ (j:=3) (ss:=jI) (ds:=[b5 rk1,aR pl3,bU tn1,aR ct3]) (es:=ct3.map oD) (p:=⟨.leaf,.none⟩) rfl rfl rfl (db _) aV rfl (by rw [length_map];omega)]
    simp [oD]
  ·rw [decide_eq_false hk] at t
   exact ⟨rk1,pl3,tn1,ct3,⟨by omega,by omega,by omega,by omega,hb1,hb5,hb2,hb6⟩,by omega,aN t nofun fun _=>rfl⟩
 obtain ⟨rk5,pl5,tn5,ct5,B5,i5⟩:∃rk5 pl5 tn5 ct5,wu rk5 pl5 tn5 ct5 900/\bf (aC aj (aw bg (ae 3) (eK (.int 7)))) (jU 1 (ai 3 ak (ab (ae 2) (ab (eK (.int 3)) (ab (eK (.int 4)) af)))) (gG 1)) az (GB w c (bo rk4 pl4 tn4 ct4) X3 X4 X5 x6 x7)=.nx (GB w c (bo rk5 pl5 tn5 ct5) X3 X4 X5 x6 x7):=by
  have t:=kq 7 (bo rk4 pl4 tn4 ct4) x6 x7
  have l1:=B4.l1
  have l2:=B4.l2
  have l3:=B4.l3
  have l4:=B4.l4
  by_cases hk:k=7
  ·rw [decide_eq_true hk] at t
   have ap:∀{α:Type} {P:α->Prop} {l:List (Option α)},(∀z,some z∈l->P z)->∀z,some z∈l.dropLast->P z:=fun h z hz=>h z (List.dropLast_subset _ hz)
   have ne:∀{α:Type} {f:α->D} {l:List α},0<l.length->(l.map f).isEmpty=false:=fun {α f l} h=>by
    cases l with
    | nil=>exact absurd h (by simp)
    | cons a b=>rfl
   rcases (by omega:b=0\/b=1\/b=2\/b=3) with rfl | rfl | rfl | rfl
   ·refine ⟨rk4.dropLast,pl4,tn4,ct4,⟨by simp;omega,by omega,by omega,by omega,ap B4.b1,B4.b2,B4.b3,B4.b4⟩,aN t (fun _=>?_) nofun⟩
    rw [CN (j:=0) (ss:=jI) (ds:=[b5 rk4,aR pl4,bU tn4,aR ct4]) (es:=rk4.map zD) rfl rfl rfl (db _) (ne p1),<-map_dropLast]
    rfl
   ·refine ⟨rk4,pl4.dropLast,tn4,ct4,⟨by omega,by simp;omega,by omega,by omega,B4.b1,ap B4.b2,B4.b3,B4.b4⟩,aN t (fun _=>?_) nofun⟩
    rw [CN (j:=1) (ss:=jI) (ds:=[b5 rk4,aR pl4,bU tn4,aR ct4]) (es:=pl4.map oD) rfl rfl rfl (db _) (ne p2),<-map_dropLast]
    rfl
   ·refine ⟨rk4,pl4,tn4.dropLast,ct4,⟨by omega,by omega,by simp;omega,by omega,B4.b1,B4.b2,ap B4.b3,B4.b4⟩,aN t (fun _=>?_) nofun⟩
    rw [CN (j:=2) (ss:=jI) (ds:=[b5 rk4,aR pl4,bU tn4,aR ct4]) (es:=tn4.map dg) rfl rfl rfl (db _) (ne p3),<-map_dropLast]
    rfl
   ·refine ⟨rk4,pl4,tn4,ct4.dropLast,⟨by omega,by omega,by omega,by simp;omega,B4.b1,B4.b2,B4.b3,ap B4.b4⟩,aN t (fun _=>?_) nofun⟩
    rw [CN (j:=3) (ss:=jI) (ds:=[b5 rk4,aR pl4,bU tn4,aR ct4]) (es:=ct4.map oD) rfl rfl rfl (db _) (ne p4),<-map_dropLast]
    rfl
  ·rw [decide_eq_false hk] at t
   exact ⟨rk4,pl4,tn4,ct4,⟨by omega,by omega,by omega,by omega,B4.b1,B4.b2,B4.b3,B4.b4⟩,aN t nofun fun _=>rfl⟩
 refine ⟨rk5,pl5,tn5,ct5,?_,B5⟩
 have hd:d__law_bent (wG 8 [.leaf,.tup jI,.leaf] [w.enc,bo rk pl tn ct,.int c])=.nx (GB w c (bo rk5 pl5 tn5 ct5) X3 X4 X5 x6 x7):=aA s3 (aA s4 (aA s5 (aA i0 (aA i1 (aA i2 (aA i3 (aA i4 i5)))))))
 unfold m__law_bent qB;rw [hd];rfl
end
end KQ.Y.V
namespace KQ.Y.V
open PySem PySem.Spec L2 T PySem.SeqAt
open PyProof.Rows hiding St
open KC
open KQ.Z (zD b5 zA oh ik Cv Az dh wJ jr jn j4 e7 DD Dx wY rP)
section
variable {w:Wd} {p c:Int} {R:List Nat} {rk:List (Option Int)} {pl ct:List (Option Nat)} {tn:List (Option (Int×Int))}
noncomputable abbrev GF (w:Wd) (p c:Int) (R:List Nat) (x4 x5 x6 x7:Option PV):Ev:=[some ⟨.leaf,w.enc⟩,some ⟨.leaf,.int p⟩,some ⟨.leaf,aJ R⟩,some ⟨.leaf,.int c⟩,x4,x5,x6,x7,none,none]
theorem FJ {n:Nat}:(List.range n).map (fun _=>PyData.none)=((List.range n).map fun _=>(none:Option Nat)).map oD:=by rw [map_map];rfl
theorem FG {n:Nat}:((List.range n).map fun _=>(none:Option Nat)).map oD=((List.range n).map fun _=>(none:Option Int)).map zD:=by rw [map_map,map_map];rfl
theorem FH {n:Nat}:((List.range n).map fun _=>(none:Option Nat)).map oD=((List.range n).map fun _=>(none:Option (Int×Int))).map dg:=by rw [map_map,map_map];rfl
theorem nU (ok:w.Ok):∃ss rk' pl' tn' ct',cS [w.enc,.int p,aJ R,.int c]=.ok ⟨.tup ss,bo rk' pl' tn' ct'⟩/\wu rk' pl' tn' ct' 900:=by
 have h24:=ok.h24
 have ls:=ok.ls
 obtain ⟨F,hF,hFl,hFb⟩:∃F:List Nat,F=w.s.map (fun row=>row.headD 0)/\F.length=w.n/\∀t∈F,t<1000:=by
  refine ⟨_,rfl,by rw [length_map];exact ls,fun t ht=>?_⟩
  obtain ⟨row,hrow,rfl⟩:=List.mem_map.mp ht;obtain ⟨hne,_,hlt⟩:=ok.st row hrow
  cases row with
  | nil=>exact absurd rfl hne
  | cons a b=>have:=hlt a mem_cons_self;show a<1000;omega
 have e4:av .leaf 8 (aK (ah (ae 0) (eK (.int 2)))) aE (ah (ae 8) (eK (.int 0))) (GF w p c R none none none none)=.ok ⟨.lst .leaf,aJ F⟩ (GF w p c R none none none none):=by
  rw [hF,aJ,map_map];refine h9 aJ w.s (fun row=>⟨.leaf,rm (row.headD 0)⟩) (st:=true) (by simp [Wd.enc,cW]) (by simp) rfl (by omega) (fun row hrow=>⟨?_,rfl⟩)
  obtain ⟨hne,_,_⟩:=ok.st row hrow
  cases row with
  | nil=>exact absurd rfl hne
  | cons a b=>exact qP (ds:=(a::b).map rm) (j:=0) (s:=.leaf) (aB (i:=8) (d:=aJ (a::b)) rfl) (aV (d:=.int 0)) (lB (k:=0) (by simp)) rfl rfl
 have s4:ax false 4 (av .leaf 8 (aK (ah (ae 0) (eK (.int 2)))) aE (ah (ae 8) (eK (.int 0)))) (GF w p c R none none none none)=.nx (GF w p c R (some ⟨.leaf,aJ F⟩) none none none):=cV e4 rfl (by simp)
 have n5:F.map (fun _=>PyData.none)=((List.range w.n).map fun _=>(none:Option Nat)).map oD:=by
  rw [<-FJ];apply List.ext_getElem
  ·simp [hFl]
  ·intro i h1 h2
   simp
 have s5:ax true 5 (av .leaf 9 (aK (ae 4)) aE (eK .none)) (GF w p c R (some ⟨.leaf,aJ F⟩) none none none)=.nx (GF w p c R (some ⟨.leaf,aJ F⟩) (some ⟨.lst .leaf,aR ((List.range w.n).map fun _=>none)⟩) none none):=by
  have:=h9 rm F (fun _=>⟨.leaf,.none⟩) (s:=.leaf) (i:=9) (fi:=aK (ae 4)) (fe:=eK .none) (st:=true) (Γ:=GF w p c R (some ⟨.leaf,aJ F⟩) none none none) (cB (s:=.leaf) (aB rfl) wC) (by simp) rfl (by omega) (fun t ht=>⟨rfl,rfl⟩)
  have this:av .leaf 9 (aK (ae 4)) aE (eK .none) (GF w p c R (some ⟨.leaf,aJ F⟩) none none none)=.ok ⟨.lst .leaf,.list (F.map fun _=>PyData.none)⟩ _:=this
  rw [n5] at this;exact t6 this rfl (by simp)
 generalize hN:((List.range w.n).map fun _=>(none:Option Nat))=NN at s5
 have hNl:NN.length=w.n:=by rw [<-hN];simp
 have hNm:∀t,some t∈NN->False:=fun t ht=>by rw [<-hN] at ht;simp at ht
 have l4:∀x5 x6 x7,aY aM (ab (ae 4) af) (GF w p c R (some ⟨.leaf,aJ F⟩) x5 x6 x7)=.ok ⟨.leaf,.int (w.n:Int)⟩ (GF w p c R (some ⟨.leaf,aJ F⟩) x5 x6 x7):=fun x5 x6 x7=>bT (g:=aM) (d:=.int (w.n:Int)) (aH (aB (i:=4) rfl) ay) (by simp [hFl])
 have mm:∀(g:D->D->Option D) (q:Nat->Bool) (x5 x6 x7:Option PV),(∀r,r<w.n->∀o:Int,(∀p',own w p' r=(o==p'))->g (.int o) (.int p)=some (.bool (q r)))->∃M:List (Option Nat),M.length=w.n/\(∀t,some t∈M->t<1000)/\av .leaf 9 (cx (ab (aY aM (ab (ae 4) af)) af)) aE (fm (aC aj (aw g (ah (ah (ae 0) (eK (.int 0))) (ae 9)) (ae 1))) (ah (ae 4) (ae 9)) (eK .none)) (GF w p c R (some ⟨.leaf,aJ F⟩) x5 x6 x7)=.ok ⟨.lst .leaf,aR M⟩ (GF w p c R (some ⟨.leaf,aJ F⟩) x5 x6 x7):=fun g q x5 x6 x7 hg=>by
  refine ⟨(List.range w.n).map fun r=>if q r then some (F.getD r 0) else none,by simp,fun t ht=>?_,?_⟩
  ·obtain ⟨r,hr,e⟩:=List.mem_map.mp ht
   have hr:=List.mem_range.mp hr
   split at e
   ·cases e
    refine hFb _ ?_
    rw [getD_eq_getElem?_getD,getElem?_eq_getElem (by omega)]
    exact getElem_mem _
   ·cases e
  ·rw [aR,map_map]
   refine h9 rm (List.range w.n) (fun r=>⟨.leaf,oD (if q r then some (F.getD r 0) else none)⟩) (st:=true) (gp (s:=.leaf) (n:=w.n) (by omega) (aH (l4 _ _ _) ay)) (by simp) rfl (by simp;omega) (fun r hr=>⟨?_,by split<;>rfl⟩)
   have hr:=List.mem_range.mp hr
   obtain ⟨o,eo,ho⟩:=j1 ok (Γ:=(GF w p c R (some ⟨.leaf,aJ F⟩) x5 x6 x7).set 9 (some ⟨.leaf,rm r⟩)) (i:=0) (fb:=ae 9) (s:=.leaf) (r:=r) rfl (aB rfl) hr
   have t:=b6 (s:=.leaf) (aI (g:=g) eo (aB (i:=1) rfl) (hg r hr o ho))
   have i4:ah (ae 4) (ae 9) ((GF w p c R (some ⟨.leaf,aJ F⟩) x5 x6 x7).set 9 (some ⟨.leaf,rm r⟩))=.ok ⟨.leaf,rm (F.getD r 0)⟩ ((GF w p c R (some ⟨.leaf,aJ F⟩) x5 x6 x7).set 9 (some ⟨.leaf,rm r⟩)):=qP (ds:=F.map rm) (j:=r) (s:=.leaf) (aB (i:=4) (d:=aJ F) rfl) (aB (i:=9) (d:=rm r) rfl) (lB (by rw [length_map];omega)) (by rw [getElem?_map,getElem?_eq_getElem (by omega),getD_eq_getElem?_getD,getElem?_eq_getElem (by omega)];rfl) rfl
   cases hq:q r with
   | true=>rw [hq] at t;exact e7 (t:=true) t (fun _=>i4) nofun
   | false=>rw [hq] at t;exact e7 (t:=false) t nofun (fun _=>rfl)
 obtain ⟨M,hMl,hMb,eM⟩:=mm bg (fun r=>own w p r) (some ⟨.lst .leaf,aR NN⟩) none none (fun r hr o ho=>by rw [KC.eq_int,ho p])
 obtain ⟨M2,hM2l,hM2b,eM2⟩:=mm bK (fun r=>!own w p r) (some ⟨.lst .leaf,aR NN⟩) (some ⟨.leaf,aR M⟩) none (fun r hr o ho=>by rw [KC.ne_int,ho p])
 have dd:=rg (c:=c) (k:=34) (b:=2) (by omega) (by omega) (by omega) (by omega)
 have t:=b6 (s:=.leaf) (aI (Γ:=GF w p c R (some ⟨.leaf,aJ F⟩) (some ⟨.lst .leaf,aR NN⟩) (some ⟨.leaf,aR M⟩) (some ⟨.leaf,aR M2⟩)) (g:=bg) (cC (n:=3) (aH (aB (i:=3) rfl) (aH (aV (d:=.int 34)) (aH (aV (d:=.int 2)) ay))) dd rfl rfl) (aV (d:=.int 0)) KC.eq_int)
 have lo:=AW (s:=.view) (ds:=NN.map oD) (Γ:=GF w p c R (some ⟨.leaf,aJ F⟩) (some ⟨.lst .leaf,aR NN⟩) (some ⟨.leaf,aR M⟩) (some ⟨.leaf,aR M2⟩)) (ou (i:=5) rfl) KQ.Z.ok_rks
 cases hz:df c 34 2==0 with
 | true=>
  rw [hz] at t;have c0:av .leaf 9 (aK (ae 4)) aE (bF (ab (eK (.int 0)) (ab (eK (.int 0)) af))) (GF w p c R (some ⟨.leaf,aJ F⟩) none (some ⟨.leaf,aR M⟩) (some ⟨.leaf,aR M2⟩))=.ok ⟨.lst .leaf,bU (F.map fun _=>some (0,0))⟩ (GF w p c R (some ⟨.leaf,aJ F⟩) none (some ⟨.leaf,aR M⟩) (some ⟨.leaf,aR M2⟩)):=by
   rw [bU,map_map];exact h9 rm F (fun _=>⟨.tup [.leaf,.leaf],.tuple [.int 0,.int 0]⟩) (st:=true) (cB (s:=.leaf) (aB rfl) wC) (by simp) rfl (by omega) (fun t ht=>⟨dv (aH aV (aH aV ay)) rfl rfl,rfl⟩)
  refine ⟨[.lst .leaf,.lst .leaf,.lst .leaf,.leaf],(List.range w.n).map fun _=>none,NN,F.map fun _=>some (0,0),M2,aW (aA s4 (aA s5 (aA (cV eM rfl (by simp)) (aA (cV eM2 rfl (by simp)) (d8 (aN t (fun _=>aS (Γ1:=GF w p c R (some ⟨.leaf,aJ F⟩) none (some ⟨.leaf,aR M⟩) (some ⟨.leaf,aR M2⟩)) (p:=⟨.tup [.lst .leaf,.lst .leaf,.lst .leaf,.leaf],bo ((List.range w.n).map fun _=>none) NN (F.map fun _=>some (0,0)) M2⟩) ?_ rfl) nofun)))))),⟨by simp;omega,by omega,by simp;omega,by omega,fun z hz=>by simp at hz,fun z hz=>(hNm z hz).elim,fun x hx=>?_,hM2b⟩⟩
  ·rw [bo,b5,<-FG,hN]
   have hl:ab (ia (ae 5)) (ab (bB 5) (ab (av .leaf 9 (aK (ae 4)) aE (bF (ab (eK (.int 0)) (ab (eK (.int 0)) af)))) (ab (ae 7) af))) (GF w p c R (some ⟨.leaf,aJ F⟩) (some ⟨.lst .leaf,aR NN⟩) (some ⟨.leaf,aR M⟩) (some ⟨.leaf,aR M2⟩))=.ok [⟨.lst .leaf,aR NN⟩,⟨.lst .leaf,aR NN⟩,⟨.lst .leaf,bU (F.map fun _=>some (0,0))⟩,⟨.leaf,aR M2⟩] (GF w p c R (some ⟨.leaf,aJ F⟩) none (some ⟨.leaf,aR M⟩) (some ⟨.leaf,aR M2⟩)):=aH lo (aH (qQ (p:=⟨.lst .leaf,aR NN⟩) rfl) (aH c0 (aH (aB rfl) ay)))
   exact dv hl rfl rfl
  ·obtain ⟨_,_,e⟩:=List.mem_map.mp hx
   cases e;decide
 | false=>
  rw [hz] at t;have c0:av .leaf 9 (cx (ab (aY aM (ab (ae 4) af)) af)) aE (fm (aC aj (aw (bV false) (ae 9) (ae 2))) (eK (.int 0)) (eK (.int 1))) (GF w p c R (some ⟨.leaf,aJ F⟩) (some ⟨.lst .leaf,aR NN⟩) (some ⟨.leaf,aR M⟩) (some ⟨.leaf,aR M2⟩))=.ok ⟨.lst .leaf,b5 ((List.range w.n).map fun r=>some (if R.contains r then 0 else 1))⟩ (GF w p c R (some ⟨.leaf,aJ F⟩) (some ⟨.lst .leaf,aR NN⟩) (some ⟨.leaf,aR M⟩) (some ⟨.leaf,aR M2⟩)):=by
   rw [b5,map_map];refine h9 rm (List.range w.n) (fun r=>⟨.leaf,.int (if R.contains r then 0 else 1)⟩) (st:=true) (gp (s:=.leaf) (n:=w.n) (by omega) (aH (l4 _ _ _) ay)) (by simp) rfl (by simp;omega) (fun r hr=>⟨?_,rfl⟩)
   have tt:=b6 (s:=.leaf) (aI (Γ:=(GF w p c R (some ⟨.leaf,aJ F⟩) (some ⟨.lst .leaf,aR NN⟩) (some ⟨.leaf,aR M⟩) (some ⟨.leaf,aR M2⟩)).set 9 (some ⟨.leaf,rm r⟩)) (g:=bV false) (aB (i:=9) (d:=rm r) rfl) (aB (i:=2) rfl) t5)
   cases hq:R.contains r with
   | true=>rw [hq] at tt;exact e7 (t:=true) tt (fun _=>rfl) nofun
   | false=>rw [hq] at tt;exact e7 (t:=false) tt nofun (fun _=>rfl)
  refine ⟨[.lst .leaf,.leaf,.lst .leaf,.lst .leaf],(List.range w.n).map fun r=>some (if R.contains r then 0 else 1),M,(List.range w.n).map fun _=>none,NN,aW (aA s4 (aA s5 (aA (cV eM rfl (by simp)) (aA (cV eM2 rfl (by simp)) (aA (aN t nofun fun _=>rfl) (aS (Γ1:=GF w p c R (some ⟨.leaf,aJ F⟩) none (some ⟨.leaf,aR M⟩) (some ⟨.leaf,aR M2⟩)) (p:=⟨.tup [.lst .leaf,.leaf,.lst .leaf,.lst .leaf],bo ((List.range w.n).map fun r=>some (if R.contains r then 0 else 1)) M ((List.range w.n).map fun _=>none) NN⟩) ?_ rfl)))))),⟨by simp;omega,by omega,by simp;omega,by omega,fun z hz=>?_,hMb,fun z hz=>by simp at hz,fun z hz=>(hNm z hz).elim⟩⟩
  ·rw [bo,bU,<-FH,hN]
   have hl:ab (av .leaf 9 (cx (ab (aY aM (ab (ae 4) af)) af)) aE (fm (aC aj (aw (bV false) (ae 9) (ae 2))) (eK (.int 0)) (eK (.int 1)))) (ab (ae 6) (ab (ia (ae 5)) (ab (bB 5) af))) (GF w p c R (some ⟨.leaf,aJ F⟩) (some ⟨.lst .leaf,aR NN⟩) (some ⟨.leaf,aR M⟩) (some ⟨.leaf,aR M2⟩))=.ok [⟨.lst .leaf,b5 ((List.range w.n).map fun r=>some (if R.contains r then 0 else 1))⟩,⟨.leaf,aR M⟩,⟨.lst .leaf,aR NN⟩,⟨.lst .leaf,aR NN⟩] (GF w p c R (some ⟨.leaf,aJ F⟩) none (some ⟨.leaf,aR M⟩) (some ⟨.leaf,aR M2⟩)):=aH c0 (aH (aB rfl) (aH lo (aH (qQ (p:=⟨.lst .leaf,aR NN⟩) rfl) ay)))
   exact dv hl rfl rfl
  ·obtain ⟨_,_,e⟩:=List.mem_map.mp hz
   cases e;split<;>decide
noncomputable abbrev GL (xs:List D) (w:Wd) (p c:Int) (R:List Nat) (x6 x7 x8 x9 x10 x11 x12 x13 x14:Option PV):Ev:=[some ⟨.leaf,.list xs⟩,some ⟨.leaf,w.enc⟩,some ⟨.leaf,.int (w.n:Int)⟩,some ⟨.leaf,.int c⟩,some ⟨.leaf,.int p⟩,some ⟨.leaf,aJ R⟩,x6,x7,x8,x9,x10,x11,x12,x13,x14,none]
noncomputable def yd (tn:List (Option (Nat×Nat))):List (Option (Int×Int)):=tn.map fun o=>o.map fun x=>((x.1:Int),(x.2:Int))
theorem yc {tn:List (Option (Nat×Nat))}:d7 tn=bU (yd tn):=by
 unfold d7 bU yd;rw [map_map];congr 1
 refine List.map_congr_left fun o _=>?_
 cases o<;>rfl
theorem Ho (ok:w.Ok) {tx:Str} (h:PyData.strOk tx=true):shaped (.list [w.enc,aJ R,.str tx])=true:=by
 have h1:=zV ok
 have h2:=zW (xs:=R.map rm) fun a ha=>by
  obtain ⟨t,_,e⟩:=List.mem_map.mp ha;exact ⟨(t:Int),e.symm⟩
 have d1:=h1.2
 have e1:=h1.1
 generalize w.enc=C at e1 d1
 simp only [shaped,aJ,PyData.canLay0,PyData.canLayAll0,PyData.depth,PyData.depthAll,e1,h2.1,h2.2,h,Bool.and_self,Bool.true_and]
 exact decide_eq_true (by omega)
noncomputable abbrev tB:FS:=(ao (ax false 14 (ai 4 bJ (ab (ae 1) (ab (ae 4) (ab (ae 5) (ab (ae 6) af))))))
  (bf (b7 (bu (aC aZ (dW "bool" (ae 14)))) (b7 (aC aj (aw bK (ae 14) (ae 8))) (aC aj (aw bK (aP .leaf (ab (ae 1) (ab (ae 5) (ab (aY cH (ab (ae 6) af)) af)))) (ae 7))))) (aG (eK (.bool false))) az))
theorem zl {xs:List D} (ok:w.Ok) (hp:p=0\/p=1) (hR:Std w.n R) (B:wu rk pl tn ct 900) {J:Bool} (hJ:qh w p R rk pl tn ct=J) {tx:Str} (rep:cH [bo rk pl tn ct]=some (.str tx)) (okt:PyData.strOk tx=true) {x9 x10 x11 x12 x13 x14:Option PV} :
  tB (GL xs w p c R (some ⟨.leaf,bo rk pl tn ct⟩) (some ⟨.leaf,.list [w.enc,aJ R,.str tx]⟩) (some ⟨.leaf,.bool J⟩) x9 x10 x11 x12 x13 x14)=.nx (GL xs w p c R (some ⟨.leaf,bo rk pl tn ct⟩) (some ⟨.leaf,.list [w.enc,aJ R,.str tx]⟩) (some ⟨.leaf,.bool J⟩) x9 x10 x11 x12 x13 (some ⟨.leaf,.bool J⟩)):=by
 have l2:=B.l2
 have l4:=B.l4
 have es:=vP (rk:=rk) (tn:=tn) ok hp hR (pl:=pl) (ct:=ct) (by omega) (by omega)
 rw [hJ] at es;have s1:ax false 14 (ai 4 bJ (ab (ae 1) (ab (ae 4) (ab (ae 5) (ab (ae 6) af))))) (GL xs w p c R (some ⟨.leaf,bo rk pl tn ct⟩) (some ⟨.leaf,.list [w.enc,aJ R,.str tx]⟩) (some ⟨.leaf,.bool J⟩) x9 x10 x11 x12 x13 x14)=.nx (GL xs w p c R (some ⟨.leaf,bo rk pl tn ct⟩) (some ⟨.leaf,.list [w.enc,aJ R,.str tx]⟩) (some ⟨.leaf,.bool J⟩) x9 x10 x11 x12 x13 (some ⟨.leaf,.bool J⟩)):=cV (cC (aH (aB rfl) (aH (aB rfl) (aH (aB rfl) (aH (aB rfl) ay)))) es rfl rfl) rfl (by simp)
 have t:=dQ (eL (b:=true) (dP (s:=.leaf) (ox (c := "bool") (b:=true) (aB (Γ:=GL xs w p c R (some ⟨.leaf,bo rk pl tn ct⟩) (some ⟨.leaf,.list [w.enc,aJ R,.str tx]⟩) (some ⟨.leaf,.bool J⟩) x9 x10 x11 x12 x13 (some ⟨.leaf,.bool J⟩)) (i:=14) rfl) rfl))) (dQ (b6 (s:=.leaf) (aI (g:=bK) (aB (i:=14) rfl) (aB (i:=8) rfl) (Ge J J))) (b6 (s:=.leaf) (aI (g:=bK) (pj (s:=.leaf) (aH (aB (i:=1) rfl) (aH (aB (i:=5) rfl) (aH (bT (g:=cH) (aH (aB (i:=6) rfl) ay) rep) ay))) rfl rfl rfl) (aB (i:=7) rfl) (sN (Ho ok okt)))))
 rw [bne_self_eq_false] at t;exact aA s1 (aN t nofun fun _=>rfl)
end
noncomputable def EO:Option (Int×Int)->PV
 | none=>⟨.leaf,.none⟩
 | some x=>⟨.tup [.leaf,.leaf],.tuple [.int (3*x.1+1),.int (2*x.2)]⟩
theorem vp {rk:List (Option Nat)} {n:Nat} (hl:rk.length=n) (h:∀r k,r<n->aU rk r=some k->k<n) (h24:n<=24):∀z,some z∈wY rk->0<=z/\z<24:=fun z hz=>by
 unfold wY at hz;obtain ⟨o,ho,e⟩:=List.mem_map.mp hz
 cases o with
 | none=>cases e
 | some k=>
  cases e;obtain ⟨i,hi,ei⟩:=getElem_of_mem ho;have:=h i k (by omega) (by unfold aU;rw [getD_eq_getElem?_getD,getElem?_eq_getElem hi,ei];rfl)
  show 0<=(k:Int)/\(k:Int)<24
  omega
theorem vq {tn:List (Option (Nat×Nat))} {n:Nat} (h:∀r a j,dj tn r=some (a,j)->a<n/\j<n) (h24:n<=24):∀x,some x∈yd tn->(0<=x.1/\x.1<24)/\0<=x.2/\x.2<24:=fun x hx=>by
 unfold yd at hx;obtain ⟨o,ho,e⟩:=List.mem_map.mp hx
 cases o with
 | none=>cases e
 | some v=>
  obtain ⟨a,j⟩:=v
  cases e;obtain ⟨i,hi,ei⟩:=getElem_of_mem ho;have:=h i a j (by unfold dj;rw [getD_eq_getElem?_getD,getElem?_eq_getElem hi,ei];rfl)
  dsimp only;omega
theorem sP {w:Wd} (ok:w.Ok) {q:Int} {pl:List (Option Nat)} (h:bZ w q pl):∀t,some t∈pl->t<1000:=fun t ht=>by
 have h24:=ok.h24
 obtain ⟨i,hi,ei⟩:=getElem_of_mem ht;have:=ok.stp_lt (h.st i t (by rw [<-h.len];exact hi) (by unfold aU;rw [getD_eq_getElem?_getD,getElem?_eq_getElem hi,ei];rfl)).2
 omega
theorem vU {xs:List D} (hx:hU xs):m_law [.list xs]=.ok ⟨.leaf,.bool true⟩:=by
 obtain ⟨n,os,ms,ss,e0,g,h1,h6⟩:=qr hx (at':=0) (lim:=6) (by omega) (by omega) (by omega)
 obtain ⟨w,ok,ew,en⟩:=Bf g h1 (by omega)
 rw [<-ew] at e0;have h24:=ok.h24
 obtain ⟨c,hc⟩:=AV hx (k:=8) (by omega)
 obtain ⟨c7,hc7⟩:=AV hx (k:=7) (by omega)
 obtain ⟨c9,hc9⟩:=AV hx (k:=9) (by omega)
 have dp:=rg (c:=c) (k:=30) (b:=2) (by omega) (by omega) (by omega) (by omega)
 have hp:=Gb (c:=c) (k:=30) (by omega) (by omega)
 generalize df c 30 2=p at dp hp
 have d31:=rg (c:=c) (k:=31) (b:=2) (by omega) (by omega) (by omega) (by omega)
 have d33:=rg (c:=c) (k:=33) (b:=4) (by omega) (by omega) (by omega) (by omega)
 have d32:=rg (c:=c) (k:=32) (b:=9) (by omega) (by omega) (by omega) (by omega)
 obtain ⟨R0,er0,sR0⟩:=j9 (c:=c7) (n:=w.n) h24
 obtain ⟨R1,er1,sR1⟩:=j9 (c:=c9) (n:=w.n) h24
 obtain ⟨rk0,tn0,L,ea,A,Rt,br,bt⟩:=nW ok hp sR0;have po:=jX (w:=w) (p:=p) (sd:=vi w rk0) ze
 have pq:=jX (w:=w) (p:=1-p) (sd:=zS w tn0) zR
 rw [aD,rP,yc] at ea;have mz:=vp Rt.len br h24
 have mt:=vq bt h24
 have hl0:(wY rk0).length=w.n:=by unfold wY;rw [length_map];exact Rt.len
 have ht0:(yd tn0).length=w.n:=by unfold yd;rw [length_map];exact A.len
 have mp:=sP ok po
 have mq:=sP ok pq
 have hm0:=po.len
 have hc0:=pq.len
 generalize wY rk0=za at ea hl0 mz
 generalize yd tn0=ta at ea ht0 mt
 generalize cX w p (vi w rk0)=pa at ea hm0 mp
 generalize cX w (1-p) (zS w tn0)=ca at ea hc0 mq
 have dw:∀{k b v:Int} {R:List Nat} {x6 x7 x8 x9 x10 x11 x12 x13 x14:Option PV},ak [.int c,.int k,.int b]=.ok ⟨.leaf,.int v⟩->aC aj (aw bg (ai 3 ak (ab (ae 3) (ab (eK (.int k)) (ab (eK (.int b)) af)))) (eK (.int 1))) (GL xs w p c R x6 x7 x8 x9 x10 x11 x12 x13 x14)=.ok (v==1) (GL xs w p c R x6 x7 x8 x9 x10 x11 x12 x13 x14):=fun h=>b6 (s:=.leaf) (aI (g:=bg) (cC (aH (aB rfl) (aH aV (aH aV ay))) h rfl rfl) (aV (d:=.int 1)) KC.eq_int)
 obtain ⟨zb,tb,hlb,htb,mzb,mtb,i1⟩:∃(zb:List (Option Int)) (tb:List (Option (Int×Int))),zb.length=w.n/\tb.length=w.n/\(∀z,some z∈zb->z.natAbs<100000)/\(∀x,some x∈tb->x.1.natAbs<100000/\x.2.natAbs<100000)/\bf (aC aj (aw bg (ai 3 ak (ab (ae 3) (ab (eK (.int 31)) (ab (eK (.int 2)) af)))) (eK (.int 1)))) (ao (ax true 10 (av .leaf 15 (aK (ae 10)) aE (fm (aC aj (aw (aO false) (ae 15) (eK .none))) (ae 15) (aw cD (eK (.int 2)) (ae 15)))))
   (je 12 (ax true 12 (av .leaf 9 (aK (ae 12)) aE (fm (aC aj (aw (aO false) (ae 9) (eK .none))) (ae 9) (bF (ab (aw bc (aw cD (eK (.int 3)) (ah (ae 9) (eK (.int 0)))) (eK (.int 1))) (ab (aw cD (eK (.int 2)) (ah (ae 9) (eK (.int 1)))) af)))))))) az (GL xs w p c R0 none none none none (some ⟨.lst .leaf,b5 za⟩) (some ⟨.lst .leaf,aR pa⟩) (some ⟨.lst .leaf,bU ta⟩) (some ⟨.lst .leaf,aR ca⟩) none)=.nx (GL xs w p c R0 none none none none (some ⟨.lst .leaf,b5 zb⟩) (some ⟨.lst .leaf,aR pa⟩) (some ⟨.lst .leaf,bU tb⟩) (some ⟨.lst .leaf,aR ca⟩) none):=by
  have t:=dw (R:=R0) (x6:=none) (x7:=none) (x8:=none) (x9:=none) (x10:=some ⟨.lst .leaf,b5 za⟩) (x11:=some ⟨.lst .leaf,aR pa⟩) (x12:=some ⟨.lst .leaf,bU ta⟩) (x13:=some ⟨.lst .leaf,aR ca⟩) (x14:=none) d31
  cases hz:df c 31 2==1 with
  | false=>
   rw [hz] at t;exact ⟨za,ta,hl0,ht0,fun z h=>by have:=mz z h;omega,fun x h=>by have:=mt x h;omega,aN t nofun fun _=>rfl⟩
  | true=>
   rw [hz] at t;have cm:av .leaf 15 (aK (ae 10)) aE (fm (aC aj (aw (aO false) (ae 15) (eK .none))) (ae 15) (aw cD (eK (.int 2)) (ae 15))) (GL xs w p c R0 none none none none (some ⟨.lst .leaf,b5 za⟩) (some ⟨.lst .leaf,aR pa⟩) (some ⟨.lst .leaf,bU ta⟩) (some ⟨.lst .leaf,aR ca⟩) none)=.ok ⟨.lst .leaf,b5 (za.map fun o=>o.map fun z=>2*z)⟩ (GL xs w p c R0 none none none none (some ⟨.lst .leaf,b5 za⟩) (some ⟨.lst .leaf,aR pa⟩) (some ⟨.lst .leaf,bU ta⟩) (some ⟨.lst .leaf,aR ca⟩) none):=by
    have ez:b5 (za.map fun o=>o.map fun z=>2*z)=.list (za.map fun o=>zD (o.map fun z=>2*z)):=by rw [b5,map_map];rfl
    rw [ez];exact h9 zD za (fun o=>⟨.leaf,zD (o.map fun z=>2*z)⟩) (st:=false) (cB (s:=.view) (ou rfl) DD) (by simp) rfl (by omega) fun o ho=>⟨by
     cases o with
     | none=>exact e7 (t:=true) (b6 (s:=.leaf) (aI (g:=aO false) (d:=.bool true) (aB (i:=15) rfl) (aV (d:=.none)) rfl)) (fun _=>aB rfl) nofun
     | some k=>exact e7 (t:=false) (b6 (s:=.leaf) (aI (g:=aO false) (d:=.bool false) (aB (i:=15) rfl) (aV (d:=.none)) rfl)) nofun (fun _=>aI (g:=cD) (aV (d:=.int 2)) (aB (i:=15) (d:=.int k) rfl) (iF (by omega) (by omega))),by cases o<;>rfl⟩
   have ct:av .leaf 9 (aK (ae 12)) aE (fm (aC aj (aw (aO false) (ae 9) (eK .none))) (ae 9) (bF (ab (aw bc (aw cD (eK (.int 3)) (ah (ae 9) (eK (.int 0)))) (eK (.int 1))) (ab (aw cD (eK (.int 2)) (ah (ae 9) (eK (.int 1)))) af)))) (GL xs w p c R0 none none none none (some ⟨.lst .leaf,b5 (za.map fun o=>o.map fun z=>2*z)⟩) (some ⟨.lst .leaf,aR pa⟩) (some ⟨.leaf,bU ta⟩) (some ⟨.lst .leaf,aR ca⟩) none)=.ok ⟨.lst .leaf,bU (ta.map fun o=>o.map fun x=>(3*x.1+1,2*x.2))⟩ (GL xs w p c R0 none none none none (some ⟨.lst .leaf,b5 (za.map fun o=>o.map fun z=>2*z)⟩) (some ⟨.lst .leaf,aR pa⟩) (some ⟨.leaf,bU ta⟩) (some ⟨.lst .leaf,aR ca⟩) none):=by
    have:=h9 dg ta EO (s:=.leaf) (i:=9) (fi:=aK (ae 12)) (fe:=fm (aC aj (aw (aO false) (ae 9) (eK .none))) (ae 9) (bF (ab (aw bc (aw cD (eK (.int 3)) (ah (ae 9) (eK (.int 0)))) (eK (.int 1))) (ab (aw cD (eK (.int 2)) (ah (ae 9) (eK (.int 1)))) af)))) (st:=true) (Γ:=GL xs w p c R0 none none none none (some ⟨.lst .leaf,b5 (za.map fun o=>o.map fun z=>2*z)⟩) (some ⟨.lst .leaf,aR pa⟩) (some ⟨.leaf,bU ta⟩) (some ⟨.lst .leaf,aR ca⟩) none) (cB (s:=.leaf) (aB rfl) rfl) (by simp) rfl (by omega) (fun o ho=>⟨by
     cases o with
     | none=>exact e7 (t:=true) (b6 (s:=.leaf) (aI (g:=aO false) (d:=.bool true) (aB (i:=9) rfl) (aV (d:=.none)) rfl)) (fun _=>aB rfl) nofun
     | some x=>
      obtain ⟨a,j⟩:=x;exact e7 (t:=false) (b6 (s:=.leaf) (aI (g:=aO false) (d:=.bool false) (aB (i:=9) rfl) (aV (d:=.none)) rfl)) nofun (fun _=>dv (aH (aI (g:=bc) (aI (g:=cD) (aV (d:=.int 3)) (fG (ds:=[.int a,.int j]) (j:=0) (s:=.leaf) (s2:=.leaf) (aB (i:=9) rfl) (aV (d:=.int 0)) rfl rfl rfl) (iF (by omega) (by omega))) (aV (d:=.int 1)) KC.add_int') (aH (aI (g:=cD) (aV (d:=.int 2)) (fG (ds:=[.int a,.int j]) (j:=1) (s:=.leaf) (s2:=.leaf) (aB (i:=9) rfl) (aV (d:=.int 1)) rfl rfl rfl) (iF (by omega) (by omega))) ay)) rfl rfl),by cases o<;>rfl⟩)
    have ez:∀o:Option (Int×Int),dg (o.map fun x=>(3*x.1+1,2*x.2))=(EO o).d:=fun o=>by cases o<;>rfl
    have e2:bU (ta.map fun o=>o.map fun x=>(3*x.1+1,2*x.2))=.list (ta.map fun o=>(EO o).d):=by
     show PyData.list _=_
     rw [map_map];exact congrArg PyData.list (List.map_congr_left fun o _=>ez o)
    rw [e2];exact this
   refine ⟨za.map fun o=>o.map fun z=>2*z,ta.map fun o=>o.map fun x=>(3*x.1+1,2*x.2),by rw [length_map];exact hl0,by rw [length_map];exact ht0,fun z h=>?_,fun x h=>?_,aN t (fun _=>aA (t6 cm rfl (by simp)) (wV (i:=12) (p:=⟨.lst .leaf,bU ta⟩) rfl (t6 ct rfl (by simp)))) nofun⟩
   ·obtain ⟨o,ho,e⟩:=List.mem_map.mp h
    cases o with
    | none=>cases e
    | some y=>
     cases e;have:=mz y ho
     show (2*y).natAbs<100000
     omega
   ·obtain ⟨o,ho,e⟩:=List.mem_map.mp h
    cases o with
    | none=>cases e
    | some y=>
     cases e;have:=mt y ho
     show (3*y.1+1).natAbs<100000/\(2*y.2).natAbs<100000
     omega
 have Bb:wu zb pa tb ca 800:=⟨by omega,by omega,by omega,by omega,mzb,mp,mtb,mq⟩
 have i2:ax true 6 (bF (ab (bB 10) (ab (bB 11) (ab (bB 12) (ab (bB 13) af))))) (GL xs w p c R0 none none none none (some ⟨.lst .leaf,b5 zb⟩) (some ⟨.lst .leaf,aR pa⟩) (some ⟨.lst .leaf,bU tb⟩) (some ⟨.lst .leaf,aR ca⟩) none)=.nx (GL xs w p c R0 (some ⟨.tup jI,bo zb pa tb ca⟩) none none none none none none none none):=t6 (dv (aH (qQ (p:=⟨.lst .leaf,b5 zb⟩) rfl) (aH (qQ (p:=⟨.lst .leaf,aR pa⟩) rfl) (aH (qQ (p:=⟨.lst .leaf,bU tb⟩) rfl) (aH (qQ (p:=⟨.lst .leaf,aR ca⟩) rfl) ay)))) rfl rfl) rfl (by simp)
 obtain ⟨sc,zc,pc,tc,cc,Bc,i3⟩:∃(sc:List Sh) (zc:List (Option Int)) (pc:List (Option Nat)) (tc:List (Option (Int×Int))) (cc:List (Option Nat)),wu zc pc tc cc 900/\bf (aC aj (aw bg (ai 3 ak (ab (ae 3) (ab (eK (.int 33)) (ab (eK (.int 4)) af)))) (eK (.int 1)))) (ax true 6 (ai 4 cS (ab (ae 1) (ab (ae 4) (ab (ae 5) (ab (ae 3) af)))))) (gH [1,6,3] [.leaf,.tup [.lst .leaf,.lst .leaf,.lst .leaf,.lst .leaf],.leaf] m__law_bent) (GL xs w p c R0 (some ⟨.tup jI,bo zb pa tb ca⟩) none none none none none none none none)=.nx (GL xs w p c R0 (some ⟨.tup sc,bo zc pc tc cc⟩) none none none none none none none none):=by
  have t:=dw (R:=R0) (x6:=some ⟨.tup jI,bo zb pa tb ca⟩) (x7:=none) (x8:=none) (x9:=none) (x10:=none) (x11:=none) (x12:=none) (x13:=none) (x14:=none) d33
  cases hz:df c 33 4==1 with
  | false=>
   rw [hz] at t;obtain ⟨zc,pc,tc,cc,ed,Bc⟩:=qz (c:=c) ok hlb hm0 htb hc0 Bb
   refine ⟨jI,zc,pc,tc,cc,Bc,aN t nofun fun _=>?_⟩
   unfold gH;have eg:nL [1,6,3] (GL xs w p c R0 (some ⟨.tup jI,bo zb pa tb ca⟩) none none none none none none none none)=some [⟨.leaf,w.enc⟩,⟨.tup jI,bo zb pa tb ca⟩,⟨.leaf,.int c⟩]:=rfl
   rw [eg];have eo:vk [.leaf,.tup [.lst .leaf,.lst .leaf,.lst .leaf,.lst .leaf],.leaf] [⟨.leaf,w.enc⟩,⟨.tup jI,bo zb pa tb ca⟩,⟨.leaf,.int c⟩]=true:=rfl
   simp only [eo,if_true,map_cons,List.map_nil]
   rw [ed];rfl
  | true=>
   rw [hz] at t;obtain ⟨sc,zc,pc,tc,cc,ed,Bc⟩:=nU (p:=p) (c:=c) (R:=R0) ok
   exact ⟨sc,zc,pc,tc,cc,Bc,aN t (fun _=>t6 (cC (aH (aB rfl) (aH (aB rfl) (aH (aB rfl) (aH (aB rfl) ay)))) ed rfl rfl) rfl (by simp)) nofun⟩
 obtain ⟨R,hR,i4⟩:∃R,Std w.n R/\bf (aC aj (aw bg (ai 3 ak (ab (ae 3) (ab (eK (.int 32)) (ab (eK (.int 9)) af)))) (eK (.int 1)))) (ax false 5 (ai 2 m__law_rooms (ab (ai 2 aF (ab (ae 0) (ab (eK (.int 9)) af))) (ab (ae 2) af)))) az (GL xs w p c R0 (some ⟨.tup sc,bo zc pc tc cc⟩) none none none none none none none none)=.nx (GL xs w p c R (some ⟨.tup sc,bo zc pc tc cc⟩) none none none none none none none none):=by
  have t:=dw (R:=R0) (x6:=some ⟨.tup sc,bo zc pc tc cc⟩) (x7:=none) (x8:=none) (x9:=none) (x10:=none) (x11:=none) (x12:=none) (x13:=none) (x14:=none) d32
  cases hz:df c 32 9==1 with
  | false=>
   rw [hz] at t;exact ⟨R0,sR0,aN t nofun fun _=>rfl⟩
  | true=>
   rw [hz] at t;exact ⟨R1,sR1,aN t (fun _=>cV (cC (aH (cC (aH (aB rfl) (aH aV ay)) hc9 rfl rfl) (aH (aB rfl) ay)) er1 rfl rfl) rfl (by simp)) nofun⟩
 obtain ⟨J,hJ⟩:∃J,qh w p R zc pc tc cc=J:=⟨_,rfl⟩
 obtain ⟨rep,rzl⟩:=Bv Bc;obtain ⟨tx,htx⟩:∃tx,(bo zc pc tc cc).shown=tx:=⟨_,rfl⟩
 have okt:PyData.strOk tx=true:=by rw [<-htx];exact j2 _ rzl
 rw [htx] at rep;clear rzl htx;have eh:=qx (T:=R) (rk:=zc) (pl:=pc) (tn:=tc) (ct:=cc) ok hp (by have:=Bc.l1;omega) (by have:=Bc.l2;omega) (by have:=Bc.l4;omega)
 rw [hJ] at eh;obtain ⟨Γ',ef,y9,y14,hΓ⟩:=j8 rm (i:=9) (body:=tB) (Inv:=fun _ Γ=>∃x9 x14,Γ=GL xs w p c R (some ⟨.leaf,bo zc pc tc cc⟩) (some ⟨.leaf,.list [w.enc,aJ R,.str tx]⟩) (some ⟨.leaf,.bool J⟩) x9 none none none none x14) (fun r cg Γ ⟨x9,x14,e⟩=>by
  subst e;exact ⟨by simp,_,zl (x9:=some ⟨.leaf,rm r⟩) ok hp hR Bc hJ rep okt,_,_,rfl⟩) (List.range 2) (GL xs w p c R (some ⟨.leaf,bo zc pc tc cc⟩) (some ⟨.leaf,.list [w.enc,aJ R,.str tx]⟩) (some ⟨.leaf,.bool J⟩) none none none none none none) ⟨none,none,rfl⟩
 subst hΓ;refine aW ?_
 refine aA (cV (cC (aH (aB rfl) (aH aV (aH aV ay))) e0 rfl rfl) rfl (by simp [bw])) ?_
 refine aA (cV (wQ ok rfl) rfl (by simp [bw])) ?_
 refine aA (cV (cC (aH (aB rfl) (aH aV ay)) hc rfl rfl) rfl (by simp [bw])) ?_
 refine aA (cV (cC (aH (aB rfl) (aH aV (aH aV ay))) dp rfl rfl) rfl (by simp [bw])) ?_
 refine aA (cV (cC (aH (cC (aH (aB rfl) (aH aV ay)) hc7 rfl rfl) (aH (aB rfl) ay)) er0 rfl rfl) rfl (by simp [bw])) ?_
 refine aA (Γ1:=GL xs w p c R0 none none none none (some ⟨.lst .leaf,b5 za⟩) (some ⟨.lst .leaf,aR pa⟩) (some ⟨.lst .leaf,bU ta⟩) (some ⟨.lst .leaf,aR ca⟩) none) (rA (ps:=[⟨.lst .leaf,b5 za⟩,⟨.lst .leaf,aR pa⟩,⟨.lst .leaf,bU ta⟩,⟨.lst .leaf,aR ca⟩]) (cC (aH (aB rfl) (aH (aB rfl) (aH (aB rfl) ay))) ea rfl rfl) rfl rfl rfl) ?_
 refine aA i1 (aA i2 (aA i3 (aA i4 ?_)))
 refine wV (i:=6) (p:=⟨.tup sc,bo zc pc tc cc⟩) rfl ?_
 refine aA (Γ1:=GL xs w p c R (some ⟨.leaf,bo zc pc tc cc⟩) (some ⟨.leaf,.list [w.enc,aJ R,.str tx]⟩) none none none none none none none) (cV (pj (s:=.leaf) (aH (cC (aH (aB rfl) ay) (qu ok) rfl rfl) (aH (AW (ds:=R.map rm) (aB rfl) wC) (aH (bT (g:=cH) (aH (aB (i:=6) rfl) ay) rep) ay))) rfl rfl rfl) rfl (by simp)) ?_
 refine aA (Γ1:=GL xs w p c R (some ⟨.leaf,bo zc pc tc cc⟩) (some ⟨.leaf,.list [w.enc,aJ R,.str tx]⟩) (some ⟨.leaf,.bool J⟩) none none none none none none) (cV (cC (aH (aB rfl) (aH (aB rfl) (aH (aB rfl) (aH (aB rfl) ay)))) eh rfl rfl) rfl (by simp)) ?_
 exact aA (eZ (gp (s:=.leaf) (n:=2) (by omega) (aH aV ay)) ef) rfl
theorem law_true (ns:List Int) (hl:ns.length<=63):m_law [.list (ns.map .int)]=.ok ⟨.leaf,.bool true⟩:=vU Au
end KQ.Y.V
namespace KQ.Y.V
open PySem PySem.Spec L2 T TQ
open PyProof.Rows hiding St
open KC
noncomputable def dN (n:Nat):Stmt:=(PySem.Challenge.pw_foreseehall_k71_again_judged.main.body)[n]!
noncomputable def rY:Stmt:=dN 6
noncomputable def nB:Stmt:=dN 7
noncomputable def i8:Stmt:=dN 8
noncomputable def ny:Stmt:=dN 9
noncomputable def lQ:Stmt:=dN 14
noncomputable def lT:Stmt:=dN 15
noncomputable def lS:Stmt:=dN 16
noncomputable def lR:Stmt:=dN 17
noncomputable def nA:Stmt:=dN 18
noncomputable def ja:Stmt:=dN 19
noncomputable def iu:Stmt:=dN 20
noncomputable def jb:Stmt:=dN 21
noncomputable def iq:Stmt:=dN 23
noncomputable def kx:Stmt:=dN 24
noncomputable def nu:Stmt:=dN 25
noncomputable def pI:Stmt:=dN 26
noncomputable def ky:Stmt:=dN 28
noncomputable def i9:Stmt:=dN 30
noncomputable def i7:Stmt:=dN 31
noncomputable def ku:Stmt:=dN 32
noncomputable def gv:Stmt:=dN 33
noncomputable def nz:Stmt:=dN 34
noncomputable def kv:Stmt:=dN 35
noncomputable def uF:Stmt:=dN 36
noncomputable def gR:Stmt:=dN 37
noncomputable def gP:Stmt:=dN 38
noncomputable def gQ:Stmt:=dN 39
noncomputable def jc:Stmt:=dN 40
noncomputable def ix:Stmt:=dN 42
noncomputable def lV:Stmt:=dN 43
noncomputable def kz:Stmt:=dN 44
noncomputable def lU:Stmt:=dN 45
noncomputable def kA:Stmt:=dN 46
noncomputable def kB:Stmt:=dN 47
noncomputable def iw:Stmt:=dN 48
noncomputable def lW:Stmt:=dN 49
noncomputable def gS:Stmt:=dN 50
noncomputable def gw:Stmt:=dN 51
noncomputable def fL:Stmt:=dN 52
noncomputable def lX:Stmt:=dN 53
noncomputable def jd:Stmt:=dN 54
noncomputable def Br:Stmt:=dN 55
structure Gl (K:Fg) (mg:Str->Option Value):Prop where
 n0:mg "any"=none
 n1:mg "all"=none
 n2:mg "len"=none
 n3:mg "range"=none
 n4:mg "enumerate"=none
 n5:mg "list"=none
 n6:mg "int"=none
 n7:mg "isinstance"=none
 n8:mg "bool"=none
 n9:mg "max"=none
 n10:mg "min"=none
 n11:mg "repr"=none
 h0:og K mg "LETTERS" cP
 h1:og K mg "MOST_ROOMS" dU
 h2:og K mg "PLAYERS" b9
structure Al (K:Fg) (mg:Str->Option Value):Prop where
 g:Gl K mg
 f0:Ft K mg "is_led" rY
 f1:Ft K mg "is_lower" nB
 f2:Ft K mg "ranked_next" i8
 f3:Ft K mg "ranks_to" ny
 f4:Ft K mg "is_rising" lQ
 f5:Ft K mg "are_marks" lT
 f6:Ft K mg "are_rooms" lS
 f7:Ft K mg "are_steps" lR
 f8:Ft K mg "is_world" nA
 f9:Ft K mg "check_world" ja
 f10:Ft K mg "check_player" iu
 f11:Ft K mg "check_rooms" jb
 f12:Ft K mg "other_player" iq
 f13:Ft K mg "is_plan_of" kx
 f14:Ft K mg "steps_by" nu
 f15:Ft K mg "plan_of" pI
 f16:Ft K mg "check_told" ky
 f17:Ft K mg "inner_world" i9
 f18:Ft K mg "ranks_among" i7
 f19:Ft K mg "lost_rooms" ku
 f20:Ft K mg "turns_and_left" gv
 f21:Ft K mg "leads_on" nz
 f22:Ft K mg "leads_down" kv
 f23:Ft K mg "again" uF
 f24:Ft K mg "is_rank_right" gR
 f25:Ft K mg "is_turn_right" gP
 f26:Ft K mg "is_room_right" gQ
 f27:Ft K mg "again_shows" jc
 f28:Ft K mg "_law_cell_at" ix
 f29:Ft K mg "_law_draw" lV
 f30:Ft K mg "_law_world" kz
 f31:Ft K mg "_law_twin" lU
 f32:Ft K mg "_law_whole" kA
 f33:Ft K mg "_law_rooms" kB
 f34:Ft K mg "_law_is_plan" iw
 f35:Ft K mg "_law_down" lW
 f36:Ft K mg "_law_won_held" gS
 f37:Ft K mg "_law_lost_held" gw
 f38:Ft K mg "_law_again_held" fL
 f39:Ft K mg "_law_bent" lX
 f40:Ft K mg "_law_forged" jd
 f41:Ft K mg "law" Br
section
variable {P:Program} {w:World} {K:Fg} {mg:Str->Option Value} {base:Heap} (A:Al K mg)
include A
theorem sI:DefOk P w K mg base 1 "is_led" 2 dm:=mk A.f0 A.g ["is_chosen", "by_steps"] xF [] ["any", "all"] [0,1] [] [0,1] fun X S I hp=>
 (cb (uk (kr (aq S 0) (fun _=>rfl)) (rL S 0 rfl rfl I.e.n0 (aX (aq S 1)) (eP rfl) rfl) (qS S 1 rfl rfl I.e.n1 (aX (aq S 1)) (eP rfl) rfl)))
theorem nE:DefOk P w K mg base 1 "is_lower" 2 cO:=mk A.f1 A.g ["rank", "other"] xF [] [] [0,1] [] [] fun X S I hp=>
 (cb (qT (eQ (t9 I.r) (aq S 0) dY) (qT (eQ (t9 I.r) (aq S 1) dY) (oo (eQ (fA I.r) (aq S 0) (aq S 1))))))
theorem jh:DefOk P w K mg base 2 "ranked_next" 4 cu:=mk A.f2 A.g ["world", "chosen", "through", "ranks"] xE ["found", "room", "there"] ["is_led"] [0,1,2,3,4,5] [3] [0] fun X S I hp=>
 (bx (dy S true 4 (nh .leaf xT)) (bx (wL S 5 rfl rfl hp (eO (aq S 2)) (gq (dD (ib (wM (bN (d5 I.r) (ba (aq S 3) (aq S 5)) dY) (wR (kr (bP S 0 (I.c (sI A)) (aT (ba (aq S 1) (aq S 5)) (aX (fH [3,6] [3] [] S 6 (eO (ba (ba (aq S 0) aQ) (aq S 5))) (fun _ _ _=>fy) (fun Y1 S1 F1=>have I:=F1.i I;(eQ (t9 I.r) (ba (aq S1 3) (aq S1 6)) dY)))))) (fun _=>rfl))))) (gq (CS S 4 rfl rfl (aq S 5) (eX rfl) rfl rfl rfl rfl)) dM)) (fun _=>rfl)) (cb (fI S 4 rfl rfl))))
theorem iC:DefOk P w K mg base 3 "ranks_to" 4 bW:=mk A.f3 A.g ["world", "chosen", "through", "goal"] xE ["ranks", "rank", "fresh", "room", "owner"] ["ranked_next"] [0,1,2,3,4,5,6,7] [] [0] fun X S I hp=>
 (bx (uq (vs':=[8]) (cs':=[]) (lo':=[]) (gs':=[]) S true 4 .leaf 8 rfl rfl rfl rfl (by kernel_rfl) (by kernel_rfl) (by kernel_rfl) (eO (ba (aq S 0) aQ)) (fun _ _ _=>fy) (fun Y1 S1 F1=>dY) (fun _=>rfl)) (bx (dy S false 5 aQ) (bx (dy S false 6 (aq S 3)) (bx (ic 1000 hp (kr (aq S 6) (fun _=>rfl)) (bx (wL S 7 rfl rfl hp (eO (aq S 6)) (gq (jM S 4 rfl rfl (aq S 5) (aq S 7) rfl rfl rfl (fun _=>rfl))) (fun _=>rfl)) (bx (lE S 5 rfl rfl aQ) (gq (dy S false 6 (rH S 0 rfl rfl (I.c (jh A)) (aT (aq S 0) (aT (aq S 1) (aT (aq S 2) (aX (aq S 4))))) (eP rfl) rfl)))))) (cb (fI S 4 rfl rfl))))))
theorem gK:DefOk P w K mg base 1 "is_rising" 1 dz:=mk A.f4 A.g ["entries"] xG ["k"] ["len", "range", "all"] [0] [0] [0,1,2] fun X S I hp=>
 (cb (qS S 2 rfl rfl I.e.n1 (aX (fH [0,1] [0] [] S 1 (A6 S 1 rfl rfl I.e.n3 (aT aQ (aX (e8 S 0 I.e.n2 (aX (aq S 0))))) (rU rfl rfl) (eX rfl)) (fun _ _ _=>fy) (fun Y1 S1 F1=>have I:=F1.i I;(eQ (fA I.r) (ba (aq S1 0) (Aw (aq S1 1) aQ)) (ba (aq S1 0) (aq S1 1)))))) (eP rfl) rfl))
theorem mn:DefOk P w K mg base 2 "are_marks" 1 dB:=mk A.f5 A.g ["entries"] xG ["entry"] ["LETTERS", "all", "is_rising"] [0] [] [1,2] fun X S I hp=>
 (cb (qT (qS S 1 rfl rfl I.e.n1 (aX (fH [1] [] [0] S 1 (eO (aq S 0)) (fun _ _ _=>fy) (fun Y1 S1 F1=>have I:=F1.i I;(eQ (jg I.r) (aq S1 1) (uv S1 0 rfl rfl I.e.h0))))) (eP rfl) rfl) (oo (bP S 2 (I.c (gK A)) (aX (aq S 0))))))
theorem gL:DefOk P w K mg base 2 "are_rooms" 2 cT:=mk A.f6 A.g ["entries", "size"] xF ["entry"] ["all", "is_rising"] [0,1] [1] [0,1] fun X S I hp=>
 (cb (qT (qS S 0 rfl rfl I.e.n1 (aX (fH [1,2] [1] [] S 2 (eO (aq S 0)) (fun _ _ _=>fy) (fun Y1 S1 F1=>have I:=F1.i I;(A8 (FC I.r) (fA I.r) aQ (aq S1 2) (aq S1 1) (by with_unfolding_all rfl))))) (eP rfl) rfl) (oo (bP S 1 (I.c (gK A)) (aX (aq S 0))))))
theorem ml:DefOk P w K mg base 3 "are_steps" 2 dA:=mk A.f7 A.g ["entries", "size"] xF [] ["len", "are_rooms"] [0,1] [] [0,1] fun X S I hp=>
 (cb (qT (eQ (me I.r) (e8 S 0 I.e.n2 (aX (aq S 0))) aQ) (oo (bP S 1 (I.c (gL A)) (aT (aq S 0) (aX (aq S 1)))))))
theorem nC:DefOk P w K mg base 4 "is_world" 3 dS:=mk A.f8 A.g ["owners", "marks", "steps"] qN ["size", "owner", "row"] ["len", "MOST_ROOMS", "PLAYERS", "all", "are_marks", "are_steps"] [0,1,2,3] [3] [0,1,3] fun X S I hp=>
 (bx (dy S false 3 (e8 S 0 I.e.n2 (aX (aq S 0)))) (bx (dD (ib (km (bN (fA I.r) (aq S 3) aQ) (km (bN (me I.r) (aq S 3) (uv S 1 rfl rfl I.e.h1)) (km (bN (dR I.r) (e8 S 0 I.e.n2 (aX (aq S 1))) (aq S 3)) (nc (bN (dR I.r) (e8 S 0 I.e.n2 (aX (aq S 2))) (aq S 3))))))) (cb gu) dM) (bx (dD (qV (kr (qS S 3 rfl rfl I.e.n1 (aX (fH [4] [] [2] S 4 (eO (aq S 0)) (fun _ _ _=>fy) (fun Y1 S1 F1=>have I:=F1.i I;(eQ (jg I.r) (aq S1 4) (uv S1 2 rfl rfl I.e.h2))))) (eP rfl) rfl) (fun _=>rfl))) (cb gu) dM) (cb (qT (qS S 3 rfl rfl I.e.n1 (aX (fH [5] [] [4] S 5 (eO (aq S 1)) (fun _ _ _=>fy) (fun Y2 S2 F2=>have I:=F2.i I;(bP S2 4 (I.c (mn A)) (aX (aq S2 5)))))) (eP rfl) rfl) (oo (qS S 3 rfl rfl I.e.n1 (aX (fH [3,5] [3] [5] S 5 (eO (aq S 2)) (fun _ _ _=>fy) (fun Y3 S3 F3=>have I:=F3.i I;(bP S3 5 (I.c (ml A)) (aT (aq S3 5) (aX (aq S3 3))))))) (eP rfl) rfl)))))))
theorem ji:DefOk P w K mg base 5 "check_world" 1 cR:=mk A.f9 A.g ["world"] xG [] ["is_world"] [0] [] [0] fun X S I hp=>
 (gq (dD (qV (kr (bP S 0 (I.c (nC A)) (aT (ba (aq S 0) aQ) (aT (ba (aq S 0) aQ) (aX (ba (aq S 0) aQ))))) (fun _=>rfl))) (gq DP) dM))
theorem iE:DefOk P w K mg base 1 "check_player" 1 dq:=mk A.f10 A.g ["player"] xG [] ["PLAYERS"] [0] [] [0] fun X S I hp=>
 (gq (dD (bN (oN I.r) (aq S 0) (uv S 0 rfl rfl I.e.h2)) (gq DP) dM))
theorem jj:DefOk P w K mg base 3 "check_rooms" 2 dG:=mk A.f11 A.g ["world", "rooms"] xF [] ["len", "are_rooms"] [0,1] [] [0,1] fun X S I hp=>
 (gq (dD (qV (kr (bP S 1 (I.c (gL A)) (aT (aq S 1) (aX (e8 S 0 I.e.n2 (aX (ba (aq S 0) aQ)))))) (fun _=>rfl))) (gq DP) dM))
theorem EC:DefOk P w K mg base 1 "other_player" 1 bh:=mk A.f12 A.g ["player"] xG [] [] [0] [] [] fun X S I hp=>
 (cb (Aw aQ (aq S 0)))
theorem fR:DefOk P w K mg base 1 "is_plan_of" 3 bO:=mk A.f13 A.g ["world", "player", "plan"] qN ["chosen", "room", "there"] ["len", "enumerate", "all"] [0,1,2,3] [0,1,2] [0,1,2] fun X S I hp=>
 (bx (dD (bN (dR I.r) (e8 S 0 I.e.n2 (aX (aq S 2))) (e8 S 0 I.e.n2 (aX (ba (aq S 0) aQ)))) (cb gu) dM) (bx (EB (vs':=[4,5]) (cs':=[]) (lo':=[]) (gs':=[]) S false 3 .leaf 4 5 rfl rfl rfl rfl rfl 1 rfl rfl I.e.n4 rfl (by kernel_rfl) (by kernel_rfl) (by kernel_rfl) (aq S 2) (eX rfl) (fun Y1 S1 F1=>have I:=F1.i I;qU (bN (t9 I.r) (aq S1 5) dY)) (fun Y1 S1 F1=>have I:=F1.i I;(aq S1 4)) (fun _=>rfl)) (cb (qS S 2 rfl rfl I.e.n1 (aX (fH [0,1,2,4] [0,1,2] [] S 4 (eO (aq S 3)) (fun _ _ _=>fy) (fun Y2 S2 F2=>have I:=F2.i I;(qT (eQ (cn I.r) (ba (ba (aq S2 0) aQ) (aq S2 4)) (aq S2 1)) (oo (eQ (jg I.r) (ba (aq S2 2) (aq S2 4)) (ba (ba (aq S2 0) aQ) (aq S2 4)))))))) (eP rfl) rfl))))
theorem iB:DefOk P w K mg base 1 "steps_by" 4 cy:=mk A.f14 A.g ["world", "player", "plan", "room"] xE [] [] [0,1,2,3] [] [] fun X S I hp=>
 (bx (dD (bN (dR I.r) (ba (ba (aq S 0) aQ) (aq S 3)) (aq S 1)) (cb (ba (ba (aq S 0) aQ) (aq S 3))) dM) (cb (uk (bN (d5 I.r) (ba (aq S 2) (aq S 3)) dY) (nh .leaf xT) (nh .leaf (aX (ba (aq S 2) (aq S 3)))))))
theorem j3:DefOk P w K mg base 1 "plan_of" 3 bR:=mk A.f15 A.g ["world", "player", "will_do"] qN ["room", "steps"] ["enumerate"] [0,1,2] [0,1] [0] fun X S I hp=>
 (cb (A7 (vs':=[0,1,3,4]) (cs':=[0,1]) (lo':=[]) (gs':=[]) S .leaf 3 4 0 rfl rfl rfl rfl rfl I.e.n4 (by kernel_rfl) (by kernel_rfl) (aq S 2) (eX rfl) (fun _ _ _=>fy) (fun Y1 S1 F1=>have I:=F1.i I;(uk (ib (wM (kr (aq S1 4) (fun _=>rfl)) (wR (bN (cn I.r) (ba (ba (aq S1 0) aQ) (aq S1 3)) (aq S1 1))))) (ba (aq S1 4) aQ) dY)) (fun _=>rfl)))
theorem fS:DefOk P w K mg base 6 "check_told" 3 bp:=mk A.f16 A.g ["world", "player", "rooms"] qN [] ["check_world", "check_player", "check_rooms"] [0,1,2] [] [0,1,2] fun X S I hp=>
 (bx (AY (bP S 0 (I.c (ji A)) (aX (aq S 0))) rfl) (bx (AY (bP S 1 (I.c (iE A)) (aX (aq S 1))) rfl) (gq (AY (bP S 2 (I.c (jj A)) (aT (aq S 0) (aX (aq S 2)))) rfl))))
theorem ff:DefOk P w K mg base 1 "inner_world" 2 bS:=mk A.f17 A.g ["world", "rooms"] xF ["row", "there"] [] [0,1] [1] [] fun X S I hp=>
 (cb (om (aT (ba (aq S 0) aQ) (aT (ba (aq S 0) aQ) (aX (fH [1,2] [1] [] S 2 (eO (ba (aq S 0) aQ)) (fun _ _ _=>fy) (fun Y1 S1 F1=>have I:=F1.i I;(fH [1,3] [1] [] S1 3 (eO (aq S1 2)) (fun Y2 S2 F2=>have I:=F2.i I;qU (bN (jg I.r) (aq S2 3) (aq S2 1))) (fun Y2 S2 F2=>have I:=F2.i I;(aq S2 3))))))))))
theorem e9:DefOk P w K mg base 4 "ranks_among" 4 bI:=mk A.f18 A.g ["world", "player", "rooms", "left"] xE ["goal", "room", "owner"] ["inner_world", "ranks_to"] [0,1,2,3,4] [1,2] [0,1] fun X S I hp=>
 (bx (uq (vs':=[2,5]) (cs':=[2]) (lo':=[]) (gs':=[]) S false 4 .leaf 5 rfl rfl rfl rfl (by kernel_rfl) (by kernel_rfl) (by kernel_rfl) (eO (aq S 3)) (fun Y1 S1 F1=>have I:=F1.i I;qU (bN (jg I.r) (aq S1 5) (aq S1 2))) (fun Y1 S1 F1=>have I:=F1.i I;(aq S1 5)) (fun _=>rfl)) (cb (bP S 1 (I.c (iC A)) (aT (bP S 0 (I.c (ff A)) (aT (aq S 0) (aX (aq S 3)))) (aT (fH [1,6] [1] [] S 6 (eO (ba (aq S 0) aQ)) (fun _ _ _=>fy) (fun Y2 S2 F2=>have I:=F2.i I;(eQ (cn I.r) (aq S2 6) (aq S2 1)))) (aT (aq S 3) (aX (aq S 4))))))))
theorem fP:DefOk P w K mg base 5 "lost_rooms" 4 cG:=mk A.f19 A.g ["world", "player", "rooms", "left"] xE ["ranks", "room"] ["ranks_among"] [0,1,2,3,4] [4] [0] fun X S I hp=>
 (bx (dy S false 4 (bP S 0 (I.c (e9 A)) (aT (aq S 0) (aT (aq S 1) (aT (aq S 2) (aX (aq S 3))))))) (cb (fH [4,5] [4] [] S 5 (eO (aq S 3)) (fun Y1 S1 F1=>have I:=F1.i I;qU (bN (d5 I.r) (ba (aq S1 4) (aq S1 5)) dY)) (fun Y1 S1 F1=>have I:=F1.i I;(aq S1 5)))))
theorem gx:DefOk P w K mg base 6 "turns_and_left" 3 bL:=mk A.f20 A.g ["world", "player", "rooms"] qN ["turns", "left", "turn", "lost", "ranks", "room", "owner"] ["len", "list", "range", "lost_rooms", "inner_world", "ranks_to"] [0,1,2,3,4,5,6,7,8] [1,3] [0,1,2,3,4,5] fun X S I hp=>
 (bx (D0 S true 3 rfl rfl (gF (S.cel 3 _ rfl rfl)) (fH [9] [] [] S 9 (eO (ba (aq S 0) aQ)) (fun _ _ _=>fy) (fun Y1 S1 F1=>dY))) (bx (dy S false 4 (ig S 1 2 rfl rfl I.e.n5 rfl rfl I.e.n3 (aX (e8 S 0 I.e.n2 (aX (ba (aq S 0) aQ)))) (eX rfl) (eX rfl))) (bx (dy S false 5 aQ) (bx (dy S false 6 (bP S 3 (I.c (fP A)) (aT (aq S 0) (aT (aq S 1) (aT (aq S 2) (aX (aq S 4))))))) (bx (ic 1000 hp (kr (aq S 6) (fun _=>rfl)) (bx (dy S false 7 (bP S 5 (I.c (iC A)) (aT (bP S 4 (I.c (ff A)) (aT (aq S 0) (aX (aq S 4)))) (aT (fH [1,9] [1] [] S 9 (eO (ba (aq S 0) aQ)) (fun _ _ _=>fy) (fun Y2 S2 F2=>have I:=F2.i I;(eQ (dR I.r) (aq S2 9) (aq S2 1)))) (aT (aq S 4) (aX (aq S 6))))))) (bx (wL S 8 rfl rfl hp (eO (aq S 4)) (gq (dD (bN (t9 I.r) (ba (aq S 7) (aq S 8)) dY) (gq (jM S 3 rfl rfl (om (aT (aq S 5) (aX (ba (aq S 7) (aq S 8))))) (aq S 8) rfl rfl rfl (fun _=>rfl))) dM)) (fun _=>rfl)) (bx (lE S 5 rfl rfl aQ) (bx (uq (vs':=[3,8]) (cs':=[3]) (lo':=[]) (gs':=[]) S false 4 .leaf 8 rfl rfl rfl rfl (by kernel_rfl) (by kernel_rfl) (by kernel_rfl) (eO (aq S 4)) (fun Y3 S3 F3=>have I:=F3.i I;qU (bN (d5 I.r) (ba (aq S3 3) (aq S3 8)) dY)) (fun Y3 S3 F3=>have I:=F3.i I;(aq S3 8)) (fun _=>rfl)) (gq (dy S false 6 (bP S 3 (I.c (fP A)) (aT (aq S 0) (aT (aq S 1) (aT (aq S 2) (aX (aq S 4))))))))))))) (cb (om (aT (fI S 3 rfl rfl) (aX (aq S 4))))))))))
theorem iD:DefOk P w K mg base 2 "leads_on" 3 bX:=mk A.f21 A.g ["ranks", "here", "there"] qN [] ["is_lower"] [0,1,2] [] [0] fun X S I hp=>
 (cb (uk (bN (cn I.r) (ba (aq S 0) (aq S 1)) aQ) (eQ (t9 I.r) (ba (aq S 0) (aq S 2)) dY) (bP S 0 (I.c (nE A)) (aT (ba (aq S 0) (aq S 2)) (aX (ba (aq S 0) (aq S 1)))))))
theorem fQ:DefOk P w K mg base 1 "leads_down" 3 bG:=mk A.f22 A.g ["turns", "here", "there"] qN ["one", "other"] [] [0,1,2,3,4] [] [] fun X S I hp=>
 (bx (dy S false 3 (ba (aq S 0) (aq S 1))) (bx (dy S false 4 (ba (aq S 0) (aq S 2))) (bx (dD (ib (km (bN (d5 I.r) (aq S 3) dY) (nc (bN (d5 I.r) (aq S 4) dY)))) (cb gu) dM) (bx (dD (bN (dR I.r) (ba (aq S 3) aQ) (ba (aq S 4) aQ)) (cb (eQ (fA I.r) (ba (aq S 4) aQ) (ba (aq S 3) aQ))) dM) (cb (DO (eQ (fA I.r) (ba (aq S 4) aQ) (ba (aq S 3) aQ)) (oo (qT (eQ (cn I.r) (ba (aq S 3) aQ) aQ) (oo (eQ (cn I.r) (ba (aq S 4) aQ) aQ))))))))))
theorem vm:DefOk P w K mg base 7 "again" 3 m_again:=mk A.f23 A.g ["world", "player", "rooms"] qN ["both", "turns", "ranks", "onward", "downward", "there", "room", "row"] ["check_told", "turns_and_left", "ranks_among", "enumerate", "leads_on", "leads_down", "plan_of", "other_player"] [0,1,2,3,4,5,6,7] [4,5] [0,1,2,3,6,7] fun X S I hp=>
 (bx (AY (bP S 0 (I.c (fS A)) (aT (aq S 0) (aT (aq S 1) (aX (aq S 2))))) rfl) (bx (dy S true 3 (bP S 1 (I.c (gx A)) (aT (aq S 0) (aT (aq S 1) (aX (aq S 2)))))) (nq S 4 3 5 (rH S 2 rfl rfl (I.c (e9 A)) (aT (aq S 0) (aT (aq S 1) (aT (aq S 2) (aX (ba (aq S 3) aQ))))) (eP rfl) rfl) (bx (EB (vs':=[5,9,10]) (cs':=[5,9]) (lo':=[]) (gs':=[]) S false 6 .leaf 9 10 rfl rfl rfl rfl rfl 3 rfl rfl I.e.n4 rfl (by kernel_rfl) (by kernel_rfl) (by kernel_rfl) (ba (aq S 0) aQ) (eX rfl) (fun _ _ _=>fy) (fun Y1 S1 F1=>have I:=F1.i I;(fH [5,8,9] [5,9] [4] S1 8 (eO (aq S1 10)) (fun Y2 S2 F2=>have I:=F2.i I;qU (kr (bP S2 4 (I.c (iD A)) (aT (aq S2 5) (aT (aq S2 9) (aX (aq S2 8))))) (fun _=>rfl))) (fun Y2 S2 F2=>have I:=F2.i I;(aq S2 8)))) (fun _=>rfl)) (bx (EB (vs':=[4,9,10]) (cs':=[4,9]) (lo':=[]) (gs':=[]) S false 7 .leaf 9 10 rfl rfl rfl rfl rfl 3 rfl rfl I.e.n4 rfl (by kernel_rfl) (by kernel_rfl) (by kernel_rfl) (ba (aq S 0) aQ) (eX rfl) (fun _ _ _=>fy) (fun Y3 S3 F3=>have I:=F3.i I;(fH [4,8,9] [4,9] [5] S3 8 (eO (aq S3 10)) (fun Y4 S4 F4=>have I:=F4.i I;qU (kr (bP S4 5 (I.c (fQ A)) (aT (aq S4 4) (aT (aq S4 9) (aX (aq S4 8))))) (fun _=>rfl))) (fun Y4 S4 F4=>have I:=F4.i I;(aq S4 8)))) (fun _=>rfl)) (cb (om (aT (fI S 5 rfl rfl) (aT (bP S 6 (I.c (j3 A)) (aT (aq S 0) (aT (aq S 1) (aX (aq S 6))))) (aT (fI S 4 rfl rfl) (aX (bP S 6 (I.c (j3 A)) (aT (aq S 0) (aT (bP S 7 (I.c (EC A)) (aX (aq S 1))) (aX (aq S 7))))))))))))))))
theorem gW:DefOk P w K mg base 3 "is_rank_right" 6 da:=mk A.f24 A.g ["world", "player", "rooms", "ranks", "plan", "room"] Dm ["steps", "there"] ["steps_by", "len", "leads_on", "all"] [0,1,2,3,4,5,6] [3,5] [0,1,3] fun X S I hp=>
 (bx (dD (ib (km (bN (fA I.r) (ba (aq S 3) (aq S 5)) aQ) (nc (bN (dR I.r) (eQ (cn I.r) (ba (aq S 3) (aq S 5)) aQ) (eQ (jg I.r) (aq S 5) (aq S 2)))))) (cb gu) dM) (bx (dy S false 6 (bP S 0 (I.c (iB A)) (aT (aq S 0) (aT (aq S 1) (aT (aq S 4) (aX (aq S 5))))))) (cb (qT (eQ (me I.r) (e8 S 1 I.e.n2 (aX (aq S 6))) aQ) (oo (qS S 3 rfl rfl I.e.n1 (aX (fH [3,5,7] [3,5] [2] S 7 (eO (aq S 6)) (fun _ _ _=>fy) (fun Y1 S1 F1=>have I:=F1.i I;(bP S1 2 (I.c (iD A)) (aT (aq S1 3) (aT (aq S1 5) (aX (aq S1 7)))))))) (eP rfl) rfl))))))
theorem gT:DefOk P w K mg base 2 "is_turn_right" 6 cZ:=mk A.f25 A.g ["world", "player", "rooms", "turns", "counter", "room"] Dm ["turn", "steps", "there"] ["other_player", "steps_by", "len", "leads_down", "all"] [0,1,2,3,4,5,6,7] [3,5] [0,1,2,4] fun X S I hp=>
 (bx (dy S false 6 (ba (aq S 3) (aq S 5))) (bx (dD (ib (km (bN (fA I.r) (ba (aq S 6) aQ) aQ) (km (bN (fA I.r) (ba (aq S 6) aQ) aQ) (nc (ib (wM (bN (cn I.r) (ba (aq S 6) aQ) aQ) (wR (bN (jg I.r) (aq S 5) (aq S 2))))))))) (cb gu) dM) (bx (dy S false 7 (bP S 1 (I.c (iB A)) (aT (aq S 0) (aT (bP S 0 (I.c (EC A)) (aX (aq S 1))) (aT (aq S 4) (aX (aq S 5))))))) (cb (qT (eQ (me I.r) (e8 S 2 I.e.n2 (aX (aq S 7))) aQ) (oo (qS S 4 rfl rfl I.e.n1 (aX (fH [3,5,8] [3,5] [3] S 8 (eO (aq S 7)) (fun _ _ _=>fy) (fun Y1 S1 F1=>have I:=F1.i I;(bP S1 3 (I.c (fQ A)) (aT (aq S1 3) (aT (aq S1 5) (aX (aq S1 8)))))))) (eP rfl) rfl)))))))
theorem gU:DefOk P w K mg base 4 "is_room_right" 5 m_is_room_right:=mk A.f26 A.g ["world", "player", "rooms", "paper", "room"] HD [] ["is_rank_right", "is_turn_right"] [0,1,2,3,4] [] [0,1] fun X S I hp=>
 (bx (dD (bN (cn I.r) (eQ (d5 I.r) (ba (ba (aq S 3) aQ) (aq S 4)) dY) (eQ (d5 I.r) (ba (ba (aq S 3) aQ) (aq S 4)) dY)) (cb gu) dM) (bx (dD (bN (d5 I.r) (ba (ba (aq S 3) aQ) (aq S 4)) dY) (cb (bP S 0 (I.c (gW A)) (aT (aq S 0) (aT (aq S 1) (aT (aq S 2) (aT (ba (aq S 3) aQ) (aT (ba (aq S 3) aQ) (aX (aq S 4))))))))) dM) (cb (bP S 1 (I.c (gT A)) (aT (aq S 0) (aT (aq S 1) (aT (aq S 2) (aT (ba (aq S 3) aQ) (aT (ba (aq S 3) aQ) (aX (aq S 4)))))))))))
theorem jk:DefOk P w K mg base 7 "again_shows" 4 bJ:=mk A.f27 A.g ["world", "player", "rooms", "paper"] xE ["size", "room"] ["check_told", "len", "is_plan_of", "other_player", "range", "is_room_right", "all"] [0,1,2,3,4] [0,1,2,3] [0,1,2,3,4,6] fun X S I hp=>
 (bx (AY (bP S 0 (I.c (fS A)) (aT (aq S 0) (aT (aq S 1) (aX (aq S 2))))) rfl) (bx (dy S false 4 (e8 S 1 I.e.n2 (aX (ba (aq S 0) aQ)))) (bx (dD (ib (km (bN (dR I.r) (e8 S 1 I.e.n2 (aX (ba (aq S 3) aQ))) (aq S 4)) (nc (bN (dR I.r) (e8 S 1 I.e.n2 (aX (ba (aq S 3) aQ))) (aq S 4))))) (cb gu) dM) (bx (dD (ib (km (qV (kr (bP S 2 (I.c (fR A)) (aT (aq S 0) (aT (aq S 1) (aX (ba (aq S 3) aQ))))) (fun _=>rfl))) (nc (qV (kr (bP S 2 (I.c (fR A)) (aT (aq S 0) (aT (bP S 3 (I.c (EC A)) (aX (aq S 1))) (aX (ba (aq S 3) aQ))))) (fun _=>rfl)))))) (cb gu) dM) (cb (qS S 6 rfl rfl I.e.n1 (aX (fH [0,1,2,3,5] [0,1,2,3] [5] S 5 (d9 S 4 rfl rfl I.e.n3 (aX (aq S 4)) (eX rfl)) (fun _ _ _=>fy) (fun Y1 S1 F1=>have I:=F1.i I;(bP S1 5 (I.c (gU A)) (aT (aq S1 0) (aT (aq S1 1) (aT (aq S1 2) (aT (aq S1 3) (aX (aq S1 5)))))))))) (eP rfl) rfl))))))
theorem A5:DefOk P w K mg base 1 "_law_cell_at" 2 aF:=mk A.f28 A.g ["script", "k"] xF [] ["len"] [0,1] [] [0] fun X S I hp=>
 (bx (dD (bN (fA I.r) (aq S 1) (e8 S 0 I.e.n2 (aX (aq S 0)))) (cb (ba (aq S 0) (aq S 1))) dM) (cb aQ))
theorem i6:DefOk P w K mg base 1 "_law_draw" 3 ak:=mk A.f29 A.g ["cell", "k", "bound"] qN ["stir", "left", "j"] ["range"] [0,1,2,3,4,5] [] [0] fun X S I hp=>
 (bx (dD (bN (FD I.r) (aq S 0) (rE aQ aQ)) (bx (dy S false 4 (aq S 0)) (bx (wL S 5 rfl rfl hp (d9 S 0 rfl rfl I.e.n3 (aX (aq S 1)) (eX rfl)) (gq (dy S false 4 (lC (aq S 4) (aq S 2)))) (fun _=>rfl)) (cb (rj (aq S 4) (aq S 2))))) dM) (bx (dy S false 3 (rj (ua (qW (qW (rj (aq S 0) aQ) (ua aQ (aq S 1))) aQ) aQ) aQ)) (bx (dy S false 3 (rj (qW (qW (ua (aq S 3) (aq S 3)) (ua aQ (aq S 1))) aQ) aQ)) (cb (rj (lC (rj (ua (aq S 3) aQ) aQ) aQ) (aq S 2))))))
theorem kE:DefOk P w K mg base 2 "_law_world" 3 m__law_world:=mk A.f30 A.g ["script", "at", "most"] qN ["many", "owners", "marks", "steps", "room", "cell", "row", "there", "mark"] ["_law_cell_at", "range", "_law_draw", "int"] [0,1,2,3,4,5,6,7,8,9] [3,8] [0,1,2] fun X S I hp=>
 (bx (dy S false 3 (qW aQ (rj (bP S 0 (I.c (A5 A)) (aT (aq S 0) (aX (aq S 1)))) (aq S 2)))) (bx (dy S true 4 (nh .leaf xT)) (bx (dy S true 5 (nh .leaf xT)) (bx (dy S true 6 (nh .leaf xT)) (bx (wL S 7 rfl rfl hp (d9 S 1 rfl rfl I.e.n3 (aX (aq S 3)) (eX rfl)) (bx (dy S false 8 (bP S 0 (I.c (A5 A)) (aT (aq S 0) (aX (qW (qW (aq S 1) aQ) (aq S 7)))))) (bx (CS S 4 rfl rfl (bP S 2 (I.c (i6 A)) (aT (aq S 8) (aT aQ (aX aQ)))) (eX rfl) rfl rfl rfl rfl) (bx (CS S 5 rfl rfl (fH [8,11] [8] [2] S 11 (pv (by kernel_rfl)) (fun Y1 S1 F1=>have I:=F1.i I;qU (bN (cn I.r) (bP S1 2 (I.c (i6 A)) (aT (aq S1 8) (aT (qW aQ (pA (aq S1 11) (eX rfl) rfl)) (aX aQ)))) aQ)) (fun Y1 S1 F1=>have I:=F1.i I;(aq S1 11))) (eX rfl) rfl rfl rfl rfl) (bx (uq (vs':=[3,8,10]) (cs':=[3,8]) (lo':=[]) (gs':=[2,3]) S false 9 .leaf 10 rfl rfl rfl rfl (by kernel_rfl) (by kernel_rfl) (by kernel_rfl) (d9 S 1 rfl rfl I.e.n3 (aX (aq S 3)) (eX rfl)) (fun Y2 S2 F2=>have I:=F2.i I;qU (bN (cn I.r) (bP S2 2 (I.c (i6 A)) (aT (aq S2 8) (aT (qW aQ (aq S2 10)) (aX (qW aQ (rK S2 3 rfl rfl I.e.n6 (aX (eQ (me I.r) (aq S2 3) aQ)) (eP rfl) rfl)))))) aQ)) (fun Y2 S2 F2=>have I:=F2.i I;(aq S2 10)) (fun _=>rfl)) (bx (dD (bN (cn I.r) (aq S 9) (nh .leaf xT)) (gq (dy S false 9 (nh .leaf (aX (bP S 2 (I.c (i6 A)) (aT (aq S 8) (aT (qW aQ (aq S 3)) (aX (aq S 3))))))))) dM) (gq (CS S 6 rfl rfl (aq S 9) (eX rfl) rfl rfl rfl rfl))))))) (fun _=>rfl)) (cb (om (aT (fI S 4 rfl rfl) (aT (fI S 5 rfl rfl) (aX (fI S 6 rfl rfl)))))))))))
theorem mr:DefOk P w K mg base 1 "_law_twin" 1 bY:=mk A.f31 A.g ["world"] xG ["row"] ["list"] [0] [] [0] fun X S I hp=>
 (cb (om (aT (AB S 0 rfl rfl I.e.n5 (ba (aq S 0) aQ) (eX rfl)) (aT (fH [1] [] [0] S 1 (eO (ba (aq S 0) aQ)) (fun _ _ _=>fy) (fun Y1 S1 F1=>have I:=F1.i I;(AB S1 0 rfl rfl I.e.n5 (aq S1 1) (eX rfl)))) (aX (fH [1] [] [0] S 1 (eO (ba (aq S 0) aQ)) (fun _ _ _=>fy) (fun Y2 S2 F2=>have I:=F2.i I;(AB S2 0 rfl rfl I.e.n5 (aq S2 1) (eX rfl)))))))))
theorem kF:DefOk P w K mg base 1 "_law_whole" 1 bA:=mk A.f32 A.g ["found"] xG [] ["isinstance", "int", "bool"] [0] [] [0,1,2] fun X S I hp=>
 (cb (qT (CM S 0 1 rfl rfl rfl rfl rfl xH I.e.n7 I.e.n6 (aq S 0) (eP rfl) (eP rfl) rfl) (oo (rF (CM S 0 2 rfl rfl rfl rfl rfl tM I.e.n7 I.e.n8 (aq S 0) (eP rfl) (eP rfl) rfl)))))
theorem fT:DefOk P w K mg base 2 "_law_rooms" 2 m__law_rooms:=mk A.f33 A.g ["cell", "many"] xF ["room"] ["range", "_law_draw"] [0,1] [0] [0] fun X S I hp=>
 (cb (fH [0,2] [0] [1] S 2 (d9 S 0 rfl rfl I.e.n3 (aX (aq S 1)) (eX rfl)) (fun Y1 S1 F1=>have I:=F1.i I;qU (bN (me I.r) (bP S1 1 (I.c (i6 A)) (aT (aq S1 0) (aT (aq S1 2) (aX aQ)))) aQ)) (fun Y1 S1 F1=>have I:=F1.i I;(aq S1 2))))
theorem eB:DefOk P w K mg base 2 "_law_is_plan" 3 bM:=mk A.f34 A.g ["world", "player", "plan"] qN ["room", "step"] ["isinstance", "list", "len", "range", "_law_whole"] [0,1,2,3,4] [] [0,1,2,3,4] fun X S I hp=>
 (bx (dD (ib (km (qV (kr (CM S 0 1 rfl rfl rfl rfl rfl Dw I.e.n7 I.e.n5 (aq S 2) (eP rfl) (eP rfl) rfl) (fun _=>rfl))) (nc (bN (dR I.r) (e8 S 2 I.e.n2 (aX (aq S 2))) (e8 S 2 I.e.n2 (aX (ba (aq S 0) aQ))))))) (cb gu) dM) (bx (wL S 3 rfl rfl hp (d9 S 3 rfl rfl I.e.n3 (aX (e8 S 2 I.e.n2 (aX (aq S 2)))) (eX rfl)) (bx (dy S false 4 (ba (aq S 2) (aq S 3))) (bx (dD (ib (wM (bN (t9 I.r) (aq S 4) dY) (wR (ib (km (qV (kr (bP S 4 (I.c (kF A)) (aX (aq S 4))) (fun _=>rfl))) (nc (bN (dR I.r) (ba (ba (aq S 0) aQ) (aq S 3)) (aq S 1)))))))) (cb gu) dM) (gq (dD (ib (wM (bN (t9 I.r) (aq S 4) dY) (wR (bN (oN I.r) (aq S 4) (ba (ba (aq S 0) aQ) (aq S 3)))))) (cb gu) dM)))) (fun _=>rfl)) (cb gu)))
theorem mv:DefOk P w K mg base 1 "_law_down" 3 dC:=mk A.f35 A.g ["turns", "there", "room"] qN [] [] [0,1,2] [] [] fun X S I hp=>
 (bx (dD (bN (d5 I.r) (ba (aq S 0) (aq S 1)) dY) (cb gu) dM) (bx (dD (bN (dR I.r) (ba (ba (aq S 0) (aq S 1)) aQ) (ba (ba (aq S 0) (aq S 2)) aQ)) (cb (eQ (fA I.r) (ba (ba (aq S 0) (aq S 1)) aQ) (ba (ba (aq S 0) (aq S 2)) aQ))) dM) (cb (DO (eQ (fA I.r) (ba (ba (aq S 0) (aq S 1)) aQ) (ba (ba (aq S 0) (aq S 2)) aQ)) (oo (qT (eQ (cn I.r) (ba (ba (aq S 0) (aq S 1)) aQ) aQ) (oo (eQ (cn I.r) (ba (ba (aq S 0) (aq S 2)) aQ) aQ))))))))
theorem gX:DefOk P w K mg base 1 "_law_won_held" 6 cw:=mk A.f36 A.g ["world", "player", "rooms", "ranks", "plan", "room"] Dm ["steps", "one"] ["len", "max"] [0,1,2,3,4,5,6] [3] [0,1] fun X S I hp=>
 (bx (dy S false 6 (ba (ba (aq S 0) aQ) (aq S 5))) (bx (dD (bN (cn I.r) (ba (ba (aq S 0) aQ) (aq S 5)) (aq S 1)) (bx (dD (bN (d5 I.r) (ba (aq S 4) (aq S 5)) dY) (cb gu) dM) (gq (dy S false 6 (nh .leaf (aX (ba (aq S 4) (aq S 5))))))) dM) (bx (dD (ib (km (bN (dR I.r) (eQ (cn I.r) (ba (aq S 3) (aq S 5)) aQ) (eQ (jg I.r) (aq S 5) (aq S 2))) (nc (bN (me I.r) (e8 S 0 I.e.n2 (aX (fH [3,7] [3] [] S 7 (eO (aq S 6)) (fun Y1 S1 F1=>have I:=F1.i I;qU (bN (d5 I.r) (ba (aq S1 3) (aq S1 7)) dY)) (fun Y1 S1 F1=>have I:=F1.i I;(aq S1 7))))) aQ)))) (cb gu) dM) (cb (DO (eQ (cn I.r) (ba (aq S 3) (aq S 5)) aQ) (oo (eQ (fA I.r) (pD S 1 rfl rfl I.e.n9 (aX (fH [3,7] [3] [] S 7 (eO (aq S 6)) (fun _ _ _=>fy) (fun Y2 S2 F2=>(ba (aq S2 3) (aq S2 7))))) (eP rfl) rfl) (ba (aq S 3) (aq S 5)))))))))
theorem gy:DefOk P w K mg base 2 "_law_lost_held" 6 b8:=mk A.f37 A.g ["world", "player", "rooms", "turns", "counter", "room"] Dm ["steps", "one"] ["min", "_law_down", "all"] [0,1,2,3,4,5,6] [3,5] [0,2] fun X S I hp=>
 (bx (dy S false 6 (ba (ba (aq S 0) aQ) (aq S 5))) (bx (dD (bN (dR I.r) (ba (ba (aq S 0) aQ) (aq S 5)) (aq S 1)) (bx (dD (bN (d5 I.r) (ba (aq S 4) (aq S 5)) dY) (cb gu) dM) (gq (dy S false 6 (nh .leaf (aX (ba (aq S 4) (aq S 5))))))) dM) (bx (dD (ib (km (bN (fA I.r) (pC S 0 rfl rfl I.e.n10 (aX (ba (aq S 3) (aq S 5))) (eP rfl) rfl) aQ) (nc (ib (wM (bN (cn I.r) (ba (ba (aq S 3) (aq S 5)) aQ) aQ) (wR (bN (jg I.r) (aq S 5) (aq S 2)))))))) (cb gu) dM) (cb (qS S 2 rfl rfl I.e.n1 (aX (fH [3,5,7] [3,5] [1] S 7 (eO (aq S 6)) (fun _ _ _=>fy) (fun Y1 S1 F1=>have I:=F1.i I;(bP S1 1 (I.c (mv A)) (aT (aq S1 3) (aT (aq S1 7) (aX (aq S1 5)))))))) (eP rfl) rfl)))))
theorem fU:DefOk P w K mg base 3 "_law_again_held" 4 bH:=mk A.f38 A.g ["world", "player", "rooms", "told"] xE ["room", "ranks", "plan", "turns", "counter", "rank"] ["len", "_law_is_plan", "range", "_law_won_held", "_law_lost_held"] [0,1,2,3,4,5,6,7,8] [] [0,1,2,3,4] fun X S I hp=>
 (bx (jL S 5 6 7 8 rfl rfl rfl rfl rfl rfl rfl rfl (aq S 3) rfl rfl) (bx (dD (ib (km (bN (dR I.r) (e8 S 0 I.e.n2 (aX (aq S 5))) (e8 S 0 I.e.n2 (aX (ba (aq S 0) aQ)))) (nc (bN (dR I.r) (e8 S 0 I.e.n2 (aX (aq S 7))) (e8 S 0 I.e.n2 (aX (ba (aq S 0) aQ))))))) (cb gu) dM) (bx (dD (bN (me I.r) (e8 S 0 I.e.n2 (aX (fH [9] [] [] S 9 (eO (aq S 5)) (fun Y1 S1 F1=>have I:=F1.i I;qU (ib (wM (bN (t9 I.r) (aq S1 9) dY) (wR (bN (fA I.r) (aq S1 9) aQ))))) (fun Y1 S1 F1=>have I:=F1.i I;(aq S1 9))))) aQ) (cb gu) dM) (bx (dD (ib (km (qV (kr (bP S 1 (I.c (eB A)) (aT (aq S 0) (aT (aq S 1) (aX (aq S 6))))) (fun _=>rfl))) (nc (qV (kr (bP S 1 (I.c (eB A)) (aT (aq S 0) (aT (Aw aQ (aq S 1)) (aX (aq S 8))))) (fun _=>rfl)))))) (cb gu) dM) (bx (wL S 4 rfl rfl hp (d9 S 2 rfl rfl I.e.n3 (aX (e8 S 0 I.e.n2 (aX (aq S 5)))) (eX rfl)) (bx (dD (bN (cn I.r) (eQ (d5 I.r) (ba (aq S 5) (aq S 4)) dY) (eQ (d5 I.r) (ba (aq S 7) (aq S 4)) dY)) (cb gu) dM) (bx (dD (ib (wM (bN (d5 I.r) (ba (aq S 7) (aq S 4)) dY) (wR (qV (kr (bP S 3 (I.c (gX A)) (aT (aq S 0) (aT (aq S 1) (aT (aq S 2) (aT (aq S 5) (aT (aq S 6) (aX (aq S 4)))))))) (fun _=>rfl)))))) (cb gu) dM) (gq (dD (bN (t9 I.r) (ba (aq S 7) (aq S 4)) dY) (gq (dD (qV (kr (bP S 4 (I.c (gy A)) (aT (aq S 0) (aT (aq S 1) (aT (aq S 2) (aT (aq S 7) (aT (aq S 8) (aX (aq S 4)))))))) (fun _=>rfl))) (cb gu) dM)) dM)))) (fun _=>rfl)) (cb gu))))))
theorem mw:DefOkL P w K mg base 2 "_law_bent" [.leaf,.tup [.lst .leaf,.lst .leaf,.lst .leaf,.lst .leaf],.leaf] m__law_bent:=Hu A.f39 A.g ["world", "told", "cell"] qN rfl ["kind", "room", "number", "other", "steps"] ["_law_draw", "len"] [0,1,2,3,4,5,6,7] [] [0,1] fun X S I hp=>
 (ub (AX S false 3 rfl rfl rfl (bP S 0 (I.c (i6 A)) (aT (aq S 2) (aT aQ (aX aQ))))) (ub (AX S false 4 rfl rfl rfl (rj (bP S 0 (I.c (i6 A)) (aT (aq S 2) (aT aQ (aX aQ)))) (e8 S 1 I.e.n2 (aX (ba (aq S 0) aQ))))) (ub (AX S false 5 rfl rfl rfl (Aw (bP S 0 (I.c (i6 A)) (aT (aq S 2) (aT aQ (aX aQ)))) aQ)) (ub (Ar (bN (cn I.r) (aq S 3) aQ) (xU (CV S 1 aQ (ba (nh .leaf (aT dY (aT (aq S 5) (aX aQ)))) (bP S 0 (I.c (i6 A)) (aT (aq S 2) (aT aQ (aX aQ))))) (aq S 4) (fun _=>rfl))) Ax) (ub (Ar (bN (cn I.r) (aq S 3) aQ) (ub (AX S false 6 rfl rfl rfl (bP S 0 (I.c (i6 A)) (aT (aq S 2) (aT aQ (aX aQ))))) (xU (CV S 1 aQ (ba (nh .leaf (aT dY (aT (om (aT (aq S 5) (aX (aq S 6)))) (aT (om (aT aQ (aX aQ))) (aX (om (aT (aq S 6) (aX (aq S 5))))))))) (bP S 0 (I.c (i6 A)) (aT (aq S 2) (aT aQ (aX aQ))))) (aq S 4) (fun _=>rfl)))) Ax) (ub (Ar (ib (km (bN (cn I.r) (aq S 3) aQ) (nc (bN (cn I.r) (aq S 3) aQ)))) (xU (CV S 1 (Aw (ua aQ (aq S 3)) aQ) (ba (nh .leaf (aT dY (aX (rj (bP S 0 (I.c (i6 A)) (aT (aq S 2) (aT aQ (aX aQ)))) (e8 S 1 I.e.n2 (aX (ba (aq S 0) aQ))))))) (rj (bP S 0 (I.c (i6 A)) (aT (aq S 2) (aT aQ (aX aQ)))) aQ)) (aq S 4) (fun _=>rfl))) Ax) (ub (Ar (ib (km (bN (cn I.r) (aq S 3) aQ) (nc (bN (cn I.r) (aq S 3) aQ)))) (ub (AX S false 7 rfl rfl rfl (ba (ba (aq S 0) aQ) (aq S 4))) (xU (CV S 1 (Aw (ua aQ (aq S 3)) aQ) (ba (aq S 7) (rj (bP S 0 (I.c (i6 A)) (aT (aq S 2) (aT aQ (aX aQ)))) (e8 S 1 I.e.n2 (aX (aq S 7))))) (aq S 4) (fun _=>rfl)))) Ax) (ub (Ar (bN (cn I.r) (aq S 3) aQ) (xU (nk S 1 (bP S 0 (I.c (i6 A)) (aT (aq S 2) (aT aQ (aX aQ)))) dY)) Ax) (xU (Ar (bN (cn I.r) (aq S 3) aQ) (xU (nj S 1 (bP S 0 (I.c (i6 A)) (aT (aq S 2) (aT aQ (aX aQ)))))) Ax))))))))))
theorem jl:DefOk P w K mg base 2 "_law_forged" 4 cS:=mk A.f40 A.g ["world", "player", "rooms", "cell"] xE ["first", "none", "mine", "theirs", "steps", "room"] ["len", "range", "_law_draw", "list"] [0,1,2,3,4,5,6,7] [0,1,2,4] [0,1,2,3] fun X S I hp=>
 (bx (D0 S false 4 rfl rfl (gF (S.cel 4 _ rfl rfl)) (fH [8] [] [] S 8 (eO (ba (aq S 0) aQ)) (fun _ _ _=>fy) (fun Y1 S1 F1=>(ba (aq S1 8) aQ)))) (bx (uq (vs':=[9]) (cs':=[]) (lo':=[]) (gs':=[]) S true 5 .leaf 9 rfl rfl rfl rfl (by kernel_rfl) (by kernel_rfl) (by kernel_rfl) (eO (aq S 4)) (fun _ _ _=>fy) (fun Y2 S2 F2=>dY) (fun _=>rfl)) (bx (uq (vs':=[0,1,4,9]) (cs':=[0,1,4]) (lo':=[]) (gs':=[]) S false 6 .leaf 9 rfl rfl rfl rfl (by kernel_rfl) (by kernel_rfl) (by kernel_rfl) (d9 S 1 rfl rfl I.e.n3 (aX (e8 S 0 I.e.n2 (aX (aq S 4)))) (eX rfl)) (fun _ _ _=>fy) (fun Y3 S3 F3=>have I:=F3.i I;(uk (bN (cn I.r) (ba (ba (aq S3 0) aQ) (aq S3 9)) (aq S3 1)) (ba (aq S3 4) (aq S3 9)) dY)) (fun _=>rfl)) (bx (uq (vs':=[0,1,4,9]) (cs':=[0,1,4]) (lo':=[]) (gs':=[]) S false 7 .leaf 9 rfl rfl rfl rfl (by kernel_rfl) (by kernel_rfl) (by kernel_rfl) (d9 S 1 rfl rfl I.e.n3 (aX (e8 S 0 I.e.n2 (aX (aq S 4)))) (eX rfl)) (fun _ _ _=>fy) (fun Y4 S4 F4=>have I:=F4.i I;(uk (bN (dR I.r) (ba (ba (aq S4 0) aQ) (aq S4 9)) (aq S4 1)) (ba (aq S4 4) (aq S4 9)) dY)) (fun _=>rfl)) (bx (dD (bN (cn I.r) (bP S 2 (I.c (i6 A)) (aT (aq S 3) (aT aQ (aX aQ)))) aQ) (cb (om (aT (AB S 3 rfl rfl I.e.n5 (aq S 5) (eX rfl)) (aT (fI S 5 rfl rfl) (aT (fH [9] [] [] S 9 (eO (aq S 4)) (fun _ _ _=>fy) (fun Y5 S5 F5=>(om (aT aQ (aX aQ))))) (aX (aq S 7))))))) dM) (cb (om (aT (fH [2,9] [2] [] S 9 (d9 S 1 rfl rfl I.e.n3 (aX (e8 S 0 I.e.n2 (aX (aq S 4)))) (eX rfl)) (fun _ _ _=>fy) (fun Y6 S6 F6=>have I:=F6.i I;(uk (bN (jg I.r) (aq S6 9) (aq S6 2)) aQ aQ))) (aT (aq S 6) (aT (AB S 3 rfl rfl I.e.n5 (aq S 5) (eX rfl)) (aX (fI S 5 rfl rfl))))))))))))
theorem o_law {fa:Addr} (hfa:mg "law"=some (.ref fa)):∃fd:FuncData,(∀(s:Shared) (v:Value),BindsTo s fd ⟨[v],[]⟩ [("script",v)])/\∀base:Heap,K.In base->base.Ns mainGlobals mg->eN P w K mg base lA 8 fa fd ["script"] (qX K 1 m_law):=Hv A.f41 A.g "script" xG hfa ["world", "many", "cell", "player", "rooms", "told", "kept", "due", "turn", "ranks", "plan", "turns", "counter", "found", "rank"] ["_law_world", "len", "_law_cell_at", "_law_draw", "_law_rooms", "again", "_law_forged", "_law_bent", "_law_twin", "list", "repr", "_law_again_held", "range", "again_shows", "isinstance", "bool"] [0,1,2,3,4,5,6,7,8,9,10,11,12,13,14] [] [0,1,2,3,4,5,6,7,8,9,10,11,12,13,14,15] fun base X S I hp=>
 (bx (dy S false 1 (bP S 0 (I.c (kE A)) (aT (aq S 0) (aT aQ (aX aQ))))) (bx (dy S false 2 (e8 S 1 I.e.n2 (aX (ba (aq S 1) aQ)))) (bx (dy S false 3 (bP S 2 (I.c (A5 A)) (aT (aq S 0) (aX aQ)))) (bx (dy S false 4 (bP S 3 (I.c (i6 A)) (aT (aq S 3) (aT aQ (aX aQ))))) (bx (dy S false 5 (bP S 4 (I.c (fT A)) (aT (bP S 2 (I.c (A5 A)) (aT (aq S 0) (aX aQ))) (aX (aq S 2))))) (bx (jL S 10 11 12 13 rfl rfl rfl rfl rfl rfl rfl rfl (bP S 5 (I.c (vm A)) (aT (aq S 1) (aT (aq S 4) (aX (aq S 5))))) rfl rfl) (bx (dD (bN (cn I.r) (bP S 3 (I.c (i6 A)) (aT (aq S 3) (aT aQ (aX aQ)))) aQ) (bx (uq (vs':=[15]) (cs':=[]) (lo':=[]) (gs':=[]) S true 10 .leaf 15 rfl rfl rfl rfl (by kernel_rfl) (by kernel_rfl) (by kernel_rfl) (eO (aq S 10)) (fun _ _ _=>fy) (fun Y1 S1 F1=>have I:=F1.i I;(uk (bN (d5 I.r) (aq S1 15) dY) (aq S1 15) (ua aQ (aq S1 15)))) (fun _=>rfl)) (lD 12 (gq (uq (vs':=[9]) (cs':=[]) (lo':=[]) (gs':=[]) S true 12 .leaf 9 rfl rfl rfl rfl (by kernel_rfl) (by kernel_rfl) (by kernel_rfl) (eO (aq S 12)) (fun _ _ _=>fy) (fun Y2 S2 F2=>have I:=F2.i I;(uk (bN (d5 I.r) (aq S2 9) dY) (aq S2 9) (om (aT (qW (ua aQ (ba (aq S2 9) aQ)) aQ) (aX (ua aQ (ba (aq S2 9) aQ))))))) (fun _=>rfl))))) dM) (bx (dy S true 6 (om (aT (fI S 10 rfl rfl) (aT (fI S 11 rfl rfl) (aT (fI S 12 rfl rfl) (aX (fI S 13 rfl rfl))))))) (bx (dD (bN (cn I.r) (bP S 3 (I.c (i6 A)) (aT (aq S 3) (aT aQ (aX aQ)))) aQ) (gq (dy S true 6 (bP S 6 (I.c (jl A)) (aT (aq S 1) (aT (aq S 4) (aT (aq S 5) (aX (aq S 3)))))))) (gq (pw S 7 (I.l (mw A)) (Eo S 1 (Eo S 6 (Eo S 3 rC)))))) (bx (dD (bN (cn I.r) (bP S 3 (I.c (i6 A)) (aT (aq S 3) (aT aQ (aX aQ)))) aQ) (gq (dy S false 5 (bP S 4 (I.c (fT A)) (aT (bP S 2 (I.c (A5 A)) (aT (aq S 0) (aX aQ))) (aX (aq S 2)))))) dM) (lD 6 (bx (dy S false 7 (nh .leaf (aT (bP S 8 (I.c (mr A)) (aX (aq S 1))) (aT (AB S 9 rfl rfl I.e.n5 (aq S 5) (eX rfl)) (aX (jN S I.r I.rm.gd 10 rfl rfl I.e.n11 (aq S 6) (eX rfl) rfl)))))) (bx (dy S false 8 (bP S 11 (I.c (fU A)) (aT (aq S 1) (aT (aq S 4) (aT (aq S 5) (aX (aq S 6))))))) (bx (wL S 9 rfl rfl hp (d9 S 12 rfl rfl I.e.n3 (aX aQ) (eX rfl)) (bx (dy S false 14 (bP S 13 (I.c (jk A)) (aT (aq S 1) (aT (aq S 4) (aT (aq S 5) (aX (aq S 6))))))) (gq (dD (ib (km (qV (kr (CM S 14 15 rfl rfl rfl rfl rfl tM I.e.n7 I.e.n8 (aq S 14) (eP rfl) (eP rfl) rfl) (fun _=>rfl))) (km (bN (dR I.r) (aq S 14) (aq S 8)) (nc (bN (dR I.r) (nh .leaf (aT (aq S 1) (aT (aq S 5) (aX (jN S I.r I.rm.gd 10 rfl rfl I.e.n11 (aq S 6) (eX rfl) rfl))))) (aq S 7)))))) (cb gu) dM))) (fun _=>rfl)) (cb gu)))))))))))))))
end
end KQ.Y.V
open PySem PySem.W PyProof.Rows
def PySem.W.Fast.tw394692317525198469:=0
def PySem.W.Fast.tw14620466059376187111:=0
def PySem.W.Fast.tw4743062969566546032:=0
def PySem.W.Fast.tw346475482432658418:=0
def PySem.W.Fast.tw17154686901845469750:=0
def PySem.W.Fast.tw11167545383955731799:=0
def PySem.W.Fast.tw685562398974423927:=0
def PySem.W.Fast.tw12982511069395865368:=0
def PySem.W.Fast.tw3853386665354723128:=0
def PySem.W.Fast.tw316521888466619580:=0
def PySem.W.Fast.tw12020591406561625756:=0
def PySem.W.Fast.tw14046387500987567389:=0
set_option maxRecDepth 100000 in
set_option maxHeartbeats 0 in
theorem PySem.Challenge.cw_foreseehall_k71_again_judged_holds : PySem.Challenge.rw_foreseehall_k71_again_judged.Holds := by
 w_on;o_law;k_head;(case hw=>w_witness2)
 k_fill
 refine T.walkG (j:=8) (l:=PySem.Challenge.rw_foreseehall_k71_again_judged) KQ.Y.V.law_true ⟨rfl,by decide,by decide,rfl⟩ rfl rfl (fun w h Y=>PySem.W.kIn_of Y) ?F
 case F=>
  intro w mg fa h KX G hmg;refine' KQ.Y.V.o_law (.mk (.mk (T.gn KX G ?z0) (T.gn KX G ?z1) (T.gn KX G ?z2) (T.gn KX G ?z3) (T.gn KX G ?z4) (T.gn KX G ?z5) (T.gn KX G ?z6) (T.gn KX G ?z7) (T.gn KX G ?z8) (T.gn KX G ?z9) (T.gn KX G ?z10) (T.gn KX G ?z11) (T.gt KX G ?e0 ?q0 ?v0) (T.gi KX G ?e1) (T.gt KX G ?e2 ?q2 ?v2)) (T.ft KX G ?a0 ?l0 ?c0 ?k0) (T.ft KX G ?a1 ?l1 ?c1 ?k1) (T.ft KX G ?a2 ?l2 ?c2 ?k2) (T.ft KX G ?a3 ?l3 ?c3 ?k3) (T.ft KX G ?a4 ?l4 ?c4 ?k4) (T.ft KX G ?a5 ?l5 ?c5 ?k5) (T.ft KX G ?a6 ?l6 ?c6 ?k6) (T.ft KX G ?a7 ?l7 ?c7 ?k7) (T.ft KX G ?a8 ?l8 ?c8 ?k8) (T.ft KX G ?a9 ?l9 ?c9 ?k9) (T.ft KX G ?a10 ?l10 ?c10 ?k10) (T.ft KX G ?a11 ?l11 ?c11 ?k11) (T.ft KX G ?a12 ?l12 ?c12 ?k12) (T.ft KX G ?a13 ?l13 ?c13 ?k13) (T.ft KX G ?a14 ?l14 ?c14 ?k14) (T.ft KX G ?a15 ?l15 ?c15 ?k15) (T.ft KX G ?a16 ?l16 ?c16 ?k16) (T.ft KX G ?a17 ?l17 ?c17 ?k17) (T.ft KX G ?a18 ?l18 ?c18 ?k18) (T.ft KX G ?a19 ?l19 ?c19 ?k19) (T.ft KX G ?a20 ?l20 ?c20 ?k20) (T.ft KX G ?a21 ?l21 ?c21 ?k21) (T.ft KX G ?a22 ?l22 ?c22 ?k22) (T.ft KX G ?a23 ?l23 ?c23 ?k23) (T.ft KX G ?a24 ?l24 ?c24 ?k24) (T.ft KX G ?a25 ?l25 ?c25 ?k25) (T.ft KX G ?a26 ?l26 ?c26 ?k26) (T.ft KX G ?a27 ?l27 ?c27 ?k27) (T.ft KX G ?a28 ?l28 ?c28 ?k28) (T.ft KX G ?a29 ?l29 ?c29 ?k29) (T.ft KX G ?a30 ?l30 ?c30 ?k30) (T.ft KX G ?a31 ?l31 ?c31 ?k31) (T.ft KX G ?a32 ?l32 ?c32 ?k32) (T.ft KX G ?a33 ?l33 ?c33 ?k33) (T.ft KX G ?a34 ?l34 ?c34 ?k34) (T.ft KX G ?a35 ?l35 ?c35 ?k35) (T.ft KX G ?a36 ?l36 ?c36 ?k36) (T.ft KX G ?a37 ?l37 ?c37 ?k37) (T.ft KX G ?a38 ?l38 ?c38 ?k38) (T.ft KX G ?a39 ?l39 ?c39 ?k39) (T.ft KX G ?a40 ?l40 ?c40 ?k40) (T.ft KX G ?a41 ?l41 ?c41 ?k41)) hmg
  case a0|l0|c0|k0|a1|l1|c1|k1|a2|l2|c2|k2|a3|l3|c3|k3|a4|l4|c4|k4|a5|l5|c5|k5|a6|l6|c6|k6|a7|l7|c7|k7|a8|l8|c8|k8|a9|l9|c9|k9|a10|l10|c10|k10|a11|l11|c11|k11|a12|l12|c12|k12|a13|l13|c13|k13|a14|l14|c14|k14|a15|l15|c15|k15|a16|l16|c16|k16|a17|l17|c17|k17|a18|l18|c18|k18|a19|l19|c19|k19|a20|l20|c20|k20|a21|l21|c21|k21|a22|l22|c22|k22|a23|l23|c23|k23|a24|l24|c24|k24|a25|l25|c25|k25|a26|l26|c26|k26|a27|l27|c27|k27|a28|l28|c28|k28|a29|l29|c29|k29|a30|l30|c30|k30|a31|l31|c31|k31|a32|l32|c32|k32|a33|l33|c33|k33|a34|l34|c34|k34|a35|l35|c35|k35|a36|l36|c36|k36|a37|l37|c37|k37|a38|l38|c38|k38|a39|l39|c39|k39|a40|l40|c40|k40|a41|l41|c41|k41|z0|z1|z2|z3|z4|z5|z6|z7|z8|z9|z10|z11|e0|q0=>k_is
  case v0=>kernel_rfl
  case e1|e2|q2=>k_is
  case v2=>kernel_rfl
