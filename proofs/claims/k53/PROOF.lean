import PyProof.Rows.All
import Wide.All
import OpenK.AllK
import Wide.FinOn
import PyProof.EqAt
import PyProof.EqKinds
import PyProof.TupleCall
import PyProof.StrBlockH
import PyProof.StrWalks
import PyProof.StrCalls
import PyProof.SetRoads
import PyProof.DictRoadsH
import Lean
import PySem.Challenge.RW_foreseehall_k53_fair_papers_told
open List (mem_append_right mem_append_left getElem?_eq_getElem length_map mem_cons_of_mem mem_cons_self append_assoc getElem?_map mem_of_getElem? length_set getD_eq_getElem?_getD all_eq_true getElem?_set_ne map_cons size_toArray length_append getElem?_set_self length_cons length_filter_le mem_cons not_mem_nil map_map contains_iff_mem set_set lookup_cons nodup_nil append_nil getElem?_append_left getElem?_append_right any_eq_true length_singleton getElem_mem flatten_cons getElem_of_mem getElem?_set pairwise_map nil_append perm_append_comm getElem?_eq_none filter_cons any_eq_false of_mem_zip getElem?_toArray ext_getElem? all_map mem_map mem_filter exists_mem_of_ne_nil all_cons isEmpty_iff getElem?_replicate map_nil mem_range length_nil filter_congr any_map length_pos_of_mem map_congr_left filter_eq_nil_iff)
set_option Elab.async false
set_option linter.all false
set_option maxRecDepth 100000
set_option maxHeartbeats 4000000
set_option maxRecDepth 10000
abbrev Fg:=PySem.W.Frag
namespace L2
open PySem PySem.Spec PyProof.Rows
variable {us its its':List Value} {u:Value} {b it dx:Addr} {α:Type} {h base:Heap} {o:Obj} {g':Array GenState} {t' k n:Nat} {d':Drawn} {x qual:Str} {e tg l:Expr} {N ps:List Str} {M:Model} {A:Around} {s':Shared} {pos pos':Pos} {pins:List (Addr×Obj)} {es:List Expr} {fp:List Addr} {g:Int->Int->Int} {mA mg:Str->Option Value} {scope:Scope}
abbrev kr:=Sum Int Str
def xx:kr->Value->Bool
 | .inl k,v=>Value.isInt k v
 | .inr x,v=>Value.isStrOf x v
def FW (w:World):kr->Int
 | .inl k=>hashInt k
 | .inr x=>hashStr w x
theorem uH:∀{k:kr} {v:Value},xx k v=true->(∃i t,k=Sum.inl i/\v=Value.int i t)\/(∃x t,k=Sum.inr x/\v=Value.str x t)
 | .inl i,v,h=>by
  obtain ⟨t,e⟩:=Value.isInt_shape (k:=i) (v:=v) h
  exact .inl ⟨i,t,rfl,e⟩
 | .inr x,v,h=>by
  obtain ⟨t,e⟩:=Value.isStrOf_shape (x:=x) (v:=v) h
  exact .inr ⟨x,t,rfl,e⟩
theorem zL (a b:Int):decide ((Sum.inl a:kr)=Sum.inl b)=(a==b):=by
 by_cases e:a=b
 ·subst e;simp
 ·have h:¬(Sum.inl a:kr)=Sum.inl b:=fun q=>e (Sum.inl.inj q)
  rw [decide_eq_false h];exact (beq_eq_false_iff_ne.mpr e).symm
theorem zI (a b:Str):decide ((Sum.inr a:kr)=Sum.inr b)=decide (a=b):=by
 by_cases e:a=b
 ·subst e;simp
 ·have h:¬(Sum.inr a:kr)=Sum.inr b:=fun q=>e (Sum.inr.inj q)
  rw [decide_eq_false h,decide_eq_false e]
theorem zK (a:Int) (b:Str):decide ((Sum.inl a:kr)=Sum.inr b)=false:=decide_eq_false (fun q=>nomatch q)
theorem zJ (a:Str) (b:Int):decide ((Sum.inr a:kr)=Sum.inl b)=false:=decide_eq_false (fun q=>nomatch q)
def Em (prog:Program) (w:World):PySem.KeyKind prog w kr where
 is:=xx
 hash:=FW w
 inj:=fun v a b ha hb=>by
  rcases uH ha with ⟨i,t,rfl,rfl⟩ | ⟨x,t,rfl,rfl⟩
  ·rcases uH hb with ⟨j,u,rfl,e⟩ | ⟨y,u,rfl,e⟩
   ·injection e with e1 _;rw [e1]
   ·exact nomatch e
  ·rcases uH hb with ⟨j,u,rfl,e⟩ | ⟨y,u,rfl,e⟩
   ·exact nomatch e
   ·injection e with e1 _;rw [e1]
 byValue:=fun k v h=>by
  rcases uH h with ⟨i,t,rfl,rfl⟩ | ⟨x,t,rfl,rfl⟩<;>rfl
 pyHash:=fun hv h=>by
  rcases uH hv with ⟨i,t,rfl,rfl⟩ | ⟨x,t,rfl,rfl⟩
  ·exact wpAny_pyHash_int h
  ·exact wpAny_pyHash_str h
 eqBool:=fun hu hv h=>by
  rcases uH hu with ⟨i,t,rfl,rfl⟩ | ⟨x,t,rfl,rfl⟩
  ·rcases uH hv with ⟨j,u,rfl,rfl⟩ | ⟨y,u,rfl,rfl⟩
   ·rw [zL] at h;exact wpAny_eqBool_int h
   ·rw [zK] at h;exact SeqAt.EqAt.int_str i t y u _ _ _ _ h
  ·rcases uH hv with ⟨j,u,rfl,rfl⟩ | ⟨y,u,rfl,rfl⟩
   ·rw [zJ] at h;exact SeqAt.EqAt.str_int x t j u _ _ _ _ h
   ·rw [zI] at h;exact wpAny_eqBool_str h
 «strs»:=fun k x t v h=>by
  rcases uH h with ⟨i,u,rfl,e⟩ | ⟨y,u,rfl,e⟩
  ·exact nomatch e
  ·injection e with e1 _
   subst e1
   cases v<;>rfl
inductive V where
 | non | bl (b:Bool) | int (i:Int) | str (x:Str) | byt (b:Array UInt8) | flt (b:UInt64) | ref (a:Addr) | ty (n:String)
 deriving DecidableEq
def RelV:V->Value->Prop
 | .non,u=>u=Value.none
 | .bl b,u=>u=Value.bool b
 | .int i,u=>∃t,u=Value.int i t
 | .str x,u=>∃t,u=Value.str x t
 | .byt b,u=>∃t,u=Value.bytes b t
 | .flt b,u=>∃t,u=Value.float b t
 | .ref a,u=>u=Value.ref a
 | .ty n,u=>u=Value.type n
abbrev Vals:List V->List Value->Prop:=Paired RelV
theorem Vals.length {xs:List V} (r:Vals xs us):xs.length=us.length:=Paired.length r
theorem Vals.get:∀{xs:List V} {us:List Value} {i:Nat} {x:V},Vals xs us->xs[i]?=some x->∃u,us[i]?=some u/\RelV x u
 | _,_,_,_,.nil,e=>by simp at e
 | _,_,0,_,.cons r _,e=>by simp at e;subst e;exact ⟨_,rfl,r⟩
 | _,_,i+1,x,.cons _ t,e=>by
  obtain ⟨u,h1,h2⟩:=Vals.get (i:=i) (x:=x) t (by simpa using e)
  exact ⟨u,by simpa using h1,h2⟩
theorem Vals.set {x:V} (r:RelV x u):∀{xs:List V} {us:List Value} (i:Nat),Vals xs us->Vals (xs.set i x) (us.set i u)
 | _,_,_,.nil=>.nil
 | _,_,0,.cons _ t=>.cons r t
 | _,_,i+1,.cons q t=>.cons q (Vals.set r i t)
theorem Vals.append:∀{xs ys:List V} {us ws:List Value},Vals xs us->Vals ys ws->Vals (xs++ys) (us++ws)
 | _,_,_,_,.nil,s=>s
 | _,_,_,_,.cons r t,s=>.cons r (Vals.append t s)
def AM:Option V->Option Value->Prop
 | some v,some u=>RelV v u
 | none,none=>True
 | _,_=>False
def KV {κ:Type}:List (κ×V)->List (κ×Value)->Prop:=Paired fun (p:κ×V) (q:κ×Value)=>p.1=q.1/\RelV p.2 q.2
def kV:kr->V
 | .inl i=>.int i
 | .inr x=>.str x
inductive HO where
 | lst (xs:List V)
 | tup (xs:List V)
 | dK (kvs:List (kr×V)) | dT (kvs:List (List kr×V))
 | set (S:Int->Bool) (n:Nat)
 | ins (C dx:Addr) (fs:List (Str×V))
 | own (x:Addr)
 | xd (fs:List (Str×V))
 | met (f x:Addr)
 | rng (lo hi:Int)
 | frz (o:Obj) (u:HO)
 | tbl (ps:Array Value)
 | ext (φ:Heap->Prop)
abbrev Hp:=Addr->Option HO
def bA (H:Hp) (a:Addr) (o:HO):Hp:=fun b=>if b=a then some o else H b
theorem fL {H:Hp} {a:Addr} {o:HO}:bA H a o a=some o:=by unfold bA;rw [if_pos rfl]
theorem dB {H:Hp} {a:Addr} {o:HO} (h:b≠a):bA H a o b=H b:=by unfold bA;rw [if_neg h]
theorem uj {H:Hp} {a:Addr} {o:HO} (h:H a=some o) (h':H b=none):a≠b:=by
 intro e;subst e;rw [h] at h';cases h'
section
variable (P:Program) (w:World)
def ObjOk (H:Hp) (h:Heap) (a:Addr):HO->Prop
 | .lst xs=>xs.length<=sizeLine/\∃(its:List Value) (n:Nat),Vals xs its/\h.get? a=some { cls:=.type "list",data:=.seq its.toArray n }
 | .tup xs=>xs.length<=sizeLine/\∃its:List Value,Vals xs its/\IsTup h a its.toArray
 | .dK kvs=>kvs.length<=sizeLine/\(a==sysModules)=false/\∃vs,KV kvs vs/\h.DictOf (Em P w) a vs
 | .dT kvs=>kvs.length<=sizeLine/\(a==sysModules)=false/\∃xs:List (List kr×Addr×Value),
   Paired (fun (p:List kr×V) (q:List kr×Addr×Value)=>p.1=q.1/\H q.2.1=some (.tup (p.1.map kV))/\RelV p.2 q.2.2) kvs xs /\
   ∃o es ep,h.get? a=some o/\o.ExactDict/\o.data=.dict es ep/\es.toList=xs.map (entryOfKey (tupleKind (Em P w)))/\(xs.map (·.1)).Nodup
 | .set S n=>h.SetOf (intKind P w) a S n
 | .ins C dx fs=>H dx=some (.own a)/\fs.length<=1000/\dx≠a/\h.get? a=some (PySem.W.instObj C dx) /\
   ∃mA,h.Ns1 dx mA/\(∀f,AM (fs.lookup f) (mA f))/\PySem.Within mA (fs.map (·.1))
 | .own _=>∃o,h.get? a=some o
 | .xd fs=>∃mA,h.Ns1 a mA/\∀f,AM (fs.lookup f) (mA f)
 | .rng lo hi=>∃t u v,h.get? a=some { cls:=.type "range",data:=.fields #[.int lo t,.int hi u,.int 1 v] }
 | .frz o u=>h.get? a=some o/\ObjOk H h a u
 | .tbl ps=>h.get? a=some { cls:=.none,data:=.fields ps }
 | .met f x=>h.get? a=some (PySem.W.methodObj (.ref f) (.ref x))
 | .ext φ=>φ h/\(∃o,h.get? a=some o)/\∀h1 h2:Heap,φ h1->(∀o,h1.get? a=some o->h2.get? a=some o)->φ h2
def HOk (H:Hp) (h:Heap):Prop:=∀a o,H a=some o->ObjOk P w H h a o
end
section
variable {P:Program} {w:World} {H H':Hp} {h h':Heap} {a:Addr} {o:HO}
theorem ObjOk.lt (x:ObjOk P w H h a o):a<h.objs.size:=by
 cases o with
 | lst xs=>obtain ⟨_,_,_,_,e⟩:=x;exact Heap.lt_size e
 | tup xs=>obtain ⟨_,_,_,p⟩:=x;exact p.lt
 | dK kvs=>obtain ⟨_,_,_,_,o,_,_,e,_⟩:=x;exact Heap.lt_size e
 | dT kvs=>obtain ⟨_,_,_,_,o,_,_,e,_⟩:=x;exact Heap.lt_size e
 | set S n=>obtain ⟨o,_,_,_,e,_⟩:=x;exact Heap.lt_size e
 | ins C dx fs=>obtain ⟨_,_,_,e,_⟩:=x;exact Heap.lt_size e
 | own y=>obtain ⟨_,e⟩:=x;exact Heap.lt_size e
 | xd fs=>obtain ⟨_,⟨_,_,_,e,_⟩,_⟩:=x;exact Heap.lt_size e
 | rng lo hi=>obtain ⟨_,_,_,e⟩:=x;exact Heap.lt_size e
 | frz ob u=>obtain ⟨e,_⟩:=x;exact Heap.lt_size e
 | tbl ps=>exact Heap.lt_size (show h.get? a=some _ from x)
 | met f y=>exact Heap.lt_size (show h.get? a=some _ from x)
 | ext φ=>obtain ⟨_,⟨_,e⟩,_⟩:=x;exact Heap.lt_size e
theorem Paired.mapP {β:Type} {F G:α->β->Prop}:∀{l₁:List α} {l₂:List β},Paired F l₁ l₂->(∀a b,F a b->G a b)->Paired G l₁ l₂
 | _,_,.nil,_=>.nil
 | _,_,.cons r t,f=>.cons (f _ _ r) (Paired.mapP t f)
theorem ObjOk.stay (x:ObjOk P w H h a o) (k:∀b u,(b=a\/H b=some (.own a))->h.get? b=some u->h'.get? b=some u)
  (ho:∀b,H b=some (.own a)->H' b=some (.own a)) (ht:∀b xs,H b=some (.tup xs)->H' b=some (.tup xs)):ObjOk P w H' h' a o:=by
 induction o with
 | lst xs=>obtain ⟨z,its,n,r,e⟩:=x;exact ⟨z,its,n,r,k _ _ (.inl rfl) e⟩
 | tup xs=>obtain ⟨z,its,r,ob,e,c⟩:=x;exact ⟨z,its,r,ob,k _ _ (.inl rfl) e,c⟩
 | dK kvs=>obtain ⟨z,y,vs,r,ob,es,ep,e,c⟩:=x;exact ⟨z,y,vs,r,ob,es,ep,k _ _ (.inl rfl) e,c⟩
 | dT kvs=>
  obtain ⟨z,y,xs,r,ob,es,ep,e,c⟩:=x;exact ⟨z,y,xs,Paired.mapP r fun p q z=>⟨z.1,ht _ _ z.2.1,z.2.2⟩,ob,es,ep,k _ _ (.inl rfl) e,c⟩
 | set S n=>obtain ⟨ob,es,ep,t,e,c⟩:=x;exact ⟨ob,es,ep,t,k _ _ (.inl rfl) e,c⟩
 | ins C dx fs=>
  obtain ⟨d,z,ne,e,mA,⟨od,es,ep,e2,c⟩,r⟩:=x;exact ⟨ho _ d,z,ne,k _ _ (.inl rfl) e,mA,⟨od,es,ep,k _ _ (.inr d) e2,c⟩,r⟩
 | own y=>obtain ⟨ob,e⟩:=x;exact ⟨ob,k _ _ (.inl rfl) e⟩
 | xd fs=>obtain ⟨mA,⟨od,es,ep,e,c⟩,r⟩:=x;exact ⟨mA,⟨od,es,ep,k _ _ (.inl rfl) e,c⟩,r⟩
 | rng lo hi=>obtain ⟨t,u,v,e⟩:=x;exact ⟨t,u,v,k _ _ (.inl rfl) e⟩
 | frz ob u ih=>obtain ⟨e,q⟩:=x;exact ⟨k _ _ (.inl rfl) e,ih q⟩
 | tbl ps=>
  have e:h.get? a=some { cls:=.none,data:=.fields ps }:=x
  show h'.get? a=some { cls:=.none,data:=.fields ps }
  exact k a _ (.inl rfl) e
 | met f y=>
  have e:h.get? a=some (PySem.W.methodObj (.ref f) (.ref y)):=x
  show h'.get? a=some (PySem.W.methodObj (.ref f) (.ref y))
  exact k a _ (.inl rfl) e
 | ext φ=>obtain ⟨p,⟨o,e⟩,st⟩:=x;exact ⟨st _ _ p fun o q=>k _ _ (.inl rfl) q,⟨o,k _ _ (.inl rfl) e⟩,st⟩
theorem HOk.lt (x:HOk P w H h) (e:H a=some o):a<h.objs.size:=(x a o e).lt
theorem HOk.fresh (x:HOk P w H h) (e:h.objs.size<=a):H a=none:=by
 cases q:H a with
 | none=>rfl
 | some u=>exact absurd (Nat.lt_of_lt_of_le (x.lt q) e) (Nat.lt_irrefl _)
theorem HOk.kept (x:HOk P w H h) (k:∀b u,h.get? b=some u->h'.get? b=some u):HOk P w H h':=fun a o e=>
 (x a o e).stay (fun b u _ q=>k b u q) (fun _ q=>q) fun _ _ q=>q
theorem HOk.laid (x:HOk P w H h) (k:∀b u,h.get? b=some u->h'.get? b=some u) (hp:h.objs.size<=a) (new:ObjOk P w (bA H a o) h' a o):HOk P w (bA H a o) h':=fun b u e=>by
 have hn:=x.fresh hp
 by_cases hb:b=a
 ·subst hb;rw [fL] at e;cases e;exact new
 ·rw [dB hb] at e
  exact (x b u e).stay (fun c v _ q=>k c v q) (fun c q=>by rw [dB (uj q hn)];exact q) fun c xs q=>by rw [dB (uj q hn)];exact q
end
def Rd (H:Hp) (a:Addr) (u:HO):Prop:=H a=some u\/∃o,H a=some (.frz o u)
theorem Rd.of {H:Hp} {a:Addr} {u:HO} (h:H a=some u):Rd H a u:=.inl h
theorem Rd.ok {P:Program} {w:World} {H:Hp} {a:Addr} {u:HO} (r:Rd H a u) (x:HOk P w H h):ObjOk P w H h a u:=by
 rcases r with r | ⟨o,r⟩
 ·exact x a u r
 ·obtain ⟨_,q⟩:=x a _ r
  exact q
def DF:Option HO->Prop
 | some (.lst _)=>True
 | some (.dK _)=>True
 | some (.dT _)=>True
 | some (.set _ _)=>True
 | some (.ins _ _ _)=>True
 | some (.ext _)=>True
 | _=>False
section
variable {P:Program} {w:World} {H:Hp} {h h':Heap} {x e:Addr} {o':HO}
theorem HOk.write (ok:HOk P w H h) (mu:DF (H x)) (he:e=x\/H e=some (.own x)) (k:∀b u,b≠e->h.get? b=some u->h'.get? b=some u) (heo:∃u,h'.get? e=some u)
  (new:ObjOk P w (bA H x o') h' x o'):HOk P w (bA H x o') h':=fun b u q=>by
 have nown:∀c y,H c=some (.own y)->c≠x:=fun c y r z=>by subst z;rw [r] at mu;exact mu
 have ntup:∀c xs,H c=some (.tup xs)->c≠x:=fun c xs r z=>by subst z;rw [r] at mu;exact mu
 by_cases hb:b=x
 ·subst hb;rw [fL] at q;cases q;exact new
 ·rw [dB hb] at q
  by_cases hbe:b=e
  ·have q':H b=some (.own x):=by
    rcases he with z | z
    ·exact absurd (hbe.trans z) hb
    ·rw [hbe];exact z
   rw [q] at q';cases q'
   obtain ⟨v,hv⟩:=heo;exact ⟨v,by rw [hbe];exact hv⟩
  ·refine (ok b u q).stay (fun c v hc r=>k c v ?_ r) (fun c r=>by rw [dB (nown c b r)];exact r) fun c xs r=>by rw [dB (ntup c xs r)];exact r
   rcases hc with rfl | hc
   ·exact hbe
   ·rintro rfl
    rcases he with z | z
    ·exact nown c b hc z
    ·rw [hc] at z;cases z;exact hb rfl
end
structure Un (fs ex:List Addr) (H H':Hp) (h h':Heap):Prop where
 keep:∀b o,h.get? b=some o->H b=none->b∉fs->b∉ex->h'.get? b=some o
 slot:∀b o,h.get? b=some o->H b=none->b∈fs->b∉ex->∃sl,h'.get? b=some { o with slots:=sl }
 free:∀b o,h.get? b=some o->H b=none->b∉ex->H' b=none
 there:∀b o,h.get? b=some o->b∉ex->∃o',h'.get? b=some o'
 tups:∀b xs,H b=some (.tup xs)->H' b=some (.tup xs)
 frzs:∀b o u,H b=some (.frz o u)->H' b=some (.frz o u)
 tbls:∀b ps,H b=some (.tbl ps)->∃more,H' b=some (.tbl (ps++more))
section
variable {fs fs' ex ex':List Addr} {H H1 H2:Hp} {h h1 h2 h':Heap} {a x e:Addr} {o:HO}
theorem Un.any (u:Un fs ex H H1 h h1) {ob:Obj} (q:h.get? b=some ob) (n:H b=none) (hx:b∉ex):∃sl,h1.get? b=some { ob with slots:=sl }:=by
 by_cases hb:b∈fs
 ·exact u.slot b ob q n hb hx
 ·exact ⟨ob.slots,u.keep b ob q n hb hx⟩
theorem Un.kept (k:∀b u,h.get? b=some u->h'.get? b=some u):Un fs ex H H h h':=
 ⟨fun b ob q _ _ _=>k b ob q,fun b ob q _ _ _=>⟨ob.slots,k b ob q⟩,fun _ _ _ n _=>n,fun b ob q _=>⟨ob,k b ob q⟩,fun _ _ q=>q,fun _ _ _ q=>q,fun _ ps q=>⟨#[],by rw [q];simp⟩⟩
theorem Un.refl:Un fs ex H H h h:=Un.kept fun _ _ q=>q
theorem Un.laid (k:∀b u,h.get? b=some u->h'.get? b=some u) (hp:h.objs.size<=a) (hn:H a=none):Un fs ex H (bA H a o) h h' where
 keep:=fun b u q _ _ _=>k b u q
 slot:=fun b u q _ _ _=>⟨u.slots,k b u q⟩
 free:=fun b u q n _=>by rw [dB (Nat.ne_of_lt (Nat.lt_of_lt_of_le (Heap.lt_size q) hp))];exact n
 there:=fun b u q _=>⟨u,k b u q⟩
 tups:=fun b xs q=>by rw [dB (uj q hn)];exact q
 frzs:=fun b u xs q=>by rw [dB (uj q hn)];exact q
 tbls:=fun b ps q=>⟨#[],by rw [dB (uj q hn),q];simp⟩
theorem Un.write (mu:DF (H x)) (he:e=x\/H e=some (.own x)) (k:∀b u,b≠e->h.get? b=some u->h'.get? b=some u) (heo:∃u,h'.get? e=some u):Un fs ex H (bA H x o) h h':=by
 have hx:∀b,H b=none->b≠x:=fun b n z=>by subst z;rw [n] at mu;exact mu
 have hb:∀b,H b=none->b≠e:=fun b n z=>by
  subst z;rcases he with r | r
  ·exact hx b n r
  ·rw [n] at r;cases r
 have hm:∀b u,H b=some u->¬DF (some u)->b≠x:=fun b u q nm z=>by subst z;rw [q] at mu;exact nm mu
 refine ⟨fun b u q n _ _=>k b u (hb b n) q,fun b u q n _ _=>⟨u.slots,k b u (hb b n) q⟩,fun b u q n _=>by rw [dB (hx b n)];exact n,fun b u q _=>?_,
  fun b xs q=>by rw [dB (hm b _ q fun z=>z)];exact q,fun b u xs q=>by rw [dB (hm b _ q fun z=>z)];exact q,fun b ps q=>⟨#[],by rw [dB (hm b _ q fun z=>z),q];simp⟩⟩
 by_cases hbe:b=e
 ·subst hbe;exact heo
 ·exact ⟨u,k b u hbe q⟩
end
def Dk (h:Heap) (H:Hp):List Addr:=(List.range h.objs.size).filter fun a=>(H a).isSome
def j6 (h:Heap) (H:Hp):Heap:=PySem.W.hideAll h (Dk h H)
theorem pX (h:Heap) (H:Hp):(j6 h H).objs.size=h.objs.size:=PySem.W.hideAll_size _ _
theorem sW {H:Hp} (e:h.get? b=some o) (n:H b=none):(j6 h H).get? b=some o:=
 PySem.W.hideAll_get _ e fun hm=>by
  have q:(H b).isSome=true:=(List.mem_filter.mp hm).2
  rw [n] at q;simp at q
theorem vN {H:Hp} (e:(j6 h H).get? b=some o):h.get? b=some o/\H b=none:=by
 have e':h.get? b=some o:=PySem.W.of_hideAll (Dk h H) e
 refine ⟨e',?_⟩
 cases q:H b with
 | none=>rfl
 | some x=>
  have hm:b∈Dk h H:=List.mem_filter.mpr ⟨List.mem_range.mpr (Heap.lt_size e'),by simp [q]⟩
  have z:(j6 h H).get? b=none:=PySem.W.hideAll_none (Dk h H) hm
  rw [z] at e;cases e
structure Mod (K:Fg) (mg:Str->Option Value) (base:Heap):Prop where
 kin:K.In base
 glob:base.Ns mainGlobals mg
 blt:∃mb,base.Ns builtinsNs mb/\∀x:Str,x ≠ "__name__"->mb x=bootBuiltins x
 nolimit:base.NoLimit
structure Cx where
 prog:Program
 w:World
 K:Fg
 mg:Str->Option Value
 base:Heap
 A:Around
 N:List Str
 s₀:Shared
 H₀:Hp
 env:Env
 outer:List Env
 stack:List Env
 ex:List Addr
 fn:Str->Bool
 calm:Bool
 pn:List (Addr×Obj)
 xe:Value->Shared->Prop
def tw (l:List Env):List Addr:=l.filterMap (·.frame)
abbrev Cx.fs (X:Cx):List Addr:=tw X.outer
def AK (sc:Scope) (x:Str):Prop:=sc.names.lookup x=some .local\/sc.names.lookup x=some .cell\/sc.names.lookup x=some .free
def Loc (sc:Scope) (x:Str):Prop:=sc.names.lookup x=some .local\/sc.names.lookup x=some .cell
def Look (env:Env) (h:Heap) (m:Str->Option Value) (x:Str) (u:Value):Prop:=
 (env.kindOf x=some .local/\m x=some u)\/((env.kindOf x=some .cell\/env.kindOf x=some .free)/\∃c,env.cells.lookup x=some c/\h.IsCell c (some u))
structure Cx.Ok (X:Cx):Prop where
 mod:Mod X.K X.mg X.base
 kind:X.env.scope.kind=.function
 glob:X.env.globals=mainGlobals
 blt:X.env.builtins=builtinsNs
 above:X.s₀.heap.objs.size<=X.env.locals
 inj:∀x y c,X.env.cells.lookup x=some c->X.env.cells.lookup y=some c->x=y
 has:∀x,(X.env.kindOf x=some .cell\/X.env.kindOf x=some .free)->∃c,X.env.cells.lookup x=some c
 cab:∀x c,X.fn x=true->X.env.cells.lookup x=some c->X.s₀.heap.objs.size<=c
 hd:X.calm=true->X.A.handled=none
 frames:X.A.frames=some X.stack
 stk:X.stack=X.outer\/(X.stack=X.env::X.outer/\X.env.frame=some X.env.locals)
 exf:∀b∈X.ex,b≠X.env.locals/\∀x c,X.env.cells.lookup x=some c->c≠b
 bs:∀b o,X.base.get? b=some o->X.s₀.heap.get? b=some o/\X.H₀ b=none
 bsz:X.base.objs.size<=X.s₀.heap.objs.size
 noex:∀b o,X.base.get? b=some o->b∉X.ex
 exfs:∀b∈X.ex,b∉X.fs
 funs:X.s₀.heap.FunFrames X.base X.outer
 frf:∀b∈X.fs,X.H₀ b=none
structure Inv (X:Cx) (pins:List (Addr×Obj)) (U:List (Option V)) (H:Hp) (s:Shared):Prop where
 ok:X.Ok
 os:s.os=X.s₀.os
 bare:AllBare s.gens
 base:Un X.fs X.ex X.H₀ H X.s₀.heap s.heap
 loc:∃m,s.heap.Ns X.env.locals m/\∀(i:Nat) (x:Str) (v:V),X.N[i]?=some x->U[i]?=some (some v)->AK X.env.scope x->∃u,RelV v u/\Look X.env s.heap m x u
 cell:∀x c,X.env.cells.lookup x=some c->∃v,s.heap.IsCell c v
 free:H X.env.locals=none
 freeC:∀x c,X.env.cells.lookup x=some c->H c=none
 pin:∀p∈X.pn++pins,s.heap.get? p.1=some p.2/\H p.1=none/\p.1≠X.env.locals/\p.1∉X.fs/\∀v,p.2.data≠.cell v
 hok:HOk X.prog X.w H s.heap
 len:U.length=X.N.length
section
variable {X:Cx} {pins:List (Addr×Obj)} {U:List (Option V)} {H H':Hp} {s:Shared} {h':Heap}
theorem Cx.Ok.nofr (ok:X.Ok) (e:X.base.get? b=some o):b∉X.fs:=fun hb=>by
 have:=(ok.funs.mem hb).1
 rw [e] at this;cases this
theorem Inv.bs (I:Inv X pins U H s):∀b o,X.base.get? b=some o->s.heap.get? b=some o/\H b=none:=fun b o e=>
 ⟨I.base.keep b o (I.ok.bs b o e).1 (I.ok.bs b o e).2 (I.ok.nofr e) (I.ok.noex b o e),I.base.free b o (I.ok.bs b o e).1 (I.ok.bs b o e).2 (I.ok.noex b o e)⟩
theorem Inv.bk (I:Inv X pins U H s):∀b o,X.base.get? b=some o->s.heap.get? b=some o:=fun b o e=>(I.bs b o e).1
theorem Inv.mod (I:Inv X pins U H s):Mod X.K X.mg X.base:=I.ok.mod
theorem Inv.kIn (I:Inv X pins U H s):X.K.In s.heap:=I.ok.mod.kin.keeps I.bk
theorem Inv.lt (I:Inv X pins U H s):X.env.locals<s.heap.objs.size:=let ⟨_,hn,_⟩:=I.loc;hn.lt
theorem Inv.sz (I:Inv X pins U H s):X.s₀.heap.objs.size<=s.heap.objs.size:=Nat.le_trans I.ok.above (Nat.le_of_lt I.lt)
theorem Inv.nofs (I:Inv X pins U H s) {a:Addr} (h:s.heap.objs.size<=a):a∉X.fs:=fun hb=>by
 obtain ⟨_,o,ho,_⟩:=I.ok.funs.mem hb;exact absurd (Nat.lt_of_lt_of_le (Heap.lt_size ho) (Nat.le_trans I.sz h)) (Nat.lt_irrefl _)
theorem Inv.cne (I:Inv X pins U H s):∀x c,X.env.cells.lookup x=some c->c≠X.env.locals:=fun x c e z=>by
 obtain ⟨v,o,ho,hd⟩:=I.cell x c e;obtain ⟨m,⟨o',es,ep,ho',hd',_⟩,_⟩:=I.loc;rw [z,ho'] at ho;cases ho;rw [hd'] at hd;cases hd
theorem Inv.funs (I:Inv X pins U H s):s.heap.FunFrames X.base X.outer:=by
 have all:∀(l:List Env),(∀b∈tw l,b∈X.fs)->X.s₀.heap.FunFrames X.base l->s.heap.FunFrames X.base l:=by
  intro l;induction l with
  | nil=>intro _ _;trivial
  | cons env r ih=>
   intro hs hl;obtain ⟨hk,⟨L,o,hf,hn,ho,hd⟩,hr⟩:=hl;have hL:L∈X.fs:=hs L (by unfold tw;rw [List.filterMap_cons,hf];exact mem_cons_self)
   obtain ⟨sl,e⟩:=I.base.slot L o ho (I.ok.frf L hL) hL fun z=>I.ok.exfs L z hL
   exact ⟨hk,⟨L,_,hf,hn,e,hd⟩,ih (fun b hb=>hs b (by unfold tw;rw [List.filterMap_cons,hf];exact mem_cons_of_mem _ hb)) hr⟩
 exact all X.outer (fun _ hb=>hb) I.ok.funs
theorem Inv.stack (I:Inv X pins U H s):s.heap.FunFrames X.base X.stack:=by
 rcases I.ok.stk with e | ⟨e,hf⟩
 ·rw [e];exact I.funs
 ·rw [e]
  obtain ⟨m,hn,_⟩:=I.loc;refine .cons (by rw [I.ok.kind];decide) hf hn ?_ I.funs
  exact Heap.get?_none_of_le (Nat.le_trans I.ok.bsz I.ok.above)
theorem Inv.stkSub (I:Inv X pins U H s):∀b∈tw X.stack,b∈X.env.locals::X.fs:=fun b hb=>by
 rcases I.ok.stk with e | ⟨e,hf⟩
 ·rw [e] at hb;exact mem_cons_of_mem _ hb
 ·rw [e] at hb
  unfold tw at hb;rw [List.filterMap_cons,hf] at hb;exact hb
theorem Inv.stkFree (I:Inv X pins U H s):∀b∈tw X.stack,H b=none:=fun b hb=>by
 rcases List.mem_cons.mp (I.stkSub b hb) with e | hb
 ·rw [e];exact I.free
 ·obtain ⟨_,o,ho,_⟩:=I.ok.funs.mem hb
  exact I.base.free b o ho (I.ok.frf b hb) fun z=>I.ok.exfs b z hb
theorem Inv.step {ch:List Addr} (I:Inv X pins U H s)
  (hch:∀b∈ch,(b∈X.ex\/X.s₀.heap.objs.size<=b)/\b≠X.env.locals/\(∀x c,X.env.cells.lookup x=some c->c≠b)/\∀p∈X.pn++pins,p.1≠b)
  (keep:∀b o,b≠X.env.locals->b∉X.fs->b∉ch->s.heap.get? b=some o->H b=none->h'.get? b=some o)
  (slot:∀b o,b≠X.env.locals->b∈X.fs->b∉ch->s.heap.get? b=some o->H b=none->∃sl,h'.get? b=some { o with slots:=sl }) (free:∀b o,b∉ch->s.heap.get? b=some o->H b=none->H' b=none)
  (there:∀b o,b∉ch->s.heap.get? b=some o->∃o',h'.get? b=some o')
  (tups:∀b xs,H b=some (.tup xs)->H' b=some (.tup xs)) (frzs:∀b o u,H b=some (.frz o u)->H' b=some (.frz o u)) (tbls:∀b ps,H b=some (.tbl ps)->∃more,H' b=some (.tbl (ps++more)))
  (ns:∀m,s.heap.Ns X.env.locals m->h'.Ns X.env.locals m) (hok:HOk X.prog X.w H' h') (hg:AllBare g') :
  Inv X pins U H' { s with heap:=h',gens:=g',drawn:=d',toks:=t' }:=by
 have neL:∀b o,X.s₀.heap.get? b=some o->b≠X.env.locals:=fun b o e=>Nat.ne_of_lt (Nat.lt_of_lt_of_le (Heap.lt_size e) I.ok.above)
 have neC:∀b o,X.s₀.heap.get? b=some o->b∉X.ex->b∉ch:=fun b o e hx hb=>by
  rcases (hch b hb).1 with z | z
  ·exact hx z
  ·exact absurd (Nat.lt_of_lt_of_le (Heap.lt_size e) z) (Nat.lt_irrefl _)
 have cellK:∀x c,X.env.cells.lookup x=some c->∀v,s.heap.IsCell c v->h'.IsCell c v:=fun x c e v ⟨o,ho,hd⟩=>by
  have nch:c∉ch:=fun z=>(hch c z).2.2.1 x c e rfl
  by_cases hc:c∈X.fs
  ·obtain ⟨sl,q⟩:=slot c o (I.cne x c e) hc nch ho (I.freeC x c e)
   exact ⟨_,q,hd⟩
  ·exact ⟨o,keep c o (I.cne x c e) hc nch ho (I.freeC x c e),hd⟩
 refine ⟨I.ok,I.os,hg,⟨fun b o e n hb hx=>?_,fun b o e n hb hx=>?_,fun b o e n hx=>?_,fun b o e hx=>?_,fun b xs e=>tups b xs (I.base.tups b xs e),fun b o xs e=>frzs b o xs (I.base.frzs b o xs e),fun b ps e=>?_⟩,?_,fun x c e=>?_,?_,fun x c e=>?_,fun p hp=>?_,hok,I.len⟩
 ·exact keep b o (neL b o e) hb (neC b o e hx) (I.base.keep b o e n hb hx) (I.base.free b o e n hx)
 ·obtain ⟨sl,e1⟩:=I.base.slot b o e n hb hx
  obtain ⟨sl',e2⟩:=slot b _ (neL b o e) hb (neC b o e hx) e1 (I.base.free b o e n hx);exact ⟨sl',e2⟩
 ·obtain ⟨o',e1⟩:=I.base.there b o e hx
  exact free b o' (neC b o e hx) e1 (I.base.free b o e n hx)
 ·obtain ⟨o',e1⟩:=I.base.there b o e hx
  exact there b o' (neC b o e hx) e1
 ·obtain ⟨m1,e1⟩:=I.base.tbls b ps e
  obtain ⟨m2,e2⟩:=tbls b _ e1;exact ⟨m1++m2,by rw [e2,Array.append_assoc]⟩
 ·obtain ⟨m,hn,hl⟩:=I.loc
  refine ⟨m,ns m hn,fun i x v e1 e2 e3=>?_⟩
  obtain ⟨u,r,l⟩:=hl i x v e1 e2 e3;refine ⟨u,r,?_⟩
  rcases l with l | ⟨k,c,e,z⟩
  ·exact .inl l
  ·exact .inr ⟨k,c,e,cellK x c e _ z⟩
 ·obtain ⟨v,z⟩:=I.cell x c e
  exact ⟨v,cellK x c e v z⟩
 ·obtain ⟨m,⟨o,_,_,ho,_⟩,_⟩:=I.loc
  exact free _ o (fun z=>(hch _ z).2.1 rfl) ho I.free
 ·obtain ⟨v,o,ho,hd⟩:=I.cell x c e
  exact free c o (fun z=>(hch c z).2.2.1 x c e rfl) ho (I.freeC x c e)
 ·obtain ⟨e,n,ne,nf,d⟩:=I.pin p hp
  have nch:p.1∉ch:=fun z=>(hch p.1 z).2.2.2 p hp rfl
  exact ⟨keep p.1 p.2 ne nf nch e n,free p.1 p.2 nch e n,ne,nf,d⟩
theorem Inv.un (I:Inv X pins U H s) (u:Un X.fs [] H H' s.heap h') (hok:HOk X.prog X.w H' h'):Inv X pins U H' { s with heap:=h',toks:=t' }:=by
 obtain ⟨m,⟨o,es,ep,ho,r⟩,_⟩:=id I.loc;obtain ⟨sl,hL⟩:=u.any ho I.free (by simp)
 exact I.step (g':=s.gens) (d':=s.drawn) (ch:=[]) (fun _ z=>nomatch z) (fun b o _ hb _ e n=>u.keep b o e n hb (by simp)) (fun b o _ hb _ e n=>u.slot b o e n hb (by simp)) (fun b o _ e n=>u.free b o e n (by simp)) (fun b o _ e=>u.there b o e (by simp)) u.tups u.frzs u.tbls (fun m' hm=>by
  obtain ⟨o',es',ep',ho',r'⟩:=hm;rw [ho] at ho';cases ho'
  exact ⟨_,es',ep',hL,r'⟩) hok I.bare
theorem Inv.call {ch:List Addr} (I:Inv X pins U H s) (u:Un (tw X.stack) ch H H' s.heap h') (hok:HOk X.prog X.w H' h') (hg:AllBare g')
  (hch:∀b∈ch,(b∈X.ex\/X.s₀.heap.objs.size<=b)/\b≠X.env.locals/\(∀x c,X.env.cells.lookup x=some c->c≠b)/\∀p∈X.pn++pins,p.1≠b) :
  Inv X pins U H' { s with heap:=h',gens:=g',drawn:=d',toks:=t' }:=by
 obtain ⟨m,⟨o,es,ep,ho,r⟩,_⟩:=id I.loc;obtain ⟨sl,hL⟩:=u.any ho I.free fun z=>(hch _ z).2.1 rfl
 exact I.step (ch:=ch) hch (fun b o hL hb hc e n=>u.keep b o e n (fun z=>(List.mem_cons.mp (I.stkSub b z)).elim hL hb) hc) (fun b o _ _ hc e n=>u.any e n hc) (fun b o hc e n=>u.free b o e n hc) (fun b o hc e=>u.there b o e hc) u.tups u.frzs u.tbls (fun m' hm=>by
  obtain ⟨o',es',ep',ho',r'⟩:=hm;rw [ho] at ho';cases ho'
  exact ⟨_,es',ep',hL,r'⟩) hok hg
theorem Inv.turned (I:Inv X pins U H s) (k:∀b o,b≠it->s.heap.get? b=some o->h'.get? b=some o) (hn:H it=none) (hL:it≠X.env.locals)
  (h1:it∈X.ex\/X.s₀.heap.objs.size<=it) (h2:∀x c,X.env.cells.lookup x=some c->c≠it) (h3:∀p∈X.pn++pins,p.1≠it):Inv X pins U H { s with heap:=h',toks:=t' }:=by
 have nit:∀b u,H b=some u->b≠it:=fun b u e z=>by rw [z,hn] at e;cases e
 refine I.step (g':=s.gens) (d':=s.drawn) (ch:=[it]) (fun b hb=>?_) (fun b o _ _ hc e _=>k b o (fun z=>hc (by simp [z])) e) (fun b o _ _ hc e _=>⟨o.slots,k b o (fun z=>hc (by simp [z])) e⟩) (fun _ _ _ _ n=>n)
  (fun b o hc e=>⟨o,k b o (fun z=>hc (by simp [z])) e⟩) (fun _ _ e=>e) (fun _ _ _ e=>e) (fun b ps e=>⟨#[],by rw [e];simp⟩) (fun m hm=>?_) (fun b u e=>?_) I.bare
 ·have e:b=it:=by simpa using hb
  subst e;exact ⟨h1,hL,h2,h3⟩
 ·obtain ⟨o,es,ep,ho,r⟩:=hm
  exact ⟨o,es,ep,k _ o (Ne.symm hL) ho,r⟩
 ·refine (I.hok b u e).stay (fun c v hc q=>k c v ?_ q) (fun _ q=>q) fun _ _ q=>q
  rcases hc with z | z
  ·rw [z];exact nit b u e
  ·exact nit c _ z
theorem Inv.tok (I:Inv X pins U H s) (t:Nat):Inv X pins U H { s with toks:=t }:=I.un (h':=s.heap) (t':=t) Un.refl I.hok
theorem Inv.kept (I:Inv X pins U H s) (k:∀b u,s.heap.get? b=some u->h'.get? b=some u):Inv X pins U H { s with heap:=h',toks:=t' }:=I.un (Un.kept k) (I.hok.kept k)
theorem Inv.laid {a:Addr} {o:HO} (I:Inv X pins U H s) (k:∀b u,s.heap.get? b=some u->h'.get? b=some u) (hp:s.heap.objs.size<=a) (new:ObjOk X.prog X.w (bA H a o) h' a o) :
  Inv X pins U (bA H a o) { s with heap:=h',toks:=t' }:=I.un (Un.laid k hp (I.hok.fresh hp)) (I.hok.laid k hp new)
theorem Inv.write {x e:Addr} {o:HO} (I:Inv X pins U H s) (mu:DF (H x)) (he:e=x\/H e=some (.own x)) (k:∀b u,b≠e->s.heap.get? b=some u->h'.get? b=some u) (heo:∃u,h'.get? e=some u)
  (new:ObjOk X.prog X.w (bA H x o) h' x o):Inv X pins U (bA H x o) { s with heap:=h',toks:=t' }:=I.un (Un.write mu he k heo) (I.hok.write mu he k heo new)
theorem Inv.weak {U':List (Option V)} (I:Inv X pins U H s) (hl:U'.length=U.length) (w:∀(i:Nat) v,U'[i]?=some (some v)->U[i]?=some (some v)):Inv X pins U' H s:=
 ⟨I.ok,I.os,I.bare,I.base,let ⟨m,hn,hl'⟩:=I.loc;⟨m,hn,fun i x v e1 e2 e3=>hl' i x v e1 (w i v e2) e3⟩,I.cell,I.free,I.freeC,I.pin,I.hok,hl.trans I.len⟩
theorem Inv.pins_of {pins':List (Addr×Obj)} (I:Inv X pins U H s) (h:∀p∈pins',s.heap.get? p.1=some p.2/\H p.1=none/\p.1≠X.env.locals/\p.1∉X.fs/\∀v,p.2.data≠.cell v):Inv X pins' U H s:=
 ⟨I.ok,I.os,I.bare,I.base,I.loc,I.cell,I.free,I.freeC,fun p hp=>(List.mem_append.mp hp).elim (fun z=>I.pin p (mem_append_left _ z)) (h p),I.hok,I.len⟩
theorem lb (hN:N.Nodup) {i j:Nat} (a:N[i]?=some x) (b:N[j]?=some x):i=j:=by
 obtain ⟨h1,e1⟩:=List.getElem?_eq_some_iff.mp a
 obtain ⟨h2,e2⟩:=List.getElem?_eq_some_iff.mp b
 exact (List.getElem_inj hN).mp (e1.trans e2.symm)
theorem ji {E:Value->Shared->Prop} {i:Nat} {v:V} {Q:Unit->Shared->Prop} (I:Inv X pins U H s) (hN:X.N.Nodup) (hi:X.N[i]?=some x) (hx:Loc X.env.scope x) (r:RelV v u)
  (h:∀s',Inv X pins (U.set i (some v)) H s'->(∃a,Heap.SameBut a s.heap s'.heap/\(a=X.env.locals\/X.env.cells.lookup x=some a))->Q () s') (hf:X.fn x=true\/X.env.scope.names.lookup x=some .local:=by first | exact .inl rfl | exact .inr rfl | assumption):wpAny M A (storeName X.env x u) Q E s:=by
 obtain ⟨m,hn,hl⟩:=id I.loc;have hcls:(X.env.scope.kind==.class||(X.env.scope.kind==.module&&X.env.locals != X.env.globals))=false:=by rw [I.ok.kind];rfl
 have hiU:i<U.length:=by rw [I.len];exact (List.getElem?_eq_some_iff.mp hi).1
 have cne:=I.cne
 have tracked:∀{a:Addr} {h':Heap},(∃o,s.heap.get? a=some o/\H a=none)->Heap.SameBut a s.heap h'->HOk X.prog X.w H h':=fun {a h'} ha hs b ob e=>by
  obtain ⟨_,_,hfree⟩:=ha;refine (I.hok b ob e).stay (fun c w' hc q=>(hs.2 c ?_).trans q) (fun _ q=>q) fun _ _ q=>q
  rintro rfl
  rcases hc with rfl | hc
  ·rw [hfree] at e;cases e
  ·rw [hfree] at hc;cases hc
 rcases hx with hk | hk
 ·refine wpAny_storeName_local hk hn (fun h' hn' hs=>?_) hcls
  obtain ⟨oL,_,_,hoL,_⟩:=id hn;refine h _ ⟨I.ok,I.os,I.bare,⟨fun b o e n hb hx=>?_,fun b o e n hb hx=>?_,I.base.free,fun b o e hx=>?_,I.base.tups,I.base.frzs,I.base.tbls⟩,⟨_,hn',fun j y v' e1 e2 e3=>?_⟩,fun y c e=>?_,I.free,I.freeC,fun p hp=>?_,tracked ⟨oL,hoL,I.free⟩ hs,by simpa using I.len⟩ ⟨_,hs,.inl rfl⟩
  ·exact (hs.2 b (Nat.ne_of_lt (Nat.lt_of_lt_of_le (Heap.lt_size e) I.ok.above))).trans (I.base.keep b o e n hb hx)
  ·obtain ⟨sl,e1⟩:=I.base.slot b o e n hb hx
   exact ⟨sl,(hs.2 b (Nat.ne_of_lt (Nat.lt_of_lt_of_le (Heap.lt_size e) I.ok.above))).trans e1⟩
  ·obtain ⟨o',e1⟩:=I.base.there b o e hx
   exact ⟨o',(hs.2 b (Nat.ne_of_lt (Nat.lt_of_lt_of_le (Heap.lt_size e) I.ok.above))).trans e1⟩
  ·by_cases hj:j=i
   ·subst hj
    rw [hi] at e1;cases e1;rw [getElem?_set_self hiU] at e2
    cases e2;exact ⟨u,r,.inl ⟨hk,by simp⟩⟩
   ·rw [getElem?_set_ne (Ne.symm hj)] at e2
    obtain ⟨u',r',q⟩:=hl j y v' e1 e2 e3
    refine ⟨u',r',?_⟩
    rcases q with ⟨k,e⟩ | ⟨k,c,e,z⟩
    ·refine .inl ⟨k,?_⟩
     have:y≠x:=fun e=>hj (lb hN e1 (e▸hi))
     simp [this,e]
    ·exact .inr ⟨k,c,e,z.sameBut hs (cne y c e)⟩
  ·obtain ⟨w',z⟩:=I.cell y c e
   exact ⟨w',z.sameBut hs (cne y c e)⟩
  ·obtain ⟨e,n,ne,nf,d⟩:=I.pin p hp
   exact ⟨(hs.2 p.1 ne).trans e,n,ne,nf,d⟩
 ·have hfn:X.fn x=true:=by
   rcases hf with z | z
   ·exact z
   ·rw [z] at hk;cases hk
  obtain ⟨c,hc⟩:=I.ok.has x (.inl hk);obtain ⟨w',z⟩:=I.cell x c hc;refine wpAny_storeName_cell I.ok.kind hk hc z (fun h' hc' hs=>?_)
  obtain ⟨oc,hoc,hocd⟩:=id z;refine h { s with heap:=h' } ⟨I.ok,I.os,I.bare,⟨fun b o e n hb hx=>?_,fun b o e n hb hx=>?_,I.base.free,fun b o e hx=>?_,I.base.tups,I.base.frzs,I.base.tbls⟩,⟨m,hn.sameBut hs (Ne.symm (cne x c hc)),fun j y v' e1 e2 e3=>?_⟩,fun y c' e=>?_,I.free,I.freeC,fun p hp=>?_,tracked ⟨oc,hoc,I.freeC x c hc⟩ hs,by simpa using I.len⟩ ⟨c,hs,.inr hc⟩
  ·exact (hs.2 b (Nat.ne_of_lt (Nat.lt_of_lt_of_le (Heap.lt_size e) (I.ok.cab x c hfn hc)))).trans (I.base.keep b o e n hb hx)
  ·obtain ⟨sl,e1⟩:=I.base.slot b o e n hb hx
   exact ⟨sl,(hs.2 b (Nat.ne_of_lt (Nat.lt_of_lt_of_le (Heap.lt_size e) (I.ok.cab x c hfn hc)))).trans e1⟩
  ·obtain ⟨o',e1⟩:=I.base.there b o e hx
   exact ⟨o',(hs.2 b (Nat.ne_of_lt (Nat.lt_of_lt_of_le (Heap.lt_size e) (I.ok.cab x c hfn hc)))).trans e1⟩
  ·by_cases hj:j=i
   ·subst hj
    rw [hi] at e1;cases e1;rw [getElem?_set_self hiU] at e2
    cases e2;exact ⟨u,r,.inr ⟨.inl hk,c,hc,hc'⟩⟩
   ·rw [getElem?_set_ne (Ne.symm hj)] at e2
    obtain ⟨u',r',q⟩:=hl j y v' e1 e2 e3
    refine ⟨u',r',?_⟩
    rcases q with q | ⟨k,c',e,z'⟩
    ·exact .inl q
    ·refine .inr ⟨k,c',e,z'.sameBut hs ?_⟩
     rintro rfl
     exact hj (lb hN e1 (I.ok.inj _ _ _ e hc▸hi))
  ·by_cases hcc:c'=c
   ·subst hcc;exact ⟨_,hc'⟩
   ·obtain ⟨w2,z2⟩:=I.cell y c' e
    exact ⟨w2,z2.sameBut hs hcc⟩
  ·obtain ⟨e,n,ne,nf,d⟩:=I.pin p hp
   refine ⟨(hs.2 p.1 ?_).trans e,n,ne,nf,d⟩
   intro q;rw [q,hoc] at e;have q':oc=p.2:=Option.some.inj e
   exact d w' (by rw [<-q'];exact hocd)
theorem Ej {E:Value->Shared->Prop} {i:Nat} {v:V} {Q:Unit->Shared->Prop} (I:Inv X pins U H s) (hN:X.N.Nodup) (hi:X.N[i]?=some x) (hx:Loc X.env.scope x) (r:RelV v u)
  (h:∀s',Inv X pins (U.set i (some v)) H s'->Q () s') (hf:X.fn x=true\/X.env.scope.names.lookup x=some .local:=by first | exact .inl rfl | exact .inr rfl | assumption):wpAny M A (storeName X.env x u) Q E s:=
 ji I hN hi hx r (fun s' I' _=>h s' I') hf
theorem Inv.call' {ch:List Addr} (I:Inv X pins U H s) (ho:s'.os=s.os) (u:Un (tw X.stack) ch H H' s.heap s'.heap) (hok:HOk X.prog X.w H' s'.heap) (hg:AllBare s'.gens)
  (hch:∀b∈ch,(b∈X.ex\/X.s₀.heap.objs.size<=b)/\b≠X.env.locals/\(∀x c,X.env.cells.lookup x=some c->c≠b)/\∀p∈X.pn++pins,p.1≠b):Inv X pins U H' s':=by
 obtain ⟨h',g',d',t',o'⟩:=s'
 have e:o'=s.os:=ho
 subst e;exact I.call (g':=g') (t':=t') (d':=d') u hok hg hch
end
abbrev XK:=Value->Option Addr->Hp->Prop
abbrev St:=List (Option V)
abbrev VK:=V->Hp->Prop
abbrev TE:=St->Hp->VK->Prop
abbrev TT:=St->Hp->(Bool->Hp->Prop)->Prop
abbrev TA:=St->Hp->(List V->Hp->Prop)->Prop
structure dv where
 nx:St->Hp->Prop
 rt:VK
 bk:St->Hp->Prop:=fun _ _=>False
 ct:St->Hp->Prop:=fun _ _=>False
abbrev TS:=dv->St->Hp->Prop
def EP (X:Cx) (pins:List (Addr×Obj)) (U:St) (Q:VK) (u:Value) (s':Shared):Prop:=∃v H',Inv X pins U H' s'/\RelV v u/\Q v H'
def TP (X:Cx) (pins:List (Addr×Obj)) (U:St) (Q:Bool->Hp->Prop) (b:Bool) (s':Shared):Prop:=∃H',Inv X pins U H' s'/\Q b H'
def AP (X:Cx) (pins:List (Addr×Obj)) (U:St) (Q:List V->Hp->Prop) (us:List Value) (s':Shared):Prop:=∃vs H',Inv X pins U H' s'/\Vals vs us/\Q vs H'
def SP (X:Cx) (pins:List (Addr×Obj)) (D:dv) (f:Flow) (s':Shared):Prop:=
 match f with
 | .next=>∃U' H',Inv X pins U' H' s'/\D.nx U' H'
 | .brk=>∃U' H',Inv X pins U' H' s'/\D.bk U' H'
 | .cont=>∃U' H',Inv X pins U' H' s'/\D.ct U' H'
 | .ret u=>∃v U' H',Inv X pins U' H' s'/\RelV v u/\D.rt v H'
def PE (X:Cx) (e:Expr) (t:TE):Prop:=
 ∀(pins:List (Addr×Obj)) (s:Shared) (U:St) (H:Hp) (Q:VK),Inv X pins U H s->t U H Q->wpAny (model X.prog X.w) X.A (eval e X.env) (EP X pins U Q) X.xe s
def PT (X:Cx) (e:Expr) (t:TT):Prop:=
 ∀(pins:List (Addr×Obj)) (s:Shared) (U:St) (H:Hp) (Q:Bool->Hp->Prop),Inv X pins U H s->t U H Q->wpAny (model X.prog X.w) X.A (isTrue e X.env (eval e X.env)) (TP X pins U Q) X.xe s
def PW (X:Cx) (e:Expr) (t:TT):Prop:=
 ∀(whole:Sem Value) (pins:List (Addr×Obj)) (s:Shared) (U:St) (H:Hp) (Q:Bool->Hp->Prop),Inv X pins U H s->t U H Q->wpAny (model X.prog X.w) X.A (isTrue e X.env whole) (TP X pins U Q) X.xe s
theorem PW.pt {X:Cx} {t:TT} (h:PW X e t):PT X e t:=h _
def PA (X:Cx) (es:List Expr) (t:TA):Prop:=
 ∀(pos:Pos) (pins:List (Addr×Obj)) (s:Shared) (U:St) (H:Hp) (Q:List V->Hp->Prop),Inv X pins U H s->t U H Q->wpAny (model X.prog X.w) X.A (spliced (backTo pos (starEach es X.env))) (AP X pins U Q) X.xe s
def PS (X:Cx) (st:Stmt) (t:TS):Prop:=
 ∀(pins:List (Addr×Obj)) (s:Shared) (U:St) (H:Hp) (D:dv),Inv X pins U H s->t D U H->wpAny (model X.prog X.w) X.A (exec st X.env) (SP X pins D) X.xe s
def PSs (X:Cx) (st:List Stmt) (t:TS):Prop:=
 ∀(pins:List (Addr×Obj)) (s:Shared) (U:St) (H:Hp) (D:dv),Inv X pins U H s->t D U H->wpAny (model X.prog X.w) X.A (execs st X.env) (SP X pins D) X.xe s
theorem bP {t:Sem α} {Q Q':α->Shared->Prop} {E:Value->Shared->Prop} {s:Shared} (h:wpAny M A t Q E s) (hQ:∀a s,Q a s->Q' a s):wpAny M A t Q' E s:=wpAny_mono h hQ fun _ _ x=>x
section
variable {X:Cx}
def dU (i:Nat):TE:=fun U H Q=>∃v,U[i]?=some (some v)/\Q v H
def tC (v:V):TE:=fun _ H Q=>Q v H
theorem qL {i:Nat} (hN:X.N[i]?=some x) (hv:AK X.env.scope x) (hd:(x==("__debug__":Str))=false:=by decide) (hcd:(x==("__classdict__":Str))=false:=by decide):PE X (.Name x pos) (dU i):=by
 intro pins s U H Q I h;obtain ⟨v,e,h⟩:=h;obtain ⟨m,hn,hl⟩:=I.loc;obtain ⟨u,r,l⟩:=hl i x v hN e hv;have fin:EP X pins U Q u s:=⟨v,H,I,r,h⟩
 rcases l with ⟨hk,hm⟩ | ⟨hk,c,hc,hcell⟩
 ·exact wpAny_Name (wpAny_loadName_local I.ok.kind hk hn hm fin) hd
 ·rcases hk with hk | hk
  ·exact wpAny_Name (wpAny_loadName_cell I.ok.kind hk hc hcell fin) hd
  ·exact wpAny_Name (wpAny_loadName_free I.ok.kind hk hc hcell fin hcd) hd
theorem xa {i j pos}:PE X (.Constant (.int i) j pos) (tC (.int i)):=fun _ _ _ H _ I h=>wpAny_Constant_int ⟨.int i,H,I.tok _,⟨_,rfl⟩,h⟩
theorem B6 {b j pos}:PE X (.Constant (.bool b) j pos) (tC (.bl b)):=fun _ _ _ H _ I h=>Constant_bool ⟨.bl b,H,I,rfl,h⟩
theorem sg {j pos}:PE X (.Constant .none j pos) (tC .non):=fun _ _ _ H _ I h=>Constant_none ⟨.non,H,I,rfl,h⟩
theorem zj {x j pos}:PE X (.Constant (.str x) j pos) (tC (.str x)):=fun _ _ _ H _ I h=>Calls.Constant_str ⟨.str x,H,I.tok _,⟨_,rfl⟩,h⟩
def Gl (X:Cx) (x:Str):Prop:=X.env.kindOf x=some .globalImplicit
theorem oA {E:Value->Shared->Prop} {s:Shared} {U:St} {H:Hp} {Q:Value->Shared->Prop} (I:Inv X pins U H s) (hg:Gl X x) (hm:X.mg x=some u) (h:Q u s)
  (hd:(x==("__debug__":Str))=false:=by decide):wpAny (model X.prog X.w) X.A (eval (.Name x pos) X.env) Q E s:=
 Calls.Name_function_global I.ok.kind hg (Calls.loadGlobal_global (by rw [I.ok.glob];exact I.mod.glob.keeps I.bk) hm h) hd
theorem wZ {E:Value->Shared->Prop} {s:Shared} {U:St} {H:Hp} {Q:Value->Shared->Prop} (I:Inv X pins U H s) (hg:Gl X x) (hm:X.mg x=none) (hv:bootBuiltins x=some u) (h:Q u s)
  (hn:x ≠ "__name__":=by decide) (hd:(x==("__debug__":Str))=false:=by decide):wpAny (model X.prog X.w) X.A (eval (.Name x pos) X.env) Q E s:=by
 obtain ⟨mb,h1,h2⟩:=I.mod.blt;exact Calls.Name_function_global I.ok.kind hg (Calls.loadGlobal_builtin (by rw [I.ok.glob];exact I.mod.glob.keeps I.bk) hm (by rw [I.ok.blt];exact h1.keeps I.bk) ((h2 x hn).trans hv) h) hd
theorem vF {v:V} (hg:Gl X x) (hm:X.mg x=some u) (r:RelV v u) (hd:(x==("__debug__":Str))=false:=by decide):PE X (.Name x pos) (tC v):=
 fun _ _ _ H _ I h=>oA I hg hm ⟨v,H,I,r,h⟩ hd
theorem vH {v:V} (hg:Gl X x) (hm:X.mg x=none) (hv:bootBuiltins x=some u) (r:RelV v u) (hn:x ≠ "__name__":=by decide) (hd:(x==("__debug__":Str))=false:=by decide):PE X (.Name x pos) (tC v):=
 fun _ _ _ H _ I h=>wZ I hg hm hv ⟨v,H,I,r,h⟩ hn hd
variable {a b:Expr} {ta tb:TE} {pos:Pos}
variable {tA tB':TT} {rest:List Expr}
def BM (t u:TT):TT:=fun U H Q=>t U H fun c H1=>if c=true then u U H1 Q else Q false H1
def Gg (t u:TT):TT:=fun U H Q=>t U H fun c H1=>if c=true then Q true H1 else u U H1 Q
def BJ (t:TT):TT:=fun U H Q=>t U H fun c H1=>Q (!c) H1
theorem vz (ha:PT X a tA):PW X (.BoolOp .And [a] pos) tA:=by
 intro wh pins s U H Q I h;refine isTrue_and (bP (ha pins s U H Q I h) fun c s1 e=>?_)
 cases c with
 | true=>exact isTrue_and_nil e
 | false=>exact e
theorem y0 (ha:PT X a tA):PW X (.BoolOp .Or [a] pos) tA:=by
 intro wh pins s U H Q I h;refine isTrue_or (bP (ha pins s U H Q I h) fun c s1 e=>?_)
 cases c with
 | false=>exact isTrue_or_nil e
 | true=>exact e
theorem y3 (ha:PT X a tA) (hb:PW X (.BoolOp .And (b::rest) pos) tB'):PW X (.BoolOp .And (a::b::rest) pos) (BM tA tB'):=by
 intro wh pins s U H Q I h;refine isTrue_and (bP (ha pins s U H _ I h) fun c s1 ⟨H1,I1,q1⟩=>?_)
 cases c with
 | true=>exact hb wh pins s1 U H1 Q I1 q1
 | false=>exact ⟨H1,I1,q1⟩
theorem B2 (ha:PT X a tA) (hb:PW X (.BoolOp .Or (b::rest) pos) tB'):PW X (.BoolOp .Or (a::b::rest) pos) (Gg tA tB'):=by
 intro wh pins s U H Q I h;refine isTrue_or (bP (ha pins s U H _ I h) fun c s1 ⟨H1,I1,q1⟩=>?_)
 cases c with
 | true=>exact ⟨H1,I1,q1⟩
 | false=>exact hb wh pins s1 U H1 Q I1 q1
theorem za (ha:PT X a tA):PT X (.UnaryOp .Not a pos) (BJ tA):=by
 intro pins s U H Q I h;exact isTrue_not (ha pins s U H (fun c H1=>Q (!c) H1) I h)
def xp (ta tb:TE):TE:=fun U H Q=>ta U H fun x H1=>∃c,x=.bl c/\if c=true then tb U H1 Q else Q (.bl false) H1
def BI (ta tb:TE):TE:=fun U H Q=>ta U H fun x H1=>∃c,x=.bl c/\if c=true then Q (.bl true) H1 else tb U H1 Q
def xn (ta:TE):TE:=fun U H Q=>ta U H fun x H1=>∃c,x=.bl c/\Q (.bl (!c)) H1
theorem pe_one {op} {t:TE} (h:PE X a t):PE X (.BoolOp op [a] pos) t:=fun pins s U H Q I hw=>BoolOp_one (h pins s U H Q I hw)
theorem zl (ha:PE X a ta) (hb:PE X (.BoolOp .And (b::rest) pos) tb):PE X (.BoolOp .And (a::b::rest) pos) (xp ta tb):=by
 intro pins s U H Q I h;refine BoolOp_and (bP (ha pins s U H _ I h) fun v s1 ⟨x,H1,I1,r1,q1⟩=>?_)
 obtain ⟨c,rfl,q1⟩:=q1
 cases r1;refine wpAny_truthy_bool ?_
 cases c with
 | true=>exact hb pins s1 U H1 Q I1 q1
 | false=>exact ⟨.bl false,H1,I1,rfl,q1⟩
theorem B5 (ha:PE X a ta) (hb:PE X (.BoolOp .Or (b::rest) pos) tb):PE X (.BoolOp .Or (a::b::rest) pos) (BI ta tb):=by
 intro pins s U H Q I h;refine BoolOp_or (bP (ha pins s U H _ I h) fun v s1 ⟨x,H1,I1,r1,q1⟩=>?_)
 obtain ⟨c,rfl,q1⟩:=q1
 cases r1;refine wpAny_truthy_bool ?_
 cases c with
 | false=>exact hb pins s1 U H1 Q I1 q1
 | true=>exact ⟨.bl true,H1,I1,rfl,q1⟩
theorem zk (ha:PE X a ta):PE X (.UnaryOp .Not a pos) (xn ta):=by
 intro pins s U H Q I h;refine UnaryOp_ (bP (ha pins s U H _ I h) fun v s1 ⟨x,H1,I1,r1,q1⟩=>?_)
 obtain ⟨c,rfl,q1⟩:=q1
 cases r1;exact not_of (wpAny_truthy_bool ⟨.bl (!c),H1,I1,rfl,q1⟩)
def Gh (t:TT) (ta tb:TE):TE:=fun U H Q=>t U H fun c H1=>if c=true then ta U H1 Q else tb U H1 Q
theorem sj {c:Expr} (hc:PT X c tA) (ha:PE X a ta) (hb:PE X b tb):PE X (.IfExp c a b pos) (Gh tA ta tb):=by
 intro pins s U H Q I h;refine wpAny_IfExp (bP (hc pins s U H _ I h) fun d s1 ⟨H1,I1,q1⟩=>?_)
 cases d with
 | true=>exact ha pins s1 U H1 Q I1 q1
 | false=>exact hb pins s1 U H1 Q I1 q1
end
def SqL (K:Fg) (H:Hp) (a:Addr) (xs:List V):Prop:=
 Rd H a (.lst xs) \/
  ∃(o:Obj) (its:Array Value) (n:Nat),K.lookup a=some o/\o.cls=.type "list"/\o.dict=none/\o.data=.seq its n/\its.size<=sizeLine/\Vals xs its.toList
def SqT (K:Fg) (H:Hp) (a:Addr) (xs:List V):Prop:=
 Rd H a (.tup xs) \/
  ∃(o:Obj) (its:Array Value) (n:Nat),K.lookup a=some o/\o.cls=.type "tuple"/\o.data=.seq its n/\its.size<=sizeLine/\Vals xs its.toList
def F7:Value->Option V
 | .none=>some .non
 | .bool b=>some (.bl b)
 | .int i _=>some (.int i)
 | .str x _=>some (.str x)
 | .bytes b _=>some (.byt b)
 | .float b _=>some (.flt b)
 | .ref a=>some (.ref a)
 | .type n=>some (.ty n)
 | _=>none
theorem RelV.abs {x:V} (r:RelV x u):F7 u=some x:=by
 cases x with
 | non=>cases r;rfl
 | bl _=>cases r;rfl
 | int _=>obtain ⟨t,rfl⟩:=r;rfl
 | str _=>obtain ⟨t,rfl⟩:=r;rfl
 | byt _=>obtain ⟨t,rfl⟩:=r;rfl
 | flt _=>obtain ⟨t,rfl⟩:=r;rfl
 | ref _=>cases r;rfl
 | ty _=>cases r;rfl
theorem RelV.inj {x y:V} (r:RelV x u) (q:RelV y u):x=y:=Option.some.inj (r.abs.symm.trans q.abs)
theorem Vals.inj:∀{xs ys:List V} {us:List Value},Vals xs us->Vals ys us->xs=ys
 | _,_,_,.nil,.nil=>rfl
 | _,_,_,.cons r t,.cons r' t'=>by rw [r.inj r',Vals.inj t t']
section
variable {X:Cx} {pins:List (Addr×Obj)} {U:St} {H:Hp} {s:Shared} {a:Addr} {xs ys:List V}
theorem SqL.of {K:Fg} (h:H a=some (.lst xs)):SqL K H a xs:=.inl (.inl h)
theorem SqT.of {K:Fg} (h:H a=some (.tup xs)):SqT K H a xs:=.inl (.inl h)
theorem Inv.list (I:Inv X pins U H s) (h:SqL X.K H a xs):∃its:List Value,Vals xs its/\PlainL s.heap a its.toArray/\xs.length<=sizeLine:=by
 rcases h with h | ⟨o,its,n,hk,hc,hd,hs,hz,r⟩
 ·obtain ⟨z,its,n,r,e⟩:=h.ok I.hok
  exact ⟨its,r,⟨_,n,e,rfl,rfl,rfl⟩,z⟩
 ·refine ⟨its.toList,r,⟨o,n,I.kIn a o hk,hc,hd,by simpa using hs⟩,?_⟩
  have e:=r.length
  simp only [Array.length_toList] at e
  omega
theorem Inv.tuple (I:Inv X pins U H s) (h:SqT X.K H a xs):∃its:List Value,Vals xs its/\IsTup s.heap a its.toArray/\xs.length<=sizeLine:=by
 rcases h with h | ⟨o,its,n,hk,hc,hs,hz,r⟩
 ·obtain ⟨z,its,r,p⟩:=h.ok I.hok
  exact ⟨its,r,p,z⟩
 ·refine ⟨its.toList,r,⟨o,I.kIn a o hk,hc,n,by simpa using hs⟩,?_⟩
  have e:=r.length
  simp only [Array.length_toList] at e
  omega
theorem Inv.list_inj (I:Inv X pins U H s) (h:SqL X.K H a xs) (h':SqL X.K H a ys):xs=ys:=by
 obtain ⟨its,r,⟨o,n,e,_,_,d⟩,_⟩:=I.list h;obtain ⟨its',r',⟨o',n',e',_,_,d'⟩,_⟩:=I.list h'
 rw [e] at e';cases e'
 rw [d] at d';injection d' with d1 _
 have:its=its':=by simpa using congrArg Array.toList d1
 subst this;exact r.inj r'
theorem Inv.tuple_inj (I:Inv X pins U H s) (h:SqT X.K H a xs) (h':SqT X.K H a ys):xs=ys:=by
 obtain ⟨its,r,⟨o,e,_,n,d⟩,_⟩:=I.tuple h;obtain ⟨its',r',⟨o',e',_,n',d'⟩,_⟩:=I.tuple h'
 rw [e] at e';cases e'
 rw [d] at d';injection d' with d1 _
 have:its=its':=by simpa using congrArg Array.toList d1
 subst this;exact r.inj r'
end
abbrev Cx.wish (X:Cx) (E:Value->Shared->Prop):Cx:={ X with xe:=E }
abbrev Cx.nox (X:Cx):Cx:=X.wish fun _ _=>False
theorem Cx.Ok.wish {X:Cx} (ok:X.Ok) (E:Value->Shared->Prop):(X.wish E).Ok:=
 ⟨ok.mod,ok.kind,ok.glob,ok.blt,ok.above,ok.inj,ok.has,ok.cab,ok.hd,ok.frames,ok.stk,ok.exf,ok.bs,ok.bsz,ok.noex,ok.exfs,ok.funs,ok.frf⟩
theorem Cx.Ok.unwish {X:Cx} {E:Value->Shared->Prop} (ok:(X.wish E).Ok):X.Ok:=
 ⟨ok.mod,ok.kind,ok.glob,ok.blt,ok.above,ok.inj,ok.has,ok.cab,ok.hd,ok.frames,ok.stk,ok.exf,ok.bs,ok.bsz,ok.noex,ok.exfs,ok.funs,ok.frf⟩
section
variable {X:Cx} {pins:List (Addr×Obj)} {U:St} {H:Hp} {s:Shared} {E:Value->Shared->Prop}
theorem Inv.wish (I:Inv X pins U H s) (E:Value->Shared->Prop):Inv (X.wish E) pins U H s:=⟨I.ok.wish E,I.os,I.bare,I.base,I.loc,I.cell,I.free,I.freeC,I.pin,I.hok,I.len⟩
theorem Inv.unwish (I:Inv (X.wish E) pins U H s):Inv X pins U H s:=⟨I.ok.unwish,I.os,I.bare,I.base,I.loc,I.cell,I.free,I.freeC,I.pin,I.hok,I.len⟩
theorem SP.unwish {D:dv} {f:Flow} (h:SP (X.wish E) pins D f s'):SP X pins D f s':=by
 cases f with
 | next=>obtain ⟨U',H',I,q⟩:=h;exact ⟨U',H',I.unwish,q⟩
 | brk=>obtain ⟨U',H',I,q⟩:=h;exact ⟨U',H',I.unwish,q⟩
 | cont=>obtain ⟨U',H',I,q⟩:=h;exact ⟨U',H',I.unwish,q⟩
 | ret u=>obtain ⟨v,U',H',I,r,q⟩:=h;exact ⟨v,U',H',I.unwish,r,q⟩
theorem PSs.nox {st:List Stmt} {t:TS} (h:PSs X.nox st t):PSs X st t:=fun pins s U H D I hw=>
 wpAny_mono (h pins s U H D (I.wish _) hw) (fun _ _ q=>q.unwish) fun _ _ z=>False.elim z
end
section
variable {X:Cx} {st:Stmt} {rest:List Stmt} {t u:TS} {e:Expr} {te:TE} {pos:Pos}
def xo:TS:=fun D U H=>D.nx U H
def fF (t u:TS):TS:=fun D U H=>t { D with nx:=u D } U H
theorem vC:PSs X [] xo:=fun _ _ U H _ I h=>wpAny_execs_nil ⟨U,H,I,h⟩
theorem yf (h1:PS X st t) (h2:PSs X rest u):PSs X (st::rest) (fF t u):=by
 intro pins s U H D I h;refine wpAny_execs_cons (bP (h1 pins s U H { D with nx:=u D } I h) fun f s1 q=>?_)
 cases f with
 | next=>
  obtain ⟨U',H',I',q⟩:=q;exact h2 pins s1 U' H' D I' q
 | ret v=>exact q
 | brk=>exact q
 | cont=>exact q
theorem Es (h1:PS X st t):PSs X [st] t:=by
 intro pins s U H D I h;refine wpAny_execs_cons (bP (h1 pins s U H D I h) fun f s1 q=>?_)
 cases f with
 | next=>exact wpAny_execs_nil q
 | ret v=>exact q
 | brk=>exact q
 | cont=>exact q
theorem Inv.quiet {U:St} {H:Hp} {s:Shared} (I:Inv X pins U H s):interactive X.env=false:=by simp [interactive,I.ok.kind]
def d6 (te:TE):TS:=fun D U H=>te U H fun _ H1=>D.nx U H1
theorem C1 (he:PE X e te) (hs:swapsWith e none pos.line X.env=pure false:=by rfl):PS X (.Expr e pos) (d6 te):=by
 intro pins s U H D I h;exact wpAny_Expr_any (bP (he pins s U H _ I h) fun v s1 ⟨x,H1,I1,r1,q1⟩=>⟨U,H1,I1,q1⟩) I.quiet hs
def BH (te:TE):TS:=fun D U H=>te U H D.rt
theorem zc (he:PE X e te):PS X (.Return (some e) pos) (BH te):=by
 intro pins s U H D I h;exact wpAny_Return_some (bP (he pins s U H _ I h) fun v s1 ⟨x,H1,I1,r1,q1⟩=>⟨x,U,H1,I1,r1,q1⟩)
def BK (c:TT) (t u:TS):TS:=fun D U H=>c U H fun b H1=>if b=true then t D U H1 else u D U H1
theorem B3 {c:Expr} {a b:List Stmt} {tc:TT} (hc:PT X c tc) (ha:PSs X a t) (hb:PSs X b u):PS X (.If c a b pos) (BK tc t u):=by
 intro pins s U H D I h;refine wpAny_If (bP (hc pins s U H _ I h) fun d s1 ⟨H1,I1,q1⟩=>?_)
 cases d with
 | true=>exact ha pins s1 U H1 D I1 q1
 | false=>exact hb pins s1 U H1 D I1 q1
end
abbrev TG:=V->St->Hp->(St->Hp->Prop)->Prop
abbrev xN:=List V->St->Hp->(St->Hp->Prop)->Prop
def PG (X:Cx) (target:Expr) (t:TG):Prop:=
 ∀(pins:List (Addr×Obj)) (s:Shared) (U:St) (H:Hp) (v:V) (u:Value) (Q:St->Hp->Prop),Inv X pins U H s->RelV v u->t v U H Q ->
  wpAny (model X.prog X.w) X.A (assign target X.env u) (fun _ s'=>∃U' H',Inv X pins U' H' s'/\Q U' H') X.xe s
def DE (X:Cx) (ts:List Expr) (t:xN):Prop:=
 ∀(pins:List (Addr×Obj)) (s:Shared) (U:St) (H:Hp) (vs:List V) (us:List Value) (Q:St->Hp->Prop),Inv X pins U H s->Vals vs us->t vs U H Q ->
  wpAny (model X.prog X.w) X.A (assignInOrder ((assignEach ts X.env).map (·.2)) us) (fun _ s'=>∃U' H',Inv X pins U' H' s'/\Q U' H') X.xe s
abbrev AL:=V->V->V->Hp->(Hp->Prop)->Prop
def CM (X:Cx) (t:AL):Prop:=
 ∀(pins:List (Addr×Obj)) (s:Shared) (U:St) (H:Hp) (o i v:V) (ov iv u:Value) (Q:Hp->Prop),Inv X pins U H s->RelV o ov->RelV i iv->RelV v u->t o i v H Q ->
  wpAny (model X.prog X.w) X.A (setItem ov iv u) (fun _ s'=>∃H',Inv X pins U H' s'/\Q H') X.xe s
abbrev DD:=V->V->Hp->VK->Prop
def GT (X:Cx) (op:Operator) (t:DD):Prop:=
 ∀(pins:List (Addr×Obj)) (s:Shared) (U:St) (H:Hp) (x y:V) (v u:Value) (Q:VK),Inv X pins U H s->RelV x v->RelV y u->t x y H Q ->
  wpAny (model X.prog X.w) X.A (inplaceOp op v u) (EP X pins U Q) X.xe s
section
variable {X:Cx} {pos:Pos}
def gName (i:Nat):TG:=fun v U H Q=>Q (U.set i (some v)) H
theorem oX {i:Nat} (hN:X.N.Nodup) (hi:X.N[i]?=some x) (hx:Loc X.env.scope x) (hf:X.fn x=true\/X.env.scope.names.lookup x=some .local:=by first | exact .inl rfl | exact .inr rfl | assumption):PG X (.Name x pos) (gName i):=by
 intro pins s U H v u Q I r h;exact wpAny_assign_Name (Ej I hN hi hx r (fun s' I'=>⟨_,H,I',h⟩) hf)
def Ae:xN:=fun vs U H Q=>vs=[]/\Q U H
def oI (t:TG) (u:xN):xN:=fun vs U H Q=>∃v r,vs=v::r/\t v U H fun U' H'=>u r U' H' Q
theorem Eo:DE X [] Ae:=by
 intro pins s U H vs us Q I r h;obtain ⟨e,h⟩:=h;subst e
 cases r;exact assignInOrder_nil ⟨U,H,I,h⟩
theorem ye {t:TG} {u:xN} (h1:PG X e t) (h2:DE X es u)
  (hs:(assignEach (e::es) X.env).map (·.2)=assign e X.env::(assignEach es X.env).map (·.2):=by rfl):DE X (e::es) (oI t u):=by
 intro pins s U H vs us Q I r h;obtain ⟨v,vr,e1,h⟩:=h;subst e1
 cases r with
 | cons r rr=>
  rw [hs];refine assignInOrder_cons (bP (h1 pins s U H _ _ _ I r h) fun _ s1 ⟨U1,H1,I1,q1⟩=>?_)
  exact h2 pins s1 U1 H1 _ _ Q I1 rr q1
def Ad (K:Fg) (n:Nat) (t:xN):TG:=fun v U H Q=>∃a xs,v=.ref a/\SqT K H a xs/\xs.length=n/\t xs U H Q
theorem DM {t:xN} (hc:X.calm=true) (h:DE X es t)
  (hn:(assignEach es X.env).length=n:=by rfl) (hst:(assignEach es X.env).findIdx? (·.1)=none:=by rfl):PG X (.Tuple es k pos) (Ad X.K n t):=by
 intro pins s U H v u Q I r hw;obtain ⟨a,xs,e1,hq,hl,hw⟩:=hw;subst e1
 cases r;obtain ⟨its,rv,ht,hz⟩:=I.tuple hq;refine assign_Tuple_tuple (I.ok.hd hc) ht (by simp [hn,<-hl,rv.length]) hst fun h' hx=>?_
 have I1:Inv X pins U H { s with heap:=h' }:=I.kept (t':=s.toks) fun b o e=>hx b o (Nat.ne_of_lt (Heap.lt_size e)) e
 exact h pins _ U H xs _ Q I1 (by simpa using rv) hw
def gSub (to ti:TE) (t:AL):TG:=fun v U H Q=>to U H fun o H1=>ti U H1 fun i H2=>t o i v H2 fun H3=>Q U H3
theorem zg {o i:Expr} {to ti:TE} {t:AL} (ho:PE X o to) (hi:PE X i ti) (hs:CM X t)
  (ha:∀v,assign (.Subscript o i pos) X.env v=(do
   let ov <-holding [v] (eval o X.env)
   let iv <-holding [v,ov] (eval i X.env)
   standAt pos
   holding [v,ov,iv] (setItem ov iv v)
   release [v,ov,iv] []):=by intro _;rfl):PG X (.Subscript o i pos) (gSub to ti t):=by
 intro pins s U H v u Q I r h;rw [ha];refine wpAny_bind (wpAny_holding (bP (ho pins s U H _ I h) fun ov s1 ⟨x,H1,I1,r1,q1⟩=>?_))
 refine wpAny_bind (wpAny_holding (bP (hi pins s1 U H1 _ I1 q1) fun iv s2 ⟨y,H2,I2,r2,q2⟩=>?_))
 refine wpAny_bind (wpAny_standAt (wpAny_bind (wpAny_holding (bP (hs pins s2 U H2 x y v ov iv u _ I2 r1 r2 r q2) fun _ s3 ⟨H3,I3,q3⟩=>?_))))
 exact wpAny_release ⟨U,H3,I3,q3⟩
def gW (te:TE) (g:TG):TS:=fun D U H=>te U H fun x H1=>g x U H1 D.nx
theorem DN {te:TE} {g:TG} (he:PE X e te) (hg:PG X tg g) (hs:swapsWithSole [tg] e pos.line X.env=pure false:=by rfl) (hw:swappedStores [tg] e X.env=pure none:=by rfl)
  (h1:(assignEach [tg] X.env).map (·.2)=[assign tg X.env]:=by rfl):PS X (.Assign [tg] e pos) (gW te g):=by
 intro pins s U H D I h;refine wpAny_Assign_stores (bP (he pins s U H _ I h) fun v s1 ⟨x,H1,I1,r1,q1⟩=>?_) hs hw
 rw [h1];exact bP (hg pins s1 U H1 x v _ I1 r1 q1) fun _ s2 q=>q
theorem zb {i:Nat} {te:TE} (hN:X.N.Nodup) (hi:X.N[i]?=some x) (hx:Loc X.env.scope x) (he:PE X e te) (hs:swapsWith e (some (.Name x pos')) pos.line X.env=pure false:=by rfl) (hf:X.fn x=true\/X.env.scope.names.lookup x=some .local:=by first | exact .inl rfl | exact .inr rfl | assumption) :
  PS X (.Assign [.Name x pos'] e pos) (gW te (gName i)):=by
 intro pins s U H D I h;refine wpAny_Assign_Name (bP (he pins s U H _ I h) fun v s1 ⟨y,H1,I1,r1,q1⟩=>?_) hs
 exact Ej I1 hN hi hx r1 (fun s2 I2=>⟨_,H1,I2,q1⟩) hf
def BL (i:Nat) (te:TE) (ti:DD):TS:=fun D U H=>∃x,U[i]?=some (some x)/\te U H fun y H1=>ti x y H1 fun z H2=>D.nx (U.set i (some z)) H2
theorem zd {i:Nat} {te:TE} {op:Operator} {ti:DD} (hN:X.N.Nodup) (hi:X.N[i]?=some x) (hx:Loc X.env.scope x) (he:PE X e te) (ho:GT X op ti) (hf:X.fn x=true\/X.env.scope.names.lookup x=some .local:=by first | exact .inl rfl | exact .inr rfl | assumption) :
  PS X (.AugAssign (.Name x pos') op e pos) (BL i te ti):=by
 intro pins s U H D I h;obtain ⟨v,e1,h⟩:=h;obtain ⟨m,hn,hl⟩:=I.loc;have vis:AK X.env.scope x:=by rcases hx with k | k;exact .inl k;exact .inr (.inl k)
 obtain ⟨u,r,l⟩:=hl i x v hi e1 vis;refine wpAny_AugAssign_Name ?_
 have go:wpAny (model X.prog X.w) X.A (eval e X.env) (fun w s₂=>wpAny (model X.prog X.w) X.A (inplaceOp op u w) (fun r s₃=>wpAny (model X.prog X.w) X.A (storeName X.env x r) (fun _=>SP X pins D .next) X.xe s₃) X.xe s₂) X.xe s:=by
  refine bP (he pins s U H _ I h) fun w s1 ⟨y,H1,I1,r1,q1⟩=>?_
  refine bP (ho pins s1 U H1 v y u w _ I1 r r1 q1) fun z s2 ⟨zv,H2,I2,r2,q2⟩=>?_
  exact Ej I2 hN hi hx r2 (fun s3 I3=>⟨_,H2,I3,q2⟩) hf
 rcases l with ⟨hk,hm⟩ | ⟨hk,c,hc,hcell⟩
 ·exact wpAny_loadName_local I.ok.kind hk hn hm go
 ·rcases hk with hk | hk
  ·exact wpAny_loadName_cell I.ok.kind hk hc hcell go
  ·rcases hx with k | k
   ·have:X.env.scope.names.lookup x=some .free:=hk
    rw [k] at this;cases this
   ·have:X.env.scope.names.lookup x=some .free:=hk
    rw [k] at this;cases this
def GO (f:Int->Int->Int):DD:=fun x y H Q=>∃i j,x=.int i/\y=.int j/\Q (.int (f i j)) H
theorem zQ:GT X .Add (GO fun i j=>i+j):=by
 intro pins s U H x y v u Q I r1 r2 h;obtain ⟨i,j,e1,e2,q⟩:=h;subst e1;subst e2;obtain ⟨t,rfl⟩:=r1;obtain ⟨t',rfl⟩:=r2;exact iadd_int ⟨.int _,H,I.tok _,⟨_,rfl⟩,q⟩
end
section
variable {X:Cx} {pos:Pos}
def rj (c:TT) (tb:TS):TS:=fun D U H=>∃W:Nat->St->Hp->Prop,(∃m,W m U H)/\∀m U H,W m U H ->
 c U H fun b H1=>if b=true then ∃N:St->Hp->Prop,(∀U' H',N U' H'->∃m',m'<m/\W m' U' H')/\tb { D with nx:=N,ct:=N,bk:=D.nx } U H1 else D.nx U H1
theorem sf {c:Expr} {body:List Stmt} {tc:TT} {tb:TS} (hp:PassesOwn (model X.prog X.w) X.A X.env X.xe) (hc:PT X c tc) (hb:PSs X body tb):PS X (.While c body [] pos) (rj tc tb):=by
 intro pins s U H D I h;obtain ⟨W,⟨m0,w0⟩,turn⟩:=h;refine wpAny_While (codeAny_whileLoop (fun n s'=>∃U' H',Inv X pins U' H' s'/\W n U' H') ?_ m0 ⟨U,H,I,w0⟩)
 rintro n s1 ⟨U1,H1,I1,w1⟩
 refine wpAny_passesOwn hp (bP (hc pins s1 U1 H1 _ I1 (turn n U1 H1 w1)) fun b s2 ⟨H2,I2,q2⟩=>?_)
 cases b with
 | true=>
  obtain ⟨N,hN,q2⟩:=q2;rw [if_pos rfl];refine wpAny_passesOwn hp (bP (hb pins s2 U1 H2 _ I2 q2) fun f s3 q3=>?_)
  cases f with
  | next=>
   obtain ⟨U3,H3,I3,n3⟩:=q3;obtain ⟨m',hm,w3⟩:=hN U3 H3 n3;exact ⟨m',hm,U3,H3,I3,w3⟩
  | cont=>
   obtain ⟨U3,H3,I3,n3⟩:=q3;obtain ⟨m',hm,w3⟩:=hN U3 H3 n3;exact ⟨m',hm,U3,H3,I3,w3⟩
  | brk=>exact q3
  | ret v=>exact q3
 | false=>
  rw [if_neg Bool.false_ne_true];exact wpAny_execs_nil ⟨U1,H2,I2,q2⟩
end
structure It where
 go:Nat->Hp->Prop
 yld:Nat->Hp->V->Hp->Prop
 stop:Nat->Hp->Prop
def i8 (X:Cx) (pins:List (Addr×Obj)) (H:Hp) (b:Addr):Prop:=
 H b=none/\b≠X.env.locals/\b∉X.fs/\(b∈X.ex\/X.s₀.heap.objs.size<=b)/\(∀x c,X.env.cells.lookup x=some c->c≠b)/\∀p∈X.pn++pins,p.1≠b
theorem Inv.fpOk {X:Cx} {U:St} {H H':Hp} {s:Shared} (I:Inv X pins U H s) (hb:s.heap.objs.size<=b) (hn:H' b=none):i8 X pins H' b:=by
 refine ⟨hn,Nat.ne_of_gt (Nat.lt_of_lt_of_le I.lt hb),I.nofs hb,.inr (Nat.le_trans I.sz hb),fun x c e z=>?_,fun p hp z=>?_⟩
 ·obtain ⟨v,q⟩:=I.cell x c e
  exact absurd (Nat.lt_of_lt_of_le q.lt (by rw [z];exact hb)) (Nat.lt_irrefl _)
 ·exact absurd (Nat.lt_of_lt_of_le (Heap.lt_size (I.pin p hp).1) (by rw [z];exact hb)) (Nat.lt_irrefl _)
structure qv (P:Program) (w:World) (K:Fg) (tg:Expr) (J:It) (fp:List Addr) (it:Addr) (tn:Nat->Heap->Prop):Prop where
 mem:it∈fp
 obj:∀i h,tn i h->∀b∈fp,∃o,h.get? b=some o/\∀v,o.data≠.cell v
 keep:∀i h h',tn i h->(∀b∈fp,∀o,h.get? b=some o->h'.get? b=some o)->tn i h'
 item:∀(X:Cx),X.prog=P->X.w=w->X.K=K->X.calm=true->∀(i:Nat) (pins:List (Addr×Obj)) (s:Shared) (U:St) (H:Hp) (E:Value->Shared->Prop),Inv X pins U H s->(∀b∈fp,i8 X pins H b)->tn i s.heap->J.go i H ->
  wpAny (model P w) X.A (pyNext (.ref it)) (fun r s1=>∃u,r=some u /\
   wpAny (model P w) X.A (letOwnedTupleGo tg (.ref it) u) (fun _ s2=>∃x H',Inv X pins U H' s2/\RelV x u/\J.yld i H x H'/\tn (i+1) s2.heap/\∀b∈fp,H' b=none) E s1) E s
 done:∀(X:Cx),X.prog=P->X.w=w->X.K=K->X.calm=true->∀(i:Nat) (pins:List (Addr×Obj)) (s:Shared) (U:St) (H:Hp) (E:Value->Shared->Prop),Inv X pins U H s->(∀b∈fp,i8 X pins H b)->tn i s.heap->J.stop i H ->
  wpAny (model P w) X.A (pyNext (.ref it)) (fun r s1=>r=none/\Inv X pins U H s1) E s
 self:∀(A:Around) (i:Nat) (s:Shared) (Q:Value->Shared->Prop) (E:Value->Shared->Prop),tn i s.heap->Q (.ref it) s->wpAny (model P w) A (pyIter (.ref it)) Q E s
abbrev TI:=St->Hp->(It->Hp->Prop)->Prop
def GU (X:Cx) (pins:List (Addr×Obj)) (U:St) (tg:Expr) (R:It->Hp->Prop) (itv:Value) (s2:Shared):Prop:=
 ∃(it:Addr) (fp:List Addr) (tn:Nat->Heap->Prop) (J:It) (H':Hp),itv=.ref it/\Inv X pins U H' s2/\qv X.prog X.w X.K tg J fp it tn/\tn 0 s2.heap/\(∀b∈fp,i8 X pins H' b)/\R J H'
def PI (X:Cx) (tg iter:Expr) (wi:TI):Prop:=
 ∀(pins:List (Addr×Obj)) (s:Shared) (U:St) (H:Hp) (R:It->Hp->Prop),Inv X pins U H s->wi U H R ->
  wpAny (model X.prog X.w) X.A (eval iter X.env) (fun v s1=>wpAny (model X.prog X.w) X.A (pyIter v) (GU X pins U tg R) X.xe s1) X.xe s
theorem oG {E:Value->Shared->Prop} {s:Shared} {n:String} {vs:Array Value} {Q:Unit->Shared->Prop} (ho:s.heap.get? it=some o) (hc:o.cls=.type n) (hd:o.data=.fields vs)
  (hn:["enumerate", "zip", "dict_itemiterator", "dict_reverseitemiterator", "odict_iterator", "itertools.zip_longest", "itertools.pairwise"].contains n=false) (hQ:Q () s):wpAny M A (letOwnedTupleGo tg (.ref it) u) Q E s:=by
 unfold letOwnedTupleGo
 cases tg<;>first
  | exact wpAny_pure hQ
  | (cases u<;>first
      | exact wpAny_pure hQ
      | (refine wpAny_bind (wpAny_load ho ?_)
         rw [hc,hd];show wpAny M A (if (["enumerate", "zip", "dict_itemiterator", "dict_reverseitemiterator", "odict_iterator", "itertools.zip_longest", "itertools.pairwise"].contains n&&vs[0]?==some (rawInt _))=true then _ else _) Q E s
         rw [if_neg (by intro h;rw [hn,Bool.false_and] at h;cases h)]
         exact wpAny_pure hQ))
def AQ (K:Fg) (a:Addr):It:=
 ⟨fun i H=>∃xs x,SqL K H a xs/\xs[i]?=some x,fun i H x H'=>H'=H/\∀xs,SqL K H a xs->xs[i]?=some x,fun i H=>∃xs,SqL K H a xs/\xs.length<=i⟩
def DH (K:Fg) (a:Addr):It:=
 ⟨fun i H=>∃xs x,SqT K H a xs/\xs[i]?=some x,fun i H x H'=>H'=H/\∀xs,SqT K H a xs->xs[i]?=some x,fun i H=>∃xs,SqT K H a xs/\xs.length<=i⟩
def AO (lo:Int) (n:Nat):It:=⟨fun i _=>i<n,fun i H x H'=>H'=H/\x=.int (lo+i),fun i _=>n<=i⟩
theorem o8 {P:Program} {w:World} {K:Fg} (a it:Addr):qv P w K tg (AQ K a) [it] it (fun i h=>h.IsListIter it a i) where
 mem:=by simp
 obj:=fun i h st b hb=>by
  have e:b=it:=by simpa using hb
  subst e;obtain ⟨o,e,c,d⟩:=st;exact ⟨o,e,fun v z=>by rw [d] at z;cases z⟩
 keep:=fun i h h' st k=>st.at fun o e=>k it (by simp) o e
 item:=by
  intro X hP hw hK hc i pins s U H E I hf st hg;subst hP hw hK;obtain ⟨xs,x,hq,hx⟩:=hg;obtain ⟨its,rv,p,hz⟩:=I.list hq;obtain ⟨u,hu,ru⟩:=rv.get hx;obtain ⟨f0,f1,f2,f3,f4,f5⟩:=hf it (by simp)
  refine wpAny_pyNext_list_item st p.isList (x:=u) (by simpa using hu) fun h' st' sb=>?_
  have I1:Inv X pins U H { s with heap:=h' }:=I.turned (t':=s.toks) (fun b o hb e=>(sb.2 b hb).trans e) f0 f1 f3 f4 f5
  obtain ⟨o,e,c,d⟩:=id st'
  exact ⟨u,rfl,oG (s:={ s with heap:=h' }) e c d (by decide) ⟨x,H,I1,ru,⟨rfl,fun ys hy=>by rw [I.list_inj hy hq];exact hx⟩,st',fun b hb=>(hf b hb).1⟩⟩
 done:=by
  intro X hP hw hK hc i pins s U H E I hf st hg;subst hP hw hK;obtain ⟨xs,hq,hx⟩:=hg;obtain ⟨its,rv,p,hz⟩:=I.list hq;obtain ⟨f0,f1,f2,f3,f4,f5⟩:=hf it (by simp)
  have hl:=rv.length
  exact wpAny_pyNext_list_end (I.ok.hd hc) st p.isList (by simp;omega) fun h' eb=>⟨rfl,I.turned (t':=s.toks) (fun b o hb e=>eb b o hb e) f0 f1 f3 f4 f5⟩
 self:=fun _ _ _ _ _ st h=>wpAny_pyIter_listiter st h
theorem mJ {P:Program} {w:World} {K:Fg} (a it:Addr):qv P w K tg (DH K a) [it] it (fun i h=>h.IsTupleIter it a i) where
 mem:=by simp
 obj:=fun i h st b hb=>by
  have e:b=it:=by simpa using hb
  subst e;obtain ⟨o,e,c,d⟩:=st;exact ⟨o,e,fun v z=>by rw [d] at z;cases z⟩
 keep:=fun i h h' st k=>st.at fun o e=>k it (by simp) o e
 item:=by
  intro X hP hw hK hc i pins s U H E I hf st hg;subst hP hw hK;obtain ⟨xs,x,hq,hx⟩:=hg;obtain ⟨its,rv,p,hz⟩:=I.tuple hq;obtain ⟨u,hu,ru⟩:=rv.get hx;obtain ⟨f0,f1,f2,f3,f4,f5⟩:=hf it (by simp)
  refine wpAny_pyNext_tuple_item st (show s.heap.IsTuple a its.toArray from p) (x:=u) (by simpa using hu) fun h' st' sb=>?_
  have I1:Inv X pins U H { s with heap:=h' }:=I.turned (t':=s.toks) (fun b o hb e=>(sb.2 b hb).trans e) f0 f1 f3 f4 f5
  obtain ⟨o,e,c,d⟩:=id st'
  exact ⟨u,rfl,oG (s:={ s with heap:=h' }) e c d (by decide) ⟨x,H,I1,ru,⟨rfl,fun ys hy=>by rw [I.tuple_inj hy hq];exact hx⟩,st',fun b hb=>(hf b hb).1⟩⟩
 done:=by
  intro X hP hw hK hc i pins s U H E I hf st hg;subst hP hw hK;obtain ⟨xs,hq,hx⟩:=hg;obtain ⟨its,rv,p,hz⟩:=I.tuple hq;obtain ⟨f0,f1,f2,f3,f4,f5⟩:=hf it (by simp)
  have hl:=rv.length
  exact wpAny_pyNext_tuple_end (I.ok.hd hc) st (show s.heap.IsTuple a its.toArray from p) (by simp;omega) fun h' eb=>⟨rfl,I.turned (t':=s.toks) (fun b o hb e=>eb b o hb e) f0 f1 f3 f4 f5⟩
 self:=fun _ _ _ _ _ st h=>wpAny_pyIter_tupleiter st h
theorem mK {P:Program} {w:World} {K:Fg} (it:Addr) (lo:Int) (n:Nat):qv P w K tg (AO lo n) [it] it (fun i h=>IsRangeIter h it (lo+(i:Nat)*1) ((n:Int)-(i:Nat)) 1) where
 mem:=by simp
 obj:=fun i h st b hb=>by
  have e:b=it:=by simpa using hb
  subst e;exact ⟨_,st,fun v z=>by
   have z':Data.fields _=Data.cell v:=z
   cases z'⟩
 keep:=fun i h h' st k=>k it (by simp) _ st
 item:=by
  intro X hP hw hK hc i pins s U H E I hf st hg;subst hP hw hK;obtain ⟨f0,f1,f2,f3,f4,f5⟩:=hf it (by simp)
  have W:=Walks.range (prog:=X.prog) (w:=X.w) (I.ok.hd hc) it lo 1 n
  refine W.item i s _ _ hg st fun v h' tk hv st' kk=>?_
  obtain ⟨t,rfl⟩:=hv;have I1:Inv X pins U H { s with heap:=h',toks:=tk }:=I.turned (fun b o hb e=>kk b o (by simpa using hb) e) f0 f1 f3 f4 f5
  refine ⟨_,rfl,oG (s:={ s with heap:=h',toks:=tk }) (n := "range_iterator") st' rfl rfl (by decide) ⟨.int (lo+i),H,I1,⟨t,?_⟩,⟨rfl,rfl⟩,st',fun b hb=>(hf b hb).1⟩⟩
  rw [Int.mul_one]
 done:=by
  intro X hP hw hK hc i pins s U H E I hf st hg;subst hP hw hK;obtain ⟨f0,f1,f2,f3,f4,f5⟩:=hf it (by simp)
  exact wpAny_pyNext_range_end (I.ok.hd hc) st (by have:n<=i:=hg;omega) fun h' eb=>⟨rfl,I.turned (t':=s.toks) (fun b o hb e=>eb b o hb e) f0 f1 f3 f4 f5⟩
 self:=fun _ _ _ _ _ st h=>wpAny_pyIter_rangeiter st h
section
variable {X:Cx} {tg:Expr}
def oE (K:Fg) (tl:TE):TI:=fun U H R=>tl U H fun x H1=>∃a,x=.ref a/\(∃xs,SqL K H1 a xs)/\R (AQ K a) H1
def Ct (K:Fg) (tl:TE):TI:=fun U H R=>tl U H fun x H1=>∃a,x=.ref a/\(∃xs,SqT K H1 a xs)/\R (DH K a) H1
theorem Er {tl:TE} (hl:PE X l tl):PI X tg l (oE X.K tl):=by
 intro pins s U H R I h;refine bP (hl pins s U H _ I h) fun v s1 ⟨x,H1,I1,r1,q1⟩=>?_
 obtain ⟨a,e,⟨xs,hq⟩,q⟩:=q1;subst e
 cases r1;obtain ⟨its,rv,p,hz⟩:=I1.list hq;refine wpAny_pyIter_list p.isList ?_
 refine ⟨s1.heap.objs.size,[s1.heap.objs.size],_,_,H1,rfl,I1.kept (t':=s1.toks) fun b o e=>Heap.get?_push_of_some _ e,o8 a _,⟨_,Heap.get?_push_size _ rfl,rfl,rfl⟩,fun b hb=>?_,q⟩
 have e:b=s1.heap.objs.size:=by simpa using hb
 subst e;exact I1.fpOk (Nat.le_refl _) (I1.hok.fresh (Nat.le_refl _))
theorem zf {tl:TE} (hl:PE X l tl):PI X tg l (Ct X.K tl):=by
 intro pins s U H R I h;refine bP (hl pins s U H _ I h) fun v s1 ⟨x,H1,I1,r1,q1⟩=>?_
 obtain ⟨a,e,⟨xs,hq⟩,q⟩:=q1;subst e
 cases r1;obtain ⟨its,rv,p,hz⟩:=I1.tuple hq;refine wpAny_pyIter_tuple (show s1.heap.IsTuple a its.toArray from p) ?_
 refine ⟨s1.heap.objs.size,[s1.heap.objs.size],_,_,H1,rfl,I1.kept (t':=s1.toks) fun b o e=>Heap.get?_push_of_some _ e,mJ a _,⟨_,Heap.get?_push_size _ rfl,rfl,rfl⟩,fun b hb=>?_,q⟩
 have e:b=s1.heap.objs.size:=by simpa using hb
 subst e;exact I1.fpOk (Nat.le_refl _) (I1.hok.fresh (Nat.le_refl _))
theorem kO {U:St} {H:Hp} {s:Shared} {R:It->Hp->Prop} {E:Value->Shared->Prop} {lo hi:Int} {t u v:Tok} {tk:Nat} (I:Inv X pins U H s) (h1:-(2 ^ 62)<=lo) (h2:lo<2 ^ 62) (h3:-(2 ^ 62)<=hi) (h4:hi<2 ^ 62)
  (q:R (AO lo (hi-lo).toNat) H):wpAny (model X.prog X.w) X.A (pyIter (.ref s.heap.objs.size)) (GU X pins U tg R) E { s with heap:=s.heap.push { cls:=.type "range",data:=.fields #[.int lo t,.int hi u,.int 1 v] },toks:=tk }:=by
 refine wpAny_pyIter_range (IsRange.new ..) (small_one h1 h2 h3 h4) ?_
 have I1:Inv X pins U H { s with heap:=s.heap.push { cls:=.type "range",data:=.fields #[.int lo t,.int hi u,.int 1 v] },toks:=tk }:=I.kept fun b o e=>Heap.get?_push_of_some _ e
 refine ⟨(s.heap.push { cls:=.type "range",data:=.fields #[.int lo t,.int hi u,.int 1 v] }).objs.size,[(s.heap.push { cls:=.type "range",data:=.fields #[.int lo t,.int hi u,.int 1 v] }).objs.size],_,_,H,rfl,
  I1.kept (t':=tk) fun b o e=>Heap.get?_push_of_some _ e,mK _ lo (hi-lo).toNat,?_,fun b hb=>?_,q⟩
 ·have e1:lo+((0:Nat):Int)*1=lo:=by simp
  have e2:(((hi-lo).toNat:Nat):Int)-((0:Nat):Int)=Builtin.Range.rangeSize lo hi 1:=by rw [rangeSize_one];split<;>omega
  show IsRangeIter _ _ (lo+((0:Nat):Int)*1) ((((hi-lo).toNat:Nat):Int)-((0:Nat):Int)) 1
  rw [e1,e2];exact Heap.get?_push_size _ rfl
 ·have e:b=(s.heap.push { cls:=.type "range",data:=.fields #[.int lo t,.int hi u,.int 1 v] }).objs.size:=by simpa using hb
  subst e;exact I1.fpOk (Nat.le_refl _) (I1.hok.fresh (Nat.le_refl _))
def xA (ta:TA):TI:=fun U H R=>ta U H fun vs H1=>∃j:Int,vs=[.int j]/\-(2 ^ 62)<=j/\j<2 ^ 62/\R (AO 0 j.toNat) H1
def xy (ta:TA):TI:=fun U H R=>ta U H fun vs H1=>∃i j:Int,vs=[.int i,.int j]/\(-(2 ^ 62)<=i/\i<2 ^ 62/\-(2 ^ 62)<=j/\j<2 ^ 62)/\R (AO i (j-i).toNat) H1
theorem pI {a:Expr} {ta:TA} {p:Pos} (hg:Gl X "range") (hm:X.mg "range"=none) (ha:PA X [a] ta) (hs:starEach [a] X.env=[(false,eval a X.env)]:=by rfl):PI X tg (.Call (.Name "range" p) [a] [] pos) (xA ta):=by
 intro pins s U H R I h;refine Call_ (wZ I hg hm boot_range (PyProof.Rows.callWith_type1 (bP (ha pos pins s U H _ I h) fun us s1 ⟨vs,H1,I1,r1,q1⟩=>?_) hs rfl))
 obtain ⟨j,e,q1,q2,q⟩:=q1;subst e
 cases r1 with
 | cons r rr=>
  cases rr;obtain ⟨t,rfl⟩:=r;exact call_range_1 (kO I1 (by omega) (by omega) q1 q2 (by simpa using q))
theorem pH {a b:Expr} {ta:TA} {p:Pos} (hg:Gl X "range") (hm:X.mg "range"=none) (ha:PA X [a,b] ta) (hs:starEach [a,b] X.env=[(false,eval a X.env),(false,eval b X.env)]:=by rfl) (hs2:starEach [b] X.env=[(false,eval b X.env)]:=by rfl) :
  PI X tg (.Call (.Name "range" p) [a,b] [] pos) (xy ta):=by
 intro pins s U H R I h;refine Call_ (wZ I hg hm boot_range (PyProof.Rows.callWith_type1 (bP (ha pos pins s U H _ I h) fun us s1 ⟨vs,H1,I1,r1,q1⟩=>?_) (by rw [hs,hs2]) (by rw [hs2];rfl)))
 obtain ⟨i,j,e,⟨q1,q2,q3,q4⟩,q⟩:=q1;subst e
 cases r1 with
 | cons r rr=>
  cases rr with
  | cons r' rr=>
   cases rr;obtain ⟨t,rfl⟩:=r;obtain ⟨t',rfl⟩:=r'
   exact call_range_2 (kO I1 q1 q2 q3 q4 q)
def uV (wi:TI) (g:TG) (tb:TS):TS:=fun D U H=>wi U H fun J H1=>∃W:Nat->Nat->St->Hp->Prop,(∃m,W 0 m U H1)/\∀i m U H,W i m U H ->
 (J.stop i H/\D.nx U H)\/(J.go i H/\∃N:St->Hp->Prop,(∀U' H',N U' H'->∃m',m'<m/\W (i+1) m' U' H')/\∀x H',J.yld i H x H'->g x U H' fun U2 H2=>tb { D with nx:=N,ct:=N,bk:=D.nx } U2 H2)
def Bp (fp:List Addr) (h:Heap):List (Addr×Obj):=fp.filterMap fun b=>(h.get? b).map fun o=>(b,o)
theorem Da (hb:b∈fp) (e:h.get? b=some o):(b,o)∈Bp fp h:=List.mem_filterMap.mpr ⟨b,hb,by rw [e];rfl⟩
theorem pM {p:Addr×Obj} (hp:p∈Bp fp h):p.1∈fp/\h.get? p.1=some p.2:=by
 obtain ⟨b,hb,e⟩:=List.mem_filterMap.mp hp
 cases q:h.get? b with
 | none=>rw [q] at e;cases e
 | some o=>
  rw [q] at e;have e':(b,o)=p:=Option.some.inj e
  subst e'
  exact ⟨hb,q⟩
theorem Inv.pinned {U:St} {H:Hp} {s:Shared} (I:Inv X pins U H s) (hf:∀b∈fp,i8 X pins H b) (ho:∀b∈fp,∃o,s.heap.get? b=some o/\∀v,o.data≠.cell v):Inv X (pins++Bp fp s.heap) U H s:=
 I.pins_of fun p hp=>(List.mem_append.mp hp).elim (fun z=>I.pin p (mem_append_right _ z)) fun z=>by
  obtain ⟨hb,e⟩:=pM z;obtain ⟨f0,f1,f2,_⟩:=hf p.1 hb;obtain ⟨o,e',d⟩:=ho p.1 hb;rw [e] at e';cases e'
  exact ⟨e,f0,f1,f2,d⟩
theorem Inv.unpinned {pl:List (Addr×Obj)} {U:St} {H:Hp} {s:Shared} (I:Inv X (pins++pl) U H s):Inv X pins U H s:=I.pins_of fun p hp=>I.pin p (mem_append_right _ (mem_append_left _ hp))
theorem DO {iter:Expr} {body:List Stmt} {wi:TI} {g:TG} {tb:TS} (hp:PassesOwn (model X.prog X.w) X.A X.env X.xe) (hc:X.calm=true) (hi:PI X tg iter wi) (hg:PG X tg g) (hb:PSs X body tb)
  (hs:∀x,foldedSetIterable iter X.env x=pure x:=by intro _;rfl):PS X (.For tg iter body [] pos) (uV wi g tb):=by
 intro pins s U H D I h;refine wpAny_For (bP (hi pins s U H _ I h) fun v s1 h1=>bP h1 fun itv s2 h2=>?_) hs
 obtain ⟨it,fp,tn,J,H2,e,I2,T,st2,f2,W,⟨m0,w0⟩,turn⟩:=h2;subst e;have stat:∀{H':Hp},(∀b∈fp,H' b=none)->∀b∈fp,i8 X pins H' b:=fun hn b hb=>⟨hn b hb,(f2 b hb).2⟩
 refine codeAny_forLoop_any (fun n s'=>∃i U' H',Inv X pins U' H' s'/\tn i s'.heap/\(∀b∈fp,H' b=none)/\W i n U' H') ?_ m0 ⟨0,U,H2,I2,st2,fun b hb=>(f2 b hb).1,w0⟩
 rintro n s3 ⟨i,U3,H3,I3,st3,fr3,w3⟩
 rcases turn i n U3 H3 w3 with ⟨stop,qn⟩ | ⟨go,N,hN,step⟩
 ·refine wpAny_passesOwn hp (bP (T.done X rfl rfl rfl hc i pins s3 U3 H3 X.xe I3 (stat fr3) st3 stop) fun r s4 ⟨hr,I4⟩=>?_)
  subst hr;exact wpAny_execs_nil ⟨U3,H3,I4,qn⟩
 ·refine wpAny_passesOwn hp (bP (T.item X rfl rfl rfl hc i pins s3 U3 H3 X.xe I3 (stat fr3) st3 go) fun r s4 ⟨u,hr,h4⟩=>?_)
  subst hr;refine wpAny_passesOwn hp (bP h4 fun _ s5 ⟨x,H5,I5,r5,y5,st5,fr5⟩=>?_)
  have I5':=I5.pinned (stat fr5) (T.obj _ _ st5)
  refine wpAny_passesOwn hp (bP (hg _ s5 U3 H5 x u _ I5' r5 (step x H5 y5)) fun _ s6 ⟨U6,H6,I6,q6⟩=>?_)
  refine wpAny_passesOwn hp (bP (hb _ s6 U6 H6 _ I6 q6) fun f s7 q7=>?_)
  have again:∀{U7:St} {H7:Hp},Inv X (pins++Bp fp s5.heap) U7 H7 s7->N U7 H7->∃m,m<n/\∃i U' H',Inv X pins U' H' s7/\tn i s7.heap/\(∀b∈fp,H' b=none)/\W i m U' H':=fun {U7 H7} I7 n7=>by
   obtain ⟨m',hm,w7⟩:=hN U7 H7 n7;refine ⟨m',hm,i+1,U7,H7,I7.unpinned,T.keep _ _ _ st5 fun b hb o e=>(I7.pin (b,o) (mem_append_right _ (mem_append_right _ (Da hb e)))).1,fun b hb=>?_,w7⟩
   obtain ⟨o,e,d⟩:=T.obj _ _ st5 b hb;exact (I7.pin (b,o) (mem_append_right _ (mem_append_right _ (Da hb e)))).2.1
  cases f with
  | next=>obtain ⟨U7,H7,I7,n7⟩:=q7;exact again I7 n7
  | cont=>obtain ⟨U7,H7,I7,n7⟩:=q7;exact again I7 n7
  | brk=>obtain ⟨U7,H7,I7,q7⟩:=q7;exact ⟨U7,H7,I7.unpinned,q7⟩
  | ret v=>obtain ⟨x7,U7,H7,I7,r7,q7⟩:=q7;exact ⟨x7,U7,H7,I7.unpinned,r7,q7⟩
end
theorem lG {K:Fg} {a:Addr} {xs:List V} {g:TG} {tb:TS} {D:dv} {U:St} {H:Hp} (Pv:Nat->St->Hp->Prop) (h0:Pv 0 U H) (hl:∀i U H,i<=xs.length->Pv i U H->SqL K H a xs)
  (hs:∀i x U H,xs[i]?=some x->Pv i U H->g x U H fun U2 H2=>tb { D with nx:=Pv (i+1),ct:=Pv (i+1),bk:=D.nx } U2 H2) (hd:∀U H,Pv xs.length U H->D.nx U H) :
  ∃W:Nat->Nat->St->Hp->Prop,(∃m,W 0 m U H)/\∀i m U H,W i m U H ->
   ((AQ K a).stop i H/\D.nx U H)\/((AQ K a).go i H/\∃N:St->Hp->Prop,(∀U' H',N U' H'->∃m',m'<m/\W (i+1) m' U' H')/\∀x H',(AQ K a).yld i H x H'->g x U H' fun U2 H2=>tb { D with nx:=N,ct:=N,bk:=D.nx } U2 H2):=by
 refine ⟨fun i m U H=>m=xs.length-i/\i<=xs.length/\Pv i U H,⟨xs.length,by simp,Nat.zero_le _,h0⟩,?_⟩
 rintro i m U H ⟨rfl,hi,p⟩
 have q:=hl i U H hi p
 by_cases hlt:i<xs.length
 ·refine .inr ⟨⟨xs,xs[i],q,by simp [hlt]⟩,Pv (i+1),fun U' H' p'=>⟨xs.length-(i+1),by omega,rfl,hlt,p'⟩,fun x H' y=>?_⟩
  obtain ⟨e,y⟩:=y;subst e;exact hs i x U _ (y xs q) p
 ·have e:i=xs.length:=by omega
  subst e;exact .inl ⟨⟨xs,q,Nat.le_refl _⟩,hd U H p⟩
abbrev R2:=V->V->Hp->VK->Prop
def OpR (X:Cx) (f:Value->Value->Sem Value) (r:R2):Prop:=
 ∀(pins:List (Addr×Obj)) (s:Shared) (U:St) (H:Hp) (x y:V) (v u:Value) (Q:VK),Inv X pins U H s->RelV x v->RelV y u->r x y H Q ->
  wpAny (model X.prog X.w) X.A (f v u) (EP X pins U Q) X.xe s
def CallR (X:Cx) (f:Value) (r:List V->Hp->VK->Prop):Prop:=
 ∀(pins:List (Addr×Obj)) (s:Shared) (U:St) (H:Hp) (xs:List V) (us:List Value) (Q:VK),Inv X pins U H s->Vals xs us->r xs H Q ->
  wpAny (model X.prog X.w) X.A (call f us) (EP X pins U Q) X.xe s
def F8 (X:Cx) (r:V->Hp->(Bool->Hp->Prop)->Prop):Prop:=
 ∀(pins:List (Addr×Obj)) (s:Shared) (U:St) (H:Hp) (x:V) (v:Value) (Q:Bool->Hp->Prop),Inv X pins U H s->RelV x v->r x H Q ->
  wpAny (model X.prog X.w) X.A (truthy v) (TP X pins U Q) X.xe s
def nQ (r:R2) (ta tb:TE):TE:=fun U H Q=>ta U H fun x H1=>tb U H1 fun y H2=>r x y H2 Q
def rI (C:Int->Int->Prop) (g:Int->Int->V):R2:=fun x y H Q=>∃i j,x=.int i/\y=.int j/\C i j/\Q (g i j) H
def og (g:Int->Int->V):R2:=fun x y H Q=>∃i j,x=.int i/\y=.int j/\Q (g i j) H
section
variable {X:Cx} {a b c:Expr} {ta tb tc:TE} {pos:Pos}
theorem AF (ha:PE X a ta) (hb:PE X b tb) {s:Shared} {U:St} {H:Hp} {R:V->V->Hp->Prop} (I:Inv X pins U H s)
  (h:ta U H fun x H1=>tb U H1 fun y H2=>R x y H2) {Q:Value->Shared->Prop} {f:Value->Value->Sem Value}
  (hf:∀v u s2 x y H2,Inv X pins U H2 s2->RelV x v->RelV y u->R x y H2->wpAny (model X.prog X.w) X.A (f v u) Q X.xe s2) :
  wpAny (model X.prog X.w) X.A (eval a X.env) (fun v s₁=>wpAny (model X.prog X.w) X.A (eval b X.env) (fun u s₂=>wpAny (model X.prog X.w) X.A (f v u) Q X.xe s₂) X.xe s₁) X.xe s:=by
 refine bP (ha pins s U H _ I h) fun v s1 ⟨x,H1,I1,r1,q1⟩=>?_
 refine bP (hb pins s1 U H1 _ I1 q1) fun u s2 ⟨y,H2,I2,r2,q2⟩=>?_
 exact hf v u s2 x y H2 I2 r1 r2 q2
theorem g7 {op:Operator} {r:R2} (ho:OpR X (binaryOp op) r) (ha:PE X a ta) (hb:PE X b tb):PE X (.BinOp a op b pos) (nQ r ta tb):=by
 intro pins s U H Q I h;exact wpAny_BinOp (AF ha hb I h fun v u s2 x y H2 I2 rx ry q=>ho pins s2 U H2 x y v u Q I2 rx ry q)
theorem Dw {f:Value->Value->Sem Value} {C:Int->Int->Prop}
  (rule:∀(i j:Int) (t u:Tok) (s:Shared) (Q:Value->Shared->Prop) (E:Value->Shared->Prop),C i j->Q (.int (g i j) s.toks) { s with toks:=s.toks+1 }->wpAny (model X.prog X.w) X.A (f (.int i t) (.int j u)) Q E s) :
  OpR X f (rI C fun i j=>.int (g i j)):=by
 intro pins s U H x y v u Q I rx ry h;obtain ⟨i,j,rfl,rfl,hc,q⟩:=h;obtain ⟨t,rfl⟩:=rx;obtain ⟨t',rfl⟩:=ry;exact rule i j t t' s _ _ hc ⟨.int (g i j),H,I.tok _,⟨_,rfl⟩,q⟩
theorem B9 {f:Value->Value->Sem Value}
  (rule:∀(i j:Int) (t u:Tok) (s:Shared) (Q:Value->Shared->Prop) (E:Value->Shared->Prop),Q (.int (g i j) s.toks) { s with toks:=s.toks+1 }->wpAny (model X.prog X.w) X.A (f (.int i t) (.int j u)) Q E s) :
  OpR X f (og fun i j=>.int (g i j)):=by
 intro pins s U H x y v u Q I rx ry h;obtain ⟨i,j,rfl,rfl,q⟩:=h;obtain ⟨t,rfl⟩:=rx;obtain ⟨t',rfl⟩:=ry;exact rule i j t t' s _ _ ⟨.int (g i j),H,I.tok _,⟨_,rfl⟩,q⟩
theorem vM {f:Value->Value->Sem Value} {g:Int->Int->Bool}
  (rule:∀(i j:Int) (t u:Tok) (s:Shared) (Q:Value->Shared->Prop) (E:Value->Shared->Prop),Q (.bool (g i j)) s->wpAny (model X.prog X.w) X.A (f (.int i t) (.int j u)) Q E s) :
  OpR X f (og fun i j=>.bl (g i j)):=by
 intro pins s U H x y v u Q I rx ry h;obtain ⟨i,j,rfl,rfl,q⟩:=h;obtain ⟨t,rfl⟩:=rx;obtain ⟨t',rfl⟩:=ry;exact rule i j t t' s _ _ ⟨.bl (g i j),H,I,rfl,q⟩
def Gd (i j:Int):Prop:=0<j/\j<1073741824
def Gc (i j:Int):Prop:=0<=j/\j<=1000000/\i.natAbs<2 ^ 64
def CMul (i j:Int):Prop:=(-(2 ^ 64)<i/\i<2 ^ 64)\/(-(2 ^ 64)<j/\j<2 ^ 64)
theorem CMul.ok {i j:Int} (h:CMul i j):IntMulOk i j:=by
 rcases h with ⟨h1,h2⟩ | ⟨h1,h2⟩
 ·exact .of_left (intBits_le_64 h1 h2)
 ·exact .of_right (intBits_le_64 h1 h2)
theorem zx:OpR X (binaryOp .Add) (og fun i j=>.int (i+j)):=B9 fun _ _ _ _ _ _ _ q=>add_int q
theorem zm:OpR X (binaryOp .Sub) (og fun i j=>.int (i-j)):=B9 fun _ _ _ _ _ _ _ q=>sub_int q
theorem zq:OpR X (binaryOp .Mult) (rI CMul fun i j=>.int (i*j)):=Dw fun _ _ _ _ _ _ _ hc q=>mul_int q hc.ok
theorem vK:OpR X (binaryOp .FloorDiv) (rI Gd fun i j=>.int (i / j)):=Dw fun i j _ _ _ _ _ hc q=>by
 have h1:(0:Int)<j:=hc.1
 have h2:j<1073741824:=hc.2
 exact floordiv_int (by omega) (by rw [Int.fdiv_eq_ediv_of_nonneg i (by omega)];exact q) (.inl (PyProof.noPylong_small (by omega)))
theorem zr:OpR X (binaryOp .Mod) (rI (fun _ j=>0<j) fun i j=>.int (i % j)):=Dw fun i j _ _ _ _ _ hc q=>by
 have h1:(0:Int)<j:=hc
 exact mod_int' (by omega) (by rw [Int.fmod_eq_emod_of_nonneg i (by omega)];exact q)
theorem zo:OpR X (binaryOp .Pow) (rI Gc fun i j=>.int (i ^ j.toNat)):=Dw fun _ _ _ _ _ _ _ hc q=>pow_int_small hc.1 hc.2.1 hc.2.2 q
end
section
variable {X:Cx} {a b c:Expr} {ta tb tc:TE} {pos:Pos}
theorem Bn {U:St} {H:Hp} {s:Shared} {Q:VK} {k k':Bool} (I:Inv X pins U H s) (q:Q (.bl k) H) (e:k=k'):EP X pins U Q (.bool k') s:=by
 subst e;exact ⟨.bl k,H,I,rfl,q⟩
theorem op_lt:OpR X (compareOp .Lt) (og fun i j=>.bl (decide (i<j))):=vM fun _ _ _ _ _ _ _ q=>lt_int q
theorem B7:OpR X (compareOp .LtE) (og fun i j=>.bl (decide (i<=j))):=vM fun _ _ _ _ _ _ _ q=>le_int q
theorem B8:OpR X (compareOp .Gt) (og fun i j=>.bl (decide (j<i))):=vM fun _ _ _ _ _ _ _ q=>gt_int q
theorem op_ge:OpR X (compareOp .GtE) (og fun i j=>.bl (decide (j<=i))):=vM fun _ _ _ _ _ _ _ q=>ge_int q
theorem pK:OpR X (compareOp .Lt) (fun x y H Q=>∃i j,x=.str i/\y=.str j/\Q (.bl (decide (i.cps.toList<j.cps.toList))) H):=by
 intro pins s U H x y v u Q I rx ry h;obtain ⟨i,j,rfl,rfl,q⟩:=h;obtain ⟨t,rfl⟩:=rx;obtain ⟨t',rfl⟩:=ry;exact lt_str (Bn I q rfl)
theorem zt:OpR X (compareOp .Is) (fun x y H Q=>y=.non/\Q (.bl (decide (x=.non))) H):=by
 intro pins s U H x y v u Q I rx ry h;obtain ⟨rfl,q⟩:=h
 cases ry;refine is_none_gen (Bn I q ?_)
 cases x<;>first
  | (cases rx;rfl)
  | (obtain ⟨t,rfl⟩:=rx;rfl)
theorem vI:OpR X (compareOp .IsNot) (fun x y H Q=>y=.non/\Q (.bl (!decide (x=.non))) H):=by
 intro pins s U H x y v u Q I rx ry h;obtain ⟨rfl,q⟩:=h
 cases ry;refine isnot_none_gen (Bn I q ?_)
 cases x<;>first
  | (cases rx;rfl)
  | (obtain ⟨t,rfl⟩:=rx;rfl)
theorem OpR.or {f:Value->Value->Sem Value} {r r':R2} (h:OpR X f r) (h':OpR X f r'):OpR X f (fun x y H Q=>r x y H Q\/r' x y H Q):=by
 intro pins s U H x y v u Q I rx ry q;rcases q with q | q
 ·exact h pins s U H x y v u Q I rx ry q
 ·exact h' pins s U H x y v u Q I rx ry q
theorem vG {op:CmpOp} {r:R2} (ho:OpR X (compareOp op) r) (ha:PE X a ta) (hb:PE X b tb) (hm:behindInMarks op b=false):PE X (.Compare a [op] [b] pos) (nQ r ta tb):=by
 intro pins s U H Q I h;exact wpAny_Compare1 (AF ha hb I h fun v u s2 x y H2 I2 rx ry q=>ho pins s2 U H2 x y v u Q I2 rx ry q) hm
def xm (t:TE):TT:=fun U H Q=>t U H fun x H'=>∃k,x=.bl k/\Q k H'
theorem vB {op:CmpOp} {r:R2} (ho:OpR X (compareOp op) r) (ha:PE X a ta) (hb:PE X b tb) (hm:behindInMarks op b=false):PT X (.Compare a [op] [b] pos) (xm (nQ r ta tb)):=by
 intro pins s U H Q I h;refine wpAny_isTrue_Compare1 (bP (ha pins s U H _ I h) fun v s1 ⟨x,H1,I1,r1,q1⟩=>bP (hb pins s1 U H1 _ I1 q1) fun u s2 ⟨y,H2,I2,r2,q2⟩=>
  bP (ho pins s2 U H2 x y v u _ I2 r1 r2 q2) fun c s3 ⟨z,H3,I3,r3,k,e,q3⟩=>?_) hm
 subst e
 cases r3;exact wpAny_truthy_bool ⟨H3,I3,q3⟩
def rq (r r':R2) (ta tb tc:TE):TE:=fun U H Q=>ta U H fun x H1=>tb U H1 fun y H2=>r x y H2 fun z H3=>∃k,z=.bl k /\
 (if k=true then tc U H3 fun w' H4=>r' y w' H4 Q else Q (.bl false) H3)
theorem sq {op op':CmpOp} {r r':R2} (ho:OpR X (compareOp op) r) (ho':OpR X (compareOp op') r') (ha:PE X a ta) (hb:PE X b tb) (hc:PE X c tc)
  (hm:lastMarks [op,op'] [b,c]=false:=by with_unfolding_all rfl):PE X (.Compare a [op,op'] [b,c] pos) (rq r r' ta tb tc):=by
 intro pins s U H Q I h;refine Compare_chain (bP (ha pins s U H _ I h) fun v s1 ⟨x,H1,I1,r1,q1⟩=>chain_link (bP (hb pins s1 U H1 _ I1 q1) fun u s2 ⟨y,H2,I2,r2,q2⟩=>
  bP (ho pins s2 U H2 x y v u _ I2 r1 r2 q2) fun d s3 ⟨z,H3,I3,r3,k,e,q3⟩=>?_)) hm
 subst e
 cases r3;refine wpAny_truthy_bool ?_
 cases k with
 | false=>exact ite_ff ⟨.bl false,H3,I3,rfl,q3⟩
 | true=>exact ite_tt (chain_last (bP (hc pins s3 U H3 _ I3 q3) fun w' s4 ⟨z',H4,I4,r4,q4⟩=>ho' pins s4 U H4 y z' u w' Q I4 r2 r4 q4))
def t5 (K:Fg) (x:V) (H:Hp) (k:Bool):Prop:=
 match x with
 | .non=>k=false
 | .bl b=>k=b
 | .int i=>k=(i != 0)
 | .str y=>y.length<=sizeLine/\k=((y.length:Int) != 0)
 | .byt y=>y.size<=sizeLine/\k=((y.size:Int) != 0)
 | .ref p=>(∃xs,SqL K H p xs/\k=!xs.isEmpty)\/(∃xs,SqT K H p xs/\k=!xs.isEmpty)\/∃kvs,H p=some (.dK kvs)/\k=!kvs.isEmpty
 | _=>False
theorem m4 {κ:Type} {kvs:List (κ×V)} {vs:List (κ×Value)} (r:KV kvs vs):(!vs.isEmpty)=!kvs.isEmpty:=by
 cases r<;>rfl
theorem EM {xs:List V} (r:Vals xs its):(!its.toArray.isEmpty)=!xs.isEmpty:=by
 cases r<;>simp
theorem w6:(sizeLine:Nat)<2 ^ 63:=by rw [sizeLine_eq];decide
theorem rh:F8 X (fun x H Q=>∃k,t5 X.K x H k/\Q k H):=by
 intro pins s U H x v Q I rx h;obtain ⟨k,e,q⟩:=h;have hl:=w6
 have hs:sizeLine=16777216:=sizeLine_eq
 cases x with
 | non=>
  cases rx;have e':k=false:=e
  subst e'
  exact truthy_none ⟨H,I,q⟩
 | bl b=>
  cases rx;have e':k=b:=e
  subst e'
  exact wpAny_truthy_bool ⟨H,I,q⟩
 | int i=>
  obtain ⟨t,rfl⟩:=rx;have e':k=(i != 0):=e
  subst e'
  exact PySem.P.truthy_int ⟨H,I,q⟩
 | str y=>
  obtain ⟨t,rfl⟩:=rx;obtain ⟨hy,e'⟩:y.length<=sizeLine/\k=((y.length:Int) != 0):=e
  subst e'
  exact PySem.P.truthy_str (by omega) ⟨H,I.tok _,q⟩
 | byt y=>
  obtain ⟨t,rfl⟩:=rx;obtain ⟨hy,e'⟩:y.size<=sizeLine/\k=((y.size:Int) != 0):=e
  subst e'
  exact PySem.W.truthy_bytes (by omega) ⟨H,I.tok _,q⟩
 | ref p=>
  cases rx;have e':(∃xs,SqL X.K H p xs/\k=!xs.isEmpty)\/(∃xs,SqT X.K H p xs/\k=!xs.isEmpty)\/∃kvs,H p=some (.dK kvs)/\k=!kvs.isEmpty:=e
  rcases e' with ⟨xs,hx,e'⟩ | ⟨xs,hx,e'⟩ | ⟨kvs,hx,e'⟩
  ·subst e'
   obtain ⟨its,r,pl,hz⟩:=I.list hx;have hlen:=r.length
   exact wpAny_truthy_list pl.isList (by simp only [size_toArray];omega) ⟨H,I.tok _,by rw [EM r];exact q⟩
  ·subst e'
   obtain ⟨its,r,pl,hz⟩:=I.tuple hx;have hlen:=r.length
   exact truthy_tuple pl (by simp only [size_toArray];omega) ⟨H,I.tok _,by rw [EM r];exact q⟩
  ·subst e'
   obtain ⟨hz,hS,vs,r,m⟩:kvs.length<=sizeLine/\(p==sysModules)=false/\∃vs,KV kvs vs/\s.heap.DictOf (Em X.prog X.w) p vs:=I.hok p _ hx
   have hlen:kvs.length=vs.length:=Paired.length r
   exact wpAny_truthy_dict hS m (by omega) ⟨H,I.tok _,by rw [m4 r];exact q⟩
 | _=>exact (show False from e).elim
theorem se (ha:PE X a ta) (he:∀whole,isTrue a X.env whole=(do let v <-whole;standAt a.pos;holding [v] (truthy v))) :
  PT X a (fun U H Q=>ta U H fun x H'=>∃k,t5 X.K x H' k/\Q k H'):=by
 intro pins s U H Q I h;exact isTrue_plain (bP (ha pins s U H _ I h) fun v s1 ⟨x,H1,I1,r1,q1⟩=>rh pins s1 U H1 x v Q I1 r1 q1) (he _)
theorem vals1 {x:V} (r:Vals [x] us):∃u,us=[u]/\RelV x u:=by
 cases r with
 | cons r1 r2=>cases r2;exact ⟨_,rfl,r1⟩
theorem qp:CallR X (.type "int") (fun xs H Q=>(∃i,xs=[.int i]/\Q (.int i) H)\/∃k,xs=[.bl k]/\Q (.int (if k then 1 else 0)) H):=by
 intro pins s U H xs us Q I r h;rcases h with ⟨i,rfl,q⟩ | ⟨k,rfl,q⟩
 ·obtain ⟨u,rfl,t,rfl⟩:=vals1 r
  exact call_int_int ⟨.int i,H,I,⟨_,rfl⟩,q⟩
 ·obtain ⟨u,rfl,r1⟩:=vals1 r
  cases r1;exact call_int_bool ⟨.int (if k then 1 else 0),H,I.tok _,⟨_,rfl⟩,q⟩
end
structure ObjM (h:Heap) (x dx C:Addr) (mA:Str->Option Value):Prop where
 obj:h.get? x=some (PySem.W.instObj C dx)
 ns:h.Ns1 dx mA
 ne:dx≠x
theorem pT (n:h.Ns1 dx mA):∃od,h.get? dx=some od/\∀name,PySem.W.lookIn name od=some (mA name):=by
 obtain ⟨o,es,ep,ho,hd,hk,_,hm⟩:=n;refine ⟨o,ho,fun name=>?_⟩
 have e:=hm name
 unfold nsFind findBy at e;rw [<-Array.find?_toList] at e;unfold PySem.W.lookIn;rw [hd];dsimp only;split
 ·rename_i y q
  rw [q] at e;exact congrArg some e
 ·rename_i q
  rw [q] at e;have a:es.toList.any (·.refKey)=false:=by
   rw [any_eq_false];intro y hy;obtain ⟨z,t,hkey⟩:=hk y (Array.mem_toList_iff.mp hy);simp [DictEntry.refKey,hkey]
  have a':¬es.toList.any (·.refKey)=true:=by rw [a];exact Bool.false_ne_true
  rw [if_neg a'];exact congrArg some e
theorem ObjM.look {x C:Addr} (I:ObjM h x dx C mA):∃od,PySem.W.InstAt h x (PySem.W.instObj C dx) C (some od)/\∀name,PySem.W.lookIn name od=some (mA name):=
 let ⟨od,ho,hl⟩:=pT I.ns
 ⟨od,⟨I.obj,rfl,rfl,ho⟩,hl⟩
section
variable {P:Program} {w:World} {H H':Hp} {h h':Heap} {a C dx:Addr} {fs fs':List (Str×V)}
theorem vV (hok:HOk P w H h) (e:H a=some (.ins C dx fs)):∃mA,ObjM h a dx C mA/\(∀f,AM (fs.lookup f) (mA f))/\PySem.Within mA (fs.map (·.1))/\fs.length<=1000/\H dx=some (.own a):=by
 obtain ⟨d,z,ne,ob,mA,n,r,q⟩:=(show ObjOk P w H h a (.ins C dx fs) from hok a _ e);exact ⟨mA,⟨ob,n,ne⟩,r,q,z,d⟩
end
structure Cls (K:Fg) (C:Addr):Prop where
 pg:PySem.W.plainGet K C Str.empty=true
 hd:PySem.W.hasDictIn K C=true
 po:PySem.W.plainOver K C=true
 sa:PySem.W.findIn K (.ref C) "__setattr__"=some (some (.builtin "object.__setattr__"))
theorem Cls.get {K:Fg} {C:Addr} (c:Cls K C) (f:Str):PySem.W.plainGet K C f=true:=c.pg
section
variable {X:Cx} {pins:List (Addr×Obj)} {U:St} {H:Hp} {s:Shared} {A:Around} {E:Value->Shared->Prop} {Q:Value->Shared->Prop} {c:Value} {b:Bool}
inductive gH (K:Fg) (H:Hp):V->Value->Prop where
 | non:gH K H .non (.type "NoneType")
 | bl (x:Bool):gH K H (.bl x) (.type "bool")
 | int (i:Int):gH K H (.int i) (.type "int")
 | str (x:Str):gH K H (.str x) (.type "str")
 | flt (x:UInt64):gH K H (.flt x) (.type "float")
 | lst {a:Addr} {xs:List V} (e:H a=some (.lst xs)):gH K H (.ref a) (.type "list")
 | frz {a:Addr} {o:Obj} {xs:List V} (e:H a=some (.frz o (.lst xs))):gH K H (.ref a) (.type "list")
 | tup {a:Addr} {xs:List V} (e:H a=some (.tup xs)):gH K H (.ref a) (.type "tuple")
 | dK {a:Addr} {kvs:List (kr×V)} (e:H a=some (.dK kvs)):gH K H (.ref a) (.type "dict")
 | dT {a:Addr} {kvs:List (List kr×V)} (e:H a=some (.dT kvs)):gH K H (.ref a) (.type "dict")
 | ins {a C dx:Addr} {fs:List (Str×V)} (e:H a=some (.ins C dx fs)) (cl:Cls K C) (ha:PySem.W.findIn K (.ref C) "__class__"=some (some (.builtin "object.__class__")))
   (hn:PySem.W.specialIn K (.builtin "object.__class__") "__get__"=some (some (.builtin "getset_descriptor.__get__"))) (htk:PySem.W.takesIn K (.builtin "object.__class__")=some true)
   (hm:PySem.W.mroIn K C (.type "object")=some true):gH K H (.ref a) (.ref C)
theorem ym {x:V} {t:Value} (I:Inv X pins U H s) (rx:RelV x u) (ty:gH X.K H x t) (e:PySem.W.kitOne X.K t c=some b) (h:∀tk,Q (.bool b) { s with toks:=tk }) :
  wpAny (model X.prog X.w) A (call (.builtin "isinstance") [u,c]) Q E s:=by
 cases ty with
 | non=>cases (show u=Value.none from rx);exact PySem.W.kia_one PySem.W.kitx_none I.kIn True.intro e nofun h
 | bl y=>cases (show u=Value.bool y from rx);exact PySem.W.kia_one PySem.W.kitx_bool I.kIn True.intro e nofun h
 | int i=>obtain ⟨t,q⟩:=(show ∃t,u=Value.int i t from rx);cases q;exact PySem.W.kia_one PySem.W.kitx_int I.kIn True.intro e nofun h
 | str y=>obtain ⟨t,q⟩:=(show ∃t,u=Value.str y t from rx);cases q;exact PySem.W.kia_one PySem.W.kitx_str I.kIn True.intro e nofun h
 | flt y=>obtain ⟨t,q⟩:=(show ∃t,u=Value.float y t from rx);cases q;exact PySem.W.kia_one PySem.W.kitx_float I.kIn True.intro e nofun h
 | @lst a xs ea=>
  cases (show u=Value.ref a from rx)
  obtain ⟨_,_,n,_,h1⟩:=(show ObjOk X.prog X.w H s.heap a (.lst xs) from I.hok a _ ea);exact PySem.W.kia_one PySem.W.kitx_list I.kIn ⟨_,h1,rfl⟩ e nofun h
 | @frz a ob xs ea=>
  cases (show u=Value.ref a from rx)
  obtain ⟨_,_,_,n,_,h1⟩:=(show ObjOk X.prog X.w H s.heap a (.frz ob (.lst xs)) from I.hok a _ ea);exact PySem.W.kia_one PySem.W.kitx_list I.kIn ⟨_,h1,rfl⟩ e nofun h
 | @tup a xs ea=>
  cases (show u=Value.ref a from rx)
  obtain ⟨_,_,_,p⟩:=(show ObjOk X.prog X.w H s.heap a (.tup xs) from I.hok a _ ea);obtain ⟨o,h1,h2,_⟩:=p;exact PySem.W.kia_one PySem.W.kitx_tuple I.kIn ⟨o,h1,h2⟩ e nofun h
 | @dK a kvs ea=>
  cases (show u=Value.ref a from rx)
  obtain ⟨_,_,vs,_,p⟩:=(show ObjOk X.prog X.w H s.heap a (.dK kvs) from I.hok a _ ea);obtain ⟨o,es,ep,h1,h2,_⟩:=p;exact PySem.W.kia_one PySem.W.kitx_dict I.kIn ⟨o,h1,h2.1⟩ e nofun h
 | @dT a kvs ea=>
  cases (show u=Value.ref a from rx)
  obtain ⟨_,_,xs,_,o,es,ep,h1,h2,_⟩:=(show ObjOk X.prog X.w H s.heap a (.dT kvs) from I.hok a _ ea);exact PySem.W.kia_one PySem.W.kitx_dict I.kIn ⟨o,h1,h2.1⟩ e nofun h
 | @ins a C dx fs ea cl ha hn htk hm=>
  cases (show u=Value.ref a from rx)
  obtain ⟨mA,O,_⟩:=vV I.hok ea;obtain ⟨od,J,_⟩:=O.look;exact PySem.W.kia_one (PySem.W.kitx_own (cl.get _) cl.hd ha hn htk hm) I.kIn J e nofun h
end
structure Room (k:Nat) (A:Around):Prop where
 hd:A.handled=none
 dp:A.depth+3*k+5<recursionLimit
 un:A.units+16*k+200<cLine
 gd:A.guards=some []
theorem Room.mono {j:Nat} (r:Room k A) (h:j<=k):Room j A:=⟨r.hd,by have:=r.dp;omega,by have:=r.un;omega,r.gd⟩
theorem Room.deeper (r:Room (k+1) A) (env:Env):Room k (A.deeper env):=
 ⟨r.hd,by have:=r.dp;show A.depth+1+3*k+5<_;omega,by have:=r.un;show A.units+3+16*k+200<_;omega,r.gd⟩
theorem Room.depth (r:Room k A):A.depth<recursionLimit:=by have:=r.dp;omega
theorem Room.units (r:Room k A):A.units+64<cLine:=by have:=r.un;omega
def cC:TA:=fun _ H Q=>Q [] H
def bo (ta:TE) (tr:TA):TA:=fun U H Q=>ta U H fun x H1=>tr U H1 fun xs H2=>Q (x::xs) H2
section
variable {X:Cx} {e:Expr} {es:List Expr} {te:TE} {t:TA} {pos:Pos}
theorem ud:PA X [] cC:=fun _ _ _ _ H Q I h=>Calls.spliced_nil ⟨[],H,I,.nil,h⟩
theorem nK (ha:PE X e te) (hr:PA X es t) (hs:starEach (e::es) X.env=(false,eval e X.env)::starEach es X.env:=by rfl):PA X (e::es) (bo te t):=by
 intro pos pins s U H Q I h;rw [hs];show wpAny _ _ (spliced ((false,eval e X.env)::backTo pos (starEach es X.env))) _ _ s
 refine Calls.spliced_cons (bP (ha pins s U H _ I h) fun u s1 ⟨x,H1,I1,r1,q1⟩=>?_)
 exact bP (hr pos pins s1 U H1 _ I1 q1) fun us s2 ⟨xs,H2,I2,r2,q2⟩=>⟨x::xs,H2,I2,.cons r1 r2,q2⟩
def jJ (t:TA):TE:=fun U H Q=>t U H fun xs H1=>xs.length<=sizeLine/\∀p,H1 p=none->Q (.ref p) (bA H1 p (.tup xs))
def jK (t:TA):TE:=fun U H Q=>t U H fun xs H1=>xs.length<=sizeLine/\∀p,H1 p=none->Q (.ref p) (bA H1 p (.lst xs))
theorem CW {x1} (h:PA X es t):PE X (.Tuple es x1 pos) (jJ t):=by
 intro pins s U H Q I hq;refine wpAny_Tuple_spliced (bP (h pos pins s U H _ I hq) fun us s1 ⟨xs,H1,I1,r,z,q⟩=>⟨by rw [<-r.length];exact z,?_⟩)
 have hf:H1 s1.heap.objs.size=none:=I1.hok.fresh (Nat.le_refl _)
 refine ⟨.ref s1.heap.objs.size,bA H1 s1.heap.objs.size (.tup xs),I1.laid (t':=s1.toks) (fun b u e=>Heap.get?_push_of_some _ e) (Nat.le_refl _) ?_,rfl,q _ hf⟩
 exact ⟨z,us,r,⟨_,Heap.get?_push_size _ rfl,rfl,_,rfl⟩⟩
theorem CV (h:PA X es t):PE X (.List es pos) (jK t):=by
 intro pins s U H Q I hq;refine wpAny_List_spliced (bP (h pos pins s U H _ I hq) fun us s1 ⟨xs,H1,I1,r,z,q⟩=>⟨by rw [<-r.length];exact z,?_⟩)
 have hf:H1 s1.heap.objs.size=none:=I1.hok.fresh (Nat.le_refl _)
 refine ⟨.ref s1.heap.objs.size,bA H1 s1.heap.objs.size (.lst xs),I1.laid (t':=s1.toks) (fun b u e=>Heap.get?_push_of_some _ e) (Nat.le_refl _) ?_,rfl,q _ hf⟩
 exact ⟨z,us,0,r,Heap.get?_push_size _ rfl⟩
end
abbrev Sp:=List V->Hp->VK->XK->Prop
abbrev uy:=List Env->Hp->Shared->XK->Value->Shared->Prop
structure wR (P:Program) (w:World) (K:Fg) (mg:Str->Option Value) (base:Heap) (A:Around) (outer:List Env) (s:Shared) (H:Hp):Prop where
 frames:A.frames=some outer
 mod:Mod K mg base
 bs:∀b o,base.get? b=some o->s.heap.get? b=some o/\H b=none
 bsz:base.objs.size<=s.heap.objs.size
 funs:s.heap.FunFrames base outer
 frf:∀b∈tw outer,H b=none
 hok:HOk P w H s.heap
 bare:AllBare s.gens
def CE (outer:List Env) (P:Program) (w:World) (H:Hp) (s:Shared) (Q:VK) (u:Value) (s':Shared):Prop:=
 ∃v H',s'.os=s.os/\AllBare s'.gens/\Un (tw outer) [] H H' s.heap s'.heap/\HOk P w H' s'.heap/\RelV v u/\Q v H'
def CR (CX:uy) (outer:List Env) (P:Program) (w:World) (H:Hp) (s:Shared) (Q:VK) (E:XK) (r:Result) (s':Shared):Prop:=
 match r with
 | .ok (.ret u)=>CE outer P w H s Q u s'
 | .ok _=>False
 | .error e=>CX outer H s E e s'
structure fy (P:Program) (w:World) (K:Fg) (mg:Str->Option Value) (base:Heap) (CX:uy) (k:Nat) (f:Addr) (fd:FuncData) (ps:List Str) (sp:Sp):Prop where
 len:∀vs H Q E,sp vs H Q E->vs.length=ps.length
 run:∀(A:Around) (outer:List Env) (s:Shared) (H:Hp) (args:Args) (us:List Value) (vs:List V) (Q:VK) (E:XK),Room k A->wR P w K mg base A outer s H->BindsTo s fd args (ps.zip us)->Vals vs us->sp vs H Q E ->
  codeAny (model P w) A (.call (.ref f) args) (CR CX outer P w H s Q E) s
section
variable {X:Cx} {pins:List (Addr×Obj)} {U:St} {H:Hp} {s s':Shared}
theorem Inv.env0 (I:Inv X pins U H s):wR X.prog X.w X.K X.mg X.base X.A X.stack s H:=
 ⟨I.ok.frames,I.ok.mod,I.bs,Nat.le_trans I.ok.bsz I.sz,I.stack,I.stkFree,I.hok,I.bare⟩
theorem Inv.after {Q:VK} (I:Inv X pins U H s) (h:CE X.stack X.prog X.w H s Q u s'):EP X pins U Q u s':=by
 obtain ⟨v,H',os,bare,un,hok,r,q⟩:=h;obtain ⟨hh,g,d,t,os'⟩:=s'
 obtain rfl:os'=s.os:=os
 exact ⟨v,H',I.call (h':=hh) (g':=g) (d':=d) (t':=t) (ch:=[]) un hok bare (fun b z=>absurd z (by simp)),r,q⟩
end
def nS (sp:Sp) (dvs:List V) (E:XK) (t:TA):TE:=fun U H Q=>t U H fun vs H1=>sp (vs++dvs) H1 Q E
def Binds (K:Fg) (fd:FuncData) (ps:List Str) (ds:List Value):Prop:=
 ∀(s:Shared) (us:List Value),K.In s.heap->(us++ds).length=ps.length->BindsTo s fd ⟨us,[]⟩ (ps.zip (us++ds))
theorem Binds.all {K:Fg} {fd:FuncData} (h:∀us:List Value,us.length=ps.length->bindArgs fd ⟨us,[]⟩=pure (ps.zip us)):Binds K fd ps []:=fun s us _ hl=>by
 rw [append_nil] at hl ⊢;exact .of_eq (h us hl)
def D0 (CX:uy) (X:Cx) (E:XK):Prop:=∀(pins:List (Addr×Obj)) (U:St) (H:Hp) (s:Shared) (e:Value) (s':Shared),Inv X pins U H s->CX X.stack H s E e s'->X.xe e s'
section
variable {X:Cx} {CX:uy} {k:Nat} {f C:Addr} {fd:FuncData} {ps:List Str} {sp:Sp} {dvs:List V} {ds:List Value} {E:XK} {x m:Str} {p pos apos:Pos} {e o:Expr} {es:List Expr} {ta:TE} {t:TA}
theorem yC {U:St} {H:Hp} {s:Shared} {Q:VK} {vs:List V} (F:fy X.prog X.w X.K X.mg X.base CX k f fd ps sp) (hr:Room k X.A) (hb:Binds X.K fd ps ds) (hd:Vals dvs ds) (hx:D0 CX X E)
  (I:Inv X pins U H s) (r:Vals vs us) (h:sp (vs++dvs) H Q E):wpAny (model X.prog X.w) X.A (call (.ref f) us) (EP X pins U Q) X.xe s:=by
 have r2:Vals (vs++dvs) (us++ds):=r.append hd
 have hl:(us++ds).length=ps.length:=by rw [<-r2.length];exact F.len _ _ _ _ h
 refine wpAny_call (codeAny_mono (F.run X.A X.stack s H ⟨us,[]⟩ (us++ds) (vs++dvs) Q E hr I.env0 (hb s us I.kIn hl) r2 h) fun r s' hq=>?_)
 cases r with
 | error e=>exact hx pins U H s e s' I hq
 | ok fl=>
  cases fl with
  | ret u=>exact I.after hq
  | next=>exact False.elim hq
  | brk=>exact False.elim hq
  | cont=>exact False.elim hq
theorem En (F:fy X.prog X.w X.K X.mg X.base CX k f fd ps sp) (hr:Room k X.A) (hg:Gl X x) (hm:X.mg x=some (.ref f)) (hk:PySem.W.keepIn X.K (.ref f)=true) (hb:Binds X.K fd ps ds) (hd:Vals dvs ds) (hx:D0 CX X E)
  (ha:PA X (e::es) t) (hdb:(x==("__debug__":Str))=false:=by decide) (he:starEach (e::es) X.env=(false,eval e X.env)::starEach es X.env:=by rfl) (hpl:(backTo pos (starEach es X.env)).any (·.1)=false:=by rfl) :
  PE X (.Call (.Name x p) (e::es) [] pos) (nS sp dvs E t):=by
 intro pins s U H Q I h;refine wpAny_Call_Name_kw (oA I hg hm ?_ hdb)
 refine PySem.W.callWith_K (h₀:=X.base) I.ok.mod.kin hk (bP (ha pos pins s U H _ I h) fun us s1 ⟨vs,H1,I1,r,q⟩=>⟨I1.kIn,?_⟩) he hpl
 exact yC F hr hb hd hx I1 r q
end
structure fx (N P:List Str) (sc:Scope):Prop where
 kind:sc.kind=.function
 co:sc.isCoroutine=false
 gen:sc.isGenerator=false
 nd:N.Nodup
 pre:N.take P.length=P
 par:∀x∈P,sc.names.lookup x=some .local\/sc.names.lookup x=some .cell
 nofree:∀y∈sc.names,y.2≠.free
theorem jz {kindOf:Str->Option NameKind} {x:Str}:∀{binds:List (Str×Value)} {m:Str->Option Value},(∀v,(x,v)∉binds)->bindL kindOf binds m x=m x
 | [],_,_=>rfl
 | (n,v)::r,m,h=>by
  unfold bindL;rw [jz fun w hw=>h w (mem_cons_of_mem _ hw)]
  split
  ·have:x≠n:=by rintro rfl;exact h v mem_cons_self
   simp [this]
  ·rfl
theorem jB {kindOf:Str->Option NameKind} {x:Str}:∀{binds:List (Str×Value)} {m:Str->Option Value},(∀v,(x,v)∉binds)->bindC kindOf binds m x=m x
 | [],_,_=>rfl
 | (n,v)::r,m,h=>by
  unfold bindC;rw [jB fun w hw=>h w (mem_cons_of_mem _ hw)]
  split
  ·rfl
  ·have:x≠n:=by rintro rfl;exact h v mem_cons_self
   simp [this]
theorem jA {kindOf:Str->Option NameKind} {x:Str} {v:Value}:∀{P:List Str} {vs:List Value} {i:Nat} {m:Str->Option Value},P.Nodup->P[i]?=some x->vs[i]?=some v->kindOf x=some .local ->
  bindL kindOf (P.zip vs) m x=some v
 | [],_,_,_,_,h,_,_=>by simp at h
 | _::_,[],_,_,_,_,h,_=>by simp at h
 | p::P,w::vs,0,m,nd,h1,h2,hk=>by
  simp at h1 h2;subst h1;subst h2;show bindL kindOf ((p,w)::P.zip vs) m p=_
  unfold bindL;rw [jz fun v hv=>(List.nodup_cons.mp nd).1 (of_mem_zip hv).1,if_pos hk]
  simp
 | p::P,w::vs,i+1,m,nd,h1,h2,hk=>by
  show bindL kindOf ((p,w)::P.zip vs) m x=_
  unfold bindL;exact jA (i:=i) (List.nodup_cons.mp nd).2 (by simpa using h1) (by simpa using h2) hk
theorem jC {kindOf:Str->Option NameKind} {x:Str} {v:Value}:∀{P:List Str} {vs:List Value} {i:Nat} {m:Str->Option Value},P.Nodup->P[i]?=some x->vs[i]?=some v->kindOf x≠some .local ->
  bindC kindOf (P.zip vs) m x=some v
 | [],_,_,_,_,h,_,_=>by simp at h
 | _::_,[],_,_,_,_,h,_=>by simp at h
 | p::P,w::vs,0,m,nd,h1,h2,hk=>by
  simp at h1 h2;subst h1;subst h2;show bindC kindOf ((p,w)::P.zip vs) m p=_
  unfold bindC;rw [jB fun v hv=>(List.nodup_cons.mp nd).1 (of_mem_zip hv).1,if_neg hk]
  simp
 | p::P,w::vs,i+1,m,nd,h1,h2,hk=>by
  show bindC kindOf ((p,w)::P.zip vs) m x=_
  unfold bindC;exact jC (i:=i) (List.nodup_cons.mp nd).2 (by simpa using h1) (by simpa using h2) hk
def start (N:List Str) (vs:List V):St:=vs.map some++List.replicate (N.length-vs.length) none
def lZ (CX:uy) (P:Program) (w:World) (K:Fg) (mg:Str->Option Value) (base:Heap) (N:List Str) (qual:Str) (scope:Scope) (f:Addr) (cd:Value) (A:Around) (outer:List Env) (s:Shared) (H:Hp) (E:XK):Cx where
 prog:=P
 w:=w
 K:=K
 mg:=mg
 base:=base
 A:=A.deeper (envOfC qual scope s.heap.objs.size f cd)
 N:=N
 s₀:=s
 H₀:=H
 env:=envOfC qual scope s.heap.objs.size f cd
 outer:=outer
 stack:=envOfC qual scope s.heap.objs.size f cd::outer
 ex:=[]
 calm:=true
 fn:=fun _=>true
 pn:=[]
 xe:=fun e s'=>wpAny (model P w) (A.deeper (envOfC qual scope s.heap.objs.size f cd)) (leaving (envOfC qual scope s.heap.objs.size f cd) e) (fun _ s''=>CX outer H s E e s'') (fun e' s''=>CX outer H s E e' s'') s'
theorem md {sc:Scope} (h:sc.names.lookup x=some .cell):∃c,(cellsFrom n sc.names []).lookup x=some c:=by
 have q:=PySem.W.cellsFrom_some sc.names n [] (.inl h)
 exact Option.isSome_iff_exists.mp q
theorem pW {CX:uy} {P:Program} {w:World} {K:Fg} {f:Addr} {cd:Value} {outer:List Env} {s s1:Shared} {H:Hp} {E:XK} {vs:List V}
  (S:fx N ps scope) (hd:A.handled=none) (e0:wR P w K mg base A outer s H) (hl:vs.length=ps.length) (r:Vals vs us)
  (x:InCallC s s.heap.objs.size (bindL (envOfC qual scope s.heap.objs.size f cd).kindOf (ps.zip us) fun _=>none) (cellsFrom (s.heap.objs.size+1) scope.names []) (bindC (envOfC qual scope s.heap.objs.size f cd).kindOf (ps.zip us) fun _=>none) s1) :
  Inv (lZ CX P w K mg base N qual scope f cd A outer s H E) [] (start N vs) H s1:=by
 have hpl:ps.length<=N.length:=by have:=congrArg List.length S.pre;rw [List.length_take] at this;omega
 obtain ⟨h1,tk,rfl,hk⟩:=x.done;have noA:∀b:Addr,b∉(lZ CX P w K mg base N qual scope f cd A outer s H E).ex:=fun b z=>absurd (show b∈([]:List Addr) from z) (by simp)
 refine ⟨⟨e0.mod,S.kind,rfl,rfl,Nat.le_refl _,fun y z c h1 h2=>?_,fun y hy=>?_,fun y c _ h=>?_,fun _=>hd,Around.frames_deeper e0.frames,.inr ⟨rfl,rfl⟩,fun b z=>absurd z (noA b),e0.bs,e0.bsz,fun b _ _=>noA b,fun b z=>absurd z (noA b),e0.funs,e0.frf⟩,
  rfl,e0.bare,Un.kept hk,⟨_,x.toInCall.ns,fun i y v h1 h2 h3=>?_⟩,fun y c h=>⟨_,x.cell y c h⟩,e0.hok.fresh (Nat.le_refl _),fun y c h=>?_,fun p hp=>absurd (show p∈([]:List (Addr×Obj)) from hp) (by simp),e0.hok.kept hk,?_⟩
 ·exact name_of_addr x.apart (PySem.mem_of_lookup h1) (PySem.mem_of_lookup h2)
 ·have hy:scope.names.lookup y=some .cell\/scope.names.lookup y=some .free:=hy
  rcases hy with hy | hy
  ·exact md hy
  ·exact absurd rfl (S.nofree _ (PySem.mem_of_lookup hy))
 ·exact Nat.le_of_lt (x.above y c (PySem.mem_of_lookup h))
 ·have hi:i<vs.length:=by
   unfold start at h2;by_cases hi:i<vs.length
   ·exact hi
   ·rw [getElem?_append_right (by simpa using hi)] at h2
    rw [getElem?_replicate] at h2;split at h2<;>cases h2
  have ha:vs[i]?=some v:=by
   unfold start at h2;rw [getElem?_append_left (by simpa using hi),getElem?_map] at h2
   cases e:vs[i]? with
   | none=>rw [e] at h2;cases h2
   | some a=>rw [e] at h2;cases h2;rfl
  obtain ⟨u,hu,rv⟩:=r.get ha;have hp:ps[i]?=some y:=by
   rw [<-S.pre,List.getElem?_take_of_lt (by omega)];exact h1
  have ndP:ps.Nodup:=by rw [<-S.pre];exact S.nd.sublist (List.take_sublist _ _)
  refine ⟨u,rv,?_⟩
  rcases S.par y (mem_of_getElem? hp) with k | k
  ·exact .inl ⟨k,jA ndP hp hu k⟩
  ·obtain ⟨c,e⟩:=md (n:=s.heap.objs.size+1) k
   refine .inr ⟨.inl k,c,e,?_⟩
   have q:=x.cell y c e
   rw [jC ndP hp hu (by show scope.names.lookup y≠_;rw [k];decide)] at q
   exact q
 ·exact e0.hok.fresh (Nat.le_of_lt (x.above y c (PySem.mem_of_lookup h)))
 ·unfold start
  show _=N.length
  rw [length_append,length_map,List.length_replicate];omega
theorem Cu {CX:uy} {P:Program} {w:World} {K:Fg} {f:Addr} {name:Str} {params:Arguments} {body:List Stmt} {dV kV doc pm cdv ct oc:Value} {an od:Option Addr}
  {osl:Array (Option Value)} {sp:Sp} (lk:K.lookup f=some ⟨oc,od,.func (PySem.W.fnOf name qual params body scope dV kV doc pm an cdv ct),osl⟩) (hcd:PySem.W.codeIn K cdv qual=true) (S:fx N ps scope)
  (len:∀vs H Q E,sp vs H Q E->vs.length=ps.length)
  (hbody:∀(A:Around) (outer:List Env) (s:Shared) (H:Hp) (vs:List V) (Q:VK) (E:XK),Room k (A.deeper (envOfC qual scope s.heap.objs.size f cdv))->sp vs H Q E ->
   ∃t,PSs (lZ CX P w K mg base N qual scope f cdv A outer s H E) body t/\t { nx:=fun _ H'=>Q .non H',rt:=Q } (start N vs) H) :
  fy P w K mg base CX (k+1) f (PySem.W.fnOf name qual params body scope dV kV doc pm an cdv ct) ps sp:=by
 refine ⟨len,fun A outer s H args us vs Q E hr e0 hb r hsp=>?_⟩
 have hl:=len _ _ _ _ hsp
 have KX:K.In s.heap:=e0.mod.kin.keeps fun b o e=>(e0.bs b o e).1
 have lim:s.heap.NoLimit:=e0.mod.nolimit.keeps fun b o e=>(e0.bs b o e).1
 have hkind:∀y∈ps.zip us,scope.names.lookup y.1=some .local\/(scope.names.lookup y.1=some .cell/\((cellsFrom (s.heap.objs.size+1) scope.names []).lookup y.1).isSome=true):=fun ⟨n,v⟩ hy=>by
  rcases S.par n (of_mem_zip hy).1 with q | q
  ·exact .inl q
  ·exact .inr ⟨q,PySem.W.cellsFrom_some _ _ _ (.inl q)⟩
 refine codeAny_call_function hr.depth (KX _ _ lk) rfl S.co S.gen rfl (PySem.W.codeRec_of KX hcd) (hb _ _ _ _ ?_)
 refine wpAny_newFunctionEnv_cells S.kind hkind fun env he s1 x=>?_
 subst he;refine ⟨lim.keeps x.toInCall.keep,codeAny_func ?_⟩
 obtain ⟨t,ht,hq⟩:=hbody A outer s H vs Q E (hr.deeper _) hsp;have I:Inv (lZ CX P w K mg base N qual scope f cdv A outer s H E) [] (start N vs) H s1:=pW S hr.hd e0 hl r x
 refine wpAny_mono (ht [] s1 (start N vs) H _ I hq) (fun fl s' hs=>?_) fun e s' hs=>hs
 have fin:∀{U':St} {H':Hp} {v:V} {u:Value},Inv (lZ CX P w K mg base N qual scope f cdv A outer s H E) [] U' H' s'->RelV v u->Q v H'->CE outer P w H s Q u s':=
  fun {U' H' v u} J rv q=>⟨v,H',J.os,J.bare,J.base,J.hok,rv,q⟩
 cases fl with
 | ret u=>
  obtain ⟨v,U',H',J,rv,q⟩:=hs;exact fin J rv q
 | next=>
  obtain ⟨U',H',J,q⟩:=hs;exact fin (v:=V.non) (u:=Value.none) J rfl q
 | brk=>
  obtain ⟨_,_,_,q⟩:=hs;exact False.elim q
 | cont=>
  obtain ⟨_,_,_,q⟩:=hs;exact False.elim q
section
variable {X:Cx} {x:Str} {p pos:Pos} {e:Expr} {es:List Expr} {t:TA} {id T:String} {r:List V->Hp->VK->Prop}
def Bf (r:List V->Hp->VK->Prop) (t:TA):TE:=fun U H Q=>t U H fun vs H1=>r vs H1 Q
theorem Ee (hc:CallR X (.builtin id) r) (hg:Gl X x) (hm:X.mg x=none) (hv:bootBuiltins x=some (.builtin id)) (ha:PA X (e::es) t) (hn:x ≠ "__name__":=by decide) (hdb:(x==("__debug__":Str))=false:=by decide)
  (he:starEach (e::es) X.env=(false,eval e X.env)::starEach es X.env:=by rfl) (hpl:(backTo pos (starEach es X.env)).any (·.1)=false:=by rfl):PE X (.Call (.Name x p) (e::es) [] pos) (Bf r t):=by
 intro pins s U H Q I h;refine wpAny_Call_Name_kw (wZ I hg hm hv ?_ hn hdb)
 exact PyProof.Rows.callWith_builtin1 (bP (ha pos pins s U H _ I h) fun us s1 ⟨vs,H1,I1,r1,q1⟩=>hc pins s1 U H1 vs us Q I1 r1 q1) he hpl
theorem EH (hc:CallR X (.type T) r) (hg:Gl X x) (hm:X.mg x=none) (hv:bootBuiltins x=some (.type T)) (ha:PA X (e::es) t) (hn:x ≠ "__name__":=by decide) (hdb:(x==("__debug__":Str))=false:=by decide)
  (he:starEach (e::es) X.env=(false,eval e X.env)::starEach es X.env:=by rfl) (hpl:(backTo pos (starEach es X.env)).any (·.1)=false:=by rfl):PE X (.Call (.Name x p) (e::es) [] pos) (Bf r t):=by
 intro pins s U H Q I h;refine wpAny_Call_Name_kw (wZ I hg hm hv ?_ hn hdb)
 exact PyProof.Rows.callWith_type1 (bP (ha pos pins s U H _ I h) fun us s1 ⟨vs,H1,I1,r1,q1⟩=>hc pins s1 U H1 vs us Q I1 r1 q1) he hpl
end
def eE (n:Nat) (i:Int):Option Nat:=if 0<=i then (if i<n then some i.toNat else none) else if -(n:Int)<=i then some (i+n).toNat else none
def fq {α:Type} (xs:List α) (i:Int):Option α:=(eE xs.length i).bind fun j=>xs[j]?
theorem oC {i:Int} {j:Nat} (h:eE n i=some j):seqIndex? i n=some j/\j<n/\-(n:Int)<=i/\i<n:=by
 unfold eE at h;by_cases h0:0<=i
 ·rw [if_pos h0] at h
  by_cases h1:i<n
  ·rw [if_pos h1] at h
   have e:i.toNat=j:=Option.some.inj h
   exact ⟨by rw [seqIndex_of h0 h1,e],by omega,by omega,h1⟩
  ·rw [if_neg h1] at h;cases h
 ·rw [if_neg h0] at h
  by_cases h1:-(n:Int)<=i
  ·rw [if_pos h1] at h
   have e:(i+n).toNat=j:=Option.some.inj h
   exact ⟨by rw [seqIndex_neg (by omega) h1,e],by omega,h1,by omega⟩
  ·rw [if_neg h1] at h;cases h
theorem DT {xs:List α} {i:Int} {v:α} (h:fq xs i=some v):∃j,seqIndex? i xs.length=some j/\xs[j]?=some v/\j<xs.length/\-(xs.length:Int)<=i/\i<xs.length:=by
 unfold fq at h
 cases e:eE xs.length i with
 | none=>rw [e] at h;cases h
 | some j=>
  rw [e] at h;obtain ⟨h1,h2,h3,h4⟩:=oC e;exact ⟨j,h1,h,h2,h3,h4⟩
def xg (b:Expr):Prop:=∀o i,subscripted b false o i=operate [o,i] (getItem o i)
def IxR (X:Cx) (r:R2):Prop:=
 ∀(value slice:Expr) (pins:List (Addr×Obj)) (s:Shared) (U:St) (H:Hp) (x y:V) (v u:Value) (Q:VK),Inv X pins U H s->RelV x v->RelV y u->r x y H Q ->
  subscripted slice false v u=operate [v,u] (getItem v u)->wpAny (model X.prog X.w) X.A (subscriptTail value slice v u) (EP X pins U Q) X.xe s
def GX (X:Cx) (id:String) (r:V->List V->Hp->VK->Prop):Prop:=
 ∀(pins:List (Addr×Obj)) (s:Shared) (U:St) (H:Hp) (x:V) (xs:List V) (v:Value) (us:List Value) (Q:VK),Inv X pins U H s->RelV x v->Vals xs us->r x xs H Q ->
  wpAny (model X.prog X.w) X.A (call (.builtin id) (v::us)) (EP X pins U Q) X.xe s
section
variable {X:Cx} {a b:Expr} {ta tb:TE} {pos:Pos}
theorem IxR.or {r r':R2} (h:IxR X r) (h':IxR X r'):IxR X (fun x y H Q=>r x y H Q\/r' x y H Q):=by
 intro value slice pins s U H x y v u Q I rx ry q hs;rcases q with q | q
 ·exact h value slice pins s U H x y v u Q I rx ry q hs
 ·exact h' value slice pins s U H x y v u Q I rx ry q hs
theorem om {r:R2} (hr:IxR X r) (ha:PE X a ta) (hb:PE X b tb) (hs:xg b):PE X (.Subscript a b pos) (nQ r ta tb):=by
 intro pins s U H Q I h;exact Subscript_ (AF ha hb I h fun v u s2 x y H2 I2 rx ry q=>hr a b pins s2 U H2 x y v u Q I2 rx ry q (hs _ _))
def B0 (K:Fg):R2:=fun x y H Q=>∃p xs i v,x=.ref p/\y=.int i/\SqL K H p xs/\fq xs i=some v/\Q v H
def BY (K:Fg):R2:=fun x y H Q=>∃p xs i v,x=.ref p/\y=.int i/\SqT K H p xs/\fq xs i=some v/\Q v H
def BZ:R2:=fun x y H Q=>∃z i c,x=.str z/\y=.int i/\z.length<=sizeLine/\fq z.cps.toList i=some c/\Q (.str ⟨#[c]⟩) H
theorem ix_list:IxR X (B0 X.K):=by
 intro value slice pins s U H x y v u Q I rx ry h hs;obtain ⟨p,xs,i,z,rfl,rfl,hq,he,q⟩:=h
 cases rx;obtain ⟨t,rfl⟩:=ry;obtain ⟨its,r,pl,hz⟩:=I.list hq;obtain ⟨j,h1,h2,h3,h4,h5⟩:=DT he;obtain ⟨w,ew,rw'⟩:=r.get h2;have hl:=r.length
 have hn:=w6
 have fin:EP X pins U Q w s:=⟨z,H,I,rw',q⟩
 by_cases h0:0<=i
 ·have hj:i.toNat=j:=by
   rw [seqIndex_of h0 h5] at h1;exact Option.some.inj h1
  exact item_listR pl.isList h0 (by omega) (by rw [hj];simpa using ew) fin hs
 ·have hj:(i+(its.toArray.size:Int)).toNat=j:=by
   rw [seqIndex_neg (by omega) h4] at h1
   rw [size_toArray,<-hl];exact Option.some.inj h1
  exact subscriptTail_builtinR (x:=w) pl.isList.typeIs slot_list_getitem.lookup
   (wpAny_getItem_list_neg (Q:=fun r s'=>r=w/\EP X pins U Q r s') pl.isList (by omega) (by rw [size_toArray]<;>omega) (by omega) (by rw [hj];simpa using ew) ⟨rfl,fin⟩) hs
theorem ix_tup:IxR X (BY X.K):=by
 intro value slice pins s U H x y v u Q I rx ry h hs;obtain ⟨p,xs,i,z,rfl,rfl,hq,he,q⟩:=h
 cases rx;obtain ⟨t,rfl⟩:=ry;obtain ⟨its,r,pl,hz⟩:=I.tuple hq;obtain ⟨j,h1,h2,h3,h4,h5⟩:=DT he;obtain ⟨w,ew,rw'⟩:=r.get h2;have hl:=r.length
 have hn:=w6
 have fin:EP X pins U Q w s:=⟨z,H,I,rw',q⟩
 exact subscriptTail_builtinR (x:=w) pl.typeIs slot_tuple_getitem.lookup
  (getItem_tuple (j:=j) (Q:=fun r s'=>r=w/\EP X pins U Q r s') pl (by omega) (by omega) (by rw [size_toArray,<-hl];exact h1) (by simpa using ew) ⟨rfl,fin⟩) hs
theorem zN:IxR X BZ:=by
 intro value slice pins s U H x y v u Q I rx ry h hs;obtain ⟨z,i,c,rfl,rfl,hz,he,q⟩:=h;obtain ⟨t,rfl⟩:=rx;obtain ⟨t',rfl⟩:=ry;obtain ⟨j,h1,h2,h3,h4,h5⟩:=DT he;have hl:z.cps.toList.length=z.length:=by simp [Str.length]
 rw [hl] at h1 h4 h5
 have hn:=w6
 exact tail_any (typeIs_str s z t) slot_str_getitem.lookup (getItem_str (c:=c) (by
  have e1:decide (i < -(2 ^ 63:Int))=false:=decide_eq_false (by omega)
  have e2:decide (i≥2 ^ 63)=false:=decide_eq_false (by omega)
  rw [e1,e2,Bool.or_false]) (by rw [h1];simpa using h2) ⟨.str ⟨#[c]⟩,H,I.tok _,⟨_,rfl⟩,q⟩) hs
def B1 (K:Fg):R2:=fun x y H Q=>B0 K x y H Q\/BY K x y H Q\/BZ x y H Q
theorem CU:IxR X (B1 X.K):=ix_list.or (ix_tup.or zN)
theorem mY (its:List Value) (n j:Nat) (u:Value):Obj.mapSeq (·.setIfInBounds j u) { cls:=.type "list",data:=.seq its.toArray n }={ cls:=.type "list",data:=.seq (its.set j u).toArray n }:=by
 simp [Obj.mapSeq]
theorem Inv.lst {pins:List (Addr×Obj)} {U:St} {H:Hp} {s:Shared} {p:Addr} {xs:List V} (I:Inv X pins U H s) (h:H p=some (.lst xs)) :
  ∃(its:List Value) (n:Nat),Vals xs its/\s.heap.get? p=some { cls:=.type "list",data:=.seq its.toArray n }/\xs.length<=sizeLine:=by
 obtain ⟨z,its,n,r,e⟩:=I.hok p _ h;exact ⟨its,n,r,e,z⟩
theorem Inv.lstUpd {U:St} {H:Hp} {s:Shared} {p:Addr} {xs ys:List V} {n':Nat} {f:Obj->Obj} (I:Inv X pins U H s) (h:H p=some (.lst xs))
  (ho:s.heap.get? p=some { cls:=.type "list",data:=.seq its.toArray n }) (hf:f { cls:=.type "list",data:=.seq its.toArray n }={ cls:=.type "list",data:=.seq its'.toArray n' }) (r:Vals ys its') (hz:ys.length<=sizeLine) (t:Nat) :
  Inv X pins U (bA H p (.lst ys)) { s with heap:=s.heap.update p f,toks:=t }:=by
 have e:(s.heap.update p f).get? p=some { cls:=.type "list",data:=.seq its'.toArray n' }:=by
  rw [Heap.get?_update_self f ho (by rw [hf]<;>rfl),hf]
 refine I.write (x:=p) (e:=p) (by rw [h];trivial) (.inl rfl) (fun b u hb q=>(Heap.get?_update_other _ _ (Ne.symm hb)).trans q) ⟨_,e⟩ ?_
 exact ⟨hz,its',n',r,e⟩
def rW:V->V->V->Hp->(Hp->Prop)->Prop:=fun o i v H Q=>∃p xs k j,o=.ref p/\i=.int k/\H p=some (.lst xs)/\eE xs.length k=some j/\Q (bA H p (.lst (xs.set j v)))
theorem rE:CM X rW:=by
 intro pins s U H o i v ov iv u Q I ro ri rv h;obtain ⟨p,xs,k,j,rfl,rfl,hp,hj,q⟩:=h
 cases ro;obtain ⟨t,rfl⟩:=ri;obtain ⟨its,n,r,ho,hz⟩:=I.lst hp;obtain ⟨h1,h2,h3,h4⟩:=oC hj;have hl:=r.length
 have hn:=w6
 have I':Inv X pins U (bA H p (.lst (xs.set j v))) { s with heap:=s.heap.update p (Obj.mapSeq (·.setIfInBounds j u)) }:=
  I.lstUpd hp ho (mY its n j u) (r.set rv j) (by rw [length_set];exact hz) s.toks
 by_cases h0:0<=k
 ·have hk:k.toNat=j:=by
   rw [seqIndex_of h0 h4] at h1;exact Option.some.inj h1
  exact PySem.W.ki_setAt ho h0 (by omega) (by rw [size_toArray,<-hl];exact h4) (by rw [hk];exact ⟨_,I',q⟩)
 ·have hk:(k+(its.toArray.size:Int)).toNat=j:=by
   rw [seqIndex_neg (by omega) h3] at h1
   rw [size_toArray,<-hl];exact Option.some.inj h1
  exact PySem.W.ki_setBack ho (by omega) (by rw [size_toArray,<-hl];exact h3) (by omega) (by rw [hk];exact ⟨_,I',q⟩)
theorem call_len_seq:CallR X (.builtin "len") (fun xs H Q=>∃p ys,xs=[.ref p]/\(SqL X.K H p ys\/SqT X.K H p ys)/\Q (.int ys.length) H):=by
 intro pins s U H xs us Q I r h;obtain ⟨p,ys,rfl,hq,q⟩:=h;obtain ⟨u,rfl,rx⟩:=vals1 r
 cases rx;have hn:=w6
 rcases hq with hq | hq
 ·obtain ⟨its,r',pl,hz⟩:=I.list hq
  have hlen:=r'.length
  exact Calls.call_len_list pl.isList (by simp only [size_toArray]<;>omega) ⟨.int ys.length,H,I.tok _,⟨s.toks+1,by rw [size_toArray,hlen]⟩,q⟩
 ·obtain ⟨its,r',pl,hz⟩:=I.tuple hq
  have hlen:=r'.length
  exact len_tuple pl (by simp only [size_toArray]<;>omega) ⟨.int ys.length,H,I.tok _,⟨s.toks+1,by rw [size_toArray,hlen]⟩,q⟩
theorem km:CallR X (.builtin "len") (fun xs H Q=>∃z,xs=[.str z]/\z.length<=sizeLine/\Q (.int z.length) H):=by
 intro pins s U H xs us Q I r h;obtain ⟨z,rfl,hz,q⟩:=h;obtain ⟨u,rfl,t,rfl⟩:=vals1 r;have hn:=w6
 exact len_str (by omega) ⟨.int z.length,H,I.tok _,⟨_,rfl⟩,q⟩
theorem CallR.or {f:Value} {r r':List V->Hp->VK->Prop} (h:CallR X f r) (h':CallR X f r'):CallR X f (fun xs H Q=>r xs H Q\/r' xs H Q):=by
 intro pins s U H xs us Q I rs q;rcases q with q | q
 ·exact h pins s U H xs us Q I rs q
 ·exact h' pins s U H xs us Q I rs q
theorem fo:CallR X (.type "list") (fun xs H Q=>∃p ys,xs=[.ref p]/\(SqL X.K H p ys\/SqT X.K H p ys)/\∀l,H l=none->Q (.ref l) (bA H l (.lst ys))):=by
 intro pins s U H xs us Q I r h;obtain ⟨p,ys,rfl,hq,q⟩:=h;obtain ⟨u,rfl,rx⟩:=vals1 r
 cases rx;have fin:∀(its:List Value),Vals ys its->ys.length<=sizeLine->∀(h':Heap) (c':Nat),(∀b o',s.heap.get? b=some o'->h'.get? b=some o') ->
   h'.get? s.heap.objs.size=some { cls:=.type "list",dict:=none,data:=.seq its.toArray c',slots:=#[] }->EP X pins U Q (.ref s.heap.objs.size) { s with heap:=h' }:=fun its r' hz h' c' kp e=>
  ⟨.ref s.heap.objs.size,_,I.laid (t':=s.toks) kp (Nat.le_refl _) (show ObjOk X.prog X.w _ h' _ (.lst ys) from ⟨hz,its,c',r',e⟩),rfl,q _ (I.hok.fresh (Nat.le_refl _))⟩
 rcases hq with hq | hq
 ·obtain ⟨its,r',pl,hz⟩:=I.list hq
  have hlen:=r'.length
  obtain ⟨o,ho,hc,n,hd⟩:=pl.isList;exact call_list_seq p (.inl rfl) ho hc hd (fun h' c' kp e=>fin its r' hz h' c' kp e) (by simp only [size_toArray]<;>omega)
 ·obtain ⟨its,r',pl,hz⟩:=I.tuple hq
  have hlen:=r'.length
  obtain ⟨o,ho,hc,n,hd⟩:=pl;exact call_list_seq p (.inr rfl) ho hc hd (fun h' c' kp e=>fin its r' hz h' c' kp e) (by simp only [size_toArray]<;>omega)
def Ge (K:Fg) (T:String) (x:V) (H:Hp):Prop:=match x with
 | .str _=>T = "str"
 | .int _=>T = "int"
 | .ref p=>(T = "list"/\∃xs,SqL K H p xs)\/(T = "tuple"/\∃o,K.lookup p=some o/\o.cls=.type "tuple"/\o.dict=none) \/
   (T = "dict"/\((∃kvs,H p=some (.dK kvs))\/∃kvs,H p=some (.dT kvs)))\/(T = "set"/\∃S n,H p=some (.set S n))
 | _=>False
theorem yv {U:St} {H:Hp} {s:Shared} {T:String} {x:V} {v:Value} (I:Inv X pins U H s) (r:RelV x v) (ty:Ge X.K T x H) :
  s.TypeIs v T/\∀a,v=.ref a->∃ob,s.heap.get? a=some ob/\ob.dict=none:=by
 cases x with
 | str z=>
  obtain ⟨t,rfl⟩:=r
  cases (show T = "str" from ty)
  exact ⟨typeIs_str s z t,fun _ e=>nomatch e⟩
 | int i=>
  obtain ⟨t,rfl⟩:=r
  cases (show T = "int" from ty)
  exact ⟨typeIs_int s i t,fun _ e=>nomatch e⟩
 | ref p=>
  cases r;rcases ty with ⟨rfl,xs,hq⟩ | ⟨rfl,o,hk,hc,hd⟩ | ⟨rfl,hk⟩ | ⟨rfl,S,n,hk⟩
  ·obtain ⟨its,_,pl,_⟩:=I.list hq
   refine ⟨pl.isList.typeIs,fun a e=>?_⟩
   cases e;obtain ⟨o,n,e,c,hd,_⟩:=pl;exact ⟨o,e,hd⟩
  ·refine ⟨⟨o,I.kIn p o hk,hc⟩,fun a e=>?_⟩
   cases e;exact ⟨o,I.kIn _ o hk,hd⟩
  ·have z:∃o,s.heap.get? p=some o/\o.ExactDict:=by
    rcases hk with ⟨kvs,hk⟩ | ⟨kvs,hk⟩
    ·obtain ⟨_,_,_,_,o,_,_,e,ex,_⟩:=I.hok p _ hk
     exact ⟨o,e,ex⟩
    ·obtain ⟨_,_,_,_,o,_,_,e,ex,_⟩:=I.hok p _ hk
     exact ⟨o,e,ex⟩
   obtain ⟨o,e,ex⟩:=z;refine ⟨⟨o,e,ex.1⟩,fun a e2=>?_⟩
   cases e2;exact ⟨o,e,ex.2.1⟩
  ·obtain ⟨o,_,_,_,e,ex,_⟩:=I.hok p _ hk
   refine ⟨⟨o,e,ex.1⟩,fun a e2=>?_⟩
   cases e2;exact ⟨o,e,ex.2.1⟩
 | _=>exact False.elim ty
def uk (K:Fg) (T:String) (r:V->List V->Hp->VK->Prop) (to:TE) (t:TA):TE:=fun U H Q=>to U H fun x H1=>Ge K T x H1/\t U H1 fun xs H2=>r x xs H2 Q
variable {o e:Expr} {es:List Expr} {to:TE} {t:TA} {name:Str} {apos cpos:Pos} {T id:String} {r:V->List V->Hp->VK->Prop}
theorem oq (pa:PlainAttrs T) (slot:Slot T name id) (hty:typeOf (.builtin id)=pure (.type "method_descriptor")) (hm:GX X id r) (ho:PE X o to) (ha:PA X (e::es) t)
  (hbase:attributeBase o name X.env (eval o X.env)=eval o X.env:=by rfl)
  (hfew:((backTo cpos (starEach (e::es) X.env)).all (fun x=>!x.1)&&(backToKw cpos (keywordEach [] X.env)).all (fun x=>x.1.isSome)
   && decide ((e::es).length+([]:List Keyword).length+(if ([]:List Keyword).isEmpty then 0 else 1)<30))=true:=by rfl)
  (hline:(apos.endLine==cpos.line)=true:=by rfl) (hs:starEach (e::es) X.env=(false,eval e X.env)::starEach es X.env:=by rfl) (hplain:(backTo cpos (starEach es X.env)).any (·.1)=false:=by rfl) :
  PE X (.Call (.Attribute o name apos) (e::es) [] cpos) (uk X.K T r to t):=by
 intro pins s U H Q I h;refine wpAny_Call_method_late hbase hfew hline rfl (bP (ho pins s U H _ I h) fun v s1 ⟨x,H1,I1,r1,ty,q1⟩=>?_)
 obtain ⟨h1,h2⟩:=yv I1 r1 ty;refine ⟨T,id,pa,slot,hty,h1,h2,?_⟩
 have hA:=ha cpos pins s1 U H1 _ I1 q1
 rw [hs] at hA ⊢;refine Calls.callWith_builtin (by show (false||(backTo cpos (starEach es X.env)).any (·.1))=false;rw [hplain]<;>rfl) (Calls.evalArgs_plain ?_)
 exact bP hA fun us s2 ⟨vs,H2,I2,r2,q2⟩=>hm pins s2 U H2 x vs v us Q I2 r1 r2 q2
end
def GY (X:Cx) (id:String) (r:V->List V->Hp->VK->Prop):Prop:=
 ∀(pins:List (Addr×Obj)) (s:Shared) (U:St) (H:Hp) (x:V) (xs:List V) (v:Value) (us:List Value) (Q:VK),Inv X pins U H s->RelV x v->Vals xs us->r x xs H Q ->
  wpAny (model X.prog X.w) X.A (call (.builtin id) (v::us)) (EP X pins U Q) X.xe s
theorem Vals.one:∀{x:V} {us:List Value},Vals [x] us->∃u,us=[u]/\RelV x u
 | _,_,.cons r .nil=>⟨_,rfl,r⟩
section
variable {X:Cx} {pins:List (Addr×Obj)} {U:St} {H:Hp} {s:Shared} {l b:Addr} {xs ys zs:List V}
theorem Inv.lset {f:Array Value->Array Value} (I:Inv X pins U H s) (hH:H l=some (.lst xs))
  (e:s.heap.get? l=some { cls:=.type "list",data:=.seq its.toArray n }) (hf:f its.toArray=its'.toArray) (hv:Vals ys its') (hz:ys.length<=sizeLine) :
  Inv X pins U (bA H l (.lst ys)) { s with heap:=s.heap.update l (Obj.mapSeq f),toks:=t' }:=by
 have q:=PySem.IsL.update e f
 rw [hf] at q;refine I.write (x:=l) (e:=l) (by rw [hH];exact trivial) (.inl rfl) (fun b' u hb hu=>(Heap.get?_update_other s.heap (Obj.mapSeq f) (Ne.symm hb)).trans hu) ⟨_,q⟩ ?_
 exact ⟨hz,its',_,hv,q⟩
theorem Inv.lnew (I:Inv X pins U H s) (hv:Vals ys its) (hz:ys.length<=sizeLine) :
  Inv X pins U (bA H s.heap.objs.size (.lst ys)) { s with heap:=s.heap.push { cls:=.type "list",data:=.seq its.toArray },toks:=t' }:=
 I.laid (fun _ _ q=>Heap.get?_push_of_some _ q) (Nat.le_refl _) ⟨hz,its,0,hv,Heap.get?_push_size _ rfl⟩
theorem Inv.fresh (I:Inv X pins U H s):H s.heap.objs.size=none:=I.hok.fresh (Nat.le_refl _)
theorem Inv.lstM (I:Inv X pins U H s) (hH:H l=some (.lst xs)):xs.length<=sizeLine/\∃(its:List Value) (n:Nat),Vals xs its/\xs.length=its.length/\s.heap.get? l=some { cls:=.type "list",data:=.seq its.toArray n }:=by
 obtain ⟨z,its,n,r,e⟩:=I.hok l _ hH;exact ⟨z,its,n,r,r.length,e⟩
theorem sC (h:n<=sizeLine):Builtin.List.listTooLong n=false:=by
 unfold Builtin.List.listTooLong;exact decide_eq_false (by omega)
end
section
variable {X:Cx}
def xc:V->List V->Hp->VK->Prop:=fun x vs H Q=>∃l xs y,x=.ref l/\vs=[y]/\H l=some (.lst xs)/\xs.length<sizeLine/\Q .non (bA H l (.lst (xs++[y])))
theorem EE:GY X "list.append" xc:=by
 intro pins s U H x vs v us Q I rx rv h;obtain ⟨l,xs,y,rfl,rfl,hH,hz,q⟩:=h
 cases rx;obtain ⟨u,rfl,ru⟩:=rv.one;obtain ⟨z,its,n,r,hl,e⟩:=I.lstM hH;refine call_meets F.slot_list_append ⟨_,e,rfl⟩ F.entry_list_append (F.args_list_append_2 _ _) (PySem.list_append l its.toArray n u (by rw [size_toArray];omega)) ⟨e,?_⟩
 refine ⟨.non,_,I.lset (its':=its++[u]) hH e (by simp) (r.append (.cons ru .nil)) ?_,rfl,q⟩
 rw [length_append,length_singleton];omega
end
section
variable {prog:Program} {w:World} {A:Around} {E:Value->Shared->Prop} {s:Shared}
set_option maxRecDepth 100000 in
end
end L2
namespace Att
open PySem PySem.W PySem.Calls PyProof.Rows
variable {h:Heap} {l:OpenLaw} {n:Nat}
theorem gA {P:Params}:∀(ns:List Int) (vs:List Value),WellAll P h vs (ns.map WData.int)->IntsAre vs ns:=by
 intro ns;induction ns with
 | nil=>
  intro vs w;rw [map_nil] at w
  cases w;exact .nil
 | cons n ns ih=>
  intro vs w;rw [map_cons] at w
  cases w with
  | cons a b=>
   cases a;exact .cons _ _ (ih _ b)
theorem ph (hn:l.most=some n) {P:Params} {args:List WData} {vals:List Value}
  (hpre:l.row.toRowW.claim.pre args=true) (hwl:WellAll P h vals args) :
  ∃a vs ns,vals=[Value.ref a]/\args=[WData.list (ns.map WData.int)]/\h.get? a=some { cls:=.type "list",data:=.seq vs.toArray }/\IntsAre vs ns/\ns.length<=n:=by
 have hsh:WShape.hasAll [] args [.list .int]=true:=(pre_splitW hpre).1
 have hc:l.pre.holds [] { args:=args }=true:=(pre_splitW hpre).2
 obtain ⟨d,r,rfl,h1,h2⟩:=hasAllW_cons hsh;obtain rfl:=hasAllW_nil h2
 obtain ⟨xs,rfl,h3⟩:=hasW_list h1;obtain ⟨ns,rfl⟩:=items_int h3;have hlen:ns.length<=n:=by
  unfold OpenLaw.pre at hc;have h4:(WTm.not (.lt (.lit (.int (n:Int))) (.len (.arg 0)))).holds [] { args:=[.list (ns.map .int)] }=true:=by
   have h4:=(holds_andW hc).1
   rw [hn] at h4;exact h4
  have h5:=condW_of h4 (w_not (w_lt w_lit (w_len_list (w_arg rfl))))
  rw [length_map] at h5;refine Nat.le_of_not_lt fun q=>?_
  have q':(n:Int)<((ns.length:Nat):Int):=by omega
  first
   | (rw [decide_eq_true q'] at h5;exact absurd h5 (by decide))
   | (simp at h5;omega)
 cases hwl with
 | cons w1 w2=>
  cases w2
  cases w1 with
  | list ho hall=>exact ⟨_,_,ns,rfl,rfl,ho,gA ns _ hall,hlen⟩
theorem pG (l:OpenLaw) (args:List WData):l.row.toRowW.claim.post args (.bool true) args=true:=
 postW_of (r:=l.row.toRowW) (X:=(true==true))
  (show WShape.has [] (.bool true) .bool=true by first | rfl | decide | simp [WShape.has,WShape.arms,WShape.armsAll])
  (show (WTm.eq .res (.lit (.bool true))).value [] { args:=args,res:=some (.bool true),after:=args }=some (.bool (true==true)) from w_eq_bool (w_res rfl) w_lit) rfl
theorem attach_call {q:Program} {loose:List Str} {XP:(Str->Option Value)->Heap->Prop} {YP:World->Heap->Prop} {d:DefRec}
  (hn:l.most=some n) (hdf:d.params.defaults=[])
  (call:∀(w:World) (s₀ s₁:Shared) (mg mb:Str->Option Value) (fa:Addr) (o:Obj) (pm cd doc:Value) (a:Addr) (vs:List Value) (ns:List Int),
   Ground q loose [] XP w s₀ mg mb s₁.heap->YP w s₁.heap ->
   s₁.heap.get? fa=some o->o.data=.func (docDef d.name d.params d.body d.scope pm cd doc)->s₁.heap.CodeRec cd d.name->mg d.name=some (.ref fa) ->
   s₁.heap.get? a=some { cls:=.type "list",data:=.seq vs.toArray }->IntsAre vs ns->ns.length<=n->s₁.gens=#[] ->
   codeAny (model l.prog w) callerA (.call (.ref fa) ⟨[.ref a],[]⟩) (fun r s'=>r=.ok (.ret (.bool true))/\OldK s₁.heap s'.heap/\s'.os=s₁.os/\AllBare s'.gens) s₁) :
  WalkO q loose XP YP l.row.toRowW d [] (fun f vs=>PySem.call f vs):=by
 intro w s₀ s₁ mg mb G Y fa o pm cd doc dV kV ho hd hcd hD hmg hg args vals as hpre hlay hrd hwl hlo;obtain rfl:dV=.none:=Dflts.none hD hdf
 obtain rfl:kV=.none:=Dflts.noKw hD
 obtain ⟨a,vs,ns,rfl,rfl,hobj,hints,hlen⟩:=ph hn hpre hwl;refine enter_call (codeAny_mono (call w s₀ s₁ mg mb fa o pm cd doc a vs ns G Y ho (fd_plain hd) hcd hmg hobj hints hlen hg) fun r s' hq=>?_)
 obtain ⟨rfl,h2,h3,h4⟩:=hq;exact ⟨.inl ⟨.bool true,.bool true,[],rfl,fun _=>rfl,.bool true,pG l _,fun _=>⟨List.Pairwise.nil,fun _ hm=>(nomatch hm)⟩⟩,h2,h3,h4⟩
end Att
namespace L2
open PySem PySem.Spec PyProof.Rows
variable {k:NameKind} {fd:FuncData} {x qual:Str} {n:Nat} {X:Cx} {ps:List Str} {A B:Prop} {H':Hp} {scope:Scope} {env:Env} {U:St}
theorem jg:∀{vs:List Value} {ns:List Int},IntsAre vs ns->Vals (ns.map V.int) vs
 | _,_,.nil=>.nil
 | _,_,.cons n t h=>.cons ⟨t,rfl⟩ (jg h)
def AN (H:Hp):Prop:=∀b,H b=none\/∃o xs,H b=some (.frz o (.lst xs))
theorem sL {P:Program} {w:World} {K:Fg} {mg mb:Str->Option Value} {CX:uy} {k:Nat} {fa a:Addr} {sp:Sp} {s₁:Shared} {vs:List Value} {ns:List Int}
  (KX:K.In s₁.heap) (hns:s₁.heap.Ns mainGlobals mg) (hb:s₁.heap.Ns builtinsNs mb) (hbb:∀x:Str,x ≠ "__name__"->mb x=bootBuiltins x) (hlim:s₁.heap.NoLimit) (hg:s₁.gens=#[])
  (ha:s₁.heap.get? a=some { cls:=.type "list",data:=.seq vs.toArray }) (hi:IntsAre vs ns) (hl:ns.length<=sizeLine) (hr:Room k callerA)
  (F:∀base:Heap,K.In base->base.Ns mainGlobals mg->fy P w K mg base CX k fa fd [x] sp) (hbind:∀(s:Shared) (u:Value),BindsTo s fd ⟨[u],[]⟩ [(x,u)])
  (hsp:∀H:Hp,AN H->SqL K H a (ns.map V.int)->sp [.ref a] H (fun v _=>v=.bl true) fun _ _ _=>False)
  (hCX:∀H e s',CX [] H s₁ (fun _ _ _=>False) e s'->False) :
  codeAny (model P w) callerA (.call (.ref fa) ⟨[.ref a],[]⟩) (fun r s'=>r=.ok (.ret (.bool true))/\OldK s₁.heap s'.heap/\s'.os=s₁.os/\AllBare s'.gens) s₁:=by
 have rv:=jg hi
 have lenV:=hi.length
 have core:∀H:Hp,AN H->SqL K H a (ns.map V.int)->HOk P w H s₁.heap->(∀b,H b≠none->b=a)->(H a≠none->K.lookup a=none) ->
   codeAny (model P w) callerA (.call (.ref fa) ⟨[.ref a],[]⟩) (fun r s'=>r=.ok (.ret (.bool true))/\OldK s₁.heap s'.heap/\s'.os=s₁.os/\AllBare s'.gens) s₁:=by
  intro H hO hS hok hA hK;have base_of:∀{b:Addr} {o:Obj},s₁.heap.get? b=some o->H b=none->(j6 s₁.heap H).get? b=some o:=fun e n=>sW e n
  have noA:∀{b:Addr} {o:Obj} {es:Array DictEntry} {ep:Nat},s₁.heap.get? b=some o->o.data=.dict es ep->H b=none:=fun {b o es ep} e d=>by
   cases q:H b with
   | none=>rfl
   | some u=>
    have e':b=a:=hA b (by rw [q];simp)
    subst e'
    rw [ha] at e;cases e;have d':Data.seq vs.toArray _=Data.dict es ep:=d
    cases d'
  have nsK:∀{b:Addr} {m:Str->Option Value},s₁.heap.Ns b m->(j6 s₁.heap H).Ns b m:=fun {b m} ⟨o,es,ep,e,d,r⟩=>⟨o,es,ep,base_of e (noA e d),d,r⟩
  have hKb:K.In (j6 s₁.heap H):=fun b o e=>base_of (KX b o e) (by
   cases q:H b with
   | none=>rfl
   | some u=>
    have e':b=a:=hA b (by rw [q];simp)
    subst e'
    rw [hK (by rw [q];simp)] at e;cases e)
  have hM:Mod K mg (j6 s₁.heap H):=⟨hKb,nsK hns,⟨mb,nsK hb,hbb⟩,let ⟨mc,h1,h2⟩:=hlim;⟨mc,nsK h1,h2⟩⟩
  have e0:wR P w K mg (j6 s₁.heap H) callerA [] s₁ H:=⟨rfl,hM,fun b o e=>vN e,Nat.le_of_eq (pX _ _),trivial,fun b hb=>absurd (show b∈([]:List Addr) from hb) (by simp),hok,.of_eq hg⟩
  refine codeAny_mono ((F _ hKb (nsK hns)).run callerA [] s₁ H ⟨[.ref a],[]⟩ [.ref a] [.ref a] _ _ hr e0 (hbind s₁ (.ref a)) (.cons rfl .nil) (hsp H hO hS)) fun r s' h=>?_
  cases r with
  | error e=>exact (hCX H e s' h).elim
  | ok fl=>
   cases fl with
   | next=>exact False.elim h
   | brk=>exact False.elim h
   | cont=>exact False.elim h
   | ret u=>
    obtain ⟨v,H',os,bare,un,hok',r',q⟩:=h;have q':v=.bl true:=q
    subst q'
    obtain rfl:u=Value.bool true:=r'
    refine ⟨rfl,OldK.of_keep fun b o e=>?_,os,bare⟩
    cases q:H b with
    | none=>exact un.keep b o e q (by intro z;exact absurd (show b∈([]:List Addr) from z) (by simp)) (by simp)
    | some u=>
     rcases hO b with z | ⟨ob,xs,z⟩
     ·rw [q] at z;cases z
     ·have z2:=un.frzs b ob _ z
      obtain ⟨e1,_⟩:=hok b _ z;obtain ⟨e2,_⟩:=hok' b _ z2
      rw [e] at e1;cases e1;exact e2
 cases hk:K.lookup a with
 | some o=>
  have e:=KX a o hk
  rw [ha] at e
  cases e;refine core (fun _=>none) (fun _=>.inl rfl) (.inr ⟨_,vs.toArray,_,hk,rfl,rfl,rfl,by rw [size_toArray,lenV];exact hl,by simpa using rv⟩) (fun b u z=>by have z':(none:Option HO)=some u:=z;cases z') (fun b z=>absurd rfl z) fun z=>absurd rfl z
 | none=>
  refine core (fun b=>if b=a then some (.frz { cls:=.type "list",data:=.seq vs.toArray } (.lst (ns.map V.int))) else none) (fun b=>?_) (.inl (.inr ⟨{ cls:=.type "list",data:=.seq vs.toArray },if_pos rfl⟩)) (fun b u z=>?_) (fun b z=>?_) fun _=>hk
  ·by_cases hb:b=a
   ·exact .inr ⟨_,_,if_pos hb⟩
   ·exact .inl (if_neg hb)
  ·by_cases hb:b=a
   ·have z':=(if_pos hb).symm.trans z
    cases z'
    subst hb;exact ⟨ha,by rw [length_map];exact hl,vs,_,rv,ha⟩
   ·have z':=(if_neg hb).symm.trans z
    cases z'
  ·by_cases hb:b=a
   ·exact hb
   ·exact absurd (if_neg hb) z
theorem walk_of {l:PySem.W.OpenLaw} {k:Nat} {q:Program} {loose:List Str} {XP:(Str->Option Value)->Heap->Prop} {YP:World->Heap->Prop} {d:DefRec} {K:Params->Fg} {CX:World->uy} {sp:World->Sp}
  (hn:l.most=some n) (hn2:n<=sizeLine) (hdf:d.params.defaults=[]) (hr:Room k callerA)
  (hY:∀(w:World) (h:Heap),YP w h->(K w.params).In h)
  (F:∀(w:World) (mg:Str->Option Value) (fa:Addr) (h:Heap),(K w.params).In h->h.Ns mainGlobals mg->mg d.name=some (.ref fa) ->
   ∃fd:FuncData,(∀(s:Shared) (u:Value),BindsTo s fd ⟨[u],[]⟩ [(x,u)]) /\
    ∀base:Heap,(K w.params).In base->base.Ns mainGlobals mg->fy l.prog w (K w.params) mg base (CX w) k fa fd [x] (sp w))
  (hsp:∀(w:World) (H:Hp) (a:Addr) (ns:List Int),ns.length<=n->AN H->SqL (K w.params) H a (ns.map V.int)->sp w [.ref a] H (fun v _=>v=.bl true) fun _ _ _=>False)
  (hCX:∀(w:World) (H:Hp) (s:Shared) (e:Value) (s':Shared),CX w [] H s (fun _ _ _=>False) e s'->False) :
  PySem.W.WalkO q loose XP YP l.row.toRowW d [] (fun f vs=>PySem.call f vs):=by
 refine Att.attach_call hn hdf fun w s₀ s₁ mg mb fa o pm cd doc a vs ns G Y ho hd hcd hmg hobj hints hlen hg=>?_
 have KX:=hY w _ Y
 obtain ⟨fd,hb,hF⟩:=F w mg fa _ KX G.T.g hmg;exact sL KX G.T.g G.T.b G.T.builtins G.T.nolimit hg hobj hints (Nat.le_trans hlen hn2) hr hF hb (fun H hO hS=>hsp w H a ns hlen hO hS) fun H e s'=>hCX w H s₁ e s'
def AY (s:Stmt):Arguments:=match s with
 | .FunctionDef _ a _ _ _ _ _ _ _ _=>a
 | _=>{ posonlyargs:=[],args:=[],vararg:=none,kwonlyargs:=[],kw_defaults:=[],kwarg:=none,defaults:=[] }
def uE (s:Stmt):List Stmt:=match s with
 | .FunctionDef _ _ b _ _ _ _ _ _ _=>b
 | _=>[]
def jG (s:Stmt):Scope:=match s with
 | .FunctionDef _ _ _ _ _ _ sc _ _ _=>sc
 | _=>{ kind:=.function,names:=[],isGenerator:=false,isCoroutine:=false }
abbrev oU:uy:=fun _ _ _ _ _ _=>False
abbrev E0:XK:=fun _ _ _=>False
theorem sv:D0 oU X E0:=fun _ _ _ _ _ _ _ h=>h.elim
structure Fun (K:Fg) (x qual:Str) (st:Stmt) (f:Addr) (fd:FuncData):Prop where
 ex:∃(oc:Value) (od:Option Addr) (kV doc pm:Value) (an:Option Addr) (cdv ct:Value) (osl:Array (Option Value)),
  fd=PySem.W.fnOf x qual (AY st) (uE st) (jG st) .none kV doc pm an cdv ct/\K.lookup f=some ⟨oc,od,.func fd,osl⟩/\PySem.W.codeIn K cdv qual=true
 kp:PySem.W.keepIn K (.ref f)=true
section
variable {P:Program} {w:World} {K:Fg} {mg:Str->Option Value} {base:Heap}
theorem Fun.ok {st:Stmt} {f:Addr} {N:List Str} {k:Nat} {sp:Sp} (F:Fun K x qual st f fd) (S:fx N ps (jG st)) (len:∀vs H Q E,sp vs H Q E->vs.length=ps.length)
  (hbody:∀(cdv:Value) (A:Around) (outer:List Env) (s:Shared) (H:Hp) (vs:List V) (Q:VK) (E:XK),Room k (A.deeper (envOfC qual (jG st) s.heap.objs.size f cdv))->sp vs H Q E ->
   ∃t,PSs (lZ oU P w K mg base N qual (jG st) f cdv A outer s H E).nox (uE st) t/\t { nx:=fun _ H'=>Q .non H',rt:=Q } (start N vs) H):fy P w K mg base oU (k+1) f fd ps sp:=by
 obtain ⟨oc,od,kV,doc,pm,an,cdv,ct,osl,rfl,lk,hcd⟩:=F.ex;refine Cu lk hcd S len fun A outer s H vs Q E hr hsp=>?_
 obtain ⟨t,h,q⟩:=hbody cdv A outer s H vs Q E hr hsp;exact ⟨t,h.nox,q⟩
theorem Fun.binds {st:Stmt} {f:Addr} (F:Fun K x qual st f fd)
  (h:∀(kV doc pm:Value) (an:Option Addr) (cdv ct:Value) (us:List Value),us.length=ps.length->bindArgs (PySem.W.fnOf x qual (AY st) (uE st) (jG st) .none kV doc pm an cdv ct) ⟨us,[]⟩=pure (ps.zip us)):Binds K fd ps []:=by
 obtain ⟨oc,od,kV,doc,pm,an,cdv,ct,osl,rfl,lk,hcd⟩:=F.ex;exact .all (h kV doc pm an cdv ct)
theorem Ah {st:Stmt} {f:Addr} {oc:Value} {od an:Option Addr} {osl:Array (Option Value)} {kV doc pm cdv ct:Value} (l:K.lookup f=some ⟨oc,od,.func (PySem.W.fnOf x qual (AY st) (uE st) (jG st) .none kV doc pm an cdv ct),osl⟩)
  (c:PySem.W.codeIn K cdv qual=true) (k:PySem.W.keepIn K (.ref f)=true):Fun K x qual st f (PySem.W.fnOf x qual (AY st) (uE st) (jG st) .none kV doc pm an cdv ct):=⟨⟨oc,od,kV,doc,pm,an,cdv,ct,osl,rfl,l,c⟩,k⟩
end
theorem pe (h:n<=1000):n<sizeLine:=Nat.lt_of_le_of_lt h (by decide)
theorem j4 (h:B):if false=true then A else B:=by
 rw [if_neg Bool.false_ne_true];exact h
theorem j3 (h:A):if true=true then A else B:=by
 rw [if_pos rfl];exact h
def Same (H H':Hp):Prop:=∀b o,H b=some o->H' b=some o
theorem Same.refl (H:Hp):Same H H:=fun _ _ h=>h
theorem Same.trans {H H1 H2:Hp} (a:Same H H1) (b:Same H1 H2):Same H H2:=fun c o h=>b c o (a c o h)
theorem Same.free {H:Hp} (e:Same H H') {l:Addr} (h:H' l=Option.none):H l=Option.none:=by
 cases q:H l with
 | none=>rfl
 | some o=>
  rw [e l o q] at h
  cases h
theorem Same.seq {K:Fg} {H:Hp} {a:Addr} {xs:List V} (e:Same H H') (h:SqL K H a xs):SqL K H' a xs:=by
 rcases h with (h | ⟨o,h⟩) | h
 ·exact .inl (.inl (e _ _ h))
 ·exact .inl (.inr ⟨o,e _ _ h⟩)
 ·exact .inr h
section
variable {prog:Program} {w:World} {A:Around} {R:Result->Shared->Prop} {s:Shared}
abbrev wQ:Value->Shared->Prop:=fun _ _=>False
theorem kj {elt target iter:Expr} {ifs:List Expr} {pos:Pos} {it acc:Value} (I:Nat->Shared->Prop)
  (turn:∀n s,I n s->wpAny (model prog w) A (pyNext it) (fun r s₁=>match r with
   | none=>R (.ok .next) s₁
   | some v=>wpAny (model prog w) A (letOwnedTupleGo target it v) (fun _ s₁'=>wpAny (model prog w) A (assign target env v) (fun _ s₂=>
     wpAny (model prog w) A (forIn ifs true fun c r=>if r=true then do let ok <-isTrue c env (eval c env);pure (ForInStep.yield ok) else pure (ForInStep.yield r)) (fun ok s₃=>
      if ok=true then wpAny (model prog w) A (eval elt env) (fun x s₄=>
       wpAny (model prog w) A (call (.builtin "list.append") [acc,x]) (fun _ s₅=>∃m,m<n/\I m s₅) wQ s₄) wQ s₃
      else ∃m,m<n/\I m s₃) wQ s₂) wQ s₁') wQ s₁) wQ s)
  (n:Nat) (h:I n s) :
  codeAny (model prog w) A (.compLoop (.ListComp elt [⟨target,iter,ifs,0⟩] scope pos) 0 it acc env) R s:=by
 refine codeAny_loop rfl I (fun n s hI=>?_) n h
 show wpAny _ A ((compTurn (.ListComp elt [⟨target,iter,ifs,0⟩] scope pos) 0 it acc env).onRaise (fun x=>do noteFrame x env;theTreesLotGoes x)) _ _ s
 refine wpAny_noted ?_
 rw [compTurn_list];have F:∀{Z:Value->Shared->Prop},∀(e:Value) (s:Shared),wQ e s->Z e s:=fun _ _ x=>x.elim
 refine wpAny_bind (wpAny_standAt (wpAny_bind (wpAny_mono (turn n s hI) (fun r s₁ h₁=>?_) F)))
 cases r with
 | none=>exact wpAny_pure h₁
 | some v=>
  refine wpAny_bind (wpAny_mono h₁ (fun _ s₁' h₁'=>?_) F)
  refine wpAny_bind (wpAny_mono h₁' (fun _ s₂ h₂=>wpAny_bind (wpAny_mono h₂ (fun ok s₃ h₃=>?_) F)) F)
  cases ok with
  | false=>exact wpAny_pure ⟨rfl,h₃⟩
  | true=>
   exact wpAny_bind (wpAny_bind (wpAny_mono h₃ (fun x s₄ h₄=>wpAny_bind (wpAny_mono h₄ (fun _ s₅ h₅=>wpAny_pure (wpAny_pure ⟨rfl,h₅⟩)) F)) F))
end
def cv (env:Env):List (Str×NameKind)->List (Str×Addr)->List (Str×Addr)
 | [],acc=>acc
 | (n,k)::r,acc=>if k==.free then cv env r ((n,(env.cells.lookup n).getD 0)::acc) else cv env r acc
theorem EJ {env:Env}:∀(names:List (Str×NameKind)) (acc:List (Str×Addr)),(∀n,(n,NameKind.free)∈names->∃c,env.cells.lookup n=some c) ->
  (forIn names acc fun (x:Str×NameKind) (cs:List (Str×Addr))=>(match x with | (name,kind)=>if kind==.free then (do let a <-cellOf env name;pure (ForInStep.yield ((name,a)::cs))) else pure (ForInStep.yield cs):Sem (ForInStep (List (Str×Addr)))))=(pure (cv env names acc):Sem (List (Str×Addr)))
 | [],acc,_=>by rw [List.forIn_nil];rfl
 | (n,k)::r,acc,h=>by
  rw [List.forIn_cons];unfold cv;by_cases hk:(k==.free)=true
  ·simp only [hk,if_true]
   have hk':k=.free:=by simpa using hk
   obtain ⟨c,hc⟩:=h n (by rw [hk'];exact mem_cons_self)
   have e:cellOf env n=pure c:=by unfold cellOf;rw [hc]
   rw [e,hc];exact EJ r ((n,c)::acc) fun n' hn=>h n' (mem_cons_of_mem _ hn)
  ·rw [if_neg hk]
   simp only [hk]
   exact EJ r acc fun n' hn=>h n' (mem_cons_of_mem _ hn)
theorem fm (h:∀n,(n,NameKind.free)∈scope.names->∃c,env.cells.lookup n=some c):closureFor scope env=pure (cv env scope.names []):=by
 have:=EJ (env:=env) scope.names [] h
 unfold closureFor;rw [show (pure (cv env scope.names []):Sem (List (Str×Addr)))=(pure (cv env scope.names []) >>= fun x=>pure x) from rfl,<-this]
theorem EV {env:Env} {x:Str} {c:Addr}:∀{names:List (Str×NameKind)} {acc:List (Str×Addr)},(∀n,(n,NameKind.free)∈names->∃c,env.cells.lookup n=some c)->(cv env names acc).lookup x=some c->env.cells.lookup x=some c\/acc.lookup x=some c
 | [],_,_,e=>.inr e
 | (n,k)::r,acc,h,e=>by
  unfold cv at e;have h':∀n',(n',NameKind.free)∈r->∃c,env.cells.lookup n'=some c:=fun n' hn=>h n' (mem_cons_of_mem _ hn)
  by_cases hk:(k==.free)=true
  ·rw [if_pos hk] at e
   rcases EV h' e with q | q
   ·exact .inl q
   ·rw [lookup_cons] at q
    have hk':k=.free:=by simpa using hk
    obtain ⟨c',hc⟩:=h n (by rw [hk'];exact mem_cons_self)
    cases hx:x==n with
    | true=>
     rw [hx,hc] at q
     cases q;rw [eq_of_beq hx];exact .inl hc
    | false=>
     rw [hx] at q;exact .inr q
  ·rw [if_neg hk] at e
   exact EV h' e
theorem Be {env:Env} {x:Str}:∀{names:List (Str×NameKind)} {acc:List (Str×Addr)},(x,NameKind.free)∈names\/(acc.lookup x).isSome=true->((cv env names acc).lookup x).isSome=true
 | [],_,h=>h.elim nofun id
 | (n,k)::r,acc,h=>by
  unfold cv;by_cases hk:(k==.free)=true
  ·rw [if_pos hk]
   refine Be (names:=r) ?_
   rcases h with h | h
   ·rcases List.mem_cons.mp h with e | h
    ·cases e
     exact .inr (by rw [lookup_cons];simp)
    ·exact .inl h
   ·right
    rw [lookup_cons]
    cases hx:x==n with
    | true=>rfl
    | false=>exact h
  ·rw [if_neg hk]
   refine Be (names:=r) ?_
   rcases h with h | h
   ·rcases List.mem_cons.mp h with e | h
    ·cases e
     exact absurd rfl hk
    ·exact .inl h
   ·exact .inr h
theorem Bx {x:Str} {c:Addr}:∀{names:List (Str×NameKind)} {n:Nat} {acc:List (Str×Addr)},(cellsFrom n names acc).lookup x=some c->((x,NameKind.cell)∈names/\n<=c)\/acc.lookup x=some c
 | [],_,_,e=>.inr e
 | (y,k)::r,n,acc,e=>by
  unfold cellsFrom at e;by_cases hk:(k==.cell)=true
  ·rw [if_pos hk] at e
   have hk':k=.cell:=by simpa using hk
   rcases Bx e with ⟨q,l⟩ | q
   ·exact .inl ⟨mem_cons_of_mem _ q,by omega⟩
   ·rw [lookup_cons] at q
    cases hx:x==y with
    | true=>
     rw [hx] at q
     cases q;exact .inl ⟨by rw [eq_of_beq hx,hk'];exact mem_cons_self,Nat.le_refl _⟩
    | false=>
     rw [hx] at q;exact .inr q
  ·rw [if_neg hk] at e
   rcases Bx e with ⟨q,l⟩ | q
   ·exact .inl ⟨mem_cons_of_mem _ q,l⟩
   ·exact .inr q
theorem EW {x y:Str} {c:Addr}:∀{names:List (Str×NameKind)} {n:Nat} {acc:List (Str×Addr)},(∀z d,acc.lookup z=some d->d<n)->(∀x y d,acc.lookup x=some d->acc.lookup y=some d->x=y) ->
  (cellsFrom n names acc).lookup x=some c->(cellsFrom n names acc).lookup y=some c->x=y
 | [],_,_,_,hi,e,e'=>hi _ _ _ e e'
 | (z,k)::r,n,acc,hl,hi,e,e'=>by
  unfold cellsFrom at e e'
  by_cases hk:(k==.cell)=true
  ·rw [if_pos hk] at e e'
   refine EW (names:=r) (n:=n+1) (acc:=(z,n)::acc) (fun a d q=>?_) (fun a b d q q'=>?_) e e'
   ·rw [lookup_cons] at q
    cases hx:a==z with
    | true=>rw [hx] at q;cases q;exact Nat.lt_succ_self _
    | false=>rw [hx] at q;exact Nat.lt_succ_of_lt (hl a d q)
   ·rw [lookup_cons] at q q'
    cases hx:a==z with
    | true=>
     rw [hx] at q
     cases q
     cases hy:b==z with
     | true=>rw [eq_of_beq hx,eq_of_beq hy]
     | false=>rw [hy] at q';exact absurd (hl b n q') (Nat.lt_irrefl _)
    | false=>
     rw [hx] at q
     cases hy:b==z with
     | true=>rw [hy] at q';cases q';exact absurd (hl a n q) (Nat.lt_irrefl _)
     | false=>rw [hy] at q';exact hi a b d q q'
  ·rw [if_neg hk] at e e'
   exact EW hl hi e e'
theorem EK {env:Env} {x:Str} {c:Addr}:∀{names:List (Str×NameKind)} {acc:List (Str×Addr)},(cv env names acc).lookup x=some c->(x,NameKind.free)∈names\/acc.lookup x=some c
 | [],_,e=>.inr e
 | (n,k)::r,acc,e=>by
  unfold cv at e;by_cases hk:(k==.free)=true
  ·rw [if_pos hk] at e
   have hk':k=.free:=by simpa using hk
   rcases EK e with q | q
   ·exact .inl (mem_cons_of_mem _ q)
   ·rw [lookup_cons] at q
    cases hx:x==n with
    | true=>rw [eq_of_beq hx,hk'];exact .inl mem_cons_self
    | false=>rw [hx] at q;exact .inr q
  ·rw [if_neg hk] at e
   rcases EK e with q | q
   ·exact .inl (mem_cons_of_mem _ q)
   ·exact .inr q
theorem Dh {x:Str}:∀{names:List (Str×NameKind)} {n:Nat} {acc:List (Str×Addr)},(x,NameKind.cell)∈names\/(acc.lookup x).isSome=true->((cellsFrom n names acc).lookup x).isSome=true
 | [],_,_,h=>h.elim nofun id
 | (y,k)::r,n,acc,h=>by
  unfold cellsFrom;by_cases hk:(k==.cell)=true
  ·rw [if_pos hk]
   refine Dh (names:=r) ?_
   rcases h with h | h
   ·rcases List.mem_cons.mp h with e | h
    ·cases e
     exact .inr (by rw [lookup_cons];simp)
    ·exact .inl h
   ·right
    rw [lookup_cons]
    cases hx:x==y with
    | true=>rfl
    | false=>exact h
  ·rw [if_neg hk]
   refine Dh (names:=r) ?_
   rcases h with h | h
   ·rcases List.mem_cons.mp h with e | h
    ·cases e
     exact absurd rfl hk
    ·exact .inl h
   ·exact .inr h
theorem Dg {x:Str}:∀{names:List (Str×NameKind)} {n:Nat} {acc:List (Str×Addr)},(x,NameKind.cell)∉names->(cellsFrom n names acc).lookup x=acc.lookup x
 | [],_,_,_=>rfl
 | (y,k)::r,n,acc,h=>by
  unfold cellsFrom;have hr:(x,NameKind.cell)∉r:=fun z=>h (mem_cons_of_mem _ z)
  by_cases hk:(k==.cell)=true
  ·rw [if_pos hk,Dg hr,lookup_cons]
   have hk':k=.cell:=by simpa using hk
   cases hx:x==y with
   | true=>exact absurd (by rw [eq_of_beq hx,hk'];exact mem_cons_self) h
   | false=>rfl
  ·rw [if_neg hk]
   exact Dg hr
theorem Di {x:Str} {c:Addr}:∀{names:List (Str×NameKind)} {n:Nat} {acc:List (Str×Addr)},(x,NameKind.cell)∈names->(cellsFrom n names acc).lookup x=some c->(cellsFrom n names []).lookup x=some c
 | [],_,_,h,_=>nomatch h
 | (y,k)::r,n,acc,h,e=>by
  unfold cellsFrom at e ⊢
  by_cases hk:(k==.cell)=true
  ·rw [if_pos hk] at e ⊢
   by_cases hr:(x,NameKind.cell)∈r
   ·have:∀{acc acc':List (Str×Addr)},(cellsFrom (n+1) r acc).lookup x=some c->(cellsFrom (n+1) r acc').lookup x=some c:=fun {a a'} q=>by
     have q0:=Di hr q
     have hs:=Dh (n:=n+1) (acc:=a') (.inl hr)
     obtain ⟨c',hc'⟩:=Option.isSome_iff_exists.mp hs;have q1:=Di hr hc'
     rw [q0] at q1
     cases q1;exact hc'
    exact this e
   ·rw [Dg hr] at e ⊢
    rw [lookup_cons] at e ⊢
    cases hx:x==y with
    | true=>rw [hx] at e;exact e
    | false=>
     rcases List.mem_cons.mp h with z | z
     ·cases z
      simp at hx
     ·exact absurd z hr
  ·rw [if_neg hk] at e ⊢
   rcases List.mem_cons.mp h with z | z
   ·cases z
    exact absurd rfl hk
   ·exact Di z e
def blk (X:Cx) (scope:Scope) (cells:List (Str×Addr)) (C:Addr) (s₀:Shared) (H₀:Hp) (ex:List Addr):Cx where
 prog:=X.prog
 w:=X.w
 K:=X.K
 mg:=X.mg
 base:=X.base
 A:=X.A
 N:=X.N
 s₀:=s₀
 H₀:=H₀
 env:={ scope:=relabel scope X.env,locals:=C,globals:=X.env.globals,cells:=cells,qual:=X.env.qual,func:=none,code:=X.env.code,frame:=X.env.frame,builtins:=X.env.builtins }
 outer:=X.stack
 stack:=X.stack
 ex:=ex
 fn:=fun x=>scope.names.any fun y=>y.1==x&&y.2==.cell
 calm:=X.calm
 pn:=[]
 xe:=fun _ _=>False
structure cT (N:List Str) (is:List Nat) (osc scope:Scope):Prop where
 kind:scope.kind=.function
 free:∀n,(n,NameKind.free)∈scope.names->osc.names.lookup n=some .cell\/osc.names.lookup n=some .free
 own:∀(i:Nat) (x:Str),N[i]?=some x->(x,NameKind.local)∈scope.names\/(x,NameKind.cell)∈scope.names->i∈is
 loc:∀x∈scope.names,x.2=.local->scope.names.lookup x.1=some .local
 one:∀n,(n,NameKind.free)∈scope.names->(n,NameKind.cell)∉scope.names
def bt (is:List Nat) (U:St):St:=U.mapIdx fun i v=>if i∈is then none else v
theorem xl (is:List Nat) (U:St):(bt is U).length=U.length:=by unfold bt;simp
theorem C6 {is:List Nat} {i:Nat} {v:V} (h:(bt is U)[i]?=some (some v)):i∉is/\U[i]?=some (some v):=by
 unfold bt at h;rw [List.getElem?_mapIdx] at h
 cases e:U[i]? with
 | none=>rw [e] at h;cases h
 | some o=>
  rw [e] at h;simp only [Option.map_some,Option.some.injEq] at h
  by_cases hi:i∈is
  ·rw [if_pos hi] at h;cases h
  ·rw [if_neg hi] at h;exact ⟨hi,by rw [h]⟩
def GZ (U0 U2:St):Prop:=U2.length=U0.length/\∀(i:Nat) v,U0[i]?=some (some v)->U2[i]?=some (some v)
theorem ib {l:List (Str×NameKind)} (h:l.lookup x=some k):(x,k)∈l:=PySem.mem_of_lookup h
theorem Bc (h:(relabel scope env).names.lookup x=some k) :
  (x,k)∈scope.names\/((x,NameKind.free)∈scope.names/\k=.cell):=by
 have h:=ib h
 unfold relabel at h;obtain ⟨⟨n,k'⟩,hm,e⟩:=List.mem_map.mp h;dsimp only at e;by_cases hc:(k'==NameKind.free&&env.scope.kind==.function&&env.kindOf n==some .cell)=true
 ·rw [if_pos hc] at e
  cases e;have:k'=.free:=by
   simp only [Bool.and_eq_true,beq_iff_eq] at hc
   exact hc.1.1
  exact .inr ⟨this▸hm,rfl⟩
 ·rw [if_neg hc] at e
  cases e;exact .inl hm
def jF (X:Cx) (scope:Scope) (C:Addr):List (Str×Addr):=cellsFrom (C+1) scope.names (cv X.env scope.names [])
section
variable {X:Cx} {pins:List (Addr×Obj)} {U:St} {H:Hp} {s:Shared} {scope:Scope} {is:List Nat}
theorem Inv.freeCells (I:Inv X pins U H s) (S:cT X.N is X.env.scope scope):∀n,(n,NameKind.free)∈scope.names->∃c,X.env.cells.lookup n=some c:=fun n hn=>
 I.ok.has n (S.free n hn)
theorem Inv.blkOld (I:Inv X pins U H s) (S:cT X.N is X.env.scope scope) {c:Addr} (h:(cv X.env scope.names []).lookup x=some c):X.env.cells.lookup x=some c:=by
 rcases EV (I.freeCells S) h with q | q
 ·exact q
 ·cases q
theorem Inv.block {fp:List Addr} {t':Nat} (I:Inv X pins U H s) (S:cT X.N is X.env.scope scope) (hf:∀b∈fp,i8 X pins H b) (hfs:∀b∈fp,b<s.heap.objs.size) :
  Inv (blk X scope (jF X scope (s.heap.objs.size+1)) (s.heap.objs.size+1) s H fp) [] (bt is U) (bA H s.heap.objs.size (.lst []))
   { s with heap:=pushCells ((s.heap.push { cls:=.type "list",data:=.seq ([]:List Value).toArray }).push { cls:=.type "dict",data:=.dict #[] }) scope.names,toks:=t' }:=by
 generalize hC:s.heap.objs.size+1=C
 have hDn:H s.heap.objs.size=none:=I.hok.fresh (Nat.le_refl _)
 have s1:(s.heap.push { cls:=.type "list",data:=.seq ([]:List Value).toArray }).objs.size=C:=by rw [Heap.size_push,hC]
 have kept:∀b o,s.heap.get? b=some o->(pushCells ((s.heap.push { cls:=.type "list",data:=.seq ([]:List Value).toArray }).push { cls:=.type "dict",data:=.dict #[] }) scope.names).get? b=some o:=
  fun b o e=>pushCells_keeps _ _ b o (Heap.get?_push_of_some _ (Heap.get?_push_of_some _ e))
 have cellsL:∀x c,(jF X scope C).lookup x=some c->((x,NameKind.cell)∈scope.names/\C+1<=c)\/X.env.cells.lookup x=some c:=fun x c e=>by
  rcases Bx e with q | q
  ·exact .inl q
  ·exact .inr (I.blkOld S q)
 have oldLt:∀x c,X.env.cells.lookup x=some c->c<s.heap.objs.size:=fun x c e=>by
  obtain ⟨v,q⟩:=I.cell x c e;exact q.lt
 have cok:CellsOk (pushCells ((s.heap.push { cls:=.type "list",data:=.seq ([]:List Value).toArray }).push { cls:=.type "dict",data:=.dict #[] }) scope.names) (C+1)
   (cellsFrom (C+1) scope.names []):=by
  have:=cellsFrom_ok scope.names ((s.heap.push { cls:=.type "list",data:=.seq ([]:List Value).toArray }).push { cls:=.type "dict",data:=.dict #[] }) (C+1) [] ⟨fun _ _ hm=>(nomatch hm),List.Pairwise.nil⟩ (by rw [Heap.size_push,s1];exact Nat.le_refl _)
  rw [Heap.size_push,s1] at this;exact this
 have lt1:∀{b:Nat},b<s.heap.objs.size->b≠C:=fun {b} h e=>by subst e;rw [<-hC] at h;exact absurd (Nat.lt_of_succ_lt h) (Nat.lt_irrefl _)
 have hDle:s.heap.objs.size<=C:=by rw [<-hC];exact Nat.le_succ _
 have cellAt:∀x c,(jF X scope C).lookup x=some c->(C<c/\(pushCells ((s.heap.push { cls:=.type "list",data:=.seq ([]:List Value).toArray }).push { cls:=.type "dict",data:=.dict #[] }) scope.names).IsCell c none)\/X.env.cells.lookup x=some c:=fun x c e=>by
  rcases cellsL x c e with ⟨q1,q2⟩ | q
  ·exact .inl ⟨q2,(cok.empty x c (PySem.mem_of_lookup (Di q1 e))).1⟩
  ·exact .inr q
 refine ⟨⟨I.ok.mod,S.kind,I.ok.glob,I.ok.blt,hDle,?_,?_,?_,I.ok.hd,I.ok.frames,.inl rfl,?_,I.bs,Nat.le_trans I.ok.bsz I.sz,?_,?_,I.stack,I.stkFree⟩,rfl,I.bare,?_,?_,?_,?_,?_,fun p hp=>absurd (show p∈([]:List (Addr×Obj)) from hp) (by simp),?_,(xl _ _).trans I.len⟩
 ·-- inj
  intro x y c hx hy;refine EW (fun z d q=>?_) (fun a b d q q'=>I.ok.inj a b d (I.blkOld S q) (I.blkOld S q')) hx hy
  exact Nat.lt_succ_of_lt (Nat.lt_of_lt_of_le (oldLt z d (I.blkOld S q)) hDle)
 ·-- has
  intro x hx;have q:((jF X scope C).lookup x).isSome=true:=by
   refine Dh ?_
   have hx:(relabel scope X.env).names.lookup x=some .cell\/(relabel scope X.env).names.lookup x=some .free:=hx
   rcases hx with hx | hx
   ·rcases Bc hx with z | ⟨z,_⟩
    ·exact .inl z
    ·exact .inr (Be (.inl z))
   ·rcases Bc hx with z | ⟨z,_⟩
    ·exact .inr (Be (.inl z))
    ·exact .inr (Be (.inl z))
  exact Option.isSome_iff_exists.mp q
 ·-- cab
  intro x c hx e;have hx:(scope.names.any fun y=>y.1==x&&y.2==NameKind.cell)=true:=hx
  obtain ⟨y,hy,hz⟩:=List.any_eq_true.mp hx;simp only [Bool.and_eq_true,beq_iff_eq] at hz
  have hm:(x,NameKind.cell)∈scope.names:=by rw [<-hz.1,<-hz.2];exact hy
  rcases Bx e with ⟨_,q⟩ | q
  ·exact Nat.le_trans hDle (Nat.le_of_succ_le q)
  ·rcases EK q with z | z
   ·exact absurd hm (S.one x z)
   ·cases z
 ·-- exf
  intro b hb;obtain ⟨f0,f1,f2,f3,f4,f5⟩:=hf b hb;refine ⟨lt1 (hfs b hb),fun x c e z=>?_⟩
  rcases cellsL x c e with ⟨_,q⟩ | q
  ·subst z
   exact absurd (Nat.lt_of_lt_of_le (hfs _ hb) hDle) (Nat.not_lt.mpr (Nat.le_of_succ_le q))
  ·exact f4 x c q z
 ·-- noex
  intro b o e hb;obtain ⟨f0,f1,f2,f3,f4,f5⟩:=hf b hb;rcases f3 with z | z
  ·exact I.ok.noex b o e z
  ·exact absurd (Nat.lt_of_lt_of_le (Heap.lt_size e) (Nat.le_trans I.ok.bsz z)) (Nat.lt_irrefl _)
 ·-- exfs
  intro b hb z;obtain ⟨f0,f1,f2,f3,f4,f5⟩:=hf b hb;rcases List.mem_cons.mp (I.stkSub b z) with e | e
  ·exact f1 e
  ·exact f2 e
 ·-- base
  exact Un.laid kept (Nat.le_refl _) hDn
 ·-- loc
  refine ⟨fun _=>none,?_,fun i x v e1 e2 e3=>?_⟩
  ·have:=(Heap.Ns.new (s.heap.push { cls:=.type "list",data:=.seq ([]:List Value).toArray }) (.type "dict")).keeps (pushCells_keeps scope.names _)
   rw [s1] at this;exact this
  ·obtain ⟨hni,e2'⟩:=C6 e2
   obtain ⟨m,hn,hl⟩:=id I.loc;have hfree:(x,NameKind.free)∈scope.names:=by
    have e3:(relabel scope X.env).names.lookup x=some .local\/(relabel scope X.env).names.lookup x=some .cell\/(relabel scope X.env).names.lookup x=some .free:=e3
    rcases e3 with z | z | z
    ·rcases Bc z with y | ⟨y,_⟩
     ·exact absurd (S.own i x e1 (.inl y)) hni
     ·exact y
    ·rcases Bc z with y | ⟨y,_⟩
     ·exact absurd (S.own i x e1 (.inr y)) hni
     ·exact y
    ·rcases Bc z with y | ⟨y,_⟩
     ·exact y
     ·exact y
   have hk:=S.free x hfree
   obtain ⟨u,r,l⟩:=hl i x v e1 e2' (.inr hk)
   refine ⟨u,r,?_⟩
   rcases l with ⟨k,_⟩ | ⟨k,c,e,z⟩
   ·have k:X.env.scope.names.lookup x=some .local:=k
    rcases hk with q | q<;>(rw [q] at k;cases k)
   ·refine .inr ⟨?_,c,?_,z.keeps kept⟩
    ·have e3:(relabel scope X.env).names.lookup x=some .local\/(relabel scope X.env).names.lookup x=some .cell\/(relabel scope X.env).names.lookup x=some .free:=e3
     rcases e3 with y | y | y
     ·rcases Bc y with y' | ⟨_,y'⟩
      ·exact absurd (S.own i x e1 (.inl y')) hni
      ·cases y'
     ·exact .inl y
     ·exact .inr y
    ·have q:=Be (env:=X.env) (acc:=[]) (.inl hfree)
     obtain ⟨c',hc'⟩:=Option.isSome_iff_exists.mp q;have:=I.blkOld S hc'
     rw [e] at this
     cases this;show (jF X scope C).lookup x=some c
     unfold jF;rw [Dg (S.one x hfree)];exact hc'
 ·-- cell
  intro x c e;rcases cellAt x c e with ⟨_,q⟩ | q
  ·exact ⟨_,q⟩
  ·obtain ⟨v,z⟩:=I.cell x c q
   exact ⟨v,z.keeps kept⟩
 ·-- free
  show bA H s.heap.objs.size (.lst []) C=none
  rw [dB (by rw [<-hC];exact Nat.ne_of_gt (Nat.lt_succ_self _))]
  exact I.hok.fresh hDle
 ·-- freeC
  intro x c e;show bA H s.heap.objs.size (.lst []) c=none
  rcases cellAt x c e with ⟨q,_⟩ | q
  ·have hc:s.heap.objs.size<c:=Nat.lt_of_le_of_lt hDle q
   rw [dB (Nat.ne_of_gt hc)];exact I.hok.fresh (Nat.le_of_lt hc)
  ·rw [dB (Nat.ne_of_lt (oldLt x c q))]
   exact I.freeC x c q
 ·-- hok
  exact I.hok.laid kept (Nat.le_refl _) ⟨Nat.zero_le _,[],0,.nil,pushCells_keeps _ _ _ _ (Heap.get?_push_of_some _ (Heap.get?_push_size _ rfl))⟩
end
section
variable {M:Model} {A:Around} {E:Value->Shared->Prop} {s:Shared}
theorem iX {globals:Addr} {cl:List (Str×Addr)} {Q:Env->Shared->Prop}
  (hQ:Q (newEnv scope s.heap.objs.size globals (cellsFrom (s.heap.objs.size+1) scope.names cl) qual none .none (some env) builtinsNs) { s with heap:=pushCells (s.heap.push { cls:=.type "dict",data:=.dict #[] }) scope.names }) :
  wpAny M A (newFunctionEnv scope globals cl [] qual none .none (some env)) Q E s:=by
 simp only [newFunctionEnv,Option.isSome_some,if_true]
 refine wpAny_bind (wpAny_alloc ?_)
 refine wpAny_bind (wpAny_layCells _ (fun name kind cells=>by cases hkc:kind==NameKind.cell<;>simp [hkc]) _ _ _ _ ?_)
 rw [show ({ s with heap:=s.heap.push { cls:=.type "dict",data:=.dict #[] } }:Shared).heap.objs.size=s.heap.objs.size+1 from Heap.size_push ..]
 rw [List.forIn_nil];exact wpAny_bind (wpAny_pure (wpAny_pure hQ))
end
def PF (X:Cx) (ifs:List Expr) (t:TT):Prop:=
 ∀(pins:List (Addr×Obj)) (s:Shared) (U:St) (H:Hp) (Q:Bool->Hp->Prop),Inv X pins U H s->t U H Q ->
  wpAny (model X.prog X.w) X.A (forIn ifs true fun c r=>if r=true then do let ok <-isTrue c X.env (eval c X.env);pure (ForInStep.yield ok) else pure (ForInStep.yield r)) (TP X pins U Q) X.xe s
def BG:TT:=fun _ H Q=>Q true H
theorem zi:PF X [] BG:=fun pins s U H Q I h=>wpAny_tests_nil ⟨H,I,h⟩
theorem zh {c:Expr} {t:TT} (h:PT X c t):PF X [c] t:=fun pins s U H Q I q=>wpAny_tests_one (h pins s U H Q I q)
def kA (is:List Nat) (wi:TI) (g:TG) (tc:TT) (te:TE):TE:=fun U H Q=>wi U H fun J H1=>∀D,H1 D=none->∃W:Nat->Nat->List V->Hp->Prop,(∃m,W 0 m [] (bA H1 D (.lst [])))/\∀k m ys H,W k m ys H ->
 H D=some (.lst ys)/\((J.stop k H/\Q (.ref D) H)\/(J.go k H/\ys.length<sizeLine/\∀x H',J.yld k H x H'->g x (bt is U) H' fun U2 H2=>GZ (bt is U) U2/\tc U2 H2 fun b H3=>
  if b=true then te U2 H3 fun v H4=>H4 D=some (.lst ys)/\∃m',m'<m/\W (k+1) m' (ys++[v]) (bA H4 D (.lst (ys++[v]))) else ∃m',m'<m/\W (k+1) m' ys H3))
section
variable {X:Cx} {scope:Scope} {is:List Nat} {tg iter elt:Expr} {ifs:List Expr} {wi:TI} {g:TG} {tc:TT} {te:TE} {pos:Pos}
theorem jx {pins:List (Addr×Obj)} {s:Shared} {H:Hp} {Q:VK} {RR:Value->Addr->Result->Shared->Prop} (S:cT X.N is X.env.scope scope) (hcalm:X.calm=true) (hi:PI X tg iter wi)
  (hg:∀cells C s₀ H₀ ex,PG (blk X scope cells C s₀ H₀ ex) tg g) (hc:∀cells C s₀ H₀ ex,PF (blk X scope cells C s₀ H₀ ex) ifs tc) (he:∀cells C s₀ H₀ ex,PE (blk X scope cells C s₀ H₀ ex) elt te)
  (I:Inv X pins U H s) (h:kA is wi g tc te U H Q)
  (hRR:∀D C s' H' m,Inv X pins U H' s'->s'.heap.Ns C m->Q (.ref D) H'->H' C=none->C≠X.env.locals->X.s₀.heap.objs.size<=C->(∀x c,X.env.cells.lookup x=some c->c≠C)->(∀p∈X.pn++pins,p.1≠C)->RR (.ref D) C (.ok .next) s') :
  wpAny (model X.prog X.w) X.A (eval iter X.env) (fun x s₁=>wpAny (model X.prog X.w) X.A (pyIter x) (fun it s₂=>wpAny (model X.prog X.w) X.A (newList []) (fun acc s₃=>
   wpAny (model X.prog X.w) X.A (newFunctionEnv scope X.env.globals (cv X.env scope.names []) [] X.env.qual none .none (some X.env)) (fun cenv s₄=>
    codeAny (model X.prog X.w) X.A (.compStart (.ListComp elt [⟨tg,iter,ifs,0⟩] scope pos) 0 it acc { cenv with scope:=relabel scope X.env }) (RR acc cenv.locals) s₄) X.xe s₃) X.xe s₂) X.xe s₁) X.xe s:=by
 refine bP (hi pins s U H _ I h) fun v s1 h1=>bP h1 fun itv s2 h2=>?_
 obtain ⟨it,fp,tn,J,H2,e,I2,T,st2,f2,hW⟩:=h2;subst e;obtain ⟨W,⟨m0,w0⟩,turn⟩:=hW s2.heap.objs.size (I2.hok.fresh (Nat.le_refl _));refine wpAny_newObj_type (iX ?_)
 have s1:(s2.heap.push { cls:=.type "list",dict:=none,data:=.seq ([]:List Value).toArray }).objs.size=s2.heap.objs.size+1:=by rw [Heap.size_push]
 dsimp only;rw [s1];have hfs:∀b∈fp,b<s2.heap.objs.size:=fun b hb=>by
  obtain ⟨o,e,_⟩:=T.obj 0 _ st2 b hb;exact Heap.lt_size e
 have I4:=I2.block (t':=s2.toks) S f2 hfs
 generalize hCC:s2.heap.objs.size+1=C at I4 ⊢
 have hDC:s2.heap.objs.size<C:=by rw [<-hCC];exact Nat.lt_succ_self _
 have Hg:=hg (jF X scope C) C s2 H2 fp
 have Hc:=hc (jF X scope C) C s2 H2 fp
 have He:=he (jF X scope C) C s2 H2 fp
 have Ha:=EE (X:=blk X scope (jF X scope C) C s2 H2 fp)
 have hYcell:∀x c,(blk X scope (jF X scope C) C s2 H2 fp).env.cells.lookup x=some c->s2.heap.objs.size<=c\/X.env.cells.lookup x=some c:=fun x c e=>by
  have e:(cellsFrom (C+1) scope.names (cv X.env scope.names [])).lookup x=some c:=e
  rcases Bx e with ⟨_,q⟩ | q
  ·exact .inl (Nat.le_trans (Nat.le_of_lt hDC) (Nat.le_of_succ_le q))
  ·exact .inr (I2.blkOld S q)
 have FY:∀{H':Hp},(∀b∈fp,H' b=none)->∀b∈fp,i8 (blk X scope (jF X scope C) C s2 H2 fp) [] H' b:=fun {H'} hn b hb=>by
  obtain ⟨f0,f1,f3,f4,f5,f6⟩:=f2 b hb;refine ⟨hn b hb,Nat.ne_of_lt (Nat.lt_trans (hfs b hb) hDC),fun z=>?_,.inl hb,fun x c e z=>?_,fun p hp=>absurd (show p∈([]:List (Addr×Obj)) from hp) (by simp)⟩
  ·rcases List.mem_cons.mp (I2.stkSub b z) with e | e
   ·exact f1 e
   ·exact f3 e
  ·rcases hYcell x c e with q | q
   ·rw [z] at q
    exact absurd (Nat.lt_of_lt_of_le (hfs b hb) q) (Nat.lt_irrefl _)
   ·exact f5 x c q z
 have hCx:∀x c,X.env.cells.lookup x=some c->c≠C:=fun x c e z=>by
  obtain ⟨v,q⟩:=I2.cell x c e;have:=q.lt
  rw [z] at this;exact absurd (Nat.lt_trans this hDC) (Nat.lt_irrefl _)
 have hCp:∀p∈X.pn++pins,p.1≠C:=fun p hp z=>by
  have:=Heap.lt_size (I2.pin p hp).1
  rw [z] at this;exact absurd (Nat.lt_trans this hDC) (Nat.lt_irrefl _)
 have out:∀{U':St} {H':Hp} {s':Shared},Inv (blk X scope (jF X scope C) C s2 H2 fp) [] U' H' s'->Inv X pins U H' s':=fun {U' H' s'} J=>
  I2.call' (ch:=fp) J.os J.base J.hok J.bare fun b hb=>by
   obtain ⟨f0,f1,f3,f4,f5,f6⟩:=f2 b hb;exact ⟨f4,f1,f5,f6⟩
 have loop:∀s₃:Shared,s₃={ s2 with heap:=pushCells ((s2.heap.push { cls:=.type "list",data:=.seq ([]:List Value).toArray }).push { cls:=.type "dict",data:=.dict #[] }) scope.names } ->
   codeAny (model X.prog X.w) X.A (.compLoop (.ListComp elt [⟨tg,iter,ifs,0⟩] scope pos) 0 (.ref it) (.ref s2.heap.objs.size) (blk X scope (jF X scope C) C s2 H2 fp).env) (RR (.ref s2.heap.objs.size) C) s₃:=by
  rintro s₃ rfl
  refine kj (fun n s'=>∃k ys H',Inv (blk X scope (jF X scope C) C s2 H2 fp) [] (bt is U) H' s'/\tn k s'.heap/\(∀b∈fp,H' b=none)/\W k n ys H') ?_ m0
   ⟨0,[],_,I4,T.keep 0 _ _ st2 fun b _ o e=>pushCells_keeps _ _ b o (Heap.get?_push_of_some _ (Heap.get?_push_of_some _ e)),fun b hb=>by rw [dB (Nat.ne_of_lt (hfs b hb))];exact (f2 b hb).1,w0⟩
  rintro n s3 ⟨k,ys,H3,I3,st3,fr3,w3⟩
  obtain ⟨hD3,hcase⟩:=turn k n ys H3 w3;rcases hcase with ⟨stop,qn⟩ | ⟨go,hlen,step⟩
  ·refine bP (T.done (blk X scope (jF X scope C) C s2 H2 fp) rfl rfl rfl hcalm k [] s3 (bt is U) H3 wQ I3 (FY fr3) st3 stop) fun r s4 ⟨hr,I4⟩=>?_
   subst hr;obtain ⟨m,hn,_⟩:=id I4.loc;exact hRR _ C s4 H3 m (out I4) hn qn I4.free (fun z=>Nat.lt_irrefl _ (Nat.lt_trans (Nat.lt_of_lt_of_eq hDC z) I2.lt)) (Nat.le_trans I2.sz (Nat.le_of_lt hDC)) hCx hCp
  ·refine bP (T.item (blk X scope (jF X scope C) C s2 H2 fp) rfl rfl rfl hcalm k [] s3 (bt is U) H3 wQ I3 (FY fr3) st3 go) fun r s4 ⟨u,hr,h4⟩=>?_
   subst hr;refine bP h4 fun _ s5 ⟨x,H5,I5,r5,y5,st5,fr5⟩=>?_
   have I5':=I5.pinned (FY fr5) (T.obj _ _ st5)
   refine bP (Hg _ s5 (bt is U) H5 x u _ I5' r5 (step x H5 y5)) fun _ s6 ⟨U6,H6,I6,le6,q6⟩=>?_
   refine bP (Hc _ s6 U6 H6 _ I6 q6) fun ok s7 ⟨H7,I7,q7⟩=>?_
   have again:∀{H8:Hp} {s8:Shared} {ys':List V},Inv (blk X scope (jF X scope C) C s2 H2 fp) ([]++Bp fp s5.heap) U6 H8 s8->(∃m',m'<n/\W (k+1) m' ys' H8) ->
     ∃m,m<n/\∃k ys H',Inv (blk X scope (jF X scope C) C s2 H2 fp) [] (bt is U) H' s8/\tn k s8.heap/\(∀b∈fp,H' b=none)/\W k m ys H':=fun {H8 s8 ys'} I8 ⟨m',hm,w8⟩=>by
    refine ⟨m',hm,k+1,ys',H8,(I8.weak le6.1.symm le6.2).unpinned,T.keep _ _ _ st5 fun b hb o e=>(I8.pin (b,o) (mem_append_right _ (mem_append_right _ (Da hb e)))).1,fun b hb=>?_,w8⟩
    obtain ⟨o,e,d⟩:=T.obj _ _ st5 b hb;exact (I8.pin (b,o) (mem_append_right _ (mem_append_right _ (Da hb e)))).2.1
   cases ok with
   | false=>
    rw [if_neg Bool.false_ne_true] at q7;exact again I7 q7
   | true=>
    rw [if_pos rfl] at q7;refine bP (He _ s7 U6 H7 _ I7 q7) fun y s8 ⟨v8,H8,I8,r8,q8⟩=>?_
    obtain ⟨hD8,q8⟩:=q8;refine bP (Ha _ s8 U6 H8 (.ref s2.heap.objs.size) [v8] (.ref s2.heap.objs.size) [y] (fun _ H9=>∃m',m'<n/\W (k+1) m' (ys++[v8]) H9) I8 rfl (.cons r8 .nil) ⟨_,ys,v8,rfl,rfl,hD8,hlen,q8⟩) fun _ s9 ⟨_,H9,I9,_,q9⟩=>?_
    exact again I9 q9
 exact codeAny_compStart_list (loop _ rfl) (T.self X.A 0 _ _ _ (T.keep 0 _ _ st2 fun b _ o e=>pushCells_keeps _ _ b o (Heap.get?_push_of_some _ (Heap.get?_push_of_some _ e))) (loop _ rfl))
theorem oo (S:cT X.N is X.env.scope scope) (hcalm:X.calm=true) (hi:PI X tg iter wi)
  (hg:∀cells C s₀ H₀ ex,PG (blk X scope cells C s₀ H₀ ex) tg g) (hc:∀cells C s₀ H₀ ex,PF (blk X scope cells C s₀ H₀ ex) ifs tc) (he:∀cells C s₀ H₀ ex,PE (blk X scope cells C s₀ H₀ ex) elt te)
  (hs:∀x,foldedSetIterable iter X.env x=pure x:=by intro _;rfl):PE X (.ListComp elt [⟨tg,iter,ifs,0⟩] scope pos) (kA is wi g tc te):=by
 intro pins s U H Q I h;rw [eval_ListComp];refine wpAny_comprehension_free (use:=none) rfl hs (fm (I.freeCells S)) S.kind S.loc (jx (RR:=fun acc C=>compPost (model X.prog X.w) X.A X.xe none (EP X pins U Q) acc C) S hcalm hi hg hc he I h ?_)
 intro D C s' H' m I' hn q n1 n2 n3 n4 n5
 refine ⟨m,hn,fun h' hs'=>?_⟩
 exact ⟨.ref D,H',I'.turned (t':=s'.toks) (fun b o hb e=>(hs'.2 b hb).trans e) n1 n2 (.inr n3) n4 n5,rfl,q⟩
theorem g6 {i:Nat} {y:Str} {pos' spos:Pos} (hN:X.N.Nodup) (hy:X.N[i]?=some y) (hl:X.env.scope.names.lookup y=some .local) (S:cT X.N is X.env.scope scope) (hcalm:X.calm=true) (hi:PI X tg iter wi)
  (hg:∀cells C s₀ H₀ ex,PG (blk X scope cells C s₀ H₀ ex) tg g) (hc:∀cells C s₀ H₀ ex,PF (blk X scope cells C s₀ H₀ ex) ifs tc) (he:∀cells C s₀ H₀ ex,PE (blk X scope cells C s₀ H₀ ex) elt te)
  (hsw:swapsWith (.ListComp elt [⟨tg,iter,ifs,0⟩] scope pos) (some (.Name y pos')) spos.line X.env=pure true)
  (hs:∀x,foldedSetIterable iter X.env x=pure x:=by intro _;rfl):PS X (.Assign [.Name y pos'] (.ListComp elt [⟨tg,iter,ifs,0⟩] scope pos) spos) (fun D U H=>kA is wi g tc te U H fun v H'=>D.nx (U.set i (some v)) H'):=by
 intro pins s U H Ds I h;rw [exec_Assign_Name_used _ _ _ _ hsw];refine wpAny_bind (wpAny_standAt (wpAny_bind ?_))
 show wpAny _ X.A (do let _ <-comprehension (.ListComp elt [⟨tg,iter,ifs,0⟩] scope pos) scope X.env _ (newList []) false (eval iter X.env) (some (assign (.Name y pos') X.env))) _ _ s
 refine wpAny_bind (wpAny_mono (wpAny_comprehension_free (use:=some (assign (.Name y pos') X.env)) (Q:=fun _ s'=>SP X pins Ds .next s') rfl hs (fm (I.freeCells S)) S.kind S.loc
  (jx (RR:=fun acc C=>compPost (model X.prog X.w) X.A X.xe (some (assign (.Name y pos') X.env)) (fun _ s'=>SP X pins Ds .next s') acc C) S hcalm hi hg hc he I h ?_)) (fun _ s' hq=>wpAny_pure (wpAny_pure hq)) fun _ _ e=>e)
 intro D C s' H' m I' hn q n1 n2 n3 n4 n5
 show wpAny _ X.A (assign (.Name y pos') X.env (.ref D)) _ _ _
 refine wpAny_assign_Name (ji (v:=.ref D) I' hN hy (.inl hl) rfl (fun s'' I'' hch=>?_) (.inr hl))
 obtain ⟨a,hsb,ha⟩:=hch;have hCa:C≠a:=by
  rcases ha with e | e
  ·rw [e];exact n2
  ·exact (n4 y a e).symm
 refine ⟨m,hn.sameBut hsb hCa,fun h' hs'=>?_⟩
 exact ⟨_,H',I''.turned (t':=s''.toks) (fun b o hb e=>(hs'.2 b hb).trans e) n1 n2 (.inr n3) n4 n5,q⟩
end
end L2
namespace T
open PySem PySem.Spec L2
open PyProof.Rows hiding St
variable {H' H2 He H1 He':Hp} {o:HO} {O' F:List Addr} {Fs Fs2 Fs' Fs1:List (List Addr)} {t t':TT} {es ifs:List Expr} {X:Cx} {U:St} {x qual y:Str} {α:Type} {vs:List V} {bs:List Bool} {A:Around} {lo cs ls gs:List Nat} {n k line:Nat} {tg iter elt:Expr} {N ps gl:List Str} {fd:FuncData} {scope:Scope} {px pos' apos cpos:Pos} {mg:Str->Option Value} {env:Env} {gens:List Comprehension}
abbrev D:=PyData
inductive Rep (K:Fg) (H:Hp):V->D->Prop where
 | non:Rep K H .non .none
 | bl (b:Bool):Rep K H (.bl b) (.bool b)
 | int (i:Int):Rep K H (.int i) (.int i)
 | str (x:Str):Rep K H (.str x) (.str x)
 | lst {p:Addr} {vs:List V} {ds:List D}:SqL K H p vs->vs.length=ds.length->(∀(i:Nat) v d,vs[i]?=some v->ds[i]?=some d->Rep K H v d)->Rep K H (.ref p) (.list ds)
 | tup {p:Addr} {vs:List V} {ds:List D}:SqT K H p vs->vs.length=ds.length->(∀(i:Nat) v d,vs[i]?=some v->ds[i]?=some d->Rep K H v d)->Rep K H (.ref p) (.tuple ds)
theorem iC {K:Fg} {H:Hp} {a:Addr} {xs:List V} (e:Same H H') (h:SqT K H a xs):SqT K H' a xs:=by
 rcases h with (h | ⟨o,h⟩) | h
 ·exact .inl (.inl (e _ _ h))
 ·exact .inl (.inr ⟨o,e _ _ h⟩)
 ·exact .inr h
theorem Rep.mono {K:Fg} {H:Hp} {v:V} {d:D} (e:Same H H') (h:Rep K H v d):Rep K H' v d:=by
 induction h with
 | non=>exact .non
 | bl b=>exact .bl b
 | int i=>exact .int i
 | str x=>exact .str x
 | lst hs hl _ ih=>exact .lst (e.seq hs) hl ih
 | tup hs hl _ ih=>exact .tup (iC e hs) hl ih
def Reps (K:Fg) (H:Hp) (vs:List V) (ds:List D):Prop:=vs.length=ds.length/\∀(i:Nat) v d,vs[i]?=some v->ds[i]?=some d->Rep K H v d
def cF (H:Hp) (O:List Addr):Hp:=fun a=>if a∈O then none else H a
theorem hid_le {H:Hp} {O:List Addr}:Same (cF H O) H:=fun b o h=>by
 unfold cF at h;split at h
 ·cases h
 ·exact h
theorem A5 {H:Hp} {O:List Addr} {a:Addr} (h:H a=some o) (n:a∉O):cF H O a=some o:=by
 unfold cF;rw [if_neg n];exact h
theorem ug {H:Hp} {O:List Addr} (e:Same H H') (h:∀a∈O',a∈O\/H a=none):Same (cF H O) (cF H' O'):=fun b o q=>by
 unfold cF at q ⊢
 split at q
 ·cases q
 ·rename_i hn
  have hb:b∉O':=fun z=>(h b z).elim hn fun z=>by rw [z] at q;cases q
  rw [if_neg hb];exact e b o q
theorem DY {H:Hp} {O:List Addr} {p:Addr} (h:p∈O):cF (bA H p o) O=cF H O:=by
 funext b
 unfold cF;split
 ·rfl
 ·rename_i hb
  exact dB fun e=>hb (e▸h)
theorem DX {H:Hp}:cF H []=H:=by
 funext b;unfold cF;simp
theorem fE {H:Hp} {p:Addr} (h:H p=none):Same H (bA H p o):=fun b u e=>by
 rw [dB (uj e h)];exact e
inductive Sh where
 | view | leaf | lst (s:Sh) | tup (ss:List Sh)
def Sh.isView:Sh->Bool
 | .view=>true
 | _=>false
inductive Own (K:Fg) (O:List Addr) (H:Hp):Sh->List Addr->V->D->Prop where
 | view {v d}:Rep K H v d->Own K O H .view [] v d
 | leaf {v d}:Rep K (cF H O) v d->Own K O H .leaf [] v d
 | lst {s:Sh} {p:Addr} {vs:List V} {ds:List D} {Fs:List (List Addr)}:s.isView=false->H p=some (.lst vs)->vs.length=ds.length->Fs.length=ds.length->(p::Fs.flatten).Nodup ->
   (∀(i:Nat) v d F,vs[i]?=some v->ds[i]?=some d->Fs[i]?=some F->Own K O H s F v d)->Own K O H (.lst s) (p::Fs.flatten) (.ref p) (.list ds)
 | tup {ss:List Sh} {p:Addr} {vs:List V} {ds:List D} {Fs:List (List Addr)}:(∀s∈ss,s.isView=false)->H p=some (.tup vs)->p∉O->vs.length=ds.length->Fs.length=ds.length->ss.length=ds.length->Fs.flatten.Nodup ->
   (∀(i:Nat) v d F s,vs[i]?=some v->ds[i]?=some d->Fs[i]?=some F->ss[i]?=some s->Own K O H s F v d)->Own K O H (.tup ss) Fs.flatten (.ref p) (.tuple ds)
theorem Own.mono {K:Fg} {O:List Addr} {H:Hp} {s:Sh} {G:List Addr} {v:V} {d:D} (h:Own K O H s G v d) (e:Same H H') (hO:∀a∈O',a∈O\/H a=none):Own K O' H' s G v d:=by
 induction h with
 | view r=>exact .view (r.mono e)
 | leaf r=>exact .leaf (r.mono (ug e hO))
 | lst hv hp hl hf nd _ ih=>exact .lst hv (e _ _ hp) hl hf nd fun i v d F h1 h2 h3=>ih i v d F h1 h2 h3
 | tup hv hp hn hl hf hs nd _ ih=>exact .tup hv (e _ _ hp) (fun z=>(hO _ z).elim hn fun z=>by rw [z] at hp;cases hp) hl hf hs nd fun i v d F s h1 h2 h3 h4=>ih i v d F s h1 h2 h3 h4
theorem Own.rep {K:Fg} {O:List Addr} {H:Hp} {s:Sh} {G:List Addr} {v:V} {d:D} (h:Own K O H s G v d):Rep K H v d:=by
 induction h with
 | view r=>exact r
 | leaf r=>exact r.mono hid_le
 | lst hv hp hl hf _ q ih=>
  refine .lst (.of hp) hl fun i v d h1 h2=>?_
  rename_i Fs _;obtain ⟨F,hF⟩:∃F,Fs[i]?=some F:=by
   have:=(List.getElem?_eq_some_iff.mp h2).1
   exact ⟨Fs[i]'(by omega),getElem?_eq_getElem _⟩
  exact ih i v d F h1 h2 hF
 | tup hv hp hn hl hf hs _ q ih=>
  refine .tup (.of hp) hl fun i v d h1 h2=>?_
  rename_i ss _ _ _ Fs _;have hi:=(List.getElem?_eq_some_iff.mp h2).1
  exact ih i v d (Fs[i]'(by omega)) (ss[i]'(by omega)) h1 h2 (getElem?_eq_getElem _) (getElem?_eq_getElem _)
theorem ja {i:Nat} {a:Addr} (h:Fs[i]?=some F) (ha:a∈F):a∈Fs.flatten:=List.mem_flatten.mpr ⟨F,mem_of_getElem? h,ha⟩
theorem Own.freeze {K:Fg} {O:List Addr} {H:Hp} {s:Sh} {G:List Addr} {v:V} {d:D} (h:Own K O H s G v d) (hs:s.isView=false) (h1:∀a∈O',a∈O) (h2:∀a∈G,a∉O'):Rep K (cF H O') v d:=by
 induction h with
 | view r=>cases hs
 | leaf r=>exact r.mono (ug (Same.refl _) fun a z=>.inl (h1 a z))
 | lst hv hp hl hf _ q ih=>
  refine .lst (.of (A5 hp (h2 _ mem_cons_self))) hl fun i v d e1 e2=>?_
  rename_i Fs _;obtain ⟨F,hF⟩:∃F,Fs[i]?=some F:=by
   have:=(List.getElem?_eq_some_iff.mp e2).1
   exact ⟨Fs[i]'(by omega),getElem?_eq_getElem _⟩
  exact ih i v d F e1 e2 hF hv fun a ha=>h2 a (mem_cons_of_mem _ (ja hF ha))
 | tup hv hp hn hl hf hs' _ q ih=>
  refine .tup (.of (A5 hp fun z=>hn (h1 _ z))) hl fun i v d e1 e2=>?_
  rename_i ss _ _ _ Fs _;have hi:=(List.getElem?_eq_some_iff.mp e2).1
  have e3:Fs[i]?=some (Fs[i]'(by omega)):=getElem?_eq_getElem _
  exact ih i v d _ (ss[i]'(by omega)) e1 e2 e3 (getElem?_eq_getElem _) (hv _ (getElem_mem _)) fun a ha=>h2 a (ja e3 ha)
theorem Own.mut {K:Fg} {O:List Addr} {H:Hp} {s:Sh} {G:List Addr} {v:V} {d:D} {p:Addr} {xs:List V} (h:Own K O H s G v d) (hs:s.isView=false) (hp:p∈O) (hg:p∉G) (hl:H p=some (.lst xs)):Own K O (bA H p o) s G v d:=by
 induction h with
 | view r=>cases hs
 | leaf r=>refine .leaf ?_;rw [DY hp];exact r
 | lst hv hq hl' hf nd q ih=>
  refine .lst hv ?_ hl' hf nd fun i v d F e1 e2 e3=>ih i v d F e1 e2 e3 hv fun z=>hg (mem_cons_of_mem _ (ja e3 z))
  rw [dB (fun z=>hg (by rw [<-z];exact mem_cons_self))]
  exact hq
 | tup hv hq hn hl' hf hs' nd q ih=>
  refine .tup hv ?_ hn hl' hf hs' nd fun i v d F s e1 e2 e3 e4=>ih i v d F s e1 e2 e3 e4 (hv _ (mem_of_getElem? e4)) fun z=>hg (ja e3 z)
  rw [dB (fun z=>by rw [z,hl] at hq;cases hq)]
  exact hq
inductive Sc:V->D->Prop where
 | non:Sc .non .none
 | bl (b:Bool):Sc (.bl b) (.bool b)
 | int (i:Int):Sc (.int i) (.int i)
 | str (x:Str):Sc (.str x) (.str x)
theorem Sc.rep {K:Fg} {H:Hp} {v:V} {d:D} (h:Sc v d):Rep K H v d:=by cases h<;>constructor
def aT:D->Bool
 | .list _=>false
 | .tuple _=>false
 | .dict _=>false
 | _=>true
theorem Rep.sc {K:Fg} {H:Hp} {v:V} {d:D} (h:Rep K H v d) (s:aT d=true):Sc v d:=by
 cases h with
 | non=>exact .non
 | bl b=>exact .bl b
 | int i=>exact .int i
 | str x=>exact .str x
 | lst _ _ _=>cases s
 | tup _ _ _=>cases s
structure PV where
 s:Sh
 d:D
abbrev Ev:=List (Option PV)
inductive Out (α:Type) where
 | ok (a:α) (e:Ev)
 | er (c:Str) (e:Ev)
 | no
def Out.bind {α β:Type} (x:Out α) (k:α->Ev->Out β):Out β:=match x with
 | .ok a e=>k a e
 | .er c e=>.er c e
 | .no=>.no
structure EnvOk (K:Fg) (He:Hp) (O:List Addr) (Fs:List (List Addr)) (H:Hp) (U:St) (Γ:Ev):Prop where
 len1:U.length=Γ.length
 len2:Fs.length=Γ.length
 same:Same He H
 nd:(O++Fs.flatten).Nodup
 inH:∀a∈O++Fs.flatten,H a≠none
 fresh:∀a∈Fs.flatten,He a=none
 slot:∀(i:Nat) (p:PV),Γ[i]?=some (some p)->p.s.isView=false/\∃v F,U[i]?=some (some v)/\Fs[i]?=some F/\Own K (O++Fs.flatten) H p.s F v p.d
section
variable {K:Fg} {He H H':Hp} {O O' G:List Addr} {Fs:List (List Addr)} {U:St} {Γ:Ev}
theorem EnvOk.grow (h:EnvOk K He O Fs H U Γ) (e:Same H H'):EnvOk K He O Fs H' U Γ:=
 ⟨h.len1,h.len2,h.same.trans e,h.nd,fun a ha z=>h.inH a ha (e.free z),h.fresh,fun i p q=>let ⟨a,v,F,b,c,d⟩:=h.slot i p q;⟨a,v,F,b,c,d.mono e fun _ z=>.inl z⟩⟩
theorem EnvOk.drop (h:EnvOk K He O Fs H U Γ) (hs:∀a∈O',a∈O) (nd:O'.Nodup):EnvOk K He O' Fs H U Γ:=by
 obtain ⟨n1,n2,n3⟩:=List.nodup_append.mp h.nd;refine ⟨h.len1,h.len2,h.same,List.nodup_append.mpr ⟨nd,n2,fun a ha b hb=>n3 a (hs a ha) b hb⟩,fun a ha=>h.inH a ?_,h.fresh,fun i p q=>let ⟨a,v,F,b,c,d⟩:=h.slot i p q;⟨a,v,F,b,c,d.mono (Same.refl _) fun a z=>.inl ?_⟩⟩
 ·rcases List.mem_append.mp ha with z | z
  ·exact mem_append_left _ (hs a z)
  ·exact mem_append_right _ z
 ·rcases List.mem_append.mp z with z | z
  ·exact mem_append_left _ (hs a z)
  ·exact mem_append_right _ z
theorem EnvOk.dropL (h:EnvOk K He (G++O) Fs H U Γ):EnvOk K He O Fs H U Γ:=h.drop (fun a z=>mem_append_right _ z) (List.nodup_append.mp (List.nodup_append.mp h.nd).1).2.1
theorem EnvOk.hide (h:EnvOk K He O Fs H U Γ) (e:Same H H') (nd:G.Nodup) (hn:∀a∈G,H a=none) (hi:∀a∈G,H' a≠none):EnvOk K He (G++O) Fs H' U Γ:=by
 refine ⟨h.len1,h.len2,h.same.trans e,?_,fun a ha=>?_,h.fresh,fun i p q=>let ⟨a,v,F,b,c,d⟩:=h.slot i p q;⟨a,v,F,b,c,d.mono e fun a z=>?_⟩⟩
 ·rw [append_assoc]
  exact List.nodup_append.mpr ⟨nd,h.nd,fun a ha b hb z=>h.inH b hb (by rw [<-z];exact hn a ha)⟩
 ·rw [append_assoc] at ha
  rcases List.mem_append.mp ha with z | z
  ·exact hi a z
  ·exact fun q=>h.inH a z (e.free q)
 ·rw [append_assoc] at z
  rcases List.mem_append.mp z with z | z
  ·exact .inr (hn a z)
  ·exact .inl z
end
structure Aft (K:Fg) (He:Hp) (O:List Addr) (Fs:List (List Addr)) (H:Hp) (U:St) (Γ':Ev) (p:PV) (v:V) (H':Hp) (G:List Addr) (Fs':List (List Addr)):Prop where
 same:Same H H'
 env:EnvOk K He (G++O) Fs' H' U Γ'
 new:∀a∈G++Fs'.flatten,a∈Fs.flatten\/H a=none
 own:Own K (G++O++Fs'.flatten) H' p.s G v p.d
abbrev XW:=Str->St->Hp->Prop
abbrev F1:=Ev->Out PV
def tE (K:Fg) (W:XW) (f:F1):TE:=fun U H Q=>∃He O Fs Γ,EnvOk K He O Fs H U Γ/\match f Γ with
 | .ok p Γ'=>∀v H' G Fs',Aft K He O Fs H U Γ' p v H' G Fs'->Q v H'
 | .er c Γ'=>∀H' Fs',Same H H'->EnvOk K He O Fs' H' U Γ'->W c U H'
 | .no=>False
def Wants (K:Fg) (W:XW) (He:Hp) (O:List Addr) (Fs:List (List Addr)) (H:Hp) (U:St) (Q:VK) (o:Out PV):Prop:=match o with
 | .ok p Γ'=>∀v H' G Fs',Aft K He O Fs H U Γ' p v H' G Fs'->Q v H'
 | .er c Γ'=>∀H' Fs',Same H H'->EnvOk K He O Fs' H' U Γ'->W c U H'
 | .no=>False
section
variable {K:Fg} {W:XW} {He H:Hp} {O:List Addr} {Fs:List (List Addr)} {U:St} {Γ Γ':Ev} {Q:VK}
theorem Wants.scal {O2:List Addr} {v:V} {d:D} (h:Wants K W He O Fs H U Q (.ok ⟨.leaf,d⟩ Γ')) (s:Sc v d) (e:Same H H2) (E:EnvOk K He O2 Fs2 H2 U Γ')
  (hO:∀a∈O,a∈O2) (nd:O.Nodup) (new:∀a∈Fs2.flatten,a∈Fs.flatten\/H a=none):Q v H2:=
 h v H2 [] Fs2 ⟨e,by rw [nil_append];exact E.drop hO nd,by rw [nil_append];exact new,.leaf s.rep⟩
theorem EnvOk.ndO (E:EnvOk K He O Fs H U Γ):O.Nodup:=(List.nodup_append.mp E.nd).1
end
def aX {β:Type} (f:F1) (k:PV->Ev->Out β):Ev->Out β:=fun Γ=>(f Γ).bind k
section
variable {K:Fg} {W:XW} {U:St} {H:Hp} {Q:VK} {fa fb:F1}
theorem xV {k:PV->F1} {R:VK} (h:tE K W (aX fa k) U H Q)
  (hk:∀He O Fs Γ1 p v H1 G Fs1,O.Nodup->Aft K He O Fs H U Γ1 p v H1 G Fs1->Wants K W He O Fs H U Q (k p Γ1)->R v H1):tE K W fa U H R:=by
 obtain ⟨He,O,Fs,Γ,E,h⟩:=h;refine ⟨He,O,Fs,Γ,E,?_⟩
 unfold aX at h
 cases e:fa Γ with
 | ok p Γ1=>
  rw [e] at h;exact fun v H' G Fs' A=>hk He O Fs Γ1 p v H' G Fs' E.ndO A h
 | er c Γ1=>
  rw [e] at h;exact h
 | no=>
  rw [e] at h;exact h
theorem DQ {k:PV->PV->F1} {R:V->V->Hp->Prop} (h:tE K W (aX fa fun p=>aX fb fun q=>k p q) U H Q)
  (hk:∀He O Fs Γ2 p q v u H1 H2 G1 G2 Fs2,O.Nodup->Same H H1->Same H1 H2->EnvOk K He (G2++(G1++O)) Fs2 H2 U Γ2->(∀a∈G2++(G1++Fs2.flatten),a∈Fs.flatten\/H a=none) ->
   Own K (G2++(G1++O)++Fs2.flatten) H2 p.s G1 v p.d->Own K (G2++(G1++O)++Fs2.flatten) H2 q.s G2 u q.d->Wants K W He O Fs H U Q (k p q Γ2)->R v u H2) :
  tE K W fa U H fun v H1=>tE K W fb U H1 fun u H2=>R v u H2:=by
 refine xV (k:=fun p=>aX fb fun q=>k p q) h fun He O Fs Γ1 p v H1 G1 Fs1 nd A1 h1=>?_
 refine ⟨He,G1++O,Fs1,Γ1,A1.env,?_⟩
 unfold aX at h1
 cases e:fb Γ1 with
 | ok q Γ2=>
  rw [e] at h1;intro u H2 G2 Fs2 A2;have new:∀a∈G2++(G1++Fs2.flatten),a∈Fs.flatten\/H a=none:=fun a ha=>by
   have up:a∈G1++Fs1.flatten->a∈Fs.flatten\/H a=none:=A1.new a
   rcases List.mem_append.mp ha with z | z
   ·rcases A2.new a (mem_append_left _ z) with y | y
    ·exact up (mem_append_right _ y)
    ·exact .inr (A1.same.free y)
   ·rcases List.mem_append.mp z with z | z
    ·exact up (mem_append_left _ z)
    ·rcases A2.new a (mem_append_right _ z) with y | y
     ·exact up (mem_append_right _ y)
     ·exact .inr (A1.same.free y)
  refine hk He O Fs Γ2 p q v u H1 H2 G1 G2 Fs2 nd A1.same A2.same A2.env new (A1.own.mono A2.same fun a ha=>?_) A2.own h1
  rcases List.mem_append.mp ha with z | z
  ·rcases List.mem_append.mp z with z | z
   ·rcases A2.new a (mem_append_left _ z) with y | y
    ·exact .inl (mem_append_right _ y)
    ·exact .inr y
   ·exact .inl (mem_append_left _ z)
  ·rcases A2.new a (mem_append_right _ z) with y | y
   ·exact .inl (mem_append_right _ y)
   ·exact .inr y
 | er c Γ2=>
  rw [e] at h1;intro H2 Fs2 hs E2;exact h1 H2 Fs2 (A1.same.trans hs) E2.dropL
 | no=>
  rw [e] at h1;exact h1
end
section
variable {X:Cx} {e:Expr}
theorem aY {t t':TE} (h:PE X e t) (i:∀U H Q,t' U H Q->t U H Q):PE X e t':=fun pins s U H Q I q=>h pins s U H Q I (i U H Q q)
theorem t8 (h:PT X e t) (i:∀U H Q,t' U H Q->t U H Q):PT X e t':=fun pins s U H Q I q=>h pins s U H Q I (i U H Q q)
theorem xO (h:PW X e t) (i:∀U H Q,t' U H Q->t U H Q):PW X e t':=fun whole pins s U H Q I q=>h whole pins s U H Q I (i U H Q q)
theorem xP {t t':TA} (h:PA X es t) (i:∀U H Q,t' U H Q->t U H Q):PA X es t':=fun pos pins s U H Q I q=>h pos pins s U H Q I (i U H Q q)
theorem cO {st:Stmt} {t t':TS} (h:PS X st t) (i:∀D U H,t' D U H->t D U H):PS X st t':=fun pins s U H D I q=>h pins s U H D I (i D U H q)
theorem CP {st:List Stmt} {t t':TS} (h:PSs X st t) (i:∀D U H,t' D U H->t D U H):PSs X st t':=fun pins s U H D I q=>h pins s U H D I (i D U H q)
theorem CN (h:PF X es t) (i:∀U H Q,t' U H Q->t U H Q):PF X es t':=fun pins s U H Q I q=>h pins s U H Q I (i U H Q q)
end
theorem ET {h:Heap}:∀{vs:List V} {its:List Value} {ds:List D},Vals vs its->vs.length=ds.length->(∀(i:Nat) v d,vs[i]?=some v->ds[i]?=some d->∀u,RelV v u->∃as,Reads h u d as)->∃as,ReadsAll h its ds as
 | _,_,[],.nil,_,_=>⟨_,.nil⟩
 | _,_,d::ds,.cons (a:=v) (b:=u) r t,hl,h=>by
  obtain ⟨as,ra⟩:=h 0 v d rfl rfl u r;obtain ⟨bs,rb⟩:=ET t (by simpa using hl) fun i v d h1 h2=>h (i+1) v d (by simpa using h1) (by simpa using h2)
  exact ⟨_,.cons ra rb⟩
 | _,_,[],.cons _ _,hl,_=>by simp at hl
 | _,_,_::_,.nil,hl,_=>by simp at hl
theorem Rep.reads {pins:List (Addr×Obj)} {H:Hp} {s:Shared} {x:V} {d:D} (I:Inv X pins U H s) (r:Rep X.K H x d):∀u,RelV x u->∃as,Reads s.heap u d as:=by
 induction r with
 | non=>rintro u rfl;exact ⟨_,.none⟩
 | bl b=>rintro u rfl;exact ⟨_,.bool b⟩
 | int i=>rintro u ⟨t,rfl⟩;exact ⟨_,.int i t⟩
 | str x=>rintro u ⟨t,rfl⟩;exact ⟨_,.str x t⟩
 | lst hq hl _ ih=>
  rintro u rfl
  obtain ⟨its,rv,⟨o,n,e1,e2,e3,e4⟩,_⟩:=I.list hq;obtain ⟨as,ra⟩:=ET rv hl ih;exact ⟨_,.list e1 e2 e4 (by simpa using ra)⟩
 | tup hq hl _ ih=>
  rintro u rfl
  obtain ⟨its,rv,⟨o,e1,e2,n,e4⟩,_⟩:=I.tuple hq;obtain ⟨as,ra⟩:=ET rv hl ih;exact ⟨_,.tuple e1 e2 e4 (by simpa using ra)⟩
theorem mz {α:Type} {F G:List α}:∀{Fs:List (List α)} {i:Nat},Fs[i]?=some F->(F++(Fs.set i G).flatten).Perm (G++Fs.flatten)
 | [],_,h=>by simp at h
 | A::r,0,h=>by
  simp at h
  subst h;simp only [List.set_cons_zero,flatten_cons]
  rw [<-append_assoc,<-append_assoc];exact List.Perm.append_right _ perm_append_comm
 | A::r,i+1,h=>by
  have ih:=mz (G:=G) (Fs:=r) (i:=i) (by simpa using h)
  simp only [List.set_cons_succ,flatten_cons]
  calc (F++(A++(r.set i G).flatten)).Perm (A++(F++(r.set i G).flatten)):=by
        rw [<-append_assoc,<-append_assoc];exact List.Perm.append_right _ perm_append_comm
    _ |>.Perm (A++(G++r.flatten)):=List.Perm.append_left _ ih
    _ |>.Perm (G++(A++r.flatten)):=by
        rw [<-append_assoc,<-append_assoc];exact List.Perm.append_right _ perm_append_comm
section
variable {K:Fg} {He H:Hp} {O G:List Addr} {Fs:List (List Addr)} {U:St} {Γ:Ev}
theorem EnvOk.lt (E:EnvOk K He O Fs H U Γ) {i:Nat} (h:i<Γ.length):∃F,Fs[i]?=some F:=⟨Fs[i]'(by rw [E.len2];exact h),getElem?_eq_getElem _⟩
theorem EnvOk.move {i:Nat} {p:PV} (E:EnvOk K He O Fs H U Γ) (h:Γ[i]?=some (some p)) :
  p.s.isView=false/\∃v F,U[i]?=some (some v)/\EnvOk K He (F++O) (Fs.set i []) H U (Γ.set i none)/\Own K (F++O++(Fs.set i []).flatten) H p.s F v p.d/\(∀a∈F++(Fs.set i []).flatten,a∈Fs.flatten):=by
 obtain ⟨hv,v,F,h1,h2,h3⟩:=E.slot i p h;have pm:(F++(Fs.set i []).flatten).Perm Fs.flatten:=by simpa using mz (G:=[]) h2
 have pm2:(F++O++(Fs.set i []).flatten).Perm (O++Fs.flatten):=by
  rw [append_assoc]
  calc (F++(O++(Fs.set i []).flatten)).Perm (O++(F++(Fs.set i []).flatten)):=by
        rw [<-append_assoc,<-append_assoc];exact List.Perm.append_right _ perm_append_comm
    _ |>.Perm (O++Fs.flatten):=List.Perm.append_left _ pm
 refine ⟨hv,v,F,h1,⟨by rw [length_set];exact E.len1,by rw [length_set,length_set];exact E.len2,E.same,pm2.nodup_iff.mpr E.nd,fun a ha=>E.inH a (pm2.mem_iff.mp ha),fun a ha=>E.fresh a (pm.mem_iff.mp (mem_append_right _ ha)),fun j q hq=>?_⟩,h3.mono (Same.refl _) fun a ha=>.inl (pm2.mem_iff.mp ha),fun a ha=>pm.mem_iff.mp ha⟩
 by_cases hj:j=i
 ·subst hj
  rw [getElem?_set] at hq;split at hq
  ·split at hq<;>cases hq
  ·rename_i z
   exact absurd rfl z
 ·rw [getElem?_set_ne (Ne.symm hj)] at hq
  obtain ⟨w1,v',F',e1,e2,e3⟩:=E.slot j q hq;exact ⟨w1,v',F',e1,by rw [getElem?_set_ne (Ne.symm hj)];exact e2,e3.mono (Same.refl _) fun a ha=>.inl (pm2.mem_iff.mp ha)⟩
theorem EnvOk.put {i:Nat} {p:PV} {v:V} (E:EnvOk K He (G++O) Fs H U Γ) (ho:Own K (G++O++Fs.flatten) H p.s G v p.d) (hv:p.s.isView=false) (hn:∀a∈G,He a=none) (hi:i<Γ.length) :
  EnvOk K He O (Fs.set i G) H (U.set i (some v)) (Γ.set i (some p)):=by
 obtain ⟨F,hF⟩:=E.lt hi;have pm:=mz (G:=G) hF
 have nd:=E.nd
 rw [append_assoc] at nd;have sub:∀a∈O++(Fs.set i G).flatten,a∈G++O++Fs.flatten:=fun a ha=>by
  rw [append_assoc];rcases List.mem_append.mp ha with z | z
  ·exact mem_append_right _ (mem_append_left _ z)
  ·rcases List.mem_append.mp (pm.mem_iff.mp (mem_append_right _ z)) with y | y
   ·exact mem_append_left _ y
   ·exact mem_append_right _ (mem_append_right _ y)
 refine ⟨by rw [length_set,length_set];exact E.len1,by rw [length_set,length_set];exact E.len2,E.same,?_,fun a ha=>E.inH a (sub a ha),fun a ha=>?_,fun j q hq=>?_⟩
 ·have p1:(O++(F++(Fs.set i G).flatten)).Perm (G++(O++Fs.flatten)):=by
   calc (O++(F++(Fs.set i G).flatten)).Perm (O++(G++Fs.flatten)):=List.Perm.append_left _ pm
     _ |>.Perm (G++(O++Fs.flatten)):=by
       rw [<-append_assoc,<-append_assoc];exact List.Perm.append_right _ perm_append_comm
  have p2:=p1.nodup_iff.mpr nd
  refine p2.sublist ?_
  exact List.Sublist.append_left (List.sublist_append_right _ _) _
 ·rcases List.mem_append.mp (pm.mem_iff.mp (mem_append_right _ ha)) with y | y
  ·exact hn a y
  ·exact E.fresh a y
 ·by_cases hj:j=i
  ·subst hj
   rw [getElem?_set_self hi] at hq
   cases hq;refine ⟨hv,v,G,?_,?_,ho.mono (Same.refl _) fun a ha=>.inl (sub a ha)⟩
   ·rw [getElem?_set_self (by rw [E.len1];exact hi)]
   ·rw [getElem?_set_self (by rw [E.len2];exact hi)]
  ·rw [getElem?_set_ne (Ne.symm hj)] at hq
   obtain ⟨w1,v',F',e1,e2,e3⟩:=E.slot j q hq;exact ⟨w1,v',F',by rw [getElem?_set_ne (Ne.symm hj)];exact e1,by rw [getElem?_set_ne (Ne.symm hj)];exact e2,e3.mono (Same.refl _) fun a ha=>.inl (sub a ha)⟩
theorem Aft.freshG {Γ':Ev} {p:PV} {v:V} (E:EnvOk K He O Fs H U Γ) (A:Aft K He O Fs H U Γ' p v H' G Fs'):∀a∈G,He a=none:=fun a ha=>by
 rcases A.new a (mem_append_left _ ha) with z | z
 ·exact E.fresh a z
 ·exact E.same.free z
end
def aa (i:Nat):F1:=fun Γ=>match Γ[i]? with
 | some (some p)=>(match p.s with
  | .leaf=>.ok ⟨.leaf,p.d⟩ Γ
  | _=>.ok ⟨.view,p.d⟩ Γ)
 | _=>.no
def bV (i:Nat):F1:=fun Γ=>match Γ[i]? with
 | some (some p)=>.ok p (Γ.set i none)
 | _=>.no
def eK (d:D):F1:=fun Γ=>.ok ⟨.leaf,d⟩ Γ
section
variable {X:Cx} {W:XW} {i:Nat} {e:Expr} {pos:Pos}
theorem yF {K:Fg} {H:Hp} {Q:VK} (h:tE K W (aa i) U H Q):dU i U H Q:=by
 obtain ⟨He,O,Fs,Γ,E,h⟩:=h;unfold aa at h
 cases e:Γ[i]? with
 | none=>rw [e] at h;exact h.elim
 | some o=>
  rw [e] at h
  cases o with
  | none=>exact h.elim
  | some p=>
   obtain ⟨hv,v,F,h1,h2,h3⟩:=E.slot i p e;obtain ⟨s,d⟩:=p;have new:∀a∈[]++Fs.flatten,a∈Fs.flatten\/H a=none:=fun a ha=>.inl (by simpa using ha)
   cases s with
   | leaf=>
    cases h3 with
    | leaf r=>exact ⟨v,h1,h v H [] Fs ⟨Same.refl _,by simpa using E,new,.leaf r⟩⟩
   | view=>cases hv
   | lst s=>exact ⟨v,h1,h v H [] Fs ⟨Same.refl _,by simpa using E,new,.view h3.rep⟩⟩
   | tup ss=>exact ⟨v,h1,h v H [] Fs ⟨Same.refl _,by simpa using E,new,.view h3.rep⟩⟩
theorem vl {K:Fg} {H:Hp} {Q:VK} (h:tE K W (bV i) U H Q):dU i U H Q:=by
 obtain ⟨He,O,Fs,Γ,E,h⟩:=h;unfold bV at h
 cases e:Γ[i]? with
 | none=>rw [e] at h;exact h.elim
 | some o=>
  rw [e] at h
  cases o with
  | none=>exact h.elim
  | some p=>
   obtain ⟨hv,v,F,h1,E',o',sub⟩:=E.move e;exact ⟨v,h1,h v H F (Fs.set i []) ⟨Same.refl _,E',fun a ha=>.inl (sub a ha),o'⟩⟩
theorem Ay (h:PE X e (dU i)):PE X e (tE X.K W (aa i)):=aY h fun _ _ _=>yF
theorem wB (h:PE X e (dU i)):PE X e (tE X.K W (bV i)):=aY h fun _ _ _=>vl
theorem vn {K:Fg} {H:Hp} {Q:VK} {v:V} {d:D} (hs:∀H,Rep K H v d) (h:tE K W (eK d) U H Q):Q v H:=by
 obtain ⟨He,O,Fs,Γ,E,h⟩:=h;exact h v H [] Fs ⟨Same.refl _,by simpa using E,fun a ha=>.inl (by simpa using ha),.leaf (hs _)⟩
theorem wC {v:V} {u:Value} {d:D} (hg:Gl X x) (hm:X.mg x=some u) (r:RelV v u) (hr:∀H,Rep X.K H v d) (hd:(x==("__debug__":Str))=false:=by decide):PE X (.Name x pos) (tE X.K W (eK d)):=
 aY (vF hg hm r hd) fun _ _ _=>vn hr
end
def ax (g:D->D->Option D) (fa fb:F1):F1:=aX fa fun p=>aX fb fun q=>fun Γ=>match g p.d q.d with
 | some d=>.ok ⟨.leaf,d⟩ Γ
 | none=>.no
def GOp (K:Fg) (r:R2) (g:D->D->Option D):Prop:=∀x y H Q a b d,Rep K H x a->Rep K H y b->g a b=some d->(∀v,Sc v d->Q v H)->r x y H Q
section
variable {K:Fg} {W:XW} {U:St} {H:Hp} {Q:VK} {fa fb:F1} {r:R2} {g:D->D->Option D}
theorem fQ (hg:GOp K r g) (h:tE K W (ax g fa fb) U H Q):nQ r (tE K W fa) (tE K W fb) U H Q:=by
 refine DQ h ?_
 intro He O Fs Γ2 p q v u H1 H2 G1 G2 Fs2 nd s1 s2 E new o1 o2 w
 cases e:g p.d q.d with
 | none=>rw [e] at w;exact w.elim
 | some d=>
  rw [e] at w;exact hg v u H2 Q p.d q.d d o1.rep o2.rep e fun z s=>w.scal s (s1.trans s2) E (fun a ha=>mem_append_right _ (mem_append_right _ ha)) nd fun a ha=>new a (mem_append_right _ (mem_append_right _ ha))
end
theorem GOp.or {K:Fg} {r r':R2} {g g':D->D->Option D} (h:GOp K r g) (h':GOp K r' g'):GOp K (fun x y H Q=>r x y H Q\/r' x y H Q) (fun a b=>(g a b).or (g' a b)):=by
 intro x y H Q a b d ra rb e k;have e:(g a b).or (g' a b)=some d:=e
 cases e1:g a b with
 | some z=>rw [e1] at e;cases e;exact .inl (h x y H Q a b _ ra rb e1 k)
 | none=>rw [e1] at e;exact .inr (h' x y H Q a b d ra rb (by simpa using e) k)
def gI (C:Int->Int->Bool) (f:Int->Int->D):D->D->Option D
 | .int i,.int j=>if C i j then some (f i j) else none
 | _,_=>none
theorem oF {K:Fg} {C:Int->Int->Prop} {C':Int->Int->Bool} {g:Int->Int->V} {f:Int->Int->D} (hC:∀i j,C' i j=true->C i j) (hs:∀i j,Sc (g i j) (f i j)):GOp K (rI C g) (gI C' f):=by
 intro x y H Q a b d ra rb e k
 cases ra<;>cases rb<;>simp only [gI] at e<;>try cases e
 rename_i i j;split at e
 ·rename_i c
  cases e;exact ⟨i,j,rfl,rfl,hC i j c,k _ (hs i j)⟩
 ·cases e
def xD (f:Int->Int->D):D->D->Option D
 | .int i,.int j=>some (f i j)
 | _,_=>none
theorem AU {K:Fg} {g:Int->Int->V} {f:Int->Int->D} (hs:∀i j,Sc (g i j) (f i j)):GOp K (og g) (xD f):=by
 intro x y H Q a b d ra rb e k
 cases ra<;>cases rb<;>simp only [xD] at e<;>try cases e
 rename_i i j;exact ⟨i,j,rfl,rfl,k _ (hs i j)⟩
abbrev gSub:=xD fun i j=>.int (i-j)
abbrev bx:=xD fun i j=>.int (i+j)
def qu (i j:Int):Bool:=(decide (-(2 ^ 64)<i)&&decide (i<2 ^ 64))||(decide (-(2 ^ 64)<j)&&decide (j<2 ^ 64))
abbrev lE:=gI qu fun i j=>.int (i*j)
def wL (_ j:Int):Bool:=decide (0<j)&&decide (j<1073741824)
abbrev tu:=gI wL fun i j=>.int (i / j)
def wK (_ j:Int):Bool:=decide (0<j)
abbrev iY:=gI wK fun i j=>.int (i % j)
def wJ (i j:Int):Bool:=decide (0<=j)&&decide (j<=1000000)&&decide (i.natAbs<2 ^ 64)
abbrev we:=gI wJ fun i j=>.int (i ^ j.toNat)
mutual
def Sh.same:Sh->Sh->Bool
 | .view,.view=>true
 | .leaf,.leaf=>true
 | .lst a,.lst b=>Sh.same a b
 | .tup as,.tup bs=>Sh.sameL as bs
 | _,_=>false
def Sh.sameL:List Sh->List Sh->Bool
 | [],[]=>true
 | a::as,b::bs=>Sh.same a b&&Sh.sameL as bs
 | _,_=>false
end
mutual
theorem Sh.same_eq:∀{a b:Sh},Sh.same a b=true->a=b
 | .view,.view,_=>rfl
 | .leaf,.leaf,_=>rfl
 | .lst a,.lst b,h=>by rw [Sh.same_eq (a:=a) (b:=b) (by simpa [Sh.same] using h)]
 | .tup as,.tup bs,h=>by rw [Sh.sameL_eq (as:=as) (bs:=bs) (by simpa [Sh.same] using h)]
 | .view,.leaf,h=>by simp [Sh.same] at h
 | .view,.lst _,h=>by simp [Sh.same] at h
 | .view,.tup _,h=>by simp [Sh.same] at h
 | .leaf,.view,h=>by simp [Sh.same] at h
 | .leaf,.lst _,h=>by simp [Sh.same] at h
 | .leaf,.tup _,h=>by simp [Sh.same] at h
 | .lst _,.view,h=>by simp [Sh.same] at h
 | .lst _,.leaf,h=>by simp [Sh.same] at h
 | .lst _,.tup _,h=>by simp [Sh.same] at h
 | .tup _,.view,h=>by simp [Sh.same] at h
 | .tup _,.leaf,h=>by simp [Sh.same] at h
 | .tup _,.lst _,h=>by simp [Sh.same] at h
theorem Sh.sameL_eq:∀{as bs:List Sh},Sh.sameL as bs=true->as=bs
 | [],[],_=>rfl
 | a::as,b::bs,h=>by
  have h:Sh.same a b=true/\Sh.sameL as bs=true:=by simpa [Sh.sameL] using h
  rw [Sh.same_eq h.1,Sh.sameL_eq h.2]
 | [],_::_,h=>by simp [Sh.sameL] at h
 | _::_,[],h=>by simp [Sh.sameL] at h
end
def coer (s:Sh) (p:PV):Bool:=match s with
 | .leaf=>!p.s.isView||aT p.d
 | .view=>false
 | s=>Sh.same s p.s
def aJ (s:Sh) (G:List Addr):List Addr:=match s with
 | .leaf=>[]
 | _=>G
theorem EC {s:Sh} {G:List Addr} {a:Addr} (h:a∈aJ s G):a∈G:=by
 unfold aJ at h;split at h
 ·simp at h
 ·exact h
theorem Own.coer {K:Fg} {O O':List Addr} {H:Hp} {s:Sh} {p:PV} {G:List Addr} {v:V} (h:Own K O H p.s G v p.d) (c:coer s p=true) (h1:∀a∈O',a∈O) (h2:∀a∈G,a∈O'->a∈aJ s G):Own K O' H s (aJ s G) v p.d:=by
 cases s with
 | view=>simp [T.coer] at c
 | leaf=>
  show Own K O' H .leaf [] v p.d
  have c:(!p.s.isView||aT p.d)=true:=c
  cases hv:p.s.isView with
  | false=>exact .leaf (h.freeze hv h1 fun a ha z=>by simpa [aJ] using h2 a ha z)
  | true=>
   rw [hv] at c;exact .leaf (h.rep.sc (by simpa using c)).rep
 | lst s=>
  have e:Sh.lst s=p.s:=Sh.same_eq c
  show Own K O' H (.lst s) G v p.d
  rw [e];exact h.mono (Same.refl _) fun a ha=>.inl (h1 a ha)
 | tup ss=>
  have e:Sh.tup ss=p.s:=Sh.same_eq c
  show Own K O' H (.tup ss) G v p.d
  rw [e];exact h.mono (Same.refl _) fun a ha=>.inl (h1 a ha)
open PySem.SeqAt in
def cJ:D->D->Option D:=fun a b=>if shaped a&&shaped b then some (.bool (PyData.eqv a b)) else none
open PySem.SeqAt in
def cw:D->D->Option D:=fun a b=>if shaped a&&shaped b then some (.bool (!PyData.eqv a b)) else none
open PySem.SeqAt in
def pF (K:Fg) (neg:Bool):R2:=fun x y H Q=>∃a b,Rep K H x a/\Rep K H y b/\shaped a=true/\shaped b=true/\Q (.bl (if neg then !PyData.eqv a b else PyData.eqv a b)) H
section
variable {X:Cx}
theorem zw (hu:X.A.units+64<cLine):OpR X (compareOp .Eq) (pF X.K false):=by
 intro pins s U H x y v u Q I rx ry h;obtain ⟨a,b,ra,rb,sa,sb,q⟩:=h;obtain ⟨as,r1⟩:=ra.reads I v rx;obtain ⟨bs,r2⟩:=rb.reads I u ry;exact SeqAt.compareEq_shaped r1 r2 sa sb hu ⟨.bl _,H,I,rfl,q⟩
theorem zp (hu:X.A.units+64<cLine):OpR X (compareOp .NotEq) (pF X.K true):=by
 intro pins s U H x y v u Q I rx ry h;obtain ⟨a,b,ra,rb,sa,sb,q⟩:=h;obtain ⟨as,r1⟩:=ra.reads I v rx;obtain ⟨bs,r2⟩:=rb.reads I u ry;exact SeqAt.compareNe_shaped r1 r2 sa sb hu ⟨.bl _,H,I,rfl,q⟩
end
theorem Aa {K:Fg}:GOp K (pF K false) cJ:=by
 intro x y H Q a b d ra rb e k;unfold cJ at e;split at e
 ·rename_i c
  cases e;simp only [Bool.and_eq_true] at c
  exact ⟨a,b,ra,rb,c.1,c.2,k _ (.bl _)⟩
 ·cases e
theorem zX {K:Fg}:GOp K (pF K true) cw:=by
 intro x y H Q a b d ra rb e k;unfold cw at e;split at e
 ·rename_i c
  cases e;simp only [Bool.and_eq_true] at c
  exact ⟨a,b,ra,rb,c.1,c.2,k _ (.bl _)⟩
 ·cases e
def Af:D->D->Option D
 | .str i,.str j=>some (.bool (decide (i.cps.toList<j.cps.toList)))
 | _,_=>none
abbrev FX:=xD fun i j=>.bool (decide (i<j))
abbrev ik:D->D->Option D:=fun a b=>(FX a b).or (Af a b)
abbrev DB:=xD fun i j=>.bool (decide (i<=j))
abbrev dW:=xD fun i j=>.bool (decide (j<i))
abbrev Hi:=xD fun i j=>.bool (decide (j<=i))
theorem vY {K:Fg}:GOp K (fun x y H Q=>∃i j,x=.str i/\y=.str j/\Q (.bl (decide (i.cps.toList<j.cps.toList))) H) Af:=by
 intro x y H Q a b d ra rb e k
 cases ra<;>cases rb<;>simp only [Af] at e<;>try cases e
 rename_i i j;exact ⟨i,j,rfl,rfl,k _ (.bl _)⟩
theorem zY {K:Fg}:GOp K (fun x y H Q=>og (fun i j=>.bl (decide (i<j))) x y H Q\/∃i j,x=.str i/\y=.str j/\Q (.bl (decide (i.cps.toList<j.cps.toList))) H) ik:=
 (AU fun _ _=>.bl _).or vY
open PySem.SeqAt in
def aV (neg:Bool):D->D->Option D
 | a,.list xs=>if shaped a&&shaped (.list xs) then some (.bool (if neg then !xs.any fun y=>PyData.eqv y a else xs.any fun y=>PyData.eqv y a)) else none
 | a,.tuple xs=>if shaped a&&shaped (.tuple xs) then some (.bool (if neg then !xs.any fun y=>PyData.eqv y a else xs.any fun y=>PyData.eqv y a)) else none
 | _,_=>none
def rZ (K:Fg) (neg:Bool):R2:=fun x y H Q=>∃a b d,Rep K H x a/\Rep K H y b/\aV neg a b=some (.bool d)/\Q (.bl d) H
theorem td {K:Fg} {neg:Bool}:GOp K (rZ K neg) (aV neg):=by
 intro x y H Q a b d ra rb e k;have:∃c,d=.bool c:=by
  cases b<;>simp only [aV] at e<;>(try cases e)<;>(split at e<;>cases e<;>exact ⟨_,rfl⟩)
 obtain ⟨c,rfl⟩:=this;exact ⟨a,b,c,ra,rb,e,k _ (.bl c)⟩
theorem De {d:D} {xs:List D} (h:SeqAt.shaped d=true) (e:d=.list xs\/d=.tuple xs):PyData.canLayAll0 xs=true/\PyData.depthAll xs+1<=64:=by
 have h1:=SeqAt.canLay_of_shaped h
 have h2:=SeqAt.depth_of_shaped h
 rcases e with e | e<;>subst e<;>exact ⟨by simpa [PyData.canLay0] using h1,by simpa [PyData.depth] using h2⟩
section
variable {X:Cx}
theorem zu (hu:X.A.units+64<cLine):OpR X (compareOp .In) (rZ X.K false):=by
 intro pins s U H x y v u Q I rx ry h;obtain ⟨a,b,d,ra,rb,e,q⟩:=h;obtain ⟨as,r1⟩:=ra.reads I v rx;obtain ⟨bs,r2⟩:=rb.reads I u ry
 cases b<;>simp only [aV] at e<;>try cases e
 all_goals
  split at e
  ·rename_i c
   simp only [Bool.and_eq_true] at c
   simp only [Option.some.injEq,PyData.bool.injEq] at e
   subst e;first
    | (obtain ⟨p1,p2⟩:=De c.2 (.inl rfl)
       exact SeqAt.in_list_reads r2 r1 p1 (SeqAt.canLay_of_shaped c.1) (Nat.lt_of_le_of_lt (by have:=Nat.min_le_left (PyData.depthAll ‹_›) a.depth;omega) hu) ⟨.bl _,H,I,rfl,q⟩)
    | (obtain ⟨p1,p2⟩:=De c.2 (.inr rfl)
       exact SeqAt.in_tuple_reads r2 r1 p1 (SeqAt.canLay_of_shaped c.1) (Nat.lt_of_le_of_lt (by have:=Nat.min_le_left (PyData.depthAll ‹_›) a.depth;omega) hu) ⟨.bl _,H,I,rfl,q⟩)
  ·cases e
theorem pJ (hu:X.A.units+64<cLine):OpR X (compareOp .NotIn) (rZ X.K true):=by
 intro pins s U H x y v u Q I rx ry h;obtain ⟨a,b,d,ra,rb,e,q⟩:=h;obtain ⟨as,r1⟩:=ra.reads I v rx;obtain ⟨bs,r2⟩:=rb.reads I u ry
 cases b<;>simp only [aV] at e<;>try cases e
 all_goals
  split at e
  ·rename_i c
   simp only [Bool.and_eq_true] at c
   simp only [Option.some.injEq,PyData.bool.injEq] at e
   subst e;first
    | (obtain ⟨p1,p2⟩:=De c.2 (.inl rfl)
       exact SeqAt.notIn_list_reads r2 r1 p1 (SeqAt.canLay_of_shaped c.1) (Nat.lt_of_le_of_lt (by have:=Nat.min_le_left (PyData.depthAll ‹_›) a.depth;omega) hu) ⟨.bl _,H,I,rfl,q⟩)
    | (obtain ⟨p1,p2⟩:=De c.2 (.inr rfl)
       exact SeqAt.notIn_tuple_reads r2 r1 p1 (SeqAt.canLay_of_shaped c.1) (Nat.lt_of_le_of_lt (by have:=Nat.min_le_left (PyData.depthAll ‹_›) a.depth;omega) hu) ⟨.bl _,H,I,rfl,q⟩)
  ·cases e
end
def WantsB (K:Fg) (W:XW) (He:Hp) (O:List Addr) (Fs:List (List Addr)) (H:Hp) (U:St) (Q:Bool->Hp->Prop) (o:Out Bool):Prop:=match o with
 | .ok b Γ'=>∀H' Fs',Same H H'->EnvOk K He O Fs' H' U Γ'->(∀a∈Fs'.flatten,a∈Fs.flatten\/H a=none)->Q b H'
 | .er c Γ'=>∀H' Fs',Same H H'->EnvOk K He O Fs' H' U Γ'->W c U H'
 | .no=>False
abbrev FB:=Ev->Out Bool
def tT (K:Fg) (W:XW) (f:FB):TT:=fun U H Q=>∃He O Fs Γ,EnvOk K He O Fs H U Γ/\WantsB K W He O Fs H U Q (f Γ)
section
variable {K:Fg} {W:XW} {He H H1:Hp} {O:List Addr} {Fs Fs1:List (List Addr)} {U:St} {Γ Γ':Ev} {Q:VK} {QB:Bool->Hp->Prop}
theorem Wants.after {o:Out PV} (h:Wants K W He O Fs H U Q o) (s:Same H H1) (n:∀a∈Fs1.flatten,a∈Fs.flatten\/H a=none):Wants K W He O Fs1 H1 U Q o:=by
 cases o with
 | ok p Γ'=>exact fun v H' G Fs' A=>h v H' G Fs' ⟨s.trans A.same,A.env,fun a ha=>(A.new a ha).elim (n a) fun z=>.inr (s.free z),A.own⟩
 | er c Γ'=>exact fun H' Fs' e E=>h H' Fs' (s.trans e) E
 | no=>exact h
theorem WantsB.after {o:Out Bool} (h:WantsB K W He O Fs H U QB o) (s:Same H H1) (n:∀a∈Fs1.flatten,a∈Fs.flatten\/H a=none):WantsB K W He O Fs1 H1 U QB o:=by
 cases o with
 | ok p Γ'=>exact fun H' Fs' e E n'=>h H' Fs' (s.trans e) E fun a ha=>(n' a ha).elim (n a) fun z=>.inr (s.free z)
 | er c Γ'=>exact fun H' Fs' e E=>h H' Fs' (s.trans e) E
 | no=>exact h
theorem Aft.go {p:PV} {v:V} {G:List Addr} (A:Aft K He O Fs H U Γ' p v H1 G Fs1):EnvOk K He O Fs1 H1 U Γ':=A.env.dropL
theorem Aft.newF {p:PV} {v:V} {G:List Addr} (A:Aft K He O Fs H U Γ' p v H1 G Fs1):∀a∈Fs1.flatten,a∈Fs.flatten\/H a=none:=fun a ha=>A.new a (mem_append_right _ ha)
end
section
variable {K:Fg} {W:XW} {U:St} {H:Hp} {Q:VK} {QB:Bool->Hp->Prop} {fa fb fc:F1} {ga gb:FB}
def aA (g:D->Option Bool) (f:F1):FB:=fun Γ=>(f Γ).bind fun p Γ'=>match g p.d with
 | some b=>.ok b Γ'
 | none=>.no
theorem nR {g:D->Option Bool} {R:VK} (h:tT K W (aA g fa) U H QB) (hR:∀v d b H1,Rep K H1 v d->g d=some b->QB b H1->R v H1):tE K W fa U H R:=by
 obtain ⟨He,O,Fs,Γ,E,h⟩:=h;refine ⟨He,O,Fs,Γ,E,?_⟩
 unfold aA at h
 cases e:fa Γ with
 | ok p Γ'=>
  rw [e] at h;intro v H' G Fs' A
  have h:WantsB K W He O Fs H U QB (match g p.d with | some b=>.ok b Γ' | none=>.no):=h
  cases e2:g p.d with
  | some b=>
   rw [e2] at h;exact hR v p.d b H' A.own.rep e2 (h H' Fs' A.same A.go A.newF)
  | none=>rw [e2] at h;exact h.elim
 | er c Γ'=>rw [e] at h;exact h
 | no=>rw [e] at h;exact h
def ag:D->Option Bool
 | .bool b=>some b
 | _=>none
theorem vh {t:TE} (hi:∀Q,tE K W fa U H Q->t U H Q) (h:tT K W (aA ag fa) U H QB):xm t U H QB:=by
 refine hi _ (nR h fun v d b H1 r e q=>?_)
 cases r<;>simp only [ag] at e<;>try cases e
 exact ⟨_,rfl,q⟩
def aZ:D->Option Bool
 | .none=>some false
 | .bool b=>some b
 | .int i=>some (i != 0)
 | .str x=>if x.length<=sizeLine then some ((x.length:Int) != 0) else none
 | .list xs=>some (!xs.isEmpty)
 | .tuple xs=>some (!xs.isEmpty)
 | .dict _=>none
theorem yH (h:tT K W (aA aZ fa) U H QB):tE K W fa U H fun x H'=>∃k,t5 K x H' k/\QB k H':=by
 refine nR h fun v d b H1 r e q=>?_
 cases r with
 | non=>cases e;exact ⟨_,rfl,q⟩
 | bl c=>cases e;exact ⟨_,rfl,q⟩
 | int i=>cases e;exact ⟨_,rfl,q⟩
 | str x=>
  simp only [aZ] at e
  split at e
  ·rename_i z;cases e;exact ⟨_,⟨z,rfl⟩,q⟩
  ·cases e
 | @lst p vs ds hq hl _=>
  cases e;exact ⟨_,.inl ⟨vs,hq,by cases vs<;>cases ds<;>simp_all⟩,q⟩
 | @tup p vs ds hq hl _=>
  cases e;exact ⟨_,.inr (.inl ⟨vs,hq,by cases vs<;>cases ds<;>simp_all⟩),q⟩
def cE (a b:FB):FB:=fun Γ=>(a Γ).bind fun c Γ'=>if c then b Γ' else .ok false Γ'
def cX (a b:FB):FB:=fun Γ=>(a Γ).bind fun c Γ'=>if c then .ok true Γ' else b Γ'
def bD (a:FB):FB:=fun Γ=>(a Γ).bind fun c Γ'=>.ok (!c) Γ'
theorem DR {k:Bool->Ev->Out Bool} {R:Bool->Hp->Prop} (h:tT K W (fun Γ=>(ga Γ).bind k) U H QB)
  (hk:∀(He:Hp) (O:List Addr) Γ1 b H1 Fs1,Same H H1->EnvOk K He O Fs1 H1 U Γ1->WantsB K W He O Fs1 H1 U QB (k b Γ1)->R b H1):tT K W ga U H R:=by
 obtain ⟨He,O,Fs,Γ,E,h⟩:=h;have h:WantsB K W He O Fs H U QB ((ga Γ).bind k):=h
 refine ⟨He,O,Fs,Γ,E,?_⟩
 cases e:ga Γ with
 | ok b Γ1=>rw [e] at h;exact fun H' Fs' s E' n=>hk He O Γ1 b H' Fs' s E' (WantsB.after (o:=k b Γ1) h s n)
 | er c Γ1=>rw [e] at h;exact h
 | no=>rw [e] at h;exact h
theorem WantsB.now {O:List Addr} {Γ:Ev} {b:Bool} (h:WantsB K W He O Fs H U QB (.ok b Γ)) (E:EnvOk K He O Fs H U Γ):QB b H:=h H Fs (Same.refl _) E fun _ z=>.inl z
theorem vy (h:tT K W (cE ga gb) U H QB):BM (tT K W ga) (tT K W gb) U H QB:=by
 refine DR h fun He O Γ1 b H1 Fs1 s E w=>?_
 cases b with
 | true=>exact j3 ⟨He,O,Fs1,Γ1,E,w⟩
 | false=>exact j4 (WantsB.now w E)
theorem yS (h:tT K W (cX ga gb) U H QB):Gg (tT K W ga) (tT K W gb) U H QB:=by
 refine DR h fun He O Γ1 b H1 Fs1 s E w=>?_
 cases b with
 | false=>exact j4 ⟨He,O,Fs1,Γ1,E,w⟩
 | true=>exact j3 (WantsB.now w E)
theorem vw (h:tT K W (bD ga) U H QB):BJ (tT K W ga) U H QB:=DR h fun He O Γ1 b H1 Fs1 s E w=>WantsB.now w E
def dN (fa fb:F1):F1:=aX fa fun p Γ=>match p.d with
 | .bool true=>fb Γ
 | .bool false=>.ok ⟨.leaf,.bool false⟩ Γ
 | _=>.no
def uu (fa fb:F1):F1:=aX fa fun p Γ=>match p.d with
 | .bool true=>.ok ⟨.leaf,.bool true⟩ Γ
 | .bool false=>fb Γ
 | _=>.no
def p8 (fa:F1):F1:=aX fa fun p Γ=>match p.d with
 | .bool b=>.ok ⟨.leaf,.bool (!b)⟩ Γ
 | _=>.no
theorem yU (h:tE K W (dN fa fb) U H Q):xp (tE K W fa) (tE K W fb) U H Q:=by
 refine xV h fun He O Fs Γ1 p v H1 G Fs1 nd A w=>?_
 have r:=A.own.rep
 obtain ⟨s,d⟩:=p
 cases r with
 | bl b=>
  cases b with
  | true=>exact ⟨true,rfl,j3 ⟨He,O,Fs1,Γ1,A.go,Wants.after w A.same A.newF⟩⟩
  | false=>exact ⟨false,rfl,j4 (Wants.scal w (.bl false) A.same A.env (fun a ha=>mem_append_right _ ha) nd A.newF)⟩
 | _=>exact w.elim
theorem BQ (h:tE K W (uu fa fb) U H Q):BI (tE K W fa) (tE K W fb) U H Q:=by
 refine xV h fun He O Fs Γ1 p v H1 G Fs1 nd A w=>?_
 have r:=A.own.rep
 obtain ⟨s,d⟩:=p
 cases r with
 | bl b=>
  cases b with
  | false=>exact ⟨false,rfl,j4 ⟨He,O,Fs1,Γ1,A.go,Wants.after w A.same A.newF⟩⟩
  | true=>exact ⟨true,rfl,j3 (Wants.scal w (.bl true) A.same A.env (fun a ha=>mem_append_right _ ha) nd A.newF)⟩
 | _=>exact w.elim
theorem yJ (h:tE K W (p8 fa) U H Q):xn (tE K W fa) U H Q:=by
 refine xV h fun He O Fs Γ1 p v H1 G Fs1 nd A w=>?_
 have r:=A.own.rep
 obtain ⟨s,d⟩:=p
 cases r with
 | bl b=>exact ⟨b,rfl,Wants.scal w (.bl _) A.same A.env (fun a ha=>mem_append_right _ ha) nd A.newF⟩
 | _=>exact w.elim
def uv (c:FB) (fa fb:F1):F1:=fun Γ=>(c Γ).bind fun b Γ'=>if b then fa Γ' else fb Γ'
theorem BR (h:tE K W (uv ga fa fb) U H Q):Gh (tT K W ga) (tE K W fa) (tE K W fb) U H Q:=by
 obtain ⟨He,O,Fs,Γ,E,h⟩:=h;refine ⟨He,O,Fs,Γ,E,?_⟩
 unfold uv at h
 cases e:ga Γ with
 | ok b Γ1=>
  rw [e] at h;intro H' Fs' s E' n
  have h':=Wants.after (o:=if b then fa Γ1 else fb Γ1) h s n
  cases b with
  | true=>exact j3 ⟨He,O,Fs',Γ1,E',h'⟩
  | false=>exact j4 ⟨He,O,Fs',Γ1,E',h'⟩
 | er c Γ1=>rw [e] at h;exact h
 | no=>rw [e] at h;exact h
def xY (g g':D->D->Option D) (fa fb fc:F1):F1:=aX fa fun p=>aX fb fun q=>fun Γ=>match g p.d q.d with
 | some (.bool true)=>if aT q.d then (fc Γ).bind fun z Γ'=>(match g' q.d z.d with | some d=>.ok ⟨.leaf,d⟩ Γ' | none=>.no) else .no
 | some (.bool false)=>.ok ⟨.leaf,.bool false⟩ Γ
 | _=>.no
theorem rQ {r r':R2} {g g':D->D->Option D} (hg:GOp K r g) (hg':GOp K r' g') (h:tE K W (xY g g' fa fb fc) U H Q):rq r r' (tE K W fa) (tE K W fb) (tE K W fc) U H Q:=by
 refine DQ h ?_
 intro He O Fs Γ2 p q v u H1 H2 G1 G2 Fs2 nd s1 s2 E new o1 o2 w;have sub:∀a∈O,a∈G2++(G1++O):=fun a ha=>mem_append_right _ (mem_append_right _ ha)
 have newF:∀a∈Fs2.flatten,a∈Fs.flatten\/H a=none:=fun a ha=>new a (mem_append_right _ (mem_append_right _ ha))
 cases e:g p.d q.d with
 | none=>rw [e] at w;exact w.elim
 | some d=>
  rw [e] at w;refine hg v u H2 _ p.d q.d d o1.rep o2.rep e fun z s=>?_
  cases s with
  | bl b=>
   cases b with
   | false=>exact ⟨false,rfl,j4 (Wants.scal w (.bl false) (s1.trans s2) E sub nd newF)⟩
   | true=>
    refine ⟨true,rfl,j3 ?_⟩
    have w:Wants K W He O Fs H U Q (if aT q.d then (fc Γ2).bind fun z Γ'=>(match g' q.d z.d with | some d=>.ok ⟨.leaf,d⟩ Γ' | none=>.no) else .no):=w
    cases hs:aT q.d with
    | false=>rw [hs] at w;exact w.elim
    | true=>
     rw [hs] at w;have w:Wants K W He O Fs H U Q ((fc Γ2).bind fun z Γ'=>(match g' q.d z.d with | some d=>.ok ⟨.leaf,d⟩ Γ' | none=>.no)):=w
     have su:=o2.rep.sc hs
     refine ⟨He,O,Fs2,Γ2,E.drop sub nd,?_⟩
     cases e3:fc Γ2 with
     | ok p3 Γ3=>
      rw [e3] at w;intro v3 H3 G3 Fs3 A3;have w:Wants K W He O Fs H U Q (match g' q.d p3.d with | some d=>.ok ⟨.leaf,d⟩ Γ3 | none=>.no):=w
      cases e4:g' q.d p3.d with
      | none=>rw [e4] at w;exact w.elim
      | some d4=>
       rw [e4] at w;exact hg' u v3 H3 Q q.d p3.d d4 su.rep A3.own.rep e4 fun z s=>Wants.scal w s ((s1.trans s2).trans A3.same) A3.env (fun a ha=>mem_append_right _ ha) nd fun a ha=>(A3.new a (mem_append_right _ ha)).elim (newF a) fun z=>.inr ((s1.trans s2).free z)
     | er c Γ3=>
      rw [e3] at w;exact fun H' Fs' s E'=>w H' Fs' ((s1.trans s2).trans s) E'
     | no=>rw [e3] at w;exact w
  | non=>exact w.elim
  | int i=>exact w.elim
  | str x=>exact w.elim
end
structure AftL (K:Fg) (He:Hp) (O:List Addr) (Fs:List (List Addr)) (H:Hp) (U:St) (Γ':Ev) (ps:List PV) (vs:List V) (H':Hp) (Gs Fs':List (List Addr)):Prop where
 same:Same H H'
 len1:vs.length=ps.length
 len2:Gs.length=ps.length
 env:EnvOk K He (Gs.flatten++O) Fs' H' U Γ'
 new:∀a∈Gs.flatten++Fs'.flatten,a∈Fs.flatten\/H a=none
 own:∀(i:Nat) v p G,vs[i]?=some v->ps[i]?=some p->Gs[i]?=some G->Own K (Gs.flatten++O++Fs'.flatten) H' p.s G v p.d
abbrev FL:=Ev->Out (List PV)
def t4 (K:Fg) (W:XW) (He:Hp) (O:List Addr) (Fs:List (List Addr)) (H:Hp) (U:St) (Q:List V->Hp->Prop) (o:Out (List PV)):Prop:=match o with
 | .ok ps Γ'=>∀vs H' Gs Fs',AftL K He O Fs H U Γ' ps vs H' Gs Fs'->Q vs H'
 | .er c Γ'=>∀H' Fs',Same H H'->EnvOk K He O Fs' H' U Γ'->W c U H'
 | .no=>False
def tA (K:Fg) (W:XW) (f:FL):TA:=fun U H Q=>∃He O Fs Γ,EnvOk K He O Fs H U Γ/\t4 K W He O Fs H U Q (f Γ)
def ae:FL:=fun Γ=>.ok [] Γ
def ab (fa:F1) (fl:FL):FL:=fun Γ=>(fa Γ).bind fun p Γ1=>(fl Γ1).bind fun ps Γ2=>.ok (p::ps) Γ2
section
variable {K:Fg} {W:XW} {U:St} {H:Hp} {Q:VK} {QL:List V->Hp->Prop} {fa fb:F1} {fl:FL}
theorem yK (h:tA K W ae U H QL):cC U H QL:=by
 obtain ⟨He,O,Fs,Γ,E,h⟩:=h;exact h [] H [] Fs ⟨Same.refl _,rfl,rfl,by simpa using E,fun a ha=>.inl (by simpa using ha),fun i v p G e=>by simp at e⟩
theorem kS (A B C:List α):(A++(B++C)).Perm (B++(A++C)):=by
 rw [<-append_assoc,<-append_assoc];exact List.Perm.append_right _ perm_append_comm
theorem EnvOk.perm {H:Hp} {O:List Addr} {Γ:Ev} (E:EnvOk K He O Fs H U Γ) (p:O'.Perm O):EnvOk K He O' Fs H U Γ:=E.drop (fun a ha=>p.mem_iff.mp ha) (p.nodup_iff.mpr E.ndO)
theorem Own.perm {H:Hp} {O:List Addr} {s:Sh} {G:List Addr} {v:V} {d:D} (h:Own K O H s G v d) (p:∀a∈O',a∈O):Own K O' H s G v d:=h.mono (Same.refl _) fun a ha=>.inl (p a ha)
theorem vu (h:tA K W (ab fa fl) U H QL):bo (tE K W fa) (tA K W fl) U H QL:=by
 obtain ⟨He,O,Fs,Γ,E,h⟩:=h;refine ⟨He,O,Fs,Γ,E,?_⟩
 unfold ab at h
 cases e:fa Γ with
 | ok p Γ1=>
  rw [e] at h;intro v H1 G1 Fs1 A1;refine ⟨He,G1++O,Fs1,Γ1,A1.env,?_⟩
  have h:t4 K W He O Fs H U QL ((fl Γ1).bind fun ps Γ2=>.ok (p::ps) Γ2):=h
  cases e2:fl Γ1 with
  | ok ps Γ2=>
   rw [e2] at h;intro vs H2 Gs Fs2 A2;have pm:((G1::Gs).flatten++O).Perm (Gs.flatten++(G1++O)):=by
    rw [flatten_cons,append_assoc];exact kS _ _ _
   refine h (v::vs) H2 (G1::Gs) Fs2 ⟨A1.same.trans A2.same,by simp [A2.len1],by simp [A2.len2],A2.env.perm pm,fun a ha=>?_,fun i u q G h1 h2 h3=>?_⟩
   ·rcases List.mem_append.mp ha with z | z
    ·rw [flatten_cons] at z
     rcases List.mem_append.mp z with z | z
     ·exact A1.new a (mem_append_left _ z)
     ·exact (A2.new a (mem_append_left _ z)).elim (fun y=>A1.new a (mem_append_right _ y)) fun y=>.inr (A1.same.free y)
    ·exact (A2.new a (mem_append_right _ z)).elim (fun y=>A1.new a (mem_append_right _ y)) fun y=>.inr (A1.same.free y)
   ·have sub:∀a∈(G1::Gs).flatten++O++Fs2.flatten,a∈Gs.flatten++(G1++O)++Fs2.flatten:=fun a ha=>by
     rcases List.mem_append.mp ha with z | z
     ·exact mem_append_left _ (pm.mem_iff.mp z)
     ·exact mem_append_right _ z
    cases i with
    | zero=>
     simp at h1 h2 h3
     subst h1 h2 h3;refine (A1.own.mono A2.same fun a ha=>?_).perm sub
     rcases List.mem_append.mp ha with z | z
     ·rcases List.mem_append.mp z with z | z
      ·exact (A2.new a (mem_append_left _ z)).elim (fun y=>.inl (mem_append_right _ y)) .inr
      ·exact .inl (mem_append_left _ z)
     ·exact (A2.new a (mem_append_right _ z)).elim (fun y=>.inl (mem_append_right _ y)) .inr
    | succ i=>
     simp at h1 h2 h3
     exact (A2.own i u q G h1 h2 h3).perm sub
  | er c Γ2=>
   rw [e2] at h;exact fun H2 Fs2 s E2=>h H2 Fs2 (A1.same.trans s) E2.dropL
  | no=>rw [e2] at h;exact h
 | er c Γ1=>rw [e] at h;exact h
 | no=>rw [e] at h;exact h
theorem AftL.reps {O:List Addr} {Gs:List (List Addr)} {Γ':Ev} {ps:List PV} (A:AftL K He O Fs H U Γ' ps vs H' Gs Fs'):Reps K H' vs (ps.map (·.d)):=by
 refine ⟨by rw [length_map];exact A.len1,fun i v d h1 h2=>?_⟩
 rw [getElem?_map] at h2
 cases e:ps[i]? with
 | none=>rw [e] at h2;cases h2
 | some p=>
  rw [e] at h2
  cases h2;have hi:=(List.getElem?_eq_some_iff.mp e).1
  exact (A.own i v p (Gs[i]'(by rw [A.len2];exact hi)) h1 e (getElem?_eq_getElem _)).rep
def bb (g:List D->Option D) (fl:FL):F1:=fun Γ=>(fl Γ).bind fun ps Γ'=>match g (ps.map (·.d)) with
 | some d=>.ok ⟨.leaf,d⟩ Γ'
 | none=>.no
def GCall (K:Fg) (r:List V->Hp->VK->Prop) (g:List D->Option D):Prop:=∀vs H Q ds d,Reps K H vs ds->g ds=some d->(∀v,Sc v d->Q v H)->r vs H Q
theorem nZ {r:List V->Hp->VK->Prop} {g:List D->Option D} (hg:GCall K r g) (h:tE K W (bb g fl) U H Q):Bf r (tA K W fl) U H Q:=by
 obtain ⟨He,O,Fs,Γ,E,h⟩:=h;refine ⟨He,O,Fs,Γ,E,?_⟩
 unfold bb at h
 cases e:fl Γ with
 | ok ps Γ'=>
  rw [e] at h;intro vs H' Gs Fs' A
  have h:Wants K W He O Fs H U Q (match g (ps.map (·.d)) with | some d=>.ok ⟨.leaf,d⟩ Γ' | none=>.no):=h
  cases e2:g (ps.map (·.d)) with
  | none=>rw [e2] at h;exact h.elim
  | some d=>
   rw [e2] at h;exact hg vs H' Q _ d A.reps e2 fun v s=>Wants.scal h s A.same A.env (fun a ha=>mem_append_right _ ha) E.ndO fun a ha=>A.new a (mem_append_right _ ha)
 | er c Γ'=>rw [e] at h;exact h
 | no=>rw [e] at h;exact h
theorem GCall.or {r r':List V->Hp->VK->Prop} {g g':List D->Option D} (h:GCall K r g) (h':GCall K r' g'):GCall K (fun xs H Q=>r xs H Q\/r' xs H Q) (fun ds=>(g ds).or (g' ds)):=by
 intro vs H Q ds d rs e k;have e:(g ds).or (g' ds)=some d:=e
 cases e1:g ds with
 | some z=>rw [e1] at e;cases e;exact .inl (h vs H Q ds _ rs e1 k)
 | none=>rw [e1] at e;exact .inr (h' vs H Q ds d rs (by simpa using e) k)
theorem Reps.one {d:D} (h:Reps K H vs [d]):∃v,vs=[v]/\Rep K H v d:=by
 obtain ⟨hl,h⟩:=h;match vs,hl with
 | [v],_=>exact ⟨v,rfl,h 0 v d rfl rfl⟩
theorem Reps.two {d e:D} (h:Reps K H vs [d,e]):∃v u,vs=[v,u]/\Rep K H v d/\Rep K H u e:=by
 obtain ⟨hl,h⟩:=h;match vs,hl with
 | [v,u],_=>exact ⟨v,u,rfl,h 0 v d rfl rfl,h 1 u e rfl rfl⟩
end
def xC:List D->Option D
 | [.list xs]=>some (.int xs.length)
 | [.tuple xs]=>some (.int xs.length)
 | _=>none
def tm:List D->Option D
 | [.str x]=>if x.length<=sizeLine then some (.int x.length) else none
 | _=>none
abbrev aK:List D->Option D:=fun ds=>(xC ds).or (tm ds)
theorem Ab {K:Fg}:GCall K (fun xs H Q=>(∃p ys,xs=[.ref p]/\(SqL K H p ys\/SqT K H p ys)/\Q (.int ys.length) H)\/∃z,xs=[.str z]/\z.length<=sizeLine/\Q (.int z.length) H) aK:=by
 refine GCall.or (g:=xC) (g':=tm) (r:=fun xs H Q=>∃p ys,xs=[.ref p]/\(SqL K H p ys\/SqT K H p ys)/\Q (.int ys.length) H) (r':=fun xs H Q=>∃z,xs=[.str z]/\z.length<=sizeLine/\Q (.int z.length) H) ?_ ?_
 ·intro vs H Q ds d rs e k
  match ds,e with
  | [.list xs],e=>
   obtain ⟨v,rfl,r⟩:=rs.one
   cases e
   cases r with
   | @lst p us _ hq hl _=>exact ⟨p,us,rfl,.inl hq,by rw [hl];exact k _ (.int _)⟩
  | [.tuple xs],e=>
   obtain ⟨v,rfl,r⟩:=rs.one
   cases e
   cases r with
   | @tup p us _ hq hl _=>exact ⟨p,us,rfl,.inr hq,by rw [hl];exact k _ (.int _)⟩
 ·intro vs H Q ds d rs e k
  match ds,e with
  | [.str x],e=>
   obtain ⟨v,rfl,r⟩:=rs.one;simp only [tm] at e
   split at e
   ·rename_i z
    cases e
    cases r;exact ⟨x,rfl,z,k _ (.int _)⟩
   ·cases e
def tq:List D->Option D
 | [.int i]=>some (.int i)
 | [.bool b]=>some (.int (if b then 1 else 0))
 | _=>none
theorem Ac {K:Fg}:GCall K (fun xs H Q=>(∃i,xs=[.int i]/\Q (.int i) H)\/∃k,xs=[.bl k]/\Q (.int (if k then 1 else 0)) H) tq:=by
 intro vs H Q ds d rs e k;match ds,e with
 | [.int i],e=>
  obtain ⟨v,rfl,r⟩:=rs.one
  cases e;cases r;exact .inl ⟨i,rfl,k _ (.int _)⟩
 | [.bool b],e=>
  obtain ⟨v,rfl,r⟩:=rs.one
  cases e;cases r;exact .inr ⟨b,rfl,k _ (.int _)⟩
def Hh:List D->Option D
 | [.int i,.int j]=>some (.int (if j>i then j else i))
 | _=>none
def qJ:List D->Option (List Bool)
 | []=>some []
 | .bool b::r=>(qJ r).map (b :: ·)
 | _=>none
theorem iA:∀{ds:List D} {bs:List Bool},qJ ds=some bs->ds=bs.map PyData.bool
 | [],bs,h=>by cases h;rfl
 | .bool b::r,bs,h=>by
  simp only [qJ] at h
  cases e:qJ r with
  | none=>rw [e] at h;cases h
  | some cs=>rw [e] at h;cases h;rw [iA e];rfl
 | .none::_,_,h=>by cases h
 | .int _::_,_,h=>by cases h
 | .str _::_,_,h=>by cases h
 | .list _::_,_,h=>by cases h
 | .tuple _::_,_,h=>by cases h
 | .dict _::_,_,h=>by cases h
def b3 (any:Bool):List D->Option D
 | [.list xs]=>(qJ xs).map fun bs=>.bool (if any then bs.any id else bs.all id)
 | _=>none
theorem g4 {K:Fg} {H:Hp}:∀{vs:List V} {bs:List Bool},Reps K H vs (bs.map PyData.bool)->vs=bs.map V.bl
 | [],[],_=>rfl
 | v::vs,b::bs,⟨hl,h⟩=>by
  have r:=h 0 v (.bool b) rfl rfl
  cases r;rw [g4 (bs:=bs) (vs:=vs) ⟨by simpa using hl,fun i v d h1 h2=>h (i+1) v d (by simpa using h1) (by simpa using h2)⟩]
  rfl
 | [],_::_,⟨hl,_⟩=>by simp at hl
 | _::_,[],⟨hl,_⟩=>by simp at hl
def yY (K:Fg) (any:Bool):List V->Hp->VK->Prop:=fun xs H Q=>∃(p:Addr) (bs:List Bool),xs=[.ref p]/\SqL K H p (bs.map V.bl)/\Q (.bl (if any then bs.any id else bs.all id)) H
theorem tj {K:Fg} {any:Bool}:GCall K (yY K any) (b3 any):=by
 intro vs H Q ds d rs e k;match ds,e with
 | [.list xs],e=>
  obtain ⟨v,rfl,r⟩:=rs.one;simp only [b3] at e
  cases eb:qJ xs with
  | none=>rw [eb] at e;cases e
  | some bs=>
   rw [eb] at e
   cases e;have:=iA eb
   subst this
   cases r with
   | @lst p us _ hq hl hr=>
    have:=g4 ⟨hl,hr⟩
    subst this;exact ⟨p,bs,rfl,hq,k _ (.bl _)⟩
section
variable {X:Cx}
theorem jy:∀{its:List Value},Vals (bs.map V.bl) its->its=bs.map Value.bool:=by
 induction bs with
 | nil=>intro its h;cases h;rfl
 | cons b bs ih=>
  intro its h
  cases h with
  | cons r t=>
   cases (show _=Value.bool b from r)
   rw [ih t];rfl
theorem jl (bs:List Bool):(List.range bs.length).all (fun i=>bs.getD i false)=bs.all id:=by
 rw [Bool.eq_iff_iff,all_eq_true,all_eq_true];constructor
 ·intro h b hb
  obtain ⟨i,hi,e⟩:=List.mem_iff_getElem.mp hb;have:=h i (List.mem_range.mpr hi)
  rw [getD_eq_getElem?_getD,getElem?_eq_getElem hi] at this;rw [<-e];simpa using this
 ·intro h i hi
  have hi:=List.mem_range.mp hi
  rw [getD_eq_getElem?_getD,getElem?_eq_getElem hi];exact h _ (getElem_mem hi)
theorem pE (bs:List Bool):(List.range bs.length).any (fun i=>bs.getD i false)=bs.any id:=by
 rw [Bool.eq_iff_iff,any_eq_true,any_eq_true];constructor
 ·rintro ⟨i,hi,h⟩
  have hi:=List.mem_range.mp hi
  rw [getD_eq_getElem?_getD,getElem?_eq_getElem hi] at h;exact ⟨_,getElem_mem hi,h⟩
 ·rintro ⟨b,hb,h⟩
  obtain ⟨i,hi,e⟩:=List.mem_iff_getElem.mp hb;refine ⟨i,List.mem_range.mpr hi,?_⟩
  rw [getD_eq_getElem?_getD,getElem?_eq_getElem hi,e];exact h
theorem fO {prog:Program} {w:World}:TruthOf prog w A (fun i v=>(bs.map Value.bool).toArray[i]?=some v) (fun i=>bs.getD i false):=by
 intro i v s Q E hP hQ;simp only [getElem?_toArray,getElem?_map] at hP
 cases e:bs[i]? with
 | none=>rw [e] at hP;cases hP
 | some b=>
  rw [e] at hP
  cases hP;have hQ:Q (bs.getD i false) s:=hQ
  rw [getD_eq_getElem?_getD,e] at hQ;exact wpAny_truthy_bool hQ
theorem qt (hc:X.calm=true):CallR X (.builtin "all") (yY X.K false):=by
 intro pins s U H vs us Q I rv h;obtain ⟨p,bs,rfl,hq,q⟩:=h;obtain ⟨u,rfl,ru⟩:=vals1 rv
 cases ru;obtain ⟨its,rv,pl,hz⟩:=I.list hq;have:=jy rv
 subst this;have hd:=I.ok.hd hc
 refine call_all_walk (wpAny_pyIter_list pl.isList ?_)
 have ne:p≠s.heap.objs.size:=by
  obtain ⟨o,n,e,_⟩:=pl;exact Nat.ne_of_lt (Heap.lt_size e)
 refine ⟨s.heap.objs.size,_,_,_,_,_,fun i=>bs.getD i false,rfl,Walks.list (prog:=X.prog) (w:=X.w) (A:=X.A.in1) hd s.heap.objs.size p ne (bs.map Value.bool).toArray,⟨⟨_,Heap.get?_push_size _ rfl,rfl,rfl⟩,pl.isList.at fun o e=>Heap.get?_push_of_some _ e⟩,fO,fun h' tk hk=>?_⟩
 refine ⟨.bl _,H,I.kept (h':=h') (t':=tk) fun b o e=>hk b o (fun z=>?_) (Heap.get?_push_of_some _ e),rfl,?_⟩
 ·have z:b=s.heap.objs.size:=by simpa using z
  exact absurd (Heap.lt_size e) (by rw [z];exact Nat.lt_irrefl _)
 ·rw [size_toArray,length_map,jl]
  exact q
theorem qq (hc:X.calm=true):CallR X (.builtin "any") (yY X.K true):=by
 intro pins s U H vs us Q I rv h;obtain ⟨p,bs,rfl,hq,q⟩:=h;obtain ⟨u,rfl,ru⟩:=vals1 rv
 cases ru;obtain ⟨its,rv,pl,hz⟩:=I.list hq;have:=jy rv
 subst this;have hd:=I.ok.hd hc
 refine call_any_walk (wpAny_pyIter_list pl.isList ?_)
 have ne:p≠s.heap.objs.size:=by
  obtain ⟨o,n,e,_⟩:=pl;exact Nat.ne_of_lt (Heap.lt_size e)
 refine ⟨s.heap.objs.size,_,_,_,_,_,fun i=>bs.getD i false,rfl,Walks.list (prog:=X.prog) (w:=X.w) (A:=X.A.in1) hd s.heap.objs.size p ne (bs.map Value.bool).toArray,⟨⟨_,Heap.get?_push_size _ rfl,rfl,rfl⟩,pl.isList.at fun o e=>Heap.get?_push_of_some _ e⟩,fO,fun h' tk hk=>?_⟩
 refine ⟨.bl _,H,I.kept (h':=h') (t':=tk) fun b o e=>hk b o (fun z=>?_) (Heap.get?_push_of_some _ e),rfl,?_⟩
 ·have z:b=s.heap.objs.size:=by simpa using z
  exact absurd (Heap.lt_size e) (by rw [z];exact Nat.lt_irrefl _)
 ·rw [size_toArray,length_map,pE]
  exact q
end
def mn (s:Sh) (j:Nat) (d:D):Option Sh:=match s with
 | .leaf=>some .leaf
 | .view=>some (if aT d then .leaf else .view)
 | .lst s=>some s
 | .tup ss=>ss[j]?
def af (fa fb:F1):F1:=aX fa fun p=>aX fb fun q=>fun Γ=>match q.d with
 | .int i=>(match p.d with
  | .list ds=>(match eE ds.length i with
   | some j=>(match ds[j]? with
    | some d=>(match mn p.s j d with
     | some s=>.ok ⟨s,d⟩ Γ
     | none=>.no)
    | none=>.no)
   | none=>.no)
  | .tuple ds=>(match eE ds.length i with
   | some j=>(match ds[j]? with
    | some d=>(match mn p.s j d with
     | some s=>.ok ⟨s,d⟩ Γ
     | none=>.no)
    | none=>.no)
   | none=>.no)
  | .str z=>if z.length<=sizeLine then (match fq z.cps.toList i with
   | some c=>.ok ⟨.leaf,.str ⟨#[c]⟩⟩ Γ
   | none=>.no) else .no
  | _=>.no)
 | _=>.no
theorem Own.item {K:Fg} {O:List Addr} {H:Hp} {s s':Sh} {G:List Addr} {p:Addr} {ds:List D} {j:Nat} {d:D} (h:Own K O H s G (.ref p) (.list ds)) (hd:ds[j]?=some d) (hs:mn s j d=some s') :
  ∃vs v G',SqL K H p vs/\vs.length=ds.length/\vs[j]?=some v/\(∀a∈G',a∈G)/\G'.Nodup/\Own K O H s' G' v d:=by
 have hi:=(List.getElem?_eq_some_iff.mp hd).1
 cases h with
 | view r=>
  cases r with
  | @lst _ vs _ hq hl hr=>
   have hv:vs[j]?=some (vs[j]'(by omega)):=getElem?_eq_getElem _
   have r':=hr j _ d hv hd
   simp only [mn,Option.some.injEq] at hs
   cases e:aT d with
   | true=>
    rw [e] at hs
    cases hs;exact ⟨vs,_,[],hq,hl,hv,(fun _ z=>nomatch z),nodup_nil,.leaf (r'.sc e).rep⟩
   | false=>
    rw [e] at hs
    cases hs;exact ⟨vs,_,[],hq,hl,hv,(fun _ z=>nomatch z),nodup_nil,.view r'⟩
 | leaf r=>
  cases r with
  | @lst _ vs _ hq hl hr=>
   have hv:vs[j]?=some (vs[j]'(by omega)):=getElem?_eq_getElem _
   cases hs;exact ⟨vs,_,[],hid_le.seq hq,hl,hv,(fun _ z=>nomatch z),nodup_nil,.leaf (hr j _ d hv hd)⟩
 | @lst s₀ _ vs _ Fs hv hp hl hf nd hr=>
  have hv':vs[j]?=some (vs[j]'(by omega)):=getElem?_eq_getElem _
  have hF:Fs[j]?=some (Fs[j]'(by omega)):=getElem?_eq_getElem _
  cases hs;refine ⟨vs,_,_,.of hp,hl,hv',fun a ha=>mem_cons_of_mem _ (ja hF ha),?_,hr j _ d _ hv' hd hF⟩
  exact ((List.nodup_cons.mp nd).2).sublist (List.sublist_flatten_of_mem (mem_of_getElem? hF))
theorem Own.itemT {K:Fg} {O:List Addr} {H:Hp} {s s':Sh} {G:List Addr} {p:Addr} {ds:List D} {j:Nat} {d:D} (h:Own K O H s G (.ref p) (.tuple ds)) (hd:ds[j]?=some d) (hs:mn s j d=some s') :
  ∃vs v G',SqT K H p vs/\vs.length=ds.length/\vs[j]?=some v/\(∀a∈G',a∈G)/\G'.Nodup/\Own K O H s' G' v d:=by
 have hi:=(List.getElem?_eq_some_iff.mp hd).1
 cases h with
 | view r=>
  cases r with
  | @tup _ vs _ hq hl hr=>
   have hv:vs[j]?=some (vs[j]'(by omega)):=getElem?_eq_getElem _
   have r':=hr j _ d hv hd
   simp only [mn,Option.some.injEq] at hs
   cases e:aT d with
   | true=>
    rw [e] at hs
    cases hs;exact ⟨vs,_,[],hq,hl,hv,(fun _ z=>nomatch z),nodup_nil,.leaf (r'.sc e).rep⟩
   | false=>
    rw [e] at hs
    cases hs;exact ⟨vs,_,[],hq,hl,hv,(fun _ z=>nomatch z),nodup_nil,.view r'⟩
 | leaf r=>
  cases r with
  | @tup _ vs _ hq hl hr=>
   have hv:vs[j]?=some (vs[j]'(by omega)):=getElem?_eq_getElem _
   cases hs;exact ⟨vs,_,[],iC hid_le hq,hl,hv,(fun _ z=>nomatch z),nodup_nil,.leaf (hr j _ d hv hd)⟩
 | @tup ss _ vs _ Fs hv hp hn hl hf hl2 nd hr=>
  have hv':vs[j]?=some (vs[j]'(by omega)):=getElem?_eq_getElem _
  have hF:Fs[j]?=some (Fs[j]'(by omega)):=getElem?_eq_getElem _
  have hs:ss[j]?=some s':=hs
  refine ⟨vs,_,_,.of hp,hl,hv',fun a ha=>ja hF ha,?_,hr j _ d _ _ hv' hd hF hs⟩
  exact nd.sublist (List.sublist_flatten_of_mem (mem_of_getElem? hF))
theorem Wants.part {K:Fg} {W:XW} {H:Hp} {O G G':List Addr} {Γ':Ev} {Q:VK} {s:Sh} {v:V} {d:D} (h:Wants K W He O Fs H U Q (.ok ⟨s,d⟩ Γ')) (e:Same H H2)
  (E:EnvOk K He (G++O) Fs2 H2 U Γ') (sub:∀a∈G',a∈G) (nd:G'.Nodup) (new:∀a∈G++Fs2.flatten,a∈Fs.flatten\/H a=none) (o:Own K (G++O++Fs2.flatten) H2 s G' v d):Q v H2:=by
 have sub2:∀a∈G'++O,a∈G++O:=fun a ha=>by
  rcases List.mem_append.mp ha with z | z
  ·exact mem_append_left _ (sub a z)
  ·exact mem_append_right _ z
 obtain ⟨n1,n2,n3⟩:=List.nodup_append.mp E.ndO;refine h v H2 G' Fs2 ⟨e,E.drop sub2 (List.nodup_append.mpr ⟨nd,n2,fun a ha b hb=>n3 a (sub a ha) b hb⟩),fun a ha=>new a ?_,o.perm fun a ha=>?_⟩
 ·rcases List.mem_append.mp ha with z | z
  ·exact mem_append_left _ (sub a z)
  ·exact mem_append_right _ z
 ·rcases List.mem_append.mp ha with z | z
  ·exact mem_append_left _ (sub2 a z)
  ·exact mem_append_right _ z
theorem tX {β:Type} {xs:List α} {ys:List β} {i:Int} {j:Nat} {v:α} (hl:xs.length=ys.length) (h:eE ys.length i=some j) (hv:xs[j]?=some v):fq xs i=some v:=by
 unfold fq;rw [hl,h];exact hv
section
variable {K:Fg} {W:XW} {U:St} {H:Hp} {Q:VK} {fa fb:F1}
theorem yN (h:tE K W (af fa fb) U H Q):nQ (B1 K) (tE K W fa) (tE K W fb) U H Q:=by
 refine DQ h ?_
 intro He O Fs Γ2 p q v u H1 H2 G1 G2 Fs2 nd s1 s2 E new o1 o2 w;obtain ⟨ps,pd⟩:=p;obtain ⟨qs,qd⟩:=q;have ri:=o2.rep
 cases qd<;>try exact w.elim
 rename_i i
 cases ri;have E':EnvOk K He ((G2++G1)++O) Fs2 H2 U Γ2:=by rw [append_assoc];exact E
 have new':∀a∈(G2++G1)++Fs2.flatten,a∈Fs.flatten\/H a=none:=fun a ha=>new a (by rw [<-append_assoc];exact ha)
 have o1':Own K ((G2++G1)++O++Fs2.flatten) H2 ps G1 v pd:=o1.perm fun a ha=>by rw [append_assoc G2] at ha;exact ha
 have rp:=o1.rep
 cases pd with
 | list ds=>
  obtain ⟨p0,rfl⟩:∃p0,v=.ref p0:=by cases rp;exact ⟨_,rfl⟩
  have w:Wants K W He O Fs H U Q (match eE ds.length i with | some j=>(match ds[j]? with | some d=>(match mn ps j d with | some s=>.ok ⟨s,d⟩ Γ2 | none=>.no) | none=>.no) | none=>.no):=w
  cases e1:eE ds.length i with
  | none=>rw [e1] at w;exact w.elim
  | some j=>
   rw [e1] at w;have w:Wants K W He O Fs H U Q (match ds[j]? with | some d=>(match mn ps j d with | some s=>.ok ⟨s,d⟩ Γ2 | none=>.no) | none=>.no):=w
   cases e2:ds[j]? with
   | none=>rw [e2] at w;exact w.elim
   | some d=>
    rw [e2] at w;have w:Wants K W He O Fs H U Q (match mn ps j d with | some s=>.ok ⟨s,d⟩ Γ2 | none=>.no):=w
    cases e3:mn ps j d with
    | none=>rw [e3] at w;exact w.elim
    | some s=>
     rw [e3] at w;obtain ⟨vs,v',G',h1,h2,h3,h4,h5,h6⟩:=o1'.item e2 e3
     exact .inl ⟨p0,vs,i,v',rfl,rfl,h1,tX h2 e1 h3,Wants.part w (s1.trans s2) E' (fun a ha=>mem_append_right _ (h4 a ha)) h5 new' h6⟩
 | tuple ds=>
  obtain ⟨p0,rfl⟩:∃p0,v=.ref p0:=by cases rp;exact ⟨_,rfl⟩
  have w:Wants K W He O Fs H U Q (match eE ds.length i with | some j=>(match ds[j]? with | some d=>(match mn ps j d with | some s=>.ok ⟨s,d⟩ Γ2 | none=>.no) | none=>.no) | none=>.no):=w
  cases e1:eE ds.length i with
  | none=>rw [e1] at w;exact w.elim
  | some j=>
   rw [e1] at w;have w:Wants K W He O Fs H U Q (match ds[j]? with | some d=>(match mn ps j d with | some s=>.ok ⟨s,d⟩ Γ2 | none=>.no) | none=>.no):=w
   cases e2:ds[j]? with
   | none=>rw [e2] at w;exact w.elim
   | some d=>
    rw [e2] at w;have w:Wants K W He O Fs H U Q (match mn ps j d with | some s=>.ok ⟨s,d⟩ Γ2 | none=>.no):=w
    cases e3:mn ps j d with
    | none=>rw [e3] at w;exact w.elim
    | some s=>
     rw [e3] at w;obtain ⟨vs,v',G',h1,h2,h3,h4,h5,h6⟩:=o1'.itemT e2 e3
     exact .inr (.inl ⟨p0,vs,i,v',rfl,rfl,h1,tX h2 e1 h3,Wants.part w (s1.trans s2) E' (fun a ha=>mem_append_right _ (h4 a ha)) h5 new' h6⟩)
 | str z=>
  cases rp;have w:Wants K W He O Fs H U Q (if z.length<=sizeLine then (match fq z.cps.toList i with | some c=>.ok ⟨.leaf,.str ⟨#[c]⟩⟩ Γ2 | none=>.no) else .no):=w
  by_cases hz:z.length<=sizeLine
  ·rw [if_pos hz] at w
   cases e1:fq z.cps.toList i with
   | none=>rw [e1] at w;exact w.elim
   | some c=>
    rw [e1] at w;exact .inr (.inr ⟨z,i,c,rfl,rfl,hz,e1,Wants.scal w (.str _) (s1.trans s2) E (fun a ha=>mem_append_right _ (mem_append_right _ ha)) nd fun a ha=>new a (mem_append_right _ (mem_append_right _ ha))⟩)
  ·rw [if_neg hz] at w
   exact w.elim
 | none=>exact w.elim
 | bool b=>exact w.elim
 | int k=>exact w.elim
 | dict k=>exact w.elim
end
theorem lp (s:Sh):∀Gs:List (List Addr),((Gs.map (aJ s)).flatten).Sublist Gs.flatten
 | []=>List.Sublist.refl _
 | G::Gs=>by
  simp only [map_cons,flatten_cons]
  refine List.Sublist.append ?_ (lp s Gs)
  unfold aJ;split
  ·exact List.nil_sublist _
  ·exact List.Sublist.refl _
theorem jo:∀Gs:List (List Addr),(Gs.map (aJ .leaf)).flatten=[]
 | []=>rfl
 | _::Gs=>by simp only [map_cons,flatten_cons,jo Gs];rfl
section
variable {K:Fg} {W:XW} {U:St} {He H H':Hp} {O:List Addr} {Fs Fs' Gs:List (List Addr)} {Γ':Ev} {ps:List PV} {vs:List V} {Q:VK}
theorem AftL.newList {s:Sh} {p:Addr} (A:AftL K He O Fs H U Γ' ps vs H' Gs Fs') (hs:s.isView=false) (hc:ps.all (T.coer s)=true) (hp:H' p=none) :
  Aft K He O Fs H U Γ' ⟨.lst s,.list (ps.map (·.d))⟩ (.ref p) (bA H' p (.lst vs)) (p::(Gs.map (aJ s)).flatten) Fs':=by
 obtain ⟨n1,n2,n3⟩:=List.nodup_append.mp A.env.ndO;obtain ⟨m1,m2,m3⟩:=List.nodup_append.mp A.env.nd;have hsub:=lp s Gs
 have E1:EnvOk K He ((Gs.map (aJ s)).flatten++O) Fs' H' U Γ':=A.env.drop (fun a ha=>by
   rcases List.mem_append.mp ha with z | z
   ·exact mem_append_left _ (hsub.subset z)
   ·exact mem_append_right _ z) (List.nodup_append.mpr ⟨n1.sublist hsub,n2,fun a ha b hb=>n3 a (hsub.subset ha) b hb⟩)
 have E2:=E1.hide (G:=[p]) (fE (o:=.lst vs) hp) (by simp) (fun a ha=>by simp at ha;rw [ha];exact hp) (fun a ha=>by simp at ha;rw [ha,fL];exact Option.some_ne_none _)
 have pn:∀{a},a∈Gs.flatten++O++Fs'.flatten->a≠p:=fun {a} ha z=>A.env.inH a ha (by rw [z];exact hp)
 refine ⟨A.same.trans (fE hp),E2,fun a ha=>?_,?_⟩
 ·rcases List.mem_append.mp ha with z | z
  ·rcases List.mem_cons.mp z with z | z
   ·rw [z];exact .inr (A.same.free hp)
   ·exact A.new a (mem_append_left _ (hsub.subset z))
  ·exact A.new a (mem_append_right _ z)
 ·refine .lst hs fL (by rw [length_map];exact A.len1) (by rw [length_map,length_map];exact A.len2) ?_ fun i v d F h1 h2 h3=>?_
  ·refine List.nodup_cons.mpr ⟨fun z=>pn (mem_append_left _ (mem_append_left _ (hsub.subset z))) rfl,n1.sublist hsub⟩
  ·rw [getElem?_map] at h2 h3
   cases e2:ps[i]? with
   | none=>rw [e2] at h2;cases h2
   | some q=>
    cases e3:Gs[i]? with
    | none=>rw [e3] at h3;cases h3
    | some G=>
     rw [e2] at h2;rw [e3] at h3
     cases h2
     cases h3;have cq:T.coer s q=true:=List.all_eq_true.mp hc q (mem_of_getElem? e2)
     have o1:=(A.own i v q G h1 e2 e3).mono (O':=p::(Gs.flatten++O++Fs'.flatten)) (fE (o:=.lst vs) hp) fun a ha=>by
      rcases List.mem_cons.mp ha with z | z
      ·rw [z];exact .inr hp
      ·exact .inl z
     refine o1.coer cq (fun a ha=>?_) fun a ha hO=>?_
     ·rw [append_assoc] at ha
      rcases List.mem_append.mp ha with z | z
      ·rcases List.mem_cons.mp z with z | z
       ·rw [z];exact mem_cons_self
       ·exact mem_cons_of_mem _ (mem_append_left _ (mem_append_left _ (hsub.subset z)))
      ·rcases List.mem_append.mp z with z | z
       ·exact mem_cons_of_mem _ (mem_append_left _ (mem_append_right _ z))
       ·exact mem_cons_of_mem _ (mem_append_right _ z)
     ·have hG:a∈Gs.flatten:=ja e3 ha
      cases s with
      | leaf=>
       rw [jo] at hO;exfalso
       rw [append_assoc] at hO;rcases List.mem_append.mp hO with z | z
       ·have z:a=p:=by simpa using z
        exact pn (mem_append_left _ (mem_append_left _ hG)) z
       ·rcases List.mem_append.mp z with z | z
        ·exact n3 a hG a z rfl
        ·exact m3 a (mem_append_left _ hG) a z rfl
      | view=>cases hs
      | lst s=>exact ha
      | tup ss=>exact ha
def br (s:Sh) (fl:FL):F1:=fun Γ=>(fl Γ).bind fun ps Γ'=>if !s.isView&&ps.all (T.coer s)&&decide (ps.length<=sizeLine) then .ok ⟨.lst s,.list (ps.map (·.d))⟩ Γ' else .no
theorem vm {s:Sh} {fl:FL} (h:tE K W (br s fl) U H Q):jK (tA K W fl) U H Q:=by
 obtain ⟨He,O,Fs,Γ,E,h⟩:=h;refine ⟨He,O,Fs,Γ,E,?_⟩
 unfold br at h
 cases e:fl Γ with
 | ok ps Γ'=>
  rw [e] at h;intro vs H' Gs Fs' A
  have h:Wants K W He O Fs H U Q (if (!s.isView&&ps.all (T.coer s)&&decide (ps.length<=sizeLine))=true then .ok ⟨.lst s,.list (ps.map (·.d))⟩ Γ' else .no):=h
  by_cases hc:(!s.isView&&ps.all (T.coer s)&&decide (ps.length<=sizeLine))=true
  ·rw [if_pos hc] at h
   simp only [Bool.and_eq_true,decide_eq_true_eq,Bool.not_eq_true'] at hc
   exact ⟨by rw [A.len1];exact hc.2,fun p hp=>h _ _ _ _ (A.newList hc.1.1 hc.1.2 hp)⟩
  ·rw [if_neg hc] at h
   exact h.elim
 | er c Γ'=>rw [e] at h;exact h
 | no=>rw [e] at h;exact h
def uU (p:PV):Sh:=if p.s.isView then .leaf else p.s
def tok (p:PV):Bool:=!p.s.isView||aT p.d
theorem AftL.newTup {p:Addr} (A:AftL K He O Fs H U Γ' ps vs H' Gs Fs') (hc:ps.all tok=true) (hp:H' p=none) :
  Aft K He O Fs H U Γ' ⟨.tup (ps.map uU),.tuple (ps.map (·.d))⟩ (.ref p) (bA H' p (.tup vs)) Gs.flatten Fs':=by
 obtain ⟨n1,n2,n3⟩:=List.nodup_append.mp A.env.ndO;have pn:p∉Gs.flatten++O++Fs'.flatten:=fun ha=>A.env.inH p ha hp
 refine ⟨A.same.trans (fE hp),A.env.grow (fE hp),A.new,?_⟩
 refine .tup (fun s hs=>?_) fL pn (by rw [length_map];exact A.len1) (by rw [length_map];exact A.len2) (by rw [length_map,length_map]) n1 fun i v d F s h1 h2 h3 h4=>?_
 ·obtain ⟨q,_,rfl⟩:=List.mem_map.mp hs
  unfold uU;split
  ·rfl
  ·rename_i z;simpa using z
 ·rw [getElem?_map] at h2 h4
  cases e2:ps[i]? with
  | none=>rw [e2] at h2;cases h2
  | some q=>
   rw [e2] at h2 h4
   cases h2
   cases h4;have cq:tok q=true:=List.all_eq_true.mp hc q (mem_of_getElem? e2)
   have o1:=(A.own i v q F h1 e2 h3).mono (O':=Gs.flatten++O++Fs'.flatten) (fE (o:=.tup vs) hp) fun a ha=>.inl ha
   unfold uU
   cases hv:q.s.isView with
   | false=>exact o1
   | true=>
    unfold tok at cq;rw [hv] at cq;obtain ⟨s,d⟩:=q
    cases s with
    | view=>
     cases o1 with
     | view r=>exact .leaf (r.sc (by simpa using cq)).rep
    | _=>cases hv
def bQ (fl:FL):F1:=fun Γ=>(fl Γ).bind fun ps Γ'=>if ps.all tok&&decide (ps.length<=sizeLine) then .ok ⟨.tup (ps.map uU),.tuple (ps.map (·.d))⟩ Γ' else .no
theorem yG {fl:FL} (h:tE K W (bQ fl) U H Q):jJ (tA K W fl) U H Q:=by
 obtain ⟨He,O,Fs,Γ,E,h⟩:=h;refine ⟨He,O,Fs,Γ,E,?_⟩
 unfold bQ at h
 cases e:fl Γ with
 | ok ps Γ'=>
  rw [e] at h;intro vs H' Gs Fs' A
  have h:Wants K W He O Fs H U Q (if (ps.all tok&&decide (ps.length<=sizeLine))=true then .ok ⟨.tup (ps.map uU),.tuple (ps.map (·.d))⟩ Γ' else .no):=h
  by_cases hc:(ps.all tok&&decide (ps.length<=sizeLine))=true
  ·rw [if_pos hc] at h
   simp only [Bool.and_eq_true,decide_eq_true_eq] at hc
   exact ⟨by rw [A.len1];exact hc.2,fun p hp=>h _ _ _ _ (A.newTup hc.1 hp)⟩
  ·rw [if_neg hc] at h
   exact h.elim
 | er c Γ'=>rw [e] at h;exact h
 | no=>rw [e] at h;exact h
end
def dO (p:PV) (ds:List D):Bool:=!p.s.isView||ds.all aT
theorem Own.items {K:Fg} {O:List Addr} {H:Hp} {s:Sh} {G:List Addr} {v:V} {ds:List D} (h:Own K O H s G v (.list ds)) (hc:dO ⟨s,.list ds⟩ ds=true) (h1:∀a∈O',a∈O) (h2:∀a∈G,a∉O') :
  ∃p vs,v=.ref p/\SqL K H p vs/\(s.isView=false->SqL K (cF H O') p vs)/\Reps K (cF H O') vs ds:=by
 have hr:=h.rep
 cases hv:s.isView with
 | false=>
  have r:=h.freeze hv h1 h2
  cases r with
  | @lst p vs _ hq hl hr=>exact ⟨p,vs,rfl,hid_le.seq hq,fun _=>hq,hl,hr⟩
 | true=>
  unfold dO at hc;have hc:ds.all aT=true:=by simpa [hv] using hc
  cases hr with
  | @lst p vs _ hq hl hr=>exact ⟨p,vs,rfl,hq,nofun,hl,fun i v d e1 e2=>((hr i v d e1 e2).sc (List.all_eq_true.mp hc d (mem_of_getElem? e2))).rep⟩
theorem Own.itemsT {K:Fg} {O:List Addr} {H:Hp} {s:Sh} {G:List Addr} {v:V} {ds:List D} (h:Own K O H s G v (.tuple ds)) (hc:dO ⟨s,.tuple ds⟩ ds=true) (h1:∀a∈O',a∈O) (h2:∀a∈G,a∉O') :
  ∃p vs,v=.ref p/\SqT K H p vs/\(s.isView=false->SqT K (cF H O') p vs)/\Reps K (cF H O') vs ds:=by
 have hr:=h.rep
 cases hv:s.isView with
 | false=>
  have r:=h.freeze hv h1 h2
  cases r with
  | @tup p vs _ hq hl hr=>exact ⟨p,vs,rfl,iC hid_le hq,fun _=>hq,hl,hr⟩
 | true=>
  unfold dO at hc;have hc:ds.all aT=true:=by simpa [hv] using hc
  cases hr with
  | @tup p vs _ hq hl hr=>exact ⟨p,vs,rfl,hq,nofun,hl,fun i v d e1 e2=>((hr i v d e1 e2).sc (List.all_eq_true.mp hc d (mem_of_getElem? e2))).rep⟩
theorem Ed {K:Fg} {H:Hp} {O:List Addr} {Γ1:Ev} {ds:List D} {p:Addr} (E:EnvOk K He O Fs1 H1 U Γ1) (s:Same H H1) (n:∀a∈Fs1.flatten,a∈Fs.flatten\/H a=none)
  (hr:Reps K (cF H1 (O++Fs1.flatten)) vs ds) (hp:H1 p=none):Aft K He O Fs H U Γ1 ⟨.lst .leaf,.list ds⟩ (.ref p) (bA H1 p (.lst vs)) [p] Fs1:=by
 have E2:=E.hide (G:=[p]) (fE (o:=.lst vs) hp) (by simp) (fun a ha=>by simp at ha;rw [ha];exact hp) (fun a ha=>by simp at ha;rw [ha,fL];exact Option.some_ne_none _)
 refine ⟨s.trans (fE hp),E2,fun a ha=>?_,?_⟩
 ·rcases List.mem_append.mp ha with z | z
  ·have z:a=p:=by simpa using z
   rw [z];exact .inr (s.free hp)
  ·exact n a z
 ·have fl:(List.replicate ds.length ([]:List Addr)).flatten=[]:=by simp
  have:[p]=p::(List.replicate ds.length ([]:List Addr)).flatten:=by rw [fl]
  rw [this];refine .lst rfl fL hr.1 (by simp) (by rw [fl];simp) fun i v d F h1 h2 h3=>?_
  rw [getElem?_replicate] at h3;split at h3
  ·cases h3
   refine .leaf ((hr.2 i v d h1 h2).mono (ug (fE hp) fun a ha=>?_))
   rw [fl] at ha;rcases List.mem_append.mp ha with z | z
   ·rcases List.mem_append.mp z with z | z
    ·have z:a=p:=by simpa using z
     rw [z];exact .inr hp
    ·exact .inl (mem_append_left _ z)
   ·exact .inl (mem_append_right _ z)
  ·cases h3
def i9 (fa:F1):F1:=aX fa fun p Γ=>match p.d with
 | .list ds=>if dO p ds then .ok ⟨.lst .leaf,.list ds⟩ Γ else .no
 | .tuple ds=>if dO p ds then .ok ⟨.lst .leaf,.list ds⟩ Γ else .no
 | _=>.no
section
variable {K:Fg} {W:XW} {U:St} {H:Hp} {Q:VK} {fa fb:F1}
theorem Aft.disj {O G:List Addr} {Γ1:Ev} {p:PV} {v:V} (A:Aft K He O Fs H U Γ1 p v H1 G Fs1):∀a∈G,a∉O++Fs1.flatten:=fun a ha z=>by
 have nd:=A.env.nd
 rw [append_assoc] at nd;exact (List.nodup_append.mp nd).2.2 a ha a z rfl
theorem jL {G O:List Addr}:∀a∈O++F,a∈G++O++F:=fun a ha=>by
 rw [append_assoc];exact mem_append_right _ ha
theorem pB (h:tE K W (i9 fa) U H Q):Bf (fun xs H Q=>∃p ys,xs=[.ref p]/\(SqL K H p ys\/SqT K H p ys)/\∀l,H l=none->Q (.ref l) (bA H l (.lst ys))) (tA K W (ab fa ae)) U H Q:=by
 have h1:tE K W fa U H fun x H1=>∃p ys,x=.ref p/\(SqL K H1 p ys\/SqT K H1 p ys)/\∀l,H1 l=none->Q (.ref l) (bA H1 l (.lst ys)):=by
  refine xV h fun He O Fs Γ1 p v H1 G Fs1 nd A w=>?_
  obtain ⟨s,d⟩:=p
  cases d with
  | list ds=>
   have w:Wants K W He O Fs H U Q (if dO ⟨s,.list ds⟩ ds then .ok ⟨.lst .leaf,.list ds⟩ Γ1 else .no):=w
   cases hc:dO ⟨s,.list ds⟩ ds with
   | false=>rw [hc] at w;exact w.elim
   | true=>
    rw [hc] at w;obtain ⟨p,vs,rfl,hq,_,hr⟩:=A.own.items (O':=O++Fs1.flatten) hc jL A.disj
    exact ⟨p,vs,rfl,.inl hq,fun l hl=>w _ _ _ _ (Ed A.go A.same A.newF hr hl)⟩
  | tuple ds=>
   have w:Wants K W He O Fs H U Q (if dO ⟨s,.tuple ds⟩ ds then .ok ⟨.lst .leaf,.list ds⟩ Γ1 else .no):=w
   cases hc:dO ⟨s,.tuple ds⟩ ds with
   | false=>rw [hc] at w;exact w.elim
   | true=>
    rw [hc] at w;obtain ⟨p,vs,rfl,hq,_,hr⟩:=A.own.itemsT (O':=O++Fs1.flatten) hc jL A.disj
    exact ⟨p,vs,rfl,.inr hq,fun l hl=>w _ _ _ _ (Ed A.go A.same A.newF hr hl)⟩
  | _=>exact w.elim
 obtain ⟨He,O,Fs,Γ,E,h1⟩:=h1;refine ⟨He,O,Fs,Γ,E,?_⟩
 unfold ab ae
 cases e:fa Γ with
 | ok p Γ'=>
  rw [e] at h1;intro vs H' Gs Fs' A
  match vs,Gs,A.len1,A.len2 with
  | [v],[G],_,_=>
   have A':Aft K He O Fs H U Γ' p v H' G Fs':=⟨A.same,by simpa using A.env,by simpa using A.new,by simpa using A.own 0 v p G rfl rfl rfl⟩
   obtain ⟨q,ys,rfl,h2,h3⟩:=h1 v H' G Fs' A'
   exact ⟨q,ys,rfl,h2,h3⟩
 | er c Γ'=>rw [e] at h1;exact h1
 | no=>rw [e] at h1;exact h1
end
structure ub (J:It) (P:Hp->Prop) (vs:List V):Prop where
 go:∀(i:Nat) H v,P H->vs[i]?=some v->J.go i H/\∀x H',J.yld i H x H'->H'=H/\x=v
 stop:∀H,P H->J.stop vs.length H
theorem vU {K:Fg} {a:Addr}:ub (AQ K a) (fun H=>SqL K H a vs) vs:=
 ⟨fun i H v hp hv=>⟨⟨vs,v,hp,hv⟩,fun x H' ⟨e,q⟩=>⟨e,Option.some.inj ((q vs hp).symm.trans hv)⟩⟩,fun H hp=>⟨vs,hp,Nat.le_refl _⟩⟩
theorem zO {K:Fg} {a:Addr}:ub (DH K a) (fun H=>SqT K H a vs) vs:=
 ⟨fun i H v hp hv=>⟨⟨vs,v,hp,hv⟩,fun x H' ⟨e,q⟩=>⟨e,Option.some.inj ((q vs hp).symm.trans hv)⟩⟩,fun H hp=>⟨vs,hp,Nat.le_refl _⟩⟩
def jU (lo:Int) (n:Nat):List V:=(List.range n).map fun i=>.int (lo+(i:Nat))
def rngD (lo:Int) (n:Nat):List D:=(List.range n).map fun i=>.int (lo+(i:Nat))
theorem sP {lo:Int}:ub (AO lo n) (fun _=>True) (jU lo n):=by
 refine ⟨fun i H v _ hv=>?_,fun H _=>?_⟩
 ·unfold jU at hv
  rw [getElem?_map] at hv
  cases e:(List.range n)[i]? with
  | none=>rw [e] at hv;cases hv
  | some k=>
   rw [e] at hv;obtain ⟨h1,h2⟩:=List.getElem?_eq_some_iff.mp e
   simp at h1 h2
   subst h2
   cases hv;exact ⟨h1,fun x H' ⟨q1,q2⟩=>⟨q1,q2⟩⟩
 ·show n<=(jU lo n).length
  simp [jU]
theorem kN {K:Fg} {H:Hp} {lo:Int}:Reps K H (jU lo n) (rngD lo n):=by
 refine ⟨by simp [jU,rngD],fun i v d h1 h2=>?_⟩
 unfold jU at h1;unfold rngD at h2;rw [getElem?_map] at h1 h2
 cases e:(List.range n)[i]? with
 | none=>rw [e] at h1;cases h1
 | some k=>
  rw [e] at h1 h2
  cases h1
  cases h2;exact .int _
structure G4 where
 ds:List D
 st:Bool
abbrev FI:=Ev->Out G4
def Bj (K:Fg) (W:XW) (He:Hp) (O:List Addr) (Fs:List (List Addr)) (H:Hp) (U:St) (R:It->Hp->Prop) (o:Out G4):Prop:=match o with
 | .ok t Γ'=>∀J H' Fs' vs P,Same H H'->EnvOk K He O Fs' H' U Γ'->(∀a∈Fs'.flatten,a∈Fs.flatten\/H a=none)->ub J P vs->P H'->(∀H2,Same H' H2->P H2)->(t.st=true->∀H2,Same (cF H' Fs'.flatten) H2->P H2) ->
   Reps K (cF H' (O++Fs'.flatten)) vs t.ds->R J H'
 | .er c Γ'=>∀H' Fs',Same H H'->EnvOk K He O Fs' H' U Γ'->W c U H'
 | .no=>False
def tI (K:Fg) (W:XW) (f:FI):TI:=fun U H R=>∃He O Fs Γ,EnvOk K He O Fs H U Γ/\Bj K W He O Fs H U R (f Γ)
theorem ml {t t':TI} (h:PI X tg iter t) (i:∀U H R,t' U H R->t U H R):PI X tg iter t':=fun pins s U H R I q=>h pins s U H R I (i U H R q)
def aw (fa:F1):FI:=fun Γ=>(fa Γ).bind fun p Γ'=>match p.d with
 | .list ds=>if dO p ds then .ok ⟨ds,!p.s.isView⟩ Γ' else .no
 | _=>.no
def ig (fa:F1):FI:=fun Γ=>(fa Γ).bind fun p Γ'=>match p.d with
 | .tuple ds=>if dO p ds then .ok ⟨ds,!p.s.isView⟩ Γ' else .no
 | _=>.no
section
variable {K:Fg} {W:XW} {U:St} {H:Hp} {R:It->Hp->Prop} {fa fb:F1}
theorem sub_hid {H:Hp} {O:List Addr}:Same (cF H (O++F)) (cF H F):=ug (Same.refl _) fun a ha=>.inl (mem_append_right _ ha)
theorem vq (h:tI K W (aw fa) U H R):oE K (tE K W fa) U H R:=by
 obtain ⟨He,O,Fs,Γ,E,h⟩:=h;refine ⟨He,O,Fs,Γ,E,?_⟩
 unfold aw at h
 cases e:fa Γ with
 | ok p Γ1=>
  rw [e] at h;intro v H1 G Fs1 A;obtain ⟨s,d⟩:=p
  cases d with
  | list ds=>
   have h:Bj K W He O Fs H U R (if dO ⟨s,.list ds⟩ ds then .ok ⟨ds,!s.isView⟩ Γ1 else .no):=h
   cases hc:dO ⟨s,.list ds⟩ ds with
   | false=>rw [hc] at h;exact h.elim
   | true=>
    rw [hc] at h;obtain ⟨p,vs,rfl,hq,hst,hr⟩:=A.own.items (O':=O++Fs1.flatten) hc jL A.disj
    exact ⟨p,rfl,⟨vs,hq⟩,h (AQ K p) H1 Fs1 vs (fun H=>SqL K H p vs) A.same A.go A.newF vU hq (fun H2 s2=>s2.seq hq) (fun ht H2 s2=>s2.seq (sub_hid.seq (hst (by simpa using ht)))) hr⟩
  | _=>exact h.elim
 | er c Γ'=>rw [e] at h;exact h
 | no=>rw [e] at h;exact h
theorem vp (h:tI K W (ig fa) U H R):Ct K (tE K W fa) U H R:=by
 obtain ⟨He,O,Fs,Γ,E,h⟩:=h;refine ⟨He,O,Fs,Γ,E,?_⟩
 unfold ig at h
 cases e:fa Γ with
 | ok p Γ1=>
  rw [e] at h;intro v H1 G Fs1 A;obtain ⟨s,d⟩:=p
  cases d with
  | tuple ds=>
   have h:Bj K W He O Fs H U R (if dO ⟨s,.tuple ds⟩ ds then .ok ⟨ds,!s.isView⟩ Γ1 else .no):=h
   cases hc:dO ⟨s,.tuple ds⟩ ds with
   | false=>rw [hc] at h;exact h.elim
   | true=>
    rw [hc] at h;obtain ⟨p,vs,rfl,hq,hst,hr⟩:=A.own.itemsT (O':=O++Fs1.flatten) hc jL A.disj
    exact ⟨p,rfl,⟨vs,hq⟩,h (DH K p) H1 Fs1 vs (fun H=>SqT K H p vs) A.same A.go A.newF zO hq (fun H2 s2=>iC s2 hq) (fun ht H2 s2=>iC s2 (iC sub_hid (hst (by simpa using ht)))) hr⟩
  | _=>exact h.elim
 | er c Γ'=>rw [e] at h;exact h
 | no=>rw [e] at h;exact h
def dz (j:Int):Bool:=decide (-(2 ^ 62)<=j)&&decide (j<2 ^ 62)
def pw:List D->Option Int
 | [.int j]=>if dz j then some j else none
 | _=>none
def pq:List D->Option (Int×Int)
 | [.int i,.int j]=>if dz i&&dz j then some (i,j) else none
 | _=>none
theorem va {ds:List D} {j:Int} (h:pw ds=some j):ds=[.int j]/\-(2 ^ 62)<=j/\j<2 ^ 62:=by
 unfold pw at h;split at h
 ·split at h
  ·rename_i hc
   cases h;simp only [dz,Bool.and_eq_true,decide_eq_true_eq] at hc
   exact ⟨rfl,hc.1,hc.2⟩
  ·cases h
 ·cases h
theorem u9 {ds:List D} {i j:Int} (h:pq ds=some (i,j)):ds=[.int i,.int j]/\(-(2 ^ 62)<=i/\i<2 ^ 62/\-(2 ^ 62)<=j/\j<2 ^ 62):=by
 unfold pq at h;split at h
 ·split at h
  ·rename_i hc
   cases h;simp only [dz,Bool.and_eq_true,decide_eq_true_eq] at hc
   exact ⟨rfl,hc.1.1,hc.1.2,hc.2.1,hc.2.2⟩
  ·cases h
 ·cases h
def j5 (fl:FL):FI:=fun Γ=>(fl Γ).bind fun ps Γ'=>match pw (ps.map (·.d)) with
 | some j=>.ok ⟨rngD 0 j.toNat,true⟩ Γ'
 | none=>.no
def xB (fl:FL):FI:=fun Γ=>(fl Γ).bind fun ps Γ'=>match pq (ps.map (·.d)) with
 | some (i,j)=>.ok ⟨rngD i (j-i).toNat,true⟩ Γ'
 | none=>.no
theorem yP {fl:FL} (h:tI K W (j5 fl) U H R):xA (tA K W fl) U H R:=by
 obtain ⟨He,O,Fs,Γ,E,h⟩:=h;refine ⟨He,O,Fs,Γ,E,?_⟩
 unfold j5 at h
 cases e:fl Γ with
 | ok ps Γ1=>
  rw [e] at h;intro vs H1 Gs Fs1 A;have h:Bj K W He O Fs H U R (match pw (ps.map (·.d)) with | some j=>.ok ⟨rngD 0 j.toNat,true⟩ Γ1 | none=>.no):=h
  have rs:=A.reps
  cases e1:pw (ps.map (·.d)) with
  | none=>rw [e1] at h;exact h.elim
  | some j=>
   rw [e1] at h;obtain ⟨e2,h1,h2⟩:=va e1;rw [e2] at rs;obtain ⟨v,rfl,r⟩:=rs.one
   cases r;exact ⟨j,rfl,h1,h2,h (AO 0 j.toNat) H1 Fs1 (jU 0 j.toNat) (fun _=>True) A.same A.env.dropL (fun a ha=>A.new a (mem_append_right _ ha)) sP trivial (fun _ _=>trivial) (fun _ _ _=>trivial) kN⟩
 | er c Γ'=>rw [e] at h;exact h
 | no=>rw [e] at h;exact h
theorem yO {fl:FL} (h:tI K W (xB fl) U H R):xy (tA K W fl) U H R:=by
 obtain ⟨He,O,Fs,Γ,E,h⟩:=h;refine ⟨He,O,Fs,Γ,E,?_⟩
 unfold xB at h
 cases e:fl Γ with
 | ok ps Γ1=>
  rw [e] at h;intro vs H1 Gs Fs1 A;have h:Bj K W He O Fs H U R (match pq (ps.map (·.d)) with | some (i,j)=>.ok ⟨rngD i (j-i).toNat,true⟩ Γ1 | none=>.no):=h
  have rs:=A.reps
  cases e1:pq (ps.map (·.d)) with
  | none=>rw [e1] at h;exact h.elim
  | some ij=>
   obtain ⟨i,j⟩:=ij;rw [e1] at h;obtain ⟨e2,hb⟩:=u9 e1;rw [e2] at rs;obtain ⟨v,u,rfl,r,r'⟩:=rs.two
   cases r
   cases r'
   exact ⟨i,j,rfl,hb,h (AO i (j-i).toNat) H1 Fs1 (jU i (j-i).toNat) (fun _=>True) A.same A.env.dropL (fun a ha=>A.new a (mem_append_right _ ha)) sP trivial (fun _ _=>trivial) (fun _ _ _=>trivial) kN⟩
 | er c Γ'=>rw [e] at h;exact h
 | no=>rw [e] at h;exact h
end
def oW (i:Nat) (fc:FB) (fe:F1) (s:Sh):List D->Ev->List D->Out (List D)
 | [],Γ,acc=>.ok acc Γ
 | d::r,Γ,acc=>match fc (Γ.set i (some ⟨.leaf,d⟩)) with
  | .ok true Γ1=>(match fe Γ1 with
   | .ok p Γ2=>if T.coer s p&&decide (acc.length<sizeLine) then oW i fc fe s r (Γ2.set i none) (acc++[p.d]) else .no
   | _=>.no)
  | .ok false Γ1=>if acc.length<sizeLine then oW i fc fe s r (Γ1.set i none) acc else .no
  | _=>.no
def aj (s:Sh) (i:Nat) (fi:FI) (fc:FB) (fe:F1):F1:=fun Γ=>(fi Γ).bind fun t Γ1=>match oW i fc fe s t.ds (Γ1.set i none) [] with
 | .ok ds Γ2=>if !s.isView&&decide (i<Γ1.length) then .ok ⟨.lst s,.list ds⟩ (Γ2.set i (Γ1.getD i none)) else .no
 | _=>.no
abbrev W0:XW:=fun _ _ _=>False
section
variable {K:Fg} {He H H1 H2:Hp} {O G:List Addr} {Fs Fs1 Fs2:List (List Addr)} {U:St} {Γ Γ1 Γ2:Ev}
theorem D7 {is:List Nat} {j:Nat} (h:j∉is):(bt is U)[j]?=U[j]?:=by
 unfold bt;rw [List.getElem?_mapIdx]
 cases U[j]? with
 | none=>rfl
 | some o=>simp [h]
theorem Dd {Γ:Ev} {i j:Nat} {p:PV} (h:(Γ.set i none)[j]?=some (some p)):j≠i/\Γ[j]?=some (some p):=by
 by_cases hj:j=i
 ·subst hj
  rw [getElem?_set] at h;split at h
  ·split at h<;>cases h
  ·rename_i z;exact absurd rfl z
 ·rw [getElem?_set_ne (Ne.symm hj)] at h
  exact ⟨hj,h⟩
theorem EnvOk.shut {i:Nat} (E:EnvOk K He O Fs H U Γ) (hi:i<Γ.length) :
  ∃F,Fs[i]?=some F/\EnvOk K He (F++O) (Fs.set i []) H (bt [i] U) (Γ.set i none)/\∀a,a∈F++(Fs.set i []).flatten↔a∈Fs.flatten:=by
 obtain ⟨F,hF⟩:=E.lt hi;have pm:(F++(Fs.set i []).flatten).Perm Fs.flatten:=by simpa using mz (G:=[]) hF
 have pm2:(F++O++(Fs.set i []).flatten).Perm (O++Fs.flatten):=by
  rw [append_assoc];exact (kS _ _ _).trans (List.Perm.append_left _ pm)
 refine ⟨F,hF,⟨by rw [xl,length_set];exact E.len1,by rw [length_set,length_set];exact E.len2,E.same,pm2.nodup_iff.mpr E.nd,fun a ha=>E.inH a (pm2.mem_iff.mp ha),fun a ha=>E.fresh a (pm.mem_iff.mp (mem_append_right _ ha)),fun j q hq=>?_⟩,fun a=>pm.mem_iff⟩
 obtain ⟨hj,hq⟩:=Dd hq;obtain ⟨w1,v',F',e1,e2,e3⟩:=E.slot j q hq;exact ⟨w1,v',F',by rw [D7 (by simpa using hj)];exact e1,by rw [getElem?_set_ne (Ne.symm hj)];exact e2,e3.mono (Same.refl _) fun a ha=>.inl (pm2.mem_iff.mp ha)⟩
theorem EnvOk.forget {i:Nat} {x:Option V} (E:EnvOk K He O Fs H ((bt [i] U).set i x) Γ) (hi:i<Γ.length):EnvOk K He O (Fs.set i []) H (bt [i] U) (Γ.set i none):=by
 obtain ⟨F,hF⟩:=E.lt hi;have pm:(F++(Fs.set i []).flatten).Perm Fs.flatten:=by simpa using mz (G:=[]) hF
 have sub:∀a∈O++(Fs.set i []).flatten,a∈O++Fs.flatten:=fun a ha=>by
  rcases List.mem_append.mp ha with z | z
  ·exact mem_append_left _ z
  ·exact mem_append_right _ (pm.mem_iff.mp (mem_append_right _ z))
 have l1:=E.len1
 rw [length_set] at l1;obtain ⟨n1,n2,n3⟩:=List.nodup_append.mp E.nd;have n4:((Fs.set i []).flatten).Nodup:=(List.nodup_append.mp (pm.nodup_iff.mpr n2)).2.1
 refine ⟨by rw [length_set];exact l1,by rw [length_set,length_set];exact E.len2,E.same,List.nodup_append.mpr ⟨n1,n4,fun a ha b hb=>n3 a ha b (pm.mem_iff.mp (mem_append_right _ hb))⟩,fun a ha=>E.inH a (sub a ha),fun a ha=>E.fresh a (pm.mem_iff.mp (mem_append_right _ ha)),fun j q hq=>?_⟩
 obtain ⟨hj,hq⟩:=Dd hq;obtain ⟨w1,v',F',e1,e2,e3⟩:=E.slot j q hq;rw [getElem?_set_ne (Ne.symm hj)] at e1;exact ⟨w1,v',F',e1,by rw [getElem?_set_ne (Ne.symm hj)];exact e2,e3.mono (Same.refl _) fun a ha=>.inl (sub a ha)⟩
theorem EnvOk.reopen {i:Nat} (E1:EnvOk K He O Fs1 H1 U Γ1) (hF:Fs1[i]?=some F) (E2:EnvOk K He (G++(F++O)) Fs2 H2 (bt [i] U) Γ2) (hl:Γ2.length=Γ1.length) (s:Same H1 H2)
  (hn:Γ2[i]?=some none) (hF2:Fs2[i]?=some []) (new:∀a∈G++Fs2.flatten,a∈Fs1.flatten\/H1 a=none):EnvOk K He (G++O) (Fs2.set i F) H2 U (Γ2.set i (Γ1.getD i none)):=by
 have pm:((Fs2.set i F).flatten).Perm (F++Fs2.flatten):=by simpa using mz (G:=F) hF2
 have pm2:(G++O++(Fs2.set i F).flatten).Perm (G++(F++O)++Fs2.flatten):=by
  refine (List.Perm.append_left _ pm).trans ?_
  rw [append_assoc,append_assoc];refine List.Perm.append_left _ ?_
  rw [append_assoc];exact kS _ _ _
 have hi:i<Γ2.length:=(List.getElem?_eq_some_iff.mp hn).1
 refine ⟨by rw [length_set,hl];exact E1.len1,by rw [length_set,length_set];exact E2.len2,E2.same,pm2.nodup_iff.mpr E2.nd,fun a ha=>E2.inH a (pm2.mem_iff.mp ha),fun a ha=>?_,fun j q hq=>?_⟩
 ·rcases List.mem_append.mp (pm.mem_iff.mp ha) with z | z
  ·exact E1.fresh a (ja hF z)
  ·exact E2.fresh a z
 ·by_cases hj:j=i
  ·subst hj
   rw [getElem?_set_self hi] at hq;have hq:Γ1.getD j none=some q:=Option.some.inj hq
   rw [getD_eq_getElem?_getD] at hq;have hq':Γ1[j]?=some (some q):=by
    cases e:Γ1[j]? with
    | none=>rw [e] at hq;cases hq
    | some o=>rw [e] at hq;simp only [Option.getD_some] at hq;rw [hq]
   obtain ⟨w1,v',F',e1,e2,e3⟩:=E1.slot j q hq'
   rw [hF] at e2
   cases e2;refine ⟨w1,v',F,e1,getElem?_set_self (by rw [E2.len2];exact hi),e3.mono s fun a ha=>?_⟩
   rcases List.mem_append.mp ha with z | z
   ·rcases List.mem_append.mp z with z | z
    ·exact (new a (mem_append_left _ z)).elim (fun y=>.inl (mem_append_right _ y)) .inr
    ·exact .inl (mem_append_left _ z)
   ·rcases List.mem_append.mp (pm.mem_iff.mp z) with y | y
    ·exact .inl (mem_append_right _ (ja hF y))
    ·exact (new a (mem_append_right _ y)).elim (fun y=>.inl (mem_append_right _ y)) .inr
  ·rw [getElem?_set_ne (Ne.symm hj)] at hq
   obtain ⟨w1,v',F',e1,e2,e3⟩:=E2.slot j q hq;rw [D7 (by simpa using hj)] at e1
   exact ⟨w1,v',F',e1,by rw [getElem?_set_ne (Ne.symm hj)];exact e2,e3.mono (Same.refl _) fun a ha=>.inl (pm2.mem_iff.mp ha)⟩
theorem EnvOk.mutO {p:Addr} {xs:List V} (E:EnvOk K He O Fs H U Γ) (hp:p∈O) (hl:H p=some (.lst xs)) (hn:He p=none):EnvOk K He O Fs (bA H p o) U Γ:=by
 obtain ⟨n1,n2,n3⟩:=List.nodup_append.mp E.nd;refine ⟨E.len1,E.len2,fun b u e=>?_,E.nd,fun a ha=>?_,E.fresh,fun j q hq=>?_⟩
 ·rw [dB (uj e hn)]
  exact E.same b u e
 ·by_cases h:a=p
  ·rw [h,fL];exact Option.some_ne_none _
  ·rw [dB h];exact E.inH a ha
 ·obtain ⟨w1,v',F',e1,e2,e3⟩:=E.slot j q hq
  exact ⟨w1,v',F',e1,e2,e3.mut w1 (mem_append_left _ hp) (fun z=>n3 p hp p (ja e2 z) rfl) hl⟩
end
structure Ga (K:Fg) (He:Hp) (O F:List Addr) (Fs1:List (List Addr)) (H1:Hp) (U:St) (i:Nat) (s:Sh) (A0:Addr) (n:Nat) (ys:List V) (H:Hp) (Γk:Ev) (Fk Gs:List (List Addr)) (acc:List D):Prop where
 env:EnvOk K He (A0::Gs.flatten++(F++O)) Fk H (bt [i] U) Γk
 same:Same H1 H
 at_:H A0=some (.lst ys)
 new:∀a∈Gs.flatten++Fk.flatten,a∈Fs1.flatten\/H1 a=none
 l1:ys.length=acc.length
 l2:Gs.length=acc.length
 own:∀(j:Nat) v d G,ys[j]?=some v->acc[j]?=some d->Gs[j]?=some G->Own K (A0::Gs.flatten++(F++O)++Fk.flatten) H s G v d
 noneG:Γk[i]?=some none
 noneF:Fk[i]?=some []
 len:Γk.length=n
theorem uI (Gs:List (List α)) (G:List α):(Gs++[G]).flatten=Gs.flatten++G:=by simp
section
variable {K:Fg} {W:XW} {U:St} {H:Hp} {Q:VK} {fe:F1} {fc:FB} {fi:FI} {s:Sh} {i:Nat}
theorem Et (h:tE K W (aj s i fi fc fe) U H Q):kA [i] (tI K W fi) (gName i) (tT K W0 fc) (tE K W0 fe) U H Q:=by
 obtain ⟨He,O,Fs,Γ,E,h⟩:=h;refine ⟨He,O,Fs,Γ,E,?_⟩
 unfold aj at h
 cases e:fi Γ with
 | er c Γ'=>rw [e] at h;exact h
 | no=>rw [e] at h;exact h
 | ok t Γ1=>
  rw [e] at h;intro J H1 Fs1 vs P s1 E1 n1 it hP hP1 _ hr A0 hD;have h:Wants K W He O Fs H U Q (match oW i fc fe s t.ds (Γ1.set i none) [] with | .ok ds Γ2=>if !s.isView&&decide (i<Γ1.length) then .ok ⟨.lst s,.list ds⟩ (Γ2.set i (Γ1.getD i none)) else .no | _=>.no):=h
  cases eg:oW i fc fe s t.ds (Γ1.set i none) [] with
  | er c Γ'=>rw [eg] at h;exact h.elim
  | no=>rw [eg] at h;exact h.elim
  | ok ds' Γ2=>
   rw [eg] at h;have h:Wants K W He O Fs H U Q (if (!s.isView&&decide (i<Γ1.length))=true then .ok ⟨.lst s,.list ds'⟩ (Γ2.set i (Γ1.getD i none)) else .no):=h
   by_cases hc:(!s.isView&&decide (i<Γ1.length))=true
   case neg=>rw [if_neg hc] at h;exact h.elim
   rw [if_pos hc] at h;simp only [Bool.and_eq_true,decide_eq_true_eq,Bool.not_eq_true'] at hc
   obtain ⟨hsv,hi⟩:=hc;obtain ⟨F,hF,E0,hmem⟩:=E1.shut hi;have hHeD:He A0=none:=E1.same.free hD
   have E0':EnvOk K He (A0::([]:List (List Addr)).flatten++(F++O)) (Fs1.set i []) (bA H1 A0 (.lst [])) (bt [i] U) (Γ1.set i none):=
    E0.hide (G:=[A0]) (fE hD) (by simp) (fun a ha=>by simp at ha;rw [ha];exact hD) (fun a ha=>by simp at ha;rw [ha,fL];exact Option.some_ne_none _)
   refine ⟨fun k m ys H'=>m=vs.length-k/\k<=vs.length/\∃Γk Fk Gs acc,Ga K He O F Fs1 H1 U i s A0 Γ1.length ys H' Γk Fk Gs acc/\oW i fc fe s (t.ds.drop k) Γk acc=.ok ds' Γ2,⟨vs.length,by simp,Nat.zero_le _,Γ1.set i none,Fs1.set i [],[],[],⟨E0',fE hD,fL,fun a ha=>.inl ((hmem a).mp (mem_append_right _ (by simpa using ha))),rfl,rfl,fun j v d G h1=>by simp at h1,getElem?_set_self hi,getElem?_set_self (by rw [E1.len2];exact hi),by rw [length_set]⟩,by simpa using eg⟩,?_⟩
   rintro k m ys H' ⟨rfl,hk,Γk,Fk,Gs,acc,g,eg'⟩
   refine ⟨g.at_,?_⟩
   have hPk:P H':=hP1 H' g.same
   have hlen:vs.length=t.ds.length:=hr.1
   by_cases hlt:k<vs.length
   case neg=>
    have hke:k=vs.length:=by omega
    left
    have:t.ds.drop k=[]:=List.drop_eq_nil_of_le (by omega)
    rw [this] at eg';have eg'':(Out.ok acc Γk:Out (List D))=.ok ds' Γ2:=eg'
    injection eg'' with e1 e2
    subst e1;subst e2;refine ⟨by rw [hke];exact it.stop H' hPk,?_⟩
    have E3:EnvOk K He ((A0::Gs.flatten)++O) (Fk.set i F) H' U (Γk.set i (Γ1.getD i none)):=
     EnvOk.reopen (G:=A0::Gs.flatten) E1 hF g.env g.len g.same g.noneG g.noneF fun a ha=>by
      rcases List.mem_append.mp ha with z | z
      ·rcases List.mem_cons.mp z with z | z
       ·rw [z];exact .inr hD
       ·exact g.new a (mem_append_left _ z)
      ·exact g.new a (mem_append_right _ z)
    have pmF:((Fk.set i F).flatten).Perm (F++Fk.flatten):=by simpa using mz (G:=F) g.noneF
    obtain ⟨n1',_,n3'⟩:=List.nodup_append.mp g.env.ndO;refine h (.ref A0) H' (A0::Gs.flatten) (Fk.set i F) ⟨s1.trans g.same,E3,fun a ha=>?_,?_⟩
    ·have up:a∈Fs1.flatten\/H1 a=none->a∈Fs.flatten\/H a=none:=fun z=>z.elim (n1 a) fun y=>.inr (s1.free y)
     rcases List.mem_append.mp ha with z | z
     ·rcases List.mem_cons.mp z with z | z
      ·exact up (.inr (by rw [z];exact hD))
      ·exact up (g.new a (mem_append_left _ z))
     ·rcases List.mem_append.mp (pmF.mem_iff.mp z) with y | y
      ·exact up (.inl (ja hF y))
      ·exact up (g.new a (mem_append_right _ y))
    ·refine .lst hsv g.at_ g.l1 g.l2 n1' fun j v d G h1 h2 h3=>(g.own j v d G h1 h2 h3).perm fun a ha=>?_
     rw [append_assoc] at ha ⊢;rcases List.mem_append.mp ha with z | z
     ·exact mem_append_left _ z
     ·refine mem_append_right _ ?_
      rcases List.mem_append.mp z with z | z
      ·exact mem_append_left _ (mem_append_right _ z)
      ·rcases List.mem_append.mp (pmF.mem_iff.mp z) with y | y
       ·exact mem_append_left _ (mem_append_left _ y)
       ·exact mem_append_right _ y
   case pos=>
    right
    have hv:vs[k]?=some vs[k]:=getElem?_eq_getElem hlt
    have hkd:k<t.ds.length:=by omega
    have hd:t.ds[k]?=some t.ds[k]:=getElem?_eq_getElem hkd
    have hdr:t.ds.drop k=t.ds[k]::t.ds.drop (k+1):=List.drop_eq_getElem_cons hkd
    rw [hdr] at eg';generalize hdk:t.ds[k]=d at hd eg'
    generalize hvk:vs[k]=v at hv
    obtain ⟨hgo,hyld⟩:=it.go k H' v hPk hv
    simp only [oW] at eg'
    have hik:i<Γk.length:=by rw [g.len];exact hi
    have rep:Rep K (cF H' (A0::Gs.flatten++(F++O)++Fk.flatten)) v d:=(hr.2 k v d hv hd).mono (ug g.same fun a ha=>by
     rcases List.mem_append.mp ha with z | z
     ·rcases List.mem_append.mp z with z | z
      ·rcases List.mem_cons.mp z with z | z
       ·rw [z];exact .inr hD
       ·exact (g.new a (mem_append_left _ z)).elim (fun y=>.inl (mem_append_right _ y)) .inr
      ·rcases List.mem_append.mp z with z | z
       ·exact .inl (mem_append_right _ (ja hF z))
       ·exact .inl (mem_append_left _ z)
     ·exact (g.new a (mem_append_right _ z)).elim (fun y=>.inl (mem_append_right _ y)) .inr)
    have Ep:EnvOk K He (A0::Gs.flatten++(F++O)) (Fk.set i []) H' ((bt [i] U).set i (some v)) (Γk.set i (some ⟨.leaf,d⟩)):=
     EnvOk.put (G:=[]) (p:=⟨.leaf,d⟩) (v:=v) g.env (.leaf rep) rfl (fun a ha=>by simp at ha) hik
    have hsl:ys.length<sizeLine:=by
     rw [g.l1]
     cases ec:fc (Γk.set i (some ⟨.leaf,d⟩)) with
     | no=>rw [ec] at eg';cases eg'
     | er c Γ'=>rw [ec] at eg';cases eg'
     | ok b Γa=>
      rw [ec] at eg'
      cases b with
      | false=>
       dsimp only at eg'
       split at eg'
       ·assumption
       ·cases eg'
      | true=>
       dsimp only at eg'
       split at eg'
       ·split at eg'
        ·rename_i z
         simp only [Bool.and_eq_true,decide_eq_true_eq] at z
         exact z.2
        ·cases eg'
       ·cases eg'
    refine ⟨hgo,hsl,fun x Hx hx=>?_⟩
    obtain ⟨rfl,rfl⟩:=hyld x Hx hx;show GZ (bt [i] U) ((bt [i] U).set i (some x))/\_
    refine ⟨⟨by rw [length_set],fun j u hj=>?_⟩,?_⟩
    ·have:=(C6 hj).1
     rw [getElem?_set_ne (by simp at this;exact fun z=>this z.symm)]
     exact hj
    refine ⟨He,_,_,_,Ep,?_⟩
    cases ec:fc (Γk.set i (some ⟨.leaf,d⟩)) with
    | no=>rw [ec] at eg';cases eg'
    | er c Γ'=>rw [ec] at eg';cases eg'
    | ok b Γa=>
     rw [ec] at eg';intro H3 Fs3 s3 E3 n3;have lena:Γa.length=Γ1.length:=by
      have:=E3.len1
      rw [length_set,xl,E1.len1] at this;exact this.symm
     have n3':∀a∈Fs3.flatten,a∈Fs1.flatten\/H1 a=none:=fun a ha=>(n3 a ha).elim (fun z=>by
      have pm:((Fk.set i []).flatten).Perm Fk.flatten:=by simpa using mz (G:=[]) g.noneF
      exact g.new a (mem_append_right _ (pm.mem_iff.mp z))) fun z=>.inr (g.same.free z)
     cases b with
     | false=>
      dsimp only at eg'
      split at eg'
      case isFalse=>cases eg'
      refine j4 ⟨vs.length-(k+1),by omega,rfl,hlt,Γa.set i none,Fs3.set i [],Gs,acc,⟨E3.forget (by rw [lena];exact hi),g.same.trans s3,s3 _ _ g.at_,fun a ha=>?_,g.l1,g.l2,fun j v d G h1 h2 h3=>(g.own j v d G h1 h2 h3).mono s3 fun a ha=>?_,getElem?_set_self (by rw [lena];exact hi),getElem?_set_self (by rw [E3.len2,lena];exact hi),by rw [length_set];exact lena⟩,eg'⟩
      ·rcases List.mem_append.mp ha with z | z
       ·exact g.new a (mem_append_left _ z)
       ·obtain ⟨F3,hF3⟩:=E3.lt (i:=i) (by rw [lena];exact hi)
        have pm:(F3++(Fs3.set i []).flatten).Perm Fs3.flatten:=by simpa using mz (G:=[]) hF3
        exact n3' a (pm.mem_iff.mp (mem_append_right _ z))
      ·rcases List.mem_append.mp ha with z | z
       ·exact .inl (mem_append_left _ z)
       ·obtain ⟨F3,hF3⟩:=E3.lt (i:=i) (by rw [lena];exact hi)
        have pm:(F3++(Fs3.set i []).flatten).Perm Fs3.flatten:=by simpa using mz (G:=[]) hF3
        have pm2:((Fk.set i []).flatten).Perm Fk.flatten:=by simpa using mz (G:=[]) g.noneF
        exact (n3 a (pm.mem_iff.mp (mem_append_right _ z))).elim (fun y=>.inl (mem_append_right _ (pm2.mem_iff.mp y))) .inr
     | true=>
      refine j3 ⟨He,_,_,_,E3,?_⟩
      dsimp only at eg'
      cases ee:fe Γa with
      | no=>rw [ee] at eg';cases eg'
      | er c Γ'=>rw [ee] at eg';cases eg'
      | ok p Γb=>
       rw [ee] at eg';dsimp only at eg'
       split at eg'
       case isFalse=>cases eg'
       rename_i hco;simp only [Bool.and_eq_true,decide_eq_true_eq] at hco
       obtain ⟨hco,_⟩:=hco;intro u H4 G Fs4 A4;have lenb:Γb.length=Γ1.length:=by
        have:=A4.env.len1
        rw [length_set,xl,E1.len1] at this;exact this.symm
       have hib:i<Γb.length:=by rw [lenb];exact hi
       have at4:H4 A0=some (.lst ys):=A4.same _ _ (s3 _ _ g.at_)
       have s14:Same H1 H4:=(g.same.trans s3).trans A4.same
       have pmk:((Fk.set i []).flatten).Perm Fk.flatten:=by simpa using mz (G:=[]) g.noneF
       obtain ⟨F4,hF4⟩:=A4.env.lt hib;have pm4:(F4++(Fs4.set i []).flatten).Perm Fs4.flatten:=by simpa using mz (G:=[]) hF4
       have new4:∀a∈G++Fs4.flatten,a∈Fs1.flatten\/H1 a=none:=fun a ha=>(A4.new a ha).elim (n3' a) fun z=>.inr ((g.same.trans s3).free z)
       have hG':∀a∈aJ s G,a∈G:=fun a ha=>EC ha
       obtain ⟨k1,k2,k3⟩:=List.nodup_append.mp A4.env.ndO;have ndk:(aJ s G).Nodup:=by
        cases s<;>first | exact nodup_nil | exact k1
       have pmO:(A0::(Gs++[aJ s G]).flatten++(F++O)).Perm (aJ s G++(A0::Gs.flatten++(F++O))):=by
        rw [uI];show (A0::((Gs.flatten++aJ s G)++(F++O))).Perm _
        refine List.Perm.trans ?_ List.perm_middle.symm
        refine List.Perm.cons _ ?_
        rw [append_assoc];exact kS _ _ _
       have E5:EnvOk K He (aJ s G++(A0::Gs.flatten++(F++O))) Fs4 H4 ((bt [i] U).set i (some x)) Γb:=A4.env.drop (fun a ha=>by
        rcases List.mem_append.mp ha with z | z
        ·exact mem_append_left _ (hG' a z)
        ·exact mem_append_right _ z) (List.nodup_append.mpr ⟨ndk,k2,fun a ha b hb=>k3 a (hG' a ha) b hb⟩)
       have E6:=(E5.perm pmO).forget hib
       have hDin:A0∈A0::(Gs++[aJ s G]).flatten++(F++O):=mem_cons_self
       have E7:=E6.mutO (o:=.lst (ys++[u])) hDin at4 hHeD
       have subH:∀a∈A0::(Gs++[aJ s G]).flatten++(F++O)++(Fs4.set i []).flatten,a∈G++(A0::Gs.flatten++(F++O))++Fs4.flatten:=fun a ha=>by
        rcases List.mem_append.mp ha with z | z
        ·rcases List.mem_append.mp (pmO.mem_iff.mp z) with y | y
         ·exact mem_append_left _ (mem_append_left _ (hG' a y))
         ·exact mem_append_left _ (mem_append_right _ y)
        ·exact mem_append_right _ (pm4.mem_iff.mp (mem_append_right _ z))
       have Dnot:∀{j:Nat} {Gj:List Addr},Gs[j]?=some Gj->A0∉Gj:=fun {j Gj} hj z=>by
        have nd:=g.env.ndO
        exact (List.nodup_cons.mp nd).1 (mem_append_left _ (ja hj z))
       refine ⟨at4,vs.length-(k+1),by omega,rfl,hlt,Γb.set i none,Fs4.set i [],Gs++[aJ s G],acc++[p.d],⟨E7,fun b o hb=>?_,fL,fun a ha=>?_,by simp [g.l1],by simp [g.l2],fun j w d' G' h1 h2 h3=>?_,getElem?_set_self hib,getElem?_set_self (by rw [A4.env.len2];exact hib),by rw [length_set];exact lenb⟩,eg'⟩
       ·rw [dB (uj hb hD)]
        exact s14 b o hb
       ·rcases List.mem_append.mp ha with z | z
        ·rw [uI] at z
         rcases List.mem_append.mp z with z | z
         ·exact g.new a (mem_append_left _ z)
         ·exact new4 a (mem_append_left _ (hG' a z))
        ·exact new4 a (mem_append_right _ (pm4.mem_iff.mp (mem_append_right _ z)))
       ·by_cases hj:j<ys.length
        ·rw [getElem?_append_left hj] at h1
         rw [getElem?_append_left (by rw [<-g.l1];exact hj)] at h2
         rw [getElem?_append_left (by rw [g.l2,<-g.l1];exact hj)] at h3
         have o1:=g.own j w d' G' h1 h2 h3
         have o2:=o1.mono (O':=A0::(Gs++[aJ s G]).flatten++(F++O)++(Fs4.set i []).flatten) (s3.trans A4.same) fun a ha=>by
          have up:a∈G++Fs4.flatten->a∈A0::Gs.flatten++(F++O)++Fk.flatten\/Hx a=none:=fun z=>(A4.new a z).elim (fun y=>(n3 a y).elim (fun y=>.inl (mem_append_right _ (pmk.mem_iff.mp y))) .inr) fun y=>.inr (s3.free y)
          rcases List.mem_append.mp (subH a ha) with z | z
          ·rcases List.mem_append.mp z with z | z
           ·exact up (mem_append_left _ z)
           ·exact .inl (mem_append_left _ z)
          ·exact up (mem_append_right _ z)
         exact o2.mut hsv (mem_append_left _ hDin) (Dnot h3) at4
        ·have hj':j=ys.length:=by
          have:=(List.getElem?_eq_some_iff.mp h1).1
          rw [length_append,length_singleton] at this;omega
         subst hj'
         rw [getElem?_append_right (Nat.le_refl _),Nat.sub_self] at h1;rw [getElem?_append_right (by rw [g.l1];exact Nat.le_refl _),show ys.length-acc.length=0 by rw [g.l1];exact Nat.sub_self _] at h2
         rw [getElem?_append_right (by rw [g.l2,g.l1];exact Nat.le_refl _),show ys.length-Gs.length=0 by rw [g.l2,g.l1];exact Nat.sub_self _] at h3
         cases h1
         cases h2
         cases h3;have o3:=A4.own.coer (s:=s) (O':=A0::(Gs++[aJ s G]).flatten++(F++O)++(Fs4.set i []).flatten) hco subH fun a ha hO=>by
          cases s with
          | leaf=>
           exfalso
           have hO':a∈(A0::Gs.flatten++(F++O))++(Fs4.set i []).flatten:=by
            rw [uI] at hO;simpa [aJ] using hO
           rcases List.mem_append.mp hO' with z | z
           ·exact k3 a ha a z rfl
           ·have nd:=A4.env.nd
            exact (List.nodup_append.mp nd).2.2 a (mem_append_left _ ha) a (pm4.mem_iff.mp (mem_append_right _ z)) rfl
          | view=>cases hsv
          | lst s=>exact ha
          | tup ss=>exact ha
         refine o3.mut hsv (mem_append_left _ hDin) (fun z=>?_) at4
         exact k3 A0 (hG' A0 z) A0 mem_cons_self rfl
end
inductive OutS where
 | nx (e:Ev) | bk (e:Ev) | ct (e:Ev) | rt (p:PV) | er (c:Str) (e:Ev) | no
abbrev FS:=Ev->OutS
structure RetOk (K:Fg) (He:Hp) (O:List Addr) (p:PV) (v:V) (H':Hp) (G:List Addr):Prop where
 same:Same He H'
 fresh:∀a∈G,He a=none
 inH:∀a∈G,H' a≠none
 nd:G.Nodup
 own:Own K (G++O) H' p.s G v p.d
 nv:p.s.isView=false
def kq (K:Fg) (W:XW) (He:Hp) (O:List Addr) (D:dv):OutS->Prop
 | .nx Γ'=>∀U' H' Fs',EnvOk K He O Fs' H' U' Γ'->D.nx U' H'
 | .bk Γ'=>∀U' H' Fs',EnvOk K He O Fs' H' U' Γ'->D.bk U' H'
 | .ct Γ'=>∀U' H' Fs',EnvOk K He O Fs' H' U' Γ'->D.ct U' H'
 | .rt p=>∀v H' G,RetOk K He O p v H' G->D.rt v H'
 | .er c Γ'=>∀U' H' Fs',EnvOk K He O Fs' H' U' Γ'->W c U' H'
 | .no=>False
def tS (K:Fg) (W:XW) (g:FS):TS:=fun D U H=>∃He O Fs Γ,EnvOk K He O Fs H U Γ/\kq K W He O D (g Γ)
def aC:FS:=fun Γ=>.nx Γ
def au (g1 g2:FS):FS:=fun Γ=>match g1 Γ with
 | .nx Γ'=>g2 Γ'
 | o=>o
def gN (f:F1) (k:PV->Ev->OutS):FS:=fun Γ=>match f Γ with
 | .ok p Γ'=>k p Γ'
 | .er c Γ'=>.er c Γ'
 | .no=>.no
def bI (c:FB) (a b:FS):FS:=fun Γ=>match c Γ with
 | .ok t Γ'=>if t then a Γ' else b Γ'
 | .er c Γ'=>.er c Γ'
 | .no=>.no
section
variable {K:Fg} {W:XW} {U:St} {H:Hp} {D:dv} {fa fb:F1} {ga gb:FB} {g1 g2:FS}
theorem vk (h:tS K W aC D U H):xo D U H:=by
 obtain ⟨He,O,Fs,Γ,E,h⟩:=h;exact h U H Fs E
theorem DP (h:tS K W (au g1 g2) D U H):fF (tS K W g1) (tS K W g2) D U H:=by
 obtain ⟨He,O,Fs,Γ,E,h⟩:=h;refine ⟨He,O,Fs,Γ,E,?_⟩
 unfold au at h
 cases e:g1 Γ with
 | nx Γ'=>rw [e] at h;exact fun U' H' Fs' E'=>⟨He,O,Fs',Γ',E',h⟩
 | bk Γ'=>rw [e] at h;exact h
 | ct Γ'=>rw [e] at h;exact h
 | rt p=>rw [e] at h;exact h
 | er c Γ'=>rw [e] at h;exact h
 | no=>rw [e] at h;exact h
theorem fP {k:PV->Ev->OutS} {R:VK} (h:tS K W (gN fa k) D U H)
  (hk:∀He O Fs Γ1 p v H1 G Fs1,EnvOk K He O Fs H U Γ1\/True->(∀a∈G,He a=none)->Aft K He O Fs H U Γ1 p v H1 G Fs1->kq K W He O D (k p Γ1)->R v H1):tE K W fa U H R:=by
 obtain ⟨He,O,Fs,Γ,E,h⟩:=h;refine ⟨He,O,Fs,Γ,E,?_⟩
 unfold gN at h
 cases e:fa Γ with
 | ok p Γ1=>rw [e] at h;exact fun v H' G Fs' A=>hk He O Fs Γ1 p v H' G Fs' (.inr trivial) (A.freshG E) A h
 | er c Γ1=>rw [e] at h;exact fun H' Fs' s E'=>h U H' Fs' E'
 | no=>rw [e] at h;exact h
theorem yM (h:tS K W (bI ga g1 g2) D U H):BK (tT K W ga) (tS K W g1) (tS K W g2) D U H:=by
 obtain ⟨He,O,Fs,Γ,E,h⟩:=h;refine ⟨He,O,Fs,Γ,E,?_⟩
 unfold bI at h
 cases e:ga Γ with
 | ok b Γ1=>
  rw [e] at h;intro H' Fs' s E' n
  cases b with
  | true=>exact j3 ⟨He,O,Fs',Γ1,E',h⟩
  | false=>exact j4 ⟨He,O,Fs',Γ1,E',h⟩
 | er c Γ1=>rw [e] at h;exact fun H' Fs' s E'=>h U H' Fs' E'
 | no=>rw [e] at h;exact h
def aD (f:F1):FS:=gN f fun p _=>if p.s.isView then (if aT p.d then .rt ⟨.leaf,p.d⟩ else .no) else .rt p
theorem yI (h:tS K W (aD fa) D U H):BH (tE K W fa) D U H:=by
 refine fP h fun He O Fs Γ1 p v H1 G Fs1 _ fr A w=>?_
 obtain ⟨n1,n2,n3⟩:=List.nodup_append.mp A.env.ndO;have inH:∀a∈G,H1 a≠none:=fun a ha=>A.env.inH a (mem_append_left _ (mem_append_left _ ha))
 cases hv:p.s.isView with
 | false=>
  have w:kq K W He O D (.rt p):=by simpa [hv] using w
  exact w v H1 G ⟨A.env.same,fr,inH,n1,A.own.perm fun a ha=>mem_append_left _ ha,hv⟩
 | true=>
  cases hs:aT p.d with
  | false=>rw [hv,hs] at w;exact w.elim
  | true=>
   have w:kq K W He O D (.rt ⟨.leaf,p.d⟩):=by simpa [hv,hs] using w
   exact w v H1 [] ⟨A.env.same,(fun _ z=>nomatch z),(fun _ z=>nomatch z),nodup_nil,.leaf (A.own.rep.sc hs).rep,rfl⟩
def aB (own:Bool) (i:Nat) (f:F1):FS:=gN f fun p Γ=>if i<Γ.length then (if own&&!p.s.isView then .nx (Γ.set i (some p)) else if T.coer .leaf p then .nx (Γ.set i (some ⟨.leaf,p.d⟩)) else .no) else .no
theorem rL {own:Bool} {i:Nat} (h:tS K W (aB own i fa) D U H):gW (tE K W fa) (gName i) D U H:=by
 refine fP h fun He O Fs Γ1 p v H1 G Fs1 _ fr A w=>?_
 show D.nx (U.set i (some v)) H1
 have w:kq K W He O D (if i<Γ1.length then (if own&&!p.s.isView then .nx (Γ1.set i (some p)) else if T.coer .leaf p then .nx (Γ1.set i (some ⟨.leaf,p.d⟩)) else .no) else .no):=w
 by_cases hi:i<Γ1.length
 case neg=>rw [if_neg hi] at w;exact w.elim
 rw [if_pos hi] at w
 cases ho:(own&&!p.s.isView) with
 | true=>
  rw [ho] at w;have hv:p.s.isView=false:=by
   simp only [Bool.and_eq_true,Bool.not_eq_true'] at ho
   exact ho.2
  exact w _ H1 _ (EnvOk.put A.env A.own hv fr hi)
 | false=>
  rw [ho] at w
  cases hc:T.coer .leaf p with
  | false=>rw [hc] at w;exact w.elim
  | true=>
   rw [hc] at w;have o:=A.own.coer (s:=.leaf) (O':=O++Fs1.flatten) hc jL fun a ha z=>absurd z (A.disj a ha)
   exact w _ H1 _ (EnvOk.put (G:=[]) (p:=⟨.leaf,p.d⟩) (v:=v) A.go o rfl (fun a ha=>by simp at ha) hi)
def dw (f:F1):FS:=gN f fun _ Γ=>.nx Γ
theorem vt (h:tS K W (dw fa) D U H):d6 (tE K W fa) D U H:=
 fP h fun He O Fs Γ1 p v H1 G Fs1 _ fr A w=>w U H1 Fs1 A.go
theorem A7 {l:List α} {i:Nat} {x:α} (h:l[i]?=some x):l.set i x=l:=by
 apply ext_getElem?
 intro j;by_cases hj:j=i
 ·subst hj
  rw [getElem?_set_self (List.getElem?_eq_some_iff.mp h).1,h]
 ·rw [getElem?_set_ne (Ne.symm hj)]
def wO (i:Nat) (p:PV) (Γ:Ev):OutS:=match Γ[i]? with
 | some (some ⟨.lst s,.list ds⟩)=>if T.coer s p&&decide (ds.length<sizeLine) then .nx (Γ.set i (some ⟨.lst s,.list (ds++[p.d])⟩)) else .no
 | _=>.no
def AV:Option (Option PV)->Bool
 | some (some ⟨.lst _,.list _⟩)=>true
 | _=>false
def gM (i:Nat) (f:F1):FS:=fun Γ=>if AV Γ[i]? then gN f (wO i) Γ else .no
theorem oS {H:Hp} {O G:List Addr} {Γ:Ev} {i:Nat} {s:Sh} {ds:List PySem.PyData} {p:PV} {v:V} (E:EnvOk K He (G++O) Fs H U Γ) (o:Own K (G++O++Fs.flatten) H p.s G v p.d) (fr:∀a∈G,He a=none)
  (h:Γ[i]?=some (some ⟨.lst s,.list ds⟩)) (hc:T.coer s p=true) :
  ∃l vs,U[i]?=some (some (.ref l))/\H l=some (.lst vs)/\vs.length=ds.length/\∃Fs',EnvOk K He O Fs' (bA H l (.lst (vs++[v]))) U (Γ.set i (some ⟨.lst s,.list (ds++[p.d])⟩)):=by
 obtain ⟨hv,u,F,h1,E1,o1,sub⟩:=E.move h;have hi:i<Γ.length:=(List.getElem?_eq_some_iff.mp h).1
 cases o1 with
 | @lst _ l vs _ Fs0 hsv hp hl hf nd q=>
  refine ⟨l,vs,h1,hp,hl,Fs.set i (l::(Fs0++[aJ s G]).flatten),?_⟩
  have hlF:l∈Fs.flatten:=sub l (mem_append_left _ mem_cons_self)
  have hHe:He l=none:=E.fresh l hlF
  have hG':∀a∈aJ s G,a∈G:=fun a ha=>EC ha
  obtain ⟨k1,k2,k3⟩:=List.nodup_append.mp E1.ndO;obtain ⟨g1,g2,g3⟩:=List.nodup_append.mp k2;have ndk:(aJ s G).Nodup:=by
   cases s<;>first | exact nodup_nil | exact g1
  have pmO:((l::(Fs0++[aJ s G]).flatten)++O).Perm ((l::Fs0.flatten)++(aJ s G++O)):=by
   rw [uI];show (l::((Fs0.flatten++aJ s G)++O)).Perm (l::(Fs0.flatten++(aJ s G++O)))
   rw [append_assoc]
  have E2:EnvOk K He ((l::Fs0.flatten)++(aJ s G++O)) (Fs.set i []) H U (Γ.set i none):=E1.drop (fun a ha=>by
   rcases List.mem_append.mp ha with z | z
   ·exact mem_append_left _ z
   ·refine mem_append_right _ ?_
    rcases List.mem_append.mp z with z | z
    ·exact mem_append_left _ (hG' a z)
    ·exact mem_append_right _ z) (List.nodup_append.mpr ⟨k1,List.nodup_append.mpr ⟨ndk,g2,fun a ha b hb=>g3 a (hG' a ha) b hb⟩,fun a ha b hb=>k3 a ha b (by
     rcases List.mem_append.mp hb with z | z
     ·exact mem_append_left _ (hG' b z)
     ·exact mem_append_right _ z)⟩)
  have E3:=E2.perm pmO
  have hlin:l∈(l::(Fs0++[aJ s G]).flatten)++O:=mem_cons_self
  have E4:=E3.mutO (o:=.lst (vs++[v])) hlin hp hHe
  have lnG:l∉G:=fun z=>k3 l mem_cons_self l (mem_append_left _ z) rfl
  have subH:∀a∈(l::(Fs0++[aJ s G]).flatten)++O++(Fs.set i []).flatten,a∈(l::Fs0.flatten)++(G++O)++(Fs.set i []).flatten:=fun a ha=>by
   rcases List.mem_append.mp ha with z | z
   ·refine mem_append_left _ ?_
    rcases List.mem_append.mp (pmO.mem_iff.mp z) with y | y
    ·exact mem_append_left _ y
    ·refine mem_append_right _ ?_
     rcases List.mem_append.mp y with y | y
     ·exact mem_append_left _ (hG' a y)
     ·exact mem_append_right _ y
   ·exact mem_append_right _ z
  have ownL:Own K ((l::(Fs0++[aJ s G]).flatten)++O++(Fs.set i []).flatten) (bA H l (.lst (vs++[v]))) (.lst s) (l::(Fs0++[aJ s G]).flatten) (.ref l) (.list (ds++[p.d])):=by
   refine .lst hsv fL (by simp [hl]) (by simp [hf]) ?_ fun j w d' G' e1 e2 e3=>?_
   ·have nd2:=E3.ndO
    exact (List.nodup_append.mp nd2).1
   ·by_cases hj:j<vs.length
    ·rw [getElem?_append_left hj] at e1
     rw [getElem?_append_left (by omega)] at e2
     rw [getElem?_append_left (by omega)] at e3
     exact ((q j w d' G' e1 e2 e3).perm subH).mut hsv (mem_append_left _ hlin) (fun z=>(List.nodup_cons.mp nd).1 (ja e3 z)) hp
    ·have hj':j=vs.length:=by
      have:=(List.getElem?_eq_some_iff.mp e1).1
      rw [length_append,length_singleton] at this;omega
     subst hj'
     rw [getElem?_append_right (Nat.le_refl _),Nat.sub_self] at e1;rw [getElem?_append_right (by omega),show vs.length-ds.length=0 by omega] at e2
     rw [getElem?_append_right (by omega),show vs.length-Fs0.length=0 by omega] at e3
     cases e1
     cases e2
     cases e3;have osub:∀a∈(l::(Fs0++[aJ s G]).flatten)++O++(Fs.set i []).flatten,a∈G++O++Fs.flatten:=fun a ha=>by
      rcases List.mem_append.mp (subH a ha) with z | z
      ·rcases List.mem_append.mp z with z | z
       ·exact mem_append_right _ (sub a (mem_append_left _ z))
       ·exact mem_append_left _ z
      ·exact mem_append_right _ (sub a (mem_append_right _ z))
     have o3:=o.coer (s:=s) hc osub fun a ha hO=>by
      cases s with
      | leaf=>
       exfalso
       rw [uI] at hO;have hO':a∈(l::Fs0.flatten)++O++(Fs.set i []).flatten:=by simpa [aJ] using hO
       have ndE:=E.nd
       rw [append_assoc] at ndE;have dis:=(List.nodup_append.mp ndE).2.2
       rcases List.mem_append.mp hO' with z | z
       ·rcases List.mem_append.mp z with z | z
        ·exact dis a ha a (mem_append_right _ (sub a (mem_append_left _ z))) rfl
        ·exact dis a ha a (mem_append_left _ z) rfl
       ·exact dis a ha a (mem_append_right _ (sub a (mem_append_right _ z))) rfl
      | view=>cases hsv
      | lst s=>exact ha
      | tup ss=>exact ha
     exact o3.mut hsv (mem_append_left _ hlin) (fun z=>lnG (hG' l z)) hp
  have fin:=EnvOk.put (i:=i) (p:=⟨.lst s,.list (ds++[p.d])⟩) (v:=.ref l) E4 ownL rfl (fun a ha=>?_) (by rw [length_set];exact hi)
  ·rw [set_set,set_set,A7 h1] at fin
   exact fin
  ·rcases List.mem_cons.mp ha with z | z
   ·rw [z];exact hHe
   ·rw [uI] at z
    rcases List.mem_append.mp z with z | z
    ·exact E.fresh a (sub a (mem_append_left _ (mem_cons_of_mem _ z)))
    ·exact fr a (hG' a z)
theorem rA {QL:List V->Hp->Prop} (h1:tE K W fa U H fun v H'=>QL [v] H'):tA K W (ab fa ae) U H QL:=by
 obtain ⟨He,O,Fs,Γ,E,h1⟩:=h1;refine ⟨He,O,Fs,Γ,E,?_⟩
 unfold ab ae
 cases e:fa Γ with
 | ok p Γ'=>
  rw [e] at h1;intro vs H' Gs Fs' A
  match vs,Gs,A.len1,A.len2 with
  | [v],[G],_,_=>exact h1 v H' G Fs' ⟨A.same,by simpa using A.env,by simpa using A.new,by simpa using A.own 0 v p G rfl rfl rfl⟩
 | er c Γ'=>rw [e] at h1;exact h1
 | no=>rw [e] at h1;exact h1
theorem pV {o:Option (Option PV)} (h:AV o=true):∃s ds,o=some (some ⟨.lst s,.list ds⟩):=by
 unfold AV at h;split at h
 ·exact ⟨_,_,rfl⟩
 ·cases h
theorem EnvOk.ownL {H:Hp} {O:List Addr} {Γ:Ev} {i:Nat} {s:Sh} {ds:List PySem.PyData} (E:EnvOk K He O Fs H U Γ) (h:Γ[i]?=some (some ⟨.lst s,.list ds⟩)):∃l vs,U[i]?=some (some (.ref l))/\H l=some (.lst vs)/\vs.length=ds.length:=by
 obtain ⟨hv,v,F,h1,h2,h3⟩:=E.slot i _ h
 cases h3 with
 | @lst _ l vs _ Fs0 hsv hp hl hf nd q=>exact ⟨l,vs,h1,hp,hl⟩
theorem pD {i:Nat} (h:tS K W (gM i fa) D U H):d6 (uk K "list" xc (dU i) (tA K W (ab fa ae))) D U H:=by
 obtain ⟨He,O,Fs,Γ,E,h⟩:=h;unfold gM at h
 cases ho:AV Γ[i]? with
 | false=>rw [ho] at h;exact h.elim
 | true=>
  rw [ho] at h;obtain ⟨s,ds,e0⟩:=pV ho;obtain ⟨l,vs,h1,h2,h3⟩:=E.ownL e0;refine ⟨.ref l,h1,.inl ⟨rfl,vs,.of h2⟩,rA (fP (D:=D) ⟨He,O,Fs,Γ,E,h⟩ fun He O Fs Γ1 p v H1 G Fs1 _ fr A w=>?_)⟩
  unfold wO at w;split at w
  ·rename_i s1 ds1 e1
   cases hc:(T.coer s1 p&&decide (ds1.length<sizeLine)) with
   | false=>rw [hc] at w;exact w.elim
   | true=>
    rw [hc] at w;simp only [Bool.and_eq_true,decide_eq_true_eq] at hc
    obtain ⟨l1,vs1,q1,q2,q3,Fs',E'⟩:=oS A.env A.own fr e1 hc.1;rw [h1] at q1
    cases q1;exact ⟨l,vs1,v,rfl,rfl,q2,by rw [q3];exact hc.2,w U _ Fs' E'⟩
  ·exact w.elim
def aR (i:Nat) (body:FS):List PySem.PyData->Ev->OutS
 | [],Γ=>.nx Γ
 | d::r,Γ=>if i<Γ.length then (match body (Γ.set i (some ⟨.leaf,d⟩)) with
  | .nx Γ'=>aR i body r Γ'
  | .ct Γ'=>aR i body r Γ'
  | .bk Γ'=>.nx Γ'
  | .rt p=>.rt p
  | .er c Γ'=>.er c Γ'
  | .no=>.no) else .no
def bU (i:Nat) (fi:FI) (body:FS):FS:=fun Γ=>match fi Γ with
 | .ok t Γ1=>if t.st then aR i body t.ds Γ1 else .no
 | .er c Γ1=>.er c Γ1
 | .no=>.no
theorem EnvOk.rebase {H:Hp} {O:List Addr} {Γ:Ev} (E:EnvOk K He O Fs H U Γ):EnvOk K (cF H Fs.flatten) O Fs H U Γ/\Same He (cF H Fs.flatten):=
 ⟨⟨E.len1,E.len2,hid_le,E.nd,E.inH,fun a ha=>by unfold cF;rw [if_pos ha],E.slot⟩,fun b o e=>A5 (E.same b o e) fun z=>by have:=E.fresh b z;rw [e] at this;cases this⟩
theorem EnvOk.unbase {H:Hp} {O:List Addr} {Γ:Ev} (E:EnvOk K He' O Fs H U Γ) (s:Same He He'):EnvOk K He O Fs H U Γ:=
 ⟨E.len1,E.len2,s.trans E.same,E.nd,E.inH,fun a ha=>s.free (E.fresh a ha),E.slot⟩
theorem RetOk.unbase {H:Hp} {O G:List Addr} {p:PV} {v:V} (r:RetOk K He' O p v H G) (s:Same He He'):RetOk K He O p v H G:=
 ⟨s.trans r.same,fun a ha=>s.free (r.fresh a ha),r.inH,r.nd,r.own,r.nv⟩
theorem yQ {i:Nat} {fi:FI} {body:FS} (h:tS K W (bU i fi body) D U H):uV (tI K W fi) (gName i) (tS K W body) D U H:=by
 obtain ⟨He,O,Fs,Γ,E,h⟩:=h;refine ⟨He,O,Fs,Γ,E,?_⟩
 unfold bU at h
 cases e:fi Γ with
 | er c Γ1=>rw [e] at h;exact fun H' Fs' s E'=>h U H' Fs' E'
 | no=>rw [e] at h;exact h
 | ok t Γ1=>
  rw [e] at h;intro J H1 Fs1 vs P s1 E1 n1 it hP hP1 hst hr;have h:kq K W He O D (if t.st then aR i body t.ds Γ1 else .no):=h
  cases ht:t.st with
  | false=>rw [ht] at h;exact h.elim
  | true=>
   rw [ht] at h;have h:kq K W He O D (aR i body t.ds Γ1):=h
   obtain ⟨E1',sHe⟩:=E1.rebase;have hlen:vs.length=t.ds.length:=hr.1
   refine ⟨fun k m U' H'=>m=vs.length-k/\k<=vs.length/\∃Γk Fk,EnvOk K (cF H1 Fs1.flatten) O Fk H' U' Γk/\kq K W He O D (aR i body (t.ds.drop k) Γk),⟨vs.length,by simp,Nat.zero_le _,Γ1,Fs1,E1',by simpa using h⟩,?_⟩
   rintro k m U' H' ⟨rfl,hk,Γk,Fk,Ek,hw⟩
   have hPk:P H':=hst ht H' Ek.same
   by_cases hlt:k<vs.length
   case neg=>
    left
    have hke:k=vs.length:=by omega
    have:t.ds.drop k=[]:=List.drop_eq_nil_of_le (by omega)
    rw [this] at hw;exact ⟨by rw [hke];exact it.stop H' hPk,hw U' H' Fk (Ek.unbase sHe)⟩
   case pos=>
    right
    have hv:vs[k]?=some vs[k]:=getElem?_eq_getElem hlt
    have hkd:k<t.ds.length:=by omega
    have hd:t.ds[k]?=some t.ds[k]:=getElem?_eq_getElem hkd
    have hdr:t.ds.drop k=t.ds[k]::t.ds.drop (k+1):=List.drop_eq_getElem_cons hkd
    rw [hdr] at hw;generalize hdk:t.ds[k]=d at hd hw
    generalize hvk:vs[k]=v at hv
    obtain ⟨hgo,hyld⟩:=it.go k H' v hPk hv
    simp only [aR] at hw
    by_cases hi:i<Γk.length
    case neg=>rw [if_neg hi] at hw;exact hw.elim
    rw [if_pos hi] at hw;have rep:Rep K (cF H' (O++Fk.flatten)) v d:=by
     refine (hr.2 k v d hv hd).mono fun b o hb=>?_
     have hb1:cF H1 Fs1.flatten b=some o:=sub_hid b o hb
     have hbO:b∉O:=fun z=>by
      unfold cF at hb;rw [if_pos (mem_append_left _ z)] at hb
      cases hb
     have hbF:b∉Fk.flatten:=fun z=>by
      have:=Ek.fresh b z
      rw [hb1] at this
      cases this
     exact A5 (Ek.same b o hb1) fun z=>(List.mem_append.mp z).elim hbO hbF
    have Ep:EnvOk K (cF H1 Fs1.flatten) O (Fk.set i []) H' (U'.set i (some v)) (Γk.set i (some ⟨.leaf,d⟩)):=
     EnvOk.put (G:=[]) (p:=⟨.leaf,d⟩) (v:=v) Ek (.leaf rep) rfl (fun a ha=>by simp at ha) hi
    refine ⟨hgo,fun U2 H2=>∃Γk Fk,EnvOk K (cF H1 Fs1.flatten) O Fk H2 U2 Γk/\kq K W He O D (aR i body (t.ds.drop (k+1)) Γk),fun U2 H2 q=>⟨vs.length-(k+1),by omega,rfl,hlt,q⟩,fun x Hx hx=>?_⟩
    obtain ⟨rfl,rfl⟩:=hyld x Hx hx;show tS K W body _ (U'.set i (some x)) Hx
    refine ⟨cF H1 Fs1.flatten,O,_,_,Ep,?_⟩
    cases eb:body (Γk.set i (some ⟨.leaf,d⟩)) with
    | nx Γ'=>rw [eb] at hw;exact fun U2 H2 F2 E2=>⟨Γ',F2,E2,hw⟩
    | ct Γ'=>rw [eb] at hw;exact fun U2 H2 F2 E2=>⟨Γ',F2,E2,hw⟩
    | bk Γ'=>rw [eb] at hw;exact fun U2 H2 F2 E2=>hw U2 H2 F2 (E2.unbase sHe)
    | rt p=>rw [eb] at hw;exact fun u H2 G r=>hw u H2 G (r.unbase sHe)
    | er c Γ'=>rw [eb] at hw;exact fun U2 H2 F2 E2=>hw U2 H2 F2 (E2.unbase sHe)
    | no=>rw [eb] at hw;exact hw
end
inductive Res where
 | ok (p:PV) | er (c:Str) | no
def o9 (K:Fg) (n:Nat) (den:List PySem.PyData->Res):Sp:=fun vs H Q _=>vs.length=n/\∃O ds,O.Nodup/\(∀a∈O,H a≠none)/\Reps K (cF H O) vs ds/\match den ds with
 | .ok p=>∀v H' G,RetOk K H O p v H' G->Q v H'
 | .er _=>False
 | .no=>False
def bh (n:Nat) (ds:List PySem.PyData):Ev:=ds.map (fun d=>some ⟨.leaf,d⟩)++List.replicate (n-ds.length) none
def aI (n:Nat) (g:FS) (ds:List PySem.PyData):Res:=match g (bh n ds) with
 | .nx _=>.ok ⟨.leaf,.none⟩
 | .rt p=>.ok p
 | .er c _=>.er c
 | _=>.no
section
variable {P:Program} {w:World} {K:Fg} {mg:Str->Option Value} {base:Heap}
theorem pZ {H:Hp} {O:List Addr} {ds:List PySem.PyData} (hn:vs.length<=N.length) (nd:O.Nodup) (inH:∀a∈O,H a≠none) (rs:Reps K (cF H O) vs ds) :
  EnvOk K H O (List.replicate N.length []) H (L2.start N vs) (bh N.length ds):=by
 have fl:(List.replicate N.length ([]:List Addr)).flatten=[]:=by simp
 have hl:=rs.1
 refine ⟨by simp [L2.start,bh,hl],by simp [bh];omega,Same.refl _,by rw [fl];simpa using nd,by rw [fl];simpa using inH,fun a ha=>by rw [fl] at ha;simp at ha,fun i p hp=>?_⟩
 unfold bh at hp;by_cases hi:i<ds.length
 ·rw [getElem?_append_left (by simpa using hi),getElem?_map,getElem?_eq_getElem hi] at hp
  cases hp;refine ⟨rfl,vs[i]'(by omega),[],?_,?_,?_⟩
  ·unfold L2.start
   rw [getElem?_append_left (by simp;omega),getElem?_map,getElem?_eq_getElem (by omega)]
   rfl
  ·rw [getElem?_replicate,if_pos (by omega)]
  ·refine .leaf ?_
   rw [fl,append_nil];exact rs.2 i _ _ (getElem?_eq_getElem _) (getElem?_eq_getElem hi)
 ·rw [getElem?_append_right (by simpa using hi),getElem?_replicate] at hp
  split at hp<;>cases hp
theorem Ai {st:Stmt} {f:Addr} {g:FS} (F:Fun K x qual st f fd) (S:fx N ps (jG st))
  (hb:∀(cdv:Value) (A:Around) (outer:List Env) (s:Shared) (H:Hp) (E:XK),Room k (A.deeper (envOfC qual (jG st) s.heap.objs.size f cdv)) ->
   PSs (lZ oU P w K mg base N qual (jG st) f cdv A outer s H E).nox (uE st) (tS K W0 g)):fy P w K mg base oU (k+1) f fd ps (o9 K ps.length (aI N.length g)):=by
 have hpl:ps.length<=N.length:=by have:=congrArg List.length S.pre;rw [List.length_take] at this;omega
 refine F.ok S (fun vs H Q E h=>h.1) (fun cdv A outer s H vs Q E hr h=>⟨_,hb cdv A outer s H E hr,?_⟩)
 obtain ⟨hl,O,ds,nd,inH,rs,w⟩:=h;refine ⟨H,O,List.replicate N.length [],bh N.length ds,pZ (by omega) nd inH rs,?_⟩
 unfold aI at w
 cases e:g (bh N.length ds) with
 | nx Γ'=>
  rw [e] at w;exact fun U' H' Fs' E'=>w .non H' [] ⟨E'.same,(fun _ z=>nomatch z),(fun _ z=>nomatch z),nodup_nil,.leaf .non,rfl⟩
 | rt p=>rw [e] at w;exact w
 | bk Γ'=>rw [e] at w;exact w.elim
 | ct Γ'=>rw [e] at w;exact w.elim
 | er c Γ'=>rw [e] at w;exact w.elim
 | no=>rw [e] at w;exact w.elim
end
def ar (n:Nat) (den:List PySem.PyData->Res) (fl:FL):F1:=fun Γ=>(fl Γ).bind fun ps Γ'=>if ps.length=n then (match den (ps.map (·.d)) with
 | .ok p=>if ps.all (T.coer .leaf) then .ok p Γ' else if aT p.d then .ok ⟨.leaf,p.d⟩ Γ' else .ok ⟨.view,p.d⟩ Γ'
 | _=>.no) else .no
section
variable {K:Fg} {W:XW} {U:St} {H:Hp} {Q:VK} {fl:FL}
theorem vv {den:List PySem.PyData->Res} {E:XK} (h:tE K W (ar n den fl) U H Q):nS (o9 K n den) [] E (tA K W fl) U H Q:=by
 obtain ⟨He,O,Fs,Γ,E0,h⟩:=h;refine ⟨He,O,Fs,Γ,E0,?_⟩
 unfold ar at h
 cases e:fl Γ with
 | er c Γ'=>rw [e] at h;exact h
 | no=>rw [e] at h;exact h
 | ok ps Γ1=>
  rw [e] at h;intro vs H1 Gs Fs1 A;have h:Wants K W He O Fs H U Q (if ps.length=n then (match den (ps.map (·.d)) with | .ok p=>if ps.all (T.coer .leaf) then .ok p Γ1 else if aT p.d then .ok ⟨.leaf,p.d⟩ Γ1 else .ok ⟨.view,p.d⟩ Γ1 | _=>.no) else .no):=h
  by_cases hn:ps.length=n
  case neg=>rw [if_neg hn] at h;exact h.elim
  rw [if_pos hn] at h;have hl:(vs++[]).length=n:=by rw [append_nil,A.len1];exact hn
  cases ed:den (ps.map (·.d)) with
  | er c=>rw [ed] at h;exact h.elim
  | no=>rw [ed] at h;exact h.elim
  | ok p=>
   rw [ed] at h;have h:Wants K W He O Fs H U Q (if ps.all (T.coer .leaf) then .ok p Γ1 else if aT p.d then .ok ⟨.leaf,p.d⟩ Γ1 else .ok ⟨.view,p.d⟩ Γ1):=h
   obtain ⟨n1,n2,n3⟩:=List.nodup_append.mp A.env.nd;obtain ⟨m1,m2,m3⟩:=List.nodup_append.mp n1;have newF:∀a∈Fs1.flatten,a∈Fs.flatten\/H a=none:=fun a ha=>A.new a (mem_append_right _ ha)
   cases hc:ps.all (T.coer .leaf) with
   | true=>
    rw [hc] at h;have h:Wants K W He O Fs H U Q (.ok p Γ1):=h
    refine ⟨hl,O++Fs1.flatten,ps.map (·.d),A.env.dropL.nd,A.env.dropL.inH,?_,?_⟩
    ·rw [append_nil]
     refine ⟨A.reps.1,fun i v d h1 h2=>?_⟩
     rw [getElem?_map] at h2
     cases e2:ps[i]? with
     | none=>rw [e2] at h2;cases h2
     | some q=>
      rw [e2] at h2
      cases h2;have hi:=(List.getElem?_eq_some_iff.mp e2).1
      have e3:Gs[i]?=some (Gs[i]'(by rw [A.len2];exact hi)):=getElem?_eq_getElem _
      have o:=A.own i v q _ h1 e2 e3
      have o2:=o.coer (s:=.leaf) (O':=O++Fs1.flatten) (List.all_eq_true.mp hc q (mem_of_getElem? e2)) jL fun a ha z=>by
       exfalso
       have hG:=ja e3 ha
       rcases List.mem_append.mp z with y | y
       ·exact m3 a hG a y rfl
       ·exact n3 a (mem_append_left _ hG) a y rfl
      cases o2 with
      | leaf r=>exact r
    ·rw [ed]
     intro v H2 G r;refine h v H2 G Fs1 ⟨A.same.trans r.same,A.env.dropL.hide r.same r.nd r.fresh r.inH,fun a ha=>?_,by rw [append_assoc];exact r.own⟩
     rcases List.mem_append.mp ha with z | z
     ·exact .inr (A.same.free (r.fresh a z))
     ·exact newF a z
   | false=>
    rw [hc] at h;have h:Wants K W He O Fs H U Q (if aT p.d then .ok ⟨.leaf,p.d⟩ Γ1 else .ok ⟨.view,p.d⟩ Γ1):=h
    refine ⟨hl,[],ps.map (·.d),nodup_nil,(fun _ z=>nomatch z),by rw [append_nil,DX];exact A.reps,?_⟩
    rw [ed];intro v H2 G r
    cases hs:aT p.d with
    | true=>
     rw [hs] at h;exact Wants.scal h (r.own.rep.sc hs) (A.same.trans r.same) (A.env.dropL.grow r.same) (fun a ha=>ha) E0.ndO newF
    | false=>
     rw [hs] at h;have h:Wants K W He O Fs H U Q (.ok ⟨.view,p.d⟩ Γ1):=h
     exact h v H2 [] Fs1 ⟨A.same.trans r.same,by simpa using A.env.dropL.grow r.same,by simpa using newF,.view r.own.rep⟩
end
theorem CH:bootBuiltins "len"=some (.builtin "len"):=by decide +kernel
theorem xK:bootBuiltins "all"=some (.builtin "all"):=by decide +kernel
theorem CI:bootBuiltins "any"=some (.builtin "any"):=by decide +kernel
theorem CG:bootBuiltins "min"=some (.builtin "min"):=by decide +kernel
theorem tU:bootBuiltins "sorted"=some (.builtin "sorted"):=by decide +kernel
theorem kn:bootBuiltins "isinstance"=some (.builtin "isinstance"):=by decide +kernel
theorem xJ:bootBuiltins "int"=some (.type "int"):=by decide +kernel
theorem Bm:bootBuiltins "list"=some (.type "list"):=by decide +kernel
theorem oR:bootBuiltins "tuple"=some (.type "tuple"):=by decide +kernel
theorem AH:bootBuiltins "bool"=some (.type "bool"):=by decide +kernel
section
variable {X:Cx} {W:XW} {a b c e:Expr} {es:List Expr} {pos:Pos} {fa fb fc:F1} {fl:FL} {ga gb:FB} {g1 g2:FS}
theorem Az {op:CmpOp} {r:R2} {g:PySem.PyData->PySem.PyData->Option PySem.PyData} (ho:OpR X (compareOp op) r) (hg:GOp X.K r g) (ha:PE X a (tE X.K W fa)) (hb:PE X b (tE X.K W fb)) (hm:behindInMarks op b=false:=by with_unfolding_all rfl) :
  PE X (.Compare a [op] [b] pos) (tE X.K W (ax g fa fb)):=aY (vG ho ha hb hm) fun _ _ _=>fQ hg
theorem Av {op:CmpOp} {r:R2} {g:PySem.PyData->PySem.PyData->Option PySem.PyData} (ho:OpR X (compareOp op) r) (hg:GOp X.K r g) (ha:PE X a (tE X.K W fa)) (hb:PE X b (tE X.K W fb)) (hm:behindInMarks op b=false:=by with_unfolding_all rfl) :
  PT X (.Compare a [op] [b] pos) (tT X.K W (aA ag (ax g fa fb))):=t8 (vB ho ha hb hm) fun U H QB=>vh fun Q=>fQ hg
theorem tO {op op':CmpOp} {r r':R2} {g g':PySem.PyData->PySem.PyData->Option PySem.PyData} (ho:OpR X (compareOp op) r) (hg:GOp X.K r g) (ho':OpR X (compareOp op') r') (hg':GOp X.K r' g') (ha:PE X a (tE X.K W fa)) (hb:PE X b (tE X.K W fb)) (hc:PE X c (tE X.K W fc))
  (hm:lastMarks [op,op'] [b,c]=false:=by with_unfolding_all rfl):PE X (.Compare a [op,op'] [b,c] pos) (tE X.K W (xY g g' fa fb fc)):=aY (sq ho ho' ha hb hc hm) fun _ _ _=>rQ hg hg'
theorem da_nil:PA X [] (tA X.K W ae):=xP ud fun _ _ _=>yK
theorem da_cons (ha:PE X e (tE X.K W fa)) (hr:PA X es (tA X.K W fl)) (hs:starEach (e::es) X.env=(false,eval e X.env)::starEach es X.env:=by rfl):PA X (e::es) (tA X.K W (ab fa fl)):=xP (nK ha hr hs) fun _ _ _=>vu
theorem lP {id:String} {r:List V->Hp->VK->Prop} {g:List PySem.PyData->Option PySem.PyData} {p:Pos} (hc:CallR X (.builtin id) r) (hg:GCall X.K r g) (hv:bootBuiltins x=some (.builtin id)) (hm:X.mg x=none) (ha:PA X (e::es) (tA X.K W fl)) (hG:Gl X x:=by rfl)
  (hn:x ≠ "__name__":=by decide) (hdb:(x==("__debug__":Str))=false:=by decide) (he:starEach (e::es) X.env=(false,eval e X.env)::starEach es X.env:=by rfl) (hpl:(backTo pos (starEach es X.env)).any (·.1)=false:=by rfl) :
  PE X (.Call (.Name x p) (e::es) [] pos) (tE X.K W (bb g fl)):=aY (Ee hc hG hm hv ha hn hdb he hpl) fun _ _ _=>nZ hg
theorem Cz {id:String} {r:List V->Hp->VK->Prop} {g:List PySem.PyData->Option PySem.PyData} {p:Pos} (hc:CallR X (.type id) r) (hg:GCall X.K r g) (hv:bootBuiltins x=some (.type id)) (hm:X.mg x=none) (ha:PA X (e::es) (tA X.K W fl)) (hG:Gl X x:=by rfl)
  (hn:x ≠ "__name__":=by decide) (hdb:(x==("__debug__":Str))=false:=by decide) (he:starEach (e::es) X.env=(false,eval e X.env)::starEach es X.env:=by rfl) (hpl:(backTo pos (starEach es X.env)).any (·.1)=false:=by rfl) :
  PE X (.Call (.Name x p) (e::es) [] pos) (tE X.K W (bb g fl)):=aY (EH hc hG hm hv ha hn hdb he hpl) fun _ _ _=>nZ hg
theorem qj {p:Pos} (hm:X.mg "list"=none) (ha:PE X e (tE X.K W fa)) (hG:Gl X "list":=by rfl) (hs:starEach [e] X.env=[(false,eval e X.env)]:=by rfl) :
  PE X (.Call (.Name "list" p) [e] [] pos) (tE X.K W (i9 fa)):=aY (EH fo hG hm Bm (da_cons ha da_nil hs) (by decide) (by decide) hs rfl) fun _ _ _=>pB
theorem wF {f:Addr} {den:List PySem.PyData->Res} {p:Pos} (F:fy X.prog X.w X.K X.mg X.base oU k f fd ps (o9 X.K n den)) (hr:Room k X.A) (hm:X.mg x=some (.ref f)) (hk:PySem.W.keepIn X.K (.ref f)=true)
  (hb:Binds X.K fd ps []) (ha:PA X (e::es) (tA X.K W fl)) (hg:Gl X x:=by rfl) (hdb:(x==("__debug__":Str))=false:=by decide) (he:starEach (e::es) X.env=(false,eval e X.env)::starEach es X.env:=by rfl)
  (hpl:(backTo pos (starEach es X.env)).any (·.1)=false:=by rfl):PE X (.Call (.Name x p) (e::es) [] pos) (tE X.K W (ar n den fl)):=aY (En F hr hg hm hk hb .nil sv ha hdb he hpl) fun _ _ _=>vv
theorem Cy {p:Pos} (hm:X.mg "range"=none) (ha:PA X [a] (tA X.K W fl)) (hg:Gl X "range":=by rfl) (hs:starEach [a] X.env=[(false,eval a X.env)]:=by rfl):PI X tg (.Call (.Name "range" p) [a] [] pos) (tI X.K W (j5 fl)):=ml (pI hg hm ha hs) fun _ _ _=>yP
theorem Cw {p:Pos} (hm:X.mg "range"=none) (ha:PA X [a,b] (tA X.K W fl)) (hg:Gl X "range":=by rfl) (hs:starEach [a,b] X.env=[(false,eval a X.env),(false,eval b X.env)]:=by rfl) (hs2:starEach [b] X.env=[(false,eval b X.env)]:=by rfl) :
  PI X tg (.Call (.Name "range" p) [a,b] [] pos) (tI X.K W (xB fl)):=ml (pH hg hm ha hs hs2) fun _ _ _=>yO
def aH:FB:=fun Γ=>.ok true Γ
theorem wD {fi:FI} {fe:F1} {fc:FB} (s:Sh) (i:Nat) (S:cT X.N [i] X.env.scope scope) (hN:X.N.Nodup) (hi':PI X (.Name x px) iter (tI X.K W fi))
  (hc:∀cells C s₀ H₀ ex,PF (blk X scope cells C s₀ H₀ ex) ifs (tT X.K W0 fc)) (he:∀cells C s₀ H₀ ex,PE (blk X scope cells C s₀ H₀ ex) elt (tE X.K W0 fe))
  (hcalm:X.calm=true:=by rfl) (hx:X.N[i]?=some x:=by rfl) (hl:∀cells C s₀ H₀ ex,Loc (blk X scope cells C s₀ H₀ ex).env.scope x:=by first | exact fun _ _ _ _ _=>Or.inl rfl | exact fun _ _ _ _ _=>Or.inr rfl)
  (hf:∀cells C s₀ H₀ ex,(blk X scope cells C s₀ H₀ ex).fn x=true\/(blk X scope cells C s₀ H₀ ex).env.scope.names.lookup x=some .local:=by first | exact fun _ _ _ _ _=>Or.inr rfl | exact fun _ _ _ _ _=>Or.inl rfl)
  (hs:∀x,foldedSetIterable iter X.env x=pure x:=by intro _;rfl):PE X (.ListComp elt [⟨.Name x px,iter,ifs,0⟩] scope pos) (tE X.K W (aj s i fi fc fe)):=
 aY (oo S hcalm hi' (fun cells C s₀ H₀ ex=>oX (X:=blk X scope cells C s₀ H₀ ex) (i:=i) hN hx (hl cells C s₀ H₀ ex) (hf cells C s₀ H₀ ex)) hc he hs) fun _ _ _=>Et
theorem Aw (own:Bool) (i:Nat) (hN:X.N.Nodup) (ha:PE X a (tE X.K W fa)) (hi:X.N[i]?=some x:=by rfl) (hx:Loc X.env.scope x:=by first | exact Or.inl rfl | exact Or.inr rfl) (hs:swapsWith a (some (.Name x pos')) pos.line X.env=pure false:=by rfl)
  (hf:X.fn x=true\/X.env.scope.names.lookup x=some .local:=by first | exact .inl rfl | exact .inr rfl):PS X (.Assign [.Name x pos'] a pos) (tS X.K W (aB own i fa)):=cO (zb hN hi hx ha hs hf) fun _ _ _=>rL
theorem m8 (own:Bool) (j:Nat) {spos:Pos} {fi:FI} {fe:F1} {fc:FB} (s:Sh) (i:Nat) (S:cT X.N [i] X.env.scope scope) (hN:X.N.Nodup) (hi':PI X (.Name x px) iter (tI X.K W fi))
  (hc:∀cells C s₀ H₀ ex,PF (blk X scope cells C s₀ H₀ ex) ifs (tT X.K W0 fc)) (he:∀cells C s₀ H₀ ex,PE (blk X scope cells C s₀ H₀ ex) elt (tE X.K W0 fe))
  (hsw:swapsWith (.ListComp elt [⟨.Name x px,iter,ifs,0⟩] scope pos) (some (.Name y pos')) spos.line X.env=pure true:=by rfl)
  (hy:X.N[j]?=some y:=by rfl) (hly:X.env.scope.names.lookup y=some .local:=by rfl)
  (hcalm:X.calm=true:=by rfl) (hx:X.N[i]?=some x:=by rfl) (hl:∀cells C s₀ H₀ ex,Loc (blk X scope cells C s₀ H₀ ex).env.scope x:=by first | exact fun _ _ _ _ _=>Or.inl rfl | exact fun _ _ _ _ _=>Or.inr rfl)
  (hf:∀cells C s₀ H₀ ex,(blk X scope cells C s₀ H₀ ex).fn x=true\/(blk X scope cells C s₀ H₀ ex).env.scope.names.lookup x=some .local:=by first | exact fun _ _ _ _ _=>Or.inr rfl | exact fun _ _ _ _ _=>Or.inl rfl)
  (hs:∀x,foldedSetIterable iter X.env x=pure x:=by intro _;rfl):PS X (.Assign [.Name y pos'] (.ListComp elt [⟨.Name x px,iter,ifs,0⟩] scope pos) spos) (tS X.K W (aB own j (aj s i fi fc fe))):=
 cO (g6 hN hy hly S hcalm hi' (fun cells C s₀ H₀ ex=>oX (X:=blk X scope cells C s₀ H₀ ex) (i:=i) hN hx (hl cells C s₀ H₀ ex) (hf cells C s₀ H₀ ex)) hc he hsw hs) fun D U H h=>by
  have h2:gW (tE X.K W (aj s i fi fc fe)) (gName j) D U H:=rL h
  exact Et h2
theorem qa (i:Nat) {p:Pos} (ha:PE X a (tE X.K W fa)) (hN:X.N[i]?=some x:=by rfl) (hv:AK X.env.scope x:=by first | exact Or.inl rfl | exact Or.inr (Or.inl rfl) | exact Or.inr (Or.inr rfl)) (hd:(x==("__debug__":Str))=false:=by decide)
  (hcd:(x==("__classdict__":Str))=false:=by decide) (hs:starEach [a] X.env=[(false,eval a X.env)]:=by rfl)
  (hbase:attributeBase (.Name x p) "append" X.env (eval (.Name x p) X.env)=eval (.Name x p) X.env:=by rfl) (hline:(apos.endLine==cpos.line)=true:=by rfl)
  (hfew:((backTo cpos (starEach [a] X.env)).all (fun x=>!x.1)&&(backToKw cpos (keywordEach [] X.env)).all (fun x=>x.1.isSome)
   && decide ([a].length+([]:List Keyword).length+(if ([]:List Keyword).isEmpty then 0 else 1)<30))=true:=by rfl)
  (hsw:swapsWith (.Call (.Attribute (.Name x p) "append" apos) [a] [] cpos) none pos.line X.env=pure false:=by rfl) :
  PS X (.Expr (.Call (.Attribute (.Name x p) "append" apos) [a] [] cpos) pos) (tS X.K W (gM i fa)):=
 cO (C1 (oq PySem.F.plainAttrs_list PySem.F.slot_list_append PySem.F.type_list_append EE (qL hN hv hd hcd) (da_cons ha da_nil hs) hbase hfew hline hs rfl) hsw) fun _ _ _=>pD
theorem Ax (i:Nat) {body:List Stmt} {fi:FI} {g:FS} (hp:PassesOwn (model X.prog X.w) X.A X.env X.xe) (hN:X.N.Nodup) (hi':PI X (.Name x px) iter (tI X.K W fi)) (hb:PSs X body (tS X.K W g)) (hcalm:X.calm=true:=by rfl)
  (hx:X.N[i]?=some x:=by rfl) (hl:Loc X.env.scope x:=by first | exact Or.inl rfl | exact Or.inr rfl) (hf:X.fn x=true\/X.env.scope.names.lookup x=some .local:=by first | exact .inl rfl | exact .inr rfl)
  (hs:∀x,foldedSetIterable iter X.env x=pure x:=by intro _;rfl):PS X (.For (.Name x px) iter body [] pos) (tS X.K W (bU i fi g)):=
 cO (DO hp hcalm hi' (oX hN hx hl hf) hb hs) fun _ _ _=>yQ
end
structure Cp (X:Cx) (N gl:List Str) (vs cs ls lo gs:List Nat):Prop where
 hN:X.N=N
 nd:N.Nodup
 nm:∀x∈N,(x==("__debug__":Str))=false/\(x==("__classdict__":Str))=false
 ng:∀x∈gl,(x==("__debug__":Str))=false/\x ≠ "__name__"
 vis:∀(i:Nat) x,N[i]?=some x->vs.contains i=true->AK X.env.scope x
 cel:∀(i:Nat) x,N[i]?=some x->cs.contains i=true->X.env.scope.names.lookup x=some .cell\/X.env.scope.names.lookup x=some .free
 loc:∀(i:Nat) x,N[i]?=some x->ls.contains i=true->Loc X.env.scope x/\(X.fn x=true\/X.env.scope.names.lookup x=some .local)
 loo:∀(i:Nat) x,N[i]?=some x->lo.contains i=true->X.env.scope.names.lookup x=some .local
 glb:∀(j:Nat) x,gl[j]?=some x->gs.contains j=true->Gl X x
 calm:X.calm=true
 kind:X.env.scope.kind=.function
def wY (sc:Scope) (ks:List NameKind) (o:Option Str):Bool:=match o with
 | some x=>(match sc.names.lookup x with
  | some k=>ks.any fun z=>decide (z=k)
  | none=>false)
 | none=>true
def oN (N gl:List Str) (vs cs ls lo gs:List Nat) (sc:Scope):Bool:=
 decide (sc.kind=.function)&&(vs.all fun i=>wY sc [.local,.cell,.free] N[i]?)&&(cs.all fun i=>wY sc [.cell,.free] N[i]?)&&(ls.all fun i=>wY sc [.local,.cell] N[i]?)&&(lo.all fun i=>wY sc [.local] N[i]?)&&(gs.all fun j=>wY sc [.globalImplicit] gl[j]?)
def Cc (N gl:List Str):Bool:=decide N.Nodup&&(N.all fun x=>!(x==("__debug__":Str))&&!(x==("__classdict__":Str)))&&(gl.all fun x=>!(x==("__debug__":Str))&&!decide (x = "__name__"))
theorem A9 {sc:Scope} {ks:List NameKind} (h:wY sc ks (some x)=true):∃k∈ks,sc.names.lookup x=some k:=by
 unfold wY at h;simp only at h
 split at h
 ·rename_i k e
  simp only [any_eq_true,decide_eq_true_eq] at h
  obtain ⟨z,hz,rfl⟩:=h;exact ⟨z,hz,e⟩
 ·cases h
theorem Bk {P:Nat->Bool} {l:List Nat} {i:Nat} (h:l.all P=true) (hi:l.contains i=true):P i=true:=by
 rw [all_eq_true] at h;exact h i (by simpa using hi)
structure Hl (N gl:List Str) (vs cs ls lo gs:List Nat) (sc:Scope):Prop where
 kind:sc.kind=.function
 vis:∀(i:Nat) x,N[i]?=some x->vs.contains i=true->AK sc x
 cel:∀(i:Nat) x,N[i]?=some x->cs.contains i=true->sc.names.lookup x=some .cell\/sc.names.lookup x=some .free
 loc:∀(i:Nat) x,N[i]?=some x->ls.contains i=true->Loc sc x
 loo:∀(i:Nat) x,N[i]?=some x->lo.contains i=true->sc.names.lookup x=some .local
 glb:∀(j:Nat) x,gl[j]?=some x->gs.contains j=true->sc.names.lookup x=some .globalImplicit
theorem D2 {vs:List Nat} {sc:Scope} (h:oN N gl vs cs ls lo gs sc=true):Hl N gl vs cs ls lo gs sc:=by
 unfold oN at h;simp only [Bool.and_eq_true,decide_eq_true_eq] at h
 obtain ⟨⟨⟨⟨⟨h0,h1⟩,h2⟩,h3⟩,h4⟩,h5⟩:=h;refine ⟨h0,fun i x e hi=>?_,fun i x e hi=>?_,fun i x e hi=>?_,fun i x e hi=>?_,fun i x e hi=>?_⟩
 ·have q:=Bk h1 hi
  rw [e] at q;obtain ⟨k,hk,q⟩:=A9 q;simp only [mem_cons,not_mem_nil,or_false] at hk
  rcases hk with rfl | rfl | rfl
  ·exact .inl q
  ·exact .inr (.inl q)
  ·exact .inr (.inr q)
 ·have q:=Bk h2 hi
  rw [e] at q;obtain ⟨k,hk,q⟩:=A9 q;simp only [mem_cons,not_mem_nil,or_false] at hk
  rcases hk with rfl | rfl
  ·exact .inl q
  ·exact .inr q
 ·have q:=Bk h3 hi
  rw [e] at q;obtain ⟨k,hk,q⟩:=A9 q;simp only [mem_cons,not_mem_nil,or_false] at hk
  rcases hk with rfl | rfl
  ·exact .inl q
  ·exact .inr q
 ·have q:=Bk h4 hi
  rw [e] at q;obtain ⟨k,hk,q⟩:=A9 q;simp only [mem_cons,not_mem_nil,or_false] at hk
  rw [hk] at q;exact q
 ·have q:=Bk h5 hi
  rw [e] at q;obtain ⟨k,hk,q⟩:=A9 q;simp only [mem_cons,not_mem_nil,or_false] at hk
  rw [hk] at q;exact q
theorem sE (h:Cc N gl=true):N.Nodup/\(∀x∈N,(x==("__debug__":Str))=false/\(x==("__classdict__":Str))=false)/\∀x∈gl,(x==("__debug__":Str))=false/\x ≠ "__name__":=by
 unfold Cc at h;simp only [Bool.and_eq_true,decide_eq_true_eq,all_eq_true,Bool.not_eq_true',decide_eq_false_iff_not] at h
 exact ⟨h.1.1,h.1.2,h.2⟩
theorem Cp.fn {P:Program} {w:World} {K:Fg} {base:Heap} {vs:List Nat} {sc:Scope} {f:Addr} {cd:Value} {outer:List Env} {s:Shared} {H:Hp} {E:XK}
  (h:oN N gl vs cs ls lo gs sc=true) (h':Cc N gl=true):Cp (lZ oU P w K mg base N qual sc f cd A outer s H E).nox N gl vs cs ls lo gs:=by
 obtain ⟨a,b,c⟩:=sE h'
 have q:=D2 h
 exact ⟨rfl,a,b,c,q.vis,q.cel,fun i x e hi=>⟨q.loc i x e hi,.inl rfl⟩,q.loo,q.glb,rfl,q.kind⟩
theorem xr {env:Env} {x:Str} {k:NameKind}:∀{names:List (Str×NameKind)},names.lookup x=some k ->
  (names.map fun (n,k)=>if (k==NameKind.free&&env.scope.kind==.function&&env.kindOf n==some .cell) then (n,NameKind.cell) else (n,k)).lookup x=some k \/
  (k=.free/\(names.map fun (n,k)=>if (k==NameKind.free&&env.scope.kind==.function&&env.kindOf n==some .cell) then (n,NameKind.cell) else (n,k)).lookup x=some .cell)
 | [],h=>by simp at h
 | (n,k')::r,h=>by
  have ih:=@xr env x k r
  rw [map_cons];show List.lookup x ((if (k'==NameKind.free&&env.scope.kind==.function&&env.kindOf n==some .cell)=true then (n,NameKind.cell) else (n,k'))::_)=_\/_/\List.lookup x ((if (k'==NameKind.free&&env.scope.kind==.function&&env.kindOf n==some .cell)=true then (n,NameKind.cell) else (n,k'))::_)=_
  by_cases hc:(k'==NameKind.free&&env.scope.kind==.function&&env.kindOf n==some .cell)=true
  ·rw [if_pos hc]
   cases hx:x==n with
   | true=>
    simp only [lookup_cons,hx] at h ⊢
    cases h;simp only [Bool.and_eq_true,beq_iff_eq] at hc
    exact .inr ⟨hc.1.1,trivial⟩
   | false=>
    simp only [lookup_cons,hx] at h ⊢
    exact ih h
  ·rw [if_neg hc]
   cases hx:x==n with
   | true=>
    simp only [lookup_cons,hx] at h ⊢
    cases h;exact .inl rfl
   | false=>
    simp only [lookup_cons,hx] at h ⊢
    exact ih h
theorem uC {k:NameKind} (h:scope.names.lookup x=some k):(relabel scope env).names.lookup x=some k\/(k=.free/\(relabel scope env).names.lookup x=some .cell):=xr h
theorem Cp.blk {X:Cx} {N gl:List Str} {vs cs ls lo gs vs' cs' ls' lo' gs':List Nat} {scope:Scope} (S:Cp X N gl vs cs ls lo gs) (h:oN N gl vs' cs' ls' lo' gs' scope=true) (cells C s₀ H₀ ex) :
  Cp (blk X scope cells C s₀ H₀ ex) N gl vs' cs' ls' lo' gs':=by
 have q:=D2 h
 refine ⟨S.hN,S.nd,S.nm,S.ng,fun i x e hi=>?_,fun i x e hi=>?_,fun i x e hi=>?_,fun i x e hi=>?_,fun i x e hi=>?_,S.calm,q.kind⟩
 ·show AK (relabel scope X.env) x
  rcases q.vis i x e hi with z | z | z
  ·rcases uC (env:=X.env) z with y | ⟨y,_⟩
   ·exact .inl y
   ·cases y
  ·rcases uC (env:=X.env) z with y | ⟨y,_⟩
   ·exact .inr (.inl y)
   ·cases y
  ·rcases uC (env:=X.env) z with y | ⟨_,y⟩
   ·exact .inr (.inr y)
   ·exact .inr (.inl y)
 ·show (relabel scope X.env).names.lookup x=some .cell\/(relabel scope X.env).names.lookup x=some .free
  rcases q.cel i x e hi with z | z
  ·rcases uC (env:=X.env) z with y | ⟨y,_⟩
   ·exact .inl y
   ·cases y
  ·rcases uC (env:=X.env) z with y | ⟨_,y⟩
   ·exact .inr y
   ·exact .inl y
 ·show Loc (relabel scope X.env) x/\((scope.names.any fun y=>y.1==x&&y.2==.cell)=true\/(relabel scope X.env).names.lookup x=some .local)
  rcases q.loc i x e hi with z | z
  ·rcases uC (env:=X.env) z with y | ⟨y,_⟩
   ·exact ⟨.inl y,.inr y⟩
   ·cases y
  ·rcases uC (env:=X.env) z with y | ⟨y,_⟩
   ·refine ⟨.inr y,.inl ?_⟩
    rw [any_eq_true];exact ⟨(x,.cell),ib z,by simp⟩
   ·cases y
 ·show (relabel scope X.env).names.lookup x=some .local
  rcases uC (env:=X.env) (q.loo i x e hi) with y | ⟨y,_⟩
  ·exact y
  ·cases y
 ·show (relabel scope X.env).names.lookup x=some .globalImplicit
  rcases uC (env:=X.env) (q.glb i x e hi) with y | ⟨y,_⟩
  ·exact y
  ·cases y
def fW (N:List Str) (i:Nat) (cs:List Nat) (sc:Scope):Bool:=
 decide (sc.kind=.function)&&(sc.names.all fun p=>!decide (p.2=.free)||cs.any fun j=>decide (N[j]?=some p.1)) &&
 ((List.range N.length).all fun j=>j==i||(sc.names.all fun p=>!decide (some p.1=N[j]?)||(!decide (p.2=.local)&&!decide (p.2=.cell)))) &&
 (sc.names.all fun p=>!decide (p.2=.local)||decide (sc.names.lookup p.1=some .local)) &&
 (sc.names.all fun p=>!decide (p.2=.free)||sc.names.all fun q=>!decide (q.1=p.1)||!decide (q.2=.cell))
theorem D8 {vs:List Nat} {i:Nat} (S:Cp X N gl vs cs ls lo gs) (h:fW N i cs scope=true):cT X.N [i] X.env.scope scope:=by
 unfold fW at h;simp only [Bool.and_eq_true,decide_eq_true_eq,all_eq_true,Bool.or_eq_true,Bool.not_eq_true',decide_eq_false_iff_not,any_eq_true,mem_range,beq_iff_eq] at h
 obtain ⟨⟨⟨⟨h0,h1⟩,h2⟩,h3⟩,h4⟩:=h;refine ⟨h0,fun n hn=>?_,fun j x e hj=>?_,fun x hx e=>?_,fun n hn hc=>?_⟩
 ·rcases h1 _ hn with z | ⟨j,hj,e⟩
  ·exact absurd rfl z
  ·exact S.cel j n e (by simpa using hj)
 ·rw [S.hN] at e
  rcases h2 j (List.getElem?_eq_some_iff.mp e).1 with z | z
  ·rw [z];exact List.mem_singleton.mpr rfl
  ·exfalso
   rcases hj with y | y
   ·rcases z _ y with w | w
    ·exact w e.symm
    ·exact w.1 rfl
   ·rcases z _ y with w | w
    ·exact w e.symm
    ·exact w.2 rfl
 ·rcases h3 x hx with z | z
  ·exact absurd e z
  ·exact z
 ·rcases h4 _ hn with z | z
  ·exact z rfl
  ·rcases z _ hc with w | w
   ·exact w rfl
   ·exact w rfl
structure Fx (X Y:Cx):Prop where
 prog:Y.prog=X.prog
 w:Y.w=X.w
 K:Y.K=X.K
 mg:Y.mg=X.mg
 base:Y.base=X.base
 A:Y.A=X.A
def Rm (X:Cx):Prop:=X.A.units+64<cLine
def AR (X:Cx) (x:Str) (n:Nat) (den:List PySem.PyData->Res):Prop:=∃(k:Nat) (f:Addr) (fd:FuncData) (ps:List Str),fy X.prog X.w X.K X.mg X.base oU k f fd ps (o9 X.K n den)/\Room k X.A/\X.mg x=some (.ref f)/\PySem.W.keepIn X.K (.ref f)=true/\Binds X.K fd ps []
def Hm (X:Cx) (x:Str) (d:PySem.PyData):Prop:=∃u v,X.mg x=some u/\RelV v u/\∀H,Rep X.K H v d
section
variable {X:Cx} {N gl:List Str} {vs cs ls lo gs:List Nat} {W:XW} {a b c e:Expr} {es:List Expr} {pos p:Pos} {fa fb fc:F1} {fl:FL} {ga gb:FB} {g1 g2:FS}
theorem Cp.g (S:Cp X N gl vs cs ls lo gs) {j:Nat} (hj:gl[j]?=some x) (hg:gs.contains j=true):Gl X x/\(x==("__debug__":Str))=false/\x ≠ "__name__":=
 ⟨S.glb j x hj hg,S.ng x (mem_of_getElem? hj)⟩
def BX:R2:=fun x y H Q=>og (fun i j=>.bl (decide (i<j))) x y H Q\/∃i j,x=.str i/\y=.str j/\Q (.bl (decide (i.cps.toList<j.cps.toList))) H
theorem Ca:OpR X (compareOp .Lt) BX:=op_lt.or pK
def Ag:PySem.PyData->PySem.PyData->Option PySem.PyData
 | .str i,.str j=>some (.bool (!decide (i.cps.toList<j.cps.toList)))
 | _,_=>none
abbrev m5:PySem.PyData->PySem.PyData->Option PySem.PyData:=fun a b=>(Hi a b).or (Ag a b)
def yW:R2:=fun x y H Q=>og (fun i j=>.bl (decide (j<=i))) x y H Q\/∃i j,x=.str i/\y=.str j/\Q (.bl (!decide (i.cps.toList<j.cps.toList))) H
theorem pL:OpR X (compareOp .GtE) (fun x y H Q=>∃i j,x=.str i/\y=.str j/\Q (.bl (!decide (i.cps.toList<j.cps.toList))) H):=by
 intro pins s U H x y v u Q I rx ry h;obtain ⟨i,j,rfl,rfl,q⟩:=h;obtain ⟨t,rfl⟩:=rx;obtain ⟨t',rfl⟩:=ry;exact PySem.P.ge_str (Bn I q rfl)
theorem Cb:OpR X (compareOp .GtE) yW:=op_ge.or pL
theorem v7 {K:Fg}:GOp K (fun x y H Q=>∃i j,x=.str i/\y=.str j/\Q (.bl (!decide (i.cps.toList<j.cps.toList))) H) Ag:=by
 intro x y H Q a b d ra rb e k
 cases ra<;>cases rb<;>simp only [Ag] at e<;>try cases e
 rename_i i j;exact ⟨i,j,rfl,rfl,k _ (.bl _)⟩
theorem zZ {K:Fg}:GOp K yW m5:=(AU fun _ _=>.bl _).or v7
structure Ck (X:Cx) (op:CmpOp) (r:R2) (g:PySem.PyData->PySem.PyData->Option PySem.PyData):Prop where
 o:OpR X (compareOp op) r
 g:GOp X.K r g
theorem mR (R:Rm X):Ck X .Lt BX ik:=⟨Ca,zY⟩
theorem FT (R:Rm X):Ck X .LtE (og fun i j=>.bl (decide (i<=j))) DB:=⟨B7,AU fun _ _=>.bl _⟩
theorem gq (R:Rm X):Ck X .Gt (og fun i j=>.bl (decide (j<i))) dW:=⟨B8,AU fun _ _=>.bl _⟩
theorem FU (R:Rm X):Ck X .GtE yW m5:=⟨Cb,zZ⟩
theorem gr (R:Rm X):Ck X .Eq (pF X.K false) cJ:=⟨zw R,Aa⟩
theorem df (R:Rm X):Ck X .NotEq (pF X.K true) cw:=⟨zp R,zX⟩
theorem cx (R:Rm X):Ck X .In (rZ X.K false) (aV false):=⟨zu R,td⟩
theorem uG (R:Rm X):Ck X .NotIn (rZ X.K true) (aV true):=⟨pJ R,td⟩
theorem ct {op:CmpOp} {r:R2} {g:PySem.PyData->PySem.PyData->Option PySem.PyData} (k:Ck X op r g) (ha:PE X a (tE X.K W fa)) (hb:PE X b (tE X.K W fb)) (hm:behindInMarks op b=false):PT X (.Compare a [op] [b] pos) (tT X.K W (aA ag (ax g fa fb))):=Av k.o k.g ha hb hm
theorem cc {den:List PySem.PyData->Res} (S:Cp X N gl vs cs ls lo gs) (j:Nat) (hj:gl[j]?=some x) (hg:gs.contains j=true) (C:AR X x n den) (ha:PA X (e::es) (tA X.K W fl)) (he:starEach (e::es) X.env=(false,eval e X.env)::starEach es X.env) (hpl:(backTo pos (starEach es X.env)).any (·.1)=false) :
  PE X (.Call (.Name x p) (e::es) [] pos) (tE X.K W (ar n den fl)):=by
 obtain ⟨k,f,fd,ps,F,hr,hm,hk,hb⟩:=C;exact wF F hr hm hk hb ha (S.g hj hg).1 (S.g hj hg).2.1 he hpl
abbrev my (X:Cx) (N gl:List Str) (vs cs ls lo gs:List Nat) (R:Cx->Prop):Prop:=∀Y:Cx,Cp Y N gl vs cs ls lo gs->Fx X Y->R Y
theorem co {fi:FI} {fe:F1} {fc:FB} {vs' cs' lo' gs':List Nat} (S:Cp X N gl vs cs ls lo gs) (s:Sh) (i:Nat) (hx:N[i]?=some x) (h1:fW N i cs scope=true) (h2:oN N gl vs' cs' [i] lo' gs' scope=true)
  (hi':PI X (.Name x px) iter (tI X.K W fi)) (hc:my X N gl vs' cs' [i] lo' gs' fun Y=>PF Y ifs (tT Y.K W0 fc)) (he:my X N gl vs' cs' [i] lo' gs' fun Y=>PE Y elt (tE Y.K W0 fe)) (hs:∀x,foldedSetIterable iter X.env x=pure x) :
  PE X (.ListComp elt [⟨.Name x px,iter,ifs,0⟩] scope pos) (tE X.K W (aj s i fi fc fe)):=by
 have B:=fun cells C s₀ H₀ ex=>S.blk h2 cells C s₀ H₀ ex
 have L:=fun cells C s₀ H₀ ex=>(B cells C s₀ H₀ ex).loc i x hx (by simp)
 exact wD (X:=X) s i (D8 S h1) (by rw [S.hN];exact S.nd) hi' (fun cells C s₀ H₀ ex=>hc _ (B cells C s₀ H₀ ex) ⟨rfl,rfl,rfl,rfl,rfl,rfl⟩) (fun cells C s₀ H₀ ex=>he _ (B cells C s₀ H₀ ex) ⟨rfl,rfl,rfl,rfl,rfl,rfl⟩)
  S.calm (by rw [S.hN];exact hx) (fun cells C s₀ H₀ ex=>(L cells C s₀ H₀ ex).1) (fun cells C s₀ H₀ ex=>(L cells C s₀ H₀ ex).2) hs
theorem gX (hk:X.env.scope.kind=.function) (hy:X.env.scope.names.lookup y=some .local) (hl:(pos'.line==pos.line)=true)
  (hn:(scope.names.any fun (n,k)=>n==y&&(k==NameKind.local||k==NameKind.cell))=false):swapsWith (.ListComp elt gens scope pos) (some (.Name y pos')) line X.env=pure true:=by
 have e1:(X.env.blockKind==ScopeKind.function)=true:=by unfold Env.blockKind;rw [hk];rfl
 have e2:(X.env.kindOf y==some NameKind.local)=true:=by unfold Env.kindOf;rw [hy];rfl
 show (pure (X.env.blockKind==.function&&X.env.kindOf y==some .local&&pos'.line==pos.line&&!(scope.names.any fun (n,k)=>n==y&&(k==NameKind.local||k==NameKind.cell))):Sem Bool)=pure true
 rw [e1,e2,hl,hn];rfl
theorem kB (hy:X.env.scope.names.lookup y=some .cell\/X.env.scope.names.lookup y=some .free):swapsWith (.ListComp elt gens scope pos) (some (.Name y pos')) line X.env=pure false:=by
 have e2:(X.env.kindOf y==some NameKind.local)=false:=by
  unfold Env.kindOf;rcases hy with hy | hy<;>rw [hy]<;>rfl
 show (pure (X.env.blockKind==.function&&X.env.kindOf y==some .local&&pos'.line==pos.line&&!(scope.names.any fun (n,k)=>n==y&&(k==NameKind.local||k==NameKind.cell))):Sem Bool)=pure false
 rw [e2,Bool.and_false,Bool.false_and,Bool.false_and]
theorem cs_append (S:Cp X N gl vs cs ls lo gs) (i:Nat) (hi:N[i]?=some x) (hv:vs.contains i=true) (ha:PE X a (tE X.K W fa)) (hs:starEach [a] X.env=[(false,eval a X.env)])
  (hbase:attributeBase (.Name x p) "append" X.env (eval (.Name x p) X.env)=eval (.Name x p) X.env) (hline:(apos.endLine==cpos.line)=true)
  (hfew:((backTo cpos (starEach [a] X.env)).all (fun x=>!x.1)&&(backToKw cpos (keywordEach [] X.env)).all (fun x=>x.1.isSome)
   && decide ([a].length+([]:List Keyword).length+(if ([]:List Keyword).isEmpty then 0 else 1)<30))=true)
  (hsw:swapsWith (.Call (.Attribute (.Name x p) "append" apos) [a] [] cpos) none pos.line X.env=pure false) :
  PS X (.Expr (.Call (.Attribute (.Name x p) "append" apos) [a] [] cpos) pos) (tS X.K W (gM i fa)):=
 qa i ha (by rw [S.hN];exact hi) (S.vis i x hi hv) (S.nm x (mem_of_getElem? hi)).1 (S.nm x (mem_of_getElem? hi)).2 hs hbase hline hfew hsw
end
def eU (g:PySem.PyData->Option PySem.PyData) (fa:F1):F1:=aX fa fun p Γ=>match g p.d with
 | some d=>.ok ⟨.leaf,d⟩ Γ
 | none=>.no
def Hf:PySem.PyData->Option PySem.PyData
 | .int i=>some (.int (-i))
 | _=>none
def Hj (fa fb:F1):F1:=aX fa fun p=>aX fb fun q=>fun Γ=>match p.s,p.d,q.d with
 | .lst .leaf,.list ds,.int k=>if dz k&&decide (ds.length*k.toNat<=sizeLine) then .ok ⟨.lst .leaf,.list (List.replicate k.toNat ds).flatten⟩ Γ else .no
 | _,_,_=>.no
def uf:Option (Option PV)->Bool
 | some (some ⟨.lst .leaf,.list _⟩)=>true
 | _=>false
def yB (i:Nat) (p q:PV) (Γ:Ev):OutS:=match Γ[i]? with
 | some (some ⟨.lst .leaf,.list ds⟩)=>(match q.d with
  | .int k=>(match eE ds.length k with
   | some j=>if T.coer .leaf p then .nx (Γ.set i (some ⟨.lst .leaf,.list (ds.set j p.d)⟩)) else .no
   | none=>.no)
  | _=>.no)
 | _=>.no
def eL (i:Nat) (fv fk:F1):FS:=fun Γ=>if uf Γ[i]? then gN fv (fun p=>gN fk (yB i p)) Γ else .no
section
variable {K:Fg} {W:XW} {U:St} {H:Hp} {Q:VK} {D:dv} {fa fb:F1} {fl:FL}
theorem Ez:∀{Fs:List (List Addr)},(∀F∈Fs,F=[])->Fs.flatten=[]
 | [],_=>rfl
 | F::r,h=>by rw [flatten_cons,h F mem_cons_self,Ez fun G hG=>h G (mem_cons_of_mem _ hG)];rfl
theorem Own.leaves {O:List Addr} {G:List Addr} {v:V} {ds:List PySem.PyData} (h:Own K O H (.lst .leaf) G v (.list ds)):∃l vs,v=.ref l/\G=[l]/\H l=some (.lst vs)/\vs.length=ds.length/\∀(j:Nat) u d,vs[j]?=some u->ds[j]?=some d->Rep K (cF H O) u d:=by
 cases h with
 | @lst _ l vs _ Fs hsv hp hl hf nd q=>
  have hF:∀F∈Fs,F=[]:=fun F hF=>by
   obtain ⟨j,hj,e⟩:=getElem_of_mem hF;have o:=q j (vs[j]'(by omega)) (ds[j]'(by omega)) F (getElem?_eq_getElem _) (getElem?_eq_getElem _) (by rw [getElem?_eq_getElem hj,e])
   cases o;rfl
  refine ⟨l,vs,rfl,by rw [Ez hF],hp,hl,fun j u d h1 h2=>?_⟩
  have hj:=(List.getElem?_eq_some_iff.mp h2).1
  have o:=q j u d (Fs[j]'(by omega)) h1 h2 (getElem?_eq_getElem _)
  generalize Fs[j]'(by omega)=F at o
  cases o with
  | leaf r=>exact r
theorem Own.mkLeaves {O:List Addr} {l:Addr} {ds:List PySem.PyData} (hp:H l=some (.lst vs)) (hl:vs.length=ds.length) (q:∀(j:Nat) u d,vs[j]?=some u->ds[j]?=some d->Rep K (cF H O) u d):Own K O H (.lst .leaf) [l] (.ref l) (.list ds):=by
 have hF:(List.replicate ds.length ([]:List Addr)).flatten=[]:=Ez fun F hF=>(List.mem_replicate.mp hF).2
 have o:Own K O H (.lst .leaf) (l::(List.replicate ds.length ([]:List Addr)).flatten) (.ref l) (.list ds):=by
  refine .lst rfl hp hl (by simp) (by rw [hF];simp) fun j u d F h1 h2 h3=>?_
  have:F=[]:=(List.mem_replicate.mp (mem_of_getElem? h3)).2
  subst this;exact .leaf (q j u d h1 h2)
 rw [hF] at o;exact o
theorem yy {k:PV->PV->Ev->OutS} {R:V->V->Hp->Prop} (h:tS K W (gN fa fun p=>gN fb (k p)) D U H)
  (hk:∀He O Γ2 p q v u H1 H2 G1 G2 Fs2,O.Nodup->Same H H1->Same H1 H2->EnvOk K He (G2++(G1++O)) Fs2 H2 U Γ2->(∀a∈G2++G1,He a=none) ->
   Own K (G2++(G1++O)++Fs2.flatten) H2 p.s G1 v p.d->Own K (G2++(G1++O)++Fs2.flatten) H2 q.s G2 u q.d->kq K W He O D (k p q Γ2)->R v u H2) :
  tE K W fa U H fun v H1=>tE K W fb U H1 fun u H2=>R v u H2:=by
 refine fP h fun He O Fs Γ1 p v H1 G1 Fs1 _ fr A1 h1=>?_
 refine ⟨He,G1++O,Fs1,Γ1,A1.env,?_⟩
 unfold gN at h1;have nd:O.Nodup:=(List.nodup_append.mp A1.env.ndO).2.1
 cases e:fb Γ1 with
 | ok q Γ2=>
  rw [e] at h1;intro u H2 G2 Fs2 A2;refine hk He O Γ2 p q v u H1 H2 G1 G2 Fs2 nd A1.same A2.same A2.env (fun a ha=>?_) (A1.own.mono A2.same fun a ha=>?_) A2.own h1
  ·rcases List.mem_append.mp ha with z | z
   ·exact A2.freshG A1.env a z
   ·exact fr a z
  ·rcases List.mem_append.mp ha with z | z
   ·rcases List.mem_append.mp z with z | z
    ·rcases A2.new a (mem_append_left _ z) with y | y
     ·exact .inl (mem_append_right _ y)
     ·exact .inr y
    ·exact .inl (mem_append_left _ z)
   ·rcases A2.new a (mem_append_right _ z) with y | y
    ·exact .inl (mem_append_right _ y)
    ·exact .inr y
 | er c Γ2=>
  rw [e] at h1;intro H2 Fs2 hs E2;exact h1 U H2 Fs2 E2.dropL
 | no=>
  rw [e] at h1;exact h1
theorem uW {Q':VK} (h:tE K W fa U H Q) (hq:∀v H',Q v H'->Q' v H'):tE K W fa U H Q':=by
 obtain ⟨He,O,Fs,Γ,E,h⟩:=h;refine ⟨He,O,Fs,Γ,E,?_⟩
 cases e:fa Γ with
 | ok p Γ'=>rw [e] at h;exact fun v H' G Fs' A=>hq v H' (h v H' G Fs' A)
 | er c Γ'=>rw [e] at h;exact h
 | no=>rw [e] at h;exact h
theorem EnvOk.chg {O:List Addr} {Γ:Ev} {i:Nat} {ds:List PySem.PyData} (E:EnvOk K He O Fs H U Γ) (h:Γ[i]?=some (some ⟨.lst .leaf,.list ds⟩)) :
  ∃l vs,U[i]?=some (some (.ref l))/\H l=some (.lst vs)/\vs.length=ds.length/\(∀(j:Nat) u d,vs[j]?=some u->ds[j]?=some d->Rep K (cF H (O++Fs.flatten)) u d) /\
   ∀(vs':List V) (ds':List PySem.PyData),vs'.length=ds'.length->(∀(j:Nat) u d,vs'[j]?=some u->ds'[j]?=some d->Rep K (cF H (O++Fs.flatten)) u d)->∃Fs',EnvOk K He O Fs' (bA H l (.lst vs')) U (Γ.set i (some ⟨.lst .leaf,.list ds'⟩)):=by
 obtain ⟨hv,v,F,h1,E1,o1,sub⟩:=E.move h;have hi:i<Γ.length:=(List.getElem?_eq_some_iff.mp h).1
 obtain ⟨_,v0,F0,h10,h20,o0⟩:=E.slot i _ h;obtain ⟨l,vs,rfl,rfl,hp,hl,hr⟩:=o1.leaves;obtain ⟨l',vs',e0,e1,hp',hl',hr'⟩:=o0.leaves;rw [h1] at h10
 cases h10
 cases e0;rw [hp] at hp'
 cases hp'
 refine ⟨l,vs,h1,hp,hl,hr',fun ws ds' hw q=>?_⟩
 have hlF:l∈Fs.flatten:=sub l (mem_append_left _ (List.mem_singleton.mpr rfl))
 have hHe:He l=none:=E.fresh l hlF
 have E4:=E1.mutO (o:=.lst ws) (mem_append_left _ (List.mem_singleton.mpr rfl)) hp hHe
 have ownL:Own K ([l]++O++(Fs.set i []).flatten) (bA H l (.lst ws)) (.lst .leaf) [l] (.ref l) (.list ds'):=by
  refine Own.mkLeaves fL hw fun j u d a1 a2=>?_
  rw [DY (mem_append_left _ (mem_append_left _ (List.mem_singleton.mpr rfl)))];refine (q j u d a1 a2).mono (ug (Same.refl _) fun a ha=>.inl ?_)
  rcases List.mem_append.mp ha with z | z
  ·rcases List.mem_append.mp z with z | z
   ·rw [List.mem_singleton.mp z];exact mem_append_right _ hlF
   ·exact mem_append_left _ z
  ·exact mem_append_right _ (sub a (mem_append_right _ z))
 have fin:=EnvOk.put (i:=i) (p:=⟨.lst .leaf,.list ds'⟩) (v:=.ref l) E4 ownL rfl (fun a ha=>by rw [List.mem_singleton.mp ha];exact hHe) (by rw [length_set];exact hi)
 rw [set_set,set_set,A7 h1] at fin;exact ⟨_,fin⟩
theorem EN {o:Option (Option PV)} (h:uf o=true):∃ds,o=some (some ⟨.lst .leaf,.list ds⟩):=by
 unfold uf at h;split at h
 ·exact ⟨_,rfl⟩
 ·cases h
theorem vi {i:Nat} (h:tS K W (eL i fa fb) D U H):gW (tE K W fa) (L2.gSub (dU i) (tE K W fb) rW) D U H:=by
 obtain ⟨He,O,Fs,Γ,E,h⟩:=h;unfold eL at h
 cases ho:uf Γ[i]? with
 | false=>rw [ho] at h;exact h.elim
 | true=>
  rw [ho] at h;obtain ⟨ds,e0⟩:=EN ho;obtain ⟨l,vs,h1,h2,h3,_,_⟩:=E.chg e0;refine uW (yy (D:=D) (R:=fun v u H2=>rW (.ref l) u v H2 fun H3=>D.nx U H3) ⟨He,O,Fs,Γ,E,h⟩ fun He O Γ2 p q v u H1 H2 G1 G2 Fs2 nd s1 s2 E2 fr o1 o2 w=>?_) fun v H' q=>⟨.ref l,h1,q⟩
  unfold yB at w;split at w
  ·rename_i ds1 e1
   split at w
   ·rename_i k ek
    split at w
    ·rename_i j ej
     cases hc:T.coer .leaf p with
     | false=>rw [hc] at w;exact w.elim
     | true=>
      rw [hc] at w;have E3:EnvOk K He O Fs2 H2 U Γ2:=E2.drop (fun a ha=>mem_append_right _ (mem_append_right _ ha)) nd
      obtain ⟨l1,vs1,q1,q2,q3,q4,q5⟩:=E3.chg e1;rw [h1] at q1
      cases q1;have hu:=o2.rep
      rw [ek] at hu
      cases hu;have ov:Own K (O++Fs2.flatten) H2 .leaf [] v p.d:=by
       refine o1.coer (s:=.leaf) hc (fun a ha=>?_) fun a ha z=>?_
       ·rcases List.mem_append.mp ha with z | z
        ·exact mem_append_left _ (mem_append_right _ (mem_append_right _ z))
        ·exact mem_append_right _ z
       ·exfalso
        have ndE:=E2.nd
        rw [append_assoc] at ndE;have n2:=(List.nodup_append.mp ndE).2.1
        rw [append_assoc] at n2;exact (List.nodup_append.mp n2).2.2 a ha a z rfl
      cases ov with
      | leaf rv=>
       have ixl:eE vs1.length k=some j:=by rw [q3];exact ej
       obtain ⟨Fs',E4⟩:=q5 (vs1.set j v) (ds1.set j p.d) (by rw [length_set,length_set,q3]) fun m x d a1 a2=>by
        by_cases hm:m=j
        ·subst hm
         rw [getElem?_set] at a1 a2
         rw [if_pos rfl] at a1 a2
         split at a1
         ·split at a2
          ·cases a1;cases a2;exact rv
          ·cases a2
         ·cases a1
        ·rw [getElem?_set_ne (Ne.symm hm)] at a1 a2
         exact q4 m x d a1 a2
       exact ⟨l,vs1,k,j,rfl,rfl,q2,ixl,w U _ Fs' E4⟩
    ·exact w.elim
   ·exact w.elim
  ·exact w.elim
end
section
variable {X:Cx}
variable {N gl:List Str} {vs cs ls lo gs:List Nat} {W:XW} {a b c e:Expr} {es:List Expr} {pos p:Pos} {fa fb fc:F1} {fl:FL} {g:FS}
theorem cs_setI (S:Cp X N gl vs cs ls lo gs) (i:Nat) (hi:N[i]?=some x) (hv:vs.contains i=true) (ha:PE X a (tE X.K W fa)) (hb:PE X b (tE X.K W fb))
  (hs:swapsWithSole [.Subscript (.Name x px) b pos'] a pos.line X.env=pure false) (hw:swappedStores [.Subscript (.Name x px) b pos'] a X.env=pure none)
  (h1:(assignEach [.Subscript (.Name x px) b pos'] X.env).map (·.2)=[assign (.Subscript (.Name x px) b pos') X.env])
  (has:∀v,assign (.Subscript (.Name x px) b pos') X.env v=(do
   let ov <-holding [v] (eval (.Name x px) X.env)
   let iv <-holding [v,ov] (eval b X.env)
   standAt pos'
   holding [v,ov,iv] (setItem ov iv v)
   release [v,ov,iv] [])):PS X (.Assign [.Subscript (.Name x px) b pos'] a pos) (tS X.K W (eL i fa fb)):=by
 have m:=S.nm x (mem_of_getElem? hi)
 exact cO (DN ha (zg (qL (by rw [S.hN];exact hi) (S.vis i x hi hv) m.1 m.2) hb rE has) hs hw h1) fun _ _ _=>vi
end
def wW:Expr->Bool
 | .Starred ..=>true
 | _=>false
theorem cj {e:Expr} (h:wW e=false):starEach (e::es) env=(false,eval e env)::starEach es env:=by
 cases e<;>first | rfl | cases h
theorem cZ {a:Expr} (h:wW a=false):starEach [a] env=[(false,eval a env)]:=cj h
theorem rB {a b:Expr} (h:wW a=false) (h2:wW b=false):starEach [a,b] env=[(false,eval a env),(false,eval b env)]:=by rw [cj h,cZ h2]
def DefOk (P:Program) (w:World) (K:Fg) (mg:Str->Option Value) (base:Heap) (j:Nat) (x:Str) (n:Nat) (den:List PySem.PyData->Res):Prop:=
 ∃(f:Addr) (fd:FuncData) (ps:List Str),fy P w K mg base oU j f fd ps (o9 K n den)/\mg x=some (.ref f)/\PySem.W.keepIn K (.ref f)=true/\Binds K fd ps []
def nH (K:Fg) (mg:Str->Option Value) (x:Str) (d:PySem.PyData):Prop:=∃u v,mg x=some u/\RelV v u/\∀H,Rep K H v d
theorem DefOk.cal {j:Nat} {den:List PySem.PyData->Res} (h:DefOk X.prog X.w X.K X.mg X.base j x n den) (hr:Room k X.A) (hj:decide (j<=k)=true):AR X x n den:=by
 obtain ⟨f,fd,ps,F,a,b,c⟩:=h;exact ⟨j,f,fd,ps,F,hr.mono (of_decide_eq_true hj),a,b,c⟩
def Fe:PySem.PyData->V
 | .none=>.non
 | .bool b=>.bl b
 | .int i=>.int i
 | .str x=>.str x
 | _=>.non
def qo:List Value->List PySem.PyData->Bool
 | .int i _::r,.int j::ds=>decide (i=j)&&qo r ds
 | .str x _::r,.str y::ds=>decide (x=y)&&qo r ds
 | [],[]=>true
 | _,_=>false
theorem DU:∀{us:List Value} {ds:List PySem.PyData},qo us ds=true->Vals (ds.map Fe) us/\∀d∈ds,Sc (Fe d) d
 | [],[],_=>⟨.nil,fun d hd=>(nomatch hd)⟩
 | .int i t::r,.int j::ds,h=>by
  simp only [qo,Bool.and_eq_true,decide_eq_true_eq] at h
  obtain ⟨rfl,h⟩:=h;obtain ⟨a,b⟩:=DU h;refine ⟨.cons ⟨t,rfl⟩ a,fun d hd=>?_⟩
  rcases List.mem_cons.mp hd with z | z
  ·rw [z];exact .int i
  ·exact b d z
 | .str i t::r,.str j::ds,h=>by
  simp only [qo,Bool.and_eq_true,decide_eq_true_eq] at h
  obtain ⟨rfl,h⟩:=h;obtain ⟨a,b⟩:=DU h;refine ⟨.cons ⟨t,rfl⟩ a,fun d hd=>?_⟩
  rcases List.mem_cons.mp hd with z | z
  ·rw [z];exact .str i
  ·exact b d z
def AD (its:Array Value) (ds:List PySem.PyData):Bool:=decide (its.size<=sizeLine)&&qo its.toList ds
theorem wG {K:Fg} {a:Addr} {dd:Option Addr} {its:Array Value} {sl:Array (Option Value)} {ds:List PySem.PyData} (hm:mg x=some (.ref a)) (l:K.lookup a=some ⟨.type "tuple",dd,.seq its n,sl⟩) (h:AD its ds=true):nH K mg x (.tuple ds):=by
 unfold AD at h;simp only [Bool.and_eq_true,decide_eq_true_eq] at h
 obtain ⟨v,s⟩:=DU h.2;refine ⟨.ref a,.ref a,hm,rfl,fun H=>.tup (vs:=ds.map Fe) (.inr ⟨_,its,n,l,rfl,rfl,h.1,v⟩) (by simp) fun i v d h1 h2=>?_⟩
 rw [getElem?_map,h2] at h1
 cases h1;exact (s d (mem_of_getElem? h2)).rep
theorem wH {K:Fg} {i:Int} {t:Tok} (hm:mg x=some (.int i t)):nH K mg x (.int i):=⟨.int i t,.int i,hm,⟨t,rfl⟩,fun H=>.int i⟩
theorem zH {K:Fg} {m:List PySem.PyData->Res} {H:Hp} {a:Addr} {ns:List Int} {E:XK} (h:m [.list (ns.map .int)]=.ok ⟨.leaf,.bool true⟩) (hS:SqL K H a (ns.map V.int)):o9 K 1 m [.ref a] H (fun v _=>v=.bl true) E:=by
 refine ⟨rfl,[],[.list (ns.map .int)],nodup_nil,(fun _ z=>nomatch z),⟨rfl,fun i v d h1 h2=>?_⟩,?_⟩
 ·rw [DX]
  match i,h1,h2 with
  | 0,h1,h2=>
   cases h1
   cases h2;refine .lst hS (by simp) fun i v d h1 h2=>?_
   rw [getElem?_map] at h1 h2
   cases e:ns[i]? with
   | none=>rw [e] at h1;cases h1
   | some z=>
    rw [e] at h1 h2
    cases h1
    cases h2;exact .int z
  | i+1,h1,h2=>simp at h1
 ·rw [h]
  intro v H' G r
  have o:=r.own.rep
  cases o;rfl
end T
namespace TQ
open PySem PySem.Spec L2 T
open PyProof.Rows hiding St
variable {x:Str} {scope:Scope} {px pos':Pos} {iter elt tg:Expr} {ifs:List Expr} {fi:FI} {fe:F1} {vs' cs' lo' gs':List Nat}
structure Q (p:Prop):Prop where
 p:p
section
variable {X:Cx} {N gl:List Str} {vs cs ls lo gs:List Nat} {W:XW} {a b c e:Expr} {es:List Expr} {pos p:Pos} {fa fb fc:F1} {fl:FL} {ga gb:FB} {g1 g2 g:FS}
theorem E8 (S:Cp X N gl vs cs ls lo gs) (i:Nat) (hN:N[i]?=some x) (hv:vs.contains i=true):Q (PE X (.Name x pos) (tE X.K W (aa i))):=⟨by
 have m:=S.nm x (mem_of_getElem? hN)
 exact Ay (qL (by rw [S.hN];exact hN) (S.vis i x hN hv) m.1 m.2)⟩
theorem gR (S:Cp X N gl vs cs ls lo gs) (i:Nat) (hN:N[i]?=some x) (hv:vs.contains i=true):Q (PE X (.Name x pos) (tE X.K W (bV i))):=⟨by
 have m:=S.nm x (mem_of_getElem? hN)
 exact wB (qL (by rw [S.hN];exact hN) (S.vis i x hN hv) m.1 m.2)⟩
theorem yq (S:Cp X N gl vs cs ls lo gs) (j:Nat) {d:PySem.PyData} (hj:gl[j]?=some x) (hg:gs.contains j=true) (h:Hm X x d):Q (PE X (.Name x pos) (tE X.K W (eK d))):=⟨by
 obtain ⟨u,v,h1,h2,h3⟩:=h;have q:=S.g hj hg
 exact wC q.1 h1 h2 h3 q.2.1⟩
theorem aS {j:Int} {k pos}:Q (PE X (.Constant (.int j) k pos) (tE X.K W (eK (.int j)))):=⟨aY xa fun _ _ _=>vn fun _=>.int j⟩
theorem dZ {j:Bool} {k pos}:Q (PE X (.Constant (.bool j) k pos) (tE X.K W (eK (.bool j)))):=⟨aY B6 fun _ _ _=>vn fun _=>.bl j⟩
theorem jE {k pos}:Q (PE X (.Constant .none k pos) (tE X.K W (eK .none))):=⟨aY sg fun _ _ _=>vn fun _=>.non⟩
theorem qB (ha:Q (PE X a (tE X.K W fa))) (hb:Q (PE X b (tE X.K W fb))):Q (PE X (.BinOp a .Add b pos) (tE X.K W (ax bx fa fb))):=⟨have ha:=ha.p;have hb:=hb.p;aY (g7 zx ha hb) fun _ _ _=>fQ (AU fun _ _=>.int _)⟩
theorem qU (ha:Q (PE X a (tE X.K W fa))) (hb:Q (PE X b (tE X.K W fb))):Q (PE X (.BinOp a .Sub b pos) (tE X.K W (ax gSub fa fb))):=⟨have ha:=ha.p;have hb:=hb.p;aY (g7 zm ha hb) fun _ _ _=>fQ (AU fun _ _=>.int _)⟩
theorem Bu (ha:Q (PE X a (tE X.K W fa))) (hb:Q (PE X b (tE X.K W fb))):Q (PE X (.BinOp a .Mult b pos) (tE X.K W (ax lE fa fb))):=⟨have ha:=ha.p;have hb:=hb.p;aY (g7 zq ha hb) fun _ _ _=>fQ (oF (fun i j h=>by
 simp only [qu,Bool.or_eq_true,Bool.and_eq_true,decide_eq_true_eq] at h
 exact h) fun _ _=>.int _)⟩
theorem kv (ha:Q (PE X a (tE X.K W fa))) (hb:Q (PE X b (tE X.K W fb))):Q (PE X (.BinOp a .FloorDiv b pos) (tE X.K W (ax tu fa fb))):=⟨have ha:=ha.p;have hb:=hb.p;aY (g7 vK ha hb) fun _ _ _=>fQ (oF (fun i j h=>by
 simp only [wL,Bool.and_eq_true,decide_eq_true_eq] at h
 exact h) fun _ _=>.int _)⟩
theorem yj (ha:Q (PE X a (tE X.K W fa))) (hb:Q (PE X b (tE X.K W fb))):Q (PE X (.BinOp a .Mod b pos) (tE X.K W (ax iY fa fb))):=⟨have ha:=ha.p;have hb:=hb.p;aY (g7 zr ha hb) fun _ _ _=>fQ (oF (fun i j h=>by
 simp only [wK,decide_eq_true_eq] at h
 exact h) fun _ _=>.int _)⟩
theorem qV (ha:Q (PE X a (tE X.K W fa))) (hb:Q (PE X b (tE X.K W fb))):Q (PE X (.BinOp a .Pow b pos) (tE X.K W (ax we fa fb))):=⟨have ha:=ha.p;have hb:=hb.p;aY (g7 zo ha hb) fun _ _ _=>fQ (oF (fun i j h=>by
 simp only [wJ,Bool.and_eq_true,decide_eq_true_eq] at h
 exact ⟨h.1.1,h.1.2,h.2⟩) fun _ _=>.int _)⟩
theorem ku (ha:Q (PE X a (tE X.K W fa))):Q (PE X (.UnaryOp .Not a pos) (tE X.K W (p8 fa))):=⟨have ha:=ha.p;aY (zk ha) fun _ _ _=>yJ⟩
theorem Fc {op:CmpOp} {r:R2} {g:PySem.PyData->PySem.PyData->Option PySem.PyData} (k:Ck X op r g) (ha:Q (PE X a (tE X.K W fa))) (hb:Q (PE X b (tE X.K W fb))) (hm:behindInMarks op b=false):Q (PE X (.Compare a [op] [b] pos) (tE X.K W (ax g fa fb))):=⟨have ha:=ha.p;have hb:=hb.p;Az k.o k.g ha hb hm⟩
theorem BB {op op':CmpOp} {r r':R2} {g g':PySem.PyData->PySem.PyData->Option PySem.PyData} (k:Ck X op r g) (k':Ck X op' r' g') (ha:Q (PE X a (tE X.K W fa))) (hb:Q (PE X b (tE X.K W fb))) (hc:Q (PE X c (tE X.K W fc))) (hm:lastMarks [op,op'] [b,c]=false):Q (PE X (.Compare a [op,op'] [b,c] pos) (tE X.K W (xY g g' fa fb fc))):=⟨have ha:=ha.p;have hb:=hb.p;have hc:=hc.p;tO k.o k.g k'.o k'.g ha hb hc hm⟩
theorem qA {op} (h:Q (PE X a (tE X.K W fa))):Q (PE X (.BoolOp op [a] pos) (tE X.K W fa)):=⟨L2.pe_one h.p⟩
theorem qy (ha:Q (PE X a (tE X.K W fa))) (hb:Q (PE X (.BoolOp .And (b::es) pos) (tE X.K W fb))):Q (PE X (.BoolOp .And (a::b::es) pos) (tE X.K W (dN fa fb))):=⟨have ha:=ha.p;have hb:=hb.p;aY (zl ha hb) fun _ _ _=>yU⟩
theorem nM (ha:Q (PE X a (tE X.K W fa))) (hb:Q (PE X (.BoolOp .Or (b::es) pos) (tE X.K W fb))):Q (PE X (.BoolOp .Or (a::b::es) pos) (tE X.K W (uu fa fb))):=⟨have ha:=ha.p;have hb:=hb.p;aY (B5 ha hb) fun _ _ _=>BQ⟩
theorem nN (hc:Q (PT X c (tT X.K W ga))) (ha:Q (PE X a (tE X.K W fa))) (hb:Q (PE X b (tE X.K W fb))):Q (PE X (.IfExp c a b pos) (tE X.K W (uv ga fa fb))):=⟨have hc:=hc.p;have ha:=ha.p;have hb:=hb.p;aY (sj hc ha hb) fun _ _ _=>BR⟩
theorem qW (ha:Q (PE X a (tE X.K W fa))) (hb:Q (PE X b (tE X.K W fb))) (hs:xg b):Q (PE X (.Subscript a b pos) (tE X.K W (af fa fb))):=⟨have ha:=ha.p;have hb:=hb.p;aY (om CU ha hb hs) fun _ _ _=>yN⟩
theorem mr (s:Sh) (h:Q (PA X es (tA X.K W fl))):Q (PE X (.List es pos) (tE X.K W (br s fl))):=⟨have h:=h.p;aY (CV h) fun _ _ _=>vm⟩
theorem qz {x1} (h:Q (PA X es (tA X.K W fl))):Q (PE X (.Tuple es x1 pos) (tE X.K W (bQ fl))):=⟨have h:=h.p;aY (CW h) fun _ _ _=>yG⟩
theorem qx :Q (PA X [] (tA X.K W ae)):=⟨T.da_nil ⟩
theorem je (ha:Q (PE X e (tE X.K W fa))) (hr:Q (PA X es (tA X.K W fl))) (hs:starEach (e::es) X.env=(false,eval e X.env)::starEach es X.env):Q (PA X (e::es) (tA X.K W (ab fa fl))):=⟨T.da_cons ha.p hr.p hs⟩
theorem BA {fc:FB} (S:Cp X N gl vs cs ls lo gs) (s:Sh) (i:Nat) (hx:N[i]?=some x) (h1:fW N i cs scope=true) (h2:oN N gl vs' cs' [i] lo' gs' scope=true) (hi':Q (PI X (.Name x px) iter (tI X.K W fi))) (hc:my X N gl vs' cs' [i] lo' gs' fun Y=>Q (PF Y ifs (tT Y.K W0 fc))) (he:my X N gl vs' cs' [i] lo' gs' fun Y=>Q (PE Y elt (tE Y.K W0 fe))) (hs:∀x,foldedSetIterable iter X.env x=pure x):Q (PE X (.ListComp elt [⟨.Name x px,iter,ifs,0⟩] scope pos) (tE X.K W (aj s i fi fc fe))):=⟨T.co S s i hx h1 h2 hi'.p (fun Y S F=>(hc Y S F).p) (fun Y S F=>(he Y S F).p) hs⟩
theorem qD {y:Str} {spos:Pos} {fc:FB} (S:Cp X N gl vs cs ls lo gs) (own:Bool) (j:Nat) (s:Sh) (i:Nat) (hy:N[j]?=some y) (hyl:lo.contains j=true) (hx:N[i]?=some x) (hsl:(pos'.line==pos.line)=true) (hsn:(scope.names.any fun (n,k)=>n==y&&(k==NameKind.local||k==NameKind.cell))=false) (h1:fW N i cs scope=true) (h2:oN N gl vs' cs' [i] lo' gs' scope=true) (hi':Q (PI X (.Name x px) iter (tI X.K W fi))) (hc:my X N gl vs' cs' [i] lo' gs' fun Y=>Q (PF Y ifs (tT Y.K W0 fc))) (he:my X N gl vs' cs' [i] lo' gs' fun Y=>Q (PE Y elt (tE Y.K W0 fe))) (hs:∀x,foldedSetIterable iter X.env x=pure x):Q (PS X (.Assign [.Name y pos'] (.ListComp elt [⟨.Name x px,iter,ifs,0⟩] scope pos) spos) (tS X.K W (aB own j (aj s i fi fc fe)))):=⟨by
 have hi':=hi'.p
 have hc:=fun Y S F=>(hc Y S F).p
 have he:=fun Y S F=>(he Y S F).p
 have B:=fun cells C s₀ H₀ ex=>S.blk h2 cells C s₀ H₀ ex
 have L:=fun cells C s₀ H₀ ex=>(B cells C s₀ H₀ ex).loc i x hx (by simp)
 exact m8 (X:=X) own j s i (D8 S h1) (by rw [S.hN];exact S.nd) hi' (fun cells C s₀ H₀ ex=>hc _ (B cells C s₀ H₀ ex) ⟨rfl,rfl,rfl,rfl,rfl,rfl⟩) (fun cells C s₀ H₀ ex=>he _ (B cells C s₀ H₀ ex) ⟨rfl,rfl,rfl,rfl,rfl,rfl⟩)
  (gX S.kind (S.loo j y hy hyl) hsl hsn) (by rw [S.hN];exact hy) (S.loo j y hy hyl) S.calm (by rw [S.hN];exact hx) (fun cells C s₀ H₀ ex=>(L cells C s₀ H₀ ex).1) (fun cells C s₀ H₀ ex=>(L cells C s₀ H₀ ex).2) hs⟩
theorem qZ (S:Cp X N gl vs cs ls lo gs) (j:Nat) (hj:gl[j]?=some ("len":Str)) (hg:gs.contains j=true) (hm:X.mg "len"=none) (ha:Q (PA X (e::es) (tA X.K W fl))) (he:starEach (e::es) X.env=(false,eval e X.env)::starEach es X.env) (hpl:(backTo pos (starEach es X.env)).any (·.1)=false):Q (PE X (.Call (.Name "len" p) (e::es) [] pos) (tE X.K W (bb aK fl))):=⟨have ha:=ha.p;lP (call_len_seq.or km) Ab CH hm ha (S.g hj hg).1 (S.g hj hg).2.2 (S.g hj hg).2.1 he hpl⟩
theorem mB (S:Cp X N gl vs cs ls lo gs) (j:Nat) (hj:gl[j]?=some ("all":Str)) (hg:gs.contains j=true) (hm:X.mg "all"=none) (ha:Q (PA X (e::es) (tA X.K W fl))) (he:starEach (e::es) X.env=(false,eval e X.env)::starEach es X.env) (hpl:(backTo pos (starEach es X.env)).any (·.1)=false):Q (PE X (.Call (.Name "all" p) (e::es) [] pos) (tE X.K W (bb (b3 false) fl))):=⟨have ha:=ha.p;lP (qt S.calm) tj xK hm ha (S.g hj hg).1 (S.g hj hg).2.2 (S.g hj hg).2.1 he hpl⟩
theorem El (S:Cp X N gl vs cs ls lo gs) (j:Nat) (hj:gl[j]?=some ("any":Str)) (hg:gs.contains j=true) (hm:X.mg "any"=none) (ha:Q (PA X (e::es) (tA X.K W fl))) (he:starEach (e::es) X.env=(false,eval e X.env)::starEach es X.env) (hpl:(backTo pos (starEach es X.env)).any (·.1)=false):Q (PE X (.Call (.Name "any" p) (e::es) [] pos) (tE X.K W (bb (b3 true) fl))):=⟨have ha:=ha.p;lP (qq S.calm) tj CI hm ha (S.g hj hg).1 (S.g hj hg).2.2 (S.g hj hg).2.1 he hpl⟩
theorem rd (S:Cp X N gl vs cs ls lo gs) (j:Nat) (hj:gl[j]?=some ("int":Str)) (hg:gs.contains j=true) (hm:X.mg "int"=none) (ha:Q (PA X (e::es) (tA X.K W fl))) (he:starEach (e::es) X.env=(false,eval e X.env)::starEach es X.env) (hpl:(backTo pos (starEach es X.env)).any (·.1)=false):Q (PE X (.Call (.Name "int" p) (e::es) [] pos) (tE X.K W (bb tq fl))):=⟨have ha:=ha.p;Cz qp Ac xJ hm ha (S.g hj hg).1 (S.g hj hg).2.2 (S.g hj hg).2.1 he hpl⟩
theorem ui (S:Cp X N gl vs cs ls lo gs) (j:Nat) (hj:gl[j]?=some ("list":Str)) (hg:gs.contains j=true) (hm:X.mg "list"=none) (ha:Q (PE X e (tE X.K W fa))) (hs:starEach [e] X.env=[(false,eval e X.env)]):Q (PE X (.Call (.Name "list" p) [e] [] pos) (tE X.K W (i9 fa))):=⟨have ha:=ha.p;qj hm ha (S.g hj hg).1 hs⟩
theorem Fd {n:Nat} {den:List PySem.PyData->Res} (S:Cp X N gl vs cs ls lo gs) (j:Nat) (hj:gl[j]?=some x) (hg:gs.contains j=true) (C:AR X x n den) (ha:Q (PA X (e::es) (tA X.K W fl))) (he:starEach (e::es) X.env=(false,eval e X.env)::starEach es X.env) (hpl:(backTo pos (starEach es X.env)).any (·.1)=false):Q (PE X (.Call (.Name x p) (e::es) [] pos) (tE X.K W (ar n den fl))):=⟨T.cc S j hj hg C ha.p he hpl⟩
theorem fN (S:Cp X N gl vs cs ls lo gs) (j:Nat) (hj:gl[j]?=some ("range":Str)) (hg:gs.contains j=true) (hm:X.mg "range"=none) (ha:Q (PA X [a] (tA X.K W fl))) (hs:starEach [a] X.env=[(false,eval a X.env)]):Q (PI X tg (.Call (.Name "range" p) [a] [] pos) (tI X.K W (j5 fl))):=⟨have ha:=ha.p;Cy hm ha (S.g hj hg).1 hs⟩
theorem By (S:Cp X N gl vs cs ls lo gs) (j:Nat) (hj:gl[j]?=some ("range":Str)) (hg:gs.contains j=true) (hm:X.mg "range"=none) (ha:Q (PA X [a,b] (tA X.K W fl))) (hs:starEach [a,b] X.env=[(false,eval a X.env),(false,eval b X.env)]) (hs2:starEach [b] X.env=[(false,eval b X.env)]):Q (PI X tg (.Call (.Name "range" p) [a,b] [] pos) (tI X.K W (xB fl))):=⟨have ha:=ha.p;Cw hm ha (S.g hj hg).1 hs hs2⟩
theorem b6 (ha:Q (PE X a (tE X.K W fa))):Q (PI X tg a (tI X.K W (aw fa))):=⟨have ha:=ha.p;ml (Er ha) fun _ _ _=>vq⟩
theorem E9 {op:CmpOp} {r:R2} {g:PySem.PyData->PySem.PyData->Option PySem.PyData} (k:Ck X op r g) (ha:Q (PE X a (tE X.K W fa))) (hb:Q (PE X b (tE X.K W fb))) (hm:behindInMarks op b=false):Q (PT X (.Compare a [op] [b] pos) (tT X.K W (aA ag (ax g fa fb)))):=⟨T.ct k ha.p hb.p hm⟩
theorem iF (ha:Q (PT X a (tT X.K W ga))):Q (PT X (.UnaryOp .Not a pos) (tT X.K W (bD ga))):=⟨have ha:=ha.p;t8 (za ha) fun _ _ _=>vw⟩
theorem yn (ha:Q (PT X a (tT X.K W ga))):Q (PW X (.BoolOp .And [a] pos) (tT X.K W ga)):=⟨have ha:=ha.p;vz ha⟩
theorem mC (ha:Q (PT X a (tT X.K W ga))):Q (PW X (.BoolOp .Or [a] pos) (tT X.K W ga)):=⟨have ha:=ha.p;y0 ha⟩
theorem yk (ha:Q (PT X a (tT X.K W ga))) (hb:Q (PW X (.BoolOp .And (b::es) pos) (tT X.K W gb))):Q (PW X (.BoolOp .And (a::b::es) pos) (tT X.K W (cE ga gb))):=⟨have ha:=ha.p;have hb:=hb.p;xO (y3 ha hb) fun _ _ _=>vy⟩
theorem gQ (ha:Q (PT X a (tT X.K W ga))) (hb:Q (PW X (.BoolOp .Or (b::es) pos) (tT X.K W gb))):Q (PW X (.BoolOp .Or (a::b::es) pos) (tT X.K W (cX ga gb))):=⟨have ha:=ha.p;have hb:=hb.p;xO (B2 ha hb) fun _ _ _=>yS⟩
theorem iE (h:Q (PW X a (tT X.K W ga))):Q (PT X a (tT X.K W ga)):=⟨L2.PW.pt h.p⟩
theorem fC (ha:Q (PE X a (tE X.K W fa))) (he:∀whole,isTrue a X.env whole=(do let v <-whole;standAt a.pos;holding [v] (truthy v))):Q (PT X a (tT X.K W (aA aZ fa))):=⟨have ha:=ha.p;t8 (se ha he) fun _ _ _=>yH⟩
theorem da :Q (PSs X [] (tS X.K W aC)):=⟨CP vC fun _ _ _=>vk⟩
theorem dP {st:Stmt} (h1:Q (PS X st (tS X.K W g1))):Q (PSs X [st] (tS X.K W g1)):=⟨have h1:=h1.p;Es h1⟩
theorem bg {st:Stmt} {rest:List Stmt} (h1:Q (PS X st (tS X.K W g1))) (h2:Q (PSs X rest (tS X.K W g2))):Q (PSs X (st::rest) (tS X.K W (au g1 g2))):=⟨have h1:=h1.p;have h2:=h2.p;CP (yf h1 h2) fun _ _ _=>DP⟩
theorem qS (ha:Q (PE X a (tE X.K W fa))):Q (PS X (.Return (some a) pos) (tS X.K W (aD fa))):=⟨have ha:=ha.p;cO (zc ha) fun _ _ _=>yI⟩
theorem cY {A B:List Stmt} (hc:Q (PT X c (tT X.K W ga))) (ha:Q (PSs X A (tS X.K W g1))) (hb:Q (PSs X B (tS X.K W g2))):Q (PS X (.If c A B pos) (tS X.K W (bI ga g1 g2))):=⟨have hc:=hc.p;have ha:=ha.p;have hb:=hb.p;cO (B3 hc ha hb) fun _ _ _=>yM⟩
theorem jb (S:Cp X N gl vs cs ls lo gs) (i:Nat) {body:List Stmt} {g:FS} (hx:N[i]?=some x) (hl:ls.contains i=true) (hp:PassesOwn (model X.prog X.w) X.A X.env X.xe) (hi':Q (PI X (.Name x px) iter (tI X.K W fi))) (hb:Q (PSs X body (tS X.K W g))) (hs:∀x,foldedSetIterable iter X.env x=pure x):Q (PS X (.For (.Name x px) iter body [] pos) (tS X.K W (bU i fi g))):=⟨have hi':=hi'.p;have hb:=hb.p;Ax i hp (by rw [S.hN];exact S.nd) hi' hb S.calm (by rw [S.hN];exact hx) (S.loc i x hx hl).1 (S.loc i x hx hl).2 hs⟩
theorem kx (S:Cp X N gl vs cs ls lo gs) (own:Bool) (i:Nat) (hi:N[i]?=some x) (hl:ls.contains i=true) (hs:swapsWith a (some (.Name x pos')) pos.line X.env=pure false) (ha:Q (PE X a (tE X.K W fa))):Q (PS X (.Assign [.Name x pos'] a pos) (tS X.K W (aB own i fa))):=⟨have ha:=ha.p;Aw own i (by rw [S.hN];exact S.nd) ha (by rw [S.hN];exact hi) (S.loc i x hi hl).1 hs (S.loc i x hi hl).2⟩
theorem o5 (S:Cp X N gl vs cs ls lo gs) (i:Nat) (hi:N[i]?=some x) (hv:vs.contains i=true) (ha:Q (PE X a (tE X.K W fa))) (hb:Q (PE X b (tE X.K W fb))) (hs:swapsWithSole [.Subscript (.Name x px) b pos'] a pos.line X.env=pure false) (hw:swappedStores [.Subscript (.Name x px) b pos'] a X.env=pure none) (h1:(assignEach [.Subscript (.Name x px) b pos'] X.env).map (·.2)=[assign (.Subscript (.Name x px) b pos') X.env]) (has:∀v,assign (.Subscript (.Name x px) b pos') X.env v=(do
   let ov <-holding [v] (eval (.Name x px) X.env)
   let iv <-holding [v,ov] (eval b X.env)
   standAt pos'
   holding [v,ov,iv] (setItem ov iv v)
   release [v,ov,iv] [])):Q (PS X (.Assign [.Subscript (.Name x px) b pos'] a pos) (tS X.K W (eL i fa fb))):=⟨T.cs_setI S i hi hv ha.p hb.p hs hw h1 has⟩
theorem Bb (S:Cp X N gl vs cs ls lo gs) (i:Nat) {apos cpos:Pos} (hi:N[i]?=some x) (hv:vs.contains i=true) (ha:Q (PE X a (tE X.K W fa))) (hs:starEach [a] X.env=[(false,eval a X.env)]) (hbase:attributeBase (.Name x p) "append" X.env (eval (.Name x p) X.env)=eval (.Name x p) X.env) (hline:(apos.endLine==cpos.line)=true) (hfew:((backTo cpos (starEach [a] X.env)).all (fun x=>!x.1)&&(backToKw cpos (keywordEach [] X.env)).all (fun x=>x.1.isSome)
   && decide ([a].length+([]:List Keyword).length+(if ([]:List Keyword).isEmpty then 0 else 1)<30))=true) (hsw:swapsWith (.Call (.Attribute (.Name x p) "append" apos) [a] [] cpos) none pos.line X.env=pure false):Q (PS X (.Expr (.Call (.Attribute (.Name x p) "append" apos) [a] [] cpos) pos) (tS X.K W (gM i fa))):=⟨T.cs_append S i hi hv ha.p hs hbase hline hfew hsw⟩
theorem gP :Q (PF X [] (tT X.K W0 aH)):=⟨CN zi fun U H Q h=>by
 obtain ⟨He,O,Fs,Γ,E,h⟩:=h;exact h H Fs (Same.refl _) E fun _ z=>.inl z⟩
theorem fY (h:Q (PT X c (tT X.K W0 ga))):Q (PF X [c] (tT X.K W0 ga)):=⟨have h:=h.p;zh h⟩
end
end TQ
namespace T
open PySem PySem.Spec L2
open PyProof.Rows hiding St
variable {X:Cx} {U:St} {He:Hp} {Fs:List (List Addr)} {Γ:Ev} {pins:List (Addr×Obj)} {h':Heap} {t':Nat} {fp:List Addr}
def Dm:FS:=fun _=>.no
def yw:PySem.PyData->String
 | .none => "NoneType"
 | .bool _ => "bool"
 | .int _ => "int"
 | .str _ => "str"
 | .list _ => "list"
 | .tuple _ => "tuple"
 | .dict _ => "dict"
def sQ (t c:String):Bool:=t==c||(t == "bool"&&c == "int")
def kinds:List String:=["bool", "int", "str", "list", "tuple"]
theorem vR {K:Fg} {c:String} (hc:c∈kinds):∀t∈["NoneType", "bool", "int", "str", "list", "tuple"],PySem.W.kitOne K (.type t) (.type c)=some (sQ t c):=by
 intro t ht;unfold kinds at hc;simp only [mem_cons,not_mem_nil,or_false] at hc ht
 rcases hc with rfl | rfl | rfl | rfl | rfl<;>rcases ht with rfl | rfl | rfl | rfl | rfl | rfl<;>kernel_rfl
section
variable {X:Cx} {pins:List (Addr×Obj)} {U:St} {H:Hp} {s:Shared} {A:Around} {E:Value->Shared->Prop} {Q:Value->Shared->Prop} {c:Value} {b:Bool}
theorem mZ {x:V} {u:Value} {d:PySem.PyData} (I:Inv X pins U H s) (rx:RelV x u) (r:Rep X.K H x d) (e:PySem.W.kitOne X.K (.type (yw d)) c=some b) (h:∀tk,Q (.bool b) { s with toks:=tk }) :
  wpAny (model X.prog X.w) A (call (.builtin "isinstance") [u,c]) Q E s:=by
 cases r with
 | non=>exact ym I rx .non e h
 | bl y=>exact ym I rx (.bl y) e h
 | int i=>exact ym I rx (.int i) e h
 | str y=>exact ym I rx (.str y) e h
 | @lst p vs ds hs hl q=>
  rcases hs with (z | ⟨o,z⟩) | ⟨o,its,n,hk,hc,hd,hz,_⟩
  ·exact ym I rx (.lst z) e h
  ·exact ym I rx (.frz z) e h
  ·cases (show u=Value.ref p from rx)
   exact PySem.W.kia_one PySem.W.kitx_list I.kIn ⟨o,I.kIn _ o hk,hc⟩ e nofun h
 | @tup p vs ds hs hl q=>
  rcases hs with (z | ⟨o,z⟩) | ⟨o,its,n,hk,hc,hd,hz,_⟩
  ·exact ym I rx (.tup z) e h
  ·cases (show u=Value.ref p from rx)
   obtain ⟨_,_,_,n,p1,h1,h2,_⟩:=(show ObjOk X.prog X.w H s.heap p (.frz o (.tup vs)) from I.hok p _ z);exact PySem.W.kia_one PySem.W.kitx_tuple I.kIn ⟨p1,h1,h2⟩ e nofun h
  ·cases (show u=Value.ref p from rx)
   exact PySem.W.kia_one PySem.W.kitx_tuple I.kIn ⟨o,I.kIn _ o hk,hc⟩ e nofun h
end
def yV (K:Fg) (c:String):List V->Hp->VK->Prop:=fun xs H Q=>∃x d,xs=[x,.ty c]/\Rep K H x d/\Q (.bl (sQ (yw d) c)) H
theorem tP {c:String} (hc:c∈kinds):CallR X (.builtin "isinstance") (yV X.K c):=by
 intro pins s U H xs us Q I rv h;obtain ⟨x,d,rfl,r,q⟩:=h;match us,rv with
 | [u,t],.cons r1 (.cons r2 .nil)=>
  cases (show t=Value.type c from r2)
  have ht:yw d∈["NoneType", "bool", "int", "str", "list", "tuple"]:=by cases r<;>simp [yw]
  exact mZ I r1 r (vR hc _ ht) fun tk=>⟨.bl _,H,I.tok tk,rfl,q⟩
def dX (c:String) (fa:F1):F1:=aX fa fun p Γ=>.ok ⟨.leaf,.bool (sQ (yw p.d) c)⟩ Γ
theorem yL {K:Fg} {W:XW} {H:Hp} {Q:VK} {fa:F1} {c:String} (h:tE K W (dX c fa) U H Q):Bf (yV K c) (bo (tE K W fa) (bo (tC (.ty c)) cC)) U H Q:=by
 show tE K W fa U H fun x H1=>yV K c [x,.ty c] H1 Q
 refine xV h fun He O Fs Γ1 p v H1 G Fs1 nd A w=>?_
 exact ⟨v,p.d,rfl,A.own.rep,Wants.scal w (.bl _) A.same A.env.dropL (fun a ha=>ha) nd fun a ha=>A.new a (mem_append_right _ ha)⟩
def qN (c:FB) (g:FS):Nat->Ev->OutS
 | 0,_=>.no
 | n+1,Γ=>match c Γ with
  | .ok true Γ1=>(match g Γ1 with
   | .nx Γ2=>qN c g n Γ2
   | .ct Γ2=>qN c g n Γ2
   | .bk Γ2=>.nx Γ2
   | .rt p=>.rt p
   | .er e Γ2=>.er e Γ2
   | .no=>.no)
  | .ok false Γ1=>.nx Γ1
  | .er e Γ1=>.er e Γ1
  | .no=>.no
def uD (n:Nat) (c:FB) (g:FS):FS:=qN c g n
section
variable {K:Fg} {W:XW} {U:St} {H:Hp} {Q:VK} {D:dv} {fa fb:F1} {fl:FL}
theorem rJ {n:Nat} {c:FB} {g:FS} (h:tS K W (uD n c g) D U H):rj (tT K W c) (tS K W g) D U H:=by
 obtain ⟨He,O,Fs,Γ,E,h⟩:=h;refine ⟨fun m U' H'=>∃Γk Fk,EnvOk K He O Fk H' U' Γk/\kq K W He O D (qN c g m Γk),⟨n,Γ,Fs,E,h⟩,?_⟩
 rintro m U' H' ⟨Γk,Fk,Ek,hw⟩
 cases m with
 | zero=>exact hw.elim
 | succ m=>
  refine ⟨He,O,Fk,Γk,Ek,?_⟩
  rw [qN] at hw
  cases e:c Γk with
  | er x Γ1=>rw [e] at hw;exact fun H2 Fs2 s E2=>hw U' H2 Fs2 E2
  | no=>rw [e] at hw;exact hw
  | ok b Γ1=>
   rw [e] at hw;intro H2 Fs2 s2 E2 n2
   cases b with
   | false=>rw [if_neg Bool.false_ne_true];exact hw U' H2 Fs2 E2
   | true=>
    rw [if_pos rfl];refine ⟨fun U3 H3=>∃Γ3 F3,EnvOk K He O F3 H3 U3 Γ3/\kq K W He O D (qN c g m Γ3),fun U3 H3 q=>⟨m,Nat.lt_succ_self _,q⟩,He,O,Fs2,Γ1,E2,?_⟩
    have hw:kq K W He O D (match g Γ1 with | .nx Γ2=>qN c g m Γ2 | .ct Γ2=>qN c g m Γ2 | .bk Γ2=>.nx Γ2 | .rt p=>.rt p | .er e Γ2=>.er e Γ2 | .no=>.no):=hw
    cases eb:g Γ1 with
    | nx Γ'=>rw [eb] at hw;exact fun U2 H2 F2 E2=>⟨Γ',F2,E2,hw⟩
    | ct Γ'=>rw [eb] at hw;exact fun U2 H2 F2 E2=>⟨Γ',F2,E2,hw⟩
    | bk Γ'=>rw [eb] at hw;exact fun U2 H2 F2 E2=>hw U2 H2 F2 E2
    | rt p=>rw [eb] at hw;exact fun u H2 G r=>hw u H2 G r
    | er x Γ'=>rw [eb] at hw;exact fun U2 H2 F2 E2=>hw U2 H2 F2 E2
    | no=>rw [eb] at hw;exact hw
theorem EnvOk.chgF {O:List Addr} {i:Nat} {ds:List PySem.PyData} (E:EnvOk K He O Fs H U Γ) (h:Γ[i]?=some (some ⟨.lst .leaf,.list ds⟩)) :
  ∃l vs,U[i]?=some (some (.ref l))/\H l=some (.lst vs)/\vs.length=ds.length/\(∀(j:Nat) u d,vs[j]?=some u->ds[j]?=some d->Rep K (cF H (O++Fs.flatten)) u d) /\
   ∀(vs':List V) (ds':List PySem.PyData),vs'.length=ds'.length->(∀(j:Nat) u d,vs'[j]?=some u->ds'[j]?=some d->Rep K (cF H (O++Fs.flatten)) u d)->EnvOk K He O Fs (bA H l (.lst vs')) U (Γ.set i (some ⟨.lst .leaf,.list ds'⟩)):=by
 obtain ⟨hv,v,F,h1,E1,o1,sub⟩:=E.move h;have hi:i<Γ.length:=(List.getElem?_eq_some_iff.mp h).1
 obtain ⟨_,v0,F0,h10,h20,o0⟩:=E.slot i _ h;obtain ⟨l,vs,rfl,rfl,hp,hl,hr⟩:=o1.leaves;obtain ⟨l',vs',e0,e1,hp',hl',hr'⟩:=o0.leaves;rw [h1] at h10
 cases h10
 cases e0;rw [hp] at hp'
 cases hp'
 refine ⟨l,vs,h1,hp,hl,hr',fun ws ds' hw q=>?_⟩
 have hlF:l∈Fs.flatten:=sub l (mem_append_left _ (List.mem_singleton.mpr rfl))
 have hHe:He l=none:=E.fresh l hlF
 have E4:=E1.mutO (o:=.lst ws) (mem_append_left _ (List.mem_singleton.mpr rfl)) hp hHe
 have ownL:Own K ([l]++O++(Fs.set i []).flatten) (bA H l (.lst ws)) (.lst .leaf) [l] (.ref l) (.list ds'):=by
  refine Own.mkLeaves fL hw fun j u d a1 a2=>?_
  rw [DY (mem_append_left _ (mem_append_left _ (List.mem_singleton.mpr rfl)))];refine (q j u d a1 a2).mono (ug (Same.refl _) fun a ha=>.inl ?_)
  rcases List.mem_append.mp ha with z | z
  ·rcases List.mem_append.mp z with z | z
   ·rw [List.mem_singleton.mp z];exact mem_append_right _ hlF
   ·exact mem_append_left _ z
  ·exact mem_append_right _ (sub a (mem_append_right _ z))
 have fin:=EnvOk.put (i:=i) (p:=⟨.lst .leaf,.list ds'⟩) (v:=.ref l) E4 ownL rfl (fun a ha=>by rw [List.mem_singleton.mp ha];exact hHe) (by rw [length_set];exact hi)
 rw [set_set,set_set,A7 h1] at fin;rw [e1] at h20;rw [A7 h20] at fin;exact fin
end
theorem DZ:∀{ns:List Int} {us:List Value},Vals (ns.map V.int) us->IntsAre us ns
 | [],_,.nil=>.nil
 | n::ns,_,.cons r t=>by
  obtain ⟨tk,rfl⟩:=(show ∃t,_=Value.int n t from r)
  exact .cons _ _ (DZ t)
theorem nO:∀{ns:List Int} {us:List Value},IntsAre us ns->Vals (ns.map V.int) us
 | _,_,.nil=>.nil
 | _,_,.cons _ _ t=>.cons ⟨_,rfl⟩ (nO t)
section
variable {K:Fg} {W:XW} {U:St} {H:Hp} {Q:VK} {fa:F1} {fl:FL}
theorem AftL.newSc {O:List Addr} {Gs Fs1:List (List Addr)} {Γ1:Ev} {ps:List PV} {us:List V} {H1:Hp} {l:Addr} {vs:List V} {ds:List PySem.PyData} (A:AftL K He O Fs H U Γ1 ps us H1 Gs Fs1) (nd:O.Nodup) (hl:H1 l=none) (hv:vs.length=ds.length) (hs:∀(i:Nat) v d,vs[i]?=some v->ds[i]?=some d->Sc v d) :
  Aft K He O Fs H U Γ1 ⟨.lst .leaf,.list ds⟩ (.ref l) (bA H1 l (.lst vs)) [l] Fs1:=by
 refine ⟨A.same.trans (fE hl),A.env.dropL.hide (fE hl) (by simp) (by simpa using hl) (fun a ha=>by rw [List.mem_singleton.mp ha,fL];exact Option.some_ne_none _),fun a ha=>?_,?_⟩
 ·rcases List.mem_append.mp ha with z | z
  ·rw [List.mem_singleton.mp z];exact .inr (A.same.free hl)
  ·exact A.new a (mem_append_right _ z)
 ·exact Own.mkLeaves fL hv fun j u d e1 e2=>(hs j u d e1 e2).rep
def intsOf:List PySem.PyData->Option (List Int)
 | []=>some []
 | .int i::r=>(intsOf r).map (i :: ·)
 | _=>none
theorem EB:∀{ds:List PySem.PyData} {ns:List Int},intsOf ds=some ns->ds=ns.map .int
 | [],ns,h=>by cases h;rfl
 | .int i::r,ns,h=>by
  unfold intsOf at h
  cases e:intsOf r with
  | none=>rw [e] at h;cases h
  | some ms=>rw [e] at h;cases h;rw [EB e];rfl
 | .none::_,_,h=>by cases h
 | .bool _::_,_,h=>by cases h
 | .str _::_,_,h=>by cases h
 | .list _::_,_,h=>by cases h
 | .tuple _::_,_,h=>by cases h
 | .dict _::_,_,h=>by cases h
def sortArg:List PySem.PyData->Option (List Int)
 | [.list ds]=>intsOf ds
 | _=>none
theorem mL {ds:List PySem.PyData} {ns:List Int} (h:sortArg ds=some ns):ds=[.list (ns.map .int)]:=by
 unfold sortArg at h;split at h
 ·rw [EB h]
 ·cases h
end
theorem Inv.turnedL {H:Hp} {s:Shared} (I:L2.Inv X pins U H s) (k:∀b o,b∉fp->s.heap.get? b=some o->h'.get? b=some o) (hf:∀b∈fp,i8 X pins H b):L2.Inv X pins U H { s with heap:=h',toks:=t' }:=by
 have nit:∀b u,H b=some u->b∉fp:=fun b u e z=>by have:=(hf b z).1;rw [e] at this;cases this
 have hL:X.env.locals∉fp:=fun z=>(hf _ z).2.1 rfl
 refine I.step (g':=s.gens) (d':=s.drawn) (ch:=fp) (fun b hb=>?_) (fun b o _ _ hc e _=>k b o hc e) (fun b o _ _ hc e _=>⟨o.slots,k b o hc e⟩) (fun _ _ _ _ n=>n)
  (fun b o hc e=>⟨o,k b o hc e⟩) (fun _ _ e=>e) (fun _ _ _ e=>e) (fun b ps e=>⟨#[],by rw [e];simp⟩) (fun m hm=>?_) (fun b u e=>?_) I.bare
 ·obtain ⟨f0,f1,f2,f3,f4,f5⟩:=hf b hb
  exact ⟨f3,f1,f4,f5⟩
 ·obtain ⟨o,es,ep,ho,r⟩:=hm
  exact ⟨o,es,ep,k _ o hL ho,r⟩
 ·refine (I.hok b u e).stay (fun c v hc q=>k c v ?_ q) (fun _ q=>q) fun _ _ q=>q
  rcases hc with z | z
  ·rw [z];exact nit b u e
  ·exact nit c _ z
theorem Inv.turnedT {H:Hp} {s:Shared} {T:Addr} {xs:List V} (I:L2.Inv X pins U H s) (k:∀b o,b∉fp->s.heap.get? b=some o->h'.get? b=some o) (hf:∀b∈fp,i8 X pins H b) (hT:s.heap.objs.size<=T)
  (new:ObjOk X.prog X.w (bA H T (.tup xs)) h' T (.tup xs)):L2.Inv X pins U (bA H T (.tup xs)) { s with heap:=h',toks:=t' }:=by
 have hTn:H T=none:=I.hok.fresh hT
 have nit:∀b u,H b=some u->b∉fp:=fun b u e z=>by have:=(hf b z).1;rw [e] at this;cases this
 have up:∀b u,H b=some u->bA H T (.tup xs) b=some u:=fun b u e=>by rw [dB (uj e hTn)];exact e
 have hL:X.env.locals∉fp:=fun z=>(hf _ z).2.1 rfl
 refine I.step (g':=s.gens) (d':=s.drawn) (ch:=fp) (fun b hb=>?_) (fun b o _ _ hc e _=>k b o hc e) (fun b o _ _ hc e _=>⟨o.slots,k b o hc e⟩) (fun b o _ e n=>by rw [dB (Nat.ne_of_lt (Nat.lt_of_lt_of_le (Heap.lt_size e) hT))];exact n)
  (fun b o hc e=>⟨o,k b o hc e⟩) (fun b _ e=>up b _ e) (fun b _ _ e=>up b _ e) (fun b ps e=>⟨#[],by rw [up b _ e];simp⟩) (fun m hm=>?_) (fun b u e=>?_) I.bare
 ·obtain ⟨f0,f1,f2,f3,f4,f5⟩:=hf b hb
  exact ⟨f3,f1,f4,f5⟩
 ·obtain ⟨o,es,ep,ho,r⟩:=hm
  exact ⟨o,es,ep,k _ o hL ho,r⟩
 ·by_cases hb:b=T
  ·subst hb
   rw [fL] at e
   cases e;exact new
  ·rw [dB hb] at e
   refine (I.hok b u e).stay (fun c v hc q=>k c v ?_ q) (fun c q=>up c _ q) fun c _ q=>up c _ q
   rcases hc with z | z
   ·rw [z];exact nit b u e
   ·exact nit c _ z
def xj:Option (Option PV)->Bool
 | some none=>true
 | _=>false
theorem ic {o:Option (Option PV)} (h:xj o=true):o=some none:=by
 unfold xj at h;split at h
 ·rfl
 ·cases h
section
variable {K:Fg} {He H H1 H2:Hp} {O G:List Addr} {Fs Fs1 Fs2:List (List Addr)} {U:St} {Γ Γ1 Γ2:Ev}
theorem rF {i j m:Nat} {p:PV} (h:((Γ.set i none).set j none)[m]?=some (some p)):m≠i/\m≠j/\Γ[m]?=some (some p):=by
 obtain ⟨h1,h2⟩:=Dd h;obtain ⟨h3,h4⟩:=Dd h2;exact ⟨h3,h1,h4⟩
theorem EnvOk.forget2 {i j:Nat} {x y:Option V} (E:EnvOk K He O Fs H (((bt [i,j] U).set i x).set j y) Γ):EnvOk K He O Fs H (bt [i,j] U) ((Γ.set i none).set j none):=by
 refine ⟨by have:=E.len1;simpa using this,by have:=E.len2;simpa using this,E.same,E.nd,E.inH,E.fresh,fun m q hq=>?_⟩
 obtain ⟨h1,h2,h3⟩:=rF hq;obtain ⟨w1,v',F',e1,e2,e3⟩:=E.slot m q h3;rw [getElem?_set_ne (Ne.symm h2),getElem?_set_ne (Ne.symm h1)] at e1;exact ⟨w1,v',F',e1,e2,e3⟩
theorem EnvOk.blank2 {i j:Nat} (E:EnvOk K He O Fs H U Γ) (hi:Γ[i]?=some none) (hj:Γ[j]?=some none):EnvOk K He O Fs H (bt [i,j] U) Γ:=by
 refine ⟨by rw [xl];exact E.len1,E.len2,E.same,E.nd,E.inH,E.fresh,fun m q hq=>?_⟩
 obtain ⟨w1,v',F',e1,e2,e3⟩:=E.slot m q hq;refine ⟨w1,v',F',?_,e2,e3⟩
 rw [D7 (fun z=>?_)]
 ·exact e1
 ·simp only [mem_cons,not_mem_nil,or_false] at z
  rcases z with z | z
  ·rw [z,hi] at hq;cases hq
  ·rw [z,hj] at hq;cases hq
theorem EnvOk.unblank2 {i j:Nat} (E:EnvOk K He O Fs H (bt [i,j] U) Γ):EnvOk K He O Fs H U Γ:=by
 refine ⟨by have:=E.len1;rw [xl] at this;exact this,E.len2,E.same,E.nd,E.inH,E.fresh,fun m q hq=>?_⟩
 obtain ⟨w1,v',F',e1,e2,e3⟩:=E.slot m q hq;exact ⟨w1,v',F',(C6 e1).2,e2,e3⟩
theorem lJ {i:Nat} {a:Addr} (hi:i<Fs.length) (h:a∈(Fs.set i []).flatten):a∈Fs.flatten:=by
 have hF:Fs[i]?=some (Fs[i]'hi):=getElem?_eq_getElem _
 have:=(mz (G:=[]) hF).mem_iff.mp (mem_append_right _ h)
 simpa using this
structure CO (K:Fg) (He:Hp) (O:List Addr) (Fs1:List (List Addr)) (H1:Hp) (U:St) (i j:Nat) (s:Sh) (A0:Addr) (n:Nat) (ys:List V) (H:Hp) (Γk:Ev) (Fk Gs:List (List Addr)) (acc:List PySem.PyData):Prop where
 env:EnvOk K He (A0::Gs.flatten++O) Fk H (bt [i,j] U) Γk
 same:Same H1 H
 at_:H A0=some (.lst ys)
 new:∀a∈Gs.flatten++Fk.flatten,a∈Fs1.flatten\/H1 a=none
 l1:ys.length=acc.length
 l2:Gs.length=acc.length
 own:∀(m:Nat) v d G,ys[m]?=some v->acc[m]?=some d->Gs[m]?=some G->Own K (A0::Gs.flatten++O++Fk.flatten) H s G v d
 len:Γk.length=n
end
def CQ (N:List Str) (is:List Nat) (cs:List Nat) (sc:Scope):Bool:=
 decide (sc.kind=.function)&&(sc.names.all fun p=>!decide (p.2=.free)||cs.any fun j=>decide (N[j]?=some p.1)) &&
 ((List.range N.length).all fun j=>is.contains j||(sc.names.all fun p=>!decide (some p.1=N[j]?)||(!decide (p.2=.local)&&!decide (p.2=.cell)))) &&
 (sc.names.all fun p=>!decide (p.2=.local)||decide (sc.names.lookup p.1=some .local)) &&
 (sc.names.all fun p=>!decide (p.2=.free)||sc.names.all fun q=>!decide (q.1=p.1)||!decide (q.2=.cell))
theorem qm {N gl:List Str} {vs cs ls lo gs is:List Nat} {scope:Scope} (S:Cp X N gl vs cs ls lo gs) (h:CQ N is cs scope=true):cT X.N is X.env.scope scope:=by
 unfold CQ at h;simp only [Bool.and_eq_true,decide_eq_true_eq,all_eq_true,Bool.or_eq_true,Bool.not_eq_true',decide_eq_false_iff_not,any_eq_true,mem_range] at h
 obtain ⟨⟨⟨⟨h0,h1⟩,h2⟩,h3⟩,h4⟩:=h;refine ⟨h0,fun n hn=>?_,fun j x e hj=>?_,fun x hx e=>?_,fun n hn hc=>?_⟩
 ·rcases h1 _ hn with z | ⟨j,hj,e⟩
  ·exact absurd rfl z
  ·exact S.cel j n e (by simpa using hj)
 ·rw [S.hN] at e
  rcases h2 j (List.getElem?_eq_some_iff.mp e).1 with z | z
  ·simpa using z
  ·exfalso
   rcases hj with y | y
   ·rcases z _ y with w | w
    ·exact w e.symm
    ·exact w.1 rfl
   ·rcases z _ y with w | w
    ·exact w e.symm
    ·exact w.2 rfl
 ·rcases h3 x hx with z | z
  ·exact absurd e z
  ·exact z
 ·rcases h4 _ hn with z | z
  ·exact z rfl
  ·rcases z _ hc with w | w
   ·exact w rfl
   ·exact w rfl
end T
namespace TQ
open PySem PySem.Spec L2 T
open PyProof.Rows hiding St
section
variable {X:Cx} {N gl:List Str} {vs cs ls lo gs:List Nat} {W:XW} {a b c e:Expr} {es:List Expr} {pos p:Pos} {fa fb fc:F1} {fl:FL} {ga gb:FB} {g1 g2 g:FS}
theorem Ey {st:Stmt}:Q (PS X st (tS X.K W Dm)):=⟨fun pins s U H D I h=>by
 obtain ⟨He,O,Fs,Γ,E,h⟩:=h;exact h.elim⟩
theorem C8 (ha:Q (PE X e (tE X.K W fa))) (hs:swapsWith e none pos.line X.env=pure false):Q (PS X (.Expr e pos) (tS X.K W (dw fa))):=⟨have ha:=ha.p;cO (C1 ha hs) fun _ _ _=>vt⟩
theorem yi {X:Cx} {N gl:List Str} {vs cs ls lo gs:List Nat} {W:XW} {a:Expr} {pos p p2:Pos} {fa:F1} {c:String} {x:Str} (S:Cp X N gl vs cs ls lo gs) (j k:Nat) (hj:gl[j]?=some ("isinstance":Str)) (hg:gs.contains j=true) (hk:gl[k]?=some x) (hg2:gs.contains k=true) (hc:kinds.contains c=true) (hv:bootBuiltins x=some (.type c)) (hm:X.mg "isinstance"=none) (hm2:X.mg x=none) (ha:Q (PE X a (tE X.K W fa))) (hs:starEach [a,.Name x p2] X.env=(false,eval a X.env)::starEach [.Name x p2] X.env) (hs2:starEach [.Name x p2] X.env=(false,eval (.Name x p2) X.env)::starEach [] X.env) (hpl:(backTo pos (starEach [.Name x p2] X.env)).any (·.1)=false):Q (PE X (.Call (.Name "isinstance" p) [a,.Name x p2] [] pos) (tE X.K W (dX c fa))):=⟨have ha:=ha.p;aY (Ee (tP (by simpa using hc)) (S.g hj hg).1 hm kn (nK ha (nK (vH (v:=.ty c) (S.g hk hg2).1 hm2 hv rfl (S.g hk hg2).2.2 (S.g hk hg2).2.1) ud hs2) hs) (S.g hj hg).2.2 (S.g hj hg).2.1 hs hpl) fun _ _ _=>yL⟩
theorem EO (n:Nat) {body:List Stmt} (hp:PassesOwn (model X.prog X.w) X.A X.env X.xe) (hc:Q (PT X c (tT X.K W ga))) (hb:Q (PSs X body (tS X.K W g))):Q (PS X (.While c body [] pos) (tS X.K W (uD n ga g))):=⟨have hc:=hc.p;have hb:=hb.p;cO (sf hp hc hb) fun _ _ _=>rJ⟩
end
end TQ
namespace T
open PySem PySem.Spec L2
open PyProof.Rows hiding St
variable {X:Cx} {l b:Addr} {ws:List V} {n:Nat} {ys:Array Value} {d2:Option Addr} {s2:Array (Option Value)}
def ue:PySem.PyData->Bool
 | .none=>true
 | _=>false
def bq (neg:Bool):PySem.PyData->PySem.PyData->Option PySem.PyData
 | a,.none=>some (.bool (if neg then !ue a else ue a))
 | _,_=>none
theorem A6 {K:Fg} {H:Hp} {x:V} {a:PySem.PyData} (r:Rep K H x a):decide (x=V.non)=ue a:=by
 cases r<;>simp [ue]
theorem vZ {K:Fg}:GOp K (fun x y H Q=>y=.non/\Q (.bl (decide (x=.non))) H) (bq false):=by
 intro x y H Q a b d ra rb e k
 cases rb<;>simp only [bq] at e<;>try cases e
 exact ⟨rfl,by rw [A6 ra];exact k _ (.bl _)⟩
theorem sY {K:Fg}:GOp K (fun x y H Q=>y=.non/\Q (.bl (!decide (x=.non))) H) (bq true):=by
 intro x y H Q a b d ra rb e k
 cases rb<;>simp only [bq] at e<;>try cases e
 exact ⟨rfl,by rw [A6 ra];exact k _ (.bl _)⟩
theorem iQ (R:Rm X):Ck X .Is (fun x y H Q=>y=.non/\Q (.bl (decide (x=.non))) H) (bq false):=⟨zt,vZ⟩
theorem Br (R:Rm X):Ck X .IsNot (fun x y H Q=>y=.non/\Q (.bl (!decide (x=.non))) H) (bq true):=⟨vI,sY⟩
def jm (K:Fg):R2:=fun x y H Q=>∃l b xs zs,x=.ref l/\y=.ref b/\SqL K H l xs/\SqL K H b zs/\xs.length+zs.length<=sizeLine/\∀p,H p=none->Q (.ref p) (bA H p (.lst (xs++zs)))
theorem wI {prog:Program} {w:World} {A:Around} {E:Value->Shared->Prop} {s:Shared} {vs ws:List Value} {Q:Value->Shared->Prop} (hl:s.heap.IsList l vs.toArray) (hb:s.heap.IsList b ws.toArray) (hz:vs.length+ws.length<=sizeLine)
  (h:Q (.ref s.heap.objs.size) { s with heap:=s.heap.push { cls:=.type "list",data:=.seq (vs++ws).toArray } }):wpAny (model prog w) A (binaryOp .Add (.ref l) (.ref b)) Q E s:=by
 obtain ⟨⟨cls,dd,data,sl⟩,ho,hc,n,hd⟩:=id hl;obtain ⟨⟨cls2,dd2,data2,sl2⟩,ho2,hc2,n2,hd2⟩:=id hb;simp only at hc hd hc2 hd2
 subst hc hd hc2 hd2;have e:vs.toArray++ws.toArray=(vs++ws).toArray:=by simp
 rw [<-e] at h;exact concat_meets ⟨_,ho,rfl⟩ ⟨_,ho2,rfl⟩ noFill_list_add seq_list_add PySem.F.slot_list_add PySem.F.entry_list_add (PySem.F.args_list_add_2 _ _) (list_addW l b vs.toArray ws.toArray n n2 dd dd2 sl sl2 (by simpa using hz)) ⟨ho,ho2,h⟩
theorem vL:OpR X (binaryOp .Add) (jm X.K):=by
 intro pins s U H x y v u Q I rx ry h;obtain ⟨l,b,xs,zs,rfl,rfl,hH,hB,hz,q⟩:=h
 cases rx
 cases ry;obtain ⟨its,r,pl,z⟩:=I.list hH;obtain ⟨its2,r2,pl2,z2⟩:=I.list hB;refine wI pl.isList pl2.isList (by rw [<-r.length,<-r2.length];exact hz) ?_
 exact ⟨.ref _,_,I.lnew (t':=s.toks) (r.append r2) (by rw [length_append];exact hz),rfl,q _ I.fresh⟩
section
variable {K:Fg} {W:XW} {U:St} {H:Hp} {Q:VK} {D:dv} {fa fb:F1} {fl:FL}
theorem Reps.app {vs:List V} {ds es:List PySem.PyData} (h:Reps K H vs ds) (h':Reps K H ws es):Reps K H (vs++ws) (ds++es):=by
 refine ⟨by rw [length_append,length_append,h.1,h'.1],fun i v d e1 e2=>?_⟩
 by_cases hi:i<vs.length
 ·rw [getElem?_append_left hi] at e1
  rw [getElem?_append_left (by rw [<-h.1];exact hi)] at e2
  exact h.2 i v d e1 e2
 ·rw [getElem?_append_right (by omega)] at e1
  rw [getElem?_append_right (by rw [<-h.1];omega),<-h.1] at e2
  exact h'.2 _ v d e1 e2
end
theorem pA {K:Fg} {H:Hp} {ns:List Int} (h:Reps K H ws (ns.map .int)):ws=ns.map V.int:=by
 obtain ⟨hwl,hw⟩:=h;apply ext_getElem?
 intro i;by_cases hi:i<ws.length
 ·have hi2:i<ns.length:=by rw [length_map] at hwl;omega
  have q:=hw i (ws[i]'hi) (.int (ns[i]'hi2)) (getElem?_eq_getElem _) (by rw [getElem?_map,getElem?_eq_getElem hi2];rfl)
  rw [getElem?_eq_getElem hi,getElem?_map,getElem?_eq_getElem hi2];generalize ws[i]'hi=u at q
  cases q;rfl
 ·rw [getElem?_eq_none (by omega),getElem?_eq_none (by rw [length_map] at hwl ⊢;omega)]
def Hd (i:Nat) (q:PV) (Γ:Ev):Out PV:=match Γ[i]?,q.d with
 | some (some ⟨.lst .leaf,.list ds⟩),.int k=>(match eE ds.length k with
  | some j=>(match ds[j]? with
   | some d=>.ok ⟨.leaf,d⟩ Γ
   | none=>.no)
  | none=>.no)
 | _,_=>.no
section
variable {K:Fg} {W:XW} {U:St} {H:Hp} {Q:VK} {D:dv} {fa fb:F1} {fl:FL}
def m6 (p:PV):Bool:=match p with
 | ⟨.lst .leaf,.list ds⟩=>ds.all aT
 | _=>false
def xX (n:Nat) (den:List PySem.PyData->Res) (fl:FL):F1:=fun Γ=>(fl Γ).bind fun ps Γ'=>if ps.length=n then (match den (ps.map (·.d)) with
 | .ok p=>if m6 p then .ok p Γ' else .no
 | _=>.no) else .no
theorem rS {den:List PySem.PyData->Res} {E:XK} (h:tE K W (xX n den fl) U H Q):nS (o9 K n den) [] E (tA K W fl) U H Q:=by
 obtain ⟨He,O,Fs,Γ,E0,h⟩:=h;refine ⟨He,O,Fs,Γ,E0,?_⟩
 unfold xX at h
 cases e:fl Γ with
 | er c Γ'=>rw [e] at h;exact h
 | no=>rw [e] at h;exact h
 | ok ps Γ1=>
  rw [e] at h;intro vs H1 Gs Fs1 A;have h:Wants K W He O Fs H U Q (if ps.length=n then (match den (ps.map (·.d)) with | .ok p=>if m6 p then .ok p Γ1 else .no | _=>.no) else .no):=h
  by_cases hn:ps.length=n
  case neg=>rw [if_neg hn] at h;exact h.elim
  rw [if_pos hn] at h;have hl:(vs++[]).length=n:=by rw [append_nil,A.len1];exact hn
  cases ed:den (ps.map (·.d)) with
  | er c=>rw [ed] at h;exact h.elim
  | no=>rw [ed] at h;exact h.elim
  | ok p=>
   rw [ed] at h;have h:Wants K W He O Fs H U Q (if m6 p then .ok p Γ1 else .no):=h
   have newF:∀a∈Fs1.flatten,a∈Fs.flatten\/H a=none:=fun a ha=>A.new a (mem_append_right _ ha)
   cases hc:m6 p with
   | false=>rw [hc] at h;exact h.elim
   | true=>
    rw [hc] at h;have h:Wants K W He O Fs H U Q (.ok p Γ1):=h
    refine ⟨hl,[],ps.map (·.d),nodup_nil,(fun _ z=>nomatch z),by rw [append_nil,DX];exact A.reps,?_⟩
    rw [ed];intro v H2 G r;unfold m6 at hc;split at hc
    ·rename_i ds
     obtain ⟨l,us,rfl,rfl,hp,hul,hr⟩:=r.own.leaves;refine h (.ref l) H2 [l] Fs1 ⟨A.same.trans r.same,A.env.dropL.hide r.same r.nd r.fresh r.inH,fun a ha=>?_,Own.mkLeaves hp hul fun j u d e1 e2=>((hr j u d e1 e2).sc (List.all_eq_true.mp hc d (mem_of_getElem? e2))).rep⟩
     rcases List.mem_append.mp ha with z | z
     ·exact .inr (A.same.free (r.fresh a z))
     ·exact newF a z
    ·cases hc
def tV (i:Nat) (a:Int) (p:PV) (Γ:Ev):OutS:=match p.d with
 | .int b=>if i<Γ.length then .nx (Γ.set i (some ⟨.leaf,.int (a+b)⟩)) else .no
 | _=>.no
def jk (i:Nat) (f:F1):FS:=fun Γ=>match Γ[i]? with
 | some (some ⟨.leaf,.int a⟩)=>gN f (tV i a) Γ
 | _=>.no
theorem yT {i:Nat} (h:tS K W (jk i fa) D U H):BL i (tE K W fa) (GO fun i j=>i+j) D U H:=by
 obtain ⟨He,O,Fs,Γ,E,h⟩:=h;unfold jk at h;split at h
 ·rename_i a e0
  obtain ⟨_,v,F,h1,h2,h3⟩:=E.slot i _ e0;have r:=h3.rep
  cases r;refine ⟨.int a,h1,?_⟩
  refine fP (D:=D) (k:=tV i a) ⟨He,O,Fs,Γ,E,h⟩ fun He O Fs Γ1 p u H1 G Fs1 _ fr A w=>?_
  unfold tV at w;split at w
  ·rename_i b eb
   have r:=A.own.rep
   rw [eb] at r
   cases r;by_cases hi:i<Γ1.length
   ·rw [if_pos hi] at w
    exact ⟨a,b,rfl,rfl,w _ _ _ (EnvOk.put (G:=[]) (p:=⟨.leaf,.int (a+b)⟩) (v:=.int (a+b)) A.go (.leaf (.int _)) rfl (fun a ha=>by simp at ha) hi)⟩
   ·rw [if_neg hi] at w;exact w.elim
  ·exact w.elim
 ·exact h.elim
def Am (i:Nat) (p:PV) (Γ:Ev):OutS:=match Γ[i]?,p.d with
 | some (some ⟨.lst .leaf,.list ds⟩),.tuple es=>if dO p es&&decide (ds.length+es.length<=sizeLine) then .nx (Γ.set i (some ⟨.lst .leaf,.list (ds++es)⟩)) else .no
 | some (some ⟨.lst .leaf,.list ds⟩),.list es=>if dO p es&&decide (ds.length+es.length<=sizeLine) then .nx (Γ.set i (some ⟨.lst .leaf,.list (ds++es)⟩)) else .no
 | _,_=>.no
def iP (i:Nat) (f:F1):FS:=fun Γ=>if uf Γ[i]? then gN f (Am i) Γ else .no
def yX (K:Fg):V->List V->Hp->VK->Prop:=fun x vs H Q=>∃l b xs zs,x=.ref l/\vs=[.ref b]/\H l=some (.lst xs)/\(SqL K H b zs\/SqT K H b zs)/\xs.length+zs.length<=sizeLine/\Q .non (bA H l (.lst (xs++zs)))
theorem yR {i:Nat} (h:tS K W (iP i fa) D U H):d6 (uk K "list" (yX K) (dU i) (tA K W (ab fa ae))) D U H:=by
 obtain ⟨He,O,Fs,Γ,E,h⟩:=h;unfold iP at h
 cases ho:uf Γ[i]? with
 | false=>rw [ho] at h;exact h.elim
 | true=>
  rw [ho] at h;obtain ⟨ds,e0⟩:=EN ho;obtain ⟨l,vs,h1,h2,h3,_,_⟩:=E.chgF e0;refine ⟨.ref l,h1,.inl ⟨rfl,vs,.of h2⟩,rA (fP (D:=D) ⟨He,O,Fs,Γ,E,h⟩ fun He O Fs Γ1 p v H1 G Fs1 _ fr A w=>?_)⟩
  obtain ⟨s,d⟩:=p;have fin:∀(ds1 es:List PySem.PyData) (b:Addr) (ws:List V),Γ1[i]?=some (some ⟨.lst .leaf,.list ds1⟩)->v=.ref b->(SqL K H1 b ws\/SqT K H1 b ws)->Reps K (cF H1 (O++Fs1.flatten)) ws es->ds1.length+es.length<=sizeLine ->
    kq K W He O D (.nx (Γ1.set i (some ⟨.lst .leaf,.list (ds1++es)⟩)))->yX K (.ref l) [v] H1 (fun _ H2=>D.nx U H2):=fun ds1 es b ws e1 hv hq hr hz w=>by
   obtain ⟨l1,vs1,q1,q2,q3,q4,q5⟩:=A.go.chgF e1;rw [h1] at q1
   cases q1;subst hv;refine ⟨l,b,vs1,ws,rfl,rfl,q2,hq,by rw [q3,hr.1];exact hz,w U _ _ (q5 (vs1++ws) (ds1++es) (by rw [length_append,length_append,q3,hr.1]) ?_)⟩
   exact (Reps.app ⟨q3,q4⟩ hr).2
  unfold Am at w;split at w
  ·rename_i ds1 es e1 e2
   dsimp only at e2;subst e2
   cases hc:(dO ⟨s,.tuple es⟩ es&&decide (ds1.length+es.length<=sizeLine)) with
   | false=>rw [hc] at w;exact w.elim
   | true=>
    rw [hc] at w;simp only [Bool.and_eq_true,decide_eq_true_eq] at hc
    obtain ⟨b,ws,rfl,hq,_,hr⟩:=A.own.itemsT (O':=O++Fs1.flatten) hc.1 jL A.disj
    exact fin ds1 es b ws e1 rfl (.inr hq) hr hc.2 w
  ·rename_i ds1 es e1 e2
   dsimp only at e2;subst e2
   cases hc:(dO ⟨s,.list es⟩ es&&decide (ds1.length+es.length<=sizeLine)) with
   | false=>rw [hc] at w;exact w.elim
   | true=>
    rw [hc] at w;simp only [Bool.and_eq_true,decide_eq_true_eq] at hc
    obtain ⟨b,ws,rfl,hq,_,hr⟩:=A.own.items (O':=O++Fs1.flatten) hc.1 jL A.disj
    exact fin ds1 es b ws e1 rfl (.inl hq) hr hc.2 w
  ·exact w.elim
end
theorem FZ {xs:Array Value} {m:Nat} (h0:¬(!xs.isEmpty&&Builtin.List.listTooLong (xs.size+ys.size))=true) (h1:xs.size<=sizeLine) (h2:(xs++ys).size<=sizeLine+1) :
  Meets (Builtin.«list.extend» ⟨[.ref l,.ref b],[]⟩) (fun _ R s=>s.heap.get? l=some ⟨.type "list",none,.seq xs n,#[]⟩/\s.heap.get? b=some ⟨.type "tuple",d2,.seq ys m,s2⟩ /\
   R (.ok (.ret Value.none)) { s with heap:=s.heap.update l (Obj.mapSeq fun x=>x++ys),toks:=s.toks }):=
 .of_wp fun prog w A R s h=>by
  obtain ⟨hp,g,d,tk,os⟩:=s;obtain ⟨hl,hb,h⟩:=h;have f1:=AutoSeq1.idx_int
  have f2:=AutoSeq1.sub_tuple_tuple
  have f3:=AutoSeq1.sub_list_list
  have f4:=AutoSeq1.sub_tuple_list
  have f5:=AutoSeq1.sub_list_tuple
  wp_walk using (wpAny_updateSeq hl rfl (hz:=h1) (_hz':=h2)),AutoSeq1.wpAny_loadPart' hl,AutoSeq1.wpAny_loadPart' hb
  exact ⟨_,rfl,h⟩
theorem F6 {xs:Array Value} {m:Nat} (h0:¬(!xs.isEmpty&&Builtin.List.listTooLong (xs.size+ys.size))=true) (h1:xs.size<=sizeLine) (h2:(xs++ys).size<=sizeLine+1) :
  Meets (Builtin.«list.extend» ⟨[.ref l,.ref b],[]⟩) (fun _ R s=>s.heap.get? l=some ⟨.type "list",none,.seq xs n,#[]⟩/\s.heap.get? b=some ⟨.type "list",d2,.seq ys m,s2⟩ /\
   R (.ok (.ret Value.none)) { s with heap:=s.heap.update l (Obj.mapSeq fun x=>x++ys),toks:=s.toks }):=
 .of_wp fun prog w A R s h=>by
  obtain ⟨hp,g,d,tk,os⟩:=s;obtain ⟨hl,hb,h⟩:=h;have f1:=AutoSeq1.idx_int
  have f2:=AutoSeq1.sub_tuple_tuple
  have f3:=AutoSeq1.sub_list_list
  have f4:=AutoSeq1.sub_tuple_list
  have f5:=AutoSeq1.sub_list_tuple
  wp_walk using (wpAny_updateSeq hl rfl (hz:=h1) (_hz':=h2)),AutoSeq1.wpAny_loadPart' hl,AutoSeq1.wpAny_loadPart' hb
  exact ⟨_,rfl,h⟩
theorem zE:GY X "list.extend" (yX X.K):=by
 intro pins s U H x vs v us Q I rx rv h;obtain ⟨l,b,xs,zs,rfl,rfl,hH,hB,hz,q⟩:=h
 cases rx;obtain ⟨u,rfl,ru⟩:=rv.one
 cases ru;obtain ⟨z,its,n,r,hl,e⟩:=I.lstM hH;have fin:∀its2:List Value,Vals zs its2->its.toArray.size+its2.toArray.size<=sizeLine/\(its.toArray++its2.toArray).size<=sizeLine+1/\its.toArray.size<=sizeLine/\¬(!its.toArray.isEmpty&&Builtin.List.listTooLong (its.toArray.size+its2.toArray.size))=true /\
   EP X pins U Q Value.none { s with heap:=s.heap.update l (Obj.mapSeq fun x=>x++its2.toArray),toks:=s.toks }:=fun its2 r2=>by
  have h1:its.toArray.size+its2.toArray.size<=sizeLine:=by rw [size_toArray,size_toArray,<-r.length,<-r2.length];exact hz
  refine ⟨h1,by rw [Array.size_append];omega,by omega,?_,?_⟩
  ·rw [sC h1,Bool.and_false]
   exact Bool.false_ne_true
  ·exact ⟨.non,_,I.lset (its':=its++its2) hH e (by simp) (r.append r2) (by rw [length_append];exact hz),rfl,q⟩
 rcases hB with hB | hB
 ·obtain ⟨its2,r2,⟨⟨c2,d2,dat2,s2⟩,n2,e2,ec,ed,es⟩,_⟩:=I.list hB
  simp only at ec es
  subst ec es;obtain ⟨f1,f2,f3,f4,f5⟩:=fin its2 r2;exact call_meets F.slot_list_extend ⟨_,e,rfl⟩ F.entry_list_extend (F.args_list_extend_2 _ _) (F6 f4 f3 f2) ⟨e,e2,f5⟩
 ·obtain ⟨its2,r2,⟨⟨c2,d2,dat2,s2⟩,e2,ec,n2,es⟩,_⟩:=I.tuple hB
  simp only at ec es
  subst ec es;obtain ⟨f1,f2,f3,f4,f5⟩:=fin its2 r2;exact call_meets F.slot_list_extend ⟨_,e,rfl⟩ F.entry_list_extend (F.args_list_extend_2 _ _) (FZ f4 f3 f2) ⟨e,e2,f5⟩
section
variable {X:Cx} {N gl:List Str} {vs cs ls lo gs:List Nat} {W:XW} {a b c e:Expr} {es:List Expr} {pos p:Pos} {fa fb fc:F1} {fl:FL} {g:FS}
theorem cs_extend (S:Cp X N gl vs cs ls lo gs) (i:Nat) {x:Str} {apos cpos:Pos} (hi:N[i]?=some x) (hv:vs.contains i=true) (ha:PE X a (tE X.K W fa)) (hs:starEach [a] X.env=[(false,eval a X.env)])
  (hbase:attributeBase (.Name x p) "extend" X.env (eval (.Name x p) X.env)=eval (.Name x p) X.env) (hline:(apos.endLine==cpos.line)=true)
  (hfew:((backTo cpos (starEach [a] X.env)).all (fun x=>!x.1)&&(backToKw cpos (keywordEach [] X.env)).all (fun x=>x.1.isSome)
   && decide ([a].length+([]:List Keyword).length+(if ([]:List Keyword).isEmpty then 0 else 1)<30))=true)
  (hsw:swapsWith (.Call (.Attribute (.Name x p) "extend" apos) [a] [] cpos) none pos.line X.env=pure false) :
  PS X (.Expr (.Call (.Attribute (.Name x p) "extend" apos) [a] [] cpos) pos) (tS X.K W (iP i fa)):=by
 have m:=S.nm x (mem_of_getElem? hi)
 exact cO (C1 (oq PySem.F.plainAttrs_list PySem.F.slot_list_extend PySem.F.type_list_extend zE (qL (by rw [S.hN];exact hi) (S.vis i x hi hv) m.1 m.2) (da_cons ha da_nil hs) hbase hfew hline hs rfl) hsw) fun _ _ _=>yR
end
end T
namespace TQ
open PySem PySem.Spec L2 T
open PyProof.Rows hiding St
variable {x:Str}
section
variable {X:Cx} {N gl:List Str} {vs cs ls lo gs:List Nat} {W:XW} {a b c e:Expr} {es:List Expr} {pos p:Pos} {fa fb fc:F1} {fl:FL} {ga gb:FB} {g1 g2 g:FS}
theorem yr {n:Nat} {den:List PySem.PyData->Res} (S:Cp X N gl vs cs ls lo gs) (j:Nat) (hj:gl[j]?=some x) (hg:gs.contains j=true) (C:AR X x n den) (ha:Q (PA X (e::es) (tA X.K W fl))) (he:starEach (e::es) X.env=(false,eval e X.env)::starEach es X.env) (hpl:(backTo pos (starEach es X.env)).any (·.1)=false):Q (PE X (.Call (.Name x p) (e::es) [] pos) (tE X.K W (xX n den fl))):=⟨by
 have ha:=ha.p
 obtain ⟨k,f,fd,ps,F,hr,hm,hk,hb⟩:=C;exact aY (En F hr (S.g hj hg).1 hm hk hb .nil sv ha (S.g hj hg).2.1 he hpl) fun _ _ _=>rS⟩
theorem qX (S:Cp X N gl vs cs ls lo gs) (i:Nat) {pos':Pos} (hi:N[i]?=some x) (hl:ls.contains i=true) (ha:Q (PE X a (tE X.K W fa))):Q (PS X (.AugAssign (.Name x pos') .Add a pos) (tS X.K W (jk i fa))):=⟨have ha:=ha.p;cO (zd (by rw [S.hN];exact S.nd) (by rw [S.hN];exact hi) (S.loc i x hi hl).1 ha zQ (S.loc i x hi hl).2) fun _ _ _=>yT⟩
theorem fM (S:Cp X N gl vs cs ls lo gs) (i:Nat) {apos cpos:Pos} (hi:N[i]?=some x) (hv:vs.contains i=true) (ha:Q (PE X a (tE X.K W fa))) (hs:starEach [a] X.env=[(false,eval a X.env)]) (hbase:attributeBase (.Name x p) "extend" X.env (eval (.Name x p) X.env)=eval (.Name x p) X.env) (hline:(apos.endLine==cpos.line)=true) (hfew:((backTo cpos (starEach [a] X.env)).all (fun x=>!x.1)&&(backToKw cpos (keywordEach [] X.env)).all (fun x=>x.1.isSome)
   && decide ([a].length+([]:List Keyword).length+(if ([]:List Keyword).isEmpty then 0 else 1)<30))=true) (hsw:swapsWith (.Call (.Attribute (.Name x p) "extend" apos) [a] [] cpos) none pos.line X.env=pure false):Q (PS X (.Expr (.Call (.Attribute (.Name x p) "extend" apos) [a] [] cpos) pos) (tS X.K W (iP i fa))):=⟨T.cs_extend S i hi hv ha.p hs hbase hline hfew hsw⟩
theorem qT {tg:Expr} (ha:Q (PE X a (tE X.K W fa))):Q (PI X tg a (tI X.K W (ig fa))):=⟨have ha:=ha.p;ml (zf ha) fun _ _ _=>vp⟩
end
end TQ
namespace T
open PySem PySem.Spec L2
open PyProof.Rows hiding St
variable {X:Cx} {tg:Expr} {x:Str} {W:XW} {U:St}
def tp (neg:Bool):PySem.PyData->PySem.PyData->Option PySem.PyData
 | .bool a,.bool b=>some (.bool (if neg then a != b else a==b))
 | _,_=>none
theorem vJ:OpR X (compareOp .IsNot) (fun x y H Q=>∃a b,x=.bl a/\y=.bl b/\Q (.bl (a != b)) H):=by
 intro pins s U H x y v u Q I rx ry h;obtain ⟨a,b,rfl,rfl,q⟩:=h
 cases rx
 cases ry;exact isnot_bool (Bn I q rfl)
theorem sZ {K:Fg}:GOp K (fun x y H Q=>∃a b,x=.bl a/\y=.bl b/\Q (.bl (a != b)) H) (tp true):=by
 intro x y H Q a b d ra rb e k
 cases ra<;>cases rb<;>simp only [tp] at e<;>try cases e
 exact ⟨_,_,rfl,rfl,k _ (.bl _)⟩
theorem yZ (R:Rm X):Ck X .IsNot (fun x y H Q=>∃a b,x=.bl a/\y=.bl b/\Q (.bl (a != b)) H) (tp true):=⟨vJ,sZ⟩
def DG (x:Str):It where
 go:=fun i _=>i<x.cps.size
 yld:=fun i H v H'=>H'=H/\∃c,x.cps[i]?=some c/\v=.str ⟨#[c]⟩
 stop:=fun i _=>x.cps.size<=i
theorem o7 {P:Program} {w:World} {K:Fg} (it:Addr) (x:Str) (t:Tok):qv P w K tg (DG x) [it] it (fun i h=>h.IsStrIter it "str_ascii_iterator" x t i) where
 mem:=by simp
 obj:=fun i h st b hb=>by
  have e:b=it:=by simpa using hb
  subst e;obtain ⟨o,ho,hc,hd⟩:=st;exact ⟨o,ho,fun v z=>by rw [hd] at z;cases z⟩
 keep:=fun i h h' st k=>let ⟨o,ho,r⟩:=st;⟨o,k it (by simp) o ho,r⟩
 item:=by
  intro X hP hw hK hc i pins s U H E I hf st hg;subst hP hw hK;obtain ⟨f0,f1,f2,f3,f4,f5⟩:=hf it (by simp)
  have W:=Walks.strAscii (prog:=X.prog) (w:=X.w) (I.ok.hd hc) it x t
  refine W.item i s _ _ hg st fun v h' tk hv st' kk=>?_
  obtain ⟨c,u,hx,rfl⟩:=hv;have I1:Inv X pins U H { s with heap:=h',toks:=tk }:=I.turned (fun b o hb e=>kk b o (by simpa using hb) e) f0 f1 f3 f4 f5
  obtain ⟨o,ho,oc,od⟩:=id st'
  exact ⟨_,rfl,oG (s:={ s with heap:=h',toks:=tk }) (n := "str_ascii_iterator") ho oc od (by decide) ⟨.str ⟨#[c]⟩,H,I1,⟨u,rfl⟩,⟨rfl,c,hx,rfl⟩,st',fun b hb=>(hf b hb).1⟩⟩
 done:=by
  intro X hP hw hK hc i pins s U H E I hf st hg;subst hP hw hK;obtain ⟨f0,f1,f2,f3,f4,f5⟩:=hf it (by simp)
  exact wpAny_pyNext_ascii_end (I.ok.hd hc) st (by have:x.cps.size<=i:=hg;simp;omega) fun h' eb=>⟨rfl,I.turned (t':=s.toks) (fun b o hb e=>eb b o hb e) f0 f1 f3 f4 f5⟩
 self:=fun _ _ _ _ _ st h=>wpAny_pyIter_striter_ascii st h
def sS (x:Str):TI:=fun U H R=>R (DG x) H
theorem vD {j:Nat} {pos:Pos} (ha:x.cps.all (·<128)=true):PI X tg (.Constant (.str x) j pos) (sS x):=by
 intro pins s U H R I h;refine Calls.Constant_str ?_
 refine wpAny_pyIter_ascii ha ?_
 have I1:=I.tok (s.toks+1)
 refine ⟨s.heap.objs.size,[s.heap.objs.size],_,_,H,rfl,I1.kept (t':=s.toks+1) fun b o e=>Heap.get?_push_of_some _ e,o7 _ x _,⟨_,Heap.get?_push_size _ rfl,rfl,rfl⟩,fun b hb=>?_,h⟩
 have e:b=s.heap.objs.size:=by simpa using hb
 subst e;exact I1.fpOk (Nat.le_refl _) (I1.hok.fresh (Nat.le_refl _))
def xG (x:Str):List V:=x.cps.toList.map fun c=>.str ⟨#[c]⟩
def CC (x:Str):List PySem.PyData:=x.cps.toList.map fun c=>.str ⟨#[c]⟩
theorem vT:ub (DG x) (fun _=>True) (xG x):=by
 refine ⟨fun i H v _ hv=>?_,fun H _=>?_⟩
 ·unfold xG at hv
  rw [getElem?_map,Array.getElem?_toList] at hv
  cases e:x.cps[i]? with
  | none=>rw [e] at hv;cases hv
  | some c=>
   rw [e] at hv
   cases hv;refine ⟨(Array.getElem?_eq_some_iff.mp e).1,fun y H' ⟨h1,c',h2,h3⟩=>⟨h1,?_⟩⟩
   rw [e] at h2
   cases h2;exact h3
 ·show x.cps.size<=(xG x).length
  unfold xG;rw [length_map,Array.length_toList];exact Nat.le_refl _
theorem vg {K:Fg} {H:Hp}:Reps K H (xG x) (CC x):=by
 refine ⟨by simp [xG,CC],fun i v d h1 h2=>?_⟩
 unfold xG at h1;unfold CC at h2;rw [getElem?_map] at h1 h2
 cases e:x.cps.toList[i]? with
 | none=>rw [e] at h1;cases h1
 | some c=>
  rw [e] at h1 h2
  cases h1
  cases h2;exact .str _
def eZ (x:Str):FI:=fun Γ=>.ok ⟨CC x,true⟩ Γ
theorem rO {K:Fg} {H:Hp} {R:It->Hp->Prop} (h:tI K W (eZ x) U H R):sS x U H R:=by
 obtain ⟨He,O,Fs,Γ,E,h⟩:=h;exact h (DG x) H Fs (xG x) (fun _=>True) (Same.refl _) E (fun a ha=>.inl ha) vT trivial (fun _ _=>trivial) (fun _ _ _=>trivial) vg
def oe:V->List V->Hp->VK->Prop:=fun x xs H Q=>∃(i j:Str) (k:Nat) (rest:List Nat),x=.str i/\xs=[.str j]/\Builtin.Str.occurrences i j 0 i.length 1=k::rest/\Q (.int k) H
theorem pS:GX X "str.index" oe:=by
 intro pins s U H x xs v us Q I rx rv h;obtain ⟨i,j,k,rest,rfl,rfl,ho,q⟩:=h;obtain ⟨t,rfl⟩:=rx;obtain ⟨u,rfl,ru⟩:=rv.one;obtain ⟨t',rfl⟩:=ru;exact SC.index ho ⟨.int k,H,I.tok _,⟨_,rfl⟩,q⟩
def dM (x:Str):List PySem.PyData->Option PySem.PyData
 | [.str j]=>match Builtin.Str.occurrences x j 0 x.length 1 with
  | k::_=>some (.int k)
  | []=>none
 | _=>none
theorem wa {K:Fg}:GCall K (fun xs H Q=>oe (.str x) xs H Q) (dM x):=by
 intro vs H Q ds d rs e k;unfold dM at e;split at e
 ·rename_i j
  obtain ⟨v,rfl,r⟩:=rs.one
  cases r;split at e
  ·rename_i k' rest ho
   cases e;exact ⟨x,j,k',rest,rfl,rfl,ho,k _ (.int _)⟩
  ·cases e
 ·cases e
theorem vo {K:Fg} {H:Hp} {Q:VK} {fl:FL} (h:tE K W (bb (dM x) fl) U H Q):uk K "str" oe (tC (.str x)) (tA K W fl) U H Q:=
 ⟨rfl,nZ wa h⟩
theorem ce_idxS {j:Nat} {p apos cpos:Pos} {e:Expr} {fe:F1} (ha:PE X e (tE X.K W fe)) (hs:starEach [e] X.env=[(false,eval e X.env)]) (hline:(apos.endLine==cpos.line)=true) :
  PE X (.Call (.Attribute (.Constant (.str x) j p) "index" apos) [e] [] cpos) (tE X.K W (bb (dM x) (ab fe ae))):=
 aY (oq (T := "str") (r:=oe) F.plainAttrs_str F.slot_str_index F.type_str_index pS zj (da_cons ha da_nil hs) rfl (by rw [hs];rfl) hline hs rfl) fun _ _ _=>vo
end T
namespace TQ
open PySem PySem.Spec L2 T
open PyProof.Rows hiding St
variable {X:Cx} {W:XW} {x:Str}
theorem jc {tg:Expr} {j:Nat} {pos:Pos} (ha:x.cps.all (·<128)=true):Q (PI X tg (.Constant (.str x) j pos) (tI X.K W (eZ x))):=⟨ml (vD ha) fun _ _ _=>rO⟩
theorem jf {j:Nat} {p apos cpos:Pos} {e:Expr} {fe:F1} (ha:Q (PE X e (tE X.K W fe))) (hs:starEach [e] X.env=[(false,eval e X.env)]) (hline:(apos.endLine==cpos.line)=true) :
  Q (PE X (.Call (.Attribute (.Constant (.str x) j p) "index" apos) [e] [] cpos) (tE X.K W (bb (dM x) (ab fe ae)))):=⟨T.ce_idxS ha.p hs hline⟩
end TQ
namespace T
open PySem PySem.Spec L2
open PyProof.Rows hiding St
def putN:List Nat->List PV->Ev->Option Ev
 | [],[],Γ=>some Γ
 | i::is,p::ps,Γ=>if decide (i<Γ.length)&&!p.s.isView then putN is ps (Γ.set i (some p)) else none
 | _,_,_=>none
def uZ:List Nat->List V->St->St
 | i::is,v::vs,U=>uZ is vs (U.set i (some v))
 | _,_,U=>U
def vA:List Sh->List PySem.PyData->List PV
 | s::ss,d::ds=>⟨s,d⟩::vA ss ds
 | _,_=>[]
def yu (p:PV):Option (List PV):=match p.s,p.d with
 | .tup ss,.tuple ds=>some (vA ss ds)
 | .leaf,.tuple ds=>some (ds.map fun d=>⟨.leaf,d⟩)
 | _,_=>none
def dD (is:List Nat) (f:F1):FS:=gN f fun p Γ=>match yu p with
 | some ps=>if ps.length=is.length then (match putN is ps Γ with
  | some Γ'=>.nx Γ'
  | none=>.no) else .no
 | none=>.no
def D4:List Nat->xN
 | []=>Ae
 | i::is=>oI (gName i) (D4 is)
theorem EA {H:Hp} {Q:St->Hp->Prop}:∀{is:List Nat} {vs:List V} {U:St},vs.length=is.length->Q (uZ is vs U) H->D4 is vs U H Q
 | [],[],_,_,q=>⟨rfl,q⟩
 | i::is,v::vs,U,hl,q=>⟨v,vs,rfl,EA (is:=is) (vs:=vs) (by simpa using hl) q⟩
 | [],_::_,_,hl,_=>by simp at hl
 | _::_,[],_,hl,_=>by simp at hl
section
variable {K:Fg} {W:XW} {U:St} {H:Hp} {D:dv} {fa:F1}
theorem Ef {He:Hp} {O:List Addr}:∀{is:List Nat} {ps:List PV} {vs:List V} {Gs:List (List Addr)} {Fs:List (List Addr)} {U:St} {Γ Γ':Ev},vs.length=ps.length->Gs.length=ps.length->EnvOk K He (Gs.flatten++O) Fs H U Γ->(∀a∈Gs.flatten,He a=none) ->
  (∀(k:Nat) v p G,vs[k]?=some v->ps[k]?=some p->Gs[k]?=some G->Own K (Gs.flatten++O++Fs.flatten) H p.s G v p.d)->putN is ps Γ=some Γ'->∃Fs',EnvOk K He O Fs' H (uZ is vs U) Γ'
 | [],[],[],[],Fs,U,Γ,Γ',_,_,E,_,_,h=>by
  cases h;exact ⟨Fs,by simpa [uZ] using E⟩
 | i::is,p::ps,v::vs,G::Gs,Fs,U,Γ,Γ',h1,h2,E,fr,o,h=>by
  unfold putN at h;split at h
  ·rename_i hc
   simp only [Bool.and_eq_true,decide_eq_true_eq,Bool.not_eq_true'] at hc
   obtain ⟨hi,n1⟩:=hc;have fl:(G::Gs).flatten++O=G++(Gs.flatten++O):=by simp [append_assoc]
   rw [fl] at E o
   have E1:=EnvOk.put (i:=i) E (o 0 v p G rfl rfl rfl) n1 (fun a ha=>fr a (by simp [ha])) hi
   refine Ef (is:=is) (ps:=ps) (vs:=vs) (Gs:=Gs) (by simpa using h1) (by simpa using h2) E1 (fun a ha=>fr a (mem_append_right G ha)) (fun k v' p' G' a1 a2 a3=>?_) h
   refine (o (k+1) v' p' G' (by simpa using a1) (by simpa using a2) (by simpa using a3)).perm fun a ha=>?_
   rcases List.mem_append.mp ha with z | z
   ·exact mem_append_left _ (mem_append_right _ z)
   ·obtain ⟨F,hF⟩:=E.lt hi
    rcases List.mem_append.mp ((mz (G:=G) hF).mem_iff.mp (mem_append_right _ z)) with y | y
    ·exact mem_append_left _ (mem_append_left _ y)
    ·exact mem_append_right _ y
  ·cases h
 | [],_::_,_,_,_,_,_,_,_,_,_,_,_,h=>by cases h
 | _::_,[],_,_,_,_,_,_,_,_,_,_,_,h=>by cases h
 | [],[],_::_,_,_,_,_,_,h,_,_,_,_,_=>by simp at h
 | [],[],[],_::_,_,_,_,_,_,h,_,_,_,_=>by simp at h
 | _::_,_::_,[],_,_,_,_,_,h,_,_,_,_,_=>by simp at h
 | _::_,_::_,_::_,[],_,_,_,_,_,h,_,_,_,_=>by simp at h
theorem oh:∀{ss:List Sh} {ds:List PySem.PyData},ss.length=ds.length->(vA ss ds).length=ds.length
 | [],[],_=>rfl
 | _::ss,_::ds,h=>by simp only [vA,length_cons];rw [oh (ss:=ss) (ds:=ds) (by simpa using h)]
 | [],_::_,h=>by simp at h
 | _::_,[],h=>by simp at h
theorem sd:∀{ss:List Sh} {ds:List PySem.PyData} {k:Nat} {p:PV},(vA ss ds)[k]?=some p->ss[k]?=some p.s/\ds[k]?=some p.d
 | [],_,k,p,h=>by simp [vA] at h
 | _::_,[],k,p,h=>by simp [vA] at h
 | s::ss,d::ds,0,p,h=>by
  simp only [vA,List.getElem?_cons_zero,Option.some.injEq] at h
  subst h;exact ⟨rfl,rfl⟩
 | s::ss,d::ds,k+1,p,h=>by
  simp only [vA,List.getElem?_cons_succ] at h ⊢
  exact sd h
theorem Eu {n:Nat}:(List.replicate n ([]:List Addr)).flatten=[]:=by
 induction n with
 | zero=>rfl
 | succ n ih=>rw [List.replicate_succ,flatten_cons,ih];rfl
theorem nY {is:List Nat} (h:tS K W (dD is fa) D U H):gW (tE K W fa) (Ad K is.length (D4 is)) D U H:=by
 refine fP h fun He O Fs Γ1 p v H1 G Fs1 _ fr A w=>?_
 obtain ⟨s,d⟩:=p;have o:=A.own
 have E:=A.env
 dsimp only at w o
 cases hu:yu ⟨s,d⟩ with
 | none=>rw [hu] at w;exact w.elim
 | some ps=>
  rw [hu] at w;dsimp only at w;by_cases hl:ps.length=is.length
  ·rw [if_pos hl] at w
   cases hp:putN is ps Γ1 with
   | none=>rw [hp] at w;exact w.elim
   | some Γ'=>
    rw [hp] at w
    cases o with
    | view r=>cases hu
    | lst=>cases hu
    | leaf r=>
     cases d with
     | tuple ds=>
      cases hu
      cases r with
      | @tup a vs _ hq hlen hr=>
       obtain ⟨Fs',E'⟩:=Ef (is:=is) (vs:=vs) (Gs:=List.replicate ds.length []) (Fs:=Fs1) (by rw [hlen,length_map]) (by rw [List.length_replicate,length_map]) (by rw [Eu];exact E) (by rw [Eu];intro a ha;simp at ha) (fun k v' p' G' a1 a2 a3=>by
        rw [Eu];rw [getElem?_map] at a2
        cases ed:ds[k]? with
        | none=>rw [ed] at a2;cases a2
        | some d'=>
         rw [ed] at a2
         cases a2;have:G'=[]:=List.eq_of_mem_replicate (mem_of_getElem? a3)
         subst this;exact .leaf (hr k v' d' a1 ed)) hp
       exact ⟨a,vs,rfl,iC hid_le hq,by rw [hlen];simpa using hl,EA (by rw [hlen];simpa using hl) (w _ _ _ E')⟩
     | _=>cases hu
    | @tup ss a vs ds Fs0 hv hpa hn hlen hf hs nd q=>
     cases hu;have pl:=oh hs
     obtain ⟨Fs',E'⟩:=Ef (is:=is) (vs:=vs) (Gs:=Fs0) (Fs:=Fs1) (by rw [hlen,pl]) (by rw [hf,pl]) E fr (fun k v' p' G' a1 a2 a3=>by
      obtain ⟨z1,z2⟩:=sd a2;exact q k v' p'.d G' p'.s a1 z2 a3 z1) hp
     have hn2:vs.length=is.length:=by rw [hlen,<-pl];exact hl
     exact ⟨a,vs,rfl,.of hpa,hn2,EA hn2 (w _ _ _ E')⟩
  ·rw [if_neg hl] at w
   exact w.elim
end
section
variable {X:Cx} {N gl:List Str} {vs cs ls lo gs:List Nat} {W:XW} {a:Expr} {pos:Pos} {fa:F1}
theorem cs_unp2 (S:Cp X N gl vs cs ls lo gs) (i j:Nat) {x y:Str} {px py pt:Pos} {kt:Nat} (hi:N[i]?=some x) (hj:N[j]?=some y) (li:ls.contains i=true) (lj:ls.contains j=true) (ha:PE X a (tE X.K W fa))
  (hs:swapsWithSole [.Tuple [.Name x px,.Name y py] kt pt] a pos.line X.env=pure false) (hw:swappedStores [.Tuple [.Name x px,.Name y py] kt pt] a X.env=pure none) :
  PS X (.Assign [.Tuple [.Name x px,.Name y py] kt pt] a pos) (tS X.K W (dD [i,j] fa)):=by
 have hN:X.N.Nodup:=by rw [S.hN];exact S.nd
 exact cO (DN ha (DM S.calm (ye (oX hN (by rw [S.hN];exact hi) (S.loc i x hi li).1 (S.loc i x hi li).2) (ye (oX hN (by rw [S.hN];exact hj) (S.loc j y hj lj).1 (S.loc j y hj lj).2) Eo))) hs hw) fun _ _ _=>nY (is:=[i,j])
end
end T
namespace TQ
open PySem PySem.Spec L2 T
open PyProof.Rows hiding St
variable {X:Cx} {N gl:List Str} {vs cs ls lo gs:List Nat} {W:XW} {a:Expr} {pos:Pos} {fa:F1}
theorem o4 (S:Cp X N gl vs cs ls lo gs) (i j:Nat) {x y:Str} {px py pt:Pos} {kt:Nat} (hi:N[i]?=some x) (hj:N[j]?=some y) (li:ls.contains i=true) (lj:ls.contains j=true) (ha:Q (PE X a (tE X.K W fa)))
  (hs:swapsWithSole [.Tuple [.Name x px,.Name y py] kt pt] a pos.line X.env=pure false) (hw:swappedStores [.Tuple [.Name x px,.Name y py] kt pt] a X.env=pure none) :
  Q (PS X (.Assign [.Tuple [.Name x px,.Name y py] kt pt] a pos) (tS X.K W (dD [i,j] fa))):=⟨T.cs_unp2 S i j hi hj li lj ha.p hs hw⟩
end TQ
namespace T
open PySem PySem.Spec L2
open PyProof.Rows hiding St
variable {fi:FI} {fe:F1} {Γ:Ev} {α:Type} {g:D->D->Option D} {k:Int} {b:Bool} {ga gb:FB} {g1 g2:FS} {o:OutS}
theorem C5:(1000:Nat)<=sizeLine:=by decide
theorem ER {i:Nat} {fc:FB} {fe:F1} {s:Sh} {c:D->Bool} {f:D->PV} {Γ:Ev} (hΓ:Γ.set i none=Γ):∀(r acc:List D),(∀d∈r,fc (Γ.set i (some ⟨.leaf,d⟩))=.ok (c d) (Γ.set i (some ⟨.leaf,d⟩))) ->
  (∀d∈r,c d=true->fe (Γ.set i (some ⟨.leaf,d⟩))=.ok (f d) (Γ.set i (some ⟨.leaf,d⟩))/\coer s (f d)=true)->acc.length+r.length<=sizeLine->oW i fc fe s r Γ acc=.ok (acc++((r.filter c).map fun d=>(f d).d)) Γ
 | [],acc,_,_,_=>by simp [oW]
 | d::r,acc,hc,he,hl=>by
  have h1:=hc d mem_cons_self
  have hl1:acc.length<sizeLine:=by simp at hl;omega
  have back:(Γ.set i (some ⟨.leaf,d⟩)).set i none=Γ:=by rw [set_set];exact hΓ
  rw [oW,h1]
  cases hcd:c d with
  | false=>
   dsimp only;rw [if_pos hl1,back,ER hΓ r acc (fun d hd=>hc d (mem_cons_of_mem _ hd)) (fun d hd=>he d (mem_cons_of_mem _ hd)) (by simp at hl;omega)]
   rw [List.filter_cons_of_neg (by rw [hcd];exact Bool.false_ne_true)]
  | true=>
   obtain ⟨h2,h3⟩:=he d mem_cons_self hcd;dsimp only;rw [h2];dsimp only;rw [h3,decide_eq_true hl1,Bool.and_self,if_pos rfl,back,ER hΓ r (acc++[(f d).d]) (fun d hd=>hc d (mem_cons_of_mem _ hd)) (fun d hd=>he d (mem_cons_of_mem _ hd)) (by simp at hl ⊢;omega)]
   rw [List.filter_cons_of_pos hcd,map_cons,append_assoc];rfl
theorem iq {s:Sh} {i:Nat} {fc:FB} {c:D->Bool} {f:D->PV} {ds:List D} {st:Bool} (hi:fi Γ=.ok ⟨ds,st⟩ Γ) (hl:i<Γ.length) (hs:s.isView=false) (hn:ds.length<=1000)
  (hc:∀d∈ds,fc (Γ.set i (some ⟨.leaf,d⟩))=.ok (c d) (Γ.set i (some ⟨.leaf,d⟩))) (he:∀d∈ds,c d=true->fe (Γ.set i (some ⟨.leaf,d⟩))=.ok (f d) (Γ.set i (some ⟨.leaf,d⟩))/\coer s (f d)=true) :
  aj s i fi fc fe Γ=.ok ⟨.lst s,.list ((ds.filter c).map fun d=>(f d).d)⟩ Γ:=by
 have hb:=C5
 unfold aj;rw [hi];unfold Out.bind;dsimp only;rw [ER (c:=c) (f:=f) (by rw [set_set]) ds [] (fun d hd=>by rw [set_set];exact hc d hd) (fun d hd=>by rw [set_set];exact he d hd) (by simp;omega)]
 dsimp only;rw [hs,decide_eq_true hl];simp only [Bool.not_false,Bool.and_self,if_true,nil_append,set_set]
 have:Γ.set i (Γ.getD i none)=Γ:=by
  apply A7
  rw [getD_eq_getElem?_getD,getElem?_eq_getElem hl];rfl
 rw [this]
theorem yl {s:Sh} {i:Nat} {f:D->PV} {ds:List D} {st:Bool} (hi:fi Γ=.ok ⟨ds,st⟩ Γ) (hl:i<Γ.length) (hs:s.isView=false) (hn:ds.length<=1000)
  (he:∀d∈ds,fe (Γ.set i (some ⟨.leaf,d⟩))=.ok (f d) (Γ.set i (some ⟨.leaf,d⟩))/\coer s (f d)=true) :
  aj s i fi aH fe Γ=.ok ⟨.lst s,.list (ds.map fun d=>(f d).d)⟩ Γ:=by
 rw [iq (fc:=aH) (c:=fun _=>true) (f:=f) hi hl hs hn (fun d hd=>rfl) fun d hd _=>he d hd,List.filter_eq_self.mpr fun _ _=>rfl]
theorem D9 {P:Nat->Ev->Prop} {i:Nat} {body:FS}:∀(ds:List D) (n:Nat) (Γ:Ev),P n Γ->(∀k d Γ,d∈ds->n<=k->k<n+ds.length->P k Γ->i<Γ.length/\∃Γ',body (Γ.set i (some ⟨.leaf,d⟩))=.nx Γ'/\P (k+1) Γ')->∃Γ',aR i body ds Γ=.nx Γ'/\P (n+ds.length) Γ'
 | [],n,Γ,h,_=>⟨Γ,rfl,h⟩
 | d::r,n,Γ,h,st=>by
  obtain ⟨hi,Γ1,e1,h1⟩:=st n d Γ mem_cons_self (Nat.le_refl _) (by simp) h
  obtain ⟨Γ2,e2,h2⟩:=D9 r (n+1) Γ1 h1 fun k d Γ hd a b c=>st k d Γ (mem_cons_of_mem _ hd) (by omega) (by simp;omega) c
  refine ⟨Γ2,?_,?_⟩
  ·rw [aR,if_pos hi,e1]
   exact e2
  ·rw [length_cons,show n+(r.length+1)=n+1+r.length by omega]
   exact h2
theorem Ec {any:Bool} {xs:List α} {f:α->Bool}:qJ (xs.map fun x=>.bool (f x))=some (xs.map f):=by
 induction xs with
 | nil=>rfl
 | cons x r ih=>rw [map_cons,qJ,ih];rfl
theorem qC {xs:List α} {f:α->Bool}:b3 false [.list (xs.map fun x=>.bool (f x))]=some (.bool (xs.all f)):=by
 show Option.map _ (qJ _)=_
 rw [Ec (any:=false)];simp [all_map]
section
variable {Γ Γ1 Γ2:Ev} {fa fb fc:F1} {fl:FL} {p q:PV} {ps:List PV} {d e:D} {s s' s2:Sh} {i j n:Nat}
theorem ao (h:Γ[i]?=some (some ⟨.leaf,d⟩)):aa i Γ=.ok ⟨.leaf,d⟩ Γ:=by unfold aa;rw [h]
theorem jh (h:Γ[i]?=some (some ⟨.lst s,d⟩)):aa i Γ=.ok ⟨.view,d⟩ Γ:=by unfold aa;rw [h]
theorem xW (h:Γ[i]?=some (some p)):bV i Γ=.ok p (Γ.set i none):=by unfold bV;rw [h]
theorem aQ:eK d Γ=.ok ⟨.leaf,d⟩ Γ:=rfl
theorem ay (ha:fa Γ=.ok p Γ1) (hb:fb Γ1=.ok q Γ2) (hg:g p.d q.d=some d):ax g fa fb Γ=.ok ⟨.leaf,d⟩ Γ2:=by
 unfold ax aX;rw [ha];simp only [Out.bind];rw [hb];simp only [hg]
theorem G6 {g:D->Option D} (ha:fa Γ=.ok p Γ1) (hg:g p.d=some d):eU g fa Γ=.ok ⟨.leaf,d⟩ Γ1:=by
 unfold eU aX;rw [ha];simp only [Out.bind,hg]
theorem az (ha:fa Γ=.ok p Γ1) (hl:fl Γ1=.ok ps Γ2):ab fa fl Γ=.ok (p::ps) Γ2:=by
 unfold ab;rw [ha];simp only [Out.bind];rw [hl]
theorem ak:ae Γ=.ok [] Γ:=rfl
theorem bc {g:List D->Option D} (hl:fl Γ=.ok ps Γ1) (hg:g (ps.map (·.d))=some d):bb g fl Γ=.ok ⟨.leaf,d⟩ Γ1:=by
 unfold bb;rw [hl];simp only [Out.bind];rw [hg]
theorem cH {den:List D->Res} (hl:fl Γ=.ok ps Γ1) (hd:den (ps.map (·.d))=.ok p) (hn:ps.length=n) (hc:ps.all (coer .leaf)=true):ar n den fl Γ=.ok p Γ1:=by
 unfold ar;rw [hl];simp only [Out.bind,hn,hd,hc,if_true]
theorem qI {ds:List D} (ha:fa Γ=.ok ⟨s,.list ds⟩ Γ1) (hb:fb Γ1=.ok ⟨s',.int k⟩ Γ2) (hi:eE ds.length k=some j) (hd:ds[j]?=some d) (hs:mn s j d=some s2):af fa fb Γ=.ok ⟨s2,d⟩ Γ2:=by
 unfold af aX;rw [ha];simp only [Out.bind];rw [hb];simp only [hi,hd,hs]
theorem gK {ds:List D} (ha:fa Γ=.ok ⟨s,.tuple ds⟩ Γ1) (hb:fb Γ1=.ok ⟨s',.int k⟩ Γ2) (hi:eE ds.length k=some j) (hd:ds[j]?=some d) (hs:mn s j d=some s2):af fa fb Γ=.ok ⟨s2,d⟩ Γ2:=by
 unfold af aX;rw [ha];simp only [Out.bind];rw [hb];simp only [hi,hd,hs]
theorem nJ (hl:fl Γ=.ok ps Γ1) (hs:s.isView=false) (hc:ps.all (coer s)=true) (hn:decide (ps.length<=1000)=true):br s fl Γ=.ok ⟨.lst s,.list (ps.map (·.d))⟩ Γ1:=by
 have h2:ps.length<=sizeLine:=Nat.le_trans (of_decide_eq_true hn) C5
 unfold br;rw [hl];simp only [Out.bind,hs,hc,decide_eq_true h2,Bool.not_false,Bool.and_self,if_true]
theorem nP (hl:fl Γ=.ok ps Γ1) (hc:ps.all tok=true) (hn:decide (ps.length<=1000)=true):bQ fl Γ=.ok ⟨.tup (ps.map uU),.tuple (ps.map (·.d))⟩ Γ1:=by
 have h2:ps.length<=sizeLine:=Nat.le_trans (of_decide_eq_true hn) C5
 unfold bQ;rw [hl];simp only [Out.bind,hc,decide_eq_true h2,Bool.and_self,if_true]
theorem uh {ds:List D} (ha:fa Γ=.ok ⟨s,.list ds⟩ Γ1) (ho:dO ⟨s,.list ds⟩ ds=true):i9 fa Γ=.ok ⟨.lst .leaf,.list ds⟩ Γ1:=by
 unfold i9 aX;rw [ha];simp only [Out.bind,ho,if_true]
theorem v_and {a:Bool} (ha:fa Γ=.ok ⟨s,.bool a⟩ Γ) (hb:fb Γ=.ok ⟨.leaf,.bool b⟩ Γ):dN fa fb Γ=.ok ⟨.leaf,.bool (a&&b)⟩ Γ:=by
 unfold dN aX;rw [ha];simp only [Out.bind]
 cases a with
 | false=>rfl
 | true=>exact hb
theorem uT {g':D->D->Option D} {b':Bool} (ha:fa Γ=.ok p Γ) (hb:fb Γ=.ok q Γ) (hg:g p.d q.d=some (.bool b)) (hs:aT q.d=true) {z:PV} (hc:fc Γ=.ok z Γ) (hg':g' q.d z.d=some (.bool b')):xY g g' fa fb fc Γ=.ok ⟨.leaf,.bool (b&&b')⟩ Γ:=by
 unfold xY aX;rw [ha];simp only [Out.bind];rw [hb];simp only [hg]
 cases b with
 | false=>rfl
 | true=>simp only [hs,if_true,hc,hg',Bool.true_and]
theorem bJ (ha:fa Γ=.ok ⟨s,.bool b⟩ Γ1):aA ag fa Γ=.ok b Γ1:=by unfold aA;rw [ha];rfl
theorem bW (ha:fa Γ=.ok ⟨s,.bool b⟩ Γ1):aA aZ fa Γ=.ok b Γ1:=by unfold aA;rw [ha];rfl
theorem b4 (h:ga Γ=.ok b Γ1):bD ga Γ=.ok (!b) Γ1:=by unfold bD;rw [h];rfl
theorem jD {a:Bool} (ha:ga Γ=.ok a Γ) (hb:gb Γ=.ok b Γ):cE ga gb Γ=.ok (a&&b) Γ:=by
 unfold cE;rw [ha];simp only [Out.bind]
 cases a with
 | false=>rfl
 | true=>exact hb
theorem cG {a:Bool} (ha:ga Γ=.ok a Γ) (hb:gb Γ=.ok b Γ):cX ga gb Γ=.ok (a||b) Γ:=by
 unfold cX;rw [ha];simp only [Out.bind]
 cases a with
 | false=>exact hb
 | true=>rfl
theorem AG:aH Γ=.ok true Γ:=rfl
theorem aL {ds:List D} (ha:fa Γ=.ok ⟨s,.list ds⟩ Γ1) (ho:dO ⟨s,.list ds⟩ ds=true):aw fa Γ=.ok ⟨ds,!s.isView⟩ Γ1:=by
 unfold aw;rw [ha];simp only [Out.bind,ho,if_true]
theorem uM (hl:fl Γ=.ok ps Γ1) (hp:ps.map (·.d)=[.int k]) (h0:-1000<=k) (h1:k<=100000):j5 fl Γ=.ok ⟨rngD 0 k.toNat,true⟩ Γ1:=by
 have h3:dz k=true:=by unfold dz;simp only [Bool.and_eq_true,decide_eq_true_eq];omega
 unfold j5;rw [hl];simp only [Out.bind,hp,pw,h3,if_true]
theorem EZ {m:Int} (hl:fl Γ=.ok ps Γ1) (hp:ps.map (·.d)=[.int k,.int m]) (h0:-1000<=k) (h1:k<=100000) (h2:-1000<=m) (h4:m<=100000):xB fl Γ=.ok ⟨rngD k (m-k).toNat,true⟩ Γ1:=by
 have h3:dz k=true:=by unfold dz;simp only [Bool.and_eq_true,decide_eq_true_eq];omega
 have h5:dz m=true:=by unfold dz;simp only [Bool.and_eq_true,decide_eq_true_eq];omega
 unfold xB;rw [hl];simp only [Out.bind,hp,pq,h3,h5,Bool.and_self,if_true]
theorem ai (h1:g1 Γ=.nx Γ1) (h2:g2 Γ1=o):au g1 g2 Γ=o:=by unfold au;rw [h1];exact h2
theorem fA (h1:g1 Γ=.rt p):au g1 g2 Γ=.rt p:=by unfold au;rw [h1]
theorem aO {c:FB} {a b:FS} {t:Bool} (hc:c Γ=.ok t Γ1) (ht:t=true->a Γ1=o) (hf:t=false->b Γ1=o):bI c a b Γ=o:=by
 unfold bI;rw [hc]
 cases t with
 | true=>exact ht rfl
 | false=>exact hf rfl
theorem aE (h:fa Γ=.ok p Γ1) (hs:p.s.isView=false):aD fa Γ=.rt p:=by
 unfold aD gN;rw [h];simp only [hs];rfl
theorem dC (h:fa Γ=.ok p Γ1) (hc:coer .leaf p=true) (hi:i<Γ1.length):aB false i fa Γ=.nx (Γ1.set i (some ⟨.leaf,p.d⟩)):=by
 unfold aB gN;rw [h];simp only [hi,if_true,hc,Bool.false_and];rfl
theorem mE (h:fa Γ=.ok p Γ1) (hs:p.s.isView=false) (hi:i<Γ1.length):aB true i fa Γ=.nx (Γ1.set i (some p)):=by
 unfold aB gN;rw [h];simp only [hi,if_true,hs,Bool.true_and,Bool.not_false]
theorem Bv {ds:List D} (ho:Γ[i]?=some (some ⟨.lst s,.list ds⟩)) (h:fa Γ=.ok p Γ) (hc:coer s p=true) (hn:ds.length<=900):gM i fa Γ=.nx (Γ.set i (some ⟨.lst s,.list (ds++[p.d])⟩)):=by
 have h2:ds.length<sizeLine:=Nat.lt_of_lt_of_le (by omega:ds.length<1000) C5
 unfold gM AV;rw [ho];simp only [if_true];unfold gN;rw [h];simp only;unfold wO;rw [ho];simp only [hc,decide_eq_true h2,Bool.and_self,if_true]
theorem yo {ds:List D} (ho:Γ[i]?=some (some ⟨.lst .leaf,.list ds⟩)) (h:fa Γ=.ok p Γ) (hk:fb Γ=.ok ⟨s,.int k⟩ Γ) (hi:eE ds.length k=some j) (hc:coer .leaf p=true):eL i fa fb Γ=.nx (Γ.set i (some ⟨.lst .leaf,.list (ds.set j p.d)⟩)):=by
 unfold eL uf;rw [ho];simp only [if_true];unfold gN;rw [h];simp only;rw [hk];simp only;unfold yB;rw [ho];simp only [hi,hc,if_true]
theorem bu {body:FS} {ds:List D} (h:fi Γ=.ok ⟨ds,true⟩ Γ1) (hg:aR i body ds Γ1=o):bU i fi body Γ=o:=by unfold bU;rw [h];exact hg
end
end T
namespace KC
open PySem PySem.Spec L2 T
open PyProof.Rows hiding St
variable {x:Str} {b lo:Int} {n k:Nat} {g:FS} {os ss:List D} {ts:List Int} {Γ Γ1:Ev} {fa:F1}
noncomputable def cg:PySem.PyData:=.tuple [.str "a",.str "b",.str "c",.str "d",.str "e",.str "f"]
noncomputable def cf:PySem.PyData:=.tuple [.int 0,.int 1]
noncomputable def dt:PySem.PyData:=.int 24
noncomputable def lQ:FS:=(aD (bb (b3 false) (ab (aj .leaf 1 (xB (ab (eK (.int 1)) (ab (bb aK (ab (aa 0) ae)) ae))) aH (ax ik (af (aa 0) (ax gSub (aa 1) (eK (.int 1)))) (af (aa 0) (aa 1)))) ae)))
noncomputable def cn:List PySem.PyData->Res:=aI 2 lQ
noncomputable def lV:FS:=(aD (dN (bb (b3 false) (ab (aj .leaf 1 (aw (aa 0)) aH (ax (aV false) (aa 1) (eK cg))) ae)) (ar 1 cn (ab (aa 0) ae))))
noncomputable def bp:List PySem.PyData->Res:=aI 2 lV
noncomputable def lU:FS:=(aD (dN (bb (b3 false) (ab (aj .leaf 2 (aw (aa 0)) aH (xY DB ik (eK (.int 0)) (aa 2) (aa 1))) ae)) (ar 1 cn (ab (aa 0) ae))))
noncomputable def cp:List PySem.PyData->Res:=aI 3 lU
noncomputable def lT:FS:=(aD (dN (ax dW (bb aK (ab (aa 0) ae)) (eK (.int 0))) (ar 2 cp (ab (aa 0) (ab (aa 1) ae)))))
noncomputable def cL:List PySem.PyData->Res:=aI 2 lT
noncomputable def nq:FS:=(au (aB false 3 (bb aK (ab (aa 0) ae)))
  (au (bI (cX (aA ag (ax ik (aa 3) (eK (.int 1)))) (cX (aA ag (ax dW (aa 3) (eK dt))) (cX (aA ag (ax cw (bb aK (ab (aa 1) ae)) (aa 3))) (aA ag (ax cw (bb aK (ab (aa 2) ae)) (aa 3)))))) (aD (eK (.bool false))) aC)
  (au (bI (bD (aA aZ (bb (b3 false) (ab (aj .leaf 4 (aw (aa 0)) aH (ax (aV false) (aa 4) (eK cf))) ae)))) (aD (eK (.bool false))) aC)
  (aD (dN (bb (b3 false) (ab (aj .leaf 5 (aw (aa 1)) aH (ar 1 bp (ab (aa 5) ae))) ae)) (bb (b3 false) (ab (aj .leaf 5 (aw (aa 2)) aH (ar 2 cL (ab (aa 5) (ab (aa 3) ae)))) ae)))))))
noncomputable def dj:List PySem.PyData->Res:=aI 6 nq
noncomputable def i5:FS:=(bI (bD (aA aZ (ar 3 dj (ab (af (aa 0) (eK (.int 0))) (ab (af (aa 0) (eK (.int 1))) (ab (af (aa 0) (eK (.int 2))) ae)))))) Dm aC)
noncomputable def ck:List PySem.PyData->Res:=aI 1 i5
noncomputable def lR:FS:=(aD (uv (aA aZ (aa 0)) (bb (b3 true) (ab (aa 1) ae)) (bb (b3 false) (ab (aa 1) ae))))
noncomputable def cW:List PySem.PyData->Res:=aI 2 lR
noncomputable def d9:FS:=(au (aB true 4 (br .leaf ae))
  (au (bU 5 (aw (aa 2))
  (bI (cE (aA ag (ax (bq false) (af (aa 3) (aa 5)) (eK .none))) (aA aZ (ar 2 cW (ab (af (aa 1) (aa 5)) (ab (aj .leaf 6 (aw (af (af (aa 0) (eK (.int 2))) (aa 5))) aH (ax (bq true) (af (aa 3) (aa 6)) (eK .none))) ae))))) (gM 4 (aa 5)) aC))
  (aD (bV 4))))
noncomputable def bR:List PySem.PyData->Res:=aI 7 d9
noncomputable def ir:FS:=(au (aB true 4 (aj .leaf 8 (aw (af (aa 0) (eK (.int 0)))) aH (eK .none)))
  (au (aB false 5 (eK (.int 0)))
  (au (aB false 6 (aa 3))
  (au (uD 1000 (aA aZ (aa 6))
  (au (bU 7 (aw (aa 6))
  (eL 4 (aa 5) (aa 7)))
  (au (jk 5 (eK (.int 1)))
  (aB false 6 (xX 4 bR (ab (aa 0) (ab (aa 1) (ab (aa 2) (ab (aa 4) ae)))))))))
  (aD (bV 4))))))
noncomputable def eB:List PySem.PyData->Res:=aI 9 ir
noncomputable def ix:FS:=(au (bI (aA ag (ax ik (aa 1) (bb aK (ab (aa 0) ae)))) (aD (af (aa 0) (aa 1))) aC)
  (aD (eK (.int 0))))
noncomputable def ba:List PySem.PyData->Res:=aI 2 ix
noncomputable def lY:FS:=(au (bI (aA ag (ax m5 (aa 0) (ax we (eK (.int 10)) (eK (.int 18))))) (au (aB false 4 (aa 0))
  (au (bU 5 (j5 (ab (aa 1) ae))
  (aB false 4 (ax tu (aa 4) (aa 2))))
  (aD (ax iY (aa 4) (aa 2))))) aC)
  (au (aB false 3 (ax iY (ax lE (ax bx (ax bx (ax iY (aa 0) (eK (.int 1000000007))) (ax lE (eK (.int 1009)) (aa 1))) (eK (.int 17))) (eK (.int 69621))) (eK (.int 2147483647))))
  (au (aB false 3 (ax iY (ax bx (ax bx (ax lE (aa 3) (aa 3)) (ax lE (eK (.int 40503)) (aa 1))) (eK (.int 5))) (eK (.int 2147483629))))
  (aD (ax iY (ax tu (ax iY (ax lE (aa 3) (eK (.int 48271))) (eK (.int 2147483647))) (eK (.int 32))) (aa 2))))))
noncomputable def aF:List PySem.PyData->Res:=aI 6 lY
open PySem.SeqAt
noncomputable def Dz (a b:D):Bool:=match ik a b with
 | some (.bool t)=>t
 | _=>false
noncomputable def gJ (ds:List D):Prop:=∀a∈ds,∃n,a=.int n
noncomputable def iD (ds:List D):Prop:=∀a∈ds,∃x,a=.str x/\PyData.strOk x=true
noncomputable def Row (ds:List D):Prop:=gJ ds\/iD ds
theorem xT (i:Int):shaped (.int i)=true:=by simp [shaped,PyData.canLay0,PyData.depth]
theorem rC (h:PyData.strOk x=true):shaped (.str x)=true:=by simp [shaped,PyData.canLay0,PyData.depth,h]
theorem Row.lt {ds:List D} {a b:D} (h:Row ds) (ha:a∈ds) (hb:b∈ds):ik a b=some (.bool (Dz a b))/\m5 a b=some (.bool (!Dz a b)):=by
 rcases h with h | h
 ·obtain ⟨n,rfl⟩:=h a ha
  obtain ⟨m,rfl⟩:=h b hb;refine ⟨rfl,?_⟩
  show some (PyData.bool (decide (m<=n)))=some (.bool (!decide (n<m)))
  congr 2
  by_cases q:n<m
  ·simp [q,Int.not_le.mpr q]
  ·simp [q,Int.not_lt.mp q]
 ·obtain ⟨n,rfl,_⟩:=h a ha
  obtain ⟨m,rfl,_⟩:=h b hb;exact ⟨rfl,rfl⟩
noncomputable def vP (ds:List D) (d:D):Bool:=match d with
 | .int j=>Dz (ds.getD (j-1).toNat .none) (ds.getD j.toNat .none)
 | _=>false
noncomputable def dF (ds:List D):Bool:=(rngD 1 ((ds.length:Int)-1).toNat).all (vP ds)
theorem Bq {d:D} (h:d∈rngD lo n):∃k:Nat,k<n/\d=.int (lo+k):=by
 unfold rngD at h;simp only [mem_map,mem_range] at h
 obtain ⟨k,hk,e⟩:=h;exact ⟨k,hk,e.symm⟩
theorem C2:(rngD lo n).length=n:=by unfold rngD;simp
theorem wX (h:k<n):eE n (k:Int)=some k:=by
 unfold eE;rw [if_pos (by omega),if_pos (by omega)]
 simp
theorem Co {i:Int} (h0:0<=i) (h1:i<n):eE n i=some i.toNat:=by
 unfold eE;rw [if_pos h0,if_pos h1]
theorem CS {ds:List D} (h:k<ds.length):ds[k]?=some (ds.getD k .none):=by
 rw [getD_eq_getElem?_getD,getElem?_eq_getElem h];rfl
theorem getD_mem {ds:List D} (h:k<ds.length):ds.getD k .none∈ds:=mem_of_getElem? (CS h)
theorem Cg {ds:List D} (h:Row ds) (hk:k<((ds.length:Int)-1).toNat):eE ds.length (1+(k:Int)-1)=some k/\eE ds.length (1+(k:Int))=some (k+1)/\ds[k]?=some (ds.getD k .none)/\ds[k+1]?=some (ds.getD (k+1) .none) /\
  ik (ds.getD k .none) (ds.getD (k+1) .none)=some (.bool (vP ds (.int (1+(k:Int)))))/\m5 (ds.getD k .none) (ds.getD (k+1) .none)=some (.bool (!vP ds (.int (1+(k:Int))))):=by
 have h1:k<ds.length:=by omega
 have h2:k+1<ds.length:=by omega
 have l:=h.lt (getD_mem h1) (getD_mem h2)
 have e3:vP ds (.int (1+(k:Int)))=Dz (ds.getD k .none) (ds.getD (k+1) .none):=by
  unfold vP;dsimp only;rw [show (1+(k:Int)-1).toNat=k by omega,show (1+(k:Int)).toNat=k+1 by omega]
 rw [e3];exact ⟨by rw [show (1+(k:Int)-1)=k by omega];exact wX h1,by rw [show (1+(k:Int))=((k+1:Nat):Int) by omega];exact wX h2,CS h1,CS h2,l.1,l.2⟩
theorem aG {ds:List D} {p:PV} (h:g (bh n ds)=.rt p):aI n g ds=.ok p:=by unfold aI;rw [h]
theorem eq_int {a:Int}:cJ (.int a) (.int b)=some (.bool (a==b)):=by
 unfold cJ;rw [xT,xT,Bool.and_self,if_pos rfl,PyData.eqv]
theorem EY {ds:List D} (h:Row ds) (hl:ds.length<=100):cn [.list ds]=.ok ⟨.leaf,.bool (dF ds)⟩:=by
 have hc:aj .leaf 1 (xB (ab (eK (.int 1)) (ab (bb aK (ab (aa 0) ae)) ae))) aH (ax ik (af (aa 0) (ax gSub (aa 1) (eK (.int 1)))) (af (aa 0) (aa 1))) [some ⟨.leaf,.list ds⟩,none] =
   .ok ⟨.lst .leaf,.list ((rngD 1 ((ds.length:Int)-1).toNat).map fun d=>.bool (vP ds d))⟩ [some ⟨.leaf,.list ds⟩,none]:=by
  refine yl (f:=fun d=>⟨.leaf,.bool (vP ds d)⟩) (st:=true) (EZ (k:=1) (m:=(ds.length:Int)) (az aQ (az (bc (az (ao rfl) ak) rfl) ak)) rfl (by omega) (by omega) (by omega) (by omega)) (by simp) rfl (by rw [C2];omega) fun d hd=>⟨?_,rfl⟩
  obtain ⟨k,hk,rfl⟩:=Bq hd;obtain ⟨e1,e2,e3,e4,e5,e6⟩:=Cg h hk;exact ay (qI (ao rfl) (ay (ao rfl) aQ rfl) e1 e3 rfl) (qI (ao rfl) (ao rfl) e2 e4 rfl) e5
 exact aG (aE (bc (az hc ak) qC) rfl)
noncomputable def inL (a:D):Bool:=[PyData.str "a",.str "b",.str "c",.str "d",.str "e",.str "f"].any fun y=>PyData.eqv y a
noncomputable def Cr (a:D):Bool:=[PyData.int 0,.int 1].any fun y=>PyData.eqv y a
noncomputable def inR (n:Int) (a:D):Bool:=match a with
 | .int i=>decide (0<=i)&&decide (i<n)
 | _=>false
noncomputable def Bg (d:D):Bool:=match d with
 | .list xs=>xs.all inL&&dF xs
 | _=>false
noncomputable def Dl (n:Int) (d:D):Bool:=match d with
 | .list xs=>decide (0<xs.length)&&(xs.all (inR n)&&dF xs)
 | _=>false
theorem yA:shaped cg=true:=by decide +kernel
theorem BN:shaped cf=true:=by decide +kernel
theorem zR (hx:PyData.strOk x=true):aV false (.str x) cg=some (.bool (inL (.str x))):=by
 unfold aV cg;have:=yA
 unfold cg at this;simp only [rC hx,this,Bool.and_self,if_true]
 rfl
theorem Cq {i:Int}:aV false (.int i) cf=some (.bool (Cr (.int i))):=by
 unfold aV cf;have:=BN
 unfold cf at this;simp only [xT,this,Bool.and_self,if_true]
 rfl
theorem d8 {ds:List D} (h:iD ds) (hl:ds.length<=100):bp [.list ds]=.ok ⟨.leaf,.bool (ds.all inL&&dF ds)⟩:=by
 have hc:aj .leaf 1 (aw (aa 0)) aH (ax (aV false) (aa 1) (eK cg)) [some ⟨.leaf,.list ds⟩,none]=.ok ⟨.lst .leaf,.list (ds.map fun d=>.bool (inL d))⟩ [some ⟨.leaf,.list ds⟩,none]:=by
  refine yl (f:=fun d=>⟨.leaf,.bool (inL d)⟩) (aL (ao rfl) rfl) (by simp) rfl (by omega) fun d hd=>⟨?_,rfl⟩
  obtain ⟨x,rfl,hx⟩:=h d hd;exact ay (ao rfl) aQ (zR hx)
 exact aG (aE (v_and (bc (az hc ak) qC) (cH (az (ao rfl) ak) (EY (.inr h) hl) rfl rfl)) rfl)
theorem chain_ev {i n:Int}:DB (.int 0) (.int i)=some (.bool (decide (0<=i)))/\ik (.int i) (.int n)=some (.bool (decide (i<n))):=⟨rfl,rfl⟩
theorem d7 {ds:List D} {n:Int} (h:gJ ds) (hl:ds.length<=100):cp [.list ds,.int n]=.ok ⟨.leaf,.bool (ds.all (inR n)&&dF ds)⟩:=by
 have hc:aj .leaf 2 (aw (aa 0)) aH (xY DB ik (eK (.int 0)) (aa 2) (aa 1)) [some ⟨.leaf,.list ds⟩,some ⟨.leaf,.int n⟩,none]=.ok ⟨.lst .leaf,.list (ds.map fun d=>.bool (inR n d))⟩ [some ⟨.leaf,.list ds⟩,some ⟨.leaf,.int n⟩,none]:=by
  refine yl (f:=fun d=>⟨.leaf,.bool (inR n d)⟩) (aL (ao rfl) rfl) (by simp) rfl (by omega) fun d hd=>⟨?_,rfl⟩
  obtain ⟨i,rfl⟩:=h d hd;exact uT aQ (ao rfl) (chain_ev (n:=n)).1 rfl (ao rfl) chain_ev.2
 exact aG (aE (v_and (bc (az hc ak) qC) (cH (az (ao rfl) ak) (EY (.inl h) hl) rfl rfl)) rfl)
theorem i3 {ds:List D} {n:Int} (h:gJ ds) (hl:ds.length<=100):cL [.list ds,.int n]=.ok ⟨.leaf,.bool (decide (0<ds.length)&&(ds.all (inR n)&&dF ds))⟩:=by
 have e:dW (.int (ds.length:Nat)) (.int 0)=some (.bool (decide (0<ds.length))):=by
  show some (PyData.bool (decide ((0:Int)<(ds.length:Int))))=_
  congr 2
  exact decide_eq_decide.mpr (by omega)
 exact aG (aE (v_and (ay (bc (az (ao rfl) ak) rfl) aQ e) (cH (az (ao rfl) (az (ao rfl) ak)) (d7 h hl) rfl rfl)) rfl)
structure Wk (b:Nat) (os ms ss:List D):Prop where
 o:gJ os
 m:∀r∈ms,∃xs,r=.list xs/\iD xs/\xs.length<=30
 s:∀r∈ss,∃xs,r=.list xs/\gJ xs/\xs.length<=30
 lo:os.length<=b
 lm:ms.length<=b
 ls:ss.length<=b
noncomputable def DC (os ms ss:List D):Bool:=decide ((os.length:Int)<1)||(decide ((24:Int)<os.length)||((!((ms.length:Int)==(os.length:Int)))||(!((ss.length:Int)==(os.length:Int)))))
noncomputable def isW (os ms ss:List D):Bool:=!DC os ms ss&&(os.all Cr&&(ms.all Bg&&ss.all (Dl os.length)))
theorem ne_int {a:Int}:cw (.int a) (.int b)=some (.bool (!(a==b))):=by
 unfold cw;rw [xT,xT,Bool.and_self,if_pos rfl,PyData.eqv]
theorem kb {b:Nat} {ms:List D} (h:Wk b os ms ss) (hb:b<=100):dj [.list os,.list ms,.list ss]=.ok ⟨.leaf,.bool (isW os ms ss)⟩:=by
 have lo:=h.lo
 have lm:=h.lm
 have ls:=h.ls
 refine aG ?_
 refine ai (dC (bc (az (ao rfl) ak) rfl) rfl (by simp [bh])) ?_
 have hif:(cX (aA ag (ax ik (aa 3) (eK (.int 1)))) (cX (aA ag (ax dW (aa 3) (eK dt))) (cX (aA ag (ax cw (bb aK (ab (aa 1) ae)) (aa 3))) (aA ag (ax cw (bb aK (ab (aa 2) ae)) (aa 3)))))) [some ⟨.leaf,.list os⟩,some ⟨.leaf,.list ms⟩,some ⟨.leaf,.list ss⟩,some ⟨.leaf,.int (os.length:Nat)⟩,none,none]
   = .ok (DC os ms ss) [some ⟨.leaf,.list os⟩,some ⟨.leaf,.list ms⟩,some ⟨.leaf,.list ss⟩,some ⟨.leaf,.int (os.length:Nat)⟩,none,none]:=
  cG (bJ (ay (ao rfl) aQ rfl)) (cG (bJ (ay (ao rfl) aQ rfl)) (cG (bJ (ay (bc (az (ao rfl) ak) rfl) (ao rfl) ne_int)) (bJ (ay (bc (az (ao rfl) ak) rfl) (ao rfl) ne_int))))
 cases hbad:DC os ms ss with
 | true=>
  rw [hbad] at hif;unfold isW;rw [hbad];exact fA (aO hif (fun _=>aE aQ rfl) nofun)
 | false=>
  rw [hbad] at hif;refine ai (aO hif nofun (fun _=>rfl)) ?_
  have c1:aj .leaf 4 (aw (aa 0)) aH (ax (aV false) (aa 4) (eK cf)) [some ⟨.leaf,.list os⟩,some ⟨.leaf,.list ms⟩,some ⟨.leaf,.list ss⟩,some ⟨.leaf,.int (os.length:Nat)⟩,none,none]
    = .ok ⟨.lst .leaf,.list (os.map fun d=>.bool (Cr d))⟩ [some ⟨.leaf,.list os⟩,some ⟨.leaf,.list ms⟩,some ⟨.leaf,.list ss⟩,some ⟨.leaf,.int (os.length:Nat)⟩,none,none]:=by
   refine yl (f:=fun d=>⟨.leaf,.bool (Cr d)⟩) (aL (ao rfl) rfl) (by simp) rfl (by omega) fun d hd=>⟨?_,rfl⟩
   obtain ⟨i,rfl⟩:=h.o d hd;exact ay (ao rfl) aQ Cq
  have c2:aj .leaf 5 (aw (aa 1)) aH (ar 1 bp (ab (aa 5) ae)) [some ⟨.leaf,.list os⟩,some ⟨.leaf,.list ms⟩,some ⟨.leaf,.list ss⟩,some ⟨.leaf,.int (os.length:Nat)⟩,none,none]
    = .ok ⟨.lst .leaf,.list (ms.map fun d=>.bool (Bg d))⟩ [some ⟨.leaf,.list os⟩,some ⟨.leaf,.list ms⟩,some ⟨.leaf,.list ss⟩,some ⟨.leaf,.int (os.length:Nat)⟩,none,none]:=by
   refine yl (f:=fun d=>⟨.leaf,.bool (Bg d)⟩) (aL (ao rfl) rfl) (by simp) rfl (by omega) fun d hd=>⟨?_,rfl⟩
   obtain ⟨xs,rfl,hx,hl⟩:=h.m d hd;exact cH (az (ao rfl) ak) (d8 hx (by omega)) rfl rfl
  have c3:aj .leaf 5 (aw (aa 2)) aH (ar 2 cL (ab (aa 5) (ab (aa 3) ae))) [some ⟨.leaf,.list os⟩,some ⟨.leaf,.list ms⟩,some ⟨.leaf,.list ss⟩,some ⟨.leaf,.int (os.length:Nat)⟩,none,none]
    = .ok ⟨.lst .leaf,.list (ss.map fun d=>.bool (Dl os.length d))⟩ [some ⟨.leaf,.list os⟩,some ⟨.leaf,.list ms⟩,some ⟨.leaf,.list ss⟩,some ⟨.leaf,.int (os.length:Nat)⟩,none,none]:=by
   refine yl (f:=fun d=>⟨.leaf,.bool (Dl os.length d)⟩) (aL (ao rfl) rfl) (by simp) rfl (by omega) fun d hd=>⟨?_,rfl⟩
   obtain ⟨xs,rfl,hx,hl⟩:=h.s d hd;exact cH (az (ao rfl) (az (ao rfl) ak)) (i3 hx (by omega)) rfl rfl
  have t1:=b4 (bW (bc (az c1 ak) qC))
  cases ho:os.all Cr with
  | false=>
   rw [ho] at t1;unfold isW;rw [ho,Bool.false_and,Bool.and_false];exact fA (aO t1 (fun _=>aE aQ rfl) nofun)
  | true=>
   rw [ho] at t1;refine ai (aO t1 nofun (fun _=>rfl)) ?_
   unfold isW;rw [hbad,ho,Bool.not_false,Bool.true_and,Bool.true_and];exact aE (v_and (bc (az c2 ak) qC) (bc (az c3 ak) qC)) rfl
theorem Aq {xs:List D} (h:shaped (.list xs)=true):cJ (.list xs) (.list [])=some (.bool (decide (xs.length=0))):=by
 unfold cJ;have h2:shaped (.list [])=true:=by decide +kernel
 rw [h,h2,Bool.and_self,if_pos rfl]
 cases xs with
 | nil=>rfl
 | cons a r=>rfl
theorem Bs {xs:List D} (h:gJ xs):shaped (.list xs)=true:=by
 have c:PyData.canLayAll0 xs=true/\PyData.depthAll xs=0:=by
  induction xs with
  | nil=>exact ⟨rfl,rfl⟩
  | cons a r ih=>
   obtain ⟨n,rfl⟩:=h a mem_cons_self;have q:=ih fun x hx=>h x (mem_cons_of_mem _ hx)
   simp [PyData.canLayAll0,PyData.canLay0,PyData.depthAll,PyData.depth,q.1,q.2]
 simp [shaped,PyData.canLay0,PyData.depth,c.1,c.2]
theorem nW {xs:List D} (h:iD xs):shaped (.list xs)=true:=by
 have c:PyData.canLayAll0 xs=true/\PyData.depthAll xs=0:=by
  induction xs with
  | nil=>exact ⟨rfl,rfl⟩
  | cons a r ih=>
   obtain ⟨n,rfl,hn⟩:=h a mem_cons_self;have q:=ih fun x hx=>h x (mem_cons_of_mem _ hx)
   simp [PyData.canLayAll0,PyData.canLay0,PyData.depthAll,PyData.depth,q.1,q.2,hn]
 simp [shaped,PyData.canLay0,PyData.depth,c.1,c.2]
theorem lt_int {a:Int}:ik (.int a) (.int b)=some (.bool (decide (a<b))):=rfl
theorem v9 {a:Int}:m5 (.int a) (.int b)=some (.bool (decide (b<=a))):=rfl
theorem qM {a:Int}:bx (.int a) (.int b)=some (.int (a+b)):=rfl
theorem h9 {a:Int} (h:0<b):iY (.int a) (.int b)=some (.int (a % b)):=by
 show (if wK a b then _ else _)=_
 rw [if_pos (by unfold wK;simpa using h)]
theorem xF {a:Int} (h:0<b) (h2:b<1073741824):tu (.int a) (.int b)=some (.int (a / b)):=by
 show (if wL a b then _ else _)=_
 rw [if_pos (by unfold wL;simp [h,h2])]
theorem xw {a:Int} (h:-1000000000000<b) (h2:b<1000000000000):lE (.int a) (.int b)=some (.int (a*b)):=by
 show (if qu a b then _ else _)=_
 rw [if_pos (by unfold qu;simp only [Bool.or_eq_true,Bool.and_eq_true,decide_eq_true_eq];right;omega)]
theorem sG {a:Int} (h:-1000000000000<a) (h2:a<1000000000000):lE (.int a) (.int b)=some (.int (a*b)):=by
 show (if qu a b then _ else _)=_
 rw [if_pos (by unfold qu;simp only [Bool.or_eq_true,Bool.and_eq_true,decide_eq_true_eq];left;omega)]
theorem B4 (h:0<=b) (h2:b<=100):we (.int 10) (.int b)=some (.int (10 ^ b.toNat)):=by
 show (if wJ 10 b then _ else _)=_
 rw [if_pos (by unfold wJ;simp only [Bool.and_eq_true,decide_eq_true_eq];exact ⟨⟨h,by omega⟩,by decide⟩)]
theorem C4 {xs:List D} (h:gJ xs) {k:Int} (hk:0<=k):∃c,ba [.list xs,.int k]=.ok ⟨.leaf,.int c⟩:=by
 have t:aA ag (ax ik (aa 1) (bb aK (ab (aa 0) ae))) [some ⟨.leaf,.list xs⟩,some ⟨.leaf,.int k⟩]=.ok (decide (k<(xs.length:Int))) [some ⟨.leaf,.list xs⟩,some ⟨.leaf,.int k⟩]:=
  bJ (ay (ao rfl) (bc (az (ao rfl) ak) rfl) lt_int)
 cases hlt:decide (k<(xs.length:Int)) with
 | true=>
  rw [hlt] at t;have hl:=of_decide_eq_true hlt
  have hk2:k.toNat<xs.length:=by omega
  obtain ⟨c,hc⟩:=h _ (getD_mem hk2);have g:=CS hk2
  rw [hc] at g;exact ⟨c,aG (fA (aO t (fun _=>aE (qI (ao rfl) (ao rfl) (Co hk hl) g rfl) rfl) nofun))⟩
 | false=>
  rw [hlt] at t;exact ⟨0,aG (ai (aO t nofun (fun _=>rfl)) (aE aQ rfl))⟩
theorem lO {c k:Int} (hk:0<=k) (hk2:k<=1000) (hb:1<=b) (hb2:b<=1000):∃r,aF [.int c,.int k,.int b]=.ok ⟨.leaf,.int r⟩/\0<=r/\r<b:=by
 have t:aA ag (ax m5 (aa 0) (ax we (eK (.int 10)) (eK (.int 18)))) [some ⟨.leaf,.int c⟩,some ⟨.leaf,.int k⟩,some ⟨.leaf,.int b⟩,none,none,none]=.ok (decide (10 ^ (18:Int).toNat<=c)) [some ⟨.leaf,.int c⟩,some ⟨.leaf,.int k⟩,some ⟨.leaf,.int b⟩,none,none,none]:=
  bJ (ay (ao rfl) (ay aQ aQ (B4 (by omega) (by omega))) v9)
 cases hge:decide (10 ^ (18:Int).toNat<=c) with
 | true=>
  rw [hge] at t;obtain ⟨Γ',e,l,x,hΓ⟩:=D9 (P:=fun _ Γ=>∃l x,Γ=[some ⟨.leaf,.int c⟩,some ⟨.leaf,.int k⟩,some ⟨.leaf,.int b⟩,none,some ⟨.leaf,.int l⟩,x]) (i:=5) (body:=aB false 4 (ax tu (aa 4) (aa 2))) (rngD 0 k.toNat) 0
   [some ⟨.leaf,.int c⟩,some ⟨.leaf,.int k⟩,some ⟨.leaf,.int b⟩,none,some ⟨.leaf,.int c⟩,none] ⟨c,none,rfl⟩ (fun m d Γ hd _ _ ⟨l,x,hΓ⟩=>by
    subst hΓ;refine ⟨by simp,_,dC (ay (ao rfl) (ao rfl) (xF (by omega) (by omega))) rfl (by simp),_,_,rfl⟩)
  subst hΓ;exact ⟨_,aG (fA (aO t (fun _=>ai (dC (ao rfl) rfl (by simp)) (ai (bu (uM (k:=k) (az (ao rfl) ak) rfl (by omega) (by omega)) e) (aE (ay (ao rfl) (ao rfl) (h9 (by omega))) rfl))) nofun)),Int.emod_nonneg _ (by omega),Int.emod_lt_of_pos _ (by omega)⟩
 | false=>
  rw [hge] at t;have m1:∀x:Int,0<=x % 2147483647/\x % 2147483647<2147483647:=fun x=>⟨Int.emod_nonneg _ (by omega),Int.emod_lt_of_pos _ (by omega)⟩
  refine ⟨_,aG (ai (aO t nofun (fun _=>rfl)) (ai (dC (ay (ay (ay (ay (ay (ao rfl) aQ (h9 (by omega))) (ay aQ (ao rfl) (sG (by omega) (by omega))) qM) aQ qM) aQ (xw (by omega) (by omega))) aQ (h9 (by omega))) rfl (by simp [bh]))
   (ai (dC (ay (ay (ay (ay (ao rfl) (ao rfl) (sG ?_ ?_)) (ay aQ (ao rfl) (sG (by omega) (by omega))) qM) aQ qM) aQ (h9 (by omega))) rfl (by simp [bh]))
   (aE (ay (ay (ay (ay (ao rfl) aQ (xw (by omega) (by omega))) aQ (h9 (by omega))) aQ (xF (by omega) (by omega))) (ao rfl) (h9 (by omega))) rfl)))),Int.emod_nonneg _ (by omega),Int.emod_lt_of_pos _ (by omega)⟩
  ·exact Int.lt_of_lt_of_le (by omega) (m1 _).1
  ·exact Int.lt_trans (m1 _).2 (by omega)
noncomputable def dA (c k b:Int):Int:=match aF [.int c,.int k,.int b] with
 | .ok ⟨_,.int r⟩=>r
 | _=>0
theorem AZ {c k:Int} (hk:0<=k) (hk2:k<=1000) (hb:1<=b) (hb2:b<=1000):aF [.int c,.int k,.int b]=.ok ⟨.leaf,.int (dA c k b)⟩:=by
 obtain ⟨r,e,_⟩:=lO (c:=c) hk hk2 hb hb2
 unfold dA;rw [e]
theorem tG {c k:Int} (hk:0<=k) (hk2:k<=1000) (hb:1<=b) (hb2:b<=1000):0<=dA c k b/\dA c k b<b:=by
 obtain ⟨r,e,h⟩:=lO (c:=c) hk hk2 hb hb2
 unfold dA;rw [e];exact h
theorem kU {c:Nat} (h:c<1000):PyData.strOk ⟨#[c]⟩=true:=by
 unfold PyData.strOk;simp
 omega
theorem Ei (h:ts.Pairwise (· < ·)):dF (ts.map .int)=true:=by
 unfold dF;rw [all_eq_true];intro d hd;obtain ⟨k,hk,rfl⟩:=Bq hd;rw [length_map] at hk;have h1:k<ts.length:=by omega
 have h2:k+1<ts.length:=by omega
 unfold vP;dsimp only;rw [show (1+(k:Int)-1).toNat=k by omega,show (1+(k:Int)).toNat=k+1 by omega]
 rw [getD_eq_getElem?_getD,getD_eq_getElem?_getD,getElem?_map,getElem?_map,getElem?_eq_getElem h1,getElem?_eq_getElem h2];have:=List.pairwise_iff_getElem.mp h k (k+1) h1 h2 (by omega)
 show decide (ts[k]<ts[k+1])=true
 exact decide_eq_true this
structure Gw (N:Int) (n:Nat) (os ms ss:List D):Prop where
 lo:os.length=n
 lm:ms.length=n
 ls:ss.length=n
 o:∀a∈os,a=.int 0\/a=.int 1
 m:∀r∈ms,∃xs,r=.list xs/\iD xs/\xs.length<=30/\Bg r=true
 s:∀r∈ss,∃ts:List Int,r=.list (ts.map .int)/\ts.length<=30/\ts≠[]/\(∀t∈ts,0<=t/\t<N)/\ts.Pairwise (· < ·)
theorem rowI_map:gJ (ts.map .int):=fun a ha=>by
 obtain ⟨n,_,e⟩:=List.mem_map.mp ha;exact ⟨n,e.symm⟩
theorem Gw.wk {N:Int} {b:Nat} {ms:List D} (h:Gw N n os ms ss) (hb:n<=b):Wk b os ms ss:=
 ⟨fun a ha=>(h.o a ha).elim (fun e=>⟨0,e⟩) fun e=>⟨1,e⟩,fun r hr=>let ⟨xs,e,a,b,_⟩:=h.m r hr;⟨xs,e,a,b⟩,fun r hr=>let ⟨ts,e,a,_⟩:=h.s r hr;⟨_,e,rowI_map,by rw [length_map];exact a⟩,by rw [h.lo];exact hb,by rw [h.lm];exact hb,by rw [h.ls];exact hb⟩
theorem Gw.isW {n:Nat} {os ms ss:List D} (h:Gw (n:Int) n os ms ss) (h1:1<=n) (h24:n<=24):isW os ms ss=true:=by
 unfold KC.isW DC;rw [h.lo,h.lm,h.ls];have e1:decide ((n:Int)<1)=false:=decide_eq_false (by omega)
 have e2:decide ((24:Int)<n)=false:=decide_eq_false (by omega)
 rw [e1,e2];simp only [beq_self_eq_true,Bool.not_true,Bool.or_self,Bool.not_false,Bool.true_and,Bool.and_eq_true,all_eq_true]
 refine ⟨fun a ha=>?_,fun r hr=>?_,fun r hr=>?_⟩
 ·rcases h.o a ha with rfl | rfl<;>rfl
 ·obtain ⟨xs,_,_,_,e⟩:=h.m r hr
  exact e
 ·obtain ⟨ts,rfl,h2,h3,h4,h5⟩:=h.s r hr
  unfold Dl;simp only [Bool.and_eq_true,decide_eq_true_eq,length_map,all_eq_true]
  refine ⟨by cases ts with | nil=>exact absurd rfl h3 | cons a r=>simp,fun a ha=>?_,Ei h5⟩
  obtain ⟨t,ht,rfl⟩:=List.mem_map.mp ha;have:=h4 t ht
  unfold inR;simp only [Bool.and_eq_true,decide_eq_true_eq]
  exact this
theorem FV (c0 c1 c2:Bool):Bg (.list (((if c0 then [PyData.str ⟨#[97]⟩] else [])++((if c1 then [PyData.str ⟨#[98]⟩] else [])++(if c2 then [PyData.str ⟨#[99]⟩] else [])))))=true:=by
 cases c0<;>cases c1<;>cases c2<;>decide +kernel
theorem yD (n:Nat) (c:D->Bool):∃ts:List Int,((rngD 0 n).filter c).map (fun d=>d)=ts.map .int/\(∀t∈ts,0<=t/\t<(n:Int))/\ts.Pairwise (· < ·)/\ts.length<=n:=by
 refine ⟨((List.range n).map fun i=>(0:Int)+(i:Nat)).filter fun i=>c (.int i),?_,fun t ht=>?_,?_,?_⟩
 ·rw [List.map_id']
  unfold rngD;rw [show (fun i:Nat=>PyData.int (0+(i:Int)))=(PyData.int∘fun i:Nat=>(0:Int)+(i:Nat)) from rfl,<-map_map,List.filter_map]
  rfl
 ·obtain ⟨h1,_⟩:=List.mem_filter.mp ht
  obtain ⟨i,hi,rfl⟩:=List.mem_map.mp h1;rw [mem_range] at hi;omega
 ·refine List.Pairwise.filter _ ?_
  rw [pairwise_map];exact List.pairwise_lt_range.imp fun h=>by omega
 ·refine Nat.le_trans (length_filter_le _ _) ?_
  simp
noncomputable abbrev W3:Sh:=.tup [.lst .leaf,.lst .leaf,.lst .leaf]
noncomputable abbrev dS (os ms ss:List D):D:=.tuple [.list os,.list ms,.list ss]
theorem sA {ds:List D} (h:g (bh n ds)=.nx Γ):aI n g ds=.ok ⟨.leaf,.none⟩:=by unfold aI;rw [h]
theorem gV {p:PV} {c:String} {b:Bool} (ha:fa Γ=.ok p Γ1) (hb:sQ (yw p.d) c=b):dX c fa Γ=.ok ⟨.leaf,.bool b⟩ Γ1:=by
 unfold dX aX;rw [ha];simp only [Out.bind,hb]
theorem v_not {s:Sh} {b:Bool} (ha:fa Γ=.ok ⟨s,.bool b⟩ Γ1):p8 fa Γ=.ok ⟨.leaf,.bool (!b)⟩ Γ1:=by
 unfold p8 aX;rw [ha];rfl
theorem nL {p:PV} (h:fa Γ=.ok p Γ1):dw fa Γ=.nx Γ1:=by unfold dw gN;rw [h]
theorem qi {b:Nat} {ms:List D} (h:Wk b os ms ss) (hb:b<=100) (hw:isW os ms ss=true):ck [dS os ms ss]=.ok ⟨.leaf,.none⟩:=by
 have t:bD (aA aZ (ar 3 dj (ab (af (aa 0) (eK (.int 0))) (ab (af (aa 0) (eK (.int 1))) (ab (af (aa 0) (eK (.int 2))) ae))))) [some ⟨.leaf,dS os ms ss⟩]=.ok (!(isW os ms ss)) [some ⟨.leaf,dS os ms ss⟩]:=
  b4 (bW (cH (az (gK (j:=0) (ao rfl) aQ rfl rfl rfl) (az (gK (j:=1) (ao rfl) aQ rfl rfl rfl) (az (gK (j:=2) (ao rfl) aQ rfl rfl rfl) ak))) (kb h hb) rfl rfl))
 rw [hw] at t;exact sA (aO t nofun (fun _=>rfl))
theorem lM {d:D} (h:shaped d=true):cJ d d=some (.bool true):=by
 unfold cJ;rw [h,Bool.and_self,if_pos rfl,PySem.SeqAt.eqv_refl _ (canLay_of_shaped h)]
theorem lh {d:D} (h:shaped d=true):cw d d=some (.bool false):=by
 unfold cw;rw [h,Bool.and_self,if_pos rfl,PySem.SeqAt.eqv_refl _ (canLay_of_shaped h)];rfl
theorem DK {i:Int}:aV false (.int i) (.list (ts.map .int))=some (.bool (ts.contains i)):=by
 unfold aV;simp only [xT,Bs rowI_map,Bool.and_self,if_true]
 congr 2
 rw [Bool.eq_iff_iff];simp only [Bool.false_eq_true,if_false,any_eq_true,mem_map,contains_iff_mem]
 constructor
 ·rintro ⟨d,⟨t,ht,rfl⟩,e⟩
  rw [PyData.eqv] at e;have:t=i:=by simpa using e
  rw [<-this];exact ht
 ·intro h
  exact ⟨.int i,⟨i,h,rfl⟩,by rw [PyData.eqv];simp⟩
theorem AC {xs:List D} (h:gJ xs):PyData.canLayAll0 xs=true/\PyData.depthAll xs=0:=by
 induction xs with
 | nil=>exact ⟨rfl,rfl⟩
 | cons a r ih=>
  obtain ⟨n,rfl⟩:=h a mem_cons_self;have q:=ih fun x hx=>h x (mem_cons_of_mem _ hx)
  simp [PyData.canLayAll0,PyData.canLay0,PyData.depthAll,PyData.depth,q.1,q.2]
theorem CB {xs:List D} (h:iD xs):PyData.canLayAll0 xs=true/\PyData.depthAll xs=0:=by
 induction xs with
 | nil=>exact ⟨rfl,rfl⟩
 | cons a r ih=>
  obtain ⟨n,rfl,hn⟩:=h a mem_cons_self;have q:=ih fun x hx=>h x (mem_cons_of_mem _ hx)
  simp [PyData.canLayAll0,PyData.canLay0,PyData.depthAll,PyData.depth,q.1,q.2,hn]
theorem oO {ms:List D} (h:∀r∈ms,∃xs,r=.list xs/\PyData.canLayAll0 xs=true/\PyData.depthAll xs=0):PyData.canLayAll0 ms=true/\PyData.depthAll ms<=1:=by
 induction ms with
 | nil=>exact ⟨rfl,Nat.zero_le _⟩
 | cons a r ih=>
  obtain ⟨xs,rfl,h1,h2⟩:=h a mem_cons_self;have q:=ih fun x hx=>h x (mem_cons_of_mem _ hx)
  refine ⟨by simp [PyData.canLayAll0,PyData.canLay0,q.1,h1],?_⟩
  rw [PyData.depthAll,PyData.depth,h2];exact Nat.max_le.mpr ⟨by omega,q.2⟩
noncomputable def has (x:Str) (d:D):Bool:=match d with
 | .list xs=>xs.any fun y=>PyData.eqv y (.str x)
 | _=>false
theorem zT {xs:List D} (hx:PyData.strOk x=true) (h:iD xs):aV false (.str x) (.list xs)=some (.bool (has x (.list xs))):=by
 unfold aV;simp only [rC hx,nW h,Bool.and_self,if_true]
 rfl
theorem EG {i:Int}:aV true (.int i) (.list (ts.map .int))=some (.bool (!ts.contains i)):=by
 have h:=DK (ts:=ts) (i:=i)
 unfold aV at h ⊢
 simp only [xT,Bs rowI_map,Bool.and_self,if_true,Bool.false_eq_true,if_false] at h ⊢
 have h:=Option.some.inj h
 injection h with h
 rw [h]
end KC
namespace T
open PySem PySem.Spec L2
open PyProof.Rows hiding St
variable {α:Type} {b:Int} {fl:FL} {fi:FI} {fe:F1} {Γ:Ev}
section
variable {Γ Γ1:Ev} {fa fb fc:F1} {fl:FL} {p:PV} {i n:Nat} {ga gb:FB} {g1 g2:FS}
@[simp] theorem Fu:sizeLine=16777216:=rfl
@[simp] theorem CY {β:Type} {a:α} {e:Ev} {k:α->Ev->Out β}:(Out.ok a e).bind k=k a e:=rfl
@[simp] theorem r_k {d:D}:eK d Γ=.ok ⟨.leaf,d⟩ Γ:=rfl
@[simp] theorem Gy:ae Γ=.ok [] Γ:=rfl
@[simp] theorem Fh:aH Γ=.ok true Γ:=rfl
@[simp] theorem Fo:aC Γ=.nx Γ:=rfl
@[simp] theorem FM:ab fa fl Γ=(fa Γ).bind fun p Γ1=>(fl Γ1).bind fun ps Γ2=>.ok (p::ps) Γ2:=rfl
@[simp] theorem G7 {g:D->D->Option D}:ax g fa fb Γ=(fa Γ).bind fun p Γ1=>(fb Γ1).bind fun q Γ2=>match g p.d q.d with | some d=>.ok ⟨.leaf,d⟩ Γ2 | none=>.no:=rfl
@[simp] theorem G9 {g:List D->Option D}:bb g fl Γ=(fl Γ).bind fun ps Γ'=>match g (ps.map (·.d)) with | some d=>.ok ⟨.leaf,d⟩ Γ' | none=>.no:=rfl
@[simp] theorem GJ {g:D->Option Bool}:aA g fa Γ=(fa Γ).bind fun p Γ'=>match g p.d with | some b=>.ok b Γ' | none=>.no:=rfl
@[simp] theorem FP:bD ga Γ=(ga Γ).bind fun c Γ'=>.ok (!c) Γ':=rfl
@[simp] theorem FQ:cE ga gb Γ=(ga Γ).bind fun c Γ'=>if c then gb Γ' else .ok false Γ':=rfl
@[simp] theorem GG:cX ga gb Γ=(ga Γ).bind fun c Γ'=>if c then .ok true Γ' else gb Γ':=rfl
@[simp] theorem GF:uv ga fa fb Γ=(ga Γ).bind fun b Γ'=>if b then fa Γ' else fb Γ':=rfl
@[simp] theorem FH:dN fa fb Γ=(fa Γ).bind fun p Γ=>match p.d with | .bool true=>fb Γ | .bool false=>.ok ⟨.leaf,.bool false⟩ Γ | _=>.no:=rfl
@[simp] theorem oa:au g1 g2 Γ=match g1 Γ with | .nx Γ'=>g2 Γ' | .rt p=>.rt p | .bk Γ'=>.bk Γ' | .ct Γ'=>.ct Γ' | .er c Γ'=>.er c Γ' | .no=>.no:=by
 unfold au
 cases g1 Γ<;>rfl
@[simp] theorem rU {k:PV->Ev->OutS}:gN fa k Γ=match fa Γ with | .ok p Γ1=>k p Γ1 | .er c Γ1=>.er c Γ1 | .no=>.no:=by
 unfold gN
 cases fa Γ<;>rfl
@[simp] theorem G8:bI ga g1 g2 Γ=match ga Γ with | .ok b Γ1=>if b then g1 Γ1 else g2 Γ1 | .er c Γ1=>.er c Γ1 | .no=>.no:=by
 unfold bI
 cases ga Γ<;>rfl
@[simp] theorem Dp {b:Bool}:ag (.bool b)=some b:=rfl
@[simp] theorem FC {b:Bool}:aZ (.bool b)=some b:=rfl
@[simp] theorem Dn {xs:List D}:aZ (.list xs)=some (!xs.isEmpty):=rfl
noncomputable def Dv (p:PV):PV:=match p.s with
 | .leaf=>p
 | _=>⟨.view,p.d⟩
@[simp] theorem Gr {d:D}:Dv ⟨.leaf,d⟩=⟨.leaf,d⟩:=rfl
@[simp] theorem Gq {s:Sh} {d:D}:Dv ⟨.lst s,d⟩=⟨.view,d⟩:=rfl
@[simp] theorem Gp {s:List Sh} {d:D}:Dv ⟨.tup s,d⟩=⟨.view,d⟩:=rfl
@[simp] theorem Gk:aa i Γ=match Γ[i]? with | some (some p)=>.ok (Dv p) Γ | _=>.no:=by
 unfold aa
 cases h:Γ[i]? with
 | none=>rfl
 | some o=>
  cases o with
  | none=>rfl
  | some p=>
   obtain ⟨s,d⟩:=p
   cases s<;>rfl
@[simp] theorem Fp:bV i Γ=match Γ[i]? with | some (some p)=>.ok p (Γ.set i none) | _=>.no:=rfl
@[simp] theorem FN {d:D}:coer .leaf ⟨.leaf,d⟩=true:=rfl
@[simp] theorem Dr {s:Sh} {d:D}:coer .leaf ⟨.lst s,d⟩=true:=rfl
@[simp] theorem Dq {s:List Sh} {d:D}:coer .leaf ⟨.tup s,d⟩=true:=rfl
@[simp] theorem Dt {i:Int} {s:Sh}:coer .leaf ⟨s,.int i⟩=true:=by cases s<;>rfl
@[simp] theorem Du {b:Bool} {s:Sh}:coer .leaf ⟨s,.bool b⟩=true:=by cases s<;>rfl
@[simp] theorem Fz:Sh.isView .leaf=false:=rfl
@[simp] theorem Fy {s:Sh}:Sh.isView (.lst s)=false:=rfl
@[simp] theorem Fw {s:List Sh}:Sh.isView (.tup s)=false:=rfl
@[simp] theorem BS {own:Bool}:aB own i fa Γ=match fa Γ with | .ok p Γ1=>(if i<Γ1.length then (if own&&!p.s.isView then .nx (Γ1.set i (some p)) else if T.coer .leaf p then .nx (Γ1.set i (some ⟨.leaf,p.d⟩)) else .no) else .no) | .er c Γ1=>.er c Γ1 | .no=>.no:=by
 unfold aB;rw [rU]
@[simp] theorem Gn:aD fa Γ=match fa Γ with | .ok p Γ1=>(if p.s.isView then (if aT p.d then .rt ⟨.leaf,p.d⟩ else .no) else .rt p) | .er c Γ1=>.er c Γ1 | .no=>.no:=by
 unfold aD;rw [rU]
@[simp] theorem FK:dw fa Γ=match fa Γ with | .ok p Γ1=>.nx Γ1 | .er c Γ1=>.er c Γ1 | .no=>.no:=by
 unfold dw;rw [rU]
@[simp] theorem FO {den:List D->Res}:ar n den fl Γ=(fl Γ).bind fun ps Γ'=>if ps.length=n then (match den (ps.map (·.d)) with | .ok p=>if ps.all (T.coer .leaf) then .ok p Γ' else if aT p.d then .ok ⟨.leaf,p.d⟩ Γ' else .ok ⟨.view,p.d⟩ Γ' | _=>.no) else .no:=rfl
@[simp] theorem FG {a:Int}:bx (.int a) (.int b)=some (.int (a+b)):=rfl
@[simp] theorem FD {a:Int}:gSub (.int a) (.int b)=some (.int (a-b)):=rfl
@[simp] theorem GD {a:Int}:ik (.int a) (.int b)=some (.bool (decide (a<b))):=rfl
@[simp] theorem GE {a:Int}:dW (.int a) (.int b)=some (.bool (decide (b<a))):=rfl
@[simp] theorem FE {ds:List D}:aK [.list ds]=some (.int ds.length):=rfl
@[simp] theorem Do {ds:List D}:aK [.tuple ds]=some (.int ds.length):=rfl
noncomputable def lB (p q:PV):Ev->Out PV:=af (fun Γ=>.ok p Γ) (fun Γ=>.ok q Γ)
@[simp] theorem kP:af fa fb Γ=(fa Γ).bind fun p Γ1=>(fb Γ1).bind fun q Γ2=>lB p q Γ2:=by
 unfold lB af aX
 cases fa Γ with
 | ok p Γ1=>simp only [CY]
 | er c Γ1=>rfl
 | no=>rfl
@[simp] theorem rV {ds:List D} {k:Int} {s:Sh}:lB ⟨.leaf,.tuple ds⟩ ⟨s,.int k⟩ Γ=match fq ds k with | some d=>.ok ⟨.leaf,d⟩ Γ | none=>.no:=by
 unfold lB af aX fq;simp only [CY]
 cases h:eE ds.length k with
 | none=>rfl
 | some j=>
  simp only [Option.bind_some]
  cases h2:ds[j]? with
  | none=>rfl
  | some d=>rfl
@[simp] theorem xu {ds:List D} {k:Int} {s:Sh}:lB ⟨.leaf,.list ds⟩ ⟨s,.int k⟩ Γ=match fq ds k with | some d=>.ok ⟨.leaf,d⟩ Γ | none=>.no:=by
 unfold lB af aX fq;simp only [CY]
 cases h:eE ds.length k with
 | none=>rfl
 | some j=>
  simp only [Option.bind_some]
  cases h2:ds[j]? with
  | none=>rfl
  | some d=>rfl
@[simp] theorem GC {ds:List D} {k:Int} {s:Sh}:lB ⟨.view,.list ds⟩ ⟨s,.int k⟩ Γ=match fq ds k with | some d=>.ok ⟨if aT d then .leaf else .view,d⟩ Γ | none=>.no:=by
 unfold lB af aX fq;simp only [CY]
 cases h:eE ds.length k with
 | none=>rfl
 | some j=>
  simp only [Option.bind_some]
  cases h2:ds[j]? with
  | none=>rfl
  | some d=>rfl
@[simp] theorem BW {a:α} {r:List α}:fq (a::r) 0=some a:=by
 simp [fq,eE]
@[simp] theorem BV {a b:α} {r:List α}:fq (a::b::r) 1=some b:=by
 have:(1:Int)<(r.length:Int)+1+1:=by omega
 simp [fq,eE,this]
@[simp] theorem BU {a b c:α} {r:List α}:fq (a::b::c::r) 2=some c:=by
 have:(2:Int)<(r.length:Int)+1+1+1:=by omega
 simp [fq,eE,this]
theorem Bl {xs:List α} {k:Nat} {x:α} (h:xs[k]?=some x):fq xs (k:Int)=some x:=by
 have hk:=(List.getElem?_eq_some_iff.mp h).1
 have:(k:Int)<(xs.length:Int):=by omega
 simp [fq,eE,this,h]
end
section
variable {Γ:Ev} {fa fb:F1} {i:Nat}
@[simp] theorem Gz {c:String}:dX c fa Γ=(fa Γ).bind fun p Γ=>.ok ⟨.leaf,.bool (sQ (yw p.d) c)⟩ Γ:=rfl
@[simp] theorem Fq {s:Sh}:br s fl Γ=(fl Γ).bind fun ps Γ'=>if !s.isView&&ps.all (T.coer s)&&decide (ps.length<=sizeLine) then .ok ⟨.lst s,.list (ps.map (·.d))⟩ Γ' else .no:=rfl
@[simp] theorem Gm:bQ fl Γ=(fl Γ).bind fun ps Γ'=>if ps.all tok&&decide (ps.length<=sizeLine) then .ok ⟨.tup (ps.map uU),.tuple (ps.map (·.d))⟩ Γ' else .no:=rfl
@[simp] theorem Fn {d:D}:tok ⟨.leaf,d⟩=true:=rfl
@[simp] theorem Fm {s:Sh} {d:D}:tok ⟨.lst s,d⟩=true:=rfl
@[simp] theorem Fl {s:List Sh} {d:D}:tok ⟨.tup s,d⟩=true:=rfl
@[simp] theorem GB {a:D}:bq false a .none=some (.bool (ue a)):=rfl
@[simp] theorem Fv {a:D}:bq true a .none=some (.bool (!ue a)):=rfl
@[simp] theorem FA:aw fa Γ=(fa Γ).bind fun p Γ'=>match p.d with | .list ds=>if dO p ds then .ok ⟨ds,!p.s.isView⟩ Γ' else .no | _=>.no:=rfl
@[simp] theorem Gx {d:D} {ds:List D}:dO ⟨.leaf,d⟩ ds=true:=rfl
@[simp] theorem Gv {s:Sh} {d:D} {ds:List D}:dO ⟨.lst s,d⟩ ds=true:=rfl
@[simp] theorem Gu {s:List Sh} {d:D} {ds:List D}:dO ⟨.tup s,d⟩ ds=true:=rfl
@[simp] theorem GL {f:F1}:jk i f Γ=match Γ[i]? with | some (some ⟨.leaf,.int a⟩)=>gN f (tV i a) Γ | _=>.no:=rfl
@[simp] theorem FR {a:Int} {s:Sh}:tV i a ⟨s,.int b⟩ Γ=if i<Γ.length then .nx (Γ.set i (some ⟨.leaf,.int (a+b)⟩)) else .no:=rfl
theorem C9 {β:Type} {c:FB} {g:FS} {G:β->Ev} {test:β->Bool} {Inv:β->Prop} {meas:β->Nat} (hc:∀b,Inv b->c (G b)=.ok (test b) (G b)) (hg:∀b,Inv b->test b=true->∃b',g (G b)=.nx (G b')/\Inv b'/\meas b'<meas b) :
  ∀(N:Nat) (b:β),Inv b->meas b<N->∃b',qN c g N (G b)=.nx (G b')/\Inv b'/\test b'=false
 | 0,b,_,h=>by omega
 | N+1,b,hi,hm=>by
  rw [qN,hc b hi]
  cases ht:test b with
  | false=>exact ⟨b,rfl,hi,ht⟩
  | true=>
   obtain ⟨b1,h1,h2,h3⟩:=hg b hi ht;obtain ⟨b',e,q⟩:=C9 hc hg N b1 h2 (by omega)
   refine ⟨b',?_,q⟩
   simp only [h1]
   exact e
theorem AI {fa:F1} {p:PV} {ds:List D} (ho:Γ[i]?=some (some ⟨.lst .leaf,.list ds⟩)) (h:fa Γ=.ok p Γ) (hc:coer .leaf p=true) (hn:ds.length<=9000):gM i fa Γ=.nx (Γ.set i (some ⟨.lst .leaf,.list (ds++[p.d])⟩)):=by
 have hb:(10000:Nat)<=sizeLine:=by decide
 unfold gM AV;rw [ho];simp only [if_true,rU,h]
 unfold wO;rw [ho];have:ds.length<sizeLine:=by omega
 simp only [hc,decide_eq_true this,Bool.and_self,if_true]
end
theorem EL {α:Type} {en:α->D} {i:Nat} {fc:FB} {fe:F1} {s:Sh} {c:α->Bool} {f:α->PV} {Γ:Ev} (hΓ:Γ.set i none=Γ):∀(r:List α) (acc:List D),(∀x∈r,fc (Γ.set i (some ⟨.leaf,en x⟩))=.ok (c x) (Γ.set i (some ⟨.leaf,en x⟩))) ->
  (∀x∈r,c x=true->fe (Γ.set i (some ⟨.leaf,en x⟩))=.ok (f x) (Γ.set i (some ⟨.leaf,en x⟩))/\coer s (f x)=true)->acc.length+r.length<=sizeLine->oW i fc fe s (r.map en) Γ acc=.ok (acc++((r.filter c).map fun x=>(f x).d)) Γ
 | [],acc,_,_,_=>by simp [oW]
 | x::r,acc,hc,he,hl=>by
  have h1:=hc x mem_cons_self
  have hl1:acc.length<sizeLine:=by simp only [length_cons] at hl;omega
  have back:(Γ.set i (some ⟨.leaf,en x⟩)).set i none=Γ:=by rw [set_set];exact hΓ
  rw [map_cons,oW,h1]
  cases hcd:c x with
  | false=>
   dsimp only;rw [if_pos hl1,back,EL hΓ r acc (fun d hd=>hc d (mem_cons_of_mem _ hd)) (fun d hd=>he d (mem_cons_of_mem _ hd)) (by simp only [length_cons] at hl;omega)]
   rw [List.filter_cons_of_neg (by rw [hcd];exact Bool.false_ne_true)]
  | true=>
   obtain ⟨h2,h3⟩:=he x mem_cons_self hcd;dsimp only;rw [h2];dsimp only;rw [h3,decide_eq_true hl1,Bool.and_self,if_pos rfl,back,EL hΓ r (acc++[(f x).d]) (fun d hd=>hc d (mem_cons_of_mem _ hd)) (fun d hd=>he d (mem_cons_of_mem _ hd)) (by simp only [length_cons,length_append,length_nil] at hl ⊢;omega)]
   rw [List.filter_cons_of_pos hcd,map_cons,append_assoc];rfl
theorem gL (en:α->D) (xs:List α) (c:α->Bool) (f:α->PV) {s:Sh} {i:Nat} {fc:FB} {st:Bool} (hi:fi Γ=.ok ⟨xs.map en,st⟩ Γ) (hl:i<Γ.length) (hs:s.isView=false) (hn:xs.length<=10000)
  (hc:∀x∈xs,fc (Γ.set i (some ⟨.leaf,en x⟩))=.ok (c x) (Γ.set i (some ⟨.leaf,en x⟩))) (he:∀x∈xs,c x=true->fe (Γ.set i (some ⟨.leaf,en x⟩))=.ok (f x) (Γ.set i (some ⟨.leaf,en x⟩))/\coer s (f x)=true) :
  aj s i fi fc fe Γ=.ok ⟨.lst s,.list ((xs.filter c).map fun x=>(f x).d)⟩ Γ:=by
 have hb:(10000:Nat)<=sizeLine:=by decide
 unfold aj;rw [hi];unfold Out.bind;dsimp only;rw [EL (c:=c) (f:=f) (by rw [set_set]) xs [] (fun d hd=>by rw [set_set];exact hc d hd) (fun d hd=>by rw [set_set];exact he d hd) (by simp;omega)]
 dsimp only;rw [hs,decide_eq_true hl];simp only [Bool.not_false,Bool.and_self,if_true,nil_append,set_set]
 have:Γ.set i (Γ.getD i none)=Γ:=by
  apply A7
  rw [getD_eq_getElem?_getD,getElem?_eq_getElem hl];rfl
 rw [this]
theorem mq (en:α->D) (xs:List α) (f:α->PV) {s:Sh} {i:Nat} {st:Bool} (hi:fi Γ=.ok ⟨xs.map en,st⟩ Γ) (hl:i<Γ.length) (hs:s.isView=false) (hn:xs.length<=10000)
  (he:∀x∈xs,fe (Γ.set i (some ⟨.leaf,en x⟩))=.ok (f x) (Γ.set i (some ⟨.leaf,en x⟩))/\coer s (f x)=true):aj s i fi aH fe Γ=.ok ⟨.lst s,.list (xs.map fun x=>(f x).d)⟩ Γ:=by
 rw [gL (fc:=aH) en xs (fun _=>true) f hi hl hs hn (fun _ _=>rfl) fun x hx _=>he x hx,List.filter_eq_self.mpr fun _ _=>rfl]
theorem Eb {α β:Type} (en:α->D) (step:β->α->β) {Inv:β->List α->Prop} {i:Nat} {body:FS} {G:β->Option PV->Ev} (hi:∀b x,i<(G b x).length) (hset:∀b x y,(G b x).set i y=G b y)
  (hb:∀b a r,Inv b (a::r)->body (G b (some ⟨.leaf,en a⟩))=.nx (G (step b a) (some ⟨.leaf,en a⟩))/\Inv (step b a) r):∀(xs:List α) (b:β) (x:Option PV),Inv b xs->∃y,aR i body (xs.map en) (G b x)=.nx (G (xs.foldl step b) y)/\Inv (xs.foldl step b) []
 | [],b,x,h=>⟨x,rfl,h⟩
 | a::r,b,x,h=>by
  obtain ⟨h1,h2⟩:=hb b a r h;obtain ⟨y,e,h3⟩:=Eb en step hi hset hb r (step b a) (some ⟨.leaf,en a⟩) h2
  refine ⟨y,?_,h3⟩
  rw [map_cons,aR,if_pos (hi b x),hset,h1];exact e
end T
namespace KC
open PySem PySem.Spec L2 T PySem.SeqAt
open PyProof.Rows hiding St
variable {t:Nat}
noncomputable abbrev rm (t:Nat):D:=.int (t:Int)
noncomputable abbrev aq (r:List Nat):D:=.list (r.map rm)
theorem u7 {n:Nat}:rngD 0 n=(List.range n).map rm:=by
 unfold rngD;simp
theorem uA {r:List Nat}:aV false (rm t) (aq r)=some (.bool (r.contains t)):=by
 have h:=DK (ts:=r.map fun t:Nat=>(t:Int)) (i:=t)
 rw [map_map] at h;refine h.trans ?_
 congr 2
 rw [Bool.eq_iff_iff,contains_iff_mem,contains_iff_mem,mem_map];exact ⟨fun ⟨a,h1,h2⟩=>by rw [<-Int.ofNat_inj.mp h2];exact h1,fun h=>⟨t,h,rfl⟩⟩
theorem EF {r:List Nat}:aV true (rm t) (aq r)=some (.bool (!r.contains t)):=by
 have h:=EG (ts:=r.map fun t:Nat=>(t:Int)) (i:=t)
 rw [map_map] at h;refine h.trans ?_
 congr 3
 rw [Bool.eq_iff_iff,contains_iff_mem,contains_iff_mem,mem_map];exact ⟨fun ⟨a,h1,h2⟩=>by rw [<-Int.ofNat_inj.mp h2];exact h1,fun h=>⟨t,h,rfl⟩⟩
structure Wd where
 n:Nat
 os:List D
 m:List (List Str)
 s:List (List Nat)
noncomputable def bw (r:List Str):D:=.list (r.map .str)
noncomputable def Wd.enc (w:Wd):D:=dS w.os (w.m.map bw) (w.s.map aq)
structure Wd.Ok (w:Wd):Prop where
 g:Gw (w.n:Int) w.n w.os (w.m.map bw) (w.s.map aq)
 h1:1<=w.n
 h24:w.n<=24
 lm:w.m.length=w.n
 ls:w.s.length=w.n
 st:∀r∈w.s,r≠[]/\r.length<=30/\∀t∈r,t<w.n
 mc:∀r∈w.m,∀c∈r,PyData.strOk c=true
noncomputable def Wd.stp (w:Wd) (r:Nat):List Nat:=w.s.getD r []
noncomputable def Wd.mks (w:Wd) (r:Nat):List Str:=w.m.getD r []
theorem Wd.Ok.at2 {w:Wd} (h:w.Ok) {r:Nat} (hr:r<w.n):fq (w.s.map aq) (r:Int)=some (aq (w.stp r)):=by
 refine Bl ?_
 unfold Wd.stp;rw [getElem?_map,getD_eq_getElem?_getD,getElem?_eq_getElem (by rw [h.ls];exact hr)]
 rfl
theorem Wd.Ok.at1 {w:Wd} (h:w.Ok) {r:Nat} (hr:r<w.n):fq (w.m.map bw) (r:Int)=some (bw (w.mks r)):=by
 refine Bl ?_
 unfold Wd.mks;rw [getElem?_map,getD_eq_getElem?_getD,getElem?_eq_getElem (by rw [h.lm];exact hr)]
 rfl
theorem Wd.Ok.stp_lt {w:Wd} (h:w.Ok) {r:Nat} (ht:t∈w.stp r):t<w.n:=by
 unfold Wd.stp at ht;rw [getD_eq_getElem?_getD] at ht
 cases e:w.s[r]? with
 | none=>rw [e] at ht;simp at ht
 | some x=>rw [e] at ht;exact (h.st x (mem_of_getElem? e)).2.2 t ht
theorem Wd.Ok.stp_ne {w:Wd} (h:w.Ok) {r:Nat} (hr:r<w.n):w.stp r≠[]:=by
 unfold Wd.stp;rw [getD_eq_getElem?_getD,getElem?_eq_getElem (by rw [h.ls];exact hr)]
 exact (h.st _ (getElem_mem _)).1
noncomputable def aN:List Str:=["a", "b", "c", "d", "e", "f"]
theorem qK {c:Str} (h:c∈aN):PyData.strOk c=true/\inL (.str c)=true:=by
 unfold aN at h;simp only [mem_cons,not_mem_nil,or_false] at h
 rcases h with rfl | rfl | rfl | rfl | rfl | rfl<;>decide +kernel
end KC
namespace KC
variable {l thr goal:List Nat} {n t k:Nat} {rk:List (Option Nat)} {bs cl:List Bool}
noncomputable def bf (rk:List (Option Nat)) (t:Nat):Option Nat:=rk.getD t none
noncomputable def led (any:Bool) (l:List Nat) (P:Nat->Prop):Prop:=if any then ∃t∈l,P t else ∀t∈l,P t
theorem led_t {P:Nat->Prop}:led true l P↔∃t∈l,P t:=by unfold led;simp
theorem led_f {P:Nat->Prop}:led false l P↔∀t∈l,P t:=by unfold led;simp
theorem xf {any:Bool} {P Q:Nat->Prop} (h:led any l P) (i:∀t∈l,P t->Q t):led any l Q:=by
 cases any with
 | true=>obtain ⟨t,ht,hp⟩:=led_t.mp h;exact led_t.mpr ⟨t,ht,i t ht hp⟩
 | false=>exact led_f.mpr fun t ht=>i t ht (led_f.mp h t ht)
structure RightG (n:Nat) (st:Nat->List Nat) (ch:Nat->Bool) (thr goal:List Nat) (rk:List (Option Nat)):Prop where
 len:rk.length=n
 g:∀r,r<n->r∈goal->bf rk r=some 0
 p:∀r k,r<n->r∉goal->bf rk r=some k->0<k/\r∈thr/\led (ch r) (st r) fun t=>∃j,bf rk t=some j/\j<k
 z:∀r,r<n->bf rk r=none->r∉goal/\(r∉thr\/¬led (ch r) (st r) fun t=>bf rk t≠none)
section
variable {n:Nat} {st:Nat->List Nat} {ch own:Nat->Bool} {thr goal:List Nat} {rk:List (Option Nat)}
theorem RightG.min (h:RightG n st ch thr goal rk) {S:Nat->Prop} (cl:∀r t,t∈st r->t<n) (hg:∀r,r<n->r∈goal->S r) (hs:∀r,r<n->r∈thr->led (ch r) (st r) S->S r) {r:Nat} (hr:r<n) (hk:bf rk r≠none):S r:=by
 have key:∀k r,r<n->bf rk r=some k->S r:=by
  intro k;induction k using Nat.strongRecOn with
  | ind k ih=>
   intro r hr hk;by_cases hgo:r∈goal
   ·exact hg r hr hgo
   ·obtain ⟨_,h2,h3⟩:=h.p r k hr hgo hk
    exact hs r hr h2 (xf h3 fun t ht ⟨j,hj,hlt⟩=>ih j hlt t (cl r t ht) hj)
 obtain ⟨k,hk⟩:=Option.ne_none_iff_exists'.mp hk
 exact key k r hr hk
theorem RightG.goal_ok (h:RightG n st ch thr goal rk) {r:Nat} (hr:r<n) (hg:r∈goal):bf rk r≠none:=by rw [h.g r hr hg];simp
theorem RightG.step_ok (h:RightG n st ch thr goal rk) {r:Nat} (hr:r<n) (ht:r∈thr) (hl:led (ch r) (st r) fun t=>bf rk t≠none):bf rk r≠none:=fun z=>by
 rcases (h.z r hr z).2 with q | q
 ·exact q ht
 ·exact q hl
end
structure Fr {α:Type} (n:Nat) (st:Nat->List Nat) (R:Nat->Prop) (M:List α) (mk:α->Nat->Prop) (X:Nat->Prop):Prop where
 lt:∀r,X r->r<n
 sub:∀r,X r->R r
 c:∀r,X r->∃t∈st r,X t
 a:∀m∈M,∀S:Nat->Prop,(∀r,X r->mk m r->S r)->(∀r,X r->(∃t∈st r,X t/\S t)->S r)->∀r,X r->S r
noncomputable def Std (n:Nat) (L:List Nat):Prop:=∃q:Nat->Bool,L=(List.range n).filter q
theorem Std.lt {L:List Nat} (h:Std n L):∀r∈L,r<n:=by
 obtain ⟨q,rfl⟩:=h;intro r hr;exact List.mem_range.mp (List.mem_filter.mp hr).1
theorem Std.len {L:List Nat} (h:Std n L):L.length<=n:=by
 obtain ⟨q,rfl⟩:=h;exact Nat.le_trans (length_filter_le _ _) (by simp)
theorem Std.filter {L:List Nat} (h:Std n L) (p:Nat->Bool):Std n (L.filter p):=by
 obtain ⟨q,rfl⟩:=h;exact ⟨fun t=>p t&&q t,List.filter_filter ..⟩
theorem Std.of (q:Nat->Bool):Std n ((List.range n).filter q):=⟨q,rfl⟩
theorem Std.ext {L M:List Nat} (h:Std n L) (h':Std n M) (e:∀r,r<n->(r∈L↔r∈M)):L=M:=by
 obtain ⟨q,rfl⟩:=h;obtain ⟨p,rfl⟩:=h'
 refine filter_congr fun r hr=>?_
 have:=e r (List.mem_range.mp hr)
 simp only [mem_filter,hr,true_and] at this
 exact Bool.eq_iff_iff.mpr this
open PySem PySem.Spec L2 T PySem.SeqAt
open PyProof.Rows hiding St
noncomputable def oD:Option Nat->D
 | none=>.none
 | some k=>.int (k:Int)
@[simp] theorem Dy (o:Option Nat):ue (oD o)=o.isNone:=by cases o<;>rfl
@[simp] theorem Dx (o:Option Nat):aT (oD o)=true:=by cases o<;>rfl
noncomputable abbrev eA (rk:List (Option Nat)):D:=.list (rk.map oD)
theorem tW (h:t<rk.length):fq (rk.map oD) (t:Int)=some (oD (bf rk t)):=by
 refine Bl ?_
 unfold bf;rw [getElem?_map,getD_eq_getElem?_getD,getElem?_eq_getElem h];rfl
noncomputable def j2 (any:Bool) (bs:List Bool):Bool:=if any then bs.any id else bs.all id
theorem DW:b3 true [.list (bs.map .bool)]=some (.bool (bs.any id)):=by
 have h:=Ec (any:=true) (xs:=bs) (f:=id)
 show Option.map _ (qJ _)=_
 rw [show (bs.map PyData.bool)=bs.map fun x=>PyData.bool (id x) from rfl,h]
 simp
theorem tv:b3 false [.list (bs.map .bool)]=some (.bool (bs.all id)):=by
 have h:=Ec (any:=true) (xs:=bs) (f:=id)
 show Option.map _ (qJ _)=_
 rw [show (bs.map PyData.bool)=bs.map fun x=>PyData.bool (id x) from rfl,h]
 simp
theorem wx {c:Bool}:cW [.bool c,.list (bs.map .bool)]=.ok ⟨.leaf,.bool (j2 c bs)⟩:=by
 unfold j2
 cases c<;>simp [cW,aI,lR,bh,DW,tv]
structure Wd.Ok0 (w:Wd):Prop where
 lo:w.os.length=w.n
 h24:w.n<=24
 ls:w.s.length=w.n
 st:∀r∈w.s,r.length<=30/\∀t∈r,t<w.n
theorem Wd.Ok.z {w:Wd} (h:w.Ok):w.Ok0:=⟨h.g.lo,h.h24,h.ls,fun r hr=>(h.st r hr).2⟩
theorem Wd.Ok0.at2 {w:Wd} (h:w.Ok0) {r:Nat} (hr:r<w.n):fq (w.s.map aq) (r:Int)=some (aq (w.stp r)):=by
 refine Bl ?_
 unfold Wd.stp;rw [getElem?_map,getD_eq_getElem?_getD,getElem?_eq_getElem (by rw [h.ls];exact hr)]
 rfl
theorem Wd.Ok0.stp_lt {w:Wd} (h:w.Ok0) {r:Nat} (ht:t∈w.stp r):t<w.n:=by
 unfold Wd.stp at ht;rw [getD_eq_getElem?_getD] at ht
 cases e:w.s[r]? with
 | none=>rw [e] at ht;simp at ht
 | some x=>rw [e] at ht;exact (h.st x (mem_of_getElem? e)).2 t ht
theorem Wd.Ok0.len {w:Wd} (h:w.Ok0) {r:Nat}:(w.stp r).length<=10000:=by
 unfold Wd.stp;rw [getD_eq_getElem?_getD]
 cases e:w.s[r]? with
 | none=>simp
 | some x=>
  have:=(h.st x (mem_of_getElem? e)).1
  simp only [Option.getD_some]
  omega
noncomputable abbrev mx (cl:List Bool):D:=.list (cl.map .bool)
noncomputable def gO (cl:List Bool) (r:Nat):Bool:=cl.getD r false
theorem CJ (h:t<cl.length):fq (cl.map PyData.bool) (t:Int)=some (.bool (gO cl t)):=by
 refine Bl ?_
 unfold gO;rw [getElem?_map,getD_eq_getElem?_getD,getElem?_eq_getElem h];rfl
noncomputable def sy (w:Wd) (ch:Nat->Bool) (thr:List Nat) (rk:List (Option Nat)):List Nat:=thr.filter fun r=>(bf rk r).isNone&&j2 (ch r) ((w.stp r).map fun t=>(bf rk t).isSome)
theorem tL {w:Wd} (h:w.Ok0) (hcl:cl.length=w.n) (ht:∀r∈thr,r<w.n) (hl:rk.length=w.n) (hn:thr.length<=1000):bR [w.enc,mx cl,aq thr,eA rk]=.ok ⟨.lst .leaf,aq (sy w (gO cl) thr rk)⟩:=by
 obtain ⟨y,e,_⟩:=Eb rm (fun (b:List Nat) r=>if (bf rk r).isNone&&j2 (gO cl r) ((w.stp r).map fun t=>(bf rk t).isSome) then b++[r] else b) (Inv:=fun b r=>b.length+r.length<=1000/\∀t∈r,t<w.n) (i:=5)
  (body:=(bI (cE (aA ag (ax (bq false) (af (aa 3) (aa 5)) (eK .none))) (aA aZ (ar 2 cW (ab (af (aa 1) (aa 5)) (ab (aj .leaf 6 (aw (af (af (aa 0) (eK (.int 2))) (aa 5))) aH (ax (bq true) (af (aa 3) (aa 6)) (eK .none))) ae))))) (gM 4 (aa 5)) aC))
  (G:=fun b x=>[some ⟨.leaf,w.enc⟩,some ⟨.leaf,mx cl⟩,some ⟨.leaf,aq thr⟩,some ⟨.leaf,eA rk⟩,some ⟨.lst .leaf,aq b⟩,x,none])
  (fun _ _=>by simp) (fun _ _ _=>by simp) (fun b r rest hI=>by
   obtain ⟨h1,h2⟩:=hI;have hr:r<w.n:=h2 r mem_cons_self
   have a1:=tW (rk:=rk) (t:=r) (by omega)
   have a2:=h.at2 hr
   have a4:=CJ (cl:=cl) (t:=r) (by omega)
   simp only [length_cons] at h1
   have c1:aj .leaf 6 (aw (af (af (aa 0) (eK (.int 2))) (aa 5))) aH (ax (bq true) (af (aa 3) (aa 6)) (eK .none)) [some ⟨.leaf,w.enc⟩,some ⟨.leaf,mx cl⟩,some ⟨.leaf,aq thr⟩,some ⟨.leaf,eA rk⟩,some ⟨.lst .leaf,aq b⟩,some ⟨.leaf,rm r⟩,none]
     = .ok ⟨.lst .leaf,.list ((w.stp r).map fun t=>.bool (bf rk t).isSome)⟩ [some ⟨.leaf,w.enc⟩,some ⟨.leaf,mx cl⟩,some ⟨.leaf,aq thr⟩,some ⟨.leaf,eA rk⟩,some ⟨.lst .leaf,aq b⟩,some ⟨.leaf,rm r⟩,none]:=by
    refine mq rm (w.stp r) (fun t=>⟨.leaf,.bool (bf rk t).isSome⟩) (st:=true) (by simp [Wd.enc,a2]) (by simp) rfl h.len fun t ht=>?_
    have a3:=tW (rk:=rk) (t:=t) (by rw [hl];exact h.stp_lt ht)
    simp [a3]
   have dl:=wx (c:=gO cl r) (bs:=(w.stp r).map fun t=>(bf rk t).isSome)
   rw [map_map] at dl;have dl:cW [.bool (gO cl r),.list ((w.stp r).map fun t=>.bool (bf rk t).isSome)]=.ok ⟨.leaf,.bool (j2 (gO cl r) ((w.stp r).map fun t=>(bf rk t).isSome))⟩:=dl
   have ap:gM 4 (aa 5) [some ⟨.leaf,w.enc⟩,some ⟨.leaf,mx cl⟩,some ⟨.leaf,aq thr⟩,some ⟨.leaf,eA rk⟩,some ⟨.lst .leaf,aq b⟩,some ⟨.leaf,rm r⟩,none]=.nx [some ⟨.leaf,w.enc⟩,some ⟨.leaf,mx cl⟩,some ⟨.leaf,aq thr⟩,some ⟨.leaf,eA rk⟩,some ⟨.lst .leaf,.list (b.map rm++[rm r])⟩,some ⟨.leaf,rm r⟩,none]:=
    AI rfl (ao rfl) rfl (by simp;omega)
   refine ⟨?_,?_⟩
   ·cases q1:(bf rk r).isNone with
    | false=>simp [a1,q1]
    | true=>
     cases q2:j2 (gO cl r) ((w.stp r).map fun t=>(bf rk t).isSome) with
     | false=>simp [a1,a4,q1,c1,dl,q2]
     | true=>simp [a1,a4,q1,c1,dl,q2,ap]
   ·refine ⟨?_,fun t ht=>h2 t (mem_cons_of_mem _ ht)⟩
    split
    ·rw [length_append,length_singleton];omega
    ·omega) thr [] none (by simp;exact ⟨hn,ht⟩)
 have ef:∀(l b:List Nat),l.foldl (fun (b:List Nat) r=>if (bf rk r).isNone&&j2 (gO cl r) ((w.stp r).map fun t=>(bf rk t).isSome) then b++[r] else b) b=b++sy w (gO cl) l rk:=by
  intro l;induction l with
  | nil=>intro b;simp [sy]
  | cons r t ih=>
   intro b;rw [List.foldl_cons,ih];unfold sy;rw [filter_cons];split<;>simp
 rw [ef,nil_append] at e;refine aG ?_
 have e2:=bu (fi:=aw (aa 2)) (Γ:=[some ⟨.leaf,w.enc⟩,some ⟨.leaf,mx cl⟩,some ⟨.leaf,aq thr⟩,some ⟨.leaf,eA rk⟩,some ⟨.lst .leaf,aq []⟩,none,none]) (aL (ds:=thr.map rm) (ao rfl) rfl) e
 have e1:aB true 4 (br .leaf ae) (bh 7 [w.enc,mx cl,aq thr,eA rk])=.nx [some ⟨.leaf,w.enc⟩,some ⟨.leaf,mx cl⟩,some ⟨.leaf,aq thr⟩,some ⟨.leaf,eA rk⟩,some ⟨.lst .leaf,aq []⟩,none,none]:=by simp [bh]
 unfold d9;rw [oa,e1];simp only
 rw [oa,e2];simp
theorem led_iff {any:Bool} {b:Nat->Bool}:j2 any (l.map b)=true↔led any l fun t=>b t=true:=by
 unfold j2 led
 cases any<;>simp
noncomputable def b8 (rk:List (Option Nat)) (k:Nat) (fr:List Nat):List (Option Nat):=fr.foldl (fun l r=>l.set r (some k)) rk
theorem Eh {k:Nat}:∀(fr:List Nat) (rk:List (Option Nat)),(b8 rk k fr).length=rk.length
 | [],_=>rfl
 | a::r,rk=>by
  show (b8 (rk.set a (some k)) k r).length=_
  rw [Eh,length_set]
theorem ve {a:Nat} {o:Option Nat} (h:a<rk.length):bf (rk.set a o) t=if t=a then o else bf rk t:=by
 unfold bf;rw [getD_eq_getElem?_getD,getD_eq_getElem?_getD];split
 ·rename_i e;subst e;rw [getElem?_set_self h];rfl
 ·rename_i e;rw [getElem?_set_ne (fun z=>e z.symm)]
theorem nX {k t:Nat}:∀(fr:List Nat) (rk:List (Option Nat)),(∀a∈fr,a<rk.length)->bf (b8 rk k fr) t=if t∈fr then some k else bf rk t
 | [],rk,_=>by simp [b8]
 | a::r,rk,h=>by
  show bf (b8 (rk.set a (some k)) k r) t=_
  rw [nX r _ (fun b hb=>by rw [length_set];exact h b (mem_cons_of_mem _ hb)),ve (h a mem_cons_self)]
  by_cases e1:t∈r
  ·simp [e1]
  ·by_cases e2:t=a
   ·simp [e2]
   ·simp [e1,e2]
noncomputable def bO (rk:List (Option Nat)):Nat:=(rk.filter Option.isNone).length
theorem pQ {a:Nat} (h:rk[a]?=some none):bO (rk.set a (some k))+1=bO rk:=by
 induction rk generalizing a with
 | nil=>simp at h
 | cons x r ih=>
  cases a with
  | zero=>
   simp at h
   subst h;simp [bO]
  | succ a=>
   have:=ih (a:=a) (by simpa using h)
   simp only [bO,List.set_cons_succ,filter_cons] at this ⊢
   cases x with
   | none=>simp only [Option.isNone_none,if_true,length_cons];omega
   | some v=>simpa using this
theorem sD {a:Nat}:bO (rk.set a (some k))<=bO rk:=by
 induction rk generalizing a with
 | nil=>simp [bO]
 | cons x r ih=>
  cases a with
  | zero=>cases x<;>simp [bO]
  | succ a=>
   have:=ih (a:=a)
   simp only [bO,List.set_cons_succ,filter_cons] at this ⊢
   cases x with
   | none=>simp only [Option.isNone_none,if_true,length_cons];omega
   | some v=>simpa using this
theorem eY {k:Nat}:∀(fr:List Nat) (rk:List (Option Nat)),bO (b8 rk k fr)<=bO rk
 | [],_=>Nat.le_refl _
 | a::r,rk=>Nat.le_trans (eY r (rk.set a (some k))) sD
theorem pR {fr:List Nat} (hne:fr≠[]) (h:∀a∈fr,rk[a]?=some none):bO (b8 rk k fr)<bO rk:=by
 cases fr with
 | nil=>exact absurd rfl hne
 | cons a r=>
  have h1:=pQ (k:=k) (h a mem_cons_self)
  have h2:=eY (k:=k) r (rk.set a (some k))
  show bO (b8 (rk.set a (some k)) k r)<_
  omega
structure RS where
 rk:List (Option Nat)
 k:Nat
 fr:List Nat
 x8:Option PV
structure RI (w:Wd) (ch:Nat->Bool) (thr goal:List Nat) (b:RS):Prop where
 len:b.rk.length=w.n
 frn:∀r∈b.fr,r<w.n/\bf b.rk r=none
 frl:b.fr.length<=1000
 lt:∀r j,bf b.rk r=some j->j<b.k
 zero:b.k=0->b.fr=goal
 g:0<b.k->∀r,r∈goal->bf b.rk r=some 0
 p:∀r j,r<w.n->r∉goal->bf b.rk r=some j->0<j/\r∈thr/\led (ch r) (w.stp r) fun t=>∃i,bf b.rk t=some i/\i<j
 nx:0<b.k->b.fr=sy w ch thr b.rk
 m1:∀r,r∈thr->bf b.rk r=none->¬led (ch r) (w.stp r) fun t=>∃i,bf b.rk t=some i/\i+1<b.k
 m2:∀r j,r∉goal->bf b.rk r=some j->¬led (ch r) (w.stp r) fun t=>∃i,bf b.rk t=some i/\i+1<j
noncomputable def DI (st:Nat->List Nat) (ch:Nat->Bool) (goal:List Nat) (rk:List (Option Nat)):Prop:=∀r j,r∉goal->bf rk r=some j->¬led (ch r) (st r) fun t=>∃i,bf rk t=some i/\i+1<j
theorem RI.right {w:Wd} {ch:Nat->Bool} {b:RS} (hne:∀r∈thr,w.stp r≠[]) (I:RI w ch thr goal b) (he:b.fr=[]):RightG w.n w.stp ch thr goal b.rk:=by
 refine ⟨I.len,fun r hr hg=>?_,I.p,fun r hr hz=>?_⟩
 ·rcases Nat.eq_zero_or_pos b.k with h | h
  ·rw [<-I.zero h,he] at hg;simp at hg
  ·exact I.g h r hg
 ·rcases Nat.eq_zero_or_pos b.k with h | h
  ·have hg:goal=[]:=by rw [<-I.zero h];exact he
   refine ⟨by rw [hg];simp,?_⟩
   by_cases ht:r∈thr
   case neg=>exact .inl ht
   refine .inr fun hl=>?_
   have no:∀t,bf b.rk t=none:=fun t=>by
    cases e:bf b.rk t with
    | none=>rfl
    | some j=>have:=I.lt t j e;omega
   cases hc:ch r with
   | true=>
    rw [hc] at hl;obtain ⟨t,_,z⟩:=led_t.mp hl;exact z (no t)
   | false=>
    rw [hc] at hl;obtain ⟨t,ht'⟩:=exists_mem_of_ne_nil _ (hne r ht);exact led_f.mp hl t ht' (no t)
  ·refine ⟨fun hg=>(by rw [I.g h r hg] at hz;cases hz),?_⟩
   by_cases ht:r∈thr
   ·refine .inr fun hl=>?_
    have hx:=I.nx h
    rw [he] at hx;have:r∈sy w ch thr b.rk:=by
     unfold sy;refine List.mem_filter.mpr ⟨ht,?_⟩
     rw [hz];simp only [Option.isNone_none,Bool.true_and]
     exact led_iff.mpr (xf hl fun t _ z=>by cases e:bf b.rk t with | none=>exact absurd e z | some j=>rfl)
    rw [<-hx] at this;simp at this
   ·exact .inl ht
theorem RI.step {w:Wd} {ch:Nat->Bool} (hne0:∀r∈thr,w.stp r≠[]) {b:RS} {y:Option PV} (hthr:∀r∈thr,r<w.n) (hl:thr.length<=1000) (I:RI w ch thr goal b) (hne:b.fr≠[]) :
  RI w ch thr goal ⟨b8 b.rk b.k b.fr,b.k+1,sy w ch thr (b8 b.rk b.k b.fr),y⟩/\bO (b8 b.rk b.k b.fr)<bO b.rk:=by
 have hfl:∀a∈b.fr,a<b.rk.length:=fun a ha=>by rw [I.len];exact (I.frn a ha).1
 have pt:∀t,bf (b8 b.rk b.k b.fr) t=if t∈b.fr then some b.k else bf b.rk t:=fun t=>nX _ _ hfl
 refine ⟨⟨by rw [Eh];exact I.len,fun r hr=>?_,?_,fun r j e=>?_,fun z=>absurd z (Nat.succ_ne_zero _),fun _ r hg=>?_,fun r j hr hg e=>?_,fun _=>rfl,fun r ht hz hl=>?_,fun r j hg e hl=>?_⟩,pR hne fun a ha=>?_⟩
 ·obtain ⟨h1,h2⟩:=List.mem_filter.mp hr
  simp only [Bool.and_eq_true,Option.isNone_iff_eq_none] at h2
  exact ⟨hthr r h1,h2.1⟩
 ·exact Nat.le_trans (length_filter_le _ _) hl
 ·rw [pt] at e
  show j<b.k+1
  split at e
  ·cases e;omega
  ·have:=I.lt r j e;omega
 ·show bf (b8 b.rk b.k b.fr) r=some 0
  rw [pt];rcases Nat.eq_zero_or_pos b.k with h | h
  ·rw [I.zero h,if_pos hg,h]
  ·have:=I.g h r hg
   split
   ·rename_i z;rw [(I.frn r z).2] at this;cases this
   ·exact this
 ·have e:bf (b8 b.rk b.k b.fr) r=some j:=e
  rw [pt] at e;split at e
  ·rename_i hm
   cases e;have hk:0<b.k:=by
    rcases Nat.eq_zero_or_pos b.k with h | h
    ·rw [I.zero h] at hm;exact absurd hm hg
    ·exact h
   have hx:=I.nx hk
   rw [hx] at hm;obtain ⟨h1,h2⟩:=List.mem_filter.mp hm;simp only [Bool.and_eq_true] at h2
   refine ⟨hk,h1,xf (led_iff.mp h2.2) fun t _ z=>?_⟩
   cases e:bf b.rk t with
   | none=>rw [e] at z;cases z
   | some i=>
    refine ⟨i,?_,I.lt t i e⟩
    show bf (b8 b.rk b.k b.fr) t=_
    rw [pt,if_neg (fun q=>by rw [(I.frn t q).2] at e;cases e),e]
  ·obtain ⟨h1,h2,h3⟩:=I.p r j hr hg e
   refine ⟨h1,h2,xf h3 fun t _ ⟨i,hi,hlt⟩=>⟨i,?_,hlt⟩⟩
   show bf (b8 b.rk b.k b.fr) t=_
   rw [pt,if_neg (fun q=>by rw [(I.frn t q).2] at hi;cases hi),hi]
 ·have hz:bf (b8 b.rk b.k b.fr) r=none:=hz
  rw [pt] at hz;split at hz
  ·cases hz
  rename_i hf;have hl:led (ch r) (w.stp r) fun t=>∃i,bf (b8 b.rk b.k b.fr) t=some i/\i+1<b.k+1:=hl
  have hl:led (ch r) (w.stp r) fun t=>∃i,bf b.rk t=some i/\i<b.k:=xf hl fun t _ ⟨i,hi,hlt⟩=>by
   rw [pt] at hi;split at hi
   ·cases hi;omega
   ·exact ⟨i,hi,by omega⟩
  rcases Nat.eq_zero_or_pos b.k with h | h
  ·cases hc:ch r with
   | true=>
    rw [hc] at hl;obtain ⟨t,_,i,_,z⟩:=led_t.mp hl;omega
   | false=>
    rw [hc] at hl;obtain ⟨t,ht'⟩:=exists_mem_of_ne_nil _ (hne0 r ht);obtain ⟨i,_,z⟩:=led_f.mp hl t ht'
    omega
  ·refine hf ?_
   rw [I.nx h];refine List.mem_filter.mpr ⟨ht,?_⟩
   rw [hz];simp only [Option.isNone_none,Bool.true_and]
   exact led_iff.mpr (xf hl fun t _ ⟨i,hi,_⟩=>by rw [hi];rfl)
 ·have e:bf (b8 b.rk b.k b.fr) r=some j:=e
  have hl:led (ch r) (w.stp r) fun t=>∃i,bf (b8 b.rk b.k b.fr) t=some i/\i+1<j:=hl
  have hj:j<=b.k:=by
   rw [pt] at e;split at e
   ·cases e;omega
   ·have:=I.lt r j e;omega
  have hl:led (ch r) (w.stp r) fun t=>∃i,bf b.rk t=some i/\i+1<j:=xf hl fun t _ ⟨i,hi,hlt⟩=>by
   rw [pt] at hi;split at hi
   ·cases hi;omega
   ·exact ⟨i,hi,hlt⟩
  rw [pt] at e;split at e
  ·rename_i hm
   cases e;have hk:0<b.k:=by
    rcases Nat.eq_zero_or_pos b.k with h | h
    ·rw [I.zero h] at hm;exact absurd hm hg
    ·exact h
   have hm':=hm
   rw [I.nx hk] at hm';exact I.m1 r (List.mem_filter.mp hm').1 (I.frn r hm).2 hl
  ·exact I.m2 r j hg e hl
 ·obtain ⟨h1,h2⟩:=I.frn a ha
  unfold bf at h2;rw [getD_eq_getElem?_getD,getElem?_eq_getElem (by rw [I.len];exact h1)] at h2
  rw [getElem?_eq_getElem (by rw [I.len];exact h1)]
  simpa using h2
noncomputable abbrev GR (w:Wd) (cl:List Bool) (thr goal:List Nat) (b:RS):Ev:=[some ⟨.leaf,w.enc⟩,some ⟨.leaf,mx cl⟩,some ⟨.leaf,aq thr⟩,some ⟨.leaf,aq goal⟩,some ⟨.lst .leaf,eA b.rk⟩,some ⟨.leaf,.int (b.k:Int)⟩,some ⟨.leaf,aq b.fr⟩,b.x8,none]
noncomputable abbrev jV:FS:=(au (bU 7 (aw (aa 6))
  (eL 4 (aa 5) (aa 7)))
  (au (jk 5 (eK (.int 1)))
  (aB false 6 (xX 4 bR (ab (aa 0) (ab (aa 1) (ab (aa 2) (ab (aa 4) ae))))))))
theorem vc {w:Wd} (ok:w.Ok0) {b:RS} (hcl:cl.length=w.n) (hne0:∀r∈thr,w.stp r≠[]) (hthr:∀r∈thr,r<w.n) (hl:thr.length<=1000) (I:RI w (gO cl) thr goal b) (hne:b.fr≠[]) :
  ∃b',jV (GR w cl thr goal b)=.nx (GR w cl thr goal b')/\RI w (gO cl) thr goal b'/\bO b'.rk<bO b.rk:=by
 obtain ⟨y,e,_⟩:=Eb rm (fun (l:List (Option Nat)) r=>l.set r (some b.k)) (Inv:=fun l r=>l.length=w.n/\∀t∈r,t<w.n) (i:=7) (body:=eL 4 (aa 5) (aa 7))
  (G:=fun l x=>[some ⟨.leaf,w.enc⟩,some ⟨.leaf,mx cl⟩,some ⟨.leaf,aq thr⟩,some ⟨.leaf,aq goal⟩,some ⟨.lst .leaf,eA l⟩,some ⟨.leaf,.int (b.k:Int)⟩,some ⟨.leaf,aq b.fr⟩,x,none])
  (fun _ _=>by simp) (fun _ _ _=>by simp) (fun l r rest ⟨h1,h2⟩=>by
   have hr:=h2 r mem_cons_self
   refine ⟨?_,by rw [length_set];exact h1,fun t ht=>h2 t (mem_cons_of_mem _ ht)⟩
   rw [yo (ds:=l.map oD) (j:=r) (k:=(r:Int)) rfl (ao rfl) (ao rfl) (wX (by rw [length_map,h1];exact hr)) rfl]
   simp [List.map_set,oD]) b.fr b.rk b.x8 ⟨I.len,fun t ht=>(I.frn t ht).1⟩
 obtain ⟨I',hm⟩:=RI.step (y:=y) hne0 hthr hl I hne
 refine ⟨⟨b8 b.rk b.k b.fr,b.k+1,sy w (gO cl) thr (b8 b.rk b.k b.fr),y⟩,?_,I',hm⟩
 have e2:=bu (fi:=aw (aa 6)) (Γ:=GR w cl thr goal b) (aL (ds:=b.fr.map rm) (ao rfl) rfl) e
 have dn:=tL ok (cl:=cl) (thr:=thr) (rk:=b8 b.rk b.k b.fr) hcl hthr (by rw [Eh];exact I.len) hl
 unfold jV;rw [oa,e2];have fr:m6 ⟨.lst .leaf,aq (sy w (gO cl) thr (b8 b.rk b.k b.fr))⟩=true:=by
  unfold m6;simp [aT]
 have ec:∀Γ:Ev,Γ=[some ⟨.leaf,w.enc⟩,some ⟨.leaf,mx cl⟩,some ⟨.leaf,aq thr⟩,some ⟨.leaf,aq goal⟩,some ⟨.lst .leaf,eA (b8 b.rk b.k b.fr)⟩,some ⟨.leaf,.int ((b.k:Int)+1)⟩,some ⟨.leaf,aq b.fr⟩,y,none] ->
   xX 4 bR (ab (aa 0) (ab (aa 1) (ab (aa 2) (ab (aa 4) ae)))) Γ=.ok ⟨.lst .leaf,aq (sy w (gO cl) thr (b8 b.rk b.k b.fr))⟩ Γ:=fun Γ hΓ=>by
  subst hΓ;unfold xX;simp [dn,fr]
 have pu:b.fr.foldl (fun l r=>l.set r (some b.k)) b.rk=b8 b.rk b.k b.fr:=rfl
 rw [pu];simp [ec _ rfl]
theorem e9 {w:Wd} (ok:w.Ok0) (hcl:cl.length=w.n) (hne0:∀r∈thr,w.stp r≠[]) (hthr:∀r∈thr,r<w.n) (hl:thr.length<=1000) (hgoal:∀r∈goal,r<w.n) (hgl:goal.length<=1000) :
  ∃rk,eB [w.enc,mx cl,aq thr,aq goal]=.ok ⟨.lst .leaf,eA rk⟩/\RightG w.n w.stp (gO cl) thr goal rk/\DI w.stp (gO cl) goal rk:=by
 have lo:=ok.lo
 have h24:=ok.h24
 have i0:RI w (gO cl) thr goal ⟨w.os.map fun _=>none,0,goal,none⟩:=by
  have z:∀r,bf (w.os.map fun _=>none) r=none:=fun r=>by
   unfold bf;rw [getD_eq_getElem?_getD,getElem?_map]
   cases w.os[r]?<;>rfl
  refine ⟨by simp [lo],fun r hr=>⟨hgoal r hr,z r⟩,hgl,fun r j e=>(by rw [z] at e;cases e),fun _=>rfl,fun h=>absurd h (by simp),fun r j _ _ e=>(by rw [z] at e;cases e),fun h=>absurd h (by simp),fun r ht _ hl=>?_,fun r j _ e=>(by rw [z] at e;cases e)⟩
  have hl:led (gO cl r) (w.stp r) fun t=>∃i,bf (w.os.map fun _=>none) t=some i/\i+1<0:=hl
  cases hc:gO cl r with
  | true=>
   rw [hc] at hl;obtain ⟨t,_,i,_,z⟩:=led_t.mp hl;omega
  | false=>
   rw [hc] at hl;obtain ⟨t,ht'⟩:=exists_mem_of_ne_nil _ (hne0 r ht);obtain ⟨i,_,z⟩:=led_f.mp hl t ht'
   omega
 obtain ⟨b',e,I,hf⟩:=C9 (c:=aA aZ (aa 6)) (g:=jV) (G:=GR w cl thr goal) (test:=fun b=>!b.fr.isEmpty) (Inv:=RI w (gO cl) thr goal) (meas:=fun b=>bO b.rk) (fun b I=>by simp) (fun b I hb=>vc ok hcl hne0 hthr hl I (by intro z;rw [z] at hb;simp at hb)) 1000 _ i0 (by
  have:bO (w.os.map fun _=>none)<=w.os.length:=by unfold bO;exact Nat.le_trans (length_filter_le _ _) (by simp)
  show bO (w.os.map fun _=>none)<1000
  omega)
 refine ⟨b'.rk,?_,I.right hne0 (by simpa using hf),I.m2⟩
 refine aG ?_
 have co:∀Γ:Ev,Γ.length=9->Γ[0]?=some (some ⟨.leaf,w.enc⟩)->aj .leaf 8 (aw (af (aa 0) (eK (.int 0)))) aH (eK .none) Γ=.ok ⟨.lst .leaf,.list (w.os.map fun _=>.none)⟩ Γ:=fun Γ h1 h2=>by
  have:=mq (fun d:D=>d) w.os (fun _=>⟨.leaf,.none⟩) (s:=.leaf) (i:=8) (fi:=aw (af (aa 0) (eK (.int 0)))) (fe:=eK .none) (st:=true) (Γ:=Γ) (by simp [h2,Wd.enc]) (by omega) rfl (by omega) (fun x hx=>by simp)
  simpa using this
 have e:qN (aA aZ (aa 6)) jV 1000 [some ⟨.leaf,w.enc⟩,some ⟨.leaf,mx cl⟩,some ⟨.leaf,aq thr⟩,some ⟨.leaf,aq goal⟩,some ⟨.lst .leaf,.list (w.os.map fun _=>.none)⟩,some ⟨.leaf,.int 0⟩,some ⟨.leaf,aq goal⟩,none,none]=.nx (GR w cl thr goal b'):=by
  have q:eA (w.os.map fun _=>none)=.list (w.os.map fun _=>.none):=by
   unfold eA;rw [map_map];rfl
  rw [<-q];exact e
 unfold ir;rw [oa,BS,co _ rfl rfl];simp [bh]
 unfold uD;rw [e];simp
theorem xS {c:Str} {r:List Str} (hc:PyData.strOk c=true) (h:∀x∈r,PyData.strOk x=true):aV false (.str c) (bw r)=some (.bool (r.contains c)):=by
 have hs:iD (r.map PyData.str):=fun a ha=>by
  obtain ⟨x,hx,rfl⟩:=List.mem_map.mp ha;exact ⟨x,rfl,h x hx⟩
 rw [bw,zT hc hs];congr 2
 unfold has;simp only [any_map]
 rw [Bool.eq_iff_iff,any_eq_true,contains_iff_mem];constructor
 ·rintro ⟨x,hx,e⟩
  have:PyData.eqv (.str x) (.str c)=true:=e
  have:x=c:=by simpa [PyData.eqv] using this
  rw [<-this];exact hx
 ·intro hx
  exact ⟨c,hx,by show PyData.eqv (.str c) (.str c)=true;simp [PyData.eqv]⟩
theorem Wd.Ok.check {w:Wd} (ok:w.Ok):ck [w.enc]=.ok ⟨.leaf,.none⟩:=qi (ok.g.wk (b:=24) ok.h24) (by omega) (ok.g.isW ok.h1 ok.h24)
end KC
namespace T
open PySem PySem.Spec L2
open PyProof.Rows hiding St
theorem Bw {α:Type} (en:α->D) {i:Nat} {body:FS} {Inv:List α->Ev->Prop} (hb:∀a r Γ,Inv (a::r) Γ->i<Γ.length/\∃Γ',body (Γ.set i (some ⟨.leaf,en a⟩))=.nx Γ'/\Inv r Γ'):∀(xs:List α) (Γ:Ev),Inv xs Γ->∃Γ',aR i body (xs.map en) Γ=.nx Γ'/\Inv [] Γ'
 | [],Γ,h=>⟨Γ,rfl,h⟩
 | a::r,Γ,h=>by
  obtain ⟨hi,Γ1,h1,h2⟩:=hb a r Γ h;obtain ⟨Γ2,e,h3⟩:=Bw en hb r Γ1 h2;refine ⟨Γ2,?_,h3⟩
  rw [map_cons,aR,if_pos hi,h1];exact e
end T
namespace KC
open PySem PySem.Spec L2 T PySem.SeqAt
open PyProof.Rows hiding St
theorem BF {n:Nat} {os ms ss:List D} (g:Gw (n:Int) n os ms ss) (h1:1<=n) (h24:n<=24):∃w:Wd,w.Ok/\w.enc=dS os ms ss/\w.n=n:=by
 have hm:∀l:List D,(∀r∈l,∃xs,r=.list xs/\iD xs)->∃M:List (List Str),l=M.map bw/\∀r∈M,∀c∈r,PyData.strOk c=true:=by
  have one:∀xs:List D,iD xs->∃r:List Str,xs=r.map .str/\∀c∈r,PyData.strOk c=true:=by
   intro xs;induction xs with
   | nil=>intro _;exact ⟨[],rfl,by simp⟩
   | cons a r ih=>
    intro h;obtain ⟨x,rfl,hx⟩:=h a mem_cons_self;obtain ⟨t,rfl,ht⟩:=ih fun b hb=>h b (mem_cons_of_mem _ hb)
    exact ⟨x::t,rfl,fun c hc=>(List.mem_cons.mp hc).elim (fun e=>by rw [e];exact hx) (ht c)⟩
  intro l;induction l with
  | nil=>intro _;exact ⟨[],rfl,by simp⟩
  | cons a r ih=>
   intro h;obtain ⟨xs,rfl,hx⟩:=h a mem_cons_self;obtain ⟨x,rfl,hx2⟩:=one xs hx;obtain ⟨M,rfl,hM⟩:=ih fun b hb=>h b (mem_cons_of_mem _ hb)
   exact ⟨x::M,rfl,fun c hc=>(List.mem_cons.mp hc).elim (fun e=>by rw [e];exact hx2) (hM c)⟩
 have hs:∀l:List D,(∀r∈l,∃ts:List Int,r=.list (ts.map .int)/\ts.length<=30/\ts≠[]/\(∀t∈ts,0<=t/\t<(n:Int))/\ts.Pairwise (· < ·))->∃S:List (List Nat),l=S.map aq/\∀r∈S,r≠[]/\r.length<=30/\∀t∈r,t<n:=by
  have one:∀ts:List Int,(∀t∈ts,0<=t/\t<(n:Int))->∃r:List Nat,ts.map PyData.int=r.map rm/\r.length=ts.length/\∀t∈r,t<n:=by
   intro ts;induction ts with
   | nil=>intro _;exact ⟨[],rfl,rfl,by simp⟩
   | cons a r ih=>
    intro h;have ha:=h a mem_cons_self
    obtain ⟨t,e,el,ht⟩:=ih fun b hb=>h b (mem_cons_of_mem _ hb)
    refine ⟨a.toNat::t,?_,by simp [el],fun c hc=>(List.mem_cons.mp hc).elim (fun e=>by omega) (ht c)⟩
    rw [map_cons,map_cons,e];congr 2
    omega
  intro l;induction l with
  | nil=>intro _;exact ⟨[],rfl,by simp⟩
  | cons a r ih=>
   intro h;obtain ⟨ts,rfl,t1,t2,t3,_⟩:=h a mem_cons_self;obtain ⟨x,e,el,hx⟩:=one ts t3;obtain ⟨S,rfl,hS⟩:=ih fun b hb=>h b (mem_cons_of_mem _ hb)
   refine ⟨x::S,by rw [map_cons,e],fun c hc=>(List.mem_cons.mp hc).elim (fun e=>by
    subst e;exact ⟨fun z=>t2 (List.length_eq_zero_iff.mp (by rw [<-el,z];rfl)),by omega,hx⟩) (hS c)⟩
 obtain ⟨M,eM,hM⟩:=hm ms fun r hr=>let ⟨xs,a,b,_⟩:=g.m r hr;⟨xs,a,b⟩
 obtain ⟨S,eS,hS⟩:=hs ss g.s;subst eM eS;refine ⟨⟨n,os,M,S⟩,⟨g,h1,h24,?_,?_,hS,hM⟩,rfl,rfl⟩
 ·have:=g.lm;simpa using this
 ·have:=g.ls;simpa using this
theorem ie (l:List Int):intsOf (l.map .int)=some l:=by
 induction l with
 | nil=>rfl
 | cons a r ih=>rw [map_cons,intsOf,ih];rfl
end KC
namespace KQ
open PySem PySem.Spec L2 T PySem.SeqAt KC
open PyProof.Rows hiding St
variable {k:Nat} {at' lim:Int}
noncomputable def ke:FS:=(au (aB false 3 (ax bx (eK (.int 1)) (ax iY (ar 2 ba (ab (aa 0) (ab (aa 1) ae))) (aa 2))))
  (au (aB true 4 (br .leaf ae))
  (au (aB true 5 (br .leaf ae))
  (au (aB true 6 (br .leaf ae))
  (au (bU 7 (j5 (ab (aa 3) ae))
  (au (aB false 8 (ar 2 ba (ab (aa 0) (ab (ax bx (ax bx (aa 1) (eK (.int 1))) (aa 7)) ae))))
  (au (gM 4 (ar 3 aF (ab (aa 8) (ab (eK (.int 0)) (ab (eK (.int 2)) ae)))))
  (au (gM 5 (aj .leaf 11 (eZ "abc") (aA ag (ax cJ (ar 3 aF (ab (aa 8) (ab (ax bx (eK (.int 1)) (bb (dM "abc") (ab (aa 11) ae))) (ab (eK (.int 2)) ae)))) (eK (.int 1)))) (aa 11)))
  (au (aB false 9 (aj .leaf 10 (j5 (ab (aa 3) ae)) (aA ag (ax cJ (ar 3 aF (ab (aa 8) (ab (ax bx (eK (.int 4)) (aa 10)) (ab (ax bx (eK (.int 2)) (bb tq (ab (ax dW (aa 3) (eK (.int 3))) ae))) ae)))) (eK (.int 1)))) (aa 10)))
  (au (bI (aA ag (ax cJ (aa 9) (br .leaf ae))) (aB false 9 (br .leaf (ab (ar 3 aF (ab (aa 8) (ab (ax bx (eK (.int 4)) (aa 3)) (ab (aa 3) ae)))) ae))) aC)
  (gM 6 (aa 9))))))))
  (aD (bQ (ab (bV 4) (ab (bV 5) (ab (bV 6) ae))))))))))
noncomputable def dk:List PySem.PyData->Res:=aI 12 ke
noncomputable abbrev eW:FS:=(au (aB false 8 (ar 2 ba (ab (aa 0) (ab (ax bx (ax bx (aa 1) (eK (.int 1))) (aa 7)) ae))))
  (au (gM 4 (ar 3 aF (ab (aa 8) (ab (eK (.int 0)) (ab (eK (.int 2)) ae)))))
  (au (gM 5 (aj .leaf 11 (eZ "abc") (aA ag (ax cJ (ar 3 aF (ab (aa 8) (ab (ax bx (eK (.int 1)) (bb (dM "abc") (ab (aa 11) ae))) (ab (eK (.int 2)) ae)))) (eK (.int 1)))) (aa 11)))
  (au (aB false 9 (aj .leaf 10 (j5 (ab (aa 3) ae)) (aA ag (ax cJ (ar 3 aF (ab (aa 8) (ab (ax bx (eK (.int 4)) (aa 10)) (ab (ax bx (eK (.int 2)) (bb tq (ab (ax dW (aa 3) (eK (.int 3))) ae))) ae)))) (eK (.int 1)))) (aa 10)))
  (au (bI (aA ag (ax cJ (aa 9) (br .leaf ae))) (aB false 9 (br .leaf (ab (ar 3 aF (ab (aa 8) (ab (ax bx (eK (.int 4)) (aa 3)) (ab (aa 3) ae)))) ae))) aC)
  (gM 6 (aa 9)))))))
noncomputable def oz (k:Nat):D:=.str ⟨#[97+k]⟩
theorem mi {Γ:Ev}:eZ "abc" Γ=.ok ⟨[0,1,2].map oz,true⟩ Γ:=by
 have:CC "abc"=[0,1,2].map oz:=by kernel_rfl
 unfold eZ;rw [this]
theorem DL (h:k∈[0,1,2]):k<3:=by
 simp at h
 omega
theorem sN (h:k∈[0,1,2]):dM "abc" [oz k]=some (.int (k:Int)):=by
 simp at h
 rcases h with rfl | rfl | rfl<;>kernel_rfl
theorem nD {xs os ms ss:List D} {many:Int} {n:Nat} {x8 x9:Option PV} (hx:gJ xs) (ha:0<=at') (hm:1<=many) (hm2:many<=24) (h:Gw many n os ms ss) (hn:n<=30) {r:Nat} :
  ∃os' ms' ss' x8' x9',eW [some ⟨.leaf,.list xs⟩,some ⟨.leaf,.int at'⟩,some ⟨.leaf,.int lim⟩,some ⟨.leaf,.int many⟩,some ⟨.lst .leaf,.list os⟩,some ⟨.lst .leaf,.list ms⟩,some ⟨.lst .leaf,.list ss⟩,some ⟨.leaf,.int (r:Nat)⟩,x8,x9,none,none]
   = .nx [some ⟨.leaf,.list xs⟩,some ⟨.leaf,.int at'⟩,some ⟨.leaf,.int lim⟩,some ⟨.leaf,.int many⟩,some ⟨.lst .leaf,.list os'⟩,some ⟨.lst .leaf,.list ms'⟩,some ⟨.lst .leaf,.list ss'⟩,some ⟨.leaf,.int (r:Nat)⟩,x8',x9',none,none]/\Gw many (n+1) os' ms' ss':=by
 obtain ⟨c,hc⟩:=C4 hx (k:=at'+1+(r:Int)) (by omega)
 have lo:=h.lo
 have lm:=h.lm
 have ls:=h.ls
 have c5:∀(Γ:Ev),Γ.length=12->Γ[8]?=some (some ⟨.leaf,.int c⟩)->(aj .leaf 11 (eZ "abc") (aA ag (ax cJ (ar 3 aF (ab (aa 8) (ab (ax bx (eK (.int 1)) (bb (dM "abc") (ab (aa 11) ae))) (ab (eK (.int 2)) ae)))) (eK (.int 1)))) (aa 11)) Γ
   = .ok ⟨.lst .leaf,.list (([0,1,2].filter fun k:Nat=>dA c (1+(k:Int)) 2==1).map oz)⟩ Γ:=fun Γ hl h8=>by
  refine gL oz [0,1,2] (fun k:Nat=>dA c (1+(k:Int)) 2==1) (fun k=>⟨.leaf,oz k⟩) (st:=true) mi (by omega) rfl (by simp) (fun k hk=>?_) fun k hk _=>?_
  ·have g11:(Γ.set 11 (some ⟨.leaf,oz k⟩))[11]?=some (some ⟨.leaf,oz k⟩):=by rw [getElem?_set_self (by omega)]
   have g8:(Γ.set 11 (some ⟨.leaf,oz k⟩))[8]?=some (some ⟨.leaf,.int c⟩):=by rw [getElem?_set_ne (by omega)];exact h8
   exact bJ (ay (cH (az (ao g8) (az (ay aQ (bc (az (ao g11) ak) (sN hk)) qM) (az aQ ak))) (AZ (by omega) (by have:=DL hk;omega) (by omega) (by omega)) rfl rfl) aQ eq_int)
  ·exact ⟨ao (by rw [getElem?_set_self (by omega)]),rfl⟩
 generalize hM:(([0,1,2].filter fun k:Nat=>dA c (1+(k:Int)) 2==1).map oz)=M at c5
 have rM:iD M/\M.length<=30/\Bg (.list M)=true:=by
  refine ⟨?_,?_,?_⟩
  ·rw [<-hM]
   intro a ha;obtain ⟨k,hk,rfl⟩:=List.mem_map.mp ha;have:=DL (List.mem_filter.mp hk).1
   exact ⟨_,rfl,kU (by omega)⟩
  ·rw [<-hM,length_map]
   exact Nat.le_trans (length_filter_le _ _) (by simp)
  ·rw [<-hM]
   simp only [filter_cons,List.filter_nil]
   have:=FV (dA c (1+((0:Nat):Int)) 2==1) (dA c (1+((1:Nat):Int)) 2==1) (dA c (1+((2:Nat):Int)) 2==1)
   revert this
   cases (dA c (1+((0:Nat):Int)) 2==1)<;>cases (dA c (1+((1:Nat):Int)) 2==1)<;>cases (dA c (1+((2:Nat):Int)) 2==1)<;>exact fun h=>h
 have c6:∀(Γ:Ev),Γ.length=12->Γ[8]?=some (some ⟨.leaf,.int c⟩)->Γ[3]?=some (some ⟨.leaf,.int many⟩)->aj .leaf 10 (j5 (ab (aa 3) ae)) (aA ag (ax cJ (ar 3 aF (ab (aa 8) (ab (ax bx (eK (.int 4)) (aa 10)) (ab (ax bx (eK (.int 2)) (bb tq (ab (ax dW (aa 3) (eK (.int 3))) ae))) ae)))) (eK (.int 1)))) (aa 10) Γ
   = .ok ⟨.lst .leaf,.list (((rngD 0 many.toNat).filter fun d=>match d with | .int k=>dA c (4+k) (2+(if decide (3<many) then 1 else 0))==1 | _=>false).map fun d=>d)⟩ Γ:=fun Γ hl h8 h3=>by
  refine iq (c:=fun d=>match d with | .int k=>dA c (4+k) (2+(if decide (3<many) then 1 else 0))==1 | _=>false) (f:=fun d=>⟨.leaf,d⟩) (st:=true) (uM (k:=many) (az (ao h3) ak) rfl (by omega) (by omega)) (by omega) rfl (by rw [C2];omega) (fun d hd=>?_) fun d hd _=>?_
  ·obtain ⟨k,hk,rfl⟩:=Bq hd
   have g10:(Γ.set 10 (some ⟨.leaf,.int (0+(k:Int))⟩))[10]?=some (some ⟨.leaf,.int (0+(k:Int))⟩):=by rw [getElem?_set_self (by omega)]
   have g8:(Γ.set 10 (some ⟨.leaf,.int (0+(k:Int))⟩))[8]?=some (some ⟨.leaf,.int c⟩):=by rw [getElem?_set_ne (by omega)];exact h8
   have g3:(Γ.set 10 (some ⟨.leaf,.int (0+(k:Int))⟩))[3]?=some (some ⟨.leaf,.int many⟩):=by rw [getElem?_set_ne (by omega)];exact h3
   have b1:(1:Int)<=2+(if decide (3<many) then 1 else 0)/\(2:Int)+(if decide (3<many) then 1 else 0)<=1000:=by split<;>omega
   exact bJ (ay (cH (az (ao g8) (az (ay aQ (ao g10) qM) (az (ay aQ (bc (az (ay (ao g3) aQ rfl) ak) rfl) qM) ak))) (AZ (by omega) (by omega) b1.1 b1.2) rfl rfl) aQ eq_int)
  ·obtain ⟨k,hk,rfl⟩:=Bq hd
   exact ⟨ao (by rw [getElem?_set_self (by omega)]),rfl⟩
 obtain ⟨ts,hT,hts1,hts2,hts3⟩:=yD many.toNat (fun d=>match d with | .int k=>dA c (4+k) (2+(if decide (3<many) then 1 else 0))==1 | _=>false)
 rw [hT] at c6;have fin:∀(Γ:Ev) (T:List Int),(T.length<=30/\T≠[]/\(∀t∈T,0<=t/\t<many)/\T.Pairwise (· < ·))->Γ=[some ⟨.leaf,.list xs⟩,some ⟨.leaf,.int at'⟩,some ⟨.leaf,.int lim⟩,some ⟨.leaf,.int many⟩,some ⟨.lst .leaf,.list (os++[.int (dA c 0 2)])⟩,some ⟨.lst .leaf,.list (ms++[.list M])⟩,some ⟨.lst .leaf,.list ss⟩,some ⟨.leaf,.int (r:Nat)⟩,some ⟨.leaf,.int c⟩,some ⟨.leaf,.list (T.map .int)⟩,none,none] ->
   ∃os' ms' ss' x8' x9',gM 6 (aa 9) Γ=.nx [some ⟨.leaf,.list xs⟩,some ⟨.leaf,.int at'⟩,some ⟨.leaf,.int lim⟩,some ⟨.leaf,.int many⟩,some ⟨.lst .leaf,.list os'⟩,some ⟨.lst .leaf,.list ms'⟩,some ⟨.lst .leaf,.list ss'⟩,some ⟨.leaf,.int (r:Nat)⟩,x8',x9',none,none]/\Gw many (n+1) os' ms' ss':=fun Γ T hT2 hΓ=>by
  subst hΓ;refine ⟨os++[.int (dA c 0 2)],ms++[.list M],ss++[.list (T.map .int)],_,_,Bv rfl (ao rfl) rfl (by omega),by simp;omega,by simp;omega,by simp;omega,fun a ha=>?_,fun a ha=>?_,fun a ha=>?_⟩
  ·rcases List.mem_append.mp ha with z | z
   ·exact h.o a z
   ·have:=tG (c:=c) (k:=0) (b:=2) (by omega) (by omega) (by omega) (by omega)
    rw [List.mem_singleton.mp z];rcases (by omega:dA c 0 2=0\/dA c 0 2=1) with e | e
    ·exact .inl (by rw [e])
    ·exact .inr (by rw [e])
  ·rcases List.mem_append.mp ha with z | z
   ·exact h.m a z
   ·exact ⟨M,List.mem_singleton.mp z,rM.1,rM.2.1,by rw [List.mem_singleton.mp z];exact rM.2.2⟩
  ·rcases List.mem_append.mp ha with z | z
   ·exact h.s a z
   ·exact ⟨T,List.mem_singleton.mp z,hT2⟩
 have e1:=dC (i:=8) (cH (fl:=ab (aa 0) (ab (ax bx (ax bx (aa 1) (eK (.int 1))) (aa 7)) ae)) (Γ:=[some ⟨.leaf,.list xs⟩,some ⟨.leaf,.int at'⟩,some ⟨.leaf,.int lim⟩,some ⟨.leaf,.int many⟩,some ⟨.lst .leaf,.list os⟩,some ⟨.lst .leaf,.list ms⟩,some ⟨.lst .leaf,.list ss⟩,some ⟨.leaf,.int (r:Nat)⟩,x8,x9,none,none]) (az (ao rfl) (az (ay (ay (ao rfl) aQ qM) (ao rfl) qM) ak)) hc rfl rfl) rfl (by simp)
 have e2:gM 4 (ar 3 aF (ab (aa 8) (ab (eK (.int 0)) (ab (eK (.int 2)) ae)))) [some ⟨.leaf,.list xs⟩,some ⟨.leaf,.int at'⟩,some ⟨.leaf,.int lim⟩,some ⟨.leaf,.int many⟩,some ⟨.lst .leaf,.list os⟩,some ⟨.lst .leaf,.list ms⟩,some ⟨.lst .leaf,.list ss⟩,some ⟨.leaf,.int (r:Nat)⟩,some ⟨.leaf,.int c⟩,x9,none,none]=_:=
  Bv rfl (cH (az (ao rfl) (az aQ (az aQ ak))) (AZ (by omega) (by omega) (by omega) (by omega)) rfl rfl) rfl (by omega)
 have e3:=Bv (i:=5) (Γ:=[some ⟨.leaf,.list xs⟩,some ⟨.leaf,.int at'⟩,some ⟨.leaf,.int lim⟩,some ⟨.leaf,.int many⟩,some ⟨.lst .leaf,.list (os++[.int (dA c 0 2)])⟩,some ⟨.lst .leaf,.list ms⟩,some ⟨.lst .leaf,.list ss⟩,some ⟨.leaf,.int (r:Nat)⟩,some ⟨.leaf,.int c⟩,x9,none,none]) rfl (c5 _ rfl rfl) rfl (by omega)
 have e4:=dC (i:=9) (Γ:=[some ⟨.leaf,.list xs⟩,some ⟨.leaf,.int at'⟩,some ⟨.leaf,.int lim⟩,some ⟨.leaf,.int many⟩,some ⟨.lst .leaf,.list (os++[.int (dA c 0 2)])⟩,some ⟨.lst .leaf,.list (ms++[.list M])⟩,some ⟨.lst .leaf,.list ss⟩,some ⟨.leaf,.int (r:Nat)⟩,some ⟨.leaf,.int c⟩,x9,none,none]) (c6 _ rfl rfl rfl) rfl (by simp)
 have t:aA ag (ax cJ (aa 9) (br .leaf ae)) [some ⟨.leaf,.list xs⟩,some ⟨.leaf,.int at'⟩,some ⟨.leaf,.int lim⟩,some ⟨.leaf,.int many⟩,some ⟨.lst .leaf,.list (os++[.int (dA c 0 2)])⟩,some ⟨.lst .leaf,.list (ms++[.list M])⟩,some ⟨.lst .leaf,.list ss⟩,some ⟨.leaf,.int (r:Nat)⟩,some ⟨.leaf,.int c⟩,some ⟨.leaf,.list (ts.map .int)⟩,none,none]
   = .ok (decide ((ts.map PyData.int).length=0)) _:=bJ (ay (ao rfl) (nJ (s:=.leaf) ak rfl rfl rfl) (Aq (Bs rowI_map)))
 cases hz:decide ((ts.map PyData.int).length=0) with
 | true=>
  rw [hz] at t;obtain ⟨o',m',s',y8,y9,f1,f2⟩:=fin _ [dA c (4+many) many] ⟨by simp,by simp,fun t ht=>by rw [List.mem_singleton.mp ht];exact tG (by omega) (by omega) (by omega) (by omega),List.pairwise_singleton _ _⟩ rfl
  exact ⟨o',m',s',y8,y9,ai e1 (ai e2 (ai e3 (ai e4 (ai (aO t (fun _=>dC (nJ (s:=.leaf) (az (cH (az (ao rfl) (az (ay aQ (ao rfl) qM) (az (ao rfl) ak))) (AZ (by omega) (by omega) (by omega) (by omega)) rfl rfl) ak) rfl rfl rfl) rfl (by simp)) nofun) f1)))),f2⟩
 | false=>
  rw [hz] at t;obtain ⟨o',m',s',y8,y9,f1,f2⟩:=fin _ ts ⟨by omega,(fun z=>by rw [z] at hz;cases hz),(fun t ht=>by have:=hts1 t ht;omega),hts2⟩ rfl
  exact ⟨o',m',s',y8,y9,ai e1 (ai e2 (ai e3 (ai e4 (ai (aO t nofun (fun _=>rfl)) f1)))),f2⟩
theorem qc {xs:List D} (hx:gJ xs) (ha:0<=at') (hl:1<=lim) (hl2:lim<=24):∃(n:Nat) (os ms ss:List D),dk [.list xs,.int at',.int lim]=.ok ⟨W3,dS os ms ss⟩/\Gw (n:Int) n os ms ss/\1<=n/\(n:Int)<=lim:=by
 obtain ⟨c,hc⟩:=C4 hx (k:=at') ha
 have b0:0<=c % lim:=Int.emod_nonneg _ (by omega)
 have b1:c % lim<lim:=Int.emod_lt_of_pos _ (by omega)
 generalize hmm:1+c % lim=many at *
 have e0:aB false 3 (ax bx (eK (.int 1)) (ax iY (ar 2 ba (ab (aa 0) (ab (aa 1) ae))) (aa 2))) [some ⟨.leaf,.list xs⟩,some ⟨.leaf,.int at'⟩,some ⟨.leaf,.int lim⟩,none,none,none,none,none,none,none,none,none]
   = .nx [some ⟨.leaf,.list xs⟩,some ⟨.leaf,.int at'⟩,some ⟨.leaf,.int lim⟩,some ⟨.leaf,.int many⟩,none,none,none,none,none,none,none,none]:=by
  rw [<-hmm];exact dC (ay aQ (ay (cH (az (ao rfl) (az (ao rfl) ak)) hc rfl rfl) (ao rfl) (h9 (by omega))) qM) rfl (by simp)
 obtain ⟨Γ',e,os,ms,ss,x7,x8,x9,hΓ,hw⟩:=D9 (P:=fun n Γ=>∃os ms ss x7 x8 x9,Γ=[some ⟨.leaf,.list xs⟩,some ⟨.leaf,.int at'⟩,some ⟨.leaf,.int lim⟩,some ⟨.leaf,.int many⟩,some ⟨.lst .leaf,.list os⟩,some ⟨.lst .leaf,.list ms⟩,some ⟨.lst .leaf,.list ss⟩,x7,x8,x9,none,none]/\Gw many n os ms ss) (i:=7) (body:=eW) (rngD 0 many.toNat) 0
  [some ⟨.leaf,.list xs⟩,some ⟨.leaf,.int at'⟩,some ⟨.leaf,.int lim⟩,some ⟨.leaf,.int many⟩,some ⟨.lst .leaf,.list []⟩,some ⟨.lst .leaf,.list []⟩,some ⟨.lst .leaf,.list []⟩,none,none,none,none,none] ⟨[],[],[],none,none,none,rfl,rfl,rfl,rfl,fun a ha=>(nomatch ha),fun a ha=>(nomatch ha),fun a ha=>(nomatch ha)⟩ (fun m d Γ hd h1 h2 ⟨os,ms,ss,x7,x8,x9,hΓ,hw⟩=>by
   subst hΓ;obtain ⟨k,hk,rfl⟩:=Bq hd;rw [C2] at h2;rw [Int.zero_add];obtain ⟨os',ms',ss',y8,y9,f1,f2⟩:=nD (at':=at') (lim:=lim) (many:=many) (x8:=x8) (x9:=x9) hx ha (by omega) (by omega) hw (by omega) (r:=k)
   exact ⟨by simp,_,f1,os',ms',ss',_,y8,y9,rfl,f2⟩)
 subst hΓ;rw [C2,Nat.zero_add] at hw;have en:((many.toNat:Nat):Int)=many:=by omega
 refine ⟨many.toNat,os,ms,ss,aG (ai e0 (ai (mE (nJ (s:=.leaf) ak rfl rfl rfl) rfl (by simp)) (ai (mE (nJ (s:=.leaf) ak rfl rfl rfl) rfl (by simp)) (ai (mE (nJ (s:=.leaf) ak rfl rfl rfl) rfl (by simp)) (ai (bu (uM (k:=many) (az (ao rfl) ak) rfl (by omega) (by omega)) e) (aE (nP (az (xW (p:=⟨.lst .leaf,.list os⟩) rfl) (az (xW (p:=⟨.lst .leaf,.list ms⟩) rfl) (az (xW (p:=⟨.lst .leaf,.list ss⟩) rfl) ak))) rfl rfl) rfl)))))),by rw [en];exact hw,by omega,by omega⟩
end KQ
namespace KC
open PySem PySem.Spec L2 T
open PyProof.Rows hiding St
variable {n:Nat}
noncomputable def du:FS:=(aD (dN (ax (bq true) (aa 0) (eK .none)) (dN (ax (bq true) (aa 1) (eK .none)) (ax ik (aa 0) (aa 1)))))
noncomputable def eC:List PySem.PyData->Res:=aI 2 du
noncomputable def i4:FS:=(aD (aj .leaf 3 (aw (af (af (aa 0) (eK (.int 2))) (aa 2))) (aA aZ (ar 2 eC (ab (af (aa 1) (aa 3)) (ab (af (aa 1) (aa 2)) ae)))) (aa 3)))
noncomputable def cP:List PySem.PyData->Res:=aI 4 i4
noncomputable def ni:FS:=(aD (ar 4 eB (ab (aa 0) (ab (aj .leaf 3 (aw (af (aa 0) (eK (.int 0)))) aH (eK (.bool true))) (ab (aa 1) (ab (aa 2) ae))))))
noncomputable def dg:List PySem.PyData->Res:=aI 4 ni
noncomputable def eh:FS:=(bI (bD (aA aZ (ar 2 cp (ab (aa 1) (ab (bb aK (ab (af (aa 0) (eK (.int 0))) ae)) ae))))) Dm aC)
noncomputable def cQ:List PySem.PyData->Res:=aI 2 eh
noncomputable def ff:FS:=(au (dw (ar 1 ck (ab (aa 0) ae)))
  (au (bI (bD (aA aZ (ar 1 bp (ab (aa 2) ae)))) Dm aC)
  (dw (ar 2 cQ (ab (aa 0) (ab (aa 1) ae))))))
noncomputable def bM:List PySem.PyData->Res:=aI 3 ff
noncomputable def gC:FS:=(aD (ar 3 dg (ab (aa 0) (ab (aa 1) (ab (aj .leaf 3 (aw (aa 1)) (aA ag (ax (aV false) (aa 2) (af (af (aa 0) (eK (.int 1))) (aa 3)))) (aa 3)) ae)))))
noncomputable def aP:List PySem.PyData->Res:=aI 4 gC
open PySem.SeqAt
theorem mj {fl:FL} {Γ:Ev} {s:Sh} (hn:n<=1000) (h:fl Γ=.ok [⟨s,.int (n:Int)⟩] Γ):j5 fl Γ=.ok ⟨(List.range n).map rm,true⟩ Γ:=by
 rw [uM (k:=(n:Int)) h rfl (by omega) (by omega),Int.toNat_natCast,u7]
theorem rms_int {r:List Nat}:r.map rm=(r.map fun t:Nat=>(t:Int)).map PyData.int:=by rw [map_map];rfl
theorem Std.sorted {L:List Nat} (h:Std n L):L.Pairwise (· < ·):=by
 obtain ⟨q,rfl⟩:=h;exact List.Pairwise.filter _ List.pairwise_lt_range
theorem j9 (h24:n<=24) {R:List Nat} (h:Std n R):cp [aq R,.int (n:Int)]=.ok ⟨.leaf,.bool true⟩:=by
 have hl:=h.len
 rw [aq,rms_int,d7 rowI_map (by simp;omega)]
 have h1:((R.map fun t:Nat=>(t:Int)).map PyData.int).all (inR (n:Int))=true:=by
  rw [all_eq_true];intro d hd;obtain ⟨i,hi,rfl⟩:=List.mem_map.mp hd;obtain ⟨t,ht,rfl⟩:=List.mem_map.mp hi;have:=h.lt t ht
  simp [inR]
  omega
 have h2:dF ((R.map fun t:Nat=>(t:Int)).map PyData.int)=true:=Ei (by
  rw [pairwise_map];exact h.sorted.imp fun h=>by omega)
 rw [h1,h2];rfl
theorem gB {w:Wd} (ok:w.Ok) {R:List Nat} (h:Std w.n R):cQ [w.enc,aq R]=.ok ⟨.leaf,.none⟩:=by
 have lo:=ok.g.lo
 have:=j9 ok.h24 h
 refine sA (Γ:=bh 2 [w.enc,aq R]) ?_
 simp [eh,bh,Wd.enc,dS,lo,this]
theorem w9 {w:Wd} (ok:w.Ok) (r:Nat):∀x∈w.mks r,PyData.strOk x=true:=fun x hx=>by
 unfold Wd.mks at hx;rw [getD_eq_getElem?_getD] at hx
 cases e:w.m[r]? with
 | none=>rw [e] at hx;simp at hx
 | some l=>rw [e] at hx;exact ok.mc _ (mem_of_getElem? e) x hx
theorem RightG.congr {st:Nat->List Nat} {ch ch':Nat->Bool} {thr goal:List Nat} {rk:List (Option Nat)} (h:RightG n st ch thr goal rk) (e:∀r,r<n->ch r=ch' r):RightG n st ch' thr goal rk:=
 ⟨h.len,h.g,fun r k hr hg hk=>by rw [<-e r hr];exact h.p r k hr hg hk,fun r hr hz=>by rw [<-e r hr];exact h.z r hr hz⟩
end KC
namespace T
open PySem PySem.Spec L2
open PyProof.Rows hiding St
variable {elts:List Expr} {pos:Pos} {kt:Nat}
def F9 (K:Fg) (a b:Addr):It:=
 ⟨fun i H=>∃xs ys x y,SqL K H a xs/\SqL K H b ys/\xs[i]?=some x/\ys[i]?=some y,fun i H x H'=>∃T v w,x=.ref T/\H T=none/\H'=bA H T (.tup [v,w])/\∀xs ys,SqL K H a xs->SqL K H b ys->xs[i]?=some v/\ys[i]?=some w,fun i H=>∃xs ys,SqL K H a xs/\SqL K H b ys/\i=min xs.length ys.length⟩
theorem rf {P:Program} {w:World} {K:Fg} {k:Nat} (a b z TI TO i1 i2:Addr) (D:ZipApart z TI TO i1 i2 a b) :
  qv P w K (.Tuple elts k pos) (F9 K a b) [z,TI,TO,i1,i2] z (fun i h=>IsZip h z TI TO .none/\IsPair h TI (.ref i1) (.ref i2)/\(∃a b,IsPair h TO a b)/\h.IsListIter i1 a i/\h.IsListIter i2 b i) where
 mem:=by simp
 obj:=fun i h st c hc=>by
  obtain ⟨hz,hTI,⟨u,v,hTO⟩,⟨o1,e1,c1,d1⟩,⟨o2,e2,c2,d2⟩⟩:=st;simp only [mem_cons,not_mem_nil,or_false] at hc
  rcases hc with rfl | rfl | rfl | rfl | rfl
  ·exact ⟨_,hz,fun v z=>by
    have z':Data.fields _=Data.cell v:=z
    cases z'⟩
  ·exact ⟨_,hTI,fun v z=>by
    have z':Data.seq _ _=Data.cell v:=z
    cases z'⟩
  ·exact ⟨_,hTO,fun v z=>by
    have z':Data.seq _ _=Data.cell v:=z
    cases z'⟩
  ·exact ⟨o1,e1,fun v z=>by rw [d1] at z;cases z⟩
  ·exact ⟨o2,e2,fun v z=>by rw [d2] at z;cases z⟩
 keep:=fun i h h' st kk=>by
  obtain ⟨hz,hTI,⟨u,v,hTO⟩,h1,h2⟩:=st;exact ⟨kk z (by simp) _ hz,kk TI (by simp) _ hTI,⟨u,v,kk TO (by simp) _ hTO⟩,h1.at fun o q=>kk i1 (by simp) o q,h2.at fun o q=>kk i2 (by simp) o q⟩
 item:=by
  intro X hP hw hK hc i pins s U H E I hf st hg;subst hP hw hK;obtain ⟨xs,ys,x,y,hq,hq2,hx,hy⟩:=hg;obtain ⟨its,rv,p,hz⟩:=I.list hq;obtain ⟨its2,rv2,p2,hz2⟩:=I.list hq2;obtain ⟨u,hu,ru⟩:=rv.get hx;obtain ⟨u2,hu2,ru2⟩:=rv2.get hy;have W:=WalksT.zip2 (prog:=X.prog) (w:=X.w) (A:=X.A) (I.ok.hd hc) z TI TO i1 i2 a b D its.toArray its2.toArray
  have hil:i<min its.toArray.size its2.toArray.size:=by
   have h1:=(List.getElem?_eq_some_iff.mp hu).1
   have h2:=(List.getElem?_eq_some_iff.mp hu2).1
   rw [size_toArray,size_toArray];omega
  refine W.item i s _ _ hil ⟨st.1,st.2.1,st.2.2.1,st.2.2.2.1,st.2.2.2.2,p.isList,p2.isList⟩ fun T vals h' tk hv hT hTT hMid kk=>?_
  obtain ⟨y1,y2,e1,e2,rfl⟩:=hv;have ey:y1=u:=by
   rw [getElem?_toArray,hu] at e1;exact (Option.some.inj e1).symm
  have ey2:y2=u2:=by
   rw [getElem?_toArray,hu2] at e2;exact (Option.some.inj e2).symm
  subst ey ey2;refine ⟨.ref T,rfl,W.go elts k pos i T _ _ _ hMid fun h2 st2 kk2=>?_⟩
  have hTn:H T=none:=I.hok.fresh hT
  have hTw:T∉[z,TO,i1,i2]:=W.apart i T _ hMid
  have sub:∀c∈[z,TO,i1,i2],c∈[z,TI,TO,i1,i2]:=fun c hc=>by
   simp only [mem_cons,not_mem_nil,or_false] at hc ⊢
   rcases hc with h | h | h | h<;>simp [h]
  have kAll:∀c o,c∉[z,TI,TO,i1,i2]->s.heap.get? c=some o->h2.get? c=some o:=fun c o hb q=>kk2 c o (fun q=>hb (sub c q)) (kk c o (fun q=>hb (sub c q)) q)
  have I1:L2.Inv X pins U H { s with heap:=h2,toks:=tk }:=Inv.turnedL I kAll hf
  have tT:h2.IsTuple T #[y1,y2]:=by
   obtain ⟨o,q1,q2⟩:=hTT;exact ⟨o,kk2 T o hTw q1,q2⟩
  have hvs:Vals [x,y] [y1,y2]:=.cons ru (.cons ru2 .nil)
  have I3:L2.Inv X pins U (bA H T (.tup [x,y])) { s with heap:=h2,toks:=tk }:=Inv.turnedT (t':=tk) I kAll hf hT ⟨by show 2<=sizeLine;decide,[y1,y2],hvs,(show IsTup h2 T _ from tT)⟩
  have hTI:T≠TI:=fun q=>by
   have:=Heap.lt_size st.2.1
   rw [<-q] at this;exact absurd (Nat.lt_of_lt_of_le this hT) (Nat.lt_irrefl _)
  refine ⟨.ref T,bA H T (.tup [x,y]),I3,rfl,⟨T,x,y,rfl,hTn,rfl,fun xs' ys' h1 h2=>by rw [I.list_inj h1 hq,I.list_inj h2 hq2];exact ⟨hx,hy⟩⟩,⟨st2.1,st2.2.1,st2.2.2.1,st2.2.2.2.1,st2.2.2.2.2.1⟩,fun c hb=>?_⟩
  have hbT:c≠T:=fun q=>by
   subst q;simp only [mem_cons,not_mem_nil,or_false] at hb hTw
   rcases hb with h | h | h | h | h
   ·exact hTw (.inl h)
   ·exact hTI h
   ·exact hTw (.inr (.inl h))
   ·exact hTw (.inr (.inr (.inl h)))
   ·exact hTw (.inr (.inr (.inr h)))
  rw [dB hbT];exact (hf c hb).1
 done:=by
  intro X hP hw hK hc i pins s U H E I hf st hg;subst hP hw hK;obtain ⟨xs,ys,hq,hq2,hx⟩:=hg;obtain ⟨its,rv,p,hz⟩:=I.list hq;obtain ⟨its2,rv2,p2,hz2⟩:=I.list hq2;have W:=WalksT.zip2 (prog:=X.prog) (w:=X.w) (A:=X.A) (I.ok.hd hc) z TI TO i1 i2 a b D its.toArray its2.toArray
  have hi:i=min its.toArray.size its2.toArray.size:=by
   rw [size_toArray,size_toArray,<-rv.length,<-rv2.length];exact hx
  subst hi;refine W.done s _ _ ⟨st.1,st.2.1,st.2.2.1,st.2.2.2.1,st.2.2.2.2,p.isList,p2.isList⟩ fun h' tk hk=>⟨rfl,Inv.turnedL (t':=tk) I (fun c o hb q=>hk c o (fun y=>hb ?_) q) hf⟩
  simp only [mem_cons,not_mem_nil,or_false] at y ⊢
  rcases y with h | h | h | h<;>simp [h]
 self:=fun _ _ _ _ _ st h=>wpAny_pyIter_zip st.1 h
def Cs (K:Fg) (ta:TA):TI:=fun U H R=>ta U H fun vs H1=>∃a b,vs=[.ref a,.ref b]/\(∃xs,SqL K H1 a xs)/\(∃ys,SqL K H1 b ys)/\R (F9 K a b) H1
theorem boot_zip:bootBuiltins "zip"=some (.type "zip"):=by decide +kernel
theorem ze {X:Cx} {ptg:Pos} {l m:Expr} {ta:TA} {p:Pos} (hg:Gl X "zip") (hm:X.mg "zip"=none) (ha:PA X [l,m] ta) (hs:starEach [l,m] X.env=(false,eval l X.env)::starEach [m] X.env) (hpl:(backTo pos (starEach [m] X.env)).any (·.1)=false) :
  PI X (.Tuple elts kt ptg) (.Call (.Name "zip" p) [l,m] [] pos) (Cs X.K ta):=by
 intro pins s U H R I h;refine Call_ (wZ I hg hm boot_zip (PyProof.Rows.callWith_type1 (bP (ha pos pins s U H _ I h) fun us s1 ⟨vs,H1,I1,r1,q1⟩=>?_) hs hpl))
 obtain ⟨a,b,e,⟨xs,hq⟩,⟨ys,hq2⟩,q⟩:=q1;subst e;obtain ⟨u1,u2,rfl,ru,ru2⟩:∃u1 u2,us=[u1,u2]/\RelV (.ref a) u1/\RelV (.ref b) u2:=by
  cases r1 with
  | cons p q=>
   cases q with
   | cons p' q'=>
    cases q'
    exact ⟨_,_,rfl,p,p'⟩
 cases ru
 cases ru2;obtain ⟨its,rv,pl,hz⟩:=I1.list hq;obtain ⟨its2,rv2,pl2,hz2⟩:=I1.list hq2;refine call_zip_2 pl.isList pl2.isList fun h' hZ hTI hTO hi1 hi2 hsz hk=>?_
 have ha1:a<s1.heap.objs.size:=by
  obtain ⟨o,q1,_⟩:=pl.isList;exact Heap.lt_size q1
 have hb1:b<s1.heap.objs.size:=by
  obtain ⟨o,q1,_⟩:=pl2.isList;exact Heap.lt_size q1
 refine wpAny_pyIter_zip (s:={ s1 with heap:=h' }) hZ ?_
 have I2:L2.Inv X pins U H1 { s1 with heap:=h' }:=I1.kept (t':=s1.toks) hk
 have D:ZipApart (s1.heap.objs.size+4) (s1.heap.objs.size+2) (s1.heap.objs.size+3) s1.heap.objs.size (s1.heap.objs.size+1) a b:=by
  constructor<;>first | exact Nat.ne_of_lt (by omega) | exact Nat.ne_of_gt (by omega) | exact Nat.ne_of_lt (Nat.lt_of_lt_of_le ha1 (by omega)) | exact Nat.ne_of_lt (Nat.lt_of_lt_of_le hb1 (by omega))
 refine ⟨s1.heap.objs.size+4,[s1.heap.objs.size+4,s1.heap.objs.size+2,s1.heap.objs.size+3,s1.heap.objs.size,s1.heap.objs.size+1],_,F9 X.K a b,H1,rfl,I2,rf a b _ _ _ _ _ D,⟨hZ,hTI,⟨_,_,hTO⟩,hi1,hi2⟩,fun c hb=>?_,q⟩
 simp only [mem_cons,not_mem_nil,or_false] at hb
 have hb2:s1.heap.objs.size<=c:=by
  rcases hb with z | z | z | z | z<;>rw [z]<;>first | exact Nat.le_add_right _ _ | exact Nat.le_refl _
 exact I1.fpOk hb2 (I1.hok.fresh hb2)
def xi (i j:Nat) (fc:FB) (fe:F1) (s:Sh):List (PySem.PyData×PySem.PyData)->Ev->List PySem.PyData->Out (List PySem.PyData)
 | [],Γ,acc=>.ok acc Γ
 | (d,d2)::r,Γ,acc=>match fc ((Γ.set i (some ⟨.leaf,d⟩)).set j (some ⟨.leaf,d2⟩)) with
  | .ok true Γ1=>(match fe Γ1 with
   | .ok p Γ2=>if T.coer s p&&decide (acc.length<sizeLine) then xi i j fc fe s r ((Γ2.set i none).set j none) (acc++[p.d]) else .no
   | _=>.no)
  | .ok false Γ1=>if acc.length<sizeLine then xi i j fc fe s r ((Γ1.set i none).set j none) acc else .no
  | _=>.no
def qH (s:Sh) (i j:Nat) (fc:FB) (fe:F1) (ps:List PV) (Γ1:Ev):Out PV:=match ps with
 | [⟨s1,.list ds⟩,⟨s2,.list ds2⟩]=>if dO ⟨s1,.list ds⟩ ds&&dO ⟨s2,.list ds2⟩ ds2&&decide (ds.length=ds2.length)&&xj Γ1[i]?&&xj Γ1[j]?&&!s.isView then (match xi i j fc fe s (ds.zip ds2) Γ1 [] with
  | .ok ds Γ2=>.ok ⟨.lst s,.list ds⟩ Γ2
  | _=>.no) else .no
 | _=>.no
def xZ (s:Sh) (i j:Nat) (fl:FL) (fc:FB) (fe:F1):F1:=fun Γ=>(fl Γ).bind (qH s i j fc fe)
section
variable {K:Fg} {W:XW} {U:St} {H:Hp} {Q:VK} {fl:FL} {fe:F1} {fc:FB} {s:Sh} {i j:Nat}
theorem rP (hij:i≠j) (h:tE K W (xZ s i j fl fc fe) U H Q):kA [i,j] (Cs K (tA K W fl)) (Ad K 2 (oI (gName i) (oI (gName j) Ae))) (tT K W0 fc) (tE K W0 fe) U H Q:=by
 obtain ⟨He,O,Fs,Γ,E,h⟩:=h;refine ⟨He,O,Fs,Γ,E,?_⟩
 unfold xZ at h
 cases e:fl Γ with
 | er c Γ1=>rw [e] at h;exact h
 | no=>rw [e] at h;exact h
 | ok ps Γ1=>
  rw [e] at h;intro us H1 Gs0 Fs1 A;have hz:Wants K W He O Fs H U Q (qH s i j fc fe ps Γ1):=h
  clear h;unfold qH at hz;split at hz
  case h_2=>exact hz.elim
  rename_i s1 ds s2 ds2;have h:=hz
  clear hz;by_cases hn:(dO ⟨s1,.list ds⟩ ds&&dO ⟨s2,.list ds2⟩ ds2&&decide (ds.length=ds2.length)&&xj Γ1[i]?&&xj Γ1[j]?&&!s.isView)=true
  case neg=>rw [if_neg hn] at h;exact h.elim
  rw [if_pos hn] at h;simp only [Bool.and_eq_true,Bool.not_eq_true',decide_eq_true_eq] at hn
  obtain ⟨⟨⟨⟨⟨hc1,hc2⟩,hdl⟩,hni⟩,hnj⟩,hsv⟩:=hn;have hni:=ic hni
  have hnj:=ic hnj
  match us,A.len1,Gs0,A.len2,A with
  | [v1,v2],_,[G1,G2],_,A=>
    cases eg:xi i j fc fe s (ds.zip ds2) Γ1 [] with
    | er c Γ'=>rw [eg] at h;exact h.elim
    | no=>rw [eg] at h;exact h.elim
    | ok ds' Γ2=>
     rw [eg] at h;have h:Wants K W He O Fs H U Q (.ok ⟨.lst s,.list ds'⟩ Γ2):=h
     have nd0:=A.env.nd
     have dis:∀a∈[G1,G2].flatten,a∉O++Fs1.flatten:=fun a ha z=>by
      obtain ⟨n1,n2,n3⟩:=List.nodup_append.mp nd0;rcases List.mem_append.mp z with y | y
      ·exact (List.nodup_append.mp n1).2.2 a ha a y rfl
      ·exact n3 a (mem_append_left _ ha) a y rfl
     have sub:∀a∈O++Fs1.flatten,a∈[G1,G2].flatten++O++Fs1.flatten:=fun a ha=>by
      rcases List.mem_append.mp ha with z | z
      ·exact mem_append_left _ (mem_append_right _ z)
      ·exact mem_append_right _ z
     obtain ⟨p,vs,rfl,hq,hst,hr⟩:=(A.own 0 v1 _ G1 rfl rfl rfl).items (O':=O++Fs1.flatten) hc1 sub (fun a ha=>dis a (by simp [ha]))
     obtain ⟨p2,vs2,rfl,hq2,hst2,hr2⟩:=(A.own 1 v2 _ G2 rfl rfl rfl).items (O':=O++Fs1.flatten) hc2 sub (fun a ha=>dis a (by simp [ha]))
     have E1:EnvOk K He O Fs1 H1 U Γ1:=A.env.dropL
     have hlen:vs.length=ds.length:=hr.1
     have hlen2:vs2.length=ds2.length:=hr2.1
     have hi:i<Γ1.length:=(List.getElem?_eq_some_iff.mp hni).1
     have hj:j<Γ1.length:=(List.getElem?_eq_some_iff.mp hnj).1
     refine ⟨p,p2,rfl,⟨vs,hq⟩,⟨vs2,hq2⟩,fun A0 hD=>?_⟩
     have hHeD:He A0=none:=E1.same.free hD
     have E0':EnvOk K He (A0::([]:List (List Addr)).flatten++O) Fs1 (bA H1 A0 (.lst [])) (bt [i,j] U) Γ1:=
      (E1.blank2 hni hnj).hide (G:=[A0]) (fE hD) (by simp) (fun a ha=>by simp at ha;rw [ha];exact hD) (fun a ha=>by simp at ha;rw [ha,fL];exact Option.some_ne_none _)
     refine ⟨fun k m ys H'=>m=vs.length-k/\k<=vs.length/\∃Γk Fk Gs acc,CO K He O Fs1 H1 U i j s A0 Γ1.length ys H' Γk Fk Gs acc/\xi i j fc fe s ((ds.zip ds2).drop k) Γk acc=.ok ds' Γ2,⟨vs.length,by simp,Nat.zero_le _,Γ1,Fs1,[],[],⟨E0',fE hD,fL,fun a ha=>.inl (by simpa using ha),rfl,rfl,fun m v d G h1=>by simp at h1,rfl⟩,by simpa using eg⟩,?_⟩
     rintro k m ys H' ⟨rfl,hk,Γk,Fk,Gs,acc,g,eg'⟩
     refine ⟨g.at_,?_⟩
     have hPk:SqL K H' p vs:=g.same.seq hq
     have hPk2:SqL K H' p2 vs2:=g.same.seq hq2
     by_cases hlt:k<vs.length
     case neg=>
      left
      have:(ds.zip ds2).drop k=[]:=List.drop_eq_nil_of_le (by rw [List.length_zip];omega)
      rw [this] at eg';have eg'':(Out.ok acc Γk:Out (List PySem.PyData))=.ok ds' Γ2:=eg'
      injection eg'' with e1 e2
      subst e1;subst e2;refine ⟨⟨vs,vs2,hPk,hPk2,by omega⟩,?_⟩
      obtain ⟨n1',_,n3'⟩:=List.nodup_append.mp g.env.ndO;refine h (.ref A0) H' (A0::Gs.flatten) Fk ⟨A.same.trans g.same,g.env.unblank2,fun a ha=>?_,?_⟩
      ·have up:a∈Fs1.flatten\/H1 a=none->a∈Fs.flatten\/H a=none:=fun z=>z.elim (fun y=>A.new a (mem_append_right _ y)) fun y=>.inr (A.same.free y)
       rcases List.mem_append.mp ha with z | z
       ·rcases List.mem_cons.mp z with z | z
        ·exact up (.inr (by rw [z];exact hD))
        ·exact up (g.new a (mem_append_left _ z))
       ·exact up (g.new a (mem_append_right _ z))
      ·exact .lst hsv g.at_ g.l1 g.l2 n1' fun m v d G h1 h2 h3=>g.own m v d G h1 h2 h3
     case pos=>
      right
      have hv:vs[k]?=some vs[k]:=getElem?_eq_getElem hlt
      have hkd:k<ds.length:=by omega
      have hd:ds[k]?=some ds[k]:=getElem?_eq_getElem hkd
      have hv2:vs2[k]?=some (vs2[k]'(by omega)):=getElem?_eq_getElem _
      have hd2:ds2[k]?=some (ds2[k]'(by omega)):=getElem?_eq_getElem _
      have hdr:(ds.zip ds2).drop k=(ds[k],ds2[k]'(by omega))::(ds.zip ds2).drop (k+1):=by
       rw [List.drop_eq_getElem_cons (by rw [List.length_zip];omega),List.getElem_zip]
      rw [hdr] at eg';generalize hdk:ds[k]=d at hd eg'
      generalize hvk:vs[k]=v at hv
      generalize hdk2:ds2[k]'(by omega)=d2 at hd2 eg'
      generalize hvk2:vs2[k]'(by omega)=w2 at hv2
      simp only [xi] at eg'
      have hik:i<Γk.length:=by rw [g.len];exact hi
      have hjk:j<Γk.length:=by rw [g.len];exact hj
      have hsl:ys.length<sizeLine:=by
       rw [g.l1]
       cases ec:fc ((Γk.set i (some ⟨.leaf,d⟩)).set j (some ⟨.leaf,d2⟩)) with
       | no=>rw [ec] at eg';cases eg'
       | er c Γ'=>rw [ec] at eg';cases eg'
       | ok b Γa=>
        rw [ec] at eg'
        cases b with
        | false=>
         dsimp only at eg'
         split at eg'
         ·assumption
         ·cases eg'
        | true=>
         dsimp only at eg'
         split at eg'
         ·split at eg'
          ·rename_i z
           simp only [Bool.and_eq_true,decide_eq_true_eq] at z
           exact z.2
          ·cases eg'
         ·cases eg'
      refine ⟨⟨vs,vs2,v,w2,hPk,hPk2,hv,hv2⟩,hsl,?_⟩
      rintro x Hx ⟨T,v',u',rfl,hTn,rfl,hv'⟩
      have ev:v'=v:=Option.some.inj ((hv' vs vs2 hPk hPk2).1.symm.trans hv)
      subst ev;have eu:u'=w2:=Option.some.inj ((hv' vs vs2 hPk hPk2).2.symm.trans hv2)
      subst eu;refine ⟨T,[v',u'],rfl,.of fL,rfl,v',[u'],rfl,u',[],rfl,rfl,?_⟩
      have sT:Same H' (bA H' T (.tup [v',u'])):=fE hTn
      have Eg:=g.env.grow sT
      have reps:∀(x:V) (e:PySem.PyData),Rep K (cF H1 (O++Fs1.flatten)) x e->Rep K (cF (bA H' T (.tup [v',u'])) (A0::Gs.flatten++O++Fk.flatten)) x e:=fun x e hxe=>hxe.mono (ug (g.same.trans sT) fun a ha=>by
       rcases List.mem_append.mp ha with z | z
       ·rcases List.mem_append.mp z with z | z
        ·rcases List.mem_cons.mp z with z | z
         ·rw [z];exact .inr hD
         ·exact (g.new a (mem_append_left _ z)).elim (fun y=>.inl (mem_append_right _ y)) .inr
        ·exact .inl (mem_append_left _ z)
       ·exact (g.new a (mem_append_right _ z)).elim (fun y=>.inl (mem_append_right _ y)) .inr)
      have rep:=reps _ _ (hr.2 k v' d hv hd)
      have rep2:=reps _ _ (hr2.2 k u' d2 hv2 hd2)
      have lF:Fk.length=Γk.length:=g.env.len2
      have Ep:=EnvOk.put (G:=[]) (i:=i) (p:=⟨.leaf,d⟩) (v:=v') Eg (.leaf rep) rfl (fun a ha=>by simp at ha) hik
      have fk:∀a∈(Fk.set i []).flatten,a∈Fk.flatten:=fun a ha=>lJ (by omega) ha
      have Eq:=EnvOk.put (G:=[]) (i:=j) (p:=⟨.leaf,d2⟩) (v:=u') Ep (.leaf (rep2.mono (ug (Same.refl _) fun a ha=>.inl (by
       rcases List.mem_append.mp ha with z | z
       ·exact mem_append_left _ z
       ·exact mem_append_right _ (fk a z))))) rfl (fun a ha=>by simp at ha) (by rw [length_set];exact hjk)
      have fkk:∀a∈((Fk.set i []).set j []).flatten,a∈Fk.flatten:=fun a ha=>fk a (lJ (by rw [length_set];omega) ha)
      refine ⟨⟨by rw [length_set,length_set],fun m u hm=>?_⟩,?_⟩
      ·have:=(C6 hm).1
       simp only [mem_cons,not_mem_nil,or_false,not_or] at this
       rw [getElem?_set_ne (Ne.symm this.2),getElem?_set_ne (Ne.symm this.1)];exact hm
      refine ⟨He,_,_,_,Eq,?_⟩
      cases ec:fc ((Γk.set i (some ⟨.leaf,d⟩)).set j (some ⟨.leaf,d2⟩)) with
      | no=>rw [ec] at eg';cases eg'
      | er c Γ'=>rw [ec] at eg';cases eg'
      | ok b Γa=>
       rw [ec] at eg';intro H3 Fs3 s3' E3 n3
       have s3:Same H' H3:=sT.trans s3'
       have lena:Γa.length=Γ1.length:=by
        have:=E3.len1
        rw [length_set,length_set,xl,E1.len1] at this;exact this.symm
       have n3':∀a∈Fs3.flatten,a∈Fs1.flatten\/H1 a=none:=fun a ha=>(n3 a ha).elim (fun z=>g.new a (mem_append_right _ (fkk a z))) fun z=>.inr (g.same.free (sT.free z))
       have n3k:∀a∈Fs3.flatten,a∈Fk.flatten\/H' a=none:=fun a ha=>(n3 a ha).elim (fun z=>.inl (fkk a z)) fun z=>.inr (sT.free z)
       cases b with
       | false=>
        dsimp only at eg'
        split at eg'
        case isFalse=>cases eg'
        refine j4 ⟨vs.length-(k+1),by omega,rfl,hlt,(Γa.set i none).set j none,Fs3,Gs,acc,⟨E3.forget2,g.same.trans s3,s3 _ _ g.at_,fun a ha=>?_,g.l1,g.l2,fun m v d G h1 h2 h3=>(g.own m v d G h1 h2 h3).mono s3 fun a ha=>?_,by rw [length_set,length_set];exact lena⟩,eg'⟩
        ·rcases List.mem_append.mp ha with z | z
         ·exact g.new a (mem_append_left _ z)
         ·exact n3' a z
        ·rcases List.mem_append.mp ha with z | z
         ·exact .inl (mem_append_left _ z)
         ·exact (n3k a z).elim (fun y=>.inl (mem_append_right _ y)) .inr
       | true=>
        refine j3 ⟨He,_,_,_,E3,?_⟩
        dsimp only at eg'
        cases ee:fe Γa with
        | no=>rw [ee] at eg';cases eg'
        | er c Γ'=>rw [ee] at eg';cases eg'
        | ok p Γb=>
         rw [ee] at eg';dsimp only at eg'
         split at eg'
         case isFalse=>cases eg'
         rename_i hco;simp only [Bool.and_eq_true,decide_eq_true_eq] at hco
         obtain ⟨hco,_⟩:=hco;intro u H4 G Fs4 A4;have lenb:Γb.length=Γ1.length:=by
          have:=A4.env.len1
          rw [length_set,length_set,xl,E1.len1] at this;exact this.symm
         have at4:H4 A0=some (.lst ys):=A4.same _ _ (s3 _ _ g.at_)
         have s14:Same H1 H4:=(g.same.trans s3).trans A4.same
         have new4:∀a∈G++Fs4.flatten,a∈Fs1.flatten\/H1 a=none:=fun a ha=>(A4.new a ha).elim (n3' a) fun z=>.inr ((g.same.trans s3).free z)
         have hG':∀a∈aJ s G,a∈G:=fun a ha=>EC ha
         obtain ⟨k1,k2,k3⟩:=List.nodup_append.mp A4.env.ndO;have ndk:(aJ s G).Nodup:=by
          cases s<;>first | exact nodup_nil | exact k1
         have pmO:(A0::(Gs++[aJ s G]).flatten++O).Perm (aJ s G++(A0::Gs.flatten++O)):=by
          rw [uI];show (A0::((Gs.flatten++aJ s G)++O)).Perm _
          refine List.Perm.trans ?_ List.perm_middle.symm
          refine List.Perm.cons _ ?_
          rw [append_assoc];exact kS _ _ _
         have E5:EnvOk K He (aJ s G++(A0::Gs.flatten++O)) Fs4 H4 (((bt [i,j] U).set i (some v')).set j (some u')) Γb:=A4.env.drop (fun a ha=>by
          rcases List.mem_append.mp ha with z | z
          ·exact mem_append_left _ (hG' a z)
          ·exact mem_append_right _ z) (List.nodup_append.mpr ⟨ndk,k2,fun a ha b hb=>k3 a (hG' a ha) b hb⟩)
         have E6:=(E5.perm pmO).forget2
         have hDin:A0∈A0::(Gs++[aJ s G]).flatten++O:=mem_cons_self
         have E7:=E6.mutO (o:=.lst (ys++[u])) hDin at4 hHeD
         have subH:∀a∈A0::(Gs++[aJ s G]).flatten++O++Fs4.flatten,a∈G++(A0::Gs.flatten++O)++Fs4.flatten:=fun a ha=>by
          rcases List.mem_append.mp ha with z | z
          ·rcases List.mem_append.mp (pmO.mem_iff.mp z) with y | y
           ·exact mem_append_left _ (mem_append_left _ (hG' a y))
           ·exact mem_append_left _ (mem_append_right _ y)
          ·exact mem_append_right _ z
         have Dnot:∀{m:Nat} {Gj:List Addr},Gs[m]?=some Gj->A0∉Gj:=fun {m Gj} hj z=>by
          have nd:=g.env.ndO
          exact (List.nodup_cons.mp nd).1 (mem_append_left _ (ja hj z))
         refine ⟨at4,vs.length-(k+1),by omega,rfl,hlt,(Γb.set i none).set j none,Fs4,Gs++[aJ s G],acc++[p.d],⟨E7,fun b o hb=>?_,fL,fun a ha=>?_,by simp [g.l1],by simp [g.l2],fun m w d' G' h1 h2 h3=>?_,by rw [length_set,length_set];exact lenb⟩,eg'⟩
         ·rw [dB (uj hb hD)]
          exact s14 b o hb
         ·rcases List.mem_append.mp ha with z | z
          ·rw [uI] at z
           rcases List.mem_append.mp z with z | z
           ·exact g.new a (mem_append_left _ z)
           ·exact new4 a (mem_append_left _ (hG' a z))
          ·exact new4 a (mem_append_right _ z)
         ·by_cases hm:m<ys.length
          ·rw [getElem?_append_left hm] at h1
           rw [getElem?_append_left (by rw [<-g.l1];exact hm)] at h2
           rw [getElem?_append_left (by rw [g.l2,<-g.l1];exact hm)] at h3
           have o1:=g.own m w d' G' h1 h2 h3
           have o2:=o1.mono (O':=A0::(Gs++[aJ s G]).flatten++O++Fs4.flatten) (s3.trans A4.same) fun a ha=>by
            have up:a∈G++Fs4.flatten->a∈A0::Gs.flatten++O++Fk.flatten\/H' a=none:=fun z=>(A4.new a z).elim (fun y=>(n3k a y).elim (fun y=>.inl (mem_append_right _ y)) .inr) fun y=>.inr (s3.free y)
            rcases List.mem_append.mp (subH a ha) with z | z
            ·rcases List.mem_append.mp z with z | z
             ·exact up (mem_append_left _ z)
             ·exact .inl (mem_append_left _ z)
            ·exact up (mem_append_right _ z)
           exact o2.mut hsv (mem_append_left _ hDin) (Dnot h3) at4
          ·have hm':m=ys.length:=by
            have:=(List.getElem?_eq_some_iff.mp h1).1
            rw [length_append,length_singleton] at this;omega
           subst hm'
           rw [getElem?_append_right (Nat.le_refl _),Nat.sub_self] at h1;rw [getElem?_append_right (by rw [g.l1];exact Nat.le_refl _),show ys.length-acc.length=0 by rw [g.l1];exact Nat.sub_self _] at h2
           rw [getElem?_append_right (by rw [g.l2,g.l1];exact Nat.le_refl _),show ys.length-Gs.length=0 by rw [g.l2,g.l1];exact Nat.sub_self _] at h3
           cases h1
           cases h2
           cases h3;have o3:=A4.own.coer (s:=s) (O':=A0::(Gs++[aJ s G]).flatten++O++Fs4.flatten) hco subH fun a ha hO=>by
            cases s with
            | leaf=>
             exfalso
             have hO':a∈(A0::Gs.flatten++O)++Fs4.flatten:=by
              rw [uI] at hO;simpa [aJ] using hO
             rcases List.mem_append.mp hO' with z | z
             ·exact k3 a ha a z rfl
             ·have nd:=A4.env.nd
              exact (List.nodup_append.mp nd).2.2 a (mem_append_left _ ha) a z rfl
            | view=>cases hsv
            | lst s=>exact ha
            | tup ss=>exact ha
           refine o3.mut hsv (mem_append_left _ hDin) (fun z=>?_) at4
           exact k3 A0 (hG' A0 z) A0 mem_cons_self rfl
end
section
variable {X:Cx} {N gl:List Str} {vs cs ls lo gs:List Nat} {W:XW} {a b:Expr} {pos p:Pos} {fl:FL}
theorem coZ {scope:Scope} {x y:Str} {px py pt cpos:Pos} {elt:Expr} {ifs:List Expr} {fe:F1} {fc:FB} {vs' cs' lo' gs':List Nat} (S:Cp X N gl vs cs ls lo gs) (s:Sh) (i j k:Nat) (hij:(i != j)=true) (hx:N[i]?=some x) (hy:N[j]?=some y) (hk:gl[k]?=some ("zip":Str)) (hg:gs.contains k=true) (hm:X.mg "zip"=none)
  (h1:CQ N [i,j] cs scope=true) (h2:oN N gl vs' cs' [i,j] lo' gs' scope=true) (ha:PA X [a,b] (tA X.K W fl)) (hs1:starEach [a,b] X.env=(false,eval a X.env)::starEach [b] X.env) (hpl:(backTo cpos (starEach [b] X.env)).any (·.1)=false)
  (hc:my X N gl vs' cs' [i,j] lo' gs' fun Y=>PF Y ifs (tT Y.K W0 fc)) (he:my X N gl vs' cs' [i,j] lo' gs' fun Y=>PE Y elt (tE Y.K W0 fe)) (hs:∀x,foldedSetIterable (.Call (.Name "zip" p) [a,b] [] cpos) X.env x=pure x) :
  PE X (.ListComp elt [⟨.Tuple [.Name x px,.Name y py] kt pt,.Call (.Name "zip" p) [a,b] [] cpos,ifs,0⟩] scope pos) (tE X.K W (xZ s i j fl fc fe)):=by
 have B:=fun cells C s₀ H₀ ex=>S.blk h2 cells C s₀ H₀ ex
 have L:=fun cells C s₀ H₀ ex=>(B cells C s₀ H₀ ex).loc i x hx (by simp)
 have L2':=fun cells C s₀ H₀ ex=>(B cells C s₀ H₀ ex).loc j y hy (by simp)
 have hN:X.N.Nodup:=by rw [S.hN];exact S.nd
 exact aY (oo (qm S h1) S.calm (ze (S.g hk hg).1 hm ha hs1 hpl)
  (fun cells C s₀ H₀ ex=>DM (X:=blk X scope cells C s₀ H₀ ex) S.calm (ye (oX (X:=blk X scope cells C s₀ H₀ ex) (i:=i) hN (by show X.N[i]?=_;rw [S.hN];exact hx) (L cells C s₀ H₀ ex).1 (L cells C s₀ H₀ ex).2) (ye (oX (X:=blk X scope cells C s₀ H₀ ex) (i:=j) hN (by show X.N[j]?=_;rw [S.hN];exact hy) (L2' cells C s₀ H₀ ex).1 (L2' cells C s₀ H₀ ex).2) Eo)))
  (fun cells C s₀ H₀ ex=>hc _ (B cells C s₀ H₀ ex) ⟨rfl,rfl,rfl,rfl,rfl,rfl⟩) (fun cells C s₀ H₀ ex=>he _ (B cells C s₀ H₀ ex) ⟨rfl,rfl,rfl,rfl,rfl,rfl⟩) hs) fun _ _ _=>rP (by simpa using hij)
end
end T
namespace TQ
open PySem PySem.Spec L2 T
open PyProof.Rows hiding St
variable {X:Cx} {N gl:List Str} {vs cs ls lo gs:List Nat} {W:XW} {a b:Expr} {pos p:Pos} {fl:FL}
theorem Bz {scope:Scope} {x y:Str} {px py pt cpos:Pos} {kt:Nat} {elt:Expr} {ifs:List Expr} {fe:F1} {fc:FB} {vs' cs' lo' gs':List Nat} (S:Cp X N gl vs cs ls lo gs) (s:Sh) (i j k:Nat) (hij:(i != j)=true) (hx:N[i]?=some x) (hy:N[j]?=some y) (hk:gl[k]?=some ("zip":Str)) (hg:gs.contains k=true) (hm:X.mg "zip"=none)
  (h1:CQ N [i,j] cs scope=true) (h2:oN N gl vs' cs' [i,j] lo' gs' scope=true) (ha:Q (PA X [a,b] (tA X.K W fl))) (hs1:starEach [a,b] X.env=(false,eval a X.env)::starEach [b] X.env) (hpl:(backTo cpos (starEach [b] X.env)).any (·.1)=false)
  (hc:my X N gl vs' cs' [i,j] lo' gs' fun Y=>Q (PF Y ifs (tT Y.K W0 fc))) (he:my X N gl vs' cs' [i,j] lo' gs' fun Y=>Q (PE Y elt (tE Y.K W0 fe))) (hs:∀x,foldedSetIterable (.Call (.Name "zip" p) [a,b] [] cpos) X.env x=pure x) :
  Q (PE X (.ListComp elt [⟨.Tuple [.Name x px,.Name y py] kt pt,.Call (.Name "zip" p) [a,b] [] cpos,ifs,0⟩] scope pos) (tE X.K W (xZ s i j fl fc fe))):=⟨T.coZ S s i j k hij hx hy hk hg hm h1 h2 ha.p hs1 hpl (fun Y S' F=>(hc Y S' F).p) (fun Y S' F=>(he Y S' F).p) hs⟩
end TQ
namespace T
open PySem PySem.Spec L2
open PyProof.Rows hiding St
variable {O':List Addr}
def ju (s:Sh) (d:D):Bool:=match s,d with
 | .leaf,d=>aT d
 | .lst .leaf,.list ds=>ds.all aT
 | _,_=>false
def e8 (p:PV):Bool:=match p with
 | ⟨.tup ss,.tuple ds⟩=>(ss.zip ds).all fun x=>ju x.1 x.2
 | ⟨s,d⟩=>ju s d
def me (q:PV):Bool:=T.coer .leaf q||(match q with
 | ⟨.view,.list ds⟩=>ds.all aT
 | _=>false)
def wV (n:Nat) (den:List PySem.PyData->Res) (fl:FL):F1:=fun Γ=>(fl Γ).bind fun ps Γ'=>if ps.length=n then (match den (ps.map (·.d)) with
 | .ok p=>if ps.all me&&e8 p then .ok p Γ' else .no
 | _=>.no) else .no
theorem jt {K:Fg} {O:List Addr} {H:Hp} {s:Sh} {G:List Addr} {v:V} {d:D} (h:Own K O H s G v d) (f:ju s d=true):Own K O' H s G v d:=by
 unfold ju at f;split at f
 ·cases h with
  | leaf r=>exact .leaf (r.sc f).rep
 ·obtain ⟨l,us,rfl,rfl,hp,hul,hr⟩:=h.leaves
  exact Own.mkLeaves hp hul fun j u d e1 e2=>((hr j u d e1 e2).sc (List.all_eq_true.mp f d (mem_of_getElem? e2))).rep
 ·cases f
theorem pY {K:Fg} {O:List Addr} {H:Hp} {p:PV} {G:List Addr} {v:V} (h:Own K O H p.s G v p.d) (f:e8 p=true) (ht:∀t us,H t=some (.tup us)->t∉O->t∉O'):Own K O' H p.s G v p.d:=by
 unfold e8 at f;split at f
 ·rename_i ss ds
  have h:Own K O H (.tup ss) G v (.tuple ds):=h
  cases h with
  | @tup _ t us _ Fs2 hv hp hn hl hf2 hs nd q=>
   refine .tup hv hp (ht t us hp hn) hl hf2 hs nd fun i v d F s e1 e2 e3 e4=>jt (q i v d F s e1 e2 e3 e4) ?_
   have hz:(ss.zip ds)[i]?=some (s,d):=by rw [List.getElem?_zip_eq_some];exact ⟨e4,e2⟩
   exact List.all_eq_true.mp f _ (mem_of_getElem? hz)
 ·exact jt h f
section
variable {K:Fg} {W:XW} {U:St} {H:Hp} {Q:VK} {D:dv} {fa fb:F1} {fl:FL}
open Classical in
theorem rR {n:Nat} {den:List PySem.PyData->Res} {E:XK} (h:tE K W (wV n den fl) U H Q):nS (o9 K n den) [] E (tA K W fl) U H Q:=by
 obtain ⟨He,O,Fs,Γ,E0,h⟩:=h;refine ⟨He,O,Fs,Γ,E0,?_⟩
 unfold wV at h
 cases e:fl Γ with
 | er c Γ'=>rw [e] at h;exact h
 | no=>rw [e] at h;exact h
 | ok ps Γ1=>
  rw [e] at h;intro vs H1 Gs Fs1 A;have h:Wants K W He O Fs H U Q (if ps.length=n then (match den (ps.map (·.d)) with | .ok p=>if ps.all me&&e8 p then .ok p Γ1 else .no | _=>.no) else .no):=h
  by_cases hn:ps.length=n
  case neg=>rw [if_neg hn] at h;exact h.elim
  rw [if_pos hn] at h;have hl:(vs++[]).length=n:=by rw [append_nil,A.len1];exact hn
  cases ed:den (ps.map (·.d)) with
  | er c=>rw [ed] at h;exact h.elim
  | no=>rw [ed] at h;exact h.elim
  | ok p=>
   rw [ed] at h;have h:Wants K W He O Fs H U Q (if ps.all me&&e8 p then .ok p Γ1 else .no):=h
   have newF:∀a∈Fs1.flatten,a∈Fs.flatten\/H a=none:=fun a ha=>A.new a (mem_append_right _ ha)
   obtain ⟨n1,n2,n3⟩:=List.nodup_append.mp A.env.nd;obtain ⟨m1,m2,m3⟩:=List.nodup_append.mp n1
   cases hc:ps.all me&&e8 p with
   | false=>rw [hc] at h;exact h.elim
   | true=>
    rw [hc] at h;have h:Wants K W He O Fs H U Q (.ok p Γ1):=h
    simp only [Bool.and_eq_true] at hc
    obtain ⟨hv,hf⟩:=hc;let O':=(O++Fs1.flatten).filter fun a=>decide (¬∃us,Rd H1 a (.lst us))
    have subO:∀a∈O',a∈O++Fs1.flatten:=fun a ha=>(List.mem_filter.mp ha).1
    have notO:∀a us,Rd H1 a (.lst us)->a∉O':=fun a us hr ha=>by
     have:=(List.mem_filter.mp ha).2
     simp only [decide_eq_true_eq] at this
     exact this ⟨us,hr⟩
    refine ⟨hl,O',ps.map (·.d),List.Nodup.sublist List.filter_sublist A.env.dropL.nd,fun a ha=>A.env.dropL.inH a (subO a ha),?_,?_⟩
    ·rw [append_nil]
     refine ⟨A.reps.1,fun i v d h1 h2=>?_⟩
     rw [getElem?_map] at h2
     cases e2:ps[i]? with
     | none=>rw [e2] at h2;cases h2
     | some q=>
      rw [e2] at h2
      cases h2;have hi:=(List.getElem?_eq_some_iff.mp e2).1
      have e3:Gs[i]?=some (Gs[i]'(by rw [A.len2];exact hi)):=getElem?_eq_getElem _
      have o:=A.own i v q _ h1 e2 e3
      have hq:=List.all_eq_true.mp hv q (mem_of_getElem? e2)
      unfold me at hq
      cases hcl:T.coer .leaf q with
      | true=>
       have o2:=o.coer (s:=.leaf) (O':=O++Fs1.flatten) hcl jL fun a ha z=>by
        exfalso
        have hG:=ja e3 ha
        rcases List.mem_append.mp z with y | y
        ·exact m3 a hG a y rfl
        ·exact n3 a (mem_append_left _ hG) a y rfl
       have o3:Own K (O++Fs1.flatten) H1 .leaf [] v q.d:=o2
       cases o3 with
       | leaf r=>exact r.mono (ug (Same.refl _) fun a ha=>.inl (subO a ha))
      | false=>
       rw [hcl,Bool.false_or] at hq;split at hq
       ·rename_i ds
        have r:=o.rep
        cases r with
        | @lst a us _ hs hul hr=>
         refine .lst ?_ hul fun j u d q1 q2=>((hr j u d q1 q2).sc (List.all_eq_true.mp hq d (mem_of_getElem? q2))).rep
         rcases hs with hs | hs
         ·have hn:=notO a us hs
          refine .inl ?_
          rcases hs with hs | ⟨ob,hs⟩
          ·exact .inl (A5 hs hn)
          ·exact .inr ⟨ob,A5 hs hn⟩
         ·exact .inr hs
       ·cases hq
    ·rw [ed]
     intro v H2 G r;have own':Own K (G++O++Fs1.flatten) H2 p.s G v p.d:=pY r.own hf fun t us hp hn z=>by
      rw [append_assoc] at z;rcases List.mem_append.mp z with z | z
      ·exact hn (mem_append_left _ z)
      ·have h1:=A.env.dropL.inH t z
       obtain ⟨ob,hob⟩:=Option.ne_none_iff_exists'.mp h1
       have h2:=r.same t ob hob
       rw [hp] at h2
       cases h2;refine hn (mem_append_right _ (List.mem_filter.mpr ⟨z,?_⟩))
       simp only [decide_eq_true_eq]
       rintro ⟨us',hs' | ⟨_,hs'⟩⟩
       ·rw [hob] at hs';cases hs'
       ·rw [hob] at hs';cases hs'
     refine h v H2 G Fs1 ⟨A.same.trans r.same,A.env.dropL.hide r.same r.nd r.fresh r.inH,fun a ha=>?_,own'⟩
     rcases List.mem_append.mp ha with z | z
     ·exact .inr (A.same.free (r.fresh a z))
     ·exact newF a z
def ya (i:Nat):F1:=fun Γ=>if uf Γ[i]? then (match Γ[i]? with
 | some (some p)=>.ok p Γ
 | _=>.no) else .no
theorem rN {i:Nat} (h:tE K W (ya i) U H Q):Bf (fun xs H Q=>∃p ys,xs=[.ref p]/\(SqL K H p ys\/SqT K H p ys)/\∀l,H l=none->Q (.ref l) (bA H l (.lst ys))) (bo (dU i) cC) U H Q:=by
 obtain ⟨He,O,Fs,Γ,E,h⟩:=h;unfold ya at h
 cases ho:uf Γ[i]? with
 | false=>rw [ho] at h;exact h.elim
 | true=>
  obtain ⟨ds,e0⟩:=EN ho;rw [ho,e0] at h;have h:Wants K W He O Fs H U Q (.ok ⟨.lst .leaf,.list ds⟩ Γ):=h
  obtain ⟨l,vs,h1,h2,h3,h4,_⟩:=E.chgF e0;refine ⟨.ref l,h1,?_⟩
  exact ⟨l,vs,rfl,.inl (.inl (.of h2)),fun l' hl=>h _ _ _ _ (Ed E (Same.refl _) (fun a ha=>.inl ha) ⟨h3,h4⟩ hl)⟩
end
section
variable {X:Cx} {N gl:List Str} {vs cs ls lo gs:List Nat} {W:XW} {a b c e:Expr} {es:List Expr} {pos p:Pos} {fa fb fc:F1} {fl:FL} {g:FS}
theorem cb_listO (S:Cp X N gl vs cs ls lo gs) (j:Nat) (hj:gl[j]?=some ("list":Str)) (hg:gs.contains j=true) (hm:X.mg "list"=none) (i:Nat) {x:Str} {p2:Pos} (hi:N[i]?=some x) (hv:vs.contains i=true) (hs:starEach [.Name x p2] X.env=[(false,eval (.Name x p2) X.env)]) :
  PE X (.Call (.Name "list" p) [.Name x p2] [] pos) (tE X.K W (ya i)):=by
 have m:=S.nm x (mem_of_getElem? hi)
 exact aY (EH fo (S.g hj hg).1 hm Bm (nK (qL (by rw [S.hN];exact hi) (S.vis i x hi hv) m.1 m.2) ud hs) (by decide) (by decide) hs rfl) fun _ _ _=>rN
end
end T
namespace TQ
open PySem PySem.Spec L2 T
open PyProof.Rows hiding St
variable {x:Str}
section
variable {X:Cx} {N gl:List Str} {vs cs ls lo gs:List Nat} {W:XW} {a b c e:Expr} {es:List Expr} {pos p:Pos} {fa fb fc:F1} {fl:FL} {g:FS}
theorem qY {n:Nat} {den:List PySem.PyData->Res} (S:Cp X N gl vs cs ls lo gs) (j:Nat) (hj:gl[j]?=some x) (hg:gs.contains j=true) (C:AR X x n den) (ha:Q (PA X (e::es) (tA X.K W fl))) (he:starEach (e::es) X.env=(false,eval e X.env)::starEach es X.env) (hpl:(backTo pos (starEach es X.env)).any (·.1)=false):Q (PE X (.Call (.Name x p) (e::es) [] pos) (tE X.K W (wV n den fl))):=⟨by
 have ha:=ha.p
 obtain ⟨k,f,fd,ps,F,hr,hm,hk,hb⟩:=C;exact aY (En F hr (S.g hj hg).1 hm hk hb .nil sv ha (S.g hj hg).2.1 he hpl) fun _ _ _=>rR⟩
theorem mH (S:Cp X N gl vs cs ls lo gs) (j:Nat) (hj:gl[j]?=some ("list":Str)) (hg:gs.contains j=true) (hm:X.mg "list"=none) (i:Nat) {p2:Pos} (hi:N[i]?=some x) (hv:vs.contains i=true) (hs:starEach [.Name x p2] X.env=[(false,eval (.Name x p2) X.env)]) :
  Q (PE X (.Call (.Name "list" p) [.Name x p2] [] pos) (tE X.K W (ya i))):=⟨T.cb_listO S j hj hg hm i hi hv hs⟩
end
end TQ
namespace KC
open PySem PySem.Spec L2 T PySem.SeqAt
open PyProof.Rows hiding St
variable {Γ:Ev} {b:List Nat}
theorem v_or {fa fb:F1} {s:Sh} {a b:Bool} (ha:fa Γ=.ok ⟨s,.bool a⟩ Γ) (hb:fb Γ=.ok ⟨.leaf,.bool b⟩ Γ):uu fa fb Γ=.ok ⟨.leaf,.bool (a||b)⟩ Γ:=by
 unfold uu aX;rw [ha]
 cases a with
 | true=>cases s<;>rfl
 | false=>exact hb
noncomputable abbrev vO (w:Wd) (c:Str) (r:Nat):Prop:=c∈w.mks r
noncomputable abbrev gm (w:Wd) (c:Str) (L:List Nat):List Nat:=L.filter fun r=>(w.mks r).contains c
theorem lN {w:Wd} (ok:w.Ok) {c:Str} (hcl:c∈aN) {L:List Nat} (hs:Std w.n L) :
  ∃rk,aP [w.enc,aq L,.str c]=.ok ⟨.lst .leaf,eA rk⟩/\RightG w.n w.stp (fun _=>true) L (gm w c L) rk:=by
 have lo:=ok.g.lo
 have h24:=ok.h24
 have hl:=hs.len
 have hgl:(gm w c L).length<=1000:=Nat.le_trans (length_filter_le _ _) (by omega)
 obtain ⟨rk,e,Rt,_⟩:=e9 ok.z (cl:=w.os.map fun _=>true) (thr:=L) (goal:=gm w c L) (by rw [length_map];exact lo) (fun r hr=>ok.stp_ne (hs.lt r hr)) hs.lt (by omega) (fun r hr=>hs.lt r (List.mem_filter.mp hr).1) hgl
 have Rt:=Rt.congr (ch':=fun _=>true) fun r hr=>by
  unfold gO;rw [getD_eq_getElem?_getD,getElem?_map,getElem?_eq_getElem (by omega)]
  rfl
 refine ⟨rk,?_,Rt⟩
 have c1:aj .leaf 3 (aw (af (aa 0) (eK (.int 0)))) aH (eK (.bool true)) (bh 4 [w.enc,aq L,aq (gm w c L)])=.ok ⟨.lst .leaf,mx (w.os.map fun _=>true)⟩ (bh 4 [w.enc,aq L,aq (gm w c L)]):=by
  have:=mq (fun d:D=>d) w.os (fun d=>⟨.leaf,.bool true⟩) (s:=.leaf) (i:=3) (fi:=aw (af (aa 0) (eK (.int 0)))) (fe:=eK (.bool true)) (st:=true) (Γ:=bh 4 [w.enc,aq L,aq (gm w c L)]) (by simp [bh,Wd.enc,dS]) (by simp [bh]) rfl (by omega) (fun d hd=>by simp)
  rw [this];simp
 have st:dg [w.enc,aq L,aq (gm w c L)]=.ok ⟨.lst .leaf,eA rk⟩:=aG (aE (cH (az (ao rfl) (az c1 (az (ao rfl) (az (ao rfl) ak)))) e rfl rfl) rfl)
 have c2:aj .leaf 3 (aw (aa 1)) (aA ag (ax (aV false) (aa 2) (af (af (aa 0) (eK (.int 1))) (aa 3)))) (aa 3) (bh 4 [w.enc,aq L,.str c])=.ok ⟨.lst .leaf,.list ((gm w c L).map fun t=>rm t)⟩ (bh 4 [w.enc,aq L,.str c]):=by
  refine gL rm L (fun r=>(w.mks r).contains c) (fun t=>⟨.leaf,rm t⟩) (st:=true) (by simp [bh]) (by simp [bh]) rfl (by omega) (fun t ht=>?_) (fun t ht _=>?_)
  ·have a1:=ok.at1 (hs.lt t ht)
   simp [bh,Wd.enc,dS,a1,xS (qK hcl).1 (w9 ok t)]
  ·simp [bh]
 exact aG (aE (cH (az (ao rfl) (az (ao rfl) (az c2 ak))) st rfl rfl) rfl)
structure ua (w:Wd) (M:List Str) (L off:List Nat):Prop where
 ne:off≠[]
 sub:∀r∈off,r∈L
 no:∀(R:Nat->Prop) X,Fr w.n w.stp R M (vO w) X->(∀r,X r->r∈L)->∀r∈off,¬X r
structure fX (w:Wd) (M:List Str) (L:List Nat):Prop where
 c:∀r∈L,∃t∈w.stp r,t∈L
 a:∀m∈M,∀S:Nat->Prop,(∀r,r∈L->vO w m r->S r)->(∀r,r∈L->(∃t∈w.stp r,t∈L/\S t)->S r)->∀r,r∈L->S r
theorem AJ {l L:List Nat}:b3 true [.list (l.map fun t=>PyData.bool (L.contains t))]=some (.bool (l.any fun t=>L.contains t)):=by
 have:=DW (bs:=l.map fun t=>L.contains t)
 rw [map_map] at this;refine this.trans ?_
 rw [any_map];rfl
theorem qO {is:List Nat} {f:F1} {Γ1 Γ':Ev} {p:PV} {ps:List PV} (h:f Γ=.ok p Γ1) (hu:yu p=some ps) (hl:ps.length=is.length) (hp:putN is ps Γ1=some Γ'):dD is f Γ=.nx Γ':=by
 unfold dD gN;rw [h];simp only [hu,hl,if_true,hp]
theorem C3 {r:List Nat}:shaped (aq r)=true:=Bs fun a ha=>by
 obtain ⟨t,_,e⟩:=List.mem_map.mp ha;exact ⟨(t:Int),e.symm⟩
theorem tD {a:List Nat} (h:a=b):cJ (aq a) (aq b)=some (.bool true):=by rw [h];exact lM C3
theorem zB {a:List Nat} (h:a=b):cw (aq a) (aq b)=some (.bool false):=by rw [h];exact lh C3
theorem Bo:∀{n:Nat} {p:List Nat},p.Nodup->(∀x∈p,x<n)->p.length<=n
 | 0,[],_,_=>Nat.le_refl _
 | 0,a::p,_,h=>absurd (h a (by simp)) (Nat.not_lt_zero _)
 | n+1,p,nd,h=>by
  by_cases hn:n∈p
  ·have:=Bo (n:=n) (nd.erase n) fun x hx=>by
    obtain ⟨h1,h2⟩:=nd.mem_erase_iff.mp hx;have:=h x h2
    omega
   rw [List.length_erase_of_mem hn] at this;omega
  ·have:=Bo (n:=n) nd fun x hx=>by
    have h1:=h x hx
    have:x≠n:=fun e=>hn (e▸hx)
    omega
   omega
end KC
namespace KQ
open PySem PySem.Spec L2 T
open PyProof.Rows hiding St
open KC
noncomputable def kg:FS:=(aD (aj .leaf 2 (j5 (ab (aa 1) ae)) (aA ag (ax dW (ar 3 aF (ab (aa 0) (ab (aa 2) (ab (eK (.int 3)) ae)))) (eK (.int 0)))) (aa 2)))
noncomputable def dm:List PySem.PyData->Res:=aI 3 kg
end KQ
namespace KC
open PySem PySem.Spec L2 T PySem.SeqAt
open PyProof.Rows hiding St
variable {Γ:Ev}
theorem zy {s:Sh} {l:List Nat}:dO ⟨s,aq l⟩ (l.map rm)=true:=by
 unfold dO;simp [aT]
theorem D1 {α:Type} {xs:List α}:b3 false [.list (xs.map fun _=>.bool true)]=some (.bool true):=by
 rw [qC (xs:=xs) (f:=fun _=>true),List.all_eq_true.mpr fun _ _=>rfl]
theorem yh {w:Wd} (ok:w.Ok) {i:Nat} {fb:F1} {s:Sh} {r:Nat} (h0:Γ[i]?=some (some ⟨.leaf,w.enc⟩)) (hb:fb Γ=.ok ⟨s,rm r⟩ Γ) (hr:r<w.n):af (af (aa i) (eK (.int 2))) fb Γ=.ok ⟨.leaf,aq (w.stp r)⟩ Γ:=by
 rw [kP,kP,ao h0];simp only [Out.bind,aQ,Wd.enc,dS,rV,BU]
 rw [hb];simp only [xu]
 rw [ok.at2 hr]
theorem uX {w:Wd} (ok:w.Ok) {i:Nat} (h0:Γ[i]?=some (some ⟨.leaf,w.enc⟩)):bb aK (ab (af (aa i) (eK (.int 0))) ae) Γ=.ok ⟨.leaf,.int (w.n:Int)⟩ Γ:=by
 have e:af (aa i) (eK (.int 0)) Γ=.ok ⟨.leaf,.list w.os⟩ Γ:=by
  rw [kP,ao h0];simp only [Out.bind,aQ,Wd.enc,dS,rV,BW]
 refine bc (az e ak) ?_
 simp [ok.g.lo]
end KC
namespace KQ
open PySem PySem.Spec L2 T
open PyProof.Rows hiding St
open KC
noncomputable def qk:FS:=(au (aB true 3 (aj .leaf 7 (aw (aa 1)) (bD (aA aZ (bb (b3 true) (ab (aj .leaf 8 (aw (af (af (aa 0) (eK (.int 2))) (aa 7))) aH (ax (aV false) (aa 8) (aa 1))) ae)))) (aa 7)))
  (au (bI (aA aZ (aa 3)) (aD (bQ (ab (bV 3) (ab (eK .none) ae)))) aC)
  (au (bU 4 (aw (aa 2))
  (au (aB false 5 (ar 3 aP (ab (aa 0) (ab (aa 1) (ab (aa 4) ae)))))
  (au (aB true 6 (aj .leaf 7 (aw (aa 1)) (aA ag (ax (bq false) (af (aa 5) (aa 7)) (eK .none))) (aa 7)))
  (bI (aA aZ (aa 6)) (aD (bQ (ab (bV 6) (ab (aa 4) ae)))) aC))))
  (aD (eK .none)))))
noncomputable def b9:List PySem.PyData->Res:=aI 9 qk
noncomputable def lW:FS:=(aD (bQ (ab (i9 (af (aa 0) (eK (.int 0)))) (ab (aj .leaf 1 (aw (af (aa 0) (eK (.int 1)))) aH (i9 (aa 1))) (ab (aj .leaf 1 (aw (af (aa 0) (eK (.int 2)))) aH (i9 (aa 1))) ae)))))
noncomputable def dI:List PySem.PyData->Res:=aI 2 lW
noncomputable def kf:FS:=(aD (dN (dX "int" (aa 0)) (p8 (dX "bool" (aa 0)))))
noncomputable def bC:List PySem.PyData->Res:=aI 1 kf
noncomputable def iw:FS:=(au (bI (cX (bD (aA aZ (dX "list" (aa 0)))) (aA ag (ax cw (bb aK (ab (aa 0) ae)) (bb aK (ab (aa 1) ae))))) (aD (eK (.bool false))) aC)
  (aD (dN (bb (b3 false) (ab (aj .leaf 2 (aw (aa 0)) aH (ar 1 bC (ab (aa 2) ae))) ae)) (ax cJ (aa 0) (aa 1)))))
noncomputable def bB:List PySem.PyData->Res:=aI 3 iw
noncomputable def kh:FS:=(au (aB true 2 (br .leaf ae))
  (au (bU 3 (aw (aa 1))
  (iP 2 (aj .leaf 6 (aw (af (af (aa 0) (eK (.int 2))) (aa 3))) (aA ag (ax (aV false) (aa 6) (aa 1))) (bQ (ab (aa 3) (ab (aa 6) ae))))))
  (au (aB false 4 (eK (.bool true)))
  (au (uD 1000 (aA aZ (aa 4))
  (au (aB false 4 (eK (.bool false)))
  (bU 5 (aw (ya 2))
  (bU 6 (aw (aa 1))
  (bI (cE (aA ag (ax (aV false) (bQ (ab (af (aa 5) (eK (.int 1))) (ab (aa 6) ae))) (aa 2))) (aA ag (ax (aV true) (bQ (ab (af (aa 5) (eK (.int 0))) (ab (aa 6) ae))) (aa 2)))) (au (gM 2 (bQ (ab (af (aa 5) (eK (.int 0))) (ab (aa 6) ae))))
  (aB false 4 (eK (.bool true)))) aC)))))
  (aD (bV 2))))))
noncomputable def cD:List PySem.PyData->Res:=aI 7 kh
noncomputable def lX:FS:=(au (aB false 3 (ar 2 cD (ab (aa 0) (ab (aa 1) ae))))
  (au (aB true 4 (br .leaf ae))
  (au (bU 5 (aw (aa 1))
  (au (aB false 6 (aj .leaf 8 (aw (aa 1)) (cE (aA ag (ax (aV false) (bQ (ab (aa 5) (ab (aa 8) ae))) (aa 3))) (aA ag (ax (aV false) (bQ (ab (aa 8) (ab (aa 5) ae))) (aa 3)))) (aa 8)))
  (au (aB false 7 (aj .leaf 9 (aw (aa 2)) (aA ag (ax dW (bb aK (ab (aj .leaf 8 (aw (aa 6)) (aA ag (ax (aV false) (aa 9) (af (af (aa 0) (eK (.int 1))) (aa 8)))) (aa 8)) ae)) (eK (.int 0)))) (aa 9)))
  (bI (cE (aA ag (ax dW (bb aK (ab (aa 6) ae)) (eK (.int 0)))) (aA ag (ax cJ (aa 7) (aa 2)))) (gM 4 (aa 5)) aC))))
  (aD (aj .leaf 8 (aw (aa 1)) (cX (aA ag (ax (aV false) (aa 8) (aa 4))) (aA ag (ax dW (bb aK (ab (aj .leaf 5 (aw (aa 4)) (aA ag (ax (aV false) (bQ (ab (aa 8) (ab (aa 5) ae))) (aa 3))) (aa 5)) ae)) (eK (.int 0))))) (aa 8))))))
noncomputable def dJ:List PySem.PyData->Res:=aI 10 lX
noncomputable def ki:FS:=(aD (aj .leaf 1 (eZ "abc") (aA ag (ax cJ (ar 3 aF (ab (aa 0) (ab (bb (dM "abc") (ab (aa 1) ae)) (ab (eK (.int 3)) ae)))) (eK (.int 1)))) (aa 1)))
noncomputable def dq:List PySem.PyData->Res:=aI 2 ki
open PySem.SeqAt
theorem sc_rms {l:List Nat}:(l.map rm).all aT=true:=List.all_eq_true.mpr fun d hd=>by
 obtain ⟨t,_,rfl⟩:=List.mem_map.mp hd;rfl
theorem v_callG {Γ Γ1:Ev} {fl:FL} {ps:List PV} {n:Nat} {p:PV} {den:List D->Res} (hl:fl Γ=.ok ps Γ1) (hd:den (ps.map (·.d))=.ok p) (hn:ps.length=n) (hv:ps.all me=true) (hf:e8 p=true):wV n den fl Γ=.ok p Γ1:=by
 unfold wV;rw [hl];simp only [Out.bind,hn,hd,hv,hf,if_true,Bool.and_self]
theorem av (a b:D) (l:List Nat):[PV.mk .leaf a,⟨.view,aq l⟩,⟨.leaf,b⟩].all me=true:=by
 have:me ⟨.view,aq l⟩=true:=by
  show (coer .leaf ⟨.view,aq l⟩||(l.map rm).all aT)=true
  rw [sc_rms,Bool.or_true]
 rw [all_cons,all_cons,this];rfl
noncomputable abbrev GRo (w:Wd) (M:List Str) (L:List Nat) (x4 x5 x6:Option PV):Ev:=[some ⟨.leaf,w.enc⟩,some ⟨.leaf,aq L⟩,some ⟨.leaf,bw M⟩,some ⟨.lst .leaf,aq []⟩,x4,x5,x6,none,none]
noncomputable abbrev dE:FS:=(au (aB false 5 (ar 3 aP (ab (aa 0) (ab (aa 1) (ab (aa 4) ae)))))
  (au (aB true 6 (aj .leaf 7 (aw (aa 1)) (aA ag (ax (bq false) (af (aa 5) (aa 7)) (eK .none))) (aa 7)))
  (bI (aA aZ (aa 6)) (aD (bQ (ab (bV 6) (ab (aa 4) ae)))) aC)))
theorem u0 {w:Wd} (ok:w.Ok) {M:List Str} {L:List Nat} (hs:Std w.n L) {c:Str} (hcl:c∈aN) (x5 x6:Option PV):∃rk,RightG w.n w.stp (fun _=>true) L (gm w c L) rk /\
  ((L.filter (fun r=>(bf rk r).isNone)=[]/\∃y5 y6,dE (GRo w M L (some ⟨.leaf,.str c⟩) x5 x6)=.nx (GRo w M L (some ⟨.leaf,.str c⟩) y5 y6)) \/
   (L.filter (fun r=>(bf rk r).isNone)≠[]/\dE (GRo w M L (some ⟨.leaf,.str c⟩) x5 x6)=.rt ⟨.tup [.lst .leaf,.leaf],.tuple [aq (L.filter fun r=>(bf rk r).isNone),.str c]⟩)):=by
 have h24:=ok.h24
 have hl:=hs.len
 obtain ⟨rk,e,R⟩:=lN ok hcl hs;refine ⟨rk,R,?_⟩
 have c0:aj .leaf 7 (aw (aa 1)) (aA ag (ax (bq false) (af (aa 5) (aa 7)) (eK .none))) (aa 7) (GRo w M L (some ⟨.leaf,.str c⟩) (some ⟨.leaf,eA rk⟩) x6)=.ok ⟨.lst .leaf,.list ((L.filter fun r=>(bf rk r).isNone).map fun t=>rm t)⟩ (GRo w M L (some ⟨.leaf,.str c⟩) (some ⟨.leaf,eA rk⟩) x6):=by
  refine gL rm L (fun r=>(bf rk r).isNone) (fun t=>⟨.leaf,rm t⟩) (st:=true) (by simp) (by simp) rfl (by omega) (fun t ht=>?_) (fun t ht _=>?_)
  ·have a1:=tW (rk:=rk) (t:=t) (by rw [R.len];exact hs.lt t ht)
   simp [a1]
  ·simp
 have s1:aB false 5 (ar 3 aP (ab (aa 0) (ab (aa 1) (ab (aa 4) ae)))) (GRo w M L (some ⟨.leaf,.str c⟩) x5 x6)=.nx (GRo w M L (some ⟨.leaf,.str c⟩) (some ⟨.leaf,eA rk⟩) x6):=dC (cH (az (ao rfl) (az (ao rfl) (az (ao rfl) ak))) e rfl rfl) rfl (by simp)
 have s2:aB true 6 (aj .leaf 7 (aw (aa 1)) (aA ag (ax (bq false) (af (aa 5) (aa 7)) (eK .none))) (aa 7)) (GRo w M L (some ⟨.leaf,.str c⟩) (some ⟨.leaf,eA rk⟩) x6)=.nx (GRo w M L (some ⟨.leaf,.str c⟩) (some ⟨.leaf,eA rk⟩) (some ⟨.lst .leaf,aq (L.filter fun r=>(bf rk r).isNone)⟩)):=mE c0 rfl (by simp)
 by_cases q:L.filter (fun r=>(bf rk r).isNone)=[]
 ·refine .inl ⟨q,some ⟨.leaf,eA rk⟩,some ⟨.lst .leaf,aq (L.filter fun r=>(bf rk r).isNone)⟩,ai s1 (ai s2 ?_)⟩
  rw [q];simp
 ·refine .inr ⟨q,ai s1 (ai s2 ?_)⟩
  generalize L.filter (fun r=>(bf rk r).isNone)=F at q
  cases F with
  | nil=>exact absurd rfl q
  | cons a r=>simp [uU]
theorem ro_for {w:Wd} (ok:w.Ok) {M0:List Str} {L:List Nat} (hs:Std w.n L):∀(M:List Str),(∀c∈M,c∈aN)->∀(x4 x5 x6:Option PV),
  ((∃y4 y5 y6,aR 4 dE (M.map .str) (GRo w M0 L x4 x5 x6)=.nx (GRo w M0 L y4 y5 y6))/\∀c∈M,∃rk,RightG w.n w.stp (fun _=>true) L (gm w c L) rk/\∀r∈L,bf rk r≠none) \/
  (∃c∈M,∃rk,RightG w.n w.stp (fun _=>true) L (gm w c L) rk/\L.filter (fun r=>(bf rk r).isNone)≠[]/\aR 4 dE (M.map .str) (GRo w M0 L x4 x5 x6)=.rt ⟨.tup [.lst .leaf,.leaf],.tuple [aq (L.filter fun r=>(bf rk r).isNone),.str c]⟩)
 | [],_,x4,x5,x6=>.inl ⟨⟨x4,x5,x6,rfl⟩,by simp⟩
 | c::M,h,x4,x5,x6=>by
  obtain ⟨rk,R,q⟩:=u0 ok (M:=M0) hs (h c mem_cons_self) x5 x6
  have fg:∀o,dE (GRo w M0 L (some ⟨.leaf,.str c⟩) x5 x6)=o->aR 4 dE ((c::M).map .str) (GRo w M0 L x4 x5 x6)=(match o with | .nx Γ1=>aR 4 dE (M.map .str) Γ1 | .ct Γ1=>aR 4 dE (M.map .str) Γ1 | .bk Γ1=>.nx Γ1 | .rt p=>.rt p | .er a b=>.er a b | .no=>.no):=fun o ho=>by
   rw [map_cons,aR,if_pos (by simp)]
   have:(GRo w M0 L x4 x5 x6).set 4 (some ⟨.leaf,.str c⟩)=GRo w M0 L (some ⟨.leaf,.str c⟩) x5 x6:=rfl
   rw [this,ho];all_goals (cases o<;>rfl)
  rcases q with ⟨q,y5,y6,e⟩ | ⟨q,e⟩
  ·have hall:∀r∈L,bf rk r≠none:=fun r hr hz=>by
    have:r∈L.filter (fun r=>(bf rk r).isNone):=List.mem_filter.mpr ⟨hr,by simp [hz]⟩
    rw [q] at this;simp at this
   rcases ro_for ok (M0:=M0) hs M (fun d hd=>h d (mem_cons_of_mem _ hd)) (some ⟨.leaf,.str c⟩) y5 y6 with ⟨⟨z4,z5,z6,e2⟩,h2⟩ | ⟨d,hd,rk',R',q',e2⟩
   ·refine .inl ⟨⟨z4,z5,z6,?_⟩,fun d hd=>?_⟩
    ·rw [fg _ e];exact e2
    ·rcases List.mem_cons.mp hd with rfl | hd
     ·exact ⟨rk,R,hall⟩
     ·exact h2 d hd
   ·refine .inr ⟨d,mem_cons_of_mem _ hd,rk',R',q',?_⟩
    rw [fg _ e];exact e2
  ·refine .inr ⟨c,mem_cons_self,rk,R,q,?_⟩
   rw [fg _ e]
end KQ
namespace KC
variable {X:Nat->Prop} {b:Nat}
inductive Rc (E:Nat->Nat->Prop):Nat->Nat->Prop
 | one {a b:Nat}:E a b->Rc E a b
 | cons {a b c:Nat}:E a b->Rc E b c->Rc E a c
section
variable {E E':Nat->Nat->Prop} {a b c:Nat}
theorem Rc.trans (h:Rc E a b) (h':Rc E b c):Rc E a c:=by
 induction h with
 | one e=>exact .cons e h'
 | cons e _ ih=>exact .cons e (ih h')
theorem Rc.mono (h:Rc E a b) (m:∀a b,E a b->E' a b):Rc E' a b:=by
 induction h with
 | one e=>exact .one (m _ _ e)
 | cons e _ ih=>exact .cons (m _ _ e) ih
theorem Rc.ends (h:Rc E a b) (m:∀a b,E a b->X a/\X b):X a/\X b:=by
 induction h with
 | one e=>exact m _ _ e
 | cons e _ ih=>exact ⟨(m _ _ e).1,ih.2⟩
end
section
variable {α:Type} {n:Nat} {st:Nat->List Nat} {R:List Nat} {M:List α} {mk:α->Nat->Prop}
noncomputable def Eg (st:Nat->List Nat) (R:List Nat) (a b:Nat):Prop:=a∈R/\b∈R/\b∈st a
structure uc (st:Nat->List Nat) (R:List Nat) (M:List α) (mk:α->Nat->Prop) (h:Nat):Prop where
 m:h∈R
 r:Rc (Eg st R) h h
 k:∀m∈M,∃x,Rc (Eg st R) h x/\Rc (Eg st R) x h/\mk m x
noncomputable def Due (st:Nat->List Nat) (R:List Nat) (M:List α) (mk:α->Nat->Prop) (r:Nat):Prop:=r∈R/\(uc st R M mk r\/∃h,uc st R M mk h/\Rc (Eg st R) r h)
theorem tF {a:Nat} (h:Rc (Eg st R) a b):a∈R/\b∈R:=h.ends fun _ _ e=>⟨e.1,e.2.1⟩
theorem Bt {a:Nat} (h:Rc (Eg st R) a b) (d:Due st R M mk b):Due st R M mk a:=
 ⟨(tF h).1,.inr (d.2.elim (fun z=>⟨b,z,h⟩) fun ⟨c,z,q⟩=>⟨c,z,h.trans q⟩)⟩
theorem Au (hR:∀r∈R,r<n):Fr n st (·∈R) M mk (Due st R M mk):=by
 have step:∀a b,Rc (Eg st R) a b->Due st R M mk b->∃t∈st a,Due st R M mk t:=fun a b h d=>by
  cases h with
  | one e=>exact ⟨b,e.2.2,d⟩
  | cons e q=>exact ⟨_,e.2.2,Bt q d⟩
 refine ⟨fun r d=>hR r d.1,fun r d=>d.1,fun r d=>?_,fun m hm S h1 h2 r d=>?_⟩
 ·rcases d.2 with z | ⟨h,z,q⟩
  ·exact step r r z.r d
  ·exact step r h q ⟨z.m,.inl z⟩
 ·have back:∀a b,Rc (Eg st R) a b->Due st R M mk b->S b->S a:=fun a b h=>by
   induction h with
   | one e=>exact fun d s=>h2 _ (Bt (.one e) d) ⟨_,e.2.2,d,s⟩
   | cons e q ih=>exact fun d s=>h2 _ (Bt (.cons e q) d) ⟨_,e.2.2,Bt q d,ih d s⟩
  have home:∀h,uc st R M mk h->S h:=fun h z=>by
   obtain ⟨x,q1,q2,k⟩:=z.k m hm;have dh:Due st R M mk h:=⟨z.m,.inl z⟩
   have dx:=Bt q2 dh
   exact back h x q1 dx (h1 x dx k)
  rcases d.2 with z | ⟨h,z,q⟩
  ·exact home r z
  ·exact back r h q ⟨z.m,.inl z⟩ (home h z)
open Classical in
theorem wq (F:Fr n st (·∈R) M mk X):∀r,X r->Due st R M mk r:=by
 let EX:Nat->Nat->Prop:=fun a b=>X a/\X b/\b∈st a
 have mono:∀a b,Rc EX a b->Rc (Eg st R) a b:=fun a b h=>h.mono fun a b e=>⟨F.sub a e.1,F.sub b e.2.1,e.2.2⟩
 have inX:∀a b,Rc EX a b->X a/\X b:=fun a b h=>h.ends fun _ _ e=>⟨e.1,e.2.1⟩
 let rs:Nat->List Nat:=fun r=>(List.range n).filter fun y=>decide (y=r\/Rc EX r y)
 have bot:∀k r,(rs r).length=k->X r->∃h,X h/\(h=r\/Rc EX r h)/\∀y,Rc EX h y->Rc EX y h:=by
  intro k;induction k using Nat.strongRecOn with
  | ind k ih=>
   intro r hk hx;by_cases q:∀y,Rc EX r y->Rc EX y r
   ·exact ⟨r,hx,.inl rfl,q⟩
   ·obtain ⟨y,hy⟩:=Classical.not_forall.mp q
    obtain ⟨h1,h2⟩:=Classical.not_imp.mp hy;have ne:r≠y:=fun z=>by subst z;exact h2 h1
    have lt:(rs y).length<k:=by
     have e:rs y=(rs r).filter fun z=>decide (z=y\/Rc EX y z):=by
      show (List.range n).filter _=((List.range n).filter _).filter _
      rw [List.filter_filter];refine filter_congr fun z _=>?_
      by_cases q:z=y\/Rc EX y z
      ·have:z=r\/Rc EX r z:=.inr (q.elim (fun z=>by rw [z];exact h1) fun z=>h1.trans z)
       simp [q,this]
      ·simp [q]
     rw [e,<-hk];refine List.length_filter_lt_length_iff_exists.mpr ⟨r,List.mem_filter.mpr ⟨List.mem_range.mpr (F.lt r hx),by simp⟩,?_⟩
     simp only [decide_eq_true_eq]
     exact fun z=>z.elim ne h2
    obtain ⟨h,a1,a2,a3⟩:=ih _ lt y rfl (inX _ _ h1).2;exact ⟨h,a1,.inr (a2.elim (fun z=>by rw [z];exact h1) fun z=>h1.trans z),a3⟩
 intro r hx;obtain ⟨h,xh,hr,hb⟩:=bot _ r rfl hx;have hm:uc st R M mk h:=by
  obtain ⟨t,ht,xt⟩:=F.c h xh;have s1:Rc EX h t:=.one ⟨xh,xt,ht⟩
  have s2:Rc EX h h:=s1.trans (hb t s1)
  refine ⟨F.sub h xh,mono _ _ s2,fun m hm=>?_⟩
  obtain ⟨y,hy,k⟩:=F.a m hm (fun x=>∃y,(y=x\/Rc EX x y)/\mk m y) (fun x _ k=>⟨x,.inl rfl,k⟩) (fun x hx ⟨t,ht,xt,y,hy,k⟩=>⟨y,.inr (hy.elim (fun z=>by rw [z];exact .one ⟨hx,xt,ht⟩) fun z=>.cons ⟨hx,xt,ht⟩ z),k⟩) h xh
  rcases hy with rfl | hy
  ·exact ⟨y,mono _ _ s2,mono _ _ s2,k⟩
  ·exact ⟨y,mono _ _ hy,mono _ _ (hb y hy),k⟩
 refine ⟨F.sub r hx,?_⟩
 rcases hr with rfl | hr
 ·exact .inl hm
 ·exact .inr ⟨h,hm,mono _ _ hr⟩
end
noncomputable def ms (A P:List (Nat×Nat)):Nat:=(A.filter fun x=>!P.contains x).length
theorem Ce {A P:List (Nat×Nat)} {x:Nat×Nat} (h:x∈A) (hx:x∉P):ms A (P++[x])<ms A P:=by
 unfold ms;have e:(A.filter fun y=>!(P++[x]).contains y)=(A.filter fun y=>!P.contains y).filter fun y=>!(y==x):=by
  rw [List.filter_filter];refine filter_congr fun y _=>?_
  rw [List.contains_append,Bool.not_or];by_cases q:y=x<;>simp [q]
 rw [e];exact List.length_filter_lt_length_iff_exists.mpr ⟨x,List.mem_filter.mpr ⟨h,by simpa using hx⟩,by simp⟩
theorem nr {E:Nat->Nat->Prop} {P:List (Nat×Nat)} {R:List Nat} (so:∀x∈P,Rc E x.1 x.2) (ed:∀a b,E a b->(a,b)∈P) (hE:∀a b,E a b->a∈R/\b∈R) (cl:∀o∈P,∀t∈R,(o.2,t)∈P->(o.1,t)∈P) {a:Nat}:(a,b)∈P↔Rc E a b:=by
 refine ⟨fun h=>so _ h,fun h=>?_⟩
 induction h with
 | one e=>exact ed _ _ e
 | cons e q ih=>exact cl (_,_) (ed _ _ e) _ (q.ends hE).2 ih
end KC
namespace KQ
open PySem PySem.Spec L2 T PySem.SeqAt KC
open PyProof.Rows hiding St
variable {b n:Nat} {Γ:Ev} {fb:F1} {x5 x6 x3:Option PV} {A:List (Nat×Nat)} {o:Nat×Nat} {M:List Str}
noncomputable abbrev pr (x:Nat×Nat):D:=.tuple [rm x.1,rm x.2]
noncomputable abbrev uq (P:List (Nat×Nat)):D:=.list (P.map pr)
theorem AA {P:List (Nat×Nat)}:PyData.canLayAll0 (P.map pr)=true/\PyData.depthAll (P.map pr)<=1:=by
 induction P with
 | nil=>exact ⟨rfl,by simp [PyData.depthAll]⟩
 | cons a r ih=>
  have:=ih.2
  refine ⟨?_,?_⟩
  ·simp [PyData.canLayAll0,PyData.canLay0,ih.1]
  ·simp [PyData.depthAll,PyData.depth]
   omega
theorem rD {P:List (Nat×Nat)}:shaped (uq P)=true:=by
 have h:=AA (P:=P)
 have h2:=h.2
 show (PyData.canLay0 (.list (P.map pr))&&decide (PyData.depth (.list (P.map pr))<=64))=true
 rw [PyData.canLay0,PyData.depth,h.1,Bool.true_and,decide_eq_true_eq];omega
theorem xq {a:Nat}:shaped (.tuple [rm a,rm b])=true:=by
 simp [shaped,PyData.canLay0,PyData.canLayAll0,PyData.depth,PyData.depthAll]
theorem An {x:Nat×Nat} {a:Nat}:PyData.eqv (pr x) (.tuple [rm a,rm b])=(x==(a,b)):=by
 obtain ⟨c,d⟩:=x;have ei:∀i j:Nat,PyData.eqv (rm i) (rm j)=(i==j):=fun i j=>by
  rw [PyData.eqv,Bool.eq_iff_iff];simp only [beq_iff_eq]
  omega
 show PyData.eqv (.tuple [rm c,rm d]) (.tuple [rm a,rm b])=_
 rw [PyData.eqv,PyData.eqvAll,PyData.eqvAll,PyData.eqvAll,ei,ei,Bool.and_true];rfl
theorem tY {P:List (Nat×Nat)} {a:Nat}:((P.map pr).any fun y=>PyData.eqv y (.tuple [rm a,rm b]))=P.contains (a,b):=by
 rw [any_map,Bool.eq_iff_iff];simp only [any_eq_true,Function.comp,An,beq_iff_eq,contains_iff_mem]
 exact ⟨fun ⟨x,h,e⟩=>e▸h,fun h=>⟨_,h,rfl⟩⟩
theorem CT {P:List (Nat×Nat)} {a:Nat}:aV false (.tuple [rm a,rm b]) (uq P)=some (.bool (P.contains (a,b))):=by
 show (if shaped (.tuple [rm a,rm b])&&shaped (uq P) then some (PyData.bool ((P.map pr).any fun y=>PyData.eqv y (.tuple [rm a,rm b]))) else none)=_
 rw [xq,rD,Bool.and_self,if_pos rfl,tY]
theorem pO {P:List (Nat×Nat)} {a:Nat}:aV true (.tuple [rm a,rm b]) (uq P)=some (.bool (!P.contains (a,b))):=by
 show (if shaped (.tuple [rm a,rm b])&&shaped (uq P) then some (PyData.bool (!(P.map pr).any fun y=>PyData.eqv y (.tuple [rm a,rm b]))) else none)=_
 rw [xq,rD,Bool.and_self,if_pos rfl,tY]
theorem mI {fa:F1} {a:Nat} (ha:fa Γ=.ok ⟨.leaf,rm a⟩ Γ) (hb:fb Γ=.ok ⟨.leaf,rm b⟩ Γ):bQ (ab fa (ab fb ae)) Γ=.ok ⟨.tup [.leaf,.leaf],.tuple [rm a,rm b]⟩ Γ:=nP (az ha (az hb ak)) rfl rfl
theorem qQ {i:Nat} {f:F1} {s:Sh} {ds es:List D} (h:Γ[i]?=some (some ⟨.lst .leaf,.list ds⟩)) (hf:f Γ=.ok ⟨s,.list es⟩ Γ) (ho:s.isView=false) (hn:ds.length+es.length<=10000):iP i f Γ=.nx (Γ.set i (some ⟨.lst .leaf,.list (ds++es)⟩)):=by
 have hb:(10000:Nat)<=sizeLine:=by decide
 unfold iP uf;rw [h];simp only [if_true,rU,hf]
 unfold Am dO;rw [h];have:ds.length+es.length<=sizeLine:=by omega
 simp only [ho,Bool.not_false,Bool.true_or,decide_eq_true this,Bool.and_self,if_true]
noncomputable abbrev fu (w:Wd) (R:List Nat) (P:List (Nat×Nat)) (x3:Option PV) (x4 x5 x6:Option PV):Ev:=[some ⟨.leaf,w.enc⟩,some ⟨.leaf,aq R⟩,some ⟨.lst .leaf,uq P⟩,x3,x4,x5,x6]
structure Bh (w:Wd) (R:List Nat) (A P:List (Nat×Nat)):Prop where
 so:∀x∈P,Rc (Eg w.stp R) x.1 x.2
 ed:∀a b,Eg w.stp R a b->(a,b)∈P
 bd:P.length+ms A P<=700
theorem nT {w:Wd} (ok:w.Ok) {r:Nat} (hr:r<w.n):(w.stp r).length<=30:=by
 have:w.stp r∈w.s:=by
  unfold Wd.stp;rw [getD_eq_getElem?_getD,getElem?_eq_getElem (by rw [ok.ls];exact hr)]
  exact getElem_mem _
 exact (ok.st _ this).2.1
noncomputable abbrev tB:FS:=iP 2 (aj .leaf 6 (aw (af (af (aa 0) (eK (.int 2))) (aa 3))) (aA ag (ax (aV false) (aa 6) (aa 1))) (bQ (ab (aa 3) (ab (aa 6) ae))))
theorem wo {w:Wd} (ok:w.Ok) {R:List Nat} {P:List (Nat×Nat)} {a:Nat} (ha:a<w.n) (hP:P.length<=900) {x4:Option PV}:tB (fu w R P (some ⟨.leaf,rm a⟩) x4 x5 x6)=.nx (fu w R (P++((w.stp a).filter fun t=>R.contains t).map fun t=>(a,t)) (some ⟨.leaf,rm a⟩) x4 x5 x6):=by
 have hl:=nT ok ha
 have e:aj .leaf 6 (aw (af (af (aa 0) (eK (.int 2))) (aa 3))) (aA ag (ax (aV false) (aa 6) (aa 1))) (bQ (ab (aa 3) (ab (aa 6) ae))) (fu w R P (some ⟨.leaf,rm a⟩) x4 x5 x6)=.ok ⟨.lst .leaf,.list (((w.stp a).filter fun t=>R.contains t).map fun t=>pr (a,t))⟩ (fu w R P (some ⟨.leaf,rm a⟩) x4 x5 x6):=
  gL rm (w.stp a) (fun t=>R.contains t) (fun t=>⟨.tup [.leaf,.leaf],pr (a,t)⟩) (st:=true) (aL (s:=.leaf) (yh ok rfl (ao rfl) ha) rfl) (by simp) rfl (by omega) (fun t ht=>bJ (s:=.leaf) (ay (ao rfl) (ao (i:=1) rfl) uA)) (fun t ht _=>⟨mI (ao rfl) (ao rfl),rfl⟩)
 refine (qQ (ds:=P.map pr) rfl e rfl ?_).trans ?_
 ·have:=length_filter_le (fun t=>R.contains t) (w.stp a)
  simp only [length_map]
  omega
 ·simp [List.map_append,map_map,Function.comp_def]
noncomputable abbrev zV:FS:=bI (cE (aA ag (ax (aV false) (bQ (ab (af (aa 5) (eK (.int 1))) (ab (aa 6) ae))) (aa 2))) (aA ag (ax (aV true) (bQ (ab (af (aa 5) (eK (.int 0))) (ab (aa 6) ae))) (aa 2)))) (au (gM 2 (bQ (ab (af (aa 5) (eK (.int 0))) (ab (aa 6) ae))))
  (aB false 4 (eK (.bool true)))) aC
theorem vW {w:Wd} {R:List Nat} {P:List (Nat×Nat)} (I:Bh w R A P) (hA:∀a∈R,∀b∈R,(a,b)∈A) (ho:o∈P) {t:Nat} (ht:t∈R) {m:Bool} :
  (zV (fu w R P x3 (some ⟨.leaf,.bool m⟩) (some ⟨.leaf,pr o⟩) (some ⟨.leaf,rm t⟩))=.nx (fu w R P x3 (some ⟨.leaf,.bool m⟩) (some ⟨.leaf,pr o⟩) (some ⟨.leaf,rm t⟩))/\((o.2,t)∈P->(o.1,t)∈P)) \/
  (∃P',zV (fu w R P x3 (some ⟨.leaf,.bool m⟩) (some ⟨.leaf,pr o⟩) (some ⟨.leaf,rm t⟩))=.nx (fu w R P' x3 (some ⟨.leaf,.bool true⟩) (some ⟨.leaf,pr o⟩) (some ⟨.leaf,rm t⟩))/\Bh w R A P'/\ms A P'<ms A P/\∀x∈P,x∈P'):=by
 have i0:∀Γ:Ev,Γ[5]?=some (some ⟨.leaf,pr o⟩)->af (aa 5) (eK (.int 0)) Γ=.ok ⟨.leaf,rm o.1⟩ Γ:=fun Γ h=>gK (j:=0) (ao h) aQ rfl rfl rfl
 have i1:∀Γ:Ev,Γ[5]?=some (some ⟨.leaf,pr o⟩)->af (aa 5) (eK (.int 1)) Γ=.ok ⟨.leaf,rm o.2⟩ Γ:=fun Γ h=>gK (j:=1) (ao h) aQ rfl rfl rfl
 have tt:=jD (Γ:=fu w R P x3 (some ⟨.leaf,.bool m⟩) (some ⟨.leaf,pr o⟩) (some ⟨.leaf,rm t⟩)) (bJ (s:=.leaf) (ay (g:=aV false) (mI (i1 _ rfl) (ao (i:=6) rfl)) (jh (i:=2) rfl) CT)) (bJ (s:=.leaf) (ay (g:=aV true) (mI (i0 _ rfl) (ao (i:=6) rfl)) (jh (i:=2) rfl) pO))
 cases hc:(P.contains (o.2,t)&&!P.contains (o.1,t)) with
 | false=>
  rw [hc] at tt;refine .inl ⟨aO tt nofun fun _=>rfl,fun h=>?_⟩
  have:P.contains (o.2,t)=true:=List.contains_iff_mem.mpr h
  rw [this,Bool.true_and] at hc;simpa using hc
 | true=>
  rw [hc] at tt;simp only [Bool.and_eq_true,Bool.not_eq_true',contains_iff_mem] at hc
  obtain ⟨h1,h2⟩:=hc;have h2:(o.1,t)∉P:=fun z=>by
   rw [List.contains_iff_mem.mpr z] at h2
   cases h2
  have rc:Rc (Eg w.stp R) o.1 t:=(I.so o ho).trans (I.so _ h1)
  have hin:=tF rc
  have lt:=Ce (hA _ hin.1 _ hin.2) h2
  have bd:=I.bd
  have ap:=Bv (i:=2) (s:=.leaf) (ds:=P.map pr) (fa:=bQ (ab (af (aa 5) (eK (.int 0))) (ab (aa 6) ae))) (p:=⟨.tup [.leaf,.leaf],pr (o.1,t)⟩) (Γ:=fu w R P x3 (some ⟨.leaf,.bool m⟩) (some ⟨.leaf,pr o⟩) (some ⟨.leaf,rm t⟩)) rfl (mI (i0 _ rfl) (ao (i:=6) rfl)) rfl (by simp;omega)
  refine .inr ⟨P++[(o.1,t)],aO tt (fun _=>ai (Γ1:=fu w R (P++[(o.1,t)]) x3 (some ⟨.leaf,.bool m⟩) (some ⟨.leaf,pr o⟩) (some ⟨.leaf,rm t⟩)) (ap.trans ?_) (dC aQ rfl (by simp))) nofun,⟨fun x hx=>?_,fun a b e=>?_,?_⟩,lt,fun x hx=>by simp [hx]⟩
  ·simp
  ·rcases List.mem_append.mp hx with z | z
   ·exact I.so x z
   ·rw [List.mem_singleton.mp z];exact rc
  ·simp [I.ed a b e]
  ·simp only [length_append,length_singleton]
   omega
structure CL (w:Wd) (R:List Nat) (A L P:List (Nat×Nat)) (m:Bool) (cl:Prop):Prop where
 p:Bh w R A P
 sub:∀x∈L,x∈P
 q:(m=false/\P=L/\cl)\/(m=true/\ms A P<ms A L)
theorem zU {w:Wd} {R:List Nat} {L:List (Nat×Nat)} (hA:∀a∈R,∀b∈R,(a,b)∈A) (ho:o∈L) {C:Prop} {P:List (Nat×Nat)} {m:Bool} (I:CL w R A L P m C) :
  ∃P' m' y6,aR 6 zV (R.map rm) (fu w R P x3 (some ⟨.leaf,.bool m⟩) (some ⟨.leaf,pr o⟩) x6)=.nx (fu w R P' x3 (some ⟨.leaf,.bool m'⟩) (some ⟨.leaf,pr o⟩) y6)/\CL w R A L P' m' (C/\∀t∈R,(o.2,t)∈L->(o.1,t)∈L):=by
 obtain ⟨Γ',e,_,P',m',y6,rfl,I'⟩:=Bw rm (i:=6) (body:=zV) (Inv:=fun rest Γ=>(∀t∈rest,t∈R)/\∃P m x6,Γ=fu w R P x3 (some ⟨.leaf,.bool m⟩) (some ⟨.leaf,pr o⟩) x6/\CL w R A L P m (C/\∀t∈R,t∉rest->(o.2,t)∈L->(o.1,t)∈L))
  (fun t rest Γ ⟨hr,P,m,x6,e,I⟩=>by
   subst e;refine ⟨by simp,?_⟩
   have hr':∀u∈rest,u∈R:=fun u hu=>hr u (by simp [hu])
   rcases vW I.p hA (I.sub o ho) (hr t (by simp)) (x3:=x3) (m:=m) with ⟨e,cl⟩ | ⟨P',e,I',lt,sb⟩
   ·refine ⟨_,e,hr',P,m,_,rfl,I.p,I.sub,?_⟩
    rcases I.q with ⟨h1,h2,h3,h4⟩ | h
    ·refine .inl ⟨h1,h2,h3,fun u hu hn=>?_⟩
     by_cases q:u=t
     ·subst q
      rw [<-h2];exact cl
     ·exact h4 u hu (by simp [q,hn])
    ·exact .inr h
   ·refine ⟨_,e,hr',P',true,_,rfl,I',fun x hx=>sb x (I.sub x hx),.inr ⟨rfl,?_⟩⟩
    rcases I.q with ⟨_,h2,_⟩ | ⟨_,h⟩
    ·rw [<-h2];exact lt
    ·omega) R (fu w R P x3 (some ⟨.leaf,.bool m⟩) (some ⟨.leaf,pr o⟩) x6) ⟨fun t h=>h,P,m,x6,rfl,I.p,I.sub,I.q.imp (fun ⟨a,b,c⟩=>⟨a,b,c,fun t h n=>absurd h n⟩) id⟩
 exact ⟨P',m',y6,e,I'.p,I'.sub,I'.q.imp (fun ⟨a,b,c,d⟩=>⟨a,b,c,fun t h=>d t h (by simp)⟩) id⟩
theorem sr {w:Wd} {R:List Nat} {P:List (Nat×Nat)} (hA:∀a∈R,∀b∈R,(a,b)∈A) (I:Bh w R A P) :
  ∃P' m' y5 y6,aR 5 (bU 6 (aw (aa 1)) zV) (P.map pr) (fu w R P x3 (some ⟨.leaf,.bool false⟩) x5 x6)=.nx (fu w R P' x3 (some ⟨.leaf,.bool m'⟩) y5 y6)/\CL w R A P P' m' (∀o∈P,∀t∈R,(o.2,t)∈P->(o.1,t)∈P):=by
 obtain ⟨Γ',e,_,P',m',y5,y6,rfl,I'⟩:=Bw pr (i:=5) (body:=bU 6 (aw (aa 1)) zV) (Inv:=fun rest Γ=>(∀o∈rest,o∈P)/\∃P' m x5 x6,Γ=fu w R P' x3 (some ⟨.leaf,.bool m⟩) x5 x6/\CL w R A P P' m (∀o∈P,o∉rest->∀t∈R,(o.2,t)∈P->(o.1,t)∈P))
  (fun o rest Γ ⟨hr,P',m,x5,x6,e,I⟩=>by
   subst e;refine ⟨by simp,?_⟩
   obtain ⟨P2,m2,y6,e,I2⟩:=zU hA (hr o (by simp)) (x3:=x3) (x6:=x6) I
   have wr:aw (aa 1) (fu w R P' x3 (some ⟨.leaf,.bool m⟩) (some ⟨.leaf,pr o⟩) x6)=.ok ⟨R.map rm,true⟩ (fu w R P' x3 (some ⟨.leaf,.bool m⟩) (some ⟨.leaf,pr o⟩) x6):=aL (s:=.leaf) (ao rfl) rfl
   refine ⟨_,bu wr e,fun u hu=>hr u (by simp [hu]),P2,m2,_,_,rfl,I2.p,I2.sub,I2.q.imp (fun ⟨a,b,c,d⟩=>⟨a,b,fun u hu hn=>?_⟩) id⟩
   by_cases q:u=o
   ·subst q;exact d
   ·exact c u hu (by simp [q,hn])) P (fu w R P x3 (some ⟨.leaf,.bool false⟩) x5 x6) ⟨fun o h=>h,P,false,x5,x6,rfl,I,fun x h=>h,.inl ⟨rfl,rfl,fun o h n=>absurd h n⟩⟩
 exact ⟨P',m',y5,y6,e,I'.p,I'.sub,I'.q.imp (fun ⟨a,b,c⟩=>⟨a,b,fun o h=>c o h (by simp)⟩) id⟩
theorem den_pairs {w:Wd} (ok:w.Ok) (h6:w.n<=6) {R:List Nat} (hR:Std w.n R):∃P,cD [w.enc,aq R]=.ok ⟨.lst .leaf,uq P⟩/\∀a b,(a,b)∈P↔Rc (Eg w.stp R) a b:=by
 have hl:=hR.len
 let A:List (Nat×Nat):=R.flatMap fun a=>R.map fun b=>(a,b)
 have hA:∀a∈R,∀b∈R,(a,b)∈A:=fun a ha b hb=>List.mem_flatMap.mpr ⟨a,ha,List.mem_map.mpr ⟨b,hb,rfl⟩⟩
 have lA:A.length<=36:=by
  have:A.length=R.length*R.length:=by
   show (R.flatMap fun a=>R.map fun b=>(a,b)).length=_
   have g:∀L:List Nat,(L.flatMap fun a=>R.map fun b=>(a,b)).length=L.length*R.length:=fun L=>by
    induction L with
    | nil=>simp
    | cons a r ih=>rw [List.flatMap_cons,length_append,ih,length_map,length_cons,Nat.succ_mul,Nat.add_comm]
   exact g R
  have:=Nat.mul_le_mul (Nat.le_trans hl h6) (Nat.le_trans hl h6)
  omega
 obtain ⟨Γ1,e1,_,P,x3,hΓ,so,ed,bd⟩:=Bw rm (i:=3) (body:=tB) (Inv:=fun rest Γ=>(∀a∈rest,a∈R)/\∃P x3,Γ=fu w R P x3 none none none/\(∀x∈P,Eg w.stp R x.1 x.2)/\(∀a b,Eg w.stp R a b->a∉rest->(a,b)∈P)/\P.length+30*rest.length<=180)
  (fun a rest Γ ⟨hr,P,x3,e,so,ed,bd⟩=>by
   subst e;have ha:=hr a (by simp)
   have han:=hR.lt a ha
   have hst:=nT ok han
   have hf:=length_filter_le (fun t=>R.contains t) (w.stp a)
   simp only [length_cons] at bd
   refine ⟨by simp,_,wo ok han (by omega),fun u hu=>hr u (by simp [hu]),_,_,rfl,fun x hx=>?_,fun u b e hn=>?_,?_⟩
   ·rcases List.mem_append.mp hx with z | z
    ·exact so x z
    ·obtain ⟨t,ht,rfl⟩:=List.mem_map.mp z
     obtain ⟨h1,h2⟩:=List.mem_filter.mp ht;exact ⟨ha,by simpa using h2,h1⟩
   ·by_cases q:u=a
    ·subst q
     exact mem_append_right _ (List.mem_map.mpr ⟨b,List.mem_filter.mpr ⟨e.2.2,by simpa using e.2.1⟩,rfl⟩)
    ·exact mem_append_left _ (ed u b e (by simp [q,hn]))
   ·simp only [length_append,length_map]
    omega) R (fu w R [] none none none none) ⟨fun a h=>h,[],none,rfl,fun x h=>by simp at h,fun a b e n=>absurd e.1 n,by simp;omega⟩
 subst hΓ;have bd:P.length<=180:=by simpa using bd
 have msb:ms A P<=36:=Nat.le_trans (length_filter_le _ _) lA
 have I0:Bh w R A P:=⟨fun x hx=>.one (so x hx),fun a b e=>ed a b e (by simp),by omega⟩
 obtain ⟨b',e2,I2,hf⟩:=C9 (β:=List (Nat×Nat)×Bool×Option PV×Option PV) (c:=aA aZ (aa 4)) (g:=au (aB false 4 (eK (.bool false))) (bU 5 (aw (ya 2)) (bU 6 (aw (aa 1)) zV))) (G:=fun b=>fu w R b.1 x3 (some ⟨.leaf,.bool b.2.1⟩) b.2.2.1 b.2.2.2) (test:=fun b=>b.2.1) (Inv:=fun b=>Bh w R A b.1/\(b.2.1=false->∀o∈b.1,∀t∈R,(o.2,t)∈b.1->(o.1,t)∈b.1)) (meas:=fun b=>2*ms A b.1+(if b.2.1 then 1 else 0))
  (fun b I=>bW (s:=.leaf) (ao rfl))
  (fun b I ht=>by
   obtain ⟨P,m,x5,x6⟩:=b;simp only at ht I
   subst ht;obtain ⟨P',m',y5,y6,e,I'⟩:=sr hA I.1 (x3:=x3) (x5:=x5) (x6:=x6)
   have wl:aw (ya 2) (fu w R P x3 (some ⟨.leaf,.bool false⟩) x5 x6)=.ok ⟨P.map pr,true⟩ (fu w R P x3 (some ⟨.leaf,.bool false⟩) x5 x6):=aL (s:=.lst .leaf) (ds:=P.map pr) rfl rfl
   refine ⟨(P',m',y5,y6),ai (Γ1:=fu w R P x3 (some ⟨.leaf,.bool false⟩) x5 x6) (dC aQ rfl (by simp)) (bu wl e),⟨I'.p,fun hm=>?_⟩,?_⟩
   ·rcases I'.q with ⟨_,h2,h3⟩ | ⟨h1,_⟩
    ·simp only at hm ⊢
     rw [h2];exact h3
    ·simp only at hm
     rw [h1] at hm
     cases hm
   ·rcases I'.q with ⟨h1,h2,_⟩ | ⟨h1,h2⟩
    ·simp only
     rw [h1,h2];simp
    ·simp only
     rw [h1];simp
     omega) 1000 (P,true,none,none) ⟨I0,nofun⟩ (by simp;omega)
 obtain ⟨P',m,y5,y6⟩:=b'
 simp only at e2 I2 hf
 subst hf;refine ⟨P',?_,fun a b=>nr (R:=R) I2.1.so I2.1.ed (fun a b e=>⟨e.1,e.2.1⟩) (I2.2 rfl)⟩
 refine aG (ai (Γ1:=fu w R [] none none none none) (mE (nJ (s:=.leaf) ak rfl rfl rfl) rfl (by simp [bh])) ?_)
 refine ai (bu (aL (s:=.leaf) (ds:=R.map rm) (ao rfl) rfl) e1) ?_
 refine ai (dC aQ rfl (by simp)) ?_
 refine ai (Γ1:=fu w R P' x3 (some ⟨.leaf,.bool false⟩) y5 y6) ?_ (aE (xW (p:=⟨.lst .leaf,uq P'⟩) rfl) rfl)
 unfold uD;exact e2
theorem den_rooms {c:Int} (hn:n<=24):∃R,dm [.int c,.int (n:Int)]=.ok ⟨.lst .leaf,aq R⟩/\Std n R:=by
 refine ⟨(List.range n).filter fun r:Nat=>decide (0<dA c (r:Int) 3),?_,Std.of _⟩
 have e:aj .leaf 2 (j5 (ab (aa 1) ae)) (aA ag (ax dW (ar 3 aF (ab (aa 0) (ab (aa 2) (ab (eK (.int 3)) ae)))) (eK (.int 0)))) (aa 2) (bh 3 [.int c,.int (n:Int)])=.ok ⟨.lst .leaf,.list (((List.range n).filter fun r:Nat=>decide (0<dA c (r:Int) 3)).map fun r=>rm r)⟩ (bh 3 [.int c,.int (n:Int)]):=by
  refine gL rm (List.range n) (fun r:Nat=>decide (0<dA c (r:Int) 3)) (fun r=>⟨.leaf,rm r⟩) (st:=true) ?_ (by simp [bh]) rfl (by simp;omega) (fun r hr=>?_) (fun r hr _=>?_)
  ·exact mj (s:=.leaf) (n:=n) (by omega) (by simp [bh])
  ·have:=List.mem_range.mp hr
   have d:=AZ (c:=c) (k:=(r:Int)) (b:=3) (by omega) (by omega) (by omega) (by omega)
   simp [bh,d]
  ·simp [bh]
 exact aG (aE e rfl)
theorem den_twinQ {w:Wd} (ok:w.Ok):dI [w.enc]=.ok ⟨W3,w.enc⟩:=by
 have i0:af (aa 0) (eK (.int 0)) [some ⟨.leaf,w.enc⟩,none]=.ok ⟨.leaf,.list w.os⟩ [some ⟨.leaf,w.enc⟩,none]:=gK (j:=0) (ao rfl) aQ rfl rfl rfl
 have i1:af (aa 0) (eK (.int 1)) [some ⟨.leaf,w.enc⟩,none]=.ok ⟨.leaf,.list (w.m.map bw)⟩ [some ⟨.leaf,w.enc⟩,none]:=gK (j:=1) (ao rfl) aQ rfl rfl rfl
 have i2:af (aa 0) (eK (.int 2)) [some ⟨.leaf,w.enc⟩,none]=.ok ⟨.leaf,.list (w.s.map aq)⟩ [some ⟨.leaf,w.enc⟩,none]:=gK (j:=2) (ao rfl) aQ rfl rfl rfl
 have h24:=ok.h24
 have c1:aj .leaf 1 (aw (af (aa 0) (eK (.int 1)))) aH (i9 (aa 1)) [some ⟨.leaf,w.enc⟩,none]=.ok ⟨.lst .leaf,.list (w.m.map bw)⟩ [some ⟨.leaf,w.enc⟩,none]:=
  mq bw w.m (fun x=>⟨.lst .leaf,bw x⟩) (st:=true) (aL (s:=.leaf) i1 rfl) (by simp) rfl (by rw [ok.lm];omega) fun x hx=>⟨uh (ao rfl) rfl,rfl⟩
 have c2:aj .leaf 1 (aw (af (aa 0) (eK (.int 2)))) aH (i9 (aa 1)) [some ⟨.leaf,w.enc⟩,none]=.ok ⟨.lst .leaf,.list (w.s.map aq)⟩ [some ⟨.leaf,w.enc⟩,none]:=
  mq aq w.s (fun x=>⟨.lst .leaf,aq x⟩) (st:=true) (aL (s:=.leaf) i2 rfl) (by simp) rfl (by rw [ok.ls];omega) fun x hx=>⟨uh (ao rfl) rfl,rfl⟩
 exact aG (aE (nP (az (uh i0 rfl) (az c1 (az c2 ak))) rfl rfl) rfl)
theorem v_callS {Γ1:Ev} {fl:FL} {ps:List PV} {d:D} {den:List D->Res} (hl:fl Γ=.ok ps Γ1) (hd:den (ps.map (·.d))=.ok ⟨.leaf,d⟩) (hn:ps.length=n) (hs:aT d=true):ar n den fl Γ=.ok ⟨.leaf,d⟩ Γ1:=by
 unfold ar;rw [hl];simp only [Out.bind,hn,hd,hs,if_true]
 split<;>rfl
theorem den_whole {z:Int}:bC [.int z]=.ok ⟨.leaf,.bool true⟩:=aG (aE (v_and (s:=.leaf) (a:=true) (b:=true) (gV (ao rfl) rfl) (v_not (b:=false) (s:=.leaf) (gV (ao rfl) rfl))) rfl)
theorem den_nums {l:List Nat} (hl:l.length<=1000):bB [aq l,aq l]=.ok ⟨.leaf,.bool true⟩:=by
 have t:cX (bD (aA aZ (dX "list" (aa 0)))) (aA ag (ax cw (bb aK (ab (aa 0) ae)) (bb aK (ab (aa 1) ae)))) (bh 3 [aq l,aq l])=.ok (!true||!((l.length:Int)==(l.length:Int))) (bh 3 [aq l,aq l]):=cG (b4 (b:=true) (bW (s:=.leaf) (gV (ao rfl) rfl))) (bJ (s:=.leaf) (ay (bc (d:=.int (l.length:Int)) (az (ao (i:=0) rfl) ak) (by simp)) (bc (d:=.int (l.length:Int)) (az (ao (i:=1) rfl) ak) (by simp)) KC.ne_int))
 have c:aj .leaf 2 (aw (aa 0)) aH (ar 1 bC (ab (aa 2) ae)) (bh 3 [aq l,aq l])=.ok ⟨.lst .leaf,.list (l.map fun _=>.bool true)⟩ (bh 3 [aq l,aq l]):=
  mq rm l (fun _=>⟨.leaf,.bool true⟩) (st:=true) (aL (s:=.leaf) (ao rfl) rfl) (by simp [bh]) rfl (by omega) fun x hx=>⟨cH (az (ao rfl) ak) den_whole rfl rfl,rfl⟩
 rw [beq_self_eq_true] at t;exact aG (ai (aO t nofun fun _=>rfl) (aE (v_and (s:=.leaf) (a:=true) (b:=true) (bc (az c ak) D1) (ay (ao rfl) (ao rfl) (tD rfl))) rfl))
theorem den_lmarks {c:Int}:∃M,dq [.int c]=.ok ⟨.lst .leaf,bw M⟩/\(∀c∈M,c∈aN)/\bp [bw M]=.ok ⟨.leaf,.bool true⟩/\M.length<=3:=by
 have e:aj .leaf 1 (eZ "abc") (aA ag (ax cJ (ar 3 aF (ab (aa 0) (ab (bb (dM "abc") (ab (aa 1) ae)) (ab (eK (.int 3)) ae)))) (eK (.int 1)))) (aa 1) (bh 2 [.int c])=.ok ⟨.lst .leaf,.list (([0,1,2].filter fun k:Nat=>dA c (k:Int) 3==1).map oz)⟩ (bh 2 [.int c]):=by
  refine gL oz [0,1,2] (fun k:Nat=>dA c (k:Int) 3==1) (fun k=>⟨.leaf,oz k⟩) (st:=true) mi (by simp [bh]) rfl (by simp) (fun k hk=>?_) fun k hk _=>⟨ao rfl,rfl⟩
  exact bJ (ay (cH (az (ao rfl) (az (bc (az (ao rfl) ak) (sN hk)) (az aQ ak))) (AZ (by omega) (by have:=DL hk;omega) (by omega) (by omega)) rfl rfl) aQ KC.eq_int)
 let l:Nat->Str:=fun k=>⟨#[97+k]⟩
 have el:∀L:List Nat,.list (L.map oz)=bw (L.map l):=fun L=>by
  show PyData.list _=PyData.list _
  rw [map_map];rfl
 refine ⟨([0,1,2].filter fun k:Nat=>dA c (k:Int) 3==1).map l,?_,?_,?_,?_⟩
 ·rw [<-el]
  exact aG (aE e rfl)
 ·intro x hx
  obtain ⟨k,hk,rfl⟩:=List.mem_map.mp hx;have:=(List.mem_filter.mp hk).1
  simp at this
  rcases this with rfl | rfl | rfl<;>decide
 ·have key:∀a b d:Bool,bp [bw (((if a then [0] else [])++(if b then [1] else [])++(if d then [2] else [])).map l)]=.ok ⟨.leaf,.bool true⟩:=fun a b d=>by
   have:=d8 (ds:=(((if a then [0] else [])++(if b then [1] else [])++(if d then [2] else [])).map l).map PyData.str) (fun x hx=>by
    obtain ⟨y,hy,rfl⟩:=List.mem_map.mp hx;obtain ⟨k,hk,rfl⟩:=List.mem_map.mp hy;refine ⟨_,rfl,kU ?_⟩
    cases a<;>cases b<;>cases d<;>simp at hk<;>omega) (by cases a<;>cases b<;>cases d<;>simp)
   refine this.trans ?_
   cases a<;>cases b<;>cases d<;>kernel_rfl
  have e3:([0,1,2].filter fun k:Nat=>dA c (k:Int) 3==1)=(if dA c ((0:Nat):Int) 3==1 then [0] else [])++(if dA c ((1:Nat):Int) 3==1 then [1] else [])++(if dA c ((2:Nat):Int) 3==1 then [2] else []):=by
   simp only [filter_cons,List.filter_nil]
   cases dA c ((0:Nat):Int) 3==1<;>cases dA c ((1:Nat):Int) 3==1<;>cases dA c ((2:Nat):Int) 3==1<;>rfl
  rw [e3];exact key _ _ _
 ·rw [length_map]
  exact Nat.le_trans (length_filter_le _ _) (by simp)
noncomputable def vf (P:List (Nat×Nat)) (h r:Nat):Bool:=P.contains (h,r)&&P.contains (r,h)
noncomputable def ur (w:Wd) (rg:List Nat) (m:Str):Bool:=decide (0<(rg.filter fun r=>(w.mks r).contains m).length)
noncomputable def qF (w:Wd) (R:List Nat) (M:List Str) (P:List (Nat×Nat)) (h:Nat):Bool:=decide (0<(R.filter (vf P h)).length)&&(M.filter (ur w (R.filter (vf P h)))==M)
theorem Ao {a b:List Str} (ha:∀x∈a,PyData.strOk x=true) (hb:∀x∈b,PyData.strOk x=true):cJ (bw a) (bw b)=some (.bool (a==b)):=by
 have sh:∀l:List Str,(∀x∈l,PyData.strOk x=true)->shaped (bw l)=true:=fun l h=>nW fun d hd=>by
  obtain ⟨x,hx,rfl⟩:=List.mem_map.mp hd;exact ⟨x,rfl,h x hx⟩
 have eq:∀a b:List Str,PyData.eqvAll (a.map .str) (b.map .str)=(a==b):=fun a=>by
  induction a with
  | nil=>intro b;cases b<;>rw [map_nil]<;>simp [PyData.eqvAll]
  | cons x a ih=>
   intro b
   cases b with
   | nil=>simp [PyData.eqvAll]
   | cons y b=>
    rw [map_cons,map_cons,PyData.eqvAll,ih,PyData.eqv];rfl
 show (if shaped (bw a)&&shaped (bw b) then some (PyData.bool (PyData.eqv (bw a) (bw b))) else none)=_
 rw [sh a ha,sh b hb,Bool.and_self,if_pos rfl];show some (PyData.bool (PyData.eqv (.list (a.map .str)) (.list (b.map .str))))=_
 rw [PyData.eqv,eq]
noncomputable abbrev mm (w:Wd) (R:List Nat) (M:List Str) (P:List (Nat×Nat)) (H:List Nat) (x5 x6 x7:Option PV):Ev:=[some ⟨.leaf,w.enc⟩,some ⟨.leaf,aq R⟩,some ⟨.leaf,bw M⟩,some ⟨.leaf,uq P⟩,some ⟨.lst .leaf,aq H⟩,x5,x6,x7,none,none]
noncomputable abbrev sU:FS:=(au (aB false 6 (aj .leaf 8 (aw (aa 1)) (cE (aA ag (ax (aV false) (bQ (ab (aa 5) (ab (aa 8) ae))) (aa 3))) (aA ag (ax (aV false) (bQ (ab (aa 8) (ab (aa 5) ae))) (aa 3)))) (aa 8)))
  (au (aB false 7 (aj .leaf 9 (aw (aa 2)) (aA ag (ax dW (bb aK (ab (aj .leaf 8 (aw (aa 6)) (aA ag (ax (aV false) (aa 9) (af (af (aa 0) (eK (.int 1))) (aa 8)))) (aa 8)) ae)) (eK (.int 0)))) (aa 9)))
  (bI (cE (aA ag (ax dW (bb aK (ab (aa 6) ae)) (eK (.int 0)))) (aA ag (ax cJ (aa 7) (aa 2)))) (gM 4 (aa 5)) aC)))
theorem AX {w:Wd} (ok:w.Ok) {i:Nat} {s:Sh} {r:Nat} (h0:Γ[i]?=some (some ⟨.leaf,w.enc⟩)) (hb:fb Γ=.ok ⟨s,rm r⟩ Γ) (hr:r<w.n):af (af (aa i) (eK (.int 1))) fb Γ=.ok ⟨.leaf,bw (w.mks r)⟩ Γ:=by
 rw [kP,kP,ao h0];simp only [Out.bind,aQ,Wd.enc,dS,rV,BV]
 rw [hb];simp only [xu]
 rw [ok.at1 hr]
theorem vX {w:Wd} (ok:w.Ok) {R:List Nat} (hR:Std w.n R) (hM:∀c∈M,c∈aN) (hm3:M.length<=3) {P:List (Nat×Nat)} {H:List Nat} (hH:H.length<=900) {h:Nat} {x7:Option PV}:∃y6 y7,sU (mm w R M P H (some ⟨.leaf,rm h⟩) x6 x7)=.nx (mm w R M P (if qF w R M P h then H++[h] else H) (some ⟨.leaf,rm h⟩) y6 y7):=by
 have h24:=ok.h24
 have hl:=hR.len
 have e6:aj .leaf 8 (aw (aa 1)) (cE (aA ag (ax (aV false) (bQ (ab (aa 5) (ab (aa 8) ae))) (aa 3))) (aA ag (ax (aV false) (bQ (ab (aa 8) (ab (aa 5) ae))) (aa 3)))) (aa 8) (mm w R M P H (some ⟨.leaf,rm h⟩) x6 x7)=.ok ⟨.lst .leaf,aq (R.filter (vf P h))⟩ (mm w R M P H (some ⟨.leaf,rm h⟩) x6 x7):=
  gL rm R (vf P h) (fun t=>⟨.leaf,rm t⟩) (st:=true) (aL (s:=.leaf) (ao rfl) rfl) (by simp) rfl (by omega) (fun t ht=>jD (bJ (s:=.leaf) (ay (mI (ao rfl) (ao rfl)) (ao (i:=3) rfl) CT)) (bJ (s:=.leaf) (ay (mI (ao rfl) (ao rfl)) (ao (i:=3) rfl) CT))) (fun t ht _=>⟨ao rfl,rfl⟩)
 have rl:∀r∈R.filter (vf P h),r<w.n:=fun r hr=>hR.lt r (List.mem_filter.mp hr).1
 have rn:(R.filter (vf P h)).length<=24:=Nat.le_trans (length_filter_le _ _) (by omega)
 generalize hrg:R.filter (vf P h)=rg at e6 rl rn
 have e7:aj .leaf 9 (aw (aa 2)) (aA ag (ax dW (bb aK (ab (aj .leaf 8 (aw (aa 6)) (aA ag (ax (aV false) (aa 9) (af (af (aa 0) (eK (.int 1))) (aa 8)))) (aa 8)) ae)) (eK (.int 0)))) (aa 9) (mm w R M P H (some ⟨.leaf,rm h⟩) (some ⟨.leaf,aq rg⟩) x7)=.ok ⟨.lst .leaf,bw (M.filter (ur w rg))⟩ (mm w R M P H (some ⟨.leaf,rm h⟩) (some ⟨.leaf,aq rg⟩) x7):=by
  refine gL PyData.str M (ur w rg) (fun t=>⟨.leaf,.str t⟩) (st:=true) (aL (s:=.leaf) (ao rfl) rfl) (by simp) rfl (by omega) (fun m hm=>?_) (fun t ht _=>⟨ao rfl,rfl⟩)
  have hs:=(qK (hM m hm)).1
  have c:aj .leaf 8 (aw (aa 6)) (aA ag (ax (aV false) (aa 9) (af (af (aa 0) (eK (.int 1))) (aa 8)))) (aa 8) ((mm w R M P H (some ⟨.leaf,rm h⟩) (some ⟨.leaf,aq rg⟩) x7).set 9 (some ⟨.leaf,.str m⟩))=.ok ⟨.lst .leaf,.list ((rg.filter fun r=>(w.mks r).contains m).map fun r=>rm r)⟩ ((mm w R M P H (some ⟨.leaf,rm h⟩) (some ⟨.leaf,aq rg⟩) x7).set 9 (some ⟨.leaf,.str m⟩)):=
   gL rm rg (fun r=>(w.mks r).contains m) (fun t=>⟨.leaf,rm t⟩) (st:=true) (aL (s:=.leaf) (ao rfl) rfl) (by simp) rfl (by omega) (fun r hr=>bJ (s:=.leaf) (ay (ao rfl) (AX ok rfl (ao rfl) (rl r hr)) (xS hs (w9 ok r)))) (fun t ht _=>⟨ao rfl,rfl⟩)
  have g:=bJ (s:=.leaf) (ay (g:=dW) (bc (g:=aK) (d:=.int ((rg.filter fun r=>(w.mks r).contains m).length:Int)) (az c ak) (by simp)) (aQ (d:=.int 0)) (show _=some (PyData.bool (decide ((0:Int)<((rg.filter fun r=>(w.mks r).contains m).length:Int)))) from rfl))
  have:ur w rg m=decide ((0:Int)<((rg.filter fun r=>(w.mks r).contains m).length:Int)):=decide_eq_decide.mpr (by omega)
  rw [this];exact g
 have hMs:∀x∈M,PyData.strOk x=true:=fun x hx=>(qK (hM x hx)).1
 have t:=jD (Γ:=mm w R M P H (some ⟨.leaf,rm h⟩) (some ⟨.leaf,aq rg⟩) (some ⟨.leaf,bw (M.filter (ur w rg))⟩)) (bJ (s:=.leaf) (ay (g:=dW) (bc (g:=aK) (d:=.int (rg.length:Int)) (az (ao (i:=6) rfl) ak) (by simp)) (aQ (d:=.int 0)) (show _=some (PyData.bool (decide ((0:Int)<(rg.length:Int)))) from rfl))) (bJ (s:=.leaf) (ay (g:=cJ) (ao (i:=7) rfl) (ao (i:=2) rfl) (Ao (fun x hx=>hMs x (List.mem_filter.mp hx).1) hMs)))
 have hv:qF w R M P h=(decide ((0:Int)<(rg.length:Int))&&(M.filter (ur w rg)==M)):=by
  unfold qF;rw [hrg,show decide (0<rg.length)=decide ((0:Int)<(rg.length:Int)) from decide_eq_decide.mpr (by omega)]
 rw [<-hv] at t;refine ⟨some ⟨.leaf,aq rg⟩,some ⟨.leaf,bw (M.filter (ur w rg))⟩,ai (dC e6 rfl (by simp)) (ai (dC e7 rfl (by simp)) (aO t (fun ht=>?_) fun ht=>?_))⟩
 ·rw [ht]
  refine (Bv (i:=4) (s:=.leaf) (ds:=H.map rm) (fa:=aa 5) (p:=⟨.leaf,rm h⟩) (Γ:=mm w R M P H (some ⟨.leaf,rm h⟩) (some ⟨.leaf,aq rg⟩) (some ⟨.leaf,bw (M.filter (ur w rg))⟩)) rfl (ao rfl) rfl (by simpa using hH)).trans ?_
  simp [aq]
 ·rw [ht]
  rfl
noncomputable def dueL (w:Wd) (R:List Nat) (M:List Str) (P:List (Nat×Nat)):List Nat:=R.filter fun r=>(R.filter (qF w R M P)).contains r||decide (0<((R.filter (qF w R M P)).filter fun h=>P.contains (r,h)).length)
theorem den_lfair {w:Wd} (ok:w.Ok) {R:List Nat} (hR:Std w.n R) (hM:∀c∈M,c∈aN) (hm3:M.length<=3) {P:List (Nat×Nat)} (ep:cD [w.enc,aq R]=.ok ⟨.lst .leaf,uq P⟩):dJ [w.enc,aq R,bw M]=.ok ⟨.lst .leaf,aq (dueL w R M P)⟩:=by
 have h24:=ok.h24
 have hl:=hR.len
 obtain ⟨Γ1,e1,D,hD,hlD,x5,x6,x7,hΓ⟩:=Bw rm (i:=5) (body:=sU) (Inv:=fun rest Γ=>∃D,D++rest=R/\D.length+rest.length=R.length/\∃x5 x6 x7,Γ=mm w R M P (D.filter (qF w R M P)) x5 x6 x7)
  (fun a rest Γ ⟨D,hD,hlD,x5,x6,x7,e⟩=>by
   subst e;simp only [length_cons] at hlD
   have:=length_filter_le (qF w R M P) D
   obtain ⟨y6,y7,e⟩:=vX ok hR hM hm3 (P:=P) (H:=D.filter (qF w R M P)) (by omega) (h:=a) (x6:=x6) (x7:=x7)
   refine ⟨by simp,_,e,D++[a],by simp [hD],by simp;omega,some ⟨.leaf,rm a⟩,y6,y7,?_⟩
   rw [List.filter_append,filter_cons,List.filter_nil]
   cases qF w R M P a<;>simp) R (mm w R M P [] none none none) ⟨[],rfl,by simp,none,none,none,rfl⟩
 have hD:D=R:=by simpa using hD
 subst hD;subst hΓ;generalize hH:D.filter (qF w D M P)=H at e1
 have lH:H.length<=24:=by
  rw [<-hH];exact Nat.le_trans (length_filter_le _ _) (by omega)
 have e2:aj .leaf 8 (aw (aa 1)) (cX (aA ag (ax (aV false) (aa 8) (aa 4))) (aA ag (ax dW (bb aK (ab (aj .leaf 5 (aw (aa 4)) (aA ag (ax (aV false) (bQ (ab (aa 8) (ab (aa 5) ae))) (aa 3))) (aa 5)) ae)) (eK (.int 0))))) (aa 8) (mm w D M P H x5 x6 x7)=.ok ⟨.lst .leaf,.list ((D.filter fun r=>H.contains r||decide (0<(H.filter fun h=>P.contains (r,h)).length)).map fun r=>rm r)⟩ (mm w D M P H x5 x6 x7):=by
  refine gL rm D (fun r=>H.contains r||decide (0<(H.filter fun h=>P.contains (r,h)).length)) (fun t=>⟨.leaf,rm t⟩) (st:=true) (aL (s:=.leaf) (ao rfl) rfl) (by simp) rfl (by omega) (fun r hr=>?_) (fun t ht _=>⟨ao rfl,rfl⟩)
  have c:aj .leaf 5 (aw (aa 4)) (aA ag (ax (aV false) (bQ (ab (aa 8) (ab (aa 5) ae))) (aa 3))) (aa 5) ((mm w D M P H x5 x6 x7).set 8 (some ⟨.leaf,rm r⟩))=.ok ⟨.lst .leaf,.list ((H.filter fun h=>P.contains (r,h)).map fun r=>rm r)⟩ ((mm w D M P H x5 x6 x7).set 8 (some ⟨.leaf,rm r⟩)):=
   gL rm H (fun h=>P.contains (r,h)) (fun t=>⟨.leaf,rm t⟩) (st:=false) (aL (s:=.view) (jh rfl) zy) (by simp) rfl (by omega) (fun h hh=>bJ (s:=.leaf) (ay (mI (ao rfl) (ao rfl)) (ao (i:=3) rfl) CT)) (fun t ht _=>⟨ao rfl,rfl⟩)
  rw [show decide (0<(H.filter fun h=>P.contains (r,h)).length)=decide ((0:Int)<((H.filter fun h=>P.contains (r,h)).length:Int)) from decide_eq_decide.mpr (by omega)]
  exact cG (bJ (s:=.leaf) (ay (ao rfl) (jh (i:=4) rfl) uA)) (bJ (s:=.leaf) (ay (g:=dW) (bc (g:=aK) (d:=.int ((H.filter fun h=>P.contains (r,h)).length:Int)) (az c ak) (by simp)) (aQ (d:=.int 0)) rfl))
 have ed:dueL w D M P=D.filter fun r=>H.contains r||decide (0<(H.filter fun h=>P.contains (r,h)).length):=by
  unfold dueL;rw [hH]
 rw [ed];refine aG (ai (dC (cH (az (ao rfl) (az (ao rfl) ak)) ep rfl rfl) rfl (by simp [bh])) ?_)
 refine ai (Γ1:=mm w D M P [] none none none) (mE (nJ (s:=.leaf) ak rfl rfl rfl) rfl (by simp [bh])) ?_
 exact ai (bu (aL (s:=.leaf) (ds:=D.map rm) (ao rfl) rfl) e1) (aE e2 rfl)
theorem due_iff {w:Wd} {R:List Nat} {P:List (Nat×Nat)} (hP:∀a b,(a,b)∈P↔Rc (Eg w.stp R) a b) {r:Nat}:r∈dueL w R M P↔Due w.stp R M (vO w) r:=by
 have hm:∀h,h∈R.filter (qF w R M P)↔uc w.stp R M (vO w) h:=fun h=>by
  have rg:∀x,x∈R.filter (vf P h)↔Rc (Eg w.stp R) h x/\Rc (Eg w.stp R) x h:=fun x=>by
   rw [mem_filter];unfold vf;rw [Bool.and_eq_true,contains_iff_mem,contains_iff_mem,hP,hP];exact ⟨fun z=>z.2,fun z=>⟨(tF z.1).2,z⟩⟩
  rw [mem_filter];unfold qF;rw [Bool.and_eq_true,decide_eq_true_eq,beq_iff_eq,List.filter_eq_self];constructor
  ·rintro ⟨h1,h2,h3⟩
   obtain ⟨x,hx⟩:=List.exists_mem_of_length_pos h2;obtain ⟨q1,q2⟩:=(rg x).mp hx;refine ⟨h1,q1.trans q2,fun m hm=>?_⟩
   have:=h3 m hm
   unfold ur at this;rw [decide_eq_true_eq] at this;obtain ⟨y,hy⟩:=List.exists_mem_of_length_pos this;obtain ⟨a,b⟩:=List.mem_filter.mp hy;obtain ⟨q1,q2⟩:=(rg y).mp a;exact ⟨y,q1,q2,by simpa using b⟩
  ·intro z
   refine ⟨z.m,length_pos_of_mem ((rg h).mpr ⟨z.r,z.r⟩),fun m hm=>?_⟩
   obtain ⟨x,q1,q2,k⟩:=z.k m hm;unfold ur;rw [decide_eq_true_eq];exact length_pos_of_mem (List.mem_filter.mpr ⟨(rg x).mpr ⟨q1,q2⟩,by simpa using k⟩)
 unfold dueL;rw [mem_filter,Bool.or_eq_true,contains_iff_mem,decide_eq_true_eq,hm];constructor
 ·rintro ⟨h1,h2 | h2⟩
  ·exact ⟨h1,.inl h2⟩
  ·obtain ⟨y,hy⟩:=List.exists_mem_of_length_pos h2
   obtain ⟨a,b⟩:=List.mem_filter.mp hy;exact ⟨h1,.inr ⟨y,(hm y).mp a,(hP r y).mp (by simpa using b)⟩⟩
 ·rintro ⟨h1,h2 | ⟨h,h2,h3⟩⟩
  ·exact ⟨h1,.inl h2⟩
  ·exact ⟨h1,.inr (length_pos_of_mem (List.mem_filter.mpr ⟨(hm h).mpr h2,by simpa using (hP r h).mpr h3⟩))⟩
theorem AB {w:Wd} (ok:w.Ok):PyData.canLay0 w.enc=true/\PyData.depth w.enc<=3:=by
 have h:=ok.g.wk (b:=24) ok.h24
 have o:=AC h.o
 have m:=oO fun r hr=>let ⟨xs,e,q,_⟩:=h.m r hr;⟨xs,e,CB q⟩
 have s:=oO fun r hr=>let ⟨xs,e,q,_⟩:=h.s r hr;⟨xs,e,AC q⟩
 simp only [Wd.enc,dS,PyData.canLay0,PyData.canLayAll0,PyData.depth,PyData.depthAll,o.1,m.1,s.1,o.2,Bool.and_self,Bool.true_and,true_and]
 have:=m.2
 have:=s.2
 omega
theorem sh_handed {w:Wd} (ok:w.Ok) {R:List Nat} (hM:∀x∈M,PyData.strOk x=true):shaped (.list [w.enc,aq R,bw M])=true:=by
 have h1:=AB ok
 have h2:=AC (xs:=R.map rm) fun a ha=>by
  obtain ⟨t,_,e⟩:=List.mem_map.mp ha;exact ⟨(t:Int),e.symm⟩
 have h3:=CB (xs:=M.map .str) fun a ha=>by
  obtain ⟨t,ht,e⟩:=List.mem_map.mp ha;exact ⟨t,e.symm,hM t ht⟩
 have c2:PyData.canLay0 (aq R)=true:=by
  show PyData.canLay0 (.list (R.map rm))=true
  rw [PyData.canLay0];exact h2.1
 have c3:PyData.canLay0 (bw M)=true:=by
  show PyData.canLay0 (.list (M.map .str))=true
  rw [PyData.canLay0];exact h3.1
 have d2:PyData.depth (aq R)<=1:=by
  show PyData.depth (.list (R.map rm))<=1
  rw [PyData.depth,h2.2];omega
 have d3:PyData.depth (bw M)<=1:=by
  show PyData.depth (.list (M.map .str))<=1
  rw [PyData.depth,h3.2];omega
 have d1:=h1.2
 have e1:=h1.1
 generalize aq R=A at c2 d2
 generalize bw M=B at c3 d3
 generalize w.enc=C at e1 d1
 simp only [shaped,PyData.canLay0,PyData.canLayAll0,PyData.depth,PyData.depthAll,e1,c2,c3,Bool.and_self,Bool.true_and,decide_eq_true_eq]
 exact decide_eq_true (by omega)
end KQ
namespace KC
open PySem PySem.Spec L2 T PySem.SeqAt
open PyProof.Rows hiding St
section
variable {n:Nat} {st:Nat->List Nat} {ch:Nat->Bool} {goal thr:List Nat} {rk:List (Option Nat)}
theorem m7 (R:RightG n st ch thr goal rk) (F:DI st ch goal rk) (cl:∀r t,t∈st r->t<n) {r j:Nat} (hr:r<n) (e:bf rk r=some (j+1)):∃t,t<n/\bf rk t=some j:=by
 have hg:r∉goal:=fun z=>by have:=R.g r hr z;rw [e] at this;cases this
 refine Classical.byContradiction fun no=>F r (j+1) hg e (xf (R.p r (j+1) hr hg e).2.2 fun t ht ⟨i,ei,hi⟩=>⟨i,ei,?_⟩)
 have:i≠j:=fun z=>no ⟨t,cl r t ht,by rw [ei,z]⟩
 omega
theorem lL (R:RightG n st ch thr goal rk) (F:DI st ch goal rk) (cl:∀r t,t∈st r->t<n):∀j r,r<n->bf rk r=some j->∀i,i<=j->∃t,t<n/\bf rk t=some i
 | 0,r,hr,e,i,hi=>⟨r,hr,by rw [e,Nat.le_zero.mp hi]⟩
 | j+1,r,hr,e,i,hi=>by
  by_cases q:i=j+1
  ·exact ⟨r,hr,by rw [e,q]⟩
  ·obtain ⟨t,ht,et⟩:=m7 R F cl hr e
   exact lL R F cl j t ht et i (by omega)
open Classical in
theorem wj (R:RightG n st ch thr goal rk) (F:DI st ch goal rk) (cl:∀r t,t∈st r->t<n) {j r:Nat} (hr:r<n) (e:bf rk r=some j):j<n:=by
 have h:=lL R F cl j r hr e
 let f:Nat->Nat:=fun i=>if q:i<=j then choose (h i q) else 0
 have hf:∀i,i<=j->f i<n/\bf rk (f i)=some i:=fun i q=>by
  have:=choose_spec (h i q)
  show (if q:i<=j then choose (h i q) else 0)<n/\_
  simp only [f,dif_pos q]
  exact this
 have:=Bo (p:=(List.range (j+1)).map f) (n:=n) (by
  unfold List.Nodup;rw [pairwise_map];refine List.Pairwise.imp_of_mem (fun {a b} ha hb ne=>fun z=>ne ?_) List.nodup_range
  have e1:=(hf a (by have:=List.mem_range.mp ha;omega)).2
  have e2:=(hf b (by have:=List.mem_range.mp hb;omega)).2
  rw [z,e2] at e1
  cases e1;rfl) (fun x hx=>by
  obtain ⟨i,hi,rfl⟩:=List.mem_map.mp hx;exact (hf i (by have:=List.mem_range.mp hi;omega)).1)
 simp at this
 omega
end
end KC
namespace T
open PySem
variable {k:Int} {n ep sl:Nat} {b:Bool} {t:SetTable} {h h':Heap} {S:Int->Bool} {ns:List Int} {α:Type} {M:Model} {p2 pos2:Pos}
theorem D5 {xs:Array Nat} {j p:Nat} (hp:∀k,k<xs.size->(xs.getD k j<j↔k<p)):∀(fuel lo hi:Nat),lo<=p->p<=hi->hi<=xs.size->hi-lo<=fuel->SetTable.below.go xs j fuel lo hi=p
 | 0,lo,hi,h1,h2,h3,h4=>by
  unfold SetTable.below.go;omega
 | n+1,lo,hi,h1,h2,h3,h4=>by
  unfold SetTable.below.go;by_cases c:lo<hi
  ·rw [if_pos c]
   have hm:=hp ((lo+hi) / 2) (by omega)
   simp only
   by_cases d:xs.getD ((lo+hi) / 2) j<j
   ·rw [if_pos d]
    have:=hm.mp d
    exact D5 hp n _ _ (by omega) h2 h3 (by omega)
   ·rw [if_neg d]
    have:¬(lo+hi) / 2<p:=fun z=>d (hm.mpr z)
    exact D5 hp n _ _ h1 (by omega) (by omega) (by omega)
  ·rw [if_neg c]
   omega
theorem D6 {xs:Array Nat} {j p:Nat} (hp:∀k,k<xs.size->(xs.getD k j<j↔k<p)) (hs:p<=xs.size):SetTable.below xs j=p:=D5 hp xs.size 0 xs.size (Nat.zero_le _) hs (Nat.le_refl _) (by omega)
def Rs (xs:Array Nat):Prop:=xs.toList.Pairwise (· < ·)
theorem Rs.lt {xs:Array Nat} (h:Rs xs) {i k:Nat} (hi:i<xs.size) (hk:k<xs.size) (hik:i<k):xs[i]<xs[k]:=by
 have:=(List.pairwise_iff_getElem.mp h) i k (by simpa using hi) (by simpa using hk) hik
 simpa using this
theorem nE {xs:Array Nat}:SetTable.below xs 0=0:=D6 (fun k _=>by simp) (Nat.zero_le _)
theorem yb {xs:Array Nat} {k j:Nat} (hk:k<xs.size):xs.getD k j=xs[k]:=by
 unfold Array.getD;rw [dif_pos hk];rfl
theorem nF {xs:Array Nat} (h:Rs xs) {i:Nat} (hi:i<xs.size):SetTable.below xs (xs[i]+1)=i+1:=by
 refine D6 (fun k hk=>?_) (by omega)
 rw [yb hk];rcases Nat.lt_trichotomy k i with c | c | c
 ·have:=h.lt hk hi c
  omega
 ·subst c
  omega
 ·have:=h.lt hi hk c
  omega
theorem g9 (j:Nat):∀(l:List Nat),l.Pairwise (· < ·)->∀k,k<l.length->(l.getD k j<j↔k<l.countP (·<j))
 | [],_,k,hk=>by simp at hk
 | a::l,h,k,hk=>by
  obtain ⟨h1,h2⟩:=List.pairwise_cons.mp h;rw [List.countP_cons];by_cases c:a<j
  ·simp only [c,decide_true,if_true]
   cases k with
   | zero=>simpa using c
   | succ k=>
    have:=g9 j l h2 k (by simpa using hk)
    simp only [List.getD_cons_succ]
    omega
  ·have z:l.countP (·<j)=0:=List.countP_eq_zero.mpr fun b hb=>by
    have:=h1 b hb
    simp
    omega
   simp only [c,decide_false,Bool.false_eq_true,if_false,z]
   cases k with
   | zero=>simp;omega
   | succ k=>
    have hk':k<l.length:=by simpa using hk
    simp only [List.getD_cons_succ]
    rw [getD_eq_getElem?_getD,getElem?_eq_getElem hk'];have:=h1 _ (getElem_mem hk')
    simp only [Option.getD_some]
    omega
theorem Rs.point {xs:Array Nat} (h:Rs xs) (j:Nat):(∀k,k<xs.size->(xs.getD k j<j↔k<SetTable.below xs j))/\SetTable.below xs j<=xs.size:=by
 have hp:∀k,k<xs.size->(xs.getD k j<j↔k<xs.toList.countP (·<j)):=fun k hk=>by
  have:=g9 j xs.toList h k (by simpa using hk)
  rw [getD_eq_getElem?_getD,getElem?_eq_getElem (by simpa using hk)] at this
  rw [yb hk];simpa using this
 have hc:xs.toList.countP (·<j)<=xs.size:=by
  have:=List.countP_le_length (p:=(·<j)) (l:=xs.toList)
  simpa using this
 rw [D6 hp hc];exact ⟨hp,hc⟩
theorem Rs.insert {xs:Array Nat} (h:Rs xs) {j:Nat} (hj:xs[SetTable.below xs j]?≠some j):Rs (SetTable.insertAt xs (SetTable.below xs j) j):=by
 obtain ⟨hp,hs⟩:=h.point j;generalize SetTable.below xs j=p at hp hs hj
 unfold Rs SetTable.insertAt;have e:(((xs.extract 0 p).push j)++xs.extract p xs.size).toList=xs.toList.take p++[j]++xs.toList.drop p:=by
  simp [Array.toList_extract,List.extract]
  rw [List.take_of_length_le (by simp)]
 rw [e,append_assoc,List.pairwise_append];have low:∀a∈xs.toList.take p,a<j:=fun a ha=>by
  obtain ⟨k,hk,rfl⟩:=getElem_of_mem ha;rw [List.length_take] at hk;have hk':k<xs.size:=by
   have:k<xs.toList.length:=by omega
   simpa using this
  have:=(hp k hk').mpr (by omega)
  rw [yb hk'] at this;simpa using this
 have up:∀a∈xs.toList.drop p,j<a:=fun a ha=>by
  obtain ⟨k,hk,rfl⟩:=getElem_of_mem ha;rw [List.length_drop,Array.length_toList] at hk;have hk':p+k<xs.size:=by omega
  have q:¬xs.getD (p+k) j<j:=fun z=>by have:=(hp (p+k) hk').mp z;omega
  rw [yb hk'] at q;have e1:(xs.toList.drop p)[k]=xs[p+k]:=by simp
  rw [e1];have hne:xs[p+k]≠j:=fun z=>by
   cases k with
   | zero=>
    simp only [Nat.add_zero] at z
    exact hj (by rw [Array.getElem?_eq_getElem (by omega),z])
   | succ k=>
    have hp':p<xs.size:=by omega
    have q0:¬xs.getD p j<j:=fun z=>by have:=(hp p hp').mp z;omega
    rw [yb hp'] at q0;have:=h.lt hp' hk' (by omega)
    omega
  omega
 refine ⟨h.sublist (List.take_sublist _ _),?_,fun a ha b hb=>?_⟩
 ·rw [List.singleton_append,List.pairwise_cons]
  exact ⟨up,h.sublist (List.drop_sublist _ _)⟩
 ·have l1:=low a ha
  rw [List.singleton_append] at hb;rcases List.mem_cons.mp hb with rfl | hb
  ·exact l1
  ·have:=up b hb
   omega
theorem rH:Rs (Array.range n):=by
 unfold Rs;rw [Array.toList_range];exact List.pairwise_lt_range
structure Tb (b:Bool) (t:SetTable):Prop where
 led:b=false->t.led=true
 rs:Rs t.place
 nd:t.dummies=#[]
theorem Tb.fresh:Tb b (.fresh 0 0 (!b)):=⟨fun e=>by rw [e];rfl,List.Pairwise.nil,rfl⟩
theorem Tb.standIn (h:Tb b t) (n:Nat):Tb b (t.standIn n):=⟨h.led,rH,rfl⟩
theorem Tb.orStandIn (h:Tb b t) (n:Nat):Tb b (t.orStandIn n):=by
 unfold SetTable.orStandIn;split
 ·exact h
 ·exact h.standIn n
theorem Tb.plain {b:Bool} {t:SetTable} (h:Tb b t) (p:Bool):Tb b { t with plain:=p }:=⟨h.led,h.rs,h.nd⟩
theorem lg {j:Nat}:SetTable.has #[] j=false:=by
 unfold SetTable.has;simp
theorem Tb.put (h:Tb b t) {j:Nat} (hj:t.place[SetTable.below t.place j]?≠some j):Tb b (t.put j).1:=by
 refine ⟨h.led,h.rs.insert hj,?_⟩
 show (if SetTable.has t.dummies j=true then _ else t.dummies)=#[]
 rw [h.nd,lg];rfl
theorem fS {b:Bool} {t:SetTable} (h:Tb b t) {ha:Nat->Int} {k:Int}:∀(fuel:Nat) (p:SetTable.Probe),p.dummy=none->∀j d,SetTable.probe.go t ha k fuel p=some (.empty j d)->d=none/\t.place[SetTable.below t.place j]?≠some j
 | 0,p,_,j,d,e=>by unfold SetTable.probe.go at e;cases e
 | n+1,p,hp,j,d,e=>by
  unfold SetTable.probe.go at e;have adv:(t.advance p).dummy=none:=by
   unfold SetTable.advance;split
   ·exact hp
   ·exact hp
  cases q:t.slot p.j with
  | empty=>
   rw [q] at e;simp only [Option.some.injEq,SetTable.Met.empty.injEq] at e
   obtain ⟨rfl,rfl⟩:=e;refine ⟨hp,fun z=>?_⟩
   unfold SetTable.slot at q;simp only [z,beq_self_eq_true,if_true] at q
   cases q
  | dummy=>
   unfold SetTable.slot at q;simp only [h.nd,lg] at q
   split at q<;>simp at q
  | live i=>
   rw [q] at e;simp only at e
   split at e
   ·cases e
   ·exact fS h n _ adv j d e
theorem Tb.free (h:Tb b t) {j:Nat} {d:Bool} (e:t.freeSlot k=some (j,d)):t.place[SetTable.below t.place j]?≠some j:=by
 unfold SetTable.freeSlot at e
 cases q:t.probe (fun _=>k+1) k (t.probeStart k) with
 | none=>rw [q] at e;cases e
 | some m=>
  rw [q] at e
  cases m with
  | candidate _ _ _=>cases e
  | empty i x=>
   obtain ⟨rfl,hi⟩:=fS h _ _ rfl i x q;simp only [Option.some.injEq,Prod.mk.injEq] at e
   obtain ⟨rfl,_⟩:=e;exact hi
theorem Tb.layNew (h:Tb b t) (es:Array (Int×Value)) (k:Int) (x:Value):Tb b (PySem.layNew t es k x).2.1:=by
 unfold PySem.layNew
 cases e:t.freeSlot k with
 | none=>exact h.standIn _
 | some jd=>
  obtain ⟨j,d⟩:=jd;exact (h.put (h.free e)).orStandIn _
theorem vQ {led plain:Bool} {mask fg mv:Nat} {hs:Array Int} {o:Array Nat} (hl:b=false->led=true) (e:SetTable.laid mask fg mv led plain hs=some (t,o)):Tb b t:=by
 unfold SetTable.laid at e
 cases q:SetTable.layClean mask hs with
 | none=>rw [q] at e;cases e
 | some ow=>
  rw [q] at e;simp only [Option.bind_eq_bind,Option.bind_some,Option.pure_def,Option.some.injEq,Prod.mk.injEq] at e
  obtain ⟨rfl,_⟩:=e;refine ⟨hl,?_,rfl⟩
  unfold Rs;simp only [List.toList_toArray]
  rw [pairwise_map];refine List.Pairwise.filterMap _ (R:=(· < ·)) (fun a a' haa' c hc c' hc'=>?_) List.pairwise_lt_range
  cases x:ow.getD a none with
  | none=>rw [x] at hc;cases hc
  | some y=>
   cases x':ow.getD a' none with
   | none=>rw [x'] at hc';cases hc'
   | some y'=>
    rw [x] at hc;rw [x'] at hc'
    cases hc
    cases hc'
    exact haa'
theorem Tb.relay (h:Tb b t) (es:Array (Int×Value)) (n:Nat):Tb b (relayAll t es n).2.1:=by
 unfold relayAll
 cases e:t.relaid (es.map (·.1)) n with
 | none=>exact h.standIn _
 | some to=>
  obtain ⟨t',o⟩:=to;simp only
  split
  ·unfold SetTable.relaid at e
   exact vQ h.led e
  ·exact h.standIn _
open PySem.Spec L2
open PyProof.Rows hiding St
abbrev cS (w:World):Bool:=w.params.followText "set-order"
def SetT (P:Program) (w:World) (h:Heap) (a:Addr) (S:Int->Bool) (n:Nat):Prop:=
 ∃o es ep t,h.get? a=some o/\o.ExactSet/\o.data=.set es ep t/\ElemsOf (intKind P w) es.toList/\(∀k,S k=true↔∃e∈es.toList,(intKind P w).is k e.2=true)/\es.size<scanBound/\t.fits es.size=true/\es.size=n/\Tb (cS w) t
section
variable {P:Program} {w:World} {A:Around} {E:Value->Shared->Prop} {s:Shared}
theorem SetT.at {a:Addr} (x:SetT P w h a S n) (k:∀o,h.get? a=some o->h'.get? a=some o):SetT P w h' a S n:=by
 obtain ⟨o,es,ep,t,ho,r⟩:=x;exact ⟨o,es,ep,t,k o ho,r⟩
theorem SetT.congr {a:Addr} {S':Int->Bool} {n':Nat} (x:SetT P w h a S n) (e:∀k,S k=S' k) (en:n=n'):SetT P w h a S' n':=by
 have:S=S':=funext e
 subst this en;exact x
theorem nV {a:Addr} {o:Obj} {es es':Array (Int×Value)} {t':SetTable} (ho:h.get? a=some o) (hex:o.ExactSet) (hd:o.data=.set es ep t) (hel:ElemsOf (intKind P w) es'.toList) (hm:∀k,S k=true↔∃e∈es'.toList,(intKind P w).is k e.2=true) (hb:es'.size<scanBound) (hf:t'.fits es'.size=true) (tb:Tb (cS w) t') :
  (h.update a (Obj.putSet es' t')).get? a=some { o with data:=.set es' (ep+1) t' }/\SetT P w (h.update a (Obj.putSet es' t')) a S es'.size:=by
 have q:=(SetOf_store (knd:=intKind P w) ho hex hd hel hm hb hf).1
 exact ⟨q,_,es',ep+1,t',q,hex,rfl,hel,hm,hb,hf,rfl,tb⟩
theorem CK {a:Addr} {x:Value} {Q:Bool->Shared->Prop} (hk:(intKind P w).is k x=true) (hx:x.scannable=true) (hS:SetT P w s.heap a S n) (hr:n+1<scanBound)
  (h:∀h',Heap.SameBut a s.heap h'->SetT P w h' a (fun i=>S i||decide (i=k)) (if S k then n else n+1)->∀b,Q b { s with heap:=h' }):wpAny (model P w) A (setAddHashed a x ((intKind P w).hash k)) Q E s:=by
 obtain ⟨o,es,ep,t,ho,hex,hd,hel,hm,hb,hf,hn,tb⟩:=hS;unfold setAddHashed setAddHashedIn;refine wpAny_holding (wpAny_bind (wpAny_setState_of ho hd hf ?_))
 dsimp only;rw [byScan_of hx hb hel,if_pos rfl];unfold setAddByScan;refine wpAny_bind (wpAny_bind (wpAny_rule (wpAny_bind (wpAny_setScan_of hk ho hd hf hel ?_))))
 cases q:List.findIdx? (fun e=>(intKind P w).is k e.2) es.toList with
 | some j=>
  dsimp only;obtain ⟨hj,hp,_⟩:=List.findIdx?_eq_some_iff_getElem.mp q
  have sk:S k=true:=(hm k).mpr ⟨_,getElem_mem hj,hp⟩
  refine wpAny_pure (wpAny_pure ?_)
  have z:=h s.heap (Heap.SameBut.refl a s.heap) ⟨o,es,ep,t,ho,hex,hd,hel,fun i=>?_,hb,hf,by rw [sk];exact hn,tb⟩ false
  ·have es':s={ s with heap:=s.heap }:=by cases s;rfl
   rw [es'];exact z
  ·rw [Bool.or_eq_true,decide_eq_true_eq,<-hm i]
   exact ⟨fun y=>y.elim id fun e=>e▸sk,.inl⟩
 | none=>
  dsimp only;have sk:S k=false:=by
   cases e:S k with
   | false=>rfl
   | true=>
    obtain ⟨y,hy,hp⟩:=(hm k).mp e;have:=List.findIdx?_eq_none_iff.mp q y hy
    rw [hp] at this
    cases this
  have pm:=layNew_perm t es ((intKind P w).hash k) x
  have ft:=layNew_fits t es ((intKind P w).hash k) x
  have tb1:=tb.layNew es ((intKind P w).hash k) x
  generalize layNew t es ((intKind P w).hash k) x=L at pm ft tb1 ⊢
  obtain ⟨e1,t1,wd,gv⟩:=L;dsimp only at pm ft tb1 ⊢
  rw [Array.toList_push] at pm;have el1:ElemsOf (intKind P w) e1.toList:=(hel.push hk hx).perm pm
  have m1:=fun i=>mem_push_iff hk hm pm i
  have sz:e1.size=n+1:=by rw [<-Array.length_toList,pm.length_eq,length_append,Array.length_toList,hn];rfl
  have b1:e1.size<scanBound:=by rw [sz];exact hr
  have gw:∀(b:Bool) {s1:Shared} {R:Unit->Shared->Prop},R () s1->wpAny (model P w) A (match b with | true=>rule "set.scan.the-table-gave-way" | false=>pure ()) R E s1:=fun b s1 R y=>by
   cases b
   ·exact wpAny_pure y
   ·exact wpAny_rule y
  have fin:∀h',Heap.SameBut a s.heap h'->SetT P w h' a (fun i=>S i||decide (i=k)) e1.size->∀b,Q b { s with heap:=h' }:=fun h' sb y=>by
   have:=h h' sb
   rw [sk] at this;rw [sz] at y;exact this y
  have tail:∀t2:SetTable,t2.fits e1.size=true->Tb (cS w) t2->∀{R:Option Bool->Shared->Prop},(∀h',(∀b,Q b { s with heap:=h' })->R (some true) { s with heap:=h' })->wpAny (model P w) A (do
    storeSet a e1 t2
    if (!wd&&t2.tooFull)=true then do
      (match (relayAll t2 e1 (SetTable.grown e1.size)).2.2 with | true=>rule "set.scan.the-table-gave-way" | false=>pure ())
      storeSet a (relayAll t2 e1 (SetTable.grown e1.size)).1 (relayAll t2 e1 (SetTable.grown e1.size)).2.1
      pure (some true)
     else pure (some true)) R E s:=fun t2 f2 tb2 R hR=>by
   refine wpAny_bind (wpAny_storeSet_of ho hd ?_ (fits_of_scanBound b1))
   obtain ⟨g1,s1⟩:=nV ho hex hd el1 m1 b1 f2 tb2;have sb1:=Heap.SameBut.update s.heap a (Obj.putSet e1 t2)
   split
   ·have pr:=relayAll_perm t2 e1 (SetTable.grown e1.size)
    have fr:=relayAll_fits t2 e1 (SetTable.grown e1.size)
    have tr:=tb2.relay e1 (SetTable.grown e1.size)
    generalize relayAll t2 e1 (SetTable.grown e1.size)=Rl at pr fr tr ⊢
    obtain ⟨e2,t3,g2⟩:=Rl;dsimp only at pr fr tr ⊢
    have sz2:e2.size=e1.size:=by rw [<-Array.length_toList,pr.length_eq,Array.length_toList]
    have b2:e2.size<scanBound:=by rw [sz2];exact b1
    refine wpAny_bind (gw _ (wpAny_bind (wpAny_storeSet_of g1 rfl ?_ (fits_of_scanBound b2))))
    obtain ⟨_,s2⟩:=nV (P:=P) (S:=fun i=>S i||decide (i=k)) g1 hex rfl (el1.perm pr) (fun i=>(m1 i).trans ⟨fun ⟨e,he,y⟩=>⟨e,pr.mem_iff.mpr he,y⟩,fun ⟨e,he,y⟩=>⟨e,pr.mem_iff.mp he,y⟩⟩) b2 fr tr
    rw [sz2] at s2;exact wpAny_pure (hR _ (fin _ (sb1.trans (Heap.SameBut.update _ a _)) s2))
   ·exact wpAny_pure (hR _ (fin _ sb1 s1))
  refine wpAny_bind (gw _ ?_)
  split
  ·refine wpAny_bind ?_
   rw [hashByValue_scannable 8 hx];refine wpAny_pure ?_
   refine tail _ ?_ ?_ fun h' y=>?_
   ·split
    ·exact ft
    ·exact SetTable.fits_plain_off ft
   ·split
    ·exact tb1
    ·exact tb1.plain false
   ·exact wpAny_pure (y true)
  ·refine wpAny_bind (wpAny_pure ?_)
   simp only [if_true]
   exact tail _ ft tb1 fun h' y=>wpAny_pure (y true)
end
section
variable {P:Program} {w:World} {A:Around} {R:Result->Shared->Prop} {I:Addr} {fp wr:List Addr} {G:Array GenState->Array GenState->Prop} {n:Nat} {Pr:Nat->Value->Prop} {Sn:Nat->Shared->Prop}
theorem BD (W:WalksS P w A.in1 I fp wr G n Pr Sn) (S:Addr) (hS:S∉fp) (val:Nat->Int) (hv:∀i v,Pr i v->∃t,v=.int (val i) t) (hb:n+1<scanBound):∀(k i:Nat) (s:Shared),n-i=k->i<=n->Sn i s->SetT P w s.heap S (fun z=>(firstMet val i).any (·==z)) (firstMet val i).length ->
   (∀s',Moved (S::wr) G s s'->SetT P w s'.heap S (fun z=>(firstMet val n).any (·==z)) (firstMet val n).length->R (.ok (.ret .none)) s')->codeAny (model P w) A (.builtin "set.update.loop" ⟨[.ref S,.ref I],[]⟩) R s:=by
 have hw:S∉wr:=fun z=>hS (W.sub _ z)
 have sub:∀b∈wr,b∈S::wr:=fun b z=>mem_cons_of_mem _ z
 intro k;induction k with
 | zero=>
  intro i s hk hi st x hR;obtain rfl:i=n:=by omega
  refine codeAny_builtin F.entry_set_update_loop ?_
  rw [Around.under_plainId F.plain_set_update_loop _];refine wpAny_bind (W.done s _ _ st fun s' mv=>?_)
  exact wpAny_pure (hR s' (mv.mono sub) (x.at fun o e=>mv.heap S o hw e))
 | succ k ih=>
  intro i s hk hi st x hR;have lt:i<n:=by omega
  refine codeAny_builtin F.entry_set_update_loop ?_
  rw [Around.under_plainId F.plain_set_update_loop _];refine wpAny_bind (W.item i s _ _ lt st fun v s' pv st' mv=>?_)
  obtain ⟨t,rfl⟩:=hv i v pv;have x':=x.at fun o e=>mv.heap S o hw e
  refine wpAny_bind (wpAny_holding ?_)
  unfold setAdd;refine wpAny_holding (wpAny_bind ((intKind P w).pyHash (k:=val i) (intKind_is _ _ _ _) ?_))
  have room:(firstMet val i).length+1<scanBound:=by have:=firstMet_length_le val i;omega
  refine CK (s:={ s' with toks:=s'.toks+1 }) (intKind_is _ _ _ _) rfl x' room fun h' sb x2 b=>?_
  have x3:SetT P w h' S (fun z=>(firstMet val (i+1)).any (·==z)) (firstMet val (i+1)).length:=x2.congr (fun z=>by rw [firstMet_succ,step_any]) (by rw [firstMet_succ,step_length])
  refine wpAny_pure ⟨plainId_quiet F.plain_set_update_loop _,ih (i+1) _ (by omega) lt (W.frame _ s' _ _ st' (Nat.le_succ _) fun c hc o e=>?_) x3 fun s2 mv2 x4=>?_⟩
  ·rw [sb.2 c fun z=>hS (by rw [<-z];exact hc)]
   exact e
  ·refine hR s2 (Moved.trans W.gtrans ((mv.mono sub).then_heap (Nat.le_succ _) fun c o hc e=>?_) mv2) x4
   rw [sb.2 c fun z=>hc (by rw [z];exact mem_cons_self)]
   exact e
end
section
variable {P:Program} {w:World} {A:Around} {E:Value->Shared->Prop} {s:Shared}
abbrev hV (w:World):Obj:={ cls:=.type "set",dict:=none,data:=.set #[] 0 (.fresh 0 0 (!cS w)) }
theorem Cd (a:Value) {Q:Value->Shared->Prop} (h:Q (.ref s.heap.objs.size) { s with heap:=s.heap.push (hV w) }):codeAny (model P w) A (.call (.builtin "set.__new__") ⟨[.type "set",a],[]⟩) (wants Q E) s:=by
 refine codeAny_of_tree ?_
 refine wpAny_bind (wpAny_of_eq (F.newCall_set_1 a) (wpAny_pure ⟨plainId_quiet F.plain_set_new _,codeAny_builtin F.entry_set_new ?_⟩))
 rw [Around.under_plainId F.plain_set_new _];unfold Builtin.«set.__new__» Builtin.Frozenset.newClass
 have sub:=sub_set_self
 obtain ⟨hp,g,d,tk,os⟩:=s;dsimp only;wp_walk
 refine wpAny_askSetting (wpAny_pure ?_)
 dsimp only;simp only [newObj]
 exact wpAny_bind (wpAny_alloc (wpAny_pure (wpAny_pure h)))
theorem wg {a:Addr} (e:h.get? a=some (hV w)):SetT P w h a (fun _=>false) 0:=
 ⟨_,#[],0,_,e,⟨rfl,rfl,rfl⟩,rfl,fun e he=>by simp at he,fun k=>by simp,by decide,rfl,rfl,Tb.fresh⟩
theorem nt {l:Addr} {its:Array Value} {Q:Value->Shared->Prop} (hh:A.handled=none) (hl:s.heap.IsList l its) (hi:IntsAre its.toList ns) (hb:its.size+1<scanBound)
  (h:∀(h':Heap) (tk:Nat),SetT P w h' s.heap.objs.size (fun z=>(firstMet (fun i=>ns.getD i 0) its.size).any (·==z)) (firstMet (fun i=>ns.getD i 0) its.size).length->(∀b o,s.heap.get? b=some o->h'.get? b=some o)->Q (.ref s.heap.objs.size) { s with heap:=h',toks:=tk }) :
  wpAny (model P w) A (call (.type "set") [.ref l]) Q E s:=by
 obtain ⟨c,tl,mro⟩:=F.called_set.mro;have made:=F.called_set.made
 have sub:=F.called_set.sub
 refine wpAny_call (codeAny_of_tree ?_)
 show wpAny _ _ (callAny (.type "set") _) _ _ _
 refine wpAny_pure ⟨Code.quiet_builtin _ (by decide +kernel),codeAny_builtin F.entry_type_call ?_⟩
 rw [Around.under_plain (weight_type_call_type "set" [.ref l] []) rfl]
 have h1:=F.called_set.notType
 have h2:=F.called_set.canCreate
 have ct:=F.typeCall_set_1 (.ref l)
 repeat (any_goals (first | assumption | wp_step))
 refine codeAny_mono (Cd (.ref l) (E:=E) (Q:=fun ob s1=>ob=.ref s.heap.objs.size/\s1={ s with heap:=s.heap.push (hV w) }) ⟨rfl,rfl⟩) fun r s1 hr=>?_
 cases r with
 | error e=>exact hr
 | ok fl=>
  cases fl with
  | ret ob=>
   obtain ⟨rfl,rfl⟩:=hr;have gS:(s.heap.push (hV w)).get? s.heap.objs.size=some (hV w):=Heap.get?_push_size _ rfl
   have ty:Shared.TypeIs { s with heap:=s.heap.push (hV w) } (.ref s.heap.objs.size) "set":=⟨_,gS,rfl⟩
   have li:=F.called_set.init.lookup
   have bi:=F.called_set.init.bind (.ref s.heap.objs.size)
   repeat (any_goals (first | assumption | wp_step))
   refine codeAny_mono (codeAny_call_builtin (R:=wants (fun r s2=>r=.none/\∃h' tk,s2={ s with heap:=h',toks:=tk }/\SetT P w h' s.heap.objs.size (fun z=>(firstMet (fun i=>ns.getD i 0) its.size).any (·==z)) (firstMet (fun i=>ns.getD i 0) its.size).length/\(∀b o,s.heap.get? b=some o->h'.get? b=some o)) E) F.called_set.init.plain F.entry_set_init (check_set_init_1 ty ?_)) fun r2 s2 hr2=>?_
   ·have hl':=hl
    obtain ⟨ol,gl,cl,nl,dl⟩:=hl;obtain ⟨oc,od,odt,os⟩:=ol;simp only at cl dl
    subst cl dl;have gl':(s.heap.push (hV w)).get? l=some { cls:=.type "list",dict:=od,data:=.seq its nl,slots:=os }:=Heap.get?_push_of_some _ gl
    have s1:=F.sub_list_set
    have s2:=F.sub_list_frozenset
    have ne:(Value.type "list"==Value.type "dict")=false:=by decide
    have l1:(s.heap.push (hV w)).IsList l its:=⟨_,gl',rfl,nl,rfl⟩
    unfold Builtin.«set.__init__» noKeywords Builtin.Frozenset.updateFrom
    generalize hPI:pyIter=PI
    wp_walk
    subst hPI;refine wpAny_pyIter_list l1 (wpAny_bind (wpAny_runValue ?_))
    have lS:l<s.heap.objs.size:=Heap.lt_size gl
    have h3:A.in1.in1.in1.handled=none:=by simp [hh]
    have nI:l≠(s.heap.push (hV w)).objs.size:=by
     rw [Heap.size_push];exact Nat.ne_of_lt (Nat.lt_succ_of_lt lS)
    have nf:s.heap.objs.size∉[(s.heap.push (hV w)).objs.size,l]:=by
     rw [Heap.size_push];simp only [mem_cons,not_mem_nil,or_false,not_or]
     exact ⟨Nat.ne_of_lt (Nat.lt_succ_self _),Nat.ne_of_gt lS⟩
    refine BD ((Walks.list h3 _ l nI its).toS) s.heap.objs.size nf (fun i=>ns.getD i 0) (fun i v e=>IntsAre.int_at hi i v (by rw [Array.getElem?_toList];exact e)) hb (its.size-0) 0 _ (by omega) (Nat.zero_le _) ⟨⟨_,Heap.get?_push_size _ rfl,rfl,rfl⟩,l1.push _⟩ ?_ fun s' mv x=>?_
    ·exact (wg (Heap.get?_push_of_some _ gS)).congr (fun _=>rfl) rfl
    ·obtain ⟨h',g',d',tk',os'⟩:=s'
     have e1:g'=s.gens:=mv.gens
     have e2:d'=s.drawn:=mv.drawn
     have e3:os'=s.os:=mv.os
     subst e1 e2 e3;refine wpAny_pure (wpAny_pure ⟨rfl,h',tk',rfl,x,fun b o e=>?_⟩)
     have hb1:b≠s.heap.objs.size:=Nat.ne_of_lt (Heap.lt_size e)
     have hb2:b≠(s.heap.push (hV w)).objs.size:=by
      rw [Heap.size_push];exact Nat.ne_of_lt (Nat.lt_succ_of_lt (Heap.lt_size e))
     exact mv.heap b o (by simp only [mem_cons,not_mem_nil,or_false,not_or];exact ⟨hb1,hb2⟩) (Heap.get?_push_of_some _ (Heap.get?_push_of_some _ e))
   ·cases r2 with
    | error e=>exact hr2
    | ok f2=>
     cases f2 with
     | ret r=>
      obtain ⟨rfl,h',tk,rfl,x,kp⟩:=hr2;repeat (any_goals (first | assumption | wp_step))
      exact h _ _ x kp
     | _=>exact hr2.elim
  | _=>exact hr.elim
end
theorem j7:entryFor table "set.__iter__"=some Builtin.«frozenset.__iter__»:=entryFor_alias (id' := "frozenset.__iter__") (by kernel_rfl) rfl (by decide +kernel) (by kernel_rfl)
theorem slot_si_next:Slot "set_iterator" "__next__" "set_iterator.__next__":=
 .of (owner := "set_iterator") (n := "__next__") (by rw [typeLookup_type,builtinLookup_eq_fast];kernel_rfl) (by decide +kernel) (by decide +kernel) (by decide +kernel) (by first | exact .inl (by decide +kernel) | exact .inr (by decide +kernel)) (by rw [isSubtype_type];kernel_rfl)
theorem Dj:entryFor table "set_iterator.__next__"=some Builtin.«set_iterator.__next__»:=entryFor_of_tree (by kernel_rfl)
theorem Dc (a:Value):argsOk "set_iterator.__next__" ⟨[a],[]⟩:=by
 unfold argsOk;rw [signature?_of (id := "set_iterator.__next__") (n:=['_','_','t','x','e','n','_','_']) (o:=['r','o','t','a','r','e','t','i','_','t','e','s']) (by kernel_rfl) (show Manifest.owners.lookup (String.ofList ['r','o','t','a','r','e','t','i','_','t','e','s'].reverse)=some Manifest.sig_set_iterator by kernel_rfl)]
 kernel_rfl
theorem oj {α:Type} (next:Nat->Nat):∀(fuel k:Nat) (l:List α) (out:Array α),l.length=fuel->(pickOrder.go next fuel k l out).toList.Perm (out.toList++l)
 | 0,k,l,out,h=>by
  unfold pickOrder.go;rw [List.length_eq_zero_iff.mp h,append_nil]
 | n+1,k,l,out,h=>by
  unfold pickOrder.go;have lt:next k % l.length<l.length:=Nat.mod_lt _ (by omega)
  generalize next k % l.length=j at lt
  rw [getElem?_eq_getElem lt];simp only
  have ih:=oj next n (k+1) (l.eraseIdx j) (out.push l[j]) (by rw [List.length_eraseIdx_of_lt lt];omega)
  refine ih.trans ?_
  rw [Array.toList_push,append_assoc];refine List.Perm.append_left _ ?_
  rw [List.singleton_append];rw [List.eraseIdx_eq_take_drop_succ];have e:l=l.take j++l[j]::l.drop (j+1):=by rw [List.getElem_cons_drop,List.take_append_drop]
  conv=>rhs;rw [e]
  exact List.perm_middle.symm
theorem EI (next:Nat->Nat) (xs:Array α):(pickOrder next xs).toList.Perm xs.toList:=by
 unfold pickOrder;have:=oj next xs.size 0 xs.toList #[] (by simp)
 simpa using this
section
variable {P:Program} {w:World} {A:Around} {E:Value->Shared->Prop} {s:Shared} {S it:Addr} {o:Obj} {es:Array (Int×Value)} {ep:Nat} {t:SetTable}
theorem ot (ht:cS w=true) (ho:s.heap.get? S=some o) (hd:o.data=.set es ep t) (hf:t.fits es.size=true) {i:Nat} {Q:Option (Value×Nat)->Shared->Prop} (h:Q (((pickOrder (w.params.setOrder S ep) es)[i]?).map fun e=>(e.2,sl)) s):wpAny (model P w) A (setNext S sl i ep) Q E s:=by
 unfold setNext;refine wpAny_bind (wpAny_setState_of ho hd hf ?_)
 dsimp only;refine wpAny_bind ?_
 unfold setsByText;refine wpAny_bind (wpAny_askSetting (wpAny_pure ?_))
 show wpAny (model P w) A (if cS w=true then _ else _) Q E s
 rw [if_pos ht];simp only [bne_self_eq_false,Bool.false_eq_true,if_false]
 refine wpAny_bind ?_
 unfold setWalk;refine wpAny_bind (wpAny_setState_of ho hd hf ?_)
 dsimp only;refine wpAny_bind ?_
 unfold setsByText;refine wpAny_bind (wpAny_askSetting (wpAny_pure ?_))
 show wpAny (model P w) A (if cS w=true then _ else _) _ E s
 rw [if_pos ht];exact wpAny_bind (wpAny_askSetting (wpAny_pure (wpAny_pure h)))
theorem js (hf:t.fits es.size=true):t.place.size=es.size:=by
 unfold SetTable.fits at hf;rw [Bool.and_eq_true,beq_iff_eq] at hf;exact hf.1
theorem ou (ht:cS w=false) (tb:Tb (cS w) t) (hp:(!t.plain&&decide (es.size>1))=false) (ho:s.heap.get? S=some o) (hd:o.data=.set es ep t) (hf:t.fits es.size=true) {i:Nat} {Q:Option (Value×Nat)->Shared->Prop}
  (h:Q (match es[SetTable.below t.place sl]?,t.place[SetTable.below t.place sl]? with | some (_,x),some j=>some (x,j+1) | _,_=>none) s):wpAny (model P w) A (setNext S sl i ep) Q E s:=by
 have led:=tb.led ht
 unfold setNext;refine wpAny_bind (wpAny_setState_of ho hd hf ?_)
 dsimp only;refine wpAny_bind ?_
 unfold setsByText;refine wpAny_bind (wpAny_askSetting (wpAny_pure ?_))
 show wpAny (model P w) A (if cS w=true then _ else _) Q E s
 rw [if_neg (by rw [ht];exact Bool.false_ne_true)]
 show wpAny (model P w) A (if (!t.plain&&decide (es.size>1))=true then _ else _) Q E s
 rw [if_neg (by rw [hp];exact Bool.false_ne_true)]
 show wpAny (model P w) A ((if (!t.led&&!es.isEmpty)=true then _ else _) >>= _) Q E s
 rw [if_neg (by rw [led];simp)]
 exact wpAny_bind (wpAny_pure (wpAny_pure h))
end
def SetIt (h:Heap) (it S:Addr) (f:Value) (i n ep:Nat):Prop:=∃o,h.get? it=some o/\o.cls=.type "set_iterator"/\o.data=.fields #[f,.int i 0,.ref S,.int n 0,.int ep 0]
theorem SetIt.at {it S:Addr} {f:Value} {i:Nat} (x:SetIt h it S f i n ep) (k:∀o,h.get? it=some o->h'.get? it=some o):SetIt h' it S f i n ep:=let ⟨o,a,b⟩:=x;⟨o,k o a,b⟩
section
variable {P:Program} {w:World} {A:Around} {E:Value->Shared->Prop} {s:Shared} {S it:Addr} {o:Obj} {es:Array (Int×Value)} {ep:Nat} {t:SetTable} {i n sl nx:Nat} {x:Value} {Q:Option Value->Shared->Prop}
theorem lq (hit:SetIt s.heap it S (.int sl 0) i n ep) (ho:s.heap.get? S=some o) (hd:o.data=.set es ep t) (hf:t.fits es.size=true) (hn:es.size=n)
  (hN:∀(A:Around) (E:Value->Shared->Prop) (R:Option (Value×Nat)->Shared->Prop),R (some (x,nx)) s->wpAny (model P w) A (setNext S sl i ep) R E s)
  (hQ:∀h',SetIt h' it S (.int nx 0) (i+1) n ep->Heap.SameBut it s.heap h'->Q (some x) { s with heap:=h' }):wpAny (model P w) A (pyNext (.ref it)) Q E s:=by
 obtain ⟨oi,gi,ci,di⟩:=hit;have ty:s.TypeIs (.ref it) "set_iterator":=⟨oi,gi,ci⟩
 unfold pyNext;refine wpAny_bind (wpAny_attempt (wpAny_callSpecial?_slot (name:=Str.ofString "__next__") ty slot_si_next (wpAny_call_entry slot_si_next ty Dj ?_ (Dc _))))
 unfold Builtin.«set_iterator.__next__»
 refine wpAny_bind (wpAny_pure ?_)
 refine wpAny_bind (wpAny_fieldsOf gi di ?_)
 dsimp only;refine wpAny_bind (wpAny_setEntries_of ho hd hf ?_)
 rw [if_neg (by rw [hn];simp)]
 simp only [Int.toNat_natCast]
 refine wpAny_bind (hN _ _ _ ?_)
 dsimp only;refine wpAny_bind (wpAny_setField gi di (by simp) ?_)
 have g1:=Heap.get?_update_self (Obj.mapFields (·.setIfInBounds 0 (rawInt nx))) gi (Obj.isFreed_of_fields (Obj.data_mapFields di _))
 have d1:=Obj.data_mapFields di (·.setIfInBounds 0 (rawInt nx))
 refine wpAny_bind (wpAny_setField g1 d1 (by simp) (wpAny_pure ⟨x,rfl,wpAny_pure (hQ _ ?_ ((Heap.SameBut.update ..).trans (Heap.SameBut.update ..)))⟩))
 refine ⟨_,Heap.get?_update_self _ g1 (Obj.isFreed_of_fields (Obj.data_mapFields d1 _)),(Obj.cls_mapFields ..).trans ((Obj.cls_mapFields ..).trans ci),?_⟩
 rw [Obj.data_mapFields d1];simp [rawInt]
theorem oM (hh:A.handled=none) (hit:SetIt s.heap it S (.int sl 0) i n ep) (ho:s.heap.get? S=some o) (hd:o.data=.set es ep t) (hf:t.fits es.size=true) (hn:es.size=n)
  (hN:∀(A:Around) (E:Value->Shared->Prop) (R:Option (Value×Nat)->Shared->Prop),R none s->wpAny (model P w) A (setNext S sl i ep) R E s)
  (hQ:∀h',Heap.ExtBut it s.heap h'->Q none { s with heap:=h' }):wpAny (model P w) A (pyNext (.ref it)) Q E s:=by
 obtain ⟨oi,gi,ci,di⟩:=hit;have ty:s.TypeIs (.ref it) "set_iterator":=⟨oi,gi,ci⟩
 unfold pyNext;refine wpAny_bind (wpAny_attempt (wpAny_callSpecial?_slot (name:=Str.ofString "__next__") ty slot_si_next (wpAny_call_entry slot_si_next ty Dj ?_ (Dc _))))
 unfold Builtin.«set_iterator.__next__»
 refine wpAny_bind (wpAny_pure ?_)
 refine wpAny_bind (wpAny_fieldsOf gi di ?_)
 dsimp only;refine wpAny_bind (wpAny_setEntries_of ho hd hf ?_)
 rw [if_neg (by rw [hn];simp)]
 simp only [Int.toNat_natCast]
 refine wpAny_bind (hN _ _ _ ?_)
 dsimp only;refine wpAny_bind (wpAny_setField gi di (by simp) ?_)
 refine wpAny_bind ?_
 simp only [newExc,newTuple]
 refine wpAny_bind (wpAny_newObj_type ?_ (by size_fits))
 refine wpAny_bind (m:=firstArgMember _ _) (wpAny_of_eq (a:=Value.none) (by first | rfl | (simp only [firstArgMember];rfl)) ?_)
 refine wpAny_newObj_type ?_ (by size_fits)
 simp only [raiseNew]
 refine wpAny_bind (wpAny_handled ?_)
 rw [show A.in1.handled=none from hh];refine wpAny_bind (wpAny_pure (wpAny_throw ?_))
 refine wpAny_bind (wpAny_isInstance (T := "StopIteration") (b:=true) ⟨_,Heap.get?_push_size _ rfl,rfl⟩ isSubtype_stop ?_)
 exact wpAny_pure (hQ _ (((Heap.SameBut.update ..).extBut.push _).push _))
end
theorem eF:Slot "set_iterator" "__iter__" "set_iterator.__iter__":=
 .of (owner := "set_iterator") (n := "__iter__") (by rw [typeLookup_type,builtinLookup_eq_fast];kernel_rfl) (by decide +kernel) (by decide +kernel) (by decide +kernel) (by first | exact .inl (by decide +kernel) | exact .inr (by decide +kernel)) (by rw [isSubtype_type];kernel_rfl)
theorem iZ:entryFor table "set_iterator.__iter__"=some Builtin.«dict_keyiterator.__iter__»:=entryFor_alias (id' := "dict_keyiterator.__iter__") (by kernel_rfl) (by first | rfl | decide +kernel) (by decide +kernel) (by kernel_rfl)
theorem ko (a:Value):argsOk "set_iterator.__iter__" ⟨[a],[]⟩:=by
 unfold argsOk;rw [signature?_of (id := "set_iterator.__iter__") (n:=['_','_','r','e','t','i','_','_']) (o:=['r','o','t','a','r','e','t','i','_','t','e','s']) (by kernel_rfl) (show Manifest.owners.lookup (String.ofList ['r','o','t','a','r','e','t','i','_','t','e','s'].reverse)=some Manifest.sig_set_iterator by kernel_rfl)]
 kernel_rfl
section
variable {P:Program} {w:World} {A:Around} {E:Value->Shared->Prop} {s:Shared} {S it:Addr} {o:Obj} {es:Array (Int×Value)} {ep:Nat} {t:SetTable} {i n:Nat} {f:Value}
theorem Ew {Q:Value->Shared->Prop} (hit:SetIt s.heap it S f i n ep) (h:Q (.ref it) s):wpAny (model P w) A (pyIter (.ref it)) Q E s:=by
 obtain ⟨oi,gi,ci,_⟩:=hit;have ty:s.TypeIs (.ref it) "set_iterator":=⟨oi,gi,ci⟩
 refine wpAny_pyIter_slot ty eF (wpAny_call_entry eF ty iZ ?_ (ko _))
 show wpAny _ _ (ret (.ref it)) _ _ s
 exact wpAny_pure ⟨_,rfl, "set_iterator",_,ty,slot_si_next.lookup,h⟩
theorem uJ (hh:A.handled=none) (ht:cS w=true) (hne:S≠it) (hd:o.data=.set es ep t) (hf:t.fits es.size=true) (hn:es.size=n) :
  Walks P w A it [it,S] [it] n (fun i v=>((pickOrder (w.params.setOrder S ep) es).toList.map (·.2))[i]?=some v) (fun i h=>SetIt h it S (.int 0 0) i n ep/\h.get? S=some o) where
 sub:=fun b hb=>by simp at hb;simp [hb]
 frame:=fun _ _ _ st hk=>⟨st.1.at fun o e=>hk it (by simp) o e,hk S (by simp) o st.2⟩
 item:=fun i s Q E hi st hQ=>by
  have hl:(pickOrder (w.params.setOrder S ep) es).size=n:=by rw [<-Array.length_toList,(EI _ es).length_eq,Array.length_toList,hn]
  have hi':i<(pickOrder (w.params.setOrder S ep) es).size:=by rw [hl];exact hi
  refine lq (x:=((pickOrder (w.params.setOrder S ep) es)[i]).2) (nx:=0) st.1 st.2 hd hf hn (fun A E R h=>ot ht st.2 hd hf (by rw [Array.getElem?_eq_getElem hi'];exact h)) fun h' it' sb=>?_
  exact hQ _ h' s.toks (by rw [getElem?_map,Array.getElem?_toList,Array.getElem?_eq_getElem hi'];rfl) ⟨it',sb.extBut S o hne st.2⟩ fun b o hb e=>sb.extBut b o (fun z=>hb (by simp [z])) e
 done:=fun s Q E st hQ=>by
  have hl:(pickOrder (w.params.setOrder S ep) es).size=n:=by rw [<-Array.length_toList,(EI _ es).length_eq,Array.length_toList,hn]
  exact oM hh st.1 st.2 hd hf hn (fun A E R h=>ot ht st.2 hd hf (by rw [Array.getElem?_eq_none (by omega)];exact h)) fun h' eb=>hQ h' s.toks fun b o hb e=>eb b o (fun z=>hb (by simp [z])) e
 self:=fun _ _ _ _ st hQ=>Ew st.1 hQ
abbrev pf (t:SetTable) (i:Nat):Nat:=if i=0 then 0 else t.place.getD (i-1) 0+1
theorem kD (tb:Tb (cS w) t) (hf:t.fits es.size=true) (hi:i<=es.size):SetTable.below t.place (pf t i)=i:=by
 have hs:=js hf
 unfold pf;by_cases c:i=0
 ·rw [if_pos c,c]
  exact nE
 ·rw [if_neg c,yb (by omega),nF tb.rs (by omega)]
  omega
theorem uK (hh:A.handled=none) (ht:cS w=false) (tb:Tb (cS w) t) (hp:(!t.plain&&decide (es.size>1))=false) (hne:S≠it) (hd:o.data=.set es ep t) (hf:t.fits es.size=true) (hn:es.size=n) :
  Walks P w A it [it,S] [it] n (fun i v=>(es.toList.map (·.2))[i]?=some v) (fun i h=>SetIt h it S (.int (pf t i) 0) i n ep/\h.get? S=some o) where
 sub:=fun b hb=>by simp at hb;simp [hb]
 frame:=fun _ _ _ st hk=>⟨st.1.at fun o e=>hk it (by simp) o e,hk S (by simp) o st.2⟩
 item:=fun i s Q E hi st hQ=>by
  have hs:=js hf
  have hi':i<es.size:=by omega
  have hi2:i<t.place.size:=by omega
  refine lq (x:=(es[i]).2) (nx:=pf t (i+1)) st.1 st.2 hd hf hn (fun A E R h=>ou ht tb hp st.2 hd hf ?_) fun h' it' sb=>?_
  ·rw [kD tb hf (by omega),Array.getElem?_eq_getElem hi',Array.getElem?_eq_getElem hi2]
   have e:pf t (i+1)=t.place[i]+1:=by
    unfold pf;rw [if_neg (by omega),Nat.add_sub_cancel,yb hi2]
   rw [e] at h;exact h
  ·exact hQ _ h' s.toks (by rw [getElem?_map,Array.getElem?_toList,Array.getElem?_eq_getElem hi'];rfl) ⟨it',sb.extBut S o hne st.2⟩ fun b o hb e=>sb.extBut b o (fun z=>hb (by simp [z])) e
 done:=fun s Q E st hQ=>by
  refine oM hh st.1 st.2 hd hf hn (fun A E R h=>ou ht tb hp st.2 hd hf ?_) fun h' eb=>hQ h' s.toks fun b o hb e=>eb b o (fun z=>hb (by simp [z])) e
  rw [kD tb hf (by omega),Array.getElem?_eq_none (by omega)]
  exact h
 self:=fun _ _ _ _ st hQ=>Ew st.1 hQ
theorem nG {src:Source} {Q:Nat->Shared->Prop} (hn:n≠0) (h:Q (M.w.draws src (s.drawn.get src) % n) { s with drawn:=s.drawn.bump src }):wpAny M A (choose src n) Q E s:=fun _ _ _=>⟨hn,h⟩
theorem qb (n:Nat):∀(l:List α) (s:Shared) {Q:List α->Shared->Prop},l.length=n->(∀l' d,l'.Perm l->Q l' { s with drawn:=d })->wpAny M A (drawOrder n l) Q E s:=by
 induction n with
 | zero=>
  intro l s Q hl h;rw [List.length_eq_zero_iff.mp hl] at h ⊢;have:=h [] s.drawn (List.Perm.refl _)
  have e:s={ s with drawn:=s.drawn }:=by cases s;rfl
  unfold drawOrder;rw [e];exact wpAny_pure this
 | succ n ih=>
  intro l s Q hl h
  cases l with
  | nil=>cases hl
  | cons a l=>
   unfold drawOrder;refine wpAny_bind (nG (by simp) ?_)
   have lt:M.w.draws Source.order (s.drawn.get Source.order) % (a::l).length<(a::l).length:=Nat.mod_lt _ (by simp)
   generalize M.w.draws Source.order (s.drawn.get Source.order) % (a::l).length=j at lt
   rw [getElem?_eq_getElem lt];dsimp only;refine wpAny_bind (ih _ _ (by rw [List.length_eraseIdx_of_lt lt];omega) fun l' d pm=>wpAny_pure (h _ d ?_))
   refine (List.Perm.cons _ pm).trans ?_
   rw [List.eraseIdx_eq_take_drop_succ];have e:(a::l)=(a::l).take j++(a::l)[j]::(a::l).drop (j+1):=by rw [List.getElem_cons_drop,List.take_append_drop]
   conv=>rhs;rw [e]
   exact List.perm_middle.symm
end
section
variable {P:Program} {w:World} {A:Around} {E:Value->Shared->Prop} {s:Shared} {S it T:Addr} {o oT:Obj} {es:Array (Int×Value)} {ep c:Nat} {t:SetTable} {i n:Nat} {x:Value} {pl:List Nat} {Q:Option Value->Shared->Prop}
abbrev qE (pl:List Nat):Array Value:=(pl.map fun (i:Nat)=>rawInt i).toArray
theorem vS (hit:SetIt s.heap it S (.ref T) i n ep) (ho:s.heap.get? S=some o) (hd:o.data=.set es ep t) (hf:t.fits es.size=true) (hn:es.size=n) (hT:s.heap.get? T=some oT) (dT:oT.data=.seq (qE pl) c)
  {p:Nat} {e:Int×Value} (hp:pl[i]?=some p) (he:es[p]?=some e)
  (hQ:∀h',SetIt h' it S (.ref T) (i+1) n ep->Heap.SameBut it s.heap h'->Q (some e.2) { s with heap:=h' }):wpAny (model P w) A (pyNext (.ref it)) Q E s:=by
 obtain ⟨oi,gi,ci,di⟩:=hit;have ty:s.TypeIs (.ref it) "set_iterator":=⟨oi,gi,ci⟩
 unfold pyNext;refine wpAny_bind (wpAny_attempt (wpAny_callSpecial?_slot (name:=Str.ofString "__next__") ty slot_si_next (wpAny_call_entry slot_si_next ty Dj ?_ (Dc _))))
 unfold Builtin.«set_iterator.__next__»
 refine wpAny_bind (wpAny_pure ?_)
 refine wpAny_bind (wpAny_fieldsOf gi di ?_)
 dsimp only;refine wpAny_bind (wpAny_setEntries_of ho hd hf ?_)
 rw [if_neg (by rw [hn];simp)]
 refine wpAny_bind (wpAny_seqItems hT dT ?_)
 have e1:(qE pl)[Int.toNat (i:Int)]?=some (rawInt p):=by
  rw [Int.toNat_natCast,getElem?_toArray,getElem?_map,hp];rfl
 dsimp only;rw [e1];simp only [rawInt,Int.toNat_natCast]
 refine wpAny_bind ?_
 unfold setNextDrawn;refine wpAny_bind (wpAny_setState_of ho hd hf ?_)
 dsimp only;simp only [bne_self_eq_false,Bool.false_eq_true,if_false]
 rw [he];refine wpAny_pure ?_
 refine wpAny_bind (wpAny_setField gi di (by simp) (wpAny_pure ⟨e.2,rfl,wpAny_pure (hQ _ ?_ (Heap.SameBut.update ..))⟩))
 refine ⟨_,Heap.get?_update_self _ gi (Obj.isFreed_of_fields (Obj.data_mapFields di _)),(Obj.cls_mapFields ..).trans ci,?_⟩
 rw [Obj.data_mapFields di];simp [rawInt]
theorem Ar (hh:A.handled=none) (hit:SetIt s.heap it S (.ref T) i n ep) (ho:s.heap.get? S=some o) (hd:o.data=.set es ep t) (hf:t.fits es.size=true) (hn:es.size=n) (hT:s.heap.get? T=some oT) (dT:oT.data=.seq (qE pl) c)
  (hp:pl[i]?=none) (hQ:∀h',Heap.ExtBut it s.heap h'->Q none { s with heap:=h' }):wpAny (model P w) A (pyNext (.ref it)) Q E s:=by
 obtain ⟨oi,gi,ci,di⟩:=hit;have ty:s.TypeIs (.ref it) "set_iterator":=⟨oi,gi,ci⟩
 unfold pyNext;refine wpAny_bind (wpAny_attempt (wpAny_callSpecial?_slot (name:=Str.ofString "__next__") ty slot_si_next (wpAny_call_entry slot_si_next ty Dj ?_ (Dc _))))
 unfold Builtin.«set_iterator.__next__»
 refine wpAny_bind (wpAny_pure ?_)
 refine wpAny_bind (wpAny_fieldsOf gi di ?_)
 dsimp only;refine wpAny_bind (wpAny_setEntries_of ho hd hf ?_)
 rw [if_neg (by rw [hn];simp)]
 refine wpAny_bind (wpAny_seqItems hT dT ?_)
 have e1:(qE pl)[Int.toNat (i:Int)]?=none:=by
  rw [Int.toNat_natCast,getElem?_toArray,getElem?_map,hp];rfl
 dsimp only;rw [e1];dsimp only;refine wpAny_bind (wpAny_setField gi di (by simp) ?_)
 have g1:=Heap.get?_update_self (Obj.mapFields (·.setIfInBounds 0 (rawInt 0))) gi (Obj.isFreed_of_fields (Obj.data_mapFields di _))
 have d1:=Obj.data_mapFields di (·.setIfInBounds 0 (rawInt 0))
 refine wpAny_bind (wpAny_setField g1 d1 (by simp) ?_)
 refine wpAny_bind ?_
 simp only [newExc,newTuple]
 refine wpAny_bind (wpAny_newObj_type ?_ (by size_fits))
 refine wpAny_bind (m:=firstArgMember _ _) (wpAny_of_eq (a:=Value.none) (by first | rfl | (simp only [firstArgMember];rfl)) ?_)
 refine wpAny_newObj_type ?_ (by size_fits)
 simp only [raiseNew]
 refine wpAny_bind (wpAny_handled ?_)
 rw [show A.in1.handled=none from hh];refine wpAny_bind (wpAny_pure (wpAny_throw ?_))
 refine wpAny_bind (wpAny_isInstance (T := "StopIteration") (b:=true) ⟨_,Heap.get?_push_size _ rfl,rfl⟩ isSubtype_stop ?_)
 exact wpAny_pure (hQ _ ((((Heap.SameBut.update ..).trans (Heap.SameBut.update ..)).extBut.push _).push _))
theorem uL (hh:A.handled=none) (hne:S≠it) (hneT:T≠it) (hd:o.data=.set es ep t) (hf:t.fits es.size=true) (hn:es.size=n) (dT:oT.data=.seq (qE pl) c) (hl:pl.length=n) (hm:∀p∈pl,p<n) :
  Walks P w A it [it,S,T] [it] n (fun i v=>(pl.map fun p=>(es.getD p (0,.none)).2)[i]?=some v) (fun i h=>SetIt h it S (.ref T) i n ep/\h.get? S=some o/\h.get? T=some oT) where
 sub:=fun b hb=>by simp at hb;simp [hb]
 frame:=fun _ _ _ st hk=>⟨st.1.at fun o e=>hk it (by simp) o e,hk S (by simp) o st.2.1,hk T (by simp) oT st.2.2⟩
 item:=fun i s Q E hi st hQ=>by
  have hi':i<pl.length:=by omega
  have hp:pl[i]<es.size:=by
   rw [hn];exact hm _ (getElem_mem hi')
  refine vS st.1 st.2.1 hd hf hn st.2.2 dT (getElem?_eq_getElem hi') (Array.getElem?_eq_getElem hp) fun h' it' sb=>?_
  refine hQ _ h' s.toks ?_ ⟨it',sb.extBut S o hne st.2.1,sb.extBut T oT hneT st.2.2⟩ fun b o hb e=>sb.extBut b o (fun z=>hb (by simp [z])) e
  rw [getElem?_map,getElem?_eq_getElem hi'];simp [Array.getD,hp]
 done:=fun s Q E st hQ=>Ar hh st.1 st.2.1 hd hf hn st.2.2 dT (getElem?_eq_none (by omega)) fun h' eb=>hQ h' s.toks fun b o hb e=>eb b o (fun z=>hb (by simp [z])) e
 self:=fun _ _ _ _ st hQ=>Ew st.1 hQ
end
section
variable {P:Program} {w:World} {A:Around} {E:Value->Shared->Prop} {s:Shared} {S:Addr} {o:Obj} {es:Array (Int×Value)} {ep:Nat} {t:SetTable} {Q:Value->Shared->Prop}
theorem ia (es:Array (Int×Value)):(List.range es.size).map (fun p=>(es.getD p (0,.none)).2)=es.toList.map (·.2):=by
 apply List.ext_getElem
 ·simp
 ·intro i h1 h2
  have hi:i<es.size:=by simpa using h1
  simp [Array.getD,hi]
theorem sO (hh:A.handled=none) (ho:s.heap.get? S=some o) (hc:o.cls=.type "set") (hd:o.data=.set es ep t) (hf:t.fits es.size=true) (hb:es.size<scanBound) (tb:Tb (cS w) t)
  (h:∀(h':Heap) (dr:Drawn) (it:Addr) (fp:List Addr) (us:List Value) (St:Nat->Heap->Prop),(∀b o,s.heap.get? b=some o->h'.get? b=some o)->us.Perm (es.toList.map (·.2))->s.heap.objs.size<=it->(∀b∈fp,b<h'.objs.size/\(b=S\/s.heap.objs.size<=b)) ->
   Walks P w A it fp [it] es.size (fun i v=>us[i]?=some v) St->St 0 h'->Q (.ref it) { s with heap:=h',drawn:=dr }) :
  wpAny (model P w) A (pyIter (.ref S)) Q E s:=by
 have ty:s.TypeIs (.ref S) "set":=⟨o,ho,hc⟩
 have lS:S<s.heap.objs.size:=Heap.lt_size ho
 refine wpAny_pyIter_slot ty F.slot_set_iter (wpAny_call_entry F.slot_set_iter ty j7 ?_ (F.args_set_iter_1 _))
 unfold Builtin.«frozenset.__iter__»
 refine wpAny_bind (wpAny_pure ?_)
 refine wpAny_bind ?_
 unfold Builtin.Frozenset.sizeOf;refine wpAny_bind (wpAny_setEntries_of ho hd hf (wpAny_pure ?_))
 have hsz:es.size<=sizeLine:=Nat.le_of_lt (Nat.lt_of_lt_of_le hb (by decide))
 have fin:∀(first:Value) (s':Shared) (h1:s'.heap.get? S=some o),Q (.ref s'.heap.objs.size) { s' with heap:=s'.heap.push { cls:=.type "set_iterator",data:=.fields #[first,.int 0 0,.ref S,.int es.size 0,.int ep 0] } } ->
   wpAny (model P w) A.in1 (do
    let e <-setEpoch S
    let r <-newFields "set_iterator" [first,rawInt 0,Value.ref S,rawInt ↑es.size,rawInt ↑e]
    ret r) (fun fin s'=>∃v,fin=Fin.done (Flow.ret v)/\∃T' r,s'.TypeIs v T'/\typeLookup (Value.type T') (Str.ofString "__next__")=pure (some r)/\Q v s') E s':=by
  intro first s' h1 q
  refine wpAny_bind ?_
  unfold setEpoch;refine wpAny_bind (wpAny_setState_of h1 hd hf (wpAny_pure ?_))
  refine wpAny_bind ?_
  unfold newFields;refine wpAny_newObj_type (wpAny_pure ⟨_,rfl, "set_iterator",_,⟨_,Heap.get?_push_size _ rfl,rfl⟩,slot_si_next.lookup,?_⟩) (by size_fits)
  exact q
 refine wpAny_bind ?_
 unfold setDrawn;refine wpAny_bind (wpAny_setState_of ho hd hf ?_)
 dsimp only;refine wpAny_bind ?_
 unfold setsByText;refine wpAny_bind (wpAny_askSetting (wpAny_pure ?_))
 refine wpAny_pure ?_
 show wpAny (model P w) A.in1 (if (!cS w&&(!t.plain&&decide (es.size>1)))=true then _ else _) _ E s
 by_cases hdr:(!cS w&&(!t.plain&&decide (es.size>1)))=true
 ·rw [if_pos hdr]
  refine wpAny_bind (qb es.size (List.range es.size) s (by simp) fun pl dr pm=>?_)
  have hl:pl.length=es.size:=by rw [pm.length_eq,List.length_range]
  refine wpAny_bind (wpAny_newTuple ?_ (by rw [length_map,hl];exact hsz))
  refine fin _ _ (Heap.get?_push_of_some _ ho) ?_
  have gT:(s.heap.push { cls:=.type "tuple",data:=.seq (qE pl) }).get? s.heap.objs.size=some { cls:=.type "tuple",data:=.seq (qE pl) }:=Heap.get?_push_size _ rfl
  have eI:(s.heap.push { cls:=.type "tuple",data:=.seq (qE pl) }).objs.size=s.heap.objs.size+1:=Heap.size_push ..
  have gI:=Heap.get?_push_size (o:={ cls:=.type "set_iterator",data:=.fields #[.ref s.heap.objs.size,.int 0 0,.ref S,.int es.size 0,.int ep 0] }) (s.heap.push { cls:=.type "tuple",data:=.seq (qE pl) }) rfl
  have W:=uL (P:=P) (w:=w) (A:=A) (it:=(s.heap.push { cls:=.type "tuple",data:=.seq (qE pl) }).objs.size) (S:=S) (T:=s.heap.objs.size) (o:=o) (t:=t) (ep:=ep) (pl:=pl) (c:=0) hh (by rw [eI];exact Nat.ne_of_lt (Nat.lt_succ_of_lt lS)) (by rw [eI];exact Nat.ne_of_lt (Nat.lt_succ_self _)) hd hf rfl (oT:={ cls:=.type "tuple",data:=.seq (qE pl) }) rfl hl fun p hp=>by simpa using pm.mem_iff.mp hp
  refine h _ dr _ [(s.heap.push { cls:=.type "tuple",data:=.seq (qE pl) }).objs.size,S,s.heap.objs.size] (pl.map fun p=>(es.getD p (0,.none)).2) _ (fun b o e=>Heap.get?_push_of_some _ (Heap.get?_push_of_some _ e)) ?_ ?_ ?_ W ⟨⟨_,gI,rfl,rfl⟩,Heap.get?_push_of_some _ (Heap.get?_push_of_some _ ho),Heap.get?_push_of_some _ gT⟩
  ·rw [<-ia]
   exact pm.map _
  ·show s.heap.objs.size<=(s.heap.push _).objs.size
   rw [Heap.size_push];omega
  ·intro b hb
   show b<((s.heap.push _).push _).objs.size/\_
   rw [Heap.size_push,Heap.size_push];simp only [mem_cons,not_mem_nil,or_false] at hb
   rcases hb with rfl | rfl | rfl
   ·exact ⟨by rw [eI];exact Nat.lt_succ_self _,.inr (by rw [eI];exact Nat.le_succ _)⟩
   ·exact ⟨Nat.lt_succ_of_lt (Nat.lt_succ_of_lt lS),.inl rfl⟩
   ·exact ⟨Nat.lt_succ_of_lt (Nat.lt_succ_self _),.inr (Nat.le_refl _)⟩
 ·rw [if_neg hdr]
  refine wpAny_bind (wpAny_pure ?_)
  refine fin _ _ ho ?_
  have kp:∀b o,s.heap.get? b=some o->(s.heap.push { cls:=.type "set_iterator",data:=.fields #[.int 0 0,.int 0 0,.ref S,.int es.size 0,.int ep 0] }).get? b=some o:=fun b o e=>Heap.get?_push_of_some _ e
  have fpl:∀b∈[s.heap.objs.size,S],b<(s.heap.push { cls:=.type "set_iterator",data:=.fields #[.int 0 0,.int 0 0,.ref S,.int es.size 0,.int ep 0] }).objs.size/\(b=S\/s.heap.objs.size<=b):=by
   intro b hb;rw [Heap.size_push];simp only [mem_cons,not_mem_nil,or_false] at hb
   rcases hb with rfl | rfl
   ·exact ⟨Nat.lt_succ_self _,.inr (Nat.le_refl _)⟩
   ·exact ⟨Nat.lt_succ_of_lt lS,.inl rfl⟩
  have si:SetIt (s.heap.push { cls:=.type "set_iterator",data:=.fields #[.int 0 0,.int 0 0,.ref S,.int es.size 0,.int ep 0] }) s.heap.objs.size S (.int 0 0) 0 es.size ep:=⟨_,Heap.get?_push_size _ rfl,rfl,rfl⟩
  by_cases ht:cS w=true
  ·exact h _ s.drawn _ [s.heap.objs.size,S] _ _ kp ((EI (w.params.setOrder S ep) es).map _) (Nat.le_refl _) fpl (uJ (o:=o) hh ht (Nat.ne_of_lt lS) hd hf rfl) ⟨si,kp S o ho⟩
  ·have ht':cS w=false:=by simpa using ht
   rw [ht'] at hdr;have hp:(!t.plain&&decide (es.size>1))=false:=by simpa using hdr
   exact h _ s.drawn _ [s.heap.objs.size,S] _ _ kp (List.Perm.refl _) (Nat.le_refl _) fpl (uK (o:=o) hh ht' tb hp (Nat.ne_of_lt lS) hd hf rfl) ⟨si,kp S o ho⟩
end
section
variable {P:Program} {w:World} {A:Around} {E:Value->Shared->Prop} {s:Shared} {r:Addr}
theorem sV {Q:Bool->Shared->Prop} (hT:s.TypeIs (.ref r) "set") (h:Q false s):wpAny (model P w) A (Builtin.List.listLengthHint (.ref r)) Q E s:=by
 unfold Builtin.List.listLengthHint;refine wpAny_bind (wpAny_specialOf hT PySem.F.slot_set_len.lookup ?_)
 generalize cF:("set.__len__":String)=id0
 wp_delta
 rw [show splitId id0=some ("set", "__len__") from by subst cF;decide +kernel]
 subst cF;refine wpAny_bind (wpAny_isInstance (T := "set") (b:=true) hT (by rw [isSubtype_type];kernel_rfl) ?_)
 refine wpAny_ite_split (fun hab=>absurd hab (by decide)) (fun _=>?_)
 refine wpAny_ite_split (fun _=>?_) (fun hab=>absurd (by decide +kernel) hab)
 refine wpAny_bind (wpAny_typeOf hT ?_)
 exact wpAny_pure h
variable {o:Obj} {es:Array (Int×Value)} {ep:Nat} {t:SetTable}
theorem wm {R:Result->Shared->Prop} (hh:A.handled=none) (ho:s.heap.get? r=some o) (hc:o.cls=.type "set") (hd:o.data=.set es ep t) (hf:t.fits es.size=true) (hb:es.size<scanBound) (tb:Tb (cS w) t) (S:Addr) (hSr:S≠r) (res:Value) (hS:s.heap.get? S=some { cls:=.type "list",data:=.seq #[] 0 })
  (hR:∀h' tk dr acc' c',(∀b o,b≠S->s.heap.get? b=some o->h'.get? b=some o)->h'.get? S=some { cls:=.type "list",dict:=none,data:=.seq acc' c',slots:=#[] }->acc'.toList.Perm (es.toList.map (·.2))->R (.ok (.ret res)) { s with heap:=h',toks:=tk,drawn:=dr }) :
  wpAny (model P w) A.in1 (Builtin.List.listExtendWith (.ref S) (.ref r) res)
   (fun fin s'=>match fin with | .done f=>R (.ok f) s' | .again c'=>c'.quiet=true/\codeAny (model P w) A c' R s') (fun e s'=>R (.error e) s') s:=by
 have lS:=Heap.lt_size hS
 have hsz:es.size<=sizeLine:=Nat.le_of_lt (Nat.lt_of_lt_of_le hb (by decide))
 unfold Builtin.List.listExtendWith;refine wpAny_bind (wpAny_typeOf (T := "set") ⟨o,ho,hc⟩ ?_)
 have h1:Builtin.List.listSameRef (.ref S) (.ref r)=false:=by simp [Builtin.List.listSameRef,hSr]
 have n1:(Value.type "set"==Value.type "list")=false:=by decide
 have n2:(Value.type "set"==Value.type "tuple")=false:=by decide
 simp only [h1,n1,n2,Bool.or_false,Bool.false_eq_true,if_false]
 refine wpAny_bind (sO hh ho hc hd hf hb tb fun h' dr it fp us St kp pm lI hfp W st=>?_)
 have hSf:S∉fp:=fun hm=>by
  rcases (hfp S hm).2 with e | e
  ·exact hSr e
  ·exact absurd lS (Nat.not_lt_of_le e)
 have hS₁:=kp S _ hS
 have key:∀(h2:Heap) (c₁:Nat),St 0 h2->(∀b o,b≠S->s.heap.get? b=some o->h2.get? b=some o) ->
   h2.get? S=some { cls:=.type "list",data:=.seq #[] c₁ }->codeAny (model P w) A (.builtin "list.extend.loop" ⟨[.ref S,.ref it,res],[]⟩) R { s with heap:=h2,drawn:=dr }:=by
  intro h2 c₁ hst hk hS₁;refine codeAny_extend_loopS W.toS hsz S hSf res es.size 0 _ #[] c₁ rfl (Nat.zero_le _) hst hS₁ (ItemsOf.nil _) fun s' acc' c' hm hS' hacc=>?_
  have e:acc'.toList=us:=by
   apply ext_getElem?
   intro i;have lu:us.length=es.size:=by rw [pm.length_eq,length_map,Array.length_toList]
   by_cases hi:i<acc'.size
   ·have:=hacc.2 i acc'[i] (Array.getElem?_eq_getElem hi)
    rw [Array.getElem?_toList,Array.getElem?_eq_getElem hi,this]
   ·rw [Array.getElem?_toList,Array.getElem?_eq_none (by omega),getElem?_eq_none (by have:=hacc.1;omega)]
  rw [Moved.eq_with hm];refine hR s'.heap s'.toks dr acc' c' (fun b o hb e=>hm.heap b o (fun hmem=>?_) (hk b o hb e)) hS' (by rw [e];exact pm)
  rcases List.mem_cons.mp hmem with e' | hmem
  ·exact hb e'
  ·exact absurd (Heap.lt_size e) (by rw [List.mem_singleton.mp hmem];exact Nat.not_lt_of_le lI)
 refine wpAny_bind (wpAny_holding (sV (r:=r) ⟨o,kp r o ho,hc⟩ ?_))
 refine wpAny_ite_split (fun _=>?_) (fun _=>wpAny_pure ⟨plainId_quiet PySem.F.plain_extend_loop _,key _ 0 st (fun b o _ e=>kp b o e) hS₁⟩)
 refine wpAny_bind (wpAny_rule ?_)
 refine wpAny_bind ?_
 show wpAny _ _ (updateSeq S (·.push .none) >>= fun _=>updateSeq S (·.pop)) _ _ _
 refine wpAny_bind (wpAny_updateSeq hS₁ rfl ?_)
 have hS₂:=Heap.get?_update_self (Obj.mapSeq (·.push Value.none)) hS₁ rfl
 refine wpAny_updateSeq (hz:=by seq_fits) hS₂ rfl ?_
 have hS₃:=Heap.get?_update_self (Obj.mapSeq (·.pop)) hS₂ rfl
 refine wpAny_pure ⟨plainId_quiet PySem.F.plain_extend_loop _,key _ _ ?_ (fun b o hb e=>?_) hS₃⟩
 ·refine W.frame 0 _ _ st fun b hb o e=>?_
  have hbS:b≠S:=fun h=>hSf (h▸hb)
  exact (Heap.get?_update_other _ _ (Ne.symm hbS)).trans ((Heap.get?_update_other _ _ (Ne.symm hbS)).trans e)
 ·exact (Heap.get?_update_other _ _ (Ne.symm hb)).trans ((Heap.get?_update_other _ _ (Ne.symm hb)).trans (kp b o e))
theorem ma {R:List Value->Shared->Prop} (hh:A.handled=none) (ho:s.heap.get? r=some o) (hc:o.cls=.type "set") (hd:o.data=.set es ep t) (hf:t.fits es.size=true) (hb:es.size<scanBound) (tb:Tb (cS w) t)
  (h:∀(h':Heap) (tk:Nat) (dr:Drawn) (us:List Value),(∀b o,s.heap.get? b=some o->h'.get? b=some o)->us.Perm (es.toList.map (·.2))->R us { s with heap:=h',toks:=tk,drawn:=dr }) :
  wpAny (model P w) A (collect (.ref r)) R E s:=by
 have lr:=Heap.lt_size ho
 unfold collect;refine wpAny_bind (wpAny_runValue (codeAny_builtin entry_proto_collect' ?_))
 rw [Around.under_plainId PySem.F.plain_proto_collect _];show wpAny _ A.in1 (newList [] >>= fun l=>again (.builtin "list.__iadd__" ⟨[l,.ref r],[]⟩)) _ _ s
 refine wpAny_bind (wpAny_newObj_type ?_)
 refine wpAny_pure ⟨plainId_quiet PySem.F.plain_list_iadd _,codeAny_builtin entry_list_iadd' ?_⟩
 rw [Around.under_plainId PySem.F.plain_list_iadd _];have hS₁:(s.heap.push { cls:=.type "list",data:=.seq ([]:List Value).toArray }).get? s.heap.objs.size=some { cls:=.type "list",data:=.seq #[] }:=Heap.get?_push_size _ rfl
 show wpAny _ A.in1 (Builtin.List.listExtendWith (.ref s.heap.objs.size) (.ref r) (.ref s.heap.objs.size)) _ _ _
 have key:=wm (P:=P) (w:=w) (A:=A) (s:={ s with heap:=s.heap.push { cls:=.type "list",data:=.seq ([]:List Value).toArray } })
  (R:=fun (q:Result) (s':Shared)=>∃(h':Heap) (tk:Nat) (dr:Drawn) (acc':Array Value) (c':Nat),q=.ok (.ret (.ref s.heap.objs.size))/\s'={ s with heap:=h',toks:=tk,drawn:=dr } /\
   (∀b o,s.heap.get? b=some o->h'.get? b=some o)/\h'.get? s.heap.objs.size=some { cls:=.type "list",dict:=none,data:=.seq acc' c',slots:=#[] }/\acc'.toList.Perm (es.toList.map (·.2)))
  hh (Heap.get?_push_of_some _ ho) hc hd hf hb tb s.heap.objs.size (Nat.ne_of_gt lr) (.ref s.heap.objs.size) hS₁
  (fun h' tk dr acc' c' hk hS' hacc=>⟨h',tk,dr,acc',c',rfl,rfl,fun b o e=>hk b o (Nat.ne_of_lt (Heap.lt_size e)) (Heap.get?_push_of_some _ e),hS',hacc⟩)
 refine wpAny_mono key (fun fin s' x=>?_) fun e s' x=>?_
 ·cases fin with
  | done f=>
   obtain ⟨h',tk,dr,acc',c',e,rfl,hk,hS',hacc⟩:=x
   cases e;show wpAny _ A (load s.heap.objs.size >>= _) _ _ _
   refine wpAny_bind (wpAny_load hS' ?_)
   exact wpAny_pure (h h' tk dr acc'.toList hk hacc)
  | again c₁=>
   refine ⟨x.1,codeAny_mono x.2 fun q s₂ y=>?_⟩
   obtain ⟨h',tk,dr,acc',c',rfl,rfl,hk,hS',hacc⟩:=y;show wpAny _ A (load s.heap.objs.size >>= _) _ _ _
   refine wpAny_bind (wpAny_load hS' ?_)
   exact wpAny_pure (h h' tk dr acc'.toList hk hacc)
 ·obtain ⟨_,_,_,_,_,e',_⟩:=x
  cases e'
end
def fI (ns:List Int):List Int:=firstMet (fun i=>ns.getD i 0) ns.length
theorem fT:∀(l m:List Int),l.Nodup->(∀x∈l,x∈m)->m.length=l.length->m.Perm l
 | [],m,_,_,h=>by rw [List.length_eq_zero_iff.mp h]
 | a::l,m,nd,hm,h=>by
  have ha:a∈m:=hm a mem_cons_self
  obtain ⟨na,nl⟩:=List.nodup_cons.mp nd;have ih:=fT l (m.erase a) nl (fun x hx=>(List.mem_erase_of_ne (fun e:x=a=>na (e▸hx))).mpr (hm x (mem_cons_of_mem _ hx))) (by rw [List.length_erase_of_mem ha,h,length_cons];omega)
  exact (List.perm_cons_erase ha).trans (ih.cons a)
theorem ED (val:Nat->Int):∀i,(firstMet val i).Nodup
 | 0=>nodup_nil
 | i+1=>by
  rw [firstMet_succ];unfold step_dedup;split
  ·exact ED val i
  ·rename_i h
   rw [List.nodup_append];refine ⟨ED val i,by simp,fun a ha b hb e=>h ?_⟩
   rw [List.mem_singleton] at hb;subst hb e;simpa using ha
theorem C7 (ns:List Int):(fI ns).Nodup:=ED _ _
theorem ddp_mem:k∈fI ns↔k∈ns:=by
 have:=firstMet_any (fun i=>ns.getD i 0) ns.length k
 have e:(List.range ns.length).map (fun i=>ns.getD i 0)=ns:=by
  apply List.ext_getElem
  ·simp
  ·intro i h1 h2
   simp [List.getD,h2]
 rw [e] at this;unfold fI;rw [<-any_eq_true (p:=(·==k)) |>.trans ⟨fun ⟨x,h,e⟩=>by rwa [<-eq_of_beq e],fun h=>⟨k,h,by simp⟩⟩,this]
 exact List.any_eq_true.trans ⟨fun ⟨x,h,e⟩=>by rwa [<-eq_of_beq e],fun h=>⟨k,h,by simp⟩⟩
theorem jq {P:Program} {w:World}:∀(us:List Value),(∀u∈us,∃k,(intKind P w).is k u=true)->∃ns,IntsAre us ns
 | [],_=>⟨[],.nil⟩
 | u::us,h=>by
  obtain ⟨k,e⟩:=h u mem_cons_self;obtain ⟨t,rfl⟩:=Value.isInt_shape e;obtain ⟨ns,x⟩:=jq us fun v hv=>h v (mem_cons_of_mem _ hv)
  exact ⟨_,.cons _ _ x⟩
theorem ly {P:Program} {w:World} {k:Int}:∀{us:List Value} {ns:List Int},IntsAre us ns->(∃u∈us,(intKind P w).is k u=true)->k∈ns
 | _,_,.nil,⟨u,hu,_⟩=>by cases hu
 | _,_,.cons i t x,⟨u,hu,e⟩=>by
  rcases List.mem_cons.mp hu with rfl | hu
  ·obtain ⟨t',e'⟩:=Value.isInt_shape (show Value.isInt k (Value.int i t)=true from e)
   cases e'
   exact mem_cons_self
  ·exact mem_cons_of_mem _ (ly x ⟨u,hu,e⟩)
theorem lz:∀{us:List Value} {ns:List Int},IntsAre us ns->us.length=ns.length
 | _,_,.nil=>rfl
 | _,_,.cons _ _ x=>by rw [length_cons,length_cons,lz x]
theorem L2Inv.drawn {X:Cx} {pins:List (Addr×Obj)} {U:List (Option V)} {H:Hp} {s:Shared} (I:L2.Inv X pins U H s) (d:Drawn):L2.Inv X pins U H { s with drawn:=d }:=
 ⟨I.ok,I.os,I.bare,I.base,I.loc,I.cell,I.free,I.freeC,I.pin,I.hok,I.len⟩
theorem CD:bootBuiltins "set"=some (.type "set"):=by decide +kernel
def Gf (K:Fg) (ta:TA):TE:=fun U H Q=>ta U H fun vs H1=>∃(p:Addr) (ns:List Int),vs=[.ref p]/\SqL K H1 p (ns.map V.int)/\ns.length<4000/\(fI ns).length<64/\∀l,H1 l=none->Q (.ref l) (bA H1 l (.lst ((PySem.W.sortI (fI ns)).map V.int)))
theorem mS {X:Cx} {a:Expr} {ta:TA} {p pos:Pos} (hg:Gl X "sorted") (hm:X.mg "sorted"=none) (hg2:Gl X "set") (hm2:X.mg "set"=none) (hc:X.calm=true) (ha:PA X [a] ta) (hs:starEach [a] X.env=[(false,eval a X.env)])
  (hs1:starEach [.Call (.Name "set" p2) [a] [] pos2] X.env=[(false,eval (.Call (.Name "set" p2) [a] [] pos2) X.env)]):PE X (.Call (.Name "sorted" p) [.Call (.Name "set" p2) [a] [] pos2] [] pos) (Gf X.K ta):=by
 intro pins s U H Q I h;refine wpAny_Call_Name_kw (wZ I hg hm tU (PyProof.Rows.callWith_builtin1 ?_ hs1 rfl))
 rw [hs1];show wpAny _ _ (spliced ((false,eval (.Call (.Name "set" p2) [a] [] pos2) X.env)::[])) _ _ s
 refine Calls.spliced_cons (Call_ (wZ I hg2 hm2 CD (PyProof.Rows.callWith_type1 (bP (ha pos2 pins s U H _ I h) fun us s1 ⟨vs,H1,I1,r1,q1⟩=>?_) hs rfl)))
 obtain ⟨pa,ns,e,hS,q1,q2,q⟩:=q1;subst e;obtain ⟨u,rfl,ru⟩:=r1.one
 cases ru;obtain ⟨its,r,pl,hz⟩:=I1.list hS;have hI:=DZ r
 have hl:its.length=ns.length:=by rw [<-r.length,length_map]
 have hl':its.toArray.size=ns.length:=by rw [size_toArray,hl]
 refine nt (ns:=ns) (I.ok.hd hc) pl.isList (by simpa using hI) (by rw [hl'];have:scanBound=4096:=rfl;omega) fun h1 tk1 st kp1=>?_
 rw [hl'] at st;refine Calls.spliced_nil ?_
 have I2:L2.Inv X pins U H1 { s1 with heap:=h1,toks:=tk1 }:=I1.kept (t':=tk1) kp1
 obtain ⟨o,es,ep,t,ho,hex,hd,hel,hmem,hb,hf,hn,tb⟩:=st;refine Calls.call_function_entry kind_sorted plain_sorted entry_sorted (args_sorted1 _) ?_
 unfold Builtin.«sorted»
 refine wpAny_bind (m:=checkCount "sorted" 1 1 _) (wpAny_pure ?_)
 refine wpAny_bind (ma (I.ok.hd hc) ho hex.1 hd hf hb tb fun h' tk dr us hk pm=>?_)
 have hlu:us.length=(fI ns).length:=by
  rw [pm.length_eq,length_map,Array.length_toList,hn];rfl
 obtain ⟨zs,hZ⟩:=jq (P:=X.prog) (w:=X.w) us fun u hu=>by
  obtain ⟨e,he,rfl⟩:=List.mem_map.mp (pm.mem_iff.mp hu);obtain ⟨k,hk,_⟩:=(hel e he).1;exact ⟨k,hk⟩
 have hpz:zs.Perm (fI ns):=by
  refine fT (fI ns) zs (C7 ns) (fun k hk=>?_) ?_
  ·obtain ⟨e,he,hx⟩:=(hmem k).mp (List.any_eq_true.mpr ⟨k,hk,by simp⟩)
   exact ly (P:=X.prog) (w:=X.w) hZ ⟨e.2,pm.mem_iff.mpr (List.mem_map.mpr ⟨e,he,rfl⟩),hx⟩
  ·rw [<-hlu,lz hZ]
 have hb2:=pe (n:=(fI ns).length) (by omega)
 refine wpAny_bind (wpAny_newList ?_ (by rw [hlu];omega))
 have hoL:(h'.push { cls:=.type "list",data:=.seq us.toArray }).get? h'.objs.size=some (seqObj "list" us.toArray 0):=Heap.get?_push_size _ rfl
 refine wpAny_bind (wpAny_holding (wpAny_call_entry slot_list_sort ⟨_,hoL,rfl⟩ entry_list_sort (list_sort_tree hoL hZ (by rw [hlu];exact q2) fun out ns' a1 a2 a3=>⟨_,rfl,?_⟩) (args_list_sort _)))
 have e:=PySem.W.eq_sortI (a2.trans hpz) a3
 subst e;have hlen:(PySem.W.sortI (fI ns)).length=(fI ns).length:=(PySem.W.sortI_perm _).length_eq
 obtain ⟨n,ho'⟩:=sortedHeap_at (out:=out) hoL
 have I3:L2.Inv X pins U H1 { s1 with heap:=h',toks:=tk,drawn:=dr }:=L2Inv.drawn (I2.kept (t':=tk) hk) dr
 have kk:∀b o,h'.get? b=some o->(sortedHeap (h'.push { cls:=.type "list",data:=.seq us.toArray }) h'.objs.size us out).get? b=some o:=fun b o e=>by
  have hlt:=Heap.lt_size e
  rw [sortedHeap_old (Nat.ne_of_lt hlt) (by rw [Heap.size_push];exact Nat.lt_succ_of_lt hlt)]
  exact Heap.get?_push_of_some _ e
 exact wpAny_pure ⟨_,rfl,.ref h'.objs.size,bA H1 h'.objs.size (.lst ((PySem.W.sortI (fI ns)).map V.int)),I3.laid (t':=tk) kk (Nat.le_refl _) ⟨by rw [length_map,hlen];omega,out.toList,n,nO a1,by simpa [seqObj] using ho'⟩,rfl,q _ (I3.hok.fresh (Nat.le_refl _))⟩
section
variable {K:Fg} {W:XW} {U:St} {H:Hp} {Q:VK} {fa:F1} {fl:FL}
def xQ (fl:FL):F1:=fun Γ=>(fl Γ).bind fun ps Γ'=>match sortArg (ps.map (·.d)) with
 | some ns=>if ns.length<4000/\(fI ns).length<64 then .ok ⟨.lst .leaf,.list ((PySem.W.sortI (fI ns)).map .int)⟩ Γ' else .no
 | none=>.no
theorem rK (h:tE K W (xQ fl) U H Q):Gf K (tA K W fl) U H Q:=by
 obtain ⟨He,O,Fs,Γ,E,h⟩:=h;refine ⟨He,O,Fs,Γ,E,?_⟩
 unfold xQ at h
 cases e:fl Γ with
 | er c Γ'=>rw [e] at h;exact h
 | no=>rw [e] at h;exact h
 | ok ps Γ1=>
  rw [e] at h;intro vs H1 Gs Fs1 A;have r:=A.reps
  have h:Wants K W He O Fs H U Q (match sortArg (ps.map (·.d)) with | some ns=>if ns.length<4000/\(fI ns).length<64 then .ok ⟨.lst .leaf,.list ((PySem.W.sortI (fI ns)).map .int)⟩ Γ1 else .no | none=>.no):=h
  cases ei:sortArg (ps.map (·.d)) with
   | none=>rw [ei] at h;exact h.elim
   | some ns=>
    rw [ei] at h;rw [mL ei] at r;have h:Wants K W He O Fs H U Q (if ns.length<4000/\(fI ns).length<64 then .ok ⟨.lst .leaf,.list ((PySem.W.sortI (fI ns)).map .int)⟩ Γ1 else .no):=h
    by_cases hn:ns.length<4000/\(fI ns).length<64
    ·rw [if_pos hn] at h
     have hl:=r.1
     match vs,hl with
     | [v],_=>
      have q:=r.2 0 v (.list (ns.map .int)) rfl rfl
      cases q with
      | @lst p ws _ hq hwl hw=>
       have ew:ws=ns.map V.int:=by
        apply ext_getElem?
        intro i;by_cases hi:i<ws.length
        ·have hi2:i<ns.length:=by rw [length_map] at hwl;omega
         have q:=hw i (ws[i]'hi) (.int (ns[i]'hi2)) (getElem?_eq_getElem _) (by rw [getElem?_map,getElem?_eq_getElem hi2];rfl)
         rw [getElem?_eq_getElem hi,getElem?_map,getElem?_eq_getElem hi2];generalize ws[i]'hi=u at q
         cases q;rfl
        ·rw [getElem?_eq_none (by omega),getElem?_eq_none (by rw [length_map] at hwl ⊢;omega)]
       rw [ew] at hq;refine ⟨p,ns,rfl,hq,hn.1,hn.2,fun l hl=>h _ _ _ _ (A.newSc E.ndO hl (by simp) fun i v d a1 a2=>?_)⟩
       rw [getElem?_map] at a1 a2
       cases e3:(PySem.W.sortI (fI ns))[i]? with
       | none=>rw [e3] at a1;cases a1
       | some z=>
        rw [e3] at a1 a2
        cases a1
        cases a2;exact .int z
    ·rw [if_neg hn] at h;exact h.elim
end
section
variable {X:Cx} {N gl:List Str} {vs cs ls lo gs:List Nat} {W:XW} {a:Expr} {p pos:Pos} {fl:FL}
theorem cb_sortSet (S:Cp X N gl vs cs ls lo gs) (j k:Nat) (hj:gl[j]?=some ("sorted":Str)) (hg:gs.contains j=true) (hm:X.mg "sorted"=none) (hk:gl[k]?=some ("set":Str)) (hg2:gs.contains k=true) (hm2:X.mg "set"=none) (ha:PA X [a] (tA X.K W fl)) (hs:starEach [a] X.env=[(false,eval a X.env)])
  (hs1:starEach [.Call (.Name "set" p2) [a] [] pos2] X.env=[(false,eval (.Call (.Name "set" p2) [a] [] pos2) X.env)]):PE X (.Call (.Name "sorted" p) [.Call (.Name "set" p2) [a] [] pos2] [] pos) (tE X.K W (xQ fl)):=
 aY (mS (S.g hj hg).1 hm (S.g hk hg2).1 hm2 S.calm ha hs hs1) fun _ _ _=>rK
end
end T
namespace TQ
open PySem PySem.Spec L2 T
open PyProof.Rows hiding St
section
variable {X:Cx} {N gl:List Str} {vs cs ls lo gs:List Nat} {W:XW} {a:Expr} {p pos:Pos} {fl:FL}
theorem jH {p2 pos2:Pos} (S:Cp X N gl vs cs ls lo gs) (j k:Nat) (hj:gl[j]?=some ("sorted":Str)) (hg:gs.contains j=true) (hm:X.mg "sorted"=none) (hk:gl[k]?=some ("set":Str)) (hg2:gs.contains k=true) (hm2:X.mg "set"=none) (ha:Q (PA X [a] (tA X.K W fl))) (hs:starEach [a] X.env=[(false,eval a X.env)])
  (hs1:starEach [.Call (.Name "set" p2) [a] [] pos2] X.env=[(false,eval (.Call (.Name "set" p2) [a] [] pos2) X.env)]):Q (PE X (.Call (.Name "sorted" p) [.Call (.Name "set" p2) [a] [] pos2] [] pos) (tE X.K W (xQ fl))):=⟨T.cb_sortSet S j k hj hg hm hk hg2 hm2 ha.p hs hs1⟩
end
end TQ
namespace KC
open PySem PySem.Spec L2 T PySem.SeqAt
open PyProof.Rows hiding St
theorem oK {a:List Nat}:cJ (aq a) (.list [])=some (.bool a.isEmpty):=by
 cases a with
 | nil=>exact tD (a:=[]) (b:=[]) rfl
 | cons x l=>
  show (if shaped (aq (x::l))&&shaped (aq []) then some (PyData.bool (PyData.eqv (.list ((x::l).map rm)) (.list []))) else none)=_
  rw [C3,C3,Bool.and_self,if_pos rfl];rfl
end KC
namespace T
open PySem PySem.Spec L2
open PyProof.Rows hiding St
def xU:PySem.PyData->Bool
 | .list es=>decide (es.length<=1000)
 | _=>false
theorem pb {d:PySem.PyData} (h:xU d=true):∃es,d=.list es/\es.length<=1000:=by
 unfold xU at h;split at h
 ·exact ⟨_,rfl,of_decide_eq_true h⟩
 ·cases h
section
variable {K:Fg} {W:XW} {He H:Hp} {O:List Addr} {Fs:List (List Addr)} {U:St} {Γ:Ev} {D:dv}
theorem EnvOk.nm {j:Nat} {x:Option V} (E:EnvOk K He O Fs H U Γ) (hj:∀p,Γ[j]?≠some (some p)):EnvOk K He O Fs H (U.set j x) Γ:=
 ⟨by rw [length_set];exact E.len1,E.len2,E.same,E.nd,E.inH,E.fresh,fun m p hm=>by
  have hne:j≠m:=fun z=>hj p (by rw [z];exact hm)
  obtain ⟨a,v,F,b,c,d⟩:=E.slot m p hm;exact ⟨a,v,F,by rw [getElem?_set_ne hne];exact b,c,d⟩⟩
theorem EnvOk.loose (E:EnvOk K He O Fs H U Γ) (j:Nat):∃Fs',EnvOk K He O Fs' H U (Γ.set j none):=by
 cases e:Γ[j]? with
 | none=>exact ⟨Fs,by rw [List.set_eq_of_length_le (by simpa using e)];exact E⟩
 | some o=>
  cases o with
  | none=>
   have:Γ.set j none=Γ:=by
    apply ext_getElem?
    intro m;rw [getElem?_set];split
    ·rename_i z
     subst z;have:=(List.getElem?_eq_some_iff.mp e).1
     rw [if_pos this,e]
    ·rfl
   exact ⟨Fs,by rw [this];exact E⟩
  | some p=>
   obtain ⟨_,v,F,_,E1,_,_⟩:=E.move e;exact ⟨_,E1.dropL⟩
theorem EU {Γ:Ev} {j:Nat}:∀p,(Γ.set j none)[j]?≠some (some p):=fun p z=>by
 rw [getElem?_set] at z;rw [if_pos rfl] at z;split at z<;>cases z
end
section
variable {K:Fg} {W:XW} {He H:Hp} {O:List Addr} {Fs:List (List Addr)} {U:St} {Γ:Ev} {D:dv}
theorem Own.rows {O:List Addr} {G:List Addr} {v:V} {ds:List PySem.PyData} (h:Own K O H (.lst (.lst .leaf)) G v (.list ds)) (hs:ds.all xU=true) :
  ∃R rs S,v=.ref R/\G=R::S/\R∉S/\H R=some (.lst rs)/\rs.length=ds.length/\(∀x∈rs,∃l∈S,x=.ref l)/\∀l∈S,∃ws,H l=some (.lst ws)/\ws.length<=1000:=by
 cases h with
 | @lst _ R vs _ Fs0 hsv hp hl hf nd q=>
  have row:∀(m:Nat) x F,vs[m]?=some x->Fs0[m]?=some F->∃l ws,x=.ref l/\F=[l]/\H l=some (.lst ws)/\ws.length<=1000:=fun m x F hm hF=>by
   have hlt:=(List.getElem?_eq_some_iff.mp hm).1
   have d1:ds[m]?=some (ds[m]'(by omega)):=getElem?_eq_getElem _
   obtain ⟨es,ee,hes⟩:=pb (List.all_eq_true.mp hs _ (mem_of_getElem? d1))
   have o:=q m x _ _ hm d1 hF
   rw [ee] at o;obtain ⟨l,ws,e1,eG,hl1,hl2,_⟩:=o.leaves;exact ⟨l,ws,e1,eG,hl1,by omega⟩
  refine ⟨R,vs,Fs0.flatten,rfl,rfl,(List.nodup_cons.mp nd).1,hp,hl,fun x hx=>?_,fun l hl'=>?_⟩
  ·obtain ⟨m,hm,e⟩:=getElem_of_mem hx
   have hm':vs[m]?=some x:=by rw [getElem?_eq_getElem hm,e]
   have f1:Fs0[m]?=some (Fs0[m]'(by omega)):=getElem?_eq_getElem _
   obtain ⟨l,ws,e1,eG,_,_⟩:=row m x _ hm' f1
   rw [eG] at f1;exact ⟨l,ja f1 (List.mem_singleton.mpr rfl),e1⟩
  ·obtain ⟨F,hF,hlF⟩:=List.mem_flatten.mp hl'
   obtain ⟨m,hm,e⟩:=getElem_of_mem hF;have f1:Fs0[m]?=some F:=by rw [getElem?_eq_getElem hm,e]
   have v1:vs[m]?=some (vs[m]'(by omega)):=getElem?_eq_getElem _
   obtain ⟨l2,ws,_,eG,h1,h2⟩:=row m _ F v1 f1;rw [eG] at hlF;rw [List.mem_singleton.mp hlF];exact ⟨ws,h1,h2⟩
def Rws (S:List Addr) (b:Nat) (H:Hp):Prop:=∀l∈S,∃ws,H l=some (.lst ws)/\ws.length<=b
theorem Rws.app {S:List Addr} {b:Nat} {l:Addr} {ws:List V} {y:V} (h:Rws S b H) (hl:H l=some (.lst ws)) (hb:ws.length<=b):Rws S (b+1) (bA H l (.lst (ws++[y]))):=fun a ha=>by
 by_cases z:a=l
 ·subst z
  exact ⟨_,fL,by rw [length_append,length_singleton];omega⟩
 ·obtain ⟨w2,e,e2⟩:=h a ha
  exact ⟨w2,by rw [dB z];exact e,by omega⟩
end
section
variable {X:Cx} {N gl:List Str} {vs cs ls lo gs:List Nat} {W:XW}
structure Ap (X:Cx) (o a:Expr) (apos cpos:Pos) (epos:Pos):Prop where
 hbase:attributeBase o "append" X.env (eval o X.env)=eval o X.env
 hline:(apos.endLine==cpos.line)=true
 hfew:((backTo cpos (starEach [a] X.env)).all (fun x=>!x.1)&&(backToKw cpos (keywordEach [] X.env)).all (fun x=>x.1.isSome)&&decide ([a].length+([]:List Keyword).length+(if ([]:List Keyword).isEmpty then 0 else 1)<30))=true
 hsw:swapsWith (.Call (.Attribute o "append" apos) [a] [] cpos) none epos.line X.env=pure false
 hst:starEach [a] X.env=[(false,eval a X.env)]
theorem kR {o a:Expr} {to ta:TE} {apos cpos epos:Pos} (A:Ap X o a apos cpos epos) (ho:PE X o to) (ha:PE X a ta):PS X (.Expr (.Call (.Attribute o "append" apos) [a] [] cpos) epos) (d6 (uk X.K "list" xc to (bo ta cC))):=
 C1 (oq PySem.F.plainAttrs_list PySem.F.slot_list_append PySem.F.type_list_append EE ho (nK ha ud A.hst) A.hbase A.hfew A.hline A.hst rfl) A.hsw
end
mutual
def rz:PySem.PyData->Nat
 | .none=>4
 | .bool _=>5
 | .int _=>1921
 | .str _=>20000000
 | .list xs=>2+rzL xs
 | .tuple xs=>3+rzL xs
 | .dict _=>20000000
def rzL:List PySem.PyData->Nat
 | []=>0
 | x::xs=>(rz x+2)+rzL xs
end
theorem Ex:∀(ts:List Str) (k:Nat) (acc:Str),(textFrom k acc ts).length<=acc.length+piled ts
 | [],k,acc=>Nat.le_refl _
 | t::ts,k,acc=>by
  have h:=Ex ts (k+1) (acc++(if k>0 then ", " else "":String)++t)
  rw [Str.length_append,Str.length_append] at h;have h2:(Str.ofString (if k>0 then ", " else "":String)).length<=2:=by
   split
   ·rw [PySem.ofString_length];decide
   ·rw [PySem.ofString_length];decide
  show (textFrom (k+1) (acc++(if k>0 then ", " else "":String)++t) ts).length<=_
  rw [piled_cons];omega
mutual
theorem kE:∀(d:PySem.PyData),d.showable=true->rz d<17000000->d.shown.length<=rz d
 | .none,_,_=>by
  show (Str.ofString "None").length<=4
  rw [PySem.ofString_length];decide
 | .bool b,_,_=>by
  cases b
  ·show (Str.ofString (if false then "True" else "False")).length<=5
   rw [PySem.ofString_length];decide
  ·show (Str.ofString (if true then "True" else "False")).length<=5
   rw [PySem.ofString_length];decide
 | .int i,h,_=>by
  have h:i.natAbs.log2<1920:=of_decide_eq_true (by simpa [PyData.showable] using h)
  show (Str.ofString (toString i)).length<=1921
  rw [PySem.ofString_length];exact int_text_length_le (by decide) h
 | .str x,_,h=>by
  have h:(20000000:Nat)<17000000:=h
  omega
 | .dict _,_,h=>by
  have h:(20000000:Nat)<17000000:=h
  omega
 | .list xs,h,hz=>by
  have hz:2+rzL xs<17000000:=hz
  have p:=shownAll_le xs (by simpa [PyData.showable] using h) (by omega)
  show (listText (PyData.shownAll xs)).length<=2+rzL xs
  unfold listText;rw [Str.length_append];have t:=Ex (PyData.shownAll xs) 0 "["
  have e1:(Str.ofString "[").length=1:=by rw [PySem.ofString_length];decide
  have e2:(Str.ofString "]").length=1:=by rw [PySem.ofString_length];decide
  omega
 | .tuple xs,h,hz=>by
  have hz:3+rzL xs<17000000:=hz
  have p:=shownAll_le xs (by simpa [PyData.showable] using h) (by omega)
  show (tupleText (PyData.shownAll xs)).length<=3+rzL xs
  unfold tupleText;rw [Str.length_append,Str.length_append];have e1:(Str.ofString "(").length=1:=by rw [PySem.ofString_length];decide
  have e2:(Str.ofString (if (PyData.shownAll xs).length==1 then ",)" else ")":String)).length<=2:=by
   split
   ·rw [PySem.ofString_length];decide
   ·rw [PySem.ofString_length];decide
  have e3:(Str.join ", " (PyData.shownAll xs)).length<=piled (PyData.shownAll xs):=by
   by_cases hn:PyData.shownAll xs=[]
   ·rw [hn];exact Nat.le_of_eq rfl
   ·have:=join_length_add _ hn
    omega
  omega
theorem shownAll_le:∀(xs:List PySem.PyData),PyData.showableAll xs=true->rzL xs<17000000->piled (PyData.shownAll xs)<=rzL xs
 | [],_,_=>Nat.le_refl _
 | x::xs,h,hz=>by
  have h:x.showable=true/\PyData.showableAll xs=true:=by simpa [PyData.showableAll] using h
  have hz:(rz x+2)+rzL xs<17000000:=hz
  have a:=kE x h.1 (by omega)
  have b:=shownAll_le xs h.2 (by omega)
  show piled (x.shown::PyData.shownAll xs)<=(rz x+2)+rzL xs
  rw [piled_cons];omega
end
def zP:PySem.PyData->Bool
 | .list _=>true
 | .tuple _=>true
 | _=>false
theorem boot_repr:bootBuiltins "repr"=some (.builtin "repr"):=by decide +kernel
theorem uB (s:String):PyData.strOk (Str.ofString s)=true:=by
 unfold PyData.strOk;rw [Array.all_eq_true'];intro c hc;have:c∈(Str.ofString s).cps.toList:=by simpa using hc
 obtain ⟨d,hd,rfl⟩:∃d:Char,d∈s.toList/\d.toNat=c:=by
  rw [Str.ofString_eq_toList] at this;simpa using this
 have:=d.valid
 simp only [decide_eq_true_eq]
 show d.val.toNat<0x110000
 rcases this with h | h
 ·exact Nat.lt_trans h (by decide)
 ·exact h.2
theorem yc {a b:Str} (ha:PyData.strOk a=true) (hb:PyData.strOk b=true):PyData.strOk (a++b)=true:=by
 unfold PyData.strOk at *
 rw [Str.cps_append,Array.all_append,ha,hb];rfl
theorem kW:∀(ts:List Str) (k:Nat) (acc:Str),PyData.strOk acc=true->(∀t∈ts,PyData.strOk t=true)->PyData.strOk (textFrom k acc ts)=true
 | [],k,acc,h,_=>h
 | t::ts,k,acc,h,ht=>kW ts (k+1) _ (yc (yc h (uB _)) (ht t mem_cons_self)) fun x hx=>ht x (mem_cons_of_mem _ hx)
theorem kX:∀(ts:List Str),(∀t∈ts,PyData.strOk t=true)->PyData.strOk (Str.join ", " ts)=true
 | [],_=>by decide +kernel
 | [x],h=>h x mem_cons_self
 | x::y::r,h=>yc (yc (h x mem_cons_self) (uB _)) (kX (y::r) fun t ht=>h t (mem_cons_of_mem _ ht))
def xR:List PySem.PyData->Option PySem.PyData
 | [d]=>if zP d&&d.canLay0&&d.showable&&decide (d.depth<=50)&&decide (d.shown.length<=sizeLine) then some (.str d.shown) else none
 | _=>none
def rX (K:Fg):List V->Hp->VK->Prop:=fun xs H Q=>∃(p:Addr) (d:PySem.PyData),xs=[.ref p]/\Rep K H (.ref p) d/\d.canLay0=true/\d.showable=true/\d.depth<=50/\d.shown.length<=sizeLine/\Q (.str d.shown) H
theorem tf {K:Fg}:GCall K (rX K) xR:=by
 intro vs H Q ds d r e k;unfold xR at e;split at e
 case h_2=>cases e
 rename_i d0
 cases hc:(zP d0&&d0.canLay0&&d0.showable&&decide (d0.depth<=50)&&decide (d0.shown.length<=sizeLine)) with
 | false=>rw [hc] at e;cases e
 | true=>
  rw [hc] at e
  cases e;simp only [Bool.and_eq_true,decide_eq_true_eq] at hc
  obtain ⟨⟨⟨⟨c1,c2⟩,c3⟩,c4⟩,c5⟩:=hc;obtain ⟨v,rfl,rv⟩:=r.one;obtain ⟨p,rfl⟩:∃p,v=.ref p:=by
   cases rv with
   | lst=>exact ⟨_,rfl⟩
   | tup=>exact ⟨_,rfl⟩
   | _=>cases c1
  exact ⟨p,d0,rfl,rv,c2,c3,c4,c5,k _ (.str _)⟩
theorem nu {X:Cx} (hr:Rm X) (hg:X.A.guards=some []):CallR X (.builtin "repr") (rX X.K):=by
 intro pins s U H xs us Q I rv h;obtain ⟨p,d,rfl,r,c2,c3,c4,c5,q⟩:=h;obtain ⟨u,rfl,ru⟩:=vals1 rv
 cases ru;obtain ⟨as,R⟩:=r.reads I (.ref p) rfl;have hu:X.A.units+64<cLine:=hr
 exact repr_of_reads' R c3 (PyData.noDict_hsm (PyData.hasDict_of_canLay d c2)) hg (by omega) (fun _ _ e=>e) (fun h' u tk hk=>⟨.str d.shown,H,I.kept (t':=tk) hk,⟨u,rfl⟩,q⟩) c5
section
variable {X:Cx} {N gl:List Str} {vs cs ls lo gs:List Nat} {W:XW} {a:Expr} {pos p:Pos} {fa:F1}
theorem cb_reprS (S:Cp X N gl vs cs ls lo gs) (hr:Rm X) (hG:X.A.guards=some []) (j:Nat) (hj:gl[j]?=some ("repr":Str)) (hg:gs.contains j=true) (hm:X.mg "repr"=none) (ha:PE X a (tE X.K W fa)) (hs:starEach [a] X.env=[(false,eval a X.env)]) (hpl:(backTo pos (starEach [] X.env)).any (·.1)=false) :
  PE X (.Call (.Name "repr" p) [a] [] pos) (tE X.K W (bb xR (ab fa ae))):=
 aY (Ee (nu hr hG) (S.g hj hg).1 hm boot_repr (da_cons ha da_nil hs) (S.g hj hg).2.2 (S.g hj hg).2.1 hs hpl) fun _ _ _=>nZ tf
end
mutual
def um:PySem.PyData->Nat
 | .none=>4
 | .bool _=>5
 | .int _=>1921
 | .str x=>(PyData.str x).shown.length
 | .dict k=>(PyData.dict k).shown.length
 | .list xs=>2+rzSL xs
 | .tuple xs=>3+rzSL xs
def rzSL:List PySem.PyData->Nat
 | []=>0
 | x::xs=>(um x+2)+rzSL xs
end
mutual
theorem jj:∀(d:PySem.PyData),d.showable=true->d.shown.length<=um d
 | .none,_=>by
  show (Str.ofString "None").length<=4
  rw [PySem.ofString_length];decide
 | .bool b,_=>by
  cases b
  ·show (Str.ofString "False").length<=5
   rw [PySem.ofString_length];decide
  ·show (Str.ofString "True").length<=5
   rw [PySem.ofString_length];decide
 | .int i,h=>kE (.int i) h (show (1921:Nat)<17000000 by decide)
 | .str x,_=>Nat.le_refl _
 | .dict k,_=>Nat.le_refl _
 | .list xs,h=>by
  have p:=shownAll_leS xs (by simpa [PyData.showable] using h)
  show (listText (PyData.shownAll xs)).length<=2+rzSL xs
  unfold listText;rw [Str.length_append];have t:=Ex (PyData.shownAll xs) 0 "["
  have e1:(Str.ofString "[").length=1:=by rw [PySem.ofString_length];decide
  have e2:(Str.ofString "]").length=1:=by rw [PySem.ofString_length];decide
  omega
 | .tuple xs,h=>by
  have p:=shownAll_leS xs (by simpa [PyData.showable] using h)
  show (tupleText (PyData.shownAll xs)).length<=3+rzSL xs
  unfold tupleText;rw [Str.length_append,Str.length_append];have e1:(Str.ofString "(").length=1:=by rw [PySem.ofString_length];decide
  have e2:(Str.ofString (if (PyData.shownAll xs).length==1 then ",)" else ")":String)).length<=2:=by
   split
   ·rw [PySem.ofString_length];decide
   ·rw [PySem.ofString_length];decide
  have e3:(Str.join ", " (PyData.shownAll xs)).length<=piled (PyData.shownAll xs):=by
   by_cases hn:PyData.shownAll xs=[]
   ·rw [hn];exact Nat.le_of_eq rfl
   ·have:=join_length_add _ hn
    omega
  omega
theorem shownAll_leS:∀(xs:List PySem.PyData),PyData.showableAll xs=true->piled (PyData.shownAll xs)<=rzSL xs
 | [],_=>Nat.le_refl _
 | x::xs,h=>by
  have h:x.showable=true/\PyData.showableAll xs=true:=by simpa [PyData.showableAll] using h
  have a:=jj x h.1
  have b:=shownAll_leS xs h.2
  show piled (x.shown::PyData.shownAll xs)<=(um x+2)+rzSL xs
  rw [piled_cons];omega
end
mutual
def iH:PySem.PyData->Bool
 | .none=>true
 | .bool _=>true
 | .int _=>true
 | .str x=>PyData.strOk (PyData.str x).shown
 | .dict _=>false
 | .list xs=>txOkL xs
 | .tuple xs=>txOkL xs
def txOkL:List PySem.PyData->Bool
 | []=>true
 | x::xs=>iH x&&txOkL xs
end
mutual
theorem hJ:∀(d:PySem.PyData),iH d=true->PyData.strOk d.shown=true
 | .none,_=>uB _
 | .bool b,_=>by cases b<;>exact uB _
 | .int i,_=>uB _
 | .str x,h=>h
 | .dict _,h=>nomatch h
 | .list xs,h=>yc (kW _ _ _ (uB _) (okS_allS xs h)) (uB _)
 | .tuple xs,h=>yc (yc (uB _) (kX _ (okS_allS xs h))) (uB _)
theorem okS_allS:∀(xs:List PySem.PyData),txOkL xs=true->∀t∈PyData.shownAll xs,PyData.strOk t=true
 | [],_,t,ht=>nomatch ht
 | x::xs,h,t,ht=>by
  have h:iH x=true/\txOkL xs=true:=Bool.and_eq_true_iff.mp h
  have ht:t∈x.shown::PyData.shownAll xs:=ht
  rcases List.mem_cons.mp ht with rfl | ht
  ·exact hJ x h.1
  ·exact okS_allS xs h.2 t ht
end
theorem uY {t:Str} (h:PyData.strOk t=true):SeqAt.shaped (.str t)=true:=by
 have:PyData.canLay0 (.str t)=true:=by
  rw [PyData.canLay0];exact h
 unfold SeqAt.shaped;rw [this];rfl
end T
namespace TQ
open PySem PySem.Spec L2 T
open PyProof.Rows hiding St
section
variable {X:Cx} {N gl:List Str} {vs cs ls lo gs:List Nat} {W:XW} {a:Expr} {pos p:Pos} {fa:F1}
theorem gU (S:Cp X N gl vs cs ls lo gs) (hr:Rm X) (hG:X.A.guards=some []) (j:Nat) (hj:gl[j]?=some ("repr":Str)) (hg:gs.contains j=true) (hm:X.mg "repr"=none) (ha:Q (PE X a (tE X.K W fa))) (hs:starEach [a] X.env=[(false,eval a X.env)]) (hpl:(backTo pos (starEach [] X.env)).any (·.1)=false) :
  Q (PE X (.Call (.Name "repr" p) [a] [] pos) (tE X.K W (bb xR (ab fa ae)))):=⟨T.cb_reprS S hr hG j hj hg hm ha.p hs hpl⟩
end
end TQ
namespace T
open PySem PySem.Spec L2
open PyProof.Rows hiding St
variable {k:Nat} {x y:Str} {px:Pos}
def Cf:List Int->Int
 | []=>0
 | a::r=>r.foldl (fun x y=>if y<x then y else x) a
theorem ox:∀(r:List Int) (a:Int),(r.foldl (fun x y=>if y<x then y else x) a=a\/r.foldl (fun x y=>if y<x then y else x) a∈r)/\r.foldl (fun x y=>if y<x then y else x) a<=a/\∀b∈r,r.foldl (fun x y=>if y<x then y else x) a<=b
 | [],a=>⟨.inl rfl,Int.le_refl _,fun b hb=>by cases hb⟩
 | c::r,a=>by
  rw [List.foldl_cons];obtain ⟨h1,h2,h3⟩:=ox r (if c<a then c else a)
  have e:(if c<a then c else a)<=a/\(if c<a then c else a)<=c/\((if c<a then c else a)=a\/(if c<a then c else a)=c):=by split<;>omega
  refine ⟨?_,by omega,fun b hb=>?_⟩
  ·rcases h1 with h1 | h1
   ·rw [h1]
    rcases e.2.2 with z | z
    ·exact .inl z
    ·exact .inr (by rw [z];exact mem_cons_self)
   ·exact .inr (mem_cons_of_mem _ h1)
  ·rcases List.mem_cons.mp hb with rfl | hb
   ·omega
   ·exact h3 b hb
theorem sH {ns:List Int} {M:Int} (h1:M∈ns) (h2:∀a∈ns,M<=a):Cf ns=M:=by
 cases ns with
 | nil=>cases h1
 | cons a r=>
  obtain ⟨g1,g2,g3⟩:=ox r a;show r.foldl _ a=M
  have u:M<=r.foldl (fun x y=>if y<x then y else x) a:=by
   rcases g1 with g1 | g1
   ·rw [g1];exact h2 a (by simp)
   ·exact h2 _ (mem_cons_of_mem _ g1)
  have l:r.foldl (fun x y=>if y<x then y else x) a<=M:=by
   rcases List.mem_cons.mp h1 with rfl | h1
   ·exact g2
   ·exact g3 M h1
  omega
def uz:List PySem.PyData->Option PySem.PyData
 | [.list ds]=>match intsOf ds with
  | some (a::r)=>some (.int (Cf (a::r)))
  | _=>none
 | _=>none
def rY (K:Fg):List V->Hp->VK->Prop:=fun xs H Q=>∃(p:Addr) (ns:List Int),xs=[.ref p]/\SqL K H p (ns.map V.int)/\0<ns.length/\Q (.int (Cf ns)) H
theorem th {K:Fg}:GCall K (rY K) uz:=by
 intro vs H Q ds d r e k;unfold uz at e;split at e
 ·rename_i es
  split at e
  ·rename_i a q ei
   cases e;rw [EB ei] at r;have hl:=r.1
   match vs,hl with
   | [v],_=>
    have z:=r.2 0 v (.list ((a::q).map .int)) rfl rfl
    cases z with
    | @lst p ws _ hq hwl hw=>
     have ew:=pA (K:=K) (H:=H) ⟨hwl,hw⟩
     rw [ew] at hq;exact ⟨p,a::q,rfl,hq,by simp,k _ (.int _)⟩
  ·cases e
 ·cases e
theorem ny {X:Cx} (hc:X.calm=true):CallR X (.builtin "min") (rY X.K):=by
 intro pins s U H vs us Q I rv h;obtain ⟨p,ns,rfl,hq,hne,q⟩:=h;obtain ⟨u,rfl,ru⟩:=vals1 rv
 cases ru;obtain ⟨its,rv,pl,hz⟩:=I.list hq;have hi:=DZ rv
 obtain ⟨xs,ex⟩:=(hi.allInts:AllInts its.toArray).items
 have en:ns=xs.toList.map (·.1):=by
  rw [<-nums_intItems,<-ex];exact hi.numsOf.symm
 have hl:=pl.isList
 rw [ex] at hl;have hsz:0<xs.size:=by
  have h3:=hne
  rw [en,length_map,Array.length_toList] at h3;exact h3
 refine min_intList (I.ok.hd hc) hl hsz fun v h' tk hv hk=>?_
 obtain ⟨t,rfl⟩:=intItems_at hv;obtain ⟨h1,h2⟩:=argBest_lt (numAt xs) (xs.size-1)
 have eM:Cf ns=numAt xs (argBest (fun i j=>decide (numAt xs i<numAt xs j)) (xs.size-1)):=by
  refine sH ?_ fun a ha=>?_
  ·rw [en,numAt_eq]
   exact getD_mem (by rw [length_map,Array.length_toList];omega)
  ·rw [en] at ha
   obtain ⟨j,hj,rfl⟩:=mem_getD ha;rw [length_map,Array.length_toList] at hj;rw [<-numAt_eq];exact h2 j (by omega)
 rw [eM] at q;exact ⟨.int (numAt xs (argBest (fun i j=>decide (numAt xs i<numAt xs j)) (xs.size-1))),H,I.kept (h':=h') (t':=tk) hk,⟨_,rfl⟩,q⟩
section
variable {X:Cx} {N gl:List Str} {vs cs ls lo gs:List Nat} {W:XW} {e:Expr} {es:List Expr} {pos p:Pos} {fl:FL}
theorem cb_minLs (S:Cp X N gl vs cs ls lo gs) (j:Nat) (hj:gl[j]?=some ("min":Str)) (hg:gs.contains j=true) (hm:X.mg "min"=none) (ha:PA X (e::es) (tA X.K W fl)) (he:starEach (e::es) X.env=(false,eval e X.env)::starEach es X.env) (hpl:(backTo pos (starEach es X.env)).any (·.1)=false) :
  PE X (.Call (.Name "min" p) (e::es) [] pos) (tE X.K W (bb uz fl)):=lP (ny S.calm) th CG hm ha (S.g hj hg).1 (S.g hj hg).2.2 (S.g hj hg).2.1 he hpl
end
def frzA (Γ:Ev):Ev:=Γ.map fun o=>o.map fun p=>⟨.leaf,p.d⟩
def cM:Sh->PySem.PyData->Bool
 | .leaf,d=>aT d
 | .lst .leaf,.list ds=>ds.all aT
 | .lst (.lst .leaf),.list ds=>ds.all fun d=>match d with
  | .list es=>es.all aT
  | _=>false
 | _,_=>false
section
variable {K:Fg} {W:XW} {He H:Hp} {O O':List Addr} {Fs:List (List Addr)} {U:St} {Γ:Ev}
theorem AW {α β:Type}:∀(l:List α),(l.map fun _=>([]:List β)).flatten=[]
 | []=>rfl
 | _::l=>by rw [map_cons,flatten_cons,AW l];rfl
theorem EnvOk.frzA (E:EnvOk K He O Fs H U Γ):EnvOk K He O (Γ.map fun _=>[]) H U (frzA Γ):=by
 refine ⟨by rw [T.frzA,length_map];exact E.len1,by rw [T.frzA,length_map,length_map],E.same,?_,fun a ha=>E.inH a ?_,fun a ha=>?_,fun i p h=>?_⟩
 ·rw [AW,append_nil];exact E.ndO
 ·rw [AW,append_nil] at ha;exact mem_append_left _ ha
 ·rw [AW] at ha;cases ha
 ·rw [T.frzA,getElem?_map] at h
  cases e:Γ[i]? with
  | none=>rw [e] at h;cases h
  | some o=>
   rw [e] at h
   cases o with
   | none=>cases h
   | some q=>
    cases h;obtain ⟨hv,v,F,h1,h2,h3⟩:=E.slot i q e;refine ⟨rfl,v,[],h1,by rw [getElem?_map,e];rfl,.leaf ?_⟩
    rw [AW,append_nil];exact h3.freeze hv (fun a ha=>mem_append_left _ ha) fun a ha z=>(List.nodup_append.mp E.nd).2.2 a z a (ja h2 ha) rfl
theorem Own.anyO1 {G:List Addr} {v:V} {ds:List PySem.PyData} (h:Own K O H (.lst .leaf) G v (.list ds)) (n:ds.all aT=true):Own K O' H (.lst .leaf) G v (.list ds):=by
 cases h with
 | lst hv hp hl hf nd q=>
  refine .lst hv hp hl hf nd fun i v d F h1 h2 h3=>?_
  have o:=q i v d F h1 h2 h3
  cases o with
  | leaf r=>exact .leaf (r.sc (List.all_eq_true.mp n d (mem_of_getElem? h2))).rep
theorem Own.anyO {s:Sh} {G:List Addr} {v:V} {d:PySem.PyData} (h:Own K O H s G v d) (n:cM s d=true):Own K O' H s G v d:=by
 unfold cM at n;split at n
 ·cases h with
  | leaf r=>exact .leaf (r.sc n).rep
 ·exact h.anyO1 n
 ·rename_i ds
  cases h with
  | lst hv hp hl hf nd q=>
   refine .lst hv hp hl hf nd fun i v d F h1 h2 h3=>?_
   have o:=q i v d F h1 h2 h3
   have z:=List.all_eq_true.mp n d (mem_of_getElem? h2)
   split at z
   ·exact o.anyO1 z
   ·cases z
 ·cases n
theorem lx {s:Sh} {d:PySem.PyData} (n:cM s d=true):s.isView=false:=by
 unfold cM at n;split at n
 ·rfl
 ·rfl
 ·rfl
 ·cases n
theorem Aft.newG {Γ':Ev} {p:PV} {v:V} {H':Hp} {G:List Addr} {Fs':List (List Addr)} {Γ0:Ev} (A:Aft K He O (Γ0.map fun _=>[]) H U Γ' p v H' G Fs'):(∀a∈G,H a=none)/\(∀a∈G,H' a≠none)/\G.Nodup:=by
 refine ⟨fun a ha=>?_,fun a ha=>A.env.inH a (mem_append_left _ (mem_append_left _ ha)),(List.nodup_append.mp A.env.ndO).1⟩
 rcases A.new a (mem_append_left _ ha) with z | z
 ·rw [AW] at z;cases z
 ·exact z
def As (i:Nat) (f:F1):F1:=fun Γ=>match Γ[i]? with
 | some (some ⟨.tup [s0,s1],.tuple [d0,d1]⟩)=>(match f (T.frzA Γ) with
  | .ok p _=>if cM p.s p.d then .ok ⟨.tup [s0,s1,p.s],.tuple [d0,d1,p.d]⟩ (Γ.set i none) else .no
  | _=>.no)
 | _=>.no
theorem BP {i:Nat} {f:F1} {Q:VK} (h:tE K W (As i f) U H Q):jJ (bo (nQ (B1 K) (dU i) (tC (.int 0))) (bo (nQ (B1 K) (dU i) (tC (.int 1))) (bo (tE K W f) cC))) U H Q:=by
 obtain ⟨He,O,Fs,Γ,E,h⟩:=h;have h:Wants K W He O Fs H U Q (As i f Γ):=h
 unfold As at h;split at h
 case h_2=>exact h.elim
 rename_i s0 s1 d0 d1 e0;obtain ⟨hv,v,F,h1,E1,o1,sub⟩:=E.move e0;have frE:=E.fresh
 cases o1 with
 | @tup _ p vs _ Fs0 hsv hp hn hl hf hs nd q=>
  obtain ⟨v0,v1,rfl⟩:∃a b,vs=[a,b]:=by
   match vs,hl with
   | [a,b],_=>exact ⟨a,b,rfl⟩
  obtain ⟨F0,F1,rfl⟩:∃a b,Fs0=[a,b]:=by
   match Fs0,hf with
   | [a,b],_=>exact ⟨a,b,rfl⟩
  refine ⟨.ref p,h1,.inr (.inl ⟨p,[v0,v1],0,v0,rfl,rfl,.of hp,rfl,?_⟩)⟩
  refine ⟨.ref p,h1,.inr (.inl ⟨p,[v0,v1],1,v1,rfl,rfl,.of hp,rfl,?_⟩)⟩
  refine ⟨He,O,_,_,E.frzA,?_⟩
  cases ef:f (T.frzA Γ) with
  | no=>rw [ef] at h;exact h
  | er c Γ'=>rw [ef] at h;exact h.elim
  | ok r Γ'=>
   rw [ef] at h;have h:Wants K W He O Fs H U Q (if cM r.s r.d then .ok ⟨.tup [s0,s1,r.s],.tuple [d0,d1,r.d]⟩ (Γ.set i none) else .no):=h
   cases hn2:cM r.s r.d with
   | false=>rw [hn2] at h;exact h.elim
   | true=>
    rw [hn2] at h;intro u H2 G Fs2 A;obtain ⟨g1,g2,g3⟩:=A.newG;refine ⟨by show 3<=sizeLine;decide,fun T hT=>h _ _ ([F0,F1,G].flatten) (Fs.set i []) ?_⟩
    have E2:=E1.hide A.same g3 g1 g2
    have fl2:[F0,F1].flatten=F0++F1:=by simp
    have fl3:[F0,F1,G].flatten=F0++(F1++G):=by simp
    have ndA:(G++((F0++F1)++O)).Nodup:=by have:=E2.ndO;rw [fl2] at this;exact this
    obtain ⟨n1,n2,n3⟩:=List.nodup_append.mp ndA;obtain ⟨n4,n5,n6⟩:=List.nodup_append.mp n2;have ndF:(F0++(F1++G)).Nodup:=by
     rw [<-append_assoc];exact List.nodup_append.mpr ⟨n4,n1,fun a ha b hb z=>n3 b hb a (mem_append_left _ ha) z.symm⟩
    have mem:∀a,a∈F0++(F1++G)->a∈F0++F1\/a∈G:=fun a ha=>by
     rw [<-append_assoc] at ha;exact List.mem_append.mp ha
    have E3:EnvOk K He (F0++(F1++G)++O) (Fs.set i []) H2 U (Γ.set i none):=E2.drop (fun a ha=>by
      rw [fl2];rcases List.mem_append.mp ha with z | z
      ·rcases mem a z with z | z
       ·exact mem_append_right _ (mem_append_left _ z)
       ·exact mem_append_left _ z
      ·exact mem_append_right _ (mem_append_right _ z)) (List.nodup_append.mpr ⟨ndF,n5,fun a ha b hb z=>by
      rcases mem a ha with y | y
      ·exact n6 a y b hb z
      ·exact n3 a y b (mem_append_right _ hb) z⟩)
    have E4:=E3.grow (fE (o:=.tup [v0,v1,u]) hT)
    have hTn:T∉F0++(F1++G)++O++(Fs.set i []).flatten:=fun z=>E3.inH T z hT
    have sm:Same H (bA H2 T (.tup [v0,v1,u])):=A.same.trans (fE hT)
    have old:∀a,a∈F0++(F1++G)++O++(Fs.set i []).flatten->a∈[F0,F1].flatten++O++(Fs.set i []).flatten\/H a=none:=fun a ha=>by
     rw [fl2];rcases List.mem_append.mp ha with z | z
     ·rcases List.mem_append.mp z with z | z
      ·rcases mem a z with z | z
       ·exact .inl (mem_append_left _ (mem_append_left _ z))
       ·exact .inr (g1 a z)
      ·exact .inl (mem_append_left _ (mem_append_right _ z))
     ·exact .inl (mem_append_right _ z)
    have q0:=(q 0 v0 d0 F0 s0 rfl rfl rfl rfl).mono sm old
    have q1:=(q 1 v1 d1 F1 s1 rfl rfl rfl rfl).mono sm old
    have q2:Own K (F0++(F1++G)++O++(Fs.set i []).flatten) (bA H2 T (.tup [v0,v1,u])) r.s G u r.d:=(A.own.mono (fE hT) fun a z=>.inl z).anyO hn2
    refine ⟨sm,by rw [fl3];exact E4,fun a ha=>?_,?_⟩
    ·rw [fl3] at ha
     rcases List.mem_append.mp ha with z | z
     ·rcases mem a z with z | z
      ·exact .inl (sub a (mem_append_left _ (by rw [fl2];exact z)))
      ·exact .inr (g1 a z)
     ·exact .inl (sub a (mem_append_right _ z))
    ·rw [fl3]
     have:=Own.tup (K:=K) (O:=F0++(F1++G)++O++(Fs.set i []).flatten) (H:=bA H2 T (.tup [v0,v1,u])) (ss:=[s0,s1,r.s]) (p:=T) (vs:=[v0,v1,u]) (ds:=[d0,d1,r.d]) (Fs:=[F0,F1,G]) (fun s hs'=>by
       rcases List.mem_cons.mp hs' with rfl | hs'
       ·exact hsv _ (by simp)
       ·rcases List.mem_cons.mp hs' with rfl | hs'
        ·exact hsv _ (by simp)
        ·rw [List.mem_singleton.mp hs'];exact lx hn2) fL hTn rfl rfl rfl (by rw [fl3];exact ndF) (fun k v d F s e1 e2 e3 e4=>by
       match k,e1,e2,e3,e4 with
       | 0,e1,e2,e3,e4=>cases e1;cases e2;cases e3;cases e4;exact q0
       | 1,e1,e2,e3,e4=>cases e1;cases e2;cases e3;cases e4;exact q1
       | 2,e1,e2,e3,e4=>cases e1;cases e2;cases e3;cases e4;exact q2
       | k+3,e1,_,_,_=>simp at e1)
     rw [fl3] at this;exact this
def xb (i j k:Nat) (f:F1):FS:=fun Γ=>match Γ[i]?,Γ[j]? with
 | some (some ⟨.lst s,.list ds⟩),some (some q)=>if decide (i≠j)&&decide (k<Γ.length)&&T.coer s q&&decide (ds.length<sizeLine) then
   (match f (T.frzA (Γ.set i none)) with
   | .ok p _=>if cM p.s p.d then .nx (((Γ.set j none).set i (some ⟨.lst s,.list (ds++[q.d])⟩)).set k (some p)) else .no
   | _=>.no) else .no
 | _,_=>.no
theorem rT {i j:Nat} {f:F1} {D:dv} (h:tS K W (xb i j k f) D U H):fF (d6 (uk K "list" xc (dU i) (bo (dU j) cC))) (gW (tE K W f) (L2.gName k)) D U H:=by
 obtain ⟨He,O,Fs,Γ,E,h⟩:=h;have h:kq K W He O D (xb i j k f Γ):=h
 unfold xb at h;split at h
 case h_2=>exact h.elim
 rename_i s ds q e0 e1
 cases hc:(decide (i≠j)&&decide (k<Γ.length)&&T.coer s q&&decide (ds.length<sizeLine)) with
 | false=>rw [hc] at h;exact h.elim
 | true=>
  rw [hc] at h;simp only [Bool.and_eq_true,decide_eq_true_eq] at hc
  obtain ⟨⟨⟨c1,c2⟩,c3⟩,c4⟩:=hc;have h:kq K W He O D (match f (T.frzA (Γ.set i none)) with
   | .ok p _=>if cM p.s p.d then .nx (((Γ.set j none).set i (some ⟨.lst s,.list (ds++[q.d])⟩)).set k (some p)) else .no
   | _=>.no):=h
  have frE:=E.fresh
  obtain ⟨hv,v,Fj,hj,E1,o1,sub⟩:=E.move e1;obtain ⟨l,vs,q1,q2,q3,Fs',E2⟩:=oS (G:=Fj) (i:=i) E1 o1 (fun a ha=>frE a (sub a (mem_append_left _ ha))) (by rw [getElem?_set_ne (Ne.symm c1)];exact e0) c3
  refine ⟨.ref l,q1,.inl ⟨rfl,vs,.of q2⟩,v,hj,⟨l,vs,v,rfl,rfl,q2,by rw [q3];exact c4,?_⟩⟩
  obtain ⟨hv3,v3,Fi,hi3,E3,o3,sub3'⟩:=E.move e0;have hl3:l∈Fi:=by
   cases o3 with
   | @lst _ l3 vs3 _ Fs3 _ _ _ _ _ _=>
    rw [q1] at hi3
    cases hi3;exact mem_cons_self
  have E4:=(E3.mutO (o:=.lst (vs++[v])) (mem_append_left _ hl3) q2 (frE l (sub3' l (mem_append_left _ hl3)))).dropL.frzA
  show tE K W f U (bA H l (.lst (vs++[v]))) (fun x H1=>L2.gName k x U H1 D.nx)
  refine ⟨He,O,_,_,E4,?_⟩
  cases ef:f (T.frzA (Γ.set i none)) with
  | no=>rw [ef] at h;exact h
  | er c Γ'=>rw [ef] at h;exact h.elim
  | ok r Γ'=>
   rw [ef] at h;have h:kq K W He O D (if cM r.s r.d then .nx (((Γ.set j none).set i (some ⟨.lst s,.list (ds++[q.d])⟩)).set k (some r)) else .no):=h
   cases hn2:cM r.s r.d with
   | false=>rw [hn2] at h;exact h.elim
   | true=>
    rw [hn2] at h;have h:∀U' H' Fs',EnvOk K He O Fs' H' U' (((Γ.set j none).set i (some ⟨.lst s,.list (ds++[q.d])⟩)).set k (some r))->D.nx U' H':=h
    intro u H2 G Fs2 A;obtain ⟨g1,g2,g3⟩:=A.newG;have E5:=E2.hide A.same g3 g1 g2
    exact h _ _ _ (E5.put (v:=u) (A.own.anyO hn2) (lx hn2) (fun a ha=>E2.same.free (g1 a ha)) (by rw [length_set,length_set];exact c2))
end
section
variable {X:Cx} {N gl:List Str} {vs cs ls lo gs:List Nat} {W:XW} {b:Expr} {f:F1} {g:FS} {pos:Pos}
theorem ce_t3 (S:Cp X N gl vs cs ls lo gs) (i:Nat) {p0 p1 q0 q1 s0 s1:Pos} {n0 n1:Nat} (hx:N[i]?=some x) (hv:vs.contains i=true) (hb:PE X b (tE X.K W f)) (h0:xg (.Constant (.int 0) n0 q0)) (h1:xg (.Constant (.int 1) n1 q1))
  (t0:starEach [.Subscript (.Name x p0) (.Constant (.int 0) n0 q0) s0,.Subscript (.Name x p1) (.Constant (.int 1) n1 q1) s1,b] X.env=(false,eval (.Subscript (.Name x p0) (.Constant (.int 0) n0 q0) s0) X.env)::starEach [.Subscript (.Name x p1) (.Constant (.int 1) n1 q1) s1,b] X.env)
  (t1:starEach [.Subscript (.Name x p1) (.Constant (.int 1) n1 q1) s1,b] X.env=(false,eval (.Subscript (.Name x p1) (.Constant (.int 1) n1 q1) s1) X.env)::starEach [b] X.env) (t2:starEach [b] X.env=(false,eval b X.env)::starEach [] X.env) :
  PE X (.Tuple [.Subscript (.Name x p0) (.Constant (.int 0) n0 q0) s0,.Subscript (.Name x p1) (.Constant (.int 1) n1 q1) s1,b] k pos) (tE X.K W (As i f)):=by
 have m:=S.nm x (mem_of_getElem? hx)
 have vx:∀{p:Pos},PE X (.Name x p) (dU i):=qL (by rw [S.hN];exact hx) (S.vis i x hx hv) m.1 m.2
 exact aY (CW (nK (om CU vx xa h0) (nK (om CU vx xa h1) (nK hb ud t2) t1) t0)) fun _ _ _=>BP
theorem cs_setCompR {scope:Scope} {pos' spos:Pos} {iter elt:Expr} {ifs:List Expr} {fi:FI} {fe:F1} {fc:FB} {vs' cs' lo' gs':List Nat} (S:Cp X N gl vs cs ls lo gs) (j:Nat) (s:Sh) (i:Nat) (hy:N[j]?=some y) (hyl:lo.contains j=true) (hx:N[i]?=some x)
  (hsl:(pos'.line==pos.line)=true) (hsn:(scope.names.any fun (n,k)=>n==y&&(k==NameKind.local||k==NameKind.cell))=false) (h1:fW N i cs scope=true) (h2:oN N gl vs' cs' [i] lo' gs' scope=true)
  (hi':PI X (.Name x px) iter (tI X.K W fi)) (hc:my X N gl vs' cs' [i] lo' gs' fun Y=>PF Y ifs (tT Y.K W0 fc)) (he:my X N gl vs' cs' [i] lo' gs' fun Y=>PE Y elt (tE Y.K W0 fe)) (hs:∀x,foldedSetIterable iter X.env x=pure x) :
  PS X (.Assign [.Name y pos'] (.ListComp elt [⟨.Name x px,iter,ifs,0⟩] scope pos) spos) (gW (tE X.K W (aj s i fi fc fe)) (L2.gName j)):=by
 have B:=fun cells C s₀ H₀ ex=>S.blk h2 cells C s₀ H₀ ex
 have L:=fun cells C s₀ H₀ ex=>(B cells C s₀ H₀ ex).loc i x hx (by simp)
 have hN:X.N.Nodup:=by rw [S.hN];exact S.nd
 have hx':X.N[i]?=some x:=by rw [S.hN];exact hx
 exact cO (g6 hN (by rw [S.hN];exact hy) (S.loo j y hy hyl) (D8 S h1) S.calm hi' (fun cells C s₀ H₀ ex=>oX (X:=blk X scope cells C s₀ H₀ ex) (i:=i) hN hx' (L cells C s₀ H₀ ex).1 (L cells C s₀ H₀ ex).2) (fun cells C s₀ H₀ ex=>hc _ (B cells C s₀ H₀ ex) ⟨rfl,rfl,rfl,rfl,rfl,rfl⟩) (fun cells C s₀ H₀ ex=>he _ (B cells C s₀ H₀ ex) ⟨rfl,rfl,rfl,rfl,rfl,rfl⟩) (gX S.kind (S.loo j y hy hyl) hsl hsn) hs) fun D U H h=>Et h
theorem cs_appLk (S:Cp X N gl vs cs ls lo gs) (i j k:Nat) {py apos cpos epos:Pos} {st:Stmt} {rest:List Stmt} (hx:N[i]?=some x) (hv:vs.contains i=true) (hy:N[j]?=some y) (hvy:vs.contains j=true) (A:Ap X (.Name x px) (.Name y py) apos cpos epos) (h2:PS X st (gW (tE X.K W f) (L2.gName k))) (hr:PSs X rest (tS X.K W g)) :
  PSs X (.Expr (.Call (.Attribute (.Name x px) "append" apos) [.Name y py] [] cpos) epos::st::rest) (tS X.K W (au (xb i j k f) g)):=by
 have m:=S.nm x (mem_of_getElem? hx)
 have m2:=S.nm y (mem_of_getElem? hy)
 exact CP (yf (kR A (qL (by rw [S.hN];exact hx) (S.vis i x hx hv) m.1 m.2) (qL (by rw [S.hN];exact hy) (S.vis j y hy hvy) m2.1 m2.2)) (yf h2 hr)) fun D U H h=>by
  have h2:=DP h
  exact rT h2
end
end T
namespace TQ
open PySem PySem.Spec L2 T
open PyProof.Rows hiding St
variable {x y:Str} {px:Pos}
section
variable {X:Cx} {N gl:List Str} {vs cs ls lo gs:List Nat} {W:XW} {b e:Expr} {es:List Expr} {pos p:Pos} {fl:FL} {f:F1} {g:FS}
theorem mG (S:Cp X N gl vs cs ls lo gs) (j:Nat) (hj:gl[j]?=some ("min":Str)) (hg:gs.contains j=true) (hm:X.mg "min"=none) (ha:Q (PA X (e::es) (tA X.K W fl))) (he:starEach (e::es) X.env=(false,eval e X.env)::starEach es X.env) (hpl:(backTo pos (starEach es X.env)).any (·.1)=false) :
  Q (PE X (.Call (.Name "min" p) (e::es) [] pos) (tE X.K W (bb uz fl))):=⟨T.cb_minLs S j hj hg hm ha.p he hpl⟩
theorem uR (S:Cp X N gl vs cs ls lo gs) (i:Nat) {p0 p1 q0 q1 s0 s1:Pos} {n0 n1 k:Nat} (hb:Q (PE X b (tE X.K W f))) (hx:N[i]?=some x:=by rfl) (hv:vs.contains i=true:=by rfl) (h0:xg (.Constant (.int 0) n0 q0):=by exact fun _ _=>rfl) (h1:xg (.Constant (.int 1) n1 q1):=by exact fun _ _=>rfl)
  (t0:starEach [.Subscript (.Name x p0) (.Constant (.int 0) n0 q0) s0,.Subscript (.Name x p1) (.Constant (.int 1) n1 q1) s1,b] X.env=(false,eval (.Subscript (.Name x p0) (.Constant (.int 0) n0 q0) s0) X.env)::starEach [.Subscript (.Name x p1) (.Constant (.int 1) n1 q1) s1,b] X.env:=by exact cj rfl)
  (t1:starEach [.Subscript (.Name x p1) (.Constant (.int 1) n1 q1) s1,b] X.env=(false,eval (.Subscript (.Name x p1) (.Constant (.int 1) n1 q1) s1) X.env)::starEach [b] X.env:=by exact cj rfl) (t2:starEach [b] X.env=(false,eval b X.env)::starEach [] X.env:=by exact cj rfl) :
  Q (PE X (.Tuple [.Subscript (.Name x p0) (.Constant (.int 0) n0 q0) s0,.Subscript (.Name x p1) (.Constant (.int 1) n1 q1) s1,b] k pos) (tE X.K W (As i f))):=⟨T.ce_t3 S i hx hv hb.p h0 h1 t0 t1 t2⟩
theorem iG {scope:Scope} {pos' spos:Pos} {iter elt:Expr} {ifs:List Expr} {fi:FI} {fe:F1} {fc:FB} {vs' cs' lo' gs':List Nat} (S:Cp X N gl vs cs ls lo gs) (j:Nat) (s:Sh) (i:Nat) (hy:N[j]?=some y) (hyl:lo.contains j=true) (hx:N[i]?=some x)
  (hsl:(pos'.line==pos.line)=true) (hsn:(scope.names.any fun (n,k)=>n==y&&(k==NameKind.local||k==NameKind.cell))=false) (h1:fW N i cs scope=true) (h2:oN N gl vs' cs' [i] lo' gs' scope=true)
  (hi':Q (PI X (.Name x px) iter (tI X.K W fi))) (hc:my X N gl vs' cs' [i] lo' gs' fun Y=>Q (PF Y ifs (tT Y.K W0 fc))) (he:my X N gl vs' cs' [i] lo' gs' fun Y=>Q (PE Y elt (tE Y.K W0 fe))) (hs:∀x,foldedSetIterable iter X.env x=pure x) :
  Q (PS X (.Assign [.Name y pos'] (.ListComp elt [⟨.Name x px,iter,ifs,0⟩] scope pos) spos) (gW (tE X.K W (aj s i fi fc fe)) (L2.gName j))):=⟨T.cs_setCompR S j s i hy hyl hx hsl hsn h1 h2 hi'.p (fun Y S F=>(hc Y S F).p) (fun Y S F=>(he Y S F).p) hs⟩
theorem mF (S:Cp X N gl vs cs ls lo gs) (i j k:Nat) {py apos cpos epos:Pos} {st:Stmt} {rest:List Stmt} (h2:Q (PS X st (gW (tE X.K W f) (L2.gName k)))) (hr:Q (PSs X rest (tS X.K W g))) (hx:N[i]?=some x:=by rfl) (hv:vs.contains i=true:=by rfl) (hy:N[j]?=some y:=by rfl) (hvy:vs.contains j=true:=by rfl) (A:Ap X (.Name x px) (.Name y py) apos cpos epos:=by exact ⟨rfl,rfl,rfl,rfl,cZ rfl⟩) :
  Q (PSs X (.Expr (.Call (.Attribute (.Name x px) "append" apos) [.Name y py] [] cpos) epos::st::rest) (tS X.K W (au (xb i j k f) g))):=⟨T.cs_appLk S i j k hx hv hy hvy A h2.p hr.p⟩
end
end TQ
namespace T
open PySem PySem.Spec L2
open PyProof.Rows hiding St
variable {it o:Expr} {t9:Pos} {n2:Nat}
def yg:PySem.PyData->Bool
 | .tuple [.list es,_]=>decide (es.length<=1000)
 | _=>false
theorem kC {d:PySem.PyData} (h:yg d=true):∃es m,d=.tuple [.list es,m]/\es.length<=1000:=by
 unfold yg at h;split at h
 ·exact ⟨_,_,rfl,of_decide_eq_true h⟩
 ·cases h
def yd (i j k:Nat):FS:=fun Γ=>match Γ[i]? with
 | some (some ⟨.tup [.lst (.tup [.lst .leaf,.leaf]),.lst .leaf,.lst (.lst .leaf)],.tuple [.list rs,.list ks,.list ns]⟩)=>if rs.all yg&&ns.all xU&&decide (rs.length<=999)&&decide (ks.length<=1000)&&decide (ns.length<=1000)&&decide (i≠j)&&decide (i≠k)&&decide (j<Γ.length)&&decide (k<Γ.length) then .nx (((Γ.set i none).set j none).set k none) else .no
 | _=>.no
abbrev cu (K:Fg) (i:Nat) (z:Int):TE:=nQ (B1 K) (dU i) (tC (.int z))
section
variable {K:Fg} {W:XW} {He H:Hp} {O:List Addr} {Fs:List (List Addr)} {U:St} {Γ:Ev} {D:dv}
theorem Own.trows {O:List Addr} {G:List Addr} {v:V} {ds:List PySem.PyData} (h:Own K O H (.lst (.tup [.lst .leaf,.leaf])) G v (.list ds)) (hs:ds.all yg=true) :
  ∃R rs S,v=.ref R/\G=R::S/\R∉S/\H R=some (.lst rs)/\rs.length=ds.length/\(∀x∈rs,∃t l m,x=.ref t/\H t=some (.tup [.ref l,m])/\l∈S)/\∀l∈S,∃ws,H l=some (.lst ws)/\ws.length<=1000:=by
 cases h with
 | @lst _ R vs _ Fs0 hsv hp hl hf nd q=>
  have row:∀(m:Nat) x F,vs[m]?=some x->Fs0[m]?=some F->∃t l y ws,x=.ref t/\H t=some (.tup [.ref l,y])/\F=[l]/\H l=some (.lst ws)/\ws.length<=1000:=fun m x F hm hF=>by
   have hlt:=(List.getElem?_eq_some_iff.mp hm).1
   have d1:ds[m]?=some (ds[m]'(by omega)):=getElem?_eq_getElem _
   obtain ⟨es,y,ee,hes⟩:=kC (List.all_eq_true.mp hs _ (mem_of_getElem? d1))
   have o:=q m x _ _ hm d1 hF
   rw [ee] at o
   cases o with
   | @tup _ t ts _ Ft hsv2 ht hn hl2 hf2 hs2 nd2 q2=>
    obtain ⟨a,b,rfl⟩:∃a b,ts=[a,b]:=by
     match ts,hl2 with
     | [a,b],_=>exact ⟨a,b,rfl⟩
    obtain ⟨Fa,Fb,rfl⟩:∃a b,Ft=[a,b]:=by
     match Ft,hf2 with
     | [a,b],_=>exact ⟨a,b,rfl⟩
    have o0:=q2 0 a _ Fa _ rfl rfl rfl rfl
    have o1:=q2 1 b _ Fb _ rfl rfl rfl rfl
    obtain ⟨l,ws,e1,eG,hl1,hl2,_⟩:=o0.leaves;subst e1 eG
    cases o1 with
    | leaf _=>exact ⟨t,l,b,ws,rfl,ht,by simp,hl1,by omega⟩
  refine ⟨R,vs,Fs0.flatten,rfl,rfl,(List.nodup_cons.mp nd).1,hp,hl,fun x hx=>?_,fun l hl'=>?_⟩
  ·obtain ⟨m,hm,e⟩:=getElem_of_mem hx
   have hm':vs[m]?=some x:=by rw [getElem?_eq_getElem hm,e]
   have f1:Fs0[m]?=some (Fs0[m]'(by omega)):=getElem?_eq_getElem _
   obtain ⟨t,l,y,ws,e1,e2,eG,_,_⟩:=row m x _ hm' f1
   rw [eG] at f1;exact ⟨t,l,y,e1,e2,ja f1 (List.mem_singleton.mpr rfl)⟩
  ·obtain ⟨F,hF,hlF⟩:=List.mem_flatten.mp hl'
   obtain ⟨m,hm,e⟩:=getElem_of_mem hF;have f1:Fs0[m]?=some F:=by rw [getElem?_eq_getElem hm,e]
   have v1:vs[m]?=some (vs[m]'(by omega)):=getElem?_eq_getElem _
   obtain ⟨t,l2,y,ws,_,_,eG,h1,h2⟩:=row m _ F v1 f1;rw [eG] at hlF;rw [List.mem_singleton.mp hlF];exact ⟨ws,h1,h2⟩
def Cm (K:Fg) (i j:Nat):TS:=uV (oE K (nQ (jm K) (cu K i 0) (jK (bo (jJ (bo (cu K i 1) (bo (tC (.int 0)) cC))) cC)))) (L2.gName j) (d6 (uk K "list" xc (cu K j 0) (bo (tC (.int 9)) cC)))
def Cj (K:Fg) (i k:Nat):TS:=uV (oE K (cu K i 2)) (L2.gName k) (d6 (uk K "list" xc (dU k) (bo (tC (.int 9)) cC)))
def Ci (K:Fg) (i:Nat):TS:=d6 (uk K "list" xc (cu K i 0) (bo (jJ (bo (jK (bo (tC (.int 0)) cC)) (bo (tC .non) cC))) cC))
def DA (K:Fg) (i:Nat):TS:=d6 (uk K "list" xc (cu K i 2) (bo (jK cC) cC))
theorem pC {i j k:Nat} (h:tS K W (yd i j k) D U H):fF (Cm K i j) (fF (Cj K i k) (fF (Ci K i) (DA K i))) D U H:=by
 unfold Cm Cj Ci DA;obtain ⟨He,O,Fs,Γ,E,h⟩:=h;have h:kq K W He O D (yd i j k Γ):=h
 unfold yd at h;split at h
 case h_2=>exact h.elim
 rename_i ra ka na e0
 cases hc:(ra.all yg&&na.all xU&&decide (ra.length<=999)&&decide (ka.length<=1000)&&decide (na.length<=1000)&&decide (i≠j)&&decide (i≠k)&&decide (j<Γ.length)&&decide (k<Γ.length)) with
 | false=>rw [hc] at h;exact h.elim
 | true=>
  rw [hc] at h;have h:∀U' H' Fs',EnvOk K He O Fs' H' U' (((Γ.set i none).set j none).set k none)->D.nx U' H':=h
  simp only [Bool.and_eq_true,decide_eq_true_eq] at hc
  obtain ⟨⟨⟨⟨⟨⟨⟨⟨c1,c2⟩,c3⟩,c3'⟩,c4⟩,c5⟩,c6⟩,c8⟩,c9⟩:=hc;have frE:=E.fresh
  obtain ⟨hv,v,F,h1,E1,o1,sub⟩:=E.move e0;obtain ⟨Fs1,E2⟩:=E1.loose j;obtain ⟨Fs2,E3⟩:=E2.loose k;generalize hΓ:((Γ.set i none).set j none).set k none=Γ' at h E3
  have ln:Γ'.length=Γ.length:=by rw [<-hΓ];simp
  have nk:∀p,Γ'[k]?≠some (some p):=by rw [<-hΓ];exact EU
  have nj:∀p,Γ'[j]?≠some (some p):=by
   rw [<-hΓ];intro p;by_cases z:k=j
   ·rw [z];exact EU p
   ·rw [getElem?_set_ne z]
    exact EU p
  have big:(200000:Nat)<=sizeLine:=by decide
  cases o1 with
  | @tup _ p vs _ Fs0 hsv hp hn hl hf hs nd q=>
   obtain ⟨v0,v1,v2,rfl⟩:∃a b c,vs=[a,b,c]:=by
    match vs,hl with
    | [a,b,c],_=>exact ⟨a,b,c,rfl⟩
   obtain ⟨F0,F1,F2,rfl⟩:∃a b c,Fs0=[a,b,c]:=by
    match Fs0,hf with
    | [a,b,c],_=>exact ⟨a,b,c,rfl⟩
   obtain ⟨R0,r0,S0,rfl,rfl,n0,hR0,l0,k0,w0⟩:=(q 0 v0 _ F0 _ rfl rfl rfl rfl).trows c1;obtain ⟨R1,w1,rfl,rfl,hR1,l1,_⟩:=(q 1 v1 _ F1 _ rfl rfl rfl rfl).leaves;obtain ⟨R2,r2,S2,rfl,rfl,n2,hR2,l2,k2,w2⟩:=(q 2 v2 _ F2 _ rfl rfl rfl rfl).rows c2;have flF:[R0::S0,[R1],R2::S2].flatten=(R0::S0)++([R1]++(R2::S2)):=by simp
   have nd':((R0::S0)++([R1]++(R2::S2))).Nodup:=by rw [<-flF];exact nd
   generalize hFF:[R0::S0,[R1],R2::S2].flatten=FF at *
   obtain ⟨nA,nB,nC⟩:=List.nodup_append.mp nd'
   obtain ⟨nB1,nB2,nB3⟩:=List.nodup_append.mp nB;have inF:∀a,a∈(R0::S0)++([R1]++(R2::S2))->a∈FF++O/\He a=none:=fun a ha=>⟨mem_append_left _ (by rw [flF];exact ha),frE a (sub a (mem_append_left _ (by rw [flF];exact ha)))⟩
   have S1O:∀l∈S0++[R1],l∈FF++O/\He l=none:=fun l hl=>inF l (by
    rcases List.mem_append.mp hl with z | z
    ·exact mem_append_left _ (mem_cons_of_mem _ z)
    ·exact mem_append_right _ (mem_append_left _ z))
   have S2O:∀l∈S2,l∈FF++O/\He l=none:=fun l hl=>inF l (mem_append_right _ (mem_append_right _ (mem_cons_of_mem _ hl)))
   have R0O:=inF R0 (mem_append_left _ mem_cons_self)
   have R2O:=inF R2 (mem_append_right _ (mem_append_right _ mem_cons_self))
   have R0n:R0∉S0++[R1]:=fun z=>(List.mem_append.mp z).elim n0 fun z=>nC R0 mem_cons_self R0 (mem_append_left _ z) rfl
   have R0n2:R0∉S2:=fun z=>nC R0 mem_cons_self R0 (mem_append_right _ (mem_cons_of_mem _ z)) rfl
   have R02:R0≠R2:=fun z=>nC R0 mem_cons_self R2 (mem_append_right _ mem_cons_self) z
   have R2n:R2∉S0++[R1]:=fun z=>(List.mem_append.mp z).elim (fun z=>nC R2 (mem_cons_of_mem _ z) R2 (mem_append_right _ mem_cons_self) rfl) fun z=>nB3 R2 z R2 mem_cons_self rfl
   have S21:∀l∈S2,l∉S0++[R1]:=fun l hl z=>(List.mem_append.mp z).elim (fun z=>nC l (mem_cons_of_mem _ z) l (mem_append_right _ (mem_cons_of_mem _ hl)) rfl) fun z=>nB3 l z l (mem_cons_of_mem _ hl) rfl
   have wS1:Rws (S0++[R1]) 1000 H:=fun l hl=>by
    rcases List.mem_append.mp hl with z | z
    ·exact w0 l z
    ·rw [List.mem_singleton.mp z];exact ⟨w1,hR1,by omega⟩
   refine ⟨.ref p,h1,.inr (.inl ⟨p,[.ref R0,.ref R1,.ref R2],0,.ref R0,rfl,rfl,.of hp,rfl,?_⟩)⟩
   refine ⟨.ref p,h1,.inr (.inl ⟨p,[.ref R0,.ref R1,.ref R2],1,.ref R1,rfl,rfl,.of hp,rfl,?_⟩)⟩
   refine ⟨by show 2<=sizeLine;omega,fun T hT=>⟨by show 1<=sizeLine;omega,fun B hB=>?_⟩⟩
   have sm1:Same H (bA (bA H T (.tup [.ref R1,.int 0])) B (.lst [.ref T])):=(fE hT).trans (fE hB)
   refine ⟨R0,B,r0,[.ref T],rfl,rfl,.of (sm1 _ _ hR0),.of fL,by simp only [length_cons,length_nil];omega,fun C hC=>?_⟩
   have sm:Same H (bA (bA (bA H T (.tup [.ref R1,.int 0])) B (.lst [.ref T])) C (.lst (r0++[.ref T]))):=sm1.trans (fE hC)
   have hT3:bA (bA (bA H T (.tup [.ref R1,.int 0])) B (.lst [.ref T])) C (.lst (r0++[.ref T])) T=some (.tup [.ref R1,.int 0]):=((fE hB).trans (fE hC)) _ _ fL
   have hC3:bA (bA (bA H T (.tup [.ref R1,.int 0])) B (.lst [.ref T])) C (.lst (r0++[.ref T])) C=some (.lst (r0++[.ref T])):=fL
   have hCn:H C=none:=sm1.free hC
   generalize hH3:bA (bA (bA H T (.tup [.ref R1,.int 0])) B (.lst [.ref T])) C (.lst (r0++[.ref T]))=H3 at sm hT3 hC3 ⊢
   refine ⟨C,rfl,⟨r0++[.ref T],.of hC3⟩,?_⟩
   have w3:Rws (S0++[R1]) 1000 H3:=fun l hl=>let ⟨ws,e,e2⟩:=wS1 l hl;⟨ws,sm _ _ e,e2⟩
   have notS:∀{a:Addr} {xs:List V},H3 a=some (.tup xs)->a∉S0++[R1]:=fun {a xs} e z=>by
    obtain ⟨ws,e2,_⟩:=w3 a z;rw [e] at e2;cases e2
   have Cn:C∉S0++[R1]:=fun z=>by
    obtain ⟨ws,e2,_⟩:=wS1 C z;rw [hCn] at e2;cases e2
   have tups:∀x∈r0++[V.ref T],∃t l m,x=.ref t/\H3 t=some (.tup [.ref l,m])/\l∈S0++[R1]:=fun x hx=>by
    rcases List.mem_append.mp hx with z | z
    ·obtain ⟨t,l,m,e1,e2,e3⟩:=k0 x z
     exact ⟨t,l,m,e1,sm _ _ e2,mem_append_left _ e3⟩
    ·rw [List.mem_singleton.mp z]
     exact ⟨T,R1,_,rfl,hT3,mem_append_right _ (List.mem_singleton.mpr rfl)⟩
   refine lG (xs:=r0++[V.ref T]) (fun n U' H'=>n<=1000/\(∃Fs',EnvOk K He (FF++O) Fs' H' U' Γ')/\U'[i]?=some (some (.ref p))/\(∀a o,a∉S0++[R1]->H3 a=some o->H' a=some o)/\Rws (S0++[R1]) (1000+n) H') ⟨by omega,⟨_,E3.grow sm⟩,h1,fun a o _ e=>e,w3⟩
    (fun n U' H' _ ⟨_,_,_,fr,_⟩=>.of (fr C _ Cn hC3)) (fun n x U' H' hx ⟨hn1,⟨Fs',E'⟩,gi,fr,w'⟩=>?_) (fun U' H' ⟨_,⟨Fs',E'⟩,gi,fr,w'⟩=>?_)
   ·have hlt:=(List.getElem?_eq_some_iff.mp hx).1
    rw [length_append,length_singleton] at hlt;obtain ⟨t,l,m,rfl,ht,hl⟩:=tups x (mem_of_getElem? hx)
    obtain ⟨ws,e1,e2⟩:=w' l hl
    have hjl:j<U'.length:=by rw [E'.len1,ln];exact c8
    have gj:(U'.set j (some (V.ref t)))[j]?=some (some (V.ref t)):=by
     rw [getElem?_set];simp [hjl]
    refine ⟨.ref t,gj,.inr (.inl ⟨t,[.ref l,m],0,.ref l,rfl,rfl,.of (fr t _ (notS ht) ht),rfl,.inl ⟨rfl,ws,.of e1⟩,⟨l,ws,.int 9,rfl,rfl,e1,by omega,?_⟩⟩)⟩
    refine ⟨by omega,⟨Fs',(E'.nm nj).mutO (S1O l hl).1 e1 (S1O l hl).2⟩,by rw [getElem?_set_ne (Ne.symm c5)];exact gi,fun a o ha e=>?_,w'.app e1 e2⟩
    rw [dB fun z=>ha (by rw [z];exact hl)]
    exact fr a o ha e
   ·-- the second walk
    have hP:H' p=some (.tup [.ref R0,.ref R1,.ref R2]):=fr p _ (notS (sm _ _ hp)) (sm _ _ hp)
    have hR2':H' R2=some (.lst r2):=fr R2 _ R2n (sm _ _ hR2)
    have hR0':H' R0=some (.lst r0):=fr R0 _ R0n (sm _ _ hR0)
    have w4:Rws S2 1000 H':=fun l hl=>let ⟨ws,e,e2⟩:=w2 l hl;⟨ws,fr l _ (S21 l hl) (sm _ _ e),e2⟩
    have pS2:p∉S2:=fun z=>by
     obtain ⟨ws,e2,_⟩:=w4 p z;rw [hP] at e2;cases e2
    refine ⟨.ref p,gi,.inr (.inl ⟨p,[.ref R0,.ref R1,.ref R2],2,.ref R2,rfl,rfl,.of hP,rfl,R2,rfl,⟨r2,.of hR2'⟩,?_⟩)⟩
    refine lG (xs:=r2) (fun n U2 H2=>n<=1000/\(∃Fs',EnvOk K He (FF++O) Fs' H2 U2 Γ')/\U2[i]?=some (some (.ref p))/\(∀a o,a∉S2->H' a=some o->H2 a=some o)/\Rws S2 (1000+n) H2) ⟨by omega,⟨_,E'⟩,gi,fun a o _ e=>e,w4⟩
     (fun n U2 H2 _ ⟨_,_,_,fr2,_⟩=>.of (fr2 R2 _ n2 hR2')) (fun n x U2 H2 hx ⟨hn2,⟨Fs2',E2'⟩,gi2,fr2,w2'⟩=>?_) (fun U2 H2 ⟨_,⟨Fs2',E2'⟩,gi2,fr2,w2'⟩=>?_)
    ·have hlt:=(List.getElem?_eq_some_iff.mp hx).1
     obtain ⟨l,hlS,rfl⟩:=k2 x (mem_of_getElem? hx)
     obtain ⟨ws,e1,e2⟩:=w2' l hlS
     have hkl:k<U2.length:=by rw [E2'.len1,ln];exact c9
     have gk:(U2.set k (some (V.ref l)))[k]?=some (some (V.ref l)):=by
      rw [getElem?_set];simp [hkl]
     refine ⟨.ref l,gk,.inl ⟨rfl,ws,.of e1⟩,⟨l,ws,.int 9,rfl,rfl,e1,by omega,?_⟩⟩
     refine ⟨by omega,⟨Fs2',(E2'.nm nk).mutO (S2O l hlS).1 e1 (S2O l hlS).2⟩,by rw [getElem?_set_ne (Ne.symm c6)];exact gi2,fun a o ha e=>?_,w2'.app e1 e2⟩
     rw [dB fun z=>ha (by rw [z];exact hlS)]
     exact fr2 a o ha e
    ·-- the two appends
     have hP2:=fr2 p _ pS2 hP
     have hR02:=fr2 R0 _ R0n2 hR0'
     have hR22:=fr2 R2 _ n2 hR2'
     refine ⟨.ref p,gi2,.inr (.inl ⟨p,[.ref R0,.ref R1,.ref R2],0,.ref R0,rfl,rfl,.of hP2,rfl,.inl ⟨rfl,r0,.of hR02⟩,by show 1<=sizeLine;omega,fun a ha=>⟨by show 2<=sizeLine;omega,fun b hb=>?_⟩⟩)⟩
     have sm5:Same H2 (bA (bA H2 a (.lst [.int 0])) b (.tup [.ref a,.non])):=(fE ha).trans (fE hb)
     refine ⟨R0,r0,.ref b,rfl,rfl,sm5 _ _ hR02,by omega,?_⟩
     have E5:=(E2'.grow sm5).mutO (o:=.lst (r0++[.ref b])) R0O.1 (sm5 _ _ hR02) R0O.2
     have hpR0:p≠R0:=fun z=>by rw [z,hR02] at hP2;cases hP2
     have hP5:bA (bA (bA H2 a (.lst [.int 0])) b (.tup [.ref a,.non])) R0 (.lst (r0++[.ref b])) p=some (.tup [.ref R0,.ref R1,.ref R2]):=by rw [dB hpR0];exact sm5 _ _ hP2
     have hR25:bA (bA (bA H2 a (.lst [.int 0])) b (.tup [.ref a,.non])) R0 (.lst (r0++[.ref b])) R2=some (.lst r2):=by rw [dB (Ne.symm R02)];exact sm5 _ _ hR22
     refine ⟨.ref p,gi2,.inr (.inl ⟨p,[.ref R0,.ref R1,.ref R2],2,.ref R2,rfl,rfl,.of hP5,rfl,.inl ⟨rfl,r2,.of hR25⟩,Nat.zero_le _,fun d hd=>?_⟩)⟩
     have hR2d:R2≠d:=fun z=>by rw [<-z] at hd;rw [hd] at hR25;cases hR25
     refine ⟨R2,r2,.ref d,rfl,rfl,by rw [dB hR2d];exact hR25,by omega,?_⟩
     exact h _ _ Fs2' ((E5.grow (fE (o:=.lst []) hd)).mutO R2O.1 (by rw [dB hR2d];exact hR25) R2O.2).dropL
end
section
variable {X:Cx} {N gl:List Str} {vs cs ls lo gs:List Nat} {W:XW} {g:FS}
theorem k53_1 (S:Cp X N gl vs cs ls lo gs) (hp:PassesOwn (model X.prog X.w) X.A X.env X.xe) (i j:Nat) {y:Str} {t1 p4 p5 p6 p7:Pos} (h1:PE X it (nQ (jm X.K) (cu X.K i 0) (jK (bo (jJ (bo (cu X.K i 1) (bo (tC (.int 0)) cC))) cC)))) (ho:PE X o (cu X.K j 0)) (hy:N[j]?=some y) (hl:ls.contains j=true) (A:Ap X o (.Constant (.int 9) n2 p4) p5 p6 p7) (f1:∀u,foldedSetIterable it X.env u=pure u) :
  PS X (.For (.Name y t1) it [.Expr (.Call (.Attribute o "append" p5) [.Constant (.int 9) n2 p4] [] p6) p7] [] t9) (Cm X.K i j):=
 DO hp S.calm (Er h1) (oX (by rw [S.hN];exact S.nd) (by rw [S.hN];exact hy) (S.loc j y hy hl).1 (S.loc j y hy hl).2) (Es (kR A ho xa)) f1
theorem k53_it (S:Cp X N gl vs cs ls lo gs) (i:Nat) {a b:Expr} {p9 q6 t6 t7:Pos} {m3:Nat} (ha:PE X a (cu X.K i 0)) (hb:PE X b (cu X.K i 1)) (u1:starEach [.Tuple [b,.Constant (.int 0) m3 p9] n2 q6] X.env=(false,eval (.Tuple [b,.Constant (.int 0) m3 p9] n2 q6) X.env)::starEach [] X.env)
  (u2:starEach [b,.Constant (.int 0) m3 p9] X.env=(false,eval b X.env)::starEach [.Constant (.int 0) m3 p9] X.env) (u3:starEach [.Constant (.int 0) m3 p9] X.env=(false,eval (.Constant (.int 0) m3 p9) X.env)::starEach [] X.env) :
  PE X (.BinOp a .Add (.List [.Tuple [b,.Constant (.int 0) m3 p9] n2 q6] t6) t7) (nQ (jm X.K) (cu X.K i 0) (jK (bo (jJ (bo (cu X.K i 1) (bo (tC (.int 0)) cC))) cC))):=
 g7 vL ha (CV (nK (CW (nK hb (nK xa ud u3) u2)) ud u1))
theorem k53_2 (S:Cp X N gl vs cs ls lo gs) (hp:PassesOwn (model X.prog X.w) X.A X.env X.xe) (i k:Nat) {z:Str} {s9 q1 q2 q3 q4 q5:Pos} {n3:Nat} (h1:PE X it (cu X.K i 2)) (hz:N[k]?=some z) (hv:vs.contains k=true) (hl:ls.contains k=true) (B:Ap X (.Name z q1) (.Constant (.int 9) n3 q2) q3 q4 q5) (f2:∀u,foldedSetIterable it X.env u=pure u) :
  PS X (.For (.Name z s9) it [.Expr (.Call (.Attribute (.Name z q1) "append" q3) [.Constant (.int 9) n3 q2] [] q4) q5] [] t9) (Cj X.K i k):=
 DO hp S.calm (Er h1) (oX (by rw [S.hN];exact S.nd) (by rw [S.hN];exact hz) (S.loc k z hz hl).1 (S.loc k z hz hl).2) (Es (kR B (qL (by rw [S.hN];exact hz) (S.vis k z hz hv) (S.nm z (mem_of_getElem? hz)).1 (S.nm z (mem_of_getElem? hz)).2) xa)) f2
theorem k53_3 (i:Nat) {r4 r5 r6 r7 r8 r9 s1:Pos} {n5 n6 m1:Nat} (ho:PE X o (cu X.K i 0)) (C:Ap X o (.Tuple [.List [.Constant (.int 0) n5 r4] r5,.Constant .none n6 r6] m1 r7) r8 r9 s1) (u4:starEach [.List [.Constant (.int 0) n5 r4] r5,.Constant .none n6 r6] X.env=(false,eval (.List [.Constant (.int 0) n5 r4] r5) X.env)::starEach [.Constant .none n6 r6] X.env)
  (u5:starEach [.Constant .none n6 r6] X.env=(false,eval (.Constant .none n6 r6) X.env)::starEach [] X.env) (u6:starEach [.Constant (.int 0) n5 r4] X.env=(false,eval (.Constant (.int 0) n5 r4) X.env)::starEach [] X.env) :
  PS X (.Expr (.Call (.Attribute o "append" r8) [.Tuple [.List [.Constant (.int 0) n5 r4] r5,.Constant .none n6 r6] m1 r7] [] r9) s1) (Ci X.K i):=
 kR C ho (CW (nK (CV (nK xa ud u6)) (nK sg ud u5) u4))
theorem Ff {a b c d e:TS} {D:dv} {U:St} {H:Hp} (h:fF a (fF b (fF c d)) { D with nx:=e D } U H):fF a (fF b (fF c (fF d e))) D U H:=h
end
end T
namespace TQ
open PySem PySem.Spec L2 T
open PyProof.Rows hiding St
variable {it o:Expr} {t9:Pos} {n2:Nat}
section
variable {X:Cx} {N gl:List Str} {vs cs ls lo gs:List Nat} {W:XW} {g:FS}
theorem A8 (S:Cp X N gl vs cs ls lo gs) (i:Nat) (z:Int) {x:Str} {p q r:Pos} {n:Nat} (hx:N[i]?=some x:=by rfl) (hv:vs.contains i=true:=by rfl) (h0:xg (.Constant (.int z) n q):=by exact fun _ _=>rfl):Q (PE X (.Subscript (.Name x p) (.Constant (.int z) n q) r) (cu X.K i z)):=⟨om CU (qL (by rw [S.hN];exact hx) (S.vis i x hx hv) (S.nm x (mem_of_getElem? hx)).1 (S.nm x (mem_of_getElem? hx)).2) xa h0⟩
theorem uQ (S:Cp X N gl vs cs ls lo gs) (hp:PassesOwn (model X.prog X.w) X.A X.env X.xe) (i j:Nat) {y:Str} {t1 p4 p5 p6 p7:Pos} (h1:Q (PE X it (nQ (jm X.K) (cu X.K i 0) (jK (bo (jJ (bo (cu X.K i 1) (bo (tC (.int 0)) cC))) cC))))) (ho:Q (PE X o (cu X.K j 0))) (hy:N[j]?=some y:=by rfl) (hl:ls.contains j=true:=by rfl) (A:Ap X o (.Constant (.int 9) n2 p4) p5 p6 p7:=by exact ⟨rfl,rfl,rfl,rfl,cZ rfl⟩) (f1:∀u,foldedSetIterable it X.env u=pure u:=by exact fun _=>rfl) :
  Q (PS X (.For (.Name y t1) it [.Expr (.Call (.Attribute o "append" p5) [.Constant (.int 9) n2 p4] [] p6) p7] [] t9) (Cm X.K i j)):=⟨T.k53_1 S hp i j h1.p ho.p hy hl A f1⟩
theorem qR (S:Cp X N gl vs cs ls lo gs) (i:Nat) {a b:Expr} {p9 q6 t6 t7:Pos} {m3:Nat} (ha:Q (PE X a (cu X.K i 0))) (hb:Q (PE X b (cu X.K i 1))) (u1:starEach [.Tuple [b,.Constant (.int 0) m3 p9] n2 q6] X.env=(false,eval (.Tuple [b,.Constant (.int 0) m3 p9] n2 q6) X.env)::starEach [] X.env:=by exact cj rfl)
  (u2:starEach [b,.Constant (.int 0) m3 p9] X.env=(false,eval b X.env)::starEach [.Constant (.int 0) m3 p9] X.env:=by exact cj rfl) (u3:starEach [.Constant (.int 0) m3 p9] X.env=(false,eval (.Constant (.int 0) m3 p9) X.env)::starEach [] X.env:=by exact cj rfl) :
  Q (PE X (.BinOp a .Add (.List [.Tuple [b,.Constant (.int 0) m3 p9] n2 q6] t6) t7) (nQ (jm X.K) (cu X.K i 0) (jK (bo (jJ (bo (cu X.K i 1) (bo (tC (.int 0)) cC))) cC)))):=⟨T.k53_it S i ha.p hb.p u1 u2 u3⟩
theorem uP (S:Cp X N gl vs cs ls lo gs) (hp:PassesOwn (model X.prog X.w) X.A X.env X.xe) (i k:Nat) {z:Str} {s9 q1 q2 q3 q4 q5:Pos} {n3:Nat} (h1:Q (PE X it (cu X.K i 2))) (hz:N[k]?=some z:=by rfl) (hv:vs.contains k=true:=by rfl) (hl:ls.contains k=true:=by rfl) (B:Ap X (.Name z q1) (.Constant (.int 9) n3 q2) q3 q4 q5:=by exact ⟨rfl,rfl,rfl,rfl,cZ rfl⟩) (f2:∀u,foldedSetIterable it X.env u=pure u:=by exact fun _=>rfl) :
  Q (PS X (.For (.Name z s9) it [.Expr (.Call (.Attribute (.Name z q1) "append" q3) [.Constant (.int 9) n3 q2] [] q4) q5] [] t9) (Cj X.K i k)):=⟨T.k53_2 S hp i k h1.p hz hv hl B f2⟩
theorem uO (i:Nat) {r4 r5 r6 r7 r8 r9 s1:Pos} {n5 n6 m1:Nat} (ho:Q (PE X o (cu X.K i 0))) (C:Ap X o (.Tuple [.List [.Constant (.int 0) n5 r4] r5,.Constant .none n6 r6] m1 r7) r8 r9 s1:=by exact ⟨rfl,rfl,rfl,rfl,cZ rfl⟩) (u4:starEach [.List [.Constant (.int 0) n5 r4] r5,.Constant .none n6 r6] X.env=(false,eval (.List [.Constant (.int 0) n5 r4] r5) X.env)::starEach [.Constant .none n6 r6] X.env:=by exact cj rfl)
  (u5:starEach [.Constant .none n6 r6] X.env=(false,eval (.Constant .none n6 r6) X.env)::starEach [] X.env:=by exact cj rfl) (u6:starEach [.Constant (.int 0) n5 r4] X.env=(false,eval (.Constant (.int 0) n5 r4) X.env)::starEach [] X.env:=by exact cj rfl) :
  Q (PS X (.Expr (.Call (.Attribute o "append" r8) [.Tuple [.List [.Constant (.int 0) n5 r4] r5,.Constant .none n6 r6] m1 r7] [] r9) s1) (Ci X.K i)):=⟨T.k53_3 i ho.p C u4 u5 u6⟩
theorem uN (i:Nat) {s5 s6 s7 s8:Pos} (ho:Q (PE X o (cu X.K i 2))) (C:Ap X o (.List [] s5) s6 s7 s8:=by exact ⟨rfl,rfl,rfl,rfl,cZ rfl⟩):Q (PS X (.Expr (.Call (.Attribute o "append" s6) [.List [] s5] [] s7) s8) (DA X.K i)):=⟨have ho:=ho.p;kR C ho (CV ud)⟩
theorem ky (i j k:Nat) {a b c d:Stmt} {rest:List Stmt} (h1:Q (PS X a (Cm X.K i j))) (h2:Q (PS X b (Cj X.K i k))) (h3:Q (PS X c (Ci X.K i))) (h4:Q (PS X d (DA X.K i))) (hr:Q (PSs X rest (tS X.K W g))):Q (PSs X (a::b::c::d::rest) (tS X.K W (au (yd i j k) g))):=⟨have h1:=h1.p;have h2:=h2.p;have h3:=h3.p;have h4:=h4.p;have hr:=hr.p;CP (yf h1 (yf h2 (yf h3 (yf h4 hr)))) fun D U H h=>by
  have h2:=DP h
  have h3:=pC (D:={ D with nx:=tS X.K W g D }) h2
  exact Ff h3⟩
end
end TQ
namespace T
open PySem PySem.Spec L2
open PyProof.Rows hiding St
variable {X:Cx}
def lD (d:PySem.PyData):Option PySem.PyData:=(aZ d).map fun b=>.bool (!b)
theorem vE {a:Expr} {pos:Pos} {ta:TE} (ha:PE X a ta):PE X (.UnaryOp .Not a pos) (fun U H Q=>ta U H fun x H1=>∃k,t5 X.K x H1 k/\Q (.bl (!k)) H1):=by
 intro pins s U H Q I h;exact UnaryOp_ (bP (ha pins s U H _ I h) fun v s1 ⟨x,H1,I1,r1,k,t1,q1⟩=>not_of (bP (rh pins s1 U H1 x v (fun c H2=>Q (.bl (!c)) H2) I1 r1 ⟨k,t1,q1⟩) fun c s2 ⟨H2,I2,q2⟩=>⟨.bl (!c),H2,I2,rfl,q2⟩))
theorem vj {K:Fg} {W:XW} {U:St} {H:Hp} {Q:VK} {fa:F1} (h:tE K W (eU lD fa) U H Q):tE K W fa U H fun x H1=>∃k,t5 K x H1 k/\Q (.bl (!k)) H1:=by
 refine xV h fun He O Fs Γ1 p v H1 G Fs1 nd A w=>?_
 have r:=A.own.rep
 have w:Wants K W He O Fs H U Q (match lD p.d with | some d=>.ok ⟨.leaf,d⟩ Γ1 | none=>.no):=w
 unfold lD at w
 cases e:aZ p.d with
 | none=>rw [e] at w;exact w.elim
 | some b=>
  rw [e] at w;have fin:Q (.bl (!b)) H1:=w.scal (.bl _) A.same A.go (fun _ z=>z) nd A.newF
  generalize p.d=d at r e
  cases r with
  | non=>cases e;exact ⟨_,rfl,fin⟩
  | bl c=>cases e;exact ⟨_,rfl,fin⟩
  | int i=>cases e;exact ⟨_,rfl,fin⟩
  | str x=>
   simp only [aZ] at e
   split at e
   ·rename_i z;cases e;exact ⟨_,⟨z,rfl⟩,fin⟩
   ·cases e
  | @lst p vs ds hq hl _=>cases e;exact ⟨_,.inl ⟨vs,hq,by cases vs<;>cases ds<;>simp_all⟩,fin⟩
  | @tup p vs ds hq hl _=>cases e;exact ⟨_,.inr (.inl ⟨vs,hq,by cases vs<;>cases ds<;>simp_all⟩),fin⟩
section
variable {prog:Program} {w:World} {A:Around} {R:Result->Shared->Prop} {I:Addr} {fp wr:List Addr} {n:Nat} {P:Nat->Value->Prop} {St:Nat->Heap->Prop}
theorem tZ (W:Walks prog w A.in1 I fp wr n P St) (b:Nat->Bool) (Z:Heap->Prop) (hZ:∀h h',Z h->(∀c o,c∉wr->h.get? c=some o->h'.get? c=some o)->Z h')
  (ht:∀i v (s:Shared) (Q:Bool->Shared->Prop) (E:Value->Shared->Prop),i<n->P i v->Z s.heap->(∀tk,Q (b i) { s with toks:=tk })->wpAny (model prog w) A.in1 (truthy v) Q E s) :
  ∀(k i:Nat) (s:Shared),n=i+k->St i s.heap->Z s.heap->(∀h' tk,(∀c o,c∉wr->s.heap.get? c=some o->h'.get? c=some o)->R (.ok (.ret (.bool ((List.range' i k).all b)))) { s with heap:=h',toks:=tk })->codeAny (model prog w) A (.builtin "all.loop" ⟨[.ref I],[]⟩) R s
 | 0,i,s,hk,st,z,hR=>codeAny_builtin F.entry_all_loop (by
   rw [Around.under_plainId F.plain_all_loop _];obtain rfl:n=i:=by omega
   exact wpAny_bind (m:=pyNext (.ref I)) (W.done s _ _ st fun h' tk hk'=>wpAny_bind (wpAny_rule (wpAny_pure (hR h' tk hk')))))
 | k+1,i,s,hk,st,z,hR=>codeAny_builtin F.entry_all_loop (by
   rw [Around.under_plainId F.plain_all_loop _];refine wpAny_bind (m:=pyNext (.ref I)) (W.item i s _ _ (by omega) st fun v h' tk hP st' hk'=>wpAny_bind (wpAny_holding (ht i v _ _ _ (by omega) hP (hZ _ _ z hk') fun tk2=>wpAny_bind (wpAny_letGo ?_))))
   have e:(List.range' i (k+1)).all b=(b i&&(List.range' (i+1) k).all b):=by rw [List.range'_succ,all_cons]
   rw [e] at hR
   cases hb:b i with
   | true=>
    rw [hb] at hR;rw [if_pos rfl];exact wpAny_pure ⟨plainId_quiet F.plain_all_loop _,tZ W b Z hZ ht k (i+1) _ (by omega) st' (hZ _ _ z hk') fun h2 tk3 hk2=>hR h2 tk3 fun c o hc e=>hk2 c o hc (hk' c o hc e)⟩
   | false=>
    rw [hb] at hR;rw [if_neg (by decide)]
    exact wpAny_bind (wpAny_rule (wpAny_pure (hR h' tk2 hk'))))
end
def j1:List PySem.PyData->Option (List Bool)
 | []=>some []
 | .list es::r=>(j1 r).map fun bs=>(!es.isEmpty)::bs
 | _::_=>none
def jr:List PySem.PyData->Option PySem.PyData
 | [.list ds]=>(j1 ds).map fun bs=>.bool (bs.all id)
 | _=>none
def GV (K:Fg) (H:Hp) (v:V) (b:Bool):Prop:=∃q us,v=.ref q/\SqL K H q us/\b=!us.isEmpty
def xv (K:Fg):List V->Hp->VK->Prop:=fun xs H Q=>∃(p:Addr) (vs:List V) (bs:List Bool),xs=[.ref p]/\SqL K H p vs/\vs.length=bs.length/\(∀(i:Nat) v b,vs[i]?=some v->bs[i]?=some b->GV K H v b)/\Q (.bl (bs.all id)) H
theorem ll {K:Fg} {H:Hp}:∀{ds:List PySem.PyData} {bs:List Bool} {vs:List V},j1 ds=some bs->vs.length=ds.length->(∀(i:Nat) v d,vs[i]?=some v->ds[i]?=some d->Rep K H v d)->vs.length=bs.length/\∀(i:Nat) v b,vs[i]?=some v->bs[i]?=some b->GV K H v b
 | [],bs,[],e,_,_=>by cases e;exact ⟨rfl,fun i v b h=>by simp at h⟩
 | .list es::ds,bs,v::vs,e,hl,hr=>by
  rw [j1] at e
  cases e2:j1 ds with
  | none=>rw [e2] at e;cases e
  | some bs2=>
   rw [e2] at e
   cases e;obtain ⟨h1,h2⟩:=ll e2 (vs:=vs) (by simpa using hl) fun i v d a b=>hr (i+1) v d (by simpa using a) (by simpa using b)
   refine ⟨by simp [h1],fun i u b a c=>?_⟩
   cases i with
   | zero=>
    cases a
    cases c;have r:=hr 0 v (.list es) rfl rfl
    cases r with
    | @lst q us _ hq hul _=>exact ⟨q,us,rfl,hq,by cases us<;>cases es<;>simp_all⟩
   | succ i=>exact h2 i u b (by simpa using a) (by simpa using c)
 | [],_,_::_,_,hl,_=>by simp at hl
 | .list _::_,_,[],_,hl,_=>by simp at hl
 | .none::_,_,_,e,_,_=>by cases e
 | .bool _::_,_,_,e,_,_=>by cases e
 | .int _::_,_,_,e,_,_=>by cases e
 | .str _::_,_,_,e,_,_=>by cases e
 | .tuple _::_,_,_,e,_,_=>by cases e
 | .dict _::_,_,_,e,_,_=>by cases e
theorem wb {K:Fg}:GCall K (xv K) jr:=by
 intro vs H Q ds d rs e k;match ds,e with
 | [.list xs],e=>
  obtain ⟨v,rfl,r⟩:=rs.one;simp only [jr] at e
  cases eb:j1 xs with
  | none=>rw [eb] at e;cases e
  | some bs=>
   rw [eb] at e
   cases e
   cases r with
   | @lst p us _ hq hl hr=>
    obtain ⟨h1,h2⟩:=ll eb hl hr;exact ⟨p,us,bs,rfl,hq,h1,h2,k _ (.bl _)⟩
theorem mQ (bs:List Bool):(List.range' 0 bs.length).all (fun i=>bs.getD i false)=bs.all id:=by
 rw [<-List.range_eq_range'];exact jl bs
theorem qr (hc:X.calm=true):CallR X (.builtin "all") (xv X.K):=by
 intro pins s U H vs us Q I rv h;obtain ⟨p,xs,bs,rfl,hq,hlen,hne,q⟩:=h;obtain ⟨u,rfl,ru⟩:=vals1 rv
 cases ru;obtain ⟨its,rv,pl,hz⟩:=I.list hq;have hd:=I.ok.hd hc
 have il:=rv.length
 have truth:∀(i:Nat) (v:Value),its[i]?=some v->∃(a:Addr) (arr:Array Value),v=.ref a/\s.heap.IsList a arr/\a<s.heap.objs.size/\(arr.size:Int)<2 ^ 63/\bs.getD i false=!arr.isEmpty:=fun i v hv=>by
  have hi:=(List.getElem?_eq_some_iff.mp hv).1
  obtain ⟨y,hy⟩:∃y,xs[i]?=some y:=⟨xs[i]'(by omega),getElem?_eq_getElem _⟩
  obtain ⟨b,hb⟩:∃b,bs[i]?=some b:=⟨bs[i]'(by omega),getElem?_eq_getElem _⟩
  obtain ⟨a,ys,rfl,hs,eb⟩:=hne i y b hy hb;obtain ⟨u,hu,rl⟩:=rv.get hy;rw [hv] at hu
  cases hu
  cases rl;obtain ⟨it2,rv2,pl2,hz2⟩:=I.list hs;have l2:=rv2.length
  have big:=w6
  refine ⟨a,it2.toArray,rfl,pl2.isList,?_,by rw [size_toArray];omega,?_⟩
  ·obtain ⟨o,n,e,_⟩:=pl2
   exact Heap.lt_size e
  ·rw [getD_eq_getElem?_getD,hb,EM rv2]
   exact eb
 have ne:p≠s.heap.objs.size:=by
  obtain ⟨o,n,e,_⟩:=pl;exact Nat.ne_of_lt (Heap.lt_size e)
 refine call_function_tree F.kind_all F.plain_all F.entry_all (F.args_all1 _) (wpAny_bind (m:=oneArg "all" _) (wpAny_pure ?_))
 refine wpAny_bind (wpAny_pyIter_list pl.isList (wpAny_pure ⟨plainId_quiet F.plain_all_loop _,?_⟩))
 refine tZ (n:=its.length) (P:=fun i v=>its[i]?=some v) (Walks.list (prog:=X.prog) (w:=X.w) (A:=X.A.in1) hd s.heap.objs.size p ne its.toArray |> fun W=>by simpa using W) (fun i=>bs.getD i false) (fun h=>∀(i:Nat) (v:Value),its[i]?=some v->∃(a:Addr) (arr:Array Value),v=.ref a/\h.IsList a arr/\a<s.heap.objs.size/\(arr.size:Int)<2 ^ 63/\bs.getD i false=!arr.isEmpty) (fun h h' z k i v hv=>?_) (fun i v s2 Q2 E2 hi hv z k=>?_) its.length 0 _ (by omega) ?_ ?_ fun h' tk hk=>?_
 ·obtain ⟨a,arr,e,h1,h2,h3,h4⟩:=z i v hv
  exact ⟨a,arr,e,h1.at fun o eo=>k a o (fun z=>by rw [List.mem_singleton.mp z] at h2;exact absurd h2 (Nat.lt_irrefl _)) eo,h2,h3,h4⟩
 ·obtain ⟨a,arr,rfl,h1,h2,h3,h4⟩:=z i v hv
  exact wpAny_truthy_list h1 h3 (by rw [<-h4];exact k _)
 ·exact ⟨⟨_,Heap.get?_push_size _ rfl,rfl,rfl⟩,pl.isList.at fun o e=>Heap.get?_push_of_some _ e⟩
 ·intro i v hv
  obtain ⟨a,arr,e,h1,h2,h3,h4⟩:=truth i v hv;exact ⟨a,arr,e,h1.at fun o eo=>Heap.get?_push_of_some _ eo,h2,h3,h4⟩
 ·refine ⟨.bl _,H,I.kept (h':=h') (t':=tk) fun b o e=>hk b o (fun z=>?_) (Heap.get?_push_of_some _ e),rfl,?_⟩
  ·have z:b=s.heap.objs.size:=by simpa using z
   exact absurd (Heap.lt_size e) (by rw [z];exact Nat.lt_irrefl _)
  ·rw [show its.length=bs.length by omega,mQ]
   exact q
section
variable {X:Cx} {N gl:List Str} {vs cs ls lo gs:List Nat} {W:XW} {e:Expr} {es:List Expr} {pos p:Pos} {fl:FL}
theorem cb_allT (S:Cp X N gl vs cs ls lo gs) (j:Nat) (hj:gl[j]?=some ("all":Str)) (hg:gs.contains j=true) (hm:X.mg "all"=none) (ha:PA X (e::es) (tA X.K W fl)) (he:starEach (e::es) X.env=(false,eval e X.env)::starEach es X.env) (hpl:(backTo pos (starEach es X.env)).any (·.1)=false) :
  PE X (.Call (.Name "all" p) (e::es) [] pos) (tE X.K W (bb jr fl)):=lP (qr S.calm) wb xK hm ha (S.g hj hg).1 (S.g hj hg).2.2 (S.g hj hg).2.1 he hpl
end
end T
namespace TQ
open PySem PySem.Spec L2 T
open PyProof.Rows hiding St
section
variable {X:Cx} {N gl:List Str} {vs cs ls lo gs:List Nat} {W:XW} {a e:Expr} {es:List Expr} {pos p:Pos} {fl:FL} {fa:F1}
theorem oY (ha:Q (PE X a (tE X.K W fa))):Q (PE X (.UnaryOp .Not a pos) (tE X.K W (eU lD fa))):=⟨have ha:=ha.p;aY (vE ha) fun _ _ _=>vj⟩
theorem o6 (S:Cp X N gl vs cs ls lo gs) (j:Nat) (hj:gl[j]?=some ("all":Str)) (hg:gs.contains j=true) (hm:X.mg "all"=none) (ha:Q (PA X (e::es) (tA X.K W fl))) (he:starEach (e::es) X.env=(false,eval e X.env)::starEach es X.env) (hpl:(backTo pos (starEach es X.env)).any (·.1)=false) :
  Q (PE X (.Call (.Name "all" p) (e::es) [] pos) (tE X.K W (bb jr fl))):=⟨T.cb_allT S j hj hg hm ha.p he hpl⟩
end
end TQ
namespace T
open PySem PySem.Spec L2
open PyProof.Rows hiding St
variable {fd:FuncData} {ps:List Str}
abbrev AS (x:Str) (s:Stmt) (ps:List Str) (us:List Value):Prop:=∀(kV doc pm:Value) (an:Option Addr) (cdv ct:Value),bindArgs (PySem.W.fnOf x x (AY s) (uE s) (jG s) .none kV doc pm an cdv ct) ⟨us,[]⟩=pure (ps.zip us)
abbrev wU (x:Str) (s:Stmt) (ps:List Str):Prop:=∀us:List Value,us.length=ps.length->AS x s ps us
section
variable {x:Str} {s:Stmt} {p1 p2 p3 p4 p5 p6:Str}
theorem xI (h:∀a,AS x s [p1] [a]:=by exact fun _ _ _ _ _ _ _=>rfl):wU x s [p1]:=fun us hl=>match us,hl with | [_],_=>h _
theorem wM (h:∀a b,AS x s [p1,p2] [a,b]:=by exact fun _ _ _ _ _ _ _ _=>rfl):wU x s [p1,p2]:=fun us hl=>match us,hl with | [_,_],_=>h _ _
theorem qG (h:∀a b c,AS x s [p1,p2,p3] [a,b,c]:=by exact fun _ _ _ _ _ _ _ _ _=>rfl):wU x s [p1,p2,p3]:=fun us hl=>match us,hl with | [_,_,_],_=>h _ _ _
theorem uw (h:∀a b c d,AS x s [p1,p2,p3,p4] [a,b,c,d]:=by exact fun _ _ _ _ _ _ _ _ _ _=>rfl):wU x s [p1,p2,p3,p4]:=fun us hl=>match us,hl with | [_,_,_,_],_=>h _ _ _ _
theorem Hk (h:∀a b c d e,AS x s [p1,p2,p3,p4,p5] [a,b,c,d,e]:=by exact fun _ _ _ _ _ _ _ _ _ _ _=>rfl):wU x s [p1,p2,p3,p4,p5]:=fun us hl=>match us,hl with | [_,_,_,_,_],_=>h _ _ _ _ _
end
def Ft (K:Fg) (mg:Str->Option Value) (n:Str) (s:Stmt):Prop:=∃f fd,mg n=some (.ref f)/\Fun K n n s f fd
theorem ft {K:Fg} {h:Heap} {mg:Str->Option Value} {n:Str} {s:Stmt} {f:Addr} {od an:Option Addr} {sl:Array (Option Value)} {oc kV dc pm cd ct:Value} (X:K.In h) (G:h.Ns mainGlobals mg) (a:PySem.W.nsIn K mainGlobals n=some (some (.ref f))) (l:K.lookup f=some ⟨oc,od,.func (PySem.W.fnOf n n (AY s) (uE s) (jG s) .none kV dc pm an cd ct),sl⟩) (c:PySem.W.codeIn K cd n=true) (k:PySem.W.keepIn K (.ref f)=true):Ft K mg n s:=⟨f,_,PySem.W.mg_of X G a,Ah (st:=s) l c k⟩
theorem AE {K:Fg} {x:Str} {st:Stmt} {f:Addr} (F:Fun K x x st f fd) (b:wU x st ps):Binds K fd ps []:=F.binds fun kV doc pm an cdv ct us hl=>b us hl kV doc pm an cdv ct
def zG (vs cs:List Nat):List Nat:=vs.filter fun i=>!cs.contains i
def fB (N gl ps:List Str) (vs cs gs:List Nat) (s:Stmt):Bool:=oN N gl vs cs vs (zG vs cs) gs (jG s)&&Cc N gl&&(!(jG s).isCoroutine&&!(jG s).isGenerator&&decide (N.take ps.length=ps)&&(ps.all fun x=>wY (jG s) [.local,.cell] (some x))&&((jG s).names.all fun y=>!decide (y.2=.free)))
theorem Cv {N gl:List Str} {vs cs gs:List Nat} {s:Stmt} (h:fB N gl ps vs cs gs s=true):oN N gl vs cs vs (zG vs cs) gs (jG s)=true/\Cc N gl=true/\fx N ps (jG s):=by
 unfold fB at h;simp only [Bool.and_eq_true,decide_eq_true_eq,all_eq_true,Bool.not_eq_true',decide_eq_false_iff_not] at h
 obtain ⟨⟨h1,h2⟩,⟨⟨⟨h3,h4⟩,h5⟩,h6⟩,h7⟩:=h;refine ⟨h1,h2,(D2 h1).kind,h3,h4,(sE h2).1,h5,fun x hx=>?_,h7⟩
 obtain ⟨k,hk,q⟩:=A9 (h6 x hx);simp only [mem_cons,not_mem_nil,or_false] at hk
 rcases hk with rfl | rfl
 ·exact .inl q
 ·exact .inr q
structure In (p:Fg->(Str->Option Value)->Prop) (X:Cx) (P:Program) (w:World) (K:Fg) (mg:Str->Option Value) (base:Heap) (k:Nat):Prop where
 e1:X.prog=P
 e2:X.w=w
 e3:X.K=K
 e4:X.mg=mg
 e5:X.base=base
 rm:Room k X.A
 pp:p K mg
section
variable {p:Fg->(Str->Option Value)->Prop} {X Y:Cx} {P:Program} {w:World} {K:Fg} {mg:Str->Option Value} {base:Heap} {j k n:Nat} {x:Str} {s:Stmt} {ps:List Str} {g:FS} {den:List PySem.PyData->Res} {ss:List Sh}
theorem In.r (I:In p X P w K mg base k):Rm X:=I.rm.units
theorem In.e (I:In p X P w K mg base k):p X.K X.mg:=by rw [I.e3,I.e4];exact I.pp
theorem In.c (I:In p X P w K mg base k) (h:DefOk P w K mg base j x n den) (hj:decide (j<=k)=true:=by first | exact rfl | exact decide_eq_true (by omega)):AR X x n den:=by
 obtain ⟨rfl,rfl,rfl,rfl,rfl,r,_⟩:=I;exact h.cal r hj
theorem Fx.i (F:Fx X Y) (I:In p X P w K mg base k):In p Y P w K mg base k:=⟨F.prog.trans I.e1,F.w.trans I.e2,F.K.trans I.e3,F.mg.trans I.e4,F.base.trans I.e5,by rw [F.A];exact I.rm,I.pp⟩
abbrev Bd (p:Fg->(Str->Option Value)->Prop) (P:Program) (w:World) (K:Fg) (mg:Str->Option Value) (base:Heap) (k:Nat) (N gl:List Str) (vs cs gs:List Nat) (s:Stmt) (g:FS):Prop:=∀X:Cx,Cp X N gl vs cs vs (zG vs cs) gs->In p X P w K mg base k->PassesOwn (model X.prog X.w) X.A X.env X.xe->TQ.Q (PSs X (uE s) (tS X.K W0 g))
theorem GM {f:Addr} (F:Fun K x x s f fd) (e:p K mg) (N gl:List Str) (vs cs gs:List Nat) (h:fB N gl ps vs cs gs s=true) (hb:Bd p P w K mg base k N gl vs cs gs s g):fy P w K mg base oU (k+1) f fd ps (o9 K ps.length (aI N.length g)):=by
 obtain ⟨h1,h2,h3⟩:=Cv h;exact Ai F h3 fun cdv A outer s H E hr=>(hb _ (Cp.fn h1 h2) ⟨rfl,rfl,rfl,rfl,rfl,hr,e⟩ PassesOwn.never).p
theorem mk (F:Ft K mg x s) (e:p K mg) (ps:List Str) (b:wU x s ps) (rs gl:List Str) (vs cs gs:List Nat) (hb:Bd p P w K mg base k (ps++rs) gl vs cs gs s g) (h:fB (ps++rs) gl ps vs cs gs s=true:=by kernel_rfl):DefOk P w K mg base (k+1) x ps.length (aI (ps++rs).length g):=by
 obtain ⟨f,fd,hm,F⟩:=F;exact ⟨f,fd,ps,GM F e _ gl vs cs gs h hb,hm,F.kp,AE F b⟩
theorem Hb {fa:Addr} (F:Ft K mg x s) (e:p K mg) (q:Str) (b:wU x s [q]) (hfa:mg x=some (.ref fa)) (rs gl:List Str) (vs cs gs:List Nat) (hb:∀base,Bd p P w K mg base k ([q]++rs) gl vs cs gs s g) (h:fB ([q]++rs) gl [q] vs cs gs s=true:=by kernel_rfl) :
  ∃fd:FuncData,(∀(s:Shared) (v:Value),BindsTo s fd ⟨[v],[]⟩ [(q,v)])/\∀base:Heap,K.In base->base.Ns mainGlobals mg->fy P w K mg base oU (k+1) fa fd [q] (o9 K 1 (aI ([q]++rs).length g)):=by
 obtain ⟨f,fd,hm,F⟩:=F;have e':=hfa.symm.trans hm
 cases e'
 refine ⟨fd,fun s v=>?_,fun base _ _=>GM F e _ gl vs cs gs h (hb base)⟩
 obtain ⟨oc,od,kV,doc,pm,an,cdv,ct,osl,rfl,lk,hcd⟩:=F.ex;exact .of_eq (b [v] rfl kV doc pm an cdv ct)
section
variable {h:Heap} {a:Addr} {dd:Option Addr} {its:Array Value} {n:Nat} {sl:Array (Option Value)} {ds:List PySem.PyData} (KX:K.In h) (G:h.Ns mainGlobals mg)
include KX G
theorem gn (z:PySem.W.nsIn K mainGlobals x=some none):mg x=none:=PySem.W.mg_none_of KX G z
theorem gi {i:Int} {t:Tok} (z:PySem.W.nsIn K mainGlobals x=some (some (.int i t))):nH K mg x (.int i):=wH (PySem.W.mg_of KX G z)
theorem gt (z:PySem.W.nsIn K mainGlobals x=some (some (.ref a))) (l:K.lookup a=some ⟨.type "tuple",dd,.seq its n,sl⟩) (c:AD its ds=true):nH K mg x (.tuple ds):=wG (PySem.W.mg_of KX G z) l c
end
theorem walkG {m:List PySem.PyData->Res} {l:PySem.W.OpenLaw} {q:Program} {loose:List Str} {XP:(Str->Option Value)->Heap->Prop} {YP:World->Heap->Prop} {d:DefRec} {K:Params->Fg} (lt:∀ns:List Int,ns.length<=63->m [.list (ns.map .int)]=.ok ⟨.leaf,.bool true⟩) (hr:Room j callerA) (hn:l.most=some 63) (hdf:d.params.defaults=[])
  (hY:∀(w:World) (h:Heap),YP w h->(K w.params).In h)
  (F:∀(w:World) (mg:Str->Option Value) (fa:Addr) (h:Heap),(K w.params).In h->h.Ns mainGlobals mg->mg d.name=some (.ref fa) ->
   ∃fd:FuncData,(∀(s:Shared) (u:Value),BindsTo s fd ⟨[u],[]⟩ [("script",u)])/\∀base:Heap,(K w.params).In base->base.Ns mainGlobals mg->fy l.prog w (K w.params) mg base oU j fa fd ["script"] (o9 (K w.params) 1 m)) :
  PySem.W.WalkO q loose XP YP l.row.toRowW d [] (fun f vs=>PySem.call f vs):=
 L2.walk_of (n:=63) (k:=j) (x := "script") (CX:=fun _=>oU) (sp:=fun w=>o9 (K w.params) 1 m) hn (by decide) hdf hr hY F (fun _ _ a ns hl _ hS=>zH (lt ns hl) hS) fun _ _ _ _ _ z=>z
end
end T
namespace TQ
open PySem PySem.Spec L2 T
open PyProof.Rows hiding St
variable {x:Str}
section
variable {X:Cx} {N gl:List Str} {vs cs ls lo gs:List Nat} {W:XW} {a b c e:Expr} {es:List Expr} {pos p:Pos} {fa fb fc:F1} {fl:FL} {ga gb:FB} {g1 g2 g:FS}
theorem ah (S:Cp X N gl vs cs ls lo gs) (i:Nat) (hN:N[i]?=some x:=by exact rfl) (hv:vs.contains i=true:=by exact rfl):Q (PE X (.Name x pos) (tE X.K W (aa i))):=E8 S i hN hv
theorem aU (ha:Q (PE X e (tE X.K W fa))) (hr:Q (PA X es (tA X.K W fl))) (hs:wW e=false:=by exact rfl):Q (PA X (e::es) (tA X.K W (ab fa fl))):=je ha hr (cj hs)
theorem aM (ha:Q (PE X e (tE X.K W fa))) (hs:wW e=false:=by exact rfl):Q (PA X [e] (tA X.K W (ab fa ae))):=je ha qx (cj hs)
theorem bj (ha:Q (PE X a (tE X.K W fa))) (hb:Q (PE X b (tE X.K W fb))) (hs:xg b:=by exact fun _ _=>rfl):Q (PE X (.Subscript a b pos) (tE X.K W (af fa fb))):=qW ha hb hs
theorem b7 {n:Nat} {den:List PySem.PyData->Res} (S:Cp X N gl vs cs ls lo gs) (j:Nat) (C:AR X x n den) (ha:Q (PA X (e::es) (tA X.K W fl))) (hj:gl[j]?=some x:=by exact rfl) (hg:gs.contains j=true:=by exact rfl) (he:wW e=false:=by exact rfl) (hpl:(backTo pos (starEach es X.env)).any (·.1)=false:=by exact rfl):Q (PE X (.Call (.Name x p) (e::es) [] pos) (tE X.K W (ar n den fl))):=Fd S j hj hg C ha (cj he) hpl
theorem cU (S:Cp X N gl vs cs ls lo gs) (own:Bool) (i:Nat) {pos':Pos} (ha:Q (PE X a (tE X.K W fa))) (hi:N[i]?=some x:=by exact rfl) (hl:ls.contains i=true:=by exact rfl) (hs:swapsWith a (some (.Name x pos')) pos.line X.env=pure false:=by exact rfl):Q (PS X (.Assign [.Name x pos'] a pos) (tS X.K W (aB own i fa))):=kx S own i hi hl hs ha
theorem d5 (S:Cp X N gl vs cs ls lo gs) (j:Nat) (hm:X.mg "len"=none) (ha:Q (PA X (e::es) (tA X.K W fl))) (hj:gl[j]?=some ("len":Str):=by exact rfl) (hg:gs.contains j=true:=by exact rfl) (he:wW e=false:=by exact rfl) (hpl:(backTo pos (starEach es X.env)).any (·.1)=false:=by exact rfl):Q (PE X (.Call (.Name "len" p) (e::es) [] pos) (tE X.K W (bb aK fl))):=qZ S j hj hg hm ha (cj he) hpl
theorem bE {op:CmpOp} {r:R2} {g:PySem.PyData->PySem.PyData->Option PySem.PyData} (k:Ck X op r g) (ha:Q (PE X a (tE X.K W fa))) (hb:Q (PE X b (tE X.K W fb))) (hm:behindInMarks op b=false:=by with_unfolding_all rfl):Q (PT X (.Compare a [op] [b] pos) (tT X.K W (aA ag (ax g fa fb)))):=E9 k ha hb hm
theorem fD {op:CmpOp} {r:R2} {g:PySem.PyData->PySem.PyData->Option PySem.PyData} (k:Ck X op r g) (ha:Q (PE X a (tE X.K W fa))) (hb:Q (PE X b (tE X.K W fb))) (hm:behindInMarks op b=false:=by with_unfolding_all rfl):Q (PE X (.Compare a [op] [b] pos) (tE X.K W (ax g fa fb))):=Fc k ha hb hm
theorem bH (ha:Q (PE X a (tE X.K W fa))):Q (PSs X [.Return (some a) pos] (tS X.K W (aD fa))):=dP (qS ha)
theorem dR {scope:Scope} {px:Pos} {iter elt:Expr} {ifs:List Expr} {fi:FI} {fe:F1} {fc:FB} (vs' cs' gs':List Nat) (S:Cp X N gl vs cs ls lo gs) (i:Nat) (hi':Q (PI X (.Name x px) iter (tI X.K W fi))) (hc:my X N gl vs' cs' [i] [] gs' fun Y=>Q (PF Y ifs (tT Y.K W0 fc))) (he:my X N gl vs' cs' [i] [] gs' fun Y=>Q (PE Y elt (tE Y.K W0 fe))) (hx:N[i]?=some x:=by exact rfl) (h1:fW N i cs scope=true:=by kernel_rfl) (h2:oN N gl vs' cs' [i] [] gs' scope=true:=by kernel_rfl) (hs:∀x,foldedSetIterable iter X.env x=pure x:=by exact fun _=>rfl):Q (PE X (.ListComp elt [⟨.Name x px,iter,ifs,0⟩] scope pos) (tE X.K W (aj .leaf i fi fc fe))):=BA S .leaf i hx h1 h2 hi' hc he hs
end
end TQ
namespace T
open PySem PySem.Spec L2
open PyProof.Rows hiding St
section
variable {X:Cx} {N gl:List Str} {vs cs ls lo gs:List Nat} {W:XW} {a:Expr} {pos:Pos} {fa:F1}
theorem cs_unpt (S:Cp X N gl vs cs ls lo gs) (i j k:Nat) {x y z:Str} {px py pz pt:Pos} {kt:Nat} (hi:N[i]?=some x) (hj:N[j]?=some y) (hk:N[k]?=some z) (li:ls.contains i=true) (lj:ls.contains j=true) (lk:ls.contains k=true) (ha:PE X a (tE X.K W fa))
  (hs:swapsWithSole [.Tuple [.Name x px,.Name y py,.Name z pz] kt pt] a pos.line X.env=pure false) (hw:swappedStores [.Tuple [.Name x px,.Name y py,.Name z pz] kt pt] a X.env=pure none) :
  PS X (.Assign [.Tuple [.Name x px,.Name y py,.Name z pz] kt pt] a pos) (tS X.K W (dD [i,j,k] fa)):=by
 have hN:X.N.Nodup:=by rw [S.hN];exact S.nd
 exact cO (DN ha (DM S.calm (ye (oX hN (by rw [S.hN];exact hi) (S.loc i x hi li).1 (S.loc i x hi li).2) (ye (oX hN (by rw [S.hN];exact hj) (S.loc j y hj lj).1 (S.loc j y hj lj).2) (ye (oX hN (by rw [S.hN];exact hk) (S.loc k z hk lk).1 (S.loc k z hk lk).2) Eo)))) hs hw) fun _ _ _=>nY (is:=[i,j,k])
end
end T
namespace TQ
open PySem PySem.Spec L2 T
open PyProof.Rows hiding St
variable {X:Cx} {N gl:List Str} {vs cs ls lo gs:List Nat} {W:XW} {a:Expr} {pos:Pos} {fa:F1}
theorem oZ (S:Cp X N gl vs cs ls lo gs) (i j k:Nat) {x y z:Str} {px py pz pt:Pos} {kt:Nat} (hi:N[i]?=some x) (hj:N[j]?=some y) (hk:N[k]?=some z) (li:ls.contains i=true) (lj:ls.contains j=true) (lk:ls.contains k=true) (ha:Q (PE X a (tE X.K W fa)))
  (hs:swapsWithSole [.Tuple [.Name x px,.Name y py,.Name z pz] kt pt] a pos.line X.env=pure false) (hw:swappedStores [.Tuple [.Name x px,.Name y py,.Name z pz] kt pt] a X.env=pure none) :
  Q (PS X (.Assign [.Tuple [.Name x px,.Name y py,.Name z pz] kt pt] a pos) (tS X.K W (dD [i,j,k] fa))):=⟨T.cs_unpt S i j k hi hj hk li lj lk ha.p hs hw⟩
end TQ
namespace KQ.F
open PySem PySem.Spec L2 T
open PyProof.Rows hiding St
open KC
variable {rk:List (Option Int)} {Γ:Ev} {fa fb:F1} {ga gb:FB} {g:List Int} {x:Int} {n e:Nat} {α:Type} {o:Option Str}
noncomputable def gD:FS:=(au (aB true 3 (br (.tup [.lst .leaf,.leaf]) ae))
  (au (aB true 4 (i9 (aa 1)))
  (au (aB true 5 (wV 3 b9 (ab (aa 0) (ab (aa 4) (ab (aa 2) ae)))))
  (au (uD 1000 (aA ag (ax (bq true) (aa 5) (eK .none)))
  (au (xb 3 5 4 (aj .leaf 6 (aw (aa 4)) (aA ag (ax (aV true) (aa 6) (af (aa 5) (eK (.int 0))))) (aa 6)))
  (aB true 5 (wV 3 b9 (ab (aa 0) (ab (aa 4) (ab (aa 2) ae)))))))
  (aD (bQ (ab (bV 3) (ab (bV 4) ae))))))))
noncomputable def bT:List PySem.PyData->Res:=aI 7 gD
noncomputable def kd:FS:=(au (dw (ar 3 bM (ab (aa 0) (ab (aa 1) (ab (aa 2) ae)))))
  (au (aB true 3 (ar 3 bT (ab (aa 0) (ab (aa 1) (ab (aa 2) ae)))))
  (aD (As 3 (aj (.lst .leaf) 4 (aw (aa 2)) aH (ar 3 aP (ab (aa 0) (ab (af (aa 3) (eK (.int 1))) (ab (aa 4) ae)))))))))
noncomputable def bY:List PySem.PyData->Res:=aI 5 kd
noncomputable def kc:FS:=(au (aB true 3 (br .leaf ae))
  (au (bU 4 (aw (aa 2))
  (iP 3 (aj .leaf 5 (aw (af (af (aa 0) (eK (.int 2))) (aa 4))) (aA ag (ax (aV false) (aa 5) (aa 1))) (aa 5))))
  (aD (bV 3))))
noncomputable def bL:List PySem.PyData->Res:=aI 6 kc
noncomputable def iu:FS:=(au (aB false 4 (af (aa 3) (eK (.int 0))))
  (au (bI (cX (bD (aA aZ (aa 4))) (cX (bD (aA aZ (ar 1 cn (ab (aa 4) ae)))) (bD (aA aZ (bb (b3 false) (ab (aj .leaf 7 (aw (aa 4)) aH (ax (aV false) (aa 7) (aa 1))) ae)))))) (aD (eK (.bool false))) aC)
  (au (aB false 5 (ar 3 bL (ab (aa 0) (ab (aa 1) (ab (aa 4) ae)))))
  (au (bI (aA ag (ax (bq false) (af (aa 3) (eK (.int 1))) (eK .none))) (aD (eU lD (aa 5))) aC)
  (au (aB false 6 (p8 (bb (b3 true) (ab (aj .leaf 7 (aw (aa 4)) aH (ax (aV false) (af (aa 3) (eK (.int 1))) (af (af (aa 0) (eK (.int 1))) (aa 7)))) ae))))
  (aD (dN (ax (aV false) (af (aa 3) (eK (.int 1))) (aa 2)) (dN (aa 6) (bb (b3 false) (ab (aj .leaf 8 (aw (aa 5)) aH (ax (aV false) (aa 8) (aa 4))) ae))))))))))
noncomputable def bX:List PySem.PyData->Res:=aI 9 iu
noncomputable def ql:FS:=(au (aB false 4 (i9 (aa 1)))
  (au (bU 5 (aw (aa 3))
  (au (bI (bD (aA aZ (ar 4 bX (ab (aa 0) (ab (aa 4) (ab (aa 2) (ab (aa 5) ae))))))) (aD (eK .none)) aC)
  (aB false 4 (aj .leaf 6 (aw (aa 4)) (aA ag (ax (aV true) (aa 6) (af (aa 5) (eK (.int 0))))) (aa 6)))))
  (aD (aa 4))))
noncomputable def dQ:List PySem.PyData->Res:=aI 7 ql
noncomputable def gE:FS:=(au (aB false 5 (af (aa 3) (aa 4)))
  (au (bI (cX (aA ag (ax (aV true) (aa 4) (aa 1))) (aA ag (ax (bq false) (aa 5) (eK .none)))) (aD (dN (ax (aV true) (aa 4) (aa 1)) (ax (bq false) (aa 5) (eK .none)))) aC)
  (au (bI (aA ag (ax (aV false) (aa 2) (af (af (aa 0) (eK (.int 1))) (aa 4)))) (aD (ax cJ (aa 5) (eK (.int 0)))) aC)
  (aD (dN (ax dW (aa 5) (eK (.int 0))) (ax dW (bb aK (ab (ar 3 cP (ab (aa 0) (ab (aa 3) (ab (aa 4) ae)))) ae)) (eK (.int 0))))))))
noncomputable def cy:List PySem.PyData->Res:=aI 6 gE
noncomputable def fh:FS:=(au (bI (aA ag (ax cw (bb aK (ab (aa 3) ae)) (bb aK (ab (af (aa 0) (eK (.int 0))) ae)))) (aD (eK (.bool false))) aC)
  (aD (bb (b3 false) (ab (aj .leaf 4 (j5 (ab (bb aK (ab (aa 3) ae)) ae)) aH (ar 5 cy (ab (aa 0) (ab (aa 1) (ab (aa 2) (ab (aa 3) (ab (aa 4) ae))))))) ae))))
noncomputable def bz:List PySem.PyData->Res:=aI 5 fh
noncomputable def gF:FS:=(au (dw (ar 3 bM (ab (aa 0) (ab (aa 1) (ab (aa 2) ae)))))
  (au (aB false 4 (ar 4 dQ (ab (aa 0) (ab (aa 1) (ab (aa 2) (ab (af (aa 3) (eK (.int 0))) ae))))))
  (au (bI (cX (aA ag (ax (bq false) (aa 4) (eK .none))) (cX (aA ag (ax cw (af (aa 3) (eK (.int 1))) (aa 4))) (aA ag (ax cw (bb aK (ab (af (aa 3) (eK (.int 2))) ae)) (bb aK (ab (aa 2) ae)))))) (aD (eK (.bool false))) aC)
  (au (bI (bD (aA aZ (bb jr (ab (aj .leaf 5 (aw (aa 4)) aH (ar 3 bL (ab (aa 0) (ab (aa 4) (ab (br .leaf (ab (aa 5) ae)) ae))))) ae)))) (aD (eK (.bool false))) aC)
  (aD (bb (b3 false) (ab (xZ .leaf 6 7 (ab (aa 2) (ab (af (aa 3) (eK (.int 2))) ae)) aH (ar 4 bz (ab (aa 0) (ab (aa 4) (ab (aa 6) (ab (aa 7) ae)))))) ae)))))))
noncomputable def cA:List PySem.PyData->Res:=aI 8 gF
noncomputable def fJ:FS:=(au (dD [5,6] (aa 3))
  (au (bI (cX (aA ag (ax cJ (bb aK (ab (aa 5) ae)) (eK (.int 0)))) (cX (aA ag (ax cw (aa 5) (xQ (ab (aa 5) ae)))) (aA ag (ax dW (bb aK (ab (aj .leaf 4 (aw (aa 5)) (aA ag (ax (aV true) (aa 4) (aa 1))) (aa 4)) ae)) (eK (.int 0)))))) (aD (eK (.bool false))) aC)
  (au (bU 4 (aw (aa 5))
  (au (aB false 7 (aj .leaf 9 (aw (af (af (aa 0) (eK (.int 2))) (aa 4))) (aA ag (ax (aV false) (aa 9) (aa 1))) (aa 9)))
  (au (bI (cE (aA ag (ax (bq false) (aa 6) (eK .none))) (aA ag (ax dW (bb aK (ab (aa 7) ae)) (eK (.int 0))))) (aD (eK (.bool false))) aC)
  (au (aB false 8 (aj .leaf 10 (aw (aa 7)) (aA ag (ax (aV true) (aa 10) (aa 5))) (aa 10)))
  (bI (cE (aA ag (ax (bq true) (aa 6) (eK .none))) (cX (aA ag (ax (aV false) (aa 6) (af (af (aa 0) (eK (.int 1))) (aa 4)))) (aA ag (ax cw (aa 8) (br .leaf ae))))) (aD (eK (.bool false))) aC)))))
  (aD (uu (ax (bq false) (aa 6) (eK .none)) (ax (aV false) (aa 6) (aa 2)))))))
noncomputable def bN:List PySem.PyData->Res:=aI 11 fJ
noncomputable def fj:FS:=(au (bI (aA ag (ax cw (bb aK (ab (aa 3) ae)) (bb aK (ab (af (aa 0) (eK (.int 0))) ae)))) (aD (eK (.bool false))) aC)
  (au (bU 4 (j5 (ab (bb aK (ab (aa 3) ae)) ae))
  (bI (aA ag (ax cw (ax (bq false) (af (aa 3) (aa 4)) (eK .none)) (ax (aV true) (aa 4) (aa 1)))) (aD (eK (.bool false))) aC))
  (au (bU 4 (aw (aa 1))
  (au (aB false 5 (aj .leaf 7 (aw (af (af (aa 0) (eK (.int 2))) (aa 4))) (aA ag (ax (aV false) (aa 7) (aa 1))) (aa 7)))
  (au (aB false 6 (aj .leaf 7 (aw (aa 5)) (aA ag (ax ik (af (aa 3) (aa 7)) (af (aa 3) (aa 4)))) (aa 7)))
  (au (bI (cX (aA ag (ax ik (af (aa 3) (aa 4)) (eK (.int 0)))) (aA ag (ax cw (ax cJ (af (aa 3) (aa 4)) (eK (.int 0))) (ax (aV false) (aa 2) (af (af (aa 0) (eK (.int 1))) (aa 4)))))) (aD (eK (.bool false))) aC)
  (bI (cE (aA ag (ax dW (af (aa 3) (aa 4)) (eK (.int 0)))) (aA ag (ax cJ (aa 6) (br .leaf ae)))) (aD (eK (.bool false))) aC)))))
  (aD (eK (.bool true))))))
noncomputable def bZ:List PySem.PyData->Res:=aI 8 fj
noncomputable def gG:FS:=(au (dD [7,8,9] (aa 3))
  (au (aB false 4 (i9 (aa 1)))
  (au (bU 5 (aw (aa 7))
  (au (bI (bD (aA aZ (ar 4 bN (ab (aa 0) (ab (aa 4) (ab (aa 2) (ab (aa 5) ae))))))) (aD (eK (.bool false))) aC)
  (aB false 4 (aj .leaf 6 (aw (aa 4)) (aA ag (ax (aV true) (aa 6) (af (aa 5) (eK (.int 0))))) (aa 6)))))
  (au (bI (cX (aA ag (ax cw (aa 4) (aa 8))) (aA ag (ax cw (bb aK (ab (aa 9) ae)) (bb aK (ab (aa 2) ae))))) (aD (eK (.bool false))) aC)
  (au (bU 6 (aw (aa 8))
  (bI (aA ag (ax cJ (bb aK (ab (aj .leaf 11 (aw (af (af (aa 0) (eK (.int 2))) (aa 6))) (aA ag (ax (aV false) (aa 11) (aa 8))) (aa 11)) ae)) (eK (.int 0)))) (aD (eK (.bool false))) aC))
  (aD (bb (b3 false) (ab (aj .leaf 10 (j5 (ab (bb aK (ab (aa 2) ae)) ae)) aH (ar 4 bZ (ab (aa 0) (ab (aa 8) (ab (af (aa 2) (aa 10)) (ab (af (aa 9) (aa 10)) ae)))))) ae))))))))
noncomputable def cB:List PySem.PyData->Res:=aI 12 gG
noncomputable def i6:FS:=(au (bI (cX (bD (aA aZ (dX "tuple" (aa 0)))) (cX (aA ag (ax cw (bb aK (ab (aa 0) ae)) (eK (.int 3)))) (bD (aA aZ (bb (b3 false) (ab (aj .leaf 3 (ig (aa 0)) aH (dX "list" (aa 3))) ae)))))) (aD (eK (.bool false))) aC)
  (au (bU 1 (aw (af (aa 0) (eK (.int 0))))
  (bI (cX (bD (aA aZ (dX "tuple" (aa 1)))) (cX (aA ag (ax cw (bb aK (ab (aa 1) ae)) (eK (.int 2)))) (bD (aA aZ (ar 2 bB (ab (af (aa 1) (eK (.int 0))) (ab (i9 (af (aa 1) (eK (.int 0)))) ae))))))) (aD (eK (.bool false))) aC))
  (au (bU 2 (aw (af (aa 0) (eK (.int 2))))
  (bI (cX (bD (aA aZ (dX "list" (aa 2)))) (bD (aA aZ (bb (b3 false) (ab (aj .leaf 4 (aw (aa 2)) aH (uu (ax (bq false) (aa 4) (eK .none)) (ar 1 bC (ab (aa 4) ae)))) ae))))) (aD (eK (.bool false))) aC))
  (aD (ar 2 bB (ab (af (aa 0) (eK (.int 1))) (ab (i9 (af (aa 0) (eK (.int 1)))) ae)))))))
noncomputable def cm:List PySem.PyData->Res:=aI 5 i6
noncomputable def i7:FS:=(au (bU 4 (aw (aa 1))
  (au (aB false 5 (aj .leaf 6 (aw (af (af (aa 0) (eK (.int 2))) (aa 4))) (aA ag (ax (aV false) (aa 6) (aa 1))) (af (aa 3) (aa 6))))
  (bI (aA ag (ax cw (af (aa 3) (aa 4)) (uv (aA ag (ax (aV false) (aa 2) (af (af (aa 0) (eK (.int 1))) (aa 4)))) (eK (.int 0)) (ax bx (eK (.int 1)) (bb uz (ab (aa 5) ae)))))) (aD (eK (.bool false))) aC)))
  (aD (eK (.bool true))))
noncomputable def bS:List PySem.PyData->Res:=aI 7 i7
noncomputable def CA:FS:=(au (aB false 1 (ar 3 dk (ab (aa 0) (ab (eK (.int 0)) (ab (eK (.int 6)) ae)))))
  (au (aB false 2 (ar 2 dm (ab (ar 2 ba (ab (aa 0) (ab (eK (.int 7)) ae))) (ab (bb aK (ab (af (aa 1) (eK (.int 0))) ae)) ae))))
  (au (aB false 3 (ar 1 dq (ab (ar 2 ba (ab (aa 0) (ab (eK (.int 8)) ae))) ae)))
  (au (aB false 4 (br .leaf (ab (ar 1 dI (ab (aa 1) ae)) (ab (i9 (aa 2)) (ab (i9 (aa 3)) ae)))))
  (au (aB true 5 (ar 3 bY (ab (af (aa 4) (eK (.int 0))) (ab (af (aa 4) (eK (.int 1))) (ab (af (aa 4) (eK (.int 2))) ae)))))
  (au (bI (cX (bD (aA aZ (ar 1 cm (ab (aa 5) ae)))) (cX (bD (aA aZ (ar 4 cB (ab (aa 1) (ab (aa 2) (ab (aa 3) (ab (aa 5) ae))))))) (aA ag (ax cw (aa 4) (br .leaf (ab (aa 1) (ab (aa 2) (ab (aa 3) ae)))))))) (aD (eK (.bool false))) aC)
  (au (bI (aA ag (ax cw (af (aa 5) (eK (.int 1))) (ar 3 dJ (ab (aa 1) (ab (aa 2) (ab (aa 3) ae)))))) (aD (eK (.bool false))) aC)
  (au (bU 6 (j5 (ab (bb aK (ab (aa 3) ae)) ae))
  (bI (bD (aA aZ (ar 4 bS (ab (aa 1) (ab (af (aa 5) (eK (.int 1))) (ab (af (aa 3) (aa 6)) (ab (af (af (aa 5) (eK (.int 2))) (aa 6)) ae))))))) (aD (eK (.bool false))) aC))
  (au (bI (cX (aA ag (ax (tp true) (ar 4 cA (ab (af (aa 4) (eK (.int 0))) (ab (af (aa 4) (eK (.int 1))) (ab (af (aa 4) (eK (.int 2))) (ab (aa 5) ae))))) (eK (.bool true)))) (aA ag (ax cw (aa 4) (br .leaf (ab (aa 1) (ab (aa 2) (ab (aa 3) ae))))))) (aD (eK (.bool false))) aC)
  (au (aB false 7 (bb xR (ab (aa 5) ae)))
  (au (yd 5 8 9)
  (aD (ax cJ (bb xR (ab (ar 3 bY (ab (af (aa 4) (eK (.int 0))) (ab (af (aa 4) (eK (.int 1))) (ab (af (aa 4) (eK (.int 2))) ae)))) ae)) (aa 7))))))))))))))
noncomputable def sI:List PySem.PyData->Res:=aI 10 CA
open PySem.SeqAt
noncomputable def zD:Option Int->D
 | none=>.none
 | some z=>.int z
noncomputable abbrev bG (rk:List (Option Int)):D:=.list (rk.map zD)
noncomputable def zA (rk:List (Option Int)) (r:Nat):Option Int:=rk.getD r none
theorem Bi {r:Nat} (h:r<rk.length):(rk.map zD)[r]?=some (zD (zA rk r)):=by
 rw [getElem?_map,getElem?_eq_getElem h,zA,getD_eq_getElem?_getD,getElem?_eq_getElem h];rfl
theorem jI {s:Sh} {r:Nat} (ha:fa Γ=.ok ⟨.leaf,bG rk⟩ Γ) (hb:fb Γ=.ok ⟨s,rm r⟩ Γ) (h:r<rk.length):af fa fb Γ=.ok ⟨.leaf,zD (zA rk r)⟩ Γ:=qI (j:=r) ha hb (wX (by rw [length_map];exact h)) (Bi h) rfl
theorem GS (a b:Bool):cw (.bool a) (.bool b)=some (.bool (a != b)):=by cases a<;>cases b<;>kernel_rfl
theorem G5 (o:Option Int):cJ (zD o) (.int 0)=some (.bool (decide (o=some 0))):=by
 cases o with
 | none=>kernel_rfl
 | some z=>
  show cJ (.int z) (.int 0)=_
  rw [KC.eq_int];congr 2
  rw [Bool.eq_iff_iff];simp
theorem CF (h:ga Γ=.ok true Γ):cX ga gb Γ=.ok true Γ:=by
 unfold cX;rw [h];rfl
theorem uF {α:Type} (en:α->D) {i:Nat} {body:FS} {Inv:Ev->Prop} {c:α->Bool} {q:PV}:∀(xs:List α) (Γ:Ev),(∀a∈xs,∀Γ,Inv Γ->i<Γ.length/\(c a=true->∃Γ',body (Γ.set i (some ⟨.leaf,en a⟩))=.nx Γ'/\Inv Γ')/\(c a=false->body (Γ.set i (some ⟨.leaf,en a⟩))=.rt q))->Inv Γ ->
  (xs.all c=true->∃Γ',aR i body (xs.map en) Γ=.nx Γ'/\Inv Γ')/\(xs.all c=false->aR i body (xs.map en) Γ=.rt q)
 | [],Γ,_,h=>⟨fun _=>⟨Γ,rfl,h⟩,nofun⟩
 | a::r,Γ,hb,h=>by
  obtain ⟨h1,h2,h3⟩:=hb a mem_cons_self Γ h;rw [map_cons,all_cons]
  cases e:c a with
  | true=>
   obtain ⟨Γ1,e1,i1⟩:=h2 e;have ih:=uF en r Γ1 (fun b hb'=>hb b (mem_cons_of_mem _ hb')) i1
   have ef:aR i body (en a::r.map en) Γ=aR i body (r.map en) Γ1:=by
    rw [aR,if_pos h1,e1]
   rw [ef,Bool.true_and];exact ih
  | false=>
   rw [Bool.false_and];refine ⟨fun z=>(nomatch z),fun _=>?_⟩
   rw [aR,if_pos h1,h3 e]
noncomputable abbrev iL (g:List Int):D:=.list (g.map .int)
noncomputable abbrev bF (G:List Nat):List Int:=G.map fun t:Nat=>(t:Int)
theorem gp {G:List Nat}:aq G=iL (bF G):=by show PyData.list _=_;rw [KC.rms_int]
theorem Gi:shaped (iL g)=true:=Bs KC.rowI_map
theorem DV {a b:List Int}:cJ (iL a) (iL b)=some (.bool (decide (a=b))):=by
 show (if shaped (iL a)&&shaped (iL b) then some (PyData.bool (PyData.eqv (.list (a.map .int)) (.list (b.map .int)))) else none)=_
 rw [Gi,Gi,Bool.and_self,if_pos rfl,PyData.eqv];congr 2
 induction a generalizing b with
 | nil=>cases b<;>simp [PyData.eqvAll]
 | cons x a ih=>
  cases b with
  | nil=>simp [PyData.eqvAll]
  | cons y b=>
   rw [map_cons,map_cons,PyData.eqvAll,ih,PyData.eqv,Bool.eq_iff_iff];simp
theorem dH {a b:D} {c:Bool} (h:cJ a b=some (.bool c)):cw a b=some (.bool (!c)):=by
 unfold cJ at h;unfold cw;split at h
 ·rename_i z
  rw [if_pos z];injection h with h
  injection h with h
  rw [h]
 ·cases h
noncomputable def eO (g:List Int):Bool:=decide (g.Pairwise (· < ·))
theorem yE:dF (g.map .int)=eO g:=by
 unfold eO;by_cases h:g.Pairwise (· < ·)
 ·rw [decide_eq_true h];exact Ei h
 ·rw [decide_eq_false h,Bool.eq_false_iff]
  intro e;apply h
  unfold dF at e;rw [all_eq_true] at e;have st:∀k (hk:k+1<g.length),g[k]<g[k+1]:=fun k hk=>by
   have q:=e (.int (1+((k:Nat):Int))) (by
    unfold T.rngD;refine List.mem_map.mpr ⟨k,List.mem_range.mpr ?_,rfl⟩
    rw [length_map];omega)
   unfold vP at q;dsimp only at q;rw [show (1+(k:Int)-1).toNat=k by omega,show (1+(k:Int)).toNat=k+1 by omega,getD_eq_getElem?_getD,getD_eq_getElem?_getD,getElem?_map,getElem?_map,getElem?_eq_getElem (by omega),getElem?_eq_getElem hk] at q
   exact of_decide_eq_true q
  rw [List.pairwise_iff_getElem];intro i j hi hj hij;obtain ⟨d,rfl⟩:∃d,j=i+1+d:=⟨j-(i+1),by omega⟩
  clear hij;induction d with
  | zero=>exact st i hj
  | succ d ih=>exact Int.lt_trans (ih (by omega)) (st (i+1+d) (by omega))
theorem yz:decide (g=PySem.W.sortI (fI g))=eO g:=by
 unfold eO;refine decide_eq_decide.mpr ⟨fun e=>?_,fun h=>?_⟩
 ·have h1:=PySem.W.sortI_rises (fI g)
  have h2:(PySem.W.sortI (fI g)).Nodup:=(PySem.W.sortI_perm _).nodup_iff.mpr (C7 g)
  rw [<-e] at h1 h2
  exact (h1.and h2).imp fun z=>by omega
 ·refine PySem.W.eq_sortI ?_ (h.imp fun z=>by omega)
  exact (List.perm_ext_iff_of_nodup (h.imp fun z=>by omega) (C7 _)).mpr fun x=>ddp_mem.symm
structure FRow where
 g:List Int
 m:Option Str
noncomputable def mD:Option Str->D
 | none=>.none
 | some c=>.str c
noncomputable def FRow.enc (r:FRow):D:=.tuple [iL r.g,mD r.m]
structure FRow.Ok (r:FRow):Prop where
 len:r.g.length<=60
 str:∀c,r.m=some c->PyData.strOk c=true
noncomputable def inL (L:List Nat) (x:Int):Bool:=(bF L).contains x
noncomputable def oQ (L:List Nat) (g:List Int):Bool:=!g.isEmpty&&eO g&&g.all (inL L)
noncomputable abbrev dY (w:Wd) (L G:List Nat):List Nat:=G.flatMap fun r=>(w.stp r).filter fun t=>L.contains t
noncomputable def oP (w:Wd) (L:List Nat) (M:List Str) (G:List Nat):Option Str->Bool
 | none=>(dY w L G).isEmpty
 | some c=>M.contains c&&(!G.any fun r=>(w.mks r).contains c)&&(dY w L G).all fun t=>G.contains t
noncomputable def cV (w:Wd) (L:List Nat) (M:List Str) (r:FRow):Bool:=oQ L r.g&&oP w L M (r.g.map Int.toNat) r.m
theorem tQ {w:Wd} {L:List Nat} (hL:Std w.n L) (h:oQ L g=true):∃G:List Nat,g=bF G/\g.map Int.toNat=G/\(∀r∈G,r∈L)/\G≠[]/\G.Nodup/\G.length<=w.n:=by
 simp only [oQ,Bool.and_eq_true,all_eq_true] at h
 obtain ⟨⟨h1,h2⟩,h3⟩:=h;have h3':∀x∈g,∃r∈L,(r:Int)=x:=fun x hx=>by
  have:=h3 x hx
  simpa [inL] using this
 have e:bF (g.map Int.toNat)=g:=by
  show ((g.map Int.toNat).map fun t:Nat=>(t:Int))=g
  rw [map_map];refine (map_congr_left fun x hx=>?_).trans (List.map_id g)
  obtain ⟨r,_,rfl⟩:=h3' x hx
  show ((r:Int).toNat:Int)=id (r:Int)
  simp
 have hin:∀r∈g.map Int.toNat,r∈L:=fun r hr=>by
  obtain ⟨x,hx,rfl⟩:=List.mem_map.mp hr;obtain ⟨r2,hr2,rfl⟩:=h3' x hx
  simpa using hr2
 have nd:(g.map Int.toNat).Nodup:=by
  have p:=of_decide_eq_true h2
  rw [<-e,pairwise_map] at p;exact p.imp fun z=>by omega
 exact ⟨g.map Int.toNat,e.symm,rfl,hin,fun z=>by rw [List.map_eq_nil_iff.mp z] at h1;simp at h1,nd,Bo nd fun x hx=>hL.lt x (hin x hx)⟩
section
variable {w:Wd} {L:List Nat} {M:List Str}
theorem nU (ok:w.Ok) (r:Nat):(w.stp r).length<=30:=by
 unfold Wd.stp;rw [getD_eq_getElem?_getD]
 cases e:w.s[r]? with
 | none=>simp
 | some l=>exact (ok.st l (mem_of_getElem? e)).2.1
noncomputable abbrev GA (w:Wd) (L G A:List Nat) (x4:Option PV):Ev:=[some ⟨.leaf,w.enc⟩,some ⟨.leaf,aq L⟩,some ⟨.leaf,aq G⟩,some ⟨.lst .leaf,aq A⟩,x4,none]
noncomputable abbrev iB:FS:=(iP 3 (aj .leaf 5 (aw (af (af (aa 0) (eK (.int 2))) (aa 4))) (aA ag (ax (aV false) (aa 5) (aa 1))) (aa 5)))
theorem xM (ok:w.Ok) {G0:List Nat}:∀(G A:List Nat) (x4:Option PV),(∀r∈G,r<w.n)->A.length+30*G.length<=9000->∃y4,aR 4 iB (G.map rm) (GA w L G0 A x4)=.nx (GA w L G0 (A++dY w L G) y4)
 | [],A,x4,_,_=>⟨x4,by simp [aR,dY]⟩
 | r::G,A,x4,h,hn=>by
  have hr:=h r mem_cons_self
  have hl:=nU ok r
  have c:aj .leaf 5 (aw (af (af (aa 0) (eK (.int 2))) (aa 4))) (aA ag (ax (aV false) (aa 5) (aa 1))) (aa 5) (GA w L G0 A (some ⟨.leaf,rm r⟩))=.ok ⟨.lst .leaf,aq ((w.stp r).filter fun t=>L.contains t)⟩ (GA w L G0 A (some ⟨.leaf,rm r⟩)):=
   gL rm (w.stp r) (fun t=>L.contains t) (fun t=>⟨.leaf,rm t⟩) (st:=true) (aL (s:=.leaf) (yh ok rfl (ao rfl) hr) rfl) (by simp) rfl ok.z.len (fun t ht=>bJ (s:=.leaf) (ay (ao rfl) (ao rfl) uA)) fun t ht _=>⟨ao rfl,rfl⟩
  have hf:((w.stp r).filter fun t=>L.contains t).length<=30:=Nat.le_trans (length_filter_le _ _) hl
  rw [length_cons] at hn;have e:iB (GA w L G0 A (some ⟨.leaf,rm r⟩))=.nx (GA w L G0 (A++(w.stp r).filter fun t=>L.contains t) (some ⟨.leaf,rm r⟩)):=by
   refine (qQ (ds:=A.map rm) (es:=((w.stp r).filter fun t=>L.contains t).map rm) rfl c rfl (by rw [length_map,length_map];omega)).trans ?_
   rw [<-List.map_append];rfl
  obtain ⟨y4,ih⟩:=xM ok (G0:=G0) G (A++(w.stp r).filter fun t=>L.contains t) (some ⟨.leaf,rm r⟩) (fun x hx=>h x (mem_cons_of_mem _ hx)) (by rw [length_append];omega)
  refine ⟨y4,?_⟩
  rw [map_cons,aR,if_pos (by simp)]
  show (match iB (GA w L G0 A (some ⟨.leaf,rm r⟩)) with | .nx Γ1=>aR 4 iB (G.map rm) Γ1 | .ct Γ1=>aR 4 iB (G.map rm) Γ1 | .bk Γ1=>.nx Γ1 | .rt p=>.rt p | .er a b=>.er a b | .no=>.no)=_
  rw [e];dsimp only;rw [ih];simp [dY,append_assoc]
theorem jw (ok:w.Ok) {G:List Nat} (hG:∀r∈G,r<w.n) (hl:G.length<=24):bL [w.enc,aq L,aq G]=.ok ⟨.lst .leaf,aq (dY w L G)⟩:=by
 obtain ⟨y4,e⟩:=xM (L:=L) ok (G0:=G) G [] none hG (by simp only [length_nil];omega)
 rw [nil_append] at e;exact aG (ai (mE (nJ (s:=.leaf) ak rfl rfl rfl) rfl (by simp [bh])) (ai (bu (aL (ds:=G.map rm) (s:=.leaf) (ao rfl) rfl) e) (aE (xW rfl) rfl)))
theorem zS {L:List Nat}:aV false (.int x) (aq L)=some (.bool (inL L x)):=by
 rw [gp];exact DK
noncomputable abbrev GI (w:Wd) (L:List Nat) (M:List Str) (r:FRow) (x5 x6:Option PV):Ev:=[some ⟨.leaf,w.enc⟩,some ⟨.leaf,aq L⟩,some ⟨.leaf,bw M⟩,some ⟨.leaf,r.enc⟩,some ⟨.leaf,iL r.g⟩,x5,x6,none,none]
theorem wc {i:Nat} (h:Γ[i]?=some (some ⟨.leaf,iL g⟩)):aA aZ (aa i) Γ=.ok (!g.isEmpty) Γ:=by
 unfold aA;rw [ao h]
 cases g<;>rfl
theorem oy {m:Option Str} {c:Str} (h:m=some c) (hc:PyData.strOk c=true) {r:List Str} (hr:∀x∈r,PyData.strOk x=true):aV false (mD m) (bw r)=some (.bool (r.contains c)):=by
 rw [h];exact xS hc hr
theorem wt (ok:w.Ok) (hL:Std w.n L) (hM:∀c∈M,c∈aN) {r:FRow} (hr:r.Ok):bX [w.enc,aq L,bw M,r.enc]=.ok ⟨.leaf,.bool (cV w L M r)⟩:=by
 have h24:=ok.h24
 have hlr:=hr.len
 have hMs:∀x∈M,PyData.strOk x=true:=fun x hx=>(qK (hM x hx)).1
 have s1:aB false 4 (af (aa 3) (eK (.int 0))) (bh 9 [w.enc,aq L,bw M,r.enc])=.nx (GI w L M r none none):=dC (gK (j:=0) (ds:=[iL r.g,mD r.m]) (ao rfl) aQ rfl rfl rfl) rfl (by simp [bh])
 have ca:aj .leaf 7 (aw (aa 4)) aH (ax (aV false) (aa 7) (aa 1)) (GI w L M r none none)=.ok ⟨.lst .leaf,.list (r.g.map fun x=>.bool (inL L x))⟩ (GI w L M r none none):=
  mq PyData.int r.g (fun x=>⟨.leaf,.bool (inL L x)⟩) (st:=true) (aL (s:=.leaf) (ao rfl) rfl) (by simp) rfl (by omega) fun x hx=>⟨ay (ao rfl) (ao rfl) zS,rfl⟩
 have t:=cG (b4 (wc (g:=r.g) (Γ:=GI w L M r none none) (i:=4) rfl)) (cG (b4 (bW (s:=.leaf) (cH (n:=1) (az (ao (i:=4) rfl) ak) (EY (.inl rowI_map) (by rw [length_map];omega)) rfl rfl))) (b4 (bW (s:=.leaf) (bc (az ca ak) qC))))
 rw [yE] at t
 cases hc:oQ L r.g with
 | false=>
  have e:(!(!r.g.isEmpty)||(!eO r.g||!r.g.all (inL L)))=true:=by
   have:(!(!r.g.isEmpty)||(!eO r.g||!r.g.all (inL L)))=!oQ L r.g:=by
    unfold oQ
    cases r.g.isEmpty<;>cases eO r.g<;>cases r.g.all (inL L)<;>rfl
   rw [this,hc];rfl
  rw [e] at t;have:cV w L M r=false:=by unfold cV;rw [hc];rfl
  rw [this];exact aG (ai s1 (fA (aO t (fun _=>aE aQ rfl) nofun)))
 | true=>
  have e:(!(!r.g.isEmpty)||(!eO r.g||!r.g.all (inL L)))=false:=by
   have:(!(!r.g.isEmpty)||(!eO r.g||!r.g.all (inL L)))=!oQ L r.g:=by
    unfold oQ
    cases r.g.isEmpty<;>cases eO r.g<;>cases r.g.all (inL L)<;>rfl
   rw [this,hc];rfl
  rw [e] at t;obtain ⟨G,e1,e2,hin,hne,nd,hlen⟩:=tQ hL hc;have hlt:∀x∈G,x<w.n:=fun x hx=>hL.lt x (hin x hx)
  have hg:iL r.g=aq G:=by rw [gp,<-e1]
  have:cV w L M r=oP w L M G r.m:=by unfold cV;rw [hc,e2];rfl
  rw [this];have s2:bI _ (aD (eK (.bool false))) aC (GI w L M r none none)=.nx (GI w L M r none none):=aO t nofun fun _=>rfl
  have s3:aB false 5 (ar 3 bL (ab (aa 0) (ab (aa 1) (ab (aa 4) ae)))) (GI w L M r none none)=.nx (GI w L M r (some ⟨.leaf,aq (dY w L G)⟩) none):=
   dC (cH (az (ao rfl) (az (ao rfl) (az (ao (d:=aq G) (by rw [<-hg];rfl)) ak))) (jw ok hlt (by omega)) rfl rfl) rfl (by simp)
  have i1:∀x5 x6,af (aa 3) (eK (.int 1)) (GI w L M r x5 x6)=.ok ⟨.leaf,mD r.m⟩ (GI w L M r x5 x6):=fun x5 x6=>gK (j:=1) (ds:=[iL r.g,mD r.m]) (ao rfl) aQ rfl rfl rfl
  refine aG (ai s1 (ai s2 (ai s3 ?_)))
  cases hm:r.m with
  | none=>
   have tn:aA ag (ax (bq false) (af (aa 3) (eK (.int 1))) (eK .none)) (GI w L M r (some ⟨.leaf,aq (dY w L G)⟩) none)=.ok true (GI w L M r (some ⟨.leaf,aq (dY w L G)⟩) none):=bJ (s:=.leaf) (ay (i1 _ _) aQ (by rw [hm];rfl))
   refine fA (aO tn (fun _=>aE (p:=⟨.leaf,.bool (oP w L M G none)⟩) (Γ1:=GI w L M r (some ⟨.leaf,aq (dY w L G)⟩) none) ?_ rfl) nofun)
   refine G6 (ao (d:=aq (dY w L G)) rfl) ?_
   unfold oP;generalize dY w L G=A
   cases A<;>rfl
  | some c=>
   have hcs:=hr.str c hm
   have tn:aA ag (ax (bq false) (af (aa 3) (eK (.int 1))) (eK .none)) (GI w L M r (some ⟨.leaf,aq (dY w L G)⟩) none)=.ok false (GI w L M r (some ⟨.leaf,aq (dY w L G)⟩) none):=bJ (s:=.leaf) (ay (i1 _ _) aQ (by rw [hm];rfl))
   have cb:aj .leaf 7 (aw (aa 4)) aH (ax (aV false) (af (aa 3) (eK (.int 1))) (af (af (aa 0) (eK (.int 1))) (aa 7))) (GI w L M r (some ⟨.leaf,aq (dY w L G)⟩) none)=.ok ⟨.lst .leaf,.list (G.map fun x=>.bool ((w.mks x).contains c))⟩ (GI w L M r (some ⟨.leaf,aq (dY w L G)⟩) none):=
    mq rm G (fun x=>⟨.leaf,.bool ((w.mks x).contains c)⟩) (st:=true) (aL (s:=.leaf) (ao (d:=aq G) (by rw [<-hg];rfl)) rfl) (by simp) rfl (by omega) fun x hx=>⟨ay (gK (j:=1) (ds:=[iL r.g,mD r.m]) (ao rfl) aQ rfl rfl rfl) (AX ok rfl (ao rfl) (hlt x hx)) (oy hm hcs (w9 ok x)),rfl⟩
   have s6:aB false 6 _ (GI w L M r (some ⟨.leaf,aq (dY w L G)⟩) none)=.nx (GI w L M r (some ⟨.leaf,aq (dY w L G)⟩) (some ⟨.leaf,.bool (!G.any fun x=>(w.mks x).contains c)⟩)):=
    dC (v_not (s:=.leaf) (bc (az cb ak) (by
     have:=DW (bs:=G.map fun x=>(w.mks x).contains c)
     rw [map_map,any_map] at this;exact this))) rfl (by simp)
   have al:(dY w L G).length<=10000:=by
    have:∀G:List Nat,(dY w L G).length<=30*G.length:=fun G=>by
     induction G with
     | nil=>simp [dY]
     | cons a r ih=>
      have h1:((w.stp a).filter fun t=>L.contains t).length<=30:=Nat.le_trans (length_filter_le _ _) (nU ok a)
      simp only [dY,List.flatMap_cons,length_append,length_cons] at ih ⊢
      omega
    have:=this G
    omega
   have cd:aj .leaf 8 (aw (aa 5)) aH (ax (aV false) (aa 8) (aa 4)) (GI w L M r (some ⟨.leaf,aq (dY w L G)⟩) (some ⟨.leaf,.bool (!G.any fun x=>(w.mks x).contains c)⟩))=.ok ⟨.lst .leaf,.list ((dY w L G).map fun x=>.bool (G.contains x))⟩ (GI w L M r (some ⟨.leaf,aq (dY w L G)⟩) (some ⟨.leaf,.bool (!G.any fun x=>(w.mks x).contains c)⟩)):=
    mq rm (dY w L G) (fun x=>⟨.leaf,.bool (G.contains x)⟩) (st:=true) (aL (s:=.leaf) (ao rfl) rfl) (by simp) rfl al fun x hx=>⟨ay (ao rfl) (ao (d:=aq G) (by rw [<-hg];rfl)) uA,rfl⟩
   refine ai (aO tn nofun fun _=>rfl) (ai s6 (aE (p:=⟨.leaf,.bool (oP w L M G (some c))⟩) (Γ1:=GI w L M r (some ⟨.leaf,aq (dY w L G)⟩) (some ⟨.leaf,.bool (!G.any fun x=>(w.mks x).contains c)⟩)) ?_ rfl))
   have:=v_and (s:=.leaf) (ay (i1 _ _) (ao (i:=2) rfl) (oy hm hcs hMs)) (v_and (s:=.leaf) (ao (i:=6) rfl) (bc (az cd ak) qC))
   rw [this];simp [oP,Bool.and_assoc]
end
theorem len_sub:∀(l m:List Int),l.Nodup->(∀x∈l,x∈m)->l.length<=m.length
 | [],m,_,_=>Nat.zero_le _
 | a::l,m,nd,h=>by
  obtain ⟨na,nl⟩:=List.nodup_cons.mp nd;have ha:=h a mem_cons_self
  have ih:=len_sub l (m.erase a) nl fun x hx=>(List.mem_erase_of_ne (fun e:x=a=>na (e▸hx))).mpr (h x (mem_cons_of_mem _ hx))
  rw [List.length_erase_of_mem ha] at ih;have:0<m.length:=length_pos_of_mem ha
  rw [length_cons];omega
theorem uS {fl:FL} {s:Sh} (hl:fl Γ=.ok [⟨s,iL g⟩] Γ) (h:g.length<=60):xQ fl Γ=.ok ⟨.lst .leaf,iL (PySem.W.sortI (fI g))⟩ Γ:=by
 unfold xQ;rw [hl];have e:T.sortArg ([(⟨s,iL g⟩:PV)].map (·.d))=some g:=by
  show T.intsOf (g.map .int)=_
  rw [ie]
 have hd:(fI g).length<=g.length:=len_sub _ _ (C7 g) fun x hx=>ddp_mem.mp hx
 show (match T.sortArg ([(⟨s,iL g⟩:PV)].map (·.d)) with | some ns=>if ns.length<4000/\(fI ns).length<64 then Out.ok (⟨.lst .leaf,.list ((PySem.W.sortI (fI ns)).map .int)⟩:PV) Γ else .no | none=>.no)=_
 rw [e];dsimp only;rw [if_pos ⟨by omega,by omega⟩]
theorem wN (h:ga Γ=.ok false Γ):cE ga gb Γ=.ok false Γ:=by unfold cE;rw [h];rfl
theorem pP {L:List Nat}:aV true (.int x) (aq L)=some (.bool (!inL L x)):=by
 rw [gp];exact EG
section
variable {w:Wd} {L:List Nat} {M:List Str}
noncomputable abbrev GH (w:Wd) (L:List Nat) (M:List Str) (r:FRow) (x4 x7 x8:Option PV):Ev:=[some ⟨.leaf,w.enc⟩,some ⟨.leaf,aq L⟩,some ⟨.leaf,bw M⟩,some ⟨.leaf,r.enc⟩,x4,some ⟨.leaf,iL r.g⟩,some ⟨.leaf,mD r.m⟩,x7,x8,none,none]
noncomputable def cR (w:Wd) (L:List Nat) (G:List Nat) (m:Option Str) (r:Nat):Bool:=match m with
 | none=>((w.stp r).filter fun t=>L.contains t).isEmpty
 | some c=>!(w.mks r).contains c&&((w.stp r).filter fun t=>L.contains t).all fun t=>G.contains t
noncomputable abbrev sX:FS:=(au (aB false 7 (aj .leaf 9 (aw (af (af (aa 0) (eK (.int 2))) (aa 4))) (aA ag (ax (aV false) (aa 9) (aa 1))) (aa 9)))
  (au (bI (cE (aA ag (ax (bq false) (aa 6) (eK .none))) (aA ag (ax dW (bb aK (ab (aa 7) ae)) (eK (.int 0))))) (aD (eK (.bool false))) aC)
  (au (aB false 8 (aj .leaf 10 (aw (aa 7)) (aA ag (ax (aV true) (aa 10) (aa 5))) (aa 10)))
  (bI (cE (aA ag (ax (bq true) (aa 6) (eK .none))) (cX (aA ag (ax (aV false) (aa 6) (af (af (aa 0) (eK (.int 1))) (aa 4)))) (aA ag (ax cw (aa 8) (br .leaf ae))))) (aD (eK (.bool false))) aC))))
theorem DJ:dW (.int (n:Int)) (.int 0)=some (.bool (decide (0<n))):=by
 show some (PyData.bool (decide ((0:Int)<(n:Int))))=_
 congr 2
 exact decide_eq_decide.mpr (by omega)
theorem zC {a:List Nat}:cw (aq a) (.list [])=some (.bool (!a.isEmpty)):=dH oK
theorem zW (ok:w.Ok) {r:FRow} (hr:r.Ok) {G:List Nat} (hg:iL r.g=aq G) {x:Nat} (hx:x<w.n) (x7 x8:Option PV) :
  (cR w L G r.m x=true->∃y7 y8,sX (GH w L M r (some ⟨.leaf,rm x⟩) x7 x8)=.nx (GH w L M r (some ⟨.leaf,rm x⟩) y7 y8))/\(cR w L G r.m x=false->sX (GH w L M r (some ⟨.leaf,rm x⟩) x7 x8)=.rt ⟨.leaf,.bool false⟩):=by
 have hl:=nU ok x
 have c7:aj .leaf 9 (aw (af (af (aa 0) (eK (.int 2))) (aa 4))) (aA ag (ax (aV false) (aa 9) (aa 1))) (aa 9) (GH w L M r (some ⟨.leaf,rm x⟩) x7 x8)=.ok ⟨.lst .leaf,aq ((w.stp x).filter fun t=>L.contains t)⟩ (GH w L M r (some ⟨.leaf,rm x⟩) x7 x8):=
  gL rm (w.stp x) (fun t=>L.contains t) (fun t=>⟨.leaf,rm t⟩) (st:=true) (aL (s:=.leaf) (yh ok rfl (ao rfl) hx) rfl) (by simp) rfl ok.z.len (fun t ht=>bJ (s:=.leaf) (ay (ao rfl) (ao rfl) uA)) fun t ht _=>⟨ao rfl,rfl⟩
 have hf:((w.stp x).filter fun t=>L.contains t).length<=30:=Nat.le_trans (length_filter_le _ _) hl
 unfold cR;generalize hA:((w.stp x).filter fun t=>L.contains t)=A at c7 hf
 have s7:aB false 7 _ (GH w L M r (some ⟨.leaf,rm x⟩) x7 x8)=.nx (GH w L M r (some ⟨.leaf,rm x⟩) (some ⟨.leaf,aq A⟩) x8):=dC c7 rfl (by simp)
 have c8:aj .leaf 10 (aw (aa 7)) (aA ag (ax (aV true) (aa 10) (aa 5))) (aa 10) (GH w L M r (some ⟨.leaf,rm x⟩) (some ⟨.leaf,aq A⟩) x8)=.ok ⟨.lst .leaf,aq (A.filter fun t=>!G.contains t)⟩ (GH w L M r (some ⟨.leaf,rm x⟩) (some ⟨.leaf,aq A⟩) x8):=
  gL rm A (fun t=>!G.contains t) (fun t=>⟨.leaf,rm t⟩) (st:=true) (aL (s:=.leaf) (ao rfl) rfl) (by simp) rfl (by omega) (fun t ht=>bJ (s:=.leaf) (ay (ao rfl) (ao (d:=aq G) (by rw [<-hg];rfl)) EF)) fun t ht _=>⟨ao rfl,rfl⟩
 have s8:aB false 8 _ (GH w L M r (some ⟨.leaf,rm x⟩) (some ⟨.leaf,aq A⟩) x8)=.nx (GH w L M r (some ⟨.leaf,rm x⟩) (some ⟨.leaf,aq A⟩) (some ⟨.leaf,aq (A.filter fun t=>!G.contains t)⟩)):=dC c8 rfl (by simp)
 have t1:∀b,(bq false (mD r.m) .none=some (.bool b))->cE (aA ag (ax (bq false) (aa 6) (eK .none))) (aA ag (ax dW (bb aK (ab (aa 7) ae)) (eK (.int 0)))) (GH w L M r (some ⟨.leaf,rm x⟩) (some ⟨.leaf,aq A⟩) x8)=.ok (b&&decide (0<A.length)) (GH w L M r (some ⟨.leaf,rm x⟩) (some ⟨.leaf,aq A⟩) x8):=fun b hb=>
  jD (bJ (s:=.leaf) (ay (ao rfl) aQ hb)) (bJ (s:=.leaf) (ay (bc (g:=aK) (d:=.int (A.length:Int)) (az (ao rfl) ak) (by simp)) aQ DJ))
 cases hm:r.m with
 | none=>
  have t:=t1 true (by rw [hm];rfl)
  have t2:cE (aA ag (ax (bq true) (aa 6) (eK .none))) (cX (aA ag (ax (aV false) (aa 6) (af (af (aa 0) (eK (.int 1))) (aa 4)))) (aA ag (ax cw (aa 8) (br .leaf ae)))) (GH w L M r (some ⟨.leaf,rm x⟩) (some ⟨.leaf,aq A⟩) (some ⟨.leaf,aq (A.filter fun t=>!G.contains t)⟩))=.ok false (GH w L M r (some ⟨.leaf,rm x⟩) (some ⟨.leaf,aq A⟩) (some ⟨.leaf,aq (A.filter fun t=>!G.contains t)⟩)):=
   wN (bJ (s:=.leaf) (ay (ao (d:=mD r.m) rfl) aQ (by rw [hm];rfl)))
  refine ⟨fun e=>⟨_,_,ai s7 (ai (aO t (fun z=>?_) fun _=>rfl) (ai s8 (aO t2 nofun fun _=>rfl)))⟩,fun e=>ai s7 (fA (aO t (fun _=>aE aQ rfl) fun z=>?_))⟩
  ·have e:A.isEmpty=true:=e
   rw [List.isEmpty_iff.mp e] at z;simp at z
  ·have e:A.isEmpty=false:=e
   cases A with
   | nil=>cases e
   | cons a r=>simp at z
 | some c=>
  have hcs:=hr.str c hm
  have t:=t1 false (by rw [hm];rfl)
  have t2:=jD (bJ (s:=.leaf) (ay (ao (i:=6) (d:=mD r.m) (Γ:=GH w L M r (some ⟨.leaf,rm x⟩) (some ⟨.leaf,aq A⟩) (some ⟨.leaf,aq (A.filter fun t=>!G.contains t)⟩)) rfl) (aQ (d:=.none)) (show bq true (mD r.m) .none=some (.bool true) by rw [hm];rfl)))
   (cG (bJ (s:=.leaf) (ay (ao (i:=6) (d:=mD r.m) rfl) (AX ok (i:=0) rfl (ao (i:=4) rfl) hx) (oy hm hcs (w9 ok x)))) (bJ (s:=.leaf) (ay (ao (i:=8) rfl) (nJ (s:=.leaf) ak rfl rfl rfl) zC)))
  have key:(!(w.mks x).contains c&&A.all fun t=>G.contains t)=!(true&&((w.mks x).contains c||!(A.filter fun t=>!G.contains t).isEmpty)):=by
   cases (w.mks x).contains c with
   | true=>rfl
   | false=>
    show A.all _=!(!(A.filter fun t=>!G.contains t).isEmpty)
    rw [Bool.not_not,Bool.eq_iff_iff,all_eq_true,isEmpty_iff,filter_eq_nil_iff];simp
  refine ⟨fun e=>⟨_,_,ai s7 (ai (aO t nofun fun _=>rfl) (ai s8 (aO t2 (fun z=>?_) fun _=>rfl)))⟩,fun e=>ai s7 (ai (aO t nofun fun _=>rfl) (ai s8 (aO t2 (fun _=>aE aQ rfl) fun z=>?_)))⟩
  ·have e:(!(w.mks x).contains c&&A.all fun t=>G.contains t)=true:=e
   rw [key,z] at e
   cases e
  ·have e:(!(w.mks x).contains c&&A.all fun t=>G.contains t)=false:=e
   rw [key,z] at e
   cases e
theorem mh {G:List Nat}:G.all (cR w L G none)=(dY w L G).isEmpty:=by
 rw [Bool.eq_iff_iff,all_eq_true,isEmpty_iff,List.flatMap_eq_nil_iff];simp only [cR,isEmpty_iff]
theorem mf {G:List Nat} {c:Str}:G.all (cR w L G (some c))=((!G.any fun r=>(w.mks r).contains c)&&(dY w L G).all fun t=>G.contains t):=by
 rw [Bool.eq_iff_iff,all_eq_true];simp only [cR,Bool.and_eq_true,Bool.not_eq_true',all_eq_true,any_eq_false,List.mem_flatMap]
 exact ⟨fun h=>⟨fun r hr=>by simpa using (h r hr).1,fun t ⟨r,hr,ht⟩=>(h r hr).2 t ht⟩,fun h r hr=>⟨by simpa using h.1 r hr,fun t ht=>h.2 t ⟨r,hr,ht⟩⟩⟩
theorem tM (ok:w.Ok) (hL:Std w.n L) (hM:∀c∈M,c∈aN) {r:FRow} (hr:r.Ok):bN [w.enc,aq L,bw M,r.enc]=.ok ⟨.leaf,.bool (cV w L M r)⟩:=by
 have h24:=ok.h24
 have hlr:=hr.len
 have hMs:∀x∈M,PyData.strOk x=true:=fun x hx=>(qK (hM x hx)).1
 have s1:dD [5,6] (aa 3) (bh 11 [w.enc,aq L,bw M,r.enc])=.nx (GH w L M r none none none):=qO (ao (d:=r.enc) rfl) rfl rfl rfl
 have c4:aj .leaf 4 (aw (aa 5)) (aA ag (ax (aV true) (aa 4) (aa 1))) (aa 4) (GH w L M r none none none)=.ok ⟨.lst .leaf,iL (r.g.filter fun x=>!inL L x)⟩ (GH w L M r none none none):=
  gL PyData.int r.g (fun x=>!inL L x) (fun x=>⟨.leaf,.int x⟩) (st:=true) (aL (s:=.leaf) (ao rfl) rfl) (by simp) rfl (by omega) (fun t ht=>bJ (s:=.leaf) (ay (ao rfl) (ao rfl) pP)) fun t ht _=>⟨ao rfl,rfl⟩
 have t:=cG (bJ (s:=.leaf) (ay (bc (g:=aK) (d:=.int (r.g.length:Int)) (az (ao (i:=5) (d:=iL r.g) (Γ:=GH w L M r none none none) rfl) ak) (by simp)) (aQ (d:=.int 0)) KC.eq_int)) (cG (bJ (s:=.leaf) (ay (ao (i:=5) rfl) (uS (az (ao (i:=5) (d:=iL r.g) rfl) ak) hlr) (dH DV))) (bJ (s:=.leaf) (ay (bc (g:=aK) (d:=.int ((r.g.filter fun x=>!inL L x).length:Int)) (az c4 ak) (by simp)) (aQ (d:=.int 0)) DJ)))
 rw [yz] at t;have e:((((r.g.length:Int)==0)||(!eO r.g||decide (0<(r.g.filter fun x=>!inL L x).length))):Bool)=!oQ L r.g:=by
  have e1:((r.g.length:Int)==0)=r.g.isEmpty:=by cases r.g<;>simp;omega
  have e2:decide (0<(r.g.filter fun x=>!inL L x).length)=!r.g.all (inL L):=by
   rw [Bool.eq_iff_iff,decide_eq_true_eq,List.length_pos_iff];simp
  rw [e1,e2];unfold oQ
  cases r.g.isEmpty<;>cases eO r.g<;>cases r.g.all (inL L)<;>rfl
 rw [e] at t
 cases hc:oQ L r.g with
 | false=>
  rw [hc] at t;have:cV w L M r=false:=by unfold cV;rw [hc];rfl
  rw [this];exact aG (ai s1 (fA (aO t (fun _=>aE aQ rfl) nofun)))
 | true=>
  rw [hc] at t;obtain ⟨G,e1,e2,hin,hne,nd,hlen⟩:=tQ hL hc;have hlt:∀x∈G,x<w.n:=fun x hx=>hL.lt x (hin x hx)
  have hg:iL r.g=aq G:=by rw [gp,<-e1]
  have:cV w L M r=oP w L M G r.m:=by unfold cV;rw [hc,e2];rfl
  rw [this];have s2:bI _ (aD (eK (.bool false))) aC (GH w L M r none none none)=.nx (GH w L M r none none none):=aO t nofun fun _=>rfl
  obtain ⟨f1,f2⟩:=uF rm (i:=4) (body:=sX) (Inv:=fun Γ=>∃y4 y7 y8,Γ=GH w L M r y4 y7 y8) (c:=cR w L G r.m) (q:=⟨.leaf,.bool false⟩) G (GH w L M r none none none) (fun x hx Γ ⟨y4,y7,y8,hΓ⟩=>by
   subst hΓ;obtain ⟨h1,h2⟩:=zW (L:=L) (M:=M) ok hr hg (hlt x hx) y7 y8
   exact ⟨by simp,fun e=>let ⟨z7,z8,e⟩:=h1 e;⟨_,e,_,z7,z8,rfl⟩,fun e=>h2 e⟩) ⟨none,none,none,rfl⟩
  have w5:aw (aa 5) (GH w L M r none none none)=.ok ⟨G.map rm,true⟩ (GH w L M r none none none):=aL (s:=.leaf) (ao (d:=aq G) (by rw [<-hg];rfl)) rfl
  cases ha:G.all (cR w L G r.m) with
  | false=>
   have:oP w L M G r.m=false:=by
    cases hm:r.m with
    | none=>rw [hm,mh] at ha;exact ha
    | some c=>rw [hm,mf] at ha;simp only [oP];rw [Bool.and_assoc,ha,Bool.and_false]
   rw [this];exact aG (ai s1 (ai s2 (fA (bu w5 (f2 ha)))))
  | true=>
   obtain ⟨Γ',e3,y4,y7,y8,rfl⟩:=f1 ha;refine aG (ai s1 (ai s2 (ai (bu w5 e3) (aE (Γ1:=GH w L M r y4 y7 y8) ?_ rfl))))
   cases hm:r.m with
   | none=>
    rw [hm,mh] at ha;have:oP w L M G none=true:=ha
    rw [this];unfold uu aX;rw [ay (d:=.bool true) (ao (i:=6) (d:=mD r.m) rfl) (aQ (d:=.none)) (by rw [hm];rfl)]
    rfl
   | some c=>
    rw [hm,mf] at ha;have:oP w L M G (some c)=(false||M.contains c):=by simp only [oP];rw [Bool.and_assoc,ha,Bool.and_true];rfl
    rw [this];exact v_or (s:=.leaf) (ay (ao (i:=6) (d:=mD r.m) rfl) (aQ (d:=.none)) (by rw [hm];rfl)) (ay (ao (i:=6) (d:=mD r.m) rfl) (ao (i:=2) rfl) (oy hm (hr.str c hm) hMs))
end
noncomputable def lC {α β:Type} (step:β->α->Option β):β->List α->Option β
 | b,[]=>some b
 | b,a::r=>match step b a with
  | some b'=>lC step b' r
  | none=>none
theorem Ea {α β:Type} (en:α->D) (step:β->α->Option β) {Inv:β->Prop} {i:Nat} {body:FS} {G:β->Option PV->Ev} {q:PV} (hi:∀b x,i<(G b x).length) (hs:∀b x y,(G b x).set i y=G b y) :
  ∀(xs:List α) (b:β) (x:Option PV),(∀a∈xs,∀b,Inv b->(∀b',step b a=some b'->Inv b'/\body (G b (some ⟨.leaf,en a⟩))=.nx (G b' (some ⟨.leaf,en a⟩)))/\(step b a=none->body (G b (some ⟨.leaf,en a⟩))=.rt q))->Inv b ->
   (∀b',lC step b xs=some b'->Inv b'/\∃y,aR i body (xs.map en) (G b x)=.nx (G b' y))/\(lC step b xs=none->aR i body (xs.map en) (G b x)=.rt q)
 | [],b,x,_,hI=>⟨fun b' e=>by cases e;exact ⟨hI,x,rfl⟩,fun e=>nomatch e⟩
 | a::r,b,x,h,hI=>by
  obtain ⟨h1,h2⟩:=h a mem_cons_self b hI;have ef:∀o,body (G b (some ⟨.leaf,en a⟩))=o->aR i body ((a::r).map en) (G b x)=(match o with | .nx Γ1=>aR i body (r.map en) Γ1 | .ct Γ1=>aR i body (r.map en) Γ1 | .bk Γ1=>.nx Γ1 | .rt p=>.rt p | .er a b=>.er a b | .no=>.no):=fun o ho=>by
   (rw [map_cons,aR,if_pos (hi b x),hs,ho])<;>(cases o<;>rfl)
  cases e:step b a with
  | none=>
   refine ⟨fun b' z=>?_,fun _=>ef _ (h2 e)⟩
   rw [lC,e] at z
   cases z
  | some b2=>
   obtain ⟨i2,e2⟩:=h1 b2 e;have ih:=Ea en step hi hs r b2 (some ⟨.leaf,en a⟩) (fun c hc=>h c (mem_cons_of_mem _ hc)) i2
   rw [ef _ e2];have:lC step b (a::r)=lC step b2 r:=by rw [lC,e]
   rw [this];exact ih
section
variable {w:Wd} {R:List Nat} {M:List Str}
noncomputable abbrev lK (L:List Nat) (g:List Int):List Nat:=L.filter fun x=>!g.contains (x:Int)
noncomputable def b5 (w:Wd) (M:List Str) (L:List Nat) (r:FRow):Option (List Nat):=if cV w L M r then some (lK L r.g) else none
noncomputable abbrev sJ (w:Wd) (M:List Str) (L:List Nat) (rows:List FRow):Option (List Nat):=lC (b5 w M) L rows
noncomputable abbrev aW (rows:List FRow):D:=.list (rows.map FRow.enc)
theorem oB {M:List Str}:∀(rows:List FRow) {L K:List Nat},Std w.n L->sJ w M L rows=some K->Std w.n K/\∀r∈K,r∈L
 | [],L,K,h,e=>by cases e;exact ⟨h,fun _ z=>z⟩
 | r::rows,L,K,h,e=>by
  have e:lC (b5 w M) L (r::rows)=some K:=e
  rw [lC] at e
  cases hb:cV w L M r with
  | true=>
   have:b5 w M L r=some (lK L r.g):=by unfold b5;rw [hb];rfl
   rw [this] at e;obtain ⟨h1,h2⟩:=oB rows (h.filter _) e;exact ⟨h1,fun x hx=>(List.mem_filter.mp (h2 x hx)).1⟩
  | false=>
   have:b5 w M L r=none:=by unfold b5;rw [hb];rfl
   rw [this] at e
   cases e
theorem D3 {i j k:Nat} {L:List Nat} {r:FRow} (hi:Γ[i]?=some (some ⟨.leaf,aq L⟩)) (hj:Γ[j]?=some (some ⟨.leaf,r.enc⟩)) (hk:k<Γ.length) (hik:j≠k) (hl:L.length<=1000) :
  aj .leaf k (aw (aa i)) (aA ag (ax (aV true) (aa k) (af (aa j) (eK (.int 0))))) (aa k) Γ=.ok ⟨.lst .leaf,aq (lK L r.g)⟩ Γ:=by
 refine gL rm L (fun x=>!r.g.contains (x:Int)) (fun t=>⟨.leaf,rm t⟩) (st:=true) (aL (s:=.leaf) (ao hi) rfl) hk rfl (by omega) (fun t ht=>?_) fun t ht _=>⟨ao (getElem?_set_self hk),rfl⟩
 exact bJ (s:=.leaf) (ay (ao (getElem?_set_self hk)) (gK (j:=0) (ds:=[iL r.g,mD r.m]) (ao (d:=r.enc) (by rw [getElem?_set_ne (Ne.symm hik)];exact hj)) aQ rfl rfl rfl) EG)
noncomputable def GN:Option (List Nat)->D
 | none=>.none
 | some L=>aq L
theorem wy (ok:w.Ok) (hR:Std w.n R) (hM:∀c∈M,c∈aN) {rows:List FRow} (hr:∀r∈rows,r.Ok):dQ [w.enc,aq R,bw M,aW rows]=.ok ⟨.leaf,GN (sJ w M R rows)⟩:=by
 have h24:=ok.h24
 obtain ⟨f1,f2⟩:=Ea FRow.enc (b5 w M) (Inv:=fun L=>Std w.n L) (i:=5) (q:=⟨.leaf,.none⟩)
  (body:=(au (bI (bD (aA aZ (ar 4 bX (ab (aa 0) (ab (aa 4) (ab (aa 2) (ab (aa 5) ae))))))) (aD (eK .none)) aC) (aB false 4 (aj .leaf 6 (aw (aa 4)) (aA ag (ax (aV true) (aa 6) (af (aa 5) (eK (.int 0))))) (aa 6)))))
  (G:=fun L x=>[some ⟨.leaf,w.enc⟩,some ⟨.leaf,aq R⟩,some ⟨.leaf,bw M⟩,some ⟨.leaf,aW rows⟩,some ⟨.leaf,aq L⟩,x,none]) (fun _ _=>by simp) (fun _ _ _=>rfl) rows R none (fun r hrm L hL=>by
   have hll:=hL.len
   have t:=b4 (bW (s:=.leaf) (cH (n:=4) (Γ:=[some ⟨.leaf,w.enc⟩,some ⟨.leaf,aq R⟩,some ⟨.leaf,bw M⟩,some ⟨.leaf,aW rows⟩,some ⟨.leaf,aq L⟩,some ⟨.leaf,r.enc⟩,none]) (az (ao (i:=0) rfl) (az (ao (i:=4) rfl) (az (ao (i:=2) rfl) (az (ao (i:=5) rfl) ak)))) (wt ok hL hM (hr r hrm)) rfl rfl))
   unfold b5
   cases hb:cV w L M r with
   | true=>
    rw [hb] at t;refine ⟨fun b' e=>?_,nofun⟩
    cases e;exact ⟨hL.filter _,ai (aO t nofun fun _=>rfl) (dC (D3 rfl rfl (by simp) (by decide) (by omega)) rfl (by simp))⟩
   | false=>
    rw [hb] at t;exact ⟨(fun b' e=>nomatch e),fun _=>fA (aO t (fun _=>aE aQ rfl) nofun)⟩) hR
 have s1:aB false 4 (i9 (aa 1)) (bh 7 [w.enc,aq R,bw M,aW rows])=.nx [some ⟨.leaf,w.enc⟩,some ⟨.leaf,aq R⟩,some ⟨.leaf,bw M⟩,some ⟨.leaf,aW rows⟩,some ⟨.leaf,aq R⟩,none,none]:=dC (uh (ds:=R.map rm) (ao rfl) rfl) rfl (by simp [bh])
 have w3:aw (aa 3) [some ⟨.leaf,w.enc⟩,some ⟨.leaf,aq R⟩,some ⟨.leaf,bw M⟩,some ⟨.leaf,aW rows⟩,some ⟨.leaf,aq R⟩,none,none]=.ok ⟨rows.map FRow.enc,true⟩ [some ⟨.leaf,w.enc⟩,some ⟨.leaf,aq R⟩,some ⟨.leaf,bw M⟩,some ⟨.leaf,aW rows⟩,some ⟨.leaf,aq R⟩,none,none]:=aL (s:=.leaf) (ao rfl) rfl
 cases e:sJ w M R rows with
 | none=>exact aG (ai s1 (fA (bu w3 (f2 e))))
 | some K=>
  obtain ⟨_,y,e2⟩:=f1 K e;exact aG (ai s1 (ai (bu w3 e2) (aE (ao (i:=4) rfl) rfl)))
noncomputable def eD:Option Int->Option Int->Bool
 | some a,some b=>decide (a<b)
 | _,_=>false
theorem tN {a b:Option Int}:eC [zD a,zD b]=.ok ⟨.leaf,.bool (eD a b)⟩:=by
 refine aG ?_
 cases a with
 | none=>simp [du,bh,zD,eD,ue]
 | some a=>
  cases b with
  | none=>simp [du,bh,zD,eD,ue]
  | some b=>simp [du,bh,zD,eD,ue,KC.lt_int]
theorem qh (ok:w.Ok) (hl:rk.length=w.n) {r:Nat} (hr:r<w.n):cP [w.enc,bG rk,rm r]=.ok ⟨.lst .leaf,aq ((w.stp r).filter fun t=>eD (zA rk t) (zA rk r))⟩:=by
 refine aG (aE (gL rm (w.stp r) (fun t=>eD (zA rk t) (zA rk r)) (fun t=>⟨.leaf,rm t⟩) (st:=true) (aL (s:=.leaf) (yh ok rfl (ao rfl) hr) rfl) (by simp [bh]) rfl ok.z.len (fun t ht=>?_) fun t ht _=>⟨ao rfl,rfl⟩) rfl)
 exact bW (s:=.leaf) (cH (az (jI (ao rfl) (ao (d:=rm t) rfl) (by rw [hl];exact ok.stp_lt ht)) (az (jI (ao rfl) (ao (d:=rm r) rfl) (by omega)) ak)) tN rfl (by cases zA rk t<;>cases zA rk r<;>rfl))
noncomputable def fR (w:Wd) (K:List Nat) (c:Str) (rk:List (Option Int)) (r:Nat):Bool:=match zA rk r with
 | none=>!K.contains r
 | some z=>K.contains r&&(if (w.mks r).contains c then decide (z=0) else decide (0<z)&&(w.stp r).any fun t=>eD (zA rk t) (some z))
noncomputable def mw (w:Wd) (K:List Nat) (c:Str) (rk:List (Option Int)):Bool:=decide (rk.length=w.n)&&(List.range w.n).all (fR w K c rk)
theorem ip {l:List α} {p:α->Bool}:decide (0<(l.filter p).length)=l.any p:=by
 rw [Bool.eq_iff_iff,decide_eq_true_eq,List.length_pos_iff,any_eq_true];constructor
 ·intro h
  obtain ⟨x,hx⟩:=exists_mem_of_ne_nil _ h;exact ⟨x,List.mem_filter.mp hx⟩
 ·rintro ⟨x,h1,h2⟩ e
  have:=List.mem_filter.mpr ⟨h1,h2⟩
  rw [e] at this
  cases this
theorem qf (ok:w.Ok) {K:List Nat} {c:Str} (hc:PyData.strOk c=true) (hl:rk.length=w.n) {r:Nat} (hr:r<w.n):cy [w.enc,aq K,.str c,bG rk,rm r]=.ok ⟨.leaf,.bool (fR w K c rk r)⟩:=by
 have s5:aB false 5 (af (aa 3) (aa 4)) (bh 6 [w.enc,aq K,.str c,bG rk,rm r])=.nx [some ⟨.leaf,w.enc⟩,some ⟨.leaf,aq K⟩,some ⟨.leaf,.str c⟩,some ⟨.leaf,bG rk⟩,some ⟨.leaf,rm r⟩,some ⟨.leaf,zD (zA rk r)⟩]:=dC (jI (ao rfl) (ao (d:=rm r) rfl) (by omega)) (by cases zA rk r<;>rfl) (by simp [bh])
 have nn:bq false (zD (zA rk r)) .none=some (.bool (zA rk r).isNone):=by cases zA rk r<;>rfl
 have v4:=ay (g:=aV true) (ao (i:=4) (d:=rm r) (Γ:=[some ⟨.leaf,w.enc⟩,some ⟨.leaf,aq K⟩,some ⟨.leaf,.str c⟩,some ⟨.leaf,bG rk⟩,some ⟨.leaf,rm r⟩,some ⟨.leaf,zD (zA rk r)⟩]) rfl) (ao (i:=1) (d:=aq K) rfl) EF
 have v5:=ay (g:=bq false) (ao (i:=5) (d:=zD (zA rk r)) (Γ:=[some ⟨.leaf,w.enc⟩,some ⟨.leaf,aq K⟩,some ⟨.leaf,.str c⟩,some ⟨.leaf,bG rk⟩,some ⟨.leaf,rm r⟩,some ⟨.leaf,zD (zA rk r)⟩]) rfl) (aQ (d:=.none)) nn
 have t1:=cG (bJ (s:=.leaf) v4) (bJ (s:=.leaf) v5)
 unfold fR
 cases hz:zA rk r with
 | none=>
  rw [hz] at t1 v5 v4 s5
  have e:(!K.contains r||(none:Option Int).isNone)=true:=by simp
  rw [e] at t1;have:=v_and (s:=.leaf) v4 v5
  rw [show (!K.contains r&&(none:Option Int).isNone)=!K.contains r by simp] at this
  exact aG (ai s5 (fA (aO t1 (fun _=>aE this rfl) nofun)))
 | some z=>
  rw [hz] at t1 v5 v4 s5
  cases hk:K.contains r with
  | false=>
   rw [hk] at t1 v4
   have:=v_and (s:=.leaf) v4 v5
   exact aG (ai s5 (fA (aO t1 (fun _=>aE this rfl) nofun)))
  | true=>
   rw [hk] at t1;have t2:=bJ (s:=.leaf) (ay (g:=aV false) (ao (i:=2) (d:=.str c) (Γ:=[some ⟨.leaf,w.enc⟩,some ⟨.leaf,aq K⟩,some ⟨.leaf,.str c⟩,some ⟨.leaf,bG rk⟩,some ⟨.leaf,rm r⟩,some ⟨.leaf,zD (some z)⟩]) rfl) (AX ok (i:=0) rfl (ao (i:=4) rfl) hr) (xS hc (w9 ok r)))
   refine aG (ai s5 (ai (aO t1 nofun fun _=>rfl) ?_))
   cases hm:(w.mks r).contains c with
   | true=>
    rw [hm] at t2;refine fA (aO t2 (fun _=>aE (p:=⟨.leaf,.bool _⟩) (ay (ao (i:=5) rfl) aQ ((G5 (some z)).trans ?_)) rfl) nofun)
    simp
   | false=>
    rw [hm] at t2;have lw:=qh ok hl hr
    have:=v_and (s:=.leaf) (ay (g:=dW) (ao (i:=5) (d:=.int z) (Γ:=[some ⟨.leaf,w.enc⟩,some ⟨.leaf,aq K⟩,some ⟨.leaf,.str c⟩,some ⟨.leaf,bG rk⟩,some ⟨.leaf,rm r⟩,some ⟨.leaf,zD (some z)⟩]) rfl) (aQ (d:=.int 0)) (show _=some (PyData.bool (decide (0<z))) from rfl)) (ay (g:=dW) (bc (g:=aK) (d:=.int (((w.stp r).filter fun t=>eD (zA rk t) (zA rk r)).length:Int)) (az (cH (n:=3) (az (ao (i:=0) rfl) (az (ao (i:=3) rfl) (az (ao (i:=4) rfl) ak))) lw rfl rfl) ak) (by simp)) (aQ (d:=.int 0)) DJ)
    rw [ip,hz] at this;exact ai (aO t2 nofun fun _=>rfl) (aE this rfl)
theorem qe (ok:w.Ok) {K:List Nat} {c:Str} (hc:PyData.strOk c=true) (hb:rk.length<=1000):bz [w.enc,aq K,.str c,bG rk]=.ok ⟨.leaf,.bool (mw w K c rk)⟩:=by
 have h24:=ok.h24
 have lo:=ok.g.lo
 have l3:∀x,bb aK (ab (aa 3) ae) [some ⟨.leaf,w.enc⟩,some ⟨.leaf,aq K⟩,some ⟨.leaf,.str c⟩,some ⟨.leaf,bG rk⟩,x]=.ok ⟨.leaf,.int (rk.length:Int)⟩ [some ⟨.leaf,w.enc⟩,some ⟨.leaf,aq K⟩,some ⟨.leaf,.str c⟩,some ⟨.leaf,bG rk⟩,x]:=fun x=>bc (az (ao rfl) ak) (by simp)
 have l0:bb aK (ab (af (aa 0) (eK (.int 0))) ae) (bh 5 [w.enc,aq K,.str c,bG rk])=.ok ⟨.leaf,.int (w.n:Int)⟩ (bh 5 [w.enc,aq K,.str c,bG rk]):=bc (az (gK (j:=0) (ao rfl) aQ rfl rfl rfl) ak) (by simp [lo])
 have t:=bJ (s:=.leaf) (ay (l3 none) l0 (dH KC.eq_int))
 unfold mw;by_cases e:rk.length=w.n
 ·rw [e,beq_self_eq_true] at t
  rw [decide_eq_true e,Bool.true_and];refine aG (ai (aO t nofun fun _=>rfl) (aE (bc (az (mq rm (List.range w.n) (fun r=>⟨.leaf,.bool (fR w K c rk r)⟩) (st:=true) (mj (s:=.leaf) (n:=w.n) (by omega) (by rw [<-e];exact az (l3 none) ak)) (by simp [bh]) rfl (by simp;omega) fun r hr=>⟨cH (az (ao rfl) (az (ao rfl) (az (ao rfl) (az (ao rfl) (az (ao rfl) ak))))) (qf ok hc e (List.mem_range.mp hr)) rfl rfl,rfl⟩) ak) qC) rfl))
 ·have:((rk.length:Int)==(w.n:Int))=false:=by rw [beq_eq_false_iff_ne];omega
  rw [this] at t;rw [decide_eq_false e,Bool.false_and];exact aG (fA (aO t (fun _=>aE aQ rfl) nofun))
end
theorem iy {α:Type} (e1 e2:α->D) (f:α->PV) {i j:Nat} {fe:F1} {s:Sh} {Γ:Ev} (hΓ:∀x y,(((Γ.set i x).set j y).set i none).set j none=Γ):∀(xs:List α) (acc:List D),(∀a∈xs,fe ((Γ.set i (some ⟨.leaf,e1 a⟩)).set j (some ⟨.leaf,e2 a⟩))=.ok (f a) ((Γ.set i (some ⟨.leaf,e1 a⟩)).set j (some ⟨.leaf,e2 a⟩))/\coer s (f a)=true)->acc.length+xs.length<=10000 ->
  xi i j aH fe s (xs.map fun a=>(e1 a,e2 a)) Γ acc=.ok (acc++xs.map fun a=>(f a).d) Γ
 | [],acc,_,_=>by rw [map_nil,map_nil,append_nil];rfl
 | a::r,acc,h,hn=>by
  obtain ⟨h1,h2⟩:=h a mem_cons_self;have big:(10000:Nat)<=sizeLine:=by decide
  rw [length_cons] at hn;have hl:acc.length<sizeLine:=by omega
  rw [map_cons,xi,AG];dsimp only;rw [h1];dsimp only;rw [h2,decide_eq_true hl,Bool.and_self,if_pos rfl,hΓ,iy e1 e2 f hΓ r (acc++[(f a).d]) (fun b hb=>h b (mem_cons_of_mem _ hb)) (by rw [length_append,length_singleton];omega),append_assoc]
  rfl
theorem xk {l:List α} {f:α->D}:aK [.list (l.map f)]=some (.int (l.length:Int)):=by
 show some (PyData.int ((l.map f).length:Int))=_
 rw [length_map]
structure Pap where
 rows:List FRow
 kept:List Int
 ranks:List (List (Option Int))
noncomputable def Pap.enc (p:Pap):D:=.tuple [aW p.rows,iL p.kept,.list (p.ranks.map bG)]
structure Pap.Ok (p:Pap):Prop where
 rows:∀r∈p.rows,r.Ok
 ranks:∀k∈p.ranks,k.length<=1000
section
variable {w:Wd} {R:List Nat} {M:List Str}
noncomputable def mT (w:Wd) (R:List Nat) (M:List Str) (p:Pap):Bool:=match sJ w M R p.rows with
 | none=>false
 | some K=>decide (p.kept=bF K)&&decide (p.ranks.length=M.length)&&(K.all fun r=>(w.stp r).any fun t=>K.contains t)&&(M.zip p.ranks).all fun x=>mw w K x.1 x.2
theorem xH (ok:w.Ok) (hR:Std w.n R) (hr:bp [bw M]=.ok ⟨.leaf,.bool true⟩):bM [w.enc,aq R,bw M]=.ok ⟨.leaf,.none⟩:=by
 have c1:=ok.check
 have c2:=gB ok hR
 refine sA (Γ:=bh 3 [w.enc,aq R,bw M]) ?_
 simp [ff,bh,c1,c2,hr]
theorem sF {L:List (List Nat)}:j1 (L.map aq)=some (L.map fun l=>!l.isEmpty):=by
 induction L with
 | nil=>rfl
 | cons a r ih=>
  rw [map_cons,map_cons];show (j1 (r.map aq)).map (fun bs=>(!(a.map rm).isEmpty)::bs)=_
  rw [ih]
  cases a<;>rfl
noncomputable abbrev GP (w:Wd) (R:List Nat) (M:List Str) (p:Pap) (x4:Option PV):Ev:=[some ⟨.leaf,w.enc⟩,some ⟨.leaf,aq R⟩,some ⟨.leaf,bw M⟩,some ⟨.leaf,p.enc⟩,x4,none,none,none]
theorem qg (ok:w.Ok) (hR:Std w.n R) (hM:∀c∈M,c∈aN) (hr:bp [bw M]=.ok ⟨.leaf,.bool true⟩) (hl3:M.length<=100) {p:Pap} (hp:p.Ok):cA [w.enc,aq R,bw M,p.enc]=.ok ⟨.leaf,.bool (mT w R M p)⟩:=by
 have h24:=ok.h24
 have s1:dw (ar 3 bM (ab (aa 0) (ab (aa 1) (ab (aa 2) ae)))) (bh 8 [w.enc,aq R,bw M,p.enc])=.nx (GP w R M p none):=nL (cH (az (ao rfl) (az (ao rfl) (az (ao rfl) ak))) (xH ok hR hr) rfl rfl)
 have s2:aB false 4 (ar 4 dQ (ab (aa 0) (ab (aa 1) (ab (aa 2) (ab (af (aa 3) (eK (.int 0))) ae))))) (GP w R M p none)=.nx (GP w R M p (some ⟨.leaf,GN (sJ w M R p.rows)⟩)):=
  dC (cH (az (ao rfl) (az (ao rfl) (az (ao rfl) (az (gK (j:=0) (ds:=[aW p.rows,iL p.kept,.list (p.ranks.map bG)]) (ao (d:=p.enc) rfl) aQ rfl rfl rfl) ak)))) (wy ok hR hM hp.rows) rfl rfl) rfl (by simp)
 unfold mT
 cases e:sJ w M R p.rows with
 | none=>
  rw [e] at s2;refine aG (ai s1 (ai s2 (fA (aO (t:=true) (CF (bJ (s:=.leaf) (ay (ao (d:=.none) rfl) aQ rfl))) (fun _=>aE aQ rfl) nofun))))
 | some K=>
  rw [e] at s2;obtain ⟨hK,_⟩:=oB p.rows hR e;have hKl:=hK.len
  have i1:af (aa 3) (eK (.int 1)) (GP w R M p (some ⟨.leaf,aq K⟩))=.ok ⟨.leaf,iL p.kept⟩ (GP w R M p (some ⟨.leaf,aq K⟩)):=gK (j:=1) (ds:=[aW p.rows,iL p.kept,.list (p.ranks.map bG)]) (ao (d:=p.enc) rfl) aQ rfl rfl rfl
  have i2:af (aa 3) (eK (.int 2)) (GP w R M p (some ⟨.leaf,aq K⟩))=.ok ⟨.leaf,.list (p.ranks.map bG)⟩ (GP w R M p (some ⟨.leaf,aq K⟩)):=gK (j:=2) (ds:=[aW p.rows,iL p.kept,.list (p.ranks.map bG)]) (ao (d:=p.enc) rfl) aQ rfl rfl rfl
  have t:=cG (bJ (s:=.leaf) (ay (g:=bq false) (d:=.bool false) (ao (i:=4) (d:=aq K) (Γ:=GP w R M p (some ⟨.leaf,aq K⟩)) rfl) (aQ (d:=.none)) rfl)) (cG (bJ (s:=.leaf) (ay (g:=cw) i1 (ao (i:=4) (d:=aq K) rfl) (by rw [gp];exact dH DV))) (bJ (s:=.leaf) (ay (g:=cw) (bc (g:=aK) (d:=.int (p.ranks.length:Int)) (az i2 ak) xk) (bc (g:=aK) (d:=.int (M.length:Int)) (az (ao (i:=2) (d:=bw M) rfl) ak) xk) (dH KC.eq_int))))
  have et:(false||(!decide (p.kept=bF K)||!((p.ranks.length:Int)==(M.length:Int))))=!(decide (p.kept=bF K)&&decide (p.ranks.length=M.length)):=by
   have:((p.ranks.length:Int)==(M.length:Int))=decide (p.ranks.length=M.length):=by
    rw [Bool.eq_iff_iff,beq_iff_eq,decide_eq_true_eq];omega
   rw [this]
   cases decide (p.kept=bF K)<;>cases decide (p.ranks.length=M.length)<;>rfl
  rw [et] at t;show _=Res.ok ⟨.leaf,.bool (decide (p.kept=bF K)&&decide (p.ranks.length=M.length)&&(K.all fun r=>(w.stp r).any fun t=>K.contains t)&&(M.zip p.ranks).all fun x=>mw w K x.1 x.2)⟩
  cases hb:(decide (p.kept=bF K)&&decide (p.ranks.length=M.length)) with
  | false=>
   rw [hb] at t;exact aG (ai s1 (ai s2 (fA (aO t (fun _=>aE aQ rfl) nofun))))
  | true=>
   rw [hb] at t;have hlen:p.ranks.length=M.length:=of_decide_eq_true (Bool.and_eq_true_iff.mp hb).2
   rw [Bool.true_and];have ca:aj .leaf 5 (aw (aa 4)) aH (ar 3 bL (ab (aa 0) (ab (aa 4) (ab (br .leaf (ab (aa 5) ae)) ae)))) (GP w R M p (some ⟨.leaf,aq K⟩))=.ok ⟨.lst .leaf,.list ((K.map fun r=>dY w K [r]).map aq)⟩ (GP w R M p (some ⟨.leaf,aq K⟩)):=by
    rw [map_map];exact mq rm K (fun r=>⟨.lst .leaf,aq (dY w K [r])⟩) (st:=true) (aL (s:=.leaf) (ao rfl) rfl) (by simp) rfl (by omega) fun r hr=>⟨cH (az (ao rfl) (az (ao rfl) (az (nJ (s:=.leaf) (az (ao (d:=rm r) rfl) ak) rfl rfl rfl) ak))) (jw (G:=[r]) ok (fun x hx=>by rw [List.mem_singleton.mp hx];exact hK.lt r hr) (by simp)) rfl rfl,rfl⟩
   have t2:=b4 (bW (s:=.leaf) (bc (g:=jr) (d:=.bool (K.all fun r=>(w.stp r).any fun t=>K.contains t)) (az ca ak) (by
    show (j1 _).map _=_
    rw [sF];show some (PyData.bool _)=_
    congr 2
    rw [map_map,all_map,Bool.eq_iff_iff,all_eq_true,all_eq_true];refine forall_congr' fun r=>forall_congr' fun _=>?_
    show ((!(dY w K [r]).isEmpty)=true)↔_
    simp [dY,any_eq_true,filter_eq_nil_iff])))
   cases ha:(K.all fun r=>(w.stp r).any fun t=>K.contains t) with
   | false=>
    rw [ha] at t2;exact aG (ai s1 (ai s2 (ai (aO t nofun fun _=>rfl) (fA (aO t2 (fun _=>aE aQ rfl) nofun)))))
   | true=>
    rw [ha] at t2;rw [Bool.true_and];have zz:(M.map PyData.str).zip (p.ranks.map bG)=(M.zip p.ranks).map fun x=>(PyData.str x.1,bG x.2):=by rw [List.zip_map];rfl
    have g:=iy (fun x:Str×List (Option Int)=>PyData.str x.1) (fun x=>bG x.2) (fun x=>⟨.leaf,.bool (mw w K x.1 x.2)⟩) (i:=6) (j:=7) (fe:=ar 4 bz (ab (aa 0) (ab (aa 4) (ab (aa 6) (ab (aa 7) ae))))) (s:=.leaf) (Γ:=GP w R M p (some ⟨.leaf,aq K⟩)) (fun _ _=>rfl) (M.zip p.ranks) [] (fun x hx=>⟨cH (az (ao rfl) (az (ao rfl) (az (ao rfl) (az (ao rfl) ak)))) (qe ok (qK (hM x.1 (of_mem_zip hx).1)).1 (hp.ranks x.2 (of_mem_zip hx).2)) rfl rfl,rfl⟩) (by rw [List.length_zip];simp;omega)
    have cz:xZ .leaf 6 7 (ab (aa 2) (ab (af (aa 3) (eK (.int 2))) ae)) aH (ar 4 bz (ab (aa 0) (ab (aa 4) (ab (aa 6) (ab (aa 7) ae))))) (GP w R M p (some ⟨.leaf,aq K⟩))=.ok ⟨.lst .leaf,.list ((M.zip p.ranks).map fun x=>.bool (mw w K x.1 x.2))⟩ (GP w R M p (some ⟨.leaf,aq K⟩)):=by
     unfold xZ;rw [az (ao (i:=2) (d:=bw M) rfl) (az i2 ak)];show qH .leaf 6 7 _ _ [⟨.leaf,.list (M.map PyData.str)⟩,⟨.leaf,.list (p.ranks.map bG)⟩] _=_
     unfold qH;have o1:∀l:List D,dO ⟨.leaf,.list l⟩ l=true:=fun l=>rfl
     have o2:xj (GP w R M p (some ⟨.leaf,aq K⟩))[6]?=true:=rfl
     have o3:xj (GP w R M p (some ⟨.leaf,aq K⟩))[7]?=true:=rfl
     simp only [o1,o2,o3,length_map,hlen]
     rw [zz,g];rfl
    exact aG (ai s1 (ai s2 (ai (aO t nofun fun _=>rfl) (ai (aO t2 nofun fun _=>rfl) (aE (bc (az cz ak) qC) rfl)))))
end
section
variable {w:Wd} {R:List Nat} {M:List Str}
noncomputable def cN (K:List Nat) (rk:List (Option Int)) (r:Nat):Bool:=(zA rk r).isNone==!K.contains r
noncomputable def cK (w:Wd) (K:List Nat) (c:Str) (rk:List (Option Int)) (r:Nat):Bool:=match zA rk r with
 | none=>true
 | some z=>!decide (z<0)&&(decide (z=0)==(w.mks r).contains c)&&!(decide (0<z)&&(((w.stp r).filter fun t=>K.contains t).filter fun t=>eD (zA rk t) (some z)).isEmpty)
theorem vd {K:List Nat} (hK:∀r∈K,r<w.n) {c:Str} (hl:rk.length=w.n) (hst:∀r t,t∈w.stp r->t<w.n):((List.range w.n).all (cN K rk)&&K.all (cK w K c rk))=mw w K c rk:=by
 unfold mw;rw [decide_eq_true hl,Bool.true_and,Bool.eq_iff_iff,Bool.and_eq_true,all_eq_true,all_eq_true,all_eq_true];have low:(∀t,t<w.n->K.contains t=false->zA rk t=none)->∀r z,((((w.stp r).filter fun t=>K.contains t).filter fun t=>eD (zA rk t) (some z)).isEmpty)=!((w.stp r).any fun t=>eD (zA rk t) (some z)):=fun h r z=>by
  rw [Bool.eq_iff_iff,isEmpty_iff,filter_eq_nil_iff,Bool.not_eq_true',any_eq_false];constructor
  ·intro g t ht e
   cases hk:K.contains t with
   | true=>exact g t (List.mem_filter.mpr ⟨ht,hk⟩) e
   | false=>rw [h t (hst r t ht) hk] at e;cases e
  ·intro g t ht
   exact g t (List.mem_filter.mp ht).1
 constructor
 ·rintro ⟨h1,h2⟩ r hr
  have hn:=List.mem_range.mp hr
  have e1:(zA rk r).isNone=!K.contains r:=by simpa [cN] using h1 r hr
  have lw:=low fun t ht hk=>by
   have:=h1 t (List.mem_range.mpr ht)
   simp only [cN,hk,Bool.not_false,beq_iff_eq,Option.isNone_iff_eq_none] at this
   exact this
  unfold fR
  cases hz:zA rk r with
  | none=>rw [hz] at e1;exact e1.symm
  | some z=>
   rw [hz] at e1;have hk:K.contains r=true:=by simpa using e1
   have e2:=h2 r (by simpa using hk)
   unfold cK at e2;rw [hz] at e2;dsimp only at e2 ⊢
   rw [lw] at e2;rw [hk];simp only [Bool.and_eq_true,Bool.not_eq_true',decide_eq_false_iff_not,beq_iff_eq] at e2
   obtain ⟨⟨a1,a2⟩,a3⟩:=e2
   cases hm:(w.mks r).contains c with
   | true=>
    rw [hm] at a2;simpa using a2
   | false=>
    rw [hm] at a2;have:z≠0:=by simpa using a2
    have hp:0<z:=by omega
    rw [decide_eq_true hp] at a3 ⊢;simpa using a3
 ·intro h
  have h1:∀r∈List.range w.n,cN K rk r=true:=fun r hr=>by
   have:=h r hr
   unfold fR at this;unfold cN
   cases hz:zA rk r with
   | none=>rw [hz] at this;simpa using this
   | some z=>
    rw [hz] at this;have:=(Bool.and_eq_true_iff.mp this).1
    rw [this];rfl
  have lw:=low fun t ht hk=>by
   have:=h1 t (List.mem_range.mpr ht)
   simp only [cN,hk,Bool.not_false,beq_iff_eq,Option.isNone_iff_eq_none] at this
   exact this
  refine ⟨h1,fun r hr=>?_⟩
  have:=h r (List.mem_range.mpr (hK r hr))
  unfold fR at this;unfold cK
  cases hz:zA rk r with
  | none=>rfl
  | some z=>
   rw [hz] at this;dsimp only at this ⊢
   rw [lw];have:=(Bool.and_eq_true_iff.mp this).2
   cases hm:(w.mks r).contains c with
   | true=>
    rw [hm] at this;have:z=0:=by simpa using this
    subst this;rfl
   | false=>
    rw [hm] at this;simp only [Bool.false_eq_true,if_false,Bool.and_eq_true,decide_eq_true_eq] at this
    obtain ⟨a1,a2⟩:=this;rw [a2,decide_eq_false (by omega:¬z<0),decide_eq_false (by omega:¬z=0),decide_eq_true a1]
    rfl
noncomputable abbrev GK (w:Wd) (K:List Nat) (c:Str) (rk:List (Option Int)) (x4 x5 x6:Option PV):Ev:=[some ⟨.leaf,w.enc⟩,some ⟨.leaf,aq K⟩,some ⟨.leaf,.str c⟩,some ⟨.leaf,bG rk⟩,x4,x5,x6,none]
noncomputable abbrev sM:FS:=(au (aB false 5 (aj .leaf 7 (aw (af (af (aa 0) (eK (.int 2))) (aa 4))) (aA ag (ax (aV false) (aa 7) (aa 1))) (aa 7)))
  (au (aB false 6 (aj .leaf 7 (aw (aa 5)) (aA ag (ax ik (af (aa 3) (aa 7)) (af (aa 3) (aa 4)))) (aa 7)))
  (au (bI (cX (aA ag (ax ik (af (aa 3) (aa 4)) (eK (.int 0)))) (aA ag (ax cw (ax cJ (af (aa 3) (aa 4)) (eK (.int 0))) (ax (aV false) (aa 2) (af (af (aa 0) (eK (.int 1))) (aa 4)))))) (aD (eK (.bool false))) aC)
  (bI (cE (aA ag (ax dW (af (aa 3) (aa 4)) (eK (.int 0)))) (aA ag (ax cJ (aa 6) (br .leaf ae)))) (aD (eK (.bool false))) aC))))
theorem zM (ok:w.Ok) {K:List Nat} {c:Str} (hc:PyData.strOk c=true) (hl:rk.length=w.n) (hz:∀r,r<w.n->cN K rk r=true) {r:Nat} (hr:r<w.n) (hk:K.contains r=true) (x5 x6:Option PV) :
  (cK w K c rk r=true->∃y5 y6,sM (GK w K c rk (some ⟨.leaf,rm r⟩) x5 x6)=.nx (GK w K c rk (some ⟨.leaf,rm r⟩) y5 y6))/\(cK w K c rk r=false->sM (GK w K c rk (some ⟨.leaf,rm r⟩) x5 x6)=.rt ⟨.leaf,.bool false⟩):=by
 have h30:=nU ok r
 have some_of:∀t,t<w.n->K.contains t=true->∃z,zA rk t=some z:=fun t ht hk=>by
  have:=hz t ht
  simp only [cN,hk,Bool.not_true,beq_iff_eq,Option.isNone_eq_false_iff] at this
  exact Option.isSome_iff_exists.mp this
 obtain ⟨z,ez⟩:=some_of r hr hk;have c5:aj .leaf 7 (aw (af (af (aa 0) (eK (.int 2))) (aa 4))) (aA ag (ax (aV false) (aa 7) (aa 1))) (aa 7) (GK w K c rk (some ⟨.leaf,rm r⟩) x5 x6)=.ok ⟨.lst .leaf,aq ((w.stp r).filter fun t=>K.contains t)⟩ (GK w K c rk (some ⟨.leaf,rm r⟩) x5 x6):=
  gL rm (w.stp r) (fun t=>K.contains t) (fun t=>⟨.leaf,rm t⟩) (st:=true) (aL (s:=.leaf) (yh ok rfl (ao rfl) hr) rfl) (by simp) rfl ok.z.len (fun t ht=>bJ (s:=.leaf) (ay (ao rfl) (ao rfl) uA)) fun t ht _=>⟨ao rfl,rfl⟩
 have hA:∀t∈(w.stp r).filter fun t=>K.contains t,t<w.n/\∃y,zA rk t=some y:=fun t ht=>by
  obtain ⟨a,b⟩:=List.mem_filter.mp ht;exact ⟨ok.stp_lt a,some_of t (ok.stp_lt a) b⟩
 have hAl:((w.stp r).filter fun t=>K.contains t).length<=30:=Nat.le_trans (length_filter_le _ _) h30
 unfold cK;rw [ez];dsimp only;generalize ((w.stp r).filter fun t=>K.contains t)=A at c5 hA hAl
 have s5:aB false 5 _ (GK w K c rk (some ⟨.leaf,rm r⟩) x5 x6)=.nx (GK w K c rk (some ⟨.leaf,rm r⟩) (some ⟨.leaf,aq A⟩) x6):=dC c5 rfl (by simp)
 have iz:∀y5 y6,af (aa 3) (aa 4) (GK w K c rk (some ⟨.leaf,rm r⟩) y5 y6)=.ok ⟨.leaf,.int z⟩ (GK w K c rk (some ⟨.leaf,rm r⟩) y5 y6):=fun y5 y6=>by
  have:=jI (Γ:=GK w K c rk (some ⟨.leaf,rm r⟩) y5 y6) (rk:=rk) (ao (i:=3) rfl) (ao (i:=4) (d:=rm r) rfl) (by omega)
  rw [ez] at this;exact this
 have c6:aj .leaf 7 (aw (aa 5)) (aA ag (ax ik (af (aa 3) (aa 7)) (af (aa 3) (aa 4)))) (aa 7) (GK w K c rk (some ⟨.leaf,rm r⟩) (some ⟨.leaf,aq A⟩) x6)=.ok ⟨.lst .leaf,aq (A.filter fun t=>eD (zA rk t) (some z))⟩ (GK w K c rk (some ⟨.leaf,rm r⟩) (some ⟨.leaf,aq A⟩) x6):=by
  refine gL rm A (fun t=>eD (zA rk t) (some z)) (fun t=>⟨.leaf,rm t⟩) (st:=true) (aL (s:=.leaf) (ao rfl) rfl) (by simp) rfl (by omega) (fun t ht=>?_) fun t ht _=>⟨ao rfl,rfl⟩
  obtain ⟨h1,y,h2⟩:=hA t ht;refine bJ (s:=.leaf) (ay (jI (rk:=rk) (ao rfl) (ao (d:=rm t) rfl) (by omega)) (jI (rk:=rk) (ao rfl) (ao (d:=rm r) rfl) (by omega)) ?_)
  rw [h2,ez];exact KC.lt_int
 have s6:aB false 6 _ (GK w K c rk (some ⟨.leaf,rm r⟩) (some ⟨.leaf,aq A⟩) x6)=.nx (GK w K c rk (some ⟨.leaf,rm r⟩) (some ⟨.leaf,aq A⟩) (some ⟨.leaf,aq (A.filter fun t=>eD (zA rk t) (some z))⟩)):=dC c6 rfl (by simp)
 generalize (A.filter fun t=>eD (zA rk t) (some z))=B at s6
 have t1:=cG (bJ (s:=.leaf) (ay (g:=ik) (iz (some ⟨.leaf,aq A⟩) (some ⟨.leaf,aq B⟩)) (aQ (d:=.int 0)) KC.lt_int)) (bJ (s:=.leaf) (ay (g:=cw) (ay (g:=cJ) (iz (some ⟨.leaf,aq A⟩) (some ⟨.leaf,aq B⟩)) (aQ (d:=.int 0)) KC.eq_int) (ay (g:=aV false) (ao (i:=2) (d:=.str c) rfl) (AX ok (i:=0) rfl (ao (i:=4) rfl) hr) (xS hc (w9 ok r))) (GS _ _)))
 have t2:=jD (bJ (s:=.leaf) (ay (g:=dW) (iz (some ⟨.leaf,aq A⟩) (some ⟨.leaf,aq B⟩)) (aQ (d:=.int 0)) (show _=some (PyData.bool (decide (0<z))) from rfl))) (bJ (s:=.leaf) (ay (g:=cJ) (ao (i:=6) (d:=aq B) rfl) (nJ (s:=.leaf) ak rfl rfl rfl) oK))
 have e1:(decide (z<0)||((z==0) != (w.mks r).contains c))=!(!decide (z<0)&&(decide (z=0)==(w.mks r).contains c)):=by
  have:(z==0)=decide (z=0):=by rw [Bool.eq_iff_iff];simp
  rw [this]
  cases decide (z<0)<;>cases decide (z=0)<;>cases (w.mks r).contains c<;>rfl
 rw [e1] at t1
 cases h1:(!decide (z<0)&&(decide (z=0)==(w.mks r).contains c)) with
 | false=>
  rw [h1] at t1;exact ⟨nofun,fun _=>ai s5 (ai s6 (fA (aO t1 (fun _=>aE aQ rfl) nofun)))⟩
 | true=>
  rw [h1] at t1;refine ⟨fun e=>⟨_,_,ai s5 (ai s6 (ai (aO t1 nofun fun _=>rfl) (aO t2 (fun q=>?_) fun _=>rfl)))⟩,fun e=>ai s5 (ai s6 (ai (aO t1 nofun fun _=>rfl) (aO t2 (fun _=>aE aQ rfl) fun q=>?_)))⟩
  ·rw [q] at e;cases e
  ·rw [q] at e;cases e
theorem m9 (ok:w.Ok) {K:List Nat} (hK:Std w.n K) {c:Str} (hc:PyData.strOk c=true) (hb:rk.length<=1000):bZ [w.enc,aq K,.str c,bG rk]=.ok ⟨.leaf,.bool (mw w K c rk)⟩:=by
 have h24:=ok.h24
 have lo:=ok.g.lo
 have l3:∀x4 x5 x6,bb aK (ab (aa 3) ae) (GK w K c rk x4 x5 x6)=.ok ⟨.leaf,.int (rk.length:Int)⟩ (GK w K c rk x4 x5 x6):=fun _ _ _=>bc (az (ao rfl) ak) xk
 have l0:bb aK (ab (af (aa 0) (eK (.int 0))) ae) (GK w K c rk none none none)=.ok ⟨.leaf,.int (w.n:Int)⟩ (GK w K c rk none none none):=bc (az (gK (j:=0) (ao rfl) aQ rfl rfl rfl) ak) (by simp [lo])
 have t:=bJ (s:=.leaf) (ay (l3 none none none) l0 (dH KC.eq_int))
 by_cases e:rk.length=w.n
 ·rw [e,beq_self_eq_true] at t
  rw [<-vd (c:=c) hK.lt e fun r t ht=>ok.stp_lt ht]
  have s1:bI _ (aD (eK (.bool false))) aC (GK w K c rk none none none)=.nx (GK w K c rk none none none):=aO t nofun fun _=>rfl
  obtain ⟨f1,f2⟩:=uF rm (i:=4) (body:=bI (aA ag (ax cw (ax (bq false) (af (aa 3) (aa 4)) (eK .none)) (ax (aV true) (aa 4) (aa 1)))) (aD (eK (.bool false))) aC) (Inv:=fun Γ=>∃y4,Γ=GK w K c rk y4 none none) (c:=cN K rk) (q:=⟨.leaf,.bool false⟩) (List.range w.n) (GK w K c rk none none none) (fun x hx Γ ⟨y4,hΓ⟩=>by
   subst hΓ;have hx:=List.mem_range.mp hx
   have nn:bq false (zD (zA rk x)) .none=some (.bool (zA rk x).isNone):=by cases zA rk x<;>rfl
   have tt:=bJ (s:=.leaf) (ay (g:=cw) (ay (g:=bq false) (jI (Γ:=GK w K c rk (some ⟨.leaf,rm x⟩) none none) (rk:=rk) (ao (i:=3) rfl) (ao (i:=4) (d:=rm x) rfl) (by omega)) (aQ (d:=.none)) nn) (ay (g:=aV true) (ao (i:=4) (d:=rm x) rfl) (ao (i:=1) (d:=aq K) rfl) EF) (GS _ _))
   have:((zA rk x).isNone != !K.contains x)=!cN K rk x:=by unfold cN;cases (zA rk x).isNone<;>cases K.contains x<;>rfl
   rw [this] at tt;refine ⟨by simp,fun h=>⟨_,aO tt (fun z=>?_) fun _=>rfl,_,rfl⟩,fun h=>aO tt (fun _=>aE aQ rfl) fun z=>?_⟩
   ·rw [h] at z;cases z
   ·rw [h] at z;cases z) ⟨none,rfl⟩
  have wr:j5 (ab (bb aK (ab (aa 3) ae)) ae) (GK w K c rk none none none)=.ok ⟨(List.range w.n).map rm,true⟩ (GK w K c rk none none none):=mj (s:=.leaf) (n:=w.n) (by omega) (by rw [<-e];exact az (l3 _ _ _) ak)
  cases ha:(List.range w.n).all (cN K rk) with
  | false=>exact aG (ai s1 (fA (bu wr (f2 ha))))
  | true=>
   obtain ⟨_,e2,y4,rfl⟩:=f1 ha;have hz:∀r,r<w.n->cN K rk r=true:=fun r hr=>List.all_eq_true.mp ha r (List.mem_range.mpr hr)
   obtain ⟨g1,g2⟩:=uF rm (i:=4) (body:=sM) (Inv:=fun Γ=>∃y4 y5 y6,Γ=GK w K c rk y4 y5 y6) (c:=cK w K c rk) (q:=⟨.leaf,.bool false⟩) K (GK w K c rk y4 none none) (fun x hx Γ ⟨y4,y5,y6,hΓ⟩=>by
    subst hΓ;obtain ⟨h1,h2⟩:=zM ok hc e hz (hK.lt x hx) (by simpa using hx) y5 y6
    exact ⟨by simp,fun q=>let ⟨z5,z6,q⟩:=h1 q;⟨_,q,_,z5,z6,rfl⟩,fun q=>h2 q⟩) ⟨y4,none,none,rfl⟩
   have w1:aw (aa 1) (GK w K c rk y4 none none)=.ok ⟨K.map rm,true⟩ (GK w K c rk y4 none none):=aL (s:=.leaf) (ao rfl) rfl
   rw [Bool.true_and]
   cases hb2:K.all (cK w K c rk) with
   | false=>exact aG (ai s1 (ai (bu wr e2) (fA (bu w1 (g2 hb2)))))
   | true=>
    obtain ⟨_,e3,z4,z5,z6,rfl⟩:=g1 hb2;exact aG (ai s1 (ai (bu wr e2) (ai (bu w1 e3) (aE aQ rfl))))
 ·have:((rk.length:Int)==(w.n:Int))=false:=by rw [beq_eq_false_iff_ne];omega
  rw [this] at t;have:mw w K c rk=false:=by unfold mw;rw [decide_eq_false e];rfl
  rw [this];exact aG (fA (aO t (fun _=>aE aQ rfl) nofun))
theorem oV {ranks:List (List (Option Int))} (h:ranks.length=M.length):M.zip ranks=(List.range M.length).map fun k=>(M.getD k "",ranks.getD k []):=by
 apply List.ext_getElem
 ·simp [h]
 ·intro k h1 h2
  have hk:k<M.length:=by simpa using h2
  simp [getD_eq_getElem?_getD,getElem?_eq_getElem hk,getElem?_eq_getElem (show k<ranks.length by omega)]
noncomputable abbrev GQ (w:Wd) (R:List Nat) (M:List Str) (p:Pap) (x4 x5 x6:Option PV):Ev:=[some ⟨.leaf,w.enc⟩,some ⟨.leaf,aq R⟩,some ⟨.leaf,bw M⟩,some ⟨.leaf,p.enc⟩,x4,x5,x6,some ⟨.leaf,aW p.rows⟩,some ⟨.leaf,iL p.kept⟩,some ⟨.leaf,.list (p.ranks.map bG)⟩,none,none]
theorem nc (ok:w.Ok) (hR:Std w.n R) (hM:∀c∈M,c∈aN) (hl3:M.length<=100) {p:Pap} (hp:p.Ok):cB [w.enc,aq R,bw M,p.enc]=.ok ⟨.leaf,.bool (mT w R M p)⟩:=by
 have h24:=ok.h24
 have s0:dD [7,8,9] (aa 3) (bh 12 [w.enc,aq R,bw M,p.enc])=.nx (GQ w R M p none none none):=qO (ao (d:=p.enc) rfl) rfl rfl rfl
 have s1:aB false 4 (i9 (aa 1)) (GQ w R M p none none none)=.nx (GQ w R M p (some ⟨.leaf,aq R⟩) none none):=dC (uh (ds:=R.map rm) (ao rfl) rfl) rfl (by simp)
 obtain ⟨f1,f2⟩:=Ea FRow.enc (b5 w M) (Inv:=fun L=>Std w.n L) (i:=5) (q:=⟨.leaf,.bool false⟩)
  (body:=(au (bI (bD (aA aZ (ar 4 bN (ab (aa 0) (ab (aa 4) (ab (aa 2) (ab (aa 5) ae))))))) (aD (eK (.bool false))) aC) (aB false 4 (aj .leaf 6 (aw (aa 4)) (aA ag (ax (aV true) (aa 6) (af (aa 5) (eK (.int 0))))) (aa 6)))))
  (G:=fun L x=>GQ w R M p (some ⟨.leaf,aq L⟩) x none) (fun _ _=>by simp) (fun _ _ _=>rfl) p.rows R none (fun r hrm L hL=>by
   have hll:=hL.len
   have t:=b4 (bW (s:=.leaf) (cH (n:=4) (Γ:=GQ w R M p (some ⟨.leaf,aq L⟩) (some ⟨.leaf,r.enc⟩) none) (az (ao (i:=0) rfl) (az (ao (i:=4) rfl) (az (ao (i:=2) rfl) (az (ao (i:=5) rfl) ak)))) (tM ok hL hM (hp.rows r hrm)) rfl rfl))
   unfold b5
   cases hb:cV w L M r with
   | true=>
    rw [hb] at t;refine ⟨fun b' e=>?_,nofun⟩
    cases e;exact ⟨hL.filter _,ai (aO t nofun fun _=>rfl) (dC (D3 rfl rfl (by simp) (by decide) (by omega)) rfl (by simp))⟩
   | false=>
    rw [hb] at t;exact ⟨(fun b' e=>nomatch e),fun _=>fA (aO t (fun _=>aE aQ rfl) nofun)⟩) hR
 have w7:aw (aa 7) (GQ w R M p (some ⟨.leaf,aq R⟩) none none)=.ok ⟨p.rows.map FRow.enc,true⟩ (GQ w R M p (some ⟨.leaf,aq R⟩) none none):=aL (s:=.leaf) (ao rfl) rfl
 unfold mT
 cases e:sJ w M R p.rows with
 | none=>exact aG (ai s0 (ai s1 (fA (bu w7 (f2 e)))))
 | some K=>
  obtain ⟨hK,y5,e2⟩:=f1 K e;have hKl:=hK.len
  have t:=cG (bJ (s:=.leaf) (ay (g:=cw) (ao (i:=4) (d:=aq K) (Γ:=GQ w R M p (some ⟨.leaf,aq K⟩) y5 none) rfl) (ao (i:=8) (d:=iL p.kept) rfl) (by rw [gp];exact dH DV))) (bJ (s:=.leaf) (ay (g:=cw) (bc (g:=aK) (d:=.int (p.ranks.length:Int)) (az (ao (i:=9) rfl) ak) xk) (bc (g:=aK) (d:=.int (M.length:Int)) (az (ao (i:=2) (d:=bw M) rfl) ak) xk) (dH KC.eq_int)))
  have et:(!decide (bF K=p.kept)||!((p.ranks.length:Int)==(M.length:Int)))=!(decide (p.kept=bF K)&&decide (p.ranks.length=M.length)):=by
   have:((p.ranks.length:Int)==(M.length:Int))=decide (p.ranks.length=M.length):=by
    rw [Bool.eq_iff_iff,beq_iff_eq,decide_eq_true_eq];omega
   rw [this,show decide (bF K=p.kept)=decide (p.kept=bF K) from decide_eq_decide.mpr ⟨Eq.symm,Eq.symm⟩]
   cases decide (p.kept=bF K)<;>cases decide (p.ranks.length=M.length)<;>rfl
  rw [et] at t;show _=Res.ok ⟨.leaf,.bool (decide (p.kept=bF K)&&decide (p.ranks.length=M.length)&&(K.all fun r=>(w.stp r).any fun t=>K.contains t)&&(M.zip p.ranks).all fun x=>mw w K x.1 x.2)⟩
  cases hb:(decide (p.kept=bF K)&&decide (p.ranks.length=M.length)) with
  | false=>
   rw [hb] at t;exact aG (ai s0 (ai s1 (ai (bu w7 e2) (fA (aO t (fun _=>aE aQ rfl) nofun)))))
  | true=>
   rw [hb] at t;have hlen:p.ranks.length=M.length:=of_decide_eq_true (Bool.and_eq_true_iff.mp hb).2
   have hkept:p.kept=bF K:=of_decide_eq_true (Bool.and_eq_true_iff.mp hb).1
   have k8:∀x6,(GQ w R M p (some ⟨.leaf,aq K⟩) y5 x6)[8]?=some (some ⟨.leaf,aq K⟩):=fun x6=>by
    show some (some (⟨.leaf,iL p.kept⟩:PV))=_
    rw [hkept,<-gp]
   rw [Bool.true_and];have s2:bI _ (aD (eK (.bool false))) aC (GQ w R M p (some ⟨.leaf,aq K⟩) y5 none)=.nx (GQ w R M p (some ⟨.leaf,aq K⟩) y5 none):=aO t nofun fun _=>rfl
   obtain ⟨g1,g2⟩:=uF rm (i:=6) (body:=bI (aA ag (ax cJ (bb aK (ab (aj .leaf 11 (aw (af (af (aa 0) (eK (.int 2))) (aa 6))) (aA ag (ax (aV false) (aa 11) (aa 8))) (aa 11)) ae)) (eK (.int 0)))) (aD (eK (.bool false))) aC) (Inv:=fun Γ=>∃y6,Γ=GQ w R M p (some ⟨.leaf,aq K⟩) y5 y6) (c:=fun r=>(w.stp r).any fun t=>K.contains t) (q:=⟨.leaf,.bool false⟩) K (GQ w R M p (some ⟨.leaf,aq K⟩) y5 none) (fun x hx Γ ⟨y6,hΓ⟩=>by
    subst hΓ;have c11:aj .leaf 11 (aw (af (af (aa 0) (eK (.int 2))) (aa 6))) (aA ag (ax (aV false) (aa 11) (aa 8))) (aa 11) (GQ w R M p (some ⟨.leaf,aq K⟩) y5 (some ⟨.leaf,rm x⟩))=.ok ⟨.lst .leaf,aq ((w.stp x).filter fun t=>K.contains t)⟩ (GQ w R M p (some ⟨.leaf,aq K⟩) y5 (some ⟨.leaf,rm x⟩)):=
     gL rm (w.stp x) (fun t=>K.contains t) (fun t=>⟨.leaf,rm t⟩) (st:=true) (aL (s:=.leaf) (yh ok rfl (ao rfl) (hK.lt x hx)) rfl) (by simp) rfl ok.z.len (fun t ht=>bJ (s:=.leaf) (ay (ao rfl) (ao (d:=aq K) (k8 (some ⟨.leaf,rm x⟩))) uA)) fun t ht _=>⟨ao rfl,rfl⟩
    have tt:=bJ (s:=.leaf) (ay (g:=cJ) (bc (g:=aK) (d:=.int (((w.stp x).filter fun t=>K.contains t).length:Int)) (az c11 ak) xk) (aQ (d:=.int 0)) KC.eq_int)
    have:((((w.stp x).filter fun t=>K.contains t).length:Int)==0)=!((w.stp x).any fun t=>K.contains t):=by
     rw [<-ip]
     cases ((w.stp x).filter fun t=>K.contains t).length with
     | zero=>rfl
     | succ n=>rw [decide_eq_true (Nat.succ_pos n),beq_eq_false_iff_ne.mpr (by omega)];rfl
    rw [this] at tt;refine ⟨by simp,fun h=>⟨_,aO tt (fun z=>?_) fun _=>rfl,_,rfl⟩,fun h=>aO tt (fun _=>aE aQ rfl) fun z=>?_⟩
    ·rw [h] at z;cases z
    ·rw [h] at z;cases z) ⟨none,rfl⟩
   have w8:aw (aa 8) (GQ w R M p (some ⟨.leaf,aq K⟩) y5 none)=.ok ⟨K.map rm,true⟩ (GQ w R M p (some ⟨.leaf,aq K⟩) y5 none):=aL (s:=.leaf) (ao (d:=aq K) (k8 _)) rfl
   cases ha:(K.all fun r=>(w.stp r).any fun t=>K.contains t) with
   | false=>exact aG (ai s0 (ai s1 (ai (bu w7 e2) (ai s2 (fA (bu w8 (g2 ha)))))))
   | true=>
    obtain ⟨_,e3,y6,rfl⟩:=g1 ha;rw [Bool.true_and,oV hlen,all_map];refine aG (ai s0 (ai s1 (ai (bu w7 e2) (ai s2 (ai (bu w8 e3) (aE (bc (az (mq rm (List.range M.length) (fun k=>⟨.leaf,.bool (mw w K (M.getD k "") (p.ranks.getD k []))⟩) (st:=true) (mj (s:=.leaf) (n:=M.length) (by omega) (az (bc (az (ao rfl) ak) xk) ak)) (by simp) rfl (by simp;omega) fun k hk=>⟨?_,rfl⟩) ak) qC) rfl))))))
    have hk:=List.mem_range.mp hk
    have m1:M[k]?=some (M.getD k ""):=by rw [getD_eq_getElem?_getD,getElem?_eq_getElem hk];rfl
    have m2:p.ranks[k]?=some (p.ranks.getD k []):=by rw [getD_eq_getElem?_getD,getElem?_eq_getElem (by omega)];rfl
    refine cH (az (ao rfl) (az (ao (d:=aq K) (k8 y6)) (az (qI (j:=k) (ds:=M.map PyData.str) (ao rfl) (ao rfl) (wX (by rw [length_map];exact hk)) (by rw [getElem?_map,m1];rfl) rfl) (az (qI (j:=k) (ds:=p.ranks.map bG) (ao rfl) (ao rfl) (wX (by rw [length_map];omega)) (by rw [getElem?_map,m2];rfl) rfl) ak)))) (m9 ok hK (qK (hM _ (mem_of_getElem? m1))).1 (hp.ranks _ (mem_of_getElem? m2))) rfl rfl
end
section
variable {w:Wd} {R L:List Nat} {M:List Str}
theorem C0 {G:List Nat}:(bF G).map Int.toNat=G:=by
 show (G.map fun t:Nat=>(t:Int)).map Int.toNat=G
 rw [map_map];refine (map_congr_left fun x _=>?_).trans (List.map_id G)
 show ((x:Int)).toNat=id x
 simp
theorem tR (hL:Std w.n L) {p:Nat->Bool} (hne:L.filter p≠[]):oQ L (bF (L.filter p))=true:=by
 simp only [oQ,Bool.and_eq_true,all_eq_true]
 refine ⟨⟨?_,?_⟩,fun x hx=>?_⟩
 ·cases h:L.filter p with
  | nil=>exact absurd h hne
  | cons a r=>rfl
 ·unfold eO
  refine decide_eq_true ?_
  show ((L.filter p).map fun t:Nat=>(t:Int)).Pairwise (· < ·)
  rw [pairwise_map];exact (hL.filter p).sorted.imp fun h=>by omega
 ·obtain ⟨r,hr,rfl⟩:=List.mem_map.mp hx
  have:=(List.mem_filter.mp hr).1
  unfold inL;rw [contains_iff_mem];exact List.mem_map.mpr ⟨r,this,rfl⟩
theorem oJ {p:Nat->Bool}:lK L (bF (L.filter p))=L.filter fun x=>!(L.filter p).contains x:=by
 refine filter_congr fun x hx=>?_
 congr 1
 rw [Bool.eq_iff_iff,contains_iff_mem,contains_iff_mem,mem_map];exact ⟨fun ⟨a,h,e⟩=>(show a=x by omega)▸h,fun h=>⟨x,h,rfl⟩⟩
theorem wu (ok:w.Ok) (hM:∀c∈M,c∈aN) (hs:Std w.n L) :
  (b9 [w.enc,aq L,bw M]=.ok ⟨.leaf,.none⟩/\fX w M L)\/(∃off o,b9 [w.enc,aq L,bw M]=.ok ⟨.tup [.lst .leaf,.leaf],(FRow.mk (bF off) o).enc⟩/\(FRow.mk (bF off) o).Ok/\(∀c,o=some c->c∈M)/\cV w L M ⟨bF off,o⟩=true/\lK L (bF off)=(L.filter fun x=>!off.contains x)/\ua w M L off):=by
 have h24:=ok.h24
 have hl:=hs.len
 have enc:∀(off:List Nat) (o:Option Str),(FRow.mk (bF off) o).enc=.tuple [aq off,mD o]:=fun off o=>by unfold FRow.enc;rw [<-gp]
 have e1:aj .leaf 7 (aw (aa 1)) (bD (aA aZ (bb (b3 true) (ab (aj .leaf 8 (aw (af (af (aa 0) (eK (.int 2))) (aa 7))) aH (ax (aV false) (aa 8) (aa 1))) ae)))) (aa 7) (bh 9 [w.enc,aq L,bw M])=.ok ⟨.lst .leaf,.list ((L.filter fun r=>!(w.stp r).any fun t=>L.contains t).map fun t=>rm t)⟩ (bh 9 [w.enc,aq L,bw M]):=by
  refine gL rm L (fun r=>!(w.stp r).any fun t=>L.contains t) (fun t=>⟨.leaf,rm t⟩) (st:=true) (by simp [bh]) (by simp [bh]) rfl (by omega) (fun r hr=>?_) (fun t ht _=>?_)
  ·have a2:=ok.at2 (hs.lt r hr)
   have c2:aj .leaf 8 (aw (af (af (aa 0) (eK (.int 2))) (aa 7))) aH (ax (aV false) (aa 8) (aa 1)) ((bh 9 [w.enc,aq L,bw M]).set 7 (some ⟨.leaf,rm r⟩))=.ok ⟨.lst .leaf,.list ((w.stp r).map fun t=>.bool (L.contains t))⟩ ((bh 9 [w.enc,aq L,bw M]).set 7 (some ⟨.leaf,rm r⟩)):=by
    refine mq rm (w.stp r) (fun t=>⟨.leaf,.bool (L.contains t)⟩) (st:=true) (by simp [bh,Wd.enc,dS,a2]) (by simp [bh]) rfl ok.z.len (fun t ht=>⟨?_,rfl⟩)
    exact ay (ao rfl) (ao rfl) uA
   exact b4 (bW (s:=.leaf) (bc (az c2 ak) AJ))
  ·simp [bh]
 by_cases q:(L.filter fun r=>!(w.stp r).any fun t=>L.contains t)=[]
 ·rw [q] at e1
  have hc:∀r∈L,∃t∈w.stp r,t∈L:=fun r hr=>by
   have:=List.filter_eq_nil_iff.mp q r hr
   simpa using this
  have s1:aB true 3 _ (bh 9 [w.enc,aq L,bw M])=.nx (KQ.GRo w M L none none none):=mE e1 rfl (by simp [bh])
  have s2:bI (aA aZ (aa 3)) (aD (bQ (ab (bV 3) (ab (eK .none) ae)))) aC (KQ.GRo w M L none none none)=.nx (KQ.GRo w M L none none none):=by simp
  rcases KQ.ro_for ok (M0:=M) hs M hM none none none with ⟨⟨z4,z5,z6,e2⟩,h2⟩ | ⟨c,hcM,rk,R,q',e2⟩
  ·refine .inl ⟨aG (ai s1 (ai s2 (ai (bu (aL (ds:=M.map .str) (ao rfl) rfl) e2) (aE aQ rfl)))),hc,fun c hcM S h3 h4 r hr=>?_⟩
   obtain ⟨rk,R,hall⟩:=h2 c hcM;have:r∈L/\S r:=R.min (S:=fun r=>r∈L/\S r) (fun r t ht=>ok.stp_lt ht) (fun r _ hg=>by
     obtain ⟨g1,g2⟩:=List.mem_filter.mp hg;exact ⟨g1,h3 r g1 (by simpa using g2)⟩) (fun r _ ht hl=>by
     obtain ⟨t,g1,g2,g3⟩:=led_t.mp hl;exact ⟨ht,h4 r ht ⟨t,g1,g2,g3⟩⟩) (hs.lt r hr) (hall r hr)
   exact this.2
  ·have A6:∀r,r∈(L.filter fun r=>(bf rk r).isNone)↔r∈L/\bf rk r=none:=fun r=>by rw [mem_filter,Option.isNone_iff_eq_none]
   refine .inr ⟨L.filter fun r=>(bf rk r).isNone,some c,?_,⟨?_,fun c' e=>by cases e;exact (qK (hM c hcM)).1⟩,(fun c' e=>by cases e;exact hcM),?_,oJ,q',fun r hr=>(List.mem_filter.mp hr).1,fun Rm X hX hXL r hr hx=>?_⟩
   ·rw [enc]
    exact aG (ai s1 (ai s2 (fA (bu (aL (ds:=M.map .str) (ao rfl) rfl) e2))))
   ·show (bF _).length<=60
    rw [length_map];exact Nat.le_trans (length_filter_le _ _) (by omega)
   ·unfold cV
    rw [tR hs q',Bool.true_and,C0];simp only [oP,Bool.and_eq_true,Bool.not_eq_true',any_eq_false,all_eq_true,List.mem_flatMap]
    refine ⟨⟨by simpa using hcM,fun r hr hm=>?_⟩,fun t ⟨r,hr,ht⟩=>?_⟩
    ·obtain ⟨g1,g2⟩:=(A6 r).mp hr
     exact R.goal_ok (hs.lt r g1) (List.mem_filter.mpr ⟨g1,hm⟩) g2
    ·obtain ⟨g1,g2⟩:=(A6 r).mp hr
     obtain ⟨a1,a2⟩:=List.mem_filter.mp ht;have hx:(L.filter fun r=>(bf rk r).isNone).contains t=true:=by
      rw [contains_iff_mem];refine (A6 t).mpr ⟨by simpa using a2,?_⟩
      cases hz:bf rk t with
      | none=>rfl
      | some k=>exact absurd g2 (R.step_ok (hs.lt r g1) g1 (led_t.mpr ⟨t,a1,by rw [hz];exact nofun⟩))
     exact hx
   ·obtain ⟨g1,g2⟩:=List.mem_filter.mp hr
    have hz:bf rk r=none:=by simpa using g2
    exact hX.a c hcM (fun r=>bf rk r≠none) (fun r hx hm=>R.goal_ok (hX.lt r hx) (List.mem_filter.mpr ⟨hXL r hx,by simpa using hm⟩)) (fun r hx ⟨t,ht,_,hk⟩=>R.step_ok (hX.lt r hx) (hXL r hx) (led_t.mpr ⟨t,ht,hk⟩)) r hx hz
 ·refine .inr ⟨L.filter fun r=>!(w.stp r).any fun t=>L.contains t,none,?_,⟨?_,fun c' e=>nomatch e⟩,(fun c' e=>nomatch e),?_,oJ,q,fun r hr=>(List.mem_filter.mp hr).1,fun Rm X hX hXL r hr hx=>?_⟩
  ·rw [enc]
   refine aG (ai (mE e1 rfl (by simp [bh])) (fA ?_))
   generalize (L.filter fun r=>!(w.stp r).any fun t=>L.contains t)=F at q ⊢
   cases F with
   | nil=>exact absurd rfl q
   | cons a r=>simp [bh,uU,mD]
  ·show (bF _).length<=60
   rw [length_map];exact Nat.le_trans (length_filter_le _ _) (by omega)
  ·unfold cV
   rw [tR hs q,Bool.true_and,C0];simp only [oP,isEmpty_iff,List.flatMap_eq_nil_iff]
   intro r hr;have:=(List.mem_filter.mp hr).2
   simpa [filter_eq_nil_iff] using this
  ·obtain ⟨t,ht,hxt⟩:=hX.c r hx
   have:=(List.mem_filter.mp hr).2
   simp only [Bool.not_eq_true',any_eq_false,contains_iff_mem] at this
   exact this t ht (hXL t hxt)
structure Gb where
 rows:List FRow
 L:List Nat
 row:Option FRow
noncomputable abbrev kQ:Sh:=.tup [.lst .leaf,.leaf]
noncomputable def eN:Option FRow->PV
 | none=>⟨.leaf,.none⟩
 | some r=>⟨kQ,r.enc⟩
noncomputable abbrev ux (w:Wd) (R:List Nat) (M:List Str) (b:Gb):Ev:=[some ⟨.leaf,w.enc⟩,some ⟨.leaf,aq R⟩,some ⟨.leaf,bw M⟩,some ⟨.lst kQ,aW b.rows⟩,some ⟨.lst .leaf,aq b.L⟩,some (eN b.row),none]
theorem oH {α β:Type} {step:β->α->Option β}:∀(xs:List α) {b b':β} {a:α},lC step b xs=some b'->lC step b (xs++[a])=step b' a
 | [],b,b',a,e=>by
  cases e;show (match step b a with | some b'=>lC step b' [] | none=>none)=_
  cases step b a<;>rfl
 | x::xs,b,b',a,e=>by
  rw [List.cons_append];rw [lC] at e ⊢
  cases hx:step b x with
  | none=>rw [hx] at e;cases e
  | some c=>rw [hx] at e;exact oH xs e
structure FJ (w:Wd) (R:List Nat) (M:List Str) (b:Gb):Prop where
 std:Std w.n b.L
 sub:∀r∈b.L,r∈R
 cnt:b.rows.length+b.L.length<=w.n
 by':sJ w M R b.rows=some b.L
 ok:∀r∈b.rows,r.Ok/\∀c,r.m=some c->c∈M
 nat:∀r∈b.rows,∃off:List Nat,r.g=bF off/\∀x∈off,x<w.n
 big:∀X,Fr w.n w.stp (·∈R) M (vO w) X->∀r,X r->r∈b.L
 row:(b.row=none/\fX w M b.L)\/(∃off o,b.row=some ⟨bF off,o⟩/\(FRow.mk (bF off) o).Ok/\(∀c,o=some c->c∈M)/\cV w b.L M ⟨bF off,o⟩=true/\lK b.L (bF off)=(b.L.filter fun x=>!off.contains x)/\ua w M b.L off)
noncomputable abbrev tx:FS:=(au (xb 3 5 4 (aj .leaf 6 (aw (aa 4)) (aA ag (ax (aV true) (aa 6) (af (aa 5) (eK (.int 0))))) (aa 6)))
  (aB true 5 (wV 3 b9 (ab (aa 0) (ab (aa 4) (ab (aa 2) ae))))))
theorem Aj {off:List Nat}:e8 ⟨kQ,(FRow.mk (bF off) o).enc⟩=true:=by
 show (([Sh.lst .leaf,.leaf].zip [iL (bF off),mD o]).all fun x=>ju x.1 x.2)=true
 have:ju (.lst .leaf) (iL (bF off))=true:=by rw [<-gp];exact KQ.sc_rms
 simp only [List.zip_cons_cons,List.zip_nil_right,all_cons,List.all_nil,this,Bool.true_and,Bool.and_true]
 cases o<;>rfl
theorem xE (ok:w.Ok) (hM:∀c∈M,c∈aN) (hs:Std w.n L):∃r,b9 [w.enc,aq L,bw M]=.ok (eN r)/\(eN r).s.isView=false/\e8 (eN r)=true /\
  ((r=none/\fX w M L)\/(∃off o,r=some ⟨bF off,o⟩/\(FRow.mk (bF off) o).Ok/\(∀c,o=some c->c∈M)/\cV w L M ⟨bF off,o⟩=true/\lK L (bF off)=(L.filter fun x=>!off.contains x)/\ua w M L off)):=by
 rcases wu ok hM hs with ⟨e,h⟩ | ⟨off,o,e,h1,hm,h2,h3,h4⟩
 ·exact ⟨none,e,rfl,rfl,.inl ⟨rfl,h⟩⟩
 ·exact ⟨some ⟨bF off,o⟩,e,rfl,Aj,.inr ⟨off,o,rfl,h1,hm,h2,h3,h4⟩⟩
theorem Ak (ok:w.Ok) (hM:∀c∈M,c∈aN) {b:Gb} (I:FJ w R M b) (hb:b.row.isSome=true):∃b',tx (ux w R M b)=.nx (ux w R M b')/\FJ w R M b'/\b'.L.length<b.L.length:=by
 have h24:=ok.h24
 have hl:=I.std.len
 have hcnt:=I.cnt
 rcases I.row with ⟨e,_⟩ | ⟨off,o,e,h1,hm,h2,h3,hoff⟩
 ·rw [e] at hb;cases hb
 have hs':=I.std.filter fun r=>!off.contains r
 obtain ⟨r',e2,hv,hfi,hr⟩:=xE ok hM hs'
 have c0:aj .leaf 6 (aw (aa 4)) (aA ag (ax (aV true) (aa 6) (af (aa 5) (eK (.int 0))))) (aa 6) [some ⟨.leaf,w.enc⟩,some ⟨.leaf,aq R⟩,some ⟨.leaf,bw M⟩,none,some ⟨.leaf,aq b.L⟩,some ⟨.leaf,(FRow.mk (bF off) o).enc⟩,none]=.ok ⟨.lst .leaf,aq (b.L.filter fun r=>!off.contains r)⟩ [some ⟨.leaf,w.enc⟩,some ⟨.leaf,aq R⟩,some ⟨.leaf,bw M⟩,none,some ⟨.leaf,aq b.L⟩,some ⟨.leaf,(FRow.mk (bF off) o).enc⟩,none]:=by
  rw [<-h3];exact D3 (i:=4) (j:=5) (k:=6) (r:=⟨bF off,o⟩) rfl rfl (by simp) (by decide) (by omega)
 have lt:(b.L.filter fun r=>!off.contains r).length<b.L.length:=by
  obtain ⟨x,hx⟩:=exists_mem_of_ne_nil _ hoff.ne;have:(b.L.filter fun r=>!off.contains r).length≠b.L.length:=fun e=>by
   have:=List.length_filter_eq_length_iff.mp e x (hoff.sub x hx)
   simp [hx] at this
  have:=length_filter_le (fun r=>!off.contains r) b.L
  omega
 refine ⟨⟨b.rows++[⟨bF off,o⟩],b.L.filter fun r=>!off.contains r,r'⟩,?_,⟨hs',fun r hr=>I.sub r (List.mem_filter.mp hr).1,by simp only [length_append,length_cons,length_nil];omega,?_,fun r hr=>?_,fun r hr=>?_,fun X hX r hx=>?_,hr⟩,lt⟩
 ·have big:(1000:Nat)<=sizeLine:=by decide
  have hln:(b.rows.map FRow.enc).length<sizeLine:=by rw [length_map];omega
  refine ai (Γ1:=[some ⟨.leaf,w.enc⟩,some ⟨.leaf,aq R⟩,some ⟨.leaf,bw M⟩,some ⟨.lst kQ,aW (b.rows++[⟨bF off,o⟩])⟩,some ⟨.lst .leaf,aq (b.L.filter fun r=>!off.contains r)⟩,none,none]) ?_ (mE (KQ.v_callG (az (ao rfl) (az (jh rfl) (az (ao rfl) ak))) e2 rfl (KQ.av _ _ _) hfi) hv (by simp))
  have g3:(ux w R M b)[3]?=some (some ⟨.lst kQ,aW b.rows⟩):=rfl
  have g5:(ux w R M b)[5]?=some (some ⟨kQ,(FRow.mk (bF off) o).enc⟩):=by show some (some (eN b.row))=_;rw [e];rfl
  unfold xb;rw [g3,g5];dsimp only;have cc:(decide (3≠5)&&decide (4<(ux w R M b).length)&&T.coer kQ ⟨kQ,(FRow.mk (bF off) o).enc⟩&&decide ((b.rows.map FRow.enc).length<sizeLine))=true:=by
   rw [decide_eq_true hln];rfl
  rw [cc,if_pos rfl];have fz:frzA ((ux w R M b).set 3 none)=[some ⟨.leaf,w.enc⟩,some ⟨.leaf,aq R⟩,some ⟨.leaf,bw M⟩,none,some ⟨.leaf,aq b.L⟩,some ⟨.leaf,(FRow.mk (bF off) o).enc⟩,none]:=by
   have:eN b.row=⟨kQ,(FRow.mk (bF off) o).enc⟩:=by rw [e];rfl
   show frzA ([some ⟨.leaf,w.enc⟩,some ⟨.leaf,aq R⟩,some ⟨.leaf,bw M⟩,none,some ⟨.lst .leaf,aq b.L⟩,some (eN b.row),none]:Ev)=_
   rw [this];rfl
  rw [fz,c0];dsimp only;have nw:cM (.lst .leaf) (aq (b.L.filter fun r=>!off.contains r))=true:=KQ.sc_rms
  rw [nw,if_pos rfl];show OutS.nx [some ⟨.leaf,w.enc⟩,some ⟨.leaf,aq R⟩,some ⟨.leaf,bw M⟩,some ⟨.lst kQ,.list (b.rows.map FRow.enc++[(FRow.mk (bF off) o).enc])⟩,some ⟨.lst .leaf,aq (b.L.filter fun r=>!off.contains r)⟩,none,none]=_
  rw [show b.rows.map FRow.enc++[(FRow.mk (bF off) o).enc]=(b.rows++[FRow.mk (bF off) o]).map FRow.enc by rw [List.map_append];rfl]
 ·show lC (b5 w M) R (b.rows++[⟨bF off,o⟩])=_
  rw [oH b.rows I.by']
  show b5 w M b.L ⟨bF off,o⟩=_
  unfold b5;rw [h2,if_pos rfl];exact congrArg some h3
 ·rcases List.mem_append.mp hr with z | z
  ·exact I.ok r z
  ·rw [List.mem_singleton.mp z];exact ⟨h1,hm⟩
 ·rcases List.mem_append.mp hr with z | z
  ·exact I.nat r z
  ·rw [List.mem_singleton.mp z];exact ⟨off,rfl,fun x hx=>I.std.lt x (hoff.sub x hx)⟩
 ·refine List.mem_filter.mpr ⟨I.big X hX r hx,?_⟩
  cases hc:off.contains r with
  | false=>rfl
  | true=>exact absurd hx (hoff.no _ X hX (I.big X hX) r (by simpa using hc))
theorem tJ (ok:w.Ok) (hR:Std w.n R) (hM:∀c∈M,c∈aN):∃rows K,bT [w.enc,aq R,bw M]=.ok ⟨.tup [.lst kQ,.lst .leaf],.tuple [aW rows,aq K]⟩/\Std w.n K/\sJ w M R rows=some K/\(∀r∈rows,r.Ok/\∀c,r.m=some c->c∈M)/\(∀r∈rows,∃off:List Nat,r.g=bF off/\∀x∈off,x<w.n)/\rows.length<=w.n/\fX w M K/\Fr w.n w.stp (·∈R) M (vO w) (·∈K)/\∀X,Fr w.n w.stp (·∈R) M (vO w) X->∀r,X r->r∈K:=by
 have h24:=ok.h24
 have hl:=hR.len
 obtain ⟨r0,e0,hv,hfi,hro⟩:=xE ok hM hR;have i0:FJ w R M ⟨[],R,r0⟩:=⟨hR,fun r h=>h,by simpa using hl,rfl,(fun r h=>nomatch h),(fun r h=>nomatch h),fun X hX=>hX.sub,hro⟩
 obtain ⟨b,e,I,hf⟩:=C9 (c:=aA ag (ax (bq true) (aa 5) (eK .none))) (g:=tx) (G:=ux w R M) (test:=fun b=>b.row.isSome) (Inv:=FJ w R M) (meas:=fun b=>b.L.length) (fun b I=>by
   cases hr:b.row with
   | none=>exact bJ (s:=.leaf) (ay (ao (i:=5) (d:=.none) (by show some (some (eN b.row))=_;rw [hr];rfl)) aQ rfl)
   | some r=>exact bJ (s:=.leaf) (ay (p:=⟨.view,r.enc⟩) (by unfold aa;rw [show (ux w R M b)[5]?=some (some ⟨kQ,r.enc⟩) by show some (some (eN b.row))=_;rw [hr];rfl]) aQ rfl)) (fun b I hb=>Ak ok hM I hb) 1000 _ i0 (by show R.length<1000;omega)
 have hend:fX w M b.L:=by
  rcases I.row with ⟨_,h⟩ | ⟨off,o,h,_⟩
  ·exact h
  ·rw [h] at hf;cases hf
 have wh:uD 1000 (aA ag (ax (bq true) (aa 5) (eK .none))) tx (ux w R M ⟨[],R,r0⟩)=.nx (ux w R M b):=by
  unfold uD;rw [e]
 have hcnt:=I.cnt
 refine ⟨b.rows,b.L,?_,I.std,I.by',I.ok,I.nat,by omega,hend,⟨I.std.lt,I.sub,hend.c,hend.a⟩,I.big⟩
 exact aG (ai (mE (nJ (s:=kQ) ak rfl rfl rfl) rfl (by simp [bh])) (ai (mE (uh (ds:=R.map rm) (ao rfl) rfl) rfl (by simp [bh])) (ai (mE (KQ.v_callG (az (ao rfl) (az (jh rfl) (az (ao rfl) ak))) e0 rfl (KQ.av _ _ _) hfi) hv (by simp [bh])) (ai wh (aE (nP (az (xW (p:=⟨.lst kQ,aW b.rows⟩) rfl) (az (xW (p:=⟨.lst .leaf,aq b.L⟩) rfl) ak)) rfl rfl) rfl)))))
end
section
variable {w:Wd} {R K:List Nat} {M:List Str}
noncomputable def cI (rk:List (Option Nat)):List (Option Int):=rk.map (Option.map fun n:Nat=>(n:Int))
theorem vb {rk:List (Option Nat)}:eA rk=bG (cI rk):=by
 show PyData.list (rk.map oD)=PyData.list ((rk.map _).map zD)
 rw [map_map];congr 1
 refine map_congr_left fun o _=>?_
 cases o<;>rfl
theorem CZ {rk:List (Option Nat)} {r:Nat}:zA (cI rk) r=(bf rk r).map fun n:Nat=>(n:Int):=by
 unfold zA bf cI;rw [getD_eq_getElem?_getD,getD_eq_getElem?_getD,getElem?_map]
 cases rk[r]?<;>rfl
structure qw (w:Wd) (K:List Nat) (c:Str) (rk:List (Option Nat)):Prop where
 den:aP [w.enc,aq K,.str c]=.ok ⟨.lst .leaf,eA rk⟩
 r:RightG w.n w.stp (fun _=>true) K (gm w c K) rk
 few:∀r j,r<w.n->r∉gm w c K->bf rk r=some j->∀t∈w.stp r,∀i,bf rk t=some i->j<=i+1
 lt:∀r k,r<w.n->bf rk r=some k->k<w.n
theorem j8 (ok:w.Ok) {c:Str} (hcl:c∈aN) {L:List Nat} (hs:Std w.n L):∃rk,qw w L c rk:=by
 have lo:=ok.g.lo
 have h24:=ok.h24
 have hl:=hs.len
 have hgl:(gm w c L).length<=1000:=Nat.le_trans (length_filter_le _ _) (by omega)
 have hch:∀r,r<w.n->gO (w.os.map fun _=>true) r=true:=fun r hr=>by
  unfold gO;rw [getD_eq_getElem?_getD,getElem?_map,getElem?_eq_getElem (by omega)]
  rfl
 obtain ⟨rk,e,Rt,fw⟩:=e9 ok.z (cl:=w.os.map fun _=>true) (thr:=L) (goal:=gm w c L) (by rw [length_map];exact lo) (fun r hr=>ok.stp_ne (hs.lt r hr)) hs.lt (by omega) (fun r hr=>hs.lt r (List.mem_filter.mp hr).1) hgl
 have hlt:∀r k,r<w.n->bf rk r=some k->k<w.n:=fun r k hr e=>wj Rt fw (fun r t ht=>ok.stp_lt ht) hr e
 have Rt:=Rt.congr (ch':=fun _=>true) fun r hr=>hch r hr
 refine ⟨rk,?_,Rt,fun r j hr hg hj t ht i hi=>?_,hlt⟩
 ·have c1:aj .leaf 3 (aw (af (aa 0) (eK (.int 0)))) aH (eK (.bool true)) (bh 4 [w.enc,aq L,aq (gm w c L)])=.ok ⟨.lst .leaf,mx (w.os.map fun _=>true)⟩ (bh 4 [w.enc,aq L,aq (gm w c L)]):=by
   have:=mq (fun d:D=>d) w.os (fun d=>⟨.leaf,.bool true⟩) (s:=.leaf) (i:=3) (fi:=aw (af (aa 0) (eK (.int 0)))) (fe:=eK (.bool true)) (st:=true) (Γ:=bh 4 [w.enc,aq L,aq (gm w c L)]) (by simp [bh,Wd.enc,dS]) (by simp [bh]) rfl (by omega) (fun d hd=>by simp)
   rw [this];simp
  have st:dg [w.enc,aq L,aq (gm w c L)]=.ok ⟨.lst .leaf,eA rk⟩:=aG (aE (cH (az (ao rfl) (az c1 (az (ao rfl) (az (ao rfl) ak)))) e rfl rfl) rfl)
  have c2:aj .leaf 3 (aw (aa 1)) (aA ag (ax (aV false) (aa 2) (af (af (aa 0) (eK (.int 1))) (aa 3)))) (aa 3) (bh 4 [w.enc,aq L,.str c])=.ok ⟨.lst .leaf,.list ((gm w c L).map fun t=>rm t)⟩ (bh 4 [w.enc,aq L,.str c]):=by
   refine gL rm L (fun r=>(w.mks r).contains c) (fun t=>⟨.leaf,rm t⟩) (st:=true) (by simp [bh]) (by simp [bh]) rfl (by omega) (fun t ht=>?_) (fun t ht _=>?_)
   ·have a1:=ok.at1 (hs.lt t ht)
    simp [bh,Wd.enc,dS,a1,xS (qK hcl).1 (w9 ok t)]
   ·simp [bh]
  exact aG (aE (cH (az (ao rfl) (az (ao rfl) (az c2 ak))) st rfl rfl) rfl)
 ·have:=fw r j hg hj
  rw [hch r hr] at this;rw [led_t] at this;refine Nat.le_of_not_lt fun z=>this ⟨t,ht,i,hi,z⟩
theorem kM (ok:w.Ok) (hK:Std w.n K) (hE:fX w M K) {c:Str} (hc:c∈M) {rk:List (Option Nat)} (h:qw w K c rk):(∀r∈K,∃k,bf rk r=some k)/\(∀r k,r<w.n->bf rk r=some k->r∈K)/\mw w K c (cI rk)=true:=by
 have all:∀r∈K,∃k,bf rk r=some k:=fun r hr=>by
  have:=hE.a c hc (fun r=>bf rk r≠none) (fun r hr hm=>h.r.goal_ok (hK.lt r hr) (List.mem_filter.mpr ⟨hr,by simpa using hm⟩)) (fun r hr ⟨t,ht,_,hk⟩=>h.r.step_ok (hK.lt r hr) hr (led_t.mpr ⟨t,ht,hk⟩)) r hr
  cases e:bf rk r with
  | none=>exact absurd e this
  | some k=>exact ⟨k,rfl⟩
 have inK:∀r k,r<w.n->bf rk r=some k->r∈K:=fun r k hr e=>by
  by_cases hg:r∈gm w c K
  ·exact (List.mem_filter.mp hg).1
  ·exact (h.r.p r k hr hg e).2.1
 refine ⟨all,inK,?_⟩
 unfold mw;have hl:(cI rk).length=w.n:=by unfold cI;rw [length_map];exact h.r.len
 rw [decide_eq_true hl,Bool.true_and,all_eq_true];intro r hr;have hr:=List.mem_range.mp hr
 unfold fR;rw [CZ]
 cases e:bf rk r with
 | none=>
  show (!K.contains r)=true
  rw [Bool.not_eq_true',<-Bool.not_eq_true,contains_iff_mem];intro hk;obtain ⟨k,ek⟩:=all r hk;rw [e] at ek
  cases ek
 | some k=>
  have hk:=inK r k hr e
  show (K.contains r&&_)=true
  rw [List.contains_iff_mem.mpr hk,Bool.true_and]
  cases hm:(w.mks r).contains c with
  | true=>
   have:=h.r.g r hr (List.mem_filter.mpr ⟨hk,hm⟩)
   rw [e] at this
   cases this;rfl
  | false=>
   have hg:r∉gm w c K:=fun z=>by
    have:=(List.mem_filter.mp z).2
    rw [hm] at this
    cases this
   obtain ⟨p1,_,p3⟩:=h.r.p r k hr hg e;obtain ⟨t,ht,j,hj,hjk⟩:=led_t.mp p3;show (decide ((0:Int)<(k:Int))&&_)=true
   rw [decide_eq_true (by omega),Bool.true_and,any_eq_true]
   refine ⟨t,ht,?_⟩
   rw [CZ,hj];show decide ((j:Int)<(k:Int))=true
   exact decide_eq_true (by omega)
noncomputable abbrev uo (rk:List (Option Nat)) (t:Nat):Nat:=(bf rk t).getD 0
theorem BC {c:FB} {b:Bool} {p:PV} (h:c Γ=.ok b Γ) (h1:b=true->fa Γ=.ok p Γ) (h2:b=false->fb Γ=.ok p Γ):uv c fa fb Γ=.ok p Γ:=by
 unfold uv;rw [h]
 cases b with
 | true=>exact h1 rfl
 | false=>exact h2 rfl
theorem zF {l:List Int} {m:Int} (h1:m∈l) (h2:∀a∈l,m<=a):uz [iL l]=some (.int m):=by
 show (match intsOf (l.map .int) with | some (a::r)=>some (PyData.int (Cf (a::r))) | _=>none)=_
 rw [ie]
 cases l with
 | nil=>cases h1
 | cons a r=>rw [<-sH h1 h2]
theorem wA (ok:w.Ok) (hK:Std w.n K) (hE:fX w M K) {c:Str} (hc:c∈M) (hcl:c∈aN) {rk:List (Option Nat)} (h:qw w K c rk):bS [w.enc,aq K,.str c,bG (cI rk)]=.ok ⟨.leaf,.bool true⟩:=by
 obtain ⟨all,inK,_⟩:=kM ok hK hE hc h;have hl:(cI rk).length=w.n:=by unfold cI;rw [length_map];exact h.r.len
 have hA:∀t∈K,zD (zA (cI rk) t)=.int (uo rk t:Int):=fun t ht=>by
  obtain ⟨k,e⟩:=all t ht;rw [CZ,e];unfold uo;rw [e];rfl
 obtain ⟨f1,_⟩:=uF rm (i:=4) (body:=(au (aB false 5 (aj .leaf 6 (aw (af (af (aa 0) (eK (.int 2))) (aa 4))) (aA ag (ax (aV false) (aa 6) (aa 1))) (af (aa 3) (aa 6)))) (bI (aA ag (ax cw (af (aa 3) (aa 4)) (uv (aA ag (ax (aV false) (aa 2) (af (af (aa 0) (eK (.int 1))) (aa 4)))) (eK (.int 0)) (ax bx (eK (.int 1)) (bb uz (ab (aa 5) ae)))))) (aD (eK (.bool false))) aC)))
  (Inv:=fun Γ=>∃y4 y5,Γ=[some ⟨.leaf,w.enc⟩,some ⟨.leaf,aq K⟩,some ⟨.leaf,.str c⟩,some ⟨.leaf,bG (cI rk)⟩,y4,y5,none]) (c:=fun _=>true) (q:=⟨.leaf,.none⟩) K [some ⟨.leaf,w.enc⟩,some ⟨.leaf,aq K⟩,some ⟨.leaf,.str c⟩,some ⟨.leaf,bG (cI rk)⟩,none,none,none] (fun r hr Γ ⟨y4,y5,hΓ⟩=>by
   subst hΓ;refine ⟨by simp,fun _=>?_,nofun⟩
   have hrn:=hK.lt r hr
   have c5:aj .leaf 6 (aw (af (af (aa 0) (eK (.int 2))) (aa 4))) (aA ag (ax (aV false) (aa 6) (aa 1))) (af (aa 3) (aa 6)) [some ⟨.leaf,w.enc⟩,some ⟨.leaf,aq K⟩,some ⟨.leaf,.str c⟩,some ⟨.leaf,bG (cI rk)⟩,some ⟨.leaf,rm r⟩,y5,none]=.ok ⟨.lst .leaf,iL (((w.stp r).filter fun t=>K.contains t).map fun t=>(uo rk t:Int))⟩ [some ⟨.leaf,w.enc⟩,some ⟨.leaf,aq K⟩,some ⟨.leaf,.str c⟩,some ⟨.leaf,bG (cI rk)⟩,some ⟨.leaf,rm r⟩,y5,none]:=by
    have:=gL rm (w.stp r) (fun t=>K.contains t) (fun t=>⟨.leaf,.int (uo rk t:Int)⟩) (s:=.leaf) (i:=6) (fi:=aw (af (af (aa 0) (eK (.int 2))) (aa 4))) (fc:=aA ag (ax (aV false) (aa 6) (aa 1))) (fe:=af (aa 3) (aa 6)) (st:=true) (Γ:=[some ⟨.leaf,w.enc⟩,some ⟨.leaf,aq K⟩,some ⟨.leaf,.str c⟩,some ⟨.leaf,bG (cI rk)⟩,some ⟨.leaf,rm r⟩,y5,none]) (aL (s:=.leaf) (yh ok rfl (ao rfl) hrn) rfl) (by simp) rfl ok.z.len (fun t ht=>bJ (s:=.leaf) (ay (ao rfl) (ao rfl) uA)) fun t ht hk=>⟨by
     have:=jI (Γ:=[some ⟨.leaf,w.enc⟩,some ⟨.leaf,aq K⟩,some ⟨.leaf,.str c⟩,some ⟨.leaf,bG (cI rk)⟩,some ⟨.leaf,rm r⟩,y5,some ⟨.leaf,rm t⟩]) (rk:=cI rk) (ao (i:=3) rfl) (ao (i:=6) (d:=rm t) rfl) (by rw [hl];exact ok.stp_lt ht)
     rw [hA t (by simpa using hk)] at this
     exact this,rfl⟩
    rw [this];show Out.ok (PV.mk _ (PyData.list _)) _=Out.ok (PV.mk _ (PyData.list _)) _
    rw [map_map];rfl
   have s5:=dC (i:=5) c5 rfl (by simp)
   obtain ⟨k,ek⟩:=all r hr;have iz:∀y5,af (aa 3) (aa 4) [some ⟨.leaf,w.enc⟩,some ⟨.leaf,aq K⟩,some ⟨.leaf,.str c⟩,some ⟨.leaf,bG (cI rk)⟩,some ⟨.leaf,rm r⟩,y5,none]=.ok ⟨.leaf,.int (k:Int)⟩ [some ⟨.leaf,w.enc⟩,some ⟨.leaf,aq K⟩,some ⟨.leaf,.str c⟩,some ⟨.leaf,bG (cI rk)⟩,some ⟨.leaf,rm r⟩,y5,none]:=fun y5=>by
    have:=jI (Γ:=[some ⟨.leaf,w.enc⟩,some ⟨.leaf,aq K⟩,some ⟨.leaf,.str c⟩,some ⟨.leaf,bG (cI rk)⟩,some ⟨.leaf,rm r⟩,y5,none]) (rk:=cI rk) (ao (i:=3) rfl) (ao (i:=4) (d:=rm r) rfl) (by omega)
    rw [CZ,ek] at this;exact this
   have hif:uv (aA ag (ax (aV false) (aa 2) (af (af (aa 0) (eK (.int 1))) (aa 4)))) (eK (.int 0)) (ax bx (eK (.int 1)) (bb uz (ab (aa 5) ae))) [some ⟨.leaf,w.enc⟩,some ⟨.leaf,aq K⟩,some ⟨.leaf,.str c⟩,some ⟨.leaf,bG (cI rk)⟩,some ⟨.leaf,rm r⟩,some ⟨.leaf,iL (((w.stp r).filter fun t=>K.contains t).map fun t=>(uo rk t:Int))⟩,none]=.ok ⟨.leaf,.int (k:Int)⟩ [some ⟨.leaf,w.enc⟩,some ⟨.leaf,aq K⟩,some ⟨.leaf,.str c⟩,some ⟨.leaf,bG (cI rk)⟩,some ⟨.leaf,rm r⟩,some ⟨.leaf,iL (((w.stp r).filter fun t=>K.contains t).map fun t=>(uo rk t:Int))⟩,none]:=by
    refine BC (b:=(w.mks r).contains c) (bJ (s:=.leaf) (ay (g:=aV false) (ao (i:=2) (d:=.str c) rfl) (AX ok (i:=0) rfl (ao (i:=4) rfl) hrn) (xS (qK hcl).1 (w9 ok r)))) (fun hm=>?_) fun hm=>?_
    ·have:=h.r.g r hrn (List.mem_filter.mpr ⟨hr,hm⟩)
     rw [ek] at this
     cases this;exact aQ
    ·have hg:r∉gm w c K:=fun z=>by
      have:=(List.mem_filter.mp z).2
      rw [hm] at this
      cases this
     obtain ⟨p1,_,p3⟩:=h.r.p r k hrn hg ek;obtain ⟨t,ht,j,hj,hjk⟩:=led_t.mp p3;have few:=h.few r k hrn hg ek
     have hjk2:=few t ht j hj
     have e:k=j+1:=by omega
     have m1:=zF (l:=((w.stp r).filter fun t=>K.contains t).map fun t=>(uo rk t:Int)) (m:=(j:Int)) (List.mem_map.mpr ⟨t,List.mem_filter.mpr ⟨ht,List.contains_iff_mem.mpr (inK t j (ok.stp_lt ht) hj)⟩,by unfold uo;rw [hj];rfl⟩) (fun a ha=>by
      obtain ⟨u,hu,rfl⟩:=List.mem_map.mp ha;obtain ⟨u1,u2⟩:=List.mem_filter.mp hu;obtain ⟨i,hi⟩:=all u (by simpa using u2)
      have:=few u u1 i hi
      unfold uo;rw [hi];show (j:Int)<=(i:Int)
      omega)
     have:=ay (g:=bx) (aQ (d:=.int 1) (Γ:=[some ⟨.leaf,w.enc⟩,some ⟨.leaf,aq K⟩,some ⟨.leaf,.str c⟩,some ⟨.leaf,bG (cI rk)⟩,some ⟨.leaf,rm r⟩,some ⟨.leaf,iL (((w.stp r).filter fun t=>K.contains t).map fun t=>(uo rk t:Int))⟩,none])) (bc (g:=uz) (az (ao (i:=5) rfl) ak) m1) (d:=.int (1+(j:Int))) rfl
     rw [this,e];congr 3
     omega
   have tt:=bJ (s:=.leaf) (ay (g:=cw) (iz _) hif (dH KC.eq_int))
   rw [beq_self_eq_true] at tt;exact ⟨_,ai s5 (aO tt nofun fun _=>rfl),_,_,rfl⟩) ⟨none,none,rfl⟩
 obtain ⟨_,e,y4,y5,rfl⟩:=f1 (List.all_eq_true.mpr fun _ _=>rfl)
 exact aG (ai (bu (aL (ds:=K.map rm) (s:=.leaf) (ao rfl) rfl) e) (aE aQ rfl))
noncomputable abbrev kT:Sh:=.tup [.lst kQ,.lst .leaf,.lst (.lst .leaf)]
theorem tH (ok:w.Ok) (hR:Std w.n R) (hM:∀c∈M,c∈aN) (hr:bp [bw M]=.ok ⟨.leaf,.bool true⟩) (hl:M.length<=100):∃(rows:List FRow) (K:List Nat) (F:Str->List (Option Nat)),bY [w.enc,aq R,bw M]=.ok ⟨kT,(Pap.mk rows (bF K) (M.map fun c=>cI (F c))).enc⟩/\Std w.n K/\fX w M K/\(∀c∈M,qw w K c (F c))/\mT w R M ⟨rows,bF K,M.map fun c=>cI (F c)⟩=true/\(∀r∈rows,r.Ok/\∀c,r.m=some c->c∈M)/\(∀r∈rows,∃off:List Nat,r.g=bF off/\∀x∈off,x<w.n)/\rows.length<=w.n/\Fr w.n w.stp (·∈R) M (vO w) (·∈K)/\∀X,Fr w.n w.stp (·∈R) M (vO w) X->∀r,X r->r∈K:=by
 obtain ⟨rows,K,e,hK,hby,hok,hnat,hlen,hE,hF,hbig⟩:=tJ ok hR hM;have h:∀c:Str,∃rk:List (Option Nat),c∈aN->qw w K c rk:=fun c=>by
  by_cases hc:c∈aN
  ·obtain ⟨rk,q⟩:=j8 ok hc hK
   exact ⟨rk,fun _=>q⟩
  ·exact ⟨[],fun z=>absurd z hc⟩
 obtain ⟨F,hFF⟩:=Classical.axiomOfChoice h;have hRk:∀c∈M,qw w K c (F c):=fun c hc=>hFF c (hM c hc)
 refine ⟨rows,K,F,?_,hK,hE,hRk,?_,hok,hnat,hlen,hF,hbig⟩
 ·have s1:dw (ar 3 bM (ab (aa 0) (ab (aa 1) (ab (aa 2) ae)))) (bh 5 [w.enc,aq R,bw M])=.nx (bh 5 [w.enc,aq R,bw M]):=nL (cH (az (ao rfl) (az (ao rfl) (az (ao rfl) ak))) (xH ok hR hr) rfl rfl)
  have s2:aB true 3 (ar 3 bT (ab (aa 0) (ab (aa 1) (ab (aa 2) ae)))) (bh 5 [w.enc,aq R,bw M])=.nx [some ⟨.leaf,w.enc⟩,some ⟨.leaf,aq R⟩,some ⟨.leaf,bw M⟩,some ⟨.tup [.lst kQ,.lst .leaf],.tuple [aW rows,aq K]⟩,none]:=mE (cH (az (ao rfl) (az (ao rfl) (az (ao rfl) ak))) e rfl rfl) rfl (by simp [bh])
  have c4:aj (.lst .leaf) 4 (aw (aa 2)) aH (ar 3 aP (ab (aa 0) (ab (af (aa 3) (eK (.int 1))) (ab (aa 4) ae)))) [some ⟨.leaf,w.enc⟩,some ⟨.leaf,aq R⟩,some ⟨.leaf,bw M⟩,some ⟨.leaf,.tuple [aW rows,aq K]⟩,none]=.ok ⟨.lst (.lst .leaf),.list (M.map fun c=>eA (F c))⟩ [some ⟨.leaf,w.enc⟩,some ⟨.leaf,aq R⟩,some ⟨.leaf,bw M⟩,some ⟨.leaf,.tuple [aW rows,aq K]⟩,none]:=
   mq PyData.str M (fun c=>⟨.lst .leaf,eA (F c)⟩) (st:=true) (aL (s:=.leaf) (ao rfl) rfl) (by simp) rfl (by omega) fun c hc=>⟨cH (az (ao rfl) (az (gK (j:=1) (ds:=[aW rows,aq K]) (ao rfl) aQ rfl rfl rfl) (az (ao rfl) ak))) (hRk c hc).den rfl rfl,rfl⟩
  refine aG (ai s1 (ai s2 (aE (Γ1:=[some ⟨.leaf,w.enc⟩,some ⟨.leaf,aq R⟩,some ⟨.leaf,bw M⟩,none,none]) ?_ rfl)))
  unfold As;show (match aj (.lst .leaf) 4 (aw (aa 2)) aH (ar 3 aP (ab (aa 0) (ab (af (aa 3) (eK (.int 1))) (ab (aa 4) ae)))) [some ⟨.leaf,w.enc⟩,some ⟨.leaf,aq R⟩,some ⟨.leaf,bw M⟩,some ⟨.leaf,.tuple [aW rows,aq K]⟩,none] with
   | .ok p _=>if cM p.s p.d then Out.ok (PV.mk (.tup [.lst kQ,.lst .leaf,p.s]) (.tuple [aW rows,aq K,p.d])) [some ⟨.leaf,w.enc⟩,some ⟨.leaf,aq R⟩,some ⟨.leaf,bw M⟩,none,none] else .no
   | _=>.no)=_
  rw [c4];dsimp only;have nw:cM (.lst (.lst .leaf)) (.list (M.map fun c=>eA (F c)))=true:=by
   show (M.map fun c=>eA (F c)).all _=true
   rw [all_eq_true];intro d hd;obtain ⟨c,_,rfl⟩:=List.mem_map.mp hd;show ((F c).map oD).all aT=true
   rw [all_eq_true];intro d hd;obtain ⟨o,_,rfl⟩:=List.mem_map.mp hd
   cases o<;>rfl
  rw [nw,if_pos rfl];unfold Pap.enc;dsimp only;rw [<-gp,map_map,show (M.map fun c=>eA (F c))=M.map (bG∘fun c=>cI (F c)) from map_congr_left fun c _=>vb]
 ·unfold mT
  dsimp only;rw [hby];show (decide (bF K=bF K)&&decide ((M.map fun c=>cI (F c)).length=M.length)&&(K.all fun r=>(w.stp r).any fun t=>K.contains t)&&(M.zip (M.map fun c=>cI (F c))).all fun x=>mw w K x.1 x.2)=true
  rw [decide_eq_true rfl,decide_eq_true (length_map _),Bool.true_and,Bool.true_and,Bool.and_eq_true,all_eq_true,all_eq_true];refine ⟨fun r hr=>?_,fun x hx=>?_⟩
  ·obtain ⟨t,ht,hk⟩:=hE.c r hr
   exact List.any_eq_true.mpr ⟨t,ht,List.contains_iff_mem.mpr hk⟩
  ·rw [show M.zip (M.map fun c=>cI (F c))=M.map fun c=>(c,cI (F c)) by
    have:=List.zip_map' (f:=fun c:Str=>c) (g:=fun c=>cI (F c)) (l:=M)
    rw [List.map_id'] at this;exact this] at hx
   obtain ⟨c,hc,rfl⟩:=List.mem_map.mp hx;exact (kM ok hK hE hc (hRk c hc)).2.2
end
section
variable {w:Wd} {R K:List Nat} {M:List Str}
theorem yp {i:Nat} {ds:List D} (h:Γ[i]?=some (some ⟨.leaf,.tuple ds⟩)):ig (aa i) Γ=.ok ⟨ds,true⟩ Γ:=by
 unfold ig;rw [ao h];rfl
theorem jv {off:List Nat} (h:off.length<=1000):bB [iL (bF off),iL (bF off)]=.ok ⟨.leaf,.bool true⟩:=by
 rw [<-gp];exact KQ.den_nums h
theorem nh {p:Pap} (hn:∀r∈p.rows,∃off:List Nat,r.g=bF off/\off.length<=1000) {K:List Nat} (hk:p.kept=bF K) (hkl:K.length<=1000) (hr:∀k∈p.ranks,k.length<=1000):cm [p.enc]=.ok ⟨.leaf,.bool true⟩:=by
 let G:Option PV->Option PV->Ev:=fun x1 x2=>[some ⟨.leaf,p.enc⟩,x1,x2,none,none]
 have i0:∀x1 x2,af (aa 0) (eK (.int 0)) (G x1 x2)=.ok ⟨.leaf,aW p.rows⟩ (G x1 x2):=fun _ _=>gK (j:=0) (ds:=[aW p.rows,iL p.kept,.list (p.ranks.map bG)]) (ao (d:=p.enc) rfl) aQ rfl rfl rfl
 have i1:∀x1 x2,af (aa 0) (eK (.int 1)) (G x1 x2)=.ok ⟨.leaf,iL p.kept⟩ (G x1 x2):=fun _ _=>gK (j:=1) (ds:=[aW p.rows,iL p.kept,.list (p.ranks.map bG)]) (ao (d:=p.enc) rfl) aQ rfl rfl rfl
 have i2:∀x1 x2,af (aa 0) (eK (.int 2)) (G x1 x2)=.ok ⟨.leaf,.list (p.ranks.map bG)⟩ (G x1 x2):=fun _ _=>gK (j:=2) (ds:=[aW p.rows,iL p.kept,.list (p.ranks.map bG)]) (ao (d:=p.enc) rfl) aQ rfl rfl rfl
 have c3:aj .leaf 3 (ig (aa 0)) aH (dX "list" (aa 3)) (G none none)=.ok ⟨.lst .leaf,.list ([aW p.rows,iL p.kept,.list (p.ranks.map bG)].map fun _=>.bool true)⟩ (G none none):=
  yl (f:=fun _=>⟨.leaf,.bool true⟩) (st:=true) (yp (i:=0) (ds:=[aW p.rows,iL p.kept,.list (p.ranks.map bG)]) rfl) (by simp [G]) rfl (by simp) fun d hd=>⟨gV (ao rfl) (by
   rcases List.mem_cons.mp hd with rfl | hd
   ·rfl
   ·rcases List.mem_cons.mp hd with rfl | hd
    ·rfl
    ·rw [List.mem_singleton.mp hd];rfl),rfl⟩
 have t1:=cG (b4 (bW (s:=.leaf) (gV (c := "tuple") (b:=true) (ao (i:=0) (d:=p.enc) (Γ:=G none none) rfl) rfl))) (cG (bJ (s:=.leaf) (ay (g:=cw) (d:=.bool false) (bc (g:=aK) (d:=.int 3) (az (ao (i:=0) (d:=p.enc) rfl) ak) rfl) (aQ (d:=.int 3)) (by rw [dH KC.eq_int];rfl))) (b4 (bW (s:=.leaf) (bc (az c3 ak) D1))))
 have s1:bI _ (aD (eK (.bool false))) aC (G none none)=.nx (G none none):=aO t1 nofun fun _=>rfl
 obtain ⟨f1,_⟩:=uF FRow.enc (i:=1) (body:=(bI (cX (bD (aA aZ (dX "tuple" (aa 1)))) (cX (aA ag (ax cw (bb aK (ab (aa 1) ae)) (eK (.int 2)))) (bD (aA aZ (ar 2 bB (ab (af (aa 1) (eK (.int 0))) (ab (i9 (af (aa 1) (eK (.int 0)))) ae))))))) (aD (eK (.bool false))) aC)) (Inv:=fun Γ=>∃x1,Γ=G x1 none) (c:=fun _=>true) (q:=⟨.leaf,.none⟩) p.rows (G none none) (fun r hrm Γ ⟨x1,hΓ⟩=>by
  subst hΓ;refine ⟨by simp [G],fun _=>?_,nofun⟩
  obtain ⟨off,eo,lo⟩:=hn r hrm;have j0:af (aa 1) (eK (.int 0)) (G (some ⟨.leaf,r.enc⟩) none)=.ok ⟨.leaf,iL (bF off)⟩ (G (some ⟨.leaf,r.enc⟩) none):=by
   rw [<-eo];exact gK (j:=0) (ds:=[iL r.g,mD r.m]) (ao (d:=r.enc) rfl) aQ rfl rfl rfl
  have t:=cG (b4 (bW (s:=.leaf) (gV (c := "tuple") (b:=true) (ao (i:=1) (d:=r.enc) (Γ:=G (some ⟨.leaf,r.enc⟩) none) rfl) rfl))) (cG (bJ (s:=.leaf) (ay (g:=cw) (d:=.bool false) (bc (g:=aK) (d:=.int 2) (az (ao (i:=1) (d:=r.enc) rfl) ak) rfl) (aQ (d:=.int 2)) (by rw [dH KC.eq_int];rfl))) (b4 (bW (s:=.leaf) (cH (n:=2) (az j0 (az (uh j0 rfl) ak)) (jv lo) rfl rfl))))
  exact ⟨_,aO t nofun fun _=>rfl,_,rfl⟩) ⟨none,rfl⟩
 obtain ⟨_,e1,x1,rfl⟩:=f1 (List.all_eq_true.mpr fun _ _=>rfl)
 obtain ⟨f2,_⟩:=uF bG (i:=2) (body:=(bI (cX (bD (aA aZ (dX "list" (aa 2)))) (bD (aA aZ (bb (b3 false) (ab (aj .leaf 4 (aw (aa 2)) aH (uu (ax (bq false) (aa 4) (eK .none)) (ar 1 bC (ab (aa 4) ae)))) ae))))) (aD (eK (.bool false))) aC)) (Inv:=fun Γ=>∃x2,Γ=G x1 x2) (c:=fun _=>true) (q:=⟨.leaf,.none⟩) p.ranks (G x1 none) (fun k hkm Γ ⟨x2,hΓ⟩=>by
  subst hΓ;refine ⟨by simp [G],fun _=>?_,nofun⟩
  have c4:aj .leaf 4 (aw (aa 2)) aH (uu (ax (bq false) (aa 4) (eK .none)) (ar 1 bC (ab (aa 4) ae))) (G x1 (some ⟨.leaf,bG k⟩))=.ok ⟨.lst .leaf,.list (k.map fun _=>.bool true)⟩ (G x1 (some ⟨.leaf,bG k⟩)):=
   mq zD k (fun _=>⟨.leaf,.bool true⟩) (st:=true) (aL (s:=.leaf) (ao rfl) rfl) (by simp [G]) rfl (by have:=hr k hkm;omega) fun o ho=>⟨by
    cases o with
    | none=>
     unfold uu aX;rw [ay (d:=.bool true) (ao (i:=4) (d:=.none) rfl) (aQ (d:=.none)) rfl];rfl
    | some z=>exact v_or (s:=.leaf) (a:=false) (b:=true) (ay (ao (i:=4) (d:=.int z) rfl) (aQ (d:=.none)) rfl) (cH (az (ao (i:=4) (d:=.int z) rfl) ak) KQ.den_whole rfl rfl),rfl⟩
  have t:=cG (b4 (bW (s:=.leaf) (gV (c := "list") (b:=true) (ao (i:=2) (d:=bG k) (Γ:=G x1 (some ⟨.leaf,bG k⟩)) rfl) rfl))) (b4 (bW (s:=.leaf) (bc (az c4 ak) D1)))
  exact ⟨_,aO t nofun fun _=>rfl,_,rfl⟩) ⟨none,rfl⟩
 obtain ⟨_,e2,x2,rfl⟩:=f2 (List.all_eq_true.mpr fun _ _=>rfl)
 refine aG (ai s1 (ai (bu (aL (s:=.leaf) (i0 none none) rfl) e1) (ai (bu (aL (s:=.leaf) (i2 x1 none) rfl) e2) (aE (cH (az (i1 _ _) (az (uh (i1 _ _) rfl) ak)) (by rw [hk];exact jv hkl) rfl rfl) rfl))))
theorem pU {c:Str} (h:c∈aN):(PyData.str c).shown.length<=10/\PyData.strOk (PyData.str c).shown=true/\PyData.strOk c=true:=by
 unfold aN at h;simp only [mem_cons,not_mem_nil,or_false] at h
 rcases h with rfl | rfl | rfl | rfl | rfl | rfl<;>exact ⟨by decide +kernel,by decide +kernel,by decide +kernel⟩
structure Tx (d:D) (n e:Nat):Prop where
 lay:d.canLay0=true
 show':d.showable=true
 dep:d.depth<=e
 len:um d<=n
 ok:iH d=true
structure TxL (ds:List D) (n e:Nat):Prop where
 lay:PyData.canLayAll0 ds=true
 show':PyData.showableAll ds=true
 dep:PyData.depthAll ds<=e
 len:rzSL ds<=n
 ok:txOkL ds=true
theorem TxL.of {f:α->D}:∀(l:List α),(∀a∈l,Tx (f a) n e)->TxL (l.map f) ((n+2)*l.length) e
 | [],_=>⟨rfl,rfl,by simp [PyData.depthAll],Nat.le_refl _,rfl⟩
 | a::l,h=>by
  have h1:=h a mem_cons_self
  have ih:=TxL.of l fun b hb=>h b (mem_cons_of_mem _ hb)
  refine ⟨?_,?_,?_,?_,?_⟩
  ·rw [map_cons,PyData.canLayAll0,h1.lay,ih.lay];rfl
  ·rw [map_cons,PyData.showableAll,h1.show',ih.show'];rfl
  ·rw [map_cons,PyData.depthAll]
   have:=h1.dep
   have:=ih.dep
   omega
  ·have:=h1.len
   have:=ih.len
   show (um (f a)+2)+rzSL (l.map f)<=_
   rw [length_cons,Nat.mul_add];omega
  ·show (iH (f a)&&txOkL (l.map f))=true
   rw [h1.ok,ih.ok];rfl
theorem TxL.list {ds:List D} (h:TxL ds n e):Tx (.list ds) (n+2) (e+1):=⟨by rw [PyData.canLay0];exact h.lay,by rw [PyData.showable];exact h.show',by rw [PyData.depth];have:=h.dep;omega,by show 2+rzSL ds<=_;have:=h.len;omega,h.ok⟩
theorem TxL.tup {ds:List D} {n e:Nat} (h:TxL ds n e):Tx (.tuple ds) (n+3) (e+1):=⟨by rw [PyData.canLay0];exact h.lay,by rw [PyData.showable];exact h.show',by rw [PyData.depth];have:=h.dep;omega,by show 3+rzSL ds<=_;have:=h.len;omega,h.ok⟩
theorem Tx.le {d:D} {n' e':Nat} (h:Tx d n e) (hn:n<=n') (he:e<=e'):Tx d n' e':=⟨h.lay,h.show',Nat.le_trans h.dep he,Nat.le_trans h.len hn,h.ok⟩
theorem DS {z:Int} (h:z.natAbs<1000):Tx (.int z) 1921 0:=by
 refine ⟨rfl,?_,Nat.le_refl _,Nat.le_refl _,rfl⟩
 rw [PyData.showable];refine decide_eq_true ?_
 have:z.natAbs.log2<10:=by
  by_cases h0:z.natAbs=0
  ·rw [h0];decide
  ·exact (Nat.log2_lt h0).mpr (by omega)
 omega
theorem tx_none:Tx .none 4 0:=⟨rfl,rfl,Nat.le_refl _,Nat.le_refl _,rfl⟩
theorem BE (h:∀c,o=some c->c∈aN):Tx (mD o) 10 0:=by
 cases o with
 | none=>exact tx_none.le (by omega) (Nat.le_refl _)
 | some c=>
  obtain ⟨h1,h2,h3⟩:=pU (h c rfl);exact ⟨by show PyData.canLay0 (.str c)=true;rw [PyData.canLay0];exact h3,rfl,Nat.le_refl _,h1,h2⟩
theorem yx {r:FRow} (hg:r.g.length<=20) (hz:∀z∈r.g,z.natAbs<1000) (hm:∀c,r.m=some c->c∈aN):Tx r.enc 40000 2:=by
 have h1:Tx (iL r.g) (1923*r.g.length+2) 1:=(TxL.of (f:=PyData.int) r.g fun z hz'=>DS (hz z hz')).list
 have h2:=BE hm
 have:TxL [iL r.g,mD r.m] (1923*r.g.length+2+2+(10+2)) 1:=by
  refine ⟨?_,?_,?_,?_,?_⟩
  ·rw [PyData.canLayAll0,h1.lay,PyData.canLayAll0,h2.lay];rfl
  ·rw [PyData.showableAll,h1.show',PyData.showableAll,h2.show'];rfl
  ·rw [PyData.depthAll,PyData.depthAll,PyData.depthAll]
   have:=h1.dep
   have:=h2.dep
   omega
  ·show (um (iL r.g)+2)+((um (mD r.m)+2)+0)<=_
   have:=h1.len
   have:=h2.len
   omega
  ·show (iH (iL r.g)&&(iH (mD r.m)&&true))=true
   rw [h1.ok,h2.ok];rfl
 exact this.tup.le (by omega) (by omega)
structure Pap.Small (p:Pap):Prop where
 ok:p.Ok
 rl:p.rows.length<=20
 gl:∀r∈p.rows,r.g.length<=20
 rz:∀r∈p.rows,∀z∈r.g,z.natAbs<1000
 rm':∀r∈p.rows,∀c,r.m=some c->c∈aN
 kl:p.kept.length<=60
 kz:∀z∈p.kept,z.natAbs<1000
 nl:p.ranks.length<=20
 nk:∀k∈p.ranks,k.length<=30
 nz:∀k∈p.ranks,∀z,some z∈k->z.natAbs<1000
theorem tK {p:Pap} (h:p.Small):xR [p.enc]=some (.str p.enc.shown)/\PyData.strOk p.enc.shown=true:=by
 have h1:Tx (aW p.rows) (40002*p.rows.length+2) 3:=(TxL.of (f:=FRow.enc) p.rows fun r hr=>yx (h.gl r hr) (h.rz r hr) (h.rm' r hr)).list
 have h2:Tx (iL p.kept) (1923*p.kept.length+2) 1:=(TxL.of (f:=PyData.int) p.kept fun z hz'=>DS (h.kz z hz')).list
 have hk:∀k∈p.ranks,Tx (bG k) 60000 1:=fun k hk=>by
  have:Tx (bG k) (1923*k.length+2) 1:=(TxL.of (f:=zD) (n:=1921) (e:=0) k fun o ho=>by
   cases o with
   | none=>exact tx_none.le (by omega) (Nat.le_refl _)
   | some z=>exact DS (h.nz k hk z ho)).list
  have l:=h.nk k hk
  exact this.le (by omega) (by omega)
 have h3:Tx (.list (p.ranks.map bG)) (60002*p.ranks.length+2) 2:=(TxL.of (f:=bG) p.ranks hk).list
 have rl:=h.rl
 have kl:=h.kl
 have nl:=h.nl
 have:TxL [aW p.rows,iL p.kept,.list (p.ranks.map bG)] 3000000 3:=by
  refine ⟨?_,?_,?_,?_,?_⟩
  ·rw [PyData.canLayAll0,h1.lay,PyData.canLayAll0,h2.lay,PyData.canLayAll0,h3.lay];rfl
  ·rw [PyData.showableAll,h1.show',PyData.showableAll,h2.show',PyData.showableAll,h3.show'];rfl
  ·rw [PyData.depthAll,PyData.depthAll,PyData.depthAll,PyData.depthAll]
   have:=h1.dep
   have:=h2.dep
   have:=h3.dep
   omega
  ·show (um (aW p.rows)+2)+((um (iL p.kept)+2)+((um (.list (p.ranks.map bG))+2)+0))<=_
   have:=h1.len
   have:=h2.len
   have:=h3.len
   omega
  ·show (iH (aW p.rows)&&(iH (iL p.kept)&&(iH (.list (p.ranks.map bG))&&true)))=true
   rw [h1.ok,h2.ok,h3.ok];rfl
 have t:Tx p.enc 3000003 4:=this.tup
 have big:(10000000:Nat)<=sizeLine:=by decide
 have hs:=jj p.enc t.show'
 have hl:=t.len
 have hd:=t.dep
 refine ⟨?_,hJ _ t.ok⟩
 show (if zP p.enc&&p.enc.canLay0&&p.enc.showable&&decide (p.enc.depth<=50)&&decide (p.enc.shown.length<=sizeLine) then some (PyData.str p.enc.shown) else none)=_
 rw [t.lay,t.show',decide_eq_true (show p.enc.depth<=50 by omega),decide_eq_true (show p.enc.shown.length<=sizeLine by omega)]
 rfl
theorem qP {p:Pap} (h:p.Small) (h5:Γ[5]?=some (some ⟨kT,p.enc⟩)) (hl:Γ.length=10):yd 5 8 9 Γ=.nx (((Γ.set 5 none).set 8 none).set 9 none):=by
 unfold yd;rw [h5];show (if (p.rows.map FRow.enc).all yg&&(p.ranks.map bG).all xU&&decide ((p.rows.map FRow.enc).length<=999)&&decide ((p.kept.map PyData.int).length<=1000)&&decide ((p.ranks.map bG).length<=1000)&&decide (5≠8)&&decide (5≠9)&&decide (8<Γ.length)&&decide (9<Γ.length) then _ else _)=_
 have rl:=h.rl
 have kl:=h.kl
 have nl:=h.nl
 have e1:(p.rows.map FRow.enc).all yg=true:=by
  rw [all_map,all_eq_true];intro r hr;refine decide_eq_true ?_
  rw [length_map];have:=h.gl r hr
  omega
 have e2:(p.ranks.map bG).all xU=true:=by
  rw [all_map,all_eq_true];intro k hk;refine decide_eq_true ?_
  rw [length_map];have:=h.nk k hk
  omega
 rw [e1,e2,decide_eq_true (show (p.rows.map FRow.enc).length<=999 by rw [length_map];omega),decide_eq_true (show (p.kept.map PyData.int).length<=1000 by rw [length_map];omega),decide_eq_true (show (p.ranks.map bG).length<=1000 by rw [length_map];omega),decide_eq_true (show 8<Γ.length by omega),decide_eq_true (show 9<Γ.length by omega)]
 rfl
noncomputable abbrev GW (xs:List D) (w:Wd) (R:List Nat) (M:List Str) (x5 x6 x7:Option PV):Ev:=[some ⟨.leaf,.list xs⟩,some ⟨.leaf,w.enc⟩,some ⟨.leaf,aq R⟩,some ⟨.leaf,bw M⟩,some ⟨.leaf,.list [w.enc,aq R,bw M]⟩,x5,x6,x7,none,none]
theorem yt {i:Nat} {ss:List Sh} {d:D} (h:Γ[i]?=some (some ⟨.tup ss,d⟩)):aa i Γ=.ok ⟨.view,d⟩ Γ:=by unfold aa;rw [h]
theorem wz {xs:List D} (hx:gJ xs):sI [.list xs]=.ok ⟨.leaf,.bool true⟩:=by
 obtain ⟨n,os,ms,ss,e0,g,h1,h6⟩:=qc hx (at':=0) (lim:=6) (by omega) (by omega) (by omega)
 obtain ⟨w,ok,ew,en⟩:=BF g h1 (by omega)
 rw [<-ew] at e0;have h24:=ok.h24
 have hn6:w.n<=6:=by omega
 obtain ⟨c7,hc7⟩:=C4 hx (k:=7) (by omega)
 obtain ⟨c8,hc8⟩:=C4 hx (k:=8) (by omega)
 obtain ⟨R,er,sR⟩:=KQ.den_rooms (c:=c7) (n:=w.n) h24
 obtain ⟨M,em,hM,ea,hm3⟩:=KQ.den_lmarks (c:=c8)
 obtain ⟨P,ep,hP⟩:=KQ.den_pairs ok hn6 sR;have ef:=KQ.den_lfair ok sR hM hm3 ep
 obtain ⟨rows,K,F,et,sK,hE,hRk,hpap,hok,hnat,hrl,fK,bK⟩:=tH ok sR hM ea (by omega)
 have hK:KQ.dueL w R M P=K:=(sR.filter _:Std w.n (KQ.dueL w R M P)).ext sK fun r _=>⟨fun h=>bK _ (Au sR.lt) r ((KQ.due_iff hP).mp h),fun h=>(KQ.due_iff hP).mpr (wq fK r h)⟩
 rw [hK] at ef;have hKl:=sK.len
 have hMs:∀x∈M,PyData.strOk x=true:=fun x hx=>(qK (hM x hx)).1
 have hlenN:∀off:List Nat,(∀x∈off,x<w.n)->(bF off).Pairwise (· < ·)->off.length<=6:=fun off ho hp=>by
  have nd:off.Nodup:=by
   rw [pairwise_map] at hp;exact hp.imp fun z=>by omega
  exact Nat.le_trans (Bo nd ho) hn6
 have hris:∀(rows:List FRow) (L K:List Nat),sJ w M L rows=some K->∀r∈rows,r.g.Pairwise (· < ·):=fun rows=>by
  induction rows with
  | nil=>intro L K _ r hr;cases hr
  | cons a rest ih=>
   intro L K e r hr;have e:lC (b5 w M) L (a::rest)=some K:=e
   rw [lC] at e
   cases hb:cV w L M a with
   | false=>
    have:b5 w M L a=none:=by unfold b5;rw [hb];rfl
    rw [this] at e
    cases e
   | true=>
    have:b5 w M L a=some (lK L a.g):=by unfold b5;rw [hb];rfl
    rw [this] at e;rcases List.mem_cons.mp hr with rfl | hr
    ·have hc:=(Bool.and_eq_true_iff.mp hb).1
     simp only [oQ,Bool.and_eq_true] at hc
     exact of_decide_eq_true hc.1.2
    ·exact ih _ _ e r hr
 have hby:sJ w M R rows=some K:=by
  unfold mT at hpap;dsimp only at hpap;split at hpap
  ·cases hpap
  ·rename_i K' e
   rw [e];simp only [Bool.and_eq_true,decide_eq_true_eq] at hpap
   have:=congrArg (List.map Int.toNat) hpap.1.1.1
   rw [C0,C0] at this;rw [this]
 have hgl:∀r∈rows,r.g.length<=6:=fun r hr=>by
  obtain ⟨off,e,ho⟩:=hnat r hr;have hp:=hris rows R K hby r hr
  rw [e] at hp ⊢;have:=hlenN off ho hp
  rw [length_map];exact this
 have hrk:∀c∈M,(F c).length=w.n:=fun c hc=>(hRk c hc).r.len
 have small:(Pap.mk rows (bF K) (M.map fun c=>cI (F c))).Small:=by
  refine ⟨⟨fun r hr=>(hok r hr).1,fun k hk=>?_⟩,by show rows.length<=20;omega,fun r hr=>by have:=hgl r hr;omega,fun r hr z hz=>?_,fun r hr c hc=>hM c ((hok r hr).2 c hc),by show (bF K).length<=60;rw [length_map];omega,fun z hz=>?_,by show (M.map _).length<=20;rw [length_map];omega,fun k hk=>?_,fun k hk z hz=>?_⟩
  ·obtain ⟨c,hc,rfl⟩:=List.mem_map.mp hk
   have:=hrk c hc
   unfold cI;rw [length_map];omega
  ·obtain ⟨off,e,ho⟩:=hnat r hr
   rw [e] at hz;obtain ⟨x,hx,rfl⟩:=List.mem_map.mp hz;have:=ho x hx
   show ((x:Int)).natAbs<1000
   omega
  ·obtain ⟨x,hx,rfl⟩:=List.mem_map.mp hz
   have:=sK.lt x hx
   show ((x:Int)).natAbs<1000
   omega
  ·obtain ⟨c,hc,rfl⟩:=List.mem_map.mp hk
   have:=hrk c hc
   unfold cI;rw [length_map];omega
  ·obtain ⟨c,hc,rfl⟩:=List.mem_map.mp hk
   unfold cI at hz;obtain ⟨o,ho,eo⟩:=List.mem_map.mp hz
   cases o with
   | none=>cases eo
   | some k=>
    cases eo;obtain ⟨r,hr,er⟩:=getElem_of_mem ho;have hrn:r<w.n:=by rw [<-hrk c hc];exact hr
    have:=(hRk c hc).lt r k hrn (by unfold bf;rw [getD_eq_getElem?_getD,getElem?_eq_getElem hr,er];rfl)
    show ((k:Int)).natAbs<1000
    omega
 have hforms:cm [(Pap.mk rows (bF K) (M.map fun c=>cI (F c))).enc]=.ok ⟨.leaf,.bool true⟩:=nh (K:=K) (fun r hr=>by
  obtain ⟨off,e,ho⟩:=hnat r hr;have:=hgl r hr
  rw [e,length_map] at this;exact ⟨off,e,by omega⟩) rfl (by omega) fun k hk=>by have:=small.nk k hk;omega
 have hlp:=nc ok sR hM (by omega) small.ok
 have hpp:=qg ok sR hM ea (by omega) small.ok
 rw [hpap] at hlp hpp
 obtain ⟨rep,repok⟩:=tK small;have hfew:∀c∈M,bS [w.enc,aq K,.str c,bG (cI (F c))]=.ok ⟨.leaf,.bool true⟩:=fun c hc=>wA ok sK hE hc (hM c hc) (hRk c hc)
 have penc:(Pap.mk rows (bF K) (M.map fun c=>cI (F c))).enc=.tuple [aW rows,aq K,.list ((M.map fun c=>cI (F c)).map bG)]:=by unfold Pap.enc;rw [<-gp]
 generalize hp:Pap.mk rows (bF K) (M.map fun c=>cI (F c))=p at et hforms hlp hpp rep repok small penc
 clear hpap hp;have shn:shaped (.list [w.enc,aq R,bw M])=true:=KQ.sh_handed ok hMs
 have tnh:∀x5 x6 x7,aA ag (ax cw (aa 4) (br .leaf (ab (aa 1) (ab (aa 2) (ab (aa 3) ae))))) (GW xs w R M x5 x6 x7)=.ok false (GW xs w R M x5 x6 x7):=fun _ _ _=>bJ (s:=.leaf) (ay (g:=cw) (ao (i:=4) rfl) (nJ (s:=.leaf) (az (ao (i:=1) rfl) (az (ao (i:=2) rfl) (az (ao (i:=3) rfl) ak))) rfl rfl rfl) (lh shn))
 have hh0:∀x5 x6 x7,af (aa 4) (eK (.int 0)) (GW xs w R M x5 x6 x7)=.ok ⟨.leaf,w.enc⟩ (GW xs w R M x5 x6 x7):=fun _ _ _=>qI (j:=0) (ao rfl) aQ rfl rfl rfl
 have hh1:∀x5 x6 x7,af (aa 4) (eK (.int 1)) (GW xs w R M x5 x6 x7)=.ok ⟨.leaf,aq R⟩ (GW xs w R M x5 x6 x7):=fun _ _ _=>qI (j:=1) (ao rfl) aQ rfl rfl rfl
 have hh2:∀x5 x6 x7,af (aa 4) (eK (.int 2)) (GW xs w R M x5 x6 x7)=.ok ⟨.leaf,bw M⟩ (GW xs w R M x5 x6 x7):=fun _ _ _=>qI (j:=2) (ao rfl) aQ rfl rfl rfl
 have tell:∀x5 x6 x7,ar 3 bY (ab (af (aa 4) (eK (.int 0))) (ab (af (aa 4) (eK (.int 1))) (ab (af (aa 4) (eK (.int 2))) ae))) (GW xs w R M x5 x6 x7)=.ok ⟨kT,p.enc⟩ (GW xs w R M x5 x6 x7):=fun _ _ _=>cH (az (hh0 _ _ _) (az (hh1 _ _ _) (az (hh2 _ _ _) ak))) et rfl rfl
 have v5:∀x6 x7,aa 5 (GW xs w R M (some ⟨kT,p.enc⟩) x6 x7)=.ok ⟨.view,p.enc⟩ (GW xs w R M (some ⟨kT,p.enc⟩) x6 x7):=fun _ _=>yt rfl
 have i51:∀x6 x7,af (aa 5) (eK (.int 1)) (GW xs w R M (some ⟨kT,p.enc⟩) x6 x7)=.ok ⟨.view,aq K⟩ (GW xs w R M (some ⟨kT,p.enc⟩) x6 x7):=fun x6 x7=>by
  have h:=v5 x6 x7
  rw [penc] at h;rw [penc];exact gK (j:=1) (ds:=[aW rows,aq K,.list ((M.map fun c=>cI (F c)).map bG)]) h aQ rfl rfl rfl
 have i52:∀x6 x7,af (aa 5) (eK (.int 2)) (GW xs w R M (some ⟨kT,p.enc⟩) x6 x7)=.ok ⟨.view,.list ((M.map fun c=>cI (F c)).map bG)⟩ (GW xs w R M (some ⟨kT,p.enc⟩) x6 x7):=fun x6 x7=>by
  have h:=v5 x6 x7
  rw [penc] at h;rw [penc];exact gK (j:=2) (ds:=[aW rows,aq K,.list ((M.map fun c=>cI (F c)).map bG)]) h aQ rfl rfl rfl
 refine aG ?_
 refine ai (dC (cH (az (ao rfl) (az aQ (az aQ ak))) e0 rfl rfl) rfl (by simp [bh])) ?_
 refine ai (dC (cH (az (cH (az (ao rfl) (az aQ ak)) hc7 rfl rfl) (az (uX ok rfl) ak)) er rfl rfl) rfl (by simp [bh])) ?_
 refine ai (dC (cH (az (cH (az (ao rfl) (az aQ ak)) hc8 rfl rfl) ak) em rfl rfl) rfl (by simp [bh])) ?_
 refine ai (Γ1:=GW xs w R M none none none) (dC (nJ (s:=.leaf) (az (cH (az (ao rfl) ak) (KQ.den_twinQ ok) rfl rfl) (az (uh (ao rfl) rfl) (az (uh (ao rfl) rfl) ak))) rfl rfl rfl) rfl (by simp [bh])) ?_
 refine ai (Γ1:=GW xs w R M (some ⟨kT,p.enc⟩) none none) (mE (tell none none none) rfl (by simp)) ?_
 refine ai (Γ1:=GW xs w R M (some ⟨kT,p.enc⟩) none none) (aO (t:=false) (cG (b4 (b:=true) (bW (s:=.leaf) (KQ.v_callS (az (v5 _ _) ak) hforms rfl rfl))) (cG (b4 (b:=true) (bW (s:=.leaf) (KQ.v_callS (az (ao (i:=1) rfl) (az (ao (i:=2) rfl) (az (ao (i:=3) rfl) (az (v5 _ _) ak)))) hlp rfl rfl))) (tnh _ _ _))) nofun fun _=>rfl) ?_
 refine ai (Γ1:=GW xs w R M (some ⟨kT,p.enc⟩) none none) (aO (t:=false) (bJ (s:=.leaf) (ay (g:=cw) (i51 _ _) (cH (az (ao (i:=1) rfl) (az (ao (i:=2) rfl) (az (ao (i:=3) rfl) ak))) ef rfl rfl) (zB rfl))) nofun fun _=>rfl) ?_
 obtain ⟨f1,_⟩:=uF rm (i:=6) (body:=(bI (bD (aA aZ (ar 4 bS (ab (aa 1) (ab (af (aa 5) (eK (.int 1))) (ab (af (aa 3) (aa 6)) (ab (af (af (aa 5) (eK (.int 2))) (aa 6)) ae))))))) (aD (eK (.bool false))) aC)) (Inv:=fun Γ=>∃x6,Γ=GW xs w R M (some ⟨kT,p.enc⟩) x6 none) (c:=fun _=>true) (q:=⟨.leaf,.none⟩) (List.range M.length) (GW xs w R M (some ⟨kT,p.enc⟩) none none) (fun k hk Γ ⟨x6,hΓ⟩=>by
  subst hΓ;refine ⟨by simp,fun _=>?_,nofun⟩
  have hk:=List.mem_range.mp hk
  have m1:M[k]?=some M[k]:=getElem?_eq_getElem hk
  have t:=b4 (bW (s:=.leaf) (KQ.v_callS (n:=4) (az (ao (i:=1) (Γ:=GW xs w R M (some ⟨kT,p.enc⟩) (some ⟨.leaf,rm k⟩) none) rfl) (az (i51 _ _) (az (qI (j:=k) (ds:=M.map PyData.str) (ao (i:=3) rfl) (ao (i:=6) (d:=rm k) rfl) (wX (by rw [length_map];exact hk)) (by rw [getElem?_map,m1];rfl) rfl) (az (qI (j:=k) (ds:=(M.map fun c=>cI (F c)).map bG) (d:=bG (cI (F M[k]))) (i52 _ _) (ao (i:=6) (d:=rm k) rfl) (wX (by rw [length_map,length_map];exact hk)) (by rw [getElem?_map,getElem?_map,m1];rfl) rfl) ak)))) (hfew M[k] (getElem_mem hk)) rfl rfl))
  exact ⟨_,aO t nofun fun _=>rfl,_,rfl⟩) ⟨none,rfl⟩
 obtain ⟨_,e6,x6,rfl⟩:=f1 (List.all_eq_true.mpr fun _ _=>rfl)
 refine ai (bu (mj (s:=.leaf) (n:=M.length) (by omega) (az (bc (az (ao (i:=3) rfl) ak) xk) ak)) e6) ?_
 refine ai (Γ1:=GW xs w R M (some ⟨kT,p.enc⟩) x6 none) (aO (t:=false) (cG (a:=false) (bJ (s:=.leaf) (ay (g:=tp true) (d:=.bool false) (KQ.v_callS (az (hh0 _ _ _) (az (hh1 _ _ _) (az (hh2 _ _ _) (az (v5 _ _) ak)))) hpp rfl rfl) (aQ (d:=.bool true)) rfl)) (tnh _ _ _)) nofun fun _=>rfl) ?_
 refine ai (Γ1:=GW xs w R M (some ⟨kT,p.enc⟩) x6 (some ⟨.leaf,.str p.enc.shown⟩)) (dC (bc (az (v5 _ _) ak) rep) rfl (by simp)) ?_
 refine ai (Γ1:=GW xs w R M none x6 (some ⟨.leaf,.str p.enc.shown⟩)) ((qP small rfl rfl).trans rfl) ?_
 exact aE (ay (g:=cJ) (bc (az (tell _ _ _) ak) rep) (ao (i:=7) rfl) (lM (uY repok))) rfl
theorem law_true (ns:List Int) (hl:ns.length<=63):sI [.list (ns.map .int)]=.ok ⟨.leaf,.bool true⟩:=wz rowI_map
end
end KQ.F
namespace KQ.F
open PySem PySem.Spec L2 T TQ
open PyProof.Rows hiding St
open KC
noncomputable def de (n:Nat):Stmt:=(PySem.Challenge.pw_foreseehall_k53_fair_papers_told.main.body)[n]!
noncomputable def kF:Stmt:=de 9
noncomputable def kI:Stmt:=de 10
noncomputable def kH:Stmt:=de 11
noncomputable def kG:Stmt:=de 12
noncomputable def mO:Stmt:=de 13
noncomputable def iK:Stmt:=de 14
noncomputable def iM:Stmt:=de 15
noncomputable def rG:Stmt:=de 17
noncomputable def mP:Stmt:=de 18
noncomputable def iJ:Stmt:=de 19
noncomputable def iI:Stmt:=de 20
noncomputable def mN:Stmt:=de 21
noncomputable def mM:Stmt:=de 22
noncomputable def jO:Stmt:=de 24
noncomputable def fZ:Stmt:=de 25
noncomputable def pj:Stmt:=de 26
noncomputable def gc:Stmt:=de 27
noncomputable def jN:Stmt:=de 29
noncomputable def jM:Stmt:=de 30
noncomputable def gY:Stmt:=de 31
noncomputable def pk:Stmt:=de 32
noncomputable def gf:Stmt:=de 33
noncomputable def eH:Stmt:=de 34
noncomputable def gg:Stmt:=de 35
noncomputable def g0:Stmt:=de 37
noncomputable def kL:Stmt:=de 38
noncomputable def jP:Stmt:=de 39
noncomputable def kJ:Stmt:=de 40
noncomputable def jQ:Stmt:=de 41
noncomputable def gZ:Stmt:=de 42
noncomputable def jR:Stmt:=de 43
noncomputable def jS:Stmt:=de 44
noncomputable def kK:Stmt:=de 45
noncomputable def jT:Stmt:=de 46
noncomputable def fG:Stmt:=de 47
noncomputable def eJ:Stmt:=de 48
noncomputable def gh:Stmt:=de 49
noncomputable def iN:Stmt:=de 50
noncomputable def iO:Stmt:=de 51
noncomputable def BO:Stmt:=de 52
structure Gl (K:Fg) (mg:Str->Option Value):Prop where
 n0:mg "len"=none
 n1:mg "range"=none
 n2:mg "all"=none
 n3:mg "any"=none
 n4:mg "list"=none
 n5:mg "zip"=none
 n6:mg "int"=none
 n7:mg "isinstance"=none
 n8:mg "bool"=none
 n9:mg "sorted"=none
 n10:mg "set"=none
 n11:mg "tuple"=none
 n12:mg "min"=none
 n13:mg "repr"=none
 h0:nH K mg "LETTERS" cg
 h1:nH K mg "MOST_ROOMS" dt
 h2:nH K mg "PLAYERS" cf
structure Al (K:Fg) (mg:Str->Option Value):Prop where
 g:Gl K mg
 f0:Ft K mg "is_rising" kF
 f1:Ft K mg "are_marks" kI
 f2:Ft K mg "are_rooms" kH
 f3:Ft K mg "are_steps" kG
 f4:Ft K mg "is_world" mO
 f5:Ft K mg "check_world" iK
 f6:Ft K mg "check_rooms" iM
 f7:Ft K mg "is_led" rG
 f8:Ft K mg "is_lower" mP
 f9:Ft K mg "lower_steps" iJ
 f10:Ft K mg "ranked_next" iI
 f11:Ft K mg "ranks_to" mN
 f12:Ft K mg "steps_to" mM
 f13:Ft K mg "check_fair" jO
 f14:Ft K mg "steps_to_mark" fZ
 f15:Ft K mg "row_off" pj
 f16:Ft K mg "rows_and_kept" gc
 f17:Ft K mg "fair_paper" jN
 f18:Ft K mg "left_ahead" jM
 f19:Ft K mg "is_row_right" gY
 f20:Ft K mg "left_by" pk
 f21:Ft K mg "is_rank_right" gf
 f22:Ft K mg "are_ranks_right" eH
 f23:Ft K mg "is_fair_paper" gg
 f24:Ft K mg "_law_cell_at" g0
 f25:Ft K mg "_law_draw" kL
 f26:Ft K mg "_law_world" jP
 f27:Ft K mg "_law_twin" kJ
 f28:Ft K mg "_law_whole" jQ
 f29:Ft K mg "_law_numbers" gZ
 f30:Ft K mg "_law_rooms" jR
 f31:Ft K mg "_law_pairs" jS
 f32:Ft K mg "_law_fair" kK
 f33:Ft K mg "_law_marks" jT
 f34:Ft K mg "_law_row_holds" fG
 f35:Ft K mg "_law_ranks_hold" eJ
 f36:Ft K mg "_law_is_paper" gh
 f37:Ft K mg "_law_formed" iN
 f38:Ft K mg "_law_fewest" iO
 f39:Ft K mg "law" BO
section
variable {P:Program} {w:World} {K:Fg} {mg:Str->Option Value} {base:Heap} (A:Al K mg)
include A
theorem ES:DefOk P w K mg base 1 "is_rising" 1 cn:=mk A.f0 A.g ["entries"] xI ["k"] ["len", "range", "all"] [0] [0] [0,1,2] fun X S I hp=>
 (bH (mB S 2 rfl rfl I.e.n2 (aM (dR [0,1] [0] [] S 1 (By S 1 rfl rfl I.e.n1 (aU aS (aM (d5 S 0 I.e.n0 (aM (ah S 0))))) (rB rfl rfl) (cZ rfl)) (fun _ _ _=>gP) (fun Y1 S1 F1=>have I:=F1.i I;(fD (mR I.r) (bj (ah S1 0) (qU (ah S1 1) aS)) (bj (ah S1 0) (ah S1 1)))))) (cj rfl) rfl))
theorem fV:DefOk P w K mg base 2 "are_marks" 1 bp:=mk A.f1 A.g ["entries"] xI ["entry"] ["LETTERS", "all", "is_rising"] [0] [] [1,2] fun X S I hp=>
 (bH (qy (mB S 1 rfl rfl I.e.n2 (aM (dR [1] [] [0] S 1 (b6 (ah S 0)) (fun _ _ _=>gP) (fun Y1 S1 F1=>have I:=F1.i I;(fD (cx I.r) (ah S1 1) (yq S1 0 rfl rfl I.e.h0))))) (cj rfl) rfl) (qA (b7 S 2 (I.c (ES A)) (aM (ah S 0))))))
theorem fU:DefOk P w K mg base 2 "are_rooms" 2 cp:=mk A.f2 A.g ["entries", "size"] wM ["entry"] ["all", "is_rising"] [0,1] [1] [0,1] fun X S I hp=>
 (bH (qy (mB S 0 rfl rfl I.e.n2 (aM (dR [1,2] [1] [] S 2 (b6 (ah S 0)) (fun _ _ _=>gP) (fun Y1 S1 F1=>have I:=F1.i I;(BB (FT I.r) (mR I.r) aS (ah S1 2) (ah S1 1) (by with_unfolding_all rfl))))) (cj rfl) rfl) (qA (b7 S 1 (I.c (ES A)) (aM (ah S 0))))))
theorem kY:DefOk P w K mg base 3 "are_steps" 2 cL:=mk A.f3 A.g ["entries", "size"] wM [] ["len", "are_rooms"] [0,1] [] [0,1] fun X S I hp=>
 (bH (qy (fD (gq I.r) (d5 S 0 I.e.n0 (aM (ah S 0))) aS) (qA (b7 S 1 (I.c (fU A)) (aU (ah S 0) (aM (ah S 1)))))))
theorem mW:DefOk P w K mg base 4 "is_world" 3 dj:=mk A.f4 A.g ["owners", "marks", "steps"] qG ["size", "owner", "row"] ["len", "MOST_ROOMS", "PLAYERS", "all", "are_marks", "are_steps"] [0,1,2,3] [3] [0,1,3] fun X S I hp=>
 (bg (cU S false 3 (d5 S 0 I.e.n0 (aM (ah S 0)))) (bg (cY (iE (gQ (bE (mR I.r) (ah S 3) aS) (gQ (bE (gq I.r) (ah S 3) (yq S 1 rfl rfl I.e.h1)) (gQ (bE (df I.r) (d5 S 0 I.e.n0 (aM (ah S 1))) (ah S 3)) (mC (bE (df I.r) (d5 S 0 I.e.n0 (aM (ah S 2))) (ah S 3))))))) (bH dZ) da) (bg (cY (iF (fC (mB S 3 rfl rfl I.e.n2 (aM (dR [4] [] [2] S 4 (b6 (ah S 0)) (fun _ _ _=>gP) (fun Y1 S1 F1=>have I:=F1.i I;(fD (cx I.r) (ah S1 4) (yq S1 2 rfl rfl I.e.h2))))) (cj rfl) rfl) (fun _=>rfl))) (bH dZ) da) (bH (qy (mB S 3 rfl rfl I.e.n2 (aM (dR [5] [] [4] S 5 (b6 (ah S 1)) (fun _ _ _=>gP) (fun Y2 S2 F2=>have I:=F2.i I;(b7 S2 4 (I.c (fV A)) (aM (ah S2 5)))))) (cj rfl) rfl) (qA (mB S 3 rfl rfl I.e.n2 (aM (dR [3,5] [3] [5] S 5 (b6 (ah S 2)) (fun _ _ _=>gP) (fun Y3 S3 F3=>have I:=F3.i I;(b7 S3 5 (I.c (kY A)) (aU (ah S3 5) (aM (ah S3 3))))))) (cj rfl) rfl)))))))
theorem iT:DefOk P w K mg base 5 "check_world" 1 ck:=mk A.f5 A.g ["world"] xI [] ["is_world"] [0] [] [0] fun X S I hp=>
 (dP (cY (iF (fC (b7 S 0 (I.c (mW A)) (aU (bj (ah S 0) aS) (aU (bj (ah S 0) aS) (aM (bj (ah S 0) aS))))) (fun _=>rfl))) (dP Ey) da))
theorem iU:DefOk P w K mg base 3 "check_rooms" 2 cQ:=mk A.f6 A.g ["world", "rooms"] wM [] ["len", "are_rooms"] [0,1] [] [0,1] fun X S I hp=>
 (dP (cY (iF (fC (b7 S 1 (I.c (fU A)) (aU (ah S 1) (aM (d5 S 0 I.e.n0 (aM (bj (ah S 0) aS)))))) (fun _=>rfl))) (dP Ey) da))
theorem sx:DefOk P w K mg base 1 "is_led" 2 cW:=mk A.f7 A.g ["is_chosen", "by_steps"] wM [] ["any", "all"] [0,1] [] [0,1] fun X S I hp=>
 (bH (nN (fC (ah S 0) (fun _=>rfl)) (El S 0 rfl rfl I.e.n3 (aM (ah S 1)) (cj rfl) rfl) (mB S 1 rfl rfl I.e.n2 (aM (ah S 1)) (cj rfl) rfl)))
theorem mX:DefOk P w K mg base 1 "is_lower" 2 eC:=mk A.f8 A.g ["rank", "other"] wM [] [] [0,1] [] [] fun X S I hp=>
 (bH (qy (fD (Br I.r) (ah S 0) jE) (qy (fD (Br I.r) (ah S 1) jE) (qA (fD (mR I.r) (ah S 0) (ah S 1))))))
theorem iS:DefOk P w K mg base 2 "lower_steps" 3 cP:=mk A.f9 A.g ["world", "ranks", "room"] qG ["there"] ["is_lower"] [0,1,2] [1,2] [] fun X S I hp=>
 (bH (dR [1,2,3] [1,2] [0] S 3 (b6 (bj (bj (ah S 0) aS) (ah S 2))) (fun Y1 S1 F1=>have I:=F1.i I;fY (fC (b7 S1 0 (I.c (mX A)) (aU (bj (ah S1 1) (ah S1 3)) (aM (bj (ah S1 1) (ah S1 2))))) (fun _=>rfl))) (fun Y1 S1 F1=>have I:=F1.i I;(ah S1 3))))
theorem iR:DefOk P w K mg base 2 "ranked_next" 4 bR:=mk A.f10 A.g ["world", "chosen", "through", "ranks"] uw ["found", "room", "there"] ["is_led"] [0,1,2,3,4,5] [3] [0] fun X S I hp=>
 (bg (cU S true 4 (mr .leaf qx)) (bg (jb S 5 rfl rfl hp (b6 (ah S 2)) (dP (cY (iE (yk (bE (iQ I.r) (bj (ah S 3) (ah S 5)) jE) (yn (fC (b7 S 0 (I.c (sx A)) (aU (bj (ah S 1) (ah S 5)) (aM (dR [3,6] [3] [] S 6 (b6 (bj (bj (ah S 0) aS) (ah S 5))) (fun _ _ _=>gP) (fun Y1 S1 F1=>have I:=F1.i I;(fD (Br I.r) (bj (ah S1 3) (ah S1 6)) jE)))))) (fun _=>rfl))))) (dP (Bb S 4 rfl rfl (ah S 5) (cZ rfl) rfl rfl rfl rfl)) da)) (fun _=>rfl)) (bH (gR S 4 rfl rfl))))
theorem mV:DefOk P w K mg base 3 "ranks_to" 4 eB:=mk A.f11 A.g ["world", "chosen", "through", "goal"] uw ["ranks", "rank", "fresh", "room", "owner"] ["ranked_next"] [0,1,2,3,4,5,6,7] [] [0] fun X S I hp=>
 (bg (qD (vs':=[8]) (cs':=[]) (lo':=[]) (gs':=[]) S true 4 .leaf 8 rfl rfl rfl rfl (by kernel_rfl) (by kernel_rfl) (by kernel_rfl) (b6 (bj (ah S 0) aS)) (fun _ _ _=>gP) (fun Y1 S1 F1=>jE) (fun _=>rfl)) (bg (cU S false 5 aS) (bg (cU S false 6 (ah S 3)) (bg (EO 1000 hp (fC (ah S 6) (fun _=>rfl)) (bg (jb S 7 rfl rfl hp (b6 (ah S 6)) (dP (o5 S 4 rfl rfl (ah S 5) (ah S 7) rfl rfl rfl (fun _=>rfl))) (fun _=>rfl)) (bg (qX S 5 rfl rfl aS) (dP (cU S false 6 (yr S 0 rfl rfl (I.c (iR A)) (aU (ah S 0) (aU (ah S 1) (aU (ah S 2) (aM (ah S 4))))) (cj rfl) rfl)))))) (bH (gR S 4 rfl rfl))))))
theorem mU:DefOk P w K mg base 4 "steps_to" 3 dg:=mk A.f12 A.g ["world", "through", "goal"] qG ["owner"] ["ranks_to"] [0,1,2] [] [0] fun X S I hp=>
 (bH (b7 S 0 (I.c (mV A)) (aU (ah S 0) (aU (dR [3] [] [] S 3 (b6 (bj (ah S 0) aS)) (fun _ _ _=>gP) (fun Y1 S1 F1=>dZ)) (aU (ah S 1) (aM (ah S 2)))))))
theorem eR:DefOk P w K mg base 6 "check_fair" 3 bM:=mk A.f13 A.g ["world", "rooms", "marks"] qG [] ["check_world", "are_marks", "check_rooms"] [0,1,2] [] [0,1,2] fun X S I hp=>
 (bg (C8 (b7 S 0 (I.c (iT A)) (aM (ah S 0))) rfl) (bg (cY (iF (fC (b7 S 1 (I.c (fV A)) (aM (ah S 2))) (fun _=>rfl))) (dP Ey) da) (dP (C8 (b7 S 2 (I.c (iU A)) (aU (ah S 0) (aM (ah S 1)))) rfl))))
theorem dy:DefOk P w K mg base 5 "steps_to_mark" 3 aP:=mk A.f14 A.g ["world", "rooms", "mark"] qG ["room"] ["steps_to"] [0,1,2] [0,2] [0] fun X S I hp=>
 (bH (b7 S 0 (I.c (mU A)) (aU (ah S 0) (aU (ah S 1) (aM (dR [0,2,3] [0,2] [] S 3 (b6 (ah S 1)) (fun Y1 S1 F1=>have I:=F1.i I;fY (bE (cx I.r) (ah S1 2) (bj (bj (ah S1 0) aS) (ah S1 3)))) (fun Y1 S1 F1=>have I:=F1.i I;(ah S1 3))))))))
theorem jn:DefOk P w K mg base 6 "row_off" 3 b9:=mk A.f15 A.g ["world", "left", "marks"] qG ["ended", "mark", "ranks", "lost", "room", "there"] ["any", "steps_to_mark"] [0,1,2,3,4,5,6] [0,1,5] [1] fun X S I hp=>
 (bg (qD (vs':=[0,1,7]) (cs':=[0,1]) (lo':=[]) (gs':=[0]) S true 3 .leaf 7 rfl rfl rfl rfl (by kernel_rfl) (by kernel_rfl) (by kernel_rfl) (b6 (ah S 1)) (fun Y1 S1 F1=>have I:=F1.i I;fY (iF (fC (El S1 0 rfl rfl I.e.n3 (aM (dR [1,8] [1] [] S1 8 (b6 (bj (bj (ah S1 0) aS) (ah S1 7))) (fun _ _ _=>gP) (fun Y2 S2 F2=>have I:=F2.i I;(fD (cx I.r) (ah S2 8) (ah S2 1))))) (cj rfl) rfl) (fun _=>rfl)))) (fun Y1 S1 F1=>have I:=F1.i I;(ah S1 7)) (fun _=>rfl)) (bg (cY (fC (ah S 3) (fun _=>rfl)) (bH (qz (aU (gR S 3 rfl rfl) (aM jE)))) da) (bg (jb S 4 rfl rfl hp (b6 (ah S 2)) (bg (cU S false 5 (b7 S 1 (I.c (dy A)) (aU (ah S 0) (aU (ah S 1) (aM (ah S 4)))))) (bg (qD (vs':=[5,7]) (cs':=[5]) (lo':=[]) (gs':=[]) S true 6 .leaf 7 rfl rfl rfl rfl (by kernel_rfl) (by kernel_rfl) (by kernel_rfl) (b6 (ah S 1)) (fun Y3 S3 F3=>have I:=F3.i I;fY (bE (iQ I.r) (bj (ah S3 5) (ah S3 7)) jE)) (fun Y3 S3 F3=>have I:=F3.i I;(ah S3 7)) (fun _=>rfl)) (dP (cY (fC (ah S 6) (fun _=>rfl)) (bH (qz (aU (gR S 6 rfl rfl) (aM (ah S 4))))) da)))) (fun _=>rfl)) (bH jE))))
theorem gu:DefOk P w K mg base 7 "rows_and_kept" 3 bT:=mk A.f16 A.g ["world", "rooms", "marks"] qG ["rows", "left", "row", "room"] ["list", "row_off"] [0,1,2,3,4,5] [5] [0,1] fun X S I hp=>
 (bg (cU S true 3 (mr (.tup [.lst .leaf,.leaf]) qx)) (bg (cU S true 4 (ui S 0 rfl rfl I.e.n4 (ah S 1) (cZ rfl))) (bg (cU S true 5 (qY S 1 rfl rfl (I.c (jn A)) (aU (ah S 0) (aU (ah S 4) (aM (ah S 2)))) (cj rfl) rfl)) (bg (EO 1000 hp (bE (Br I.r) (ah S 5) jE) (mF S 3 5 4 (iG (vs':=[5,6]) (cs':=[5]) (lo':=[]) (gs':=[]) S 4 .leaf 6 rfl rfl rfl rfl (by kernel_rfl) (by kernel_rfl) (by kernel_rfl) (b6 (ah S 4)) (fun Y1 S1 F1=>have I:=F1.i I;fY (bE (uG I.r) (ah S1 6) (bj (ah S1 5) aS))) (fun Y1 S1 F1=>have I:=F1.i I;(ah S1 6)) (fun _=>rfl)) (dP (cU S true 5 (qY S 1 rfl rfl (I.c (jn A)) (aU (ah S 0) (aU (ah S 4) (aM (ah S 2)))) (cj rfl) rfl))))) (bH (qz (aU (gR S 3 rfl rfl) (aM (gR S 4 rfl rfl)))))))))
theorem eQ:DefOk P w K mg base 8 "fair_paper" 3 bY:=mk A.f17 A.g ["world", "rooms", "marks"] qG ["both", "mark"] ["check_fair", "rows_and_kept", "steps_to_mark"] [0,1,2,3] [0,3] [0,1] fun X S I hp=>
 (bg (C8 (b7 S 0 (I.c (eR A)) (aU (ah S 0) (aU (ah S 1) (aM (ah S 2))))) rfl) (bg (cU S true 3 (b7 S 1 (I.c (gu A)) (aU (ah S 0) (aU (ah S 1) (aM (ah S 2)))))) (bH (uR S 3 (BA (vs':=[0,3,4]) (cs':=[0,3]) (lo':=[]) (gs':=[2]) S (.lst .leaf) 4 rfl (by kernel_rfl) (by kernel_rfl) (b6 (ah S 2)) (fun _ _ _=>gP) (fun Y1 S1 F1=>have I:=F1.i I;(b7 S1 2 (I.c (dy A)) (aU (ah S1 0) (aU (bj (ah S1 3) aS) (aM (ah S1 4)))))) (fun _=>rfl))))))
theorem eP:DefOk P w K mg base 1 "left_ahead" 3 bL:=mk A.f18 A.g ["world", "left", "rooms"] qG ["found", "room", "there"] [] [0,1,2,3,4] [1] [] fun X S I hp=>
 (bg (cU S true 3 (mr .leaf qx)) (bg (jb S 4 rfl rfl hp (b6 (ah S 2)) (dP (fM S 3 rfl rfl (dR [1,5] [1] [] S 5 (b6 (bj (bj (ah S 0) aS) (ah S 4))) (fun Y1 S1 F1=>have I:=F1.i I;fY (bE (cx I.r) (ah S1 5) (ah S1 1))) (fun Y1 S1 F1=>have I:=F1.i I;(ah S1 5))) (cZ rfl) rfl rfl rfl rfl)) (fun _=>rfl)) (bH (gR S 3 rfl rfl))))
theorem hU:DefOk P w K mg base 2 "is_row_right" 4 bX:=mk A.f19 A.g ["world", "left", "marks", "row"] uw ["rooms", "ahead", "is_bare", "room", "there"] ["is_rising", "all", "left_ahead", "any"] [0,1,2,3,4,5,6] [0,1,3,4] [0,1,2,3] fun X S I hp=>
 (bg (cU S false 4 (bj (ah S 3) aS)) (bg (cY (iE (gQ (iF (fC (ah S 4) (fun _=>rfl))) (gQ (iF (fC (b7 S 0 (I.c (ES A)) (aM (ah S 4))) (fun _=>rfl))) (mC (iF (fC (mB S 1 rfl rfl I.e.n2 (aM (dR [1,7] [1] [] S 7 (b6 (ah S 4)) (fun _ _ _=>gP) (fun Y1 S1 F1=>have I:=F1.i I;(fD (cx I.r) (ah S1 7) (ah S1 1))))) (cj rfl) rfl) (fun _=>rfl))))))) (bH dZ) da) (bg (cU S false 5 (b7 S 2 (I.c (eP A)) (aU (ah S 0) (aU (ah S 1) (aM (ah S 4)))))) (bg (cY (bE (iQ I.r) (bj (ah S 3) aS) jE) (bH (oY (ah S 5))) da) (bg (cU S false 6 (ku (El S 3 rfl rfl I.e.n3 (aM (dR [0,3,7] [0,3] [] S 7 (b6 (ah S 4)) (fun _ _ _=>gP) (fun Y2 S2 F2=>have I:=F2.i I;(fD (cx I.r) (bj (ah S2 3) aS) (bj (bj (ah S2 0) aS) (ah S2 7)))))) (cj rfl) rfl))) (bH (qy (fD (cx I.r) (bj (ah S 3) aS) (ah S 2)) (qy (ah S 6) (qA (mB S 1 rfl rfl I.e.n2 (aM (dR [4,8] [4] [] S 8 (b6 (ah S 5)) (fun _ _ _=>gP) (fun Y3 S3 F3=>have I:=F3.i I;(fD (cx I.r) (ah S3 8) (ah S3 4))))) (cj rfl) rfl))))))))))
theorem pN:DefOk P w K mg base 3 "left_by" 4 dQ:=mk A.f20 A.g ["world", "rooms", "marks", "rows"] uw ["left", "row", "room"] ["list", "is_row_right"] [0,1,2,3,4,5] [5] [0,1] fun X S I hp=>
 (bg (cU S false 4 (ui S 0 rfl rfl I.e.n4 (ah S 1) (cZ rfl))) (bg (jb S 5 rfl rfl hp (b6 (ah S 3)) (bg (cY (iF (fC (b7 S 1 (I.c (hU A)) (aU (ah S 0) (aU (ah S 4) (aU (ah S 2) (aM (ah S 5)))))) (fun _=>rfl))) (bH jE) da) (dP (qD (vs':=[5,6]) (cs':=[5]) (lo':=[]) (gs':=[]) S false 4 .leaf 6 rfl rfl rfl rfl (by kernel_rfl) (by kernel_rfl) (by kernel_rfl) (b6 (ah S 4)) (fun Y1 S1 F1=>have I:=F1.i I;fY (bE (uG I.r) (ah S1 6) (bj (ah S1 5) aS))) (fun Y1 S1 F1=>have I:=F1.i I;(ah S1 6)) (fun _=>rfl)))) (fun _=>rfl)) (bH (ah S 4))))
theorem gx:DefOk P w K mg base 3 "is_rank_right" 5 cy:=mk A.f21 A.g ["world", "kept", "mark", "ranks", "room"] Hk ["rank"] ["lower_steps", "len"] [0,1,2,3,4,5] [] [0,1] fun X S I hp=>
 (bg (cU S false 5 (bj (ah S 3) (ah S 4))) (bg (cY (iE (gQ (bE (uG I.r) (ah S 4) (ah S 1)) (mC (bE (iQ I.r) (ah S 5) jE)))) (bH (qy (fD (uG I.r) (ah S 4) (ah S 1)) (qA (fD (iQ I.r) (ah S 5) jE)))) da) (bg (cY (bE (cx I.r) (ah S 2) (bj (bj (ah S 0) aS) (ah S 4))) (bH (fD (gr I.r) (ah S 5) aS)) da) (bH (qy (fD (gq I.r) (ah S 5) aS) (qA (fD (gq I.r) (d5 S 1 I.e.n0 (aM (b7 S 0 (I.c (iS A)) (aU (ah S 0) (aU (ah S 3) (aM (ah S 4))))))) aS)))))))
theorem eT:DefOk P w K mg base 4 "are_ranks_right" 4 bz:=mk A.f22 A.g ["world", "kept", "mark", "ranks"] uw ["room"] ["len", "range", "is_rank_right", "all"] [0,1,2,3] [0,1,2,3] [0,1,3] fun X S I hp=>
 (bg (cY (bE (df I.r) (d5 S 0 I.e.n0 (aM (ah S 3))) (d5 S 0 I.e.n0 (aM (bj (ah S 0) aS)))) (bH dZ) da) (bH (mB S 3 rfl rfl I.e.n2 (aM (dR [0,1,2,3,4] [0,1,2,3] [2] S 4 (fN S 1 rfl rfl I.e.n1 (aM (d5 S 0 I.e.n0 (aM (ah S 3)))) (cZ rfl)) (fun _ _ _=>gP) (fun Y1 S1 F1=>have I:=F1.i I;(b7 S1 2 (I.c (gx A)) (aU (ah S1 0) (aU (ah S1 1) (aU (ah S1 2) (aU (ah S1 3) (aM (ah S1 4)))))))))) (cj rfl) rfl)))
theorem gy:DefOk P w K mg base 7 "is_fair_paper" 4 cA:=mk A.f23 A.g ["world", "rooms", "marks", "paper"] uw ["kept", "room", "mark", "ranks"] ["check_fair", "left_by", "len", "left_ahead", "all", "zip", "are_ranks_right"] [0,1,2,3,4] [0,4] [0,1,2,4,5] fun X S I hp=>
 (bg (C8 (b7 S 0 (I.c (eR A)) (aU (ah S 0) (aU (ah S 1) (aM (ah S 2))))) rfl) (bg (cU S false 4 (b7 S 1 (I.c (pN A)) (aU (ah S 0) (aU (ah S 1) (aU (ah S 2) (aM (bj (ah S 3) aS))))))) (bg (cY (iE (gQ (bE (iQ I.r) (ah S 4) jE) (gQ (bE (df I.r) (bj (ah S 3) aS) (ah S 4)) (mC (bE (df I.r) (d5 S 2 I.e.n0 (aM (bj (ah S 3) aS))) (d5 S 2 I.e.n0 (aM (ah S 2)))))))) (bH dZ) da) (bg (cY (iF (fC (o6 S 4 rfl rfl I.e.n2 (aM (dR [0,4,5] [0,4] [3] S 5 (b6 (ah S 4)) (fun _ _ _=>gP) (fun Y1 S1 F1=>have I:=F1.i I;(b7 S1 3 (I.c (eP A)) (aU (ah S1 0) (aU (ah S1 4) (aM (mr .leaf (aM (ah S1 5)))))))))) (cj rfl) rfl) (fun _=>rfl))) (bH dZ) da) (bH (mB S 4 rfl rfl I.e.n2 (aM (Bz (vs':=[0,4,6,7]) (cs':=[0,4]) (lo':=[]) (gs':=[6]) S .leaf 6 7 5 rfl rfl rfl rfl rfl I.e.n5 (by kernel_rfl) (by kernel_rfl) (aU (ah S 2) (aM (bj (ah S 3) aS))) (cj rfl) rfl (fun _ _ _=>gP) (fun Y2 S2 F2=>have I:=F2.i I;(b7 S2 6 (I.c (eT A)) (aU (ah S2 0) (aU (ah S2 4) (aU (ah S2 6) (aM (ah S2 7))))))) (fun _=>rfl))) (cj rfl) rfl))))))
theorem Df:DefOk P w K mg base 1 "_law_cell_at" 2 ba:=mk A.f24 A.g ["script", "k"] wM [] ["len"] [0,1] [] [0] fun X S I hp=>
 (bg (cY (bE (mR I.r) (ah S 1) (d5 S 0 I.e.n0 (aM (ah S 0)))) (bH (bj (ah S 0) (ah S 1))) da) (bH aS))
theorem Ba:DefOk P w K mg base 1 "_law_draw" 3 aF:=mk A.f25 A.g ["cell", "k", "bound"] qG ["stir", "left", "j"] ["range"] [0,1,2,3,4,5] [] [0] fun X S I hp=>
 (bg (cY (bE (FU I.r) (ah S 0) (qV aS aS)) (bg (cU S false 4 (ah S 0)) (bg (jb S 5 rfl rfl hp (fN S 0 rfl rfl I.e.n1 (aM (ah S 1)) (cZ rfl)) (dP (cU S false 4 (kv (ah S 4) (ah S 2)))) (fun _=>rfl)) (bH (yj (ah S 4) (ah S 2))))) da) (bg (cU S false 3 (yj (Bu (qB (qB (yj (ah S 0) aS) (Bu aS (ah S 1))) aS) aS) aS)) (bg (cU S false 3 (yj (qB (qB (Bu (ah S 3) (ah S 3)) (Bu aS (ah S 1))) aS) aS)) (bH (yj (kv (yj (Bu (ah S 3) aS) aS) aS) (ah S 2))))))
theorem jW:DefOk P w K mg base 2 "_law_world" 3 dk:=mk A.f26 A.g ["script", "at", "most"] qG ["many", "owners", "marks", "steps", "room", "cell", "row", "there", "mark"] ["_law_cell_at", "range", "_law_draw", "int"] [0,1,2,3,4,5,6,7,8,9] [3,8] [0,1,2] fun X S I hp=>
 (bg (cU S false 3 (qB aS (yj (b7 S 0 (I.c (Df A)) (aU (ah S 0) (aM (ah S 1)))) (ah S 2)))) (bg (cU S true 4 (mr .leaf qx)) (bg (cU S true 5 (mr .leaf qx)) (bg (cU S true 6 (mr .leaf qx)) (bg (jb S 7 rfl rfl hp (fN S 1 rfl rfl I.e.n1 (aM (ah S 3)) (cZ rfl)) (bg (cU S false 8 (b7 S 0 (I.c (Df A)) (aU (ah S 0) (aM (qB (qB (ah S 1) aS) (ah S 7)))))) (bg (Bb S 4 rfl rfl (b7 S 2 (I.c (Ba A)) (aU (ah S 8) (aU aS (aM aS)))) (cZ rfl) rfl rfl rfl rfl) (bg (Bb S 5 rfl rfl (dR [8,11] [8] [2] S 11 (jc (by kernel_rfl)) (fun Y1 S1 F1=>have I:=F1.i I;fY (bE (gr I.r) (b7 S1 2 (I.c (Ba A)) (aU (ah S1 8) (aU (qB aS (jf (ah S1 11) (cZ rfl) rfl)) (aM aS)))) aS)) (fun Y1 S1 F1=>have I:=F1.i I;(ah S1 11))) (cZ rfl) rfl rfl rfl rfl) (bg (qD (vs':=[3,8,10]) (cs':=[3,8]) (lo':=[]) (gs':=[2,3]) S false 9 .leaf 10 rfl rfl rfl rfl (by kernel_rfl) (by kernel_rfl) (by kernel_rfl) (fN S 1 rfl rfl I.e.n1 (aM (ah S 3)) (cZ rfl)) (fun Y2 S2 F2=>have I:=F2.i I;fY (bE (gr I.r) (b7 S2 2 (I.c (Ba A)) (aU (ah S2 8) (aU (qB aS (ah S2 10)) (aM (qB aS (rd S2 3 rfl rfl I.e.n6 (aM (fD (gq I.r) (ah S2 3) aS)) (cj rfl) rfl)))))) aS)) (fun Y2 S2 F2=>have I:=F2.i I;(ah S2 10)) (fun _=>rfl)) (bg (cY (bE (gr I.r) (ah S 9) (mr .leaf qx)) (dP (cU S false 9 (mr .leaf (aM (b7 S 2 (I.c (Ba A)) (aU (ah S 8) (aU (qB aS (ah S 3)) (aM (ah S 3))))))))) da) (dP (Bb S 6 rfl rfl (ah S 9) (cZ rfl) rfl rfl rfl rfl))))))) (fun _=>rfl)) (bH (qz (aU (gR S 4 rfl rfl) (aU (gR S 5 rfl rfl) (aM (gR S 6 rfl rfl)))))))))))
theorem kZ:DefOk P w K mg base 1 "_law_twin" 1 dI:=mk A.f27 A.g ["world"] xI ["row"] ["list"] [0] [] [0] fun X S I hp=>
 (bH (qz (aU (ui S 0 rfl rfl I.e.n4 (bj (ah S 0) aS) (cZ rfl)) (aU (dR [1] [] [0] S 1 (b6 (bj (ah S 0) aS)) (fun _ _ _=>gP) (fun Y1 S1 F1=>have I:=F1.i I;(ui S1 0 rfl rfl I.e.n4 (ah S1 1) (cZ rfl)))) (aM (dR [1] [] [0] S 1 (b6 (bj (ah S 0) aS)) (fun _ _ _=>gP) (fun Y2 S2 F2=>have I:=F2.i I;(ui S2 0 rfl rfl I.e.n4 (ah S2 1) (cZ rfl)))))))))
theorem eV:DefOk P w K mg base 1 "_law_whole" 1 bC:=mk A.f28 A.g ["found"] xI [] ["isinstance", "int", "bool"] [0] [] [0,1,2] fun X S I hp=>
 (bH (qy (yi S 0 1 rfl rfl rfl rfl rfl xJ I.e.n7 I.e.n6 (ah S 0) (cj rfl) (cj rfl) rfl) (qA (ku (yi S 0 2 rfl rfl rfl rfl rfl AH I.e.n7 I.e.n8 (ah S 0) (cj rfl) (cj rfl) rfl)))))
theorem dG:DefOk P w K mg base 2 "_law_numbers" 2 bB:=mk A.f29 A.g ["found", "due"] wM ["number"] ["isinstance", "list", "len", "_law_whole", "all"] [0,1] [] [0,1,2,4] fun X S I hp=>
 (bg (cY (iE (gQ (iF (fC (yi S 0 1 rfl rfl rfl rfl rfl Bm I.e.n7 I.e.n4 (ah S 0) (cj rfl) (cj rfl) rfl) (fun _=>rfl))) (mC (bE (df I.r) (d5 S 2 I.e.n0 (aM (ah S 0))) (d5 S 2 I.e.n0 (aM (ah S 1))))))) (bH dZ) da) (bH (qy (mB S 4 rfl rfl I.e.n2 (aM (dR [2] [] [3] S 2 (b6 (ah S 0)) (fun _ _ _=>gP) (fun Y1 S1 F1=>have I:=F1.i I;(b7 S1 3 (I.c (eV A)) (aM (ah S1 2)))))) (cj rfl) rfl) (qA (fD (gr I.r) (ah S 0) (ah S 1))))))
theorem jX:DefOk P w K mg base 2 "_law_rooms" 2 dm:=mk A.f30 A.g ["cell", "many"] wM ["room"] ["range", "_law_draw"] [0,1] [0] [0] fun X S I hp=>
 (bH (dR [0,2] [0] [1] S 2 (fN S 0 rfl rfl I.e.n1 (aM (ah S 1)) (cZ rfl)) (fun Y1 S1 F1=>have I:=F1.i I;fY (bE (gq I.r) (b7 S1 1 (I.c (Ba A)) (aU (ah S1 0) (aU (ah S1 2) (aM aS)))) aS)) (fun Y1 S1 F1=>have I:=F1.i I;(ah S1 2))))
theorem jY:DefOk P w K mg base 1 "_law_pairs" 2 cD:=mk A.f31 A.g ["world", "rooms"] wM ["pairs", "room", "more", "one", "there"] ["list"] [0,1,2,3,4,5,6] [1,3] [0] fun X S I hp=>
 (bg (cU S true 2 (mr .leaf qx)) (bg (jb S 3 rfl rfl hp (b6 (ah S 1)) (dP (fM S 2 rfl rfl (dR [1,3,6] [1,3] [] S 6 (b6 (bj (bj (ah S 0) aS) (ah S 3))) (fun Y1 S1 F1=>have I:=F1.i I;fY (bE (cx I.r) (ah S1 6) (ah S1 1))) (fun Y1 S1 F1=>have I:=F1.i I;(qz (aU (ah S1 3) (aM (ah S1 6)))))) (cZ rfl) rfl rfl rfl rfl)) (fun _=>rfl)) (bg (cU S false 4 dZ) (bg (EO 1000 hp (fC (ah S 4) (fun _=>rfl)) (bg (cU S false 4 dZ) (dP (jb S 5 rfl rfl hp (b6 (mH S 0 rfl rfl I.e.n4 2 rfl rfl (cZ rfl))) (dP (jb S 6 rfl rfl hp (b6 (ah S 1)) (dP (cY (iE (yk (bE (cx I.r) (qz (aU (bj (ah S 5) aS) (aM (ah S 6)))) (ah S 2)) (yn (bE (uG I.r) (qz (aU (bj (ah S 5) aS) (aM (ah S 6)))) (ah S 2))))) (bg (Bb S 2 rfl rfl (qz (aU (bj (ah S 5) aS) (aM (ah S 6)))) (cZ rfl) rfl rfl rfl rfl) (dP (cU S false 4 dZ))) da)) (fun _=>rfl))) (fun _=>rfl))))) (bH (gR S 2 rfl rfl))))))
theorem la:DefOk P w K mg base 2 "_law_fair" 3 dJ:=mk A.f32 A.g ["world", "rooms", "marks"] qG ["pairs", "homes", "home", "ring", "met", "room", "mark"] ["_law_pairs", "len"] [0,1,2,3,4,5,6,7] [0,3,4,5,6] [0,1] fun X S I hp=>
 (bg (cU S false 3 (b7 S 0 (I.c (jY A)) (aU (ah S 0) (aM (ah S 1))))) (bg (cU S true 4 (mr .leaf qx)) (bg (jb S 5 rfl rfl hp (b6 (ah S 1)) (bg (kx S false 6 rfl rfl (kB (S.cel 6 _ rfl rfl)) (dR [3,5,8] [3,5] [] S 8 (b6 (ah S 1)) (fun Y1 S1 F1=>have I:=F1.i I;fY (iE (yk (bE (cx I.r) (qz (aU (ah S1 5) (aM (ah S1 8)))) (ah S1 3)) (yn (bE (cx I.r) (qz (aU (ah S1 8) (aM (ah S1 5)))) (ah S1 3)))))) (fun Y1 S1 F1=>have I:=F1.i I;(ah S1 8)))) (bg (qD (vs':=[0,6,9]) (cs':=[0,6,9]) (lo':=[]) (gs':=[1]) S false 7 .leaf 9 rfl rfl rfl rfl (by kernel_rfl) (by kernel_rfl) (by kernel_rfl) (b6 (ah S 2)) (fun Y2 S2 F2=>have I:=F2.i I;fY (bE (gq I.r) (d5 S2 1 I.e.n0 (aM (dR [0,8,9] [0,9] [] S2 8 (b6 (ah S2 6)) (fun Y3 S3 F3=>have I:=F3.i I;fY (bE (cx I.r) (ah S3 9) (bj (bj (ah S3 0) aS) (ah S3 8)))) (fun Y3 S3 F3=>have I:=F3.i I;(ah S3 8))))) aS)) (fun Y2 S2 F2=>have I:=F2.i I;(ah S2 9)) (fun _=>rfl)) (dP (cY (iE (yk (bE (gq I.r) (d5 S 1 I.e.n0 (aM (ah S 6))) aS) (yn (bE (gr I.r) (ah S 7) (ah S 2))))) (dP (Bb S 4 rfl rfl (ah S 5) (cZ rfl) rfl rfl rfl rfl)) da)))) (fun _=>rfl)) (bH (dR [3,4,8] [3,4,8] [1] S 8 (b6 (ah S 1)) (fun Y4 S4 F4=>have I:=F4.i I;fY (iE (gQ (bE (cx I.r) (ah S4 8) (ah S4 4)) (mC (bE (gq I.r) (d5 S4 1 I.e.n0 (aM (dR [3,5,8] [3,8] [] S4 5 (b6 (ah S4 4)) (fun Y5 S5 F5=>have I:=F5.i I;fY (bE (cx I.r) (qz (aU (ah S5 8) (aM (ah S5 5)))) (ah S5 3))) (fun Y5 S5 F5=>have I:=F5.i I;(ah S5 5))))) aS))))) (fun Y4 S4 F4=>have I:=F4.i I;(ah S4 8)))))))
theorem jZ:DefOk P w K mg base 2 "_law_marks" 1 dq:=mk A.f33 A.g ["cell"] xI ["mark"] ["_law_draw"] [0] [0] [] fun X S I hp=>
 (bH (dR [0,1] [0] [0] S 1 (jc (by kernel_rfl)) (fun Y1 S1 F1=>have I:=F1.i I;fY (bE (gr I.r) (b7 S1 0 (I.c (Ba A)) (aU (ah S1 0) (aU (jf (ah S1 1) (cZ rfl) rfl) (aM aS)))) aS)) (fun Y1 S1 F1=>have I:=F1.i I;(ah S1 1))))
theorem fH:DefOk P w K mg base 1 "_law_row_holds" 4 bN:=mk A.f34 A.g ["world", "left", "marks", "row"] uw ["room", "gone", "mark", "steps", "away", "there", "one"] ["len", "sorted", "set"] [0,1,2,3,4,5,6,7,8] [1,5] [0,1,2] fun X S I hp=>
 (bg (o4 S 5 6 rfl rfl rfl rfl (ah S 3) rfl rfl) (bg (cY (iE (gQ (bE (gr I.r) (d5 S 0 I.e.n0 (aM (ah S 5))) aS) (gQ (bE (df I.r) (ah S 5) (jH S 1 2 rfl rfl I.e.n9 rfl rfl I.e.n10 (aM (ah S 5)) (cZ rfl) (cZ rfl))) (mC (bE (gq I.r) (d5 S 0 I.e.n0 (aM (dR [1,4] [1] [] S 4 (b6 (ah S 5)) (fun Y1 S1 F1=>have I:=F1.i I;fY (bE (uG I.r) (ah S1 4) (ah S1 1))) (fun Y1 S1 F1=>have I:=F1.i I;(ah S1 4))))) aS))))) (bH dZ) da) (bg (jb S 4 rfl rfl hp (b6 (ah S 5)) (bg (qD (vs':=[1,9]) (cs':=[1]) (lo':=[]) (gs':=[]) S false 7 .leaf 9 rfl rfl rfl rfl (by kernel_rfl) (by kernel_rfl) (by kernel_rfl) (b6 (bj (bj (ah S 0) aS) (ah S 4))) (fun Y2 S2 F2=>have I:=F2.i I;fY (bE (cx I.r) (ah S2 9) (ah S2 1))) (fun Y2 S2 F2=>have I:=F2.i I;(ah S2 9)) (fun _=>rfl)) (bg (cY (iE (yk (bE (iQ I.r) (ah S 6) jE) (yn (bE (gq I.r) (d5 S 0 I.e.n0 (aM (ah S 7))) aS)))) (bH dZ) da) (bg (qD (vs':=[5,10]) (cs':=[5]) (lo':=[]) (gs':=[]) S false 8 .leaf 10 rfl rfl rfl rfl (by kernel_rfl) (by kernel_rfl) (by kernel_rfl) (b6 (ah S 7)) (fun Y3 S3 F3=>have I:=F3.i I;fY (bE (uG I.r) (ah S3 10) (ah S3 5))) (fun Y3 S3 F3=>have I:=F3.i I;(ah S3 10)) (fun _=>rfl)) (dP (cY (iE (yk (bE (Br I.r) (ah S 6) jE) (yn (iE (gQ (bE (cx I.r) (ah S 6) (bj (bj (ah S 0) aS) (ah S 4))) (mC (bE (df I.r) (ah S 8) (mr .leaf qx)))))))) (bH dZ) da))))) (fun _=>rfl)) (bH (nM (fD (iQ I.r) (ah S 6) jE) (qA (fD (cx I.r) (ah S 6) (ah S 2))))))))
theorem eX:DefOk P w K mg base 1 "_law_ranks_hold" 4 bZ:=mk A.f35 A.g ["world", "kept", "mark", "ranks"] uw ["room", "ahead", "lower", "there"] ["len", "range"] [0,1,2,3,4,5,6] [1,3,4] [0,1] fun X S I hp=>
 (bg (cY (bE (df I.r) (d5 S 0 I.e.n0 (aM (ah S 3))) (d5 S 0 I.e.n0 (aM (bj (ah S 0) aS)))) (bH dZ) da) (bg (jb S 4 rfl rfl hp (fN S 1 rfl rfl I.e.n1 (aM (d5 S 0 I.e.n0 (aM (ah S 3)))) (cZ rfl)) (dP (cY (bE (df I.r) (fD (iQ I.r) (bj (ah S 3) (ah S 4)) jE) (fD (uG I.r) (ah S 4) (ah S 1))) (bH dZ) da)) (fun _=>rfl)) (bg (jb S 4 rfl rfl hp (b6 (ah S 1)) (bg (qD (vs':=[1,7]) (cs':=[1]) (lo':=[]) (gs':=[]) S false 5 .leaf 7 rfl rfl rfl rfl (by kernel_rfl) (by kernel_rfl) (by kernel_rfl) (b6 (bj (bj (ah S 0) aS) (ah S 4))) (fun Y1 S1 F1=>have I:=F1.i I;fY (bE (cx I.r) (ah S1 7) (ah S1 1))) (fun Y1 S1 F1=>have I:=F1.i I;(ah S1 7)) (fun _=>rfl)) (bg (qD (vs':=[3,4,7]) (cs':=[3,4]) (lo':=[]) (gs':=[]) S false 6 .leaf 7 rfl rfl rfl rfl (by kernel_rfl) (by kernel_rfl) (by kernel_rfl) (b6 (ah S 5)) (fun Y2 S2 F2=>have I:=F2.i I;fY (bE (mR I.r) (bj (ah S2 3) (ah S2 7)) (bj (ah S2 3) (ah S2 4)))) (fun Y2 S2 F2=>have I:=F2.i I;(ah S2 7)) (fun _=>rfl)) (bg (cY (iE (gQ (bE (mR I.r) (bj (ah S 3) (ah S 4)) aS) (mC (bE (df I.r) (fD (gr I.r) (bj (ah S 3) (ah S 4)) aS) (fD (cx I.r) (ah S 2) (bj (bj (ah S 0) aS) (ah S 4))))))) (bH dZ) da) (dP (cY (iE (yk (bE (gq I.r) (bj (ah S 3) (ah S 4)) aS) (yn (bE (gr I.r) (ah S 6) (mr .leaf qx))))) (bH dZ) da))))) (fun _=>rfl)) (bH dZ))))
theorem gz:DefOk P w K mg base 2 "_law_is_paper" 4 cB:=mk A.f36 A.g ["world", "rooms", "marks", "told"] uw ["left", "row", "room", "rows", "kept", "ranks", "k", "there"] ["list", "_law_row_holds", "len", "range", "_law_ranks_hold", "all"] [0,1,2,3,4,5,6,7,8,9] [0,2,5,8,9] [0,1,2,3,5] fun X S I hp=>
 (bg (oZ S 7 8 9 rfl rfl rfl rfl rfl rfl (ah S 3) rfl rfl) (bg (cU S false 4 (ui S 0 rfl rfl I.e.n4 (ah S 1) (cZ rfl))) (bg (jb S 5 rfl rfl hp (b6 (ah S 7)) (bg (cY (iF (fC (b7 S 1 (I.c (fH A)) (aU (ah S 0) (aU (ah S 4) (aU (ah S 2) (aM (ah S 5)))))) (fun _=>rfl))) (bH dZ) da) (dP (qD (vs':=[5,6]) (cs':=[5]) (lo':=[]) (gs':=[]) S false 4 .leaf 6 rfl rfl rfl rfl (by kernel_rfl) (by kernel_rfl) (by kernel_rfl) (b6 (ah S 4)) (fun Y1 S1 F1=>have I:=F1.i I;fY (bE (uG I.r) (ah S1 6) (bj (ah S1 5) aS))) (fun Y1 S1 F1=>have I:=F1.i I;(ah S1 6)) (fun _=>rfl)))) (fun _=>rfl)) (bg (cY (iE (gQ (bE (df I.r) (ah S 4) (ah S 8)) (mC (bE (df I.r) (d5 S 2 I.e.n0 (aM (ah S 9))) (d5 S 2 I.e.n0 (aM (ah S 2))))))) (bH dZ) da) (bg (jb S 6 rfl rfl hp (b6 (ah S 8)) (dP (cY (bE (gr I.r) (d5 S 2 I.e.n0 (aM (dR [8,11] [8] [] S 11 (b6 (bj (bj (ah S 0) aS) (ah S 6))) (fun Y2 S2 F2=>have I:=F2.i I;fY (bE (cx I.r) (ah S2 11) (ah S2 8))) (fun Y2 S2 F2=>have I:=F2.i I;(ah S2 11))))) aS) (bH dZ) da)) (fun _=>rfl)) (bH (mB S 5 rfl rfl I.e.n2 (aM (dR [0,2,8,9,10] [0,2,8,9] [4] S 10 (fN S 3 rfl rfl I.e.n1 (aM (d5 S 2 I.e.n0 (aM (ah S 2)))) (cZ rfl)) (fun _ _ _=>gP) (fun Y3 S3 F3=>have I:=F3.i I;(b7 S3 4 (I.c (eX A)) (aU (ah S3 0) (aU (ah S3 8) (aU (bj (ah S3 2) (ah S3 10)) (aM (bj (ah S3 9) (ah S3 10)))))))))) (cj rfl) rfl)))))))
theorem iV:DefOk P w K mg base 3 "_law_formed" 1 cm:=mk A.f37 A.g ["found"] xI ["row", "ranks", "one", "rank"] ["isinstance", "tuple", "len", "list", "all", "_law_numbers", "_law_whole"] [0,1,2] [] [0,1,2,3,4,5] fun X S I hp=>
 (bg (cY (iE (gQ (iF (fC (yi S 0 1 rfl rfl rfl rfl rfl oR I.e.n7 I.e.n11 (ah S 0) (cj rfl) (cj rfl) rfl) (fun _=>rfl))) (gQ (bE (df I.r) (d5 S 2 I.e.n0 (aM (ah S 0))) aS) (mC (iF (fC (mB S 4 rfl rfl I.e.n2 (aM (dR [3] [] [0,3] S 3 (qT (ah S 0)) (fun _ _ _=>gP) (fun Y1 S1 F1=>have I:=F1.i I;(yi S1 0 3 rfl rfl rfl rfl rfl Bm I.e.n7 I.e.n4 (ah S1 3) (cj rfl) (cj rfl) rfl)))) (cj rfl) rfl) (fun _=>rfl))))))) (bH dZ) da) (bg (jb S 1 rfl rfl hp (b6 (bj (ah S 0) aS)) (dP (cY (iE (gQ (iF (fC (yi S 0 1 rfl rfl rfl rfl rfl oR I.e.n7 I.e.n11 (ah S 1) (cj rfl) (cj rfl) rfl) (fun _=>rfl))) (gQ (bE (df I.r) (d5 S 2 I.e.n0 (aM (ah S 1))) aS) (mC (iF (fC (b7 S 5 (I.c (dG A)) (aU (bj (ah S 1) aS) (aM (ui S 3 rfl rfl I.e.n4 (bj (ah S 1) aS) (cZ rfl))))) (fun _=>rfl))))))) (bH dZ) da)) (fun _=>rfl)) (bg (jb S 2 rfl rfl hp (b6 (bj (ah S 0) aS)) (dP (cY (iE (gQ (iF (fC (yi S 0 3 rfl rfl rfl rfl rfl Bm I.e.n7 I.e.n4 (ah S 2) (cj rfl) (cj rfl) rfl) (fun _=>rfl))) (mC (iF (fC (mB S 4 rfl rfl I.e.n2 (aM (dR [4] [] [6] S 4 (b6 (ah S 2)) (fun _ _ _=>gP) (fun Y2 S2 F2=>have I:=F2.i I;(nM (fD (iQ I.r) (ah S2 4) jE) (qA (b7 S2 6 (I.c (eV A)) (aM (ah S2 4)))))))) (cj rfl) rfl) (fun _=>rfl)))))) (bH dZ) da)) (fun _=>rfl)) (bH (b7 S 5 (I.c (dG A)) (aU (bj (ah S 0) aS) (aM (ui S 3 rfl rfl I.e.n4 (bj (ah S 0) aS) (cZ rfl)))))))))
theorem iW:DefOk P w K mg base 1 "_law_fewest" 4 bS:=mk A.f38 A.g ["world", "kept", "mark", "ranks"] uw ["room", "ahead", "there"] ["min"] [0,1,2,3,4,5] [1,3] [0] fun X S I hp=>
 (bg (jb S 4 rfl rfl hp (b6 (ah S 1)) (bg (qD (vs':=[1,3,6]) (cs':=[1,3]) (lo':=[]) (gs':=[]) S false 5 .leaf 6 rfl rfl rfl rfl (by kernel_rfl) (by kernel_rfl) (by kernel_rfl) (b6 (bj (bj (ah S 0) aS) (ah S 4))) (fun Y1 S1 F1=>have I:=F1.i I;fY (bE (cx I.r) (ah S1 6) (ah S1 1))) (fun Y1 S1 F1=>have I:=F1.i I;(bj (ah S1 3) (ah S1 6))) (fun _=>rfl)) (dP (cY (bE (df I.r) (bj (ah S 3) (ah S 4)) (nN (bE (cx I.r) (ah S 2) (bj (bj (ah S 0) aS) (ah S 4))) aS (qB aS (mG S 0 rfl rfl I.e.n12 (aM (ah S 5)) (cj rfl) rfl)))) (bH dZ) da))) (fun _=>rfl)) (bH dZ))
theorem o_law {fa:Addr} (hfa:mg "law"=some (.ref fa)):∃fd:FuncData,(∀(s:Shared) (v:Value),BindsTo s fd ⟨[v],[]⟩ [("script",v)])/\∀base:Heap,K.In base->base.Ns mainGlobals mg->fy P w K mg base oU 9 fa fd ["script"] (o9 K 1 sI):=Hb A.f39 A.g "script" xI hfa ["world", "rooms", "marks", "handed", "found", "k", "kept", "one", "ranks"] ["_law_world", "_law_cell_at", "len", "_law_rooms", "_law_marks", "_law_twin", "list", "fair_paper", "_law_formed", "_law_is_paper", "_law_fair", "range", "_law_fewest", "is_fair_paper", "repr"] [0,1,2,3,4,5,6,7,8,9] [] [0,1,2,3,4,5,6,7,8,9,10,11,12,13,14] fun base X S I hp=>
 (bg (cU S false 1 (b7 S 0 (I.c (jW A)) (aU (ah S 0) (aU aS (aM aS))))) (bg (cU S false 2 (b7 S 3 (I.c (jX A)) (aU (b7 S 1 (I.c (Df A)) (aU (ah S 0) (aM aS))) (aM (d5 S 2 I.e.n0 (aM (bj (ah S 1) aS))))))) (bg (cU S false 3 (b7 S 4 (I.c (jZ A)) (aM (b7 S 1 (I.c (Df A)) (aU (ah S 0) (aM aS)))))) (bg (cU S false 4 (mr .leaf (aU (b7 S 5 (I.c (kZ A)) (aM (ah S 1))) (aU (ui S 6 rfl rfl I.e.n4 (ah S 2) (cZ rfl)) (aM (ui S 6 rfl rfl I.e.n4 (ah S 3) (cZ rfl))))))) (bg (cU S true 5 (b7 S 7 (I.c (eQ A)) (aU (bj (ah S 4) aS) (aU (bj (ah S 4) aS) (aM (bj (ah S 4) aS)))))) (bg (cY (iE (gQ (iF (fC (b7 S 8 (I.c (iV A)) (aM (ah S 5))) (fun _=>rfl))) (gQ (iF (fC (b7 S 9 (I.c (gz A)) (aU (ah S 1) (aU (ah S 2) (aU (ah S 3) (aM (ah S 5)))))) (fun _=>rfl))) (mC (bE (df I.r) (ah S 4) (mr .leaf (aU (ah S 1) (aU (ah S 2) (aM (ah S 3)))))))))) (bH dZ) da) (bg (cY (bE (df I.r) (bj (ah S 5) aS) (b7 S 10 (I.c (la A)) (aU (ah S 1) (aU (ah S 2) (aM (ah S 3)))))) (bH dZ) da) (bg (jb S 6 rfl rfl hp (fN S 11 rfl rfl I.e.n1 (aM (d5 S 2 I.e.n0 (aM (ah S 3)))) (cZ rfl)) (dP (cY (iF (fC (b7 S 12 (I.c (iW A)) (aU (ah S 1) (aU (bj (ah S 5) aS) (aU (bj (ah S 3) (ah S 6)) (aM (bj (bj (ah S 5) aS) (ah S 6))))))) (fun _=>rfl))) (bH dZ) da)) (fun _=>rfl)) (bg (cY (iE (gQ (bE (yZ I.r) (b7 S 13 (I.c (gy A)) (aU (bj (ah S 4) aS) (aU (bj (ah S 4) aS) (aU (bj (ah S 4) aS) (aM (ah S 5)))))) dZ) (mC (bE (df I.r) (ah S 4) (mr .leaf (aU (ah S 1) (aU (ah S 2) (aM (ah S 3))))))))) (bH dZ) da) (bg (cU S false 7 (gU S I.r I.rm.gd 14 rfl rfl I.e.n13 (ah S 5) (cZ rfl) rfl)) (ky 5 8 9 (uQ S hp 5 8 (qR S 5 (A8 S 5 0) (A8 S 5 1)) (A8 S 8 0)) (uP S hp 5 9 (A8 S 5 2)) (uO 5 (A8 S 5 0)) (uN 5 (A8 S 5 2)) (bH (fD (gr I.r) (gU S I.r I.rm.gd 14 rfl rfl I.e.n13 (b7 S 7 (I.c (eQ A)) (aU (bj (ah S 4) aS) (aU (bj (ah S 4) aS) (aM (bj (ah S 4) aS))))) (cZ rfl) rfl) (ah S 7))))))))))))))
end
end KQ.F
open PySem PySem.W PyProof.Rows
def PySem.W.Fast.tw10620616522517256099:=0
def PySem.W.Fast.tw17181676603709260138:=0
def PySem.W.Fast.tw6168951738364813706:=0
def PySem.W.Fast.tw17049256236053147500:=0
def PySem.W.Fast.tw827521021241094897:=0
def PySem.W.Fast.tw8630346661529971474:=0
def PySem.W.Fast.tw14102934095157204246:=0
def PySem.W.Fast.tw16079833205825677816:=0
def PySem.W.Fast.tw721756074553659160:=0
def PySem.W.Fast.tw5047434532257464251:=0
def PySem.W.Fast.tw112830972916722651:=0
def PySem.W.Fast.tw17417860473151075004:=0
set_option maxRecDepth 100000 in
set_option maxHeartbeats 0 in
theorem PySem.Challenge.cw_foreseehall_k53_fair_papers_told_holds : PySem.Challenge.rw_foreseehall_k53_fair_papers_told.Holds := by
 w_on;o_law;k_head;(case hw=>w_witness2)
 k_fill
 refine T.walkG (j:=9) (l:=PySem.Challenge.rw_foreseehall_k53_fair_papers_told) KQ.F.law_true ⟨rfl,by decide,by decide,rfl⟩ rfl rfl (fun w h Y=>PySem.W.kIn_of Y) ?F
 case F=>
  intro w mg fa h KX G hmg;refine' KQ.F.o_law (.mk (.mk (T.gn KX G ?z0) (T.gn KX G ?z1) (T.gn KX G ?z2) (T.gn KX G ?z3) (T.gn KX G ?z4) (T.gn KX G ?z5) (T.gn KX G ?z6) (T.gn KX G ?z7) (T.gn KX G ?z8) (T.gn KX G ?z9) (T.gn KX G ?z10) (T.gn KX G ?z11) (T.gn KX G ?z12) (T.gn KX G ?z13) (T.gt KX G ?e0 ?q0 ?v0) (T.gi KX G ?e1) (T.gt KX G ?e2 ?q2 ?v2)) (T.ft KX G ?a0 ?l0 ?c0 ?k0) (T.ft KX G ?a1 ?l1 ?c1 ?k1) (T.ft KX G ?a2 ?l2 ?c2 ?k2) (T.ft KX G ?a3 ?l3 ?c3 ?k3) (T.ft KX G ?a4 ?l4 ?c4 ?k4) (T.ft KX G ?a5 ?l5 ?c5 ?k5) (T.ft KX G ?a6 ?l6 ?c6 ?k6) (T.ft KX G ?a7 ?l7 ?c7 ?k7) (T.ft KX G ?a8 ?l8 ?c8 ?k8) (T.ft KX G ?a9 ?l9 ?c9 ?k9) (T.ft KX G ?a10 ?l10 ?c10 ?k10) (T.ft KX G ?a11 ?l11 ?c11 ?k11) (T.ft KX G ?a12 ?l12 ?c12 ?k12) (T.ft KX G ?a13 ?l13 ?c13 ?k13) (T.ft KX G ?a14 ?l14 ?c14 ?k14) (T.ft KX G ?a15 ?l15 ?c15 ?k15) (T.ft KX G ?a16 ?l16 ?c16 ?k16) (T.ft KX G ?a17 ?l17 ?c17 ?k17) (T.ft KX G ?a18 ?l18 ?c18 ?k18) (T.ft KX G ?a19 ?l19 ?c19 ?k19) (T.ft KX G ?a20 ?l20 ?c20 ?k20) (T.ft KX G ?a21 ?l21 ?c21 ?k21) (T.ft KX G ?a22 ?l22 ?c22 ?k22) (T.ft KX G ?a23 ?l23 ?c23 ?k23) (T.ft KX G ?a24 ?l24 ?c24 ?k24) (T.ft KX G ?a25 ?l25 ?c25 ?k25) (T.ft KX G ?a26 ?l26 ?c26 ?k26) (T.ft KX G ?a27 ?l27 ?c27 ?k27) (T.ft KX G ?a28 ?l28 ?c28 ?k28) (T.ft KX G ?a29 ?l29 ?c29 ?k29) (T.ft KX G ?a30 ?l30 ?c30 ?k30) (T.ft KX G ?a31 ?l31 ?c31 ?k31) (T.ft KX G ?a32 ?l32 ?c32 ?k32) (T.ft KX G ?a33 ?l33 ?c33 ?k33) (T.ft KX G ?a34 ?l34 ?c34 ?k34) (T.ft KX G ?a35 ?l35 ?c35 ?k35) (T.ft KX G ?a36 ?l36 ?c36 ?k36) (T.ft KX G ?a37 ?l37 ?c37 ?k37) (T.ft KX G ?a38 ?l38 ?c38 ?k38) (T.ft KX G ?a39 ?l39 ?c39 ?k39)) hmg
  case a0|l0|c0|k0|a1|l1|c1|k1|a2|l2|c2|k2|a3|l3|c3|k3|a4|l4|c4|k4|a5|l5|c5|k5|a6|l6|c6|k6|a7|l7|c7|k7|a8|l8|c8|k8|a9|l9|c9|k9|a10|l10|c10|k10|a11|l11|c11|k11|a12|l12|c12|k12|a13|l13|c13|k13|a14|l14|c14|k14|a15|l15|c15|k15|a16|l16|c16|k16|a17|l17|c17|k17|a18|l18|c18|k18|a19|l19|c19|k19|a20|l20|c20|k20|a21|l21|c21|k21|a22|l22|c22|k22|a23|l23|c23|k23|a24|l24|c24|k24|a25|l25|c25|k25|a26|l26|c26|k26|a27|l27|c27|k27|a28|l28|c28|k28|a29|l29|c29|k29|a30|l30|c30|k30|a31|l31|c31|k31|a32|l32|c32|k32|a33|l33|c33|k33|a34|l34|c34|k34|a35|l35|c35|k35|a36|l36|c36|k36|a37|l37|c37|k37|a38|l38|c38|k38|a39|l39|c39|k39|z0|z1|z2|z3|z4|z5|z6|z7|z8|z9|z10|z11|z12|z13|e0|q0=>k_is
  case v0=>kernel_rfl
  case e1|e2|q2=>k_is
  case v2=>kernel_rfl
