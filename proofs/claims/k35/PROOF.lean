import PyProof.Rows.All
import Wide.All
import OpenK.AllK
import Wide.FinOn
import PyProof.EqAt
import PyProof.EqKinds
import PyProof.TupleCall
import PyProof.StrBlockH
import PyProof.StrWalks
import PyProof.StrCalls
import PyProof.SetRoads
import PyProof.DictRoadsH
import Lean
import PySem.Challenge.RW_foreseehall_k35_whole_ways_told
open List (mem_append_right mem_append_left getElem?_eq_getElem mem_cons_of_mem append_assoc getD_eq_getElem?_getD mem_cons_self length_set mem_of_getElem? length_map getElem?_map getElem?_set_ne size_toArray length_append getElem?_set_self map_cons getElem?_append_left set_set length_cons nodup_nil getElem?_append_right flatten_cons contains_iff_mem append_nil nil_append lookup_cons all_eq_true map_map length_take length_filter_le getElem_mem mem_cons not_mem_nil replicate_succ length_singleton any_eq_true filter_cons perm_append_comm getElem?_cons_succ getElem?_cons_zero filterMap_cons getElem?_replicate length_drop mem_range of_mem_zip drop_eq_getElem_cons take_of_length_le all_map mem_map length_nil sum_cons any_map ne_nil_of_mem)
set_option Elab.async false
set_option linter.all false
set_option maxRecDepth 100000
set_option maxHeartbeats 4000000
set_option maxRecDepth 10000
abbrev Fg:=PySem.W.Frag
theorem LP {α:Type _} {a:α} (s:List α) {t:List α} (h:a∈t):a∈s++t:=List.mem_append_right s h
theorem LQ {α:Type _} {a:α} {s:List α} (t:List α) (h:a∈s):a∈s++t:=List.mem_append_left t h
theorem LR {α:Type _} {a:α} {s t:List α} (h:a∈s++t):a∈s\/a∈t:=List.mem_append.mp h
theorem LU {α:Type _} {a b:α} {t:List α} (h:a∈b::t):a=b\/a∈t:=List.mem_cons.mp h
theorem LV {α:Type _} {l:List α} {i:Nat} (h:i<l.length):l[i]?=some l[i]:=List.getElem?_eq_getElem h
theorem LW {α:Type _} {l:List α} {i:Nat} {a:α}:l.getD i a=l[i]?.getD a:=List.getD_eq_getElem?_getD
theorem LX {α:Type _} (y:α) {a:α} {l:List α} (h:a∈l):a∈y::l:=List.mem_cons_of_mem y h
abbrev LZ {α:Type _} {a b:List α}:=(List.nodup_append (l₁:=a) (l₂:=b)).mp
abbrev L0 {α:Type _} {a:α} {l:List α} {i:Nat}:=(List.getElem?_eq_some_iff (l:=l) (i:=i) (a:=a)).mp
abbrev L1:=@PySem.wpAny_bind
abbrev L5:=@PySem.wpAny_pure
abbrev L6:=@PySem.Heap.get?_push_of_some
abbrev L7:=@Nat.le_refl
abbrev L8:=PySem.PyData
namespace L2
open PySem PySem.Spec PyProof.Rows
abbrev ll:=Sum Int Str
def zU:ll->Value->Bool
 | .inl k,v=>Value.isInt k v
 | .inr x,v=>Value.isStrOf x v
def Kh (w:World):ll->Int
 | .inl k=>hashInt k
 | .inr x=>hashStr w x
theorem xj:∀{k:ll} {v:Value},zU k v=true->(∃i t,k=Sum.inl i/\v=Value.int i t)\/(∃x t,k=Sum.inr x/\v=Value.str x t)
 | .inl i,v,h=>by
  obtain ⟨t,e⟩:=Value.isInt_shape (k:=i) (v:=v) h
  exact .inl ⟨i,t,rfl,e⟩
 | .inr x,v,h=>by
  obtain ⟨t,e⟩:=Value.isStrOf_shape (x:=x) (v:=v) h
  exact .inr ⟨x,t,rfl,e⟩
theorem CP (a b:Int):decide ((Sum.inl a:ll)=Sum.inl b)=(a==b):=by
 by_cases e:a=b
 ·subst e;simp
 ·have h:¬(Sum.inl a:ll)=Sum.inl b:=fun q=>e (Sum.inl.inj q)
  rw [decide_eq_false h];exact (beq_eq_false_iff_ne.mpr e).symm
theorem CM (a b:Str):decide ((Sum.inr a:ll)=Sum.inr b)=decide (a=b):=by
 by_cases e:a=b
 ·subst e;simp
 ·have h:¬(Sum.inr a:ll)=Sum.inr b:=fun q=>e (Sum.inr.inj q)
  rw [decide_eq_false h,decide_eq_false e]
theorem CO (a:Int) (b:Str):decide ((Sum.inl a:ll)=Sum.inr b)=false:=decide_eq_false (fun q=>nomatch q)
theorem CN (a:Str) (b:Int):decide ((Sum.inr a:ll)=Sum.inl b)=false:=decide_eq_false (fun q=>nomatch q)
def Ip (prog:Program) (w:World):PySem.KeyKind prog w ll where
 is:=zU
 hash:=Kh w
 inj:=fun v a b ha hb=>by
  rcases xj ha with ⟨i,t,rfl,rfl⟩ | ⟨x,t,rfl,rfl⟩
  ·rcases xj hb with ⟨j,u,rfl,e⟩ | ⟨y,u,rfl,e⟩
   ·injection e with e1 _;rw [e1]
   ·exact nomatch e
  ·rcases xj hb with ⟨j,u,rfl,e⟩ | ⟨y,u,rfl,e⟩
   ·exact nomatch e
   ·injection e with e1 _;rw [e1]
 byValue:=fun k v h=>by
  rcases xj h with ⟨i,t,rfl,rfl⟩ | ⟨x,t,rfl,rfl⟩<;>rfl
 pyHash:=fun hv h=>by
  rcases xj hv with ⟨i,t,rfl,rfl⟩ | ⟨x,t,rfl,rfl⟩
  ·exact wpAny_pyHash_int h
  ·exact wpAny_pyHash_str h
 eqBool:=fun hu hv h=>by
  rcases xj hu with ⟨i,t,rfl,rfl⟩ | ⟨x,t,rfl,rfl⟩
  ·rcases xj hv with ⟨j,u,rfl,rfl⟩ | ⟨y,u,rfl,rfl⟩
   ·rw [CP] at h;exact wpAny_eqBool_int h
   ·rw [CO] at h;exact SeqAt.EqAt.int_str i t y u _ _ _ _ h
  ·rcases xj hv with ⟨j,u,rfl,rfl⟩ | ⟨y,u,rfl,rfl⟩
   ·rw [CN] at h;exact SeqAt.EqAt.str_int x t j u _ _ _ _ h
   ·rw [CM] at h;exact wpAny_eqBool_str h
 «strs»:=fun k x t v h=>by
  rcases xj h with ⟨i,u,rfl,e⟩ | ⟨y,u,rfl,e⟩
  ·exact nomatch e
  ·injection e with e1 _
   subst e1
   cases v<;>rfl
inductive V where
 | non | bl (b:Bool) | int (i:Int) | str (x:Str) | byt (b:Array UInt8) | flt (b:UInt64) | ref (a:Addr) | ty (n:String)
 deriving DecidableEq
def RelV:V->Value->Prop
 | .non,u=>u=Value.none
 | .bl b,u=>u=Value.bool b
 | .int i,u=>∃t,u=Value.int i t
 | .str x,u=>∃t,u=Value.str x t
 | .byt b,u=>∃t,u=Value.bytes b t
 | .flt b,u=>∃t,u=Value.float b t
 | .ref a,u=>u=Value.ref a
 | .ty n,u=>u=Value.type n
abbrev Vals:List V->List Value->Prop:=Paired RelV
theorem Vals.length {xs:List V} {us:List Value} (r:Vals xs us):xs.length=us.length:=Paired.length r
theorem Vals.get:∀{xs:List V} {us:List Value} {i:Nat} {x:V},Vals xs us->xs[i]?=some x->∃u,us[i]?=some u/\RelV x u
 | _,_,_,_,.nil,e=>by simp at e
 | _,_,0,_,.cons r _,e=>by simp at e;subst e;exact ⟨_,rfl,r⟩
 | _,_,i+1,x,.cons _ t,e=>by
  obtain ⟨u,h1,h2⟩:=Vals.get (i:=i) (x:=x) t (by simpa using e)
  exact ⟨u,by simpa using h1,h2⟩
theorem Vals.set {x:V} {u:Value} (r:RelV x u):∀{xs:List V} {us:List Value} (i:Nat),Vals xs us->Vals (xs.set i x) (us.set i u)
 | _,_,_,.nil=>.nil
 | _,_,0,.cons _ t=>.cons r t
 | _,_,i+1,.cons q t=>.cons q (Vals.set r i t)
theorem Vals.append:∀{xs ys:List V} {us ws:List Value},Vals xs us->Vals ys ws->Vals (xs++ys) (us++ws)
 | _,_,_,_,.nil,s=>s
 | _,_,_,_,.cons r t,s=>.cons r (Vals.append t s)
theorem Vals.take:∀{xs:List V} {us:List Value} (n:Nat),Vals xs us->Vals (xs.take n) (us.take n)
 | _,_,0,_=>.nil
 | _,_,_+1,.nil=>.nil
 | _,_,n+1,.cons r t=>.cons r (Vals.take n t)
theorem Vals.drop:∀{xs:List V} {us:List Value} (n:Nat),Vals xs us->Vals (xs.drop n) (us.drop n)
 | _,_,0,r=>r
 | _,_,_+1,.nil=>.nil
 | _,_,n+1,.cons _ t=>Vals.drop n t
def DF:Option V->Option Value->Prop
 | some v,some u=>RelV v u
 | none,none=>True
 | _,_=>False
def KV {κ:Type}:List (κ×V)->List (κ×Value)->Prop:=Paired fun (p:κ×V) (q:κ×Value)=>p.1=q.1/\RelV p.2 q.2
def kV:ll->V
 | .inl i=>.int i
 | .inr x=>.str x
inductive HO where
 | lst (xs:List V)
 | tup (xs:List V)
 | dK (kvs:List (ll×V)) | dT (kvs:List (List ll×V))
 | set (S:Int->Bool) (n:Nat)
 | ins (C dx:Addr) (fs:List (Str×V))
 | own (x:Addr)
 | xd (fs:List (Str×V))
 | met (f x:Addr)
 | rng (lo hi:Int)
 | frz (o:Obj) (u:HO)
 | tbl (ps:Array Value)
 | ext (φ:Heap->Prop)
abbrev Hp:=Addr->Option HO
def cy (H:Hp) (a:Addr) (o:HO):Hp:=fun b=>if b=a then some o else H b
theorem iV {H:Hp} {a:Addr} {o:HO}:cy H a o a=some o:=by unfold cy;rw [if_pos rfl]
theorem gf {H:Hp} {a b:Addr} {o:HO} (h:b≠a):cy H a o b=H b:=by unfold cy;rw [if_neg h]
theorem xi {H:Hp} {a b:Addr} {o:HO} (h:H a=some o) (h':H b=none):a≠b:=by
 intro e;subst e;rw [h] at h';cases h'
section
variable (P:Program) (w:World)
def ObjOk (H:Hp) (h:Heap) (a:Addr):HO->Prop
 | .lst xs=>xs.length<=sizeLine/\∃(its:List Value) (n:Nat),Vals xs its/\h.get? a=some { cls:=.type "list",data:=.seq its.toArray n }
 | .tup xs=>xs.length<=sizeLine/\∃its:List Value,Vals xs its/\IsTup h a its.toArray
 | .dK kvs=>kvs.length<=sizeLine/\(a==sysModules)=false/\∃vs,KV kvs vs/\h.DictOf (Ip P w) a vs
 | .dT kvs=>kvs.length<=sizeLine/\(a==sysModules)=false/\∃xs:List (List ll×Addr×Value),
   Paired (fun (p:List ll×V) (q:List ll×Addr×Value)=>p.1=q.1/\H q.2.1=some (.tup (p.1.map kV))/\RelV p.2 q.2.2) kvs xs /\
   ∃o es ep,h.get? a=some o/\o.ExactDict/\o.data=.dict es ep/\es.toList=xs.map (entryOfKey (tupleKind (Ip P w)))/\(xs.map (·.1)).Nodup
 | .set S n=>h.SetOf (intKind P w) a S n
 | .ins C dx fs=>H dx=some (.own a)/\fs.length<=1000/\dx≠a/\h.get? a=some (PySem.W.instObj C dx) /\
   ∃mA,h.Ns1 dx mA/\(∀f,DF (fs.lookup f) (mA f))/\PySem.Within mA (fs.map (·.1))
 | .own _=>∃o,h.get? a=some o
 | .xd fs=>∃mA,h.Ns1 a mA/\∀f,DF (fs.lookup f) (mA f)
 | .rng lo hi=>∃t u v,h.get? a=some { cls:=.type "range",data:=.fields #[.int lo t,.int hi u,.int 1 v] }
 | .frz o u=>h.get? a=some o/\ObjOk H h a u
 | .tbl ps=>h.get? a=some { cls:=.none,data:=.fields ps }
 | .met f x=>h.get? a=some (PySem.W.methodObj (.ref f) (.ref x))
 | .ext φ=>φ h/\(∃o,h.get? a=some o)/\∀h1 h2:Heap,φ h1->(∀o,h1.get? a=some o->h2.get? a=some o)->φ h2
def HOk (H:Hp) (h:Heap):Prop:=∀a o,H a=some o->ObjOk P w H h a o
end
section
variable {P:Program} {w:World} {H H':Hp} {h h':Heap} {a:Addr} {o:HO}
theorem ObjOk.lt (x:ObjOk P w H h a o):a<h.objs.size:=by
 cases o with
 | lst xs=>obtain ⟨_,_,_,_,e⟩:=x;exact Heap.lt_size e
 | tup xs=>obtain ⟨_,_,_,p⟩:=x;exact p.lt
 | dK kvs=>obtain ⟨_,_,_,_,o,_,_,e,_⟩:=x;exact Heap.lt_size e
 | dT kvs=>obtain ⟨_,_,_,_,o,_,_,e,_⟩:=x;exact Heap.lt_size e
 | set S n=>obtain ⟨o,_,_,_,e,_⟩:=x;exact Heap.lt_size e
 | ins C dx fs=>obtain ⟨_,_,_,e,_⟩:=x;exact Heap.lt_size e
 | own y=>obtain ⟨_,e⟩:=x;exact Heap.lt_size e
 | xd fs=>obtain ⟨_,⟨_,_,_,e,_⟩,_⟩:=x;exact Heap.lt_size e
 | rng lo hi=>obtain ⟨_,_,_,e⟩:=x;exact Heap.lt_size e
 | frz ob u=>obtain ⟨e,_⟩:=x;exact Heap.lt_size e
 | tbl ps=>exact Heap.lt_size (show h.get? a=some _ from x)
 | met f y=>exact Heap.lt_size (show h.get? a=some _ from x)
 | ext φ=>obtain ⟨_,⟨_,e⟩,_⟩:=x;exact Heap.lt_size e
theorem Paired.mapP {α β:Type} {F G:α->β->Prop}:∀{l₁:List α} {l₂:List β},Paired F l₁ l₂->(∀a b,F a b->G a b)->Paired G l₁ l₂
 | _,_,.nil,_=>.nil
 | _,_,.cons r t,f=>.cons (f _ _ r) (Paired.mapP t f)
theorem ObjOk.stay (x:ObjOk P w H h a o) (k:∀b u,(b=a\/H b=some (.own a))->h.get? b=some u->h'.get? b=some u)
  (ho:∀b,H b=some (.own a)->H' b=some (.own a)) (ht:∀b xs,H b=some (.tup xs)->H' b=some (.tup xs)):ObjOk P w H' h' a o:=by
 induction o with
 | lst xs=>obtain ⟨z,its,n,r,e⟩:=x;exact ⟨z,its,n,r,k _ _ (.inl rfl) e⟩
 | tup xs=>obtain ⟨z,its,r,ob,e,c⟩:=x;exact ⟨z,its,r,ob,k _ _ (.inl rfl) e,c⟩
 | dK kvs=>obtain ⟨z,y,vs,r,ob,es,ep,e,c⟩:=x;exact ⟨z,y,vs,r,ob,es,ep,k _ _ (.inl rfl) e,c⟩
 | dT kvs=>
  obtain ⟨z,y,xs,r,ob,es,ep,e,c⟩:=x;exact ⟨z,y,xs,Paired.mapP r fun p q z=>⟨z.1,ht _ _ z.2.1,z.2.2⟩,ob,es,ep,k _ _ (.inl rfl) e,c⟩
 | set S n=>obtain ⟨ob,es,ep,t,e,c⟩:=x;exact ⟨ob,es,ep,t,k _ _ (.inl rfl) e,c⟩
 | ins C dx fs=>
  obtain ⟨d,z,ne,e,mA,⟨od,es,ep,e2,c⟩,r⟩:=x;exact ⟨ho _ d,z,ne,k _ _ (.inl rfl) e,mA,⟨od,es,ep,k _ _ (.inr d) e2,c⟩,r⟩
 | own y=>obtain ⟨ob,e⟩:=x;exact ⟨ob,k _ _ (.inl rfl) e⟩
 | xd fs=>obtain ⟨mA,⟨od,es,ep,e,c⟩,r⟩:=x;exact ⟨mA,⟨od,es,ep,k _ _ (.inl rfl) e,c⟩,r⟩
 | rng lo hi=>obtain ⟨t,u,v,e⟩:=x;exact ⟨t,u,v,k _ _ (.inl rfl) e⟩
 | frz ob u ih=>obtain ⟨e,q⟩:=x;exact ⟨k _ _ (.inl rfl) e,ih q⟩
 | tbl ps=>
  have e:h.get? a=some { cls:=.none,data:=.fields ps }:=x
  show h'.get? a=some { cls:=.none,data:=.fields ps }
  exact k a _ (.inl rfl) e
 | met f y=>
  have e:h.get? a=some (PySem.W.methodObj (.ref f) (.ref y)):=x
  show h'.get? a=some (PySem.W.methodObj (.ref f) (.ref y))
  exact k a _ (.inl rfl) e
 | ext φ=>obtain ⟨p,⟨o,e⟩,st⟩:=x;exact ⟨st _ _ p fun o q=>k _ _ (.inl rfl) q,⟨o,k _ _ (.inl rfl) e⟩,st⟩
theorem HOk.lt (x:HOk P w H h) (e:H a=some o):a<h.objs.size:=(x a o e).lt
theorem HOk.fresh (x:HOk P w H h) (e:h.objs.size<=a):H a=none:=by
 cases q:H a with
 | none=>rfl
 | some u=>exact absurd (Nat.lt_of_lt_of_le (x.lt q) e) (Nat.lt_irrefl _)
theorem HOk.kept (x:HOk P w H h) (k:∀b u,h.get? b=some u->h'.get? b=some u):HOk P w H h':=fun a o e=>
 (x a o e).stay (fun b u _ q=>k b u q) (fun _ q=>q) fun _ _ q=>q
theorem HOk.laid (x:HOk P w H h) (k:∀b u,h.get? b=some u->h'.get? b=some u) (hp:h.objs.size<=a) (new:ObjOk P w (cy H a o) h' a o):HOk P w (cy H a o) h':=fun b u e=>by
 have hn:=x.fresh hp
 by_cases hb:b=a
 ·subst hb;rw [iV] at e;cases e;exact new
 ·rw [gf hb] at e
  exact (x b u e).stay (fun c v _ q=>k c v q) (fun c q=>by rw [gf (xi q hn)];exact q) fun c xs q=>by rw [gf (xi q hn)];exact q
end
def Rd (H:Hp) (a:Addr) (u:HO):Prop:=H a=some u\/∃o,H a=some (.frz o u)
theorem Rd.ok {P:Program} {w:World} {H:Hp} {h:Heap} {a:Addr} {u:HO} (r:Rd H a u) (x:HOk P w H h):ObjOk P w H h a u:=by
 rcases r with r | ⟨o,r⟩
 ·exact x a u r
 ·obtain ⟨_,q⟩:=x a _ r
  exact q
def Ia:Option HO->Prop
 | some (.lst _)=>True
 | some (.dK _)=>True
 | some (.dT _)=>True
 | some (.set _ _)=>True
 | some (.ins _ _ _)=>True
 | some (.ext _)=>True
 | _=>False
section
variable {P:Program} {w:World} {H:Hp} {h h':Heap} {x e:Addr} {o':HO}
theorem HOk.write (ok:HOk P w H h) (mu:Ia (H x)) (he:e=x\/H e=some (.own x)) (k:∀b u,b≠e->h.get? b=some u->h'.get? b=some u) (heo:∃u,h'.get? e=some u)
  (new:ObjOk P w (cy H x o') h' x o'):HOk P w (cy H x o') h':=fun b u q=>by
 have nown:∀c y,H c=some (.own y)->c≠x:=fun c y r z=>by subst z;rw [r] at mu;exact mu
 have ntup:∀c xs,H c=some (.tup xs)->c≠x:=fun c xs r z=>by subst z;rw [r] at mu;exact mu
 by_cases hb:b=x
 ·subst hb;rw [iV] at q;cases q;exact new
 ·rw [gf hb] at q
  by_cases hbe:b=e
  ·have q':H b=some (.own x):=by
    rcases he with z | z
    ·exact absurd (hbe.trans z) hb
    ·rw [hbe];exact z
   rw [q] at q';cases q'
   obtain ⟨v,hv⟩:=heo;exact ⟨v,by rw [hbe];exact hv⟩
  ·refine (ok b u q).stay (fun c v hc r=>k c v ?_ r) (fun c r=>by rw [gf (nown c b r)];exact r) fun c xs r=>by rw [gf (ntup c xs r)];exact r
   rcases hc with rfl | hc
   ·exact hbe
   ·rintro rfl
    rcases he with z | z
    ·exact nown c b hc z
    ·rw [hc] at z;cases z;exact hb rfl
end
structure Un (fs ex:List Addr) (H H':Hp) (h h':Heap):Prop where
 keep:∀b o,h.get? b=some o->H b=none->b∉fs->b∉ex->h'.get? b=some o
 slot:∀b o,h.get? b=some o->H b=none->b∈fs->b∉ex->∃sl,h'.get? b=some { o with slots:=sl }
 free:∀b o,h.get? b=some o->H b=none->b∉ex->H' b=none
 there:∀b o,h.get? b=some o->b∉ex->∃o',h'.get? b=some o'
 tups:∀b xs,H b=some (.tup xs)->H' b=some (.tup xs)
 frzs:∀b o u,H b=some (.frz o u)->H' b=some (.frz o u)
 tbls:∀b ps,H b=some (.tbl ps)->∃more,H' b=some (.tbl (ps++more))
section
variable {fs fs' ex ex':List Addr} {H H1 H2:Hp} {h h1 h2 h':Heap} {a x e:Addr} {o:HO}
theorem Un.any (u:Un fs ex H H1 h h1) {b:Addr} {ob:Obj} (q:h.get? b=some ob) (n:H b=none) (hx:b∉ex):∃sl,h1.get? b=some { ob with slots:=sl }:=by
 by_cases hb:b∈fs
 ·exact u.slot b ob q n hb hx
 ·exact ⟨ob.slots,u.keep b ob q n hb hx⟩
theorem Un.kept (k:∀b u,h.get? b=some u->h'.get? b=some u):Un fs ex H H h h':=
 ⟨fun b ob q _ _ _=>k b ob q,fun b ob q _ _ _=>⟨ob.slots,k b ob q⟩,fun _ _ _ n _=>n,fun b ob q _=>⟨ob,k b ob q⟩,fun _ _ q=>q,fun _ _ _ q=>q,fun _ ps q=>⟨#[],by rw [q];simp⟩⟩
theorem Un.refl:Un fs ex H H h h:=Un.kept fun _ _ q=>q
theorem Un.laid (k:∀b u,h.get? b=some u->h'.get? b=some u) (hp:h.objs.size<=a) (hn:H a=none):Un fs ex H (cy H a o) h h' where
 keep:=fun b u q _ _ _=>k b u q
 slot:=fun b u q _ _ _=>⟨u.slots,k b u q⟩
 free:=fun b u q n _=>by rw [gf (Nat.ne_of_lt (Nat.lt_of_lt_of_le (Heap.lt_size q) hp))];exact n
 there:=fun b u q _=>⟨u,k b u q⟩
 tups:=fun b xs q=>by rw [gf (xi q hn)];exact q
 frzs:=fun b u xs q=>by rw [gf (xi q hn)];exact q
 tbls:=fun b ps q=>⟨#[],by rw [gf (xi q hn),q];simp⟩
theorem Un.write (mu:Ia (H x)) (he:e=x\/H e=some (.own x)) (k:∀b u,b≠e->h.get? b=some u->h'.get? b=some u) (heo:∃u,h'.get? e=some u):Un fs ex H (cy H x o) h h':=by
 have hx:∀b,H b=none->b≠x:=fun b n z=>by subst z;rw [n] at mu;exact mu
 have hb:∀b,H b=none->b≠e:=fun b n z=>by
  subst z;rcases he with r | r
  ·exact hx b n r
  ·rw [n] at r;cases r
 have hm:∀b u,H b=some u->¬Ia (some u)->b≠x:=fun b u q nm z=>by subst z;rw [q] at mu;exact nm mu
 refine ⟨fun b u q n _ _=>k b u (hb b n) q,fun b u q n _ _=>⟨u.slots,k b u (hb b n) q⟩,fun b u q n _=>by rw [gf (hx b n)];exact n,fun b u q _=>?_,
  fun b xs q=>by rw [gf (hm b _ q fun z=>z)];exact q,fun b u xs q=>by rw [gf (hm b _ q fun z=>z)];exact q,fun b ps q=>⟨#[],by rw [gf (hm b _ q fun z=>z),q];simp⟩⟩
 by_cases hbe:b=e
 ·subst hbe;exact heo
 ·exact ⟨u,k b u hbe q⟩
end
def HB (h:Heap) (H:Hp):List Addr:=(List.range h.objs.size).filter fun a=>(H a).isSome
def kK (h:Heap) (H:Hp):Heap:=PySem.W.hideAll h (HB h H)
theorem rZ (h:Heap) (H:Hp):(kK h H).objs.size=h.objs.size:=PySem.W.hideAll_size _ _
theorem vO {h:Heap} {H:Hp} {b:Addr} {o:Obj} (e:h.get? b=some o) (n:H b=none):(kK h H).get? b=some o:=
 PySem.W.hideAll_get _ e fun hm=>by
  have q:(H b).isSome=true:=(List.mem_filter.mp hm).2
  rw [n] at q;simp at q
theorem yf {h:Heap} {H:Hp} {b:Addr} {o:Obj} (e:(kK h H).get? b=some o):h.get? b=some o/\H b=none:=by
 have e':h.get? b=some o:=PySem.W.of_hideAll (HB h H) e
 refine ⟨e',?_⟩
 cases q:H b with
 | none=>rfl
 | some x=>
  have hm:b∈HB h H:=List.mem_filter.mpr ⟨List.mem_range.mpr (Heap.lt_size e'),by simp [q]⟩
  have z:(kK h H).get? b=none:=PySem.W.hideAll_none (HB h H) hm
  rw [z] at e;cases e
def zc (g h:Heap) (L:Addr):List (Addr×Obj):=(List.range h.objs.size).filterMap fun a=>if a=L\/(g.get? a).isSome=true then none else (h.get? a).map fun o=>(a,o)
def rest (g h:Heap) (L d:Addr):List (Addr×Obj):=(zc g h L).filter fun p=>decide (p.1≠d)
structure Mod (K:Fg) (mg:Str->Option Value) (base:Heap):Prop where
 kin:K.In base
 glob:base.Ns mainGlobals mg
 blt:∃mb,base.Ns builtinsNs mb/\∀x:Str,x ≠ "__name__"->mb x=bootBuiltins x
 nolimit:base.NoLimit
structure Cx where
 prog:Program
 w:World
 K:Fg
 mg:Str->Option Value
 base:Heap
 A:Around
 N:List Str
 s₀:Shared
 H₀:Hp
 env:Env
 outer:List Env
 stack:List Env
 ex:List Addr
 fn:Str->Bool
 calm:Bool
 pn:List (Addr×Obj)
 xe:Value->Shared->Prop
def gw (l:List Env):List Addr:=l.filterMap (·.frame)
abbrev Cx.fs (X:Cx):List Addr:=gw X.outer
def DB (sc:Scope) (x:Str):Prop:=sc.names.lookup x=some .local\/sc.names.lookup x=some .cell\/sc.names.lookup x=some .free
def Loc (sc:Scope) (x:Str):Prop:=sc.names.lookup x=some .local\/sc.names.lookup x=some .cell
def Look (env:Env) (h:Heap) (m:Str->Option Value) (x:Str) (u:Value):Prop:=
 (env.kindOf x=some .local/\m x=some u)\/((env.kindOf x=some .cell\/env.kindOf x=some .free)/\∃c,env.cells.lookup x=some c/\h.IsCell c (some u))
structure Cx.Ok (X:Cx):Prop where
 mod:Mod X.K X.mg X.base
 kind:X.env.scope.kind=.function
 glob:X.env.globals=mainGlobals
 blt:X.env.builtins=builtinsNs
 above:X.s₀.heap.objs.size<=X.env.locals
 inj:∀x y c,X.env.cells.lookup x=some c->X.env.cells.lookup y=some c->x=y
 has:∀x,(X.env.kindOf x=some .cell\/X.env.kindOf x=some .free)->∃c,X.env.cells.lookup x=some c
 cab:∀x c,X.fn x=true->X.env.cells.lookup x=some c->X.s₀.heap.objs.size<=c
 hd:X.calm=true->X.A.handled=none
 frames:X.A.frames=some X.stack
 stk:X.stack=X.outer\/(X.stack=X.env::X.outer/\X.env.frame=some X.env.locals)
 exf:∀b∈X.ex,b≠X.env.locals/\∀x c,X.env.cells.lookup x=some c->c≠b
 bs:∀b o,X.base.get? b=some o->X.s₀.heap.get? b=some o/\X.H₀ b=none
 bsz:X.base.objs.size<=X.s₀.heap.objs.size
 noex:∀b o,X.base.get? b=some o->b∉X.ex
 exfs:∀b∈X.ex,b∉X.fs
 funs:X.s₀.heap.FunFrames X.base X.outer
 frf:∀b∈X.fs,X.H₀ b=none
structure Inv (X:Cx) (pins:List (Addr×Obj)) (σ:List (Option V)) (H:Hp) (s:Shared):Prop where
 ok:X.Ok
 os:s.os=X.s₀.os
 bare:AllBare s.gens
 base:Un X.fs X.ex X.H₀ H X.s₀.heap s.heap
 loc:∃m,s.heap.Ns X.env.locals m/\∀(i:Nat) (x:Str) (v:V),X.N[i]?=some x->σ[i]?=some (some v)->DB X.env.scope x->∃u,RelV v u/\Look X.env s.heap m x u
 cell:∀x c,X.env.cells.lookup x=some c->∃v,s.heap.IsCell c v
 free:H X.env.locals=none
 freeC:∀x c,X.env.cells.lookup x=some c->H c=none
 pin:∀p∈X.pn++pins,s.heap.get? p.1=some p.2/\H p.1=none/\p.1≠X.env.locals/\p.1∉X.fs/\∀v,p.2.data≠.cell v
 hok:HOk X.prog X.w H s.heap
 len:σ.length=X.N.length
section
variable {X:Cx} {pins:List (Addr×Obj)} {σ:List (Option V)} {H H':Hp} {s:Shared} {h':Heap}
theorem Cx.Ok.nofr (ok:X.Ok) {b:Addr} {o:Obj} (e:X.base.get? b=some o):b∉X.fs:=fun hb=>by
 have:=(ok.funs.mem hb).1
 rw [e] at this;cases this
theorem Inv.bs (I:Inv X pins σ H s):∀b o,X.base.get? b=some o->s.heap.get? b=some o/\H b=none:=fun b o e=>
 ⟨I.base.keep b o (I.ok.bs b o e).1 (I.ok.bs b o e).2 (I.ok.nofr e) (I.ok.noex b o e),I.base.free b o (I.ok.bs b o e).1 (I.ok.bs b o e).2 (I.ok.noex b o e)⟩
theorem Inv.bk (I:Inv X pins σ H s):∀b o,X.base.get? b=some o->s.heap.get? b=some o:=fun b o e=>(I.bs b o e).1
theorem Inv.mod (I:Inv X pins σ H s):Mod X.K X.mg X.base:=I.ok.mod
theorem Inv.kIn (I:Inv X pins σ H s):X.K.In s.heap:=I.ok.mod.kin.keeps I.bk
theorem Inv.lt (I:Inv X pins σ H s):X.env.locals<s.heap.objs.size:=let ⟨_,hn,_⟩:=I.loc;hn.lt
theorem Inv.sz (I:Inv X pins σ H s):X.s₀.heap.objs.size<=s.heap.objs.size:=Nat.le_trans I.ok.above (Nat.le_of_lt I.lt)
theorem Inv.nofs (I:Inv X pins σ H s) {a:Addr} (h:s.heap.objs.size<=a):a∉X.fs:=fun hb=>by
 obtain ⟨_,o,ho,_⟩:=I.ok.funs.mem hb;exact absurd (Nat.lt_of_lt_of_le (Heap.lt_size ho) (Nat.le_trans I.sz h)) (Nat.lt_irrefl _)
theorem Inv.cne (I:Inv X pins σ H s):∀x c,X.env.cells.lookup x=some c->c≠X.env.locals:=fun x c e z=>by
 obtain ⟨v,o,ho,hd⟩:=I.cell x c e;obtain ⟨m,⟨o',es,ep,ho',hd',_⟩,_⟩:=I.loc;rw [z,ho'] at ho;cases ho;rw [hd'] at hd;cases hd
theorem Inv.funs (I:Inv X pins σ H s):s.heap.FunFrames X.base X.outer:=by
 have all:∀(l:List Env),(∀b∈gw l,b∈X.fs)->X.s₀.heap.FunFrames X.base l->s.heap.FunFrames X.base l:=by
  intro l;induction l with
  | nil=>intro _ _;trivial
  | cons env r ih=>
   intro hs hl;obtain ⟨hk,⟨L,o,hf,hn,ho,hd⟩,hr⟩:=hl;have hL:L∈X.fs:=hs L (by unfold gw;rw [filterMap_cons,hf];exact mem_cons_self)
   obtain ⟨sl,e⟩:=I.base.slot L o ho (I.ok.frf L hL) hL fun z=>I.ok.exfs L z hL
   exact ⟨hk,⟨L,_,hf,hn,e,hd⟩,ih (fun b hb=>hs b (by unfold gw;rw [filterMap_cons,hf];exact LX _ hb)) hr⟩
 exact all X.outer (fun _ hb=>hb) I.ok.funs
theorem Inv.stack (I:Inv X pins σ H s):s.heap.FunFrames X.base X.stack:=by
 rcases I.ok.stk with e | ⟨e,hf⟩
 ·rw [e];exact I.funs
 ·rw [e]
  obtain ⟨m,hn,_⟩:=I.loc;refine .cons (by rw [I.ok.kind];decide) hf hn ?_ I.funs
  exact Heap.get?_none_of_le (Nat.le_trans I.ok.bsz I.ok.above)
theorem Inv.stkSub (I:Inv X pins σ H s):∀b∈gw X.stack,b∈X.env.locals::X.fs:=fun b hb=>by
 rcases I.ok.stk with e | ⟨e,hf⟩
 ·rw [e] at hb;exact LX _ hb
 ·rw [e] at hb
  unfold gw at hb;rw [filterMap_cons,hf] at hb;exact hb
theorem Inv.stkFree (I:Inv X pins σ H s):∀b∈gw X.stack,H b=none:=fun b hb=>by
 rcases LU (I.stkSub b hb) with e | hb
 ·rw [e];exact I.free
 ·obtain ⟨_,o,ho,_⟩:=I.ok.funs.mem hb
  exact I.base.free b o ho (I.ok.frf b hb) fun z=>I.ok.exfs b z hb
theorem Inv.step {g':Array GenState} {t':Nat} {d':Drawn} {ch:List Addr} (I:Inv X pins σ H s)
  (hch:∀b∈ch,(b∈X.ex\/X.s₀.heap.objs.size<=b)/\b≠X.env.locals/\(∀x c,X.env.cells.lookup x=some c->c≠b)/\∀p∈X.pn++pins,p.1≠b)
  (keep:∀b o,b≠X.env.locals->b∉X.fs->b∉ch->s.heap.get? b=some o->H b=none->h'.get? b=some o)
  (slot:∀b o,b≠X.env.locals->b∈X.fs->b∉ch->s.heap.get? b=some o->H b=none->∃sl,h'.get? b=some { o with slots:=sl }) (free:∀b o,b∉ch->s.heap.get? b=some o->H b=none->H' b=none)
  (there:∀b o,b∉ch->s.heap.get? b=some o->∃o',h'.get? b=some o')
  (tups:∀b xs,H b=some (.tup xs)->H' b=some (.tup xs)) (frzs:∀b o u,H b=some (.frz o u)->H' b=some (.frz o u)) (tbls:∀b ps,H b=some (.tbl ps)->∃more,H' b=some (.tbl (ps++more)))
  (ns:∀m,s.heap.Ns X.env.locals m->h'.Ns X.env.locals m) (hok:HOk X.prog X.w H' h') (hg:AllBare g') :
  Inv X pins σ H' { s with heap:=h',gens:=g',drawn:=d',toks:=t' }:=by
 have neL:∀b o,X.s₀.heap.get? b=some o->b≠X.env.locals:=fun b o e=>Nat.ne_of_lt (Nat.lt_of_lt_of_le (Heap.lt_size e) I.ok.above)
 have neC:∀b o,X.s₀.heap.get? b=some o->b∉X.ex->b∉ch:=fun b o e hx hb=>by
  rcases (hch b hb).1 with z | z
  ·exact hx z
  ·exact absurd (Nat.lt_of_lt_of_le (Heap.lt_size e) z) (Nat.lt_irrefl _)
 have cellK:∀x c,X.env.cells.lookup x=some c->∀v,s.heap.IsCell c v->h'.IsCell c v:=fun x c e v ⟨o,ho,hd⟩=>by
  have nch:c∉ch:=fun z=>(hch c z).2.2.1 x c e rfl
  by_cases hc:c∈X.fs
  ·obtain ⟨sl,q⟩:=slot c o (I.cne x c e) hc nch ho (I.freeC x c e)
   exact ⟨_,q,hd⟩
  ·exact ⟨o,keep c o (I.cne x c e) hc nch ho (I.freeC x c e),hd⟩
 refine ⟨I.ok,I.os,hg,⟨fun b o e n hb hx=>?_,fun b o e n hb hx=>?_,fun b o e n hx=>?_,fun b o e hx=>?_,fun b xs e=>tups b xs (I.base.tups b xs e),fun b o xs e=>frzs b o xs (I.base.frzs b o xs e),fun b ps e=>?_⟩,?_,fun x c e=>?_,?_,fun x c e=>?_,fun p hp=>?_,hok,I.len⟩
 ·exact keep b o (neL b o e) hb (neC b o e hx) (I.base.keep b o e n hb hx) (I.base.free b o e n hx)
 ·obtain ⟨sl,e1⟩:=I.base.slot b o e n hb hx
  obtain ⟨sl',e2⟩:=slot b _ (neL b o e) hb (neC b o e hx) e1 (I.base.free b o e n hx);exact ⟨sl',e2⟩
 ·obtain ⟨o',e1⟩:=I.base.there b o e hx
  exact free b o' (neC b o e hx) e1 (I.base.free b o e n hx)
 ·obtain ⟨o',e1⟩:=I.base.there b o e hx
  exact there b o' (neC b o e hx) e1
 ·obtain ⟨m1,e1⟩:=I.base.tbls b ps e
  obtain ⟨m2,e2⟩:=tbls b _ e1;exact ⟨m1++m2,by rw [e2,Array.append_assoc]⟩
 ·obtain ⟨m,hn,hl⟩:=I.loc
  refine ⟨m,ns m hn,fun i x v e1 e2 e3=>?_⟩
  obtain ⟨u,r,l⟩:=hl i x v e1 e2 e3;refine ⟨u,r,?_⟩
  rcases l with l | ⟨k,c,e,z⟩
  ·exact .inl l
  ·exact .inr ⟨k,c,e,cellK x c e _ z⟩
 ·obtain ⟨v,z⟩:=I.cell x c e
  exact ⟨v,cellK x c e v z⟩
 ·obtain ⟨m,⟨o,_,_,ho,_⟩,_⟩:=I.loc
  exact free _ o (fun z=>(hch _ z).2.1 rfl) ho I.free
 ·obtain ⟨v,o,ho,hd⟩:=I.cell x c e
  exact free c o (fun z=>(hch c z).2.2.1 x c e rfl) ho (I.freeC x c e)
 ·obtain ⟨e,n,ne,nf,d⟩:=I.pin p hp
  have nch:p.1∉ch:=fun z=>(hch p.1 z).2.2.2 p hp rfl
  exact ⟨keep p.1 p.2 ne nf nch e n,free p.1 p.2 nch e n,ne,nf,d⟩
theorem Inv.un {t':Nat} (I:Inv X pins σ H s) (u:Un X.fs [] H H' s.heap h') (hok:HOk X.prog X.w H' h'):Inv X pins σ H' { s with heap:=h',toks:=t' }:=by
 obtain ⟨m,⟨o,es,ep,ho,r⟩,_⟩:=id I.loc;obtain ⟨sl,hL⟩:=u.any ho I.free (by simp)
 exact I.step (g':=s.gens) (d':=s.drawn) (ch:=[]) (fun _ z=>nomatch z) (fun b o _ hb _ e n=>u.keep b o e n hb (by simp)) (fun b o _ hb _ e n=>u.slot b o e n hb (by simp)) (fun b o _ e n=>u.free b o e n (by simp)) (fun b o _ e=>u.there b o e (by simp)) u.tups u.frzs u.tbls (fun m' hm=>by
  obtain ⟨o',es',ep',ho',r'⟩:=hm;rw [ho] at ho';cases ho'
  exact ⟨_,es',ep',hL,r'⟩) hok I.bare
theorem Inv.call {g':Array GenState} {t':Nat} {d':Drawn} {ch:List Addr} (I:Inv X pins σ H s) (u:Un (gw X.stack) ch H H' s.heap h') (hok:HOk X.prog X.w H' h') (hg:AllBare g')
  (hch:∀b∈ch,(b∈X.ex\/X.s₀.heap.objs.size<=b)/\b≠X.env.locals/\(∀x c,X.env.cells.lookup x=some c->c≠b)/\∀p∈X.pn++pins,p.1≠b) :
  Inv X pins σ H' { s with heap:=h',gens:=g',drawn:=d',toks:=t' }:=by
 obtain ⟨m,⟨o,es,ep,ho,r⟩,_⟩:=id I.loc;obtain ⟨sl,hL⟩:=u.any ho I.free fun z=>(hch _ z).2.1 rfl
 exact I.step (ch:=ch) hch (fun b o hL hb hc e n=>u.keep b o e n (fun z=>(LU (I.stkSub b z)).elim hL hb) hc) (fun b o _ _ hc e n=>u.any e n hc) (fun b o hc e n=>u.free b o e n hc) (fun b o hc e=>u.there b o e hc) u.tups u.frzs u.tbls (fun m' hm=>by
  obtain ⟨o',es',ep',ho',r'⟩:=hm;rw [ho] at ho';cases ho'
  exact ⟨_,es',ep',hL,r'⟩) hok hg
theorem Inv.turned {t':Nat} {it:Addr} (I:Inv X pins σ H s) (k:∀b o,b≠it->s.heap.get? b=some o->h'.get? b=some o) (hn:H it=none) (hL:it≠X.env.locals)
  (h1:it∈X.ex\/X.s₀.heap.objs.size<=it) (h2:∀x c,X.env.cells.lookup x=some c->c≠it) (h3:∀p∈X.pn++pins,p.1≠it):Inv X pins σ H { s with heap:=h',toks:=t' }:=by
 have nit:∀b u,H b=some u->b≠it:=fun b u e z=>by rw [z,hn] at e;cases e
 refine I.step (g':=s.gens) (d':=s.drawn) (ch:=[it]) (fun b hb=>?_) (fun b o _ _ hc e _=>k b o (fun z=>hc (by simp [z])) e) (fun b o _ _ hc e _=>⟨o.slots,k b o (fun z=>hc (by simp [z])) e⟩) (fun _ _ _ _ n=>n)
  (fun b o hc e=>⟨o,k b o (fun z=>hc (by simp [z])) e⟩) (fun _ _ e=>e) (fun _ _ _ e=>e) (fun b ps e=>⟨#[],by rw [e];simp⟩) (fun m hm=>?_) (fun b u e=>?_) I.bare
 ·have e:b=it:=by simpa using hb
  subst e;exact ⟨h1,hL,h2,h3⟩
 ·obtain ⟨o,es,ep,ho,r⟩:=hm
  exact ⟨o,es,ep,k _ o (Ne.symm hL) ho,r⟩
 ·refine (I.hok b u e).stay (fun c v hc q=>k c v ?_ q) (fun _ q=>q) fun _ _ q=>q
  rcases hc with z | z
  ·rw [z];exact nit b u e
  ·exact nit c _ z
theorem Inv.tok (I:Inv X pins σ H s) (t:Nat):Inv X pins σ H { s with toks:=t }:=I.un (h':=s.heap) (t':=t) Un.refl I.hok
theorem Inv.kept {t':Nat} (I:Inv X pins σ H s) (k:∀b u,s.heap.get? b=some u->h'.get? b=some u):Inv X pins σ H { s with heap:=h',toks:=t' }:=I.un (Un.kept k) (I.hok.kept k)
theorem Inv.laid {a:Addr} {o:HO} {t':Nat} (I:Inv X pins σ H s) (k:∀b u,s.heap.get? b=some u->h'.get? b=some u) (hp:s.heap.objs.size<=a) (new:ObjOk X.prog X.w (cy H a o) h' a o) :
  Inv X pins σ (cy H a o) { s with heap:=h',toks:=t' }:=I.un (Un.laid k hp (I.hok.fresh hp)) (I.hok.laid k hp new)
theorem Inv.write {x e:Addr} {o:HO} {t':Nat} (I:Inv X pins σ H s) (mu:Ia (H x)) (he:e=x\/H e=some (.own x)) (k:∀b u,b≠e->s.heap.get? b=some u->h'.get? b=some u) (heo:∃u,h'.get? e=some u)
  (new:ObjOk X.prog X.w (cy H x o) h' x o):Inv X pins σ (cy H x o) { s with heap:=h',toks:=t' }:=I.un (Un.write mu he k heo) (I.hok.write mu he k heo new)
theorem Inv.weak {σ':List (Option V)} (I:Inv X pins σ H s) (hl:σ'.length=σ.length) (w:∀(i:Nat) v,σ'[i]?=some (some v)->σ[i]?=some (some v)):Inv X pins σ' H s:=
 ⟨I.ok,I.os,I.bare,I.base,let ⟨m,hn,hl'⟩:=I.loc;⟨m,hn,fun i x v e1 e2 e3=>hl' i x v e1 (w i v e2) e3⟩,I.cell,I.free,I.freeC,I.pin,I.hok,hl.trans I.len⟩
theorem Inv.pins_of {pins':List (Addr×Obj)} (I:Inv X pins σ H s) (h:∀p∈pins',s.heap.get? p.1=some p.2/\H p.1=none/\p.1≠X.env.locals/\p.1∉X.fs/\∀v,p.2.data≠.cell v):Inv X pins' σ H s:=
 ⟨I.ok,I.os,I.bare,I.base,I.loc,I.cell,I.free,I.freeC,fun p hp=>(LR hp).elim (fun z=>I.pin p (LQ _ z)) (h p),I.hok,I.len⟩
theorem IP {N:List Str} (hN:N.Nodup) {i j:Nat} {x:Str} (a:N[i]?=some x) (b:N[j]?=some x):i=j:=by
 obtain ⟨h1,e1⟩:=L0 a
 obtain ⟨h2,e2⟩:=L0 b
 exact (List.getElem_inj hN).mp (e1.trans e2.symm)
theorem jJ {M:Model} {A:Around} {E:Value->Shared->Prop} {i:Nat} {x:Str} {v:V} {u:Value} {Q:Unit->Shared->Prop} (I:Inv X pins σ H s) (hN:X.N.Nodup) (hi:X.N[i]?=some x) (hx:Loc X.env.scope x) (r:RelV v u)
  (h:∀s',Inv X pins (σ.set i (some v)) H s'->(∃a,Heap.SameBut a s.heap s'.heap/\(a=X.env.locals\/X.env.cells.lookup x=some a))->Q () s') (hf:X.fn x=true\/X.env.scope.names.lookup x=some .local:=by first | exact .inl rfl | exact .inr rfl | assumption):wpAny M A (storeName X.env x u) Q E s:=by
 obtain ⟨m,hn,hl⟩:=id I.loc;have hcls:(X.env.scope.kind==.class||(X.env.scope.kind==.module&&X.env.locals != X.env.globals))=false:=by rw [I.ok.kind];rfl
 have hiσ:i<σ.length:=by rw [I.len];exact (L0 hi).1
 have cne:=I.cne
 have tracked:∀{a:Addr} {h':Heap},(∃o,s.heap.get? a=some o/\H a=none)->Heap.SameBut a s.heap h'->HOk X.prog X.w H h':=fun {a h'} ha hs b ob e=>by
  obtain ⟨_,_,hfree⟩:=ha;refine (I.hok b ob e).stay (fun c w' hc q=>(hs.2 c ?_).trans q) (fun _ q=>q) fun _ _ q=>q
  rintro rfl
  rcases hc with rfl | hc
  ·rw [hfree] at e;cases e
  ·rw [hfree] at hc;cases hc
 rcases hx with hk | hk
 ·refine wpAny_storeName_local hk hn (fun h' hn' hs=>?_) hcls
  obtain ⟨oL,_,_,hoL,_⟩:=id hn;refine h _ ⟨I.ok,I.os,I.bare,⟨fun b o e n hb hx=>?_,fun b o e n hb hx=>?_,I.base.free,fun b o e hx=>?_,I.base.tups,I.base.frzs,I.base.tbls⟩,⟨_,hn',fun j y v' e1 e2 e3=>?_⟩,fun y c e=>?_,I.free,I.freeC,fun p hp=>?_,tracked ⟨oL,hoL,I.free⟩ hs,by simpa using I.len⟩ ⟨_,hs,.inl rfl⟩
  ·exact (hs.2 b (Nat.ne_of_lt (Nat.lt_of_lt_of_le (Heap.lt_size e) I.ok.above))).trans (I.base.keep b o e n hb hx)
  ·obtain ⟨sl,e1⟩:=I.base.slot b o e n hb hx
   exact ⟨sl,(hs.2 b (Nat.ne_of_lt (Nat.lt_of_lt_of_le (Heap.lt_size e) I.ok.above))).trans e1⟩
  ·obtain ⟨o',e1⟩:=I.base.there b o e hx
   exact ⟨o',(hs.2 b (Nat.ne_of_lt (Nat.lt_of_lt_of_le (Heap.lt_size e) I.ok.above))).trans e1⟩
  ·by_cases hj:j=i
   ·subst hj
    rw [hi] at e1;cases e1;rw [getElem?_set_self hiσ] at e2
    cases e2;exact ⟨u,r,.inl ⟨hk,by simp⟩⟩
   ·rw [getElem?_set_ne (Ne.symm hj)] at e2
    obtain ⟨u',r',q⟩:=hl j y v' e1 e2 e3
    refine ⟨u',r',?_⟩
    rcases q with ⟨k,e⟩ | ⟨k,c,e,z⟩
    ·refine .inl ⟨k,?_⟩
     have:y≠x:=fun e=>hj (IP hN e1 (e▸hi))
     simp [this,e]
    ·exact .inr ⟨k,c,e,z.sameBut hs (cne y c e)⟩
  ·obtain ⟨w',z⟩:=I.cell y c e
   exact ⟨w',z.sameBut hs (cne y c e)⟩
  ·obtain ⟨e,n,ne,nf,d⟩:=I.pin p hp
   exact ⟨(hs.2 p.1 ne).trans e,n,ne,nf,d⟩
 ·have hfn:X.fn x=true:=by
   rcases hf with z | z
   ·exact z
   ·rw [z] at hk;cases hk
  obtain ⟨c,hc⟩:=I.ok.has x (.inl hk);obtain ⟨w',z⟩:=I.cell x c hc;refine wpAny_storeName_cell I.ok.kind hk hc z (fun h' hc' hs=>?_)
  obtain ⟨oc,hoc,hocd⟩:=id z;refine h { s with heap:=h' } ⟨I.ok,I.os,I.bare,⟨fun b o e n hb hx=>?_,fun b o e n hb hx=>?_,I.base.free,fun b o e hx=>?_,I.base.tups,I.base.frzs,I.base.tbls⟩,⟨m,hn.sameBut hs (Ne.symm (cne x c hc)),fun j y v' e1 e2 e3=>?_⟩,fun y c' e=>?_,I.free,I.freeC,fun p hp=>?_,tracked ⟨oc,hoc,I.freeC x c hc⟩ hs,by simpa using I.len⟩ ⟨c,hs,.inr hc⟩
  ·exact (hs.2 b (Nat.ne_of_lt (Nat.lt_of_lt_of_le (Heap.lt_size e) (I.ok.cab x c hfn hc)))).trans (I.base.keep b o e n hb hx)
  ·obtain ⟨sl,e1⟩:=I.base.slot b o e n hb hx
   exact ⟨sl,(hs.2 b (Nat.ne_of_lt (Nat.lt_of_lt_of_le (Heap.lt_size e) (I.ok.cab x c hfn hc)))).trans e1⟩
  ·obtain ⟨o',e1⟩:=I.base.there b o e hx
   exact ⟨o',(hs.2 b (Nat.ne_of_lt (Nat.lt_of_lt_of_le (Heap.lt_size e) (I.ok.cab x c hfn hc)))).trans e1⟩
  ·by_cases hj:j=i
   ·subst hj
    rw [hi] at e1;cases e1;rw [getElem?_set_self hiσ] at e2
    cases e2;exact ⟨u,r,.inr ⟨.inl hk,c,hc,hc'⟩⟩
   ·rw [getElem?_set_ne (Ne.symm hj)] at e2
    obtain ⟨u',r',q⟩:=hl j y v' e1 e2 e3
    refine ⟨u',r',?_⟩
    rcases q with q | ⟨k,c',e,z'⟩
    ·exact .inl q
    ·refine .inr ⟨k,c',e,z'.sameBut hs ?_⟩
     rintro rfl
     exact hj (IP hN e1 (I.ok.inj _ _ _ e hc▸hi))
  ·by_cases hcc:c'=c
   ·subst hcc;exact ⟨_,hc'⟩
   ·obtain ⟨w2,z2⟩:=I.cell y c' e
    exact ⟨w2,z2.sameBut hs hcc⟩
  ·obtain ⟨e,n,ne,nf,d⟩:=I.pin p hp
   refine ⟨(hs.2 p.1 ?_).trans e,n,ne,nf,d⟩
   intro q;rw [q,hoc] at e;have q':oc=p.2:=Option.some.inj e
   exact d w' (by rw [<-q'];exact hocd)
theorem DX {M:Model} {A:Around} {E:Value->Shared->Prop} {i:Nat} {x:Str} {v:V} {u:Value} {Q:Unit->Shared->Prop} (I:Inv X pins σ H s) (hN:X.N.Nodup) (hi:X.N[i]?=some x) (hx:Loc X.env.scope x) (r:RelV v u)
  (h:∀s',Inv X pins (σ.set i (some v)) H s'->Q () s') (hf:X.fn x=true\/X.env.scope.names.lookup x=some .local:=by first | exact .inl rfl | exact .inr rfl | assumption):wpAny M A (storeName X.env x u) Q E s:=
 jJ I hN hi hx r (fun s' I' _=>h s' I') hf
theorem Inv.call' {s':Shared} {ch:List Addr} (I:Inv X pins σ H s) (ho:s'.os=s.os) (u:Un (gw X.stack) ch H H' s.heap s'.heap) (hok:HOk X.prog X.w H' s'.heap) (hg:AllBare s'.gens)
  (hch:∀b∈ch,(b∈X.ex\/X.s₀.heap.objs.size<=b)/\b≠X.env.locals/\(∀x c,X.env.cells.lookup x=some c->c≠b)/\∀p∈X.pn++pins,p.1≠b):Inv X pins σ H' s':=by
 obtain ⟨h',g',d',t',o'⟩:=s'
 have e:o'=s.os:=ho
 subst e;exact I.call (g':=g') (t':=t') (d':=d') u hok hg hch
end
abbrev XK:=Value->Option Addr->Hp->Prop
abbrev St:=List (Option V)
abbrev VK:=V->Hp->Prop
abbrev TE:=St->Hp->VK->Prop
abbrev TT:=St->Hp->(Bool->Hp->Prop)->Prop
abbrev TA:=St->Hp->(List V->Hp->Prop)->Prop
structure dI where
 nx:St->Hp->Prop
 rt:VK
 bk:St->Hp->Prop:=fun _ _=>False
 ct:St->Hp->Prop:=fun _ _=>False
abbrev TS:=dI->St->Hp->Prop
def EP (X:Cx) (pins:List (Addr×Obj)) (σ:St) (Q:VK) (u:Value) (s':Shared):Prop:=∃v H',Inv X pins σ H' s'/\RelV v u/\Q v H'
def TP (X:Cx) (pins:List (Addr×Obj)) (σ:St) (Q:Bool->Hp->Prop) (b:Bool) (s':Shared):Prop:=∃H',Inv X pins σ H' s'/\Q b H'
def AP (X:Cx) (pins:List (Addr×Obj)) (σ:St) (Q:List V->Hp->Prop) (us:List Value) (s':Shared):Prop:=∃vs H',Inv X pins σ H' s'/\Vals vs us/\Q vs H'
def SP (X:Cx) (pins:List (Addr×Obj)) (D:dI) (f:Flow) (s':Shared):Prop:=
 match f with
 | .next=>∃σ' H',Inv X pins σ' H' s'/\D.nx σ' H'
 | .brk=>∃σ' H',Inv X pins σ' H' s'/\D.bk σ' H'
 | .cont=>∃σ' H',Inv X pins σ' H' s'/\D.ct σ' H'
 | .ret u=>∃v σ' H',Inv X pins σ' H' s'/\RelV v u/\D.rt v H'
def PE (X:Cx) (e:Expr) (t:TE):Prop:=
 ∀(pins:List (Addr×Obj)) (s:Shared) (σ:St) (H:Hp) (Q:VK),Inv X pins σ H s->t σ H Q->wpAny (model X.prog X.w) X.A (eval e X.env) (EP X pins σ Q) X.xe s
def PT (X:Cx) (e:Expr) (t:TT):Prop:=
 ∀(pins:List (Addr×Obj)) (s:Shared) (σ:St) (H:Hp) (Q:Bool->Hp->Prop),Inv X pins σ H s->t σ H Q->wpAny (model X.prog X.w) X.A (isTrue e X.env (eval e X.env)) (TP X pins σ Q) X.xe s
def PW (X:Cx) (e:Expr) (t:TT):Prop:=
 ∀(whole:Sem Value) (pins:List (Addr×Obj)) (s:Shared) (σ:St) (H:Hp) (Q:Bool->Hp->Prop),Inv X pins σ H s->t σ H Q->wpAny (model X.prog X.w) X.A (isTrue e X.env whole) (TP X pins σ Q) X.xe s
theorem PW.pt {X:Cx} {e:Expr} {t:TT} (h:PW X e t):PT X e t:=h _
def PA (X:Cx) (es:List Expr) (t:TA):Prop:=
 ∀(pos:Pos) (pins:List (Addr×Obj)) (s:Shared) (σ:St) (H:Hp) (Q:List V->Hp->Prop),Inv X pins σ H s->t σ H Q->wpAny (model X.prog X.w) X.A (spliced (backTo pos (starEach es X.env))) (AP X pins σ Q) X.xe s
def PS (X:Cx) (st:Stmt) (t:TS):Prop:=
 ∀(pins:List (Addr×Obj)) (s:Shared) (σ:St) (H:Hp) (D:dI),Inv X pins σ H s->t D σ H->wpAny (model X.prog X.w) X.A (exec st X.env) (SP X pins D) X.xe s
def PSs (X:Cx) (st:List Stmt) (t:TS):Prop:=
 ∀(pins:List (Addr×Obj)) (s:Shared) (σ:St) (H:Hp) (D:dI),Inv X pins σ H s->t D σ H->wpAny (model X.prog X.w) X.A (execs st X.env) (SP X pins D) X.xe s
theorem bK {α:Type} {t:Sem α} {Q Q':α->Shared->Prop} {M:Model} {A:Around} {E:Value->Shared->Prop} {s:Shared} (h:wpAny M A t Q E s) (hQ:∀a s,Q a s->Q' a s):wpAny M A t Q' E s:=wpAny_mono h hQ fun _ _ x=>x
section
variable {X:Cx}
def fA (i:Nat):TE:=fun σ H Q=>∃v,σ[i]?=some (some v)/\Q v H
def tC (v:V):TE:=fun _ H Q=>Q v H
theorem qH {i:Nat} {x:Str} {pos:Pos} (hN:X.N[i]?=some x) (hv:DB X.env.scope x) (hd:(x==("__debug__":Str))=false:=by decide) (hcd:(x==("__classdict__":Str))=false:=by decide):PE X (.Name x pos) (fA i):=by
 intro pins s σ H Q I h;obtain ⟨v,e,h⟩:=h;obtain ⟨m,hn,hl⟩:=I.loc;obtain ⟨u,r,l⟩:=hl i x v hN e hv;have fin:EP X pins σ Q u s:=⟨v,H,I,r,h⟩
 rcases l with ⟨hk,hm⟩ | ⟨hk,c,hc,hcell⟩
 ·exact wpAny_Name (wpAny_loadName_local I.ok.kind hk hn hm fin) hd
 ·rcases hk with hk | hk
  ·exact wpAny_Name (wpAny_loadName_cell I.ok.kind hk hc hcell fin) hd
  ·exact wpAny_Name (wpAny_loadName_free I.ok.kind hk hc hcell fin hcd) hd
theorem Cj {i j pos}:PE X (.Constant (.int i) j pos) (tC (.int i)):=fun _ _ _ H _ I h=>wpAny_Constant_int ⟨.int i,H,I.tok _,⟨_,rfl⟩,h⟩
theorem vi {b j pos}:PE X (.Constant (.bool b) j pos) (tC (.bl b)):=fun _ _ _ H _ I h=>Constant_bool ⟨.bl b,H,I,rfl,h⟩
theorem Ci {j pos}:PE X (.Constant .none j pos) (tC .non):=fun _ _ _ H _ I h=>Constant_none ⟨.non,H,I,rfl,h⟩
theorem vc {x j pos}:PE X (.Constant (.str x) j pos) (tC (.str x)):=fun _ _ _ H _ I h=>Calls.Constant_str ⟨.str x,H,I.tok _,⟨_,rfl⟩,h⟩
def Gl (X:Cx) (x:Str):Prop:=X.env.kindOf x=some .globalImplicit
theorem AB {E:Value->Shared->Prop} {pins:List (Addr×Obj)} {s:Shared} {σ:St} {H:Hp} {x:Str} {u:Value} {pos:Pos} {Q:Value->Shared->Prop} (I:Inv X pins σ H s) (hg:Gl X x) (hm:X.mg x=some u) (h:Q u s)
  (hd:(x==("__debug__":Str))=false:=by decide):wpAny (model X.prog X.w) X.A (eval (.Name x pos) X.env) Q E s:=
 Calls.Name_function_global I.ok.kind hg (Calls.loadGlobal_global (by rw [I.ok.glob];exact I.mod.glob.keeps I.bk) hm h) hd
theorem As {E:Value->Shared->Prop} {pins:List (Addr×Obj)} {s:Shared} {σ:St} {H:Hp} {x:Str} {u:Value} {pos:Pos} {Q:Value->Shared->Prop} (I:Inv X pins σ H s) (hg:Gl X x) (hm:X.mg x=none) (hv:bootBuiltins x=some u) (h:Q u s)
  (hn:x ≠ "__name__":=by decide) (hd:(x==("__debug__":Str))=false:=by decide):wpAny (model X.prog X.w) X.A (eval (.Name x pos) X.env) Q E s:=by
 obtain ⟨mb,h1,h2⟩:=I.mod.blt;exact Calls.Name_function_global I.ok.kind hg (Calls.loadGlobal_builtin (by rw [I.ok.glob];exact I.mod.glob.keeps I.bk) hm (by rw [I.ok.blt];exact h1.keeps I.bk) ((h2 x hn).trans hv) h) hd
theorem pZ {x:Str} {v:V} {u:Value} {pos:Pos} (hg:Gl X x) (hm:X.mg x=some u) (r:RelV v u) (hd:(x==("__debug__":Str))=false:=by decide):PE X (.Name x pos) (tC v):=
 fun _ _ _ H _ I h=>AB I hg hm ⟨v,H,I,r,h⟩ hd
theorem p8 {x:Str} {v:V} {u:Value} {pos:Pos} (hg:Gl X x) (hm:X.mg x=none) (hv:bootBuiltins x=some u) (r:RelV v u) (hn:x ≠ "__name__":=by decide) (hd:(x==("__debug__":Str))=false:=by decide):PE X (.Name x pos) (tC v):=
 fun _ _ _ H _ I h=>As I hg hm hv ⟨v,H,I,r,h⟩ hn hd
variable {a b:Expr} {ta tb:TE} {pos:Pos}
def PC (X:Cx) (op:CmpOp) (a b:Expr) (t:TE):Prop:=
 ∀(pins:List (Addr×Obj)) (s:Shared) (σ:St) (H:Hp) (Q:VK),Inv X pins σ H s->t σ H Q ->
  wpAny (model X.prog X.w) X.A (eval a X.env) (fun v s₁=>wpAny (model X.prog X.w) X.A (eval b X.env) (fun u s₂=>wpAny (model X.prog X.w) X.A (compareOp op v u) (EP X pins σ Q) X.xe s₂) X.xe s₁) X.xe s
def tB (t:TE):TT:=fun σ H Q=>t σ H fun x H1=>∃c,x=.bl c/\Q c H1
theorem Cm {op:CmpOp} {t:TE} (h:PC X op a b t) (h1:behindInMarks op b=false:=by first | exact nobehind _ (by decide) (by decide) | rfl):PE X (.Compare a [op] [b] pos) t:=fun pins s σ H Q I hw=>wpAny_Compare1 (h pins s σ H Q I hw) h1
variable {tA tB':TT} {rest:List Expr}
def EZ (t u:TT):TT:=fun σ H Q=>t σ H fun c H1=>if c=true then u σ H1 Q else Q false H1
def KI (t u:TT):TT:=fun σ H Q=>t σ H fun c H1=>if c=true then Q true H1 else u σ H1 Q
def EU (t:TT):TT:=fun σ H Q=>t σ H fun c H1=>Q (!c) H1
theorem xU (ha:PT X a tA):PW X (.BoolOp .And [a] pos) tA:=by
 intro wh pins s σ H Q I h;refine isTrue_and (bK (ha pins s σ H Q I h) fun c s1 e=>?_)
 cases c with
 | true=>exact isTrue_and_nil e
 | false=>exact e
theorem u4 (ha:PT X a tA):PW X (.BoolOp .Or [a] pos) tA:=by
 intro wh pins s σ H Q I h;refine isTrue_or (bK (ha pins s σ H Q I h) fun c s1 e=>?_)
 cases c with
 | false=>exact isTrue_or_nil e
 | true=>exact e
theorem B6 (ha:PT X a tA) (hb:PW X (.BoolOp .And (b::rest) pos) tB'):PW X (.BoolOp .And (a::b::rest) pos) (EZ tA tB'):=by
 intro wh pins s σ H Q I h;refine isTrue_and (bK (ha pins s σ H _ I h) fun c s1 ⟨H1,I1,q1⟩=>?_)
 cases c with
 | true=>exact hb wh pins s1 σ H1 Q I1 q1
 | false=>exact ⟨H1,I1,q1⟩
theorem zN (ha:PT X a tA) (hb:PW X (.BoolOp .Or (b::rest) pos) tB'):PW X (.BoolOp .Or (a::b::rest) pos) (KI tA tB'):=by
 intro wh pins s σ H Q I h;refine isTrue_or (bK (ha pins s σ H _ I h) fun c s1 ⟨H1,I1,q1⟩=>?_)
 cases c with
 | true=>exact ⟨H1,I1,q1⟩
 | false=>exact hb wh pins s1 σ H1 Q I1 q1
theorem u5 (ha:PT X a tA):PT X (.UnaryOp .Not a pos) (EU tA):=by
 intro pins s σ H Q I h;exact isTrue_not (ha pins s σ H (fun c H1=>Q (!c) H1) I h)
def zG (ta tb:TE):TE:=fun σ H Q=>ta σ H fun x H1=>∃c,x=.bl c/\if c=true then tb σ H1 Q else Q (.bl false) H1
def zD (ta:TE):TE:=fun σ H Q=>ta σ H fun x H1=>∃c,x=.bl c/\Q (.bl (!c)) H1
theorem pe_one {op} {t:TE} (h:PE X a t):PE X (.BoolOp op [a] pos) t:=fun pins s σ H Q I hw=>BoolOp_one (h pins s σ H Q I hw)
theorem Cn (ha:PE X a ta) (hb:PE X (.BoolOp .And (b::rest) pos) tb):PE X (.BoolOp .And (a::b::rest) pos) (zG ta tb):=by
 intro pins s σ H Q I h;refine BoolOp_and (bK (ha pins s σ H _ I h) fun v s1 ⟨x,H1,I1,r1,q1⟩=>?_)
 obtain ⟨c,rfl,q1⟩:=q1
 cases r1;refine wpAny_truthy_bool ?_
 cases c with
 | true=>exact hb pins s1 σ H1 Q I1 q1
 | false=>exact ⟨.bl false,H1,I1,rfl,q1⟩
theorem Cg (ha:PE X a ta):PE X (.UnaryOp .Not a pos) (zD ta):=by
 intro pins s σ H Q I h;refine UnaryOp_ (bK (ha pins s σ H _ I h) fun v s1 ⟨x,H1,I1,r1,q1⟩=>?_)
 obtain ⟨c,rfl,q1⟩:=q1
 cases r1;exact not_of (wpAny_truthy_bool ⟨.bl (!c),H1,I1,rfl,q1⟩)
def KL (t:TT) (ta tb:TE):TE:=fun σ H Q=>t σ H fun c H1=>if c=true then ta σ H1 Q else tb σ H1 Q
theorem vf {c:Expr} (hc:PT X c tA) (ha:PE X a ta) (hb:PE X b tb):PE X (.IfExp c a b pos) (KL tA ta tb):=by
 intro pins s σ H Q I h;refine wpAny_IfExp (bK (hc pins s σ H _ I h) fun d s1 ⟨H1,I1,q1⟩=>?_)
 cases d with
 | true=>exact ha pins s1 σ H1 Q I1 q1
 | false=>exact hb pins s1 σ H1 Q I1 q1
end
def SqL (K:Fg) (H:Hp) (a:Addr) (xs:List V):Prop:=
 Rd H a (.lst xs) \/
  ∃(o:Obj) (its:Array Value) (n:Nat),K.lookup a=some o/\o.cls=.type "list"/\o.dict=none/\o.data=.seq its n/\its.size<=sizeLine/\Vals xs its.toList
def SqT (K:Fg) (H:Hp) (a:Addr) (xs:List V):Prop:=
 Rd H a (.tup xs) \/
  ∃(o:Obj) (its:Array Value) (n:Nat),K.lookup a=some o/\o.cls=.type "tuple"/\o.data=.seq its n/\its.size<=sizeLine/\Vals xs its.toList
def Kr:Value->Option V
 | .none=>some .non
 | .bool b=>some (.bl b)
 | .int i _=>some (.int i)
 | .str x _=>some (.str x)
 | .bytes b _=>some (.byt b)
 | .float b _=>some (.flt b)
 | .ref a=>some (.ref a)
 | .type n=>some (.ty n)
 | _=>none
theorem RelV.abs {x:V} {u:Value} (r:RelV x u):Kr u=some x:=by
 cases x with
 | non=>cases r;rfl
 | bl _=>cases r;rfl
 | int _=>obtain ⟨t,rfl⟩:=r;rfl
 | str _=>obtain ⟨t,rfl⟩:=r;rfl
 | byt _=>obtain ⟨t,rfl⟩:=r;rfl
 | flt _=>obtain ⟨t,rfl⟩:=r;rfl
 | ref _=>cases r;rfl
 | ty _=>cases r;rfl
theorem RelV.inj {x y:V} {u:Value} (r:RelV x u) (q:RelV y u):x=y:=Option.some.inj (r.abs.symm.trans q.abs)
theorem Vals.inj:∀{xs ys:List V} {us:List Value},Vals xs us->Vals ys us->xs=ys
 | _,_,_,.nil,.nil=>rfl
 | _,_,_,.cons r t,.cons r' t'=>by rw [r.inj r',Vals.inj t t']
section
variable {X:Cx} {pins:List (Addr×Obj)} {σ:St} {H:Hp} {s:Shared} {a:Addr} {xs ys:List V}
theorem SqL.of {K:Fg} (h:H a=some (.lst xs)):SqL K H a xs:=.inl (.inl h)
theorem SqT.of {K:Fg} (h:H a=some (.tup xs)):SqT K H a xs:=.inl (.inl h)
theorem Inv.list (I:Inv X pins σ H s) (h:SqL X.K H a xs):∃its:List Value,Vals xs its/\PlainL s.heap a its.toArray/\xs.length<=sizeLine:=by
 rcases h with h | ⟨o,its,n,hk,hc,hd,hs,hz,r⟩
 ·obtain ⟨z,its,n,r,e⟩:=h.ok I.hok
  exact ⟨its,r,⟨_,n,e,rfl,rfl,rfl⟩,z⟩
 ·refine ⟨its.toList,r,⟨o,n,I.kIn a o hk,hc,hd,by simpa using hs⟩,?_⟩
  have e:=r.length
  simp only [Array.length_toList] at e
  omega
theorem Inv.tuple (I:Inv X pins σ H s) (h:SqT X.K H a xs):∃its:List Value,Vals xs its/\IsTup s.heap a its.toArray/\xs.length<=sizeLine:=by
 rcases h with h | ⟨o,its,n,hk,hc,hs,hz,r⟩
 ·obtain ⟨z,its,r,p⟩:=h.ok I.hok
  exact ⟨its,r,p,z⟩
 ·refine ⟨its.toList,r,⟨o,I.kIn a o hk,hc,n,by simpa using hs⟩,?_⟩
  have e:=r.length
  simp only [Array.length_toList] at e
  omega
theorem Inv.list_inj (I:Inv X pins σ H s) (h:SqL X.K H a xs) (h':SqL X.K H a ys):xs=ys:=by
 obtain ⟨its,r,⟨o,n,e,_,_,d⟩,_⟩:=I.list h;obtain ⟨its',r',⟨o',n',e',_,_,d'⟩,_⟩:=I.list h'
 rw [e] at e';cases e'
 rw [d] at d';injection d' with d1 _
 have:its=its':=by simpa using congrArg Array.toList d1
 subst this;exact r.inj r'
theorem Inv.tuple_inj (I:Inv X pins σ H s) (h:SqT X.K H a xs) (h':SqT X.K H a ys):xs=ys:=by
 obtain ⟨its,r,⟨o,e,_,n,d⟩,_⟩:=I.tuple h;obtain ⟨its',r',⟨o',e',_,n',d'⟩,_⟩:=I.tuple h'
 rw [e] at e';cases e'
 rw [d] at d';injection d' with d1 _
 have:its=its':=by simpa using congrArg Array.toList d1
 subst this;exact r.inj r'
end
abbrev Cx.wish (X:Cx) (E:Value->Shared->Prop):Cx:={ X with xe:=E }
abbrev Cx.nox (X:Cx):Cx:=X.wish fun _ _=>False
theorem Cx.Ok.wish {X:Cx} (ok:X.Ok) (E:Value->Shared->Prop):(X.wish E).Ok:=
 ⟨ok.mod,ok.kind,ok.glob,ok.blt,ok.above,ok.inj,ok.has,ok.cab,ok.hd,ok.frames,ok.stk,ok.exf,ok.bs,ok.bsz,ok.noex,ok.exfs,ok.funs,ok.frf⟩
theorem Cx.Ok.unwish {X:Cx} {E:Value->Shared->Prop} (ok:(X.wish E).Ok):X.Ok:=
 ⟨ok.mod,ok.kind,ok.glob,ok.blt,ok.above,ok.inj,ok.has,ok.cab,ok.hd,ok.frames,ok.stk,ok.exf,ok.bs,ok.bsz,ok.noex,ok.exfs,ok.funs,ok.frf⟩
section
variable {X:Cx} {pins:List (Addr×Obj)} {σ:St} {H:Hp} {s:Shared} {E:Value->Shared->Prop}
theorem Inv.wish (I:Inv X pins σ H s) (E:Value->Shared->Prop):Inv (X.wish E) pins σ H s:=⟨I.ok.wish E,I.os,I.bare,I.base,I.loc,I.cell,I.free,I.freeC,I.pin,I.hok,I.len⟩
theorem Inv.unwish (I:Inv (X.wish E) pins σ H s):Inv X pins σ H s:=⟨I.ok.unwish,I.os,I.bare,I.base,I.loc,I.cell,I.free,I.freeC,I.pin,I.hok,I.len⟩
theorem SP.unwish {D:dI} {f:Flow} {s':Shared} (h:SP (X.wish E) pins D f s'):SP X pins D f s':=by
 cases f with
 | next=>obtain ⟨σ',H',I,q⟩:=h;exact ⟨σ',H',I.unwish,q⟩
 | brk=>obtain ⟨σ',H',I,q⟩:=h;exact ⟨σ',H',I.unwish,q⟩
 | cont=>obtain ⟨σ',H',I,q⟩:=h;exact ⟨σ',H',I.unwish,q⟩
 | ret u=>obtain ⟨v,σ',H',I,r,q⟩:=h;exact ⟨v,σ',H',I.unwish,r,q⟩
theorem PSs.nox {st:List Stmt} {t:TS} (h:PSs X.nox st t):PSs X st t:=fun pins s σ H D I hw=>
 wpAny_mono (h pins s σ H D (I.wish _) hw) (fun _ _ q=>q.unwish) fun _ _ z=>False.elim z
end
section
variable {X:Cx} {st:Stmt} {rest:List Stmt} {t u:TS} {e:Expr} {te:TE} {pos:Pos}
def uz:TS:=fun D σ H=>D.nx σ H
def Be (t u:TS):TS:=fun D σ H=>t { D with nx:=u D } σ H
theorem Ir:PSs X [] uz:=fun _ _ σ H _ I h=>wpAny_execs_nil ⟨σ,H,I,h⟩
theorem mw (h1:PS X st t) (h2:PSs X rest u):PSs X (st::rest) (Be t u):=by
 intro pins s σ H D I h;refine wpAny_execs_cons (bK (h1 pins s σ H { D with nx:=u D } I h) fun f s1 q=>?_)
 cases f with
 | next=>
  obtain ⟨σ',H',I',q⟩:=q;exact h2 pins s1 σ' H' D I' q
 | ret v=>exact q
 | brk=>exact q
 | cont=>exact q
theorem Iu (h1:PS X st t):PSs X [st] t:=by
 intro pins s σ H D I h;refine wpAny_execs_cons (bK (h1 pins s σ H D I h) fun f s1 q=>?_)
 cases f with
 | next=>exact wpAny_execs_nil q
 | ret v=>exact q
 | brk=>exact q
 | cont=>exact q
theorem Inv.quiet {pins:List (Addr×Obj)} {σ:St} {H:Hp} {s:Shared} (I:Inv X pins σ H s):interactive X.env=false:=by simp [interactive,I.ok.kind]
def lQ (te:TE):TS:=fun D σ H=>te σ H fun _ H1=>D.nx σ H1
theorem G6 (he:PE X e te) (hs:swapsWith e none pos.line X.env=pure false:=by rfl):PS X (.Expr e pos) (lQ te):=by
 intro pins s σ H D I h;exact wpAny_Expr_any (bK (he pins s σ H _ I h) fun v s1 ⟨x,H1,I1,r1,q1⟩=>⟨σ,H1,I1,q1⟩) I.quiet hs
def ES (te:TE):TS:=fun D σ H=>te σ H D.rt
theorem u9 (he:PE X e te):PS X (.Return (some e) pos) (ES te):=by
 intro pins s σ H D I h;exact wpAny_Return_some (bK (he pins s σ H _ I h) fun v s1 ⟨x,H1,I1,r1,q1⟩=>⟨x,σ,H1,I1,r1,q1⟩)
def Bh (c:TT) (t u:TS):TS:=fun D σ H=>c σ H fun b H1=>if b=true then t D σ H1 else u D σ H1
theorem zO {c:Expr} {a b:List Stmt} {tc:TT} (hc:PT X c tc) (ha:PSs X a t) (hb:PSs X b u):PS X (.If c a b pos) (Bh tc t u):=by
 intro pins s σ H D I h;refine wpAny_If (bK (hc pins s σ H _ I h) fun d s1 ⟨H1,I1,q1⟩=>?_)
 cases d with
 | true=>exact ha pins s1 σ H1 D I1 q1
 | false=>exact hb pins s1 σ H1 D I1 q1
end
abbrev TG:=V->St->Hp->(St->Hp->Prop)->Prop
def PG (X:Cx) (target:Expr) (t:TG):Prop:=
 ∀(pins:List (Addr×Obj)) (s:Shared) (σ:St) (H:Hp) (v:V) (u:Value) (Q:St->Hp->Prop),Inv X pins σ H s->RelV v u->t v σ H Q ->
  wpAny (model X.prog X.w) X.A (assign target X.env u) (fun _ s'=>∃σ' H',Inv X pins σ' H' s'/\Q σ' H') X.xe s
abbrev DD:=V->V->V->Hp->(Hp->Prop)->Prop
def Gz (X:Cx) (t:DD):Prop:=
 ∀(pins:List (Addr×Obj)) (s:Shared) (σ:St) (H:Hp) (o i v:V) (ov iv u:Value) (Q:Hp->Prop),Inv X pins σ H s->RelV o ov->RelV i iv->RelV v u->t o i v H Q ->
  wpAny (model X.prog X.w) X.A (setItem ov iv u) (fun _ s'=>∃H',Inv X pins σ H' s'/\Q H') X.xe s
abbrev HZ:=V->V->Hp->VK->Prop
def Lm (X:Cx) (op:Operator) (t:HZ):Prop:=
 ∀(pins:List (Addr×Obj)) (s:Shared) (σ:St) (H:Hp) (x y:V) (v u:Value) (Q:VK),Inv X pins σ H s->RelV x v->RelV y u->t x y H Q ->
  wpAny (model X.prog X.w) X.A (inplaceOp op v u) (EP X pins σ Q) X.xe s
section
variable {X:Cx} {pos:Pos}
def gName (i:Nat):TG:=fun v σ H Q=>Q (σ.set i (some v)) H
theorem Iq {i:Nat} {x:Str} (hN:X.N.Nodup) (hi:X.N[i]?=some x) (hx:Loc X.env.scope x) (hf:X.fn x=true\/X.env.scope.names.lookup x=some .local:=by first | exact .inl rfl | exact .inr rfl | assumption):PG X (.Name x pos) (gName i):=by
 intro pins s σ H v u Q I r h;exact wpAny_assign_Name (DX I hN hi hx r (fun s' I'=>⟨_,H,I',h⟩) hf)
def gSub (to ti:TE) (t:DD):TG:=fun v σ H Q=>to σ H fun o H1=>ti σ H1 fun i H2=>t o i v H2 fun H3=>Q σ H3
theorem Cc {o i:Expr} {to ti:TE} {t:DD} (ho:PE X o to) (hi:PE X i ti) (hs:Gz X t)
  (ha:∀v,assign (.Subscript o i pos) X.env v=(do
   let ov <-holding [v] (eval o X.env)
   let iv <-holding [v,ov] (eval i X.env)
   standAt pos
   holding [v,ov,iv] (setItem ov iv v)
   release [v,ov,iv] []):=by intro _;rfl):PG X (.Subscript o i pos) (gSub to ti t):=by
 intro pins s σ H v u Q I r h;rw [ha];refine L1 (wpAny_holding (bK (ho pins s σ H _ I h) fun ov s1 ⟨x,H1,I1,r1,q1⟩=>?_))
 refine L1 (wpAny_holding (bK (hi pins s1 σ H1 _ I1 q1) fun iv s2 ⟨y,H2,I2,r2,q2⟩=>?_))
 refine L1 (wpAny_standAt (L1 (wpAny_holding (bK (hs pins s2 σ H2 x y v ov iv u _ I2 r1 r2 r q2) fun _ s3 ⟨H3,I3,q3⟩=>?_))))
 exact wpAny_release ⟨σ,H3,I3,q3⟩
def qU (te:TE) (g:TG):TS:=fun D σ H=>te σ H fun x H1=>g x σ H1 D.nx
theorem Ca {tg e:Expr} {te:TE} {g:TG} (he:PE X e te) (hg:PG X tg g) (hs:swapsWithSole [tg] e pos.line X.env=pure false:=by rfl) (hw:swappedStores [tg] e X.env=pure none:=by rfl)
  (h1:(assignEach [tg] X.env).map (·.2)=[assign tg X.env]:=by rfl):PS X (.Assign [tg] e pos) (qU te g):=by
 intro pins s σ H D I h;refine wpAny_Assign_stores (bK (he pins s σ H _ I h) fun v s1 ⟨x,H1,I1,r1,q1⟩=>?_) hs hw
 rw [h1];exact bK (hg pins s1 σ H1 x v _ I1 r1 q1) fun _ s2 q=>q
theorem IE {i:Nat} {x:Str} {e:Expr} {te:TE} {pos':Pos} (hN:X.N.Nodup) (hi:X.N[i]?=some x) (hx:Loc X.env.scope x) (he:PE X e te) (hs:swapsWith e (some (.Name x pos')) pos.line X.env=pure false:=by rfl) (hf:X.fn x=true\/X.env.scope.names.lookup x=some .local:=by first | exact .inl rfl | exact .inr rfl | assumption) :
  PS X (.Assign [.Name x pos'] e pos) (qU te (gName i)):=by
 intro pins s σ H D I h;refine wpAny_Assign_Name (bK (he pins s σ H _ I h) fun v s1 ⟨y,H1,I1,r1,q1⟩=>?_) hs
 exact DX I1 hN hi hx r1 (fun s2 I2=>⟨_,H1,I2,q1⟩) hf
def EY (i:Nat) (te:TE) (ti:HZ):TS:=fun D σ H=>∃x,σ[i]?=some (some x)/\te σ H fun y H1=>ti x y H1 fun z H2=>D.nx (σ.set i (some z)) H2
theorem B9 {i:Nat} {x:Str} {e:Expr} {te:TE} {op:Operator} {ti:HZ} {pos':Pos} (hN:X.N.Nodup) (hi:X.N[i]?=some x) (hx:Loc X.env.scope x) (he:PE X e te) (ho:Lm X op ti) (hf:X.fn x=true\/X.env.scope.names.lookup x=some .local:=by first | exact .inl rfl | exact .inr rfl | assumption) :
  PS X (.AugAssign (.Name x pos') op e pos) (EY i te ti):=by
 intro pins s σ H D I h;obtain ⟨v,e1,h⟩:=h;obtain ⟨m,hn,hl⟩:=I.loc;have vis:DB X.env.scope x:=by rcases hx with k | k;exact .inl k;exact .inr (.inl k)
 obtain ⟨u,r,l⟩:=hl i x v hi e1 vis;refine wpAny_AugAssign_Name ?_
 have go:wpAny (model X.prog X.w) X.A (eval e X.env) (fun w s₂=>wpAny (model X.prog X.w) X.A (inplaceOp op u w) (fun r s₃=>wpAny (model X.prog X.w) X.A (storeName X.env x r) (fun _=>SP X pins D .next) X.xe s₃) X.xe s₂) X.xe s:=by
  refine bK (he pins s σ H _ I h) fun w s1 ⟨y,H1,I1,r1,q1⟩=>?_
  refine bK (ho pins s1 σ H1 v y u w _ I1 r r1 q1) fun z s2 ⟨zv,H2,I2,r2,q2⟩=>?_
  exact DX I2 hN hi hx r2 (fun s3 I3=>⟨_,H2,I3,q2⟩) hf
 rcases l with ⟨hk,hm⟩ | ⟨hk,c,hc,hcell⟩
 ·exact wpAny_loadName_local I.ok.kind hk hn hm go
 ·rcases hk with hk | hk
  ·exact wpAny_loadName_cell I.ok.kind hk hc hcell go
  ·rcases hx with k | k
   ·have:X.env.scope.names.lookup x=some .free:=hk
    rw [k] at this;cases this
   ·have:X.env.scope.names.lookup x=some .free:=hk
    rw [k] at this;cases this
def La (f:Int->Int->Int):HZ:=fun x y H Q=>∃i j,x=.int i/\y=.int j/\Q (.int (f i j)) H
theorem CV:Lm X .Add (La fun i j=>i+j):=by
 intro pins s σ H x y v u Q I r1 r2 h;obtain ⟨i,j,e1,e2,q⟩:=h;subst e1;subst e2;obtain ⟨t,rfl⟩:=r1;obtain ⟨t',rfl⟩:=r2;exact iadd_int ⟨.int _,H,I.tok _,⟨_,rfl⟩,q⟩
end
section
variable {X:Cx} {pos:Pos}
def uw (c:TT) (tb:TS):TS:=fun D σ H=>∃W:Nat->St->Hp->Prop,(∃m,W m σ H)/\∀m σ H,W m σ H ->
 c σ H fun b H1=>if b=true then ∃N:St->Hp->Prop,(∀σ' H',N σ' H'->∃m',m'<m/\W m' σ' H')/\tb { D with nx:=N,ct:=N,bk:=D.nx } σ H1 else D.nx σ H1
theorem u7 {c:Expr} {body:List Stmt} {tc:TT} {tb:TS} (hp:PassesOwn (model X.prog X.w) X.A X.env X.xe) (hc:PT X c tc) (hb:PSs X body tb):PS X (.While c body [] pos) (uw tc tb):=by
 intro pins s σ H D I h;obtain ⟨W,⟨m0,w0⟩,turn⟩:=h;refine wpAny_While (codeAny_whileLoop (fun n s'=>∃σ' H',Inv X pins σ' H' s'/\W n σ' H') ?_ m0 ⟨σ,H,I,w0⟩)
 rintro n s1 ⟨σ1,H1,I1,w1⟩
 refine wpAny_passesOwn hp (bK (hc pins s1 σ1 H1 _ I1 (turn n σ1 H1 w1)) fun b s2 ⟨H2,I2,q2⟩=>?_)
 cases b with
 | true=>
  obtain ⟨N,hN,q2⟩:=q2;rw [if_pos rfl];refine wpAny_passesOwn hp (bK (hb pins s2 σ1 H2 _ I2 q2) fun f s3 q3=>?_)
  cases f with
  | next=>
   obtain ⟨σ3,H3,I3,n3⟩:=q3;obtain ⟨m',hm,w3⟩:=hN σ3 H3 n3;exact ⟨m',hm,σ3,H3,I3,w3⟩
  | cont=>
   obtain ⟨σ3,H3,I3,n3⟩:=q3;obtain ⟨m',hm,w3⟩:=hN σ3 H3 n3;exact ⟨m',hm,σ3,H3,I3,w3⟩
  | brk=>exact q3
  | ret v=>exact q3
 | false=>
  rw [if_neg Bool.false_ne_true];exact wpAny_execs_nil ⟨σ1,H2,I2,q2⟩
end
structure It where
 go:Nat->Hp->Prop
 yld:Nat->Hp->V->Hp->Prop
 stop:Nat->Hp->Prop
def nG (X:Cx) (pins:List (Addr×Obj)) (H:Hp) (b:Addr):Prop:=
 H b=none/\b≠X.env.locals/\b∉X.fs/\(b∈X.ex\/X.s₀.heap.objs.size<=b)/\(∀x c,X.env.cells.lookup x=some c->c≠b)/\∀p∈X.pn++pins,p.1≠b
theorem Inv.fpOk {X:Cx} {pins:List (Addr×Obj)} {σ:St} {H H':Hp} {s:Shared} {b:Addr} (I:Inv X pins σ H s) (hb:s.heap.objs.size<=b) (hn:H' b=none):nG X pins H' b:=by
 refine ⟨hn,Nat.ne_of_gt (Nat.lt_of_lt_of_le I.lt hb),I.nofs hb,.inr (Nat.le_trans I.sz hb),fun x c e z=>?_,fun p hp z=>?_⟩
 ·obtain ⟨v,q⟩:=I.cell x c e
  exact absurd (Nat.lt_of_lt_of_le q.lt (by rw [z];exact hb)) (Nat.lt_irrefl _)
 ·exact absurd (Nat.lt_of_lt_of_le (Heap.lt_size (I.pin p hp).1) (by rw [z];exact hb)) (Nat.lt_irrefl _)
structure wH (P:Program) (w:World) (K:Fg) (tg:Expr) (J:It) (fp:List Addr) (it:Addr) (tn:Nat->Heap->Prop):Prop where
 mem:it∈fp
 obj:∀i h,tn i h->∀b∈fp,∃o,h.get? b=some o/\∀v,o.data≠.cell v
 keep:∀i h h',tn i h->(∀b∈fp,∀o,h.get? b=some o->h'.get? b=some o)->tn i h'
 item:∀(X:Cx),X.prog=P->X.w=w->X.K=K->X.calm=true->∀(i:Nat) (pins:List (Addr×Obj)) (s:Shared) (σ:St) (H:Hp) (E:Value->Shared->Prop),Inv X pins σ H s->(∀b∈fp,nG X pins H b)->tn i s.heap->J.go i H ->
  wpAny (model P w) X.A (pyNext (.ref it)) (fun r s1=>∃u,r=some u /\
   wpAny (model P w) X.A (letOwnedTupleGo tg (.ref it) u) (fun _ s2=>∃x H',Inv X pins σ H' s2/\RelV x u/\J.yld i H x H'/\tn (i+1) s2.heap/\∀b∈fp,H' b=none) E s1) E s
 done:∀(X:Cx),X.prog=P->X.w=w->X.K=K->X.calm=true->∀(i:Nat) (pins:List (Addr×Obj)) (s:Shared) (σ:St) (H:Hp) (E:Value->Shared->Prop),Inv X pins σ H s->(∀b∈fp,nG X pins H b)->tn i s.heap->J.stop i H ->
  wpAny (model P w) X.A (pyNext (.ref it)) (fun r s1=>r=none/\Inv X pins σ H s1) E s
 self:∀(A:Around) (i:Nat) (s:Shared) (Q:Value->Shared->Prop) (E:Value->Shared->Prop),tn i s.heap->Q (.ref it) s->wpAny (model P w) A (pyIter (.ref it)) Q E s
abbrev TI:=St->Hp->(It->Hp->Prop)->Prop
def Ln (X:Cx) (pins:List (Addr×Obj)) (σ:St) (tg:Expr) (R:It->Hp->Prop) (itv:Value) (s2:Shared):Prop:=
 ∃(it:Addr) (fp:List Addr) (tn:Nat->Heap->Prop) (J:It) (H':Hp),itv=.ref it/\Inv X pins σ H' s2/\wH X.prog X.w X.K tg J fp it tn/\tn 0 s2.heap/\(∀b∈fp,nG X pins H' b)/\R J H'
def PI (X:Cx) (tg iter:Expr) (wi:TI):Prop:=
 ∀(pins:List (Addr×Obj)) (s:Shared) (σ:St) (H:Hp) (R:It->Hp->Prop),Inv X pins σ H s->wi σ H R ->
  wpAny (model X.prog X.w) X.A (eval iter X.env) (fun v s1=>wpAny (model X.prog X.w) X.A (pyIter v) (Ln X pins σ tg R) X.xe s1) X.xe s
theorem qj {M:Model} {A:Around} {E:Value->Shared->Prop} {s:Shared} {tg:Expr} {it:Addr} {u:Value} {o:Obj} {n:String} {vs:Array Value} {Q:Unit->Shared->Prop} (ho:s.heap.get? it=some o) (hc:o.cls=.type n) (hd:o.data=.fields vs)
  (hn:["enumerate", "zip", "dict_itemiterator", "dict_reverseitemiterator", "odict_iterator", "itertools.zip_longest", "itertools.pairwise"].contains n=false) (hQ:Q () s):wpAny M A (letOwnedTupleGo tg (.ref it) u) Q E s:=by
 unfold letOwnedTupleGo
 cases tg<;>first
  | exact L5 hQ
  | (cases u<;>first
      | exact L5 hQ
      | (refine L1 (wpAny_load ho ?_)
         rw [hc,hd];show wpAny M A (if (["enumerate", "zip", "dict_itemiterator", "dict_reverseitemiterator", "odict_iterator", "itertools.zip_longest", "itertools.pairwise"].contains n&&vs[0]?==some (rawInt _))=true then _ else _) Q E s
         rw [if_neg (by intro h;rw [hn,Bool.false_and] at h;cases h)]
         exact L5 hQ))
def Ig (K:Fg) (a:Addr):It:=
 ⟨fun i H=>∃xs x,SqL K H a xs/\xs[i]?=some x,fun i H x H'=>H'=H/\∀xs,SqL K H a xs->xs[i]?=some x,fun i H=>∃xs,SqL K H a xs/\xs.length<=i⟩
def Ie (K:Fg) (a:Addr):It:=
 ⟨fun i H=>∃xs x,SqT K H a xs/\xs[i]?=some x,fun i H x H'=>H'=H/\∀xs,SqT K H a xs->xs[i]?=some x,fun i H=>∃xs,SqT K H a xs/\xs.length<=i⟩
def DH (lo:Int) (n:Nat):It:=⟨fun i _=>i<n,fun i H x H'=>H'=H/\x=.int (lo+i),fun i _=>n<=i⟩
theorem qT {P:Program} {w:World} {K:Fg} {tg:Expr} (a it:Addr):wH P w K tg (Ig K a) [it] it (fun i h=>h.IsListIter it a i) where
 mem:=by simp
 obj:=fun i h st b hb=>by
  have e:b=it:=by simpa using hb
  subst e;obtain ⟨o,e,c,d⟩:=st;exact ⟨o,e,fun v z=>by rw [d] at z;cases z⟩
 keep:=fun i h h' st k=>st.at fun o e=>k it (by simp) o e
 item:=by
  intro X hP hw hK hc i pins s σ H E I hf st hg;subst hP hw hK;obtain ⟨xs,x,hq,hx⟩:=hg;obtain ⟨its,rv,p,hz⟩:=I.list hq;obtain ⟨u,hu,ru⟩:=rv.get hx;obtain ⟨f0,f1,f2,f3,f4,f5⟩:=hf it (by simp)
  refine wpAny_pyNext_list_item st p.isList (x:=u) (by simpa using hu) fun h' st' sb=>?_
  have I1:Inv X pins σ H { s with heap:=h' }:=I.turned (t':=s.toks) (fun b o hb e=>(sb.2 b hb).trans e) f0 f1 f3 f4 f5
  obtain ⟨o,e,c,d⟩:=id st'
  exact ⟨u,rfl,qj (s:={ s with heap:=h' }) e c d (by decide) ⟨x,H,I1,ru,⟨rfl,fun ys hy=>by rw [I.list_inj hy hq];exact hx⟩,st',fun b hb=>(hf b hb).1⟩⟩
 done:=by
  intro X hP hw hK hc i pins s σ H E I hf st hg;subst hP hw hK;obtain ⟨xs,hq,hx⟩:=hg;obtain ⟨its,rv,p,hz⟩:=I.list hq;obtain ⟨f0,f1,f2,f3,f4,f5⟩:=hf it (by simp)
  have hl:=rv.length
  exact wpAny_pyNext_list_end (I.ok.hd hc) st p.isList (by simp;omega) fun h' eb=>⟨rfl,I.turned (t':=s.toks) (fun b o hb e=>eb b o hb e) f0 f1 f3 f4 f5⟩
 self:=fun _ _ _ _ _ st h=>wpAny_pyIter_listiter st h
theorem nP {P:Program} {w:World} {K:Fg} {tg:Expr} (a it:Addr):wH P w K tg (Ie K a) [it] it (fun i h=>h.IsTupleIter it a i) where
 mem:=by simp
 obj:=fun i h st b hb=>by
  have e:b=it:=by simpa using hb
  subst e;obtain ⟨o,e,c,d⟩:=st;exact ⟨o,e,fun v z=>by rw [d] at z;cases z⟩
 keep:=fun i h h' st k=>st.at fun o e=>k it (by simp) o e
 item:=by
  intro X hP hw hK hc i pins s σ H E I hf st hg;subst hP hw hK;obtain ⟨xs,x,hq,hx⟩:=hg;obtain ⟨its,rv,p,hz⟩:=I.tuple hq;obtain ⟨u,hu,ru⟩:=rv.get hx;obtain ⟨f0,f1,f2,f3,f4,f5⟩:=hf it (by simp)
  refine wpAny_pyNext_tuple_item st (show s.heap.IsTuple a its.toArray from p) (x:=u) (by simpa using hu) fun h' st' sb=>?_
  have I1:Inv X pins σ H { s with heap:=h' }:=I.turned (t':=s.toks) (fun b o hb e=>(sb.2 b hb).trans e) f0 f1 f3 f4 f5
  obtain ⟨o,e,c,d⟩:=id st'
  exact ⟨u,rfl,qj (s:={ s with heap:=h' }) e c d (by decide) ⟨x,H,I1,ru,⟨rfl,fun ys hy=>by rw [I.tuple_inj hy hq];exact hx⟩,st',fun b hb=>(hf b hb).1⟩⟩
 done:=by
  intro X hP hw hK hc i pins s σ H E I hf st hg;subst hP hw hK;obtain ⟨xs,hq,hx⟩:=hg;obtain ⟨its,rv,p,hz⟩:=I.tuple hq;obtain ⟨f0,f1,f2,f3,f4,f5⟩:=hf it (by simp)
  have hl:=rv.length
  exact wpAny_pyNext_tuple_end (I.ok.hd hc) st (show s.heap.IsTuple a its.toArray from p) (by simp;omega) fun h' eb=>⟨rfl,I.turned (t':=s.toks) (fun b o hb e=>eb b o hb e) f0 f1 f3 f4 f5⟩
 self:=fun _ _ _ _ _ st h=>wpAny_pyIter_tupleiter st h
theorem nQ {P:Program} {w:World} {K:Fg} {tg:Expr} (it:Addr) (lo:Int) (n:Nat):wH P w K tg (DH lo n) [it] it (fun i h=>IsRangeIter h it (lo+(i:Nat)*1) ((n:Int)-(i:Nat)) 1) where
 mem:=by simp
 obj:=fun i h st b hb=>by
  have e:b=it:=by simpa using hb
  subst e;exact ⟨_,st,fun v z=>by
   have z':Data.fields _=Data.cell v:=z
   cases z'⟩
 keep:=fun i h h' st k=>k it (by simp) _ st
 item:=by
  intro X hP hw hK hc i pins s σ H E I hf st hg;subst hP hw hK;obtain ⟨f0,f1,f2,f3,f4,f5⟩:=hf it (by simp)
  have W:=Walks.range (prog:=X.prog) (w:=X.w) (I.ok.hd hc) it lo 1 n
  refine W.item i s _ _ hg st fun v h' tk hv st' kk=>?_
  obtain ⟨t,rfl⟩:=hv;have I1:Inv X pins σ H { s with heap:=h',toks:=tk }:=I.turned (fun b o hb e=>kk b o (by simpa using hb) e) f0 f1 f3 f4 f5
  refine ⟨_,rfl,qj (s:={ s with heap:=h',toks:=tk }) (n := "range_iterator") st' rfl rfl (by decide) ⟨.int (lo+i),H,I1,⟨t,?_⟩,⟨rfl,rfl⟩,st',fun b hb=>(hf b hb).1⟩⟩
  rw [Int.mul_one]
 done:=by
  intro X hP hw hK hc i pins s σ H E I hf st hg;subst hP hw hK;obtain ⟨f0,f1,f2,f3,f4,f5⟩:=hf it (by simp)
  exact wpAny_pyNext_range_end (I.ok.hd hc) st (by have:n<=i:=hg;omega) fun h' eb=>⟨rfl,I.turned (t':=s.toks) (fun b o hb e=>eb b o hb e) f0 f1 f3 f4 f5⟩
 self:=fun _ _ _ _ _ st h=>wpAny_pyIter_rangeiter st h
section
variable {X:Cx} {tg:Expr}
def zY (K:Fg) (tl:TE):TI:=fun σ H R=>tl σ H fun x H1=>∃a,x=.ref a/\(∃xs,SqL K H1 a xs)/\R (Ig K a) H1
def FV (K:Fg) (tl:TE):TI:=fun σ H R=>tl σ H fun x H1=>∃a,x=.ref a/\(∃xs,SqT K H1 a xs)/\R (Ie K a) H1
theorem xY {l:Expr} {tl:TE} (hl:PE X l tl):PI X tg l (zY X.K tl):=by
 intro pins s σ H R I h;refine bK (hl pins s σ H _ I h) fun v s1 ⟨x,H1,I1,r1,q1⟩=>?_
 obtain ⟨a,e,⟨xs,hq⟩,q⟩:=q1;subst e
 cases r1;obtain ⟨its,rv,p,hz⟩:=I1.list hq;refine wpAny_pyIter_list p.isList ?_
 refine ⟨s1.heap.objs.size,[s1.heap.objs.size],_,_,H1,rfl,I1.kept (t':=s1.toks) fun b o e=>L6 _ e,qT a _,⟨_,Heap.get?_push_size _ rfl,rfl,rfl⟩,fun b hb=>?_,q⟩
 have e:b=s1.heap.objs.size:=by simpa using hb
 subst e;exact I1.fpOk (L7 _) (I1.hok.fresh (L7 _))
theorem Cb {l:Expr} {tl:TE} (hl:PE X l tl):PI X tg l (FV X.K tl):=by
 intro pins s σ H R I h;refine bK (hl pins s σ H _ I h) fun v s1 ⟨x,H1,I1,r1,q1⟩=>?_
 obtain ⟨a,e,⟨xs,hq⟩,q⟩:=q1;subst e
 cases r1;obtain ⟨its,rv,p,hz⟩:=I1.tuple hq;refine wpAny_pyIter_tuple (show s1.heap.IsTuple a its.toArray from p) ?_
 refine ⟨s1.heap.objs.size,[s1.heap.objs.size],_,_,H1,rfl,I1.kept (t':=s1.toks) fun b o e=>L6 _ e,nP a _,⟨_,Heap.get?_push_size _ rfl,rfl,rfl⟩,fun b hb=>?_,q⟩
 have e:b=s1.heap.objs.size:=by simpa using hb
 subst e;exact I1.fpOk (L7 _) (I1.hok.fresh (L7 _))
theorem mj {pins:List (Addr×Obj)} {σ:St} {H:Hp} {s:Shared} {R:It->Hp->Prop} {E:Value->Shared->Prop} {lo hi:Int} {t u v:Tok} {tk:Nat} (I:Inv X pins σ H s) (h1:-(2 ^ 62)<=lo) (h2:lo<2 ^ 62) (h3:-(2 ^ 62)<=hi) (h4:hi<2 ^ 62)
  (q:R (DH lo (hi-lo).toNat) H):wpAny (model X.prog X.w) X.A (pyIter (.ref s.heap.objs.size)) (Ln X pins σ tg R) E { s with heap:=s.heap.push { cls:=.type "range",data:=.fields #[.int lo t,.int hi u,.int 1 v] },toks:=tk }:=by
 refine wpAny_pyIter_range (IsRange.new ..) (small_one h1 h2 h3 h4) ?_
 have I1:Inv X pins σ H { s with heap:=s.heap.push { cls:=.type "range",data:=.fields #[.int lo t,.int hi u,.int 1 v] },toks:=tk }:=I.kept fun b o e=>L6 _ e
 refine ⟨(s.heap.push { cls:=.type "range",data:=.fields #[.int lo t,.int hi u,.int 1 v] }).objs.size,[(s.heap.push { cls:=.type "range",data:=.fields #[.int lo t,.int hi u,.int 1 v] }).objs.size],_,_,H,rfl,
  I1.kept (t':=tk) fun b o e=>L6 _ e,nQ _ lo (hi-lo).toNat,?_,fun b hb=>?_,q⟩
 ·have e1:lo+((0:Nat):Int)*1=lo:=by simp
  have e2:(((hi-lo).toNat:Nat):Int)-((0:Nat):Int)=Builtin.Range.rangeSize lo hi 1:=by rw [rangeSize_one];split<;>omega
  show IsRangeIter _ _ (lo+((0:Nat):Int)*1) ((((hi-lo).toNat:Nat):Int)-((0:Nat):Int)) 1
  rw [e1,e2];exact Heap.get?_push_size _ rfl
 ·have e:b=(s.heap.push { cls:=.type "range",data:=.fields #[.int lo t,.int hi u,.int 1 v] }).objs.size:=by simpa using hb
  subst e;exact I1.fpOk (L7 _) (I1.hok.fresh (L7 _))
def zX (ta:TA):TI:=fun σ H R=>ta σ H fun vs H1=>∃j:Int,vs=[.int j]/\-(2 ^ 62)<=j/\j<2 ^ 62/\R (DH 0 j.toNat) H1
def zW (ta:TA):TI:=fun σ H R=>ta σ H fun vs H1=>∃i j:Int,vs=[.int i,.int j]/\(-(2 ^ 62)<=i/\i<2 ^ 62/\-(2 ^ 62)<=j/\j<2 ^ 62)/\R (DH i (j-i).toNat) H1
theorem rB {a:Expr} {ta:TA} {p pos:Pos} (hg:Gl X "range") (hm:X.mg "range"=none) (ha:PA X [a] ta) (hs:starEach [a] X.env=[(false,eval a X.env)]:=by rfl):PI X tg (.Call (.Name "range" p) [a] [] pos) (zX ta):=by
 intro pins s σ H R I h;refine Call_ (As I hg hm boot_range (PyProof.Rows.callWith_type1 (bK (ha pos pins s σ H _ I h) fun us s1 ⟨vs,H1,I1,r1,q1⟩=>?_) hs rfl))
 obtain ⟨j,e,q1,q2,q⟩:=q1;subst e
 cases r1 with
 | cons r rr=>
  cases rr;obtain ⟨t,rfl⟩:=r;exact call_range_1 (mj I1 (by omega) (by omega) q1 q2 (by simpa using q))
theorem rA {a b:Expr} {ta:TA} {p pos:Pos} (hg:Gl X "range") (hm:X.mg "range"=none) (ha:PA X [a,b] ta) (hs:starEach [a,b] X.env=[(false,eval a X.env),(false,eval b X.env)]:=by rfl) (hs2:starEach [b] X.env=[(false,eval b X.env)]:=by rfl) :
  PI X tg (.Call (.Name "range" p) [a,b] [] pos) (zW ta):=by
 intro pins s σ H R I h;refine Call_ (As I hg hm boot_range (PyProof.Rows.callWith_type1 (bK (ha pos pins s σ H _ I h) fun us s1 ⟨vs,H1,I1,r1,q1⟩=>?_) (by rw [hs,hs2]) (by rw [hs2];rfl)))
 obtain ⟨i,j,e,⟨q1,q2,q3,q4⟩,q⟩:=q1;subst e
 cases r1 with
 | cons r rr=>
  cases rr with
  | cons r' rr=>
   cases rr;obtain ⟨t,rfl⟩:=r;obtain ⟨t',rfl⟩:=r'
   exact call_range_2 (mj I1 q1 q2 q3 q4 q)
def EW (wi:TI) (g:TG) (tb:TS):TS:=fun D σ H=>wi σ H fun J H1=>∃W:Nat->Nat->St->Hp->Prop,(∃m,W 0 m σ H1)/\∀i m σ H,W i m σ H ->
 (J.stop i H/\D.nx σ H)\/(J.go i H/\∃N:St->Hp->Prop,(∀σ' H',N σ' H'->∃m',m'<m/\W (i+1) m' σ' H')/\∀x H',J.yld i H x H'->g x σ H' fun σ2 H2=>tb { D with nx:=N,ct:=N,bk:=D.nx } σ2 H2)
def Em (fp:List Addr) (h:Heap):List (Addr×Obj):=fp.filterMap fun b=>(h.get? b).map fun o=>(b,o)
theorem Hv {fp:List Addr} {h:Heap} {b:Addr} {o:Obj} (hb:b∈fp) (e:h.get? b=some o):(b,o)∈Em fp h:=List.mem_filterMap.mpr ⟨b,hb,by rw [e];rfl⟩
theorem rH {fp:List Addr} {h:Heap} {p:Addr×Obj} (hp:p∈Em fp h):p.1∈fp/\h.get? p.1=some p.2:=by
 obtain ⟨b,hb,e⟩:=List.mem_filterMap.mp hp
 cases q:h.get? b with
 | none=>rw [q] at e;cases e
 | some o=>
  rw [q] at e;have e':(b,o)=p:=Option.some.inj e
  subst e'
  exact ⟨hb,q⟩
theorem Inv.pinned {pins:List (Addr×Obj)} {σ:St} {H:Hp} {s:Shared} {fp:List Addr} (I:Inv X pins σ H s) (hf:∀b∈fp,nG X pins H b) (ho:∀b∈fp,∃o,s.heap.get? b=some o/\∀v,o.data≠.cell v):Inv X (pins++Em fp s.heap) σ H s:=
 I.pins_of fun p hp=>(LR hp).elim (fun z=>I.pin p (LP _ z)) fun z=>by
  obtain ⟨hb,e⟩:=rH z;obtain ⟨f0,f1,f2,_⟩:=hf p.1 hb;obtain ⟨o,e',d⟩:=ho p.1 hb;rw [e] at e';cases e'
  exact ⟨e,f0,f1,f2,d⟩
theorem Inv.unpinned {pins pl:List (Addr×Obj)} {σ:St} {H:Hp} {s:Shared} (I:Inv X (pins++pl) σ H s):Inv X pins σ H s:=I.pins_of fun p hp=>I.pin p (LP _ (LQ _ hp))
theorem B8 {iter:Expr} {body:List Stmt} {wi:TI} {g:TG} {tb:TS} {pos:Pos} (hp:PassesOwn (model X.prog X.w) X.A X.env X.xe) (hc:X.calm=true) (hi:PI X tg iter wi) (hg:PG X tg g) (hb:PSs X body tb)
  (hs:∀x,foldedSetIterable iter X.env x=pure x:=by intro _;rfl):PS X (.For tg iter body [] pos) (EW wi g tb):=by
 intro pins s σ H D I h;refine wpAny_For (bK (hi pins s σ H _ I h) fun v s1 h1=>bK h1 fun itv s2 h2=>?_) hs
 obtain ⟨it,fp,tn,J,H2,e,I2,T,st2,f2,W,⟨m0,w0⟩,turn⟩:=h2;subst e;have stat:∀{H':Hp},(∀b∈fp,H' b=none)->∀b∈fp,nG X pins H' b:=fun hn b hb=>⟨hn b hb,(f2 b hb).2⟩
 refine codeAny_forLoop_any (fun n s'=>∃i σ' H',Inv X pins σ' H' s'/\tn i s'.heap/\(∀b∈fp,H' b=none)/\W i n σ' H') ?_ m0 ⟨0,σ,H2,I2,st2,fun b hb=>(f2 b hb).1,w0⟩
 rintro n s3 ⟨i,σ3,H3,I3,st3,fr3,w3⟩
 rcases turn i n σ3 H3 w3 with ⟨stop,qn⟩ | ⟨go,N,hN,step⟩
 ·refine wpAny_passesOwn hp (bK (T.done X rfl rfl rfl hc i pins s3 σ3 H3 X.xe I3 (stat fr3) st3 stop) fun r s4 ⟨hr,I4⟩=>?_)
  subst hr;exact wpAny_execs_nil ⟨σ3,H3,I4,qn⟩
 ·refine wpAny_passesOwn hp (bK (T.item X rfl rfl rfl hc i pins s3 σ3 H3 X.xe I3 (stat fr3) st3 go) fun r s4 ⟨u,hr,h4⟩=>?_)
  subst hr;refine wpAny_passesOwn hp (bK h4 fun _ s5 ⟨x,H5,I5,r5,y5,st5,fr5⟩=>?_)
  have I5':=I5.pinned (stat fr5) (T.obj _ _ st5)
  refine wpAny_passesOwn hp (bK (hg _ s5 σ3 H5 x u _ I5' r5 (step x H5 y5)) fun _ s6 ⟨σ6,H6,I6,q6⟩=>?_)
  refine wpAny_passesOwn hp (bK (hb _ s6 σ6 H6 _ I6 q6) fun f s7 q7=>?_)
  have again:∀{σ7:St} {H7:Hp},Inv X (pins++Em fp s5.heap) σ7 H7 s7->N σ7 H7->∃m,m<n/\∃i σ' H',Inv X pins σ' H' s7/\tn i s7.heap/\(∀b∈fp,H' b=none)/\W i m σ' H':=fun {σ7 H7} I7 n7=>by
   obtain ⟨m',hm,w7⟩:=hN σ7 H7 n7;refine ⟨m',hm,i+1,σ7,H7,I7.unpinned,T.keep _ _ _ st5 fun b hb o e=>(I7.pin (b,o) (LP _ (LP _ (Hv hb e)))).1,fun b hb=>?_,w7⟩
   obtain ⟨o,e,d⟩:=T.obj _ _ st5 b hb;exact (I7.pin (b,o) (LP _ (LP _ (Hv hb e)))).2.1
  cases f with
  | next=>obtain ⟨σ7,H7,I7,n7⟩:=q7;exact again I7 n7
  | cont=>obtain ⟨σ7,H7,I7,n7⟩:=q7;exact again I7 n7
  | brk=>obtain ⟨σ7,H7,I7,q7⟩:=q7;exact ⟨σ7,H7,I7.unpinned,q7⟩
  | ret v=>obtain ⟨x7,σ7,H7,I7,r7,q7⟩:=q7;exact ⟨x7,σ7,H7,I7.unpinned,r7,q7⟩
end
abbrev R2:=V->V->Hp->VK->Prop
def OpR (X:Cx) (f:Value->Value->Sem Value) (r:R2):Prop:=
 ∀(pins:List (Addr×Obj)) (s:Shared) (σ:St) (H:Hp) (x y:V) (v u:Value) (Q:VK),Inv X pins σ H s->RelV x v->RelV y u->r x y H Q ->
  wpAny (model X.prog X.w) X.A (f v u) (EP X pins σ Q) X.xe s
def Lk (X:Cx) (f:Value->Sem Value) (r:V->Hp->VK->Prop):Prop:=
 ∀(pins:List (Addr×Obj)) (s:Shared) (σ:St) (H:Hp) (x:V) (v:Value) (Q:VK),Inv X pins σ H s->RelV x v->r x H Q ->
  wpAny (model X.prog X.w) X.A (f v) (EP X pins σ Q) X.xe s
def CallR (X:Cx) (f:Value) (r:List V->Hp->VK->Prop):Prop:=
 ∀(pins:List (Addr×Obj)) (s:Shared) (σ:St) (H:Hp) (xs:List V) (us:List Value) (Q:VK),Inv X pins σ H s->Vals xs us->r xs H Q ->
  wpAny (model X.prog X.w) X.A (call f us) (EP X pins σ Q) X.xe s
def Ks (X:Cx) (r:V->Hp->(Bool->Hp->Prop)->Prop):Prop:=
 ∀(pins:List (Addr×Obj)) (s:Shared) (σ:St) (H:Hp) (x:V) (v:Value) (Q:Bool->Hp->Prop),Inv X pins σ H s->RelV x v->r x H Q ->
  wpAny (model X.prog X.w) X.A (truthy v) (TP X pins σ Q) X.xe s
def xr (r:R2) (ta tb:TE):TE:=fun σ H Q=>ta σ H fun x H1=>tb σ H1 fun y H2=>r x y H2 Q
def KG (r:V->Hp->VK->Prop) (ta:TE):TE:=fun σ H Q=>ta σ H fun x H1=>r x H1 Q
def rI (C:Int->Int->Prop) (g:Int->Int->V):R2:=fun x y H Q=>∃i j,x=.int i/\y=.int j/\C i j/\Q (g i j) H
def pV (g:Int->Int->V):R2:=fun x y H Q=>∃i j,x=.int i/\y=.int j/\Q (g i j) H
section
variable {X:Cx} {a b c:Expr} {ta tb tc:TE} {pos:Pos}
theorem Dz (ha:PE X a ta) (hb:PE X b tb) {pins:List (Addr×Obj)} {s:Shared} {σ:St} {H:Hp} {R:V->V->Hp->Prop} (I:Inv X pins σ H s)
  (h:ta σ H fun x H1=>tb σ H1 fun y H2=>R x y H2) {Q:Value->Shared->Prop} {f:Value->Value->Sem Value}
  (hf:∀v u s2 x y H2,Inv X pins σ H2 s2->RelV x v->RelV y u->R x y H2->wpAny (model X.prog X.w) X.A (f v u) Q X.xe s2) :
  wpAny (model X.prog X.w) X.A (eval a X.env) (fun v s₁=>wpAny (model X.prog X.w) X.A (eval b X.env) (fun u s₂=>wpAny (model X.prog X.w) X.A (f v u) Q X.xe s₂) X.xe s₁) X.xe s:=by
 refine bK (ha pins s σ H _ I h) fun v s1 ⟨x,H1,I1,r1,q1⟩=>?_
 refine bK (hb pins s1 σ H1 _ I1 q1) fun u s2 ⟨y,H2,I2,r2,q2⟩=>?_
 exact hf v u s2 x y H2 I2 r1 r2 q2
theorem fP {op:Operator} {r:R2} (ho:OpR X (binaryOp op) r) (ha:PE X a ta) (hb:PE X b tb):PE X (.BinOp a op b pos) (xr r ta tb):=by
 intro pins s σ H Q I h;exact wpAny_BinOp (Dz ha hb I h fun v u s2 x y H2 I2 rx ry q=>ho pins s2 σ H2 x y v u Q I2 rx ry q)
theorem FC {op:UnaryOp} {r:V->Hp->VK->Prop} (ho:Lk X (unaryOp op) r) (ha:PE X a ta):PE X (.UnaryOp op a pos) (KG r ta):=by
 intro pins s σ H Q I h;exact UnaryOp_ (bK (ha pins s σ H _ I h) fun v s1 ⟨x,H1,I1,r1,q1⟩=>ho pins s1 σ H1 x v Q I1 r1 q1)
theorem HP {f:Value->Value->Sem Value} {C:Int->Int->Prop} {g:Int->Int->Int}
  (rule:∀(i j:Int) (t u:Tok) (s:Shared) (Q:Value->Shared->Prop) (E:Value->Shared->Prop),C i j->Q (.int (g i j) s.toks) { s with toks:=s.toks+1 }->wpAny (model X.prog X.w) X.A (f (.int i t) (.int j u)) Q E s) :
  OpR X f (rI C fun i j=>.int (g i j)):=by
 intro pins s σ H x y v u Q I rx ry h;obtain ⟨i,j,rfl,rfl,hc,q⟩:=h;obtain ⟨t,rfl⟩:=rx;obtain ⟨t',rfl⟩:=ry;exact rule i j t t' s _ _ hc ⟨.int (g i j),H,I.tok _,⟨_,rfl⟩,q⟩
theorem FG {f:Value->Value->Sem Value} {g:Int->Int->Int}
  (rule:∀(i j:Int) (t u:Tok) (s:Shared) (Q:Value->Shared->Prop) (E:Value->Shared->Prop),Q (.int (g i j) s.toks) { s with toks:=s.toks+1 }->wpAny (model X.prog X.w) X.A (f (.int i t) (.int j u)) Q E s) :
  OpR X f (pV fun i j=>.int (g i j)):=by
 intro pins s σ H x y v u Q I rx ry h;obtain ⟨i,j,rfl,rfl,q⟩:=h;obtain ⟨t,rfl⟩:=rx;obtain ⟨t',rfl⟩:=ry;exact rule i j t t' s _ _ ⟨.int (g i j),H,I.tok _,⟨_,rfl⟩,q⟩
theorem ye {f:Value->Value->Sem Value} {g:Int->Int->Bool}
  (rule:∀(i j:Int) (t u:Tok) (s:Shared) (Q:Value->Shared->Prop) (E:Value->Shared->Prop),Q (.bool (g i j)) s->wpAny (model X.prog X.w) X.A (f (.int i t) (.int j u)) Q E s) :
  OpR X f (pV fun i j=>.bl (g i j)):=by
 intro pins s σ H x y v u Q I rx ry h;obtain ⟨i,j,rfl,rfl,q⟩:=h;obtain ⟨t,rfl⟩:=rx;obtain ⟨t',rfl⟩:=ry;exact rule i j t t' s _ _ ⟨.bl (g i j),H,I,rfl,q⟩
def KB (i j:Int):Prop:=0<j/\j<1073741824
def KA (i j:Int):Prop:=0<=j/\j<=1000000/\i.natAbs<2 ^ 64
def CMul (i j:Int):Prop:=(-(2 ^ 64)<i/\i<2 ^ 64)\/(-(2 ^ 64)<j/\j<2 ^ 64)
theorem CMul.ok {i j:Int} (h:CMul i j):IntMulOk i j:=by
 rcases h with ⟨h1,h2⟩ | ⟨h1,h2⟩
 ·exact .of_left (intBits_le_64 h1 h2)
 ·exact .of_right (intBits_le_64 h1 h2)
theorem CA:OpR X (binaryOp .Add) (pV fun i j=>.int (i+j)):=FG fun _ _ _ _ _ _ _ q=>add_int q
theorem Cq:OpR X (binaryOp .Sub) (pV fun i j=>.int (i-j)):=FG fun _ _ _ _ _ _ _ q=>sub_int q
theorem Cu:OpR X (binaryOp .Mult) (rI CMul fun i j=>.int (i*j)):=HP fun _ _ _ _ _ _ _ hc q=>mul_int q hc.ok
theorem yd:OpR X (binaryOp .FloorDiv) (rI KB fun i j=>.int (i / j)):=HP fun i j _ _ _ _ _ hc q=>by
 have h1:(0:Int)<j:=hc.1
 have h2:j<1073741824:=hc.2
 exact floordiv_int (by omega) (by rw [Int.fdiv_eq_ediv_of_nonneg i (by omega)];exact q) (.inl (PyProof.noPylong_small (by omega)))
theorem Cv:OpR X (binaryOp .Mod) (rI (fun _ j=>0<j) fun i j=>.int (i % j)):=HP fun i j _ _ _ _ _ hc q=>by
 have h1:(0:Int)<j:=hc
 exact mod_int' (by omega) (by rw [Int.fmod_eq_emod_of_nonneg i (by omega)];exact q)
theorem Cs:OpR X (binaryOp .Pow) (rI KA fun i j=>.int (i ^ j.toNat)):=HP fun _ _ _ _ _ _ _ hc q=>pow_int_small hc.1 hc.2.1 hc.2.2 q
end
def scal:V->V->Bool
 | .non,.non=>true | .non,.int _=>true | .int _,.non=>true | .non,.bl _=>true | .bl _,.non=>true | .non,.str _=>true | .str _,.non=>true
 | .int _,.int _=>true | .bl _,.bl _=>true | .str _,.str _=>true | .byt _,.byt _=>true
 | .int _,.str _=>true | .str _,.int _=>true | .bl _,.str _=>true | .str _,.bl _=>true
 | _,_=>false
section
variable {X:Cx} {a b c:Expr} {ta tb tc:TE} {pos:Pos}
theorem El {pins:List (Addr×Obj)} {σ:St} {H:Hp} {s:Shared} {Q:VK} {k k':Bool} (I:Inv X pins σ H s) (q:Q (.bl k) H) (e:k=k'):EP X pins σ Q (.bool k') s:=by
 subst e;exact ⟨.bl k,H,I,rfl,q⟩
theorem op_lt:OpR X (compareOp .Lt) (pV fun i j=>.bl (decide (i<j))):=ye fun _ _ _ _ _ _ _ q=>lt_int q
theorem FE:OpR X (compareOp .LtE) (pV fun i j=>.bl (decide (i<=j))):=ye fun _ _ _ _ _ _ _ q=>le_int q
theorem FF:OpR X (compareOp .Gt) (pV fun i j=>.bl (decide (j<i))):=ye fun _ _ _ _ _ _ _ q=>gt_int q
theorem op_ge:OpR X (compareOp .GtE) (pV fun i j=>.bl (decide (j<=i))):=ye fun _ _ _ _ _ _ _ q=>ge_int q
theorem rD:OpR X (compareOp .Lt) (fun x y H Q=>∃i j,x=.str i/\y=.str j/\Q (.bl (decide (i.cps.toList<j.cps.toList))) H):=by
 intro pins s σ H x y v u Q I rx ry h;obtain ⟨i,j,rfl,rfl,q⟩:=h;obtain ⟨t,rfl⟩:=rx;obtain ⟨t',rfl⟩:=ry;exact lt_str (El I q rfl)
theorem rE:OpR X (compareOp .In) (fun x y H Q=>∃i j,x=.str i/\y=.str j/\Q (.bl (!(Builtin.Str.occurrences j i 0 j.length 1).isEmpty)) H):=by
 intro pins s σ H x y v u Q I rx ry h;obtain ⟨i,j,rfl,rfl,q⟩:=h;obtain ⟨t,rfl⟩:=rx;obtain ⟨t',rfl⟩:=ry;exact in_str (El I q rfl)
theorem Cw:OpR X (compareOp .Is) (fun x y H Q=>y=.non/\Q (.bl (decide (x=.non))) H):=by
 intro pins s σ H x y v u Q I rx ry h;obtain ⟨rfl,q⟩:=h
 cases ry;refine is_none_gen (El I q ?_)
 cases x<;>first
  | (cases rx;rfl)
  | (obtain ⟨t,rfl⟩:=rx;rfl)
theorem yc:OpR X (compareOp .IsNot) (fun x y H Q=>y=.non/\Q (.bl (!decide (x=.non))) H):=by
 intro pins s σ H x y v u Q I rx ry h;obtain ⟨rfl,q⟩:=h
 cases ry;refine isnot_none_gen (El I q ?_)
 cases x<;>first
  | (cases rx;rfl)
  | (obtain ⟨t,rfl⟩:=rx;rfl)
theorem OpR.or {f:Value->Value->Sem Value} {r r':R2} (h:OpR X f r) (h':OpR X f r'):OpR X f (fun x y H Q=>r x y H Q\/r' x y H Q):=by
 intro pins s σ H x y v u Q I rx ry q;rcases q with q | q
 ·exact h pins s σ H x y v u Q I rx ry q
 ·exact h' pins s σ H x y v u Q I rx ry q
theorem ya {op:CmpOp} {r:R2} (ho:OpR X (compareOp op) r) (ha:PE X a ta) (hb:PE X b tb) (hm:behindInMarks op b=false):PE X (.Compare a [op] [b] pos) (xr r ta tb):=by
 intro pins s σ H Q I h;exact wpAny_Compare1 (Dz ha hb I h fun v u s2 x y H2 I2 rx ry q=>ho pins s2 σ H2 x y v u Q I2 rx ry q) hm
def ux (t:TE):TT:=fun σ H Q=>t σ H fun x H'=>∃k,x=.bl k/\Q k H'
theorem xV {op:CmpOp} {r:R2} (ho:OpR X (compareOp op) r) (ha:PE X a ta) (hb:PE X b tb) (hm:behindInMarks op b=false):PT X (.Compare a [op] [b] pos) (ux (xr r ta tb)):=by
 intro pins s σ H Q I h;refine wpAny_isTrue_Compare1 (bK (ha pins s σ H _ I h) fun v s1 ⟨x,H1,I1,r1,q1⟩=>bK (hb pins s1 σ H1 _ I1 q1) fun u s2 ⟨y,H2,I2,r2,q2⟩=>
  bK (ho pins s2 σ H2 x y v u _ I2 r1 r2 q2) fun c s3 ⟨z,H3,I3,r3,k,e,q3⟩=>?_) hm
 subst e
 cases r3;exact wpAny_truthy_bool ⟨H3,I3,q3⟩
def IF (r r':R2) (ta tb tc:TE):TE:=fun σ H Q=>ta σ H fun x H1=>tb σ H1 fun y H2=>r x y H2 fun z H3=>∃k,z=.bl k /\
 (if k=true then tc σ H3 fun w' H4=>r' y w' H4 Q else Q (.bl false) H3)
theorem vg {op op':CmpOp} {r r':R2} (ho:OpR X (compareOp op) r) (ho':OpR X (compareOp op') r') (ha:PE X a ta) (hb:PE X b tb) (hc:PE X c tc)
  (hm:lastMarks [op,op'] [b,c]=false:=by with_unfolding_all rfl):PE X (.Compare a [op,op'] [b,c] pos) (IF r r' ta tb tc):=by
 intro pins s σ H Q I h;refine Compare_chain (bK (ha pins s σ H _ I h) fun v s1 ⟨x,H1,I1,r1,q1⟩=>chain_link (bK (hb pins s1 σ H1 _ I1 q1) fun u s2 ⟨y,H2,I2,r2,q2⟩=>
  bK (ho pins s2 σ H2 x y v u _ I2 r1 r2 q2) fun d s3 ⟨z,H3,I3,r3,k,e,q3⟩=>?_)) hm
 subst e
 cases r3;refine wpAny_truthy_bool ?_
 cases k with
 | false=>exact ite_ff ⟨.bl false,H3,I3,rfl,q3⟩
 | true=>exact ite_tt (chain_last (bK (hc pins s3 σ H3 _ I3 q3) fun w' s4 ⟨z',H4,I4,r4,q4⟩=>ho' pins s4 σ H4 y z' u w' Q I4 r2 r4 q4))
theorem u6 {op op':CmpOp} {r r':R2} (ho:OpR X (compareOp op) r) (ho':OpR X (compareOp op') r') (ha:PE X a ta) (hb:PE X b tb) (hc:PE X c tc)
  (hm:lastMarks [op,op'] [b,c]=false:=by with_unfolding_all rfl):PT X (.Compare a [op,op'] [b,c] pos) (ux (IF r r' ta tb tc)):=by
 intro pins s σ H Q I h;refine isTrue_chain (bK (ha pins s σ H _ I h) fun v s1 ⟨x,H1,I1,r1,q1⟩=>test_link (bK (hb pins s1 σ H1 _ I1 q1) fun u s2 ⟨y,H2,I2,r2,q2⟩=>
  bK (ho pins s2 σ H2 x y v u _ I2 r1 r2 q2) fun d s3 ⟨z,H3,I3,r3,k,e,q3⟩=>?_)) hm
 subst e
 cases r3;refine wpAny_truthy_bool ?_
 cases k with
 | false=>
  obtain ⟨k',e',q'⟩:=q3
  cases e'
  exact ite_ff ⟨H3,I3,q'⟩
 | true=>
  refine ite_tt (test_last (bK (hc pins s3 σ H3 _ I3 q3) fun w' s4 ⟨z',H4,I4,r4,q4⟩=>bK (ho' pins s4 σ H4 y z' u w' _ I4 r2 r4 q4) fun d' s5 ⟨z2,H5,I5,r5,k2,e2,q5⟩=>?_))
  subst e2
  cases r5;exact wpAny_truthy_bool ⟨H5,I5,q5⟩
def DC (K:Fg) (x:V) (H:Hp) (k:Bool):Prop:=
 match x with
 | .non=>k=false
 | .bl b=>k=b
 | .int i=>k=(i != 0)
 | .str y=>y.length<=sizeLine/\k=((y.length:Int) != 0)
 | .byt y=>y.size<=sizeLine/\k=((y.size:Int) != 0)
 | .ref p=>(∃xs,SqL K H p xs/\k=!xs.isEmpty)\/(∃xs,SqT K H p xs/\k=!xs.isEmpty)\/∃kvs,H p=some (.dK kvs)/\k=!kvs.isEmpty
 | _=>False
theorem oC {κ:Type} {kvs:List (κ×V)} {vs:List (κ×Value)} (r:KV kvs vs):(!vs.isEmpty)=!kvs.isEmpty:=by
 cases r<;>rfl
theorem iF {xs:List V} {its:List Value} (r:Vals xs its):(!its.toArray.isEmpty)=!xs.isEmpty:=by
 cases r<;>simp
theorem Av:(sizeLine:Nat)<2 ^ 63:=by rw [sizeLine_eq];decide
theorem Bc:Ks X (fun x H Q=>∃k,DC X.K x H k/\Q k H):=by
 intro pins s σ H x v Q I rx h;obtain ⟨k,e,q⟩:=h;have hl:=Av
 have hs:sizeLine=16777216:=sizeLine_eq
 cases x with
 | non=>
  cases rx;have e':k=false:=e
  subst e'
  exact truthy_none ⟨H,I,q⟩
 | bl b=>
  cases rx;have e':k=b:=e
  subst e'
  exact wpAny_truthy_bool ⟨H,I,q⟩
 | int i=>
  obtain ⟨t,rfl⟩:=rx;have e':k=(i != 0):=e
  subst e'
  exact PySem.P.truthy_int ⟨H,I,q⟩
 | str y=>
  obtain ⟨t,rfl⟩:=rx;obtain ⟨hy,e'⟩:y.length<=sizeLine/\k=((y.length:Int) != 0):=e
  subst e'
  exact PySem.P.truthy_str (by omega) ⟨H,I.tok _,q⟩
 | byt y=>
  obtain ⟨t,rfl⟩:=rx;obtain ⟨hy,e'⟩:y.size<=sizeLine/\k=((y.size:Int) != 0):=e
  subst e'
  exact PySem.W.truthy_bytes (by omega) ⟨H,I.tok _,q⟩
 | ref p=>
  cases rx;have e':(∃xs,SqL X.K H p xs/\k=!xs.isEmpty)\/(∃xs,SqT X.K H p xs/\k=!xs.isEmpty)\/∃kvs,H p=some (.dK kvs)/\k=!kvs.isEmpty:=e
  rcases e' with ⟨xs,hx,e'⟩ | ⟨xs,hx,e'⟩ | ⟨kvs,hx,e'⟩
  ·subst e'
   obtain ⟨its,r,pl,hz⟩:=I.list hx;have hlen:=r.length
   exact wpAny_truthy_list pl.isList (by simp only [size_toArray];omega) ⟨H,I.tok _,by rw [iF r];exact q⟩
  ·subst e'
   obtain ⟨its,r,pl,hz⟩:=I.tuple hx;have hlen:=r.length
   exact truthy_tuple pl (by simp only [size_toArray];omega) ⟨H,I.tok _,by rw [iF r];exact q⟩
  ·subst e'
   obtain ⟨hz,hS,vs,r,m⟩:kvs.length<=sizeLine/\(p==sysModules)=false/\∃vs,KV kvs vs/\s.heap.DictOf (Ip X.prog X.w) p vs:=I.hok p _ hx
   have hlen:kvs.length=vs.length:=Paired.length r
   exact wpAny_truthy_dict hS m (by omega) ⟨H,I.tok _,by rw [oC r];exact q⟩
 | _=>exact (show False from e).elim
theorem mv (ha:PE X a ta) (he:∀whole,isTrue a X.env whole=(do let v <-whole;standAt a.pos;holding [v] (truthy v))) :
  PT X a (fun σ H Q=>ta σ H fun x H'=>∃k,DC X.K x H' k/\Q k H'):=by
 intro pins s σ H Q I h;exact isTrue_plain (bK (ha pins s σ H _ I h) fun v s1 ⟨x,H1,I1,r1,q1⟩=>Bc pins s1 σ H1 x v Q I1 r1 q1) (he _)
theorem vals1 {x:V} {us:List Value} (r:Vals [x] us):∃u,us=[u]/\RelV x u:=by
 cases r with
 | cons r1 r2=>cases r2;exact ⟨_,rfl,r1⟩
theorem vals2 {x y:V} {us:List Value} (r:Vals [x,y] us):∃u w',us=[u,w']/\RelV x u/\RelV y w':=by
 cases r with
 | cons r1 r2=>
  cases r2 with
  | cons r3 r4=>cases r4;exact ⟨_,_,rfl,r1,r3⟩
theorem sP (hc:X.calm=true):CallR X (.builtin "max") (fun xs H Q=>∃i j,xs=[.int i,.int j]/\Q (.int (if j>i then j else i)) H):=by
 intro pins s σ H xs us Q I r h;obtain ⟨i,j,rfl,q⟩:=h;obtain ⟨u,w',rfl,⟨t,rfl⟩,⟨t',rfl⟩⟩:=vals2 r;refine max_two_ints (I.ok.hd hc) fun h' tk k=>⟨_,H,I.kept k,?_,q⟩
 by_cases hj:j>i
 ·rw [if_pos hj,if_pos hj];exact ⟨_,rfl⟩
 ·rw [if_neg hj,if_neg hj];exact ⟨_,rfl⟩
theorem sQ:CallR X (.type "int") (fun xs H Q=>(∃i,xs=[.int i]/\Q (.int i) H)\/∃k,xs=[.bl k]/\Q (.int (if k then 1 else 0)) H):=by
 intro pins s σ H xs us Q I r h;rcases h with ⟨i,rfl,q⟩ | ⟨k,rfl,q⟩
 ·obtain ⟨u,rfl,t,rfl⟩:=vals1 r
  exact call_int_int ⟨.int i,H,I,⟨_,rfl⟩,q⟩
 ·obtain ⟨u,rfl,r1⟩:=vals1 r
  cases r1;exact call_int_bool ⟨.int (if k then 1 else 0),H,I.tok _,⟨_,rfl⟩,q⟩
end
structure ObjM (h:Heap) (x dx C:Addr) (mA:Str->Option Value):Prop where
 obj:h.get? x=some (PySem.W.instObj C dx)
 ns:h.Ns1 dx mA
 ne:dx≠x
theorem rW {h:Heap} {dx:Addr} {mA:Str->Option Value} (n:h.Ns1 dx mA):∃od,h.get? dx=some od/\∀name,PySem.W.lookIn name od=some (mA name):=by
 obtain ⟨o,es,ep,ho,hd,hk,_,hm⟩:=n;refine ⟨o,ho,fun name=>?_⟩
 have e:=hm name
 unfold nsFind findBy at e;rw [<-Array.find?_toList] at e;unfold PySem.W.lookIn;rw [hd];dsimp only;split
 ·rename_i y q
  rw [q] at e;exact congrArg some e
 ·rename_i q
  rw [q] at e;have a:es.toList.any (·.refKey)=false:=by
   rw [List.any_eq_false];intro y hy;obtain ⟨z,t,hkey⟩:=hk y (Array.mem_toList_iff.mp hy);simp [DictEntry.refKey,hkey]
  have a':¬es.toList.any (·.refKey)=true:=by rw [a];exact Bool.false_ne_true
  rw [if_neg a'];exact congrArg some e
theorem ObjM.look {h:Heap} {x dx C:Addr} {mA:Str->Option Value} (I:ObjM h x dx C mA):∃od,PySem.W.InstAt h x (PySem.W.instObj C dx) C (some od)/\∀name,PySem.W.lookIn name od=some (mA name):=
 let ⟨od,ho,hl⟩:=rW I.ns
 ⟨od,⟨I.obj,rfl,rfl,ho⟩,hl⟩
section
variable {P:Program} {w:World} {H H':Hp} {h h':Heap} {a C dx:Addr} {fs fs':List (Str×V)}
theorem yr (hok:HOk P w H h) (e:H a=some (.ins C dx fs)):∃mA,ObjM h a dx C mA/\(∀f,DF (fs.lookup f) (mA f))/\PySem.Within mA (fs.map (·.1))/\fs.length<=1000/\H dx=some (.own a):=by
 obtain ⟨d,z,ne,ob,mA,n,r,q⟩:=(show ObjOk P w H h a (.ins C dx fs) from hok a _ e);exact ⟨mA,⟨ob,n,ne⟩,r,q,z,d⟩
end
structure Cls (K:Fg) (C:Addr):Prop where
 pg:PySem.W.plainGet K C Str.empty=true
 hd:PySem.W.hasDictIn K C=true
 po:PySem.W.plainOver K C=true
 sa:PySem.W.findIn K (.ref C) "__setattr__"=some (some (.builtin "object.__setattr__"))
theorem Cls.get {K:Fg} {C:Addr} (c:Cls K C) (f:Str):PySem.W.plainGet K C f=true:=c.pg
structure Con (K:Fg) (C:Addr) (f:Str) (v:V) (u:Value):Prop where
 at_:PySem.W.findIn K (.ref C) f=some (some u)
 rel:RelV v u
 get:PySem.W.specialIn K u "__get__"=some none
 cp:PySem.W.copiedNames.contains f=false
structure LJ (K:Fg) (C:Addr) (m:Str) (f:Addr):Prop where
 at_:PySem.W.findIn K (.ref C) m=some (some (.ref f))
 fn:PySem.W.isFn K (.ref f)=true
 kp:PySem.W.keepIn K (.ref f)=true
section
variable {X:Cx} {pins:List (Addr×Obj)} {σ:St} {H:Hp} {s:Shared} {A:Around} {E:Value->Shared->Prop} {Q:Value->Shared->Prop} {c:Value} {b:Bool}
inductive g6 (K:Fg) (H:Hp):V->Value->Prop where
 | non:g6 K H .non (.type "NoneType")
 | bl (x:Bool):g6 K H (.bl x) (.type "bool")
 | int (i:Int):g6 K H (.int i) (.type "int")
 | str (x:Str):g6 K H (.str x) (.type "str")
 | flt (x:UInt64):g6 K H (.flt x) (.type "float")
 | lst {a:Addr} {xs:List V} (e:H a=some (.lst xs)):g6 K H (.ref a) (.type "list")
 | frz {a:Addr} {o:Obj} {xs:List V} (e:H a=some (.frz o (.lst xs))):g6 K H (.ref a) (.type "list")
 | tup {a:Addr} {xs:List V} (e:H a=some (.tup xs)):g6 K H (.ref a) (.type "tuple")
 | dK {a:Addr} {kvs:List (ll×V)} (e:H a=some (.dK kvs)):g6 K H (.ref a) (.type "dict")
 | dT {a:Addr} {kvs:List (List ll×V)} (e:H a=some (.dT kvs)):g6 K H (.ref a) (.type "dict")
 | ins {a C dx:Addr} {fs:List (Str×V)} (e:H a=some (.ins C dx fs)) (cl:Cls K C) (ha:PySem.W.findIn K (.ref C) "__class__"=some (some (.builtin "object.__class__")))
   (hn:PySem.W.specialIn K (.builtin "object.__class__") "__get__"=some (some (.builtin "getset_descriptor.__get__"))) (htk:PySem.W.takesIn K (.builtin "object.__class__")=some true)
   (hm:PySem.W.mroIn K C (.type "object")=some true):g6 K H (.ref a) (.ref C)
theorem AM {x:V} {u t:Value} (I:Inv X pins σ H s) (rx:RelV x u) (ty:g6 X.K H x t) (e:PySem.W.kitOne X.K t c=some b) (h:∀tk,Q (.bool b) { s with toks:=tk }) :
  wpAny (model X.prog X.w) A (call (.builtin "isinstance") [u,c]) Q E s:=by
 cases ty with
 | non=>cases (show u=Value.none from rx);exact PySem.W.kia_one PySem.W.kitx_none I.kIn True.intro e nofun h
 | bl y=>cases (show u=Value.bool y from rx);exact PySem.W.kia_one PySem.W.kitx_bool I.kIn True.intro e nofun h
 | int i=>obtain ⟨t,q⟩:=(show ∃t,u=Value.int i t from rx);cases q;exact PySem.W.kia_one PySem.W.kitx_int I.kIn True.intro e nofun h
 | str y=>obtain ⟨t,q⟩:=(show ∃t,u=Value.str y t from rx);cases q;exact PySem.W.kia_one PySem.W.kitx_str I.kIn True.intro e nofun h
 | flt y=>obtain ⟨t,q⟩:=(show ∃t,u=Value.float y t from rx);cases q;exact PySem.W.kia_one PySem.W.kitx_float I.kIn True.intro e nofun h
 | @lst a xs ea=>
  cases (show u=Value.ref a from rx)
  obtain ⟨_,_,n,_,h1⟩:=(show ObjOk X.prog X.w H s.heap a (.lst xs) from I.hok a _ ea);exact PySem.W.kia_one PySem.W.kitx_list I.kIn ⟨_,h1,rfl⟩ e nofun h
 | @frz a ob xs ea=>
  cases (show u=Value.ref a from rx)
  obtain ⟨_,_,_,n,_,h1⟩:=(show ObjOk X.prog X.w H s.heap a (.frz ob (.lst xs)) from I.hok a _ ea);exact PySem.W.kia_one PySem.W.kitx_list I.kIn ⟨_,h1,rfl⟩ e nofun h
 | @tup a xs ea=>
  cases (show u=Value.ref a from rx)
  obtain ⟨_,_,_,p⟩:=(show ObjOk X.prog X.w H s.heap a (.tup xs) from I.hok a _ ea);obtain ⟨o,h1,h2,_⟩:=p;exact PySem.W.kia_one PySem.W.kitx_tuple I.kIn ⟨o,h1,h2⟩ e nofun h
 | @dK a kvs ea=>
  cases (show u=Value.ref a from rx)
  obtain ⟨_,_,vs,_,p⟩:=(show ObjOk X.prog X.w H s.heap a (.dK kvs) from I.hok a _ ea);obtain ⟨o,es,ep,h1,h2,_⟩:=p;exact PySem.W.kia_one PySem.W.kitx_dict I.kIn ⟨o,h1,h2.1⟩ e nofun h
 | @dT a kvs ea=>
  cases (show u=Value.ref a from rx)
  obtain ⟨_,_,xs,_,o,es,ep,h1,h2,_⟩:=(show ObjOk X.prog X.w H s.heap a (.dT kvs) from I.hok a _ ea);exact PySem.W.kia_one PySem.W.kitx_dict I.kIn ⟨o,h1,h2.1⟩ e nofun h
 | @ins a C dx fs ea cl ha hn htk hm=>
  cases (show u=Value.ref a from rx)
  obtain ⟨mA,O,_⟩:=yr I.hok ea;obtain ⟨od,J,_⟩:=O.look;exact PySem.W.kia_one (PySem.W.kitx_own (cl.get _) cl.hd ha hn htk hm) I.kIn J e nofun h
end
structure Room (k:Nat) (A:Around):Prop where
 hd:A.handled=none
 dp:A.depth+3*k+5<recursionLimit
 un:A.units+16*k+200<cLine
 gd:A.guards=some []
theorem Room.mono {j k:Nat} {A:Around} (r:Room k A) (h:j<=k):Room j A:=⟨r.hd,by have:=r.dp;omega,by have:=r.un;omega,r.gd⟩
theorem Room.deeper {k:Nat} {A:Around} (r:Room (k+1) A) (env:Env):Room k (A.deeper env):=
 ⟨r.hd,by have:=r.dp;show A.depth+1+3*k+5<_;omega,by have:=r.un;show A.units+3+16*k+200<_;omega,r.gd⟩
theorem Room.depth {k:Nat} {A:Around} (r:Room k A):A.depth<recursionLimit:=by have:=r.dp;omega
theorem Room.units {k:Nat} {A:Around} (r:Room k A):A.units+64<cLine:=by have:=r.un;omega
def uy:TA:=fun _ H Q=>Q [] H
def jH (ta:TE) (tr:TA):TA:=fun σ H Q=>ta σ H fun x H1=>tr σ H1 fun xs H2=>Q (x::xs) H2
section
variable {X:Cx} {e:Expr} {es:List Expr} {te:TE} {t:TA} {pos:Pos}
theorem Aw:PA X [] uy:=fun _ _ _ _ H Q I h=>Calls.spliced_nil ⟨[],H,I,.nil,h⟩
theorem tM (ha:PE X e te) (hr:PA X es t) (hs:starEach (e::es) X.env=(false,eval e X.env)::starEach es X.env:=by rfl):PA X (e::es) (jH te t):=by
 intro pos pins s σ H Q I h;rw [hs];show wpAny _ _ (spliced ((false,eval e X.env)::backTo pos (starEach es X.env))) _ _ s
 refine Calls.spliced_cons (bK (ha pins s σ H _ I h) fun u s1 ⟨x,H1,I1,r1,q1⟩=>?_)
 exact bK (hr pos pins s1 σ H1 _ I1 q1) fun us s2 ⟨xs,H2,I2,r2,q2⟩=>⟨x::xs,H2,I2,.cons r1 r2,q2⟩
def EO (t:TA):TE:=fun σ H Q=>t σ H fun xs H1=>xs.length<=sizeLine/\∀p,H1 p=none->Q (.ref p) (cy H1 p (.tup xs))
def EV (t:TA):TE:=fun σ H Q=>t σ H fun xs H1=>xs.length<=sizeLine/\∀p,H1 p=none->Q (.ref p) (cy H1 p (.lst xs))
theorem Cf {x1} (h:PA X es t):PE X (.Tuple es x1 pos) (EO t):=by
 intro pins s σ H Q I hq;refine wpAny_Tuple_spliced (bK (h pos pins s σ H _ I hq) fun us s1 ⟨xs,H1,I1,r,z,q⟩=>⟨by rw [<-r.length];exact z,?_⟩)
 have hf:H1 s1.heap.objs.size=none:=I1.hok.fresh (L7 _)
 refine ⟨.ref s1.heap.objs.size,cy H1 s1.heap.objs.size (.tup xs),I1.laid (t':=s1.toks) (fun b u e=>L6 _ e) (L7 _) ?_,rfl,q _ hf⟩
 exact ⟨z,us,r,⟨_,Heap.get?_push_size _ rfl,rfl,_,rfl⟩⟩
theorem vd (h:PA X es t):PE X (.List es pos) (EV t):=by
 intro pins s σ H Q I hq;refine wpAny_List_spliced (bK (h pos pins s σ H _ I hq) fun us s1 ⟨xs,H1,I1,r,z,q⟩=>⟨by rw [<-r.length];exact z,?_⟩)
 have hf:H1 s1.heap.objs.size=none:=I1.hok.fresh (L7 _)
 refine ⟨.ref s1.heap.objs.size,cy H1 s1.heap.objs.size (.lst xs),I1.laid (t':=s1.toks) (fun b u e=>L6 _ e) (L7 _) ?_,rfl,q _ hf⟩
 exact ⟨z,us,0,r,Heap.get?_push_size _ rfl⟩
end
abbrev Sp:=List V->Hp->VK->XK->Prop
abbrev qE:=List Env->Hp->Shared->XK->Value->Shared->Prop
structure sW (P:Program) (w:World) (K:Fg) (mg:Str->Option Value) (base:Heap) (A:Around) (outer:List Env) (s:Shared) (H:Hp):Prop where
 frames:A.frames=some outer
 mod:Mod K mg base
 bs:∀b o,base.get? b=some o->s.heap.get? b=some o/\H b=none
 bsz:base.objs.size<=s.heap.objs.size
 funs:s.heap.FunFrames base outer
 frf:∀b∈gw outer,H b=none
 hok:HOk P w H s.heap
 bare:AllBare s.gens
def CE (outer:List Env) (P:Program) (w:World) (H:Hp) (s:Shared) (Q:VK) (u:Value) (s':Shared):Prop:=
 ∃v H',s'.os=s.os/\AllBare s'.gens/\Un (gw outer) [] H H' s.heap s'.heap/\HOk P w H' s'.heap/\RelV v u/\Q v H'
def CR (CX:qE) (outer:List Env) (P:Program) (w:World) (H:Hp) (s:Shared) (Q:VK) (E:XK) (r:Result) (s':Shared):Prop:=
 match r with
 | .ok (.ret u)=>CE outer P w H s Q u s'
 | .ok _=>False
 | .error e=>CX outer H s E e s'
structure dH (P:Program) (w:World) (K:Fg) (mg:Str->Option Value) (base:Heap) (CX:qE) (k:Nat) (f:Addr) (fd:FuncData) (ps:List Str) (sp:Sp):Prop where
 len:∀vs H Q E,sp vs H Q E->vs.length=ps.length
 run:∀(A:Around) (outer:List Env) (s:Shared) (H:Hp) (args:Args) (us:List Value) (vs:List V) (Q:VK) (E:XK),Room k A->sW P w K mg base A outer s H->BindsTo s fd args (ps.zip us)->Vals vs us->sp vs H Q E ->
  codeAny (model P w) A (.call (.ref f) args) (CR CX outer P w H s Q E) s
section
variable {X:Cx} {pins:List (Addr×Obj)} {σ:St} {H:Hp} {s s':Shared}
theorem Inv.env0 (I:Inv X pins σ H s):sW X.prog X.w X.K X.mg X.base X.A X.stack s H:=
 ⟨I.ok.frames,I.ok.mod,I.bs,Nat.le_trans I.ok.bsz I.sz,I.stack,I.stkFree,I.hok,I.bare⟩
theorem Inv.after {Q:VK} {u:Value} (I:Inv X pins σ H s) (h:CE X.stack X.prog X.w H s Q u s'):EP X pins σ Q u s':=by
 obtain ⟨v,H',os,bare,un,hok,r,q⟩:=h;obtain ⟨hh,g,d,t,os'⟩:=s'
 obtain rfl:os'=s.os:=os
 exact ⟨v,H',I.call (h':=hh) (g':=g) (d':=d) (t':=t) (ch:=[]) un hok bare (fun b z=>absurd z (by simp)),r,q⟩
end
def uC (sp:Sp) (dvs:List V) (E:XK) (t:TA):TE:=fun σ H Q=>t σ H fun vs H1=>sp (vs++dvs) H1 Q E
def Binds (K:Fg) (fd:FuncData) (ps:List Str) (ds:List Value):Prop:=
 ∀(s:Shared) (us:List Value),K.In s.heap->(us++ds).length=ps.length->BindsTo s fd ⟨us,[]⟩ (ps.zip (us++ds))
theorem Binds.all {K:Fg} {fd:FuncData} {ps:List Str} (h:∀us:List Value,us.length=ps.length->bindArgs fd ⟨us,[]⟩=pure (ps.zip us)):Binds K fd ps []:=fun s us _ hl=>by
 rw [append_nil] at hl ⊢;exact .of_eq (h us hl)
def GI (CX:qE) (X:Cx) (E:XK):Prop:=∀(pins:List (Addr×Obj)) (σ:St) (H:Hp) (s:Shared) (e:Value) (s':Shared),Inv X pins σ H s->CX X.stack H s E e s'->X.xe e s'
section
variable {X:Cx} {CX:qE} {k:Nat} {f C:Addr} {fd:FuncData} {ps:List Str} {sp:Sp} {dvs:List V} {ds:List Value} {E:XK} {x m:Str} {p pos apos:Pos} {e o:Expr} {es:List Expr} {ta:TE} {t:TA}
theorem Br {pins:List (Addr×Obj)} {σ:St} {H:Hp} {s:Shared} {Q:VK} {us:List Value} {vs:List V} (F:dH X.prog X.w X.K X.mg X.base CX k f fd ps sp) (hr:Room k X.A) (hb:Binds X.K fd ps ds) (hd:Vals dvs ds) (hx:GI CX X E)
  (I:Inv X pins σ H s) (r:Vals vs us) (h:sp (vs++dvs) H Q E):wpAny (model X.prog X.w) X.A (call (.ref f) us) (EP X pins σ Q) X.xe s:=by
 have r2:Vals (vs++dvs) (us++ds):=r.append hd
 have hl:(us++ds).length=ps.length:=by rw [<-r2.length];exact F.len _ _ _ _ h
 refine wpAny_call (codeAny_mono (F.run X.A X.stack s H ⟨us,[]⟩ (us++ds) (vs++dvs) Q E hr I.env0 (hb s us I.kIn hl) r2 h) fun r s' hq=>?_)
 cases r with
 | error e=>exact hx pins σ H s e s' I hq
 | ok fl=>
  cases fl with
  | ret u=>exact I.after hq
  | next=>exact False.elim hq
  | brk=>exact False.elim hq
  | cont=>exact False.elim hq
theorem p7 (F:dH X.prog X.w X.K X.mg X.base CX k f fd ps sp) (hr:Room k X.A) (hg:Gl X x) (hm:X.mg x=some (.ref f)) (hk:PySem.W.keepIn X.K (.ref f)=true) (hb:Binds X.K fd ps ds) (hd:Vals dvs ds) (hx:GI CX X E)
  (ha:PA X (e::es) t) (hdb:(x==("__debug__":Str))=false:=by decide) (he:starEach (e::es) X.env=(false,eval e X.env)::starEach es X.env:=by rfl) (hpl:(backTo pos (starEach es X.env)).any (·.1)=false:=by rfl) :
  PE X (.Call (.Name x p) (e::es) [] pos) (uC sp dvs E t):=by
 intro pins s σ H Q I h;refine wpAny_Call_Name_kw (AB I hg hm ?_ hdb)
 refine PySem.W.callWith_K (h₀:=X.base) I.ok.mod.kin hk (bK (ha pos pins s σ H _ I h) fun us s1 ⟨vs,H1,I1,r,q⟩=>⟨I1.kIn,?_⟩) he hpl
 exact Br F hr hb hd hx I1 r q
structure Mk (K:Fg) (C f:Addr):Prop where
 makes:PySem.W.makesIn K C=true
 init:PySem.W.findIn K (.ref C) "__init__"=some (some (.ref f))
 fn:PySem.W.isFn K (.ref f)=true
 kp:PySem.W.keepIn K (.ref C)=true
end
section
variable {X:Cx} {CX:qE} {k:Nat} {f C:Addr} {fd:FuncData} {ps ks:List Str} {sp:Sp} {E:XK} {x m:Str} {p pos apos kpos:Pos} {e o:Expr} {es:List Expr} {kws:List Keyword} {te ta:TE} {t tk:TA} {nm:Option Str}
structure Ky (K:Fg) (fd:FuncData) (ps ks:List Str) (g:List Value->List Value->List Value) (gV:List V->List V->List V):Prop where
 to:∀(s:Shared) (us ws:List Value),K.In s.heap->(g us ws).length=ps.length->BindsTo s fd ⟨us,ks.zip ws⟩ (ps.zip (g us ws))
 rel:∀{vs:List V} {us:List Value} {zs:List V} {ws:List Value},Vals vs us->Vals zs ws->Vals (gV vs zs) (g us ws)
variable {g:List Value->List Value->List Value} {gV:List V->List V->List V}
end
structure d6 (N P:List Str) (sc:Scope):Prop where
 kind:sc.kind=.function
 co:sc.isCoroutine=false
 gen:sc.isGenerator=false
 nd:N.Nodup
 pre:N.take P.length=P
 par:∀x∈P,sc.names.lookup x=some .local\/sc.names.lookup x=some .cell
 nofree:∀y∈sc.names,y.2≠.free
theorem j3 {kindOf:Str->Option NameKind} {x:Str}:∀{binds:List (Str×Value)} {m:Str->Option Value},(∀v,(x,v)∉binds)->bindL kindOf binds m x=m x
 | [],_,_=>rfl
 | (n,v)::r,m,h=>by
  unfold bindL;rw [j3 fun w hw=>h w (LX _ hw)]
  split
  ·have:x≠n:=by rintro rfl;exact h v mem_cons_self
   simp [this]
  ·rfl
theorem j5 {kindOf:Str->Option NameKind} {x:Str}:∀{binds:List (Str×Value)} {m:Str->Option Value},(∀v,(x,v)∉binds)->bindC kindOf binds m x=m x
 | [],_,_=>rfl
 | (n,v)::r,m,h=>by
  unfold bindC;rw [j5 fun w hw=>h w (LX _ hw)]
  split
  ·rfl
  ·have:x≠n:=by rintro rfl;exact h v mem_cons_self
   simp [this]
theorem j4 {kindOf:Str->Option NameKind} {x:Str} {v:Value}:∀{P:List Str} {vs:List Value} {i:Nat} {m:Str->Option Value},P.Nodup->P[i]?=some x->vs[i]?=some v->kindOf x=some .local ->
  bindL kindOf (P.zip vs) m x=some v
 | [],_,_,_,_,h,_,_=>by simp at h
 | _::_,[],_,_,_,_,h,_=>by simp at h
 | p::P,w::vs,0,m,nd,h1,h2,hk=>by
  simp at h1 h2;subst h1;subst h2;show bindL kindOf ((p,w)::P.zip vs) m p=_
  unfold bindL;rw [j3 fun v hv=>(List.nodup_cons.mp nd).1 (of_mem_zip hv).1,if_pos hk]
  simp
 | p::P,w::vs,i+1,m,nd,h1,h2,hk=>by
  show bindL kindOf ((p,w)::P.zip vs) m x=_
  unfold bindL;exact j4 (i:=i) (List.nodup_cons.mp nd).2 (by simpa using h1) (by simpa using h2) hk
theorem j6 {kindOf:Str->Option NameKind} {x:Str} {v:Value}:∀{P:List Str} {vs:List Value} {i:Nat} {m:Str->Option Value},P.Nodup->P[i]?=some x->vs[i]?=some v->kindOf x≠some .local ->
  bindC kindOf (P.zip vs) m x=some v
 | [],_,_,_,_,h,_,_=>by simp at h
 | _::_,[],_,_,_,_,h,_=>by simp at h
 | p::P,w::vs,0,m,nd,h1,h2,hk=>by
  simp at h1 h2;subst h1;subst h2;show bindC kindOf ((p,w)::P.zip vs) m p=_
  unfold bindC;rw [j5 fun v hv=>(List.nodup_cons.mp nd).1 (of_mem_zip hv).1,if_neg hk]
  simp
 | p::P,w::vs,i+1,m,nd,h1,h2,hk=>by
  show bindC kindOf ((p,w)::P.zip vs) m x=_
  unfold bindC;exact j6 (i:=i) (List.nodup_cons.mp nd).2 (by simpa using h1) (by simpa using h2) hk
def start (N:List Str) (vs:List V):St:=vs.map some++List.replicate (N.length-vs.length) none
def fm (CX:qE) (P:Program) (w:World) (K:Fg) (mg:Str->Option Value) (base:Heap) (N:List Str) (qual:Str) (scope:Scope) (f:Addr) (cd:Value) (A:Around) (outer:List Env) (s:Shared) (H:Hp) (E:XK):Cx where
 prog:=P
 w:=w
 K:=K
 mg:=mg
 base:=base
 A:=A.deeper (envOfC qual scope s.heap.objs.size f cd)
 N:=N
 s₀:=s
 H₀:=H
 env:=envOfC qual scope s.heap.objs.size f cd
 outer:=outer
 stack:=envOfC qual scope s.heap.objs.size f cd::outer
 ex:=[]
 calm:=true
 fn:=fun _=>true
 pn:=[]
 xe:=fun e s'=>wpAny (model P w) (A.deeper (envOfC qual scope s.heap.objs.size f cd)) (leaving (envOfC qual scope s.heap.objs.size f cd) e) (fun _ s''=>CX outer H s E e s'') (fun e' s''=>CX outer H s E e' s'') s'
theorem nA {sc:Scope} {n:Nat} {x:Str} (h:sc.names.lookup x=some .cell):∃c,(cellsFrom n sc.names []).lookup x=some c:=by
 have q:=PySem.W.cellsFrom_some sc.names n [] (.inl h)
 exact Option.isSome_iff_exists.mp q
theorem jT {CX:qE} {P:Program} {w:World} {K:Fg} {mg:Str->Option Value} {base:Heap} {N ps:List Str} {qual:Str} {scope:Scope} {f:Addr} {cd:Value} {A:Around} {outer:List Env} {s s1:Shared} {H:Hp} {E:XK} {us:List Value} {vs:List V}
  (S:d6 N ps scope) (hd:A.handled=none) (e0:sW P w K mg base A outer s H) (hl:vs.length=ps.length) (r:Vals vs us)
  (x:InCallC s s.heap.objs.size (bindL (envOfC qual scope s.heap.objs.size f cd).kindOf (ps.zip us) fun _=>none) (cellsFrom (s.heap.objs.size+1) scope.names []) (bindC (envOfC qual scope s.heap.objs.size f cd).kindOf (ps.zip us) fun _=>none) s1) :
  Inv (fm CX P w K mg base N qual scope f cd A outer s H E) [] (start N vs) H s1:=by
 have hpl:ps.length<=N.length:=by have:=congrArg List.length S.pre;rw [length_take] at this;omega
 obtain ⟨h1,tk,rfl,hk⟩:=x.done;have noA:∀b:Addr,b∉(fm CX P w K mg base N qual scope f cd A outer s H E).ex:=fun b z=>absurd (show b∈([]:List Addr) from z) (by simp)
 refine ⟨⟨e0.mod,S.kind,rfl,rfl,L7 _,fun y z c h1 h2=>?_,fun y hy=>?_,fun y c _ h=>?_,fun _=>hd,Around.frames_deeper e0.frames,.inr ⟨rfl,rfl⟩,fun b z=>absurd z (noA b),e0.bs,e0.bsz,fun b _ _=>noA b,fun b z=>absurd z (noA b),e0.funs,e0.frf⟩,
  rfl,e0.bare,Un.kept hk,⟨_,x.toInCall.ns,fun i y v h1 h2 h3=>?_⟩,fun y c h=>⟨_,x.cell y c h⟩,e0.hok.fresh (L7 _),fun y c h=>?_,fun p hp=>absurd (show p∈([]:List (Addr×Obj)) from hp) (by simp),e0.hok.kept hk,?_⟩
 ·exact name_of_addr x.apart (PySem.mem_of_lookup h1) (PySem.mem_of_lookup h2)
 ·have hy:scope.names.lookup y=some .cell\/scope.names.lookup y=some .free:=hy
  rcases hy with hy | hy
  ·exact nA hy
  ·exact absurd rfl (S.nofree _ (PySem.mem_of_lookup hy))
 ·exact Nat.le_of_lt (x.above y c (PySem.mem_of_lookup h))
 ·have hi:i<vs.length:=by
   unfold start at h2;by_cases hi:i<vs.length
   ·exact hi
   ·rw [getElem?_append_right (by simpa using hi)] at h2
    rw [getElem?_replicate] at h2;split at h2<;>cases h2
  have ha:vs[i]?=some v:=by
   unfold start at h2;rw [getElem?_append_left (by simpa using hi),getElem?_map] at h2
   cases e:vs[i]? with
   | none=>rw [e] at h2;cases h2
   | some a=>rw [e] at h2;cases h2;rfl
  obtain ⟨u,hu,rv⟩:=r.get ha;have hp:ps[i]?=some y:=by
   rw [<-S.pre,List.getElem?_take_of_lt (by omega)];exact h1
  have ndP:ps.Nodup:=by rw [<-S.pre];exact S.nd.sublist (List.take_sublist _ _)
  refine ⟨u,rv,?_⟩
  rcases S.par y (mem_of_getElem? hp) with k | k
  ·exact .inl ⟨k,j4 ndP hp hu k⟩
  ·obtain ⟨c,e⟩:=nA (n:=s.heap.objs.size+1) k
   refine .inr ⟨.inl k,c,e,?_⟩
   have q:=x.cell y c e
   rw [j6 ndP hp hu (by show scope.names.lookup y≠_;rw [k];decide)] at q
   exact q
 ·exact e0.hok.fresh (Nat.le_of_lt (x.above y c (PySem.mem_of_lookup h)))
 ·unfold start
  show _=N.length
  rw [length_append,length_map,List.length_replicate];omega
theorem Ac {CX:qE} {P:Program} {w:World} {K:Fg} {mg:Str->Option Value} {base:Heap} {k:Nat} {f:Addr} {name qual:Str} {params:Arguments} {body:List Stmt} {scope:Scope} {dV kV doc pm cdv ct oc:Value} {an od:Option Addr}
  {osl:Array (Option Value)} {N ps:List Str} {sp:Sp} (lk:K.lookup f=some ⟨oc,od,.func (PySem.W.fnOf name qual params body scope dV kV doc pm an cdv ct),osl⟩) (hcd:PySem.W.codeIn K cdv qual=true) (S:d6 N ps scope)
  (len:∀vs H Q E,sp vs H Q E->vs.length=ps.length)
  (hbody:∀(A:Around) (outer:List Env) (s:Shared) (H:Hp) (vs:List V) (Q:VK) (E:XK),Room k (A.deeper (envOfC qual scope s.heap.objs.size f cdv))->sp vs H Q E ->
   ∃t,PSs (fm CX P w K mg base N qual scope f cdv A outer s H E) body t/\t { nx:=fun _ H'=>Q .non H',rt:=Q } (start N vs) H) :
  dH P w K mg base CX (k+1) f (PySem.W.fnOf name qual params body scope dV kV doc pm an cdv ct) ps sp:=by
 refine ⟨len,fun A outer s H args us vs Q E hr e0 hb r hsp=>?_⟩
 have hl:=len _ _ _ _ hsp
 have KX:K.In s.heap:=e0.mod.kin.keeps fun b o e=>(e0.bs b o e).1
 have lim:s.heap.NoLimit:=e0.mod.nolimit.keeps fun b o e=>(e0.bs b o e).1
 have hkind:∀y∈ps.zip us,scope.names.lookup y.1=some .local\/(scope.names.lookup y.1=some .cell/\((cellsFrom (s.heap.objs.size+1) scope.names []).lookup y.1).isSome=true):=fun ⟨n,v⟩ hy=>by
  rcases S.par n (of_mem_zip hy).1 with q | q
  ·exact .inl q
  ·exact .inr ⟨q,PySem.W.cellsFrom_some _ _ _ (.inl q)⟩
 refine codeAny_call_function hr.depth (KX _ _ lk) rfl S.co S.gen rfl (PySem.W.codeRec_of KX hcd) (hb _ _ _ _ ?_)
 refine wpAny_newFunctionEnv_cells S.kind hkind fun env he s1 x=>?_
 subst he;refine ⟨lim.keeps x.toInCall.keep,codeAny_func ?_⟩
 obtain ⟨t,ht,hq⟩:=hbody A outer s H vs Q E (hr.deeper _) hsp;have I:Inv (fm CX P w K mg base N qual scope f cdv A outer s H E) [] (start N vs) H s1:=jT S hr.hd e0 hl r x
 refine wpAny_mono (ht [] s1 (start N vs) H _ I hq) (fun fl s' hs=>?_) fun e s' hs=>hs
 have fin:∀{σ':St} {H':Hp} {v:V} {u:Value},Inv (fm CX P w K mg base N qual scope f cdv A outer s H E) [] σ' H' s'->RelV v u->Q v H'->CE outer P w H s Q u s':=
  fun {σ' H' v u} J rv q=>⟨v,H',J.os,J.bare,J.base,J.hok,rv,q⟩
 cases fl with
 | ret u=>
  obtain ⟨v,σ',H',J,rv,q⟩:=hs;exact fin J rv q
 | next=>
  obtain ⟨σ',H',J,q⟩:=hs;exact fin (v:=V.non) (u:=Value.none) J rfl q
 | brk=>
  obtain ⟨_,_,_,q⟩:=hs;exact False.elim q
 | cont=>
  obtain ⟨_,_,_,q⟩:=hs;exact False.elim q
section
variable {X:Cx} {x:Str} {p pos:Pos} {e:Expr} {es:List Expr} {t:TA} {id T:String} {r:List V->Hp->VK->Prop}
def EX (r:List V->Hp->VK->Prop) (t:TA):TE:=fun σ H Q=>t σ H fun vs H1=>r vs H1 Q
theorem Ex (hc:CallR X (.builtin id) r) (hg:Gl X x) (hm:X.mg x=none) (hv:bootBuiltins x=some (.builtin id)) (ha:PA X (e::es) t) (hn:x ≠ "__name__":=by decide) (hdb:(x==("__debug__":Str))=false:=by decide)
  (he:starEach (e::es) X.env=(false,eval e X.env)::starEach es X.env:=by rfl) (hpl:(backTo pos (starEach es X.env)).any (·.1)=false:=by rfl):PE X (.Call (.Name x p) (e::es) [] pos) (EX r t):=by
 intro pins s σ H Q I h;refine wpAny_Call_Name_kw (As I hg hm hv ?_ hn hdb)
 exact PyProof.Rows.callWith_builtin1 (bK (ha pos pins s σ H _ I h) fun us s1 ⟨vs,H1,I1,r1,q1⟩=>hc pins s1 σ H1 vs us Q I1 r1 q1) he hpl
theorem jM (hc:CallR X (.type T) r) (hg:Gl X x) (hm:X.mg x=none) (hv:bootBuiltins x=some (.type T)) (ha:PA X (e::es) t) (hn:x ≠ "__name__":=by decide) (hdb:(x==("__debug__":Str))=false:=by decide)
  (he:starEach (e::es) X.env=(false,eval e X.env)::starEach es X.env:=by rfl) (hpl:(backTo pos (starEach es X.env)).any (·.1)=false:=by rfl):PE X (.Call (.Name x p) (e::es) [] pos) (EX r t):=by
 intro pins s σ H Q I h;refine wpAny_Call_Name_kw (As I hg hm hv ?_ hn hdb)
 exact PyProof.Rows.callWith_type1 (bK (ha pos pins s σ H _ I h) fun us s1 ⟨vs,H1,I1,r1,q1⟩=>hc pins s1 σ H1 vs us Q I1 r1 q1) he hpl
end
end L2
namespace HT
open PySem PyProof.Rows
section
open PySem.SeqAt
open PySem.AutoSeq1 (wpAny_loadPart')
open PySem.MeetsSeq PySem.MeetsSeq2 PySem.MeetsSeq3
end
section
variable {prog:Program} {w:World} {A:Around} {E:Value->Shared->Prop} {s:Shared}
def sIx (n d:Nat):Option Int->Nat
 | none=>d
 | some v=>if v<0 then (v+(n:Int)).toNat else min v.toNat n
theorem sIx_none (n d:Nat):sIx n d none=d:=rfl
theorem sIx_nat (n d k:Nat):sIx n d (some (k:Int))=min k n:=by
 show (if (k:Int)<0 then ((k:Int)+(n:Int)).toNat else min (k:Int).toNat n)=min k n
 rw [if_neg (by omega),Int.toNat_natCast]
theorem Bq (n d:Nat) (hd:d<=n) (o:Option Int):sIx n d o<=n:=by
 cases o with
 | none=>exact hd
 | some v=>
  show (if v<0 then (v+(n:Int)).toNat else min v.toNat n)<=n
  by_cases hv:v<0
  ·rw [if_pos hv];omega
  ·rw [if_neg hv];exact Nat.min_le_right _ _
theorem qt (v:Int) (n d:Nat):(if v<0 then max (v+(n:Int)) 0 else min v (n:Int))=((sIx n d (some v):Nat):Int):=by
 show (if v<0 then max (v+(n:Int)) 0 else min v (n:Int))=(((if v<0 then (v+(n:Int)).toNat else min v.toNat n):Nat):Int)
 by_cases hv:v<0
 ·simp only [if_pos hv];omega
 ·simp only [if_neg hv];omega
theorem o9 (lo hi:Option Int) (n:Nat):Builtin.Slice.sliceAdjust lo hi 1 (n:Int)=(((sIx n 0 lo:Nat):Int),((sIx n n hi:Nat):Int)):=by
 have h1:¬((1:Int)<0):=by omega
 unfold Builtin.Slice.sliceAdjust;simp only [h1,if_false]
 refine Prod.ext ?_ ?_
 ·cases lo with
  | none=>rfl
  | some v=>exact qt v n 0
 ·cases hi with
  | none=>rfl
  | some v=>exact qt v n n
theorem oi (i j:Nat):Builtin.Slice.slicePlaces (i:Int) (j:Int) 1=j-i:=by
 unfold Builtin.Slice.slicePlaces;have h1:(1:Int)>0:=by omega
 simp only [h1,if_true,Int.ediv_one]
 split<;>omega
theorem ik {v:Value} {o:Option Int} {Q:Option Int->Shared->Prop} (p:IsPart v o) (h:Q o s):wpAny (model prog w) A (Builtin.Slice.slicePartIndex v) Q E s:=by
 cases p with
 | none=>exact slicePart_none h
 | int i t=>exact slicePart_int h
theorem gh {sl:Addr} {vl vu:Value} {lo hi:Option Int} {n:Nat} {Q:Int×Int×Nat->Shared->Prop} (hs:s.heap.IsSliceOf sl vl vu .none) (pl:IsPart vl lo) (pu:IsPart vu hi)
  (h:Q (((sIx n 0 lo:Nat):Int),1,sIx n n hi-sIx n 0 lo) s):wpAny (model prog w) A (Builtin.Slice.sliceApplied (.ref sl) (pure (n:Int))) Q E s:=by
 obtain ⟨os,hos,hcs,hds⟩:=id hs;unfold Builtin.Slice.sliceApplied Builtin.Slice.sliceFields;refine L1 (L1 (wpAny_field hos hds (x:=vl) rfl (L1 (wpAny_field hos hds (x:=vu) rfl (L1 (wpAny_field hos hds (x:=.none) rfl (L5 ?_)))))))
 refine L1 (slicePart_none ?_)
 show wpAny _ _ (if ((1:Int)==0)=true then _ else _) _ _ s
 rw [if_neg (by decide)]
 refine L1 (ik pl (L1 (ik pu (L1 (L5 ?_)))))
 show wpAny _ _ (match Builtin.Slice.sliceAdjust lo hi 1 (n:Int) with | (lo,hi)=>pure (lo,(1:Int),Builtin.Slice.slicePlaces lo hi 1)) _ _ s
 rw [o9 lo hi n];show wpAny _ _ (pure (((sIx n 0 lo:Nat):Int),(1:Int),Builtin.Slice.slicePlaces ((sIx n 0 lo:Nat):Int) ((sIx n n hi:Nat):Int) 1)) _ _ s
 rw [oi];exact L5 h
theorem vb (xs:Array Value) (i k:Nat):((List.range k).filterMap fun (m:Nat)=>xs[((i:Int)+(m:Int)*1).toNat]?).toArray=((xs.toList.drop i).take k).toArray:=by
 have e:(fun (m:Nat)=>xs[((i:Int)+(m:Int)*1).toNat]?)=fun m=>xs[i+m]?:=by
  funext m
  have:((i:Int)+(m:Int)*1).toNat=i+m:=by omega
  rw [this]
 rw [e];have:=pick_run xs i k
 rw [List.filterMap_map] at this;have e2:((fun x=>xs[x]?)∘fun x=>i+x)=fun m=>xs[i+m]?:=rfl
 rw [e2] at this;rw [this]
theorem getItem_tuple_cut {t sl:Addr} {items:Array Value} {vl vu:Value} {lo hi:Option Int} {Q:Value->Shared->Prop} (ht:IsTup s.heap t items) (hs:s.heap.IsSliceOf sl vl vu .none) (pl:IsPart vl lo) (pu:IsPart vu hi)
  (hw:¬(sIx items.size 0 lo=0/\sIx items.size items.size hi=items.size))
  (h:Q (.ref s.heap.objs.size) { s with heap:=s.heap.push { cls:=.type "tuple",data:=.seq ((items.toList.drop (sIx items.size 0 lo)).take (sIx items.size items.size hi-sIx items.size 0 lo)).toArray } })
  (hsz:items.size<=sizeLine):wpAny (model prog w) A (getItem (.ref t) (.ref sl)) Q E s:=by
 have htake:sizeOk (.seq ((items.toList.drop (sIx items.size 0 lo)).take (sIx items.size items.size hi-sIx items.size 0 lo)).toArray):=by
  show ((items.toList.drop (sIx items.size 0 lo)).take (sIx items.size items.size hi-sIx items.size 0 lo)).toArray.size<=sizeLine
  rw [size_toArray,length_take,length_drop,Array.length_toList];omega
 have hj:sIx items.size items.size hi<=items.size:=Bq _ _ (L7 _) hi
 obtain ⟨os,hos,hcs,hds⟩:=id hs;have hTs:s.TypeIs (.ref sl) "slice":=⟨os,hos,hcs⟩
 unfold getItem;try with_reducible refine wpAny_holding ?_
 first | refine L1 (L5 ?_) | skip
 refine L1 (wpAny_sequenceKey ht.typeIs (by decide) ?_)
 refine L1 (wpAny_callSpecial?_slot (name:=Str.ofString "__getitem__") ht.typeIs PyProof.Rows.slot_tuple_getitem
  (wpAny_call_entry PyProof.Rows.slot_tuple_getitem ht.typeIs entry_tuple_getitem ?_ (args_tuple_getitem _ _)))
 show wpAny _ _ (Builtin.Tuple.tupleItemsOf (.ref t) >>= _) _ _ s
 refine L1 (tupleItemsOf_ ht ?_)
 refine L1 (wpAny_typeOf hTs ?_)
 rw [if_pos (by decide)]
 refine L1 (gh hs pl pu ?_)
 have hno:¬((((sIx items.size 0 lo:Nat):Int)==0&&(1:Int)==1&&(sIx items.size items.size hi-sIx items.size 0 lo)==items.size)=true):=by
  intro q;rw [Bool.and_eq_true,Bool.and_eq_true] at q;have q1:((sIx items.size 0 lo:Nat):Int)=0:=eq_of_beq q.1.1
  have q2:sIx items.size items.size hi-sIx items.size 0 lo=items.size:=eq_of_beq q.2
  exact hw ⟨by omega,by omega⟩
 show wpAny _ _ (if (((sIx items.size 0 lo:Nat):Int)==0&&(1:Int)==1&&(sIx items.size items.size hi-sIx items.size 0 lo)==items.size)=true then _ else _) _ _ s
 rw [if_neg hno,vb];first
  | exact L1 (m:=Builtin.Tuple.tupleExact _) (wpAny_newObj_type (L5 ⟨_,rfl,L5 h⟩) htake)
  | exact L1 (m:=Builtin.Tuple.tupleExact _) (wpAny_newObj_type (L1 (L5 (L5 ⟨_,rfl,L5 h⟩))) htake)
  | exact L1 (L1 (m:=Builtin.Tuple.tupleExact _) (wpAny_newObj_type (L5 (L5 ⟨_,rfl,L5 h⟩)) htake))
  | exact L1 (L1 (m:=Builtin.Tuple.tupleExact _) (wpAny_newObj_type (L5 ⟨_,rfl,L5 h⟩) htake))
end
end HT
namespace L2
open PySem PySem.Spec PyProof.Rows
abbrev TO:=St->Hp->(Option Int->Hp->Prop)->Prop
def PO (X:Cx) (e:Option Expr) (t:TO):Prop:=
 ∀(pins:List (Addr×Obj)) (s:Shared) (σ:St) (H:Hp) (Q:Option Int->Hp->Prop),Inv X pins σ H s->t σ H Q ->
  wpAny (model X.prog X.w) X.A (evalPart e X.env) (fun u s'=>∃o H',Inv X pins σ H' s'/\IsPart u o/\Q o H') X.xe s
def pD:TO:=fun _ H Q=>Q none H
def zB (t:TE):TO:=fun σ H Q=>t σ H fun x H1=>∃i,x=.int i/\Q (some i) H1
section
variable {X:Cx} {e:Expr} {te:TE} {lo hi:Option Expr} {tl th:TO} {pos p2:Pos}
theorem G4:PO X none pD:=by
 intro pins s σ H Q I h;rw [evalPart_none];exact L5 ⟨none,H,I,.none,h⟩
theorem G5 (h:PE X e te):PO X (some e) (zB te):=by
 intro pins s σ H Q I hw;rw [evalPart_some];refine bK (h pins s σ H _ I hw) fun u s1 ⟨x,H1,I1,r1,q1⟩=>?_
 obtain ⟨i,rfl,q⟩:=q1;obtain ⟨t,rfl⟩:=r1;exact ⟨some i,H1,I1,.int i t,q⟩
def H0 (X:Cx) (r:V->Option Int->Option Int->Hp->VK->Prop):Prop:=
 ∀(pins:List (Addr×Obj)) (s:Shared) (σ:St) (H:Hp) (x:V) (v vl vu:Value) (lo hi:Option Int) (sl:Addr) (Q:VK),Inv X pins σ H s->RelV x v->s.heap.IsSliceOf sl vl vu .none->IsPart vl lo->IsPart vu hi->r x lo hi H Q ->
  ∃T id,typeLookup (.type T) "__getitem__"=pure (some (.builtin id))/\s.TypeIs v T/\wpAny (model X.prog X.w) X.A (getItem v (.ref sl)) (EP X pins σ Q) X.xe s
def KH (r:V->Option Int->Option Int->Hp->VK->Prop) (te:TE) (tl th:TO):TE:=fun σ H Q=>te σ H fun x H1=>tl σ H1 fun l H2=>th σ H2 fun u H3=>r x l u H3 Q
theorem Hq {r:V->Option Int->Option Int->Hp->VK->Prop} (hr:H0 X r) (he:PE X e te) (hl:PO X lo tl) (hu:PO X hi th):PE X (.Subscript e (.Slice lo hi none p2) pos) (KH r te tl th):=by
 intro pins s σ H Q I h;refine Subscript_ (bK (he pins s σ H _ I h) fun v s1 ⟨x,H1,I1,r1,q1⟩=>?_)
 refine wpAny_Slice (bK (hl pins s1 σ H1 _ I1 q1) fun vl s2 ⟨l,H2,I2,pl,q2⟩=>bK (hu pins s2 σ H2 _ I2 q2) fun vu s3 ⟨u,H3,I3,pu,q3⟩=>?_)
 rw [evalPart_none];refine L5 ?_
 have I4:Inv X pins σ H3 { s3 with heap:=s3.heap.push { cls:=.type "slice",data:=.fields #[vl,vu,.none] } }:=I3.kept (t':=s3.toks) fun b ob q=>L6 _ q
 obtain ⟨T,id,hT,ht,hg⟩:=hr pins { s3 with heap:=s3.heap.push { cls:=.type "slice",data:=.fields #[vl,vu,.none] } } σ H3 x v vl vu l u s3.heap.objs.size Q I4 r1 (Heap.IsSliceOf.new ..) pl pu q3
 show wpAny (model X.prog X.w) X.A (subscriptTail e (.Slice lo hi none p2) v (.ref s3.heap.objs.size)) (EP X pins σ Q) X.xe { s3 with heap:=s3.heap.push { cls:=.type "slice",data:=.fields #[vl,vu,.none] } }
 exact tail_any (ops:=[.ref s3.heap.objs.size,v]) ht hT hg (by with_unfolding_all rfl)
def ju (xs:List V) (lo hi:Option Int):List V:=(xs.drop (HT.sIx xs.length 0 lo)).take (HT.sIx xs.length xs.length hi-HT.sIx xs.length 0 lo)
theorem gP (xs:List V) (lo hi:Option Int):(ju xs lo hi).length<=xs.length:=by
 unfold ju;rw [length_take,length_drop];omega
def BS (K:Fg):V->Option Int->Option Int->Hp->VK->Prop:=fun x lo hi H Q=>∃a xs,x=.ref a/\SqT K H a xs /\
 ¬(HT.sIx xs.length 0 lo=0/\HT.sIx xs.length xs.length hi=xs.length)/\∀p,H p=none->Q (.ref p) (cy H p (.tup (ju xs lo hi)))
theorem Bj:H0 X (BS X.K):=by
 intro pins s σ H x v vl vu lo hi sl Q I rx hs pl pu h;obtain ⟨a,xs,rfl,hx,hw,q⟩:=h
 cases rx;obtain ⟨its,r,ht,hz⟩:=I.tuple hx;have hlen:its.toArray.size=xs.length:=by rw [size_toArray];exact r.length.symm
 refine ⟨"tuple",_,PyProof.Rows.slot_tuple_getitem.lookup,ht.typeIs,?_⟩
 refine HT.getItem_tuple_cut ht hs pl pu (by rw [hlen];exact hw) ?_ (by rw [hlen];exact hz)
 rw [hlen];refine ⟨.ref s.heap.objs.size,_,I.laid (t':=s.toks) (o:=.tup (ju xs lo hi)) (fun b ob q=>L6 _ q) (L7 _) ?_,rfl,q _ (I.hok.fresh (L7 _))⟩
 exact ⟨Nat.le_trans (gP xs lo hi) hz,_,(r.drop (HT.sIx xs.length 0 lo)).take (HT.sIx xs.length xs.length hi-HT.sIx xs.length 0 lo),IsTup.new _ _⟩
end
def eF (n:Nat) (i:Int):Option Nat:=if 0<=i then (if i<n then some i.toNat else none) else if -(n:Int)<=i then some (i+n).toNat else none
def eY {α:Type} (xs:List α) (i:Int):Option α:=(eF xs.length i).bind fun j=>xs[j]?
theorem qc {n:Nat} {i:Int} {j:Nat} (h:eF n i=some j):seqIndex? i n=some j/\j<n/\-(n:Int)<=i/\i<n:=by
 unfold eF at h;by_cases h0:0<=i
 ·rw [if_pos h0] at h
  by_cases h1:i<n
  ·rw [if_pos h1] at h
   have e:i.toNat=j:=Option.some.inj h
   exact ⟨by rw [seqIndex_of h0 h1,e],by omega,by omega,h1⟩
  ·rw [if_neg h1] at h;cases h
 ·rw [if_neg h0] at h
  by_cases h1:-(n:Int)<=i
  ·rw [if_pos h1] at h
   have e:(i+n).toNat=j:=Option.some.inj h
   exact ⟨by rw [seqIndex_neg (by omega) h1,e],by omega,h1,by omega⟩
  ·rw [if_neg h1] at h;cases h
theorem Ik {α:Type} {xs:List α} {i:Int} {v:α} (h:eY xs i=some v):∃j,seqIndex? i xs.length=some j/\xs[j]?=some v/\j<xs.length/\-(xs.length:Int)<=i/\i<xs.length:=by
 unfold eY at h
 cases e:eF xs.length i with
 | none=>rw [e] at h;cases h
 | some j=>
  rw [e] at h;obtain ⟨h1,h2,h3,h4⟩:=qc e;exact ⟨j,h1,h,h2,h3,h4⟩
def DS (b:Expr):Prop:=∀o i,subscripted b false o i=operate [o,i] (getItem o i)
def IxR (X:Cx) (r:R2):Prop:=
 ∀(value slice:Expr) (pins:List (Addr×Obj)) (s:Shared) (σ:St) (H:Hp) (x y:V) (v u:Value) (Q:VK),Inv X pins σ H s->RelV x v->RelV y u->r x y H Q ->
  subscripted slice false v u=operate [v,u] (getItem v u)->wpAny (model X.prog X.w) X.A (subscriptTail value slice v u) (EP X pins σ Q) X.xe s
def GD (X:Cx) (id:String) (r:V->List V->Hp->VK->Prop):Prop:=
 ∀(pins:List (Addr×Obj)) (s:Shared) (σ:St) (H:Hp) (x:V) (xs:List V) (v:Value) (us:List Value) (Q:VK),Inv X pins σ H s->RelV x v->Vals xs us->r x xs H Q ->
  wpAny (model X.prog X.w) X.A (call (.builtin id) (v::us)) (EP X pins σ Q) X.xe s
section
variable {X:Cx} {a b:Expr} {ta tb:TE} {pos:Pos}
theorem IxR.or {r r':R2} (h:IxR X r) (h':IxR X r'):IxR X (fun x y H Q=>r x y H Q\/r' x y H Q):=by
 intro value slice pins s σ H x y v u Q I rx ry q hs;rcases q with q | q
 ·exact h value slice pins s σ H x y v u Q I rx ry q hs
 ·exact h' value slice pins s σ H x y v u Q I rx ry q hs
theorem zP {r:R2} (hr:IxR X r) (ha:PE X a ta) (hb:PE X b tb) (hs:DS b):PE X (.Subscript a b pos) (xr r ta tb):=by
 intro pins s σ H Q I h;exact Subscript_ (Dz ha hb I h fun v u s2 x y H2 I2 rx ry q=>hr a b pins s2 σ H2 x y v u Q I2 rx ry q (hs _ _))
def Fw (K:Fg):R2:=fun x y H Q=>∃p xs i v,x=.ref p/\y=.int i/\SqL K H p xs/\eY xs i=some v/\Q v H
def Fu (K:Fg):R2:=fun x y H Q=>∃p xs i v,x=.ref p/\y=.int i/\SqT K H p xs/\eY xs i=some v/\Q v H
def Fv:R2:=fun x y H Q=>∃z i c,x=.str z/\y=.int i/\z.length<=sizeLine/\eY z.cps.toList i=some c/\Q (.str ⟨#[c]⟩) H
theorem ix_list:IxR X (Fw X.K):=by
 intro value slice pins s σ H x y v u Q I rx ry h hs;obtain ⟨p,xs,i,z,rfl,rfl,hq,he,q⟩:=h
 cases rx;obtain ⟨t,rfl⟩:=ry;obtain ⟨its,r,pl,hz⟩:=I.list hq;obtain ⟨j,h1,h2,h3,h4,h5⟩:=Ik he;obtain ⟨w,ew,rw'⟩:=r.get h2;have hl:=r.length
 have hn:=Av
 have fin:EP X pins σ Q w s:=⟨z,H,I,rw',q⟩
 by_cases h0:0<=i
 ·have hj:i.toNat=j:=by
   rw [seqIndex_of h0 h5] at h1;exact Option.some.inj h1
  exact item_listR pl.isList h0 (by omega) (by rw [hj];simpa using ew) fin hs
 ·have hj:(i+(its.toArray.size:Int)).toNat=j:=by
   rw [seqIndex_neg (by omega) h4] at h1
   rw [size_toArray,<-hl];exact Option.some.inj h1
  exact subscriptTail_builtinR (x:=w) pl.isList.typeIs slot_list_getitem.lookup
   (wpAny_getItem_list_neg (Q:=fun r s'=>r=w/\EP X pins σ Q r s') pl.isList (by omega) (by rw [size_toArray]<;>omega) (by omega) (by rw [hj];simpa using ew) ⟨rfl,fin⟩) hs
theorem ix_tup:IxR X (Fu X.K):=by
 intro value slice pins s σ H x y v u Q I rx ry h hs;obtain ⟨p,xs,i,z,rfl,rfl,hq,he,q⟩:=h
 cases rx;obtain ⟨t,rfl⟩:=ry;obtain ⟨its,r,pl,hz⟩:=I.tuple hq;obtain ⟨j,h1,h2,h3,h4,h5⟩:=Ik he;obtain ⟨w,ew,rw'⟩:=r.get h2;have hl:=r.length
 have hn:=Av
 have fin:EP X pins σ Q w s:=⟨z,H,I,rw',q⟩
 exact subscriptTail_builtinR (x:=w) pl.typeIs slot_tuple_getitem.lookup
  (getItem_tuple (j:=j) (Q:=fun r s'=>r=w/\EP X pins σ Q r s') pl (by omega) (by omega) (by rw [size_toArray,<-hl];exact h1) (by simpa using ew) ⟨rfl,fin⟩) hs
theorem CQ:IxR X Fv:=by
 intro value slice pins s σ H x y v u Q I rx ry h hs;obtain ⟨z,i,c,rfl,rfl,hz,he,q⟩:=h;obtain ⟨t,rfl⟩:=rx;obtain ⟨t',rfl⟩:=ry;obtain ⟨j,h1,h2,h3,h4,h5⟩:=Ik he;have hl:z.cps.toList.length=z.length:=by simp [Str.length]
 rw [hl] at h1 h4 h5
 have hn:=Av
 exact tail_any (typeIs_str s z t) slot_str_getitem.lookup (getItem_str (c:=c) (by
  have e1:decide (i < -(2 ^ 63:Int))=false:=decide_eq_false (by omega)
  have e2:decide (i≥2 ^ 63)=false:=decide_eq_false (by omega)
  rw [e1,e2,Bool.or_false]) (by rw [h1];simpa using h2) ⟨.str ⟨#[c]⟩,H,I.tok _,⟨_,rfl⟩,q⟩) hs
def J8 (K:Fg):R2:=fun x y H Q=>Fw K x y H Q\/Fu K x y H Q\/Fv x y H Q
theorem vv:IxR X (J8 X.K):=ix_list.or (ix_tup.or CQ)
theorem ou (its:List Value) (n j:Nat) (u:Value):Obj.mapSeq (·.setIfInBounds j u) { cls:=.type "list",data:=.seq its.toArray n }={ cls:=.type "list",data:=.seq (its.set j u).toArray n }:=by
 simp [Obj.mapSeq]
theorem Inv.lst {pins:List (Addr×Obj)} {σ:St} {H:Hp} {s:Shared} {p:Addr} {xs:List V} (I:Inv X pins σ H s) (h:H p=some (.lst xs)) :
  ∃(its:List Value) (n:Nat),Vals xs its/\s.heap.get? p=some { cls:=.type "list",data:=.seq its.toArray n }/\xs.length<=sizeLine:=by
 obtain ⟨z,its,n,r,e⟩:=I.hok p _ h;exact ⟨its,n,r,e,z⟩
theorem Inv.lstUpd {pins:List (Addr×Obj)} {σ:St} {H:Hp} {s:Shared} {p:Addr} {xs ys:List V} {its its':List Value} {n n':Nat} {f:Obj->Obj} (I:Inv X pins σ H s) (h:H p=some (.lst xs))
  (ho:s.heap.get? p=some { cls:=.type "list",data:=.seq its.toArray n }) (hf:f { cls:=.type "list",data:=.seq its.toArray n }={ cls:=.type "list",data:=.seq its'.toArray n' }) (r:Vals ys its') (hz:ys.length<=sizeLine) (t:Nat) :
  Inv X pins σ (cy H p (.lst ys)) { s with heap:=s.heap.update p f,toks:=t }:=by
 have e:(s.heap.update p f).get? p=some { cls:=.type "list",data:=.seq its'.toArray n' }:=by
  rw [Heap.get?_update_self f ho (by rw [hf]<;>rfl),hf]
 refine I.write (x:=p) (e:=p) (by rw [h];trivial) (.inl rfl) (fun b u hb q=>(Heap.get?_update_other _ _ (Ne.symm hb)).trans q) ⟨_,e⟩ ?_
 exact ⟨hz,its',n',r,e⟩
def uZ:V->V->V->Hp->(Hp->Prop)->Prop:=fun o i v H Q=>∃p xs k j,o=.ref p/\i=.int k/\H p=some (.lst xs)/\eF xs.length k=some j/\Q (cy H p (.lst (xs.set j v)))
theorem uH:Gz X uZ:=by
 intro pins s σ H o i v ov iv u Q I ro ri rv h;obtain ⟨p,xs,k,j,rfl,rfl,hp,hj,q⟩:=h
 cases ro;obtain ⟨t,rfl⟩:=ri;obtain ⟨its,n,r,ho,hz⟩:=I.lst hp;obtain ⟨h1,h2,h3,h4⟩:=qc hj;have hl:=r.length
 have hn:=Av
 have I':Inv X pins σ (cy H p (.lst (xs.set j v))) { s with heap:=s.heap.update p (Obj.mapSeq (·.setIfInBounds j u)) }:=
  I.lstUpd hp ho (ou its n j u) (r.set rv j) (by rw [length_set];exact hz) s.toks
 by_cases h0:0<=k
 ·have hk:k.toNat=j:=by
   rw [seqIndex_of h0 h4] at h1;exact Option.some.inj h1
  exact PySem.W.ki_setAt ho h0 (by omega) (by rw [size_toArray,<-hl];exact h4) (by rw [hk];exact ⟨_,I',q⟩)
 ·have hk:(k+(its.toArray.size:Int)).toNat=j:=by
   rw [seqIndex_neg (by omega) h3] at h1
   rw [size_toArray,<-hl];exact Option.some.inj h1
  exact PySem.W.ki_setBack ho (by omega) (by rw [size_toArray,<-hl];exact h3) (by omega) (by rw [hk];exact ⟨_,I',q⟩)
theorem kf (lo hi:Option Int) (n:Nat):(sliceBounds lo hi none n).1=((HT.sIx n 0 lo:Nat):Int)/\(sliceBounds lo hi none n).2.1=((HT.sIx n n hi:Nat):Int)/\(sliceBounds lo hi none n).2.2=1:=by
 refine ⟨?_,?_,rfl⟩
 ·cases lo with
  | none=>simp [sliceBounds,HT.sIx]
  | some i=>
   simp only [sliceBounds,HT.sIx,Option.getD_none,show (1:Int)>0 by decide,if_true]
   by_cases h:i<0
   ·simp only [h,if_true]<;>omega
   ·simp only [h,if_false]<;>omega
 ·cases hi with
  | none=>simp [sliceBounds,HT.sIx]
  | some i=>
   simp only [sliceBounds,HT.sIx,Option.getD_none,show (1:Int)>0 by decide,if_true]
   by_cases h:i<0
   ·simp only [h,if_true]<;>omega
   ·simp only [h,if_false]<;>omega
theorem i3 (its:List Value) (lo hi:Option Int):slicePick its.toArray lo hi none=((its.drop (HT.sIx its.length 0 lo)).take (HT.sIx its.length its.length hi-HT.sIx its.length 0 lo)).toArray:=by
 obtain ⟨h1,h2,h3⟩:=kf lo hi its.toArray.size;unfold slicePick;rw [h1,h2,h3];simp only [sliceRange_one,pick_run,size_toArray]<;>rfl
def BU (K:Fg):V->Option Int->Option Int->Hp->VK->Prop:=fun x lo hi H Q=>∃a xs,x=.ref a/\SqL K H a xs/\∀p,H p=none->Q (.ref p) (cy H p (.lst (ju xs lo hi)))
theorem pH:H0 X (BU X.K):=by
 intro pins s σ H x v vl vu lo hi sl Q I rx hs pl pu h;obtain ⟨a,xs,rfl,hx,q⟩:=h
 cases rx;obtain ⟨its,r,ht,hz⟩:=I.list hx;have hlen:=r.length
 refine ⟨"list",_,slot_list_getitem.lookup,ht.isList.typeIs,?_⟩
 refine wpAny_getItem_list_slice ht.isList hs pl pu .none (by simp) ?_ (by rw [size_toArray]<;>omega)
 rw [i3,<-hlen];refine ⟨.ref s.heap.objs.size,_,I.laid (t':=s.toks) (o:=.lst (ju xs lo hi)) (fun b ob q=>L6 _ q) (L7 _) ?_,rfl,q _ (I.hok.fresh (L7 _))⟩
 exact ⟨Nat.le_trans (gP xs lo hi) hz,_,0,(r.drop (HT.sIx xs.length 0 lo)).take (HT.sIx xs.length xs.length hi-HT.sIx xs.length 0 lo),Heap.get?_push_size _ rfl⟩
theorem ky:OpR X (compareOp .NotIn) (fun x y H Q=>∃i j,x=.str i/\y=.str j/\Q (.bl (!(!(Builtin.Str.occurrences j i 0 j.length 1).isEmpty))) H):=by
 intro pins s σ H x y v u Q I rx ry h;obtain ⟨i,j,rfl,rfl,q⟩:=h;obtain ⟨t,rfl⟩:=rx;obtain ⟨t',rfl⟩:=ry;exact notIn_str ⟨.bl _,H,I,rfl,q⟩
theorem call_len_seq:CallR X (.builtin "len") (fun xs H Q=>∃p ys,xs=[.ref p]/\(SqL X.K H p ys\/SqT X.K H p ys)/\Q (.int ys.length) H):=by
 intro pins s σ H xs us Q I r h;obtain ⟨p,ys,rfl,hq,q⟩:=h;obtain ⟨u,rfl,rx⟩:=vals1 r
 cases rx;have hn:=Av
 rcases hq with hq | hq
 ·obtain ⟨its,r',pl,hz⟩:=I.list hq
  have hlen:=r'.length
  exact Calls.call_len_list pl.isList (by simp only [size_toArray]<;>omega) ⟨.int ys.length,H,I.tok _,⟨s.toks+1,by rw [size_toArray,hlen]⟩,q⟩
 ·obtain ⟨its,r',pl,hz⟩:=I.tuple hq
  have hlen:=r'.length
  exact len_tuple pl (by simp only [size_toArray]<;>omega) ⟨.int ys.length,H,I.tok _,⟨s.toks+1,by rw [size_toArray,hlen]⟩,q⟩
theorem kY:CallR X (.builtin "len") (fun xs H Q=>∃z,xs=[.str z]/\z.length<=sizeLine/\Q (.int z.length) H):=by
 intro pins s σ H xs us Q I r h;obtain ⟨z,rfl,hz,q⟩:=h;obtain ⟨u,rfl,t,rfl⟩:=vals1 r;have hn:=Av
 exact len_str (by omega) ⟨.int z.length,H,I.tok _,⟨_,rfl⟩,q⟩
theorem CallR.or {f:Value} {r r':List V->Hp->VK->Prop} (h:CallR X f r) (h':CallR X f r'):CallR X f (fun xs H Q=>r xs H Q\/r' xs H Q):=by
 intro pins s σ H xs us Q I rs q;rcases q with q | q
 ·exact h pins s σ H xs us Q I rs q
 ·exact h' pins s σ H xs us Q I rs q
theorem kX:CallR X (.type "list") (fun xs H Q=>∃p ys,xs=[.ref p]/\(SqL X.K H p ys\/SqT X.K H p ys)/\∀l,H l=none->Q (.ref l) (cy H l (.lst ys))):=by
 intro pins s σ H xs us Q I r h;obtain ⟨p,ys,rfl,hq,q⟩:=h;obtain ⟨u,rfl,rx⟩:=vals1 r
 cases rx;have fin:∀(its:List Value),Vals ys its->ys.length<=sizeLine->∀(h':Heap) (c':Nat),(∀b o',s.heap.get? b=some o'->h'.get? b=some o') ->
   h'.get? s.heap.objs.size=some { cls:=.type "list",dict:=none,data:=.seq its.toArray c',slots:=#[] }->EP X pins σ Q (.ref s.heap.objs.size) { s with heap:=h' }:=fun its r' hz h' c' kp e=>
  ⟨.ref s.heap.objs.size,_,I.laid (t':=s.toks) kp (L7 _) (show ObjOk X.prog X.w _ h' _ (.lst ys) from ⟨hz,its,c',r',e⟩),rfl,q _ (I.hok.fresh (L7 _))⟩
 rcases hq with hq | hq
 ·obtain ⟨its,r',pl,hz⟩:=I.list hq
  have hlen:=r'.length
  obtain ⟨o,ho,hc,n,hd⟩:=pl.isList;exact call_list_seq p (.inl rfl) ho hc hd (fun h' c' kp e=>fin its r' hz h' c' kp e) (by simp only [size_toArray]<;>omega)
 ·obtain ⟨its,r',pl,hz⟩:=I.tuple hq
  have hlen:=r'.length
  obtain ⟨o,ho,hc,n,hd⟩:=pl;exact call_list_seq p (.inr rfl) ho hc hd (fun h' c' kp e=>fin its r' hz h' c' kp e) (by simp only [size_toArray]<;>omega)
def KE (K:Fg) (T:String) (x:V) (H:Hp):Prop:=match x with
 | .str _=>T = "str"
 | .int _=>T = "int"
 | .ref p=>(T = "list"/\∃xs,SqL K H p xs)\/(T = "tuple"/\∃o,K.lookup p=some o/\o.cls=.type "tuple"/\o.dict=none) \/
   (T = "dict"/\((∃kvs,H p=some (.dK kvs))\/∃kvs,H p=some (.dT kvs)))\/(T = "set"/\∃S n,H p=some (.set S n))
 | _=>False
theorem Ba {pins:List (Addr×Obj)} {σ:St} {H:Hp} {s:Shared} {T:String} {x:V} {v:Value} (I:Inv X pins σ H s) (r:RelV x v) (ty:KE X.K T x H) :
  s.TypeIs v T/\∀a,v=.ref a->∃ob,s.heap.get? a=some ob/\ob.dict=none:=by
 cases x with
 | str z=>
  obtain ⟨t,rfl⟩:=r
  cases (show T = "str" from ty)
  exact ⟨typeIs_str s z t,fun _ e=>nomatch e⟩
 | int i=>
  obtain ⟨t,rfl⟩:=r
  cases (show T = "int" from ty)
  exact ⟨typeIs_int s i t,fun _ e=>nomatch e⟩
 | ref p=>
  cases r;rcases ty with ⟨rfl,xs,hq⟩ | ⟨rfl,o,hk,hc,hd⟩ | ⟨rfl,hk⟩ | ⟨rfl,S,n,hk⟩
  ·obtain ⟨its,_,pl,_⟩:=I.list hq
   refine ⟨pl.isList.typeIs,fun a e=>?_⟩
   cases e;obtain ⟨o,n,e,c,hd,_⟩:=pl;exact ⟨o,e,hd⟩
  ·refine ⟨⟨o,I.kIn p o hk,hc⟩,fun a e=>?_⟩
   cases e;exact ⟨o,I.kIn _ o hk,hd⟩
  ·have z:∃o,s.heap.get? p=some o/\o.ExactDict:=by
    rcases hk with ⟨kvs,hk⟩ | ⟨kvs,hk⟩
    ·obtain ⟨_,_,_,_,o,_,_,e,ex,_⟩:=I.hok p _ hk
     exact ⟨o,e,ex⟩
    ·obtain ⟨_,_,_,_,o,_,_,e,ex,_⟩:=I.hok p _ hk
     exact ⟨o,e,ex⟩
   obtain ⟨o,e,ex⟩:=z;refine ⟨⟨o,e,ex.1⟩,fun a e2=>?_⟩
   cases e2;exact ⟨o,e,ex.2.1⟩
  ·obtain ⟨o,_,_,_,e,ex,_⟩:=I.hok p _ hk
   refine ⟨⟨o,e,ex.1⟩,fun a e2=>?_⟩
   cases e2;exact ⟨o,e,ex.2.1⟩
 | _=>exact False.elim ty
def zF (K:Fg) (T:String) (r:V->List V->Hp->VK->Prop) (to:TE) (t:TA):TE:=fun σ H Q=>to σ H fun x H1=>KE K T x H1/\t σ H1 fun xs H2=>r x xs H2 Q
variable {o e:Expr} {es:List Expr} {to:TE} {t:TA} {name:Str} {apos cpos:Pos} {T id:String} {r:V->List V->Hp->VK->Prop}
theorem iq (pa:PlainAttrs T) (slot:Slot T name id) (hty:typeOf (.builtin id)=pure (.type "method_descriptor")) (hm:GD X id r) (ho:PE X o to) (ha:PA X (e::es) t)
  (hbase:attributeBase o name X.env (eval o X.env)=eval o X.env:=by rfl)
  (hfew:((backTo cpos (starEach (e::es) X.env)).all (fun x=>!x.1)&&(backToKw cpos (keywordEach [] X.env)).all (fun x=>x.1.isSome)
   && decide ((e::es).length+([]:List Keyword).length+(if ([]:List Keyword).isEmpty then 0 else 1)<30))=true:=by rfl)
  (hline:(apos.endLine==cpos.line)=true:=by rfl) (hs:starEach (e::es) X.env=(false,eval e X.env)::starEach es X.env:=by rfl) (hplain:(backTo cpos (starEach es X.env)).any (·.1)=false:=by rfl) :
  PE X (.Call (.Attribute o name apos) (e::es) [] cpos) (zF X.K T r to t):=by
 intro pins s σ H Q I h;refine wpAny_Call_method_late hbase hfew hline rfl (bK (ho pins s σ H _ I h) fun v s1 ⟨x,H1,I1,r1,ty,q1⟩=>?_)
 obtain ⟨h1,h2⟩:=Ba I1 r1 ty;refine ⟨T,id,pa,slot,hty,h1,h2,?_⟩
 have hA:=ha cpos pins s1 σ H1 _ I1 q1
 rw [hs] at hA ⊢;refine Calls.callWith_builtin (by show (false||(backTo cpos (starEach es X.env)).any (·.1))=false;rw [hplain]<;>rfl) (Calls.evalArgs_plain ?_)
 exact bK hA fun us s2 ⟨vs,H2,I2,r2,q2⟩=>hm pins s2 σ H2 x vs v us Q I2 r1 r2 q2
end
def Lo (X:Cx) (id:String) (r:V->List V->Hp->VK->Prop):Prop:=
 ∀(pins:List (Addr×Obj)) (s:Shared) (σ:St) (H:Hp) (x:V) (xs:List V) (v:Value) (us:List Value) (Q:VK),Inv X pins σ H s->RelV x v->Vals xs us->r x xs H Q ->
  wpAny (model X.prog X.w) X.A (call (.builtin id) (v::us)) (EP X pins σ Q) X.xe s
theorem Vals.one:∀{x:V} {us:List Value},Vals [x] us->∃u,us=[u]/\RelV x u
 | _,_,.cons r .nil=>⟨_,rfl,r⟩
theorem Vals.rep {xs:List V} {us:List Value} (h:Vals xs us):∀k:Nat,Vals (List.replicate k xs).flatten (List.replicate k us).flatten
 | 0=>.nil
 | k+1=>by
  rw [replicate_succ,replicate_succ,flatten_cons,flatten_cons];exact Vals.append h (Vals.rep h k)
theorem foldl_rep (its:List Value):∀(k:Nat) (acc:List Value),
  List.foldl (fun x1 x2=>x1++x2) acc.toArray (List.replicate k its.toArray)=(acc++(List.replicate k its).flatten).toArray
 | 0,acc=>by simp
 | k+1,acc=>by
  have e:acc.toArray++its.toArray=(acc++its).toArray:=by simp
  have e2:(acc++its)++(List.replicate k its).flatten=acc++(List.replicate (k+1) its).flatten:=by
   rw [replicate_succ,flatten_cons,append_assoc]
  rw [<-e2,<-foldl_rep its k (acc++its),<-e,replicate_succ,List.foldl_cons]
section
variable {X:Cx} {pins:List (Addr×Obj)} {σ:St} {H:Hp} {s:Shared} {l b:Addr} {xs ys zs:List V}
theorem Inv.lset {its its':List Value} {n:Nat} {f:Array Value->Array Value} {t':Nat} (I:Inv X pins σ H s) (hH:H l=some (.lst xs))
  (e:s.heap.get? l=some { cls:=.type "list",data:=.seq its.toArray n }) (hf:f its.toArray=its'.toArray) (hv:Vals ys its') (hz:ys.length<=sizeLine) :
  Inv X pins σ (cy H l (.lst ys)) { s with heap:=s.heap.update l (Obj.mapSeq f),toks:=t' }:=by
 have q:=PySem.IsL.update e f
 rw [hf] at q;refine I.write (x:=l) (e:=l) (by rw [hH];exact trivial) (.inl rfl) (fun b' u hb hu=>(Heap.get?_update_other s.heap (Obj.mapSeq f) (Ne.symm hb)).trans hu) ⟨_,q⟩ ?_
 exact ⟨hz,its',_,hv,q⟩
theorem Inv.lnew {its:List Value} {t':Nat} (I:Inv X pins σ H s) (hv:Vals ys its) (hz:ys.length<=sizeLine) :
  Inv X pins σ (cy H s.heap.objs.size (.lst ys)) { s with heap:=s.heap.push { cls:=.type "list",data:=.seq its.toArray },toks:=t' }:=
 I.laid (fun _ _ q=>L6 _ q) (L7 _) ⟨hz,its,0,hv,Heap.get?_push_size _ rfl⟩
theorem Inv.fresh (I:Inv X pins σ H s):H s.heap.objs.size=none:=I.hok.fresh (L7 _)
theorem Inv.lstM (I:Inv X pins σ H s) (hH:H l=some (.lst xs)):xs.length<=sizeLine/\∃(its:List Value) (n:Nat),Vals xs its/\xs.length=its.length/\s.heap.get? l=some { cls:=.type "list",data:=.seq its.toArray n }:=by
 obtain ⟨z,its,n,r,e⟩:=I.hok l _ hH;exact ⟨z,its,n,r,r.length,e⟩
theorem mM {n:Nat} (h:n<=sizeLine):Builtin.List.listTooLong n=false:=by
 unfold Builtin.List.listTooLong;exact decide_eq_false (by omega)
end
section
variable {X:Cx}
def Iv:V->List V->Hp->VK->Prop:=fun x vs H Q=>∃l xs y,x=.ref l/\vs=[y]/\H l=some (.lst xs)/\xs.length<sizeLine/\Q .non (cy H l (.lst (xs++[y])))
theorem IZ:Lo X "list.append" Iv:=by
 intro pins s σ H x vs v us Q I rx rv h;obtain ⟨l,xs,y,rfl,rfl,hH,hz,q⟩:=h
 cases rx;obtain ⟨u,rfl,ru⟩:=rv.one;obtain ⟨z,its,n,r,hl,e⟩:=I.lstM hH;refine call_meets F.slot_list_append ⟨_,e,rfl⟩ F.entry_list_append (F.args_list_append_2 _ _) (PySem.list_append l its.toArray n u (by rw [size_toArray];omega)) ⟨e,?_⟩
 refine ⟨.non,_,I.lset (its':=its++[u]) hH e (by simp) (r.append (.cons ru .nil)) ?_,rfl,q⟩
 rw [length_append,length_singleton];omega
def BV:R2:=fun x y H Q=>∃l k xs,x=.ref l/\y=.int k/\H l=some (.lst xs)/\-(2 ^ 63)<=k/\k<2 ^ 63/\xs.length*k.toNat<=sizeLine /\
 ∀p,H p=none->Q (.ref p) (cy H p (.lst (List.replicate k.toNat xs).flatten))
theorem Io {α:Type} (xs:List α) (k:Nat):(List.replicate k xs).flatten.length=k*xs.length:=by
 induction k with
 | zero=>simp
 | succ k ih=>rw [replicate_succ,flatten_cons,length_append,ih,Nat.succ_mul,Nat.add_comm]
theorem Cr:OpR X (binaryOp .Mult) BV:=by
 intro pins s σ H x y v u Q I rx ry h;obtain ⟨l,k,xs,rfl,rfl,hH,h1,h2,hz,q⟩:=h
 cases rx;obtain ⟨t,rfl⟩:=ry;obtain ⟨z,its,n,r,hl,e⟩:=I.lstM hH;have hlen:its.toArray.size*k.toNat<=sizeLine:=by rw [size_toArray,<-hl];exact hz
 have hcap:¬its.toArray.size*k.toNat>(2 ^ 63-1) / 8:=by
  have:(sizeLine:Nat)<=(2 ^ 63-1) / 8:=by decide
  omega
 have hfit:¬(!Builtin.List.listFitsIndex k)=true:=by
  rw [fitsIndex_both h1 h2];exact Bool.false_ne_true
 have hlong:¬Builtin.List.listTooLong (its.toArray.size*k.toNat)=true:=by
  rw [mM hlen];exact Bool.false_ne_true
 have hnew:List.foldl (fun x1 x2=>x1++x2) #[] (List.replicate (if its.toArray.isEmpty=true then 0 else k.toNat) its.toArray)=(List.replicate k.toNat its).flatten.toArray:=by
  have f0:∀m:Nat,List.foldl (fun x1 x2=>x1++x2) #[] (List.replicate m its.toArray)=(List.replicate m its).flatten.toArray:=fun m=>by
   have:=foldl_rep its m []
   rw [nil_append] at this;exact this
  rw [f0]
  cases its with
  | nil=>simp
  | cons a r'=>rw [if_neg (by simp)]
 refine wpAny_binaryOp_repeat_ref (T := "list") (U := "int") (by decide) ⟨_,e,rfl⟩ (fun s'=>typeIs_int s' k t) noFill_list_mul F.fills_int_mul F.slot_int_rmul repeat_list F.slot_int_index.lookup
  (call_meets F.slot_int_rmul (typeIs_int s k t) F.entry_int_rmul (F.args_int_rmul_2 _ _) (int___rmul___int_list k t l its.toArray n)
   ⟨e,rfl,⟨_,e,rfl⟩,call_meets F.slot_list_mul ⟨_,e,rfl⟩ F.entry_list_mul (F.args_list_mul_2 _ _) (AutoListH.list___mul___list_int_3 l its.toArray n k t hfit hcap hlong) ⟨e,?_⟩⟩)
 rw [hnew];exact ⟨.ref _,_,I.lnew (t':=s.toks) (r.rep k.toNat) (by rw [Io,Nat.mul_comm];exact hz),rfl,q _ I.fresh⟩
end
section
variable {prog:Program} {w:World} {A:Around} {E:Value->Shared->Prop} {s:Shared}
set_option maxRecDepth 100000 in
end
end L2
namespace Att
open PySem PySem.W PySem.Calls PyProof.Rows
theorem gW {P:Params} {h:Heap}:∀(ns:List Int) (vs:List Value),WellAll P h vs (ns.map WData.int)->IntsAre vs ns:=by
 intro ns;induction ns with
 | nil=>
  intro vs w;rw [List.map_nil] at w
  cases w;exact .nil
 | cons n ns ih=>
  intro vs w;rw [map_cons] at w
  cases w with
  | cons a b=>
   cases a;exact .cons _ _ (ih _ b)
theorem qV {l:OpenLaw} {n:Nat} (hn:l.most=some n) {P:Params} {h:Heap} {args:List WData} {vals:List Value}
  (hpre:l.row.toRowW.claim.pre args=true) (hwl:WellAll P h vals args) :
  ∃a vs ns,vals=[Value.ref a]/\args=[WData.list (ns.map WData.int)]/\h.get? a=some { cls:=.type "list",data:=.seq vs.toArray }/\IntsAre vs ns/\ns.length<=n:=by
 have hsh:WShape.hasAll [] args [.list .int]=true:=(pre_splitW hpre).1
 have hc:l.pre.holds [] { args:=args }=true:=(pre_splitW hpre).2
 obtain ⟨d,r,rfl,h1,h2⟩:=hasAllW_cons hsh;obtain rfl:=hasAllW_nil h2
 obtain ⟨xs,rfl,h3⟩:=hasW_list h1;obtain ⟨ns,rfl⟩:=items_int h3;have hlen:ns.length<=n:=by
  unfold OpenLaw.pre at hc;have h4:(WTm.not (.lt (.lit (.int (n:Int))) (.len (.arg 0)))).holds [] { args:=[.list (ns.map .int)] }=true:=by
   have h4:=(holds_andW hc).1
   rw [hn] at h4;exact h4
  have h5:=condW_of h4 (w_not (w_lt w_lit (w_len_list (w_arg rfl))))
  rw [length_map] at h5;refine Nat.le_of_not_lt fun q=>?_
  have q':(n:Int)<((ns.length:Nat):Int):=by omega
  first
   | (rw [decide_eq_true q'] at h5;exact absurd h5 (by decide))
   | (simp at h5;omega)
 cases hwl with
 | cons w1 w2=>
  cases w2
  cases w1 with
  | list ho hall=>exact ⟨_,_,ns,rfl,rfl,ho,gW ns _ hall,hlen⟩
theorem rq (l:OpenLaw) (args:List WData):l.row.toRowW.claim.post args (.bool true) args=true:=
 postW_of (r:=l.row.toRowW) (X:=(true==true))
  (show WShape.has [] (.bool true) .bool=true by first | rfl | decide | simp [WShape.has,WShape.arms,WShape.armsAll])
  (show (WTm.eq .res (.lit (.bool true))).value [] { args:=args,res:=some (.bool true),after:=args }=some (.bool (true==true)) from w_eq_bool (w_res rfl) w_lit) rfl
theorem attach_call {l:OpenLaw} {n:Nat} {q:Program} {loose:List Str} {XP:(Str->Option Value)->Heap->Prop} {YP:World->Heap->Prop} {d:DefRec}
  (hn:l.most=some n) (hdf:d.params.defaults=[])
  (call:∀(w:World) (s₀ s₁:Shared) (mg mb:Str->Option Value) (fa:Addr) (o:Obj) (pm cd doc:Value) (a:Addr) (vs:List Value) (ns:List Int),
   Ground q loose [] XP w s₀ mg mb s₁.heap->YP w s₁.heap ->
   s₁.heap.get? fa=some o->o.data=.func (docDef d.name d.params d.body d.scope pm cd doc)->s₁.heap.CodeRec cd d.name->mg d.name=some (.ref fa) ->
   s₁.heap.get? a=some { cls:=.type "list",data:=.seq vs.toArray }->IntsAre vs ns->ns.length<=n->s₁.gens=#[] ->
   codeAny (model l.prog w) callerA (.call (.ref fa) ⟨[.ref a],[]⟩) (fun r s'=>r=.ok (.ret (.bool true))/\OldK s₁.heap s'.heap/\s'.os=s₁.os/\AllBare s'.gens) s₁) :
  WalkO q loose XP YP l.row.toRowW d [] (fun f vs=>PySem.call f vs):=by
 intro w s₀ s₁ mg mb G Y fa o pm cd doc dV kV ho hd hcd hD hmg hg args vals as hpre hlay hrd hwl hlo;obtain rfl:dV=.none:=Dflts.none hD hdf
 obtain rfl:kV=.none:=Dflts.noKw hD
 obtain ⟨a,vs,ns,rfl,rfl,hobj,hints,hlen⟩:=qV hn hpre hwl;refine enter_call (codeAny_mono (call w s₀ s₁ mg mb fa o pm cd doc a vs ns G Y ho (fd_plain hd) hcd hmg hobj hints hlen hg) fun r s' hq=>?_)
 obtain ⟨rfl,h2,h3,h4⟩:=hq;exact ⟨.inl ⟨.bool true,.bool true,[],rfl,fun _=>rfl,.bool true,rq l _,fun _=>⟨List.Pairwise.nil,fun _ hm=>(nomatch hm)⟩⟩,h2,h3,h4⟩
end Att
namespace L2
open PySem PySem.Spec PyProof.Rows
theorem jD:∀{vs:List Value} {ns:List Int},IntsAre vs ns->Vals (ns.map V.int) vs
 | _,_,.nil=>.nil
 | _,_,.cons n t h=>.cons ⟨t,rfl⟩ (jD h)
def DG (H:Hp):Prop:=∀b,H b=none\/∃o xs,H b=some (.frz o (.lst xs))
theorem vr {P:Program} {w:World} {K:Fg} {mg mb:Str->Option Value} {CX:qE} {k:Nat} {fa a:Addr} {fd:FuncData} {x:Str} {sp:Sp} {s₁:Shared} {vs:List Value} {ns:List Int}
  (KX:K.In s₁.heap) (hns:s₁.heap.Ns mainGlobals mg) (hb:s₁.heap.Ns builtinsNs mb) (hbb:∀x:Str,x ≠ "__name__"->mb x=bootBuiltins x) (hlim:s₁.heap.NoLimit) (hg:s₁.gens=#[])
  (ha:s₁.heap.get? a=some { cls:=.type "list",data:=.seq vs.toArray }) (hi:IntsAre vs ns) (hl:ns.length<=sizeLine) (hr:Room k callerA)
  (F:∀base:Heap,K.In base->base.Ns mainGlobals mg->dH P w K mg base CX k fa fd [x] sp) (hbind:∀(s:Shared) (u:Value),BindsTo s fd ⟨[u],[]⟩ [(x,u)])
  (hsp:∀H:Hp,DG H->SqL K H a (ns.map V.int)->sp [.ref a] H (fun v _=>v=.bl true) fun _ _ _=>False)
  (hCX:∀H e s',CX [] H s₁ (fun _ _ _=>False) e s'->False) :
  codeAny (model P w) callerA (.call (.ref fa) ⟨[.ref a],[]⟩) (fun r s'=>r=.ok (.ret (.bool true))/\OldK s₁.heap s'.heap/\s'.os=s₁.os/\AllBare s'.gens) s₁:=by
 have rv:=jD hi
 have lenV:=hi.length
 have core:∀H:Hp,DG H->SqL K H a (ns.map V.int)->HOk P w H s₁.heap->(∀b,H b≠none->b=a)->(H a≠none->K.lookup a=none) ->
   codeAny (model P w) callerA (.call (.ref fa) ⟨[.ref a],[]⟩) (fun r s'=>r=.ok (.ret (.bool true))/\OldK s₁.heap s'.heap/\s'.os=s₁.os/\AllBare s'.gens) s₁:=by
  intro H hO hS hok hA hK;have base_of:∀{b:Addr} {o:Obj},s₁.heap.get? b=some o->H b=none->(kK s₁.heap H).get? b=some o:=fun e n=>vO e n
  have noA:∀{b:Addr} {o:Obj} {es:Array DictEntry} {ep:Nat},s₁.heap.get? b=some o->o.data=.dict es ep->H b=none:=fun {b o es ep} e d=>by
   cases q:H b with
   | none=>rfl
   | some u=>
    have e':b=a:=hA b (by rw [q];simp)
    subst e'
    rw [ha] at e;cases e;have d':Data.seq vs.toArray _=Data.dict es ep:=d
    cases d'
  have nsK:∀{b:Addr} {m:Str->Option Value},s₁.heap.Ns b m->(kK s₁.heap H).Ns b m:=fun {b m} ⟨o,es,ep,e,d,r⟩=>⟨o,es,ep,base_of e (noA e d),d,r⟩
  have hKb:K.In (kK s₁.heap H):=fun b o e=>base_of (KX b o e) (by
   cases q:H b with
   | none=>rfl
   | some u=>
    have e':b=a:=hA b (by rw [q];simp)
    subst e'
    rw [hK (by rw [q];simp)] at e;cases e)
  have hM:Mod K mg (kK s₁.heap H):=⟨hKb,nsK hns,⟨mb,nsK hb,hbb⟩,let ⟨mc,h1,h2⟩:=hlim;⟨mc,nsK h1,h2⟩⟩
  have e0:sW P w K mg (kK s₁.heap H) callerA [] s₁ H:=⟨rfl,hM,fun b o e=>yf e,Nat.le_of_eq (rZ _ _),trivial,fun b hb=>absurd (show b∈([]:List Addr) from hb) (by simp),hok,.of_eq hg⟩
  refine codeAny_mono ((F _ hKb (nsK hns)).run callerA [] s₁ H ⟨[.ref a],[]⟩ [.ref a] [.ref a] _ _ hr e0 (hbind s₁ (.ref a)) (.cons rfl .nil) (hsp H hO hS)) fun r s' h=>?_
  cases r with
  | error e=>exact (hCX H e s' h).elim
  | ok fl=>
   cases fl with
   | next=>exact False.elim h
   | brk=>exact False.elim h
   | cont=>exact False.elim h
   | ret u=>
    obtain ⟨v,H',os,bare,un,hok',r',q⟩:=h;have q':v=.bl true:=q
    subst q'
    obtain rfl:u=Value.bool true:=r'
    refine ⟨rfl,OldK.of_keep fun b o e=>?_,os,bare⟩
    cases q:H b with
    | none=>exact un.keep b o e q (by intro z;exact absurd (show b∈([]:List Addr) from z) (by simp)) (by simp)
    | some u=>
     rcases hO b with z | ⟨ob,xs,z⟩
     ·rw [q] at z;cases z
     ·have z2:=un.frzs b ob _ z
      obtain ⟨e1,_⟩:=hok b _ z;obtain ⟨e2,_⟩:=hok' b _ z2
      rw [e] at e1;cases e1;exact e2
 cases hk:K.lookup a with
 | some o=>
  have e:=KX a o hk
  rw [ha] at e
  cases e;refine core (fun _=>none) (fun _=>.inl rfl) (.inr ⟨_,vs.toArray,_,hk,rfl,rfl,rfl,by rw [size_toArray,lenV];exact hl,by simpa using rv⟩) (fun b u z=>by have z':(none:Option HO)=some u:=z;cases z') (fun b z=>absurd rfl z) fun z=>absurd rfl z
 | none=>
  refine core (fun b=>if b=a then some (.frz { cls:=.type "list",data:=.seq vs.toArray } (.lst (ns.map V.int))) else none) (fun b=>?_) (.inl (.inr ⟨{ cls:=.type "list",data:=.seq vs.toArray },if_pos rfl⟩)) (fun b u z=>?_) (fun b z=>?_) fun _=>hk
  ·by_cases hb:b=a
   ·exact .inr ⟨_,_,if_pos hb⟩
   ·exact .inl (if_neg hb)
  ·by_cases hb:b=a
   ·have z':=(if_pos hb).symm.trans z
    cases z'
    subst hb;exact ⟨ha,by rw [length_map];exact hl,vs,_,rv,ha⟩
   ·have z':=(if_neg hb).symm.trans z
    cases z'
  ·by_cases hb:b=a
   ·exact hb
   ·exact absurd (if_neg hb) z
theorem walk_of {l:PySem.W.OpenLaw} {n k:Nat} {q:Program} {loose:List Str} {XP:(Str->Option Value)->Heap->Prop} {YP:World->Heap->Prop} {d:DefRec} {K:Params->Fg} {CX:World->qE} {sp:World->Sp} {x:Str}
  (hn:l.most=some n) (hn2:n<=sizeLine) (hdf:d.params.defaults=[]) (hr:Room k callerA)
  (hY:∀(w:World) (h:Heap),YP w h->(K w.params).In h)
  (F:∀(w:World) (mg:Str->Option Value) (fa:Addr) (h:Heap),(K w.params).In h->h.Ns mainGlobals mg->mg d.name=some (.ref fa) ->
   ∃fd:FuncData,(∀(s:Shared) (u:Value),BindsTo s fd ⟨[u],[]⟩ [(x,u)]) /\
    ∀base:Heap,(K w.params).In base->base.Ns mainGlobals mg->dH l.prog w (K w.params) mg base (CX w) k fa fd [x] (sp w))
  (hsp:∀(w:World) (H:Hp) (a:Addr) (ns:List Int),ns.length<=n->DG H->SqL (K w.params) H a (ns.map V.int)->sp w [.ref a] H (fun v _=>v=.bl true) fun _ _ _=>False)
  (hCX:∀(w:World) (H:Hp) (s:Shared) (e:Value) (s':Shared),CX w [] H s (fun _ _ _=>False) e s'->False) :
  PySem.W.WalkO q loose XP YP l.row.toRowW d [] (fun f vs=>PySem.call f vs):=by
 refine Att.attach_call hn hdf fun w s₀ s₁ mg mb fa o pm cd doc a vs ns G Y ho hd hcd hmg hobj hints hlen hg=>?_
 have KX:=hY w _ Y
 obtain ⟨fd,hb,hF⟩:=F w mg fa _ KX G.T.g hmg;exact vr KX G.T.g G.T.b G.T.builtins G.T.nolimit hg hobj hints (Nat.le_trans hlen hn2) hr hF hb (fun H hO hS=>hsp w H a ns hlen hO hS) fun H e s'=>hCX w H s₁ e s'
def DT (s:Stmt):Arguments:=match s with
 | .FunctionDef _ a _ _ _ _ _ _ _ _=>a
 | _=>{ posonlyargs:=[],args:=[],vararg:=none,kwonlyargs:=[],kw_defaults:=[],kwarg:=none,defaults:=[] }
def qJ (s:Stmt):List Stmt:=match s with
 | .FunctionDef _ _ b _ _ _ _ _ _ _=>b
 | _=>[]
def hJ (s:Stmt):Scope:=match s with
 | .FunctionDef _ _ _ _ _ _ sc _ _ _=>sc
 | _=>{ kind:=.function,names:=[],isGenerator:=false,isCoroutine:=false }
abbrev ka:qE:=fun _ _ _ _ _ _=>False
abbrev E0:XK:=fun _ _ _=>False
theorem zQ {X:Cx}:GI ka X E0:=fun _ _ _ _ _ _ _ h=>h.elim
structure Fun (K:Fg) (x qual:Str) (st:Stmt) (f:Addr) (fd:FuncData):Prop where
 ex:∃(oc:Value) (od:Option Addr) (kV doc pm:Value) (an:Option Addr) (cdv ct:Value) (osl:Array (Option Value)),
  fd=PySem.W.fnOf x qual (DT st) (qJ st) (hJ st) .none kV doc pm an cdv ct/\K.lookup f=some ⟨oc,od,.func fd,osl⟩/\PySem.W.codeIn K cdv qual=true
 kp:PySem.W.keepIn K (.ref f)=true
section
variable {P:Program} {w:World} {K:Fg} {mg:Str->Option Value} {base:Heap}
theorem Fun.ok {x qual:Str} {st:Stmt} {f:Addr} {fd:FuncData} {N ps:List Str} {k:Nat} {sp:Sp} (F:Fun K x qual st f fd) (S:d6 N ps (hJ st)) (len:∀vs H Q E,sp vs H Q E->vs.length=ps.length)
  (hbody:∀(cdv:Value) (A:Around) (outer:List Env) (s:Shared) (H:Hp) (vs:List V) (Q:VK) (E:XK),Room k (A.deeper (envOfC qual (hJ st) s.heap.objs.size f cdv))->sp vs H Q E ->
   ∃t,PSs (fm ka P w K mg base N qual (hJ st) f cdv A outer s H E).nox (qJ st) t/\t { nx:=fun _ H'=>Q .non H',rt:=Q } (start N vs) H):dH P w K mg base ka (k+1) f fd ps sp:=by
 obtain ⟨oc,od,kV,doc,pm,an,cdv,ct,osl,rfl,lk,hcd⟩:=F.ex;refine Ac lk hcd S len fun A outer s H vs Q E hr hsp=>?_
 obtain ⟨t,h,q⟩:=hbody cdv A outer s H vs Q E hr hsp;exact ⟨t,h.nox,q⟩
theorem Fun.binds {x qual:Str} {st:Stmt} {f:Addr} {fd:FuncData} {ps:List Str} (F:Fun K x qual st f fd)
  (h:∀(kV doc pm:Value) (an:Option Addr) (cdv ct:Value) (us:List Value),us.length=ps.length->bindArgs (PySem.W.fnOf x qual (DT st) (qJ st) (hJ st) .none kV doc pm an cdv ct) ⟨us,[]⟩=pure (ps.zip us)):Binds K fd ps []:=by
 obtain ⟨oc,od,kV,doc,pm,an,cdv,ct,osl,rfl,lk,hcd⟩:=F.ex;exact .all (h kV doc pm an cdv ct)
theorem Di {x qual:Str} {st:Stmt} {f:Addr} {oc:Value} {od an:Option Addr} {osl:Array (Option Value)} {kV doc pm cdv ct:Value} (l:K.lookup f=some ⟨oc,od,.func (PySem.W.fnOf x qual (DT st) (qJ st) (hJ st) .none kV doc pm an cdv ct),osl⟩)
  (c:PySem.W.codeIn K cdv qual=true) (k:PySem.W.keepIn K (.ref f)=true):Fun K x qual st f (PySem.W.fnOf x qual (DT st) (qJ st) (hJ st) .none kV doc pm an cdv ct):=⟨⟨oc,od,kV,doc,pm,an,cdv,ct,osl,rfl,l,c⟩,k⟩
end
theorem kH {A B:Prop} (h:B):if false=true then A else B:=by
 rw [if_neg Bool.false_ne_true];exact h
theorem oA {A B:Prop} (h:A):if true=true then A else B:=by
 rw [if_pos rfl];exact h
def Same (H H':Hp):Prop:=∀b o,H b=some o->H' b=some o
theorem Same.refl (H:Hp):Same H H:=fun _ _ h=>h
theorem Same.trans {H H1 H2:Hp} (a:Same H H1) (b:Same H1 H2):Same H H2:=fun c o h=>b c o (a c o h)
theorem Same.free {H H':Hp} (e:Same H H') {l:Addr} (h:H' l=Option.none):H l=Option.none:=by
 cases q:H l with
 | none=>rfl
 | some o=>
  rw [e l o q] at h
  cases h
theorem Same.seq {K:Fg} {H H':Hp} {a:Addr} {xs:List V} (e:Same H H') (h:SqL K H a xs):SqL K H' a xs:=by
 rcases h with (h | ⟨o,h⟩) | h
 ·exact .inl (.inl (e _ _ h))
 ·exact .inl (.inr ⟨o,e _ _ h⟩)
 ·exact .inr h
section
variable {prog:Program} {w:World} {A:Around} {R:Result->Shared->Prop} {s:Shared}
abbrev zf:Value->Shared->Prop:=fun _ _=>False
theorem kW {elt target iter:Expr} {ifs:List Expr} {scope:Scope} {pos:Pos} {it acc:Value} {env:Env} (I:Nat->Shared->Prop)
  (turn:∀n s,I n s->wpAny (model prog w) A (pyNext it) (fun r s₁=>match r with
   | none=>R (.ok .next) s₁
   | some v=>wpAny (model prog w) A (letOwnedTupleGo target it v) (fun _ s₁'=>wpAny (model prog w) A (assign target env v) (fun _ s₂=>
     wpAny (model prog w) A (forIn ifs true fun c r=>if r=true then do let ok <-isTrue c env (eval c env);pure (ForInStep.yield ok) else pure (ForInStep.yield r)) (fun ok s₃=>
      if ok=true then wpAny (model prog w) A (eval elt env) (fun x s₄=>
       wpAny (model prog w) A (call (.builtin "list.append") [acc,x]) (fun _ s₅=>∃m,m<n/\I m s₅) zf s₄) zf s₃
      else ∃m,m<n/\I m s₃) zf s₂) zf s₁') zf s₁) zf s)
  (n:Nat) (h:I n s) :
  codeAny (model prog w) A (.compLoop (.ListComp elt [⟨target,iter,ifs,0⟩] scope pos) 0 it acc env) R s:=by
 refine codeAny_loop rfl I (fun n s hI=>?_) n h
 show wpAny _ A ((compTurn (.ListComp elt [⟨target,iter,ifs,0⟩] scope pos) 0 it acc env).onRaise (fun x=>do noteFrame x env;theTreesLotGoes x)) _ _ s
 refine wpAny_noted ?_
 rw [compTurn_list];have F:∀{Z:Value->Shared->Prop},∀(e:Value) (s:Shared),zf e s->Z e s:=fun _ _ x=>x.elim
 refine L1 (wpAny_standAt (L1 (wpAny_mono (turn n s hI) (fun r s₁ h₁=>?_) F)))
 cases r with
 | none=>exact L5 h₁
 | some v=>
  refine L1 (wpAny_mono h₁ (fun _ s₁' h₁'=>?_) F)
  refine L1 (wpAny_mono h₁' (fun _ s₂ h₂=>L1 (wpAny_mono h₂ (fun ok s₃ h₃=>?_) F)) F)
  cases ok with
  | false=>exact L5 ⟨rfl,h₃⟩
  | true=>
   exact L1 (L1 (wpAny_mono h₃ (fun x s₄ h₄=>L1 (wpAny_mono h₄ (fun _ s₅ h₅=>L5 (L5 ⟨rfl,h₅⟩)) F)) F))
end
def cM (env:Env):List (Str×NameKind)->List (Str×Addr)->List (Str×Addr)
 | [],acc=>acc
 | (n,k)::r,acc=>if k==.free then cM env r ((n,(env.cells.lookup n).getD 0)::acc) else cM env r acc
theorem Jd {env:Env}:∀(names:List (Str×NameKind)) (acc:List (Str×Addr)),(∀n,(n,NameKind.free)∈names->∃c,env.cells.lookup n=some c) ->
  (forIn names acc fun (x:Str×NameKind) (cs:List (Str×Addr))=>(match x with | (name,kind)=>if kind==.free then (do let a <-cellOf env name;pure (ForInStep.yield ((name,a)::cs))) else pure (ForInStep.yield cs):Sem (ForInStep (List (Str×Addr)))))=(pure (cM env names acc):Sem (List (Str×Addr)))
 | [],acc,_=>by rw [List.forIn_nil];rfl
 | (n,k)::r,acc,h=>by
  rw [List.forIn_cons];unfold cM;by_cases hk:(k==.free)=true
  ·simp only [hk,if_true]
   have hk':k=.free:=by simpa using hk
   obtain ⟨c,hc⟩:=h n (by rw [hk'];exact mem_cons_self)
   have e:cellOf env n=pure c:=by unfold cellOf;rw [hc]
   rw [e,hc];exact Jd r ((n,c)::acc) fun n' hn=>h n' (LX _ hn)
  ·rw [if_neg hk]
   simp only [hk]
   exact Jd r acc fun n' hn=>h n' (LX _ hn)
theorem fX {env:Env} {scope:Scope} (h:∀n,(n,NameKind.free)∈scope.names->∃c,env.cells.lookup n=some c):closureFor scope env=pure (cM env scope.names []):=by
 have:=Jd (env:=env) scope.names [] h
 unfold closureFor;rw [show (pure (cM env scope.names []):Sem (List (Str×Addr)))=(pure (cM env scope.names []) >>= fun x=>pure x) from rfl,<-this]
theorem Jl {env:Env} {x:Str} {c:Addr}:∀{names:List (Str×NameKind)} {acc:List (Str×Addr)},(∀n,(n,NameKind.free)∈names->∃c,env.cells.lookup n=some c)->(cM env names acc).lookup x=some c->env.cells.lookup x=some c\/acc.lookup x=some c
 | [],_,_,e=>.inr e
 | (n,k)::r,acc,h,e=>by
  unfold cM at e;have h':∀n',(n',NameKind.free)∈r->∃c,env.cells.lookup n'=some c:=fun n' hn=>h n' (LX _ hn)
  by_cases hk:(k==.free)=true
  ·rw [if_pos hk] at e
   rcases Jl h' e with q | q
   ·exact .inl q
   ·rw [lookup_cons] at q
    have hk':k=.free:=by simpa using hk
    obtain ⟨c',hc⟩:=h n (by rw [hk'];exact mem_cons_self)
    cases hx:x==n with
    | true=>
     rw [hx,hc] at q
     cases q;rw [eq_of_beq hx];exact .inl hc
    | false=>
     rw [hx] at q;exact .inr q
  ·rw [if_neg hk] at e
   exact Jl h' e
theorem DV {env:Env} {x:Str}:∀{names:List (Str×NameKind)} {acc:List (Str×Addr)},(x,NameKind.free)∈names\/(acc.lookup x).isSome=true->((cM env names acc).lookup x).isSome=true
 | [],_,h=>h.elim nofun id
 | (n,k)::r,acc,h=>by
  unfold cM;by_cases hk:(k==.free)=true
  ·rw [if_pos hk]
   refine DV (names:=r) ?_
   rcases h with h | h
   ·rcases LU h with e | h
    ·cases e
     exact .inr (by rw [lookup_cons];simp)
    ·exact .inl h
   ·right
    rw [lookup_cons]
    cases hx:x==n with
    | true=>rfl
    | false=>exact h
  ·rw [if_neg hk]
   refine DV (names:=r) ?_
   rcases h with h | h
   ·rcases LU h with e | h
    ·cases e
     exact absurd rfl hk
    ·exact .inl h
   ·exact .inr h
theorem EB {x:Str} {c:Addr}:∀{names:List (Str×NameKind)} {n:Nat} {acc:List (Str×Addr)},(cellsFrom n names acc).lookup x=some c->((x,NameKind.cell)∈names/\n<=c)\/acc.lookup x=some c
 | [],_,_,e=>.inr e
 | (y,k)::r,n,acc,e=>by
  unfold cellsFrom at e;by_cases hk:(k==.cell)=true
  ·rw [if_pos hk] at e
   have hk':k=.cell:=by simpa using hk
   rcases EB e with ⟨q,l⟩ | q
   ·exact .inl ⟨LX _ q,by omega⟩
   ·rw [lookup_cons] at q
    cases hx:x==y with
    | true=>
     rw [hx] at q
     cases q;exact .inl ⟨by rw [eq_of_beq hx,hk'];exact mem_cons_self,L7 _⟩
    | false=>
     rw [hx] at q;exact .inr q
  ·rw [if_neg hk] at e
   rcases EB e with ⟨q,l⟩ | q
   ·exact .inl ⟨LX _ q,l⟩
   ·exact .inr q
theorem Jn {x y:Str} {c:Addr}:∀{names:List (Str×NameKind)} {n:Nat} {acc:List (Str×Addr)},(∀z d,acc.lookup z=some d->d<n)->(∀x y d,acc.lookup x=some d->acc.lookup y=some d->x=y) ->
  (cellsFrom n names acc).lookup x=some c->(cellsFrom n names acc).lookup y=some c->x=y
 | [],_,_,_,hi,e,e'=>hi _ _ _ e e'
 | (z,k)::r,n,acc,hl,hi,e,e'=>by
  unfold cellsFrom at e e'
  by_cases hk:(k==.cell)=true
  ·rw [if_pos hk] at e e'
   refine Jn (names:=r) (n:=n+1) (acc:=(z,n)::acc) (fun a d q=>?_) (fun a b d q q'=>?_) e e'
   ·rw [lookup_cons] at q
    cases hx:a==z with
    | true=>rw [hx] at q;cases q;exact Nat.lt_succ_self _
    | false=>rw [hx] at q;exact Nat.lt_succ_of_lt (hl a d q)
   ·rw [lookup_cons] at q q'
    cases hx:a==z with
    | true=>
     rw [hx] at q
     cases q
     cases hy:b==z with
     | true=>rw [eq_of_beq hx,eq_of_beq hy]
     | false=>rw [hy] at q';exact absurd (hl b n q') (Nat.lt_irrefl _)
    | false=>
     rw [hx] at q
     cases hy:b==z with
     | true=>rw [hy] at q';cases q';exact absurd (hl a n q) (Nat.lt_irrefl _)
     | false=>rw [hy] at q';exact hi a b d q q'
  ·rw [if_neg hk] at e e'
   exact Jn hl hi e e'
theorem Je {env:Env} {x:Str} {c:Addr}:∀{names:List (Str×NameKind)} {acc:List (Str×Addr)},(cM env names acc).lookup x=some c->(x,NameKind.free)∈names\/acc.lookup x=some c
 | [],_,e=>.inr e
 | (n,k)::r,acc,e=>by
  unfold cM at e;by_cases hk:(k==.free)=true
  ·rw [if_pos hk] at e
   have hk':k=.free:=by simpa using hk
   rcases Je e with q | q
   ·exact .inl (LX _ q)
   ·rw [lookup_cons] at q
    cases hx:x==n with
    | true=>rw [eq_of_beq hx,hk'];exact .inl mem_cons_self
    | false=>rw [hx] at q;exact .inr q
  ·rw [if_neg hk] at e
   rcases Je e with q | q
   ·exact .inl (LX _ q)
   ·exact .inr q
theorem Hy {x:Str}:∀{names:List (Str×NameKind)} {n:Nat} {acc:List (Str×Addr)},(x,NameKind.cell)∈names\/(acc.lookup x).isSome=true->((cellsFrom n names acc).lookup x).isSome=true
 | [],_,_,h=>h.elim nofun id
 | (y,k)::r,n,acc,h=>by
  unfold cellsFrom;by_cases hk:(k==.cell)=true
  ·rw [if_pos hk]
   refine Hy (names:=r) ?_
   rcases h with h | h
   ·rcases LU h with e | h
    ·cases e
     exact .inr (by rw [lookup_cons];simp)
    ·exact .inl h
   ·right
    rw [lookup_cons]
    cases hx:x==y with
    | true=>rfl
    | false=>exact h
  ·rw [if_neg hk]
   refine Hy (names:=r) ?_
   rcases h with h | h
   ·rcases LU h with e | h
    ·cases e
     exact absurd rfl hk
    ·exact .inl h
   ·exact .inr h
theorem Ht {x:Str}:∀{names:List (Str×NameKind)} {n:Nat} {acc:List (Str×Addr)},(x,NameKind.cell)∉names->(cellsFrom n names acc).lookup x=acc.lookup x
 | [],_,_,_=>rfl
 | (y,k)::r,n,acc,h=>by
  unfold cellsFrom;have hr:(x,NameKind.cell)∉r:=fun z=>h (LX _ z)
  by_cases hk:(k==.cell)=true
  ·rw [if_pos hk,Ht hr,lookup_cons]
   have hk':k=.cell:=by simpa using hk
   cases hx:x==y with
   | true=>exact absurd (by rw [eq_of_beq hx,hk'];exact mem_cons_self) h
   | false=>rfl
  ·rw [if_neg hk]
   exact Ht hr
theorem Hz {x:Str} {c:Addr}:∀{names:List (Str×NameKind)} {n:Nat} {acc:List (Str×Addr)},(x,NameKind.cell)∈names->(cellsFrom n names acc).lookup x=some c->(cellsFrom n names []).lookup x=some c
 | [],_,_,h,_=>nomatch h
 | (y,k)::r,n,acc,h,e=>by
  unfold cellsFrom at e ⊢
  by_cases hk:(k==.cell)=true
  ·rw [if_pos hk] at e ⊢
   by_cases hr:(x,NameKind.cell)∈r
   ·have:∀{acc acc':List (Str×Addr)},(cellsFrom (n+1) r acc).lookup x=some c->(cellsFrom (n+1) r acc').lookup x=some c:=fun {a a'} q=>by
     have q0:=Hz hr q
     have hs:=Hy (n:=n+1) (acc:=a') (.inl hr)
     obtain ⟨c',hc'⟩:=Option.isSome_iff_exists.mp hs;have q1:=Hz hr hc'
     rw [q0] at q1
     cases q1;exact hc'
    exact this e
   ·rw [Ht hr] at e ⊢
    rw [lookup_cons] at e ⊢
    cases hx:x==y with
    | true=>rw [hx] at e;exact e
    | false=>
     rcases LU h with z | z
     ·cases z
      simp at hx
     ·exact absurd z hr
  ·rw [if_neg hk] at e ⊢
   rcases LU h with z | z
   ·cases z
    exact absurd rfl hk
   ·exact Hz z e
def blk (X:Cx) (scope:Scope) (cells:List (Str×Addr)) (C:Addr) (s₀:Shared) (H₀:Hp) (ex:List Addr):Cx where
 prog:=X.prog
 w:=X.w
 K:=X.K
 mg:=X.mg
 base:=X.base
 A:=X.A
 N:=X.N
 s₀:=s₀
 H₀:=H₀
 env:={ scope:=relabel scope X.env,locals:=C,globals:=X.env.globals,cells:=cells,qual:=X.env.qual,func:=none,code:=X.env.code,frame:=X.env.frame,builtins:=X.env.builtins }
 outer:=X.stack
 stack:=X.stack
 ex:=ex
 fn:=fun x=>scope.names.any fun y=>y.1==x&&y.2==.cell
 calm:=X.calm
 pn:=[]
 xe:=fun _ _=>False
structure d7 (N:List Str) (is:List Nat) (osc scope:Scope):Prop where
 kind:scope.kind=.function
 free:∀n,(n,NameKind.free)∈scope.names->osc.names.lookup n=some .cell\/osc.names.lookup n=some .free
 own:∀(i:Nat) (x:Str),N[i]?=some x->(x,NameKind.local)∈scope.names\/(x,NameKind.cell)∈scope.names->i∈is
 loc:∀x∈scope.names,x.2=.local->scope.names.lookup x.1=some .local
 one:∀n,(n,NameKind.free)∈scope.names->(n,NameKind.cell)∉scope.names
def bM (is:List Nat) (σ:St):St:=σ.mapIdx fun i v=>if i∈is then none else v
theorem Hh (is:List Nat) (σ:St):(bM is σ).length=σ.length:=by unfold bM;simp
theorem j2 {is:List Nat} {σ:St} {i:Nat} {v:V} (h:(bM is σ)[i]?=some (some v)):i∉is/\σ[i]?=some (some v):=by
 unfold bM at h;rw [List.getElem?_mapIdx] at h
 cases e:σ[i]? with
 | none=>rw [e] at h;cases h
 | some o=>
  rw [e] at h;simp only [Option.map_some,Option.some.injEq] at h
  by_cases hi:i∈is
  ·rw [if_pos hi] at h;cases h
  ·rw [if_neg hi] at h;exact ⟨hi,by rw [h]⟩
def Lp (σ0 σ2:St):Prop:=σ2.length=σ0.length/\∀(i:Nat) v,σ0[i]?=some (some v)->σ2[i]?=some (some v)
theorem iD {x:Str} {k:NameKind} {l:List (Str×NameKind)} (h:l.lookup x=some k):(x,k)∈l:=PySem.mem_of_lookup h
theorem D2 {scope:Scope} {env:Env} {x:Str} {k:NameKind} (h:(relabel scope env).names.lookup x=some k) :
  (x,k)∈scope.names\/((x,NameKind.free)∈scope.names/\k=.cell):=by
 have h:=iD h
 unfold relabel at h;obtain ⟨⟨n,k'⟩,hm,e⟩:=List.mem_map.mp h;dsimp only at e;by_cases hc:(k'==NameKind.free&&env.scope.kind==.function&&env.kindOf n==some .cell)=true
 ·rw [if_pos hc] at e
  cases e;have:k'=.free:=by
   simp only [Bool.and_eq_true,beq_iff_eq] at hc
   exact hc.1.1
  exact .inr ⟨this▸hm,rfl⟩
 ·rw [if_neg hc] at e
  cases e;exact .inl hm
def kc (X:Cx) (scope:Scope) (C:Addr):List (Str×Addr):=cellsFrom (C+1) scope.names (cM X.env scope.names [])
section
variable {X:Cx} {pins:List (Addr×Obj)} {σ:St} {H:Hp} {s:Shared} {scope:Scope} {is:List Nat}
theorem Inv.freeCells (I:Inv X pins σ H s) (S:d7 X.N is X.env.scope scope):∀n,(n,NameKind.free)∈scope.names->∃c,X.env.cells.lookup n=some c:=fun n hn=>
 I.ok.has n (S.free n hn)
theorem Inv.blkOld (I:Inv X pins σ H s) (S:d7 X.N is X.env.scope scope) {x:Str} {c:Addr} (h:(cM X.env scope.names []).lookup x=some c):X.env.cells.lookup x=some c:=by
 rcases Jl (I.freeCells S) h with q | q
 ·exact q
 ·cases q
theorem Inv.block {fp:List Addr} {t':Nat} (I:Inv X pins σ H s) (S:d7 X.N is X.env.scope scope) (hf:∀b∈fp,nG X pins H b) (hfs:∀b∈fp,b<s.heap.objs.size) :
  Inv (blk X scope (kc X scope (s.heap.objs.size+1)) (s.heap.objs.size+1) s H fp) [] (bM is σ) (cy H s.heap.objs.size (.lst []))
   { s with heap:=pushCells ((s.heap.push { cls:=.type "list",data:=.seq ([]:List Value).toArray }).push { cls:=.type "dict",data:=.dict #[] }) scope.names,toks:=t' }:=by
 generalize hC:s.heap.objs.size+1=C
 have hDn:H s.heap.objs.size=none:=I.hok.fresh (L7 _)
 have s1:(s.heap.push { cls:=.type "list",data:=.seq ([]:List Value).toArray }).objs.size=C:=by rw [Heap.size_push,hC]
 have kept:∀b o,s.heap.get? b=some o->(pushCells ((s.heap.push { cls:=.type "list",data:=.seq ([]:List Value).toArray }).push { cls:=.type "dict",data:=.dict #[] }) scope.names).get? b=some o:=
  fun b o e=>pushCells_keeps _ _ b o (L6 _ (L6 _ e))
 have cellsL:∀x c,(kc X scope C).lookup x=some c->((x,NameKind.cell)∈scope.names/\C+1<=c)\/X.env.cells.lookup x=some c:=fun x c e=>by
  rcases EB e with q | q
  ·exact .inl q
  ·exact .inr (I.blkOld S q)
 have oldLt:∀x c,X.env.cells.lookup x=some c->c<s.heap.objs.size:=fun x c e=>by
  obtain ⟨v,q⟩:=I.cell x c e;exact q.lt
 have cok:CellsOk (pushCells ((s.heap.push { cls:=.type "list",data:=.seq ([]:List Value).toArray }).push { cls:=.type "dict",data:=.dict #[] }) scope.names) (C+1)
   (cellsFrom (C+1) scope.names []):=by
  have:=cellsFrom_ok scope.names ((s.heap.push { cls:=.type "list",data:=.seq ([]:List Value).toArray }).push { cls:=.type "dict",data:=.dict #[] }) (C+1) [] ⟨fun _ _ hm=>(nomatch hm),List.Pairwise.nil⟩ (by rw [Heap.size_push,s1];exact L7 _)
  rw [Heap.size_push,s1] at this;exact this
 have lt1:∀{b:Nat},b<s.heap.objs.size->b≠C:=fun {b} h e=>by subst e;rw [<-hC] at h;exact absurd (Nat.lt_of_succ_lt h) (Nat.lt_irrefl _)
 have hDle:s.heap.objs.size<=C:=by rw [<-hC];exact Nat.le_succ _
 have cellAt:∀x c,(kc X scope C).lookup x=some c->(C<c/\(pushCells ((s.heap.push { cls:=.type "list",data:=.seq ([]:List Value).toArray }).push { cls:=.type "dict",data:=.dict #[] }) scope.names).IsCell c none)\/X.env.cells.lookup x=some c:=fun x c e=>by
  rcases cellsL x c e with ⟨q1,q2⟩ | q
  ·exact .inl ⟨q2,(cok.empty x c (PySem.mem_of_lookup (Hz q1 e))).1⟩
  ·exact .inr q
 refine ⟨⟨I.ok.mod,S.kind,I.ok.glob,I.ok.blt,hDle,?_,?_,?_,I.ok.hd,I.ok.frames,.inl rfl,?_,I.bs,Nat.le_trans I.ok.bsz I.sz,?_,?_,I.stack,I.stkFree⟩,rfl,I.bare,?_,?_,?_,?_,?_,fun p hp=>absurd (show p∈([]:List (Addr×Obj)) from hp) (by simp),?_,(Hh _ _).trans I.len⟩
 ·-- inj
  intro x y c hx hy;refine Jn (fun z d q=>?_) (fun a b d q q'=>I.ok.inj a b d (I.blkOld S q) (I.blkOld S q')) hx hy
  exact Nat.lt_succ_of_lt (Nat.lt_of_lt_of_le (oldLt z d (I.blkOld S q)) hDle)
 ·-- has
  intro x hx;have q:((kc X scope C).lookup x).isSome=true:=by
   refine Hy ?_
   have hx:(relabel scope X.env).names.lookup x=some .cell\/(relabel scope X.env).names.lookup x=some .free:=hx
   rcases hx with hx | hx
   ·rcases D2 hx with z | ⟨z,_⟩
    ·exact .inl z
    ·exact .inr (DV (.inl z))
   ·rcases D2 hx with z | ⟨z,_⟩
    ·exact .inr (DV (.inl z))
    ·exact .inr (DV (.inl z))
  exact Option.isSome_iff_exists.mp q
 ·-- cab
  intro x c hx e;have hx:(scope.names.any fun y=>y.1==x&&y.2==NameKind.cell)=true:=hx
  obtain ⟨y,hy,hz⟩:=List.any_eq_true.mp hx;simp only [Bool.and_eq_true,beq_iff_eq] at hz
  have hm:(x,NameKind.cell)∈scope.names:=by rw [<-hz.1,<-hz.2];exact hy
  rcases EB e with ⟨_,q⟩ | q
  ·exact Nat.le_trans hDle (Nat.le_of_succ_le q)
  ·rcases Je q with z | z
   ·exact absurd hm (S.one x z)
   ·cases z
 ·-- exf
  intro b hb;obtain ⟨f0,f1,f2,f3,f4,f5⟩:=hf b hb;refine ⟨lt1 (hfs b hb),fun x c e z=>?_⟩
  rcases cellsL x c e with ⟨_,q⟩ | q
  ·subst z
   exact absurd (Nat.lt_of_lt_of_le (hfs _ hb) hDle) (Nat.not_lt.mpr (Nat.le_of_succ_le q))
  ·exact f4 x c q z
 ·-- noex
  intro b o e hb;obtain ⟨f0,f1,f2,f3,f4,f5⟩:=hf b hb;rcases f3 with z | z
  ·exact I.ok.noex b o e z
  ·exact absurd (Nat.lt_of_lt_of_le (Heap.lt_size e) (Nat.le_trans I.ok.bsz z)) (Nat.lt_irrefl _)
 ·-- exfs
  intro b hb z;obtain ⟨f0,f1,f2,f3,f4,f5⟩:=hf b hb;rcases LU (I.stkSub b z) with e | e
  ·exact f1 e
  ·exact f2 e
 ·-- base
  exact Un.laid kept (L7 _) hDn
 ·-- loc
  refine ⟨fun _=>none,?_,fun i x v e1 e2 e3=>?_⟩
  ·have:=(Heap.Ns.new (s.heap.push { cls:=.type "list",data:=.seq ([]:List Value).toArray }) (.type "dict")).keeps (pushCells_keeps scope.names _)
   rw [s1] at this;exact this
  ·obtain ⟨hni,e2'⟩:=j2 e2
   obtain ⟨m,hn,hl⟩:=id I.loc;have hfree:(x,NameKind.free)∈scope.names:=by
    have e3:(relabel scope X.env).names.lookup x=some .local\/(relabel scope X.env).names.lookup x=some .cell\/(relabel scope X.env).names.lookup x=some .free:=e3
    rcases e3 with z | z | z
    ·rcases D2 z with y | ⟨y,_⟩
     ·exact absurd (S.own i x e1 (.inl y)) hni
     ·exact y
    ·rcases D2 z with y | ⟨y,_⟩
     ·exact absurd (S.own i x e1 (.inr y)) hni
     ·exact y
    ·rcases D2 z with y | ⟨y,_⟩
     ·exact y
     ·exact y
   have hk:=S.free x hfree
   obtain ⟨u,r,l⟩:=hl i x v e1 e2' (.inr hk)
   refine ⟨u,r,?_⟩
   rcases l with ⟨k,_⟩ | ⟨k,c,e,z⟩
   ·have k:X.env.scope.names.lookup x=some .local:=k
    rcases hk with q | q<;>(rw [q] at k;cases k)
   ·refine .inr ⟨?_,c,?_,z.keeps kept⟩
    ·have e3:(relabel scope X.env).names.lookup x=some .local\/(relabel scope X.env).names.lookup x=some .cell\/(relabel scope X.env).names.lookup x=some .free:=e3
     rcases e3 with y | y | y
     ·rcases D2 y with y' | ⟨_,y'⟩
      ·exact absurd (S.own i x e1 (.inl y')) hni
      ·cases y'
     ·exact .inl y
     ·exact .inr y
    ·have q:=DV (env:=X.env) (acc:=[]) (.inl hfree)
     obtain ⟨c',hc'⟩:=Option.isSome_iff_exists.mp q;have:=I.blkOld S hc'
     rw [e] at this
     cases this;show (kc X scope C).lookup x=some c
     unfold kc;rw [Ht (S.one x hfree)];exact hc'
 ·-- cell
  intro x c e;rcases cellAt x c e with ⟨_,q⟩ | q
  ·exact ⟨_,q⟩
  ·obtain ⟨v,z⟩:=I.cell x c q
   exact ⟨v,z.keeps kept⟩
 ·-- free
  show cy H s.heap.objs.size (.lst []) C=none
  rw [gf (by rw [<-hC];exact Nat.ne_of_gt (Nat.lt_succ_self _))]
  exact I.hok.fresh hDle
 ·-- freeC
  intro x c e;show cy H s.heap.objs.size (.lst []) c=none
  rcases cellAt x c e with ⟨q,_⟩ | q
  ·have hc:s.heap.objs.size<c:=Nat.lt_of_le_of_lt hDle q
   rw [gf (Nat.ne_of_gt hc)];exact I.hok.fresh (Nat.le_of_lt hc)
  ·rw [gf (Nat.ne_of_lt (oldLt x c q))]
   exact I.freeC x c q
 ·-- hok
  exact I.hok.laid kept (L7 _) ⟨Nat.zero_le _,[],0,.nil,pushCells_keeps _ _ _ _ (L6 _ (Heap.get?_push_size _ rfl))⟩
end
section
variable {M:Model} {A:Around} {E:Value->Shared->Prop} {s:Shared}
theorem ji {scope:Scope} {globals:Addr} {cl:List (Str×Addr)} {qual:Str} {env:Env} {Q:Env->Shared->Prop}
  (hQ:Q (newEnv scope s.heap.objs.size globals (cellsFrom (s.heap.objs.size+1) scope.names cl) qual none .none (some env) builtinsNs) { s with heap:=pushCells (s.heap.push { cls:=.type "dict",data:=.dict #[] }) scope.names }) :
  wpAny M A (newFunctionEnv scope globals cl [] qual none .none (some env)) Q E s:=by
 simp only [newFunctionEnv,Option.isSome_some,if_true]
 refine L1 (wpAny_alloc ?_)
 refine L1 (wpAny_layCells _ (fun name kind cells=>by cases hkc:kind==NameKind.cell<;>simp [hkc]) _ _ _ _ ?_)
 rw [show ({ s with heap:=s.heap.push { cls:=.type "dict",data:=.dict #[] } }:Shared).heap.objs.size=s.heap.objs.size+1 from Heap.size_push ..]
 rw [List.forIn_nil];exact L1 (L5 (L5 hQ))
end
def PF (X:Cx) (ifs:List Expr) (t:TT):Prop:=
 ∀(pins:List (Addr×Obj)) (s:Shared) (σ:St) (H:Hp) (Q:Bool->Hp->Prop),Inv X pins σ H s->t σ H Q ->
  wpAny (model X.prog X.w) X.A (forIn ifs true fun c r=>if r=true then do let ok <-isTrue c X.env (eval c X.env);pure (ForInStep.yield ok) else pure (ForInStep.yield r)) (TP X pins σ Q) X.xe s
def ER:TT:=fun _ H Q=>Q true H
theorem Ce {X:Cx}:PF X [] ER:=fun pins s σ H Q I h=>wpAny_tests_nil ⟨H,I,h⟩
theorem Cd {X:Cx} {c:Expr} {t:TT} (h:PT X c t):PF X [c] t:=fun pins s σ H Q I q=>wpAny_tests_one (h pins s σ H Q I q)
def pF (is:List Nat) (wi:TI) (g:TG) (tc:TT) (te:TE):TE:=fun σ H Q=>wi σ H fun J H1=>∀D,H1 D=none->∃W:Nat->Nat->List V->Hp->Prop,(∃m,W 0 m [] (cy H1 D (.lst [])))/\∀k m ys H,W k m ys H ->
 H D=some (.lst ys)/\((J.stop k H/\Q (.ref D) H)\/(J.go k H/\ys.length<sizeLine/\∀x H',J.yld k H x H'->g x (bM is σ) H' fun σ2 H2=>Lp (bM is σ) σ2/\tc σ2 H2 fun b H3=>
  if b=true then te σ2 H3 fun v H4=>H4 D=some (.lst ys)/\∃m',m'<m/\W (k+1) m' (ys++[v]) (cy H4 D (.lst (ys++[v]))) else ∃m',m'<m/\W (k+1) m' ys H3))
section
variable {X:Cx} {scope:Scope} {is:List Nat} {tg iter elt:Expr} {ifs:List Expr} {wi:TI} {g:TG} {tc:TT} {te:TE} {pos:Pos}
theorem jY {pins:List (Addr×Obj)} {s:Shared} {σ:St} {H:Hp} {Q:VK} {RR:Value->Addr->Result->Shared->Prop} (S:d7 X.N is X.env.scope scope) (hcalm:X.calm=true) (hi:PI X tg iter wi)
  (hg:∀cells C s₀ H₀ ex,PG (blk X scope cells C s₀ H₀ ex) tg g) (hc:∀cells C s₀ H₀ ex,PF (blk X scope cells C s₀ H₀ ex) ifs tc) (he:∀cells C s₀ H₀ ex,PE (blk X scope cells C s₀ H₀ ex) elt te)
  (I:Inv X pins σ H s) (h:pF is wi g tc te σ H Q)
  (hRR:∀D C s' H' m,Inv X pins σ H' s'->s'.heap.Ns C m->Q (.ref D) H'->H' C=none->C≠X.env.locals->X.s₀.heap.objs.size<=C->(∀x c,X.env.cells.lookup x=some c->c≠C)->(∀p∈X.pn++pins,p.1≠C)->RR (.ref D) C (.ok .next) s') :
  wpAny (model X.prog X.w) X.A (eval iter X.env) (fun x s₁=>wpAny (model X.prog X.w) X.A (pyIter x) (fun it s₂=>wpAny (model X.prog X.w) X.A (newList []) (fun acc s₃=>
   wpAny (model X.prog X.w) X.A (newFunctionEnv scope X.env.globals (cM X.env scope.names []) [] X.env.qual none .none (some X.env)) (fun cenv s₄=>
    codeAny (model X.prog X.w) X.A (.compStart (.ListComp elt [⟨tg,iter,ifs,0⟩] scope pos) 0 it acc { cenv with scope:=relabel scope X.env }) (RR acc cenv.locals) s₄) X.xe s₃) X.xe s₂) X.xe s₁) X.xe s:=by
 refine bK (hi pins s σ H _ I h) fun v s1 h1=>bK h1 fun itv s2 h2=>?_
 obtain ⟨it,fp,tn,J,H2,e,I2,T,st2,f2,hW⟩:=h2;subst e;obtain ⟨W,⟨m0,w0⟩,turn⟩:=hW s2.heap.objs.size (I2.hok.fresh (L7 _));refine wpAny_newObj_type (ji ?_)
 have s1:(s2.heap.push { cls:=.type "list",dict:=none,data:=.seq ([]:List Value).toArray }).objs.size=s2.heap.objs.size+1:=by rw [Heap.size_push]
 dsimp only;rw [s1];have hfs:∀b∈fp,b<s2.heap.objs.size:=fun b hb=>by
  obtain ⟨o,e,_⟩:=T.obj 0 _ st2 b hb;exact Heap.lt_size e
 have I4:=I2.block (t':=s2.toks) S f2 hfs
 generalize hCC:s2.heap.objs.size+1=C at I4 ⊢
 have hDC:s2.heap.objs.size<C:=by rw [<-hCC];exact Nat.lt_succ_self _
 have Hg:=hg (kc X scope C) C s2 H2 fp
 have Hc:=hc (kc X scope C) C s2 H2 fp
 have He:=he (kc X scope C) C s2 H2 fp
 have Ha:=IZ (X:=blk X scope (kc X scope C) C s2 H2 fp)
 have hYcell:∀x c,(blk X scope (kc X scope C) C s2 H2 fp).env.cells.lookup x=some c->s2.heap.objs.size<=c\/X.env.cells.lookup x=some c:=fun x c e=>by
  have e:(cellsFrom (C+1) scope.names (cM X.env scope.names [])).lookup x=some c:=e
  rcases EB e with ⟨_,q⟩ | q
  ·exact .inl (Nat.le_trans (Nat.le_of_lt hDC) (Nat.le_of_succ_le q))
  ·exact .inr (I2.blkOld S q)
 have FY:∀{H':Hp},(∀b∈fp,H' b=none)->∀b∈fp,nG (blk X scope (kc X scope C) C s2 H2 fp) [] H' b:=fun {H'} hn b hb=>by
  obtain ⟨f0,f1,f3,f4,f5,f6⟩:=f2 b hb;refine ⟨hn b hb,Nat.ne_of_lt (Nat.lt_trans (hfs b hb) hDC),fun z=>?_,.inl hb,fun x c e z=>?_,fun p hp=>absurd (show p∈([]:List (Addr×Obj)) from hp) (by simp)⟩
  ·rcases LU (I2.stkSub b z) with e | e
   ·exact f1 e
   ·exact f3 e
  ·rcases hYcell x c e with q | q
   ·rw [z] at q
    exact absurd (Nat.lt_of_lt_of_le (hfs b hb) q) (Nat.lt_irrefl _)
   ·exact f5 x c q z
 have hCx:∀x c,X.env.cells.lookup x=some c->c≠C:=fun x c e z=>by
  obtain ⟨v,q⟩:=I2.cell x c e;have:=q.lt
  rw [z] at this;exact absurd (Nat.lt_trans this hDC) (Nat.lt_irrefl _)
 have hCp:∀p∈X.pn++pins,p.1≠C:=fun p hp z=>by
  have:=Heap.lt_size (I2.pin p hp).1
  rw [z] at this;exact absurd (Nat.lt_trans this hDC) (Nat.lt_irrefl _)
 have out:∀{σ':St} {H':Hp} {s':Shared},Inv (blk X scope (kc X scope C) C s2 H2 fp) [] σ' H' s'->Inv X pins σ H' s':=fun {σ' H' s'} J=>
  I2.call' (ch:=fp) J.os J.base J.hok J.bare fun b hb=>by
   obtain ⟨f0,f1,f3,f4,f5,f6⟩:=f2 b hb;exact ⟨f4,f1,f5,f6⟩
 have loop:∀s₃:Shared,s₃={ s2 with heap:=pushCells ((s2.heap.push { cls:=.type "list",data:=.seq ([]:List Value).toArray }).push { cls:=.type "dict",data:=.dict #[] }) scope.names } ->
   codeAny (model X.prog X.w) X.A (.compLoop (.ListComp elt [⟨tg,iter,ifs,0⟩] scope pos) 0 (.ref it) (.ref s2.heap.objs.size) (blk X scope (kc X scope C) C s2 H2 fp).env) (RR (.ref s2.heap.objs.size) C) s₃:=by
  rintro s₃ rfl
  refine kW (fun n s'=>∃k ys H',Inv (blk X scope (kc X scope C) C s2 H2 fp) [] (bM is σ) H' s'/\tn k s'.heap/\(∀b∈fp,H' b=none)/\W k n ys H') ?_ m0
   ⟨0,[],_,I4,T.keep 0 _ _ st2 fun b _ o e=>pushCells_keeps _ _ b o (L6 _ (L6 _ e)),fun b hb=>by rw [gf (Nat.ne_of_lt (hfs b hb))];exact (f2 b hb).1,w0⟩
  rintro n s3 ⟨k,ys,H3,I3,st3,fr3,w3⟩
  obtain ⟨hD3,hcase⟩:=turn k n ys H3 w3;rcases hcase with ⟨stop,qn⟩ | ⟨go,hlen,step⟩
  ·refine bK (T.done (blk X scope (kc X scope C) C s2 H2 fp) rfl rfl rfl hcalm k [] s3 (bM is σ) H3 zf I3 (FY fr3) st3 stop) fun r s4 ⟨hr,I4⟩=>?_
   subst hr;obtain ⟨m,hn,_⟩:=id I4.loc;exact hRR _ C s4 H3 m (out I4) hn qn I4.free (fun z=>Nat.lt_irrefl _ (Nat.lt_trans (Nat.lt_of_lt_of_eq hDC z) I2.lt)) (Nat.le_trans I2.sz (Nat.le_of_lt hDC)) hCx hCp
  ·refine bK (T.item (blk X scope (kc X scope C) C s2 H2 fp) rfl rfl rfl hcalm k [] s3 (bM is σ) H3 zf I3 (FY fr3) st3 go) fun r s4 ⟨u,hr,h4⟩=>?_
   subst hr;refine bK h4 fun _ s5 ⟨x,H5,I5,r5,y5,st5,fr5⟩=>?_
   have I5':=I5.pinned (FY fr5) (T.obj _ _ st5)
   refine bK (Hg _ s5 (bM is σ) H5 x u _ I5' r5 (step x H5 y5)) fun _ s6 ⟨σ6,H6,I6,le6,q6⟩=>?_
   refine bK (Hc _ s6 σ6 H6 _ I6 q6) fun ok s7 ⟨H7,I7,q7⟩=>?_
   have again:∀{H8:Hp} {s8:Shared} {ys':List V},Inv (blk X scope (kc X scope C) C s2 H2 fp) ([]++Em fp s5.heap) σ6 H8 s8->(∃m',m'<n/\W (k+1) m' ys' H8) ->
     ∃m,m<n/\∃k ys H',Inv (blk X scope (kc X scope C) C s2 H2 fp) [] (bM is σ) H' s8/\tn k s8.heap/\(∀b∈fp,H' b=none)/\W k m ys H':=fun {H8 s8 ys'} I8 ⟨m',hm,w8⟩=>by
    refine ⟨m',hm,k+1,ys',H8,(I8.weak le6.1.symm le6.2).unpinned,T.keep _ _ _ st5 fun b hb o e=>(I8.pin (b,o) (LP _ (LP _ (Hv hb e)))).1,fun b hb=>?_,w8⟩
    obtain ⟨o,e,d⟩:=T.obj _ _ st5 b hb;exact (I8.pin (b,o) (LP _ (LP _ (Hv hb e)))).2.1
   cases ok with
   | false=>
    rw [if_neg Bool.false_ne_true] at q7;exact again I7 q7
   | true=>
    rw [if_pos rfl] at q7;refine bK (He _ s7 σ6 H7 _ I7 q7) fun y s8 ⟨v8,H8,I8,r8,q8⟩=>?_
    obtain ⟨hD8,q8⟩:=q8;refine bK (Ha _ s8 σ6 H8 (.ref s2.heap.objs.size) [v8] (.ref s2.heap.objs.size) [y] (fun _ H9=>∃m',m'<n/\W (k+1) m' (ys++[v8]) H9) I8 rfl (.cons r8 .nil) ⟨_,ys,v8,rfl,rfl,hD8,hlen,q8⟩) fun _ s9 ⟨_,H9,I9,_,q9⟩=>?_
    exact again I9 q9
 exact codeAny_compStart_list (loop _ rfl) (T.self X.A 0 _ _ _ (T.keep 0 _ _ st2 fun b _ o e=>pushCells_keeps _ _ b o (L6 _ (L6 _ e))) (loop _ rfl))
theorem xZ (S:d7 X.N is X.env.scope scope) (hcalm:X.calm=true) (hi:PI X tg iter wi)
  (hg:∀cells C s₀ H₀ ex,PG (blk X scope cells C s₀ H₀ ex) tg g) (hc:∀cells C s₀ H₀ ex,PF (blk X scope cells C s₀ H₀ ex) ifs tc) (he:∀cells C s₀ H₀ ex,PE (blk X scope cells C s₀ H₀ ex) elt te)
  (hs:∀x,foldedSetIterable iter X.env x=pure x:=by intro _;rfl):PE X (.ListComp elt [⟨tg,iter,ifs,0⟩] scope pos) (pF is wi g tc te):=by
 intro pins s σ H Q I h;rw [eval_ListComp];refine wpAny_comprehension_free (use:=none) rfl hs (fX (I.freeCells S)) S.kind S.loc (jY (RR:=fun acc C=>compPost (model X.prog X.w) X.A X.xe none (EP X pins σ Q) acc C) S hcalm hi hg hc he I h ?_)
 intro D C s' H' m I' hn q n1 n2 n3 n4 n5
 refine ⟨m,hn,fun h' hs'=>?_⟩
 exact ⟨.ref D,H',I'.turned (t':=s'.toks) (fun b o hb e=>(hs'.2 b hb).trans e) n1 n2 (.inr n3) n4 n5,rfl,q⟩
theorem oh {i:Nat} {y:Str} {pos' spos:Pos} (hN:X.N.Nodup) (hy:X.N[i]?=some y) (hl:X.env.scope.names.lookup y=some .local) (S:d7 X.N is X.env.scope scope) (hcalm:X.calm=true) (hi:PI X tg iter wi)
  (hg:∀cells C s₀ H₀ ex,PG (blk X scope cells C s₀ H₀ ex) tg g) (hc:∀cells C s₀ H₀ ex,PF (blk X scope cells C s₀ H₀ ex) ifs tc) (he:∀cells C s₀ H₀ ex,PE (blk X scope cells C s₀ H₀ ex) elt te)
  (hsw:swapsWith (.ListComp elt [⟨tg,iter,ifs,0⟩] scope pos) (some (.Name y pos')) spos.line X.env=pure true)
  (hs:∀x,foldedSetIterable iter X.env x=pure x:=by intro _;rfl):PS X (.Assign [.Name y pos'] (.ListComp elt [⟨tg,iter,ifs,0⟩] scope pos) spos) (fun D σ H=>pF is wi g tc te σ H fun v H'=>D.nx (σ.set i (some v)) H'):=by
 intro pins s σ H Ds I h;rw [exec_Assign_Name_used _ _ _ _ hsw];refine L1 (wpAny_standAt (L1 ?_))
 show wpAny _ X.A (do let _ <-comprehension (.ListComp elt [⟨tg,iter,ifs,0⟩] scope pos) scope X.env _ (newList []) false (eval iter X.env) (some (assign (.Name y pos') X.env))) _ _ s
 refine L1 (wpAny_mono (wpAny_comprehension_free (use:=some (assign (.Name y pos') X.env)) (Q:=fun _ s'=>SP X pins Ds .next s') rfl hs (fX (I.freeCells S)) S.kind S.loc
  (jY (RR:=fun acc C=>compPost (model X.prog X.w) X.A X.xe (some (assign (.Name y pos') X.env)) (fun _ s'=>SP X pins Ds .next s') acc C) S hcalm hi hg hc he I h ?_)) (fun _ s' hq=>L5 (L5 hq)) fun _ _ e=>e)
 intro D C s' H' m I' hn q n1 n2 n3 n4 n5
 show wpAny _ X.A (assign (.Name y pos') X.env (.ref D)) _ _ _
 refine wpAny_assign_Name (jJ (v:=.ref D) I' hN hy (.inl hl) rfl (fun s'' I'' hch=>?_) (.inr hl))
 obtain ⟨a,hsb,ha⟩:=hch;have hCa:C≠a:=by
  rcases ha with e | e
  ·rw [e];exact n2
  ·exact (n4 y a e).symm
 refine ⟨m,hn.sameBut hsb hCa,fun h' hs'=>?_⟩
 exact ⟨_,H',I''.turned (t':=s''.toks) (fun b o hb e=>(hs'.2 b hb).trans e) n1 n2 (.inr n3) n4 n5,q⟩
end
end L2
namespace T
open PySem PySem.Spec L2
open PyProof.Rows hiding St
abbrev D:=PyData
inductive Rep (K:Fg) (H:Hp):V->D->Prop where
 | non:Rep K H .non .none
 | bl (b:Bool):Rep K H (.bl b) (.bool b)
 | int (i:Int):Rep K H (.int i) (.int i)
 | str (x:Str):Rep K H (.str x) (.str x)
 | lst {p:Addr} {vs:List V} {ds:List D}:SqL K H p vs->vs.length=ds.length->(∀(i:Nat) v d,vs[i]?=some v->ds[i]?=some d->Rep K H v d)->Rep K H (.ref p) (.list ds)
 | tup {p:Addr} {vs:List V} {ds:List D}:SqT K H p vs->vs.length=ds.length->(∀(i:Nat) v d,vs[i]?=some v->ds[i]?=some d->Rep K H v d)->Rep K H (.ref p) (.tuple ds)
theorem iR {K:Fg} {H H':Hp} {a:Addr} {xs:List V} (e:Same H H') (h:SqT K H a xs):SqT K H' a xs:=by
 rcases h with (h | ⟨o,h⟩) | h
 ·exact .inl (.inl (e _ _ h))
 ·exact .inl (.inr ⟨o,e _ _ h⟩)
 ·exact .inr h
theorem Rep.mono {K:Fg} {H H':Hp} {v:V} {d:D} (e:Same H H') (h:Rep K H v d):Rep K H' v d:=by
 induction h with
 | non=>exact .non
 | bl b=>exact .bl b
 | int i=>exact .int i
 | str x=>exact .str x
 | lst hs hl _ ih=>exact .lst (e.seq hs) hl ih
 | tup hs hl _ ih=>exact .tup (iR e hs) hl ih
def Reps (K:Fg) (H:Hp) (vs:List V) (ds:List D):Prop:=vs.length=ds.length/\∀(i:Nat) v d,vs[i]?=some v->ds[i]?=some d->Rep K H v d
def cY (H:Hp) (O:List Addr):Hp:=fun a=>if a∈O then none else H a
theorem hid_le {H:Hp} {O:List Addr}:Same (cY H O) H:=fun b o h=>by
 unfold cY at h;split at h
 ·cases h
 ·exact h
theorem En {H:Hp} {O:List Addr} {a:Addr} {o:HO} (h:H a=some o) (n:a∉O):cY H O a=some o:=by
 unfold cY;rw [if_neg n];exact h
theorem xk {H H':Hp} {O O':List Addr} (e:Same H H') (h:∀a∈O',a∈O\/H a=none):Same (cY H O) (cY H' O'):=fun b o q=>by
 unfold cY at q ⊢
 split at q
 ·cases q
 ·rename_i hn
  have hb:b∉O':=fun z=>(h b z).elim hn fun z=>by rw [z] at q;cases q
  rw [if_neg hb];exact e b o q
theorem GZ {H:Hp} {O:List Addr} {p:Addr} {o:HO} (h:p∈O):cY (cy H p o) O=cY H O:=by
 funext b
 unfold cY;split
 ·rfl
 ·rename_i hb
  exact gf fun e=>hb (e▸h)
theorem Eo {H:Hp}:cY H []=H:=by
 funext b;unfold cY;simp
theorem kd {H:Hp} {p:Addr} {o:HO} (h:H p=none):Same H (cy H p o):=fun b u e=>by
 rw [gf (xi e h)];exact e
inductive Sh where
 | view | leaf | lst (s:Sh) | tup (ss:List Sh)
def Sh.isView:Sh->Bool
 | .view=>true
 | _=>false
inductive Own (K:Fg) (O:List Addr) (H:Hp):Sh->List Addr->V->D->Prop where
 | view {v d}:Rep K H v d->Own K O H .view [] v d
 | leaf {v d}:Rep K (cY H O) v d->Own K O H .leaf [] v d
 | lst {s:Sh} {p:Addr} {vs:List V} {ds:List D} {Fs:List (List Addr)}:s.isView=false->H p=some (.lst vs)->vs.length=ds.length->Fs.length=ds.length->(p::Fs.flatten).Nodup ->
   (∀(i:Nat) v d F,vs[i]?=some v->ds[i]?=some d->Fs[i]?=some F->Own K O H s F v d)->Own K O H (.lst s) (p::Fs.flatten) (.ref p) (.list ds)
 | tup {ss:List Sh} {p:Addr} {vs:List V} {ds:List D} {Fs:List (List Addr)}:(∀s∈ss,s.isView=false)->H p=some (.tup vs)->p∉O->vs.length=ds.length->Fs.length=ds.length->ss.length=ds.length->Fs.flatten.Nodup ->
   (∀(i:Nat) v d F s,vs[i]?=some v->ds[i]?=some d->Fs[i]?=some F->ss[i]?=some s->Own K O H s F v d)->Own K O H (.tup ss) Fs.flatten (.ref p) (.tuple ds)
theorem Own.mono {K:Fg} {O O':List Addr} {H H':Hp} {s:Sh} {G:List Addr} {v:V} {d:D} (h:Own K O H s G v d) (e:Same H H') (hO:∀a∈O',a∈O\/H a=none):Own K O' H' s G v d:=by
 induction h with
 | view r=>exact .view (r.mono e)
 | leaf r=>exact .leaf (r.mono (xk e hO))
 | lst hv hp hl hf nd _ ih=>exact .lst hv (e _ _ hp) hl hf nd fun i v d F h1 h2 h3=>ih i v d F h1 h2 h3
 | tup hv hp hn hl hf hs nd _ ih=>exact .tup hv (e _ _ hp) (fun z=>(hO _ z).elim hn fun z=>by rw [z] at hp;cases hp) hl hf hs nd fun i v d F s h1 h2 h3 h4=>ih i v d F s h1 h2 h3 h4
theorem Own.rep {K:Fg} {O:List Addr} {H:Hp} {s:Sh} {G:List Addr} {v:V} {d:D} (h:Own K O H s G v d):Rep K H v d:=by
 induction h with
 | view r=>exact r
 | leaf r=>exact r.mono hid_le
 | lst hv hp hl hf _ q ih=>
  refine .lst (.of hp) hl fun i v d h1 h2=>?_
  rename_i Fs _;obtain ⟨F,hF⟩:∃F,Fs[i]?=some F:=by
   have:=(L0 h2).1
   exact ⟨Fs[i]'(by omega),LV _⟩
  exact ih i v d F h1 h2 hF
 | tup hv hp hn hl hf hs _ q ih=>
  refine .tup (.of hp) hl fun i v d h1 h2=>?_
  rename_i ss _ _ _ Fs _;have hi:=(L0 h2).1
  exact ih i v d (Fs[i]'(by omega)) (ss[i]'(by omega)) h1 h2 (LV _) (LV _)
theorem iU {Fs:List (List Addr)} {i:Nat} {F:List Addr} {a:Addr} (h:Fs[i]?=some F) (ha:a∈F):a∈Fs.flatten:=List.mem_flatten.mpr ⟨F,mem_of_getElem? h,ha⟩
theorem Own.freeze {K:Fg} {O O':List Addr} {H:Hp} {s:Sh} {G:List Addr} {v:V} {d:D} (h:Own K O H s G v d) (hs:s.isView=false) (h1:∀a∈O',a∈O) (h2:∀a∈G,a∉O'):Rep K (cY H O') v d:=by
 induction h with
 | view r=>cases hs
 | leaf r=>exact r.mono (xk (Same.refl _) fun a z=>.inl (h1 a z))
 | lst hv hp hl hf _ q ih=>
  refine .lst (.of (En hp (h2 _ mem_cons_self))) hl fun i v d e1 e2=>?_
  rename_i Fs _;obtain ⟨F,hF⟩:∃F,Fs[i]?=some F:=by
   have:=(L0 e2).1
   exact ⟨Fs[i]'(by omega),LV _⟩
  exact ih i v d F e1 e2 hF hv fun a ha=>h2 a (LX _ (iU hF ha))
 | tup hv hp hn hl hf hs' _ q ih=>
  refine .tup (.of (En hp fun z=>hn (h1 _ z))) hl fun i v d e1 e2=>?_
  rename_i ss _ _ _ Fs _;have hi:=(L0 e2).1
  have e3:Fs[i]?=some (Fs[i]'(by omega)):=LV _
  exact ih i v d _ (ss[i]'(by omega)) e1 e2 e3 (LV _) (hv _ (getElem_mem _)) fun a ha=>h2 a (iU e3 ha)
theorem Own.mut {K:Fg} {O:List Addr} {H:Hp} {s:Sh} {G:List Addr} {v:V} {d:D} {p:Addr} {o:HO} {xs:List V} (h:Own K O H s G v d) (hs:s.isView=false) (hp:p∈O) (hg:p∉G) (hl:H p=some (.lst xs)):Own K O (cy H p o) s G v d:=by
 induction h with
 | view r=>cases hs
 | leaf r=>refine .leaf ?_;rw [GZ hp];exact r
 | lst hv hq hl' hf nd q ih=>
  refine .lst hv ?_ hl' hf nd fun i v d F e1 e2 e3=>ih i v d F e1 e2 e3 hv fun z=>hg (LX _ (iU e3 z))
  rw [gf (fun z=>hg (by rw [<-z];exact mem_cons_self))]
  exact hq
 | tup hv hq hn hl' hf hs' nd q ih=>
  refine .tup hv ?_ hn hl' hf hs' nd fun i v d F s e1 e2 e3 e4=>ih i v d F s e1 e2 e3 e4 (hv _ (mem_of_getElem? e4)) fun z=>hg (iU e3 z)
  rw [gf (fun z=>by rw [z,hl] at hq;cases hq)]
  exact hq
inductive Sc:V->D->Prop where
 | non:Sc .non .none
 | bl (b:Bool):Sc (.bl b) (.bool b)
 | int (i:Int):Sc (.int i) (.int i)
 | str (x:Str):Sc (.str x) (.str x)
theorem Sc.rep {K:Fg} {H:Hp} {v:V} {d:D} (h:Sc v d):Rep K H v d:=by cases h<;>constructor
def bz:D->Bool
 | .list _=>false
 | .tuple _=>false
 | .dict _=>false
 | _=>true
theorem Rep.sc {K:Fg} {H:Hp} {v:V} {d:D} (h:Rep K H v d) (s:bz d=true):Sc v d:=by
 cases h with
 | non=>exact .non
 | bl b=>exact .bl b
 | int i=>exact .int i
 | str x=>exact .str x
 | lst _ _ _=>cases s
 | tup _ _ _=>cases s
structure PV where
 s:Sh
 d:D
abbrev Ev:=List (Option PV)
@[simp] abbrev L9 (d:PySem.PyData):Option PV:=some ⟨.leaf,d⟩
inductive Out (α:Type) where
 | ok (a:α) (e:Ev)
 | er (c:Str) (e:Ev)
 | no
def Out.bind {α β:Type} (x:Out α) (k:α->Ev->Out β):Out β:=match x with
 | .ok a e=>k a e
 | .er c e=>.er c e
 | .no=>.no
structure EnvOk (K:Fg) (He:Hp) (O:List Addr) (Fs:List (List Addr)) (H:Hp) (σ:St) (Γ:Ev):Prop where
 len1:σ.length=Γ.length
 len2:Fs.length=Γ.length
 same:Same He H
 nd:(O++Fs.flatten).Nodup
 inH:∀a∈O++Fs.flatten,H a≠none
 fresh:∀a∈Fs.flatten,He a=none
 slot:∀(i:Nat) (p:PV),Γ[i]?=some (some p)->p.s.isView=false/\∃v F,σ[i]?=some (some v)/\Fs[i]?=some F/\Own K (O++Fs.flatten) H p.s F v p.d
section
variable {K:Fg} {He H H':Hp} {O O' G:List Addr} {Fs:List (List Addr)} {σ:St} {Γ:Ev}
theorem EnvOk.grow (h:EnvOk K He O Fs H σ Γ) (e:Same H H'):EnvOk K He O Fs H' σ Γ:=
 ⟨h.len1,h.len2,h.same.trans e,h.nd,fun a ha z=>h.inH a ha (e.free z),h.fresh,fun i p q=>let ⟨a,v,F,b,c,d⟩:=h.slot i p q;⟨a,v,F,b,c,d.mono e fun _ z=>.inl z⟩⟩
theorem EnvOk.drop (h:EnvOk K He O Fs H σ Γ) (hs:∀a∈O',a∈O) (nd:O'.Nodup):EnvOk K He O' Fs H σ Γ:=by
 obtain ⟨n1,n2,n3⟩:=LZ h.nd;refine ⟨h.len1,h.len2,h.same,List.nodup_append.mpr ⟨nd,n2,fun a ha b hb=>n3 a (hs a ha) b hb⟩,fun a ha=>h.inH a ?_,h.fresh,fun i p q=>let ⟨a,v,F,b,c,d⟩:=h.slot i p q;⟨a,v,F,b,c,d.mono (Same.refl _) fun a z=>.inl ?_⟩⟩
 ·rcases LR ha with z | z
  ·exact LQ _ (hs a z)
  ·exact LP _ z
 ·rcases LR z with z | z
  ·exact LQ _ (hs a z)
  ·exact LP _ z
theorem EnvOk.dropL (h:EnvOk K He (G++O) Fs H σ Γ):EnvOk K He O Fs H σ Γ:=h.drop (fun a z=>LP _ z) (LZ (LZ h.nd).1).2.1
theorem EnvOk.hide (h:EnvOk K He O Fs H σ Γ) (e:Same H H') (nd:G.Nodup) (hn:∀a∈G,H a=none) (hi:∀a∈G,H' a≠none):EnvOk K He (G++O) Fs H' σ Γ:=by
 refine ⟨h.len1,h.len2,h.same.trans e,?_,fun a ha=>?_,h.fresh,fun i p q=>let ⟨a,v,F,b,c,d⟩:=h.slot i p q;⟨a,v,F,b,c,d.mono e fun a z=>?_⟩⟩
 ·rw [append_assoc]
  exact List.nodup_append.mpr ⟨nd,h.nd,fun a ha b hb z=>h.inH b hb (by rw [<-z];exact hn a ha)⟩
 ·rw [append_assoc] at ha
  rcases LR ha with z | z
  ·exact hi a z
  ·exact fun q=>h.inH a z (e.free q)
 ·rw [append_assoc] at z
  rcases LR z with z | z
  ·exact .inr (hn a z)
  ·exact .inl z
end
structure Aft (K:Fg) (He:Hp) (O:List Addr) (Fs:List (List Addr)) (H:Hp) (σ:St) (Γ':Ev) (p:PV) (v:V) (H':Hp) (G:List Addr) (Fs':List (List Addr)):Prop where
 same:Same H H'
 env:EnvOk K He (G++O) Fs' H' σ Γ'
 new:∀a∈G++Fs'.flatten,a∈Fs.flatten\/H a=none
 own:Own K (G++O++Fs'.flatten) H' p.s G v p.d
abbrev XW:=Str->St->Hp->Prop
abbrev F1:=Ev->Out PV
def tE (K:Fg) (W:XW) (f:F1):TE:=fun σ H Q=>∃He O Fs Γ,EnvOk K He O Fs H σ Γ/\match f Γ with
 | .ok p Γ'=>∀v H' G Fs',Aft K He O Fs H σ Γ' p v H' G Fs'->Q v H'
 | .er c Γ'=>∀H' Fs',Same H H'->EnvOk K He O Fs' H' σ Γ'->W c σ H'
 | .no=>False
def Wants (K:Fg) (W:XW) (He:Hp) (O:List Addr) (Fs:List (List Addr)) (H:Hp) (σ:St) (Q:VK) (o:Out PV):Prop:=match o with
 | .ok p Γ'=>∀v H' G Fs',Aft K He O Fs H σ Γ' p v H' G Fs'->Q v H'
 | .er c Γ'=>∀H' Fs',Same H H'->EnvOk K He O Fs' H' σ Γ'->W c σ H'
 | .no=>False
section
variable {K:Fg} {W:XW} {He H:Hp} {O:List Addr} {Fs:List (List Addr)} {σ:St} {Γ Γ':Ev} {Q:VK}
theorem Wants.scal {H2:Hp} {O2:List Addr} {Fs2:List (List Addr)} {v:V} {d:D} (h:Wants K W He O Fs H σ Q (.ok ⟨.leaf,d⟩ Γ')) (s:Sc v d) (e:Same H H2) (E:EnvOk K He O2 Fs2 H2 σ Γ')
  (hO:∀a∈O,a∈O2) (nd:O.Nodup) (new:∀a∈Fs2.flatten,a∈Fs.flatten\/H a=none):Q v H2:=
 h v H2 [] Fs2 ⟨e,by rw [nil_append];exact E.drop hO nd,by rw [nil_append];exact new,.leaf s.rep⟩
theorem EnvOk.ndO (E:EnvOk K He O Fs H σ Γ):O.Nodup:=(LZ E.nd).1
end
def aX {β:Type} (f:F1) (k:PV->Ev->Out β):Ev->Out β:=fun Γ=>(f Γ).bind k
section
variable {K:Fg} {W:XW} {σ:St} {H:Hp} {Q:VK} {fa fb:F1}
theorem xf {k:PV->F1} {R:VK} (h:tE K W (aX fa k) σ H Q)
  (hk:∀He O Fs Γ1 p v H1 G Fs1,O.Nodup->Aft K He O Fs H σ Γ1 p v H1 G Fs1->Wants K W He O Fs H σ Q (k p Γ1)->R v H1):tE K W fa σ H R:=by
 obtain ⟨He,O,Fs,Γ,E,h⟩:=h;refine ⟨He,O,Fs,Γ,E,?_⟩
 unfold aX at h
 cases e:fa Γ with
 | ok p Γ1=>
  rw [e] at h;exact fun v H' G Fs' A=>hk He O Fs Γ1 p v H' G Fs' E.ndO A h
 | er c Γ1=>
  rw [e] at h;exact h
 | no=>
  rw [e] at h;exact h
theorem Ay {k:PV->PV->F1} {R:V->V->Hp->Prop} (h:tE K W (aX fa fun p=>aX fb fun q=>k p q) σ H Q)
  (hk:∀He O Fs Γ2 p q v u H1 H2 G1 G2 Fs2,O.Nodup->Same H H1->Same H1 H2->EnvOk K He (G2++(G1++O)) Fs2 H2 σ Γ2->(∀a∈G2++(G1++Fs2.flatten),a∈Fs.flatten\/H a=none) ->
   Own K (G2++(G1++O)++Fs2.flatten) H2 p.s G1 v p.d->Own K (G2++(G1++O)++Fs2.flatten) H2 q.s G2 u q.d->Wants K W He O Fs H σ Q (k p q Γ2)->R v u H2) :
  tE K W fa σ H fun v H1=>tE K W fb σ H1 fun u H2=>R v u H2:=by
 refine xf (k:=fun p=>aX fb fun q=>k p q) h fun He O Fs Γ1 p v H1 G1 Fs1 nd A1 h1=>?_
 refine ⟨He,G1++O,Fs1,Γ1,A1.env,?_⟩
 unfold aX at h1
 cases e:fb Γ1 with
 | ok q Γ2=>
  rw [e] at h1;intro u H2 G2 Fs2 A2;have new:∀a∈G2++(G1++Fs2.flatten),a∈Fs.flatten\/H a=none:=fun a ha=>by
   have up:a∈G1++Fs1.flatten->a∈Fs.flatten\/H a=none:=A1.new a
   rcases LR ha with z | z
   ·rcases A2.new a (LQ _ z) with y | y
    ·exact up (LP _ y)
    ·exact .inr (A1.same.free y)
   ·rcases LR z with z | z
    ·exact up (LQ _ z)
    ·rcases A2.new a (LP _ z) with y | y
     ·exact up (LP _ y)
     ·exact .inr (A1.same.free y)
  refine hk He O Fs Γ2 p q v u H1 H2 G1 G2 Fs2 nd A1.same A2.same A2.env new (A1.own.mono A2.same fun a ha=>?_) A2.own h1
  rcases LR ha with z | z
  ·rcases LR z with z | z
   ·rcases A2.new a (LQ _ z) with y | y
    ·exact .inl (LP _ y)
    ·exact .inr y
   ·exact .inl (LQ _ z)
  ·rcases A2.new a (LP _ z) with y | y
   ·exact .inl (LP _ y)
   ·exact .inr y
 | er c Γ2=>
  rw [e] at h1;intro H2 Fs2 hs E2;exact h1 H2 Fs2 (A1.same.trans hs) E2.dropL
 | no=>
  rw [e] at h1;exact h1
end
section
variable {X:Cx} {e:Expr}
theorem aY {t t':TE} (h:PE X e t) (i:∀σ H Q,t' σ H Q->t σ H Q):PE X e t':=fun pins s σ H Q I q=>h pins s σ H Q I (i σ H Q q)
theorem j8 {t t':TT} (h:PT X e t) (i:∀σ H Q,t' σ H Q->t σ H Q):PT X e t':=fun pins s σ H Q I q=>h pins s σ H Q I (i σ H Q q)
theorem wJ {t t':TT} (h:PW X e t) (i:∀σ H Q,t' σ H Q->t σ H Q):PW X e t':=fun whole pins s σ H Q I q=>h whole pins s σ H Q I (i σ H Q q)
theorem qC {es:List Expr} {t t':TA} (h:PA X es t) (i:∀σ H Q,t' σ H Q->t σ H Q):PA X es t':=fun pos pins s σ H Q I q=>h pos pins s σ H Q I (i σ H Q q)
theorem cB {st:Stmt} {t t':TS} (h:PS X st t) (i:∀D σ H,t' D σ H->t D σ H):PS X st t':=fun pins s σ H D I q=>h pins s σ H D I (i D σ H q)
theorem Ef {st:List Stmt} {t t':TS} (h:PSs X st t) (i:∀D σ H,t' D σ H->t D σ H):PSs X st t':=fun pins s σ H D I q=>h pins s σ H D I (i D σ H q)
theorem GB {es:List Expr} {t t':TT} (h:PF X es t) (i:∀σ H Q,t' σ H Q->t σ H Q):PF X es t':=fun pins s σ H Q I q=>h pins s σ H Q I (i σ H Q q)
end
theorem Jk {h:Heap}:∀{vs:List V} {its:List Value} {ds:List D},Vals vs its->vs.length=ds.length->(∀(i:Nat) v d,vs[i]?=some v->ds[i]?=some d->∀u,RelV v u->∃as,Reads h u d as)->∃as,ReadsAll h its ds as
 | _,_,[],.nil,_,_=>⟨_,.nil⟩
 | _,_,d::ds,.cons (a:=v) (b:=u) r t,hl,h=>by
  obtain ⟨as,ra⟩:=h 0 v d rfl rfl u r;obtain ⟨bs,rb⟩:=Jk t (by simpa using hl) fun i v d h1 h2=>h (i+1) v d (by simpa using h1) (by simpa using h2)
  exact ⟨_,.cons ra rb⟩
 | _,_,[],.cons _ _,hl,_=>by simp at hl
 | _,_,_::_,.nil,hl,_=>by simp at hl
theorem Rep.reads {X:Cx} {pins:List (Addr×Obj)} {σ:St} {H:Hp} {s:Shared} {x:V} {d:D} (I:Inv X pins σ H s) (r:Rep X.K H x d):∀u,RelV x u->∃as,Reads s.heap u d as:=by
 induction r with
 | non=>rintro u rfl;exact ⟨_,.none⟩
 | bl b=>rintro u rfl;exact ⟨_,.bool b⟩
 | int i=>rintro u ⟨t,rfl⟩;exact ⟨_,.int i t⟩
 | str x=>rintro u ⟨t,rfl⟩;exact ⟨_,.str x t⟩
 | lst hq hl _ ih=>
  rintro u rfl
  obtain ⟨its,rv,⟨o,n,e1,e2,e3,e4⟩,_⟩:=I.list hq;obtain ⟨as,ra⟩:=Jk rv hl ih;exact ⟨_,.list e1 e2 e4 (by simpa using ra)⟩
 | tup hq hl _ ih=>
  rintro u rfl
  obtain ⟨its,rv,⟨o,e1,e2,n,e4⟩,_⟩:=I.tuple hq;obtain ⟨as,ra⟩:=Jk rv hl ih;exact ⟨_,.tuple e1 e2 e4 (by simpa using ra)⟩
theorem pf {α:Type} {F G:List α}:∀{Fs:List (List α)} {i:Nat},Fs[i]?=some F->(F++(Fs.set i G).flatten).Perm (G++Fs.flatten)
 | [],_,h=>by simp at h
 | A::r,0,h=>by
  simp at h
  subst h;simp only [List.set_cons_zero,flatten_cons]
  rw [<-append_assoc,<-append_assoc];exact List.Perm.append_right _ perm_append_comm
 | A::r,i+1,h=>by
  have ih:=pf (G:=G) (Fs:=r) (i:=i) (by simpa using h)
  simp only [List.set_cons_succ,flatten_cons]
  calc (F++(A++(r.set i G).flatten)).Perm (A++(F++(r.set i G).flatten)):=by
        rw [<-append_assoc,<-append_assoc];exact List.Perm.append_right _ perm_append_comm
    _ |>.Perm (A++(G++r.flatten)):=List.Perm.append_left _ ih
    _ |>.Perm (G++(A++r.flatten)):=by
        rw [<-append_assoc,<-append_assoc];exact List.Perm.append_right _ perm_append_comm
section
variable {K:Fg} {He H:Hp} {O G:List Addr} {Fs:List (List Addr)} {σ:St} {Γ:Ev}
theorem EnvOk.lt (E:EnvOk K He O Fs H σ Γ) {i:Nat} (h:i<Γ.length):∃F,Fs[i]?=some F:=⟨Fs[i]'(by rw [E.len2];exact h),LV _⟩
theorem EnvOk.move {i:Nat} {p:PV} (E:EnvOk K He O Fs H σ Γ) (h:Γ[i]?=some (some p)) :
  p.s.isView=false/\∃v F,σ[i]?=some (some v)/\EnvOk K He (F++O) (Fs.set i []) H σ (Γ.set i none)/\Own K (F++O++(Fs.set i []).flatten) H p.s F v p.d/\(∀a∈F++(Fs.set i []).flatten,a∈Fs.flatten):=by
 obtain ⟨hv,v,F,h1,h2,h3⟩:=E.slot i p h;have pm:(F++(Fs.set i []).flatten).Perm Fs.flatten:=by simpa using pf (G:=[]) h2
 have pm2:(F++O++(Fs.set i []).flatten).Perm (O++Fs.flatten):=by
  rw [append_assoc]
  calc (F++(O++(Fs.set i []).flatten)).Perm (O++(F++(Fs.set i []).flatten)):=by
        rw [<-append_assoc,<-append_assoc];exact List.Perm.append_right _ perm_append_comm
    _ |>.Perm (O++Fs.flatten):=List.Perm.append_left _ pm
 refine ⟨hv,v,F,h1,⟨by rw [length_set];exact E.len1,by rw [length_set,length_set];exact E.len2,E.same,pm2.nodup_iff.mpr E.nd,fun a ha=>E.inH a (pm2.mem_iff.mp ha),fun a ha=>E.fresh a (pm.mem_iff.mp (LP _ ha)),fun j q hq=>?_⟩,h3.mono (Same.refl _) fun a ha=>.inl (pm2.mem_iff.mp ha),fun a ha=>pm.mem_iff.mp ha⟩
 by_cases hj:j=i
 ·subst hj
  rw [List.getElem?_set] at hq;split at hq
  ·split at hq<;>cases hq
  ·rename_i z
   exact absurd rfl z
 ·rw [getElem?_set_ne (Ne.symm hj)] at hq
  obtain ⟨w1,v',F',e1,e2,e3⟩:=E.slot j q hq;exact ⟨w1,v',F',e1,by rw [getElem?_set_ne (Ne.symm hj)];exact e2,e3.mono (Same.refl _) fun a ha=>.inl (pm2.mem_iff.mp ha)⟩
theorem EnvOk.put {i:Nat} {p:PV} {v:V} (E:EnvOk K He (G++O) Fs H σ Γ) (ho:Own K (G++O++Fs.flatten) H p.s G v p.d) (hv:p.s.isView=false) (hn:∀a∈G,He a=none) (hi:i<Γ.length) :
  EnvOk K He O (Fs.set i G) H (σ.set i (some v)) (Γ.set i (some p)):=by
 obtain ⟨F,hF⟩:=E.lt hi;have pm:=pf (G:=G) hF
 have nd:=E.nd
 rw [append_assoc] at nd;have sub:∀a∈O++(Fs.set i G).flatten,a∈G++O++Fs.flatten:=fun a ha=>by
  rw [append_assoc];rcases LR ha with z | z
  ·exact LP _ (LQ _ z)
  ·rcases LR (pm.mem_iff.mp (LP _ z)) with y | y
   ·exact LQ _ y
   ·exact LP _ (LP _ y)
 refine ⟨by rw [length_set,length_set];exact E.len1,by rw [length_set,length_set];exact E.len2,E.same,?_,fun a ha=>E.inH a (sub a ha),fun a ha=>?_,fun j q hq=>?_⟩
 ·have p1:(O++(F++(Fs.set i G).flatten)).Perm (G++(O++Fs.flatten)):=by
   calc (O++(F++(Fs.set i G).flatten)).Perm (O++(G++Fs.flatten)):=List.Perm.append_left _ pm
     _ |>.Perm (G++(O++Fs.flatten)):=by
       rw [<-append_assoc,<-append_assoc];exact List.Perm.append_right _ perm_append_comm
  have p2:=p1.nodup_iff.mpr nd
  refine p2.sublist ?_
  exact List.Sublist.append_left (List.sublist_append_right _ _) _
 ·rcases LR (pm.mem_iff.mp (LP _ ha)) with y | y
  ·exact hn a y
  ·exact E.fresh a y
 ·by_cases hj:j=i
  ·subst hj
   rw [getElem?_set_self hi] at hq
   cases hq;refine ⟨hv,v,G,?_,?_,ho.mono (Same.refl _) fun a ha=>.inl (sub a ha)⟩
   ·rw [getElem?_set_self (by rw [E.len1];exact hi)]
   ·rw [getElem?_set_self (by rw [E.len2];exact hi)]
  ·rw [getElem?_set_ne (Ne.symm hj)] at hq
   obtain ⟨w1,v',F',e1,e2,e3⟩:=E.slot j q hq;exact ⟨w1,v',F',by rw [getElem?_set_ne (Ne.symm hj)];exact e1,by rw [getElem?_set_ne (Ne.symm hj)];exact e2,e3.mono (Same.refl _) fun a ha=>.inl (sub a ha)⟩
theorem Aft.freshG {Γ':Ev} {p:PV} {v:V} {H':Hp} {Fs':List (List Addr)} (E:EnvOk K He O Fs H σ Γ) (A:Aft K He O Fs H σ Γ' p v H' G Fs'):∀a∈G,He a=none:=fun a ha=>by
 rcases A.new a (LQ _ ha) with z | z
 ·exact E.fresh a z
 ·exact E.same.free z
end
def af (i:Nat):F1:=fun Γ=>match Γ[i]? with
 | some (some p)=>(match p.s with
  | .leaf=>.ok ⟨.leaf,p.d⟩ Γ
  | _=>.ok ⟨.view,p.d⟩ Γ)
 | _=>.no
def bR (i:Nat):F1:=fun Γ=>match Γ[i]? with
 | some (some p)=>.ok p (Γ.set i none)
 | _=>.no
def eK (d:D):F1:=fun Γ=>.ok ⟨.leaf,d⟩ Γ
section
variable {X:Cx} {W:XW} {i:Nat} {e:Expr} {pos:Pos}
theorem Bu {K:Fg} {σ:St} {H:Hp} {Q:VK} (h:tE K W (af i) σ H Q):fA i σ H Q:=by
 obtain ⟨He,O,Fs,Γ,E,h⟩:=h;unfold af at h
 cases e:Γ[i]? with
 | none=>rw [e] at h;exact h.elim
 | some o=>
  rw [e] at h
  cases o with
  | none=>exact h.elim
  | some p=>
   obtain ⟨hv,v,F,h1,h2,h3⟩:=E.slot i p e;obtain ⟨s,d⟩:=p;have new:∀a∈[]++Fs.flatten,a∈Fs.flatten\/H a=none:=fun a ha=>.inl (by simpa using ha)
   cases s with
   | leaf=>
    cases h3 with
    | leaf r=>exact ⟨v,h1,h v H [] Fs ⟨Same.refl _,by simpa using E,new,.leaf r⟩⟩
   | view=>cases hv
   | lst s=>exact ⟨v,h1,h v H [] Fs ⟨Same.refl _,by simpa using E,new,.view h3.rep⟩⟩
   | tup ss=>exact ⟨v,h1,h v H [] Fs ⟨Same.refl _,by simpa using E,new,.view h3.rep⟩⟩
theorem xJ {K:Fg} {σ:St} {H:Hp} {Q:VK} (h:tE K W (bR i) σ H Q):fA i σ H Q:=by
 obtain ⟨He,O,Fs,Γ,E,h⟩:=h;unfold bR at h
 cases e:Γ[i]? with
 | none=>rw [e] at h;exact h.elim
 | some o=>
  rw [e] at h
  cases o with
  | none=>exact h.elim
  | some p=>
   obtain ⟨hv,v,F,h1,E',o',sub⟩:=E.move e;exact ⟨v,h1,h v H F (Fs.set i []) ⟨Same.refl _,E',fun a ha=>.inl (sub a ha),o'⟩⟩
theorem wo (h:PE X e (fA i)):PE X e (tE X.K W (af i)):=aY h fun _ _ _=>Bu
theorem yL (h:PE X e (fA i)):PE X e (tE X.K W (bR i)):=aY h fun _ _ _=>xJ
theorem uR {K:Fg} {σ:St} {H:Hp} {Q:VK} {v:V} {d:D} (hs:∀H,Rep K H v d) (h:tE K W (eK d) σ H Q):Q v H:=by
 obtain ⟨He,O,Fs,Γ,E,h⟩:=h;exact h v H [] Fs ⟨Same.refl _,by simpa using E,fun a ha=>.inl (by simpa using ha),.leaf (hs _)⟩
theorem de_int {j:Int} {k pos}:PE X (.Constant (.int j) k pos) (tE X.K W (eK (.int j))):=aY Cj fun _ _ _=>uR fun _=>.int j
theorem de_str {j:Str} {k pos}:PE X (.Constant (.str j) k pos) (tE X.K W (eK (.str j))):=aY vc fun _ _ _=>uR fun _=>.str j
theorem yM {x:Str} {v:V} {u:Value} {d:D} (hg:Gl X x) (hm:X.mg x=some u) (r:RelV v u) (hr:∀H,Rep X.K H v d) (hd:(x==("__debug__":Str))=false:=by decide):PE X (.Name x pos) (tE X.K W (eK d)):=
 aY (pZ hg hm r hd) fun _ _ _=>uR hr
end
def ay (g:D->D->Option D) (fa fb:F1):F1:=aX fa fun p=>aX fb fun q=>fun Γ=>match g p.d q.d with
 | some d=>.ok ⟨.leaf,d⟩ Γ
 | none=>.no
def GOp (K:Fg) (r:R2) (g:D->D->Option D):Prop:=∀x y H Q a b d,Rep K H x a->Rep K H y b->g a b=some d->(∀v,Sc v d->Q v H)->r x y H Q
section
variable {K:Fg} {W:XW} {σ:St} {H:Hp} {Q:VK} {fa fb:F1} {r:R2} {g:D->D->Option D}
theorem fO (hg:GOp K r g) (h:tE K W (ay g fa fb) σ H Q):xr r (tE K W fa) (tE K W fb) σ H Q:=by
 refine Ay h ?_
 intro He O Fs Γ2 p q v u H1 H2 G1 G2 Fs2 nd s1 s2 E new o1 o2 w
 cases e:g p.d q.d with
 | none=>rw [e] at w;exact w.elim
 | some d=>
  rw [e] at w;exact hg v u H2 Q p.d q.d d o1.rep o2.rep e fun z s=>w.scal s (s1.trans s2) E (fun a ha=>LP _ (LP _ ha)) nd fun a ha=>new a (LP _ (LP _ ha))
end
theorem GOp.or {K:Fg} {r r':R2} {g g':D->D->Option D} (h:GOp K r g) (h':GOp K r' g'):GOp K (fun x y H Q=>r x y H Q\/r' x y H Q) (fun a b=>(g a b).or (g' a b)):=by
 intro x y H Q a b d ra rb e k;have e:(g a b).or (g' a b)=some d:=e
 cases e1:g a b with
 | some z=>rw [e1] at e;cases e;exact .inl (h x y H Q a b _ ra rb e1 k)
 | none=>rw [e1] at e;exact .inr (h' x y H Q a b d ra rb (by simpa using e) k)
def gI (C:Int->Int->Bool) (f:Int->Int->D):D->D->Option D
 | .int i,.int j=>if C i j then some (f i j) else none
 | _,_=>none
theorem qi {K:Fg} {C:Int->Int->Prop} {C':Int->Int->Bool} {g:Int->Int->V} {f:Int->Int->D} (hC:∀i j,C' i j=true->C i j) (hs:∀i j,Sc (g i j) (f i j)):GOp K (rI C g) (gI C' f):=by
 intro x y H Q a b d ra rb e k
 cases ra<;>cases rb<;>simp only [gI] at e<;>try cases e
 rename_i i j;split at e
 ·rename_i c
  cases e;exact ⟨i,j,rfl,rfl,hC i j c,k _ (hs i j)⟩
 ·cases e
def Ab (f:Int->Int->D):D->D->Option D
 | .int i,.int j=>some (f i j)
 | _,_=>none
theorem DM {K:Fg} {g:Int->Int->V} {f:Int->Int->D} (hs:∀i j,Sc (g i j) (f i j)):GOp K (pV g) (Ab f):=by
 intro x y H Q a b d ra rb e k
 cases ra<;>cases rb<;>simp only [Ab] at e<;>try cases e
 rename_i i j;exact ⟨i,j,rfl,rfl,k _ (hs i j)⟩
abbrev gSub:=Ab fun i j=>.int (i-j)
abbrev aW:=Ab fun i j=>.int (i+j)
def sT (i j:Int):Bool:=(decide (-(2 ^ 64)<i)&&decide (i<2 ^ 64))||(decide (-(2 ^ 64)<j)&&decide (j<2 ^ 64))
abbrev gr:=gI sT fun i j=>.int (i*j)
def yY (_ j:Int):Bool:=decide (0<j)&&decide (j<1073741824)
abbrev sf:=gI yY fun i j=>.int (i / j)
def yX (_ j:Int):Bool:=decide (0<j)
abbrev dh:=gI yX fun i j=>.int (i % j)
def yW (i j:Int):Bool:=decide (0<=j)&&decide (j<=1000000)&&decide (i.natAbs<2 ^ 64)
abbrev yD:=gI yW fun i j=>.int (i ^ j.toNat)
mutual
def Sh.same:Sh->Sh->Bool
 | .view,.view=>true
 | .leaf,.leaf=>true
 | .lst a,.lst b=>Sh.same a b
 | .tup as,.tup bs=>Sh.sameL as bs
 | _,_=>false
def Sh.sameL:List Sh->List Sh->Bool
 | [],[]=>true
 | a::as,b::bs=>Sh.same a b&&Sh.sameL as bs
 | _,_=>false
end
mutual
theorem Sh.same_eq:∀{a b:Sh},Sh.same a b=true->a=b
 | .view,.view,_=>rfl
 | .leaf,.leaf,_=>rfl
 | .lst a,.lst b,h=>by rw [Sh.same_eq (a:=a) (b:=b) (by simpa [Sh.same] using h)]
 | .tup as,.tup bs,h=>by rw [Sh.sameL_eq (as:=as) (bs:=bs) (by simpa [Sh.same] using h)]
 | .view,.leaf,h=>by simp [Sh.same] at h
 | .view,.lst _,h=>by simp [Sh.same] at h
 | .view,.tup _,h=>by simp [Sh.same] at h
 | .leaf,.view,h=>by simp [Sh.same] at h
 | .leaf,.lst _,h=>by simp [Sh.same] at h
 | .leaf,.tup _,h=>by simp [Sh.same] at h
 | .lst _,.view,h=>by simp [Sh.same] at h
 | .lst _,.leaf,h=>by simp [Sh.same] at h
 | .lst _,.tup _,h=>by simp [Sh.same] at h
 | .tup _,.view,h=>by simp [Sh.same] at h
 | .tup _,.leaf,h=>by simp [Sh.same] at h
 | .tup _,.lst _,h=>by simp [Sh.same] at h
theorem Sh.sameL_eq:∀{as bs:List Sh},Sh.sameL as bs=true->as=bs
 | [],[],_=>rfl
 | a::as,b::bs,h=>by
  have h:Sh.same a b=true/\Sh.sameL as bs=true:=by simpa [Sh.sameL] using h
  rw [Sh.same_eq h.1,Sh.sameL_eq h.2]
 | [],_::_,h=>by simp [Sh.sameL] at h
 | _::_,[],h=>by simp [Sh.sameL] at h
end
def coer (s:Sh) (p:PV):Bool:=match s with
 | .leaf=>!p.s.isView||bz p.d
 | .view=>false
 | s=>Sh.same s p.s
def bt (s:Sh) (G:List Addr):List Addr:=match s with
 | .leaf=>[]
 | _=>G
theorem jR {s:Sh} {G:List Addr} {a:Addr} (h:a∈bt s G):a∈G:=by
 unfold bt at h;split at h
 ·simp at h
 ·exact h
theorem Own.coer {K:Fg} {O O':List Addr} {H:Hp} {s:Sh} {p:PV} {G:List Addr} {v:V} (h:Own K O H p.s G v p.d) (c:coer s p=true) (h1:∀a∈O',a∈O) (h2:∀a∈G,a∈O'->a∈bt s G):Own K O' H s (bt s G) v p.d:=by
 cases s with
 | view=>simp [T.coer] at c
 | leaf=>
  show Own K O' H .leaf [] v p.d
  have c:(!p.s.isView||bz p.d)=true:=c
  cases hv:p.s.isView with
  | false=>exact .leaf (h.freeze hv h1 fun a ha z=>by simpa [bt] using h2 a ha z)
  | true=>
   rw [hv] at c;exact .leaf (h.rep.sc (by simpa using c)).rep
 | lst s=>
  have e:Sh.lst s=p.s:=Sh.same_eq c
  show Own K O' H (.lst s) G v p.d
  rw [e];exact h.mono (Same.refl _) fun a ha=>.inl (h1 a ha)
 | tup ss=>
  have e:Sh.tup ss=p.s:=Sh.same_eq c
  show Own K O' H (.tup ss) G v p.d
  rw [e];exact h.mono (Same.refl _) fun a ha=>.inl (h1 a ha)
open PySem.SeqAt in
def bC:D->D->Option D:=fun a b=>if shaped a&&shaped b then some (.bool (PyData.eqv a b)) else none
open PySem.SeqAt in
def eC:D->D->Option D:=fun a b=>if shaped a&&shaped b then some (.bool (!PyData.eqv a b)) else none
open PySem.SeqAt in
def rj (K:Fg) (neg:Bool):R2:=fun x y H Q=>∃a b,Rep K H x a/\Rep K H y b/\shaped a=true/\shaped b=true/\Q (.bl (if neg then !PyData.eqv a b else PyData.eqv a b)) H
section
variable {X:Cx}
theorem Cz (hu:X.A.units+64<cLine):OpR X (compareOp .Eq) (rj X.K false):=by
 intro pins s σ H x y v u Q I rx ry h;obtain ⟨a,b,ra,rb,sa,sb,q⟩:=h;obtain ⟨as,r1⟩:=ra.reads I v rx;obtain ⟨bs,r2⟩:=rb.reads I u ry;exact SeqAt.compareEq_shaped r1 r2 sa sb hu ⟨.bl _,H,I,rfl,q⟩
theorem Ct (hu:X.A.units+64<cLine):OpR X (compareOp .NotEq) (rj X.K true):=by
 intro pins s σ H x y v u Q I rx ry h;obtain ⟨a,b,ra,rb,sa,sb,q⟩:=h;obtain ⟨as,r1⟩:=ra.reads I v rx;obtain ⟨bs,r2⟩:=rb.reads I u ry;exact SeqAt.compareNe_shaped r1 r2 sa sb hu ⟨.bl _,H,I,rfl,q⟩
end
theorem C7 {K:Fg}:GOp K (rj K false) bC:=by
 intro x y H Q a b d ra rb e k;unfold bC at e;split at e
 ·rename_i c
  cases e;simp only [Bool.and_eq_true] at c
  exact ⟨a,b,ra,rb,c.1,c.2,k _ (.bl _)⟩
 ·cases e
theorem C4 {K:Fg}:GOp K (rj K true) eC:=by
 intro x y H Q a b d ra rb e k;unfold eC at e;split at e
 ·rename_i c
  cases e;simp only [Bool.and_eq_true] at c
  exact ⟨a,b,ra,rb,c.1,c.2,k _ (.bl _)⟩
 ·cases e
def Dg:D->D->Option D
 | .str i,.str j=>some (.bool (decide (i.cps.toList<j.cps.toList)))
 | _,_=>none
abbrev Kl:=Ab fun i j=>.bool (decide (i<j))
abbrev gv:D->D->Option D:=fun a b=>(Kl a b).or (Dg a b)
abbrev w4:=Ab fun i j=>.bool (decide (i<=j))
abbrev fI:=Ab fun i j=>.bool (decide (j<i))
abbrev LC:=Ab fun i j=>.bool (decide (j<=i))
theorem yv {K:Fg}:GOp K (fun x y H Q=>∃i j,x=.str i/\y=.str j/\Q (.bl (decide (i.cps.toList<j.cps.toList))) H) Dg:=by
 intro x y H Q a b d ra rb e k
 cases ra<;>cases rb<;>simp only [Dg] at e<;>try cases e
 rename_i i j;exact ⟨i,j,rfl,rfl,k _ (.bl _)⟩
theorem C5 {K:Fg}:GOp K (fun x y H Q=>pV (fun i j=>.bl (decide (i<j))) x y H Q\/∃i j,x=.str i/\y=.str j/\Q (.bl (decide (i.cps.toList<j.cps.toList))) H) gv:=
 (DM fun _ _=>.bl _).or yv
open PySem.SeqAt in
def bf (neg:Bool):D->D->Option D
 | a,.list xs=>if shaped a&&shaped (.list xs) then some (.bool (if neg then !xs.any fun y=>PyData.eqv y a else xs.any fun y=>PyData.eqv y a)) else none
 | a,.tuple xs=>if shaped a&&shaped (.tuple xs) then some (.bool (if neg then !xs.any fun y=>PyData.eqv y a else xs.any fun y=>PyData.eqv y a)) else none
 | _,_=>none
def u0 (K:Fg) (neg:Bool):R2:=fun x y H Q=>∃a b d,Rep K H x a/\Rep K H y b/\bf neg a b=some (.bool d)/\Q (.bl d) H
theorem vS {K:Fg} {neg:Bool}:GOp K (u0 K neg) (bf neg):=by
 intro x y H Q a b d ra rb e k;have:∃c,d=.bool c:=by
  cases b<;>simp only [bf] at e<;>(try cases e)<;>(split at e<;>cases e<;>exact ⟨_,rfl⟩)
 obtain ⟨c,rfl⟩:=this;exact ⟨a,b,c,ra,rb,e,k _ (.bl c)⟩
theorem Hs {d:D} {xs:List D} (h:SeqAt.shaped d=true) (e:d=.list xs\/d=.tuple xs):PyData.canLayAll0 xs=true/\PyData.depthAll xs+1<=64:=by
 have h1:=SeqAt.canLay_of_shaped h
 have h2:=SeqAt.depth_of_shaped h
 rcases e with e | e<;>subst e<;>exact ⟨by simpa [PyData.canLay0] using h1,by simpa [PyData.depth] using h2⟩
section
variable {X:Cx}
theorem Cy (hu:X.A.units+64<cLine):OpR X (compareOp .In) (u0 X.K false):=by
 intro pins s σ H x y v u Q I rx ry h;obtain ⟨a,b,d,ra,rb,e,q⟩:=h;obtain ⟨as,r1⟩:=ra.reads I v rx;obtain ⟨bs,r2⟩:=rb.reads I u ry
 cases b<;>simp only [bf] at e<;>try cases e
 all_goals
  split at e
  ·rename_i c
   simp only [Bool.and_eq_true] at c
   simp only [Option.some.injEq,PyData.bool.injEq] at e
   subst e;first
    | (obtain ⟨p1,p2⟩:=Hs c.2 (.inl rfl)
       exact SeqAt.in_list_reads r2 r1 p1 (SeqAt.canLay_of_shaped c.1) (Nat.lt_of_le_of_lt (by have:=Nat.min_le_left (PyData.depthAll ‹_›) a.depth;omega) hu) ⟨.bl _,H,I,rfl,q⟩)
    | (obtain ⟨p1,p2⟩:=Hs c.2 (.inr rfl)
       exact SeqAt.in_tuple_reads r2 r1 p1 (SeqAt.canLay_of_shaped c.1) (Nat.lt_of_le_of_lt (by have:=Nat.min_le_left (PyData.depthAll ‹_›) a.depth;omega) hu) ⟨.bl _,H,I,rfl,q⟩)
  ·cases e
theorem rC (hu:X.A.units+64<cLine):OpR X (compareOp .NotIn) (u0 X.K true):=by
 intro pins s σ H x y v u Q I rx ry h;obtain ⟨a,b,d,ra,rb,e,q⟩:=h;obtain ⟨as,r1⟩:=ra.reads I v rx;obtain ⟨bs,r2⟩:=rb.reads I u ry
 cases b<;>simp only [bf] at e<;>try cases e
 all_goals
  split at e
  ·rename_i c
   simp only [Bool.and_eq_true] at c
   simp only [Option.some.injEq,PyData.bool.injEq] at e
   subst e;first
    | (obtain ⟨p1,p2⟩:=Hs c.2 (.inl rfl)
       exact SeqAt.notIn_list_reads r2 r1 p1 (SeqAt.canLay_of_shaped c.1) (Nat.lt_of_le_of_lt (by have:=Nat.min_le_left (PyData.depthAll ‹_›) a.depth;omega) hu) ⟨.bl _,H,I,rfl,q⟩)
    | (obtain ⟨p1,p2⟩:=Hs c.2 (.inr rfl)
       exact SeqAt.notIn_tuple_reads r2 r1 p1 (SeqAt.canLay_of_shaped c.1) (Nat.lt_of_le_of_lt (by have:=Nat.min_le_left (PyData.depthAll ‹_›) a.depth;omega) hu) ⟨.bl _,H,I,rfl,q⟩)
  ·cases e
end
def WantsB (K:Fg) (W:XW) (He:Hp) (O:List Addr) (Fs:List (List Addr)) (H:Hp) (σ:St) (Q:Bool->Hp->Prop) (o:Out Bool):Prop:=match o with
 | .ok b Γ'=>∀H' Fs',Same H H'->EnvOk K He O Fs' H' σ Γ'->(∀a∈Fs'.flatten,a∈Fs.flatten\/H a=none)->Q b H'
 | .er c Γ'=>∀H' Fs',Same H H'->EnvOk K He O Fs' H' σ Γ'->W c σ H'
 | .no=>False
abbrev FB:=Ev->Out Bool
def tT (K:Fg) (W:XW) (f:FB):TT:=fun σ H Q=>∃He O Fs Γ,EnvOk K He O Fs H σ Γ/\WantsB K W He O Fs H σ Q (f Γ)
section
variable {K:Fg} {W:XW} {He H H1:Hp} {O:List Addr} {Fs Fs1:List (List Addr)} {σ:St} {Γ Γ':Ev} {Q:VK} {QB:Bool->Hp->Prop}
theorem Wants.after {o:Out PV} (h:Wants K W He O Fs H σ Q o) (s:Same H H1) (n:∀a∈Fs1.flatten,a∈Fs.flatten\/H a=none):Wants K W He O Fs1 H1 σ Q o:=by
 cases o with
 | ok p Γ'=>exact fun v H' G Fs' A=>h v H' G Fs' ⟨s.trans A.same,A.env,fun a ha=>(A.new a ha).elim (n a) fun z=>.inr (s.free z),A.own⟩
 | er c Γ'=>exact fun H' Fs' e E=>h H' Fs' (s.trans e) E
 | no=>exact h
theorem WantsB.after {o:Out Bool} (h:WantsB K W He O Fs H σ QB o) (s:Same H H1) (n:∀a∈Fs1.flatten,a∈Fs.flatten\/H a=none):WantsB K W He O Fs1 H1 σ QB o:=by
 cases o with
 | ok p Γ'=>exact fun H' Fs' e E n'=>h H' Fs' (s.trans e) E fun a ha=>(n' a ha).elim (n a) fun z=>.inr (s.free z)
 | er c Γ'=>exact fun H' Fs' e E=>h H' Fs' (s.trans e) E
 | no=>exact h
theorem Aft.go {p:PV} {v:V} {G:List Addr} (A:Aft K He O Fs H σ Γ' p v H1 G Fs1):EnvOk K He O Fs1 H1 σ Γ':=A.env.dropL
theorem Aft.newF {p:PV} {v:V} {G:List Addr} (A:Aft K He O Fs H σ Γ' p v H1 G Fs1):∀a∈Fs1.flatten,a∈Fs.flatten\/H a=none:=fun a ha=>A.new a (LP _ ha)
end
section
variable {K:Fg} {W:XW} {σ:St} {H:Hp} {Q:VK} {QB:Bool->Hp->Prop} {fa fb fc:F1} {ga gb:FB}
def aL (g:D->Option Bool) (f:F1):FB:=fun Γ=>(f Γ).bind fun p Γ'=>match g p.d with
 | some b=>.ok b Γ'
 | none=>.no
theorem pE {g:D->Option Bool} {R:VK} (h:tT K W (aL g fa) σ H QB) (hR:∀v d b H1,Rep K H1 v d->g d=some b->QB b H1->R v H1):tE K W fa σ H R:=by
 obtain ⟨He,O,Fs,Γ,E,h⟩:=h;refine ⟨He,O,Fs,Γ,E,?_⟩
 unfold aL at h
 cases e:fa Γ with
 | ok p Γ'=>
  rw [e] at h;intro v H' G Fs' A
  have h:WantsB K W He O Fs H σ QB (match g p.d with | some b=>.ok b Γ' | none=>.no):=h
  cases e2:g p.d with
  | some b=>
   rw [e2] at h;exact hR v p.d b H' A.own.rep e2 (h H' Fs' A.same A.go A.newF)
  | none=>rw [e2] at h;exact h.elim
 | er c Γ'=>rw [e] at h;exact h
 | no=>rw [e] at h;exact h
def ao:D->Option Bool
 | .bool b=>some b
 | _=>none
theorem pL {t:TE} (hi:∀Q,tE K W fa σ H Q->t σ H Q) (h:tT K W (aL ao fa) σ H QB):ux t σ H QB:=by
 refine hi _ (pE h fun v d b H1 r e q=>?_)
 cases r<;>simp only [ao] at e<;>try cases e
 exact ⟨_,rfl,q⟩
def bh:D->Option Bool
 | .none=>some false
 | .bool b=>some b
 | .int i=>some (i != 0)
 | .str x=>if x.length<=sizeLine then some ((x.length:Int) != 0) else none
 | .list xs=>some (!xs.isEmpty)
 | .tuple xs=>some (!xs.isEmpty)
 | .dict _=>none
theorem uM (h:tT K W (aL bh fa) σ H QB):tE K W fa σ H fun x H'=>∃k,DC K x H' k/\QB k H':=by
 refine pE h fun v d b H1 r e q=>?_
 cases r with
 | non=>cases e;exact ⟨_,rfl,q⟩
 | bl c=>cases e;exact ⟨_,rfl,q⟩
 | int i=>cases e;exact ⟨_,rfl,q⟩
 | str x=>
  simp only [bh] at e
  split at e
  ·rename_i z;cases e;exact ⟨_,⟨z,rfl⟩,q⟩
  ·cases e
 | @lst p vs ds hq hl _=>
  cases e;exact ⟨_,.inl ⟨vs,hq,by cases vs<;>cases ds<;>simp_all⟩,q⟩
 | @tup p vs ds hq hl _=>
  cases e;exact ⟨_,.inr (.inl ⟨vs,hq,by cases vs<;>cases ds<;>simp_all⟩),q⟩
def cx (a b:FB):FB:=fun Γ=>(a Γ).bind fun c Γ'=>if c then b Γ' else .ok false Γ'
def d5 (a b:FB):FB:=fun Γ=>(a Γ).bind fun c Γ'=>if c then .ok true Γ' else b Γ'
def bY (a:FB):FB:=fun Γ=>(a Γ).bind fun c Γ'=>.ok (!c) Γ'
theorem IG {k:Bool->Ev->Out Bool} {R:Bool->Hp->Prop} (h:tT K W (fun Γ=>(ga Γ).bind k) σ H QB)
  (hk:∀(He:Hp) (O:List Addr) Γ1 b H1 Fs1,Same H H1->EnvOk K He O Fs1 H1 σ Γ1->WantsB K W He O Fs1 H1 σ QB (k b Γ1)->R b H1):tT K W ga σ H R:=by
 obtain ⟨He,O,Fs,Γ,E,h⟩:=h;have h:WantsB K W He O Fs H σ QB ((ga Γ).bind k):=h
 refine ⟨He,O,Fs,Γ,E,?_⟩
 cases e:ga Γ with
 | ok b Γ1=>rw [e] at h;exact fun H' Fs' s E' n=>hk He O Γ1 b H' Fs' s E' (WantsB.after (o:=k b Γ1) h s n)
 | er c Γ1=>rw [e] at h;exact h
 | no=>rw [e] at h;exact h
theorem WantsB.now {He:Hp} {O:List Addr} {Fs:List (List Addr)} {Γ:Ev} {b:Bool} (h:WantsB K W He O Fs H σ QB (.ok b Γ)) (E:EnvOk K He O Fs H σ Γ):QB b H:=h H Fs (Same.refl _) E fun _ z=>.inl z
theorem xR (h:tT K W (cx ga gb) σ H QB):EZ (tT K W ga) (tT K W gb) σ H QB:=by
 refine IG h fun He O Γ1 b H1 Fs1 s E w=>?_
 cases b with
 | true=>exact oA ⟨He,O,Fs1,Γ1,E,w⟩
 | false=>exact kH (WantsB.now w E)
theorem uX (h:tT K W (d5 ga gb) σ H QB):KI (tT K W ga) (tT K W gb) σ H QB:=by
 refine IG h fun He O Γ1 b H1 Fs1 s E w=>?_
 cases b with
 | false=>exact kH ⟨He,O,Fs1,Γ1,E,w⟩
 | true=>exact oA (WantsB.now w E)
theorem pR (h:tT K W (bY ga) σ H QB):EU (tT K W ga) σ H QB:=IG h fun He O Γ1 b H1 Fs1 s E w=>WantsB.now w E
def cV (fa fb:F1):F1:=aX fa fun p Γ=>match p.d with
 | .bool true=>fb Γ
 | .bool false=>.ok ⟨.leaf,.bool false⟩ Γ
 | _=>.no
def oK (fa:F1):F1:=aX fa fun p Γ=>match p.d with
 | .bool b=>.ok ⟨.leaf,.bool (!b)⟩ Γ
 | _=>.no
theorem BN (h:tE K W (cV fa fb) σ H Q):zG (tE K W fa) (tE K W fb) σ H Q:=by
 refine xf h fun He O Fs Γ1 p v H1 G Fs1 nd A w=>?_
 have r:=A.own.rep
 obtain ⟨s,d⟩:=p
 cases r with
 | bl b=>
  cases b with
  | true=>exact ⟨true,rfl,oA ⟨He,O,Fs1,Γ1,A.go,Wants.after w A.same A.newF⟩⟩
  | false=>exact ⟨false,rfl,kH (Wants.scal w (.bl false) A.same A.env (fun a ha=>LP _ ha) nd A.newF)⟩
 | _=>exact w.elim
theorem By (h:tE K W (oK fa) σ H Q):zD (tE K W fa) σ H Q:=by
 refine xf h fun He O Fs Γ1 p v H1 G Fs1 nd A w=>?_
 have r:=A.own.rep
 obtain ⟨s,d⟩:=p
 cases r with
 | bl b=>exact ⟨b,rfl,Wants.scal w (.bl _) A.same A.env (fun a ha=>LP _ ha) nd A.newF⟩
 | _=>exact w.elim
def oN (c:FB) (fa fb:F1):F1:=fun Γ=>(c Γ).bind fun b Γ'=>if b then fa Γ' else fb Γ'
theorem Ff (h:tE K W (oN ga fa fb) σ H Q):KL (tT K W ga) (tE K W fa) (tE K W fb) σ H Q:=by
 obtain ⟨He,O,Fs,Γ,E,h⟩:=h;refine ⟨He,O,Fs,Γ,E,?_⟩
 unfold oN at h
 cases e:ga Γ with
 | ok b Γ1=>
  rw [e] at h;intro H' Fs' s E' n
  have h':=Wants.after (o:=if b then fa Γ1 else fb Γ1) h s n
  cases b with
  | true=>exact oA ⟨He,O,Fs',Γ1,E',h'⟩
  | false=>exact kH ⟨He,O,Fs',Γ1,E',h'⟩
 | er c Γ1=>rw [e] at h;exact h
 | no=>rw [e] at h;exact h
def qG (g g':D->D->Option D) (fa fb fc:F1):F1:=aX fa fun p=>aX fb fun q=>fun Γ=>match g p.d q.d with
 | some (.bool true)=>if bz q.d then (fc Γ).bind fun z Γ'=>(match g' q.d z.d with | some d=>.ok ⟨.leaf,d⟩ Γ' | none=>.no) else .no
 | some (.bool false)=>.ok ⟨.leaf,.bool false⟩ Γ
 | _=>.no
theorem mi {r r':R2} {g g':D->D->Option D} (hg:GOp K r g) (hg':GOp K r' g') (h:tE K W (qG g g' fa fb fc) σ H Q):IF r r' (tE K W fa) (tE K W fb) (tE K W fc) σ H Q:=by
 refine Ay h ?_
 intro He O Fs Γ2 p q v u H1 H2 G1 G2 Fs2 nd s1 s2 E new o1 o2 w;have sub:∀a∈O,a∈G2++(G1++O):=fun a ha=>LP _ (LP _ ha)
 have newF:∀a∈Fs2.flatten,a∈Fs.flatten\/H a=none:=fun a ha=>new a (LP _ (LP _ ha))
 cases e:g p.d q.d with
 | none=>rw [e] at w;exact w.elim
 | some d=>
  rw [e] at w;refine hg v u H2 _ p.d q.d d o1.rep o2.rep e fun z s=>?_
  cases s with
  | bl b=>
   cases b with
   | false=>exact ⟨false,rfl,kH (Wants.scal w (.bl false) (s1.trans s2) E sub nd newF)⟩
   | true=>
    refine ⟨true,rfl,oA ?_⟩
    have w:Wants K W He O Fs H σ Q (if bz q.d then (fc Γ2).bind fun z Γ'=>(match g' q.d z.d with | some d=>.ok ⟨.leaf,d⟩ Γ' | none=>.no) else .no):=w
    cases hs:bz q.d with
    | false=>rw [hs] at w;exact w.elim
    | true=>
     rw [hs] at w;have w:Wants K W He O Fs H σ Q ((fc Γ2).bind fun z Γ'=>(match g' q.d z.d with | some d=>.ok ⟨.leaf,d⟩ Γ' | none=>.no)):=w
     have su:=o2.rep.sc hs
     refine ⟨He,O,Fs2,Γ2,E.drop sub nd,?_⟩
     cases e3:fc Γ2 with
     | ok p3 Γ3=>
      rw [e3] at w;intro v3 H3 G3 Fs3 A3;have w:Wants K W He O Fs H σ Q (match g' q.d p3.d with | some d=>.ok ⟨.leaf,d⟩ Γ3 | none=>.no):=w
      cases e4:g' q.d p3.d with
      | none=>rw [e4] at w;exact w.elim
      | some d4=>
       rw [e4] at w;exact hg' u v3 H3 Q q.d p3.d d4 su.rep A3.own.rep e4 fun z s=>Wants.scal w s ((s1.trans s2).trans A3.same) A3.env (fun a ha=>LP _ ha) nd fun a ha=>(A3.new a (LP _ ha)).elim (newF a) fun z=>.inr ((s1.trans s2).free z)
     | er c Γ3=>
      rw [e3] at w;exact fun H' Fs' s E'=>w H' Fs' ((s1.trans s2).trans s) E'
     | no=>rw [e3] at w;exact w
  | non=>exact w.elim
  | int i=>exact w.elim
  | str x=>exact w.elim
end
structure AftL (K:Fg) (He:Hp) (O:List Addr) (Fs:List (List Addr)) (H:Hp) (σ:St) (Γ':Ev) (ps:List PV) (vs:List V) (H':Hp) (Gs Fs':List (List Addr)):Prop where
 same:Same H H'
 len1:vs.length=ps.length
 len2:Gs.length=ps.length
 env:EnvOk K He (Gs.flatten++O) Fs' H' σ Γ'
 new:∀a∈Gs.flatten++Fs'.flatten,a∈Fs.flatten\/H a=none
 own:∀(i:Nat) v p G,vs[i]?=some v->ps[i]?=some p->Gs[i]?=some G->Own K (Gs.flatten++O++Fs'.flatten) H' p.s G v p.d
abbrev FL:=Ev->Out (List PV)
def wG (K:Fg) (W:XW) (He:Hp) (O:List Addr) (Fs:List (List Addr)) (H:Hp) (σ:St) (Q:List V->Hp->Prop) (o:Out (List PV)):Prop:=match o with
 | .ok ps Γ'=>∀vs H' Gs Fs',AftL K He O Fs H σ Γ' ps vs H' Gs Fs'->Q vs H'
 | .er c Γ'=>∀H' Fs',Same H H'->EnvOk K He O Fs' H' σ Γ'->W c σ H'
 | .no=>False
def tA (K:Fg) (W:XW) (f:FL):TA:=fun σ H Q=>∃He O Fs Γ,EnvOk K He O Fs H σ Γ/\wG K W He O Fs H σ Q (f Γ)
def ag:FL:=fun Γ=>.ok [] Γ
def ae (fa:F1) (fl:FL):FL:=fun Γ=>(fa Γ).bind fun p Γ1=>(fl Γ1).bind fun ps Γ2=>.ok (p::ps) Γ2
section
variable {K:Fg} {W:XW} {σ:St} {H:Hp} {Q:VK} {QL:List V->Hp->Prop} {fa fb:F1} {fl:FL}
theorem Bz (h:tA K W ag σ H QL):uy σ H QL:=by
 obtain ⟨He,O,Fs,Γ,E,h⟩:=h;exact h [] H [] Fs ⟨Same.refl _,rfl,rfl,by simpa using E,fun a ha=>.inl (by simpa using ha),fun i v p G e=>by simp at e⟩
theorem pY {α:Type} (A B C:List α):(A++(B++C)).Perm (B++(A++C)):=by
 rw [<-append_assoc,<-append_assoc];exact List.Perm.append_right _ perm_append_comm
theorem EnvOk.perm {He H:Hp} {O O':List Addr} {Fs:List (List Addr)} {Γ:Ev} (E:EnvOk K He O Fs H σ Γ) (p:O'.Perm O):EnvOk K He O' Fs H σ Γ:=E.drop (fun a ha=>p.mem_iff.mp ha) (p.nodup_iff.mpr E.ndO)
theorem Own.perm {H:Hp} {O O':List Addr} {s:Sh} {G:List Addr} {v:V} {d:D} (h:Own K O H s G v d) (p:∀a∈O',a∈O):Own K O' H s G v d:=h.mono (Same.refl _) fun a ha=>.inl (p a ha)
theorem pO (h:tA K W (ae fa fl) σ H QL):jH (tE K W fa) (tA K W fl) σ H QL:=by
 obtain ⟨He,O,Fs,Γ,E,h⟩:=h;refine ⟨He,O,Fs,Γ,E,?_⟩
 unfold ae at h
 cases e:fa Γ with
 | ok p Γ1=>
  rw [e] at h;intro v H1 G1 Fs1 A1;refine ⟨He,G1++O,Fs1,Γ1,A1.env,?_⟩
  have h:wG K W He O Fs H σ QL ((fl Γ1).bind fun ps Γ2=>.ok (p::ps) Γ2):=h
  cases e2:fl Γ1 with
  | ok ps Γ2=>
   rw [e2] at h;intro vs H2 Gs Fs2 A2;have pm:((G1::Gs).flatten++O).Perm (Gs.flatten++(G1++O)):=by
    rw [flatten_cons,append_assoc];exact pY _ _ _
   refine h (v::vs) H2 (G1::Gs) Fs2 ⟨A1.same.trans A2.same,by simp [A2.len1],by simp [A2.len2],A2.env.perm pm,fun a ha=>?_,fun i u q G h1 h2 h3=>?_⟩
   ·rcases LR ha with z | z
    ·rw [flatten_cons] at z
     rcases LR z with z | z
     ·exact A1.new a (LQ _ z)
     ·exact (A2.new a (LQ _ z)).elim (fun y=>A1.new a (LP _ y)) fun y=>.inr (A1.same.free y)
    ·exact (A2.new a (LP _ z)).elim (fun y=>A1.new a (LP _ y)) fun y=>.inr (A1.same.free y)
   ·have sub:∀a∈(G1::Gs).flatten++O++Fs2.flatten,a∈Gs.flatten++(G1++O)++Fs2.flatten:=fun a ha=>by
     rcases LR ha with z | z
     ·exact LQ _ (pm.mem_iff.mp z)
     ·exact LP _ z
    cases i with
    | zero=>
     simp at h1 h2 h3
     subst h1 h2 h3;refine (A1.own.mono A2.same fun a ha=>?_).perm sub
     rcases LR ha with z | z
     ·rcases LR z with z | z
      ·exact (A2.new a (LQ _ z)).elim (fun y=>.inl (LP _ y)) .inr
      ·exact .inl (LQ _ z)
     ·exact (A2.new a (LP _ z)).elim (fun y=>.inl (LP _ y)) .inr
    | succ i=>
     simp at h1 h2 h3
     exact (A2.own i u q G h1 h2 h3).perm sub
  | er c Γ2=>
   rw [e2] at h;exact fun H2 Fs2 s E2=>h H2 Fs2 (A1.same.trans s) E2.dropL
  | no=>rw [e2] at h;exact h
 | er c Γ1=>rw [e] at h;exact h
 | no=>rw [e] at h;exact h
theorem AftL.reps {He:Hp} {O:List Addr} {Fs Gs Fs':List (List Addr)} {Γ':Ev} {ps:List PV} {vs:List V} {H':Hp} (A:AftL K He O Fs H σ Γ' ps vs H' Gs Fs'):Reps K H' vs (ps.map (·.d)):=by
 refine ⟨by rw [length_map];exact A.len1,fun i v d h1 h2=>?_⟩
 rw [getElem?_map] at h2
 cases e:ps[i]? with
 | none=>rw [e] at h2;cases h2
 | some p=>
  rw [e] at h2
  cases h2;have hi:=(L0 e).1
  exact (A.own i v p (Gs[i]'(by rw [A.len2];exact hi)) h1 e (LV _)).rep
def aS (g:List D->Option D) (fl:FL):F1:=fun Γ=>(fl Γ).bind fun ps Γ'=>match g (ps.map (·.d)) with
 | some d=>.ok ⟨.leaf,d⟩ Γ'
 | none=>.no
def GCall (K:Fg) (r:List V->Hp->VK->Prop) (g:List D->Option D):Prop:=∀vs H Q ds d,Reps K H vs ds->g ds=some d->(∀v,Sc v d->Q v H)->r vs H Q
theorem pQ {r:List V->Hp->VK->Prop} {g:List D->Option D} (hg:GCall K r g) (h:tE K W (aS g fl) σ H Q):EX r (tA K W fl) σ H Q:=by
 obtain ⟨He,O,Fs,Γ,E,h⟩:=h;refine ⟨He,O,Fs,Γ,E,?_⟩
 unfold aS at h
 cases e:fl Γ with
 | ok ps Γ'=>
  rw [e] at h;intro vs H' Gs Fs' A
  have h:Wants K W He O Fs H σ Q (match g (ps.map (·.d)) with | some d=>.ok ⟨.leaf,d⟩ Γ' | none=>.no):=h
  cases e2:g (ps.map (·.d)) with
  | none=>rw [e2] at h;exact h.elim
  | some d=>
   rw [e2] at h;exact hg vs H' Q _ d A.reps e2 fun v s=>Wants.scal h s A.same A.env (fun a ha=>LP _ ha) E.ndO fun a ha=>A.new a (LP _ ha)
 | er c Γ'=>rw [e] at h;exact h
 | no=>rw [e] at h;exact h
theorem GCall.or {r r':List V->Hp->VK->Prop} {g g':List D->Option D} (h:GCall K r g) (h':GCall K r' g'):GCall K (fun xs H Q=>r xs H Q\/r' xs H Q) (fun ds=>(g ds).or (g' ds)):=by
 intro vs H Q ds d rs e k;have e:(g ds).or (g' ds)=some d:=e
 cases e1:g ds with
 | some z=>rw [e1] at e;cases e;exact .inl (h vs H Q ds _ rs e1 k)
 | none=>rw [e1] at e;exact .inr (h' vs H Q ds d rs (by simpa using e) k)
theorem Reps.one {vs:List V} {d:D} (h:Reps K H vs [d]):∃v,vs=[v]/\Rep K H v d:=by
 obtain ⟨hl,h⟩:=h;match vs,hl with
 | [v],_=>exact ⟨v,rfl,h 0 v d rfl rfl⟩
theorem Reps.two {vs:List V} {d e:D} (h:Reps K H vs [d,e]):∃v u,vs=[v,u]/\Rep K H v d/\Rep K H u e:=by
 obtain ⟨hl,h⟩:=h;match vs,hl with
 | [v,u],_=>exact ⟨v,u,rfl,h 0 v d rfl rfl,h 1 u e rfl rfl⟩
end
def Aa:List D->Option D
 | [.list xs]=>some (.int xs.length)
 | [.tuple xs]=>some (.int xs.length)
 | _=>none
def vV:List D->Option D
 | [.str x]=>if x.length<=sizeLine then some (.int x.length) else none
 | _=>none
abbrev aG:List D->Option D:=fun ds=>(Aa ds).or (vV ds)
theorem C9 {K:Fg}:GCall K (fun xs H Q=>(∃p ys,xs=[.ref p]/\(SqL K H p ys\/SqT K H p ys)/\Q (.int ys.length) H)\/∃z,xs=[.str z]/\z.length<=sizeLine/\Q (.int z.length) H) aG:=by
 refine GCall.or (g:=Aa) (g':=vV) (r:=fun xs H Q=>∃p ys,xs=[.ref p]/\(SqL K H p ys\/SqT K H p ys)/\Q (.int ys.length) H) (r':=fun xs H Q=>∃z,xs=[.str z]/\z.length<=sizeLine/\Q (.int z.length) H) ?_ ?_
 ·intro vs H Q ds d rs e k
  match ds,e with
  | [.list xs],e=>
   obtain ⟨v,rfl,r⟩:=rs.one
   cases e
   cases r with
   | @lst p us _ hq hl _=>exact ⟨p,us,rfl,.inl hq,by rw [hl];exact k _ (.int _)⟩
  | [.tuple xs],e=>
   obtain ⟨v,rfl,r⟩:=rs.one
   cases e
   cases r with
   | @tup p us _ hq hl _=>exact ⟨p,us,rfl,.inr hq,by rw [hl];exact k _ (.int _)⟩
 ·intro vs H Q ds d rs e k
  match ds,e with
  | [.str x],e=>
   obtain ⟨v,rfl,r⟩:=rs.one;simp only [vV] at e
   split at e
   ·rename_i z
    cases e
    cases r;exact ⟨x,rfl,z,k _ (.int _)⟩
   ·cases e
def oF:List D->Option D
 | [.int i]=>some (.int i)
 | [.bool b]=>some (.int (if b then 1 else 0))
 | _=>none
theorem Da {K:Fg}:GCall K (fun xs H Q=>(∃i,xs=[.int i]/\Q (.int i) H)\/∃k,xs=[.bl k]/\Q (.int (if k then 1 else 0)) H) oF:=by
 intro vs H Q ds d rs e k;match ds,e with
 | [.int i],e=>
  obtain ⟨v,rfl,r⟩:=rs.one
  cases e;cases r;exact .inl ⟨i,rfl,k _ (.int _)⟩
 | [.bool b],e=>
  obtain ⟨v,rfl,r⟩:=rs.one
  cases e;cases r;exact .inr ⟨b,rfl,k _ (.int _)⟩
def se:List D->Option D
 | [.int i,.int j]=>some (.int (if j>i then j else i))
 | _=>none
theorem C8 {K:Fg}:GCall K (fun xs H Q=>∃i j,xs=[.int i,.int j]/\Q (.int (if j>i then j else i)) H) se:=by
 intro vs H Q ds d rs e k;match ds,e with
 | [.int i,.int j],e=>
  obtain ⟨v,u,rfl,r,r'⟩:=rs.two
  cases e;cases r;cases r'
  exact ⟨i,j,rfl,k _ (.int _)⟩
def nL:List D->Option (List Bool)
 | []=>some []
 | .bool b::r=>(nL r).map (b :: ·)
 | _=>none
theorem Hu:∀{ds:List D} {bs:List Bool},nL ds=some bs->ds=bs.map PyData.bool
 | [],bs,h=>by cases h;rfl
 | .bool b::r,bs,h=>by
  simp only [nL] at h
  cases e:nL r with
  | none=>rw [e] at h;cases h
  | some cs=>rw [e] at h;cases h;rw [Hu e];rfl
 | .none::_,_,h=>by cases h
 | .int _::_,_,h=>by cases h
 | .str _::_,_,h=>by cases h
 | .list _::_,_,h=>by cases h
 | .tuple _::_,_,h=>by cases h
 | .dict _::_,_,h=>by cases h
def bL (any:Bool):List D->Option D
 | [.list xs]=>(nL xs).map fun bs=>.bool (if any then bs.any id else bs.all id)
 | _=>none
theorem Hw {K:Fg} {H:Hp}:∀{vs:List V} {bs:List Bool},Reps K H vs (bs.map PyData.bool)->vs=bs.map V.bl
 | [],[],_=>rfl
 | v::vs,b::bs,⟨hl,h⟩=>by
  have r:=h 0 v (.bool b) rfl rfl
  cases r;rw [Hw (bs:=bs) (vs:=vs) ⟨by simpa using hl,fun i v d h1 h2=>h (i+1) v d (by simpa using h1) (by simpa using h2)⟩]
  rfl
 | [],_::_,⟨hl,_⟩=>by simp at hl
 | _::_,[],⟨hl,_⟩=>by simp at hl
def B2 (K:Fg) (any:Bool):List V->Hp->VK->Prop:=fun xs H Q=>∃(p:Addr) (bs:List Bool),xs=[.ref p]/\SqL K H p (bs.map V.bl)/\Q (.bl (if any then bs.any id else bs.all id)) H
theorem vU {K:Fg} {any:Bool}:GCall K (B2 K any) (bL any):=by
 intro vs H Q ds d rs e k;match ds,e with
 | [.list xs],e=>
  obtain ⟨v,rfl,r⟩:=rs.one;simp only [bL] at e
  cases eb:nL xs with
  | none=>rw [eb] at e;cases e
  | some bs=>
   rw [eb] at e
   cases e;have:=Hu eb
   subst this
   cases r with
   | @lst p us _ hq hl hr=>
    have:=Hw ⟨hl,hr⟩
    subst this;exact ⟨p,bs,rfl,hq,k _ (.bl _)⟩
section
variable {X:Cx}
theorem j1 {bs:List Bool}:∀{its:List Value},Vals (bs.map V.bl) its->its=bs.map Value.bool:=by
 induction bs with
 | nil=>intro its h;cases h;rfl
 | cons b bs ih=>
  intro its h
  cases h with
  | cons r t=>
   cases (show _=Value.bool b from r)
   rw [ih t];rfl
theorem rh (bs:List Bool):(List.range bs.length).all (fun i=>bs.getD i false)=bs.all id:=by
 rw [Bool.eq_iff_iff,all_eq_true,all_eq_true];constructor
 ·intro h b hb
  obtain ⟨i,hi,e⟩:=List.mem_iff_getElem.mp hb;have:=h i (List.mem_range.mpr hi)
  rw [LW,LV hi] at this;rw [<-e];simpa using this
 ·intro h i hi
  have hi:=List.mem_range.mp hi
  rw [LW,LV hi];exact h _ (getElem_mem hi)
theorem rg (bs:List Bool):(List.range bs.length).any (fun i=>bs.getD i false)=bs.any id:=by
 rw [Bool.eq_iff_iff,any_eq_true,any_eq_true];constructor
 ·rintro ⟨i,hi,h⟩
  have hi:=List.mem_range.mp hi
  rw [LW,LV hi] at h;exact ⟨_,getElem_mem hi,h⟩
 ·rintro ⟨b,hb,h⟩
  obtain ⟨i,hi,e⟩:=List.mem_iff_getElem.mp hb;refine ⟨i,List.mem_range.mpr hi,?_⟩
  rw [LW,LV hi,e];exact h
theorem gF {prog:Program} {w:World} {A:Around} {bs:List Bool}:TruthOf prog w A (fun i v=>(bs.map Value.bool).toArray[i]?=some v) (fun i=>bs.getD i false):=by
 intro i v s Q E hP hQ;simp only [List.getElem?_toArray,getElem?_map] at hP
 cases e:bs[i]? with
 | none=>rw [e] at hP;cases hP
 | some b=>
  rw [e] at hP
  cases hP;have hQ:Q (bs.getD i false) s:=hQ
  rw [LW,e] at hQ;exact wpAny_truthy_bool hQ
theorem sS (hc:X.calm=true):CallR X (.builtin "all") (B2 X.K false):=by
 intro pins s σ H vs us Q I rv h;obtain ⟨p,bs,rfl,hq,q⟩:=h;obtain ⟨u,rfl,ru⟩:=vals1 rv
 cases ru;obtain ⟨its,rv,pl,hz⟩:=I.list hq;have:=j1 rv
 subst this;have hd:=I.ok.hd hc
 refine call_all_walk (wpAny_pyIter_list pl.isList ?_)
 have ne:p≠s.heap.objs.size:=by
  obtain ⟨o,n,e,_⟩:=pl;exact Nat.ne_of_lt (Heap.lt_size e)
 refine ⟨s.heap.objs.size,_,_,_,_,_,fun i=>bs.getD i false,rfl,Walks.list (prog:=X.prog) (w:=X.w) (A:=X.A.in1) hd s.heap.objs.size p ne (bs.map Value.bool).toArray,⟨⟨_,Heap.get?_push_size _ rfl,rfl,rfl⟩,pl.isList.at fun o e=>L6 _ e⟩,gF,fun h' tk hk=>?_⟩
 refine ⟨.bl _,H,I.kept (h':=h') (t':=tk) fun b o e=>hk b o (fun z=>?_) (L6 _ e),rfl,?_⟩
 ·have z:b=s.heap.objs.size:=by simpa using z
  exact absurd (Heap.lt_size e) (by rw [z];exact Nat.lt_irrefl _)
 ·rw [size_toArray,length_map,rh]
  exact q
theorem sR (hc:X.calm=true):CallR X (.builtin "any") (B2 X.K true):=by
 intro pins s σ H vs us Q I rv h;obtain ⟨p,bs,rfl,hq,q⟩:=h;obtain ⟨u,rfl,ru⟩:=vals1 rv
 cases ru;obtain ⟨its,rv,pl,hz⟩:=I.list hq;have:=j1 rv
 subst this;have hd:=I.ok.hd hc
 refine call_any_walk (wpAny_pyIter_list pl.isList ?_)
 have ne:p≠s.heap.objs.size:=by
  obtain ⟨o,n,e,_⟩:=pl;exact Nat.ne_of_lt (Heap.lt_size e)
 refine ⟨s.heap.objs.size,_,_,_,_,_,fun i=>bs.getD i false,rfl,Walks.list (prog:=X.prog) (w:=X.w) (A:=X.A.in1) hd s.heap.objs.size p ne (bs.map Value.bool).toArray,⟨⟨_,Heap.get?_push_size _ rfl,rfl,rfl⟩,pl.isList.at fun o e=>L6 _ e⟩,gF,fun h' tk hk=>?_⟩
 refine ⟨.bl _,H,I.kept (h':=h') (t':=tk) fun b o e=>hk b o (fun z=>?_) (L6 _ e),rfl,?_⟩
 ·have z:b=s.heap.objs.size:=by simpa using z
  exact absurd (Heap.lt_size e) (by rw [z];exact Nat.lt_irrefl _)
 ·rw [size_toArray,length_map,rg]
  exact q
end
def nH (s:Sh) (j:Nat) (d:D):Option Sh:=match s with
 | .leaf=>some .leaf
 | .view=>some (if bz d then .leaf else .view)
 | .lst s=>some s
 | .tup ss=>ss[j]?
def ai (fa fb:F1):F1:=aX fa fun p=>aX fb fun q=>fun Γ=>match q.d with
 | .int i=>(match p.d with
  | .list ds=>(match eF ds.length i with
   | some j=>(match ds[j]? with
    | some d=>(match nH p.s j d with
     | some s=>.ok ⟨s,d⟩ Γ
     | none=>.no)
    | none=>.no)
   | none=>.no)
  | .tuple ds=>(match eF ds.length i with
   | some j=>(match ds[j]? with
    | some d=>(match nH p.s j d with
     | some s=>.ok ⟨s,d⟩ Γ
     | none=>.no)
    | none=>.no)
   | none=>.no)
  | .str z=>if z.length<=sizeLine then (match eY z.cps.toList i with
   | some c=>.ok ⟨.leaf,.str ⟨#[c]⟩⟩ Γ
   | none=>.no) else .no
  | _=>.no)
 | _=>.no
theorem Own.item {K:Fg} {O:List Addr} {H:Hp} {s s':Sh} {G:List Addr} {p:Addr} {ds:List D} {j:Nat} {d:D} (h:Own K O H s G (.ref p) (.list ds)) (hd:ds[j]?=some d) (hs:nH s j d=some s') :
  ∃vs v G',SqL K H p vs/\vs.length=ds.length/\vs[j]?=some v/\(∀a∈G',a∈G)/\G'.Nodup/\Own K O H s' G' v d:=by
 have hi:=(L0 hd).1
 cases h with
 | view r=>
  cases r with
  | @lst _ vs _ hq hl hr=>
   have hv:vs[j]?=some (vs[j]'(by omega)):=LV _
   have r':=hr j _ d hv hd
   simp only [nH,Option.some.injEq] at hs
   cases e:bz d with
   | true=>
    rw [e] at hs
    cases hs;exact ⟨vs,_,[],hq,hl,hv,(fun _ z=>nomatch z),nodup_nil,.leaf (r'.sc e).rep⟩
   | false=>
    rw [e] at hs
    cases hs;exact ⟨vs,_,[],hq,hl,hv,(fun _ z=>nomatch z),nodup_nil,.view r'⟩
 | leaf r=>
  cases r with
  | @lst _ vs _ hq hl hr=>
   have hv:vs[j]?=some (vs[j]'(by omega)):=LV _
   cases hs;exact ⟨vs,_,[],hid_le.seq hq,hl,hv,(fun _ z=>nomatch z),nodup_nil,.leaf (hr j _ d hv hd)⟩
 | @lst s₀ _ vs _ Fs hv hp hl hf nd hr=>
  have hv':vs[j]?=some (vs[j]'(by omega)):=LV _
  have hF:Fs[j]?=some (Fs[j]'(by omega)):=LV _
  cases hs;refine ⟨vs,_,_,.of hp,hl,hv',fun a ha=>LX _ (iU hF ha),?_,hr j _ d _ hv' hd hF⟩
  exact ((List.nodup_cons.mp nd).2).sublist (List.sublist_flatten_of_mem (mem_of_getElem? hF))
theorem Own.itemT {K:Fg} {O:List Addr} {H:Hp} {s s':Sh} {G:List Addr} {p:Addr} {ds:List D} {j:Nat} {d:D} (h:Own K O H s G (.ref p) (.tuple ds)) (hd:ds[j]?=some d) (hs:nH s j d=some s') :
  ∃vs v G',SqT K H p vs/\vs.length=ds.length/\vs[j]?=some v/\(∀a∈G',a∈G)/\G'.Nodup/\Own K O H s' G' v d:=by
 have hi:=(L0 hd).1
 cases h with
 | view r=>
  cases r with
  | @tup _ vs _ hq hl hr=>
   have hv:vs[j]?=some (vs[j]'(by omega)):=LV _
   have r':=hr j _ d hv hd
   simp only [nH,Option.some.injEq] at hs
   cases e:bz d with
   | true=>
    rw [e] at hs
    cases hs;exact ⟨vs,_,[],hq,hl,hv,(fun _ z=>nomatch z),nodup_nil,.leaf (r'.sc e).rep⟩
   | false=>
    rw [e] at hs
    cases hs;exact ⟨vs,_,[],hq,hl,hv,(fun _ z=>nomatch z),nodup_nil,.view r'⟩
 | leaf r=>
  cases r with
  | @tup _ vs _ hq hl hr=>
   have hv:vs[j]?=some (vs[j]'(by omega)):=LV _
   cases hs;exact ⟨vs,_,[],iR hid_le hq,hl,hv,(fun _ z=>nomatch z),nodup_nil,.leaf (hr j _ d hv hd)⟩
 | @tup ss _ vs _ Fs hv hp hn hl hf hl2 nd hr=>
  have hv':vs[j]?=some (vs[j]'(by omega)):=LV _
  have hF:Fs[j]?=some (Fs[j]'(by omega)):=LV _
  have hs:ss[j]?=some s':=hs
  refine ⟨vs,_,_,.of hp,hl,hv',fun a ha=>iU hF ha,?_,hr j _ d _ _ hv' hd hF hs⟩
  exact nd.sublist (List.sublist_flatten_of_mem (mem_of_getElem? hF))
theorem Wants.part {K:Fg} {W:XW} {σ:St} {He H H2:Hp} {O G G':List Addr} {Fs Fs2:List (List Addr)} {Γ':Ev} {Q:VK} {s:Sh} {v:V} {d:D} (h:Wants K W He O Fs H σ Q (.ok ⟨s,d⟩ Γ')) (e:Same H H2)
  (E:EnvOk K He (G++O) Fs2 H2 σ Γ') (sub:∀a∈G',a∈G) (nd:G'.Nodup) (new:∀a∈G++Fs2.flatten,a∈Fs.flatten\/H a=none) (o:Own K (G++O++Fs2.flatten) H2 s G' v d):Q v H2:=by
 have sub2:∀a∈G'++O,a∈G++O:=fun a ha=>by
  rcases LR ha with z | z
  ·exact LQ _ (sub a z)
  ·exact LP _ z
 obtain ⟨n1,n2,n3⟩:=LZ E.ndO;refine h v H2 G' Fs2 ⟨e,E.drop sub2 (List.nodup_append.mpr ⟨nd,n2,fun a ha b hb=>n3 a (sub a ha) b hb⟩),fun a ha=>new a ?_,o.perm fun a ha=>?_⟩
 ·rcases LR ha with z | z
  ·exact LQ _ (sub a z)
  ·exact LP _ z
 ·rcases LR ha with z | z
  ·exact LQ _ (sub2 a z)
  ·exact LP _ z
theorem wA {α β:Type} {xs:List α} {ys:List β} {i:Int} {j:Nat} {v:α} (hl:xs.length=ys.length) (h:eF ys.length i=some j) (hv:xs[j]?=some v):eY xs i=some v:=by
 unfold eY;rw [hl,h];exact hv
section
variable {K:Fg} {W:XW} {σ:St} {H:Hp} {Q:VK} {fa fb:F1}
theorem BF (h:tE K W (ai fa fb) σ H Q):xr (J8 K) (tE K W fa) (tE K W fb) σ H Q:=by
 refine Ay h ?_
 intro He O Fs Γ2 p q v u H1 H2 G1 G2 Fs2 nd s1 s2 E new o1 o2 w;obtain ⟨ps,pd⟩:=p;obtain ⟨qs,qd⟩:=q;have ri:=o2.rep
 cases qd<;>try exact w.elim
 rename_i i
 cases ri;have E':EnvOk K He ((G2++G1)++O) Fs2 H2 σ Γ2:=by rw [append_assoc];exact E
 have new':∀a∈(G2++G1)++Fs2.flatten,a∈Fs.flatten\/H a=none:=fun a ha=>new a (by rw [<-append_assoc];exact ha)
 have o1':Own K ((G2++G1)++O++Fs2.flatten) H2 ps G1 v pd:=o1.perm fun a ha=>by rw [append_assoc G2] at ha;exact ha
 have rp:=o1.rep
 cases pd with
 | list ds=>
  obtain ⟨p0,rfl⟩:∃p0,v=.ref p0:=by cases rp;exact ⟨_,rfl⟩
  have w:Wants K W He O Fs H σ Q (match eF ds.length i with | some j=>(match ds[j]? with | some d=>(match nH ps j d with | some s=>.ok ⟨s,d⟩ Γ2 | none=>.no) | none=>.no) | none=>.no):=w
  cases e1:eF ds.length i with
  | none=>rw [e1] at w;exact w.elim
  | some j=>
   rw [e1] at w;have w:Wants K W He O Fs H σ Q (match ds[j]? with | some d=>(match nH ps j d with | some s=>.ok ⟨s,d⟩ Γ2 | none=>.no) | none=>.no):=w
   cases e2:ds[j]? with
   | none=>rw [e2] at w;exact w.elim
   | some d=>
    rw [e2] at w;have w:Wants K W He O Fs H σ Q (match nH ps j d with | some s=>.ok ⟨s,d⟩ Γ2 | none=>.no):=w
    cases e3:nH ps j d with
    | none=>rw [e3] at w;exact w.elim
    | some s=>
     rw [e3] at w;obtain ⟨vs,v',G',h1,h2,h3,h4,h5,h6⟩:=o1'.item e2 e3
     exact .inl ⟨p0,vs,i,v',rfl,rfl,h1,wA h2 e1 h3,Wants.part w (s1.trans s2) E' (fun a ha=>LP _ (h4 a ha)) h5 new' h6⟩
 | tuple ds=>
  obtain ⟨p0,rfl⟩:∃p0,v=.ref p0:=by cases rp;exact ⟨_,rfl⟩
  have w:Wants K W He O Fs H σ Q (match eF ds.length i with | some j=>(match ds[j]? with | some d=>(match nH ps j d with | some s=>.ok ⟨s,d⟩ Γ2 | none=>.no) | none=>.no) | none=>.no):=w
  cases e1:eF ds.length i with
  | none=>rw [e1] at w;exact w.elim
  | some j=>
   rw [e1] at w;have w:Wants K W He O Fs H σ Q (match ds[j]? with | some d=>(match nH ps j d with | some s=>.ok ⟨s,d⟩ Γ2 | none=>.no) | none=>.no):=w
   cases e2:ds[j]? with
   | none=>rw [e2] at w;exact w.elim
   | some d=>
    rw [e2] at w;have w:Wants K W He O Fs H σ Q (match nH ps j d with | some s=>.ok ⟨s,d⟩ Γ2 | none=>.no):=w
    cases e3:nH ps j d with
    | none=>rw [e3] at w;exact w.elim
    | some s=>
     rw [e3] at w;obtain ⟨vs,v',G',h1,h2,h3,h4,h5,h6⟩:=o1'.itemT e2 e3
     exact .inr (.inl ⟨p0,vs,i,v',rfl,rfl,h1,wA h2 e1 h3,Wants.part w (s1.trans s2) E' (fun a ha=>LP _ (h4 a ha)) h5 new' h6⟩)
 | str z=>
  cases rp;have w:Wants K W He O Fs H σ Q (if z.length<=sizeLine then (match eY z.cps.toList i with | some c=>.ok ⟨.leaf,.str ⟨#[c]⟩⟩ Γ2 | none=>.no) else .no):=w
  by_cases hz:z.length<=sizeLine
  ·rw [if_pos hz] at w
   cases e1:eY z.cps.toList i with
   | none=>rw [e1] at w;exact w.elim
   | some c=>
    rw [e1] at w;exact .inr (.inr ⟨z,i,c,rfl,rfl,hz,e1,Wants.scal w (.str _) (s1.trans s2) E (fun a ha=>LP _ (LP _ ha)) nd fun a ha=>new a (LP _ (LP _ ha))⟩)
  ·rw [if_neg hz] at w
   exact w.elim
 | none=>exact w.elim
 | bool b=>exact w.elim
 | int k=>exact w.elim
 | dict k=>exact w.elim
end
theorem mQ (s:Sh):∀Gs:List (List Addr),((Gs.map (bt s)).flatten).Sublist Gs.flatten
 | []=>List.Sublist.refl _
 | G::Gs=>by
  simp only [map_cons,flatten_cons]
  refine List.Sublist.append ?_ (mQ s Gs)
  unfold bt;split
  ·exact List.nil_sublist _
  ·exact List.Sublist.refl _
theorem jQ:∀Gs:List (List Addr),(Gs.map (bt .leaf)).flatten=[]
 | []=>rfl
 | _::Gs=>by simp only [map_cons,flatten_cons,jQ Gs];rfl
section
variable {K:Fg} {W:XW} {σ:St} {He H H':Hp} {O:List Addr} {Fs Fs' Gs:List (List Addr)} {Γ':Ev} {ps:List PV} {vs:List V} {Q:VK}
theorem AftL.newList {s:Sh} {p:Addr} (A:AftL K He O Fs H σ Γ' ps vs H' Gs Fs') (hs:s.isView=false) (hc:ps.all (T.coer s)=true) (hp:H' p=none) :
  Aft K He O Fs H σ Γ' ⟨.lst s,.list (ps.map (·.d))⟩ (.ref p) (cy H' p (.lst vs)) (p::(Gs.map (bt s)).flatten) Fs':=by
 obtain ⟨n1,n2,n3⟩:=LZ A.env.ndO;obtain ⟨m1,m2,m3⟩:=LZ A.env.nd;have hsub:=mQ s Gs
 have E1:EnvOk K He ((Gs.map (bt s)).flatten++O) Fs' H' σ Γ':=A.env.drop (fun a ha=>by
   rcases LR ha with z | z
   ·exact LQ _ (hsub.subset z)
   ·exact LP _ z) (List.nodup_append.mpr ⟨n1.sublist hsub,n2,fun a ha b hb=>n3 a (hsub.subset ha) b hb⟩)
 have E2:=E1.hide (G:=[p]) (kd (o:=.lst vs) hp) (by simp) (fun a ha=>by simp at ha;rw [ha];exact hp) (fun a ha=>by simp at ha;rw [ha,iV];exact Option.some_ne_none _)
 have pn:∀{a},a∈Gs.flatten++O++Fs'.flatten->a≠p:=fun {a} ha z=>A.env.inH a ha (by rw [z];exact hp)
 refine ⟨A.same.trans (kd hp),E2,fun a ha=>?_,?_⟩
 ·rcases LR ha with z | z
  ·rcases LU z with z | z
   ·rw [z];exact .inr (A.same.free hp)
   ·exact A.new a (LQ _ (hsub.subset z))
  ·exact A.new a (LP _ z)
 ·refine .lst hs iV (by rw [length_map];exact A.len1) (by rw [length_map,length_map];exact A.len2) ?_ fun i v d F h1 h2 h3=>?_
  ·refine List.nodup_cons.mpr ⟨fun z=>pn (LQ _ (LQ _ (hsub.subset z))) rfl,n1.sublist hsub⟩
  ·rw [getElem?_map] at h2 h3
   cases e2:ps[i]? with
   | none=>rw [e2] at h2;cases h2
   | some q=>
    cases e3:Gs[i]? with
    | none=>rw [e3] at h3;cases h3
    | some G=>
     rw [e2] at h2;rw [e3] at h3
     cases h2
     cases h3;have cq:T.coer s q=true:=List.all_eq_true.mp hc q (mem_of_getElem? e2)
     have o1:=(A.own i v q G h1 e2 e3).mono (O':=p::(Gs.flatten++O++Fs'.flatten)) (kd (o:=.lst vs) hp) fun a ha=>by
      rcases LU ha with z | z
      ·rw [z];exact .inr hp
      ·exact .inl z
     refine o1.coer cq (fun a ha=>?_) fun a ha hO=>?_
     ·rw [append_assoc] at ha
      rcases LR ha with z | z
      ·rcases LU z with z | z
       ·rw [z];exact mem_cons_self
       ·exact LX _ (LQ _ (LQ _ (hsub.subset z)))
      ·rcases LR z with z | z
       ·exact LX _ (LQ _ (LP _ z))
       ·exact LX _ (LP _ z)
     ·have hG:a∈Gs.flatten:=iU e3 ha
      cases s with
      | leaf=>
       rw [jQ] at hO;exfalso
       rw [append_assoc] at hO;rcases LR hO with z | z
       ·have z:a=p:=by simpa using z
        exact pn (LQ _ (LQ _ hG)) z
       ·rcases LR z with z | z
        ·exact n3 a hG a z rfl
        ·exact m3 a (LQ _ hG) a z rfl
      | view=>cases hs
      | lst s=>exact ha
      | tup ss=>exact ha
def aM (s:Sh) (fl:FL):F1:=fun Γ=>(fl Γ).bind fun ps Γ'=>if !s.isView&&ps.all (T.coer s)&&decide (ps.length<=sizeLine) then .ok ⟨.lst s,.list (ps.map (·.d))⟩ Γ' else .no
theorem pN {s:Sh} {fl:FL} (h:tE K W (aM s fl) σ H Q):EV (tA K W fl) σ H Q:=by
 obtain ⟨He,O,Fs,Γ,E,h⟩:=h;refine ⟨He,O,Fs,Γ,E,?_⟩
 unfold aM at h
 cases e:fl Γ with
 | ok ps Γ'=>
  rw [e] at h;intro vs H' Gs Fs' A
  have h:Wants K W He O Fs H σ Q (if (!s.isView&&ps.all (T.coer s)&&decide (ps.length<=sizeLine))=true then .ok ⟨.lst s,.list (ps.map (·.d))⟩ Γ' else .no):=h
  by_cases hc:(!s.isView&&ps.all (T.coer s)&&decide (ps.length<=sizeLine))=true
  ·rw [if_pos hc] at h
   simp only [Bool.and_eq_true,decide_eq_true_eq,Bool.not_eq_true'] at hc
   exact ⟨by rw [A.len1];exact hc.2,fun p hp=>h _ _ _ _ (A.newList hc.1.1 hc.1.2 hp)⟩
  ·rw [if_neg hc] at h
   exact h.elim
 | er c Γ'=>rw [e] at h;exact h
 | no=>rw [e] at h;exact h
def zx (p:PV):Sh:=if p.s.isView then .leaf else p.s
def tok (p:PV):Bool:=!p.s.isView||bz p.d
theorem AftL.newTup {p:Addr} (A:AftL K He O Fs H σ Γ' ps vs H' Gs Fs') (hc:ps.all tok=true) (hp:H' p=none) :
  Aft K He O Fs H σ Γ' ⟨.tup (ps.map zx),.tuple (ps.map (·.d))⟩ (.ref p) (cy H' p (.tup vs)) Gs.flatten Fs':=by
 obtain ⟨n1,n2,n3⟩:=LZ A.env.ndO;have pn:p∉Gs.flatten++O++Fs'.flatten:=fun ha=>A.env.inH p ha hp
 refine ⟨A.same.trans (kd hp),A.env.grow (kd hp),A.new,?_⟩
 refine .tup (fun s hs=>?_) iV pn (by rw [length_map];exact A.len1) (by rw [length_map];exact A.len2) (by rw [length_map,length_map]) n1 fun i v d F s h1 h2 h3 h4=>?_
 ·obtain ⟨q,_,rfl⟩:=List.mem_map.mp hs
  unfold zx;split
  ·rfl
  ·rename_i z;simpa using z
 ·rw [getElem?_map] at h2 h4
  cases e2:ps[i]? with
  | none=>rw [e2] at h2;cases h2
  | some q=>
   rw [e2] at h2 h4
   cases h2
   cases h4;have cq:tok q=true:=List.all_eq_true.mp hc q (mem_of_getElem? e2)
   have o1:=(A.own i v q F h1 e2 h3).mono (O':=Gs.flatten++O++Fs'.flatten) (kd (o:=.tup vs) hp) fun a ha=>.inl ha
   unfold zx
   cases hv:q.s.isView with
   | false=>exact o1
   | true=>
    unfold tok at cq;rw [hv] at cq;obtain ⟨s,d⟩:=q
    cases s with
    | view=>
     cases o1 with
     | view r=>exact .leaf (r.sc (by simpa using cq)).rep
    | _=>cases hv
def bB (fl:FL):F1:=fun Γ=>(fl Γ).bind fun ps Γ'=>if ps.all tok&&decide (ps.length<=sizeLine) then .ok ⟨.tup (ps.map zx),.tuple (ps.map (·.d))⟩ Γ' else .no
theorem Bv {fl:FL} (h:tE K W (bB fl) σ H Q):EO (tA K W fl) σ H Q:=by
 obtain ⟨He,O,Fs,Γ,E,h⟩:=h;refine ⟨He,O,Fs,Γ,E,?_⟩
 unfold bB at h
 cases e:fl Γ with
 | ok ps Γ'=>
  rw [e] at h;intro vs H' Gs Fs' A
  have h:Wants K W He O Fs H σ Q (if (ps.all tok&&decide (ps.length<=sizeLine))=true then .ok ⟨.tup (ps.map zx),.tuple (ps.map (·.d))⟩ Γ' else .no):=h
  by_cases hc:(ps.all tok&&decide (ps.length<=sizeLine))=true
  ·rw [if_pos hc] at h
   simp only [Bool.and_eq_true,decide_eq_true_eq] at hc
   exact ⟨by rw [A.len1];exact hc.2,fun p hp=>h _ _ _ _ (A.newTup hc.1 hp)⟩
  ·rw [if_neg hc] at h
   exact h.elim
 | er c Γ'=>rw [e] at h;exact h
 | no=>rw [e] at h;exact h
end
def dA (p:PV) (ds:List D):Bool:=!p.s.isView||ds.all bz
theorem Own.items {K:Fg} {O O':List Addr} {H:Hp} {s:Sh} {G:List Addr} {v:V} {ds:List D} (h:Own K O H s G v (.list ds)) (hc:dA ⟨s,.list ds⟩ ds=true) (h1:∀a∈O',a∈O) (h2:∀a∈G,a∉O') :
  ∃p vs,v=.ref p/\SqL K H p vs/\(s.isView=false->SqL K (cY H O') p vs)/\Reps K (cY H O') vs ds:=by
 have hr:=h.rep
 cases hv:s.isView with
 | false=>
  have r:=h.freeze hv h1 h2
  cases r with
  | @lst p vs _ hq hl hr=>exact ⟨p,vs,rfl,hid_le.seq hq,fun _=>hq,hl,hr⟩
 | true=>
  unfold dA at hc;have hc:ds.all bz=true:=by simpa [hv] using hc
  cases hr with
  | @lst p vs _ hq hl hr=>exact ⟨p,vs,rfl,hq,nofun,hl,fun i v d e1 e2=>((hr i v d e1 e2).sc (List.all_eq_true.mp hc d (mem_of_getElem? e2))).rep⟩
theorem Own.itemsT {K:Fg} {O O':List Addr} {H:Hp} {s:Sh} {G:List Addr} {v:V} {ds:List D} (h:Own K O H s G v (.tuple ds)) (hc:dA ⟨s,.tuple ds⟩ ds=true) (h1:∀a∈O',a∈O) (h2:∀a∈G,a∉O') :
  ∃p vs,v=.ref p/\SqT K H p vs/\(s.isView=false->SqT K (cY H O') p vs)/\Reps K (cY H O') vs ds:=by
 have hr:=h.rep
 cases hv:s.isView with
 | false=>
  have r:=h.freeze hv h1 h2
  cases r with
  | @tup p vs _ hq hl hr=>exact ⟨p,vs,rfl,iR hid_le hq,fun _=>hq,hl,hr⟩
 | true=>
  unfold dA at hc;have hc:ds.all bz=true:=by simpa [hv] using hc
  cases hr with
  | @tup p vs _ hq hl hr=>exact ⟨p,vs,rfl,hq,nofun,hl,fun i v d e1 e2=>((hr i v d e1 e2).sc (List.all_eq_true.mp hc d (mem_of_getElem? e2))).rep⟩
theorem Hn {K:Fg} {σ:St} {He H H1:Hp} {O:List Addr} {Fs Fs1:List (List Addr)} {Γ1:Ev} {vs:List V} {ds:List D} {p:Addr} (E:EnvOk K He O Fs1 H1 σ Γ1) (s:Same H H1) (n:∀a∈Fs1.flatten,a∈Fs.flatten\/H a=none)
  (hr:Reps K (cY H1 (O++Fs1.flatten)) vs ds) (hp:H1 p=none):Aft K He O Fs H σ Γ1 ⟨.lst .leaf,.list ds⟩ (.ref p) (cy H1 p (.lst vs)) [p] Fs1:=by
 have E2:=E.hide (G:=[p]) (kd (o:=.lst vs) hp) (by simp) (fun a ha=>by simp at ha;rw [ha];exact hp) (fun a ha=>by simp at ha;rw [ha,iV];exact Option.some_ne_none _)
 refine ⟨s.trans (kd hp),E2,fun a ha=>?_,?_⟩
 ·rcases LR ha with z | z
  ·have z:a=p:=by simpa using z
   rw [z];exact .inr (s.free hp)
  ·exact n a z
 ·have fl:(List.replicate ds.length ([]:List Addr)).flatten=[]:=by simp
  have:[p]=p::(List.replicate ds.length ([]:List Addr)).flatten:=by rw [fl]
  rw [this];refine .lst rfl iV hr.1 (by simp) (by rw [fl];simp) fun i v d F h1 h2 h3=>?_
  rw [getElem?_replicate] at h3;split at h3
  ·cases h3
   refine .leaf ((hr.2 i v d h1 h2).mono (xk (kd hp) fun a ha=>?_))
   rw [fl] at ha;rcases LR ha with z | z
   ·rcases LR z with z | z
    ·have z:a=p:=by simpa using z
     rw [z];exact .inr hp
    ·exact .inl (LQ _ z)
   ·exact .inl (LP _ z)
  ·cases h3
def hV (fa:F1):F1:=aX fa fun p Γ=>match p.d with
 | .list ds=>if dA p ds then .ok ⟨.lst .leaf,.list ds⟩ Γ else .no
 | .tuple ds=>if dA p ds then .ok ⟨.lst .leaf,.list ds⟩ Γ else .no
 | _=>.no
section
variable {K:Fg} {W:XW} {σ:St} {H:Hp} {Q:VK} {fa fb:F1}
theorem Aft.disj {He H1:Hp} {O G:List Addr} {Fs Fs1:List (List Addr)} {Γ1:Ev} {p:PV} {v:V} (A:Aft K He O Fs H σ Γ1 p v H1 G Fs1):∀a∈G,a∉O++Fs1.flatten:=fun a ha z=>by
 have nd:=A.env.nd
 rw [append_assoc] at nd;exact (LZ nd).2.2 a ha a z rfl
theorem ig {G O F:List Addr}:∀a∈O++F,a∈G++O++F:=fun a ha=>by
 rw [append_assoc];exact LP _ ha
theorem rd (h:tE K W (hV fa) σ H Q):EX (fun xs H Q=>∃p ys,xs=[.ref p]/\(SqL K H p ys\/SqT K H p ys)/\∀l,H l=none->Q (.ref l) (cy H l (.lst ys))) (tA K W (ae fa ag)) σ H Q:=by
 have h1:tE K W fa σ H fun x H1=>∃p ys,x=.ref p/\(SqL K H1 p ys\/SqT K H1 p ys)/\∀l,H1 l=none->Q (.ref l) (cy H1 l (.lst ys)):=by
  refine xf h fun He O Fs Γ1 p v H1 G Fs1 nd A w=>?_
  obtain ⟨s,d⟩:=p
  cases d with
  | list ds=>
   have w:Wants K W He O Fs H σ Q (if dA ⟨s,.list ds⟩ ds then .ok ⟨.lst .leaf,.list ds⟩ Γ1 else .no):=w
   cases hc:dA ⟨s,.list ds⟩ ds with
   | false=>rw [hc] at w;exact w.elim
   | true=>
    rw [hc] at w;obtain ⟨p,vs,rfl,hq,_,hr⟩:=A.own.items (O':=O++Fs1.flatten) hc ig A.disj
    exact ⟨p,vs,rfl,.inl hq,fun l hl=>w _ _ _ _ (Hn A.go A.same A.newF hr hl)⟩
  | tuple ds=>
   have w:Wants K W He O Fs H σ Q (if dA ⟨s,.tuple ds⟩ ds then .ok ⟨.lst .leaf,.list ds⟩ Γ1 else .no):=w
   cases hc:dA ⟨s,.tuple ds⟩ ds with
   | false=>rw [hc] at w;exact w.elim
   | true=>
    rw [hc] at w;obtain ⟨p,vs,rfl,hq,_,hr⟩:=A.own.itemsT (O':=O++Fs1.flatten) hc ig A.disj
    exact ⟨p,vs,rfl,.inr hq,fun l hl=>w _ _ _ _ (Hn A.go A.same A.newF hr hl)⟩
  | _=>exact w.elim
 obtain ⟨He,O,Fs,Γ,E,h1⟩:=h1;refine ⟨He,O,Fs,Γ,E,?_⟩
 unfold ae ag
 cases e:fa Γ with
 | ok p Γ'=>
  rw [e] at h1;intro vs H' Gs Fs' A
  match vs,Gs,A.len1,A.len2 with
  | [v],[G],_,_=>
   have A':Aft K He O Fs H σ Γ' p v H' G Fs':=⟨A.same,by simpa using A.env,by simpa using A.new,by simpa using A.own 0 v p G rfl rfl rfl⟩
   obtain ⟨q,ys,rfl,h2,h3⟩:=h1 v H' G Fs' A'
   exact ⟨q,ys,rfl,h2,h3⟩
 | er c Γ'=>rw [e] at h1;exact h1
 | no=>rw [e] at h1;exact h1
end
structure wL (J:It) (P:Hp->Prop) (vs:List V):Prop where
 go:∀(i:Nat) H v,P H->vs[i]?=some v->J.go i H/\∀x H',J.yld i H x H'->H'=H/\x=v
 stop:∀H,P H->J.stop vs.length H
theorem yq {K:Fg} {a:Addr} {vs:List V}:wL (Ig K a) (fun H=>SqL K H a vs) vs:=
 ⟨fun i H v hp hv=>⟨⟨vs,v,hp,hv⟩,fun x H' ⟨e,q⟩=>⟨e,Option.some.inj ((q vs hp).symm.trans hv)⟩⟩,fun H hp=>⟨vs,hp,L7 _⟩⟩
theorem CT {K:Fg} {a:Addr} {vs:List V}:wL (Ie K a) (fun H=>SqT K H a vs) vs:=
 ⟨fun i H v hp hv=>⟨⟨vs,v,hp,hv⟩,fun x H' ⟨e,q⟩=>⟨e,Option.some.inj ((q vs hp).symm.trans hv)⟩⟩,fun H hp=>⟨vs,hp,L7 _⟩⟩
def fg (lo:Int) (n:Nat):List V:=(List.range n).map fun i=>.int (lo+(i:Nat))
def cz (lo:Int) (n:Nat):List D:=(List.range n).map fun i=>.int (lo+(i:Nat))
theorem vy {lo:Int} {n:Nat}:wL (DH lo n) (fun _=>True) (fg lo n):=by
 refine ⟨fun i H v _ hv=>?_,fun H _=>?_⟩
 ·unfold fg at hv
  rw [getElem?_map] at hv
  cases e:(List.range n)[i]? with
  | none=>rw [e] at hv;cases hv
  | some k=>
   rw [e] at hv;obtain ⟨h1,h2⟩:=L0 e
   simp at h1 h2
   subst h2
   cases hv;exact ⟨h1,fun x H' ⟨q1,q2⟩=>⟨q1,q2⟩⟩
 ·show n<=(fg lo n).length
  simp [fg]
theorem IR {K:Fg} {H:Hp} {lo:Int} {n:Nat}:Reps K H (fg lo n) (cz lo n):=by
 refine ⟨by simp [fg,cz],fun i v d h1 h2=>?_⟩
 unfold fg at h1;unfold cz at h2;rw [getElem?_map] at h1 h2
 cases e:(List.range n)[i]? with
 | none=>rw [e] at h1;cases h1
 | some k=>
  rw [e] at h1 h2
  cases h1
  cases h2;exact .int _
structure Lq where
 ds:List D
 st:Bool
abbrev FI:=Ev->Out Lq
def Eg (K:Fg) (W:XW) (He:Hp) (O:List Addr) (Fs:List (List Addr)) (H:Hp) (σ:St) (R:It->Hp->Prop) (o:Out Lq):Prop:=match o with
 | .ok t Γ'=>∀J H' Fs' vs P,Same H H'->EnvOk K He O Fs' H' σ Γ'->(∀a∈Fs'.flatten,a∈Fs.flatten\/H a=none)->wL J P vs->P H'->(∀H2,Same H' H2->P H2)->(t.st=true->∀H2,Same (cY H' Fs'.flatten) H2->P H2) ->
   Reps K (cY H' (O++Fs'.flatten)) vs t.ds->R J H'
 | .er c Γ'=>∀H' Fs',Same H H'->EnvOk K He O Fs' H' σ Γ'->W c σ H'
 | .no=>False
def tI (K:Fg) (W:XW) (f:FI):TI:=fun σ H R=>∃He O Fs Γ,EnvOk K He O Fs H σ Γ/\Eg K W He O Fs H σ R (f Γ)
theorem nF {X:Cx} {tg iter:Expr} {t t':TI} (h:PI X tg iter t) (i:∀σ H R,t' σ H R->t σ H R):PI X tg iter t':=fun pins s σ H R I q=>h pins s σ H R I (i σ H R q)
def aU (fa:F1):FI:=fun Γ=>(fa Γ).bind fun p Γ'=>match p.d with
 | .list ds=>if dA p ds then .ok ⟨ds,!p.s.isView⟩ Γ' else .no
 | _=>.no
def eu (fa:F1):FI:=fun Γ=>(fa Γ).bind fun p Γ'=>match p.d with
 | .tuple ds=>if dA p ds then .ok ⟨ds,!p.s.isView⟩ Γ' else .no
 | _=>.no
section
variable {K:Fg} {W:XW} {σ:St} {H:Hp} {R:It->Hp->Prop} {fa fb:F1}
theorem sub_hid {H:Hp} {O F:List Addr}:Same (cY H (O++F)) (cY H F):=xk (Same.refl _) fun a ha=>.inl (LP _ ha)
theorem xN (h:tI K W (aU fa) σ H R):zY K (tE K W fa) σ H R:=by
 obtain ⟨He,O,Fs,Γ,E,h⟩:=h;refine ⟨He,O,Fs,Γ,E,?_⟩
 unfold aU at h
 cases e:fa Γ with
 | ok p Γ1=>
  rw [e] at h;intro v H1 G Fs1 A;obtain ⟨s,d⟩:=p
  cases d with
  | list ds=>
   have h:Eg K W He O Fs H σ R (if dA ⟨s,.list ds⟩ ds then .ok ⟨ds,!s.isView⟩ Γ1 else .no):=h
   cases hc:dA ⟨s,.list ds⟩ ds with
   | false=>rw [hc] at h;exact h.elim
   | true=>
    rw [hc] at h;obtain ⟨p,vs,rfl,hq,hst,hr⟩:=A.own.items (O':=O++Fs1.flatten) hc ig A.disj
    exact ⟨p,rfl,⟨vs,hq⟩,h (Ig K p) H1 Fs1 vs (fun H=>SqL K H p vs) A.same A.go A.newF yq hq (fun H2 s2=>s2.seq hq) (fun ht H2 s2=>s2.seq (sub_hid.seq (hst (by simpa using ht)))) hr⟩
  | _=>exact h.elim
 | er c Γ'=>rw [e] at h;exact h
 | no=>rw [e] at h;exact h
theorem xM (h:tI K W (eu fa) σ H R):FV K (tE K W fa) σ H R:=by
 obtain ⟨He,O,Fs,Γ,E,h⟩:=h;refine ⟨He,O,Fs,Γ,E,?_⟩
 unfold eu at h
 cases e:fa Γ with
 | ok p Γ1=>
  rw [e] at h;intro v H1 G Fs1 A;obtain ⟨s,d⟩:=p
  cases d with
  | tuple ds=>
   have h:Eg K W He O Fs H σ R (if dA ⟨s,.tuple ds⟩ ds then .ok ⟨ds,!s.isView⟩ Γ1 else .no):=h
   cases hc:dA ⟨s,.tuple ds⟩ ds with
   | false=>rw [hc] at h;exact h.elim
   | true=>
    rw [hc] at h;obtain ⟨p,vs,rfl,hq,hst,hr⟩:=A.own.itemsT (O':=O++Fs1.flatten) hc ig A.disj
    exact ⟨p,rfl,⟨vs,hq⟩,h (Ie K p) H1 Fs1 vs (fun H=>SqT K H p vs) A.same A.go A.newF CT hq (fun H2 s2=>iR s2 hq) (fun ht H2 s2=>iR s2 (iR sub_hid (hst (by simpa using ht)))) hr⟩
  | _=>exact h.elim
 | er c Γ'=>rw [e] at h;exact h
 | no=>rw [e] at h;exact h
def cn (j:Int):Bool:=decide (-(2 ^ 62)<=j)&&decide (j<2 ^ 62)
def i9:List D->Option Int
 | [.int j]=>if cn j then some j else none
 | _=>none
def qY:List D->Option (Int×Int)
 | [.int i,.int j]=>if cn i&&cn j then some (i,j) else none
 | _=>none
theorem pJ {ds:List D} {j:Int} (h:i9 ds=some j):ds=[.int j]/\-(2 ^ 62)<=j/\j<2 ^ 62:=by
 unfold i9 at h;split at h
 ·split at h
  ·rename_i hc
   cases h;simp only [cn,Bool.and_eq_true,decide_eq_true_eq] at hc
   exact ⟨rfl,hc.1,hc.2⟩
  ·cases h
 ·cases h
theorem xA {ds:List D} {i j:Int} (h:qY ds=some (i,j)):ds=[.int i,.int j]/\(-(2 ^ 62)<=i/\i<2 ^ 62/\-(2 ^ 62)<=j/\j<2 ^ 62):=by
 unfold qY at h;split at h
 ·split at h
  ·rename_i hc
   cases h;simp only [cn,Bool.and_eq_true,decide_eq_true_eq] at hc
   exact ⟨rfl,hc.1.1,hc.1.2,hc.2.1,hc.2.2⟩
  ·cases h
 ·cases h
def dq (fl:FL):FI:=fun Γ=>(fl Γ).bind fun ps Γ'=>match i9 (ps.map (·.d)) with
 | some j=>.ok ⟨cz 0 j.toNat,true⟩ Γ'
 | none=>.no
def vN (fl:FL):FI:=fun Γ=>(fl Γ).bind fun ps Γ'=>match qY (ps.map (·.d)) with
 | some (i,j)=>.ok ⟨cz i (j-i).toNat,true⟩ Γ'
 | none=>.no
theorem BH {fl:FL} (h:tI K W (dq fl) σ H R):zX (tA K W fl) σ H R:=by
 obtain ⟨He,O,Fs,Γ,E,h⟩:=h;refine ⟨He,O,Fs,Γ,E,?_⟩
 unfold dq at h
 cases e:fl Γ with
 | ok ps Γ1=>
  rw [e] at h;intro vs H1 Gs Fs1 A;have h:Eg K W He O Fs H σ R (match i9 (ps.map (·.d)) with | some j=>.ok ⟨cz 0 j.toNat,true⟩ Γ1 | none=>.no):=h
  have rs:=A.reps
  cases e1:i9 (ps.map (·.d)) with
  | none=>rw [e1] at h;exact h.elim
  | some j=>
   rw [e1] at h;obtain ⟨e2,h1,h2⟩:=pJ e1;rw [e2] at rs;obtain ⟨v,rfl,r⟩:=rs.one
   cases r;exact ⟨j,rfl,h1,h2,h (DH 0 j.toNat) H1 Fs1 (fg 0 j.toNat) (fun _=>True) A.same A.env.dropL (fun a ha=>A.new a (LP _ ha)) vy trivial (fun _ _=>trivial) (fun _ _ _=>trivial) IR⟩
 | er c Γ'=>rw [e] at h;exact h
 | no=>rw [e] at h;exact h
theorem BG {fl:FL} (h:tI K W (vN fl) σ H R):zW (tA K W fl) σ H R:=by
 obtain ⟨He,O,Fs,Γ,E,h⟩:=h;refine ⟨He,O,Fs,Γ,E,?_⟩
 unfold vN at h
 cases e:fl Γ with
 | ok ps Γ1=>
  rw [e] at h;intro vs H1 Gs Fs1 A;have h:Eg K W He O Fs H σ R (match qY (ps.map (·.d)) with | some (i,j)=>.ok ⟨cz i (j-i).toNat,true⟩ Γ1 | none=>.no):=h
  have rs:=A.reps
  cases e1:qY (ps.map (·.d)) with
  | none=>rw [e1] at h;exact h.elim
  | some ij=>
   obtain ⟨i,j⟩:=ij;rw [e1] at h;obtain ⟨e2,hb⟩:=xA e1;rw [e2] at rs;obtain ⟨v,u,rfl,r,r'⟩:=rs.two
   cases r
   cases r'
   exact ⟨i,j,rfl,hb,h (DH i (j-i).toNat) H1 Fs1 (fg i (j-i).toNat) (fun _=>True) A.same A.env.dropL (fun a ha=>A.new a (LP _ ha)) vy trivial (fun _ _=>trivial) (fun _ _ _=>trivial) IR⟩
 | er c Γ'=>rw [e] at h;exact h
 | no=>rw [e] at h;exact h
end
def qF (i:Nat) (fc:FB) (fe:F1) (s:Sh):List D->Ev->List D->Out (List D)
 | [],Γ,acc=>.ok acc Γ
 | d::r,Γ,acc=>match fc (Γ.set i (L9 d)) with
  | .ok true Γ1=>(match fe Γ1 with
   | .ok p Γ2=>if T.coer s p&&decide (acc.length<sizeLine) then qF i fc fe s r (Γ2.set i none) (acc++[p.d]) else .no
   | _=>.no)
  | .ok false Γ1=>if acc.length<sizeLine then qF i fc fe s r (Γ1.set i none) acc else .no
  | _=>.no
def aA (s:Sh) (i:Nat) (fi:FI) (fc:FB) (fe:F1):F1:=fun Γ=>(fi Γ).bind fun t Γ1=>match qF i fc fe s t.ds (Γ1.set i none) [] with
 | .ok ds Γ2=>if !s.isView&&decide (i<Γ1.length) then .ok ⟨.lst s,.list ds⟩ (Γ2.set i (Γ1.getD i none)) else .no
 | _=>.no
abbrev W0:XW:=fun _ _ _=>False
section
variable {K:Fg} {He H H1 H2:Hp} {O G:List Addr} {Fs Fs1 Fs2:List (List Addr)} {σ:St} {Γ Γ1 Γ2:Ev}
theorem nC {is:List Nat} {σ:St} {j:Nat} (h:j∉is):(bM is σ)[j]?=σ[j]?:=by
 unfold bM;rw [List.getElem?_mapIdx]
 cases σ[j]? with
 | none=>rfl
 | some o=>simp [h]
theorem fM {Γ:Ev} {i j:Nat} {p:PV} (h:(Γ.set i none)[j]?=some (some p)):j≠i/\Γ[j]?=some (some p):=by
 by_cases hj:j=i
 ·subst hj
  rw [List.getElem?_set] at h;split at h
  ·split at h<;>cases h
  ·rename_i z;exact absurd rfl z
 ·rw [getElem?_set_ne (Ne.symm hj)] at h
  exact ⟨hj,h⟩
theorem EnvOk.shut {i:Nat} (E:EnvOk K He O Fs H σ Γ) (hi:i<Γ.length) :
  ∃F,Fs[i]?=some F/\EnvOk K He (F++O) (Fs.set i []) H (bM [i] σ) (Γ.set i none)/\∀a,a∈F++(Fs.set i []).flatten↔a∈Fs.flatten:=by
 obtain ⟨F,hF⟩:=E.lt hi;have pm:(F++(Fs.set i []).flatten).Perm Fs.flatten:=by simpa using pf (G:=[]) hF
 have pm2:(F++O++(Fs.set i []).flatten).Perm (O++Fs.flatten):=by
  rw [append_assoc];exact (pY _ _ _).trans (List.Perm.append_left _ pm)
 refine ⟨F,hF,⟨by rw [Hh,length_set];exact E.len1,by rw [length_set,length_set];exact E.len2,E.same,pm2.nodup_iff.mpr E.nd,fun a ha=>E.inH a (pm2.mem_iff.mp ha),fun a ha=>E.fresh a (pm.mem_iff.mp (LP _ ha)),fun j q hq=>?_⟩,fun a=>pm.mem_iff⟩
 obtain ⟨hj,hq⟩:=fM hq;obtain ⟨w1,v',F',e1,e2,e3⟩:=E.slot j q hq;exact ⟨w1,v',F',by rw [nC (by simpa using hj)];exact e1,by rw [getElem?_set_ne (Ne.symm hj)];exact e2,e3.mono (Same.refl _) fun a ha=>.inl (pm2.mem_iff.mp ha)⟩
theorem EnvOk.forget {i:Nat} {x:Option V} (E:EnvOk K He O Fs H ((bM [i] σ).set i x) Γ) (hi:i<Γ.length):EnvOk K He O (Fs.set i []) H (bM [i] σ) (Γ.set i none):=by
 obtain ⟨F,hF⟩:=E.lt hi;have pm:(F++(Fs.set i []).flatten).Perm Fs.flatten:=by simpa using pf (G:=[]) hF
 have sub:∀a∈O++(Fs.set i []).flatten,a∈O++Fs.flatten:=fun a ha=>by
  rcases LR ha with z | z
  ·exact LQ _ z
  ·exact LP _ (pm.mem_iff.mp (LP _ z))
 have l1:=E.len1
 rw [length_set] at l1;obtain ⟨n1,n2,n3⟩:=LZ E.nd;have n4:((Fs.set i []).flatten).Nodup:=(LZ (pm.nodup_iff.mpr n2)).2.1
 refine ⟨by rw [length_set];exact l1,by rw [length_set,length_set];exact E.len2,E.same,List.nodup_append.mpr ⟨n1,n4,fun a ha b hb=>n3 a ha b (pm.mem_iff.mp (LP _ hb))⟩,fun a ha=>E.inH a (sub a ha),fun a ha=>E.fresh a (pm.mem_iff.mp (LP _ ha)),fun j q hq=>?_⟩
 obtain ⟨hj,hq⟩:=fM hq;obtain ⟨w1,v',F',e1,e2,e3⟩:=E.slot j q hq;rw [getElem?_set_ne (Ne.symm hj)] at e1;exact ⟨w1,v',F',e1,by rw [getElem?_set_ne (Ne.symm hj)];exact e2,e3.mono (Same.refl _) fun a ha=>.inl (sub a ha)⟩
theorem EnvOk.reopen {i:Nat} {F:List Addr} (E1:EnvOk K He O Fs1 H1 σ Γ1) (hF:Fs1[i]?=some F) (E2:EnvOk K He (G++(F++O)) Fs2 H2 (bM [i] σ) Γ2) (hl:Γ2.length=Γ1.length) (s:Same H1 H2)
  (hn:Γ2[i]?=some none) (hF2:Fs2[i]?=some []) (new:∀a∈G++Fs2.flatten,a∈Fs1.flatten\/H1 a=none):EnvOk K He (G++O) (Fs2.set i F) H2 σ (Γ2.set i (Γ1.getD i none)):=by
 have pm:((Fs2.set i F).flatten).Perm (F++Fs2.flatten):=by simpa using pf (G:=F) hF2
 have pm2:(G++O++(Fs2.set i F).flatten).Perm (G++(F++O)++Fs2.flatten):=by
  refine (List.Perm.append_left _ pm).trans ?_
  rw [append_assoc,append_assoc];refine List.Perm.append_left _ ?_
  rw [append_assoc];exact pY _ _ _
 have hi:i<Γ2.length:=(L0 hn).1
 refine ⟨by rw [length_set,hl];exact E1.len1,by rw [length_set,length_set];exact E2.len2,E2.same,pm2.nodup_iff.mpr E2.nd,fun a ha=>E2.inH a (pm2.mem_iff.mp ha),fun a ha=>?_,fun j q hq=>?_⟩
 ·rcases LR (pm.mem_iff.mp ha) with z | z
  ·exact E1.fresh a (iU hF z)
  ·exact E2.fresh a z
 ·by_cases hj:j=i
  ·subst hj
   rw [getElem?_set_self hi] at hq;have hq:Γ1.getD j none=some q:=Option.some.inj hq
   rw [LW] at hq;have hq':Γ1[j]?=some (some q):=by
    cases e:Γ1[j]? with
    | none=>rw [e] at hq;cases hq
    | some o=>rw [e] at hq;simp only [Option.getD_some] at hq;rw [hq]
   obtain ⟨w1,v',F',e1,e2,e3⟩:=E1.slot j q hq'
   rw [hF] at e2
   cases e2;refine ⟨w1,v',F,e1,getElem?_set_self (by rw [E2.len2];exact hi),e3.mono s fun a ha=>?_⟩
   rcases LR ha with z | z
   ·rcases LR z with z | z
    ·exact (new a (LQ _ z)).elim (fun y=>.inl (LP _ y)) .inr
    ·exact .inl (LQ _ z)
   ·rcases LR (pm.mem_iff.mp z) with y | y
    ·exact .inl (LP _ (iU hF y))
    ·exact (new a (LP _ y)).elim (fun y=>.inl (LP _ y)) .inr
  ·rw [getElem?_set_ne (Ne.symm hj)] at hq
   obtain ⟨w1,v',F',e1,e2,e3⟩:=E2.slot j q hq;rw [nC (by simpa using hj)] at e1
   exact ⟨w1,v',F',e1,by rw [getElem?_set_ne (Ne.symm hj)];exact e2,e3.mono (Same.refl _) fun a ha=>.inl (pm2.mem_iff.mp ha)⟩
theorem EnvOk.mutO {p:Addr} {o:HO} {xs:List V} (E:EnvOk K He O Fs H σ Γ) (hp:p∈O) (hl:H p=some (.lst xs)) (hn:He p=none):EnvOk K He O Fs (cy H p o) σ Γ:=by
 obtain ⟨n1,n2,n3⟩:=LZ E.nd;refine ⟨E.len1,E.len2,fun b u e=>?_,E.nd,fun a ha=>?_,E.fresh,fun j q hq=>?_⟩
 ·rw [gf (xi e hn)]
  exact E.same b u e
 ·by_cases h:a=p
  ·rw [h,iV];exact Option.some_ne_none _
  ·rw [gf h];exact E.inH a ha
 ·obtain ⟨w1,v',F',e1,e2,e3⟩:=E.slot j q hq
  exact ⟨w1,v',F',e1,e2,e3.mut w1 (LQ _ hp) (fun z=>n3 p hp p (iU e2 z) rfl) hl⟩
end
structure Kz (K:Fg) (He:Hp) (O F:List Addr) (Fs1:List (List Addr)) (H1:Hp) (σ:St) (i:Nat) (s:Sh) (A0:Addr) (n:Nat) (ys:List V) (H:Hp) (Γk:Ev) (Fk Gs:List (List Addr)) (acc:List D):Prop where
 env:EnvOk K He (A0::Gs.flatten++(F++O)) Fk H (bM [i] σ) Γk
 same:Same H1 H
 at_:H A0=some (.lst ys)
 new:∀a∈Gs.flatten++Fk.flatten,a∈Fs1.flatten\/H1 a=none
 l1:ys.length=acc.length
 l2:Gs.length=acc.length
 own:∀(j:Nat) v d G,ys[j]?=some v->acc[j]?=some d->Gs[j]?=some G->Own K (A0::Gs.flatten++(F++O)++Fk.flatten) H s G v d
 noneG:Γk[i]?=some none
 noneF:Fk[i]?=some []
 len:Γk.length=n
theorem D1 {α:Type} (Gs:List (List α)) (G:List α):(Gs++[G]).flatten=Gs.flatten++G:=by simp
section
variable {K:Fg} {W:XW} {σ:St} {H:Hp} {Q:VK} {fe:F1} {fc:FB} {fi:FI} {s:Sh} {i:Nat}
theorem pP (h:tE K W (aA s i fi fc fe) σ H Q):pF [i] (tI K W fi) (gName i) (tT K W0 fc) (tE K W0 fe) σ H Q:=by
 obtain ⟨He,O,Fs,Γ,E,h⟩:=h;refine ⟨He,O,Fs,Γ,E,?_⟩
 unfold aA at h
 cases e:fi Γ with
 | er c Γ'=>rw [e] at h;exact h
 | no=>rw [e] at h;exact h
 | ok t Γ1=>
  rw [e] at h;intro J H1 Fs1 vs P s1 E1 n1 it hP hP1 _ hr A0 hD;have h:Wants K W He O Fs H σ Q (match qF i fc fe s t.ds (Γ1.set i none) [] with | .ok ds Γ2=>if !s.isView&&decide (i<Γ1.length) then .ok ⟨.lst s,.list ds⟩ (Γ2.set i (Γ1.getD i none)) else .no | _=>.no):=h
  cases eg:qF i fc fe s t.ds (Γ1.set i none) [] with
  | er c Γ'=>rw [eg] at h;exact h.elim
  | no=>rw [eg] at h;exact h.elim
  | ok ds' Γ2=>
   rw [eg] at h;have h:Wants K W He O Fs H σ Q (if (!s.isView&&decide (i<Γ1.length))=true then .ok ⟨.lst s,.list ds'⟩ (Γ2.set i (Γ1.getD i none)) else .no):=h
   by_cases hc:(!s.isView&&decide (i<Γ1.length))=true
   case neg=>rw [if_neg hc] at h;exact h.elim
   rw [if_pos hc] at h;simp only [Bool.and_eq_true,decide_eq_true_eq,Bool.not_eq_true'] at hc
   obtain ⟨hsv,hi⟩:=hc;obtain ⟨F,hF,E0,hmem⟩:=E1.shut hi;have hHeD:He A0=none:=E1.same.free hD
   have E0':EnvOk K He (A0::([]:List (List Addr)).flatten++(F++O)) (Fs1.set i []) (cy H1 A0 (.lst [])) (bM [i] σ) (Γ1.set i none):=
    E0.hide (G:=[A0]) (kd hD) (by simp) (fun a ha=>by simp at ha;rw [ha];exact hD) (fun a ha=>by simp at ha;rw [ha,iV];exact Option.some_ne_none _)
   refine ⟨fun k m ys H'=>m=vs.length-k/\k<=vs.length/\∃Γk Fk Gs acc,Kz K He O F Fs1 H1 σ i s A0 Γ1.length ys H' Γk Fk Gs acc/\qF i fc fe s (t.ds.drop k) Γk acc=.ok ds' Γ2,⟨vs.length,by simp,Nat.zero_le _,Γ1.set i none,Fs1.set i [],[],[],⟨E0',kd hD,iV,fun a ha=>.inl ((hmem a).mp (LP _ (by simpa using ha))),rfl,rfl,fun j v d G h1=>by simp at h1,getElem?_set_self hi,getElem?_set_self (by rw [E1.len2];exact hi),by rw [length_set]⟩,by simpa using eg⟩,?_⟩
   rintro k m ys H' ⟨rfl,hk,Γk,Fk,Gs,acc,g,eg'⟩
   refine ⟨g.at_,?_⟩
   have hPk:P H':=hP1 H' g.same
   have hlen:vs.length=t.ds.length:=hr.1
   by_cases hlt:k<vs.length
   case neg=>
    have hke:k=vs.length:=by omega
    left
    have:t.ds.drop k=[]:=List.drop_eq_nil_of_le (by omega)
    rw [this] at eg';have eg'':(Out.ok acc Γk:Out (List D))=.ok ds' Γ2:=eg'
    injection eg'' with e1 e2
    subst e1;subst e2;refine ⟨by rw [hke];exact it.stop H' hPk,?_⟩
    have E3:EnvOk K He ((A0::Gs.flatten)++O) (Fk.set i F) H' σ (Γk.set i (Γ1.getD i none)):=
     EnvOk.reopen (G:=A0::Gs.flatten) E1 hF g.env g.len g.same g.noneG g.noneF fun a ha=>by
      rcases LR ha with z | z
      ·rcases LU z with z | z
       ·rw [z];exact .inr hD
       ·exact g.new a (LQ _ z)
      ·exact g.new a (LP _ z)
    have pmF:((Fk.set i F).flatten).Perm (F++Fk.flatten):=by simpa using pf (G:=F) g.noneF
    obtain ⟨n1',_,n3'⟩:=LZ g.env.ndO;refine h (.ref A0) H' (A0::Gs.flatten) (Fk.set i F) ⟨s1.trans g.same,E3,fun a ha=>?_,?_⟩
    ·have up:a∈Fs1.flatten\/H1 a=none->a∈Fs.flatten\/H a=none:=fun z=>z.elim (n1 a) fun y=>.inr (s1.free y)
     rcases LR ha with z | z
     ·rcases LU z with z | z
      ·exact up (.inr (by rw [z];exact hD))
      ·exact up (g.new a (LQ _ z))
     ·rcases LR (pmF.mem_iff.mp z) with y | y
      ·exact up (.inl (iU hF y))
      ·exact up (g.new a (LP _ y))
    ·refine .lst hsv g.at_ g.l1 g.l2 n1' fun j v d G h1 h2 h3=>(g.own j v d G h1 h2 h3).perm fun a ha=>?_
     rw [append_assoc] at ha ⊢;rcases LR ha with z | z
     ·exact LQ _ z
     ·refine LP _ ?_
      rcases LR z with z | z
      ·exact LQ _ (LP _ z)
      ·rcases LR (pmF.mem_iff.mp z) with y | y
       ·exact LQ _ (LQ _ y)
       ·exact LP _ y
   case pos=>
    right
    have hv:vs[k]?=some vs[k]:=LV hlt
    have hkd:k<t.ds.length:=by omega
    have hd:t.ds[k]?=some t.ds[k]:=LV hkd
    have hdr:t.ds.drop k=t.ds[k]::t.ds.drop (k+1):=drop_eq_getElem_cons hkd
    rw [hdr] at eg';generalize hdk:t.ds[k]=d at hd eg'
    generalize hvk:vs[k]=v at hv
    obtain ⟨hgo,hyld⟩:=it.go k H' v hPk hv
    simp only [qF] at eg'
    have hik:i<Γk.length:=by rw [g.len];exact hi
    have rep:Rep K (cY H' (A0::Gs.flatten++(F++O)++Fk.flatten)) v d:=(hr.2 k v d hv hd).mono (xk g.same fun a ha=>by
     rcases LR ha with z | z
     ·rcases LR z with z | z
      ·rcases LU z with z | z
       ·rw [z];exact .inr hD
       ·exact (g.new a (LQ _ z)).elim (fun y=>.inl (LP _ y)) .inr
      ·rcases LR z with z | z
       ·exact .inl (LP _ (iU hF z))
       ·exact .inl (LQ _ z)
     ·exact (g.new a (LP _ z)).elim (fun y=>.inl (LP _ y)) .inr)
    have Ep:EnvOk K He (A0::Gs.flatten++(F++O)) (Fk.set i []) H' ((bM [i] σ).set i (some v)) (Γk.set i (L9 d)):=
     EnvOk.put (G:=[]) (p:=⟨.leaf,d⟩) (v:=v) g.env (.leaf rep) rfl (fun a ha=>by simp at ha) hik
    have hsl:ys.length<sizeLine:=by
     rw [g.l1]
     cases ec:fc (Γk.set i (L9 d)) with
     | no=>rw [ec] at eg';cases eg'
     | er c Γ'=>rw [ec] at eg';cases eg'
     | ok b Γa=>
      rw [ec] at eg'
      cases b with
      | false=>
       dsimp only at eg'
       split at eg'
       ·assumption
       ·cases eg'
      | true=>
       dsimp only at eg'
       split at eg'
       ·split at eg'
        ·rename_i z
         simp only [Bool.and_eq_true,decide_eq_true_eq] at z
         exact z.2
        ·cases eg'
       ·cases eg'
    refine ⟨hgo,hsl,fun x Hx hx=>?_⟩
    obtain ⟨rfl,rfl⟩:=hyld x Hx hx;show Lp (bM [i] σ) ((bM [i] σ).set i (some x))/\_
    refine ⟨⟨by rw [length_set],fun j u hj=>?_⟩,?_⟩
    ·have:=(j2 hj).1
     rw [getElem?_set_ne (by simp at this;exact fun z=>this z.symm)]
     exact hj
    refine ⟨He,_,_,_,Ep,?_⟩
    cases ec:fc (Γk.set i (L9 d)) with
    | no=>rw [ec] at eg';cases eg'
    | er c Γ'=>rw [ec] at eg';cases eg'
    | ok b Γa=>
     rw [ec] at eg';intro H3 Fs3 s3 E3 n3;have lena:Γa.length=Γ1.length:=by
      have:=E3.len1
      rw [length_set,Hh,E1.len1] at this;exact this.symm
     have n3':∀a∈Fs3.flatten,a∈Fs1.flatten\/H1 a=none:=fun a ha=>(n3 a ha).elim (fun z=>by
      have pm:((Fk.set i []).flatten).Perm Fk.flatten:=by simpa using pf (G:=[]) g.noneF
      exact g.new a (LP _ (pm.mem_iff.mp z))) fun z=>.inr (g.same.free z)
     cases b with
     | false=>
      dsimp only at eg'
      split at eg'
      case isFalse=>cases eg'
      refine kH ⟨vs.length-(k+1),by omega,rfl,hlt,Γa.set i none,Fs3.set i [],Gs,acc,⟨E3.forget (by rw [lena];exact hi),g.same.trans s3,s3 _ _ g.at_,fun a ha=>?_,g.l1,g.l2,fun j v d G h1 h2 h3=>(g.own j v d G h1 h2 h3).mono s3 fun a ha=>?_,getElem?_set_self (by rw [lena];exact hi),getElem?_set_self (by rw [E3.len2,lena];exact hi),by rw [length_set];exact lena⟩,eg'⟩
      ·rcases LR ha with z | z
       ·exact g.new a (LQ _ z)
       ·obtain ⟨F3,hF3⟩:=E3.lt (i:=i) (by rw [lena];exact hi)
        have pm:(F3++(Fs3.set i []).flatten).Perm Fs3.flatten:=by simpa using pf (G:=[]) hF3
        exact n3' a (pm.mem_iff.mp (LP _ z))
      ·rcases LR ha with z | z
       ·exact .inl (LQ _ z)
       ·obtain ⟨F3,hF3⟩:=E3.lt (i:=i) (by rw [lena];exact hi)
        have pm:(F3++(Fs3.set i []).flatten).Perm Fs3.flatten:=by simpa using pf (G:=[]) hF3
        have pm2:((Fk.set i []).flatten).Perm Fk.flatten:=by simpa using pf (G:=[]) g.noneF
        exact (n3 a (pm.mem_iff.mp (LP _ z))).elim (fun y=>.inl (LP _ (pm2.mem_iff.mp y))) .inr
     | true=>
      refine oA ⟨He,_,_,_,E3,?_⟩
      dsimp only at eg'
      cases ee:fe Γa with
      | no=>rw [ee] at eg';cases eg'
      | er c Γ'=>rw [ee] at eg';cases eg'
      | ok p Γb=>
       rw [ee] at eg';dsimp only at eg'
       split at eg'
       case isFalse=>cases eg'
       rename_i hco;simp only [Bool.and_eq_true,decide_eq_true_eq] at hco
       obtain ⟨hco,_⟩:=hco;intro u H4 G Fs4 A4;have lenb:Γb.length=Γ1.length:=by
        have:=A4.env.len1
        rw [length_set,Hh,E1.len1] at this;exact this.symm
       have hib:i<Γb.length:=by rw [lenb];exact hi
       have at4:H4 A0=some (.lst ys):=A4.same _ _ (s3 _ _ g.at_)
       have s14:Same H1 H4:=(g.same.trans s3).trans A4.same
       have pmk:((Fk.set i []).flatten).Perm Fk.flatten:=by simpa using pf (G:=[]) g.noneF
       obtain ⟨F4,hF4⟩:=A4.env.lt hib;have pm4:(F4++(Fs4.set i []).flatten).Perm Fs4.flatten:=by simpa using pf (G:=[]) hF4
       have new4:∀a∈G++Fs4.flatten,a∈Fs1.flatten\/H1 a=none:=fun a ha=>(A4.new a ha).elim (n3' a) fun z=>.inr ((g.same.trans s3).free z)
       have hG':∀a∈bt s G,a∈G:=fun a ha=>jR ha
       obtain ⟨k1,k2,k3⟩:=LZ A4.env.ndO;have ndk:(bt s G).Nodup:=by
        cases s<;>first | exact nodup_nil | exact k1
       have pmO:(A0::(Gs++[bt s G]).flatten++(F++O)).Perm (bt s G++(A0::Gs.flatten++(F++O))):=by
        rw [D1];show (A0::((Gs.flatten++bt s G)++(F++O))).Perm _
        refine List.Perm.trans ?_ List.perm_middle.symm
        refine List.Perm.cons _ ?_
        rw [append_assoc];exact pY _ _ _
       have E5:EnvOk K He (bt s G++(A0::Gs.flatten++(F++O))) Fs4 H4 ((bM [i] σ).set i (some x)) Γb:=A4.env.drop (fun a ha=>by
        rcases LR ha with z | z
        ·exact LQ _ (hG' a z)
        ·exact LP _ z) (List.nodup_append.mpr ⟨ndk,k2,fun a ha b hb=>k3 a (hG' a ha) b hb⟩)
       have E6:=(E5.perm pmO).forget hib
       have hDin:A0∈A0::(Gs++[bt s G]).flatten++(F++O):=mem_cons_self
       have E7:=E6.mutO (o:=.lst (ys++[u])) hDin at4 hHeD
       have subH:∀a∈A0::(Gs++[bt s G]).flatten++(F++O)++(Fs4.set i []).flatten,a∈G++(A0::Gs.flatten++(F++O))++Fs4.flatten:=fun a ha=>by
        rcases LR ha with z | z
        ·rcases LR (pmO.mem_iff.mp z) with y | y
         ·exact LQ _ (LQ _ (hG' a y))
         ·exact LQ _ (LP _ y)
        ·exact LP _ (pm4.mem_iff.mp (LP _ z))
       have Dnot:∀{j:Nat} {Gj:List Addr},Gs[j]?=some Gj->A0∉Gj:=fun {j Gj} hj z=>by
        have nd:=g.env.ndO
        exact (List.nodup_cons.mp nd).1 (LQ _ (iU hj z))
       refine ⟨at4,vs.length-(k+1),by omega,rfl,hlt,Γb.set i none,Fs4.set i [],Gs++[bt s G],acc++[p.d],⟨E7,fun b o hb=>?_,iV,fun a ha=>?_,by simp [g.l1],by simp [g.l2],fun j w d' G' h1 h2 h3=>?_,getElem?_set_self hib,getElem?_set_self (by rw [A4.env.len2];exact hib),by rw [length_set];exact lenb⟩,eg'⟩
       ·rw [gf (xi hb hD)]
        exact s14 b o hb
       ·rcases LR ha with z | z
        ·rw [D1] at z
         rcases LR z with z | z
         ·exact g.new a (LQ _ z)
         ·exact new4 a (LQ _ (hG' a z))
        ·exact new4 a (LP _ (pm4.mem_iff.mp (LP _ z)))
       ·by_cases hj:j<ys.length
        ·rw [getElem?_append_left hj] at h1
         rw [getElem?_append_left (by rw [<-g.l1];exact hj)] at h2
         rw [getElem?_append_left (by rw [g.l2,<-g.l1];exact hj)] at h3
         have o1:=g.own j w d' G' h1 h2 h3
         have o2:=o1.mono (O':=A0::(Gs++[bt s G]).flatten++(F++O)++(Fs4.set i []).flatten) (s3.trans A4.same) fun a ha=>by
          have up:a∈G++Fs4.flatten->a∈A0::Gs.flatten++(F++O)++Fk.flatten\/Hx a=none:=fun z=>(A4.new a z).elim (fun y=>(n3 a y).elim (fun y=>.inl (LP _ (pmk.mem_iff.mp y))) .inr) fun y=>.inr (s3.free y)
          rcases LR (subH a ha) with z | z
          ·rcases LR z with z | z
           ·exact up (LQ _ z)
           ·exact .inl (LQ _ z)
          ·exact up (LP _ z)
         exact o2.mut hsv (LQ _ hDin) (Dnot h3) at4
        ·have hj':j=ys.length:=by
          have:=(L0 h1).1
          rw [length_append,length_singleton] at this;omega
         subst hj'
         rw [getElem?_append_right (L7 _),Nat.sub_self] at h1;rw [getElem?_append_right (by rw [g.l1];exact L7 _),show ys.length-acc.length=0 by rw [g.l1];exact Nat.sub_self _] at h2
         rw [getElem?_append_right (by rw [g.l2,g.l1];exact L7 _),show ys.length-Gs.length=0 by rw [g.l2,g.l1];exact Nat.sub_self _] at h3
         cases h1
         cases h2
         cases h3;have o3:=A4.own.coer (s:=s) (O':=A0::(Gs++[bt s G]).flatten++(F++O)++(Fs4.set i []).flatten) hco subH fun a ha hO=>by
          cases s with
          | leaf=>
           exfalso
           have hO':a∈(A0::Gs.flatten++(F++O))++(Fs4.set i []).flatten:=by
            rw [D1] at hO;simpa [bt] using hO
           rcases LR hO' with z | z
           ·exact k3 a ha a z rfl
           ·have nd:=A4.env.nd
            exact (LZ nd).2.2 a (LQ _ ha) a (pm4.mem_iff.mp (LP _ z)) rfl
          | view=>cases hsv
          | lst s=>exact ha
          | tup ss=>exact ha
         refine o3.mut hsv (LQ _ hDin) (fun z=>?_) at4
         exact k3 A0 (hG' A0 z) A0 mem_cons_self rfl
end
inductive dG where
 | nx (e:Ev) | bk (e:Ev) | ct (e:Ev) | rt (p:PV) | er (c:Str) (e:Ev) | no
abbrev FS:=Ev->dG
structure RetOk (K:Fg) (He:Hp) (O:List Addr) (p:PV) (v:V) (H':Hp) (G:List Addr):Prop where
 same:Same He H'
 fresh:∀a∈G,He a=none
 inH:∀a∈G,H' a≠none
 nd:G.Nodup
 own:Own K (G++O) H' p.s G v p.d
 nv:p.s.isView=false
def lu (K:Fg) (W:XW) (He:Hp) (O:List Addr) (D:dI):dG->Prop
 | .nx Γ'=>∀σ' H' Fs',EnvOk K He O Fs' H' σ' Γ'->D.nx σ' H'
 | .bk Γ'=>∀σ' H' Fs',EnvOk K He O Fs' H' σ' Γ'->D.bk σ' H'
 | .ct Γ'=>∀σ' H' Fs',EnvOk K He O Fs' H' σ' Γ'->D.ct σ' H'
 | .rt p=>∀v H' G,RetOk K He O p v H' G->D.rt v H'
 | .er c Γ'=>∀σ' H' Fs',EnvOk K He O Fs' H' σ' Γ'->W c σ' H'
 | .no=>False
def tS (K:Fg) (W:XW) (g:FS):TS:=fun D σ H=>∃He O Fs Γ,EnvOk K He O Fs H σ Γ/\lu K W He O D (g Γ)
def aH:FS:=fun Γ=>.nx Γ
def ak (g1 g2:FS):FS:=fun Γ=>match g1 Γ with
 | .nx Γ'=>g2 Γ'
 | o=>o
def gS (f:F1) (k:PV->Ev->dG):FS:=fun Γ=>match f Γ with
 | .ok p Γ'=>k p Γ'
 | .er c Γ'=>.er c Γ'
 | .no=>.no
def bD (c:FB) (a b:FS):FS:=fun Γ=>match c Γ with
 | .ok t Γ'=>if t then a Γ' else b Γ'
 | .er c Γ'=>.er c Γ'
 | .no=>.no
section
variable {K:Fg} {W:XW} {σ:St} {H:Hp} {D:dI} {fa fb:F1} {ga gb:FB} {g1 g2:FS}
theorem pM (h:tS K W aH D σ H):uz D σ H:=by
 obtain ⟨He,O,Fs,Γ,E,h⟩:=h;exact h σ H Fs E
theorem uO (h:tS K W (ak g1 g2) D σ H):Be (tS K W g1) (tS K W g2) D σ H:=by
 obtain ⟨He,O,Fs,Γ,E,h⟩:=h;refine ⟨He,O,Fs,Γ,E,?_⟩
 unfold ak at h
 cases e:g1 Γ with
 | nx Γ'=>rw [e] at h;exact fun σ' H' Fs' E'=>⟨He,O,Fs',Γ',E',h⟩
 | bk Γ'=>rw [e] at h;exact h
 | ct Γ'=>rw [e] at h;exact h
 | rt p=>rw [e] at h;exact h
 | er c Γ'=>rw [e] at h;exact h
 | no=>rw [e] at h;exact h
theorem gG {k:PV->Ev->dG} {R:VK} (h:tS K W (gS fa k) D σ H)
  (hk:∀He O Fs Γ1 p v H1 G Fs1,EnvOk K He O Fs H σ Γ1\/True->(∀a∈G,He a=none)->Aft K He O Fs H σ Γ1 p v H1 G Fs1->lu K W He O D (k p Γ1)->R v H1):tE K W fa σ H R:=by
 obtain ⟨He,O,Fs,Γ,E,h⟩:=h;refine ⟨He,O,Fs,Γ,E,?_⟩
 unfold gS at h
 cases e:fa Γ with
 | ok p Γ1=>rw [e] at h;exact fun v H' G Fs' A=>hk He O Fs Γ1 p v H' G Fs' (.inr trivial) (A.freshG E) A h
 | er c Γ1=>rw [e] at h;exact fun H' Fs' s E'=>h σ H' Fs' E'
 | no=>rw [e] at h;exact h
theorem uS (h:tS K W (bD ga g1 g2) D σ H):Bh (tT K W ga) (tS K W g1) (tS K W g2) D σ H:=by
 obtain ⟨He,O,Fs,Γ,E,h⟩:=h;refine ⟨He,O,Fs,Γ,E,?_⟩
 unfold bD at h
 cases e:ga Γ with
 | ok b Γ1=>
  rw [e] at h;intro H' Fs' s E' n
  cases b with
  | true=>exact oA ⟨He,O,Fs',Γ1,E',h⟩
  | false=>exact kH ⟨He,O,Fs',Γ1,E',h⟩
 | er c Γ1=>rw [e] at h;exact fun H' Fs' s E'=>h σ H' Fs' E'
 | no=>rw [e] at h;exact h
def aF (f:F1):FS:=gS f fun p _=>if p.s.isView then (if bz p.d then .rt ⟨.leaf,p.d⟩ else .no) else .rt p
theorem uP (h:tS K W (aF fa) D σ H):ES (tE K W fa) D σ H:=by
 refine gG h fun He O Fs Γ1 p v H1 G Fs1 _ fr A w=>?_
 obtain ⟨n1,n2,n3⟩:=LZ A.env.ndO;have inH:∀a∈G,H1 a≠none:=fun a ha=>A.env.inH a (LQ _ (LQ _ ha))
 cases hv:p.s.isView with
 | false=>
  have w:lu K W He O D (.rt p):=by simpa [hv] using w
  exact w v H1 G ⟨A.env.same,fr,inH,n1,A.own.perm fun a ha=>LQ _ ha,hv⟩
 | true=>
  cases hs:bz p.d with
  | false=>rw [hv,hs] at w;exact w.elim
  | true=>
   have w:lu K W He O D (.rt ⟨.leaf,p.d⟩):=by simpa [hv,hs] using w
   exact w v H1 [] ⟨A.env.same,(fun _ z=>nomatch z),(fun _ z=>nomatch z),nodup_nil,.leaf (A.own.rep.sc hs).rep,rfl⟩
def ax (own:Bool) (i:Nat) (f:F1):FS:=gS f fun p Γ=>if i<Γ.length then (if own&&!p.s.isView then .nx (Γ.set i (some p)) else if T.coer .leaf p then .nx (Γ.set i (L9 p.d)) else .no) else .no
theorem GN {own:Bool} {i:Nat} (h:tS K W (ax own i fa) D σ H):qU (tE K W fa) (gName i) D σ H:=by
 refine gG h fun He O Fs Γ1 p v H1 G Fs1 _ fr A w=>?_
 show D.nx (σ.set i (some v)) H1
 have w:lu K W He O D (if i<Γ1.length then (if own&&!p.s.isView then .nx (Γ1.set i (some p)) else if T.coer .leaf p then .nx (Γ1.set i (L9 p.d)) else .no) else .no):=w
 by_cases hi:i<Γ1.length
 case neg=>rw [if_neg hi] at w;exact w.elim
 rw [if_pos hi] at w
 cases ho:(own&&!p.s.isView) with
 | true=>
  rw [ho] at w;have hv:p.s.isView=false:=by
   simp only [Bool.and_eq_true,Bool.not_eq_true'] at ho
   exact ho.2
  exact w _ H1 _ (EnvOk.put A.env A.own hv fr hi)
 | false=>
  rw [ho] at w
  cases hc:T.coer .leaf p with
  | false=>rw [hc] at w;exact w.elim
  | true=>
   rw [hc] at w;have o:=A.own.coer (s:=.leaf) (O':=O++Fs1.flatten) hc ig fun a ha z=>absurd z (A.disj a ha)
   exact w _ H1 _ (EnvOk.put (G:=[]) (p:=⟨.leaf,p.d⟩) (v:=v) A.go o rfl (fun a ha=>by simp at ha) hi)
def b9 (f:F1):FS:=gS f fun _ Γ=>.nx Γ
theorem xP (h:tS K W (b9 fa) D σ H):lQ (tE K W fa) D σ H:=
 gG h fun He O Fs Γ1 p v H1 G Fs1 _ fr A w=>w σ H1 Fs1 A.go
theorem AH {α:Type} {l:List α} {i:Nat} {x:α} (h:l[i]?=some x):l.set i x=l:=by
 apply List.ext_getElem?
 intro j;by_cases hj:j=i
 ·subst hj
  rw [getElem?_set_self (L0 h).1,h]
 ·rw [getElem?_set_ne (Ne.symm hj)]
def za (i:Nat) (p:PV) (Γ:Ev):dG:=match Γ[i]? with
 | some (some ⟨.lst s,.list ds⟩)=>if T.coer s p&&decide (ds.length<sizeLine) then .nx (Γ.set i (some ⟨.lst s,.list (ds++[p.d])⟩)) else .no
 | _=>.no
def DN:Option (Option PV)->Bool
 | some (some ⟨.lst _,.list _⟩)=>true
 | _=>false
def dS (i:Nat) (f:F1):FS:=fun Γ=>if DN Γ[i]? then gS f (za i) Γ else .no
theorem y7 {He H:Hp} {O G:List Addr} {Fs:List (List Addr)} {Γ:Ev} {i:Nat} {s:Sh} {ds:List L8} {p:PV} {v:V} (E:EnvOk K He (G++O) Fs H σ Γ) (o:Own K (G++O++Fs.flatten) H p.s G v p.d) (fr:∀a∈G,He a=none)
  (h:Γ[i]?=some (some ⟨.lst s,.list ds⟩)) (hc:T.coer s p=true) :
  ∃l vs,σ[i]?=some (some (.ref l))/\H l=some (.lst vs)/\vs.length=ds.length/\∃Fs',EnvOk K He O Fs' (cy H l (.lst (vs++[v]))) σ (Γ.set i (some ⟨.lst s,.list (ds++[p.d])⟩)):=by
 obtain ⟨hv,u,F,h1,E1,o1,sub⟩:=E.move h;have hi:i<Γ.length:=(L0 h).1
 cases o1 with
 | @lst _ l vs _ Fs0 hsv hp hl hf nd q=>
  refine ⟨l,vs,h1,hp,hl,Fs.set i (l::(Fs0++[bt s G]).flatten),?_⟩
  have hlF:l∈Fs.flatten:=sub l (LQ _ mem_cons_self)
  have hHe:He l=none:=E.fresh l hlF
  have hG':∀a∈bt s G,a∈G:=fun a ha=>jR ha
  obtain ⟨k1,k2,k3⟩:=LZ E1.ndO;obtain ⟨g1,g2,g3⟩:=LZ k2;have ndk:(bt s G).Nodup:=by
   cases s<;>first | exact nodup_nil | exact g1
  have pmO:((l::(Fs0++[bt s G]).flatten)++O).Perm ((l::Fs0.flatten)++(bt s G++O)):=by
   rw [D1];show (l::((Fs0.flatten++bt s G)++O)).Perm (l::(Fs0.flatten++(bt s G++O)))
   rw [append_assoc]
  have E2:EnvOk K He ((l::Fs0.flatten)++(bt s G++O)) (Fs.set i []) H σ (Γ.set i none):=E1.drop (fun a ha=>by
   rcases LR ha with z | z
   ·exact LQ _ z
   ·refine LP _ ?_
    rcases LR z with z | z
    ·exact LQ _ (hG' a z)
    ·exact LP _ z) (List.nodup_append.mpr ⟨k1,List.nodup_append.mpr ⟨ndk,g2,fun a ha b hb=>g3 a (hG' a ha) b hb⟩,fun a ha b hb=>k3 a ha b (by
     rcases LR hb with z | z
     ·exact LQ _ (hG' b z)
     ·exact LP _ z)⟩)
  have E3:=E2.perm pmO
  have hlin:l∈(l::(Fs0++[bt s G]).flatten)++O:=mem_cons_self
  have E4:=E3.mutO (o:=.lst (vs++[v])) hlin hp hHe
  have lnG:l∉G:=fun z=>k3 l mem_cons_self l (LQ _ z) rfl
  have subH:∀a∈(l::(Fs0++[bt s G]).flatten)++O++(Fs.set i []).flatten,a∈(l::Fs0.flatten)++(G++O)++(Fs.set i []).flatten:=fun a ha=>by
   rcases LR ha with z | z
   ·refine LQ _ ?_
    rcases LR (pmO.mem_iff.mp z) with y | y
    ·exact LQ _ y
    ·refine LP _ ?_
     rcases LR y with y | y
     ·exact LQ _ (hG' a y)
     ·exact LP _ y
   ·exact LP _ z
  have ownL:Own K ((l::(Fs0++[bt s G]).flatten)++O++(Fs.set i []).flatten) (cy H l (.lst (vs++[v]))) (.lst s) (l::(Fs0++[bt s G]).flatten) (.ref l) (.list (ds++[p.d])):=by
   refine .lst hsv iV (by simp [hl]) (by simp [hf]) ?_ fun j w d' G' e1 e2 e3=>?_
   ·have nd2:=E3.ndO
    exact (LZ nd2).1
   ·by_cases hj:j<vs.length
    ·rw [getElem?_append_left hj] at e1
     rw [getElem?_append_left (by omega)] at e2
     rw [getElem?_append_left (by omega)] at e3
     exact ((q j w d' G' e1 e2 e3).perm subH).mut hsv (LQ _ hlin) (fun z=>(List.nodup_cons.mp nd).1 (iU e3 z)) hp
    ·have hj':j=vs.length:=by
      have:=(L0 e1).1
      rw [length_append,length_singleton] at this;omega
     subst hj'
     rw [getElem?_append_right (L7 _),Nat.sub_self] at e1;rw [getElem?_append_right (by omega),show vs.length-ds.length=0 by omega] at e2
     rw [getElem?_append_right (by omega),show vs.length-Fs0.length=0 by omega] at e3
     cases e1
     cases e2
     cases e3;have osub:∀a∈(l::(Fs0++[bt s G]).flatten)++O++(Fs.set i []).flatten,a∈G++O++Fs.flatten:=fun a ha=>by
      rcases LR (subH a ha) with z | z
      ·rcases LR z with z | z
       ·exact LP _ (sub a (LQ _ z))
       ·exact LQ _ z
      ·exact LP _ (sub a (LP _ z))
     have o3:=o.coer (s:=s) hc osub fun a ha hO=>by
      cases s with
      | leaf=>
       exfalso
       rw [D1] at hO;have hO':a∈(l::Fs0.flatten)++O++(Fs.set i []).flatten:=by simpa [bt] using hO
       have ndE:=E.nd
       rw [append_assoc] at ndE;have dis:=(LZ ndE).2.2
       rcases LR hO' with z | z
       ·rcases LR z with z | z
        ·exact dis a ha a (LP _ (sub a (LQ _ z))) rfl
        ·exact dis a ha a (LQ _ z) rfl
       ·exact dis a ha a (LP _ (sub a (LP _ z))) rfl
      | view=>cases hsv
      | lst s=>exact ha
      | tup ss=>exact ha
     exact o3.mut hsv (LQ _ hlin) (fun z=>lnG (hG' l z)) hp
  have fin:=EnvOk.put (i:=i) (p:=⟨.lst s,.list (ds++[p.d])⟩) (v:=.ref l) E4 ownL rfl (fun a ha=>?_) (by rw [length_set];exact hi)
  ·rw [set_set,set_set,AH h1] at fin
   exact fin
  ·rcases LU ha with z | z
   ·rw [z];exact hHe
   ·rw [D1] at z
    rcases LR z with z | z
    ·exact E.fresh a (sub a (LQ _ (LX _ z)))
    ·exact fr a (hG' a z)
theorem GV {QL:List V->Hp->Prop} (h1:tE K W fa σ H fun v H'=>QL [v] H'):tA K W (ae fa ag) σ H QL:=by
 obtain ⟨He,O,Fs,Γ,E,h1⟩:=h1;refine ⟨He,O,Fs,Γ,E,?_⟩
 unfold ae ag
 cases e:fa Γ with
 | ok p Γ'=>
  rw [e] at h1;intro vs H' Gs Fs' A
  match vs,Gs,A.len1,A.len2 with
  | [v],[G],_,_=>exact h1 v H' G Fs' ⟨A.same,by simpa using A.env,by simpa using A.new,by simpa using A.own 0 v p G rfl rfl rfl⟩
 | er c Γ'=>rw [e] at h1;exact h1
 | no=>rw [e] at h1;exact h1
theorem rY {o:Option (Option PV)} (h:DN o=true):∃s ds,o=some (some ⟨.lst s,.list ds⟩):=by
 unfold DN at h;split at h
 ·exact ⟨_,_,rfl⟩
 ·cases h
theorem EnvOk.ownL {He H:Hp} {O:List Addr} {Fs:List (List Addr)} {Γ:Ev} {i:Nat} {s:Sh} {ds:List L8} (E:EnvOk K He O Fs H σ Γ) (h:Γ[i]?=some (some ⟨.lst s,.list ds⟩)):∃l vs,σ[i]?=some (some (.ref l))/\H l=some (.lst vs)/\vs.length=ds.length:=by
 obtain ⟨hv,v,F,h1,h2,h3⟩:=E.slot i _ h
 cases h3 with
 | @lst _ l vs _ Fs0 hsv hp hl hf nd q=>exact ⟨l,vs,h1,hp,hl⟩
theorem rf {i:Nat} (h:tS K W (dS i fa) D σ H):lQ (zF K "list" Iv (fA i) (tA K W (ae fa ag))) D σ H:=by
 obtain ⟨He,O,Fs,Γ,E,h⟩:=h;unfold dS at h
 cases ho:DN Γ[i]? with
 | false=>rw [ho] at h;exact h.elim
 | true=>
  rw [ho] at h;obtain ⟨s,ds,e0⟩:=rY ho;obtain ⟨l,vs,h1,h2,h3⟩:=E.ownL e0;refine ⟨.ref l,h1,.inl ⟨rfl,vs,.of h2⟩,GV (gG (D:=D) ⟨He,O,Fs,Γ,E,h⟩ fun He O Fs Γ1 p v H1 G Fs1 _ fr A w=>?_)⟩
  unfold za at w;split at w
  ·rename_i s1 ds1 e1
   cases hc:(T.coer s1 p&&decide (ds1.length<sizeLine)) with
   | false=>rw [hc] at w;exact w.elim
   | true=>
    rw [hc] at w;simp only [Bool.and_eq_true,decide_eq_true_eq] at hc
    obtain ⟨l1,vs1,q1,q2,q3,Fs',E'⟩:=y7 A.env A.own fr e1 hc.1;rw [h1] at q1
    cases q1;exact ⟨l,vs1,v,rfl,rfl,q2,by rw [q3];exact hc.2,w σ _ Fs' E'⟩
  ·exact w.elim
def di (i:Nat) (body:FS):List L8->Ev->dG
 | [],Γ=>.nx Γ
 | d::r,Γ=>if i<Γ.length then (match body (Γ.set i (L9 d)) with
  | .nx Γ'=>di i body r Γ'
  | .ct Γ'=>di i body r Γ'
  | .bk Γ'=>.nx Γ'
  | .rt p=>.rt p
  | .er c Γ'=>.er c Γ'
  | .no=>.no) else .no
def cZ (i:Nat) (fi:FI) (body:FS):FS:=fun Γ=>match fi Γ with
 | .ok t Γ1=>if t.st then di i body t.ds Γ1 else .no
 | .er c Γ1=>.er c Γ1
 | .no=>.no
theorem EnvOk.rebase {He H:Hp} {O:List Addr} {Fs:List (List Addr)} {Γ:Ev} (E:EnvOk K He O Fs H σ Γ):EnvOk K (cY H Fs.flatten) O Fs H σ Γ/\Same He (cY H Fs.flatten):=
 ⟨⟨E.len1,E.len2,hid_le,E.nd,E.inH,fun a ha=>by unfold cY;rw [if_pos ha],E.slot⟩,fun b o e=>En (E.same b o e) fun z=>by have:=E.fresh b z;rw [e] at this;cases this⟩
theorem EnvOk.unbase {He He' H:Hp} {O:List Addr} {Fs:List (List Addr)} {Γ:Ev} (E:EnvOk K He' O Fs H σ Γ) (s:Same He He'):EnvOk K He O Fs H σ Γ:=
 ⟨E.len1,E.len2,s.trans E.same,E.nd,E.inH,fun a ha=>s.free (E.fresh a ha),E.slot⟩
theorem RetOk.unbase {He He' H:Hp} {O G:List Addr} {p:PV} {v:V} (r:RetOk K He' O p v H G) (s:Same He He'):RetOk K He O p v H G:=
 ⟨s.trans r.same,fun a ha=>s.free (r.fresh a ha),r.inH,r.nd,r.own,r.nv⟩
theorem BJ {i:Nat} {fi:FI} {body:FS} (h:tS K W (cZ i fi body) D σ H):EW (tI K W fi) (gName i) (tS K W body) D σ H:=by
 obtain ⟨He,O,Fs,Γ,E,h⟩:=h;refine ⟨He,O,Fs,Γ,E,?_⟩
 unfold cZ at h
 cases e:fi Γ with
 | er c Γ1=>rw [e] at h;exact fun H' Fs' s E'=>h σ H' Fs' E'
 | no=>rw [e] at h;exact h
 | ok t Γ1=>
  rw [e] at h;intro J H1 Fs1 vs P s1 E1 n1 it hP hP1 hst hr;have h:lu K W He O D (if t.st then di i body t.ds Γ1 else .no):=h
  cases ht:t.st with
  | false=>rw [ht] at h;exact h.elim
  | true=>
   rw [ht] at h;have h:lu K W He O D (di i body t.ds Γ1):=h
   obtain ⟨E1',sHe⟩:=E1.rebase;have hlen:vs.length=t.ds.length:=hr.1
   refine ⟨fun k m σ' H'=>m=vs.length-k/\k<=vs.length/\∃Γk Fk,EnvOk K (cY H1 Fs1.flatten) O Fk H' σ' Γk/\lu K W He O D (di i body (t.ds.drop k) Γk),⟨vs.length,by simp,Nat.zero_le _,Γ1,Fs1,E1',by simpa using h⟩,?_⟩
   rintro k m σ' H' ⟨rfl,hk,Γk,Fk,Ek,hw⟩
   have hPk:P H':=hst ht H' Ek.same
   by_cases hlt:k<vs.length
   case neg=>
    left
    have hke:k=vs.length:=by omega
    have:t.ds.drop k=[]:=List.drop_eq_nil_of_le (by omega)
    rw [this] at hw;exact ⟨by rw [hke];exact it.stop H' hPk,hw σ' H' Fk (Ek.unbase sHe)⟩
   case pos=>
    right
    have hv:vs[k]?=some vs[k]:=LV hlt
    have hkd:k<t.ds.length:=by omega
    have hd:t.ds[k]?=some t.ds[k]:=LV hkd
    have hdr:t.ds.drop k=t.ds[k]::t.ds.drop (k+1):=drop_eq_getElem_cons hkd
    rw [hdr] at hw;generalize hdk:t.ds[k]=d at hd hw
    generalize hvk:vs[k]=v at hv
    obtain ⟨hgo,hyld⟩:=it.go k H' v hPk hv
    simp only [di] at hw
    by_cases hi:i<Γk.length
    case neg=>rw [if_neg hi] at hw;exact hw.elim
    rw [if_pos hi] at hw;have rep:Rep K (cY H' (O++Fk.flatten)) v d:=by
     refine (hr.2 k v d hv hd).mono fun b o hb=>?_
     have hb1:cY H1 Fs1.flatten b=some o:=sub_hid b o hb
     have hbO:b∉O:=fun z=>by
      unfold cY at hb;rw [if_pos (LQ _ z)] at hb
      cases hb
     have hbF:b∉Fk.flatten:=fun z=>by
      have:=Ek.fresh b z
      rw [hb1] at this
      cases this
     exact En (Ek.same b o hb1) fun z=>(LR z).elim hbO hbF
    have Ep:EnvOk K (cY H1 Fs1.flatten) O (Fk.set i []) H' (σ'.set i (some v)) (Γk.set i (L9 d)):=
     EnvOk.put (G:=[]) (p:=⟨.leaf,d⟩) (v:=v) Ek (.leaf rep) rfl (fun a ha=>by simp at ha) hi
    refine ⟨hgo,fun σ2 H2=>∃Γk Fk,EnvOk K (cY H1 Fs1.flatten) O Fk H2 σ2 Γk/\lu K W He O D (di i body (t.ds.drop (k+1)) Γk),fun σ2 H2 q=>⟨vs.length-(k+1),by omega,rfl,hlt,q⟩,fun x Hx hx=>?_⟩
    obtain ⟨rfl,rfl⟩:=hyld x Hx hx;show tS K W body _ (σ'.set i (some x)) Hx
    refine ⟨cY H1 Fs1.flatten,O,_,_,Ep,?_⟩
    cases eb:body (Γk.set i (L9 d)) with
    | nx Γ'=>rw [eb] at hw;exact fun σ2 H2 F2 E2=>⟨Γ',F2,E2,hw⟩
    | ct Γ'=>rw [eb] at hw;exact fun σ2 H2 F2 E2=>⟨Γ',F2,E2,hw⟩
    | bk Γ'=>rw [eb] at hw;exact fun σ2 H2 F2 E2=>hw σ2 H2 F2 (E2.unbase sHe)
    | rt p=>rw [eb] at hw;exact fun u H2 G r=>hw u H2 G (r.unbase sHe)
    | er c Γ'=>rw [eb] at hw;exact fun σ2 H2 F2 E2=>hw σ2 H2 F2 (E2.unbase sHe)
    | no=>rw [eb] at hw;exact hw
end
inductive Res where
 | ok (p:PV) | er (c:Str) | no
def pG (K:Fg) (n:Nat) (den:List L8->Res):Sp:=fun vs H Q _=>vs.length=n/\∃O ds,O.Nodup/\(∀a∈O,H a≠none)/\Reps K (cY H O) vs ds/\match den ds with
 | .ok p=>∀v H' G,RetOk K H O p v H' G->Q v H'
 | .er _=>False
 | .no=>False
def aZ (n:Nat) (ds:List L8):Ev:=ds.map (fun d=>some ⟨.leaf,d⟩)++List.replicate (n-ds.length) none
def aE (n:Nat) (g:FS) (ds:List L8):Res:=match g (aZ n ds) with
 | .nx _=>.ok ⟨.leaf,.none⟩
 | .rt p=>.ok p
 | .er c _=>.er c
 | _=>.no
section
variable {P:Program} {w:World} {K:Fg} {mg:Str->Option Value} {base:Heap}
theorem jW {N:List Str} {H:Hp} {O:List Addr} {vs:List V} {ds:List L8} (hn:vs.length<=N.length) (nd:O.Nodup) (inH:∀a∈O,H a≠none) (rs:Reps K (cY H O) vs ds) :
  EnvOk K H O (List.replicate N.length []) H (L2.start N vs) (aZ N.length ds):=by
 have fl:(List.replicate N.length ([]:List Addr)).flatten=[]:=by simp
 have hl:=rs.1
 refine ⟨by simp [L2.start,aZ,hl],by simp [aZ];omega,Same.refl _,by rw [fl];simpa using nd,by rw [fl];simpa using inH,fun a ha=>by rw [fl] at ha;simp at ha,fun i p hp=>?_⟩
 unfold aZ at hp;by_cases hi:i<ds.length
 ·rw [getElem?_append_left (by simpa using hi),getElem?_map,LV hi] at hp
  cases hp;refine ⟨rfl,vs[i]'(by omega),[],?_,?_,?_⟩
  ·unfold L2.start
   rw [getElem?_append_left (by simp;omega),getElem?_map,LV (by omega)]
   rfl
  ·rw [getElem?_replicate,if_pos (by omega)]
  ·refine .leaf ?_
   rw [fl,append_nil];exact rs.2 i _ _ (LV _) (LV hi)
 ·rw [getElem?_append_right (by simpa using hi),getElem?_replicate] at hp
  split at hp<;>cases hp
theorem vX {x qual:Str} {st:Stmt} {f:Addr} {fd:FuncData} {N ps:List Str} {k:Nat} {g:FS} (F:Fun K x qual st f fd) (S:d6 N ps (hJ st))
  (hb:∀(cdv:Value) (A:Around) (outer:List Env) (s:Shared) (H:Hp) (E:XK),Room k (A.deeper (envOfC qual (hJ st) s.heap.objs.size f cdv)) ->
   PSs (fm ka P w K mg base N qual (hJ st) f cdv A outer s H E).nox (qJ st) (tS K W0 g)):dH P w K mg base ka (k+1) f fd ps (pG K ps.length (aE N.length g)):=by
 have hpl:ps.length<=N.length:=by have:=congrArg List.length S.pre;rw [length_take] at this;omega
 refine F.ok S (fun vs H Q E h=>h.1) (fun cdv A outer s H vs Q E hr h=>⟨_,hb cdv A outer s H E hr,?_⟩)
 obtain ⟨hl,O,ds,nd,inH,rs,w⟩:=h;refine ⟨H,O,List.replicate N.length [],aZ N.length ds,jW (by omega) nd inH rs,?_⟩
 unfold aE at w
 cases e:g (aZ N.length ds) with
 | nx Γ'=>
  rw [e] at w;exact fun σ' H' Fs' E'=>w .non H' [] ⟨E'.same,(fun _ z=>nomatch z),(fun _ z=>nomatch z),nodup_nil,.leaf .non,rfl⟩
 | rt p=>rw [e] at w;exact w
 | bk Γ'=>rw [e] at w;exact w.elim
 | ct Γ'=>rw [e] at w;exact w.elim
 | er c Γ'=>rw [e] at w;exact w.elim
 | no=>rw [e] at w;exact w.elim
end
def aj (n:Nat) (den:List L8->Res) (fl:FL):F1:=fun Γ=>(fl Γ).bind fun ps Γ'=>if ps.length=n then (match den (ps.map (·.d)) with
 | .ok p=>if ps.all (T.coer .leaf) then .ok p Γ' else if bz p.d then .ok ⟨.leaf,p.d⟩ Γ' else .ok ⟨.view,p.d⟩ Γ'
 | _=>.no) else .no
section
variable {K:Fg} {W:XW} {σ:St} {H:Hp} {Q:VK} {fl:FL}
theorem xQ {n:Nat} {den:List L8->Res} {E:XK} (h:tE K W (aj n den fl) σ H Q):uC (pG K n den) [] E (tA K W fl) σ H Q:=by
 obtain ⟨He,O,Fs,Γ,E0,h⟩:=h;refine ⟨He,O,Fs,Γ,E0,?_⟩
 unfold aj at h
 cases e:fl Γ with
 | er c Γ'=>rw [e] at h;exact h
 | no=>rw [e] at h;exact h
 | ok ps Γ1=>
  rw [e] at h;intro vs H1 Gs Fs1 A;have h:Wants K W He O Fs H σ Q (if ps.length=n then (match den (ps.map (·.d)) with | .ok p=>if ps.all (T.coer .leaf) then .ok p Γ1 else if bz p.d then .ok ⟨.leaf,p.d⟩ Γ1 else .ok ⟨.view,p.d⟩ Γ1 | _=>.no) else .no):=h
  by_cases hn:ps.length=n
  case neg=>rw [if_neg hn] at h;exact h.elim
  rw [if_pos hn] at h;have hl:(vs++[]).length=n:=by rw [append_nil,A.len1];exact hn
  cases ed:den (ps.map (·.d)) with
  | er c=>rw [ed] at h;exact h.elim
  | no=>rw [ed] at h;exact h.elim
  | ok p=>
   rw [ed] at h;have h:Wants K W He O Fs H σ Q (if ps.all (T.coer .leaf) then .ok p Γ1 else if bz p.d then .ok ⟨.leaf,p.d⟩ Γ1 else .ok ⟨.view,p.d⟩ Γ1):=h
   obtain ⟨n1,n2,n3⟩:=LZ A.env.nd;obtain ⟨m1,m2,m3⟩:=LZ n1;have newF:∀a∈Fs1.flatten,a∈Fs.flatten\/H a=none:=fun a ha=>A.new a (LP _ ha)
   cases hc:ps.all (T.coer .leaf) with
   | true=>
    rw [hc] at h;have h:Wants K W He O Fs H σ Q (.ok p Γ1):=h
    refine ⟨hl,O++Fs1.flatten,ps.map (·.d),A.env.dropL.nd,A.env.dropL.inH,?_,?_⟩
    ·rw [append_nil]
     refine ⟨A.reps.1,fun i v d h1 h2=>?_⟩
     rw [getElem?_map] at h2
     cases e2:ps[i]? with
     | none=>rw [e2] at h2;cases h2
     | some q=>
      rw [e2] at h2
      cases h2;have hi:=(L0 e2).1
      have e3:Gs[i]?=some (Gs[i]'(by rw [A.len2];exact hi)):=LV _
      have o:=A.own i v q _ h1 e2 e3
      have o2:=o.coer (s:=.leaf) (O':=O++Fs1.flatten) (List.all_eq_true.mp hc q (mem_of_getElem? e2)) ig fun a ha z=>by
       exfalso
       have hG:=iU e3 ha
       rcases LR z with y | y
       ·exact m3 a hG a y rfl
       ·exact n3 a (LQ _ hG) a y rfl
      cases o2 with
      | leaf r=>exact r
    ·rw [ed]
     intro v H2 G r;refine h v H2 G Fs1 ⟨A.same.trans r.same,A.env.dropL.hide r.same r.nd r.fresh r.inH,fun a ha=>?_,by rw [append_assoc];exact r.own⟩
     rcases LR ha with z | z
     ·exact .inr (A.same.free (r.fresh a z))
     ·exact newF a z
   | false=>
    rw [hc] at h;have h:Wants K W He O Fs H σ Q (if bz p.d then .ok ⟨.leaf,p.d⟩ Γ1 else .ok ⟨.view,p.d⟩ Γ1):=h
    refine ⟨hl,[],ps.map (·.d),nodup_nil,(fun _ z=>nomatch z),by rw [append_nil,Eo];exact A.reps,?_⟩
    rw [ed];intro v H2 G r
    cases hs:bz p.d with
    | true=>
     rw [hs] at h;exact Wants.scal h (r.own.rep.sc hs) (A.same.trans r.same) (A.env.dropL.grow r.same) (fun a ha=>ha) E0.ndO newF
    | false=>
     rw [hs] at h;have h:Wants K W He O Fs H σ Q (.ok ⟨.view,p.d⟩ Γ1):=h
     exact h v H2 [] Fs1 ⟨A.same.trans r.same,by simpa using A.env.dropL.grow r.same,by simpa using newF,.view r.own.rep⟩
end
theorem Gp:bootBuiltins "len"=some (.builtin "len"):=by decide +kernel
theorem Gr:bootBuiltins "all"=some (.builtin "all"):=by decide +kernel
theorem Gq:bootBuiltins "any"=some (.builtin "any"):=by decide +kernel
theorem Gn:bootBuiltins "max"=some (.builtin "max"):=by decide +kernel
theorem Jo:bootBuiltins "isinstance"=some (.builtin "isinstance"):=by decide +kernel
theorem Ag:bootBuiltins "int"=some (.type "int"):=by decide +kernel
theorem GJ:bootBuiltins "list"=some (.type "list"):=by decide +kernel
theorem qz:bootBuiltins "tuple"=some (.type "tuple"):=by decide +kernel
theorem DA:bootBuiltins "bool"=some (.type "bool"):=by decide +kernel
theorem Gm:bootBuiltins "str"=some (.type "str"):=by decide +kernel
section
variable {X:Cx} {W:XW} {a b c e:Expr} {es:List Expr} {pos:Pos} {fa fb fc:F1} {fl:FL} {ga gb:FB} {g1 g2:FS}
theorem Du {op:CmpOp} {r:R2} {g:L8->L8->Option L8} (ho:OpR X (compareOp op) r) (hg:GOp X.K r g) (ha:PE X a (tE X.K W fa)) (hb:PE X b (tE X.K W fb)) (hm:behindInMarks op b=false:=by with_unfolding_all rfl) :
  PE X (.Compare a [op] [b] pos) (tE X.K W (ay g fa fb)):=aY (ya ho ha hb hm) fun _ _ _=>fO hg
theorem Dn {op:CmpOp} {r:R2} {g:L8->L8->Option L8} (ho:OpR X (compareOp op) r) (hg:GOp X.K r g) (ha:PE X a (tE X.K W fa)) (hb:PE X b (tE X.K W fb)) (hm:behindInMarks op b=false:=by with_unfolding_all rfl) :
  PT X (.Compare a [op] [b] pos) (tT X.K W (aL ao (ay g fa fb))):=j8 (xV ho ha hb hm) fun σ H QB=>pL fun Q=>fO hg
theorem wq {op op':CmpOp} {r r':R2} {g g':L8->L8->Option L8} (ho:OpR X (compareOp op) r) (hg:GOp X.K r g) (ho':OpR X (compareOp op') r') (hg':GOp X.K r' g') (ha:PE X a (tE X.K W fa)) (hb:PE X b (tE X.K W fb)) (hc:PE X c (tE X.K W fc))
  (hm:lastMarks [op,op'] [b,c]=false:=by with_unfolding_all rfl):PE X (.Compare a [op,op'] [b,c] pos) (tE X.K W (qG g g' fa fb fc)):=aY (vg ho ho' ha hb hc hm) fun _ _ _=>mi hg hg'
theorem wb {op op':CmpOp} {r r':R2} {g g':L8->L8->Option L8} (ho:OpR X (compareOp op) r) (hg:GOp X.K r g) (ho':OpR X (compareOp op') r') (hg':GOp X.K r' g') (ha:PE X a (tE X.K W fa)) (hb:PE X b (tE X.K W fb)) (hc:PE X c (tE X.K W fc))
  (hm:lastMarks [op,op'] [b,c]=false:=by with_unfolding_all rfl):PT X (.Compare a [op,op'] [b,c] pos) (tT X.K W (aL ao (qG g g' fa fb fc))):=j8 (u6 ho ho' ha hb hc hm) fun σ H QB=>pL fun Q=>mi hg hg'
theorem da_nil:PA X [] (tA X.K W ag):=qC Aw fun _ _ _=>Bz
theorem da_cons (ha:PE X e (tE X.K W fa)) (hr:PA X es (tA X.K W fl)) (hs:starEach (e::es) X.env=(false,eval e X.env)::starEach es X.env:=by rfl):PA X (e::es) (tA X.K W (ae fa fl)):=qC (tM ha hr hs) fun _ _ _=>pO
theorem qr {x:Str} {id:String} {r:List V->Hp->VK->Prop} {g:List L8->Option L8} {p:Pos} (hc:CallR X (.builtin id) r) (hg:GCall X.K r g) (hv:bootBuiltins x=some (.builtin id)) (hm:X.mg x=none) (ha:PA X (e::es) (tA X.K W fl)) (hG:Gl X x:=by rfl)
  (hn:x ≠ "__name__":=by decide) (hdb:(x==("__debug__":Str))=false:=by decide) (he:starEach (e::es) X.env=(false,eval e X.env)::starEach es X.env:=by rfl) (hpl:(backTo pos (starEach es X.env)).any (·.1)=false:=by rfl) :
  PE X (.Call (.Name x p) (e::es) [] pos) (tE X.K W (aS g fl)):=aY (Ex hc hG hm hv ha hn hdb he hpl) fun _ _ _=>pQ hg
theorem Gf {x:Str} {id:String} {r:List V->Hp->VK->Prop} {g:List L8->Option L8} {p:Pos} (hc:CallR X (.type id) r) (hg:GCall X.K r g) (hv:bootBuiltins x=some (.type id)) (hm:X.mg x=none) (ha:PA X (e::es) (tA X.K W fl)) (hG:Gl X x:=by rfl)
  (hn:x ≠ "__name__":=by decide) (hdb:(x==("__debug__":Str))=false:=by decide) (he:starEach (e::es) X.env=(false,eval e X.env)::starEach es X.env:=by rfl) (hpl:(backTo pos (starEach es X.env)).any (·.1)=false:=by rfl) :
  PE X (.Call (.Name x p) (e::es) [] pos) (tE X.K W (aS g fl)):=aY (jM hc hG hm hv ha hn hdb he hpl) fun _ _ _=>pQ hg
theorem sH {p:Pos} (hm:X.mg "list"=none) (ha:PE X e (tE X.K W fa)) (hG:Gl X "list":=by rfl) (hs:starEach [e] X.env=[(false,eval e X.env)]:=by rfl) :
  PE X (.Call (.Name "list" p) [e] [] pos) (tE X.K W (hV fa)):=aY (jM kX hG hm GJ (da_cons ha da_nil hs) (by decide) (by decide) hs rfl) fun _ _ _=>rd
theorem yO {f:Addr} {fd:FuncData} {ps:List Str} {k n:Nat} {den:List L8->Res} {x:Str} {p:Pos} (F:dH X.prog X.w X.K X.mg X.base ka k f fd ps (pG X.K n den)) (hr:Room k X.A) (hm:X.mg x=some (.ref f)) (hk:PySem.W.keepIn X.K (.ref f)=true)
  (hb:Binds X.K fd ps []) (ha:PA X (e::es) (tA X.K W fl)) (hg:Gl X x:=by rfl) (hdb:(x==("__debug__":Str))=false:=by decide) (he:starEach (e::es) X.env=(false,eval e X.env)::starEach es X.env:=by rfl)
  (hpl:(backTo pos (starEach es X.env)).any (·.1)=false:=by rfl):PE X (.Call (.Name x p) (e::es) [] pos) (tE X.K W (aj n den fl)):=aY (p7 F hr hg hm hk hb .nil zQ ha hdb he hpl) fun _ _ _=>xQ
theorem Ge {tg:Expr} {p:Pos} (hm:X.mg "range"=none) (ha:PA X [a] (tA X.K W fl)) (hg:Gl X "range":=by rfl) (hs:starEach [a] X.env=[(false,eval a X.env)]:=by rfl):PI X tg (.Call (.Name "range" p) [a] [] pos) (tI X.K W (dq fl)):=nF (rB hg hm ha hs) fun _ _ _=>BH
theorem Gd {tg:Expr} {p:Pos} (hm:X.mg "range"=none) (ha:PA X [a,b] (tA X.K W fl)) (hg:Gl X "range":=by rfl) (hs:starEach [a,b] X.env=[(false,eval a X.env),(false,eval b X.env)]:=by rfl) (hs2:starEach [b] X.env=[(false,eval b X.env)]:=by rfl) :
  PI X tg (.Call (.Name "range" p) [a,b] [] pos) (tI X.K W (vN fl)):=nF (rA hg hm ha hs hs2) fun _ _ _=>BG
def aN:FB:=fun Γ=>.ok true Γ
theorem yN {scope:Scope} {x:Str} {px:Pos} {iter elt:Expr} {ifs:List Expr} {fi:FI} {fe:F1} {fc:FB} (s:Sh) (i:Nat) (S:d7 X.N [i] X.env.scope scope) (hN:X.N.Nodup) (hi':PI X (.Name x px) iter (tI X.K W fi))
  (hc:∀cells C s₀ H₀ ex,PF (blk X scope cells C s₀ H₀ ex) ifs (tT X.K W0 fc)) (he:∀cells C s₀ H₀ ex,PE (blk X scope cells C s₀ H₀ ex) elt (tE X.K W0 fe))
  (hcalm:X.calm=true:=by rfl) (hx:X.N[i]?=some x:=by rfl) (hl:∀cells C s₀ H₀ ex,Loc (blk X scope cells C s₀ H₀ ex).env.scope x:=by first | exact fun _ _ _ _ _=>Or.inl rfl | exact fun _ _ _ _ _=>Or.inr rfl)
  (hf:∀cells C s₀ H₀ ex,(blk X scope cells C s₀ H₀ ex).fn x=true\/(blk X scope cells C s₀ H₀ ex).env.scope.names.lookup x=some .local:=by first | exact fun _ _ _ _ _=>Or.inr rfl | exact fun _ _ _ _ _=>Or.inl rfl)
  (hs:∀x,foldedSetIterable iter X.env x=pure x:=by intro _;rfl):PE X (.ListComp elt [⟨.Name x px,iter,ifs,0⟩] scope pos) (tE X.K W (aA s i fi fc fe)):=
 aY (xZ S hcalm hi' (fun cells C s₀ H₀ ex=>Iq (X:=blk X scope cells C s₀ H₀ ex) (i:=i) hN hx (hl cells C s₀ H₀ ex) (hf cells C s₀ H₀ ex)) hc he hs) fun _ _ _=>pP
theorem Do (own:Bool) (i:Nat) {x:Str} {pos':Pos} (hN:X.N.Nodup) (ha:PE X a (tE X.K W fa)) (hi:X.N[i]?=some x:=by rfl) (hx:Loc X.env.scope x:=by first | exact Or.inl rfl | exact Or.inr rfl) (hs:swapsWith a (some (.Name x pos')) pos.line X.env=pure false:=by rfl)
  (hf:X.fn x=true\/X.env.scope.names.lookup x=some .local:=by first | exact .inl rfl | exact .inr rfl):PS X (.Assign [.Name x pos'] a pos) (tS X.K W (ax own i fa)):=cB (IE hN hi hx ha hs hf) fun _ _ _=>GN
theorem oP (own:Bool) (j:Nat) {scope:Scope} {x y:Str} {px pos' spos:Pos} {iter elt:Expr} {ifs:List Expr} {fi:FI} {fe:F1} {fc:FB} (s:Sh) (i:Nat) (S:d7 X.N [i] X.env.scope scope) (hN:X.N.Nodup) (hi':PI X (.Name x px) iter (tI X.K W fi))
  (hc:∀cells C s₀ H₀ ex,PF (blk X scope cells C s₀ H₀ ex) ifs (tT X.K W0 fc)) (he:∀cells C s₀ H₀ ex,PE (blk X scope cells C s₀ H₀ ex) elt (tE X.K W0 fe))
  (hsw:swapsWith (.ListComp elt [⟨.Name x px,iter,ifs,0⟩] scope pos) (some (.Name y pos')) spos.line X.env=pure true:=by rfl)
  (hy:X.N[j]?=some y:=by rfl) (hly:X.env.scope.names.lookup y=some .local:=by rfl)
  (hcalm:X.calm=true:=by rfl) (hx:X.N[i]?=some x:=by rfl) (hl:∀cells C s₀ H₀ ex,Loc (blk X scope cells C s₀ H₀ ex).env.scope x:=by first | exact fun _ _ _ _ _=>Or.inl rfl | exact fun _ _ _ _ _=>Or.inr rfl)
  (hf:∀cells C s₀ H₀ ex,(blk X scope cells C s₀ H₀ ex).fn x=true\/(blk X scope cells C s₀ H₀ ex).env.scope.names.lookup x=some .local:=by first | exact fun _ _ _ _ _=>Or.inr rfl | exact fun _ _ _ _ _=>Or.inl rfl)
  (hs:∀x,foldedSetIterable iter X.env x=pure x:=by intro _;rfl):PS X (.Assign [.Name y pos'] (.ListComp elt [⟨.Name x px,iter,ifs,0⟩] scope pos) spos) (tS X.K W (ax own j (aA s i fi fc fe))):=
 cB (oh hN hy hly S hcalm hi' (fun cells C s₀ H₀ ex=>Iq (X:=blk X scope cells C s₀ H₀ ex) (i:=i) hN hx (hl cells C s₀ H₀ ex) (hf cells C s₀ H₀ ex)) hc he hsw hs) fun D σ H h=>by
  have h2:qU (tE X.K W (aA s i fi fc fe)) (gName j) D σ H:=GN h
  exact pP h2
theorem sv (i:Nat) {x:Str} {p apos cpos:Pos} (ha:PE X a (tE X.K W fa)) (hN:X.N[i]?=some x:=by rfl) (hv:DB X.env.scope x:=by first | exact Or.inl rfl | exact Or.inr (Or.inl rfl) | exact Or.inr (Or.inr rfl)) (hd:(x==("__debug__":Str))=false:=by decide)
  (hcd:(x==("__classdict__":Str))=false:=by decide) (hs:starEach [a] X.env=[(false,eval a X.env)]:=by rfl)
  (hbase:attributeBase (.Name x p) "append" X.env (eval (.Name x p) X.env)=eval (.Name x p) X.env:=by rfl) (hline:(apos.endLine==cpos.line)=true:=by rfl)
  (hfew:((backTo cpos (starEach [a] X.env)).all (fun x=>!x.1)&&(backToKw cpos (keywordEach [] X.env)).all (fun x=>x.1.isSome)
   && decide ([a].length+([]:List Keyword).length+(if ([]:List Keyword).isEmpty then 0 else 1)<30))=true:=by rfl)
  (hsw:swapsWith (.Call (.Attribute (.Name x p) "append" apos) [a] [] cpos) none pos.line X.env=pure false:=by rfl) :
  PS X (.Expr (.Call (.Attribute (.Name x p) "append" apos) [a] [] cpos) pos) (tS X.K W (dS i fa)):=
 cB (G6 (iq PySem.F.plainAttrs_list PySem.F.slot_list_append PySem.F.type_list_append IZ (qH hN hv hd hcd) (da_cons ha da_nil hs) hbase hfew hline hs rfl) hsw) fun _ _ _=>rf
theorem Dp (i:Nat) {x:Str} {px:Pos} {iter:Expr} {body:List Stmt} {fi:FI} {g:FS} (hp:PassesOwn (model X.prog X.w) X.A X.env X.xe) (hN:X.N.Nodup) (hi':PI X (.Name x px) iter (tI X.K W fi)) (hb:PSs X body (tS X.K W g)) (hcalm:X.calm=true:=by rfl)
  (hx:X.N[i]?=some x:=by rfl) (hl:Loc X.env.scope x:=by first | exact Or.inl rfl | exact Or.inr rfl) (hf:X.fn x=true\/X.env.scope.names.lookup x=some .local:=by first | exact .inl rfl | exact .inr rfl)
  (hs:∀x,foldedSetIterable iter X.env x=pure x:=by intro _;rfl):PS X (.For (.Name x px) iter body [] pos) (tS X.K W (cZ i fi g)):=
 cB (B8 hp hcalm hi' (Iq hN hx hl hf) hb hs) fun _ _ _=>BJ
end
structure Cp (X:Cx) (N gl:List Str) (vs cs ls lo gs:List Nat):Prop where
 hN:X.N=N
 nd:N.Nodup
 nm:∀x∈N,(x==("__debug__":Str))=false/\(x==("__classdict__":Str))=false
 ng:∀x∈gl,(x==("__debug__":Str))=false/\x ≠ "__name__"
 vis:∀(i:Nat) x,N[i]?=some x->vs.contains i=true->DB X.env.scope x
 cel:∀(i:Nat) x,N[i]?=some x->cs.contains i=true->X.env.scope.names.lookup x=some .cell\/X.env.scope.names.lookup x=some .free
 loc:∀(i:Nat) x,N[i]?=some x->ls.contains i=true->Loc X.env.scope x/\(X.fn x=true\/X.env.scope.names.lookup x=some .local)
 loo:∀(i:Nat) x,N[i]?=some x->lo.contains i=true->X.env.scope.names.lookup x=some .local
 glb:∀(j:Nat) x,gl[j]?=some x->gs.contains j=true->Gl X x
 calm:X.calm=true
 kind:X.env.scope.kind=.function
def zh (sc:Scope) (ks:List NameKind) (o:Option Str):Bool:=match o with
 | some x=>(match sc.names.lookup x with
  | some k=>ks.any fun z=>decide (z=k)
  | none=>false)
 | none=>true
def wu (N gl:List Str) (vs cs ls lo gs:List Nat) (sc:Scope):Bool:=
 decide (sc.kind=.function)&&(vs.all fun i=>zh sc [.local,.cell,.free] N[i]?)&&(cs.all fun i=>zh sc [.cell,.free] N[i]?)&&(ls.all fun i=>zh sc [.local,.cell] N[i]?)&&(lo.all fun i=>zh sc [.local] N[i]?)&&(gs.all fun j=>zh sc [.globalImplicit] gl[j]?)
def D5 (N gl:List Str):Bool:=decide N.Nodup&&(N.all fun x=>!(x==("__debug__":Str))&&!(x==("__classdict__":Str)))&&(gl.all fun x=>!(x==("__debug__":Str))&&!decide (x = "__name__"))
theorem DZ {sc:Scope} {ks:List NameKind} {x:Str} (h:zh sc ks (some x)=true):∃k∈ks,sc.names.lookup x=some k:=by
 unfold zh at h;simp only at h
 split at h
 ·rename_i k e
  simp only [any_eq_true,decide_eq_true_eq] at h
  obtain ⟨z,hz,rfl⟩:=h;exact ⟨z,hz,e⟩
 ·cases h
theorem Eh {P:Nat->Bool} {l:List Nat} {i:Nat} (h:l.all P=true) (hi:l.contains i=true):P i=true:=by
 rw [all_eq_true] at h;exact h i (by simpa using hi)
structure LM (N gl:List Str) (vs cs ls lo gs:List Nat) (sc:Scope):Prop where
 kind:sc.kind=.function
 vis:∀(i:Nat) x,N[i]?=some x->vs.contains i=true->DB sc x
 cel:∀(i:Nat) x,N[i]?=some x->cs.contains i=true->sc.names.lookup x=some .cell\/sc.names.lookup x=some .free
 loc:∀(i:Nat) x,N[i]?=some x->ls.contains i=true->Loc sc x
 loo:∀(i:Nat) x,N[i]?=some x->lo.contains i=true->sc.names.lookup x=some .local
 glb:∀(j:Nat) x,gl[j]?=some x->gs.contains j=true->sc.names.lookup x=some .globalImplicit
theorem Ej {N gl:List Str} {vs cs ls lo gs:List Nat} {sc:Scope} (h:wu N gl vs cs ls lo gs sc=true):LM N gl vs cs ls lo gs sc:=by
 unfold wu at h;simp only [Bool.and_eq_true,decide_eq_true_eq] at h
 obtain ⟨⟨⟨⟨⟨h0,h1⟩,h2⟩,h3⟩,h4⟩,h5⟩:=h;refine ⟨h0,fun i x e hi=>?_,fun i x e hi=>?_,fun i x e hi=>?_,fun i x e hi=>?_,fun i x e hi=>?_⟩
 ·have q:=Eh h1 hi
  rw [e] at q;obtain ⟨k,hk,q⟩:=DZ q;simp only [mem_cons,not_mem_nil,or_false] at hk
  rcases hk with rfl | rfl | rfl
  ·exact .inl q
  ·exact .inr (.inl q)
  ·exact .inr (.inr q)
 ·have q:=Eh h2 hi
  rw [e] at q;obtain ⟨k,hk,q⟩:=DZ q;simp only [mem_cons,not_mem_nil,or_false] at hk
  rcases hk with rfl | rfl
  ·exact .inl q
  ·exact .inr q
 ·have q:=Eh h3 hi
  rw [e] at q;obtain ⟨k,hk,q⟩:=DZ q;simp only [mem_cons,not_mem_nil,or_false] at hk
  rcases hk with rfl | rfl
  ·exact .inl q
  ·exact .inr q
 ·have q:=Eh h4 hi
  rw [e] at q;obtain ⟨k,hk,q⟩:=DZ q;simp only [mem_cons,not_mem_nil,or_false] at hk
  rw [hk] at q;exact q
 ·have q:=Eh h5 hi
  rw [e] at q;obtain ⟨k,hk,q⟩:=DZ q;simp only [mem_cons,not_mem_nil,or_false] at hk
  rw [hk] at q;exact q
theorem GM {N gl:List Str} (h:D5 N gl=true):N.Nodup/\(∀x∈N,(x==("__debug__":Str))=false/\(x==("__classdict__":Str))=false)/\∀x∈gl,(x==("__debug__":Str))=false/\x ≠ "__name__":=by
 unfold D5 at h;simp only [Bool.and_eq_true,decide_eq_true_eq,all_eq_true,Bool.not_eq_true',decide_eq_false_iff_not] at h
 exact ⟨h.1.1,h.1.2,h.2⟩
theorem Cp.fn {P:Program} {w:World} {K:Fg} {mg:Str->Option Value} {base:Heap} {N gl:List Str} {vs cs ls lo gs:List Nat} {qual:Str} {sc:Scope} {f:Addr} {cd:Value} {A:Around} {outer:List Env} {s:Shared} {H:Hp} {E:XK}
  (h:wu N gl vs cs ls lo gs sc=true) (h':D5 N gl=true):Cp (fm ka P w K mg base N qual sc f cd A outer s H E).nox N gl vs cs ls lo gs:=by
 obtain ⟨a,b,c⟩:=GM h'
 have q:=Ej h
 exact ⟨rfl,a,b,c,q.vis,q.cel,fun i x e hi=>⟨q.loc i x e hi,.inl rfl⟩,q.loo,q.glb,rfl,q.kind⟩
theorem zJ {env:Env} {x:Str} {k:NameKind}:∀{names:List (Str×NameKind)},names.lookup x=some k ->
  (names.map fun (n,k)=>if (k==NameKind.free&&env.scope.kind==.function&&env.kindOf n==some .cell) then (n,NameKind.cell) else (n,k)).lookup x=some k \/
  (k=.free/\(names.map fun (n,k)=>if (k==NameKind.free&&env.scope.kind==.function&&env.kindOf n==some .cell) then (n,NameKind.cell) else (n,k)).lookup x=some .cell)
 | [],h=>by simp at h
 | (n,k')::r,h=>by
  have ih:=@zJ env x k r
  rw [map_cons];show List.lookup x ((if (k'==NameKind.free&&env.scope.kind==.function&&env.kindOf n==some .cell)=true then (n,NameKind.cell) else (n,k'))::_)=_\/_/\List.lookup x ((if (k'==NameKind.free&&env.scope.kind==.function&&env.kindOf n==some .cell)=true then (n,NameKind.cell) else (n,k'))::_)=_
  by_cases hc:(k'==NameKind.free&&env.scope.kind==.function&&env.kindOf n==some .cell)=true
  ·rw [if_pos hc]
   cases hx:x==n with
   | true=>
    simp only [lookup_cons,hx] at h ⊢
    cases h;simp only [Bool.and_eq_true,beq_iff_eq] at hc
    exact .inr ⟨hc.1.1,trivial⟩
   | false=>
    simp only [lookup_cons,hx] at h ⊢
    exact ih h
  ·rw [if_neg hc]
   cases hx:x==n with
   | true=>
    simp only [lookup_cons,hx] at h ⊢
    cases h;exact .inl rfl
   | false=>
    simp only [lookup_cons,hx] at h ⊢
    exact ih h
theorem xc {scope:Scope} {env:Env} {x:Str} {k:NameKind} (h:scope.names.lookup x=some k):(relabel scope env).names.lookup x=some k\/(k=.free/\(relabel scope env).names.lookup x=some .cell):=zJ h
theorem Cp.blk {X:Cx} {N gl:List Str} {vs cs ls lo gs vs' cs' ls' lo' gs':List Nat} {scope:Scope} (S:Cp X N gl vs cs ls lo gs) (h:wu N gl vs' cs' ls' lo' gs' scope=true) (cells C s₀ H₀ ex) :
  Cp (blk X scope cells C s₀ H₀ ex) N gl vs' cs' ls' lo' gs':=by
 have q:=Ej h
 refine ⟨S.hN,S.nd,S.nm,S.ng,fun i x e hi=>?_,fun i x e hi=>?_,fun i x e hi=>?_,fun i x e hi=>?_,fun i x e hi=>?_,S.calm,q.kind⟩
 ·show DB (relabel scope X.env) x
  rcases q.vis i x e hi with z | z | z
  ·rcases xc (env:=X.env) z with y | ⟨y,_⟩
   ·exact .inl y
   ·cases y
  ·rcases xc (env:=X.env) z with y | ⟨y,_⟩
   ·exact .inr (.inl y)
   ·cases y
  ·rcases xc (env:=X.env) z with y | ⟨_,y⟩
   ·exact .inr (.inr y)
   ·exact .inr (.inl y)
 ·show (relabel scope X.env).names.lookup x=some .cell\/(relabel scope X.env).names.lookup x=some .free
  rcases q.cel i x e hi with z | z
  ·rcases xc (env:=X.env) z with y | ⟨y,_⟩
   ·exact .inl y
   ·cases y
  ·rcases xc (env:=X.env) z with y | ⟨_,y⟩
   ·exact .inr y
   ·exact .inl y
 ·show Loc (relabel scope X.env) x/\((scope.names.any fun y=>y.1==x&&y.2==.cell)=true\/(relabel scope X.env).names.lookup x=some .local)
  rcases q.loc i x e hi with z | z
  ·rcases xc (env:=X.env) z with y | ⟨y,_⟩
   ·exact ⟨.inl y,.inr y⟩
   ·cases y
  ·rcases xc (env:=X.env) z with y | ⟨y,_⟩
   ·refine ⟨.inr y,.inl ?_⟩
    rw [any_eq_true];exact ⟨(x,.cell),iD z,by simp⟩
   ·cases y
 ·show (relabel scope X.env).names.lookup x=some .local
  rcases xc (env:=X.env) (q.loo i x e hi) with y | ⟨y,_⟩
  ·exact y
  ·cases y
 ·show (relabel scope X.env).names.lookup x=some .globalImplicit
  rcases xc (env:=X.env) (q.glb i x e hi) with y | ⟨y,_⟩
  ·exact y
  ·cases y
def j0 (N:List Str) (i:Nat) (cs:List Nat) (sc:Scope):Bool:=
 decide (sc.kind=.function)&&(sc.names.all fun p=>!decide (p.2=.free)||cs.any fun j=>decide (N[j]?=some p.1)) &&
 ((List.range N.length).all fun j=>j==i||(sc.names.all fun p=>!decide (some p.1=N[j]?)||(!decide (p.2=.local)&&!decide (p.2=.cell)))) &&
 (sc.names.all fun p=>!decide (p.2=.local)||decide (sc.names.lookup p.1=some .local)) &&
 (sc.names.all fun p=>!decide (p.2=.free)||sc.names.all fun q=>!decide (q.1=p.1)||!decide (q.2=.cell))
theorem nu {X:Cx} {N gl:List Str} {vs cs ls lo gs:List Nat} {scope:Scope} {i:Nat} (S:Cp X N gl vs cs ls lo gs) (h:j0 N i cs scope=true):d7 X.N [i] X.env.scope scope:=by
 unfold j0 at h;simp only [Bool.and_eq_true,decide_eq_true_eq,all_eq_true,Bool.or_eq_true,Bool.not_eq_true',decide_eq_false_iff_not,any_eq_true,mem_range,beq_iff_eq] at h
 obtain ⟨⟨⟨⟨h0,h1⟩,h2⟩,h3⟩,h4⟩:=h;refine ⟨h0,fun n hn=>?_,fun j x e hj=>?_,fun x hx e=>?_,fun n hn hc=>?_⟩
 ·rcases h1 _ hn with z | ⟨j,hj,e⟩
  ·exact absurd rfl z
  ·exact S.cel j n e (by simpa using hj)
 ·rw [S.hN] at e
  rcases h2 j (L0 e).1 with z | z
  ·rw [z];exact List.mem_singleton.mpr rfl
  ·exfalso
   rcases hj with y | y
   ·rcases z _ y with w | w
    ·exact w e.symm
    ·exact w.1 rfl
   ·rcases z _ y with w | w
    ·exact w e.symm
    ·exact w.2 rfl
 ·rcases h3 x hx with z | z
  ·exact absurd e z
  ·exact z
 ·rcases h4 _ hn with z | z
  ·exact z rfl
  ·rcases z _ hc with w | w
   ·exact w rfl
   ·exact w rfl
structure Fx (X Y:Cx):Prop where
 prog:Y.prog=X.prog
 w:Y.w=X.w
 K:Y.K=X.K
 mg:Y.mg=X.mg
 base:Y.base=X.base
 A:Y.A=X.A
def Rm (X:Cx):Prop:=X.A.units+64<cLine
def D9 (X:Cx) (x:Str) (n:Nat) (den:List L8->Res):Prop:=∃(k:Nat) (f:Addr) (fd:FuncData) (ps:List Str),dH X.prog X.w X.K X.mg X.base ka k f fd ps (pG X.K n den)/\Room k X.A/\X.mg x=some (.ref f)/\PySem.W.keepIn X.K (.ref f)=true/\Binds X.K fd ps []
def Con (X:Cx) (x:Str) (d:L8):Prop:=∃u v,X.mg x=some u/\RelV v u/\∀H,Rep X.K H v d
section
variable {X:Cx} {N gl:List Str} {vs cs ls lo gs:List Nat} {W:XW} {a b c e:Expr} {es:List Expr} {pos p:Pos} {fa fb fc:F1} {fl:FL} {ga gb:FB} {g1 g2:FS}
theorem cv (S:Cp X N gl vs cs ls lo gs) (i:Nat) {x:Str} (hN:N[i]?=some x) (hv:vs.contains i=true):PE X (.Name x pos) (tE X.K W (af i)):=by
 have m:=S.nm x (mem_of_getElem? hN)
 exact wo (qH (by rw [S.hN];exact hN) (S.vis i x hN hv) m.1 m.2)
theorem cm (S:Cp X N gl vs cs ls lo gs) (i:Nat) {x:Str} (hN:N[i]?=some x) (hv:vs.contains i=true):PE X (.Name x pos) (tE X.K W (bR i)):=by
 have m:=S.nm x (mem_of_getElem? hN)
 exact yL (qH (by rw [S.hN];exact hN) (S.vis i x hN hv) m.1 m.2)
theorem Cp.g (S:Cp X N gl vs cs ls lo gs) {j:Nat} {x:Str} (hj:gl[j]?=some x) (hg:gs.contains j=true):Gl X x/\(x==("__debug__":Str))=false/\x ≠ "__name__":=
 ⟨S.glb j x hj hg,S.ng x (mem_of_getElem? hj)⟩
def Fq:R2:=fun x y H Q=>pV (fun i j=>.bl (decide (i<j))) x y H Q\/∃i j,x=.str i/\y=.str j/\Q (.bl (decide (i.cps.toList<j.cps.toList))) H
theorem FH:OpR X (compareOp .Lt) Fq:=op_lt.or rD
def Dh:L8->L8->Option L8
 | .str i,.str j=>some (.bool (!decide (i.cps.toList<j.cps.toList)))
 | _,_=>none
abbrev oG:L8->L8->Option L8:=fun a b=>(LC a b).or (Dh a b)
def BZ:R2:=fun x y H Q=>pV (fun i j=>.bl (decide (j<=i))) x y H Q\/∃i j,x=.str i/\y=.str j/\Q (.bl (!decide (i.cps.toList<j.cps.toList))) H
theorem rF:OpR X (compareOp .GtE) (fun x y H Q=>∃i j,x=.str i/\y=.str j/\Q (.bl (!decide (i.cps.toList<j.cps.toList))) H):=by
 intro pins s σ H x y v u Q I rx ry h;obtain ⟨i,j,rfl,rfl,q⟩:=h;obtain ⟨t,rfl⟩:=rx;obtain ⟨t',rfl⟩:=ry;exact PySem.P.ge_str (El I q rfl)
theorem FJ:OpR X (compareOp .GtE) BZ:=op_ge.or rF
theorem yy {K:Fg}:GOp K (fun x y H Q=>∃i j,x=.str i/\y=.str j/\Q (.bl (!decide (i.cps.toList<j.cps.toList))) H) Dh:=by
 intro x y H Q a b d ra rb e k
 cases ra<;>cases rb<;>simp only [Dh] at e<;>try cases e
 rename_i i j;exact ⟨i,j,rfl,rfl,k _ (.bl _)⟩
theorem C6 {K:Fg}:GOp K BZ oG:=(DM fun _ _=>.bl _).or yy
structure Ck (X:Cx) (op:CmpOp) (r:R2) (g:L8->L8->Option L8):Prop where
 o:OpR X (compareOp op) r
 g:GOp X.K r g
theorem mn (R:Rm X):Ck X .Lt Fq gv:=⟨FH,C5⟩
theorem B5 (R:Rm X):Ck X .LtE (pV fun i j=>.bl (decide (i<=j))) w4:=⟨FE,DM fun _ _=>.bl _⟩
theorem mq (R:Rm X):Ck X .Gt (pV fun i j=>.bl (decide (j<i))) fI:=⟨FF,DM fun _ _=>.bl _⟩
theorem Ka (R:Rm X):Ck X .GtE BZ oG:=⟨FJ,C6⟩
theorem b7 (R:Rm X):Ck X .Eq (rj X.K false) bC:=⟨Cz R,C7⟩
theorem ja (R:Rm X):Ck X .NotEq (rj X.K true) eC:=⟨Ct R,C4⟩
theorem b4 (R:Rm X):Ck X .In (u0 X.K false) (bf false):=⟨Cy R,vS⟩
theorem AD (R:Rm X):Ck X .NotIn (u0 X.K true) (bf true):=⟨rC R,vS⟩
theorem ct {op:CmpOp} {r:R2} {g:L8->L8->Option L8} (k:Ck X op r g) (ha:PE X a (tE X.K W fa)) (hb:PE X b (tE X.K W fb)) (hm:behindInMarks op b=false):PT X (.Compare a [op] [b] pos) (tT X.K W (aL ao (ay g fa fb))):=Dn k.o k.g ha hb hm
theorem cc {x:Str} {n:Nat} {den:List L8->Res} (S:Cp X N gl vs cs ls lo gs) (j:Nat) (hj:gl[j]?=some x) (hg:gs.contains j=true) (C:D9 X x n den) (ha:PA X (e::es) (tA X.K W fl)) (he:starEach (e::es) X.env=(false,eval e X.env)::starEach es X.env) (hpl:(backTo pos (starEach es X.env)).any (·.1)=false) :
  PE X (.Call (.Name x p) (e::es) [] pos) (tE X.K W (aj n den fl)):=by
 obtain ⟨k,f,fd,ps,F,hr,hm,hk,hb⟩:=C;exact yO F hr hm hk hb ha (S.g hj hg).1 (S.g hj hg).2.1 he hpl
abbrev Aj (X:Cx) (N gl:List Str) (vs cs ls lo gs:List Nat) (R:Cx->Prop):Prop:=∀Y:Cx,Cp Y N gl vs cs ls lo gs->Fx X Y->R Y
theorem co {scope:Scope} {x:Str} {px:Pos} {iter elt:Expr} {ifs:List Expr} {fi:FI} {fe:F1} {fc:FB} {vs' cs' lo' gs':List Nat} (S:Cp X N gl vs cs ls lo gs) (s:Sh) (i:Nat) (hx:N[i]?=some x) (h1:j0 N i cs scope=true) (h2:wu N gl vs' cs' [i] lo' gs' scope=true)
  (hi':PI X (.Name x px) iter (tI X.K W fi)) (hc:Aj X N gl vs' cs' [i] lo' gs' fun Y=>PF Y ifs (tT Y.K W0 fc)) (he:Aj X N gl vs' cs' [i] lo' gs' fun Y=>PE Y elt (tE Y.K W0 fe)) (hs:∀x,foldedSetIterable iter X.env x=pure x) :
  PE X (.ListComp elt [⟨.Name x px,iter,ifs,0⟩] scope pos) (tE X.K W (aA s i fi fc fe)):=by
 have B:=fun cells C s₀ H₀ ex=>S.blk h2 cells C s₀ H₀ ex
 have L:=fun cells C s₀ H₀ ex=>(B cells C s₀ H₀ ex).loc i x hx (by simp)
 exact yN (X:=X) s i (nu S h1) (by rw [S.hN];exact S.nd) hi' (fun cells C s₀ H₀ ex=>hc _ (B cells C s₀ H₀ ex) ⟨rfl,rfl,rfl,rfl,rfl,rfl⟩) (fun cells C s₀ H₀ ex=>he _ (B cells C s₀ H₀ ex) ⟨rfl,rfl,rfl,rfl,rfl,rfl⟩)
  S.calm (by rw [S.hN];exact hx) (fun cells C s₀ H₀ ex=>(L cells C s₀ H₀ ex).1) (fun cells C s₀ H₀ ex=>(L cells C s₀ H₀ ex).2) hs
theorem nS {elt:Expr} {gens:List Comprehension} {scope:Scope} {y:Str} {pos':Pos} {line:Nat} (hk:X.env.scope.kind=.function) (hy:X.env.scope.names.lookup y=some .local) (hl:(pos'.line==pos.line)=true)
  (hn:(scope.names.any fun (n,k)=>n==y&&(k==NameKind.local||k==NameKind.cell))=false):swapsWith (.ListComp elt gens scope pos) (some (.Name y pos')) line X.env=pure true:=by
 have e1:(X.env.blockKind==ScopeKind.function)=true:=by unfold Env.blockKind;rw [hk];rfl
 have e2:(X.env.kindOf y==some NameKind.local)=true:=by unfold Env.kindOf;rw [hy];rfl
 show (pure (X.env.blockKind==.function&&X.env.kindOf y==some .local&&pos'.line==pos.line&&!(scope.names.any fun (n,k)=>n==y&&(k==NameKind.local||k==NameKind.cell))):Sem Bool)=pure true
 rw [e1,e2,hl,hn];rfl
theorem lS {elt:Expr} {gens:List Comprehension} {scope:Scope} {y:Str} {pos':Pos} {line:Nat} (hy:X.env.scope.names.lookup y=some .cell\/X.env.scope.names.lookup y=some .free):swapsWith (.ListComp elt gens scope pos) (some (.Name y pos')) line X.env=pure false:=by
 have e2:(X.env.kindOf y==some NameKind.local)=false:=by
  unfold Env.kindOf;rcases hy with hy | hy<;>rw [hy]<;>rfl
 show (pure (X.env.blockKind==.function&&X.env.kindOf y==some .local&&pos'.line==pos.line&&!(scope.names.any fun (n,k)=>n==y&&(k==NameKind.local||k==NameKind.cell))):Sem Bool)=pure false
 rw [e2,Bool.and_false,Bool.false_and,Bool.false_and]
theorem cs_append (S:Cp X N gl vs cs ls lo gs) (i:Nat) {x:Str} {apos cpos:Pos} (hi:N[i]?=some x) (hv:vs.contains i=true) (ha:PE X a (tE X.K W fa)) (hs:starEach [a] X.env=[(false,eval a X.env)])
  (hbase:attributeBase (.Name x p) "append" X.env (eval (.Name x p) X.env)=eval (.Name x p) X.env) (hline:(apos.endLine==cpos.line)=true)
  (hfew:((backTo cpos (starEach [a] X.env)).all (fun x=>!x.1)&&(backToKw cpos (keywordEach [] X.env)).all (fun x=>x.1.isSome)
   && decide ([a].length+([]:List Keyword).length+(if ([]:List Keyword).isEmpty then 0 else 1)<30))=true)
  (hsw:swapsWith (.Call (.Attribute (.Name x p) "append" apos) [a] [] cpos) none pos.line X.env=pure false) :
  PS X (.Expr (.Call (.Attribute (.Name x p) "append" apos) [a] [] cpos) pos) (tS X.K W (dS i fa)):=
 sv i ha (by rw [S.hN];exact hi) (S.vis i x hi hv) (S.nm x (mem_of_getElem? hi)).1 (S.nm x (mem_of_getElem? hi)).2 hs hbase hline hfew hsw
end
def eU (g:L8->Option L8) (fa:F1):F1:=aX fa fun p Γ=>match g p.d with
 | some d=>.ok ⟨.leaf,d⟩ Γ
 | none=>.no
def dZ:L8->Option L8
 | .int i=>some (.int (-i))
 | _=>none
def fW (fa fb:F1):F1:=aX fa fun p=>aX fb fun q=>fun Γ=>match p.s,p.d,q.d with
 | .lst .leaf,.list ds,.int k=>if cn k&&decide (ds.length*k.toNat<=sizeLine) then .ok ⟨.lst .leaf,.list (List.replicate k.toNat ds).flatten⟩ Γ else .no
 | _,_,_=>.no
def zk:Option (Option PV)->Bool
 | some (some ⟨.lst .leaf,.list _⟩)=>true
 | _=>false
def Bp (i:Nat) (p q:PV) (Γ:Ev):dG:=match Γ[i]? with
 | some (some ⟨.lst .leaf,.list ds⟩)=>(match q.d with
  | .int k=>(match eF ds.length k with
   | some j=>if T.coer .leaf p then .nx (Γ.set i (some ⟨.lst .leaf,.list (ds.set j p.d)⟩)) else .no
   | none=>.no)
  | _=>.no)
 | _=>.no
def fN (i:Nat) (fv fk:F1):FS:=fun Γ=>if zk Γ[i]? then gS fv (fun p=>gS fk (Bp i p)) Γ else .no
def qX (i:Nat) (g:FS):FS:=fun Γ=>match Γ[i]? with
 | some (some p)=>g (Γ.set i (L9 p.d))
 | _=>.no
section
variable {K:Fg} {W:XW} {σ:St} {H:Hp} {Q:VK} {D:dI} {fa fb:F1} {fl:FL}
theorem Fe {r:V->Hp->VK->Prop} {g:L8->Option L8} (hg:∀x H Q a d,Rep K H x a->g a=some d->(∀v,Sc v d->Q v H)->r x H Q) (h:tE K W (eU g fa) σ H Q):KG r (tE K W fa) σ H Q:=by
 refine xf h fun He O Fs Γ1 p v H1 G Fs1 nd A h1=>?_
 cases e:g p.d with
 | none=>rw [e] at h1;exact h1.elim
 | some d=>
  rw [e] at h1;exact hg v H1 Q p.d d A.own.rep e fun u hu=>Wants.scal h1 hu A.same A.env.dropL (fun a ha=>ha) nd fun a ha=>A.new a (LP _ ha)
theorem mW {α β:Type} {xs:List α} {ys:List β} (hl:xs.length=ys.length):∀(k j:Nat) {x:α} {y:β},(List.replicate k xs).flatten[j]?=some x->(List.replicate k ys).flatten[j]?=some y->∃i:Nat,xs[i]?=some x/\ys[i]?=some y
 | 0,j,x,y,h,_=>by simp at h
 | k+1,j,x,y,h1,h2=>by
  rw [replicate_succ,flatten_cons] at h1 h2
  by_cases hj:j<xs.length
  ·rw [getElem?_append_left hj] at h1
   rw [getElem?_append_left (by omega)] at h2
   exact ⟨j,h1,h2⟩
  ·rw [getElem?_append_right (by omega)] at h1
   rw [getElem?_append_right (by omega),<-hl] at h2
   exact mW hl k (j-xs.length) h1 h2
theorem IY:∀{Fs:List (List Addr)},(∀F∈Fs,F=[])->Fs.flatten=[]
 | [],_=>rfl
 | F::r,h=>by rw [flatten_cons,h F mem_cons_self,IY fun G hG=>h G (LX _ hG)];rfl
theorem Own.leaves {O:List Addr} {G:List Addr} {v:V} {ds:List L8} (h:Own K O H (.lst .leaf) G v (.list ds)):∃l vs,v=.ref l/\G=[l]/\H l=some (.lst vs)/\vs.length=ds.length/\∀(j:Nat) u d,vs[j]?=some u->ds[j]?=some d->Rep K (cY H O) u d:=by
 cases h with
 | @lst _ l vs _ Fs hsv hp hl hf nd q=>
  have hF:∀F∈Fs,F=[]:=fun F hF=>by
   obtain ⟨j,hj,e⟩:=List.getElem_of_mem hF;have o:=q j (vs[j]'(by omega)) (ds[j]'(by omega)) F (LV _) (LV _) (by rw [LV hj,e])
   cases o;rfl
  refine ⟨l,vs,rfl,by rw [IY hF],hp,hl,fun j u d h1 h2=>?_⟩
  have hj:=(L0 h2).1
  have o:=q j u d (Fs[j]'(by omega)) h1 h2 (LV _)
  generalize Fs[j]'(by omega)=F at o
  cases o with
  | leaf r=>exact r
theorem Own.mkLeaves {O:List Addr} {l:Addr} {vs:List V} {ds:List L8} (hp:H l=some (.lst vs)) (hl:vs.length=ds.length) (q:∀(j:Nat) u d,vs[j]?=some u->ds[j]?=some d->Rep K (cY H O) u d):Own K O H (.lst .leaf) [l] (.ref l) (.list ds):=by
 have hF:(List.replicate ds.length ([]:List Addr)).flatten=[]:=IY fun F hF=>(List.mem_replicate.mp hF).2
 have o:Own K O H (.lst .leaf) (l::(List.replicate ds.length ([]:List Addr)).flatten) (.ref l) (.list ds):=by
  refine .lst rfl hp hl (by simp) (by rw [hF];simp) fun j u d F h1 h2 h3=>?_
  have:F=[]:=(List.mem_replicate.mp (mem_of_getElem? h3)).2
  subst this;exact .leaf (q j u d h1 h2)
 rw [hF] at o;exact o
theorem Bx (h:tE K W (fW fa fb) σ H Q):xr BV (tE K W fa) (tE K W fb) σ H Q:=by
 refine Ay (R:=fun v u H2=>BV v u H2 Q) h fun He O Fs Γ2 p q v u H1 H2 G1 G2 Fs2 nd s1 s2 E new o1 o2 w=>?_
 obtain ⟨s,d⟩:=p;obtain ⟨s',d'⟩:=q;dsimp only at w o1 o2
 split at w
 ·rename_i ds k
  have hq:=o2.rep
  cases hq;obtain ⟨l,vs,rfl,rfl,hp,hl,hr⟩:=o1.leaves;by_cases hc:(cn k&&decide (ds.length*k.toNat<=sizeLine))=true
  ·rw [if_pos hc] at w
   simp only [Bool.and_eq_true,decide_eq_true_eq,cn] at hc
   refine ⟨l,k,vs,rfl,rfl,hp,by omega,by omega,by rw [hl];exact hc.2,fun p' hp'=>?_⟩
   have nd2:O.Nodup:=nd
   have E1:EnvOk K He O Fs2 H2 σ Γ2:=E.drop (fun a ha=>LP _ (LP _ ha)) nd
   have E2:=E1.hide (G:=[p']) (kd (o:=.lst (List.replicate k.toNat vs).flatten) hp') (by simp) (by simpa using hp') (fun a ha=>by rw [List.mem_singleton.mp ha,iV];exact Option.some_ne_none _)
   refine w (.ref p') _ [p'] Fs2 ⟨(s1.trans s2).trans (kd hp'),E2,fun a ha=>?_,?_⟩
   ·rcases LR ha with z | z
    ·rw [List.mem_singleton.mp z]
     exact .inr (s1.free (s2.free hp'))
    ·exact new a (LP _ (LP _ z))
   ·refine Own.mkLeaves iV (by rw [Io,Io,hl]) fun j x d h1 h2=>?_
    obtain ⟨i,e1,e2⟩:=mW hl _ j h1 h2;refine (hr i x d e1 e2).mono (xk (kd hp') fun a ha=>?_)
    rcases LR ha with z | z
    ·rcases LR z with z | z
     ·rw [List.mem_singleton.mp z];exact .inr hp'
     ·exact .inl (LQ _ (LP _ (LP _ z)))
    ·exact .inl (LP _ z)
  ·rw [if_neg hc] at w;exact w.elim
 ·exact w.elim
theorem Bf {k:PV->PV->Ev->dG} {R:V->V->Hp->Prop} (h:tS K W (gS fa fun p=>gS fb (k p)) D σ H)
  (hk:∀He O Γ2 p q v u H1 H2 G1 G2 Fs2,O.Nodup->Same H H1->Same H1 H2->EnvOk K He (G2++(G1++O)) Fs2 H2 σ Γ2->(∀a∈G2++G1,He a=none) ->
   Own K (G2++(G1++O)++Fs2.flatten) H2 p.s G1 v p.d->Own K (G2++(G1++O)++Fs2.flatten) H2 q.s G2 u q.d->lu K W He O D (k p q Γ2)->R v u H2) :
  tE K W fa σ H fun v H1=>tE K W fb σ H1 fun u H2=>R v u H2:=by
 refine gG h fun He O Fs Γ1 p v H1 G1 Fs1 _ fr A1 h1=>?_
 refine ⟨He,G1++O,Fs1,Γ1,A1.env,?_⟩
 unfold gS at h1;have nd:O.Nodup:=(LZ A1.env.ndO).2.1
 cases e:fb Γ1 with
 | ok q Γ2=>
  rw [e] at h1;intro u H2 G2 Fs2 A2;refine hk He O Γ2 p q v u H1 H2 G1 G2 Fs2 nd A1.same A2.same A2.env (fun a ha=>?_) (A1.own.mono A2.same fun a ha=>?_) A2.own h1
  ·rcases LR ha with z | z
   ·exact A2.freshG A1.env a z
   ·exact fr a z
  ·rcases LR ha with z | z
   ·rcases LR z with z | z
    ·rcases A2.new a (LQ _ z) with y | y
     ·exact .inl (LP _ y)
     ·exact .inr y
    ·exact .inl (LQ _ z)
   ·rcases A2.new a (LP _ z) with y | y
    ·exact .inl (LP _ y)
    ·exact .inr y
 | er c Γ2=>
  rw [e] at h1;intro H2 Fs2 hs E2;exact h1 σ H2 Fs2 E2.dropL
 | no=>
  rw [e] at h1;exact h1
theorem Iz {Q':VK} (h:tE K W fa σ H Q) (hq:∀v H',Q v H'->Q' v H'):tE K W fa σ H Q':=by
 obtain ⟨He,O,Fs,Γ,E,h⟩:=h;refine ⟨He,O,Fs,Γ,E,?_⟩
 cases e:fa Γ with
 | ok p Γ'=>rw [e] at h;exact fun v H' G Fs' A=>hq v H' (h v H' G Fs' A)
 | er c Γ'=>rw [e] at h;exact h
 | no=>rw [e] at h;exact h
theorem EnvOk.chg {He:Hp} {O:List Addr} {Fs:List (List Addr)} {Γ:Ev} {i:Nat} {ds:List L8} (E:EnvOk K He O Fs H σ Γ) (h:Γ[i]?=some (some ⟨.lst .leaf,.list ds⟩)) :
  ∃l vs,σ[i]?=some (some (.ref l))/\H l=some (.lst vs)/\vs.length=ds.length/\(∀(j:Nat) u d,vs[j]?=some u->ds[j]?=some d->Rep K (cY H (O++Fs.flatten)) u d) /\
   ∀(vs':List V) (ds':List L8),vs'.length=ds'.length->(∀(j:Nat) u d,vs'[j]?=some u->ds'[j]?=some d->Rep K (cY H (O++Fs.flatten)) u d)->∃Fs',EnvOk K He O Fs' (cy H l (.lst vs')) σ (Γ.set i (some ⟨.lst .leaf,.list ds'⟩)):=by
 obtain ⟨hv,v,F,h1,E1,o1,sub⟩:=E.move h;have hi:i<Γ.length:=(L0 h).1
 obtain ⟨_,v0,F0,h10,h20,o0⟩:=E.slot i _ h;obtain ⟨l,vs,rfl,rfl,hp,hl,hr⟩:=o1.leaves;obtain ⟨l',vs',e0,e1,hp',hl',hr'⟩:=o0.leaves;rw [h1] at h10
 cases h10
 cases e0;rw [hp] at hp'
 cases hp'
 refine ⟨l,vs,h1,hp,hl,hr',fun ws ds' hw q=>?_⟩
 have hlF:l∈Fs.flatten:=sub l (LQ _ (List.mem_singleton.mpr rfl))
 have hHe:He l=none:=E.fresh l hlF
 have E4:=E1.mutO (o:=.lst ws) (LQ _ (List.mem_singleton.mpr rfl)) hp hHe
 have ownL:Own K ([l]++O++(Fs.set i []).flatten) (cy H l (.lst ws)) (.lst .leaf) [l] (.ref l) (.list ds'):=by
  refine Own.mkLeaves iV hw fun j u d a1 a2=>?_
  rw [GZ (LQ _ (LQ _ (List.mem_singleton.mpr rfl)))];refine (q j u d a1 a2).mono (xk (Same.refl _) fun a ha=>.inl ?_)
  rcases LR ha with z | z
  ·rcases LR z with z | z
   ·rw [List.mem_singleton.mp z];exact LP _ hlF
   ·exact LQ _ z
  ·exact LP _ (sub a (LP _ z))
 have fin:=EnvOk.put (i:=i) (p:=⟨.lst .leaf,.list ds'⟩) (v:=.ref l) E4 ownL rfl (fun a ha=>by rw [List.mem_singleton.mp ha];exact hHe) (by rw [length_set];exact hi)
 rw [set_set,set_set,AH h1] at fin;exact ⟨_,fin⟩
theorem iE {o:Option (Option PV)} (h:zk o=true):∃ds,o=some (some ⟨.lst .leaf,.list ds⟩):=by
 unfold zk at h;split at h
 ·exact ⟨_,rfl⟩
 ·cases h
theorem xG {i:Nat} (h:tS K W (fN i fa fb) D σ H):qU (tE K W fa) (L2.gSub (fA i) (tE K W fb) uZ) D σ H:=by
 obtain ⟨He,O,Fs,Γ,E,h⟩:=h;unfold fN at h
 cases ho:zk Γ[i]? with
 | false=>rw [ho] at h;exact h.elim
 | true=>
  rw [ho] at h;obtain ⟨ds,e0⟩:=iE ho;obtain ⟨l,vs,h1,h2,h3,_,_⟩:=E.chg e0;refine Iz (Bf (D:=D) (R:=fun v u H2=>uZ (.ref l) u v H2 fun H3=>D.nx σ H3) ⟨He,O,Fs,Γ,E,h⟩ fun He O Γ2 p q v u H1 H2 G1 G2 Fs2 nd s1 s2 E2 fr o1 o2 w=>?_) fun v H' q=>⟨.ref l,h1,q⟩
  unfold Bp at w;split at w
  ·rename_i ds1 e1
   split at w
   ·rename_i k ek
    split at w
    ·rename_i j ej
     cases hc:T.coer .leaf p with
     | false=>rw [hc] at w;exact w.elim
     | true=>
      rw [hc] at w;have E3:EnvOk K He O Fs2 H2 σ Γ2:=E2.drop (fun a ha=>LP _ (LP _ ha)) nd
      obtain ⟨l1,vs1,q1,q2,q3,q4,q5⟩:=E3.chg e1;rw [h1] at q1
      cases q1;have hu:=o2.rep
      rw [ek] at hu
      cases hu;have ov:Own K (O++Fs2.flatten) H2 .leaf [] v p.d:=by
       refine o1.coer (s:=.leaf) hc (fun a ha=>?_) fun a ha z=>?_
       ·rcases LR ha with z | z
        ·exact LQ _ (LP _ (LP _ z))
        ·exact LP _ z
       ·exfalso
        have ndE:=E2.nd
        rw [append_assoc] at ndE;have n2:=(LZ ndE).2.1
        rw [append_assoc] at n2;exact (LZ n2).2.2 a ha a z rfl
      cases ov with
      | leaf rv=>
       have ixl:eF vs1.length k=some j:=by rw [q3];exact ej
       obtain ⟨Fs',E4⟩:=q5 (vs1.set j v) (ds1.set j p.d) (by rw [length_set,length_set,q3]) fun m x d a1 a2=>by
        by_cases hm:m=j
        ·subst hm
         rw [List.getElem?_set] at a1 a2
         rw [if_pos rfl] at a1 a2
         split at a1
         ·split at a2
          ·cases a1;cases a2;exact rv
          ·cases a2
         ·cases a1
        ·rw [getElem?_set_ne (Ne.symm hm)] at a1 a2
         exact q4 m x d a1 a2
       exact ⟨l,vs1,k,j,rfl,rfl,q2,ixl,w σ _ Fs' E4⟩
    ·exact w.elim
   ·exact w.elim
  ·exact w.elim
theorem BI {i:Nat} {g:FS} (h:tS K W (qX i g) D σ H):tS K W g D σ H:=by
 obtain ⟨He,O,Fs,Γ,E,h⟩:=h;unfold qX at h;split at h
 ·rename_i p e0
  obtain ⟨hv,v,F,h1,E1,o1,sub⟩:=E.move e0;have hi:i<Γ.length:=(L0 e0).1
  have c:T.coer .leaf p=true:=by show (!p.s.isView||bz p.d)=true;rw [hv];rfl
  have o:=o1.coer (s:=.leaf) (O':=O++(Fs.set i []).flatten) c ig fun a ha z=>by
   exfalso
   have nd:=E1.nd
   rw [append_assoc] at nd;exact (LZ nd).2.2 a ha a z rfl
  have E2:EnvOk K He O ((Fs.set i []).set i []) H (σ.set i (some v)) ((Γ.set i none).set i (L9 p.d)):=
   EnvOk.put (G:=[]) (p:=⟨.leaf,p.d⟩) (v:=v) (by rw [nil_append];exact E1.dropL) (by rw [nil_append];exact o) rfl (fun a ha=>by simp at ha) (by rw [length_set];exact hi)
  rw [set_set,set_set,AH h1] at E2;exact ⟨He,O,_,_,E2,h⟩
 ·exact h.elim
end
section
variable {K:Fg} {W:XW} {σ:St} {H:Hp} {Q:VK} {D:dI} {fa fb:F1} {fl:FL}
theorem IX:∀{Gs:List (List Addr)} {i j:Nat} {A B:List Addr},Gs.flatten.Nodup->Gs[i]?=some A->Gs[j]?=some B->i≠j->∀a∈A,a∉B
 | G::Gs,0,j+1,A,B,nd,h1,h2,_,a,ha=>by
  rw [flatten_cons] at nd;simp at h1 h2
  subst h1;exact fun z=>(LZ nd).2.2 a ha a (iU h2 z) rfl
 | G::Gs,i+1,0,A,B,nd,h1,h2,_,a,ha=>by
  rw [flatten_cons] at nd;simp at h1 h2
  subst h2;exact fun z=>(LZ nd).2.2 a z a (iU h1 ha) rfl
 | G::Gs,i+1,j+1,A,B,nd,h1,h2,hij,a,ha=>by
  rw [flatten_cons] at nd;exact IX (Gs:=Gs) (i:=i) (j:=j) (LZ nd).2.1 (by simpa using h1) (by simpa using h2) (by omega) a ha
 | G::Gs,0,0,A,B,_,_,_,h,_,_=>absurd rfl h
 | [],i,j,A,B,_,h1,_,_,_,_=>by simp at h1
end
section
variable {X:Cx}
theorem A9:Lk X (unaryOp .USub) (fun x H Q=>∃i,x=.int i/\Q (.int (-i)) H):=by
 intro pins s σ H x v Q I rx h;obtain ⟨i,rfl,q⟩:=h;obtain ⟨t,rfl⟩:=rx;exact neg_int ⟨.int (-i),H,I.tok _,⟨_,rfl⟩,q⟩
end
section
variable {X:Cx}
variable {N gl:List Str} {vs cs ls lo gs:List Nat} {W:XW} {a b c e:Expr} {es:List Expr} {pos p:Pos} {fa fb fc:F1} {fl:FL} {g:FS}
theorem cs_setI (S:Cp X N gl vs cs ls lo gs) (i:Nat) {x:Str} {px pos':Pos} (hi:N[i]?=some x) (hv:vs.contains i=true) (ha:PE X a (tE X.K W fa)) (hb:PE X b (tE X.K W fb))
  (hs:swapsWithSole [.Subscript (.Name x px) b pos'] a pos.line X.env=pure false) (hw:swappedStores [.Subscript (.Name x px) b pos'] a X.env=pure none)
  (h1:(assignEach [.Subscript (.Name x px) b pos'] X.env).map (·.2)=[assign (.Subscript (.Name x px) b pos') X.env])
  (has:∀v,assign (.Subscript (.Name x px) b pos') X.env v=(do
   let ov <-holding [v] (eval (.Name x px) X.env)
   let iv <-holding [v,ov] (eval b X.env)
   standAt pos'
   holding [v,ov,iv] (setItem ov iv v)
   release [v,ov,iv] [])):PS X (.Assign [.Subscript (.Name x px) b pos'] a pos) (tS X.K W (fN i fa fb)):=by
 have m:=S.nm x (mem_of_getElem? hi)
 exact cB (Ca ha (Cc (qH (by rw [S.hN];exact hi) (S.vis i x hi hv) m.1 m.2) hb uH has) hs hw h1) fun _ _ _=>xG
end
def wN:Expr->Bool
 | .Starred ..=>true
 | _=>false
theorem dC {e:Expr} {es:List Expr} {env:Env} (h:wN e=false):starEach (e::es) env=(false,eval e env)::starEach es env:=by
 cases e<;>first | rfl | cases h
theorem d8 {a:Expr} {env:Env} (h:wN a=false):starEach [a] env=[(false,eval a env)]:=dC h
theorem uF {a b:Expr} {env:Env} (h:wN a=false) (h2:wN b=false):starEach [a,b] env=[(false,eval a env),(false,eval b env)]:=by rw [dC h,d8 h2]
def DefOk (P:Program) (w:World) (K:Fg) (mg:Str->Option Value) (base:Heap) (j:Nat) (x:Str) (n:Nat) (den:List L8->Res):Prop:=
 ∃(f:Addr) (fd:FuncData) (ps:List Str),dH P w K mg base ka j f fd ps (pG K n den)/\mg x=some (.ref f)/\PySem.W.keepIn K (.ref f)=true/\Binds K fd ps []
def fZ (K:Fg) (mg:Str->Option Value) (x:Str) (d:L8):Prop:=∃u v,mg x=some u/\RelV v u/\∀H,Rep K H v d
theorem DefOk.cal {X:Cx} {j k n:Nat} {x:Str} {den:List L8->Res} (h:DefOk X.prog X.w X.K X.mg X.base j x n den) (hr:Room k X.A) (hj:decide (j<=k)=true):D9 X x n den:=by
 obtain ⟨f,fd,ps,F,a,b,c⟩:=h;exact ⟨j,f,fd,ps,F,hr.mono (of_decide_eq_true hj),a,b,c⟩
def JA:L8->V
 | .none=>.non
 | .bool b=>.bl b
 | .int i=>.int i
 | .str x=>.str x
 | _=>.non
def sN:List Value->List L8->Bool
 | .int i _::r,.int j::ds=>decide (i=j)&&sN r ds
 | .str x _::r,.str y::ds=>decide (x=y)&&sN r ds
 | [],[]=>true
 | _,_=>false
theorem Il:∀{us:List Value} {ds:List L8},sN us ds=true->Vals (ds.map JA) us/\∀d∈ds,Sc (JA d) d
 | [],[],_=>⟨.nil,fun d hd=>(nomatch hd)⟩
 | .int i t::r,.int j::ds,h=>by
  simp only [sN,Bool.and_eq_true,decide_eq_true_eq] at h
  obtain ⟨rfl,h⟩:=h;obtain ⟨a,b⟩:=Il h;refine ⟨.cons ⟨t,rfl⟩ a,fun d hd=>?_⟩
  rcases LU hd with z | z
  ·rw [z];exact .int i
  ·exact b d z
 | .str i t::r,.str j::ds,h=>by
  simp only [sN,Bool.and_eq_true,decide_eq_true_eq] at h
  obtain ⟨rfl,h⟩:=h;obtain ⟨a,b⟩:=Il h;refine ⟨.cons ⟨t,rfl⟩ a,fun d hd=>?_⟩
  rcases LU hd with z | z
  ·rw [z];exact .str i
  ·exact b d z
def Dw (its:Array Value) (ds:List L8):Bool:=decide (its.size<=sizeLine)&&sN its.toList ds
theorem yQ {K:Fg} {mg:Str->Option Value} {x:Str} {a:Addr} {dd:Option Addr} {its:Array Value} {n:Nat} {sl:Array (Option Value)} {ds:List L8} (hm:mg x=some (.ref a)) (l:K.lookup a=some ⟨.type "tuple",dd,.seq its n,sl⟩) (h:Dw its ds=true):fZ K mg x (.tuple ds):=by
 unfold Dw at h;simp only [Bool.and_eq_true,decide_eq_true_eq] at h
 obtain ⟨v,s⟩:=Il h.2;refine ⟨.ref a,.ref a,hm,rfl,fun H=>.tup (vs:=ds.map JA) (.inr ⟨_,its,n,l,rfl,rfl,h.1,v⟩) (by simp) fun i v d h1 h2=>?_⟩
 rw [getElem?_map,h2] at h1
 cases h1;exact (s d (mem_of_getElem? h2)).rep
theorem yS {K:Fg} {mg:Str->Option Value} {x:Str} {i:Int} {t:Tok} (hm:mg x=some (.int i t)):fZ K mg x (.int i):=⟨.int i t,.int i,hm,⟨t,rfl⟩,fun H=>.int i⟩
theorem CL {K:Fg} {m:List L8->Res} {H:Hp} {a:Addr} {ns:List Int} {E:XK} (h:m [.list (ns.map .int)]=.ok ⟨.leaf,.bool true⟩) (hS:SqL K H a (ns.map V.int)):pG K 1 m [.ref a] H (fun v _=>v=.bl true) E:=by
 refine ⟨rfl,[],[.list (ns.map .int)],nodup_nil,(fun _ z=>nomatch z),⟨rfl,fun i v d h1 h2=>?_⟩,?_⟩
 ·rw [Eo]
  match i,h1,h2 with
  | 0,h1,h2=>
   cases h1
   cases h2;refine .lst hS (by simp) fun i v d h1 h2=>?_
   rw [getElem?_map] at h1 h2
   cases e:ns[i]? with
   | none=>rw [e] at h1;cases h1
   | some z=>
    rw [e] at h1 h2
    cases h1
    cases h2;exact .int z
  | i+1,h1,h2=>simp at h1
 ·rw [h]
  intro v H' G r
  have o:=r.own.rep
  cases o;rfl
end T
namespace TQ
open PySem PySem.Spec L2 T
open PyProof.Rows hiding St
structure Q (p:Prop):Prop where
 p:p
section
variable {X:Cx} {N gl:List Str} {vs cs ls lo gs:List Nat} {W:XW} {a b c e:Expr} {es:List Expr} {pos p:Pos} {fa fb fc:F1} {fl:FL} {ga gb:FB} {g1 g2 g:FS}
theorem Jt (S:Cp X N gl vs cs ls lo gs) (i:Nat) {x:Str} (hN:N[i]?=some x) (hv:vs.contains i=true):Q (PE X (.Name x pos) (tE X.K W (af i))):=⟨T.cv S i hN hv⟩
theorem iY (S:Cp X N gl vs cs ls lo gs) (i:Nat) {x:Str} (hN:N[i]?=some x) (hv:vs.contains i=true):Q (PE X (.Name x pos) (tE X.K W (bR i))):=⟨T.cm S i hN hv⟩
theorem eI (S:Cp X N gl vs cs ls lo gs) (j:Nat) {x:Str} {d:L8} (hj:gl[j]?=some x) (hg:gs.contains j=true) (h:Con X x d):Q (PE X (.Name x pos) (tE X.K W (eK d))):=⟨by
 obtain ⟨u,v,h1,h2,h3⟩:=h;have q:=S.g hj hg
 exact yM q.1 h1 h2 h3 q.2.1⟩
theorem aT {j:Int} {k pos}:Q (PE X (.Constant (.int j) k pos) (tE X.K W (eK (.int j)))):=⟨T.de_int ⟩
theorem qM {j:Bool} {k pos}:Q (PE X (.Constant (.bool j) k pos) (tE X.K W (eK (.bool j)))):=⟨aY vi fun _ _ _=>uR fun _=>.bl j⟩
theorem nI {k pos}:Q (PE X (.Constant .none k pos) (tE X.K W (eK .none))):=⟨aY Ci fun _ _ _=>uR fun _=>.non⟩
theorem cf {j:Str} {k pos}:Q (PE X (.Constant (.str j) k pos) (tE X.K W (eK (.str j)))):=⟨T.de_str ⟩
theorem qL (ha:Q (PE X a (tE X.K W fa))) (hb:Q (PE X b (tE X.K W fb))):Q (PE X (.BinOp a .Add b pos) (tE X.K W (ay aW fa fb))):=⟨have ha:=ha.p;have hb:=hb.p;aY (fP CA ha hb) fun _ _ _=>fO (DM fun _ _=>.int _)⟩
theorem IU (ha:Q (PE X a (tE X.K W fa))) (hb:Q (PE X b (tE X.K W fb))):Q (PE X (.BinOp a .Sub b pos) (tE X.K W (ay gSub fa fb))):=⟨have ha:=ha.p;have hb:=hb.p;aY (fP Cq ha hb) fun _ _ _=>fO (DM fun _ _=>.int _)⟩
theorem DY (ha:Q (PE X a (tE X.K W fa))) (hb:Q (PE X b (tE X.K W fb))):Q (PE X (.BinOp a .Mult b pos) (tE X.K W (ay gr fa fb))):=⟨have ha:=ha.p;have hb:=hb.p;aY (fP Cu ha hb) fun _ _ _=>fO (qi (fun i j h=>by
 simp only [sT,Bool.or_eq_true,Bool.and_eq_true,decide_eq_true_eq] at h
 exact h) fun _ _=>.int _)⟩
theorem lE (ha:Q (PE X a (tE X.K W fa))) (hb:Q (PE X b (tE X.K W fb))):Q (PE X (.BinOp a .FloorDiv b pos) (tE X.K W (ay sf fa fb))):=⟨have ha:=ha.p;have hb:=hb.p;aY (fP yd ha hb) fun _ _ _=>fO (qi (fun i j h=>by
 simp only [yY,Bool.and_eq_true,decide_eq_true_eq] at h
 exact h) fun _ _=>.int _)⟩
theorem xm (ha:Q (PE X a (tE X.K W fa))) (hb:Q (PE X b (tE X.K W fb))):Q (PE X (.BinOp a .Mod b pos) (tE X.K W (ay dh fa fb))):=⟨have ha:=ha.p;have hb:=hb.p;aY (fP Cv ha hb) fun _ _ _=>fO (qi (fun i j h=>by
 simp only [yX,decide_eq_true_eq] at h
 exact h) fun _ _=>.int _)⟩
theorem t9 (ha:Q (PE X a (tE X.K W fa))) (hb:Q (PE X b (tE X.K W fb))):Q (PE X (.BinOp a .Pow b pos) (tE X.K W (ay yD fa fb))):=⟨have ha:=ha.p;have hb:=hb.p;aY (fP Cs ha hb) fun _ _ _=>fO (qi (fun i j h=>by
 simp only [yW,Bool.and_eq_true,decide_eq_true_eq] at h
 exact ⟨h.1.1,h.1.2,h.2⟩) fun _ _=>.int _)⟩
theorem IT (ha:Q (PE X a (tE X.K W fa))) (hb:Q (PE X b (tE X.K W fb))):Q (PE X (.BinOp a .Mult b pos) (tE X.K W (fW fa fb))):=⟨have ha:=ha.p;have hb:=hb.p;aY (fP Cr ha hb) fun _ _ _=>Bx⟩
theorem ud (ha:Q (PE X a (tE X.K W fa))):Q (PE X (.UnaryOp .USub a pos) (tE X.K W (eU dZ fa))):=⟨have ha:=ha.p;aY (FC A9 ha) fun _ _ _=>Fe fun x H Q a d r e k=>by
 cases r<;>simp only [dZ] at e<;>cases e
 exact ⟨_,rfl,k _ (.int _)⟩⟩
theorem lD (ha:Q (PE X a (tE X.K W fa))):Q (PE X (.UnaryOp .Not a pos) (tE X.K W (oK fa))):=⟨have ha:=ha.p;aY (Cg ha) fun _ _ _=>By⟩
theorem Jw {op:CmpOp} {r:R2} {g:L8->L8->Option L8} (k:Ck X op r g) (ha:Q (PE X a (tE X.K W fa))) (hb:Q (PE X b (tE X.K W fb))) (hm:behindInMarks op b=false):Q (PE X (.Compare a [op] [b] pos) (tE X.K W (ay g fa fb))):=⟨have ha:=ha.p;have hb:=hb.p;Du k.o k.g ha hb hm⟩
theorem zu {op op':CmpOp} {r r':R2} {g g':L8->L8->Option L8} (k:Ck X op r g) (k':Ck X op' r' g') (ha:Q (PE X a (tE X.K W fa))) (hb:Q (PE X b (tE X.K W fb))) (hc:Q (PE X c (tE X.K W fc))) (hm:lastMarks [op,op'] [b,c]=false):Q (PE X (.Compare a [op,op'] [b,c] pos) (tE X.K W (qG g g' fa fb fc))):=⟨have ha:=ha.p;have hb:=hb.p;have hc:=hc.p;wq k.o k.g k'.o k'.g ha hb hc hm⟩
theorem wW {op} (h:Q (PE X a (tE X.K W fa))):Q (PE X (.BoolOp op [a] pos) (tE X.K W fa)):=⟨L2.pe_one h.p⟩
theorem tR (ha:Q (PE X a (tE X.K W fa))) (hb:Q (PE X (.BoolOp .And (b::es) pos) (tE X.K W fb))):Q (PE X (.BoolOp .And (a::b::es) pos) (tE X.K W (cV fa fb))):=⟨have ha:=ha.p;have hb:=hb.p;aY (Cn ha hb) fun _ _ _=>BN⟩
theorem Ew (hc:Q (PT X c (tT X.K W ga))) (ha:Q (PE X a (tE X.K W fa))) (hb:Q (PE X b (tE X.K W fb))):Q (PE X (.IfExp c a b pos) (tE X.K W (oN ga fa fb))):=⟨have hc:=hc.p;have ha:=ha.p;have hb:=hb.p;aY (vf hc ha hb) fun _ _ _=>Ff⟩
theorem ua (ha:Q (PE X a (tE X.K W fa))) (hb:Q (PE X b (tE X.K W fb))) (hs:DS b):Q (PE X (.Subscript a b pos) (tE X.K W (ai fa fb))):=⟨have ha:=ha.p;have hb:=hb.p;aY (zP vv ha hb hs) fun _ _ _=>BF⟩
theorem hU (s:Sh) (h:Q (PA X es (tA X.K W fl))):Q (PE X (.List es pos) (tE X.K W (aM s fl))):=⟨have h:=h.p;aY (vd h) fun _ _ _=>pN⟩
theorem iW {x1} (h:Q (PA X es (tA X.K W fl))):Q (PE X (.Tuple es x1 pos) (tE X.K W (bB fl))):=⟨have h:=h.p;aY (Cf h) fun _ _ _=>Bv⟩
theorem tQ :Q (PA X [] (tA X.K W ag)):=⟨T.da_nil ⟩
theorem jz (ha:Q (PE X e (tE X.K W fa))) (hr:Q (PA X es (tA X.K W fl))) (hs:starEach (e::es) X.env=(false,eval e X.env)::starEach es X.env):Q (PA X (e::es) (tA X.K W (ae fa fl))):=⟨T.da_cons ha.p hr.p hs⟩
theorem Jv {scope:Scope} {x:Str} {px:Pos} {iter elt:Expr} {ifs:List Expr} {fi:FI} {fe:F1} {fc:FB} {vs' cs' lo' gs':List Nat} (S:Cp X N gl vs cs ls lo gs) (s:Sh) (i:Nat) (hx:N[i]?=some x) (h1:j0 N i cs scope=true) (h2:wu N gl vs' cs' [i] lo' gs' scope=true) (hi':Q (PI X (.Name x px) iter (tI X.K W fi))) (hc:Aj X N gl vs' cs' [i] lo' gs' fun Y=>Q (PF Y ifs (tT Y.K W0 fc))) (he:Aj X N gl vs' cs' [i] lo' gs' fun Y=>Q (PE Y elt (tE Y.K W0 fe))) (hs:∀x,foldedSetIterable iter X.env x=pure x):Q (PE X (.ListComp elt [⟨.Name x px,iter,ifs,0⟩] scope pos) (tE X.K W (aA s i fi fc fe))):=⟨T.co S s i hx h1 h2 hi'.p (fun Y S F=>(hc Y S F).p) (fun Y S F=>(he Y S F).p) hs⟩
theorem AO {scope:Scope} {x y:Str} {px pos' spos:Pos} {iter elt:Expr} {ifs:List Expr} {fi:FI} {fe:F1} {fc:FB} {vs' cs' lo' gs':List Nat} (S:Cp X N gl vs cs ls lo gs) (own:Bool) (j:Nat) (s:Sh) (i:Nat) (hy:N[j]?=some y) (hyl:lo.contains j=true) (hx:N[i]?=some x) (hsl:(pos'.line==pos.line)=true) (hsn:(scope.names.any fun (n,k)=>n==y&&(k==NameKind.local||k==NameKind.cell))=false) (h1:j0 N i cs scope=true) (h2:wu N gl vs' cs' [i] lo' gs' scope=true) (hi':Q (PI X (.Name x px) iter (tI X.K W fi))) (hc:Aj X N gl vs' cs' [i] lo' gs' fun Y=>Q (PF Y ifs (tT Y.K W0 fc))) (he:Aj X N gl vs' cs' [i] lo' gs' fun Y=>Q (PE Y elt (tE Y.K W0 fe))) (hs:∀x,foldedSetIterable iter X.env x=pure x):Q (PS X (.Assign [.Name y pos'] (.ListComp elt [⟨.Name x px,iter,ifs,0⟩] scope pos) spos) (tS X.K W (ax own j (aA s i fi fc fe)))):=⟨by
 have hi':=hi'.p
 have hc:=fun Y S F=>(hc Y S F).p
 have he:=fun Y S F=>(he Y S F).p
 have B:=fun cells C s₀ H₀ ex=>S.blk h2 cells C s₀ H₀ ex
 have L:=fun cells C s₀ H₀ ex=>(B cells C s₀ H₀ ex).loc i x hx (by simp)
 exact oP (X:=X) own j s i (nu S h1) (by rw [S.hN];exact S.nd) hi' (fun cells C s₀ H₀ ex=>hc _ (B cells C s₀ H₀ ex) ⟨rfl,rfl,rfl,rfl,rfl,rfl⟩) (fun cells C s₀ H₀ ex=>he _ (B cells C s₀ H₀ ex) ⟨rfl,rfl,rfl,rfl,rfl,rfl⟩)
  (nS S.kind (S.loo j y hy hyl) hsl hsn) (by rw [S.hN];exact hy) (S.loo j y hy hyl) S.calm (by rw [S.hN];exact hx) (fun cells C s₀ H₀ ex=>(L cells C s₀ H₀ ex).1) (fun cells C s₀ H₀ ex=>(L cells C s₀ H₀ ex).2) hs⟩
theorem ug (S:Cp X N gl vs cs ls lo gs) (j:Nat) (hj:gl[j]?=some ("len":Str)) (hg:gs.contains j=true) (hm:X.mg "len"=none) (ha:Q (PA X (e::es) (tA X.K W fl))) (he:starEach (e::es) X.env=(false,eval e X.env)::starEach es X.env) (hpl:(backTo pos (starEach es X.env)).any (·.1)=false):Q (PE X (.Call (.Name "len" p) (e::es) [] pos) (tE X.K W (aS aG fl))):=⟨have ha:=ha.p;qr (call_len_seq.or kY) C9 Gp hm ha (S.g hj hg).1 (S.g hj hg).2.2 (S.g hj hg).2.1 he hpl⟩
theorem ph (S:Cp X N gl vs cs ls lo gs) (j:Nat) (hj:gl[j]?=some ("all":Str)) (hg:gs.contains j=true) (hm:X.mg "all"=none) (ha:Q (PA X (e::es) (tA X.K W fl))) (he:starEach (e::es) X.env=(false,eval e X.env)::starEach es X.env) (hpl:(backTo pos (starEach es X.env)).any (·.1)=false):Q (PE X (.Call (.Name "all" p) (e::es) [] pos) (tE X.K W (aS (bL false) fl))):=⟨have ha:=ha.p;qr (sS S.calm) vU Gr hm ha (S.g hj hg).1 (S.g hj hg).2.2 (S.g hj hg).2.1 he hpl⟩
theorem lJ (S:Cp X N gl vs cs ls lo gs) (j:Nat) (hj:gl[j]?=some ("any":Str)) (hg:gs.contains j=true) (hm:X.mg "any"=none) (ha:Q (PA X (e::es) (tA X.K W fl))) (he:starEach (e::es) X.env=(false,eval e X.env)::starEach es X.env) (hpl:(backTo pos (starEach es X.env)).any (·.1)=false):Q (PE X (.Call (.Name "any" p) (e::es) [] pos) (tE X.K W (aS (bL true) fl))):=⟨have ha:=ha.p;qr (sR S.calm) vU Gq hm ha (S.g hj hg).1 (S.g hj hg).2.2 (S.g hj hg).2.1 he hpl⟩
theorem uf (S:Cp X N gl vs cs ls lo gs) (j:Nat) (hj:gl[j]?=some ("max":Str)) (hg:gs.contains j=true) (hm:X.mg "max"=none) (ha:Q (PA X (e::es) (tA X.K W fl))) (he:starEach (e::es) X.env=(false,eval e X.env)::starEach es X.env) (hpl:(backTo pos (starEach es X.env)).any (·.1)=false):Q (PE X (.Call (.Name "max" p) (e::es) [] pos) (tE X.K W (aS se fl))):=⟨have ha:=ha.p;qr (sP S.calm) C8 Gn hm ha (S.g hj hg).1 (S.g hj hg).2.2 (S.g hj hg).2.1 he hpl⟩
theorem uh (S:Cp X N gl vs cs ls lo gs) (j:Nat) (hj:gl[j]?=some ("int":Str)) (hg:gs.contains j=true) (hm:X.mg "int"=none) (ha:Q (PA X (e::es) (tA X.K W fl))) (he:starEach (e::es) X.env=(false,eval e X.env)::starEach es X.env) (hpl:(backTo pos (starEach es X.env)).any (·.1)=false):Q (PE X (.Call (.Name "int" p) (e::es) [] pos) (tE X.K W (aS oF fl))):=⟨have ha:=ha.p;Gf sQ Da Ag hm ha (S.g hj hg).1 (S.g hj hg).2.2 (S.g hj hg).2.1 he hpl⟩
theorem Ez (S:Cp X N gl vs cs ls lo gs) (j:Nat) (hj:gl[j]?=some ("list":Str)) (hg:gs.contains j=true) (hm:X.mg "list"=none) (ha:Q (PE X e (tE X.K W fa))) (hs:starEach [e] X.env=[(false,eval e X.env)]):Q (PE X (.Call (.Name "list" p) [e] [] pos) (tE X.K W (hV fa))):=⟨have ha:=ha.p;sH hm ha (S.g hj hg).1 hs⟩
theorem Jx {x:Str} {n:Nat} {den:List L8->Res} (S:Cp X N gl vs cs ls lo gs) (j:Nat) (hj:gl[j]?=some x) (hg:gs.contains j=true) (C:D9 X x n den) (ha:Q (PA X (e::es) (tA X.K W fl))) (he:starEach (e::es) X.env=(false,eval e X.env)::starEach es X.env) (hpl:(backTo pos (starEach es X.env)).any (·.1)=false):Q (PE X (.Call (.Name x p) (e::es) [] pos) (tE X.K W (aj n den fl))):=⟨T.cc S j hj hg C ha.p he hpl⟩
theorem d9 {tg:Expr} (S:Cp X N gl vs cs ls lo gs) (j:Nat) (hj:gl[j]?=some ("range":Str)) (hg:gs.contains j=true) (hm:X.mg "range"=none) (ha:Q (PA X [a] (tA X.K W fl))) (hs:starEach [a] X.env=[(false,eval a X.env)]):Q (PI X tg (.Call (.Name "range" p) [a] [] pos) (tI X.K W (dq fl))):=⟨have ha:=ha.p;Ge hm ha (S.g hj hg).1 hs⟩
theorem EL {tg:Expr} (S:Cp X N gl vs cs ls lo gs) (j:Nat) (hj:gl[j]?=some ("range":Str)) (hg:gs.contains j=true) (hm:X.mg "range"=none) (ha:Q (PA X [a,b] (tA X.K W fl))) (hs:starEach [a,b] X.env=[(false,eval a X.env),(false,eval b X.env)]) (hs2:starEach [b] X.env=[(false,eval b X.env)]):Q (PI X tg (.Call (.Name "range" p) [a,b] [] pos) (tI X.K W (vN fl))):=⟨have ha:=ha.p;Gd hm ha (S.g hj hg).1 hs hs2⟩
theorem fz {tg:Expr} (ha:Q (PE X a (tE X.K W fa))):Q (PI X tg a (tI X.K W (aU fa))):=⟨have ha:=ha.p;nF (xY ha) fun _ _ _=>xN⟩
theorem Ju {op:CmpOp} {r:R2} {g:L8->L8->Option L8} (k:Ck X op r g) (ha:Q (PE X a (tE X.K W fa))) (hb:Q (PE X b (tE X.K W fb))) (hm:behindInMarks op b=false):Q (PT X (.Compare a [op] [b] pos) (tT X.K W (aL ao (ay g fa fb)))):=⟨T.ct k ha.p hb.p hm⟩
theorem EK {op op':CmpOp} {r r':R2} {g g':L8->L8->Option L8} (k:Ck X op r g) (k':Ck X op' r' g') (ha:Q (PE X a (tE X.K W fa))) (hb:Q (PE X b (tE X.K W fb))) (hc:Q (PE X c (tE X.K W fc))) (hm:lastMarks [op,op'] [b,c]=false):Q (PT X (.Compare a [op,op'] [b,c] pos) (tT X.K W (aL ao (qG g g' fa fb fc)))):=⟨have ha:=ha.p;have hb:=hb.p;have hc:=hc.p;wb k.o k.g k'.o k'.g ha hb hc hm⟩
theorem sZ (ha:Q (PT X a (tT X.K W ga))):Q (PT X (.UnaryOp .Not a pos) (tT X.K W (bY ga))):=⟨have ha:=ha.p;j8 (u5 ha) fun _ _ _=>pR⟩
theorem AN (ha:Q (PT X a (tT X.K W ga))):Q (PW X (.BoolOp .And [a] pos) (tT X.K W ga)):=⟨have ha:=ha.p;xU ha⟩
theorem wV (ha:Q (PT X a (tT X.K W ga))):Q (PW X (.BoolOp .Or [a] pos) (tT X.K W ga)):=⟨have ha:=ha.p;u4 ha⟩
theorem zj (ha:Q (PT X a (tT X.K W ga))) (hb:Q (PW X (.BoolOp .And (b::es) pos) (tT X.K W gb))):Q (PW X (.BoolOp .And (a::b::es) pos) (tT X.K W (cx ga gb))):=⟨have ha:=ha.p;have hb:=hb.p;wJ (B6 ha hb) fun _ _ _=>xR⟩
theorem nM (ha:Q (PT X a (tT X.K W ga))) (hb:Q (PW X (.BoolOp .Or (b::es) pos) (tT X.K W gb))):Q (PW X (.BoolOp .Or (a::b::es) pos) (tT X.K W (d5 ga gb))):=⟨have ha:=ha.p;have hb:=hb.p;wJ (zN ha hb) fun _ _ _=>uX⟩
theorem lq (h:Q (PW X a (tT X.K W ga))):Q (PT X a (tT X.K W ga)):=⟨L2.PW.pt h.p⟩
theorem iX (ha:Q (PE X a (tE X.K W fa))) (he:∀whole,isTrue a X.env whole=(do let v <-whole;standAt a.pos;holding [v] (truthy v))):Q (PT X a (tT X.K W (aL bh fa))):=⟨have ha:=ha.p;j8 (mv ha he) fun _ _ _=>uM⟩
theorem dB :Q (PSs X [] (tS X.K W aH)):=⟨Ef Ir fun _ _ _=>pM⟩
theorem eH {st:Stmt} (h1:Q (PS X st (tS X.K W g1))):Q (PSs X [st] (tS X.K W g1)):=⟨have h1:=h1.p;Iu h1⟩
theorem bg {st:Stmt} {rest:List Stmt} (h1:Q (PS X st (tS X.K W g1))) (h2:Q (PSs X rest (tS X.K W g2))):Q (PSs X (st::rest) (tS X.K W (ak g1 g2))):=⟨have h1:=h1.p;have h2:=h2.p;Ef (mw h1 h2) fun _ _ _=>uO⟩
theorem ub (i:Nat) {sts:List Stmt} (h:Q (PSs X sts (tS X.K W g))):Q (PSs X sts (tS X.K W (qX i g))):=⟨have h:=h.p;Ef h fun _ _ _=>BI⟩
theorem tY (ha:Q (PE X a (tE X.K W fa))):Q (PS X (.Return (some a) pos) (tS X.K W (aF fa))):=⟨have ha:=ha.p;cB (u9 ha) fun _ _ _=>uP⟩
theorem cW {A B:List Stmt} (hc:Q (PT X c (tT X.K W ga))) (ha:Q (PSs X A (tS X.K W g1))) (hb:Q (PSs X B (tS X.K W g2))):Q (PS X (.If c A B pos) (tS X.K W (bD ga g1 g2))):=⟨have hc:=hc.p;have ha:=ha.p;have hb:=hb.p;cB (zO hc ha hb) fun _ _ _=>uS⟩
theorem zi (S:Cp X N gl vs cs ls lo gs) (i:Nat) {x:Str} {px:Pos} {iter:Expr} {body:List Stmt} {fi:FI} {g:FS} (hx:N[i]?=some x) (hl:ls.contains i=true) (hp:PassesOwn (model X.prog X.w) X.A X.env X.xe) (hi':Q (PI X (.Name x px) iter (tI X.K W fi))) (hb:Q (PSs X body (tS X.K W g))) (hs:∀x,foldedSetIterable iter X.env x=pure x):Q (PS X (.For (.Name x px) iter body [] pos) (tS X.K W (cZ i fi g))):=⟨have hi':=hi'.p;have hb:=hb.p;Dp i hp (by rw [S.hN];exact S.nd) hi' hb S.calm (by rw [S.hN];exact hx) (S.loc i x hx hl).1 (S.loc i x hx hl).2 hs⟩
theorem lG (S:Cp X N gl vs cs ls lo gs) (own:Bool) (i:Nat) {x:Str} {pos':Pos} (hi:N[i]?=some x) (hl:ls.contains i=true) (hs:swapsWith a (some (.Name x pos')) pos.line X.env=pure false) (ha:Q (PE X a (tE X.K W fa))):Q (PS X (.Assign [.Name x pos'] a pos) (tS X.K W (ax own i fa))):=⟨have ha:=ha.p;Do own i (by rw [S.hN];exact S.nd) ha (by rw [S.hN];exact hi) (S.loc i x hi hl).1 hs (S.loc i x hi hl).2⟩
theorem qO (S:Cp X N gl vs cs ls lo gs) (i:Nat) {x:Str} {px pos':Pos} (hi:N[i]?=some x) (hv:vs.contains i=true) (ha:Q (PE X a (tE X.K W fa))) (hb:Q (PE X b (tE X.K W fb))) (hs:swapsWithSole [.Subscript (.Name x px) b pos'] a pos.line X.env=pure false) (hw:swappedStores [.Subscript (.Name x px) b pos'] a X.env=pure none) (h1:(assignEach [.Subscript (.Name x px) b pos'] X.env).map (·.2)=[assign (.Subscript (.Name x px) b pos') X.env]) (has:∀v,assign (.Subscript (.Name x px) b pos') X.env v=(do
   let ov <-holding [v] (eval (.Name x px) X.env)
   let iv <-holding [v,ov] (eval b X.env)
   standAt pos'
   holding [v,ov,iv] (setItem ov iv v)
   release [v,ov,iv] [])):Q (PS X (.Assign [.Subscript (.Name x px) b pos'] a pos) (tS X.K W (fN i fa fb))):=⟨T.cs_setI S i hi hv ha.p hb.p hs hw h1 has⟩
theorem zm (S:Cp X N gl vs cs ls lo gs) (i:Nat) {x:Str} {apos cpos:Pos} (hi:N[i]?=some x) (hv:vs.contains i=true) (ha:Q (PE X a (tE X.K W fa))) (hs:starEach [a] X.env=[(false,eval a X.env)]) (hbase:attributeBase (.Name x p) "append" X.env (eval (.Name x p) X.env)=eval (.Name x p) X.env) (hline:(apos.endLine==cpos.line)=true) (hfew:((backTo cpos (starEach [a] X.env)).all (fun x=>!x.1)&&(backToKw cpos (keywordEach [] X.env)).all (fun x=>x.1.isSome)
   && decide ([a].length+([]:List Keyword).length+(if ([]:List Keyword).isEmpty then 0 else 1)<30))=true) (hsw:swapsWith (.Call (.Attribute (.Name x p) "append" apos) [a] [] cpos) none pos.line X.env=pure false):Q (PS X (.Expr (.Call (.Attribute (.Name x p) "append" apos) [a] [] cpos) pos) (tS X.K W (dS i fa))):=⟨T.cs_append S i hi hv ha.p hs hbase hline hfew hsw⟩
theorem ia :Q (PF X [] (tT X.K W0 aN)):=⟨GB Ce fun σ H Q h=>by
 obtain ⟨He,O,Fs,Γ,E,h⟩:=h;exact h H Fs (Same.refl _) E fun _ z=>.inl z⟩
theorem nJ (h:Q (PT X c (tT X.K W0 ga))):Q (PF X [c] (tT X.K W0 ga)):=⟨have h:=h.p;Cd h⟩
end
end TQ
namespace T
open PySem PySem.Spec L2
open PyProof.Rows hiding St
def zI:FS:=fun _=>.no
def uq:L8->String
 | .none => "NoneType"
 | .bool _ => "bool"
 | .int _ => "int"
 | .str _ => "str"
 | .list _ => "list"
 | .tuple _ => "tuple"
 | .dict _ => "dict"
def kI (t c:String):Bool:=t==c||(t == "bool"&&c == "int")
def kinds:List String:=["bool", "int", "str", "list", "tuple"]
theorem yn {K:Fg} {c:String} (hc:c∈kinds):∀t∈["NoneType", "bool", "int", "str", "list", "tuple"],PySem.W.kitOne K (.type t) (.type c)=some (kI t c):=by
 intro t ht;unfold kinds at hc;simp only [mem_cons,not_mem_nil,or_false] at hc ht
 rcases hc with rfl | rfl | rfl | rfl | rfl<;>rcases ht with rfl | rfl | rfl | rfl | rfl | rfl<;>kernel_rfl
section
variable {X:Cx} {pins:List (Addr×Obj)} {σ:St} {H:Hp} {s:Shared} {A:Around} {E:Value->Shared->Prop} {Q:Value->Shared->Prop} {c:Value} {b:Bool}
theorem oB {x:V} {u:Value} {d:L8} (I:Inv X pins σ H s) (rx:RelV x u) (r:Rep X.K H x d) (e:PySem.W.kitOne X.K (.type (uq d)) c=some b) (h:∀tk,Q (.bool b) { s with toks:=tk }) :
  wpAny (model X.prog X.w) A (call (.builtin "isinstance") [u,c]) Q E s:=by
 cases r with
 | non=>exact AM I rx .non e h
 | bl y=>exact AM I rx (.bl y) e h
 | int i=>exact AM I rx (.int i) e h
 | str y=>exact AM I rx (.str y) e h
 | @lst p vs ds hs hl q=>
  rcases hs with (z | ⟨o,z⟩) | ⟨o,its,n,hk,hc,hd,hz,_⟩
  ·exact AM I rx (.lst z) e h
  ·exact AM I rx (.frz z) e h
  ·cases (show u=Value.ref p from rx)
   exact PySem.W.kia_one PySem.W.kitx_list I.kIn ⟨o,I.kIn _ o hk,hc⟩ e nofun h
 | @tup p vs ds hs hl q=>
  rcases hs with (z | ⟨o,z⟩) | ⟨o,its,n,hk,hc,hd,hz,_⟩
  ·exact AM I rx (.tup z) e h
  ·cases (show u=Value.ref p from rx)
   obtain ⟨_,_,_,n,p1,h1,h2,_⟩:=(show ObjOk X.prog X.w H s.heap p (.frz o (.tup vs)) from I.hok p _ z);exact PySem.W.kia_one PySem.W.kitx_tuple I.kIn ⟨p1,h1,h2⟩ e nofun h
  ·cases (show u=Value.ref p from rx)
   exact PySem.W.kia_one PySem.W.kitx_tuple I.kIn ⟨o,I.kIn _ o hk,hc⟩ e nofun h
end
def BY (K:Fg) (c:String):List V->Hp->VK->Prop:=fun xs H Q=>∃x d,xs=[x,.ty c]/\Rep K H x d/\Q (.bl (kI (uq d) c)) H
theorem wx {X:Cx} {c:String} (hc:c∈kinds):CallR X (.builtin "isinstance") (BY X.K c):=by
 intro pins s σ H xs us Q I rv h;obtain ⟨x,d,rfl,r,q⟩:=h;match us,rv with
 | [u,t],.cons r1 (.cons r2 .nil)=>
  cases (show t=Value.type c from r2)
  have ht:uq d∈["NoneType", "bool", "int", "str", "list", "tuple"]:=by cases r<;>simp [uq]
  exact oB I r1 r (yn hc _ ht) fun tk=>⟨.bl _,H,I.tok tk,rfl,q⟩
def gy (c:String) (fa:F1):F1:=aX fa fun p Γ=>.ok ⟨.leaf,.bool (kI (uq p.d) c)⟩ Γ
theorem BC {K:Fg} {W:XW} {σ:St} {H:Hp} {Q:VK} {fa:F1} {c:String} (h:tE K W (gy c fa) σ H Q):EX (BY K c) (jH (tE K W fa) (jH (tC (.ty c)) uy)) σ H Q:=by
 show tE K W fa σ H fun x H1=>BY K c [x,.ty c] H1 Q
 refine xf h fun He O Fs Γ1 p v H1 G Fs1 nd A w=>?_
 exact ⟨v,p.d,rfl,A.own.rep,Wants.scal w (.bl _) A.same A.env.dropL (fun a ha=>ha) nd fun a ha=>A.new a (LP _ ha)⟩
def qK (c:FB) (g:FS):Nat->Ev->dG
 | 0,_=>.no
 | n+1,Γ=>match c Γ with
  | .ok true Γ1=>(match g Γ1 with
   | .nx Γ2=>qK c g n Γ2
   | .ct Γ2=>qK c g n Γ2
   | .bk Γ2=>.nx Γ2
   | .rt p=>.rt p
   | .er e Γ2=>.er e Γ2
   | .no=>.no)
  | .ok false Γ1=>.nx Γ1
  | .er e Γ1=>.er e Γ1
  | .no=>.no
def wQ (n:Nat) (c:FB) (g:FS):FS:=qK c g n
section
variable {K:Fg} {W:XW} {σ:St} {H:Hp} {Q:VK} {D:dI} {fa fb:F1} {fl:FL}
theorem uL {n:Nat} {c:FB} {g:FS} (h:tS K W (wQ n c g) D σ H):uw (tT K W c) (tS K W g) D σ H:=by
 obtain ⟨He,O,Fs,Γ,E,h⟩:=h;refine ⟨fun m σ' H'=>∃Γk Fk,EnvOk K He O Fk H' σ' Γk/\lu K W He O D (qK c g m Γk),⟨n,Γ,Fs,E,h⟩,?_⟩
 rintro m σ' H' ⟨Γk,Fk,Ek,hw⟩
 cases m with
 | zero=>exact hw.elim
 | succ m=>
  refine ⟨He,O,Fk,Γk,Ek,?_⟩
  rw [qK] at hw
  cases e:c Γk with
  | er x Γ1=>rw [e] at hw;exact fun H2 Fs2 s E2=>hw σ' H2 Fs2 E2
  | no=>rw [e] at hw;exact hw
  | ok b Γ1=>
   rw [e] at hw;intro H2 Fs2 s2 E2 n2
   cases b with
   | false=>rw [if_neg Bool.false_ne_true];exact hw σ' H2 Fs2 E2
   | true=>
    rw [if_pos rfl];refine ⟨fun σ3 H3=>∃Γ3 F3,EnvOk K He O F3 H3 σ3 Γ3/\lu K W He O D (qK c g m Γ3),fun σ3 H3 q=>⟨m,Nat.lt_succ_self _,q⟩,He,O,Fs2,Γ1,E2,?_⟩
    have hw:lu K W He O D (match g Γ1 with | .nx Γ2=>qK c g m Γ2 | .ct Γ2=>qK c g m Γ2 | .bk Γ2=>.nx Γ2 | .rt p=>.rt p | .er e Γ2=>.er e Γ2 | .no=>.no):=hw
    cases eb:g Γ1 with
    | nx Γ'=>rw [eb] at hw;exact fun σ2 H2 F2 E2=>⟨Γ',F2,E2,hw⟩
    | ct Γ'=>rw [eb] at hw;exact fun σ2 H2 F2 E2=>⟨Γ',F2,E2,hw⟩
    | bk Γ'=>rw [eb] at hw;exact fun σ2 H2 F2 E2=>hw σ2 H2 F2 E2
    | rt p=>rw [eb] at hw;exact fun u H2 G r=>hw u H2 G r
    | er x Γ'=>rw [eb] at hw;exact fun σ2 H2 F2 E2=>hw σ2 H2 F2 E2
    | no=>rw [eb] at hw;exact hw
theorem EnvOk.chgF {He:Hp} {O:List Addr} {Fs:List (List Addr)} {Γ:Ev} {i:Nat} {ds:List L8} (E:EnvOk K He O Fs H σ Γ) (h:Γ[i]?=some (some ⟨.lst .leaf,.list ds⟩)) :
  ∃l vs,σ[i]?=some (some (.ref l))/\H l=some (.lst vs)/\vs.length=ds.length/\(∀(j:Nat) u d,vs[j]?=some u->ds[j]?=some d->Rep K (cY H (O++Fs.flatten)) u d) /\
   ∀(vs':List V) (ds':List L8),vs'.length=ds'.length->(∀(j:Nat) u d,vs'[j]?=some u->ds'[j]?=some d->Rep K (cY H (O++Fs.flatten)) u d)->EnvOk K He O Fs (cy H l (.lst vs')) σ (Γ.set i (some ⟨.lst .leaf,.list ds'⟩)):=by
 obtain ⟨hv,v,F,h1,E1,o1,sub⟩:=E.move h;have hi:i<Γ.length:=(L0 h).1
 obtain ⟨_,v0,F0,h10,h20,o0⟩:=E.slot i _ h;obtain ⟨l,vs,rfl,rfl,hp,hl,hr⟩:=o1.leaves;obtain ⟨l',vs',e0,e1,hp',hl',hr'⟩:=o0.leaves;rw [h1] at h10
 cases h10
 cases e0;rw [hp] at hp'
 cases hp'
 refine ⟨l,vs,h1,hp,hl,hr',fun ws ds' hw q=>?_⟩
 have hlF:l∈Fs.flatten:=sub l (LQ _ (List.mem_singleton.mpr rfl))
 have hHe:He l=none:=E.fresh l hlF
 have E4:=E1.mutO (o:=.lst ws) (LQ _ (List.mem_singleton.mpr rfl)) hp hHe
 have ownL:Own K ([l]++O++(Fs.set i []).flatten) (cy H l (.lst ws)) (.lst .leaf) [l] (.ref l) (.list ds'):=by
  refine Own.mkLeaves iV hw fun j u d a1 a2=>?_
  rw [GZ (LQ _ (LQ _ (List.mem_singleton.mpr rfl)))];refine (q j u d a1 a2).mono (xk (Same.refl _) fun a ha=>.inl ?_)
  rcases LR ha with z | z
  ·rcases LR z with z | z
   ·rw [List.mem_singleton.mp z];exact LP _ hlF
   ·exact LQ _ z
  ·exact LP _ (sub a (LP _ z))
 have fin:=EnvOk.put (i:=i) (p:=⟨.lst .leaf,.list ds'⟩) (v:=.ref l) E4 ownL rfl (fun a ha=>by rw [List.mem_singleton.mp ha];exact hHe) (by rw [length_set];exact hi)
 rw [set_set,set_set,AH h1] at fin;rw [e1] at h20;rw [AH h20] at fin;exact fin
end
theorem qg:∀{ns:List Int} {us:List Value},Vals (ns.map V.int) us->IntsAre us ns
 | [],_,.nil=>.nil
 | n::ns,_,.cons r t=>by
  obtain ⟨tk,rfl⟩:=(show ∃t,_=Value.int n t from r)
  exact .cons _ _ (qg t)
theorem pj:∀{xs:List V} {us:List Value},xs.length=us.length->(∀(i:Nat) x u,xs[i]?=some x->us[i]?=some u->RelV x u)->Vals xs us
 | [],[],_,_=>.nil
 | x::xs,u::us,hl,h=>.cons (h 0 x u rfl rfl) (pj (by simpa using hl) fun i x u a b=>h (i+1) x u (by simpa using a) (by simpa using b))
 | [],_::_,hl,_=>by simp at hl
 | _::_,[],hl,_=>by simp at hl
def KJ (ta:TA):TE:=fun σ H Q=>ta σ H fun vs H1=>∃j:Int,vs=[.int j]/\-(2 ^ 62)<=j/\j<=sizeLine/\∀l,H1 l=none->Q (.ref l) (cy H1 l (.lst (fg 0 j.toNat)))
theorem kx {X:Cx} {a:Expr} {ta:TA} {p p2 pos pos2:Pos} (hg:Gl X "list") (hm:X.mg "list"=none) (hg2:Gl X "range") (hm2:X.mg "range"=none) (hc:X.calm=true) (ha:PA X [a] ta) (hs:starEach [a] X.env=[(false,eval a X.env)])
  (hs1:starEach [.Call (.Name "range" p2) [a] [] pos2] X.env=[(false,eval (.Call (.Name "range" p2) [a] [] pos2) X.env)]):PE X (.Call (.Name "list" p) [.Call (.Name "range" p2) [a] [] pos2] [] pos) (KJ ta):=by
 intro pins s σ H Q I h;refine Call_ (As I hg hm GJ (PyProof.Rows.callWith_type1 ?_ hs1 rfl))
 rw [hs1];show wpAny _ _ (spliced ((false,eval (.Call (.Name "range" p2) [a] [] pos2) X.env)::[])) _ _ s
 refine Calls.spliced_cons (Call_ (As I hg2 hm2 boot_range (PyProof.Rows.callWith_type1 (bK (ha pos2 pins s σ H _ I h) fun us s1 ⟨vs,H1,I1,r1,q1⟩=>?_) hs rfl)))
 obtain ⟨j,e,q1,q2,q⟩:=q1;subst e;obtain ⟨u,rfl,ru⟩:=r1.one;obtain ⟨t,rfl⟩:=(show ∃t,u=Value.int j t from ru)
 refine call_range_1 (Calls.spliced_nil ?_)
 have hz:(sizeLine:Int)<2 ^ 62:=by decide
 refine call_list_range (n:=j.toNat) (I.ok.hd hc) (IsRange.new ..) (small_one (by omega) (by omega) q1 (by omega)) (by rw [rangeSize_one];split<;>omega) (by have:(sizeLine:Nat)=2 ^ 24:=rfl;omega) fun h' tk acc' c' hk ho hacc=>?_
 have I2:Inv X pins σ H1 { s1 with heap:=s1.heap.push { cls:=.type "range",data:=.fields #[.int 0 s1.toks,.int j t,.int 1 (s1.toks+1)] },toks:=s1.toks+1+1 }:=I1.kept fun b o e=>L6 _ e
 have hv:Vals (fg 0 j.toNat) acc'.toList:=by
  refine pj (by have:=hacc.1;simp only [Array.length_toList,fg,length_map,List.length_range];omega) fun i x u e1 e2=>?_
  obtain ⟨t2,rfl⟩:=hacc.2 i u (by rw [<-Array.getElem?_toList];exact e2)
  unfold fg at e1;rw [getElem?_map] at e1
  cases e3:(List.range j.toNat)[i]? with
  | none=>rw [e3] at e1;cases e1
  | some k=>
   rw [e3] at e1;obtain ⟨k1,k2⟩:=L0 e3
   simp at k2
   subst k2
   cases e1;exact ⟨t2,by simp⟩
 refine ⟨.ref _,cy H1 _ (.lst (fg 0 j.toNat)),I2.laid (t':=tk) (fun b o e=>hk b o e) (L7 _) ⟨?_,acc'.toList,c',hv,by simpa using ho⟩,rfl,q _ (I2.hok.fresh (L7 _))⟩
 simp only [fg,length_map,List.length_range]
 omega
section
variable {K:Fg} {W:XW} {σ:St} {H:Hp} {Q:VK} {fa:F1} {fl:FL}
theorem AftL.newSc {He:Hp} {O:List Addr} {Fs Gs Fs1:List (List Addr)} {Γ1:Ev} {ps:List PV} {us:List V} {H1:Hp} {l:Addr} {vs:List V} {ds:List L8} (A:AftL K He O Fs H σ Γ1 ps us H1 Gs Fs1) (nd:O.Nodup) (hl:H1 l=none) (hv:vs.length=ds.length) (hs:∀(i:Nat) v d,vs[i]?=some v->ds[i]?=some d->Sc v d) :
  Aft K He O Fs H σ Γ1 ⟨.lst .leaf,.list ds⟩ (.ref l) (cy H1 l (.lst vs)) [l] Fs1:=by
 refine ⟨A.same.trans (kd hl),A.env.dropL.hide (kd hl) (by simp) (by simpa using hl) (fun a ha=>by rw [List.mem_singleton.mp ha,iV];exact Option.some_ne_none _),fun a ha=>?_,?_⟩
 ·rcases LR ha with z | z
  ·rw [List.mem_singleton.mp z];exact .inr (A.same.free hl)
  ·exact A.new a (LP _ z)
 ·exact Own.mkLeaves iV hv fun j u d e1 e2=>(hs j u d e1 e2).rep
def w5 (fl:FL):F1:=fun Γ=>(fl Γ).bind fun ps Γ'=>match i9 (ps.map (·.d)) with
 | some j=>if j<=sizeLine then .ok ⟨.lst .leaf,.list (cz 0 j.toNat)⟩ Γ' else .no
 | none=>.no
theorem Fh (h:tE K W (w5 fl) σ H Q):KJ (tA K W fl) σ H Q:=by
 obtain ⟨He,O,Fs,Γ,E,h⟩:=h;refine ⟨He,O,Fs,Γ,E,?_⟩
 unfold w5 at h
 cases e:fl Γ with
 | er c Γ'=>rw [e] at h;exact h
 | no=>rw [e] at h;exact h
 | ok ps Γ1=>
  rw [e] at h;intro vs H1 Gs Fs1 A;have h:Wants K W He O Fs H σ Q (match i9 (ps.map (·.d)) with | some j=>if j<=sizeLine then .ok ⟨.lst .leaf,.list (cz 0 j.toNat)⟩ Γ1 else .no | none=>.no):=h
  cases er:i9 (ps.map (·.d)) with
  | none=>rw [er] at h;exact h.elim
  | some j=>
   rw [er] at h;obtain ⟨e1,e2,e3⟩:=pJ er;have r:=A.reps
   rw [e1] at r;have h:Wants K W He O Fs H σ Q (if j<=sizeLine then .ok ⟨.lst .leaf,.list (cz 0 j.toNat)⟩ Γ1 else .no):=h
   by_cases hj:j<=sizeLine
   ·rw [if_pos hj] at h
    have hv:vs=[.int j]:=by
     have hl:=r.1
     match vs,hl with
     | [v],_=>
      have q:=r.2 0 v (.int j) rfl rfl
      cases q;rfl
    refine ⟨j,hv,e2,hj,fun l hl=>h _ _ _ _ (A.newSc E.ndO hl (by simp [fg,cz]) fun i v d a1 a2=>?_)⟩
    have q:=IR (K:=K) (H:=H1) (lo:=0) (n:=j.toNat)
    refine (q.2 i v d a1 a2).sc ?_
    unfold cz at a2;rw [getElem?_map] at a2
    cases e3:(List.range j.toNat)[i]? with
    | none=>rw [e3] at a2;cases a2
    | some k=>rw [e3] at a2;cases a2;rfl
   ·rw [if_neg hj] at h;exact h.elim
def xa:List L8->Option (List Int)
 | []=>some []
 | .int i::r=>(xa r).map (i :: ·)
 | _=>none
theorem jU:∀{ds:List L8} {ns:List Int},xa ds=some ns->ds=ns.map .int
 | [],ns,h=>by cases h;rfl
 | .int i::r,ns,h=>by
  unfold xa at h
  cases e:xa r with
  | none=>rw [e] at h;cases h
  | some ms=>rw [e] at h;cases h;rw [jU e];rfl
 | .none::_,_,h=>by cases h
 | .bool _::_,_,h=>by cases h
 | .str _::_,_,h=>by cases h
 | .list _::_,_,h=>by cases h
 | .tuple _::_,_,h=>by cases h
 | .dict _::_,_,h=>by cases h
end
section
variable {K:Fg} {He H H1 H2:Hp} {O G:List Addr} {Fs Fs1 Fs2:List (List Addr)} {σ:St} {Γ Γ1 Γ2:Ev}
structure Lr (K:Fg) (He:Hp) (O:List Addr) (Fs1:List (List Addr)) (H1:Hp) (σ:St) (i j:Nat) (s:Sh) (A0:Addr) (n:Nat) (ys:List V) (H:Hp) (Γk:Ev) (Fk Gs:List (List Addr)) (acc:List L8):Prop where
 env:EnvOk K He (A0::Gs.flatten++O) Fk H (bM [i,j] σ) Γk
 same:Same H1 H
 at_:H A0=some (.lst ys)
 new:∀a∈Gs.flatten++Fk.flatten,a∈Fs1.flatten\/H1 a=none
 l1:ys.length=acc.length
 l2:Gs.length=acc.length
 own:∀(m:Nat) v d G,ys[m]?=some v->acc[m]?=some d->Gs[m]?=some G->Own K (A0::Gs.flatten++O++Fk.flatten) H s G v d
 len:Γk.length=n
end
end T
namespace TQ
open PySem PySem.Spec L2 T
open PyProof.Rows hiding St
section
variable {X:Cx} {N gl:List Str} {vs cs ls lo gs:List Nat} {W:XW} {a b c e:Expr} {es:List Expr} {pos p:Pos} {fa fb fc:F1} {fl:FL} {ga gb:FB} {g1 g2 g:FS}
theorem Hd {st:Stmt}:Q (PS X st (tS X.K W zI)):=⟨fun pins s σ H D I h=>by
 obtain ⟨He,O,Fs,Γ,E,h⟩:=h;exact h.elim⟩
theorem EA (ha:Q (PE X e (tE X.K W fa))) (hs:swapsWith e none pos.line X.env=pure false):Q (PS X (.Expr e pos) (tS X.K W (b9 fa))):=⟨have ha:=ha.p;cB (G6 ha hs) fun _ _ _=>xP⟩
theorem AL {X:Cx} {N gl:List Str} {vs cs ls lo gs:List Nat} {W:XW} {a:Expr} {pos p p2:Pos} {fa:F1} {c:String} {x:Str} (S:Cp X N gl vs cs ls lo gs) (j k:Nat) (hj:gl[j]?=some ("isinstance":Str)) (hg:gs.contains j=true) (hk:gl[k]?=some x) (hg2:gs.contains k=true) (hc:kinds.contains c=true) (hv:bootBuiltins x=some (.type c)) (hm:X.mg "isinstance"=none) (hm2:X.mg x=none) (ha:Q (PE X a (tE X.K W fa))) (hs:starEach [a,.Name x p2] X.env=(false,eval a X.env)::starEach [.Name x p2] X.env) (hs2:starEach [.Name x p2] X.env=(false,eval (.Name x p2) X.env)::starEach [] X.env) (hpl:(backTo pos (starEach [.Name x p2] X.env)).any (·.1)=false):Q (PE X (.Call (.Name "isinstance" p) [a,.Name x p2] [] pos) (tE X.K W (gy c fa))):=⟨have ha:=ha.p;aY (Ex (wx (by simpa using hc)) (S.g hj hg).1 hm Jo (tM ha (tM (p8 (v:=.ty c) (S.g hk hg2).1 hm2 hv rfl (S.g hk hg2).2.2 (S.g hk hg2).2.1) Aw hs2) hs) (S.g hj hg).2.2 (S.g hj hg).2.1 hs hpl) fun _ _ _=>BC⟩
theorem eJ {p2 pos2:Pos} (S:Cp X N gl vs cs ls lo gs) (j k:Nat) (hj:gl[j]?=some ("list":Str)) (hg:gs.contains j=true) (hm:X.mg "list"=none) (hk:gl[k]?=some ("range":Str)) (hg2:gs.contains k=true) (hm2:X.mg "range"=none) (ha:Q (PA X [a] (tA X.K W fl))) (hs:starEach [a] X.env=[(false,eval a X.env)]) (hs1:starEach [.Call (.Name "range" p2) [a] [] pos2] X.env=[(false,eval (.Call (.Name "range" p2) [a] [] pos2) X.env)]):Q (PE X (.Call (.Name "list" p) [.Call (.Name "range" p2) [a] [] pos2] [] pos) (tE X.K W (w5 fl))):=⟨have ha:=ha.p;aY (kx (S.g hj hg).1 hm (S.g hk hg2).1 hm2 S.calm ha hs hs1) fun _ _ _=>Fh⟩
theorem Ji (n:Nat) {body:List Stmt} (hp:PassesOwn (model X.prog X.w) X.A X.env X.xe) (hc:Q (PT X c (tT X.K W ga))) (hb:Q (PSs X body (tS X.K W g))):Q (PS X (.While c body [] pos) (tS X.K W (wQ n ga g))):=⟨have hc:=hc.p;have hb:=hb.p;cB (u7 hp hc hb) fun _ _ _=>uL⟩
end
end TQ
namespace T
open PySem PySem.Spec L2
open PyProof.Rows hiding St
def tf:L8->Bool
 | .none=>true
 | _=>false
def cN (neg:Bool):L8->L8->Option L8
 | a,.none=>some (.bool (if neg then !tf a else tf a))
 | _,_=>none
theorem mO {K:Fg} {H:Hp} {x:V} {a:L8} (r:Rep K H x a):decide (x=V.non)=tf a:=by
 cases r<;>simp [tf]
theorem yw {K:Fg}:GOp K (fun x y H Q=>y=.non/\Q (.bl (decide (x=.non))) H) (cN false):=by
 intro x y H Q a b d ra rb e k
 cases rb<;>simp only [cN] at e<;>try cases e
 exact ⟨rfl,by rw [mO ra];exact k _ (.bl _)⟩
theorem vQ {K:Fg}:GOp K (fun x y H Q=>y=.non/\Q (.bl (!decide (x=.non))) H) (cN true):=by
 intro x y H Q a b d ra rb e k
 cases rb<;>simp only [cN] at e<;>try cases e
 exact ⟨rfl,by rw [mO ra];exact k _ (.bl _)⟩
theorem rn {X:Cx} (R:Rm X):Ck X .Is (fun x y H Q=>y=.non/\Q (.bl (decide (x=.non))) H) (cN false):=⟨Cw,yw⟩
theorem Es {X:Cx} (R:Rm X):Ck X .IsNot (fun x y H Q=>y=.non/\Q (.bl (!decide (x=.non))) H) (cN true):=⟨yc,vQ⟩
def Lc:L8->L8->Option L8
 | .str i,.str j=>if i.length+j.length<=sizeLine then some (.str (i++j)) else none
 | _,_=>none
def cO (fa fb:F1):F1:=aX fa fun p=>aX fb fun q=>fun Γ=>match p.d,q.d with
 | .list xs,.list ys=>if dA p xs&&dA q ys&&decide (xs.length+ys.length<=sizeLine) then .ok ⟨.lst .leaf,.list (xs++ys)⟩ Γ else .no
 | _,_=>.no
def Lh (fa fb:F1):F1:=aX fa fun p=>aX fb fun q=>fun Γ=>match p.d,q.d with
 | .tuple xs,.tuple ys=>if !p.s.isView&&dA q ys&&!xs.isEmpty&&decide (xs.length+ys.length<=sizeLine) then .ok ⟨.leaf,.tuple (xs++ys)⟩ Γ else .no
 | _,_=>.no
def yI (fa fb:F1):F1:=aX fa fun p=>aX fb fun q=>fun Γ=>match p.d,q.d with
 | .tuple xs,.int k=>if !p.s.isView&&decide (1<=k)&&decide (k<=xs.length) then .ok ⟨.leaf,.tuple (xs.drop k.toNat)⟩ Γ else .no
 | _,_=>.no
def u3 (K:Fg):R2:=fun x y H Q=>∃l b xs zs,x=.ref l/\y=.ref b/\SqL K H l xs/\SqL K H b zs/\xs.length+zs.length<=sizeLine/\∀p,H p=none->Q (.ref p) (cy H p (.lst (xs++zs)))
theorem yV {prog:Program} {w:World} {A:Around} {E:Value->Shared->Prop} {s:Shared} {l b:Addr} {vs ws:List Value} {Q:Value->Shared->Prop} (hl:s.heap.IsList l vs.toArray) (hb:s.heap.IsList b ws.toArray) (hz:vs.length+ws.length<=sizeLine)
  (h:Q (.ref s.heap.objs.size) { s with heap:=s.heap.push { cls:=.type "list",data:=.seq (vs++ws).toArray } }):wpAny (model prog w) A (binaryOp .Add (.ref l) (.ref b)) Q E s:=by
 obtain ⟨⟨cls,dd,data,sl⟩,ho,hc,n,hd⟩:=id hl;obtain ⟨⟨cls2,dd2,data2,sl2⟩,ho2,hc2,n2,hd2⟩:=id hb;simp only at hc hd hc2 hd2
 subst hc hd hc2 hd2;have e:vs.toArray++ws.toArray=(vs++ws).toArray:=by simp
 rw [<-e] at h;exact concat_meets ⟨_,ho,rfl⟩ ⟨_,ho2,rfl⟩ noFill_list_add seq_list_add PySem.F.slot_list_add PySem.F.entry_list_add (PySem.F.args_list_add_2 _ _) (list_addW l b vs.toArray ws.toArray n n2 dd dd2 sl sl2 (by simpa using hz)) ⟨ho,ho2,h⟩
theorem p9 {X:Cx}:OpR X (binaryOp .Add) (u3 X.K):=by
 intro pins s σ H x y v u Q I rx ry h;obtain ⟨l,b,xs,zs,rfl,rfl,hH,hB,hz,q⟩:=h
 cases rx
 cases ry;obtain ⟨its,r,pl,z⟩:=I.list hH;obtain ⟨its2,r2,pl2,z2⟩:=I.list hB;refine yV pl.isList pl2.isList (by rw [<-r.length,<-r2.length];exact hz) ?_
 exact ⟨.ref _,_,I.lnew (t':=s.toks) (r.append r2) (by rw [length_append];exact hz),rfl,q _ I.fresh⟩
section
variable {K:Fg} {W:XW} {σ:St} {H:Hp} {Q:VK} {D:dI} {fa fb:F1} {fl:FL}
theorem Reps.app {vs ws:List V} {ds es:List L8} (h:Reps K H vs ds) (h':Reps K H ws es):Reps K H (vs++ws) (ds++es):=by
 refine ⟨by rw [length_append,length_append,h.1,h'.1],fun i v d e1 e2=>?_⟩
 by_cases hi:i<vs.length
 ·rw [getElem?_append_left hi] at e1
  rw [getElem?_append_left (by rw [<-h.1];exact hi)] at e2
  exact h.2 i v d e1 e2
 ·rw [getElem?_append_right (by omega)] at e1
  rw [getElem?_append_right (by rw [<-h.1];omega),<-h.1] at e2
  exact h'.2 _ v d e1 e2
theorem Reps.drop {vs:List V} {ds:List L8} (k:Nat) (h:Reps K H vs ds):Reps K H (vs.drop k) (ds.drop k):=by
 refine ⟨by rw [length_drop,length_drop,h.1],fun i v d e1 e2=>?_⟩
 rw [List.getElem?_drop] at e1 e2
 exact h.2 _ v d e1 e2
theorem Dr {G2 G1 O F:List Addr} (nd:(G2++(G1++O)++F).Nodup):(∀a∈G1,a∉O++F)/\(∀a∈G2,a∉O++F):=by
 rw [append_assoc,append_assoc] at nd;obtain ⟨_,n2,n3⟩:=LZ nd;obtain ⟨_,_,n4⟩:=LZ n2;exact ⟨fun a ha z=>n4 a ha a z rfl,fun a ha z=>n3 a ha a (LP _ z) rfl⟩
theorem xv {G2 G1 O F:List Addr}:∀a∈O++F,a∈G2++(G1++O)++F:=fun a ha=>by
 rcases LR ha with z | z
 ·exact LQ _ (LP _ (LP _ z))
 ·exact LP _ z
theorem ym {He H1:Hp} {O:List Addr} {Fs Fs1:List (List Addr)} {Γ1:Ev} {vs:List V} {ds:List L8} {p:Addr} (E:EnvOk K He O Fs1 H1 σ Γ1) (s:Same H H1) (n:∀a∈Fs1.flatten,a∈Fs.flatten\/H a=none)
  (hr:Reps K (cY H1 (O++Fs1.flatten)) vs ds) (hp:H1 p=none):Aft K He O Fs H σ Γ1 ⟨.leaf,.tuple ds⟩ (.ref p) (cy H1 p (.tup vs)) [] Fs1:=by
 refine ⟨s.trans (kd hp),by rw [nil_append];exact E.grow (kd hp),by rw [nil_append];exact n,.leaf ?_⟩
 rw [nil_append];have hn:p∉O++Fs1.flatten:=fun z=>E.inH p z hp
 exact .tup (.of (En iV hn)) hr.1 fun i v d h1 h2=>(hr.2 i v d h1 h2).mono (xk (kd hp) fun a ha=>.inl ha)
theorem Im {He H1:Hp} {O:List Addr} {Fs Fs1:List (List Addr)} {Γ1:Ev} {v:V} {d:L8} (E:EnvOk K He O Fs1 H1 σ Γ1) (s:Same H H1) (n:∀a∈Fs1.flatten,a∈Fs.flatten\/H a=none)
  (hr:Rep K (cY H1 (O++Fs1.flatten)) v d):Aft K He O Fs H σ Γ1 ⟨.leaf,d⟩ v H1 [] Fs1:=
 ⟨s,by rw [nil_append];exact E,by rw [nil_append];exact n,.leaf (by rw [nil_append];exact hr)⟩
theorem uU (h:tE K W (cO fa fb) σ H Q):xr (u3 K) (tE K W fa) (tE K W fb) σ H Q:=by
 refine Ay (R:=fun v u H2=>u3 K v u H2 Q) h fun He O Fs Γ2 p q v u H1 H2 G1 G2 Fs2 nd s1 s2 E new o1 o2 w=>?_
 obtain ⟨s,d⟩:=p;obtain ⟨s',d'⟩:=q;dsimp only at w o1 o2
 split at w
 ·rename_i xs ys
  cases hc:(dA ⟨s,.list xs⟩ xs&&dA ⟨s',.list ys⟩ ys&&decide (xs.length+ys.length<=sizeLine)) with
  | false=>rw [hc] at w;exact w.elim
  | true=>
   rw [hc] at w;simp only [Bool.and_eq_true,decide_eq_true_eq] at hc
   obtain ⟨⟨h1,h2⟩,h3⟩:=hc;obtain ⟨d1,d2⟩:=Dr E.nd;obtain ⟨p1,vs,rfl,q1,_,r1⟩:=o1.items (O':=O++Fs2.flatten) h1 xv d1
   obtain ⟨p2,ws,rfl,q2,_,r2⟩:=o2.items (O':=O++Fs2.flatten) h2 xv d2
   refine ⟨p1,p2,vs,ws,rfl,rfl,q1,q2,by rw [r1.1,r2.1];exact h3,fun p' hp'=>w _ _ _ _ (Hn (E.drop (fun a ha=>LP _ (LP _ ha)) nd) (s1.trans s2) (fun a ha=>new a (LP _ (LP _ ha))) (r1.app r2) hp')⟩
 ·exact w.elim
theorem Bw (h:tE K W (yI fa fb) σ H Q):KH (BS K) (tE K W fa) (zB (tE K W fb)) pD σ H Q:=by
 refine Ay (R:=fun v u H2=>∃i,u=.int i/\BS K v (some i) none H2 Q) h fun He O Fs Γ2 p q v u H1 H2 G1 G2 Fs2 nd s1 s2 E new o1 o2 w=>?_
 obtain ⟨s,d⟩:=p;obtain ⟨s',d'⟩:=q;dsimp only at w o1 o2
 split at w
 ·rename_i xs k
  cases hc:(!s.isView&&decide (1<=k)&&decide (k<=xs.length)) with
  | false=>rw [hc] at w;exact w.elim
  | true=>
   rw [hc] at w;simp only [Bool.and_eq_true,decide_eq_true_eq,Bool.not_eq_true'] at hc
   obtain ⟨⟨h1,h2⟩,h3⟩:=hc;obtain ⟨d1,d2⟩:=Dr E.nd;have E1:=E.drop (fun a ha=>LP _ (LP _ ha)) nd
   have nw:∀a∈Fs2.flatten,a∈Fs.flatten\/H a=none:=fun a ha=>new a (LP _ (LP _ ha))
   have r1:=o1.freeze (O':=O++Fs2.flatten) h1 xv d1
   have ru:=o2.rep
   cases ru;refine ⟨k,rfl,?_⟩
   cases r1 with
   | @tup a vs _ hq hl hr=>
    have ek:k=((k.toNat:Nat):Int):=by omega
    refine ⟨a,vs,rfl,iR hid_le hq,fun z=>?_,fun p' hp'=>?_⟩
    ·have z1:=z.1
     rw [ek,HT.sIx_nat] at z1;omega
    ·have ec:ju vs (some k) none=vs.drop k.toNat:=by
      unfold ju;rw [ek,HT.sIx_nat,HT.sIx_none,Int.toNat_natCast,take_of_length_le (by rw [length_drop];omega)]
      rw [Nat.min_eq_left (by omega)]
     rw [ec];exact w _ _ _ _ (ym E1 (s1.trans s2) nw (Reps.drop k.toNat ⟨hl,hr⟩) hp')
 ·exact w.elim
end
theorem qZ {K:Fg} {H:Hp} {ws:List V} {ns:List Int} (h:Reps K H ws (ns.map .int)):ws=ns.map V.int:=by
 obtain ⟨hwl,hw⟩:=h;apply List.ext_getElem?
 intro i;by_cases hi:i<ws.length
 ·have hi2:i<ns.length:=by rw [length_map] at hwl;omega
  have q:=hw i (ws[i]'hi) (.int (ns[i]'hi2)) (LV _) (by rw [getElem?_map,LV hi2];rfl)
  rw [LV hi,getElem?_map,LV hi2];generalize ws[i]'hi=u at q
  cases q;rfl
 ·rw [List.getElem?_eq_none (by omega),List.getElem?_eq_none (by rw [length_map] at hwl ⊢;omega)]
def cj (k:Str):List (Str×Int)->Option Int
 | []=>none
 | (x,i)::r=>if k=x then some i else cj k r
def uv (a:Addr) (es:Array DictEntry) (tab:List (Str×Int)):Bool:=!(a==sysModules)&&KTD.rowsLook KTD.flatLooks es.toList (tab.map fun p=>(p.1,.int p.2))
def qD (K:Fg) (mg:Str->Option Value) (x:Str) (tab:List (Str×Int)):Prop:=∃a es ep,mg x=some (.ref a)/\K.lookup a=some ⟨.type "dict",none,.dict es ep,#[]⟩/\uv a es tab=true
def DJ (X:Cx) (x:Str) (tab:List (Str×Int)):Prop:=qD X.K X.mg x tab
theorem yR {K:Fg} {mg:Str->Option Value} {x:Str} {a:Addr} {es:Array DictEntry} {ep:Nat} {tab:List (Str×Int)} (hm:mg x=some (.ref a)) (l:K.lookup a=some ⟨.type "dict",none,.dict es ep,#[]⟩) (h:uv a es tab=true):qD K mg x tab:=⟨a,es,ep,hm,l,h⟩
def uu (tab:List (Str×Int)):List (Str×KTD.Dat):=(tab.map fun p=>(p.1,PySem.PyData.int p.2)).map fun p=>(p.1,KTD.Dat.flat p.2)
theorem lP {K:Fg} {h:Heap} {a:Addr} {es:Array DictEntry} {ep:Nat} {tab:List (Str×Int)} (hk:K.In h) (l:K.lookup a=some ⟨.type "dict",none,.dict es ep,#[]⟩) (hb:uv a es tab=true):KTD.Here h h a (uu tab):=by
 unfold uv at hb;simp only [Bool.and_eq_true,Bool.not_eq_true'] at hb
 refine ⟨KTD.TabOf.text ⟨hb.1,_,es,ep,hk a _ l,⟨rfl,rfl,rfl⟩,rfl,KTD.rows_of_look (fun d v z=>KTD.flat_of_looks z) hb.2⟩,fun b o z=>z⟩
theorem IS (k:Str):∀tab:List (Str×Int),KTD.datumAt k (uu tab)=(cj k tab).map fun i=>KTD.Dat.flat (.int i)
 | []=>rfl
 | (x,i)::r=>by
  have ih:=IS k r
  unfold uu at ih ⊢
  simp only [map_cons,KTD.datumAt,cj]
  by_cases e:k=x
  ·simp [e]
  ·simp [e]
   simpa using ih
theorem mZ {h:Heap} {k:Str} {P:Value->Prop} {i:Int} (hp:∀t,P (.int i t)):∀tab:List (Str×Int),cj k tab=some i->KTD.EachL h k P (uu tab)
 | [],_=>trivial
 | [(x,j)],e=>fun hx=>by
  simp only [cj,hx,if_true,Option.some.injEq] at e
  subst e;exact hp
 | (x,j)::q::r,e=>by
  show (if decide (k=x)=true then KTD.Opened h P (.flat (.int j)) else KTD.EachL h k P (uu (q::r)))
  by_cases hx:k=x
  ·rw [if_pos (decide_eq_true hx)]
   rw [cj,if_pos hx] at e
   cases e;exact hp
  ·rw [if_neg (by simp [hx])]
   rw [cj,if_neg hx] at e;exact mZ hp (q::r) e
def wa (neg:Bool) (tab:List (Str×Int)) (fa:F1):F1:=aX fa fun p Γ=>match p.d with
 | .str k=>.ok ⟨.leaf,.bool (if neg then !(cj k tab).isSome else (cj k tab).isSome)⟩ Γ
 | _=>.no
def qp (tab:List (Str×Int)) (fa:F1):F1:=aX fa fun p Γ=>match p.d with
 | .str k=>(match cj k tab with
  | some i=>.ok ⟨.leaf,.int i⟩ Γ
  | none=>.no)
 | _=>.no
section
variable {K:Fg} {W:XW} {σ:St} {H:Hp} {Q:VK} {fa:F1}
theorem BD {neg:Bool} {tab:List (Str×Int)} (h:tE K W (wa neg tab fa) σ H Q):tE K W fa σ H fun x H1=>∃k,x=.str k/\Q (.bl (if neg then !(cj k tab).isSome else (cj k tab).isSome)) H1:=by
 refine xf h fun He O Fs Γ1 p v H1 G Fs1 nd A w=>?_
 obtain ⟨s,d⟩:=p;have r:=A.own.rep
 cases r with
 | str k=>exact ⟨k,rfl,Wants.scal w (.bl _) A.same A.env (fun a ha=>LP _ ha) nd A.newF⟩
 | _=>exact w.elim
theorem xO {tab:List (Str×Int)} (h:tE K W (qp tab fa) σ H Q):tE K W fa σ H fun x H1=>∃k i,x=.str k/\cj k tab=some i/\Q (.int i) H1:=by
 refine xf h fun He O Fs Γ1 p v H1 G Fs1 nd A w=>?_
 obtain ⟨s,d⟩:=p;have r:=A.own.rep
 cases r with
 | str k=>
  have w:Wants K W He O Fs H σ Q (match cj k tab with | some i=>.ok ⟨.leaf,.int i⟩ Γ1 | none=>.no):=w
  cases e:cj k tab with
  | none=>rw [e] at w;exact w.elim
  | some i=>
   rw [e] at w;exact ⟨k,i,rfl,e,Wants.scal w (.int _) A.same A.env (fun a ha=>LP _ ha) nd A.newF⟩
 | _=>exact w.elim
end
section
variable {X:Cx} {N gl:List Str} {vs cs ls lo gs:List Nat} {W:XW} {a b c e:Expr} {es:List Expr} {pos p:Pos} {fa fb fc:F1} {fl:FL} {g:FS}
theorem Co {x:Str} {tab:List (Str×Int)} (S:Cp X N gl vs cs ls lo gs) (j:Nat) (hj:gl[j]?=some x) (hg:gs.contains j=true) (Tb:DJ X x tab) (ha:PE X a (tE X.K W fa)):PC X .In a (.Name x p) (tE X.K W (wa false tab fa)):=by
 intro pins s σ H Q I h;obtain ⟨d,es,ep,hm,l,hb⟩:=Tb;refine bK (ha pins s σ H _ I (BD h)) fun v s1 ⟨y,H1,I1,r1,k,ey,q⟩=>?_
 subst ey;obtain ⟨t,rfl⟩:=r1;refine AB I1 (S.g hj hg).1 hm ?_ (S.g hj hg).2.1
 refine KTD.in_text (lP I1.kIn l hb) ?_
 refine ⟨.bl _,H1,I1.tok _,?_,q⟩
 rw [<-KTD.isSome_datumAt,IS,Option.isSome_map];rfl
end
def LA (i:Nat) (q:PV) (Γ:Ev):Out PV:=match Γ[i]?,q.d with
 | some (some ⟨.lst .leaf,.list ds⟩),.int k=>(match eF ds.length k with
  | some j=>(match ds[j]? with
   | some d=>.ok ⟨.leaf,d⟩ Γ
   | none=>.no)
  | none=>.no)
 | _,_=>.no
section
variable {K:Fg} {W:XW} {σ:St} {H:Hp} {Q:VK} {D:dI} {fa fb:F1} {fl:FL}
def oH (p:PV):Bool:=match p with
 | ⟨.lst .leaf,.list ds⟩=>ds.all bz
 | _=>false
def Am (n:Nat) (den:List L8->Res) (fl:FL):F1:=fun Γ=>(fl Γ).bind fun ps Γ'=>if ps.length=n then (match den (ps.map (·.d)) with
 | .ok p=>if oH p then .ok p Γ' else .no
 | _=>.no) else .no
theorem uW {n:Nat} {den:List L8->Res} {E:XK} (h:tE K W (Am n den fl) σ H Q):uC (pG K n den) [] E (tA K W fl) σ H Q:=by
 obtain ⟨He,O,Fs,Γ,E0,h⟩:=h;refine ⟨He,O,Fs,Γ,E0,?_⟩
 unfold Am at h
 cases e:fl Γ with
 | er c Γ'=>rw [e] at h;exact h
 | no=>rw [e] at h;exact h
 | ok ps Γ1=>
  rw [e] at h;intro vs H1 Gs Fs1 A;have h:Wants K W He O Fs H σ Q (if ps.length=n then (match den (ps.map (·.d)) with | .ok p=>if oH p then .ok p Γ1 else .no | _=>.no) else .no):=h
  by_cases hn:ps.length=n
  case neg=>rw [if_neg hn] at h;exact h.elim
  rw [if_pos hn] at h;have hl:(vs++[]).length=n:=by rw [append_nil,A.len1];exact hn
  cases ed:den (ps.map (·.d)) with
  | er c=>rw [ed] at h;exact h.elim
  | no=>rw [ed] at h;exact h.elim
  | ok p=>
   rw [ed] at h;have h:Wants K W He O Fs H σ Q (if oH p then .ok p Γ1 else .no):=h
   have newF:∀a∈Fs1.flatten,a∈Fs.flatten\/H a=none:=fun a ha=>A.new a (LP _ ha)
   cases hc:oH p with
   | false=>rw [hc] at h;exact h.elim
   | true=>
    rw [hc] at h;have h:Wants K W He O Fs H σ Q (.ok p Γ1):=h
    refine ⟨hl,[],ps.map (·.d),nodup_nil,(fun _ z=>nomatch z),by rw [append_nil,Eo];exact A.reps,?_⟩
    rw [ed];intro v H2 G r;unfold oH at hc;split at hc
    ·rename_i ds
     obtain ⟨l,us,rfl,rfl,hp,hul,hr⟩:=r.own.leaves;refine h (.ref l) H2 [l] Fs1 ⟨A.same.trans r.same,A.env.dropL.hide r.same r.nd r.fresh r.inH,fun a ha=>?_,Own.mkLeaves hp hul fun j u d e1 e2=>((hr j u d e1 e2).sc (List.all_eq_true.mp hc d (mem_of_getElem? e2))).rep⟩
     rcases LR ha with z | z
     ·exact .inr (A.same.free (r.fresh a z))
     ·exact newF a z
    ·cases hc
def wz (i:Nat) (a:Int) (p:PV) (Γ:Ev):dG:=match p.d with
 | .int b=>if i<Γ.length then .nx (Γ.set i (L9 (.int (a+b)))) else .no
 | _=>.no
def gJ (i:Nat) (f:F1):FS:=fun Γ=>match Γ[i]? with
 | some (some ⟨.leaf,.int a⟩)=>gS f (wz i a) Γ
 | _=>.no
theorem BM {i:Nat} (h:tS K W (gJ i fa) D σ H):EY i (tE K W fa) (La fun i j=>i+j) D σ H:=by
 obtain ⟨He,O,Fs,Γ,E,h⟩:=h;unfold gJ at h;split at h
 ·rename_i a e0
  obtain ⟨_,v,F,h1,h2,h3⟩:=E.slot i _ e0;have r:=h3.rep
  cases r;refine ⟨.int a,h1,?_⟩
  refine gG (D:=D) (k:=wz i a) ⟨He,O,Fs,Γ,E,h⟩ fun He O Fs Γ1 p u H1 G Fs1 _ fr A w=>?_
  unfold wz at w;split at w
  ·rename_i b eb
   have r:=A.own.rep
   rw [eb] at r
   cases r;by_cases hi:i<Γ1.length
   ·rw [if_pos hi] at w
    exact ⟨a,b,rfl,rfl,w _ _ _ (EnvOk.put (G:=[]) (p:=⟨.leaf,.int (a+b)⟩) (v:=.int (a+b)) A.go (.leaf (.int _)) rfl (fun a ha=>by simp at ha) hi)⟩
   ·rw [if_neg hi] at w;exact w.elim
  ·exact w.elim
 ·exact h.elim
def Dl (i:Nat) (p:PV) (Γ:Ev):dG:=match Γ[i]?,p.d with
 | some (some ⟨.lst .leaf,.list ds⟩),.tuple es=>if dA p es&&decide (ds.length+es.length<=sizeLine) then .nx (Γ.set i (some ⟨.lst .leaf,.list (ds++es)⟩)) else .no
 | some (some ⟨.lst .leaf,.list ds⟩),.list es=>if dA p es&&decide (ds.length+es.length<=sizeLine) then .nx (Γ.set i (some ⟨.lst .leaf,.list (ds++es)⟩)) else .no
 | _,_=>.no
def ku (i:Nat) (f:F1):FS:=fun Γ=>if zk Γ[i]? then gS f (Dl i) Γ else .no
def B0 (K:Fg):V->List V->Hp->VK->Prop:=fun x vs H Q=>∃l b xs zs,x=.ref l/\vs=[.ref b]/\H l=some (.lst xs)/\(SqL K H b zs\/SqT K H b zs)/\xs.length+zs.length<=sizeLine/\Q .non (cy H l (.lst (xs++zs)))
theorem BK {i:Nat} (h:tS K W (ku i fa) D σ H):lQ (zF K "list" (B0 K) (fA i) (tA K W (ae fa ag))) D σ H:=by
 obtain ⟨He,O,Fs,Γ,E,h⟩:=h;unfold ku at h
 cases ho:zk Γ[i]? with
 | false=>rw [ho] at h;exact h.elim
 | true=>
  rw [ho] at h;obtain ⟨ds,e0⟩:=iE ho;obtain ⟨l,vs,h1,h2,h3,_,_⟩:=E.chgF e0;refine ⟨.ref l,h1,.inl ⟨rfl,vs,.of h2⟩,GV (gG (D:=D) ⟨He,O,Fs,Γ,E,h⟩ fun He O Fs Γ1 p v H1 G Fs1 _ fr A w=>?_)⟩
  obtain ⟨s,d⟩:=p;have fin:∀(ds1 es:List L8) (b:Addr) (ws:List V),Γ1[i]?=some (some ⟨.lst .leaf,.list ds1⟩)->v=.ref b->(SqL K H1 b ws\/SqT K H1 b ws)->Reps K (cY H1 (O++Fs1.flatten)) ws es->ds1.length+es.length<=sizeLine ->
    lu K W He O D (.nx (Γ1.set i (some ⟨.lst .leaf,.list (ds1++es)⟩)))->B0 K (.ref l) [v] H1 (fun _ H2=>D.nx σ H2):=fun ds1 es b ws e1 hv hq hr hz w=>by
   obtain ⟨l1,vs1,q1,q2,q3,q4,q5⟩:=A.go.chgF e1;rw [h1] at q1
   cases q1;subst hv;refine ⟨l,b,vs1,ws,rfl,rfl,q2,hq,by rw [q3,hr.1];exact hz,w σ _ _ (q5 (vs1++ws) (ds1++es) (by rw [length_append,length_append,q3,hr.1]) ?_)⟩
   exact (Reps.app ⟨q3,q4⟩ hr).2
  unfold Dl at w;split at w
  ·rename_i ds1 es e1 e2
   dsimp only at e2;subst e2
   cases hc:(dA ⟨s,.tuple es⟩ es&&decide (ds1.length+es.length<=sizeLine)) with
   | false=>rw [hc] at w;exact w.elim
   | true=>
    rw [hc] at w;simp only [Bool.and_eq_true,decide_eq_true_eq] at hc
    obtain ⟨b,ws,rfl,hq,_,hr⟩:=A.own.itemsT (O':=O++Fs1.flatten) hc.1 ig A.disj
    exact fin ds1 es b ws e1 rfl (.inr hq) hr hc.2 w
  ·rename_i ds1 es e1 e2
   dsimp only at e2;subst e2
   cases hc:(dA ⟨s,.list es⟩ es&&decide (ds1.length+es.length<=sizeLine)) with
   | false=>rw [hc] at w;exact w.elim
   | true=>
    rw [hc] at w;simp only [Bool.and_eq_true,decide_eq_true_eq] at hc
    obtain ⟨b,ws,rfl,hq,_,hr⟩:=A.own.items (O':=O++Fs1.flatten) hc.1 ig A.disj
    exact fin ds1 es b ws e1 rfl (.inl hq) hr hc.2 w
  ·exact w.elim
end
theorem Km {l b:Addr} {xs ys:Array Value} {n m:Nat} {d2:Option Addr} {s2:Array (Option Value)} (h0:¬(!xs.isEmpty&&Builtin.List.listTooLong (xs.size+ys.size))=true) (h1:xs.size<=sizeLine) (h2:(xs++ys).size<=sizeLine+1) :
  Meets (Builtin.«list.extend» ⟨[.ref l,.ref b],[]⟩) (fun _ R s=>s.heap.get? l=some ⟨.type "list",none,.seq xs n,#[]⟩/\s.heap.get? b=some ⟨.type "tuple",d2,.seq ys m,s2⟩ /\
   R (.ok (.ret Value.none)) { s with heap:=s.heap.update l (Obj.mapSeq fun x=>x++ys),toks:=s.toks }):=
 .of_wp fun prog w A R s h=>by
  obtain ⟨hp,g,d,tk,os⟩:=s;obtain ⟨hl,hb,h⟩:=h;have f1:=AutoSeq1.idx_int
  have f2:=AutoSeq1.sub_tuple_tuple
  have f3:=AutoSeq1.sub_list_list
  have f4:=AutoSeq1.sub_tuple_list
  have f5:=AutoSeq1.sub_list_tuple
  wp_walk using (wpAny_updateSeq hl rfl (hz:=h1) (_hz':=h2)),AutoSeq1.wpAny_loadPart' hl,AutoSeq1.wpAny_loadPart' hb
  exact ⟨_,rfl,h⟩
theorem Kn {l b:Addr} {xs ys:Array Value} {n m:Nat} {d2:Option Addr} {s2:Array (Option Value)} (h0:¬(!xs.isEmpty&&Builtin.List.listTooLong (xs.size+ys.size))=true) (h1:xs.size<=sizeLine) (h2:(xs++ys).size<=sizeLine+1) :
  Meets (Builtin.«list.extend» ⟨[.ref l,.ref b],[]⟩) (fun _ R s=>s.heap.get? l=some ⟨.type "list",none,.seq xs n,#[]⟩/\s.heap.get? b=some ⟨.type "list",d2,.seq ys m,s2⟩ /\
   R (.ok (.ret Value.none)) { s with heap:=s.heap.update l (Obj.mapSeq fun x=>x++ys),toks:=s.toks }):=
 .of_wp fun prog w A R s h=>by
  obtain ⟨hp,g,d,tk,os⟩:=s;obtain ⟨hl,hb,h⟩:=h;have f1:=AutoSeq1.idx_int
  have f2:=AutoSeq1.sub_tuple_tuple
  have f3:=AutoSeq1.sub_list_list
  have f4:=AutoSeq1.sub_tuple_list
  have f5:=AutoSeq1.sub_list_tuple
  wp_walk using (wpAny_updateSeq hl rfl (hz:=h1) (_hz':=h2)),AutoSeq1.wpAny_loadPart' hl,AutoSeq1.wpAny_loadPart' hb
  exact ⟨_,rfl,h⟩
theorem CG {X:Cx}:Lo X "list.extend" (B0 X.K):=by
 intro pins s σ H x vs v us Q I rx rv h;obtain ⟨l,b,xs,zs,rfl,rfl,hH,hB,hz,q⟩:=h
 cases rx;obtain ⟨u,rfl,ru⟩:=rv.one
 cases ru;obtain ⟨z,its,n,r,hl,e⟩:=I.lstM hH;have fin:∀its2:List Value,Vals zs its2->its.toArray.size+its2.toArray.size<=sizeLine/\(its.toArray++its2.toArray).size<=sizeLine+1/\its.toArray.size<=sizeLine/\¬(!its.toArray.isEmpty&&Builtin.List.listTooLong (its.toArray.size+its2.toArray.size))=true /\
   EP X pins σ Q Value.none { s with heap:=s.heap.update l (Obj.mapSeq fun x=>x++its2.toArray),toks:=s.toks }:=fun its2 r2=>by
  have h1:its.toArray.size+its2.toArray.size<=sizeLine:=by rw [size_toArray,size_toArray,<-r.length,<-r2.length];exact hz
  refine ⟨h1,by rw [Array.size_append];omega,by omega,?_,?_⟩
  ·rw [mM h1,Bool.and_false]
   exact Bool.false_ne_true
  ·exact ⟨.non,_,I.lset (its':=its++its2) hH e (by simp) (r.append r2) (by rw [length_append];exact hz),rfl,q⟩
 rcases hB with hB | hB
 ·obtain ⟨its2,r2,⟨⟨c2,d2,dat2,s2⟩,n2,e2,ec,ed,es⟩,_⟩:=I.list hB
  simp only at ec es
  subst ec es;obtain ⟨f1,f2,f3,f4,f5⟩:=fin its2 r2;exact call_meets F.slot_list_extend ⟨_,e,rfl⟩ F.entry_list_extend (F.args_list_extend_2 _ _) (Kn f4 f3 f2) ⟨e,e2,f5⟩
 ·obtain ⟨its2,r2,⟨⟨c2,d2,dat2,s2⟩,e2,ec,n2,es⟩,_⟩:=I.tuple hB
  simp only at ec es
  subst ec es;obtain ⟨f1,f2,f3,f4,f5⟩:=fin its2 r2;exact call_meets F.slot_list_extend ⟨_,e,rfl⟩ F.entry_list_extend (F.args_list_extend_2 _ _) (Km f4 f3 f2) ⟨e,e2,f5⟩
section
variable {X:Cx} {N gl:List Str} {vs cs ls lo gs:List Nat} {W:XW} {a b c e:Expr} {es:List Expr} {pos p:Pos} {fa fb fc:F1} {fl:FL} {g:FS}
theorem cs_extend (S:Cp X N gl vs cs ls lo gs) (i:Nat) {x:Str} {apos cpos:Pos} (hi:N[i]?=some x) (hv:vs.contains i=true) (ha:PE X a (tE X.K W fa)) (hs:starEach [a] X.env=[(false,eval a X.env)])
  (hbase:attributeBase (.Name x p) "extend" X.env (eval (.Name x p) X.env)=eval (.Name x p) X.env) (hline:(apos.endLine==cpos.line)=true)
  (hfew:((backTo cpos (starEach [a] X.env)).all (fun x=>!x.1)&&(backToKw cpos (keywordEach [] X.env)).all (fun x=>x.1.isSome)
   && decide ([a].length+([]:List Keyword).length+(if ([]:List Keyword).isEmpty then 0 else 1)<30))=true)
  (hsw:swapsWith (.Call (.Attribute (.Name x p) "extend" apos) [a] [] cpos) none pos.line X.env=pure false) :
  PS X (.Expr (.Call (.Attribute (.Name x p) "extend" apos) [a] [] cpos) pos) (tS X.K W (ku i fa)):=by
 have m:=S.nm x (mem_of_getElem? hi)
 exact cB (G6 (iq PySem.F.plainAttrs_list PySem.F.slot_list_extend PySem.F.type_list_extend CG (qH (by rw [S.hN];exact hi) (S.vis i x hi hv) m.1 m.2) (da_cons ha da_nil hs) hbase hfew hline hs rfl) hsw) fun _ _ _=>BK
theorem Ga {P:Program} {w:World} {K:Fg} {mg:Str->Option Value} {base:Heap} {k:Nat} {f:Addr} {fd:FuncData} {ps:List Str}:dH P w K mg base ka k f fd ps (pG K ps.length fun _=>.no):=
 ⟨fun vs H Q E h=>h.1,fun A outer s H args us vs Q E hr he hb hv h=>by
  obtain ⟨_,_,_,_,_,_,w⟩:=h;exact w.elim⟩
end
end T
namespace TQ
open PySem PySem.Spec L2 T
open PyProof.Rows hiding St
section
variable {X:Cx} {N gl:List Str} {vs cs ls lo gs:List Nat} {W:XW} {a b c e:Expr} {es:List Expr} {pos p:Pos} {fa fb fc:F1} {fl:FL} {ga gb:FB} {g1 g2 g:FS}
theorem AK (ha:Q (PE X a (tE X.K W fa))) (hb:Q (PE X b (tE X.K W fb))):Q (PE X (.BinOp a .Add b pos) (tE X.K W (cO fa fb))):=⟨have ha:=ha.p;have hb:=hb.p;aY (fP p9 ha hb) fun _ _ _=>uU⟩
theorem uc {p2:Pos} (ha:Q (PE X a (tE X.K W fa))) (hb:Q (PE X b (tE X.K W fb))):Q (PE X (.Subscript a (.Slice (some b) none none p2) pos) (tE X.K W (yI fa fb))):=⟨have ha:=ha.p;have hb:=hb.p;aY (Hq Bj ha (G5 hb) G4) fun _ _ _=>Bw⟩
theorem ib {x:Str} {tab:List (Str×Int)} (S:Cp X N gl vs cs ls lo gs) (j:Nat) (hj:gl[j]?=some x) (hg:gs.contains j=true) (Tb:DJ X x tab) (ha:Q (PE X a (tE X.K W fa))):Q (PE X (.Compare a [.In] [.Name x p] pos) (tE X.K W (wa false tab fa))):=⟨have ha:=ha.p;Cm (Co S j hj hg Tb ha) rfl⟩
theorem qR {x:Str} {tab:List (Str×Int)} (S:Cp X N gl vs cs ls lo gs) (j:Nat) (hj:gl[j]?=some x) (hg:gs.contains j=true) (Tb:DJ X x tab) (ha:Q (PE X a (tE X.K W fa))) (hs:DS a):Q (PE X (.Subscript (.Name x p) a pos) (tE X.K W (qp tab fa))):=⟨by
 have ha:=ha.p
 intro pins s σ H Q I h;obtain ⟨d,es,ep,hm,l,hb⟩:=Tb;refine Subscript_ (AB I (S.g hj hg).1 hm ?_ (S.g hj hg).2.1)
 refine bK (ha pins s σ H _ I (xO h)) fun v s1 ⟨y,H1,I1,r1,k,i,ey,e,q⟩=>?_
 subst ey;obtain ⟨t,rfl⟩:=r1;refine KTD.item_text (lP I1.kIn l hb) ?_ (mZ (fun t'=>⟨.int i,H1,I1.tok _,⟨_,rfl⟩,q⟩) tab e) (hs _ _)
 rw [<-KTD.isSome_datumAt,IS,e];rfl⟩
theorem A7 {x:Str} {n:Nat} {den:List L8->Res} (S:Cp X N gl vs cs ls lo gs) (j:Nat) (hj:gl[j]?=some x) (hg:gs.contains j=true) (C:D9 X x n den) (ha:Q (PA X (e::es) (tA X.K W fl))) (he:starEach (e::es) X.env=(false,eval e X.env)::starEach es X.env) (hpl:(backTo pos (starEach es X.env)).any (·.1)=false):Q (PE X (.Call (.Name x p) (e::es) [] pos) (tE X.K W (Am n den fl))):=⟨by
 have ha:=ha.p
 obtain ⟨k,f,fd,ps,F,hr,hm,hk,hb⟩:=C;exact aY (p7 F hr (S.g hj hg).1 hm hk hb .nil zQ ha (S.g hj hg).2.1 he hpl) fun _ _ _=>uW⟩
theorem lI (S:Cp X N gl vs cs ls lo gs) (i:Nat) {x:Str} {pos':Pos} (hi:N[i]?=some x) (hl:ls.contains i=true) (ha:Q (PE X a (tE X.K W fa))):Q (PS X (.AugAssign (.Name x pos') .Add a pos) (tS X.K W (gJ i fa))):=⟨have ha:=ha.p;cB (B9 (by rw [S.hN];exact S.nd) (by rw [S.hN];exact hi) (S.loc i x hi hl).1 ha CV (S.loc i x hi hl).2) fun _ _ _=>BM⟩
theorem lH (S:Cp X N gl vs cs ls lo gs) (i:Nat) {x:Str} {apos cpos:Pos} (hi:N[i]?=some x) (hv:vs.contains i=true) (ha:Q (PE X a (tE X.K W fa))) (hs:starEach [a] X.env=[(false,eval a X.env)]) (hbase:attributeBase (.Name x p) "extend" X.env (eval (.Name x p) X.env)=eval (.Name x p) X.env) (hline:(apos.endLine==cpos.line)=true) (hfew:((backTo cpos (starEach [a] X.env)).all (fun x=>!x.1)&&(backToKw cpos (keywordEach [] X.env)).all (fun x=>x.1.isSome)
   && decide ([a].length+([]:List Keyword).length+(if ([]:List Keyword).isEmpty then 0 else 1)<30))=true) (hsw:swapsWith (.Call (.Attribute (.Name x p) "extend" apos) [a] [] cpos) none pos.line X.env=pure false):Q (PS X (.Expr (.Call (.Attribute (.Name x p) "extend" apos) [a] [] cpos) pos) (tS X.K W (ku i fa))):=⟨T.cs_extend S i hi hv ha.p hs hbase hline hfew hsw⟩
theorem lC {tg:Expr} (ha:Q (PE X a (tE X.K W fa))):Q (PI X tg a (tI X.K W (eu fa))):=⟨have ha:=ha.p;nF (Cb ha) fun _ _ _=>xM⟩
end
end TQ
namespace T
open PySem PySem.Spec L2
open PyProof.Rows hiding St
def cU (neg:Bool):L8->L8->Option L8
 | .str i,.str j=>some (.bool (if neg then !(!(Builtin.Str.occurrences j i 0 j.length 1).isEmpty) else !(Builtin.Str.occurrences j i 0 j.length 1).isEmpty))
 | _,_=>none
theorem yx {K:Fg}:GOp K (fun x y H Q=>∃i j,x=.str i/\y=.str j/\Q (.bl (!(Builtin.Str.occurrences j i 0 j.length 1).isEmpty)) H) (cU false):=by
 intro x y H Q a b d ra rb e k
 cases ra<;>cases rb<;>simp only [cU] at e<;>try cases e
 exact ⟨_,_,rfl,rfl,k _ (.bl _)⟩
theorem vR {K:Fg}:GOp K (fun x y H Q=>∃i j,x=.str i/\y=.str j/\Q (.bl (!(!(Builtin.Str.occurrences j i 0 j.length 1).isEmpty))) H) (cU true):=by
 intro x y H Q a b d ra rb e k
 cases ra<;>cases rb<;>simp only [cU] at e<;>try cases e
 exact ⟨_,_,rfl,rfl,k _ (.bl _)⟩
theorem pW {X:Cx} (R:Rm X):Ck X .In (fun x y H Q=>∃i j,x=.str i/\y=.str j/\Q (.bl (!(Builtin.Str.occurrences j i 0 j.length 1).isEmpty)) H) (cU false):=⟨rE,yx⟩
theorem B3 {X:Cx} (R:Rm X):Ck X .NotIn (fun x y H Q=>∃i j,x=.str i/\y=.str j/\Q (.bl (!(!(Builtin.Str.occurrences j i 0 j.length 1).isEmpty))) H) (cU true):=⟨ky,vR⟩
def Fp:V->Option Int->Option Int->Hp->VK->Prop:=fun x lo hi H Q=>∃z,x=.str z/\z.length<=sizeLine/\Q (.str (Txt.slice z lo hi)) H
theorem mx {v:Value} {o:Option Int} (h:IsPart v o):∃p:Option (Int×Tok),v=partValue p/\p.map (·.1)=o:=by
 cases h with
 | none=>exact ⟨none,rfl,rfl⟩
 | int i t=>exact ⟨some (i,t),rfl,rfl⟩
theorem Bk {X:Cx}:H0 X Fp:=by
 intro pins s σ H x v vl vu lo hi sl Q I rx hs pl pu h;obtain ⟨z,rfl,hz,q⟩:=h;obtain ⟨t,rfl⟩:=rx;obtain ⟨l,rfl,rfl⟩:=mx pl;obtain ⟨u,rfl,rfl⟩:=mx pu;refine ⟨"str",_,F.slot_str_getitem.lookup,typeIs_str _ _ _,wpAny_getItem_str_slice (l:=l) (u:=u) (st:=none) hs rfl ?_⟩
 exact post_val_or_str ⟨Nat.le_trans (Txt.slice_le z _ _) hz,fun t' k=>⟨.str (Txt.slice z (l.map (·.1)) (u.map (·.1))),H,I.tok _,⟨_,rfl⟩,q⟩⟩
def dO:L8->L8->Option L8
 | .str z,.int k=>if z.length<=sizeLine then some (.str (Txt.slice z none (some k))) else none
 | _,_=>none
theorem vT {K:Fg}:GOp K (fun x y H Q=>∃i,y=.int i/\Fp x none (some i) H Q) dO:=by
 intro x y H Q a b d ra rb e k
 cases ra<;>cases rb<;>simp only [dO] at e<;>try cases e
 rename_i z i;by_cases c:z.length<=sizeLine
 ·rw [if_pos c] at e
  cases e;exact ⟨i,rfl,z,rfl,c,k _ (.str _)⟩
 ·rw [if_neg c] at e
  cases e
def Ic (x:Str):It where
 go:=fun i _=>i<x.cps.size
 yld:=fun i H v H'=>H'=H/\∃c,x.cps[i]?=some c/\v=.str ⟨#[c]⟩
 stop:=fun i _=>x.cps.size<=i
theorem qS {P:Program} {w:World} {K:Fg} {tg:Expr} (it:Addr) (x:Str) (t:Tok):wH P w K tg (Ic x) [it] it (fun i h=>h.IsStrIter it "str_ascii_iterator" x t i) where
 mem:=by simp
 obj:=fun i h st b hb=>by
  have e:b=it:=by simpa using hb
  subst e;obtain ⟨o,ho,hc,hd⟩:=st;exact ⟨o,ho,fun v z=>by rw [hd] at z;cases z⟩
 keep:=fun i h h' st k=>let ⟨o,ho,r⟩:=st;⟨o,k it (by simp) o ho,r⟩
 item:=by
  intro X hP hw hK hc i pins s σ H E I hf st hg;subst hP hw hK;obtain ⟨f0,f1,f2,f3,f4,f5⟩:=hf it (by simp)
  have W:=Walks.strAscii (prog:=X.prog) (w:=X.w) (I.ok.hd hc) it x t
  refine W.item i s _ _ hg st fun v h' tk hv st' kk=>?_
  obtain ⟨c,u,hx,rfl⟩:=hv;have I1:Inv X pins σ H { s with heap:=h',toks:=tk }:=I.turned (fun b o hb e=>kk b o (by simpa using hb) e) f0 f1 f3 f4 f5
  obtain ⟨o,ho,oc,od⟩:=id st'
  exact ⟨_,rfl,qj (s:={ s with heap:=h',toks:=tk }) (n := "str_ascii_iterator") ho oc od (by decide) ⟨.str ⟨#[c]⟩,H,I1,⟨u,rfl⟩,⟨rfl,c,hx,rfl⟩,st',fun b hb=>(hf b hb).1⟩⟩
 done:=by
  intro X hP hw hK hc i pins s σ H E I hf st hg;subst hP hw hK;obtain ⟨f0,f1,f2,f3,f4,f5⟩:=hf it (by simp)
  exact wpAny_pyNext_ascii_end (I.ok.hd hc) st (by have:x.cps.size<=i:=hg;simp;omega) fun h' eb=>⟨rfl,I.turned (t':=s.toks) (fun b o hb e=>eb b o hb e) f0 f1 f3 f4 f5⟩
 self:=fun _ _ _ _ _ st h=>wpAny_pyIter_striter_ascii st h
def vM (x:Str):TI:=fun σ H R=>R (Ic x) H
theorem xX {X:Cx} {tg:Expr} {x:Str} {j:Nat} {pos:Pos} (ha:x.cps.all (·<128)=true):PI X tg (.Constant (.str x) j pos) (vM x):=by
 intro pins s σ H R I h;refine Calls.Constant_str ?_
 refine wpAny_pyIter_ascii ha ?_
 have I1:=I.tok (s.toks+1)
 refine ⟨s.heap.objs.size,[s.heap.objs.size],_,_,H,rfl,I1.kept (t':=s.toks+1) fun b o e=>L6 _ e,qS _ x _,⟨_,Heap.get?_push_size _ rfl,rfl,rfl⟩,fun b hb=>?_,h⟩
 have e:b=s.heap.objs.size:=by simpa using hb
 subst e;exact I1.fpOk (L7 _) (I1.hok.fresh (L7 _))
def Af (x:Str):List V:=x.cps.toList.map fun c=>.str ⟨#[c]⟩
def Gk (x:Str):List L8:=x.cps.toList.map fun c=>.str ⟨#[c]⟩
theorem yp {x:Str}:wL (Ic x) (fun _=>True) (Af x):=by
 refine ⟨fun i H v _ hv=>?_,fun H _=>?_⟩
 ·unfold Af at hv
  rw [getElem?_map,Array.getElem?_toList] at hv
  cases e:x.cps[i]? with
  | none=>rw [e] at hv;cases hv
  | some c=>
   rw [e] at hv
   cases hv;refine ⟨(Array.getElem?_eq_some_iff.mp e).1,fun y H' ⟨h1,c',h2,h3⟩=>⟨h1,?_⟩⟩
   rw [e] at h2
   cases h2;exact h3
 ·show x.cps.size<=(Af x).length
  unfold Af;rw [length_map,Array.length_toList];exact L7 _
theorem xE {K:Fg} {H:Hp} {x:Str}:Reps K H (Af x) (Gk x):=by
 refine ⟨by simp [Af,Gk],fun i v d h1 h2=>?_⟩
 unfold Af at h1;unfold Gk at h2;rw [getElem?_map] at h1 h2
 cases e:x.cps.toList[i]? with
 | none=>rw [e] at h1;cases h1
 | some c=>
  rw [e] at h1 h2
  cases h1
  cases h2;exact .str _
def iG (x:Str):FI:=fun Γ=>.ok ⟨Gk x,true⟩ Γ
theorem uT {K:Fg} {W:XW} {σ:St} {H:Hp} {R:It->Hp->Prop} {x:Str} (h:tI K W (iG x) σ H R):vM x σ H R:=by
 obtain ⟨He,O,Fs,Γ,E,h⟩:=h;exact h (Ic x) H Fs (Af x) (fun _=>True) (Same.refl _) E (fun a ha=>.inl ha) yp trivial (fun _ _=>trivial) (fun _ _ _=>trivial) xE
def pU:V->List V->Hp->VK->Prop:=fun x xs H Q=>∃(i j:Str) (k:Nat) (rest:List Nat),x=.str i/\xs=[.str j]/\Builtin.Str.occurrences i j 0 i.length 1=k::rest/\Q (.int k) H
theorem rO {X:Cx}:GD X "str.index" pU:=by
 intro pins s σ H x xs v us Q I rx rv h;obtain ⟨i,j,k,rest,rfl,rfl,ho,q⟩:=h;obtain ⟨t,rfl⟩:=rx;obtain ⟨u,rfl,ru⟩:=rv.one;obtain ⟨t',rfl⟩:=ru;exact SC.index ho ⟨.int k,H,I.tok _,⟨_,rfl⟩,q⟩
def fV (x:Str):List L8->Option L8
 | [.str j]=>match Builtin.Str.occurrences x j 0 x.length 1 with
  | k::_=>some (.int k)
  | []=>none
 | _=>none
theorem yC {K:Fg} {x:Str}:GCall K (fun xs H Q=>pU (.str x) xs H Q) (fV x):=by
 intro vs H Q ds d rs e k;unfold fV at e;split at e
 ·rename_i j
  obtain ⟨v,rfl,r⟩:=rs.one
  cases r;split at e
  ·rename_i k' rest ho
   cases e;exact ⟨x,j,k',rest,rfl,rfl,ho,k _ (.int _)⟩
  ·cases e
 ·cases e
theorem xK {K:Fg} {W:XW} {σ:St} {H:Hp} {Q:VK} {x:Str} {fl:FL} (h:tE K W (aS (fV x) fl) σ H Q):zF K "str" pU (tC (.str x)) (tA K W fl) σ H Q:=
 ⟨rfl,pQ yC h⟩
theorem ce_idxS {X:Cx} {W:XW} {x:Str} {j:Nat} {p apos cpos:Pos} {e:Expr} {fe:F1} (ha:PE X e (tE X.K W fe)) (hs:starEach [e] X.env=[(false,eval e X.env)]) (hline:(apos.endLine==cpos.line)=true) :
  PE X (.Call (.Attribute (.Constant (.str x) j p) "index" apos) [e] [] cpos) (tE X.K W (aS (fV x) (ae fe ag))):=
 aY (iq (T := "str") (r:=pU) F.plainAttrs_str F.slot_str_index F.type_str_index rO vc (da_cons ha da_nil hs) rfl (by rw [hs];rfl) hline hs rfl) fun _ _ _=>xK
end T
namespace TQ
open PySem PySem.Spec L2 T
open PyProof.Rows hiding St
theorem qN {X:Cx} {W:XW} {tg:Expr} {x:Str} {j:Nat} {pos:Pos} (ha:x.cps.all (·<128)=true):Q (PI X tg (.Constant (.str x) j pos) (tI X.K W (iG x))):=⟨nF (xX ha) fun _ _ _=>uT⟩
theorem qQ {X:Cx} {W:XW} {x:Str} {j:Nat} {p apos cpos:Pos} {e:Expr} {fe:F1} (ha:Q (PE X e (tE X.K W fe))) (hs:starEach [e] X.env=[(false,eval e X.env)]) (hline:(apos.endLine==cpos.line)=true) :
  Q (PE X (.Call (.Attribute (.Constant (.str x) j p) "index" apos) [e] [] cpos) (tE X.K W (aS (fV x) (ae fe ag)))):=⟨T.ce_idxS ha.p hs hline⟩
theorem Jb {X:Cx} {W:XW} {a b:Expr} {fa fb:F1} {p2 pos:Pos} (ha:Q (PE X a (tE X.K W fa))) (hb:Q (PE X b (tE X.K W fb))):Q (PE X (.Subscript a (.Slice none (some b) none p2) pos) (tE X.K W (ay dO fa fb))):=⟨have ha:=ha.p;have hb:=hb.p;aY (Hq Bk ha G4 (G5 hb)) fun _ _ _ h=>fO vT h⟩
end TQ
namespace T
open PySem PySem.Spec L2
open PyProof.Rows hiding St
def putN:List Nat->List PV->Ev->Option Ev
 | [],[],Γ=>some Γ
 | i::is,p::ps,Γ=>if decide (i<Γ.length)&&!p.s.isView then putN is ps (Γ.set i (some p)) else none
 | _,_,_=>none
def Bo:List Nat->List V->St->St
 | i::is,v::vs,σ=>Bo is vs (σ.set i (some v))
 | _,_,σ=>σ
def K8:List Sh->List L8->List PV
 | s::ss,d::ds=>⟨s,d⟩::K8 ss ds
 | _,_=>[]
def Jz (p:PV):Option (List PV):=match p.s,p.d with
 | .tup ss,.tuple ds=>some (K8 ss ds)
 | .leaf,.tuple ds=>some (ds.map fun d=>⟨.leaf,d⟩)
 | _,_=>none
def Fc (is:List Nat) (f:F1):FS:=gS f fun p Γ=>match Jz p with
 | some ps=>if ps.length=is.length then (match putN is ps Γ with
  | some Γ'=>.nx Γ'
  | none=>.no) else .no
 | none=>.no
section
variable {K:Fg} {W:XW} {σ:St} {H:Hp} {D:dI} {fa:F1}
theorem mr {He:Hp} {O:List Addr}:∀{is:List Nat} {ps:List PV} {vs:List V} {Gs:List (List Addr)} {Fs:List (List Addr)} {σ:St} {Γ Γ':Ev},vs.length=ps.length->Gs.length=ps.length->EnvOk K He (Gs.flatten++O) Fs H σ Γ->(∀a∈Gs.flatten,He a=none) ->
  (∀(k:Nat) v p G,vs[k]?=some v->ps[k]?=some p->Gs[k]?=some G->Own K (Gs.flatten++O++Fs.flatten) H p.s G v p.d)->putN is ps Γ=some Γ'->∃Fs',EnvOk K He O Fs' H (Bo is vs σ) Γ'
 | [],[],[],[],Fs,σ,Γ,Γ',_,_,E,_,_,h=>by
  cases h;exact ⟨Fs,by simpa [Bo] using E⟩
 | i::is,p::ps,v::vs,G::Gs,Fs,σ,Γ,Γ',h1,h2,E,fr,o,h=>by
  unfold putN at h;split at h
  ·rename_i hc
   simp only [Bool.and_eq_true,decide_eq_true_eq,Bool.not_eq_true'] at hc
   obtain ⟨hi,n1⟩:=hc;have fl:(G::Gs).flatten++O=G++(Gs.flatten++O):=by simp [append_assoc]
   rw [fl] at E o
   have E1:=EnvOk.put (i:=i) E (o 0 v p G rfl rfl rfl) n1 (fun a ha=>fr a (by simp [ha])) hi
   refine mr (is:=is) (ps:=ps) (vs:=vs) (Gs:=Gs) (by simpa using h1) (by simpa using h2) E1 (fun a ha=>fr a (LP G ha)) (fun k v' p' G' a1 a2 a3=>?_) h
   refine (o (k+1) v' p' G' (by simpa using a1) (by simpa using a2) (by simpa using a3)).perm fun a ha=>?_
   rcases LR ha with z | z
   ·exact LQ _ (LP _ z)
   ·obtain ⟨F,hF⟩:=E.lt hi
    rcases LR ((pf (G:=G) hF).mem_iff.mp (LP _ z)) with y | y
    ·exact LQ _ (LQ _ y)
    ·exact LP _ y
  ·cases h
 | [],_::_,_,_,_,_,_,_,_,_,_,_,_,h=>by cases h
 | _::_,[],_,_,_,_,_,_,_,_,_,_,_,h=>by cases h
 | [],[],_::_,_,_,_,_,_,h,_,_,_,_,_=>by simp at h
 | [],[],[],_::_,_,_,_,_,_,h,_,_,_,_=>by simp at h
 | _::_,_::_,[],_,_,_,_,_,h,_,_,_,_,_=>by simp at h
 | _::_,_::_,_::_,[],_,_,_,_,_,h,_,_,_,_=>by simp at h
end
end T
namespace TQ
open PySem PySem.Spec L2 T
open PyProof.Rows hiding St
variable {X:Cx} {N gl:List Str} {vs cs ls lo gs:List Nat} {W:XW} {a:Expr} {pos:Pos} {fa:F1}
end TQ
namespace T
open PySem PySem.Spec L2
open PyProof.Rows hiding St
def cutD (xs:List L8) (lo hi:Option Int):List L8:=(xs.drop (HT.sIx xs.length 0 lo)).take (HT.sIx xs.length xs.length hi-HT.sIx xs.length 0 lo)
theorem Reps.take {K:Fg} {H:Hp} {vs:List V} {ds:List L8} (k:Nat) (h:Reps K H vs ds):Reps K H (vs.take k) (ds.take k):=by
 refine ⟨by rw [length_take,length_take,h.1],fun i v d e1 e2=>?_⟩
 by_cases hi:i<k
 ·rw [List.getElem?_take,if_pos hi] at e1 e2
  exact h.2 _ v d e1 e2
 ·rw [List.getElem?_take,if_neg hi] at e1
  cases e1
theorem Reps.cut {K:Fg} {H:Hp} {vs:List V} {ds:List L8} (lo hi:Option Int) (h:Reps K H vs ds):Reps K H (ju vs lo hi) (cutD ds lo hi):=by
 unfold ju cutD;rw [h.1];exact (h.drop _).take _
def du (g:Int->Option Int×Option Int) (fa fb:F1):F1:=aX fa fun p=>aX fb fun q=>fun Γ=>match p.d,q.d with
 | .list xs,.int k=>if dA p xs then .ok ⟨.lst .leaf,.list (cutD xs (g k).1 (g k).2)⟩ Γ else .no
 | _,_=>.no
section
variable {K:Fg} {W:XW} {σ:St} {H:Hp} {Q:VK} {fa fb:F1}
theorem uN {g:Int->Option Int×Option Int} (h:tE K W (du g fa fb) σ H Q):tE K W fa σ H fun v H1=>tE K W fb σ H1 fun u H2=>∃k,u=.int k/\BU K v (g k).1 (g k).2 H2 Q:=by
 refine Ay (R:=fun v u H2=>∃k,u=.int k/\BU K v (g k).1 (g k).2 H2 Q) h fun He O Fs Γ2 p q v u H1 H2 G1 G2 Fs2 nd s1 s2 E new o1 o2 w=>?_
 obtain ⟨s,d⟩:=p;obtain ⟨s',d'⟩:=q;dsimp only at w o1 o2
 split at w
 ·rename_i xs k
  cases hc:dA ⟨s,.list xs⟩ xs with
  | false=>rw [hc] at w;exact w.elim
  | true=>
   rw [hc] at w;obtain ⟨d1,d2⟩:=Dr E.nd;obtain ⟨p1,vs,rfl,q1,_,r1⟩:=o1.items (O':=O++Fs2.flatten) hc xv d1
   have ru:=o2.rep
   cases ru;exact ⟨k,rfl,p1,vs,rfl,q1,fun p' hp'=>w _ _ _ _ (Hn (E.drop (fun a ha=>LP _ (LP _ ha)) nd) (s1.trans s2) (fun a ha=>new a (LP _ (LP _ ha))) (r1.cut _ _) hp')⟩
 ·exact w.elim
end
end T
namespace TQ
open PySem PySem.Spec L2 T
open PyProof.Rows hiding St
variable {X:Cx} {W:XW} {a b:Expr} {fa fb:F1} {p2 pos:Pos}
theorem jB (ha:Q (PE X a (tE X.K W fa))) (hb:Q (PE X b (tE X.K W fb))):Q (PE X (.Subscript a (.Slice none (some b) none p2) pos) (tE X.K W (du (fun k=>(none,some k)) fa fb))):=⟨have ha:=ha.p;have hb:=hb.p;aY (Hq pH ha G4 (G5 hb)) fun _ _ _=>uN⟩
theorem gE (ha:Q (PE X a (tE X.K W fa))) (hb:Q (PE X b (tE X.K W fb))):Q (PE X (.Subscript a (.Slice (some b) none none p2) pos) (tE X.K W (du (fun k=>(some k,none)) fa fb))):=⟨have ha:=ha.p;have hb:=hb.p;aY (Hq pH ha (G5 hb) G4) fun _ _ _=>uN⟩
end TQ
namespace T
open PySem PySem.Spec L2
open PyProof.Rows hiding St
def BW (K:Fg):V->List V->Hp->VK->Prop:=fun x xs H Q=>∃(l:Addr) (ns:List Int) (k:Int) (j:Nat),x=.ref l/\xs=[.int k]/\SqL K H l (ns.map V.int)/\ns[j]?=some k/\(∀m,m<j->ns[m]?≠some k)/\Q (.int j) H
theorem qh:∀{us:List Value} {ns:List Int} {m:Nat} {u:Value} {k:Int},IntsAre us ns->us[m]?=some u->isInt k u=true->ns[m]?=some k
 | _,_,_,_,_,.nil,h,_=>by simp at h
 | _,_,0,_,_,.cons n t r,h,e=>by
  simp at h
  subst h;simp [isInt] at e
  simp [e]
 | _,_,m+1,_,_,.cons n t r,h,e=>by
  simp only [getElem?_cons_succ] at h ⊢
  exact qh r h e
theorem mT:∀{us:List Value} {ns:List Int} {m:Nat} {u:Value} {k:Int},IntsAre us ns->us[m]?=some u->ns[m]?=some k->isInt k u=true
 | _,_,_,_,_,.nil,h,_=>by simp at h
 | _,_,0,_,_,.cons n t r,h,e=>by
  simp at h e
  subst h e;simp [isInt]
 | _,_,m+1,_,_,.cons n t r,h,e=>by
  simp only [getElem?_cons_succ] at h e
  exact mT r h e
theorem rP {X:Cx}:GD X "list.index" (BW X.K):=by
 intro pins s σ H x xs v us Q I rx rv h;obtain ⟨l,ns,k,j,rfl,rfl,hS,hj,hno,q⟩:=h
 cases rx;obtain ⟨u,rfl,ru⟩:=rv.one;obtain ⟨t,rfl⟩:=ru;obtain ⟨its,r,pl,hz⟩:=I.list hS;have hI:=qg r
 have hl:its.length=ns.length:=by rw [<-r.length,length_map]
 have hjl:j<its.toArray.size:=by rw [size_toArray,hl];exact (L0 hj).1
 obtain ⟨o,n,ho,hc,hd,hdt⟩:=pl;obtain ⟨ocls,odict,odata,oslots⟩:=o;simp only at hc hd hdt
 subst hc hd hdt;have hsm:(j:Int)<2 ^ 63-1:=by
  rw [length_map] at hz;have h1:sizeLine<2 ^ 62:=by decide
  have:=(L0 hj).1
  omega
 refine call_meets F.slot_list_index ⟨_,ho,rfl⟩ F.entry_list_index (F.args_list_index_2 _ _) (SeqAt.list_indexAt l its.toArray n none oslots (.int k t) (isInt k) j hjl hsm ?_ fun m hm hmj=>?_) ⟨ho,fun y hy=>?_,⟨.int j,H,I.tok _,⟨_,rfl⟩,q⟩⟩
 ·exact mT hI (m:=j) (u:=its.toArray[j]) (by simp at hjl ⊢) hj
 ·cases e:isInt k its.toArray[m] with
  | false=>rfl
  | true=>exact absurd (qh hI (m:=m) (u:=its.toArray[m]) (by simp at hm ⊢) e) (hno m hmj)
 ·exact (eq_isInt k t hI y (by simpa using hy)).at _ _
def mS:Option (Option PV)->Bool
 | some (some ⟨.leaf,.list _⟩)=>true
 | _=>false
theorem vC {o:Option (Option PV)} (h:mS o=true):∃ds,o=some (L9 (.list ds)):=by
 unfold mS at h;split at h
 ·exact ⟨_,rfl⟩
 ·cases h
def tw (k:Int):List Int->Option Nat
 | []=>none
 | n::r=>if n=k then some 0 else (tw k r).map (·+1)
theorem vw {k:Int}:∀{ns:List Int} {j:Nat},tw k ns=some j->ns[j]?=some k/\∀m,m<j->ns[m]?≠some k
 | [],_,h=>by cases h
 | n::r,j,h=>by
  unfold tw at h;by_cases e:n=k
  ·rw [if_pos e] at h
   cases h;exact ⟨by simp [e],fun m hm=>by omega⟩
  ·rw [if_neg e] at h
   cases hr:tw k r with
   | none=>rw [hr] at h;cases h
   | some j'=>
    rw [hr] at h
    cases h;obtain ⟨h1,h2⟩:=vw hr;refine ⟨by simpa using h1,fun m hm=>?_⟩
    cases m with
    | zero=>simpa using e
    | succ m=>simpa using h2 m (by have:m+1<j'+1:=hm;omega)
def yo (i:Nat) (q:PV):Ev->Out PV:=fun Γ=>match Γ[i]?,q.d with
 | some (some ⟨.leaf,.list ds⟩),.int k=>(match xa ds with
  | some ns=>(match tw k ns with
   | some j=>.ok ⟨.leaf,.int (j:Nat)⟩ Γ
   | none=>.no)
  | none=>.no)
 | _,_=>.no
def oM (i:Nat) (fb:F1):F1:=fun Γ=>if mS Γ[i]? then (fb Γ).bind (yo i) else .no
section
variable {K:Fg} {W:XW} {σ:St} {H:Hp} {Q:VK} {fb:F1}
theorem G0 {He:Hp} {O:List Addr} {Fs:List (List Addr)} {Γ:Ev} {i:Nat} {ds:List L8} (E:EnvOk K He O Fs H σ Γ) (h:Γ[i]?=some (L9 (.list ds))):∃l vs,σ[i]?=some (some (.ref l))/\SqL K H l vs/\Reps K H vs ds:=by
 obtain ⟨_,v,F,h1,_,o⟩:=E.slot i _ h;have r:=o.rep
 cases r with
 | @lst a vs _ hq hl hr=>exact ⟨a,vs,h1,hq,hl,hr⟩
theorem BA {i:Nat} (h:tE K W (oM i fb) σ H Q):zF K "list" (BW K) (fA i) (tA K W (ae fb ag)) σ H Q:=by
 obtain ⟨He,O,Fs,Γ,E,h⟩:=h;unfold oM at h
 cases ho:mS Γ[i]? with
 | false=>rw [ho] at h;exact h.elim
 | true=>
  rw [ho] at h;obtain ⟨ds,e0⟩:=vC ho;obtain ⟨l,vs,h1,h2,h3⟩:=G0 E e0;refine ⟨.ref l,h1,.inl ⟨rfl,vs,h2⟩,GV ?_⟩
  refine xf (k:=yo i) ⟨He,O,Fs,Γ,E,h⟩ fun He O Fs Γ1 q u H1 G Fs1 nd A w=>?_
  unfold yo at w;split at w
  ·rename_i ds1 k e1 e2
   obtain ⟨l1,vs1,q1,q2,q3⟩:=G0 A.go e1;rw [h1] at q1
   cases q1;have r:=A.own.rep
   rw [e2] at r
   cases r
   cases hi:xa ds1 with
   | none=>rw [hi] at w;exact w.elim
   | some ns=>
    rw [hi] at w;dsimp only at w
    cases hj:tw k ns with
    | none=>rw [hj] at w;exact w.elim
    | some j=>
     rw [hj] at w;rw [jU hi] at q3;have ev:=qZ q3
     subst ev;obtain ⟨a1,a2⟩:=vw hj;exact ⟨l,ns,k,j,rfl,rfl,q2,a1,a2,w _ _ _ _ (Im A.go A.same A.newF (.int _))⟩
  ·exact w.elim
end
section
variable {X:Cx} {N gl:List Str} {vs cs ls lo gs:List Nat} {W:XW} {e:Expr} {fe:F1} {p:Pos}
theorem ce_ixN (S:Cp X N gl vs cs ls lo gs) (i:Nat) {x:Str} {apos cpos:Pos} (hi:N[i]?=some x) (hv:vs.contains i=true) (ha:PE X e (tE X.K W fe)) (hbase:attributeBase (.Name x p) "index" X.env (eval (.Name x p) X.env)=eval (.Name x p) X.env) (hs:starEach [e] X.env=[(false,eval e X.env)]) (hline:(apos.endLine==cpos.line)=true) :
  PE X (.Call (.Attribute (.Name x p) "index" apos) [e] [] cpos) (tE X.K W (oM i fe)):=by
 have m:=S.nm x (mem_of_getElem? hi)
 exact aY (iq (T := "list") (r:=BW X.K) F.plainAttrs_list F.slot_list_index F.type_list_index rP (qH (by rw [S.hN];exact hi) (S.vis i x hi hv) m.1 m.2) (da_cons ha da_nil hs) hbase (by rw [hs];rfl) hline hs rfl) fun _ _ _=>BA
end
end T
namespace TQ
open PySem PySem.Spec L2 T
open PyProof.Rows hiding St
variable {X:Cx} {N gl:List Str} {vs cs ls lo gs:List Nat} {W:XW} {e a:Expr} {fe fa:F1} {p pos:Pos}
theorem ue (S:Cp X N gl vs cs ls lo gs) (i:Nat) {x:Str} {apos cpos:Pos} (hi:N[i]?=some x) (hv:vs.contains i=true) (ha:Q (PE X e (tE X.K W fe))) (hbase:attributeBase (.Name x p) "index" X.env (eval (.Name x p) X.env)=eval (.Name x p) X.env) (hs:starEach [e] X.env=[(false,eval e X.env)]) (hline:(apos.endLine==cpos.line)=true) :
  Q (PE X (.Call (.Attribute (.Name x p) "index" apos) [e] [] cpos) (tE X.K W (oM i fe))):=⟨T.ce_ixN S i hi hv ha.p hbase hs hline⟩
variable {X:Cx} {N gl:List Str} {vs cs ls lo gs:List Nat} {W:XW} {a:Expr} {pos p:Pos} {fa:F1}
variable {X:Cx} {N gl:List Str} {vs cs ls lo gs:List Nat} {W:XW} {a:Expr} {pos p:Pos} {fa:F1}
end TQ
namespace T
open PySem PySem.Spec L2
open PyProof.Rows hiding St
theorem AF:(1000:Nat)<=sizeLine:=by decide
theorem Jj {i:Nat} {fc:FB} {fe:F1} {s:Sh} {c:D->Bool} {f:D->PV} {Γ:Ev} (hΓ:Γ.set i none=Γ):∀(r acc:List D),(∀d∈r,fc (Γ.set i (L9 d))=.ok (c d) (Γ.set i (L9 d))) ->
  (∀d∈r,c d=true->fe (Γ.set i (L9 d))=.ok (f d) (Γ.set i (L9 d))/\coer s (f d)=true)->acc.length+r.length<=sizeLine->qF i fc fe s r Γ acc=.ok (acc++((r.filter c).map fun d=>(f d).d)) Γ
 | [],acc,_,_,_=>by simp [qF]
 | d::r,acc,hc,he,hl=>by
  have h1:=hc d mem_cons_self
  have hl1:acc.length<sizeLine:=by simp at hl;omega
  have back:(Γ.set i (L9 d)).set i none=Γ:=by rw [set_set];exact hΓ
  rw [qF,h1]
  cases hcd:c d with
  | false=>
   dsimp only;rw [if_pos hl1,back,Jj hΓ r acc (fun d hd=>hc d (LX _ hd)) (fun d hd=>he d (LX _ hd)) (by simp at hl;omega)]
   rw [List.filter_cons_of_neg (by rw [hcd];exact Bool.false_ne_true)]
  | true=>
   obtain ⟨h2,h3⟩:=he d mem_cons_self hcd;dsimp only;rw [h2];dsimp only;rw [h3,decide_eq_true hl1,Bool.and_self,if_pos rfl,back,Jj hΓ r (acc++[(f d).d]) (fun d hd=>hc d (LX _ hd)) (fun d hd=>he d (LX _ hd)) (by simp at hl ⊢;omega)]
   rw [List.filter_cons_of_pos hcd,map_cons,append_assoc];rfl
theorem iH {s:Sh} {i:Nat} {fi:FI} {fc:FB} {fe:F1} {c:D->Bool} {f:D->PV} {ds:List D} {st:Bool} {Γ:Ev} (hi:fi Γ=.ok ⟨ds,st⟩ Γ) (hl:i<Γ.length) (hs:s.isView=false) (hn:ds.length<=1000)
  (hc:∀d∈ds,fc (Γ.set i (L9 d))=.ok (c d) (Γ.set i (L9 d))) (he:∀d∈ds,c d=true->fe (Γ.set i (L9 d))=.ok (f d) (Γ.set i (L9 d))/\coer s (f d)=true) :
  aA s i fi fc fe Γ=.ok ⟨.lst s,.list ((ds.filter c).map fun d=>(f d).d)⟩ Γ:=by
 have hb:=AF
 unfold aA;rw [hi];unfold Out.bind;dsimp only;rw [Jj (c:=c) (f:=f) (by rw [set_set]) ds [] (fun d hd=>by rw [set_set];exact hc d hd) (fun d hd=>by rw [set_set];exact he d hd) (by simp;omega)]
 dsimp only;rw [hs,decide_eq_true hl];simp only [Bool.not_false,Bool.and_self,if_true,nil_append,set_set]
 have:Γ.set i (Γ.getD i none)=Γ:=by
  apply AH
  rw [LW,LV hl];rfl
 rw [this]
theorem DU {s:Sh} {i:Nat} {fi:FI} {fe:F1} {f:D->PV} {ds:List D} {st:Bool} {Γ:Ev} (hi:fi Γ=.ok ⟨ds,st⟩ Γ) (hl:i<Γ.length) (hs:s.isView=false) (hn:ds.length<=1000)
  (he:∀d∈ds,fe (Γ.set i (L9 d))=.ok (f d) (Γ.set i (L9 d))/\coer s (f d)=true) :
  aA s i fi aN fe Γ=.ok ⟨.lst s,.list (ds.map fun d=>(f d).d)⟩ Γ:=by
 rw [iH (fc:=aN) (c:=fun _=>true) (f:=f) hi hl hs hn (fun d hd=>rfl) fun d hd _=>he d hd,List.filter_eq_self.mpr fun _ _=>rfl]
theorem IL {P:Nat->Ev->Prop} {i:Nat} {body:FS}:∀(ds:List D) (n:Nat) (Γ:Ev),P n Γ->(∀k d Γ,d∈ds->n<=k->k<n+ds.length->P k Γ->i<Γ.length/\∃Γ',body (Γ.set i (L9 d))=.nx Γ'/\P (k+1) Γ')->∃Γ',di i body ds Γ=.nx Γ'/\P (n+ds.length) Γ'
 | [],n,Γ,h,_=>⟨Γ,rfl,h⟩
 | d::r,n,Γ,h,st=>by
  obtain ⟨hi,Γ1,e1,h1⟩:=st n d Γ mem_cons_self (L7 _) (by simp) h
  obtain ⟨Γ2,e2,h2⟩:=IL r (n+1) Γ1 h1 fun k d Γ hd a b c=>st k d Γ (LX _ hd) (by omega) (by simp;omega) c
  refine ⟨Γ2,?_,?_⟩
  ·rw [di,if_pos hi,e1]
   exact e2
  ·rw [length_cons,show n+(r.length+1)=n+1+r.length by omega]
   exact h2
theorem IM {any:Bool} {α:Type} {xs:List α} {f:α->Bool}:nL (xs.map fun x=>.bool (f x))=some (xs.map f):=by
 induction xs with
 | nil=>rfl
 | cons x r ih=>rw [map_cons,nL,ih];rfl
theorem tL {α:Type} {xs:List α} {f:α->Bool}:bL false [.list (xs.map fun x=>.bool (f x))]=some (.bool (xs.all f)):=by
 show Option.map _ (nL _)=_
 rw [IM (any:=false)];simp [all_map]
section
variable {Γ Γ1 Γ2:Ev} {fa fb fc:F1} {fl:FL} {p q:PV} {ps:List PV} {d e:D} {s s' s2:Sh} {i j n:Nat}
theorem aB (h:Γ[i]?=some (L9 d)):af i Γ=.ok ⟨.leaf,d⟩ Γ:=by unfold af;rw [h]
theorem pv (h:Γ[i]?=some (some ⟨.lst s,d⟩)):af i Γ=.ok ⟨.view,d⟩ Γ:=by unfold af;rw [h]
theorem Az (h:Γ[i]?=some (some p)):bR i Γ=.ok p (Γ.set i none):=by unfold bR;rw [h]
theorem aQ:eK d Γ=.ok ⟨.leaf,d⟩ Γ:=rfl
theorem aJ {g:D->D->Option D} (ha:fa Γ=.ok p Γ1) (hb:fb Γ1=.ok q Γ2) (hg:g p.d q.d=some d):ay g fa fb Γ=.ok ⟨.leaf,d⟩ Γ2:=by
 unfold ay aX;rw [ha];simp only [Out.bind];rw [hb];simp only [hg]
theorem EM {g:D->Option D} (ha:fa Γ=.ok p Γ1) (hg:g p.d=some d):eU g fa Γ=.ok ⟨.leaf,d⟩ Γ1:=by
 unfold eU aX;rw [ha];simp only [Out.bind,hg]
theorem aD (ha:fa Γ=.ok p Γ1) (hl:fl Γ1=.ok ps Γ2):ae fa fl Γ=.ok (p::ps) Γ2:=by
 unfold ae;rw [ha];simp only [Out.bind];rw [hl]
theorem aq:ag Γ=.ok [] Γ:=rfl
theorem bS {g:List D->Option D} (hl:fl Γ=.ok ps Γ1) (hg:g (ps.map (·.d))=some d):aS g fl Γ=.ok ⟨.leaf,d⟩ Γ1:=by
 unfold aS;rw [hl];simp only [Out.bind];rw [hg]
theorem bV {den:List D->Res} (hl:fl Γ=.ok ps Γ1) (hd:den (ps.map (·.d))=.ok p) (hn:ps.length=n) (hc:ps.all (coer .leaf)=true):aj n den fl Γ=.ok p Γ1:=by
 unfold aj;rw [hl];simp only [Out.bind,hn,hd,hc,if_true]
theorem sY {ds:List D} {k:Int} (ha:fa Γ=.ok ⟨s,.list ds⟩ Γ1) (hb:fb Γ1=.ok ⟨s',.int k⟩ Γ2) (hi:eF ds.length k=some j) (hd:ds[j]?=some d) (hs:nH s j d=some s2):ai fa fb Γ=.ok ⟨s2,d⟩ Γ2:=by
 unfold ai aX;rw [ha];simp only [Out.bind];rw [hb];simp only [hi,hd,hs]
theorem fJ {ds:List D} {k:Int} (ha:fa Γ=.ok ⟨s,.tuple ds⟩ Γ1) (hb:fb Γ1=.ok ⟨s',.int k⟩ Γ2) (hi:eF ds.length k=some j) (hd:ds[j]?=some d) (hs:nH s j d=some s2):ai fa fb Γ=.ok ⟨s2,d⟩ Γ2:=by
 unfold ai aX;rw [ha];simp only [Out.bind];rw [hb];simp only [hi,hd,hs]
theorem uj {x:Str} {k:Int} {c:Nat} (ha:fa Γ=.ok ⟨s,.str x⟩ Γ1) (hb:fb Γ1=.ok ⟨s',.int k⟩ Γ2) (hn:x.length<=sizeLine) (hi:eY x.cps.toList k=some c):ai fa fb Γ=.ok ⟨.leaf,.str ⟨#[c]⟩⟩ Γ2:=by
 unfold ai aX;rw [ha];simp only [Out.bind];rw [hb];simp only [hi,hn,if_true]
theorem jy (hl:fl Γ=.ok ps Γ1) (hs:s.isView=false) (hc:ps.all (coer s)=true) (hn:decide (ps.length<=1000)=true):aM s fl Γ=.ok ⟨.lst s,.list (ps.map (·.d))⟩ Γ1:=by
 have h2:ps.length<=sizeLine:=Nat.le_trans (of_decide_eq_true hn) AF
 unfold aM;rw [hl];simp only [Out.bind,hs,hc,decide_eq_true h2,Bool.not_false,Bool.and_self,if_true]
theorem cI (hl:fl Γ=.ok ps Γ1) (hc:ps.all tok=true) (hn:decide (ps.length<=1000)=true):bB fl Γ=.ok ⟨.tup (ps.map zx),.tuple (ps.map (·.d))⟩ Γ1:=by
 have h2:ps.length<=sizeLine:=Nat.le_trans (of_decide_eq_true hn) AF
 unfold bB;rw [hl];simp only [Out.bind,hc,decide_eq_true h2,Bool.and_self,if_true]
theorem Ey {ds:List D} (ha:fa Γ=.ok ⟨s,.list ds⟩ Γ1) (ho:dA ⟨s,.list ds⟩ ds=true):hV fa Γ=.ok ⟨.lst .leaf,.list ds⟩ Γ1:=by
 unfold hV aX;rw [ha];simp only [Out.bind,ho,if_true]
theorem v_and {a b:Bool} (ha:fa Γ=.ok ⟨s,.bool a⟩ Γ) (hb:fb Γ=.ok ⟨.leaf,.bool b⟩ Γ):cV fa fb Γ=.ok ⟨.leaf,.bool (a&&b)⟩ Γ:=by
 unfold cV aX;rw [ha];simp only [Out.bind]
 cases a with
 | false=>rfl
 | true=>exact hb
theorem IW {g g':D->D->Option D} {b b':Bool} (ha:fa Γ=.ok p Γ) (hb:fb Γ=.ok q Γ) (hg:g p.d q.d=some (.bool b)) (hs:bz q.d=true) {z:PV} (hc:fc Γ=.ok z Γ) (hg':g' q.d z.d=some (.bool b')):qG g g' fa fb fc Γ=.ok ⟨.leaf,.bool (b&&b')⟩ Γ:=by
 unfold qG aX;rw [ha];simp only [Out.bind];rw [hb];simp only [hg]
 cases b with
 | false=>rfl
 | true=>simp only [hs,if_true,hc,hg',Bool.true_and]
theorem ui {ds:List D} {k:Int} (ha:fa Γ=.ok ⟨.lst .leaf,.list ds⟩ Γ1) (hb:fb Γ1=.ok ⟨s',.int k⟩ Γ2) (h0:-1000<=k) (h1:k<=1000) (hn:ds.length*k.toNat<=1000):fW fa fb Γ=.ok ⟨.lst .leaf,.list (List.replicate k.toNat ds).flatten⟩ Γ2:=by
 have h2:ds.length*k.toNat<=sizeLine:=Nat.le_trans hn AF
 have h3:cn k=true:=by unfold cn;simp only [Bool.and_eq_true,decide_eq_true_eq];omega
 unfold fW aX;rw [ha];simp only [Out.bind];rw [hb];simp only [h3,decide_eq_true h2,Bool.and_self,if_true]
theorem cC (ha:fa Γ=.ok ⟨s,.bool b⟩ Γ1):aL ao fa Γ=.ok b Γ1:=by unfold aL;rw [ha];rfl
theorem eB (ha:fa Γ=.ok ⟨s,.bool b⟩ Γ1):aL bh fa Γ=.ok b Γ1:=by unfold aL;rw [ha];rfl
theorem fY {ga:FB} {b:Bool} (h:ga Γ=.ok b Γ1):bY ga Γ=.ok (!b) Γ1:=by unfold bY;rw [h];rfl
theorem j7 {ga gb:FB} {a b:Bool} (ha:ga Γ=.ok a Γ) (hb:gb Γ=.ok b Γ):cx ga gb Γ=.ok (a&&b) Γ:=by
 unfold cx;rw [ha];simp only [Out.bind]
 cases a with
 | false=>rfl
 | true=>exact hb
theorem jv {ga gb:FB} {a b:Bool} (ha:ga Γ=.ok a Γ) (hb:gb Γ=.ok b Γ):d5 ga gb Γ=.ok (a||b) Γ:=by
 unfold d5;rw [ha];simp only [Out.bind]
 cases a with
 | false=>exact hb
 | true=>rfl
theorem cA {ds:List D} (ha:fa Γ=.ok ⟨s,.list ds⟩ Γ1) (ho:dA ⟨s,.list ds⟩ ds=true):aU fa Γ=.ok ⟨ds,!s.isView⟩ Γ1:=by
 unfold aU;rw [ha];simp only [Out.bind,ho,if_true]
theorem nN {k:Int} (hl:fl Γ=.ok ps Γ1) (hp:ps.map (·.d)=[.int k]) (h0:-1000<=k) (h1:k<=100000):dq fl Γ=.ok ⟨cz 0 k.toNat,true⟩ Γ1:=by
 have h3:cn k=true:=by unfold cn;simp only [Bool.and_eq_true,decide_eq_true_eq];omega
 unfold dq;rw [hl];simp only [Out.bind,hp,i9,h3,if_true]
theorem Js {k m:Int} (hl:fl Γ=.ok ps Γ1) (hp:ps.map (·.d)=[.int k,.int m]) (h0:-1000<=k) (h1:k<=100000) (h2:-1000<=m) (h4:m<=100000):vN fl Γ=.ok ⟨cz k (m-k).toNat,true⟩ Γ1:=by
 have h3:cn k=true:=by unfold cn;simp only [Bool.and_eq_true,decide_eq_true_eq];omega
 have h5:cn m=true:=by unfold cn;simp only [Bool.and_eq_true,decide_eq_true_eq];omega
 unfold vN;rw [hl];simp only [Out.bind,hp,qY,h3,h5,Bool.and_self,if_true]
theorem az {g1 g2:FS} {o:dG} (h1:g1 Γ=.nx Γ1) (h2:g2 Γ1=o):ak g1 g2 Γ=o:=by unfold ak;rw [h1];exact h2
theorem xg {g1 g2:FS} (h1:g1 Γ=.rt p):ak g1 g2 Γ=.rt p:=by unfold ak;rw [h1]
theorem bu {c:FB} {a b:FS} {t:Bool} {o:dG} (hc:c Γ=.ok t Γ1) (ht:t=true->a Γ1=o) (hf:t=false->b Γ1=o):bD c a b Γ=o:=by
 unfold bD;rw [hc]
 cases t with
 | true=>exact ht rfl
 | false=>exact hf rfl
theorem br (h:fa Γ=.ok p Γ1) (hs:p.s.isView=false):aF fa Γ=.rt p:=by
 unfold aF gS;rw [h];simp only [hs];rfl
theorem b6 (h:fa Γ=.ok p Γ1) (hc:coer .leaf p=true) (hi:i<Γ1.length):ax false i fa Γ=.nx (Γ1.set i (L9 p.d)):=by
 unfold ax gS;rw [h];simp only [hi,if_true,hc,Bool.false_and];rfl
theorem tK (h:fa Γ=.ok p Γ1) (hs:p.s.isView=false) (hi:i<Γ1.length):ax true i fa Γ=.nx (Γ1.set i (some p)):=by
 unfold ax gS;rw [h];simp only [hi,if_true,hs,Bool.true_and,Bool.not_false]
theorem Hr {ds:List D} (ho:Γ[i]?=some (some ⟨.lst s,.list ds⟩)) (h:fa Γ=.ok p Γ) (hc:coer s p=true) (hn:ds.length<=900):dS i fa Γ=.nx (Γ.set i (some ⟨.lst s,.list (ds++[p.d])⟩)):=by
 have h2:ds.length<sizeLine:=Nat.lt_of_lt_of_le (by omega:ds.length<1000) AF
 unfold dS DN;rw [ho];simp only [if_true];unfold gS;rw [h];simp only;unfold za;rw [ho];simp only [hc,decide_eq_true h2,Bool.and_self,if_true]
theorem AV {ds:List D} {k:Int} (ho:Γ[i]?=some (some ⟨.lst .leaf,.list ds⟩)) (h:fa Γ=.ok p Γ) (hk:fb Γ=.ok ⟨s,.int k⟩ Γ) (hi:eF ds.length k=some j) (hc:coer .leaf p=true):fN i fa fb Γ=.nx (Γ.set i (some ⟨.lst .leaf,.list (ds.set j p.d)⟩)):=by
 unfold fN zk;rw [ho];simp only [if_true];unfold gS;rw [h];simp only;rw [hk];simp only;unfold Bp;rw [ho];simp only [hi,hc,if_true]
theorem EI {g:FS} {o:dG} (h:Γ[i]?=some (some p)) (hg:g (Γ.set i (L9 p.d))=o):qX i g Γ=o:=by unfold qX;rw [h];exact hg
theorem gD {fi:FI} {body:FS} {ds:List D} {o:dG} (h:fi Γ=.ok ⟨ds,true⟩ Γ1) (hg:di i body ds Γ1=o):cZ i fi body Γ=o:=by unfold cZ;rw [h];exact hg
end
end T
namespace KC
open PySem PySem.Spec L2 T
open PyProof.Rows hiding St
noncomputable def cb:L8:=.tuple [.str "a",.str "b",.str "c",.str "d",.str "e",.str "f"]
noncomputable def cF:L8:=.tuple [.int 0,.int 1]
noncomputable def dY:L8:=.int 24
noncomputable def cS:L8:=.int 200
noncomputable def cT:L8:=.int 24
noncomputable def ck:L8:=.tuple [.str "some until",.str "all until"]
noncomputable def dg:L8:=.tuple [.str "some always",.str "all always"]
noncomputable def bE:L8:=.tuple [.str "some next",.str "some until",.str "all always"]
noncomputable def hX:List (Str×Int):=[("yes",0),("not",1),("some next",1),("all next",1),("some always",1),("all always",1),("and",2),("or",2),("some until",2),("all until",2)]
noncomputable def m9:FS:=(aF (aS (bL false) (ae (aA .leaf 1 (vN (ae (eK (.int 1)) (ae (aS aG (ae (af 0) ag)) ag))) aN (ay gv (ai (af 0) (ay gSub (af 1) (eK (.int 1)))) (ai (af 0) (af 1)))) ag)))
noncomputable def dw:List L8->Res:=aE 2 m9
noncomputable def nk:FS:=(aF (cV (aS (bL false) (ae (aA .leaf 1 (aU (af 0)) aN (ay (bf false) (af 1) (eK cb))) ag)) (aj 1 dw (ae (af 0) ag))))
noncomputable def dz:List L8->Res:=aE 2 nk
noncomputable def nj:FS:=(aF (cV (aS (bL false) (ae (aA .leaf 2 (aU (af 0)) aN (qG w4 gv (eK (.int 0)) (af 2) (af 1))) ag)) (aj 1 dw (ae (af 0) ag))))
noncomputable def eO:List L8->Res:=aE 3 nj
noncomputable def ni:FS:=(aF (cV (ay fI (aS aG (ae (af 0) ag)) (eK (.int 0))) (aj 2 eO (ae (af 0) (ae (af 1) ag)))))
noncomputable def dy:List L8->Res:=aE 2 ni
noncomputable def oV:FS:=(ak (ax false 3 (aS aG (ae (af 0) ag)))
  (ak (bD (d5 (aL ao (ay gv (af 3) (eK (.int 1)))) (d5 (aL ao (ay fI (af 3) (eK dY))) (d5 (aL ao (ay eC (aS aG (ae (af 1) ag)) (af 3))) (aL ao (ay eC (aS aG (ae (af 2) ag)) (af 3)))))) (aF (eK (.bool false))) aH)
  (ak (bD (bY (aL bh (aS (bL false) (ae (aA .leaf 4 (aU (af 0)) aN (ay (bf false) (af 4) (eK cF))) ag)))) (aF (eK (.bool false))) aH)
  (aF (cV (aS (bL false) (ae (aA .leaf 5 (aU (af 1)) aN (aj 1 dz (ae (af 5) ag))) ag)) (aS (bL false) (ae (aA .leaf 5 (aU (af 2)) aN (aj 2 dy (ae (af 5) (ae (af 3) ag)))) ag)))))))
noncomputable def dU:List L8->Res:=aE 6 oV
noncomputable def js:FS:=(bD (bY (aL bh (aj 3 dU (ae (ai (af 0) (eK (.int 0))) (ae (ai (af 0) (eK (.int 1))) (ae (ai (af 0) (eK (.int 2))) ag)))))) zI aH)
noncomputable def bH:List L8->Res:=aE 1 js
noncomputable def dk:FS:=(aF (oN (aL ao (ay bC (ai (af 0) (eK (.int 0))) (eK (.str "mark")))) (bB ag) (yI (af 0) (eK (.int 1)))))
noncomputable def aV:List L8->Res:=aE 1 dk
noncomputable def cL:FS:=(ak (bD (d5 (bY (aL bh (gy "tuple" (af 0)))) (d5 (aL ao (ay bC (aS aG (ae (af 0) ag)) (eK (.int 0)))) (bY (aL bh (gy "str" (ai (af 0) (eK (.int 0)))))))) (aF (eK (.bool false))) aH)
  (ak (bD (aL ao (ay bC (ai (af 0) (eK (.int 0))) (eK (.str "mark")))) (aF (cV (ay bC (aS aG (ae (af 0) ag)) (eK (.int 2))) (ay (bf false) (ai (af 0) (eK (.int 1))) (eK cb)))) aH)
  (aF (cV (wa false hX (ai (af 0) (eK (.int 0)))) (ay bC (aS aG (ae (af 0) ag)) (ay aW (eK (.int 1)) (qp hX (ai (af 0) (eK (.int 0))))))))))
noncomputable def bF:List L8->Res:=aE 1 cL
noncomputable def eX:FS:=(ak (ax true 1 (aM .leaf ag))
  (ak (cZ 2 (aU (af 0))
  (ku 1 (aj 1 aV (ae (af 2) ag))))
  (aF (bR 1))))
noncomputable def cg:List L8->Res:=aE 3 eX
noncomputable def gO:FS:=(ak (ax true 1 (aM .leaf ag))
  (ak (ax false 2 (aM .leaf (ae (af 0) ag)))
  (ak (ax false 3 (eK (.int 0)))
  (ak (wQ 1000 (aL bh (af 2))
  (ak (gJ 3 (aS aG (ae (af 2) ag)))
  (ak (bD (d5 (aL ao (ay fI (af 3) (eK cS))) (d5 (aL ao (ay bC (aS aG (ae (af 1) ag)) (eK cT))) (bY (aL bh (aS (bL false) (ae (aA .leaf 4 (aU (af 2)) aN (aj 1 bF (ae (af 4) ag))) ag)))))) (aF (eK .none)) aH)
  (ak (dS 1 (af 2))
  (ax false 2 (aj 1 cg (ae (af 2) ag)))))))
  (aF (bR 1))))))
noncomputable def eN:List L8->Res:=aE 5 gO
noncomputable def dQ:FS:=(ak (ax false 1 (aj 1 eN (ae (af 0) ag)))
  (ak (bD (aL ao (ay (cN false) (af 1) (eK .none))) zI aH)
  (aF (af 1))))
noncomputable def cE:List L8->Res:=aE 2 dQ
noncomputable def dR:FS:=(b9 (aj 1 cE (ae (af 0) ag)))
noncomputable def bW:List L8->Res:=aE 1 dR
noncomputable def fx:FS:=(aF (aA .leaf 2 (dq (ae (aS aG (ae (ai (af 0) (eK (.int 0))) ag)) ag)) (aL ao (ay (bf true) (af 2) (af 1))) (af 2)))
noncomputable def cH:List L8->Res:=aE 3 fx
noncomputable def nc:FS:=(aF (oN (aL bh (af 0)) (aS (bL true) (ae (af 1) ag)) (aS (bL false) (ae (af 1) ag))))
noncomputable def cK:List L8->Res:=aE 2 nc
noncomputable def dj:FS:=(ak (bD (aL ao (ay (bf false) (ai (af 1) (eK (.int 0))) (eK ck))) (aF (bB (ae (ai (af 2) (eK (.int 0))) (ae (ai (af 2) (eK (.int 1))) ag)))) aH)
  (aF (bB (ae (w5 (ae (aS aG (ae (ai (af 0) (eK (.int 0))) ag)) ag)) (ae (aj 2 cH (ae (af 0) (ae (ai (af 2) (eK (.int 0))) ag))) ag)))))
noncomputable def bq:List L8->Res:=aE 3 dj
noncomputable def fw:FS:=(ak (ax true 4 (aM .leaf ag))
  (ak (cZ 5 (aU (af 2))
  (bD (cx (aL ao (ay (cN false) (ai (af 3) (af 5)) (eK .none))) (aL bh (aj 2 cK (ae (ai (af 1) (af 5)) (ae (aA .leaf 6 (aU (ai (ai (af 0) (eK (.int 2))) (af 5))) aN (ay (cN true) (ai (af 3) (af 6)) (eK .none))) ag))))) (dS 4 (af 5)) aH))
  (aF (bR 4))))
noncomputable def b5:List L8->Res:=aE 7 fw
noncomputable def iO:FS:=(ak (ax true 4 (aA .leaf 8 (aU (ai (af 0) (eK (.int 0)))) aN (eK .none)))
  (ak (ax false 5 (eK (.int 0)))
  (ak (ax false 6 (af 3))
  (ak (wQ 1000 (aL bh (af 6))
  (ak (cZ 7 (aU (af 6))
  (fN 4 (af 5) (af 7)))
  (ak (gJ 5 (eK (.int 1)))
  (ax false 6 (Am 4 b5 (ae (af 0) (ae (af 1) (ae (af 2) (ae (af 4) ag)))))))))
  (aF (bR 4))))))
noncomputable def fE:List L8->Res:=aE 9 iO
noncomputable def fG:FS:=(ak (ax false 3 (ai (af 1) (eK (.int 0))))
  (ak (bD (cx (aL ao (ay (bf true) (af 3) (eK ck))) (aL ao (ay (bf true) (af 3) (eK dg)))) (aF (eK .none)) aH)
  (ak (ax false 4 (aj 3 bq (ae (af 0) (ae (af 1) (ae (af 2) ag)))))
  (aF (aj 4 fE (ae (af 0) (ae (aA .leaf 5 (aU (ai (af 0) (eK (.int 0)))) aN (ay (bf false) (af 3) (eK bE))) (ae (ai (af 4) (eK (.int 0))) (ae (ai (af 4) (eK (.int 1))) ag)))))))))
noncomputable def bI:List L8->Res:=aE 6 fG
noncomputable def bA:FS:=(ak (ax false 5 (ai (af 1) (eK (.int 0))))
  (ak (bD (aL ao (ay bC (af 5) (eK (.str "yes")))) (aF (eK (.bool true))) aH)
  (ak (bD (aL ao (ay bC (af 5) (eK (.str "mark")))) (aF (ay (bf false) (ai (af 1) (eK (.int 1))) (ai (ai (af 0) (eK (.int 1))) (af 4)))) aH)
  (ak (bD (aL ao (ay (bf false) (af 5) (eK ck))) (aF (ay (cN true) (ai (af 3) (af 4)) (eK .none))) aH)
  (ak (bD (aL ao (ay (bf false) (af 5) (eK dg))) (aF (ay (cN false) (ai (af 3) (af 4)) (eK .none))) aH)
  (ak (ax false 6 (aA .leaf 7 (aU (af 2)) aN (ay (bf false) (af 4) (af 7))))
  (ak (bD (aL ao (ay bC (af 5) (eK (.str "not")))) (aF (oK (ai (af 6) (eK (.int 0))))) aH)
  (ak (bD (d5 (aL ao (ay bC (af 5) (eK (.str "and")))) (aL ao (ay bC (af 5) (eK (.str "or"))))) (aF (oN (aL ao (ay bC (af 5) (eK (.str "and")))) (aS (bL false) (ae (af 6) ag)) (aS (bL true) (ae (af 6) ag)))) aH)
  (aF (aj 2 cK (ae (ay (bf false) (af 5) (eK bE)) (ae (aA .leaf 8 (aU (ai (ai (af 0) (eK (.int 2))) (af 4))) aN (ay (bf false) (af 8) (ai (af 2) (eK (.int 0))))) ag))))))))))))
noncomputable def dX:List L8->Res:=aE 9 bA
noncomputable def iN:FS:=(aF (aA .leaf 4 (dq (ae (aS aG (ae (ai (af 0) (eK (.int 0))) ag)) ag)) (aL bh (aj 5 dX (ae (af 0) (ae (af 1) (ae (af 2) (ae (af 3) (ae (af 4) ag))))))) (af 4)))
noncomputable def bU:List L8->Res:=aE 5 iN
noncomputable def iP (r_judged:List L8->Res):FS:=(ak (ax false 2 (aA .leaf 3 (eu (aj 1 aV (ae (af 1) ag))) aN (aj 2 r_judged (ae (af 0) (ae (af 3) ag)))))
  (aF (aj 4 bU (ae (af 0) (ae (af 1) (ae (af 2) (ae (aj 3 bI (ae (af 0) (ae (af 1) (ae (af 2) ag)))) ag)))))))
noncomputable def de:Nat->List L8->Res
 | 0=>fun _=>.no
 | n+1=>aE 4 (iP (de n))
noncomputable def df:List L8->Res:=de 30
noncomputable def iQ:FS:=(ak (bD (aL ao (ay gv (af 1) (aS aG (ae (af 0) ag)))) (aF (ai (af 0) (af 1))) aH)
  (aF (eK (.int 0))))
noncomputable def aC:List L8->Res:=aE 2 iQ
noncomputable def nt:FS:=(ak (bD (aL ao (ay oG (af 0) (ay yD (eK (.int 10)) (eK (.int 18))))) (ak (ax false 4 (af 0))
  (ak (cZ 5 (dq (ae (af 1) ag))
  (ax false 4 (ay sf (af 4) (af 2))))
  (aF (ay dh (af 4) (af 2))))) aH)
  (ak (ax false 3 (ay dh (ay gr (ay aW (ay aW (ay dh (af 0) (eK (.int 1000000007))) (ay gr (eK (.int 1009)) (af 1))) (eK (.int 17))) (eK (.int 69621))) (eK (.int 2147483647))))
  (ak (ax false 3 (ay dh (ay aW (ay aW (ay gr (af 3) (af 3)) (ay gr (eK (.int 40503)) (af 1))) (eK (.int 5))) (eK (.int 2147483629))))
  (aF (ay dh (ay sf (ay dh (ay gr (af 3) (eK (.int 48271))) (eK (.int 2147483647))) (eK (.int 32))) (af 2))))))
noncomputable def aw:List L8->Res:=aE 6 nt
noncomputable def d__law_world:FS:=(ak (ax false 3 (ay aW (eK (.int 1)) (ay dh (aj 2 aC (ae (af 0) (ae (af 1) ag))) (af 2))))
  (ak (ax true 4 (aM .leaf ag))
  (ak (ax true 5 (aM .leaf ag))
  (ak (ax true 6 (aM .leaf ag))
  (ak (cZ 7 (dq (ae (af 3) ag))
  (ak (ax false 8 (aj 2 aC (ae (af 0) (ae (ay aW (ay aW (af 1) (eK (.int 1))) (af 7)) ag))))
  (ak (dS 4 (aj 3 aw (ae (af 8) (ae (eK (.int 0)) (ae (eK (.int 2)) ag)))))
  (ak (dS 5 (aA .leaf 11 (dq (ae (eK (.int 3)) ag)) (aL ao (ay bC (aj 3 aw (ae (af 8) (ae (ay aW (eK (.int 1)) (af 11)) (ae (eK (.int 2)) ag)))) (eK (.int 1)))) (ai (eK (.str "abc")) (af 11))))
  (ak (ax false 9 (aA .leaf 10 (dq (ae (af 3) ag)) (aL ao (ay bC (aj 3 aw (ae (af 8) (ae (ay aW (eK (.int 4)) (af 10)) (ae (ay aW (eK (.int 2)) (aS oF (ae (ay fI (af 3) (eK (.int 3))) ag))) ag)))) (eK (.int 1)))) (af 10)))
  (ak (bD (aL ao (ay bC (af 9) (aM .leaf ag))) (ax false 9 (aM .leaf (ae (aj 3 aw (ae (af 8) (ae (ay aW (eK (.int 4)) (af 3)) (ae (af 3) ag)))) ag))) aH)
  (dS 6 (af 9))))))))
  (aF (bB (ae (bR 4) (ae (bR 5) (ae (bR 6) ag))))))))))
noncomputable def m__law_world:List L8->Res:=aE 12 d__law_world
open PySem.SeqAt
noncomputable def HV (a b:D):Bool:=match gv a b with
 | some (.bool t)=>t
 | _=>false
noncomputable def g9 (ds:List D):Prop:=∀a∈ds,∃n,a=.int n
noncomputable def gz (ds:List D):Prop:=∀a∈ds,∃x,a=.str x/\PyData.strOk x=true
noncomputable def Row (ds:List D):Prop:=g9 ds\/gz ds
theorem Ax (i:Int):shaped (.int i)=true:=by simp [shaped,PyData.canLay0,PyData.depth]
theorem sh_str {x:Str} (h:PyData.strOk x=true):shaped (.str x)=true:=by simp [shaped,PyData.canLay0,PyData.depth,h]
theorem Row.lt {ds:List D} {a b:D} (h:Row ds) (ha:a∈ds) (hb:b∈ds):gv a b=some (.bool (HV a b))/\oG a b=some (.bool (!HV a b)):=by
 rcases h with h | h
 ·obtain ⟨n,rfl⟩:=h a ha
  obtain ⟨m,rfl⟩:=h b hb;refine ⟨rfl,?_⟩
  show some (PyData.bool (decide (m<=n)))=some (.bool (!decide (n<m)))
  congr 2
  by_cases q:n<m
  ·simp [q,Int.not_le.mpr q]
  ·simp [q,Int.not_lt.mp q]
 ·obtain ⟨n,rfl,_⟩:=h a ha
  obtain ⟨m,rfl,_⟩:=h b hb;exact ⟨rfl,rfl⟩
noncomputable def zT (ds:List D) (d:D):Bool:=match d with
 | .int j=>HV (ds.getD (j-1).toNat .none) (ds.getD j.toNat .none)
 | _=>false
noncomputable def gK (ds:List D):Bool:=(cz 1 ((ds.length:Int)-1).toNat).all (zT ds)
theorem Er {lo:Int} {n:Nat} {d:D} (h:d∈cz lo n):∃k:Nat,k<n/\d=.int (lo+k):=by
 unfold cz at h;simp only [mem_map,mem_range] at h
 obtain ⟨k,hk,e⟩:=h;exact ⟨k,hk,e.symm⟩
theorem G7 {lo:Int} {n:Nat}:(cz lo n).length=n:=by unfold cz;simp
theorem Ar {n:Nat} {k:Nat} (h:k<n):eF n (k:Int)=some k:=by
 unfold eF;rw [if_pos (by omega),if_pos (by omega)]
 simp
theorem FO {n:Nat} {i:Int} (h0:0<=i) (h1:i<n):eF n i=some i.toNat:=by
 unfold eF;rw [if_pos h0,if_pos h1]
theorem CY {i:Int} (h0:-1000<=i) (h1:i<=100000):cn i=true:=by
 unfold cn;simp only [Bool.and_eq_true,decide_eq_true_eq]
 omega
theorem GL {ds:List D} {k:Nat} (h:k<ds.length):ds[k]?=some (ds.getD k .none):=by
 rw [LW,LV h];rfl
theorem getD_mem {ds:List D} {k:Nat} (h:k<ds.length):ds.getD k .none∈ds:=mem_of_getElem? (GL h)
theorem FN {ds:List D} {k:Nat} (h:Row ds) (hk:k<((ds.length:Int)-1).toNat):eF ds.length (1+(k:Int)-1)=some k/\eF ds.length (1+(k:Int))=some (k+1)/\ds[k]?=some (ds.getD k .none)/\ds[k+1]?=some (ds.getD (k+1) .none) /\
  gv (ds.getD k .none) (ds.getD (k+1) .none)=some (.bool (zT ds (.int (1+(k:Int)))))/\oG (ds.getD k .none) (ds.getD (k+1) .none)=some (.bool (!zT ds (.int (1+(k:Int))))):=by
 have h1:k<ds.length:=by omega
 have h2:k+1<ds.length:=by omega
 have l:=h.lt (getD_mem h1) (getD_mem h2)
 have e3:zT ds (.int (1+(k:Int)))=HV (ds.getD k .none) (ds.getD (k+1) .none):=by
  unfold zT;dsimp only;rw [show (1+(k:Int)-1).toNat=k by omega,show (1+(k:Int)).toNat=k+1 by omega]
 rw [e3];exact ⟨by rw [show (1+(k:Int)-1)=k by omega];exact Ar h1,by rw [show (1+(k:Int))=((k+1:Nat):Int) by omega];exact Ar h2,GL h1,GL h2,l.1,l.2⟩
theorem aR {n:Nat} {g:FS} {ds:List D} {p:PV} (h:g (aZ n ds)=.rt p):aE n g ds=.ok p:=by unfold aE;rw [h]
theorem eq_int {a b:Int}:bC (.int a) (.int b)=some (.bool (a==b)):=by
 unfold bC;rw [Ax,Ax,Bool.and_self,if_pos rfl,PyData.eqv]
theorem fu {ds:List D} (h:Row ds) (hl:ds.length<=100):dw [.list ds]=.ok ⟨.leaf,.bool (gK ds)⟩:=by
 have hc:aA .leaf 1 (vN (ae (eK (.int 1)) (ae (aS aG (ae (af 0) ag)) ag))) aN (ay gv (ai (af 0) (ay gSub (af 1) (eK (.int 1)))) (ai (af 0) (af 1))) [L9 (.list ds),none] =
   .ok ⟨.lst .leaf,.list ((cz 1 ((ds.length:Int)-1).toNat).map fun d=>.bool (zT ds d))⟩ [L9 (.list ds),none]:=by
  refine DU (f:=fun d=>⟨.leaf,.bool (zT ds d)⟩) (st:=true) (Js (k:=1) (m:=(ds.length:Int)) (aD aQ (aD (bS (aD (aB rfl) aq) rfl) aq)) rfl (by omega) (by omega) (by omega) (by omega)) (by simp) rfl (by rw [G7];omega) fun d hd=>⟨?_,rfl⟩
  obtain ⟨k,hk,rfl⟩:=Er hd;obtain ⟨e1,e2,e3,e4,e5,e6⟩:=FN h hk;exact aJ (sY (aB rfl) (aJ (aB rfl) aQ rfl) e1 e3 rfl) (sY (aB rfl) (aB rfl) e2 e4 rfl) e5
 exact aR (br (bS (aD hc aq) tL) rfl)
noncomputable def D7 (a:D):Bool:=[PyData.str "a",.str "b",.str "c",.str "d",.str "e",.str "f"].any fun y=>PyData.eqv y a
noncomputable def FT (a:D):Bool:=[PyData.int 0,.int 1].any fun y=>PyData.eqv y a
noncomputable def inR (n:Int) (a:D):Bool:=match a with
 | .int i=>decide (0<=i)&&decide (i<n)
 | _=>false
noncomputable def yj (d:D):Bool:=match d with
 | .list xs=>xs.all D7&&gK xs
 | _=>false
noncomputable def HE (n:Int) (d:D):Bool:=match d with
 | .list xs=>decide (0<xs.length)&&(xs.all (inR n)&&gK xs)
 | _=>false
theorem Bm:shaped cb=true:=by decide +kernel
theorem E9:shaped cF=true:=by decide +kernel
theorem vH {x:Str} (hx:PyData.strOk x=true):bf false (.str x) cb=some (.bool (D7 (.str x))):=by
 unfold bf cb;have:=Bm
 unfold cb at this;simp only [sh_str hx,this,Bool.and_self,if_true]
 rfl
theorem FP {i:Int}:bf false (.int i) cF=some (.bool (FT (.int i))):=by
 unfold bf cF;have:=E9
 unfold cF at this;simp only [Ax,this,Bool.and_self,if_true]
 rfl
theorem jq {ds:List D} (h:gz ds) (hl:ds.length<=100):dz [.list ds]=.ok ⟨.leaf,.bool (ds.all D7&&gK ds)⟩:=by
 have hc:aA .leaf 1 (aU (af 0)) aN (ay (bf false) (af 1) (eK cb)) [L9 (.list ds),none]=.ok ⟨.lst .leaf,.list (ds.map fun d=>.bool (D7 d))⟩ [L9 (.list ds),none]:=by
  refine DU (f:=fun d=>⟨.leaf,.bool (D7 d)⟩) (cA (aB rfl) rfl) (by simp) rfl (by omega) fun d hd=>⟨?_,rfl⟩
  obtain ⟨x,rfl,hx⟩:=h d hd;exact aJ (aB rfl) aQ (vH hx)
 exact aR (br (v_and (bS (aD hc aq) tL) (bV (aD (aB rfl) aq) (fu (.inr h) hl) rfl rfl)) rfl)
theorem chain_ev {i n:Int}:w4 (.int 0) (.int i)=some (.bool (decide (0<=i)))/\gv (.int i) (.int n)=some (.bool (decide (i<n))):=⟨rfl,rfl⟩
theorem jo {ds:List D} {n:Int} (h:g9 ds) (hl:ds.length<=100):eO [.list ds,.int n]=.ok ⟨.leaf,.bool (ds.all (inR n)&&gK ds)⟩:=by
 have hc:aA .leaf 2 (aU (af 0)) aN (qG w4 gv (eK (.int 0)) (af 2) (af 1)) [L9 (.list ds),L9 (.int n),none]=.ok ⟨.lst .leaf,.list (ds.map fun d=>.bool (inR n d))⟩ [L9 (.list ds),L9 (.int n),none]:=by
  refine DU (f:=fun d=>⟨.leaf,.bool (inR n d)⟩) (cA (aB rfl) rfl) (by simp) rfl (by omega) fun d hd=>⟨?_,rfl⟩
  obtain ⟨i,rfl⟩:=h d hd;exact IW aQ (aB rfl) (chain_ev (n:=n)).1 rfl (aB rfl) chain_ev.2
 exact aR (br (v_and (bS (aD hc aq) tL) (bV (aD (aB rfl) aq) (fu (.inl h) hl) rfl rfl)) rfl)
theorem jn {ds:List D} {n:Int} (h:g9 ds) (hl:ds.length<=100):dy [.list ds,.int n]=.ok ⟨.leaf,.bool (decide (0<ds.length)&&(ds.all (inR n)&&gK ds))⟩:=by
 have e:fI (.int (ds.length:Nat)) (.int 0)=some (.bool (decide (0<ds.length))):=by
  show some (PyData.bool (decide ((0:Int)<(ds.length:Int))))=_
  congr 2
  exact decide_eq_decide.mpr (by omega)
 exact aR (br (v_and (aJ (bS (aD (aB rfl) aq) rfl) aQ e) (bV (aD (aB rfl) (aD (aB rfl) aq)) (jo h hl) rfl rfl)) rfl)
structure Wk (b:Nat) (os ms ss:List D):Prop where
 o:g9 os
 m:∀r∈ms,∃xs,r=.list xs/\gz xs/\xs.length<=30
 s:∀r∈ss,∃xs,r=.list xs/\g9 xs/\xs.length<=30
 lo:os.length<=b
 lm:ms.length<=b
 ls:ss.length<=b
noncomputable def HY (os ms ss:List D):Bool:=decide ((os.length:Int)<1)||(decide ((24:Int)<os.length)||((!((ms.length:Int)==(os.length:Int)))||(!((ss.length:Int)==(os.length:Int)))))
noncomputable def isW (os ms ss:List D):Bool:=!HY os ms ss&&(os.all FT&&(ms.all yj&&ss.all (HE os.length)))
theorem ne_int {a b:Int}:eC (.int a) (.int b)=some (.bool (!(a==b))):=by
 unfold eC;rw [Ax,Ax,Bool.and_self,if_pos rfl,PyData.eqv]
theorem kN {b:Nat} {os ms ss:List D} (h:Wk b os ms ss) (hb:b<=100):dU [.list os,.list ms,.list ss]=.ok ⟨.leaf,.bool (isW os ms ss)⟩:=by
 have lo:=h.lo
 have lm:=h.lm
 have ls:=h.ls
 refine aR ?_
 refine az (b6 (bS (aD (aB rfl) aq) rfl) rfl (by simp [aZ])) ?_
 have hif:(d5 (aL ao (ay gv (af 3) (eK (.int 1)))) (d5 (aL ao (ay fI (af 3) (eK dY))) (d5 (aL ao (ay eC (aS aG (ae (af 1) ag)) (af 3))) (aL ao (ay eC (aS aG (ae (af 2) ag)) (af 3)))))) [L9 (.list os),L9 (.list ms),L9 (.list ss),L9 (.int (os.length:Nat)),none,none]
   = .ok (HY os ms ss) [L9 (.list os),L9 (.list ms),L9 (.list ss),L9 (.int (os.length:Nat)),none,none]:=
  jv (cC (aJ (aB rfl) aQ rfl)) (jv (cC (aJ (aB rfl) aQ rfl)) (jv (cC (aJ (bS (aD (aB rfl) aq) rfl) (aB rfl) ne_int)) (cC (aJ (bS (aD (aB rfl) aq) rfl) (aB rfl) ne_int))))
 cases hbad:HY os ms ss with
 | true=>
  rw [hbad] at hif;unfold isW;rw [hbad];exact xg (bu hif (fun _=>br aQ rfl) nofun)
 | false=>
  rw [hbad] at hif;refine az (bu hif nofun (fun _=>rfl)) ?_
  have c1:aA .leaf 4 (aU (af 0)) aN (ay (bf false) (af 4) (eK cF)) [L9 (.list os),L9 (.list ms),L9 (.list ss),L9 (.int (os.length:Nat)),none,none]
    = .ok ⟨.lst .leaf,.list (os.map fun d=>.bool (FT d))⟩ [L9 (.list os),L9 (.list ms),L9 (.list ss),L9 (.int (os.length:Nat)),none,none]:=by
   refine DU (f:=fun d=>⟨.leaf,.bool (FT d)⟩) (cA (aB rfl) rfl) (by simp) rfl (by omega) fun d hd=>⟨?_,rfl⟩
   obtain ⟨i,rfl⟩:=h.o d hd;exact aJ (aB rfl) aQ FP
  have c2:aA .leaf 5 (aU (af 1)) aN (aj 1 dz (ae (af 5) ag)) [L9 (.list os),L9 (.list ms),L9 (.list ss),L9 (.int (os.length:Nat)),none,none]
    = .ok ⟨.lst .leaf,.list (ms.map fun d=>.bool (yj d))⟩ [L9 (.list os),L9 (.list ms),L9 (.list ss),L9 (.int (os.length:Nat)),none,none]:=by
   refine DU (f:=fun d=>⟨.leaf,.bool (yj d)⟩) (cA (aB rfl) rfl) (by simp) rfl (by omega) fun d hd=>⟨?_,rfl⟩
   obtain ⟨xs,rfl,hx,hl⟩:=h.m d hd;exact bV (aD (aB rfl) aq) (jq hx (by omega)) rfl rfl
  have c3:aA .leaf 5 (aU (af 2)) aN (aj 2 dy (ae (af 5) (ae (af 3) ag))) [L9 (.list os),L9 (.list ms),L9 (.list ss),L9 (.int (os.length:Nat)),none,none]
    = .ok ⟨.lst .leaf,.list (ss.map fun d=>.bool (HE os.length d))⟩ [L9 (.list os),L9 (.list ms),L9 (.list ss),L9 (.int (os.length:Nat)),none,none]:=by
   refine DU (f:=fun d=>⟨.leaf,.bool (HE os.length d)⟩) (cA (aB rfl) rfl) (by simp) rfl (by omega) fun d hd=>⟨?_,rfl⟩
   obtain ⟨xs,rfl,hx,hl⟩:=h.s d hd;exact bV (aD (aB rfl) (aD (aB rfl) aq)) (jn hx (by omega)) rfl rfl
  have t1:=fY (eB (bS (aD c1 aq) tL))
  cases ho:os.all FT with
  | false=>
   rw [ho] at t1;unfold isW;rw [ho,Bool.false_and,Bool.and_false];exact xg (bu t1 (fun _=>br aQ rfl) nofun)
  | true=>
   rw [ho] at t1;refine az (bu t1 nofun (fun _=>rfl)) ?_
   unfold isW;rw [hbad,ho,Bool.not_false,Bool.true_and,Bool.true_and];exact br (v_and (bS (aD c2 aq) tL) (bS (aD c3 aq) tL)) rfl
theorem Dm {xs:List D} (h:shaped (.list xs)=true):bC (.list xs) (.list [])=some (.bool (decide (xs.length=0))):=by
 unfold bC;have h2:shaped (.list [])=true:=by decide +kernel
 rw [h,h2,Bool.and_self,if_pos rfl]
 cases xs with
 | nil=>rfl
 | cons a r=>rfl
theorem Iw {xs:List D} (h:g9 xs):shaped (.list xs)=true:=by
 have c:PyData.canLayAll0 xs=true/\PyData.depthAll xs=0:=by
  induction xs with
  | nil=>exact ⟨rfl,rfl⟩
  | cons a r ih=>
   obtain ⟨n,rfl⟩:=h a mem_cons_self;have q:=ih fun x hx=>h x (LX _ hx)
   simp [PyData.canLayAll0,PyData.canLay0,PyData.depthAll,PyData.depth,q.1,q.2]
 simp [shaped,PyData.canLay0,PyData.depth,c.1,c.2]
theorem xw {xs:List D} (h:gz xs):shaped (.list xs)=true:=by
 have c:PyData.canLayAll0 xs=true/\PyData.depthAll xs=0:=by
  induction xs with
  | nil=>exact ⟨rfl,rfl⟩
  | cons a r ih=>
   obtain ⟨n,rfl,hn⟩:=h a mem_cons_self;have q:=ih fun x hx=>h x (LX _ hx)
   simp [PyData.canLayAll0,PyData.canLay0,PyData.depthAll,PyData.depth,q.1,q.2,hn]
 simp [shaped,PyData.canLay0,PyData.depth,c.1,c.2]
theorem lt_int {a b:Int}:gv (.int a) (.int b)=some (.bool (decide (a<b))):=rfl
theorem yA {a b:Int}:oG (.int a) (.int b)=some (.bool (decide (b<=a))):=rfl
theorem add_int' {a b:Int}:aW (.int a) (.int b)=some (.int (a+b)):=rfl
theorem sub_int' {a b:Int}:gSub (.int a) (.int b)=some (.int (a-b)):=rfl
theorem fS {a b:Int} (h:0<b):dh (.int a) (.int b)=some (.int (a % b)):=by
 show (if yX a b then _ else _)=_
 rw [if_pos (by unfold yX;simpa using h)]
theorem Ad {a b:Int} (h:0<b) (h2:b<1073741824):sf (.int a) (.int b)=some (.int (a / b)):=by
 show (if yY a b then _ else _)=_
 rw [if_pos (by unfold yY;simp [h,h2])]
theorem zS {a b:Int} (h:-1000000000000<b) (h2:b<1000000000000):gr (.int a) (.int b)=some (.int (a*b)):=by
 show (if sT a b then _ else _)=_
 rw [if_pos (by unfold sT;simp only [Bool.or_eq_true,Bool.and_eq_true,decide_eq_true_eq];right;omega)]
theorem vo {a b:Int} (h:-1000000000000<a) (h2:a<1000000000000):gr (.int a) (.int b)=some (.int (a*b)):=by
 show (if sT a b then _ else _)=_
 rw [if_pos (by unfold sT;simp only [Bool.or_eq_true,Bool.and_eq_true,decide_eq_true_eq];left;omega)]
theorem Fz {b:Int} (h:0<=b) (h2:b<=100):yD (.int 10) (.int b)=some (.int (10 ^ b.toNat)):=by
 show (if yW 10 b then _ else _)=_
 rw [if_pos (by unfold yW;simp only [Bool.and_eq_true,decide_eq_true_eq];exact ⟨⟨h,by omega⟩,by decide⟩)]
theorem DW {xs:List D} (h:g9 xs) {k:Int} (hk:0<=k):∃c,aC [.list xs,.int k]=.ok ⟨.leaf,.int c⟩:=by
 have t:aL ao (ay gv (af 1) (aS aG (ae (af 0) ag))) [L9 (.list xs),L9 (.int k)]=.ok (decide (k<(xs.length:Int))) [L9 (.list xs),L9 (.int k)]:=
  cC (aJ (aB rfl) (bS (aD (aB rfl) aq) rfl) lt_int)
 cases hlt:decide (k<(xs.length:Int)) with
 | true=>
  rw [hlt] at t;have hl:=of_decide_eq_true hlt
  have hk2:k.toNat<xs.length:=by omega
  obtain ⟨c,hc⟩:=h _ (getD_mem hk2);have g:=GL hk2
  rw [hc] at g;exact ⟨c,aR (xg (bu t (fun _=>br (sY (aB rfl) (aB rfl) (FO hk hl) g rfl) rfl) nofun))⟩
 | false=>
  rw [hlt] at t;exact ⟨0,aR (az (bu t nofun (fun _=>rfl)) (br aQ rfl))⟩
theorem m7 {c k b:Int} (hk:0<=k) (hk2:k<=1000) (hb:1<=b) (hb2:b<=1000):∃r,aw [.int c,.int k,.int b]=.ok ⟨.leaf,.int r⟩/\0<=r/\r<b:=by
 have t:aL ao (ay oG (af 0) (ay yD (eK (.int 10)) (eK (.int 18)))) [L9 (.int c),L9 (.int k),L9 (.int b),none,none,none]=.ok (decide (10 ^ (18:Int).toNat<=c)) [L9 (.int c),L9 (.int k),L9 (.int b),none,none,none]:=
  cC (aJ (aB rfl) (aJ aQ aQ (Fz (by omega) (by omega))) yA)
 cases hge:decide (10 ^ (18:Int).toNat<=c) with
 | true=>
  rw [hge] at t;obtain ⟨Γ',e,l,x,hΓ⟩:=IL (P:=fun _ Γ=>∃l x,Γ=[L9 (.int c),L9 (.int k),L9 (.int b),none,L9 (.int l),x]) (i:=5) (body:=ax false 4 (ay sf (af 4) (af 2))) (cz 0 k.toNat) 0
   [L9 (.int c),L9 (.int k),L9 (.int b),none,L9 (.int c),none] ⟨c,none,rfl⟩ (fun m d Γ hd _ _ ⟨l,x,hΓ⟩=>by
    subst hΓ;refine ⟨by simp,_,b6 (aJ (aB rfl) (aB rfl) (Ad (by omega) (by omega))) rfl (by simp),_,_,rfl⟩)
  subst hΓ;exact ⟨_,aR (xg (bu t (fun _=>az (b6 (aB rfl) rfl (by simp)) (az (gD (nN (k:=k) (aD (aB rfl) aq) rfl (by omega) (by omega)) e) (br (aJ (aB rfl) (aB rfl) (fS (by omega))) rfl))) nofun)),Int.emod_nonneg _ (by omega),Int.emod_lt_of_pos _ (by omega)⟩
 | false=>
  rw [hge] at t;have m1:∀x:Int,0<=x % 2147483647/\x % 2147483647<2147483647:=fun x=>⟨Int.emod_nonneg _ (by omega),Int.emod_lt_of_pos _ (by omega)⟩
  refine ⟨_,aR (az (bu t nofun (fun _=>rfl)) (az (b6 (aJ (aJ (aJ (aJ (aJ (aB rfl) aQ (fS (by omega))) (aJ aQ (aB rfl) (vo (by omega) (by omega))) add_int') aQ add_int') aQ (zS (by omega) (by omega))) aQ (fS (by omega))) rfl (by simp [aZ]))
   (az (b6 (aJ (aJ (aJ (aJ (aB rfl) (aB rfl) (vo ?_ ?_)) (aJ aQ (aB rfl) (vo (by omega) (by omega))) add_int') aQ add_int') aQ (fS (by omega))) rfl (by simp [aZ]))
   (br (aJ (aJ (aJ (aJ (aB rfl) aQ (zS (by omega) (by omega))) aQ (fS (by omega))) aQ (Ad (by omega) (by omega))) (aB rfl) (fS (by omega))) rfl)))),Int.emod_nonneg _ (by omega),Int.emod_lt_of_pos _ (by omega)⟩
  ·exact Int.lt_of_lt_of_le (by omega) (m1 _).1
  ·exact Int.lt_trans (m1 _).2 (by omega)
noncomputable def gg (c k b:Int):Int:=match aw [.int c,.int k,.int b] with
 | .ok ⟨_,.int r⟩=>r
 | _=>0
theorem AA {c k b:Int} (hk:0<=k) (hk2:k<=1000) (hb:1<=b) (hb2:b<=1000):aw [.int c,.int k,.int b]=.ok ⟨.leaf,.int (gg c k b)⟩:=by
 obtain ⟨r,e,_⟩:=m7 (c:=c) hk hk2 hb hb2
 unfold gg;rw [e]
theorem GK {c k b:Int} (hk:0<=k) (hk2:k<=1000) (hb:1<=b) (hb2:b<=1000):0<=gg c k b/\gg c k b<b:=by
 obtain ⟨r,e,h⟩:=m7 (c:=c) hk hk2 hb hb2
 unfold gg;rw [e];exact h
noncomputable def abc (d:D):D:=match d with
 | .int k=>(match eY [97,98,99] k with
  | some c=>.str ⟨#[c]⟩
  | none=>.none)
 | _=>.none
theorem vk {c:Nat} (h:c<1000):PyData.strOk ⟨#[c]⟩=true:=by
 unfold PyData.strOk;simp
 omega
theorem ze:(Str.ofString "abc").cps.toList=[97,98,99]:=by decide +kernel
theorem qB:(Str.ofString "abc").length<=sizeLine:=by decide +kernel
noncomputable abbrev eW:FS:=(ak (ax false 8 (aj 2 aC (ae (af 0) (ae (ay aW (ay aW (af 1) (eK (.int 1))) (af 7)) ag))))
  (ak (dS 4 (aj 3 aw (ae (af 8) (ae (eK (.int 0)) (ae (eK (.int 2)) ag)))))
  (ak (dS 5 (aA .leaf 11 (dq (ae (eK (.int 3)) ag)) (aL ao (ay bC (aj 3 aw (ae (af 8) (ae (ay aW (eK (.int 1)) (af 11)) (ae (eK (.int 2)) ag)))) (eK (.int 1)))) (ai (eK (.str "abc")) (af 11))))
  (ak (ax false 9 (aA .leaf 10 (dq (ae (af 3) ag)) (aL ao (ay bC (aj 3 aw (ae (af 8) (ae (ay aW (eK (.int 4)) (af 10)) (ae (ay aW (eK (.int 2)) (aS oF (ae (ay fI (af 3) (eK (.int 3))) ag))) ag)))) (eK (.int 1)))) (af 10)))
  (ak (bD (aL ao (ay bC (af 9) (aM .leaf ag))) (ax false 9 (aM .leaf (ae (aj 3 aw (ae (af 8) (ae (ay aW (eK (.int 4)) (af 3)) (ae (af 3) ag)))) ag))) aH)
  (dS 6 (af 9)))))))
theorem uK {ts:List Int} (h:ts.Pairwise (· < ·)):gK (ts.map .int)=true:=by
 unfold gK;rw [all_eq_true];intro d hd;obtain ⟨k,hk,rfl⟩:=Er hd;rw [length_map] at hk;have h1:k<ts.length:=by omega
 have h2:k+1<ts.length:=by omega
 unfold zT;dsimp only;rw [show (1+(k:Int)-1).toNat=k by omega,show (1+(k:Int)).toNat=k+1 by omega]
 rw [LW,LW,getElem?_map,getElem?_map,LV h1,LV h2];have:=List.pairwise_iff_getElem.mp h k (k+1) h1 h2 (by omega)
 show decide (ts[k]<ts[k+1])=true
 exact decide_eq_true this
structure Gw (N:Int) (n:Nat) (os ms ss:List D):Prop where
 lo:os.length=n
 lm:ms.length=n
 ls:ss.length=n
 o:∀a∈os,a=.int 0\/a=.int 1
 m:∀r∈ms,∃xs,r=.list xs/\gz xs/\xs.length<=30/\yj r=true
 s:∀r∈ss,∃ts:List Int,r=.list (ts.map .int)/\ts.length<=30/\ts≠[]/\(∀t∈ts,0<=t/\t<N)/\ts.Pairwise (· < ·)
theorem AG {ts:List Int}:g9 (ts.map .int):=fun a ha=>by
 obtain ⟨n,_,e⟩:=List.mem_map.mp ha;exact ⟨n,e.symm⟩
theorem Gw.wk {N:Int} {n b:Nat} {os ms ss:List D} (h:Gw N n os ms ss) (hb:n<=b):Wk b os ms ss:=
 ⟨fun a ha=>(h.o a ha).elim (fun e=>⟨0,e⟩) fun e=>⟨1,e⟩,fun r hr=>let ⟨xs,e,a,b,_⟩:=h.m r hr;⟨xs,e,a,b⟩,fun r hr=>let ⟨ts,e,a,_⟩:=h.s r hr;⟨_,e,AG,by rw [length_map];exact a⟩,by rw [h.lo];exact hb,by rw [h.lm];exact hb,by rw [h.ls];exact hb⟩
theorem Gw.isW {n:Nat} {os ms ss:List D} (h:Gw (n:Int) n os ms ss) (h1:1<=n) (h24:n<=24):isW os ms ss=true:=by
 unfold KC.isW HY;rw [h.lo,h.lm,h.ls];have e1:decide ((n:Int)<1)=false:=decide_eq_false (by omega)
 have e2:decide ((24:Int)<n)=false:=decide_eq_false (by omega)
 rw [e1,e2];simp only [beq_self_eq_true,Bool.not_true,Bool.or_self,Bool.not_false,Bool.true_and,Bool.and_eq_true,all_eq_true]
 refine ⟨fun a ha=>?_,fun r hr=>?_,fun r hr=>?_⟩
 ·rcases h.o a ha with rfl | rfl<;>rfl
 ·obtain ⟨xs,_,_,_,e⟩:=h.m r hr
  exact e
 ·obtain ⟨ts,rfl,h2,h3,h4,h5⟩:=h.s r hr
  unfold HE;simp only [Bool.and_eq_true,decide_eq_true_eq,length_map,all_eq_true]
  refine ⟨by cases ts with | nil=>exact absurd rfl h3 | cons a r=>simp,fun a ha=>?_,uK h5⟩
  obtain ⟨t,ht,rfl⟩:=List.mem_map.mp ha;have:=h4 t ht
  unfold inR;simp only [Bool.and_eq_true,decide_eq_true_eq]
  exact this
theorem Kf (c0 c1 c2:Bool):yj (.list (((if c0 then [PyData.str ⟨#[97]⟩] else [])++((if c1 then [PyData.str ⟨#[98]⟩] else [])++(if c2 then [PyData.str ⟨#[99]⟩] else [])))))=true:=by
 cases c0<;>cases c1<;>cases c2<;>decide +kernel
theorem Bs (n:Nat) (c:D->Bool):∃ts:List Int,((cz 0 n).filter c).map (fun d=>d)=ts.map .int/\(∀t∈ts,0<=t/\t<(n:Int))/\ts.Pairwise (· < ·)/\ts.length<=n:=by
 refine ⟨((List.range n).map fun i=>(0:Int)+(i:Nat)).filter fun i=>c (.int i),?_,fun t ht=>?_,?_,?_⟩
 ·rw [List.map_id']
  unfold cz;rw [show (fun i:Nat=>PyData.int (0+(i:Int)))=(PyData.int∘fun i:Nat=>(0:Int)+(i:Nat)) from rfl,<-map_map,List.filter_map]
  rfl
 ·obtain ⟨h1,_⟩:=List.mem_filter.mp ht
  obtain ⟨i,hi,rfl⟩:=List.mem_map.mp h1;rw [mem_range] at hi;omega
 ·refine List.Pairwise.filter _ ?_
  rw [List.pairwise_map];exact List.pairwise_lt_range.imp fun h=>by omega
 ·refine Nat.le_trans (length_filter_le _ _) ?_
  simp
noncomputable abbrev W3:Sh:=.tup [.lst .leaf,.lst .leaf,.lst .leaf]
noncomputable abbrev fK (os ms ss:List D):D:=.tuple [.list os,.list ms,.list ss]
theorem qa {n:Nat} {g:FS} {ds:List D} {Γ:Ev} (h:g (aZ n ds)=.nx Γ):aE n g ds=.ok ⟨.leaf,.none⟩:=by unfold aE;rw [h]
theorem lL {Γ Γ1:Ev} {fa:F1} {p:PV} {c:String} {b:Bool} (ha:fa Γ=.ok p Γ1) (hb:kI (uq p.d) c=b):gy c fa Γ=.ok ⟨.leaf,.bool b⟩ Γ1:=by
 unfold gy aX;rw [ha];simp only [Out.bind,hb]
theorem v_not {Γ Γ1:Ev} {fa:F1} {s:Sh} {b:Bool} (ha:fa Γ=.ok ⟨s,.bool b⟩ Γ1):oK fa Γ=.ok ⟨.leaf,.bool (!b)⟩ Γ1:=by
 unfold oK aX;rw [ha];rfl
theorem AE {Γ Γ1:Ev} {fa:F1} {p:PV} (h:fa Γ=.ok p Γ1):b9 fa Γ=.nx Γ1:=by unfold b9 gS;rw [h]
theorem sG {b:Nat} {os ms ss:List D} (h:Wk b os ms ss) (hb:b<=100) (hw:isW os ms ss=true):bH [fK os ms ss]=.ok ⟨.leaf,.none⟩:=by
 have t:bY (aL bh (aj 3 dU (ae (ai (af 0) (eK (.int 0))) (ae (ai (af 0) (eK (.int 1))) (ae (ai (af 0) (eK (.int 2))) ag))))) [L9 (fK os ms ss)]=.ok (!(isW os ms ss)) [L9 (fK os ms ss)]:=
  fY (eB (bV (aD (fJ (j:=0) (aB rfl) aQ rfl rfl rfl) (aD (fJ (j:=1) (aB rfl) aQ rfl rfl rfl) (aD (fJ (j:=2) (aB rfl) aQ rfl rfl rfl) aq))) (kN h hb) rfl rfl))
 rw [hw] at t;exact qa (bu t nofun (fun _=>rfl))
theorem Ho {d:D} (h:shaped d=true):eC d d=some (.bool false):=by
 unfold eC;rw [h,Bool.and_self,if_pos rfl,PySem.SeqAt.eqv_refl _ (canLay_of_shaped h)];rfl
noncomputable def dl (S:List (List Int)):List D:=S.map fun ts=>.list (ts.map .int)
structure Sw (n:Nat) (S:List (List Int)):Prop where
 len:S.length=n
 row:∀ts∈S,ts.length<=30/\(∀t∈ts,0<=t/\t<(n:Int))/\ts.Pairwise (· < ·)
theorem vF {ts:List Int} {i:Int}:bf false (.int i) (.list (ts.map .int))=some (.bool (ts.contains i)):=by
 unfold bf;simp only [Ax,Iw AG,Bool.and_self,if_true]
 congr 2
 rw [Bool.eq_iff_iff];simp only [Bool.false_eq_true,if_false,any_eq_true,mem_map,contains_iff_mem]
 constructor
 ·rintro ⟨d,⟨t,ht,rfl⟩,e⟩
  rw [PyData.eqv] at e;have:t=i:=by simpa using e
  rw [<-this];exact ht
 ·intro h
  exact ⟨.int i,⟨i,h,rfl⟩,by rw [PyData.eqv];simp⟩
theorem yU {xs:List D} (h:g9 xs):PyData.canLayAll0 xs=true/\PyData.depthAll xs=0:=by
 induction xs with
 | nil=>exact ⟨rfl,rfl⟩
 | cons a r ih=>
  obtain ⟨n,rfl⟩:=h a mem_cons_self;have q:=ih fun x hx=>h x (LX _ hx)
  simp [PyData.canLayAll0,PyData.canLay0,PyData.depthAll,PyData.depth,q.1,q.2]
theorem Ko {xs:List D} (h:gz xs):PyData.canLayAll0 xs=true/\PyData.depthAll xs=0:=by
 induction xs with
 | nil=>exact ⟨rfl,rfl⟩
 | cons a r ih=>
  obtain ⟨n,rfl,hn⟩:=h a mem_cons_self;have q:=ih fun x hx=>h x (LX _ hx)
  simp [PyData.canLayAll0,PyData.canLay0,PyData.depthAll,PyData.depth,q.1,q.2,hn]
theorem qu {ms:List D} (h:∀r∈ms,∃xs,r=.list xs/\PyData.canLayAll0 xs=true/\PyData.depthAll xs=0):PyData.canLayAll0 ms=true/\PyData.depthAll ms<=1:=by
 induction ms with
 | nil=>exact ⟨rfl,Nat.zero_le _⟩
 | cons a r ih=>
  obtain ⟨xs,rfl,h1,h2⟩:=h a mem_cons_self;have q:=ih fun x hx=>h x (LX _ hx)
  refine ⟨by simp [PyData.canLayAll0,PyData.canLay0,q.1,h1],?_⟩
  rw [PyData.depthAll,PyData.depth,h2];exact Nat.max_le.mpr ⟨by omega,q.2⟩
noncomputable def has (x:Str) (d:D):Bool:=match d with
 | .list xs=>xs.any fun y=>PyData.eqv y (.str x)
 | _=>false
theorem CZ {x:Str} {xs:List D} (hx:PyData.strOk x=true) (h:gz xs):bf false (.str x) (.list xs)=some (.bool (has x (.list xs))):=by
 unfold bf;simp only [sh_str hx,xw h,Bool.and_self,if_true]
 rfl
theorem rK {ts:List Int} {i:Int}:bf true (.int i) (.list (ts.map .int))=some (.bool (!ts.contains i)):=by
 have h:=vF (ts:=ts) (i:=i)
 unfold bf at h ⊢
 simp only [Ax,Iw AG,Bool.and_self,if_true,Bool.false_eq_true,if_false] at h ⊢
 have h:=Option.some.inj h
 injection h with h
 rw [h]
end KC
namespace T
open PySem PySem.Spec L2
open PyProof.Rows hiding St
section
variable {Γ Γ1:Ev} {fa fb fc:F1} {fl:FL} {p:PV} {i n:Nat} {ga gb:FB} {g1 g2:FS}
@[simp] theorem JO:sizeLine=16777216:=rfl
@[simp] theorem wO {α β:Type} {a:α} {e:Ev} {k:α->Ev->Out β}:(Out.ok a e).bind k=k a e:=rfl
@[simp] theorem KY {d:D}:eK d Γ=.ok ⟨.leaf,d⟩ Γ:=rfl
@[simp] theorem KW:ag Γ=.ok [] Γ:=rfl
@[simp] theorem JH:aN Γ=.ok true Γ:=rfl
@[simp] theorem JL:aH Γ=.nx Γ:=rfl
@[simp] theorem J3:ae fa fl Γ=(fa Γ).bind fun p Γ1=>(fl Γ1).bind fun ps Γ2=>.ok (p::ps) Γ2:=rfl
@[simp] theorem BO {g:D->D->Option D}:ay g fa fb Γ=(fa Γ).bind fun p Γ1=>(fb Γ1).bind fun q Γ2=>match g p.d q.d with | some d=>.ok ⟨.leaf,d⟩ Γ2 | none=>.no:=rfl
@[simp] theorem Ls {g:List D->Option D}:aS g fl Γ=(fl Γ).bind fun ps Γ'=>match g (ps.map (·.d)) with | some d=>.ok ⟨.leaf,d⟩ Γ' | none=>.no:=rfl
@[simp] theorem Fl {g:D->Option Bool}:aL g fa Γ=(fa Γ).bind fun p Γ'=>match g p.d with | some b=>.ok b Γ' | none=>.no:=rfl
@[simp] theorem J5:bY ga Γ=(ga Γ).bind fun c Γ'=>.ok (!c) Γ':=rfl
@[simp] theorem J6:cx ga gb Γ=(ga Γ).bind fun c Γ'=>if c then gb Γ' else .ok false Γ':=rfl
@[simp] theorem K5:d5 ga gb Γ=(ga Γ).bind fun c Γ'=>if c then .ok true Γ' else gb Γ':=rfl
@[simp] theorem K4:oN ga fa fb Γ=(ga Γ).bind fun b Γ'=>if b then fa Γ' else fb Γ':=rfl
@[simp] theorem J0:cV fa fb Γ=(fa Γ).bind fun p Γ=>match p.d with | .bool true=>fb Γ | .bool false=>.ok ⟨.leaf,.bool false⟩ Γ | _=>.no:=rfl
@[simp] theorem JZ:oK fa Γ=(fa Γ).bind fun p Γ=>match p.d with | .bool b=>.ok ⟨.leaf,.bool (!b)⟩ Γ | _=>.no:=rfl
@[simp] theorem eo:ak g1 g2 Γ=match g1 Γ with | .nx Γ'=>g2 Γ' | .rt p=>.rt p | .bk Γ'=>.bk Γ' | .ct Γ'=>.ct Γ' | .er c Γ'=>.er c Γ' | .no=>.no:=by
 unfold ak
 cases g1 Γ<;>rfl
@[simp] theorem og {k:PV->Ev->dG}:gS fa k Γ=match fa Γ with | .ok p Γ1=>k p Γ1 | .er c Γ1=>.er c Γ1 | .no=>.no:=by
 unfold gS
 cases fa Γ<;>rfl
@[simp] theorem JT:bD ga g1 g2 Γ=match ga Γ with | .ok b Γ1=>if b then g1 Γ1 else g2 Γ1 | .er c Γ1=>.er c Γ1 | .no=>.no:=by
 unfold bD
 cases ga Γ<;>rfl
@[simp] theorem HH {b:Bool}:ao (.bool b)=some b:=rfl
@[simp] theorem JV {b:Bool}:bh (.bool b)=some b:=rfl
@[simp] theorem HF {xs:List D}:bh (.list xs)=some (!xs.isEmpty):=rfl
noncomputable def HN (p:PV):PV:=match p.s with
 | .leaf=>p
 | _=>⟨.view,p.d⟩
@[simp] theorem uY {d:D}:HN ⟨.leaf,d⟩=⟨.leaf,d⟩:=rfl
@[simp] theorem KP {s:Sh} {d:D}:HN ⟨.lst s,d⟩=⟨.view,d⟩:=rfl
@[simp] theorem KO {s:List Sh} {d:D}:HN ⟨.tup s,d⟩=⟨.view,d⟩:=rfl
@[simp] theorem ml:af i Γ=match Γ[i]? with | some (some p)=>.ok (HN p) Γ | _=>.no:=by
 unfold af
 cases h:Γ[i]? with
 | none=>rfl
 | some o=>
  cases o with
  | none=>rfl
  | some p=>
   obtain ⟨s,d⟩:=p
   cases s<;>rfl
@[simp] theorem JM:bR i Γ=match Γ[i]? with | some (some p)=>.ok p (Γ.set i none) | _=>.no:=rfl
@[simp] theorem BR {d:D}:coer .leaf ⟨.leaf,d⟩=true:=rfl
@[simp] theorem HJ {s:Sh} {d:D}:coer .leaf ⟨.lst s,d⟩=true:=rfl
@[simp] theorem HI {s:List Sh} {d:D}:coer .leaf ⟨.tup s,d⟩=true:=rfl
@[simp] theorem HK {i:Int} {s:Sh}:coer .leaf ⟨s,.int i⟩=true:=by cases s<;>rfl
@[simp] theorem HL {b:Bool} {s:Sh}:coer .leaf ⟨s,.bool b⟩=true:=by cases s<;>rfl
@[simp] theorem JS:Sh.isView .leaf=false:=rfl
@[simp] theorem JR {s:Sh}:Sh.isView (.lst s)=false:=rfl
@[simp] theorem JQ {s:List Sh}:Sh.isView (.tup s)=false:=rfl
@[simp] theorem pS {own:Bool}:ax own i fa Γ=match fa Γ with | .ok p Γ1=>(if i<Γ1.length then (if own&&!p.s.isView then .nx (Γ1.set i (some p)) else if T.coer .leaf p then .nx (Γ1.set i (some ⟨.leaf,p.d⟩)) else .no) else .no) | .er c Γ1=>.er c Γ1 | .no=>.no:=by
 unfold ax;rw [og]
@[simp] theorem pT:aF fa Γ=match fa Γ with | .ok p Γ1=>(if p.s.isView then (if bz p.d then .rt ⟨.leaf,p.d⟩ else .no) else .rt p) | .er c Γ1=>.er c Γ1 | .no=>.no:=by
 unfold aF;rw [og]
@[simp] theorem J1:b9 fa Γ=match fa Γ with | .ok p Γ1=>.nx Γ1 | .er c Γ1=>.er c Γ1 | .no=>.no:=by
 unfold b9;rw [og]
@[simp] theorem J4 {den:List D->Res}:aj n den fl Γ=(fl Γ).bind fun ps Γ'=>if ps.length=n then (match den (ps.map (·.d)) with | .ok p=>if ps.all (T.coer .leaf) then .ok p Γ' else if bz p.d then .ok ⟨.leaf,p.d⟩ Γ' else .ok ⟨.view,p.d⟩ Γ' | _=>.no) else .no:=rfl
@[simp] theorem JY {a b:Int}:aW (.int a) (.int b)=some (.int (a+b)):=rfl
@[simp] theorem JW {a b:Int}:gSub (.int a) (.int b)=some (.int (a-b)):=rfl
@[simp] theorem K3 {a b:Int}:gv (.int a) (.int b)=some (.bool (decide (a<b))):=rfl
@[simp] theorem Fi {a b:Int}:fI (.int a) (.int b)=some (.bool (decide (b<a))):=rfl
@[simp] theorem JX {ds:List D}:aG [.list ds]=some (.int ds.length):=rfl
@[simp] theorem HG {ds:List D}:aG [.tuple ds]=some (.int ds.length):=rfl
noncomputable def mV (p q:PV):Ev->Out PV:=ai (fun Γ=>.ok p Γ) (fun Γ=>.ok q Γ)
@[simp] theorem jL:ai fa fb Γ=(fa Γ).bind fun p Γ1=>(fb Γ1).bind fun q Γ2=>mV p q Γ2:=by
 unfold mV ai aX
 cases fa Γ with
 | ok p Γ1=>simp only [wO]
 | er c Γ1=>rfl
 | no=>rfl
@[simp] theorem zK {ds:List D} {k:Int} {s:Sh}:mV ⟨.leaf,.tuple ds⟩ ⟨s,.int k⟩ Γ=match eY ds k with | some d=>.ok ⟨.leaf,d⟩ Γ | none=>.no:=by
 unfold mV ai aX eY;simp only [wO]
 cases h:eF ds.length k with
 | none=>rfl
 | some j=>
  simp only [Option.bind_some]
  cases h2:ds[j]? with
  | none=>rfl
  | some d=>rfl
@[simp] theorem zL {ds:List D} {k:Int} {s:Sh}:mV ⟨.leaf,.list ds⟩ ⟨s,.int k⟩ Γ=match eY ds k with | some d=>.ok ⟨.leaf,d⟩ Γ | none=>.no:=by
 unfold mV ai aX eY;simp only [wO]
 cases h:eF ds.length k with
 | none=>rfl
 | some j=>
  simp only [Option.bind_some]
  cases h2:ds[j]? with
  | none=>rfl
  | some d=>rfl
@[simp] theorem K2 {ds:List D} {k:Int} {s:Sh}:mV ⟨.view,.list ds⟩ ⟨s,.int k⟩ Γ=match eY ds k with | some d=>.ok ⟨if bz d then .leaf else .view,d⟩ Γ | none=>.no:=by
 unfold mV ai aX eY;simp only [wO]
 cases h:eF ds.length k with
 | none=>rfl
 | some j=>
  simp only [Option.bind_some]
  cases h2:ds[j]? with
  | none=>rfl
  | some d=>rfl
@[simp] theorem Fo {α:Type} {a:α} {r:List α}:eY (a::r) 0=some a:=by
 simp [eY,eF]
@[simp] theorem K7 {α:Type} {a b:α} {r:List α}:eY (a::b::r) 1=some b:=by
 have:(1:Int)<(r.length:Int)+1+1:=by omega
 simp [eY,eF,this]
@[simp] theorem Fm {α:Type} {a b c:α} {r:List α}:eY (a::b::c::r) 2=some c:=by
 have:(2:Int)<(r.length:Int)+1+1+1:=by omega
 simp [eY,eF,this]
theorem DL {α:Type} {xs:List α} {k:Nat} {x:α} (h:xs[k]?=some x):eY xs (k:Int)=some x:=by
 have hk:=(L0 h).1
 have:(k:Int)<(xs.length:Int):=by omega
 simp [eY,eF,this,h]
end
section
variable {Γ:Ev} {fa fb:F1} {i:Nat}
@[simp] theorem KZ {c:String}:gy c fa Γ=(fa Γ).bind fun p Γ=>.ok ⟨.leaf,.bool (kI (uq p.d) c)⟩ Γ:=rfl
@[simp] theorem JN {s:Sh} {fl:FL}:aM s fl Γ=(fl Γ).bind fun ps Γ'=>if !s.isView&&ps.all (T.coer s)&&decide (ps.length<=sizeLine) then .ok ⟨.lst s,.list (ps.map (·.d))⟩ Γ' else .no:=rfl
@[simp] theorem KM {fl:FL}:bB fl Γ=(fl Γ).bind fun ps Γ'=>if ps.all tok&&decide (ps.length<=sizeLine) then .ok ⟨.tup (ps.map zx),.tuple (ps.map (·.d))⟩ Γ' else .no:=rfl
@[simp] theorem JK {d:D}:tok ⟨.leaf,d⟩=true:=rfl
@[simp] theorem JJ {s:Sh} {d:D}:tok ⟨.lst s,d⟩=true:=rfl
@[simp] theorem JI {s:List Sh} {d:D}:tok ⟨.tup s,d⟩=true:=rfl
@[simp] theorem K0 {a:D}:cN false a .none=some (.bool (tf a)):=rfl
@[simp] theorem JP {a:D}:cN true a .none=some (.bool (!tf a)):=rfl
@[simp] theorem KN:yI fa fb Γ=(fa Γ).bind fun p Γ1=>(fb Γ1).bind fun q Γ2=>match p.d,q.d with | .tuple xs,.int k=>if !p.s.isView&&decide (1<=k)&&decide (k<=xs.length) then .ok ⟨.leaf,.tuple (xs.drop k.toNat)⟩ Γ2 else .no | _,_=>.no:=rfl
@[simp] theorem K1 {neg:Bool} {tab:List (Str×Int)}:wa neg tab fa Γ=(fa Γ).bind fun p Γ=>match p.d with | .str k=>.ok ⟨.leaf,.bool (if neg then !(cj k tab).isSome else (cj k tab).isSome)⟩ Γ | _=>.no:=rfl
@[simp] theorem JU {tab:List (Str×Int)}:qp tab fa Γ=(fa Γ).bind fun p Γ=>match p.d with | .str k=>(match cj k tab with | some i=>.ok ⟨.leaf,.int i⟩ Γ | none=>.no) | _=>.no:=rfl
@[simp] theorem BP:eu fa Γ=(fa Γ).bind fun p Γ'=>match p.d with | .tuple ds=>if dA p ds then .ok ⟨ds,!p.s.isView⟩ Γ' else .no | _=>.no:=rfl
@[simp] theorem BQ:aU fa Γ=(fa Γ).bind fun p Γ'=>match p.d with | .list ds=>if dA p ds then .ok ⟨ds,!p.s.isView⟩ Γ' else .no | _=>.no:=rfl
@[simp] theorem KU {d:D} {ds:List D}:dA ⟨.leaf,d⟩ ds=true:=rfl
@[simp] theorem KS {s:Sh} {d:D} {ds:List D}:dA ⟨.lst s,d⟩ ds=true:=rfl
@[simp] theorem KR {s:List Sh} {d:D} {ds:List D}:dA ⟨.tup s,d⟩ ds=true:=rfl
@[simp] theorem K6 {f:F1}:gJ i f Γ=match Γ[i]? with | some (some ⟨.leaf,.int a⟩)=>gS f (wz i a) Γ | _=>.no:=rfl
@[simp] theorem J7 {a b:Int} {s:Sh}:wz i a ⟨s,.int b⟩ Γ=if i<Γ.length then .nx (Γ.set i (L9 (.int (a+b)))) else .no:=rfl
theorem Fj {f:F1} {p:PV} {ds es:List D} (h:Γ[i]?=some (some ⟨.lst .leaf,.list ds⟩)) (hf:f Γ=.ok p Γ) (hp:p.d=.tuple es) (ho:p.s.isView=false) (hn:ds.length+es.length<=10000):ku i f Γ=.nx (Γ.set i (some ⟨.lst .leaf,.list (ds++es)⟩)):=by
 have hb:(10000:Nat)<=sizeLine:=by decide
 obtain ⟨s,d⟩:=p;simp only at hp ho
 subst hp;unfold ku zk;rw [h];simp only [if_true,og,hf]
 unfold Dl dA;rw [h];have:ds.length+es.length<=sizeLine:=by omega
 simp only [ho,Bool.not_false,Bool.true_or,decide_eq_true this,Bool.and_self,if_true]
theorem lB {β:Type} {c:FB} {g:FS} {G:β->Ev} {test:β->Bool} {step:β->β} {Inv:β->Prop} {meas:β->Nat} (hc:∀b,Inv b->c (G b)=.ok (test b) (G b)) (hg:∀b,Inv b->test b=true->g (G b)=.nx (G (step b))/\Inv (step b)/\meas (step b)<meas b) :
  ∀(N:Nat) (b:β),Inv b->meas b<N->∃b',qK c g N (G b)=.nx (G b')/\Inv b'/\test b'=false
 | 0,b,_,h=>by omega
 | N+1,b,hi,hm=>by
  rw [qK,hc b hi]
  cases ht:test b with
  | false=>exact ⟨b,rfl,hi,ht⟩
  | true=>
   obtain ⟨h1,h2,h3⟩:=hg b hi ht;obtain ⟨b',e,q⟩:=lB hc hg N (step b) h2 (by omega)
   refine ⟨b',?_,q⟩
   simp only [h1]
   exact e
theorem Jc {β:Type} {c:FB} {g:FS} {G:β->Ev} {test:β->Bool} {Inv:β->Prop} {meas:β->Nat} (hc:∀b,Inv b->c (G b)=.ok (test b) (G b)) (hg:∀b,Inv b->test b=true->∃b',g (G b)=.nx (G b')/\Inv b'/\meas b'<meas b) :
  ∀(N:Nat) (b:β),Inv b->meas b<N->∃b',qK c g N (G b)=.nx (G b')/\Inv b'/\test b'=false
 | 0,b,_,h=>by omega
 | N+1,b,hi,hm=>by
  rw [qK,hc b hi]
  cases ht:test b with
  | false=>exact ⟨b,rfl,hi,ht⟩
  | true=>
   obtain ⟨b1,h1,h2,h3⟩:=hg b hi ht;obtain ⟨b',e,q⟩:=Jc hc hg N b1 h2 (by omega)
   refine ⟨b',?_,q⟩
   simp only [h1]
   exact e
theorem IB {fa:F1} {p:PV} {ds:List D} (ho:Γ[i]?=some (some ⟨.lst .leaf,.list ds⟩)) (h:fa Γ=.ok p Γ) (hc:coer .leaf p=true) (hn:ds.length<=9000):dS i fa Γ=.nx (Γ.set i (some ⟨.lst .leaf,.list (ds++[p.d])⟩)):=by
 have hb:(10000:Nat)<=sizeLine:=by decide
 unfold dS DN;rw [ho];simp only [if_true,og,h]
 unfold za;rw [ho];have:ds.length<sizeLine:=by omega
 simp only [hc,decide_eq_true this,Bool.and_self,if_true]
end
theorem Jf {α:Type} {en:α->D} {i:Nat} {fc:FB} {fe:F1} {s:Sh} {c:α->Bool} {f:α->PV} {Γ:Ev} (hΓ:Γ.set i none=Γ):∀(r:List α) (acc:List D),(∀x∈r,fc (Γ.set i (L9 (en x)))=.ok (c x) (Γ.set i (L9 (en x)))) ->
  (∀x∈r,c x=true->fe (Γ.set i (L9 (en x)))=.ok (f x) (Γ.set i (L9 (en x)))/\coer s (f x)=true)->acc.length+r.length<=sizeLine->qF i fc fe s (r.map en) Γ acc=.ok (acc++((r.filter c).map fun x=>(f x).d)) Γ
 | [],acc,_,_,_=>by simp [qF]
 | x::r,acc,hc,he,hl=>by
  have h1:=hc x mem_cons_self
  have hl1:acc.length<sizeLine:=by simp only [length_cons] at hl;omega
  have back:(Γ.set i (L9 (en x))).set i none=Γ:=by rw [set_set];exact hΓ
  rw [map_cons,qF,h1]
  cases hcd:c x with
  | false=>
   dsimp only;rw [if_pos hl1,back,Jf hΓ r acc (fun d hd=>hc d (LX _ hd)) (fun d hd=>he d (LX _ hd)) (by simp only [length_cons] at hl;omega)]
   rw [List.filter_cons_of_neg (by rw [hcd];exact Bool.false_ne_true)]
  | true=>
   obtain ⟨h2,h3⟩:=he x mem_cons_self hcd;dsimp only;rw [h2];dsimp only;rw [h3,decide_eq_true hl1,Bool.and_self,if_pos rfl,back,Jf hΓ r (acc++[(f x).d]) (fun d hd=>hc d (LX _ hd)) (fun d hd=>he d (LX _ hd)) (by simp only [length_cons,length_append,length_nil] at hl ⊢;omega)]
   rw [List.filter_cons_of_pos hcd,map_cons,append_assoc];rfl
theorem tP {α:Type} (en:α->D) (xs:List α) (c:α->Bool) (f:α->PV) {s:Sh} {i:Nat} {fi:FI} {fc:FB} {fe:F1} {st:Bool} {Γ:Ev} (hi:fi Γ=.ok ⟨xs.map en,st⟩ Γ) (hl:i<Γ.length) (hs:s.isView=false) (hn:xs.length<=10000)
  (hc:∀x∈xs,fc (Γ.set i (L9 (en x)))=.ok (c x) (Γ.set i (L9 (en x)))) (he:∀x∈xs,c x=true->fe (Γ.set i (L9 (en x)))=.ok (f x) (Γ.set i (L9 (en x)))/\coer s (f x)=true) :
  aA s i fi fc fe Γ=.ok ⟨.lst s,.list ((xs.filter c).map fun x=>(f x).d)⟩ Γ:=by
 have hb:(10000:Nat)<=sizeLine:=by decide
 unfold aA;rw [hi];unfold Out.bind;dsimp only;rw [Jf (c:=c) (f:=f) (by rw [set_set]) xs [] (fun d hd=>by rw [set_set];exact hc d hd) (fun d hd=>by rw [set_set];exact he d hd) (by simp;omega)]
 dsimp only;rw [hs,decide_eq_true hl];simp only [Bool.not_false,Bool.and_self,if_true,nil_append,set_set]
 have:Γ.set i (Γ.getD i none)=Γ:=by
  apply AH
  rw [LW,LV hl];rfl
 rw [this]
theorem lz {α:Type} (en:α->D) (xs:List α) (f:α->PV) {s:Sh} {i:Nat} {fi:FI} {fe:F1} {st:Bool} {Γ:Ev} (hi:fi Γ=.ok ⟨xs.map en,st⟩ Γ) (hl:i<Γ.length) (hs:s.isView=false) (hn:xs.length<=10000)
  (he:∀x∈xs,fe (Γ.set i (L9 (en x)))=.ok (f x) (Γ.set i (L9 (en x)))/\coer s (f x)=true):aA s i fi aN fe Γ=.ok ⟨.lst s,.list (xs.map fun x=>(f x).d)⟩ Γ:=by
 rw [tP (fc:=aN) en xs (fun _=>true) f hi hl hs hn (fun _ _=>rfl) fun x hx _=>he x hx,List.filter_eq_self.mpr fun _ _=>rfl]
theorem Hm {α β:Type} (en:α->D) (step:β->α->β) {Inv:β->List α->Prop} {i:Nat} {body:FS} {G:β->Option PV->Ev} (hi:∀b x,i<(G b x).length) (hset:∀b x y,(G b x).set i y=G b y)
  (hb:∀b a r,Inv b (a::r)->body (G b (L9 (en a)))=.nx (G (step b a) (L9 (en a)))/\Inv (step b a) r):∀(xs:List α) (b:β) (x:Option PV),Inv b xs->∃y,di i body (xs.map en) (G b x)=.nx (G (xs.foldl step b) y)/\Inv (xs.foldl step b) []
 | [],b,x,h=>⟨x,rfl,h⟩
 | a::r,b,x,h=>by
  obtain ⟨h1,h2⟩:=hb b a r h;obtain ⟨y,e,h3⟩:=Hm en step hi hset hb r (step b a) (L9 (en a)) h2
  refine ⟨y,?_,h3⟩
  rw [map_cons,di,if_pos (hi b x),hset,h1];exact e
end T
namespace KC
open PySem PySem.Spec L2 T PySem.SeqAt
open PyProof.Rows hiding St
noncomputable abbrev rm (t:Nat):D:=.int (t:Int)
noncomputable abbrev aI (r:List Nat):D:=.list (r.map rm)
theorem Et {n:Nat}:cz 0 n=(List.range n).map rm:=by
 unfold cz;simp
theorem jx {t:Nat} {r:List Nat}:bf false (rm t) (aI r)=some (.bool (r.contains t)):=by
 have h:=vF (ts:=r.map fun t:Nat=>(t:Int)) (i:=t)
 rw [map_map] at h;refine h.trans ?_
 congr 2
 rw [Bool.eq_iff_iff,contains_iff_mem,contains_iff_mem,mem_map];exact ⟨fun ⟨a,h1,h2⟩=>by rw [<-Int.ofNat_inj.mp h2];exact h1,fun h=>⟨t,h,rfl⟩⟩
theorem I0 {t:Nat} {r:List Nat}:bf true (rm t) (aI r)=some (.bool (!r.contains t)):=by
 have h:=rK (ts:=r.map fun t:Nat=>(t:Int)) (i:=t)
 rw [map_map] at h;refine h.trans ?_
 congr 3
 rw [Bool.eq_iff_iff,contains_iff_mem,contains_iff_mem,mem_map];exact ⟨fun ⟨a,h1,h2⟩=>by rw [<-Int.ofNat_inj.mp h2];exact h1,fun h=>⟨t,h,rfl⟩⟩
structure Wd where
 n:Nat
 os:List D
 m:List (List Str)
 s:List (List Nat)
noncomputable def ur (r:List Str):D:=.list (r.map .str)
noncomputable def Wd.enc (w:Wd):D:=fK w.os (w.m.map ur) (w.s.map aI)
structure Wd.Ok (w:Wd):Prop where
 g:Gw (w.n:Int) w.n w.os (w.m.map ur) (w.s.map aI)
 h1:1<=w.n
 h24:w.n<=24
 lm:w.m.length=w.n
 ls:w.s.length=w.n
 st:∀r∈w.s,r≠[]/\r.length<=30/\∀t∈r,t<w.n
 mc:∀r∈w.m,∀c∈r,PyData.strOk c=true
noncomputable def Wd.stp (w:Wd) (r:Nat):List Nat:=w.s.getD r []
noncomputable def Wd.mks (w:Wd) (r:Nat):List Str:=w.m.getD r []
theorem Wd.Ok.at2 {w:Wd} (h:w.Ok) {r:Nat} (hr:r<w.n):eY (w.s.map aI) (r:Int)=some (aI (w.stp r)):=by
 refine DL ?_
 unfold Wd.stp;rw [getElem?_map,LW,LV (by rw [h.ls];exact hr)]
 rfl
theorem Wd.Ok.at1 {w:Wd} (h:w.Ok) {r:Nat} (hr:r<w.n):eY (w.m.map ur) (r:Int)=some (ur (w.mks r)):=by
 refine DL ?_
 unfold Wd.mks;rw [getElem?_map,LW,LV (by rw [h.lm];exact hr)]
 rfl
theorem Wd.Ok.stp_lt {w:Wd} (h:w.Ok) {r t:Nat} (ht:t∈w.stp r):t<w.n:=by
 unfold Wd.stp at ht;rw [LW] at ht
 cases e:w.s[r]? with
 | none=>rw [e] at ht;simp at ht
 | some x=>rw [e] at ht;exact (h.st x (mem_of_getElem? e)).2.2 t ht
theorem Wd.Ok.stp_ne {w:Wd} (h:w.Ok) {r:Nat} (hr:r<w.n):w.stp r≠[]:=by
 unfold Wd.stp;rw [LW,LV (by rw [h.ls];exact hr)]
 exact (h.st _ (getElem_mem _)).1
theorem gX {w:Wd} (h:w.Ok) {r:List Nat}:cH [w.enc,aI r]=.ok ⟨.lst .leaf,aI ((List.range w.n).filter fun t=>!r.contains t)⟩:=by
 have lo:=h.g.lo
 have h24:=h.h24
 refine aR ?_
 have e:aA .leaf 2 (dq (ae (aS aG (ae (ai (af 0) (eK (.int 0))) ag)) ag)) (aL ao (ay (bf true) (af 2) (af 1))) (af 2) (aZ 3 [w.enc,aI r])=.ok ⟨.lst .leaf,.list (((List.range w.n).filter fun t=>!r.contains t).map fun t=>rm t)⟩ (aZ 3 [w.enc,aI r]):=by
  refine tP rm (List.range w.n) (fun t=>!r.contains t) (fun t=>⟨.leaf,rm t⟩) (st:=true) ?_ (by simp [aZ]) rfl (by simp;omega) ?_ ?_
  ·refine (nN (k:=(w.n:Int)) (ps:=[⟨.leaf,.int w.n⟩]) ?_ rfl (by omega) (by omega)).trans (by rw [<-Et];rfl)
   simp [aZ,Wd.enc,lo]
  ·intro t ht
   simp [aZ,I0]
  ·intro t ht _
   simp [aZ]
 unfold fx;rw [pT,e];rfl
inductive Wr where
 | yes | mark | not | sn | an | sa | aa | and | or | su | au
 deriving DecidableEq
noncomputable def Wr.t:Wr->Str
 | .yes => "yes" | .mark => "mark" | .not => "not" | .sn => "some next" | .an => "all next" | .sa => "some always" | .aa => "all always" | .and => "and" | .or => "or" | .su => "some until" | .au => "all until"
theorem dP (a b:Wr):bC (.str a.t) (.str b.t)=some (.bool (decide (a=b))):=by cases a<;>cases b<;>kernel_rfl
@[simp] theorem Aq (a:Wr):bC (.str a.t) (.str "yes")=some (.bool (decide (a=.yes))):=dP a .yes
@[simp] theorem DR (a:Wr):bC (.str a.t) (.str "mark")=some (.bool (decide (a=.mark))):=dP a .mark
@[simp] theorem Ao (a:Wr):bC (.str a.t) (.str "not")=some (.bool (decide (a=.not))):=dP a .not
@[simp] theorem An (a:Wr):bC (.str a.t) (.str "and")=some (.bool (decide (a=.and))):=dP a .and
@[simp] theorem jV (a:Wr):bC (.str a.t) (.str "or")=some (.bool (decide (a=.or))):=dP a .or
@[simp] theorem CW (a:Wr):bf false (.str a.t) ck=some (.bool (decide (a=.su\/a=.au))):=by cases a<;>kernel_rfl
@[simp] theorem HS (a:Wr):bf true (.str a.t) ck=some (.bool (!decide (a=.su\/a=.au))):=by cases a<;>kernel_rfl
@[simp] theorem Kj (a:Wr):bf false (.str a.t) dg=some (.bool (decide (a=.sa\/a=.aa))):=by cases a<;>kernel_rfl
@[simp] theorem HU (a:Wr):bf true (.str a.t) dg=some (.bool (!decide (a=.sa\/a=.aa))):=by cases a<;>kernel_rfl
noncomputable def Wr.some (a:Wr):Bool:=decide (a=.sn\/a=.su\/a=.aa)
@[simp] theorem vI (a:Wr):bf false (.str a.t) bE=.some (.bool a.some):=by cases a<;>kernel_rfl
noncomputable def Wr.ar:Wr->Option Int
 | .yes=>Option.some 0 | .mark=>none | .and=>Option.some 2 | .or=>Option.some 2 | .su=>Option.some 2 | .au=>Option.some 2 | _=>Option.some 1
@[simp] theorem HW (a:Wr):cj a.t hX=a.ar:=by cases a<;>kernel_rfl
inductive U5 where
 | not | sn | an | sa | aa
 deriving DecidableEq
inductive B4 where
 | and | or | su | au
 deriving DecidableEq
noncomputable def U5.w:U5->Wr
 | .not=>.not | .sn=>.sn | .an=>.an | .sa=>.sa | .aa=>.aa
noncomputable def B4.w:B4->Wr
 | .and=>.and | .or=>.or | .su=>.su | .au=>.au
inductive Sn where
 | yes | mk (c:Str) | un (k:U5) (a:Sn) | bi (k:B4) (a b:Sn)
 deriving DecidableEq
noncomputable def Sn.w:Sn->Wr
 | .yes=>.yes | .mk _=>.mark | .un k _=>k.w | .bi k _ _=>k.w
noncomputable def Sn.args:Sn->List Sn
 | .yes=>[] | .mk _=>[] | .un _ a=>[a] | .bi _ a b=>[a,b]
noncomputable def Sn.enc:Sn->D
 | .yes=>.tuple [.str Wr.yes.t] | .mk c=>.tuple [.str Wr.mark.t,.str c] | .un k a=>.tuple [.str k.w.t,a.enc] | .bi k a b=>.tuple [.str k.w.t,a.enc,b.enc]
noncomputable def Sn.size:Sn->Nat
 | .yes=>1 | .mk _=>1 | .un _ a=>a.size+1 | .bi _ a b=>a.size+b.size+1
noncomputable def Sn.dep:Sn->Nat
 | .yes=>1 | .mk _=>1 | .un _ a=>a.dep+1 | .bi _ a b=>max a.dep b.dep+1
noncomputable def fT:List Str:=["a", "b", "c", "d", "e", "f"]
noncomputable def Sn.ok:Sn->Prop
 | .yes=>True | .mk c=>c∈fT | .un _ a=>a.ok | .bi _ a b=>a.ok/\b.ok
theorem ID {c:Str} (h:c∈fT):PyData.strOk c=true/\D7 (.str c)=true:=by
 unfold fT at h;simp only [mem_cons,not_mem_nil,or_false] at h
 rcases h with rfl | rfl | rfl | rfl | rfl | rfl<;>decide +kernel
noncomputable def Sn.psh:Sn->Sh
 | .mk _=>.tup [] | _=>.leaf
@[simp] theorem Fy (s:Sn):s.psh.isView=false:=by cases s<;>rfl
theorem Jg (s:Sn):aV [s.enc]=.ok ⟨s.psh,.tuple (s.args.map Sn.enc)⟩:=by
 cases s with
 | yes=>simp [aV,aE,dk,aZ,Sn.enc,Sn.args,Sn.psh]
 | mk c=>simp [aV,aE,dk,aZ,Sn.enc,Sn.args,Sn.psh]
 | un k a=>cases k<;>simp [aV,aE,dk,aZ,Sn.enc,Sn.args,Sn.psh,U5.w]
 | bi k a b=>cases k<;>simp [aV,aE,dk,aZ,Sn.enc,Sn.args,Sn.psh,B4.w]
theorem oT {s:Sn} (h:s.ok):bF [s.enc]=.ok ⟨.leaf,.bool true⟩:=by
 cases s with
 | yes=>simp [bF,aE,cL,aZ,Sn.enc,kI,uq,Wr.ar,eq_int]
 | mk c=>
  obtain ⟨h1,h2⟩:=ID h;simp [bF,aE,cL,aZ,Sn.enc,kI,uq,Wr.ar,eq_int,vH h1,h2]
 | un k a=>cases k<;>simp [bF,aE,cL,aZ,Sn.enc,kI,uq,Wr.ar,U5.w,eq_int]
 | bi k a b=>cases k<;>simp [bF,aE,cL,aZ,Sn.enc,kI,uq,Wr.ar,B4.w,eq_int]
noncomputable def fL (l:List Sn):D:=.list (l.map Sn.enc)
noncomputable def jI (l:List Sn):Nat:=(l.map Sn.size).sum
theorem Sn.size_pos (s:Sn):1<=s.size:=by cases s<;>simp [Sn.size]
theorem Sn.args_le (s:Sn):s.args.length<=2:=by cases s<;>simp [Sn.args]
theorem Sn.args_sz (s:Sn):jI s.args+1=s.size:=by cases s<;>simp [Sn.args,jI,Sn.size]
theorem yk (l:List Sn):l.length<=jI l:=by
 induction l with
 | nil=>simp [jI]
 | cons a r ih=>
  have:=a.size_pos
  simp only [jI,map_cons,sum_cons,length_cons] at ih ⊢
  omega
theorem xu (a b:List Sn):jI (a++b)=jI a+jI b:=by simp [jI]
theorem uD (l:List Sn):jI (l.flatMap Sn.args)+l.length=jI l:=by
 induction l with
 | nil=>simp [jI]
 | cons a r ih=>
  have:=a.args_sz
  rw [List.flatMap_cons,xu];simp only [jI,map_cons,sum_cons,length_cons] at ih this ⊢
  omega
noncomputable def eT (l:List Sn):Nat:=l.foldr (fun s m=>max s.dep m) 0
theorem Hj (a:Sn) (r:List Sn):eT (a::r)=max a.dep (eT r):=rfl
theorem wd (a b:List Sn):eT (a++b)=max (eT a) (eT b):=by
 induction a with
 | nil=>simp [eT]
 | cons x r ih=>rw [List.cons_append,Hj,Hj,ih,Nat.max_assoc]
theorem Sn.dep_args (s:Sn):eT s.args+1=s.dep:=by cases s<;>simp [Sn.args,eT,Sn.dep]
theorem jX (l:List Sn) (h:l≠[]):eT (l.flatMap Sn.args)+1=eT l:=by
 induction l with
 | nil=>exact absurd rfl h
 | cons a r ih=>
  have:=a.dep_args
  rw [List.flatMap_cons,wd,Hj]
  cases r with
  | nil=>simp [eT] at this ⊢;omega
  | cons b t=>
   have:=ih (by simp)
   omega
theorem jm {l:List Sn} (hn:l.length<=1000):cg [fL l]=.ok ⟨.lst .leaf,fL (l.flatMap Sn.args)⟩:=by
 obtain ⟨y,e,_⟩:=Hm Sn.enc (fun (b:List Sn) a=>b++a.args) (Inv:=fun b r=>b.length+2*r.length<=2000) (i:=2) (body:=ku 1 (aj 1 aV (ae (af 2) ag))) (G:=fun b x=>[L9 (fL l),some ⟨.lst .leaf,fL b⟩,x])
  (fun _ _=>by simp) (fun _ _ _=>by simp) (fun b a r hI=>by
   have h2:=a.args_le
   simp only [length_cons] at hI
   refine ⟨?_,by simp only [length_append];omega⟩
   rw [Fj (ds:=b.map Sn.enc) (es:=a.args.map Sn.enc) (p:=⟨a.psh,.tuple (a.args.map Sn.enc)⟩) rfl ?_ rfl (by simp) (by simp only [length_map];omega)]
   ·simp [fL]
   ·simp [Jg,Fy,coer]) l [] none (by simp;omega)
 have ef:l.foldl (fun (b:List Sn) a=>b++a.args) []=l.flatMap Sn.args:=by
  have:∀(l:List Sn) (b:List Sn),l.foldl (fun (b:List Sn) a=>b++a.args) b=b++l.flatMap Sn.args:=by
   intro l;induction l with
   | nil=>intro b;simp
   | cons a r ih=>intro b;rw [List.foldl_cons,ih,List.flatMap_cons,append_assoc]
  rw [this,nil_append]
 rw [ef] at e;refine aR ?_
 have e2:cZ 2 (aU (af 0)) (ku 1 (aj 1 aV (ae (af 2) ag))) [L9 (fL l),some ⟨.lst .leaf,fL []⟩,none]=.nx [L9 (fL l),some ⟨.lst .leaf,fL (l.flatMap Sn.args)⟩,y]:=gD (cA (ds:=l.map Sn.enc) (aB rfl) rfl) e
 have e1:ax true 1 (aM .leaf ag) (aZ 3 [fL l])=.nx [L9 (fL l),some ⟨.lst .leaf,fL []⟩,none]:=by simp [aZ,fL]
 unfold eX;rw [eo,e1];simp only
 rw [eo,e2];simp
structure LS where
 ls:List (List Sn)
 l:List Sn
 many:Nat
noncomputable abbrev Ih (s:Sn) (b:LS):Ev:=[L9 s.enc,some ⟨.lst .leaf,.list (b.ls.map fL)⟩,L9 (fL b.l),L9 (.int (b.many:Int)),none]
structure LI (s:Sn) (b:LS):Prop where
 tot:(b.ls.map List.length).sum+jI b.l=s.size
 mny:b.many=(b.ls.map List.length).sum
 dep:b.ls.length+eT b.l=s.dep
 ok:∀a∈b.l,a.ok
theorem Sn.args_ok {s:Sn} (h:s.ok):∀a∈s.args,a.ok:=by
 cases s with
 | yes=>simp [Sn.args]
 | mk c=>simp [Sn.args]
 | un k a=>simpa [Sn.args,Sn.ok] using h
 | bi k a b=>simpa [Sn.args,Sn.ok] using h
theorem wc {l:List Sn} (h:l≠[]):1<=eT l:=by
 have:=jX l h
 omega
theorem oQ {s:Sn} (h:s.ok) (hs:s.size<=200) (hd:s.dep<=24):∃L:List (List Sn),eN [s.enc]=.ok ⟨.lst .leaf,.list (L.map fL)⟩/\L.length=s.dep/\(L.map List.length).sum=s.size:=by
 obtain ⟨b',e,I,ht⟩:=lB (c:=aL bh (af 2)) (G:=Ih s) (test:=fun b=>!b.l.isEmpty) (step:=fun b=>⟨b.ls++[b.l],b.l.flatMap Sn.args,b.many+b.l.length⟩) (Inv:=LI s) (meas:=fun b=>jI b.l)
  (g:=(ak (gJ 3 (aS aG (ae (af 2) ag)))
  (ak (bD (d5 (aL ao (ay fI (af 3) (eK cS))) (d5 (aL ao (ay bC (aS aG (ae (af 1) ag)) (eK cT))) (bY (aL bh (aS (bL false) (ae (aA .leaf 4 (aU (af 2)) aN (aj 1 bF (ae (af 4) ag))) ag)))))) (aF (eK .none)) aH)
  (ak (dS 1 (af 2))
  (ax false 2 (aj 1 cg (ae (af 2) ag))))))) (fun b I=>by simp [Ih,fL]) (fun b I ht=>by
   have hne:b.l≠[]:=by intro z;rw [z] at ht;simp at ht
   have t1:=I.tot
   have t2:=I.mny
   have t3:=I.dep
   have t4:=yk b.l
   have t5:=wc hne
   have t6:=uD b.l
   have t7:=jX b.l hne
   have t8:0<b.l.length:=List.length_pos_iff.mpr hne
   refine ⟨?_,⟨?_,?_,?_,?_⟩,?_⟩
   ·have c1:aA .leaf 4 (aU (af 2)) aN (aj 1 bF (ae (af 4) ag)) [L9 s.enc,some ⟨.lst .leaf,.list (b.ls.map fL)⟩,L9 (fL b.l),L9 (.int ((b.many:Int)+b.l.length)),none]=.ok ⟨.lst .leaf,.list (b.l.map fun _=>.bool true)⟩ [L9 s.enc,some ⟨.lst .leaf,.list (b.ls.map fL)⟩,L9 (fL b.l),L9 (.int ((b.many:Int)+b.l.length)),none]:=by
     refine lz Sn.enc b.l (fun _=>⟨.leaf,.bool true⟩) (st:=true) (by simp [fL]) (by simp) rfl (by omega) fun a ha=>?_
     simp [oT (I.ok a ha)]
    have c2:bL false [.list (b.l.map fun _=>.bool true)]=some (.bool true):=by
     rw [tL (f:=fun _=>true)]
     simp
    have n1:¬((200:Int)<(b.many:Int)+b.l.length):=by omega
    have n2:¬((b.ls.length:Int)=24):=by omega
    have lb:b.ls.length<=24:=by omega
    have pa:=jm (l:=b.l) (by omega)
    have ap:dS 1 (af 2) [L9 s.enc,some ⟨.lst .leaf,.list (b.ls.map fL)⟩,L9 (fL b.l),L9 (.int ((b.many:Int)+b.l.length)),none]=.nx [L9 s.enc,some ⟨.lst .leaf,.list (b.ls.map fL++[fL b.l])⟩,L9 (fL b.l),L9 (.int ((b.many:Int)+b.l.length)),none]:=
     IB rfl (aB rfl) rfl (by simp;omega)
    simp [Ih,fL,cS,cT] at c1 ap pa ⊢
    simp [c1,c2,n1,n2,eq_int,ap,pa]
   ·simp only [List.map_append,map_cons,List.map_nil,List.sum_append,sum_cons,List.sum_nil]
    omega
   ·simp only [List.map_append,map_cons,List.map_nil,List.sum_append,sum_cons,List.sum_nil]
    omega
   ·simp only [length_append,length_cons,length_nil]
    omega
   ·intro a ha
    obtain ⟨c,hc,ha⟩:=List.mem_flatMap.mp ha;exact Sn.args_ok (I.ok c hc) a ha
   ·show jI (b.l.flatMap Sn.args)<jI b.l
    omega) 1000 ⟨[],[s],0⟩ ⟨by simp [jI],by simp,by simp [eT],by simpa using h⟩ (by simp [jI];omega)
 have hl:b'.l=[]:=by simpa using ht
 refine ⟨b'.ls,?_,?_,?_⟩
 ·refine aR ?_
  have e0:Ih s ⟨[],[s],0⟩=[L9 s.enc,some ⟨.lst .leaf,.list []⟩,L9 (.list [s.enc]),L9 (.int 0),none]:=rfl
  rw [e0] at e;unfold gO;simp [aZ]
  unfold wQ;rw [e];simp
 ·have:=I.dep;rw [hl] at this;simpa [eT] using this
 ·have:=I.tot;rw [hl] at this;simpa [jI] using this
theorem fF {s:Sn} (h:s.ok) (hs:s.size<=200) (hd:s.dep<=24):bW [s.enc]=.ok ⟨.leaf,.none⟩:=by
 obtain ⟨L,e,_⟩:=oQ h hs hd;have e2:cE [s.enc]=.ok ⟨.leaf,.list (L.map fL)⟩:=by
  refine aR ?_
  simp [dQ,aZ,e,tf]
 refine qa (Γ:=[L9 s.enc]) ?_
 simp [dR,aZ,e2]
end KC
namespace KC
noncomputable def bc (rk:List (Option Nat)) (t:Nat):Option Nat:=rk.getD t none
noncomputable def led (any:Bool) (l:List Nat) (P:Nat->Prop):Prop:=if any then ∃t∈l,P t else ∀t∈l,P t
theorem led_t {l:List Nat} {P:Nat->Prop}:led true l P↔∃t∈l,P t:=by unfold led;simp
theorem led_f {l:List Nat} {P:Nat->Prop}:led false l P↔∀t∈l,P t:=by unfold led;simp
theorem xl {any:Bool} {l:List Nat} {P Q:Nat->Prop} (h:led any l P) (i:∀t∈l,P t->Q t):led any l Q:=by
 cases any with
 | true=>obtain ⟨t,ht,hp⟩:=led_t.mp h;exact led_t.mpr ⟨t,ht,i t ht hp⟩
 | false=>exact led_f.mpr fun t ht=>i t ht (led_f.mp h t ht)
structure pe (n:Nat) (st:Nat->List Nat) (ch:Nat->Bool) (thr goal:List Nat) (rk:List (Option Nat)):Prop where
 len:rk.length=n
 g:∀r,r<n->r∈goal->bc rk r=some 0
 p:∀r k,r<n->r∉goal->bc rk r=some k->0<k/\r∈thr/\led (ch r) (st r) fun t=>∃j,bc rk t=some j/\j<k
 z:∀r,r<n->bc rk r=none->r∉goal/\(r∉thr\/¬led (ch r) (st r) fun t=>bc rk t≠none)
noncomputable def inn (st:Nat->List Nat) (L:List Nat) (r:Nat):List Nat:=(st r).filter fun t=>L.contains t
structure DE (n:Nat) (st:Nat->List Nat) (own:Nat->Bool) (T X:Nat->Prop):Prop where
 lt:∀r,X r->r<n
 c:∀r,X r->led (own r) (st r) X
 a:∀S:Nat->Prop,(∀r,X r->T r->S r)->(∀r,X r->led (own r) (st r) (fun t=>X t/\S t)->S r)->∀r,X r->S r
structure Fr {α:Type} (n:Nat) (st:Nat->List Nat) (R:Nat->Prop) (M:List α) (mk:α->Nat->Prop) (X:Nat->Prop):Prop where
 lt:∀r,X r->r<n
 sub:∀r,X r->R r
 c:∀r,X r->∃t∈st r,X t
 a:∀m∈M,∀S:Nat->Prop,(∀r,X r->mk m r->S r)->(∀r,X r->(∃t∈st r,X t/\S t)->S r)->∀r,X r->S r
noncomputable def Ku (n:Nat) (L:List Nat):Prop:=∃q:Nat->Bool,L=(List.range n).filter q
open PySem PySem.Spec L2 T PySem.SeqAt
open PyProof.Rows hiding St
noncomputable def oD:Option Nat->D
 | none=>.none
 | some k=>.int (k:Int)
@[simp] theorem HR (o:Option Nat):tf (oD o)=o.isNone:=by cases o<;>rfl
@[simp] theorem HQ (o:Option Nat):bz (oD o)=true:=by cases o<;>rfl
noncomputable abbrev dE (rk:List (Option Nat)):D:=.list (rk.map oD)
theorem gQ {rk:List (Option Nat)} {t:Nat} (h:t<rk.length):eY (rk.map oD) (t:Int)=some (oD (bc rk t)):=by
 refine DL ?_
 unfold bc;rw [getElem?_map,LW,LV h];rfl
noncomputable def bP (any:Bool) (bs:List Bool):Bool:=if any then bs.any id else bs.all id
theorem yE {bs:List Bool}:bL true [.list (bs.map .bool)]=some (.bool (bs.any id)):=by
 have h:=IM (any:=true) (xs:=bs) (f:=id)
 show Option.map _ (nL _)=_
 rw [show (bs.map PyData.bool)=bs.map fun x=>PyData.bool (id x) from rfl,h]
 simp
theorem vW {bs:List Bool}:bL false [.list (bs.map .bool)]=some (.bool (bs.all id)):=by
 have h:=IM (any:=true) (xs:=bs) (f:=id)
 show Option.map _ (nL _)=_
 rw [show (bs.map PyData.bool)=bs.map fun x=>PyData.bool (id x) from rfl,h]
 simp
theorem qq {c:Bool} {bs:List Bool}:cK [.bool c,.list (bs.map .bool)]=.ok ⟨.leaf,.bool (bP c bs)⟩:=by
 unfold bP
 cases c<;>simp [cK,aE,nc,aZ,yE,vW]
structure Wd.Ok0 (w:Wd):Prop where
 lo:w.os.length=w.n
 h24:w.n<=24
 ls:w.s.length=w.n
 st:∀r∈w.s,r.length<=30/\∀t∈r,t<w.n
theorem Wd.Ok.z {w:Wd} (h:w.Ok):w.Ok0:=⟨h.g.lo,h.h24,h.ls,fun r hr=>(h.st r hr).2⟩
theorem Wd.Ok0.at2 {w:Wd} (h:w.Ok0) {r:Nat} (hr:r<w.n):eY (w.s.map aI) (r:Int)=some (aI (w.stp r)):=by
 refine DL ?_
 unfold Wd.stp;rw [getElem?_map,LW,LV (by rw [h.ls];exact hr)]
 rfl
theorem Wd.Ok0.stp_lt {w:Wd} (h:w.Ok0) {r t:Nat} (ht:t∈w.stp r):t<w.n:=by
 unfold Wd.stp at ht;rw [LW] at ht
 cases e:w.s[r]? with
 | none=>rw [e] at ht;simp at ht
 | some x=>rw [e] at ht;exact (h.st x (mem_of_getElem? e)).2 t ht
theorem Wd.Ok0.len {w:Wd} (h:w.Ok0) {r:Nat}:(w.stp r).length<=10000:=by
 unfold Wd.stp;rw [LW]
 cases e:w.s[r]? with
 | none=>simp
 | some x=>
  have:=(h.st x (mem_of_getElem? e)).1
  simp only [Option.getD_some]
  omega
noncomputable abbrev o6 (cl:List Bool):D:=.list (cl.map .bool)
noncomputable def hZ (cl:List Bool) (r:Nat):Bool:=cl.getD r false
theorem Gu {cl:List Bool} {t:Nat} (h:t<cl.length):eY (cl.map PyData.bool) (t:Int)=some (.bool (hZ cl t)):=by
 refine DL ?_
 unfold hZ;rw [getElem?_map,LW,LV h];rfl
noncomputable def mL (w:Wd) (ch:Nat->Bool) (thr:List Nat) (rk:List (Option Nat)):List Nat:=thr.filter fun r=>(bc rk r).isNone&&bP (ch r) ((w.stp r).map fun t=>(bc rk t).isSome)
theorem wj {w:Wd} (h:w.Ok0) {cl:List Bool} {thr:List Nat} {rk:List (Option Nat)} (hcl:cl.length=w.n) (ht:∀r∈thr,r<w.n) (hl:rk.length=w.n) (hn:thr.length<=1000):b5 [w.enc,o6 cl,aI thr,dE rk]=.ok ⟨.lst .leaf,aI (mL w (hZ cl) thr rk)⟩:=by
 obtain ⟨y,e,_⟩:=Hm rm (fun (b:List Nat) r=>if (bc rk r).isNone&&bP (hZ cl r) ((w.stp r).map fun t=>(bc rk t).isSome) then b++[r] else b) (Inv:=fun b r=>b.length+r.length<=1000/\∀t∈r,t<w.n) (i:=5)
  (body:=(bD (cx (aL ao (ay (cN false) (ai (af 3) (af 5)) (eK .none))) (aL bh (aj 2 cK (ae (ai (af 1) (af 5)) (ae (aA .leaf 6 (aU (ai (ai (af 0) (eK (.int 2))) (af 5))) aN (ay (cN true) (ai (af 3) (af 6)) (eK .none))) ag))))) (dS 4 (af 5)) aH))
  (G:=fun b x=>[L9 w.enc,L9 (o6 cl),L9 (aI thr),L9 (dE rk),some ⟨.lst .leaf,aI b⟩,x,none])
  (fun _ _=>by simp) (fun _ _ _=>by simp) (fun b r rest hI=>by
   obtain ⟨h1,h2⟩:=hI;have hr:r<w.n:=h2 r mem_cons_self
   have a1:=gQ (rk:=rk) (t:=r) (by omega)
   have a2:=h.at2 hr
   have a4:=Gu (cl:=cl) (t:=r) (by omega)
   simp only [length_cons] at h1
   have c1:aA .leaf 6 (aU (ai (ai (af 0) (eK (.int 2))) (af 5))) aN (ay (cN true) (ai (af 3) (af 6)) (eK .none)) [L9 w.enc,L9 (o6 cl),L9 (aI thr),L9 (dE rk),some ⟨.lst .leaf,aI b⟩,L9 (rm r),none]
     = .ok ⟨.lst .leaf,.list ((w.stp r).map fun t=>.bool (bc rk t).isSome)⟩ [L9 w.enc,L9 (o6 cl),L9 (aI thr),L9 (dE rk),some ⟨.lst .leaf,aI b⟩,L9 (rm r),none]:=by
    refine lz rm (w.stp r) (fun t=>⟨.leaf,.bool (bc rk t).isSome⟩) (st:=true) (by simp [Wd.enc,a2]) (by simp) rfl h.len fun t ht=>?_
    have a3:=gQ (rk:=rk) (t:=t) (by rw [hl];exact h.stp_lt ht)
    simp [a3]
   have dl:=qq (c:=hZ cl r) (bs:=(w.stp r).map fun t=>(bc rk t).isSome)
   rw [map_map] at dl;have dl:cK [.bool (hZ cl r),.list ((w.stp r).map fun t=>.bool (bc rk t).isSome)]=.ok ⟨.leaf,.bool (bP (hZ cl r) ((w.stp r).map fun t=>(bc rk t).isSome))⟩:=dl
   have ap:dS 4 (af 5) [L9 w.enc,L9 (o6 cl),L9 (aI thr),L9 (dE rk),some ⟨.lst .leaf,aI b⟩,L9 (rm r),none]=.nx [L9 w.enc,L9 (o6 cl),L9 (aI thr),L9 (dE rk),some ⟨.lst .leaf,.list (b.map rm++[rm r])⟩,L9 (rm r),none]:=
    IB rfl (aB rfl) rfl (by simp;omega)
   refine ⟨?_,?_⟩
   ·cases q1:(bc rk r).isNone with
    | false=>simp [a1,q1]
    | true=>
     cases q2:bP (hZ cl r) ((w.stp r).map fun t=>(bc rk t).isSome) with
     | false=>simp [a1,a4,q1,c1,dl,q2]
     | true=>simp [a1,a4,q1,c1,dl,q2,ap]
   ·refine ⟨?_,fun t ht=>h2 t (LX _ ht)⟩
    split
    ·rw [length_append,length_singleton];omega
    ·omega) thr [] none (by simp;exact ⟨hn,ht⟩)
 have ef:∀(l b:List Nat),l.foldl (fun (b:List Nat) r=>if (bc rk r).isNone&&bP (hZ cl r) ((w.stp r).map fun t=>(bc rk t).isSome) then b++[r] else b) b=b++mL w (hZ cl) l rk:=by
  intro l;induction l with
  | nil=>intro b;simp [mL]
  | cons r t ih=>
   intro b;rw [List.foldl_cons,ih];unfold mL;rw [filter_cons];split<;>simp
 rw [ef,nil_append] at e;refine aR ?_
 have e2:=gD (fi:=aU (af 2)) (Γ:=[L9 w.enc,L9 (o6 cl),L9 (aI thr),L9 (dE rk),some ⟨.lst .leaf,aI []⟩,none,none]) (cA (ds:=thr.map rm) (aB rfl) rfl) e
 have e1:ax true 4 (aM .leaf ag) (aZ 7 [w.enc,o6 cl,aI thr,dE rk])=.nx [L9 w.enc,L9 (o6 cl),L9 (aI thr),L9 (dE rk),some ⟨.lst .leaf,aI []⟩,none,none]:=by simp [aZ]
 unfold fw;rw [eo,e1];simp only
 rw [eo,e2];simp
theorem led_iff {any:Bool} {l:List Nat} {b:Nat->Bool}:bP any (l.map b)=true↔led any l fun t=>b t=true:=by
 unfold bP led
 cases any<;>simp
structure Right (w:Wd) (any:Bool) (thr goal:List Nat) (rk:List (Option Nat)):Prop where
 len:rk.length=w.n
 g:∀r,r<w.n->r∈goal->bc rk r=some 0
 p:∀r k,r<w.n->r∉goal->bc rk r=some k->0<k/\r∈thr/\led any (w.stp r) fun t=>∃j,bc rk t=some j/\j<k
 z:∀r,r<w.n->bc rk r=none->r∉goal/\(r∉thr\/¬led any (w.stp r) fun t=>bc rk t≠none)
inductive Unt (w:Wd) (any:Bool) (P Q:Nat->Prop):Nat->Prop where
 | now {r:Nat}:Q r->Unt w any P Q r
 | some {r t:Nat}:any=true->P r->t∈w.stp r->Unt w any P Q t->Unt w any P Q r
 | all {r:Nat}:any=false->P r->(∀t∈w.stp r,Unt w any P Q t)->Unt w any P Q r
theorem Unt.of_led {w:Wd} {any:Bool} {P Q:Nat->Prop} {r:Nat} (hp:P r) (h:led any (w.stp r) (Unt w any P Q)):Unt w any P Q r:=by
 unfold led at h
 cases any with
 | true=>obtain ⟨t,ht,hu⟩:=(by simpa using h:∃t,t∈w.stp r/\Unt w true P Q t);exact .some rfl hp ht hu
 | false=>exact .all rfl hp (by simpa using h)
theorem Right.iff {w:Wd} (ok:w.Ok) {any:Bool} {thr goal:List Nat} {rk:List (Option Nat)} (h:Right w any thr goal rk) {r:Nat} (hr:r<w.n):bc rk r≠none↔Unt w any (·∈thr) (·∈goal) r:=by
 constructor
 ·intro hn
  obtain ⟨k,hk⟩:=Option.ne_none_iff_exists'.mp hn
  have key:∀k r,r<w.n->bc rk r=some k->Unt w any (·∈thr) (·∈goal) r:=by
   intro k;induction k using Nat.strongRecOn with
   | ind k ih=>
    intro r hr hk;by_cases hg:r∈goal
    ·exact .now hg
    ·obtain ⟨_,h2,h3⟩:=h.p r k hr hg hk
     exact .of_led h2 (xl h3 fun t ht ⟨j,hj,hlt⟩=>ih j hlt t (ok.stp_lt ht) hj)
  exact key k r hr hk
 ·intro hu
  induction hu with
  | now q=>rw [h.g _ hr q];simp
  | @some r t e hp ht _ ih=>
   intro hz;obtain ⟨_,z⟩:=h.z r hr hz;rcases z with z | z
   ·exact z hp
   ·subst e
    exact z (by unfold led;simpa using ⟨t,ht,by have:=ih (ok.stp_lt ht);simpa using this⟩)
  | @all r e hp _ ih=>
   intro hz;obtain ⟨_,z⟩:=h.z r hr hz;rcases z with z | z
   ·exact z hp
   ·subst e
    exact z (by unfold led;simpa using fun t ht=>by have:=ih t ht (ok.stp_lt ht);simpa using this)
noncomputable def cD (rk:List (Option Nat)) (k:Nat) (fr:List Nat):List (Option Nat):=fr.foldl (fun l r=>l.set r (some k)) rk
theorem IQ {k:Nat}:∀(fr:List Nat) (rk:List (Option Nat)),(cD rk k fr).length=rk.length
 | [],_=>rfl
 | a::r,rk=>by
  show (cD (rk.set a (some k)) k r).length=_
  rw [IQ,length_set]
theorem xD {rk:List (Option Nat)} {a t:Nat} {o:Option Nat} (h:a<rk.length):bc (rk.set a o) t=if t=a then o else bc rk t:=by
 unfold bc;rw [LW,LW];split
 ·rename_i e;subst e;rw [getElem?_set_self h];rfl
 ·rename_i e;rw [getElem?_set_ne (fun z=>e z.symm)]
theorem pK {k t:Nat}:∀(fr:List Nat) (rk:List (Option Nat)),(∀a∈fr,a<rk.length)->bc (cD rk k fr) t=if t∈fr then some k else bc rk t
 | [],rk,_=>by simp [cD]
 | a::r,rk,h=>by
  show bc (cD (rk.set a (some k)) k r) t=_
  rw [pK r _ (fun b hb=>by rw [length_set];exact h b (LX _ hb)),xD (h a mem_cons_self)]
  by_cases e1:t∈r
  ·simp [e1]
  ·by_cases e2:t=a
   ·simp [e2]
   ·simp [e1,e2]
noncomputable def b3 (rk:List (Option Nat)):Nat:=(rk.filter Option.isNone).length
theorem rL {rk:List (Option Nat)} {a k:Nat} (h:rk[a]?=some none):b3 (rk.set a (some k))+1=b3 rk:=by
 induction rk generalizing a with
 | nil=>simp at h
 | cons x r ih=>
  cases a with
  | zero=>
   simp at h
   subst h;simp [b3]
  | succ a=>
   have:=ih (a:=a) (by simpa using h)
   simp only [b3,List.set_cons_succ,filter_cons] at this ⊢
   cases x with
   | none=>simp only [Option.isNone_none,if_true,length_cons];omega
   | some v=>simpa using this
theorem vn {rk:List (Option Nat)} {a k:Nat}:b3 (rk.set a (some k))<=b3 rk:=by
 induction rk generalizing a with
 | nil=>simp [b3]
 | cons x r ih=>
  cases a with
  | zero=>cases x<;>simp [b3]
  | succ a=>
   have:=ih (a:=a)
   simp only [b3,List.set_cons_succ,filter_cons] at this ⊢
   cases x with
   | none=>simp only [Option.isNone_none,if_true,length_cons];omega
   | some v=>simpa using this
theorem fR {k:Nat}:∀(fr:List Nat) (rk:List (Option Nat)),b3 (cD rk k fr)<=b3 rk
 | [],_=>L7 _
 | a::r,rk=>Nat.le_trans (fR r (rk.set a (some k))) vn
theorem rN {k:Nat} {fr:List Nat} {rk:List (Option Nat)} (hne:fr≠[]) (h:∀a∈fr,rk[a]?=some none):b3 (cD rk k fr)<b3 rk:=by
 cases fr with
 | nil=>exact absurd rfl hne
 | cons a r=>
  have h1:=rL (k:=k) (h a mem_cons_self)
  have h2:=fR (k:=k) r (rk.set a (some k))
  show b3 (cD (rk.set a (some k)) k r)<_
  omega
structure RS where
 rk:List (Option Nat)
 k:Nat
 fr:List Nat
 x8:Option PV
structure RI (w:Wd) (ch:Nat->Bool) (thr goal:List Nat) (b:RS):Prop where
 len:b.rk.length=w.n
 frn:∀r∈b.fr,r<w.n/\bc b.rk r=none
 frl:b.fr.length<=1000
 lt:∀r j,bc b.rk r=some j->j<b.k
 zero:b.k=0->b.fr=goal
 g:0<b.k->∀r,r∈goal->bc b.rk r=some 0
 p:∀r j,r<w.n->r∉goal->bc b.rk r=some j->0<j/\r∈thr/\led (ch r) (w.stp r) fun t=>∃i,bc b.rk t=some i/\i<j
 nx:0<b.k->b.fr=mL w ch thr b.rk
 m1:∀r,r∈thr->bc b.rk r=none->¬led (ch r) (w.stp r) fun t=>∃i,bc b.rk t=some i/\i+1<b.k
 m2:∀r j,r∉goal->bc b.rk r=some j->¬led (ch r) (w.stp r) fun t=>∃i,bc b.rk t=some i/\i+1<j
noncomputable def LK (st:Nat->List Nat) (ch:Nat->Bool) (goal:List Nat) (rk:List (Option Nat)):Prop:=∀r j,r∉goal->bc rk r=some j->¬led (ch r) (st r) fun t=>∃i,bc rk t=some i/\i+1<j
theorem RI.right {w:Wd} {ch:Nat->Bool} {thr goal:List Nat} {b:RS} (hne:∀r∈thr,w.stp r≠[]) (I:RI w ch thr goal b) (he:b.fr=[]):pe w.n w.stp ch thr goal b.rk:=by
 refine ⟨I.len,fun r hr hg=>?_,I.p,fun r hr hz=>?_⟩
 ·rcases Nat.eq_zero_or_pos b.k with h | h
  ·rw [<-I.zero h,he] at hg;simp at hg
  ·exact I.g h r hg
 ·rcases Nat.eq_zero_or_pos b.k with h | h
  ·have hg:goal=[]:=by rw [<-I.zero h];exact he
   refine ⟨by rw [hg];simp,?_⟩
   by_cases ht:r∈thr
   case neg=>exact .inl ht
   refine .inr fun hl=>?_
   have no:∀t,bc b.rk t=none:=fun t=>by
    cases e:bc b.rk t with
    | none=>rfl
    | some j=>have:=I.lt t j e;omega
   cases hc:ch r with
   | true=>
    rw [hc] at hl;obtain ⟨t,_,z⟩:=led_t.mp hl;exact z (no t)
   | false=>
    rw [hc] at hl;obtain ⟨t,ht'⟩:=List.exists_mem_of_ne_nil _ (hne r ht);exact led_f.mp hl t ht' (no t)
  ·refine ⟨fun hg=>(by rw [I.g h r hg] at hz;cases hz),?_⟩
   by_cases ht:r∈thr
   ·refine .inr fun hl=>?_
    have hx:=I.nx h
    rw [he] at hx;have:r∈mL w ch thr b.rk:=by
     unfold mL;refine List.mem_filter.mpr ⟨ht,?_⟩
     rw [hz];simp only [Option.isNone_none,Bool.true_and]
     exact led_iff.mpr (xl hl fun t _ z=>by cases e:bc b.rk t with | none=>exact absurd e z | some j=>rfl)
    rw [<-hx] at this;simp at this
   ·exact .inl ht
theorem RI.step {w:Wd} {ch:Nat->Bool} {thr goal:List Nat} (hne0:∀r∈thr,w.stp r≠[]) {b:RS} {y:Option PV} (hthr:∀r∈thr,r<w.n) (hl:thr.length<=1000) (I:RI w ch thr goal b) (hne:b.fr≠[]) :
  RI w ch thr goal ⟨cD b.rk b.k b.fr,b.k+1,mL w ch thr (cD b.rk b.k b.fr),y⟩/\b3 (cD b.rk b.k b.fr)<b3 b.rk:=by
 have hfl:∀a∈b.fr,a<b.rk.length:=fun a ha=>by rw [I.len];exact (I.frn a ha).1
 have pt:∀t,bc (cD b.rk b.k b.fr) t=if t∈b.fr then some b.k else bc b.rk t:=fun t=>pK _ _ hfl
 refine ⟨⟨by rw [IQ];exact I.len,fun r hr=>?_,?_,fun r j e=>?_,fun z=>absurd z (Nat.succ_ne_zero _),fun _ r hg=>?_,fun r j hr hg e=>?_,fun _=>rfl,fun r ht hz hl=>?_,fun r j hg e hl=>?_⟩,rN hne fun a ha=>?_⟩
 ·obtain ⟨h1,h2⟩:=List.mem_filter.mp hr
  simp only [Bool.and_eq_true,Option.isNone_iff_eq_none] at h2
  exact ⟨hthr r h1,h2.1⟩
 ·exact Nat.le_trans (length_filter_le _ _) hl
 ·rw [pt] at e
  show j<b.k+1
  split at e
  ·cases e;omega
  ·have:=I.lt r j e;omega
 ·show bc (cD b.rk b.k b.fr) r=some 0
  rw [pt];rcases Nat.eq_zero_or_pos b.k with h | h
  ·rw [I.zero h,if_pos hg,h]
  ·have:=I.g h r hg
   split
   ·rename_i z;rw [(I.frn r z).2] at this;cases this
   ·exact this
 ·have e:bc (cD b.rk b.k b.fr) r=some j:=e
  rw [pt] at e;split at e
  ·rename_i hm
   cases e;have hk:0<b.k:=by
    rcases Nat.eq_zero_or_pos b.k with h | h
    ·rw [I.zero h] at hm;exact absurd hm hg
    ·exact h
   have hx:=I.nx hk
   rw [hx] at hm;obtain ⟨h1,h2⟩:=List.mem_filter.mp hm;simp only [Bool.and_eq_true] at h2
   refine ⟨hk,h1,xl (led_iff.mp h2.2) fun t _ z=>?_⟩
   cases e:bc b.rk t with
   | none=>rw [e] at z;cases z
   | some i=>
    refine ⟨i,?_,I.lt t i e⟩
    show bc (cD b.rk b.k b.fr) t=_
    rw [pt,if_neg (fun q=>by rw [(I.frn t q).2] at e;cases e),e]
  ·obtain ⟨h1,h2,h3⟩:=I.p r j hr hg e
   refine ⟨h1,h2,xl h3 fun t _ ⟨i,hi,hlt⟩=>⟨i,?_,hlt⟩⟩
   show bc (cD b.rk b.k b.fr) t=_
   rw [pt,if_neg (fun q=>by rw [(I.frn t q).2] at hi;cases hi),hi]
 ·have hz:bc (cD b.rk b.k b.fr) r=none:=hz
  rw [pt] at hz;split at hz
  ·cases hz
  rename_i hf;have hl:led (ch r) (w.stp r) fun t=>∃i,bc (cD b.rk b.k b.fr) t=some i/\i+1<b.k+1:=hl
  have hl:led (ch r) (w.stp r) fun t=>∃i,bc b.rk t=some i/\i<b.k:=xl hl fun t _ ⟨i,hi,hlt⟩=>by
   rw [pt] at hi;split at hi
   ·cases hi;omega
   ·exact ⟨i,hi,by omega⟩
  rcases Nat.eq_zero_or_pos b.k with h | h
  ·cases hc:ch r with
   | true=>
    rw [hc] at hl;obtain ⟨t,_,i,_,z⟩:=led_t.mp hl;omega
   | false=>
    rw [hc] at hl;obtain ⟨t,ht'⟩:=List.exists_mem_of_ne_nil _ (hne0 r ht);obtain ⟨i,_,z⟩:=led_f.mp hl t ht'
    omega
  ·refine hf ?_
   rw [I.nx h];refine List.mem_filter.mpr ⟨ht,?_⟩
   rw [hz];simp only [Option.isNone_none,Bool.true_and]
   exact led_iff.mpr (xl hl fun t _ ⟨i,hi,_⟩=>by rw [hi];rfl)
 ·have e:bc (cD b.rk b.k b.fr) r=some j:=e
  have hl:led (ch r) (w.stp r) fun t=>∃i,bc (cD b.rk b.k b.fr) t=some i/\i+1<j:=hl
  have hj:j<=b.k:=by
   rw [pt] at e;split at e
   ·cases e;omega
   ·have:=I.lt r j e;omega
  have hl:led (ch r) (w.stp r) fun t=>∃i,bc b.rk t=some i/\i+1<j:=xl hl fun t _ ⟨i,hi,hlt⟩=>by
   rw [pt] at hi;split at hi
   ·cases hi;omega
   ·exact ⟨i,hi,hlt⟩
  rw [pt] at e;split at e
  ·rename_i hm
   cases e;have hk:0<b.k:=by
    rcases Nat.eq_zero_or_pos b.k with h | h
    ·rw [I.zero h] at hm;exact absurd hm hg
    ·exact h
   have hm':=hm
   rw [I.nx hk] at hm';exact I.m1 r (List.mem_filter.mp hm').1 (I.frn r hm).2 hl
  ·exact I.m2 r j hg e hl
 ·obtain ⟨h1,h2⟩:=I.frn a ha
  unfold bc at h2;rw [LW,LV (by rw [I.len];exact h1)] at h2
  rw [LV (by rw [I.len];exact h1)]
  simpa using h2
noncomputable abbrev GR (w:Wd) (cl:List Bool) (thr goal:List Nat) (b:RS):Ev:=[L9 w.enc,L9 (o6 cl),L9 (aI thr),L9 (aI goal),some ⟨.lst .leaf,dE b.rk⟩,L9 (.int (b.k:Int)),L9 (aI b.fr),b.x8,none]
noncomputable abbrev kv:FS:=(ak (cZ 7 (aU (af 6))
  (fN 4 (af 5) (af 7)))
  (ak (gJ 5 (eK (.int 1)))
  (ax false 6 (Am 4 b5 (ae (af 0) (ae (af 1) (ae (af 2) (ae (af 4) ag))))))))
theorem xC {w:Wd} (ok:w.Ok0) {cl:List Bool} {thr goal:List Nat} {b:RS} (hcl:cl.length=w.n) (hne0:∀r∈thr,w.stp r≠[]) (hthr:∀r∈thr,r<w.n) (hl:thr.length<=1000) (I:RI w (hZ cl) thr goal b) (hne:b.fr≠[]) :
  ∃b',kv (GR w cl thr goal b)=.nx (GR w cl thr goal b')/\RI w (hZ cl) thr goal b'/\b3 b'.rk<b3 b.rk:=by
 obtain ⟨y,e,_⟩:=Hm rm (fun (l:List (Option Nat)) r=>l.set r (some b.k)) (Inv:=fun l r=>l.length=w.n/\∀t∈r,t<w.n) (i:=7) (body:=fN 4 (af 5) (af 7))
  (G:=fun l x=>[L9 w.enc,L9 (o6 cl),L9 (aI thr),L9 (aI goal),some ⟨.lst .leaf,dE l⟩,L9 (.int (b.k:Int)),L9 (aI b.fr),x,none])
  (fun _ _=>by simp) (fun _ _ _=>by simp) (fun l r rest ⟨h1,h2⟩=>by
   have hr:=h2 r mem_cons_self
   refine ⟨?_,by rw [length_set];exact h1,fun t ht=>h2 t (LX _ ht)⟩
   rw [AV (ds:=l.map oD) (j:=r) (k:=(r:Int)) rfl (aB rfl) (aB rfl) (Ar (by rw [length_map,h1];exact hr)) rfl]
   simp [List.map_set,oD]) b.fr b.rk b.x8 ⟨I.len,fun t ht=>(I.frn t ht).1⟩
 obtain ⟨I',hm⟩:=RI.step (y:=y) hne0 hthr hl I hne
 refine ⟨⟨cD b.rk b.k b.fr,b.k+1,mL w (hZ cl) thr (cD b.rk b.k b.fr),y⟩,?_,I',hm⟩
 have e2:=gD (fi:=aU (af 6)) (Γ:=GR w cl thr goal b) (cA (ds:=b.fr.map rm) (aB rfl) rfl) e
 have dn:=wj ok (cl:=cl) (thr:=thr) (rk:=cD b.rk b.k b.fr) hcl hthr (by rw [IQ];exact I.len) hl
 unfold kv;rw [eo,e2];have fr:oH ⟨.lst .leaf,aI (mL w (hZ cl) thr (cD b.rk b.k b.fr))⟩=true:=by
  unfold oH;simp [bz]
 have ec:∀Γ:Ev,Γ=[L9 w.enc,L9 (o6 cl),L9 (aI thr),L9 (aI goal),some ⟨.lst .leaf,dE (cD b.rk b.k b.fr)⟩,L9 (.int ((b.k:Int)+1)),L9 (aI b.fr),y,none] ->
   Am 4 b5 (ae (af 0) (ae (af 1) (ae (af 2) (ae (af 4) ag)))) Γ=.ok ⟨.lst .leaf,aI (mL w (hZ cl) thr (cD b.rk b.k b.fr))⟩ Γ:=fun Γ hΓ=>by
  subst hΓ;unfold Am;simp [dn,fr]
 have pu:b.fr.foldl (fun l r=>l.set r (some b.k)) b.rk=cD b.rk b.k b.fr:=rfl
 rw [pu];simp [ec _ rfl]
theorem kM {w:Wd} (ok:w.Ok0) {cl:List Bool} {thr goal:List Nat} (hcl:cl.length=w.n) (hne0:∀r∈thr,w.stp r≠[]) (hthr:∀r∈thr,r<w.n) (hl:thr.length<=1000) (hgoal:∀r∈goal,r<w.n) (hgl:goal.length<=1000) :
  ∃rk,fE [w.enc,o6 cl,aI thr,aI goal]=.ok ⟨.lst .leaf,dE rk⟩/\pe w.n w.stp (hZ cl) thr goal rk/\LK w.stp (hZ cl) goal rk:=by
 have lo:=ok.lo
 have h24:=ok.h24
 have i0:RI w (hZ cl) thr goal ⟨w.os.map fun _=>none,0,goal,none⟩:=by
  have z:∀r,bc (w.os.map fun _=>none) r=none:=fun r=>by
   unfold bc;rw [LW,getElem?_map]
   cases w.os[r]?<;>rfl
  refine ⟨by simp [lo],fun r hr=>⟨hgoal r hr,z r⟩,hgl,fun r j e=>(by rw [z] at e;cases e),fun _=>rfl,fun h=>absurd h (by simp),fun r j _ _ e=>(by rw [z] at e;cases e),fun h=>absurd h (by simp),fun r ht _ hl=>?_,fun r j _ e=>(by rw [z] at e;cases e)⟩
  have hl:led (hZ cl r) (w.stp r) fun t=>∃i,bc (w.os.map fun _=>none) t=some i/\i+1<0:=hl
  cases hc:hZ cl r with
  | true=>
   rw [hc] at hl;obtain ⟨t,_,i,_,z⟩:=led_t.mp hl;omega
  | false=>
   rw [hc] at hl;obtain ⟨t,ht'⟩:=List.exists_mem_of_ne_nil _ (hne0 r ht);obtain ⟨i,_,z⟩:=led_f.mp hl t ht'
   omega
 obtain ⟨b',e,I,hf⟩:=Jc (c:=aL bh (af 6)) (g:=kv) (G:=GR w cl thr goal) (test:=fun b=>!b.fr.isEmpty) (Inv:=RI w (hZ cl) thr goal) (meas:=fun b=>b3 b.rk) (fun b I=>by simp) (fun b I hb=>xC ok hcl hne0 hthr hl I (by intro z;rw [z] at hb;simp at hb)) 1000 _ i0 (by
  have:b3 (w.os.map fun _=>none)<=w.os.length:=by unfold b3;exact Nat.le_trans (length_filter_le _ _) (by simp)
  show b3 (w.os.map fun _=>none)<1000
  omega)
 refine ⟨b'.rk,?_,I.right hne0 (by simpa using hf),I.m2⟩
 refine aR ?_
 have co:∀Γ:Ev,Γ.length=9->Γ[0]?=some (L9 w.enc)->aA .leaf 8 (aU (ai (af 0) (eK (.int 0)))) aN (eK .none) Γ=.ok ⟨.lst .leaf,.list (w.os.map fun _=>.none)⟩ Γ:=fun Γ h1 h2=>by
  have:=lz (fun d:D=>d) w.os (fun _=>⟨.leaf,.none⟩) (s:=.leaf) (i:=8) (fi:=aU (ai (af 0) (eK (.int 0)))) (fe:=eK .none) (st:=true) (Γ:=Γ) (by simp [h2,Wd.enc]) (by omega) rfl (by omega) (fun x hx=>by simp)
  simpa using this
 have e:qK (aL bh (af 6)) kv 1000 [L9 w.enc,L9 (o6 cl),L9 (aI thr),L9 (aI goal),some ⟨.lst .leaf,.list (w.os.map fun _=>.none)⟩,L9 (.int 0),L9 (aI goal),none,none]=.nx (GR w cl thr goal b'):=by
  have q:dE (w.os.map fun _=>none)=.list (w.os.map fun _=>.none):=by
   unfold dE;rw [map_map];rfl
  rw [<-q];exact e
 unfold iO;rw [eo,pS,co _ rfl rfl];simp [aZ]
 unfold wQ;rw [e];simp
theorem Hi {w:Wd} (ok:w.Ok) {s:Sn} {P:D} {thr goal:List Nat} (hw:(s.w=.su\/s.w=.au)\/(s.w=.sa\/s.w=.aa)) (ht:∃sh,coer .leaf ⟨sh,.tuple [aI thr,aI goal]⟩=true/\bq [w.enc,s.enc,P]=.ok ⟨sh,.tuple [aI thr,aI goal]⟩) (hthr:∀r∈thr,r<w.n) (hl:thr.length<=1000) (hgoal:∀r∈goal,r<w.n) (hgl:goal.length<=1000) :
  ∃rk,bI [w.enc,s.enc,P]=.ok ⟨.lst .leaf,dE rk⟩/\Right w s.w.some thr goal rk:=by
 obtain ⟨sh,hsh,ht⟩:=ht;have lo:=ok.g.lo
 have h24:=ok.h24
 obtain ⟨rk,e,R,_⟩:=kM ok.z (cl:=w.os.map fun _=>s.w.some) (by rw [length_map];exact lo) (fun r hr=>ok.stp_ne (hthr r hr)) hthr hl hgoal hgl
 have hch:∀r,r<w.n->hZ (w.os.map fun _=>s.w.some) r=s.w.some:=fun r hr=>by
  unfold hZ;rw [LW,getElem?_map,LV (by omega)]
  rfl
 refine ⟨rk,?_,⟨R.len,R.g,fun r k hr hg e=>?_,fun r hr e=>?_⟩⟩
 ·have hst:ai (af 1) (eK (.int 0)) (aZ 6 [w.enc,s.enc,P])=.ok ⟨.leaf,.str s.w.t⟩ (aZ 6 [w.enc,s.enc,P]):=by
   cases s<;>simp [aZ,Sn.enc,Sn.w]
  have s1:ax false 3 (ai (af 1) (eK (.int 0))) (aZ 6 [w.enc,s.enc,P])=.nx [L9 w.enc,L9 s.enc,L9 P,L9 (.str s.w.t),none,none]:=by
   rw [pS,hst];simp [aZ]
  have s2:bD (cx (aL ao (ay (bf true) (af 3) (eK ck))) (aL ao (ay (bf true) (af 3) (eK dg)))) (aF (eK .none)) aH [L9 w.enc,L9 s.enc,L9 P,L9 (.str s.w.t),none,none]=.nx [L9 w.enc,L9 s.enc,L9 P,L9 (.str s.w.t),none,none]:=by
   rcases hw with z | z
   ·simp [z]
   ·by_cases z2:(s.w=.su\/s.w=.au)<;>simp [z,z2]
  have s3:ax false 4 (aj 3 bq (ae (af 0) (ae (af 1) (ae (af 2) ag)))) [L9 w.enc,L9 s.enc,L9 P,L9 (.str s.w.t),none,none]=.nx [L9 w.enc,L9 s.enc,L9 P,L9 (.str s.w.t),L9 (.tuple [aI thr,aI goal]),none]:=by
   simp [ht,hsh]
  have c1:aA .leaf 5 (aU (ai (af 0) (eK (.int 0)))) aN (ay (bf false) (af 3) (eK bE)) [L9 w.enc,L9 s.enc,L9 P,L9 (.str s.w.t),L9 (.tuple [aI thr,aI goal]),none]=.ok ⟨.lst .leaf,o6 (w.os.map fun _=>s.w.some)⟩ [L9 w.enc,L9 s.enc,L9 P,L9 (.str s.w.t),L9 (.tuple [aI thr,aI goal]),none]:=by
   have:=lz (fun d:D=>d) w.os (fun _=>⟨.leaf,.bool s.w.some⟩) (s:=.leaf) (i:=5) (fi:=aU (ai (af 0) (eK (.int 0)))) (fe:=ay (bf false) (af 3) (eK bE)) (st:=true) (Γ:=[L9 w.enc,L9 s.enc,L9 P,L9 (.str s.w.t),L9 (.tuple [aI thr,aI goal]),none]) (by simp [Wd.enc]) (by simp) rfl (by omega) (fun x hx=>by simp)
   rw [this];simp
  refine aR ?_
  unfold fG;rw [eo,s1];simp only
  rw [eo,s2];simp only
  rw [eo,s3];simp only
  exact br (bV (aD (aB rfl) (aD c1 (aD (fJ (j:=0) (ds:=[aI thr,aI goal]) (aB rfl) aQ rfl rfl rfl) (aD (fJ (j:=1) (ds:=[aI thr,aI goal]) (aB rfl) aQ rfl rfl rfl) aq)))) e rfl rfl) rfl
 ·have:=R.p r k hr hg e
  rw [hch r hr] at this;exact this
 ·have:=R.z r hr e
  rw [hch r hr] at this;exact this
noncomputable def dJ (w:Wd):Sn->Nat->Prop
 | .yes,_=>True
 | .mk c,r=>c∈w.mks r
 | .un .not a,r=>¬dJ w a r
 | .un .sn a,r=>∃t∈w.stp r,dJ w a t
 | .un .an a,r=>∀t∈w.stp r,dJ w a t
 | .un .sa a,r=>¬Unt w false (fun _=>True) (fun t=>¬dJ w a t) r
 | .un .aa a,r=>¬Unt w true (fun _=>True) (fun t=>¬dJ w a t) r
 | .bi .and a b,r=>dJ w a r/\dJ w b r
 | .bi .or a b,r=>dJ w a r\/dJ w b r
 | .bi .su a b,r=>Unt w true (dJ w a) (dJ w b) r
 | .bi .au a b,r=>Unt w false (dJ w a) (dJ w b) r
noncomputable def bw (w:Wd) (s:Sn) (r:Nat):Bool:=@decide (dJ w s r) (Classical.propDecidable _)
theorem satB_iff {w:Wd} {s:Sn} {r:Nat}:bw w s r=true↔dJ w s r:=by
 unfold bw;exact @decide_eq_true_iff _ (Classical.propDecidable _)
theorem iS {w:Wd} {s:Sn} {r:Nat} {b:Bool} (h:b=true↔dJ w s r):b=bw w s r:=by
 rw [Bool.eq_iff_iff,h,satB_iff]
noncomputable def aK (w:Wd) (s:Sn):List Nat:=(List.range w.n).filter (bw w s)
theorem mem_rof {w:Wd} {s:Sn} {r:Nat}:r∈aK w s↔r<w.n/\dJ w s r:=by
 unfold aK;rw [List.mem_filter,mem_range,satB_iff]
theorem lp {w:Wd} {s:Sn} {r:Nat} (hr:r<w.n):(aK w s).contains r=bw w s r:=by
 rw [Bool.eq_iff_iff,contains_iff_mem,mem_rof,satB_iff];exact ⟨fun h=>h.2,fun h=>⟨hr,h⟩⟩
theorem Unt.congr {w:Wd} (ok:w.Ok) {any:Bool} {P P' Q Q':Nat->Prop} (hp:∀t,t<w.n->P t->P' t) (hq:∀t,t<w.n->Q t->Q' t) {r:Nat} (hr:r<w.n) (h:Unt w any P Q r):Unt w any P' Q' r:=by
 induction h with
 | now q=>exact .now (hq _ hr q)
 | some e p ht _ ih=>exact .some e (hp _ hr p) ht (ih (ok.stp_lt ht))
 | all e p _ ih=>exact .all e (hp _ hr p) fun t ht=>ih t ht (ok.stp_lt ht)
theorem vE {c:Str} {r:List Str} (hc:PyData.strOk c=true) (h:∀x∈r,PyData.strOk x=true):bf false (.str c) (ur r)=some (.bool (r.contains c)):=by
 have hs:gz (r.map PyData.str):=fun a ha=>by
  obtain ⟨x,hx,rfl⟩:=List.mem_map.mp ha;exact ⟨x,rfl,h x hx⟩
 rw [ur,CZ hc hs];congr 2
 unfold has;simp only [any_map]
 rw [Bool.eq_iff_iff,any_eq_true,contains_iff_mem];constructor
 ·rintro ⟨x,hx,e⟩
  have:PyData.eqv (.str x) (.str c)=true:=e
  have:x=c:=by simpa [PyData.eqv] using this
  rw [<-this];exact hx
 ·intro hx
  exact ⟨c,hx,by show PyData.eqv (.str c) (.str c)=true;simp [PyData.eqv]⟩
noncomputable abbrev cJ (ps:List (List Nat)):D:=.list (ps.map aI)
theorem zZ {ps:List (List Nat)} {r:Nat} {Γ:Ev} (hl:Γ.length=9) (h2:Γ[2]?=some (L9 (cJ ps))) (h4:Γ[4]?=some (L9 (rm r))) (hn:ps.length<=10000) :
  aA .leaf 7 (aU (af 2)) aN (ay (bf false) (af 4) (af 7)) Γ=.ok ⟨.lst .leaf,.list (ps.map fun R=>.bool (R.contains r))⟩ Γ:=by
 refine lz aI ps (fun R=>⟨.leaf,.bool (R.contains r)⟩) (st:=true) (by simp [h2]) (by omega) rfl hn fun R hR=>?_
 have g4:(Γ.set 7 (L9 (aI R)))[4]?=some (L9 (rm r)):=by rw [getElem?_set_ne (by omega)];exact h4
 have g7:(Γ.set 7 (L9 (aI R)))[7]?=some (L9 (aI R)):=getElem?_set_self (by omega)
 refine ⟨?_,rfl⟩
 rw [BO,ml,g4];simp only [uY,wO]
 rw [ml,g7];simp only [uY,wO,jx]
theorem stp_len {w:Wd} (ok:w.Ok) {r:Nat}:(w.stp r).length<=10000:=by
 unfold Wd.stp;rw [LW]
 cases e:w.s[r]? with
 | none=>simp
 | some x=>
  have:=(ok.st x (mem_of_getElem? e)).2.1
  simp only [Option.getD_some]
  omega
theorem E8 {w:Wd} (ok:w.Ok) {R:List Nat} {ps:List (List Nat)} {r:Nat} (hr:r<w.n) {Γ:Ev} (hl:Γ.length=9) (h0:Γ[0]?=some (L9 w.enc)) (h2:Γ[2]?=some (L9 (cJ (R::ps)))) (h4:Γ[4]?=some (L9 (rm r))) :
  aA .leaf 8 (aU (ai (ai (af 0) (eK (.int 2))) (af 4))) aN (ay (bf false) (af 8) (ai (af 2) (eK (.int 0)))) Γ=.ok ⟨.lst .leaf,.list ((w.stp r).map fun t=>.bool (R.contains t))⟩ Γ:=by
 have a2:=ok.at2 hr
 refine lz rm (w.stp r) (fun t=>⟨.leaf,.bool (R.contains t)⟩) (st:=true) (by simp [h0,h4,Wd.enc,a2]) (by omega) rfl (stp_len ok) fun t ht=>?_
 have g2:(Γ.set 8 (L9 (rm t)))[2]?=some (L9 (cJ (R::ps))):=by rw [getElem?_set_ne (by omega)];exact h2
 have g8:(Γ.set 8 (L9 (rm t)))[8]?=some (L9 (rm t)):=getElem?_set_self (by omega)
 refine ⟨?_,rfl⟩
 rw [BO,ml,g8];simp only [uY,wO]
 rw [jL,ml,g2];simp [jx]
noncomputable def wI (w:Wd) (s:Sn) (R:D):Prop:=match s with
 | .bi .su a b=>∃rk,R=dE rk/\Right w true (aK w a) (aK w b) rk
 | .bi .au a b=>∃rk,R=dE rk/\Right w false (aK w a) (aK w b) rk
 | .un .sa a=>∃rk,R=dE rk/\Right w false (List.range w.n) ((List.range w.n).filter fun t=>!(aK w a).contains t) rk
 | .un .aa a=>∃rk,R=dE rk/\Right w true (List.range w.n) ((List.range w.n).filter fun t=>!(aK w a).contains t) rk
 | _=>R=.none
theorem Hb {w:Wd} (ok:w.Ok) {any:Bool} {a b:Sn} {r:Nat} (hr:r<w.n):Unt w any (·∈aK w a) (·∈aK w b) r↔Unt w any (dJ w a) (dJ w b) r:=
 ⟨Unt.congr ok (fun t _ h=>(mem_rof.mp h).2) (fun t _ h=>(mem_rof.mp h).2) hr,Unt.congr ok (fun t ht h=>mem_rof.mpr ⟨ht,h⟩) (fun t ht h=>mem_rof.mpr ⟨ht,h⟩) hr⟩
theorem G9 {w:Wd} (ok:w.Ok) {any:Bool} {a:Sn} {r:Nat} (hr:r<w.n):Unt w any (·∈List.range w.n) (·∈(List.range w.n).filter fun t=>!(aK w a).contains t) r↔Unt w any (fun _=>True) (fun t=>¬dJ w a t) r:=by
 have q:∀t,t<w.n->(t∈(List.range w.n).filter fun t=>!(aK w a).contains t)\/dJ w a t:=fun t ht=>by
  by_cases h:dJ w a t
  ·exact .inr h
  ·refine .inl (List.mem_filter.mpr ⟨List.mem_range.mpr ht,?_⟩)
   rw [lp ht]
   cases e:bw w a t with
   | false=>rfl
   | true=>exact absurd (satB_iff.mp e) h
 constructor
 ·refine Unt.congr ok (fun _ _ _=>trivial) (fun t ht h hs=>?_) hr
  have:=(List.mem_filter.mp h).2
  rw [lp ht,satB_iff.mpr hs] at this
  cases this
 ·exact Unt.congr ok (fun t ht _=>List.mem_range.mpr ht) (fun t ht h=>(q t ht).elim id fun z=>absurd z h) hr
theorem iB {o:Option Nat}:(!o.isNone)=true↔o≠none:=by cases o<;>simp
theorem qf {o:Option Nat}:o.isNone=true↔¬o≠none:=by cases o<;>simp
theorem Kq {a b:Bool}:bL true [.list [.bool a,.bool b]]=some (.bool (a||b)):=by cases a<;>cases b<;>rfl
theorem all2 {a b:Bool}:bL false [.list [.bool a,.bool b]]=some (.bool (a&&b)):=by cases a<;>cases b<;>rfl
theorem kO {w:Wd} (ok:w.Ok) {s:Sn} (hs:s.ok) {R:D} (hR:wI w s R) {r:Nat} (hr:r<w.n):dX [w.enc,s.enc,cJ (s.args.map (aK w)),R,rm r]=.ok ⟨.leaf,.bool (bw w s r)⟩:=by
 refine aR ?_
 have a1:=ok.at1 hr
 have a2:=ok.at2 hr
 cases s with
 | yes=>
  have e:true=bw w .yes r:=iS (by simp [dJ])
  rw [<-e];simp [bA,aZ,Sn.enc]
 | mk c=>
  have e:(w.mks r).contains c=bw w (.mk c) r:=iS (by rw [contains_iff_mem];rfl)
  have hm:∀x∈w.mks r,PyData.strOk x=true:=fun x hx=>by
   unfold Wd.mks at hx;rw [LW,LV (by rw [ok.lm];exact hr)] at hx
   exact ok.mc _ (getElem_mem _) x hx
  rw [<-e];simp [bA,aZ,Sn.enc,Wd.enc,a1,vE (ID hs).1 hm]
 | un k a=>
  have hc:=zZ (ps:=[aK w a]) (r:=r) (Γ:=[L9 w.enc,L9 ((Sn.un k a).enc),L9 (cJ [aK w a]),L9 R,L9 (rm r),L9 (.str k.w.t),none,none,none]) rfl rfl rfl (by simp)
  have sc:=E8 ok (R:=aK w a) (ps:=[]) hr (Γ:=[L9 w.enc,L9 ((Sn.un k a).enc),L9 (cJ [aK w a]),L9 R,L9 (rm r),L9 (.str k.w.t),L9 (.list [.bool ((aK w a).contains r)]),none,none]) rfl rfl rfl rfl
  have dl:=qq (c:=k.w.some) (bs:=(w.stp r).map fun t=>(aK w a).contains t)
  rw [map_map] at dl;have dl:cK [.bool k.w.some,.list ((w.stp r).map fun t=>.bool ((aK w a).contains t))]=_:=dl
  have stB:∀t∈w.stp r,(aK w a).contains t=true↔dJ w a t:=fun t ht=>by rw [lp (ok.stp_lt ht),satB_iff]
  simp only [Sn.enc] at hc sc
  cases k with
  | not=>
   have e:(!(aK w a).contains r)=bw w (.un .not a) r:=iS (by rw [lp hr];simp [dJ,<-satB_iff])
   rw [<-e];simp [U5.w] at hc
   simp [bA,aZ,Sn.enc,Sn.args,U5.w,hc]
  | sn=>
   have e:bP true ((w.stp r).map fun t=>(aK w a).contains t)=bw w (.un .sn a) r:=iS (by
    rw [led_iff];simp only [led,dJ,if_true]
    exact ⟨fun ⟨t,ht,h⟩=>⟨t,ht,(stB t ht).mp h⟩,fun ⟨t,ht,h⟩=>⟨t,ht,(stB t ht).mpr h⟩⟩)
   have wk:U5.sn.w.some=true:=rfl
   have wk2:Wr.sn.some=true:=rfl
   rw [wk,e] at dl;simp [U5.w] at hc sc dl
   simp [bA,aZ,Sn.enc,Sn.args,U5.w,hc,sc,dl,wk2]
  | an=>
   have e:bP false ((w.stp r).map fun t=>(aK w a).contains t)=bw w (.un .an a) r:=iS (by
    rw [led_iff];simp only [led,dJ,Bool.false_eq_true,if_false]
    exact ⟨fun h t ht=>(stB t ht).mp (h t ht),fun h t ht=>(stB t ht).mpr (h t ht)⟩)
   have wk:U5.an.w.some=false:=rfl
   have wk2:Wr.an.some=false:=rfl
   rw [wk,e] at dl;simp [U5.w] at hc sc dl
   simp [bA,aZ,Sn.enc,Sn.args,U5.w,hc,sc,dl,wk2]
  | sa=>
   obtain ⟨rk,rfl,hR⟩:=hR;have a3:=gQ (rk:=rk) (t:=r) (by rw [hR.len];exact hr)
   have e:(bc rk r).isNone=bw w (.un .sa a) r:=iS (by rw [qf,hR.iff ok hr,G9 ok hr];rfl)
   rw [<-e];simp [bA,aZ,Sn.enc,Sn.args,U5.w,a3]
  | aa=>
   obtain ⟨rk,rfl,hR⟩:=hR;have a3:=gQ (rk:=rk) (t:=r) (by rw [hR.len];exact hr)
   have e:(bc rk r).isNone=bw w (.un .aa a) r:=iS (by rw [qf,hR.iff ok hr,G9 ok hr];rfl)
   rw [<-e];simp [bA,aZ,Sn.enc,Sn.args,U5.w,a3]
 | bi k a b=>
  have hc:=zZ (ps:=[aK w a,aK w b]) (r:=r) (Γ:=[L9 w.enc,L9 ((Sn.bi k a b).enc),L9 (cJ [aK w a,aK w b]),L9 R,L9 (rm r),L9 (.str k.w.t),none,none,none]) rfl rfl rfl (by simp)
  simp only [Sn.enc] at hc
  cases k with
  | and=>
   have e:((aK w a).contains r&&(aK w b).contains r)=bw w (.bi .and a b) r:=iS (by rw [lp hr,lp hr,Bool.and_eq_true,satB_iff,satB_iff];rfl)
   rw [<-e];simp [B4.w] at hc
   simp [bA,aZ,Sn.enc,Sn.args,B4.w,hc,all2]
  | or=>
   have e:((aK w a).contains r||(aK w b).contains r)=bw w (.bi .or a b) r:=iS (by rw [lp hr,lp hr,Bool.or_eq_true,satB_iff,satB_iff];rfl)
   rw [<-e];simp [B4.w] at hc
   simp [bA,aZ,Sn.enc,Sn.args,B4.w,hc,Kq]
  | su=>
   obtain ⟨rk,rfl,hR⟩:=hR;have a3:=gQ (rk:=rk) (t:=r) (by rw [hR.len];exact hr)
   have e:(!(bc rk r).isNone)=bw w (.bi .su a b) r:=iS (by rw [iB,hR.iff ok hr,Hb ok hr];rfl)
   rw [<-e];simp [bA,aZ,Sn.enc,Sn.args,B4.w,a3]
  | au=>
   obtain ⟨rk,rfl,hR⟩:=hR;have a3:=gQ (rk:=rk) (t:=r) (by rw [hR.len];exact hr)
   have e:(!(bc rk r).isNone)=bw w (.bi .au a b) r:=iS (by rw [iB,hR.iff ok hr,Hb ok hr];rfl)
   rw [<-e];simp [bA,aZ,Sn.enc,Sn.args,B4.w,a3]
theorem GP {w:Wd} {s:Sn}:∀r∈aK w s,r<w.n:=fun r hr=>(mem_rof.mp hr).1
theorem Eu {w:Wd} (ok:w.Ok) {s:Sn}:(aK w s).length<=1000:=by
 have:=ok.h24
 exact Nat.le_trans (length_filter_le _ _) (by simp;omega)
theorem Jy {Γ Γ1:Ev} {fl:FL} {ps:List PV} {k:Int} (hl:fl Γ=.ok ps Γ1) (hp:ps.map (·.d)=[.int k]) (h0:0<=k) (h1:k<=1000):w5 fl Γ=.ok ⟨.lst .leaf,.list (cz 0 k.toNat)⟩ Γ1:=by
 have h3:cn k=true:=CY (by omega) (by omega)
 have hb:=AF
 have h4:k<=(sizeLine:Int):=by omega
 unfold w5;rw [hl];simp only [Out.bind,hp,i9,h3,if_true,h4]
theorem wK {w:Wd} (ok:w.Ok) {Γ:Ev} (h0:Γ[0]?=some (L9 w.enc)):w5 (ae (aS aG (ae (ai (af 0) (eK (.int 0))) ag)) ag) Γ=.ok ⟨.lst .leaf,aI (List.range w.n)⟩ Γ:=by
 have lo:=ok.g.lo
 have h24:=ok.h24
 rw [Jy (Γ1:=Γ) (ps:=[⟨.leaf,.int w.n⟩]) (k:=(w.n:Int)) (by simp [h0,Wd.enc,lo]) rfl (by omega) (by omega),Int.toNat_natCast,Et]
theorem iJ {w:Wd} {s:Sn} {A B:List Nat} (hw:s.w=.su\/s.w=.au):bq [w.enc,s.enc,cJ [A,B]]=.ok ⟨.tup [.leaf,.leaf],.tuple [aI A,aI B]⟩:=by
 have hst:ai (af 1) (eK (.int 0)) (aZ 3 [w.enc,s.enc,cJ [A,B]])=.ok ⟨.leaf,.str s.w.t⟩ (aZ 3 [w.enc,s.enc,cJ [A,B]]):=by
  cases s<;>simp [aZ,Sn.enc,Sn.w]
 refine aR ?_
 unfold dj;rw [eo,JT,Fl,BO,hst];simp [hw,aZ,zx]
theorem yb {w:Wd} (ok:w.Ok) {x:PV} {A:List Nat}:aj 2 cH (ae (af 0) (ae (ai (af 2) (eK (.int 0))) ag)) [L9 w.enc,some x,L9 (cJ [A])]=.ok ⟨.lst .leaf,aI ((List.range w.n).filter fun t=>!A.contains t)⟩ [L9 w.enc,some x,L9 (cJ [A])]:=
 bV (ps:=[⟨.leaf,w.enc⟩,⟨.leaf,aI A⟩]) (aD (aB rfl) (aD (sY (j:=0) (ds:=[aI A]) (aB rfl) aQ rfl rfl rfl) aq)) (gX ok (r:=A)) rfl rfl
theorem iK {w:Wd} (ok:w.Ok) {s:Sn} {A:List Nat} (hw:¬(s.w=.su\/s.w=.au)):bq [w.enc,s.enc,cJ [A]]=.ok ⟨.tup [.lst .leaf,.lst .leaf],.tuple [aI (List.range w.n),aI ((List.range w.n).filter fun t=>!A.contains t)]⟩:=by
 have hst:ai (af 1) (eK (.int 0)) [L9 w.enc,L9 s.enc,L9 (cJ [A])]=.ok ⟨.leaf,.str s.w.t⟩ [L9 w.enc,L9 s.enc,L9 (cJ [A])]:=by
  cases s<;>simp [Sn.enc,Sn.w]
 have lr:=wK ok (Γ:=[L9 w.enc,L9 s.enc,L9 (cJ [A])]) rfl
 refine aR (az (Γ1:=[L9 w.enc,L9 s.enc,L9 (cJ [A])]) (bu (t:=false) (Γ1:=[L9 w.enc,L9 s.enc,L9 (cJ [A])]) (cC (s:=.leaf) (aJ hst aQ (by show bf false (.str s.w.t) ck=_;rw [CW,decide_eq_false hw]))) nofun (fun _=>rfl)) (br (cI (aD lr (aD (yb ok) aq)) rfl rfl) rfl))
theorem Ja {w:Wd} (ok:w.Ok) {s:Sn}:∃p:PV,bI [w.enc,s.enc,cJ (s.args.map (aK w))]=.ok p/\coer .leaf p=true/\wI w s p.d:=by
 have h24:=ok.h24
 have plain:∀s:Sn,¬(s.w=.su\/s.w=.au)->¬(s.w=.sa\/s.w=.aa)->∀P:D,bI [w.enc,s.enc,P]=.ok ⟨.leaf,.none⟩:=fun s h1 h2 P=>by
  have hst:ai (af 1) (eK (.int 0)) (aZ 6 [w.enc,s.enc,P])=.ok ⟨.leaf,.str s.w.t⟩ (aZ 6 [w.enc,s.enc,P]):=by
   cases s<;>simp [aZ,Sn.enc,Sn.w]
  refine aR ?_
  unfold fG;rw [eo,pS,hst];simp [aZ,h1,h2]
 have gl:∀a:Sn,(∀r∈(List.range w.n).filter (fun t=>!(aK w a).contains t),r<w.n)/\((List.range w.n).filter fun t=>!(aK w a).contains t).length<=1000:=fun a=>
  ⟨fun r hr=>List.mem_range.mp (List.mem_filter.mp hr).1,Nat.le_trans (length_filter_le _ _) (by simp;omega)⟩
 cases s with
 | yes=>exact ⟨_,plain .yes (by simp [Sn.w]) (by simp [Sn.w]) _,rfl,rfl⟩
 | mk c=>exact ⟨_,plain (.mk c) (by simp [Sn.w]) (by simp [Sn.w]) _,rfl,rfl⟩
 | un k a=>
  cases k with
  | not=>exact ⟨_,plain (.un .not a) (by simp [Sn.w,U5.w]) (by simp [Sn.w,U5.w]) _,rfl,rfl⟩
  | sn=>exact ⟨_,plain (.un .sn a) (by simp [Sn.w,U5.w]) (by simp [Sn.w,U5.w]) _,rfl,rfl⟩
  | an=>exact ⟨_,plain (.un .an a) (by simp [Sn.w,U5.w]) (by simp [Sn.w,U5.w]) _,rfl,rfl⟩
  | sa=>
   obtain ⟨rk,e,R⟩:=Hi ok (s:=.un .sa a) (P:=cJ [aK w a]) (.inr (.inl rfl)) ⟨_,rfl,iK ok (by simp [Sn.w,U5.w])⟩ (fun r hr=>List.mem_range.mp hr) (by simp;omega) (gl a).1 (gl a).2
   exact ⟨_,e,rfl,rk,rfl,R⟩
  | aa=>
   obtain ⟨rk,e,R⟩:=Hi ok (s:=.un .aa a) (P:=cJ [aK w a]) (.inr (.inr rfl)) ⟨_,rfl,iK ok (by simp [Sn.w,U5.w])⟩ (fun r hr=>List.mem_range.mp hr) (by simp;omega) (gl a).1 (gl a).2
   exact ⟨_,e,rfl,rk,rfl,R⟩
 | bi k a b=>
  cases k with
  | and=>exact ⟨_,plain (.bi .and a b) (by simp [Sn.w,B4.w]) (by simp [Sn.w,B4.w]) _,rfl,rfl⟩
  | or=>exact ⟨_,plain (.bi .or a b) (by simp [Sn.w,B4.w]) (by simp [Sn.w,B4.w]) _,rfl,rfl⟩
  | su=>
   obtain ⟨rk,e,R⟩:=Hi ok (s:=.bi .su a b) (P:=cJ [aK w a,aK w b]) (.inl (.inl rfl)) ⟨_,rfl,iJ (.inl rfl)⟩ GP (Eu ok) GP (Eu ok)
   exact ⟨_,e,rfl,rk,rfl,R⟩
  | au=>
   obtain ⟨rk,e,R⟩:=Hi ok (s:=.bi .au a b) (P:=cJ [aK w a,aK w b]) (.inl (.inr rfl)) ⟨_,rfl,iJ (.inr rfl)⟩ GP (Eu ok) GP (Eu ok)
   exact ⟨_,e,rfl,rk,rfl,R⟩
theorem Jp {w:Wd} (ok:w.Ok) {s:Sn} (hs:s.ok) {R:D} (hR:wI w s R):bU [w.enc,s.enc,cJ (s.args.map (aK w)),R]=.ok ⟨.lst .leaf,aI (aK w s)⟩:=by
 have lo:=ok.g.lo
 have h24:=ok.h24
 have e:aA .leaf 4 (dq (ae (aS aG (ae (ai (af 0) (eK (.int 0))) ag)) ag)) (aL bh (aj 5 dX (ae (af 0) (ae (af 1) (ae (af 2) (ae (af 3) (ae (af 4) ag))))))) (af 4) (aZ 5 [w.enc,s.enc,cJ (s.args.map (aK w)),R])=.ok ⟨.lst .leaf,.list (((List.range w.n).filter (bw w s)).map fun t=>rm t)⟩ (aZ 5 [w.enc,s.enc,cJ (s.args.map (aK w)),R]):=by
  refine tP rm (List.range w.n) (bw w s) (fun t=>⟨.leaf,rm t⟩) (st:=true) ?_ (by simp [aZ]) rfl (by simp;omega) (fun t ht=>?_) (fun t ht _=>?_)
  ·refine (nN (k:=(w.n:Int)) (ps:=[⟨.leaf,.int w.n⟩]) ?_ rfl (by omega) (by omega)).trans (by rw [<-Et];rfl)
   simp [aZ,Wd.enc,lo]
  ·have:=kO ok hs hR (List.mem_range.mp ht)
   simp [aZ,this]
  ·simp [aZ]
 refine aR ?_
 unfold iN;rw [pT,e];rfl
theorem iM {w:Wd} (ok:w.Ok):∀(n:Nat) (s:Sn),s.ok->s.dep<=n->de n [w.enc,s.enc]=.ok ⟨.lst .leaf,aI (aK w s)⟩
 | 0,s,_,h=>by
  have:=s.dep_args
  omega
 | n+1,s,hs,h=>by
  have da:∀a∈s.args,a.dep<=n:=fun a ha=>by
   have h1:=s.dep_args
   have:a.dep<=eT s.args:=by
    have:∀l:List Sn,a∈l->a.dep<=eT l:=fun l=>by
     induction l with
     | nil=>intro h;simp at h
     | cons b r ih=>
      intro h;rw [Hj];rcases LU h with rfl | h
      ·exact Nat.le_max_left _ _
      ·exact Nat.le_trans (ih h) (Nat.le_max_right _ _)
    exact this _ ha
   omega
  have pa:=Jg s
  have c:aA .leaf 3 (eu (aj 1 aV (ae (af 1) ag))) aN (aj 2 (de n) (ae (af 0) (ae (af 3) ag))) (aZ 4 [w.enc,s.enc])=.ok ⟨.lst .leaf,.list (s.args.map fun a=>aI (aK w a))⟩ (aZ 4 [w.enc,s.enc]):=by
   refine lz Sn.enc s.args (fun a=>⟨.lst .leaf,aI (aK w a)⟩) (st:=true) ?_ (by simp [aZ]) rfl (by have:=s.args_le;omega) fun a ha=>?_
   ·simp [aZ,pa,dA]
   ·have:=iM ok n a (Sn.args_ok hs a ha) (da a ha)
    simp [aZ,this]
  obtain ⟨p,e1,e2,e3⟩:=Ja ok (s:=s)
  have rb:=Jp ok hs e3
  have em:(s.args.map fun a=>aI (aK w a))=(s.args.map (aK w)).map aI:=by rw [map_map];rfl
  rw [em] at c;show aE 4 (iP (de n)) [w.enc,s.enc]=_
  refine aR ?_
  have s1:ax false 2 (aA .leaf 3 (eu (aj 1 aV (ae (af 1) ag))) aN (aj 2 (de n) (ae (af 0) (ae (af 3) ag)))) (aZ 4 [w.enc,s.enc])=.nx [L9 w.enc,L9 s.enc,L9 (cJ (s.args.map (aK w))),none]:=by
   rw [pS,c];simp [aZ]
  have s2:aj 3 bI (ae (af 0) (ae (af 1) (ae (af 2) ag))) [L9 w.enc,L9 s.enc,L9 (cJ (s.args.map (aK w))),none]=.ok p [L9 w.enc,L9 s.enc,L9 (cJ (s.args.map (aK w))),none]:=
   bV (aD (aB rfl) (aD (aB rfl) (aD (aB rfl) aq))) e1 rfl rfl
  have s3:aj 4 bU (ae (af 0) (ae (af 1) (ae (af 2) (ae (aj 3 bI (ae (af 0) (ae (af 1) (ae (af 2) ag)))) ag)))) [L9 w.enc,L9 s.enc,L9 (cJ (s.args.map (aK w))),none]=.ok ⟨.lst .leaf,aI (aK w s)⟩ [L9 w.enc,L9 s.enc,L9 (cJ (s.args.map (aK w))),none]:=
   bV (aD (aB rfl) (aD (aB rfl) (aD (aB rfl) (aD s2 aq)))) rb rfl (by simp only [List.all_cons,BR,e2,List.all_nil,Bool.and_self])
  unfold iP;rw [eo,s1];simp only
  rw [pT,s3];rfl
theorem Wd.Ok.check {w:Wd} (ok:w.Ok):bH [w.enc]=.ok ⟨.leaf,.none⟩:=sG (ok.g.wk (b:=24) ok.h24) (by omega) (ok.g.isW ok.h1 ok.h24)
end KC
namespace T
open PySem PySem.Spec L2
open PyProof.Rows hiding St
theorem Hk {α:Type} (en:α->D) {i:Nat} {body:FS} {Inv:List α->Ev->Prop} (hb:∀a r Γ,Inv (a::r) Γ->i<Γ.length/\∃Γ',body (Γ.set i (L9 (en a)))=.nx Γ'/\Inv r Γ'):∀(xs:List α) (Γ:Ev),Inv xs Γ->∃Γ',di i body (xs.map en) Γ=.nx Γ'/\Inv [] Γ'
 | [],Γ,h=>⟨Γ,rfl,h⟩
 | a::r,Γ,h=>by
  obtain ⟨hi,Γ1,h1,h2⟩:=hb a r Γ h;obtain ⟨Γ2,e,h3⟩:=Hk en hb r Γ1 h2;refine ⟨Γ2,?_,h3⟩
  rw [map_cons,di,if_pos hi,h1];exact e
theorem ic {Γ Γ1 Γ2:Ev} {fa fb:F1} {s s':Sh} {xs ys:List D} (ha:fa Γ=.ok ⟨s,.list xs⟩ Γ1) (hb:fb Γ1=.ok ⟨s',.list ys⟩ Γ2) (h1:dA ⟨s,.list xs⟩ xs=true) (h2:dA ⟨s',.list ys⟩ ys=true) (hn:xs.length+ys.length<=10000):cO fa fb Γ=.ok ⟨.lst .leaf,.list (xs++ys)⟩ Γ2:=by
 have hb':(10000:Nat)<=sizeLine:=by decide
 have:xs.length+ys.length<=sizeLine:=Nat.le_trans hn hb'
 unfold cO aX;rw [ha];simp only [wO]
 rw [hb];simp only [wO,h1,h2,decide_eq_true this,Bool.and_self,if_true]
end T
namespace KC
open PySem PySem.Spec L2 T PySem.SeqAt
open PyProof.Rows hiding St
theorem zy {n:Nat} {os ms ss:List D} (g:Gw (n:Int) n os ms ss) (h1:1<=n) (h24:n<=24):∃w:Wd,w.Ok/\w.enc=fK os ms ss/\w.n=n:=by
 have hm:∀l:List D,(∀r∈l,∃xs,r=.list xs/\gz xs)->∃M:List (List Str),l=M.map ur/\∀r∈M,∀c∈r,PyData.strOk c=true:=by
  have one:∀xs:List D,gz xs->∃r:List Str,xs=r.map .str/\∀c∈r,PyData.strOk c=true:=by
   intro xs;induction xs with
   | nil=>intro _;exact ⟨[],rfl,by simp⟩
   | cons a r ih=>
    intro h;obtain ⟨x,rfl,hx⟩:=h a mem_cons_self;obtain ⟨t,rfl,ht⟩:=ih fun b hb=>h b (LX _ hb)
    exact ⟨x::t,rfl,fun c hc=>(LU hc).elim (fun e=>by rw [e];exact hx) (ht c)⟩
  intro l;induction l with
  | nil=>intro _;exact ⟨[],rfl,by simp⟩
  | cons a r ih=>
   intro h;obtain ⟨xs,rfl,hx⟩:=h a mem_cons_self;obtain ⟨x,rfl,hx2⟩:=one xs hx;obtain ⟨M,rfl,hM⟩:=ih fun b hb=>h b (LX _ hb)
   exact ⟨x::M,rfl,fun c hc=>(LU hc).elim (fun e=>by rw [e];exact hx2) (hM c)⟩
 have hs:∀l:List D,(∀r∈l,∃ts:List Int,r=.list (ts.map .int)/\ts.length<=30/\ts≠[]/\(∀t∈ts,0<=t/\t<(n:Int))/\ts.Pairwise (· < ·))->∃S:List (List Nat),l=S.map aI/\∀r∈S,r≠[]/\r.length<=30/\∀t∈r,t<n:=by
  have one:∀ts:List Int,(∀t∈ts,0<=t/\t<(n:Int))->∃r:List Nat,ts.map PyData.int=r.map rm/\r.length=ts.length/\∀t∈r,t<n:=by
   intro ts;induction ts with
   | nil=>intro _;exact ⟨[],rfl,rfl,by simp⟩
   | cons a r ih=>
    intro h;have ha:=h a mem_cons_self
    obtain ⟨t,e,el,ht⟩:=ih fun b hb=>h b (LX _ hb)
    refine ⟨a.toNat::t,?_,by simp [el],fun c hc=>(LU hc).elim (fun e=>by omega) (ht c)⟩
    rw [map_cons,map_cons,e];congr 2
    omega
  intro l;induction l with
  | nil=>intro _;exact ⟨[],rfl,by simp⟩
  | cons a r ih=>
   intro h;obtain ⟨ts,rfl,t1,t2,t3,_⟩:=h a mem_cons_self;obtain ⟨x,e,el,hx⟩:=one ts t3;obtain ⟨S,rfl,hS⟩:=ih fun b hb=>h b (LX _ hb)
   refine ⟨x::S,by rw [map_cons,e],fun c hc=>(LU hc).elim (fun e=>by
    subst e;exact ⟨fun z=>t2 (List.length_eq_zero_iff.mp (by rw [<-el,z];rfl)),by omega,hx⟩) (hS c)⟩
 obtain ⟨M,eM,hM⟩:=hm ms fun r hr=>let ⟨xs,a,b,_⟩:=g.m r hr;⟨xs,a,b⟩
 obtain ⟨S,eS,hS⟩:=hs ss g.s;subst eM eS;refine ⟨⟨n,os,M,S⟩,⟨g,h1,h24,?_,?_,hS,hM⟩,rfl,rfl⟩
 ·have:=g.lm;simpa using this
 ·have:=g.ls;simpa using this
@[simp] theorem Ki (a:Wr):bf false (.str a.t) (.tuple [.str "and",.str "or",.str "some until",.str "all until"])=some (.bool (decide (a=.and\/a=.or\/a=.su\/a=.au))):=by cases a<;>kernel_rfl
theorem wF {k:Int} (h0:0<=k) (h1:k<3):∃c:Nat,eY (Str.ofString "abc").cps.toList k=some c/\(⟨#[c]⟩:Str)∈fT:=by
 rw [ze];have:k=0\/k=1\/k=2:=by omega
 rcases this with rfl | rfl | rfl
 ·exact ⟨97,rfl,by decide +kernel⟩
 ·exact ⟨98,rfl,by decide +kernel⟩
 ·exact ⟨99,rfl,by decide +kernel⟩
structure Mad (made:List Sn):Prop where
 ne:0<made.length
 ok:∀s∈made,s.ok
 dp:∀s∈made,s.dep<=made.length
theorem oE (l:List Int):xa (l.map .int)=some l:=by
 induction l with
 | nil=>rfl
 | cons a r ih=>rw [map_cons,xa,ih];rfl
theorem yJ {s a:Sn} (h:a∈s.args):a.dep+1<=s.dep:=by
 cases s with
 | yes=>simp [Sn.args] at h
 | mk c=>simp [Sn.args] at h
 | un k b=>simp [Sn.args] at h;subst h;simp [Sn.dep]
 | bi k b c=>
  simp [Sn.args] at h
  simp only [Sn.dep]
  rcases h with rfl | rfl<;>omega
end KC
namespace KQ
open PySem PySem.Spec L2 T PySem.SeqAt KC
open PyProof.Rows hiding St
noncomputable def d__law_world:FS:=(ak (ax false 3 (ay aW (eK (.int 1)) (ay dh (aj 2 aC (ae (af 0) (ae (af 1) ag))) (af 2))))
  (ak (ax true 4 (aM .leaf ag))
  (ak (ax true 5 (aM .leaf ag))
  (ak (ax true 6 (aM .leaf ag))
  (ak (cZ 7 (dq (ae (af 3) ag))
  (ak (ax false 8 (aj 2 aC (ae (af 0) (ae (ay aW (ay aW (af 1) (eK (.int 1))) (af 7)) ag))))
  (ak (dS 4 (aj 3 aw (ae (af 8) (ae (eK (.int 0)) (ae (eK (.int 2)) ag)))))
  (ak (dS 5 (aA .leaf 11 (iG "abc") (aL ao (ay bC (aj 3 aw (ae (af 8) (ae (ay aW (eK (.int 1)) (aS (fV "abc") (ae (af 11) ag))) (ae (eK (.int 2)) ag)))) (eK (.int 1)))) (af 11)))
  (ak (ax false 9 (aA .leaf 10 (dq (ae (af 3) ag)) (aL ao (ay bC (aj 3 aw (ae (af 8) (ae (ay aW (eK (.int 4)) (af 10)) (ae (ay aW (eK (.int 2)) (aS oF (ae (ay fI (af 3) (eK (.int 3))) ag))) ag)))) (eK (.int 1)))) (af 10)))
  (ak (bD (aL ao (ay bC (af 9) (aM .leaf ag))) (ax false 9 (aM .leaf (ae (aj 3 aw (ae (af 8) (ae (ay aW (eK (.int 4)) (af 3)) (ae (af 3) ag)))) ag))) aH)
  (dS 6 (af 9))))))))
  (aF (bB (ae (bR 4) (ae (bR 5) (ae (bR 6) ag))))))))))
noncomputable def m__law_world:List L8->Res:=aE 12 d__law_world
noncomputable abbrev eW:FS:=(ak (ax false 8 (aj 2 aC (ae (af 0) (ae (ay aW (ay aW (af 1) (eK (.int 1))) (af 7)) ag))))
  (ak (dS 4 (aj 3 aw (ae (af 8) (ae (eK (.int 0)) (ae (eK (.int 2)) ag)))))
  (ak (dS 5 (aA .leaf 11 (iG "abc") (aL ao (ay bC (aj 3 aw (ae (af 8) (ae (ay aW (eK (.int 1)) (aS (fV "abc") (ae (af 11) ag))) (ae (eK (.int 2)) ag)))) (eK (.int 1)))) (af 11)))
  (ak (ax false 9 (aA .leaf 10 (dq (ae (af 3) ag)) (aL ao (ay bC (aj 3 aw (ae (af 8) (ae (ay aW (eK (.int 4)) (af 10)) (ae (ay aW (eK (.int 2)) (aS oF (ae (ay fI (af 3) (eK (.int 3))) ag))) ag)))) (eK (.int 1)))) (af 10)))
  (ak (bD (aL ao (ay bC (af 9) (aM .leaf ag))) (ax false 9 (aM .leaf (ae (aj 3 aw (ae (af 8) (ae (ay aW (eK (.int 4)) (af 3)) (ae (af 3) ag)))) ag))) aH)
  (dS 6 (af 9)))))))
noncomputable def wZ (k:Nat):D:=.str ⟨#[97+k]⟩
theorem wD {Γ:Ev}:iG "abc" Γ=.ok ⟨[0,1,2].map wZ,true⟩ Γ:=by
 have:Gk "abc"=[0,1,2].map wZ:=by kernel_rfl
 unfold iG;rw [this]
theorem vq {k:Nat} (h:k∈[0,1,2]):k<3:=by
 simp at h
 omega
theorem CS {k:Nat} (h:k∈[0,1,2]):fV "abc" [wZ k]=some (.int (k:Int)):=by
 simp at h
 rcases h with rfl | rfl | rfl<;>kernel_rfl
theorem o7 {xs os ms ss:List D} {at' lim many:Int} {n:Nat} {x8 x9:Option PV} (hx:g9 xs) (ha:0<=at') (hm:1<=many) (hm2:many<=24) (h:Gw many n os ms ss) (hn:n<=30) {r:Nat} :
  ∃os' ms' ss' x8' x9',eW [L9 (.list xs),L9 (.int at'),L9 (.int lim),L9 (.int many),some ⟨.lst .leaf,.list os⟩,some ⟨.lst .leaf,.list ms⟩,some ⟨.lst .leaf,.list ss⟩,L9 (.int (r:Nat)),x8,x9,none,none]
   = .nx [L9 (.list xs),L9 (.int at'),L9 (.int lim),L9 (.int many),some ⟨.lst .leaf,.list os'⟩,some ⟨.lst .leaf,.list ms'⟩,some ⟨.lst .leaf,.list ss'⟩,L9 (.int (r:Nat)),x8',x9',none,none]/\Gw many (n+1) os' ms' ss':=by
 obtain ⟨c,hc⟩:=DW hx (k:=at'+1+(r:Int)) (by omega)
 have lo:=h.lo
 have lm:=h.lm
 have ls:=h.ls
 have c5:∀(Γ:Ev),Γ.length=12->Γ[8]?=some (L9 (.int c))->(aA .leaf 11 (iG "abc") (aL ao (ay bC (aj 3 aw (ae (af 8) (ae (ay aW (eK (.int 1)) (aS (fV "abc") (ae (af 11) ag))) (ae (eK (.int 2)) ag)))) (eK (.int 1)))) (af 11)) Γ
   = .ok ⟨.lst .leaf,.list (([0,1,2].filter fun k:Nat=>gg c (1+(k:Int)) 2==1).map wZ)⟩ Γ:=fun Γ hl h8=>by
  refine tP wZ [0,1,2] (fun k:Nat=>gg c (1+(k:Int)) 2==1) (fun k=>⟨.leaf,wZ k⟩) (st:=true) wD (by omega) rfl (by simp) (fun k hk=>?_) fun k hk _=>?_
  ·have g11:(Γ.set 11 (L9 (wZ k)))[11]?=some (L9 (wZ k)):=by rw [getElem?_set_self (by omega)]
   have g8:(Γ.set 11 (L9 (wZ k)))[8]?=some (L9 (.int c)):=by rw [getElem?_set_ne (by omega)];exact h8
   exact cC (aJ (bV (aD (aB g8) (aD (aJ aQ (bS (aD (aB g11) aq) (CS hk)) add_int') (aD aQ aq))) (AA (by omega) (by have:=vq hk;omega) (by omega) (by omega)) rfl rfl) aQ eq_int)
  ·exact ⟨aB (by rw [getElem?_set_self (by omega)]),rfl⟩
 generalize hM:(([0,1,2].filter fun k:Nat=>gg c (1+(k:Int)) 2==1).map wZ)=M at c5
 have rM:gz M/\M.length<=30/\yj (.list M)=true:=by
  refine ⟨?_,?_,?_⟩
  ·rw [<-hM]
   intro a ha;obtain ⟨k,hk,rfl⟩:=List.mem_map.mp ha;have:=vq (List.mem_filter.mp hk).1
   exact ⟨_,rfl,vk (by omega)⟩
  ·rw [<-hM,length_map]
   exact Nat.le_trans (length_filter_le _ _) (by simp)
  ·rw [<-hM]
   simp only [filter_cons,List.filter_nil]
   have:=Kf (gg c (1+((0:Nat):Int)) 2==1) (gg c (1+((1:Nat):Int)) 2==1) (gg c (1+((2:Nat):Int)) 2==1)
   revert this
   cases (gg c (1+((0:Nat):Int)) 2==1)<;>cases (gg c (1+((1:Nat):Int)) 2==1)<;>cases (gg c (1+((2:Nat):Int)) 2==1)<;>exact fun h=>h
 have c6:∀(Γ:Ev),Γ.length=12->Γ[8]?=some (L9 (.int c))->Γ[3]?=some (L9 (.int many))->aA .leaf 10 (dq (ae (af 3) ag)) (aL ao (ay bC (aj 3 aw (ae (af 8) (ae (ay aW (eK (.int 4)) (af 10)) (ae (ay aW (eK (.int 2)) (aS oF (ae (ay fI (af 3) (eK (.int 3))) ag))) ag)))) (eK (.int 1)))) (af 10) Γ
   = .ok ⟨.lst .leaf,.list (((cz 0 many.toNat).filter fun d=>match d with | .int k=>gg c (4+k) (2+(if decide (3<many) then 1 else 0))==1 | _=>false).map fun d=>d)⟩ Γ:=fun Γ hl h8 h3=>by
  refine iH (c:=fun d=>match d with | .int k=>gg c (4+k) (2+(if decide (3<many) then 1 else 0))==1 | _=>false) (f:=fun d=>⟨.leaf,d⟩) (st:=true) (nN (k:=many) (aD (aB h3) aq) rfl (by omega) (by omega)) (by omega) rfl (by rw [G7];omega) (fun d hd=>?_) fun d hd _=>?_
  ·obtain ⟨k,hk,rfl⟩:=Er hd
   have g10:(Γ.set 10 (L9 (.int (0+(k:Int)))))[10]?=some (L9 (.int (0+(k:Int)))):=by rw [getElem?_set_self (by omega)]
   have g8:(Γ.set 10 (L9 (.int (0+(k:Int)))))[8]?=some (L9 (.int c)):=by rw [getElem?_set_ne (by omega)];exact h8
   have g3:(Γ.set 10 (L9 (.int (0+(k:Int)))))[3]?=some (L9 (.int many)):=by rw [getElem?_set_ne (by omega)];exact h3
   have b1:(1:Int)<=2+(if decide (3<many) then 1 else 0)/\(2:Int)+(if decide (3<many) then 1 else 0)<=1000:=by split<;>omega
   exact cC (aJ (bV (aD (aB g8) (aD (aJ aQ (aB g10) add_int') (aD (aJ aQ (bS (aD (aJ (aB g3) aQ rfl) aq) rfl) add_int') aq))) (AA (by omega) (by omega) b1.1 b1.2) rfl rfl) aQ eq_int)
  ·obtain ⟨k,hk,rfl⟩:=Er hd
   exact ⟨aB (by rw [getElem?_set_self (by omega)]),rfl⟩
 obtain ⟨ts,hT,hts1,hts2,hts3⟩:=Bs many.toNat (fun d=>match d with | .int k=>gg c (4+k) (2+(if decide (3<many) then 1 else 0))==1 | _=>false)
 rw [hT] at c6;have fin:∀(Γ:Ev) (T:List Int),(T.length<=30/\T≠[]/\(∀t∈T,0<=t/\t<many)/\T.Pairwise (· < ·))->Γ=[L9 (.list xs),L9 (.int at'),L9 (.int lim),L9 (.int many),some ⟨.lst .leaf,.list (os++[.int (gg c 0 2)])⟩,some ⟨.lst .leaf,.list (ms++[.list M])⟩,some ⟨.lst .leaf,.list ss⟩,L9 (.int (r:Nat)),L9 (.int c),L9 (.list (T.map .int)),none,none] ->
   ∃os' ms' ss' x8' x9',dS 6 (af 9) Γ=.nx [L9 (.list xs),L9 (.int at'),L9 (.int lim),L9 (.int many),some ⟨.lst .leaf,.list os'⟩,some ⟨.lst .leaf,.list ms'⟩,some ⟨.lst .leaf,.list ss'⟩,L9 (.int (r:Nat)),x8',x9',none,none]/\Gw many (n+1) os' ms' ss':=fun Γ T hT2 hΓ=>by
  subst hΓ;refine ⟨os++[.int (gg c 0 2)],ms++[.list M],ss++[.list (T.map .int)],_,_,Hr rfl (aB rfl) rfl (by omega),by simp;omega,by simp;omega,by simp;omega,fun a ha=>?_,fun a ha=>?_,fun a ha=>?_⟩
  ·rcases LR ha with z | z
   ·exact h.o a z
   ·have:=GK (c:=c) (k:=0) (b:=2) (by omega) (by omega) (by omega) (by omega)
    rw [List.mem_singleton.mp z];rcases (by omega:gg c 0 2=0\/gg c 0 2=1) with e | e
    ·exact .inl (by rw [e])
    ·exact .inr (by rw [e])
  ·rcases LR ha with z | z
   ·exact h.m a z
   ·exact ⟨M,List.mem_singleton.mp z,rM.1,rM.2.1,by rw [List.mem_singleton.mp z];exact rM.2.2⟩
  ·rcases LR ha with z | z
   ·exact h.s a z
   ·exact ⟨T,List.mem_singleton.mp z,hT2⟩
 have e1:=b6 (i:=8) (bV (fl:=ae (af 0) (ae (ay aW (ay aW (af 1) (eK (.int 1))) (af 7)) ag)) (Γ:=[L9 (.list xs),L9 (.int at'),L9 (.int lim),L9 (.int many),some ⟨.lst .leaf,.list os⟩,some ⟨.lst .leaf,.list ms⟩,some ⟨.lst .leaf,.list ss⟩,L9 (.int (r:Nat)),x8,x9,none,none]) (aD (aB rfl) (aD (aJ (aJ (aB rfl) aQ add_int') (aB rfl) add_int') aq)) hc rfl rfl) rfl (by simp)
 have e2:dS 4 (aj 3 aw (ae (af 8) (ae (eK (.int 0)) (ae (eK (.int 2)) ag)))) [L9 (.list xs),L9 (.int at'),L9 (.int lim),L9 (.int many),some ⟨.lst .leaf,.list os⟩,some ⟨.lst .leaf,.list ms⟩,some ⟨.lst .leaf,.list ss⟩,L9 (.int (r:Nat)),L9 (.int c),x9,none,none]=_:=
  Hr rfl (bV (aD (aB rfl) (aD aQ (aD aQ aq))) (AA (by omega) (by omega) (by omega) (by omega)) rfl rfl) rfl (by omega)
 have e3:=Hr (i:=5) (Γ:=[L9 (.list xs),L9 (.int at'),L9 (.int lim),L9 (.int many),some ⟨.lst .leaf,.list (os++[.int (gg c 0 2)])⟩,some ⟨.lst .leaf,.list ms⟩,some ⟨.lst .leaf,.list ss⟩,L9 (.int (r:Nat)),L9 (.int c),x9,none,none]) rfl (c5 _ rfl rfl) rfl (by omega)
 have e4:=b6 (i:=9) (Γ:=[L9 (.list xs),L9 (.int at'),L9 (.int lim),L9 (.int many),some ⟨.lst .leaf,.list (os++[.int (gg c 0 2)])⟩,some ⟨.lst .leaf,.list (ms++[.list M])⟩,some ⟨.lst .leaf,.list ss⟩,L9 (.int (r:Nat)),L9 (.int c),x9,none,none]) (c6 _ rfl rfl rfl) rfl (by simp)
 have t:aL ao (ay bC (af 9) (aM .leaf ag)) [L9 (.list xs),L9 (.int at'),L9 (.int lim),L9 (.int many),some ⟨.lst .leaf,.list (os++[.int (gg c 0 2)])⟩,some ⟨.lst .leaf,.list (ms++[.list M])⟩,some ⟨.lst .leaf,.list ss⟩,L9 (.int (r:Nat)),L9 (.int c),L9 (.list (ts.map .int)),none,none]
   = .ok (decide ((ts.map PyData.int).length=0)) _:=cC (aJ (aB rfl) (jy (s:=.leaf) aq rfl rfl rfl) (Dm (Iw AG)))
 cases hz:decide ((ts.map PyData.int).length=0) with
 | true=>
  rw [hz] at t;obtain ⟨o',m',s',y8,y9,f1,f2⟩:=fin _ [gg c (4+many) many] ⟨by simp,by simp,fun t ht=>by rw [List.mem_singleton.mp ht];exact GK (by omega) (by omega) (by omega) (by omega),List.pairwise_singleton _ _⟩ rfl
  exact ⟨o',m',s',y8,y9,az e1 (az e2 (az e3 (az e4 (az (bu t (fun _=>b6 (jy (s:=.leaf) (aD (bV (aD (aB rfl) (aD (aJ aQ (aB rfl) add_int') (aD (aB rfl) aq))) (AA (by omega) (by omega) (by omega) (by omega)) rfl rfl) aq) rfl rfl rfl) rfl (by simp)) nofun) f1)))),f2⟩
 | false=>
  rw [hz] at t;obtain ⟨o',m',s',y8,y9,f1,f2⟩:=fin _ ts ⟨by omega,(fun z=>by rw [z] at hz;cases hz),(fun t ht=>by have:=hts1 t ht;omega),hts2⟩ rfl
  exact ⟨o',m',s',y8,y9,az e1 (az e2 (az e3 (az e4 (az (bu t nofun (fun _=>rfl)) f1)))),f2⟩
theorem sy {xs:List D} {at' lim:Int} (hx:g9 xs) (ha:0<=at') (hl:1<=lim) (hl2:lim<=24):∃(n:Nat) (os ms ss:List D),m__law_world [.list xs,.int at',.int lim]=.ok ⟨W3,fK os ms ss⟩/\Gw (n:Int) n os ms ss/\1<=n/\(n:Int)<=lim:=by
 obtain ⟨c,hc⟩:=DW hx (k:=at') ha
 have b0:0<=c % lim:=Int.emod_nonneg _ (by omega)
 have b1:c % lim<lim:=Int.emod_lt_of_pos _ (by omega)
 generalize hmm:1+c % lim=many at *
 have e0:ax false 3 (ay aW (eK (.int 1)) (ay dh (aj 2 aC (ae (af 0) (ae (af 1) ag))) (af 2))) [L9 (.list xs),L9 (.int at'),L9 (.int lim),none,none,none,none,none,none,none,none,none]
   = .nx [L9 (.list xs),L9 (.int at'),L9 (.int lim),L9 (.int many),none,none,none,none,none,none,none,none]:=by
  rw [<-hmm];exact b6 (aJ aQ (aJ (bV (aD (aB rfl) (aD (aB rfl) aq)) hc rfl rfl) (aB rfl) (fS (by omega))) add_int') rfl (by simp)
 obtain ⟨Γ',e,os,ms,ss,x7,x8,x9,hΓ,hw⟩:=IL (P:=fun n Γ=>∃os ms ss x7 x8 x9,Γ=[L9 (.list xs),L9 (.int at'),L9 (.int lim),L9 (.int many),some ⟨.lst .leaf,.list os⟩,some ⟨.lst .leaf,.list ms⟩,some ⟨.lst .leaf,.list ss⟩,x7,x8,x9,none,none]/\Gw many n os ms ss) (i:=7) (body:=eW) (cz 0 many.toNat) 0
  [L9 (.list xs),L9 (.int at'),L9 (.int lim),L9 (.int many),some ⟨.lst .leaf,.list []⟩,some ⟨.lst .leaf,.list []⟩,some ⟨.lst .leaf,.list []⟩,none,none,none,none,none] ⟨[],[],[],none,none,none,rfl,rfl,rfl,rfl,fun a ha=>(nomatch ha),fun a ha=>(nomatch ha),fun a ha=>(nomatch ha)⟩ (fun m d Γ hd h1 h2 ⟨os,ms,ss,x7,x8,x9,hΓ,hw⟩=>by
   subst hΓ;obtain ⟨k,hk,rfl⟩:=Er hd;rw [G7] at h2;rw [Int.zero_add];obtain ⟨os',ms',ss',y8,y9,f1,f2⟩:=o7 (at':=at') (lim:=lim) (many:=many) (x8:=x8) (x9:=x9) hx ha (by omega) (by omega) hw (by omega) (r:=k)
   exact ⟨by simp,_,f1,os',ms',ss',_,y8,y9,rfl,f2⟩)
 subst hΓ;rw [G7,Nat.zero_add] at hw;have en:((many.toNat:Nat):Int)=many:=by omega
 refine ⟨many.toNat,os,ms,ss,aR (az e0 (az (tK (jy (s:=.leaf) aq rfl rfl rfl) rfl (by simp)) (az (tK (jy (s:=.leaf) aq rfl rfl rfl) rfl (by simp)) (az (tK (jy (s:=.leaf) aq rfl rfl rfl) rfl (by simp)) (az (gD (nN (k:=many) (aD (aB rfl) aq) rfl (by omega) (by omega)) e) (br (cI (aD (Az (p:=⟨.lst .leaf,.list os⟩) rfl) (aD (Az (p:=⟨.lst .leaf,.list ms⟩) rfl) (aD (Az (p:=⟨.lst .leaf,.list ss⟩) rfl) aq))) rfl rfl) rfl)))))),by rw [en];exact hw,by omega,by omega⟩
end KQ
namespace KC
open PySem PySem.Spec L2 T
open PyProof.Rows hiding St
noncomputable def d3:FS:=(aF (cV (ay (cN true) (af 0) (eK .none)) (cV (ay (cN true) (af 1) (eK .none)) (ay gv (af 0) (af 1)))))
noncomputable def dW:List L8->Res:=aE 2 d3
noncomputable def fy:FS:=(aF (aA .leaf 3 (aU (ai (ai (af 0) (eK (.int 2))) (af 2))) (aL bh (aj 2 dW (ae (ai (af 1) (af 3)) (ae (ai (af 1) (af 2)) ag)))) (af 3)))
noncomputable def dF:List L8->Res:=aE 4 fy
open PySem.SeqAt
theorem nE {n:Nat} {fl:FL} {Γ:Ev} {s:Sh} (hn:n<=1000) (h:fl Γ=.ok [⟨s,.int (n:Int)⟩] Γ):dq fl Γ=.ok ⟨(List.range n).map rm,true⟩ Γ:=by
 rw [nN (k:=(n:Int)) h rfl (by omega) (by omega),Int.toNat_natCast,Et]
noncomputable def Ly (p:Int):D->Bool
 | .int o=>o==p
 | _=>false
noncomputable def own (w:Wd) (p:Int):Nat->Bool:=hZ (w.os.map (Ly p))
noncomputable def jk:Option Nat->Option Nat->Bool
 | some a,some b=>decide (a<b)
 | _,_=>false
theorem sF {a b:Option Nat}:dW [oD a,oD b]=.ok ⟨.leaf,.bool (jk a b)⟩:=by
 refine aR ?_
 cases a with
 | none=>simp [d3,aZ,oD,jk,tf]
 | some a=>
  cases b with
  | none=>simp [d3,aZ,oD,jk,tf]
  | some b=>simp [d3,aZ,oD,jk,tf]
noncomputable def rV (w:Wd) (rk:List (Option Nat)) (r:Nat):List Nat:=(w.stp r).filter fun t=>jk (bc rk t) (bc rk r)
theorem gY {w:Wd} (ok:w.Ok) {rk:List (Option Nat)} (hl:rk.length=w.n) {r:Nat} (hr:r<w.n):dF [w.enc,dE rk,rm r]=.ok ⟨.lst .leaf,aI (rV w rk r)⟩:=by
 have a2:=ok.at2 hr
 have a1:=gQ (rk:=rk) (t:=r) (by omega)
 have e:aA .leaf 3 (aU (ai (ai (af 0) (eK (.int 2))) (af 2))) (aL bh (aj 2 dW (ae (ai (af 1) (af 3)) (ae (ai (af 1) (af 2)) ag)))) (af 3) (aZ 4 [w.enc,dE rk,rm r])=.ok ⟨.lst .leaf,.list ((rV w rk r).map fun t=>rm t)⟩ (aZ 4 [w.enc,dE rk,rm r]):=by
  refine tP rm (w.stp r) (fun t=>jk (bc rk t) (bc rk r)) (fun t=>⟨.leaf,rm t⟩) (st:=true) (by simp [aZ,Wd.enc,fK,a2]) (by simp [aZ]) rfl ok.z.len (fun t ht=>?_) (fun t ht _=>?_)
  ·have a3:=gQ (rk:=rk) (t:=t) (by rw [hl];exact ok.stp_lt ht)
   have dl:=sF (a:=bc rk t) (b:=bc rk r)
   simp [aZ,a1,a3,dl]
  ·simp [aZ]
 refine aR ?_
 unfold fy;rw [pT,e];rfl
structure Kw (w:Wd) (p:Int) (pl:List (Option Nat)):Prop where
 len:pl.length=w.n
 st:∀r t,r<w.n->bc pl r=some t->own w p r=true/\t∈w.stp r
end KC
namespace T
open PySem PySem.Spec L2
open PyProof.Rows hiding St
def gH (i j:Nat) (fl:FL):FS:=fun Γ=>match fl Γ with
 | .ok [p,q] Γ1=>(match putN [i,j] [p,q] Γ1 with
  | some Γ'=>.nx Γ'
  | none=>.no)
 | .ok _ _=>.no
 | .er c Γ1=>.er c Γ1
 | .no=>.no
def zC (i j:Nat) (ta:TA):TS:=fun D σ H=>ta σ H fun vs H1=>∃v w,vs=[v,w]/\D.nx ((σ.set i (some v)).set j (some w)) H1
section
variable {K:Fg} {W:XW} {σ:St} {H:Hp} {D:dI} {fl:FL}
theorem xI {i j:Nat} (h:tS K W (gH i j fl) D σ H):zC i j (tA K W fl) D σ H:=by
 obtain ⟨He,O,Fs,Γ,E,h⟩:=h;refine ⟨He,O,Fs,Γ,E,?_⟩
 unfold gH at h
 cases e:fl Γ with
 | er c Γ1=>rw [e] at h;exact fun H' Fs' s E'=>h σ H' Fs' E'
 | no=>rw [e] at h;exact h
 | ok ps Γ1=>
  rw [e] at h;intro vs H1 Gs Fs1 A;match ps,h,A with
  | [p,q],h,A=>
   match vs,A.len1,Gs,A.len2,A with
   | [v1,v2],_,[G1,G2],_,A=>
    dsimp only at h
    cases hp:putN [i,j] [p,q] Γ1 with
    | none=>rw [hp] at h;exact h.elim
    | some Γ'=>
     rw [hp] at h;obtain ⟨Fs',E'⟩:=mr (is:=[i,j]) (vs:=[v1,v2]) (Gs:=[G1,G2]) rfl rfl A.env (fun a ha=>(A.new a (LQ _ ha)).elim (E.fresh a) E.same.free) (fun k v p G a1 a2 a3=>A.own k v p G a1 a2 a3) hp
     exact ⟨v1,v2,rfl,h _ _ _ E'⟩
  | [],h,A=>exact h.elim
  | [_],h,A=>exact h.elim
  | _::_::_::_,h,A=>exact h.elim
end
section
variable {X:Cx}
theorem xW {pos:Pos} {i j:Nat} {x y:Str} {a b:Expr} {ta:TA} {px py pt:Pos} {kt k2 pt2} (hc:X.calm=true) (hN:X.N.Nodup) (hi:X.N[i]?=some x) (hj:X.N[j]?=some y) (hij:i≠j)
  (hx:X.env.scope.names.lookup x=some .local) (hy:X.env.scope.names.lookup y=some .local) (ha:PA X [a,b] ta)
  (hw:swappedStores [.Tuple [.Name x px,.Name y py] kt pt] (.Tuple [a,b] k2 pt2) X.env=pure (some [x,y]))
  (hs:swapsWithSole [.Tuple [.Name x px,.Name y py] kt pt] (.Tuple [a,b] k2 pt2) pos.line X.env=pure false) :
  PS X (.Assign [.Tuple [.Name x px,.Name y py] kt pt] (.Tuple [a,b] k2 pt2) pos) (zC i j ta):=by
 intro pins s σ H D I h;rw [exec_Assign_arm];refine L1 (wpAny_standAt ?_)
 rw [hs];refine L1 (L5 ?_)
 rw [if_neg (by decide)]
 refine L1 (Tuple_ (bK (ha _ pins s σ H _ I h) fun us s1 ⟨vs,H1,I1,r1,q1⟩=>?_))
 obtain ⟨v,w,e1,q1⟩:=q1;subst e1;obtain ⟨u1,u2,rfl,rv,rw'⟩:∃u1 u2,us=[u1,u2]/\RelV v u1/\RelV w u2:=by
  cases r1 with
  | cons p q=>
   cases q with
   | cons p' q'=>
    cases q'
    exact ⟨_,_,rfl,p,p'⟩
 refine wpAny_newObj_type ?_ (by show 2<=sizeLine;decide)
 have I2:Inv X pins σ H1 { s1 with heap:=s1.heap.push { cls:=.type "tuple",data:=.seq [u1,u2].toArray } }:=I1.kept (t':=s1.toks) fun b o e=>L6 _ e
 rw [hw];refine L1 (L5 ?_)
 show wpAny (model X.prog X.w) X.A (do rule "assign.swapped-stores";let items <-unpackItems (.ref s1.heap.objs.size) 2 none;assignInOrder [fun v=>bindName X.env y v,fun v=>bindName X.env x v] items.reverse;pure Flow.next) _ _ _
 refine L1 (wpAny_rule (L1 (unpackItems_tuple (items:=#[u1,u2]) (I.ok.hd hc) (IsTup.new s1.heap _) fun h' hx'=>?_)))
 have I3:=I2.kept (h':=h') (t':=s1.toks) fun b o e=>hx' b o (Nat.ne_of_lt (Heap.lt_size e)) e
 show wpAny _ _ (assignInOrder [fun v=>bindName X.env y v,fun v=>bindName X.env x v] [u2,u1] >>= fun _=>pure Flow.next) _ _ _
 refine L1 (assignInOrder_cons (wpAny_bindName (DX I3 hN hj (.inl hy) rw' (fun s2 I4=>?_) (.inr hy))))
 refine assignInOrder_cons (wpAny_bindName (DX I4 hN hi (.inl hx) rv (fun s4 I6=>assignInOrder_nil (L5 ?_)) (.inr hx)))
 have e:(σ.set j (some w)).set i (some v)=(σ.set i (some v)).set j (some w):=by
  rw [List.set_comm _ _ (Ne.symm hij)]
 rw [e] at I6;exact ⟨_,H1,I6,q1⟩
theorem uE {x y:Str} {px py pt:Pos} {kt k2 pt2} {a b:Expr} (hk:X.env.scope.kind=.function) (hx:X.env.scope.names.lookup x=some .local) (hy:X.env.scope.names.lookup y=some .local)
  (hl:(px.line==px.line&&py.line==px.line)=true) (hd:([x,y].eraseDups.length != [x,y].length)=false) (hst:([a,b].any fun | .Starred ..=>true | _=>false)=false) (hf:([a,b].all (foldedForSure 8))=false) (hc:([a,b].all (constantsAlone 8))=false) :
  swappedStores [.Tuple [.Name x px,.Name y py] kt pt] (.Tuple [a,b] k2 pt2) X.env=pure (some [x,y]):=by
 have e1:(X.env.blockKind != ScopeKind.function)=false:=by unfold Env.blockKind;rw [hk];rfl
 have ex:(X.env.kindOf x==some NameKind.local)=true:=by unfold Env.kindOf;rw [hx];rfl
 have ey:(X.env.kindOf y==some NameKind.local)=true:=by unfold Env.kindOf;rw [hy];rfl
 simp only [Bool.and_eq_true] at hl
 obtain ⟨l1,l2⟩:=hl;unfold swappedStores;simp only [length_cons,length_nil,e1,hst,List.head?_cons,Option.map_some,Option.getD_some,Expr.pos,filterMap_cons,List.filterMap_nil,ex,ey,l1,l2,Bool.and_self,if_true,hf,hc]
 simp [hd] at *
 simp [hd]
 rintro (h | h)
 ·exact absurd (hst.1.symm.trans h) Bool.false_ne_true
 ·exact absurd (hst.2.symm.trans h) Bool.false_ne_true
variable {N gl:List Str} {vs cs ls lo gs:List Nat} {W:XW} {a b:Expr} {pos:Pos} {fl:FL}
theorem cs_par2 (S:Cp X N gl vs cs ls lo gs) (i j:Nat) {x y:Str} {px py pt:Pos} {kt k2 pt2} (hi:N[i]?=some x) (hj:N[j]?=some y) (li:lo.contains i=true) (lj:lo.contains j=true) (hij:(i != j)=true)
  (hl:(px.line==px.line&&py.line==px.line)=true) (hd:([x,y].eraseDups.length != [x,y].length)=false) (hst:([a,b].any fun | .Starred ..=>true | _=>false)=false) (hf:([a,b].all (foldedForSure 8))=false) (hc:([a,b].all (constantsAlone 8))=false)
  (ha:PA X [a,b] (tA X.K W fl)) (hs:swapsWithSole [.Tuple [.Name x px,.Name y py] kt pt] (.Tuple [a,b] k2 pt2) pos.line X.env=pure false) :
  PS X (.Assign [.Tuple [.Name x px,.Name y py] kt pt] (.Tuple [a,b] k2 pt2) pos) (tS X.K W (gH i j fl)):=by
 have hN:X.N.Nodup:=by rw [S.hN];exact S.nd
 have lx:=S.loo i x hi li
 have ly:=S.loo j y hj lj
 exact cB (xW S.calm hN (by rw [S.hN];exact hi) (by rw [S.hN];exact hj) (by simpa using hij) lx ly ha (uE S.kind lx ly hl hd hst hf hc) hs) fun _ _ _=>xI
end
end T
namespace TQ
open PySem PySem.Spec L2 T
open PyProof.Rows hiding St
section
variable {X:Cx} {N gl:List Str} {vs cs ls lo gs:List Nat} {W:XW} {a b:Expr} {pos:Pos} {fl:FL}
theorem qP (S:Cp X N gl vs cs ls lo gs) (i j:Nat) {x y:Str} {px py pt:Pos} {kt k2 pt2} (hi:N[i]?=some x) (hj:N[j]?=some y) (li:lo.contains i=true) (lj:lo.contains j=true) (hij:(i != j)=true)
  (hl:(px.line==px.line&&py.line==px.line)=true) (hd:([x,y].eraseDups.length != [x,y].length)=false) (hst:([a,b].any fun | .Starred ..=>true | _=>false)=false) (hf:([a,b].all (foldedForSure 8))=false) (hc:([a,b].all (constantsAlone 8))=false)
  (ha:Q (PA X [a,b] (tA X.K W fl))) (hs:swapsWithSole [.Tuple [.Name x px,.Name y py] kt pt] (.Tuple [a,b] k2 pt2) pos.line X.env=pure false) :
  Q (PS X (.Assign [.Tuple [.Name x px,.Name y py] kt pt] (.Tuple [a,b] k2 pt2) pos) (tS X.K W (gH i j fl))):=⟨T.cs_par2 S i j hi hj li lj hij hl hd hst hf hc ha.p hs⟩
end
end TQ
namespace T
open PySem PySem.Spec L2
open PyProof.Rows hiding St
section
variable {K:Fg} {W:XW} {σ:St} {H:Hp} {Q:VK} {D:dI} {fa fb:F1} {fl:FL}
theorem EnvOk.chgAt {He:Hp} {O:List Addr} {Fs:List (List Addr)} {Γ:Ev} {i:Nat} {s:Sh} {d d':L8} {v:V} {F:List Addr} {m:Addr} {xs ys:List V} (E:EnvOk K He O Fs H σ Γ) (h:Γ[i]?=some (some ⟨s,d⟩)) (h1:σ[i]?=some (some v)) (h2:Fs[i]?=some F)
  (hm:m∈F) (hx:H m=some (.lst xs)) (hs:s.isView=false) (o:Own K (O++Fs.flatten) (cy H m (.lst ys)) s F v d'):EnvOk K He O Fs (cy H m (.lst ys)) σ (Γ.set i (some ⟨s,d'⟩)):=by
 have hi:i<Γ.length:=(L0 h).1
 have hmF:m∈Fs.flatten:=iU h2 hm
 have hHe:=E.fresh m hmF
 refine ⟨by rw [length_set];exact E.len1,by rw [length_set];exact E.len2,fun b u e=>?_,E.nd,fun a ha=>?_,E.fresh,fun j q hq=>?_⟩
 ·rw [gf (xi e hHe)]
  exact E.same b u e
 ·by_cases z:a=m
  ·rw [z,iV];exact Option.some_ne_none _
  ·rw [gf z];exact E.inH a ha
 ·by_cases hj:j=i
  ·subst hj
   rw [getElem?_set_self hi] at hq
   cases hq;exact ⟨hs,v,F,h1,h2,o⟩
  ·rw [getElem?_set_ne (Ne.symm hj)] at hq
   obtain ⟨w1,v',F',e1,e2,e3⟩:=E.slot j q hq;exact ⟨w1,v',F',e1,e2,e3.mut w1 (LP _ hmF) (fun z=>IX (LZ E.nd).2.1 e2 h2 hj m z hm) hx⟩
theorem EnvOk.chgT {He:Hp} {O:List Addr} {Fs:List (List Addr)} {Γ:Ev} {i j:Nat} {ss:List Sh} {ds es:List L8} (E:EnvOk K He O Fs H σ Γ) (h:Γ[i]?=some (some ⟨.tup ss,.tuple ds⟩)) (hj:ds[j]?=some (.list es)) (hsj:ss[j]?=some (.lst .leaf)) :
  ∃l vs m ws,σ[i]?=some (some (.ref l))/\H l=some (.tup vs)/\vs.length=ds.length/\vs[j]?=some (.ref m)/\H m=some (.lst ws)/\ws.length=es.length/\(∀(k:Nat) u d,ws[k]?=some u->es[k]?=some d->Rep K (cY H (O++Fs.flatten)) u d) /\
   ∀(ws':List V) (es':List L8),ws'.length=es'.length->(∀(k:Nat) u d,ws'[k]?=some u->es'[k]?=some d->Rep K (cY H (O++Fs.flatten)) u d)->EnvOk K He O Fs (cy H m (.lst ws')) σ (Γ.set i (some ⟨.tup ss,.tuple (ds.set j (.list es'))⟩)):=by
 obtain ⟨hv,v,F,h1,h2,o⟩:=E.slot i _ h
 cases o with
 | @tup _ p vs _ Fs0 hsv hp hn hl hf hs nd q=>
  have hjl:j<ds.length:=(L0 hj).1
  have vj:vs[j]?=some (vs[j]'(by omega)):=LV _
  have fj:Fs0[j]?=some (Fs0[j]'(by omega)):=LV _
  obtain ⟨m,ws,em,eG,hm,hwl,hwr⟩:=(q j _ _ _ _ vj hj fj hsj).leaves;rw [em] at vj;rw [eG] at fj;have hmF:m∈Fs0.flatten:=iU fj (List.mem_singleton.mpr rfl)
  have hmO:m∈O++Fs.flatten:=LP _ (iU h2 hmF)
  have pnm:p≠m:=fun z=>hn (z▸hmO)
  refine ⟨p,vs,m,ws,h1,hp,hl,vj,hm,hwl,hwr,fun ws' es' hw q'=>?_⟩
  refine E.chgAt h h1 h2 hmF hm rfl ?_
  refine .tup hsv (by rw [gf pnm];exact hp) hn (by rw [length_set];exact hl) (by rw [length_set];exact hf) (by rw [length_set];exact hs) nd fun k v d F s e1 e2 e3 e4=>?_
  by_cases hk:k=j
  ·subst hk
   rw [getElem?_set_self hjl] at e2
   cases e2;rw [vj] at e1
   cases e1;rw [fj] at e3
   cases e3;rw [hsj] at e4
   cases e4;refine Own.mkLeaves iV hw fun n u d a1 a2=>?_
   rw [GZ hmO];exact q' n u d a1 a2
  ·rw [getElem?_set_ne (Ne.symm hk)] at e2
   exact (q k v d F s e1 e2 e3 e4).mut (hsv s (mem_of_getElem? e4)) hmO (fun z=>IX nd e3 fj hk m z (List.mem_singleton.mpr rfl)) hm
def Lz (i:Nat) (q p:PV) (Γ:Ev):dG:=match Γ[i]? with
 | some (some ⟨.lst .leaf,.list ds⟩)=>(match q.d with
  | .int k=>if decide (0<=k)&&decide (k<=ds.length)&&decide (ds.length<10000)&&T.coer .leaf p then .nx (Γ.set i (some ⟨.lst .leaf,.list (ds.take k.toNat++p.d::ds.drop k.toNat)⟩)) else .no
  | _=>.no)
 | _=>.no
def qA (i:Nat) (k:Nat) (p:PV) (Γ:Ev):dG:=match Γ[i]? with
 | some (some ⟨.tup ss,.tuple ds⟩)=>(match ss[k]?,ds[k]? with
  | some (.lst .leaf),some (.list es)=>if T.coer .leaf p&&decide (es.length<sizeLine) then .nx (Γ.set i (some ⟨.tup ss,.tuple (ds.set k (.list (es++[p.d])))⟩)) else .no
  | _,_=>.no)
 | _=>.no
def D4 (i k:Nat) (Γ:Ev):Bool:=match Γ[i]? with
 | some (some ⟨.tup ss,.tuple ds⟩)=>(match ss[k]?,ds[k]? with
  | some (.lst .leaf),some (.list _)=>true
  | _,_=>false)
 | _=>false
theorem CB {i k:Nat} {Γ:Ev} (h:D4 i k Γ=true):∃ss ds es,Γ[i]?=some (some ⟨.tup ss,.tuple ds⟩)/\ss[k]?=some (.lst .leaf)/\ds[k]?=some (.list es):=by
 unfold D4 at h;split at h
 ·rename_i ss ds e
  split at h
  ·rename_i es e1 e2
   exact ⟨ss,ds,es,e,e1,e2⟩
  ·cases h
 ·cases h
def dN (i k:Nat) (fa:F1):FS:=fun Γ=>if D4 i k Γ then gS fa (qA i k) Γ else .no
theorem yZ {xs:List V} {k:Nat} {v:V} (h:xs[k]?=some v):eY xs (k:Int)=some v:=by
 have hk:=(L0 h).1
 have e:=(L0 h).2
 simp [eY,eF,hk,e]
theorem xS {i k:Nat} (h:tS K W (dN i k fa) D σ H):lQ (zF K "list" Iv (xr (J8 K) (fA i) (tE K W (eK (.int (k:Int))))) (tA K W (ae fa ag))) D σ H:=by
 obtain ⟨He,O,Fs,Γ,E,h⟩:=h;unfold dN at h
 cases ho:D4 i k Γ with
 | false=>rw [ho] at h;exact h.elim
 | true=>
  rw [ho] at h;obtain ⟨ss,ds,es,e1,es1,ee⟩:=CB ho;obtain ⟨l,vs,m,ws,q1,q2,q3,q4,q5,q6,q7,q8⟩:=E.chgT e1 ee es1;refine ⟨.ref l,q1,He,O,Fs,Γ,E,?_⟩
  intro u H1 G1 Fs1 A1;have hu:=A1.own.rep
  cases hu;have q2':H1 l=some (.tup vs):=A1.same _ _ q2
  have q5':H1 m=some (.lst ws):=A1.same _ _ q5
  refine .inr (.inl ⟨l,vs,(k:Int),.ref m,rfl,rfl,.of q2',yZ q4,.inl ⟨rfl,ws,.of q5'⟩,GV (gG (D:=D) ⟨He,O,Fs1,Γ,A1.env.dropL,h⟩ fun He O Fs Γ2 p v H2 G Fs2 _ fr2 A2 w2=>?_)⟩)
  unfold qA at w2;split at w2
  ·rename_i ss2 ds2 e2
   split at w2
   ·rename_i es2 e3 e4
    cases hc:(T.coer .leaf p&&decide (es2.length<sizeLine)) with
    | false=>rw [hc] at w2;exact w2.elim
    | true=>
     rw [hc] at w2;simp only [Bool.and_eq_true,decide_eq_true_eq] at hc
     obtain ⟨l2,vs2,m2,ws2,r1,r2,r3,r4,r5,r6,r7,r8⟩:=A2.env.dropL.chgT e2 e4 e3;rw [q1] at r1
     cases r1;have x2:H2 l=some (.tup vs):=A2.same _ _ q2'
     rw [x2] at r2
     cases r2;rw [q4] at r4
     cases r4;have ov:Own K (O++Fs2.flatten) H2 .leaf [] v p.d:=A2.own.coer (s:=.leaf) hc.1 ig fun a ha z=>absurd z (A2.disj a ha)
     cases ov with
     | leaf rv=>
      have E4:=r8 (ws2++[v]) (es2++[p.d]) (by simp [r6]) fun n x d a1 a2=>by
       by_cases hn:n<ws2.length
       ·rw [getElem?_append_left hn] at a1
        rw [getElem?_append_left (by omega)] at a2
        exact r7 n x d a1 a2
       ·have hn':n=ws2.length:=by
         have:=(L0 a1).1
         rw [length_append,length_singleton] at this;omega
        subst hn'
        rw [getElem?_append_right (L7 _),Nat.sub_self] at a1;rw [getElem?_append_right (by omega),show ws2.length-es2.length=0 by omega] at a2
        cases a1
        cases a2;exact rv
      exact ⟨m,ws2,v,rfl,rfl,r5,by rw [r6];exact hc.2,w2 σ _ _ E4⟩
   ·exact w2.elim
  ·exact w2.elim
end
section
variable {X:Cx} {N gl:List Str} {vs cs ls lo gs:List Nat} {W:XW} {a b c e:Expr} {es:List Expr} {pos p:Pos} {fa fb fc:F1} {fl:FL} {g:FS}
theorem cs_appT (S:Cp X N gl vs cs ls lo gs) (i k:Nat) {x:Str} {spos apos cpos:Pos} {kk:Nat} {pk:Pos} {z:Int} (hi:N[i]?=some x) (hv:vs.contains i=true) (hz:z=(k:Int)) (ha:PE X a (tE X.K W fa)) (hx:DS (.Constant (.int z) kk pk)) (hs:starEach [a] X.env=[(false,eval a X.env)])
  (hbase:attributeBase (.Subscript (.Name x p) (.Constant (.int z) kk pk) spos) "append" X.env (eval (.Subscript (.Name x p) (.Constant (.int z) kk pk) spos) X.env)=eval (.Subscript (.Name x p) (.Constant (.int z) kk pk) spos) X.env) (hline:(apos.endLine==cpos.line)=true)
  (hfew:((backTo cpos (starEach [a] X.env)).all (fun x=>!x.1)&&(backToKw cpos (keywordEach [] X.env)).all (fun x=>x.1.isSome)
   && decide ([a].length+([]:List Keyword).length+(if ([]:List Keyword).isEmpty then 0 else 1)<30))=true)
  (hsw:swapsWith (.Call (.Attribute (.Subscript (.Name x p) (.Constant (.int z) kk pk) spos) "append" apos) [a] [] cpos) none pos.line X.env=pure false) :
  PS X (.Expr (.Call (.Attribute (.Subscript (.Name x p) (.Constant (.int z) kk pk) spos) "append" apos) [a] [] cpos) pos) (tS X.K W (dN i k fa)):=by
 subst hz;have m:=S.nm x (mem_of_getElem? hi)
 exact cB (G6 (iq PySem.F.plainAttrs_list PySem.F.slot_list_append PySem.F.type_list_append IZ (zP vv (qH (by rw [S.hN];exact hi) (S.vis i x hi hv) m.1 m.2) de_int hx) (da_cons ha da_nil hs) hbase hfew hline hs rfl) hsw) fun _ _ _=>xS
end
end T
namespace TQ
open PySem PySem.Spec L2 T
open PyProof.Rows hiding St
section
variable {X:Cx} {N gl:List Str} {vs cs ls lo gs:List Nat} {W:XW} {a b c e:Expr} {es:List Expr} {pos p:Pos} {fa fb fc:F1} {fl:FL} {ga gb:FB} {g1 g2 g:FS}
theorem jA (S:Cp X N gl vs cs ls lo gs) (i k:Nat) {x:Str} {spos apos cpos:Pos} {kk:Nat} {pk:Pos} {z:Int} (hi:N[i]?=some x) (hv:vs.contains i=true) (hz:z=(k:Int)) (ha:Q (PE X a (tE X.K W fa))) (hx:DS (.Constant (.int z) kk pk)) (hs:starEach [a] X.env=[(false,eval a X.env)]) (hbase:attributeBase (.Subscript (.Name x p) (.Constant (.int z) kk pk) spos) "append" X.env (eval (.Subscript (.Name x p) (.Constant (.int z) kk pk) spos) X.env)=eval (.Subscript (.Name x p) (.Constant (.int z) kk pk) spos) X.env) (hline:(apos.endLine==cpos.line)=true) (hfew:((backTo cpos (starEach [a] X.env)).all (fun x=>!x.1)&&(backToKw cpos (keywordEach [] X.env)).all (fun x=>x.1.isSome)
   && decide ([a].length+([]:List Keyword).length+(if ([]:List Keyword).isEmpty then 0 else 1)<30))=true) (hsw:swapsWith (.Call (.Attribute (.Subscript (.Name x p) (.Constant (.int z) kk pk) spos) "append" apos) [a] [] cpos) none pos.line X.env=pure false):Q (PS X (.Expr (.Call (.Attribute (.Subscript (.Name x p) (.Constant (.int z) kk pk) spos) "append" apos) [a] [] cpos) pos) (tS X.K W (dN i k fa))):=⟨T.cs_appT S i k hi hv hz ha.p hx hs hbase hline hfew hsw⟩
end
variable {X:Cx} {N gl:List Str} {vs cs ls lo gs:List Nat} {W:XW} {a b:Expr} {pos p:Pos} {fl:FL}
end TQ
namespace T
open PySem PySem.Spec L2
open PyProof.Rows hiding St
section
variable {K:Fg} {W:XW} {σ:St} {H:Hp} {Q:VK} {D:dI} {fa fb:F1} {fl:FL}
open Classical in
end
def FA (ow:Bool) (j:Nat) (d:L8) (q:PV) (Γ:Ev):dG:=match q with
 | ⟨s,.list es⟩=>if dA ⟨s,.list es⟩ es&&decide (1+es.length<=sizeLine)&&decide (j<Γ.length) then .nx (Γ.set j (some ⟨if ow then .lst .leaf else .leaf,.list ([d]++es)⟩)) else .no
 | _=>.no
def Fd (ow:Bool) (i j:Nat) (fb:F1):FS:=fun Γ=>match Γ[i]? with
 | some (some ⟨.lst .leaf,.list ds⟩)=>(match ds[ds.length-1]? with
  | some d=>(match fb (Γ.set i (some ⟨.lst .leaf,.list ds.dropLast⟩)) with
   | .ok q Γ2=>FA ow j d q Γ2
   | _=>.no)
  | none=>.no)
 | _=>.no
end T
namespace KC
open PySem PySem.Spec L2 T PySem.SeqAt
open PyProof.Rows hiding St
noncomputable def Wd.inn (w:Wd) (L:List Nat):Wd:=⟨w.n,w.os,w.m,w.s.map fun row=>row.filter fun t=>L.contains t⟩
noncomputable abbrev gl (T L:List Nat):List Nat:=L.filter fun r=>T.contains r
noncomputable abbrev lst (rk:List (Option Nat)) (L:List Nat):List Nat:=L.filter fun r=>(bc rk r).isNone
noncomputable def tD:Option (Nat×Nat)->D
 | none=>.none
 | some (a,b)=>.tuple [.int (a:Int),.int (b:Int)]
@[simp] theorem HC (o:Option (Nat×Nat)):tf (tD o)=o.isNone:=by cases o<;>rfl
noncomputable def D3 (tn:List (Option (Nat×Nat))) (t:Nat):Option (Nat×Nat):=tn.getD t none
noncomputable def GF (tn:List (Option (Nat×Nat))) (a b t:Nat):Prop:=∃a' b',D3 tn t=some (a',b')/\(a'<a\/(a'=a/\(b'<b\/(b=0/\b'=0))))
structure TS where
 tn:List (Option (Nat×Nat))
 L:List Nat
 k:Nat
 lost:List Nat
 x7:Option PV
 x8:Option PV
structure TI (w:Wd) (p:Int) (T:List Nat) (b:TS):Prop where
 len:b.tn.length=w.n
 std:Ku w.n b.L
 mem:∀r,r<w.n->(r∈b.L↔D3 b.tn r=none)
 c:∀r∈b.L,led (own w p r) (w.stp r) (·∈b.L)
 big:∀X,DE w.n w.stp (own w p) (·∈T) X->∀r,X r->r∈b.L
 los:∃rk,pe w.n (inn w.stp b.L) (own w p) b.L (gl T b.L) rk/\b.lost=lst rk b.L
 tk:∀r a j,D3 b.tn r=some (a,j)->a<b.k
 td:∀r a j,r<w.n->D3 b.tn r=some (a,j)->(j=0->r∉T)/\led (!own w p r) (w.stp r) (GF b.tn a j)
structure LO (w:Wd) (p:Int) (T:List Nat) (tn:List (Option (Nat×Nat))) (L:List Nat):Prop where
 len:tn.length=w.n
 std:Ku w.n L
 mem:∀r,r<w.n->(r∈L↔D3 tn r=none)
 c:∀r∈L,led (own w p r) (w.stp r) (·∈L)
 suff:DE w.n w.stp (own w p) (·∈T) (·∈L)
 big:∀X,DE w.n w.stp (own w p) (·∈T) X->∀r,X r->r∈L
 td:∀r a j,r<w.n->D3 tn r=some (a,j)->(j=0->r∉T)/\led (!own w p r) (w.stp r) (GF tn a j)
noncomputable abbrev Kd (w:Wd) (c:Str) (r:Nat):Prop:=c∈w.mks r
noncomputable abbrev gm (w:Wd) (c:Str) (L:List Nat):List Nat:=L.filter fun r=>(w.mks r).contains c
structure GC (w:Wd) (M:List Str) (L off:List Nat):Prop where
 ne:off≠[]
 sub:∀r∈off,r∈L
 no:∀(R:Nat->Prop) X,Fr w.n w.stp R M (Kd w) X->(∀r,X r->r∈L)->∀r∈off,¬X r
structure GE (w:Wd) (M:List Str) (L:List Nat):Prop where
 c:∀r∈L,∃t∈w.stp r,t∈L
 a:∀m∈M,∀S:Nat->Prop,(∀r,r∈L->Kd w m r->S r)->(∀r,r∈L->(∃t∈w.stp r,t∈L/\S t)->S r)->∀r,r∈L->S r
structure LL where
 rows:List D
 L:List Nat
 row:D
structure FI (w:Wd) (R:List Nat) (M:List Str) (b:LL):Prop where
 std:Ku w.n b.L
 sub:∀r∈b.L,r∈R
 cnt:b.rows.length+b.L.length<=w.n
 big:∀X,Fr w.n w.stp (·∈R) M (Kd w) X->∀r,X r->r∈b.L
 row:(b.row=.none/\GE w M b.L)\/(∃off o,b.row=.tuple [aI off,o]/\GC w M b.L off)
noncomputable def D8 (w:Wd):List Nat->Prop
 | a::b::r=>b∈w.stp a/\D8 w (b::r)
 | _=>True
noncomputable def iZ (P Q:Nat->Bool):List Nat->Bool
 | []=>false
 | r::p=>Q r||(P r&&iZ P Q p)
structure Las (w:Wd) (p:List Nat):Prop where
 ch:D8 w p
 nd:p.Nodup
 bk:∃z t,p.getLast?=some z/\t∈w.stp z/\t∈p
theorem Au:∀{n:Nat} {p:List Nat},p.Nodup->(∀x∈p,x<n)->p.length<=n
 | 0,[],_,_=>L7 _
 | 0,a::p,_,h=>absurd (h a (by simp)) (Nat.not_lt_zero _)
 | n+1,p,nd,h=>by
  by_cases hn:n∈p
  ·have:=Au (n:=n) (nd.erase n) fun x hx=>by
    obtain ⟨h1,h2⟩:=nd.mem_erase_iff.mp hx;have:=h x h2
    omega
   rw [List.length_erase_of_mem hn] at this;omega
  ·have:=Au (n:=n) nd fun x hx=>by
    have h1:=h x hx
    have:x≠n:=fun e=>hn (e▸hx)
    omega
   omega
theorem qb {p:List Nat} {t:Nat} (h:p.Nodup) (ht:t∉p):(p++[t]).Nodup:=by
 rw [List.nodup_append];refine ⟨h,by simp,fun a ha b hb=>?_⟩
 rw [List.mem_singleton.mp hb];exact fun e=>ht (e▸ha)
theorem uo {P Q:Nat->Bool}:∀{p:List Nat},(∀x∈p,Q x=false)->iZ P Q p=false
 | [],_=>rfl
 | a::p,h=>by
  simp only [iZ,h a (by simp),uo (p:=p) fun x hx=>h x (LX _ hx),Bool.and_false,Bool.or_self]
section
variable {w:Wd} {thr goal:List Nat} {rk:List (Option Nat)}
noncomputable abbrev fh (l:List Nat):Nat->Bool:=fun r=>l.contains r
end
end KC
namespace KC
open PySem PySem.Spec L2 T
open PyProof.Rows hiding St
noncomputable def sL:FS:=(ak (ax false 2 (cO (cO (ai (af 1) (eK (.int 0))) (ai (af 1) (eK (.int 1)))) (du (fun k=>(none,some k)) (ai (af 1) (eK (.int 1))) (eK (.int 1)))))
  (ak (bD (d5 (bY (aL bh (ai (af 1) (eK (.int 1))))) (bY (aL bh (aS (bL false) (ae (aA .leaf 4 (aU (af 2)) aN (qG w4 gv (eK (.int 0)) (af 4) (aS aG (ae (ai (af 0) (eK (.int 0))) ag)))) ag))))) (aF (eK (.bool false))) aH)
  (aF (aS (bL false) (ae (aA .leaf 3 (vN (ae (eK (.int 1)) (ae (aS aG (ae (af 2) ag)) ag))) aN (ay (bf false) (ai (af 2) (af 3)) (ai (ai (af 0) (eK (.int 2))) (ai (af 2) (ay gSub (af 3) (eK (.int 1))))))) ag)))))
noncomputable def rU:List L8->Res:=aE 5 sL
end KC
namespace KQ
open PySem PySem.Spec L2 T
open PyProof.Rows hiding St
open KC
noncomputable def oY:FS:=(ak (ax true 4 (aM .leaf (ae (af 2) ag)))
  (ak (cZ 5 (dq (ae (af 3) ag))
  (ak (ax false 8 (ai (ai (af 0) (eK (.int 2))) (ai (af 4) (eU dZ (eK (.int 1))))))
  (dS 4 (ai (af 8) (ay dh (aj 3 aw (ae (af 1) (ae (af 5) (ae (eK (.int 24)) ag)))) (aS aG (ae (af 8) ag)))))))
  (ak (wQ 100 (aL ao (ay (bf true) (ai (af 4) (eU dZ (eK (.int 1)))) (du (fun k=>(none,some k)) (af 4) (eU dZ (eK (.int 1))))))
  (ak (ax false 8 (ai (ai (af 0) (eK (.int 2))) (ai (af 4) (eU dZ (eK (.int 1))))))
  (dS 4 (ai (af 8) (ay dh (aj 3 aw (ae (af 1) (ae (aS aG (ae (af 4) ag)) (ae (eK (.int 24)) ag)))) (aS aG (ae (af 8) ag)))))))
  (ak (ax false 6 (aA .leaf 5 (dq (ae (ay gSub (aS aG (ae (af 4) ag)) (eK (.int 1))) ag)) (aL ao (ay bC (ai (af 4) (af 5)) (ai (af 4) (eU dZ (eK (.int 1)))))) (af 5)))
  (ak (ax false 7 (ai (af 6) (ay dh (aj 3 aw (ae (af 1) (ae (eK (.int 59)) (ae (eK (.int 24)) ag)))) (aS aG (ae (af 6) ag)))))
  (aF (bB (ae (du (fun k=>(none,some k)) (af 4) (af 7)) (ae (du (fun k=>(some k,some (-1))) (af 4) (af 7)) ag)))))))))
noncomputable def iC:List L8->Res:=aE 9 oY
end KQ
namespace KC
open PySem PySem.Spec L2 T PySem.SeqAt
open PyProof.Rows hiding St
theorem pq {Γ Γ1 Γ2:Ev} {g:Int->Option Int×Option Int} {fa fb:F1} {s s':Sh} {xs:List D} {k:Int} (ha:fa Γ=.ok ⟨s,.list xs⟩ Γ1) (hb:fb Γ1=.ok ⟨s',.int k⟩ Γ2) (ho:dA ⟨s,.list xs⟩ xs=true):du g fa fb Γ=.ok ⟨.lst .leaf,.list (T.cutD xs (g k).1 (g k).2)⟩ Γ2:=by
 unfold du aX;rw [ha];simp only [Out.bind]
 rw [hb];simp only [ho,if_true]
theorem DO {s:Sh} {l:List Nat}:dA ⟨s,aI l⟩ (l.map rm)=true:=by
 unfold dA;simp [bz]
theorem zH {l:List Nat} {k:Nat}:T.cutD (l.map rm) none (some (k:Int))=(l.take k).map rm:=by
 unfold T.cutD;rw [HT.sIx_none,HT.sIx_nat,List.drop_zero,length_map,Nat.sub_zero,List.map_take];by_cases h:k<=l.length
 ·rw [Nat.min_eq_left h]
 ·rw [Nat.min_eq_right (by omega),take_of_length_le (by simp),take_of_length_le (by simp;omega)]
theorem pI {l:List Nat} {k:Nat}:T.cutD (l.map rm) (some (k:Int)) none=(l.drop k).map rm:=by
 unfold T.cutD;rw [HT.sIx_none,HT.sIx_nat,length_map,List.map_drop];by_cases h:k<=l.length
 ·rw [Nat.min_eq_left h,take_of_length_le (by simp)]
 ·rw [Nat.min_eq_right (by omega),List.drop_of_length_le (by simp),List.drop_of_length_le (by simp;omega)]
  simp
theorem jE {Γ:Ev} {fa fb:F1} {s:Sh} {l:List Nat} {k:Nat} (ha:fa Γ=.ok ⟨.leaf,aI l⟩ Γ) (hb:fb Γ=.ok ⟨s,.int (k:Int)⟩ Γ) (h:k<l.length):ai fa fb Γ=.ok ⟨.leaf,rm (l.getD k 0)⟩ Γ:=by
 rw [jL,ha];simp only [Out.bind]
 rw [hb];simp only
 rw [zL,DL (x:=rm (l.getD k 0)) (by rw [getElem?_map,LW,LV h];rfl)]
theorem wB {α:Type} {xs:List α}:bL false [.list (xs.map fun _=>.bool true)]=some (.bool true):=by
 rw [tL (xs:=xs) (f:=fun _=>true),List.all_eq_true.mpr fun _ _=>rfl]
noncomputable abbrev wy (F R:List Nat):D:=.tuple [aI F,aI R]
structure j9 (w:Wd) (F R:List Nat):Prop where
 ne:R≠[]
 lt:∀x∈F++R,x<w.n
 ch:D8 w (F++R++R.take 1)
 len:F.length+R.length<=1000
theorem qv {w:Wd}:∀{l:List Nat} {k:Nat},D8 w l->k+1<l.length->l.getD (k+1) 0∈w.stp (l.getD k 0)
 | [],k,_,h=>by simp at h
 | [a],k,_,h=>by simp at h
 | a::b::r,0,h,_=>h.1
 | a::b::r,k+1,h,hk=>by
  have:=qv (k:=k) h.2 (by simpa using hk)
  simpa using this
theorem AJ {w:Wd} (ok:w.Ok) {Γ:Ev} {i:Nat} {fb:F1} {s:Sh} {r:Nat} (h0:Γ[i]?=some (L9 w.enc)) (hb:fb Γ=.ok ⟨s,rm r⟩ Γ) (hr:r<w.n):ai (ai (af i) (eK (.int 2))) fb Γ=.ok ⟨.leaf,aI (w.stp r)⟩ Γ:=by
 rw [jL,jL,aB h0];simp only [Out.bind,aQ,Wd.enc,fK,zK,Fm]
 rw [hb];simp only [zL]
 rw [ok.at2 hr]
theorem G8 {w:Wd} (ok:w.Ok) {Γ:Ev} {i:Nat} (h0:Γ[i]?=some (L9 w.enc)):aS aG (ae (ai (af i) (eK (.int 0))) ag) Γ=.ok ⟨.leaf,.int (w.n:Int)⟩ Γ:=by
 have e:ai (af i) (eK (.int 0)) Γ=.ok ⟨.leaf,.list w.os⟩ Γ:=by
  rw [jL,aB h0];simp only [Out.bind,aQ,Wd.enc,fK,zK,Fo]
 refine bS (aD e aq) ?_
 simp [ok.g.lo]
theorem zA {R:List Nat} (h:R≠[]):∃a,R.take 1=[a]/\a∈R:=by
 cases R with
 | nil=>exact absurd rfl h
 | cons a r=>exact ⟨a,rfl,by simp⟩
end KC
namespace KQ
open PySem PySem.Spec L2 T PySem.SeqAt KC
open PyProof.Rows hiding St
structure Wg (w:Wd) (r:Nat) (l:List Nat):Prop where
 hd:l.head?=some r
 lt:∀x∈l,x<w.n
 ch:D8 w l
end KQ
namespace KC
open PySem PySem.Spec L2 T
open PyProof.Rows hiding St
noncomputable def bO:L8:=.tuple [.str "some next",.str "some until",.str "some always"]
noncomputable def fU:L8:=.tuple [.str "all next",.str "all until",.str "all always"]
noncomputable def kQ:FS:=(bD (bY (aL ao (qG w4 gv (eK (.int 0)) (af 1) (aS aG (ae (ai (af 0) (eK (.int 0))) ag))))) zI aH)
noncomputable def cP:List L8->Res:=aE 2 kQ
noncomputable def nh:FS:=(bD (bY (aL bh (aj 2 rU (ae (af 0) (ae (af 1) ag))))) zI aH)
noncomputable def gN:List L8->Res:=aE 2 nh
noncomputable def sJ:FS:=(ak (ax false 2 (aS aG (ae (ai (af 0) (eK (.int 0))) ag)))
  (aF (oN (aL ao (ay gv (af 1) (af 2))) (ai (ai (af 0) (eK (.int 0))) (af 1)) (ai (ai (af 0) (eK (.int 1))) (ay dh (ay gSub (af 1) (af 2)) (aS aG (ae (ai (af 0) (eK (.int 1))) ag)))))))
noncomputable def rT:List L8->Res:=aE 3 sJ
noncomputable def kR:FS:=(ak (b9 (aj 1 bW (ae (af 0) ag)))
  (bD (cx (aL ao (ay (bf true) (ai (af 0) (eK (.int 0))) (eK bO))) (aL ao (ay (bf true) (ai (af 0) (eK (.int 0))) (eK fU)))) zI aH))
noncomputable def cQ:List L8->Res:=aE 1 kR
noncomputable def oW:FS:=(ak (cZ 3 (aU (af 0))
  (ak (bD (aL ao (ay (bf false) (af 3) (af 2))) (aF (eK (.bool true))) aH)
  (bD (aL ao (ay (bf true) (af 3) (af 1))) (aF (eK (.bool false))) aH)))
  (aF (eK (.bool false))))
noncomputable def ox:List L8->Res:=aE 4 oW
noncomputable def jr:FS:=(ak (ax false 3 (cO (ai (af 0) (eK (.int 0))) (ai (af 0) (eK (.int 1)))))
  (ak (bD (aL ao (ay (bf false) (af 1) (eK ck))) (aF (aj 3 ox (ae (af 3) (ae (ai (af 2) (eK (.int 0))) (ae (ai (af 2) (eK (.int 1))) ag))))) aH)
  (ak (bD (aL ao (ay (bf false) (af 1) (eK dg))) (aF (aS (bL false) (ae (aA .leaf 4 (aU (af 3)) aN (ay (bf false) (af 4) (ai (af 2) (eK (.int 0))))) ag))) aH)
  (aF (ay (bf false) (aj 2 rT (ae (af 0) (ae (eK (.int 1)) ag))) (ai (af 2) (eK (.int 0))))))))
noncomputable def jj:List L8->Res:=aE 5 jr
noncomputable def m8:FS:=(ak (ax true 2 (aM .leaf ag))
  (ak (ax false 3 (af 1))
  (ak (wQ 100 (cx (aL ao (ay (cN true) (af 3) (eK .none))) (aL ao (ay (bf true) (af 3) (af 2))))
  (ak (dS 2 (af 3))
  (ax false 3 (ai (af 0) (af 3)))))
  (ak (bD (aL ao (ay (cN false) (af 3) (eK .none))) (aF (eK .none)) aH)
  (qX 2 (ak (ax false 4 (oM 2 (af 3)))
  (aF (bB (ae (du (fun k=>(none,some k)) (af 2) (af 4)) (ae (du (fun k=>(some k,none)) (af 2) (af 4)) ag))))))))))
noncomputable def dv:List L8->Res:=aE 5 m8
noncomputable def gZ:FS:=(ak (ax false 5 (ai (ai (af 0) (eK (.int 2))) (af 4)))
  (ak (bD (aL ao (ay (cN false) (af 3) (eK .none))) (aF (aA .leaf 6 (aU (af 5)) (aL ao (ay bC (ay (bf false) (af 6) (ai (af 2) (eK (.int 0)))) (ay bC (af 1) (eK (.str "some next"))))) (af 6))) aH)
  (ak (bD (aL ao (ay (bf false) (af 1) (eK bE))) (aF (aj 3 dF (ae (af 0) (ae (af 3) (ae (af 4) ag))))) aH)
  (aF (aA .leaf 6 (aU (af 5)) (aL ao (ay (cN false) (ai (af 3) (af 6)) (eK .none))) (af 6))))))
noncomputable def bj:List L8->Res:=aE 7 gZ
noncomputable def sI:FS:=(ak (b9 (aj 1 bH (ae (af 0) ag)))
  (ak (b9 (aj 1 cQ (ae (af 1) ag)))
  (ak (b9 (aj 2 cP (ae (af 0) (ae (af 2) ag))))
  (ak (ax false 3 (ai (af 1) (eK (.int 0))))
  (ak (ax false 4 (aA .leaf 7 (eu (aj 1 aV (ae (af 1) ag))) aN (aj 2 df (ae (af 0) (ae (af 7) ag)))))
  (ak (ax false 5 (aj 3 bI (ae (af 0) (ae (af 1) (ae (af 4) ag)))))
  (ak (bD (aL ao (ay eC (ay (bf false) (af 2) (aj 4 bU (ae (af 0) (ae (af 1) (ae (af 4) (ae (af 5) ag)))))) (ay (bf false) (af 3) (eK bO)))) zI aH)
  (ak (ax false 6 (aA .leaf 8 (dq (ae (aS aG (ae (ai (af 0) (eK (.int 0))) ag)) ag)) aN (ai (cO (aj 5 bj (ae (af 0) (ae (af 3) (ae (af 4) (ae (af 5) (ae (af 8) ag)))))) (ai (ai (af 0) (eK (.int 2))) (af 8))) (eK (.int 0)))))
  (aF (aj 2 dv (ae (af 6) (ae (af 2) ag))))))))))))
noncomputable def rS:List L8->Res:=aE 9 sI
open PySem.SeqAt
noncomputable def Wr.ofS (a:Wr):Bool:=decide (a=.sn\/a=.su\/a=.sa)
noncomputable def Wr.ofA (a:Wr):Bool:=decide (a=.an\/a=.au\/a=.aa)
@[simp] theorem vG (a:Wr):bf false (.str a.t) bO=some (.bool a.ofS):=by cases a<;>kernel_rfl
@[simp] theorem yg (a:Wr):bf true (.str a.t) bO=some (.bool (!a.ofS)):=by cases a<;>kernel_rfl
@[simp] theorem yh (a:Wr):bf true (.str a.t) fU=some (.bool (!a.ofA)):=by cases a<;>kernel_rfl
noncomputable def Sn.tm (s:Sn):Bool:=s.w.ofS||s.w.ofA
theorem lK {s:Sn} {Γ:Ev} {i:Nat} (h:Γ[i]?=some (L9 s.enc)):ai (af i) (eK (.int 0)) Γ=.ok ⟨.leaf,.str s.w.t⟩ Γ:=by
 rw [jL,aB h]
 cases s<;>simp [Sn.enc,Sn.w,aQ,Out.bind]
theorem eV {s:Sn} (h:s.ok) (hs:s.size<=200) (hd:s.dep<=24) (ht:s.tm=true):cQ [s.enc]=.ok ⟨.leaf,.none⟩:=by
 refine qa (Γ:=aZ 1 [s.enc]) ?_
 refine az (AE (bV (aD (aB rfl) aq) (fF h hs hd) rfl rfl)) ?_
 refine bu (t:=!s.w.ofS&&!s.w.ofA) (j7 (cC (s:=.leaf) (aJ (lK rfl) aQ (yg _))) (cC (s:=.leaf) (aJ (lK rfl) aQ (yh _)))) (fun z=>?_) fun _=>rfl
 exfalso
 unfold Sn.tm at ht;revert z ht
 cases s.w.ofS<;>cases s.w.ofA<;>simp
noncomputable def zR (F R:List Nat):Nat:=if 1<F.length then F.getD 1 0 else R.getD ((1-F.length) % R.length) 0
noncomputable def wC (w:Wd) (s:Sn) (F R:List Nat):Bool:=match s with
 | .bi _ a b=>iZ (fun t=>(aK w a).contains t) (fun t=>(aK w b).contains t) (F++R)
 | .un .sa a=>(F++R).all fun t=>(aK w a).contains t
 | .un .aa a=>(F++R).all fun t=>(aK w a).contains t
 | .un _ a=>(aK w a).contains (zR F R)
 | _=>false
theorem ir {w:Wd} (ok:w.Ok) {s:Sn} (hs:s.ok) (hd:s.dep<=24) {Γ:Ev} {j:Nat} (h0:Γ[0]?=some (L9 w.enc)) (h1:Γ[1]?=some (L9 s.enc)) (hj:j<Γ.length) (hj1:2<=j):aA .leaf j (eu (aj 1 aV (ae (af 1) ag))) aN (aj 2 df (ae (af 0) (ae (af j) ag))) Γ=.ok ⟨.lst .leaf,cJ (s.args.map (aK w))⟩ Γ:=by
 have pa:=Jg s
 have e:=lz (s:=.leaf) (i:=j) (fi:=eu (aj 1 aV (ae (af 1) ag))) (fe:=aj 2 df (ae (af 0) (ae (af j) ag))) (Γ:=Γ) Sn.enc s.args (fun a=>⟨.lst .leaf,aI (aK w a)⟩) (st:=true) (by
  have q:aj 1 aV (ae (af 1) ag) Γ=.ok ⟨s.psh,.tuple (s.args.map Sn.enc)⟩ Γ:=bV (aD (aB h1) aq) pa rfl rfl
  rw [BP,q];simp [Out.bind,dA]) hj rfl (by have:=s.args_le;omega) fun a ha=>⟨by
   have g0:(Γ.set j (L9 a.enc))[0]?=some (L9 w.enc):=by rw [getElem?_set_ne (by omega)];exact h0
   have c3:df [w.enc,a.enc]=_:=iM ok 30 a (Sn.args_ok hs a ha) (by have:=yJ ha;omega)
   exact bV (aD (aB g0) (aD (aB (getElem?_set_self hj)) aq)) c3 rfl rfl,rfl⟩
 rw [e];simp [map_map,Function.comp_def]
section
variable {w:Wd} {F R:List Nat}
theorem CC (h:R≠[]):zR F R=(F++R++R.take 1).getD 1 0:=by
 unfold zR
 cases F with
 | nil=>
  cases R with
  | nil=>exact absurd rfl h
  | cons a r=>
   cases r with
   | nil=>simp
   | cons b s=>
    have:(1-0) % (s.length+1+1)=1:=by
     rw [Nat.sub_zero];exact Nat.mod_eq_of_lt (by omega)
    simp [this]
 | cons f s=>
  cases s with
  | nil=>
   cases R with
   | nil=>exact absurd rfl h
   | cons a r=>simp
  | cons g t=>simp
end
theorem GO {w:Wd} (ok:w.Ok) {s:Sn} {R:D} (h:wI w s R) {r:Nat} (hr:r<w.n):match s with
  | .bi .su a b=>∃rk,R=dE rk/\Right w true (aK w a) (aK w b) rk/\(dJ w s r↔bc rk r≠none)
  | .bi .au a b=>∃rk,R=dE rk/\Right w false (aK w a) (aK w b) rk/\(dJ w s r↔bc rk r≠none)
  | .un .sa a=>∃rk,R=dE rk/\Right w false (List.range w.n) ((List.range w.n).filter fun t=>!(aK w a).contains t) rk/\(dJ w s r↔bc rk r=none)
  | .un .aa a=>∃rk,R=dE rk/\Right w true (List.range w.n) ((List.range w.n).filter fun t=>!(aK w a).contains t) rk/\(dJ w s r↔bc rk r=none)
  | _=>True:=by
 have nn:∀(o:Option Nat) (P:Prop),(o≠none↔P)->(¬P↔o=none):=fun o P hp=>by
  cases o with
  | none=>simp at hp ⊢;exact hp
  | some k=>simp at hp ⊢;exact hp
 match s,h with
 | .bi .su a b,⟨rk,e,H⟩=>exact ⟨rk,e,H,((H.iff ok hr).trans (Hb ok hr)).symm⟩
 | .bi .au a b,⟨rk,e,H⟩=>exact ⟨rk,e,H,((H.iff ok hr).trans (Hb ok hr)).symm⟩
 | .un .sa a,⟨rk,e,H⟩=>exact ⟨rk,e,H,nn _ _ ((H.iff ok hr).trans (G9 ok hr))⟩
 | .un .aa a,⟨rk,e,H⟩=>exact ⟨rk,e,H,nn _ _ ((H.iff ok hr).trans (G9 ok hr))⟩
 | .yes,_=>trivial
 | .mk _,_=>trivial
 | .un .not _,_=>trivial
 | .un .sn _,_=>trivial
 | .un .an _,_=>trivial
 | .bi .and _ _,_=>trivial
 | .bi .or _ _,_=>trivial
end KC
namespace KC
open PySem PySem.Spec L2 T PySem.SeqAt
open PyProof.Rows hiding St
noncomputable def tF (ch:List (Option Nat)):List Nat->Prop
 | a::b::r=>bc ch a=some b/\tF ch (b::r)
 | _=>True
theorem IK {ch:List (Option Nat)} {z t:Nat} (ht:bc ch z=some t):∀{p:List Nat},tF ch p->p.getLast?=some z->tF ch (p++[t])
 | [],_,h=>by simp at h
 | [a],_,h=>by
  simp at h
  subst h;exact ⟨ht,trivial⟩
 | a::b::r,h,e=>⟨h.1,IK ht h.2 (by simpa using e)⟩
structure Lasso (n:Nat) (ch:List (Option Nat)) (r:Nat) (F R:List Nat):Prop where
 ne:R≠[]
 lt:∀x∈F++R,x<n
 nd:(F++R).Nodup
 hd:(F++R).head?=some r
 fc:tF ch (F++R++R.take 1)
noncomputable abbrev GA (ch:List (Option Nat)) (r:Nat) (b:List Nat×Option Nat):Ev:=[L9 (dE ch),L9 (rm r),some ⟨.lst .leaf,aI b.1⟩,L9 (oD b.2),none]
structure AI (n:Nat) (ch:List (Option Nat)) (r:Nat) (b:List Nat×Option Nat):Prop where
 nd:b.1.Nodup
 lt:∀x∈b.1,x<n
 hl:∀t,b.2=some t->t<n
 fc:tF ch b.1
 st:(b.1=[]/\b.2=some r)\/(b.1.head?=some r/\∃z,b.1.getLast?=some z/\b.2=bc ch z)
theorem mR {t:Nat}:∀{p:List Nat} {j:Nat},tw (t:Int) (p.map fun x:Nat=>(x:Int))=some j->j<p.length/\p.getD j 0=t
 | [],j,h=>by simp [tw] at h
 | a::r,j,h=>by
  unfold tw at h;simp only [map_cons] at h
  by_cases e:(a:Int)=(t:Int)
  ·rw [if_pos e] at h
   cases h;exact ⟨by simp,by simp;omega⟩
  ·rw [if_neg e] at h
   cases hr:tw (t:Int) (r.map fun x:Nat=>(x:Int)) with
   | none=>rw [hr] at h;cases h
   | some j'=>
    rw [hr] at h
    cases h;obtain ⟨h1,h2⟩:=mR hr;exact ⟨by simp;omega,by simpa using h2⟩
theorem qe {t:Nat}:∀{p:List Nat},t∈p->∃j,tw (t:Int) (p.map fun x:Nat=>(x:Int))=some j
 | [],h=>by simp at h
 | a::r,h=>by
  unfold tw;simp only [map_cons]
  by_cases e:(a:Int)=(t:Int)
  ·exact ⟨0,by rw [if_pos e]⟩
  ·rw [if_neg e]
   obtain ⟨j,hj⟩:=qe (p:=r) (by
    rcases LU h with z | z
    ·exact absurd (by rw [z]) e
    ·exact z)
   exact ⟨j+1,by rw [hj];rfl⟩
theorem vD {p:List Nat}:xa (p.map rm)=some (p.map fun x:Nat=>(x:Int)):=by
 have:=oE (p.map fun x:Nat=>(x:Int))
 rw [map_map] at this;exact this
noncomputable abbrev tX:FB:=cx (aL ao (ay (cN true) (af 3) (eK .none))) (aL ao (ay (bf true) (af 3) (af 2)))
noncomputable abbrev A5:FS:=ak (dS 2 (af 3)) (ax false 3 (ai (af 0) (af 3)))
theorem oU {n:Nat} (hn:n<=24) {ch:List (Option Nat)} (hl:ch.length=n) (hc:∀r,r<n->∃t,bc ch r=some t/\t<n) {r:Nat} (hr:r<n):∃F R,dv [dE ch,rm r]=.ok ⟨.tup [.lst .leaf,.lst .leaf],wy F R⟩/\Lasso n ch r F R:=by
 obtain ⟨b',e1,I,ht⟩:=Jc (β:=List Nat×Option Nat) (c:=tX) (g:=A5) (G:=GA ch r) (test:=fun b=>match b.2 with | some t=>!b.1.contains t | none=>false) (Inv:=AI n ch r) (meas:=fun b=>n-b.1.length)
  (fun b I=>by
   obtain ⟨met,here⟩:=b
   cases here with
   | none=>
    have e:aL ao (ay (cN true) (af 3) (eK .none)) (GA ch r (met,none))=.ok false (GA ch r (met,none)):=cC (s:=.leaf) (aJ (aB rfl) aQ rfl)
    unfold tX cx;rw [e];rfl
   | some t=>exact j7 (a:=true) (cC (s:=.leaf) (aJ (aB rfl) aQ rfl)) (cC (s:=.leaf) (aJ (aB (d:=rm t) rfl) (pv rfl) I0)))
  (fun b I h=>by
   obtain ⟨met,here⟩:=b
   cases here with
   | none=>cases h
   | some t=>
    simp only [Bool.not_eq_true',Bool.eq_false_iff,ne_eq,contains_iff_mem] at h
    have htn:=I.hl t rfl
    have hml:=Au I.nd I.lt
    have hml':=Au (qb I.nd h) (n:=n) fun x hx=>by
     rcases LR hx with z | z
     ·exact I.lt x z
     ·rw [List.mem_singleton.mp z];exact htn
    simp only [length_append,length_singleton] at hml hml'
    obtain ⟨u,hu,hun⟩:=hc t htn;have ap:=Hr (i:=2) (s:=.leaf) (ds:=met.map rm) (fa:=af 3) (p:=⟨.leaf,rm t⟩) (Γ:=GA ch r (met,some t)) rfl (aB rfl) rfl (by simp;omega)
    have a1:(ch.map oD)[t]?=some (oD (bc ch t)):=by
     rw [getElem?_map,LV (by omega),bc,LW,LV (by omega)]
     rfl
    refine ⟨(met++[t],bc ch t),az (Γ1:=GA ch r (met++[t],some t)) (ap.trans ?_) (b6 (sY (j:=t) (aB rfl) (aB (d:=rm t) rfl) (Ar (by rw [length_map];omega)) a1 rfl) (by cases bc ch t<;>rfl) (by simp)),⟨qb I.nd h,fun x hx=>?_,fun v hv=>?_,?_,.inr ⟨?_,t,by simp,rfl⟩⟩,?_⟩
    ·simp [aI]
    ·rcases LR hx with z | z
     ·exact I.lt x z
     ·rw [List.mem_singleton.mp z];exact htn
    ·rw [hu] at hv
     cases hv;exact hun
    ·rcases I.st with ⟨e,_⟩ | ⟨_,z,hz,ez⟩
     ·simp only at e
      rw [e];trivial
     ·exact IK ez.symm I.fc hz
    ·rcases I.st with ⟨e,e2⟩ | ⟨hh,_⟩
     ·simp only at e e2
      rw [e];simpa using e2
     ·simp only at hh ⊢
      cases met with
      | nil=>simp at hh
      | cons a s=>simpa using hh
    ·simp only [length_append,length_singleton]
     omega) 100 ([],some r) ⟨by simp,by simp,fun t e=>by cases e;exact hr,trivial,.inl ⟨rfl,rfl⟩⟩ (by simp;omega)
 obtain ⟨met,here⟩:=b'
 obtain ⟨t,eh,htm,hh,z,hz,ez⟩:∃t,here=some t/\t∈met/\met.head?=some r/\∃z,met.getLast?=some z/\here=bc ch z:=by
  rcases I.st with ⟨e,e2⟩ | ⟨hh,z,hz,ez⟩
  ·simp only at e e2
   subst e e2;simp at ht
  ·simp only at hh hz ez
   obtain ⟨t,hu,_⟩:=hc z (I.lt z (List.mem_of_getLast? hz))
   rw [hu] at ez;subst ez;simp only [Bool.not_eq_false',contains_iff_mem] at ht
   exact ⟨t,rfl,ht,hh,z,hz,hu.symm⟩
 subst eh;obtain ⟨j,hj⟩:=qe htm;obtain ⟨hjl,hjt⟩:=mR hj;have mlen:=Au I.nd I.lt
 simp only at mlen
 have hz0:ax true 2 (aM .leaf ag) (aZ 5 [dE ch,rm r])=.nx [L9 (dE ch),L9 (rm r),some ⟨.lst .leaf,aI []⟩,none,none]:=tK (jy aq rfl rfl rfl) rfl (by simp [aZ])
 have tk:met.take j++met.drop j=met:=List.take_append_drop _ _
 have hd1:(met.drop j).take 1=[t]:=by
  rw [drop_eq_getElem_cons hjl];rw [LW,LV hjl] at hjt;exact congrArg (fun x=>[x]) hjt
 refine ⟨met.take j,met.drop j,?_,⟨?_,?_,?_,?_,?_⟩⟩
 ·refine aR ?_
  refine az hz0 ?_
  refine az (Γ1:=GA ch r ([],some r)) (b6 (aB rfl) rfl (by simp)) ?_
  refine az (Γ1:=GA ch r (met,some t)) ?_ ?_
  ·unfold wQ
   exact e1
  refine az (bu (t:=false) (cC (s:=.leaf) (aJ (aB rfl) aQ rfl)) nofun fun _=>rfl) ?_
  refine EI (p:=⟨.lst .leaf,aI met⟩) rfl ?_
  have ix:oM 2 (af 3) [L9 (dE ch),L9 (rm r),L9 (aI met),L9 (rm t),none]=.ok ⟨.leaf,.int (j:Int)⟩ [L9 (dE ch),L9 (rm r),L9 (aI met),L9 (rm t),none]:=by
   unfold oM;simp only [getElem?_cons_succ,getElem?_cons_zero,mS,if_true]
   rw [aB (d:=rm t) rfl];simp only [Out.bind,yo,getElem?_cons_succ,getElem?_cons_zero]
   rw [vD];simp only
   rw [hj]
  refine az (Γ1:=[L9 (dE ch),L9 (rm r),L9 (aI met),L9 (rm t),L9 (.int (j:Int))]) (b6 ix rfl (by simp)) ?_
  have q1:=pq (g:=fun k=>(none,some k)) (Γ:=[L9 (dE ch),L9 (rm r),L9 (aI met),L9 (rm t),L9 (.int (j:Int))]) (fa:=af 2) (fb:=af 4) (k:=(j:Int)) (aB rfl) (aB rfl) DO
  have q2:=pq (g:=fun k=>(some k,none)) (Γ:=[L9 (dE ch),L9 (rm r),L9 (aI met),L9 (rm t),L9 (.int (j:Int))]) (fa:=af 2) (fb:=af 4) (k:=(j:Int)) (aB rfl) (aB rfl) DO
  simp only at q1 q2
  rw [zH] at q1;rw [pI] at q2;exact br (cI (aD q1 (aD q2 aq)) rfl rfl) rfl
 ·intro e
  rw [e] at hd1;simp at hd1
 ·rw [tk];exact I.lt
 ·rw [tk];exact I.nd
 ·rw [tk];exact hh
 ·rw [tk,hd1]
  exact IK ez.symm I.fc hz
end KC
namespace KQ
open PySem PySem.Spec L2 T
open PyProof.Rows hiding St
open KC
noncomputable def oX:FS:=(aF (cV (ay bC (ay dh (aS aG (ae (af 0) ag)) (af 1)) (eK (.int 0))) (ay bC (du (fun k=>(some k,none)) (af 0) (af 1)) (du (fun k=>(none,some k)) (af 0) (eU dZ (af 1))))))
noncomputable def oy:List L8->Res:=aE 2 oX
noncomputable def kP:FS:=(aF (du (fun k=>(none,some k)) (af 0) (ai (aA .leaf 1 (vN (ae (eK (.int 1)) (ae (ay aW (aS aG (ae (af 0) ag)) (eK (.int 1))) ag))) (aL bh (aj 2 oy (ae (af 0) (ae (af 1) ag)))) (af 1)) (eK (.int 0)))))
noncomputable def kG:List L8->Res:=aE 2 kP
noncomputable def yP:FS:=(ak (b9 (aj 1 bH (ae (af 0) ag)))
  (ak (b9 (aj 2 gN (ae (af 0) (ae (af 1) ag))))
  (ak (ax true 2 (hV (ai (af 1) (eK (.int 0)))))
  (ak (ax true 3 (aj 1 kG (ae (ai (af 1) (eK (.int 1))) ag)))
  (ak (wQ 1000 (cx (aL bh (af 2)) (aL ao (ay bC (ai (af 2) (eU dZ (eK (.int 1)))) (ai (af 3) (eU dZ (eK (.int 1)))))))
  (Fd true 2 3 (du (fun k=>(none,some k)) (af 3) (eU dZ (eK (.int 1))))))
  (aF (bB (ae (bR 2) (ae (bR 3) ag)))))))))
noncomputable def kF:List L8->Res:=aE 4 yP
noncomputable def d__law_twin:FS:=(aF (bB (ae (hV (ai (af 0) (eK (.int 0)))) (ae (aA .leaf 1 (aU (ai (af 0) (eK (.int 1)))) aN (hV (af 1))) (ae (aA .leaf 1 (aU (ai (af 0) (eK (.int 2)))) aN (hV (af 1))) ag)))))
noncomputable def m__law_twin:List L8->Res:=aE 2 d__law_twin
noncomputable def kS:FS:=(aF (cV (gy "int" (af 0)) (oK (gy "bool" (af 0)))))
noncomputable def cR:List L8->Res:=aE 1 kS
noncomputable def jt:FS:=(ak (bD (d5 (bY (aL bh (gy "tuple" (af 1)))) (d5 (aL ao (ay eC (aS aG (ae (af 1) ag)) (eK (.int 2)))) (bY (aL bh (gy "list" (ai (af 1) (eK (.int 0)))))))) (aF (eK (.bool false))) aH)
  (ak (bD (d5 (bY (aL bh (gy "list" (ai (af 1) (eK (.int 1)))))) (aL ao (ay bC (aS aG (ae (ai (af 1) (eK (.int 1))) ag)) (eK (.int 0))))) (aF (eK (.bool false))) aH)
  (ak (ax false 2 (cO (ai (af 1) (eK (.int 0))) (ai (af 1) (eK (.int 1)))))
  (ak (bD (bY (aL bh (aS (bL false) (ae (aA .leaf 5 (aU (af 2)) aN (cV (aj 1 cR (ae (af 5) ag)) (qG w4 gv (eK (.int 0)) (af 5) (aS aG (ae (ai (af 0) (eK (.int 0))) ag))))) ag)))) (aF (eK (.bool false))) aH)
  (ak (ax false 3 (cO (du (fun k=>(some k,none)) (af 2) (eK (.int 1))) (aM .leaf (ae (ai (ai (af 1) (eK (.int 1))) (eK (.int 0))) ag))))
  (aF (aS (bL false) (ae (aA .leaf 4 (dq (ae (aS aG (ae (af 2) ag)) ag)) aN (ay (bf false) (ai (af 3) (af 4)) (ai (ai (af 0) (eK (.int 2))) (ai (af 2) (af 4))))) ag))))))))
noncomputable def bN:List L8->Res:=aE 6 jt
noncomputable def d__law_place:FS:=(ak (bD (aL ao (ay gv (af 1) (aS aG (ae (ai (af 0) (eK (.int 0))) ag)))) (aF (ai (ai (af 0) (eK (.int 0))) (af 1))) aH)
  (aF (ai (ai (af 0) (eK (.int 1))) (ay dh (ay gSub (af 1) (aS aG (ae (ai (af 0) (eK (.int 0))) ag))) (aS aG (ae (ai (af 0) (eK (.int 1))) ag))))))
noncomputable def m__law_place:List L8->Res:=aE 2 d__law_place
noncomputable def g5:FS:=(ak (Fc [2,3] (af 0))
  (ak (bD (cx (aL ao (ay fI (aS aG (ae (af 2) ag)) (eK (.int 0)))) (aL ao (ay bC (ai (af 2) (eU dZ (eK (.int 1)))) (ai (af 3) (eU dZ (eK (.int 1))))))) (aF (eK (.bool false))) aH)
  (ak (cZ 1 (vN (ae (eK (.int 1)) (ae (aS aG (ae (af 3) ag)) ag)))
  (bD (cx (aL ao (ay bC (ay dh (aS aG (ae (af 3) ag)) (af 1)) (eK (.int 0)))) (aL ao (ay bC (af 3) (fW (du (fun k=>(none,some k)) (af 3) (af 1)) (ay sf (aS aG (ae (af 3) ag)) (af 1)))))) (aF (eK (.bool false))) aH))
  (aF (eK (.bool true))))))
noncomputable def gU:List L8->Res:=aE 4 g5
noncomputable def d_law:FS:=(ak (ax false 1 (aj 3 m__law_world (ae (af 0) (ae (eK (.int 0)) (ae (eK (.int 6)) ag)))))
  (ak (ax false 2 (aj 2 aC (ae (af 0) (ae (eK (.int 8)) ag))))
  (ak (ax false 3 (aj 4 iC (ae (af 1) (ae (aj 2 aC (ae (af 0) (ae (eK (.int 7)) ag))) (ae (aj 3 aw (ae (af 2) (ae (eK (.int 0)) (ae (aS aG (ae (ai (af 1) (eK (.int 0))) ag)) ag)))) (ae (aj 3 aw (ae (af 2) (ae (eK (.int 1)) (ae (eK (.int 9)) ag)))) ag))))))
  (ak (ax false 4 (aj 3 aw (ae (af 2) (ae (eK (.int 2)) (ae (eK (.int 7)) ag)))))
  (ak (ax false 5 (ay aW (aS aG (ae (ai (af 3) (eK (.int 0))) ag)) (af 4)))
  (ak (ax false 6 (ay gr (aS aG (ae (ai (af 3) (eK (.int 1))) ag)) (ay aW (eK (.int 1)) (aj 3 aw (ae (af 2) (ae (eK (.int 3)) (ae (eK (.int 3)) ag)))))))
  (ak (ax false 7 (bB (ae (aA .leaf 11 (dq (ae (af 5) ag)) aN (aj 2 m__law_place (ae (af 3) (ae (af 11) ag)))) (ae (aA .leaf 11 (dq (ae (af 6) ag)) aN (aj 2 m__law_place (ae (af 3) (ae (ay aW (af 5) (af 11)) ag)))) ag))))
  (ak (ax false 8 (aM .leaf (ae (aj 1 m__law_twin (ae (af 1) ag)) (ae (bB (ae (hV (ai (af 3) (eK (.int 0)))) (ae (hV (ai (af 3) (eK (.int 1)))) ag))) ag))))
  (ak (ax true 9 (aj 2 kF (ae (ai (af 8) (eK (.int 0))) (ae (ai (af 8) (eK (.int 1))) ag))))
  (ak (bD (d5 (bY (aL bh (aj 2 bN (ae (af 1) (ae (af 9) ag))))) (d5 (bY (aL bh (aj 1 gU (ae (af 9) ag)))) (aL ao (ay eC (af 8) (aM .leaf (ae (af 1) (ae (af 3) ag))))))) (aF (eK (.bool false))) aH)
  (ak (bD (bY (aL bh (aS (bL false) (ae (aA .leaf 11 (dq (ae (eK (.int 60)) ag)) aN (ay bC (aj 2 m__law_place (ae (af 9) (ae (af 11) ag))) (aj 2 m__law_place (ae (af 3) (ae (af 11) ag))))) ag)))) (aF (eK (.bool false))) aH)
  (ak (ax false 10 (bB (ae (hV (ai (af 9) (eK (.int 0)))) (ae (hV (ai (af 9) (eK (.int 1)))) ag))))
  (ak (dN 9 0 (eK (.int 0)))
  (ak (dN 9 1 (eK (.int 0)))
  (aF (cV (ay bC (aj 2 kF (ae (ai (af 8) (eK (.int 0))) (ae (ai (af 8) (eK (.int 1))) ag))) (af 10)) (cV (ay bC (aj 2 kF (ae (af 1) (ae (af 7) ag))) (af 10)) (ay bC (af 8) (aM .leaf (ae (af 1) (ae (af 3) ag)))))))))))))))))))))
noncomputable def m_law:List L8->Res:=aE 12 d_law
end KQ
namespace KC
noncomputable def tv (F R:List Nat) (k:Nat):Nat:=if k<F.length then F.getD k 0 else R.getD ((k-F.length) % R.length) 0
structure LG (F R:List Nat):Prop where
 ne:R≠[]
 pr:∀s,1<=s->s<R.length->R.length % s=0->¬∀i,i+s<R.length->R.getD (i+s) 0=R.getD i 0
 la:F≠[]->F.getD (F.length-1) 0≠R.getD (R.length-1) 0
theorem pX {F R:List Nat} {k:Nat} (h:F.length<=k):tv F R (k+R.length)=tv F R k:=by
 unfold tv;rw [if_neg (by omega),if_neg (by omega),show k+R.length-F.length=(k-F.length)+R.length by omega,Nat.add_mod_right]
noncomputable def LH (R:List Nat) (s:Nat):Prop:=∀i,i+s<R.length->R.getD (i+s) 0=R.getD i 0
structure Prm (R:List Nat):Prop where
 ne:R≠[]
 pr:∀s,1<=s->s<R.length->R.length % s=0->¬LH R s
open PySem PySem.Spec L2 T PySem.SeqAt
open PyProof.Rows hiding St
theorem GX {F R:List Nat} (hR:0<R.length) {k:Nat} (hk:k<=F.length+R.length):(F++R++R.take 1).getD k 0=tv F R k:=by
 have l1:(R.take 1).length=1:=by rw [length_take];omega
 unfold tv;rw [LW];by_cases c:k<F.length
 ·rw [if_pos c,append_assoc,getElem?_append_left c,<-LW]
 ·rw [if_neg c]
  by_cases d:k<F.length+R.length
  ·rw [getElem?_append_left (by rw [length_append];exact d),getElem?_append_right (by omega),Nat.mod_eq_of_lt (by omega),<-LW]
  ·have:k=F.length+R.length:=by omega
   subst this;rw [getElem?_append_right (by rw [length_append];omega),length_append,Nat.sub_self,show F.length+R.length-F.length=R.length by omega,Nat.mod_self,List.getElem?_take,if_pos (by omega),<-LW]
theorem xo {w:Wd} {F R:List Nat} (h:j9 w F R):∀k,tv F R (k+1)∈w.stp (tv F R k):=by
 have hR:0<R.length:=List.length_pos_iff.mpr h.ne
 have low:∀k,k<F.length+R.length->tv F R (k+1)∈w.stp (tv F R k):=fun k hk=>by
  have:=qv (k:=k) h.ch (by simp only [length_append,length_take];omega)
  rw [GX hR (by omega),GX hR (by omega)] at this
  exact this
 intro k;induction k using Nat.strongRecOn with
 | ind k ih=>
  by_cases c:k<F.length+R.length
  ·exact low k c
  ·have a:=pX (F:=F) (R:=R) (k:=k-R.length) (by omega)
   have b:=pX (F:=F) (R:=R) (k:=k+1-R.length) (by omega)
   rw [Nat.sub_add_cancel (by omega)] at a b
   rw [a,b,show k+1-R.length=k-R.length+1 by omega]
   exact ih (k-R.length) (by omega)
end KC
namespace KQ
open PySem PySem.Spec L2 T PySem.SeqAt KC
open PyProof.Rows hiding St
theorem sC {z:Int}:cR [.int z]=.ok ⟨.leaf,.bool true⟩:=aR (br (v_and (s:=.leaf) (a:=true) (b:=true) (lL (aB rfl) rfl) (v_not (b:=false) (s:=.leaf) (lL (aB rfl) rfl))) rfl)
theorem wm {w:Wd} (ok:w.Ok) {F R:List Nat} (h:j9 w F R) (hl:F.length+R.length<=900):bN [w.enc,wy F R]=.ok ⟨.leaf,.bool true⟩:=by
 have hp:0<R.length:=List.length_pos_iff.mpr h.ne
 obtain ⟨a,R',rfl⟩:∃a R',R=a::R':=by
  cases R with
  | nil=>exact absurd rfl h.ne
  | cons a r=>exact ⟨a,r,rfl⟩
 generalize hR:a::R'=R at *
 have i0:∀x2 x3 x4 x5,ai (af 1) (eK (.int 0)) [L9 w.enc,L9 (wy F R),x2,x3,x4,x5]=.ok ⟨.leaf,aI F⟩ [L9 w.enc,L9 (wy F R),x2,x3,x4,x5]:=fun _ _ _ _=>fJ (j:=0) (aB rfl) aQ rfl rfl rfl
 have i1:∀x2 x3 x4 x5,ai (af 1) (eK (.int 1)) [L9 w.enc,L9 (wy F R),x2,x3,x4,x5]=.ok ⟨.leaf,aI R⟩ [L9 w.enc,L9 (wy F R),x2,x3,x4,x5]:=fun _ _ _ _=>fJ (j:=1) (aB rfl) aQ rfl rfl rfl
 have t1:=jv (Γ:=aZ 6 [w.enc,wy F R]) (fY (b:=true) (eB (s:=.leaf) (lL (c := "tuple") (fa:=af 1) (aB rfl) rfl))) (jv (cC (s:=.leaf) (aJ (g:=eC) (fa:=aS aG (ae (af 1) ag)) (fb:=eK (.int 2)) (d:=.bool false) (bS (g:=aG) (d:=.int 2) (aD (aB rfl) aq) rfl) aQ rfl)) (fY (b:=true) (eB (s:=.leaf) (lL (c := "list") (i0 none none none none) rfl))))
 have e0:((R.length:Int)==0)=false:=beq_eq_false_iff_ne.mpr (by omega)
 have t2:=jv (Γ:=aZ 6 [w.enc,wy F R]) (fY (b:=true) (eB (s:=.leaf) (lL (c := "list") (i1 none none none none) rfl))) (cC (s:=.leaf) (aJ (g:=bC) (fb:=eK (.int 0)) (bS (g:=aG) (d:=.int (R.length:Int)) (aD (i1 none none none none) aq) (by simp)) aQ KC.eq_int))
 simp only [e0] at t2
 have cat:cO (ai (af 1) (eK (.int 0))) (ai (af 1) (eK (.int 1))) (aZ 6 [w.enc,wy F R])=.ok ⟨.lst .leaf,aI (F++R)⟩ (aZ 6 [w.enc,wy F R]):=by
  have:=ic (i0 none none none none) (i1 none none none none) rfl rfl (by simp;omega)
  rw [show aZ 6 [w.enc,wy F R]=[L9 w.enc,L9 (wy F R),none,none,none,none] from rfl,this]
  simp [aI]
 have t3:bY (aL bh (aS (bL false) (ae (aA .leaf 5 (aU (af 2)) aN (cV (aj 1 cR (ae (af 5) ag)) (qG w4 gv (eK (.int 0)) (af 5) (aS aG (ae (ai (af 0) (eK (.int 0))) ag))))) ag))) [L9 w.enc,L9 (wy F R),L9 (aI (F++R)),none,none,none]=.ok (!true) [L9 w.enc,L9 (wy F R),L9 (aI (F++R)),none,none,none]:=by
  refine fY (eB (s:=.leaf) (bS (ps:=[⟨.lst .leaf,.list ((F++R).map fun _=>.bool true)⟩]) (aD (lz rm (F++R) (fun x=>⟨.leaf,.bool true⟩) (st:=true) (cA (aB rfl) rfl) (by simp) rfl (by simp;omega) fun x hx=>⟨?_,rfl⟩) aq) wB))
  have lt:=h.lt x hx
  have e:=IW (b:=decide ((0:Int)<=(x:Int))) (b':=decide ((x:Int)<(w.n:Int))) (g:=w4) (g':=gv) (fa:=eK (.int 0)) (fb:=af 5) (Γ:=[L9 w.enc,L9 (wy F R),L9 (aI (F++R)),none,none,L9 (rm x)]) aQ (aB rfl) rfl rfl (G8 ok (i:=0) rfl) rfl
  rw [show (decide ((0:Int)<=(x:Int))&&decide ((x:Int)<(w.n:Int)))=true by simp;omega] at e
  exact v_and (s:=.leaf) (a:=true) (b:=true) (bV (aD (aB rfl) aq) (sC (z:=(x:Int))) rfl rfl) e
 have ah:cO (du (fun k=>(some k,none)) (af 2) (eK (.int 1))) (aM .leaf (ae (ai (ai (af 1) (eK (.int 1))) (eK (.int 0))) ag)) [L9 w.enc,L9 (wy F R),L9 (aI (F++R)),none,none,none]=.ok ⟨.lst .leaf,aI ((F++R).drop 1++[R.getD 0 0])⟩ [L9 w.enc,L9 (wy F R),L9 (aI (F++R)),none,none,none]:=by
  have s1:=pq (Γ:=[L9 w.enc,L9 (wy F R),L9 (aI (F++R)),none,none,none]) (g:=fun k=>(some k,none)) (fa:=af 2) (fb:=eK (.int 1)) (s:=.leaf) (xs:=(F++R).map rm) (k:=(1:Int)) (s':=.leaf) (aB rfl) aQ DO
  simp only at s1
  rw [show T.cutD ((F++R).map rm) (some (1:Int)) none=((F++R).drop 1).map rm from pI (k:=1)] at s1;have s2:=jy (s:=.leaf) (aD (jE (i1 (L9 (aI (F++R))) none none none) (s:=.leaf) (k:=0) (fb:=eK (.int 0)) aQ hp) aq) rfl rfl rfl
  have:=ic s1 s2 rfl rfl (by simp;omega)
  rw [this];simp [aI]
 have gA:∀k,k<F.length+R.length->(F++R).getD k 0=tv F R k:=fun k hk=>by
  rw [<-GX hp (by omega),LW,LW,getElem?_append_left (l₁:=F++R) (by rw [length_append];exact hk)]
 have gB:∀k,k<F.length+R.length->((F++R).drop 1++[R.getD 0 0]).getD k 0=tv F R (k+1):=fun k hk=>by
  have e:(F++R).drop 1++[R.getD 0 0]=(F++R++R.take 1).drop 1:=by
   rw [List.drop_append_of_le_length (l₁:=F++R) (by rw [length_append];omega),<-hR]
   rfl
  rw [e,<-GX hp (by omega),LW,LW,List.getElem?_drop,Nat.add_comm 1 k]
 have fin:aS (bL false) (ae (aA .leaf 4 (dq (ae (aS aG (ae (af 2) ag)) ag)) aN (ay (bf false) (ai (af 3) (af 4)) (ai (ai (af 0) (eK (.int 2))) (ai (af 2) (af 4))))) ag) [L9 w.enc,L9 (wy F R),L9 (aI (F++R)),L9 (aI ((F++R).drop 1++[R.getD 0 0])),none,none]=.ok ⟨.leaf,.bool true⟩ [L9 w.enc,L9 (wy F R),L9 (aI (F++R)),L9 (aI ((F++R).drop 1++[R.getD 0 0])),none,none]:=by
  refine bS (ps:=[⟨.lst .leaf,.list ((List.range (F++R).length).map fun _=>.bool true)⟩]) (aD (lz rm (List.range (F++R).length) (fun x=>⟨.leaf,.bool true⟩) (st:=true) (nE (s:=.leaf) (n:=(F++R).length) (by simp;omega) (aD (bS (g:=aG) (d:=.int ((F++R).length:Int)) (aD (aB rfl) aq) (by simp)) aq)) (by simp) rfl (by simp;omega) fun k hk=>⟨?_,rfl⟩) aq) wB
  have hk:=List.mem_range.mp hk
  rw [length_append] at hk;have lt:tv F R k<w.n:=by
   rw [<-gA k hk];refine h.lt _ ?_
   rw [LW,LV (by simp;omega)]
   exact getElem_mem _
  have a1:=jE (Γ:=[L9 w.enc,L9 (wy F R),L9 (aI (F++R)),L9 (aI ((F++R).drop 1++[R.getD 0 0])),L9 (rm k),none]) (fa:=af 3) (fb:=af 4) (s:=.leaf) (l:=(F++R).drop 1++[R.getD 0 0]) (k:=k) (aB rfl) (aB rfl) (by simp;omega)
  have a2:=jE (Γ:=[L9 w.enc,L9 (wy F R),L9 (aI (F++R)),L9 (aI ((F++R).drop 1++[R.getD 0 0])),L9 (rm k),none]) (fa:=af 2) (fb:=af 4) (s:=.leaf) (l:=F++R) (k:=k) (aB rfl) (aB rfl) (by simp;omega)
  rw [gA k hk] at a2;rw [gB k hk] at a1;refine aJ a1 (AJ ok rfl a2 lt) ?_
  rw [jx,List.contains_iff_mem.mpr (xo h k)]
 refine aR (az (bu t1 nofun fun _=>rfl) (az (bu t2 nofun fun _=>rfl) (az (b6 cat rfl (by simp [aZ])) (az (bu t3 nofun fun _=>rfl) (az (b6 ah rfl (by simp)) (br fin rfl))))))
end KQ
namespace KC
open PySem PySem.Spec L2 T
open PyProof.Rows hiding St
open PySem.SeqAt
noncomputable abbrev dM (w:Wd) (p:Nat->Bool):List Nat:=(List.range w.n).filter p
theorem mem_fil {w:Wd} {p:Nat->Bool} {r:Nat}:r∈dM w p↔r<w.n/\p r=true:=by rw [List.mem_filter,mem_range]
theorem GY {w:Wd} {p:Nat->Bool} {r:Nat} (hr:r<w.n):(dM w p).contains r=p r:=by
 rw [Bool.eq_iff_iff,contains_iff_mem,mem_fil];exact ⟨fun h=>h.2,fun h=>⟨hr,h⟩⟩
theorem xh {w:Wd} {p q:Nat->Bool} (h:∀r,r<w.n->p r=q r):dM w p=dM w q:=List.filter_congr fun r hr=>h r (List.mem_range.mp hr)
theorem yG {w:Wd} {p:Nat->Bool}:(dM w p).length<=w.n:=Nat.le_trans (length_filter_le _ _) (by simp)
theorem oI {l:List Nat} {p:Nat->Bool}:((l.filter p).length=l.length↔l.all p=true)/\(0<(l.filter p).length↔l.any p=true):=by
 induction l with
 | nil=>simp
 | cons a r ih=>
  have:=length_filter_le p r
  rw [filter_cons]
  cases h:p a with
  | true=>simp only [if_true,length_cons,List.all_cons,List.any_cons,h,Bool.true_and,Bool.true_or,Nat.add_right_cancel_iff];exact ⟨ih.1,by simp⟩
  | false=>simp only [Bool.false_eq_true,if_false,length_cons,List.all_cons,List.any_cons,h,Bool.false_and,Bool.false_or];exact ⟨⟨fun z=>by omega,fun z=>by cases z⟩,ih.2⟩
theorem Ah {w:Wd} (ok:w.Ok) {Γ:Ev} (h0:Γ[0]?=some (L9 w.enc)):dq (ae (aS aG (ae (ai (af 0) (eK (.int 0))) ag)) ag) Γ=.ok ⟨(List.range w.n).map rm,true⟩ Γ:=by
 have lo:=ok.g.lo
 have h24:=ok.h24
 refine (nN (k:=(w.n:Int)) (ps:=[⟨.leaf,.int w.n⟩]) ?_ rfl (by omega) (by omega)).trans (by rw [<-Et];rfl)
 simp [h0,Wd.enc,lo]
noncomputable def dm (w:Wd) (any:Bool) (a b:Nat->Bool):Nat->Nat->Bool
 | 0,r=>b r
 | t+1,r=>b r||(a r&&bP any ((w.stp r).map (dm w any a b t)))
theorem jP {any:Bool} {l:List Nat} {p q:Nat->Bool} (h:∀t∈l,p t=true->q t=true) (hp:bP any (l.map p)=true):bP any (l.map q)=true:=led_iff.mpr (xl (led_iff.mp hp) h)
theorem IA {w:Wd} {any:Bool} {a b:Nat->Bool}:∀(t r:Nat),dm w any a b t r=true->dm w any a b (t+1) r=true
 | 0,r,h=>by
  have h:b r=true:=h
  simp [dm,h]
 | t+1,r,h=>by
  rw [dm,Bool.or_eq_true,Bool.and_eq_true] at h ⊢;exact h.imp id fun ⟨h1,h2⟩=>⟨h1,jP (fun x _=>IA t x) h2⟩
theorem Dv {l:List Nat} {p q:Nat->Bool} (h:∀r∈l,p r=true->q r=true):(l.filter p).length<=(l.filter q).length/\((l.filter q).length<=(l.filter p).length->∀r∈l,q r=true->p r=true):=by
 induction l with
 | nil=>simp
 | cons x r ih=>
  obtain ⟨i1,i2⟩:=ih fun y hy=>h y (LX _ hy)
  have hx:=h x mem_cons_self
  rw [filter_cons,filter_cons]
  cases hp:p x with
  | true=>
   simp only [hx hp,if_true,length_cons]
   refine ⟨by omega,fun z y hy hq=>?_⟩
   rcases LU hy with rfl | hy
   ·exact hp
   ·exact i2 (by omega) y hy hq
  | false=>
   cases hq:q x with
   | true=>
    simp only [Bool.false_eq_true,if_false,if_true,length_cons]
    refine ⟨by omega,fun z=>by omega⟩
   | false=>
    simp only [Bool.false_eq_true,if_false]
    refine ⟨i1,fun z y hy h'=>?_⟩
    rcases LU hy with rfl | hy
    ·rw [hq] at h';cases h'
    ·exact i2 z y hy h'
theorem jF {w:Wd} (ok:w.Ok) {any:Bool} {a b:Nat->Bool}:∀r,r<w.n->dm w any a b (w.n+1) r=true->dm w any a b w.n r=true:=by
 have stay:∀t,(∀r,r<w.n->dm w any a b (t+1) r=true->dm w any a b t r=true)->∀r,r<w.n->dm w any a b (t+2) r=true->dm w any a b (t+1) r=true:=fun t h r hr hu=>by
  rw [dm,Bool.or_eq_true,Bool.and_eq_true] at hu ⊢;exact hu.imp id fun ⟨h1,h2⟩=>⟨h1,jP (fun x hx=>h x (ok.stp_lt hx)) h2⟩
 have key:∀t,(∀r,r<w.n->dm w any a b (t+1) r=true->dm w any a b t r=true)\/t+1<=(dM w (dm w any a b (t+1))).length:=fun t=>by
  induction t with
  | zero=>
   by_cases h:∀r,r<w.n->dm w any a b 1 r=true->dm w any a b 0 r=true
   ·exact .inl h
   ·refine .inr ?_
    obtain ⟨r,hr⟩:=Classical.not_forall.mp h;obtain ⟨h1,h2⟩:=Classical.not_imp.mp hr;obtain ⟨h3,_⟩:=Classical.not_imp.mp h2;exact List.length_pos_of_mem (mem_fil.mpr ⟨h1,h3⟩)
  | succ t ih=>
   rcases ih with ih | ih
   ·exact .inl (stay t ih)
   ·obtain ⟨c1,c2⟩:(dM w (dm w any a b (t+1))).length<=(dM w (dm w any a b (t+2))).length/\((dM w (dm w any a b (t+2))).length<=(dM w (dm w any a b (t+1))).length->∀r∈List.range w.n,dm w any a b (t+2) r=true->dm w any a b (t+1) r=true):=Dv (l:=List.range w.n) (p:=dm w any a b (t+1)) (q:=dm w any a b (t+2)) fun r _=>IA _ _
    by_cases h:(dM w (dm w any a b (t+2))).length<=(dM w (dm w any a b (t+1))).length
    ·exact .inl fun r hr=>c2 h r (List.mem_range.mpr hr)
    ·refine .inr ?_
     show t+1+1<=(dM w (dm w any a b (t+2))).length
     omega
 rcases key w.n with h | h
 ·exact h
 ·have:=yG (w:=w) (p:=dm w any a b (w.n+1))
  omega
theorem IH {w:Wd} (ok:w.Ok) {any:Bool} {a b:Nat->Bool} {r:Nat} (hr:r<w.n):dm w any a b w.n r=true↔Unt w any (fun t=>a t=true) (fun t=>b t=true) r:=by
 constructor
 ·have:∀t r,dm w any a b t r=true->Unt w any (fun t=>a t=true) (fun t=>b t=true) r:=by
   intro t;induction t with
   | zero=>exact fun r h=>.now h
   | succ t ih=>
    intro r h;rw [dm,Bool.or_eq_true,Bool.and_eq_true] at h;rcases h with h | ⟨h1,h2⟩
    ·exact .now h
    ·exact .of_led h1 (xl (led_iff.mp h2) fun x _=>ih x)
  exact this _ _
 ·intro h
  have b0:∀t r,b r=true->dm w any a b t r=true:=fun t r h=>by
   cases t<;>simp [dm,h]
  induction h with
  | now q=>exact b0 _ _ q
  | @some r t e hp ht _ ih=>
   refine jF ok r hr ?_
   rw [dm,hp,Bool.true_and,Bool.or_eq_true];exact .inr (led_iff.mpr (by subst e;unfold led;simpa using ⟨t,ht,ih (ok.stp_lt ht)⟩))
  | @all r e hp _ ih=>
   refine jF ok r hr ?_
   rw [dm,hp,Bool.true_and,Bool.or_eq_true];exact .inr (led_iff.mpr (by subst e;unfold led;simpa using fun t ht=>ih t ht (ok.stp_lt ht)))
@[simp] theorem mY (a:Wr):bC (.str a.t) (.str "some next")=some (.bool (decide (a=.sn))):=dP a .sn
@[simp] theorem qo (a:Wr):bC (.str a.t) (.str "all next")=some (.bool (decide (a=.an))):=dP a .an
@[simp] theorem Le (a:Wr):bC (.str a.t) (.str "some always")=some (.bool (decide (a=.sa))):=dP a .sa
@[simp] theorem Lg (a:Wr):bC (.str a.t) (.str "all always")=some (.bool (decide (a=.aa))):=dP a .aa
@[simp] theorem Ld (a:Wr):bC (.str a.t) (.str "some until")=some (.bool (decide (a=.su))):=dP a .su
@[simp] theorem Lf (a:Wr):bC (.str a.t) (.str "all until")=some (.bool (decide (a=.au))):=dP a .au
theorem DQ {Γ:Ev} {fa:F1} {p:PV} (h:fa Γ=.ok p Γ) (hs:p.s.isView=false):aF fa Γ=.rt p:=br h hs
theorem qI {sh:Sh} {d:D} (h:sh.isView=false):coer .leaf ⟨sh,d⟩=true:=by
 unfold coer;simp [h]
theorem xy {w:Wd} {a:Sn}:dM w (fun t=>!(aK w a).contains t)=aK w (.un .not a):=by
 refine xh fun r hr=>?_
 rw [lp hr];exact iS (by rw [Bool.not_eq_true',<-Bool.not_eq_true,satB_iff];rfl)
theorem rng_fil {w:Wd}:List.range w.n=dM w (fun _=>true):=by rw [dM,List.filter_eq_self.mpr fun _ _=>rfl]
theorem zb {w:Wd} {a b:Sn}:(aK w a).filter (fun t=>(aK w b).contains t)=aK w (.bi .and a b):=by
 show (dM w (bw w a)).filter _=_
 rw [List.filter_filter];refine xh fun r hr=>?_
 rw [lp hr];exact iS (by rw [Bool.and_eq_true,satB_iff,satB_iff];exact And.comm)
theorem um {w:Wd} {any:Bool} {a b:Sn} {r:Nat}:Unt w any (fun t=>bw w a t=true) (fun t=>bw w b t=true) r↔Unt w any (dJ w a) (dJ w b) r:=by
 rw [show (fun t=>bw w a t=true)=dJ w a from funext fun t=>propext satB_iff,show (fun t=>bw w b t=true)=dJ w b from funext fun t=>propext satB_iff]
end KC
namespace KQ
open PySem PySem.Spec L2 T
open PyProof.Rows hiding St
open KC
noncomputable def kT:FS:=(ak (ax false 3 (ai (aM .leaf (ae (eK (.str "some next")) (ae (eK (.str "some until")) (ae (eK (.str "some always")) (ae (eK (.str "all next")) (ae (eK (.str "all until")) (ae (eK (.str "all always")) ag))))))) (aj 3 aw (ae (af 0) (ae (eK (.int 0)) (ae (eK (.int 6)) ag))))))
  (ak (bD (aL ao (ay (cU false) (eK (.str "until")) (af 3))) (aF (bB (ae (af 3) (ae (af 1) (ae (af 2) ag))))) aH)
  (aF (bB (ae (af 3) (ae (af 1) ag))))))
noncomputable def bJ:List L8->Res:=aE 4 kT
end KQ
namespace KC
open PySem PySem.Spec L2 T PySem.SeqAt
open PyProof.Rows hiding St
structure Det (w:Wd):Prop where
 d:∀x,x<w.n->∃t,w.stp x=[t]
noncomputable def Sn.pl:Sn->Bool
 | .yes=>true | .mk _=>true | .un .not a=>a.pl | .bi .and a b=>a.pl&&b.pl | .bi .or a b=>a.pl&&b.pl | _=>false
theorem vP (a:Wr):∃x,dO (.str a.t) (.int 4)=some (.str x)/\bC (.str x) (.str "some")=some (.bool a.ofS):=by
 refine ⟨Txt.slice a.t none (some 4),?_,?_⟩
 ·show (if a.t.length<=sizeLine then some (PyData.str (Txt.slice a.t none (some 4))) else none)=_
  rw [if_pos (Nat.le_trans (by cases a<;>decide +kernel:a.t.length<=1000) AF)]
 ·cases a<;>kernel_rfl
structure Kt (s a b:Sn):Prop where
 tm:s.tm=true
 ar:∀x∈s.args,x=a\/x=b
 sz:s.size<=a.size+b.size+1
 dp:s.dep<=max a.dep b.dep+1
 ok:a.ok->b.ok->s.ok
end KC
namespace KQ
open PySem PySem.Spec L2 T PySem.SeqAt KC
open PyProof.Rows hiding St
theorem Dq {c k:Int} {b:Nat} (h0:0<=k) (h1:k<=1000) (hb:1<=b) (hb2:b<=1000):∃r:Nat,r<b/\aw [.int c,.int k,.int (b:Int)]=.ok ⟨.leaf,rm r⟩:=by
 have d:=AA (c:=c) (k:=k) (b:=(b:Int)) h0 h1 (by omega) (by omega)
 have i:=GK (c:=c) (k:=k) (b:=(b:Int)) h0 h1 (by omega) (by omega)
 refine ⟨(gg c k b).toNat,by omega,?_⟩
 rw [d];show _=Res.ok ⟨.leaf,.int ((gg c k b).toNat:Int)⟩
 rw [Int.toNat_of_nonneg i.1]
theorem AY {i j:Nat} {fl:FL} {Γ Γ1 Γ':Ev} {p q:PV} (h:fl Γ=.ok [p,q] Γ1) (hp:putN [i,j] [p,q] Γ1=some Γ'):gH i j fl Γ=.nx Γ':=by
 unfold gH;rw [h];simp only [hp]
theorem sE {c:Int} {a b:Sn}:∃(s:Sn) (sh:Sh),bJ [.int c,a.enc,b.enc]=.ok ⟨sh,s.enc⟩/\Kt s a b/\sh.isView=false/\coer .leaf ⟨sh,s.enc⟩=true:=by
 obtain ⟨j,hj,ej⟩:=Dq (c:=c) (k:=0) (b:=6) (by omega) (by omega) (by omega) (by omega)
 have uni:∀(u:U5) (j:Nat),aw [.int c,.int 0,.int ((6:Nat):Int)]=.ok ⟨.leaf,rm j⟩->eF 6 (j:Int)=some j->[PyData.str "some next",.str "some until",.str "some always",.str "all next",.str "all until",.str "all always"][j]?=some (.str u.w.t)->cU false (.str "until") (.str u.w.t)=some (.bool false)->u≠.not->∃(s:Sn) (sh:Sh),bJ [.int c,a.enc,b.enc]=.ok ⟨sh,s.enc⟩/\Kt s a b/\sh.isView=false/\coer .leaf ⟨sh,s.enc⟩=true:=fun u j e ix at' un hn=>by
  refine ⟨.un u a,.tup [.leaf,.leaf],aR (az (b6 (sY (jy (s:=.leaf) (aD aQ (aD aQ (aD aQ (aD aQ (aD aQ (aD aQ aq)))))) rfl rfl rfl) (bV (aD (aB rfl) (aD aQ (aD aQ aq))) e rfl rfl) ix at' rfl) rfl (by simp [aZ])) (az (bu (cC (s:=.leaf) (aJ aQ (aB rfl) un)) nofun fun _=>rfl) (br (cI (aD (aB rfl) (aD (aB rfl) aq)) rfl rfl) rfl))),⟨?_,?_,?_,?_,fun h _=>h⟩,rfl,rfl⟩
  ·cases u<;>first | rfl | exact absurd rfl hn
  ·intro x hx
   exact .inl (List.mem_singleton.mp hx)
  ·show a.size+1<=_
   omega
  ·show a.dep+1<=_
   omega
 have bin:∀(u:B4) (j:Nat),aw [.int c,.int 0,.int ((6:Nat):Int)]=.ok ⟨.leaf,rm j⟩->eF 6 (j:Int)=some j->[PyData.str "some next",.str "some until",.str "some always",.str "all next",.str "all until",.str "all always"][j]?=some (.str u.w.t)->cU false (.str "until") (.str u.w.t)=some (.bool true)->u≠.and->u≠.or->∃(s:Sn) (sh:Sh),bJ [.int c,a.enc,b.enc]=.ok ⟨sh,s.enc⟩/\Kt s a b/\sh.isView=false/\coer .leaf ⟨sh,s.enc⟩=true:=fun u j e ix at' un hn hn'=>by
  refine ⟨.bi u a b,.tup [.leaf,.leaf,.leaf],aR (az (b6 (sY (jy (s:=.leaf) (aD aQ (aD aQ (aD aQ (aD aQ (aD aQ (aD aQ aq)))))) rfl rfl rfl) (bV (aD (aB rfl) (aD aQ (aD aQ aq))) e rfl rfl) ix at' rfl) rfl (by simp [aZ])) (xg (bu (cC (s:=.leaf) (aJ aQ (aB rfl) un)) (fun _=>br (cI (aD (aB rfl) (aD (aB rfl) (aD (aB rfl) aq))) rfl rfl) rfl) nofun))),⟨?_,?_,?_,?_,fun h h'=>⟨h,h'⟩⟩,rfl,rfl⟩
  ·cases u<;>first | rfl | exact absurd rfl hn | exact absurd rfl hn'
  ·intro x hx
   simp [Sn.args] at hx
   exact hx
  ·exact L7 _
  ·exact L7 _
 match j,hj,ej with
 | 0,_,e=>exact uni .sn 0 e rfl rfl (by kernel_rfl) (by decide)
 | 1,_,e=>exact bin .su 1 e rfl rfl (by kernel_rfl) (by decide) (by decide)
 | 2,_,e=>exact uni .sa 2 e rfl rfl (by kernel_rfl) (by decide)
 | 3,_,e=>exact uni .an 3 e rfl rfl (by kernel_rfl) (by decide)
 | 4,_,e=>exact bin .au 4 e rfl rfl (by kernel_rfl) (by decide) (by decide)
 | 5,_,e=>exact uni .aa 5 e rfl rfl (by kernel_rfl) (by decide)
end KQ
namespace KC
open PySem PySem.Spec L2 T PySem.SeqAt
open PyProof.Rows hiding St
theorem qk {ch:List (Option Nat)} {Q:Nat->Prop}:∀{l:List Nat},tF ch l->(∀x∈l,∀t,bc ch x=some t->Q x->Q t)->(∀a,l.head?=some a->Q a)->∀x∈l,Q x
 | [],_,_,_,x,hx=>by simp at hx
 | [a],_,_,h,x,hx=>by
  rw [List.mem_singleton.mp hx];exact h a rfl
 | a::b::r,f,c,h,x,hx=>by
  have ha:=h a rfl
  rcases LU hx with z | z
  ·rw [z];exact ha
  ·refine qk (l:=b::r) f.2 (fun x hx=>c x (LX _ hx)) (fun d hd=>?_) x z
   simp at hd
   rw [<-hd];exact c a (by simp) b f.1 ha
theorem mX {ch:List (Option Nat)} {a:Nat}:∀{l:List Nat},tF ch (l++[a])->∀x∈l,∃t,bc ch x=some t/\(t∈l\/t=a)
 | [],_,x,hx=>by simp at hx
 | [b],f,x,hx=>by
  rw [List.mem_singleton.mp hx];exact ⟨a,f.1,.inr rfl⟩
 | b::c::l,f,x,hx=>by
  rcases LU hx with z | z
  ·rw [z];exact ⟨c,f.1,.inl (by simp)⟩
  ·obtain ⟨t,e,h⟩:=mX (l:=c::l) f.2 x z
   exact ⟨t,e,h.imp (LX _) id⟩
theorem den_check_room {w:Wd} (ok:w.Ok) {r:Nat} (hr:r<w.n):cP [w.enc,rm r]=.ok ⟨.leaf,.none⟩:=by
 have c:=IW (g:=w4) (g':=gv) (Γ:=aZ 2 [w.enc,rm r]) (fa:=eK (.int 0)) (fb:=af 1) (fc:=aS aG (ae (ai (af 0) (eK (.int 0))) ag)) (b:=decide ((0:Int)<=(r:Int))) (b':=decide ((r:Int)<(w.n:Int))) aQ (aB (i:=1) rfl) rfl rfl (G8 ok rfl) rfl
 have t:=fY (cC (s:=.leaf) c)
 rw [decide_eq_true (show (0:Int)<=(r:Int) by omega),decide_eq_true (show (r:Int)<(w.n:Int) by omega)] at t
 exact qa (bu t nofun fun _=>rfl)
theorem zw {c:FB} {fa fb:F1} {Γ:Ev} {t:Bool} {p:PV} (hc:c Γ=.ok t Γ) (ha:t=true->fa Γ=.ok p Γ) (hb:t=false->fb Γ=.ok p Γ):oN c fa fb Γ=.ok p Γ:=by
 unfold oN;rw [hc];simp only [wO]
 cases t with
 | true=>exact ha rfl
 | false=>exact hb rfl
theorem eq_bool {a b:Bool}:bC (.bool a) (.bool b)=some (.bool (a==b)):=by cases a<;>cases b<;>kernel_rfl
theorem ne_bool {a b:Bool}:eC (.bool a) (.bool b)=some (.bool (a != b)):=by cases a<;>cases b<;>kernel_rfl
theorem qw {v:Wd} {ch:List (Option Nat)} {n:Nat} (c:∀x,x<n->∀t,bc ch x=some t->t∈v.stp x):∀{l:List Nat},(∀x∈l,x<n)->tF ch l->D8 v l
 | [],_,_=>trivial
 | [a],_,_=>trivial
 | a::b::r,h,f=>⟨c a (h a (by simp)) b f.1,qw c (fun x hx=>h x (LX _ hx)) f.2⟩
theorem Lasso.allLt {n r:Nat} {ch:List (Option Nat)} {F R:List Nat} (L:Lasso n ch r F R):∀x∈F++R++R.take 1,x<n:=fun x hx=>by
 rcases LR hx with z | z
 ·exact L.lt x z
 ·exact L.lt x (LP _ (List.mem_of_mem_take z))
theorem Lasso.way {v:Wd} {n r:Nat} {ch:List (Option Nat)} {F R:List Nat} (L:Lasso n ch r F R) (hn:v.n=n) (h24:n<=24) (c:∀x,x<n->∀t,bc ch x=some t->t∈v.stp x):j9 v F R:=by
 have hl:=Au L.nd L.lt
 rw [length_append] at hl;exact ⟨L.ne,fun x hx=>by rw [hn];exact L.lt x hx,qw c L.allLt L.fc,by omega⟩
theorem Lasso.closed {n r:Nat} {ch:List (Option Nat)} {F R:List Nat} (L:Lasso n ch r F R) {x t:Nat} (hx:x∈F++R) (e:bc ch x=some t):t∈F++R:=by
 obtain ⟨a,ea,ha⟩:=zA L.ne;have f:=L.fc
 rw [ea] at f;obtain ⟨t',e',h⟩:=mX f x hx;rw [e] at e'
 cases e'
 rcases h with h | h
 ·exact h
 ·rw [h];exact LP _ ha
theorem Hl {ch:List (Option Nat)}:∀{A B:List Nat},tF ch (A++B)->tF ch A
 | [],_,_=>trivial
 | [a],_,_=>trivial
 | a::b::r,B,h=>⟨h.1,Hl (A:=b::r) h.2⟩
theorem Lasso.nx {n r:Nat} {ch:List (Option Nat)} {F R:List Nat} (L:Lasso n ch r F R):bc ch r=some (zR F R):=by
 rw [CC L.ne];obtain ⟨a,ea,ha⟩:=zA L.ne;have f:=L.fc
 have hd:=L.hd
 rw [ea] at f ⊢
 cases e:F++R with
 | nil=>rw [e] at hd;simp at hd
 | cons b s=>
  rw [e] at f hd
  have:b=r:=by simpa using hd
  subst this
  cases s with
  | nil=>simpa using f.1
  | cons c t=>simpa using f.1
section
variable {w:Wd} {thr goal:List Nat} {rk ch:List (Option Nat)} {n r:Nat} {F R:List Nat}
theorem iI (hs:∀y k,y<n->bc rk y=some k->y∉goal->y∈thr/\∀t,bc ch y=some t->∃j,bc rk t=some j/\j<k):∀{l:List Nat} {x:Nat},(∀y∈x::l,y<n)->tF ch (x::l)->bc rk x≠none->iZ (fh thr) (fh goal) (x::l)=false->∀y∈x::l,y∉goal/\bc rk y≠none
 | l,x,hl,f,hk,hu=>by
  obtain ⟨k,ek⟩:=Option.ne_none_iff_exists'.mp hk
  have hg:x∉goal:=fun z=>by simp [iZ,z] at hu
  obtain ⟨ht,hst⟩:=hs x k (hl x (by simp)) ek hg
  intro y hy;rcases LU hy with rfl | hy
  ·exact ⟨hg,hk⟩
  ·cases l with
   | nil=>simp at hy
   | cons b l=>
    obtain ⟨j,ej,_⟩:=hst b f.1;have hu2:iZ (fh thr) (fh goal) (b::l)=false:=by
     have:(goal.contains x||(thr.contains x&&iZ (fh thr) (fh goal) (b::l)))=false:=hu
     simp only [Bool.or_eq_false_iff,Bool.and_eq_false_iff] at this
     rcases this.2 with z | z
     ·simp [ht] at z
     ·exact z
    exact iI hs (fun z hz=>hl z (LX _ hz)) f.2 (by rw [ej];simp) hu2 y hy
theorem Lasso.down (L:Lasso n ch r F R) (hk:bc rk r≠none) (hs:∀y k,y<n->bc rk y=some k->y∉goal->y∈thr/\∃t,bc ch y=some t/\∃j,bc rk t=some j/\j<k):iZ (fh thr) (fh goal) (F++R)=true:=by
 cases hu:iZ (fh thr) (fh goal) (F++R) with
 | true=>rfl
 | false=>
  exfalso
  have hd:=L.hd
  have f:=Hl L.fc
  have lt:=L.lt
  have key:∀y∈F++R,y∉goal/\bc rk y≠none:=by
   cases e:F++R with
   | nil=>rw [e] at hd;simp at hd
   | cons b s=>
    rw [e] at hd f lt hu
    have:b=r:=by simpa using hd
    subst this;exact iI (fun y k h1 h2 h3=>⟨(hs y k h1 h2 h3).1,fun t et=>by
     obtain ⟨t',e1,j,e2,e3⟩:=(hs y k h1 h2 h3).2;rw [et] at e1
     cases e1;exact ⟨j,e2,e3⟩⟩) lt f hk hu
  have no:∀k,∀y∈F++R,bc rk y=some k->False:=by
   intro k;induction k using Nat.strongRecOn with
   | ind k ih=>
    intro y hy ek;obtain ⟨t,e1,j,e2,e3⟩:=(hs y k (L.lt y hy) ek (key y hy).1).2;exact ih j e3 t (L.closed hy e1) e2
  have hr:r∈F++R:=by
   cases e:F++R with
   | nil=>rw [e] at hd;simp at hd
   | cons b s=>
    rw [e] at hd;have:b=r:=by simpa using hd
    subst this;simp
  obtain ⟨k,ek⟩:=Option.ne_none_iff_exists'.mp hk
  exact no k r hr ek
theorem jO (hs:∀y,y<n->bc rk y=none->y∉goal/\(y∉thr\/∃t,bc ch y=some t/\bc rk t=none)):∀{l:List Nat} {x:Nat},(∀y∈x::l,y<n)->tF ch (x::l)->bc rk x=none->iZ (fh thr) (fh goal) (x::l)=false
 | l,x,hl,f,hk=>by
  obtain ⟨hg,h⟩:=hs x (hl x (by simp)) hk
  show (goal.contains x||(thr.contains x&&iZ (fh thr) (fh goal) l))=false
  rcases h with h | ⟨t,e1,e2⟩
  ·simp [hg,h]
  ·cases l with
   | nil=>simp [hg,iZ]
   | cons b l=>
    have e:b=t:=by
     have:=f.1
     rw [e1] at this;exact (Option.some.inj this).symm
    subst e;rw [jO hs (fun z hz=>hl z (LX _ hz)) f.2 e2]
    simp [hg]
theorem Lasso.off (L:Lasso n ch r F R) (hk:bc rk r=none) (hs:∀y,y<n->bc rk y=none->y∉goal/\(y∉thr\/∃t,bc ch y=some t/\bc rk t=none)):iZ (fh thr) (fh goal) (F++R)=false:=by
 have hd:=L.hd
 have f:=Hl L.fc
 have lt:=L.lt
 cases e:F++R with
 | nil=>rw [e] at hd;simp at hd
 | cons b s=>
  rw [e] at hd f lt
  have:b=r:=by simpa using hd
  subst this;exact jO hs lt f hk
end
noncomputable def jK (w:Wd) (s:Sn) (rk:List (Option Nat)) (x:Nat):List Nat:=match s with
 | .un .sn a=>(w.stp x).filter fun t=>(aK w a).contains t==true
 | .un .an a=>(w.stp x).filter fun t=>(aK w a).contains t==false
 | .bi .su _ _=>rV w rk x
 | .un .aa _=>rV w rk x
 | _=>(w.stp x).filter fun t=>(bc rk t).isNone
noncomputable def tu (w:Wd) (s:Sn) (rk:List (Option Nat)):List (Option Nat):=(List.range w.n).map fun x=>some ((jK w s rk x++w.stp x).getD 0 0)
theorem Bl {w:Wd} {s:Sn} {rk:List (Option Nat)} {x t:Nat} (h:t∈jK w s rk x):t∈w.stp x:=by
 unfold jK at h;split at h<;>exact (List.mem_filter.mp h).1
theorem GS {w:Wd} {s:Sn} {rk:List (Option Nat)} {x:Nat} (hx:x<w.n):bc (tu w s rk) x=some ((jK w s rk x++w.stp x).getD 0 0):=by
 unfold bc tu;rw [LW,getElem?_map,List.getElem?_range hx];rfl
theorem r9 {l:List Nat} (h:l≠[]):l.getD 0 0∈l:=by
 cases l with
 | nil=>exact absurd rfl h
 | cons a r=>simp
theorem uG {w:Wd} (ok:w.Ok) {s:Sn} {rk:List (Option Nat)} {x:Nat} (hx:x<w.n):∀t,bc (tu w s rk) x=some t->t∈w.stp x:=fun t e=>by
 rw [GS hx] at e
 cases e;have hne:jK w s rk x++w.stp x≠[]:=fun z=>ok.stp_ne hx (List.append_eq_nil_iff.mp z).2
 rcases LR (r9 hne) with z | z
 ·exact Bl z
 ·exact z
theorem GU {w:Wd} {s:Sn} {rk:List (Option Nat)} {x:Nat} (hx:x<w.n) (hn:jK w s rk x≠[]):∃t,bc (tu w s rk) x=some t/\t∈jK w s rk x:=by
 refine ⟨_,GS hx,?_⟩
 cases e:jK w s rk x with
 | nil=>exact absurd e hn
 | cons a r=>simp
noncomputable def Gy (s:Sn) (rk:List (Option Nat)) (R:D):Prop:=match s with
 | .un .sn _=>R=.none
 | .un .an _=>R=.none
 | _=>R=dE rk
theorem m5 {w:Wd} (ok:w.Ok) {s:Sn} (ht:s.tm=true) {rk:List (Option Nat)} (hl:rk.length=w.n) {R:D} (hR:Gy s rk R) {x:Nat} (hx:x<w.n):bj [w.enc,.str s.w.t,cJ (s.args.map (aK w)),R,rm x]=.ok ⟨.lst .leaf,aI (jK w s rk x)⟩:=by
 have h30:=(ok.z.len (r:=x))
 have st:ax false 5 (ai (ai (af 0) (eK (.int 2))) (af 4)) (aZ 7 [w.enc,.str s.w.t,cJ (s.args.map (aK w)),R,rm x])=.nx [L9 w.enc,L9 (.str s.w.t),L9 (cJ (s.args.map (aK w))),L9 R,L9 (rm x),L9 (aI (w.stp x)),none]:=b6 (AJ ok rfl (aB rfl) hx) rfl (by simp [aZ])
 have mL:∀(u:U5) (a:Sn) (b:Bool),s=.un u a->bC (.str s.w.t) (.str "some next")=some (.bool b)->R=.none->bj [w.enc,.str s.w.t,cJ (s.args.map (aK w)),R,rm x]=.ok ⟨.lst .leaf,aI ((w.stp x).filter fun t=>(aK w a).contains t==b)⟩:=fun u a b es e hr=>by
  subst es hr;have un:∀y,ai (af 2) (eK (.int 0)) [L9 w.enc,L9 (.str (Sn.un u a).w.t),L9 (cJ ((Sn.un u a).args.map (aK w))),L9 (.none),L9 (rm x),L9 (aI (w.stp x)),y]=.ok ⟨.leaf,aI (aK w a)⟩ [L9 w.enc,L9 (.str (Sn.un u a).w.t),L9 (cJ ((Sn.un u a).args.map (aK w))),L9 (.none),L9 (rm x),L9 (aI (w.stp x)),y]:=fun y=>sY (j:=0) (aB rfl) aQ rfl rfl rfl
  refine aR (az st (xg (bu (t:=true) (cC (s:=.leaf) (aJ (aB rfl) aQ rfl)) (fun _=>br (tP rm (w.stp x) (fun t=>(aK w a).contains t==b) (fun t=>⟨.leaf,rm t⟩) (st:=true) (cA (aB rfl) rfl) (by simp) rfl h30 (fun t ht=>?_) fun t ht _=>⟨aB rfl,rfl⟩) rfl) nofun)))
  exact cC (s:=.leaf) (aJ (aJ (aB (d:=rm t) rfl) (un _) jx) (aJ (aB rfl) aQ e) eq_bool)
 have isN:R=dE rk->aL ao (ay (cN false) (af 3) (eK .none)) [L9 w.enc,L9 (.str s.w.t),L9 (cJ (s.args.map (aK w))),L9 R,L9 (rm x),L9 (aI (w.stp x)),none]=.ok false [L9 w.enc,L9 (.str s.w.t),L9 (cJ (s.args.map (aK w))),L9 R,L9 (rm x),L9 (aI (w.stp x)),none]:=fun e=>by
  subst e;exact cC (s:=.leaf) (aJ (aB rfl) aQ rfl)
 have low:R=dE rk->s.w.some=true->bj [w.enc,.str s.w.t,cJ (s.args.map (aK w)),R,rm x]=.ok ⟨.lst .leaf,aI (rV w rk x)⟩:=fun e hs=>by
  have q:=isN e
  subst e;refine aR (az st (az (bu q nofun fun _=>rfl) (xg (bu (t:=s.w.some) (cC (s:=.leaf) (aJ (aB rfl) aQ (vI _))) (fun _=>br (bV (aD (aB rfl) (aD (aB rfl) (aD (aB rfl) aq))) (gY ok hl hx) rfl rfl) rfl) fun z=>by rw [hs] at z;cases z))))
 have off:R=dE rk->s.w.some=false->bj [w.enc,.str s.w.t,cJ (s.args.map (aK w)),R,rm x]=.ok ⟨.lst .leaf,aI ((w.stp x).filter fun t=>(bc rk t).isNone)⟩:=fun e hs=>by
  have q:=isN e
  subst e;refine aR (az st (az (bu q nofun fun _=>rfl) (az (bu (t:=s.w.some) (cC (s:=.leaf) (aJ (aB rfl) aQ (vI _))) (fun z=>by rw [hs] at z;cases z) fun _=>rfl) (br (tP rm (w.stp x) (fun t=>(bc rk t).isNone) (fun t=>⟨.leaf,rm t⟩) (st:=true) (cA (aB rfl) rfl) (by simp) rfl h30 (fun t ht=>?_) fun t ht _=>⟨aB rfl,rfl⟩) rfl))))
  have tn:t<rk.length:=by rw [hl];exact ok.stp_lt ht
  have a1:(rk.map oD)[t]?=some (oD (bc rk t)):=by
   rw [getElem?_map,LV tn,bc,LW,LV tn];rfl
  refine cC (s:=.leaf) (aJ (sY (j:=t) (s2:=.leaf) (aB rfl) (aB (d:=rm t) rfl) (Ar (by rw [length_map];exact tn)) a1 ?_) aQ ?_)
  ·cases bc rk t<;>rfl
  ·cases bc rk t<;>rfl
 cases s with
 | yes=>simp [Sn.tm,Sn.w,Wr.ofS,Wr.ofA] at ht
 | mk c=>simp [Sn.tm,Sn.w,Wr.ofS,Wr.ofA] at ht
 | un k a=>
  cases k with
  | not=>simp [Sn.tm,Sn.w,U5.w,Wr.ofS,Wr.ofA] at ht
  | sn=>exact mL .sn a true rfl (dP .sn .sn) hR
  | an=>exact mL .an a false rfl (dP .an .sn) hR
  | sa=>exact off hR rfl
  | aa=>exact low hR rfl
 | bi k a b=>
  cases k with
  | and=>simp [Sn.tm,Sn.w,B4.w,Wr.ofS,Wr.ofA] at ht
  | or=>simp [Sn.tm,Sn.w,B4.w,Wr.ofS,Wr.ofA] at ht
  | su=>exact low hR rfl
  | au=>exact off hR rfl
theorem xB {w:Wd} {s:Sn} {rk:List (Option Nat)}:dE (tu w s rk)=.list ((List.range w.n).map fun x=>rm ((jK w s rk x++w.stp x).getD 0 0)):=by
 unfold tu;simp only [dE,map_map]
 rfl
theorem low_iff {a b:Option Nat}:jk a b=true↔∃i k,a=some i/\b=some k/\i<k:=by
 cases a with
 | none=>simp [jk]
 | some i=>cases b with
  | none=>simp [jk]
  | some k=>simp [jk]
theorem mP {w:Wd} {thr goal:List Nat} {rk:List (Option Nat)} (H:Right w true thr goal rk) {s:Sn} (hs:∀x,jK w s rk x=rV w rk x):∀y k,y<w.n->bc rk y=some k->y∉goal->y∈thr/\∃t,bc (tu w s rk) y=some t/\∃j,bc rk t=some j/\j<k:=fun y k hy ek hg=>by
 obtain ⟨h1,h2,h3⟩:=H.p y k hy hg ek;obtain ⟨t,ht,j,hj,hjk⟩:=led_t.mp h3;have hm:t∈jK w s rk y:=by
  rw [hs];exact List.mem_filter.mpr ⟨ht,low_iff.mpr ⟨j,k,hj,ek,hjk⟩⟩
 obtain ⟨u,e1,e2⟩:=GU hy (ne_nil_of_mem hm);rw [hs] at e2;obtain ⟨i,k',e3,e4,e5⟩:=low_iff.mp (List.mem_filter.mp e2).2;rw [ek] at e4
 cases e4;exact ⟨h2,u,e1,i,e3,e5⟩
theorem mB {w:Wd} {thr goal:List Nat} {rk:List (Option Nat)} (H:Right w false thr goal rk) {s:Sn} (hs:∀x,jK w s rk x=(w.stp x).filter fun t=>(bc rk t).isNone):∀y,y<w.n->bc rk y=none->y∉goal/\(y∉thr\/∃t,bc (tu w s rk) y=some t/\bc rk t=none):=fun y hy ek=>by
 obtain ⟨h1,h2⟩:=H.z y hy ek;refine ⟨h1,h2.imp id fun h3=>?_⟩
 have:∃t∈w.stp y,bc rk t=none:=Classical.byContradiction fun z=>h3 (led_f.mpr fun t ht e=>z ⟨t,ht,e⟩)
 obtain ⟨t,ht,et⟩:=this;have hm:t∈jK w s rk y:=by
  rw [hs];exact List.mem_filter.mpr ⟨ht,by rw [et];rfl⟩
 obtain ⟨u,e1,e2⟩:=GU hy (ne_nil_of_mem hm);rw [hs] at e2;exact ⟨u,e1,Option.isNone_iff_eq_none.mp (List.mem_filter.mp e2).2⟩
theorem shown {w:Wd} (ok:w.Ok) {s:Sn} (ht:s.tm=true) {D:D} (hk:wI w s D) {r:Nat} (hr:r<w.n) (hh:(aK w s).contains r=s.w.ofS):∃rk,rk.length=w.n/\Gy s rk D/\∀F R,Lasso w.n (tu w s rk) r F R->wC w s F R=s.w.ofS:=by
 rw [lp hr] at hh;have nmem:∀(a:Sn) x,x<w.n->(x∈(List.range w.n).filter (fun t=>!(aK w a).contains t)↔x∉aK w a):=fun a x hx=>by simp [hx]
 have yes:s.w.ofS=true->dJ w s r:=fun e=>satB_iff.mp (hh.trans e)
 have no:s.w.ofS=false->¬dJ w s r:=fun e z=>by rw [satB_iff.mpr z,e] at hh;cases hh
 cases s with
 | yes=>simp [Sn.tm,Sn.w,Wr.ofS,Wr.ofA] at ht
 | mk c=>simp [Sn.tm,Sn.w,Wr.ofS,Wr.ofA] at ht
 | bi k a b=>
  cases k with
  | and=>simp [Sn.tm,Sn.w,B4.w,Wr.ofS,Wr.ofA] at ht
  | or=>simp [Sn.tm,Sn.w,B4.w,Wr.ofS,Wr.ofA] at ht
  | su=>
   obtain ⟨rk,e,H,hs⟩:=GO ok (s:=.bi .su a b) hk hr
   exact ⟨rk,H.len,e,fun F R L=>L.down (hs.mp (yes rfl)) (mP H fun _=>rfl)⟩
  | au=>
   obtain ⟨rk,e,H,hs⟩:=GO ok (s:=.bi .au a b) hk hr
   refine ⟨rk,H.len,e,fun F R L=>L.off ?_ (mB H fun _=>rfl)⟩
   exact Classical.byContradiction fun z=>no rfl (hs.mpr z)
 | un k a=>
  cases k with
  | not=>simp [Sn.tm,Sn.w,U5.w,Wr.ofS,Wr.ofA] at ht
  | sa=>
   obtain ⟨rk,e,H,hs⟩:=GO ok (s:=.un .sa a) hk hr
   refine ⟨rk,H.len,e,fun F R L=>?_⟩
   have h0:bc rk r=none:=hs.mp (yes rfl)
   have q:=qk (Q:=fun x=>bc rk x=none) (Hl L.fc) (fun x hx t et qx=>by
    rcases (mB H (s:=.un .sa a) (fun _=>rfl) x (L.lt x hx) qx).2 with z | ⟨u,e1,e2⟩
    ·exact absurd (List.mem_range.mpr (L.lt x hx)) z
    ·rw [et] at e1
     cases e1;exact e2) fun b hb=>by
      rw [L.hd] at hb
      cases hb;exact h0
   show ((F++R).all fun t=>(aK w a).contains t)=true
   rw [all_eq_true];intro x hx;have:=(H.z x (L.lt x hx) (q x hx)).1
   rw [nmem a x (L.lt x hx)] at this;rw [contains_iff_mem];exact Classical.byContradiction this
  | aa=>
   obtain ⟨rk,e,H,hs⟩:=GO ok (s:=.un .aa a) hk hr
   refine ⟨rk,H.len,e,fun F R L=>?_⟩
   have h0:bc rk r≠none:=fun z=>no rfl (hs.mpr z)
   have d:=L.down h0 (mP H (s:=.un .aa a) fun _=>rfl)
   show ((F++R).all fun t=>(aK w a).contains t)=false
   cases q:(F++R).all fun t=>(aK w a).contains t with
   | false=>rfl
   | true=>
    exfalso
    rw [uo fun x hx=>by
     have:=List.all_eq_true.mp q x hx
     rw [contains_iff_mem] at this;rw [Bool.eq_false_iff,ne_eq,contains_iff_mem,nmem a x (L.lt x hx)];exact fun z=>z this] at d
    cases d
  | sn=>
   refine ⟨List.replicate w.n none,by simp,hk,fun F R L=>?_⟩
   obtain ⟨t,ht1,ht2⟩:=(yes rfl:∃t∈w.stp r,dJ w a t)
   have hm:t∈jK w (.un .sn a) (List.replicate w.n none) r:=List.mem_filter.mpr ⟨ht1,by
    have:t∈aK w a:=mem_rof.mpr ⟨ok.stp_lt ht1,ht2⟩
    rw [List.contains_iff_mem.mpr this];rfl⟩
   obtain ⟨u,e1,e2⟩:=GU hr (ne_nil_of_mem hm);rw [L.nx] at e1
   cases e1;have:=(List.mem_filter.mp e2).2
   show (aK w a).contains (zR F R)=true
   exact eq_of_beq this
  | an=>
   refine ⟨List.replicate w.n none,by simp,hk,fun F R L=>?_⟩
   have:∃t∈w.stp r,¬dJ w a t:=Classical.byContradiction fun z=>no rfl fun t ht=>Classical.byContradiction fun y=>z ⟨t,ht,y⟩
   obtain ⟨t,ht1,ht2⟩:=this;have hm:t∈jK w (.un .an a) (List.replicate w.n none) r:=List.mem_filter.mpr ⟨ht1,by
    have:¬t∈aK w a:=fun z=>ht2 (mem_rof.mp z).2
    rw [show (aK w a).contains t=false from by rw [Bool.eq_false_iff,ne_eq,contains_iff_mem];exact this]
    rfl⟩
   obtain ⟨u,e1,e2⟩:=GU hr (ne_nil_of_mem hm);rw [L.nx] at e1
   cases e1;have:=(List.mem_filter.mp e2).2
   show (aK w a).contains (zR F R)=false
   exact eq_of_beq this
theorem m4 {w:Wd} (ok:w.Ok) {s:Sn} (hs:s.ok) (h1:s.size<=200) (hd:s.dep<=24) (ht:s.tm=true) {r:Nat} (hr:r<w.n) (hh:(aK w s).contains r=s.w.ofS):∃F R,rS [w.enc,s.enc,rm r]=.ok ⟨.tup [.lst .leaf,.lst .leaf],wy F R⟩/\j9 w F R/\(F++R).head?=some r/\wC w s F R=s.w.ofS/\(F++R).Nodup:=by
 have h24:=ok.h24
 obtain ⟨p,ep,cp,hk⟩:=Ja ok (s:=s)
 obtain ⟨sp,D⟩:=p;simp only at hk
 obtain ⟨rk,hl,hR,sh⟩:=shown ok ht hk hr hh;obtain ⟨F,R,ea,L⟩:=oU (n:=w.n) h24 (ch:=tu w s rk) (by simp [tu]) (fun x hx=>⟨_,GS hx,ok.stp_lt (uG ok hx _ (GS hx))⟩) hr
 refine ⟨F,R,?_,L.way rfl h24 fun x hx t e=>uG ok hx t e,L.hd,sh F R L,L.nd⟩
 have rb:=Jp ok hs hk
 have cm:aA .leaf 8 (dq (ae (aS aG (ae (ai (af 0) (eK (.int 0))) ag)) ag)) aN (ai (cO (aj 5 bj (ae (af 0) (ae (af 3) (ae (af 4) (ae (af 5) (ae (af 8) ag)))))) (ai (ai (af 0) (eK (.int 2))) (af 8))) (eK (.int 0))) [L9 w.enc,L9 s.enc,L9 (rm r),L9 (.str s.w.t),L9 (cJ (s.args.map (aK w))),L9 D,none,none,none]=.ok ⟨.lst .leaf,dE (tu w s rk)⟩ [L9 w.enc,L9 s.enc,L9 (rm r),L9 (.str s.w.t),L9 (cJ (s.args.map (aK w))),L9 D,none,none,none]:=by
  rw [xB];refine lz rm (List.range w.n) (fun x=>⟨.leaf,rm ((jK w s rk x++w.stp x).getD 0 0)⟩) (st:=true) (nE (s:=.leaf) (n:=w.n) (by omega) (aD (G8 ok rfl) aq)) (by simp) rfl (by simp;omega) fun x hx=>⟨?_,rfl⟩
  have hx:=List.mem_range.mp hx
  have b1:=bV (n:=5) (Γ:=[L9 w.enc,L9 s.enc,L9 (rm r),L9 (.str s.w.t),L9 (cJ (s.args.map (aK w))),L9 D,none,none,L9 (rm x)]) (fl:=ae (af 0) (ae (af 3) (ae (af 4) (ae (af 5) (ae (af 8) ag))))) (aD (aB rfl) (aD (aB rfl) (aD (aB rfl) (aD (aB rfl) (aD (aB rfl) aq))))) (m5 ok ht hl hR hx) rfl rfl
  have b2:=AJ ok (Γ:=[L9 w.enc,L9 s.enc,L9 (rm r),L9 (.str s.w.t),L9 (cJ (s.args.map (aK w))),L9 D,none,none,L9 (rm x)]) (i:=0) (fb:=af 8) rfl (aB rfl) hx
  have l1:(jK w s rk x).length<=(w.stp x).length:=by
   unfold jK;split<;>exact length_filter_le _ _
  have l2:(w.stp x).length<=30:=by
   unfold Wd.stp;rw [LW,LV (by rw [ok.ls];exact hx)]
   exact (ok.st _ (getElem_mem _)).2.1
  have c:=ic b1 b2 rfl rfl (by simp;omega)
  rw [<-List.map_append] at c;have hne:jK w s rk x++w.stp x≠[]:=fun z=>ok.stp_ne hx (List.append_eq_nil_iff.mp z).2
  refine sY (j:=0) c aQ (Ar (k:=0) (by rw [length_map];exact List.length_pos_iff.mpr hne)) ?_ rfl
  rw [getElem?_map,LW,LV (List.length_pos_iff.mpr hne)];rfl
 have tst:aL ao (ay eC (ay (bf false) (af 2) (aj 4 bU (ae (af 0) (ae (af 1) (ae (af 4) (ae (af 5) ag)))))) (ay (bf false) (af 3) (eK bO))) [L9 w.enc,L9 s.enc,L9 (rm r),L9 (.str s.w.t),L9 (cJ (s.args.map (aK w))),L9 D,none,none,none]=.ok false [L9 w.enc,L9 s.enc,L9 (rm r),L9 (.str s.w.t),L9 (cJ (s.args.map (aK w))),L9 D,none,none,none]:=by
  have:=cC (s:=.leaf) (aJ (g:=eC) (aJ (g:=bf false) (fa:=af 2) (Γ:=[L9 w.enc,L9 s.enc,L9 (rm r),L9 (.str s.w.t),L9 (cJ (s.args.map (aK w))),L9 D,none,none,none]) (aB (d:=rm r) rfl) (bV (n:=4) (fl:=ae (af 0) (ae (af 1) (ae (af 4) (ae (af 5) ag)))) (aD (aB rfl) (aD (aB rfl) (aD (aB rfl) (aD (aB rfl) aq)))) rb rfl rfl) jx) (aJ (fa:=af 3) (aB rfl) aQ (vG s.w)) ne_bool)
  rw [hh,bne_self_eq_false] at this;exact this
 refine aR ?_
 refine az (AE (bV (aD (aB rfl) aq) ok.check rfl rfl)) ?_
 refine az (AE (bV (aD (aB rfl) aq) (eV hs h1 hd ht) rfl rfl)) ?_
 refine az (AE (bV (aD (aB rfl) (aD (aB rfl) aq)) (den_check_room ok hr) rfl rfl)) ?_
 refine az (b6 (lK (s:=s) rfl) rfl (by simp [aZ])) ?_
 refine az (b6 (ir ok hs hd rfl rfl (by simp [aZ]) (by omega)) rfl (by simp [aZ])) ?_
 refine az (b6 (bV (aD (aB rfl) (aD (aB rfl) (aD (aB rfl) aq))) ep rfl rfl) cp (by simp [aZ])) ?_
 refine az (bu tst nofun fun _=>rfl) ?_
 refine az (b6 cm rfl (by simp)) ?_
 exact br (bV (aD (aB rfl) (aD (aB rfl) aq)) ea rfl rfl) rfl
end KC
namespace T
open PySem PySem.Spec L2
open PyProof.Rows hiding St
theorem rJ {P:Program} {w:World} {H:Hp} {h:Heap} {a:Addr} {o:HO} (x:ObjOk P w H h a o):∃u,h.get? a=some u:=by
 cases o with
 | lst xs=>obtain ⟨_,_,_,_,e⟩:=x;exact ⟨_,e⟩
 | tup xs=>obtain ⟨_,_,_,_,e,_⟩:=x;exact ⟨_,e⟩
 | dK kvs=>obtain ⟨_,_,_,_,o,_,_,e,_⟩:=x;exact ⟨_,e⟩
 | dT kvs=>obtain ⟨_,_,_,_,o,_,_,e,_⟩:=x;exact ⟨_,e⟩
 | set S n=>obtain ⟨o,_,_,_,e,_⟩:=x;exact ⟨_,e⟩
 | ins C dx fs=>obtain ⟨_,_,_,e,_⟩:=x;exact ⟨_,e⟩
 | own y=>obtain ⟨_,e⟩:=x;exact ⟨_,e⟩
 | xd fs=>obtain ⟨_,⟨_,_,_,e,_⟩,_⟩:=x;exact ⟨_,e⟩
 | rng lo hi=>obtain ⟨_,_,_,e⟩:=x;exact ⟨_,e⟩
 | frz ob u=>obtain ⟨e,_⟩:=x;exact ⟨_,e⟩
 | tbl ps=>exact ⟨_,show h.get? a=some _ from x⟩
 | met f y=>exact ⟨_,show h.get? a=some _ from x⟩
 | ext φ=>obtain ⟨_,⟨_,e⟩,_⟩:=x;exact ⟨_,e⟩
structure DI (P:Program) (w:World) (outer:List Env) (H:Hp) (s:Shared) (H':Hp) (C a:Addr) (s':Shared):Prop where
 os:s'.os=s.os
 bare:AllBare s'.gens
 un:Un (gw outer) [] H H' s.heap s'.heap
 hok:HOk P w H' s'.heap
 fly:∃B a0,Heap.FlyingW B outer a (.ref C) a0 s'.heap/\(∀b o,H' b=some o->∃u,B.get? b=some u)/\(∀b o,s.heap.get? b=some o->b∉gw outer->∃u,B.get? b=some u)
def tJ (P:Program) (w:World):qE:=fun outer H s E e s'=>∃a C H',e=.ref a/\DI P w outer H s H' C a s'/\E (.ref C) none H'
section
variable {X:Cx} {pins:List (Addr×Obj)} {σ:St} {H H':Hp} {s s':Shared} {B h2:Heap} {C a:Addr} {a0:Value} {E:XK}
theorem vY (I:Inv X pins σ H s) (hex:X.ex=[]) (hst:X.stack=X.env::X.outer) (hf:X.env.frame=some X.env.locals)
  (un:Un (gw X.stack) [] H H' s.heap h2) (hok:HOk X.prog X.w H' h2) (st:B.StaysIn h2) (c1:∀b o,H' b=some o->∃u,B.get? b=some u) (c2:∀b o,s.heap.get? b=some o->b∉gw X.stack->∃u,B.get? b=some u)
  (ff:h2.FunFrames B X.stack) (fl:Heap.FlyingW B X.outer a (.ref C) a0 s'.heap) (up:h2.UpToSlots s'.heap) (os:s'.os=s.os) (bare:AllBare s'.gens):DI X.prog X.w X.outer X.H₀ X.s₀ H' C a s':=by
 have hfs:gw X.stack=X.env.locals::X.fs:=by
  rw [hst];show List.filterMap _ _=_
  rw [filterMap_cons,hf];rfl
 have hx:∀b:Addr,b∉X.ex:=fun b=>by rw [hex];exact nofun
 have hn:∀b:Addr,b∉([]:List Addr):=fun b z=>nomatch z
 have old:∀b o,X.s₀.heap.get? b=some o->b∉X.fs->b∉gw X.stack:=fun b o q hb z=>by
  rw [hfs] at z;rcases LU z with z | z
  ·have l1:=Heap.lt_size q
   have l2:=I.ok.above
   rw [<-z] at l2;exact absurd l1 (Nat.not_lt.mpr l2)
  ·exact hb z
 have keepB:∀b o u,B.get? b=some u->h2.get? b=some o->s'.heap.get? b=some o:=fun b o u e1 e2=>by
  have e3:=st b u e1
  rw [e2] at e3
  cases e3;exact fl.1 b o e1
 have ffo:=fl.2.2.1
 refine ⟨os.trans I.os,bare,⟨fun b o q n hb _=>?_,fun b o q n hb _=>?_,fun b o q n _=>?_,fun b o q _=>?_,fun b xs q=>un.tups b xs (I.base.tups b xs q),fun b o u q=>un.frzs b o u (I.base.frzs b o u q),fun b ps q=>?_⟩,fun b o e=>?_,B,a0,fl,c1,fun b o q hb=>?_⟩
 ·have q1:=I.base.keep b o q n hb (hx b)
  have n1:=I.base.free b o q n (hx b)
  have hb':=old b o q hb
  obtain ⟨u,e⟩:=c2 b o q1 hb'
  exact keepB b o u e (un.keep b o q1 n1 hb' (hn b))
 ·obtain ⟨sl,q1⟩:=I.base.slot b o q n hb (hx b)
  have n1:=I.base.free b o q n (hx b)
  have hb':b∈gw X.stack:=by rw [hfs];exact LX _ hb
  obtain ⟨sl2,q2⟩:=un.slot b _ q1 n1 hb' (hn b)
  obtain ⟨_,o',e,d⟩:=ff.mem hb'
  rw [q2] at e
  cases e;obtain ⟨sl3,q3⟩:=up b _ q2 d;exact ⟨sl3,q3⟩
 ·obtain ⟨o1,q1⟩:=I.base.there b o q (hx b)
  exact un.free b o1 q1 (I.base.free b o q n (hx b)) (hn b)
 ·obtain ⟨o1,q1⟩:=I.base.there b o q (hx b)
  by_cases hb:b∈X.fs
  ·obtain ⟨_,o',e,_⟩:=ffo.mem hb
   exact ⟨o',e⟩
  ·obtain ⟨u,e⟩:=c2 b o1 q1 (old b o q hb)
   exact ⟨u,fl.1 b u e⟩
 ·obtain ⟨m1,e1⟩:=I.base.tbls b ps q
  obtain ⟨m2,e2⟩:=un.tbls b _ e1;exact ⟨m1++m2,by rw [e2,Array.append_assoc]⟩
 ·refine (hok b o e).stay (fun c u hc q=>?_) (fun _ q=>q) fun _ _ q=>q
  have hc':∃o',H' c=some o':=by
   rcases hc with z | z
   ·exact ⟨o,by rw [z];exact e⟩
   ·exact ⟨_,z⟩
  obtain ⟨o',z⟩:=hc'
  obtain ⟨v,e1⟩:=c1 c o' z
  exact keepB c u v e1 q
 ·obtain ⟨o1,q1⟩:=I.base.there b o q (hx b)
  exact c2 b o1 q1 (old b o q hb)
theorem Dk {M:Model} {A:Around} {E2:Value->Shared->Prop} {Q:Unit->Shared->Prop} (I:Inv X pins σ H s) (hex:X.ex=[]) (hst:X.stack=X.env::X.outer) (hf:X.env.frame=some X.env.locals) (hA:A.frames=some X.stack) (f:DI X.prog X.w X.stack H s H' C a s')
  (hQ:∀h',DI X.prog X.w X.outer X.H₀ X.s₀ H' C a { s' with heap:=h' }->Q () { s' with heap:=h' }):wpAny M A (leaving X.env (.ref a)) Q E2 s':=by
 obtain ⟨os,bare,un,hok,B,a0,fl,c1,c2⟩:=f;refine wpAny_leaves_onW (by rw [hA,hst]) hf (by rw [<-hst];exact fl) fun h' fl' up=>hQ h' ?_
 exact vY (s':={ s' with heap:=h' }) I hex hst hf un hok fl.1 c1 c2 fl.2.2.1 fl' up os bare
theorem vZ {M:Model} {A:Around} {E2:Value->Shared->Prop} {Q:Unit->Shared->Prop} {h1:Heap} {args:List Value} (I:Inv X pins σ H s) (hex:X.ex=[]) (hst:X.stack=X.env::X.outer) (hf:X.env.frame=some X.env.locals) (hA:A.frames=some X.stack)
  (hx:Heap.MadeExcOf s.heap h1 a (.ref C) args) (hQ:∀h',DI X.prog X.w X.outer X.H₀ X.s₀ H C a { s with heap:=h' }->Q () { s with heap:=h' }):wpAny M A (leaving X.env (.ref a)) Q E2 { s with heap:=h1 }:=by
 have ff:s.heap.FunFrames (PySem.W.hideAll s.heap (gw X.stack)) X.stack:=PySem.W.funFrames_hide I.stack fun env he b hb=>List.mem_filterMap.mpr ⟨env,he,hb⟩
 refine wpAny_leaves_madeW (base:=PySem.W.hideAll s.heap (gw X.stack)) (h:=s.heap) (env:=X.env) (outer:=X.outer) (by rw [hA,hst]) hf (fun b o q=>PySem.W.of_hideAll _ q) (by rw [<-hst];exact ff) hx fun h' t fl _ _ up=>hQ h' ?_
 refine vY (h2:=s.heap) (s':={ s with heap:=h' }) I hex hst hf (Un.kept fun b o q=>q) I.hok (fun b o q=>PySem.W.of_hideAll _ q) (fun b o e=>?_) (fun b o q hb=>⟨o,PySem.W.hideAll_get _ q hb⟩) ff fl ((Heap.UpToSlots.of_keeps hx.keeps).trans up) rfl I.bare
 by_cases hb:b∈gw X.stack
 ·have:=I.stkFree b hb
  rw [this] at e
  cases e
 ·obtain ⟨u,hu⟩:∃u,s.heap.get? b=some u:=by
   exact rJ (I.hok b o e)
  exact ⟨u,PySem.W.hideAll_get _ hu hb⟩
end
theorem FD {P:Program} {w:World} {K:Fg} {mg:Str->Option Value} {base:Heap} {N:List Str} {qual:Str} {sc:Scope} {f:Addr} {cd:Value} {A:Around} {outer:List Env} {s:Shared} {H:Hp} {E E':XK}
  (h:∀u d H',E' u d H'->E u d H'):GI (tJ P w) (fm (tJ P w) P w K mg base N qual sc f cd A outer s H E) E':=by
 intro pins σ H1 s1 e s2 I h2;obtain ⟨a,C,H',rfl,fl,hE⟩:=h2;exact Dk I rfl rfl rfl I.ok.frames fl fun h' fl'=>⟨a,C,H',rfl,fl',h _ _ _ hE⟩
def Makes (X:Cx) (E:XK):Prop:=∀(pins:List (Addr×Obj)) (σ:St) (H:Hp) (s:Shared) (h1:Heap) (a C:Addr) (args:List Value),Inv X pins σ H s->Heap.MadeExcOf s.heap h1 a (.ref C) args->E (.ref C) none H->X.xe (.ref a) { s with heap:=h1 }
theorem CJ {P:Program} {w:World} {K:Fg} {mg:Str->Option Value} {base:Heap} {N:List Str} {qual:Str} {sc:Scope} {f:Addr} {cd:Value} {A:Around} {outer:List Env} {s:Shared} {H:Hp} {E E':XK}
  (h:∀u d H',E' u d H'->E u d H'):Makes (fm (tJ P w) P w K mg base N qual sc f cd A outer s H E) E':=by
 intro pins σ H1 s1 h1 a C args I hx hE;exact vZ I rfl rfl rfl I.ok.frames hx fun h' fl=>⟨a,C,H1,rfl,fl,h _ _ _ hE⟩
section
variable {X:Cx} {x:Str} {C:Addr} {B Bn newId nid initId inN:String} {bm bmN:List Value} {np cpos pos:Pos} {e:Expr} {es:List Expr} {t:TA} {E:XK}
def Bg (C:Addr) (E:XK) (t:TA):TS:=fun _ σ H=>t σ H fun vs H1=>vs.length<=sizeLine/\E (.ref C) none H1
theorem va (hc:X.calm=true) (O:OwnCls x C bm newId X.mg X.base) (Fn:ExcBaseFacts Bn newId inN bmN) (hBn:bm.contains (.type Bn)=true) (FB:ExcBaseFacts B nid initId bm) (hg:Gl X x) (hM:Makes X E) (ha:PA X (e::es) t)
  (he:starEach (e::es) X.env=(false,eval e X.env)::starEach es X.env:=by rfl) (hplain:(backTo cpos (starEach es X.env)).any (·.1)=false:=by rfl) (hd:(x==("__debug__":Str))=false:=by decide) :
  PS X (.Raise (some (.Call (.Name x np) (e::es) [] cpos)) none pos) (Bg C E t):=by
 intro pins s σ H D I h;obtain ⟨tl,N,nm,q,bs,hdct,sn,sub,ab,col,dd,k0,k1,k2,k3,k5,mN,hC,hN,hni,T⟩:=O.obj;refine wpAny_Raise_call_subU (C:=C) (nm:=nm) (q:=q) (N:=N) (bs:=bs) (bm:=tl) (hdct:=hdct) (sn:=sn) (sub:=sub) (ab:=ab) (col:=col) (dd:=dd) (k0:=k0) (k1:=k1) (k2:=k2) (k3:=k3) (k5:=k5)
  Fn hBn FB (mN:=mN) (T.hasType FB.hasBase) (I.ok.hd hc) (by rw [he];show (false||(backTo cpos (starEach es X.env)).any (·.1))=false;rw [hplain];rfl) hni (AB I hg O.bound ⟨rfl,?_⟩ hd)
 have h2:=ha cpos pins s σ H _ I h
 rw [he] at h2 ⊢;refine Calls.evalArgs_plain (wpAny_mono h2 (fun vs s₂ h₂=>?_) fun _ _ y=>y)
 obtain ⟨ws,H1,I1,r,hl,hE⟩:=h₂;exact ⟨rfl,by rw [<-r.length];exact hl,I1.bk _ _ hC,hN.keeps I1.bk,T.keeps I1.bk,fun h' a hx=>hM pins σ H1 s₂ h' a C vs I1 hx hE⟩
end
def GW (CX:qE) (X:Cx) (EE:St->XK):Prop:=∀(pins:List (Addr×Obj)) (σ:St) (H:Hp) (s:Shared) (e:Value) (s':Shared),Inv X pins σ H s->CX X.stack H s (EE σ) e s'->X.xe e s'
def uB (sp:Sp) (EE:St->XK) (t:TA):TE:=fun σ H Q=>t σ H fun vs H1=>sp vs H1 Q (EE σ)
section
variable {X:Cx} {CX:qE} {k:Nat} {f:Addr} {fd:FuncData} {ps:List Str} {sp:Sp} {EE:St->XK} {x:Str} {p pos:Pos} {e:Expr} {es:List Expr} {t:TA}
theorem xx {pins:List (Addr×Obj)} {σ:St} {H:Hp} {s:Shared} {Q:VK} {us:List Value} {vs:List V} (F:dH X.prog X.w X.K X.mg X.base CX k f fd ps sp) (hr:Room k X.A) (hb:Binds X.K fd ps []) (hx:GW CX X EE)
  (I:Inv X pins σ H s) (r:Vals vs us) (h:sp vs H Q (EE σ)):wpAny (model X.prog X.w) X.A (call (.ref f) us) (EP X pins σ Q) X.xe s:=by
 have hl:us.length=ps.length:=by rw [<-r.length];exact F.len _ _ _ _ h
 have hb2:=hb s us I.kIn (by rw [append_nil];exact hl)
 rw [append_nil] at hb2;refine wpAny_call (codeAny_mono (F.run X.A X.stack s H ⟨us,[]⟩ us vs Q (EE σ) hr I.env0 hb2 r h) fun r s' hq=>?_)
 cases r with
 | error e=>exact hx pins σ H s e s' I hq
 | ok fl=>
  cases fl with
  | ret u=>exact I.after hq
  | next=>exact False.elim hq
  | brk=>exact False.elim hq
  | cont=>exact False.elim hq
theorem vh (F:dH X.prog X.w X.K X.mg X.base CX k f fd ps sp) (hr:Room k X.A) (hg:Gl X x) (hm:X.mg x=some (.ref f)) (hk:PySem.W.keepIn X.K (.ref f)=true) (hb:Binds X.K fd ps []) (hx:GW CX X EE)
  (ha:PA X (e::es) t) (hdb:(x==("__debug__":Str))=false:=by decide) (he:starEach (e::es) X.env=(false,eval e X.env)::starEach es X.env:=by rfl) (hpl:(backTo pos (starEach es X.env)).any (·.1)=false:=by rfl) :
  PE X (.Call (.Name x p) (e::es) [] pos) (uB sp EE t):=by
 intro pins s σ H Q I h;refine wpAny_Call_Name_kw (AB I hg hm ?_ hdb)
 refine PySem.W.callWith_K (h₀:=X.base) I.ok.mod.kin hk (bK (ha pos pins s σ H _ I h) fun us s1 ⟨vs,H1,I1,r,q⟩=>⟨I1.kIn,?_⟩) he hpl
 exact xx F hr hb hx I1 r q
end
def eQ (X:Cx) (pins:List (Addr×Obj)) (W:Addr->St->Hp->Prop):Cx:=
 { X with pn:=X.pn++pins,xe:=fun e s'=>∃(ps:List (Addr×Obj)) (σ:St) (H H':Hp) (s:Shared) (a C:Addr),e=.ref a/\Inv X (pins++ps) σ H s/\DI X.prog X.w X.stack H s H' C a s'/\W C σ H' }
section
variable {X:Cx} {pins ps:List (Addr×Obj)} {W:Addr->St->Hp->Prop} {σ:St} {H:Hp} {s:Shared}
theorem vL (ok:X.Ok):(eQ X pins W).Ok:=⟨ok.mod,ok.kind,ok.glob,ok.blt,ok.above,ok.inj,ok.has,ok.cab,ok.hd,ok.frames,ok.stk,ok.exf,ok.bs,ok.bsz,ok.noex,ok.exfs,ok.funs,ok.frf⟩
theorem vJ (ok:(eQ X pins W).Ok):X.Ok:=⟨ok.mod,ok.kind,ok.glob,ok.blt,ok.above,ok.inj,ok.has,ok.cab,ok.hd,ok.frames,ok.stk,ok.exf,ok.bs,ok.bsz,ok.noex,ok.exfs,ok.funs,ok.frf⟩
theorem vK (I:Inv X (pins++ps) σ H s):Inv (eQ X pins W) ps σ H s:=⟨vL I.ok,I.os,I.bare,I.base,I.loc,I.cell,I.free,I.freeC,fun p hp=>I.pin p (by rw [<-append_assoc];exact hp),I.hok,I.len⟩
theorem mU (I:Inv (eQ X pins W) ps σ H s):Inv X (pins++ps) σ H s:=⟨vJ I.ok,I.os,I.bare,I.base,I.loc,I.cell,I.free,I.freeC,fun p hp=>I.pin p (by rw [<-append_assoc] at hp;exact hp),I.hok,I.len⟩
theorem Inv.less (I:Inv X (pins++ps) σ H s):Inv X pins σ H s:=⟨I.ok,I.os,I.bare,I.base,I.loc,I.cell,I.free,I.freeC,fun p hp=>I.pin p (by rw [<-append_assoc];exact LQ _ hp),I.hok,I.len⟩
theorem kJ:GW (tJ X.prog X.w) (eQ X pins W) fun σ=>fun u _ H'=>∃C,u=.ref C/\W C σ H':=by
 intro qs σ H s e s' I h
 obtain ⟨a,C,H',rfl,fl,C',hC,hW⟩:=h
 cases hC;exact ⟨qs,σ,H,H',s,a,C,rfl,mU I,fl,hW⟩
end
end T
namespace T
open PySem
def Rs (xs:Array Nat):Prop:=xs.toList.Pairwise (· < ·)
structure Tb (b:Bool) (t:SetTable):Prop where
 led:b=false->t.led=true
 rs:Rs t.place
 nd:t.dummies=#[]
open PySem.Spec L2
open PyProof.Rows hiding St
end T
namespace TQ
open PySem PySem.Spec L2 T
open PyProof.Rows hiding St
variable {X:Cx} {N gl:List Str} {vs cs ls lo gs:List Nat} {W:XW} {a b:Expr} {pos p:Pos} {fl:FL}
end TQ
namespace T
open PySem PySem.Spec L2
open PyProof.Rows hiding St
section
variable {K:Fg} {W:XW} {He H:Hp} {O:List Addr} {Fs:List (List Addr)} {σ:St} {Γ:Ev} {D:dI}
theorem EnvOk.nm {j:Nat} {x:Option V} (E:EnvOk K He O Fs H σ Γ) (hj:∀p,Γ[j]?≠some (some p)):EnvOk K He O Fs H (σ.set j x) Γ:=
 ⟨by rw [length_set];exact E.len1,E.len2,E.same,E.nd,E.inH,E.fresh,fun m p hm=>by
  have hne:j≠m:=fun z=>hj p (by rw [z];exact hm)
  obtain ⟨a,v,F,b,c,d⟩:=E.slot m p hm;exact ⟨a,v,F,by rw [getElem?_set_ne hne];exact b,c,d⟩⟩
end
section
variable {X:Cx} {N gl:List Str} {vs cs ls lo gs:List Nat} {W:XW}
structure Ap (X:Cx) (o a:Expr) (apos cpos:Pos) (epos:Pos):Prop where
 hbase:attributeBase o "append" X.env (eval o X.env)=eval o X.env
 hline:(apos.endLine==cpos.line)=true
 hfew:((backTo cpos (starEach [a] X.env)).all (fun x=>!x.1)&&(backToKw cpos (keywordEach [] X.env)).all (fun x=>x.1.isSome)&&decide ([a].length+([]:List Keyword).length+(if ([]:List Keyword).isEmpty then 0 else 1)<30))=true
 hsw:swapsWith (.Call (.Attribute o "append" apos) [a] [] cpos) none epos.line X.env=pure false
 hst:starEach [a] X.env=[(false,eval a X.env)]
end
mutual
def rz:L8->Nat
 | .none=>4
 | .bool _=>5
 | .int _=>1921
 | .str _=>20000000
 | .list xs=>2+rzL xs
 | .tuple xs=>3+rzL xs
 | .dict _=>20000000
def rzL:List L8->Nat
 | []=>0
 | x::xs=>(rz x+2)+rzL xs
end
theorem pA:∀(ts:List Str) (k:Nat) (acc:Str),(textFrom k acc ts).length<=acc.length+piled ts
 | [],k,acc=>L7 _
 | t::ts,k,acc=>by
  have h:=pA ts (k+1) (acc++(if k>0 then ", " else "":String)++t)
  rw [Str.length_append,Str.length_append] at h;have h2:(Str.ofString (if k>0 then ", " else "":String)).length<=2:=by
   split
   ·rw [PySem.ofString_length];decide
   ·rw [PySem.ofString_length];decide
  show (textFrom (k+1) (acc++(if k>0 then ", " else "":String)++t) ts).length<=_
  rw [piled_cons];omega
mutual
theorem lT:∀(d:L8),d.showable=true->rz d<17000000->d.shown.length<=rz d
 | .none,_,_=>by
  show (Str.ofString "None").length<=4
  rw [PySem.ofString_length];decide
 | .bool b,_,_=>by
  cases b
  ·show (Str.ofString (if false then "True" else "False")).length<=5
   rw [PySem.ofString_length];decide
  ·show (Str.ofString (if true then "True" else "False")).length<=5
   rw [PySem.ofString_length];decide
 | .int i,h,_=>by
  have h:i.natAbs.log2<1920:=of_decide_eq_true (by simpa [PyData.showable] using h)
  show (Str.ofString (toString i)).length<=1921
  rw [PySem.ofString_length];exact int_text_length_le (by decide) h
 | .str x,_,h=>by
  have h:(20000000:Nat)<17000000:=h
  omega
 | .dict _,_,h=>by
  have h:(20000000:Nat)<17000000:=h
  omega
 | .list xs,h,hz=>by
  have hz:2+rzL xs<17000000:=hz
  have p:=shownAll_le xs (by simpa [PyData.showable] using h) (by omega)
  show (listText (PyData.shownAll xs)).length<=2+rzL xs
  unfold listText;rw [Str.length_append];have t:=pA (PyData.shownAll xs) 0 "["
  have e1:(Str.ofString "[").length=1:=by rw [PySem.ofString_length];decide
  have e2:(Str.ofString "]").length=1:=by rw [PySem.ofString_length];decide
  omega
 | .tuple xs,h,hz=>by
  have hz:3+rzL xs<17000000:=hz
  have p:=shownAll_le xs (by simpa [PyData.showable] using h) (by omega)
  show (tupleText (PyData.shownAll xs)).length<=3+rzL xs
  unfold tupleText;rw [Str.length_append,Str.length_append];have e1:(Str.ofString "(").length=1:=by rw [PySem.ofString_length];decide
  have e2:(Str.ofString (if (PyData.shownAll xs).length==1 then ",)" else ")":String)).length<=2:=by
   split
   ·rw [PySem.ofString_length];decide
   ·rw [PySem.ofString_length];decide
  have e3:(Str.join ", " (PyData.shownAll xs)).length<=piled (PyData.shownAll xs):=by
   by_cases hn:PyData.shownAll xs=[]
   ·rw [hn];exact Nat.le_of_eq rfl
   ·have:=join_length_add _ hn
    omega
  omega
theorem shownAll_le:∀(xs:List L8),PyData.showableAll xs=true->rzL xs<17000000->piled (PyData.shownAll xs)<=rzL xs
 | [],_,_=>L7 _
 | x::xs,h,hz=>by
  have h:x.showable=true/\PyData.showableAll xs=true:=by simpa [PyData.showableAll] using h
  have hz:(rz x+2)+rzL xs<17000000:=hz
  have a:=lT x h.1 (by omega)
  have b:=shownAll_le xs h.2 (by omega)
  show piled (x.shown::PyData.shownAll xs)<=(rz x+2)+rzL xs
  rw [piled_cons];omega
end
def CU:L8->Bool
 | .list _=>true
 | .tuple _=>true
 | _=>false
def eA:List L8->Option L8
 | [d]=>if CU d&&d.canLay0&&d.showable&&decide (d.depth<=50)&&decide (rz d<=16000000) then some (.str d.shown) else none
 | _=>none
def zM (K:Fg):List V->Hp->VK->Prop:=fun xs H Q=>∃(p:Addr) (d:L8),xs=[.ref p]/\Rep K H (.ref p) d/\d.canLay0=true/\d.showable=true/\d.depth<=50/\rz d<=16000000/\Q (.str d.shown) H
theorem yB {K:Fg}:GCall K (zM K) eA:=by
 intro vs H Q ds d r e k;unfold eA at e;split at e
 case h_2=>cases e
 rename_i d0
 cases hc:(CU d0&&d0.canLay0&&d0.showable&&decide (d0.depth<=50)&&decide (rz d0<=16000000)) with
 | false=>rw [hc] at e;cases e
 | true=>
  rw [hc] at e
  cases e;simp only [Bool.and_eq_true,decide_eq_true_eq] at hc
  obtain ⟨⟨⟨⟨c1,c2⟩,c3⟩,c4⟩,c5⟩:=hc;match vs,r.1 with
  | [v],_=>
   have rv:Rep K H v d0:=r.2 0 v d0 rfl rfl
   obtain ⟨p,rfl⟩:∃p,v=.ref p:=by
    cases rv with
    | lst=>exact ⟨_,rfl⟩
    | tup=>exact ⟨_,rfl⟩
    | _=>cases c1
   exact ⟨p,d0,rfl,rv,c2,c3,c4,c5,k _ (.str _)⟩
theorem sO {X:Cx} (hr:Rm X) (hg:X.A.guards=some []):CallR X (.builtin "repr") (zM X.K):=by
 intro pins s σ H xs us Q I rv h;obtain ⟨p,d,rfl,r,c2,c3,c4,c5,q⟩:=h;obtain ⟨u,rfl,ru⟩:∃u,us=[u]/\RelV (.ref p) u:=by
  cases rv with
  | cons a b=>cases b;exact ⟨_,rfl,a⟩
 cases ru;obtain ⟨as,R⟩:=r.reads I (.ref p) rfl;have hu:X.A.units+64<cLine:=hr
 have big:(16000000:Nat)<=sizeLine:=by decide
 refine repr_of_reads' R c3 (PyData.noDict_hsm (PyData.hasDict_of_canLay d c2)) hg (by omega) (fun _ _ e=>e) (fun h' u tk hk=>?_) (by have:=lT d c3 (by omega);omega)
 exact ⟨.str d.shown,H,I.kept (t':=tk) hk,⟨u,rfl⟩,q⟩
theorem boot_repr:bootBuiltins "repr"=some (.builtin "repr"):=by decide +kernel
section
variable {X:Cx} {N gl:List Str} {vs cs ls lo gs:List Nat} {W:XW} {a:Expr} {pos p:Pos} {fa:F1}
theorem cb_repr (S:Cp X N gl vs cs ls lo gs) (hr:Rm X) (hG:X.A.guards=some []) (j:Nat) (hj:gl[j]?=some ("repr":Str)) (hg:gs.contains j=true) (hm:X.mg "repr"=none) (ha:PE X a (tE X.K W fa)) (hs:starEach [a] X.env=[(false,eval a X.env)]) (hpl:(backTo pos (starEach [] X.env)).any (·.1)=false) :
  PE X (.Call (.Name "repr" p) [a] [] pos) (tE X.K W (aS eA (ae fa ag))):=
 aY (Ex (sO hr hG) (S.g hj hg).1 hm boot_repr (da_cons ha da_nil hs) (S.g hj hg).2.2 (S.g hj hg).2.1 hs hpl) fun _ _ _=>pQ yB
end
end T
namespace TQ
open PySem PySem.Spec L2 T
open PyProof.Rows hiding St
section
variable {X:Cx} {N gl:List Str} {vs cs ls lo gs:List Nat} {W:XW} {a:Expr} {pos p:Pos} {fa:F1}
theorem jC (S:Cp X N gl vs cs ls lo gs) (hr:Rm X) (hG:X.A.guards=some []) (j:Nat) (hj:gl[j]?=some ("repr":Str)) (hg:gs.contains j=true) (hm:X.mg "repr"=none) (ha:Q (PE X a (tE X.K W fa))) (hs:starEach [a] X.env=[(false,eval a X.env)]) (hpl:(backTo pos (starEach [] X.env)).any (·.1)=false) :
  Q (PE X (.Call (.Name "repr" p) [a] [] pos) (tE X.K W (aS eA (ae fa ag)))):=⟨T.cb_repr S hr hG j hj hg hm ha.p hs hpl⟩
end
end TQ
namespace T
open PySem PySem.Spec L2
open PyProof.Rows hiding St
theorem xb (s:String):PyData.strOk (Str.ofString s)=true:=by
 unfold PyData.strOk;rw [Array.all_eq_true'];intro c hc;have:c∈(Str.ofString s).cps.toList:=by simpa using hc
 obtain ⟨d,hd,rfl⟩:∃d:Char,d∈s.toList/\d.toNat=c:=by
  rw [Str.ofString_eq_toList] at this;simpa using this
 have:=d.valid
 simp only [decide_eq_true_eq]
 show d.val.toNat<0x110000
 rcases this with h | h
 ·exact Nat.lt_trans h (by decide)
 ·exact h.2
theorem AC {a b:Str} (ha:PyData.strOk a=true) (hb:PyData.strOk b=true):PyData.strOk (a++b)=true:=by
 unfold PyData.strOk at *
 rw [Str.cps_append,Array.all_append,ha,hb];rfl
theorem my:∀(ts:List Str) (k:Nat) (acc:Str),PyData.strOk acc=true->(∀t∈ts,PyData.strOk t=true)->PyData.strOk (textFrom k acc ts)=true
 | [],k,acc,h,_=>h
 | t::ts,k,acc,h,ht=>my ts (k+1) _ (AC (AC h (xb _)) (ht t mem_cons_self)) fun x hx=>ht x (LX _ hx)
theorem mz:∀(ts:List Str),(∀t∈ts,PyData.strOk t=true)->PyData.strOk (Str.join ", " ts)=true
 | [],_=>by decide +kernel
 | [x],h=>h x mem_cons_self
 | x::y::r,h=>AC (AC (h x mem_cons_self) (xb _)) (mz (y::r) fun t ht=>h t (LX _ ht))
mutual
theorem jN:∀(d:L8),rz d<17000000->PyData.strOk d.shown=true
 | .none,_=>xb _
 | .bool b,_=>by cases b<;>exact xb _
 | .int i,_=>xb _
 | .str x,h=>by
  have h:(20000000:Nat)<17000000:=h
  omega
 | .dict _,h=>by
  have h:(20000000:Nat)<17000000:=h
  omega
 | .list xs,hz=>AC (my _ _ _ (xb _) (okS_all xs (by have hz:2+rzL xs<17000000:=hz;omega))) (xb _)
 | .tuple xs,hz=>AC (AC (xb _) (mz _ (okS_all xs (by have hz:3+rzL xs<17000000:=hz;omega)))) (xb _)
theorem okS_all:∀(xs:List L8),rzL xs<17000000->∀t∈PyData.shownAll xs,PyData.strOk t=true
 | [],_,t,ht=>nomatch ht
 | x::xs,hz,t,ht=>by
  have hz:(rz x+2)+rzL xs<17000000:=hz
  have ht:t∈x.shown::PyData.shownAll xs:=ht
  rcases LU ht with rfl | ht
  ·exact jN x (by omega)
  ·exact okS_all xs (by omega) t ht
end
def Gv (L:List Nat) (σ σ':St):Prop:=∀i∈L,σ'[i]?=σ[i]?
def nD (L:List Nat) (D:dI) (σ:St):dI:={ D with nx:=fun σ' H'=>Gv L σ σ'->D.nx σ' H' }
def tN (L:List Nat) (K:Fg) (W:XW) (g:FS):TS:=fun D σ H=>tS K W g (nD L D σ) σ H
section
variable {K:Fg} {W:XW} {σ:St} {H:Hp} {D:dI} {fa fb fk:F1} {g g1 g2:FS} {c:FB} {L:List Nat}
theorem zd {i:Nat} {x:Option V} (h:i∉L):Gv L σ (σ.set i x):=fun j hj=>getElem?_set_ne (fun z:i=j=>h (by rw [z];exact hj))
theorem yi:(nD L D σ).nx σ=D.nx σ:=funext fun _=>propext ⟨fun h=>h fun _ _=>rfl,fun h _=>h⟩
theorem Kb {R:(Hp->Prop)->Prop} (h:R ((nD L D σ).nx σ)):R (D.nx σ):=yi (L:=L) (D:=D) (σ:=σ)▸h
theorem pC {D':dI} (h:tS K W g D σ H) (h1:∀σ' H',D.nx σ' H'->D'.nx σ' H') (h2:D'.rt=D.rt) (h3:D'.bk=D.bk) (h4:D'.ct=D.ct):tS K W g D' σ H:=by
 obtain ⟨He,O,Fs,Γ,E,h⟩:=h;refine ⟨He,O,Fs,Γ,E,?_⟩
 cases e:g Γ with
 | nx Γ'=>rw [e] at h;exact fun σ' H' Fs' E'=>h1 _ _ (h σ' H' Fs' E')
 | bk Γ'=>rw [e] at h;exact fun σ' H' Fs' E'=>by rw [h3];exact h σ' H' Fs' E'
 | ct Γ'=>rw [e] at h;exact fun σ' H' Fs' E'=>by rw [h4];exact h σ' H' Fs' E'
 | rt p=>rw [e] at h;exact fun v H' G r=>by rw [h2];exact h v H' G r
 | er c Γ'=>rw [e] at h;exact h
 | no=>rw [e] at h;exact h
theorem CF {σ1:St} (h:Gv L σ σ1):nD L D σ1=nD L D σ:=by
 unfold nD;congr 1
 funext σ' H'
 have:Gv L σ1 σ'↔Gv L σ σ':=⟨fun z i hi=>(z i hi).trans (h i hi),fun z i hi=>(z i hi).trans (h i hi).symm⟩
 rw [propext this]
theorem xH (h:tN L K W (ak g1 g2) D σ H):Be (tN L K W g1) (tN L K W g2) D σ H:=by
 have h:=uO h
 refine pC (D':=nD L { D with nx:=tN L K W g2 D } σ) h (fun σ1 H1 z a=>?_) rfl rfl rfl
 show tS K W g2 (nD L D σ1) σ1 H1
 rw [CF a];exact z
theorem uQ (h:tN L K W aH D σ H):uz D σ H:=Kb (L:=L) (R:=fun P=>P H) (pM h)
theorem BE (h:tN L K W (bD c g1 g2) D σ H):Bh (tT K W c) (tN L K W g1) (tN L K W g2) D σ H:=uS h
theorem xF {own:Bool} {i:Nat} (hi:i∉L) (h:tN L K W (ax own i fa) D σ H):qU (tE K W fa) (L2.gName i) D σ H:=by
 have h:tE K W fa σ H fun v H1=>(nD L D σ).nx (σ.set i (some v)) H1:=GN h
 have e:(fun v H1=>(nD L D σ).nx (σ.set i (some v)) H1)=fun v H1=>D.nx (σ.set i (some v)) H1:=funext fun v=>funext fun H1=>propext ⟨fun z=>z (zd hi),fun z _=>z⟩
 rw [e] at h;exact h
end
structure Kx (K:Fg) (He:Hp) (O:List Addr) (ss:List Sh) (vs:List V) (ds:List L8) (H:Hp) (Gs:List (List Addr)):Prop where
 same:Same He H
 lg:Gs.length=ss.length
 ld:ds.length=ss.length
 nd:Gs.flatten.Nodup
 inH:∀a∈Gs.flatten,H a≠none
 fresh:∀a∈Gs.flatten,He a=none
 own:∀(i:Nat) v d G s,vs[i]?=some v->ds[i]?=some d->Gs[i]?=some G->ss[i]?=some s->Own K (Gs.flatten++O) H s G v d
abbrev DK (x:Str) (s:Stmt) (ps:List Str) (us:List Value):Prop:=∀(kV doc pm:Value) (an:Option Addr) (cdv ct:Value),bindArgs (PySem.W.fnOf x x (DT s) (qJ s) (hJ s) .none kV doc pm an cdv ct) ⟨us,[]⟩=pure (ps.zip us)
abbrev sX (x:Str) (s:Stmt) (ps:List Str):Prop:=∀us:List Value,us.length=ps.length->DK x s ps us
section
variable {x:Str} {s:Stmt} {p1 p2 p3 p4 p5 p6:Str}
theorem o8 (h:∀a,DK x s [p1] [a]:=by exact fun _ _ _ _ _ _ _=>rfl):sX x s [p1]:=fun us hl=>match us,hl with | [_],_=>h _
theorem qy (h:∀a b,DK x s [p1,p2] [a,b]:=by exact fun _ _ _ _ _ _ _ _=>rfl):sX x s [p1,p2]:=fun us hl=>match us,hl with | [_,_],_=>h _ _
theorem w6 (h:∀a b c,DK x s [p1,p2,p3] [a,b,c]:=by exact fun _ _ _ _ _ _ _ _ _=>rfl):sX x s [p1,p2,p3]:=fun us hl=>match us,hl with | [_,_,_],_=>h _ _ _
theorem HX (h:∀a b c d,DK x s [p1,p2,p3,p4] [a,b,c,d]:=by exact fun _ _ _ _ _ _ _ _ _ _=>rfl):sX x s [p1,p2,p3,p4]:=fun us hl=>match us,hl with | [_,_,_,_],_=>h _ _ _ _
theorem Li (h:∀a b c d e,DK x s [p1,p2,p3,p4,p5] [a,b,c,d,e]:=by exact fun _ _ _ _ _ _ _ _ _ _ _=>rfl):sX x s [p1,p2,p3,p4,p5]:=fun us hl=>match us,hl with | [_,_,_,_,_],_=>h _ _ _ _ _
end
def Ft (K:Fg) (mg:Str->Option Value) (n:Str) (s:Stmt):Prop:=∃f fd,mg n=some (.ref f)/\Fun K n n s f fd
theorem ft {K:Fg} {h:Heap} {mg:Str->Option Value} {n:Str} {s:Stmt} {f:Addr} {od an:Option Addr} {sl:Array (Option Value)} {oc kV dc pm cd ct:Value} (X:K.In h) (G:h.Ns mainGlobals mg) (a:PySem.W.nsIn K mainGlobals n=some (some (.ref f))) (l:K.lookup f=some ⟨oc,od,.func (PySem.W.fnOf n n (DT s) (qJ s) (hJ s) .none kV dc pm an cd ct),sl⟩) (c:PySem.W.codeIn K cd n=true) (k:PySem.W.keepIn K (.ref f)=true):Ft K mg n s:=⟨f,_,PySem.W.mg_of X G a,Di (st:=s) l c k⟩
theorem Ei {K:Fg} {x:Str} {st:Stmt} {f:Addr} {fd:FuncData} {ps:List Str} (F:Fun K x x st f fd) (b:sX x st ps):Binds K fd ps []:=F.binds fun kV doc pm an cdv ct us hl=>b us hl kV doc pm an cdv ct
def oz (vs cs:List Nat):List Nat:=vs.filter fun i=>!cs.contains i
def fB (N gl ps:List Str) (vs cs gs:List Nat) (s:Stmt):Bool:=wu N gl vs cs vs (oz vs cs) gs (hJ s)&&D5 N gl&&(!(hJ s).isCoroutine&&!(hJ s).isGenerator&&decide (N.take ps.length=ps)&&(ps.all fun x=>zh (hJ s) [.local,.cell] (some x))&&((hJ s).names.all fun y=>!decide (y.2=.free)))
theorem ql {N gl ps:List Str} {vs cs gs:List Nat} {s:Stmt} (h:fB N gl ps vs cs gs s=true):wu N gl vs cs vs (oz vs cs) gs (hJ s)=true/\D5 N gl=true/\d6 N ps (hJ s):=by
 unfold fB at h;simp only [Bool.and_eq_true,decide_eq_true_eq,all_eq_true,Bool.not_eq_true',decide_eq_false_iff_not] at h
 obtain ⟨⟨h1,h2⟩,⟨⟨⟨h3,h4⟩,h5⟩,h6⟩,h7⟩:=h;refine ⟨h1,h2,(Ej h1).kind,h3,h4,(GM h2).1,h5,fun x hx=>?_,h7⟩
 obtain ⟨k,hk,q⟩:=DZ (h6 x hx);simp only [mem_cons,not_mem_nil,or_false] at hk
 rcases hk with rfl | rfl
 ·exact .inl q
 ·exact .inr q
structure In (p:Fg->(Str->Option Value)->Prop) (X:Cx) (P:Program) (w:World) (K:Fg) (mg:Str->Option Value) (base:Heap) (k:Nat):Prop where
 e1:X.prog=P
 e2:X.w=w
 e3:X.K=K
 e4:X.mg=mg
 e5:X.base=base
 rm:Room k X.A
 pp:p K mg
section
variable {p:Fg->(Str->Option Value)->Prop} {X Y:Cx} {P:Program} {w:World} {K:Fg} {mg:Str->Option Value} {base:Heap} {j k n:Nat} {x:Str} {s:Stmt} {ps:List Str} {g:FS} {den:List L8->Res} {ss:List Sh}
theorem In.r (I:In p X P w K mg base k):Rm X:=I.rm.units
theorem In.e (I:In p X P w K mg base k):p X.K X.mg:=by rw [I.e3,I.e4];exact I.pp
theorem In.c (I:In p X P w K mg base k) (h:DefOk P w K mg base j x n den) (hj:decide (j<=k)=true:=by first | exact rfl | exact decide_eq_true (by omega)):D9 X x n den:=by
 obtain ⟨rfl,rfl,rfl,rfl,rfl,r,_⟩:=I;exact h.cal r hj
theorem Fx.i (F:Fx X Y) (I:In p X P w K mg base k):In p Y P w K mg base k:=⟨F.prog.trans I.e1,F.w.trans I.e2,F.K.trans I.e3,F.mg.trans I.e4,F.base.trans I.e5,by rw [F.A];exact I.rm,I.pp⟩
abbrev Bd (p:Fg->(Str->Option Value)->Prop) (P:Program) (w:World) (K:Fg) (mg:Str->Option Value) (base:Heap) (k:Nat) (N gl:List Str) (vs cs gs:List Nat) (s:Stmt) (g:FS):Prop:=∀X:Cx,Cp X N gl vs cs vs (oz vs cs) gs->In p X P w K mg base k->PassesOwn (model X.prog X.w) X.A X.env X.xe->TQ.Q (PSs X (qJ s) (tS X.K W0 g))
theorem K9 (F:Ft K mg x s) (b:sX x s ps):DefOk P w K mg base j x ps.length (fun _=>.no):=by
 obtain ⟨f,fd,hm,F⟩:=F;exact ⟨f,fd,ps,Ga,hm,F.kp,Ei F b⟩
theorem Lx {f:Addr} {fd:FuncData} (F:Fun K x x s f fd) (e:p K mg) (N gl:List Str) (vs cs gs:List Nat) (h:fB N gl ps vs cs gs s=true) (hb:Bd p P w K mg base k N gl vs cs gs s g):dH P w K mg base ka (k+1) f fd ps (pG K ps.length (aE N.length g)):=by
 obtain ⟨h1,h2,h3⟩:=ql h;exact vX F h3 fun cdv A outer s H E hr=>(hb _ (Cp.fn h1 h2) ⟨rfl,rfl,rfl,rfl,rfl,hr,e⟩ PassesOwn.never).p
theorem mk (F:Ft K mg x s) (e:p K mg) (ps:List Str) (b:sX x s ps) (rs gl:List Str) (vs cs gs:List Nat) (hb:Bd p P w K mg base k (ps++rs) gl vs cs gs s g) (h:fB (ps++rs) gl ps vs cs gs s=true:=by kernel_rfl):DefOk P w K mg base (k+1) x ps.length (aE (ps++rs).length g):=by
 obtain ⟨f,fd,hm,F⟩:=F;exact ⟨f,fd,ps,Lx F e _ gl vs cs gs h hb,hm,F.kp,Ei F b⟩
section
variable {h:Heap} {a:Addr} {dd:Option Addr} {its:Array Value} {n:Nat} {sl:Array (Option Value)} {ds:List L8} (KX:K.In h) (G:h.Ns mainGlobals mg)
include KX G
theorem gn (z:PySem.W.nsIn K mainGlobals x=some none):mg x=none:=PySem.W.mg_none_of KX G z
theorem gi {i:Int} {t:Tok} (z:PySem.W.nsIn K mainGlobals x=some (some (.int i t))):fZ K mg x (.int i):=yS (PySem.W.mg_of KX G z)
theorem gt (z:PySem.W.nsIn K mainGlobals x=some (some (.ref a))) (l:K.lookup a=some ⟨.type "tuple",dd,.seq its n,sl⟩) (c:Dw its ds=true):fZ K mg x (.tuple ds):=yQ (PySem.W.mg_of KX G z) l c
theorem gd {es:Array DictEntry} {ep:Nat} {tab:List (Str×Int)} (z:PySem.W.nsIn K mainGlobals x=some (some (.ref a))) (l:K.lookup a=some ⟨.type "dict",none,.dict es ep,#[]⟩) (c:uv a es tab=true):qD K mg x tab:=yR (PySem.W.mg_of KX G z) l c
end
theorem walkG {m:List L8->Res} {l:PySem.W.OpenLaw} {q:Program} {loose:List Str} {XP:(Str->Option Value)->Heap->Prop} {YP:World->Heap->Prop} {d:DefRec} {K:Params->Fg} (lt:∀ns:List Int,ns.length<=63->m [.list (ns.map .int)]=.ok ⟨.leaf,.bool true⟩) (hr:Room j callerA) (hn:l.most=some 63) (hdf:d.params.defaults=[])
  (hY:∀(w:World) (h:Heap),YP w h->(K w.params).In h)
  (F:∀(w:World) (mg:Str->Option Value) (fa:Addr) (h:Heap),(K w.params).In h->h.Ns mainGlobals mg->mg d.name=some (.ref fa) ->
   ∃fd:FuncData,(∀(s:Shared) (u:Value),BindsTo s fd ⟨[u],[]⟩ [("script",u)])/\∀base:Heap,(K w.params).In base->base.Ns mainGlobals mg->dH l.prog w (K w.params) mg base ka j fa fd ["script"] (pG (K w.params) 1 m)) :
  PySem.W.WalkO q loose XP YP l.row.toRowW d [] (fun f vs=>PySem.call f vs):=
 L2.walk_of (n:=63) (k:=j) (x := "script") (CX:=fun _=>ka) (sp:=fun w=>pG (K w.params) 1 m) hn (by decide) hdf hr hY F (fun _ _ a ns hl _ hS=>CL (lt ns hl) hS) fun _ _ _ _ _ z=>z
end
end T
namespace TQ
open PySem PySem.Spec L2 T
open PyProof.Rows hiding St
section
variable {X:Cx} {N gl:List Str} {vs cs ls lo gs:List Nat} {W:XW} {a b c e:Expr} {es:List Expr} {pos p:Pos} {fa fb fc:F1} {fl:FL} {ga gb:FB} {g1 g2 g:FS}
theorem av (S:Cp X N gl vs cs ls lo gs) (i:Nat) {x:Str} (hN:N[i]?=some x:=by exact rfl) (hv:vs.contains i=true:=by exact rfl):Q (PE X (.Name x pos) (tE X.K W (af i))):=Jt S i hN hv
theorem ba (ha:Q (PE X e (tE X.K W fa))) (hr:Q (PA X es (tA X.K W fl))) (hs:wN e=false:=by exact rfl):Q (PA X (e::es) (tA X.K W (ae fa fl))):=jz ha hr (dC hs)
theorem aP (ha:Q (PE X e (tE X.K W fa))) (hs:wN e=false:=by exact rfl):Q (PA X [e] (tA X.K W (ae fa ag))):=jz ha tQ (dC hs)
theorem bo (ha:Q (PE X a (tE X.K W fa))) (hb:Q (PE X b (tE X.K W fb))) (hs:DS b:=by exact fun _ _=>rfl):Q (PE X (.Subscript a b pos) (tE X.K W (ai fa fb))):=ua ha hb hs
theorem bZ {x:Str} {n:Nat} {den:List L8->Res} (S:Cp X N gl vs cs ls lo gs) (j:Nat) (C:D9 X x n den) (ha:Q (PA X (e::es) (tA X.K W fl))) (hj:gl[j]?=some x:=by exact rfl) (hg:gs.contains j=true:=by exact rfl) (he:wN e=false:=by exact rfl) (hpl:(backTo pos (starEach es X.env)).any (·.1)=false:=by exact rfl):Q (PE X (.Call (.Name x p) (e::es) [] pos) (tE X.K W (aj n den fl))):=Jx S j hj hg C ha (dC he) hpl
theorem b8 (S:Cp X N gl vs cs ls lo gs) (own:Bool) (i:Nat) {x:Str} {pos':Pos} (ha:Q (PE X a (tE X.K W fa))) (hi:N[i]?=some x:=by exact rfl) (hl:ls.contains i=true:=by exact rfl) (hs:swapsWith a (some (.Name x pos')) pos.line X.env=pure false:=by exact rfl):Q (PS X (.Assign [.Name x pos'] a pos) (tS X.K W (ax own i fa))):=lG S own i hi hl hs ha
theorem eL (S:Cp X N gl vs cs ls lo gs) (j:Nat) (hm:X.mg "len"=none) (ha:Q (PA X (e::es) (tA X.K W fl))) (hj:gl[j]?=some ("len":Str):=by exact rfl) (hg:gs.contains j=true:=by exact rfl) (he:wN e=false:=by exact rfl) (hpl:(backTo pos (starEach es X.env)).any (·.1)=false:=by exact rfl):Q (PE X (.Call (.Name "len" p) (e::es) [] pos) (tE X.K W (aS aG fl))):=ug S j hj hg hm ha (dC he) hpl
theorem bQ {op:CmpOp} {r:R2} {g:L8->L8->Option L8} (k:Ck X op r g) (ha:Q (PE X a (tE X.K W fa))) (hb:Q (PE X b (tE X.K W fb))) (hm:behindInMarks op b=false:=by with_unfolding_all rfl):Q (PT X (.Compare a [op] [b] pos) (tT X.K W (aL ao (ay g fa fb)))):=Ju k ha hb hm
theorem eD {op:CmpOp} {r:R2} {g:L8->L8->Option L8} (k:Ck X op r g) (ha:Q (PE X a (tE X.K W fa))) (hb:Q (PE X b (tE X.K W fb))) (hm:behindInMarks op b=false:=by with_unfolding_all rfl):Q (PE X (.Compare a [op] [b] pos) (tE X.K W (ay g fa fb))):=Jw k ha hb hm
theorem bT (ha:Q (PE X a (tE X.K W fa))):Q (PSs X [.Return (some a) pos] (tS X.K W (aF fa))):=eH (tY ha)
theorem fq {scope:Scope} {x:Str} {px:Pos} {iter elt:Expr} {ifs:List Expr} {fi:FI} {fe:F1} {fc:FB} (vs' cs' gs':List Nat) (S:Cp X N gl vs cs ls lo gs) (i:Nat) (hi':Q (PI X (.Name x px) iter (tI X.K W fi))) (hc:Aj X N gl vs' cs' [i] [] gs' fun Y=>Q (PF Y ifs (tT Y.K W0 fc))) (he:Aj X N gl vs' cs' [i] [] gs' fun Y=>Q (PE Y elt (tE Y.K W0 fe))) (hx:N[i]?=some x:=by exact rfl) (h1:j0 N i cs scope=true:=by kernel_rfl) (h2:wu N gl vs' cs' [i] [] gs' scope=true:=by kernel_rfl) (hs:∀x,foldedSetIterable iter X.env x=pure x:=by exact fun _=>rfl):Q (PE X (.ListComp elt [⟨.Name x px,iter,ifs,0⟩] scope pos) (tE X.K W (aA .leaf i fi fc fe))):=Jv S .leaf i hx h1 h2 hi' hc he hs
end
end TQ
namespace T
open PySem PySem.Spec L2
open PyProof.Rows hiding St
def wX (mg:Str->Option Value) (E:XK):XW:=fun c _ H'=>∀C,mg c=some (.ref C)->E (.ref C) none H'
def HD (K:Fg) (mg:Str->Option Value) (n:Nat) (den:List L8->Res):Sp:=fun vs H Q E=>vs.length=n/\∃O ds,O.Nodup/\(∀a∈O,H a≠none)/\Reps K (cY H O) vs ds/\match den ds with
 | .ok p=>∀v H' G,RetOk K H O p v H' G->Q v H'
 | .er c=>∀C H',mg c=some (.ref C)->Same H H'->E (.ref C) none H'
 | .no=>False
section
variable {P:Program} {w:World} {K:Fg} {mg:Str->Option Value} {base:Heap}
theorem yF {x qual:Str} {st:Stmt} {f:Addr} {fd:FuncData} {N ps:List Str} {k:Nat} {g:FS} (F:Fun K x qual st f fd) (S:d6 N ps (hJ st))
  (hb:∀(cdv:Value) (A:Around) (outer:List Env) (s:Shared) (H:Hp) (E:XK),Room k (A.deeper (envOfC qual (hJ st) s.heap.objs.size f cdv)) ->
   PSs (fm (tJ P w) P w K mg base N qual (hJ st) f cdv A outer s H E) (qJ st) (tS K (wX mg E) g)):dH P w K mg base (tJ P w) (k+1) f fd ps (HD K mg ps.length (aE N.length g)):=by
 have hpl:ps.length<=N.length:=by have:=congrArg List.length S.pre;rw [length_take] at this;omega
 obtain ⟨oc,od,kV,doc,pm,an,cdv,ct,osl,rfl,lk,hcd⟩:=F.ex;refine Ac lk hcd S (fun vs H Q E h=>h.1) fun A outer s H vs Q E hr h=>⟨_,hb cdv A outer s H E hr,?_⟩
 obtain ⟨hl,O,ds,nd,inH,rs,w⟩:=h;refine ⟨H,O,List.replicate N.length [],aZ N.length ds,jW (by omega) nd inH rs,?_⟩
 unfold aE at w
 cases e:g (aZ N.length ds) with
 | nx Γ'=>
  rw [e] at w;exact fun σ' H' Fs' E'=>w .non H' [] ⟨E'.same,(fun _ z=>nomatch z),(fun _ z=>nomatch z),nodup_nil,.leaf .non,rfl⟩
 | rt p=>rw [e] at w;exact w
 | bk Γ'=>rw [e] at w;exact w.elim
 | ct Γ'=>rw [e] at w;exact w.elim
 | er c Γ'=>rw [e] at w;exact fun σ' H' Fs' E' C hC=>w C H' hC E'.same
 | no=>rw [e] at w;exact w.elim
end
def DefOkX (P:Program) (w:World) (K:Fg) (mg:Str->Option Value) (base:Heap) (j:Nat) (x:Str) (n:Nat) (den:List L8->Res):Prop:=
 ∃(f:Addr) (fd:FuncData) (ps:List Str),dH P w K mg base (tJ P w) j f fd ps (HD K mg n den)/\mg x=some (.ref f)/\PySem.W.keepIn K (.ref f)=true/\Binds K fd ps []
def zg (X:Cx) (x:Str) (n:Nat) (den:List L8->Res):Prop:=∃(k:Nat) (f:Addr) (fd:FuncData) (ps:List Str),dH X.prog X.w X.K X.mg X.base (tJ X.prog X.w) k f fd ps (HD X.K X.mg n den)/\Room k X.A/\X.mg x=some (.ref f)/\PySem.W.keepIn X.K (.ref f)=true/\Binds X.K fd ps []
theorem DefOkX.cal {X:Cx} {j k n:Nat} {x:Str} {den:List L8->Res} (h:DefOkX X.prog X.w X.K X.mg X.base j x n den) (hr:Room k X.A) (hj:decide (j<=k)=true):zg X x n den:=by
 obtain ⟨f,fd,ps,F,a,b,c⟩:=h;exact ⟨j,f,fd,ps,F,hr.mono (of_decide_eq_true hj),a,b,c⟩
def tO (n:Nat) (den:List L8->Res) (fl:FL):F1:=fun Γ=>(fl Γ).bind fun ps Γ'=>if ps.length=n then (match den (ps.map (·.d)) with
 | .ok p=>if ps.all (T.coer .leaf) then .ok p Γ' else if bz p.d then .ok ⟨.leaf,p.d⟩ Γ' else .ok ⟨.view,p.d⟩ Γ'
 | .er c=>.er c Γ'
 | .no=>.no) else .no
section
variable {K:Fg} {W:XW} {σ:St} {H:Hp} {Q:VK} {fl:FL}
theorem uV {mg:Str->Option Value} {n:Nat} {den:List L8->Res} {EE:St->XK} (hW:∀c σ H' C,W c σ H'->mg c=some (.ref C)->EE σ (.ref C) none H') (h:tE K W (tO n den fl) σ H Q):uB (HD K mg n den) EE (tA K W fl) σ H Q:=by
 obtain ⟨He,O,Fs,Γ,E0,h⟩:=h;refine ⟨He,O,Fs,Γ,E0,?_⟩
 unfold tO at h
 cases e:fl Γ with
 | er c Γ'=>rw [e] at h;exact h
 | no=>rw [e] at h;exact h
 | ok ps Γ1=>
  rw [e] at h;intro vs H1 Gs Fs1 A;have h:Wants K W He O Fs H σ Q (if ps.length=n then (match den (ps.map (·.d)) with | .ok p=>if ps.all (T.coer .leaf) then .ok p Γ1 else if bz p.d then .ok ⟨.leaf,p.d⟩ Γ1 else .ok ⟨.view,p.d⟩ Γ1 | .er c=>.er c Γ1 | .no=>.no) else .no):=h
  by_cases hn:ps.length=n
  case neg=>rw [if_neg hn] at h;exact h.elim
  rw [if_pos hn] at h;have hl:vs.length=n:=by rw [A.len1];exact hn
  cases ed:den (ps.map (·.d)) with
  | er c=>
   rw [ed] at h;have h:Wants K W He O Fs H σ Q (.er c Γ1):=h
   refine ⟨hl,[],ps.map (·.d),nodup_nil,(fun _ z=>nomatch z),by rw [Eo];exact A.reps,?_⟩
   rw [ed];exact fun C H' hC sm=>hW c σ H' C (h H' Fs1 (A.same.trans sm) (A.env.dropL.grow sm)) hC
  | no=>rw [ed] at h;exact h.elim
  | ok p=>
   rw [ed] at h;have h:Wants K W He O Fs H σ Q (if ps.all (T.coer .leaf) then .ok p Γ1 else if bz p.d then .ok ⟨.leaf,p.d⟩ Γ1 else .ok ⟨.view,p.d⟩ Γ1):=h
   obtain ⟨n1,n2,n3⟩:=LZ A.env.nd;obtain ⟨m1,m2,m3⟩:=LZ n1;have newF:∀a∈Fs1.flatten,a∈Fs.flatten\/H a=none:=fun a ha=>A.new a (LP _ ha)
   cases hc:ps.all (T.coer .leaf) with
   | true=>
    rw [hc] at h;have h:Wants K W He O Fs H σ Q (.ok p Γ1):=h
    refine ⟨hl,O++Fs1.flatten,ps.map (·.d),A.env.dropL.nd,A.env.dropL.inH,?_,?_⟩
    ·refine ⟨A.reps.1,fun i v d h1 h2=>?_⟩
     rw [getElem?_map] at h2
     cases e2:ps[i]? with
     | none=>rw [e2] at h2;cases h2
     | some q=>
      rw [e2] at h2
      cases h2;have hi:=(L0 e2).1
      have e3:Gs[i]?=some (Gs[i]'(by rw [A.len2];exact hi)):=LV _
      have o:=A.own i v q _ h1 e2 e3
      have o2:=o.coer (s:=.leaf) (O':=O++Fs1.flatten) (List.all_eq_true.mp hc q (mem_of_getElem? e2)) ig fun a ha z=>by
       exfalso
       have hG:=iU e3 ha
       rcases LR z with y | y
       ·exact m3 a hG a y rfl
       ·exact n3 a (LQ _ hG) a y rfl
      cases o2 with
      | leaf r=>exact r
    ·rw [ed]
     intro v H2 G r;refine h v H2 G Fs1 ⟨A.same.trans r.same,A.env.dropL.hide r.same r.nd r.fresh r.inH,fun a ha=>?_,by rw [append_assoc];exact r.own⟩
     rcases LR ha with z | z
     ·exact .inr (A.same.free (r.fresh a z))
     ·exact newF a z
   | false=>
    rw [hc] at h;have h:Wants K W He O Fs H σ Q (if bz p.d then .ok ⟨.leaf,p.d⟩ Γ1 else .ok ⟨.view,p.d⟩ Γ1):=h
    refine ⟨hl,[],ps.map (·.d),nodup_nil,(fun _ z=>nomatch z),by rw [Eo];exact A.reps,?_⟩
    rw [ed];intro v H2 G r
    cases hs:bz p.d with
    | true=>
     rw [hs] at h;exact Wants.scal h (r.own.rep.sc hs) (A.same.trans r.same) (A.env.dropL.grow r.same) (fun a ha=>ha) E0.ndO newF
    | false=>
     rw [hs] at h;have h:Wants K W He O Fs H σ Q (.ok ⟨.view,p.d⟩ Γ1):=h
     exact h v H2 [] Fs1 ⟨A.same.trans r.same,by simpa using A.env.dropL.grow r.same,by simpa using newF,.view r.own.rep⟩
end
def Gx (X:Cx) (W:XW):Prop:=∃EE:St->XK,GW (tJ X.prog X.w) X EE/\∀c σ H' C,W c σ H'->X.mg c=some (.ref C)->EE σ (.ref C) none H'
def Ib (X:Cx) (W:XW):Prop:=∃E:XK,Makes X E/\∀c σ H' C,W c σ H'->X.mg c=some (.ref C)->E (.ref C) none H'
theorem JC {P:Program} {w:World} {K:Fg} {mg:Str->Option Value} {base:Heap} {N:List Str} {qual:Str} {sc:Scope} {f:Addr} {cd:Value} {A:Around} {outer:List Env} {s:Shared} {H:Hp} {E:XK} :
  Gx (fm (tJ P w) P w K mg base N qual sc f cd A outer s H E) (wX mg E):=
 ⟨fun _=>E,fun pins σ H s e s' I h=>FD (fun _ _ _ z=>z) pins σ H s e s' I h,fun c σ H' C h hC=>h C hC⟩
theorem Kc {P:Program} {w:World} {K:Fg} {mg:Str->Option Value} {base:Heap} {N:List Str} {qual:Str} {sc:Scope} {f:Addr} {cd:Value} {A:Around} {outer:List Env} {s:Shared} {H:Hp} {E:XK} :
  Ib (fm (tJ P w) P w K mg base N qual sc f cd A outer s H E) (wX mg E):=
 ⟨E,CJ fun _ _ _ z=>z,fun c σ H' C h hC=>h C hC⟩
section
variable {X:Cx} {N gl:List Str} {vs cs ls lo gs:List Nat} {W:XW} {a b c e:Expr} {es:List Expr} {pos p:Pos} {fa fb fc:F1} {fl:FL}
theorem Kp {x:Str} {n:Nat} {den:List L8->Res} (S:Cp X N gl vs cs ls lo gs) (j:Nat) (hj:gl[j]?=some x) (hg:gs.contains j=true) (C:zg X x n den) (th:Gx X W) (ha:PA X (e::es) (tA X.K W fl)) (he:starEach (e::es) X.env=(false,eval e X.env)::starEach es X.env) (hpl:(backTo pos (starEach es X.env)).any (·.1)=false) :
  PE X (.Call (.Name x p) (e::es) [] pos) (tE X.K W (tO n den fl)):=by
 obtain ⟨k,f,fd,ps,F,hr,hm,hk,hb⟩:=C;obtain ⟨EE,hx,hW⟩:=th;exact aY (vh F hr (S.g hj hg).1 hm hk hb hx ha (S.g hj hg).2.1 he hpl) fun _ _ _=>uV hW
def sU (mg:Str->Option Value) (base:Heap) (x:Str):Prop:=∃C,OwnCls x C [.type "ValueError",.type "Exception",.type "BaseException",.type "object"] "ValueError.__new__" mg base
def GQ (c:Str):FS:=fun Γ=>.er c Γ
theorem wt {x m:Str} {np cpos mp:Pos} {mk:Nat} (S:Cp X N gl vs cs ls lo gs) (j:Nat) (hj:gl[j]?=some x) (hg:gs.contains j=true) (R:sU X.mg X.base x) (mk':Ib X W) :
  PS X (.Raise (some (.Call (.Name x np) [.Constant (.str m) mk mp] [] cpos)) none pos) (tS X.K W (GQ x)):=by
 obtain ⟨C,O⟩:=R;obtain ⟨E,hM,hW⟩:=mk'
 have ha:PA X [.Constant (.str m) mk mp] (tA X.K W (ae (eK (.str m)) ag)):=da_cons de_str da_nil rfl
 refine cB (va S.calm O F.excBase_ValueError (by decide) F.excBase_ValueError (S.g hj hg).1 hM ha rfl rfl (S.g hj hg).2.1) fun D σ H h=>?_
 obtain ⟨He,O',Fs,Γ,E0,h⟩:=h;refine ⟨He,O',Fs,Γ,E0,?_⟩
 show ∀vs H1 Gs Fs1,_->_
 intro vs H1 Gs Fs1 A;refine ⟨?_,hW x σ H1 C (h σ H1 Fs1 A.env.dropL) O.bound⟩
 rw [A.len1];exact (by decide:1<=sizeLine)
end
theorem Cp.fnX {P:Program} {w:World} {K:Fg} {mg:Str->Option Value} {base:Heap} {N gl:List Str} {vs cs ls lo gs:List Nat} {qual:Str} {sc:Scope} {f:Addr} {cd:Value} {A:Around} {outer:List Env} {s:Shared} {H:Hp} {E:XK}
  (h:wu N gl vs cs ls lo gs sc=true) (h':D5 N gl=true):Cp (fm (tJ P w) P w K mg base N qual sc f cd A outer s H E) N gl vs cs ls lo gs:=by
 obtain ⟨a,b,c⟩:=GM h'
 have q:=Ej h
 exact ⟨rfl,a,b,c,q.vis,q.cel,fun i x e hi=>⟨q.loc i x e hi,.inl rfl⟩,q.loo,q.glb,rfl,q.kind⟩
section
variable {p:Fg->(Str->Option Value)->Prop} {X Y:Cx} {P:Program} {w:World} {K:Fg} {mg:Str->Option Value} {base:Heap} {j k n:Nat} {y:Str} {s:Stmt} {ps:List Str} {g:FS} {den:List L8->Res}
theorem In.x (I:In p X P w K mg base k) (h:DefOkX P w K mg base j y n den) (hj:decide (j<=k)=true:=by first | exact rfl | exact decide_eq_true (by omega)):zg X y n den:=by
 obtain ⟨rfl,rfl,rfl,rfl,rfl,r,_⟩:=I;exact h.cal r hj
theorem In.ra (I:In p X P w K mg base k) (h:sU mg base y):sU X.mg X.base y:=by rw [I.e4,I.e5];exact h
abbrev LN (p:Fg->(Str->Option Value)->Prop) (P:Program) (w:World) (K:Fg) (mg:Str->Option Value) (base:Heap) (k:Nat) (N gl:List Str) (vs cs gs:List Nat) (s:Stmt) (g:FS):Prop:=∀(X:Cx) (W:XW),Cp X N gl vs cs vs (oz vs cs) gs->In p X P w K mg base k->Gx X W->Ib X W->TQ.Q (PSs X (qJ s) (tS X.K W g))
theorem Lu (F:Ft K mg y s) (e:p K mg) (ps:List Str) (b:sX y s ps) (rs gl:List Str) (vs cs gs:List Nat) (hb:LN p P w K mg base k (ps++rs) gl vs cs gs s g) (h:fB (ps++rs) gl ps vs cs gs s=true:=by kernel_rfl):DefOkX P w K mg base (k+1) y ps.length (aE (ps++rs).length g):=by
 obtain ⟨f,fd,hm,F⟩:=F;obtain ⟨h1,h2,h3⟩:=ql h;exact ⟨f,fd,ps,yF F h3 fun cdv A outer s H E hr=>(hb _ _ (Cp.fnX h1 h2) ⟨rfl,rfl,rfl,rfl,rfl,hr,e⟩ JC Kc).p,hm,F.kp,Ei F b⟩
theorem xT {h:Heap} {C:Addr} (KX:K.In base) (G:base.Ns mainGlobals mg) (e:PySem.W.nsIn K mainGlobals y=some (some (.ref C))) (q:PySem.W.excIn K C [.type "ValueError",.type "Exception",.type "BaseException",.type "object"] "ValueError.__new__"=true):sU mg base y:=by
 refine ⟨C,PySem.W.mg_of KX G e,?_⟩
 unfold PySem.W.excIn at q;split at q
 ·rename_i dd cd sl ho
  split at q
  ·rename_i C' bm k0 k1 k2 k3 n k5 hm hs
   simp only [Bool.and_eq_true,beq_iff_eq,Bool.not_eq_true'] at q
   obtain ⟨⟨⟨⟨⟨rfl,rfl⟩,hdel⟩,ht⟩,hok⟩,hni⟩:=q;obtain ⟨nm,bs,mro,ns,qn,hd,sn,sub,ab,col,del⟩:=cd;dsimp only at hm hdel hok hni
   subst hm hdel;have hsl:sl=#[k0,k1,k2,k3,some (.builtin "ValueError.__new__"),k5]:=by
    obtain ⟨l⟩:=sl;simp only at hs
    rw [hs]
   subst hsl;exact ⟨bm,ns,nm,qn,bs,hd,sn,sub,ab,col,dd,k0,k1,k2,k3,k5,_,KX _ _ ho,.of_isNs (PySem.W.isNs_of_in KX hok),PySem.W.nsMap_none_of_in KX hok hni,PySem.W.tail_of_in KX ht⟩
  ·cases q
 ·cases q
end
end T
namespace TQ
open PySem PySem.Spec L2 T
open PyProof.Rows hiding St
section
variable {X:Cx} {N gl:List Str} {vs cs ls lo gs:List Nat} {W:XW} {a b c e:Expr} {es:List Expr} {pos p:Pos} {fl:FL} {g:FS}
theorem A6 {x:Str} {n:Nat} {den:List L8->Res} (S:Cp X N gl vs cs ls lo gs) (th:Gx X W) (j:Nat) (C:zg X x n den) (ha:Q (PA X (e::es) (tA X.K W fl))) (hj:gl[j]?=some x:=by exact rfl) (hg:gs.contains j=true:=by exact rfl) (he:wN e=false:=by exact rfl) (hpl:(backTo pos (starEach es X.env)).any (·.1)=false:=by exact rfl):Q (PE X (.Call (.Name x p) (e::es) [] pos) (tE X.K W (tO n den fl))):=⟨Kp S j hj hg C th ha.p (dC he) hpl⟩
theorem nO {x m:Str} {np cpos mp:Pos} {mk:Nat} (S:Cp X N gl vs cs ls lo gs) (mk':Ib X W) (j:Nat) (R:sU X.mg X.base x) (hj:gl[j]?=some x:=by exact rfl) (hg:gs.contains j=true:=by exact rfl):Q (PS X (.Raise (some (.Call (.Name x np) [.Constant (.str m) mk mp] [] cpos)) none pos) (tS X.K W (GQ x))):=⟨wt S j hj hg R mk'⟩
end
end TQ
namespace T
open PySem PySem.Spec L2 PySem.W
open PyProof.Rows hiding St
structure fH (K:Fg) (C:Addr):Prop where
 cl:(PySem.W.clsIn K C).isSome=true
 ga:PySem.W.findIn K (.ref C) "__getattribute__"=some (some (.builtin "BaseException.__getattribute__"))
 gn:PySem.W.findIn K (.ref C) "__getattr__"=some none
 gc:PySem.W.findIn K (.ref C) "__class__"=some (some (.builtin "object.__class__"))
 ob:PySem.W.mroIn K C (.type "object")=some true
 be:PySem.W.mroIn K C (.type "BaseException")=some true
def yH (K:Fg) (C:Addr):Bool:=(PySem.W.clsIn K C).isSome&&PySem.W.findIn K (.ref C) "__getattribute__"==some (some (.builtin "BaseException.__getattribute__"))&&PySem.W.findIn K (.ref C) "__getattr__"==some none &&
 PySem.W.findIn K (.ref C) "__class__"==some (some (.builtin "object.__class__"))&&PySem.W.mroIn K C (.type "object")==some true&&PySem.W.mroIn K C (.type "BaseException")==some true
theorem qm {K:Fg} {C:Addr} (h:yH K C=true):fH K C:=by
 unfold yH at h;simp only [Bool.and_eq_true,beq_iff_eq] at h
 obtain ⟨⟨⟨⟨⟨a,b⟩,c⟩,d⟩,e⟩,f⟩:=h;exact ⟨a,b,c,d,e,f⟩
def wM (x C:Addr) (h:Heap):Prop:=∃oe vs,h.get? x=some oe/\oe.cls=.ref C/\oe.data=.fields vs
section
variable {prog:Program} {w:World} {A:Around} {E:Value->Shared->Prop} {h:Heap} {g:Array GenState} {d:Drawn} {t:Nat} {os:OsState} {K:Fg} {x C:Addr} {o:Obj}
theorem vz {Q:Bool->Shared->Prop} (X:K.In h) (Z:fH K C) (hx:h.get? x=some o) (hc:o.cls=.ref C) {T:Value} {b:Bool} (hm:PySem.W.mroIn K C T=some b) (hq:Q b ⟨h,g,d,t,os⟩):wpAny (model prog w) A (isInstance (.ref x) T) Q E ⟨h,g,d,t,os⟩:=by
 have LT:Looks (model prog w) h (typeOf (.ref x)) (.ref C):=hc▸(Looks.ld hx).andThen .now
 exact (show Looks (model prog w) h (isInstance (.ref x) T) b from LT.andThen (looks_mroIn X hm)).at hq
theorem oZ {R:Result->Shared->Prop} (X:K.In h) (Z:fH K C) (hx:h.get? x=some o) (hc:o.cls=.ref C) (hq:R (.ok (.ret (.ref C))) ⟨h,g,d,t,os⟩) :
  codeAny (model prog w) A (.call (.builtin "getset_descriptor.__get__") ⟨[.builtin "object.__class__",.ref x,.ref C],[]⟩) R ⟨h,g,d,t,os⟩:=by
 have hT5:(⟨h,g,d,t,os⟩:Shared).TypeIs (.builtin "object.__class__") "getset_descriptor":=F.typeOf_object_class
 have LS:Looks (model prog w) h (isSubtype (.ref C) (.type (".".intercalate ("object.__class__".cutAt '.').dropLast))) true:=by rw [F.owner_object_class];exact looks_mroIn X Z.ob
 refine codeAny_call_builtin F.slot_gs_get.plain F.entry_gs_get (F.slot_gs_get.check _ _ _ _ _ _ _ _ hT5 (F.args_gs_get _ _ _) ?_)
 repeat (any_goals (first | assumption | (with_reducible refine wpAny_loadPart_at hx ?_;rw [hc]) | with_reducible refine LS.at ?_ | wp_step))
 refine ⟨Code.quiet_builtin _ (by decide +kernel),codeAny_builtin F.entry_object_class ?_⟩
 repeat (any_goals (first | assumption | (with_reducible refine wpAny_loadPart_at hx ?_;rw [hc]) | wp_step))
theorem o4 {tk:Tok} {Q:Fin->Shared->Prop} (X:K.In h) (Z:fH K C) (hx:h.get? x=some o) (hc:o.cls=.ref C) (hq:Q (.done (.ret (.ref C))) ⟨h,g,d,t,os⟩) :
  wpAny (model prog w) A (Builtin.«object.__getattribute__» ⟨[.ref x,.str "__class__" tk],[]⟩) Q E ⟨h,g,d,t,os⟩:=by
 have hT5:(⟨h,g,d,t,os⟩:Shared).TypeIs (.builtin "object.__class__") "getset_descriptor":=F.typeOf_object_class
 have L4:Looks (model prog w) h (typeLookup (.ref C) "__class__") (some (.builtin "object.__class__")):=looks_findIn X Z.gc
 have f5:=F.typeOf_object_class
 have f6:=F.slot_gs_get.lookup
 have f7:=F.slot_gs_set.lookup
 repeat (any_goals (first | assumption | (with_reducible refine wpAny_loadPart_at hx ?_;rw [hc]) | with_reducible refine L4.at ?_ | wp_step))
 refine oZ X Z hx hc ?_
 repeat (any_goals (first | assumption | wp_step))
theorem o5 {nameV:Value} {Q:Unit->Shared->Prop} (X:K.In h) (Z:fH K C) (hx:h.get? x=some o) (hc:o.cls=.ref C) (hq:Q () ⟨h,g,d,t,os⟩):wpAny (model prog w) A (checkBuiltinCall "BaseException.__getattribute__" ⟨[.ref x,nameV],[]⟩) Q E ⟨h,g,d,t,os⟩:=by
 have hk:builtinKind "BaseException.__getattribute__"=some .slot:=by decide +kernel
 have hsplit:splitId "BaseException.__getattribute__"=some ("BaseException", "__getattribute__"):=by decide +kernel
 have ha:=F.args_bexc_ga (.ref x) nameV
 simp only [checkBuiltinCall,hk,hsplit]
 refine L1 (vz X Z hx hc Z.be ?_)
 repeat (any_goals (first | assumption | wp_step))
theorem ny {tk:Tok} {R:Result->Shared->Prop} (X:K.In h) (Z:fH K C) (hx:h.get? x=some o) (hc:o.cls=.ref C) (hq:R (.ok (.ret (.ref C))) ⟨h,g,d,t,os⟩) :
  codeAny (model prog w) A (.call (.builtin "BaseException.__getattribute__") ⟨[.ref x,.str "__class__" tk],[]⟩) R ⟨h,g,d,t,os⟩:=
 codeAny_call_builtin F.excAttr_ValueError.ga.plain F.entry_bexc_ga (o5 X Z hx hc (o4 X Z hx hc hq))
theorem sM {tk:Tok} {Q:Value->Shared->Prop} (X:K.In h) (Z:fH K C) (hx:h.get? x=some o) (hc:o.cls=.ref C) (hq:Q (.ref C) ⟨h,g,d,t,os⟩):wpAny (model prog w) A (getAttrBy (.ref x) (.str "__class__" tk) false) Q E ⟨h,g,d,t,os⟩:=by
 have L2:Looks (model prog w) h (typeLookup (.ref C) "__getattribute__") (some (.builtin "BaseException.__getattribute__")):=looks_findIn X Z.ga
 have L3:Looks (model prog w) h (typeLookup (.ref C) "__getattr__") none:=looks_findIn X Z.gn
 have f3:=F.excAttr_ValueError.ga.bind (.ref x)
 have hx2:(Value.builtin "BaseException.__getattribute__"==Value.builtin "object.__getattribute__")=false:=by decide +kernel
 have hx1:(onTheHeap (Value.ref C)&&Value.builtin "BaseException.__getattribute__"==Value.builtin "object.__getattribute__")=false:=by rw [hx2];rfl
 repeat (any_goals (first | assumption | (with_reducible refine wpAny_loadPart_at hx ?_;rw [hc]) | with_reducible refine L2.at ?_ | with_reducible refine L3.at ?_ | wp_step))
 refine ny X Z hx hc ?_
 repeat (any_goals (first | assumption | wp_step))
theorem nz {Q:Option Value->Shared->Prop} (X:K.In h) (Z:fH K C) (hx:h.get? x=some o) (hc:o.cls=.ref C) (hq:Q (some (.ref C)) ⟨h,g,d,t+1,os⟩):wpAny (model prog w) A (getAttr? (.ref x) "__class__") Q E ⟨h,g,d,t,os⟩:=by
 unfold getAttr? getAttrBy?
 repeat (any_goals (first | assumption | with_reducible apply sM X Z hx hc | wp_step))
theorem vt (Z:fH K C):KitX K (.ref x) (.ref C) (wM x C) where
 ty:=fun M h _ p=>by obtain ⟨o,_,hx,hc,_⟩:=p;exact hc▸(Looks.ld hx).andThen .now
 it:=fun _ _ X _=>by
  have z0:=Z.cl
  unfold clsIn at z0;split at z0
  ·rename_i c' d' cd' sl' ho
   intro A' Q' E' s' k q
   unfold isType loadHead;exact L1 (wpAny_loadPart (k _ _ (X _ _ ho)) (L5 q))
  ·cases z0
 ne:=fun h tp dd its n sl X htp=>by
  have z0:=Z.cl
  refine Bool.eq_false_iff.mpr fun q=>?_
  have e:C=tp:=Value.ref.inj (beq_iff_eq.mp q)
  subst e;unfold clsIn at z0;split at z0
  ·rename_i c' d' cd' sl' ho
   have z:=(X _ _ ho).symm.trans htp
   cases z
  ·cases z0
 ca:=fun {_ _ _ _ _ s} X p k=>by
  obtain ⟨h,g,d,t,os⟩:=s;obtain ⟨o,_,hx,hc,_⟩:=p;exact nz X Z hx hc k
end
theorem si {prog:Program} {w:World} {A:Around} {E:Value->Shared->Prop} {K:Fg} {x C D:Addr} {s:Shared} {o:Obj} {Q:Bool->Shared->Prop} {b:Bool} (X:K.In s.heap) (hx:s.heap.get? x=some o) (hc:o.cls=.ref C) (e1:PySem.W.typeIn K (.ref D)=some (.type "type")) (Z:fH K D) (e3:PySem.W.subIn K (.ref C) (.ref D)=some b) (hq:Q b s) :
  wpAny (model prog w) A (excMatches (.ref x) (.ref D)) Q E s:=by
 obtain ⟨h,g,d,t,os⟩:=s;have LT:Looks (model prog w) h (typeOf (.ref x)) (.ref C):=hc▸(Looks.ld hx).andThen .now
 have LD:Looks (model prog w) h (typeOf (.ref D)) (.type "type"):=looks_typeIn X e1
 have LB:Looks (model prog w) h (isSubtype (.ref D) (.type "BaseException")) true:=looks_mroIn X Z.be
 have LS:Looks (model prog w) h (isSubtype (.ref C) (.ref D)) b:=looks_subIn X e3
 have LY:Looks (model prog w) h (isType (.ref D)) true:=by
  have z0:=Z.cl
  unfold clsIn at z0;split at z0
  ·rename_i c' d' cd' sl' ho
   intro A' Q' E' s' k q
   unfold isType loadHead;exact L1 (wpAny_loadPart (k _ _ (X _ _ ho)) (L5 q))
  ·cases z0
 have f:=tc_notTuple
 unfold excMatches;refine L1 (L1 (LD.at ?_))
 repeat (any_goals (first | with_reducible refine LY.at ?_ | with_reducible refine LB.at ?_ | with_reducible refine LT.at ?_ | with_reducible refine LS.at ?_ | wp_step))
 first
  | exact hq
  | (cases b<;>(wp_walk;exact hq))
end T
namespace T
open PySem PySem.Spec L2
open PyProof.Rows hiding St
section
variable {X:Cx} {pins:List (Addr×Obj)} {σ:St} {H H':Hp} {s s':Shared} {C a:Addr} {M:Model} {A:Around} {E:Value->Shared->Prop}
theorem yz {i:Nat} {x:Str} {pos:Pos} {Q:Unit->Shared->Prop} (I:Inv X pins σ H s) (hN:X.N.Nodup) (hi:X.N[i]?=some x) (hk:X.env.scope.names.lookup x=some .local)
  (h:∀s',Inv X pins (σ.set i none) H s'->Q () s'):wpAny M A (do bindName X.env x .none;unbindBehindTheSuite X.env x pos) Q E s:=by
 obtain ⟨m,hn,hl⟩:=id I.loc;have hcls:(X.env.scope.kind==.class||(X.env.scope.kind==.module&&X.env.locals != X.env.globals))=false:=by rw [I.ok.kind];rfl
 have hiσ:i<σ.length:=by rw [I.len];exact (L0 hi).1
 have cne:=I.cne
 refine wpAny_nameGoes_keeps hk hn hcls fun h' v hn' hs=>?_
 obtain ⟨oL,_,_,hoL,_⟩:=id hn;refine h _ ⟨I.ok,I.os,I.bare,⟨fun b o e n hb hx=>?_,fun b o e n hb hx=>?_,I.base.free,fun b o e hx=>?_,I.base.tups,I.base.frzs,I.base.tbls⟩,⟨_,hn',fun j y v' e1 e2 e3=>?_⟩,fun y c e=>?_,I.free,I.freeC,fun p hp=>?_,fun b ob e=>?_,by simpa using I.len⟩
 ·exact (hs.2 b (Nat.ne_of_lt (Nat.lt_of_lt_of_le (Heap.lt_size e) I.ok.above))).trans (I.base.keep b o e n hb hx)
 ·obtain ⟨sl,e1⟩:=I.base.slot b o e n hb hx
  exact ⟨sl,(hs.2 b (Nat.ne_of_lt (Nat.lt_of_lt_of_le (Heap.lt_size e) I.ok.above))).trans e1⟩
 ·obtain ⟨o',e1⟩:=I.base.there b o e hx
  exact ⟨o',(hs.2 b (Nat.ne_of_lt (Nat.lt_of_lt_of_le (Heap.lt_size e) I.ok.above))).trans e1⟩
 ·by_cases hj:j=i
  ·subst hj
   rw [getElem?_set_self hiσ] at e2
   cases e2
  ·rw [getElem?_set_ne (Ne.symm hj)] at e2
   obtain ⟨u',r',q⟩:=hl j y v' e1 e2 e3
   refine ⟨u',r',?_⟩
   rcases q with ⟨k,e⟩ | ⟨k,c,e,z⟩
   ·refine .inl ⟨k,?_⟩
    have:y≠x:=fun e=>hj (IP hN e1 (e▸hi))
    simp [this,e]
   ·exact .inr ⟨k,c,e,z.sameBut hs (cne y c e)⟩
 ·obtain ⟨w',z⟩:=I.cell y c e
  exact ⟨w',z.sameBut hs (cne y c e)⟩
 ·obtain ⟨e,n,ne,nf,d⟩:=I.pin p hp
  exact ⟨(hs.2 p.1 ne).trans e,n,ne,nf,d⟩
 ·refine (I.hok b ob e).stay (fun c w' hc q=>(hs.2 c ?_).trans q) (fun _ q=>q) fun _ _ q=>q
  rintro rfl
  rcases hc with rfl | hc
  ·rw [I.free] at e;cases e
  ·rw [I.free] at hc;cases hc
theorem sg {Q:Unit->Shared->Prop} (I:Inv X pins σ H s) (hst:X.stack=X.env::X.outer) (hf:X.env.frame=some X.env.locals) (hA:A.frames=some X.stack) (f:DI X.prog X.w X.stack H s H' C a s')
  (hQ:∀h2 B a0,Heap.FlyingW B X.stack a (.ref C) a0 h2->H' a=none->a∉gw X.stack->(∀h3,Heap.FlyingW B X.stack a (.ref C) a0 h3->h2.UpToSlots h3->Inv X pins σ H' { s' with heap:=h3 })->Q () { s' with heap:=h2 }) :
  wpAny M A (noteFrame (.ref a) X.env) (fun _ s2=>wpAny M A (setFlight (.ref a) none) Q E s2) E s':=by
 have os:=f.os
 have bare:=f.bare
 obtain ⟨os',bare',un,hok,B,a0,fl,c1,c2⟩:=id f;have hn:∀b:Addr,b∉([]:List Addr):=fun b z=>nomatch z
 have keepB:∀h3,B.StaysIn h3->∀b o u,B.get? b=some u->s'.heap.get? b=some o->h3.get? b=some o:=fun h3 st b o u e1 e2=>by
  have e3:=fl.1 b u e1
  rw [e2] at e3
  cases e3;exact st b o e1
 have go:∀h3,B.StaysIn h3->h3.FunFrames B X.stack->s'.heap.UpToSlots h3->Un (gw X.stack) [] H H' s.heap h3/\HOk X.prog X.w H' h3:=fun h3 st ff up=>by
  refine ⟨⟨fun b o q n hb _=>?_,fun b o q n hb _=>?_,un.free,fun b o q _=>?_,un.tups,un.frzs,un.tbls⟩,fun b o e=>?_⟩
  ·obtain ⟨u,e⟩:=c2 b o q hb
   exact keepB h3 st b o u e (un.keep b o q n hb (hn b))
  ·obtain ⟨sl2,q2⟩:=un.slot b o q n hb (hn b)
   obtain ⟨_,o',e,d⟩:=fl.2.2.1.mem hb;rw [q2] at e
   cases e;obtain ⟨sl3,q3⟩:=up b _ q2 d;exact ⟨sl3,q3⟩
  ·by_cases hb:b∈gw X.stack
   ·obtain ⟨_,o',e,_⟩:=ff.mem hb
    exact ⟨o',e⟩
   ·obtain ⟨u,e⟩:=c2 b o q hb
    exact ⟨u,st b u e⟩
  ·refine (hok b o e).stay (fun c u hc q=>?_) (fun _ q=>q) fun _ _ q=>q
   have hc':∃o',H' c=some o':=by
    rcases hc with z | z
    ·exact ⟨o,by rw [z];exact e⟩
    ·exact ⟨_,z⟩
   obtain ⟨o',z⟩:=hc'
   obtain ⟨v,e1⟩:=c1 c o' z
   exact keepB h3 st c u v e1 q
 have hHa:H' a=none:=by
  cases e:H' a with
  | none=>rfl
  | some o=>
   obtain ⟨u,e1⟩:=c1 a o e;rw [fl.2.1] at e1
   cases e1
 have haf:a∉gw X.stack:=fun z=>by
  obtain ⟨_,o',e,d⟩:=fl.2.2.1.mem z;obtain ⟨oe,vs,_,_,_,he,_,hd,_⟩:=fl.2.2.2;rw [he] at e
  cases e;exact d vs hd
 refine wpAny_looks_onW (by rw [hA,hst]) hf (by rw [<-hst];exact fl) fun h1 hh1 up1=>?_
 refine wpAny_landsW hh1 fun h2 fl2 up2=>hQ h2 B a0 (by rw [hst];exact fl2) hHa haf fun h3 fl3 up3=>?_
 obtain ⟨un3,hok3⟩:=go h3 fl3.1 fl3.2.2.1 ((up1.trans up2).trans up3);exact I.call' (s':={ s' with heap:=h3 }) (ch:=[]) os un3 hok3 bare (fun b z=>absurd z (by simp))
end
def w9 (X:Cx) (pins:List (Addr×Obj)) (a:Addr) (oe:Obj):Cx:={ X with A:=X.A.mark (some (.ref a)),calm:=false,pn:=(X.pn++pins)++[(a,oe)],xe:=fun _ _=>False }
section
variable {X:Cx} {pins:List (Addr×Obj)} {σ:St} {H:Hp} {s:Shared} {a:Addr} {oe:Obj}
theorem yt (I:Inv X pins σ H s) (hx:s.heap.get? a=some oe) (hH:H a=none) (hl:a≠X.env.locals) (hf:a∉X.fs) (hd:∀v,oe.data≠.cell v):Inv (w9 X pins a oe) [] σ H s:=
 ⟨⟨I.ok.mod,I.ok.kind,I.ok.glob,I.ok.blt,I.ok.above,I.ok.inj,I.ok.has,I.ok.cab,fun z=>(nomatch z),I.ok.frames,I.ok.stk,I.ok.exf,I.ok.bs,I.ok.bsz,I.ok.noex,I.ok.exfs,I.ok.funs,I.ok.frf⟩,I.os,I.bare,I.base,I.loc,I.cell,I.free,I.freeC,fun p hp=>by
  have hp:p∈((X.pn++pins)++[(a,oe)])++[]:=hp
  rw [append_nil] at hp;rcases LR hp with z | z
  ·exact I.pin p z
  ·cases List.mem_singleton.mp z
   exact ⟨hx,hH,hl,hf,hd⟩,I.hok,I.len⟩
theorem yu (ok:X.Ok) (I:Inv (w9 X pins a oe) [] σ H s):Inv X pins σ H s:=
 ⟨ok,I.os,I.bare,I.base,I.loc,I.cell,I.free,I.freeC,fun p hp=>I.pin p (LQ _ (LQ _ hp)),I.hok,I.len⟩
end
def isN:Option (Option PV)->Bool
 | some none=>true
 | _=>false
theorem vB {Γ:Ev} {j:Nat} (h:isN Γ[j]?=true):∀p,Γ[j]?≠some (some p):=fun p z=>by rw [z] at h;cases h
def xq (cl:List Str) (ie:Nat) (k:Str->FS) (c:Str):FS:=fun Γ=>if cl.contains c&&isN Γ[ie]? then (match k c Γ with
 | .nx Γ'=>if isN Γ'[ie]? then .nx Γ' else .no
 | _=>.no) else .no
def kr (cl:List Str) (ie:Nat) (g:FS) (k:Str->FS):FS:=fun Γ=>match g Γ with
 | .er c Γ'=>xq cl ie k c Γ'
 | o=>o
def wT (mg:Str->Option Value) (W:Addr->St->Hp->Prop):XW:=fun c σ H'=>∀C,mg c=some (.ref C)->W C σ H'
def lh (i:Nat) (a:Addr) (σ:St):Prop:=σ[i]?=some (some (.ref a))
def JF (φ:St->Prop) (t:TS):TS:=fun D σ H=>φ σ/\t D σ H
def tG (φ:St->Prop) (t:TE):TE:=fun σ H Q=>φ σ/\t σ H Q
theorem JB {X:Cx} {pins:List (Addr×Obj)} {W:Addr->St->Hp->Prop}:Gx (eQ X pins W) (wT X.mg W):=
 ⟨fun σ=>fun u _ H'=>∃C,u=.ref C/\W C σ H',kJ,fun c σ H' C h hC=>⟨C,rfl,h C hC⟩⟩
structure Ai (K:Fg) (D:Addr):Prop where
 ty:PySem.W.typeIn K (.ref D)=some (.type "type")
 ex:fH K D
theorem B7 {X:Cx} {N gl:List Str} {vs cs ls lo gs:List Nat} (S:Cp X N gl vs cs ls lo gs) {body:List Stmt} {g:FS} {k:Str->FS} {cl:List Str} {en hn:Str} {ie j:Nat} {np hpos pos:Pos} {suite:Stmt} {D:Addr}
  (hst:X.stack=X.env::X.outer) (hf:X.env.frame=some X.env.locals) (hie:N[ie]?=some en) (hel:lo.contains ie=true) (hj:gl[j]?=some hn) (hg:gs.contains j=true) (hD:X.mg hn=some (.ref D)) (hDc:Ai X.K D)
  (hc:∀c∈cl,∀C,X.mg c=some (.ref C)->PySem.W.subIn X.K (.ref C) (.ref D)=some true)
  (hb:∀(pins:List (Addr×Obj)) (W:Addr->St->Hp->Prop),PSs (eQ X pins W) body (tS X.K (wT X.mg W) g))
  (hh:∀(pins:List (Addr×Obj)) (a C:Addr) (oe:Obj) (c:Str),c∈cl->X.mg c=some (.ref C)->oe.cls=.ref C->(∃vs,oe.data=.fields vs)->PSs (w9 X pins a oe) [suite] (JF (lh ie a) (tS X.K W0 (k c)))) :
  PS X (.Try body [.ExceptHandler (some (.Name hn np)) (some en) [suite] hpos] [] [] pos) (tS X.K W0 (kr cl ie g k)):=by
 intro pins s σ H D0 I h;obtain ⟨He,O,Fs,Γ,E,h⟩:=h;refine wpAny_Try_except ?_
 let W:Addr->St->Hp->Prop:=fun C σ' H'=>∃c Γ' Fs',X.mg c=some (.ref C)/\EnvOk X.K He O Fs' H' σ' Γ'/\lu X.K W0 He O D0 (xq cl ie k c Γ')
 have I':Inv X (pins++[]) σ H s:=by rw [append_nil];exact I
 have hw:lu X.K (wT X.mg W) He O D0 (g Γ):=by
  unfold kr at h
  cases e:g Γ with
  | nx Γ'=>rw [e] at h;exact h
  | bk Γ'=>rw [e] at h;exact h
  | ct Γ'=>rw [e] at h;exact h
  | rt p=>rw [e] at h;exact h
  | no=>rw [e] at h;exact h
  | er c Γ'=>rw [e] at h;exact fun σ' H' Fs' E' C hC=>⟨c,Γ',Fs',hC,E',h⟩
 refine wpAny_mono (hb pins W [] s σ H D0 (vK I') ⟨He,O,Fs,Γ,E,hw⟩) (fun f s1 h1=>?_) fun e s1 h1=>?_
 ·have back:∀{σ' H'},Inv (eQ X pins W) [] σ' H' s1->Inv X pins σ' H' s1:=fun {σ' H'} J=>by have:=mU J;rwa [append_nil] at this
  cases f with
  | next=>
   obtain ⟨σ',H',J,q⟩:=h1;exact bK (Ir pins s1 σ' H' D0 (back J) q) fun _ _ z=>z
  | brk=>obtain ⟨σ',H',J,q⟩:=h1;exact ⟨σ',H',back J,q⟩
  | cont=>obtain ⟨σ',H',J,q⟩:=h1;exact ⟨σ',H',back J,q⟩
  | ret u=>obtain ⟨v,σ',H',J,r,q⟩:=h1;exact ⟨v,σ',H',back J,r,q⟩
 ·obtain ⟨ps,σ1,H1,H',s0,a,C,rfl,J,fl,c,Γ',Fs',hC,E',hW⟩:=h1
  refine sg (T.Inv.less J) hst hf I.ok.frames fl fun h2 B a0 fl2 hHa haf go=>?_
  have I2:=go h2 fl2 (Heap.UpToSlots.refl h2)
  unfold xq at hW
  cases hcl:(cl.contains c&&isN Γ'[ie]?) with
  | false=>rw [hcl] at hW;exact hW.elim
  | true=>
   rw [hcl] at hW;simp only [Bool.and_eq_true] at hcl
   have hcm:c∈cl:=by simpa using hcl.1
   have hnm:=S.g hj hg
   obtain ⟨oe2,he2,hc2⟩:=fl2.there;refine wpAny_handleBy_cons (codeAny_handlers_test (Calls.Name_function_global I2.ok.kind hnm.1 (Calls.loadGlobal_global (by rw [I2.ok.glob];exact I2.mod.glob.keeps I2.bk) hD ?_) hnm.2.1)) (by intro q;cases q)
   refine si I2.kIn he2 hc2 hDc.ty hDc.ex (hc c hcm C hC) ?_
   refine codeAny_handlers_suite_as ?_
   refine lands_againW fl2 fun h3 fl3 up3=>?_
   have I3:=go h3 fl3 up3
   obtain ⟨oe,vs,_,_,_,he,⟨hcls,_⟩,hd,_⟩:=fl3.2.2.2;have hal:a≠X.env.locals:=fun z=>haf (by rw [hst];exact List.mem_filterMap.mpr ⟨X.env,mem_cons_self,by rw [z];exact hf⟩)
   have hafs:a∉X.fs:=fun z=>haf (by rw [hst];obtain ⟨en,h1,h2⟩:=List.mem_filterMap.mp z;exact List.mem_filterMap.mpr ⟨en,LX _ h1,h2⟩)
   have I4:Inv (w9 X pins a oe) [] σ1 H' { s1 with heap:=h3 }:=yt I3 he hHa hal hafs fun v z=>by rw [hd] at z;cases z
   have hlo:=S.loo ie en hie hel
   have hN:X.N.Nodup:=by rw [S.hN];exact S.nd
   have hiN:X.N[ie]?=some en:=by rw [S.hN];exact hie
   refine DX (X:=w9 X pins a oe) (v:=.ref a) I4 hN hiN (.inl hlo) rfl (fun s5 I5=>?_) (.inr hlo)
   have hiσ:ie<σ1.length:=by rw [I3.len];exact (L0 hiN).1
   refine wpAny_mono (hh pins a C oe c hcm hC hcls ⟨vs,hd⟩ [] s5 _ H' { nx:=fun σ' H'=>D0.nx (σ'.set ie none) H',rt:=fun _ _=>False } I5 ⟨by unfold lh;exact getElem?_set_self hiσ,He,O,Fs',Γ',E'.nm (vB hcl.2),?_⟩) (fun f s6 h6=>?_) fun _ _ z=>z.elim
   ·cases ek:k c Γ' with
    | nx Γ2=>
     rw [ek] at hW;intro σ2 H2 Fs2 E2;have hW:lu X.K W0 He O D0 (if isN Γ2[ie]? then .nx Γ2 else .no):=hW
     cases hn2:isN Γ2[ie]? with
     | false=>rw [hn2] at hW;exact hW.elim
     | true=>rw [hn2] at hW;exact hW _ H2 Fs2 (E2.nm (vB hn2))
    | bk Γ2=>rw [ek] at hW;exact hW.elim
    | ct Γ2=>rw [ek] at hW;exact hW.elim
    | rt p=>rw [ek] at hW;exact hW.elim
    | er c2 Γ2=>rw [ek] at hW;exact hW.elim
    | no=>rw [ek] at hW;exact hW.elim
   ·cases f with
    | next=>
     obtain ⟨σ2,H2,J2,q⟩:=h6;exact yz (yu I2.ok J2) hN hiN hlo fun s7 I7=>⟨_,H2,I7,q⟩
    | brk=>obtain ⟨_,_,_,q⟩:=h6;exact q.elim
    | cont=>obtain ⟨_,_,_,q⟩:=h6;exact q.elim
    | ret u=>obtain ⟨_,_,_,_,_,q⟩:=h6;exact q.elim
section
variable {K:Fg} {W:XW} {σ:St} {H:Hp} {fa fb:F1} {c:FB}
theorem pB {Q Q':Bool->Hp->Prop} (h:tT K W c σ H Q) (i:∀b H',Q b H'->Q' b H'):tT K W c σ H Q':=by
 obtain ⟨He,O,Fs,Γ,E,h⟩:=h;refine ⟨He,O,Fs,Γ,E,?_⟩
 cases e:c Γ with
 | ok p Γ'=>rw [e] at h;exact fun H' Fs' s E' n=>i _ _ (h H' Fs' s E' n)
 | er c Γ'=>rw [e] at h;exact h
 | no=>rw [e] at h;exact h
theorem uA {Q:VK} {v:V} {d:L8} (s:Sc v d) (h:tE K W (eK d) σ H Q):Q v H:=by
 obtain ⟨He,O,Fs,Γ,E,h⟩:=h;exact Wants.scal (W:=W) h s (Same.refl _) E (fun a ha=>ha) E.ndO fun a ha=>.inl ha
end
def zE (φ:St->Prop) (t:TA):TA:=fun σ H Q=>φ σ/\t σ H Q
def tj (φ:St->Prop) (t:TT):TT:=fun σ H Q=>φ σ/\t σ H Q
def jw (X:Cx) (a C:Addr):Prop:=∀pins σ H s,Inv X pins σ H s->wM a C s.heap
def J9 (K:Fg) (a C:Addr) (cv:V) (cu:Value):List V->Hp->VK->Prop:=fun xs H Q=>∃b,xs=[.ref a,cv]/\PySem.W.kitOne K (.ref C) cu=some b/\Q (.bl b) H
section
variable {X:Cx} {N gl:List Str} {vs cs ls lo gs:List Nat} {W:XW} {φ:St->Prop} {a b c e:Expr} {es:List Expr} {pos p:Pos} {fa fb fc:F1} {fl:FL} {ga gb:FB} {g1 g2:FS}
theorem nB {x C:Addr} {cv:V} {cu:Value} (hx:jw X x C) (Z:fH X.K C) (hr:∀u,RelV cv u->u=cu):CallR X (.builtin "isinstance") (J9 X.K x C cv cu):=by
 intro pins s σ H xs us Q I rv h;obtain ⟨b,rfl,hk,q⟩:=h;match us,rv with
 | [u,t],.cons r1 (.cons r2 .nil)=>
  cases (show u=Value.ref x from r1)
  cases hr t r2
  exact PySem.W.kia_one (vt Z) I.kIn (hx _ _ _ _ I) hk nofun fun tk=>⟨.bl b,H,I.tok tk,rfl,q⟩
theorem gu (h:PE X a (tE X.K W fa)):PE X a (tG φ (tE X.K W fa)):=aY h fun _ _ _ h=>h.2
theorem FZ {i:Nat} {x C D:Addr} {ex d:Str} {p1 p2:Pos} {bb:Bool} (S:Cp { X with calm:=true } N gl vs cs ls lo gs) (hx:jw X x C) (Z:fH X.K C) (hk:PySem.W.kitOne X.K (.ref C) (.ref D)=some bb) (hD:X.mg d=some (.ref D)) (hmi:X.mg "isinstance"=none)
  (hN:N[i]?=some ex) (hv:vs.contains i=true) (j k:Nat) (hj:gl[j]?=some ("isinstance":Str)) (hg:gs.contains j=true) (hk2:gl[k]?=some d) (hg2:gs.contains k=true) :
  PE X (.Call (.Name "isinstance" p) [.Name ex p1,.Name d p2] [] pos) (tG (lh i x) (tE X.K W (eK (.bool bb)))):=by
 have m:=S.nm ex (mem_of_getElem? hN)
 have hvar:PE X (.Name ex p1) (fA i):=qH (by show X.N[i]?=_;rw [show X.N=N from S.hN];exact hN) (S.vis i ex hN hv) m.1 m.2
 refine aY (Ex (nB (cv:=.ref D) (cu:=.ref D) hx Z fun u hu=>hu) (S.g hj hg).1 hmi Jo (tM hvar (tM (pZ (v:=.ref D) (S.g hk2 hg2).1 hD rfl (S.g hk2 hg2).2.1) Aw rfl) rfl) (S.g hj hg).2.2 (S.g hj hg).2.1 rfl rfl) fun σ H Q h=>?_
 exact ⟨.ref x,h.1,bb,rfl,hk,uA (.bl bb) h.2⟩
theorem Dd {i:Nat} {x C:Addr} {ex d:Str} {T:String} {p1 p2:Pos} {bb:Bool} (S:Cp { X with calm:=true } N gl vs cs ls lo gs) (hx:jw X x C) (Z:fH X.K C) (hk:PySem.W.kitOne X.K (.ref C) (.type T)=some bb) (hD:X.mg d=none) (hb:bootBuiltins d=some (.type T)) (hmi:X.mg "isinstance"=none)
  (hN:N[i]?=some ex) (hv:vs.contains i=true) (j k:Nat) (hj:gl[j]?=some ("isinstance":Str)) (hg:gs.contains j=true) (hk2:gl[k]?=some d) (hg2:gs.contains k=true) :
  PE X (.Call (.Name "isinstance" p) [.Name ex p1,.Name d p2] [] pos) (tG (lh i x) (tE X.K W (eK (.bool bb)))):=by
 have m:=S.nm ex (mem_of_getElem? hN)
 have hvar:PE X (.Name ex p1) (fA i):=qH (by show X.N[i]?=_;rw [show X.N=N from S.hN];exact hN) (S.vis i ex hN hv) m.1 m.2
 refine aY (Ex (nB (cv:=.ty T) (cu:=.type T) hx Z fun u hu=>hu) (S.g hj hg).1 hmi Jo (tM hvar (tM (p8 (v:=.ty T) (S.g hk2 hg2).1 hD hb rfl (S.g hk2 hg2).2.2 (S.g hk2 hg2).2.1) Aw rfl) rfl) (S.g hj hg).2.2 (S.g hj hg).2.1 rfl rfl) fun σ H Q h=>?_
 exact ⟨.ref x,h.1,bb,rfl,hk,uA (.bl bb) h.2⟩
theorem FX:PA X [] (zE φ (tA X.K W ag)):=qC da_nil fun _ _ _ h=>h.2
theorem De (ha:PE X e (tG φ (tE X.K W fa))) (hr:PA X es (zE φ (tA X.K W fl))) (hs:starEach (e::es) X.env=(false,eval e X.env)::starEach es X.env:=by exact dC rfl):PA X (e::es) (zE φ (tA X.K W (ae fa fl))):=
 qC (tM ha hr hs) fun σ H Q h=>⟨h.1,Iz (pO h.2) fun v H1 q=>⟨h.1,q⟩⟩
theorem Dc (s:Sh) (h:PA X es (zE φ (tA X.K W fl))):PE X (.List es pos) (tG φ (tE X.K W (aM s fl))):=aY (vd h) fun σ H Q h=>⟨h.1,pN h.2⟩
theorem F9 (ha:PE X a (tG φ (tE X.K W fa))) (hb:PE X b (tG φ (tE X.K W fb))):PE X (.BinOp a .Add b pos) (tG φ (tE X.K W (cO fa fb))):=
 aY (fP p9 ha hb) fun σ H Q h=>⟨h.1,Iz (uU h.2) fun v H1 q=>⟨h.1,q⟩⟩
theorem FW (S:Cp { X with calm:=true } N gl vs cs ls lo gs) (i:Nat) {x:Str} (hN:N[i]?=some x) (hv:vs.contains i=true):PE X (.Name x pos) (tE X.K W (af i)):=by
 have m:=S.nm x (mem_of_getElem? hN)
 exact wo (qH (by show X.N[i]?=_;rw [show X.N=N from S.hN];exact hN) (S.vis i x hN hv) m.1 m.2)
theorem C0 (ha:PE X a (tG φ (tE X.K W fa))) (he:∀whole,isTrue a X.env whole=(do let v <-whole;standAt a.pos;holding [v] (truthy v)):=by intro _;rfl):PT X a (tj φ (tT X.K W (aL bh fa))):=j8 (mv ha he) fun σ H Q h=>⟨h.1,uM h.2⟩
theorem C2 (ha:PT X a (tj φ (tT X.K W ga))):PT X (.UnaryOp .Not a pos) (tj φ (tT X.K W (bY ga))):=j8 (u5 ha) fun σ H Q h=>⟨h.1,pR h.2⟩
theorem C1 (ha:PT X a (tT X.K W ga)) (hb:PT X b (tj φ (tT X.K W gb))):PT X (.BoolOp .Or [a,b] pos) (tj φ (tT X.K W (d5 ga gb))):=
 PW.pt (wJ (zN ha (u4 hb)) fun σ H Q h=>pB (uX h.2) fun c H1 q=>by
  cases c with
  | true=>exact q
  | false=>exact kH ⟨h.1,by simpa using q⟩)
def tZ (i:Nat) (x:Addr) (K:Fg) (W:XW) (g:FS):TS:=fun D σ H=>lh i x σ/\tN [i] K W g D σ H
theorem Ec {i:Nat} {x:Addr} {st:Stmt} {g:FS} (h:PS X st (tZ i x X.K W g)):PSs X [st] (tZ i x X.K W g):=Iu h
theorem Ed {i:Nat} {x:Addr}:PSs X [] (tZ i x X.K W aH):=Ef Ir fun _ _ _ h=>uQ h.2
theorem Ak {i:Nat} {x:Addr} {st:Stmt} {rest:List Stmt} (h1:PS X st (tZ i x X.K W g1)) (h2:PSs X rest (tZ i x X.K W g2)):PSs X (st::rest) (tZ i x X.K W (ak g1 g2)):=
 Ef (mw h1 h2) fun D σ H h=>by
  refine ⟨h.1,?_⟩
  have q:=xH h.2
  refine pC (D':=nD [i] { D with nx:=tZ i x X.K W g2 D } σ) q (fun σ1 H1 z a=>⟨?_,z a⟩) rfl rfl rfl
  unfold lh;rw [a i (List.mem_singleton.mpr rfl)];exact h.1
theorem Ea {i k:Nat} {x:Addr} {y:Str} {pos':Pos} (S:Cp { X with calm:=true } N gl vs cs ls lo gs) (hki:(k==i)=false) (hk:N[k]?=some y) (hl:ls.contains k=true) (ha:PE X a (tG (lh i x) (tE X.K W fa))) (hs:swapsWith a (some (.Name y pos')) pos.line X.env=pure false:=by rfl):PS X (.Assign [.Name y pos'] a pos) (tZ i x X.K W (ax false k fa)):=
 cB (IE (by show X.N.Nodup;rw [show X.N=N from S.hN];exact S.nd) (by show X.N[k]?=_;rw [show X.N=N from S.hN];exact hk) (S.loc k y hk hl).1 ha hs (S.loc k y hk hl).2) fun D σ H h=>⟨h.1,xF (by simpa using hki) h.2⟩
theorem Ii {i:Nat} {x:Addr} {A B:List Stmt} (hc:PT X c (tj (lh i x) (tT X.K W ga))) (ha:PSs X A (tZ i x X.K W g1)) (hb:PSs X B (tZ i x X.K W g2)):PS X (.If c A B pos) (tZ i x X.K W (bD ga g1 g2)):=
 cB (zO hc ha hb) fun D σ H h=>⟨h.1,pB (BE h.2) fun b H1 q=>by
  cases b with
  | true=>exact ⟨h.1,q⟩
  | false=>exact kH ⟨h.1,by simpa using q⟩⟩
theorem Eb {i:Nat} {x:Addr} (ha:PE X a (tG (lh i x) (tE X.K W fa))):PS X (.Return (some a) pos) (tZ i x X.K W (aF fa)):=cB (u9 ha) fun D σ H h=>⟨h.1,uP (D:=nD [i] D σ) h.2⟩
end
theorem II:∀{ns:List Bool} {us:List Value},Vals (ns.map V.bl) us->us=ns.map Value.bool
 | [],_,.nil=>rfl
 | n::ns,_,.cons r t=>by
  cases (show _=Value.bool n from r)
  rw [II t];rfl
def vA:Value->Bool
 | .bool b=>b==true
 | _=>false
theorem jS (b:Bool):vA (.bool b)=b:=by cases b<;>rfl
def B1 (K:Fg):V->List V->Hp->VK->Prop:=fun x xs H Q=>∃(l:Addr) (ns:List Bool),x=.ref l/\xs=[.bl true]/\SqL K H l (ns.map V.bl)/\Q (.int (ns.count true:Nat)) H
def BX (K:Fg):V->List V->Hp->VK->Prop:=fun x xs H Q=>∃(l:Addr) (ns:List Bool) (j:Nat),x=.ref l/\xs=[.bl true]/\SqL K H l (ns.map V.bl)/\ns[j]?=some true/\(∀m,m<j->ns[m]?≠some true)/\Q (.int j) H
theorem rR {X:Cx}:GD X "list.count" (B1 X.K):=by
 intro pins s σ H x xs v us Q I rx rv h;obtain ⟨l,ns,rfl,rfl,hS,q⟩:=h
 cases rx;obtain ⟨u,rfl,ru⟩:=rv.one
 cases (show u=Value.bool true from ru)
 obtain ⟨its,r,pl,hz⟩:=I.list hS;have hI:=II r
 subst hI;obtain ⟨o,n,ho,hc,hd,hdt⟩:=pl;obtain ⟨ocls,odict,odata,oslots⟩:=o;simp only at hc hd hdt
 subst hc hd hdt;refine call_meets F.slot_list_count ⟨_,ho,rfl⟩ F.entry_list_count (F.args_list_count_2 _ _) (SeqAt.list_countAt l (ns.map Value.bool).toArray n none oslots (.bool true) vA) ⟨ho,fun y hy=>?_,?_⟩
 ·obtain ⟨b,_,rfl⟩:=List.mem_map.mp (show y∈ns.map Value.bool by exact Array.mem_def.mp hy)
  exact SeqAt.EqAt.bool_bool b true
 ·have e:(ns.map Value.bool).toArray.toList.countP vA=ns.count true:=by
   show (ns.map Value.bool).countP vA=_
   rw [List.countP_map];unfold List.count;congr 1
  rw [e];exact ⟨.int (ns.count true:Nat),H,I.tok _,⟨_,rfl⟩,q⟩
theorem rQ {X:Cx}:GD X "list.index" (BX X.K):=by
 intro pins s σ H x xs v us Q I rx rv h;obtain ⟨l,ns,j,rfl,rfl,hS,hj,hno,q⟩:=h
 cases rx;obtain ⟨u,rfl,ru⟩:=rv.one
 cases (show u=Value.bool true from ru)
 obtain ⟨its,r,pl,hz⟩:=I.list hS;have hI:=II r
 subst hI;have hjl:j<(ns.map Value.bool).toArray.size:=by rw [size_toArray,length_map];exact (L0 hj).1
 obtain ⟨o,n,ho,hc,hd,hdt⟩:=pl;obtain ⟨ocls,odict,odata,oslots⟩:=o;simp only at hc hd hdt
 subst hc hd hdt;have hsm:(j:Int)<2 ^ 63-1:=by
  rw [length_map] at hz;have h1:sizeLine<2 ^ 62:=by decide
  have:=(L0 hj).1
  omega
 refine call_meets F.slot_list_index ⟨_,ho,rfl⟩ F.entry_list_index (F.args_list_index_2 _ _) (SeqAt.list_indexAt l (ns.map Value.bool).toArray n none oslots (.bool true) vA j hjl hsm ?_ fun m hm hmj=>?_) ⟨ho,fun y hy=>?_,⟨.int j,H,I.tok _,⟨_,rfl⟩,q⟩⟩
 ·rw [List.getElem_toArray,List.getElem_map,jS]
  obtain ⟨hl,e⟩:=L0 hj
  exact e
 ·rw [List.getElem_toArray,List.getElem_map,jS]
  have hml:m<ns.length:=by rw [size_toArray,length_map] at hm;exact hm
  have:=hno m hmj
  rw [LV hml] at this
  cases e:ns[m] with
  | false=>rfl
  | true=>rw [e] at this;exact absurd rfl this
 ·obtain ⟨b,_,rfl⟩:=List.mem_map.mp (show y∈ns.map Value.bool by exact Array.mem_def.mp hy)
  exact SeqAt.EqAt.bool_bool b true
def D6:List Bool->Option Nat
 | []=>none
 | n::r=>if n then some 0 else (D6 r).map (·+1)
theorem vx:∀{ns:List Bool} {j:Nat},D6 ns=some j->ns[j]?=some true/\∀m,m<j->ns[m]?≠some true
 | [],_,h=>by cases h
 | n::r,j,h=>by
  unfold D6 at h
  cases n with
  | true=>cases h;exact ⟨rfl,fun m hm=>by omega⟩
  | false=>
   cases hr:D6 r with
   | none=>rw [hr] at h;cases h
   | some j'=>
    rw [hr] at h
    cases h;obtain ⟨h1,h2⟩:=vx hr;refine ⟨by simpa using h1,fun m hm=>?_⟩
    cases m with
    | zero=>simp
    | succ m=>simpa using h2 m (by have:m+1<j'+1:=hm;omega)
def sr (i:Nat):F1:=fun Γ=>match Γ[i]? with
 | some (some ⟨.leaf,.list ds⟩)=>(match nL ds with
  | some ns=>.ok ⟨.leaf,.int (ns.count true:Nat)⟩ Γ
  | none=>.no)
 | _=>.no
def sq (i:Nat):F1:=fun Γ=>match Γ[i]? with
 | some (some ⟨.leaf,.list ds⟩)=>(match nL ds with
  | some ns=>(match D6 ns with
   | some j=>.ok ⟨.leaf,.int (j:Nat)⟩ Γ
   | none=>.no)
  | none=>.no)
 | _=>.no
section
variable {K:Fg} {W:XW} {σ:St} {H:Hp} {Q:VK}
theorem BL {i:Nat} (h:tE K W (sr i) σ H Q):zF K "list" (B1 K) (fA i) (jH (tC (.bl true)) uy) σ H Q:=by
 obtain ⟨He,O,Fs,Γ,E,h⟩:=h;have h:Wants K W He O Fs H σ Q (sr i Γ):=h
 unfold sr at h;split at h
 ·rename_i ds e0
  obtain ⟨l,vs,h1,h2,h3⟩:=G0 E e0;refine ⟨.ref l,h1,.inl ⟨rfl,vs,h2⟩,?_⟩
  cases hi:nL ds with
  | none=>rw [hi] at h;exact h.elim
  | some ns=>
   rw [hi] at h;rw [Hu hi] at h3;have ev:=Hw h3
   subst ev;exact ⟨l,ns,rfl,rfl,h2,h _ _ _ _ (Im E (Same.refl _) (fun a ha=>.inl ha) (.int _))⟩
 ·exact h.elim
theorem BB {i:Nat} (h:tE K W (sq i) σ H Q):zF K "list" (BX K) (fA i) (jH (tC (.bl true)) uy) σ H Q:=by
 obtain ⟨He,O,Fs,Γ,E,h⟩:=h;have h:Wants K W He O Fs H σ Q (sq i Γ):=h
 unfold sq at h;split at h
 ·rename_i ds e0
  obtain ⟨l,vs,h1,h2,h3⟩:=G0 E e0;refine ⟨.ref l,h1,.inl ⟨rfl,vs,h2⟩,?_⟩
  cases hi:nL ds with
  | none=>rw [hi] at h;exact h.elim
  | some ns=>
   rw [hi] at h;dsimp only at h
   cases hj:D6 ns with
   | none=>rw [hj] at h;exact h.elim
   | some j=>
    rw [hj] at h;rw [Hu hi] at h3;have ev:=Hw h3
    subst ev;obtain ⟨a1,a2⟩:=vx hj;exact ⟨l,ns,j,rfl,rfl,h2,a1,a2,h _ _ _ _ (Im E (Same.refl _) (fun a ha=>.inl ha) (.int _))⟩
 ·exact h.elim
end
section
variable {X:Cx} {N gl:List Str} {vs cs ls lo gs:List Nat} {W:XW} {p:Pos}
theorem Dy (S:Cp { X with calm:=true } N gl vs cs ls lo gs) (i:Nat) {x:Str} {kb:Nat} {apos cpos bp:Pos} (hi:N[i]?=some x) (hv:vs.contains i=true) (hbase:attributeBase (.Name x p) "count" X.env (eval (.Name x p) X.env)=eval (.Name x p) X.env:=by rfl) (hline:(apos.endLine==cpos.line)=true:=by rfl) :
  PE X (.Call (.Attribute (.Name x p) "count" apos) [.Constant (.bool true) kb bp] [] cpos) (tE X.K W (sr i)):=by
 have m:=S.nm x (mem_of_getElem? hi)
 exact aY (iq (T := "list") (r:=B1 X.K) F.plainAttrs_list F.slot_list_count F.type_list_count rR (qH (by show X.N[i]?=_;rw [show X.N=N from S.hN];exact hi) (S.vis i x hi hv) m.1 m.2) (tM vi Aw rfl) hbase rfl hline rfl rfl) fun _ _ _=>BL
theorem Dx (S:Cp { X with calm:=true } N gl vs cs ls lo gs) (i:Nat) {x:Str} {kb:Nat} {apos cpos bp:Pos} (hi:N[i]?=some x) (hv:vs.contains i=true) (hbase:attributeBase (.Name x p) "index" X.env (eval (.Name x p) X.env)=eval (.Name x p) X.env:=by rfl) (hline:(apos.endLine==cpos.line)=true:=by rfl) :
  PE X (.Call (.Attribute (.Name x p) "index" apos) [.Constant (.bool true) kb bp] [] cpos) (tE X.K W (sq i)):=by
 have m:=S.nm x (mem_of_getElem? hi)
 exact aY (iq (T := "list") (r:=BX X.K) F.plainAttrs_list F.slot_list_index F.type_list_index rQ (qH (by show X.N[i]?=_;rw [show X.N=N from S.hN];exact hi) (S.vis i x hi hv) m.1 m.2) (tM vi Aw rfl) hbase rfl hline rfl rfl) fun _ _ _=>BB
end
structure RoomH (k:Nat) (A:Around):Prop where
 dp:A.depth+3*k+5<recursionLimit
 un:A.units+16*k+200<cLine
 gd:A.guards=some []
theorem Room.mark {k:Nat} {A:Around} (r:Room k A) (v:Option Value):RoomH k (A.mark v):=⟨r.dp,r.un,r.gd⟩
theorem RoomH.mono {j k:Nat} {A:Around} (r:RoomH k A) (h:j<=k):RoomH j A:=⟨by have:=r.dp;omega,by have:=r.un;omega,r.gd⟩
theorem RoomH.deeper {k:Nat} {A:Around} (r:RoomH (k+1) A) (env:Env):RoomH k (A.deeper env):=
 ⟨by have:=r.dp;show A.depth+1+3*k+5<_;omega,by have:=r.un;show A.units+3+16*k+200<_;omega,r.gd⟩
def Gh (P:Program) (w:World) (K:Fg) (mg:Str->Option Value) (base:Heap) (N:List Str) (qual:Str) (scope:Scope) (f:Addr) (cd:Value) (A:Around) (outer:List Env) (s:Shared) (H:Hp):Cx:=
 { fm ka P w K mg base N qual scope f cd A outer s H E0 with calm:=false,xe:=fun _ _=>False }
theorem Dj {P:Program} {w:World} {K:Fg} {mg:Str->Option Value} {base:Heap} {k:Nat} {f:Addr} {name qual:Str} {params:Arguments} {body:List Stmt} {scope:Scope} {dV kV doc pm cdv ct oc:Value} {an od:Option Addr}
  {osl:Array (Option Value)} {N ps:List Str} (lk:K.lookup f=some ⟨oc,od,.func (PySem.W.fnOf name qual params body scope dV kV doc pm an cdv ct),osl⟩) (hcd:PySem.W.codeIn K cdv qual=true) (S:d6 N ps scope)
  {A:Around} {outer:List Env} {s:Shared} {H:Hp} {args:Args} {us:List Value} {vs:List V} {Q:VK} {t:TS} (hr:RoomH (k+1) A) (e0:sW P w K mg base A outer s H) (hb:BindsTo s (PySem.W.fnOf name qual params body scope dV kV doc pm an cdv ct) args (ps.zip us)) (r:Vals vs us) (hl:vs.length=ps.length)
  (ht:PSs (Gh P w K mg base N qual scope f cdv A outer s H) body t) (hq:t { nx:=fun _ H'=>Q .non H',rt:=Q } (start N vs) H):codeAny (model P w) A (.call (.ref f) args) (CR ka outer P w H s Q E0) s:=by
 have KX:K.In s.heap:=e0.mod.kin.keeps fun b o e=>(e0.bs b o e).1
 have lim:s.heap.NoLimit:=e0.mod.nolimit.keeps fun b o e=>(e0.bs b o e).1
 have hkind:∀y∈ps.zip us,scope.names.lookup y.1=some .local\/(scope.names.lookup y.1=some .cell/\((cellsFrom (s.heap.objs.size+1) scope.names []).lookup y.1).isSome=true):=fun ⟨n,v⟩ hy=>by
  rcases S.par n (of_mem_zip hy).1 with q | q
  ·exact .inl q
  ·exact .inr ⟨q,PySem.W.cellsFrom_some _ _ _ (.inl q)⟩
 refine codeAny_call_function (by have:=hr.dp;omega) (KX _ _ lk) rfl S.co S.gen rfl (PySem.W.codeRec_of KX hcd) (hb _ _ _ _ ?_)
 refine wpAny_newFunctionEnv_cells S.kind hkind fun env he s1 x=>?_
 subst he;refine ⟨lim.keeps x.toInCall.keep,codeAny_func ?_⟩
 have J:Inv (fm ka P w K mg base N qual scope f cdv { A with handled:=none } outer s H E0) [] (start N vs) H s1:=jT S rfl ⟨e0.frames,e0.mod,e0.bs,e0.bsz,e0.funs,e0.frf,e0.hok,e0.bare⟩ hl r x
 have I:Inv (Gh P w K mg base N qual scope f cdv A outer s H) [] (start N vs) H s1:=
  ⟨⟨J.ok.mod,J.ok.kind,J.ok.glob,J.ok.blt,J.ok.above,J.ok.inj,J.ok.has,J.ok.cab,fun z=>(nomatch z),Around.frames_deeper e0.frames,J.ok.stk,J.ok.exf,J.ok.bs,J.ok.bsz,J.ok.noex,J.ok.exfs,J.ok.funs,J.ok.frf⟩,J.os,J.bare,J.base,J.loc,J.cell,J.free,J.freeC,J.pin,J.hok,J.len⟩
 refine wpAny_mono (ht [] s1 (start N vs) H _ I hq) (fun fl s' hs=>?_) fun e s' hs=>hs.elim
 have fin:∀{σ':St} {H':Hp} {v:V} {u:Value},Inv (Gh P w K mg base N qual scope f cdv A outer s H) [] σ' H' s'->RelV v u->Q v H'->CE outer P w H s Q u s':=
  fun {σ' H' v u} J rv q=>⟨v,H',J.os,J.bare,J.base,J.hok,rv,q⟩
 cases fl with
 | ret u=>
  obtain ⟨v,σ',H',J,rv,q⟩:=hs;exact fin J rv q
 | next=>
  obtain ⟨σ',H',J,q⟩:=hs;exact fin (v:=V.non) (u:=Value.none) J rfl q
 | brk=>
  obtain ⟨_,_,_,q⟩:=hs;exact False.elim q
 | cont=>
  obtain ⟨_,_,_,q⟩:=hs;exact False.elim q
def Dt (n:Nat) (g:FS):Res:=match g (List.replicate n none) with
 | .nx _=>.ok ⟨.leaf,.none⟩
 | .rt p=>.ok p
 | _=>.no
def Kv (P:Program) (w:World) (K:Fg) (mg:Str->Option Value) (base:Heap) (k:Nat) (f:Addr) (fd:FuncData) (q:Str) (cl:List Str) (m:Str->Res):Prop:=
 ∀(A:Around) (outer:List Env) (s:Shared) (H:Hp) (a C:Addr) (c:Str) (O:List Addr) (Q:VK) (args:Args),RoomH k A->sW P w K mg base A outer s H->wM a C s.heap->H a=none->a∉gw outer->c∈cl->mg c=some (.ref C)->O.Nodup->(∀b∈O,H b≠none) ->
  (match m c with | .ok p=>∀v H' G,RetOk K H O p v H' G->Q v H' | _=>False)->BindsTo s fd args ([q].zip [.ref a])->codeAny (model P w) A (.call (.ref f) args) (CR ka outer P w H s Q E0) s
def Ee (P:Program) (w:World) (K:Fg) (mg:Str->Option Value) (base:Heap) (k:Nat) (x:Str) (cl:List Str) (m:Str->Res):Prop:=
 ∃(f:Addr) (fd:FuncData) (q:Str),mg x=some (.ref f)/\PySem.W.keepIn K (.ref f)=true/\Binds K fd [q] []/\Kv P w K mg base k f fd q cl m
structure InH (p:Fg->(Str->Option Value)->Prop) (X:Cx) (P:Program) (w:World) (K:Fg) (mg:Str->Option Value) (base:Heap) (k:Nat):Prop where
 e1:X.prog=P
 e2:X.w=w
 e3:X.K=K
 e4:X.mg=mg
 e5:X.base=base
 rm:RoomH k X.A
 pp:p K mg
theorem InH.r {p:Fg->(Str->Option Value)->Prop} {X:Cx} {P:Program} {w:World} {K:Fg} {mg:Str->Option Value} {base:Heap} {k:Nat} (I:InH p X P w K mg base k):Rm X:=by
 have:=I.rm.un
 unfold Rm;omega
section
variable {p:Fg->(Str->Option Value)->Prop} {P:Program} {w:World} {K:Fg} {mg:Str->Option Value} {base:Heap} {k:Nat} {x q:Str} {st:Stmt} {cl:List Str} {d:Str->FS}
theorem Lw (F:Ft K mg x st) (e:p K mg) (q:Str) (b:sX x st [q]) (rs gl:List Str) (vs cs gs:List Nat)
  (hb:∀(X:Cx) (a C:Addr) (c:Str),c∈cl->mg c=some (.ref C)->Cp { X with calm:=true } ([q]++rs) gl vs cs vs (oz vs cs) gs->InH p X P w K mg base k->jw X a C->PSs X (qJ st) (tZ 0 a X.K W0 (d c)))
  (h:fB ([q]++rs) gl [q] vs cs gs st=true:=by kernel_rfl):Ee P w K mg base (k+1) x cl (fun c=>Dt ([q]++rs).length (d c)):=by
 obtain ⟨f,fd,hm,F⟩:=F;obtain ⟨h1,h2,h3⟩:=ql h;refine ⟨f,fd,q,hm,F.kp,Ei F b,fun A outer s H a C c O Q args hr e0 hx hH haf hc hC nd inH hw hbn=>?_⟩
 obtain ⟨oc,od,kV,doc,pm,an,cdv,ct,osl,rfl,lk,hcd⟩:=F.ex;have hex:jw (Gh P w K mg base ([q]++rs) x (hJ st) f cdv A outer s H) a C:=fun pins σ H' s' I=>by
  obtain ⟨oe,vs,g,hc1,hd⟩:=hx;exact ⟨oe,vs,I.base.keep a oe g hH haf nofun,hc1,hd⟩
 have S:Cp { Gh P w K mg base ([q]++rs) x (hJ st) f cdv A outer s H with calm:=true } ([q]++rs) gl vs cs vs (oz vs cs) gs:=by
  obtain ⟨a1,b1,c1⟩:=GM h2;have q1:=Ej h1
  exact ⟨rfl,a1,b1,c1,q1.vis,q1.cel,fun i x e hi=>⟨q1.loc i x e hi,.inl rfl⟩,q1.loo,q1.glb,rfl,q1.kind⟩
 refine Dj (k:=k) lk hcd h3 (vs:=[.ref a]) hr e0 hbn (.cons rfl .nil) rfl (hb _ a C c hc hC S ⟨rfl,rfl,rfl,rfl,rfl,hr.deeper _,e⟩ hex) ?_
 refine ⟨rfl,H,O,List.replicate ([q]++rs).length [],List.replicate ([q]++rs).length none,?_,?_⟩
 ·have fl:(List.replicate ([q]++rs).length ([]:List Addr)).flatten=[]:=by simp
  refine ⟨by simp [L2.start],by simp,Same.refl _,by rw [fl];simpa using nd,by rw [fl];simpa using inH,fun a ha=>by rw [fl] at ha;simp at ha,fun i p hp=>?_⟩
  rw [getElem?_replicate] at hp;split at hp<;>cases hp
 ·unfold Dt at hw
  dsimp only at hw
  cases e:d c (List.replicate ([q]++rs).length none) with
  | nx Γ'=>
   rw [e] at hw;exact fun σ' H' Fs' E' _=>hw .non H' [] ⟨E'.same,(fun _ z=>nomatch z),(fun _ z=>nomatch z),nodup_nil,.leaf .non,rfl⟩
  | rt p=>rw [e] at hw;exact hw
  | bk Γ'=>rw [e] at hw;exact hw.elim
  | ct Γ'=>rw [e] at hw;exact hw.elim
  | er c Γ'=>rw [e] at hw;exact hw.elim
  | no=>rw [e] at hw;exact hw.elim
end
def oJ (r:Res):F1:=fun Γ=>match r with
 | .ok p=>.ok p Γ
 | _=>.no
theorem Df {X:Cx} {pins:List (Addr×Obj)} {a C:Addr} {oe:Obj} {c:Str} {N gl:List Str} {vs cs ls lo gs:List Nat} {W:XW} {ie k kk:Nat} {x en:Str} {cl:List Str} {m:Str->Res} {pos p p1:Pos} (S:Cp X N gl vs cs ls lo gs) (hst:X.stack=X.env::X.outer) (hf:X.env.frame=some X.env.locals)
  (F:Ee X.prog X.w X.K X.mg X.base k x cl m) (hr:Room kk X.A) (hk:decide (k<=kk)=true) (hc:c∈cl) (hC:X.mg c=some (.ref C)) (hcl:oe.cls=.ref C) (hd:∃vs,oe.data=.fields vs) (hN:N[ie]?=some en) (hv:vs.contains ie=true) (j:Nat) (hj:gl[j]?=some x) (hg:gs.contains j=true) :
  PE (w9 X pins a oe) (.Call (.Name x p) [.Name en p1] [] pos) (tG (lh ie a) (tE X.K W (oJ (m c)))):=by
 obtain ⟨f,fd,q,hm,hkp,hb,run⟩:=F;have mm:=S.nm en (mem_of_getElem? hN)
 have hvar:PE (w9 X pins a oe) (.Name en p1) (fA ie):=qH (by show X.N[ie]?=_;rw [S.hN];exact hN) (S.vis ie en hN hv) mm.1 mm.2
 intro pins' s σ H Q I h
 obtain ⟨h1,He,O,Fs,Γ,E,h2⟩:=h;refine wpAny_Call_Name_kw (AB I (S.g hj hg).1 hm ?_ (S.g hj hg).2.1)
 refine PySem.W.callWith_K (h₀:=X.base) I.ok.mod.kin hkp (bK (tM hvar Aw rfl pos pins' s σ H (fun vs H1=>vs=[.ref a]/\H1=H) I ⟨.ref a,h1,rfl,rfl⟩) fun us s1 ⟨vs,H1,I1,r,q1,q2⟩=>⟨I1.kIn,?_⟩) (dC rfl) rfl
 subst q1 q2;obtain ⟨u,rfl,ru⟩:=r.one
 cases (show u=Value.ref a from ru)
 obtain ⟨e,n,ne,nf,dd⟩:=I1.pin (a,oe) (LQ _ (LP _ (List.mem_singleton.mpr rfl)))
 have haf:a∉gw X.stack:=fun z=>by
  rw [hst] at z;obtain ⟨en',m1,m2⟩:=List.mem_filterMap.mp z;rcases LU m1 with y | y
  ·rw [y,hf] at m2
   exact ne (Option.some.inj m2).symm
  ·exact nf (List.mem_filterMap.mpr ⟨en',y,m2⟩)
 have hb2:=hb s1 [.ref a] I1.kIn rfl
 rw [append_nil] at hb2;obtain ⟨vsd,hdd⟩:=hd;refine wpAny_call (codeAny_mono (run (X.A.mark (some (.ref a))) X.stack s1 _ a C c (O++Fs.flatten) Q ⟨[.ref a],[]⟩ ((Room.mark hr _).mono (of_decide_eq_true hk)) I1.env0 ⟨oe,vsd,e,hcl,hdd⟩ n haf hc hC E.nd E.inH ?_ hb2) fun r s' hq=>?_)
 ·cases em:m c with
  | er c'=>unfold oJ at h2;rw [em] at h2;exact h2.elim
  | no=>unfold oJ at h2;rw [em] at h2;exact h2.elim
  | ok p=>
   unfold oJ at h2;rw [em] at h2;intro v H2 G r;refine h2 v H2 G Fs ⟨r.same,E.hide r.same r.nd r.fresh r.inH,fun b hb=>?_,by rw [append_assoc];exact r.own⟩
   rcases LR hb with z | z
   ·exact .inr (r.fresh b z)
   ·exact .inl z
 ·cases r with
  | error e=>exact hq.elim
  | ok fl=>
   cases fl with
   | ret u=>exact I1.after hq
   | next=>exact False.elim hq
   | brk=>exact False.elim hq
   | cont=>exact False.elim hq
theorem Cp.hand {X:Cx} {pins:List (Addr×Obj)} {a:Addr} {oe:Obj} {N gl:List Str} {vs cs ls lo gs:List Nat} (S:Cp X N gl vs cs ls lo gs):Cp { w9 X pins a oe with calm:=true } N gl vs cs ls lo gs:=⟨S.hN,S.nd,S.nm,S.ng,S.vis,S.cel,S.loc,S.loo,S.glb,rfl,S.kind⟩
theorem Cp.try {X:Cx} {pins:List (Addr×Obj)} {W:Addr->St->Hp->Prop} {N gl:List Str} {vs cs ls lo gs:List Nat} (S:Cp X N gl vs cs ls lo gs):Cp (eQ X pins W) N gl vs cs ls lo gs:=⟨S.hN,S.nd,S.nm,S.ng,S.vis,S.cel,S.loc,S.loo,S.glb,S.calm,S.kind⟩
theorem In.try {p:Fg->(Str->Option Value)->Prop} {X:Cx} {P:Program} {w:World} {K:Fg} {mg:Str->Option Value} {base:Heap} {k:Nat} {pins:List (Addr×Obj)} {W:Addr->St->Hp->Prop} (I:In p X P w K mg base k):In p (eQ X pins W) P w K mg base k:=⟨I.e1,I.e2,I.e3,I.e4,I.e5,I.rm,I.pp⟩
theorem C3 {X:Cx} {N gl:List Str} {vs cs ls lo gs:List Nat} {W:XW} {a:Expr} {pos pos':Pos} {fa:F1} {k:Nat} {φ:St->Prop} {y:Str} (S:Cp { X with calm:=true } N gl vs cs ls lo gs) (hk:N[k]?=some y) (hl:ls.contains k=true) (ha:PE X a (tG φ (tE X.K W fa))) (hs:swapsWith a (some (.Name y pos')) pos.line X.env=pure false:=by rfl) :
  PSs X [.Assign [.Name y pos'] a pos] (JF φ (tS X.K W (ax false k fa))):=
 Iu (cB (IE (by show X.N.Nodup;rw [show X.N=N from S.hN];exact S.nd) (by show X.N[k]?=_;rw [show X.N=N from S.hN];exact hk) (S.loc k y hk hl).1 ha hs (S.loc k y hk hl).2) fun D σ H h=>⟨h.1,GN h.2⟩)
abbrev Lj:List Value:=[.type "ValueError",.type "Exception",.type "BaseException",.type "object"]
def Gi (K:Fg) (D C:Addr) (c:Str) (ds:List Str):Bool:=PySem.W.excIn K C Lj "ValueError.__new__"&&yH K C&&PySem.W.subIn K (.ref C) (.ref D)==some true&&PySem.W.kitOne K (.ref C) (.type "ValueError")==some true&&ds.all fun d=>match PySem.W.nsIn K mainGlobals d with
 | some (some (.ref E))=>PySem.W.kitOne K (.ref C) (.ref E)==some (d==c)
 | _=>false
def Gb (K:Fg) (cl ds:List Str):Bool:=match PySem.W.nsIn K mainGlobals "HallError" with
 | some (some (.ref D))=>PySem.W.typeIn K (.ref D)==some (.type "type")&&yH K D&&cl.all fun c=>match PySem.W.nsIn K mainGlobals c with
  | some (some (.ref C))=>Gi K D C c ds
  | _=>false
 | _=>false
structure GG (K:Fg) (mg:Str->Option Value) (D C:Addr) (c:Str) (ds:List Str):Prop where
 ns:PySem.W.nsIn K mainGlobals c=some (some (.ref C))
 gm:mg c=some (.ref C)
 ei:PySem.W.excIn K C Lj "ValueError.__new__"=true
 ex:fH K C
 sub:PySem.W.subIn K (.ref C) (.ref D)=some true
 ve:PySem.W.kitOne K (.ref C) (.type "ValueError")=some true
 is:∀d,ds.contains d=true->∃E,mg d=some (.ref E)/\PySem.W.kitOne K (.ref C) (.ref E)=some (d==c)
structure ExT (K:Fg) (mg:Str->Option Value) (cl ds:List Str):Prop where
 h:∃D,mg "HallError"=some (.ref D)/\Ai K D/\∀c∈cl,∃C,GG K mg D C c ds
theorem gx {K:Fg} {h:Heap} {mg:Str->Option Value} {cl ds:List Str} (KX:K.In h) (G:h.Ns mainGlobals mg) (z:Gb K cl ds=true):ExT K mg cl ds:=by
 unfold Gb at z;split at z
 ·rename_i D e0
  simp only [Bool.and_eq_true,beq_iff_eq,all_eq_true] at z
  obtain ⟨⟨z1,z2⟩,z3⟩:=z;refine ⟨D,PySem.W.mg_of KX G e0,⟨z1,qm z2⟩,fun c hc=>?_⟩
  have z4:=z3 c hc
  split at z4
  ·rename_i C e1
   unfold Gi at z4;simp only [Bool.and_eq_true,beq_iff_eq,all_eq_true] at z4
   obtain ⟨⟨⟨⟨y1,y2⟩,y3⟩,y4⟩,y5⟩:=z4;refine ⟨C,e1,PySem.W.mg_of KX G e1,y1,qm y2,y3,y4,fun d hd=>?_⟩
   have y6:=y5 d (by simpa using hd)
   split at y6
   ·rename_i E e2
    exact ⟨E,PySem.W.mg_of KX G e2,beq_iff_eq.mp y6⟩
   ·cases y6
  ·cases z4
 ·cases z
theorem ExT.cls {K:Fg} {mg:Str->Option Value} {cl ds:List Str} (E:ExT K mg cl ds) {c:Str} {C:Addr} (hc:c∈cl) (hC:mg c=some (.ref C)):∃D,GG K mg D C c ds:=by
 obtain ⟨D,_,_,h⟩:=E.h;obtain ⟨C',k⟩:=h c hc;have:=k.gm
 rw [hC] at this
 cases this;exact ⟨D,k⟩
theorem ExT.rais {K:Fg} {mg:Str->Option Value} {base:Heap} {cl ds:List Str} (E:ExT K mg cl ds) (KX:K.In base) (G:base.Ns mainGlobals mg) {c:Str} (hc:cl.contains c=true:=by kernel_rfl):sU mg base c:=by
 obtain ⟨D,_,_,h⟩:=E.h;obtain ⟨C,k⟩:=h c (by simpa using hc)
 exact xT (h:=base) KX G k.ns k.ei
section
variable {X:Cx} {N gl:List Str} {vs cs ls lo gs:List Nat} {W:XW} {cl ds:List Str} {i:Nat} {x C:Addr} {c ex d:Str} {p p1 p2 pos:Pos}
theorem FU (S:Cp { X with calm:=true } N gl vs cs ls lo gs) (E:ExT X.K X.mg cl ds) (hx:jw X x C) (hc:c∈cl) (hC:X.mg c=some (.ref C)) (hmi:X.mg "isinstance"=none) (j k:Nat) (hN:N[i]?=some ex:=by exact rfl) (hv:vs.contains i=true:=by exact rfl) (hj:gl[j]?=some ("isinstance":Str):=by exact rfl) (hg:gs.contains j=true:=by exact rfl) (hk2:gl[k]?=some d:=by exact rfl) (hg2:gs.contains k=true:=by exact rfl) (hd:ds.contains d=true:=by kernel_rfl) :
  PE X (.Call (.Name "isinstance" p) [.Name ex p1,.Name d p2] [] pos) (tG (lh i x) (tE X.K W (eK (.bool (d==c))))):=by
 obtain ⟨D,k'⟩:=E.cls hc hC;obtain ⟨E',h1,h2⟩:=k'.is d hd
 exact FZ S hx k'.ex h2 h1 hmi hN hv j k hj hg hk2 hg2
theorem kZ:bootBuiltins "ValueError"=some (.type "ValueError"):=by decide +kernel
theorem Kk (S:Cp { X with calm:=true } N gl vs cs ls lo gs) (E:ExT X.K X.mg cl ds) (hx:jw X x C) (hc:c∈cl) (hC:X.mg c=some (.ref C)) (hmi:X.mg "isinstance"=none) (hve:X.mg "ValueError"=none) (j k:Nat) (hN:N[i]?=some ex:=by exact rfl) (hv:vs.contains i=true:=by exact rfl) (hj:gl[j]?=some ("isinstance":Str):=by exact rfl) (hg:gs.contains j=true:=by exact rfl) (hk2:gl[k]?=some ("ValueError":Str):=by exact rfl) (hg2:gs.contains k=true:=by exact rfl) :
  PE X (.Call (.Name "isinstance" p) [.Name ex p1,.Name "ValueError" p2] [] pos) (tG (lh i x) (tE X.K W (eK (.bool true)))):=by
 obtain ⟨D,k'⟩:=E.cls hc hC;exact Dd S hx k'.ex k'.ve hve kZ hmi hN hv j k hj hg hk2 hg2
end
abbrev KF:List Str:=["NoWorld", "NoPlayer", "NoMark", "NoSentence", "NoRoom", "NoWay", "NoPlan", "NoPaper", "TooGreat", "NoNote"]
abbrev Lb:List Str:=["isinstance", "NoWorld", "NoPlayer", "NoMark", "NoSentence", "NoRoom", "NoWay", "NoPlan", "NoPaper", "TooGreat", "NoNote", "ValueError"]
abbrev bk (d c:Str):F1:=eK (.bool (d==c))
def Gg (c:Str):FS:=ak (ax false 1 (aM .leaf (ae (bk "NoWorld" c) (ae (bk "NoPlayer" c) (ae (bk "NoMark" c) (ae (bk "NoSentence" c) ag))))))
 (ak (ax false 1 (cO (af 1) (aM .leaf (ae (bk "NoRoom" c) (ae (bk "NoWay" c) (ae (bk "NoPlan" c) (ae (bk "NoPaper" c) ag)))))))
 (ak (ax false 1 (cO (af 1) (aM .leaf (ae (bk "TooGreat" c) (ae (bk "NoNote" c) ag)))))
 (ak (bD (d5 (aL ao (ay eC (sr 1) (eK (.int 1)))) (bY (aL bh (eK (.bool true))))) (aF (eK (.str "other"))) aH)
 (aF (ai (aM .leaf (ae (eK (.str "world")) (ae (eK (.str "player")) (ae (eK (.str "mark")) (ae (eK (.str "sentence")) (ae (eK (.str "room")) (ae (eK (.str "way")) (ae (eK (.str "plan")) (ae (eK (.str "paper")) (ae (eK (.str "great")) (ae (eK (.str "note")) ag))))))))))) (sq 1))))))
end T
namespace TQ
open PySem PySem.Spec L2 T
open PyProof.Rows hiding St
section
variable {X:Cx} {N gl:List Str} {vs cs ls lo gs:List Nat} {W:XW} {φ:St->Prop} {a b c e:Expr} {es:List Expr} {pos p p1 p2:Pos} {fa fb fc:F1} {fl:FL} {ga gb:FB} {g1 g2:FS} {i k:Nat} {x C:Addr} {cl ds:List Str} {ex d y cc:Str}
theorem fo (S:Cp { X with calm:=true } N gl vs cs ls lo gs) (E:ExT X.K X.mg cl ds) (hx:jw X x C) (hc:cc∈cl) (hC:X.mg cc=some (.ref C)) (hmi:X.mg "isinstance"=none) (j k:Nat) (hN:N[i]?=some ex:=by exact rfl) (hv:vs.contains i=true:=by exact rfl) (hj:gl[j]?=some ("isinstance":Str):=by exact rfl) (hg:gs.contains j=true:=by exact rfl) (hk2:gl[k]?=some d:=by exact rfl) (hg2:gs.contains k=true:=by exact rfl) (hd:ds.contains d=true:=by kernel_rfl) :
  Q (PE X (.Call (.Name "isinstance" p) [.Name ex p1,.Name d p2] [] pos) (tG (lh i x) (tE X.K W (eK (.bool (d==cc)))))):=⟨FU S E hx hc hC hmi j k hN hv hj hg hk2 hg2 hd⟩
theorem Jq (S:Cp { X with calm:=true } N gl vs cs ls lo gs) (E:ExT X.K X.mg cl ds) (hx:jw X x C) (hc:cc∈cl) (hC:X.mg cc=some (.ref C)) (hmi:X.mg "isinstance"=none) (hve:X.mg "ValueError"=none) (j k:Nat) (hN:N[i]?=some ex:=by exact rfl) (hv:vs.contains i=true:=by exact rfl) (hj:gl[j]?=some ("isinstance":Str):=by exact rfl) (hg:gs.contains j=true:=by exact rfl) (hk2:gl[k]?=some ("ValueError":Str):=by exact rfl) (hg2:gs.contains k=true:=by exact rfl) :
  Q (PE X (.Call (.Name "isinstance" p) [.Name ex p1,.Name "ValueError" p2] [] pos) (tG (lh i x) (tE X.K W (eK (.bool true))))):=⟨Kk S E hx hc hC hmi hve j k hN hv hj hg hk2 hg2⟩
theorem HA (h:Q (PE X a (tE X.K W fa))):Q (PE X a (tG φ (tE X.K W fa))):=⟨gu h.p⟩
theorem tV:Q (PA X [] (zE φ (tA X.K W ag))):=⟨FX⟩
theorem wR (ha:Q (PE X e (tG φ (tE X.K W fa)))) (hr:Q (PA X es (zE φ (tA X.K W fl)))) (hs:wN e=false:=by exact rfl):Q (PA X (e::es) (zE φ (tA X.K W (ae fa fl)))):=⟨De ha.p hr.p (dC hs)⟩
theorem Ij (s:Sh) (h:Q (PA X es (zE φ (tA X.K W fl)))):Q (PE X (.List es pos) (tG φ (tE X.K W (aM s fl)))):=⟨Dc s h.p⟩
theorem zt (ha:Q (PE X a (tG φ (tE X.K W fa)))) (hb:Q (PE X b (tG φ (tE X.K W fb)))):Q (PE X (.BinOp a .Add b pos) (tG φ (tE X.K W (cO fa fb)))):=⟨F9 ha.p hb.p⟩
theorem zo (S:Cp { X with calm:=true } N gl vs cs ls lo gs) (i:Nat) {x:Str} (hN:N[i]?=some x:=by exact rfl) (hv:vs.contains i=true:=by exact rfl):Q (PE X (.Name x pos) (tE X.K W (af i))):=⟨FW S i hN hv⟩
theorem EC (ha:Q (PE X a (tG φ (tE X.K W fa)))) (he:∀whole,isTrue a X.env whole=(do let v <-whole;standAt a.pos;holding [v] (truthy v)):=by exact fun _=>rfl):Q (PT X a (tj φ (tT X.K W (aL bh fa)))):=⟨C0 ha.p he⟩
theorem EF (ha:Q (PT X a (tj φ (tT X.K W ga)))):Q (PT X (.UnaryOp .Not a pos) (tj φ (tT X.K W (bY ga)))):=⟨C2 ha.p⟩
theorem ED (ha:Q (PT X a (tT X.K W ga))) (hb:Q (PT X b (tj φ (tT X.K W gb)))):Q (PT X (.BoolOp .Or [a,b] pos) (tj φ (tT X.K W (d5 ga gb)))):=⟨C1 ha.p hb.p⟩
theorem zq {st:Stmt} {g:FS} (h:Q (PS X st (tZ i x X.K W g))):Q (PSs X [st] (tZ i x X.K W g)):=⟨Ec h.p⟩
theorem AR:Q (PSs X [] (tZ i x X.K W aH)):=⟨Ed⟩
theorem Hf {st:Stmt} {rest:List Stmt} (h1:Q (PS X st (tZ i x X.K W g1))) (h2:Q (PSs X rest (tZ i x X.K W g2))):Q (PSs X (st::rest) (tZ i x X.K W (ak g1 g2))):=⟨Ak h1.p h2.p⟩
theorem tU {pos':Pos} (S:Cp { X with calm:=true } N gl vs cs ls lo gs) (ha:Q (PE X a (tG (lh i x) (tE X.K W fa)))) (hki:(k==i)=false:=by exact rfl) (hk:N[k]?=some y:=by exact rfl) (hl:ls.contains k=true:=by exact rfl) (hs:swapsWith a (some (.Name y pos')) pos.line X.env=pure false:=by exact rfl):Q (PS X (.Assign [.Name y pos'] a pos) (tZ i x X.K W (ax false k fa))):=⟨Ea S hki hk hl ha.p hs⟩
theorem Jr {A B:List Stmt} (hc:Q (PT X c (tj (lh i x) (tT X.K W ga)))) (ha:Q (PSs X A (tZ i x X.K W g1))) (hb:Q (PSs X B (tZ i x X.K W g2))):Q (PS X (.If c A B pos) (tZ i x X.K W (bD ga g1 g2))):=⟨Ii hc.p ha.p hb.p⟩
theorem zp (ha:Q (PE X a (tG (lh i x) (tE X.K W fa)))):Q (PS X (.Return (some a) pos) (tZ i x X.K W (aF fa))):=⟨Eb ha.p⟩
theorem EH (S:Cp { X with calm:=true } N gl vs cs ls lo gs) (i:Nat) {x:Str} {kb:Nat} {apos cpos bp:Pos} (hline:(apos.endLine==cpos.line)=true) (hi:N[i]?=some x:=by exact rfl) (hv:vs.contains i=true:=by exact rfl) (hbase:attributeBase (.Name x p) "count" X.env (eval (.Name x p) X.env)=eval (.Name x p) X.env:=by exact rfl) :
  Q (PE X (.Call (.Attribute (.Name x p) "count" apos) [.Constant (.bool true) kb bp] [] cpos) (tE X.K W (sr i))):=⟨Dy S i hi hv hbase hline⟩
theorem EG (S:Cp { X with calm:=true } N gl vs cs ls lo gs) (i:Nat) {x:Str} {kb:Nat} {apos cpos bp:Pos} (hline:(apos.endLine==cpos.line)=true) (hi:N[i]?=some x:=by exact rfl) (hv:vs.contains i=true:=by exact rfl) (hbase:attributeBase (.Name x p) "index" X.env (eval (.Name x p) X.env)=eval (.Name x p) X.env:=by exact rfl) :
  Q (PE X (.Call (.Attribute (.Name x p) "index" apos) [.Constant (.bool true) kb bp] [] cpos) (tE X.K W (sq i))):=⟨Dx S i hi hv hbase hline⟩
end
theorem xn {X:Cx} {cl:List Str} {a C:Addr} {c:Str} (S:Cp { X with calm:=true } ["e", "some"] Lb [0,1] [] [0,1] [0,1] [0,1,2,3,4,5,6,7,8,9,10,11]) (R:Rm X) (E:ExT X.K X.mg cl KF) (hx:jw X a C) (hc:c∈cl) (hC:X.mg c=some (.ref C)) (hmi:X.mg "isinstance"=none) (hve:X.mg "ValueError"=none)
  {q1 q2 q3 q4 q5 q6 q7 q8 q9 q10 q11 q12 q13 q14 q15 q16 q17 q18 q19 q20 q21 q22 q23 q24 q25 q26 q27 q28 q29 q30 q31 q32 q33 q34 q35 q36 q37 q38 q39 q40 q41 q42 q43 q44 q45 q46 q47 q48 q49 q50 q51 q52 q53 q54 q55 q56 q57 q58 q59 q60 q61 q62 q63 q64 q65 q66 q67 q68 q69 q70 q71 q72 q73 q74 q75 q76 q77 q78 q79 q80 q81 q82 q83 q84 q85:Pos}
  {k1 k2 k3 k4 k5 k6 k7 k8 k9 k10 k11 k12 k13 k14:Nat} (h1:(q47.endLine==q50.line)=true:=by exact rfl) (h2:(q60.endLine==q63.line)=true:=by exact rfl) :
  Q (PSs X [.Assign [.Name "some" q1] (.List [.Call (.Name "isinstance" q2) [.Name "e" q3,.Name "NoWorld" q4] [] q5,.Call (.Name "isinstance" q6) [.Name "e" q7,.Name "NoPlayer" q8] [] q9,.Call (.Name "isinstance" q10) [.Name "e" q11,.Name "NoMark" q12] [] q13,.Call (.Name "isinstance" q14) [.Name "e" q15,.Name "NoSentence" q16] [] q17] q18) q19,
   .Assign [.Name "some" q20] (.BinOp (.Name "some" q21) .Add (.List [.Call (.Name "isinstance" q22) [.Name "e" q23,.Name "NoRoom" q24] [] q25,.Call (.Name "isinstance" q26) [.Name "e" q27,.Name "NoWay" q28] [] q29,.Call (.Name "isinstance" q30) [.Name "e" q31,.Name "NoPlan" q32] [] q33,.Call (.Name "isinstance" q34) [.Name "e" q35,.Name "NoPaper" q36] [] q37] q38) q39) q40,
   .Assign [.Name "some" q41] (.BinOp (.Name "some" q42) .Add (.List [.Call (.Name "isinstance" q43) [.Name "e" q44,.Name "TooGreat" q45] [] q46,.Call (.Name "isinstance" q64) [.Name "e" q65,.Name "NoNote" q66] [] q67] q68) q69) q70,
   .If (.BoolOp .Or [.Compare (.Call (.Attribute (.Name "some" q48) "count" q47) [.Constant (.bool true) k1 q49] [] q50) [.NotEq] [.Constant (.int 1) k2 q51] q52,.UnaryOp .Not (.Call (.Name "isinstance" q53) [.Name "e" q54,.Name "ValueError" q55] [] q56) q57] q58) [.Return (some (.Constant (.str "other") k3 q59)) q71] [] q72,
   .Return (some (.Subscript (.List [.Constant (.str "world") k4 q73,.Constant (.str "player") k5 q74,.Constant (.str "mark") k6 q75,.Constant (.str "sentence") k7 q76,.Constant (.str "room") k8 q77,.Constant (.str "way") k9 q78,.Constant (.str "plan") k10 q79,.Constant (.str "paper") k11 q80,.Constant (.str "great") k12 q81,.Constant (.str "note") k13 q82] q83) (.Call (.Attribute (.Name "some" q61) "index" q60) [.Constant (.bool true) k14 q62] [] q63) q84)) q85] (tZ 0 a X.K W0 (Gg c))):=by
 refine Hf (tU S (Ij .leaf (wR (fo S E hx hc hC hmi 0 1) (wR (fo S E hx hc hC hmi 0 2) (wR (fo S E hx hc hC hmi 0 3) (wR (fo S E hx hc hC hmi 0 4) tV)))))) ?_
 refine Hf (tU S (zt (HA (zo S 1)) (Ij .leaf (wR (fo S E hx hc hC hmi 0 5) (wR (fo S E hx hc hC hmi 0 6) (wR (fo S E hx hc hC hmi 0 7) (wR (fo S E hx hc hC hmi 0 8) tV))))))) ?_
 refine Hf (tU S (zt (HA (zo S 1)) (Ij .leaf (wR (fo S E hx hc hC hmi 0 9) (wR (fo S E hx hc hC hmi 0 10) tV))))) ?_
 refine Hf (Jr (ED (bQ (ja R) (EH S 1 h1) aT) (EF (EC (Jq S E hx hc hC hmi hve 0 11)))) (zq (zp (HA cf))) AR) ?_
 exact zq (zp (HA (bo (hU .leaf (ba cf (ba cf (ba cf (ba cf (ba cf (ba cf (ba cf (ba cf (ba cf (aP cf))))))))))) (EG S 1 h2))))
end TQ
namespace T
open PySem PySem.Spec L2
open PyProof.Rows hiding St
def Ll (X:Cx):Prop:=X.stack=X.env::X.outer/\X.env.frame=some X.env.locals
section
variable {p:Fg->(Str->Option Value)->Prop} {X Y:Cx} {P:Program} {w:World} {K:Fg} {mg:Str->Option Value} {base:Heap} {j k n:Nat} {y:Str} {s:Stmt} {ps:List Str} {g:FS} {den:List L8->Res} {cl ds:List Str} {m:Str->Res}
abbrev KD (p:Fg->(Str->Option Value)->Prop) (P:Program) (w:World) (K:Fg) (mg:Str->Option Value) (base:Heap) (k:Nat) (N gl:List Str) (vs cs gs:List Nat) (s:Stmt) (g:FS):Prop:=∀X:Cx,Cp X N gl vs cs vs (oz vs cs) gs->In p X P w K mg base k->Ll X->PassesOwn (model X.prog X.w) X.A X.env X.xe->TQ.Q (PSs X (qJ s) (tS X.K W0 g))
theorem FK {f:Addr} {fd:FuncData} (F:Fun K y y s f fd) (e:p K mg) (N gl:List Str) (vs cs gs:List Nat) (h:fB N gl ps vs cs gs s=true) (hb:KD p P w K mg base k N gl vs cs gs s g):dH P w K mg base ka (k+1) f fd ps (pG K ps.length (aE N.length g)):=by
 obtain ⟨h1,h2,h3⟩:=ql h;exact vX F h3 fun cdv A outer s H E hr=>(hb _ (Cp.fn h1 h2) ⟨rfl,rfl,rfl,rfl,rfl,hr,e⟩ ⟨rfl,rfl⟩ PassesOwn.never).p
theorem Lv (F:Ft K mg y s) (e:p K mg) (ps:List Str) (b:sX y s ps) (rs gl:List Str) (vs cs gs:List Nat) (hb:KD p P w K mg base k (ps++rs) gl vs cs gs s g) (h:fB (ps++rs) gl ps vs cs gs s=true:=by kernel_rfl):DefOk P w K mg base (k+1) y ps.length (aE (ps++rs).length g):=by
 obtain ⟨f,fd,hm,F⟩:=F;exact ⟨f,fd,ps,FK F e _ gl vs cs gs h hb,hm,F.kp,Ei F b⟩
theorem Ke {fa:Addr} (F:Ft K mg y s) (e:p K mg) (q:Str) (b:sX y s [q]) (hfa:mg y=some (.ref fa)) (rs gl:List Str) (vs cs gs:List Nat) (hb:∀base:Heap,(K.In base/\base.Ns mainGlobals mg)->KD p P w K mg base k ([q]++rs) gl vs cs gs s g) (h:fB ([q]++rs) gl [q] vs cs gs s=true:=by kernel_rfl) :
  ∃fd:FuncData,(∀(s:Shared) (v:Value),BindsTo s fd ⟨[v],[]⟩ [(q,v)])/\∀base:Heap,K.In base->base.Ns mainGlobals mg->dH P w K mg base ka (k+1) fa fd [q] (pG K 1 (aE ([q]++rs).length g)):=by
 obtain ⟨f,fd,hm,F⟩:=F;have e':=hfa.symm.trans hm
 cases e'
 refine ⟨fd,fun s v=>?_,fun base kb nb=>FK F e _ gl vs cs gs h (hb base ⟨kb,nb⟩)⟩
 obtain ⟨oc,od,kV,doc,pm,an,cdv,ct,osl,rfl,lk,hcd⟩:=F.ex;exact .of_eq (b [v] rfl kV doc pm an cdv ct)
theorem In.eE (I:In p X P w K mg base k) (h:Ee P w K mg base j y cl m):Ee X.prog X.w X.K X.mg X.base j y cl m:=by
 obtain ⟨rfl,rfl,rfl,rfl,rfl,r,_⟩:=I;exact h
theorem In.xt (I:In p X P w K mg base k) (h:ExT K mg cl ds):ExT X.K X.mg cl ds:=by rw [I.e3,I.e4];exact h
theorem InH.xt (I:InH p X P w K mg base k) (h:ExT K mg cl ds):ExT X.K X.mg cl ds:=by rw [I.e3,I.e4];exact h
theorem InH.gm {o:Option Value} (I:InH p X P w K mg base k) (h:mg y=o):X.mg y=o:=by rw [I.e4];exact h
end
end T
namespace TQ
open PySem PySem.Spec L2 T
open PyProof.Rows hiding St
theorem EJ {X:Cx} {N gl:List Str} {vs cs ls lo gs:List Nat} (S:Cp X N gl vs cs ls lo gs) (st:Ll X) {body:List Stmt} {g:FS} {k:Str->FS} {cl ds:List Str} {en:Str} (ie j:Nat) {np hpos pos:Pos} {suite:Stmt} (E:ExT X.K X.mg cl ds)
  (hb:∀(pins:List (Addr×Obj)) (W:Addr->L2.St->Hp->Prop),Q (PSs (eQ X pins W) body (tS X.K (wT X.mg W) g)))
  (hh:∀(pins:List (Addr×Obj)) (a C:Addr) (oe:Obj) (c:Str),c∈cl->X.mg c=some (.ref C)->oe.cls=.ref C->(∃vs,oe.data=.fields vs)->PSs (w9 X pins a oe) [suite] (JF (lh ie a) (tS X.K W0 (k c))))
  (hie:N[ie]?=some en:=by exact rfl) (hel:lo.contains ie=true:=by exact rfl) (hj:gl[j]?=some ("HallError":Str):=by exact rfl) (hg:gs.contains j=true:=by exact rfl) :
  Q (PS X (.Try body [.ExceptHandler (some (.Name "HallError" np)) (some en) [suite] hpos] [] [] pos) (tS X.K W0 (kr cl ie g k))):=by
 obtain ⟨D,h1,h2,h3⟩:=E.h;refine ⟨B7 S st.1 st.2 hie hel hj hg h1 h2 (fun c hc C hC=>?_) (fun pins W=>(hb pins W).p) hh⟩
 obtain ⟨C',k'⟩:=h3 c hc;have:=k'.gm
 rw [hC] at this
 cases this;exact k'.sub
end TQ
namespace KQ.M
open PySem PySem.Spec L2 T
open PyProof.Rows hiding St
open KC
noncomputable def cG:Str->Res:=fun c=>Dt 2 (Gg c)
noncomputable def d__law_twin:FS:=(aF (bB (ae (hV (ai (af 0) (eK (.int 0)))) (ae (aA .leaf 1 (aU (ai (af 0) (eK (.int 1)))) aN (hV (af 1))) (ae (aA .leaf 1 (aU (ai (af 0) (eK (.int 2)))) aN (hV (af 1))) ag)))))
noncomputable def m__law_twin:List L8->Res:=aE 2 d__law_twin
section
open PySem.SeqAt
theorem AZ:cG "NoWay"=.ok ⟨.leaf,.str "way"⟩:=by with_unfolding_all rfl
theorem sD {w:Wd} (ok:w.Ok):m__law_twin [w.enc]=.ok ⟨W3,w.enc⟩:=by
 have i0:ai (af 0) (eK (.int 0)) [L9 w.enc,none]=.ok ⟨.leaf,.list w.os⟩ [L9 w.enc,none]:=fJ (j:=0) (aB rfl) aQ rfl rfl rfl
 have i1:ai (af 0) (eK (.int 1)) [L9 w.enc,none]=.ok ⟨.leaf,.list (w.m.map ur)⟩ [L9 w.enc,none]:=fJ (j:=1) (aB rfl) aQ rfl rfl rfl
 have i2:ai (af 0) (eK (.int 2)) [L9 w.enc,none]=.ok ⟨.leaf,.list (w.s.map aI)⟩ [L9 w.enc,none]:=fJ (j:=2) (aB rfl) aQ rfl rfl rfl
 have h24:=ok.h24
 have c1:aA .leaf 1 (aU (ai (af 0) (eK (.int 1)))) aN (hV (af 1)) [L9 w.enc,none]=.ok ⟨.lst .leaf,.list (w.m.map ur)⟩ [L9 w.enc,none]:=
  lz ur w.m (fun x=>⟨.lst .leaf,ur x⟩) (st:=true) (cA (s:=.leaf) i1 rfl) (by simp) rfl (by rw [ok.lm];omega) fun x hx=>⟨Ey (aB rfl) rfl,rfl⟩
 have c2:aA .leaf 1 (aU (ai (af 0) (eK (.int 2)))) aN (hV (af 1)) [L9 w.enc,none]=.ok ⟨.lst .leaf,.list (w.s.map aI)⟩ [L9 w.enc,none]:=
  lz aI w.s (fun x=>⟨.lst .leaf,aI x⟩) (st:=true) (cA (s:=.leaf) i2 rfl) (by simp) rfl (by rw [ok.ls];omega) fun x hx=>⟨Ey (aB rfl) rfl,rfl⟩
 exact aR (br (cI (aD (Ey i0 rfl) (aD c1 (aD c2 aq))) rfl rfl) rfl)
theorem yT {w:Wd} (ok:w.Ok):PyData.canLay0 w.enc=true/\PyData.depth w.enc<=3:=by
 have h:=ok.g.wk (b:=24) ok.h24
 have o:=yU h.o
 have m:=qu fun r hr=>let ⟨xs,e,q,_⟩:=h.m r hr;⟨xs,e,Ko q⟩
 have s:=qu fun r hr=>let ⟨xs,e,q,_⟩:=h.s r hr;⟨xs,e,yU q⟩
 simp only [Wd.enc,fK,PyData.canLay0,PyData.canLayAll0,PyData.depth,PyData.depthAll,o.1,m.1,s.1,o.2,Bool.and_self,Bool.true_and,true_and]
 have:=m.2
 have:=s.2
 omega
theorem AS {cl:List Str} {ie:Nat} {g:FS} {k:Str->FS} {Γ Γ':Ev} (h:g Γ=.nx Γ'):kr cl ie g k Γ=.nx Γ':=by unfold kr;rw [h]
theorem AU {cl:List Str} {ie:Nat} {g:FS} {k:Str->FS} {Γ Γ1 Γ':Ev} {c:Str} (h:g Γ=.er c Γ1) (hc:cl.contains c=true) (h1:isN Γ1[ie]?=true) (hk:k c Γ1=.nx Γ') (h2:isN Γ'[ie]?=true):kr cl ie g k Γ=.nx Γ':=by
 unfold kr;rw [h];unfold xq;simp only [hc,h1,Bool.and_self,if_true,hk,h2]
theorem DP {Γ:Ev} {i:Nat} {ss:List Sh} {d:D} (h:Γ[i]?=some (some ⟨.tup ss,d⟩)):af i Γ=.ok ⟨.view,d⟩ Γ:=by unfold af;rw [h]
theorem v_res {r:Res} {p:PV} {Γ:Ev} (h:r=.ok p):oJ r Γ=.ok p Γ:=by rw [h];rfl
theorem xp {Γ Γ1:Ev} {fl:FL} {ps:List PV} {n:Nat} {p:PV} {den:List D->Res} (hl:fl Γ=.ok ps Γ1) (hd:den (ps.map (·.d))=.ok p) (hn:ps.length=n) (hc:ps.all (T.coer .leaf)=true):tO n den fl Γ=.ok p Γ1:=by
 unfold tO;rw [hl];simp only [Out.bind,hn,hd,hc,if_true]
theorem uk {Γ Γ1:Ev} {fl:FL} {ps:List PV} {n:Nat} {c:Str} {den:List D->Res} (hl:fl Γ=.ok ps Γ1) (hd:den (ps.map (·.d))=.er c) (hn:ps.length=n):tO n den fl Γ=.er c Γ1:=by
 unfold tO;rw [hl];simp only [Out.bind,hn,hd,if_true]
theorem AW {own:Bool} {i:Nat} {fa:F1} {Γ Γ':Ev} {c:Str} (h:fa Γ=.er c Γ'):ax own i fa Γ=.er c Γ':=by unfold ax gS;rw [h]
theorem AX {g1 g2:FS} {Γ Γ':Ev} {c:Str} (h:g1 Γ=.er c Γ'):ak g1 g2 Γ=.er c Γ':=by unfold ak;rw [h]
theorem tW {Γ:Ev} {i k:Nat} {a b:List D} {c:Int} (h:Γ[i]?=some (some ⟨.tup [.lst .leaf,.lst .leaf],.tuple [.list a,.list b]⟩)) (ha:a.length<=1000) (hb:b.length<=1000) (hk:k=0\/k=1):dN i k (eK (.int c)) Γ=.nx (Γ.set i (some ⟨.tup [.lst .leaf,.lst .leaf],.tuple [.list (if k=0 then a++[.int c] else a),.list (if k=0 then b else b++[.int c])]⟩)):=by
 have big:(1001:Nat)<=sizeLine:=by decide
 rcases hk with rfl | rfl
 ·unfold dN D4
  rw [h];dsimp only [getElem?_cons_zero]
  rw [if_pos rfl,og,KY];dsimp only;unfold qA;rw [h];dsimp only [getElem?_cons_zero]
  rw [decide_eq_true (show a.length<sizeLine by omega)]
  rfl
 ·unfold dN D4
  rw [h];dsimp only [getElem?_cons_succ,getElem?_cons_zero]
  rw [if_pos rfl,og,KY];dsimp only;unfold qA;rw [h];dsimp only [getElem?_cons_succ,getElem?_cons_zero]
  rw [decide_eq_true (show b.length<sizeLine by omega)]
  rfl
theorem Gc {n:Nat} {g:FS} {ds:List D} {c:Str} {Γ':Ev} (h:g (aZ n ds)=.er c Γ'):aE n g ds=.er c:=by unfold aE;rw [h]
end
noncomputable abbrev xcl:List Str:=["NoSentence"]
noncomputable def jl:FS:=(ak (b9 (aj 1 bW (ae (af 0) ag)))
  (bD (cx (aL ao (ay (bf true) (ai (af 0) (eK (.int 0))) (eK bO))) (aL ao (ay (bf true) (ai (af 0) (eK (.int 0))) (eK fU)))) (GQ "NoSentence") aH))
noncomputable def ke:List L8->Res:=aE 1 jl
noncomputable def kL:FS:=(ak (b9 (aj 1 bH (ae (af 0) ag)))
  (ak (b9 (tO 1 ke (ae (af 1) ag)))
  (ak (b9 (aj 2 gN (ae (af 0) (ae (af 2) ag))))
  (ak (ax false 3 (aA .leaf 4 (eu (aj 1 aV (ae (af 1) ag))) aN (aj 2 df (ae (af 0) (ae (af 4) ag)))))
  (aF (ay bC (aj 3 jj (ae (af 2) (ae (ai (af 1) (eK (.int 0))) (ae (af 3) ag)))) (ay (bf false) (ai (af 1) (eK (.int 0))) (eK bO))))))))
noncomputable def lA:List L8->Res:=aE 5 kL
noncomputable def d__law_place:FS:=(ak (bD (aL ao (ay gv (af 1) (aS aG (ae (ai (af 0) (eK (.int 0))) ag)))) (aF (ai (ai (af 0) (eK (.int 0))) (af 1))) aH)
  (aF (ai (ai (af 0) (eK (.int 1))) (ay dh (ay gSub (af 1) (aS aG (ae (ai (af 0) (eK (.int 0))) ag))) (aS aG (ae (ai (af 0) (eK (.int 1))) ag))))))
noncomputable def m__law_place:List L8->Res:=aE 2 d__law_place
noncomputable def nq:FS:=(ak (ax false 4 (ay bC (ay dO (af 1) (eK (.int 4))) (eK (.str "some"))))
  (ak (ax true 5 (oN (aL ao (ay (cU false) (eK (.str "until")) (af 1))) (hV (af 3)) (hV (af 2))))
  (ak (cZ 6 (dq (ae (aS aG (ae (ai (af 0) (eK (.int 0))) ag)) ag))
  (ak (ax true 7 (aM .leaf ag))
  (ak (cZ 8 (dq (ae (aS aG (ae (ai (af 0) (eK (.int 0))) ag)) ag))
  (ak (ax false 9 (aA .leaf 11 (aU (ai (ai (af 0) (eK (.int 2))) (af 8))) (aL ao (ay (bf false) (af 11) (af 5))) (af 11)))
  (ak (ax false 10 (oN (aL bh (af 4)) (ay fI (aS aG (ae (af 9) ag)) (eK (.int 0))) (ay bC (aS aG (ae (af 9) ag)) (aS aG (ae (ai (ai (af 0) (eK (.int 2))) (af 8)) ag)))))
  (ak (bD (cx (aL ao (ay (cU false) (eK (.str "until")) (af 1))) (d5 (aL ao (ay (bf false) (af 8) (af 5))) (cx (aL ao (ay (bf false) (af 8) (af 2))) (aL bh (af 10))))) (dS 7 (af 8)) aH)
  (bD (cx (aL ao (ay (cU true) (eK (.str "until")) (af 1))) (cx (aL ao (ay (bf false) (af 8) (af 5))) (aL bh (af 10)))) (dS 7 (af 8)) aH)))))
  (ax true 5 (bR 7)))))
  (aF (bR 5)))))
noncomputable def eP:List L8->Res:=aE 12 nq
noncomputable def cw (r__law_holds:List L8->Res):FS:=(ak (ax false 2 (ai (af 1) (eK (.int 0))))
  (ak (ax false 3 (w5 (ae (aS aG (ae (ai (af 0) (eK (.int 0))) ag)) ag)))
  (ak (bD (aL ao (ay bC (af 2) (eK (.str "yes")))) (aF (af 3)) aH)
  (ak (bD (aL ao (ay bC (af 2) (eK (.str "mark")))) (aF (aA .leaf 6 (aU (af 3)) (aL ao (ay (bf false) (ai (af 1) (eK (.int 1))) (ai (ai (af 0) (eK (.int 1))) (af 6)))) (af 6))) aH)
  (ak (ax false 4 (aj 2 r__law_holds (ae (af 0) (ae (ai (af 1) (eK (.int 1))) ag))))
  (ak (ax false 5 (aj 2 r__law_holds (ae (af 0) (ae (ai (af 1) (eU dZ (eK (.int 1)))) ag))))
  (ak (bD (aL ao (ay bC (af 2) (eK (.str "not")))) (aF (aA .leaf 6 (aU (af 3)) (aL ao (ay (bf true) (af 6) (af 4))) (af 6))) aH)
  (ak (bD (aL ao (ay bC (af 2) (eK (.str "and")))) (aF (aA .leaf 6 (aU (af 4)) (aL ao (ay (bf false) (af 6) (af 5))) (af 6))) aH)
  (ak (bD (aL ao (ay bC (af 2) (eK (.str "or")))) (aF (aA .leaf 6 (aU (af 3)) (d5 (aL ao (ay (bf false) (af 6) (af 4))) (aL ao (ay (bf false) (af 6) (af 5)))) (af 6))) aH)
  (ak (bD (aL ao (ay bC (af 2) (eK (.str "some next")))) (aF (aA .leaf 6 (aU (af 3)) (aL ao (ay fI (aS aG (ae (aA .leaf 7 (aU (ai (ai (af 0) (eK (.int 2))) (af 6))) (aL ao (ay (bf false) (af 7) (af 4))) (af 7)) ag)) (eK (.int 0)))) (af 6))) aH)
  (ak (bD (aL ao (ay bC (af 2) (eK (.str "all next")))) (aF (aA .leaf 6 (aU (af 3)) (aL bh (aS (bL false) (ae (aA .leaf 7 (aU (ai (ai (af 0) (eK (.int 2))) (af 6))) aN (ay (bf false) (af 7) (af 4))) ag))) (af 6))) aH)
  (aF (aj 4 eP (ae (af 0) (ae (af 2) (ae (af 4) (ae (af 5) ag)))))))))))))))))
noncomputable def aO:Nat->List L8->Res
 | 0=>fun _=>.no
 | n+1=>aE 8 (cw (aO n))
noncomputable def bx:List L8->Res:=aO 10
noncomputable def nr:FS:=(ak (ax false 1 (bB (ae (eK (.str "mark")) (ae (ai (eK (.str "abc")) (aj 3 aw (ae (af 0) (ae (eK (.int 3)) (ae (eK (.int 3)) ag))))) ag))))
  (ak (ax false 2 (bB (ae (eK (.str "mark")) (ae (ai (eK (.str "abc")) (aj 3 aw (ae (af 0) (ae (eK (.int 4)) (ae (eK (.int 3)) ag))))) ag))))
  (ak (ax false 3 (aM .leaf (ae (af 1) (ae (bB (ae (eK (.str "not")) (ae (af 1) ag))) (ae (bB (ae (eK (.str "and")) (ae (af 1) (ae (bB (ae (eK (.str "not")) (ae (af 2) ag))) ag)))) (ae (bB (ae (eK (.str "or")) (ae (af 1) (ae (af 2) ag)))) (ae (bB (ae (eK (.str "some next")) (ae (af 1) ag))) (ae (bB (ae (eK (.str "yes")) ag)) ag))))))))
  (aF (ai (cO (af 3) (aM .leaf (ae (bB (ae (eK (.str "all next")) (ae (af 2) ag))) (ae (af 1) (ae (bB (ae (eK (.str "not")) (ae (bB (ae (eK (.str "yes")) ag)) ag))) ag))))) (aj 3 aw (ae (af 0) (ae (eK (.int 5)) (ae (eK (.int 9)) ag)))))))))
noncomputable def bG:List L8->Res:=aE 4 nr
noncomputable def kU:FS:=(ak (ax false 3 (aj 2 bx (ae (af 0) (ae (ai (af 1) (eK (.int 1))) ag))))
  (ak (ax false 4 (cO (ai (af 2) (eK (.int 0))) (ai (af 2) (eK (.int 1)))))
  (ak (bD (aL ao (ay (bf false) (ai (af 1) (eK (.int 0))) (bB (ae (eK (.str "some next")) (ae (eK (.str "all next")) ag))))) (ax false 5 (ay (bf false) (aj 2 m__law_place (ae (af 2) (ae (eK (.int 1)) ag))) (af 3))) (bD (aL ao (ay (cU false) (eK (.str "always")) (ai (af 1) (eK (.int 0))))) (ax false 5 (aS (bL false) (ae (aA .leaf 8 (aU (af 4)) aN (ay (bf false) (af 8) (af 3))) ag))) (ak (ax false 6 (aA .leaf 7 (dq (ae (aS aG (ae (af 4) ag)) ag)) (aL ao (ay (bf false) (ai (af 4) (af 7)) (aj 2 bx (ae (af 0) (ae (ai (af 1) (eK (.int 2))) ag))))) (af 7)))
  (ax false 5 (cV (ay fI (aS aG (ae (af 6) ag)) (eK (.int 0))) (aS (bL false) (ae (aA .leaf 8 (aU (du (fun k=>(none,some k)) (af 4) (ai (af 6) (eK (.int 0))))) aN (ay (bf false) (af 8) (af 3))) ag)))))))
  (aF (ay bC (af 5) (ay bC (ay dO (ai (af 1) (eK (.int 0))) (eK (.int 4))) (eK (.str "some"))))))))
noncomputable def bX:List L8->Res:=aE 9 kU
noncomputable def d__law_met:FS:=(ak (ax false 3 (eK .none))
  (ak (kr xcl 4 (ax false 3 (tO 3 lA (ae (af 0) (ae (af 1) (ae (af 2) ag))))) fun c=>ax false 3 (oJ (cG c)))
  (aF (af 3))))
noncomputable def m__law_met:List L8->Res:=aE 5 d__law_met
noncomputable def d_law:FS:=(ak (ax false 1 (aj 3 m__law_world (ae (af 0) (ae (eK (.int 0)) (ae (eK (.int 6)) ag)))))
  (ak (ax false 2 (aj 2 aC (ae (af 0) (ae (eK (.int 8)) ag))))
  (ak (ax false 3 (aj 4 iC (ae (af 1) (ae (aj 2 aC (ae (af 0) (ae (eK (.int 7)) ag))) (ae (aj 3 aw (ae (af 2) (ae (eK (.int 0)) (ae (aS aG (ae (ai (af 1) (eK (.int 0))) ag)) ag)))) (ae (aj 3 aw (ae (af 2) (ae (eK (.int 1)) (ae (eK (.int 9)) ag)))) ag))))))
  (ak (ax false 4 (aM .leaf (ae (aj 1 m__law_twin (ae (af 1) ag)) (ae (bB (ae (hV (ai (af 3) (eK (.int 0)))) (ae (hV (ai (af 3) (eK (.int 1)))) ag))) ag))))
  (ak (ax false 5 (aj 1 bG (ae (aj 2 aC (ae (af 0) (ae (eK (.int 9)) ag))) ag)))
  (ak (ax false 6 (aj 1 bG (ae (aj 2 aC (ae (af 0) (ae (eK (.int 10)) ag))) ag)))
  (ak (cZ 7 (dq (ae (eK (.int 3)) ag))
  (ak (ax false 9 (aj 3 bJ (ae (aj 2 aC (ae (af 0) (ae (ay aW (eK (.int 11)) (af 7)) ag))) (ae (af 5) (ae (af 6) ag)))))
  (ak (ax false 10 (aj 3 m__law_met (ae (ai (af 4) (eK (.int 0))) (ae (af 9) (ae (ai (af 4) (eK (.int 1))) ag)))))
  (bD (d5 (bY (aL bh (gy "bool" (af 10)))) (d5 (aL ao (ay eC (af 10) (aj 3 bX (ae (af 1) (ae (af 9) (ae (af 3) ag)))))) (aL ao (ay eC (af 4) (aM .leaf (ae (af 1) (ae (af 3) ag))))))) (aF (eK (.bool false))) aH))))
  (ak (ax true 8 (aM .leaf (ae (bB (ae (eK (.str "yes")) ag)) (ae (bB (ae (eK (.str "mark")) (ae (eK (.str "a")) ag))) (ae (bB (ae (eK (.str "not")) (ae (bB (ae (eK (.str "some next")) (ae (af 5) ag))) ag))) (ae (bB (ae (eK (.str "and")) (ae (af 5) (ae (af 6) ag)))) ag))))))
  (ak (dS 8 (bB (ae (eK (.str "or")) (ae (af 5) (ae (bB (ae (eK (.str "all always")) (ae (af 6) ag))) ag)))))
  (aF (ay bC (aj 3 m__law_met (ae (ai (af 4) (eK (.int 0))) (ae (ai (af 8) (aj 3 aw (ae (af 2) (ae (eK (.int 2)) (ae (eK (.int 5)) ag))))) (ae (ai (af 4) (eK (.int 1))) ag)))) (eK (.str "sentence")))))))))))))
noncomputable def m_law:List L8->Res:=aE 11 d_law
open PySem.SeqAt
theorem stp_len {w:Wd} (ok:w.Ok) {r:Nat} (hr:r<w.n):(w.stp r).length<=30:=by
 unfold Wd.stp;rw [LW,LV (by rw [ok.ls];exact hr)]
 exact (ok.st _ (getElem_mem _)).2.1
noncomputable def iT:Sn->Prop
 | .yes=>True
 | .mk _=>True
 | .un .not a=>iT a
 | .un .sn a=>iT a
 | .un .an a=>iT a
 | .bi .and a b=>iT a/\iT b
 | .bi .or a b=>iT a/\iT b
 | _=>False
noncomputable abbrev GH (w:Wd) (s:Sn) (x4 x5:Option PV):Ev:=[L9 w.enc,L9 s.enc,L9 (.str s.w.t),L9 (aI (List.range w.n)),x4,x5,none,none]
theorem jZ {w:Wd} {s:Sn} {x4 x5:Option PV} {fc:FB} {i:Nat} {A:List Nat} {c:Nat->Bool} (hi:(GH w s x4 x5)[i]?=some (L9 (aI A))) (hA:A.length<=10000) (hc:∀t∈A,fc ((GH w s x4 x5).set 6 (L9 (rm t)))=.ok (c t) ((GH w s x4 x5).set 6 (L9 (rm t)))) :
  aA .leaf 6 (aU (af i)) fc (af 6) (GH w s x4 x5)=.ok ⟨.lst .leaf,aI (A.filter c)⟩ (GH w s x4 x5):=
 tP rm A c (fun t=>⟨.leaf,rm t⟩) (st:=true) (by rw [BQ,ml,hi];simp) (by simp) rfl hA hc (fun t ht _=>⟨aB rfl,rfl⟩)
theorem wU {w:Wd} (ok:w.Ok):∀(n:Nat) (s:Sn),s.ok->iT s->s.dep<=n->∃sh:Sh,sh.isView=false/\aO n [w.enc,s.enc]=.ok ⟨sh,aI (aK w s)⟩
 | 0,s,_,_,h=>by
  have:=s.dep_args
  omega
 | n+1,s,hs,hp,h=>by
  have h24:=ok.h24
  have rl:∀s:Sn,(aK w s).length<=10000:=fun s=>Nat.le_trans (Eu ok) (by omega)
  show ∃sh:Sh,sh.isView=false/\aE 8 (cw (aO n)) [w.enc,s.enc]=_
  have hst:ai (af 1) (eK (.int 0)) (aZ 8 [w.enc,s.enc])=.ok ⟨.leaf,.str s.w.t⟩ (aZ 8 [w.enc,s.enc]):=by
   cases s<;>simp [aZ,Sn.enc,Sn.w]
  have go:∀{p:PV} {rest:FS},rest (GH w s none none)=.rt p->(ak (ax false 2 (ai (af 1) (eK (.int 0)))) (ak (ax false 3 (w5 (ae (aS aG (ae (ai (af 0) (eK (.int 0))) ag)) ag))) rest)) (aZ 8 [w.enc,s.enc])=.rt p:=fun {p rest} hr=>
   az (b6 hst rfl (by simp [aZ])) (az (b6 (wK ok rfl) rfl (by simp [aZ])) hr)
  have tq:∀{u:Wr} {t:Str} {x4 x5:Option PV} {v:Bool},bC (.str s.w.t) (.str t)=some (.bool (decide (s.w=u)))->decide (s.w=u)=v->aL ao (ay bC (af 2) (eK (.str t))) (GH w s x4 x5)=.ok v (GH w s x4 x5):=fun {u t x4 x5 v} h1 h2=>cC (aJ (aB rfl) aQ (by rw [<-h2];exact h1))
  have no:∀{c:FB} {a:FS} {rest:FS} {Γ:Ev} {o:dG},c Γ=.ok false Γ->rest Γ=o->ak (bD c a aH) rest Γ=o:=fun h1 h2=>az (bu h1 nofun (fun _=>rfl)) h2
  have yes:∀{c:FB} {a:FS} {rest:FS} {Γ:Ev} {p:PV},c Γ=.ok true Γ->a Γ=.rt p->ak (bD c a aH) rest Γ=.rt p:=fun h1 h2=>xg (bu h1 (fun _=>h2) nofun)
  cases s with
  | yes=>
   refine ⟨.leaf,rfl,aR (go (yes (tq (Aq _) rfl) ?_))⟩
   have e:List.range w.n=aK w .yes:=rng_fil.trans (xh fun r _=>iS (by simp [dJ]))
   rw [<-e];exact br (aB rfl) rfl
  | mk c=>
   refine ⟨.lst .leaf,rfl,aR (go (no (tq (Aq _) rfl) (yes (tq (DR _) rfl) (DQ (p:=⟨.lst .leaf,aI (aK w (.mk c))⟩) ?_ rfl))))⟩
   refine jZ (A:=List.range w.n) (c:=bw w (.mk c)) rfl (by simp;omega) fun t ht=>?_
   have hr:=List.mem_range.mp ht
   have hm:∀x∈w.mks t,PyData.strOk x=true:=fun x hx=>by
    unfold Wd.mks at hx;rw [LW,LV (by rw [ok.lm];exact hr)] at hx
    exact ok.mc _ (getElem_mem _) x hx
   have e:(w.mks t).contains c=bw w (.mk c) t:=iS (by rw [contains_iff_mem];rfl)
   rw [<-e];simp [Sn.enc,Wd.enc,ok.at1 hr,vE (ID hs).1 hm]
  | un k a=>
   have hpa:iT a:=by cases k<;>first | exact hp | exact hp.elim
   obtain ⟨sh,hsh,ea⟩:=wU ok n a hs hpa (by simp only [Sn.dep] at h;omega)
   have s4:ax false 4 (aj 2 (aO n) (ae (af 0) (ae (ai (af 1) (eK (.int 1))) ag))) (GH w (.un k a) none none)=.nx (GH w (.un k a) (L9 (aI (aK w a))) none):=
    b6 (bV (ps:=[⟨.leaf,w.enc⟩,⟨.leaf,a.enc⟩]) (aD (aB rfl) (aD (fJ (j:=1) (ds:=[.str k.w.t,a.enc]) (aB rfl) aQ rfl rfl rfl) aq)) ea rfl rfl) (qI hsh) (by simp)
   have s5:ax false 5 (aj 2 (aO n) (ae (af 0) (ae (ai (af 1) (eU dZ (eK (.int 1)))) ag))) (GH w (.un k a) (L9 (aI (aK w a))) none)=.nx (GH w (.un k a) (L9 (aI (aK w a))) (L9 (aI (aK w a)))):=
    b6 (bV (ps:=[⟨.leaf,w.enc⟩,⟨.leaf,a.enc⟩]) (aD (aB rfl) (aD (fJ (j:=1) (ds:=[.str k.w.t,a.enc]) (aB rfl) (EM aQ (d:=.int (-1)) rfl) rfl rfl rfl) aq)) ea rfl rfl) (qI hsh) (by simp)
   have pre:∀{p:PV} {r a1 a2:FS},r (GH w (.un k a) (L9 (aI (aK w a))) (L9 (aI (aK w a))))=.rt p->_:=fun {p r a1 a2} hr=>go (no (a:=a1) (tq (Aq _) (by cases k<;>rfl)) (no (a:=a2) (tq (DR _) (by cases k<;>rfl)) (az s4 (az s5 hr))))
   cases k with
   | not=>
    refine ⟨.lst .leaf,rfl,aR (pre (yes (tq (Ao _) rfl) (DQ (p:=⟨.lst .leaf,aI (aK w (.un .not a))⟩) ?_ rfl)))⟩
    rw [<-xy];exact jZ (A:=List.range w.n) (s:=.un .not a) (i:=3) rfl (by simp;omega) fun t ht=>cC (aJ (aB rfl) (aB rfl) I0)
   | sn=>
    refine ⟨.lst .leaf,rfl,aR (pre (no (tq (Ao _) rfl) (no (tq (An _) rfl) (no (tq (jV _) rfl) (yes (tq (mY _) rfl) (DQ (p:=⟨.lst .leaf,aI (aK w (.un .sn a))⟩) ?_ rfl))))))⟩
    have e:dM w (fun r=>decide (0<((w.stp r).filter fun t=>(aK w a).contains t).length))=aK w (.un .sn a):=xh fun r hr=>iS (by
     rw [decide_eq_true_iff,List.length_pos_iff_exists_mem];constructor
     ·rintro ⟨t,ht⟩
      obtain ⟨h1,h2⟩:=List.mem_filter.mp ht;rw [lp (ok.stp_lt h1)] at h2;exact ⟨t,h1,satB_iff.mp h2⟩
     ·rintro ⟨t,h1,h2⟩
      exact ⟨t,List.mem_filter.mpr ⟨h1,by rw [lp (ok.stp_lt h1)];exact satB_iff.mpr h2⟩⟩)
    rw [<-e];refine jZ (A:=List.range w.n) (s:=.un .sn a) (i:=3) rfl (by simp;omega) fun t ht=>?_
    have htn:=List.mem_range.mp ht
    have cm:aA .leaf 7 (aU (ai (ai (af 0) (eK (.int 2))) (af 6))) (aL ao (ay (bf false) (af 7) (af 4))) (af 7) ((GH w (.un .sn a) (L9 (aI (aK w a))) (L9 (aI (aK w a)))).set 6 (L9 (rm t)))=.ok ⟨.lst .leaf,aI ((w.stp t).filter fun u=>(aK w a).contains u)⟩ ((GH w (.un .sn a) (L9 (aI (aK w a))) (L9 (aI (aK w a)))).set 6 (L9 (rm t))):=
     tP rm (w.stp t) (fun u=>(aK w a).contains u) (fun u=>⟨.leaf,rm u⟩) (st:=true) (cA (s:=.leaf) (AJ ok rfl (aB rfl) htn) rfl) (by simp) rfl (by have:=stp_len ok htn;omega) (fun u hu=>cC (aJ (aB rfl) (aB rfl) jx)) fun u hu _=>⟨aB rfl,rfl⟩
    have hl:aS aG (ae (aA .leaf 7 (aU (ai (ai (af 0) (eK (.int 2))) (af 6))) (aL ao (ay (bf false) (af 7) (af 4))) (af 7)) ag) ((GH w (.un .sn a) (L9 (aI (aK w a))) (L9 (aI (aK w a)))).set 6 (L9 (rm t)))=.ok ⟨.leaf,.int ((((w.stp t).filter fun u=>(aK w a).contains u).length:Nat):Int)⟩ ((GH w (.un .sn a) (L9 (aI (aK w a))) (L9 (aI (aK w a)))).set 6 (L9 (rm t))):=bS (g:=aG) (aD cm aq) (by simp)
    have g:=cC (s:=.leaf) (aJ (g:=fI) hl (aQ (d:=.int 0)) rfl)
    rw [show decide ((0:Int)<((((w.stp t).filter fun u=>(aK w a).contains u).length:Nat):Int))=decide (0<((w.stp t).filter fun u=>(aK w a).contains u).length) from by rw [Bool.eq_iff_iff];simp only [decide_eq_true_eq];omega] at g
    exact g
   | an=>
    refine ⟨.lst .leaf,rfl,aR (pre (no (tq (Ao _) rfl) (no (tq (An _) rfl) (no (tq (jV _) rfl) (no (tq (mY _) rfl) (yes (tq (qo _) rfl) (DQ (p:=⟨.lst .leaf,aI (aK w (.un .an a))⟩) ?_ rfl)))))))⟩
    have e:dM w (fun r=>(w.stp r).all fun t=>(aK w a).contains t)=aK w (.un .an a):=xh fun r hr=>iS (by
     rw [all_eq_true];constructor
     ·intro h t ht
      have:=h t ht
      rw [lp (ok.stp_lt ht)] at this;exact satB_iff.mp this
     ·intro h t ht
      rw [lp (ok.stp_lt ht)];exact satB_iff.mpr (h t ht))
    rw [<-e];refine jZ (A:=List.range w.n) (s:=.un .an a) (i:=3) rfl (by simp;omega) fun t ht=>?_
    have htn:=List.mem_range.mp ht
    exact eB (s:=.leaf) (bS (ps:=[⟨.lst .leaf,.list ((w.stp t).map fun u=>.bool ((aK w a).contains u))⟩]) (aD (lz rm (w.stp t) (fun u=>⟨.leaf,.bool ((aK w a).contains u)⟩) (st:=true) (cA (s:=.leaf) (AJ ok rfl (aB rfl) htn) rfl) (by simp) rfl (by have:=stp_len ok htn;omega) fun u hu=>⟨aJ (aB rfl) (aB rfl) jx,rfl⟩) aq) tL)
   | sa=>exact hp.elim
   | aa=>exact hp.elim
  | bi k a b=>
   have hpa:iT a/\iT b:=by cases k<;>first | exact hp | exact hp.elim
   obtain ⟨sh,hsh,ea⟩:=wU ok n a hs.1 hpa.1 (by simp only [Sn.dep] at h;omega)
   obtain ⟨sb,hsb,eb⟩:=wU ok n b hs.2 hpa.2 (by simp only [Sn.dep] at h;omega)
   have s4:ax false 4 (aj 2 (aO n) (ae (af 0) (ae (ai (af 1) (eK (.int 1))) ag))) (GH w (.bi k a b) none none)=.nx (GH w (.bi k a b) (L9 (aI (aK w a))) none):=
    b6 (bV (ps:=[⟨.leaf,w.enc⟩,⟨.leaf,a.enc⟩]) (aD (aB rfl) (aD (fJ (j:=1) (ds:=[.str k.w.t,a.enc,b.enc]) (aB rfl) aQ rfl rfl rfl) aq)) ea rfl rfl) (qI hsh) (by simp)
   have s5:ax false 5 (aj 2 (aO n) (ae (af 0) (ae (ai (af 1) (eU dZ (eK (.int 1)))) ag))) (GH w (.bi k a b) (L9 (aI (aK w a))) none)=.nx (GH w (.bi k a b) (L9 (aI (aK w a))) (L9 (aI (aK w b)))):=
    b6 (bV (ps:=[⟨.leaf,w.enc⟩,⟨.leaf,b.enc⟩]) (aD (aB rfl) (aD (fJ (j:=2) (ds:=[.str k.w.t,a.enc,b.enc]) (aB rfl) (EM aQ (d:=.int (-1)) rfl) rfl rfl rfl) aq)) eb rfl rfl) (qI hsb) (by simp)
   have pre:∀{p:PV} {r a1 a2 a3:FS},r (GH w (.bi k a b) (L9 (aI (aK w a))) (L9 (aI (aK w b))))=.rt p->_:=fun {p r a1 a2 a3} hr=>go (no (a:=a1) (tq (Aq _) (by cases k<;>rfl)) (no (a:=a2) (tq (DR _) (by cases k<;>rfl)) (az s4 (az s5 (no (a:=a3) (tq (Ao _) (by cases k<;>rfl)) hr)))))
   cases k with
   | and=>
    refine ⟨.lst .leaf,rfl,aR (pre (yes (tq (An _) rfl) (DQ (p:=⟨.lst .leaf,aI (aK w (.bi .and a b))⟩) ?_ rfl)))⟩
    rw [<-zb];exact jZ (A:=aK w a) (s:=.bi .and a b) (i:=4) rfl (rl a) fun t ht=>cC (aJ (aB rfl) (aB rfl) jx)
   | or=>
    refine ⟨.lst .leaf,rfl,aR (pre (no (tq (An _) rfl) (yes (tq (jV _) rfl) (DQ (p:=⟨.lst .leaf,aI (aK w (.bi .or a b))⟩) ?_ rfl))))⟩
    have e:dM w (fun t=>(aK w a).contains t||(aK w b).contains t)=aK w (.bi .or a b):=xh fun r hr=>by
     rw [lp hr,lp hr];exact iS (by rw [Bool.or_eq_true,satB_iff,satB_iff];rfl)
    rw [<-e];exact jZ (A:=List.range w.n) (s:=.bi .or a b) (i:=3) rfl (by simp;omega) fun t ht=>jv (cC (aJ (aB rfl) (aB rfl) jx)) (cC (aJ (aB rfl) (aB rfl) jx))
   | su=>exact hp.elim
   | au=>exact hp.elim
noncomputable def HM (F R:List Nat) (k:Nat):Nat:=if k<F.length then F.getD k 0 else R.getD ((k-F.length) % R.length) 0
theorem iL {F R:List Nat} (hR:R≠[]) {k:Nat}:m__law_place [wy F R,.int (k:Int)]=.ok ⟨.leaf,rm (HM F R k)⟩:=by
 have hp:0<R.length:=List.length_pos_iff.mpr hR
 have f0:ai (af 0) (eK (.int 0)) (aZ 2 [wy F R,.int (k:Int)])=.ok ⟨.leaf,aI F⟩ (aZ 2 [wy F R,.int (k:Int)]):=fJ (j:=0) (aB rfl) aQ rfl rfl rfl
 have f1:ai (af 0) (eK (.int 1)) (aZ 2 [wy F R,.int (k:Int)])=.ok ⟨.leaf,aI R⟩ (aZ 2 [wy F R,.int (k:Int)]):=fJ (j:=1) (aB rfl) aQ rfl rfl rfl
 have lF:aS aG (ae (ai (af 0) (eK (.int 0))) ag) (aZ 2 [wy F R,.int (k:Int)])=.ok ⟨.leaf,.int (F.length:Int)⟩ (aZ 2 [wy F R,.int (k:Int)]):=bS (g:=aG) (d:=.int (F.length:Int)) (aD f0 aq) (by simp)
 have lR:aS aG (ae (ai (af 0) (eK (.int 1))) ag) (aZ 2 [wy F R,.int (k:Int)])=.ok ⟨.leaf,.int (R.length:Int)⟩ (aZ 2 [wy F R,.int (k:Int)]):=bS (g:=aG) (d:=.int (R.length:Int)) (aD f1 aq) (by simp)
 have t:=cC (s:=.leaf) (aJ (g:=gv) (aB (i:=1) rfl) lF KC.lt_int)
 unfold HM;by_cases c:k<F.length
 ·rw [if_pos c]
  rw [decide_eq_true (show (k:Int)<(F.length:Int) by omega)] at t
  exact aR (xg (bu t (fun _=>br (jE f0 (s:=.leaf) (k:=k) (aB rfl) c) rfl) nofun))
 ·rw [if_neg c]
  rw [decide_eq_false (show ¬(k:Int)<(F.length:Int) by omega)] at t
  have m:dh (.int ((k:Int)-(F.length:Int))) (.int (R.length:Int))=some (.int (((k-F.length) % R.length:Nat):Int)):=by
   rw [fS (by omega)]
   rw [Int.natCast_emod,show ((k-F.length:Nat):Int)=(k:Int)-(F.length:Int) by omega]
  exact aR (az (bu t nofun fun _=>rfl) (br (jE f1 (s:=.leaf) (k:=(k-F.length) % R.length) (aJ (aJ (aB rfl) lF KC.sub_int') lR m) (Nat.mod_lt _ hp)) rfl))
theorem m6 {c:Int}:∃s:Sn,bG [.int c]=.ok ⟨.leaf,s.enc⟩/\s.size<=4/\s.dep<=3/\s.ok/\iT s:=by
 have m:∀k:Int,0<=k->k<=1000->∃mc:Nat,∃d,aw [.int c,.int k,.int 3]=.ok ⟨.leaf,.int d⟩/\eY (Str.ofString "abc").cps.toList d=some mc/\(⟨#[mc]⟩:Str)∈fT:=fun k h0 h1=>by
  have d:=AA (c:=c) (k:=k) (b:=3) h0 h1 (by omega) (by omega)
  have i:=GK (c:=c) (k:=k) (b:=3) h0 h1 (by omega) (by omega)
  obtain ⟨mc,e,h⟩:=wF i.1 i.2;exact ⟨mc,_,d,e,h⟩
 obtain ⟨m1,d1,e1,a1,l1⟩:=m 3 (by omega) (by omega)
 obtain ⟨m2,d2,e2,a2,l2⟩:=m 4 (by omega) (by omega)
 obtain ⟨j,hj,ej⟩:=Dq (c:=c) (k:=5) (b:=9) (by omega) (by omega) (by omega) (by omega)
 generalize hx:(⟨#[m1]⟩:Str)=x at l1
 generalize hy:(⟨#[m2]⟩:Str)=y at l2
 have s1:ax false 1 (bB (ae (eK (.str "mark")) (ae (ai (eK (.str "abc")) (aj 3 aw (ae (af 0) (ae (eK (.int 3)) (ae (eK (.int 3)) ag))))) ag))) (aZ 4 [.int c])=.nx [L9 (.int c),L9 ((Sn.mk x).enc),none,none]:=by
  rw [<-hx];exact b6 (cI (aD aQ (aD (uj aQ (bV (aD (aB rfl) (aD aQ (aD aQ aq))) e1 rfl rfl) qB a1) aq)) rfl rfl) rfl (by simp [aZ])
 have s2:ax false 2 (bB (ae (eK (.str "mark")) (ae (ai (eK (.str "abc")) (aj 3 aw (ae (af 0) (ae (eK (.int 4)) (ae (eK (.int 3)) ag))))) ag))) [L9 (.int c),L9 ((Sn.mk x).enc),none,none]=.nx [L9 (.int c),L9 ((Sn.mk x).enc),L9 ((Sn.mk y).enc),none]:=by
  rw [<-hy];exact b6 (cI (aD aQ (aD (uj aQ (bV (aD (aB rfl) (aD aQ (aD aQ aq))) e2 rfl rfl) qB a2) aq)) rfl rfl) rfl (by simp)
 have pn:∀(i:Nat) (s:Sn) (Γ:Ev),Γ[i]?=some (L9 s.enc)->bB (ae (eK (.str "not")) (ae (af i) ag)) Γ=.ok ⟨.tup [.leaf,.leaf],(Sn.un .not s).enc⟩ Γ:=fun i s Γ h=>cI (aD aQ (aD (aB h) aq)) rfl rfl
 have pu:∀(u:U5) (z:Str) (i:Nat) (s:Sn) (Γ:Ev),z=u.w.t->Γ[i]?=some (L9 s.enc)->bB (ae (eK (.str z)) (ae (af i) ag)) Γ=.ok ⟨.tup [.leaf,.leaf],(Sn.un u s).enc⟩ Γ:=fun u z i s Γ e h=>by rw [e];exact cI (aD aQ (aD (aB h) aq)) rfl rfl
 have s3:∀(s:Sn) (j:Nat),aw [.int c,.int 5,.int ((9:Nat):Int)]=.ok ⟨.leaf,rm j⟩->eF 9 (j:Int)=some j->[(Sn.mk x).enc,(Sn.un .not (.mk x)).enc,(Sn.bi .and (.mk x) (.un .not (.mk y))).enc,(Sn.bi .or (.mk x) (.mk y)).enc,(Sn.un .sn (.mk x)).enc,Sn.yes.enc,(Sn.un .an (.mk y)).enc,(Sn.mk x).enc,(Sn.un .not .yes).enc][j]?=some s.enc->bG [.int c]=.ok ⟨.leaf,s.enc⟩:=fun s j e ix at'=>by
  refine aR (az s1 (az s2 (az (Γ1:=[L9 (.int c),L9 ((Sn.mk x).enc),L9 ((Sn.mk y).enc),L9 (.list [(Sn.mk x).enc,(Sn.un .not (.mk x)).enc,(Sn.bi .and (.mk x) (.un .not (.mk y))).enc,(Sn.bi .or (.mk x) (.mk y)).enc,(Sn.un .sn (.mk x)).enc,Sn.yes.enc])]) (b6 (jy (s:=.leaf) (aD (aB rfl) (aD (pn 1 (.mk x) _ rfl) (aD (cI (aD aQ (aD (aB rfl) (aD (pn 2 (.mk y) _ rfl) aq))) rfl rfl) (aD (cI (aD aQ (aD (aB rfl) (aD (aB rfl) aq))) rfl rfl) (aD (pu .sn _ 1 (.mk x) _ rfl rfl) (aD (cI (aD aQ aq) rfl rfl) aq)))))) rfl rfl rfl) rfl (by simp)) ?_)))
  have ct:=ic (fa:=af 3) (Γ:=[L9 (.int c),L9 ((Sn.mk x).enc),L9 ((Sn.mk y).enc),L9 (.list [(Sn.mk x).enc,(Sn.un .not (.mk x)).enc,(Sn.bi .and (.mk x) (.un .not (.mk y))).enc,(Sn.bi .or (.mk x) (.mk y)).enc,(Sn.un .sn (.mk x)).enc,Sn.yes.enc])]) (aB rfl) (jy (s:=.leaf) (aD (pu .an "all next" 2 (.mk y) _ rfl rfl) (aD (aB (i:=1) rfl) (aD (cI (aD (aQ (d:=.str "not")) (aD (cI (aD (aQ (d:=.str "yes")) aq) rfl rfl) aq)) rfl rfl) aq))) rfl rfl rfl) rfl rfl (by simp)
  exact br (sY ct (bV (aD (aB rfl) (aD aQ (aD aQ aq))) e rfl rfl) ix at' rfl) rfl
 match j,hj,ej with
 | 0,_,e=>exact ⟨.mk x,s3 _ 0 e rfl rfl,Nat.le_of_ble_eq_true rfl,Nat.le_of_ble_eq_true rfl,l1,trivial⟩
 | 1,_,e=>exact ⟨.un .not (.mk x),s3 _ 1 e rfl rfl,Nat.le_of_ble_eq_true rfl,Nat.le_of_ble_eq_true rfl,l1,trivial⟩
 | 2,_,e=>exact ⟨.bi .and (.mk x) (.un .not (.mk y)),s3 _ 2 e rfl rfl,Nat.le_of_ble_eq_true rfl,Nat.le_of_ble_eq_true rfl,⟨l1,l2⟩,⟨trivial,trivial⟩⟩
 | 3,_,e=>exact ⟨.bi .or (.mk x) (.mk y),s3 _ 3 e rfl rfl,Nat.le_of_ble_eq_true rfl,Nat.le_of_ble_eq_true rfl,⟨l1,l2⟩,⟨trivial,trivial⟩⟩
 | 4,_,e=>exact ⟨.un .sn (.mk x),s3 _ 4 e rfl rfl,Nat.le_of_ble_eq_true rfl,Nat.le_of_ble_eq_true rfl,l1,trivial⟩
 | 5,_,e=>exact ⟨.yes,s3 _ 5 e rfl rfl,Nat.le_of_ble_eq_true rfl,Nat.le_of_ble_eq_true rfl,trivial,trivial⟩
 | 6,_,e=>exact ⟨.un .an (.mk y),s3 _ 6 e rfl rfl,Nat.le_of_ble_eq_true rfl,Nat.le_of_ble_eq_true rfl,l2,trivial⟩
 | 7,_,e=>exact ⟨.mk x,s3 _ 7 e rfl rfl,Nat.le_of_ble_eq_true rfl,Nat.le_of_ble_eq_true rfl,l1,trivial⟩
 | 8,_,e=>exact ⟨.un .not .yes,s3 _ 8 e rfl rfl,Nat.le_of_ble_eq_true rfl,Nat.le_of_ble_eq_true rfl,trivial,trivial⟩
theorem lM {p q:Nat->Bool}:∀{A:List Nat},(∀x∈A,q x=false)->iZ p q A=false
 | [],_=>rfl
 | x::r,h=>by
  show (q x||(p x&&iZ p q r))=false
  rw [h x (by simp),lM fun y hy=>h y (by simp [hy])]
  simp
theorem jG {p q:Nat->Bool} {y:Nat} {Z:List Nat} (hy:q y=true):∀{X:List Nat},(∀x∈X,q x=false)->iZ p q (X++y::Z)=X.all p
 | [],_=>by
  show (q y||_)=true
  rw [hy];rfl
 | x::r,h=>by
  show (q x||(p x&&iZ p q (r++y::Z)))=(p x&&r.all p)
  rw [h x (by simp),jG hy fun z hz=>h z (by simp [hz])]
  simp
theorem sk {p q:Nat->Bool} {A:List Nat} (h:(List.range A.length).filter (fun k=>q (A.getD k 0))=[]):iZ p q A=false:=by
 refine lM fun x hx=>?_
 obtain ⟨k,hk,e⟩:=List.mem_iff_getElem.mp hx;have:=List.filter_eq_nil_iff.mp h k (List.mem_range.mpr hk)
 rw [LW,LV hk] at this;simp only [Option.getD_some,e] at this
 simpa using this
theorem sj {p q:Nat->Bool} {A r:List Nat} {j:Nat} (h:(List.range A.length).filter (fun k=>q (A.getD k 0))=j::r):iZ p q A=(A.take j).all p/\j<A.length:=by
 have hj:=List.mem_filter.mp (show j∈(List.range A.length).filter (fun k=>q (A.getD k 0)) by rw [h];simp)
 have hjl:=List.mem_range.mp hj.1
 have pw:(j::r).Pairwise (· < ·):=by rw [<-h];exact List.Pairwise.filter _ List.pairwise_lt_range
 refine ⟨?_,hjl⟩
 have e:A=A.take j++A[j]::A.drop (j+1):=by rw [<-drop_eq_getElem_cons hjl,List.take_append_drop]
 have hq:q A[j]=true:=by
  have:=hj.2
  rw [LW,LV hjl] at this;exact this
 have:=jG (p:=p) (q:=q) (Z:=A.drop (j+1)) hq (X:=A.take j) fun x hx=>by
  obtain ⟨k,hk,ek⟩:=List.mem_iff_getElem.mp hx;rw [length_take] at hk;have hkj:k<j:=by omega
  have hkl:k<A.length:=by omega
  rw [List.getElem_take] at ek
  cases hb:q x with
  | false=>rfl
  | true=>
   have:k∈(List.range A.length).filter (fun k=>q (A.getD k 0)):=List.mem_filter.mpr ⟨List.mem_range.mpr hkl,by rw [LW,LV hkl];simp only [Option.getD_some,ek];exact hb⟩
   rw [h] at this;rcases LU this with z | z
   ·omega
   ·have:=(List.pairwise_cons.mp pw).1 k z
    omega
 rw [<-e] at this;exact this
theorem LF {a b:Bool}:bC (.bool a) (.bool b)=some (.bool (a==b)):=by cases a<;>cases b<;>kernel_rfl
theorem FQ (a:Wr):bf false (.str a.t) (.tuple [.str "some next",.str "all next"])=some (.bool (decide (a=.sn\/a=.an))):=by cases a<;>kernel_rfl
theorem FR (a:Wr):cU false (.str "always") (.str a.t)=some (.bool (decide (a=.sa\/a=.aa))):=by cases a<;>kernel_rfl
theorem A8 {Γ:Ev} {fa fb:F1} {s:Sh} (ha:fa Γ=.ok ⟨s,.bool false⟩ Γ):cV fa fb Γ=.ok ⟨.leaf,.bool false⟩ Γ:=by unfold cV aX;rw [ha];rfl
theorem IV {Γ Γ1:Ev} {fl:FL} {ps:List PV} {n:Nat} {d:D} {den:List D->Res} (hl:fl Γ=.ok ps Γ1) (hd:den (ps.map (·.d))=.ok ⟨.leaf,d⟩) (hn:ps.length=n) (hs:bz d=true):aj n den fl Γ=.ok ⟨.leaf,d⟩ Γ1:=by
 unfold aj;rw [hl];simp only [Out.bind,hn,hd,hs,if_true]
 split<;>rfl
theorem IC {w:Wd} (ok:w.Ok) {a:Sn} (ha:a.ok) (pa:iT a) (da:a.dep<=10) {Γ:Ev} {fl:FL} (hl:fl Γ=.ok [⟨.leaf,w.enc⟩,⟨.leaf,a.enc⟩] Γ):∃sh:Sh,sh.isView=false/\aj 2 bx fl Γ=.ok ⟨sh,aI (aK w a)⟩ Γ:=by
 obtain ⟨sh,h1,h2⟩:=wU ok 10 a ha pa da;exact ⟨sh,h1,bV hl h2 rfl rfl⟩
noncomputable abbrev gC (w:Wd) (s:Sn) (F R:List Nat) (A:List Nat) (x5 x6:Option PV):Ev:=[L9 w.enc,L9 s.enc,L9 (wy F R),L9 (aI A),L9 (aI (F++R)),x5,x6,none,none]
theorem oR {w:Wd} (ok:w.Ok) {s:Sn} (hs:s.ok) (hp:∀a∈s.args,iT a) (hd:s.dep<=9) (ht:s.tm=true) {F R:List Nat} (h:j9 w F R) (hln:F.length+R.length<=100):bX [w.enc,s.enc,wy F R]=.ok ⟨.leaf,.bool (wC w s F R==s.w.ofS)⟩:=by
 obtain ⟨hx,e4,f4⟩:=vP s.w;have fin:∀(b:Bool) (A:List Nat) (x6:Option PV),b=wC w s F R->aF (ay bC (af 5) (ay bC (ay dO (ai (af 1) (eK (.int 0))) (eK (.int 4))) (eK (.str "some")))) (gC w s F R A (L9 (.bool b)) x6)=.rt ⟨.leaf,.bool (wC w s F R==s.w.ofS)⟩:=fun b A x6 e=>by
  rw [<-e];exact br (aJ (aB rfl) (aJ (aJ (lK (s:=s) rfl) aQ e4) aQ f4) LF) rfl
 have t1:∀(A:List Nat),aL ao (ay (bf false) (ai (af 1) (eK (.int 0))) (bB (ae (eK (.str "some next")) (ae (eK (.str "all next")) ag)))) (gC w s F R A none none)=.ok (decide (s.w=.sn\/s.w=.an)) (gC w s F R A none none):=fun A=>cC (s:=.leaf) (aJ (lK (s:=s) rfl) (cI (aD aQ (aD aQ aq)) rfl rfl) (FQ _))
 have t2:∀(A:List Nat),aL ao (ay (cU false) (eK (.str "always")) (ai (af 1) (eK (.int 0)))) (gC w s F R A none none)=.ok (decide (s.w=.sa\/s.w=.aa)) (gC w s F R A none none):=fun A=>cC (s:=.leaf) (aJ aQ (lK (s:=s) rfl) (FR _))
 have ct:∀Γ:Ev,Γ[2]?=some (L9 (wy F R))->cO (ai (af 2) (eK (.int 0))) (ai (af 2) (eK (.int 1))) Γ=.ok ⟨.lst .leaf,aI (F++R)⟩ Γ:=fun Γ h2=>by
  have i0:ai (af 2) (eK (.int 0)) Γ=.ok ⟨.leaf,aI F⟩ Γ:=fJ (j:=0) (aB h2) aQ rfl rfl rfl
  have i1:ai (af 2) (eK (.int 1)) Γ=.ok ⟨.leaf,aI R⟩ Γ:=fJ (j:=1) (aB h2) aQ rfl rfl rfl
  have:=ic i0 i1 rfl rfl (by simp;omega)
  rw [this];simp [aI]
 have pl:=iL (F:=F) h.ne (k:=1)
 cases s with
 | yes=>simp [Sn.tm,Sn.w,Wr.ofS,Wr.ofA] at ht
 | mk c=>simp [Sn.tm,Sn.w,Wr.ofS,Wr.ofA] at ht
 | un k a=>
  obtain ⟨sh,hsh,ea⟩:=IC ok (a:=a) hs (hp a (by simp [Sn.args])) (by simp only [Sn.dep] at hd;omega) (Γ:=aZ 9 [w.enc,(Sn.un k a).enc,wy F R]) (fl:=ae (af 0) (ae (ai (af 1) (eK (.int 1))) ag)) (aD (aB rfl) (aD (fJ (j:=1) (ds:=[.str k.w.t,a.enc]) (aB rfl) aQ rfl rfl rfl) aq))
  refine aR (az (b6 ea (qI hsh) (by simp [aZ])) (az (Γ1:=gC w (.un k a) F R (aK w a) none none) (b6 (ct _ rfl) rfl (by simp [aZ])) ?_))
  have mL:((Sn.un k a).w=.sn\/(Sn.un k a).w=.an)->wC w (.un k a) F R=(aK w a).contains (zR F R)->ak (bD (aL ao (ay (bf false) (ai (af 1) (eK (.int 0))) (bB (ae (eK (.str "some next")) (ae (eK (.str "all next")) ag))))) (ax false 5 (ay (bf false) (aj 2 m__law_place (ae (af 2) (ae (eK (.int 1)) ag))) (af 3))) (bD (aL ao (ay (cU false) (eK (.str "always")) (ai (af 1) (eK (.int 0))))) (ax false 5 (aS (bL false) (ae (aA .leaf 8 (aU (af 4)) aN (ay (bf false) (af 8) (af 3))) ag))) (ak (ax false 6 (aA .leaf 7 (dq (ae (aS aG (ae (af 4) ag)) ag)) (aL ao (ay (bf false) (ai (af 4) (af 7)) (aj 2 bx (ae (af 0) (ae (ai (af 1) (eK (.int 2))) ag))))) (af 7))) (ax false 5 (cV (ay fI (aS aG (ae (af 6) ag)) (eK (.int 0))) (aS (bL false) (ae (aA .leaf 8 (aU (du (fun k=>(none,some k)) (af 4) (ai (af 6) (eK (.int 0))))) aN (ay (bf false) (af 8) (af 3))) ag))))))) (aF (ay bC (af 5) (ay bC (ay dO (ai (af 1) (eK (.int 0))) (eK (.int 4))) (eK (.str "some"))))) (gC w (.un k a) F R (aK w a) none none)=.rt ⟨.leaf,.bool (wC w (.un k a) F R==(Sn.un k a).w.ofS)⟩:=fun hw ha=>by
   have t:=t1 (aK w a)
   rw [decide_eq_true hw] at t;refine az (Γ1:=gC w (.un k a) F R (aK w a) (L9 (.bool ((aK w a).contains (zR F R)))) none) (bu t (fun _=>b6 (aJ (bV (aD (aB rfl) (aD aQ aq)) pl rfl rfl) (aB rfl) jx) rfl (by simp)) nofun) (fin _ _ _ ha.symm)
  have alw:((Sn.un k a).w=.sa\/(Sn.un k a).w=.aa)->¬((Sn.un k a).w=.sn\/(Sn.un k a).w=.an)->wC w (.un k a) F R=((F++R).all fun t=>(aK w a).contains t)->ak (bD (aL ao (ay (bf false) (ai (af 1) (eK (.int 0))) (bB (ae (eK (.str "some next")) (ae (eK (.str "all next")) ag))))) (ax false 5 (ay (bf false) (aj 2 m__law_place (ae (af 2) (ae (eK (.int 1)) ag))) (af 3))) (bD (aL ao (ay (cU false) (eK (.str "always")) (ai (af 1) (eK (.int 0))))) (ax false 5 (aS (bL false) (ae (aA .leaf 8 (aU (af 4)) aN (ay (bf false) (af 8) (af 3))) ag))) (ak (ax false 6 (aA .leaf 7 (dq (ae (aS aG (ae (af 4) ag)) ag)) (aL ao (ay (bf false) (ai (af 4) (af 7)) (aj 2 bx (ae (af 0) (ae (ai (af 1) (eK (.int 2))) ag))))) (af 7))) (ax false 5 (cV (ay fI (aS aG (ae (af 6) ag)) (eK (.int 0))) (aS (bL false) (ae (aA .leaf 8 (aU (du (fun k=>(none,some k)) (af 4) (ai (af 6) (eK (.int 0))))) aN (ay (bf false) (af 8) (af 3))) ag))))))) (aF (ay bC (af 5) (ay bC (ay dO (ai (af 1) (eK (.int 0))) (eK (.int 4))) (eK (.str "some"))))) (gC w (.un k a) F R (aK w a) none none)=.rt ⟨.leaf,.bool (wC w (.un k a) F R==(Sn.un k a).w.ofS)⟩:=fun hw hn ha=>by
   have t:=t1 (aK w a)
   rw [decide_eq_false hn] at t;have t':=t2 (aK w a)
   rw [decide_eq_true hw] at t';have cm:aA .leaf 8 (aU (af 4)) aN (ay (bf false) (af 8) (af 3)) (gC w (.un k a) F R (aK w a) none none)=.ok ⟨.lst .leaf,.list ((F++R).map fun t=>.bool ((aK w a).contains t))⟩ (gC w (.un k a) F R (aK w a) none none):=
    lz rm (F++R) (fun t=>⟨.leaf,.bool ((aK w a).contains t)⟩) (st:=true) (cA (s:=.leaf) (aB rfl) rfl) (by simp) rfl (by simp;omega) fun t ht=>⟨aJ (aB rfl) (aB rfl) jx,rfl⟩
   exact az (Γ1:=gC w (.un k a) F R (aK w a) (L9 (.bool ((F++R).all fun t=>(aK w a).contains t))) none) (bu t nofun fun _=>bu t' (fun _=>b6 (bS (aD cm aq) tL) rfl (by simp)) nofun) (fin _ _ _ ha.symm)
  cases k with
  | not=>simp [Sn.tm,Sn.w,U5.w,Wr.ofS,Wr.ofA] at ht
  | sn=>exact mL (.inl rfl) rfl
  | an=>exact mL (.inr rfl) rfl
  | sa=>exact alw (.inl rfl) (by simp [Sn.w,U5.w]) rfl
  | aa=>exact alw (.inr rfl) (by simp [Sn.w,U5.w]) rfl
 | bi k a b=>
  have hk:k.w=.su\/k.w=.au:=by
   cases k with
   | and=>simp [Sn.tm,Sn.w,B4.w,Wr.ofS,Wr.ofA] at ht
   | or=>simp [Sn.tm,Sn.w,B4.w,Wr.ofS,Wr.ofA] at ht
   | su=>exact .inl rfl
   | au=>exact .inr rfl
  have n1:¬((Sn.bi k a b).w=.sn\/(Sn.bi k a b).w=.an):=by cases k<;>simp [Sn.w,B4.w]
  have n2:¬((Sn.bi k a b).w=.sa\/(Sn.bi k a b).w=.aa):=by cases k<;>simp [Sn.w,B4.w]
  obtain ⟨sh,hsh,ea⟩:=IC ok (a:=a) hs.1 (hp a (by simp [Sn.args])) (by simp only [Sn.dep] at hd;omega) (Γ:=aZ 9 [w.enc,(Sn.bi k a b).enc,wy F R]) (fl:=ae (af 0) (ae (ai (af 1) (eK (.int 1))) ag)) (aD (aB rfl) (aD (fJ (j:=1) (ds:=[.str k.w.t,a.enc,b.enc]) (aB rfl) aQ rfl rfl rfl) aq))
  refine aR (az (b6 ea (qI hsh) (by simp [aZ])) (az (Γ1:=gC w (.bi k a b) F R (aK w a) none none) (b6 (ct _ rfl) rfl (by simp [aZ])) ?_))
  have t:=t1 (aK w a)
  rw [decide_eq_false n1] at t;have t':=t2 (aK w a)
  rw [decide_eq_false n2] at t';have lenR:aS aG (ae (af 4) ag) (gC w (.bi k a b) F R (aK w a) none none)=.ok ⟨.leaf,.int (((F++R).length:Nat):Int)⟩ (gC w (.bi k a b) F R (aK w a) none none):=bS (g:=aG) (aD (aB rfl) aq) (by simp)
  have cm:aA .leaf 7 (dq (ae (aS aG (ae (af 4) ag)) ag)) (aL ao (ay (bf false) (ai (af 4) (af 7)) (aj 2 bx (ae (af 0) (ae (ai (af 1) (eK (.int 2))) ag))))) (af 7) (gC w (.bi k a b) F R (aK w a) none none)=.ok ⟨.lst .leaf,aI ((List.range (F++R).length).filter fun k=>(aK w b).contains ((F++R).getD k 0))⟩ (gC w (.bi k a b) F R (aK w a) none none):=
   tP rm (List.range (F++R).length) (fun k=>(aK w b).contains ((F++R).getD k 0)) (fun t=>⟨.leaf,rm t⟩) (st:=true) (nE (s:=.leaf) (n:=(F++R).length) (by simp;omega) (aD lenR aq)) (by simp) rfl (by simp;omega) (fun q hq=>by
    obtain ⟨sb,hsb,eb⟩:=IC ok (a:=b) hs.2 (hp b (by simp [Sn.args])) (by simp only [Sn.dep] at hd;omega) (Γ:=(gC w (.bi k a b) F R (aK w a) none none).set 7 (L9 (rm q))) (fl:=ae (af 0) (ae (ai (af 1) (eK (.int 2))) ag)) (aD (aB rfl) (aD (fJ (j:=2) (ds:=[.str k.w.t,a.enc,b.enc]) (aB rfl) aQ rfl rfl rfl) aq))
    exact cC (s:=.leaf) (aJ (jE (s:=.leaf) (l:=F++R) (k:=q) (aB rfl) (aB rfl) (List.mem_range.mp hq)) eb jx)) fun q hq _=>⟨aB rfl,rfl⟩
  have al:wC w (.bi k a b) F R=iZ (fun t=>(aK w a).contains t) (fun t=>(aK w b).contains t) (F++R):=rfl
  cases he:(List.range (F++R).length).filter (fun k=>(aK w b).contains ((F++R).getD k 0)) with
  | nil=>
   rw [he] at cm;have:=sk (p:=fun t=>(aK w a).contains t) (q:=fun t=>(aK w b).contains t) (A:=F++R) he
   refine az (Γ1:=gC w (.bi k a b) F R (aK w a) (L9 (.bool false)) (L9 (aI []))) (bu t nofun fun _=>bu t' nofun fun _=>az (Γ1:=gC w (.bi k a b) F R (aK w a) none (L9 (aI []))) (b6 cm rfl (by simp)) (b6 (A8 (s:=.leaf) (aJ (g:=fI) (bS (g:=aG) (d:=.int 0) (aD (aB rfl) aq) (by simp)) aQ rfl)) rfl (by simp))) (fin _ _ _ (by rw [al,this]))
  | cons j r=>
   rw [he] at cm;obtain ⟨e1,hjl⟩:=sj (p:=fun t=>(aK w a).contains t) (q:=fun t=>(aK w b).contains t) (A:=F++R) he
   have q1:=pq (g:=fun k=>(none,some k)) (Γ:=gC w (.bi k a b) F R (aK w a) none (L9 (aI (j::r)))) (fa:=af 4) (fb:=ai (af 6) (eK (.int 0))) (k:=(j:Int)) (aB rfl) (sY (j:=0) (aB rfl) aQ (by show eF _ ((0:Nat):Int)=some 0;exact Ar (by simp)) rfl rfl) DO
   simp only at q1
   rw [zH] at q1;have cm2:aA .leaf 8 (aU (du (fun k=>(none,some k)) (af 4) (ai (af 6) (eK (.int 0))))) aN (ay (bf false) (af 8) (af 3)) (gC w (.bi k a b) F R (aK w a) none (L9 (aI (j::r))))=.ok ⟨.lst .leaf,.list (((F++R).take j).map fun t=>.bool ((aK w a).contains t))⟩ (gC w (.bi k a b) F R (aK w a) none (L9 (aI (j::r)))):=
    lz rm ((F++R).take j) (fun t=>⟨.leaf,.bool ((aK w a).contains t)⟩) (st:=true) (cA (s:=.lst .leaf) q1 rfl) (by simp) rfl (by simp;omega) fun t ht=>⟨aJ (aB rfl) (aB rfl) jx,rfl⟩
   have g0:ay fI (aS aG (ae (af 6) ag)) (eK (.int 0)) (gC w (.bi k a b) F R (aK w a) none (L9 (aI (j::r))))=.ok ⟨.leaf,.bool true⟩ (gC w (.bi k a b) F R (aK w a) none (L9 (aI (j::r)))):=aJ (g:=fI) (bS (g:=aG) (d:=.int (((j::r).length:Nat):Int)) (aD (aB rfl) aq) (by simp)) aQ (by
    show some (PyData.bool (decide ((0:Int)<(((j::r).length:Nat):Int))))=_
    rw [decide_eq_true (by simp)])
   refine az (Γ1:=gC w (.bi k a b) F R (aK w a) (L9 (.bool (true&&((F++R).take j).all fun t=>(aK w a).contains t))) (L9 (aI (j::r)))) (bu t nofun fun _=>bu t' nofun fun _=>az (Γ1:=gC w (.bi k a b) F R (aK w a) none (L9 (aI (j::r)))) (b6 cm rfl (by simp)) (b6 (v_and (s:=.leaf) g0 (bS (aD cm2 aq) tL)) rfl (by simp))) (fin _ _ _ (by rw [al,e1];rfl))
end KQ.M
namespace KQ.M.A
open PySem PySem.Spec L2 T
open PyProof.Rows hiding St
open KC
noncomputable abbrev xcl:List Str:=["NoWay"]
noncomputable def oO:FS:=(ak (b9 (aj 1 bH (ae (af 0) ag)))
  (ak (b9 (aj 1 cQ (ae (af 1) ag)))
  (ak (b9 (aj 2 cP (ae (af 0) (ae (af 2) ag))))
  (ak (ax false 3 (ai (af 1) (eK (.int 0))))
  (ak (ax false 4 (aA .leaf 7 (eu (aj 1 aV (ae (af 1) ag))) aN (aj 2 df (ae (af 0) (ae (af 7) ag)))))
  (ak (ax false 5 (aj 3 bI (ae (af 0) (ae (af 1) (ae (af 4) ag)))))
  (ak (bD (aL ao (ay eC (ay (bf false) (af 2) (aj 4 bU (ae (af 0) (ae (af 1) (ae (af 4) (ae (af 5) ag)))))) (ay (bf false) (af 3) (eK bO)))) (GQ "NoWay") aH)
  (ak (ax false 6 (aA .leaf 8 (dq (ae (aS aG (ae (ai (af 0) (eK (.int 0))) ag)) ag)) aN (ai (cO (aj 5 bj (ae (af 0) (ae (af 3) (ae (af 4) (ae (af 5) (ae (af 8) ag)))))) (ai (ai (af 0) (eK (.int 2))) (af 8))) (eK (.int 0)))))
  (aF (aj 2 dv (ae (af 6) (ae (af 2) ag))))))))))))
noncomputable def cX:List L8->Res:=aE 9 oO
noncomputable def d__law_met:FS:=(ak (ax true 3 (eK .none))
  (ak (kr xcl 4 (ax true 3 (tO 3 cX (ae (af 0) (ae (af 1) (ae (af 2) ag))))) fun c=>ax false 3 (oJ (cG c)))
  (aF (bR 3))))
noncomputable def m__law_met:List L8->Res:=aE 5 d__law_met
noncomputable def d_law:FS:=(ak (ax false 1 (aj 3 m__law_world (ae (af 0) (ae (eK (.int 0)) (ae (eK (.int 6)) ag)))))
  (ak (bD (aL ao (ay bC (aj 3 aw (ae (aj 2 aC (ae (af 0) (ae (eK (.int 10)) ag))) (ae (eK (.int 0)) (ae (eK (.int 8)) ag)))) (eK (.int 1)))) (ak (ax false 7 (aj 3 aw (ae (aj 2 aC (ae (af 0) (ae (eK (.int 10)) ag))) (ae (eK (.int 1)) (ae (eK (.int 24)) ag)))))
  (ax false 1 (bB (ae (fW (aM .leaf (ae (eK (.int 0)) ag)) (eK (.int 24))) (ae (cO (cO (fW (aM .leaf (ae (aM .leaf (ae (eK (.str "a")) ag)) ag)) (af 7)) (aM .leaf (ae (aM .leaf (ae (eK (.str "b")) ag)) ag))) (fW (aM .leaf (ae (aM .leaf (ae (eK (.str "a")) ag)) ag)) (ay gSub (eK (.int 23)) (af 7)))) (ae (aA .leaf 11 (dq (ae (eK (.int 24)) ag)) aN (aM .leaf (ae (ay dh (ay aW (af 11) (eK (.int 1))) (eK (.int 24))) ag))) ag)))))) aH)
  (ak (ax false 2 (aS aG (ae (ai (af 1) (eK (.int 0))) ag)))
  (ak (gH 8 9 (ae (aj 1 bG (ae (aj 2 aC (ae (af 0) (ae (eK (.int 7)) ag))) ag)) (ae (aj 1 bG (ae (aj 2 aC (ae (af 0) (ae (eK (.int 8)) ag))) ag)) ag)))
  (ak (ax false 3 (aj 3 bJ (ae (aj 2 aC (ae (af 0) (ae (eK (.int 9)) ag))) (ae (af 8) (ae (af 9) ag)))))
  (ak (ax false 4 (aj 2 bx (ae (af 1) (ae (af 3) ag))))
  (ak (ax false 5 (aj 1 m__law_twin (ae (af 1) ag)))
  (ak (cZ 6 (dq (ae (af 2) ag))
  (ak (ax true 10 (aj 3 m__law_met (ae (af 5) (ae (af 3) (ae (af 6) ag)))))
  (ak (bD (aL ao (ay eC (af 5) (af 1))) (aF (eK (.bool false))) aH)
  (bD (aL ao (ay eC (ay (bf false) (af 6) (af 4)) (ay bC (ay dO (ai (af 3) (eK (.int 0))) (eK (.int 4))) (eK (.str "some"))))) (bD (aL ao (ay eC (af 10) (eK (.str "way")))) (aF (eK (.bool false))) aH) (bD (d5 (bY (aL bh (aj 2 bN (ae (af 1) (ae (af 10) ag))))) (aL ao (ay fI (aS se (ae (aS aG (ae (ai (af 10) (eK (.int 0))) ag)) (ae (aS aG (ae (ai (af 10) (eK (.int 1))) ag)) ag))) (ay gr (eK (.int 2)) (af 2))))) (aF (eK (.bool false))) (bD (d5 (aL ao (ay eC (aj 2 m__law_place (ae (af 10) (ae (eK (.int 0)) ag))) (af 6))) (bY (aL bh (aj 3 bX (ae (af 1) (ae (af 3) (ae (af 10) ag))))))) (aF (eK (.bool false))) (ak (ax false 12 (aS eA (ae (af 10) ag)))
  (ak (dN 10 0 (eK (.int 0)))
  (ak (dN 10 1 (eK (.int 0)))
  (bD (aL ao (ay eC (aS eA (ae (aj 3 m__law_met (ae (af 5) (ae (af 3) (ae (af 6) ag)))) ag)) (af 12))) (aF (eK (.bool false))) aH))))))))))
  (aF (eK (.bool true)))))))))))
noncomputable def m_law:List L8->Res:=aE 13 d_law
open PySem.SeqAt
noncomputable def eZ:Wr->Bool
 | .su=>true
 | .au=>true
 | _=>false
theorem zV (a:Wr):cU false (.str "until") (.str a.t)=some (.bool (eZ a)):=by cases a<;>kernel_rfl
theorem CD (a:Wr):cU true (.str "until") (.str a.t)=some (.bool (!eZ a)):=by cases a<;>kernel_rfl
noncomputable def lN (w:Wd) (u sm:Bool) (a f:Nat->Bool) (r:Nat):Bool:=
 (u&&(f r||(a r&&bP sm ((w.stp r).map f))))||(!u&&(f r&&bP sm ((w.stp r).map f)))
noncomputable def nK (w:Wd) (u sm:Bool) (a f0:Nat->Bool):Nat->Nat->Bool
 | 0=>f0
 | t+1=>lN w u sm a (nK w u sm a f0 t)
theorem pz {w:Wd} {sm:Bool} {a b:Nat->Bool}:∀t,nK w true sm a b t=dm w sm a b t
 | 0=>rfl
 | t+1=>funext fun r=>by
  show lN w true sm a (nK w true sm a b t) r=dm w sm a b (t+1) r
  rw [pz t];have m:=IA (w:=w) (any:=sm) (a:=a) (b:=b) t r
  have b0:b r=true->dm w sm a b t r=true:=fun h=>by cases t<;>simp [dm,h]
  unfold lN;rw [dm] at m ⊢;rw [Bool.eq_iff_iff];simp only [Bool.true_and,Bool.not_true,Bool.false_and,Bool.or_false,Bool.or_eq_true,Bool.and_eq_true] at m ⊢
  constructor
  ·rintro (h | h)
   ·exact m h
   ·exact .inr h
  ·rintro (h | h)
   ·exact .inl (b0 h)
   ·exact .inr h
theorem yl {sm:Bool} {l:List Nat} {q:Nat->Bool}:bP sm (l.map fun t=>!q t)=!bP (!sm) (l.map q):=by
 unfold bP
 cases sm with
 | true=>simp [any_map,all_map,List.not_all_eq_any_not,Function.comp_def]
 | false=>simp [any_map,all_map,List.not_any_eq_all_not,Function.comp_def]
theorem zz {w:Wd} {sm:Bool} {a:Nat->Bool}:∀t,nK w false sm a a t=fun r=>!dm w (!sm) (fun _=>true) (fun r=>!a r) t r
 | 0=>funext fun r=>by simp [nK,dm]
 | t+1=>funext fun r=>by
  show lN w false sm a (nK w false sm a a t) r=!dm w (!sm) (fun _=>true) (fun r=>!a r) (t+1) r
  rw [zz t,<-pz (t+1)];show _=!lN w true (!sm) (fun _=>true) (nK w true (!sm) (fun _=>true) (fun r=>!a r) t) r
  rw [pz t];unfold lN;rw [yl];simp
noncomputable abbrev GT (w:Wd) (W:Wr) (a b:Nat->Bool) (f:Nat->Bool) (x6 x7 x8 x9 x10:Option PV):Ev:=[L9 w.enc,L9 (.str W.t),L9 (aI (dM w a)),L9 (aI (dM w b)),L9 (.bool W.ofS),some ⟨.lst .leaf,aI (dM w f)⟩,x6,x7,x8,x9,x10,none]
noncomputable abbrev JE:FS:=(ak (ax false 9 (aA .leaf 11 (aU (ai (ai (af 0) (eK (.int 2))) (af 8))) (aL ao (ay (bf false) (af 11) (af 5))) (af 11)))
  (ak (ax false 10 (oN (aL bh (af 4)) (ay fI (aS aG (ae (af 9) ag)) (eK (.int 0))) (ay bC (aS aG (ae (af 9) ag)) (aS aG (ae (ai (ai (af 0) (eK (.int 2))) (af 8)) ag)))))
  (ak (bD (cx (aL ao (ay (cU false) (eK (.str "until")) (af 1))) (d5 (aL ao (ay (bf false) (af 8) (af 5))) (cx (aL ao (ay (bf false) (af 8) (af 2))) (aL bh (af 10))))) (dS 7 (af 8)) aH)
  (bD (cx (aL ao (ay (cU true) (eK (.str "until")) (af 1))) (cx (aL ao (ay (bf false) (af 8) (af 5))) (aL bh (af 10)))) (dS 7 (af 8)) aH))))
theorem JD {w:Wd} (ok:w.Ok) {W:Wr} {a b f:Nat->Bool} {r:Nat} (hr:r<w.n) {c:List Nat} (hc:c.length<=24) {x6 x9 x10:Option PV} :
  ∃y9 y10,JE (GT w W a b f x6 (some ⟨.lst .leaf,aI c⟩) (L9 (rm r)) x9 x10)=.nx (GT w W a b f x6 (some ⟨.lst .leaf,aI (c++if lN w (eZ W) W.ofS a f r then [r] else [])⟩) (L9 (rm r)) y9 y10):=by
 have c1:aA .leaf 11 (aU (ai (ai (af 0) (eK (.int 2))) (af 8))) (aL ao (ay (bf false) (af 11) (af 5))) (af 11) (GT w W a b f x6 (some ⟨.lst .leaf,aI c⟩) (L9 (rm r)) x9 x10)=.ok ⟨.lst .leaf,aI ((w.stp r).filter f)⟩ (GT w W a b f x6 (some ⟨.lst .leaf,aI c⟩) (L9 (rm r)) x9 x10):=by
  have ef:(w.stp r).filter f=(w.stp r).filter fun t=>(dM w f).contains t:=List.filter_congr fun t ht=>(GY (ok.stp_lt ht)).symm
  rw [ef];exact tP rm (w.stp r) (fun t=>(dM w f).contains t) (fun t=>⟨.leaf,rm t⟩) (st:=true) (cA (s:=.leaf) (AJ ok rfl (aB rfl) hr) rfl) (by simp) rfl (by have:=stp_len ok hr;omega) (fun t ht=>cC (s:=.leaf) (aJ (aB rfl) (pv rfl) jx)) (fun t ht _=>⟨aB rfl,rfl⟩)
 have fl:=oI (l:=w.stp r) (p:=f)
 let G2:=GT w W a b f x6 (some ⟨.lst .leaf,aI c⟩) (L9 (rm r)) (L9 (aI ((w.stp r).filter f))) x10
 have l9:aS aG (ae (af 9) ag) G2=.ok ⟨.leaf,.int (((w.stp r).filter f).length:Nat)⟩ G2:=bS (g:=aG) (aD (aB rfl) aq) (by simp)
 have ls:aS aG (ae (ai (ai (af 0) (eK (.int 2))) (af 8)) ag) G2=.ok ⟨.leaf,.int ((w.stp r).length:Nat)⟩ G2:=bS (g:=aG) (aD (AJ ok rfl (aB rfl) hr) aq) (by simp)
 have c2:oN (aL bh (af 4)) (ay fI (aS aG (ae (af 9) ag)) (eK (.int 0))) (ay bC (aS aG (ae (af 9) ag)) (aS aG (ae (ai (ai (af 0) (eK (.int 2))) (af 8)) ag))) G2=.ok ⟨.leaf,.bool (bP W.ofS ((w.stp r).map f))⟩ G2:=by
  refine zw (t:=W.ofS) (eB (s:=.leaf) (aB rfl)) (fun h=>?_) fun h=>?_
  ·rw [h]
   have e:decide ((0:Int)<((((w.stp r).filter f).length:Nat):Int))=bP true ((w.stp r).map f):=by
    rw [Bool.eq_iff_iff,decide_eq_true_eq];have:=fl.2
    simp only [bP,if_true,any_map]
    rw [show (id∘f)=f from rfl,<-this];omega
   rw [<-e];exact aJ (g:=fI) l9 aQ rfl
  ·rw [h]
   have e:((((w.stp r).filter f).length:Int)==((w.stp r).length:Int))=bP false ((w.stp r).map f):=by
    rw [Bool.eq_iff_iff,beq_iff_eq];have:=fl.1
    simp only [bP,Bool.false_eq_true,if_false,all_map]
    rw [show (id∘f)=f from rfl,<-this];omega
   rw [<-e];exact aJ (g:=bC) l9 ls KC.eq_int
 have t1:∀d,cx (aL ao (ay (cU false) (eK (.str "until")) (af 1))) (d5 (aL ao (ay (bf false) (af 8) (af 5))) (cx (aL ao (ay (bf false) (af 8) (af 2))) (aL bh (af 10)))) (GT w W a b f x6 (some ⟨.lst .leaf,aI d⟩) (L9 (rm r)) (L9 (aI ((w.stp r).filter f))) (L9 (.bool (bP W.ofS ((w.stp r).map f)))))=.ok (eZ W&&(f r||(a r&&bP W.ofS ((w.stp r).map f)))) (GT w W a b f x6 (some ⟨.lst .leaf,aI d⟩) (L9 (rm r)) (L9 (aI ((w.stp r).filter f))) (L9 (.bool (bP W.ofS ((w.stp r).map f))))):=fun d=>by
  rw [<-GY (p:=f) hr,<-GY (p:=a) hr];exact j7 (cC (s:=.leaf) (aJ aQ (aB rfl) (zV W))) (jv (cC (s:=.leaf) (aJ (aB rfl) (pv rfl) jx)) (j7 (cC (s:=.leaf) (aJ (aB rfl) (aB rfl) jx)) (eB (s:=.leaf) (aB rfl))))
 have t2:∀d,cx (aL ao (ay (cU true) (eK (.str "until")) (af 1))) (cx (aL ao (ay (bf false) (af 8) (af 5))) (aL bh (af 10))) (GT w W a b f x6 (some ⟨.lst .leaf,aI d⟩) (L9 (rm r)) (L9 (aI ((w.stp r).filter f))) (L9 (.bool (bP W.ofS ((w.stp r).map f)))))=.ok (!eZ W&&(f r&&bP W.ofS ((w.stp r).map f))) (GT w W a b f x6 (some ⟨.lst .leaf,aI d⟩) (L9 (rm r)) (L9 (aI ((w.stp r).filter f))) (L9 (.bool (bP W.ofS ((w.stp r).map f))))):=fun d=>by
  rw [<-GY (p:=f) hr];exact j7 (cC (s:=.leaf) (aJ aQ (aB rfl) (CD W))) (j7 (cC (s:=.leaf) (aJ (aB rfl) (pv rfl) jx)) (eB (s:=.leaf) (aB rfl)))
 have ap:dS 7 (af 8) (GT w W a b f x6 (some ⟨.lst .leaf,aI c⟩) (L9 (rm r)) (L9 (aI ((w.stp r).filter f))) (L9 (.bool (bP W.ofS ((w.stp r).map f)))))=.nx (GT w W a b f x6 (some ⟨.lst .leaf,aI (c++[r])⟩) (L9 (rm r)) (L9 (aI ((w.stp r).filter f))) (L9 (.bool (bP W.ofS ((w.stp r).map f))))):=by
  have:=IB (i:=7) (fa:=af 8) (Γ:=GT w W a b f x6 (some ⟨.lst .leaf,aI c⟩) (L9 (rm r)) (L9 (aI ((w.stp r).filter f))) (L9 (.bool (bP W.ofS ((w.stp r).map f))))) (p:=⟨.leaf,rm r⟩) (ds:=c.map rm) rfl (aB rfl) rfl (by simp;omega)
  rw [this];simp [aI]
 refine ⟨some ⟨.leaf,aI ((w.stp r).filter f)⟩,L9 (.bool (bP W.ofS ((w.stp r).map f))),az (b6 c1 rfl (by simp)) (az (b6 c2 rfl (by simp [G2])) ?_)⟩
 cases h1:(eZ W&&(f r||(a r&&bP W.ofS ((w.stp r).map f)))) with
 | true=>
  have hu:eZ W=true:=by
   rw [Bool.and_eq_true] at h1;exact h1.1
  have e:lN w (eZ W) W.ofS a f r=true:=by unfold lN;rw [h1];rfl
  rw [e,if_pos rfl];have q:=t2 (c++[r])
  rw [show (!eZ W&&(f r&&bP W.ofS ((w.stp r).map f)))=false by rw [hu];rfl] at q
  have q1:=t1 c
  rw [h1] at q1;exact az (bu q1 (fun _=>ap) nofun) (bu q nofun fun _=>rfl)
 | false=>
  have q1:=t1 c
  rw [h1] at q1;refine az (bu q1 nofun fun _=>rfl) ?_
  have q2:=t2 c
  cases h2:(!eZ W&&(f r&&bP W.ofS ((w.stp r).map f))) with
  | true=>
   have e:lN w (eZ W) W.ofS a f r=true:=by unfold lN;rw [h1,h2];rfl
   rw [e,if_pos rfl];rw [h2] at q2;exact bu q2 (fun _=>ap) nofun
  | false=>
   have e:lN w (eZ W) W.ofS a f r=false:=by unfold lN;rw [h1,h2];rfl
   rw [e,if_neg (by simp),append_nil]
   rw [h2] at q2;exact bu q2 nofun fun _=>rfl
noncomputable abbrev ET:FS:=(ak (ax true 7 (aM .leaf ag))
  (ak (cZ 8 (dq (ae (aS aG (ae (ai (af 0) (eK (.int 0))) ag)) ag))
  JE)
  (ax true 5 (bR 7))))
theorem EN {w:Wd} (ok:w.Ok) {W:Wr} {a b f:Nat->Bool} {x6 x8 x9 x10:Option PV}:∃y8 y9 y10,ET (GT w W a b f x6 none x8 x9 x10)=.nx (GT w W a b (lN w (eZ W) W.ofS a f) x6 none y8 y9 y10):=by
 have h24:=ok.h24
 obtain ⟨Γ',e,l,hl,y8,y9,y10,rfl⟩:=Hk rm (i:=8) (body:=JE) (Inv:=fun rest Γ=>∃l,l++rest=List.range w.n/\∃x8 x9 x10,Γ=GT w W a b f x6 (some ⟨.lst .leaf,aI (l.filter (lN w (eZ W) W.ofS a f))⟩) x8 x9 x10) (fun r rest Γ ⟨l,hl,x8,x9,x10,e⟩=>by
  subst e;have hr:r<w.n:=List.mem_range.mp (by rw [<-hl];simp)
  have hcl:(l.filter (lN w (eZ W) W.ofS a f)).length<=24:=by
   refine Nat.le_trans (length_filter_le _ _) ?_
   have:=congrArg List.length hl
   simp at this
   omega
  obtain ⟨y9,y10,e⟩:=JD ok (W:=W) (a:=a) (b:=b) (f:=f) hr hcl (x6:=x6) (x9:=x9) (x10:=x10)
  refine ⟨by simp,_,e,l++[r],by rw [append_assoc];exact hl,L9 (rm r),y9,y10,?_⟩
  rw [List.filter_append]
  cases hq:lN w (eZ W) W.ofS a f r<;>simp [hq]) (List.range w.n) (GT w W a b f x6 (some ⟨.lst .leaf,aI []⟩) x8 x9 x10) ⟨[],rfl,_,_,_,rfl⟩
 rw [append_nil] at hl;subst hl;exact ⟨y8,y9,y10,az (tK (jy (s:=.leaf) aq rfl rfl rfl) rfl (by simp)) (az (gD (Ah ok rfl) e) (tK (Az rfl) rfl (by simp)))⟩
theorem IJ {w:Wd} (ok:w.Ok) {W:Wr} {a b:Nat->Bool}:eP [w.enc,.str W.t,aI (dM w a),aI (dM w b)]=.ok ⟨.lst .leaf,aI (dM w (nK w (eZ W) W.ofS a (if eZ W then b else a) w.n))⟩:=by
 have h24:=ok.h24
 obtain ⟨x,hx1,hx2⟩:=vP W;have s4:ax false 4 (ay bC (ay dO (af 1) (eK (.int 4))) (eK (.str "some"))) (aZ 12 [w.enc,.str W.t,aI (dM w a),aI (dM w b)])=.nx [L9 w.enc,L9 (.str W.t),L9 (aI (dM w a)),L9 (aI (dM w b)),L9 (.bool W.ofS),none,none,none,none,none,none,none]:=b6 (aJ (aJ (aB rfl) aQ hx1) aQ hx2) rfl (by simp [aZ])
 have s5:ax true 5 (oN (aL ao (ay (cU false) (eK (.str "until")) (af 1))) (hV (af 3)) (hV (af 2))) [L9 w.enc,L9 (.str W.t),L9 (aI (dM w a)),L9 (aI (dM w b)),L9 (.bool W.ofS),none,none,none,none,none,none,none]=.nx (GT w W a b (if eZ W then b else a) none none none none none):=by
  refine tK (p:=⟨.lst .leaf,aI (dM w (if eZ W then b else a))⟩) (zw (t:=eZ W) (cC (s:=.leaf) (aJ aQ (aB rfl) (zV W))) (fun h=>?_) fun h=>?_) rfl (by simp)
  ·rw [h,if_pos rfl]
   exact Ey (aB rfl) DO
  ·rw [h,if_neg (by simp)]
   exact Ey (aB rfl) DO
 generalize (if eZ W then b else a)=f0 at s5 ⊢
 obtain ⟨Γ',e,x6,x8,x9,x10,rfl,_⟩:=Hk rm (i:=6) (body:=ET) (Inv:=fun rest Γ=>∃x6 x8 x9 x10,Γ=GT w W a b (nK w (eZ W) W.ofS a f0 (w.n-rest.length)) x6 none x8 x9 x10/\rest.length<=w.n) (fun r rest Γ ⟨x6,x8,x9,x10,e,hl⟩=>by
  subst e;simp only [length_cons] at hl
  obtain ⟨t,ht⟩:∃t,w.n-rest.length=t+1:=⟨w.n-rest.length-1,by omega⟩
  have ht2:w.n-(r::rest).length=t:=by simp only [length_cons];omega
  rw [ht2];obtain ⟨y8,y9,y10,e⟩:=EN ok (W:=W) (a:=a) (b:=b) (f:=nK w (eZ W) W.ofS a f0 t) (x6:=some ⟨.leaf,rm r⟩) (x8:=x8) (x9:=x9) (x10:=x10)
  exact ⟨by simp,_,e,_,_,_,_,by rw [ht];rfl,by omega⟩) (List.range w.n) (GT w W a b f0 none none none none none) ⟨none,none,none,none,by simp [nK],by simp⟩
 simp only [length_nil,Nat.sub_zero] at e
 exact aR (az s4 (az s5 (az (gD (Ah ok rfl) e) (br (Az rfl) rfl))))
theorem nR {w:Wd} (ok:w.Ok) {W:Wr} (hu:eZ W=true) {x y:Sn}:dM w (nK w (eZ W) W.ofS (bw w x) (bw w y) w.n)=dM w fun r=>dm w W.ofS (bw w x) (bw w y) w.n r:=by
 rw [hu,pz]
theorem lO {w:Wd} (ok:w.Ok) {W:Wr} (hu:eZ W=false) {x:Sn}:dM w (nK w (eZ W) W.ofS (bw w x) (bw w x) w.n)=dM w fun r=>!dm w (!W.ofS) (fun _=>true) (bw w (.un .not x)) w.n r:=by
 have e:(fun r=>!bw w x r)=bw w (.un .not x):=funext fun r=>iS (by rw [Bool.not_eq_true',<-Bool.not_eq_true,satB_iff];rfl)
 rw [hu,zz,e]
theorem oS {w:Wd} (ok:w.Ok) {s:Sn} (hs:s.ok) (ht:s.tm=true) (hp:∀a∈s.args,iT a) (hd:s.dep<=9):∃sh:Sh,sh.isView=false/\bx [w.enc,s.enc]=.ok ⟨sh,aI (aK w s)⟩:=by
 have h24:=ok.h24
 have hst:ai (af 1) (eK (.int 0)) (aZ 8 [w.enc,s.enc])=.ok ⟨.leaf,.str s.w.t⟩ (aZ 8 [w.enc,s.enc]):=by
  cases s<;>simp [aZ,Sn.enc,Sn.w]
 have go:∀{p:PV} {rest:FS},rest (GH w s none none)=.rt p->(ak (ax false 2 (ai (af 1) (eK (.int 0)))) (ak (ax false 3 (w5 (ae (aS aG (ae (ai (af 0) (eK (.int 0))) ag)) ag))) rest)) (aZ 8 [w.enc,s.enc])=.rt p:=fun {p rest} hr=>
  az (b6 hst rfl (by simp [aZ])) (az (b6 (wK ok rfl) rfl (by simp [aZ])) hr)
 have tq:∀{u:Wr} {t:Str} {x4 x5:Option PV} {v:Bool},bC (.str s.w.t) (.str t)=some (.bool (decide (s.w=u)))->decide (s.w=u)=v->aL ao (ay bC (af 2) (eK (.str t))) (GH w s x4 x5)=.ok v (GH w s x4 x5):=fun {u t x4 x5 v} h1 h2=>cC (aJ (aB rfl) aQ (by rw [<-h2];exact h1))
 have no:∀{c:FB} {a:FS} {rest:FS} {Γ:Ev} {o:dG},c Γ=.ok false Γ->rest Γ=o->ak (bD c a aH) rest Γ=o:=fun h1 h2=>az (bu h1 nofun (fun _=>rfl)) h2
 cases s with
 | yes=>simp [Sn.tm,Sn.w,Wr.ofS,Wr.ofA] at ht
 | mk c=>simp [Sn.tm,Sn.w,Wr.ofS,Wr.ofA] at ht
 | un k a=>
  have pa:iT a:=hp a (by simp [Sn.args])
  cases k with
  | not=>simp [Sn.tm,Sn.w,U5.w,Wr.ofS,Wr.ofA] at ht
  | sn=>exact wU ok 10 _ hs (show iT a from pa) (by omega)
  | an=>exact wU ok 10 _ hs (show iT a from pa) (by omega)
  | sa=>
   refine ⟨.lst .leaf,rfl,?_⟩
   show aE 8 (cw (aO 9)) [w.enc,(Sn.un .sa a).enc]=_
   obtain ⟨sh,hsh,ea⟩:=wU ok 9 a hs pa (by simp only [Sn.dep] at hd;omega)
   have s4:ax false 4 (aj 2 (aO 9) (ae (af 0) (ae (ai (af 1) (eK (.int 1))) ag))) (GH w (.un .sa a) none none)=.nx (GH w (.un .sa a) (L9 (aI (aK w a))) none):=
    b6 (bV (ps:=[⟨.leaf,w.enc⟩,⟨.leaf,a.enc⟩]) (aD (aB rfl) (aD (fJ (j:=1) (ds:=[.str (U5.sa).w.t,a.enc]) (aB rfl) aQ rfl rfl rfl) aq)) ea rfl rfl) (qI hsh) (by simp)
   have s5:ax false 5 (aj 2 (aO 9) (ae (af 0) (ae (ai (af 1) (eU dZ (eK (.int 1)))) ag))) (GH w (.un .sa a) (L9 (aI (aK w a))) none)=.nx (GH w (.un .sa a) (L9 (aI (aK w a))) (L9 (aI (aK w a)))):=
    b6 (bV (ps:=[⟨.leaf,w.enc⟩,⟨.leaf,a.enc⟩]) (aD (aB rfl) (aD (fJ (j:=1) (ds:=[.str (U5.sa).w.t,a.enc]) (aB rfl) (EM aQ (d:=.int (-1)) rfl) rfl rfl rfl) aq)) ea rfl rfl) (qI hsh) (by simp)
   have dt:=IJ ok (W:=.sa) (a:=bw w a) (b:=bw w a)
   have e:dM w (nK w (eZ .sa) (Wr.ofS .sa) (bw w a) (bw w a) w.n)=aK w (.un .sa a):=(lO ok (W:=.sa) rfl).trans (xh fun r hr=>iS (by
    rw [Bool.not_eq_true',<-Bool.not_eq_true,IH ok hr];rw [show (!Wr.ofS .sa)=false from rfl];simp only [dJ]
    exact not_congr ⟨Unt.congr ok (fun _ _ _=>trivial) (fun t _ h=>(satB_iff (s:=.un .not a)).mp h) hr,Unt.congr ok (fun _ _ _=>trivial) (fun t _ h=>(satB_iff (s:=.un .not a)).mpr h) hr⟩))
   rw [show (if eZ .sa then bw w a else bw w a)=bw w a from rfl,e] at dt;exact aR (go (no (tq (Aq _) rfl) (no (tq (DR _) rfl) (az s4 (az s5 (no (tq (Ao _) rfl) (no (tq (An _) rfl) (no (tq (jV _) rfl) (no (tq (mY _) rfl) (no (tq (qo _) rfl) (br (bV (aD (aB rfl) (aD (aB rfl) (aD (aB rfl) (aD (aB rfl) aq)))) dt rfl rfl) rfl)))))))))))
  | aa=>
   refine ⟨.lst .leaf,rfl,?_⟩
   show aE 8 (cw (aO 9)) [w.enc,(Sn.un .aa a).enc]=_
   obtain ⟨sh,hsh,ea⟩:=wU ok 9 a hs pa (by simp only [Sn.dep] at hd;omega)
   have s4:ax false 4 (aj 2 (aO 9) (ae (af 0) (ae (ai (af 1) (eK (.int 1))) ag))) (GH w (.un .aa a) none none)=.nx (GH w (.un .aa a) (L9 (aI (aK w a))) none):=
    b6 (bV (ps:=[⟨.leaf,w.enc⟩,⟨.leaf,a.enc⟩]) (aD (aB rfl) (aD (fJ (j:=1) (ds:=[.str (U5.aa).w.t,a.enc]) (aB rfl) aQ rfl rfl rfl) aq)) ea rfl rfl) (qI hsh) (by simp)
   have s5:ax false 5 (aj 2 (aO 9) (ae (af 0) (ae (ai (af 1) (eU dZ (eK (.int 1)))) ag))) (GH w (.un .aa a) (L9 (aI (aK w a))) none)=.nx (GH w (.un .aa a) (L9 (aI (aK w a))) (L9 (aI (aK w a)))):=
    b6 (bV (ps:=[⟨.leaf,w.enc⟩,⟨.leaf,a.enc⟩]) (aD (aB rfl) (aD (fJ (j:=1) (ds:=[.str (U5.aa).w.t,a.enc]) (aB rfl) (EM aQ (d:=.int (-1)) rfl) rfl rfl rfl) aq)) ea rfl rfl) (qI hsh) (by simp)
   have dt:=IJ ok (W:=.aa) (a:=bw w a) (b:=bw w a)
   have e:dM w (nK w (eZ .aa) (Wr.ofS .aa) (bw w a) (bw w a) w.n)=aK w (.un .aa a):=(lO ok (W:=.aa) rfl).trans (xh fun r hr=>iS (by
    rw [Bool.not_eq_true',<-Bool.not_eq_true,IH ok hr];rw [show (!Wr.ofS .aa)=true from rfl];simp only [dJ]
    exact not_congr ⟨Unt.congr ok (fun _ _ _=>trivial) (fun t _ h=>(satB_iff (s:=.un .not a)).mp h) hr,Unt.congr ok (fun _ _ _=>trivial) (fun t _ h=>(satB_iff (s:=.un .not a)).mpr h) hr⟩))
   rw [show (if eZ .aa then bw w a else bw w a)=bw w a from rfl,e] at dt;exact aR (go (no (tq (Aq _) rfl) (no (tq (DR _) rfl) (az s4 (az s5 (no (tq (Ao _) rfl) (no (tq (An _) rfl) (no (tq (jV _) rfl) (no (tq (mY _) rfl) (no (tq (qo _) rfl) (br (bV (aD (aB rfl) (aD (aB rfl) (aD (aB rfl) (aD (aB rfl) aq)))) dt rfl rfl) rfl)))))))))))
 | bi k a b=>
  have pa:iT a:=hp a (by simp [Sn.args])
  have pb:iT b:=hp b (by simp [Sn.args])
  have hk:eZ k.w=true:=by
   cases k with
   | and=>simp [Sn.tm,Sn.w,B4.w,Wr.ofS,Wr.ofA] at ht
   | or=>simp [Sn.tm,Sn.w,B4.w,Wr.ofS,Wr.ofA] at ht
   | su=>rfl
   | au=>rfl
  refine ⟨.lst .leaf,rfl,?_⟩
  show aE 8 (cw (aO 9)) [w.enc,(Sn.bi k a b).enc]=_
  obtain ⟨sh,hsh,ea⟩:=wU ok 9 a hs.1 pa (by simp only [Sn.dep] at hd;omega)
  obtain ⟨sb,hsb,eb⟩:=wU ok 9 b hs.2 pb (by simp only [Sn.dep] at hd;omega)
  have s4:ax false 4 (aj 2 (aO 9) (ae (af 0) (ae (ai (af 1) (eK (.int 1))) ag))) (GH w (.bi k a b) none none)=.nx (GH w (.bi k a b) (L9 (aI (aK w a))) none):=
   b6 (bV (ps:=[⟨.leaf,w.enc⟩,⟨.leaf,a.enc⟩]) (aD (aB rfl) (aD (fJ (j:=1) (ds:=[.str k.w.t,a.enc,b.enc]) (aB rfl) aQ rfl rfl rfl) aq)) ea rfl rfl) (qI hsh) (by simp)
  have s5:ax false 5 (aj 2 (aO 9) (ae (af 0) (ae (ai (af 1) (eU dZ (eK (.int 1)))) ag))) (GH w (.bi k a b) (L9 (aI (aK w a))) none)=.nx (GH w (.bi k a b) (L9 (aI (aK w a))) (L9 (aI (aK w b)))):=
   b6 (bV (ps:=[⟨.leaf,w.enc⟩,⟨.leaf,b.enc⟩]) (aD (aB rfl) (aD (fJ (j:=2) (ds:=[.str k.w.t,a.enc,b.enc]) (aB rfl) (EM aQ (d:=.int (-1)) rfl) rfl rfl rfl) aq)) eb rfl rfl) (qI hsb) (by simp)
  have dt:=IJ ok (W:=k.w) (a:=bw w a) (b:=bw w b)
  rw [if_pos hk] at dt;have e:dM w (nK w (eZ k.w) (Wr.ofS k.w) (bw w a) (bw w b) w.n)=aK w (.bi k a b):=(nR ok hk).trans (xh fun r hr=>iS (by
   rw [IH ok hr,um]
   cases k with
   | and=>cases hk
   | or=>cases hk
   | su=>rfl
   | au=>rfl))
  rw [e] at dt;refine aR (go (no (tq (Aq _) (by cases k<;>rfl)) (no (tq (DR _) (by cases k<;>rfl)) (az s4 (az s5 (no (tq (Ao _) (by cases k<;>rfl)) (no (tq (An _) (by cases k<;>first | rfl | cases hk)) (no (tq (jV _) (by cases k<;>first | rfl | cases hk)) (no (tq (mY _) (by cases k<;>rfl)) (no (tq (qo _) (by cases k<;>rfl)) (br (bV (aD (aB rfl) (aD (aB rfl) (aD (aB rfl) (aD (aB rfl) aq)))) dt rfl rfl) rfl)))))))))))
noncomputable def LE (f g:FS):Prop:=∀Γ,f Γ=g Γ\/f Γ=.no
theorem rX {a r r':FS} (h:LE r r'):LE (ak a r) (ak a r'):=fun Γ=>by
 unfold ak
 cases a Γ with
 | nx Γ1=>exact h Γ1
 | _=>exact .inl rfl
theorem Kg {a a' r:FS} (h:LE a a'):LE (ak a r) (ak a' r):=fun Γ=>by
 unfold ak;rcases h Γ with e | e
 ·rw [e];exact .inl rfl
 ·rw [e];exact .inr rfl
theorem le_if {c:FB} {a b:FS}:LE (bD c zI b) (bD c a b):=fun Γ=>by
 unfold bD
 cases c Γ with
 | ok t Γ1=>
  cases t with
  | true=>exact .inr rfl
  | false=>exact .inl rfl
 | er c Γ1=>exact .inl rfl
 | no=>exact .inl rfl
theorem CK {n:Nat} {f g:FS} {ds:List D} {p:PV} (h:LE f g) (e:aE n f ds=.ok p):aE n g ds=.ok p:=by
 unfold aE at *
 rcases h (aZ n ds) with z | z
 ·rw [<-z];exact e
 ·rw [z] at e;cases e
theorem we {w:Wd} (ok:w.Ok) {s:Sn} (hs:s.ok) (h1:s.size<=200) (hd:s.dep<=24) (ht:s.tm=true) {r:Nat} (hr:r<w.n) (hh:(aK w s).contains r=s.w.ofS):∃F R,cX [w.enc,s.enc,rm r]=.ok ⟨.tup [.lst .leaf,.lst .leaf],wy F R⟩/\j9 w F R/\(F++R).head?=some r/\wC w s F R=s.w.ofS/\(F++R).Nodup:=by
 obtain ⟨F,R,e,h⟩:=m4 ok hs h1 hd ht hr hh;exact ⟨F,R,CK (rX (rX (rX (rX (rX (rX (Kg le_if))))))) e,h⟩
theorem sx {w:Wd} (ok:w.Ok) {s:Sn} (hs:s.ok) (h1:s.size<=200) (hd:s.dep<=24) (ht:s.tm=true) {r:Nat} (hr:r<w.n) (hh:((aK w s).contains r != s.w.ofS)=true):cX [w.enc,s.enc,rm r]=.er "NoWay":=by
 have h24:=ok.h24
 obtain ⟨p,ep,cp,hk⟩:=Ja ok (s:=s)
 obtain ⟨sp,D⟩:=p;simp only at hk
 have rb:=Jp ok hs hk
 have tst:aL ao (ay eC (ay (bf false) (af 2) (aj 4 bU (ae (af 0) (ae (af 1) (ae (af 4) (ae (af 5) ag)))))) (ay (bf false) (af 3) (eK bO))) [L9 w.enc,L9 s.enc,L9 (rm r),L9 (.str s.w.t),L9 (cJ (s.args.map (aK w))),L9 D,none,none,none]=.ok true [L9 w.enc,L9 s.enc,L9 (rm r),L9 (.str s.w.t),L9 (cJ (s.args.map (aK w))),L9 D,none,none,none]:=by
  have:=cC (s:=.leaf) (aJ (g:=eC) (aJ (g:=bf false) (fa:=af 2) (Γ:=[L9 w.enc,L9 s.enc,L9 (rm r),L9 (.str s.w.t),L9 (cJ (s.args.map (aK w))),L9 D,none,none,none]) (aB (d:=rm r) rfl) (bV (n:=4) (fl:=ae (af 0) (ae (af 1) (ae (af 4) (ae (af 5) ag)))) (aD (aB rfl) (aD (aB rfl) (aD (aB rfl) (aD (aB rfl) aq)))) rb rfl rfl) jx) (aJ (fa:=af 3) (aB rfl) aQ (vG s.w)) ne_bool)
  rw [hh] at this;exact this
 refine Gc (Γ':=[L9 w.enc,L9 s.enc,L9 (rm r),L9 (.str s.w.t),L9 (cJ (s.args.map (aK w))),L9 D,none,none,none]) ?_
 refine az (AE (bV (aD (aB rfl) aq) ok.check rfl rfl)) ?_
 refine az (AE (bV (aD (aB rfl) aq) (eV hs h1 hd ht) rfl rfl)) ?_
 refine az (AE (bV (aD (aB rfl) (aD (aB rfl) aq)) (KC.den_check_room ok hr) rfl rfl)) ?_
 refine az (b6 (lK (s:=s) rfl) rfl (by simp [aZ])) ?_
 refine az (b6 (ir ok hs hd rfl rfl (by simp [aZ]) (by omega)) rfl (by simp [aZ])) ?_
 refine az (b6 (bV (aD (aB rfl) (aD (aB rfl) (aD (aB rfl) aq))) ep rfl rfl) cp (by simp [aZ])) ?_
 exact AX (bu tst (fun _=>rfl) nofun)
section
variable {w:Wd} {s:Sn} {r:Nat}
theorem FM:ax true 3 (eK .none) (aZ 5 [w.enc,s.enc,rm r])=.nx [L9 w.enc,L9 s.enc,L9 (rm r),L9 (.none),none]:=tK aQ rfl (by simp [aZ])
theorem CH {F R:List Nat} (e:cX [w.enc,s.enc,rm r]=.ok ⟨.tup [.lst .leaf,.lst .leaf],wy F R⟩):m__law_met [w.enc,s.enc,rm r]=.ok ⟨.tup [.lst .leaf,.lst .leaf],wy F R⟩:=
 aR (az FM (az (AS (tK (xp (aD (aB rfl) (aD (aB rfl) (aD (aB rfl) aq))) e rfl rfl) rfl (by simp))) (br (Az rfl) rfl)))
theorem CI (e:cX [w.enc,s.enc,rm r]=.er "NoWay"):m__law_met [w.enc,s.enc,rm r]=.ok ⟨.leaf,.str "way"⟩:=
 aR (az FM (az (AU (AW (uk (aD (aB rfl) (aD (aB rfl) (aD (aB rfl) aq))) e rfl)) rfl rfl (b6 (v_res AZ) rfl (by simp)) rfl) (br (Az rfl) rfl)))
end
theorem Ae {F R:List Nat}:PyData.canLay0 (wy F R)=true/\PyData.depth (wy F R)<=2:=by
 have a:=yU (AG (ts:=F.map fun x:Nat=>(x:Int)))
 have b:=yU (AG (ts:=R.map fun x:Nat=>(x:Int)))
 rw [map_map] at a b
 have e:wy F R=.tuple [.list (F.map (PyData.int∘fun x:Nat=>(x:Int))),.list (R.map (PyData.int∘fun x:Nat=>(x:Int)))]:=rfl
 rw [e];simp only [PyData.canLay0,PyData.canLayAll0,PyData.depth,PyData.depthAll,a.1,b.1,a.2,b.2,Bool.and_self,true_and]
 omega
theorem Iy:∀(l:List Nat),(∀x∈l,x<24)->PyData.showableAll (l.map rm)=true/\rzL (l.map rm)=1923*l.length
 | [],_=>⟨by simp [PyData.showableAll],by simp [rzL]⟩
 | a::r,h=>by
  obtain ⟨i1,i2⟩:=Iy r fun x hx=>h x (LX _ hx)
  have ha:=h a (by simp)
  refine ⟨?_,?_⟩
  ·have:Nat.log2 a<1920:=by
    have:=Nat.log2_le_self a
    omega
   simp only [map_cons,PyData.showableAll,i1,Bool.and_true,rm,PyData.showable,decide_eq_true_eq,Int.natAbs_natCast]
   exact this
  ·show (1921+2)+rzL (r.map rm)=1923*(r.length+1)
   rw [i2];omega
theorem Bt {F R:List Nat} (h:∀x∈F++R,x<24) (hl:F.length+R.length<=100):eA [wy F R]=some (.str (wy F R).shown)/\rz (wy F R)<17000000:=by
 obtain ⟨a1,a2⟩:=Iy F fun x hx=>h x (LQ _ hx)
 obtain ⟨b1,b2⟩:=Iy R fun x hx=>h x (LP _ hx)
 have c1:=(Ae (F:=F) (R:=R)).1
 have c2:PyData.showable (wy F R)=true:=by
  show PyData.showable (.tuple [.list (F.map rm),.list (R.map rm)])=true
  simp only [PyData.showable,PyData.showableAll,a1,b1,Bool.and_self]
 have c3:PyData.depth (wy F R)<=50:=Nat.le_trans (Ae (F:=F) (R:=R)).2 (by omega)
 have c4:rz (wy F R)<=16000000:=by
  show 3+(((2+rzL (F.map rm))+2)+(((2+rzL (R.map rm))+2)+0))<=_
  omega
 refine ⟨?_,by omega⟩
 show (if CU (wy F R)&&(wy F R).canLay0&&(wy F R).showable&&decide ((wy F R).depth<=50)&&decide (rz (wy F R)<=16000000) then some (PyData.str (wy F R).shown) else none)=_
 rw [c1,c2,decide_eq_true c3,decide_eq_true c4];rfl
theorem sh_str {t:Str} (h:PyData.strOk t=true):shaped (.str t)=true:=by
 unfold shaped;simp [PyData.canLay0,PyData.depth,h]
theorem JG {w:Wd} (ok:w.Ok):shaped w.enc=true:=by
 have h:=yT ok
 unfold shaped;rw [h.1];simp only [Bool.true_and,decide_eq_true_eq]
 have:=h.2
 omega
noncomputable abbrev sV (xs:List D) (w:Wd) (s:Sn) (x6 x7 x8 x9 x10 x12:Option PV):Ev:=[L9 (.list xs),L9 w.enc,L9 (rm w.n),L9 s.enc,L9 (aI (aK w s)),L9 w.enc,x6,x7,x8,x9,x10,none,x12]
noncomputable abbrev Bi:FS:=(ak (ax true 10 (aj 3 m__law_met (ae (af 5) (ae (af 3) (ae (af 6) ag)))))
  (ak (bD (aL ao (ay eC (af 5) (af 1))) (aF (eK (.bool false))) aH)
  (bD (aL ao (ay eC (ay (bf false) (af 6) (af 4)) (ay bC (ay dO (ai (af 3) (eK (.int 0))) (eK (.int 4))) (eK (.str "some"))))) (bD (aL ao (ay eC (af 10) (eK (.str "way")))) (aF (eK (.bool false))) aH) (bD (d5 (bY (aL bh (aj 2 bN (ae (af 1) (ae (af 10) ag))))) (aL ao (ay fI (aS se (ae (aS aG (ae (ai (af 10) (eK (.int 0))) ag)) (ae (aS aG (ae (ai (af 10) (eK (.int 1))) ag)) ag))) (ay gr (eK (.int 2)) (af 2))))) (aF (eK (.bool false))) (bD (d5 (aL ao (ay eC (aj 2 m__law_place (ae (af 10) (ae (eK (.int 0)) ag))) (af 6))) (bY (aL bh (aj 3 bX (ae (af 1) (ae (af 3) (ae (af 10) ag))))))) (aF (eK (.bool false))) (ak (ax false 12 (aS eA (ae (af 10) ag)))
  (ak (dN 10 0 (eK (.int 0)))
  (ak (dN 10 1 (eK (.int 0)))
  (bD (aL ao (ay eC (aS eA (ae (aj 3 m__law_met (ae (af 5) (ae (af 3) (ae (af 6) ag)))) ag)) (af 12))) (aF (eK (.bool false))) aH)))))))))
theorem Bb {xs:List D} {w:Wd} (ok:w.Ok) {s:Sn} (hs:s.ok) (hz:s.size<=200) (hd:s.dep<=9) (ht:s.tm=true) (hp:∀a∈s.args,iT a) {r:Nat} (hr:r<w.n) {x7 x8 x9 x10 x12:Option PV}:∃y10 y12,Bi (sV xs w s (L9 (rm r)) x7 x8 x9 x10 x12)=.nx (sV xs w s (L9 (rm r)) x7 x8 x9 y10 y12):=by
 have h24:=ok.h24
 have tH:∀y10 y12,aL ao (ay eC (af 5) (af 1)) (sV xs w s (L9 (rm r)) x7 x8 x9 y10 y12)=.ok false (sV xs w s (L9 (rm r)) x7 x8 x9 y10 y12):=fun y10 y12=>cC (s:=.leaf) (aJ (aB rfl) (aB rfl) (Ho (JG ok)))
 obtain ⟨hx,hx1,hx2⟩:=vP s.w;have tS:∀y10 y12,aL ao (ay eC (ay (bf false) (af 6) (af 4)) (ay bC (ay dO (ai (af 3) (eK (.int 0))) (eK (.int 4))) (eK (.str "some")))) (sV xs w s (L9 (rm r)) x7 x8 x9 y10 y12)=.ok ((aK w s).contains r != s.w.ofS) (sV xs w s (L9 (rm r)) x7 x8 x9 y10 y12):=fun y10 y12=>
  cC (s:=.leaf) (aJ (aJ (aB (d:=rm r) rfl) (aB rfl) jx) (aJ (aJ (lK (s:=s) rfl) aQ hx1) aQ hx2) ne_bool)
 cases hh:((aK w s).contains r != s.w.ofS) with
 | true=>
  have em:=CI (sx ok hs hz (by omega) ht hr hh)
  refine ⟨some ⟨.leaf,.str "way"⟩,x12,?_⟩
  have q:=tS (L9 (.str "way")) x12
  rw [hh] at q;refine az (Γ1:=sV xs w s (L9 (rm r)) x7 x8 x9 (L9 (.str "way")) x12) (tK (bV (aD (aB rfl) (aD (aB rfl) (aD (aB rfl) aq))) em rfl rfl) rfl (by simp)) ?_
  refine az (bu (tH _ _) nofun fun _=>rfl) ?_
  exact bu q (fun _=>bu (t:=false) (cC (s:=.leaf) (aJ (aB rfl) aQ (Ho (by decide +kernel)))) nofun fun _=>rfl) nofun
 | false=>
  have h':(aK w s).contains r=s.w.ofS:=by simpa using hh
  obtain ⟨F,R,ex,iw,hhd,ha,nd⟩:=we ok hs hz (by omega) ht hr h'
  have em:=CH ex
  have ln:=Au nd iw.lt
  rw [length_append] at ln;have lt24:∀x∈F++R,x<24:=fun x hx=>by have:=iw.lt x hx;omega
  obtain ⟨rep,rz'⟩:=Bt lt24 (by omega)
  have okt:=jN (wy F R) rz'
  generalize (wy F R).shown=tx at rep okt
  have el:=oR ok hs hp hd ht iw (by omega)
  rw [ha,beq_self_eq_true] at el;have ew:=wm ok iw (by omega)
  have ep:=iL (F:=F) iw.ne (k:=0)
  have er:HM F R 0=r:=by
   unfold HM
   cases F with
   | nil=>
    cases R with
    | nil=>exact absurd rfl iw.ne
    | cons b R'=>
     simp at hhd
     simp [hhd]
   | cons b F'=>
    simp at hhd
    simp [hhd]
  rw [er] at ep;have l1:(F.map rm).length<=900:=by simp;omega
  have l2:(R.map rm).length<=1000:=by simp;omega
  have q:=tS (some ⟨.tup [.lst .leaf,.lst .leaf],wy F R⟩) x12
  rw [hh] at q;let G1:=sV xs w s (L9 (rm r)) x7 x8 x9 (some ⟨.tup [.lst .leaf,.lst .leaf],wy F R⟩) x12
  have v0:aS aG (ae (ai (af 10) (eK (.int 0))) ag) G1=.ok ⟨.leaf,.int (F.length:Nat)⟩ G1:=bS (g:=aG) (aD (fJ (j:=0) (DP rfl) aQ rfl rfl rfl) aq) (by simp)
  have v1:aS aG (ae (ai (af 10) (eK (.int 1))) ag) G1=.ok ⟨.leaf,.int (R.length:Nat)⟩ G1:=bS (g:=aG) (aD (fJ (j:=1) (DP rfl) aQ rfl rfl rfl) aq) (by simp)
  have gm:fI (.int (if ((R.length:Nat):Int)>((F.length:Nat):Int) then ((R.length:Nat):Int) else ((F.length:Nat):Int))) (.int (2*(w.n:Int)))=some (.bool false):=by
   rw [Fi,decide_eq_false];split<;>omega
  have tA:d5 (bY (aL bh (aj 2 bN (ae (af 1) (ae (af 10) ag))))) (aL ao (ay fI (aS se (ae (aS aG (ae (ai (af 10) (eK (.int 0))) ag)) (ae (aS aG (ae (ai (af 10) (eK (.int 1))) ag)) ag))) (ay gr (eK (.int 2)) (af 2)))) G1=.ok false G1:=
   jv (a:=false) (b:=false) (fY (b:=true) (eB (s:=.leaf) (IV (aD (aB rfl) (aD (DP rfl) aq)) ew rfl rfl))) (cC (s:=.leaf) (aJ (bS (g:=se) (aD v0 (aD v1 aq)) rfl) (aJ (g:=gr) (d:=.int (2*(w.n:Int))) aQ (aB rfl) rfl) gm))
  have tB:d5 (aL ao (ay eC (aj 2 m__law_place (ae (af 10) (ae (eK (.int 0)) ag))) (af 6))) (bY (aL bh (aj 3 bX (ae (af 1) (ae (af 3) (ae (af 10) ag)))))) G1=.ok false G1:=
   jv (a:=false) (b:=false) (cC (s:=.leaf) (aJ (IV (aD (DP rfl) (aD aQ aq)) ep rfl rfl) (aB rfl) (Ho (by show shaped (.int (r:Int))=true;rfl)))) (fY (b:=true) (eB (s:=.leaf) (IV (aD (aB rfl) (aD (aB rfl) (aD (DP rfl) aq))) el rfl rfl)))
  let G2:=sV xs w s (L9 (rm r)) x7 x8 x9 (some ⟨.tup [.lst .leaf,.lst .leaf],wy F R⟩) (L9 (.str tx))
  have s12:ax false 12 (aS eA (ae (af 10) ag)) G1=.nx G2:=b6 (bS (g:=eA) (aD (DP rfl) aq) rep) rfl (by simp [G1])
  have s3:=tW (Γ:=G2) (i:=10) (k:=0) (a:=F.map rm) (b:=R.map rm) (c:=0) rfl (Nat.le_trans l1 (by omega)) l2 (.inl rfl)
  have s4:=tW (Γ:=sV xs w s (L9 (rm r)) x7 x8 x9 (some ⟨.tup [.lst .leaf,.lst .leaf],.tuple [.list (F.map rm++[.int 0]),.list (R.map rm)]⟩) (L9 (.str tx))) (i:=10) (k:=1) (a:=F.map rm++[.int 0]) (b:=R.map rm) (c:=0) rfl (by rw [length_append];exact Nat.le_trans (Nat.add_le_add_right l1 1) (by omega)) l2 (.inr rfl)
  let y10:Option PV:=some ⟨.tup [.lst .leaf,.lst .leaf],.tuple [.list (F.map rm++[.int 0]),.list (R.map rm++[.int 0])]⟩
  refine ⟨y10,L9 (.str tx),?_⟩
  refine az (Γ1:=G1) (tK (bV (aD (aB rfl) (aD (aB rfl) (aD (aB rfl) aq))) em rfl rfl) rfl (by simp)) ?_
  refine az (bu (tH _ _) nofun fun _=>rfl) ?_
  refine bu q nofun fun _=>?_
  refine bu tA nofun fun _=>?_
  refine bu tB nofun fun _=>?_
  refine az s12 (az s3 (az s4 ?_))
  exact bu (t:=false) (cC (s:=.leaf) (aJ (bS (g:=eA) (aD (bV (aD (aB rfl) (aD (aB rfl) (aD (aB rfl) aq))) em rfl rfl) aq) rep) (aB rfl) (Ho (sh_str okt)))) nofun fun _=>rfl
theorem vp (c:Bool):yj (.list [.str (if c then "b" else "a")])=true:=by cases c<;>decide +kernel
theorem wg {Γ:Ev} {k:Nat} (hk:k<24) (h7:Γ[7]?=some (L9 (rm k))) (h11:Γ[11]?=some none):∃os ms ss,bB (ae (fW (aM .leaf (ae (eK (.int 0)) ag)) (eK (.int 24))) (ae (cO (cO (fW (aM .leaf (ae (aM .leaf (ae (eK (.str "a")) ag)) ag)) (af 7)) (aM .leaf (ae (aM .leaf (ae (eK (.str "b")) ag)) ag))) (fW (aM .leaf (ae (aM .leaf (ae (eK (.str "a")) ag)) ag)) (ay gSub (eK (.int 23)) (af 7)))) (ae (aA .leaf 11 (dq (ae (eK (.int 24)) ag)) aN (aM .leaf (ae (ay dh (ay aW (af 11) (eK (.int 1))) (eK (.int 24))) ag))) ag))) Γ=.ok ⟨.tup [.lst .leaf,.lst .leaf,.lst .leaf],fK os ms ss⟩ Γ/\Gw (24:Nat) 24 os ms ss:=by
 have hl:11<Γ.length:=(L0 h11).1
 have r0:fW (aM .leaf (ae (eK (.int 0)) ag)) (eK (.int 24)) Γ=.ok ⟨.lst .leaf,.list (List.replicate 24 [PyData.int 0]).flatten⟩ Γ:=ui (jy (s:=.leaf) (aD aQ aq) rfl rfl rfl) aQ (by omega) (by omega) (by simp)
 have ra:fW (aM .leaf (ae (aM .leaf (ae (eK (.str "a")) ag)) ag)) (af 7) Γ=.ok ⟨.lst .leaf,.list (List.replicate ((k:Int)).toNat [PyData.list [.str "a"]]).flatten⟩ Γ:=ui (jy (s:=.leaf) (aD (jy (s:=.leaf) (aD aQ aq) rfl rfl rfl) aq) rfl rfl rfl) (aB h7) (by omega) (by omega) (by simp;omega)
 have rb:fW (aM .leaf (ae (aM .leaf (ae (eK (.str "a")) ag)) ag)) (ay gSub (eK (.int 23)) (af 7)) Γ=.ok ⟨.lst .leaf,.list (List.replicate (23-(k:Int)).toNat [PyData.list [.str "a"]]).flatten⟩ Γ:=ui (jy (s:=.leaf) (aD (jy (s:=.leaf) (aD aQ aq) rfl rfl rfl) aq) rfl rfl rfl) (aJ aQ (aB h7) KC.sub_int') (by omega) (by omega) (by simp;omega)
 have la:∀(m:Nat) (d:D),(List.replicate m [d]).flatten=List.replicate m d:=fun m d=>by
  induction m with
  | zero=>rfl
  | succ m ih=>rw [replicate_succ,flatten_cons,ih];rfl
 rw [la] at r0 ra rb
 have e1:=ic ra (jy (s:=.leaf) (aD (jy (s:=.leaf) (aD (aQ (d:=.str "b")) aq) rfl rfl rfl) aq) rfl rfl rfl) rfl rfl (by simp;omega)
 have e2:=ic e1 rb rfl rfl (by simp;omega)
 have c1:aA .leaf 11 (dq (ae (eK (.int 24)) ag)) aN (aM .leaf (ae (ay dh (ay aW (af 11) (eK (.int 1))) (eK (.int 24))) ag)) Γ=.ok ⟨.lst .leaf,.list ((List.range 24).map fun r:Nat=>PyData.list [.int (((r:Int)+1) % 24)])⟩ Γ:=
  lz rm (List.range 24) (fun r=>⟨.lst .leaf,PyData.list [.int (((r:Int)+1) % 24)]⟩) (st:=true) (nE (n:=24) (s:=.leaf) (by omega) (aD aQ aq)) hl rfl (by simp) fun r hr=>⟨jy (s:=.leaf) (aD (aJ (aJ (aB (d:=rm r) (by simp [hl])) aQ KC.add_int') aQ (fS (by omega))) aq) rfl rfl rfl,rfl⟩
 refine ⟨_,_,_,cI (aD r0 (aD e2 (aD c1 aq))) rfl rfl,?_⟩
 have sA:∃xs,PyData.list [.str "a"]=.list xs/\gz xs/\xs.length<=30/\yj (PyData.list [.str "a"])=true:=⟨_,rfl,fun a ha=>⟨"a",by simpa using ha,by decide +kernel⟩,by simp,vp false⟩
 have sB:∃xs,PyData.list [.str "b"]=.list xs/\gz xs/\xs.length<=30/\yj (PyData.list [.str "b"])=true:=⟨_,rfl,fun a ha=>⟨"b",by simpa using ha,by decide +kernel⟩,by simp,vp true⟩
 refine ⟨by simp,by simp;omega,by simp,fun a ha=>.inl (List.mem_replicate.mp ha).2,fun r hr=>?_,fun r hr=>?_⟩
 ·rcases LR hr with z | z
  ·rcases LR z with z | z
   ·rw [(List.mem_replicate.mp z).2];exact sA
   ·rw [List.mem_singleton.mp z];exact sB
  ·rw [(List.mem_replicate.mp z).2];exact sA
 ·obtain ⟨x,hx,rfl⟩:=List.mem_map.mp hr
  have hx:=List.mem_range.mp hx
  exact ⟨[((x:Int)+1) % 24],rfl,by simp,by simp,fun t ht=>by
   rw [List.mem_singleton.mp ht];omega,by simp⟩
theorem yK {xs:List D} (hx:g9 xs):m_law [.list xs]=.ok ⟨.leaf,.bool true⟩:=by
 obtain ⟨n0,os0,ms0,ss0,e0,g0,h10,h60⟩:=sy hx (at':=0) (lim:=6) (by omega) (by omega) (by omega)
 obtain ⟨c10,hc10⟩:=DW hx (k:=10) (by omega)
 obtain ⟨c7,hc7⟩:=DW hx (k:=7) (by omega)
 obtain ⟨c8,hc8⟩:=DW hx (k:=8) (by omega)
 obtain ⟨c9,hc9⟩:=DW hx (k:=9) (by omega)
 obtain ⟨l,el,zl,dl,ol,pl⟩:=m6 (c:=c7)
 obtain ⟨r,er,zr,dr,or',pr⟩:=m6 (c:=c8)
 obtain ⟨s,sh,es,T,hv,hcs⟩:=sE (c:=c9) (a:=l) (b:=r)
 have so:=T.ok ol or'
 have sz:s.size<=200:=by have:=T.sz;omega
 have sd:s.dep<=9:=by have:=T.dp;omega
 have sp:∀a∈s.args,iT a:=fun a ha=>by
  rcases T.ar a ha with e | e
  ·rw [e];exact pl
  ·rw [e];exact pr
 have d0:=AA (c:=c10) (k:=0) (b:=8) (by omega) (by omega) (by omega) (by omega)
 obtain ⟨j,hj,ej⟩:=Dq (c:=c10) (k:=1) (b:=24) (by omega) (by omega) (by omega) (by omega)
 have tail:∀(w:Wd) (ok:w.Ok) (x7:Option PV),(ak (ax false 2 (aS aG (ae (ai (af 1) (eK (.int 0))) ag)))
  (ak (gH 8 9 (ae (aj 1 bG (ae (aj 2 aC (ae (af 0) (ae (eK (.int 7)) ag))) ag)) (ae (aj 1 bG (ae (aj 2 aC (ae (af 0) (ae (eK (.int 8)) ag))) ag)) ag)))
  (ak (ax false 3 (aj 3 bJ (ae (aj 2 aC (ae (af 0) (ae (eK (.int 9)) ag))) (ae (af 8) (ae (af 9) ag)))))
  (ak (ax false 4 (aj 2 bx (ae (af 1) (ae (af 3) ag))))
  (ak (ax false 5 (aj 1 m__law_twin (ae (af 1) ag)))
  (ak (cZ 6 (dq (ae (af 2) ag)) Bi)
  (aF (eK (.bool true))))))))) [L9 (.list xs),L9 w.enc,none,none,none,none,none,x7,none,none,none,none,none]=.rt ⟨.leaf,.bool true⟩:=fun w ok x7=>by
  have h24:=ok.h24
  obtain ⟨sh2,hv2,eh⟩:=oS ok so T.tm sp sd;obtain ⟨Γ',ef,_,y6,y10,y12,rfl⟩:=Hk rm (i:=6) (body:=Bi) (Inv:=fun l' Γ=>(∀y∈l',y<w.n)/\∃x6 x10 x12,Γ=sV xs w s x6 x7 (L9 l.enc) (L9 r.enc) x10 x12) (fun y rest Γ ⟨hr,x6,x10,x12,e⟩=>by
   subst e;obtain ⟨y10,y12,e⟩:=Bb (xs:=xs) ok so sz sd T.tm sp (hr y (by simp)) (x7:=x7) (x8:=some ⟨.leaf,l.enc⟩) (x9:=some ⟨.leaf,r.enc⟩) (x10:=x10) (x12:=x12)
   exact ⟨by simp,_,e,fun z hz=>hr z (by simp [hz]),_,_,_,rfl⟩) (List.range w.n) (sV xs w s none x7 (L9 l.enc) (L9 r.enc) none none) ⟨fun y hy=>List.mem_range.mp hy,_,_,_,rfl⟩
  refine az (Γ1:=[L9 (.list xs),L9 w.enc,L9 (rm w.n),none,none,none,none,x7,none,none,none,none,none]) (b6 (G8 ok rfl) rfl (by simp)) ?_
  refine az (Γ1:=[L9 (.list xs),L9 w.enc,L9 (rm w.n),none,none,none,none,x7,L9 l.enc,L9 r.enc,none,none,none]) (AY (aD (bV (aD (bV (aD (aB rfl) (aD aQ aq)) hc7 rfl rfl) aq) el rfl rfl) (aD (bV (aD (bV (aD (aB rfl) (aD aQ aq)) hc8 rfl rfl) aq) er rfl rfl) aq)) rfl) ?_
  refine az (Γ1:=[L9 (.list xs),L9 w.enc,L9 (rm w.n),L9 s.enc,none,none,none,x7,L9 l.enc,L9 r.enc,none,none,none]) (b6 (bV (aD (bV (aD (aB rfl) (aD aQ aq)) hc9 rfl rfl) (aD (aB rfl) (aD (aB rfl) aq))) es rfl rfl) hcs (by simp)) ?_
  refine az (Γ1:=[L9 (.list xs),L9 w.enc,L9 (rm w.n),L9 s.enc,L9 (aI (aK w s)),none,none,x7,L9 l.enc,L9 r.enc,none,none,none]) (b6 (bV (aD (aB rfl) (aD (aB rfl) aq)) eh rfl rfl) (qI hv2) (by simp)) ?_
  refine az (Γ1:=sV xs w s none x7 (L9 l.enc) (L9 r.enc) none none) (b6 (bV (aD (aB rfl) aq) (sD ok) rfl rfl) rfl (by simp)) ?_
  exact az (gD (nE (s:=.leaf) (n:=w.n) (by omega) (aD (aB rfl) aq)) ef) rfl
 have s1:ax false 1 (aj 3 m__law_world (ae (af 0) (ae (eK (.int 0)) (ae (eK (.int 6)) ag)))) (aZ 13 [.list xs])=.nx [L9 (.list xs),L9 (fK os0 ms0 ss0),none,none,none,none,none,none,none,none,none,none,none]:=b6 (bV (aD (aB rfl) (aD aQ (aD aQ aq))) e0 rfl rfl) rfl (by simp [aZ])
 have t0:=cC (s:=.leaf) (aJ (g:=bC) (Γ:=[L9 (.list xs),L9 (fK os0 ms0 ss0),none,none,none,none,none,none,none,none,none,none,none]) (fa:=aj 3 aw (ae (aj 2 aC (ae (af 0) (ae (eK (.int 10)) ag))) (ae (eK (.int 0)) (ae (eK (.int 8)) ag)))) (bV (aD (bV (aD (aB rfl) (aD aQ aq)) hc10 rfl rfl) (aD aQ (aD aQ aq))) d0 rfl rfl) (aQ (d:=.int 1)) KC.eq_int)
 cases hb:(gg c10 0 8==1) with
 | false=>
  rw [hb] at t0;obtain ⟨w,ok,ew,en⟩:=zy g0 h10 (by omega)
  rw [<-ew] at s1 t0
  exact aR (az s1 (az (bu t0 nofun fun _=>rfl) (tail w ok none)))
 | true=>
  rw [hb] at t0;obtain ⟨os,ms,ss,eR,g⟩:=wg (Γ:=[L9 (.list xs),L9 (fK os0 ms0 ss0),none,none,none,none,none,L9 (rm j),none,none,none,none,none]) hj rfl rfl
  obtain ⟨w,ok,ew,en⟩:=zy g (by omega) (by omega)
  rw [<-ew] at eR;refine aR (az s1 (az (bu t0 (fun _=>az (b6 (bV (aD (bV (aD (aB rfl) (aD aQ aq)) hc10 rfl rfl) (aD aQ (aD aQ aq))) ej rfl rfl) rfl (by simp)) (b6 eR rfl (by simp))) nofun) (tail w ok (L9 (rm j)))))
theorem law_true (ns:List Int) (hl:ns.length<=63):m_law [.list (ns.map .int)]=.ok ⟨.leaf,.bool true⟩:=yK AG
end KQ.M.A
namespace TQ
open PySem PySem.Spec L2 T
open PyProof.Rows hiding St
variable {X:Cx} {N gl:List Str} {vs cs ls lo gs:List Nat} {W:XW} {a:Expr} {pos:Pos} {fa:F1}
end TQ
namespace KQ.M.A
open PySem PySem.Spec L2 T TQ
open PyProof.Rows hiding St
open KC
noncomputable def dD (n:Nat):Stmt:=(PySem.Challenge.pw_foreseehall_k35_whole_ways_told.main.body)[n]!
noncomputable def uJ:Stmt:=dD 13
noncomputable def nY:Stmt:=dD 14
noncomputable def i6:Stmt:=dD 15
noncomputable def i4:Stmt:=dD 16
noncomputable def nU:Stmt:=dD 17
noncomputable def lW:Stmt:=dD 22
noncomputable def ma:Stmt:=dD 23
noncomputable def lZ:Stmt:=dD 24
noncomputable def lY:Stmt:=dD 25
noncomputable def nX:Stmt:=dD 26
noncomputable def i7:Stmt:=dD 27
noncomputable def kg:Stmt:=dD 28
noncomputable def nW:Stmt:=dD 33
noncomputable def lX:Stmt:=dD 34
noncomputable def il:Stmt:=dD 35
noncomputable def lV:Stmt:=dD 36
noncomputable def gj:Stmt:=dD 37
noncomputable def gk:Stmt:=dD 38
noncomputable def i5:Stmt:=dD 43
noncomputable def fC:Stmt:=dD 44
noncomputable def nV:Stmt:=dD 45
noncomputable def nZ:Stmt:=dD 46
noncomputable def nT:Stmt:=dD 47
noncomputable def uI:Stmt:=dD 48
noncomputable def kh:Stmt:=dD 52
noncomputable def lU:Stmt:=dD 53
noncomputable def gR:Stmt:=dD 54
noncomputable def qW:Stmt:=dD 55
noncomputable def ip:Stmt:=dD 57
noncomputable def mh:Stmt:=dD 58
noncomputable def ki:Stmt:=dD 59
noncomputable def md:Stmt:=dD 60
noncomputable def kj:Stmt:=dD 61
noncomputable def i8:Stmt:=dD 62
noncomputable def kn:Stmt:=dD 63
noncomputable def me:Stmt:=dD 64
noncomputable def ko:Stmt:=dD 65
noncomputable def km:Stmt:=dD 66
noncomputable def mf:Stmt:=dD 67
noncomputable def kq:Stmt:=dD 68
noncomputable def oa:Stmt:=dD 70
noncomputable def Fb:Stmt:=dD 71
noncomputable def kl:Stmt:=dD 69
structure Gl (K:Fg) (mg:Str->Option Value):Prop where
 n0:mg "any"=none
 n1:mg "all"=none
 n2:mg "len"=none
 n3:mg "range"=none
 n4:mg "isinstance"=none
 n5:mg "tuple"=none
 n6:mg "str"=none
 n7:mg "list"=none
 n8:mg "int"=none
 n9:mg "bool"=none
 n10:mg "max"=none
 n11:mg "repr"=none
 n12:mg "ValueError"=none
 h0:fZ K mg "LETTERS" cb
 h1:fZ K mg "MOST_ROOMS" dY
 h2:fZ K mg "PLAYERS" cF
 h3:fZ K mg "MOST_WORDS" cS
 h4:fZ K mg "MOST_DEPTH" cT
 h5:fZ K mg "UNTILS" ck
 h6:fZ K mg "ALWAYS" dg
 h7:fZ K mg "BY_SOME_STEP" bE
 h8:fZ K mg "OF_SOME" bO
 h9:fZ K mg "OF_ALL" fU
 t0:qD K mg "PARTS" hX
 xt:ExT K mg xcl KF
structure Al (K:Fg) (mg:Str->Option Value):Prop where
 g:Gl K mg
 f0:Ft K mg "is_led" uJ
 f1:Ft K mg "is_lower" nY
 f2:Ft K mg "lower_steps" i6
 f3:Ft K mg "ranked_next" i4
 f4:Ft K mg "ranks_to" nU
 f5:Ft K mg "is_rising" lW
 f6:Ft K mg "are_marks" ma
 f7:Ft K mg "are_rooms" lZ
 f8:Ft K mg "are_steps" lY
 f9:Ft K mg "is_world" nX
 f10:Ft K mg "check_world" i7
 f11:Ft K mg "check_room" kg
 f12:Ft K mg "parts_of" nW
 f13:Ft K mg "is_formed" lX
 f14:Ft K mg "parts_of_all" il
 f15:Ft K mg "layers_of" lV
 f16:Ft K mg "checked_layers" gj
 f17:Ft K mg "check_sentence" gk
 f18:Ft K mg "other_rooms" i5
 f19:Ft K mg "through_and_goal" fC
 f20:Ft K mg "ranks_of" nV
 f21:Ft K mg "holds_at" nZ
 f22:Ft K mg "rooms_by" nT
 f23:Ft K mg "judged" uI
 f24:Ft K mg "check_kind" kh
 f25:Ft K mg "way_along" lU
 f26:Ft K mg "showing_steps" gR
 f27:Ft K mg "way_for" qW
 f28:Ft K mg "_law_cell_at" ip
 f29:Ft K mg "_law_draw" mh
 f30:Ft K mg "_law_world" ki
 f31:Ft K mg "_law_twin" md
 f32:Ft K mg "_law_whole" kj
 f33:Ft K mg "_law_is_way" i8
 f34:Ft K mg "_law_place" kn
 f35:Ft K mg "_law_time" me
 f36:Ft K mg "_law_holds" ko
 f37:Ft K mg "_law_timed" km
 f38:Ft K mg "_law_part" mf
 f39:Ft K mg "_law_along" kq
 f40:Ft K mg "_law_met" oa
 f41:Ft K mg "law" Fb
 f42:Ft K mg "_law_which" kl
section
variable {P:Program} {w:World} {K:Fg} {mg:Str->Option Value} {base:Heap} (A:Al K mg) (B:K.In base/\base.Ns mainGlobals mg)
include A B
theorem jc:Ee P w K mg base 1 "_law_which" xcl cG:=Lw (p:=Gl) A.f42 A.g "e" o8 ["some"] Lb [0,1] [] [0,1,2,3,4,5,6,7,8,9,10,11] fun X a C c hc hC S I hx=>
 TQ.Q.p (xn S I.r (I.xt A.g.xt) hx hc (I.gm hC) (I.gm A.g.n4) (I.gm A.g.n12))
theorem mE:DefOk P w K mg base 2 "is_led" 2 cK:=mk A.f0 A.g ["is_chosen", "by_steps"] qy [] ["any", "all"] [0,1] [] [0,1] fun X S I hp=>
 (bT (Ew (iX (av S 0) (fun _=>rfl)) (lJ S 0 rfl rfl I.e.n0 (aP (av S 1)) (dC rfl) rfl) (ph S 1 rfl rfl I.e.n1 (aP (av S 1)) (dC rfl) rfl)))
theorem oq:DefOk P w K mg base 2 "is_lower" 2 dW:=mk A.f1 A.g ["rank", "other"] qy [] [] [0,1] [] [] fun X S I hp=>
 (bT (tR (eD (Es I.r) (av S 0) nI) (tR (eD (Es I.r) (av S 1) nI) (wW (eD (mn I.r) (av S 0) (av S 1))))))
theorem jf:DefOk P w K mg base 3 "lower_steps" 3 dF:=mk A.f2 A.g ["world", "ranks", "room"] w6 ["there"] ["is_lower"] [0,1,2] [1,2] [] fun X S I hp=>
 (bT (fq [1,2,3] [1,2] [0] S 3 (fz (bo (bo (av S 0) aT) (av S 2))) (fun Y1 S1 F1=>have I:=F1.i I;nJ (iX (bZ S1 0 (I.c (oq A B)) (ba (bo (av S1 1) (av S1 3)) (aP (bo (av S1 1) (av S1 2))))) (fun _=>rfl))) (fun Y1 S1 F1=>have I:=F1.i I;(av S1 3))))
theorem jd:DefOk P w K mg base 3 "ranked_next" 4 b5:=mk A.f3 A.g ["world", "chosen", "through", "ranks"] HX ["found", "room", "there"] ["is_led"] [0,1,2,3,4,5] [3] [0] fun X S I hp=>
 (bg (b8 S true 4 (hU .leaf tQ)) (bg (zi S 5 rfl rfl hp (fz (av S 2)) (eH (cW (lq (zj (bQ (rn I.r) (bo (av S 3) (av S 5)) nI) (AN (iX (bZ S 0 (I.c (mE A B)) (ba (bo (av S 1) (av S 5)) (aP (fq [3,6] [3] [] S 6 (fz (bo (bo (av S 0) aT) (av S 5))) (fun _ _ _=>ia) (fun Y1 S1 F1=>have I:=F1.i I;(eD (Es I.r) (bo (av S1 3) (av S1 6)) nI)))))) (fun _=>rfl))))) (eH (zm S 4 rfl rfl (av S 5) (d8 rfl) rfl rfl rfl rfl)) dB)) (fun _=>rfl)) (bT (iY S 4 rfl rfl))))
theorem om:DefOk P w K mg base 4 "ranks_to" 4 fE:=mk A.f4 A.g ["world", "chosen", "through", "goal"] HX ["ranks", "rank", "fresh", "room", "owner"] ["ranked_next"] [0,1,2,3,4,5,6,7] [] [0] fun X S I hp=>
 (bg (AO (vs':=[8]) (cs':=[]) (lo':=[]) (gs':=[]) S true 4 .leaf 8 rfl rfl rfl rfl (by kernel_rfl) (by kernel_rfl) (by kernel_rfl) (fz (bo (av S 0) aT)) (fun _ _ _=>ia) (fun Y1 S1 F1=>nI) (fun _=>rfl)) (bg (b8 S false 5 aT) (bg (b8 S false 6 (av S 3)) (bg (Ji 1000 hp (iX (av S 6) (fun _=>rfl)) (bg (zi S 7 rfl rfl hp (fz (av S 6)) (eH (qO S 4 rfl rfl (av S 5) (av S 7) rfl rfl rfl (fun _=>rfl))) (fun _=>rfl)) (bg (lI S 5 rfl rfl aT) (eH (b8 S false 6 (A7 S 0 rfl rfl (I.c (jd A B)) (ba (av S 0) (ba (av S 1) (ba (av S 2) (aP (av S 4))))) (dC rfl) rfl)))))) (bT (iY S 4 rfl rfl))))))
theorem gL:DefOk P w K mg base 2 "is_rising" 1 dw:=mk A.f5 A.g ["entries"] o8 ["k"] ["len", "range", "all"] [0] [0] [0,1,2] fun X S I hp=>
 (bT (ph S 2 rfl rfl I.e.n1 (aP (fq [0,1] [0] [] S 1 (EL S 1 rfl rfl I.e.n3 (ba aT (aP (eL S 0 I.e.n2 (aP (av S 0))))) (uF rfl rfl) (d8 rfl)) (fun _ _ _=>ia) (fun Y1 S1 F1=>have I:=F1.i I;(eD (mn I.r) (bo (av S1 0) (IU (av S1 1) aT)) (bo (av S1 0) (av S1 1)))))) (dC rfl) rfl))
theorem mI:DefOk P w K mg base 3 "are_marks" 1 dz:=mk A.f6 A.g ["entries"] o8 ["entry"] ["LETTERS", "all", "is_rising"] [0] [] [1,2] fun X S I hp=>
 (bT (tR (ph S 1 rfl rfl I.e.n1 (aP (fq [1] [] [0] S 1 (fz (av S 0)) (fun _ _ _=>ia) (fun Y1 S1 F1=>have I:=F1.i I;(eD (b4 I.r) (av S1 1) (eI S1 0 rfl rfl I.e.h0))))) (dC rfl) rfl) (wW (bZ S 2 (I.c (gL A B)) (aP (av S 0))))))
theorem mH:DefOk P w K mg base 3 "are_rooms" 2 eO:=mk A.f7 A.g ["entries", "size"] qy ["entry"] ["all", "is_rising"] [0,1] [1] [0,1] fun X S I hp=>
 (bT (tR (ph S 0 rfl rfl I.e.n1 (aP (fq [1,2] [1] [] S 2 (fz (av S 0)) (fun _ _ _=>ia) (fun Y1 S1 F1=>have I:=F1.i I;(zu (B5 I.r) (mn I.r) aT (av S1 2) (av S1 1) (by with_unfolding_all rfl))))) (dC rfl) rfl) (wW (bZ S 1 (I.c (gL A B)) (aP (av S 0))))))
theorem mG:DefOk P w K mg base 4 "are_steps" 2 dy:=mk A.f8 A.g ["entries", "size"] qy [] ["len", "are_rooms"] [0,1] [] [0,1] fun X S I hp=>
 (bT (tR (eD (mq I.r) (eL S 0 I.e.n2 (aP (av S 0))) aT) (wW (bZ S 1 (I.c (mH A B)) (ba (av S 0) (aP (av S 1)))))))
theorem oo:DefOk P w K mg base 5 "is_world" 3 dU:=mk A.f9 A.g ["owners", "marks", "steps"] w6 ["size", "owner", "row"] ["len", "MOST_ROOMS", "PLAYERS", "all", "are_marks", "are_steps"] [0,1,2,3] [3] [0,1,3] fun X S I hp=>
 (bg (b8 S false 3 (eL S 0 I.e.n2 (aP (av S 0)))) (bg (cW (lq (nM (bQ (mn I.r) (av S 3) aT) (nM (bQ (mq I.r) (av S 3) (eI S 1 rfl rfl I.e.h1)) (nM (bQ (ja I.r) (eL S 0 I.e.n2 (aP (av S 1))) (av S 3)) (wV (bQ (ja I.r) (eL S 0 I.e.n2 (aP (av S 2))) (av S 3))))))) (bT qM) dB) (bg (cW (sZ (iX (ph S 3 rfl rfl I.e.n1 (aP (fq [4] [] [2] S 4 (fz (av S 0)) (fun _ _ _=>ia) (fun Y1 S1 F1=>have I:=F1.i I;(eD (b4 I.r) (av S1 4) (eI S1 2 rfl rfl I.e.h2))))) (dC rfl) rfl) (fun _=>rfl))) (bT qM) dB) (bT (tR (ph S 3 rfl rfl I.e.n1 (aP (fq [5] [] [4] S 5 (fz (av S 1)) (fun _ _ _=>ia) (fun Y2 S2 F2=>have I:=F2.i I;(bZ S2 4 (I.c (mI A B)) (aP (av S2 5)))))) (dC rfl) rfl) (wW (ph S 3 rfl rfl I.e.n1 (aP (fq [3,5] [3] [5] S 5 (fz (av S 2)) (fun _ _ _=>ia) (fun Y3 S3 F3=>have I:=F3.i I;(bZ S3 5 (I.c (mG A B)) (ba (av S3 5) (aP (av S3 3))))))) (dC rfl) rfl)))))))
theorem jg:DefOk P w K mg base 6 "check_world" 1 bH:=mk A.f10 A.g ["world"] o8 [] ["is_world"] [0] [] [0] fun X S I hp=>
 (eH (cW (sZ (iX (bZ S 0 (I.c (oo A B)) (ba (bo (av S 0) aT) (ba (bo (av S 0) aT) (aP (bo (av S 0) aT))))) (fun _=>rfl))) (eH Hd) dB))
theorem kz:DefOk P w K mg base 2 "check_room" 2 cP:=mk A.f11 A.g ["world", "room"] qy [] ["len"] [0,1] [] [0] fun X S I hp=>
 (eH (cW (sZ (EK (B5 I.r) (mn I.r) aT (av S 1) (eL S 0 I.e.n2 (aP (bo (av S 0) aT))) (by with_unfolding_all rfl))) (eH Hd) dB))
theorem Jh:DefOk P w K mg base 2 "parts_of" 1 aV:=mk A.f12 A.g ["sentence"] o8 [] [] [0] [] [] fun X S I hp=>
 (bT (Ew (bQ (b7 I.r) (bo (av S 0) aT) cf) (iW tQ) (uc (av S 0) aT)))
theorem mF:DefOk P w K mg base 2 "is_formed" 1 bF:=mk A.f13 A.g ["some"] o8 [] ["isinstance", "tuple", "len", "str", "LETTERS", "PARTS"] [0] [] [0,1,2,3,4,5] fun X S I hp=>
 (bg (cW (lq (nM (sZ (iX (AL S 0 1 rfl rfl rfl rfl rfl qz I.e.n4 I.e.n5 (av S 0) (dC rfl) (dC rfl) rfl) (fun _=>rfl))) (nM (bQ (b7 I.r) (eL S 2 I.e.n2 (aP (av S 0))) aT) (wV (sZ (iX (AL S 0 3 rfl rfl rfl rfl rfl Gm I.e.n4 I.e.n6 (bo (av S 0) aT) (dC rfl) (dC rfl) rfl) (fun _=>rfl))))))) (bT qM) dB) (bg (cW (bQ (b7 I.r) (bo (av S 0) aT) cf) (bT (tR (eD (b7 I.r) (eL S 2 I.e.n2 (aP (av S 0))) aT) (wW (eD (b4 I.r) (bo (av S 0) aT) (eI S 4 rfl rfl I.e.h0))))) dB) (bT (tR (ib S 5 rfl rfl I.e.t0 (bo (av S 0) aT)) (wW (eD (b7 I.r) (eL S 2 I.e.n2 (aP (av S 0))) (qL aT (qR S 5 rfl rfl I.e.t0 (bo (av S 0) aT) (fun _ _=>rfl)))))))))
theorem iz:DefOk P w K mg base 3 "parts_of_all" 1 cg:=mk A.f14 A.g ["sentences"] o8 ["found", "sentence"] ["parts_of"] [0,1,2] [] [0] fun X S I hp=>
 (bg (b8 S true 1 (hU .leaf tQ)) (bg (zi S 2 rfl rfl hp (fz (av S 0)) (eH (lH S 1 rfl rfl (bZ S 0 (I.c (Jh A B)) (aP (av S 2))) (d8 rfl) rfl rfl rfl rfl)) (fun _=>rfl)) (bT (iY S 1 rfl rfl))))
theorem mD:DefOk P w K mg base 4 "layers_of" 1 eN:=mk A.f15 A.g ["some"] o8 ["layers", "layer", "many", "each"] ["len", "MOST_WORDS", "MOST_DEPTH", "is_formed", "all", "parts_of_all"] [0,1,2,3] [] [0,1,2,4,5] fun X S I hp=>
 (bg (b8 S true 1 (hU .leaf tQ)) (bg (b8 S false 2 (hU .leaf (aP (av S 0)))) (bg (b8 S false 3 aT) (bg (Ji 1000 hp (iX (av S 2) (fun _=>rfl)) (bg (lI S 3 rfl rfl (eL S 0 I.e.n2 (aP (av S 2)))) (bg (cW (lq (nM (bQ (mq I.r) (av S 3) (eI S 1 rfl rfl I.e.h3)) (nM (bQ (b7 I.r) (eL S 0 I.e.n2 (aP (av S 1))) (eI S 2 rfl rfl I.e.h4)) (wV (sZ (iX (ph S 4 rfl rfl I.e.n1 (aP (fq [4] [] [3] S 4 (fz (av S 2)) (fun _ _ _=>ia) (fun Y1 S1 F1=>have I:=F1.i I;(bZ S1 3 (I.c (mF A B)) (aP (av S1 4)))))) (dC rfl) rfl) (fun _=>rfl))))))) (bT nI) dB) (bg (zm S 1 rfl rfl (av S 2) (d8 rfl) rfl rfl rfl rfl) (eH (b8 S false 2 (bZ S 5 (I.c (iz A B)) (aP (av S 2))))))))) (bT (iY S 1 rfl rfl))))))
theorem gp:DefOk P w K mg base 5 "checked_layers" 1 cE:=mk A.f16 A.g ["sentence"] o8 ["layers"] ["layers_of"] [0,1] [] [0] fun X S I hp=>
 (bg (b8 S false 1 (bZ S 0 (I.c (mD A B)) (aP (av S 0)))) (bg (cW (bQ (rn I.r) (av S 1) nI) (eH Hd) dB) (bT (av S 1))))
theorem gq:DefOk P w K mg base 6 "check_sentence" 1 bW:=mk A.f17 A.g ["sentence"] o8 [] ["checked_layers"] [0] [] [0] fun X S I hp=>
 (eH (EA (bZ S 0 (I.c (gp A B)) (aP (av S 0))) rfl))
theorem je:DefOk P w K mg base 2 "other_rooms" 2 cH:=mk A.f18 A.g ["world", "rooms"] qy ["room"] ["len", "range"] [0,1] [1] [0,1] fun X S I hp=>
 (bT (fq [1,2] [1] [] S 2 (d9 S 1 rfl rfl I.e.n3 (aP (eL S 0 I.e.n2 (aP (bo (av S 0) aT)))) (d8 rfl)) (fun Y1 S1 F1=>have I:=F1.i I;nJ (bQ (AD I.r) (av S1 2) (av S1 1))) (fun Y1 S1 F1=>have I:=F1.i I;(av S1 2))))
theorem fD:DefOk P w K mg base 3 "through_and_goal" 3 bq:=mk A.f19 A.g ["world", "sentence", "parts"] w6 [] ["UNTILS", "len", "list", "range", "other_rooms"] [0,1,2] [] [0,1,2,3,4] fun X S I hp=>
 (bg (cW (bQ (b4 I.r) (bo (av S 1) aT) (eI S 0 rfl rfl I.e.h5)) (bT (iW (ba (bo (av S 2) aT) (aP (bo (av S 2) aT))))) dB) (bT (iW (ba (eJ S 2 3 rfl rfl I.e.n7 rfl rfl I.e.n3 (aP (eL S 1 I.e.n2 (aP (bo (av S 0) aT)))) (d8 rfl) (d8 rfl)) (aP (bZ S 4 (I.c (je A B)) (ba (av S 0) (aP (bo (av S 2) aT)))))))))
theorem iy:DefOk P w K mg base 5 "ranks_of" 3 bI:=mk A.f20 A.g ["world", "sentence", "parts"] w6 ["word", "both", "owner"] ["UNTILS", "ALWAYS", "through_and_goal", "BY_SOME_STEP", "ranks_to"] [0,1,2,3,4] [3] [0,1,2,4] fun X S I hp=>
 (bg (b8 S false 3 (bo (av S 1) aT)) (bg (cW (lq (zj (bQ (AD I.r) (av S 3) (eI S 0 rfl rfl I.e.h5)) (AN (bQ (AD I.r) (av S 3) (eI S 1 rfl rfl I.e.h6))))) (bT nI) dB) (bg (b8 S false 4 (bZ S 2 (I.c (fD A B)) (ba (av S 0) (ba (av S 1) (aP (av S 2)))))) (bT (bZ S 4 (I.c (om A B)) (ba (av S 0) (ba (fq [3,5] [3] [3] S 5 (fz (bo (av S 0) aT)) (fun _ _ _=>ia) (fun Y1 S1 F1=>have I:=F1.i I;(eD (b4 I.r) (av S1 3) (eI S1 3 rfl rfl I.e.h7)))) (ba (bo (av S 4) aT) (aP (bo (av S 4) aT))))))))))
theorem ot:DefOk P w K mg base 3 "holds_at" 5 dX:=mk A.f21 A.g ["world", "sentence", "parts", "ranks", "room"] Li ["word", "here", "rooms", "there"] ["UNTILS", "ALWAYS", "all", "any", "BY_SOME_STEP", "is_led"] [0,1,2,3,4,5,6] [2,4] [0,1,2,3,4,5] fun X S I hp=>
 (bg (b8 S false 5 (bo (av S 1) aT)) (bg (cW (bQ (b7 I.r) (av S 5) cf) (bT qM) dB) (bg (cW (bQ (b7 I.r) (av S 5) cf) (bT (eD (b4 I.r) (bo (av S 1) aT) (bo (bo (av S 0) aT) (av S 4)))) dB) (bg (cW (bQ (b4 I.r) (av S 5) (eI S 0 rfl rfl I.e.h5)) (bT (eD (Es I.r) (bo (av S 3) (av S 4)) nI)) dB) (bg (cW (bQ (b4 I.r) (av S 5) (eI S 1 rfl rfl I.e.h6)) (bT (eD (rn I.r) (bo (av S 3) (av S 4)) nI)) dB) (bg (AO (vs':=[4,7]) (cs':=[4]) (lo':=[]) (gs':=[]) S false 6 .leaf 7 rfl rfl rfl rfl (by kernel_rfl) (by kernel_rfl) (by kernel_rfl) (fz (av S 2)) (fun _ _ _=>ia) (fun Y1 S1 F1=>have I:=F1.i I;(eD (b4 I.r) (av S1 4) (av S1 7))) (fun _=>rfl)) (bg (cW (bQ (b7 I.r) (av S 5) cf) (bT (lD (bo (av S 6) aT))) dB) (bg (cW (lq (nM (bQ (b7 I.r) (av S 5) cf) (wV (bQ (b7 I.r) (av S 5) cf)))) (bT (Ew (bQ (b7 I.r) (av S 5) cf) (ph S 2 rfl rfl I.e.n1 (aP (av S 6)) (dC rfl) rfl) (lJ S 3 rfl rfl I.e.n0 (aP (av S 6)) (dC rfl) rfl))) dB) (bT (bZ S 5 (I.c (mE A B)) (ba (eD (b4 I.r) (av S 5) (eI S 4 rfl rfl I.e.h7)) (aP (fq [2,8] [2] [] S 8 (fz (bo (bo (av S 0) aT) (av S 4))) (fun _ _ _=>ia) (fun Y2 S2 F2=>have I:=F2.i I;(eD (b4 I.r) (av S2 8) (bo (av S2 2) aT))))))))))))))))
theorem iu:DefOk P w K mg base 4 "rooms_by" 4 bU:=mk A.f22 A.g ["world", "sentence", "parts", "ranks"] HX ["room"] ["len", "range", "holds_at"] [0,1,2,3] [0,1,2,3] [0,1] fun X S I hp=>
 (bT (fq [0,1,2,3,4] [0,1,2,3] [2] S 4 (d9 S 1 rfl rfl I.e.n3 (aP (eL S 0 I.e.n2 (aP (bo (av S 0) aT)))) (d8 rfl)) (fun Y1 S1 F1=>have I:=F1.i I;nJ (iX (bZ S1 2 (I.c (ot A B)) (ba (av S1 0) (ba (av S1 1) (ba (av S1 2) (ba (av S1 3) (aP (av S1 4))))))) (fun _=>rfl))) (fun Y1 S1 F1=>have I:=F1.i I;(av S1 4))))
theorem rG (n:Nat):DefOk P w K mg base (5+n) "judged" 2 (de n):=by
 induction n with
 | zero=>exact K9 A.f23 qy
 | succ n ih=>exact mk (k:=5+n) A.f23 A.g ["world", "sentence"] qy ["parts", "part"] ["parts_of", "judged", "ranks_of", "rooms_by"] [0,1,2] [0] [0,2,3] fun X S I hp=>
  (bg (AO (vs':=[0,3]) (cs':=[0]) (lo':=[]) (gs':=[1]) S false 2 .leaf 3 rfl rfl rfl rfl (by kernel_rfl) (by kernel_rfl) (by kernel_rfl) (lC (bZ S 0 (I.c (Jh A B)) (aP (av S 1)))) (fun _ _ _=>ia) (fun Y1 S1 F1=>have I:=F1.i I;(bZ S1 1 (I.c ih) (ba (av S1 0) (aP (av S1 3))))) (fun _=>rfl)) (bT (bZ S 3 (I.c (iu A B)) (ba (av S 0) (ba (av S 1) (ba (av S 2) (aP (bZ S 2 (I.c (iy A B)) (ba (av S 0) (ba (av S 1) (aP (av S 2))))))))))))
theorem vm:DefOk P w K mg base 35 "judged" 2 df:=rG A B 30
theorem kA:DefOk P w K mg base 7 "check_kind" 1 cQ:=mk A.f24 A.g ["sentence"] o8 [] ["check_sentence", "OF_SOME", "OF_ALL"] [0] [] [0,1,2] fun X S I hp=>
 (bg (EA (bZ S 0 (I.c (gq A B)) (aP (av S 0))) rfl) (eH (cW (lq (zj (bQ (AD I.r) (bo (av S 0) aT) (eI S 1 rfl rfl I.e.h8)) (AN (bQ (AD I.r) (bo (av S 0) aT) (eI S 2 rfl rfl I.e.h9))))) (eH Hd) dB)))
theorem mC:DefOk P w K mg base 2 "way_along" 2 dv:=mk A.f25 A.g ["choices", "room"] qy ["met", "here", "place"] [] [0,1,2,3,4] [] [] fun X S I hp=>
 (bg (b8 S true 2 (hU .leaf tQ)) (bg (b8 S false 3 (av S 1)) (bg (Ji 100 hp (lq (zj (bQ (Es I.r) (av S 3) nI) (AN (bQ (AD I.r) (av S 3) (av S 2))))) (bg (zm S 2 rfl rfl (av S 3) (d8 rfl) rfl rfl rfl rfl) (eH (b8 S false 3 (bo (av S 0) (av S 3)))))) (bg (cW (bQ (rn I.r) (av S 3) nI) (bT nI) dB) (ub 2 (bg (b8 S false 4 (ue S 2 rfl rfl (av S 3) rfl (d8 rfl) rfl)) (bT (iW (ba (jB (av S 2) (av S 4)) (aP (gE (av S 2) (av S 4))))))))))))
theorem gT:DefOk P w K mg base 4 "showing_steps" 5 bj:=mk A.f26 A.g ["world", "word", "parts", "ranks", "room"] Li ["steps", "there"] ["BY_SOME_STEP", "lower_steps"] [0,1,2,3,4,5] [1,2,3] [0,1] fun X S I hp=>
 (bg (b8 S false 5 (bo (bo (av S 0) aT) (av S 4))) (bg (cW (bQ (rn I.r) (av S 3) nI) (bT (fq [1,2,6] [1,2] [] S 6 (fz (av S 5)) (fun Y1 S1 F1=>have I:=F1.i I;nJ (bQ (b7 I.r) (eD (b4 I.r) (av S1 6) (bo (av S1 2) aT)) (eD (b7 I.r) (av S1 1) cf))) (fun Y1 S1 F1=>have I:=F1.i I;(av S1 6)))) dB) (bg (cW (bQ (b4 I.r) (av S 1) (eI S 0 rfl rfl I.e.h7)) (bT (bZ S 1 (I.c (jf A B)) (ba (av S 0) (ba (av S 3) (aP (av S 4)))))) dB) (bT (fq [3,6] [3] [] S 6 (fz (av S 5)) (fun Y2 S2 F2=>have I:=F2.i I;nJ (bQ (rn I.r) (bo (av S2 3) (av S2 6)) nI)) (fun Y2 S2 F2=>have I:=F2.i I;(av S2 6)))))))
theorem oj:DefOkX P w K mg base 36 "way_for" 3 cX:=Lu (p:=Gl) A.f27 A.g ["world", "sentence", "room"] w6 ["word", "parts", "ranks", "choices", "part", "here"] ["check_world", "check_kind", "check_room", "parts_of", "judged", "ranks_of", "rooms_by", "OF_SOME", "NoWay", "len", "range", "showing_steps", "way_along"] [0,1,2,3,4,5,6] [0,3,4,5] [0,1,2,3,5,6,7,8,9,10,12] fun X W S I th mk=>
 (bg (EA (bZ S 0 (I.c (jg A B)) (aP (av S 0))) rfl) (bg (EA (bZ S 1 (I.c (kA A B)) (aP (av S 1))) rfl) (bg (EA (bZ S 2 (I.c (kz A B)) (ba (av S 0) (aP (av S 2)))) rfl) (bg (b8 S false 3 (bo (av S 1) aT)) (bg (lG S false 4 rfl rfl (lS (S.cel 4 _ rfl rfl)) (fq [0,7] [0] [4] S 7 (lC (bZ S 3 (I.c (Jh A B)) (aP (av S 1)))) (fun _ _ _=>ia) (fun Y1 S1 F1=>have I:=F1.i I;(bZ S1 4 (I.c (vm A B)) (ba (av S1 0) (aP (av S1 7))))))) (bg (b8 S false 5 (bZ S 5 (I.c (iy A B)) (ba (av S 0) (ba (av S 1) (aP (av S 4)))))) (bg (cW (bQ (ja I.r) (eD (b4 I.r) (av S 2) (bZ S 6 (I.c (iu A B)) (ba (av S 0) (ba (av S 1) (ba (av S 4) (aP (av S 5))))))) (eD (b4 I.r) (av S 3) (eI S 7 rfl rfl I.e.h8))) (eH (nO S mk 8 (I.ra (A.g.xt.rais B.1 B.2)))) dB) (bg (AO (vs':=[0,3,4,5,8]) (cs':=[0,3,4,5]) (lo':=[]) (gs':=[11]) S false 6 .leaf 8 rfl rfl rfl rfl (by kernel_rfl) (by kernel_rfl) (by kernel_rfl) (d9 S 10 rfl rfl I.e.n3 (aP (eL S 9 I.e.n2 (aP (bo (av S 0) aT)))) (d8 rfl)) (fun _ _ _=>ia) (fun Y2 S2 F2=>have I:=F2.i I;(bo (AK (bZ S2 11 (I.c (gT A B)) (ba (av S2 0) (ba (av S2 3) (ba (av S2 4) (ba (av S2 5) (aP (av S2 8))))))) (bo (bo (av S2 0) aT) (av S2 8))) aT)) (fun _=>rfl)) (bT (bZ S 12 (I.c (mC A B)) (ba (av S 6) (aP (av S 2)))))))))))))
theorem AQ:DefOk P w K mg base 2 "_law_cell_at" 2 aC:=mk A.f28 A.g ["script", "k"] qy [] ["len"] [0,1] [] [0] fun X S I hp=>
 (bg (cW (bQ (mn I.r) (av S 1) (eL S 0 I.e.n2 (aP (av S 0)))) (bT (bo (av S 0) (av S 1))) dB) (bT aT))
theorem wY:DefOk P w K mg base 2 "_law_draw" 3 aw:=mk A.f29 A.g ["cell", "k", "bound"] w6 ["stir", "left", "j"] ["range"] [0,1,2,3,4,5] [] [0] fun X S I hp=>
 (bg (cW (bQ (Ka I.r) (av S 0) (t9 aT aT)) (bg (b8 S false 4 (av S 0)) (bg (zi S 5 rfl rfl hp (d9 S 0 rfl rfl I.e.n3 (aP (av S 1)) (d8 rfl)) (eH (b8 S false 4 (lE (av S 4) (av S 2)))) (fun _=>rfl)) (bT (xm (av S 4) (av S 2))))) dB) (bg (b8 S false 3 (xm (DY (qL (qL (xm (av S 0) aT) (DY aT (av S 1))) aT) aT) aT)) (bg (b8 S false 3 (xm (qL (qL (DY (av S 3) (av S 3)) (DY aT (av S 1))) aT) aT)) (bT (xm (lE (xm (DY (av S 3) aT) aT) aT) (av S 2))))))
theorem kB:DefOk P w K mg base 3 "_law_world" 3 m__law_world:=mk A.f30 A.g ["script", "at", "most"] w6 ["many", "owners", "marks", "steps", "room", "cell", "row", "there", "mark"] ["_law_cell_at", "range", "_law_draw", "int"] [0,1,2,3,4,5,6,7,8,9] [3,8] [0,1,2] fun X S I hp=>
 (bg (b8 S false 3 (qL aT (xm (bZ S 0 (I.c (AQ A B)) (ba (av S 0) (aP (av S 1)))) (av S 2)))) (bg (b8 S true 4 (hU .leaf tQ)) (bg (b8 S true 5 (hU .leaf tQ)) (bg (b8 S true 6 (hU .leaf tQ)) (bg (zi S 7 rfl rfl hp (d9 S 1 rfl rfl I.e.n3 (aP (av S 3)) (d8 rfl)) (bg (b8 S false 8 (bZ S 0 (I.c (AQ A B)) (ba (av S 0) (aP (qL (qL (av S 1) aT) (av S 7)))))) (bg (zm S 4 rfl rfl (bZ S 2 (I.c (wY A B)) (ba (av S 8) (ba aT (aP aT)))) (d8 rfl) rfl rfl rfl rfl) (bg (zm S 5 rfl rfl (fq [8,11] [8] [2] S 11 (qN (by kernel_rfl)) (fun Y1 S1 F1=>have I:=F1.i I;nJ (bQ (b7 I.r) (bZ S1 2 (I.c (wY A B)) (ba (av S1 8) (ba (qL aT (qQ (av S1 11) (d8 rfl) rfl)) (aP aT)))) aT)) (fun Y1 S1 F1=>have I:=F1.i I;(av S1 11))) (d8 rfl) rfl rfl rfl rfl) (bg (AO (vs':=[3,8,10]) (cs':=[3,8]) (lo':=[]) (gs':=[2,3]) S false 9 .leaf 10 rfl rfl rfl rfl (by kernel_rfl) (by kernel_rfl) (by kernel_rfl) (d9 S 1 rfl rfl I.e.n3 (aP (av S 3)) (d8 rfl)) (fun Y2 S2 F2=>have I:=F2.i I;nJ (bQ (b7 I.r) (bZ S2 2 (I.c (wY A B)) (ba (av S2 8) (ba (qL aT (av S2 10)) (aP (qL aT (uh S2 3 rfl rfl I.e.n8 (aP (eD (mq I.r) (av S2 3) aT)) (dC rfl) rfl)))))) aT)) (fun Y2 S2 F2=>have I:=F2.i I;(av S2 10)) (fun _=>rfl)) (bg (cW (bQ (b7 I.r) (av S 9) (hU .leaf tQ)) (eH (b8 S false 9 (hU .leaf (aP (bZ S 2 (I.c (wY A B)) (ba (av S 8) (ba (qL aT (av S 3)) (aP (av S 3))))))))) dB) (eH (zm S 6 rfl rfl (av S 9) (d8 rfl) rfl rfl rfl rfl))))))) (fun _=>rfl)) (bT (iW (ba (iY S 4 rfl rfl) (ba (iY S 5 rfl rfl) (aP (iY S 6 rfl rfl)))))))))))
theorem mJ:DefOk P w K mg base 2 "_law_twin" 1 m__law_twin:=mk A.f31 A.g ["world"] o8 ["row"] ["list"] [0] [] [0] fun X S I hp=>
 (bT (iW (ba (Ez S 0 rfl rfl I.e.n7 (bo (av S 0) aT) (d8 rfl)) (ba (fq [1] [] [0] S 1 (fz (bo (av S 0) aT)) (fun _ _ _=>ia) (fun Y1 S1 F1=>have I:=F1.i I;(Ez S1 0 rfl rfl I.e.n7 (av S1 1) (d8 rfl)))) (aP (fq [1] [] [0] S 1 (fz (bo (av S 0) aT)) (fun _ _ _=>ia) (fun Y2 S2 F2=>have I:=F2.i I;(Ez S2 0 rfl rfl I.e.n7 (av S2 1) (d8 rfl)))))))))
theorem kC:DefOk P w K mg base 2 "_law_whole" 1 cR:=mk A.f32 A.g ["found"] o8 [] ["isinstance", "int", "bool"] [0] [] [0,1,2] fun X S I hp=>
 (bT (tR (AL S 0 1 rfl rfl rfl rfl rfl Ag I.e.n4 I.e.n8 (av S 0) (dC rfl) (dC rfl) rfl) (wW (lD (AL S 0 2 rfl rfl rfl rfl rfl DA I.e.n4 I.e.n9 (av S 0) (dC rfl) (dC rfl) rfl)))))
theorem jh:DefOk P w K mg base 3 "_law_is_way" 2 bN:=mk A.f33 A.g ["world", "found"] qy ["rooms", "ahead", "k", "room"] ["isinstance", "tuple", "len", "list", "_law_whole", "all", "range"] [0,1,2,3] [0,2,3] [0,1,2,3,5,6] fun X S I hp=>
 (bg (cW (lq (nM (sZ (iX (AL S 0 1 rfl rfl rfl rfl rfl qz I.e.n4 I.e.n5 (av S 1) (dC rfl) (dC rfl) rfl) (fun _=>rfl))) (nM (bQ (ja I.r) (eL S 2 I.e.n2 (aP (av S 1))) aT) (wV (sZ (iX (AL S 0 3 rfl rfl rfl rfl rfl GJ I.e.n4 I.e.n7 (bo (av S 1) aT) (dC rfl) (dC rfl) rfl) (fun _=>rfl))))))) (bT qM) dB) (bg (cW (lq (nM (sZ (iX (AL S 0 3 rfl rfl rfl rfl rfl GJ I.e.n4 I.e.n7 (bo (av S 1) aT) (dC rfl) (dC rfl) rfl) (fun _=>rfl))) (wV (bQ (b7 I.r) (eL S 2 I.e.n2 (aP (bo (av S 1) aT))) aT)))) (bT qM) dB) (bg (b8 S false 2 (AK (bo (av S 1) aT) (bo (av S 1) aT))) (bg (cW (sZ (iX (ph S 5 rfl rfl I.e.n1 (aP (fq [0,5] [0] [2,4] S 5 (fz (av S 2)) (fun _ _ _=>ia) (fun Y1 S1 F1=>have I:=F1.i I;(tR (bZ S1 4 (I.c (kC A B)) (aP (av S1 5))) (wW (zu (B5 I.r) (mn I.r) aT (av S1 5) (eL S1 2 I.e.n2 (aP (bo (av S1 0) aT))) (by with_unfolding_all rfl))))))) (dC rfl) rfl) (fun _=>rfl))) (bT qM) dB) (bg (b8 S false 3 (AK (gE (av S 2) aT) (hU .leaf (aP (bo (bo (av S 1) aT) aT))))) (bT (ph S 5 rfl rfl I.e.n1 (aP (fq [0,2,3,4] [0,2,3] [] S 4 (d9 S 6 rfl rfl I.e.n3 (aP (eL S 2 I.e.n2 (aP (av S 2)))) (d8 rfl)) (fun _ _ _=>ia) (fun Y2 S2 F2=>have I:=F2.i I;(eD (b4 I.r) (bo (av S2 3) (av S2 4)) (bo (bo (av S2 0) aT) (bo (av S2 2) (av S2 4))))))) (dC rfl) rfl)))))))
theorem fQ:DefOk P w K mg base 2 "_law_place" 2 m__law_place:=mk A.f34 A.g ["way", "place"] qy [] ["len"] [0,1] [] [0] fun X S I hp=>
 (bg (cW (bQ (mn I.r) (av S 1) (eL S 0 I.e.n2 (aP (bo (av S 0) aT)))) (bT (bo (bo (av S 0) aT) (av S 1))) dB) (bT (bo (bo (av S 0) aT) (xm (IU (av S 1) (eL S 0 I.e.n2 (aP (bo (av S 0) aT)))) (eL S 0 I.e.n2 (aP (bo (av S 0) aT)))))))
theorem mK:DefOk P w K mg base 2 "_law_time" 4 eP:=mk A.f35 A.g ["world", "word", "one", "other"] HX ["some", "found", "turn", "new", "room", "into", "steps", "there"] ["list", "len", "range"] [0,1,2,3,4,5,6,7,8,9,10] [5] [0,1,2] fun X S I hp=>
 (bg (b8 S false 4 (eD (b7 I.r) (Jb (av S 1) aT) cf)) (bg (b8 S true 5 (Ew (bQ (pW I.r) cf (av S 1)) (Ez S 0 rfl rfl I.e.n7 (av S 3) (d8 rfl)) (Ez S 0 rfl rfl I.e.n7 (av S 2) (d8 rfl)))) (bg (zi S 6 rfl rfl hp (d9 S 2 rfl rfl I.e.n3 (aP (eL S 1 I.e.n2 (aP (bo (av S 0) aT)))) (d8 rfl)) (bg (b8 S true 7 (hU .leaf tQ)) (bg (zi S 8 rfl rfl hp (d9 S 2 rfl rfl I.e.n3 (aP (eL S 1 I.e.n2 (aP (bo (av S 0) aT)))) (d8 rfl)) (bg (AO (vs':=[5,11]) (cs':=[5]) (lo':=[]) (gs':=[]) S false 9 .leaf 11 rfl rfl rfl rfl (by kernel_rfl) (by kernel_rfl) (by kernel_rfl) (fz (bo (bo (av S 0) aT) (av S 8))) (fun Y1 S1 F1=>have I:=F1.i I;nJ (bQ (b4 I.r) (av S1 11) (av S1 5))) (fun Y1 S1 F1=>have I:=F1.i I;(av S1 11)) (fun _=>rfl)) (bg (b8 S false 10 (Ew (iX (av S 4) (fun _=>rfl)) (eD (mq I.r) (eL S 1 I.e.n2 (aP (av S 9))) aT) (eD (b7 I.r) (eL S 1 I.e.n2 (aP (av S 9))) (eL S 1 I.e.n2 (aP (bo (bo (av S 0) aT) (av S 8))))))) (bg (cW (lq (zj (bQ (pW I.r) cf (av S 1)) (AN (lq (nM (bQ (b4 I.r) (av S 8) (av S 5)) (wV (lq (zj (bQ (b4 I.r) (av S 8) (av S 2)) (AN (iX (av S 10) (fun _=>rfl))))))))))) (eH (zm S 7 rfl rfl (av S 8) (d8 rfl) rfl rfl rfl rfl)) dB) (eH (cW (lq (zj (bQ (B3 I.r) cf (av S 1)) (zj (bQ (b4 I.r) (av S 8) (av S 5)) (AN (iX (av S 10) (fun _=>rfl)))))) (eH (zm S 7 rfl rfl (av S 8) (d8 rfl) rfl rfl rfl rfl)) dB))))) (fun _=>rfl)) (eH (b8 S true 5 (iY S 7 rfl rfl))))) (fun _=>rfl)) (bT (iY S 5 rfl rfl)))))
theorem jb (n:Nat):DefOk P w K mg base (2+n) "_law_holds" 2 (aO n):=by
 induction n with
 | zero=>exact K9 A.f36 qy
 | succ n ih=>exact mk (k:=2+n) A.f36 A.g ["world", "sentence"] qy ["word", "every", "one", "other", "room", "there"] ["len", "list", "range", "_law_holds", "all", "_law_time"] [0,1,2,3,4,5] [0,1,4,5] [0,1,2,3,5] fun X S I hp=>
  (bg (b8 S false 2 (bo (av S 1) aT)) (bg (b8 S false 3 (eJ S 1 2 rfl rfl I.e.n7 rfl rfl I.e.n3 (aP (eL S 0 I.e.n2 (aP (bo (av S 0) aT)))) (d8 rfl) (d8 rfl))) (bg (cW (bQ (b7 I.r) (av S 2) cf) (bT (av S 3)) dB) (bg (cW (bQ (b7 I.r) (av S 2) cf) (bT (fq [0,1,6] [0,1] [] S 6 (fz (av S 3)) (fun Y1 S1 F1=>have I:=F1.i I;nJ (bQ (b4 I.r) (bo (av S1 1) aT) (bo (bo (av S1 0) aT) (av S1 6)))) (fun Y1 S1 F1=>have I:=F1.i I;(av S1 6)))) dB) (bg (b8 S false 4 (bZ S 3 (I.c ih) (ba (av S 0) (aP (bo (av S 1) aT))))) (bg (b8 S false 5 (bZ S 3 (I.c ih) (ba (av S 0) (aP (bo (av S 1) (ud aT)))))) (bg (cW (bQ (b7 I.r) (av S 2) cf) (bT (fq [4,6] [4] [] S 6 (fz (av S 3)) (fun Y2 S2 F2=>have I:=F2.i I;nJ (bQ (AD I.r) (av S2 6) (av S2 4))) (fun Y2 S2 F2=>have I:=F2.i I;(av S2 6)))) dB) (bg (cW (bQ (b7 I.r) (av S 2) cf) (bT (fq [5,6] [5] [] S 6 (fz (av S 4)) (fun Y3 S3 F3=>have I:=F3.i I;nJ (bQ (b4 I.r) (av S3 6) (av S3 5))) (fun Y3 S3 F3=>have I:=F3.i I;(av S3 6)))) dB) (bg (cW (bQ (b7 I.r) (av S 2) cf) (bT (fq [4,5,6] [4,5] [] S 6 (fz (av S 3)) (fun Y4 S4 F4=>have I:=F4.i I;nJ (lq (nM (bQ (b4 I.r) (av S4 6) (av S4 4)) (wV (bQ (b4 I.r) (av S4 6) (av S4 5)))))) (fun Y4 S4 F4=>have I:=F4.i I;(av S4 6)))) dB) (bg (cW (bQ (b7 I.r) (av S 2) cf) (bT (fq [0,4,6] [0,4] [0] S 6 (fz (av S 3)) (fun Y5 S5 F5=>have I:=F5.i I;nJ (bQ (mq I.r) (eL S5 0 I.e.n2 (aP (fq [4,7] [4] [] S5 7 (fz (bo (bo (av S5 0) aT) (av S5 6))) (fun Y6 S6 F6=>have I:=F6.i I;nJ (bQ (b4 I.r) (av S6 7) (av S6 4))) (fun Y6 S6 F6=>have I:=F6.i I;(av S6 7))))) aT)) (fun Y5 S5 F5=>have I:=F5.i I;(av S5 6)))) dB) (bg (cW (bQ (b7 I.r) (av S 2) cf) (bT (fq [0,4,6] [0,4] [4] S 6 (fz (av S 3)) (fun Y7 S7 F7=>have I:=F7.i I;nJ (iX (ph S7 4 rfl rfl I.e.n1 (aP (fq [4,7] [4] [] S7 7 (fz (bo (bo (av S7 0) aT) (av S7 6))) (fun _ _ _=>ia) (fun Y8 S8 F8=>have I:=F8.i I;(eD (b4 I.r) (av S8 7) (av S8 4))))) (dC rfl) rfl) (fun _=>rfl))) (fun Y7 S7 F7=>have I:=F7.i I;(av S7 6)))) dB) (bT (bZ S 5 (I.c (mK A B)) (ba (av S 0) (ba (av S 2) (ba (av S 4) (aP (av S 5))))))))))))))))))
theorem Jm:DefOk P w K mg base 12 "_law_holds" 2 bx:=jb A B 10
theorem kD:DefOk P w K mg base 3 "_law_timed" 3 bJ:=mk A.f37 A.g ["cell", "one", "other"] w6 ["kind"] ["_law_draw"] [0,1,2,3] [] [0] fun X S I hp=>
 (bg (b8 S false 3 (bo (hU .leaf (ba cf (ba cf (ba cf (ba cf (ba cf (aP cf))))))) (bZ S 0 (I.c (wY A B)) (ba (av S 0) (ba aT (aP aT)))))) (bg (cW (bQ (pW I.r) cf (av S 3)) (bT (iW (ba (av S 3) (ba (av S 1) (aP (av S 2)))))) dB) (bT (iW (ba (av S 3) (aP (av S 1)))))))
theorem gM:DefOk P w K mg base 3 "_law_part" 1 bG:=mk A.f38 A.g ["cell"] o8 ["one", "other", "some"] ["_law_draw"] [0,1,2,3] [] [0] fun X S I hp=>
 (bg (b8 S false 1 (iW (ba cf (aP (bo cf (bZ S 0 (I.c (wY A B)) (ba (av S 0) (ba aT (aP aT))))))))) (bg (b8 S false 2 (iW (ba cf (aP (bo cf (bZ S 0 (I.c (wY A B)) (ba (av S 0) (ba aT (aP aT))))))))) (bg (b8 S false 3 (hU .leaf (ba (av S 1) (ba (iW (ba cf (aP (av S 1)))) (ba (iW (ba cf (ba (av S 1) (aP (iW (ba cf (aP (av S 2)))))))) (ba (iW (ba cf (ba (av S 1) (aP (av S 2))))) (ba (iW (ba cf (aP (av S 1)))) (aP (iW (aP cf)))))))))) (bT (bo (AK (av S 3) (hU .leaf (ba (iW (ba cf (aP (av S 2)))) (ba (av S 1) (aP (iW (ba cf (aP (iW (aP cf)))))))))) (bZ S 0 (I.c (wY A B)) (ba (av S 0) (ba aT (aP aT)))))))))
theorem kE:DefOk P w K mg base 13 "_law_along" 3 bX:=mk A.f39 A.g ["world", "sentence", "way"] w6 ["good", "rooms", "found", "ends", "k", "room"] ["_law_holds", "_law_place", "all", "len", "range"] [0,1,2,3,4,5,6] [0,1,3,4] [0,1,2,3,4] fun X S I hp=>
 (bg (b8 S false 3 (bZ S 0 (I.c (Jm A B)) (ba (av S 0) (aP (bo (av S 1) aT))))) (bg (b8 S false 4 (AK (bo (av S 2) aT) (bo (av S 2) aT))) (bg (cW (bQ (b4 I.r) (bo (av S 1) aT) (iW (ba cf (aP cf)))) (eH (b8 S false 5 (eD (b4 I.r) (bZ S 1 (I.c (fQ A B)) (ba (av S 2) (aP aT))) (av S 3)))) (eH (cW (bQ (pW I.r) cf (bo (av S 1) aT)) (eH (b8 S false 5 (ph S 2 rfl rfl I.e.n1 (aP (fq [3,8] [3] [] S 8 (fz (av S 4)) (fun _ _ _=>ia) (fun Y1 S1 F1=>have I:=F1.i I;(eD (b4 I.r) (av S1 8) (av S1 3))))) (dC rfl) rfl))) (bg (AO (vs':=[0,1,4,7]) (cs':=[0,1,4]) (lo':=[]) (gs':=[0]) S false 6 .leaf 7 rfl rfl rfl rfl (by kernel_rfl) (by kernel_rfl) (by kernel_rfl) (d9 S 4 rfl rfl I.e.n3 (aP (eL S 3 I.e.n2 (aP (av S 4)))) (d8 rfl)) (fun Y2 S2 F2=>have I:=F2.i I;nJ (bQ (b4 I.r) (bo (av S2 4) (av S2 7)) (bZ S2 0 (I.c (Jm A B)) (ba (av S2 0) (aP (bo (av S2 1) aT)))))) (fun Y2 S2 F2=>have I:=F2.i I;(av S2 7)) (fun _=>rfl)) (eH (b8 S false 5 (tR (eD (mq I.r) (eL S 3 I.e.n2 (aP (av S 6))) aT) (wW (ph S 2 rfl rfl I.e.n1 (aP (fq [3,8] [3] [] S 8 (fz (jB (av S 4) (bo (av S 6) aT))) (fun _ _ _=>ia) (fun Y3 S3 F3=>have I:=F3.i I;(eD (b4 I.r) (av S3 8) (av S3 3))))) (dC rfl) rfl))))))))) (bT (eD (b7 I.r) (av S 5) (eD (b7 I.r) (Jb (bo (av S 1) aT) aT) cf))))))
theorem iA:DefOk P w K mg base 37 "_law_met" 3 m__law_met:=Lv (p:=Gl) A.f40 A.g ["world", "sentence", "room"] w6 ["told", "e"] ["way_for", "HallError", "_law_which"] [0,1,2,3,4] [] [0,1,2] fun X S I st hp=>
 (bg (b8 S true 3 nI) (bg (EJ S st 4 1 (I.xt A.g.xt) (fun pins W=>have th:=JB (X:=X) (pins:=pins) (W:=W) ;have S:=S.try;have I:=I.try;(eH (b8 S true 3 (A6 S th 0 (I.x (oj A B)) (ba (av S 0) (ba (av S 1) (aP (av S 2)))))))) fun pins a C oe c hc hC hcl hd=>C3 S.hand rfl rfl (Df S st.1 st.2 (I.eE (jc A B)) I.rm rfl hc hC hcl hd rfl rfl 2 rfl rfl)) (bT (iY S 3 rfl rfl))))
end
section
variable {P:Program} {w:World} {K:Fg} {mg:Str->Option Value} (A:Al K mg)
include A
theorem o_law {fa:Addr} (hfa:mg "law"=some (.ref fa)):∃fd:FuncData,(∀(s:Shared) (v:Value),BindsTo s fd ⟨[v],[]⟩ [("script",v)])/\∀base:Heap,K.In base->base.Ns mainGlobals mg->dH P w K mg base ka 38 fa fd ["script"] (pG K 1 m_law):=Ke (p:=Gl) A.f41 A.g "script" o8 hfa ["world", "many", "sentence", "rooms", "handed", "room", "at", "one", "other", "found", "k", "kept"] ["_law_world", "_law_cell_at", "_law_draw", "range", "len", "_law_part", "_law_timed", "_law_holds", "_law_twin", "_law_met", "_law_is_way", "max", "_law_place", "_law_along", "repr"] [0,1,2,3,4,5,6,7,8,9,10,12] [] [0,1,2,3,4,5,6,7,8,9,10,11,12,13,14] fun base B X S I st hp=>
 (bg (b8 S false 1 (bZ S 0 (I.c (kB A B)) (ba (av S 0) (ba aT (aP aT))))) (bg (cW (bQ (b7 I.r) (bZ S 2 (I.c (wY A B)) (ba (bZ S 1 (I.c (AQ A B)) (ba (av S 0) (aP aT))) (ba aT (aP aT)))) aT) (bg (b8 S false 7 (bZ S 2 (I.c (wY A B)) (ba (bZ S 1 (I.c (AQ A B)) (ba (av S 0) (aP aT))) (ba aT (aP aT))))) (eH (b8 S false 1 (iW (ba (IT (hU .leaf (aP aT)) aT) (ba (AK (AK (IT (hU .leaf (aP (hU .leaf (aP cf)))) (av S 7)) (hU .leaf (aP (hU .leaf (aP cf))))) (IT (hU .leaf (aP (hU .leaf (aP cf)))) (IU aT (av S 7)))) (aP (fq [11] [] [] S 11 (d9 S 3 rfl rfl I.e.n3 (aP aT) (d8 rfl)) (fun _ _ _=>ia) (fun Y1 S1 F1=>(hU .leaf (aP (xm (qL (av S1 11) aT) aT)))))))))))) dB) (bg (b8 S false 2 (eL S 4 I.e.n2 (aP (bo (av S 1) aT)))) (bg (qP S 8 9 rfl rfl rfl rfl rfl rfl (by decide +kernel) rfl rfl rfl (ba (bZ S 5 (I.c (gM A B)) (aP (bZ S 1 (I.c (AQ A B)) (ba (av S 0) (aP aT))))) (aP (bZ S 5 (I.c (gM A B)) (aP (bZ S 1 (I.c (AQ A B)) (ba (av S 0) (aP aT))))))) rfl) (bg (b8 S false 3 (bZ S 6 (I.c (kD A B)) (ba (bZ S 1 (I.c (AQ A B)) (ba (av S 0) (aP aT))) (ba (av S 8) (aP (av S 9)))))) (bg (b8 S false 4 (bZ S 7 (I.c (Jm A B)) (ba (av S 1) (aP (av S 3))))) (bg (b8 S false 5 (bZ S 8 (I.c (mJ A B)) (aP (av S 1)))) (bg (zi S 6 rfl rfl hp (d9 S 3 rfl rfl I.e.n3 (aP (av S 2)) (d8 rfl)) (bg (b8 S true 10 (bZ S 9 (I.c (iA A B)) (ba (av S 5) (ba (av S 3) (aP (av S 6)))))) (bg (cW (bQ (ja I.r) (av S 5) (av S 1)) (bT qM) dB) (eH (cW (bQ (ja I.r) (eD (b4 I.r) (av S 6) (av S 4)) (eD (b7 I.r) (Jb (bo (av S 3) aT) aT) cf)) (eH (cW (bQ (ja I.r) (av S 10) cf) (bT qM) dB)) (eH (cW (lq (nM (sZ (iX (bZ S 10 (I.c (jh A B)) (ba (av S 1) (aP (av S 10)))) (fun _=>rfl))) (wV (bQ (mq I.r) (uf S 11 rfl rfl I.e.n10 (ba (eL S 4 I.e.n2 (aP (bo (av S 10) aT))) (aP (eL S 4 I.e.n2 (aP (bo (av S 10) aT))))) (dC rfl) rfl) (DY aT (av S 2)))))) (bT qM) (eH (cW (lq (nM (bQ (ja I.r) (bZ S 12 (I.c (fQ A B)) (ba (av S 10) (aP aT))) (av S 6)) (wV (sZ (iX (bZ S 13 (I.c (kE A B)) (ba (av S 1) (ba (av S 3) (aP (av S 10))))) (fun _=>rfl)))))) (bT qM) (bg (b8 S false 12 (jC S I.r I.rm.gd 14 rfl rfl I.e.n11 (av S 10) (d8 rfl) rfl)) (bg (jA S 10 0 rfl rfl rfl aT (fun _ _=>rfl) (d8 rfl) rfl rfl rfl rfl) (bg (jA S 10 1 rfl rfl rfl aT (fun _ _=>rfl) (d8 rfl) rfl rfl rfl rfl) (eH (cW (bQ (ja I.r) (jC S I.r I.rm.gd 14 rfl rfl I.e.n11 (bZ S 9 (I.c (iA A B)) (ba (av S 5) (ba (av S 3) (aP (av S 6))))) (d8 rfl) rfl) (av S 12)) (bT qM) dB))))))))))))) (fun _=>rfl)) (bT qM)))))))))
end
end KQ.M.A
open PySem PySem.W PyProof.Rows
def PySem.W.Fast.tw4147616937179396288:=0
def PySem.W.Fast.tw13314261277015874528:=0
def PySem.W.Fast.tw12236447152918986401:=0
def PySem.W.Fast.tw5052450606532481761:=0
def PySem.W.Fast.tw15470818951036089059:=0
def PySem.W.Fast.tw9948942905491343556:=0
def PySem.W.Fast.tw7804335680063992169:=0
def PySem.W.Fast.tw7683125043230343725:=0
def PySem.W.Fast.tw10144263515535795311:=0
def PySem.W.Fast.tw15469933505409327440:=0
def PySem.W.Fast.tw10008362144401417330:=0
def PySem.W.Fast.tw13632965432438207987:=0
def PySem.W.Fast.tw43506967520314131:=0
def PySem.W.Fast.tw17768679771541567190:=0
def PySem.W.Fast.tw9284244573693657626:=0
def PySem.W.Fast.tw15345838622222069436:=0
def PySem.W.Fast.tw6422920739871964060:=0
def PySem.W.Fast.tw18112770539598767645:=0
def PySem.W.Fast.tw9148573474234185150:=0
def PySem.W.Fast.tw18443670032222033951:=0
set_option maxRecDepth 100000 in
set_option maxHeartbeats 0 in
theorem PySem.Challenge.cw_foreseehall_k35_whole_ways_told_holds : PySem.Challenge.rw_foreseehall_k35_whole_ways_told.Holds := by
 w_on;o_law;k_head;(case hw=>w_witness2)
 k_fill
 refine T.walkG (j:=38) (l:=PySem.Challenge.rw_foreseehall_k35_whole_ways_told) KQ.M.A.law_true ⟨rfl,by decide,by decide,rfl⟩ rfl rfl (fun w h Y=>PySem.W.kIn_of Y) ?F
 case F=>
  intro w mg fa h KX G hmg;refine' KQ.M.A.o_law (.mk (.mk (T.gn KX G ?z0) (T.gn KX G ?z1) (T.gn KX G ?z2) (T.gn KX G ?z3) (T.gn KX G ?z4) (T.gn KX G ?z5) (T.gn KX G ?z6) (T.gn KX G ?z7) (T.gn KX G ?z8) (T.gn KX G ?z9) (T.gn KX G ?z10) (T.gn KX G ?z11) (T.gn KX G ?z12) (T.gt KX G ?e0 ?q0 ?v0) (T.gi KX G ?e1) (T.gt KX G ?e2 ?q2 ?v2) (T.gi KX G ?e3) (T.gi KX G ?e4) (T.gt KX G ?e5 ?q5 ?v5) (T.gt KX G ?e6 ?q6 ?v6) (T.gt KX G ?e7 ?q7 ?v7) (T.gt KX G ?e8 ?q8 ?v8) (T.gt KX G ?e9 ?q9 ?v9) (T.gd KX G ?x0 ?y0 ?w0) (T.gx KX G ?xt)) (T.ft KX G ?a0 ?l0 ?c0 ?k0) (T.ft KX G ?a1 ?l1 ?c1 ?k1) (T.ft KX G ?a2 ?l2 ?c2 ?k2) (T.ft KX G ?a3 ?l3 ?c3 ?k3) (T.ft KX G ?a4 ?l4 ?c4 ?k4) (T.ft KX G ?a5 ?l5 ?c5 ?k5) (T.ft KX G ?a6 ?l6 ?c6 ?k6) (T.ft KX G ?a7 ?l7 ?c7 ?k7) (T.ft KX G ?a8 ?l8 ?c8 ?k8) (T.ft KX G ?a9 ?l9 ?c9 ?k9) (T.ft KX G ?a10 ?l10 ?c10 ?k10) (T.ft KX G ?a11 ?l11 ?c11 ?k11) (T.ft KX G ?a12 ?l12 ?c12 ?k12) (T.ft KX G ?a13 ?l13 ?c13 ?k13) (T.ft KX G ?a14 ?l14 ?c14 ?k14) (T.ft KX G ?a15 ?l15 ?c15 ?k15) (T.ft KX G ?a16 ?l16 ?c16 ?k16) (T.ft KX G ?a17 ?l17 ?c17 ?k17) (T.ft KX G ?a18 ?l18 ?c18 ?k18) (T.ft KX G ?a19 ?l19 ?c19 ?k19) (T.ft KX G ?a20 ?l20 ?c20 ?k20) (T.ft KX G ?a21 ?l21 ?c21 ?k21) (T.ft KX G ?a22 ?l22 ?c22 ?k22) (T.ft KX G ?a23 ?l23 ?c23 ?k23) (T.ft KX G ?a24 ?l24 ?c24 ?k24) (T.ft KX G ?a25 ?l25 ?c25 ?k25) (T.ft KX G ?a26 ?l26 ?c26 ?k26) (T.ft KX G ?a27 ?l27 ?c27 ?k27) (T.ft KX G ?a28 ?l28 ?c28 ?k28) (T.ft KX G ?a29 ?l29 ?c29 ?k29) (T.ft KX G ?a30 ?l30 ?c30 ?k30) (T.ft KX G ?a31 ?l31 ?c31 ?k31) (T.ft KX G ?a32 ?l32 ?c32 ?k32) (T.ft KX G ?a33 ?l33 ?c33 ?k33) (T.ft KX G ?a34 ?l34 ?c34 ?k34) (T.ft KX G ?a35 ?l35 ?c35 ?k35) (T.ft KX G ?a36 ?l36 ?c36 ?k36) (T.ft KX G ?a37 ?l37 ?c37 ?k37) (T.ft KX G ?a38 ?l38 ?c38 ?k38) (T.ft KX G ?a39 ?l39 ?c39 ?k39) (T.ft KX G ?a40 ?l40 ?c40 ?k40) (T.ft KX G ?a41 ?l41 ?c41 ?k41) (T.ft KX G ?a42 ?l42 ?c42 ?k42)) hmg
  case a0|l0|c0|k0|a1|l1|c1|k1|a2|l2|c2|k2|a3|l3|c3|k3|a4|l4|c4|k4|a5|l5|c5|k5|a6|l6|c6|k6|a7|l7|c7|k7|a8|l8|c8|k8|a9|l9|c9|k9|a10|l10|c10|k10|a11|l11|c11|k11|a12|l12|c12|k12|a13|l13|c13|k13|a14|l14|c14|k14|a15|l15|c15|k15|a16|l16|c16|k16|a17|l17|c17|k17|a18|l18|c18|k18|a19|l19|c19|k19|a20|l20|c20|k20|a21|l21|c21|k21|a22|l22|c22|k22|a23|l23|c23|k23|a24|l24|c24|k24|a25|l25|c25|k25|a26|l26|c26|k26|a27|l27|c27|k27|a28|l28|c28|k28|a29|l29|c29|k29|a30|l30|c30|k30|a31|l31|c31|k31|a32|l32|c32|k32|a33|l33|c33|k33|a34|l34|c34|k34|a35|l35|c35|k35|a36|l36|c36|k36|a37|l37|c37|k37|a38|l38|c38|k38|a39|l39|c39|k39|a40|l40|c40|k40|a41|l41|c41|k41|a42|l42|c42|k42|z0|z1|z2|z3|z4|z5|z6|z7|z8|z9|z10|z11|z12|e0|q0=>k_is
  case v0=>kernel_rfl
  case e1|e2|q2=>k_is
  case v2=>kernel_rfl
  case e3|e4|e5|q5=>k_is
  case v5=>kernel_rfl
  case e6|q6=>k_is
  case v6=>kernel_rfl
  case e7|q7=>k_is
  case v7=>kernel_rfl
  case e8|q8=>k_is
  case v8=>kernel_rfl
  case e9|q9=>k_is
  case v9=>kernel_rfl
  case x0|y0=>k_is
  case w0|xt=>kernel_rfl
