import PyProof.Rows.All
import Wide.All
import OpenK.AllK
import Wide.FinOn
import PyProof.EqAt
import PyProof.EqKinds
import PyProof.TupleCall
import PyProof.StrBlockH
import PyProof.StrWalks
import PyProof.StrCalls
import PyProof.StrCalls2
import PyProof.PureStr
import PyProof.FString
import PyProof.StrLawsIdx
import PyProof.SetRoads
import PyProof.DictRoadsH
import Lean
import PySem.Challenge.RW_foreseehall_k21_papers_told
open List (mem_append_right mem_append_left getElem?_eq_getElem mem_cons_of_mem mem_cons_self length_map append_assoc getElem?_map length_set getD_eq_getElem?_getD mem_of_getElem? getElem?_set_ne map_cons size_toArray length_cons getElem?_set_self length_append mem_cons not_mem_nil getElem?_append_left getElem_mem nodup_nil set_set map_map getElem?_append_right lookup_cons length_filter_le nil_append append_nil getElem?_eq_none contains_iff_mem flatten_cons all_eq_true length_singleton any_eq_true getElem_of_mem ext_getElem? filter_cons pairwise_map length_drop perm_append_comm getElem?_toArray mem_range mem_map mem_filter length_take getElem?_replicate length_nil sum_cons flatten_append map_nil forIn_nil getElem?_set drop_eq_getElem_cons take_of_length_le exists_mem_of_ne_nil)
set_option Elab.async false
set_option linter.all false
set_option maxRecDepth 100000
set_option maxHeartbeats 4000000
set_option maxRecDepth 10000
abbrev Fg:=PySem.W.Frag
abbrev G7 (i:Nat):PySem.Stmt:=(PySem.Challenge.pw_foreseehall_k21_papers_told.main.body)[i]!
theorem Jv {α:Type _} {a:α} (s:List α) {t:List α} (h:a∈t):a∈s++t:=List.mem_append_right s h
theorem Jw {α:Type _} {a:α} {s:List α} (t:List α) (h:a∈s):a∈s++t:=List.mem_append_left t h
theorem Jx {α:Type _} {a:α} {s t:List α} (h:a∈s++t):a∈s\/a∈t:=List.mem_append.mp h
theorem Jy {α:Type _} {a b:α} {t:List α} (h:a∈b::t):a=b\/a∈t:=List.mem_cons.mp h
theorem Jz {α:Type _} {l:List α} {i:Nat} (h:i<l.length):l[i]?=some l[i]:=List.getElem?_eq_getElem h
theorem JA {α:Type _} {l:List α} {i:Nat} {a:α}:l.getD i a=l[i]?.getD a:=List.getD_eq_getElem?_getD
theorem JB {α:Type _} (y:α) {a:α} {l:List α} (h:a∈l):a∈y::l:=List.mem_cons_of_mem y h
abbrev JC {α:Type _} {a b:List α}:=(List.nodup_append (l₁:=a) (l₂:=b)).mp
abbrev JD {α:Type _} {a:α} {l:List α} {i:Nat}:=(List.getElem?_eq_some_iff (l:=l) (i:=i) (a:=a)).mp
abbrev JE:=@PySem.wpAny_bind
abbrev JF:=@PySem.wpAny_pure
abbrev JG:=@PySem.Heap.get?_push_of_some
abbrev JH:=@Nat.le_refl
abbrev JI:=PySem.PyData
namespace L2
open PySem PySem.Spec PyProof.Rows
abbrev kN:=Sum Int Str
noncomputable def yJ:kN->Value->Bool
 | .inl k,v=>Value.isInt k v
 | .inr x,v=>Value.isStrOf x v
noncomputable def A5 (w:World):kN->Int
 | .inl k=>hashInt k
 | .inr x=>hashStr w x
theorem vK:∀{k:kN} {v:Value},yJ k v=true->(∃i t,k=Sum.inl i/\v=Value.int i t)\/(∃x t,k=Sum.inr x/\v=Value.str x t)
 | .inl i,v,h=>by
  obtain ⟨t,e⟩:=Value.isInt_shape (k:=i) (v:=v) h
  exact .inl ⟨i,t,rfl,e⟩
 | .inr x,v,h=>by
  obtain ⟨t,e⟩:=Value.isStrOf_shape (x:=x) (v:=v) h
  exact .inr ⟨x,t,rfl,e⟩
theorem AZ (a b:Int):decide ((Sum.inl a:kN)=Sum.inl b)=(a==b):=by
 by_cases e:a=b
 ·subst e;simp
 ·have h:¬(Sum.inl a:kN)=Sum.inl b:=fun q=>e (Sum.inl.inj q)
  rw [decide_eq_false h];exact (beq_eq_false_iff_ne.mpr e).symm
theorem AW (a b:Str):decide ((Sum.inr a:kN)=Sum.inr b)=decide (a=b):=by
 by_cases e:a=b
 ·subst e;simp
 ·have h:¬(Sum.inr a:kN)=Sum.inr b:=fun q=>e (Sum.inr.inj q)
  rw [decide_eq_false h,decide_eq_false e]
theorem AY (a:Int) (b:Str):decide ((Sum.inl a:kN)=Sum.inr b)=false:=decide_eq_false (fun q=>nomatch q)
theorem AX (a:Str) (b:Int):decide ((Sum.inr a:kN)=Sum.inl b)=false:=decide_eq_false (fun q=>nomatch q)
noncomputable def ly (prog:Program) (w:World):PySem.KeyKind prog w kN where
 is:=yJ
 hash:=A5 w
 inj:=fun v a b ha hb=>by
  rcases vK ha with ⟨i,t,rfl,rfl⟩ | ⟨x,t,rfl,rfl⟩
  ·rcases vK hb with ⟨j,u,rfl,e⟩ | ⟨y,u,rfl,e⟩
   ·injection e with e1 _;rw [e1]
   ·exact nomatch e
  ·rcases vK hb with ⟨j,u,rfl,e⟩ | ⟨y,u,rfl,e⟩
   ·exact nomatch e
   ·injection e with e1 _;rw [e1]
 byValue:=fun k v h=>by
  rcases vK h with ⟨i,t,rfl,rfl⟩ | ⟨x,t,rfl,rfl⟩<;>rfl
 pyHash:=fun hv h=>by
  rcases vK hv with ⟨i,t,rfl,rfl⟩ | ⟨x,t,rfl,rfl⟩
  ·exact wpAny_pyHash_int h
  ·exact wpAny_pyHash_str h
 eqBool:=fun hu hv h=>by
  rcases vK hu with ⟨i,t,rfl,rfl⟩ | ⟨x,t,rfl,rfl⟩
  ·rcases vK hv with ⟨j,u,rfl,rfl⟩ | ⟨y,u,rfl,rfl⟩
   ·rw [AZ] at h;exact wpAny_eqBool_int h
   ·rw [AY] at h;exact SeqAt.EqAt.int_str i t y u _ _ _ _ h
  ·rcases vK hv with ⟨j,u,rfl,rfl⟩ | ⟨y,u,rfl,rfl⟩
   ·rw [AX] at h;exact SeqAt.EqAt.str_int x t j u _ _ _ _ h
   ·rw [AW] at h;exact wpAny_eqBool_str h
 «strs»:=fun k x t v h=>by
  rcases vK h with ⟨i,u,rfl,e⟩ | ⟨y,u,rfl,e⟩
  ·exact nomatch e
  ·injection e with e1 _
   subst e1
   cases v<;>rfl
inductive V where
 | non | bl (b:Bool) | int (i:Int) | str (x:Str) | byt (b:Array UInt8) | flt (b:UInt64) | ref (a:Addr) | ty (n:String)
 deriving DecidableEq
noncomputable def RelV:V->Value->Prop
 | .non,u=>u=Value.none
 | .bl b,u=>u=Value.bool b
 | .int i,u=>∃t,u=Value.int i t
 | .str x,u=>∃t,u=Value.str x t
 | .byt b,u=>∃t,u=Value.bytes b t
 | .flt b,u=>∃t,u=Value.float b t
 | .ref a,u=>u=Value.ref a
 | .ty n,u=>u=Value.type n
noncomputable abbrev Vals:List V->List Value->Prop:=Paired RelV
theorem Vals.length {xs:List V} {us:List Value} (r:Vals xs us):xs.length=us.length:=Paired.length r
theorem Vals.get:∀{xs:List V} {us:List Value} {i:Nat} {x:V},Vals xs us->xs[i]?=some x->∃u,us[i]?=some u/\RelV x u
 | _,_,_,_,.nil,e=>by simp at e
 | _,_,0,_,.cons r _,e=>by simp at e;subst e;exact ⟨_,rfl,r⟩
 | _,_,i+1,x,.cons _ t,e=>by
  obtain ⟨u,h1,h2⟩:=Vals.get (i:=i) (x:=x) t (by simpa using e)
  exact ⟨u,by simpa using h1,h2⟩
theorem Vals.set {x:V} {u:Value} (r:RelV x u):∀{xs:List V} {us:List Value} (i:Nat),Vals xs us->Vals (xs.set i x) (us.set i u)
 | _,_,_,.nil=>.nil
 | _,_,0,.cons _ t=>.cons r t
 | _,_,i+1,.cons q t=>.cons q (Vals.set r i t)
theorem Vals.append:∀{xs ys:List V} {us ws:List Value},Vals xs us->Vals ys ws->Vals (xs++ys) (us++ws)
 | _,_,_,_,.nil,s=>s
 | _,_,_,_,.cons r t,s=>.cons r (Vals.append t s)
theorem Vals.take:∀{xs:List V} {us:List Value} (n:Nat),Vals xs us->Vals (xs.take n) (us.take n)
 | _,_,0,_=>.nil
 | _,_,_+1,.nil=>.nil
 | _,_,n+1,.cons r t=>.cons r (Vals.take n t)
theorem Vals.drop:∀{xs:List V} {us:List Value} (n:Nat),Vals xs us->Vals (xs.drop n) (us.drop n)
 | _,_,0,r=>r
 | _,_,_+1,.nil=>.nil
 | _,_,n+1,.cons _ t=>Vals.drop n t
noncomputable def BK:Option V->Option Value->Prop
 | some v,some u=>RelV v u
 | none,none=>True
 | _,_=>False
noncomputable def KV {κ:Type}:List (κ×V)->List (κ×Value)->Prop:=Paired fun (p:κ×V) (q:κ×Value)=>p.1=q.1/\RelV p.2 q.2
noncomputable def kV:kN->V
 | .inl i=>.int i
 | .inr x=>.str x
inductive HO where
 | lst (xs:List V)
 | tup (xs:List V)
 | dK (kvs:List (kN×V)) | dT (kvs:List (List kN×V))
 | set (S:Int->Bool) (n:Nat)
 | ins (C dx:Addr) (fs:List (Str×V))
 | own (x:Addr)
 | xd (fs:List (Str×V))
 | met (f x:Addr)
 | rng (lo hi:Int)
 | frz (o:Obj) (u:HO)
 | tbl (ps:Array Value)
 | ext (φ:Heap->Prop)
abbrev Hp:=Addr->Option HO
noncomputable def b9 (H:Hp) (a:Addr) (o:HO):Hp:=fun b=>if b=a then some o else H b
theorem g6 {H:Hp} {a:Addr} {o:HO}:b9 H a o a=some o:=by unfold b9;rw [if_pos rfl]
theorem e9 {H:Hp} {a b:Addr} {o:HO} (h:b≠a):b9 H a o b=H b:=by unfold b9;rw [if_neg h]
theorem vw {H:Hp} {a b:Addr} {o:HO} (h:H a=some o) (h':H b=none):a≠b:=by
 intro e;subst e;rw [h] at h';cases h'
section
variable (P:Program) (w:World)
noncomputable def ObjOk (H:Hp) (h:Heap) (a:Addr):HO->Prop
 | .lst xs=>xs.length<=sizeLine/\∃(its:List Value) (n:Nat),Vals xs its/\h.get? a=some { cls:=.type "list",data:=.seq its.toArray n }
 | .tup xs=>xs.length<=sizeLine/\∃its:List Value,Vals xs its/\IsTup h a its.toArray
 | .dK kvs=>kvs.length<=sizeLine/\(a==sysModules)=false/\∃vs,KV kvs vs/\h.DictOf (ly P w) a vs
 | .dT kvs=>kvs.length<=sizeLine/\(a==sysModules)=false/\∃xs:List (List kN×Addr×Value),
   Paired (fun (p:List kN×V) (q:List kN×Addr×Value)=>p.1=q.1/\H q.2.1=some (.tup (p.1.map kV))/\RelV p.2 q.2.2) kvs xs /\
   ∃o es ep,h.get? a=some o/\o.ExactDict/\o.data=.dict es ep/\es.toList=xs.map (entryOfKey (tupleKind (ly P w)))/\(xs.map (·.1)).Nodup
 | .set S n=>h.SetOf (intKind P w) a S n
 | .ins C dx fs=>H dx=some (.own a)/\fs.length<=1000/\dx≠a/\h.get? a=some (PySem.W.instObj C dx) /\
   ∃mA,h.Ns1 dx mA/\(∀f,BK (fs.lookup f) (mA f))/\PySem.Within mA (fs.map (·.1))
 | .own _=>∃o,h.get? a=some o
 | .xd fs=>∃mA,h.Ns1 a mA/\∀f,BK (fs.lookup f) (mA f)
 | .rng lo hi=>∃t u v,h.get? a=some { cls:=.type "range",data:=.fields #[.int lo t,.int hi u,.int 1 v] }
 | .frz o u=>h.get? a=some o/\ObjOk H h a u
 | .tbl ps=>h.get? a=some { cls:=.none,data:=.fields ps }
 | .met f x=>h.get? a=some (PySem.W.methodObj (.ref f) (.ref x))
 | .ext φ=>φ h/\(∃o,h.get? a=some o)/\∀h1 h2:Heap,φ h1->(∀o,h1.get? a=some o->h2.get? a=some o)->φ h2
noncomputable def HOk (H:Hp) (h:Heap):Prop:=∀a o,H a=some o->ObjOk P w H h a o
end
section
variable {P:Program} {w:World} {H H':Hp} {h h':Heap} {a:Addr} {o:HO}
theorem ObjOk.lt (x:ObjOk P w H h a o):a<h.objs.size:=by
 cases o with
 | lst xs=>obtain ⟨_,_,_,_,e⟩:=x;exact Heap.lt_size e
 | tup xs=>obtain ⟨_,_,_,p⟩:=x;exact p.lt
 | dK kvs=>obtain ⟨_,_,_,_,o,_,_,e,_⟩:=x;exact Heap.lt_size e
 | dT kvs=>obtain ⟨_,_,_,_,o,_,_,e,_⟩:=x;exact Heap.lt_size e
 | set S n=>obtain ⟨o,_,_,_,e,_⟩:=x;exact Heap.lt_size e
 | ins C dx fs=>obtain ⟨_,_,_,e,_⟩:=x;exact Heap.lt_size e
 | own y=>obtain ⟨_,e⟩:=x;exact Heap.lt_size e
 | xd fs=>obtain ⟨_,⟨_,_,_,e,_⟩,_⟩:=x;exact Heap.lt_size e
 | rng lo hi=>obtain ⟨_,_,_,e⟩:=x;exact Heap.lt_size e
 | frz ob u=>obtain ⟨e,_⟩:=x;exact Heap.lt_size e
 | tbl ps=>exact Heap.lt_size (show h.get? a=some _ from x)
 | met f y=>exact Heap.lt_size (show h.get? a=some _ from x)
 | ext φ=>obtain ⟨_,⟨_,e⟩,_⟩:=x;exact Heap.lt_size e
theorem Paired.mapP {α β:Type} {F G:α->β->Prop}:∀{l₁:List α} {l₂:List β},Paired F l₁ l₂->(∀a b,F a b->G a b)->Paired G l₁ l₂
 | _,_,.nil,_=>.nil
 | _,_,.cons r t,f=>.cons (f _ _ r) (Paired.mapP t f)
theorem ObjOk.stay (x:ObjOk P w H h a o) (k:∀b u,(b=a\/H b=some (.own a))->h.get? b=some u->h'.get? b=some u)
  (ho:∀b,H b=some (.own a)->H' b=some (.own a)) (ht:∀b xs,H b=some (.tup xs)->H' b=some (.tup xs)):ObjOk P w H' h' a o:=by
 induction o with
 | lst xs=>obtain ⟨z,its,n,r,e⟩:=x;exact ⟨z,its,n,r,k _ _ (.inl rfl) e⟩
 | tup xs=>obtain ⟨z,its,r,ob,e,c⟩:=x;exact ⟨z,its,r,ob,k _ _ (.inl rfl) e,c⟩
 | dK kvs=>obtain ⟨z,y,vs,r,ob,es,ep,e,c⟩:=x;exact ⟨z,y,vs,r,ob,es,ep,k _ _ (.inl rfl) e,c⟩
 | dT kvs=>
  obtain ⟨z,y,xs,r,ob,es,ep,e,c⟩:=x;exact ⟨z,y,xs,Paired.mapP r fun p q z=>⟨z.1,ht _ _ z.2.1,z.2.2⟩,ob,es,ep,k _ _ (.inl rfl) e,c⟩
 | set S n=>obtain ⟨ob,es,ep,t,e,c⟩:=x;exact ⟨ob,es,ep,t,k _ _ (.inl rfl) e,c⟩
 | ins C dx fs=>
  obtain ⟨d,z,ne,e,mA,⟨od,es,ep,e2,c⟩,r⟩:=x;exact ⟨ho _ d,z,ne,k _ _ (.inl rfl) e,mA,⟨od,es,ep,k _ _ (.inr d) e2,c⟩,r⟩
 | own y=>obtain ⟨ob,e⟩:=x;exact ⟨ob,k _ _ (.inl rfl) e⟩
 | xd fs=>obtain ⟨mA,⟨od,es,ep,e,c⟩,r⟩:=x;exact ⟨mA,⟨od,es,ep,k _ _ (.inl rfl) e,c⟩,r⟩
 | rng lo hi=>obtain ⟨t,u,v,e⟩:=x;exact ⟨t,u,v,k _ _ (.inl rfl) e⟩
 | frz ob u ih=>obtain ⟨e,q⟩:=x;exact ⟨k _ _ (.inl rfl) e,ih q⟩
 | tbl ps=>
  have e:h.get? a=some { cls:=.none,data:=.fields ps }:=x
  show h'.get? a=some { cls:=.none,data:=.fields ps }
  exact k a _ (.inl rfl) e
 | met f y=>
  have e:h.get? a=some (PySem.W.methodObj (.ref f) (.ref y)):=x
  show h'.get? a=some (PySem.W.methodObj (.ref f) (.ref y))
  exact k a _ (.inl rfl) e
 | ext φ=>obtain ⟨p,⟨o,e⟩,st⟩:=x;exact ⟨st _ _ p fun o q=>k _ _ (.inl rfl) q,⟨o,k _ _ (.inl rfl) e⟩,st⟩
theorem HOk.lt (x:HOk P w H h) (e:H a=some o):a<h.objs.size:=(x a o e).lt
theorem HOk.fresh (x:HOk P w H h) (e:h.objs.size<=a):H a=none:=by
 cases q:H a with
 | none=>rfl
 | some u=>exact absurd (Nat.lt_of_lt_of_le (x.lt q) e) (Nat.lt_irrefl _)
theorem HOk.kept (x:HOk P w H h) (k:∀b u,h.get? b=some u->h'.get? b=some u):HOk P w H h':=fun a o e=>
 (x a o e).stay (fun b u _ q=>k b u q) (fun _ q=>q) fun _ _ q=>q
theorem HOk.laid (x:HOk P w H h) (k:∀b u,h.get? b=some u->h'.get? b=some u) (hp:h.objs.size<=a) (new:ObjOk P w (b9 H a o) h' a o):HOk P w (b9 H a o) h':=fun b u e=>by
 have hn:=x.fresh hp
 by_cases hb:b=a
 ·subst hb;rw [g6] at e;cases e;exact new
 ·rw [e9 hb] at e
  exact (x b u e).stay (fun c v _ q=>k c v q) (fun c q=>by rw [e9 (vw q hn)];exact q) fun c xs q=>by rw [e9 (vw q hn)];exact q
end
noncomputable def Rd (H:Hp) (a:Addr) (u:HO):Prop:=H a=some u\/∃o,H a=some (.frz o u)
theorem Rd.ok {P:Program} {w:World} {H:Hp} {h:Heap} {a:Addr} {u:HO} (r:Rd H a u) (x:HOk P w H h):ObjOk P w H h a u:=by
 rcases r with r | ⟨o,r⟩
 ·exact x a u r
 ·obtain ⟨_,q⟩:=x a _ r
  exact q
noncomputable def Fl:Option HO->Prop
 | some (.lst _)=>True
 | some (.dK _)=>True
 | some (.dT _)=>True
 | some (.set _ _)=>True
 | some (.ins _ _ _)=>True
 | some (.ext _)=>True
 | _=>False
section
variable {P:Program} {w:World} {H:Hp} {h h':Heap} {x e:Addr} {o':HO}
theorem HOk.write (ok:HOk P w H h) (mu:Fl (H x)) (he:e=x\/H e=some (.own x)) (k:∀b u,b≠e->h.get? b=some u->h'.get? b=some u) (heo:∃u,h'.get? e=some u)
  (new:ObjOk P w (b9 H x o') h' x o'):HOk P w (b9 H x o') h':=fun b u q=>by
 have nown:∀c y,H c=some (.own y)->c≠x:=fun c y r z=>by subst z;rw [r] at mu;exact mu
 have ntup:∀c xs,H c=some (.tup xs)->c≠x:=fun c xs r z=>by subst z;rw [r] at mu;exact mu
 by_cases hb:b=x
 ·subst hb;rw [g6] at q;cases q;exact new
 ·rw [e9 hb] at q
  by_cases hbe:b=e
  ·have q':H b=some (.own x):=by
    rcases he with z | z
    ·exact absurd (hbe.trans z) hb
    ·rw [hbe];exact z
   rw [q] at q';cases q'
   obtain ⟨v,hv⟩:=heo;exact ⟨v,by rw [hbe];exact hv⟩
  ·refine (ok b u q).stay (fun c v hc r=>k c v ?_ r) (fun c r=>by rw [e9 (nown c b r)];exact r) fun c xs r=>by rw [e9 (ntup c xs r)];exact r
   rcases hc with rfl | hc
   ·exact hbe
   ·rintro rfl
    rcases he with z | z
    ·exact nown c b hc z
    ·rw [hc] at z;cases z;exact hb rfl
end
structure Un (fs ex:List Addr) (H H':Hp) (h h':Heap):Prop where
 keep:∀b o,h.get? b=some o->H b=none->b∉fs->b∉ex->h'.get? b=some o
 slot:∀b o,h.get? b=some o->H b=none->b∈fs->b∉ex->∃sl,h'.get? b=some { o with slots:=sl }
 free:∀b o,h.get? b=some o->H b=none->b∉ex->H' b=none
 there:∀b o,h.get? b=some o->b∉ex->∃o',h'.get? b=some o'
 tups:∀b xs,H b=some (.tup xs)->H' b=some (.tup xs)
 frzs:∀b o u,H b=some (.frz o u)->H' b=some (.frz o u)
 tbls:∀b ps,H b=some (.tbl ps)->∃more,H' b=some (.tbl (ps++more))
section
variable {fs fs' ex ex':List Addr} {H H1 H2:Hp} {h h1 h2 h':Heap} {a x e:Addr} {o:HO}
theorem Un.any (u:Un fs ex H H1 h h1) {b:Addr} {ob:Obj} (q:h.get? b=some ob) (n:H b=none) (hx:b∉ex):∃sl,h1.get? b=some { ob with slots:=sl }:=by
 by_cases hb:b∈fs
 ·exact u.slot b ob q n hb hx
 ·exact ⟨ob.slots,u.keep b ob q n hb hx⟩
theorem Un.kept (k:∀b u,h.get? b=some u->h'.get? b=some u):Un fs ex H H h h':=
 ⟨fun b ob q _ _ _=>k b ob q,fun b ob q _ _ _=>⟨ob.slots,k b ob q⟩,fun _ _ _ n _=>n,fun b ob q _=>⟨ob,k b ob q⟩,fun _ _ q=>q,fun _ _ _ q=>q,fun _ ps q=>⟨#[],by rw [q];simp⟩⟩
theorem Un.refl:Un fs ex H H h h:=Un.kept fun _ _ q=>q
theorem Un.laid (k:∀b u,h.get? b=some u->h'.get? b=some u) (hp:h.objs.size<=a) (hn:H a=none):Un fs ex H (b9 H a o) h h' where
 keep:=fun b u q _ _ _=>k b u q
 slot:=fun b u q _ _ _=>⟨u.slots,k b u q⟩
 free:=fun b u q n _=>by rw [e9 (Nat.ne_of_lt (Nat.lt_of_lt_of_le (Heap.lt_size q) hp))];exact n
 there:=fun b u q _=>⟨u,k b u q⟩
 tups:=fun b xs q=>by rw [e9 (vw q hn)];exact q
 frzs:=fun b u xs q=>by rw [e9 (vw q hn)];exact q
 tbls:=fun b ps q=>⟨#[],by rw [e9 (vw q hn),q];simp⟩
theorem Un.write (mu:Fl (H x)) (he:e=x\/H e=some (.own x)) (k:∀b u,b≠e->h.get? b=some u->h'.get? b=some u) (heo:∃u,h'.get? e=some u):Un fs ex H (b9 H x o) h h':=by
 have hx:∀b,H b=none->b≠x:=fun b n z=>by subst z;rw [n] at mu;exact mu
 have hb:∀b,H b=none->b≠e:=fun b n z=>by
  subst z;rcases he with r | r
  ·exact hx b n r
  ·rw [n] at r;cases r
 have hm:∀b u,H b=some u->¬Fl (some u)->b≠x:=fun b u q nm z=>by subst z;rw [q] at mu;exact nm mu
 refine ⟨fun b u q n _ _=>k b u (hb b n) q,fun b u q n _ _=>⟨u.slots,k b u (hb b n) q⟩,fun b u q n _=>by rw [e9 (hx b n)];exact n,fun b u q _=>?_,
  fun b xs q=>by rw [e9 (hm b _ q fun z=>z)];exact q,fun b u xs q=>by rw [e9 (hm b _ q fun z=>z)];exact q,fun b ps q=>⟨#[],by rw [e9 (hm b _ q fun z=>z),q];simp⟩⟩
 by_cases hbe:b=e
 ·subst hbe;exact heo
 ·exact ⟨u,k b u hbe q⟩
end
noncomputable def EH (h:Heap) (H:Hp):List Addr:=(List.range h.objs.size).filter fun a=>(H a).isSome
noncomputable def lz (h:Heap) (H:Hp):Heap:=PySem.W.hideAll h (EH h H)
theorem rE (h:Heap) (H:Hp):(lz h H).objs.size=h.objs.size:=PySem.W.hideAll_size _ _
theorem uJ {h:Heap} {H:Hp} {b:Addr} {o:Obj} (e:h.get? b=some o) (n:H b=none):(lz h H).get? b=some o:=
 PySem.W.hideAll_get _ e fun hm=>by
  have q:(H b).isSome=true:=(List.mem_filter.mp hm).2
  rw [n] at q;simp at q
theorem w4 {h:Heap} {H:Hp} {b:Addr} {o:Obj} (e:(lz h H).get? b=some o):h.get? b=some o/\H b=none:=by
 have e':h.get? b=some o:=PySem.W.of_hideAll (EH h H) e
 refine ⟨e',?_⟩
 cases q:H b with
 | none=>rfl
 | some x=>
  have hm:b∈EH h H:=List.mem_filter.mpr ⟨List.mem_range.mpr (Heap.lt_size e'),by simp [q]⟩
  have z:(lz h H).get? b=none:=PySem.W.hideAll_none (EH h H) hm
  rw [z] at e;cases e
noncomputable def yb (g h:Heap) (L:Addr):List (Addr×Obj):=(List.range h.objs.size).filterMap fun a=>if a=L\/(g.get? a).isSome=true then none else (h.get? a).map fun o=>(a,o)
noncomputable def rest (g h:Heap) (L d:Addr):List (Addr×Obj):=(yb g h L).filter fun p=>decide (p.1≠d)
structure Mod (K:Fg) (mg:Str->Option Value) (base:Heap):Prop where
 kin:K.In base
 glob:base.Ns mainGlobals mg
 blt:∃mb,base.Ns builtinsNs mb/\∀x:Str,x ≠ "__name__"->mb x=bootBuiltins x
 nolimit:base.NoLimit
structure Cx where
 prog:Program
 w:World
 K:Fg
 mg:Str->Option Value
 base:Heap
 A:Around
 N:List Str
 s₀:Shared
 H₀:Hp
 env:Env
 outer:List Env
 stack:List Env
 ex:List Addr
 fn:Str->Bool
 calm:Bool
 pn:List (Addr×Obj)
 xe:Value->Shared->Prop
noncomputable def uS (l:List Env):List Addr:=l.filterMap (·.frame)
noncomputable abbrev Cx.fs (X:Cx):List Addr:=uS X.outer
noncomputable def BG (sc:Scope) (x:Str):Prop:=sc.names.lookup x=some .local\/sc.names.lookup x=some .cell\/sc.names.lookup x=some .free
noncomputable def Loc (sc:Scope) (x:Str):Prop:=sc.names.lookup x=some .local\/sc.names.lookup x=some .cell
noncomputable def Look (env:Env) (h:Heap) (m:Str->Option Value) (x:Str) (u:Value):Prop:=
 (env.kindOf x=some .local/\m x=some u)\/((env.kindOf x=some .cell\/env.kindOf x=some .free)/\∃c,env.cells.lookup x=some c/\h.IsCell c (some u))
structure Cx.Ok (X:Cx):Prop where
 mod:Mod X.K X.mg X.base
 kind:X.env.scope.kind=.function
 glob:X.env.globals=mainGlobals
 blt:X.env.builtins=builtinsNs
 above:X.s₀.heap.objs.size<=X.env.locals
 inj:∀x y c,X.env.cells.lookup x=some c->X.env.cells.lookup y=some c->x=y
 has:∀x,(X.env.kindOf x=some .cell\/X.env.kindOf x=some .free)->∃c,X.env.cells.lookup x=some c
 cab:∀x c,X.fn x=true->X.env.cells.lookup x=some c->X.s₀.heap.objs.size<=c
 hd:X.calm=true->X.A.handled=none
 frames:X.A.frames=some X.stack
 stk:X.stack=X.outer\/(X.stack=X.env::X.outer/\X.env.frame=some X.env.locals)
 exf:∀b∈X.ex,b≠X.env.locals/\∀x c,X.env.cells.lookup x=some c->c≠b
 bs:∀b o,X.base.get? b=some o->X.s₀.heap.get? b=some o/\X.H₀ b=none
 bsz:X.base.objs.size<=X.s₀.heap.objs.size
 noex:∀b o,X.base.get? b=some o->b∉X.ex
 exfs:∀b∈X.ex,b∉X.fs
 funs:X.s₀.heap.FunFrames X.base X.outer
 frf:∀b∈X.fs,X.H₀ b=none
structure Inv (X:Cx) (pins:List (Addr×Obj)) (σ:List (Option V)) (H:Hp) (s:Shared):Prop where
 ok:X.Ok
 os:s.os=X.s₀.os
 bare:AllBare s.gens
 base:Un X.fs X.ex X.H₀ H X.s₀.heap s.heap
 loc:∃m,s.heap.Ns X.env.locals m/\∀(i:Nat) (x:Str) (v:V),X.N[i]?=some x->σ[i]?=some (some v)->BG X.env.scope x->∃u,RelV v u/\Look X.env s.heap m x u
 cell:∀x c,X.env.cells.lookup x=some c->∃v,s.heap.IsCell c v
 free:H X.env.locals=none
 freeC:∀x c,X.env.cells.lookup x=some c->H c=none
 pin:∀p∈X.pn++pins,s.heap.get? p.1=some p.2/\H p.1=none/\p.1≠X.env.locals/\p.1∉X.fs/\∀v,p.2.data≠.cell v
 hok:HOk X.prog X.w H s.heap
 len:σ.length=X.N.length
section
variable {X:Cx} {pins:List (Addr×Obj)} {σ:List (Option V)} {H H':Hp} {s:Shared} {h':Heap}
theorem Cx.Ok.nofr (ok:X.Ok) {b:Addr} {o:Obj} (e:X.base.get? b=some o):b∉X.fs:=fun hb=>by
 have:=(ok.funs.mem hb).1
 rw [e] at this;cases this
theorem Inv.bs (I:Inv X pins σ H s):∀b o,X.base.get? b=some o->s.heap.get? b=some o/\H b=none:=fun b o e=>
 ⟨I.base.keep b o (I.ok.bs b o e).1 (I.ok.bs b o e).2 (I.ok.nofr e) (I.ok.noex b o e),I.base.free b o (I.ok.bs b o e).1 (I.ok.bs b o e).2 (I.ok.noex b o e)⟩
theorem Inv.bk (I:Inv X pins σ H s):∀b o,X.base.get? b=some o->s.heap.get? b=some o:=fun b o e=>(I.bs b o e).1
theorem Inv.mod (I:Inv X pins σ H s):Mod X.K X.mg X.base:=I.ok.mod
theorem Inv.kIn (I:Inv X pins σ H s):X.K.In s.heap:=I.ok.mod.kin.keeps I.bk
theorem Inv.lt (I:Inv X pins σ H s):X.env.locals<s.heap.objs.size:=let ⟨_,hn,_⟩:=I.loc;hn.lt
theorem Inv.sz (I:Inv X pins σ H s):X.s₀.heap.objs.size<=s.heap.objs.size:=Nat.le_trans I.ok.above (Nat.le_of_lt I.lt)
theorem Inv.nofs (I:Inv X pins σ H s) {a:Addr} (h:s.heap.objs.size<=a):a∉X.fs:=fun hb=>by
 obtain ⟨_,o,ho,_⟩:=I.ok.funs.mem hb;exact absurd (Nat.lt_of_lt_of_le (Heap.lt_size ho) (Nat.le_trans I.sz h)) (Nat.lt_irrefl _)
theorem Inv.cne (I:Inv X pins σ H s):∀x c,X.env.cells.lookup x=some c->c≠X.env.locals:=fun x c e z=>by
 obtain ⟨v,o,ho,hd⟩:=I.cell x c e;obtain ⟨m,⟨o',es,ep,ho',hd',_⟩,_⟩:=I.loc;rw [z,ho'] at ho;cases ho;rw [hd'] at hd;cases hd
theorem Inv.funs (I:Inv X pins σ H s):s.heap.FunFrames X.base X.outer:=by
 have all:∀(l:List Env),(∀b∈uS l,b∈X.fs)->X.s₀.heap.FunFrames X.base l->s.heap.FunFrames X.base l:=by
  intro l;induction l with
  | nil=>intro _ _;trivial
  | cons env r ih=>
   intro hs hl;obtain ⟨hk,⟨L,o,hf,hn,ho,hd⟩,hr⟩:=hl;have hL:L∈X.fs:=hs L (by unfold uS;rw [List.filterMap_cons,hf];exact mem_cons_self)
   obtain ⟨sl,e⟩:=I.base.slot L o ho (I.ok.frf L hL) hL fun z=>I.ok.exfs L z hL
   exact ⟨hk,⟨L,_,hf,hn,e,hd⟩,ih (fun b hb=>hs b (by unfold uS;rw [List.filterMap_cons,hf];exact JB _ hb)) hr⟩
 exact all X.outer (fun _ hb=>hb) I.ok.funs
theorem Inv.stack (I:Inv X pins σ H s):s.heap.FunFrames X.base X.stack:=by
 rcases I.ok.stk with e | ⟨e,hf⟩
 ·rw [e];exact I.funs
 ·rw [e]
  obtain ⟨m,hn,_⟩:=I.loc;refine .cons (by rw [I.ok.kind];decide) hf hn ?_ I.funs
  exact Heap.get?_none_of_le (Nat.le_trans I.ok.bsz I.ok.above)
theorem Inv.stkSub (I:Inv X pins σ H s):∀b∈uS X.stack,b∈X.env.locals::X.fs:=fun b hb=>by
 rcases I.ok.stk with e | ⟨e,hf⟩
 ·rw [e] at hb;exact JB _ hb
 ·rw [e] at hb
  unfold uS at hb;rw [List.filterMap_cons,hf] at hb;exact hb
theorem Inv.stkFree (I:Inv X pins σ H s):∀b∈uS X.stack,H b=none:=fun b hb=>by
 rcases Jy (I.stkSub b hb) with e | hb
 ·rw [e];exact I.free
 ·obtain ⟨_,o,ho,_⟩:=I.ok.funs.mem hb
  exact I.base.free b o ho (I.ok.frf b hb) fun z=>I.ok.exfs b z hb
theorem Inv.step {g':Array GenState} {t':Nat} {d':Drawn} {ch:List Addr} (I:Inv X pins σ H s)
  (hch:∀b∈ch,(b∈X.ex\/X.s₀.heap.objs.size<=b)/\b≠X.env.locals/\(∀x c,X.env.cells.lookup x=some c->c≠b)/\∀p∈X.pn++pins,p.1≠b)
  (keep:∀b o,b≠X.env.locals->b∉X.fs->b∉ch->s.heap.get? b=some o->H b=none->h'.get? b=some o)
  (slot:∀b o,b≠X.env.locals->b∈X.fs->b∉ch->s.heap.get? b=some o->H b=none->∃sl,h'.get? b=some { o with slots:=sl }) (free:∀b o,b∉ch->s.heap.get? b=some o->H b=none->H' b=none)
  (there:∀b o,b∉ch->s.heap.get? b=some o->∃o',h'.get? b=some o')
  (tups:∀b xs,H b=some (.tup xs)->H' b=some (.tup xs)) (frzs:∀b o u,H b=some (.frz o u)->H' b=some (.frz o u)) (tbls:∀b ps,H b=some (.tbl ps)->∃more,H' b=some (.tbl (ps++more)))
  (ns:∀m,s.heap.Ns X.env.locals m->h'.Ns X.env.locals m) (hok:HOk X.prog X.w H' h') (hg:AllBare g') :
  Inv X pins σ H' { s with heap:=h',gens:=g',drawn:=d',toks:=t' }:=by
 have neL:∀b o,X.s₀.heap.get? b=some o->b≠X.env.locals:=fun b o e=>Nat.ne_of_lt (Nat.lt_of_lt_of_le (Heap.lt_size e) I.ok.above)
 have neC:∀b o,X.s₀.heap.get? b=some o->b∉X.ex->b∉ch:=fun b o e hx hb=>by
  rcases (hch b hb).1 with z | z
  ·exact hx z
  ·exact absurd (Nat.lt_of_lt_of_le (Heap.lt_size e) z) (Nat.lt_irrefl _)
 have cellK:∀x c,X.env.cells.lookup x=some c->∀v,s.heap.IsCell c v->h'.IsCell c v:=fun x c e v ⟨o,ho,hd⟩=>by
  have nch:c∉ch:=fun z=>(hch c z).2.2.1 x c e rfl
  by_cases hc:c∈X.fs
  ·obtain ⟨sl,q⟩:=slot c o (I.cne x c e) hc nch ho (I.freeC x c e)
   exact ⟨_,q,hd⟩
  ·exact ⟨o,keep c o (I.cne x c e) hc nch ho (I.freeC x c e),hd⟩
 refine ⟨I.ok,I.os,hg,⟨fun b o e n hb hx=>?_,fun b o e n hb hx=>?_,fun b o e n hx=>?_,fun b o e hx=>?_,fun b xs e=>tups b xs (I.base.tups b xs e),fun b o xs e=>frzs b o xs (I.base.frzs b o xs e),fun b ps e=>?_⟩,?_,fun x c e=>?_,?_,fun x c e=>?_,fun p hp=>?_,hok,I.len⟩
 ·exact keep b o (neL b o e) hb (neC b o e hx) (I.base.keep b o e n hb hx) (I.base.free b o e n hx)
 ·obtain ⟨sl,e1⟩:=I.base.slot b o e n hb hx
  obtain ⟨sl',e2⟩:=slot b _ (neL b o e) hb (neC b o e hx) e1 (I.base.free b o e n hx);exact ⟨sl',e2⟩
 ·obtain ⟨o',e1⟩:=I.base.there b o e hx
  exact free b o' (neC b o e hx) e1 (I.base.free b o e n hx)
 ·obtain ⟨o',e1⟩:=I.base.there b o e hx
  exact there b o' (neC b o e hx) e1
 ·obtain ⟨m1,e1⟩:=I.base.tbls b ps e
  obtain ⟨m2,e2⟩:=tbls b _ e1;exact ⟨m1++m2,by rw [e2,Array.append_assoc]⟩
 ·obtain ⟨m,hn,hl⟩:=I.loc
  refine ⟨m,ns m hn,fun i x v e1 e2 e3=>?_⟩
  obtain ⟨u,r,l⟩:=hl i x v e1 e2 e3;refine ⟨u,r,?_⟩
  rcases l with l | ⟨k,c,e,z⟩
  ·exact .inl l
  ·exact .inr ⟨k,c,e,cellK x c e _ z⟩
 ·obtain ⟨v,z⟩:=I.cell x c e
  exact ⟨v,cellK x c e v z⟩
 ·obtain ⟨m,⟨o,_,_,ho,_⟩,_⟩:=I.loc
  exact free _ o (fun z=>(hch _ z).2.1 rfl) ho I.free
 ·obtain ⟨v,o,ho,hd⟩:=I.cell x c e
  exact free c o (fun z=>(hch c z).2.2.1 x c e rfl) ho (I.freeC x c e)
 ·obtain ⟨e,n,ne,nf,d⟩:=I.pin p hp
  have nch:p.1∉ch:=fun z=>(hch p.1 z).2.2.2 p hp rfl
  exact ⟨keep p.1 p.2 ne nf nch e n,free p.1 p.2 nch e n,ne,nf,d⟩
theorem Inv.un {t':Nat} (I:Inv X pins σ H s) (u:Un X.fs [] H H' s.heap h') (hok:HOk X.prog X.w H' h'):Inv X pins σ H' { s with heap:=h',toks:=t' }:=by
 obtain ⟨m,⟨o,es,ep,ho,r⟩,_⟩:=id I.loc;obtain ⟨sl,hL⟩:=u.any ho I.free (by simp)
 exact I.step (g':=s.gens) (d':=s.drawn) (ch:=[]) (fun _ z=>nomatch z) (fun b o _ hb _ e n=>u.keep b o e n hb (by simp)) (fun b o _ hb _ e n=>u.slot b o e n hb (by simp)) (fun b o _ e n=>u.free b o e n (by simp)) (fun b o _ e=>u.there b o e (by simp)) u.tups u.frzs u.tbls (fun m' hm=>by
  obtain ⟨o',es',ep',ho',r'⟩:=hm;rw [ho] at ho';cases ho'
  exact ⟨_,es',ep',hL,r'⟩) hok I.bare
theorem Inv.call {g':Array GenState} {t':Nat} {d':Drawn} {ch:List Addr} (I:Inv X pins σ H s) (u:Un (uS X.stack) ch H H' s.heap h') (hok:HOk X.prog X.w H' h') (hg:AllBare g')
  (hch:∀b∈ch,(b∈X.ex\/X.s₀.heap.objs.size<=b)/\b≠X.env.locals/\(∀x c,X.env.cells.lookup x=some c->c≠b)/\∀p∈X.pn++pins,p.1≠b) :
  Inv X pins σ H' { s with heap:=h',gens:=g',drawn:=d',toks:=t' }:=by
 obtain ⟨m,⟨o,es,ep,ho,r⟩,_⟩:=id I.loc;obtain ⟨sl,hL⟩:=u.any ho I.free fun z=>(hch _ z).2.1 rfl
 exact I.step (ch:=ch) hch (fun b o hL hb hc e n=>u.keep b o e n (fun z=>(Jy (I.stkSub b z)).elim hL hb) hc) (fun b o _ _ hc e n=>u.any e n hc) (fun b o hc e n=>u.free b o e n hc) (fun b o hc e=>u.there b o e hc) u.tups u.frzs u.tbls (fun m' hm=>by
  obtain ⟨o',es',ep',ho',r'⟩:=hm;rw [ho] at ho';cases ho'
  exact ⟨_,es',ep',hL,r'⟩) hok hg
theorem Inv.turned {t':Nat} {it:Addr} (I:Inv X pins σ H s) (k:∀b o,b≠it->s.heap.get? b=some o->h'.get? b=some o) (hn:H it=none) (hL:it≠X.env.locals)
  (h1:it∈X.ex\/X.s₀.heap.objs.size<=it) (h2:∀x c,X.env.cells.lookup x=some c->c≠it) (h3:∀p∈X.pn++pins,p.1≠it):Inv X pins σ H { s with heap:=h',toks:=t' }:=by
 have nit:∀b u,H b=some u->b≠it:=fun b u e z=>by rw [z,hn] at e;cases e
 refine I.step (g':=s.gens) (d':=s.drawn) (ch:=[it]) (fun b hb=>?_) (fun b o _ _ hc e _=>k b o (fun z=>hc (by simp [z])) e) (fun b o _ _ hc e _=>⟨o.slots,k b o (fun z=>hc (by simp [z])) e⟩) (fun _ _ _ _ n=>n)
  (fun b o hc e=>⟨o,k b o (fun z=>hc (by simp [z])) e⟩) (fun _ _ e=>e) (fun _ _ _ e=>e) (fun b ps e=>⟨#[],by rw [e];simp⟩) (fun m hm=>?_) (fun b u e=>?_) I.bare
 ·have e:b=it:=by simpa using hb
  subst e;exact ⟨h1,hL,h2,h3⟩
 ·obtain ⟨o,es,ep,ho,r⟩:=hm
  exact ⟨o,es,ep,k _ o (Ne.symm hL) ho,r⟩
 ·refine (I.hok b u e).stay (fun c v hc q=>k c v ?_ q) (fun _ q=>q) fun _ _ q=>q
  rcases hc with z | z
  ·rw [z];exact nit b u e
  ·exact nit c _ z
theorem Inv.tok (I:Inv X pins σ H s) (t:Nat):Inv X pins σ H { s with toks:=t }:=I.un (h':=s.heap) (t':=t) Un.refl I.hok
theorem Inv.kept {t':Nat} (I:Inv X pins σ H s) (k:∀b u,s.heap.get? b=some u->h'.get? b=some u):Inv X pins σ H { s with heap:=h',toks:=t' }:=I.un (Un.kept k) (I.hok.kept k)
theorem Inv.laid {a:Addr} {o:HO} {t':Nat} (I:Inv X pins σ H s) (k:∀b u,s.heap.get? b=some u->h'.get? b=some u) (hp:s.heap.objs.size<=a) (new:ObjOk X.prog X.w (b9 H a o) h' a o) :
  Inv X pins σ (b9 H a o) { s with heap:=h',toks:=t' }:=I.un (Un.laid k hp (I.hok.fresh hp)) (I.hok.laid k hp new)
theorem Inv.write {x e:Addr} {o:HO} {t':Nat} (I:Inv X pins σ H s) (mu:Fl (H x)) (he:e=x\/H e=some (.own x)) (k:∀b u,b≠e->s.heap.get? b=some u->h'.get? b=some u) (heo:∃u,h'.get? e=some u)
  (new:ObjOk X.prog X.w (b9 H x o) h' x o):Inv X pins σ (b9 H x o) { s with heap:=h',toks:=t' }:=I.un (Un.write mu he k heo) (I.hok.write mu he k heo new)
theorem Inv.weak {σ':List (Option V)} (I:Inv X pins σ H s) (hl:σ'.length=σ.length) (w:∀(i:Nat) v,σ'[i]?=some (some v)->σ[i]?=some (some v)):Inv X pins σ' H s:=
 ⟨I.ok,I.os,I.bare,I.base,let ⟨m,hn,hl'⟩:=I.loc;⟨m,hn,fun i x v e1 e2 e3=>hl' i x v e1 (w i v e2) e3⟩,I.cell,I.free,I.freeC,I.pin,I.hok,hl.trans I.len⟩
theorem Inv.pins_of {pins':List (Addr×Obj)} (I:Inv X pins σ H s) (h:∀p∈pins',s.heap.get? p.1=some p.2/\H p.1=none/\p.1≠X.env.locals/\p.1∉X.fs/\∀v,p.2.data≠.cell v):Inv X pins' σ H s:=
 ⟨I.ok,I.os,I.bare,I.base,I.loc,I.cell,I.free,I.freeC,fun p hp=>(Jx hp).elim (fun z=>I.pin p (Jw _ z)) (h p),I.hok,I.len⟩
theorem m7 {N:List Str} (hN:N.Nodup) {i j:Nat} {x:Str} (a:N[i]?=some x) (b:N[j]?=some x):i=j:=by
 obtain ⟨h1,e1⟩:=JD a
 obtain ⟨h2,e2⟩:=JD b
 exact (List.getElem_inj hN).mp (e1.trans e2.symm)
theorem kq {M:Model} {A:Around} {E:Value->Shared->Prop} {i:Nat} {x:Str} {v:V} {u:Value} {Q:Unit->Shared->Prop} (I:Inv X pins σ H s) (hN:X.N.Nodup) (hi:X.N[i]?=some x) (hx:Loc X.env.scope x) (r:RelV v u)
  (h:∀s',Inv X pins (σ.set i (some v)) H s'->(∃a,Heap.SameBut a s.heap s'.heap/\(a=X.env.locals\/X.env.cells.lookup x=some a))->Q () s') (hf:X.fn x=true\/X.env.scope.names.lookup x=some .local:=by first | exact .inl rfl | exact .inr rfl | assumption):wpAny M A (storeName X.env x u) Q E s:=by
 obtain ⟨m,hn,hl⟩:=id I.loc;have hcls:(X.env.scope.kind==.class||(X.env.scope.kind==.module&&X.env.locals != X.env.globals))=false:=by rw [I.ok.kind];rfl
 have hiσ:i<σ.length:=by rw [I.len];exact (JD hi).1
 have cne:=I.cne
 have tracked:∀{a:Addr} {h':Heap},(∃o,s.heap.get? a=some o/\H a=none)->Heap.SameBut a s.heap h'->HOk X.prog X.w H h':=fun {a h'} ha hs b ob e=>by
  obtain ⟨_,_,hfree⟩:=ha;refine (I.hok b ob e).stay (fun c w' hc q=>(hs.2 c ?_).trans q) (fun _ q=>q) fun _ _ q=>q
  rintro rfl
  rcases hc with rfl | hc
  ·rw [hfree] at e;cases e
  ·rw [hfree] at hc;cases hc
 rcases hx with hk | hk
 ·refine wpAny_storeName_local hk hn (fun h' hn' hs=>?_) hcls
  obtain ⟨oL,_,_,hoL,_⟩:=id hn;refine h _ ⟨I.ok,I.os,I.bare,⟨fun b o e n hb hx=>?_,fun b o e n hb hx=>?_,I.base.free,fun b o e hx=>?_,I.base.tups,I.base.frzs,I.base.tbls⟩,⟨_,hn',fun j y v' e1 e2 e3=>?_⟩,fun y c e=>?_,I.free,I.freeC,fun p hp=>?_,tracked ⟨oL,hoL,I.free⟩ hs,by simpa using I.len⟩ ⟨_,hs,.inl rfl⟩
  ·exact (hs.2 b (Nat.ne_of_lt (Nat.lt_of_lt_of_le (Heap.lt_size e) I.ok.above))).trans (I.base.keep b o e n hb hx)
  ·obtain ⟨sl,e1⟩:=I.base.slot b o e n hb hx
   exact ⟨sl,(hs.2 b (Nat.ne_of_lt (Nat.lt_of_lt_of_le (Heap.lt_size e) I.ok.above))).trans e1⟩
  ·obtain ⟨o',e1⟩:=I.base.there b o e hx
   exact ⟨o',(hs.2 b (Nat.ne_of_lt (Nat.lt_of_lt_of_le (Heap.lt_size e) I.ok.above))).trans e1⟩
  ·by_cases hj:j=i
   ·subst hj
    rw [hi] at e1;cases e1;rw [getElem?_set_self hiσ] at e2
    cases e2;exact ⟨u,r,.inl ⟨hk,by simp⟩⟩
   ·rw [getElem?_set_ne (Ne.symm hj)] at e2
    obtain ⟨u',r',q⟩:=hl j y v' e1 e2 e3
    refine ⟨u',r',?_⟩
    rcases q with ⟨k,e⟩ | ⟨k,c,e,z⟩
    ·refine .inl ⟨k,?_⟩
     have:y≠x:=fun e=>hj (m7 hN e1 (e▸hi))
     simp [this,e]
    ·exact .inr ⟨k,c,e,z.sameBut hs (cne y c e)⟩
  ·obtain ⟨w',z⟩:=I.cell y c e
   exact ⟨w',z.sameBut hs (cne y c e)⟩
  ·obtain ⟨e,n,ne,nf,d⟩:=I.pin p hp
   exact ⟨(hs.2 p.1 ne).trans e,n,ne,nf,d⟩
 ·have hfn:X.fn x=true:=by
   rcases hf with z | z
   ·exact z
   ·rw [z] at hk;cases hk
  obtain ⟨c,hc⟩:=I.ok.has x (.inl hk);obtain ⟨w',z⟩:=I.cell x c hc;refine wpAny_storeName_cell I.ok.kind hk hc z (fun h' hc' hs=>?_)
  obtain ⟨oc,hoc,hocd⟩:=id z;refine h { s with heap:=h' } ⟨I.ok,I.os,I.bare,⟨fun b o e n hb hx=>?_,fun b o e n hb hx=>?_,I.base.free,fun b o e hx=>?_,I.base.tups,I.base.frzs,I.base.tbls⟩,⟨m,hn.sameBut hs (Ne.symm (cne x c hc)),fun j y v' e1 e2 e3=>?_⟩,fun y c' e=>?_,I.free,I.freeC,fun p hp=>?_,tracked ⟨oc,hoc,I.freeC x c hc⟩ hs,by simpa using I.len⟩ ⟨c,hs,.inr hc⟩
  ·exact (hs.2 b (Nat.ne_of_lt (Nat.lt_of_lt_of_le (Heap.lt_size e) (I.ok.cab x c hfn hc)))).trans (I.base.keep b o e n hb hx)
  ·obtain ⟨sl,e1⟩:=I.base.slot b o e n hb hx
   exact ⟨sl,(hs.2 b (Nat.ne_of_lt (Nat.lt_of_lt_of_le (Heap.lt_size e) (I.ok.cab x c hfn hc)))).trans e1⟩
  ·obtain ⟨o',e1⟩:=I.base.there b o e hx
   exact ⟨o',(hs.2 b (Nat.ne_of_lt (Nat.lt_of_lt_of_le (Heap.lt_size e) (I.ok.cab x c hfn hc)))).trans e1⟩
  ·by_cases hj:j=i
   ·subst hj
    rw [hi] at e1;cases e1;rw [getElem?_set_self hiσ] at e2
    cases e2;exact ⟨u,r,.inr ⟨.inl hk,c,hc,hc'⟩⟩
   ·rw [getElem?_set_ne (Ne.symm hj)] at e2
    obtain ⟨u',r',q⟩:=hl j y v' e1 e2 e3
    refine ⟨u',r',?_⟩
    rcases q with q | ⟨k,c',e,z'⟩
    ·exact .inl q
    ·refine .inr ⟨k,c',e,z'.sameBut hs ?_⟩
     rintro rfl
     exact hj (m7 hN e1 (I.ok.inj _ _ _ e hc▸hi))
  ·by_cases hcc:c'=c
   ·subst hcc;exact ⟨_,hc'⟩
   ·obtain ⟨w2,z2⟩:=I.cell y c' e
    exact ⟨w2,z2.sameBut hs hcc⟩
  ·obtain ⟨e,n,ne,nf,d⟩:=I.pin p hp
   refine ⟨(hs.2 p.1 ?_).trans e,n,ne,nf,d⟩
   intro q;rw [q,hoc] at e;have q':oc=p.2:=Option.some.inj e
   exact d w' (by rw [<-q'];exact hocd)
theorem F7 {M:Model} {A:Around} {E:Value->Shared->Prop} {i:Nat} {x:Str} {v:V} {u:Value} {Q:Unit->Shared->Prop} (I:Inv X pins σ H s) (hN:X.N.Nodup) (hi:X.N[i]?=some x) (hx:Loc X.env.scope x) (r:RelV v u)
  (h:∀s',Inv X pins (σ.set i (some v)) H s'->Q () s') (hf:X.fn x=true\/X.env.scope.names.lookup x=some .local:=by first | exact .inl rfl | exact .inr rfl | assumption):wpAny M A (storeName X.env x u) Q E s:=
 kq I hN hi hx r (fun s' I' _=>h s' I') hf
theorem Inv.call' {s':Shared} {ch:List Addr} (I:Inv X pins σ H s) (ho:s'.os=s.os) (u:Un (uS X.stack) ch H H' s.heap s'.heap) (hok:HOk X.prog X.w H' s'.heap) (hg:AllBare s'.gens)
  (hch:∀b∈ch,(b∈X.ex\/X.s₀.heap.objs.size<=b)/\b≠X.env.locals/\(∀x c,X.env.cells.lookup x=some c->c≠b)/\∀p∈X.pn++pins,p.1≠b):Inv X pins σ H' s':=by
 obtain ⟨h',g',d',t',o'⟩:=s'
 have e:o'=s.os:=ho
 subst e;exact I.call (g':=g') (t':=t') (d':=d') u hok hg hch
end
abbrev XK:=Value->Option Addr->Hp->Prop
abbrev St:=List (Option V)
abbrev VK:=V->Hp->Prop
abbrev TE:=St->Hp->VK->Prop
abbrev TT:=St->Hp->(Bool->Hp->Prop)->Prop
abbrev TA:=St->Hp->(List V->Hp->Prop)->Prop
structure fP where
 nx:St->Hp->Prop
 rt:VK
 bk:St->Hp->Prop:=fun _ _=>False
 ct:St->Hp->Prop:=fun _ _=>False
abbrev TS:=fP->St->Hp->Prop
noncomputable def EP (X:Cx) (pins:List (Addr×Obj)) (σ:St) (Q:VK) (u:Value) (s':Shared):Prop:=∃v H',Inv X pins σ H' s'/\RelV v u/\Q v H'
noncomputable def TP (X:Cx) (pins:List (Addr×Obj)) (σ:St) (Q:Bool->Hp->Prop) (b:Bool) (s':Shared):Prop:=∃H',Inv X pins σ H' s'/\Q b H'
noncomputable def AP (X:Cx) (pins:List (Addr×Obj)) (σ:St) (Q:List V->Hp->Prop) (us:List Value) (s':Shared):Prop:=∃vs H',Inv X pins σ H' s'/\Vals vs us/\Q vs H'
noncomputable def SP (X:Cx) (pins:List (Addr×Obj)) (D:fP) (f:Flow) (s':Shared):Prop:=
 match f with
 | .next=>∃σ' H',Inv X pins σ' H' s'/\D.nx σ' H'
 | .brk=>∃σ' H',Inv X pins σ' H' s'/\D.bk σ' H'
 | .cont=>∃σ' H',Inv X pins σ' H' s'/\D.ct σ' H'
 | .ret u=>∃v σ' H',Inv X pins σ' H' s'/\RelV v u/\D.rt v H'
noncomputable def PE (X:Cx) (e:Expr) (t:TE):Prop:=
 ∀(pins:List (Addr×Obj)) (s:Shared) (σ:St) (H:Hp) (Q:VK),Inv X pins σ H s->t σ H Q->wpAny (model X.prog X.w) X.A (eval e X.env) (EP X pins σ Q) X.xe s
noncomputable def PT (X:Cx) (e:Expr) (t:TT):Prop:=
 ∀(pins:List (Addr×Obj)) (s:Shared) (σ:St) (H:Hp) (Q:Bool->Hp->Prop),Inv X pins σ H s->t σ H Q->wpAny (model X.prog X.w) X.A (isTrue e X.env (eval e X.env)) (TP X pins σ Q) X.xe s
noncomputable def PW (X:Cx) (e:Expr) (t:TT):Prop:=
 ∀(whole:Sem Value) (pins:List (Addr×Obj)) (s:Shared) (σ:St) (H:Hp) (Q:Bool->Hp->Prop),Inv X pins σ H s->t σ H Q->wpAny (model X.prog X.w) X.A (isTrue e X.env whole) (TP X pins σ Q) X.xe s
theorem PW.pt {X:Cx} {e:Expr} {t:TT} (h:PW X e t):PT X e t:=h _
noncomputable def PA (X:Cx) (es:List Expr) (t:TA):Prop:=
 ∀(pos:Pos) (pins:List (Addr×Obj)) (s:Shared) (σ:St) (H:Hp) (Q:List V->Hp->Prop),Inv X pins σ H s->t σ H Q->wpAny (model X.prog X.w) X.A (spliced (backTo pos (starEach es X.env))) (AP X pins σ Q) X.xe s
noncomputable def PS (X:Cx) (st:Stmt) (t:TS):Prop:=
 ∀(pins:List (Addr×Obj)) (s:Shared) (σ:St) (H:Hp) (D:fP),Inv X pins σ H s->t D σ H->wpAny (model X.prog X.w) X.A (exec st X.env) (SP X pins D) X.xe s
noncomputable def PSs (X:Cx) (st:List Stmt) (t:TS):Prop:=
 ∀(pins:List (Addr×Obj)) (s:Shared) (σ:St) (H:Hp) (D:fP),Inv X pins σ H s->t D σ H->wpAny (model X.prog X.w) X.A (execs st X.env) (SP X pins D) X.xe s
theorem b5 {α:Type} {t:Sem α} {Q Q':α->Shared->Prop} {M:Model} {A:Around} {E:Value->Shared->Prop} {s:Shared} (h:wpAny M A t Q E s) (hQ:∀a s,Q a s->Q' a s):wpAny M A t Q' E s:=wpAny_mono h hQ fun _ _ x=>x
section
variable {X:Cx}
noncomputable def cY (i:Nat):TE:=fun σ H Q=>∃v,σ[i]?=some (some v)/\Q v H
noncomputable def tC (v:V):TE:=fun _ H Q=>Q v H
theorem zd {i:Nat} {x:Str} {pos:Pos} (hN:X.N[i]?=some x) (hv:BG X.env.scope x) (hd:(x==("__debug__":Str))=false:=by decide) (hcd:(x==("__classdict__":Str))=false:=by decide):PE X (.Name x pos) (cY i):=by
 intro pins s σ H Q I h;obtain ⟨v,e,h⟩:=h;obtain ⟨m,hn,hl⟩:=I.loc;obtain ⟨u,r,l⟩:=hl i x v hN e hv;have fin:EP X pins σ Q u s:=⟨v,H,I,r,h⟩
 rcases l with ⟨hk,hm⟩ | ⟨hk,c,hc,hcell⟩
 ·exact wpAny_Name (wpAny_loadName_local I.ok.kind hk hn hm fin) hd
 ·rcases hk with hk | hk
  ·exact wpAny_Name (wpAny_loadName_cell I.ok.kind hk hc hcell fin) hd
  ·exact wpAny_Name (wpAny_loadName_free I.ok.kind hk hc hcell fin hcd) hd
theorem D2 {i j pos}:PE X (.Constant (.int i) j pos) (tC (.int i)):=fun _ _ _ H _ I h=>wpAny_Constant_int ⟨.int i,H,I.tok _,⟨_,rfl⟩,h⟩
theorem yF {b j pos}:PE X (.Constant (.bool b) j pos) (tC (.bl b)):=fun _ _ _ H _ I h=>Constant_bool ⟨.bl b,H,I,rfl,h⟩
theorem FN {j pos}:PE X (.Constant .none j pos) (tC .non):=fun _ _ _ H _ I h=>Constant_none ⟨.non,H,I,rfl,h⟩
theorem Av {x j pos}:PE X (.Constant (.str x) j pos) (tC (.str x)):=fun _ _ _ H _ I h=>Calls.Constant_str ⟨.str x,H,I.tok _,⟨_,rfl⟩,h⟩
noncomputable def Gl (X:Cx) (x:Str):Prop:=X.env.kindOf x=some .globalImplicit
theorem Ee {E:Value->Shared->Prop} {pins:List (Addr×Obj)} {s:Shared} {σ:St} {H:Hp} {x:Str} {u:Value} {pos:Pos} {Q:Value->Shared->Prop} (I:Inv X pins σ H s) (hg:Gl X x) (hm:X.mg x=some u) (h:Q u s)
  (hd:(x==("__debug__":Str))=false:=by decide):wpAny (model X.prog X.w) X.A (eval (.Name x pos) X.env) Q E s:=
 Calls.Name_function_global I.ok.kind hg (Calls.loadGlobal_global (by rw [I.ok.glob];exact I.mod.glob.keeps I.bk) hm h) hd
theorem vo {E:Value->Shared->Prop} {pins:List (Addr×Obj)} {s:Shared} {σ:St} {H:Hp} {x:Str} {u:Value} {pos:Pos} {Q:Value->Shared->Prop} (I:Inv X pins σ H s) (hg:Gl X x) (hm:X.mg x=none) (hv:bootBuiltins x=some u) (h:Q u s)
  (hn:x ≠ "__name__":=by decide) (hd:(x==("__debug__":Str))=false:=by decide):wpAny (model X.prog X.w) X.A (eval (.Name x pos) X.env) Q E s:=by
 obtain ⟨mb,h1,h2⟩:=I.mod.blt;exact Calls.Name_function_global I.ok.kind hg (Calls.loadGlobal_builtin (by rw [I.ok.glob];exact I.mod.glob.keeps I.bk) hm (by rw [I.ok.blt];exact h1.keeps I.bk) ((h2 x hn).trans hv) h) hd
theorem wN {x:Str} {v:V} {u:Value} {pos:Pos} (hg:Gl X x) (hm:X.mg x=some u) (r:RelV v u) (hd:(x==("__debug__":Str))=false:=by decide):PE X (.Name x pos) (tC v):=
 fun _ _ _ H _ I h=>Ee I hg hm ⟨v,H,I,r,h⟩ hd
theorem wQ {x:Str} {v:V} {u:Value} {pos:Pos} (hg:Gl X x) (hm:X.mg x=none) (hv:bootBuiltins x=some u) (r:RelV v u) (hn:x ≠ "__name__":=by decide) (hd:(x==("__debug__":Str))=false:=by decide):PE X (.Name x pos) (tC v):=
 fun _ _ _ H _ I h=>vo I hg hm hv ⟨v,H,I,r,h⟩ hn hd
variable {a b:Expr} {ta tb:TE} {pos:Pos}
noncomputable def PC (X:Cx) (op:CmpOp) (a b:Expr) (t:TE):Prop:=
 ∀(pins:List (Addr×Obj)) (s:Shared) (σ:St) (H:Hp) (Q:VK),Inv X pins σ H s->t σ H Q ->
  wpAny (model X.prog X.w) X.A (eval a X.env) (fun v s₁=>wpAny (model X.prog X.w) X.A (eval b X.env) (fun u s₂=>wpAny (model X.prog X.w) X.A (compareOp op v u) (EP X pins σ Q) X.xe s₂) X.xe s₁) X.xe s
theorem Ay {op:CmpOp} {t:TE} (h:PC X op a b t) (h1:behindInMarks op b=false:=by first | exact nobehind _ (by decide) (by decide) | rfl):PE X (.Compare a [op] [b] pos) t:=fun pins s σ H Q I hw=>wpAny_Compare1 (h pins s σ H Q I hw) h1
variable {tA tB':TT} {rest:List Expr}
noncomputable def CI (t u:TT):TT:=fun σ H Q=>t σ H fun c H1=>if c=true then u σ H1 Q else Q false H1
noncomputable def Io (t u:TT):TT:=fun σ H Q=>t σ H fun c H1=>if c=true then Q true H1 else u σ H1 Q
noncomputable def CF (t:TT):TT:=fun σ H Q=>t σ H fun c H1=>Q (!c) H1
theorem wI (ha:PT X a tA):PW X (.BoolOp .And [a] pos) tA:=by
 intro wh pins s σ H Q I h;refine isTrue_and (b5 (ha pins s σ H Q I h) fun c s1 e=>?_)
 cases c with
 | true=>exact isTrue_and_nil e
 | false=>exact e
theorem Am (ha:PT X a tA):PW X (.BoolOp .Or [a] pos) tA:=by
 intro wh pins s σ H Q I h;refine isTrue_or (b5 (ha pins s σ H Q I h) fun c s1 e=>?_)
 cases c with
 | false=>exact isTrue_or_nil e
 | true=>exact e
theorem An (ha:PT X a tA) (hb:PW X (.BoolOp .And (b::rest) pos) tB'):PW X (.BoolOp .And (a::b::rest) pos) (CI tA tB'):=by
 intro wh pins s σ H Q I h;refine isTrue_and (b5 (ha pins s σ H _ I h) fun c s1 ⟨H1,I1,q1⟩=>?_)
 cases c with
 | true=>exact hb wh pins s1 σ H1 Q I1 q1
 | false=>exact ⟨H1,I1,q1⟩
theorem C7 (ha:PT X a tA) (hb:PW X (.BoolOp .Or (b::rest) pos) tB'):PW X (.BoolOp .Or (a::b::rest) pos) (Io tA tB'):=by
 intro wh pins s σ H Q I h;refine isTrue_or (b5 (ha pins s σ H _ I h) fun c s1 ⟨H1,I1,q1⟩=>?_)
 cases c with
 | true=>exact ⟨H1,I1,q1⟩
 | false=>exact hb wh pins s1 σ H1 Q I1 q1
theorem Ao (ha:PT X a tA):PT X (.UnaryOp .Not a pos) (CF tA):=by
 intro pins s σ H Q I h;exact isTrue_not (ha pins s σ H (fun c H1=>Q (!c) H1) I h)
noncomputable def yA (ta tb:TE):TE:=fun σ H Q=>ta σ H fun x H1=>∃c,x=.bl c/\if c=true then tb σ H1 Q else Q (.bl false) H1
noncomputable def CD (ta tb:TE):TE:=fun σ H Q=>ta σ H fun x H1=>∃c,x=.bl c/\if c=true then Q (.bl true) H1 else tb σ H1 Q
noncomputable def yz (ta:TE):TE:=fun σ H Q=>ta σ H fun x H1=>∃c,x=.bl c/\Q (.bl (!c)) H1
theorem pe_one {op} {t:TE} (h:PE X a t):PE X (.BoolOp op [a] pos) t:=fun pins s σ H Q I hw=>BoolOp_one (h pins s σ H Q I hw)
theorem Az (ha:PE X a ta) (hb:PE X (.BoolOp .And (b::rest) pos) tb):PE X (.BoolOp .And (a::b::rest) pos) (yA ta tb):=by
 intro pins s σ H Q I h;refine BoolOp_and (b5 (ha pins s σ H _ I h) fun v s1 ⟨x,H1,I1,r1,q1⟩=>?_)
 obtain ⟨c,rfl,q1⟩:=q1
 cases r1;refine wpAny_truthy_bool ?_
 cases c with
 | true=>exact hb pins s1 σ H1 Q I1 q1
 | false=>exact ⟨.bl false,H1,I1,rfl,q1⟩
theorem Dd (ha:PE X a ta) (hb:PE X (.BoolOp .Or (b::rest) pos) tb):PE X (.BoolOp .Or (a::b::rest) pos) (CD ta tb):=by
 intro pins s σ H Q I h;refine BoolOp_or (b5 (ha pins s σ H _ I h) fun v s1 ⟨x,H1,I1,r1,q1⟩=>?_)
 obtain ⟨c,rfl,q1⟩:=q1
 cases r1;refine wpAny_truthy_bool ?_
 cases c with
 | false=>exact hb pins s1 σ H1 Q I1 q1
 | true=>exact ⟨.bl true,H1,I1,rfl,q1⟩
theorem Aw (ha:PE X a ta):PE X (.UnaryOp .Not a pos) (yz ta):=by
 intro pins s σ H Q I h;refine UnaryOp_ (b5 (ha pins s σ H _ I h) fun v s1 ⟨x,H1,I1,r1,q1⟩=>?_)
 obtain ⟨c,rfl,q1⟩:=q1
 cases r1;exact not_of (wpAny_truthy_bool ⟨.bl (!c),H1,I1,rfl,q1⟩)
noncomputable def Iq (t:TT) (ta tb:TE):TE:=fun σ H Q=>t σ H fun c H1=>if c=true then ta σ H1 Q else tb σ H1 Q
theorem uk {c:Expr} (hc:PT X c tA) (ha:PE X a ta) (hb:PE X b tb):PE X (.IfExp c a b pos) (Iq tA ta tb):=by
 intro pins s σ H Q I h;refine wpAny_IfExp (b5 (hc pins s σ H _ I h) fun d s1 ⟨H1,I1,q1⟩=>?_)
 cases d with
 | true=>exact ha pins s1 σ H1 Q I1 q1
 | false=>exact hb pins s1 σ H1 Q I1 q1
end
noncomputable def SqL (K:Fg) (H:Hp) (a:Addr) (xs:List V):Prop:=
 Rd H a (.lst xs) \/
  ∃(o:Obj) (its:Array Value) (n:Nat),K.lookup a=some o/\o.cls=.type "list"/\o.dict=none/\o.data=.seq its n/\its.size<=sizeLine/\Vals xs its.toList
noncomputable def SqT (K:Fg) (H:Hp) (a:Addr) (xs:List V):Prop:=
 Rd H a (.tup xs) \/
  ∃(o:Obj) (its:Array Value) (n:Nat),K.lookup a=some o/\o.cls=.type "tuple"/\o.data=.seq its n/\its.size<=sizeLine/\Vals xs its.toList
noncomputable def HX:Value->Option V
 | .none=>some .non
 | .bool b=>some (.bl b)
 | .int i _=>some (.int i)
 | .str x _=>some (.str x)
 | .bytes b _=>some (.byt b)
 | .float b _=>some (.flt b)
 | .ref a=>some (.ref a)
 | .type n=>some (.ty n)
 | _=>none
theorem RelV.abs {x:V} {u:Value} (r:RelV x u):HX u=some x:=by
 cases x with
 | non=>cases r;rfl
 | bl _=>cases r;rfl
 | int _=>obtain ⟨t,rfl⟩:=r;rfl
 | str _=>obtain ⟨t,rfl⟩:=r;rfl
 | byt _=>obtain ⟨t,rfl⟩:=r;rfl
 | flt _=>obtain ⟨t,rfl⟩:=r;rfl
 | ref _=>cases r;rfl
 | ty _=>cases r;rfl
theorem RelV.inj {x y:V} {u:Value} (r:RelV x u) (q:RelV y u):x=y:=Option.some.inj (r.abs.symm.trans q.abs)
theorem Vals.inj:∀{xs ys:List V} {us:List Value},Vals xs us->Vals ys us->xs=ys
 | _,_,_,.nil,.nil=>rfl
 | _,_,_,.cons r t,.cons r' t'=>by rw [r.inj r',Vals.inj t t']
section
variable {X:Cx} {pins:List (Addr×Obj)} {σ:St} {H:Hp} {s:Shared} {a:Addr} {xs ys:List V}
theorem SqL.of {K:Fg} (h:H a=some (.lst xs)):SqL K H a xs:=.inl (.inl h)
theorem SqT.of {K:Fg} (h:H a=some (.tup xs)):SqT K H a xs:=.inl (.inl h)
theorem Inv.list (I:Inv X pins σ H s) (h:SqL X.K H a xs):∃its:List Value,Vals xs its/\PlainL s.heap a its.toArray/\xs.length<=sizeLine:=by
 rcases h with h | ⟨o,its,n,hk,hc,hd,hs,hz,r⟩
 ·obtain ⟨z,its,n,r,e⟩:=h.ok I.hok
  exact ⟨its,r,⟨_,n,e,rfl,rfl,rfl⟩,z⟩
 ·refine ⟨its.toList,r,⟨o,n,I.kIn a o hk,hc,hd,by simpa using hs⟩,?_⟩
  have e:=r.length
  simp only [Array.length_toList] at e
  omega
theorem Inv.tuple (I:Inv X pins σ H s) (h:SqT X.K H a xs):∃its:List Value,Vals xs its/\IsTup s.heap a its.toArray/\xs.length<=sizeLine:=by
 rcases h with h | ⟨o,its,n,hk,hc,hs,hz,r⟩
 ·obtain ⟨z,its,r,p⟩:=h.ok I.hok
  exact ⟨its,r,p,z⟩
 ·refine ⟨its.toList,r,⟨o,I.kIn a o hk,hc,n,by simpa using hs⟩,?_⟩
  have e:=r.length
  simp only [Array.length_toList] at e
  omega
theorem Inv.list_inj (I:Inv X pins σ H s) (h:SqL X.K H a xs) (h':SqL X.K H a ys):xs=ys:=by
 obtain ⟨its,r,⟨o,n,e,_,_,d⟩,_⟩:=I.list h;obtain ⟨its',r',⟨o',n',e',_,_,d'⟩,_⟩:=I.list h'
 rw [e] at e';cases e'
 rw [d] at d';injection d' with d1 _
 have:its=its':=by simpa using congrArg Array.toList d1
 subst this;exact r.inj r'
theorem Inv.tuple_inj (I:Inv X pins σ H s) (h:SqT X.K H a xs) (h':SqT X.K H a ys):xs=ys:=by
 obtain ⟨its,r,⟨o,e,_,n,d⟩,_⟩:=I.tuple h;obtain ⟨its',r',⟨o',e',_,n',d'⟩,_⟩:=I.tuple h'
 rw [e] at e';cases e'
 rw [d] at d';injection d' with d1 _
 have:its=its':=by simpa using congrArg Array.toList d1
 subst this;exact r.inj r'
end
noncomputable abbrev Cx.wish (X:Cx) (E:Value->Shared->Prop):Cx:={ X with xe:=E }
noncomputable abbrev Cx.nox (X:Cx):Cx:=X.wish fun _ _=>False
theorem Cx.Ok.wish {X:Cx} (ok:X.Ok) (E:Value->Shared->Prop):(X.wish E).Ok:=
 ⟨ok.mod,ok.kind,ok.glob,ok.blt,ok.above,ok.inj,ok.has,ok.cab,ok.hd,ok.frames,ok.stk,ok.exf,ok.bs,ok.bsz,ok.noex,ok.exfs,ok.funs,ok.frf⟩
theorem Cx.Ok.unwish {X:Cx} {E:Value->Shared->Prop} (ok:(X.wish E).Ok):X.Ok:=
 ⟨ok.mod,ok.kind,ok.glob,ok.blt,ok.above,ok.inj,ok.has,ok.cab,ok.hd,ok.frames,ok.stk,ok.exf,ok.bs,ok.bsz,ok.noex,ok.exfs,ok.funs,ok.frf⟩
section
variable {X:Cx} {pins:List (Addr×Obj)} {σ:St} {H:Hp} {s:Shared} {E:Value->Shared->Prop}
theorem Inv.wish (I:Inv X pins σ H s) (E:Value->Shared->Prop):Inv (X.wish E) pins σ H s:=⟨I.ok.wish E,I.os,I.bare,I.base,I.loc,I.cell,I.free,I.freeC,I.pin,I.hok,I.len⟩
theorem Inv.unwish (I:Inv (X.wish E) pins σ H s):Inv X pins σ H s:=⟨I.ok.unwish,I.os,I.bare,I.base,I.loc,I.cell,I.free,I.freeC,I.pin,I.hok,I.len⟩
theorem SP.unwish {D:fP} {f:Flow} {s':Shared} (h:SP (X.wish E) pins D f s'):SP X pins D f s':=by
 cases f with
 | next=>obtain ⟨σ',H',I,q⟩:=h;exact ⟨σ',H',I.unwish,q⟩
 | brk=>obtain ⟨σ',H',I,q⟩:=h;exact ⟨σ',H',I.unwish,q⟩
 | cont=>obtain ⟨σ',H',I,q⟩:=h;exact ⟨σ',H',I.unwish,q⟩
 | ret u=>obtain ⟨v,σ',H',I,r,q⟩:=h;exact ⟨v,σ',H',I.unwish,r,q⟩
theorem PSs.nox {st:List Stmt} {t:TS} (h:PSs X.nox st t):PSs X st t:=fun pins s σ H D I hw=>
 wpAny_mono (h pins s σ H D (I.wish _) hw) (fun _ _ q=>q.unwish) fun _ _ z=>False.elim z
end
section
variable {X:Cx} {st:Stmt} {rest:List Stmt} {t u:TS} {e:Expr} {te:TE} {pos:Pos}
noncomputable def pX:TS:=fun D σ H=>D.nx σ H
noncomputable def hU (t u:TS):TS:=fun D σ H=>t { D with nx:=u D } σ H
theorem FG:PSs X [] pX:=fun _ _ σ H _ I h=>wpAny_execs_nil ⟨σ,H,I,h⟩
theorem sC (h1:PS X st t) (h2:PSs X rest u):PSs X (st::rest) (hU t u):=by
 intro pins s σ H D I h;refine wpAny_execs_cons (b5 (h1 pins s σ H { D with nx:=u D } I h) fun f s1 q=>?_)
 cases f with
 | next=>
  obtain ⟨σ',H',I',q⟩:=q;exact h2 pins s1 σ' H' D I' q
 | ret v=>exact q
 | brk=>exact q
 | cont=>exact q
theorem ym (h1:PS X st t):PSs X [st] t:=by
 intro pins s σ H D I h;refine wpAny_execs_cons (b5 (h1 pins s σ H D I h) fun f s1 q=>?_)
 cases f with
 | next=>exact wpAny_execs_nil q
 | ret v=>exact q
 | brk=>exact q
 | cont=>exact q
theorem Inv.quiet {pins:List (Addr×Obj)} {σ:St} {H:Hp} {s:Shared} (I:Inv X pins σ H s):interactive X.env=false:=by simp [interactive,I.ok.kind]
noncomputable def fR (te:TE):TS:=fun D σ H=>te σ H fun _ H1=>D.nx σ H1
theorem vx (he:PE X e te) (hs:swapsWith e none pos.line X.env=pure false:=by rfl):PS X (.Expr e pos) (fR te):=by
 intro pins s σ H D I h;exact wpAny_Expr_any (b5 (he pins s σ H _ I h) fun v s1 ⟨x,H1,I1,r1,q1⟩=>⟨σ,H1,I1,q1⟩) I.quiet hs
noncomputable def sV (te:TE):TS:=fun D σ H=>te σ H D.rt
theorem D3 (he:PE X e te):PS X (.Return (some e) pos) (sV te):=by
 intro pins s σ H D I h;exact wpAny_Return_some (b5 (he pins s σ H _ I h) fun v s1 ⟨x,H1,I1,r1,q1⟩=>⟨x,σ,H1,I1,r1,q1⟩)
noncomputable def vV (c:TT) (t u:TS):TS:=fun D σ H=>c σ H fun b H1=>if b=true then t D σ H1 else u D σ H1
theorem uc {c:Expr} {a b:List Stmt} {tc:TT} (hc:PT X c tc) (ha:PSs X a t) (hb:PSs X b u):PS X (.If c a b pos) (vV tc t u):=by
 intro pins s σ H D I h;refine wpAny_If (b5 (hc pins s σ H _ I h) fun d s1 ⟨H1,I1,q1⟩=>?_)
 cases d with
 | true=>exact ha pins s1 σ H1 D I1 q1
 | false=>exact hb pins s1 σ H1 D I1 q1
end
abbrev TG:=V->St->Hp->(St->Hp->Prop)->Prop
abbrev BJ:=List V->St->Hp->(St->Hp->Prop)->Prop
noncomputable def PG (X:Cx) (target:Expr) (t:TG):Prop:=
 ∀(pins:List (Addr×Obj)) (s:Shared) (σ:St) (H:Hp) (v:V) (u:Value) (Q:St->Hp->Prop),Inv X pins σ H s->RelV v u->t v σ H Q ->
  wpAny (model X.prog X.w) X.A (assign target X.env u) (fun _ s'=>∃σ' H',Inv X pins σ' H' s'/\Q σ' H') X.xe s
noncomputable def Fj (X:Cx) (ts:List Expr) (t:BJ):Prop:=
 ∀(pins:List (Addr×Obj)) (s:Shared) (σ:St) (H:Hp) (vs:List V) (us:List Value) (Q:St->Hp->Prop),Inv X pins σ H s->Vals vs us->t vs σ H Q ->
  wpAny (model X.prog X.w) X.A (assignInOrder ((assignEach ts X.env).map (·.2)) us) (fun _ s'=>∃σ' H',Inv X pins σ' H' s'/\Q σ' H') X.xe s
abbrev BI:=V->V->V->Hp->(Hp->Prop)->Prop
noncomputable def DT (X:Cx) (t:BI):Prop:=
 ∀(pins:List (Addr×Obj)) (s:Shared) (σ:St) (H:Hp) (o i v:V) (ov iv u:Value) (Q:Hp->Prop),Inv X pins σ H s->RelV o ov->RelV i iv->RelV v u->t o i v H Q ->
  wpAny (model X.prog X.w) X.A (setItem ov iv u) (fun _ s'=>∃H',Inv X pins σ H' s'/\Q H') X.xe s
abbrev Fi:=V->V->Hp->VK->Prop
noncomputable def Ja (X:Cx) (op:Operator) (t:Fi):Prop:=
 ∀(pins:List (Addr×Obj)) (s:Shared) (σ:St) (H:Hp) (x y:V) (v u:Value) (Q:VK),Inv X pins σ H s->RelV x v->RelV y u->t x y H Q ->
  wpAny (model X.prog X.w) X.A (inplaceOp op v u) (EP X pins σ Q) X.xe s
section
variable {X:Cx} {pos:Pos}
noncomputable def dM (i:Nat):TG:=fun v σ H Q=>Q (σ.set i (some v)) H
theorem yk {i:Nat} {x:Str} (hN:X.N.Nodup) (hi:X.N[i]?=some x) (hx:Loc X.env.scope x) (hf:X.fn x=true\/X.env.scope.names.lookup x=some .local:=by first | exact .inl rfl | exact .inr rfl | assumption):PG X (.Name x pos) (dM i):=by
 intro pins s σ H v u Q I r h;exact wpAny_assign_Name (F7 I hN hi hx r (fun s' I'=>⟨_,H,I',h⟩) hf)
noncomputable def Dw:BJ:=fun vs σ H Q=>vs=[]/\Q σ H
noncomputable def uR (t:TG) (u:BJ):BJ:=fun vs σ H Q=>∃v r,vs=v::r/\t v σ H fun σ' H'=>u r σ' H' Q
theorem wM:Fj X [] Dw:=by
 intro pins s σ H vs us Q I r h;obtain ⟨e,h⟩:=h;subst e
 cases r;exact assignInOrder_nil ⟨σ,H,I,h⟩
theorem mP {e:Expr} {es:List Expr} {t:TG} {u:BJ} (h1:PG X e t) (h2:Fj X es u)
  (hs:(assignEach (e::es) X.env).map (·.2)=assign e X.env::(assignEach es X.env).map (·.2):=by rfl):Fj X (e::es) (uR t u):=by
 intro pins s σ H vs us Q I r h;obtain ⟨v,vr,e1,h⟩:=h;subst e1
 cases r with
 | cons r rr=>
  rw [hs];refine assignInOrder_cons (b5 (h1 pins s σ H _ _ _ I r h) fun _ s1 ⟨σ1,H1,I1,q1⟩=>?_)
  exact h2 pins s1 σ1 H1 _ _ Q I1 rr q1
noncomputable def Dv (K:Fg) (n:Nat) (t:BJ):TG:=fun v σ H Q=>∃a xs,v=.ref a/\SqT K H a xs/\xs.length=n/\t xs σ H Q
theorem Ar {es:List Expr} {k:Nat} {t:BJ} {n:Nat} (hc:X.calm=true) (h:Fj X es t)
  (hn:(assignEach es X.env).length=n:=by rfl) (hst:(assignEach es X.env).findIdx? (·.1)=none:=by rfl):PG X (.Tuple es k pos) (Dv X.K n t):=by
 intro pins s σ H v u Q I r hw;obtain ⟨a,xs,e1,hq,hl,hw⟩:=hw;subst e1
 cases r;obtain ⟨its,rv,ht,hz⟩:=I.tuple hq;refine assign_Tuple_tuple (I.ok.hd hc) ht (by simp [hn,<-hl,rv.length]) hst fun h' hx=>?_
 have I1:Inv X pins σ H { s with heap:=h' }:=I.kept (t':=s.toks) fun b o e=>hx b o (Nat.ne_of_lt (Heap.lt_size e)) e
 exact h pins _ σ H xs _ Q I1 (by simpa using rv) hw
noncomputable def gSub (to ti:TE) (t:BI):TG:=fun v σ H Q=>to σ H fun o H1=>ti σ H1 fun i H2=>t o i v H2 fun H3=>Q σ H3
theorem As {o i:Expr} {to ti:TE} {t:BI} (ho:PE X o to) (hi:PE X i ti) (hs:DT X t)
  (ha:∀v,assign (.Subscript o i pos) X.env v=(do
   let ov <-holding [v] (eval o X.env)
   let iv <-holding [v,ov] (eval i X.env)
   standAt pos
   holding [v,ov,iv] (setItem ov iv v)
   release [v,ov,iv] []):=by intro _;rfl):PG X (.Subscript o i pos) (gSub to ti t):=by
 intro pins s σ H v u Q I r h;rw [ha];refine JE (wpAny_holding (b5 (ho pins s σ H _ I h) fun ov s1 ⟨x,H1,I1,r1,q1⟩=>?_))
 refine JE (wpAny_holding (b5 (hi pins s1 σ H1 _ I1 q1) fun iv s2 ⟨y,H2,I2,r2,q2⟩=>?_))
 refine JE (wpAny_standAt (JE (wpAny_holding (b5 (hs pins s2 σ H2 x y v ov iv u _ I2 r1 r2 r q2) fun _ s3 ⟨H3,I3,q3⟩=>?_))))
 exact wpAny_release ⟨σ,H3,I3,q3⟩
noncomputable def mx (te:TE) (g:TG):TS:=fun D σ H=>te σ H fun x H1=>g x σ H1 D.nx
theorem Aq {tg e:Expr} {te:TE} {g:TG} (he:PE X e te) (hg:PG X tg g) (hs:swapsWithSole [tg] e pos.line X.env=pure false:=by rfl) (hw:swappedStores [tg] e X.env=pure none:=by rfl)
  (h1:(assignEach [tg] X.env).map (·.2)=[assign tg X.env]:=by rfl):PS X (.Assign [tg] e pos) (mx te g):=by
 intro pins s σ H D I h;refine wpAny_Assign_stores (b5 (he pins s σ H _ I h) fun v s1 ⟨x,H1,I1,r1,q1⟩=>?_) hs hw
 rw [h1];exact b5 (hg pins s1 σ H1 x v _ I1 r1 q1) fun _ s2 q=>q
theorem FO {i:Nat} {x:Str} {e:Expr} {te:TE} {pos':Pos} (hN:X.N.Nodup) (hi:X.N[i]?=some x) (hx:Loc X.env.scope x) (he:PE X e te) (hs:swapsWith e (some (.Name x pos')) pos.line X.env=pure false:=by rfl) (hf:X.fn x=true\/X.env.scope.names.lookup x=some .local:=by first | exact .inl rfl | exact .inr rfl | assumption) :
  PS X (.Assign [.Name x pos'] e pos) (mx te (dM i)):=by
 intro pins s σ H D I h;refine wpAny_Assign_Name (b5 (he pins s σ H _ I h) fun v s1 ⟨y,H1,I1,r1,q1⟩=>?_) hs
 exact F7 I1 hN hi hx r1 (fun s2 I2=>⟨_,H1,I2,q1⟩) hf
noncomputable def CH (i:Nat) (te:TE) (ti:Fi):TS:=fun D σ H=>∃x,σ[i]?=some (some x)/\te σ H fun y H1=>ti x y H1 fun z H2=>D.nx (σ.set i (some z)) H2
theorem Ap {i:Nat} {x:Str} {e:Expr} {te:TE} {op:Operator} {ti:Fi} {pos':Pos} (hN:X.N.Nodup) (hi:X.N[i]?=some x) (hx:Loc X.env.scope x) (he:PE X e te) (ho:Ja X op ti) (hf:X.fn x=true\/X.env.scope.names.lookup x=some .local:=by first | exact .inl rfl | exact .inr rfl | assumption) :
  PS X (.AugAssign (.Name x pos') op e pos) (CH i te ti):=by
 intro pins s σ H D I h;obtain ⟨v,e1,h⟩:=h;obtain ⟨m,hn,hl⟩:=I.loc;have vis:BG X.env.scope x:=by rcases hx with k | k;exact .inl k;exact .inr (.inl k)
 obtain ⟨u,r,l⟩:=hl i x v hi e1 vis;refine wpAny_AugAssign_Name ?_
 have go:wpAny (model X.prog X.w) X.A (eval e X.env) (fun w s₂=>wpAny (model X.prog X.w) X.A (inplaceOp op u w) (fun r s₃=>wpAny (model X.prog X.w) X.A (storeName X.env x r) (fun _=>SP X pins D .next) X.xe s₃) X.xe s₂) X.xe s:=by
  refine b5 (he pins s σ H _ I h) fun w s1 ⟨y,H1,I1,r1,q1⟩=>?_
  refine b5 (ho pins s1 σ H1 v y u w _ I1 r r1 q1) fun z s2 ⟨zv,H2,I2,r2,q2⟩=>?_
  exact F7 I2 hN hi hx r2 (fun s3 I3=>⟨_,H2,I3,q2⟩) hf
 rcases l with ⟨hk,hm⟩ | ⟨hk,c,hc,hcell⟩
 ·exact wpAny_loadName_local I.ok.kind hk hn hm go
 ·rcases hk with hk | hk
  ·exact wpAny_loadName_cell I.ok.kind hk hc hcell go
  ·rcases hx with k | k
   ·have:X.env.scope.names.lookup x=some .free:=hk
    rw [k] at this;cases this
   ·have:X.env.scope.names.lookup x=some .free:=hk
    rw [k] at this;cases this
noncomputable def IR (f:Int->Int->Int):Fi:=fun x y H Q=>∃i j,x=.int i/\y=.int j/\Q (.int (f i j)) H
theorem A8:Ja X .Add (IR fun i j=>i+j):=by
 intro pins s σ H x y v u Q I r1 r2 h;obtain ⟨i,j,e1,e2,q⟩:=h;subst e1;subst e2;obtain ⟨t,rfl⟩:=r1;obtain ⟨t',rfl⟩:=r2;exact iadd_int ⟨.int _,H,I.tok _,⟨_,rfl⟩,q⟩
end
section
variable {X:Cx} {pos:Pos}
noncomputable def sS (c:TT) (tb:TS):TS:=fun D σ H=>∃W:Nat->St->Hp->Prop,(∃m,W m σ H)/\∀m σ H,W m σ H ->
 c σ H fun b H1=>if b=true then ∃N:St->Hp->Prop,(∀σ' H',N σ' H'->∃m',m'<m/\W m' σ' H')/\tb { D with nx:=N,ct:=N,bk:=D.nx } σ H1 else D.nx σ H1
theorem ub {c:Expr} {body:List Stmt} {tc:TT} {tb:TS} (hp:PassesOwn (model X.prog X.w) X.A X.env X.xe) (hc:PT X c tc) (hb:PSs X body tb):PS X (.While c body [] pos) (sS tc tb):=by
 intro pins s σ H D I h;obtain ⟨W,⟨m0,w0⟩,turn⟩:=h;refine wpAny_While (codeAny_whileLoop (fun n s'=>∃σ' H',Inv X pins σ' H' s'/\W n σ' H') ?_ m0 ⟨σ,H,I,w0⟩)
 rintro n s1 ⟨σ1,H1,I1,w1⟩
 refine wpAny_passesOwn hp (b5 (hc pins s1 σ1 H1 _ I1 (turn n σ1 H1 w1)) fun b s2 ⟨H2,I2,q2⟩=>?_)
 cases b with
 | true=>
  obtain ⟨N,hN,q2⟩:=q2;rw [if_pos rfl];refine wpAny_passesOwn hp (b5 (hb pins s2 σ1 H2 _ I2 q2) fun f s3 q3=>?_)
  cases f with
  | next=>
   obtain ⟨σ3,H3,I3,n3⟩:=q3;obtain ⟨m',hm,w3⟩:=hN σ3 H3 n3;exact ⟨m',hm,σ3,H3,I3,w3⟩
  | cont=>
   obtain ⟨σ3,H3,I3,n3⟩:=q3;obtain ⟨m',hm,w3⟩:=hN σ3 H3 n3;exact ⟨m',hm,σ3,H3,I3,w3⟩
  | brk=>exact q3
  | ret v=>exact q3
 | false=>
  rw [if_neg Bool.false_ne_true];exact wpAny_execs_nil ⟨σ1,H2,I2,q2⟩
end
structure It where
 go:Nat->Hp->Prop
 yld:Nat->Hp->V->Hp->Prop
 stop:Nat->Hp->Prop
noncomputable def ki (X:Cx) (pins:List (Addr×Obj)) (H:Hp) (b:Addr):Prop:=
 H b=none/\b≠X.env.locals/\b∉X.fs/\(b∈X.ex\/X.s₀.heap.objs.size<=b)/\(∀x c,X.env.cells.lookup x=some c->c≠b)/\∀p∈X.pn++pins,p.1≠b
theorem Inv.fpOk {X:Cx} {pins:List (Addr×Obj)} {σ:St} {H H':Hp} {s:Shared} {b:Addr} (I:Inv X pins σ H s) (hb:s.heap.objs.size<=b) (hn:H' b=none):ki X pins H' b:=by
 refine ⟨hn,Nat.ne_of_gt (Nat.lt_of_lt_of_le I.lt hb),I.nofs hb,.inr (Nat.le_trans I.sz hb),fun x c e z=>?_,fun p hp z=>?_⟩
 ·obtain ⟨v,q⟩:=I.cell x c e
  exact absurd (Nat.lt_of_lt_of_le q.lt (by rw [z];exact hb)) (Nat.lt_irrefl _)
 ·exact absurd (Nat.lt_of_lt_of_le (Heap.lt_size (I.pin p hp).1) (by rw [z];exact hb)) (Nat.lt_irrefl _)
structure vi (P:Program) (w:World) (K:Fg) (tg:Expr) (J:It) (fp:List Addr) (it:Addr) (tn:Nat->Heap->Prop):Prop where
 mem:it∈fp
 obj:∀i h,tn i h->∀b∈fp,∃o,h.get? b=some o/\∀v,o.data≠.cell v
 keep:∀i h h',tn i h->(∀b∈fp,∀o,h.get? b=some o->h'.get? b=some o)->tn i h'
 item:∀(X:Cx),X.prog=P->X.w=w->X.K=K->X.calm=true->∀(i:Nat) (pins:List (Addr×Obj)) (s:Shared) (σ:St) (H:Hp) (E:Value->Shared->Prop),Inv X pins σ H s->(∀b∈fp,ki X pins H b)->tn i s.heap->J.go i H ->
  wpAny (model P w) X.A (pyNext (.ref it)) (fun r s1=>∃u,r=some u /\
   wpAny (model P w) X.A (letOwnedTupleGo tg (.ref it) u) (fun _ s2=>∃x H',Inv X pins σ H' s2/\RelV x u/\J.yld i H x H'/\tn (i+1) s2.heap/\∀b∈fp,H' b=none) E s1) E s
 done:∀(X:Cx),X.prog=P->X.w=w->X.K=K->X.calm=true->∀(i:Nat) (pins:List (Addr×Obj)) (s:Shared) (σ:St) (H:Hp) (E:Value->Shared->Prop),Inv X pins σ H s->(∀b∈fp,ki X pins H b)->tn i s.heap->J.stop i H ->
  wpAny (model P w) X.A (pyNext (.ref it)) (fun r s1=>r=none/\Inv X pins σ H s1) E s
 self:∀(A:Around) (i:Nat) (s:Shared) (Q:Value->Shared->Prop) (E:Value->Shared->Prop),tn i s.heap->Q (.ref it) s->wpAny (model P w) A (pyIter (.ref it)) Q E s
abbrev TI:=St->Hp->(It->Hp->Prop)->Prop
noncomputable def Jb (X:Cx) (pins:List (Addr×Obj)) (σ:St) (tg:Expr) (R:It->Hp->Prop) (itv:Value) (s2:Shared):Prop:=
 ∃(it:Addr) (fp:List Addr) (tn:Nat->Heap->Prop) (J:It) (H':Hp),itv=.ref it/\Inv X pins σ H' s2/\vi X.prog X.w X.K tg J fp it tn/\tn 0 s2.heap/\(∀b∈fp,ki X pins H' b)/\R J H'
noncomputable def PI (X:Cx) (tg iter:Expr) (wi:TI):Prop:=
 ∀(pins:List (Addr×Obj)) (s:Shared) (σ:St) (H:Hp) (R:It->Hp->Prop),Inv X pins σ H s->wi σ H R ->
  wpAny (model X.prog X.w) X.A (eval iter X.env) (fun v s1=>wpAny (model X.prog X.w) X.A (pyIter v) (Jb X pins σ tg R) X.xe s1) X.xe s
theorem uN {M:Model} {A:Around} {E:Value->Shared->Prop} {s:Shared} {tg:Expr} {it:Addr} {u:Value} {o:Obj} {n:String} {vs:Array Value} {Q:Unit->Shared->Prop} (ho:s.heap.get? it=some o) (hc:o.cls=.type n) (hd:o.data=.fields vs)
  (hn:["enumerate", "zip", "dict_itemiterator", "dict_reverseitemiterator", "odict_iterator", "itertools.zip_longest", "itertools.pairwise"].contains n=false) (hQ:Q () s):wpAny M A (letOwnedTupleGo tg (.ref it) u) Q E s:=by
 unfold letOwnedTupleGo
 cases tg<;>first
  | exact JF hQ
  | (cases u<;>first
      | exact JF hQ
      | (refine JE (wpAny_load ho ?_)
         rw [hc,hd];show wpAny M A (if (["enumerate", "zip", "dict_itemiterator", "dict_reverseitemiterator", "odict_iterator", "itertools.zip_longest", "itertools.pairwise"].contains n&&vs[0]?==some (rawInt _))=true then _ else _) Q E s
         rw [if_neg (by intro h;rw [hn,Bool.false_and] at h;cases h)]
         exact JF hQ))
noncomputable def BN (K:Fg) (a:Addr):It:=
 ⟨fun i H=>∃xs x,SqL K H a xs/\xs[i]?=some x,fun i H x H'=>H'=H/\∀xs,SqL K H a xs->xs[i]?=some x,fun i H=>∃xs,SqL K H a xs/\xs.length<=i⟩
noncomputable def Fm (K:Fg) (a:Addr):It:=
 ⟨fun i H=>∃xs x,SqT K H a xs/\xs[i]?=some x,fun i H x H'=>H'=H/\∀xs,SqT K H a xs->xs[i]?=some x,fun i H=>∃xs,SqT K H a xs/\xs.length<=i⟩
noncomputable def BM (lo:Int) (n:Nat):It:=⟨fun i _=>i<n,fun i H x H'=>H'=H/\x=.int (lo+i),fun i _=>n<=i⟩
theorem qL {P:Program} {w:World} {K:Fg} {tg:Expr} (a it:Addr):vi P w K tg (BN K a) [it] it (fun i h=>h.IsListIter it a i) where
 mem:=by simp
 obj:=fun i h st b hb=>by
  have e:b=it:=by simpa using hb
  subst e;obtain ⟨o,e,c,d⟩:=st;exact ⟨o,e,fun v z=>by rw [d] at z;cases z⟩
 keep:=fun i h h' st k=>st.at fun o e=>k it (by simp) o e
 item:=by
  intro X hP hw hK hc i pins s σ H E I hf st hg;subst hP hw hK;obtain ⟨xs,x,hq,hx⟩:=hg;obtain ⟨its,rv,p,hz⟩:=I.list hq;obtain ⟨u,hu,ru⟩:=rv.get hx;obtain ⟨f0,f1,f2,f3,f4,f5⟩:=hf it (by simp)
  refine wpAny_pyNext_list_item st p.isList (x:=u) (by simpa using hu) fun h' st' sb=>?_
  have I1:Inv X pins σ H { s with heap:=h' }:=I.turned (t':=s.toks) (fun b o hb e=>(sb.2 b hb).trans e) f0 f1 f3 f4 f5
  obtain ⟨o,e,c,d⟩:=id st'
  exact ⟨u,rfl,uN (s:={ s with heap:=h' }) e c d (by decide) ⟨x,H,I1,ru,⟨rfl,fun ys hy=>by rw [I.list_inj hy hq];exact hx⟩,st',fun b hb=>(hf b hb).1⟩⟩
 done:=by
  intro X hP hw hK hc i pins s σ H E I hf st hg;subst hP hw hK;obtain ⟨xs,hq,hx⟩:=hg;obtain ⟨its,rv,p,hz⟩:=I.list hq;obtain ⟨f0,f1,f2,f3,f4,f5⟩:=hf it (by simp)
  have hl:=rv.length
  exact wpAny_pyNext_list_end (I.ok.hd hc) st p.isList (by simp;omega) fun h' eb=>⟨rfl,I.turned (t':=s.toks) (fun b o hb e=>eb b o hb e) f0 f1 f3 f4 f5⟩
 self:=fun _ _ _ _ _ st h=>wpAny_pyIter_listiter st h
theorem oj {P:Program} {w:World} {K:Fg} {tg:Expr} (a it:Addr):vi P w K tg (Fm K a) [it] it (fun i h=>h.IsTupleIter it a i) where
 mem:=by simp
 obj:=fun i h st b hb=>by
  have e:b=it:=by simpa using hb
  subst e;obtain ⟨o,e,c,d⟩:=st;exact ⟨o,e,fun v z=>by rw [d] at z;cases z⟩
 keep:=fun i h h' st k=>st.at fun o e=>k it (by simp) o e
 item:=by
  intro X hP hw hK hc i pins s σ H E I hf st hg;subst hP hw hK;obtain ⟨xs,x,hq,hx⟩:=hg;obtain ⟨its,rv,p,hz⟩:=I.tuple hq;obtain ⟨u,hu,ru⟩:=rv.get hx;obtain ⟨f0,f1,f2,f3,f4,f5⟩:=hf it (by simp)
  refine wpAny_pyNext_tuple_item st (show s.heap.IsTuple a its.toArray from p) (x:=u) (by simpa using hu) fun h' st' sb=>?_
  have I1:Inv X pins σ H { s with heap:=h' }:=I.turned (t':=s.toks) (fun b o hb e=>(sb.2 b hb).trans e) f0 f1 f3 f4 f5
  obtain ⟨o,e,c,d⟩:=id st'
  exact ⟨u,rfl,uN (s:={ s with heap:=h' }) e c d (by decide) ⟨x,H,I1,ru,⟨rfl,fun ys hy=>by rw [I.tuple_inj hy hq];exact hx⟩,st',fun b hb=>(hf b hb).1⟩⟩
 done:=by
  intro X hP hw hK hc i pins s σ H E I hf st hg;subst hP hw hK;obtain ⟨xs,hq,hx⟩:=hg;obtain ⟨its,rv,p,hz⟩:=I.tuple hq;obtain ⟨f0,f1,f2,f3,f4,f5⟩:=hf it (by simp)
  have hl:=rv.length
  exact wpAny_pyNext_tuple_end (I.ok.hd hc) st (show s.heap.IsTuple a its.toArray from p) (by simp;omega) fun h' eb=>⟨rfl,I.turned (t':=s.toks) (fun b o hb e=>eb b o hb e) f0 f1 f3 f4 f5⟩
 self:=fun _ _ _ _ _ st h=>wpAny_pyIter_tupleiter st h
theorem om {P:Program} {w:World} {K:Fg} {tg:Expr} (it:Addr) (lo:Int) (n:Nat):vi P w K tg (BM lo n) [it] it (fun i h=>IsRangeIter h it (lo+(i:Nat)*1) ((n:Int)-(i:Nat)) 1) where
 mem:=by simp
 obj:=fun i h st b hb=>by
  have e:b=it:=by simpa using hb
  subst e;exact ⟨_,st,fun v z=>by
   have z':Data.fields _=Data.cell v:=z
   cases z'⟩
 keep:=fun i h h' st k=>k it (by simp) _ st
 item:=by
  intro X hP hw hK hc i pins s σ H E I hf st hg;subst hP hw hK;obtain ⟨f0,f1,f2,f3,f4,f5⟩:=hf it (by simp)
  have W:=Walks.range (prog:=X.prog) (w:=X.w) (I.ok.hd hc) it lo 1 n
  refine W.item i s _ _ hg st fun v h' tk hv st' kk=>?_
  obtain ⟨t,rfl⟩:=hv;have I1:Inv X pins σ H { s with heap:=h',toks:=tk }:=I.turned (fun b o hb e=>kk b o (by simpa using hb) e) f0 f1 f3 f4 f5
  refine ⟨_,rfl,uN (s:={ s with heap:=h',toks:=tk }) (n := "range_iterator") st' rfl rfl (by decide) ⟨.int (lo+i),H,I1,⟨t,?_⟩,⟨rfl,rfl⟩,st',fun b hb=>(hf b hb).1⟩⟩
  rw [Int.mul_one]
 done:=by
  intro X hP hw hK hc i pins s σ H E I hf st hg;subst hP hw hK;obtain ⟨f0,f1,f2,f3,f4,f5⟩:=hf it (by simp)
  exact wpAny_pyNext_range_end (I.ok.hd hc) st (by have:n<=i:=hg;omega) fun h' eb=>⟨rfl,I.turned (t':=s.toks) (fun b o hb e=>eb b o hb e) f0 f1 f3 f4 f5⟩
 self:=fun _ _ _ _ _ st h=>wpAny_pyIter_rangeiter st h
section
variable {X:Cx} {tg:Expr}
noncomputable def qw (K:Fg) (tl:TE):TI:=fun σ H R=>tl σ H fun x H1=>∃a,x=.ref a/\(∃xs,SqL K H1 a xs)/\R (BN K a) H1
noncomputable def xq (K:Fg) (tl:TE):TI:=fun σ H R=>tl σ H fun x H1=>∃a,x=.ref a/\(∃xs,SqT K H1 a xs)/\R (Fm K a) H1
theorem qk {l:Expr} {tl:TE} (hl:PE X l tl):PI X tg l (qw X.K tl):=by
 intro pins s σ H R I h;refine b5 (hl pins s σ H _ I h) fun v s1 ⟨x,H1,I1,r1,q1⟩=>?_
 obtain ⟨a,e,⟨xs,hq⟩,q⟩:=q1;subst e
 cases r1;obtain ⟨its,rv,p,hz⟩:=I1.list hq;refine wpAny_pyIter_list p.isList ?_
 refine ⟨s1.heap.objs.size,[s1.heap.objs.size],_,_,H1,rfl,I1.kept (t':=s1.toks) fun b o e=>JG _ e,qL a _,⟨_,Heap.get?_push_size _ rfl,rfl,rfl⟩,fun b hb=>?_,q⟩
 have e:b=s1.heap.objs.size:=by simpa using hb
 subst e;exact I1.fpOk (JH _) (I1.hok.fresh (JH _))
theorem uf {l:Expr} {tl:TE} (hl:PE X l tl):PI X tg l (xq X.K tl):=by
 intro pins s σ H R I h;refine b5 (hl pins s σ H _ I h) fun v s1 ⟨x,H1,I1,r1,q1⟩=>?_
 obtain ⟨a,e,⟨xs,hq⟩,q⟩:=q1;subst e
 cases r1;obtain ⟨its,rv,p,hz⟩:=I1.tuple hq;refine wpAny_pyIter_tuple (show s1.heap.IsTuple a its.toArray from p) ?_
 refine ⟨s1.heap.objs.size,[s1.heap.objs.size],_,_,H1,rfl,I1.kept (t':=s1.toks) fun b o e=>JG _ e,oj a _,⟨_,Heap.get?_push_size _ rfl,rfl,rfl⟩,fun b hb=>?_,q⟩
 have e:b=s1.heap.objs.size:=by simpa using hb
 subst e;exact I1.fpOk (JH _) (I1.hok.fresh (JH _))
theorem mM {pins:List (Addr×Obj)} {σ:St} {H:Hp} {s:Shared} {R:It->Hp->Prop} {E:Value->Shared->Prop} {lo hi:Int} {t u v:Tok} {tk:Nat} (I:Inv X pins σ H s) (h1:-(2 ^ 62)<=lo) (h2:lo<2 ^ 62) (h3:-(2 ^ 62)<=hi) (h4:hi<2 ^ 62)
  (q:R (BM lo (hi-lo).toNat) H):wpAny (model X.prog X.w) X.A (pyIter (.ref s.heap.objs.size)) (Jb X pins σ tg R) E { s with heap:=s.heap.push { cls:=.type "range",data:=.fields #[.int lo t,.int hi u,.int 1 v] },toks:=tk }:=by
 refine wpAny_pyIter_range (IsRange.new ..) (small_one h1 h2 h3 h4) ?_
 have I1:Inv X pins σ H { s with heap:=s.heap.push { cls:=.type "range",data:=.fields #[.int lo t,.int hi u,.int 1 v] },toks:=tk }:=I.kept fun b o e=>JG _ e
 refine ⟨(s.heap.push { cls:=.type "range",data:=.fields #[.int lo t,.int hi u,.int 1 v] }).objs.size,[(s.heap.push { cls:=.type "range",data:=.fields #[.int lo t,.int hi u,.int 1 v] }).objs.size],_,_,H,rfl,
  I1.kept (t':=tk) fun b o e=>JG _ e,om _ lo (hi-lo).toNat,?_,fun b hb=>?_,q⟩
 ·have e1:lo+((0:Nat):Int)*1=lo:=by simp
  have e2:(((hi-lo).toNat:Nat):Int)-((0:Nat):Int)=Builtin.Range.rangeSize lo hi 1:=by rw [rangeSize_one];split<;>omega
  show IsRangeIter _ _ (lo+((0:Nat):Int)*1) ((((hi-lo).toNat:Nat):Int)-((0:Nat):Int)) 1
  rw [e1,e2];exact Heap.get?_push_size _ rfl
 ·have e:b=(s.heap.push { cls:=.type "range",data:=.fields #[.int lo t,.int hi u,.int 1 v] }).objs.size:=by simpa using hb
  subst e;exact I1.fpOk (JH _) (I1.hok.fresh (JH _))
noncomputable def yM (ta:TA):TI:=fun σ H R=>ta σ H fun vs H1=>∃j:Int,vs=[.int j]/\-(2 ^ 62)<=j/\j<2 ^ 62/\R (BM 0 j.toNat) H1
noncomputable def yL (ta:TA):TI:=fun σ H R=>ta σ H fun vs H1=>∃i j:Int,vs=[.int i,.int j]/\(-(2 ^ 62)<=i/\i<2 ^ 62/\-(2 ^ 62)<=j/\j<2 ^ 62)/\R (BM i (j-i).toNat) H1
theorem rd {a:Expr} {ta:TA} {p pos:Pos} (hg:Gl X "range") (hm:X.mg "range"=none) (ha:PA X [a] ta) (hs:starEach [a] X.env=[(false,eval a X.env)]:=by rfl):PI X tg (.Call (.Name "range" p) [a] [] pos) (yM ta):=by
 intro pins s σ H R I h;refine Call_ (vo I hg hm boot_range (PyProof.Rows.callWith_type1 (b5 (ha pos pins s σ H _ I h) fun us s1 ⟨vs,H1,I1,r1,q1⟩=>?_) hs rfl))
 obtain ⟨j,e,q1,q2,q⟩:=q1;subst e
 cases r1 with
 | cons r rr=>
  cases rr;obtain ⟨t,rfl⟩:=r;exact call_range_1 (mM I1 (by omega) (by omega) q1 q2 (by simpa using q))
theorem qZ {a b:Expr} {ta:TA} {p pos:Pos} (hg:Gl X "range") (hm:X.mg "range"=none) (ha:PA X [a,b] ta) (hs:starEach [a,b] X.env=[(false,eval a X.env),(false,eval b X.env)]:=by rfl) (hs2:starEach [b] X.env=[(false,eval b X.env)]:=by rfl) :
  PI X tg (.Call (.Name "range" p) [a,b] [] pos) (yL ta):=by
 intro pins s σ H R I h;refine Call_ (vo I hg hm boot_range (PyProof.Rows.callWith_type1 (b5 (ha pos pins s σ H _ I h) fun us s1 ⟨vs,H1,I1,r1,q1⟩=>?_) (by rw [hs,hs2]) (by rw [hs2];rfl)))
 obtain ⟨i,j,e,⟨q1,q2,q3,q4⟩,q⟩:=q1;subst e
 cases r1 with
 | cons r rr=>
  cases rr with
  | cons r' rr=>
   cases rr;obtain ⟨t,rfl⟩:=r;obtain ⟨t',rfl⟩:=r'
   exact call_range_2 (mM I1 q1 q2 q3 q4 q)
noncomputable def vW (wi:TI) (g:TG) (tb:TS):TS:=fun D σ H=>wi σ H fun J H1=>∃W:Nat->Nat->St->Hp->Prop,(∃m,W 0 m σ H1)/\∀i m σ H,W i m σ H ->
 (J.stop i H/\D.nx σ H)\/(J.go i H/\∃N:St->Hp->Prop,(∀σ' H',N σ' H'->∃m',m'<m/\W (i+1) m' σ' H')/\∀x H',J.yld i H x H'->g x σ H' fun σ2 H2=>tb { D with nx:=N,ct:=N,bk:=D.nx } σ2 H2)
noncomputable def je (fp:List Addr) (h:Heap):List (Addr×Obj):=fp.filterMap fun b=>(h.get? b).map fun o=>(b,o)
theorem Ez {fp:List Addr} {h:Heap} {b:Addr} {o:Obj} (hb:b∈fp) (e:h.get? b=some o):(b,o)∈je fp h:=List.mem_filterMap.mpr ⟨b,hb,by rw [e];rfl⟩
theorem rn {fp:List Addr} {h:Heap} {p:Addr×Obj} (hp:p∈je fp h):p.1∈fp/\h.get? p.1=some p.2:=by
 obtain ⟨b,hb,e⟩:=List.mem_filterMap.mp hp
 cases q:h.get? b with
 | none=>rw [q] at e;cases e
 | some o=>
  rw [q] at e;have e':(b,o)=p:=Option.some.inj e
  subst e'
  exact ⟨hb,q⟩
theorem Inv.pinned {pins:List (Addr×Obj)} {σ:St} {H:Hp} {s:Shared} {fp:List Addr} (I:Inv X pins σ H s) (hf:∀b∈fp,ki X pins H b) (ho:∀b∈fp,∃o,s.heap.get? b=some o/\∀v,o.data≠.cell v):Inv X (pins++je fp s.heap) σ H s:=
 I.pins_of fun p hp=>(Jx hp).elim (fun z=>I.pin p (Jv _ z)) fun z=>by
  obtain ⟨hb,e⟩:=rn z;obtain ⟨f0,f1,f2,_⟩:=hf p.1 hb;obtain ⟨o,e',d⟩:=ho p.1 hb;rw [e] at e';cases e'
  exact ⟨e,f0,f1,f2,d⟩
theorem Inv.unpinned {pins pl:List (Addr×Obj)} {σ:St} {H:Hp} {s:Shared} (I:Inv X (pins++pl) σ H s):Inv X pins σ H s:=I.pins_of fun p hp=>I.pin p (Jv _ (Jw _ hp))
theorem ud {iter:Expr} {body:List Stmt} {wi:TI} {g:TG} {tb:TS} {pos:Pos} (hp:PassesOwn (model X.prog X.w) X.A X.env X.xe) (hc:X.calm=true) (hi:PI X tg iter wi) (hg:PG X tg g) (hb:PSs X body tb)
  (hs:∀x,foldedSetIterable iter X.env x=pure x:=by intro _;rfl):PS X (.For tg iter body [] pos) (vW wi g tb):=by
 intro pins s σ H D I h;refine wpAny_For (b5 (hi pins s σ H _ I h) fun v s1 h1=>b5 h1 fun itv s2 h2=>?_) hs
 obtain ⟨it,fp,tn,J,H2,e,I2,T,st2,f2,W,⟨m0,w0⟩,turn⟩:=h2;subst e;have stat:∀{H':Hp},(∀b∈fp,H' b=none)->∀b∈fp,ki X pins H' b:=fun hn b hb=>⟨hn b hb,(f2 b hb).2⟩
 refine codeAny_forLoop_any (fun n s'=>∃i σ' H',Inv X pins σ' H' s'/\tn i s'.heap/\(∀b∈fp,H' b=none)/\W i n σ' H') ?_ m0 ⟨0,σ,H2,I2,st2,fun b hb=>(f2 b hb).1,w0⟩
 rintro n s3 ⟨i,σ3,H3,I3,st3,fr3,w3⟩
 rcases turn i n σ3 H3 w3 with ⟨stop,qn⟩ | ⟨go,N,hN,step⟩
 ·refine wpAny_passesOwn hp (b5 (T.done X rfl rfl rfl hc i pins s3 σ3 H3 X.xe I3 (stat fr3) st3 stop) fun r s4 ⟨hr,I4⟩=>?_)
  subst hr;exact wpAny_execs_nil ⟨σ3,H3,I4,qn⟩
 ·refine wpAny_passesOwn hp (b5 (T.item X rfl rfl rfl hc i pins s3 σ3 H3 X.xe I3 (stat fr3) st3 go) fun r s4 ⟨u,hr,h4⟩=>?_)
  subst hr;refine wpAny_passesOwn hp (b5 h4 fun _ s5 ⟨x,H5,I5,r5,y5,st5,fr5⟩=>?_)
  have I5':=I5.pinned (stat fr5) (T.obj _ _ st5)
  refine wpAny_passesOwn hp (b5 (hg _ s5 σ3 H5 x u _ I5' r5 (step x H5 y5)) fun _ s6 ⟨σ6,H6,I6,q6⟩=>?_)
  refine wpAny_passesOwn hp (b5 (hb _ s6 σ6 H6 _ I6 q6) fun f s7 q7=>?_)
  have again:∀{σ7:St} {H7:Hp},Inv X (pins++je fp s5.heap) σ7 H7 s7->N σ7 H7->∃m,m<n/\∃i σ' H',Inv X pins σ' H' s7/\tn i s7.heap/\(∀b∈fp,H' b=none)/\W i m σ' H':=fun {σ7 H7} I7 n7=>by
   obtain ⟨m',hm,w7⟩:=hN σ7 H7 n7;refine ⟨m',hm,i+1,σ7,H7,I7.unpinned,T.keep _ _ _ st5 fun b hb o e=>(I7.pin (b,o) (Jv _ (Jv _ (Ez hb e)))).1,fun b hb=>?_,w7⟩
   obtain ⟨o,e,d⟩:=T.obj _ _ st5 b hb;exact (I7.pin (b,o) (Jv _ (Jv _ (Ez hb e)))).2.1
  cases f with
  | next=>obtain ⟨σ7,H7,I7,n7⟩:=q7;exact again I7 n7
  | cont=>obtain ⟨σ7,H7,I7,n7⟩:=q7;exact again I7 n7
  | brk=>obtain ⟨σ7,H7,I7,q7⟩:=q7;exact ⟨σ7,H7,I7.unpinned,q7⟩
  | ret v=>obtain ⟨x7,σ7,H7,I7,r7,q7⟩:=q7;exact ⟨x7,σ7,H7,I7.unpinned,r7,q7⟩
end
theorem uT {K:Fg} {a:Addr} {xs:List V} {g:TG} {tb:TS} {D:fP} {σ:St} {H:Hp} (Pv:Nat->St->Hp->Prop) (h0:Pv 0 σ H) (hl:∀i σ H,i<=xs.length->Pv i σ H->SqL K H a xs)
  (hs:∀i x σ H,xs[i]?=some x->Pv i σ H->g x σ H fun σ2 H2=>tb { D with nx:=Pv (i+1),ct:=Pv (i+1),bk:=D.nx } σ2 H2) (hd:∀σ H,Pv xs.length σ H->D.nx σ H) :
  ∃W:Nat->Nat->St->Hp->Prop,(∃m,W 0 m σ H)/\∀i m σ H,W i m σ H ->
   ((BN K a).stop i H/\D.nx σ H)\/((BN K a).go i H/\∃N:St->Hp->Prop,(∀σ' H',N σ' H'->∃m',m'<m/\W (i+1) m' σ' H')/\∀x H',(BN K a).yld i H x H'->g x σ H' fun σ2 H2=>tb { D with nx:=N,ct:=N,bk:=D.nx } σ2 H2):=by
 refine ⟨fun i m σ H=>m=xs.length-i/\i<=xs.length/\Pv i σ H,⟨xs.length,by simp,Nat.zero_le _,h0⟩,?_⟩
 rintro i m σ H ⟨rfl,hi,p⟩
 have q:=hl i σ H hi p
 by_cases hlt:i<xs.length
 ·refine .inr ⟨⟨xs,xs[i],q,by simp [hlt]⟩,Pv (i+1),fun σ' H' p'=>⟨xs.length-(i+1),by omega,rfl,hlt,p'⟩,fun x H' y=>?_⟩
  obtain ⟨e,y⟩:=y;subst e;exact hs i x σ _ (y xs q) p
 ·have e:i=xs.length:=by omega
  subst e;exact .inl ⟨⟨xs,q,JH _⟩,hd σ H p⟩
abbrev R2:=V->V->Hp->VK->Prop
noncomputable def OpR (X:Cx) (f:Value->Value->Sem Value) (r:R2):Prop:=
 ∀(pins:List (Addr×Obj)) (s:Shared) (σ:St) (H:Hp) (x y:V) (v u:Value) (Q:VK),Inv X pins σ H s->RelV x v->RelV y u->r x y H Q ->
  wpAny (model X.prog X.w) X.A (f v u) (EP X pins σ Q) X.xe s
noncomputable def IY (X:Cx) (f:Value->Sem Value) (r:V->Hp->VK->Prop):Prop:=
 ∀(pins:List (Addr×Obj)) (s:Shared) (σ:St) (H:Hp) (x:V) (v:Value) (Q:VK),Inv X pins σ H s->RelV x v->r x H Q ->
  wpAny (model X.prog X.w) X.A (f v) (EP X pins σ Q) X.xe s
noncomputable def CallR (X:Cx) (f:Value) (r:List V->Hp->VK->Prop):Prop:=
 ∀(pins:List (Addr×Obj)) (s:Shared) (σ:St) (H:Hp) (xs:List V) (us:List Value) (Q:VK),Inv X pins σ H s->Vals xs us->r xs H Q ->
  wpAny (model X.prog X.w) X.A (call f us) (EP X pins σ Q) X.xe s
noncomputable def HZ (X:Cx) (r:V->Hp->(Bool->Hp->Prop)->Prop):Prop:=
 ∀(pins:List (Addr×Obj)) (s:Shared) (σ:St) (H:Hp) (x:V) (v:Value) (Q:Bool->Hp->Prop),Inv X pins σ H s->RelV x v->r x H Q ->
  wpAny (model X.prog X.w) X.A (truthy v) (TP X pins σ Q) X.xe s
noncomputable def vz (r:R2) (ta tb:TE):TE:=fun σ H Q=>ta σ H fun x H1=>tb σ H1 fun y H2=>r x y H2 Q
noncomputable def Il (r:V->Hp->VK->Prop) (ta:TE):TE:=fun σ H Q=>ta σ H fun x H1=>r x H1 Q
noncomputable def rI (C:Int->Int->Prop) (g:Int->Int->V):R2:=fun x y H Q=>∃i j,x=.int i/\y=.int j/\C i j/\Q (g i j) H
noncomputable def qg (g:Int->Int->V):R2:=fun x y H Q=>∃i j,x=.int i/\y=.int j/\Q (g i j) H
section
variable {X:Cx} {a b c:Expr} {ta tb tc:TE} {pos:Pos}
theorem BD (ha:PE X a ta) (hb:PE X b tb) {pins:List (Addr×Obj)} {s:Shared} {σ:St} {H:Hp} {R:V->V->Hp->Prop} (I:Inv X pins σ H s)
  (h:ta σ H fun x H1=>tb σ H1 fun y H2=>R x y H2) {Q:Value->Shared->Prop} {f:Value->Value->Sem Value}
  (hf:∀v u s2 x y H2,Inv X pins σ H2 s2->RelV x v->RelV y u->R x y H2->wpAny (model X.prog X.w) X.A (f v u) Q X.xe s2) :
  wpAny (model X.prog X.w) X.A (eval a X.env) (fun v s₁=>wpAny (model X.prog X.w) X.A (eval b X.env) (fun u s₂=>wpAny (model X.prog X.w) X.A (f v u) Q X.xe s₂) X.xe s₁) X.xe s:=by
 refine b5 (ha pins s σ H _ I h) fun v s1 ⟨x,H1,I1,r1,q1⟩=>?_
 refine b5 (hb pins s1 σ H1 _ I1 q1) fun u s2 ⟨y,H2,I2,r2,q2⟩=>?_
 exact hf v u s2 x y H2 I2 r1 r2 q2
theorem jf {op:Operator} {r:R2} (ho:OpR X (binaryOp op) r) (ha:PE X a ta) (hb:PE X b tb):PE X (.BinOp a op b pos) (vz r ta tb):=by
 intro pins s σ H Q I h;exact wpAny_BinOp (BD ha hb I h fun v u s2 x y H2 I2 rx ry q=>ho pins s2 σ H2 x y v u Q I2 rx ry q)
theorem Dc {op:UnaryOp} {r:V->Hp->VK->Prop} (ho:IY X (unaryOp op) r) (ha:PE X a ta):PE X (.UnaryOp op a pos) (Il r ta):=by
 intro pins s σ H Q I h;exact UnaryOp_ (b5 (ha pins s σ H _ I h) fun v s1 ⟨x,H1,I1,r1,q1⟩=>ho pins s1 σ H1 x v Q I1 r1 q1)
theorem EX {f:Value->Value->Sem Value} {C:Int->Int->Prop} {g:Int->Int->Int}
  (rule:∀(i j:Int) (t u:Tok) (s:Shared) (Q:Value->Shared->Prop) (E:Value->Shared->Prop),C i j->Q (.int (g i j) s.toks) { s with toks:=s.toks+1 }->wpAny (model X.prog X.w) X.A (f (.int i t) (.int j u)) Q E s) :
  OpR X f (rI C fun i j=>.int (g i j)):=by
 intro pins s σ H x y v u Q I rx ry h;obtain ⟨i,j,rfl,rfl,hc,q⟩:=h;obtain ⟨t,rfl⟩:=rx;obtain ⟨t',rfl⟩:=ry;exact rule i j t t' s _ _ hc ⟨.int (g i j),H,I.tok _,⟨_,rfl⟩,q⟩
theorem Dg {f:Value->Value->Sem Value} {g:Int->Int->Int}
  (rule:∀(i j:Int) (t u:Tok) (s:Shared) (Q:Value->Shared->Prop) (E:Value->Shared->Prop),Q (.int (g i j) s.toks) { s with toks:=s.toks+1 }->wpAny (model X.prog X.w) X.A (f (.int i t) (.int j u)) Q E s) :
  OpR X f (qg fun i j=>.int (g i j)):=by
 intro pins s σ H x y v u Q I rx ry h;obtain ⟨i,j,rfl,rfl,q⟩:=h;obtain ⟨t,rfl⟩:=rx;obtain ⟨t',rfl⟩:=ry;exact rule i j t t' s _ _ ⟨.int (g i j),H,I.tok _,⟨_,rfl⟩,q⟩
theorem wZ {f:Value->Value->Sem Value} {g:Int->Int->Bool}
  (rule:∀(i j:Int) (t u:Tok) (s:Shared) (Q:Value->Shared->Prop) (E:Value->Shared->Prop),Q (.bool (g i j)) s->wpAny (model X.prog X.w) X.A (f (.int i t) (.int j u)) Q E s) :
  OpR X f (qg fun i j=>.bl (g i j)):=by
 intro pins s σ H x y v u Q I rx ry h;obtain ⟨i,j,rfl,rfl,q⟩:=h;obtain ⟨t,rfl⟩:=rx;obtain ⟨t',rfl⟩:=ry;exact rule i j t t' s _ _ ⟨.bl (g i j),H,I,rfl,q⟩
noncomputable def Ih (i j:Int):Prop:=0<j/\j<1073741824
noncomputable def Ig (i j:Int):Prop:=0<=j/\j<=1000000/\i.natAbs<2 ^ 64
noncomputable def CMul (i j:Int):Prop:=(-(2 ^ 64)<i/\i<2 ^ 64)\/(-(2 ^ 64)<j/\j<2 ^ 64)
theorem CMul.ok {i j:Int} (h:CMul i j):IntMulOk i j:=by
 rcases h with ⟨h1,h2⟩ | ⟨h1,h2⟩
 ·exact .of_left (intBits_le_64 h1 h2)
 ·exact .of_right (intBits_le_64 h1 h2)
theorem AL:OpR X (binaryOp .Add) (qg fun i j=>.int (i+j)):=Dg fun _ _ _ _ _ _ _ q=>add_int q
theorem AD:OpR X (binaryOp .Sub) (qg fun i j=>.int (i-j)):=Dg fun _ _ _ _ _ _ _ q=>sub_int q
theorem AG:OpR X (binaryOp .Mult) (rI CMul fun i j=>.int (i*j)):=EX fun _ _ _ _ _ _ _ hc q=>mul_int q hc.ok
theorem wX:OpR X (binaryOp .FloorDiv) (rI Ih fun i j=>.int (i / j)):=EX fun i j _ _ _ _ _ hc q=>by
 have h1:(0:Int)<j:=hc.1
 have h2:j<1073741824:=hc.2
 exact floordiv_int (by omega) (by rw [Int.fdiv_eq_ediv_of_nonneg i (by omega)];exact q) (.inl (PyProof.noPylong_small (by omega)))
theorem AH:OpR X (binaryOp .Mod) (rI (fun _ j=>0<j) fun i j=>.int (i % j)):=EX fun i j _ _ _ _ _ hc q=>by
 have h1:(0:Int)<j:=hc
 exact mod_int' (by omega) (by rw [Int.fmod_eq_emod_of_nonneg i (by omega)];exact q)
theorem AE:OpR X (binaryOp .Pow) (rI Ig fun i j=>.int (i ^ j.toNat)):=EX fun _ _ _ _ _ _ _ hc q=>pow_int_small hc.1 hc.2.1 hc.2.2 q
end
noncomputable def scal:V->V->Bool
 | .non,.non=>true | .non,.int _=>true | .int _,.non=>true | .non,.bl _=>true | .bl _,.non=>true | .non,.str _=>true | .str _,.non=>true
 | .int _,.int _=>true | .bl _,.bl _=>true | .str _,.str _=>true | .byt _,.byt _=>true
 | .int _,.str _=>true | .str _,.int _=>true | .bl _,.str _=>true | .str _,.bl _=>true
 | _,_=>false
section
variable {X:Cx} {a b c:Expr} {ta tb tc:TE} {pos:Pos}
theorem BS {pins:List (Addr×Obj)} {σ:St} {H:Hp} {s:Shared} {Q:VK} {k k':Bool} (I:Inv X pins σ H s) (q:Q (.bl k) H) (e:k=k'):EP X pins σ Q (.bool k') s:=by
 subst e;exact ⟨.bl k,H,I,rfl,q⟩
theorem op_lt:OpR X (compareOp .Lt) (qg fun i j=>.bl (decide (i<j))):=wZ fun _ _ _ _ _ _ _ q=>lt_int q
theorem De:OpR X (compareOp .LtE) (qg fun i j=>.bl (decide (i<=j))):=wZ fun _ _ _ _ _ _ _ q=>le_int q
theorem Df:OpR X (compareOp .Gt) (qg fun i j=>.bl (decide (j<i))):=wZ fun _ _ _ _ _ _ _ q=>gt_int q
theorem op_ge:OpR X (compareOp .GtE) (qg fun i j=>.bl (decide (j<=i))):=wZ fun _ _ _ _ _ _ _ q=>ge_int q
theorem rg:OpR X (compareOp .Lt) (fun x y H Q=>∃i j,x=.str i/\y=.str j/\Q (.bl (decide (i.cps.toList<j.cps.toList))) H):=by
 intro pins s σ H x y v u Q I rx ry h;obtain ⟨i,j,rfl,rfl,q⟩:=h;obtain ⟨t,rfl⟩:=rx;obtain ⟨t',rfl⟩:=ry;exact lt_str (BS I q rfl)
theorem rh:OpR X (compareOp .In) (fun x y H Q=>∃i j,x=.str i/\y=.str j/\Q (.bl (!(Builtin.Str.occurrences j i 0 j.length 1).isEmpty)) H):=by
 intro pins s σ H x y v u Q I rx ry h;obtain ⟨i,j,rfl,rfl,q⟩:=h;obtain ⟨t,rfl⟩:=rx;obtain ⟨t',rfl⟩:=ry;exact in_str (BS I q rfl)
theorem AI:OpR X (compareOp .Is) (fun x y H Q=>y=.non/\Q (.bl (decide (x=.non))) H):=by
 intro pins s σ H x y v u Q I rx ry h;obtain ⟨rfl,q⟩:=h
 cases ry;refine is_none_gen (BS I q ?_)
 cases x<;>first
  | (cases rx;rfl)
  | (obtain ⟨t,rfl⟩:=rx;rfl)
theorem qp:OpR X (compareOp .IsNot) (fun x y H Q=>y=.non/\Q (.bl (!decide (x=.non))) H):=by
 intro pins s σ H x y v u Q I rx ry h;obtain ⟨rfl,q⟩:=h
 cases ry;refine isnot_none_gen (BS I q ?_)
 cases x<;>first
  | (cases rx;rfl)
  | (obtain ⟨t,rfl⟩:=rx;rfl)
theorem OpR.or {f:Value->Value->Sem Value} {r r':R2} (h:OpR X f r) (h':OpR X f r'):OpR X f (fun x y H Q=>r x y H Q\/r' x y H Q):=by
 intro pins s σ H x y v u Q I rx ry q;rcases q with q | q
 ·exact h pins s σ H x y v u Q I rx ry q
 ·exact h' pins s σ H x y v u Q I rx ry q
theorem wO {op:CmpOp} {r:R2} (ho:OpR X (compareOp op) r) (ha:PE X a ta) (hb:PE X b tb) (hm:behindInMarks op b=false):PE X (.Compare a [op] [b] pos) (vz r ta tb):=by
 intro pins s σ H Q I h;exact wpAny_Compare1 (BD ha hb I h fun v u s2 x y H2 I2 rx ry q=>ho pins s2 σ H2 x y v u Q I2 rx ry q) hm
noncomputable def sU (t:TE):TT:=fun σ H Q=>t σ H fun x H'=>∃k,x=.bl k/\Q k H'
theorem qi {op:CmpOp} {r:R2} (ho:OpR X (compareOp op) r) (ha:PE X a ta) (hb:PE X b tb) (hm:behindInMarks op b=false):PT X (.Compare a [op] [b] pos) (sU (vz r ta tb)):=by
 intro pins s σ H Q I h;refine wpAny_isTrue_Compare1 (b5 (ha pins s σ H _ I h) fun v s1 ⟨x,H1,I1,r1,q1⟩=>b5 (hb pins s1 σ H1 _ I1 q1) fun u s2 ⟨y,H2,I2,r2,q2⟩=>
  b5 (ho pins s2 σ H2 x y v u _ I2 r1 r2 q2) fun c s3 ⟨z,H3,I3,r3,k,e,q3⟩=>?_) hm
 subst e
 cases r3;exact wpAny_truthy_bool ⟨H3,I3,q3⟩
noncomputable def sW (r r':R2) (ta tb tc:TE):TE:=fun σ H Q=>ta σ H fun x H1=>tb σ H1 fun y H2=>r x y H2 fun z H3=>∃k,z=.bl k /\
 (if k=true then tc σ H3 fun w' H4=>r' y w' H4 Q else Q (.bl false) H3)
theorem um {op op':CmpOp} {r r':R2} (ho:OpR X (compareOp op) r) (ho':OpR X (compareOp op') r') (ha:PE X a ta) (hb:PE X b tb) (hc:PE X c tc)
  (hm:lastMarks [op,op'] [b,c]=false:=by with_unfolding_all rfl):PE X (.Compare a [op,op'] [b,c] pos) (sW r r' ta tb tc):=by
 intro pins s σ H Q I h;refine Compare_chain (b5 (ha pins s σ H _ I h) fun v s1 ⟨x,H1,I1,r1,q1⟩=>chain_link (b5 (hb pins s1 σ H1 _ I1 q1) fun u s2 ⟨y,H2,I2,r2,q2⟩=>
  b5 (ho pins s2 σ H2 x y v u _ I2 r1 r2 q2) fun d s3 ⟨z,H3,I3,r3,k,e,q3⟩=>?_)) hm
 subst e
 cases r3;refine wpAny_truthy_bool ?_
 cases k with
 | false=>exact ite_ff ⟨.bl false,H3,I3,rfl,q3⟩
 | true=>exact ite_tt (chain_last (b5 (hc pins s3 σ H3 _ I3 q3) fun w' s4 ⟨z',H4,I4,r4,q4⟩=>ho' pins s4 σ H4 y z' u w' Q I4 r2 r4 q4))
noncomputable def BH (K:Fg) (x:V) (H:Hp) (k:Bool):Prop:=
 match x with
 | .non=>k=false
 | .bl b=>k=b
 | .int i=>k=(i != 0)
 | .str y=>y.length<=sizeLine/\k=((y.length:Int) != 0)
 | .byt y=>y.size<=sizeLine/\k=((y.size:Int) != 0)
 | .ref p=>(∃xs,SqL K H p xs/\k=!xs.isEmpty)\/(∃xs,SqT K H p xs/\k=!xs.isEmpty)\/∃kvs,H p=some (.dK kvs)/\k=!kvs.isEmpty
 | _=>False
theorem oW {κ:Type} {kvs:List (κ×V)} {vs:List (κ×Value)} (r:KV kvs vs):(!vs.isEmpty)=!kvs.isEmpty:=by
 cases r<;>rfl
theorem ju {xs:List V} {its:List Value} (r:Vals xs its):(!its.toArray.isEmpty)=!xs.isEmpty:=by
 cases r<;>simp
theorem zc:(sizeLine:Nat)<2 ^ 63:=by rw [sizeLine_eq];decide
theorem zr:HZ X (fun x H Q=>∃k,BH X.K x H k/\Q k H):=by
 intro pins s σ H x v Q I rx h;obtain ⟨k,e,q⟩:=h;have hl:=zc
 have hs:sizeLine=16777216:=sizeLine_eq
 cases x with
 | non=>
  cases rx;have e':k=false:=e
  subst e'
  exact truthy_none ⟨H,I,q⟩
 | bl b=>
  cases rx;have e':k=b:=e
  subst e'
  exact wpAny_truthy_bool ⟨H,I,q⟩
 | int i=>
  obtain ⟨t,rfl⟩:=rx;have e':k=(i != 0):=e
  subst e'
  exact PySem.P.truthy_int ⟨H,I,q⟩
 | str y=>
  obtain ⟨t,rfl⟩:=rx;obtain ⟨hy,e'⟩:y.length<=sizeLine/\k=((y.length:Int) != 0):=e
  subst e'
  exact PySem.P.truthy_str (by omega) ⟨H,I.tok _,q⟩
 | byt y=>
  obtain ⟨t,rfl⟩:=rx;obtain ⟨hy,e'⟩:y.size<=sizeLine/\k=((y.size:Int) != 0):=e
  subst e'
  exact PySem.W.truthy_bytes (by omega) ⟨H,I.tok _,q⟩
 | ref p=>
  cases rx;have e':(∃xs,SqL X.K H p xs/\k=!xs.isEmpty)\/(∃xs,SqT X.K H p xs/\k=!xs.isEmpty)\/∃kvs,H p=some (.dK kvs)/\k=!kvs.isEmpty:=e
  rcases e' with ⟨xs,hx,e'⟩ | ⟨xs,hx,e'⟩ | ⟨kvs,hx,e'⟩
  ·subst e'
   obtain ⟨its,r,pl,hz⟩:=I.list hx;have hlen:=r.length
   exact wpAny_truthy_list pl.isList (by simp only [size_toArray];omega) ⟨H,I.tok _,by rw [ju r];exact q⟩
  ·subst e'
   obtain ⟨its,r,pl,hz⟩:=I.tuple hx;have hlen:=r.length
   exact truthy_tuple pl (by simp only [size_toArray];omega) ⟨H,I.tok _,by rw [ju r];exact q⟩
  ·subst e'
   obtain ⟨hz,hS,vs,r,m⟩:kvs.length<=sizeLine/\(p==sysModules)=false/\∃vs,KV kvs vs/\s.heap.DictOf (ly X.prog X.w) p vs:=I.hok p _ hx
   have hlen:kvs.length=vs.length:=Paired.length r
   exact wpAny_truthy_dict hS m (by omega) ⟨H,I.tok _,by rw [oW r];exact q⟩
 | _=>exact (show False from e).elim
theorem ua (ha:PE X a ta) (he:∀whole,isTrue a X.env whole=(do let v <-whole;standAt a.pos;holding [v] (truthy v))) :
  PT X a (fun σ H Q=>ta σ H fun x H'=>∃k,BH X.K x H' k/\Q k H'):=by
 intro pins s σ H Q I h;exact isTrue_plain (b5 (ha pins s σ H _ I h) fun v s1 ⟨x,H1,I1,r1,q1⟩=>zr pins s1 σ H1 x v Q I1 r1 q1) (he _)
theorem vals1 {x:V} {us:List Value} (r:Vals [x] us):∃u,us=[u]/\RelV x u:=by
 cases r with
 | cons r1 r2=>cases r2;exact ⟨_,rfl,r1⟩
theorem rX:CallR X (.type "int") (fun xs H Q=>(∃i,xs=[.int i]/\Q (.int i) H)\/∃k,xs=[.bl k]/\Q (.int (if k then 1 else 0)) H):=by
 intro pins s σ H xs us Q I r h;rcases h with ⟨i,rfl,q⟩ | ⟨k,rfl,q⟩
 ·obtain ⟨u,rfl,t,rfl⟩:=vals1 r
  exact call_int_int ⟨.int i,H,I,⟨_,rfl⟩,q⟩
 ·obtain ⟨u,rfl,r1⟩:=vals1 r
  cases r1;exact call_int_bool ⟨.int (if k then 1 else 0),H,I.tok _,⟨_,rfl⟩,q⟩
end
structure ObjM (h:Heap) (x dx C:Addr) (mA:Str->Option Value):Prop where
 obj:h.get? x=some (PySem.W.instObj C dx)
 ns:h.Ns1 dx mA
 ne:dx≠x
theorem rB {h:Heap} {dx:Addr} {mA:Str->Option Value} (n:h.Ns1 dx mA):∃od,h.get? dx=some od/\∀name,PySem.W.lookIn name od=some (mA name):=by
 obtain ⟨o,es,ep,ho,hd,hk,_,hm⟩:=n;refine ⟨o,ho,fun name=>?_⟩
 have e:=hm name
 unfold nsFind findBy at e;rw [<-Array.find?_toList] at e;unfold PySem.W.lookIn;rw [hd];dsimp only;split
 ·rename_i y q
  rw [q] at e;exact congrArg some e
 ·rename_i q
  rw [q] at e;have a:es.toList.any (·.refKey)=false:=by
   rw [List.any_eq_false];intro y hy;obtain ⟨z,t,hkey⟩:=hk y (Array.mem_toList_iff.mp hy);simp [DictEntry.refKey,hkey]
  have a':¬es.toList.any (·.refKey)=true:=by rw [a];exact Bool.false_ne_true
  rw [if_neg a'];exact congrArg some e
theorem ObjM.look {h:Heap} {x dx C:Addr} {mA:Str->Option Value} (I:ObjM h x dx C mA):∃od,PySem.W.InstAt h x (PySem.W.instObj C dx) C (some od)/\∀name,PySem.W.lookIn name od=some (mA name):=
 let ⟨od,ho,hl⟩:=rB I.ns
 ⟨od,⟨I.obj,rfl,rfl,ho⟩,hl⟩
section
variable {P:Program} {w:World} {H H':Hp} {h h':Heap} {a C dx:Addr} {fs fs':List (Str×V)}
theorem xm (hok:HOk P w H h) (e:H a=some (.ins C dx fs)):∃mA,ObjM h a dx C mA/\(∀f,BK (fs.lookup f) (mA f))/\PySem.Within mA (fs.map (·.1))/\fs.length<=1000/\H dx=some (.own a):=by
 obtain ⟨d,z,ne,ob,mA,n,r,q⟩:=(show ObjOk P w H h a (.ins C dx fs) from hok a _ e);exact ⟨mA,⟨ob,n,ne⟩,r,q,z,d⟩
end
structure Cls (K:Fg) (C:Addr):Prop where
 pg:PySem.W.plainGet K C Str.empty=true
 hd:PySem.W.hasDictIn K C=true
 po:PySem.W.plainOver K C=true
 sa:PySem.W.findIn K (.ref C) "__setattr__"=some (some (.builtin "object.__setattr__"))
theorem Cls.get {K:Fg} {C:Addr} (c:Cls K C) (f:Str):PySem.W.plainGet K C f=true:=c.pg
structure Con (K:Fg) (C:Addr) (f:Str) (v:V) (u:Value):Prop where
 at_:PySem.W.findIn K (.ref C) f=some (some u)
 rel:RelV v u
 get:PySem.W.specialIn K u "__get__"=some none
 cp:PySem.W.copiedNames.contains f=false
section
variable {X:Cx} {pins:List (Addr×Obj)} {σ:St} {H:Hp} {s:Shared} {A:Around} {E:Value->Shared->Prop} {Q:Value->Shared->Prop} {c:Value} {b:Bool}
inductive iR (K:Fg) (H:Hp):V->Value->Prop where
 | non:iR K H .non (.type "NoneType")
 | bl (x:Bool):iR K H (.bl x) (.type "bool")
 | int (i:Int):iR K H (.int i) (.type "int")
 | str (x:Str):iR K H (.str x) (.type "str")
 | flt (x:UInt64):iR K H (.flt x) (.type "float")
 | lst {a:Addr} {xs:List V} (e:H a=some (.lst xs)):iR K H (.ref a) (.type "list")
 | frz {a:Addr} {o:Obj} {xs:List V} (e:H a=some (.frz o (.lst xs))):iR K H (.ref a) (.type "list")
 | tup {a:Addr} {xs:List V} (e:H a=some (.tup xs)):iR K H (.ref a) (.type "tuple")
 | dK {a:Addr} {kvs:List (kN×V)} (e:H a=some (.dK kvs)):iR K H (.ref a) (.type "dict")
 | dT {a:Addr} {kvs:List (List kN×V)} (e:H a=some (.dT kvs)):iR K H (.ref a) (.type "dict")
 | ins {a C dx:Addr} {fs:List (Str×V)} (e:H a=some (.ins C dx fs)) (cl:Cls K C) (ha:PySem.W.findIn K (.ref C) "__class__"=some (some (.builtin "object.__class__")))
   (hn:PySem.W.specialIn K (.builtin "object.__class__") "__get__"=some (some (.builtin "getset_descriptor.__get__"))) (htk:PySem.W.takesIn K (.builtin "object.__class__")=some true)
   (hm:PySem.W.mroIn K C (.type "object")=some true):iR K H (.ref a) (.ref C)
theorem zh {x:V} {u t:Value} (I:Inv X pins σ H s) (rx:RelV x u) (ty:iR X.K H x t) (e:PySem.W.kitOne X.K t c=some b) (h:∀tk,Q (.bool b) { s with toks:=tk }) :
  wpAny (model X.prog X.w) A (call (.builtin "isinstance") [u,c]) Q E s:=by
 cases ty with
 | non=>cases (show u=Value.none from rx);exact PySem.W.kia_one PySem.W.kitx_none I.kIn True.intro e nofun h
 | bl y=>cases (show u=Value.bool y from rx);exact PySem.W.kia_one PySem.W.kitx_bool I.kIn True.intro e nofun h
 | int i=>obtain ⟨t,q⟩:=(show ∃t,u=Value.int i t from rx);cases q;exact PySem.W.kia_one PySem.W.kitx_int I.kIn True.intro e nofun h
 | str y=>obtain ⟨t,q⟩:=(show ∃t,u=Value.str y t from rx);cases q;exact PySem.W.kia_one PySem.W.kitx_str I.kIn True.intro e nofun h
 | flt y=>obtain ⟨t,q⟩:=(show ∃t,u=Value.float y t from rx);cases q;exact PySem.W.kia_one PySem.W.kitx_float I.kIn True.intro e nofun h
 | @lst a xs ea=>
  cases (show u=Value.ref a from rx)
  obtain ⟨_,_,n,_,h1⟩:=(show ObjOk X.prog X.w H s.heap a (.lst xs) from I.hok a _ ea);exact PySem.W.kia_one PySem.W.kitx_list I.kIn ⟨_,h1,rfl⟩ e nofun h
 | @frz a ob xs ea=>
  cases (show u=Value.ref a from rx)
  obtain ⟨_,_,_,n,_,h1⟩:=(show ObjOk X.prog X.w H s.heap a (.frz ob (.lst xs)) from I.hok a _ ea);exact PySem.W.kia_one PySem.W.kitx_list I.kIn ⟨_,h1,rfl⟩ e nofun h
 | @tup a xs ea=>
  cases (show u=Value.ref a from rx)
  obtain ⟨_,_,_,p⟩:=(show ObjOk X.prog X.w H s.heap a (.tup xs) from I.hok a _ ea);obtain ⟨o,h1,h2,_⟩:=p;exact PySem.W.kia_one PySem.W.kitx_tuple I.kIn ⟨o,h1,h2⟩ e nofun h
 | @dK a kvs ea=>
  cases (show u=Value.ref a from rx)
  obtain ⟨_,_,vs,_,p⟩:=(show ObjOk X.prog X.w H s.heap a (.dK kvs) from I.hok a _ ea);obtain ⟨o,es,ep,h1,h2,_⟩:=p;exact PySem.W.kia_one PySem.W.kitx_dict I.kIn ⟨o,h1,h2.1⟩ e nofun h
 | @dT a kvs ea=>
  cases (show u=Value.ref a from rx)
  obtain ⟨_,_,xs,_,o,es,ep,h1,h2,_⟩:=(show ObjOk X.prog X.w H s.heap a (.dT kvs) from I.hok a _ ea);exact PySem.W.kia_one PySem.W.kitx_dict I.kIn ⟨o,h1,h2.1⟩ e nofun h
 | @ins a C dx fs ea cl ha hn htk hm=>
  cases (show u=Value.ref a from rx)
  obtain ⟨mA,O,_⟩:=xm I.hok ea;obtain ⟨od,J,_⟩:=O.look;exact PySem.W.kia_one (PySem.W.kitx_own (cl.get _) cl.hd ha hn htk hm) I.kIn J e nofun h
end
structure Room (k:Nat) (A:Around):Prop where
 hd:A.handled=none
 dp:A.depth+3*k+5<recursionLimit
 un:A.units+16*k+200<cLine
 gd:A.guards=some []
theorem Room.mono {j k:Nat} {A:Around} (r:Room k A) (h:j<=k):Room j A:=⟨r.hd,by have:=r.dp;omega,by have:=r.un;omega,r.gd⟩
theorem Room.deeper {k:Nat} {A:Around} (r:Room (k+1) A) (env:Env):Room k (A.deeper env):=
 ⟨r.hd,by have:=r.dp;show A.depth+1+3*k+5<_;omega,by have:=r.un;show A.units+3+16*k+200<_;omega,r.gd⟩
theorem Room.depth {k:Nat} {A:Around} (r:Room k A):A.depth<recursionLimit:=by have:=r.dp;omega
theorem Room.units {k:Nat} {A:Around} (r:Room k A):A.units+64<cLine:=by have:=r.un;omega
noncomputable def gD:TA:=fun _ H Q=>Q [] H
noncomputable def cv (ta:TE) (tr:TA):TA:=fun σ H Q=>ta σ H fun x H1=>tr σ H1 fun xs H2=>Q (x::xs) H2
section
variable {X:Cx} {e:Expr} {es:List Expr} {te:TE} {t:TA} {pos:Pos}
theorem sg:PA X [] gD:=fun _ _ _ _ H Q I h=>Calls.spliced_nil ⟨[],H,I,.nil,h⟩
theorem lR (ha:PE X e te) (hr:PA X es t) (hs:starEach (e::es) X.env=(false,eval e X.env)::starEach es X.env:=by rfl):PA X (e::es) (cv te t):=by
 intro pos pins s σ H Q I h;rw [hs];show wpAny _ _ (spliced ((false,eval e X.env)::backTo pos (starEach es X.env))) _ _ s
 refine Calls.spliced_cons (b5 (ha pins s σ H _ I h) fun u s1 ⟨x,H1,I1,r1,q1⟩=>?_)
 exact b5 (hr pos pins s1 σ H1 _ I1 q1) fun us s2 ⟨xs,H2,I2,r2,q2⟩=>⟨x::xs,H2,I2,.cons r1 r2,q2⟩
noncomputable def zt (t:TA):TE:=fun σ H Q=>t σ H fun xs H1=>xs.length<=sizeLine/\∀p,H1 p=none->Q (.ref p) (b9 H1 p (.tup xs))
noncomputable def CG (t:TA):TE:=fun σ H Q=>t σ H fun xs H1=>xs.length<=sizeLine/\∀p,H1 p=none->Q (.ref p) (b9 H1 p (.lst xs))
theorem uh {x1} (h:PA X es t):PE X (.Tuple es x1 pos) (zt t):=by
 intro pins s σ H Q I hq;refine wpAny_Tuple_spliced (b5 (h pos pins s σ H _ I hq) fun us s1 ⟨xs,H1,I1,r,z,q⟩=>⟨by rw [<-r.length];exact z,?_⟩)
 have hf:H1 s1.heap.objs.size=none:=I1.hok.fresh (JH _)
 refine ⟨.ref s1.heap.objs.size,b9 H1 s1.heap.objs.size (.tup xs),I1.laid (t':=s1.toks) (fun b u e=>JG _ e) (JH _) ?_,rfl,q _ hf⟩
 exact ⟨z,us,r,⟨_,Heap.get?_push_size _ rfl,rfl,_,rfl⟩⟩
theorem Ax (h:PA X es t):PE X (.List es pos) (CG t):=by
 intro pins s σ H Q I hq;refine wpAny_List_spliced (b5 (h pos pins s σ H _ I hq) fun us s1 ⟨xs,H1,I1,r,z,q⟩=>⟨by rw [<-r.length];exact z,?_⟩)
 have hf:H1 s1.heap.objs.size=none:=I1.hok.fresh (JH _)
 refine ⟨.ref s1.heap.objs.size,b9 H1 s1.heap.objs.size (.lst xs),I1.laid (t':=s1.toks) (fun b u e=>JG _ e) (JH _) ?_,rfl,q _ hf⟩
 exact ⟨z,us,0,r,Heap.get?_push_size _ rfl⟩
end
abbrev Sp:=List V->Hp->VK->XK->Prop
abbrev vA:=List Env->Hp->Shared->XK->Value->Shared->Prop
structure ye (P:Program) (w:World) (K:Fg) (mg:Str->Option Value) (base:Heap) (A:Around) (outer:List Env) (s:Shared) (H:Hp):Prop where
 frames:A.frames=some outer
 mod:Mod K mg base
 bs:∀b o,base.get? b=some o->s.heap.get? b=some o/\H b=none
 bsz:base.objs.size<=s.heap.objs.size
 funs:s.heap.FunFrames base outer
 frf:∀b∈uS outer,H b=none
 hok:HOk P w H s.heap
 bare:AllBare s.gens
noncomputable def CE (outer:List Env) (P:Program) (w:World) (H:Hp) (s:Shared) (Q:VK) (u:Value) (s':Shared):Prop:=
 ∃v H',s'.os=s.os/\AllBare s'.gens/\Un (uS outer) [] H H' s.heap s'.heap/\HOk P w H' s'.heap/\RelV v u/\Q v H'
noncomputable def CR (CX:vA) (outer:List Env) (P:Program) (w:World) (H:Hp) (s:Shared) (Q:VK) (E:XK) (r:Result) (s':Shared):Prop:=
 match r with
 | .ok (.ret u)=>CE outer P w H s Q u s'
 | .ok _=>False
 | .error e=>CX outer H s E e s'
structure e8 (P:Program) (w:World) (K:Fg) (mg:Str->Option Value) (base:Heap) (CX:vA) (k:Nat) (f:Addr) (fd:FuncData) (ps:List Str) (sp:Sp):Prop where
 len:∀vs H Q E,sp vs H Q E->vs.length=ps.length
 run:∀(A:Around) (outer:List Env) (s:Shared) (H:Hp) (args:Args) (us:List Value) (vs:List V) (Q:VK) (E:XK),Room k A->ye P w K mg base A outer s H->BindsTo s fd args (ps.zip us)->Vals vs us->sp vs H Q E ->
  codeAny (model P w) A (.call (.ref f) args) (CR CX outer P w H s Q E) s
section
variable {X:Cx} {pins:List (Addr×Obj)} {σ:St} {H:Hp} {s s':Shared}
theorem Inv.env0 (I:Inv X pins σ H s):ye X.prog X.w X.K X.mg X.base X.A X.stack s H:=
 ⟨I.ok.frames,I.ok.mod,I.bs,Nat.le_trans I.ok.bsz I.sz,I.stack,I.stkFree,I.hok,I.bare⟩
theorem Inv.after {Q:VK} {u:Value} (I:Inv X pins σ H s) (h:CE X.stack X.prog X.w H s Q u s'):EP X pins σ Q u s':=by
 obtain ⟨v,H',os,bare,un,hok,r,q⟩:=h;obtain ⟨hh,g,d,t,os'⟩:=s'
 obtain rfl:os'=s.os:=os
 exact ⟨v,H',I.call (h':=hh) (g':=g) (d':=d) (t':=t) (ch:=[]) un hok bare (fun b z=>absurd z (by simp)),r,q⟩
end
noncomputable def fh (sp:Sp) (dvs:List V) (E:XK) (t:TA):TE:=fun σ H Q=>t σ H fun vs H1=>sp (vs++dvs) H1 Q E
noncomputable def Binds (K:Fg) (fd:FuncData) (ps:List Str) (ds:List Value):Prop:=
 ∀(s:Shared) (us:List Value),K.In s.heap->(us++ds).length=ps.length->BindsTo s fd ⟨us,[]⟩ (ps.zip (us++ds))
theorem Binds.all {K:Fg} {fd:FuncData} {ps:List Str} (h:∀us:List Value,us.length=ps.length->bindArgs fd ⟨us,[]⟩=pure (ps.zip us)):Binds K fd ps []:=fun s us _ hl=>by
 rw [append_nil] at hl ⊢;exact .of_eq (h us hl)
noncomputable def pF (CX:vA) (X:Cx) (E:XK):Prop:=∀(pins:List (Addr×Obj)) (σ:St) (H:Hp) (s:Shared) (e:Value) (s':Shared),Inv X pins σ H s->CX X.stack H s E e s'->X.xe e s'
section
variable {X:Cx} {CX:vA} {k:Nat} {f C:Addr} {fd:FuncData} {ps:List Str} {sp:Sp} {dvs:List V} {ds:List Value} {E:XK} {x m:Str} {p pos apos:Pos} {e o:Expr} {es:List Expr} {ta:TE} {t:TA}
theorem zC {pins:List (Addr×Obj)} {σ:St} {H:Hp} {s:Shared} {Q:VK} {us:List Value} {vs:List V} (F:e8 X.prog X.w X.K X.mg X.base CX k f fd ps sp) (hr:Room k X.A) (hb:Binds X.K fd ps ds) (hd:Vals dvs ds) (hx:pF CX X E)
  (I:Inv X pins σ H s) (r:Vals vs us) (h:sp (vs++dvs) H Q E):wpAny (model X.prog X.w) X.A (call (.ref f) us) (EP X pins σ Q) X.xe s:=by
 have r2:Vals (vs++dvs) (us++ds):=r.append hd
 have hl:(us++ds).length=ps.length:=by rw [<-r2.length];exact F.len _ _ _ _ h
 refine wpAny_call (codeAny_mono (F.run X.A X.stack s H ⟨us,[]⟩ (us++ds) (vs++dvs) Q E hr I.env0 (hb s us I.kIn hl) r2 h) fun r s' hq=>?_)
 cases r with
 | error e=>exact hx pins σ H s e s' I hq
 | ok fl=>
  cases fl with
  | ret u=>exact I.after hq
  | next=>exact False.elim hq
  | brk=>exact False.elim hq
  | cont=>exact False.elim hq
theorem yj (F:e8 X.prog X.w X.K X.mg X.base CX k f fd ps sp) (hr:Room k X.A) (hg:Gl X x) (hm:X.mg x=some (.ref f)) (hk:PySem.W.keepIn X.K (.ref f)=true) (hb:Binds X.K fd ps ds) (hd:Vals dvs ds) (hx:pF CX X E)
  (ha:PA X (e::es) t) (hdb:(x==("__debug__":Str))=false:=by decide) (he:starEach (e::es) X.env=(false,eval e X.env)::starEach es X.env:=by rfl) (hpl:(backTo pos (starEach es X.env)).any (·.1)=false:=by rfl) :
  PE X (.Call (.Name x p) (e::es) [] pos) (fh sp dvs E t):=by
 intro pins s σ H Q I h;refine wpAny_Call_Name_kw (Ee I hg hm ?_ hdb)
 refine PySem.W.callWith_K (h₀:=X.base) I.ok.mod.kin hk (b5 (ha pos pins s σ H _ I h) fun us s1 ⟨vs,H1,I1,r,q⟩=>⟨I1.kIn,?_⟩) he hpl
 exact zC F hr hb hd hx I1 r q
end
structure cO (N P:List Str) (sc:Scope):Prop where
 kind:sc.kind=.function
 co:sc.isCoroutine=false
 gen:sc.isGenerator=false
 nd:N.Nodup
 pre:N.take P.length=P
 par:∀x∈P,sc.names.lookup x=some .local\/sc.names.lookup x=some .cell
 nofree:∀y∈sc.names,y.2≠.free
theorem kJ {kindOf:Str->Option NameKind} {x:Str}:∀{binds:List (Str×Value)} {m:Str->Option Value},(∀v,(x,v)∉binds)->bindL kindOf binds m x=m x
 | [],_,_=>rfl
 | (n,v)::r,m,h=>by
  unfold bindL;rw [kJ fun w hw=>h w (JB _ hw)]
  split
  ·have:x≠n:=by rintro rfl;exact h v mem_cons_self
   simp [this]
  ·rfl
theorem kL {kindOf:Str->Option NameKind} {x:Str}:∀{binds:List (Str×Value)} {m:Str->Option Value},(∀v,(x,v)∉binds)->bindC kindOf binds m x=m x
 | [],_,_=>rfl
 | (n,v)::r,m,h=>by
  unfold bindC;rw [kL fun w hw=>h w (JB _ hw)]
  split
  ·rfl
  ·have:x≠n:=by rintro rfl;exact h v mem_cons_self
   simp [this]
theorem kK {kindOf:Str->Option NameKind} {x:Str} {v:Value}:∀{P:List Str} {vs:List Value} {i:Nat} {m:Str->Option Value},P.Nodup->P[i]?=some x->vs[i]?=some v->kindOf x=some .local ->
  bindL kindOf (P.zip vs) m x=some v
 | [],_,_,_,_,h,_,_=>by simp at h
 | _::_,[],_,_,_,_,h,_=>by simp at h
 | p::P,w::vs,0,m,nd,h1,h2,hk=>by
  simp at h1 h2;subst h1;subst h2;show bindL kindOf ((p,w)::P.zip vs) m p=_
  unfold bindL;rw [kJ fun v hv=>(List.nodup_cons.mp nd).1 (List.of_mem_zip hv).1,if_pos hk]
  simp
 | p::P,w::vs,i+1,m,nd,h1,h2,hk=>by
  show bindL kindOf ((p,w)::P.zip vs) m x=_
  unfold bindL;exact kK (i:=i) (List.nodup_cons.mp nd).2 (by simpa using h1) (by simpa using h2) hk
theorem kM {kindOf:Str->Option NameKind} {x:Str} {v:Value}:∀{P:List Str} {vs:List Value} {i:Nat} {m:Str->Option Value},P.Nodup->P[i]?=some x->vs[i]?=some v->kindOf x≠some .local ->
  bindC kindOf (P.zip vs) m x=some v
 | [],_,_,_,_,h,_,_=>by simp at h
 | _::_,[],_,_,_,_,h,_=>by simp at h
 | p::P,w::vs,0,m,nd,h1,h2,hk=>by
  simp at h1 h2;subst h1;subst h2;show bindC kindOf ((p,w)::P.zip vs) m p=_
  unfold bindC;rw [kL fun v hv=>(List.nodup_cons.mp nd).1 (List.of_mem_zip hv).1,if_neg hk]
  simp
 | p::P,w::vs,i+1,m,nd,h1,h2,hk=>by
  show bindC kindOf ((p,w)::P.zip vs) m x=_
  unfold bindC;exact kM (i:=i) (List.nodup_cons.mp nd).2 (by simpa using h1) (by simpa using h2) hk
noncomputable def start (N:List Str) (vs:List V):St:=vs.map some++List.replicate (N.length-vs.length) none
noncomputable def nP (CX:vA) (P:Program) (w:World) (K:Fg) (mg:Str->Option Value) (base:Heap) (N:List Str) (qual:Str) (scope:Scope) (f:Addr) (cd:Value) (A:Around) (outer:List Env) (s:Shared) (H:Hp) (E:XK):Cx where
 prog:=P
 w:=w
 K:=K
 mg:=mg
 base:=base
 A:=A.deeper (envOfC qual scope s.heap.objs.size f cd)
 N:=N
 s₀:=s
 H₀:=H
 env:=envOfC qual scope s.heap.objs.size f cd
 outer:=outer
 stack:=envOfC qual scope s.heap.objs.size f cd::outer
 ex:=[]
 calm:=true
 fn:=fun _=>true
 pn:=[]
 xe:=fun e s'=>wpAny (model P w) (A.deeper (envOfC qual scope s.heap.objs.size f cd)) (leaving (envOfC qual scope s.heap.objs.size f cd) e) (fun _ s''=>CX outer H s E e s'') (fun e' s''=>CX outer H s E e' s'') s'
theorem nU {sc:Scope} {n:Nat} {x:Str} (h:sc.names.lookup x=some .cell):∃c,(cellsFrom n sc.names []).lookup x=some c:=by
 have q:=PySem.W.cellsFrom_some sc.names n [] (.inl h)
 exact Option.isSome_iff_exists.mp q
theorem rD {CX:vA} {P:Program} {w:World} {K:Fg} {mg:Str->Option Value} {base:Heap} {N ps:List Str} {qual:Str} {scope:Scope} {f:Addr} {cd:Value} {A:Around} {outer:List Env} {s s1:Shared} {H:Hp} {E:XK} {us:List Value} {vs:List V}
  (S:cO N ps scope) (hd:A.handled=none) (e0:ye P w K mg base A outer s H) (hl:vs.length=ps.length) (r:Vals vs us)
  (x:InCallC s s.heap.objs.size (bindL (envOfC qual scope s.heap.objs.size f cd).kindOf (ps.zip us) fun _=>none) (cellsFrom (s.heap.objs.size+1) scope.names []) (bindC (envOfC qual scope s.heap.objs.size f cd).kindOf (ps.zip us) fun _=>none) s1) :
  Inv (nP CX P w K mg base N qual scope f cd A outer s H E) [] (start N vs) H s1:=by
 have hpl:ps.length<=N.length:=by have:=congrArg List.length S.pre;rw [length_take] at this;omega
 obtain ⟨h1,tk,rfl,hk⟩:=x.done;have noA:∀b:Addr,b∉(nP CX P w K mg base N qual scope f cd A outer s H E).ex:=fun b z=>absurd (show b∈([]:List Addr) from z) (by simp)
 refine ⟨⟨e0.mod,S.kind,rfl,rfl,JH _,fun y z c h1 h2=>?_,fun y hy=>?_,fun y c _ h=>?_,fun _=>hd,Around.frames_deeper e0.frames,.inr ⟨rfl,rfl⟩,fun b z=>absurd z (noA b),e0.bs,e0.bsz,fun b _ _=>noA b,fun b z=>absurd z (noA b),e0.funs,e0.frf⟩,
  rfl,e0.bare,Un.kept hk,⟨_,x.toInCall.ns,fun i y v h1 h2 h3=>?_⟩,fun y c h=>⟨_,x.cell y c h⟩,e0.hok.fresh (JH _),fun y c h=>?_,fun p hp=>absurd (show p∈([]:List (Addr×Obj)) from hp) (by simp),e0.hok.kept hk,?_⟩
 ·exact name_of_addr x.apart (PySem.mem_of_lookup h1) (PySem.mem_of_lookup h2)
 ·have hy:scope.names.lookup y=some .cell\/scope.names.lookup y=some .free:=hy
  rcases hy with hy | hy
  ·exact nU hy
  ·exact absurd rfl (S.nofree _ (PySem.mem_of_lookup hy))
 ·exact Nat.le_of_lt (x.above y c (PySem.mem_of_lookup h))
 ·have hi:i<vs.length:=by
   unfold start at h2;by_cases hi:i<vs.length
   ·exact hi
   ·rw [getElem?_append_right (by simpa using hi)] at h2
    rw [getElem?_replicate] at h2;split at h2<;>cases h2
  have ha:vs[i]?=some v:=by
   unfold start at h2;rw [getElem?_append_left (by simpa using hi),getElem?_map] at h2
   cases e:vs[i]? with
   | none=>rw [e] at h2;cases h2
   | some a=>rw [e] at h2;cases h2;rfl
  obtain ⟨u,hu,rv⟩:=r.get ha;have hp:ps[i]?=some y:=by
   rw [<-S.pre,List.getElem?_take_of_lt (by omega)];exact h1
  have ndP:ps.Nodup:=by rw [<-S.pre];exact S.nd.sublist (List.take_sublist _ _)
  refine ⟨u,rv,?_⟩
  rcases S.par y (mem_of_getElem? hp) with k | k
  ·exact .inl ⟨k,kK ndP hp hu k⟩
  ·obtain ⟨c,e⟩:=nU (n:=s.heap.objs.size+1) k
   refine .inr ⟨.inl k,c,e,?_⟩
   have q:=x.cell y c e
   rw [kM ndP hp hu (by show scope.names.lookup y≠_;rw [k];decide)] at q
   exact q
 ·exact e0.hok.fresh (Nat.le_of_lt (x.above y c (PySem.mem_of_lookup h)))
 ·unfold start
  show _=N.length
  rw [length_append,length_map,List.length_replicate];omega
theorem Dx {CX:vA} {P:Program} {w:World} {K:Fg} {mg:Str->Option Value} {base:Heap} {k:Nat} {f:Addr} {name qual:Str} {params:Arguments} {body:List Stmt} {scope:Scope} {dV kV doc pm cdv ct oc:Value} {an od:Option Addr}
  {osl:Array (Option Value)} {N ps:List Str} {sp:Sp} (lk:K.lookup f=some ⟨oc,od,.func (PySem.W.fnOf name qual params body scope dV kV doc pm an cdv ct),osl⟩) (hcd:PySem.W.codeIn K cdv qual=true) (S:cO N ps scope)
  (len:∀vs H Q E,sp vs H Q E->vs.length=ps.length)
  (hbody:∀(A:Around) (outer:List Env) (s:Shared) (H:Hp) (vs:List V) (Q:VK) (E:XK),Room k (A.deeper (envOfC qual scope s.heap.objs.size f cdv))->sp vs H Q E ->
   ∃t,PSs (nP CX P w K mg base N qual scope f cdv A outer s H E) body t/\t { nx:=fun _ H'=>Q .non H',rt:=Q } (start N vs) H) :
  e8 P w K mg base CX (k+1) f (PySem.W.fnOf name qual params body scope dV kV doc pm an cdv ct) ps sp:=by
 refine ⟨len,fun A outer s H args us vs Q E hr e0 hb r hsp=>?_⟩
 have hl:=len _ _ _ _ hsp
 have KX:K.In s.heap:=e0.mod.kin.keeps fun b o e=>(e0.bs b o e).1
 have lim:s.heap.NoLimit:=e0.mod.nolimit.keeps fun b o e=>(e0.bs b o e).1
 have hkind:∀y∈ps.zip us,scope.names.lookup y.1=some .local\/(scope.names.lookup y.1=some .cell/\((cellsFrom (s.heap.objs.size+1) scope.names []).lookup y.1).isSome=true):=fun ⟨n,v⟩ hy=>by
  rcases S.par n (List.of_mem_zip hy).1 with q | q
  ·exact .inl q
  ·exact .inr ⟨q,PySem.W.cellsFrom_some _ _ _ (.inl q)⟩
 refine codeAny_call_function hr.depth (KX _ _ lk) rfl S.co S.gen rfl (PySem.W.codeRec_of KX hcd) (hb _ _ _ _ ?_)
 refine wpAny_newFunctionEnv_cells S.kind hkind fun env he s1 x=>?_
 subst he;refine ⟨lim.keeps x.toInCall.keep,codeAny_func ?_⟩
 obtain ⟨t,ht,hq⟩:=hbody A outer s H vs Q E (hr.deeper _) hsp;have I:Inv (nP CX P w K mg base N qual scope f cdv A outer s H E) [] (start N vs) H s1:=rD S hr.hd e0 hl r x
 refine wpAny_mono (ht [] s1 (start N vs) H _ I hq) (fun fl s' hs=>?_) fun e s' hs=>hs
 have fin:∀{σ':St} {H':Hp} {v:V} {u:Value},Inv (nP CX P w K mg base N qual scope f cdv A outer s H E) [] σ' H' s'->RelV v u->Q v H'->CE outer P w H s Q u s':=
  fun {σ' H' v u} J rv q=>⟨v,H',J.os,J.bare,J.base,J.hok,rv,q⟩
 cases fl with
 | ret u=>
  obtain ⟨v,σ',H',J,rv,q⟩:=hs;exact fin J rv q
 | next=>
  obtain ⟨σ',H',J,q⟩:=hs;exact fin (v:=V.non) (u:=Value.none) J rfl q
 | brk=>
  obtain ⟨_,_,_,q⟩:=hs;exact False.elim q
 | cont=>
  obtain ⟨_,_,_,q⟩:=hs;exact False.elim q
section
variable {X:Cx} {x:Str} {p pos:Pos} {e:Expr} {es:List Expr} {t:TA} {id T:String} {r:List V->Hp->VK->Prop}
noncomputable def B9 (r:List V->Hp->VK->Prop) (t:TA):TE:=fun σ H Q=>t σ H fun vs H1=>r vs H1 Q
theorem FX (hc:CallR X (.builtin id) r) (hg:Gl X x) (hm:X.mg x=none) (hv:bootBuiltins x=some (.builtin id)) (ha:PA X (e::es) t) (hn:x ≠ "__name__":=by decide) (hdb:(x==("__debug__":Str))=false:=by decide)
  (he:starEach (e::es) X.env=(false,eval e X.env)::starEach es X.env:=by rfl) (hpl:(backTo pos (starEach es X.env)).any (·.1)=false:=by rfl):PE X (.Call (.Name x p) (e::es) [] pos) (B9 r t):=by
 intro pins s σ H Q I h;refine wpAny_Call_Name_kw (vo I hg hm hv ?_ hn hdb)
 exact PyProof.Rows.callWith_builtin1 (b5 (ha pos pins s σ H _ I h) fun us s1 ⟨vs,H1,I1,r1,q1⟩=>hc pins s1 σ H1 vs us Q I1 r1 q1) he hpl
theorem ku (hc:CallR X (.type T) r) (hg:Gl X x) (hm:X.mg x=none) (hv:bootBuiltins x=some (.type T)) (ha:PA X (e::es) t) (hn:x ≠ "__name__":=by decide) (hdb:(x==("__debug__":Str))=false:=by decide)
  (he:starEach (e::es) X.env=(false,eval e X.env)::starEach es X.env:=by rfl) (hpl:(backTo pos (starEach es X.env)).any (·.1)=false:=by rfl):PE X (.Call (.Name x p) (e::es) [] pos) (B9 r t):=by
 intro pins s σ H Q I h;refine wpAny_Call_Name_kw (vo I hg hm hv ?_ hn hdb)
 exact PyProof.Rows.callWith_type1 (b5 (ha pos pins s σ H _ I h) fun us s1 ⟨vs,H1,I1,r1,q1⟩=>hc pins s1 σ H1 vs us Q I1 r1 q1) he hpl
end
end L2
namespace HT
open PySem PyProof.Rows
section
variable {prog:Program} {w:World} {A:Around} {E:Value->Shared->Prop} {s:Shared}
noncomputable def sIx (n d:Nat):Option Int->Nat
 | none=>d
 | some v=>if v<0 then (v+(n:Int)).toNat else min v.toNat n
theorem sIx_none (n d:Nat):sIx n d none=d:=rfl
theorem sIx_nat (n d k:Nat):sIx n d (some (k:Int))=min k n:=by
 show (if (k:Int)<0 then ((k:Int)+(n:Int)).toNat else min (k:Int).toNat n)=min k n
 rw [if_neg (by omega),Int.toNat_natCast]
theorem zB (n d:Nat) (hd:d<=n) (o:Option Int):sIx n d o<=n:=by
 cases o with
 | none=>exact hd
 | some v=>
  show (if v<0 then (v+(n:Int)).toNat else min v.toNat n)<=n
  by_cases hv:v<0
  ·rw [if_pos hv];omega
  ·rw [if_neg hv];exact Nat.min_le_right _ _
theorem qB (v:Int) (n d:Nat):(if v<0 then max (v+(n:Int)) 0 else min v (n:Int))=((sIx n d (some v):Nat):Int):=by
 show (if v<0 then max (v+(n:Int)) 0 else min v (n:Int))=(((if v<0 then (v+(n:Int)).toNat else min v.toNat n):Nat):Int)
 by_cases hv:v<0
 ·simp only [if_pos hv];omega
 ·simp only [if_neg hv];omega
theorem pD (lo hi:Option Int) (n:Nat):Builtin.Slice.sliceAdjust lo hi 1 (n:Int)=(((sIx n 0 lo:Nat):Int),((sIx n n hi:Nat):Int)):=by
 have h1:¬((1:Int)<0):=by omega
 unfold Builtin.Slice.sliceAdjust;simp only [h1,if_false]
 refine Prod.ext ?_ ?_
 ·cases lo with
  | none=>rfl
  | some v=>exact qB v n 0
 ·cases hi with
  | none=>rfl
  | some v=>exact qB v n n
theorem oH (i j:Nat):Builtin.Slice.slicePlaces (i:Int) (j:Int) 1=j-i:=by
 unfold Builtin.Slice.slicePlaces;have h1:(1:Int)>0:=by omega
 simp only [h1,if_true,Int.ediv_one]
 split<;>omega
theorem i5 {v:Value} {o:Option Int} {Q:Option Int->Shared->Prop} (p:IsPart v o) (h:Q o s):wpAny (model prog w) A (Builtin.Slice.slicePartIndex v) Q E s:=by
 cases p with
 | none=>exact slicePart_none h
 | int i t=>exact slicePart_int h
theorem hV {sl:Addr} {vl vu:Value} {lo hi:Option Int} {n:Nat} {Q:Int×Int×Nat->Shared->Prop} (hs:s.heap.IsSliceOf sl vl vu .none) (pl:IsPart vl lo) (pu:IsPart vu hi)
  (h:Q (((sIx n 0 lo:Nat):Int),1,sIx n n hi-sIx n 0 lo) s):wpAny (model prog w) A (Builtin.Slice.sliceApplied (.ref sl) (pure (n:Int))) Q E s:=by
 obtain ⟨os,hos,hcs,hds⟩:=id hs;unfold Builtin.Slice.sliceApplied Builtin.Slice.sliceFields;refine JE (JE (wpAny_field hos hds (x:=vl) rfl (JE (wpAny_field hos hds (x:=vu) rfl (JE (wpAny_field hos hds (x:=.none) rfl (JF ?_)))))))
 refine JE (slicePart_none ?_)
 show wpAny _ _ (if ((1:Int)==0)=true then _ else _) _ _ s
 rw [if_neg (by decide)]
 refine JE (i5 pl (JE (i5 pu (JE (JF ?_)))))
 show wpAny _ _ (match Builtin.Slice.sliceAdjust lo hi 1 (n:Int) with | (lo,hi)=>pure (lo,(1:Int),Builtin.Slice.slicePlaces lo hi 1)) _ _ s
 rw [pD lo hi n];show wpAny _ _ (pure (((sIx n 0 lo:Nat):Int),(1:Int),Builtin.Slice.slicePlaces ((sIx n 0 lo:Nat):Int) ((sIx n n hi:Nat):Int) 1)) _ _ s
 rw [oH];exact JF h
theorem ue (xs:Array Value) (i k:Nat):((List.range k).filterMap fun (m:Nat)=>xs[((i:Int)+(m:Int)*1).toNat]?).toArray=((xs.toList.drop i).take k).toArray:=by
 have e:(fun (m:Nat)=>xs[((i:Int)+(m:Int)*1).toNat]?)=fun m=>xs[i+m]?:=by
  funext m
  have:((i:Int)+(m:Int)*1).toNat=i+m:=by omega
  rw [this]
 rw [e];have:=pick_run xs i k
 rw [List.filterMap_map] at this;have e2:((fun x=>xs[x]?)∘fun x=>i+x)=fun m=>xs[i+m]?:=rfl
 rw [e2] at this;rw [this]
theorem getItem_tuple_cut {t sl:Addr} {items:Array Value} {vl vu:Value} {lo hi:Option Int} {Q:Value->Shared->Prop} (ht:IsTup s.heap t items) (hs:s.heap.IsSliceOf sl vl vu .none) (pl:IsPart vl lo) (pu:IsPart vu hi)
  (hw:¬(sIx items.size 0 lo=0/\sIx items.size items.size hi=items.size))
  (h:Q (.ref s.heap.objs.size) { s with heap:=s.heap.push { cls:=.type "tuple",data:=.seq ((items.toList.drop (sIx items.size 0 lo)).take (sIx items.size items.size hi-sIx items.size 0 lo)).toArray } })
  (hsz:items.size<=sizeLine):wpAny (model prog w) A (getItem (.ref t) (.ref sl)) Q E s:=by
 have htake:sizeOk (.seq ((items.toList.drop (sIx items.size 0 lo)).take (sIx items.size items.size hi-sIx items.size 0 lo)).toArray):=by
  show ((items.toList.drop (sIx items.size 0 lo)).take (sIx items.size items.size hi-sIx items.size 0 lo)).toArray.size<=sizeLine
  rw [size_toArray,length_take,length_drop,Array.length_toList];omega
 have hj:sIx items.size items.size hi<=items.size:=zB _ _ (JH _) hi
 obtain ⟨os,hos,hcs,hds⟩:=id hs;have hTs:s.TypeIs (.ref sl) "slice":=⟨os,hos,hcs⟩
 unfold getItem;try with_reducible refine wpAny_holding ?_
 first | refine JE (JF ?_) | skip
 refine JE (wpAny_sequenceKey ht.typeIs (by decide) ?_)
 refine JE (wpAny_callSpecial?_slot (name:=Str.ofString "__getitem__") ht.typeIs PyProof.Rows.slot_tuple_getitem
  (wpAny_call_entry PyProof.Rows.slot_tuple_getitem ht.typeIs entry_tuple_getitem ?_ (args_tuple_getitem _ _)))
 show wpAny _ _ (Builtin.Tuple.tupleItemsOf (.ref t) >>= _) _ _ s
 refine JE (tupleItemsOf_ ht ?_)
 refine JE (wpAny_typeOf hTs ?_)
 rw [if_pos (by decide)]
 refine JE (hV hs pl pu ?_)
 have hno:¬((((sIx items.size 0 lo:Nat):Int)==0&&(1:Int)==1&&(sIx items.size items.size hi-sIx items.size 0 lo)==items.size)=true):=by
  intro q;rw [Bool.and_eq_true,Bool.and_eq_true] at q;have q1:((sIx items.size 0 lo:Nat):Int)=0:=eq_of_beq q.1.1
  have q2:sIx items.size items.size hi-sIx items.size 0 lo=items.size:=eq_of_beq q.2
  exact hw ⟨by omega,by omega⟩
 show wpAny _ _ (if (((sIx items.size 0 lo:Nat):Int)==0&&(1:Int)==1&&(sIx items.size items.size hi-sIx items.size 0 lo)==items.size)=true then _ else _) _ _ s
 rw [if_neg hno,ue];first
  | exact JE (m:=Builtin.Tuple.tupleExact _) (wpAny_newObj_type (JF ⟨_,rfl,JF h⟩) htake)
  | exact JE (m:=Builtin.Tuple.tupleExact _) (wpAny_newObj_type (JE (JF (JF ⟨_,rfl,JF h⟩))) htake)
  | exact JE (JE (m:=Builtin.Tuple.tupleExact _) (wpAny_newObj_type (JF (JF ⟨_,rfl,JF h⟩)) htake))
  | exact JE (JE (m:=Builtin.Tuple.tupleExact _) (wpAny_newObj_type (JF ⟨_,rfl,JF h⟩) htake))
end
end HT
namespace L2
open PySem PySem.Spec PyProof.Rows
abbrev TO:=St->Hp->(Option Int->Hp->Prop)->Prop
noncomputable def PO (X:Cx) (e:Option Expr) (t:TO):Prop:=
 ∀(pins:List (Addr×Obj)) (s:Shared) (σ:St) (H:Hp) (Q:Option Int->Hp->Prop),Inv X pins σ H s->t σ H Q ->
  wpAny (model X.prog X.w) X.A (evalPart e X.env) (fun u s'=>∃o H',Inv X pins σ H' s'/\IsPart u o/\Q o H') X.xe s
noncomputable def pW:TO:=fun _ H Q=>Q none H
noncomputable def yy (t:TE):TO:=fun σ H Q=>t σ H fun x H1=>∃i,x=.int i/\Q (some i) H1
section
variable {X:Cx} {e:Expr} {te:TE} {lo hi:Option Expr} {tl th:TO} {pos p2:Pos}
theorem wL:PO X none pW:=by
 intro pins s σ H Q I h;rw [evalPart_none];exact JF ⟨none,H,I,.none,h⟩
theorem wK (h:PE X e te):PO X (some e) (yy te):=by
 intro pins s σ H Q I hw;rw [evalPart_some];refine b5 (h pins s σ H _ I hw) fun u s1 ⟨x,H1,I1,r1,q1⟩=>?_
 obtain ⟨i,rfl,q⟩:=q1;obtain ⟨t,rfl⟩:=r1;exact ⟨some i,H1,I1,.int i t,q⟩
noncomputable def I0 (X:Cx) (r:V->Option Int->Option Int->Hp->VK->Prop):Prop:=
 ∀(pins:List (Addr×Obj)) (s:Shared) (σ:St) (H:Hp) (x:V) (v vl vu:Value) (lo hi:Option Int) (sl:Addr) (Q:VK),Inv X pins σ H s->RelV x v->s.heap.IsSliceOf sl vl vu .none->IsPart vl lo->IsPart vu hi->r x lo hi H Q ->
  ∃T id,typeLookup (.type T) "__getitem__"=pure (some (.builtin id))/\s.TypeIs v T/\wpAny (model X.prog X.w) X.A (getItem v (.ref sl)) (EP X pins σ Q) X.xe s
noncomputable def tSl (r:V->Option Int->Option Int->Hp->VK->Prop) (te:TE) (tl th:TO):TE:=fun σ H Q=>te σ H fun x H1=>tl σ H1 fun l H2=>th σ H2 fun u H3=>r x l u H3 Q
theorem ui {r:V->Option Int->Option Int->Hp->VK->Prop} (hr:I0 X r) (he:PE X e te) (hl:PO X lo tl) (hu:PO X hi th):PE X (.Subscript e (.Slice lo hi none p2) pos) (tSl r te tl th):=by
 intro pins s σ H Q I h;refine Subscript_ (b5 (he pins s σ H _ I h) fun v s1 ⟨x,H1,I1,r1,q1⟩=>?_)
 refine wpAny_Slice (b5 (hl pins s1 σ H1 _ I1 q1) fun vl s2 ⟨l,H2,I2,pl,q2⟩=>b5 (hu pins s2 σ H2 _ I2 q2) fun vu s3 ⟨u,H3,I3,pu,q3⟩=>?_)
 rw [evalPart_none];refine JF ?_
 have I4:Inv X pins σ H3 { s3 with heap:=s3.heap.push { cls:=.type "slice",data:=.fields #[vl,vu,.none] } }:=I3.kept (t':=s3.toks) fun b ob q=>JG _ q
 obtain ⟨T,id,hT,ht,hg⟩:=hr pins { s3 with heap:=s3.heap.push { cls:=.type "slice",data:=.fields #[vl,vu,.none] } } σ H3 x v vl vu l u s3.heap.objs.size Q I4 r1 (Heap.IsSliceOf.new ..) pl pu q3
 show wpAny (model X.prog X.w) X.A (subscriptTail e (.Slice lo hi none p2) v (.ref s3.heap.objs.size)) (EP X pins σ Q) X.xe { s3 with heap:=s3.heap.push { cls:=.type "slice",data:=.fields #[vl,vu,.none] } }
 exact tail_any (ops:=[.ref s3.heap.objs.size,v]) ht hT hg (by with_unfolding_all rfl)
noncomputable def rU (xs:List V) (lo hi:Option Int):List V:=(xs.drop (HT.sIx xs.length 0 lo)).take (HT.sIx xs.length xs.length hi-HT.sIx xs.length 0 lo)
theorem nQ (xs:List V) (lo hi:Option Int):(rU xs lo hi).length<=xs.length:=by
 unfold rU;rw [length_take,length_drop];omega
noncomputable def Af (K:Fg):V->Option Int->Option Int->Hp->VK->Prop:=fun x lo hi H Q=>∃a xs,x=.ref a/\SqT K H a xs /\
 ¬(HT.sIx xs.length 0 lo=0/\HT.sIx xs.length xs.length hi=xs.length)/\∀p,H p=none->Q (.ref p) (b9 H p (.tup (rU xs lo hi)))
theorem zx:I0 X (Af X.K):=by
 intro pins s σ H x v vl vu lo hi sl Q I rx hs pl pu h;obtain ⟨a,xs,rfl,hx,hw,q⟩:=h
 cases rx;obtain ⟨its,r,ht,hz⟩:=I.tuple hx;have hlen:its.toArray.size=xs.length:=by rw [size_toArray];exact r.length.symm
 refine ⟨"tuple",_,PyProof.Rows.slot_tuple_getitem.lookup,ht.typeIs,?_⟩
 refine HT.getItem_tuple_cut ht hs pl pu (by rw [hlen];exact hw) ?_ (by rw [hlen];exact hz)
 rw [hlen];refine ⟨.ref s.heap.objs.size,_,I.laid (t':=s.toks) (o:=.tup (rU xs lo hi)) (fun b ob q=>JG _ q) (JH _) ?_,rfl,q _ (I.hok.fresh (JH _))⟩
 exact ⟨Nat.le_trans (nQ xs lo hi) hz,_,(r.drop (HT.sIx xs.length 0 lo)).take (HT.sIx xs.length xs.length hi-HT.sIx xs.length 0 lo),IsTup.new _ _⟩
end
noncomputable def fq (n:Nat) (i:Int):Option Nat:=if 0<=i then (if i<n then some i.toNat else none) else if -(n:Int)<=i then some (i+n).toNat else none
noncomputable def fu {α:Type} (xs:List α) (i:Int):Option α:=(fq xs.length i).bind fun j=>xs[j]?
theorem qt {n:Nat} {i:Int} {j:Nat} (h:fq n i=some j):seqIndex? i n=some j/\j<n/\-(n:Int)<=i/\i<n:=by
 unfold fq at h;by_cases h0:0<=i
 ·rw [if_pos h0] at h
  by_cases h1:i<n
  ·rw [if_pos h1] at h
   have e:i.toNat=j:=Option.some.inj h
   exact ⟨by rw [seqIndex_of h0 h1,e],by omega,by omega,h1⟩
  ·rw [if_neg h1] at h;cases h
 ·rw [if_neg h0] at h
  by_cases h1:-(n:Int)<=i
  ·rw [if_pos h1] at h
   have e:(i+n).toNat=j:=Option.some.inj h
   exact ⟨by rw [seqIndex_neg (by omega) h1,e],by omega,h1,by omega⟩
  ·rw [if_neg h1] at h;cases h
theorem Fz {α:Type} {xs:List α} {i:Int} {v:α} (h:fu xs i=some v):∃j,seqIndex? i xs.length=some j/\xs[j]?=some v/\j<xs.length/\-(xs.length:Int)<=i/\i<xs.length:=by
 unfold fu at h
 cases e:fq xs.length i with
 | none=>rw [e] at h;cases h
 | some j=>
  rw [e] at h;obtain ⟨h1,h2,h3,h4⟩:=qt e;exact ⟨j,h1,h,h2,h3,h4⟩
noncomputable def gZ (b:Expr):Prop:=∀o i,subscripted b false o i=operate [o,i] (getItem o i)
noncomputable def IxR (X:Cx) (r:R2):Prop:=
 ∀(value slice:Expr) (pins:List (Addr×Obj)) (s:Shared) (σ:St) (H:Hp) (x y:V) (v u:Value) (Q:VK),Inv X pins σ H s->RelV x v->RelV y u->r x y H Q ->
  subscripted slice false v u=operate [v,u] (getItem v u)->wpAny (model X.prog X.w) X.A (subscriptTail value slice v u) (EP X pins σ Q) X.xe s
noncomputable def Jr (X:Cx) (id:String) (r:V->List V->Hp->VK->Prop):Prop:=
 ∀(pins:List (Addr×Obj)) (s:Shared) (σ:St) (H:Hp) (x:V) (xs:List V) (v:Value) (us:List Value) (Q:VK),Inv X pins σ H s->RelV x v->Vals xs us->r x xs H Q ->
  wpAny (model X.prog X.w) X.A (call (.builtin id) (v::us)) (EP X pins σ Q) X.xe s
section
variable {X:Cx} {a b:Expr} {ta tb:TE} {pos:Pos}
theorem IxR.or {r r':R2} (h:IxR X r) (h':IxR X r'):IxR X (fun x y H Q=>r x y H Q\/r' x y H Q):=by
 intro value slice pins s σ H x y v u Q I rx ry q hs;rcases q with q | q
 ·exact h value slice pins s σ H x y v u Q I rx ry q hs
 ·exact h' value slice pins s σ H x y v u Q I rx ry q hs
theorem uj {r:R2} (hr:IxR X r) (ha:PE X a ta) (hb:PE X b tb) (hs:gZ b):PE X (.Subscript a b pos) (vz r ta tb):=by
 intro pins s σ H Q I h;exact Subscript_ (BD ha hb I h fun v u s2 x y H2 I2 rx ry q=>hr a b pins s2 σ H2 x y v u Q I2 rx ry q (hs _ _))
noncomputable def C6 (K:Fg):R2:=fun x y H Q=>∃p xs i v,x=.ref p/\y=.int i/\SqL K H p xs/\fu xs i=some v/\Q v H
noncomputable def C4 (K:Fg):R2:=fun x y H Q=>∃p xs i v,x=.ref p/\y=.int i/\SqT K H p xs/\fu xs i=some v/\Q v H
noncomputable def C5:R2:=fun x y H Q=>∃z i c,x=.str z/\y=.int i/\z.length<=sizeLine/\fu z.cps.toList i=some c/\Q (.str ⟨#[c]⟩) H
theorem ix_list:IxR X (C6 X.K):=by
 intro value slice pins s σ H x y v u Q I rx ry h hs;obtain ⟨p,xs,i,z,rfl,rfl,hq,he,q⟩:=h
 cases rx;obtain ⟨t,rfl⟩:=ry;obtain ⟨its,r,pl,hz⟩:=I.list hq;obtain ⟨j,h1,h2,h3,h4,h5⟩:=Fz he;obtain ⟨w,ew,rw'⟩:=r.get h2;have hl:=r.length
 have hn:=zc
 have fin:EP X pins σ Q w s:=⟨z,H,I,rw',q⟩
 by_cases h0:0<=i
 ·have hj:i.toNat=j:=by
   rw [seqIndex_of h0 h5] at h1;exact Option.some.inj h1
  exact item_listR pl.isList h0 (by omega) (by rw [hj];simpa using ew) fin hs
 ·have hj:(i+(its.toArray.size:Int)).toNat=j:=by
   rw [seqIndex_neg (by omega) h4] at h1
   rw [size_toArray,<-hl];exact Option.some.inj h1
  exact subscriptTail_builtinR (x:=w) pl.isList.typeIs slot_list_getitem.lookup
   (wpAny_getItem_list_neg (Q:=fun r s'=>r=w/\EP X pins σ Q r s') pl.isList (by omega) (by rw [size_toArray]<;>omega) (by omega) (by rw [hj];simpa using ew) ⟨rfl,fin⟩) hs
theorem ix_tup:IxR X (C4 X.K):=by
 intro value slice pins s σ H x y v u Q I rx ry h hs;obtain ⟨p,xs,i,z,rfl,rfl,hq,he,q⟩:=h
 cases rx;obtain ⟨t,rfl⟩:=ry;obtain ⟨its,r,pl,hz⟩:=I.tuple hq;obtain ⟨j,h1,h2,h3,h4,h5⟩:=Fz he;obtain ⟨w,ew,rw'⟩:=r.get h2;have hl:=r.length
 have hn:=zc
 have fin:EP X pins σ Q w s:=⟨z,H,I,rw',q⟩
 exact subscriptTail_builtinR (x:=w) pl.typeIs slot_tuple_getitem.lookup
  (getItem_tuple (j:=j) (Q:=fun r s'=>r=w/\EP X pins σ Q r s') pl (by omega) (by omega) (by rw [size_toArray,<-hl];exact h1) (by simpa using ew) ⟨rfl,fin⟩) hs
theorem A6:IxR X C5:=by
 intro value slice pins s σ H x y v u Q I rx ry h hs;obtain ⟨z,i,c,rfl,rfl,hz,he,q⟩:=h;obtain ⟨t,rfl⟩:=rx;obtain ⟨t',rfl⟩:=ry;obtain ⟨j,h1,h2,h3,h4,h5⟩:=Fz he;have hl:z.cps.toList.length=z.length:=by simp [Str.length]
 rw [hl] at h1 h4 h5
 have hn:=zc
 exact tail_any (typeIs_str s z t) slot_str_getitem.lookup (getItem_str (c:=c) (by
  have e1:decide (i < -(2 ^ 63:Int))=false:=decide_eq_false (by omega)
  have e2:decide (i≥2 ^ 63)=false:=decide_eq_false (by omega)
  rw [e1,e2,Bool.or_false]) (by rw [h1];simpa using h2) ⟨.str ⟨#[c]⟩,H,I.tok _,⟨_,rfl⟩,q⟩) hs
noncomputable def EV (K:Fg):R2:=fun x y H Q=>C6 K x y H Q\/C4 K x y H Q\/C5 x y H Q
theorem Fu:IxR X (EV X.K):=ix_list.or (ix_tup.or A6)
theorem oU (its:List Value) (n j:Nat) (u:Value):Obj.mapSeq (·.setIfInBounds j u) { cls:=.type "list",data:=.seq its.toArray n }={ cls:=.type "list",data:=.seq (its.set j u).toArray n }:=by
 simp [Obj.mapSeq]
theorem Inv.lst {pins:List (Addr×Obj)} {σ:St} {H:Hp} {s:Shared} {p:Addr} {xs:List V} (I:Inv X pins σ H s) (h:H p=some (.lst xs)) :
  ∃(its:List Value) (n:Nat),Vals xs its/\s.heap.get? p=some { cls:=.type "list",data:=.seq its.toArray n }/\xs.length<=sizeLine:=by
 obtain ⟨z,its,n,r,e⟩:=I.hok p _ h;exact ⟨its,n,r,e,z⟩
theorem Inv.lstUpd {pins:List (Addr×Obj)} {σ:St} {H:Hp} {s:Shared} {p:Addr} {xs ys:List V} {its its':List Value} {n n':Nat} {f:Obj->Obj} (I:Inv X pins σ H s) (h:H p=some (.lst xs))
  (ho:s.heap.get? p=some { cls:=.type "list",data:=.seq its.toArray n }) (hf:f { cls:=.type "list",data:=.seq its.toArray n }={ cls:=.type "list",data:=.seq its'.toArray n' }) (r:Vals ys its') (hz:ys.length<=sizeLine) (t:Nat) :
  Inv X pins σ (b9 H p (.lst ys)) { s with heap:=s.heap.update p f,toks:=t }:=by
 have e:(s.heap.update p f).get? p=some { cls:=.type "list",data:=.seq its'.toArray n' }:=by
  rw [Heap.get?_update_self f ho (by rw [hf]<;>rfl),hf]
 refine I.write (x:=p) (e:=p) (by rw [h];trivial) (.inl rfl) (fun b u hb q=>(Heap.get?_update_other _ _ (Ne.symm hb)).trans q) ⟨_,e⟩ ?_
 exact ⟨hz,its',n',r,e⟩
noncomputable def tY:V->V->V->Hp->(Hp->Prop)->Prop:=fun o i v H Q=>∃p xs k j,o=.ref p/\i=.int k/\H p=some (.lst xs)/\fq xs.length k=some j/\Q (b9 H p (.lst (xs.set j v)))
theorem tv:DT X tY:=by
 intro pins s σ H o i v ov iv u Q I ro ri rv h;obtain ⟨p,xs,k,j,rfl,rfl,hp,hj,q⟩:=h
 cases ro;obtain ⟨t,rfl⟩:=ri;obtain ⟨its,n,r,ho,hz⟩:=I.lst hp;obtain ⟨h1,h2,h3,h4⟩:=qt hj;have hl:=r.length
 have hn:=zc
 have I':Inv X pins σ (b9 H p (.lst (xs.set j v))) { s with heap:=s.heap.update p (Obj.mapSeq (·.setIfInBounds j u)) }:=
  I.lstUpd hp ho (oU its n j u) (r.set rv j) (by rw [length_set];exact hz) s.toks
 by_cases h0:0<=k
 ·have hk:k.toNat=j:=by
   rw [seqIndex_of h0 h4] at h1;exact Option.some.inj h1
  exact PySem.W.ki_setAt ho h0 (by omega) (by rw [size_toArray,<-hl];exact h4) (by rw [hk];exact ⟨_,I',q⟩)
 ·have hk:(k+(its.toArray.size:Int)).toNat=j:=by
   rw [seqIndex_neg (by omega) h3] at h1
   rw [size_toArray,<-hl];exact Option.some.inj h1
  exact PySem.W.ki_setBack ho (by omega) (by rw [size_toArray,<-hl];exact h3) (by omega) (by rw [hk];exact ⟨_,I',q⟩)
theorem call_len_seq:CallR X (.builtin "len") (fun xs H Q=>∃p ys,xs=[.ref p]/\(SqL X.K H p ys\/SqT X.K H p ys)/\Q (.int ys.length) H):=by
 intro pins s σ H xs us Q I r h;obtain ⟨p,ys,rfl,hq,q⟩:=h;obtain ⟨u,rfl,rx⟩:=vals1 r
 cases rx;have hn:=zc
 rcases hq with hq | hq
 ·obtain ⟨its,r',pl,hz⟩:=I.list hq
  have hlen:=r'.length
  exact Calls.call_len_list pl.isList (by simp only [size_toArray]<;>omega) ⟨.int ys.length,H,I.tok _,⟨s.toks+1,by rw [size_toArray,hlen]⟩,q⟩
 ·obtain ⟨its,r',pl,hz⟩:=I.tuple hq
  have hlen:=r'.length
  exact len_tuple pl (by simp only [size_toArray]<;>omega) ⟨.int ys.length,H,I.tok _,⟨s.toks+1,by rw [size_toArray,hlen]⟩,q⟩
theorem lM:CallR X (.builtin "len") (fun xs H Q=>∃z,xs=[.str z]/\z.length<=sizeLine/\Q (.int z.length) H):=by
 intro pins s σ H xs us Q I r h;obtain ⟨z,rfl,hz,q⟩:=h;obtain ⟨u,rfl,t,rfl⟩:=vals1 r;have hn:=zc
 exact len_str (by omega) ⟨.int z.length,H,I.tok _,⟨_,rfl⟩,q⟩
theorem CallR.or {f:Value} {r r':List V->Hp->VK->Prop} (h:CallR X f r) (h':CallR X f r'):CallR X f (fun xs H Q=>r xs H Q\/r' xs H Q):=by
 intro pins s σ H xs us Q I rs q;rcases q with q | q
 ·exact h pins s σ H xs us Q I rs q
 ·exact h' pins s σ H xs us Q I rs q
theorem lL:CallR X (.type "list") (fun xs H Q=>∃p ys,xs=[.ref p]/\(SqL X.K H p ys\/SqT X.K H p ys)/\∀l,H l=none->Q (.ref l) (b9 H l (.lst ys))):=by
 intro pins s σ H xs us Q I r h;obtain ⟨p,ys,rfl,hq,q⟩:=h;obtain ⟨u,rfl,rx⟩:=vals1 r
 cases rx;have fin:∀(its:List Value),Vals ys its->ys.length<=sizeLine->∀(h':Heap) (c':Nat),(∀b o',s.heap.get? b=some o'->h'.get? b=some o') ->
   h'.get? s.heap.objs.size=some { cls:=.type "list",dict:=none,data:=.seq its.toArray c',slots:=#[] }->EP X pins σ Q (.ref s.heap.objs.size) { s with heap:=h' }:=fun its r' hz h' c' kp e=>
  ⟨.ref s.heap.objs.size,_,I.laid (t':=s.toks) kp (JH _) (show ObjOk X.prog X.w _ h' _ (.lst ys) from ⟨hz,its,c',r',e⟩),rfl,q _ (I.hok.fresh (JH _))⟩
 rcases hq with hq | hq
 ·obtain ⟨its,r',pl,hz⟩:=I.list hq
  have hlen:=r'.length
  obtain ⟨o,ho,hc,n,hd⟩:=pl.isList;exact call_list_seq p (.inl rfl) ho hc hd (fun h' c' kp e=>fin its r' hz h' c' kp e) (by simp only [size_toArray]<;>omega)
 ·obtain ⟨its,r',pl,hz⟩:=I.tuple hq
  have hlen:=r'.length
  obtain ⟨o,ho,hc,n,hd⟩:=pl;exact call_list_seq p (.inr rfl) ho hc hd (fun h' c' kp e=>fin its r' hz h' c' kp e) (by simp only [size_toArray]<;>omega)
noncomputable def Ij (K:Fg) (T:String) (x:V) (H:Hp):Prop:=match x with
 | .str _=>T = "str"
 | .int _=>T = "int"
 | .ref p=>(T = "list"/\∃xs,SqL K H p xs)\/(T = "tuple"/\∃o,K.lookup p=some o/\o.cls=.type "tuple"/\o.dict=none) \/
   (T = "dict"/\((∃kvs,H p=some (.dK kvs))\/∃kvs,H p=some (.dT kvs)))\/(T = "set"/\∃S n,H p=some (.set S n))
 | _=>False
theorem zp {pins:List (Addr×Obj)} {σ:St} {H:Hp} {s:Shared} {T:String} {x:V} {v:Value} (I:Inv X pins σ H s) (r:RelV x v) (ty:Ij X.K T x H) :
  s.TypeIs v T/\∀a,v=.ref a->∃ob,s.heap.get? a=some ob/\ob.dict=none:=by
 cases x with
 | str z=>
  obtain ⟨t,rfl⟩:=r
  cases (show T = "str" from ty)
  exact ⟨typeIs_str s z t,fun _ e=>nomatch e⟩
 | int i=>
  obtain ⟨t,rfl⟩:=r
  cases (show T = "int" from ty)
  exact ⟨typeIs_int s i t,fun _ e=>nomatch e⟩
 | ref p=>
  cases r;rcases ty with ⟨rfl,xs,hq⟩ | ⟨rfl,o,hk,hc,hd⟩ | ⟨rfl,hk⟩ | ⟨rfl,S,n,hk⟩
  ·obtain ⟨its,_,pl,_⟩:=I.list hq
   refine ⟨pl.isList.typeIs,fun a e=>?_⟩
   cases e;obtain ⟨o,n,e,c,hd,_⟩:=pl;exact ⟨o,e,hd⟩
  ·refine ⟨⟨o,I.kIn p o hk,hc⟩,fun a e=>?_⟩
   cases e;exact ⟨o,I.kIn _ o hk,hd⟩
  ·have z:∃o,s.heap.get? p=some o/\o.ExactDict:=by
    rcases hk with ⟨kvs,hk⟩ | ⟨kvs,hk⟩
    ·obtain ⟨_,_,_,_,o,_,_,e,ex,_⟩:=I.hok p _ hk
     exact ⟨o,e,ex⟩
    ·obtain ⟨_,_,_,_,o,_,_,e,ex,_⟩:=I.hok p _ hk
     exact ⟨o,e,ex⟩
   obtain ⟨o,e,ex⟩:=z;refine ⟨⟨o,e,ex.1⟩,fun a e2=>?_⟩
   cases e2;exact ⟨o,e,ex.2.1⟩
  ·obtain ⟨o,_,_,_,e,ex,_⟩:=I.hok p _ hk
   refine ⟨⟨o,e,ex.1⟩,fun a e2=>?_⟩
   cases e2;exact ⟨o,e,ex.2.1⟩
 | _=>exact False.elim ty
noncomputable def EK (K:Fg) (T:String) (r:V->List V->Hp->VK->Prop) (to:TE) (t:TA):TE:=fun σ H Q=>to σ H fun x H1=>Ij K T x H1/\t σ H1 fun xs H2=>r x xs H2 Q
variable {o e:Expr} {es:List Expr} {to:TE} {t:TA} {name:Str} {apos cpos:Pos} {T id:String} {r:V->List V->Hp->VK->Prop}
theorem mR (pa:PlainAttrs T) (slot:Slot T name id) (hty:typeOf (.builtin id)=pure (.type "method_descriptor")) (hm:Jr X id r) (ho:PE X o to) (ha:PA X (e::es) t)
  (hbase:attributeBase o name X.env (eval o X.env)=eval o X.env:=by rfl)
  (hfew:((backTo cpos (starEach (e::es) X.env)).all (fun x=>!x.1)&&(backToKw cpos (keywordEach [] X.env)).all (fun x=>x.1.isSome)
   && decide ((e::es).length+([]:List Keyword).length+(if ([]:List Keyword).isEmpty then 0 else 1)<30))=true:=by rfl)
  (hline:(apos.endLine==cpos.line)=true:=by rfl) (hs:starEach (e::es) X.env=(false,eval e X.env)::starEach es X.env:=by rfl) (hplain:(backTo cpos (starEach es X.env)).any (·.1)=false:=by rfl) :
  PE X (.Call (.Attribute o name apos) (e::es) [] cpos) (EK X.K T r to t):=by
 intro pins s σ H Q I h;refine wpAny_Call_method_late hbase hfew hline rfl (b5 (ho pins s σ H _ I h) fun v s1 ⟨x,H1,I1,r1,ty,q1⟩=>?_)
 obtain ⟨h1,h2⟩:=zp I1 r1 ty;refine ⟨T,id,pa,slot,hty,h1,h2,?_⟩
 have hA:=ha cpos pins s1 σ H1 _ I1 q1
 rw [hs] at hA ⊢;refine Calls.callWith_builtin (by show (false||(backTo cpos (starEach es X.env)).any (·.1))=false;rw [hplain]<;>rfl) (Calls.evalArgs_plain ?_)
 exact b5 hA fun us s2 ⟨vs,H2,I2,r2,q2⟩=>hm pins s2 σ H2 x vs v us Q I2 r1 r2 q2
end
noncomputable def Jc (X:Cx) (id:String) (r:V->List V->Hp->VK->Prop):Prop:=
 ∀(pins:List (Addr×Obj)) (s:Shared) (σ:St) (H:Hp) (x:V) (xs:List V) (v:Value) (us:List Value) (Q:VK),Inv X pins σ H s->RelV x v->Vals xs us->r x xs H Q ->
  wpAny (model X.prog X.w) X.A (call (.builtin id) (v::us)) (EP X pins σ Q) X.xe s
theorem Vals.one:∀{x:V} {us:List Value},Vals [x] us->∃u,us=[u]/\RelV x u
 | _,_,.cons r .nil=>⟨_,rfl,r⟩
section
variable {X:Cx} {pins:List (Addr×Obj)} {σ:St} {H:Hp} {s:Shared} {l b:Addr} {xs ys zs:List V}
theorem Inv.lset {its its':List Value} {n:Nat} {f:Array Value->Array Value} {t':Nat} (I:Inv X pins σ H s) (hH:H l=some (.lst xs))
  (e:s.heap.get? l=some { cls:=.type "list",data:=.seq its.toArray n }) (hf:f its.toArray=its'.toArray) (hv:Vals ys its') (hz:ys.length<=sizeLine) :
  Inv X pins σ (b9 H l (.lst ys)) { s with heap:=s.heap.update l (Obj.mapSeq f),toks:=t' }:=by
 have q:=PySem.IsL.update e f
 rw [hf] at q;refine I.write (x:=l) (e:=l) (by rw [hH];exact trivial) (.inl rfl) (fun b' u hb hu=>(Heap.get?_update_other s.heap (Obj.mapSeq f) (Ne.symm hb)).trans hu) ⟨_,q⟩ ?_
 exact ⟨hz,its',_,hv,q⟩
theorem Inv.lnew {its:List Value} {t':Nat} (I:Inv X pins σ H s) (hv:Vals ys its) (hz:ys.length<=sizeLine) :
  Inv X pins σ (b9 H s.heap.objs.size (.lst ys)) { s with heap:=s.heap.push { cls:=.type "list",data:=.seq its.toArray },toks:=t' }:=
 I.laid (fun _ _ q=>JG _ q) (JH _) ⟨hz,its,0,hv,Heap.get?_push_size _ rfl⟩
theorem Inv.fresh (I:Inv X pins σ H s):H s.heap.objs.size=none:=I.hok.fresh (JH _)
theorem Inv.lstM (I:Inv X pins σ H s) (hH:H l=some (.lst xs)):xs.length<=sizeLine/\∃(its:List Value) (n:Nat),Vals xs its/\xs.length=its.length/\s.heap.get? l=some { cls:=.type "list",data:=.seq its.toArray n }:=by
 obtain ⟨z,its,n,r,e⟩:=I.hok l _ hH;exact ⟨z,its,n,r,r.length,e⟩
theorem uv {n:Nat} (h:n<=sizeLine):Builtin.List.listTooLong n=false:=by
 unfold Builtin.List.listTooLong;exact decide_eq_false (by omega)
end
section
variable {X:Cx}
noncomputable def lg:V->List V->Hp->VK->Prop:=fun x vs H Q=>∃l xs y,x=.ref l/\vs=[y]/\H l=some (.lst xs)/\xs.length<sizeLine/\Q .non (b9 H l (.lst (xs++[y])))
theorem Cs:Jc X "list.append" lg:=by
 intro pins s σ H x vs v us Q I rx rv h;obtain ⟨l,xs,y,rfl,rfl,hH,hz,q⟩:=h
 cases rx;obtain ⟨u,rfl,ru⟩:=rv.one;obtain ⟨z,its,n,r,hl,e⟩:=I.lstM hH;refine call_meets F.slot_list_append ⟨_,e,rfl⟩ F.entry_list_append (F.args_list_append_2 _ _) (PySem.list_append l its.toArray n u (by rw [size_toArray];omega)) ⟨e,?_⟩
 refine ⟨.non,_,I.lset (its':=its++[u]) hH e (by simp) (r.append (.cons ru .nil)) ?_,rfl,q⟩
 rw [length_append,length_singleton];omega
end
section
variable {prog:Program} {w:World} {A:Around} {E:Value->Shared->Prop} {s:Shared}
set_option maxRecDepth 100000 in
end
end L2
namespace Att
open PySem PySem.W PySem.Calls PyProof.Rows
theorem iM {P:Params} {h:Heap}:∀(ns:List Int) (vs:List Value),WellAll P h vs (ns.map WData.int)->IntsAre vs ns:=by
 intro ns;induction ns with
 | nil=>
  intro vs w;rw [map_nil] at w
  cases w;exact .nil
 | cons n ns ih=>
  intro vs w;rw [map_cons] at w
  cases w with
  | cons a b=>
   cases a;exact .cons _ _ (ih _ b)
theorem qP {l:OpenLaw} {n:Nat} (hn:l.most=some n) {P:Params} {h:Heap} {args:List WData} {vals:List Value}
  (hpre:l.row.toRowW.claim.pre args=true) (hwl:WellAll P h vals args) :
  ∃a vs ns,vals=[Value.ref a]/\args=[WData.list (ns.map WData.int)]/\h.get? a=some { cls:=.type "list",data:=.seq vs.toArray }/\IntsAre vs ns/\ns.length<=n:=by
 have hsh:WShape.hasAll [] args [.list .int]=true:=(pre_splitW hpre).1
 have hc:l.pre.holds [] { args:=args }=true:=(pre_splitW hpre).2
 obtain ⟨d,r,rfl,h1,h2⟩:=hasAllW_cons hsh;obtain rfl:=hasAllW_nil h2
 obtain ⟨xs,rfl,h3⟩:=hasW_list h1;obtain ⟨ns,rfl⟩:=items_int h3;have hlen:ns.length<=n:=by
  unfold OpenLaw.pre at hc;have h4:(WTm.not (.lt (.lit (.int (n:Int))) (.len (.arg 0)))).holds [] { args:=[.list (ns.map .int)] }=true:=by
   have h4:=(holds_andW hc).1
   rw [hn] at h4;exact h4
  have h5:=condW_of h4 (w_not (w_lt w_lit (w_len_list (w_arg rfl))))
  rw [length_map] at h5;refine Nat.le_of_not_lt fun q=>?_
  have q':(n:Int)<((ns.length:Nat):Int):=by omega
  first
   | (rw [decide_eq_true q'] at h5;exact absurd h5 (by decide))
   | (simp at h5;omega)
 cases hwl with
 | cons w1 w2=>
  cases w2
  cases w1 with
  | list ho hall=>exact ⟨_,_,ns,rfl,rfl,ho,iM ns _ hall,hlen⟩
theorem qY (l:OpenLaw) (args:List WData):l.row.toRowW.claim.post args (.bool true) args=true:=
 postW_of (r:=l.row.toRowW) (X:=(true==true))
  (show WShape.has [] (.bool true) .bool=true by first | rfl | decide | simp [WShape.has,WShape.arms,WShape.armsAll])
  (show (WTm.eq .res (.lit (.bool true))).value [] { args:=args,res:=some (.bool true),after:=args }=some (.bool (true==true)) from w_eq_bool (w_res rfl) w_lit) rfl
theorem attach_call {l:OpenLaw} {n:Nat} {q:Program} {loose:List Str} {XP:(Str->Option Value)->Heap->Prop} {YP:World->Heap->Prop} {d:DefRec}
  (hn:l.most=some n) (hdf:d.params.defaults=[])
  (call:∀(w:World) (s₀ s₁:Shared) (mg mb:Str->Option Value) (fa:Addr) (o:Obj) (pm cd doc:Value) (a:Addr) (vs:List Value) (ns:List Int),
   Ground q loose [] XP w s₀ mg mb s₁.heap->YP w s₁.heap ->
   s₁.heap.get? fa=some o->o.data=.func (docDef d.name d.params d.body d.scope pm cd doc)->s₁.heap.CodeRec cd d.name->mg d.name=some (.ref fa) ->
   s₁.heap.get? a=some { cls:=.type "list",data:=.seq vs.toArray }->IntsAre vs ns->ns.length<=n->s₁.gens=#[] ->
   codeAny (model l.prog w) callerA (.call (.ref fa) ⟨[.ref a],[]⟩) (fun r s'=>r=.ok (.ret (.bool true))/\OldK s₁.heap s'.heap/\s'.os=s₁.os/\AllBare s'.gens) s₁) :
  WalkO q loose XP YP l.row.toRowW d [] (fun f vs=>PySem.call f vs):=by
 intro w s₀ s₁ mg mb G Y fa o pm cd doc dV kV ho hd hcd hD hmg hg args vals as hpre hlay hrd hwl hlo;obtain rfl:dV=.none:=Dflts.none hD hdf
 obtain rfl:kV=.none:=Dflts.noKw hD
 obtain ⟨a,vs,ns,rfl,rfl,hobj,hints,hlen⟩:=qP hn hpre hwl;refine enter_call (codeAny_mono (call w s₀ s₁ mg mb fa o pm cd doc a vs ns G Y ho (fd_plain hd) hcd hmg hobj hints hlen hg) fun r s' hq=>?_)
 obtain ⟨rfl,h2,h3,h4⟩:=hq;exact ⟨.inl ⟨.bool true,.bool true,[],rfl,fun _=>rfl,.bool true,qY l _,fun _=>⟨List.Pairwise.nil,fun _ hm=>(nomatch hm)⟩⟩,h2,h3,h4⟩
end Att
namespace L2
open PySem PySem.Spec PyProof.Rows
theorem km:∀{vs:List Value} {ns:List Int},IntsAre vs ns->Vals (ns.map V.int) vs
 | _,_,.nil=>.nil
 | _,_,.cons n t h=>.cons ⟨t,rfl⟩ (km h)
noncomputable def BL (H:Hp):Prop:=∀b,H b=none\/∃o xs,H b=some (.frz o (.lst xs))
theorem uC {P:Program} {w:World} {K:Fg} {mg mb:Str->Option Value} {CX:vA} {k:Nat} {fa a:Addr} {fd:FuncData} {x:Str} {sp:Sp} {s₁:Shared} {vs:List Value} {ns:List Int}
  (KX:K.In s₁.heap) (hns:s₁.heap.Ns mainGlobals mg) (hb:s₁.heap.Ns builtinsNs mb) (hbb:∀x:Str,x ≠ "__name__"->mb x=bootBuiltins x) (hlim:s₁.heap.NoLimit) (hg:s₁.gens=#[])
  (ha:s₁.heap.get? a=some { cls:=.type "list",data:=.seq vs.toArray }) (hi:IntsAre vs ns) (hl:ns.length<=sizeLine) (hr:Room k callerA)
  (F:∀base:Heap,K.In base->base.Ns mainGlobals mg->e8 P w K mg base CX k fa fd [x] sp) (hbind:∀(s:Shared) (u:Value),BindsTo s fd ⟨[u],[]⟩ [(x,u)])
  (hsp:∀H:Hp,BL H->SqL K H a (ns.map V.int)->sp [.ref a] H (fun v _=>v=.bl true) fun _ _ _=>False)
  (hCX:∀H e s',CX [] H s₁ (fun _ _ _=>False) e s'->False) :
  codeAny (model P w) callerA (.call (.ref fa) ⟨[.ref a],[]⟩) (fun r s'=>r=.ok (.ret (.bool true))/\OldK s₁.heap s'.heap/\s'.os=s₁.os/\AllBare s'.gens) s₁:=by
 have rv:=km hi
 have lenV:=hi.length
 have core:∀H:Hp,BL H->SqL K H a (ns.map V.int)->HOk P w H s₁.heap->(∀b,H b≠none->b=a)->(H a≠none->K.lookup a=none) ->
   codeAny (model P w) callerA (.call (.ref fa) ⟨[.ref a],[]⟩) (fun r s'=>r=.ok (.ret (.bool true))/\OldK s₁.heap s'.heap/\s'.os=s₁.os/\AllBare s'.gens) s₁:=by
  intro H hO hS hok hA hK;have base_of:∀{b:Addr} {o:Obj},s₁.heap.get? b=some o->H b=none->(lz s₁.heap H).get? b=some o:=fun e n=>uJ e n
  have noA:∀{b:Addr} {o:Obj} {es:Array DictEntry} {ep:Nat},s₁.heap.get? b=some o->o.data=.dict es ep->H b=none:=fun {b o es ep} e d=>by
   cases q:H b with
   | none=>rfl
   | some u=>
    have e':b=a:=hA b (by rw [q];simp)
    subst e'
    rw [ha] at e;cases e;have d':Data.seq vs.toArray _=Data.dict es ep:=d
    cases d'
  have nsK:∀{b:Addr} {m:Str->Option Value},s₁.heap.Ns b m->(lz s₁.heap H).Ns b m:=fun {b m} ⟨o,es,ep,e,d,r⟩=>⟨o,es,ep,base_of e (noA e d),d,r⟩
  have hKb:K.In (lz s₁.heap H):=fun b o e=>base_of (KX b o e) (by
   cases q:H b with
   | none=>rfl
   | some u=>
    have e':b=a:=hA b (by rw [q];simp)
    subst e'
    rw [hK (by rw [q];simp)] at e;cases e)
  have hM:Mod K mg (lz s₁.heap H):=⟨hKb,nsK hns,⟨mb,nsK hb,hbb⟩,let ⟨mc,h1,h2⟩:=hlim;⟨mc,nsK h1,h2⟩⟩
  have e0:ye P w K mg (lz s₁.heap H) callerA [] s₁ H:=⟨rfl,hM,fun b o e=>w4 e,Nat.le_of_eq (rE _ _),trivial,fun b hb=>absurd (show b∈([]:List Addr) from hb) (by simp),hok,.of_eq hg⟩
  refine codeAny_mono ((F _ hKb (nsK hns)).run callerA [] s₁ H ⟨[.ref a],[]⟩ [.ref a] [.ref a] _ _ hr e0 (hbind s₁ (.ref a)) (.cons rfl .nil) (hsp H hO hS)) fun r s' h=>?_
  cases r with
  | error e=>exact (hCX H e s' h).elim
  | ok fl=>
   cases fl with
   | next=>exact False.elim h
   | brk=>exact False.elim h
   | cont=>exact False.elim h
   | ret u=>
    obtain ⟨v,H',os,bare,un,hok',r',q⟩:=h;have q':v=.bl true:=q
    subst q'
    obtain rfl:u=Value.bool true:=r'
    refine ⟨rfl,OldK.of_keep fun b o e=>?_,os,bare⟩
    cases q:H b with
    | none=>exact un.keep b o e q (by intro z;exact absurd (show b∈([]:List Addr) from z) (by simp)) (by simp)
    | some u=>
     rcases hO b with z | ⟨ob,xs,z⟩
     ·rw [q] at z;cases z
     ·have z2:=un.frzs b ob _ z
      obtain ⟨e1,_⟩:=hok b _ z;obtain ⟨e2,_⟩:=hok' b _ z2
      rw [e] at e1;cases e1;exact e2
 cases hk:K.lookup a with
 | some o=>
  have e:=KX a o hk
  rw [ha] at e
  cases e;refine core (fun _=>none) (fun _=>.inl rfl) (.inr ⟨_,vs.toArray,_,hk,rfl,rfl,rfl,by rw [size_toArray,lenV];exact hl,by simpa using rv⟩) (fun b u z=>by have z':(none:Option HO)=some u:=z;cases z') (fun b z=>absurd rfl z) fun z=>absurd rfl z
 | none=>
  refine core (fun b=>if b=a then some (.frz { cls:=.type "list",data:=.seq vs.toArray } (.lst (ns.map V.int))) else none) (fun b=>?_) (.inl (.inr ⟨{ cls:=.type "list",data:=.seq vs.toArray },if_pos rfl⟩)) (fun b u z=>?_) (fun b z=>?_) fun _=>hk
  ·by_cases hb:b=a
   ·exact .inr ⟨_,_,if_pos hb⟩
   ·exact .inl (if_neg hb)
  ·by_cases hb:b=a
   ·have z':=(if_pos hb).symm.trans z
    cases z'
    subst hb;exact ⟨ha,by rw [length_map];exact hl,vs,_,rv,ha⟩
   ·have z':=(if_neg hb).symm.trans z
    cases z'
  ·by_cases hb:b=a
   ·exact hb
   ·exact absurd (if_neg hb) z
theorem walk_of {l:PySem.W.OpenLaw} {n k:Nat} {q:Program} {loose:List Str} {XP:(Str->Option Value)->Heap->Prop} {YP:World->Heap->Prop} {d:DefRec} {K:Params->Fg} {CX:World->vA} {sp:World->Sp} {x:Str}
  (hn:l.most=some n) (hn2:n<=sizeLine) (hdf:d.params.defaults=[]) (hr:Room k callerA)
  (hY:∀(w:World) (h:Heap),YP w h->(K w.params).In h)
  (F:∀(w:World) (mg:Str->Option Value) (fa:Addr) (h:Heap),(K w.params).In h->h.Ns mainGlobals mg->mg d.name=some (.ref fa) ->
   ∃fd:FuncData,(∀(s:Shared) (u:Value),BindsTo s fd ⟨[u],[]⟩ [(x,u)]) /\
    ∀base:Heap,(K w.params).In base->base.Ns mainGlobals mg->e8 l.prog w (K w.params) mg base (CX w) k fa fd [x] (sp w))
  (hsp:∀(w:World) (H:Hp) (a:Addr) (ns:List Int),ns.length<=n->BL H->SqL (K w.params) H a (ns.map V.int)->sp w [.ref a] H (fun v _=>v=.bl true) fun _ _ _=>False)
  (hCX:∀(w:World) (H:Hp) (s:Shared) (e:Value) (s':Shared),CX w [] H s (fun _ _ _=>False) e s'->False) :
  PySem.W.WalkO q loose XP YP l.row.toRowW d [] (fun f vs=>PySem.call f vs):=by
 refine Att.attach_call hn hdf fun w s₀ s₁ mg mb fa o pm cd doc a vs ns G Y ho hd hcd hmg hobj hints hlen hg=>?_
 have KX:=hY w _ Y
 obtain ⟨fd,hb,hF⟩:=F w mg fa _ KX G.T.g hmg;exact uC KX G.T.g G.T.b G.T.builtins G.T.nolimit hg hobj hints (Nat.le_trans hlen hn2) hr hF hb (fun H hO hS=>hsp w H a ns hlen hO hS) fun H e s'=>hCX w H s₁ e s'
noncomputable def fL (s:Stmt):Arguments:=match s with
 | .FunctionDef _ a _ _ _ _ _ _ _ _=>a
 | _=>{ posonlyargs:=[],args:=[],vararg:=none,kwonlyargs:=[],kw_defaults:=[],kwarg:=none,defaults:=[] }
noncomputable def bV (s:Stmt):List Stmt:=match s with
 | .FunctionDef _ _ b _ _ _ _ _ _ _=>b
 | _=>[]
noncomputable def aO (s:Stmt):Scope:=match s with
 | .FunctionDef _ _ _ _ _ _ sc _ _ _=>sc
 | _=>{ kind:=.function,names:=[],isGenerator:=false,isCoroutine:=false }
noncomputable abbrev lQ:vA:=fun _ _ _ _ _ _=>False
noncomputable abbrev E0:XK:=fun _ _ _=>False
theorem iA {X:Cx}:pF lQ X E0:=fun _ _ _ _ _ _ _ h=>h.elim
structure Fun (K:Fg) (x qual:Str) (st:Stmt) (f:Addr) (fd:FuncData):Prop where
 ex:∃(oc:Value) (od:Option Addr) (kV doc pm:Value) (an:Option Addr) (cdv ct:Value) (osl:Array (Option Value)),
  fd=PySem.W.fnOf x qual (fL st) (bV st) (aO st) .none kV doc pm an cdv ct/\K.lookup f=some ⟨oc,od,.func fd,osl⟩/\PySem.W.codeIn K cdv qual=true
 kp:PySem.W.keepIn K (.ref f)=true
section
variable {P:Program} {w:World} {K:Fg} {mg:Str->Option Value} {base:Heap}
theorem Fun.ok {x qual:Str} {st:Stmt} {f:Addr} {fd:FuncData} {N ps:List Str} {k:Nat} {sp:Sp} (F:Fun K x qual st f fd) (S:cO N ps (aO st)) (len:∀vs H Q E,sp vs H Q E->vs.length=ps.length)
  (hbody:∀(cdv:Value) (A:Around) (outer:List Env) (s:Shared) (H:Hp) (vs:List V) (Q:VK) (E:XK),Room k (A.deeper (envOfC qual (aO st) s.heap.objs.size f cdv))->sp vs H Q E ->
   ∃t,PSs (nP lQ P w K mg base N qual (aO st) f cdv A outer s H E).nox (bV st) t/\t { nx:=fun _ H'=>Q .non H',rt:=Q } (start N vs) H):e8 P w K mg base lQ (k+1) f fd ps sp:=by
 obtain ⟨oc,od,kV,doc,pm,an,cdv,ct,osl,rfl,lk,hcd⟩:=F.ex;refine Dx lk hcd S len fun A outer s H vs Q E hr hsp=>?_
 obtain ⟨t,h,q⟩:=hbody cdv A outer s H vs Q E hr hsp;exact ⟨t,h.nox,q⟩
theorem Fun.binds {x qual:Str} {st:Stmt} {f:Addr} {fd:FuncData} {ps:List Str} (F:Fun K x qual st f fd)
  (h:∀(kV doc pm:Value) (an:Option Addr) (cdv ct:Value) (us:List Value),us.length=ps.length->bindArgs (PySem.W.fnOf x qual (fL st) (bV st) (aO st) .none kV doc pm an cdv ct) ⟨us,[]⟩=pure (ps.zip us)):Binds K fd ps []:=by
 obtain ⟨oc,od,kV,doc,pm,an,cdv,ct,osl,rfl,lk,hcd⟩:=F.ex;exact .all (h kV doc pm an cdv ct)
theorem Bn {x qual:Str} {st:Stmt} {f:Addr} {oc:Value} {od an:Option Addr} {osl:Array (Option Value)} {kV doc pm cdv ct:Value} (l:K.lookup f=some ⟨oc,od,.func (PySem.W.fnOf x qual (fL st) (bV st) (aO st) .none kV doc pm an cdv ct),osl⟩)
  (c:PySem.W.codeIn K cdv qual=true) (k:PySem.W.keepIn K (.ref f)=true):Fun K x qual st f (PySem.W.fnOf x qual (fL st) (bV st) (aO st) .none kV doc pm an cdv ct):=⟨⟨oc,od,kV,doc,pm,an,cdv,ct,osl,rfl,l,c⟩,k⟩
end
theorem kr {n:Nat} (h:n<=1000):n<sizeLine:=Nat.lt_of_le_of_lt h (by decide)
theorem jr {A B:Prop} (h:B):if false=true then A else B:=by
 rw [if_neg Bool.false_ne_true];exact h
theorem j9 {A B:Prop} (h:A):if true=true then A else B:=by
 rw [if_pos rfl];exact h
noncomputable def Same (H H':Hp):Prop:=∀b o,H b=some o->H' b=some o
theorem Same.refl (H:Hp):Same H H:=fun _ _ h=>h
theorem Same.trans {H H1 H2:Hp} (a:Same H H1) (b:Same H1 H2):Same H H2:=fun c o h=>b c o (a c o h)
theorem Same.free {H H':Hp} (e:Same H H') {l:Addr} (h:H' l=Option.none):H l=Option.none:=by
 cases q:H l with
 | none=>rfl
 | some o=>
  rw [e l o q] at h
  cases h
theorem Same.seq {K:Fg} {H H':Hp} {a:Addr} {xs:List V} (e:Same H H') (h:SqL K H a xs):SqL K H' a xs:=by
 rcases h with (h | ⟨o,h⟩) | h
 ·exact .inl (.inl (e _ _ h))
 ·exact .inl (.inr ⟨o,e _ _ h⟩)
 ·exact .inr h
section
variable {prog:Program} {w:World} {A:Around} {R:Result->Shared->Prop} {s:Shared}
noncomputable abbrev yc:Value->Shared->Prop:=fun _ _=>False
theorem lK {elt target iter:Expr} {ifs:List Expr} {scope:Scope} {pos:Pos} {it acc:Value} {env:Env} (I:Nat->Shared->Prop)
  (turn:∀n s,I n s->wpAny (model prog w) A (pyNext it) (fun r s₁=>match r with
   | none=>R (.ok .next) s₁
   | some v=>wpAny (model prog w) A (letOwnedTupleGo target it v) (fun _ s₁'=>wpAny (model prog w) A (assign target env v) (fun _ s₂=>
     wpAny (model prog w) A (forIn ifs true fun c r=>if r=true then do let ok <-isTrue c env (eval c env);pure (ForInStep.yield ok) else pure (ForInStep.yield r)) (fun ok s₃=>
      if ok=true then wpAny (model prog w) A (eval elt env) (fun x s₄=>
       wpAny (model prog w) A (call (.builtin "list.append") [acc,x]) (fun _ s₅=>∃m,m<n/\I m s₅) yc s₄) yc s₃
      else ∃m,m<n/\I m s₃) yc s₂) yc s₁') yc s₁) yc s)
  (n:Nat) (h:I n s) :
  codeAny (model prog w) A (.compLoop (.ListComp elt [⟨target,iter,ifs,0⟩] scope pos) 0 it acc env) R s:=by
 refine codeAny_loop rfl I (fun n s hI=>?_) n h
 show wpAny _ A ((compTurn (.ListComp elt [⟨target,iter,ifs,0⟩] scope pos) 0 it acc env).onRaise (fun x=>do noteFrame x env;theTreesLotGoes x)) _ _ s
 refine wpAny_noted ?_
 rw [compTurn_list];have F:∀{Z:Value->Shared->Prop},∀(e:Value) (s:Shared),yc e s->Z e s:=fun _ _ x=>x.elim
 refine JE (wpAny_standAt (JE (wpAny_mono (turn n s hI) (fun r s₁ h₁=>?_) F)))
 cases r with
 | none=>exact JF h₁
 | some v=>
  refine JE (wpAny_mono h₁ (fun _ s₁' h₁'=>?_) F)
  refine JE (wpAny_mono h₁' (fun _ s₂ h₂=>JE (wpAny_mono h₂ (fun ok s₃ h₃=>?_) F)) F)
  cases ok with
  | false=>exact JF ⟨rfl,h₃⟩
  | true=>
   exact JE (JE (wpAny_mono h₃ (fun x s₄ h₄=>JE (wpAny_mono h₄ (fun _ s₅ h₅=>JF (JF ⟨rfl,h₅⟩)) F)) F))
end
noncomputable def df (env:Env):List (Str×NameKind)->List (Str×Addr)->List (Str×Addr)
 | [],acc=>acc
 | (n,k)::r,acc=>if k==.free then df env r ((n,(env.cells.lookup n).getD 0)::acc) else df env r acc
theorem Gd {env:Env}:∀(names:List (Str×NameKind)) (acc:List (Str×Addr)),(∀n,(n,NameKind.free)∈names->∃c,env.cells.lookup n=some c) ->
  (forIn names acc fun (x:Str×NameKind) (cs:List (Str×Addr))=>(match x with | (name,kind)=>if kind==.free then (do let a <-cellOf env name;pure (ForInStep.yield ((name,a)::cs))) else pure (ForInStep.yield cs):Sem (ForInStep (List (Str×Addr)))))=(pure (df env names acc):Sem (List (Str×Addr)))
 | [],acc,_=>by rw [forIn_nil];rfl
 | (n,k)::r,acc,h=>by
  rw [List.forIn_cons];unfold df;by_cases hk:(k==.free)=true
  ·simp only [hk,if_true]
   have hk':k=.free:=by simpa using hk
   obtain ⟨c,hc⟩:=h n (by rw [hk'];exact mem_cons_self)
   have e:cellOf env n=pure c:=by unfold cellOf;rw [hc]
   rw [e,hc];exact Gd r ((n,c)::acc) fun n' hn=>h n' (JB _ hn)
  ·rw [if_neg hk]
   simp only [hk]
   exact Gd r acc fun n' hn=>h n' (JB _ hn)
theorem gY {env:Env} {scope:Scope} (h:∀n,(n,NameKind.free)∈scope.names->∃c,env.cells.lookup n=some c):closureFor scope env=pure (df env scope.names []):=by
 have:=Gd (env:=env) scope.names [] h
 unfold closureFor;rw [show (pure (df env scope.names []):Sem (List (Str×Addr)))=(pure (df env scope.names []) >>= fun x=>pure x) from rfl,<-this]
theorem Gy {env:Env} {x:Str} {c:Addr}:∀{names:List (Str×NameKind)} {acc:List (Str×Addr)},(∀n,(n,NameKind.free)∈names->∃c,env.cells.lookup n=some c)->(df env names acc).lookup x=some c->env.cells.lookup x=some c\/acc.lookup x=some c
 | [],_,_,e=>.inr e
 | (n,k)::r,acc,h,e=>by
  unfold df at e;have h':∀n',(n',NameKind.free)∈r->∃c,env.cells.lookup n'=some c:=fun n' hn=>h n' (JB _ hn)
  by_cases hk:(k==.free)=true
  ·rw [if_pos hk] at e
   rcases Gy h' e with q | q
   ·exact .inl q
   ·rw [lookup_cons] at q
    have hk':k=.free:=by simpa using hk
    obtain ⟨c',hc⟩:=h n (by rw [hk'];exact mem_cons_self)
    cases hx:x==n with
    | true=>
     rw [hx,hc] at q
     cases q;rw [eq_of_beq hx];exact .inl hc
    | false=>
     rw [hx] at q;exact .inr q
  ·rw [if_neg hk] at e
   exact Gy h' e
theorem B6 {env:Env} {x:Str}:∀{names:List (Str×NameKind)} {acc:List (Str×Addr)},(x,NameKind.free)∈names\/(acc.lookup x).isSome=true->((df env names acc).lookup x).isSome=true
 | [],_,h=>h.elim nofun id
 | (n,k)::r,acc,h=>by
  unfold df;by_cases hk:(k==.free)=true
  ·rw [if_pos hk]
   refine B6 (names:=r) ?_
   rcases h with h | h
   ·rcases Jy h with e | h
    ·cases e
     exact .inr (by rw [lookup_cons];simp)
    ·exact .inl h
   ·right
    rw [lookup_cons]
    cases hx:x==n with
    | true=>rfl
    | false=>exact h
  ·rw [if_neg hk]
   refine B6 (names:=r) ?_
   rcases h with h | h
   ·rcases Jy h with e | h
    ·cases e
     exact absurd rfl hk
    ·exact .inl h
   ·exact .inr h
theorem Cw {x:Str} {c:Addr}:∀{names:List (Str×NameKind)} {n:Nat} {acc:List (Str×Addr)},(cellsFrom n names acc).lookup x=some c->((x,NameKind.cell)∈names/\n<=c)\/acc.lookup x=some c
 | [],_,_,e=>.inr e
 | (y,k)::r,n,acc,e=>by
  unfold cellsFrom at e;by_cases hk:(k==.cell)=true
  ·rw [if_pos hk] at e
   have hk':k=.cell:=by simpa using hk
   rcases Cw e with ⟨q,l⟩ | q
   ·exact .inl ⟨JB _ q,by omega⟩
   ·rw [lookup_cons] at q
    cases hx:x==y with
    | true=>
     rw [hx] at q
     cases q;exact .inl ⟨by rw [eq_of_beq hx,hk'];exact mem_cons_self,JH _⟩
    | false=>
     rw [hx] at q;exact .inr q
  ·rw [if_neg hk] at e
   rcases Cw e with ⟨q,l⟩ | q
   ·exact .inl ⟨JB _ q,l⟩
   ·exact .inr q
theorem GP {x y:Str} {c:Addr}:∀{names:List (Str×NameKind)} {n:Nat} {acc:List (Str×Addr)},(∀z d,acc.lookup z=some d->d<n)->(∀x y d,acc.lookup x=some d->acc.lookup y=some d->x=y) ->
  (cellsFrom n names acc).lookup x=some c->(cellsFrom n names acc).lookup y=some c->x=y
 | [],_,_,_,hi,e,e'=>hi _ _ _ e e'
 | (z,k)::r,n,acc,hl,hi,e,e'=>by
  unfold cellsFrom at e e'
  by_cases hk:(k==.cell)=true
  ·rw [if_pos hk] at e e'
   refine GP (names:=r) (n:=n+1) (acc:=(z,n)::acc) (fun a d q=>?_) (fun a b d q q'=>?_) e e'
   ·rw [lookup_cons] at q
    cases hx:a==z with
    | true=>rw [hx] at q;cases q;exact Nat.lt_succ_self _
    | false=>rw [hx] at q;exact Nat.lt_succ_of_lt (hl a d q)
   ·rw [lookup_cons] at q q'
    cases hx:a==z with
    | true=>
     rw [hx] at q
     cases q
     cases hy:b==z with
     | true=>rw [eq_of_beq hx,eq_of_beq hy]
     | false=>rw [hy] at q';exact absurd (hl b n q') (Nat.lt_irrefl _)
    | false=>
     rw [hx] at q
     cases hy:b==z with
     | true=>rw [hy] at q';cases q';exact absurd (hl a n q) (Nat.lt_irrefl _)
     | false=>rw [hy] at q';exact hi a b d q q'
  ·rw [if_neg hk] at e e'
   exact GP hl hi e e'
theorem Ge {env:Env} {x:Str} {c:Addr}:∀{names:List (Str×NameKind)} {acc:List (Str×Addr)},(df env names acc).lookup x=some c->(x,NameKind.free)∈names\/acc.lookup x=some c
 | [],_,e=>.inr e
 | (n,k)::r,acc,e=>by
  unfold df at e;by_cases hk:(k==.free)=true
  ·rw [if_pos hk] at e
   have hk':k=.free:=by simpa using hk
   rcases Ge e with q | q
   ·exact .inl (JB _ q)
   ·rw [lookup_cons] at q
    cases hx:x==n with
    | true=>rw [eq_of_beq hx,hk'];exact .inl mem_cons_self
    | false=>rw [hx] at q;exact .inr q
  ·rw [if_neg hk] at e
   rcases Ge e with q | q
   ·exact .inl (JB _ q)
   ·exact .inr q
theorem EB {x:Str}:∀{names:List (Str×NameKind)} {n:Nat} {acc:List (Str×Addr)},(x,NameKind.cell)∈names\/(acc.lookup x).isSome=true->((cellsFrom n names acc).lookup x).isSome=true
 | [],_,_,h=>h.elim nofun id
 | (y,k)::r,n,acc,h=>by
  unfold cellsFrom;by_cases hk:(k==.cell)=true
  ·rw [if_pos hk]
   refine EB (names:=r) ?_
   rcases h with h | h
   ·rcases Jy h with e | h
    ·cases e
     exact .inr (by rw [lookup_cons];simp)
    ·exact .inl h
   ·right
    rw [lookup_cons]
    cases hx:x==y with
    | true=>rfl
    | false=>exact h
  ·rw [if_neg hk]
   refine EB (names:=r) ?_
   rcases h with h | h
   ·rcases Jy h with e | h
    ·cases e
     exact absurd rfl hk
    ·exact .inl h
   ·exact .inr h
theorem EA {x:Str}:∀{names:List (Str×NameKind)} {n:Nat} {acc:List (Str×Addr)},(x,NameKind.cell)∉names->(cellsFrom n names acc).lookup x=acc.lookup x
 | [],_,_,_=>rfl
 | (y,k)::r,n,acc,h=>by
  unfold cellsFrom;have hr:(x,NameKind.cell)∉r:=fun z=>h (JB _ z)
  by_cases hk:(k==.cell)=true
  ·rw [if_pos hk,EA hr,lookup_cons]
   have hk':k=.cell:=by simpa using hk
   cases hx:x==y with
   | true=>exact absurd (by rw [eq_of_beq hx,hk'];exact mem_cons_self) h
   | false=>rfl
  ·rw [if_neg hk]
   exact EA hr
theorem EC {x:Str} {c:Addr}:∀{names:List (Str×NameKind)} {n:Nat} {acc:List (Str×Addr)},(x,NameKind.cell)∈names->(cellsFrom n names acc).lookup x=some c->(cellsFrom n names []).lookup x=some c
 | [],_,_,h,_=>nomatch h
 | (y,k)::r,n,acc,h,e=>by
  unfold cellsFrom at e ⊢
  by_cases hk:(k==.cell)=true
  ·rw [if_pos hk] at e ⊢
   by_cases hr:(x,NameKind.cell)∈r
   ·have:∀{acc acc':List (Str×Addr)},(cellsFrom (n+1) r acc).lookup x=some c->(cellsFrom (n+1) r acc').lookup x=some c:=fun {a a'} q=>by
     have q0:=EC hr q
     have hs:=EB (n:=n+1) (acc:=a') (.inl hr)
     obtain ⟨c',hc'⟩:=Option.isSome_iff_exists.mp hs;have q1:=EC hr hc'
     rw [q0] at q1
     cases q1;exact hc'
    exact this e
   ·rw [EA hr] at e ⊢
    rw [lookup_cons] at e ⊢
    cases hx:x==y with
    | true=>rw [hx] at e;exact e
    | false=>
     rcases Jy h with z | z
     ·cases z
      simp at hx
     ·exact absurd z hr
  ·rw [if_neg hk] at e ⊢
   rcases Jy h with z | z
   ·cases z
    exact absurd rfl hk
   ·exact EC z e
noncomputable def blk (X:Cx) (scope:Scope) (cells:List (Str×Addr)) (C:Addr) (s₀:Shared) (H₀:Hp) (ex:List Addr):Cx where
 prog:=X.prog
 w:=X.w
 K:=X.K
 mg:=X.mg
 base:=X.base
 A:=X.A
 N:=X.N
 s₀:=s₀
 H₀:=H₀
 env:={ scope:=relabel scope X.env,locals:=C,globals:=X.env.globals,cells:=cells,qual:=X.env.qual,func:=none,code:=X.env.code,frame:=X.env.frame,builtins:=X.env.builtins }
 outer:=X.stack
 stack:=X.stack
 ex:=ex
 fn:=fun x=>scope.names.any fun y=>y.1==x&&y.2==.cell
 calm:=X.calm
 pn:=[]
 xe:=fun _ _=>False
structure d9 (N:List Str) (is:List Nat) (osc scope:Scope):Prop where
 kind:scope.kind=.function
 free:∀n,(n,NameKind.free)∈scope.names->osc.names.lookup n=some .cell\/osc.names.lookup n=some .free
 own:∀(i:Nat) (x:Str),N[i]?=some x->(x,NameKind.local)∈scope.names\/(x,NameKind.cell)∈scope.names->i∈is
 loc:∀x∈scope.names,x.2=.local->scope.names.lookup x.1=some .local
 one:∀n,(n,NameKind.free)∈scope.names->(n,NameKind.cell)∉scope.names
noncomputable def bC (is:List Nat) (σ:St):St:=σ.mapIdx fun i v=>if i∈is then none else v
theorem yo (is:List Nat) (σ:St):(bC is σ).length=σ.length:=by unfold bC;simp
theorem Cr {is:List Nat} {σ:St} {i:Nat} {v:V} (h:(bC is σ)[i]?=some (some v)):i∉is/\σ[i]?=some (some v):=by
 unfold bC at h;rw [List.getElem?_mapIdx] at h
 cases e:σ[i]? with
 | none=>rw [e] at h;cases h
 | some o=>
  rw [e] at h;simp only [Option.map_some,Option.some.injEq] at h
  by_cases hi:i∈is
  ·rw [if_pos hi] at h;cases h
  ·rw [if_neg hi] at h;exact ⟨hi,by rw [h]⟩
noncomputable def Ia (σ0 σ2:St):Prop:=σ2.length=σ0.length/\∀(i:Nat) v,σ0[i]?=some (some v)->σ2[i]?=some (some v)
theorem jq {x:Str} {k:NameKind} {l:List (Str×NameKind)} (h:l.lookup x=some k):(x,k)∈l:=PySem.mem_of_lookup h
theorem B8 {scope:Scope} {env:Env} {x:Str} {k:NameKind} (h:(relabel scope env).names.lookup x=some k) :
  (x,k)∈scope.names\/((x,NameKind.free)∈scope.names/\k=.cell):=by
 have h:=jq h
 unfold relabel at h;obtain ⟨⟨n,k'⟩,hm,e⟩:=List.mem_map.mp h;dsimp only at e;by_cases hc:(k'==NameKind.free&&env.scope.kind==.function&&env.kindOf n==some .cell)=true
 ·rw [if_pos hc] at e
  cases e;have:k'=.free:=by
   simp only [Bool.and_eq_true,beq_iff_eq] at hc
   exact hc.1.1
  exact .inr ⟨this▸hm,rfl⟩
 ·rw [if_neg hc] at e
  cases e;exact .inl hm
noncomputable def bp (X:Cx) (scope:Scope) (C:Addr):List (Str×Addr):=cellsFrom (C+1) scope.names (df X.env scope.names [])
section
variable {X:Cx} {pins:List (Addr×Obj)} {σ:St} {H:Hp} {s:Shared} {scope:Scope} {is:List Nat}
theorem Inv.freeCells (I:Inv X pins σ H s) (S:d9 X.N is X.env.scope scope):∀n,(n,NameKind.free)∈scope.names->∃c,X.env.cells.lookup n=some c:=fun n hn=>
 I.ok.has n (S.free n hn)
theorem Inv.blkOld (I:Inv X pins σ H s) (S:d9 X.N is X.env.scope scope) {x:Str} {c:Addr} (h:(df X.env scope.names []).lookup x=some c):X.env.cells.lookup x=some c:=by
 rcases Gy (I.freeCells S) h with q | q
 ·exact q
 ·cases q
theorem Inv.block {fp:List Addr} {t':Nat} (I:Inv X pins σ H s) (S:d9 X.N is X.env.scope scope) (hf:∀b∈fp,ki X pins H b) (hfs:∀b∈fp,b<s.heap.objs.size) :
  Inv (blk X scope (bp X scope (s.heap.objs.size+1)) (s.heap.objs.size+1) s H fp) [] (bC is σ) (b9 H s.heap.objs.size (.lst []))
   { s with heap:=pushCells ((s.heap.push { cls:=.type "list",data:=.seq ([]:List Value).toArray }).push { cls:=.type "dict",data:=.dict #[] }) scope.names,toks:=t' }:=by
 generalize hC:s.heap.objs.size+1=C
 have hDn:H s.heap.objs.size=none:=I.hok.fresh (JH _)
 have s1:(s.heap.push { cls:=.type "list",data:=.seq ([]:List Value).toArray }).objs.size=C:=by rw [Heap.size_push,hC]
 have kept:∀b o,s.heap.get? b=some o->(pushCells ((s.heap.push { cls:=.type "list",data:=.seq ([]:List Value).toArray }).push { cls:=.type "dict",data:=.dict #[] }) scope.names).get? b=some o:=
  fun b o e=>pushCells_keeps _ _ b o (JG _ (JG _ e))
 have cellsL:∀x c,(bp X scope C).lookup x=some c->((x,NameKind.cell)∈scope.names/\C+1<=c)\/X.env.cells.lookup x=some c:=fun x c e=>by
  rcases Cw e with q | q
  ·exact .inl q
  ·exact .inr (I.blkOld S q)
 have oldLt:∀x c,X.env.cells.lookup x=some c->c<s.heap.objs.size:=fun x c e=>by
  obtain ⟨v,q⟩:=I.cell x c e;exact q.lt
 have cok:CellsOk (pushCells ((s.heap.push { cls:=.type "list",data:=.seq ([]:List Value).toArray }).push { cls:=.type "dict",data:=.dict #[] }) scope.names) (C+1)
   (cellsFrom (C+1) scope.names []):=by
  have:=cellsFrom_ok scope.names ((s.heap.push { cls:=.type "list",data:=.seq ([]:List Value).toArray }).push { cls:=.type "dict",data:=.dict #[] }) (C+1) [] ⟨fun _ _ hm=>(nomatch hm),List.Pairwise.nil⟩ (by rw [Heap.size_push,s1];exact JH _)
  rw [Heap.size_push,s1] at this;exact this
 have lt1:∀{b:Nat},b<s.heap.objs.size->b≠C:=fun {b} h e=>by subst e;rw [<-hC] at h;exact absurd (Nat.lt_of_succ_lt h) (Nat.lt_irrefl _)
 have hDle:s.heap.objs.size<=C:=by rw [<-hC];exact Nat.le_succ _
 have cellAt:∀x c,(bp X scope C).lookup x=some c->(C<c/\(pushCells ((s.heap.push { cls:=.type "list",data:=.seq ([]:List Value).toArray }).push { cls:=.type "dict",data:=.dict #[] }) scope.names).IsCell c none)\/X.env.cells.lookup x=some c:=fun x c e=>by
  rcases cellsL x c e with ⟨q1,q2⟩ | q
  ·exact .inl ⟨q2,(cok.empty x c (PySem.mem_of_lookup (EC q1 e))).1⟩
  ·exact .inr q
 refine ⟨⟨I.ok.mod,S.kind,I.ok.glob,I.ok.blt,hDle,?_,?_,?_,I.ok.hd,I.ok.frames,.inl rfl,?_,I.bs,Nat.le_trans I.ok.bsz I.sz,?_,?_,I.stack,I.stkFree⟩,rfl,I.bare,?_,?_,?_,?_,?_,fun p hp=>absurd (show p∈([]:List (Addr×Obj)) from hp) (by simp),?_,(yo _ _).trans I.len⟩
 ·-- inj
  intro x y c hx hy;refine GP (fun z d q=>?_) (fun a b d q q'=>I.ok.inj a b d (I.blkOld S q) (I.blkOld S q')) hx hy
  exact Nat.lt_succ_of_lt (Nat.lt_of_lt_of_le (oldLt z d (I.blkOld S q)) hDle)
 ·-- has
  intro x hx;have q:((bp X scope C).lookup x).isSome=true:=by
   refine EB ?_
   have hx:(relabel scope X.env).names.lookup x=some .cell\/(relabel scope X.env).names.lookup x=some .free:=hx
   rcases hx with hx | hx
   ·rcases B8 hx with z | ⟨z,_⟩
    ·exact .inl z
    ·exact .inr (B6 (.inl z))
   ·rcases B8 hx with z | ⟨z,_⟩
    ·exact .inr (B6 (.inl z))
    ·exact .inr (B6 (.inl z))
  exact Option.isSome_iff_exists.mp q
 ·-- cab
  intro x c hx e;have hx:(scope.names.any fun y=>y.1==x&&y.2==NameKind.cell)=true:=hx
  obtain ⟨y,hy,hz⟩:=List.any_eq_true.mp hx;simp only [Bool.and_eq_true,beq_iff_eq] at hz
  have hm:(x,NameKind.cell)∈scope.names:=by rw [<-hz.1,<-hz.2];exact hy
  rcases Cw e with ⟨_,q⟩ | q
  ·exact Nat.le_trans hDle (Nat.le_of_succ_le q)
  ·rcases Ge q with z | z
   ·exact absurd hm (S.one x z)
   ·cases z
 ·-- exf
  intro b hb;obtain ⟨f0,f1,f2,f3,f4,f5⟩:=hf b hb;refine ⟨lt1 (hfs b hb),fun x c e z=>?_⟩
  rcases cellsL x c e with ⟨_,q⟩ | q
  ·subst z
   exact absurd (Nat.lt_of_lt_of_le (hfs _ hb) hDle) (Nat.not_lt.mpr (Nat.le_of_succ_le q))
  ·exact f4 x c q z
 ·-- noex
  intro b o e hb;obtain ⟨f0,f1,f2,f3,f4,f5⟩:=hf b hb;rcases f3 with z | z
  ·exact I.ok.noex b o e z
  ·exact absurd (Nat.lt_of_lt_of_le (Heap.lt_size e) (Nat.le_trans I.ok.bsz z)) (Nat.lt_irrefl _)
 ·-- exfs
  intro b hb z;obtain ⟨f0,f1,f2,f3,f4,f5⟩:=hf b hb;rcases Jy (I.stkSub b z) with e | e
  ·exact f1 e
  ·exact f2 e
 ·-- base
  exact Un.laid kept (JH _) hDn
 ·-- loc
  refine ⟨fun _=>none,?_,fun i x v e1 e2 e3=>?_⟩
  ·have:=(Heap.Ns.new (s.heap.push { cls:=.type "list",data:=.seq ([]:List Value).toArray }) (.type "dict")).keeps (pushCells_keeps scope.names _)
   rw [s1] at this;exact this
  ·obtain ⟨hni,e2'⟩:=Cr e2
   obtain ⟨m,hn,hl⟩:=id I.loc;have hfree:(x,NameKind.free)∈scope.names:=by
    have e3:(relabel scope X.env).names.lookup x=some .local\/(relabel scope X.env).names.lookup x=some .cell\/(relabel scope X.env).names.lookup x=some .free:=e3
    rcases e3 with z | z | z
    ·rcases B8 z with y | ⟨y,_⟩
     ·exact absurd (S.own i x e1 (.inl y)) hni
     ·exact y
    ·rcases B8 z with y | ⟨y,_⟩
     ·exact absurd (S.own i x e1 (.inr y)) hni
     ·exact y
    ·rcases B8 z with y | ⟨y,_⟩
     ·exact y
     ·exact y
   have hk:=S.free x hfree
   obtain ⟨u,r,l⟩:=hl i x v e1 e2' (.inr hk)
   refine ⟨u,r,?_⟩
   rcases l with ⟨k,_⟩ | ⟨k,c,e,z⟩
   ·have k:X.env.scope.names.lookup x=some .local:=k
    rcases hk with q | q<;>(rw [q] at k;cases k)
   ·refine .inr ⟨?_,c,?_,z.keeps kept⟩
    ·have e3:(relabel scope X.env).names.lookup x=some .local\/(relabel scope X.env).names.lookup x=some .cell\/(relabel scope X.env).names.lookup x=some .free:=e3
     rcases e3 with y | y | y
     ·rcases B8 y with y' | ⟨_,y'⟩
      ·exact absurd (S.own i x e1 (.inl y')) hni
      ·cases y'
     ·exact .inl y
     ·exact .inr y
    ·have q:=B6 (env:=X.env) (acc:=[]) (.inl hfree)
     obtain ⟨c',hc'⟩:=Option.isSome_iff_exists.mp q;have:=I.blkOld S hc'
     rw [e] at this
     cases this;show (bp X scope C).lookup x=some c
     unfold bp;rw [EA (S.one x hfree)];exact hc'
 ·-- cell
  intro x c e;rcases cellAt x c e with ⟨_,q⟩ | q
  ·exact ⟨_,q⟩
  ·obtain ⟨v,z⟩:=I.cell x c q
   exact ⟨v,z.keeps kept⟩
 ·-- free
  show b9 H s.heap.objs.size (.lst []) C=none
  rw [e9 (by rw [<-hC];exact Nat.ne_of_gt (Nat.lt_succ_self _))]
  exact I.hok.fresh hDle
 ·-- freeC
  intro x c e;show b9 H s.heap.objs.size (.lst []) c=none
  rcases cellAt x c e with ⟨q,_⟩ | q
  ·have hc:s.heap.objs.size<c:=Nat.lt_of_le_of_lt hDle q
   rw [e9 (Nat.ne_of_gt hc)];exact I.hok.fresh (Nat.le_of_lt hc)
  ·rw [e9 (Nat.ne_of_lt (oldLt x c q))]
   exact I.freeC x c q
 ·-- hok
  exact I.hok.laid kept (JH _) ⟨Nat.zero_le _,[],0,.nil,pushCells_keeps _ _ _ _ (JG _ (Heap.get?_push_size _ rfl))⟩
end
section
variable {M:Model} {A:Around} {E:Value->Shared->Prop} {s:Shared}
theorem j6 {scope:Scope} {globals:Addr} {cl:List (Str×Addr)} {qual:Str} {env:Env} {Q:Env->Shared->Prop}
  (hQ:Q (newEnv scope s.heap.objs.size globals (cellsFrom (s.heap.objs.size+1) scope.names cl) qual none .none (some env) builtinsNs) { s with heap:=pushCells (s.heap.push { cls:=.type "dict",data:=.dict #[] }) scope.names }) :
  wpAny M A (newFunctionEnv scope globals cl [] qual none .none (some env)) Q E s:=by
 simp only [newFunctionEnv,Option.isSome_some,if_true]
 refine JE (wpAny_alloc ?_)
 refine JE (wpAny_layCells _ (fun name kind cells=>by cases hkc:kind==NameKind.cell<;>simp [hkc]) _ _ _ _ ?_)
 rw [show ({ s with heap:=s.heap.push { cls:=.type "dict",data:=.dict #[] } }:Shared).heap.objs.size=s.heap.objs.size+1 from Heap.size_push ..]
 rw [forIn_nil];exact JE (JF (JF hQ))
end
noncomputable def PF (X:Cx) (ifs:List Expr) (t:TT):Prop:=
 ∀(pins:List (Addr×Obj)) (s:Shared) (σ:St) (H:Hp) (Q:Bool->Hp->Prop),Inv X pins σ H s->t σ H Q ->
  wpAny (model X.prog X.w) X.A (forIn ifs true fun c r=>if r=true then do let ok <-isTrue c X.env (eval c X.env);pure (ForInStep.yield ok) else pure (ForInStep.yield r)) (TP X pins σ Q) X.xe s
noncomputable def pV:TT:=fun _ H Q=>Q true H
theorem ug {X:Cx}:PF X [] pV:=fun pins s σ H Q I h=>wpAny_tests_nil ⟨H,I,h⟩
theorem Au {X:Cx} {c:Expr} {t:TT} (h:PT X c t):PF X [c] t:=fun pins s σ H Q I q=>wpAny_tests_one (h pins s σ H Q I q)
noncomputable def iZ (is:List Nat) (wi:TI) (g:TG) (tc:TT) (te:TE):TE:=fun σ H Q=>wi σ H fun J H1=>∀D,H1 D=none->∃W:Nat->Nat->List V->Hp->Prop,(∃m,W 0 m [] (b9 H1 D (.lst [])))/\∀k m ys H,W k m ys H ->
 H D=some (.lst ys)/\((J.stop k H/\Q (.ref D) H)\/(J.go k H/\ys.length<sizeLine/\∀x H',J.yld k H x H'->g x (bC is σ) H' fun σ2 H2=>Ia (bC is σ) σ2/\tc σ2 H2 fun b H3=>
  if b=true then te σ2 H3 fun v H4=>H4 D=some (.lst ys)/\∃m',m'<m/\W (k+1) m' (ys++[v]) (b9 H4 D (.lst (ys++[v]))) else ∃m',m'<m/\W (k+1) m' ys H3))
section
variable {X:Cx} {scope:Scope} {is:List Nat} {tg iter elt:Expr} {ifs:List Expr} {wi:TI} {g:TG} {tc:TT} {te:TE} {pos:Pos}
theorem kF {pins:List (Addr×Obj)} {s:Shared} {σ:St} {H:Hp} {Q:VK} {RR:Value->Addr->Result->Shared->Prop} (S:d9 X.N is X.env.scope scope) (hcalm:X.calm=true) (hi:PI X tg iter wi)
  (hg:∀cells C s₀ H₀ ex,PG (blk X scope cells C s₀ H₀ ex) tg g) (hc:∀cells C s₀ H₀ ex,PF (blk X scope cells C s₀ H₀ ex) ifs tc) (he:∀cells C s₀ H₀ ex,PE (blk X scope cells C s₀ H₀ ex) elt te)
  (I:Inv X pins σ H s) (h:iZ is wi g tc te σ H Q)
  (hRR:∀D C s' H' m,Inv X pins σ H' s'->s'.heap.Ns C m->Q (.ref D) H'->H' C=none->C≠X.env.locals->X.s₀.heap.objs.size<=C->(∀x c,X.env.cells.lookup x=some c->c≠C)->(∀p∈X.pn++pins,p.1≠C)->RR (.ref D) C (.ok .next) s') :
  wpAny (model X.prog X.w) X.A (eval iter X.env) (fun x s₁=>wpAny (model X.prog X.w) X.A (pyIter x) (fun it s₂=>wpAny (model X.prog X.w) X.A (newList []) (fun acc s₃=>
   wpAny (model X.prog X.w) X.A (newFunctionEnv scope X.env.globals (df X.env scope.names []) [] X.env.qual none .none (some X.env)) (fun cenv s₄=>
    codeAny (model X.prog X.w) X.A (.compStart (.ListComp elt [⟨tg,iter,ifs,0⟩] scope pos) 0 it acc { cenv with scope:=relabel scope X.env }) (RR acc cenv.locals) s₄) X.xe s₃) X.xe s₂) X.xe s₁) X.xe s:=by
 refine b5 (hi pins s σ H _ I h) fun v s1 h1=>b5 h1 fun itv s2 h2=>?_
 obtain ⟨it,fp,tn,J,H2,e,I2,T,st2,f2,hW⟩:=h2;subst e;obtain ⟨W,⟨m0,w0⟩,turn⟩:=hW s2.heap.objs.size (I2.hok.fresh (JH _));refine wpAny_newObj_type (j6 ?_)
 have s1:(s2.heap.push { cls:=.type "list",dict:=none,data:=.seq ([]:List Value).toArray }).objs.size=s2.heap.objs.size+1:=by rw [Heap.size_push]
 dsimp only;rw [s1];have hfs:∀b∈fp,b<s2.heap.objs.size:=fun b hb=>by
  obtain ⟨o,e,_⟩:=T.obj 0 _ st2 b hb;exact Heap.lt_size e
 have I4:=I2.block (t':=s2.toks) S f2 hfs
 generalize hCC:s2.heap.objs.size+1=C at I4 ⊢
 have hDC:s2.heap.objs.size<C:=by rw [<-hCC];exact Nat.lt_succ_self _
 have Hg:=hg (bp X scope C) C s2 H2 fp
 have Hc:=hc (bp X scope C) C s2 H2 fp
 have He:=he (bp X scope C) C s2 H2 fp
 have Ha:=Cs (X:=blk X scope (bp X scope C) C s2 H2 fp)
 have hYcell:∀x c,(blk X scope (bp X scope C) C s2 H2 fp).env.cells.lookup x=some c->s2.heap.objs.size<=c\/X.env.cells.lookup x=some c:=fun x c e=>by
  have e:(cellsFrom (C+1) scope.names (df X.env scope.names [])).lookup x=some c:=e
  rcases Cw e with ⟨_,q⟩ | q
  ·exact .inl (Nat.le_trans (Nat.le_of_lt hDC) (Nat.le_of_succ_le q))
  ·exact .inr (I2.blkOld S q)
 have FY:∀{H':Hp},(∀b∈fp,H' b=none)->∀b∈fp,ki (blk X scope (bp X scope C) C s2 H2 fp) [] H' b:=fun {H'} hn b hb=>by
  obtain ⟨f0,f1,f3,f4,f5,f6⟩:=f2 b hb;refine ⟨hn b hb,Nat.ne_of_lt (Nat.lt_trans (hfs b hb) hDC),fun z=>?_,.inl hb,fun x c e z=>?_,fun p hp=>absurd (show p∈([]:List (Addr×Obj)) from hp) (by simp)⟩
  ·rcases Jy (I2.stkSub b z) with e | e
   ·exact f1 e
   ·exact f3 e
  ·rcases hYcell x c e with q | q
   ·rw [z] at q
    exact absurd (Nat.lt_of_lt_of_le (hfs b hb) q) (Nat.lt_irrefl _)
   ·exact f5 x c q z
 have hCx:∀x c,X.env.cells.lookup x=some c->c≠C:=fun x c e z=>by
  obtain ⟨v,q⟩:=I2.cell x c e;have:=q.lt
  rw [z] at this;exact absurd (Nat.lt_trans this hDC) (Nat.lt_irrefl _)
 have hCp:∀p∈X.pn++pins,p.1≠C:=fun p hp z=>by
  have:=Heap.lt_size (I2.pin p hp).1
  rw [z] at this;exact absurd (Nat.lt_trans this hDC) (Nat.lt_irrefl _)
 have out:∀{σ':St} {H':Hp} {s':Shared},Inv (blk X scope (bp X scope C) C s2 H2 fp) [] σ' H' s'->Inv X pins σ H' s':=fun {σ' H' s'} J=>
  I2.call' (ch:=fp) J.os J.base J.hok J.bare fun b hb=>by
   obtain ⟨f0,f1,f3,f4,f5,f6⟩:=f2 b hb;exact ⟨f4,f1,f5,f6⟩
 have loop:∀s₃:Shared,s₃={ s2 with heap:=pushCells ((s2.heap.push { cls:=.type "list",data:=.seq ([]:List Value).toArray }).push { cls:=.type "dict",data:=.dict #[] }) scope.names } ->
   codeAny (model X.prog X.w) X.A (.compLoop (.ListComp elt [⟨tg,iter,ifs,0⟩] scope pos) 0 (.ref it) (.ref s2.heap.objs.size) (blk X scope (bp X scope C) C s2 H2 fp).env) (RR (.ref s2.heap.objs.size) C) s₃:=by
  rintro s₃ rfl
  refine lK (fun n s'=>∃k ys H',Inv (blk X scope (bp X scope C) C s2 H2 fp) [] (bC is σ) H' s'/\tn k s'.heap/\(∀b∈fp,H' b=none)/\W k n ys H') ?_ m0
   ⟨0,[],_,I4,T.keep 0 _ _ st2 fun b _ o e=>pushCells_keeps _ _ b o (JG _ (JG _ e)),fun b hb=>by rw [e9 (Nat.ne_of_lt (hfs b hb))];exact (f2 b hb).1,w0⟩
  rintro n s3 ⟨k,ys,H3,I3,st3,fr3,w3⟩
  obtain ⟨hD3,hcase⟩:=turn k n ys H3 w3;rcases hcase with ⟨stop,qn⟩ | ⟨go,hlen,step⟩
  ·refine b5 (T.done (blk X scope (bp X scope C) C s2 H2 fp) rfl rfl rfl hcalm k [] s3 (bC is σ) H3 yc I3 (FY fr3) st3 stop) fun r s4 ⟨hr,I4⟩=>?_
   subst hr;obtain ⟨m,hn,_⟩:=id I4.loc;exact hRR _ C s4 H3 m (out I4) hn qn I4.free (fun z=>Nat.lt_irrefl _ (Nat.lt_trans (Nat.lt_of_lt_of_eq hDC z) I2.lt)) (Nat.le_trans I2.sz (Nat.le_of_lt hDC)) hCx hCp
  ·refine b5 (T.item (blk X scope (bp X scope C) C s2 H2 fp) rfl rfl rfl hcalm k [] s3 (bC is σ) H3 yc I3 (FY fr3) st3 go) fun r s4 ⟨u,hr,h4⟩=>?_
   subst hr;refine b5 h4 fun _ s5 ⟨x,H5,I5,r5,y5,st5,fr5⟩=>?_
   have I5':=I5.pinned (FY fr5) (T.obj _ _ st5)
   refine b5 (Hg _ s5 (bC is σ) H5 x u _ I5' r5 (step x H5 y5)) fun _ s6 ⟨σ6,H6,I6,le6,q6⟩=>?_
   refine b5 (Hc _ s6 σ6 H6 _ I6 q6) fun ok s7 ⟨H7,I7,q7⟩=>?_
   have again:∀{H8:Hp} {s8:Shared} {ys':List V},Inv (blk X scope (bp X scope C) C s2 H2 fp) ([]++je fp s5.heap) σ6 H8 s8->(∃m',m'<n/\W (k+1) m' ys' H8) ->
     ∃m,m<n/\∃k ys H',Inv (blk X scope (bp X scope C) C s2 H2 fp) [] (bC is σ) H' s8/\tn k s8.heap/\(∀b∈fp,H' b=none)/\W k m ys H':=fun {H8 s8 ys'} I8 ⟨m',hm,w8⟩=>by
    refine ⟨m',hm,k+1,ys',H8,(I8.weak le6.1.symm le6.2).unpinned,T.keep _ _ _ st5 fun b hb o e=>(I8.pin (b,o) (Jv _ (Jv _ (Ez hb e)))).1,fun b hb=>?_,w8⟩
    obtain ⟨o,e,d⟩:=T.obj _ _ st5 b hb;exact (I8.pin (b,o) (Jv _ (Jv _ (Ez hb e)))).2.1
   cases ok with
   | false=>
    rw [if_neg Bool.false_ne_true] at q7;exact again I7 q7
   | true=>
    rw [if_pos rfl] at q7;refine b5 (He _ s7 σ6 H7 _ I7 q7) fun y s8 ⟨v8,H8,I8,r8,q8⟩=>?_
    obtain ⟨hD8,q8⟩:=q8;refine b5 (Ha _ s8 σ6 H8 (.ref s2.heap.objs.size) [v8] (.ref s2.heap.objs.size) [y] (fun _ H9=>∃m',m'<n/\W (k+1) m' (ys++[v8]) H9) I8 rfl (.cons r8 .nil) ⟨_,ys,v8,rfl,rfl,hD8,hlen,q8⟩) fun _ s9 ⟨_,H9,I9,_,q9⟩=>?_
    exact again I9 q9
 exact codeAny_compStart_list (loop _ rfl) (T.self X.A 0 _ _ _ (T.keep 0 _ _ st2 fun b _ o e=>pushCells_keeps _ _ b o (JG _ (JG _ e))) (loop _ rfl))
theorem ql (S:d9 X.N is X.env.scope scope) (hcalm:X.calm=true) (hi:PI X tg iter wi)
  (hg:∀cells C s₀ H₀ ex,PG (blk X scope cells C s₀ H₀ ex) tg g) (hc:∀cells C s₀ H₀ ex,PF (blk X scope cells C s₀ H₀ ex) ifs tc) (he:∀cells C s₀ H₀ ex,PE (blk X scope cells C s₀ H₀ ex) elt te)
  (hs:∀x,foldedSetIterable iter X.env x=pure x:=by intro _;rfl):PE X (.ListComp elt [⟨tg,iter,ifs,0⟩] scope pos) (iZ is wi g tc te):=by
 intro pins s σ H Q I h;rw [eval_ListComp];refine wpAny_comprehension_free (use:=none) rfl hs (gY (I.freeCells S)) S.kind S.loc (kF (RR:=fun acc C=>compPost (model X.prog X.w) X.A X.xe none (EP X pins σ Q) acc C) S hcalm hi hg hc he I h ?_)
 intro D C s' H' m I' hn q n1 n2 n3 n4 n5
 refine ⟨m,hn,fun h' hs'=>?_⟩
 exact ⟨.ref D,H',I'.turned (t':=s'.toks) (fun b o hb e=>(hs'.2 b hb).trans e) n1 n2 (.inr n3) n4 n5,rfl,q⟩
theorem GC {i:Nat} {y:Str} {pos' spos:Pos} (hN:X.N.Nodup) (hy:X.N[i]?=some y) (hl:X.env.scope.names.lookup y=some .local) (S:d9 X.N is X.env.scope scope) (hcalm:X.calm=true) (hi:PI X tg iter wi)
  (hg:∀cells C s₀ H₀ ex,PG (blk X scope cells C s₀ H₀ ex) tg g) (hc:∀cells C s₀ H₀ ex,PF (blk X scope cells C s₀ H₀ ex) ifs tc) (he:∀cells C s₀ H₀ ex,PE (blk X scope cells C s₀ H₀ ex) elt te)
  (hsw:swapsWith (.ListComp elt [⟨tg,iter,ifs,0⟩] scope pos) (some (.Name y pos')) spos.line X.env=pure true)
  (hs:∀x,foldedSetIterable iter X.env x=pure x:=by intro _;rfl):PS X (.Assign [.Name y pos'] (.ListComp elt [⟨tg,iter,ifs,0⟩] scope pos) spos) (fun D σ H=>iZ is wi g tc te σ H fun v H'=>D.nx (σ.set i (some v)) H'):=by
 intro pins s σ H Ds I h;rw [exec_Assign_Name_used _ _ _ _ hsw];refine JE (wpAny_standAt (JE ?_))
 show wpAny _ X.A (do let _ <-comprehension (.ListComp elt [⟨tg,iter,ifs,0⟩] scope pos) scope X.env _ (newList []) false (eval iter X.env) (some (assign (.Name y pos') X.env))) _ _ s
 refine JE (wpAny_mono (wpAny_comprehension_free (use:=some (assign (.Name y pos') X.env)) (Q:=fun _ s'=>SP X pins Ds .next s') rfl hs (gY (I.freeCells S)) S.kind S.loc
  (kF (RR:=fun acc C=>compPost (model X.prog X.w) X.A X.xe (some (assign (.Name y pos') X.env)) (fun _ s'=>SP X pins Ds .next s') acc C) S hcalm hi hg hc he I h ?_)) (fun _ s' hq=>JF (JF hq)) fun _ _ e=>e)
 intro D C s' H' m I' hn q n1 n2 n3 n4 n5
 show wpAny _ X.A (assign (.Name y pos') X.env (.ref D)) _ _ _
 refine wpAny_assign_Name (kq (v:=.ref D) I' hN hy (.inl hl) rfl (fun s'' I'' hch=>?_) (.inr hl))
 obtain ⟨a,hsb,ha⟩:=hch;have hCa:C≠a:=by
  rcases ha with e | e
  ·rw [e];exact n2
  ·exact (n4 y a e).symm
 refine ⟨m,hn.sameBut hsb hCa,fun h' hs'=>?_⟩
 exact ⟨_,H',I''.turned (t':=s''.toks) (fun b o hb e=>(hs'.2 b hb).trans e) n1 n2 (.inr n3) n4 n5,q⟩
end
end L2
namespace T
open PySem PySem.Spec L2
open PyProof.Rows hiding St
abbrev D:=PyData
inductive Rep (K:Fg) (H:Hp):V->D->Prop where
 | non:Rep K H .non .none
 | bl (b:Bool):Rep K H (.bl b) (.bool b)
 | int (i:Int):Rep K H (.int i) (.int i)
 | str (x:Str):Rep K H (.str x) (.str x)
 | lst {p:Addr} {vs:List V} {ds:List D}:SqL K H p vs->vs.length=ds.length->(∀(i:Nat) v d,vs[i]?=some v->ds[i]?=some d->Rep K H v d)->Rep K H (.ref p) (.list ds)
 | tup {p:Addr} {vs:List V} {ds:List D}:SqT K H p vs->vs.length=ds.length->(∀(i:Nat) v d,vs[i]?=some v->ds[i]?=some d->Rep K H v d)->Rep K H (.ref p) (.tuple ds)
theorem fX {K:Fg} {H H':Hp} {a:Addr} {xs:List V} (e:Same H H') (h:SqT K H a xs):SqT K H' a xs:=by
 rcases h with (h | ⟨o,h⟩) | h
 ·exact .inl (.inl (e _ _ h))
 ·exact .inl (.inr ⟨o,e _ _ h⟩)
 ·exact .inr h
theorem Rep.mono {K:Fg} {H H':Hp} {v:V} {d:D} (e:Same H H') (h:Rep K H v d):Rep K H' v d:=by
 induction h with
 | non=>exact .non
 | bl b=>exact .bl b
 | int i=>exact .int i
 | str x=>exact .str x
 | lst hs hl _ ih=>exact .lst (e.seq hs) hl ih
 | tup hs hl _ ih=>exact .tup (fX e hs) hl ih
noncomputable def Reps (K:Fg) (H:Hp) (vs:List V) (ds:List D):Prop:=vs.length=ds.length/\∀(i:Nat) v d,vs[i]?=some v->ds[i]?=some d->Rep K H v d
noncomputable def b8 (H:Hp) (O:List Addr):Hp:=fun a=>if a∈O then none else H a
theorem hid_le {H:Hp} {O:List Addr}:Same (b8 H O) H:=fun b o h=>by
 unfold b8 at h;split at h
 ·cases h
 ·exact h
theorem vH {H:Hp} {O:List Addr} {a:Addr} {o:HO} (h:H a=some o) (n:a∉O):b8 H O a=some o:=by
 unfold b8;rw [if_neg n];exact h
theorem pK {H H':Hp} {O O':List Addr} (e:Same H H') (h:∀a∈O',a∈O\/H a=none):Same (b8 H O) (b8 H' O'):=fun b o q=>by
 unfold b8 at q ⊢
 split at q
 ·cases q
 ·rename_i hn
  have hb:b∉O':=fun z=>(h b z).elim hn fun z=>by rw [z] at q;cases q
  rw [if_neg hb];exact e b o q
theorem FE {H:Hp} {O:List Addr} {p:Addr} {o:HO} (h:p∈O):b8 (b9 H p o) O=b8 H O:=by
 funext b
 unfold b8;split
 ·rfl
 ·rename_i hb
  exact e9 fun e=>hb (e▸h)
theorem FD {H:Hp}:b8 H []=H:=by
 funext b;unfold b8;simp
theorem jP {H:Hp} {p:Addr} {o:HO} (h:H p=none):Same H (b9 H p o):=fun b u e=>by
 rw [e9 (vw e h)];exact e
inductive Sh where
 | view | leaf | lst (s:Sh) | tup (ss:List Sh)
noncomputable def Sh.isView:Sh->Bool
 | .view=>true
 | _=>false
inductive Own (K:Fg) (O:List Addr) (H:Hp):Sh->List Addr->V->D->Prop where
 | view {v d}:Rep K H v d->Own K O H .view [] v d
 | leaf {v d}:Rep K (b8 H O) v d->Own K O H .leaf [] v d
 | lst {s:Sh} {p:Addr} {vs:List V} {ds:List D} {Fs:List (List Addr)}:s.isView=false->H p=some (.lst vs)->vs.length=ds.length->Fs.length=ds.length->(p::Fs.flatten).Nodup ->
   (∀(i:Nat) v d F,vs[i]?=some v->ds[i]?=some d->Fs[i]?=some F->Own K O H s F v d)->Own K O H (.lst s) (p::Fs.flatten) (.ref p) (.list ds)
 | tup {ss:List Sh} {p:Addr} {vs:List V} {ds:List D} {Fs:List (List Addr)}:(∀s∈ss,s.isView=false)->H p=some (.tup vs)->p∉O->vs.length=ds.length->Fs.length=ds.length->ss.length=ds.length->Fs.flatten.Nodup ->
   (∀(i:Nat) v d F s,vs[i]?=some v->ds[i]?=some d->Fs[i]?=some F->ss[i]?=some s->Own K O H s F v d)->Own K O H (.tup ss) Fs.flatten (.ref p) (.tuple ds)
theorem Own.mono {K:Fg} {O O':List Addr} {H H':Hp} {s:Sh} {G:List Addr} {v:V} {d:D} (h:Own K O H s G v d) (e:Same H H') (hO:∀a∈O',a∈O\/H a=none):Own K O' H' s G v d:=by
 induction h with
 | view r=>exact .view (r.mono e)
 | leaf r=>exact .leaf (r.mono (pK e hO))
 | lst hv hp hl hf nd _ ih=>exact .lst hv (e _ _ hp) hl hf nd fun i v d F h1 h2 h3=>ih i v d F h1 h2 h3
 | tup hv hp hn hl hf hs nd _ ih=>exact .tup hv (e _ _ hp) (fun z=>(hO _ z).elim hn fun z=>by rw [z] at hp;cases hp) hl hf hs nd fun i v d F s h1 h2 h3 h4=>ih i v d F s h1 h2 h3 h4
theorem Own.rep {K:Fg} {O:List Addr} {H:Hp} {s:Sh} {G:List Addr} {v:V} {d:D} (h:Own K O H s G v d):Rep K H v d:=by
 induction h with
 | view r=>exact r
 | leaf r=>exact r.mono hid_le
 | lst hv hp hl hf _ q ih=>
  refine .lst (.of hp) hl fun i v d h1 h2=>?_
  rename_i Fs _;obtain ⟨F,hF⟩:∃F,Fs[i]?=some F:=by
   have:=(JD h2).1
   exact ⟨Fs[i]'(by omega),Jz _⟩
  exact ih i v d F h1 h2 hF
 | tup hv hp hn hl hf hs _ q ih=>
  refine .tup (.of hp) hl fun i v d h1 h2=>?_
  rename_i ss _ _ _ Fs _;have hi:=(JD h2).1
  exact ih i v d (Fs[i]'(by omega)) (ss[i]'(by omega)) h1 h2 (Jz _) (Jz _)
theorem nX {Fs:List (List Addr)} {i:Nat} {F:List Addr} {a:Addr} (h:Fs[i]?=some F) (ha:a∈F):a∈Fs.flatten:=List.mem_flatten.mpr ⟨F,mem_of_getElem? h,ha⟩
theorem Own.freeze {K:Fg} {O O':List Addr} {H:Hp} {s:Sh} {G:List Addr} {v:V} {d:D} (h:Own K O H s G v d) (hs:s.isView=false) (h1:∀a∈O',a∈O) (h2:∀a∈G,a∉O'):Rep K (b8 H O') v d:=by
 induction h with
 | view r=>cases hs
 | leaf r=>exact r.mono (pK (Same.refl _) fun a z=>.inl (h1 a z))
 | lst hv hp hl hf _ q ih=>
  refine .lst (.of (vH hp (h2 _ mem_cons_self))) hl fun i v d e1 e2=>?_
  rename_i Fs _;obtain ⟨F,hF⟩:∃F,Fs[i]?=some F:=by
   have:=(JD e2).1
   exact ⟨Fs[i]'(by omega),Jz _⟩
  exact ih i v d F e1 e2 hF hv fun a ha=>h2 a (JB _ (nX hF ha))
 | tup hv hp hn hl hf hs' _ q ih=>
  refine .tup (.of (vH hp fun z=>hn (h1 _ z))) hl fun i v d e1 e2=>?_
  rename_i ss _ _ _ Fs _;have hi:=(JD e2).1
  have e3:Fs[i]?=some (Fs[i]'(by omega)):=Jz _
  exact ih i v d _ (ss[i]'(by omega)) e1 e2 e3 (Jz _) (hv _ (getElem_mem _)) fun a ha=>h2 a (nX e3 ha)
theorem Own.mut {K:Fg} {O:List Addr} {H:Hp} {s:Sh} {G:List Addr} {v:V} {d:D} {p:Addr} {o:HO} {xs:List V} (h:Own K O H s G v d) (hs:s.isView=false) (hp:p∈O) (hg:p∉G) (hl:H p=some (.lst xs)):Own K O (b9 H p o) s G v d:=by
 induction h with
 | view r=>cases hs
 | leaf r=>refine .leaf ?_;rw [FE hp];exact r
 | lst hv hq hl' hf nd q ih=>
  refine .lst hv ?_ hl' hf nd fun i v d F e1 e2 e3=>ih i v d F e1 e2 e3 hv fun z=>hg (JB _ (nX e3 z))
  rw [e9 (fun z=>hg (by rw [<-z];exact mem_cons_self))]
  exact hq
 | tup hv hq hn hl' hf hs' nd q ih=>
  refine .tup hv ?_ hn hl' hf hs' nd fun i v d F s e1 e2 e3 e4=>ih i v d F s e1 e2 e3 e4 (hv _ (mem_of_getElem? e4)) fun z=>hg (nX e3 z)
  rw [e9 (fun z=>by rw [z,hl] at hq;cases hq)]
  exact hq
inductive Sc:V->D->Prop where
 | non:Sc .non .none
 | bl (b:Bool):Sc (.bl b) (.bool b)
 | int (i:Int):Sc (.int i) (.int i)
 | str (x:Str):Sc (.str x) (.str x)
theorem Sc.rep {K:Fg} {H:Hp} {v:V} {d:D} (h:Sc v d):Rep K H v d:=by cases h<;>constructor
noncomputable def bQ:D->Bool
 | .list _=>false
 | .tuple _=>false
 | .dict _=>false
 | _=>true
theorem Rep.sc {K:Fg} {H:Hp} {v:V} {d:D} (h:Rep K H v d) (s:bQ d=true):Sc v d:=by
 cases h with
 | non=>exact .non
 | bl b=>exact .bl b
 | int i=>exact .int i
 | str x=>exact .str x
 | lst _ _ _=>cases s
 | tup _ _ _=>cases s
structure PV where
 s:Sh
 d:D
abbrev Ev:=List (Option PV)
@[simp] abbrev JJ (d:PySem.PyData):Option PV:=some ⟨.leaf,d⟩
inductive Out (α:Type) where
 | ok (a:α) (e:Ev)
 | er (c:Str) (e:Ev)
 | no
noncomputable def Out.bind {α β:Type} (x:Out α) (k:α->Ev->Out β):Out β:=match x with
 | .ok a e=>k a e
 | .er c e=>.er c e
 | .no=>.no
structure EnvOk (K:Fg) (He:Hp) (O:List Addr) (Fs:List (List Addr)) (H:Hp) (σ:St) (Γ:Ev):Prop where
 len1:σ.length=Γ.length
 len2:Fs.length=Γ.length
 same:Same He H
 nd:(O++Fs.flatten).Nodup
 inH:∀a∈O++Fs.flatten,H a≠none
 fresh:∀a∈Fs.flatten,He a=none
 slot:∀(i:Nat) (p:PV),Γ[i]?=some (some p)->p.s.isView=false/\∃v F,σ[i]?=some (some v)/\Fs[i]?=some F/\Own K (O++Fs.flatten) H p.s F v p.d
section
variable {K:Fg} {He H H':Hp} {O O' G:List Addr} {Fs:List (List Addr)} {σ:St} {Γ:Ev}
theorem EnvOk.grow (h:EnvOk K He O Fs H σ Γ) (e:Same H H'):EnvOk K He O Fs H' σ Γ:=
 ⟨h.len1,h.len2,h.same.trans e,h.nd,fun a ha z=>h.inH a ha (e.free z),h.fresh,fun i p q=>let ⟨a,v,F,b,c,d⟩:=h.slot i p q;⟨a,v,F,b,c,d.mono e fun _ z=>.inl z⟩⟩
theorem EnvOk.drop (h:EnvOk K He O Fs H σ Γ) (hs:∀a∈O',a∈O) (nd:O'.Nodup):EnvOk K He O' Fs H σ Γ:=by
 obtain ⟨n1,n2,n3⟩:=JC h.nd;refine ⟨h.len1,h.len2,h.same,List.nodup_append.mpr ⟨nd,n2,fun a ha b hb=>n3 a (hs a ha) b hb⟩,fun a ha=>h.inH a ?_,h.fresh,fun i p q=>let ⟨a,v,F,b,c,d⟩:=h.slot i p q;⟨a,v,F,b,c,d.mono (Same.refl _) fun a z=>.inl ?_⟩⟩
 ·rcases Jx ha with z | z
  ·exact Jw _ (hs a z)
  ·exact Jv _ z
 ·rcases Jx z with z | z
  ·exact Jw _ (hs a z)
  ·exact Jv _ z
theorem EnvOk.dropL (h:EnvOk K He (G++O) Fs H σ Γ):EnvOk K He O Fs H σ Γ:=h.drop (fun a z=>Jv _ z) (JC (JC h.nd).1).2.1
theorem EnvOk.hide (h:EnvOk K He O Fs H σ Γ) (e:Same H H') (nd:G.Nodup) (hn:∀a∈G,H a=none) (hi:∀a∈G,H' a≠none):EnvOk K He (G++O) Fs H' σ Γ:=by
 refine ⟨h.len1,h.len2,h.same.trans e,?_,fun a ha=>?_,h.fresh,fun i p q=>let ⟨a,v,F,b,c,d⟩:=h.slot i p q;⟨a,v,F,b,c,d.mono e fun a z=>?_⟩⟩
 ·rw [append_assoc]
  exact List.nodup_append.mpr ⟨nd,h.nd,fun a ha b hb z=>h.inH b hb (by rw [<-z];exact hn a ha)⟩
 ·rw [append_assoc] at ha
  rcases Jx ha with z | z
  ·exact hi a z
  ·exact fun q=>h.inH a z (e.free q)
 ·rw [append_assoc] at z
  rcases Jx z with z | z
  ·exact .inr (hn a z)
  ·exact .inl z
end
structure Aft (K:Fg) (He:Hp) (O:List Addr) (Fs:List (List Addr)) (H:Hp) (σ:St) (Γ':Ev) (p:PV) (v:V) (H':Hp) (G:List Addr) (Fs':List (List Addr)):Prop where
 same:Same H H'
 env:EnvOk K He (G++O) Fs' H' σ Γ'
 new:∀a∈G++Fs'.flatten,a∈Fs.flatten\/H a=none
 own:Own K (G++O++Fs'.flatten) H' p.s G v p.d
abbrev XW:=Str->St->Hp->Prop
abbrev F1:=Ev->Out PV
noncomputable def tE (K:Fg) (W:XW) (f:F1):TE:=fun σ H Q=>∃He O Fs Γ,EnvOk K He O Fs H σ Γ/\match f Γ with
 | .ok p Γ'=>∀v H' G Fs',Aft K He O Fs H σ Γ' p v H' G Fs'->Q v H'
 | .er c Γ'=>∀H' Fs',Same H H'->EnvOk K He O Fs' H' σ Γ'->W c σ H'
 | .no=>False
noncomputable def Wants (K:Fg) (W:XW) (He:Hp) (O:List Addr) (Fs:List (List Addr)) (H:Hp) (σ:St) (Q:VK) (o:Out PV):Prop:=match o with
 | .ok p Γ'=>∀v H' G Fs',Aft K He O Fs H σ Γ' p v H' G Fs'->Q v H'
 | .er c Γ'=>∀H' Fs',Same H H'->EnvOk K He O Fs' H' σ Γ'->W c σ H'
 | .no=>False
section
variable {K:Fg} {W:XW} {He H:Hp} {O:List Addr} {Fs:List (List Addr)} {σ:St} {Γ Γ':Ev} {Q:VK}
theorem Wants.scal {H2:Hp} {O2:List Addr} {Fs2:List (List Addr)} {v:V} {d:D} (h:Wants K W He O Fs H σ Q (.ok ⟨.leaf,d⟩ Γ')) (s:Sc v d) (e:Same H H2) (E:EnvOk K He O2 Fs2 H2 σ Γ')
  (hO:∀a∈O,a∈O2) (nd:O.Nodup) (new:∀a∈Fs2.flatten,a∈Fs.flatten\/H a=none):Q v H2:=
 h v H2 [] Fs2 ⟨e,by rw [nil_append];exact E.drop hO nd,by rw [nil_append];exact new,.leaf s.rep⟩
theorem EnvOk.ndO (E:EnvOk K He O Fs H σ Γ):O.Nodup:=(JC E.nd).1
end
noncomputable def bf {β:Type} (f:F1) (k:PV->Ev->Out β):Ev->Out β:=fun Γ=>(f Γ).bind k
section
variable {K:Fg} {W:XW} {σ:St} {H:Hp} {Q:VK} {fa fb:F1}
theorem vq {k:PV->F1} {R:VK} (h:tE K W (bf fa k) σ H Q)
  (hk:∀He O Fs Γ1 p v H1 G Fs1,O.Nodup->Aft K He O Fs H σ Γ1 p v H1 G Fs1->Wants K W He O Fs H σ Q (k p Γ1)->R v H1):tE K W fa σ H R:=by
 obtain ⟨He,O,Fs,Γ,E,h⟩:=h;refine ⟨He,O,Fs,Γ,E,?_⟩
 unfold bf at h
 cases e:fa Γ with
 | ok p Γ1=>
  rw [e] at h;exact fun v H' G Fs' A=>hk He O Fs Γ1 p v H' G Fs' E.ndO A h
 | er c Γ1=>
  rw [e] at h;exact h
 | no=>
  rw [e] at h;exact h
theorem Cg {k:PV->PV->F1} {R:V->V->Hp->Prop} (h:tE K W (bf fa fun p=>bf fb fun q=>k p q) σ H Q)
  (hk:∀He O Fs Γ2 p q v u H1 H2 G1 G2 Fs2,O.Nodup->Same H H1->Same H1 H2->EnvOk K He (G2++(G1++O)) Fs2 H2 σ Γ2->(∀a∈G2++(G1++Fs2.flatten),a∈Fs.flatten\/H a=none) ->
   Own K (G2++(G1++O)++Fs2.flatten) H2 p.s G1 v p.d->Own K (G2++(G1++O)++Fs2.flatten) H2 q.s G2 u q.d->Wants K W He O Fs H σ Q (k p q Γ2)->R v u H2) :
  tE K W fa σ H fun v H1=>tE K W fb σ H1 fun u H2=>R v u H2:=by
 refine vq (k:=fun p=>bf fb fun q=>k p q) h fun He O Fs Γ1 p v H1 G1 Fs1 nd A1 h1=>?_
 refine ⟨He,G1++O,Fs1,Γ1,A1.env,?_⟩
 unfold bf at h1
 cases e:fb Γ1 with
 | ok q Γ2=>
  rw [e] at h1;intro u H2 G2 Fs2 A2;have new:∀a∈G2++(G1++Fs2.flatten),a∈Fs.flatten\/H a=none:=fun a ha=>by
   have up:a∈G1++Fs1.flatten->a∈Fs.flatten\/H a=none:=A1.new a
   rcases Jx ha with z | z
   ·rcases A2.new a (Jw _ z) with y | y
    ·exact up (Jv _ y)
    ·exact .inr (A1.same.free y)
   ·rcases Jx z with z | z
    ·exact up (Jw _ z)
    ·rcases A2.new a (Jv _ z) with y | y
     ·exact up (Jv _ y)
     ·exact .inr (A1.same.free y)
  refine hk He O Fs Γ2 p q v u H1 H2 G1 G2 Fs2 nd A1.same A2.same A2.env new (A1.own.mono A2.same fun a ha=>?_) A2.own h1
  rcases Jx ha with z | z
  ·rcases Jx z with z | z
   ·rcases A2.new a (Jw _ z) with y | y
    ·exact .inl (Jv _ y)
    ·exact .inr y
   ·exact .inl (Jw _ z)
  ·rcases A2.new a (Jv _ z) with y | y
   ·exact .inl (Jv _ y)
   ·exact .inr y
 | er c Γ2=>
  rw [e] at h1;intro H2 Fs2 hs E2;exact h1 H2 Fs2 (A1.same.trans hs) E2.dropL
 | no=>
  rw [e] at h1;exact h1
end
section
variable {X:Cx} {e:Expr}
theorem br {t t':TE} (h:PE X e t) (i:∀σ H Q,t' σ H Q->t σ H Q):PE X e t':=fun pins s σ H Q I q=>h pins s σ H Q I (i σ H Q q)
theorem vm {t t':TT} (h:PT X e t) (i:∀σ H Q,t' σ H Q->t σ H Q):PT X e t':=fun pins s σ H Q I q=>h pins s σ H Q I (i σ H Q q)
theorem yU {t t':TT} (h:PW X e t) (i:∀σ H Q,t' σ H Q->t σ H Q):PW X e t':=fun whole pins s σ H Q I q=>h whole pins s σ H Q I (i σ H Q q)
theorem yV {es:List Expr} {t t':TA} (h:PA X es t) (i:∀σ H Q,t' σ H Q->t σ H Q):PA X es t':=fun pos pins s σ H Q I q=>h pos pins s σ H Q I (i σ H Q q)
theorem fm {st:Stmt} {t t':TS} (h:PS X st t) (i:∀D σ H,t' D σ H->t D σ H):PS X st t':=fun pins s σ H D I q=>h pins s σ H D I (i D σ H q)
theorem Fo {st:List Stmt} {t t':TS} (h:PSs X st t) (i:∀D σ H,t' D σ H->t D σ H):PSs X st t':=fun pins s σ H D I q=>h pins s σ H D I (i D σ H q)
theorem DU {es:List Expr} {t t':TT} (h:PF X es t) (i:∀σ H Q,t' σ H Q->t σ H Q):PF X es t':=fun pins s σ H Q I q=>h pins s σ H Q I (i σ H Q q)
end
theorem GV {h:Heap}:∀{vs:List V} {its:List Value} {ds:List D},Vals vs its->vs.length=ds.length->(∀(i:Nat) v d,vs[i]?=some v->ds[i]?=some d->∀u,RelV v u->∃as,Reads h u d as)->∃as,ReadsAll h its ds as
 | _,_,[],.nil,_,_=>⟨_,.nil⟩
 | _,_,d::ds,.cons (a:=v) (b:=u) r t,hl,h=>by
  obtain ⟨as,ra⟩:=h 0 v d rfl rfl u r;obtain ⟨bs,rb⟩:=GV t (by simpa using hl) fun i v d h1 h2=>h (i+1) v d (by simpa using h1) (by simpa using h2)
  exact ⟨_,.cons ra rb⟩
 | _,_,[],.cons _ _,hl,_=>by simp at hl
 | _,_,_::_,.nil,hl,_=>by simp at hl
theorem Rep.reads {X:Cx} {pins:List (Addr×Obj)} {σ:St} {H:Hp} {s:Shared} {x:V} {d:D} (I:Inv X pins σ H s) (r:Rep X.K H x d):∀u,RelV x u->∃as,Reads s.heap u d as:=by
 induction r with
 | non=>rintro u rfl;exact ⟨_,.none⟩
 | bl b=>rintro u rfl;exact ⟨_,.bool b⟩
 | int i=>rintro u ⟨t,rfl⟩;exact ⟨_,.int i t⟩
 | str x=>rintro u ⟨t,rfl⟩;exact ⟨_,.str x t⟩
 | lst hq hl _ ih=>
  rintro u rfl
  obtain ⟨its,rv,⟨o,n,e1,e2,e3,e4⟩,_⟩:=I.list hq;obtain ⟨as,ra⟩:=GV rv hl ih;exact ⟨_,.list e1 e2 e4 (by simpa using ra)⟩
 | tup hq hl _ ih=>
  rintro u rfl
  obtain ⟨its,rv,⟨o,e1,e2,n,e4⟩,_⟩:=I.tuple hq;obtain ⟨as,ra⟩:=GV rv hl ih;exact ⟨_,.tuple e1 e2 e4 (by simpa using ra)⟩
theorem pJ {α:Type} {F G:List α}:∀{Fs:List (List α)} {i:Nat},Fs[i]?=some F->(F++(Fs.set i G).flatten).Perm (G++Fs.flatten)
 | [],_,h=>by simp at h
 | A::r,0,h=>by
  simp at h
  subst h;simp only [List.set_cons_zero,flatten_cons]
  rw [<-append_assoc,<-append_assoc];exact List.Perm.append_right _ perm_append_comm
 | A::r,i+1,h=>by
  have ih:=pJ (G:=G) (Fs:=r) (i:=i) (by simpa using h)
  simp only [List.set_cons_succ,flatten_cons]
  calc (F++(A++(r.set i G).flatten)).Perm (A++(F++(r.set i G).flatten)):=by
        rw [<-append_assoc,<-append_assoc];exact List.Perm.append_right _ perm_append_comm
    _ |>.Perm (A++(G++r.flatten)):=List.Perm.append_left _ ih
    _ |>.Perm (G++(A++r.flatten)):=by
        rw [<-append_assoc,<-append_assoc];exact List.Perm.append_right _ perm_append_comm
section
variable {K:Fg} {He H:Hp} {O G:List Addr} {Fs:List (List Addr)} {σ:St} {Γ:Ev}
theorem EnvOk.lt (E:EnvOk K He O Fs H σ Γ) {i:Nat} (h:i<Γ.length):∃F,Fs[i]?=some F:=⟨Fs[i]'(by rw [E.len2];exact h),Jz _⟩
theorem EnvOk.move {i:Nat} {p:PV} (E:EnvOk K He O Fs H σ Γ) (h:Γ[i]?=some (some p)) :
  p.s.isView=false/\∃v F,σ[i]?=some (some v)/\EnvOk K He (F++O) (Fs.set i []) H σ (Γ.set i none)/\Own K (F++O++(Fs.set i []).flatten) H p.s F v p.d/\(∀a∈F++(Fs.set i []).flatten,a∈Fs.flatten):=by
 obtain ⟨hv,v,F,h1,h2,h3⟩:=E.slot i p h;have pm:(F++(Fs.set i []).flatten).Perm Fs.flatten:=by simpa using pJ (G:=[]) h2
 have pm2:(F++O++(Fs.set i []).flatten).Perm (O++Fs.flatten):=by
  rw [append_assoc]
  calc (F++(O++(Fs.set i []).flatten)).Perm (O++(F++(Fs.set i []).flatten)):=by
        rw [<-append_assoc,<-append_assoc];exact List.Perm.append_right _ perm_append_comm
    _ |>.Perm (O++Fs.flatten):=List.Perm.append_left _ pm
 refine ⟨hv,v,F,h1,⟨by rw [length_set];exact E.len1,by rw [length_set,length_set];exact E.len2,E.same,pm2.nodup_iff.mpr E.nd,fun a ha=>E.inH a (pm2.mem_iff.mp ha),fun a ha=>E.fresh a (pm.mem_iff.mp (Jv _ ha)),fun j q hq=>?_⟩,h3.mono (Same.refl _) fun a ha=>.inl (pm2.mem_iff.mp ha),fun a ha=>pm.mem_iff.mp ha⟩
 by_cases hj:j=i
 ·subst hj
  rw [getElem?_set] at hq;split at hq
  ·split at hq<;>cases hq
  ·rename_i z
   exact absurd rfl z
 ·rw [getElem?_set_ne (Ne.symm hj)] at hq
  obtain ⟨w1,v',F',e1,e2,e3⟩:=E.slot j q hq;exact ⟨w1,v',F',e1,by rw [getElem?_set_ne (Ne.symm hj)];exact e2,e3.mono (Same.refl _) fun a ha=>.inl (pm2.mem_iff.mp ha)⟩
theorem EnvOk.put {i:Nat} {p:PV} {v:V} (E:EnvOk K He (G++O) Fs H σ Γ) (ho:Own K (G++O++Fs.flatten) H p.s G v p.d) (hv:p.s.isView=false) (hn:∀a∈G,He a=none) (hi:i<Γ.length) :
  EnvOk K He O (Fs.set i G) H (σ.set i (some v)) (Γ.set i (some p)):=by
 obtain ⟨F,hF⟩:=E.lt hi;have pm:=pJ (G:=G) hF
 have nd:=E.nd
 rw [append_assoc] at nd;have sub:∀a∈O++(Fs.set i G).flatten,a∈G++O++Fs.flatten:=fun a ha=>by
  rw [append_assoc];rcases Jx ha with z | z
  ·exact Jv _ (Jw _ z)
  ·rcases Jx (pm.mem_iff.mp (Jv _ z)) with y | y
   ·exact Jw _ y
   ·exact Jv _ (Jv _ y)
 refine ⟨by rw [length_set,length_set];exact E.len1,by rw [length_set,length_set];exact E.len2,E.same,?_,fun a ha=>E.inH a (sub a ha),fun a ha=>?_,fun j q hq=>?_⟩
 ·have p1:(O++(F++(Fs.set i G).flatten)).Perm (G++(O++Fs.flatten)):=by
   calc (O++(F++(Fs.set i G).flatten)).Perm (O++(G++Fs.flatten)):=List.Perm.append_left _ pm
     _ |>.Perm (G++(O++Fs.flatten)):=by
       rw [<-append_assoc,<-append_assoc];exact List.Perm.append_right _ perm_append_comm
  have p2:=p1.nodup_iff.mpr nd
  refine p2.sublist ?_
  exact List.Sublist.append_left (List.sublist_append_right _ _) _
 ·rcases Jx (pm.mem_iff.mp (Jv _ ha)) with y | y
  ·exact hn a y
  ·exact E.fresh a y
 ·by_cases hj:j=i
  ·subst hj
   rw [getElem?_set_self hi] at hq
   cases hq;refine ⟨hv,v,G,?_,?_,ho.mono (Same.refl _) fun a ha=>.inl (sub a ha)⟩
   ·rw [getElem?_set_self (by rw [E.len1];exact hi)]
   ·rw [getElem?_set_self (by rw [E.len2];exact hi)]
  ·rw [getElem?_set_ne (Ne.symm hj)] at hq
   obtain ⟨w1,v',F',e1,e2,e3⟩:=E.slot j q hq;exact ⟨w1,v',F',by rw [getElem?_set_ne (Ne.symm hj)];exact e1,by rw [getElem?_set_ne (Ne.symm hj)];exact e2,e3.mono (Same.refl _) fun a ha=>.inl (sub a ha)⟩
theorem Aft.freshG {Γ':Ev} {p:PV} {v:V} {H':Hp} {Fs':List (List Addr)} (E:EnvOk K He O Fs H σ Γ) (A:Aft K He O Fs H σ Γ' p v H' G Fs'):∀a∈G,He a=none:=fun a ha=>by
 rcases A.new a (Jw _ ha) with z | z
 ·exact E.fresh a z
 ·exact E.same.free z
end
noncomputable def ae (i:Nat):F1:=fun Γ=>match Γ[i]? with
 | some (some p)=>(match p.s with
  | .leaf=>.ok ⟨.leaf,p.d⟩ Γ
  | _=>.ok ⟨.view,p.d⟩ Γ)
 | _=>.no
noncomputable def cM (i:Nat):F1:=fun Γ=>match Γ[i]? with
 | some (some p)=>.ok p (Γ.set i none)
 | _=>.no
noncomputable def eK (d:D):F1:=fun Γ=>.ok ⟨.leaf,d⟩ Γ
section
variable {X:Cx} {W:XW} {i:Nat} {e:Expr} {pos:Pos}
theorem zG {K:Fg} {σ:St} {H:Hp} {Q:VK} (h:tE K W (ae i) σ H Q):cY i σ H Q:=by
 obtain ⟨He,O,Fs,Γ,E,h⟩:=h;unfold ae at h
 cases e:Γ[i]? with
 | none=>rw [e] at h;exact h.elim
 | some o=>
  rw [e] at h
  cases o with
  | none=>exact h.elim
  | some p=>
   obtain ⟨hv,v,F,h1,h2,h3⟩:=E.slot i p e;obtain ⟨s,d⟩:=p;have new:∀a∈[]++Fs.flatten,a∈Fs.flatten\/H a=none:=fun a ha=>.inl (by simpa using ha)
   cases s with
   | leaf=>
    cases h3 with
    | leaf r=>exact ⟨v,h1,h v H [] Fs ⟨Same.refl _,by simpa using E,new,.leaf r⟩⟩
   | view=>cases hv
   | lst s=>exact ⟨v,h1,h v H [] Fs ⟨Same.refl _,by simpa using E,new,.view h3.rep⟩⟩
   | tup ss=>exact ⟨v,h1,h v H [] Fs ⟨Same.refl _,by simpa using E,new,.view h3.rep⟩⟩
theorem wt {K:Fg} {σ:St} {H:Hp} {Q:VK} (h:tE K W (cM i) σ H Q):cY i σ H Q:=by
 obtain ⟨He,O,Fs,Γ,E,h⟩:=h;unfold cM at h
 cases e:Γ[i]? with
 | none=>rw [e] at h;exact h.elim
 | some o=>
  rw [e] at h
  cases o with
  | none=>exact h.elim
  | some p=>
   obtain ⟨hv,v,F,h1,E',o',sub⟩:=E.move e;exact ⟨v,h1,h v H F (Fs.set i []) ⟨Same.refl _,E',fun a ha=>.inl (sub a ha),o'⟩⟩
theorem By (h:PE X e (cY i)):PE X e (tE X.K W (ae i)):=br h fun _ _ _=>zG
theorem xI (h:PE X e (cY i)):PE X e (tE X.K W (cM i)):=br h fun _ _ _=>wt
theorem tN {K:Fg} {σ:St} {H:Hp} {Q:VK} {v:V} {d:D} (hs:∀H,Rep K H v d) (h:tE K W (eK d) σ H Q):Q v H:=by
 obtain ⟨He,O,Fs,Γ,E,h⟩:=h;exact h v H [] Fs ⟨Same.refl _,by simpa using E,fun a ha=>.inl (by simpa using ha),.leaf (hs _)⟩
theorem xJ {x:Str} {v:V} {u:Value} {d:D} (hg:Gl X x) (hm:X.mg x=some u) (r:RelV v u) (hr:∀H,Rep X.K H v d) (hd:(x==("__debug__":Str))=false:=by decide):PE X (.Name x pos) (tE X.K W (eK d)):=
 br (wN hg hm r hd) fun _ _ _=>tN hr
end
noncomputable def aw (g:D->D->Option D) (fa fb:F1):F1:=bf fa fun p=>bf fb fun q=>fun Γ=>match g p.d q.d with
 | some d=>.ok ⟨.leaf,d⟩ Γ
 | none=>.no
noncomputable def GOp (K:Fg) (r:R2) (g:D->D->Option D):Prop:=∀x y H Q a b d,Rep K H x a->Rep K H y b->g a b=some d->(∀v,Sc v d->Q v H)->r x y H Q
section
variable {K:Fg} {W:XW} {σ:St} {H:Hp} {Q:VK} {fa fb:F1} {r:R2} {g:D->D->Option D}
theorem iw (hg:GOp K r g) (h:tE K W (aw g fa fb) σ H Q):vz r (tE K W fa) (tE K W fb) σ H Q:=by
 refine Cg h ?_
 intro He O Fs Γ2 p q v u H1 H2 G1 G2 Fs2 nd s1 s2 E new o1 o2 w
 cases e:g p.d q.d with
 | none=>rw [e] at w;exact w.elim
 | some d=>
  rw [e] at w;exact hg v u H2 Q p.d q.d d o1.rep o2.rep e fun z s=>w.scal s (s1.trans s2) E (fun a ha=>Jv _ (Jv _ ha)) nd fun a ha=>new a (Jv _ (Jv _ ha))
end
theorem GOp.or {K:Fg} {r r':R2} {g g':D->D->Option D} (h:GOp K r g) (h':GOp K r' g'):GOp K (fun x y H Q=>r x y H Q\/r' x y H Q) (fun a b=>(g a b).or (g' a b)):=by
 intro x y H Q a b d ra rb e k;have e:(g a b).or (g' a b)=some d:=e
 cases e1:g a b with
 | some z=>rw [e1] at e;cases e;exact .inl (h x y H Q a b _ ra rb e1 k)
 | none=>rw [e1] at e;exact .inr (h' x y H Q a b d ra rb (by simpa using e) k)
noncomputable def gI (C:Int->Int->Bool) (f:Int->Int->D):D->D->Option D
 | .int i,.int j=>if C i j then some (f i j) else none
 | _,_=>none
theorem qx {K:Fg} {C:Int->Int->Prop} {C':Int->Int->Bool} {g:Int->Int->V} {f:Int->Int->D} (hC:∀i j,C' i j=true->C i j) (hs:∀i j,Sc (g i j) (f i j)):GOp K (rI C g) (gI C' f):=by
 intro x y H Q a b d ra rb e k
 cases ra<;>cases rb<;>simp only [gI] at e<;>try cases e
 rename_i i j;split at e
 ·rename_i c
  cases e;exact ⟨i,j,rfl,rfl,hC i j c,k _ (hs i j)⟩
 ·cases e
noncomputable def yQ (f:Int->Int->D):D->D->Option D
 | .int i,.int j=>some (f i j)
 | _,_=>none
theorem BU {K:Fg} {g:Int->Int->V} {f:Int->Int->D} (hs:∀i j,Sc (g i j) (f i j)):GOp K (qg g) (yQ f):=by
 intro x y H Q a b d ra rb e k
 cases ra<;>cases rb<;>simp only [yQ] at e<;>try cases e
 rename_i i j;exact ⟨i,j,rfl,rfl,k _ (hs i j)⟩
noncomputable abbrev gSub:=yQ fun i j=>.int (i-j)
noncomputable abbrev aR:=yQ fun i j=>.int (i+j)
noncomputable def r9 (i j:Int):Bool:=(decide (-(2 ^ 64)<i)&&decide (i<2 ^ 64))||(decide (-(2 ^ 64)<j)&&decide (j<2 ^ 64))
noncomputable abbrev nt:=gI r9 fun i j=>.int (i*j)
noncomputable def xW (_ j:Int):Bool:=decide (0<j)&&decide (j<1073741824)
noncomputable abbrev nu:=gI xW fun i j=>.int (i / j)
noncomputable def xV (_ j:Int):Bool:=decide (0<j)
noncomputable abbrev bH:=gI xV fun i j=>.int (i % j)
noncomputable def xU (i j:Int):Bool:=decide (0<=j)&&decide (j<=1000000)&&decide (i.natAbs<2 ^ 64)
noncomputable abbrev xA:=gI xU fun i j=>.int (i ^ j.toNat)
mutual
noncomputable def Sh.same:Sh->Sh->Bool
 | .view,.view=>true
 | .leaf,.leaf=>true
 | .lst a,.lst b=>Sh.same a b
 | .tup as,.tup bs=>Sh.sameL as bs
 | _,_=>false
noncomputable def Sh.sameL:List Sh->List Sh->Bool
 | [],[]=>true
 | a::as,b::bs=>Sh.same a b&&Sh.sameL as bs
 | _,_=>false
end
mutual
theorem Sh.same_eq:∀{a b:Sh},Sh.same a b=true->a=b
 | .view,.view,_=>rfl
 | .leaf,.leaf,_=>rfl
 | .lst a,.lst b,h=>by rw [Sh.same_eq (a:=a) (b:=b) (by simpa [Sh.same] using h)]
 | .tup as,.tup bs,h=>by rw [Sh.sameL_eq (as:=as) (bs:=bs) (by simpa [Sh.same] using h)]
 | .view,.leaf,h=>by simp [Sh.same] at h
 | .view,.lst _,h=>by simp [Sh.same] at h
 | .view,.tup _,h=>by simp [Sh.same] at h
 | .leaf,.view,h=>by simp [Sh.same] at h
 | .leaf,.lst _,h=>by simp [Sh.same] at h
 | .leaf,.tup _,h=>by simp [Sh.same] at h
 | .lst _,.view,h=>by simp [Sh.same] at h
 | .lst _,.leaf,h=>by simp [Sh.same] at h
 | .lst _,.tup _,h=>by simp [Sh.same] at h
 | .tup _,.view,h=>by simp [Sh.same] at h
 | .tup _,.leaf,h=>by simp [Sh.same] at h
 | .tup _,.lst _,h=>by simp [Sh.same] at h
theorem Sh.sameL_eq:∀{as bs:List Sh},Sh.sameL as bs=true->as=bs
 | [],[],_=>rfl
 | a::as,b::bs,h=>by
  have h:Sh.same a b=true/\Sh.sameL as bs=true:=by simpa [Sh.sameL] using h
  rw [Sh.same_eq h.1,Sh.sameL_eq h.2]
 | [],_::_,h=>by simp [Sh.sameL] at h
 | _::_,[],h=>by simp [Sh.sameL] at h
end
noncomputable def coer (s:Sh) (p:PV):Bool:=match s with
 | .leaf=>!p.s.isView||bQ p.d
 | .view=>false
 | s=>Sh.same s p.s
noncomputable def aY (s:Sh) (G:List Addr):List Addr:=match s with
 | .leaf=>[]
 | _=>G
theorem GI {s:Sh} {G:List Addr} {a:Addr} (h:a∈aY s G):a∈G:=by
 unfold aY at h;split at h
 ·simp at h
 ·exact h
theorem Own.coer {K:Fg} {O O':List Addr} {H:Hp} {s:Sh} {p:PV} {G:List Addr} {v:V} (h:Own K O H p.s G v p.d) (c:coer s p=true) (h1:∀a∈O',a∈O) (h2:∀a∈G,a∈O'->a∈aY s G):Own K O' H s (aY s G) v p.d:=by
 cases s with
 | view=>simp [T.coer] at c
 | leaf=>
  show Own K O' H .leaf [] v p.d
  have c:(!p.s.isView||bQ p.d)=true:=c
  cases hv:p.s.isView with
  | false=>exact .leaf (h.freeze hv h1 fun a ha z=>by simpa [aY] using h2 a ha z)
  | true=>
   rw [hv] at c;exact .leaf (h.rep.sc (by simpa using c)).rep
 | lst s=>
  have e:Sh.lst s=p.s:=Sh.same_eq c
  show Own K O' H (.lst s) G v p.d
  rw [e];exact h.mono (Same.refl _) fun a ha=>.inl (h1 a ha)
 | tup ss=>
  have e:Sh.tup ss=p.s:=Sh.same_eq c
  show Own K O' H (.tup ss) G v p.d
  rw [e];exact h.mono (Same.refl _) fun a ha=>.inl (h1 a ha)
open PySem.SeqAt in
noncomputable def bD:D->D->Option D:=fun a b=>if shaped a&&shaped b then some (.bool (PyData.eqv a b)) else none
open PySem.SeqAt in
noncomputable def iC:D->D->Option D:=fun a b=>if shaped a&&shaped b then some (.bool (!PyData.eqv a b)) else none
open PySem.SeqAt in
noncomputable def qX (K:Fg) (neg:Bool):R2:=fun x y H Q=>∃a b,Rep K H x a/\Rep K H y b/\shaped a=true/\shaped b=true/\Q (.bl (if neg then !PyData.eqv a b else PyData.eqv a b)) H
section
variable {X:Cx}
theorem AK (hu:X.A.units+64<cLine):OpR X (compareOp .Eq) (qX X.K false):=by
 intro pins s σ H x y v u Q I rx ry h;obtain ⟨a,b,ra,rb,sa,sb,q⟩:=h;obtain ⟨as,r1⟩:=ra.reads I v rx;obtain ⟨bs,r2⟩:=rb.reads I u ry;exact SeqAt.compareEq_shaped r1 r2 sa sb hu ⟨.bl _,H,I,rfl,q⟩
theorem AF (hu:X.A.units+64<cLine):OpR X (compareOp .NotEq) (qX X.K true):=by
 intro pins s σ H x y v u Q I rx ry h;obtain ⟨a,b,ra,rb,sa,sb,q⟩:=h;obtain ⟨as,r1⟩:=ra.reads I v rx;obtain ⟨bs,r2⟩:=rb.reads I u ry;exact SeqAt.compareNe_shaped r1 r2 sa sb hu ⟨.bl _,H,I,rfl,q⟩
end
theorem Bh {K:Fg}:GOp K (qX K false) bD:=by
 intro x y H Q a b d ra rb e k;unfold bD at e;split at e
 ·rename_i c
  cases e;simp only [Bool.and_eq_true] at c
  exact ⟨a,b,ra,rb,c.1,c.2,k _ (.bl _)⟩
 ·cases e
theorem Be {K:Fg}:GOp K (qX K true) iC:=by
 intro x y H Q a b d ra rb e k;unfold iC at e;split at e
 ·rename_i c
  cases e;simp only [Bool.and_eq_true] at c
  exact ⟨a,b,ra,rb,c.1,c.2,k _ (.bl _)⟩
 ·cases e
noncomputable def Bl:D->D->Option D
 | .str i,.str j=>some (.bool (decide (i.cps.toList<j.cps.toList)))
 | _,_=>none
noncomputable abbrev HN:=yQ fun i j=>.bool (decide (i<j))
noncomputable abbrev jv:D->D->Option D:=fun a b=>(HN a b).or (Bl a b)
noncomputable abbrev Ff:=yQ fun i j=>.bool (decide (i<=j))
noncomputable abbrev jw:=yQ fun i j=>.bool (decide (j<i))
noncomputable abbrev Jn:=yQ fun i j=>.bool (decide (j<=i))
theorem xu {K:Fg}:GOp K (fun x y H Q=>∃i j,x=.str i/\y=.str j/\Q (.bl (decide (i.cps.toList<j.cps.toList))) H) Bl:=by
 intro x y H Q a b d ra rb e k
 cases ra<;>cases rb<;>simp only [Bl] at e<;>try cases e
 rename_i i j;exact ⟨i,j,rfl,rfl,k _ (.bl _)⟩
theorem Bf {K:Fg}:GOp K (fun x y H Q=>qg (fun i j=>.bl (decide (i<j))) x y H Q\/∃i j,x=.str i/\y=.str j/\Q (.bl (decide (i.cps.toList<j.cps.toList))) H) jv:=
 (BU fun _ _=>.bl _).or xu
open PySem.SeqAt in
noncomputable def bK (neg:Bool):D->D->Option D
 | a,.list xs=>if shaped a&&shaped (.list xs) then some (.bool (if neg then !xs.any fun y=>PyData.eqv y a else xs.any fun y=>PyData.eqv y a)) else none
 | a,.tuple xs=>if shaped a&&shaped (.tuple xs) then some (.bool (if neg then !xs.any fun y=>PyData.eqv y a else xs.any fun y=>PyData.eqv y a)) else none
 | _,_=>none
noncomputable def tZ (K:Fg) (neg:Bool):R2:=fun x y H Q=>∃a b d,Rep K H x a/\Rep K H y b/\bK neg a b=some (.bool d)/\Q (.bl d) H
theorem uM {K:Fg} {neg:Bool}:GOp K (tZ K neg) (bK neg):=by
 intro x y H Q a b d ra rb e k;have:∃c,d=.bool c:=by
  cases b<;>simp only [bK] at e<;>(try cases e)<;>(split at e<;>cases e<;>exact ⟨_,rfl⟩)
 obtain ⟨c,rfl⟩:=this;exact ⟨a,b,c,ra,rb,e,k _ (.bl c)⟩
theorem EG {d:D} {xs:List D} (h:SeqAt.shaped d=true) (e:d=.list xs\/d=.tuple xs):PyData.canLayAll0 xs=true/\PyData.depthAll xs+1<=64:=by
 have h1:=SeqAt.canLay_of_shaped h
 have h2:=SeqAt.depth_of_shaped h
 rcases e with e | e<;>subst e<;>exact ⟨by simpa [PyData.canLay0] using h1,by simpa [PyData.depth] using h2⟩
section
variable {X:Cx}
theorem AJ (hu:X.A.units+64<cLine):OpR X (compareOp .In) (tZ X.K false):=by
 intro pins s σ H x y v u Q I rx ry h;obtain ⟨a,b,d,ra,rb,e,q⟩:=h;obtain ⟨as,r1⟩:=ra.reads I v rx;obtain ⟨bs,r2⟩:=rb.reads I u ry
 cases b<;>simp only [bK] at e<;>try cases e
 all_goals
  split at e
  ·rename_i c
   simp only [Bool.and_eq_true] at c
   simp only [Option.some.injEq,PyData.bool.injEq] at e
   subst e;first
    | (obtain ⟨p1,p2⟩:=EG c.2 (.inl rfl)
       exact SeqAt.in_list_reads r2 r1 p1 (SeqAt.canLay_of_shaped c.1) (Nat.lt_of_le_of_lt (by have:=Nat.min_le_left (PyData.depthAll ‹_›) a.depth;omega) hu) ⟨.bl _,H,I,rfl,q⟩)
    | (obtain ⟨p1,p2⟩:=EG c.2 (.inr rfl)
       exact SeqAt.in_tuple_reads r2 r1 p1 (SeqAt.canLay_of_shaped c.1) (Nat.lt_of_le_of_lt (by have:=Nat.min_le_left (PyData.depthAll ‹_›) a.depth;omega) hu) ⟨.bl _,H,I,rfl,q⟩)
  ·cases e
theorem rf (hu:X.A.units+64<cLine):OpR X (compareOp .NotIn) (tZ X.K true):=by
 intro pins s σ H x y v u Q I rx ry h;obtain ⟨a,b,d,ra,rb,e,q⟩:=h;obtain ⟨as,r1⟩:=ra.reads I v rx;obtain ⟨bs,r2⟩:=rb.reads I u ry
 cases b<;>simp only [bK] at e<;>try cases e
 all_goals
  split at e
  ·rename_i c
   simp only [Bool.and_eq_true] at c
   simp only [Option.some.injEq,PyData.bool.injEq] at e
   subst e;first
    | (obtain ⟨p1,p2⟩:=EG c.2 (.inl rfl)
       exact SeqAt.notIn_list_reads r2 r1 p1 (SeqAt.canLay_of_shaped c.1) (Nat.lt_of_le_of_lt (by have:=Nat.min_le_left (PyData.depthAll ‹_›) a.depth;omega) hu) ⟨.bl _,H,I,rfl,q⟩)
    | (obtain ⟨p1,p2⟩:=EG c.2 (.inr rfl)
       exact SeqAt.notIn_tuple_reads r2 r1 p1 (SeqAt.canLay_of_shaped c.1) (Nat.lt_of_le_of_lt (by have:=Nat.min_le_left (PyData.depthAll ‹_›) a.depth;omega) hu) ⟨.bl _,H,I,rfl,q⟩)
  ·cases e
end
noncomputable def WantsB (K:Fg) (W:XW) (He:Hp) (O:List Addr) (Fs:List (List Addr)) (H:Hp) (σ:St) (Q:Bool->Hp->Prop) (o:Out Bool):Prop:=match o with
 | .ok b Γ'=>∀H' Fs',Same H H'->EnvOk K He O Fs' H' σ Γ'->(∀a∈Fs'.flatten,a∈Fs.flatten\/H a=none)->Q b H'
 | .er c Γ'=>∀H' Fs',Same H H'->EnvOk K He O Fs' H' σ Γ'->W c σ H'
 | .no=>False
abbrev FB:=Ev->Out Bool
noncomputable def tT (K:Fg) (W:XW) (f:FB):TT:=fun σ H Q=>∃He O Fs Γ,EnvOk K He O Fs H σ Γ/\WantsB K W He O Fs H σ Q (f Γ)
section
variable {K:Fg} {W:XW} {He H H1:Hp} {O:List Addr} {Fs Fs1:List (List Addr)} {σ:St} {Γ Γ':Ev} {Q:VK} {QB:Bool->Hp->Prop}
theorem Wants.after {o:Out PV} (h:Wants K W He O Fs H σ Q o) (s:Same H H1) (n:∀a∈Fs1.flatten,a∈Fs.flatten\/H a=none):Wants K W He O Fs1 H1 σ Q o:=by
 cases o with
 | ok p Γ'=>exact fun v H' G Fs' A=>h v H' G Fs' ⟨s.trans A.same,A.env,fun a ha=>(A.new a ha).elim (n a) fun z=>.inr (s.free z),A.own⟩
 | er c Γ'=>exact fun H' Fs' e E=>h H' Fs' (s.trans e) E
 | no=>exact h
theorem WantsB.after {o:Out Bool} (h:WantsB K W He O Fs H σ QB o) (s:Same H H1) (n:∀a∈Fs1.flatten,a∈Fs.flatten\/H a=none):WantsB K W He O Fs1 H1 σ QB o:=by
 cases o with
 | ok p Γ'=>exact fun H' Fs' e E n'=>h H' Fs' (s.trans e) E fun a ha=>(n' a ha).elim (n a) fun z=>.inr (s.free z)
 | er c Γ'=>exact fun H' Fs' e E=>h H' Fs' (s.trans e) E
 | no=>exact h
theorem Aft.go {p:PV} {v:V} {G:List Addr} (A:Aft K He O Fs H σ Γ' p v H1 G Fs1):EnvOk K He O Fs1 H1 σ Γ':=A.env.dropL
theorem Aft.newF {p:PV} {v:V} {G:List Addr} (A:Aft K He O Fs H σ Γ' p v H1 G Fs1):∀a∈Fs1.flatten,a∈Fs.flatten\/H a=none:=fun a ha=>A.new a (Jv _ ha)
end
section
variable {K:Fg} {W:XW} {σ:St} {H:Hp} {Q:VK} {QB:Bool->Hp->Prop} {fa fb fc:F1} {ga gb:FB}
noncomputable def aF (g:D->Option Bool) (f:F1):FB:=fun Γ=>(f Γ).bind fun p Γ'=>match g p.d with
 | some b=>.ok b Γ'
 | none=>.no
theorem pY {g:D->Option Bool} {R:VK} (h:tT K W (aF g fa) σ H QB) (hR:∀v d b H1,Rep K H1 v d->g d=some b->QB b H1->R v H1):tE K W fa σ H R:=by
 obtain ⟨He,O,Fs,Γ,E,h⟩:=h;refine ⟨He,O,Fs,Γ,E,?_⟩
 unfold aF at h
 cases e:fa Γ with
 | ok p Γ'=>
  rw [e] at h;intro v H' G Fs' A
  have h:WantsB K W He O Fs H σ QB (match g p.d with | some b=>.ok b Γ' | none=>.no):=h
  cases e2:g p.d with
  | some b=>
   rw [e2] at h;exact hR v p.d b H' A.own.rep e2 (h H' Fs' A.same A.go A.newF)
  | none=>rw [e2] at h;exact h.elim
 | er c Γ'=>rw [e] at h;exact h
 | no=>rw [e] at h;exact h
noncomputable def ah:D->Option Bool
 | .bool b=>some b
 | _=>none
theorem wm {t:TE} (hi:∀Q,tE K W fa σ H Q->t σ H Q) (h:tT K W (aF ah fa) σ H QB):sU t σ H QB:=by
 refine hi _ (pY h fun v d b H1 r e q=>?_)
 cases r<;>simp only [ah] at e<;>try cases e
 exact ⟨_,rfl,q⟩
noncomputable def bh:D->Option Bool
 | .none=>some false
 | .bool b=>some b
 | .int i=>some (i != 0)
 | .str x=>if x.length<=sizeLine then some ((x.length:Int) != 0) else none
 | .list xs=>some (!xs.isEmpty)
 | .tuple xs=>some (!xs.isEmpty)
 | .dict _=>none
theorem zI (h:tT K W (aF bh fa) σ H QB):tE K W fa σ H fun x H'=>∃k,BH K x H' k/\QB k H':=by
 refine pY h fun v d b H1 r e q=>?_
 cases r with
 | non=>cases e;exact ⟨_,rfl,q⟩
 | bl c=>cases e;exact ⟨_,rfl,q⟩
 | int i=>cases e;exact ⟨_,rfl,q⟩
 | str x=>
  simp only [bh] at e
  split at e
  ·rename_i z;cases e;exact ⟨_,⟨z,rfl⟩,q⟩
  ·cases e
 | @lst p vs ds hq hl _=>
  cases e;exact ⟨_,.inl ⟨vs,hq,by cases vs<;>cases ds<;>simp_all⟩,q⟩
 | @tup p vs ds hq hl _=>
  cases e;exact ⟨_,.inr (.inl ⟨vs,hq,by cases vs<;>cases ds<;>simp_all⟩),q⟩
noncomputable def dB (a b:FB):FB:=fun Γ=>(a Γ).bind fun c Γ'=>if c then b Γ' else .ok false Γ'
noncomputable def eL (a b:FB):FB:=fun Γ=>(a Γ).bind fun c Γ'=>if c then .ok true Γ' else b Γ'
noncomputable def b6 (a:FB):FB:=fun Γ=>(a Γ).bind fun c Γ'=>.ok (!c) Γ'
theorem FR {k:Bool->Ev->Out Bool} {R:Bool->Hp->Prop} (h:tT K W (fun Γ=>(ga Γ).bind k) σ H QB)
  (hk:∀(He:Hp) (O:List Addr) Γ1 b H1 Fs1,Same H H1->EnvOk K He O Fs1 H1 σ Γ1->WantsB K W He O Fs1 H1 σ QB (k b Γ1)->R b H1):tT K W ga σ H R:=by
 obtain ⟨He,O,Fs,Γ,E,h⟩:=h;have h:WantsB K W He O Fs H σ QB ((ga Γ).bind k):=h
 refine ⟨He,O,Fs,Γ,E,?_⟩
 cases e:ga Γ with
 | ok b Γ1=>rw [e] at h;exact fun H' Fs' s E' n=>hk He O Γ1 b H' Fs' s E' (WantsB.after (o:=k b Γ1) h s n)
 | er c Γ1=>rw [e] at h;exact h
 | no=>rw [e] at h;exact h
theorem WantsB.now {He:Hp} {O:List Addr} {Fs:List (List Addr)} {Γ:Ev} {b:Bool} (h:WantsB K W He O Fs H σ QB (.ok b Γ)) (E:EnvOk K He O Fs H σ Γ):QB b H:=h H Fs (Same.refl _) E fun _ z=>.inl z
theorem wG (h:tT K W (dB ga gb) σ H QB):CI (tT K W ga) (tT K W gb) σ H QB:=by
 refine FR h fun He O Γ1 b H1 Fs1 s E w=>?_
 cases b with
 | true=>exact j9 ⟨He,O,Fs1,Γ1,E,w⟩
 | false=>exact jr (WantsB.now w E)
theorem zZ (h:tT K W (eL ga gb) σ H QB):Io (tT K W ga) (tT K W gb) σ H QB:=by
 refine FR h fun He O Γ1 b H1 Fs1 s E w=>?_
 cases b with
 | false=>exact jr ⟨He,O,Fs1,Γ1,E,w⟩
 | true=>exact j9 (WantsB.now w E)
theorem wF (h:tT K W (b6 ga) σ H QB):CF (tT K W ga) σ H QB:=FR h fun He O Γ1 b H1 Fs1 s E w=>WantsB.now w E
noncomputable def eY (fa fb:F1):F1:=bf fa fun p Γ=>match p.d with
 | .bool true=>fb Γ
 | .bool false=>.ok ⟨.leaf,.bool false⟩ Γ
 | _=>.no
noncomputable def xF (fa fb:F1):F1:=bf fa fun p Γ=>match p.d with
 | .bool true=>.ok ⟨.leaf,.bool true⟩ Γ
 | .bool false=>fb Γ
 | _=>.no
noncomputable def jy (fa:F1):F1:=bf fa fun p Γ=>match p.d with
 | .bool b=>.ok ⟨.leaf,.bool (!b)⟩ Γ
 | _=>.no
theorem Ab (h:tE K W (eY fa fb) σ H Q):yA (tE K W fa) (tE K W fb) σ H Q:=by
 refine vq h fun He O Fs Γ1 p v H1 G Fs1 nd A w=>?_
 have r:=A.own.rep
 obtain ⟨s,d⟩:=p
 cases r with
 | bl b=>
  cases b with
  | true=>exact ⟨true,rfl,j9 ⟨He,O,Fs1,Γ1,A.go,Wants.after w A.same A.newF⟩⟩
  | false=>exact ⟨false,rfl,jr (Wants.scal w (.bl false) A.same A.env (fun a ha=>Jv _ ha) nd A.newF)⟩
 | _=>exact w.elim
theorem CT (h:tE K W (xF fa fb) σ H Q):CD (tE K W fa) (tE K W fb) σ H Q:=by
 refine vq h fun He O Fs Γ1 p v H1 G Fs1 nd A w=>?_
 have r:=A.own.rep
 obtain ⟨s,d⟩:=p
 cases r with
 | bl b=>
  cases b with
  | false=>exact ⟨false,rfl,jr ⟨He,O,Fs1,Γ1,A.go,Wants.after w A.same A.newF⟩⟩
  | true=>exact ⟨true,rfl,j9 (Wants.scal w (.bl true) A.same A.env (fun a ha=>Jv _ ha) nd A.newF)⟩
 | _=>exact w.elim
theorem zO (h:tE K W (jy fa) σ H Q):yz (tE K W fa) σ H Q:=by
 refine vq h fun He O Fs Γ1 p v H1 G Fs1 nd A w=>?_
 have r:=A.own.rep
 obtain ⟨s,d⟩:=p
 cases r with
 | bl b=>exact ⟨b,rfl,Wants.scal w (.bl _) A.same A.env (fun a ha=>Jv _ ha) nd A.newF⟩
 | _=>exact w.elim
noncomputable def rH (c:FB) (fa fb:F1):F1:=fun Γ=>(c Γ).bind fun b Γ'=>if b then fa Γ' else fb Γ'
theorem CU (h:tE K W (rH ga fa fb) σ H Q):Iq (tT K W ga) (tE K W fa) (tE K W fb) σ H Q:=by
 obtain ⟨He,O,Fs,Γ,E,h⟩:=h;refine ⟨He,O,Fs,Γ,E,?_⟩
 unfold rH at h
 cases e:ga Γ with
 | ok b Γ1=>
  rw [e] at h;intro H' Fs' s E' n
  have h':=Wants.after (o:=if b then fa Γ1 else fb Γ1) h s n
  cases b with
  | true=>exact j9 ⟨He,O,Fs',Γ1,E',h'⟩
  | false=>exact jr ⟨He,O,Fs',Γ1,E',h'⟩
 | er c Γ1=>rw [e] at h;exact h
 | no=>rw [e] at h;exact h
noncomputable def gm (g g':D->D->Option D) (fa fb fc:F1):F1:=bf fa fun p=>bf fb fun q=>fun Γ=>match g p.d q.d with
 | some (.bool true)=>if bQ q.d then (fc Γ).bind fun z Γ'=>(match g' q.d z.d with | some d=>.ok ⟨.leaf,d⟩ Γ' | none=>.no) else .no
 | some (.bool false)=>.ok ⟨.leaf,.bool false⟩ Γ
 | _=>.no
theorem tP {r r':R2} {g g':D->D->Option D} (hg:GOp K r g) (hg':GOp K r' g') (h:tE K W (gm g g' fa fb fc) σ H Q):sW r r' (tE K W fa) (tE K W fb) (tE K W fc) σ H Q:=by
 refine Cg h ?_
 intro He O Fs Γ2 p q v u H1 H2 G1 G2 Fs2 nd s1 s2 E new o1 o2 w;have sub:∀a∈O,a∈G2++(G1++O):=fun a ha=>Jv _ (Jv _ ha)
 have newF:∀a∈Fs2.flatten,a∈Fs.flatten\/H a=none:=fun a ha=>new a (Jv _ (Jv _ ha))
 cases e:g p.d q.d with
 | none=>rw [e] at w;exact w.elim
 | some d=>
  rw [e] at w;refine hg v u H2 _ p.d q.d d o1.rep o2.rep e fun z s=>?_
  cases s with
  | bl b=>
   cases b with
   | false=>exact ⟨false,rfl,jr (Wants.scal w (.bl false) (s1.trans s2) E sub nd newF)⟩
   | true=>
    refine ⟨true,rfl,j9 ?_⟩
    have w:Wants K W He O Fs H σ Q (if bQ q.d then (fc Γ2).bind fun z Γ'=>(match g' q.d z.d with | some d=>.ok ⟨.leaf,d⟩ Γ' | none=>.no) else .no):=w
    cases hs:bQ q.d with
    | false=>rw [hs] at w;exact w.elim
    | true=>
     rw [hs] at w;have w:Wants K W He O Fs H σ Q ((fc Γ2).bind fun z Γ'=>(match g' q.d z.d with | some d=>.ok ⟨.leaf,d⟩ Γ' | none=>.no)):=w
     have su:=o2.rep.sc hs
     refine ⟨He,O,Fs2,Γ2,E.drop sub nd,?_⟩
     cases e3:fc Γ2 with
     | ok p3 Γ3=>
      rw [e3] at w;intro v3 H3 G3 Fs3 A3;have w:Wants K W He O Fs H σ Q (match g' q.d p3.d with | some d=>.ok ⟨.leaf,d⟩ Γ3 | none=>.no):=w
      cases e4:g' q.d p3.d with
      | none=>rw [e4] at w;exact w.elim
      | some d4=>
       rw [e4] at w;exact hg' u v3 H3 Q q.d p3.d d4 su.rep A3.own.rep e4 fun z s=>Wants.scal w s ((s1.trans s2).trans A3.same) A3.env (fun a ha=>Jv _ ha) nd fun a ha=>(A3.new a (Jv _ ha)).elim (newF a) fun z=>.inr ((s1.trans s2).free z)
     | er c Γ3=>
      rw [e3] at w;exact fun H' Fs' s E'=>w H' Fs' ((s1.trans s2).trans s) E'
     | no=>rw [e3] at w;exact w
  | non=>exact w.elim
  | int i=>exact w.elim
  | str x=>exact w.elim
end
structure AftL (K:Fg) (He:Hp) (O:List Addr) (Fs:List (List Addr)) (H:Hp) (σ:St) (Γ':Ev) (ps:List PV) (vs:List V) (H':Hp) (Gs Fs':List (List Addr)):Prop where
 same:Same H H'
 len1:vs.length=ps.length
 len2:Gs.length=ps.length
 env:EnvOk K He (Gs.flatten++O) Fs' H' σ Γ'
 new:∀a∈Gs.flatten++Fs'.flatten,a∈Fs.flatten\/H a=none
 own:∀(i:Nat) v p G,vs[i]?=some v->ps[i]?=some p->Gs[i]?=some G->Own K (Gs.flatten++O++Fs'.flatten) H' p.s G v p.d
abbrev FL:=Ev->Out (List PV)
noncomputable def vh (K:Fg) (W:XW) (He:Hp) (O:List Addr) (Fs:List (List Addr)) (H:Hp) (σ:St) (Q:List V->Hp->Prop) (o:Out (List PV)):Prop:=match o with
 | .ok ps Γ'=>∀vs H' Gs Fs',AftL K He O Fs H σ Γ' ps vs H' Gs Fs'->Q vs H'
 | .er c Γ'=>∀H' Fs',Same H H'->EnvOk K He O Fs' H' σ Γ'->W c σ H'
 | .no=>False
noncomputable def tA (K:Fg) (W:XW) (f:FL):TA:=fun σ H Q=>∃He O Fs Γ,EnvOk K He O Fs H σ Γ/\vh K W He O Fs H σ Q (f Γ)
noncomputable def af:FL:=fun Γ=>.ok [] Γ
noncomputable def ab (fa:F1) (fl:FL):FL:=fun Γ=>(fa Γ).bind fun p Γ1=>(fl Γ1).bind fun ps Γ2=>.ok (p::ps) Γ2
section
variable {K:Fg} {W:XW} {σ:St} {H:Hp} {Q:VK} {QL:List V->Hp->Prop} {fa fb:F1} {fl:FL}
theorem zP (h:tA K W af σ H QL):gD σ H QL:=by
 obtain ⟨He,O,Fs,Γ,E,h⟩:=h;exact h [] H [] Fs ⟨Same.refl _,rfl,rfl,by simpa using E,fun a ha=>.inl (by simpa using ha),fun i v p G e=>by simp at e⟩
theorem mQ {α:Type} (A B C:List α):(A++(B++C)).Perm (B++(A++C)):=by
 rw [<-append_assoc,<-append_assoc];exact List.Perm.append_right _ perm_append_comm
theorem EnvOk.perm {He H:Hp} {O O':List Addr} {Fs:List (List Addr)} {Γ:Ev} (E:EnvOk K He O Fs H σ Γ) (p:O'.Perm O):EnvOk K He O' Fs H σ Γ:=E.drop (fun a ha=>p.mem_iff.mp ha) (p.nodup_iff.mpr E.ndO)
theorem Own.perm {H:Hp} {O O':List Addr} {s:Sh} {G:List Addr} {v:V} {d:D} (h:Own K O H s G v d) (p:∀a∈O',a∈O):Own K O' H s G v d:=h.mono (Same.refl _) fun a ha=>.inl (p a ha)
theorem wC (h:tA K W (ab fa fl) σ H QL):cv (tE K W fa) (tA K W fl) σ H QL:=by
 obtain ⟨He,O,Fs,Γ,E,h⟩:=h;refine ⟨He,O,Fs,Γ,E,?_⟩
 unfold ab at h
 cases e:fa Γ with
 | ok p Γ1=>
  rw [e] at h;intro v H1 G1 Fs1 A1;refine ⟨He,G1++O,Fs1,Γ1,A1.env,?_⟩
  have h:vh K W He O Fs H σ QL ((fl Γ1).bind fun ps Γ2=>.ok (p::ps) Γ2):=h
  cases e2:fl Γ1 with
  | ok ps Γ2=>
   rw [e2] at h;intro vs H2 Gs Fs2 A2;have pm:((G1::Gs).flatten++O).Perm (Gs.flatten++(G1++O)):=by
    rw [flatten_cons,append_assoc];exact mQ _ _ _
   refine h (v::vs) H2 (G1::Gs) Fs2 ⟨A1.same.trans A2.same,by simp [A2.len1],by simp [A2.len2],A2.env.perm pm,fun a ha=>?_,fun i u q G h1 h2 h3=>?_⟩
   ·rcases Jx ha with z | z
    ·rw [flatten_cons] at z
     rcases Jx z with z | z
     ·exact A1.new a (Jw _ z)
     ·exact (A2.new a (Jw _ z)).elim (fun y=>A1.new a (Jv _ y)) fun y=>.inr (A1.same.free y)
    ·exact (A2.new a (Jv _ z)).elim (fun y=>A1.new a (Jv _ y)) fun y=>.inr (A1.same.free y)
   ·have sub:∀a∈(G1::Gs).flatten++O++Fs2.flatten,a∈Gs.flatten++(G1++O)++Fs2.flatten:=fun a ha=>by
     rcases Jx ha with z | z
     ·exact Jw _ (pm.mem_iff.mp z)
     ·exact Jv _ z
    cases i with
    | zero=>
     simp at h1 h2 h3
     subst h1 h2 h3;refine (A1.own.mono A2.same fun a ha=>?_).perm sub
     rcases Jx ha with z | z
     ·rcases Jx z with z | z
      ·exact (A2.new a (Jw _ z)).elim (fun y=>.inl (Jv _ y)) .inr
      ·exact .inl (Jw _ z)
     ·exact (A2.new a (Jv _ z)).elim (fun y=>.inl (Jv _ y)) .inr
    | succ i=>
     simp at h1 h2 h3
     exact (A2.own i u q G h1 h2 h3).perm sub
  | er c Γ2=>
   rw [e2] at h;exact fun H2 Fs2 s E2=>h H2 Fs2 (A1.same.trans s) E2.dropL
  | no=>rw [e2] at h;exact h
 | er c Γ1=>rw [e] at h;exact h
 | no=>rw [e] at h;exact h
theorem AftL.reps {He:Hp} {O:List Addr} {Fs Gs Fs':List (List Addr)} {Γ':Ev} {ps:List PV} {vs:List V} {H':Hp} (A:AftL K He O Fs H σ Γ' ps vs H' Gs Fs'):Reps K H' vs (ps.map (·.d)):=by
 refine ⟨by rw [length_map];exact A.len1,fun i v d h1 h2=>?_⟩
 rw [getElem?_map] at h2
 cases e:ps[i]? with
 | none=>rw [e] at h2;cases h2
 | some p=>
  rw [e] at h2
  cases h2;have hi:=(JD e).1
  exact (A.own i v p (Gs[i]'(by rw [A.len2];exact hi)) h1 e (Jz _)).rep
noncomputable def bt (g:List D->Option D) (fl:FL):F1:=fun Γ=>(fl Γ).bind fun ps Γ'=>match g (ps.map (·.d)) with
 | some d=>.ok ⟨.leaf,d⟩ Γ'
 | none=>.no
noncomputable def GCall (K:Fg) (r:List V->Hp->VK->Prop) (g:List D->Option D):Prop:=∀vs H Q ds d,Reps K H vs ds->g ds=some d->(∀v,Sc v d->Q v H)->r vs H Q
theorem yD {r:List V->Hp->VK->Prop} {g:List D->Option D} (hg:GCall K r g) (h:tE K W (bt g fl) σ H Q):B9 r (tA K W fl) σ H Q:=by
 obtain ⟨He,O,Fs,Γ,E,h⟩:=h;refine ⟨He,O,Fs,Γ,E,?_⟩
 unfold bt at h
 cases e:fl Γ with
 | ok ps Γ'=>
  rw [e] at h;intro vs H' Gs Fs' A
  have h:Wants K W He O Fs H σ Q (match g (ps.map (·.d)) with | some d=>.ok ⟨.leaf,d⟩ Γ' | none=>.no):=h
  cases e2:g (ps.map (·.d)) with
  | none=>rw [e2] at h;exact h.elim
  | some d=>
   rw [e2] at h;exact hg vs H' Q _ d A.reps e2 fun v s=>Wants.scal h s A.same A.env (fun a ha=>Jv _ ha) E.ndO fun a ha=>A.new a (Jv _ ha)
 | er c Γ'=>rw [e] at h;exact h
 | no=>rw [e] at h;exact h
theorem GCall.or {r r':List V->Hp->VK->Prop} {g g':List D->Option D} (h:GCall K r g) (h':GCall K r' g'):GCall K (fun xs H Q=>r xs H Q\/r' xs H Q) (fun ds=>(g ds).or (g' ds)):=by
 intro vs H Q ds d rs e k;have e:(g ds).or (g' ds)=some d:=e
 cases e1:g ds with
 | some z=>rw [e1] at e;cases e;exact .inl (h vs H Q ds _ rs e1 k)
 | none=>rw [e1] at e;exact .inr (h' vs H Q ds d rs (by simpa using e) k)
theorem Reps.one {vs:List V} {d:D} (h:Reps K H vs [d]):∃v,vs=[v]/\Rep K H v d:=by
 obtain ⟨hl,h⟩:=h;match vs,hl with
 | [v],_=>exact ⟨v,rfl,h 0 v d rfl rfl⟩
theorem Reps.two {vs:List V} {d e:D} (h:Reps K H vs [d,e]):∃v u,vs=[v,u]/\Rep K H v d/\Rep K H u e:=by
 obtain ⟨hl,h⟩:=h;match vs,hl with
 | [v,u],_=>exact ⟨v,u,rfl,h 0 v d rfl rfl,h 1 u e rfl rfl⟩
end
noncomputable def yO:List D->Option D
 | [.list xs]=>some (.int xs.length)
 | [.tuple xs]=>some (.int xs.length)
 | _=>none
noncomputable def uP:List D->Option D
 | [.str x]=>if x.length<=sizeLine then some (.int x.length) else none
 | _=>none
noncomputable abbrev aQ:List D->Option D:=fun ds=>(yO ds).or (uP ds)
theorem Bj {K:Fg}:GCall K (fun xs H Q=>(∃p ys,xs=[.ref p]/\(SqL K H p ys\/SqT K H p ys)/\Q (.int ys.length) H)\/∃z,xs=[.str z]/\z.length<=sizeLine/\Q (.int z.length) H) aQ:=by
 refine GCall.or (g:=yO) (g':=uP) (r:=fun xs H Q=>∃p ys,xs=[.ref p]/\(SqL K H p ys\/SqT K H p ys)/\Q (.int ys.length) H) (r':=fun xs H Q=>∃z,xs=[.str z]/\z.length<=sizeLine/\Q (.int z.length) H) ?_ ?_
 ·intro vs H Q ds d rs e k
  match ds,e with
  | [.list xs],e=>
   obtain ⟨v,rfl,r⟩:=rs.one
   cases e
   cases r with
   | @lst p us _ hq hl _=>exact ⟨p,us,rfl,.inl hq,by rw [hl];exact k _ (.int _)⟩
  | [.tuple xs],e=>
   obtain ⟨v,rfl,r⟩:=rs.one
   cases e
   cases r with
   | @tup p us _ hq hl _=>exact ⟨p,us,rfl,.inr hq,by rw [hl];exact k _ (.int _)⟩
 ·intro vs H Q ds d rs e k
  match ds,e with
  | [.str x],e=>
   obtain ⟨v,rfl,r⟩:=rs.one;simp only [uP] at e
   split at e
   ·rename_i z
    cases e
    cases r;exact ⟨x,rfl,z,k _ (.int _)⟩
   ·cases e
noncomputable def oX:List D->Option D
 | [.int i]=>some (.int i)
 | [.bool b]=>some (.int (if b then 1 else 0))
 | _=>none
theorem Bk {K:Fg}:GCall K (fun xs H Q=>(∃i,xs=[.int i]/\Q (.int i) H)\/∃k,xs=[.bl k]/\Q (.int (if k then 1 else 0)) H) oX:=by
 intro vs H Q ds d rs e k;match ds,e with
 | [.int i],e=>
  obtain ⟨v,rfl,r⟩:=rs.one
  cases e;cases r;exact .inl ⟨i,rfl,k _ (.int _)⟩
 | [.bool b],e=>
  obtain ⟨v,rfl,r⟩:=rs.one
  cases e;cases r;exact .inr ⟨b,rfl,k _ (.int _)⟩
noncomputable def Jm:List D->Option D
 | [.int i,.int j]=>some (.int (if j>i then j else i))
 | _=>none
noncomputable def cN:List D->Option (List Bool)
 | []=>some []
 | .bool b::r=>(cN r).map (b :: ·)
 | _=>none
theorem jJ:∀{ds:List D} {bs:List Bool},cN ds=some bs->ds=bs.map PyData.bool
 | [],bs,h=>by cases h;rfl
 | .bool b::r,bs,h=>by
  simp only [cN] at h
  cases e:cN r with
  | none=>rw [e] at h;cases h
  | some cs=>rw [e] at h;cases h;rw [jJ e];rfl
 | .none::_,_,h=>by cases h
 | .int _::_,_,h=>by cases h
 | .str _::_,_,h=>by cases h
 | .list _::_,_,h=>by cases h
 | .tuple _::_,_,h=>by cases h
 | .dict _::_,_,h=>by cases h
noncomputable def da (any:Bool):List D->Option D
 | [.list xs]=>(cN xs).map fun bs=>.bool (if any then bs.any id else bs.all id)
 | _=>none
theorem i9 {K:Fg} {H:Hp}:∀{vs:List V} {bs:List Bool},Reps K H vs (bs.map PyData.bool)->vs=bs.map V.bl
 | [],[],_=>rfl
 | v::vs,b::bs,⟨hl,h⟩=>by
  have r:=h 0 v (.bool b) rfl rfl
  cases r;rw [i9 (bs:=bs) (vs:=vs) ⟨by simpa using hl,fun i v d h1 h2=>h (i+1) v d (by simpa using h1) (by simpa using h2)⟩]
  rfl
 | [],_::_,⟨hl,_⟩=>by simp at hl
 | _::_,[],⟨hl,_⟩=>by simp at hl
noncomputable def Aj (K:Fg) (any:Bool):List V->Hp->VK->Prop:=fun xs H Q=>∃(p:Addr) (bs:List Bool),xs=[.ref p]/\SqL K H p (bs.map V.bl)/\Q (.bl (if any then bs.any id else bs.all id)) H
theorem uO {K:Fg} {any:Bool}:GCall K (Aj K any) (da any):=by
 intro vs H Q ds d rs e k;match ds,e with
 | [.list xs],e=>
  obtain ⟨v,rfl,r⟩:=rs.one;simp only [da] at e
  cases eb:cN xs with
  | none=>rw [eb] at e;cases e
  | some bs=>
   rw [eb] at e
   cases e;have:=jJ eb
   subst this
   cases r with
   | @lst p us _ hq hl hr=>
    have:=i9 ⟨hl,hr⟩
    subst this;exact ⟨p,bs,rfl,hq,k _ (.bl _)⟩
section
variable {X:Cx}
theorem kI {bs:List Bool}:∀{its:List Value},Vals (bs.map V.bl) its->its=bs.map Value.bool:=by
 induction bs with
 | nil=>intro its h;cases h;rfl
 | cons b bs ih=>
  intro its h
  cases h with
  | cons r t=>
   cases (show _=Value.bool b from r)
   rw [ih t];rfl
theorem qW (bs:List Bool):(List.range bs.length).all (fun i=>bs.getD i false)=bs.all id:=by
 rw [Bool.eq_iff_iff,all_eq_true,all_eq_true];constructor
 ·intro h b hb
  obtain ⟨i,hi,e⟩:=List.mem_iff_getElem.mp hb;have:=h i (List.mem_range.mpr hi)
  rw [JA,Jz hi] at this;rw [<-e];simpa using this
 ·intro h i hi
  have hi:=List.mem_range.mp hi
  rw [JA,Jz hi];exact h _ (getElem_mem hi)
theorem qV (bs:List Bool):(List.range bs.length).any (fun i=>bs.getD i false)=bs.any id:=by
 rw [Bool.eq_iff_iff,any_eq_true,any_eq_true];constructor
 ·rintro ⟨i,hi,h⟩
  have hi:=List.mem_range.mp hi
  rw [JA,Jz hi] at h;exact ⟨_,getElem_mem hi,h⟩
 ·rintro ⟨b,hb,h⟩
  obtain ⟨i,hi,e⟩:=List.mem_iff_getElem.mp hb;refine ⟨i,List.mem_range.mpr hi,?_⟩
  rw [JA,Jz hi,e];exact h
theorem iq {prog:Program} {w:World} {A:Around} {bs:List Bool}:TruthOf prog w A (fun i v=>(bs.map Value.bool).toArray[i]?=some v) (fun i=>bs.getD i false):=by
 intro i v s Q E hP hQ;simp only [getElem?_toArray,getElem?_map] at hP
 cases e:bs[i]? with
 | none=>rw [e] at hP;cases hP
 | some b=>
  rw [e] at hP
  cases hP;have hQ:Q (bs.getD i false) s:=hQ
  rw [JA,e] at hQ;exact wpAny_truthy_bool hQ
theorem rZ (hc:X.calm=true):CallR X (.builtin "all") (Aj X.K false):=by
 intro pins s σ H vs us Q I rv h;obtain ⟨p,bs,rfl,hq,q⟩:=h;obtain ⟨u,rfl,ru⟩:=vals1 rv
 cases ru;obtain ⟨its,rv,pl,hz⟩:=I.list hq;have:=kI rv
 subst this;have hd:=I.ok.hd hc
 refine call_all_walk (wpAny_pyIter_list pl.isList ?_)
 have ne:p≠s.heap.objs.size:=by
  obtain ⟨o,n,e,_⟩:=pl;exact Nat.ne_of_lt (Heap.lt_size e)
 refine ⟨s.heap.objs.size,_,_,_,_,_,fun i=>bs.getD i false,rfl,Walks.list (prog:=X.prog) (w:=X.w) (A:=X.A.in1) hd s.heap.objs.size p ne (bs.map Value.bool).toArray,⟨⟨_,Heap.get?_push_size _ rfl,rfl,rfl⟩,pl.isList.at fun o e=>JG _ e⟩,iq,fun h' tk hk=>?_⟩
 refine ⟨.bl _,H,I.kept (h':=h') (t':=tk) fun b o e=>hk b o (fun z=>?_) (JG _ e),rfl,?_⟩
 ·have z:b=s.heap.objs.size:=by simpa using z
  exact absurd (Heap.lt_size e) (by rw [z];exact Nat.lt_irrefl _)
 ·rw [size_toArray,length_map,qW]
  exact q
theorem rY (hc:X.calm=true):CallR X (.builtin "any") (Aj X.K true):=by
 intro pins s σ H vs us Q I rv h;obtain ⟨p,bs,rfl,hq,q⟩:=h;obtain ⟨u,rfl,ru⟩:=vals1 rv
 cases ru;obtain ⟨its,rv,pl,hz⟩:=I.list hq;have:=kI rv
 subst this;have hd:=I.ok.hd hc
 refine call_any_walk (wpAny_pyIter_list pl.isList ?_)
 have ne:p≠s.heap.objs.size:=by
  obtain ⟨o,n,e,_⟩:=pl;exact Nat.ne_of_lt (Heap.lt_size e)
 refine ⟨s.heap.objs.size,_,_,_,_,_,fun i=>bs.getD i false,rfl,Walks.list (prog:=X.prog) (w:=X.w) (A:=X.A.in1) hd s.heap.objs.size p ne (bs.map Value.bool).toArray,⟨⟨_,Heap.get?_push_size _ rfl,rfl,rfl⟩,pl.isList.at fun o e=>JG _ e⟩,iq,fun h' tk hk=>?_⟩
 refine ⟨.bl _,H,I.kept (h':=h') (t':=tk) fun b o e=>hk b o (fun z=>?_) (JG _ e),rfl,?_⟩
 ·have z:b=s.heap.objs.size:=by simpa using z
  exact absurd (Heap.lt_size e) (by rw [z];exact Nat.lt_irrefl _)
 ·rw [size_toArray,length_map,qV]
  exact q
end
noncomputable def cn (s:Sh) (j:Nat) (d:D):Option Sh:=match s with
 | .leaf=>some .leaf
 | .view=>some (if bQ d then .leaf else .view)
 | .lst s=>some s
 | .tup ss=>ss[j]?
noncomputable def ai (fa fb:F1):F1:=bf fa fun p=>bf fb fun q=>fun Γ=>match q.d with
 | .int i=>(match p.d with
  | .list ds=>(match fq ds.length i with
   | some j=>(match ds[j]? with
    | some d=>(match cn p.s j d with
     | some s=>.ok ⟨s,d⟩ Γ
     | none=>.no)
    | none=>.no)
   | none=>.no)
  | .tuple ds=>(match fq ds.length i with
   | some j=>(match ds[j]? with
    | some d=>(match cn p.s j d with
     | some s=>.ok ⟨s,d⟩ Γ
     | none=>.no)
    | none=>.no)
   | none=>.no)
  | .str z=>if z.length<=sizeLine then (match fu z.cps.toList i with
   | some c=>.ok ⟨.leaf,.str ⟨#[c]⟩⟩ Γ
   | none=>.no) else .no
  | _=>.no)
 | _=>.no
theorem Own.item {K:Fg} {O:List Addr} {H:Hp} {s s':Sh} {G:List Addr} {p:Addr} {ds:List D} {j:Nat} {d:D} (h:Own K O H s G (.ref p) (.list ds)) (hd:ds[j]?=some d) (hs:cn s j d=some s') :
  ∃vs v G',SqL K H p vs/\vs.length=ds.length/\vs[j]?=some v/\(∀a∈G',a∈G)/\G'.Nodup/\Own K O H s' G' v d:=by
 have hi:=(JD hd).1
 cases h with
 | view r=>
  cases r with
  | @lst _ vs _ hq hl hr=>
   have hv:vs[j]?=some (vs[j]'(by omega)):=Jz _
   have r':=hr j _ d hv hd
   simp only [cn,Option.some.injEq] at hs
   cases e:bQ d with
   | true=>
    rw [e] at hs
    cases hs;exact ⟨vs,_,[],hq,hl,hv,(fun _ z=>nomatch z),nodup_nil,.leaf (r'.sc e).rep⟩
   | false=>
    rw [e] at hs
    cases hs;exact ⟨vs,_,[],hq,hl,hv,(fun _ z=>nomatch z),nodup_nil,.view r'⟩
 | leaf r=>
  cases r with
  | @lst _ vs _ hq hl hr=>
   have hv:vs[j]?=some (vs[j]'(by omega)):=Jz _
   cases hs;exact ⟨vs,_,[],hid_le.seq hq,hl,hv,(fun _ z=>nomatch z),nodup_nil,.leaf (hr j _ d hv hd)⟩
 | @lst s₀ _ vs _ Fs hv hp hl hf nd hr=>
  have hv':vs[j]?=some (vs[j]'(by omega)):=Jz _
  have hF:Fs[j]?=some (Fs[j]'(by omega)):=Jz _
  cases hs;refine ⟨vs,_,_,.of hp,hl,hv',fun a ha=>JB _ (nX hF ha),?_,hr j _ d _ hv' hd hF⟩
  exact ((List.nodup_cons.mp nd).2).sublist (List.sublist_flatten_of_mem (mem_of_getElem? hF))
theorem Own.itemT {K:Fg} {O:List Addr} {H:Hp} {s s':Sh} {G:List Addr} {p:Addr} {ds:List D} {j:Nat} {d:D} (h:Own K O H s G (.ref p) (.tuple ds)) (hd:ds[j]?=some d) (hs:cn s j d=some s') :
  ∃vs v G',SqT K H p vs/\vs.length=ds.length/\vs[j]?=some v/\(∀a∈G',a∈G)/\G'.Nodup/\Own K O H s' G' v d:=by
 have hi:=(JD hd).1
 cases h with
 | view r=>
  cases r with
  | @tup _ vs _ hq hl hr=>
   have hv:vs[j]?=some (vs[j]'(by omega)):=Jz _
   have r':=hr j _ d hv hd
   simp only [cn,Option.some.injEq] at hs
   cases e:bQ d with
   | true=>
    rw [e] at hs
    cases hs;exact ⟨vs,_,[],hq,hl,hv,(fun _ z=>nomatch z),nodup_nil,.leaf (r'.sc e).rep⟩
   | false=>
    rw [e] at hs
    cases hs;exact ⟨vs,_,[],hq,hl,hv,(fun _ z=>nomatch z),nodup_nil,.view r'⟩
 | leaf r=>
  cases r with
  | @tup _ vs _ hq hl hr=>
   have hv:vs[j]?=some (vs[j]'(by omega)):=Jz _
   cases hs;exact ⟨vs,_,[],fX hid_le hq,hl,hv,(fun _ z=>nomatch z),nodup_nil,.leaf (hr j _ d hv hd)⟩
 | @tup ss _ vs _ Fs hv hp hn hl hf hl2 nd hr=>
  have hv':vs[j]?=some (vs[j]'(by omega)):=Jz _
  have hF:Fs[j]?=some (Fs[j]'(by omega)):=Jz _
  have hs:ss[j]?=some s':=hs
  refine ⟨vs,_,_,.of hp,hl,hv',fun a ha=>nX hF ha,?_,hr j _ d _ _ hv' hd hF hs⟩
  exact nd.sublist (List.sublist_flatten_of_mem (mem_of_getElem? hF))
theorem Wants.part {K:Fg} {W:XW} {σ:St} {He H H2:Hp} {O G G':List Addr} {Fs Fs2:List (List Addr)} {Γ':Ev} {Q:VK} {s:Sh} {v:V} {d:D} (h:Wants K W He O Fs H σ Q (.ok ⟨s,d⟩ Γ')) (e:Same H H2)
  (E:EnvOk K He (G++O) Fs2 H2 σ Γ') (sub:∀a∈G',a∈G) (nd:G'.Nodup) (new:∀a∈G++Fs2.flatten,a∈Fs.flatten\/H a=none) (o:Own K (G++O++Fs2.flatten) H2 s G' v d):Q v H2:=by
 have sub2:∀a∈G'++O,a∈G++O:=fun a ha=>by
  rcases Jx ha with z | z
  ·exact Jw _ (sub a z)
  ·exact Jv _ z
 obtain ⟨n1,n2,n3⟩:=JC E.ndO;refine h v H2 G' Fs2 ⟨e,E.drop sub2 (List.nodup_append.mpr ⟨nd,n2,fun a ha b hb=>n3 a (sub a ha) b hb⟩),fun a ha=>new a ?_,o.perm fun a ha=>?_⟩
 ·rcases Jx ha with z | z
  ·exact Jw _ (sub a z)
  ·exact Jv _ z
 ·rcases Jx ha with z | z
  ·exact Jw _ (sub2 a z)
  ·exact Jv _ z
theorem Fp {α β:Type} {xs:List α} {ys:List β} {i:Int} {j:Nat} {v:α} (hl:xs.length=ys.length) (h:fq ys.length i=some j) (hv:xs[j]?=some v):fu xs i=some v:=by
 unfold fu;rw [hl,h];exact hv
section
variable {K:Fg} {W:XW} {σ:St} {H:Hp} {Q:VK} {fa fb:F1}
theorem zT (h:tE K W (ai fa fb) σ H Q):vz (EV K) (tE K W fa) (tE K W fb) σ H Q:=by
 refine Cg h ?_
 intro He O Fs Γ2 p q v u H1 H2 G1 G2 Fs2 nd s1 s2 E new o1 o2 w;obtain ⟨ps,pd⟩:=p;obtain ⟨qs,qd⟩:=q;have ri:=o2.rep
 cases qd<;>try exact w.elim
 rename_i i
 cases ri;have E':EnvOk K He ((G2++G1)++O) Fs2 H2 σ Γ2:=by rw [append_assoc];exact E
 have new':∀a∈(G2++G1)++Fs2.flatten,a∈Fs.flatten\/H a=none:=fun a ha=>new a (by rw [<-append_assoc];exact ha)
 have o1':Own K ((G2++G1)++O++Fs2.flatten) H2 ps G1 v pd:=o1.perm fun a ha=>by rw [append_assoc G2] at ha;exact ha
 have rp:=o1.rep
 cases pd with
 | list ds=>
  obtain ⟨p0,rfl⟩:∃p0,v=.ref p0:=by cases rp;exact ⟨_,rfl⟩
  have w:Wants K W He O Fs H σ Q (match fq ds.length i with | some j=>(match ds[j]? with | some d=>(match cn ps j d with | some s=>.ok ⟨s,d⟩ Γ2 | none=>.no) | none=>.no) | none=>.no):=w
  cases e1:fq ds.length i with
  | none=>rw [e1] at w;exact w.elim
  | some j=>
   rw [e1] at w;have w:Wants K W He O Fs H σ Q (match ds[j]? with | some d=>(match cn ps j d with | some s=>.ok ⟨s,d⟩ Γ2 | none=>.no) | none=>.no):=w
   cases e2:ds[j]? with
   | none=>rw [e2] at w;exact w.elim
   | some d=>
    rw [e2] at w;have w:Wants K W He O Fs H σ Q (match cn ps j d with | some s=>.ok ⟨s,d⟩ Γ2 | none=>.no):=w
    cases e3:cn ps j d with
    | none=>rw [e3] at w;exact w.elim
    | some s=>
     rw [e3] at w;obtain ⟨vs,v',G',h1,h2,h3,h4,h5,h6⟩:=o1'.item e2 e3
     exact .inl ⟨p0,vs,i,v',rfl,rfl,h1,Fp h2 e1 h3,Wants.part w (s1.trans s2) E' (fun a ha=>Jv _ (h4 a ha)) h5 new' h6⟩
 | tuple ds=>
  obtain ⟨p0,rfl⟩:∃p0,v=.ref p0:=by cases rp;exact ⟨_,rfl⟩
  have w:Wants K W He O Fs H σ Q (match fq ds.length i with | some j=>(match ds[j]? with | some d=>(match cn ps j d with | some s=>.ok ⟨s,d⟩ Γ2 | none=>.no) | none=>.no) | none=>.no):=w
  cases e1:fq ds.length i with
  | none=>rw [e1] at w;exact w.elim
  | some j=>
   rw [e1] at w;have w:Wants K W He O Fs H σ Q (match ds[j]? with | some d=>(match cn ps j d with | some s=>.ok ⟨s,d⟩ Γ2 | none=>.no) | none=>.no):=w
   cases e2:ds[j]? with
   | none=>rw [e2] at w;exact w.elim
   | some d=>
    rw [e2] at w;have w:Wants K W He O Fs H σ Q (match cn ps j d with | some s=>.ok ⟨s,d⟩ Γ2 | none=>.no):=w
    cases e3:cn ps j d with
    | none=>rw [e3] at w;exact w.elim
    | some s=>
     rw [e3] at w;obtain ⟨vs,v',G',h1,h2,h3,h4,h5,h6⟩:=o1'.itemT e2 e3
     exact .inr (.inl ⟨p0,vs,i,v',rfl,rfl,h1,Fp h2 e1 h3,Wants.part w (s1.trans s2) E' (fun a ha=>Jv _ (h4 a ha)) h5 new' h6⟩)
 | str z=>
  cases rp;have w:Wants K W He O Fs H σ Q (if z.length<=sizeLine then (match fu z.cps.toList i with | some c=>.ok ⟨.leaf,.str ⟨#[c]⟩⟩ Γ2 | none=>.no) else .no):=w
  by_cases hz:z.length<=sizeLine
  ·rw [if_pos hz] at w
   cases e1:fu z.cps.toList i with
   | none=>rw [e1] at w;exact w.elim
   | some c=>
    rw [e1] at w;exact .inr (.inr ⟨z,i,c,rfl,rfl,hz,e1,Wants.scal w (.str _) (s1.trans s2) E (fun a ha=>Jv _ (Jv _ ha)) nd fun a ha=>new a (Jv _ (Jv _ ha))⟩)
  ·rw [if_neg hz] at w
   exact w.elim
 | none=>exact w.elim
 | bool b=>exact w.elim
 | int k=>exact w.elim
 | dict k=>exact w.elim
end
theorem nc (s:Sh):∀Gs:List (List Addr),((Gs.map (aY s)).flatten).Sublist Gs.flatten
 | []=>List.Sublist.refl _
 | G::Gs=>by
  simp only [map_cons,flatten_cons]
  refine List.Sublist.append ?_ (nc s Gs)
  unfold aY;split
  ·exact List.nil_sublist _
  ·exact List.Sublist.refl _
theorem ky:∀Gs:List (List Addr),(Gs.map (aY .leaf)).flatten=[]
 | []=>rfl
 | _::Gs=>by simp only [map_cons,flatten_cons,ky Gs];rfl
section
variable {K:Fg} {W:XW} {σ:St} {He H H':Hp} {O:List Addr} {Fs Fs' Gs:List (List Addr)} {Γ':Ev} {ps:List PV} {vs:List V} {Q:VK}
theorem AftL.newList {s:Sh} {p:Addr} (A:AftL K He O Fs H σ Γ' ps vs H' Gs Fs') (hs:s.isView=false) (hc:ps.all (T.coer s)=true) (hp:H' p=none) :
  Aft K He O Fs H σ Γ' ⟨.lst s,.list (ps.map (·.d))⟩ (.ref p) (b9 H' p (.lst vs)) (p::(Gs.map (aY s)).flatten) Fs':=by
 obtain ⟨n1,n2,n3⟩:=JC A.env.ndO;obtain ⟨m1,m2,m3⟩:=JC A.env.nd;have hsub:=nc s Gs
 have E1:EnvOk K He ((Gs.map (aY s)).flatten++O) Fs' H' σ Γ':=A.env.drop (fun a ha=>by
   rcases Jx ha with z | z
   ·exact Jw _ (hsub.subset z)
   ·exact Jv _ z) (List.nodup_append.mpr ⟨n1.sublist hsub,n2,fun a ha b hb=>n3 a (hsub.subset ha) b hb⟩)
 have E2:=E1.hide (G:=[p]) (jP (o:=.lst vs) hp) (by simp) (fun a ha=>by simp at ha;rw [ha];exact hp) (fun a ha=>by simp at ha;rw [ha,g6];exact Option.some_ne_none _)
 have pn:∀{a},a∈Gs.flatten++O++Fs'.flatten->a≠p:=fun {a} ha z=>A.env.inH a ha (by rw [z];exact hp)
 refine ⟨A.same.trans (jP hp),E2,fun a ha=>?_,?_⟩
 ·rcases Jx ha with z | z
  ·rcases Jy z with z | z
   ·rw [z];exact .inr (A.same.free hp)
   ·exact A.new a (Jw _ (hsub.subset z))
  ·exact A.new a (Jv _ z)
 ·refine .lst hs g6 (by rw [length_map];exact A.len1) (by rw [length_map,length_map];exact A.len2) ?_ fun i v d F h1 h2 h3=>?_
  ·refine List.nodup_cons.mpr ⟨fun z=>pn (Jw _ (Jw _ (hsub.subset z))) rfl,n1.sublist hsub⟩
  ·rw [getElem?_map] at h2 h3
   cases e2:ps[i]? with
   | none=>rw [e2] at h2;cases h2
   | some q=>
    cases e3:Gs[i]? with
    | none=>rw [e3] at h3;cases h3
    | some G=>
     rw [e2] at h2;rw [e3] at h3
     cases h2
     cases h3;have cq:T.coer s q=true:=List.all_eq_true.mp hc q (mem_of_getElem? e2)
     have o1:=(A.own i v q G h1 e2 e3).mono (O':=p::(Gs.flatten++O++Fs'.flatten)) (jP (o:=.lst vs) hp) fun a ha=>by
      rcases Jy ha with z | z
      ·rw [z];exact .inr hp
      ·exact .inl z
     refine o1.coer cq (fun a ha=>?_) fun a ha hO=>?_
     ·rw [append_assoc] at ha
      rcases Jx ha with z | z
      ·rcases Jy z with z | z
       ·rw [z];exact mem_cons_self
       ·exact JB _ (Jw _ (Jw _ (hsub.subset z)))
      ·rcases Jx z with z | z
       ·exact JB _ (Jw _ (Jv _ z))
       ·exact JB _ (Jv _ z)
     ·have hG:a∈Gs.flatten:=nX e3 ha
      cases s with
      | leaf=>
       rw [ky] at hO;exfalso
       rw [append_assoc] at hO;rcases Jx hO with z | z
       ·have z:a=p:=by simpa using z
        exact pn (Jw _ (Jw _ hG)) z
       ·rcases Jx z with z | z
        ·exact n3 a hG a z rfl
        ·exact m3 a (Jw _ hG) a z rfl
      | view=>cases hs
      | lst s=>exact ha
      | tup ss=>exact ha
noncomputable def bb (s:Sh) (fl:FL):F1:=fun Γ=>(fl Γ).bind fun ps Γ'=>if !s.isView&&ps.all (T.coer s)&&decide (ps.length<=sizeLine) then .ok ⟨.lst s,.list (ps.map (·.d))⟩ Γ' else .no
theorem wu {s:Sh} {fl:FL} (h:tE K W (bb s fl) σ H Q):CG (tA K W fl) σ H Q:=by
 obtain ⟨He,O,Fs,Γ,E,h⟩:=h;refine ⟨He,O,Fs,Γ,E,?_⟩
 unfold bb at h
 cases e:fl Γ with
 | ok ps Γ'=>
  rw [e] at h;intro vs H' Gs Fs' A
  have h:Wants K W He O Fs H σ Q (if (!s.isView&&ps.all (T.coer s)&&decide (ps.length<=sizeLine))=true then .ok ⟨.lst s,.list (ps.map (·.d))⟩ Γ' else .no):=h
  by_cases hc:(!s.isView&&ps.all (T.coer s)&&decide (ps.length<=sizeLine))=true
  ·rw [if_pos hc] at h
   simp only [Bool.and_eq_true,decide_eq_true_eq,Bool.not_eq_true'] at hc
   exact ⟨by rw [A.len1];exact hc.2,fun p hp=>h _ _ _ _ (A.newList hc.1.1 hc.1.2 hp)⟩
  ·rw [if_neg hc] at h
   exact h.elim
 | er c Γ'=>rw [e] at h;exact h
 | no=>rw [e] at h;exact h
noncomputable def yv (p:PV):Sh:=if p.s.isView then .leaf else p.s
noncomputable def tok (p:PV):Bool:=!p.s.isView||bQ p.d
theorem AftL.newTup {p:Addr} (A:AftL K He O Fs H σ Γ' ps vs H' Gs Fs') (hc:ps.all tok=true) (hp:H' p=none) :
  Aft K He O Fs H σ Γ' ⟨.tup (ps.map yv),.tuple (ps.map (·.d))⟩ (.ref p) (b9 H' p (.tup vs)) Gs.flatten Fs':=by
 obtain ⟨n1,n2,n3⟩:=JC A.env.ndO;have pn:p∉Gs.flatten++O++Fs'.flatten:=fun ha=>A.env.inH p ha hp
 refine ⟨A.same.trans (jP hp),A.env.grow (jP hp),A.new,?_⟩
 refine .tup (fun s hs=>?_) g6 pn (by rw [length_map];exact A.len1) (by rw [length_map];exact A.len2) (by rw [length_map,length_map]) n1 fun i v d F s h1 h2 h3 h4=>?_
 ·obtain ⟨q,_,rfl⟩:=List.mem_map.mp hs
  unfold yv;split
  ·rfl
  ·rename_i z;simpa using z
 ·rw [getElem?_map] at h2 h4
  cases e2:ps[i]? with
  | none=>rw [e2] at h2;cases h2
  | some q=>
   rw [e2] at h2 h4
   cases h2
   cases h4;have cq:tok q=true:=List.all_eq_true.mp hc q (mem_of_getElem? e2)
   have o1:=(A.own i v q F h1 e2 h3).mono (O':=Gs.flatten++O++Fs'.flatten) (jP (o:=.tup vs) hp) fun a ha=>.inl ha
   unfold yv
   cases hv:q.s.isView with
   | false=>exact o1
   | true=>
    unfold tok at cq;rw [hv] at cq;obtain ⟨s,d⟩:=q
    cases s with
    | view=>
     cases o1 with
     | view r=>exact .leaf (r.sc (by simpa using cq)).rep
    | _=>cases hv
noncomputable def bJ (fl:FL):F1:=fun Γ=>(fl Γ).bind fun ps Γ'=>if ps.all tok&&decide (ps.length<=sizeLine) then .ok ⟨.tup (ps.map yv),.tuple (ps.map (·.d))⟩ Γ' else .no
theorem zH {fl:FL} (h:tE K W (bJ fl) σ H Q):zt (tA K W fl) σ H Q:=by
 obtain ⟨He,O,Fs,Γ,E,h⟩:=h;refine ⟨He,O,Fs,Γ,E,?_⟩
 unfold bJ at h
 cases e:fl Γ with
 | ok ps Γ'=>
  rw [e] at h;intro vs H' Gs Fs' A
  have h:Wants K W He O Fs H σ Q (if (ps.all tok&&decide (ps.length<=sizeLine))=true then .ok ⟨.tup (ps.map yv),.tuple (ps.map (·.d))⟩ Γ' else .no):=h
  by_cases hc:(ps.all tok&&decide (ps.length<=sizeLine))=true
  ·rw [if_pos hc] at h
   simp only [Bool.and_eq_true,decide_eq_true_eq] at hc
   exact ⟨by rw [A.len1];exact hc.2,fun p hp=>h _ _ _ _ (A.newTup hc.1 hp)⟩
  ·rw [if_neg hc] at h
   exact h.elim
 | er c Γ'=>rw [e] at h;exact h
 | no=>rw [e] at h;exact h
end
noncomputable def aH (p:PV) (ds:List D):Bool:=!p.s.isView||ds.all bQ
theorem Own.items {K:Fg} {O O':List Addr} {H:Hp} {s:Sh} {G:List Addr} {v:V} {ds:List D} (h:Own K O H s G v (.list ds)) (hc:aH ⟨s,.list ds⟩ ds=true) (h1:∀a∈O',a∈O) (h2:∀a∈G,a∉O') :
  ∃p vs,v=.ref p/\SqL K H p vs/\(s.isView=false->SqL K (b8 H O') p vs)/\Reps K (b8 H O') vs ds:=by
 have hr:=h.rep
 cases hv:s.isView with
 | false=>
  have r:=h.freeze hv h1 h2
  cases r with
  | @lst p vs _ hq hl hr=>exact ⟨p,vs,rfl,hid_le.seq hq,fun _=>hq,hl,hr⟩
 | true=>
  unfold aH at hc;have hc:ds.all bQ=true:=by simpa [hv] using hc
  cases hr with
  | @lst p vs _ hq hl hr=>exact ⟨p,vs,rfl,hq,nofun,hl,fun i v d e1 e2=>((hr i v d e1 e2).sc (List.all_eq_true.mp hc d (mem_of_getElem? e2))).rep⟩
theorem Own.itemsT {K:Fg} {O O':List Addr} {H:Hp} {s:Sh} {G:List Addr} {v:V} {ds:List D} (h:Own K O H s G v (.tuple ds)) (hc:aH ⟨s,.tuple ds⟩ ds=true) (h1:∀a∈O',a∈O) (h2:∀a∈G,a∉O') :
  ∃p vs,v=.ref p/\SqT K H p vs/\(s.isView=false->SqT K (b8 H O') p vs)/\Reps K (b8 H O') vs ds:=by
 have hr:=h.rep
 cases hv:s.isView with
 | false=>
  have r:=h.freeze hv h1 h2
  cases r with
  | @tup p vs _ hq hl hr=>exact ⟨p,vs,rfl,fX hid_le hq,fun _=>hq,hl,hr⟩
 | true=>
  unfold aH at hc;have hc:ds.all bQ=true:=by simpa [hv] using hc
  cases hr with
  | @tup p vs _ hq hl hr=>exact ⟨p,vs,rfl,hq,nofun,hl,fun i v d e1 e2=>((hr i v d e1 e2).sc (List.all_eq_true.mp hc d (mem_of_getElem? e2))).rep⟩
theorem FW {K:Fg} {σ:St} {He H H1:Hp} {O:List Addr} {Fs Fs1:List (List Addr)} {Γ1:Ev} {vs:List V} {ds:List D} {p:Addr} (E:EnvOk K He O Fs1 H1 σ Γ1) (s:Same H H1) (n:∀a∈Fs1.flatten,a∈Fs.flatten\/H a=none)
  (hr:Reps K (b8 H1 (O++Fs1.flatten)) vs ds) (hp:H1 p=none):Aft K He O Fs H σ Γ1 ⟨.lst .leaf,.list ds⟩ (.ref p) (b9 H1 p (.lst vs)) [p] Fs1:=by
 have E2:=E.hide (G:=[p]) (jP (o:=.lst vs) hp) (by simp) (fun a ha=>by simp at ha;rw [ha];exact hp) (fun a ha=>by simp at ha;rw [ha,g6];exact Option.some_ne_none _)
 refine ⟨s.trans (jP hp),E2,fun a ha=>?_,?_⟩
 ·rcases Jx ha with z | z
  ·have z:a=p:=by simpa using z
   rw [z];exact .inr (s.free hp)
  ·exact n a z
 ·have fl:(List.replicate ds.length ([]:List Addr)).flatten=[]:=by simp
  have:[p]=p::(List.replicate ds.length ([]:List Addr)).flatten:=by rw [fl]
  rw [this];refine .lst rfl g6 hr.1 (by simp) (by rw [fl];simp) fun i v d F h1 h2 h3=>?_
  rw [getElem?_replicate] at h3;split at h3
  ·cases h3
   refine .leaf ((hr.2 i v d h1 h2).mono (pK (jP hp) fun a ha=>?_))
   rw [fl] at ha;rcases Jx ha with z | z
   ·rcases Jx z with z | z
    ·have z:a=p:=by simpa using z
     rw [z];exact .inr hp
    ·exact .inl (Jw _ z)
   ·exact .inl (Jv _ z)
  ·cases h3
noncomputable def cW (fa:F1):F1:=bf fa fun p Γ=>match p.d with
 | .list ds=>if aH p ds then .ok ⟨.lst .leaf,.list ds⟩ Γ else .no
 | .tuple ds=>if aH p ds then .ok ⟨.lst .leaf,.list ds⟩ Γ else .no
 | _=>.no
section
variable {K:Fg} {W:XW} {σ:St} {H:Hp} {Q:VK} {fa fb:F1}
theorem Aft.disj {He H1:Hp} {O G:List Addr} {Fs Fs1:List (List Addr)} {Γ1:Ev} {p:PV} {v:V} (A:Aft K He O Fs H σ Γ1 p v H1 G Fs1):∀a∈G,a∉O++Fs1.flatten:=fun a ha z=>by
 have nd:=A.env.nd
 rw [append_assoc] at nd;exact (JC nd).2.2 a ha a z rfl
theorem mz {G O F:List Addr}:∀a∈O++F,a∈G++O++F:=fun a ha=>by
 rw [append_assoc];exact Jv _ ha
theorem qT (h:tE K W (cW fa) σ H Q):B9 (fun xs H Q=>∃p ys,xs=[.ref p]/\(SqL K H p ys\/SqT K H p ys)/\∀l,H l=none->Q (.ref l) (b9 H l (.lst ys))) (tA K W (ab fa af)) σ H Q:=by
 have h1:tE K W fa σ H fun x H1=>∃p ys,x=.ref p/\(SqL K H1 p ys\/SqT K H1 p ys)/\∀l,H1 l=none->Q (.ref l) (b9 H1 l (.lst ys)):=by
  refine vq h fun He O Fs Γ1 p v H1 G Fs1 nd A w=>?_
  obtain ⟨s,d⟩:=p
  cases d with
  | list ds=>
   have w:Wants K W He O Fs H σ Q (if aH ⟨s,.list ds⟩ ds then .ok ⟨.lst .leaf,.list ds⟩ Γ1 else .no):=w
   cases hc:aH ⟨s,.list ds⟩ ds with
   | false=>rw [hc] at w;exact w.elim
   | true=>
    rw [hc] at w;obtain ⟨p,vs,rfl,hq,_,hr⟩:=A.own.items (O':=O++Fs1.flatten) hc mz A.disj
    exact ⟨p,vs,rfl,.inl hq,fun l hl=>w _ _ _ _ (FW A.go A.same A.newF hr hl)⟩
  | tuple ds=>
   have w:Wants K W He O Fs H σ Q (if aH ⟨s,.tuple ds⟩ ds then .ok ⟨.lst .leaf,.list ds⟩ Γ1 else .no):=w
   cases hc:aH ⟨s,.tuple ds⟩ ds with
   | false=>rw [hc] at w;exact w.elim
   | true=>
    rw [hc] at w;obtain ⟨p,vs,rfl,hq,_,hr⟩:=A.own.itemsT (O':=O++Fs1.flatten) hc mz A.disj
    exact ⟨p,vs,rfl,.inr hq,fun l hl=>w _ _ _ _ (FW A.go A.same A.newF hr hl)⟩
  | _=>exact w.elim
 obtain ⟨He,O,Fs,Γ,E,h1⟩:=h1;refine ⟨He,O,Fs,Γ,E,?_⟩
 unfold ab af
 cases e:fa Γ with
 | ok p Γ'=>
  rw [e] at h1;intro vs H' Gs Fs' A
  match vs,Gs,A.len1,A.len2 with
  | [v],[G],_,_=>
   have A':Aft K He O Fs H σ Γ' p v H' G Fs':=⟨A.same,by simpa using A.env,by simpa using A.new,by simpa using A.own 0 v p G rfl rfl rfl⟩
   obtain ⟨q,ys,rfl,h2,h3⟩:=h1 v H' G Fs' A'
   exact ⟨q,ys,rfl,h2,h3⟩
 | er c Γ'=>rw [e] at h1;exact h1
 | no=>rw [e] at h1;exact h1
end
structure yd (J:It) (P:Hp->Prop) (vs:List V):Prop where
 go:∀(i:Nat) H v,P H->vs[i]?=some v->J.go i H/\∀x H',J.yld i H x H'->H'=H/\x=v
 stop:∀H,P H->J.stop vs.length H
theorem xl {K:Fg} {a:Addr} {vs:List V}:yd (BN K a) (fun H=>SqL K H a vs) vs:=
 ⟨fun i H v hp hv=>⟨⟨vs,v,hp,hv⟩,fun x H' ⟨e,q⟩=>⟨e,Option.some.inj ((q vs hp).symm.trans hv)⟩⟩,fun H hp=>⟨vs,hp,JH _⟩⟩
theorem A7 {K:Fg} {a:Addr} {vs:List V}:yd (Fm K a) (fun H=>SqT K H a vs) vs:=
 ⟨fun i H v hp hv=>⟨⟨vs,v,hp,hv⟩,fun x H' ⟨e,q⟩=>⟨e,Option.some.inj ((q vs hp).symm.trans hv)⟩⟩,fun H hp=>⟨vs,hp,JH _⟩⟩
noncomputable def fN (lo:Int) (n:Nat):List V:=(List.range n).map fun i=>.int (lo+(i:Nat))
noncomputable def cc (lo:Int) (n:Nat):List D:=(List.range n).map fun i=>.int (lo+(i:Nat))
theorem uE {lo:Int} {n:Nat}:yd (BM lo n) (fun _=>True) (fN lo n):=by
 refine ⟨fun i H v _ hv=>?_,fun H _=>?_⟩
 ·unfold fN at hv
  rw [getElem?_map] at hv
  cases e:(List.range n)[i]? with
  | none=>rw [e] at hv;cases hv
  | some k=>
   rw [e] at hv;obtain ⟨h1,h2⟩:=JD e
   simp at h1 h2
   subst h2
   cases hv;exact ⟨h1,fun x H' ⟨q1,q2⟩=>⟨q1,q2⟩⟩
 ·show n<=(fN lo n).length
  simp [fN]
theorem F6 {K:Fg} {H:Hp} {lo:Int} {n:Nat}:Reps K H (fN lo n) (cc lo n):=by
 refine ⟨by simp [fN,cc],fun i v d h1 h2=>?_⟩
 unfold fN at h1;unfold cc at h2;rw [getElem?_map] at h1 h2
 cases e:(List.range n)[i]? with
 | none=>rw [e] at h1;cases h1
 | some k=>
  rw [e] at h1 h2
  cases h1
  cases h2;exact .int _
structure Jd where
 ds:List D
 st:Bool
abbrev FI:=Ev->Out Jd
noncomputable def jK (K:Fg) (W:XW) (He:Hp) (O:List Addr) (Fs:List (List Addr)) (H:Hp) (σ:St) (R:It->Hp->Prop) (o:Out Jd):Prop:=match o with
 | .ok t Γ'=>∀J H' Fs' vs P,Same H H'->EnvOk K He O Fs' H' σ Γ'->(∀a∈Fs'.flatten,a∈Fs.flatten\/H a=none)->yd J P vs->P H'->(∀H2,Same H' H2->P H2)->(t.st=true->∀H2,Same (b8 H' Fs'.flatten) H2->P H2) ->
   Reps K (b8 H' (O++Fs'.flatten)) vs t.ds->R J H'
 | .er c Γ'=>∀H' Fs',Same H H'->EnvOk K He O Fs' H' σ Γ'->W c σ H'
 | .no=>False
noncomputable def tI (K:Fg) (W:XW) (f:FI):TI:=fun σ H R=>∃He O Fs Γ,EnvOk K He O Fs H σ Γ/\jK K W He O Fs H σ R (f Γ)
theorem qG {X:Cx} {tg iter:Expr} {t t':TI} (h:PI X tg iter t) (i:∀σ H R,t' σ H R->t σ H R):PI X tg iter t':=fun pins s σ H R I q=>h pins s σ H R I (i σ H R q)
noncomputable def aS (fa:F1):FI:=fun Γ=>(fa Γ).bind fun p Γ'=>match p.d with
 | .list ds=>if aH p ds then .ok ⟨ds,!p.s.isView⟩ Γ' else .no
 | _=>.no
noncomputable def dJ (fa:F1):FI:=fun Γ=>(fa Γ).bind fun p Γ'=>match p.d with
 | .tuple ds=>if aH p ds then .ok ⟨ds,!p.s.isView⟩ Γ' else .no
 | _=>.no
section
variable {K:Fg} {W:XW} {σ:St} {H:Hp} {R:It->Hp->Prop} {fa fb:F1}
theorem sub_hid {H:Hp} {O F:List Addr}:Same (b8 H (O++F)) (b8 H F):=pK (Same.refl _) fun a ha=>.inl (Jv _ ha)
theorem wz (h:tI K W (aS fa) σ H R):qw K (tE K W fa) σ H R:=by
 obtain ⟨He,O,Fs,Γ,E,h⟩:=h;refine ⟨He,O,Fs,Γ,E,?_⟩
 unfold aS at h
 cases e:fa Γ with
 | ok p Γ1=>
  rw [e] at h;intro v H1 G Fs1 A;obtain ⟨s,d⟩:=p
  cases d with
  | list ds=>
   have h:jK K W He O Fs H σ R (if aH ⟨s,.list ds⟩ ds then .ok ⟨ds,!s.isView⟩ Γ1 else .no):=h
   cases hc:aH ⟨s,.list ds⟩ ds with
   | false=>rw [hc] at h;exact h.elim
   | true=>
    rw [hc] at h;obtain ⟨p,vs,rfl,hq,hst,hr⟩:=A.own.items (O':=O++Fs1.flatten) hc mz A.disj
    exact ⟨p,rfl,⟨vs,hq⟩,h (BN K p) H1 Fs1 vs (fun H=>SqL K H p vs) A.same A.go A.newF xl hq (fun H2 s2=>s2.seq hq) (fun ht H2 s2=>s2.seq (sub_hid.seq (hst (by simpa using ht)))) hr⟩
  | _=>exact h.elim
 | er c Γ'=>rw [e] at h;exact h
 | no=>rw [e] at h;exact h
theorem wy (h:tI K W (dJ fa) σ H R):xq K (tE K W fa) σ H R:=by
 obtain ⟨He,O,Fs,Γ,E,h⟩:=h;refine ⟨He,O,Fs,Γ,E,?_⟩
 unfold dJ at h
 cases e:fa Γ with
 | ok p Γ1=>
  rw [e] at h;intro v H1 G Fs1 A;obtain ⟨s,d⟩:=p
  cases d with
  | tuple ds=>
   have h:jK K W He O Fs H σ R (if aH ⟨s,.tuple ds⟩ ds then .ok ⟨ds,!s.isView⟩ Γ1 else .no):=h
   cases hc:aH ⟨s,.tuple ds⟩ ds with
   | false=>rw [hc] at h;exact h.elim
   | true=>
    rw [hc] at h;obtain ⟨p,vs,rfl,hq,hst,hr⟩:=A.own.itemsT (O':=O++Fs1.flatten) hc mz A.disj
    exact ⟨p,rfl,⟨vs,hq⟩,h (Fm K p) H1 Fs1 vs (fun H=>SqT K H p vs) A.same A.go A.newF A7 hq (fun H2 s2=>fX s2 hq) (fun ht H2 s2=>fX s2 (fX sub_hid (hst (by simpa using ht)))) hr⟩
  | _=>exact h.elim
 | er c Γ'=>rw [e] at h;exact h
 | no=>rw [e] at h;exact h
noncomputable def dI (j:Int):Bool:=decide (-(2 ^ 62)<=j)&&decide (j<2 ^ 62)
noncomputable def jU:List D->Option Int
 | [.int j]=>if dI j then some j else none
 | _=>none
noncomputable def qR:List D->Option (Int×Int)
 | [.int i,.int j]=>if dI i&&dI j then some (i,j) else none
 | _=>none
theorem qe {ds:List D} {j:Int} (h:jU ds=some j):ds=[.int j]/\-(2 ^ 62)<=j/\j<2 ^ 62:=by
 unfold jU at h;split at h
 ·split at h
  ·rename_i hc
   cases h;simp only [dI,Bool.and_eq_true,decide_eq_true_eq] at hc
   exact ⟨rfl,hc.1,hc.2⟩
  ·cases h
 ·cases h
theorem we {ds:List D} {i j:Int} (h:qR ds=some (i,j)):ds=[.int i,.int j]/\(-(2 ^ 62)<=i/\i<2 ^ 62/\-(2 ^ 62)<=j/\j<2 ^ 62):=by
 unfold qR at h;split at h
 ·split at h
  ·rename_i hc
   cases h;simp only [dI,Bool.and_eq_true,decide_eq_true_eq] at hc
   exact ⟨rfl,hc.1.1,hc.1.2,hc.2.1,hc.2.2⟩
  ·cases h
 ·cases h
noncomputable def eO (fl:FL):FI:=fun Γ=>(fl Γ).bind fun ps Γ'=>match jU (ps.map (·.d)) with
 | some j=>.ok ⟨cc 0 j.toNat,true⟩ Γ'
 | none=>.no
noncomputable def xr (fl:FL):FI:=fun Γ=>(fl Γ).bind fun ps Γ'=>match qR (ps.map (·.d)) with
 | some (i,j)=>.ok ⟨cc i (j-i).toNat,true⟩ Γ'
 | none=>.no
theorem zV {fl:FL} (h:tI K W (eO fl) σ H R):yM (tA K W fl) σ H R:=by
 obtain ⟨He,O,Fs,Γ,E,h⟩:=h;refine ⟨He,O,Fs,Γ,E,?_⟩
 unfold eO at h
 cases e:fl Γ with
 | ok ps Γ1=>
  rw [e] at h;intro vs H1 Gs Fs1 A;have h:jK K W He O Fs H σ R (match jU (ps.map (·.d)) with | some j=>.ok ⟨cc 0 j.toNat,true⟩ Γ1 | none=>.no):=h
  have rs:=A.reps
  cases e1:jU (ps.map (·.d)) with
  | none=>rw [e1] at h;exact h.elim
  | some j=>
   rw [e1] at h;obtain ⟨e2,h1,h2⟩:=qe e1;rw [e2] at rs;obtain ⟨v,rfl,r⟩:=rs.one
   cases r;exact ⟨j,rfl,h1,h2,h (BM 0 j.toNat) H1 Fs1 (fN 0 j.toNat) (fun _=>True) A.same A.env.dropL (fun a ha=>A.new a (Jv _ ha)) uE trivial (fun _ _=>trivial) (fun _ _ _=>trivial) F6⟩
 | er c Γ'=>rw [e] at h;exact h
 | no=>rw [e] at h;exact h
theorem zU {fl:FL} (h:tI K W (xr fl) σ H R):yL (tA K W fl) σ H R:=by
 obtain ⟨He,O,Fs,Γ,E,h⟩:=h;refine ⟨He,O,Fs,Γ,E,?_⟩
 unfold xr at h
 cases e:fl Γ with
 | ok ps Γ1=>
  rw [e] at h;intro vs H1 Gs Fs1 A;have h:jK K W He O Fs H σ R (match qR (ps.map (·.d)) with | some (i,j)=>.ok ⟨cc i (j-i).toNat,true⟩ Γ1 | none=>.no):=h
  have rs:=A.reps
  cases e1:qR (ps.map (·.d)) with
  | none=>rw [e1] at h;exact h.elim
  | some ij=>
   obtain ⟨i,j⟩:=ij;rw [e1] at h;obtain ⟨e2,hb⟩:=we e1;rw [e2] at rs;obtain ⟨v,u,rfl,r,r'⟩:=rs.two
   cases r
   cases r'
   exact ⟨i,j,rfl,hb,h (BM i (j-i).toNat) H1 Fs1 (fN i (j-i).toNat) (fun _=>True) A.same A.env.dropL (fun a ha=>A.new a (Jv _ ha)) uE trivial (fun _ _=>trivial) (fun _ _ _=>trivial) F6⟩
 | er c Γ'=>rw [e] at h;exact h
 | no=>rw [e] at h;exact h
end
noncomputable def cT (i:Nat) (fc:FB) (fe:F1) (s:Sh):List D->Ev->List D->Out (List D)
 | [],Γ,acc=>.ok acc Γ
 | d::r,Γ,acc=>match fc (Γ.set i (JJ d)) with
  | .ok true Γ1=>(match fe Γ1 with
   | .ok p Γ2=>if T.coer s p&&decide (acc.length<sizeLine) then cT i fc fe s r (Γ2.set i none) (acc++[p.d]) else .no
   | _=>.no)
  | .ok false Γ1=>if acc.length<sizeLine then cT i fc fe s r (Γ1.set i none) acc else .no
  | _=>.no
noncomputable def ax (s:Sh) (i:Nat) (fi:FI) (fc:FB) (fe:F1):F1:=fun Γ=>(fi Γ).bind fun t Γ1=>match cT i fc fe s t.ds (Γ1.set i none) [] with
 | .ok ds Γ2=>if !s.isView&&decide (i<Γ1.length) then .ok ⟨.lst s,.list ds⟩ (Γ2.set i (Γ1.getD i none)) else .no
 | _=>.no
noncomputable abbrev W0:XW:=fun _ _ _=>False
section
variable {K:Fg} {He H H1 H2:Hp} {O G:List Addr} {Fs Fs1 Fs2:List (List Addr)} {σ:St} {Γ Γ1 Γ2:Ev}
theorem Gm {is:List Nat} {σ:St} {j:Nat} (h:j∉is):(bC is σ)[j]?=σ[j]?:=by
 unfold bC;rw [List.getElem?_mapIdx]
 cases σ[j]? with
 | none=>rfl
 | some o=>simp [h]
theorem EF {Γ:Ev} {i j:Nat} {p:PV} (h:(Γ.set i none)[j]?=some (some p)):j≠i/\Γ[j]?=some (some p):=by
 by_cases hj:j=i
 ·subst hj
  rw [getElem?_set] at h;split at h
  ·split at h<;>cases h
  ·rename_i z;exact absurd rfl z
 ·rw [getElem?_set_ne (Ne.symm hj)] at h
  exact ⟨hj,h⟩
theorem EnvOk.shut {i:Nat} (E:EnvOk K He O Fs H σ Γ) (hi:i<Γ.length) :
  ∃F,Fs[i]?=some F/\EnvOk K He (F++O) (Fs.set i []) H (bC [i] σ) (Γ.set i none)/\∀a,a∈F++(Fs.set i []).flatten↔a∈Fs.flatten:=by
 obtain ⟨F,hF⟩:=E.lt hi;have pm:(F++(Fs.set i []).flatten).Perm Fs.flatten:=by simpa using pJ (G:=[]) hF
 have pm2:(F++O++(Fs.set i []).flatten).Perm (O++Fs.flatten):=by
  rw [append_assoc];exact (mQ _ _ _).trans (List.Perm.append_left _ pm)
 refine ⟨F,hF,⟨by rw [yo,length_set];exact E.len1,by rw [length_set,length_set];exact E.len2,E.same,pm2.nodup_iff.mpr E.nd,fun a ha=>E.inH a (pm2.mem_iff.mp ha),fun a ha=>E.fresh a (pm.mem_iff.mp (Jv _ ha)),fun j q hq=>?_⟩,fun a=>pm.mem_iff⟩
 obtain ⟨hj,hq⟩:=EF hq;obtain ⟨w1,v',F',e1,e2,e3⟩:=E.slot j q hq;exact ⟨w1,v',F',by rw [Gm (by simpa using hj)];exact e1,by rw [getElem?_set_ne (Ne.symm hj)];exact e2,e3.mono (Same.refl _) fun a ha=>.inl (pm2.mem_iff.mp ha)⟩
theorem EnvOk.forget {i:Nat} {x:Option V} (E:EnvOk K He O Fs H ((bC [i] σ).set i x) Γ) (hi:i<Γ.length):EnvOk K He O (Fs.set i []) H (bC [i] σ) (Γ.set i none):=by
 obtain ⟨F,hF⟩:=E.lt hi;have pm:(F++(Fs.set i []).flatten).Perm Fs.flatten:=by simpa using pJ (G:=[]) hF
 have sub:∀a∈O++(Fs.set i []).flatten,a∈O++Fs.flatten:=fun a ha=>by
  rcases Jx ha with z | z
  ·exact Jw _ z
  ·exact Jv _ (pm.mem_iff.mp (Jv _ z))
 have l1:=E.len1
 rw [length_set] at l1;obtain ⟨n1,n2,n3⟩:=JC E.nd;have n4:((Fs.set i []).flatten).Nodup:=(JC (pm.nodup_iff.mpr n2)).2.1
 refine ⟨by rw [length_set];exact l1,by rw [length_set,length_set];exact E.len2,E.same,List.nodup_append.mpr ⟨n1,n4,fun a ha b hb=>n3 a ha b (pm.mem_iff.mp (Jv _ hb))⟩,fun a ha=>E.inH a (sub a ha),fun a ha=>E.fresh a (pm.mem_iff.mp (Jv _ ha)),fun j q hq=>?_⟩
 obtain ⟨hj,hq⟩:=EF hq;obtain ⟨w1,v',F',e1,e2,e3⟩:=E.slot j q hq;rw [getElem?_set_ne (Ne.symm hj)] at e1;exact ⟨w1,v',F',e1,by rw [getElem?_set_ne (Ne.symm hj)];exact e2,e3.mono (Same.refl _) fun a ha=>.inl (sub a ha)⟩
theorem EnvOk.reopen {i:Nat} {F:List Addr} (E1:EnvOk K He O Fs1 H1 σ Γ1) (hF:Fs1[i]?=some F) (E2:EnvOk K He (G++(F++O)) Fs2 H2 (bC [i] σ) Γ2) (hl:Γ2.length=Γ1.length) (s:Same H1 H2)
  (hn:Γ2[i]?=some none) (hF2:Fs2[i]?=some []) (new:∀a∈G++Fs2.flatten,a∈Fs1.flatten\/H1 a=none):EnvOk K He (G++O) (Fs2.set i F) H2 σ (Γ2.set i (Γ1.getD i none)):=by
 have pm:((Fs2.set i F).flatten).Perm (F++Fs2.flatten):=by simpa using pJ (G:=F) hF2
 have pm2:(G++O++(Fs2.set i F).flatten).Perm (G++(F++O)++Fs2.flatten):=by
  refine (List.Perm.append_left _ pm).trans ?_
  rw [append_assoc,append_assoc];refine List.Perm.append_left _ ?_
  rw [append_assoc];exact mQ _ _ _
 have hi:i<Γ2.length:=(JD hn).1
 refine ⟨by rw [length_set,hl];exact E1.len1,by rw [length_set,length_set];exact E2.len2,E2.same,pm2.nodup_iff.mpr E2.nd,fun a ha=>E2.inH a (pm2.mem_iff.mp ha),fun a ha=>?_,fun j q hq=>?_⟩
 ·rcases Jx (pm.mem_iff.mp ha) with z | z
  ·exact E1.fresh a (nX hF z)
  ·exact E2.fresh a z
 ·by_cases hj:j=i
  ·subst hj
   rw [getElem?_set_self hi] at hq;have hq:Γ1.getD j none=some q:=Option.some.inj hq
   rw [JA] at hq;have hq':Γ1[j]?=some (some q):=by
    cases e:Γ1[j]? with
    | none=>rw [e] at hq;cases hq
    | some o=>rw [e] at hq;simp only [Option.getD_some] at hq;rw [hq]
   obtain ⟨w1,v',F',e1,e2,e3⟩:=E1.slot j q hq'
   rw [hF] at e2
   cases e2;refine ⟨w1,v',F,e1,getElem?_set_self (by rw [E2.len2];exact hi),e3.mono s fun a ha=>?_⟩
   rcases Jx ha with z | z
   ·rcases Jx z with z | z
    ·exact (new a (Jw _ z)).elim (fun y=>.inl (Jv _ y)) .inr
    ·exact .inl (Jw _ z)
   ·rcases Jx (pm.mem_iff.mp z) with y | y
    ·exact .inl (Jv _ (nX hF y))
    ·exact (new a (Jv _ y)).elim (fun y=>.inl (Jv _ y)) .inr
  ·rw [getElem?_set_ne (Ne.symm hj)] at hq
   obtain ⟨w1,v',F',e1,e2,e3⟩:=E2.slot j q hq;rw [Gm (by simpa using hj)] at e1
   exact ⟨w1,v',F',e1,by rw [getElem?_set_ne (Ne.symm hj)];exact e2,e3.mono (Same.refl _) fun a ha=>.inl (pm2.mem_iff.mp ha)⟩
theorem EnvOk.mutO {p:Addr} {o:HO} {xs:List V} (E:EnvOk K He O Fs H σ Γ) (hp:p∈O) (hl:H p=some (.lst xs)) (hn:He p=none):EnvOk K He O Fs (b9 H p o) σ Γ:=by
 obtain ⟨n1,n2,n3⟩:=JC E.nd;refine ⟨E.len1,E.len2,fun b u e=>?_,E.nd,fun a ha=>?_,E.fresh,fun j q hq=>?_⟩
 ·rw [e9 (vw e hn)]
  exact E.same b u e
 ·by_cases h:a=p
  ·rw [h,g6];exact Option.some_ne_none _
  ·rw [e9 h];exact E.inH a ha
 ·obtain ⟨w1,v',F',e1,e2,e3⟩:=E.slot j q hq
  exact ⟨w1,v',F',e1,e2,e3.mut w1 (Jw _ hp) (fun z=>n3 p hp p (nX e2 z) rfl) hl⟩
end
structure Ic (K:Fg) (He:Hp) (O F:List Addr) (Fs1:List (List Addr)) (H1:Hp) (σ:St) (i:Nat) (s:Sh) (A0:Addr) (n:Nat) (ys:List V) (H:Hp) (Γk:Ev) (Fk Gs:List (List Addr)) (acc:List D):Prop where
 env:EnvOk K He (A0::Gs.flatten++(F++O)) Fk H (bC [i] σ) Γk
 same:Same H1 H
 at_:H A0=some (.lst ys)
 new:∀a∈Gs.flatten++Fk.flatten,a∈Fs1.flatten\/H1 a=none
 l1:ys.length=acc.length
 l2:Gs.length=acc.length
 own:∀(j:Nat) v d G,ys[j]?=some v->acc[j]?=some d->Gs[j]?=some G->Own K (A0::Gs.flatten++(F++O)++Fk.flatten) H s G v d
 noneG:Γk[i]?=some none
 noneF:Fk[i]?=some []
 len:Γk.length=n
theorem vM {α:Type} (Gs:List (List α)) (G:List α):(Gs++[G]).flatten=Gs.flatten++G:=by simp
section
variable {K:Fg} {W:XW} {σ:St} {H:Hp} {Q:VK} {fe:F1} {fc:FB} {fi:FI} {s:Sh} {i:Nat}
theorem FH (h:tE K W (ax s i fi fc fe) σ H Q):iZ [i] (tI K W fi) (dM i) (tT K W0 fc) (tE K W0 fe) σ H Q:=by
 obtain ⟨He,O,Fs,Γ,E,h⟩:=h;refine ⟨He,O,Fs,Γ,E,?_⟩
 unfold ax at h
 cases e:fi Γ with
 | er c Γ'=>rw [e] at h;exact h
 | no=>rw [e] at h;exact h
 | ok t Γ1=>
  rw [e] at h;intro J H1 Fs1 vs P s1 E1 n1 it hP hP1 _ hr A0 hD;have h:Wants K W He O Fs H σ Q (match cT i fc fe s t.ds (Γ1.set i none) [] with | .ok ds Γ2=>if !s.isView&&decide (i<Γ1.length) then .ok ⟨.lst s,.list ds⟩ (Γ2.set i (Γ1.getD i none)) else .no | _=>.no):=h
  cases eg:cT i fc fe s t.ds (Γ1.set i none) [] with
  | er c Γ'=>rw [eg] at h;exact h.elim
  | no=>rw [eg] at h;exact h.elim
  | ok ds' Γ2=>
   rw [eg] at h;have h:Wants K W He O Fs H σ Q (if (!s.isView&&decide (i<Γ1.length))=true then .ok ⟨.lst s,.list ds'⟩ (Γ2.set i (Γ1.getD i none)) else .no):=h
   by_cases hc:(!s.isView&&decide (i<Γ1.length))=true
   case neg=>rw [if_neg hc] at h;exact h.elim
   rw [if_pos hc] at h;simp only [Bool.and_eq_true,decide_eq_true_eq,Bool.not_eq_true'] at hc
   obtain ⟨hsv,hi⟩:=hc;obtain ⟨F,hF,E0,hmem⟩:=E1.shut hi;have hHeD:He A0=none:=E1.same.free hD
   have E0':EnvOk K He (A0::([]:List (List Addr)).flatten++(F++O)) (Fs1.set i []) (b9 H1 A0 (.lst [])) (bC [i] σ) (Γ1.set i none):=
    E0.hide (G:=[A0]) (jP hD) (by simp) (fun a ha=>by simp at ha;rw [ha];exact hD) (fun a ha=>by simp at ha;rw [ha,g6];exact Option.some_ne_none _)
   refine ⟨fun k m ys H'=>m=vs.length-k/\k<=vs.length/\∃Γk Fk Gs acc,Ic K He O F Fs1 H1 σ i s A0 Γ1.length ys H' Γk Fk Gs acc/\cT i fc fe s (t.ds.drop k) Γk acc=.ok ds' Γ2,⟨vs.length,by simp,Nat.zero_le _,Γ1.set i none,Fs1.set i [],[],[],⟨E0',jP hD,g6,fun a ha=>.inl ((hmem a).mp (Jv _ (by simpa using ha))),rfl,rfl,fun j v d G h1=>by simp at h1,getElem?_set_self hi,getElem?_set_self (by rw [E1.len2];exact hi),by rw [length_set]⟩,by simpa using eg⟩,?_⟩
   rintro k m ys H' ⟨rfl,hk,Γk,Fk,Gs,acc,g,eg'⟩
   refine ⟨g.at_,?_⟩
   have hPk:P H':=hP1 H' g.same
   have hlen:vs.length=t.ds.length:=hr.1
   by_cases hlt:k<vs.length
   case neg=>
    have hke:k=vs.length:=by omega
    left
    have:t.ds.drop k=[]:=List.drop_eq_nil_of_le (by omega)
    rw [this] at eg';have eg'':(Out.ok acc Γk:Out (List D))=.ok ds' Γ2:=eg'
    injection eg'' with e1 e2
    subst e1;subst e2;refine ⟨by rw [hke];exact it.stop H' hPk,?_⟩
    have E3:EnvOk K He ((A0::Gs.flatten)++O) (Fk.set i F) H' σ (Γk.set i (Γ1.getD i none)):=
     EnvOk.reopen (G:=A0::Gs.flatten) E1 hF g.env g.len g.same g.noneG g.noneF fun a ha=>by
      rcases Jx ha with z | z
      ·rcases Jy z with z | z
       ·rw [z];exact .inr hD
       ·exact g.new a (Jw _ z)
      ·exact g.new a (Jv _ z)
    have pmF:((Fk.set i F).flatten).Perm (F++Fk.flatten):=by simpa using pJ (G:=F) g.noneF
    obtain ⟨n1',_,n3'⟩:=JC g.env.ndO;refine h (.ref A0) H' (A0::Gs.flatten) (Fk.set i F) ⟨s1.trans g.same,E3,fun a ha=>?_,?_⟩
    ·have up:a∈Fs1.flatten\/H1 a=none->a∈Fs.flatten\/H a=none:=fun z=>z.elim (n1 a) fun y=>.inr (s1.free y)
     rcases Jx ha with z | z
     ·rcases Jy z with z | z
      ·exact up (.inr (by rw [z];exact hD))
      ·exact up (g.new a (Jw _ z))
     ·rcases Jx (pmF.mem_iff.mp z) with y | y
      ·exact up (.inl (nX hF y))
      ·exact up (g.new a (Jv _ y))
    ·refine .lst hsv g.at_ g.l1 g.l2 n1' fun j v d G h1 h2 h3=>(g.own j v d G h1 h2 h3).perm fun a ha=>?_
     rw [append_assoc] at ha ⊢;rcases Jx ha with z | z
     ·exact Jw _ z
     ·refine Jv _ ?_
      rcases Jx z with z | z
      ·exact Jw _ (Jv _ z)
      ·rcases Jx (pmF.mem_iff.mp z) with y | y
       ·exact Jw _ (Jw _ y)
       ·exact Jv _ y
   case pos=>
    right
    have hv:vs[k]?=some vs[k]:=Jz hlt
    have hkd:k<t.ds.length:=by omega
    have hd:t.ds[k]?=some t.ds[k]:=Jz hkd
    have hdr:t.ds.drop k=t.ds[k]::t.ds.drop (k+1):=drop_eq_getElem_cons hkd
    rw [hdr] at eg';generalize hdk:t.ds[k]=d at hd eg'
    generalize hvk:vs[k]=v at hv
    obtain ⟨hgo,hyld⟩:=it.go k H' v hPk hv
    simp only [cT] at eg'
    have hik:i<Γk.length:=by rw [g.len];exact hi
    have rep:Rep K (b8 H' (A0::Gs.flatten++(F++O)++Fk.flatten)) v d:=(hr.2 k v d hv hd).mono (pK g.same fun a ha=>by
     rcases Jx ha with z | z
     ·rcases Jx z with z | z
      ·rcases Jy z with z | z
       ·rw [z];exact .inr hD
       ·exact (g.new a (Jw _ z)).elim (fun y=>.inl (Jv _ y)) .inr
      ·rcases Jx z with z | z
       ·exact .inl (Jv _ (nX hF z))
       ·exact .inl (Jw _ z)
     ·exact (g.new a (Jv _ z)).elim (fun y=>.inl (Jv _ y)) .inr)
    have Ep:EnvOk K He (A0::Gs.flatten++(F++O)) (Fk.set i []) H' ((bC [i] σ).set i (some v)) (Γk.set i (JJ d)):=
     EnvOk.put (G:=[]) (p:=⟨.leaf,d⟩) (v:=v) g.env (.leaf rep) rfl (fun a ha=>by simp at ha) hik
    have hsl:ys.length<sizeLine:=by
     rw [g.l1]
     cases ec:fc (Γk.set i (JJ d)) with
     | no=>rw [ec] at eg';cases eg'
     | er c Γ'=>rw [ec] at eg';cases eg'
     | ok b Γa=>
      rw [ec] at eg'
      cases b with
      | false=>
       dsimp only at eg'
       split at eg'
       ·assumption
       ·cases eg'
      | true=>
       dsimp only at eg'
       split at eg'
       ·split at eg'
        ·rename_i z
         simp only [Bool.and_eq_true,decide_eq_true_eq] at z
         exact z.2
        ·cases eg'
       ·cases eg'
    refine ⟨hgo,hsl,fun x Hx hx=>?_⟩
    obtain ⟨rfl,rfl⟩:=hyld x Hx hx;show Ia (bC [i] σ) ((bC [i] σ).set i (some x))/\_
    refine ⟨⟨by rw [length_set],fun j u hj=>?_⟩,?_⟩
    ·have:=(Cr hj).1
     rw [getElem?_set_ne (by simp at this;exact fun z=>this z.symm)]
     exact hj
    refine ⟨He,_,_,_,Ep,?_⟩
    cases ec:fc (Γk.set i (JJ d)) with
    | no=>rw [ec] at eg';cases eg'
    | er c Γ'=>rw [ec] at eg';cases eg'
    | ok b Γa=>
     rw [ec] at eg';intro H3 Fs3 s3 E3 n3;have lena:Γa.length=Γ1.length:=by
      have:=E3.len1
      rw [length_set,yo,E1.len1] at this;exact this.symm
     have n3':∀a∈Fs3.flatten,a∈Fs1.flatten\/H1 a=none:=fun a ha=>(n3 a ha).elim (fun z=>by
      have pm:((Fk.set i []).flatten).Perm Fk.flatten:=by simpa using pJ (G:=[]) g.noneF
      exact g.new a (Jv _ (pm.mem_iff.mp z))) fun z=>.inr (g.same.free z)
     cases b with
     | false=>
      dsimp only at eg'
      split at eg'
      case isFalse=>cases eg'
      refine jr ⟨vs.length-(k+1),by omega,rfl,hlt,Γa.set i none,Fs3.set i [],Gs,acc,⟨E3.forget (by rw [lena];exact hi),g.same.trans s3,s3 _ _ g.at_,fun a ha=>?_,g.l1,g.l2,fun j v d G h1 h2 h3=>(g.own j v d G h1 h2 h3).mono s3 fun a ha=>?_,getElem?_set_self (by rw [lena];exact hi),getElem?_set_self (by rw [E3.len2,lena];exact hi),by rw [length_set];exact lena⟩,eg'⟩
      ·rcases Jx ha with z | z
       ·exact g.new a (Jw _ z)
       ·obtain ⟨F3,hF3⟩:=E3.lt (i:=i) (by rw [lena];exact hi)
        have pm:(F3++(Fs3.set i []).flatten).Perm Fs3.flatten:=by simpa using pJ (G:=[]) hF3
        exact n3' a (pm.mem_iff.mp (Jv _ z))
      ·rcases Jx ha with z | z
       ·exact .inl (Jw _ z)
       ·obtain ⟨F3,hF3⟩:=E3.lt (i:=i) (by rw [lena];exact hi)
        have pm:(F3++(Fs3.set i []).flatten).Perm Fs3.flatten:=by simpa using pJ (G:=[]) hF3
        have pm2:((Fk.set i []).flatten).Perm Fk.flatten:=by simpa using pJ (G:=[]) g.noneF
        exact (n3 a (pm.mem_iff.mp (Jv _ z))).elim (fun y=>.inl (Jv _ (pm2.mem_iff.mp y))) .inr
     | true=>
      refine j9 ⟨He,_,_,_,E3,?_⟩
      dsimp only at eg'
      cases ee:fe Γa with
      | no=>rw [ee] at eg';cases eg'
      | er c Γ'=>rw [ee] at eg';cases eg'
      | ok p Γb=>
       rw [ee] at eg';dsimp only at eg'
       split at eg'
       case isFalse=>cases eg'
       rename_i hco;simp only [Bool.and_eq_true,decide_eq_true_eq] at hco
       obtain ⟨hco,_⟩:=hco;intro u H4 G Fs4 A4;have lenb:Γb.length=Γ1.length:=by
        have:=A4.env.len1
        rw [length_set,yo,E1.len1] at this;exact this.symm
       have hib:i<Γb.length:=by rw [lenb];exact hi
       have at4:H4 A0=some (.lst ys):=A4.same _ _ (s3 _ _ g.at_)
       have s14:Same H1 H4:=(g.same.trans s3).trans A4.same
       have pmk:((Fk.set i []).flatten).Perm Fk.flatten:=by simpa using pJ (G:=[]) g.noneF
       obtain ⟨F4,hF4⟩:=A4.env.lt hib;have pm4:(F4++(Fs4.set i []).flatten).Perm Fs4.flatten:=by simpa using pJ (G:=[]) hF4
       have new4:∀a∈G++Fs4.flatten,a∈Fs1.flatten\/H1 a=none:=fun a ha=>(A4.new a ha).elim (n3' a) fun z=>.inr ((g.same.trans s3).free z)
       have hG':∀a∈aY s G,a∈G:=fun a ha=>GI ha
       obtain ⟨k1,k2,k3⟩:=JC A4.env.ndO;have ndk:(aY s G).Nodup:=by
        cases s<;>first | exact nodup_nil | exact k1
       have pmO:(A0::(Gs++[aY s G]).flatten++(F++O)).Perm (aY s G++(A0::Gs.flatten++(F++O))):=by
        rw [vM];show (A0::((Gs.flatten++aY s G)++(F++O))).Perm _
        refine List.Perm.trans ?_ List.perm_middle.symm
        refine List.Perm.cons _ ?_
        rw [append_assoc];exact mQ _ _ _
       have E5:EnvOk K He (aY s G++(A0::Gs.flatten++(F++O))) Fs4 H4 ((bC [i] σ).set i (some x)) Γb:=A4.env.drop (fun a ha=>by
        rcases Jx ha with z | z
        ·exact Jw _ (hG' a z)
        ·exact Jv _ z) (List.nodup_append.mpr ⟨ndk,k2,fun a ha b hb=>k3 a (hG' a ha) b hb⟩)
       have E6:=(E5.perm pmO).forget hib
       have hDin:A0∈A0::(Gs++[aY s G]).flatten++(F++O):=mem_cons_self
       have E7:=E6.mutO (o:=.lst (ys++[u])) hDin at4 hHeD
       have subH:∀a∈A0::(Gs++[aY s G]).flatten++(F++O)++(Fs4.set i []).flatten,a∈G++(A0::Gs.flatten++(F++O))++Fs4.flatten:=fun a ha=>by
        rcases Jx ha with z | z
        ·rcases Jx (pmO.mem_iff.mp z) with y | y
         ·exact Jw _ (Jw _ (hG' a y))
         ·exact Jw _ (Jv _ y)
        ·exact Jv _ (pm4.mem_iff.mp (Jv _ z))
       have Dnot:∀{j:Nat} {Gj:List Addr},Gs[j]?=some Gj->A0∉Gj:=fun {j Gj} hj z=>by
        have nd:=g.env.ndO
        exact (List.nodup_cons.mp nd).1 (Jw _ (nX hj z))
       refine ⟨at4,vs.length-(k+1),by omega,rfl,hlt,Γb.set i none,Fs4.set i [],Gs++[aY s G],acc++[p.d],⟨E7,fun b o hb=>?_,g6,fun a ha=>?_,by simp [g.l1],by simp [g.l2],fun j w d' G' h1 h2 h3=>?_,getElem?_set_self hib,getElem?_set_self (by rw [A4.env.len2];exact hib),by rw [length_set];exact lenb⟩,eg'⟩
       ·rw [e9 (vw hb hD)]
        exact s14 b o hb
       ·rcases Jx ha with z | z
        ·rw [vM] at z
         rcases Jx z with z | z
         ·exact g.new a (Jw _ z)
         ·exact new4 a (Jw _ (hG' a z))
        ·exact new4 a (Jv _ (pm4.mem_iff.mp (Jv _ z)))
       ·by_cases hj:j<ys.length
        ·rw [getElem?_append_left hj] at h1
         rw [getElem?_append_left (by rw [<-g.l1];exact hj)] at h2
         rw [getElem?_append_left (by rw [g.l2,<-g.l1];exact hj)] at h3
         have o1:=g.own j w d' G' h1 h2 h3
         have o2:=o1.mono (O':=A0::(Gs++[aY s G]).flatten++(F++O)++(Fs4.set i []).flatten) (s3.trans A4.same) fun a ha=>by
          have up:a∈G++Fs4.flatten->a∈A0::Gs.flatten++(F++O)++Fk.flatten\/Hx a=none:=fun z=>(A4.new a z).elim (fun y=>(n3 a y).elim (fun y=>.inl (Jv _ (pmk.mem_iff.mp y))) .inr) fun y=>.inr (s3.free y)
          rcases Jx (subH a ha) with z | z
          ·rcases Jx z with z | z
           ·exact up (Jw _ z)
           ·exact .inl (Jw _ z)
          ·exact up (Jv _ z)
         exact o2.mut hsv (Jw _ hDin) (Dnot h3) at4
        ·have hj':j=ys.length:=by
          have:=(JD h1).1
          rw [length_append,length_singleton] at this;omega
         subst hj'
         rw [getElem?_append_right (JH _),Nat.sub_self] at h1;rw [getElem?_append_right (by rw [g.l1];exact JH _),show ys.length-acc.length=0 by rw [g.l1];exact Nat.sub_self _] at h2
         rw [getElem?_append_right (by rw [g.l2,g.l1];exact JH _),show ys.length-Gs.length=0 by rw [g.l2,g.l1];exact Nat.sub_self _] at h3
         cases h1
         cases h2
         cases h3;have o3:=A4.own.coer (s:=s) (O':=A0::(Gs++[aY s G]).flatten++(F++O)++(Fs4.set i []).flatten) hco subH fun a ha hO=>by
          cases s with
          | leaf=>
           exfalso
           have hO':a∈(A0::Gs.flatten++(F++O))++(Fs4.set i []).flatten:=by
            rw [vM] at hO;simpa [aY] using hO
           rcases Jx hO' with z | z
           ·exact k3 a ha a z rfl
           ·have nd:=A4.env.nd
            exact (JC nd).2.2 a (Jw _ ha) a (pm4.mem_iff.mp (Jv _ z)) rfl
          | view=>cases hsv
          | lst s=>exact ha
          | tup ss=>exact ha
         refine o3.mut hsv (Jw _ hDin) (fun z=>?_) at4
         exact k3 A0 (hG' A0 z) A0 mem_cons_self rfl
end
inductive fJ where
 | nx (e:Ev) | bk (e:Ev) | ct (e:Ev) | rt (p:PV) | er (c:Str) (e:Ev) | no
abbrev FS:=Ev->fJ
structure RetOk (K:Fg) (He:Hp) (O:List Addr) (p:PV) (v:V) (H':Hp) (G:List Addr):Prop where
 same:Same He H'
 fresh:∀a∈G,He a=none
 inH:∀a∈G,H' a≠none
 nd:G.Nodup
 own:Own K (G++O) H' p.s G v p.d
 nv:p.s.isView=false
noncomputable def cC (K:Fg) (W:XW) (He:Hp) (O:List Addr) (D:fP):fJ->Prop
 | .nx Γ'=>∀σ' H' Fs',EnvOk K He O Fs' H' σ' Γ'->D.nx σ' H'
 | .bk Γ'=>∀σ' H' Fs',EnvOk K He O Fs' H' σ' Γ'->D.bk σ' H'
 | .ct Γ'=>∀σ' H' Fs',EnvOk K He O Fs' H' σ' Γ'->D.ct σ' H'
 | .rt p=>∀v H' G,RetOk K He O p v H' G->D.rt v H'
 | .er c Γ'=>∀σ' H' Fs',EnvOk K He O Fs' H' σ' Γ'->W c σ' H'
 | .no=>False
noncomputable def tS (K:Fg) (W:XW) (g:FS):TS:=fun D σ H=>∃He O Fs Γ,EnvOk K He O Fs H σ Γ/\cC K W He O D (g Γ)
noncomputable def aG:FS:=fun Γ=>.nx Γ
noncomputable def aq (g1 g2:FS):FS:=fun Γ=>match g1 Γ with
 | .nx Γ'=>g2 Γ'
 | o=>o
noncomputable def jO (f:F1) (k:PV->Ev->fJ):FS:=fun Γ=>match f Γ with
 | .ok p Γ'=>k p Γ'
 | .er c Γ'=>.er c Γ'
 | .no=>.no
noncomputable def bL (c:FB) (a b:FS):FS:=fun Γ=>match c Γ with
 | .ok t Γ'=>if t then a Γ' else b Γ'
 | .er c Γ'=>.er c Γ'
 | .no=>.no
section
variable {K:Fg} {W:XW} {σ:St} {H:Hp} {D:fP} {fa fb:F1} {ga gb:FB} {g1 g2:FS}
theorem wq (h:tS K W aG D σ H):pX D σ H:=by
 obtain ⟨He,O,Fs,Γ,E,h⟩:=h;exact h σ H Fs E
theorem zK (h:tS K W (aq g1 g2) D σ H):hU (tS K W g1) (tS K W g2) D σ H:=by
 obtain ⟨He,O,Fs,Γ,E,h⟩:=h;refine ⟨He,O,Fs,Γ,E,?_⟩
 unfold aq at h
 cases e:g1 Γ with
 | nx Γ'=>rw [e] at h;exact fun σ' H' Fs' E'=>⟨He,O,Fs',Γ',E',h⟩
 | bk Γ'=>rw [e] at h;exact h
 | ct Γ'=>rw [e] at h;exact h
 | rt p=>rw [e] at h;exact h
 | er c Γ'=>rw [e] at h;exact h
 | no=>rw [e] at h;exact h
theorem iY {k:PV->Ev->fJ} {R:VK} (h:tS K W (jO fa k) D σ H)
  (hk:∀He O Fs Γ1 p v H1 G Fs1,EnvOk K He O Fs H σ Γ1\/True->(∀a∈G,He a=none)->Aft K He O Fs H σ Γ1 p v H1 G Fs1->cC K W He O D (k p Γ1)->R v H1):tE K W fa σ H R:=by
 obtain ⟨He,O,Fs,Γ,E,h⟩:=h;refine ⟨He,O,Fs,Γ,E,?_⟩
 unfold jO at h
 cases e:fa Γ with
 | ok p Γ1=>rw [e] at h;exact fun v H' G Fs' A=>hk He O Fs Γ1 p v H' G Fs' (.inr trivial) (A.freshG E) A h
 | er c Γ1=>rw [e] at h;exact fun H' Fs' s E'=>h σ H' Fs' E'
 | no=>rw [e] at h;exact h
theorem zS (h:tS K W (bL ga g1 g2) D σ H):vV (tT K W ga) (tS K W g1) (tS K W g2) D σ H:=by
 obtain ⟨He,O,Fs,Γ,E,h⟩:=h;refine ⟨He,O,Fs,Γ,E,?_⟩
 unfold bL at h
 cases e:ga Γ with
 | ok b Γ1=>
  rw [e] at h;intro H' Fs' s E' n
  cases b with
  | true=>exact j9 ⟨He,O,Fs',Γ1,E',h⟩
  | false=>exact jr ⟨He,O,Fs',Γ1,E',h⟩
 | er c Γ1=>rw [e] at h;exact fun H' Fs' s E'=>h σ H' Fs' E'
 | no=>rw [e] at h;exact h
noncomputable def aL (f:F1):FS:=jO f fun p _=>if p.s.isView then (if bQ p.d then .rt ⟨.leaf,p.d⟩ else .no) else .rt p
theorem zL (h:tS K W (aL fa) D σ H):sV (tE K W fa) D σ H:=by
 refine iY h fun He O Fs Γ1 p v H1 G Fs1 _ fr A w=>?_
 obtain ⟨n1,n2,n3⟩:=JC A.env.ndO;have inH:∀a∈G,H1 a≠none:=fun a ha=>A.env.inH a (Jw _ (Jw _ ha))
 cases hv:p.s.isView with
 | false=>
  have w:cC K W He O D (.rt p):=by simpa [hv] using w
  exact w v H1 G ⟨A.env.same,fr,inH,n1,A.own.perm fun a ha=>Jw _ ha,hv⟩
 | true=>
  cases hs:bQ p.d with
  | false=>rw [hv,hs] at w;exact w.elim
  | true=>
   have w:cC K W He O D (.rt ⟨.leaf,p.d⟩):=by simpa [hv,hs] using w
   exact w v H1 [] ⟨A.env.same,(fun _ z=>nomatch z),(fun _ z=>nomatch z),nodup_nil,.leaf (A.own.rep.sc hs).rep,rfl⟩
noncomputable def ay (own:Bool) (i:Nat) (f:F1):FS:=jO f fun p Γ=>if i<Γ.length then (if own&&!p.s.isView then .nx (Γ.set i (some p)) else if T.coer .leaf p then .nx (Γ.set i (JJ p.d)) else .no) else .no
theorem tM {own:Bool} {i:Nat} (h:tS K W (ay own i fa) D σ H):mx (tE K W fa) (dM i) D σ H:=by
 refine iY h fun He O Fs Γ1 p v H1 G Fs1 _ fr A w=>?_
 show D.nx (σ.set i (some v)) H1
 have w:cC K W He O D (if i<Γ1.length then (if own&&!p.s.isView then .nx (Γ1.set i (some p)) else if T.coer .leaf p then .nx (Γ1.set i (JJ p.d)) else .no) else .no):=w
 by_cases hi:i<Γ1.length
 case neg=>rw [if_neg hi] at w;exact w.elim
 rw [if_pos hi] at w
 cases ho:(own&&!p.s.isView) with
 | true=>
  rw [ho] at w;have hv:p.s.isView=false:=by
   simp only [Bool.and_eq_true,Bool.not_eq_true'] at ho
   exact ho.2
  exact w _ H1 _ (EnvOk.put A.env A.own hv fr hi)
 | false=>
  rw [ho] at w
  cases hc:T.coer .leaf p with
  | false=>rw [hc] at w;exact w.elim
  | true=>
   rw [hc] at w;have o:=A.own.coer (s:=.leaf) (O':=O++Fs1.flatten) hc mz fun a ha z=>absurd z (A.disj a ha)
   exact w _ H1 _ (EnvOk.put (G:=[]) (p:=⟨.leaf,p.d⟩) (v:=v) A.go o rfl (fun a ha=>by simp at ha) hi)
noncomputable def fx (f:F1):FS:=jO f fun _ Γ=>.nx Γ
theorem wB (h:tS K W (fx fa) D σ H):fR (tE K W fa) D σ H:=
 iY h fun He O Fs Γ1 p v H1 G Fs1 _ fr A w=>w σ H1 Fs1 A.go
theorem B2 {α:Type} {l:List α} {i:Nat} {x:α} (h:l[i]?=some x):l.set i x=l:=by
 apply ext_getElem?
 intro j;by_cases hj:j=i
 ·subst hj
  rw [getElem?_set_self (JD h).1,h]
 ·rw [getElem?_set_ne (Ne.symm hj)]
noncomputable def xZ (i:Nat) (p:PV) (Γ:Ev):fJ:=match Γ[i]? with
 | some (some ⟨.lst s,.list ds⟩)=>if T.coer s p&&decide (ds.length<sizeLine) then .nx (Γ.set i (some ⟨.lst s,.list (ds++[p.d])⟩)) else .no
 | _=>.no
noncomputable def ie:Option (Option PV)->Bool
 | some (some ⟨.lst _,.list _⟩)=>true
 | _=>false
noncomputable def aE (i:Nat) (f:F1):FS:=fun Γ=>if ie Γ[i]? then jO f (xZ i) Γ else .no
theorem xY {He H:Hp} {O G:List Addr} {Fs:List (List Addr)} {Γ:Ev} {i:Nat} {s:Sh} {ds:List JI} {p:PV} {v:V} (E:EnvOk K He (G++O) Fs H σ Γ) (o:Own K (G++O++Fs.flatten) H p.s G v p.d) (fr:∀a∈G,He a=none)
  (h:Γ[i]?=some (some ⟨.lst s,.list ds⟩)) (hc:T.coer s p=true) :
  ∃l vs,σ[i]?=some (some (.ref l))/\H l=some (.lst vs)/\vs.length=ds.length/\∃Fs',EnvOk K He O Fs' (b9 H l (.lst (vs++[v]))) σ (Γ.set i (some ⟨.lst s,.list (ds++[p.d])⟩)):=by
 obtain ⟨hv,u,F,h1,E1,o1,sub⟩:=E.move h;have hi:i<Γ.length:=(JD h).1
 cases o1 with
 | @lst _ l vs _ Fs0 hsv hp hl hf nd q=>
  refine ⟨l,vs,h1,hp,hl,Fs.set i (l::(Fs0++[aY s G]).flatten),?_⟩
  have hlF:l∈Fs.flatten:=sub l (Jw _ mem_cons_self)
  have hHe:He l=none:=E.fresh l hlF
  have hG':∀a∈aY s G,a∈G:=fun a ha=>GI ha
  obtain ⟨k1,k2,k3⟩:=JC E1.ndO;obtain ⟨g1,g2,g3⟩:=JC k2;have ndk:(aY s G).Nodup:=by
   cases s<;>first | exact nodup_nil | exact g1
  have pmO:((l::(Fs0++[aY s G]).flatten)++O).Perm ((l::Fs0.flatten)++(aY s G++O)):=by
   rw [vM];show (l::((Fs0.flatten++aY s G)++O)).Perm (l::(Fs0.flatten++(aY s G++O)))
   rw [append_assoc]
  have E2:EnvOk K He ((l::Fs0.flatten)++(aY s G++O)) (Fs.set i []) H σ (Γ.set i none):=E1.drop (fun a ha=>by
   rcases Jx ha with z | z
   ·exact Jw _ z
   ·refine Jv _ ?_
    rcases Jx z with z | z
    ·exact Jw _ (hG' a z)
    ·exact Jv _ z) (List.nodup_append.mpr ⟨k1,List.nodup_append.mpr ⟨ndk,g2,fun a ha b hb=>g3 a (hG' a ha) b hb⟩,fun a ha b hb=>k3 a ha b (by
     rcases Jx hb with z | z
     ·exact Jw _ (hG' b z)
     ·exact Jv _ z)⟩)
  have E3:=E2.perm pmO
  have hlin:l∈(l::(Fs0++[aY s G]).flatten)++O:=mem_cons_self
  have E4:=E3.mutO (o:=.lst (vs++[v])) hlin hp hHe
  have lnG:l∉G:=fun z=>k3 l mem_cons_self l (Jw _ z) rfl
  have subH:∀a∈(l::(Fs0++[aY s G]).flatten)++O++(Fs.set i []).flatten,a∈(l::Fs0.flatten)++(G++O)++(Fs.set i []).flatten:=fun a ha=>by
   rcases Jx ha with z | z
   ·refine Jw _ ?_
    rcases Jx (pmO.mem_iff.mp z) with y | y
    ·exact Jw _ y
    ·refine Jv _ ?_
     rcases Jx y with y | y
     ·exact Jw _ (hG' a y)
     ·exact Jv _ y
   ·exact Jv _ z
  have ownL:Own K ((l::(Fs0++[aY s G]).flatten)++O++(Fs.set i []).flatten) (b9 H l (.lst (vs++[v]))) (.lst s) (l::(Fs0++[aY s G]).flatten) (.ref l) (.list (ds++[p.d])):=by
   refine .lst hsv g6 (by simp [hl]) (by simp [hf]) ?_ fun j w d' G' e1 e2 e3=>?_
   ·have nd2:=E3.ndO
    exact (JC nd2).1
   ·by_cases hj:j<vs.length
    ·rw [getElem?_append_left hj] at e1
     rw [getElem?_append_left (by omega)] at e2
     rw [getElem?_append_left (by omega)] at e3
     exact ((q j w d' G' e1 e2 e3).perm subH).mut hsv (Jw _ hlin) (fun z=>(List.nodup_cons.mp nd).1 (nX e3 z)) hp
    ·have hj':j=vs.length:=by
      have:=(JD e1).1
      rw [length_append,length_singleton] at this;omega
     subst hj'
     rw [getElem?_append_right (JH _),Nat.sub_self] at e1;rw [getElem?_append_right (by omega),show vs.length-ds.length=0 by omega] at e2
     rw [getElem?_append_right (by omega),show vs.length-Fs0.length=0 by omega] at e3
     cases e1
     cases e2
     cases e3;have osub:∀a∈(l::(Fs0++[aY s G]).flatten)++O++(Fs.set i []).flatten,a∈G++O++Fs.flatten:=fun a ha=>by
      rcases Jx (subH a ha) with z | z
      ·rcases Jx z with z | z
       ·exact Jv _ (sub a (Jw _ z))
       ·exact Jw _ z
      ·exact Jv _ (sub a (Jv _ z))
     have o3:=o.coer (s:=s) hc osub fun a ha hO=>by
      cases s with
      | leaf=>
       exfalso
       rw [vM] at hO;have hO':a∈(l::Fs0.flatten)++O++(Fs.set i []).flatten:=by simpa [aY] using hO
       have ndE:=E.nd
       rw [append_assoc] at ndE;have dis:=(JC ndE).2.2
       rcases Jx hO' with z | z
       ·rcases Jx z with z | z
        ·exact dis a ha a (Jv _ (sub a (Jw _ z))) rfl
        ·exact dis a ha a (Jw _ z) rfl
       ·exact dis a ha a (Jv _ (sub a (Jv _ z))) rfl
      | view=>cases hsv
      | lst s=>exact ha
      | tup ss=>exact ha
     exact o3.mut hsv (Jw _ hlin) (fun z=>lnG (hG' l z)) hp
  have fin:=EnvOk.put (i:=i) (p:=⟨.lst s,.list (ds++[p.d])⟩) (v:=.ref l) E4 ownL rfl (fun a ha=>?_) (by rw [length_set];exact hi)
  ·rw [set_set,set_set,B2 h1] at fin
   exact fin
  ·rcases Jy ha with z | z
   ·rw [z];exact hHe
   ·rw [vM] at z
    rcases Jx z with z | z
    ·exact E.fresh a (sub a (Jw _ (JB _ z)))
    ·exact fr a (hG' a z)
theorem sY {QL:List V->Hp->Prop} (h1:tE K W fa σ H fun v H'=>QL [v] H'):tA K W (ab fa af) σ H QL:=by
 obtain ⟨He,O,Fs,Γ,E,h1⟩:=h1;refine ⟨He,O,Fs,Γ,E,?_⟩
 unfold ab af
 cases e:fa Γ with
 | ok p Γ'=>
  rw [e] at h1;intro vs H' Gs Fs' A
  match vs,Gs,A.len1,A.len2 with
  | [v],[G],_,_=>exact h1 v H' G Fs' ⟨A.same,by simpa using A.env,by simpa using A.new,by simpa using A.own 0 v p G rfl rfl rfl⟩
 | er c Γ'=>rw [e] at h1;exact h1
 | no=>rw [e] at h1;exact h1
theorem rC {o:Option (Option PV)} (h:ie o=true):∃s ds,o=some (some ⟨.lst s,.list ds⟩):=by
 unfold ie at h;split at h
 ·exact ⟨_,_,rfl⟩
 ·cases h
theorem EnvOk.ownL {He H:Hp} {O:List Addr} {Fs:List (List Addr)} {Γ:Ev} {i:Nat} {s:Sh} {ds:List JI} (E:EnvOk K He O Fs H σ Γ) (h:Γ[i]?=some (some ⟨.lst s,.list ds⟩)):∃l vs,σ[i]?=some (some (.ref l))/\H l=some (.lst vs)/\vs.length=ds.length:=by
 obtain ⟨hv,v,F,h1,h2,h3⟩:=E.slot i _ h
 cases h3 with
 | @lst _ l vs _ Fs0 hsv hp hl hf nd q=>exact ⟨l,vs,h1,hp,hl⟩
theorem qU {i:Nat} (h:tS K W (aE i fa) D σ H):fR (EK K "list" lg (cY i) (tA K W (ab fa af))) D σ H:=by
 obtain ⟨He,O,Fs,Γ,E,h⟩:=h;unfold aE at h
 cases ho:ie Γ[i]? with
 | false=>rw [ho] at h;exact h.elim
 | true=>
  rw [ho] at h;obtain ⟨s,ds,e0⟩:=rC ho;obtain ⟨l,vs,h1,h2,h3⟩:=E.ownL e0;refine ⟨.ref l,h1,.inl ⟨rfl,vs,.of h2⟩,sY (iY (D:=D) ⟨He,O,Fs,Γ,E,h⟩ fun He O Fs Γ1 p v H1 G Fs1 _ fr A w=>?_)⟩
  unfold xZ at w;split at w
  ·rename_i s1 ds1 e1
   cases hc:(T.coer s1 p&&decide (ds1.length<sizeLine)) with
   | false=>rw [hc] at w;exact w.elim
   | true=>
    rw [hc] at w;simp only [Bool.and_eq_true,decide_eq_true_eq] at hc
    obtain ⟨l1,vs1,q1,q2,q3,Fs',E'⟩:=xY A.env A.own fr e1 hc.1;rw [h1] at q1
    cases q1;exact ⟨l,vs1,v,rfl,rfl,q2,by rw [q3];exact hc.2,w σ _ Fs' E'⟩
  ·exact w.elim
noncomputable def cE (i:Nat) (body:FS):List JI->Ev->fJ
 | [],Γ=>.nx Γ
 | d::r,Γ=>if i<Γ.length then (match body (Γ.set i (JJ d)) with
  | .nx Γ'=>cE i body r Γ'
  | .ct Γ'=>cE i body r Γ'
  | .bk Γ'=>.nx Γ'
  | .rt p=>.rt p
  | .er c Γ'=>.er c Γ'
  | .no=>.no) else .no
noncomputable def dW (i:Nat) (fi:FI) (body:FS):FS:=fun Γ=>match fi Γ with
 | .ok t Γ1=>if t.st then cE i body t.ds Γ1 else .no
 | .er c Γ1=>.er c Γ1
 | .no=>.no
theorem EnvOk.rebase {He H:Hp} {O:List Addr} {Fs:List (List Addr)} {Γ:Ev} (E:EnvOk K He O Fs H σ Γ):EnvOk K (b8 H Fs.flatten) O Fs H σ Γ/\Same He (b8 H Fs.flatten):=
 ⟨⟨E.len1,E.len2,hid_le,E.nd,E.inH,fun a ha=>by unfold b8;rw [if_pos ha],E.slot⟩,fun b o e=>vH (E.same b o e) fun z=>by have:=E.fresh b z;rw [e] at this;cases this⟩
theorem EnvOk.unbase {He He' H:Hp} {O:List Addr} {Fs:List (List Addr)} {Γ:Ev} (E:EnvOk K He' O Fs H σ Γ) (s:Same He He'):EnvOk K He O Fs H σ Γ:=
 ⟨E.len1,E.len2,s.trans E.same,E.nd,E.inH,fun a ha=>s.free (E.fresh a ha),E.slot⟩
theorem RetOk.unbase {He He' H:Hp} {O G:List Addr} {p:PV} {v:V} (r:RetOk K He' O p v H G) (s:Same He He'):RetOk K He O p v H G:=
 ⟨s.trans r.same,fun a ha=>s.free (r.fresh a ha),r.inH,r.nd,r.own,r.nv⟩
theorem zW {i:Nat} {fi:FI} {body:FS} (h:tS K W (dW i fi body) D σ H):vW (tI K W fi) (dM i) (tS K W body) D σ H:=by
 obtain ⟨He,O,Fs,Γ,E,h⟩:=h;refine ⟨He,O,Fs,Γ,E,?_⟩
 unfold dW at h
 cases e:fi Γ with
 | er c Γ1=>rw [e] at h;exact fun H' Fs' s E'=>h σ H' Fs' E'
 | no=>rw [e] at h;exact h
 | ok t Γ1=>
  rw [e] at h;intro J H1 Fs1 vs P s1 E1 n1 it hP hP1 hst hr;have h:cC K W He O D (if t.st then cE i body t.ds Γ1 else .no):=h
  cases ht:t.st with
  | false=>rw [ht] at h;exact h.elim
  | true=>
   rw [ht] at h;have h:cC K W He O D (cE i body t.ds Γ1):=h
   obtain ⟨E1',sHe⟩:=E1.rebase;have hlen:vs.length=t.ds.length:=hr.1
   refine ⟨fun k m σ' H'=>m=vs.length-k/\k<=vs.length/\∃Γk Fk,EnvOk K (b8 H1 Fs1.flatten) O Fk H' σ' Γk/\cC K W He O D (cE i body (t.ds.drop k) Γk),⟨vs.length,by simp,Nat.zero_le _,Γ1,Fs1,E1',by simpa using h⟩,?_⟩
   rintro k m σ' H' ⟨rfl,hk,Γk,Fk,Ek,hw⟩
   have hPk:P H':=hst ht H' Ek.same
   by_cases hlt:k<vs.length
   case neg=>
    left
    have hke:k=vs.length:=by omega
    have:t.ds.drop k=[]:=List.drop_eq_nil_of_le (by omega)
    rw [this] at hw;exact ⟨by rw [hke];exact it.stop H' hPk,hw σ' H' Fk (Ek.unbase sHe)⟩
   case pos=>
    right
    have hv:vs[k]?=some vs[k]:=Jz hlt
    have hkd:k<t.ds.length:=by omega
    have hd:t.ds[k]?=some t.ds[k]:=Jz hkd
    have hdr:t.ds.drop k=t.ds[k]::t.ds.drop (k+1):=drop_eq_getElem_cons hkd
    rw [hdr] at hw;generalize hdk:t.ds[k]=d at hd hw
    generalize hvk:vs[k]=v at hv
    obtain ⟨hgo,hyld⟩:=it.go k H' v hPk hv
    simp only [cE] at hw
    by_cases hi:i<Γk.length
    case neg=>rw [if_neg hi] at hw;exact hw.elim
    rw [if_pos hi] at hw;have rep:Rep K (b8 H' (O++Fk.flatten)) v d:=by
     refine (hr.2 k v d hv hd).mono fun b o hb=>?_
     have hb1:b8 H1 Fs1.flatten b=some o:=sub_hid b o hb
     have hbO:b∉O:=fun z=>by
      unfold b8 at hb;rw [if_pos (Jw _ z)] at hb
      cases hb
     have hbF:b∉Fk.flatten:=fun z=>by
      have:=Ek.fresh b z
      rw [hb1] at this
      cases this
     exact vH (Ek.same b o hb1) fun z=>(Jx z).elim hbO hbF
    have Ep:EnvOk K (b8 H1 Fs1.flatten) O (Fk.set i []) H' (σ'.set i (some v)) (Γk.set i (JJ d)):=
     EnvOk.put (G:=[]) (p:=⟨.leaf,d⟩) (v:=v) Ek (.leaf rep) rfl (fun a ha=>by simp at ha) hi
    refine ⟨hgo,fun σ2 H2=>∃Γk Fk,EnvOk K (b8 H1 Fs1.flatten) O Fk H2 σ2 Γk/\cC K W He O D (cE i body (t.ds.drop (k+1)) Γk),fun σ2 H2 q=>⟨vs.length-(k+1),by omega,rfl,hlt,q⟩,fun x Hx hx=>?_⟩
    obtain ⟨rfl,rfl⟩:=hyld x Hx hx;show tS K W body _ (σ'.set i (some x)) Hx
    refine ⟨b8 H1 Fs1.flatten,O,_,_,Ep,?_⟩
    cases eb:body (Γk.set i (JJ d)) with
    | nx Γ'=>rw [eb] at hw;exact fun σ2 H2 F2 E2=>⟨Γ',F2,E2,hw⟩
    | ct Γ'=>rw [eb] at hw;exact fun σ2 H2 F2 E2=>⟨Γ',F2,E2,hw⟩
    | bk Γ'=>rw [eb] at hw;exact fun σ2 H2 F2 E2=>hw σ2 H2 F2 (E2.unbase sHe)
    | rt p=>rw [eb] at hw;exact fun u H2 G r=>hw u H2 G (r.unbase sHe)
    | er c Γ'=>rw [eb] at hw;exact fun σ2 H2 F2 E2=>hw σ2 H2 F2 (E2.unbase sHe)
    | no=>rw [eb] at hw;exact hw
end
inductive b4 where
 | ok (p:PV) | er (c:Str) | no
noncomputable def nZ (K:Fg) (n:Nat) (den:List JI->b4):Sp:=fun vs H Q _=>vs.length=n/\∃O ds,O.Nodup/\(∀a∈O,H a≠none)/\Reps K (b8 H O) vs ds/\match den ds with
 | .ok p=>∀v H' G,RetOk K H O p v H' G->Q v H'
 | .er _=>False
 | .no=>False
noncomputable def ak (n:Nat) (ds:List JI):Ev:=ds.map (fun d=>some ⟨.leaf,d⟩)++List.replicate (n-ds.length) none
noncomputable def aI (n:Nat) (g:FS) (ds:List JI):b4:=match g (ak n ds) with
 | .nx _=>.ok ⟨.leaf,.none⟩
 | .rt p=>.ok p
 | .er c _=>.er c
 | _=>.no
section
variable {P:Program} {w:World} {K:Fg} {mg:Str->Option Value} {base:Heap}
theorem rG {N:List Str} {H:Hp} {O:List Addr} {vs:List V} {ds:List JI} (hn:vs.length<=N.length) (nd:O.Nodup) (inH:∀a∈O,H a≠none) (rs:Reps K (b8 H O) vs ds) :
  EnvOk K H O (List.replicate N.length []) H (L2.start N vs) (ak N.length ds):=by
 have fl:(List.replicate N.length ([]:List Addr)).flatten=[]:=by simp
 have hl:=rs.1
 refine ⟨by simp [L2.start,ak,hl],by simp [ak];omega,Same.refl _,by rw [fl];simpa using nd,by rw [fl];simpa using inH,fun a ha=>by rw [fl] at ha;simp at ha,fun i p hp=>?_⟩
 unfold ak at hp;by_cases hi:i<ds.length
 ·rw [getElem?_append_left (by simpa using hi),getElem?_map,Jz hi] at hp
  cases hp;refine ⟨rfl,vs[i]'(by omega),[],?_,?_,?_⟩
  ·unfold L2.start
   rw [getElem?_append_left (by simp;omega),getElem?_map,Jz (by omega)]
   rfl
  ·rw [getElem?_replicate,if_pos (by omega)]
  ·refine .leaf ?_
   rw [fl,append_nil];exact rs.2 i _ _ (Jz _) (Jz hi)
 ·rw [getElem?_append_right (by simpa using hi),getElem?_replicate] at hp
  split at hp<;>cases hp
theorem Bo {x qual:Str} {st:Stmt} {f:Addr} {fd:FuncData} {N ps:List Str} {k:Nat} {g:FS} (F:Fun K x qual st f fd) (S:cO N ps (aO st))
  (hb:∀(cdv:Value) (A:Around) (outer:List Env) (s:Shared) (H:Hp) (E:XK),Room k (A.deeper (envOfC qual (aO st) s.heap.objs.size f cdv)) ->
   PSs (nP lQ P w K mg base N qual (aO st) f cdv A outer s H E).nox (bV st) (tS K W0 g)):e8 P w K mg base lQ (k+1) f fd ps (nZ K ps.length (aI N.length g)):=by
 have hpl:ps.length<=N.length:=by have:=congrArg List.length S.pre;rw [length_take] at this;omega
 refine F.ok S (fun vs H Q E h=>h.1) (fun cdv A outer s H vs Q E hr h=>⟨_,hb cdv A outer s H E hr,?_⟩)
 obtain ⟨hl,O,ds,nd,inH,rs,w⟩:=h;refine ⟨H,O,List.replicate N.length [],ak N.length ds,rG (by omega) nd inH rs,?_⟩
 unfold aI at w
 cases e:g (ak N.length ds) with
 | nx Γ'=>
  rw [e] at w;exact fun σ' H' Fs' E'=>w .non H' [] ⟨E'.same,(fun _ z=>nomatch z),(fun _ z=>nomatch z),nodup_nil,.leaf .non,rfl⟩
 | rt p=>rw [e] at w;exact w
 | bk Γ'=>rw [e] at w;exact w.elim
 | ct Γ'=>rw [e] at w;exact w.elim
 | er c Γ'=>rw [e] at w;exact w.elim
 | no=>rw [e] at w;exact w.elim
end
noncomputable def ag (n:Nat) (den:List JI->b4) (fl:FL):F1:=fun Γ=>(fl Γ).bind fun ps Γ'=>if ps.length=n then (match den (ps.map (·.d)) with
 | .ok p=>if ps.all (T.coer .leaf) then .ok p Γ' else if bQ p.d then .ok ⟨.leaf,p.d⟩ Γ' else .ok ⟨.view,p.d⟩ Γ'
 | _=>.no) else .no
section
variable {K:Fg} {W:XW} {σ:St} {H:Hp} {Q:VK} {fl:FL}
theorem wD {n:Nat} {den:List JI->b4} {E:XK} (h:tE K W (ag n den fl) σ H Q):fh (nZ K n den) [] E (tA K W fl) σ H Q:=by
 obtain ⟨He,O,Fs,Γ,E0,h⟩:=h;refine ⟨He,O,Fs,Γ,E0,?_⟩
 unfold ag at h
 cases e:fl Γ with
 | er c Γ'=>rw [e] at h;exact h
 | no=>rw [e] at h;exact h
 | ok ps Γ1=>
  rw [e] at h;intro vs H1 Gs Fs1 A;have h:Wants K W He O Fs H σ Q (if ps.length=n then (match den (ps.map (·.d)) with | .ok p=>if ps.all (T.coer .leaf) then .ok p Γ1 else if bQ p.d then .ok ⟨.leaf,p.d⟩ Γ1 else .ok ⟨.view,p.d⟩ Γ1 | _=>.no) else .no):=h
  by_cases hn:ps.length=n
  case neg=>rw [if_neg hn] at h;exact h.elim
  rw [if_pos hn] at h;have hl:(vs++[]).length=n:=by rw [append_nil,A.len1];exact hn
  cases ed:den (ps.map (·.d)) with
  | er c=>rw [ed] at h;exact h.elim
  | no=>rw [ed] at h;exact h.elim
  | ok p=>
   rw [ed] at h;have h:Wants K W He O Fs H σ Q (if ps.all (T.coer .leaf) then .ok p Γ1 else if bQ p.d then .ok ⟨.leaf,p.d⟩ Γ1 else .ok ⟨.view,p.d⟩ Γ1):=h
   obtain ⟨n1,n2,n3⟩:=JC A.env.nd;obtain ⟨m1,m2,m3⟩:=JC n1;have newF:∀a∈Fs1.flatten,a∈Fs.flatten\/H a=none:=fun a ha=>A.new a (Jv _ ha)
   cases hc:ps.all (T.coer .leaf) with
   | true=>
    rw [hc] at h;have h:Wants K W He O Fs H σ Q (.ok p Γ1):=h
    refine ⟨hl,O++Fs1.flatten,ps.map (·.d),A.env.dropL.nd,A.env.dropL.inH,?_,?_⟩
    ·rw [append_nil]
     refine ⟨A.reps.1,fun i v d h1 h2=>?_⟩
     rw [getElem?_map] at h2
     cases e2:ps[i]? with
     | none=>rw [e2] at h2;cases h2
     | some q=>
      rw [e2] at h2
      cases h2;have hi:=(JD e2).1
      have e3:Gs[i]?=some (Gs[i]'(by rw [A.len2];exact hi)):=Jz _
      have o:=A.own i v q _ h1 e2 e3
      have o2:=o.coer (s:=.leaf) (O':=O++Fs1.flatten) (List.all_eq_true.mp hc q (mem_of_getElem? e2)) mz fun a ha z=>by
       exfalso
       have hG:=nX e3 ha
       rcases Jx z with y | y
       ·exact m3 a hG a y rfl
       ·exact n3 a (Jw _ hG) a y rfl
      cases o2 with
      | leaf r=>exact r
    ·rw [ed]
     intro v H2 G r;refine h v H2 G Fs1 ⟨A.same.trans r.same,A.env.dropL.hide r.same r.nd r.fresh r.inH,fun a ha=>?_,by rw [append_assoc];exact r.own⟩
     rcases Jx ha with z | z
     ·exact .inr (A.same.free (r.fresh a z))
     ·exact newF a z
   | false=>
    rw [hc] at h;have h:Wants K W He O Fs H σ Q (if bQ p.d then .ok ⟨.leaf,p.d⟩ Γ1 else .ok ⟨.view,p.d⟩ Γ1):=h
    refine ⟨hl,[],ps.map (·.d),nodup_nil,(fun _ z=>nomatch z),by rw [append_nil,FD];exact A.reps,?_⟩
    rw [ed];intro v H2 G r
    cases hs:bQ p.d with
    | true=>
     rw [hs] at h;exact Wants.scal h (r.own.rep.sc hs) (A.same.trans r.same) (A.env.dropL.grow r.same) (fun a ha=>ha) E0.ndO newF
    | false=>
     rw [hs] at h;have h:Wants K W He O Fs H σ Q (.ok ⟨.view,p.d⟩ Γ1):=h
     exact h v H2 [] Fs1 ⟨A.same.trans r.same,by simpa using A.env.dropL.grow r.same,by simpa using newF,.view r.own.rep⟩
end
theorem DO:bootBuiltins "len"=some (.builtin "len"):=by decide +kernel
theorem DQ:bootBuiltins "all"=some (.builtin "all"):=by decide +kernel
theorem DP:bootBuiltins "any"=some (.builtin "any"):=by decide +kernel
theorem nV:bootBuiltins "sorted"=some (.builtin "sorted"):=by decide +kernel
theorem lN:bootBuiltins "isinstance"=some (.builtin "isinstance"):=by decide +kernel
theorem yS:bootBuiltins "int"=some (.type "int"):=by decide +kernel
theorem Cd:bootBuiltins "list"=some (.type "list"):=by decide +kernel
theorem Ej:bootBuiltins "tuple"=some (.type "tuple"):=by decide +kernel
theorem BF:bootBuiltins "bool"=some (.type "bool"):=by decide +kernel
theorem DM:bootBuiltins "str"=some (.type "str"):=by decide +kernel
section
variable {X:Cx} {W:XW} {a b c e:Expr} {es:List Expr} {pos:Pos} {fa fb fc:F1} {fl:FL} {ga gb:FB} {g1 g2:FS}
theorem Bz {op:CmpOp} {r:R2} {g:JI->JI->Option JI} (ho:OpR X (compareOp op) r) (hg:GOp X.K r g) (ha:PE X a (tE X.K W fa)) (hb:PE X b (tE X.K W fb)) (hm:behindInMarks op b=false:=by with_unfolding_all rfl) :
  PE X (.Compare a [op] [b] pos) (tE X.K W (aw g fa fb)):=br (wO ho ha hb hm) fun _ _ _=>iw hg
theorem Bt {op:CmpOp} {r:R2} {g:JI->JI->Option JI} (ho:OpR X (compareOp op) r) (hg:GOp X.K r g) (ha:PE X a (tE X.K W fa)) (hb:PE X b (tE X.K W fb)) (hm:behindInMarks op b=false:=by with_unfolding_all rfl) :
  PT X (.Compare a [op] [b] pos) (tT X.K W (aF ah (aw g fa fb))):=vm (qi ho ha hb hm) fun σ H QB=>wm fun Q=>iw hg
theorem u5 {op op':CmpOp} {r r':R2} {g g':JI->JI->Option JI} (ho:OpR X (compareOp op) r) (hg:GOp X.K r g) (ho':OpR X (compareOp op') r') (hg':GOp X.K r' g') (ha:PE X a (tE X.K W fa)) (hb:PE X b (tE X.K W fb)) (hc:PE X c (tE X.K W fc))
  (hm:lastMarks [op,op'] [b,c]=false:=by with_unfolding_all rfl):PE X (.Compare a [op,op'] [b,c] pos) (tE X.K W (gm g g' fa fb fc)):=br (um ho ho' ha hb hc hm) fun _ _ _=>tP hg hg'
theorem da_nil:PA X [] (tA X.K W af):=yV sg fun _ _ _=>zP
theorem da_cons (ha:PE X e (tE X.K W fa)) (hr:PA X es (tA X.K W fl)) (hs:starEach (e::es) X.env=(false,eval e X.env)::starEach es X.env:=by rfl):PA X (e::es) (tA X.K W (ab fa fl)):=yV (lR ha hr hs) fun _ _ _=>wC
theorem qA {x:Str} {id:String} {r:List V->Hp->VK->Prop} {g:List JI->Option JI} {p:Pos} (hc:CallR X (.builtin id) r) (hg:GCall X.K r g) (hv:bootBuiltins x=some (.builtin id)) (hm:X.mg x=none) (ha:PA X (e::es) (tA X.K W fl)) (hG:Gl X x:=by rfl)
  (hn:x ≠ "__name__":=by decide) (hdb:(x==("__debug__":Str))=false:=by decide) (he:starEach (e::es) X.env=(false,eval e X.env)::starEach es X.env:=by rfl) (hpl:(backTo pos (starEach es X.env)).any (·.1)=false:=by rfl) :
  PE X (.Call (.Name x p) (e::es) [] pos) (tE X.K W (bt g fl)):=br (FX hc hG hm hv ha hn hdb he hpl) fun _ _ _=>yD hg
theorem DE {x:Str} {id:String} {r:List V->Hp->VK->Prop} {g:List JI->Option JI} {p:Pos} (hc:CallR X (.type id) r) (hg:GCall X.K r g) (hv:bootBuiltins x=some (.type id)) (hm:X.mg x=none) (ha:PA X (e::es) (tA X.K W fl)) (hG:Gl X x:=by rfl)
  (hn:x ≠ "__name__":=by decide) (hdb:(x==("__debug__":Str))=false:=by decide) (he:starEach (e::es) X.env=(false,eval e X.env)::starEach es X.env:=by rfl) (hpl:(backTo pos (starEach es X.env)).any (·.1)=false:=by rfl) :
  PE X (.Call (.Name x p) (e::es) [] pos) (tE X.K W (bt g fl)):=br (ku hc hG hm hv ha hn hdb he hpl) fun _ _ _=>yD hg
theorem rT {p:Pos} (hm:X.mg "list"=none) (ha:PE X e (tE X.K W fa)) (hG:Gl X "list":=by rfl) (hs:starEach [e] X.env=[(false,eval e X.env)]:=by rfl) :
  PE X (.Call (.Name "list" p) [e] [] pos) (tE X.K W (cW fa)):=br (ku lL hG hm Cd (da_cons ha da_nil hs) (by decide) (by decide) hs rfl) fun _ _ _=>qT
theorem xM {f:Addr} {fd:FuncData} {ps:List Str} {k n:Nat} {den:List JI->b4} {x:Str} {p:Pos} (F:e8 X.prog X.w X.K X.mg X.base lQ k f fd ps (nZ X.K n den)) (hr:Room k X.A) (hm:X.mg x=some (.ref f)) (hk:PySem.W.keepIn X.K (.ref f)=true)
  (hb:Binds X.K fd ps []) (ha:PA X (e::es) (tA X.K W fl)) (hg:Gl X x:=by rfl) (hdb:(x==("__debug__":Str))=false:=by decide) (he:starEach (e::es) X.env=(false,eval e X.env)::starEach es X.env:=by rfl)
  (hpl:(backTo pos (starEach es X.env)).any (·.1)=false:=by rfl):PE X (.Call (.Name x p) (e::es) [] pos) (tE X.K W (ag n den fl)):=br (yj F hr hg hm hk hb .nil iA ha hdb he hpl) fun _ _ _=>wD
theorem DD {tg:Expr} {p:Pos} (hm:X.mg "range"=none) (ha:PA X [a] (tA X.K W fl)) (hg:Gl X "range":=by rfl) (hs:starEach [a] X.env=[(false,eval a X.env)]:=by rfl):PI X tg (.Call (.Name "range" p) [a] [] pos) (tI X.K W (eO fl)):=qG (rd hg hm ha hs) fun _ _ _=>zV
theorem DC {tg:Expr} {p:Pos} (hm:X.mg "range"=none) (ha:PA X [a,b] (tA X.K W fl)) (hg:Gl X "range":=by rfl) (hs:starEach [a,b] X.env=[(false,eval a X.env),(false,eval b X.env)]:=by rfl) (hs2:starEach [b] X.env=[(false,eval b X.env)]:=by rfl) :
  PI X tg (.Call (.Name "range" p) [a,b] [] pos) (tI X.K W (xr fl)):=qG (qZ hg hm ha hs hs2) fun _ _ _=>zU
noncomputable def aK:FB:=fun Γ=>.ok true Γ
theorem xK {scope:Scope} {x:Str} {px:Pos} {iter elt:Expr} {ifs:List Expr} {fi:FI} {fe:F1} {fc:FB} (s:Sh) (i:Nat) (S:d9 X.N [i] X.env.scope scope) (hN:X.N.Nodup) (hi':PI X (.Name x px) iter (tI X.K W fi))
  (hc:∀cells C s₀ H₀ ex,PF (blk X scope cells C s₀ H₀ ex) ifs (tT X.K W0 fc)) (he:∀cells C s₀ H₀ ex,PE (blk X scope cells C s₀ H₀ ex) elt (tE X.K W0 fe))
  (hcalm:X.calm=true:=by rfl) (hx:X.N[i]?=some x:=by rfl) (hl:∀cells C s₀ H₀ ex,Loc (blk X scope cells C s₀ H₀ ex).env.scope x:=by first | exact fun _ _ _ _ _=>Or.inl rfl | exact fun _ _ _ _ _=>Or.inr rfl)
  (hf:∀cells C s₀ H₀ ex,(blk X scope cells C s₀ H₀ ex).fn x=true\/(blk X scope cells C s₀ H₀ ex).env.scope.names.lookup x=some .local:=by first | exact fun _ _ _ _ _=>Or.inr rfl | exact fun _ _ _ _ _=>Or.inl rfl)
  (hs:∀x,foldedSetIterable iter X.env x=pure x:=by intro _;rfl):PE X (.ListComp elt [⟨.Name x px,iter,ifs,0⟩] scope pos) (tE X.K W (ax s i fi fc fe)):=
 br (ql S hcalm hi' (fun cells C s₀ H₀ ex=>yk (X:=blk X scope cells C s₀ H₀ ex) (i:=i) hN hx (hl cells C s₀ H₀ ex) (hf cells C s₀ H₀ ex)) hc he hs) fun _ _ _=>FH
theorem Bu (own:Bool) (i:Nat) {x:Str} {pos':Pos} (hN:X.N.Nodup) (ha:PE X a (tE X.K W fa)) (hi:X.N[i]?=some x:=by rfl) (hx:Loc X.env.scope x:=by first | exact Or.inl rfl | exact Or.inr rfl) (hs:swapsWith a (some (.Name x pos')) pos.line X.env=pure false:=by rfl)
  (hf:X.fn x=true\/X.env.scope.names.lookup x=some .local:=by first | exact .inl rfl | exact .inr rfl):PS X (.Assign [.Name x pos'] a pos) (tS X.K W (ay own i fa)):=fm (FO hN hi hx ha hs hf) fun _ _ _=>tM
theorem o7 (own:Bool) (j:Nat) {scope:Scope} {x y:Str} {px pos' spos:Pos} {iter elt:Expr} {ifs:List Expr} {fi:FI} {fe:F1} {fc:FB} (s:Sh) (i:Nat) (S:d9 X.N [i] X.env.scope scope) (hN:X.N.Nodup) (hi':PI X (.Name x px) iter (tI X.K W fi))
  (hc:∀cells C s₀ H₀ ex,PF (blk X scope cells C s₀ H₀ ex) ifs (tT X.K W0 fc)) (he:∀cells C s₀ H₀ ex,PE (blk X scope cells C s₀ H₀ ex) elt (tE X.K W0 fe))
  (hsw:swapsWith (.ListComp elt [⟨.Name x px,iter,ifs,0⟩] scope pos) (some (.Name y pos')) spos.line X.env=pure true:=by rfl)
  (hy:X.N[j]?=some y:=by rfl) (hly:X.env.scope.names.lookup y=some .local:=by rfl)
  (hcalm:X.calm=true:=by rfl) (hx:X.N[i]?=some x:=by rfl) (hl:∀cells C s₀ H₀ ex,Loc (blk X scope cells C s₀ H₀ ex).env.scope x:=by first | exact fun _ _ _ _ _=>Or.inl rfl | exact fun _ _ _ _ _=>Or.inr rfl)
  (hf:∀cells C s₀ H₀ ex,(blk X scope cells C s₀ H₀ ex).fn x=true\/(blk X scope cells C s₀ H₀ ex).env.scope.names.lookup x=some .local:=by first | exact fun _ _ _ _ _=>Or.inr rfl | exact fun _ _ _ _ _=>Or.inl rfl)
  (hs:∀x,foldedSetIterable iter X.env x=pure x:=by intro _;rfl):PS X (.Assign [.Name y pos'] (.ListComp elt [⟨.Name x px,iter,ifs,0⟩] scope pos) spos) (tS X.K W (ay own j (ax s i fi fc fe))):=
 fm (GC hN hy hly S hcalm hi' (fun cells C s₀ H₀ ex=>yk (X:=blk X scope cells C s₀ H₀ ex) (i:=i) hN hx (hl cells C s₀ H₀ ex) (hf cells C s₀ H₀ ex)) hc he hsw hs) fun D σ H h=>by
  have h2:mx (tE X.K W (ax s i fi fc fe)) (dM j) D σ H:=tM h
  exact FH h2
theorem rJ (i:Nat) {x:Str} {p apos cpos:Pos} (ha:PE X a (tE X.K W fa)) (hN:X.N[i]?=some x:=by rfl) (hv:BG X.env.scope x:=by first | exact Or.inl rfl | exact Or.inr (Or.inl rfl) | exact Or.inr (Or.inr rfl)) (hd:(x==("__debug__":Str))=false:=by decide)
  (hcd:(x==("__classdict__":Str))=false:=by decide) (hs:starEach [a] X.env=[(false,eval a X.env)]:=by rfl)
  (hbase:attributeBase (.Name x p) "append" X.env (eval (.Name x p) X.env)=eval (.Name x p) X.env:=by rfl) (hline:(apos.endLine==cpos.line)=true:=by rfl)
  (hfew:((backTo cpos (starEach [a] X.env)).all (fun x=>!x.1)&&(backToKw cpos (keywordEach [] X.env)).all (fun x=>x.1.isSome)
   && decide ([a].length+([]:List Keyword).length+(if ([]:List Keyword).isEmpty then 0 else 1)<30))=true:=by rfl)
  (hsw:swapsWith (.Call (.Attribute (.Name x p) "append" apos) [a] [] cpos) none pos.line X.env=pure false:=by rfl) :
  PS X (.Expr (.Call (.Attribute (.Name x p) "append" apos) [a] [] cpos) pos) (tS X.K W (aE i fa)):=
 fm (vx (mR PySem.F.plainAttrs_list PySem.F.slot_list_append PySem.F.type_list_append Cs (zd hN hv hd hcd) (da_cons ha da_nil hs) hbase hfew hline hs rfl) hsw) fun _ _ _=>qU
theorem Bv (i:Nat) {x:Str} {px:Pos} {iter:Expr} {body:List Stmt} {fi:FI} {g:FS} (hp:PassesOwn (model X.prog X.w) X.A X.env X.xe) (hN:X.N.Nodup) (hi':PI X (.Name x px) iter (tI X.K W fi)) (hb:PSs X body (tS X.K W g)) (hcalm:X.calm=true:=by rfl)
  (hx:X.N[i]?=some x:=by rfl) (hl:Loc X.env.scope x:=by first | exact Or.inl rfl | exact Or.inr rfl) (hf:X.fn x=true\/X.env.scope.names.lookup x=some .local:=by first | exact .inl rfl | exact .inr rfl)
  (hs:∀x,foldedSetIterable iter X.env x=pure x:=by intro _;rfl):PS X (.For (.Name x px) iter body [] pos) (tS X.K W (dW i fi g)):=
 fm (ud hp hcalm hi' (yk hN hx hl hf) hb hs) fun _ _ _=>zW
end
structure Cp (X:Cx) (N gl:List Str) (vs cs ls lo gs:List Nat):Prop where
 hN:X.N=N
 nd:N.Nodup
 nm:∀x∈N,(x==("__debug__":Str))=false/\(x==("__classdict__":Str))=false
 ng:∀x∈gl,(x==("__debug__":Str))=false/\x ≠ "__name__"
 vis:∀(i:Nat) x,N[i]?=some x->vs.contains i=true->BG X.env.scope x
 cel:∀(i:Nat) x,N[i]?=some x->cs.contains i=true->X.env.scope.names.lookup x=some .cell\/X.env.scope.names.lookup x=some .free
 loc:∀(i:Nat) x,N[i]?=some x->ls.contains i=true->Loc X.env.scope x/\(X.fn x=true\/X.env.scope.names.lookup x=some .local)
 loo:∀(i:Nat) x,N[i]?=some x->lo.contains i=true->X.env.scope.names.lookup x=some .local
 glb:∀(j:Nat) x,gl[j]?=some x->gs.contains j=true->Gl X x
 calm:X.calm=true
 kind:X.env.scope.kind=.function
noncomputable def fC (sc:Scope) (ks:List NameKind) (o:Option Str):Bool:=match o with
 | some x=>(match sc.names.lookup x with
  | some k=>ks.any fun z=>decide (z=k)
  | none=>false)
 | none=>true
noncomputable def kE (N gl:List Str) (vs cs ls lo gs:List Nat) (sc:Scope):Bool:=
 decide (sc.kind=.function)&&(vs.all fun i=>fC sc [.local,.cell,.free] N[i]?)&&(cs.all fun i=>fC sc [.cell,.free] N[i]?)&&(ls.all fun i=>fC sc [.local,.cell] N[i]?)&&(lo.all fun i=>fC sc [.local] N[i]?)&&(gs.all fun j=>fC sc [.globalImplicit] gl[j]?)
noncomputable def uy (N gl:List Str):Bool:=decide N.Nodup&&(N.all fun x=>!(x==("__debug__":Str))&&!(x==("__classdict__":Str)))&&(gl.all fun x=>!(x==("__debug__":Str))&&!decide (x = "__name__"))
theorem B7 {sc:Scope} {ks:List NameKind} {x:Str} (h:fC sc ks (some x)=true):∃k∈ks,sc.names.lookup x=some k:=by
 unfold fC at h;simp only at h
 split at h
 ·rename_i k e
  simp only [any_eq_true,decide_eq_true_eq] at h
  obtain ⟨z,hz,rfl⟩:=h;exact ⟨z,hz,e⟩
 ·cases h
theorem Cc {P:Nat->Bool} {l:List Nat} {i:Nat} (h:l.all P=true) (hi:l.contains i=true):P i=true:=by
 rw [all_eq_true] at h;exact h i (by simpa using hi)
structure Ju (N gl:List Str) (vs cs ls lo gs:List Nat) (sc:Scope):Prop where
 kind:sc.kind=.function
 vis:∀(i:Nat) x,N[i]?=some x->vs.contains i=true->BG sc x
 cel:∀(i:Nat) x,N[i]?=some x->cs.contains i=true->sc.names.lookup x=some .cell\/sc.names.lookup x=some .free
 loc:∀(i:Nat) x,N[i]?=some x->ls.contains i=true->Loc sc x
 loo:∀(i:Nat) x,N[i]?=some x->lo.contains i=true->sc.names.lookup x=some .local
 glb:∀(j:Nat) x,gl[j]?=some x->gs.contains j=true->sc.names.lookup x=some .globalImplicit
theorem Fq {N gl:List Str} {vs cs ls lo gs:List Nat} {sc:Scope} (h:kE N gl vs cs ls lo gs sc=true):Ju N gl vs cs ls lo gs sc:=by
 unfold kE at h;simp only [Bool.and_eq_true,decide_eq_true_eq] at h
 obtain ⟨⟨⟨⟨⟨h0,h1⟩,h2⟩,h3⟩,h4⟩,h5⟩:=h;refine ⟨h0,fun i x e hi=>?_,fun i x e hi=>?_,fun i x e hi=>?_,fun i x e hi=>?_,fun i x e hi=>?_⟩
 ·have q:=Cc h1 hi
  rw [e] at q;obtain ⟨k,hk,q⟩:=B7 q;simp only [mem_cons,not_mem_nil,or_false] at hk
  rcases hk with rfl | rfl | rfl
  ·exact .inl q
  ·exact .inr (.inl q)
  ·exact .inr (.inr q)
 ·have q:=Cc h2 hi
  rw [e] at q;obtain ⟨k,hk,q⟩:=B7 q;simp only [mem_cons,not_mem_nil,or_false] at hk
  rcases hk with rfl | rfl
  ·exact .inl q
  ·exact .inr q
 ·have q:=Cc h3 hi
  rw [e] at q;obtain ⟨k,hk,q⟩:=B7 q;simp only [mem_cons,not_mem_nil,or_false] at hk
  rcases hk with rfl | rfl
  ·exact .inl q
  ·exact .inr q
 ·have q:=Cc h4 hi
  rw [e] at q;obtain ⟨k,hk,q⟩:=B7 q;simp only [mem_cons,not_mem_nil,or_false] at hk
  rw [hk] at q;exact q
 ·have q:=Cc h5 hi
  rw [e] at q;obtain ⟨k,hk,q⟩:=B7 q;simp only [mem_cons,not_mem_nil,or_false] at hk
  rw [hk] at q;exact q
theorem ux {N gl:List Str} (h:uy N gl=true):N.Nodup/\(∀x∈N,(x==("__debug__":Str))=false/\(x==("__classdict__":Str))=false)/\∀x∈gl,(x==("__debug__":Str))=false/\x ≠ "__name__":=by
 unfold uy at h;simp only [Bool.and_eq_true,decide_eq_true_eq,all_eq_true,Bool.not_eq_true',decide_eq_false_iff_not] at h
 exact ⟨h.1.1,h.1.2,h.2⟩
theorem Cp.fn {P:Program} {w:World} {K:Fg} {mg:Str->Option Value} {base:Heap} {N gl:List Str} {vs cs ls lo gs:List Nat} {qual:Str} {sc:Scope} {f:Addr} {cd:Value} {A:Around} {outer:List Env} {s:Shared} {H:Hp} {E:XK}
  (h:kE N gl vs cs ls lo gs sc=true) (h':uy N gl=true):Cp (nP lQ P w K mg base N qual sc f cd A outer s H E).nox N gl vs cs ls lo gs:=by
 obtain ⟨a,b,c⟩:=ux h'
 have q:=Fq h
 exact ⟨rfl,a,b,c,q.vis,q.cel,fun i x e hi=>⟨q.loc i x e hi,.inl rfl⟩,q.loo,q.glb,rfl,q.kind⟩
theorem yC {env:Env} {x:Str} {k:NameKind}:∀{names:List (Str×NameKind)},names.lookup x=some k ->
  (names.map fun (n,k)=>if (k==NameKind.free&&env.scope.kind==.function&&env.kindOf n==some .cell) then (n,NameKind.cell) else (n,k)).lookup x=some k \/
  (k=.free/\(names.map fun (n,k)=>if (k==NameKind.free&&env.scope.kind==.function&&env.kindOf n==some .cell) then (n,NameKind.cell) else (n,k)).lookup x=some .cell)
 | [],h=>by simp at h
 | (n,k')::r,h=>by
  have ih:=@yC env x k r
  rw [map_cons];show List.lookup x ((if (k'==NameKind.free&&env.scope.kind==.function&&env.kindOf n==some .cell)=true then (n,NameKind.cell) else (n,k'))::_)=_\/_/\List.lookup x ((if (k'==NameKind.free&&env.scope.kind==.function&&env.kindOf n==some .cell)=true then (n,NameKind.cell) else (n,k'))::_)=_
  by_cases hc:(k'==NameKind.free&&env.scope.kind==.function&&env.kindOf n==some .cell)=true
  ·rw [if_pos hc]
   cases hx:x==n with
   | true=>
    simp only [lookup_cons,hx] at h ⊢
    cases h;simp only [Bool.and_eq_true,beq_iff_eq] at hc
    exact .inr ⟨hc.1.1,trivial⟩
   | false=>
    simp only [lookup_cons,hx] at h ⊢
    exact ih h
  ·rw [if_neg hc]
   cases hx:x==n with
   | true=>
    simp only [lookup_cons,hx] at h ⊢
    cases h;exact .inl rfl
   | false=>
    simp only [lookup_cons,hx] at h ⊢
    exact ih h
theorem vF {scope:Scope} {env:Env} {x:Str} {k:NameKind} (h:scope.names.lookup x=some k):(relabel scope env).names.lookup x=some k\/(k=.free/\(relabel scope env).names.lookup x=some .cell):=yC h
theorem Cp.blk {X:Cx} {N gl:List Str} {vs cs ls lo gs vs' cs' ls' lo' gs':List Nat} {scope:Scope} (S:Cp X N gl vs cs ls lo gs) (h:kE N gl vs' cs' ls' lo' gs' scope=true) (cells C s₀ H₀ ex) :
  Cp (blk X scope cells C s₀ H₀ ex) N gl vs' cs' ls' lo' gs':=by
 have q:=Fq h
 refine ⟨S.hN,S.nd,S.nm,S.ng,fun i x e hi=>?_,fun i x e hi=>?_,fun i x e hi=>?_,fun i x e hi=>?_,fun i x e hi=>?_,S.calm,q.kind⟩
 ·show BG (relabel scope X.env) x
  rcases q.vis i x e hi with z | z | z
  ·rcases vF (env:=X.env) z with y | ⟨y,_⟩
   ·exact .inl y
   ·cases y
  ·rcases vF (env:=X.env) z with y | ⟨y,_⟩
   ·exact .inr (.inl y)
   ·cases y
  ·rcases vF (env:=X.env) z with y | ⟨_,y⟩
   ·exact .inr (.inr y)
   ·exact .inr (.inl y)
 ·show (relabel scope X.env).names.lookup x=some .cell\/(relabel scope X.env).names.lookup x=some .free
  rcases q.cel i x e hi with z | z
  ·rcases vF (env:=X.env) z with y | ⟨y,_⟩
   ·exact .inl y
   ·cases y
  ·rcases vF (env:=X.env) z with y | ⟨_,y⟩
   ·exact .inr y
   ·exact .inl y
 ·show Loc (relabel scope X.env) x/\((scope.names.any fun y=>y.1==x&&y.2==.cell)=true\/(relabel scope X.env).names.lookup x=some .local)
  rcases q.loc i x e hi with z | z
  ·rcases vF (env:=X.env) z with y | ⟨y,_⟩
   ·exact ⟨.inl y,.inr y⟩
   ·cases y
  ·rcases vF (env:=X.env) z with y | ⟨y,_⟩
   ·refine ⟨.inr y,.inl ?_⟩
    rw [any_eq_true];exact ⟨(x,.cell),jq z,by simp⟩
   ·cases y
 ·show (relabel scope X.env).names.lookup x=some .local
  rcases vF (env:=X.env) (q.loo i x e hi) with y | ⟨y,_⟩
  ·exact y
  ·cases y
 ·show (relabel scope X.env).names.lookup x=some .globalImplicit
  rcases vF (env:=X.env) (q.glb i x e hi) with y | ⟨y,_⟩
  ·exact y
  ·cases y
noncomputable def jI (N:List Str) (i:Nat) (cs:List Nat) (sc:Scope):Bool:=
 decide (sc.kind=.function)&&(sc.names.all fun p=>!decide (p.2=.free)||cs.any fun j=>decide (N[j]?=some p.1)) &&
 ((List.range N.length).all fun j=>j==i||(sc.names.all fun p=>!decide (some p.1=N[j]?)||(!decide (p.2=.local)&&!decide (p.2=.cell)))) &&
 (sc.names.all fun p=>!decide (p.2=.local)||decide (sc.names.lookup p.1=some .local)) &&
 (sc.names.all fun p=>!decide (p.2=.free)||sc.names.all fun q=>!decide (q.1=p.1)||!decide (q.2=.cell))
theorem Gn {X:Cx} {N gl:List Str} {vs cs ls lo gs:List Nat} {scope:Scope} {i:Nat} (S:Cp X N gl vs cs ls lo gs) (h:jI N i cs scope=true):d9 X.N [i] X.env.scope scope:=by
 unfold jI at h;simp only [Bool.and_eq_true,decide_eq_true_eq,all_eq_true,Bool.or_eq_true,Bool.not_eq_true',decide_eq_false_iff_not,any_eq_true,mem_range,beq_iff_eq] at h
 obtain ⟨⟨⟨⟨h0,h1⟩,h2⟩,h3⟩,h4⟩:=h;refine ⟨h0,fun n hn=>?_,fun j x e hj=>?_,fun x hx e=>?_,fun n hn hc=>?_⟩
 ·rcases h1 _ hn with z | ⟨j,hj,e⟩
  ·exact absurd rfl z
  ·exact S.cel j n e (by simpa using hj)
 ·rw [S.hN] at e
  rcases h2 j (JD e).1 with z | z
  ·rw [z];exact List.mem_singleton.mpr rfl
  ·exfalso
   rcases hj with y | y
   ·rcases z _ y with w | w
    ·exact w e.symm
    ·exact w.1 rfl
   ·rcases z _ y with w | w
    ·exact w e.symm
    ·exact w.2 rfl
 ·rcases h3 x hx with z | z
  ·exact absurd e z
  ·exact z
 ·rcases h4 _ hn with z | z
  ·exact z rfl
  ·rcases z _ hc with w | w
   ·exact w rfl
   ·exact w rfl
structure Fx (X Y:Cx):Prop where
 prog:Y.prog=X.prog
 w:Y.w=X.w
 K:Y.K=X.K
 mg:Y.mg=X.mg
 base:Y.base=X.base
 A:Y.A=X.A
noncomputable def Rm (X:Cx):Prop:=X.A.units+64<cLine
noncomputable def pH (X:Cx) (x:Str) (n:Nat) (den:List JI->b4):Prop:=∃(k:Nat) (f:Addr) (fd:FuncData) (ps:List Str),e8 X.prog X.w X.K X.mg X.base lQ k f fd ps (nZ X.K n den)/\Room k X.A/\X.mg x=some (.ref f)/\PySem.W.keepIn X.K (.ref f)=true/\Binds X.K fd ps []
noncomputable def Con (X:Cx) (x:Str) (d:JI):Prop:=∃u v,X.mg x=some u/\RelV v u/\∀H,Rep X.K H v d
section
variable {X:Cx} {N gl:List Str} {vs cs ls lo gs:List Nat} {W:XW} {a b c e:Expr} {es:List Expr} {pos p:Pos} {fa fb fc:F1} {fl:FL} {ga gb:FB} {g1 g2:FS}
theorem Cp.g (S:Cp X N gl vs cs ls lo gs) {j:Nat} {x:Str} (hj:gl[j]?=some x) (hg:gs.contains j=true):Gl X x/\(x==("__debug__":Str))=false/\x ≠ "__name__":=
 ⟨S.glb j x hj hg,S.ng x (mem_of_getElem? hj)⟩
noncomputable def C3:R2:=fun x y H Q=>qg (fun i j=>.bl (decide (i<j))) x y H Q\/∃i j,x=.str i/\y=.str j/\Q (.bl (decide (i.cps.toList<j.cps.toList))) H
theorem Dh:OpR X (compareOp .Lt) C3:=op_lt.or rg
noncomputable def Bm:JI->JI->Option JI
 | .str i,.str j=>some (.bool (!decide (i.cps.toList<j.cps.toList)))
 | _,_=>none
noncomputable abbrev oY:JI->JI->Option JI:=fun a b=>(Jn a b).or (Bm a b)
noncomputable def Ah:R2:=fun x y H Q=>qg (fun i j=>.bl (decide (j<=i))) x y H Q\/∃i j,x=.str i/\y=.str j/\Q (.bl (!decide (i.cps.toList<j.cps.toList))) H
theorem rj:OpR X (compareOp .GtE) (fun x y H Q=>∃i j,x=.str i/\y=.str j/\Q (.bl (!decide (i.cps.toList<j.cps.toList))) H):=by
 intro pins s σ H x y v u Q I rx ry h;obtain ⟨i,j,rfl,rfl,q⟩:=h;obtain ⟨t,rfl⟩:=rx;obtain ⟨t',rfl⟩:=ry;exact PySem.P.ge_str (BS I q rfl)
theorem Di:OpR X (compareOp .GtE) Ah:=op_ge.or rj
theorem xx {K:Fg}:GOp K (fun x y H Q=>∃i j,x=.str i/\y=.str j/\Q (.bl (!decide (i.cps.toList<j.cps.toList))) H) Bm:=by
 intro x y H Q a b d ra rb e k
 cases ra<;>cases rb<;>simp only [Bm] at e<;>try cases e
 rename_i i j;exact ⟨i,j,rfl,rfl,k _ (.bl _)⟩
theorem Bg {K:Fg}:GOp K Ah oY:=(BU fun _ _=>.bl _).or xx
structure Ck (X:Cx) (op:CmpOp) (r:R2) (g:JI->JI->Option JI):Prop where
 o:OpR X (compareOp op) r
 g:GOp X.K r g
theorem mO (R:Rm X):Ck X .Lt C3 jv:=⟨Dh,Bf⟩
theorem HF (R:Rm X):Ck X .LtE (qg fun i j=>.bl (decide (i<=j))) Ff:=⟨De,BU fun _ _=>.bl _⟩
theorem oG (R:Rm X):Ck X .Gt (qg fun i j=>.bl (decide (j<i))) jw:=⟨Df,BU fun _ _=>.bl _⟩
theorem HG (R:Rm X):Ck X .GtE Ah oY:=⟨Di,Bg⟩
theorem bT (R:Rm X):Ck X .Eq (qX X.K false) bD:=⟨AK R,Bh⟩
theorem jV (R:Rm X):Ck X .NotEq (qX X.K true) iC:=⟨AF R,Be⟩
theorem dt (R:Rm X):Ck X .In (tZ X.K false) (bK false):=⟨AJ R,uM⟩
theorem vI (R:Rm X):Ck X .NotIn (tZ X.K true) (bK true):=⟨rf R,uM⟩
theorem ct {op:CmpOp} {r:R2} {g:JI->JI->Option JI} (k:Ck X op r g) (ha:PE X a (tE X.K W fa)) (hb:PE X b (tE X.K W fb)) (hm:behindInMarks op b=false):PT X (.Compare a [op] [b] pos) (tT X.K W (aF ah (aw g fa fb))):=Bt k.o k.g ha hb hm
noncomputable abbrev qI (X:Cx) (N gl:List Str) (vs cs ls lo gs:List Nat) (R:Cx->Prop):Prop:=∀Y:Cx,Cp Y N gl vs cs ls lo gs->Fx X Y->R Y
theorem co {scope:Scope} {x:Str} {px:Pos} {iter elt:Expr} {ifs:List Expr} {fi:FI} {fe:F1} {fc:FB} {vs' cs' lo' gs':List Nat} (S:Cp X N gl vs cs ls lo gs) (s:Sh) (i:Nat) (hx:N[i]?=some x) (h1:jI N i cs scope=true) (h2:kE N gl vs' cs' [i] lo' gs' scope=true)
  (hi':PI X (.Name x px) iter (tI X.K W fi)) (hc:qI X N gl vs' cs' [i] lo' gs' fun Y=>PF Y ifs (tT Y.K W0 fc)) (he:qI X N gl vs' cs' [i] lo' gs' fun Y=>PE Y elt (tE Y.K W0 fe)) (hs:∀x,foldedSetIterable iter X.env x=pure x) :
  PE X (.ListComp elt [⟨.Name x px,iter,ifs,0⟩] scope pos) (tE X.K W (ax s i fi fc fe)):=by
 have B:=fun cells C s₀ H₀ ex=>S.blk h2 cells C s₀ H₀ ex
 have L:=fun cells C s₀ H₀ ex=>(B cells C s₀ H₀ ex).loc i x hx (by simp)
 exact xK (X:=X) s i (Gn S h1) (by rw [S.hN];exact S.nd) hi' (fun cells C s₀ H₀ ex=>hc _ (B cells C s₀ H₀ ex) ⟨rfl,rfl,rfl,rfl,rfl,rfl⟩) (fun cells C s₀ H₀ ex=>he _ (B cells C s₀ H₀ ex) ⟨rfl,rfl,rfl,rfl,rfl,rfl⟩)
  S.calm (by rw [S.hN];exact hx) (fun cells C s₀ H₀ ex=>(L cells C s₀ H₀ ex).1) (fun cells C s₀ H₀ ex=>(L cells C s₀ H₀ ex).2) hs
theorem GD {elt:Expr} {gens:List Comprehension} {scope:Scope} {y:Str} {pos':Pos} {line:Nat} (hk:X.env.scope.kind=.function) (hy:X.env.scope.names.lookup y=some .local) (hl:(pos'.line==pos.line)=true)
  (hn:(scope.names.any fun (n,k)=>n==y&&(k==NameKind.local||k==NameKind.cell))=false):swapsWith (.ListComp elt gens scope pos) (some (.Name y pos')) line X.env=pure true:=by
 have e1:(X.env.blockKind==ScopeKind.function)=true:=by unfold Env.blockKind;rw [hk];rfl
 have e2:(X.env.kindOf y==some NameKind.local)=true:=by unfold Env.kindOf;rw [hy];rfl
 show (pure (X.env.blockKind==.function&&X.env.kindOf y==some .local&&pos'.line==pos.line&&!(scope.names.any fun (n,k)=>n==y&&(k==NameKind.local||k==NameKind.cell))):Sem Bool)=pure true
 rw [e1,e2,hl,hn];rfl
theorem my {elt:Expr} {gens:List Comprehension} {scope:Scope} {y:Str} {pos':Pos} {line:Nat} (hy:X.env.scope.names.lookup y=some .cell\/X.env.scope.names.lookup y=some .free):swapsWith (.ListComp elt gens scope pos) (some (.Name y pos')) line X.env=pure false:=by
 have e2:(X.env.kindOf y==some NameKind.local)=false:=by
  unfold Env.kindOf;rcases hy with hy | hy<;>rw [hy]<;>rfl
 show (pure (X.env.blockKind==.function&&X.env.kindOf y==some .local&&pos'.line==pos.line&&!(scope.names.any fun (n,k)=>n==y&&(k==NameKind.local||k==NameKind.cell))):Sem Bool)=pure false
 rw [e2,Bool.and_false,Bool.false_and,Bool.false_and]
theorem cs_append (S:Cp X N gl vs cs ls lo gs) (i:Nat) {x:Str} {apos cpos:Pos} (hi:N[i]?=some x) (hv:vs.contains i=true) (ha:PE X a (tE X.K W fa)) (hs:starEach [a] X.env=[(false,eval a X.env)])
  (hbase:attributeBase (.Name x p) "append" X.env (eval (.Name x p) X.env)=eval (.Name x p) X.env) (hline:(apos.endLine==cpos.line)=true)
  (hfew:((backTo cpos (starEach [a] X.env)).all (fun x=>!x.1)&&(backToKw cpos (keywordEach [] X.env)).all (fun x=>x.1.isSome)
   && decide ([a].length+([]:List Keyword).length+(if ([]:List Keyword).isEmpty then 0 else 1)<30))=true)
  (hsw:swapsWith (.Call (.Attribute (.Name x p) "append" apos) [a] [] cpos) none pos.line X.env=pure false) :
  PS X (.Expr (.Call (.Attribute (.Name x p) "append" apos) [a] [] cpos) pos) (tS X.K W (aE i fa)):=
 rJ i ha (by rw [S.hN];exact hi) (S.vis i x hi hv) (S.nm x (mem_of_getElem? hi)).1 (S.nm x (mem_of_getElem? hi)).2 hs hbase hline hfew hsw
end
noncomputable def eU (g:JI->Option JI) (fa:F1):F1:=bf fa fun p Γ=>match g p.d with
 | some d=>.ok ⟨.leaf,d⟩ Γ
 | none=>.no
noncomputable def nr:JI->Option JI
 | .int i=>some (.int (-i))
 | _=>none
noncomputable def Jo (fa fb:F1):F1:=bf fa fun p=>bf fb fun q=>fun Γ=>match p.s,p.d,q.d with
 | .lst .leaf,.list ds,.int k=>if dI k&&decide (ds.length*k.toNat<=sizeLine) then .ok ⟨.lst .leaf,.list (List.replicate k.toNat ds).flatten⟩ Γ else .no
 | _,_,_=>.no
noncomputable def cL:Option (Option PV)->Bool
 | some (some ⟨.lst .leaf,.list _⟩)=>true
 | _=>false
noncomputable def zz (i:Nat) (p q:PV) (Γ:Ev):fJ:=match Γ[i]? with
 | some (some ⟨.lst .leaf,.list ds⟩)=>(match q.d with
  | .int k=>(match fq ds.length k with
   | some j=>if T.coer .leaf p then .nx (Γ.set i (some ⟨.lst .leaf,.list (ds.set j p.d)⟩)) else .no
   | none=>.no)
  | _=>.no)
 | _=>.no
noncomputable def gJ (i:Nat) (fv fk:F1):FS:=fun Γ=>if cL Γ[i]? then jO fv (fun p=>jO fk (zz i p)) Γ else .no
section
variable {K:Fg} {W:XW} {σ:St} {H:Hp} {Q:VK} {D:fP} {fa fb:F1} {fl:FL}
theorem CP {r:V->Hp->VK->Prop} {g:JI->Option JI} (hg:∀x H Q a d,Rep K H x a->g a=some d->(∀v,Sc v d->Q v H)->r x H Q) (h:tE K W (eU g fa) σ H Q):Il r (tE K W fa) σ H Q:=by
 refine vq h fun He O Fs Γ1 p v H1 G Fs1 nd A h1=>?_
 cases e:g p.d with
 | none=>rw [e] at h1;exact h1.elim
 | some d=>
  rw [e] at h1;exact hg v H1 Q p.d d A.own.rep e fun u hu=>Wants.scal h1 hu A.same A.env.dropL (fun a ha=>ha) nd fun a ha=>A.new a (Jv _ ha)
theorem GF:∀{Fs:List (List Addr)},(∀F∈Fs,F=[])->Fs.flatten=[]
 | [],_=>rfl
 | F::r,h=>by rw [flatten_cons,h F mem_cons_self,GF fun G hG=>h G (JB _ hG)];rfl
theorem Own.leaves {O:List Addr} {G:List Addr} {v:V} {ds:List JI} (h:Own K O H (.lst .leaf) G v (.list ds)):∃l vs,v=.ref l/\G=[l]/\H l=some (.lst vs)/\vs.length=ds.length/\∀(j:Nat) u d,vs[j]?=some u->ds[j]?=some d->Rep K (b8 H O) u d:=by
 cases h with
 | @lst _ l vs _ Fs hsv hp hl hf nd q=>
  have hF:∀F∈Fs,F=[]:=fun F hF=>by
   obtain ⟨j,hj,e⟩:=getElem_of_mem hF;have o:=q j (vs[j]'(by omega)) (ds[j]'(by omega)) F (Jz _) (Jz _) (by rw [Jz hj,e])
   cases o;rfl
  refine ⟨l,vs,rfl,by rw [GF hF],hp,hl,fun j u d h1 h2=>?_⟩
  have hj:=(JD h2).1
  have o:=q j u d (Fs[j]'(by omega)) h1 h2 (Jz _)
  generalize Fs[j]'(by omega)=F at o
  cases o with
  | leaf r=>exact r
theorem Own.mkLeaves {O:List Addr} {l:Addr} {vs:List V} {ds:List JI} (hp:H l=some (.lst vs)) (hl:vs.length=ds.length) (q:∀(j:Nat) u d,vs[j]?=some u->ds[j]?=some d->Rep K (b8 H O) u d):Own K O H (.lst .leaf) [l] (.ref l) (.list ds):=by
 have hF:(List.replicate ds.length ([]:List Addr)).flatten=[]:=GF fun F hF=>(List.mem_replicate.mp hF).2
 have o:Own K O H (.lst .leaf) (l::(List.replicate ds.length ([]:List Addr)).flatten) (.ref l) (.list ds):=by
  refine .lst rfl hp hl (by simp) (by rw [hF];simp) fun j u d F h1 h2 h3=>?_
  have:F=[]:=(List.mem_replicate.mp (mem_of_getElem? h3)).2
  subst this;exact .leaf (q j u d h1 h2)
 rw [hF] at o;exact o
theorem zu {k:PV->PV->Ev->fJ} {R:V->V->Hp->Prop} (h:tS K W (jO fa fun p=>jO fb (k p)) D σ H)
  (hk:∀He O Γ2 p q v u H1 H2 G1 G2 Fs2,O.Nodup->Same H H1->Same H1 H2->EnvOk K He (G2++(G1++O)) Fs2 H2 σ Γ2->(∀a∈G2++G1,He a=none) ->
   Own K (G2++(G1++O)++Fs2.flatten) H2 p.s G1 v p.d->Own K (G2++(G1++O)++Fs2.flatten) H2 q.s G2 u q.d->cC K W He O D (k p q Γ2)->R v u H2) :
  tE K W fa σ H fun v H1=>tE K W fb σ H1 fun u H2=>R v u H2:=by
 refine iY h fun He O Fs Γ1 p v H1 G1 Fs1 _ fr A1 h1=>?_
 refine ⟨He,G1++O,Fs1,Γ1,A1.env,?_⟩
 unfold jO at h1;have nd:O.Nodup:=(JC A1.env.ndO).2.1
 cases e:fb Γ1 with
 | ok q Γ2=>
  rw [e] at h1;intro u H2 G2 Fs2 A2;refine hk He O Γ2 p q v u H1 H2 G1 G2 Fs2 nd A1.same A2.same A2.env (fun a ha=>?_) (A1.own.mono A2.same fun a ha=>?_) A2.own h1
  ·rcases Jx ha with z | z
   ·exact A2.freshG A1.env a z
   ·exact fr a z
  ·rcases Jx ha with z | z
   ·rcases Jx z with z | z
    ·rcases A2.new a (Jw _ z) with y | y
     ·exact .inl (Jv _ y)
     ·exact .inr y
    ·exact .inl (Jw _ z)
   ·rcases A2.new a (Jv _ z) with y | y
    ·exact .inl (Jv _ y)
    ·exact .inr y
 | er c Γ2=>
  rw [e] at h1;intro H2 Fs2 hs E2;exact h1 σ H2 Fs2 E2.dropL
 | no=>
  rw [e] at h1;exact h1
theorem vX {Q':VK} (h:tE K W fa σ H Q) (hq:∀v H',Q v H'->Q' v H'):tE K W fa σ H Q':=by
 obtain ⟨He,O,Fs,Γ,E,h⟩:=h;refine ⟨He,O,Fs,Γ,E,?_⟩
 cases e:fa Γ with
 | ok p Γ'=>rw [e] at h;exact fun v H' G Fs' A=>hq v H' (h v H' G Fs' A)
 | er c Γ'=>rw [e] at h;exact h
 | no=>rw [e] at h;exact h
theorem EnvOk.chg {He:Hp} {O:List Addr} {Fs:List (List Addr)} {Γ:Ev} {i:Nat} {ds:List JI} (E:EnvOk K He O Fs H σ Γ) (h:Γ[i]?=some (some ⟨.lst .leaf,.list ds⟩)) :
  ∃l vs,σ[i]?=some (some (.ref l))/\H l=some (.lst vs)/\vs.length=ds.length/\(∀(j:Nat) u d,vs[j]?=some u->ds[j]?=some d->Rep K (b8 H (O++Fs.flatten)) u d) /\
   ∀(vs':List V) (ds':List JI),vs'.length=ds'.length->(∀(j:Nat) u d,vs'[j]?=some u->ds'[j]?=some d->Rep K (b8 H (O++Fs.flatten)) u d)->∃Fs',EnvOk K He O Fs' (b9 H l (.lst vs')) σ (Γ.set i (some ⟨.lst .leaf,.list ds'⟩)):=by
 obtain ⟨hv,v,F,h1,E1,o1,sub⟩:=E.move h;have hi:i<Γ.length:=(JD h).1
 obtain ⟨_,v0,F0,h10,h20,o0⟩:=E.slot i _ h;obtain ⟨l,vs,rfl,rfl,hp,hl,hr⟩:=o1.leaves;obtain ⟨l',vs',e0,e1,hp',hl',hr'⟩:=o0.leaves;rw [h1] at h10
 cases h10
 cases e0;rw [hp] at hp'
 cases hp'
 refine ⟨l,vs,h1,hp,hl,hr',fun ws ds' hw q=>?_⟩
 have hlF:l∈Fs.flatten:=sub l (Jw _ (List.mem_singleton.mpr rfl))
 have hHe:He l=none:=E.fresh l hlF
 have E4:=E1.mutO (o:=.lst ws) (Jw _ (List.mem_singleton.mpr rfl)) hp hHe
 have ownL:Own K ([l]++O++(Fs.set i []).flatten) (b9 H l (.lst ws)) (.lst .leaf) [l] (.ref l) (.list ds'):=by
  refine Own.mkLeaves g6 hw fun j u d a1 a2=>?_
  rw [FE (Jw _ (Jw _ (List.mem_singleton.mpr rfl)))];refine (q j u d a1 a2).mono (pK (Same.refl _) fun a ha=>.inl ?_)
  rcases Jx ha with z | z
  ·rcases Jx z with z | z
   ·rw [List.mem_singleton.mp z];exact Jv _ hlF
   ·exact Jw _ z
  ·exact Jv _ (sub a (Jv _ z))
 have fin:=EnvOk.put (i:=i) (p:=⟨.lst .leaf,.list ds'⟩) (v:=.ref l) E4 ownL rfl (fun a ha=>by rw [List.mem_singleton.mp ha];exact hHe) (by rw [length_set];exact hi)
 rw [set_set,set_set,B2 h1] at fin;exact ⟨_,fin⟩
theorem GA {o:Option (Option PV)} (h:cL o=true):∃ds,o=some (some ⟨.lst .leaf,.list ds⟩):=by
 unfold cL at h;split at h
 ·exact ⟨_,rfl⟩
 ·cases h
theorem wo {i:Nat} (h:tS K W (gJ i fa fb) D σ H):mx (tE K W fa) (L2.gSub (cY i) (tE K W fb) tY) D σ H:=by
 obtain ⟨He,O,Fs,Γ,E,h⟩:=h;unfold gJ at h
 cases ho:cL Γ[i]? with
 | false=>rw [ho] at h;exact h.elim
 | true=>
  rw [ho] at h;obtain ⟨ds,e0⟩:=GA ho;obtain ⟨l,vs,h1,h2,h3,_,_⟩:=E.chg e0;refine vX (zu (D:=D) (R:=fun v u H2=>tY (.ref l) u v H2 fun H3=>D.nx σ H3) ⟨He,O,Fs,Γ,E,h⟩ fun He O Γ2 p q v u H1 H2 G1 G2 Fs2 nd s1 s2 E2 fr o1 o2 w=>?_) fun v H' q=>⟨.ref l,h1,q⟩
  unfold zz at w;split at w
  ·rename_i ds1 e1
   split at w
   ·rename_i k ek
    split at w
    ·rename_i j ej
     cases hc:T.coer .leaf p with
     | false=>rw [hc] at w;exact w.elim
     | true=>
      rw [hc] at w;have E3:EnvOk K He O Fs2 H2 σ Γ2:=E2.drop (fun a ha=>Jv _ (Jv _ ha)) nd
      obtain ⟨l1,vs1,q1,q2,q3,q4,q5⟩:=E3.chg e1;rw [h1] at q1
      cases q1;have hu:=o2.rep
      rw [ek] at hu
      cases hu;have ov:Own K (O++Fs2.flatten) H2 .leaf [] v p.d:=by
       refine o1.coer (s:=.leaf) hc (fun a ha=>?_) fun a ha z=>?_
       ·rcases Jx ha with z | z
        ·exact Jw _ (Jv _ (Jv _ z))
        ·exact Jv _ z
       ·exfalso
        have ndE:=E2.nd
        rw [append_assoc] at ndE;have n2:=(JC ndE).2.1
        rw [append_assoc] at n2;exact (JC n2).2.2 a ha a z rfl
      cases ov with
      | leaf rv=>
       have ixl:fq vs1.length k=some j:=by rw [q3];exact ej
       obtain ⟨Fs',E4⟩:=q5 (vs1.set j v) (ds1.set j p.d) (by rw [length_set,length_set,q3]) fun m x d a1 a2=>by
        by_cases hm:m=j
        ·subst hm
         rw [getElem?_set] at a1 a2
         rw [if_pos rfl] at a1 a2
         split at a1
         ·split at a2
          ·cases a1;cases a2;exact rv
          ·cases a2
         ·cases a1
        ·rw [getElem?_set_ne (Ne.symm hm)] at a1 a2
         exact q4 m x d a1 a2
       exact ⟨l,vs1,k,j,rfl,rfl,q2,ixl,w σ _ Fs' E4⟩
    ·exact w.elim
   ·exact w.elim
  ·exact w.elim
end
section
variable {X:Cx}
theorem zo:IY X (unaryOp .USub) (fun x H Q=>∃i,x=.int i/\Q (.int (-i)) H):=by
 intro pins s σ H x v Q I rx h;obtain ⟨i,rfl,q⟩:=h;obtain ⟨t,rfl⟩:=rx;exact neg_int ⟨.int (-i),H,I.tok _,⟨_,rfl⟩,q⟩
end
section
variable {X:Cx}
variable {N gl:List Str} {vs cs ls lo gs:List Nat} {W:XW} {a b c e:Expr} {es:List Expr} {pos p:Pos} {fa fb fc:F1} {fl:FL} {g:FS}
theorem cs_setI (S:Cp X N gl vs cs ls lo gs) (i:Nat) {x:Str} {px pos':Pos} (hi:N[i]?=some x) (hv:vs.contains i=true) (ha:PE X a (tE X.K W fa)) (hb:PE X b (tE X.K W fb))
  (hs:swapsWithSole [.Subscript (.Name x px) b pos'] a pos.line X.env=pure false) (hw:swappedStores [.Subscript (.Name x px) b pos'] a X.env=pure none)
  (h1:(assignEach [.Subscript (.Name x px) b pos'] X.env).map (·.2)=[assign (.Subscript (.Name x px) b pos') X.env])
  (has:∀v,assign (.Subscript (.Name x px) b pos') X.env v=(do
   let ov <-holding [v] (eval (.Name x px) X.env)
   let iv <-holding [v,ov] (eval b X.env)
   standAt pos'
   holding [v,ov,iv] (setItem ov iv v)
   release [v,ov,iv] [])):PS X (.Assign [.Subscript (.Name x px) b pos'] a pos) (tS X.K W (gJ i fa fb)):=by
 have m:=S.nm x (mem_of_getElem? hi)
 exact fm (Aq ha (As (zd (by rw [S.hN];exact hi) (S.vis i x hi hv) m.1 m.2) hb tv has) hs hw h1) fun _ _ _=>wo
end
noncomputable def fD:Expr->Bool
 | .Starred ..=>true
 | _=>false
theorem bS {e:Expr} {es:List Expr} {env:Env} (h:fD e=false):starEach (e::es) env=(false,eval e env)::starEach es env:=by
 cases e<;>first | rfl | cases h
theorem eA {a:Expr} {env:Env} (h:fD a=false):starEach [a] env=[(false,eval a env)]:=bS h
theorem mB {a b:Expr} {env:Env} (h:fD a=false) (h2:fD b=false):starEach [a,b] env=[(false,eval a env),(false,eval b env)]:=by rw [bS h,eA h2]
noncomputable def DefOk (P:Program) (w:World) (K:Fg) (mg:Str->Option Value) (base:Heap) (j:Nat) (x:Str) (n:Nat) (den:List JI->b4):Prop:=
 ∃(f:Addr) (fd:FuncData) (ps:List Str),e8 P w K mg base lQ j f fd ps (nZ K n den)/\mg x=some (.ref f)/\PySem.W.keepIn K (.ref f)=true/\Binds K fd ps []
noncomputable def iS (K:Fg) (mg:Str->Option Value) (x:Str) (d:JI):Prop:=∃u v,mg x=some u/\RelV v u/\∀H,Rep K H v d
theorem DefOk.cal {X:Cx} {j k n:Nat} {x:Str} {den:List JI->b4} (h:DefOk X.prog X.w X.K X.mg X.base j x n den) (hr:Room k X.A) (hj:decide (j<=k)=true):pH X x n den:=by
 obtain ⟨f,fd,ps,F,a,b,c⟩:=h;exact ⟨j,f,fd,ps,F,hr.mono (of_decide_eq_true hj),a,b,c⟩
noncomputable def G4:JI->V
 | .none=>.non
 | .bool b=>.bl b
 | .int i=>.int i
 | .str x=>.str x
 | _=>.non
noncomputable def rV:List Value->List JI->Bool
 | .int i _::r,.int j::ds=>decide (i=j)&&rV r ds
 | .str x _::r,.str y::ds=>decide (x=y)&&rV r ds
 | [],[]=>true
 | _,_=>false
theorem FA:∀{us:List Value} {ds:List JI},rV us ds=true->Vals (ds.map G4) us/\∀d∈ds,Sc (G4 d) d
 | [],[],_=>⟨.nil,fun d hd=>(nomatch hd)⟩
 | .int i t::r,.int j::ds,h=>by
  simp only [rV,Bool.and_eq_true,decide_eq_true_eq] at h
  obtain ⟨rfl,h⟩:=h;obtain ⟨a,b⟩:=FA h;refine ⟨.cons ⟨t,rfl⟩ a,fun d hd=>?_⟩
  rcases Jy hd with z | z
  ·rw [z];exact .int i
  ·exact b d z
 | .str i t::r,.str j::ds,h=>by
  simp only [rV,Bool.and_eq_true,decide_eq_true_eq] at h
  obtain ⟨rfl,h⟩:=h;obtain ⟨a,b⟩:=FA h;refine ⟨.cons ⟨t,rfl⟩ a,fun d hd=>?_⟩
  rcases Jy hd with z | z
  ·rw [z];exact .str i
  ·exact b d z
noncomputable def BC (its:Array Value) (ds:List JI):Bool:=decide (its.size<=sizeLine)&&rV its.toList ds
theorem xP {K:Fg} {mg:Str->Option Value} {x:Str} {a:Addr} {dd:Option Addr} {its:Array Value} {n:Nat} {sl:Array (Option Value)} {ds:List JI} (hm:mg x=some (.ref a)) (l:K.lookup a=some ⟨.type "tuple",dd,.seq its n,sl⟩) (h:BC its ds=true):iS K mg x (.tuple ds):=by
 unfold BC at h;simp only [Bool.and_eq_true,decide_eq_true_eq] at h
 obtain ⟨v,s⟩:=FA h.2;refine ⟨.ref a,.ref a,hm,rfl,fun H=>.tup (vs:=ds.map G4) (.inr ⟨_,its,n,l,rfl,rfl,h.1,v⟩) (by simp) fun i v d h1 h2=>?_⟩
 rw [getElem?_map,h2] at h1
 cases h1;exact (s d (mem_of_getElem? h2)).rep
theorem xR {K:Fg} {mg:Str->Option Value} {x:Str} {i:Int} {t:Tok} (hm:mg x=some (.int i t)):iS K mg x (.int i):=⟨.int i t,.int i,hm,⟨t,rfl⟩,fun H=>.int i⟩
theorem AU {K:Fg} {m:List JI->b4} {H:Hp} {a:Addr} {ns:List Int} {E:XK} (h:m [.list (ns.map .int)]=.ok ⟨.leaf,.bool true⟩) (hS:SqL K H a (ns.map V.int)):nZ K 1 m [.ref a] H (fun v _=>v=.bl true) E:=by
 refine ⟨rfl,[],[.list (ns.map .int)],nodup_nil,(fun _ z=>nomatch z),⟨rfl,fun i v d h1 h2=>?_⟩,?_⟩
 ·rw [FD]
  match i,h1,h2 with
  | 0,h1,h2=>
   cases h1
   cases h2;refine .lst hS (by simp) fun i v d h1 h2=>?_
   rw [getElem?_map] at h1 h2
   cases e:ns[i]? with
   | none=>rw [e] at h1;cases h1
   | some z=>
    rw [e] at h1 h2
    cases h1
    cases h2;exact .int z
  | i+1,h1,h2=>simp at h1
 ·rw [h]
  intro v H' G r
  have o:=r.own.rep
  cases o;rfl
end T
namespace TQ
open PySem PySem.Spec L2 T
open PyProof.Rows hiding St
structure Q (p:Prop):Prop where
 p:p
section
variable {X:Cx} {N gl:List Str} {vs cs ls lo gs:List Nat} {W:XW} {a b c e:Expr} {es:List Expr} {pos p:Pos} {fa fb fc:F1} {fl:FL} {ga gb:FB} {g1 g2 g:FS}
theorem w_cv (S:Cp X N gl vs cs ls lo gs) (i:Nat) {x:Str} (hN:N[i]?=some x) (hv:vs.contains i=true):Q (PE X (.Name x pos) (tE X.K W (ae i))):=⟨by
 have m:=S.nm x (mem_of_getElem? hN)
 exact By (zd (by rw [S.hN];exact hN) (S.vis i x hN hv) m.1 m.2)⟩
theorem mi (S:Cp X N gl vs cs ls lo gs) (i:Nat) {x:Str} (hN:N[i]?=some x) (hv:vs.contains i=true):Q (PE X (.Name x pos) (tE X.K W (cM i))):=⟨by
 have m:=S.nm x (mem_of_getElem? hN)
 exact xI (zd (by rw [S.hN];exact hN) (S.vis i x hN hv) m.1 m.2)⟩
theorem fM (S:Cp X N gl vs cs ls lo gs) (j:Nat) {x:Str} {d:JI} (hj:gl[j]?=some x) (hg:gs.contains j=true) (h:Con X x d):Q (PE X (.Name x pos) (tE X.K W (eK d))):=⟨by
 obtain ⟨u,v,h1,h2,h3⟩:=h;have q:=S.g hj hg
 exact xJ q.1 h1 h2 h3 q.2.1⟩
theorem w_de_int {j:Int} {k pos}:Q (PE X (.Constant (.int j) k pos) (tE X.K W (eK (.int j)))):=⟨br D2 fun _ _ _=>tN fun _=>.int j⟩
theorem jQ {j:Bool} {k pos}:Q (PE X (.Constant (.bool j) k pos) (tE X.K W (eK (.bool j)))):=⟨br yF fun _ _ _=>tN fun _=>.bl j⟩
theorem lV {k pos}:Q (PE X (.Constant .none k pos) (tE X.K W (eK .none))):=⟨br FN fun _ _ _=>tN fun _=>.non⟩
theorem cP {j:Str} {k pos}:Q (PE X (.Constant (.str j) k pos) (tE X.K W (eK (.str j)))):=⟨br Av fun _ _ _=>tN fun _=>.str j⟩
theorem lW (ha:Q (PE X a (tE X.K W fa))) (hb:Q (PE X b (tE X.K W fb))):Q (PE X (.BinOp a .Add b pos) (tE X.K W (aw aR fa fb))):=⟨have ha:=ha.p;have hb:=hb.p;br (jf AL ha hb) fun _ _ _=>iw (BU fun _ _=>.int _)⟩
theorem ma (ha:Q (PE X a (tE X.K W fa))) (hb:Q (PE X b (tE X.K W fb))):Q (PE X (.BinOp a .Sub b pos) (tE X.K W (aw gSub fa fb))):=⟨have ha:=ha.p;have hb:=hb.p;br (jf AD ha hb) fun _ _ _=>iw (BU fun _ _=>.int _)⟩
theorem Cu (ha:Q (PE X a (tE X.K W fa))) (hb:Q (PE X b (tE X.K W fb))):Q (PE X (.BinOp a .Mult b pos) (tE X.K W (aw nt fa fb))):=⟨have ha:=ha.p;have hb:=hb.p;br (jf AG ha hb) fun _ _ _=>iw (qx (fun i j h=>by
 simp only [r9,Bool.or_eq_true,Bool.and_eq_true,decide_eq_true_eq] at h
 exact h) fun _ _=>.int _)⟩
theorem Gb (ha:Q (PE X a (tE X.K W fa))) (hb:Q (PE X b (tE X.K W fb))):Q (PE X (.BinOp a .FloorDiv b pos) (tE X.K W (aw nu fa fb))):=⟨have ha:=ha.p;have hb:=hb.p;br (jf wX ha hb) fun _ _ _=>iw (qx (fun i j h=>by
 simp only [xW,Bool.and_eq_true,decide_eq_true_eq] at h
 exact h) fun _ _=>.int _)⟩
theorem nY (ha:Q (PE X a (tE X.K W fa))) (hb:Q (PE X b (tE X.K W fb))):Q (PE X (.BinOp a .Mod b pos) (tE X.K W (aw bH fa fb))):=⟨have ha:=ha.p;have hb:=hb.p;br (jf AH ha hb) fun _ _ _=>iw (qx (fun i j h=>by
 simp only [xV,decide_eq_true_eq] at h
 exact h) fun _ _=>.int _)⟩
theorem sG (ha:Q (PE X a (tE X.K W fa))) (hb:Q (PE X b (tE X.K W fb))):Q (PE X (.BinOp a .Pow b pos) (tE X.K W (aw xA fa fb))):=⟨have ha:=ha.p;have hb:=hb.p;br (jf AE ha hb) fun _ _ _=>iw (qx (fun i j h=>by
 simp only [xU,Bool.and_eq_true,decide_eq_true_eq] at h
 exact ⟨h.1.1,h.1.2,h.2⟩) fun _ _=>.int _)⟩
theorem mj (ha:Q (PE X a (tE X.K W fa))):Q (PE X (.UnaryOp .USub a pos) (tE X.K W (eU nr fa))):=⟨have ha:=ha.p;br (Dc zo ha) fun _ _ _=>CP fun x H Q a d r e k=>by
 cases r<;>simp only [nr] at e<;>cases e
 exact ⟨_,rfl,k _ (.int _)⟩⟩
theorem Cv (ha:Q (PE X a (tE X.K W fa))):Q (PE X (.UnaryOp .Not a pos) (tE X.K W (jy fa))):=⟨have ha:=ha.p;br (Aw ha) fun _ _ _=>zO⟩
theorem GY {op:CmpOp} {r:R2} {g:JI->JI->Option JI} (k:Ck X op r g) (ha:Q (PE X a (tE X.K W fa))) (hb:Q (PE X b (tE X.K W fb))) (hm:behindInMarks op b=false):Q (PE X (.Compare a [op] [b] pos) (tE X.K W (aw g fa fb))):=⟨have ha:=ha.p;have hb:=hb.p;Bz k.o k.g ha hb hm⟩
theorem CA {op op':CmpOp} {r r':R2} {g g':JI->JI->Option JI} (k:Ck X op r g) (k':Ck X op' r' g') (ha:Q (PE X a (tE X.K W fa))) (hb:Q (PE X b (tE X.K W fb))) (hc:Q (PE X c (tE X.K W fc))) (hm:lastMarks [op,op'] [b,c]=false):Q (PE X (.Compare a [op,op'] [b,c] pos) (tE X.K W (gm g g' fa fb fc))):=⟨have ha:=ha.p;have hb:=hb.p;have hc:=hc.p;u5 k.o k.g k'.o k'.g ha hb hc hm⟩
theorem oh {op} (h:Q (PE X a (tE X.K W fa))):Q (PE X (.BoolOp op [a] pos) (tE X.K W fa)):=⟨L2.pe_one h.p⟩
theorem pL (ha:Q (PE X a (tE X.K W fa))) (hb:Q (PE X (.BoolOp .And (b::es) pos) (tE X.K W fb))):Q (PE X (.BoolOp .And (a::b::es) pos) (tE X.K W (eY fa fb))):=⟨have ha:=ha.p;have hb:=hb.p;br (Az ha hb) fun _ _ _=>Ab⟩
theorem FM (ha:Q (PE X a (tE X.K W fa))) (hb:Q (PE X (.BoolOp .Or (b::es) pos) (tE X.K W fb))):Q (PE X (.BoolOp .Or (a::b::es) pos) (tE X.K W (xF fa fb))):=⟨have ha:=ha.p;have hb:=hb.p;br (Dd ha hb) fun _ _ _=>CT⟩
theorem B0 (hc:Q (PT X c (tT X.K W ga))) (ha:Q (PE X a (tE X.K W fa))) (hb:Q (PE X b (tE X.K W fb))):Q (PE X (.IfExp c a b pos) (tE X.K W (rH ga fa fb))):=⟨have hc:=hc.p;have ha:=ha.p;have hb:=hb.p;br (uk hc ha hb) fun _ _ _=>CU⟩
theorem w_de_idx (ha:Q (PE X a (tE X.K W fa))) (hb:Q (PE X b (tE X.K W fb))) (hs:gZ b):Q (PE X (.Subscript a b pos) (tE X.K W (ai fa fb))):=⟨have ha:=ha.p;have hb:=hb.p;br (uj Fu ha hb hs) fun _ _ _=>zT⟩
theorem kj (s:Sh) (h:Q (PA X es (tA X.K W fl))):Q (PE X (.List es pos) (tE X.K W (bb s fl))):=⟨have h:=h.p;br (Ax h) fun _ _ _=>wu⟩
theorem lT {x1} (h:Q (PA X es (tA X.K W fl))):Q (PE X (.Tuple es x1 pos) (tE X.K W (bJ fl))):=⟨have h:=h.p;br (uh h) fun _ _ _=>zH⟩
theorem w_da_nil :Q (PA X [] (tA X.K W af)):=⟨T.da_nil ⟩
theorem w_da_cons (ha:Q (PE X e (tE X.K W fa))) (hr:Q (PA X es (tA X.K W fl))) (hs:starEach (e::es) X.env=(false,eval e X.env)::starEach es X.env):Q (PA X (e::es) (tA X.K W (ab fa fl))):=⟨T.da_cons ha.p hr.p hs⟩
theorem GX {scope:Scope} {x:Str} {px:Pos} {iter elt:Expr} {ifs:List Expr} {fi:FI} {fe:F1} {fc:FB} {vs' cs' lo' gs':List Nat} (S:Cp X N gl vs cs ls lo gs) (s:Sh) (i:Nat) (hx:N[i]?=some x) (h1:jI N i cs scope=true) (h2:kE N gl vs' cs' [i] lo' gs' scope=true) (hi':Q (PI X (.Name x px) iter (tI X.K W fi))) (hc:qI X N gl vs' cs' [i] lo' gs' fun Y=>Q (PF Y ifs (tT Y.K W0 fc))) (he:qI X N gl vs' cs' [i] lo' gs' fun Y=>Q (PE Y elt (tE Y.K W0 fe))) (hs:∀x,foldedSetIterable iter X.env x=pure x):Q (PE X (.ListComp elt [⟨.Name x px,iter,ifs,0⟩] scope pos) (tE X.K W (ax s i fi fc fe))):=⟨T.co S s i hx h1 h2 hi'.p (fun Y S F=>(hc Y S F).p) (fun Y S F=>(he Y S F).p) hs⟩
theorem sD {scope:Scope} {x y:Str} {px pos' spos:Pos} {iter elt:Expr} {ifs:List Expr} {fi:FI} {fe:F1} {fc:FB} {vs' cs' lo' gs':List Nat} (S:Cp X N gl vs cs ls lo gs) (own:Bool) (j:Nat) (s:Sh) (i:Nat) (hy:N[j]?=some y) (hyl:lo.contains j=true) (hx:N[i]?=some x) (hsl:(pos'.line==pos.line)=true) (hsn:(scope.names.any fun (n,k)=>n==y&&(k==NameKind.local||k==NameKind.cell))=false) (h1:jI N i cs scope=true) (h2:kE N gl vs' cs' [i] lo' gs' scope=true) (hi':Q (PI X (.Name x px) iter (tI X.K W fi))) (hc:qI X N gl vs' cs' [i] lo' gs' fun Y=>Q (PF Y ifs (tT Y.K W0 fc))) (he:qI X N gl vs' cs' [i] lo' gs' fun Y=>Q (PE Y elt (tE Y.K W0 fe))) (hs:∀x,foldedSetIterable iter X.env x=pure x):Q (PS X (.Assign [.Name y pos'] (.ListComp elt [⟨.Name x px,iter,ifs,0⟩] scope pos) spos) (tS X.K W (ay own j (ax s i fi fc fe)))):=⟨by
 have hi':=hi'.p
 have hc:=fun Y S F=>(hc Y S F).p
 have he:=fun Y S F=>(he Y S F).p
 have B:=fun cells C s₀ H₀ ex=>S.blk h2 cells C s₀ H₀ ex
 have L:=fun cells C s₀ H₀ ex=>(B cells C s₀ H₀ ex).loc i x hx (by simp)
 exact o7 (X:=X) own j s i (Gn S h1) (by rw [S.hN];exact S.nd) hi' (fun cells C s₀ H₀ ex=>hc _ (B cells C s₀ H₀ ex) ⟨rfl,rfl,rfl,rfl,rfl,rfl⟩) (fun cells C s₀ H₀ ex=>he _ (B cells C s₀ H₀ ex) ⟨rfl,rfl,rfl,rfl,rfl,rfl⟩)
  (GD S.kind (S.loo j y hy hyl) hsl hsn) (by rw [S.hN];exact hy) (S.loo j y hy hyl) S.calm (by rw [S.hN];exact hx) (fun cells C s₀ H₀ ex=>(L cells C s₀ H₀ ex).1) (fun cells C s₀ H₀ ex=>(L cells C s₀ H₀ ex).2) hs⟩
theorem sL (S:Cp X N gl vs cs ls lo gs) (j:Nat) (hj:gl[j]?=some ("len":Str)) (hg:gs.contains j=true) (hm:X.mg "len"=none) (ha:Q (PA X (e::es) (tA X.K W fl))) (he:starEach (e::es) X.env=(false,eval e X.env)::starEach es X.env) (hpl:(backTo pos (starEach es X.env)).any (·.1)=false):Q (PE X (.Call (.Name "len" p) (e::es) [] pos) (tE X.K W (bt aQ fl))):=⟨have ha:=ha.p;qA (call_len_seq.or lM) Bj DO hm ha (S.g hj hg).1 (S.g hj hg).2.2 (S.g hj hg).2.1 he hpl⟩
theorem sr (S:Cp X N gl vs cs ls lo gs) (j:Nat) (hj:gl[j]?=some ("all":Str)) (hg:gs.contains j=true) (hm:X.mg "all"=none) (ha:Q (PA X (e::es) (tA X.K W fl))) (he:starEach (e::es) X.env=(false,eval e X.env)::starEach es X.env) (hpl:(backTo pos (starEach es X.env)).any (·.1)=false):Q (PE X (.Call (.Name "all" p) (e::es) [] pos) (tE X.K W (bt (da false) fl))):=⟨have ha:=ha.p;qA (rZ S.calm) uO DQ hm ha (S.g hj hg).1 (S.g hj hg).2.2 (S.g hj hg).2.1 he hpl⟩
theorem mm (S:Cp X N gl vs cs ls lo gs) (j:Nat) (hj:gl[j]?=some ("any":Str)) (hg:gs.contains j=true) (hm:X.mg "any"=none) (ha:Q (PA X (e::es) (tA X.K W fl))) (he:starEach (e::es) X.env=(false,eval e X.env)::starEach es X.env) (hpl:(backTo pos (starEach es X.env)).any (·.1)=false):Q (PE X (.Call (.Name "any" p) (e::es) [] pos) (tE X.K W (bt (da true) fl))):=⟨have ha:=ha.p;qA (rY S.calm) uO DP hm ha (S.g hj hg).1 (S.g hj hg).2.2 (S.g hj hg).2.1 he hpl⟩
theorem sM (S:Cp X N gl vs cs ls lo gs) (j:Nat) (hj:gl[j]?=some ("int":Str)) (hg:gs.contains j=true) (hm:X.mg "int"=none) (ha:Q (PA X (e::es) (tA X.K W fl))) (he:starEach (e::es) X.env=(false,eval e X.env)::starEach es X.env) (hpl:(backTo pos (starEach es X.env)).any (·.1)=false):Q (PE X (.Call (.Name "int" p) (e::es) [] pos) (tE X.K W (bt oX fl))):=⟨have ha:=ha.p;DE rX Bk yS hm ha (S.g hj hg).1 (S.g hj hg).2.2 (S.g hj hg).2.1 he hpl⟩
theorem Gu (S:Cp X N gl vs cs ls lo gs) (j:Nat) (hj:gl[j]?=some ("list":Str)) (hg:gs.contains j=true) (hm:X.mg "list"=none) (ha:Q (PE X e (tE X.K W fa))) (hs:starEach [e] X.env=[(false,eval e X.env)]):Q (PE X (.Call (.Name "list" p) [e] [] pos) (tE X.K W (cW fa))):=⟨have ha:=ha.p;rT hm ha (S.g hj hg).1 hs⟩
theorem w_cc {x:Str} {n:Nat} {den:List JI->b4} (S:Cp X N gl vs cs ls lo gs) (j:Nat) (hj:gl[j]?=some x) (hg:gs.contains j=true) (C:pH X x n den) (ha:Q (PA X (e::es) (tA X.K W fl))) (he:starEach (e::es) X.env=(false,eval e X.env)::starEach es X.env) (hpl:(backTo pos (starEach es X.env)).any (·.1)=false):Q (PE X (.Call (.Name x p) (e::es) [] pos) (tE X.K W (ag n den fl))):=⟨by
 have ha:=ha.p
 obtain ⟨k,f,fd,ps,F,hr,hm,hk,hb⟩:=C;exact xM F hr hm hk hb ha (S.g hj hg).1 (S.g hj hg).2.1 he hpl⟩
theorem dj {tg:Expr} (S:Cp X N gl vs cs ls lo gs) (j:Nat) (hj:gl[j]?=some ("range":Str)) (hg:gs.contains j=true) (hm:X.mg "range"=none) (ha:Q (PA X [a] (tA X.K W fl))) (hs:starEach [a] X.env=[(false,eval a X.env)]):Q (PI X tg (.Call (.Name "range" p) [a] [] pos) (tI X.K W (eO fl))):=⟨have ha:=ha.p;DD hm ha (S.g hj hg).1 hs⟩
theorem yr {tg:Expr} (S:Cp X N gl vs cs ls lo gs) (j:Nat) (hj:gl[j]?=some ("range":Str)) (hg:gs.contains j=true) (hm:X.mg "range"=none) (ha:Q (PA X [a,b] (tA X.K W fl))) (hs:starEach [a,b] X.env=[(false,eval a X.env),(false,eval b X.env)]) (hs2:starEach [b] X.env=[(false,eval b X.env)]):Q (PI X tg (.Call (.Name "range" p) [a,b] [] pos) (tI X.K W (xr fl))):=⟨have ha:=ha.p;DC hm ha (S.g hj hg).1 hs hs2⟩
theorem w_di_seq {tg:Expr} (ha:Q (PE X a (tE X.K W fa))):Q (PI X tg a (tI X.K W (aS fa))):=⟨have ha:=ha.p;qG (qk ha) fun _ _ _=>wz⟩
theorem GW {op:CmpOp} {r:R2} {g:JI->JI->Option JI} (k:Ck X op r g) (ha:Q (PE X a (tE X.K W fa))) (hb:Q (PE X b (tE X.K W fb))) (hm:behindInMarks op b=false):Q (PT X (.Compare a [op] [b] pos) (tT X.K W (aF ah (aw g fa fb)))):=⟨T.ct k ha.p hb.p hm⟩
theorem lU (ha:Q (PT X a (tT X.K W ga))):Q (PT X (.UnaryOp .Not a pos) (tT X.K W (b6 ga))):=⟨have ha:=ha.p;vm (Ao ha) fun _ _ _=>wF⟩
theorem yp (ha:Q (PT X a (tT X.K W ga))):Q (PW X (.BoolOp .And [a] pos) (tT X.K W ga)):=⟨have ha:=ha.p;wI ha⟩
theorem lX (ha:Q (PT X a (tT X.K W ga))):Q (PW X (.BoolOp .Or [a] pos) (tT X.K W ga)):=⟨have ha:=ha.p;Am ha⟩
theorem yq (ha:Q (PT X a (tT X.K W ga))) (hb:Q (PW X (.BoolOp .And (b::es) pos) (tT X.K W gb))):Q (PW X (.BoolOp .And (a::b::es) pos) (tT X.K W (dB ga gb))):=⟨have ha:=ha.p;have hb:=hb.p;yU (An ha hb) fun _ _ _=>wG⟩
theorem iV (ha:Q (PT X a (tT X.K W ga))) (hb:Q (PW X (.BoolOp .Or (b::es) pos) (tT X.K W gb))):Q (PW X (.BoolOp .Or (a::b::es) pos) (tT X.K W (eL ga gb))):=⟨have ha:=ha.p;have hb:=hb.p;yU (C7 ha hb) fun _ _ _=>zZ⟩
theorem iE (h:Q (PW X a (tT X.K W ga))):Q (PT X a (tT X.K W ga)):=⟨L2.PW.pt h.p⟩
theorem gz (ha:Q (PE X a (tE X.K W fa))) (he:∀whole,isTrue a X.env whole=(do let v <-whole;standAt a.pos;holding [v] (truthy v))):Q (PT X a (tT X.K W (aF bh fa))):=⟨have ha:=ha.p;vm (ua ha he) fun _ _ _=>zI⟩
theorem dC :Q (PSs X [] (tS X.K W aG)):=⟨Fo FG fun _ _ _=>wq⟩
theorem fQ {st:Stmt} (h1:Q (PS X st (tS X.K W g1))):Q (PSs X [st] (tS X.K W g1)):=⟨have h1:=h1.p;ym h1⟩
theorem bg {st:Stmt} {rest:List Stmt} (h1:Q (PS X st (tS X.K W g1))) (h2:Q (PSs X rest (tS X.K W g2))):Q (PSs X (st::rest) (tS X.K W (aq g1 g2))):=⟨have h1:=h1.p;have h2:=h2.p;Fo (sC h1 h2) fun _ _ _=>zK⟩
theorem sF (ha:Q (PE X a (tE X.K W fa))):Q (PS X (.Return (some a) pos) (tS X.K W (aL fa))):=⟨have ha:=ha.p;fm (D3 ha) fun _ _ _=>zL⟩
theorem dh {A B:List Stmt} (hc:Q (PT X c (tT X.K W ga))) (ha:Q (PSs X A (tS X.K W g1))) (hb:Q (PSs X B (tS X.K W g2))):Q (PS X (.If c A B pos) (tS X.K W (bL ga g1 g2))):=⟨have hc:=hc.p;have ha:=ha.p;have hb:=hb.p;fm (uc hc ha hb) fun _ _ _=>zS⟩
theorem sv (S:Cp X N gl vs cs ls lo gs) (i:Nat) {x:Str} {px:Pos} {iter:Expr} {body:List Stmt} {fi:FI} {g:FS} (hx:N[i]?=some x) (hl:ls.contains i=true) (hp:PassesOwn (model X.prog X.w) X.A X.env X.xe) (hi':Q (PI X (.Name x px) iter (tI X.K W fi))) (hb:Q (PSs X body (tS X.K W g))) (hs:∀x,foldedSetIterable iter X.env x=pure x):Q (PS X (.For (.Name x px) iter body [] pos) (tS X.K W (dW i fi g))):=⟨have hi':=hi'.p;have hb:=hb.p;Bv i hp (by rw [S.hN];exact S.nd) hi' hb S.calm (by rw [S.hN];exact hx) (S.loc i x hx hl).1 (S.loc i x hx hl).2 hs⟩
theorem md (S:Cp X N gl vs cs ls lo gs) (own:Bool) (i:Nat) {x:Str} {pos':Pos} (hi:N[i]?=some x) (hl:ls.contains i=true) (hs:swapsWith a (some (.Name x pos')) pos.line X.env=pure false) (ha:Q (PE X a (tE X.K W fa))):Q (PS X (.Assign [.Name x pos'] a pos) (tS X.K W (ay own i fa))):=⟨have ha:=ha.p;Bu own i (by rw [S.hN];exact S.nd) ha (by rw [S.hN];exact hi) (S.loc i x hi hl).1 hs (S.loc i x hi hl).2⟩
theorem qJ (S:Cp X N gl vs cs ls lo gs) (i:Nat) {x:Str} {px pos':Pos} (hi:N[i]?=some x) (hv:vs.contains i=true) (ha:Q (PE X a (tE X.K W fa))) (hb:Q (PE X b (tE X.K W fb))) (hs:swapsWithSole [.Subscript (.Name x px) b pos'] a pos.line X.env=pure false) (hw:swappedStores [.Subscript (.Name x px) b pos'] a X.env=pure none) (h1:(assignEach [.Subscript (.Name x px) b pos'] X.env).map (·.2)=[assign (.Subscript (.Name x px) b pos') X.env]) (has:∀v,assign (.Subscript (.Name x px) b pos') X.env v=(do
   let ov <-holding [v] (eval (.Name x px) X.env)
   let iv <-holding [v,ov] (eval b X.env)
   standAt pos'
   holding [v,ov,iv] (setItem ov iv v)
   release [v,ov,iv] [])):Q (PS X (.Assign [.Subscript (.Name x px) b pos'] a pos) (tS X.K W (gJ i fa fb))):=⟨T.cs_setI S i hi hv ha.p hb.p hs hw h1 has⟩
theorem vy (S:Cp X N gl vs cs ls lo gs) (i:Nat) {x:Str} {apos cpos:Pos} (hi:N[i]?=some x) (hv:vs.contains i=true) (ha:Q (PE X a (tE X.K W fa))) (hs:starEach [a] X.env=[(false,eval a X.env)]) (hbase:attributeBase (.Name x p) "append" X.env (eval (.Name x p) X.env)=eval (.Name x p) X.env) (hline:(apos.endLine==cpos.line)=true) (hfew:((backTo cpos (starEach [a] X.env)).all (fun x=>!x.1)&&(backToKw cpos (keywordEach [] X.env)).all (fun x=>x.1.isSome)
   && decide ([a].length+([]:List Keyword).length+(if ([]:List Keyword).isEmpty then 0 else 1)<30))=true) (hsw:swapsWith (.Call (.Attribute (.Name x p) "append" apos) [a] [] cpos) none pos.line X.env=pure false):Q (PS X (.Expr (.Call (.Attribute (.Name x p) "append" apos) [a] [] cpos) pos) (tS X.K W (aE i fa))):=⟨T.cs_append S i hi hv ha.p hs hbase hline hfew hsw⟩
theorem w_df_nil :Q (PF X [] (tT X.K W0 aK)):=⟨DU ug fun σ H Q h=>by
 obtain ⟨He,O,Fs,Γ,E,h⟩:=h;exact h H Fs (Same.refl _) E fun _ z=>.inl z⟩
theorem og (h:Q (PT X c (tT X.K W0 ga))):Q (PF X [c] (tT X.K W0 ga)):=⟨have h:=h.p;Au h⟩
end
end TQ
namespace T
open PySem PySem.Spec L2
open PyProof.Rows hiding St
noncomputable def G8:FS:=fun _=>.no
noncomputable def pU:JI->String
 | .none => "NoneType"
 | .bool _ => "bool"
 | .int _ => "int"
 | .str _ => "str"
 | .list _ => "list"
 | .tuple _ => "tuple"
 | .dict _ => "dict"
noncomputable def iL (t c:String):Bool:=t==c||(t == "bool"&&c == "int")
noncomputable def kinds:List String:=["bool", "int", "str", "list", "tuple"]
theorem xj {K:Fg} {c:String} (hc:c∈kinds):∀t∈["NoneType", "bool", "int", "str", "list", "tuple"],PySem.W.kitOne K (.type t) (.type c)=some (iL t c):=by
 intro t ht;unfold kinds at hc;simp only [mem_cons,not_mem_nil,or_false] at hc ht
 rcases hc with rfl | rfl | rfl | rfl | rfl<;>rcases ht with rfl | rfl | rfl | rfl | rfl | rfl<;>kernel_rfl
section
variable {X:Cx} {pins:List (Addr×Obj)} {σ:St} {H:Hp} {s:Shared} {A:Around} {E:Value->Shared->Prop} {Q:Value->Shared->Prop} {c:Value} {b:Bool}
theorem oV {x:V} {u:Value} {d:JI} (I:Inv X pins σ H s) (rx:RelV x u) (r:Rep X.K H x d) (e:PySem.W.kitOne X.K (.type (pU d)) c=some b) (h:∀tk,Q (.bool b) { s with toks:=tk }) :
  wpAny (model X.prog X.w) A (call (.builtin "isinstance") [u,c]) Q E s:=by
 cases r with
 | non=>exact zh I rx .non e h
 | bl y=>exact zh I rx (.bl y) e h
 | int i=>exact zh I rx (.int i) e h
 | str y=>exact zh I rx (.str y) e h
 | @lst p vs ds hs hl q=>
  rcases hs with (z | ⟨o,z⟩) | ⟨o,its,n,hk,hc,hd,hz,_⟩
  ·exact zh I rx (.lst z) e h
  ·exact zh I rx (.frz z) e h
  ·cases (show u=Value.ref p from rx)
   exact PySem.W.kia_one PySem.W.kitx_list I.kIn ⟨o,I.kIn _ o hk,hc⟩ e nofun h
 | @tup p vs ds hs hl q=>
  rcases hs with (z | ⟨o,z⟩) | ⟨o,its,n,hk,hc,hd,hz,_⟩
  ·exact zh I rx (.tup z) e h
  ·cases (show u=Value.ref p from rx)
   obtain ⟨_,_,_,n,p1,h1,h2,_⟩:=(show ObjOk X.prog X.w H s.heap p (.frz o (.tup vs)) from I.hok p _ z);exact PySem.W.kia_one PySem.W.kitx_tuple I.kIn ⟨p1,h1,h2⟩ e nofun h
  ·cases (show u=Value.ref p from rx)
   exact PySem.W.kia_one PySem.W.kitx_tuple I.kIn ⟨o,I.kIn _ o hk,hc⟩ e nofun h
end
noncomputable def Ag (K:Fg) (c:String):List V->Hp->VK->Prop:=fun xs H Q=>∃x d,xs=[x,.ty c]/\Rep K H x d/\Q (.bl (iL (pU d) c)) H
theorem u9 {X:Cx} {c:String} (hc:c∈kinds):CallR X (.builtin "isinstance") (Ag X.K c):=by
 intro pins s σ H xs us Q I rv h;obtain ⟨x,d,rfl,r,q⟩:=h;match us,rv with
 | [u,t],.cons r1 (.cons r2 .nil)=>
  cases (show t=Value.type c from r2)
  have ht:pU d∈["NoneType", "bool", "int", "str", "list", "tuple"]:=by cases r<;>simp [pU]
  exact oV I r1 r (xj hc _ ht) fun tk=>⟨.bl _,H,I.tok tk,rfl,q⟩
noncomputable def dO (c:String) (fa:F1):F1:=bf fa fun p Γ=>.ok ⟨.leaf,.bool (iL (pU p.d) c)⟩ Γ
theorem zQ {K:Fg} {W:XW} {σ:St} {H:Hp} {Q:VK} {fa:F1} {c:String} (h:tE K W (dO c fa) σ H Q):B9 (Ag K c) (cv (tE K W fa) (cv (tC (.ty c)) gD)) σ H Q:=by
 show tE K W fa σ H fun x H1=>Ag K c [x,.ty c] H1 Q
 refine vq h fun He O Fs Γ1 p v H1 G Fs1 nd A w=>?_
 exact ⟨v,p.d,rfl,A.own.rep,Wants.scal w (.bl _) A.same A.env.dropL (fun a ha=>ha) nd fun a ha=>A.new a (Jv _ ha)⟩
noncomputable def cb (c:FB) (g:FS):Nat->Ev->fJ
 | 0,_=>.no
 | n+1,Γ=>match c Γ with
  | .ok true Γ1=>(match g Γ1 with
   | .nx Γ2=>cb c g n Γ2
   | .ct Γ2=>cb c g n Γ2
   | .bk Γ2=>.nx Γ2
   | .rt p=>.rt p
   | .er e Γ2=>.er e Γ2
   | .no=>.no)
  | .ok false Γ1=>.nx Γ1
  | .er e Γ1=>.er e Γ1
  | .no=>.no
noncomputable def ia (n:Nat) (c:FB) (g:FS):FS:=cb c g n
section
variable {K:Fg} {W:XW} {σ:St} {H:Hp} {Q:VK} {D:fP} {fa fb:F1} {fl:FL}
theorem tJ {n:Nat} {c:FB} {g:FS} (h:tS K W (ia n c g) D σ H):sS (tT K W c) (tS K W g) D σ H:=by
 obtain ⟨He,O,Fs,Γ,E,h⟩:=h;refine ⟨fun m σ' H'=>∃Γk Fk,EnvOk K He O Fk H' σ' Γk/\cC K W He O D (cb c g m Γk),⟨n,Γ,Fs,E,h⟩,?_⟩
 rintro m σ' H' ⟨Γk,Fk,Ek,hw⟩
 cases m with
 | zero=>exact hw.elim
 | succ m=>
  refine ⟨He,O,Fk,Γk,Ek,?_⟩
  rw [cb] at hw
  cases e:c Γk with
  | er x Γ1=>rw [e] at hw;exact fun H2 Fs2 s E2=>hw σ' H2 Fs2 E2
  | no=>rw [e] at hw;exact hw
  | ok b Γ1=>
   rw [e] at hw;intro H2 Fs2 s2 E2 n2
   cases b with
   | false=>rw [if_neg Bool.false_ne_true];exact hw σ' H2 Fs2 E2
   | true=>
    rw [if_pos rfl];refine ⟨fun σ3 H3=>∃Γ3 F3,EnvOk K He O F3 H3 σ3 Γ3/\cC K W He O D (cb c g m Γ3),fun σ3 H3 q=>⟨m,Nat.lt_succ_self _,q⟩,He,O,Fs2,Γ1,E2,?_⟩
    have hw:cC K W He O D (match g Γ1 with | .nx Γ2=>cb c g m Γ2 | .ct Γ2=>cb c g m Γ2 | .bk Γ2=>.nx Γ2 | .rt p=>.rt p | .er e Γ2=>.er e Γ2 | .no=>.no):=hw
    cases eb:g Γ1 with
    | nx Γ'=>rw [eb] at hw;exact fun σ2 H2 F2 E2=>⟨Γ',F2,E2,hw⟩
    | ct Γ'=>rw [eb] at hw;exact fun σ2 H2 F2 E2=>⟨Γ',F2,E2,hw⟩
    | bk Γ'=>rw [eb] at hw;exact fun σ2 H2 F2 E2=>hw σ2 H2 F2 E2
    | rt p=>rw [eb] at hw;exact fun u H2 G r=>hw u H2 G r
    | er x Γ'=>rw [eb] at hw;exact fun σ2 H2 F2 E2=>hw σ2 H2 F2 E2
    | no=>rw [eb] at hw;exact hw
theorem EnvOk.chgF {He:Hp} {O:List Addr} {Fs:List (List Addr)} {Γ:Ev} {i:Nat} {ds:List JI} (E:EnvOk K He O Fs H σ Γ) (h:Γ[i]?=some (some ⟨.lst .leaf,.list ds⟩)) :
  ∃l vs,σ[i]?=some (some (.ref l))/\H l=some (.lst vs)/\vs.length=ds.length/\(∀(j:Nat) u d,vs[j]?=some u->ds[j]?=some d->Rep K (b8 H (O++Fs.flatten)) u d) /\
   ∀(vs':List V) (ds':List JI),vs'.length=ds'.length->(∀(j:Nat) u d,vs'[j]?=some u->ds'[j]?=some d->Rep K (b8 H (O++Fs.flatten)) u d)->EnvOk K He O Fs (b9 H l (.lst vs')) σ (Γ.set i (some ⟨.lst .leaf,.list ds'⟩)):=by
 obtain ⟨hv,v,F,h1,E1,o1,sub⟩:=E.move h;have hi:i<Γ.length:=(JD h).1
 obtain ⟨_,v0,F0,h10,h20,o0⟩:=E.slot i _ h;obtain ⟨l,vs,rfl,rfl,hp,hl,hr⟩:=o1.leaves;obtain ⟨l',vs',e0,e1,hp',hl',hr'⟩:=o0.leaves;rw [h1] at h10
 cases h10
 cases e0;rw [hp] at hp'
 cases hp'
 refine ⟨l,vs,h1,hp,hl,hr',fun ws ds' hw q=>?_⟩
 have hlF:l∈Fs.flatten:=sub l (Jw _ (List.mem_singleton.mpr rfl))
 have hHe:He l=none:=E.fresh l hlF
 have E4:=E1.mutO (o:=.lst ws) (Jw _ (List.mem_singleton.mpr rfl)) hp hHe
 have ownL:Own K ([l]++O++(Fs.set i []).flatten) (b9 H l (.lst ws)) (.lst .leaf) [l] (.ref l) (.list ds'):=by
  refine Own.mkLeaves g6 hw fun j u d a1 a2=>?_
  rw [FE (Jw _ (Jw _ (List.mem_singleton.mpr rfl)))];refine (q j u d a1 a2).mono (pK (Same.refl _) fun a ha=>.inl ?_)
  rcases Jx ha with z | z
  ·rcases Jx z with z | z
   ·rw [List.mem_singleton.mp z];exact Jv _ hlF
   ·exact Jw _ z
  ·exact Jv _ (sub a (Jv _ z))
 have fin:=EnvOk.put (i:=i) (p:=⟨.lst .leaf,.list ds'⟩) (v:=.ref l) E4 ownL rfl (fun a ha=>by rw [List.mem_singleton.mp ha];exact hHe) (by rw [length_set];exact hi)
 rw [set_set,set_set,B2 h1] at fin;rw [e1] at h20;rw [B2 h20] at fin;exact fin
end
noncomputable def tX (K:Fg):List V->Hp->VK->Prop:=fun xs H Q=>∃(p:Addr) (ns:List Int),xs=[.ref p]/\SqL K H p (ns.map V.int)/\ns.length<64/\∀l,H l=none->Q (.ref l) (b9 H l (.lst ((PySem.W.sortI ns).map V.int)))
theorem Ec:∀{ns:List Int} {us:List Value},Vals (ns.map V.int) us->IntsAre us ns
 | [],_,.nil=>.nil
 | n::ns,_,.cons r t=>by
  obtain ⟨tk,rfl⟩:=(show ∃t,_=Value.int n t from r)
  exact .cons _ _ (Ec t)
theorem vals_of:∀{ns:List Int} {us:List Value},IntsAre us ns->Vals (ns.map V.int) us
 | _,_,.nil=>.nil
 | _,_,.cons _ _ t=>.cons ⟨_,rfl⟩ (vals_of t)
theorem pj {X:Cx}:CallR X (.builtin "sorted") (tX X.K):=by
 intro pins s σ H xs us Q I rv h;obtain ⟨p,ns,rfl,hS,h64,q⟩:=h;obtain ⟨u,rfl,ru⟩:=rv.one
 cases ru;obtain ⟨its,r,pl,hz⟩:=I.list hS;have hI:=Ec r
 have hl:its.length=ns.length:=by rw [<-r.length,length_map]
 refine sorted_ints pl.isList hI (by omega) fun out ns' a1 a2 a3=>?_
 have e:=PySem.W.eq_sortI a2 a3
 subst e;obtain ⟨n,ho⟩:=sortedAll_at s.heap its out;have hlen:(PySem.W.sortI ns).length=ns.length:=(PySem.W.sortI_perm ns).length_eq
 have hb:=kr (n:=ns.length) (by omega)
 refine ⟨.ref (s.heap.objs.size+1),b9 H (s.heap.objs.size+1) (.lst ((PySem.W.sortI ns).map V.int)),I.laid (t':=s.toks) (fun b o e=>sortedAll_old e) (Nat.le_succ _) ⟨by rw [length_map,hlen];omega,out.toList,n,vals_of a1,by simpa [seqObj] using ho⟩,rfl,q _ (I.hok.fresh (Nat.le_succ _))⟩
theorem pQ:∀{xs:List V} {us:List Value},xs.length=us.length->(∀(i:Nat) x u,xs[i]?=some x->us[i]?=some u->RelV x u)->Vals xs us
 | [],[],_,_=>.nil
 | x::xs,u::us,hl,h=>.cons (h 0 x u rfl rfl) (pQ (by simpa using hl) fun i x u a b=>h (i+1) x u (by simpa using a) (by simpa using b))
 | [],_::_,hl,_=>by simp at hl
 | _::_,[],hl,_=>by simp at hl
noncomputable def Ip (ta:TA):TE:=fun σ H Q=>ta σ H fun vs H1=>∃j:Int,vs=[.int j]/\-(2 ^ 62)<=j/\j<=sizeLine/\∀l,H1 l=none->Q (.ref l) (b9 H1 l (.lst (fN 0 j.toNat)))
theorem lh {X:Cx} {a:Expr} {ta:TA} {p p2 pos pos2:Pos} (hg:Gl X "list") (hm:X.mg "list"=none) (hg2:Gl X "range") (hm2:X.mg "range"=none) (hc:X.calm=true) (ha:PA X [a] ta) (hs:starEach [a] X.env=[(false,eval a X.env)])
  (hs1:starEach [.Call (.Name "range" p2) [a] [] pos2] X.env=[(false,eval (.Call (.Name "range" p2) [a] [] pos2) X.env)]):PE X (.Call (.Name "list" p) [.Call (.Name "range" p2) [a] [] pos2] [] pos) (Ip ta):=by
 intro pins s σ H Q I h;refine Call_ (vo I hg hm Cd (PyProof.Rows.callWith_type1 ?_ hs1 rfl))
 rw [hs1];show wpAny _ _ (spliced ((false,eval (.Call (.Name "range" p2) [a] [] pos2) X.env)::[])) _ _ s
 refine Calls.spliced_cons (Call_ (vo I hg2 hm2 boot_range (PyProof.Rows.callWith_type1 (b5 (ha pos2 pins s σ H _ I h) fun us s1 ⟨vs,H1,I1,r1,q1⟩=>?_) hs rfl)))
 obtain ⟨j,e,q1,q2,q⟩:=q1;subst e;obtain ⟨u,rfl,ru⟩:=r1.one;obtain ⟨t,rfl⟩:=(show ∃t,u=Value.int j t from ru)
 refine call_range_1 (Calls.spliced_nil ?_)
 have hz:(sizeLine:Int)<2 ^ 62:=by decide
 refine call_list_range (n:=j.toNat) (I.ok.hd hc) (IsRange.new ..) (small_one (by omega) (by omega) q1 (by omega)) (by rw [rangeSize_one];split<;>omega) (by have:(sizeLine:Nat)=2 ^ 24:=rfl;omega) fun h' tk acc' c' hk ho hacc=>?_
 have I2:Inv X pins σ H1 { s1 with heap:=s1.heap.push { cls:=.type "range",data:=.fields #[.int 0 s1.toks,.int j t,.int 1 (s1.toks+1)] },toks:=s1.toks+1+1 }:=I1.kept fun b o e=>JG _ e
 have hv:Vals (fN 0 j.toNat) acc'.toList:=by
  refine pQ (by have:=hacc.1;simp only [Array.length_toList,fN,length_map,List.length_range];omega) fun i x u e1 e2=>?_
  obtain ⟨t2,rfl⟩:=hacc.2 i u (by rw [<-Array.getElem?_toList];exact e2)
  unfold fN at e1;rw [getElem?_map] at e1
  cases e3:(List.range j.toNat)[i]? with
  | none=>rw [e3] at e1;cases e1
  | some k=>
   rw [e3] at e1;obtain ⟨k1,k2⟩:=JD e3
   simp at k2
   subst k2
   cases e1;exact ⟨t2,by simp⟩
 refine ⟨.ref _,b9 H1 _ (.lst (fN 0 j.toNat)),I2.laid (t':=tk) (fun b o e=>hk b o e) (JH _) ⟨?_,acc'.toList,c',hv,by simpa using ho⟩,rfl,q _ (I2.hok.fresh (JH _))⟩
 simp only [fN,length_map,List.length_range]
 omega
section
variable {K:Fg} {W:XW} {σ:St} {H:Hp} {Q:VK} {fa:F1} {fl:FL}
theorem AftL.newSc {He:Hp} {O:List Addr} {Fs Gs Fs1:List (List Addr)} {Γ1:Ev} {ps:List PV} {us:List V} {H1:Hp} {l:Addr} {vs:List V} {ds:List JI} (A:AftL K He O Fs H σ Γ1 ps us H1 Gs Fs1) (nd:O.Nodup) (hl:H1 l=none) (hv:vs.length=ds.length) (hs:∀(i:Nat) v d,vs[i]?=some v->ds[i]?=some d->Sc v d) :
  Aft K He O Fs H σ Γ1 ⟨.lst .leaf,.list ds⟩ (.ref l) (b9 H1 l (.lst vs)) [l] Fs1:=by
 refine ⟨A.same.trans (jP hl),A.env.dropL.hide (jP hl) (by simp) (by simpa using hl) (fun a ha=>by rw [List.mem_singleton.mp ha,g6];exact Option.some_ne_none _),fun a ha=>?_,?_⟩
 ·rcases Jx ha with z | z
  ·rw [List.mem_singleton.mp z];exact .inr (A.same.free hl)
  ·exact A.new a (Jv _ z)
 ·exact Own.mkLeaves g6 hv fun j u d e1 e2=>(hs j u d e1 e2).rep
noncomputable def xG (fl:FL):F1:=fun Γ=>(fl Γ).bind fun ps Γ'=>match jU (ps.map (·.d)) with
 | some j=>if j<=sizeLine then .ok ⟨.lst .leaf,.list (cc 0 j.toNat)⟩ Γ' else .no
 | none=>.no
theorem CV (h:tE K W (xG fl) σ H Q):Ip (tA K W fl) σ H Q:=by
 obtain ⟨He,O,Fs,Γ,E,h⟩:=h;refine ⟨He,O,Fs,Γ,E,?_⟩
 unfold xG at h
 cases e:fl Γ with
 | er c Γ'=>rw [e] at h;exact h
 | no=>rw [e] at h;exact h
 | ok ps Γ1=>
  rw [e] at h;intro vs H1 Gs Fs1 A;have h:Wants K W He O Fs H σ Q (match jU (ps.map (·.d)) with | some j=>if j<=sizeLine then .ok ⟨.lst .leaf,.list (cc 0 j.toNat)⟩ Γ1 else .no | none=>.no):=h
  cases er:jU (ps.map (·.d)) with
  | none=>rw [er] at h;exact h.elim
  | some j=>
   rw [er] at h;obtain ⟨e1,e2,e3⟩:=qe er;have r:=A.reps
   rw [e1] at r;have h:Wants K W He O Fs H σ Q (if j<=sizeLine then .ok ⟨.lst .leaf,.list (cc 0 j.toNat)⟩ Γ1 else .no):=h
   by_cases hj:j<=sizeLine
   ·rw [if_pos hj] at h
    have hv:vs=[.int j]:=by
     have hl:=r.1
     match vs,hl with
     | [v],_=>
      have q:=r.2 0 v (.int j) rfl rfl
      cases q;rfl
    refine ⟨j,hv,e2,hj,fun l hl=>h _ _ _ _ (A.newSc E.ndO hl (by simp [fN,cc]) fun i v d a1 a2=>?_)⟩
    have q:=F6 (K:=K) (H:=H1) (lo:=0) (n:=j.toNat)
    refine (q.2 i v d a1 a2).sc ?_
    unfold cc at a2;rw [getElem?_map] at a2
    cases e3:(List.range j.toNat)[i]? with
    | none=>rw [e3] at a2;cases a2
    | some k=>rw [e3] at a2;cases a2;rfl
   ·rw [if_neg hj] at h;exact h.elim
noncomputable def intsOf:List JI->Option (List Int)
 | []=>some []
 | .int i::r=>(intsOf r).map (i :: ·)
 | _=>none
theorem GG:∀{ds:List JI} {ns:List Int},intsOf ds=some ns->ds=ns.map .int
 | [],ns,h=>by cases h;rfl
 | .int i::r,ns,h=>by
  unfold intsOf at h
  cases e:intsOf r with
  | none=>rw [e] at h;cases h
  | some ms=>rw [e] at h;cases h;rw [GG e];rfl
 | .none::_,_,h=>by cases h
 | .bool _::_,_,h=>by cases h
 | .str _::_,_,h=>by cases h
 | .list _::_,_,h=>by cases h
 | .tuple _::_,_,h=>by cases h
 | .dict _::_,_,h=>by cases h
noncomputable def sortArg:List JI->Option (List Int)
 | [.list ds]=>intsOf ds
 | _=>none
theorem i4 {ds:List JI} {ns:List Int} (h:sortArg ds=some ns):ds=[.list (ns.map .int)]:=by
 unfold sortArg at h;split at h
 ·rw [GG h]
 ·cases h
noncomputable def dN (fl:FL):F1:=fun Γ=>(fl Γ).bind fun ps Γ'=>match sortArg (ps.map (·.d)) with
 | some ns=>if ns.length<64 then .ok ⟨.lst .leaf,.list ((PySem.W.sortI ns).map .int)⟩ Γ' else .no
 | none=>.no
theorem tL (h:tE K W (dN fl) σ H Q):B9 (tX K) (tA K W fl) σ H Q:=by
 obtain ⟨He,O,Fs,Γ,E,h⟩:=h;refine ⟨He,O,Fs,Γ,E,?_⟩
 unfold dN at h
 cases e:fl Γ with
 | er c Γ'=>rw [e] at h;exact h
 | no=>rw [e] at h;exact h
 | ok ps Γ1=>
  rw [e] at h;intro vs H1 Gs Fs1 A;have r:=A.reps
  have h:Wants K W He O Fs H σ Q (match sortArg (ps.map (·.d)) with | some ns=>if ns.length<64 then .ok ⟨.lst .leaf,.list ((PySem.W.sortI ns).map .int)⟩ Γ1 else .no | none=>.no):=h
  cases ei:sortArg (ps.map (·.d)) with
   | none=>rw [ei] at h;exact h.elim
   | some ns=>
    rw [ei] at h;rw [i4 ei] at r;have h:Wants K W He O Fs H σ Q (if ns.length<64 then .ok ⟨.lst .leaf,.list ((PySem.W.sortI ns).map .int)⟩ Γ1 else .no):=h
    by_cases hn:ns.length<64
    ·rw [if_pos hn] at h
     have hl:=r.1
     match vs,hl with
     | [v],_=>
      have q:=r.2 0 v (.list (ns.map .int)) rfl rfl
      cases q with
      | @lst p ws _ hq hwl hw=>
       have ew:ws=ns.map V.int:=by
        apply ext_getElem?
        intro i;by_cases hi:i<ws.length
        ·have hi2:i<ns.length:=by rw [length_map] at hwl;omega
         have q:=hw i (ws[i]'hi) (.int (ns[i]'hi2)) (Jz _) (by rw [getElem?_map,Jz hi2];rfl)
         rw [Jz hi,getElem?_map,Jz hi2];generalize ws[i]'hi=u at q
         cases q;rfl
        ·rw [getElem?_eq_none (by omega),getElem?_eq_none (by rw [length_map] at hwl ⊢;omega)]
       rw [ew] at hq;refine ⟨p,ns,rfl,hq,hn,fun l hl=>h _ _ _ _ (A.newSc E.ndO hl (by simp) fun i v d a1 a2=>?_)⟩
       rw [getElem?_map] at a1 a2
       cases e3:(PySem.W.sortI ns)[i]? with
       | none=>rw [e3] at a1;cases a1
       | some z=>
        rw [e3] at a1 a2
        cases a1
        cases a2;exact .int z
    ·rw [if_neg hn] at h;exact h.elim
end
theorem Inv.turnedL {X:Cx} {pins:List (Addr×Obj)} {σ:St} {H:Hp} {s:Shared} {h':Heap} {t':Nat} {fp:List Addr} (I:L2.Inv X pins σ H s) (k:∀b o,b∉fp->s.heap.get? b=some o->h'.get? b=some o) (hf:∀b∈fp,ki X pins H b):L2.Inv X pins σ H { s with heap:=h',toks:=t' }:=by
 have nit:∀b u,H b=some u->b∉fp:=fun b u e z=>by have:=(hf b z).1;rw [e] at this;cases this
 have hL:X.env.locals∉fp:=fun z=>(hf _ z).2.1 rfl
 refine I.step (g':=s.gens) (d':=s.drawn) (ch:=fp) (fun b hb=>?_) (fun b o _ _ hc e _=>k b o hc e) (fun b o _ _ hc e _=>⟨o.slots,k b o hc e⟩) (fun _ _ _ _ n=>n)
  (fun b o hc e=>⟨o,k b o hc e⟩) (fun _ _ e=>e) (fun _ _ _ e=>e) (fun b ps e=>⟨#[],by rw [e];simp⟩) (fun m hm=>?_) (fun b u e=>?_) I.bare
 ·obtain ⟨f0,f1,f2,f3,f4,f5⟩:=hf b hb
  exact ⟨f3,f1,f4,f5⟩
 ·obtain ⟨o,es,ep,ho,r⟩:=hm
  exact ⟨o,es,ep,k _ o hL ho,r⟩
 ·refine (I.hok b u e).stay (fun c v hc q=>k c v ?_ q) (fun _ q=>q) fun _ _ q=>q
  rcases hc with z | z
  ·rw [z];exact nit b u e
  ·exact nit c _ z
theorem Inv.turnedT {X:Cx} {pins:List (Addr×Obj)} {σ:St} {H:Hp} {s:Shared} {h':Heap} {t':Nat} {fp:List Addr} {T:Addr} {xs:List V} (I:L2.Inv X pins σ H s) (k:∀b o,b∉fp->s.heap.get? b=some o->h'.get? b=some o) (hf:∀b∈fp,ki X pins H b) (hT:s.heap.objs.size<=T)
  (new:ObjOk X.prog X.w (b9 H T (.tup xs)) h' T (.tup xs)):L2.Inv X pins σ (b9 H T (.tup xs)) { s with heap:=h',toks:=t' }:=by
 have hTn:H T=none:=I.hok.fresh hT
 have nit:∀b u,H b=some u->b∉fp:=fun b u e z=>by have:=(hf b z).1;rw [e] at this;cases this
 have up:∀b u,H b=some u->b9 H T (.tup xs) b=some u:=fun b u e=>by rw [e9 (vw e hTn)];exact e
 have hL:X.env.locals∉fp:=fun z=>(hf _ z).2.1 rfl
 refine I.step (g':=s.gens) (d':=s.drawn) (ch:=fp) (fun b hb=>?_) (fun b o _ _ hc e _=>k b o hc e) (fun b o _ _ hc e _=>⟨o.slots,k b o hc e⟩) (fun b o _ e n=>by rw [e9 (Nat.ne_of_lt (Nat.lt_of_lt_of_le (Heap.lt_size e) hT))];exact n)
  (fun b o hc e=>⟨o,k b o hc e⟩) (fun b _ e=>up b _ e) (fun b _ _ e=>up b _ e) (fun b ps e=>⟨#[],by rw [up b _ e];simp⟩) (fun m hm=>?_) (fun b u e=>?_) I.bare
 ·obtain ⟨f0,f1,f2,f3,f4,f5⟩:=hf b hb
  exact ⟨f3,f1,f4,f5⟩
 ·obtain ⟨o,es,ep,ho,r⟩:=hm
  exact ⟨o,es,ep,k _ o hL ho,r⟩
 ·by_cases hb:b=T
  ·subst hb
   rw [g6] at e
   cases e;exact new
  ·rw [e9 hb] at e
   refine (I.hok b u e).stay (fun c v hc q=>k c v ?_ q) (fun c q=>up c _ q) fun c _ q=>up c _ q
   rcases hc with z | z
   ·rw [z];exact nit b u e
   ·exact nit c _ z
noncomputable def d6:Option (Option PV)->Bool
 | some none=>true
 | _=>false
theorem jt {o:Option (Option PV)} (h:d6 o=true):o=some none:=by
 unfold d6 at h;split at h
 ·rfl
 ·cases h
section
variable {K:Fg} {He H H1 H2:Hp} {O G:List Addr} {Fs Fs1 Fs2:List (List Addr)} {σ:St} {Γ Γ1 Γ2:Ev}
theorem tx {Γ:Ev} {i j m:Nat} {p:PV} (h:((Γ.set i none).set j none)[m]?=some (some p)):m≠i/\m≠j/\Γ[m]?=some (some p):=by
 obtain ⟨h1,h2⟩:=EF h;obtain ⟨h3,h4⟩:=EF h2;exact ⟨h3,h1,h4⟩
theorem EnvOk.forget2 {i j:Nat} {x y:Option V} (E:EnvOk K He O Fs H (((bC [i,j] σ).set i x).set j y) Γ):EnvOk K He O Fs H (bC [i,j] σ) ((Γ.set i none).set j none):=by
 refine ⟨by have:=E.len1;simpa using this,by have:=E.len2;simpa using this,E.same,E.nd,E.inH,E.fresh,fun m q hq=>?_⟩
 obtain ⟨h1,h2,h3⟩:=tx hq;obtain ⟨w1,v',F',e1,e2,e3⟩:=E.slot m q h3;rw [getElem?_set_ne (Ne.symm h2),getElem?_set_ne (Ne.symm h1)] at e1;exact ⟨w1,v',F',e1,e2,e3⟩
theorem EnvOk.blank2 {i j:Nat} (E:EnvOk K He O Fs H σ Γ) (hi:Γ[i]?=some none) (hj:Γ[j]?=some none):EnvOk K He O Fs H (bC [i,j] σ) Γ:=by
 refine ⟨by rw [yo];exact E.len1,E.len2,E.same,E.nd,E.inH,E.fresh,fun m q hq=>?_⟩
 obtain ⟨w1,v',F',e1,e2,e3⟩:=E.slot m q hq;refine ⟨w1,v',F',?_,e2,e3⟩
 rw [Gm (fun z=>?_)]
 ·exact e1
 ·simp only [mem_cons,not_mem_nil,or_false] at z
  rcases z with z | z
  ·rw [z,hi] at hq;cases hq
  ·rw [z,hj] at hq;cases hq
theorem EnvOk.unblank2 {i j:Nat} (E:EnvOk K He O Fs H (bC [i,j] σ) Γ):EnvOk K He O Fs H σ Γ:=by
 refine ⟨by have:=E.len1;rw [yo] at this;exact this,E.len2,E.same,E.nd,E.inH,E.fresh,fun m q hq=>?_⟩
 obtain ⟨w1,v',F',e1,e2,e3⟩:=E.slot m q hq;exact ⟨w1,v',F',(Cr e1).2,e2,e3⟩
theorem ny {i:Nat} {a:Addr} (hi:i<Fs.length) (h:a∈(Fs.set i []).flatten):a∈Fs.flatten:=by
 have hF:Fs[i]?=some (Fs[i]'hi):=Jz _
 have:=(pJ (G:=[]) hF).mem_iff.mp (Jv _ h)
 simpa using this
structure DW (K:Fg) (He:Hp) (O:List Addr) (Fs1:List (List Addr)) (H1:Hp) (σ:St) (i j:Nat) (s:Sh) (A0:Addr) (n:Nat) (ys:List V) (H:Hp) (Γk:Ev) (Fk Gs:List (List Addr)) (acc:List JI):Prop where
 env:EnvOk K He (A0::Gs.flatten++O) Fk H (bC [i,j] σ) Γk
 same:Same H1 H
 at_:H A0=some (.lst ys)
 new:∀a∈Gs.flatten++Fk.flatten,a∈Fs1.flatten\/H1 a=none
 l1:ys.length=acc.length
 l2:Gs.length=acc.length
 own:∀(m:Nat) v d G,ys[m]?=some v->acc[m]?=some d->Gs[m]?=some G->Own K (A0::Gs.flatten++O++Fk.flatten) H s G v d
 len:Γk.length=n
end
noncomputable def jH (N:List Str) (is:List Nat) (cs:List Nat) (sc:Scope):Bool:=
 decide (sc.kind=.function)&&(sc.names.all fun p=>!decide (p.2=.free)||cs.any fun j=>decide (N[j]?=some p.1)) &&
 ((List.range N.length).all fun j=>is.contains j||(sc.names.all fun p=>!decide (some p.1=N[j]?)||(!decide (p.2=.local)&&!decide (p.2=.cell)))) &&
 (sc.names.all fun p=>!decide (p.2=.local)||decide (sc.names.lookup p.1=some .local)) &&
 (sc.names.all fun p=>!decide (p.2=.free)||sc.names.all fun q=>!decide (q.1=p.1)||!decide (q.2=.cell))
theorem kH {X:Cx} {N gl:List Str} {vs cs ls lo gs is:List Nat} {scope:Scope} (S:Cp X N gl vs cs ls lo gs) (h:jH N is cs scope=true):d9 X.N is X.env.scope scope:=by
 unfold jH at h;simp only [Bool.and_eq_true,decide_eq_true_eq,all_eq_true,Bool.or_eq_true,Bool.not_eq_true',decide_eq_false_iff_not,any_eq_true,mem_range] at h
 obtain ⟨⟨⟨⟨h0,h1⟩,h2⟩,h3⟩,h4⟩:=h;refine ⟨h0,fun n hn=>?_,fun j x e hj=>?_,fun x hx e=>?_,fun n hn hc=>?_⟩
 ·rcases h1 _ hn with z | ⟨j,hj,e⟩
  ·exact absurd rfl z
  ·exact S.cel j n e (by simpa using hj)
 ·rw [S.hN] at e
  rcases h2 j (JD e).1 with z | z
  ·simpa using z
  ·exfalso
   rcases hj with y | y
   ·rcases z _ y with w | w
    ·exact w e.symm
    ·exact w.1 rfl
   ·rcases z _ y with w | w
    ·exact w e.symm
    ·exact w.2 rfl
 ·rcases h3 x hx with z | z
  ·exact absurd e z
  ·exact z
 ·rcases h4 _ hn with z | z
  ·exact z rfl
  ·rcases z _ hc with w | w
   ·exact w rfl
   ·exact w rfl
end T
namespace TQ
open PySem PySem.Spec L2 T
open PyProof.Rows hiding St
section
variable {X:Cx} {N gl:List Str} {vs cs ls lo gs:List Nat} {W:XW} {a b c e:Expr} {es:List Expr} {pos p:Pos} {fa fb fc:F1} {fl:FL} {ga gb:FB} {g1 g2 g:FS}
theorem pP {st:Stmt}:Q (PS X st (tS X.K W G8)):=⟨fun pins s σ H D I h=>by
 obtain ⟨He,O,Fs,Γ,E,h⟩:=h;exact h.elim⟩
theorem Gx (ha:Q (PE X e (tE X.K W fa))) (hs:swapsWith e none pos.line X.env=pure false):Q (PS X (.Expr e pos) (tS X.K W (fx fa))):=⟨have ha:=ha.p;fm (vx ha hs) fun _ _ _=>wB⟩
theorem vt {X:Cx} {N gl:List Str} {vs cs ls lo gs:List Nat} {W:XW} {a:Expr} {pos p p2:Pos} {fa:F1} {c:String} {x:Str} (S:Cp X N gl vs cs ls lo gs) (j k:Nat) (hj:gl[j]?=some ("isinstance":Str)) (hg:gs.contains j=true) (hk:gl[k]?=some x) (hg2:gs.contains k=true) (hc:kinds.contains c=true) (hv:bootBuiltins x=some (.type c)) (hm:X.mg "isinstance"=none) (hm2:X.mg x=none) (ha:Q (PE X a (tE X.K W fa))) (hs:starEach [a,.Name x p2] X.env=(false,eval a X.env)::starEach [.Name x p2] X.env) (hs2:starEach [.Name x p2] X.env=(false,eval (.Name x p2) X.env)::starEach [] X.env) (hpl:(backTo pos (starEach [.Name x p2] X.env)).any (·.1)=false):Q (PE X (.Call (.Name "isinstance" p) [a,.Name x p2] [] pos) (tE X.K W (dO c fa))):=⟨have ha:=ha.p;br (FX (u9 (by simpa using hc)) (S.g hj hg).1 hm lN (lR ha (lR (wQ (v:=.ty c) (S.g hk hg2).1 hm2 hv rfl (S.g hk hg2).2.2 (S.g hk hg2).2.1) sg hs2) hs) (S.g hj hg).2.2 (S.g hj hg).2.1 hs hpl) fun _ _ _=>zQ⟩
theorem ip (S:Cp X N gl vs cs ls lo gs) (j:Nat) (hj:gl[j]?=some ("sorted":Str)) (hg:gs.contains j=true) (hm:X.mg "sorted"=none) (ha:Q (PA X (e::es) (tA X.K W fl))) (he:starEach (e::es) X.env=(false,eval e X.env)::starEach es X.env) (hpl:(backTo pos (starEach es X.env)).any (·.1)=false):Q (PE X (.Call (.Name "sorted" p) (e::es) [] pos) (tE X.K W (dN fl))):=⟨have ha:=ha.p;br (FX pj (S.g hj hg).1 hm nV ha (S.g hj hg).2.2 (S.g hj hg).2.1 he hpl) fun _ _ _=>tL⟩
theorem fw {p2 pos2:Pos} (S:Cp X N gl vs cs ls lo gs) (j k:Nat) (hj:gl[j]?=some ("list":Str)) (hg:gs.contains j=true) (hm:X.mg "list"=none) (hk:gl[k]?=some ("range":Str)) (hg2:gs.contains k=true) (hm2:X.mg "range"=none) (ha:Q (PA X [a] (tA X.K W fl))) (hs:starEach [a] X.env=[(false,eval a X.env)]) (hs1:starEach [.Call (.Name "range" p2) [a] [] pos2] X.env=[(false,eval (.Call (.Name "range" p2) [a] [] pos2) X.env)]):Q (PE X (.Call (.Name "list" p) [.Call (.Name "range" p2) [a] [] pos2] [] pos) (tE X.K W (xG fl))):=⟨have ha:=ha.p;br (lh (S.g hj hg).1 hm (S.g hk hg2).1 hm2 S.calm ha hs hs1) fun _ _ _=>CV⟩
theorem iW (n:Nat) {body:List Stmt} (hp:PassesOwn (model X.prog X.w) X.A X.env X.xe) (hc:Q (PT X c (tT X.K W ga))) (hb:Q (PSs X body (tS X.K W g))):Q (PS X (.While c body [] pos) (tS X.K W (ia n ga g))):=⟨have hc:=hc.p;have hb:=hb.p;fm (ub hp hc hb) fun _ _ _=>tJ⟩
end
end TQ
namespace T
open PySem PySem.Spec L2
open PyProof.Rows hiding St
noncomputable def bP:JI->Bool
 | .none=>true
 | _=>false
noncomputable def cu (neg:Bool):JI->JI->Option JI
 | a,.none=>some (.bool (if neg then !bP a else bP a))
 | _,_=>none
theorem m6 {K:Fg} {H:Hp} {x:V} {a:JI} (r:Rep K H x a):decide (x=V.non)=bP a:=by
 cases r<;>simp [bP]
theorem xv {K:Fg}:GOp K (fun x y H Q=>y=.non/\Q (.bl (decide (x=.non))) H) (cu false):=by
 intro x y H Q a b d ra rb e k
 cases rb<;>simp only [cu] at e<;>try cases e
 exact ⟨rfl,by rw [m6 ra];exact k _ (.bl _)⟩
theorem uK {K:Fg}:GOp K (fun x y H Q=>y=.non/\Q (.bl (!decide (x=.non))) H) (cu true):=by
 intro x y H Q a b d ra rb e k
 cases rb<;>simp only [cu] at e<;>try cases e
 exact ⟨rfl,by rw [m6 ra];exact k _ (.bl _)⟩
theorem oF {X:Cx} (R:Rm X):Ck X .Is (fun x y H Q=>y=.non/\Q (.bl (decide (x=.non))) H) (cu false):=⟨AI,xv⟩
theorem yn {X:Cx} (R:Rm X):Ck X .IsNot (fun x y H Q=>y=.non/\Q (.bl (!decide (x=.non))) H) (cu true):=⟨qp,uK⟩
noncomputable def IT:JI->JI->Option JI
 | .str i,.str j=>if i.length+j.length<=sizeLine then some (.str (i++j)) else none
 | _,_=>none
noncomputable def nE (fa fb:F1):F1:=bf fa fun p=>bf fb fun q=>fun Γ=>match p.d,q.d with
 | .list xs,.list ys=>if aH p xs&&aH q ys&&decide (xs.length+ys.length<=sizeLine) then .ok ⟨.lst .leaf,.list (xs++ys)⟩ Γ else .no
 | _,_=>.no
noncomputable def IW (fa fb:F1):F1:=bf fa fun p=>bf fb fun q=>fun Γ=>match p.d,q.d with
 | .tuple xs,.tuple ys=>if !p.s.isView&&aH q ys&&!xs.isEmpty&&decide (xs.length+ys.length<=sizeLine) then .ok ⟨.leaf,.tuple (xs++ys)⟩ Γ else .no
 | _,_=>.no
noncomputable def ig (fa fb:F1):F1:=bf fa fun p=>bf fb fun q=>fun Γ=>match p.d,q.d with
 | .tuple xs,.int k=>if !p.s.isView&&decide (1<=k)&&decide (k<=xs.length) then .ok ⟨.leaf,.tuple (xs.drop k.toNat)⟩ Γ else .no
 | _,_=>.no
noncomputable def t9 (K:Fg):R2:=fun x y H Q=>∃l b xs zs,x=.ref l/\y=.ref b/\SqL K H l xs/\SqL K H b zs/\xs.length+zs.length<=sizeLine/\∀p,H p=none->Q (.ref p) (b9 H p (.lst (xs++zs)))
theorem xS {prog:Program} {w:World} {A:Around} {E:Value->Shared->Prop} {s:Shared} {l b:Addr} {vs ws:List Value} {Q:Value->Shared->Prop} (hl:s.heap.IsList l vs.toArray) (hb:s.heap.IsList b ws.toArray) (hz:vs.length+ws.length<=sizeLine)
  (h:Q (.ref s.heap.objs.size) { s with heap:=s.heap.push { cls:=.type "list",data:=.seq (vs++ws).toArray } }):wpAny (model prog w) A (binaryOp .Add (.ref l) (.ref b)) Q E s:=by
 obtain ⟨⟨cls,dd,data,sl⟩,ho,hc,n,hd⟩:=id hl;obtain ⟨⟨cls2,dd2,data2,sl2⟩,ho2,hc2,n2,hd2⟩:=id hb;simp only at hc hd hc2 hd2
 subst hc hd hc2 hd2;have e:vs.toArray++ws.toArray=(vs++ws).toArray:=by simp
 rw [<-e] at h;exact concat_meets ⟨_,ho,rfl⟩ ⟨_,ho2,rfl⟩ noFill_list_add seq_list_add PySem.F.slot_list_add PySem.F.entry_list_add (PySem.F.args_list_add_2 _ _) (list_addW l b vs.toArray ws.toArray n n2 dd dd2 sl sl2 (by simpa using hz)) ⟨ho,ho2,h⟩
theorem wY {X:Cx}:OpR X (binaryOp .Add) (t9 X.K):=by
 intro pins s σ H x y v u Q I rx ry h;obtain ⟨l,b,xs,zs,rfl,rfl,hH,hB,hz,q⟩:=h
 cases rx
 cases ry;obtain ⟨its,r,pl,z⟩:=I.list hH;obtain ⟨its2,r2,pl2,z2⟩:=I.list hB;refine xS pl.isList pl2.isList (by rw [<-r.length,<-r2.length];exact hz) ?_
 exact ⟨.ref _,_,I.lnew (t':=s.toks) (r.append r2) (by rw [length_append];exact hz),rfl,q _ I.fresh⟩
section
variable {K:Fg} {W:XW} {σ:St} {H:Hp} {Q:VK} {D:fP} {fa fb:F1} {fl:FL}
theorem Reps.app {vs ws:List V} {ds es:List JI} (h:Reps K H vs ds) (h':Reps K H ws es):Reps K H (vs++ws) (ds++es):=by
 refine ⟨by rw [length_append,length_append,h.1,h'.1],fun i v d e1 e2=>?_⟩
 by_cases hi:i<vs.length
 ·rw [getElem?_append_left hi] at e1
  rw [getElem?_append_left (by rw [<-h.1];exact hi)] at e2
  exact h.2 i v d e1 e2
 ·rw [getElem?_append_right (by omega)] at e1
  rw [getElem?_append_right (by rw [<-h.1];omega),<-h.1] at e2
  exact h'.2 _ v d e1 e2
theorem Reps.drop {vs:List V} {ds:List JI} (k:Nat) (h:Reps K H vs ds):Reps K H (vs.drop k) (ds.drop k):=by
 refine ⟨by rw [length_drop,length_drop,h.1],fun i v d e1 e2=>?_⟩
 rw [List.getElem?_drop] at e1 e2
 exact h.2 _ v d e1 e2
theorem DB {G2 G1 O F:List Addr} (nd:(G2++(G1++O)++F).Nodup):(∀a∈G1,a∉O++F)/\(∀a∈G2,a∉O++F):=by
 rw [append_assoc,append_assoc] at nd;obtain ⟨_,n2,n3⟩:=JC nd;obtain ⟨_,_,n4⟩:=JC n2;exact ⟨fun a ha z=>n4 a ha a z rfl,fun a ha z=>n3 a ha a (Jv _ z) rfl⟩
theorem zw {G2 G1 O F:List Addr}:∀a∈O++F,a∈G2++(G1++O)++F:=fun a ha=>by
 rcases Jx ha with z | z
 ·exact Jw _ (Jv _ (Jv _ z))
 ·exact Jv _ z
theorem xf {He H1:Hp} {O:List Addr} {Fs Fs1:List (List Addr)} {Γ1:Ev} {vs:List V} {ds:List JI} {p:Addr} (E:EnvOk K He O Fs1 H1 σ Γ1) (s:Same H H1) (n:∀a∈Fs1.flatten,a∈Fs.flatten\/H a=none)
  (hr:Reps K (b8 H1 (O++Fs1.flatten)) vs ds) (hp:H1 p=none):Aft K He O Fs H σ Γ1 ⟨.leaf,.tuple ds⟩ (.ref p) (b9 H1 p (.tup vs)) [] Fs1:=by
 refine ⟨s.trans (jP hp),by rw [nil_append];exact E.grow (jP hp),by rw [nil_append];exact n,.leaf ?_⟩
 rw [nil_append];have hn:p∉O++Fs1.flatten:=fun z=>E.inH p z hp
 exact .tup (.of (vH g6 hn)) hr.1 fun i v d h1 h2=>(hr.2 i v d h1 h2).mono (pK (jP hp) fun a ha=>.inl ha)
theorem xg {He H1:Hp} {O:List Addr} {Fs Fs1:List (List Addr)} {Γ1:Ev} {v:V} {d:JI} (E:EnvOk K He O Fs1 H1 σ Γ1) (s:Same H H1) (n:∀a∈Fs1.flatten,a∈Fs.flatten\/H a=none)
  (hr:Rep K (b8 H1 (O++Fs1.flatten)) v d):Aft K He O Fs H σ Γ1 ⟨.leaf,d⟩ v H1 [] Fs1:=
 ⟨s,by rw [nil_append];exact E,by rw [nil_append];exact n,.leaf (by rw [nil_append];exact hr)⟩
theorem zY (h:tE K W (nE fa fb) σ H Q):vz (t9 K) (tE K W fa) (tE K W fb) σ H Q:=by
 refine Cg (R:=fun v u H2=>t9 K v u H2 Q) h fun He O Fs Γ2 p q v u H1 H2 G1 G2 Fs2 nd s1 s2 E new o1 o2 w=>?_
 obtain ⟨s,d⟩:=p;obtain ⟨s',d'⟩:=q;dsimp only at w o1 o2
 split at w
 ·rename_i xs ys
  cases hc:(aH ⟨s,.list xs⟩ xs&&aH ⟨s',.list ys⟩ ys&&decide (xs.length+ys.length<=sizeLine)) with
  | false=>rw [hc] at w;exact w.elim
  | true=>
   rw [hc] at w;simp only [Bool.and_eq_true,decide_eq_true_eq] at hc
   obtain ⟨⟨h1,h2⟩,h3⟩:=hc;obtain ⟨d1,d2⟩:=DB E.nd;obtain ⟨p1,vs,rfl,q1,_,r1⟩:=o1.items (O':=O++Fs2.flatten) h1 zw d1
   obtain ⟨p2,ws,rfl,q2,_,r2⟩:=o2.items (O':=O++Fs2.flatten) h2 zw d2
   refine ⟨p1,p2,vs,ws,rfl,rfl,q1,q2,by rw [r1.1,r2.1];exact h3,fun p' hp'=>w _ _ _ _ (FW (E.drop (fun a ha=>Jv _ (Jv _ ha)) nd) (s1.trans s2) (fun a ha=>new a (Jv _ (Jv _ ha))) (r1.app r2) hp')⟩
 ·exact w.elim
theorem zJ (h:tE K W (ig fa fb) σ H Q):tSl (Af K) (tE K W fa) (yy (tE K W fb)) pW σ H Q:=by
 refine Cg (R:=fun v u H2=>∃i,u=.int i/\Af K v (some i) none H2 Q) h fun He O Fs Γ2 p q v u H1 H2 G1 G2 Fs2 nd s1 s2 E new o1 o2 w=>?_
 obtain ⟨s,d⟩:=p;obtain ⟨s',d'⟩:=q;dsimp only at w o1 o2
 split at w
 ·rename_i xs k
  cases hc:(!s.isView&&decide (1<=k)&&decide (k<=xs.length)) with
  | false=>rw [hc] at w;exact w.elim
  | true=>
   rw [hc] at w;simp only [Bool.and_eq_true,decide_eq_true_eq,Bool.not_eq_true'] at hc
   obtain ⟨⟨h1,h2⟩,h3⟩:=hc;obtain ⟨d1,d2⟩:=DB E.nd;have E1:=E.drop (fun a ha=>Jv _ (Jv _ ha)) nd
   have nw:∀a∈Fs2.flatten,a∈Fs.flatten\/H a=none:=fun a ha=>new a (Jv _ (Jv _ ha))
   have r1:=o1.freeze (O':=O++Fs2.flatten) h1 zw d1
   have ru:=o2.rep
   cases ru;refine ⟨k,rfl,?_⟩
   cases r1 with
   | @tup a vs _ hq hl hr=>
    have ek:k=((k.toNat:Nat):Int):=by omega
    refine ⟨a,vs,rfl,fX hid_le hq,fun z=>?_,fun p' hp'=>?_⟩
    ·have z1:=z.1
     rw [ek,HT.sIx_nat] at z1;omega
    ·have ec:rU vs (some k) none=vs.drop k.toNat:=by
      unfold rU;rw [ek,HT.sIx_nat,HT.sIx_none,Int.toNat_natCast,take_of_length_le (by rw [length_drop];omega)]
      rw [Nat.min_eq_left (by omega)]
     rw [ec];exact w _ _ _ _ (xf E1 (s1.trans s2) nw (Reps.drop k.toNat ⟨hl,hr⟩) hp')
 ·exact w.elim
end
noncomputable def rF:List JI->Option JI
 | [.list ds]=>(intsOf ds).map fun ns=>.int ns.sum
 | _=>none
noncomputable def C2 (K:Fg):List V->Hp->VK->Prop:=fun xs H Q=>∃(p:Addr) (ns:List Int),xs=[.ref p]/\SqL K H p (ns.map V.int)/\Q (.int ns.sum) H
theorem qS {K:Fg} {H:Hp} {ws:List V} {ns:List Int} (h:Reps K H ws (ns.map .int)):ws=ns.map V.int:=by
 obtain ⟨hwl,hw⟩:=h;apply ext_getElem?
 intro i;by_cases hi:i<ws.length
 ·have hi2:i<ns.length:=by rw [length_map] at hwl;omega
  have q:=hw i (ws[i]'hi) (.int (ns[i]'hi2)) (Jz _) (by rw [getElem?_map,Jz hi2];rfl)
  rw [Jz hi,getElem?_map,Jz hi2];generalize ws[i]'hi=u at q
  cases q;rfl
 ·rw [getElem?_eq_none (by omega),getElem?_eq_none (by rw [length_map] at hwl ⊢;omega)]
theorem Bi {K:Fg}:GCall K (C2 K) rF:=by
 intro vs H Q ds d r e k;unfold rF at e;split at e
 ·rename_i es
  cases ei:intsOf es with
  | none=>rw [ei] at e;cases e
  | some ns=>
   rw [ei] at e
   cases e;rw [GG ei] at r;obtain ⟨v,rfl,q⟩:=r.one
   cases q with
   | @lst p ws _ hq hwl hw=>
    have ew:=qS ⟨hwl,hw⟩
    rw [ew] at hq;exact ⟨p,ns,rfl,hq,k _ (.int _)⟩
 ·cases e
theorem rW {X:Cx} (hc:X.calm=true):CallR X (.builtin "sum") (C2 X.K):=by
 intro pins s σ H vs us Q I rv h;obtain ⟨p,ns,rfl,hq,q⟩:=h;obtain ⟨u,rfl,ru⟩:=vals1 rv
 cases ru;obtain ⟨its,rv,pl,hz⟩:=I.list hq;have hi:=Ec rv
 obtain ⟨xs,ex⟩:=(hi.allInts:AllInts its.toArray).items
 have en:xs.toList.map (·.1)=ns:=by
  rw [<-nums_intItems,<-ex];exact hi.numsOf
 have hl:=pl.isList
 rw [ex] at hl;refine sum_intListG (I.ok.hd hc) hl fun h' tk t' hk=>?_
 rw [preSum_eq,en,take_of_length_le (by rw [<-en];simp)]
 exact ⟨.int ns.sum,H,I.kept (h':=h') (t':=tk) hk,⟨_,rfl⟩,q⟩
theorem DL:bootBuiltins "sum"=some (.builtin "sum"):=by decide +kernel
noncomputable def cK (k:Str):List (Str×Int)->Option Int
 | []=>none
 | (x,i)::r=>if k=x then some i else cK k r
noncomputable def sR (a:Addr) (es:Array DictEntry) (tab:List (Str×Int)):Bool:=!(a==sysModules)&&KTD.rowsLook KTD.flatLooks es.toList (tab.map fun p=>(p.1,.int p.2))
noncomputable def qH (K:Fg) (mg:Str->Option Value) (x:Str) (tab:List (Str×Int)):Prop:=∃a es ep,mg x=some (.ref a)/\K.lookup a=some ⟨.type "dict",none,.dict es ep,#[]⟩/\sR a es tab=true
noncomputable def BO (X:Cx) (x:Str) (tab:List (Str×Int)):Prop:=qH X.K X.mg x tab
theorem xQ {K:Fg} {mg:Str->Option Value} {x:Str} {a:Addr} {es:Array DictEntry} {ep:Nat} {tab:List (Str×Int)} (hm:mg x=some (.ref a)) (l:K.lookup a=some ⟨.type "dict",none,.dict es ep,#[]⟩) (h:sR a es tab=true):qH K mg x tab:=⟨a,es,ep,hm,l,h⟩
noncomputable def sQ (tab:List (Str×Int)):List (Str×KTD.Dat):=(tab.map fun p=>(p.1,PySem.PyData.int p.2)).map fun p=>(p.1,KTD.Dat.flat p.2)
theorem mw {K:Fg} {h:Heap} {a:Addr} {es:Array DictEntry} {ep:Nat} {tab:List (Str×Int)} (hk:K.In h) (l:K.lookup a=some ⟨.type "dict",none,.dict es ep,#[]⟩) (hb:sR a es tab=true):KTD.Here h h a (sQ tab):=by
 unfold sR at hb;simp only [Bool.and_eq_true,Bool.not_eq_true'] at hb
 refine ⟨KTD.TabOf.text ⟨hb.1,_,es,ep,hk a _ l,⟨rfl,rfl,rfl⟩,rfl,KTD.rows_of_look (fun d v z=>KTD.flat_of_looks z) hb.2⟩,fun b o z=>z⟩
theorem F8 (k:Str):∀tab:List (Str×Int),KTD.datumAt k (sQ tab)=(cK k tab).map fun i=>KTD.Dat.flat (.int i)
 | []=>rfl
 | (x,i)::r=>by
  have ih:=F8 k r
  unfold sQ at ih ⊢
  simp only [map_cons,KTD.datumAt,cK]
  by_cases e:k=x
  ·simp [e]
  ·simp [e]
   simpa using ih
theorem nD {h:Heap} {k:Str} {P:Value->Prop} {i:Int} (hp:∀t,P (.int i t)):∀tab:List (Str×Int),cK k tab=some i->KTD.EachL h k P (sQ tab)
 | [],_=>trivial
 | [(x,j)],e=>fun hx=>by
  simp only [cK,hx,if_true,Option.some.injEq] at e
  subst e;exact hp
 | (x,j)::q::r,e=>by
  show (if decide (k=x)=true then KTD.Opened h P (.flat (.int j)) else KTD.EachL h k P (sQ (q::r)))
  by_cases hx:k=x
  ·rw [if_pos (decide_eq_true hx)]
   rw [cK,if_pos hx] at e
   cases e;exact hp
  ·rw [if_neg (by simp [hx])]
   rw [cK,if_neg hx] at e;exact nD hp (q::r) e
noncomputable def uX (neg:Bool) (tab:List (Str×Int)) (fa:F1):F1:=bf fa fun p Γ=>match p.d with
 | .str k=>.ok ⟨.leaf,.bool (if neg then !(cK k tab).isSome else (cK k tab).isSome)⟩ Γ
 | _=>.no
noncomputable def qz (tab:List (Str×Int)) (fa:F1):F1:=bf fa fun p Γ=>match p.d with
 | .str k=>(match cK k tab with
  | some i=>.ok ⟨.leaf,.int i⟩ Γ
  | none=>.no)
 | _=>.no
section
variable {K:Fg} {W:XW} {σ:St} {H:Hp} {Q:VK} {fa:F1}
theorem zR {neg:Bool} {tab:List (Str×Int)} (h:tE K W (uX neg tab fa) σ H Q):tE K W fa σ H fun x H1=>∃k,x=.str k/\Q (.bl (if neg then !(cK k tab).isSome else (cK k tab).isSome)) H1:=by
 refine vq h fun He O Fs Γ1 p v H1 G Fs1 nd A w=>?_
 obtain ⟨s,d⟩:=p;have r:=A.own.rep
 cases r with
 | str k=>exact ⟨k,rfl,Wants.scal w (.bl _) A.same A.env (fun a ha=>Jv _ ha) nd A.newF⟩
 | _=>exact w.elim
theorem wA {tab:List (Str×Int)} (h:tE K W (qz tab fa) σ H Q):tE K W fa σ H fun x H1=>∃k i,x=.str k/\cK k tab=some i/\Q (.int i) H1:=by
 refine vq h fun He O Fs Γ1 p v H1 G Fs1 nd A w=>?_
 obtain ⟨s,d⟩:=p;have r:=A.own.rep
 cases r with
 | str k=>
  have w:Wants K W He O Fs H σ Q (match cK k tab with | some i=>.ok ⟨.leaf,.int i⟩ Γ1 | none=>.no):=w
  cases e:cK k tab with
  | none=>rw [e] at w;exact w.elim
  | some i=>
   rw [e] at w;exact ⟨k,i,rfl,e,Wants.scal w (.int _) A.same A.env (fun a ha=>Jv _ ha) nd A.newF⟩
 | _=>exact w.elim
end
section
variable {X:Cx} {N gl:List Str} {vs cs ls lo gs:List Nat} {W:XW} {a b c e:Expr} {es:List Expr} {pos p:Pos} {fa fb fc:F1} {fl:FL} {g:FS}
theorem AA {x:Str} {tab:List (Str×Int)} (S:Cp X N gl vs cs ls lo gs) (j:Nat) (hj:gl[j]?=some x) (hg:gs.contains j=true) (Tb:BO X x tab) (ha:PE X a (tE X.K W fa)):PC X .In a (.Name x p) (tE X.K W (uX false tab fa)):=by
 intro pins s σ H Q I h;obtain ⟨d,es,ep,hm,l,hb⟩:=Tb;refine b5 (ha pins s σ H _ I (zR h)) fun v s1 ⟨y,H1,I1,r1,k,ey,q⟩=>?_
 subst ey;obtain ⟨t,rfl⟩:=r1;refine Ee I1 (S.g hj hg).1 hm ?_ (S.g hj hg).2.1
 refine KTD.in_text (mw I1.kIn l hb) ?_
 refine ⟨.bl _,H1,I1.tok _,?_,q⟩
 rw [<-KTD.isSome_datumAt,F8,Option.isSome_map];rfl
end
noncomputable def xp (i:Nat) (q:PV) (Γ:Ev):Out PV:=match Γ[i]?,q.d with
 | some (some ⟨.lst .leaf,.list ds⟩),.int k=>(match fq ds.length k with
  | some j=>(match ds[j]? with
   | some d=>.ok ⟨.leaf,d⟩ Γ
   | none=>.no)
  | none=>.no)
 | _,_=>.no
noncomputable def d7 (i:Nat) (fb:F1):F1:=fun Γ=>if cL Γ[i]? then (fb Γ).bind (xp i) else .no
section
variable {K:Fg} {W:XW} {σ:St} {H:Hp} {Q:VK} {D:fP} {fa fb:F1} {fl:FL}
theorem wx {i:Nat} (h:tE K W (d7 i fb) σ H Q):vz (EV K) (cY i) (tE K W fb) σ H Q:=by
 obtain ⟨He,O,Fs,Γ,E,h⟩:=h;unfold d7 at h
 cases ho:cL Γ[i]? with
 | false=>rw [ho] at h;exact h.elim
 | true=>
  rw [ho] at h;obtain ⟨ds,e0⟩:=GA ho;obtain ⟨l,vs,h1,h2,h3,_,_⟩:=E.chgF e0;refine ⟨.ref l,h1,?_⟩
  refine vq (k:=xp i) ⟨He,O,Fs,Γ,E,h⟩ fun He O Fs Γ1 q u H1 G Fs1 nd A w=>?_
  unfold xp at w;split at w
  ·rename_i ds1 k e1 e2
   obtain ⟨l1,vs1,q1,q2,q3,q4,_⟩:=A.go.chgF e1;rw [h1] at q1
   cases q1;have r:=A.own.rep
   rw [e2] at r
   cases r
   cases hj:fq ds1.length k with
   | none=>rw [hj] at w;exact w.elim
   | some j=>
    rw [hj] at w;have w:Wants K W He O Fs H σ Q (match ds1[j]? with | some d=>.ok ⟨.leaf,d⟩ Γ1 | none=>.no):=w
    cases hd:ds1[j]? with
    | none=>rw [hd] at w;exact w.elim
    | some d=>
     rw [hd] at w;have hjl:j<vs1.length:=by rw [q3];exact (JD hd).1
     have hv:vs1[j]?=some (vs1[j]'hjl):=Jz _
     refine .inl ⟨l,vs1,k,vs1[j]'hjl,rfl,rfl,.of q2,Fp q3 hj hv,?_⟩
     exact w _ _ _ _ (xg A.go A.same A.newF (q4 j _ d hv hd))
  ·exact w.elim
noncomputable def oZ (p:PV):Bool:=match p with
 | ⟨.lst .leaf,.list ds⟩=>ds.all bQ
 | _=>false
noncomputable def fH (n:Nat) (den:List JI->b4) (fl:FL):F1:=fun Γ=>(fl Γ).bind fun ps Γ'=>if ps.length=n then (match den (ps.map (·.d)) with
 | .ok p=>if oZ p then .ok p Γ' else .no
 | _=>.no) else .no
theorem tQ {n:Nat} {den:List JI->b4} {E:XK} (h:tE K W (fH n den fl) σ H Q):fh (nZ K n den) [] E (tA K W fl) σ H Q:=by
 obtain ⟨He,O,Fs,Γ,E0,h⟩:=h;refine ⟨He,O,Fs,Γ,E0,?_⟩
 unfold fH at h
 cases e:fl Γ with
 | er c Γ'=>rw [e] at h;exact h
 | no=>rw [e] at h;exact h
 | ok ps Γ1=>
  rw [e] at h;intro vs H1 Gs Fs1 A;have h:Wants K W He O Fs H σ Q (if ps.length=n then (match den (ps.map (·.d)) with | .ok p=>if oZ p then .ok p Γ1 else .no | _=>.no) else .no):=h
  by_cases hn:ps.length=n
  case neg=>rw [if_neg hn] at h;exact h.elim
  rw [if_pos hn] at h;have hl:(vs++[]).length=n:=by rw [append_nil,A.len1];exact hn
  cases ed:den (ps.map (·.d)) with
  | er c=>rw [ed] at h;exact h.elim
  | no=>rw [ed] at h;exact h.elim
  | ok p=>
   rw [ed] at h;have h:Wants K W He O Fs H σ Q (if oZ p then .ok p Γ1 else .no):=h
   have newF:∀a∈Fs1.flatten,a∈Fs.flatten\/H a=none:=fun a ha=>A.new a (Jv _ ha)
   cases hc:oZ p with
   | false=>rw [hc] at h;exact h.elim
   | true=>
    rw [hc] at h;have h:Wants K W He O Fs H σ Q (.ok p Γ1):=h
    refine ⟨hl,[],ps.map (·.d),nodup_nil,(fun _ z=>nomatch z),by rw [append_nil,FD];exact A.reps,?_⟩
    rw [ed];intro v H2 G r;unfold oZ at hc;split at hc
    ·rename_i ds
     obtain ⟨l,us,rfl,rfl,hp,hul,hr⟩:=r.own.leaves;refine h (.ref l) H2 [l] Fs1 ⟨A.same.trans r.same,A.env.dropL.hide r.same r.nd r.fresh r.inH,fun a ha=>?_,Own.mkLeaves hp hul fun j u d e1 e2=>((hr j u d e1 e2).sc (List.all_eq_true.mp hc d (mem_of_getElem? e2))).rep⟩
     rcases Jx ha with z | z
     ·exact .inr (A.same.free (r.fresh a z))
     ·exact newF a z
    ·cases hc
noncomputable def ve (i:Nat) (a:Int) (p:PV) (Γ:Ev):fJ:=match p.d with
 | .int b=>if i<Γ.length then .nx (Γ.set i (JJ (.int (a+b)))) else .no
 | _=>.no
noncomputable def ir (i:Nat) (f:F1):FS:=fun Γ=>match Γ[i]? with
 | some (some ⟨.leaf,.int a⟩)=>jO f (ve i a) Γ
 | _=>.no
theorem Aa {i:Nat} (h:tS K W (ir i fa) D σ H):CH i (tE K W fa) (IR fun i j=>i+j) D σ H:=by
 obtain ⟨He,O,Fs,Γ,E,h⟩:=h;unfold ir at h;split at h
 ·rename_i a e0
  obtain ⟨_,v,F,h1,h2,h3⟩:=E.slot i _ e0;have r:=h3.rep
  cases r;refine ⟨.int a,h1,?_⟩
  refine iY (D:=D) (k:=ve i a) ⟨He,O,Fs,Γ,E,h⟩ fun He O Fs Γ1 p u H1 G Fs1 _ fr A w=>?_
  unfold ve at w;split at w
  ·rename_i b eb
   have r:=A.own.rep
   rw [eb] at r
   cases r;by_cases hi:i<Γ1.length
   ·rw [if_pos hi] at w
    exact ⟨a,b,rfl,rfl,w _ _ _ (EnvOk.put (G:=[]) (p:=⟨.leaf,.int (a+b)⟩) (v:=.int (a+b)) A.go (.leaf (.int _)) rfl (fun a ha=>by simp at ha) hi)⟩
   ·rw [if_neg hi] at w;exact w.elim
  ·exact w.elim
 ·exact h.elim
noncomputable def Bp (i:Nat) (p:PV) (Γ:Ev):fJ:=match Γ[i]?,p.d with
 | some (some ⟨.lst .leaf,.list ds⟩),.tuple es=>if aH p es&&decide (ds.length+es.length<=sizeLine) then .nx (Γ.set i (some ⟨.lst .leaf,.list (ds++es)⟩)) else .no
 | some (some ⟨.lst .leaf,.list ds⟩),.list es=>if aH p es&&decide (ds.length+es.length<=sizeLine) then .nx (Γ.set i (some ⟨.lst .leaf,.list (ds++es)⟩)) else .no
 | _,_=>.no
noncomputable def kZ (i:Nat) (f:F1):FS:=fun Γ=>if cL Γ[i]? then jO f (Bp i) Γ else .no
noncomputable def Ai (K:Fg):V->List V->Hp->VK->Prop:=fun x vs H Q=>∃l b xs zs,x=.ref l/\vs=[.ref b]/\H l=some (.lst xs)/\(SqL K H b zs\/SqT K H b zs)/\xs.length+zs.length<=sizeLine/\Q .non (b9 H l (.lst (xs++zs)))
theorem zX {i:Nat} (h:tS K W (kZ i fa) D σ H):fR (EK K "list" (Ai K) (cY i) (tA K W (ab fa af))) D σ H:=by
 obtain ⟨He,O,Fs,Γ,E,h⟩:=h;unfold kZ at h
 cases ho:cL Γ[i]? with
 | false=>rw [ho] at h;exact h.elim
 | true=>
  rw [ho] at h;obtain ⟨ds,e0⟩:=GA ho;obtain ⟨l,vs,h1,h2,h3,_,_⟩:=E.chgF e0;refine ⟨.ref l,h1,.inl ⟨rfl,vs,.of h2⟩,sY (iY (D:=D) ⟨He,O,Fs,Γ,E,h⟩ fun He O Fs Γ1 p v H1 G Fs1 _ fr A w=>?_)⟩
  obtain ⟨s,d⟩:=p;have fin:∀(ds1 es:List JI) (b:Addr) (ws:List V),Γ1[i]?=some (some ⟨.lst .leaf,.list ds1⟩)->v=.ref b->(SqL K H1 b ws\/SqT K H1 b ws)->Reps K (b8 H1 (O++Fs1.flatten)) ws es->ds1.length+es.length<=sizeLine ->
    cC K W He O D (.nx (Γ1.set i (some ⟨.lst .leaf,.list (ds1++es)⟩)))->Ai K (.ref l) [v] H1 (fun _ H2=>D.nx σ H2):=fun ds1 es b ws e1 hv hq hr hz w=>by
   obtain ⟨l1,vs1,q1,q2,q3,q4,q5⟩:=A.go.chgF e1;rw [h1] at q1
   cases q1;subst hv;refine ⟨l,b,vs1,ws,rfl,rfl,q2,hq,by rw [q3,hr.1];exact hz,w σ _ _ (q5 (vs1++ws) (ds1++es) (by rw [length_append,length_append,q3,hr.1]) ?_)⟩
   exact (Reps.app ⟨q3,q4⟩ hr).2
  unfold Bp at w;split at w
  ·rename_i ds1 es e1 e2
   dsimp only at e2;subst e2
   cases hc:(aH ⟨s,.tuple es⟩ es&&decide (ds1.length+es.length<=sizeLine)) with
   | false=>rw [hc] at w;exact w.elim
   | true=>
    rw [hc] at w;simp only [Bool.and_eq_true,decide_eq_true_eq] at hc
    obtain ⟨b,ws,rfl,hq,_,hr⟩:=A.own.itemsT (O':=O++Fs1.flatten) hc.1 mz A.disj
    exact fin ds1 es b ws e1 rfl (.inr hq) hr hc.2 w
  ·rename_i ds1 es e1 e2
   dsimp only at e2;subst e2
   cases hc:(aH ⟨s,.list es⟩ es&&decide (ds1.length+es.length<=sizeLine)) with
   | false=>rw [hc] at w;exact w.elim
   | true=>
    rw [hc] at w;simp only [Bool.and_eq_true,decide_eq_true_eq] at hc
    obtain ⟨b,ws,rfl,hq,_,hr⟩:=A.own.items (O':=O++Fs1.flatten) hc.1 mz A.disj
    exact fin ds1 es b ws e1 rfl (.inl hq) hr hc.2 w
  ·exact w.elim
end
theorem HP {l b:Addr} {xs ys:Array Value} {n m:Nat} {d2:Option Addr} {s2:Array (Option Value)} (h0:¬(!xs.isEmpty&&Builtin.List.listTooLong (xs.size+ys.size))=true) (h1:xs.size<=sizeLine) (h2:(xs++ys).size<=sizeLine+1) :
  Meets (Builtin.«list.extend» ⟨[.ref l,.ref b],[]⟩) (fun _ R s=>s.heap.get? l=some ⟨.type "list",none,.seq xs n,#[]⟩/\s.heap.get? b=some ⟨.type "tuple",d2,.seq ys m,s2⟩ /\
   R (.ok (.ret Value.none)) { s with heap:=s.heap.update l (Obj.mapSeq fun x=>x++ys),toks:=s.toks }):=
 .of_wp fun prog w A R s h=>by
  obtain ⟨hp,g,d,tk,os⟩:=s;obtain ⟨hl,hb,h⟩:=h;have f1:=AutoSeq1.idx_int
  have f2:=AutoSeq1.sub_tuple_tuple
  have f3:=AutoSeq1.sub_list_list
  have f4:=AutoSeq1.sub_tuple_list
  have f5:=AutoSeq1.sub_list_tuple
  wp_walk using (wpAny_updateSeq hl rfl (hz:=h1) (_hz':=h2)),AutoSeq1.wpAny_loadPart' hl,AutoSeq1.wpAny_loadPart' hb
  exact ⟨_,rfl,h⟩
theorem HQ {l b:Addr} {xs ys:Array Value} {n m:Nat} {d2:Option Addr} {s2:Array (Option Value)} (h0:¬(!xs.isEmpty&&Builtin.List.listTooLong (xs.size+ys.size))=true) (h1:xs.size<=sizeLine) (h2:(xs++ys).size<=sizeLine+1) :
  Meets (Builtin.«list.extend» ⟨[.ref l,.ref b],[]⟩) (fun _ R s=>s.heap.get? l=some ⟨.type "list",none,.seq xs n,#[]⟩/\s.heap.get? b=some ⟨.type "list",d2,.seq ys m,s2⟩ /\
   R (.ok (.ret Value.none)) { s with heap:=s.heap.update l (Obj.mapSeq fun x=>x++ys),toks:=s.toks }):=
 .of_wp fun prog w A R s h=>by
  obtain ⟨hp,g,d,tk,os⟩:=s;obtain ⟨hl,hb,h⟩:=h;have f1:=AutoSeq1.idx_int
  have f2:=AutoSeq1.sub_tuple_tuple
  have f3:=AutoSeq1.sub_list_list
  have f4:=AutoSeq1.sub_tuple_list
  have f5:=AutoSeq1.sub_list_tuple
  wp_walk using (wpAny_updateSeq hl rfl (hz:=h1) (_hz':=h2)),AutoSeq1.wpAny_loadPart' hl,AutoSeq1.wpAny_loadPart' hb
  exact ⟨_,rfl,h⟩
theorem AQ {X:Cx}:Jc X "list.extend" (Ai X.K):=by
 intro pins s σ H x vs v us Q I rx rv h;obtain ⟨l,b,xs,zs,rfl,rfl,hH,hB,hz,q⟩:=h
 cases rx;obtain ⟨u,rfl,ru⟩:=rv.one
 cases ru;obtain ⟨z,its,n,r,hl,e⟩:=I.lstM hH;have fin:∀its2:List Value,Vals zs its2->its.toArray.size+its2.toArray.size<=sizeLine/\(its.toArray++its2.toArray).size<=sizeLine+1/\its.toArray.size<=sizeLine/\¬(!its.toArray.isEmpty&&Builtin.List.listTooLong (its.toArray.size+its2.toArray.size))=true /\
   EP X pins σ Q Value.none { s with heap:=s.heap.update l (Obj.mapSeq fun x=>x++its2.toArray),toks:=s.toks }:=fun its2 r2=>by
  have h1:its.toArray.size+its2.toArray.size<=sizeLine:=by rw [size_toArray,size_toArray,<-r.length,<-r2.length];exact hz
  refine ⟨h1,by rw [Array.size_append];omega,by omega,?_,?_⟩
  ·rw [uv h1,Bool.and_false]
   exact Bool.false_ne_true
  ·exact ⟨.non,_,I.lset (its':=its++its2) hH e (by simp) (r.append r2) (by rw [length_append];exact hz),rfl,q⟩
 rcases hB with hB | hB
 ·obtain ⟨its2,r2,⟨⟨c2,d2,dat2,s2⟩,n2,e2,ec,ed,es⟩,_⟩:=I.list hB
  simp only at ec es
  subst ec es;obtain ⟨f1,f2,f3,f4,f5⟩:=fin its2 r2;exact call_meets F.slot_list_extend ⟨_,e,rfl⟩ F.entry_list_extend (F.args_list_extend_2 _ _) (HQ f4 f3 f2) ⟨e,e2,f5⟩
 ·obtain ⟨its2,r2,⟨⟨c2,d2,dat2,s2⟩,e2,ec,n2,es⟩,_⟩:=I.tuple hB
  simp only at ec es
  subst ec es;obtain ⟨f1,f2,f3,f4,f5⟩:=fin its2 r2;exact call_meets F.slot_list_extend ⟨_,e,rfl⟩ F.entry_list_extend (F.args_list_extend_2 _ _) (HP f4 f3 f2) ⟨e,e2,f5⟩
section
variable {X:Cx} {N gl:List Str} {vs cs ls lo gs:List Nat} {W:XW} {a b c e:Expr} {es:List Expr} {pos p:Pos} {fa fb fc:F1} {fl:FL} {g:FS}
theorem cs_extend (S:Cp X N gl vs cs ls lo gs) (i:Nat) {x:Str} {apos cpos:Pos} (hi:N[i]?=some x) (hv:vs.contains i=true) (ha:PE X a (tE X.K W fa)) (hs:starEach [a] X.env=[(false,eval a X.env)])
  (hbase:attributeBase (.Name x p) "extend" X.env (eval (.Name x p) X.env)=eval (.Name x p) X.env) (hline:(apos.endLine==cpos.line)=true)
  (hfew:((backTo cpos (starEach [a] X.env)).all (fun x=>!x.1)&&(backToKw cpos (keywordEach [] X.env)).all (fun x=>x.1.isSome)
   && decide ([a].length+([]:List Keyword).length+(if ([]:List Keyword).isEmpty then 0 else 1)<30))=true)
  (hsw:swapsWith (.Call (.Attribute (.Name x p) "extend" apos) [a] [] cpos) none pos.line X.env=pure false) :
  PS X (.Expr (.Call (.Attribute (.Name x p) "extend" apos) [a] [] cpos) pos) (tS X.K W (kZ i fa)):=by
 have m:=S.nm x (mem_of_getElem? hi)
 exact fm (vx (mR PySem.F.plainAttrs_list PySem.F.slot_list_extend PySem.F.type_list_extend AQ (zd (by rw [S.hN];exact hi) (S.vis i x hi hv) m.1 m.2) (da_cons ha da_nil hs) hbase hfew hline hs rfl) hsw) fun _ _ _=>zX
theorem Dy {P:Program} {w:World} {K:Fg} {mg:Str->Option Value} {base:Heap} {k:Nat} {f:Addr} {fd:FuncData} {ps:List Str}:e8 P w K mg base lQ k f fd ps (nZ K ps.length fun _=>.no):=
 ⟨fun vs H Q E h=>h.1,fun A outer s H args us vs Q E hr he hb hv h=>by
  obtain ⟨_,_,_,_,_,_,w⟩:=h;exact w.elim⟩
end
end T
namespace TQ
open PySem PySem.Spec L2 T
open PyProof.Rows hiding St
section
variable {X:Cx} {N gl:List Str} {vs cs ls lo gs:List Nat} {W:XW} {a b c e:Expr} {es:List Expr} {pos p:Pos} {fa fb fc:F1} {fl:FL} {ga gb:FB} {g1 g2 g:FS}
theorem ml (ha:Q (PE X a (tE X.K W fa))) (hb:Q (PE X b (tE X.K W fb))):Q (PE X (.BinOp a .Add b pos) (tE X.K W (nE fa fb))):=⟨have ha:=ha.p;have hb:=hb.p;br (jf wY ha hb) fun _ _ _=>zY⟩
theorem Ga {p2:Pos} (ha:Q (PE X a (tE X.K W fa))) (hb:Q (PE X b (tE X.K W fb))):Q (PE X (.Subscript a (.Slice (some b) none none p2) pos) (tE X.K W (ig fa fb))):=⟨have ha:=ha.p;have hb:=hb.p;br (ui zx ha (wK hb) wL) fun _ _ _=>zJ⟩
theorem sJ (S:Cp X N gl vs cs ls lo gs) (j:Nat) (hj:gl[j]?=some ("sum":Str)) (hg:gs.contains j=true) (hm:X.mg "sum"=none) (ha:Q (PA X (e::es) (tA X.K W fl))) (he:starEach (e::es) X.env=(false,eval e X.env)::starEach es X.env) (hpl:(backTo pos (starEach es X.env)).any (·.1)=false):Q (PE X (.Call (.Name "sum" p) (e::es) [] pos) (tE X.K W (bt rF fl))):=⟨have ha:=ha.p;qA (rW S.calm) Bi DL hm ha (S.g hj hg).1 (S.g hj hg).2.2 (S.g hj hg).2.1 he hpl⟩
theorem iX {x:Str} {tab:List (Str×Int)} (S:Cp X N gl vs cs ls lo gs) (j:Nat) (hj:gl[j]?=some x) (hg:gs.contains j=true) (Tb:BO X x tab) (ha:Q (PE X a (tE X.K W fa))):Q (PE X (.Compare a [.In] [.Name x p] pos) (tE X.K W (uX false tab fa))):=⟨have ha:=ha.p;Ay (AA S j hj hg Tb ha) rfl⟩
theorem qK {x:Str} {tab:List (Str×Int)} (S:Cp X N gl vs cs ls lo gs) (j:Nat) (hj:gl[j]?=some x) (hg:gs.contains j=true) (Tb:BO X x tab) (ha:Q (PE X a (tE X.K W fa))) (hs:gZ a):Q (PE X (.Subscript (.Name x p) a pos) (tE X.K W (qz tab fa))):=⟨by
 have ha:=ha.p
 intro pins s σ H Q I h;obtain ⟨d,es,ep,hm,l,hb⟩:=Tb;refine Subscript_ (Ee I (S.g hj hg).1 hm ?_ (S.g hj hg).2.1)
 refine b5 (ha pins s σ H _ I (wA h)) fun v s1 ⟨y,H1,I1,r1,k,i,ey,e,q⟩=>?_
 subst ey;obtain ⟨t,rfl⟩:=r1;refine KTD.item_text (mw I1.kIn l hb) ?_ (nD (fun t'=>⟨.int i,H1,I1.tok _,⟨_,rfl⟩,q⟩) tab e) (hs _ _)
 rw [<-KTD.isSome_datumAt,F8,e];rfl⟩
theorem Gv (S:Cp X N gl vs cs ls lo gs) (i:Nat) {x:Str} (hi:N[i]?=some x) (hv:vs.contains i=true) (hb:Q (PE X b (tE X.K W fb))) (hs:gZ b):Q (PE X (.Subscript (.Name x p) b pos) (tE X.K W (d7 i fb))):=⟨by
 have hb:=hb.p
 have m:=S.nm x (mem_of_getElem? hi)
 exact br (uj Fu (zd (by rw [S.hN];exact hi) (S.vis i x hi hv) m.1 m.2) hb hs) fun _ _ _=>wx⟩
theorem zm {x:Str} {n:Nat} {den:List JI->b4} (S:Cp X N gl vs cs ls lo gs) (j:Nat) (hj:gl[j]?=some x) (hg:gs.contains j=true) (C:pH X x n den) (ha:Q (PA X (e::es) (tA X.K W fl))) (he:starEach (e::es) X.env=(false,eval e X.env)::starEach es X.env) (hpl:(backTo pos (starEach es X.env)).any (·.1)=false):Q (PE X (.Call (.Name x p) (e::es) [] pos) (tE X.K W (fH n den fl))):=⟨by
 have ha:=ha.p
 obtain ⟨k,f,fd,ps,F,hr,hm,hk,hb⟩:=C;exact br (yj F hr (S.g hj hg).1 hm hk hb .nil iA ha (S.g hj hg).2.1 he hpl) fun _ _ _=>tQ⟩
theorem mh (S:Cp X N gl vs cs ls lo gs) (i:Nat) {x:Str} {pos':Pos} (hi:N[i]?=some x) (hl:ls.contains i=true) (ha:Q (PE X a (tE X.K W fa))):Q (PS X (.AugAssign (.Name x pos') .Add a pos) (tS X.K W (ir i fa))):=⟨have ha:=ha.p;fm (Ap (by rw [S.hN];exact S.nd) (by rw [S.hN];exact hi) (S.loc i x hi hl).1 ha A8 (S.loc i x hi hl).2) fun _ _ _=>Aa⟩
theorem me (S:Cp X N gl vs cs ls lo gs) (i:Nat) {x:Str} {apos cpos:Pos} (hi:N[i]?=some x) (hv:vs.contains i=true) (ha:Q (PE X a (tE X.K W fa))) (hs:starEach [a] X.env=[(false,eval a X.env)]) (hbase:attributeBase (.Name x p) "extend" X.env (eval (.Name x p) X.env)=eval (.Name x p) X.env) (hline:(apos.endLine==cpos.line)=true) (hfew:((backTo cpos (starEach [a] X.env)).all (fun x=>!x.1)&&(backToKw cpos (keywordEach [] X.env)).all (fun x=>x.1.isSome)
   && decide ([a].length+([]:List Keyword).length+(if ([]:List Keyword).isEmpty then 0 else 1)<30))=true) (hsw:swapsWith (.Call (.Attribute (.Name x p) "extend" apos) [a] [] cpos) none pos.line X.env=pure false):Q (PS X (.Expr (.Call (.Attribute (.Name x p) "extend" apos) [a] [] cpos) pos) (tS X.K W (kZ i fa))):=⟨T.cs_extend S i hi hv ha.p hs hbase hline hfew hsw⟩
theorem lZ {tg:Expr} (ha:Q (PE X a (tE X.K W fa))):Q (PI X tg a (tI X.K W (dJ fa))):=⟨have ha:=ha.p;qG (uf ha) fun _ _ _=>wy⟩
end
end TQ
namespace T
open PySem PySem.Spec L2
open PyProof.Rows hiding St
noncomputable def uQ (neg:Bool):JI->JI->Option JI
 | .bool a,.bool b=>some (.bool (if neg then a != b else a==b))
 | _,_=>none
theorem wW {X:Cx}:OpR X (compareOp .IsNot) (fun x y H Q=>∃a b,x=.bl a/\y=.bl b/\Q (.bl (a != b)) H):=by
 intro pins s σ H x y v u Q I rx ry h;obtain ⟨a,b,rfl,rfl,q⟩:=h
 cases rx
 cases ry;exact isnot_bool (BS I q rfl)
theorem uL {K:Fg}:GOp K (fun x y H Q=>∃a b,x=.bl a/\y=.bl b/\Q (.bl (a != b)) H) (uQ true):=by
 intro x y H Q a b d ra rb e k
 cases ra<;>cases rb<;>simp only [uQ] at e<;>try cases e
 exact ⟨_,_,rfl,rfl,k _ (.bl _)⟩
theorem Ak {X:Cx} (R:Rm X):Ck X .IsNot (fun x y H Q=>∃a b,x=.bl a/\y=.bl b/\Q (.bl (a != b)) H) (uQ true):=⟨wW,uL⟩
noncomputable def gP (neg:Bool):JI->JI->Option JI
 | .str i,.str j=>some (.bool (if neg then !(!(Builtin.Str.occurrences j i 0 j.length 1).isEmpty) else !(Builtin.Str.occurrences j i 0 j.length 1).isEmpty))
 | _,_=>none
theorem xw {K:Fg}:GOp K (fun x y H Q=>∃i j,x=.str i/\y=.str j/\Q (.bl (!(Builtin.Str.occurrences j i 0 j.length 1).isEmpty)) H) (gP false):=by
 intro x y H Q a b d ra rb e k
 cases ra<;>cases rb<;>simp only [gP] at e<;>try cases e
 exact ⟨_,_,rfl,rfl,k _ (.bl _)⟩
theorem qh {X:Cx} (R:Rm X):Ck X .In (fun x y H Q=>∃i j,x=.str i/\y=.str j/\Q (.bl (!(Builtin.Str.occurrences j i 0 j.length 1).isEmpty)) H) (gP false):=⟨rh,xw⟩
noncomputable def Jp (x:Str):List JI:=x.cps.toList.map fun c=>.str ⟨#[c]⟩
noncomputable def yK (x:Str):FI:=fun Γ=>.ok ⟨Jp x,true⟩ Γ
noncomputable def yP (x:Str):List JI->Option JI
 | [.str j]=>match Builtin.Str.occurrences x j 0 x.length 1 with
  | k::_=>some (.int k)
  | []=>none
 | _=>none
theorem Co:(1000:Nat)<=sizeLine:=by decide
theorem GT {i:Nat} {fc:FB} {fe:F1} {s:Sh} {c:D->Bool} {f:D->PV} {Γ:Ev} (hΓ:Γ.set i none=Γ):∀(r acc:List D),(∀d∈r,fc (Γ.set i (JJ d))=.ok (c d) (Γ.set i (JJ d))) ->
  (∀d∈r,c d=true->fe (Γ.set i (JJ d))=.ok (f d) (Γ.set i (JJ d))/\coer s (f d)=true)->acc.length+r.length<=sizeLine->cT i fc fe s r Γ acc=.ok (acc++((r.filter c).map fun d=>(f d).d)) Γ
 | [],acc,_,_,_=>by simp [cT]
 | d::r,acc,hc,he,hl=>by
  have h1:=hc d mem_cons_self
  have hl1:acc.length<sizeLine:=by simp at hl;omega
  have back:(Γ.set i (JJ d)).set i none=Γ:=by rw [set_set];exact hΓ
  rw [cT,h1]
  cases hcd:c d with
  | false=>
   dsimp only;rw [if_pos hl1,back,GT hΓ r acc (fun d hd=>hc d (JB _ hd)) (fun d hd=>he d (JB _ hd)) (by simp at hl;omega)]
   rw [List.filter_cons_of_neg (by rw [hcd];exact Bool.false_ne_true)]
  | true=>
   obtain ⟨h2,h3⟩:=he d mem_cons_self hcd;dsimp only;rw [h2];dsimp only;rw [h3,decide_eq_true hl1,Bool.and_self,if_pos rfl,back,GT hΓ r (acc++[(f d).d]) (fun d hd=>hc d (JB _ hd)) (fun d hd=>he d (JB _ hd)) (by simp at hl ⊢;omega)]
   rw [List.filter_cons_of_pos hcd,map_cons,append_assoc];rfl
theorem Gz {s:Sh} {i:Nat} {fi:FI} {fc:FB} {fe:F1} {c:D->Bool} {f:D->PV} {ds:List D} {st:Bool} {Γ:Ev} (hi:fi Γ=.ok ⟨ds,st⟩ Γ) (hl:i<Γ.length) (hs:s.isView=false) (hn:ds.length<=1000)
  (hc:∀d∈ds,fc (Γ.set i (JJ d))=.ok (c d) (Γ.set i (JJ d))) (he:∀d∈ds,c d=true->fe (Γ.set i (JJ d))=.ok (f d) (Γ.set i (JJ d))/\coer s (f d)=true) :
  ax s i fi fc fe Γ=.ok ⟨.lst s,.list ((ds.filter c).map fun d=>(f d).d)⟩ Γ:=by
 have hb:=Co
 unfold ax;rw [hi];unfold Out.bind;dsimp only;rw [GT (c:=c) (f:=f) (by rw [set_set]) ds [] (fun d hd=>by rw [set_set];exact hc d hd) (fun d hd=>by rw [set_set];exact he d hd) (by simp;omega)]
 dsimp only;rw [hs,decide_eq_true hl];simp only [Bool.not_false,Bool.and_self,if_true,nil_append,set_set]
 have:Γ.set i (Γ.getD i none)=Γ:=by
  apply B2
  rw [JA,Jz hl];rfl
 rw [this]
theorem B5 {s:Sh} {i:Nat} {fi:FI} {fe:F1} {f:D->PV} {ds:List D} {st:Bool} {Γ:Ev} (hi:fi Γ=.ok ⟨ds,st⟩ Γ) (hl:i<Γ.length) (hs:s.isView=false) (hn:ds.length<=1000)
  (he:∀d∈ds,fe (Γ.set i (JJ d))=.ok (f d) (Γ.set i (JJ d))/\coer s (f d)=true) :
  ax s i fi aK fe Γ=.ok ⟨.lst s,.list (ds.map fun d=>(f d).d)⟩ Γ:=by
 rw [Gz (fc:=aK) (c:=fun _=>true) (f:=f) hi hl hs hn (fun d hd=>rfl) fun d hd _=>he d hd,List.filter_eq_self.mpr fun _ _=>rfl]
theorem Gq {P:Nat->Ev->Prop} {i:Nat} {body:FS}:∀(ds:List D) (n:Nat) (Γ:Ev),P n Γ->(∀k d Γ,d∈ds->n<=k->k<n+ds.length->P k Γ->i<Γ.length/\∃Γ',body (Γ.set i (JJ d))=.nx Γ'/\P (k+1) Γ')->∃Γ',cE i body ds Γ=.nx Γ'/\P (n+ds.length) Γ'
 | [],n,Γ,h,_=>⟨Γ,rfl,h⟩
 | d::r,n,Γ,h,st=>by
  obtain ⟨hi,Γ1,e1,h1⟩:=st n d Γ mem_cons_self (JH _) (by simp) h
  obtain ⟨Γ2,e2,h2⟩:=Gq r (n+1) Γ1 h1 fun k d Γ hd a b c=>st k d Γ (JB _ hd) (by omega) (by simp;omega) c
  refine ⟨Γ2,?_,?_⟩
  ·rw [cE,if_pos hi,e1]
   exact e2
  ·rw [length_cons,show n+(r.length+1)=n+1+r.length by omega]
   exact h2
theorem FV {any:Bool} {α:Type} {xs:List α} {f:α->Bool}:cN (xs.map fun x=>.bool (f x))=some (xs.map f):=by
 induction xs with
 | nil=>rfl
 | cons x r ih=>rw [map_cons,cN,ih];rfl
theorem yh {α:Type} {xs:List α} {f:α->Bool}:da false [.list (xs.map fun x=>.bool (f x))]=some (.bool (xs.all f)):=by
 show Option.map _ (cN _)=_
 rw [FV (any:=false)];simp [List.all_map]
section
variable {Γ Γ1 Γ2:Ev} {fa fb fc:F1} {fl:FL} {p q:PV} {ps:List PV} {d e:D} {s s' s2:Sh} {i j n:Nat}
theorem aC (h:Γ[i]?=some (JJ d)):ae i Γ=.ok ⟨.leaf,d⟩ Γ:=by unfold ae;rw [h]
theorem yt (h:Γ[i]?=some (some ⟨.lst s,d⟩)):ae i Γ=.ok ⟨.view,d⟩ Γ:=by unfold ae;rw [h]
theorem D7 (h:Γ[i]?=some (some p)):cM i Γ=.ok p (Γ.set i none):=by unfold cM;rw [h]
theorem aW:eK d Γ=.ok ⟨.leaf,d⟩ Γ:=rfl
theorem aN {g:D->D->Option D} (ha:fa Γ=.ok p Γ1) (hb:fb Γ1=.ok q Γ2) (hg:g p.d q.d=some d):aw g fa fb Γ=.ok ⟨.leaf,d⟩ Γ2:=by
 unfold aw bf;rw [ha];simp only [Out.bind];rw [hb];simp only [hg]
theorem Ii {g:D->Option D} (ha:fa Γ=.ok p Γ1) (hg:g p.d=some d):eU g fa Γ=.ok ⟨.leaf,d⟩ Γ1:=by
 unfold eU bf;rw [ha];simp only [Out.bind,hg]
theorem aD (ha:fa Γ=.ok p Γ1) (hl:fl Γ1=.ok ps Γ2):ab fa fl Γ=.ok (p::ps) Γ2:=by
 unfold ab;rw [ha];simp only [Out.bind];rw [hl]
theorem ao:af Γ=.ok [] Γ:=rfl
theorem b7 {g:List D->Option D} (hl:fl Γ=.ok ps Γ1) (hg:g (ps.map (·.d))=some d):bt g fl Γ=.ok ⟨.leaf,d⟩ Γ1:=by
 unfold bt;rw [hl];simp only [Out.bind];rw [hg]
theorem cG {den:List D->b4} (hl:fl Γ=.ok ps Γ1) (hd:den (ps.map (·.d))=.ok p) (hn:ps.length=n) (hc:ps.all (coer .leaf)=true):ag n den fl Γ=.ok p Γ1:=by
 unfold ag;rw [hl];simp only [Out.bind,hn,hd,hc,if_true]
theorem yg {ds:List D} {k:Int} (ha:fa Γ=.ok ⟨s,.list ds⟩ Γ1) (hb:fb Γ1=.ok ⟨s',.int k⟩ Γ2) (hi:fq ds.length k=some j) (hd:ds[j]?=some d) (hs:cn s j d=some s2):ai fa fb Γ=.ok ⟨s2,d⟩ Γ2:=by
 unfold ai bf;rw [ha];simp only [Out.bind];rw [hb];simp only [hi,hd,hs]
theorem hJ {ds:List D} {k:Int} (ha:fa Γ=.ok ⟨s,.tuple ds⟩ Γ1) (hb:fb Γ1=.ok ⟨s',.int k⟩ Γ2) (hi:fq ds.length k=some j) (hd:ds[j]?=some d) (hs:cn s j d=some s2):ai fa fb Γ=.ok ⟨s2,d⟩ Γ2:=by
 unfold ai bf;rw [ha];simp only [Out.bind];rw [hb];simp only [hi,hd,hs]
theorem FU {x:Str} {k:Int} {c:Nat} (ha:fa Γ=.ok ⟨s,.str x⟩ Γ1) (hb:fb Γ1=.ok ⟨s',.int k⟩ Γ2) (hn:x.length<=sizeLine) (hi:fu x.cps.toList k=some c):ai fa fb Γ=.ok ⟨.leaf,.str ⟨#[c]⟩⟩ Γ2:=by
 unfold ai bf;rw [ha];simp only [Out.bind];rw [hb];simp only [hi,hn,if_true]
theorem pN (hl:fl Γ=.ok ps Γ1) (hs:s.isView=false) (hc:ps.all (coer s)=true) (hn:decide (ps.length<=1000)=true):bb s fl Γ=.ok ⟨.lst s,.list (ps.map (·.d))⟩ Γ1:=by
 have h2:ps.length<=sizeLine:=Nat.le_trans (of_decide_eq_true hn) Co
 unfold bb;rw [hl];simp only [Out.bind,hs,hc,decide_eq_true h2,Bool.not_false,Bool.and_self,if_true]
theorem dm (hl:fl Γ=.ok ps Γ1) (hc:ps.all tok=true) (hn:decide (ps.length<=1000)=true):bJ fl Γ=.ok ⟨.tup (ps.map yv),.tuple (ps.map (·.d))⟩ Γ1:=by
 have h2:ps.length<=sizeLine:=Nat.le_trans (of_decide_eq_true hn) Co
 unfold bJ;rw [hl];simp only [Out.bind,hc,decide_eq_true h2,Bool.and_self,if_true]
theorem F9 {ds:List D} (ha:fa Γ=.ok ⟨s,.list ds⟩ Γ1) (ho:aH ⟨s,.list ds⟩ ds=true):cW fa Γ=.ok ⟨.lst .leaf,.list ds⟩ Γ1:=by
 unfold cW bf;rw [ha];simp only [Out.bind,ho,if_true]
theorem v_and {a b:Bool} (ha:fa Γ=.ok ⟨s,.bool a⟩ Γ) (hb:fb Γ=.ok ⟨.leaf,.bool b⟩ Γ):eY fa fb Γ=.ok ⟨.leaf,.bool (a&&b)⟩ Γ:=by
 unfold eY bf;rw [ha];simp only [Out.bind]
 cases a with
 | false=>rfl
 | true=>exact hb
theorem vS {g g':D->D->Option D} {b b':Bool} (ha:fa Γ=.ok p Γ) (hb:fb Γ=.ok q Γ) (hg:g p.d q.d=some (.bool b)) (hs:bQ q.d=true) {z:PV} (hc:fc Γ=.ok z Γ) (hg':g' q.d z.d=some (.bool b')):gm g g' fa fb fc Γ=.ok ⟨.leaf,.bool (b&&b')⟩ Γ:=by
 unfold gm bf;rw [ha];simp only [Out.bind];rw [hb];simp only [hg]
 cases b with
 | false=>rfl
 | true=>simp only [hs,if_true,hc,hg',Bool.true_and]
theorem eB (ha:fa Γ=.ok ⟨s,.bool b⟩ Γ1):aF ah fa Γ=.ok b Γ1:=by unfold aF;rw [ha];rfl
theorem dg (ha:fa Γ=.ok ⟨s,.bool b⟩ Γ1):aF bh fa Γ=.ok b Γ1:=by unfold aF;rw [ha];rfl
theorem dU {ga:FB} {b:Bool} (h:ga Γ=.ok b Γ1):b6 ga Γ=.ok (!b) Γ1:=by unfold b6;rw [h];rfl
theorem qD {ga gb:FB} {a b:Bool} (ha:ga Γ=.ok a Γ) (hb:gb Γ=.ok b Γ):dB ga gb Γ=.ok (a&&b) Γ:=by
 unfold dB;rw [ha];simp only [Out.bind]
 cases a with
 | false=>rfl
 | true=>exact hb
theorem dS {ga gb:FB} {a b:Bool} (ha:ga Γ=.ok a Γ) (hb:gb Γ=.ok b Γ):eL ga gb Γ=.ok (a||b) Γ:=by
 unfold eL;rw [ha];simp only [Out.bind]
 cases a with
 | false=>exact hb
 | true=>rfl
theorem dD {ds:List D} (ha:fa Γ=.ok ⟨s,.list ds⟩ Γ1) (ho:aH ⟨s,.list ds⟩ ds=true):aS fa Γ=.ok ⟨ds,!s.isView⟩ Γ1:=by
 unfold aS;rw [ha];simp only [Out.bind,ho,if_true]
theorem iF {k:Int} (hl:fl Γ=.ok ps Γ1) (hp:ps.map (·.d)=[.int k]) (h0:-1000<=k) (h1:k<=100000):eO fl Γ=.ok ⟨cc 0 k.toNat,true⟩ Γ1:=by
 have h3:dI k=true:=by unfold dI;simp only [Bool.and_eq_true,decide_eq_true_eq];omega
 unfold eO;rw [hl];simp only [Out.bind,hp,jU,h3,if_true]
theorem Cy {k m:Int} (hl:fl Γ=.ok ps Γ1) (hp:ps.map (·.d)=[.int k,.int m]) (h0:-1000<=k) (h1:k<=100000) (h2:-1000<=m) (h4:m<=100000):xr fl Γ=.ok ⟨cc k (m-k).toNat,true⟩ Γ1:=by
 have h3:dI k=true:=by unfold dI;simp only [Bool.and_eq_true,decide_eq_true_eq];omega
 have h5:dI m=true:=by unfold dI;simp only [Bool.and_eq_true,decide_eq_true_eq];omega
 unfold xr;rw [hl];simp only [Out.bind,hp,qR,h3,h5,Bool.and_self,if_true]
theorem aB {g1 g2:FS} {o:fJ} (h1:g1 Γ=.nx Γ1) (h2:g2 Γ1=o):aq g1 g2 Γ=o:=by unfold aq;rw [h1];exact h2
theorem vn {g1 g2:FS} (h1:g1 Γ=.rt p):aq g1 g2 Γ=.rt p:=by unfold aq;rw [h1]
theorem bq {c:FB} {a b:FS} {t:Bool} {o:fJ} (hc:c Γ=.ok t Γ1) (ht:t=true->a Γ1=o) (hf:t=false->b Γ1=o):bL c a b Γ=o:=by
 unfold bL;rw [hc]
 cases t with
 | true=>exact ht rfl
 | false=>exact hf rfl
theorem bj (h:fa Γ=.ok p Γ1) (hs:p.s.isView=false):aL fa Γ=.rt p:=by
 unfold aL jO;rw [h];simp only [hs];rfl
theorem dq (h:fa Γ=.ok p Γ1) (hc:coer .leaf p=true) (hi:i<Γ1.length):ay false i fa Γ=.nx (Γ1.set i (JJ p.d)):=by
 unfold ay jO;rw [h];simp only [hi,if_true,hc,Bool.false_and];rfl
theorem Cj (h:fa Γ=.ok p Γ1) (hs:p.s.isView=false) (hi:i<Γ1.length):ay true i fa Γ=.nx (Γ1.set i (some p)):=by
 unfold ay jO;rw [h];simp only [hi,if_true,hs,Bool.true_and,Bool.not_false]
theorem Gc {ds:List D} (ho:Γ[i]?=some (some ⟨.lst s,.list ds⟩)) (h:fa Γ=.ok p Γ) (hc:coer s p=true) (hn:ds.length<=900):aE i fa Γ=.nx (Γ.set i (some ⟨.lst s,.list (ds++[p.d])⟩)):=by
 have h2:ds.length<sizeLine:=Nat.lt_of_lt_of_le (by omega:ds.length<1000) Co
 unfold aE ie;rw [ho];simp only [if_true];unfold jO;rw [h];simp only;unfold xZ;rw [ho];simp only [hc,decide_eq_true h2,Bool.and_self,if_true]
theorem zk {ds:List D} {k:Int} (ho:Γ[i]?=some (some ⟨.lst .leaf,.list ds⟩)) (h:fa Γ=.ok p Γ) (hk:fb Γ=.ok ⟨s,.int k⟩ Γ) (hi:fq ds.length k=some j) (hc:coer .leaf p=true):gJ i fa fb Γ=.nx (Γ.set i (some ⟨.lst .leaf,.list (ds.set j p.d)⟩)):=by
 unfold gJ cL;rw [ho];simp only [if_true];unfold jO;rw [h];simp only;rw [hk];simp only;unfold zz;rw [ho];simp only [hi,hc,if_true]
theorem ff {fi:FI} {body:FS} {ds:List D} {o:fJ} (h:fi Γ=.ok ⟨ds,true⟩ Γ1) (hg:cE i body ds Γ1=o):dW i fi body Γ=o:=by unfold dW;rw [h];exact hg
end
end T
namespace KC
open PySem PySem.Spec L2 T
open PyProof.Rows hiding St
noncomputable def cD:JI:=.tuple [.str "a",.str "b",.str "c",.str "d",.str "e",.str "f"]
noncomputable def cS:JI:=.tuple [.int 0,.int 1]
noncomputable def eV:JI:=.int 24
noncomputable def dy:JI:=.int 200
noncomputable def dz:JI:=.int 24
noncomputable def cx:JI:=.tuple [.str "some until",.str "all until"]
noncomputable def cZ:JI:=.tuple [.str "some always",.str "all always"]
noncomputable def bx:JI:=.tuple [.str "some next",.str "some until",.str "all always"]
noncomputable def iT:List (Str×Int):=[("yes",0),("not",1),("some next",1),("all next",1),("some always",1),("all always",1),("and",2),("or",2),("some until",2),("all until",2)]
noncomputable def nH:FS:=(aL (bt (da false) (ab (ax .leaf 1 (xr (ab (eK (.int 1)) (ab (bt aQ (ab (ae 0) af)) af))) aK (aw jv (ai (ae 0) (aw gSub (ae 1) (eK (.int 1)))) (ai (ae 0) (ae 1)))) af)))
noncomputable def dX:List JI->b4:=aI 2 nH
noncomputable def nM:FS:=(aL (eY (bt (da false) (ab (ax .leaf 1 (aS (ae 0)) aK (aw (bK false) (ae 1) (eK cD))) af)) (ag 1 dX (ab (ae 0) af))))
noncomputable def dZ:List JI->b4:=aI 2 nM
noncomputable def nL:FS:=(aL (eY (bt (da false) (ab (ax .leaf 2 (aS (ae 0)) aK (gm Ff jv (eK (.int 0)) (ae 2) (ae 1))) af)) (ag 1 dX (ab (ae 0) af))))
noncomputable def fA:List JI->b4:=aI 3 nL
noncomputable def nK:FS:=(aL (eY (aw jw (bt aQ (ab (ae 0) af)) (eK (.int 0))) (ag 2 fA (ab (ae 0) (ab (ae 1) af)))))
noncomputable def dY:List JI->b4:=aI 2 nK
noncomputable def pe:FS:=(aq (ay false 3 (bt aQ (ab (ae 0) af)))
  (aq (bL (eL (aF ah (aw jv (ae 3) (eK (.int 1)))) (eL (aF ah (aw jw (ae 3) (eK eV))) (eL (aF ah (aw iC (bt aQ (ab (ae 1) af)) (ae 3))) (aF ah (aw iC (bt aQ (ab (ae 2) af)) (ae 3)))))) (aL (eK (.bool false))) aG)
  (aq (bL (b6 (aF bh (bt (da false) (ab (ax .leaf 4 (aS (ae 0)) aK (aw (bK false) (ae 4) (eK cS))) af)))) (aL (eK (.bool false))) aG)
  (aL (eY (bt (da false) (ab (ax .leaf 5 (aS (ae 1)) aK (ag 1 dZ (ab (ae 5) af))) af)) (bt (da false) (ab (ax .leaf 5 (aS (ae 2)) aK (ag 2 dY (ab (ae 5) (ab (ae 3) af)))) af)))))))
noncomputable def eQ:List JI->b4:=aI 6 pe
noncomputable def kh:FS:=(bL (b6 (aF bh (ag 3 eQ (ab (ai (ae 0) (eK (.int 0))) (ab (ai (ae 0) (eK (.int 1))) (ab (ai (ae 0) (eK (.int 2))) af)))))) G8 aG)
noncomputable def bo:List JI->b4:=aI 1 kh
noncomputable def dR:FS:=(aL (rH (aF ah (aw bD (ai (ae 0) (eK (.int 0))) (eK (.str "mark")))) (bJ af) (ig (ae 0) (eK (.int 1)))))
noncomputable def aU:List JI->b4:=aI 1 dR
noncomputable def de:FS:=(aq (bL (eL (b6 (aF bh (dO "tuple" (ae 0)))) (eL (aF ah (aw bD (bt aQ (ab (ae 0) af)) (eK (.int 0)))) (b6 (aF bh (dO "str" (ai (ae 0) (eK (.int 0)))))))) (aL (eK (.bool false))) aG)
  (aq (bL (aF ah (aw bD (ai (ae 0) (eK (.int 0))) (eK (.str "mark")))) (aL (eY (aw bD (bt aQ (ab (ae 0) af)) (eK (.int 2))) (aw (bK false) (ai (ae 0) (eK (.int 1))) (eK cD)))) aG)
  (aL (eY (uX false iT (ai (ae 0) (eK (.int 0)))) (aw bD (bt aQ (ab (ae 0) af)) (aw aR (eK (.int 1)) (qz iT (ai (ae 0) (eK (.int 0))))))))))
noncomputable def bN:List JI->b4:=aI 1 de
noncomputable def fI:FS:=(aq (ay true 1 (bb .leaf af))
  (aq (dW 2 (aS (ae 0))
  (kZ 1 (ag 1 aU (ab (ae 2) af))))
  (aL (cM 1))))
noncomputable def cH:List JI->b4:=aI 3 fI
noncomputable def iD:FS:=(aq (ay true 1 (bb .leaf af))
  (aq (ay false 2 (bb .leaf (ab (ae 0) af)))
  (aq (ay false 3 (eK (.int 0)))
  (aq (ia 1000 (aF bh (ae 2))
  (aq (ir 3 (bt aQ (ab (ae 2) af)))
  (aq (bL (eL (aF ah (aw jw (ae 3) (eK dy))) (eL (aF ah (aw bD (bt aQ (ab (ae 1) af)) (eK dz))) (b6 (aF bh (bt (da false) (ab (ax .leaf 4 (aS (ae 2)) aK (ag 1 bN (ab (ae 4) af))) af)))))) (aL (eK .none)) aG)
  (aq (aE 1 (ae 2))
  (ay false 2 (ag 1 cH (ab (ae 2) af)))))))
  (aL (cM 1))))))
noncomputable def fz:List JI->b4:=aI 5 iD
noncomputable def eH:FS:=(aq (ay false 1 (ag 1 fz (ab (ae 0) af)))
  (aq (bL (aF ah (aw (cu false) (ae 1) (eK .none))) G8 aG)
  (aL (ae 1))))
noncomputable def cR:List JI->b4:=aI 2 eH
noncomputable def eJ:FS:=(fx (ag 1 cR (ab (ae 0) af)))
noncomputable def ba:List JI->b4:=aI 1 eJ
noncomputable def fW:FS:=(aL (ax .leaf 2 (eO (ab (bt aQ (ab (ai (ae 0) (eK (.int 0))) af)) af)) (aF ah (aw (bK true) (ae 2) (ae 1))) (ae 2)))
noncomputable def cV:List JI->b4:=aI 3 fW
noncomputable def nJ:FS:=(aL (rH (aF bh (ae 0)) (bt (da true) (ab (ae 1) af)) (bt (da false) (ab (ae 1) af))))
noncomputable def bX:List JI->b4:=aI 2 nJ
noncomputable def dQ:FS:=(aq (bL (aF ah (aw (bK false) (ai (ae 1) (eK (.int 0))) (eK cx))) (aL (bJ (ab (ai (ae 2) (eK (.int 0))) (ab (ai (ae 2) (eK (.int 1))) af)))) aG)
  (aL (bJ (ab (xG (ab (bt aQ (ab (ai (ae 0) (eK (.int 0))) af)) af)) (ab (ag 2 cV (ab (ae 0) (ab (ai (ae 2) (eK (.int 0))) af))) af)))))
noncomputable def aZ:List JI->b4:=aI 3 dQ
noncomputable def fV:FS:=(aq (ay true 4 (bb .leaf af))
  (aq (dW 5 (aS (ae 2))
  (bL (dB (aF ah (aw (cu false) (ai (ae 3) (ae 5)) (eK .none))) (aF bh (ag 2 bX (ab (ai (ae 1) (ae 5)) (ab (ax .leaf 6 (aS (ai (ai (ae 0) (eK (.int 2))) (ae 5))) aK (aw (cu true) (ai (ae 3) (ae 6)) (eK .none))) af))))) (aE 4 (ae 5)) aG))
  (aL (cM 4))))
noncomputable def cw:List JI->b4:=aI 7 fV
noncomputable def jC:FS:=(aq (ay true 4 (ax .leaf 8 (aS (ai (ae 0) (eK (.int 0)))) aK (eK .none)))
  (aq (ay false 5 (eK (.int 0)))
  (aq (ay false 6 (ae 3))
  (aq (ia 1000 (aF bh (ae 6))
  (aq (dW 7 (aS (ae 6))
  (gJ 4 (ae 5) (ae 7)))
  (aq (ir 5 (eK (.int 1)))
  (ay false 6 (fH 4 cw (ab (ae 0) (ab (ae 1) (ab (ae 2) (ab (ae 4) af)))))))))
  (aL (cM 4))))))
noncomputable def gj:List JI->b4:=aI 9 jC
noncomputable def gq:FS:=(aq (ay false 3 (ai (ae 1) (eK (.int 0))))
  (aq (bL (dB (aF ah (aw (bK true) (ae 3) (eK cx))) (aF ah (aw (bK true) (ae 3) (eK cZ)))) (aL (eK .none)) aG)
  (aq (ay false 4 (ag 3 aZ (ab (ae 0) (ab (ae 1) (ab (ae 2) af)))))
  (aL (ag 4 gj (ab (ae 0) (ab (ax .leaf 5 (aS (ai (ae 0) (eK (.int 0)))) aK (aw (bK false) (ae 3) (eK bx))) (ab (ai (ae 4) (eK (.int 0))) (ab (ai (ae 4) (eK (.int 1))) af)))))))))
noncomputable def bA:List JI->b4:=aI 6 gq
noncomputable def bB:FS:=(aq (ay false 5 (ai (ae 1) (eK (.int 0))))
  (aq (bL (aF ah (aw bD (ae 5) (eK (.str "yes")))) (aL (eK (.bool true))) aG)
  (aq (bL (aF ah (aw bD (ae 5) (eK (.str "mark")))) (aL (aw (bK false) (ai (ae 1) (eK (.int 1))) (ai (ai (ae 0) (eK (.int 1))) (ae 4)))) aG)
  (aq (bL (aF ah (aw (bK false) (ae 5) (eK cx))) (aL (aw (cu true) (ai (ae 3) (ae 4)) (eK .none))) aG)
  (aq (bL (aF ah (aw (bK false) (ae 5) (eK cZ))) (aL (aw (cu false) (ai (ae 3) (ae 4)) (eK .none))) aG)
  (aq (ay false 6 (ax .leaf 7 (aS (ae 2)) aK (aw (bK false) (ae 4) (ae 7))))
  (aq (bL (aF ah (aw bD (ae 5) (eK (.str "not")))) (aL (jy (ai (ae 6) (eK (.int 0))))) aG)
  (aq (bL (eL (aF ah (aw bD (ae 5) (eK (.str "and")))) (aF ah (aw bD (ae 5) (eK (.str "or"))))) (aL (rH (aF ah (aw bD (ae 5) (eK (.str "and")))) (bt (da false) (ab (ae 6) af)) (bt (da true) (ab (ae 6) af)))) aG)
  (aL (ag 2 bX (ab (aw (bK false) (ae 5) (eK bx)) (ab (ax .leaf 8 (aS (ai (ai (ae 0) (eK (.int 2))) (ae 4))) aK (aw (bK false) (ae 8) (ai (ae 2) (eK (.int 0))))) af))))))))))))
noncomputable def eT:List JI->b4:=aI 9 bB
noncomputable def jB:FS:=(aL (ax .leaf 4 (eO (ab (bt aQ (ab (ai (ae 0) (eK (.int 0))) af)) af)) (aF bh (ag 5 eT (ab (ae 0) (ab (ae 1) (ab (ae 2) (ab (ae 3) (ab (ae 4) af))))))) (ae 4)))
noncomputable def bO:List JI->b4:=aI 5 jB
noncomputable def u6 (r_judged:List JI->b4):FS:=(aq (ay false 2 (ax .leaf 3 (dJ (ag 1 aU (ab (ae 1) af))) aK (ag 2 r_judged (ab (ae 0) (ab (ae 3) af)))))
  (aL (ag 4 bO (ab (ae 0) (ab (ae 1) (ab (ae 2) (ab (ag 3 bA (ab (ae 0) (ab (ae 1) (ab (ae 2) af)))) af)))))))
noncomputable def m9:Nat->List JI->b4
 | 0=>fun _=>.no
 | n+1=>aI 4 (u6 (m9 n))
noncomputable def uB:List JI->b4:=m9 30
noncomputable def xO:FS:=(aq (fx (ag 1 bo (ab (ae 0) af)))
  (aq (fx (ag 1 ba (ab (ae 1) af)))
  (aL (ag 2 uB (ab (ae 0) (ab (ae 1) af))))))
noncomputable def xa:List JI->b4:=aI 2 xO
noncomputable def jF:FS:=(aq (bL (aF ah (aw jv (ae 1) (bt aQ (ab (ae 0) af)))) (aL (ai (ae 0) (ae 1))) aG)
  (aL (eK (.int 0))))
noncomputable def az:List JI->b4:=aI 2 jF
noncomputable def nO:FS:=(aq (bL (aF ah (aw oY (ae 0) (aw xA (eK (.int 10)) (eK (.int 18))))) (aq (ay false 4 (ae 0))
  (aq (dW 5 (eO (ab (ae 1) af))
  (ay false 4 (aw nu (ae 4) (ae 2))))
  (aL (aw bH (ae 4) (ae 2))))) aG)
  (aq (ay false 3 (aw bH (aw nt (aw aR (aw aR (aw bH (ae 0) (eK (.int 1000000007))) (aw nt (eK (.int 1009)) (ae 1))) (eK (.int 17))) (eK (.int 69621))) (eK (.int 2147483647))))
  (aq (ay false 3 (aw bH (aw aR (aw aR (aw nt (ae 3) (ae 3)) (aw nt (eK (.int 40503)) (ae 1))) (eK (.int 5))) (eK (.int 2147483629))))
  (aL (aw bH (aw nu (aw bH (aw nt (ae 3) (eK (.int 48271))) (eK (.int 2147483647))) (eK (.int 32))) (ae 2))))))
noncomputable def av:List JI->b4:=aI 6 nO
noncomputable def d__law_world:FS:=(aq (ay false 3 (aw aR (eK (.int 1)) (aw bH (ag 2 az (ab (ae 0) (ab (ae 1) af))) (ae 2))))
  (aq (ay true 4 (bb .leaf af))
  (aq (ay true 5 (bb .leaf af))
  (aq (ay true 6 (bb .leaf af))
  (aq (dW 7 (eO (ab (ae 3) af))
  (aq (ay false 8 (ag 2 az (ab (ae 0) (ab (aw aR (aw aR (ae 1) (eK (.int 1))) (ae 7)) af))))
  (aq (aE 4 (ag 3 av (ab (ae 8) (ab (eK (.int 0)) (ab (eK (.int 2)) af)))))
  (aq (aE 5 (ax .leaf 11 (eO (ab (eK (.int 3)) af)) (aF ah (aw bD (ag 3 av (ab (ae 8) (ab (aw aR (eK (.int 1)) (ae 11)) (ab (eK (.int 2)) af)))) (eK (.int 1)))) (ai (eK (.str "abc")) (ae 11))))
  (aq (ay false 9 (ax .leaf 10 (eO (ab (ae 3) af)) (aF ah (aw bD (ag 3 av (ab (ae 8) (ab (aw aR (eK (.int 4)) (ae 10)) (ab (aw aR (eK (.int 2)) (bt oX (ab (aw jw (ae 3) (eK (.int 3))) af))) af)))) (eK (.int 1)))) (ae 10)))
  (aq (bL (aF ah (aw bD (ae 9) (bb .leaf af))) (ay false 9 (bb .leaf (ab (ag 3 av (ab (ae 8) (ab (aw aR (eK (.int 4)) (ae 3)) (ab (ae 3) af)))) af))) aG)
  (aE 6 (ae 9))))))))
  (aL (bJ (ab (cM 4) (ab (cM 5) (ab (cM 6) af))))))))))
noncomputable def m__law_world:List JI->b4:=aI 12 d__law_world
noncomputable def iQ:FS:=(aq (ay false 3 (bb .leaf (ab (eK (.str "mark")) (ab (eK (.str "mark")) (ab (eK (.str "not")) (ab (eK (.str "and")) (ab (eK (.str "some until")) (ab (eK (.str "all until")) (ab (eK (.str "some next")) (ab (eK (.str "all next")) (ab (eK (.str "some always")) af)))))))))))
  (aq (ay false 3 (nE (ae 3) (bb .leaf (ab (eK (.str "all always")) (ab (eK (.str "or")) (ab (eK (.str "yes")) af))))))
  (aq (ay true 4 (bb .leaf (ab (bJ (ab (eK (.str "mark")) (ab (ai (eK (.str "abc")) (ag 3 av (ab (ag 2 az (ab (ae 0) (ab (ae 1) af))) (ab (eK (.int 3)) (ab (eK (.int 3)) af))))) af))) af)))
  (aq (dW 5 (xr (ab (eK (.int 1)) (ab (ae 2) af)))
  (aq (ay false 6 (ag 2 az (ab (ae 0) (ab (aw aR (ae 1) (ae 5)) af))))
  (aq (ay false 7 (ai (ae 3) (ag 3 av (ab (ae 6) (ab (eK (.int 0)) (ab (eK (.int 12)) af))))))
  (aq (ay false 8 (d7 4 (aw gSub (eU nr (eK (.int 1))) (aw bH (ag 3 av (ab (ae 6) (ab (eK (.int 1)) (ab (eK (.int 2)) af)))) (bt aQ (ab (ae 4) af))))))
  (aq (ay false 9 (d7 4 (aw bH (ag 3 av (ab (ae 6) (ab (eK (.int 2)) (ab (eK (.int 60)) af)))) (bt aQ (ab (ae 4) af)))))
  (bL (aF ah (aw bD (ae 7) (eK (.str "yes")))) (aE 4 (bJ (ab (eK (.str "yes")) af))) (bL (aF ah (aw bD (ae 7) (eK (.str "mark")))) (aE 4 (bJ (ab (eK (.str "mark")) (ab (ai (eK (.str "abc")) (ag 3 av (ab (ae 6) (ab (eK (.int 3)) (ab (eK (.int 3)) af))))) af)))) (bL (aF ah (aw (bK false) (ae 7) (bJ (ab (eK (.str "and")) (ab (eK (.str "or")) (ab (eK (.str "some until")) (ab (eK (.str "all until")) af))))))) (aE 4 (bJ (ab (ae 7) (ab (ae 9) (ab (ae 8) af))))) (aE 4 (bJ (ab (ae 7) (ab (ae 8) af))))))))))))
  (aL (d7 4 (eU nr (eK (.int 1)))))))))
noncomputable def cA:List JI->b4:=aI 10 iQ
noncomputable def dA (r__law_count:List JI->b4):FS:=(aL (aw aR (eK (.int 1)) (bt rF (ab (ax .leaf 1 (dJ (ig (ae 0) (eK (.int 1)))) (aF bh (dO "tuple" (ae 1))) (ag 1 r__law_count (ab (ae 1) af))) af))))
noncomputable def bu:Nat->List JI->b4
 | 0=>fun _=>.no
 | n+1=>aI 2 (dA (bu n))
noncomputable def bU:List JI->b4:=bu 20
open PySem.SeqAt
noncomputable def Fc (a b:D):Bool:=match jv a b with
 | some (.bool t)=>t
 | _=>false
noncomputable def gu (ds:List D):Prop:=∀a∈ds,∃n,a=.int n
noncomputable def jL (ds:List D):Prop:=∀a∈ds,∃x,a=.str x/\PyData.strOk x=true
noncomputable def Row (ds:List D):Prop:=gu ds\/jL ds
theorem za (i:Int):shaped (.int i)=true:=by simp [shaped,PyData.canLay0,PyData.depth]
theorem tp {x:Str} (h:PyData.strOk x=true):shaped (.str x)=true:=by simp [shaped,PyData.canLay0,PyData.depth,h]
theorem Row.lt {ds:List D} {a b:D} (h:Row ds) (ha:a∈ds) (hb:b∈ds):jv a b=some (.bool (Fc a b))/\oY a b=some (.bool (!Fc a b)):=by
 rcases h with h | h
 ·obtain ⟨n,rfl⟩:=h a ha
  obtain ⟨m,rfl⟩:=h b hb;refine ⟨rfl,?_⟩
  show some (PyData.bool (decide (m<=n)))=some (.bool (!decide (n<m)))
  congr 2
  by_cases q:n<m
  ·simp [q,Int.not_le.mpr q]
  ·simp [q,Int.not_lt.mp q]
 ·obtain ⟨n,rfl,_⟩:=h a ha
  obtain ⟨m,rfl,_⟩:=h b hb;exact ⟨rfl,rfl⟩
noncomputable def yI (ds:List D) (d:D):Bool:=match d with
 | .int j=>Fc (ds.getD (j-1).toNat .none) (ds.getD j.toNat .none)
 | _=>false
noncomputable def iu (ds:List D):Bool:=(cc 1 ((ds.length:Int)-1).toNat).all (yI ds)
theorem yi {lo:Int} {n:Nat} {d:D} (h:d∈cc lo n):∃k:Nat,k<n/\d=.int (lo+k):=by
 unfold cc at h;simp only [mem_map,mem_range] at h
 obtain ⟨k,hk,e⟩:=h;exact ⟨k,hk,e.symm⟩
theorem BY {lo:Int} {n:Nat}:(cc lo n).length=n:=by unfold cc;simp
theorem sA {n:Nat} {k:Nat} (h:k<n):fq n (k:Int)=some k:=by
 unfold fq;rw [if_pos (by omega),if_pos (by omega)]
 simp
theorem Dq {n:Nat} {i:Int} (h0:0<=i) (h1:i<n):fq n i=some i.toNat:=by
 unfold fq;rw [if_pos h0,if_pos h1]
theorem Ba {i:Int} (h0:-1000<=i) (h1:i<=100000):dI i=true:=by
 unfold dI;simp only [Bool.and_eq_true,decide_eq_true_eq]
 omega
theorem Eb {ds:List D} {k:Nat} (h:k<ds.length):ds[k]?=some (ds.getD k .none):=by
 rw [JA,Jz h];rfl
theorem getD_mem {ds:List D} {k:Nat} (h:k<ds.length):ds.getD k .none∈ds:=mem_of_getElem? (Eb h)
theorem Do {ds:List D} {k:Nat} (h:Row ds) (hk:k<((ds.length:Int)-1).toNat):fq ds.length (1+(k:Int)-1)=some k/\fq ds.length (1+(k:Int))=some (k+1)/\ds[k]?=some (ds.getD k .none)/\ds[k+1]?=some (ds.getD (k+1) .none) /\
  jv (ds.getD k .none) (ds.getD (k+1) .none)=some (.bool (yI ds (.int (1+(k:Int)))))/\oY (ds.getD k .none) (ds.getD (k+1) .none)=some (.bool (!yI ds (.int (1+(k:Int))))):=by
 have h1:k<ds.length:=by omega
 have h2:k+1<ds.length:=by omega
 have l:=h.lt (getD_mem h1) (getD_mem h2)
 have e3:yI ds (.int (1+(k:Int)))=Fc (ds.getD k .none) (ds.getD (k+1) .none):=by
  unfold yI;dsimp only;rw [show (1+(k:Int)-1).toNat=k by omega,show (1+(k:Int)).toNat=k+1 by omega]
 rw [e3];exact ⟨by rw [show (1+(k:Int)-1)=k by omega];exact sA h1,by rw [show (1+(k:Int))=((k+1:Nat):Int) by omega];exact sA h2,Eb h1,Eb h2,l.1,l.2⟩
theorem aV {n:Nat} {g:FS} {ds:List D} {p:PV} (h:g (ak n ds)=.rt p):aI n g ds=.ok p:=by unfold aI;rw [h]
theorem eq_int {a b:Int}:bD (.int a) (.int b)=some (.bool (a==b)):=by
 unfold bD;rw [za,za,Bool.and_self,if_pos rfl,PyData.eqv]
theorem fU {ds:List D} (h:Row ds) (hl:ds.length<=100):dX [.list ds]=.ok ⟨.leaf,.bool (iu ds)⟩:=by
 have hc:ax .leaf 1 (xr (ab (eK (.int 1)) (ab (bt aQ (ab (ae 0) af)) af))) aK (aw jv (ai (ae 0) (aw gSub (ae 1) (eK (.int 1)))) (ai (ae 0) (ae 1))) [JJ (.list ds),none] =
   .ok ⟨.lst .leaf,.list ((cc 1 ((ds.length:Int)-1).toNat).map fun d=>.bool (yI ds d))⟩ [JJ (.list ds),none]:=by
  refine B5 (f:=fun d=>⟨.leaf,.bool (yI ds d)⟩) (st:=true) (Cy (k:=1) (m:=(ds.length:Int)) (aD aW (aD (b7 (aD (aC rfl) ao) rfl) ao)) rfl (by omega) (by omega) (by omega) (by omega)) (by simp) rfl (by rw [BY];omega) fun d hd=>⟨?_,rfl⟩
  obtain ⟨k,hk,rfl⟩:=yi hd;obtain ⟨e1,e2,e3,e4,e5,e6⟩:=Do h hk;exact aN (yg (aC rfl) (aN (aC rfl) aW rfl) e1 e3 rfl) (yg (aC rfl) (aC rfl) e2 e4 rfl) e5
 exact aV (bj (b7 (aD hc ao) yh) rfl)
noncomputable def Cb (a:D):Bool:=[PyData.str "a",.str "b",.str "c",.str "d",.str "e",.str "f"].any fun y=>PyData.eqv y a
noncomputable def Du (a:D):Bool:=[PyData.int 0,.int 1].any fun y=>PyData.eqv y a
noncomputable def inR (n:Int) (a:D):Bool:=match a with
 | .int i=>decide (0<=i)&&decide (i<n)
 | _=>false
noncomputable def Ca (d:D):Bool:=match d with
 | .list xs=>xs.all Cb&&iu xs
 | _=>false
noncomputable def EL (n:Int) (d:D):Bool:=match d with
 | .list xs=>decide (0<xs.length)&&(xs.all (inR n)&&iu xs)
 | _=>false
theorem zy:shaped cD=true:=by decide +kernel
theorem CL:shaped cS=true:=by decide +kernel
theorem uH {x:Str} (hx:PyData.strOk x=true):bK false (.str x) cD=some (.bool (Cb (.str x))):=by
 unfold bK cD;have:=zy
 unfold cD at this;simp only [tp hx,this,Bool.and_self,if_true]
 rfl
theorem Dt {i:Int}:bK false (.int i) cS=some (.bool (Du (.int i))):=by
 unfold bK cS;have:=CL
 unfold cS at this;simp only [za,this,Bool.and_self,if_true]
 rfl
theorem kg {ds:List D} (h:jL ds) (hl:ds.length<=100):dZ [.list ds]=.ok ⟨.leaf,.bool (ds.all Cb&&iu ds)⟩:=by
 have hc:ax .leaf 1 (aS (ae 0)) aK (aw (bK false) (ae 1) (eK cD)) [JJ (.list ds),none]=.ok ⟨.lst .leaf,.list (ds.map fun d=>.bool (Cb d))⟩ [JJ (.list ds),none]:=by
  refine B5 (f:=fun d=>⟨.leaf,.bool (Cb d)⟩) (dD (aC rfl) rfl) (by simp) rfl (by omega) fun d hd=>⟨?_,rfl⟩
  obtain ⟨x,rfl,hx⟩:=h d hd;exact aN (aC rfl) aW (uH hx)
 exact aV (bj (v_and (b7 (aD hc ao) yh) (cG (aD (aC rfl) ao) (fU (.inr h) hl) rfl rfl)) rfl)
theorem chain_ev {i n:Int}:Ff (.int 0) (.int i)=some (.bool (decide (0<=i)))/\jv (.int i) (.int n)=some (.bool (decide (i<n))):=⟨rfl,rfl⟩
theorem kf {ds:List D} {n:Int} (h:gu ds) (hl:ds.length<=100):fA [.list ds,.int n]=.ok ⟨.leaf,.bool (ds.all (inR n)&&iu ds)⟩:=by
 have hc:ax .leaf 2 (aS (ae 0)) aK (gm Ff jv (eK (.int 0)) (ae 2) (ae 1)) [JJ (.list ds),JJ (.int n),none]=.ok ⟨.lst .leaf,.list (ds.map fun d=>.bool (inR n d))⟩ [JJ (.list ds),JJ (.int n),none]:=by
  refine B5 (f:=fun d=>⟨.leaf,.bool (inR n d)⟩) (dD (aC rfl) rfl) (by simp) rfl (by omega) fun d hd=>⟨?_,rfl⟩
  obtain ⟨i,rfl⟩:=h d hd;exact vS aW (aC rfl) (chain_ev (n:=n)).1 rfl (aC rfl) chain_ev.2
 exact aV (bj (v_and (b7 (aD hc ao) yh) (cG (aD (aC rfl) ao) (fU (.inl h) hl) rfl rfl)) rfl)
theorem ke {ds:List D} {n:Int} (h:gu ds) (hl:ds.length<=100):dY [.list ds,.int n]=.ok ⟨.leaf,.bool (decide (0<ds.length)&&(ds.all (inR n)&&iu ds))⟩:=by
 have e:jw (.int (ds.length:Nat)) (.int 0)=some (.bool (decide (0<ds.length))):=by
  show some (PyData.bool (decide ((0:Int)<(ds.length:Int))))=_
  congr 2
  exact decide_eq_decide.mpr (by omega)
 exact aV (bj (v_and (aN (b7 (aD (aC rfl) ao) rfl) aW e) (cG (aD (aC rfl) (aD (aC rfl) ao)) (kf h hl) rfl rfl)) rfl)
structure Wk (b:Nat) (os ms ss:List D):Prop where
 o:gu os
 m:∀r∈ms,∃xs,r=.list xs/\jL xs/\xs.length<=30
 s:∀r∈ss,∃xs,r=.list xs/\gu xs/\xs.length<=30
 lo:os.length<=b
 lm:ms.length<=b
 ls:ss.length<=b
noncomputable def Fh (os ms ss:List D):Bool:=decide ((os.length:Int)<1)||(decide ((24:Int)<os.length)||((!((ms.length:Int)==(os.length:Int)))||(!((ss.length:Int)==(os.length:Int)))))
noncomputable def isW (os ms ss:List D):Bool:=!Fh os ms ss&&(os.all Du&&(ms.all Ca&&ss.all (EL os.length)))
theorem ne_int {a b:Int}:iC (.int a) (.int b)=some (.bool (!(a==b))):=by
 unfold iC;rw [za,za,Bool.and_self,if_pos rfl,PyData.eqv]
theorem lD {b:Nat} {os ms ss:List D} (h:Wk b os ms ss) (hb:b<=100):eQ [.list os,.list ms,.list ss]=.ok ⟨.leaf,.bool (isW os ms ss)⟩:=by
 have lo:=h.lo
 have lm:=h.lm
 have ls:=h.ls
 refine aV ?_
 refine aB (dq (b7 (aD (aC rfl) ao) rfl) rfl (by simp [ak])) ?_
 have hif:(eL (aF ah (aw jv (ae 3) (eK (.int 1)))) (eL (aF ah (aw jw (ae 3) (eK eV))) (eL (aF ah (aw iC (bt aQ (ab (ae 1) af)) (ae 3))) (aF ah (aw iC (bt aQ (ab (ae 2) af)) (ae 3)))))) [JJ (.list os),JJ (.list ms),JJ (.list ss),JJ (.int (os.length:Nat)),none,none]
   = .ok (Fh os ms ss) [JJ (.list os),JJ (.list ms),JJ (.list ss),JJ (.int (os.length:Nat)),none,none]:=
  dS (eB (aN (aC rfl) aW rfl)) (dS (eB (aN (aC rfl) aW rfl)) (dS (eB (aN (b7 (aD (aC rfl) ao) rfl) (aC rfl) ne_int)) (eB (aN (b7 (aD (aC rfl) ao) rfl) (aC rfl) ne_int))))
 cases hbad:Fh os ms ss with
 | true=>
  rw [hbad] at hif;unfold isW;rw [hbad];exact vn (bq hif (fun _=>bj aW rfl) nofun)
 | false=>
  rw [hbad] at hif;refine aB (bq hif nofun (fun _=>rfl)) ?_
  have c1:ax .leaf 4 (aS (ae 0)) aK (aw (bK false) (ae 4) (eK cS)) [JJ (.list os),JJ (.list ms),JJ (.list ss),JJ (.int (os.length:Nat)),none,none]
    = .ok ⟨.lst .leaf,.list (os.map fun d=>.bool (Du d))⟩ [JJ (.list os),JJ (.list ms),JJ (.list ss),JJ (.int (os.length:Nat)),none,none]:=by
   refine B5 (f:=fun d=>⟨.leaf,.bool (Du d)⟩) (dD (aC rfl) rfl) (by simp) rfl (by omega) fun d hd=>⟨?_,rfl⟩
   obtain ⟨i,rfl⟩:=h.o d hd;exact aN (aC rfl) aW Dt
  have c2:ax .leaf 5 (aS (ae 1)) aK (ag 1 dZ (ab (ae 5) af)) [JJ (.list os),JJ (.list ms),JJ (.list ss),JJ (.int (os.length:Nat)),none,none]
    = .ok ⟨.lst .leaf,.list (ms.map fun d=>.bool (Ca d))⟩ [JJ (.list os),JJ (.list ms),JJ (.list ss),JJ (.int (os.length:Nat)),none,none]:=by
   refine B5 (f:=fun d=>⟨.leaf,.bool (Ca d)⟩) (dD (aC rfl) rfl) (by simp) rfl (by omega) fun d hd=>⟨?_,rfl⟩
   obtain ⟨xs,rfl,hx,hl⟩:=h.m d hd;exact cG (aD (aC rfl) ao) (kg hx (by omega)) rfl rfl
  have c3:ax .leaf 5 (aS (ae 2)) aK (ag 2 dY (ab (ae 5) (ab (ae 3) af))) [JJ (.list os),JJ (.list ms),JJ (.list ss),JJ (.int (os.length:Nat)),none,none]
    = .ok ⟨.lst .leaf,.list (ss.map fun d=>.bool (EL os.length d))⟩ [JJ (.list os),JJ (.list ms),JJ (.list ss),JJ (.int (os.length:Nat)),none,none]:=by
   refine B5 (f:=fun d=>⟨.leaf,.bool (EL os.length d)⟩) (dD (aC rfl) rfl) (by simp) rfl (by omega) fun d hd=>⟨?_,rfl⟩
   obtain ⟨xs,rfl,hx,hl⟩:=h.s d hd;exact cG (aD (aC rfl) (aD (aC rfl) ao)) (ke hx (by omega)) rfl rfl
  have t1:=dU (dg (b7 (aD c1 ao) yh))
  cases ho:os.all Du with
  | false=>
   rw [ho] at t1;unfold isW;rw [ho,Bool.false_and,Bool.and_false];exact vn (bq t1 (fun _=>bj aW rfl) nofun)
  | true=>
   rw [ho] at t1;refine aB (bq t1 nofun (fun _=>rfl)) ?_
   unfold isW;rw [hbad,ho,Bool.not_false,Bool.true_and,Bool.true_and];exact bj (v_and (b7 (aD c2 ao) yh) (b7 (aD c3 ao) yh)) rfl
theorem Br {xs:List D} (h:shaped (.list xs)=true):bD (.list xs) (.list [])=some (.bool (decide (xs.length=0))):=by
 unfold bD;have h2:shaped (.list [])=true:=by decide +kernel
 rw [h,h2,Bool.and_self,if_pos rfl]
 cases xs with
 | nil=>rfl
 | cons a r=>rfl
theorem Cn {xs:List D} (h:gu xs):shaped (.list xs)=true:=by
 have c:PyData.canLayAll0 xs=true/\PyData.depthAll xs=0:=by
  induction xs with
  | nil=>exact ⟨rfl,rfl⟩
  | cons a r ih=>
   obtain ⟨n,rfl⟩:=h a mem_cons_self;have q:=ih fun x hx=>h x (JB _ hx)
   simp [PyData.canLayAll0,PyData.canLay0,PyData.depthAll,PyData.depth,q.1,q.2]
 simp [shaped,PyData.canLay0,PyData.depth,c.1,c.2]
theorem vZ {xs:List D} (h:jL xs):shaped (.list xs)=true:=by
 have c:PyData.canLayAll0 xs=true/\PyData.depthAll xs=0:=by
  induction xs with
  | nil=>exact ⟨rfl,rfl⟩
  | cons a r ih=>
   obtain ⟨n,rfl,hn⟩:=h a mem_cons_self;have q:=ih fun x hx=>h x (JB _ hx)
   simp [PyData.canLayAll0,PyData.canLay0,PyData.depthAll,PyData.depth,q.1,q.2,hn]
 simp [shaped,PyData.canLay0,PyData.depth,c.1,c.2]
theorem lt_int {a b:Int}:jv (.int a) (.int b)=some (.bool (decide (a<b))):=rfl
theorem xy {a b:Int}:oY (.int a) (.int b)=some (.bool (decide (b<=a))):=rfl
theorem pI {a b:Int}:aR (.int a) (.int b)=some (.int (a+b)):=rfl
theorem dG {a b:Int} (h:0<b):bH (.int a) (.int b)=some (.int (a % b)):=by
 show (if xV a b then _ else _)=_
 rw [if_pos (by unfold xV;simpa using h)]
theorem uY {a b:Int} (h:0<b) (h2:b<1073741824):nu (.int a) (.int b)=some (.int (a / b)):=by
 show (if xW a b then _ else _)=_
 rw [if_pos (by unfold xW;simp [h,h2])]
theorem yH {a b:Int} (h:-1000000000000<b) (h2:b<1000000000000):nt (.int a) (.int b)=some (.int (a*b)):=by
 show (if r9 a b then _ else _)=_
 rw [if_pos (by unfold r9;simp only [Bool.or_eq_true,Bool.and_eq_true,decide_eq_true_eq];right;omega)]
theorem uA {a b:Int} (h:-1000000000000<a) (h2:a<1000000000000):nt (.int a) (.int b)=some (.int (a*b)):=by
 show (if r9 a b then _ else _)=_
 rw [if_pos (by unfold r9;simp only [Bool.or_eq_true,Bool.and_eq_true,decide_eq_true_eq];left;omega)]
theorem C9 {b:Int} (h:0<=b) (h2:b<=100):xA (.int 10) (.int b)=some (.int (10 ^ b.toNat)):=by
 show (if xU 10 b then _ else _)=_
 rw [if_pos (by unfold xU;simp only [Bool.and_eq_true,decide_eq_true_eq];exact ⟨⟨h,by omega⟩,by decide⟩)]
theorem B1 {xs:List D} (h:gu xs) {k:Int} (hk:0<=k):∃c,az [.list xs,.int k]=.ok ⟨.leaf,.int c⟩:=by
 have t:aF ah (aw jv (ae 1) (bt aQ (ab (ae 0) af))) [JJ (.list xs),JJ (.int k)]=.ok (decide (k<(xs.length:Int))) [JJ (.list xs),JJ (.int k)]:=
  eB (aN (aC rfl) (b7 (aD (aC rfl) ao) rfl) lt_int)
 cases hlt:decide (k<(xs.length:Int)) with
 | true=>
  rw [hlt] at t;have hl:=of_decide_eq_true hlt
  have hk2:k.toNat<xs.length:=by omega
  obtain ⟨c,hc⟩:=h _ (getD_mem hk2);have g:=Eb hk2
  rw [hc] at g;exact ⟨c,aV (vn (bq t (fun _=>bj (yg (aC rfl) (aC rfl) (Dq hk hl) g rfl) rfl) nofun))⟩
 | false=>
  rw [hlt] at t;exact ⟨0,aV (aB (bq t nofun (fun _=>rfl)) (bj aW rfl))⟩
theorem nF {c k b:Int} (hk:0<=k) (hk2:k<=1000) (hb:1<=b) (hb2:b<=1000):∃r,av [.int c,.int k,.int b]=.ok ⟨.leaf,.int r⟩/\0<=r/\r<b:=by
 have t:aF ah (aw oY (ae 0) (aw xA (eK (.int 10)) (eK (.int 18)))) [JJ (.int c),JJ (.int k),JJ (.int b),none,none,none]=.ok (decide (10 ^ (18:Int).toNat<=c)) [JJ (.int c),JJ (.int k),JJ (.int b),none,none,none]:=
  eB (aN (aC rfl) (aN aW aW (C9 (by omega) (by omega))) xy)
 cases hge:decide (10 ^ (18:Int).toNat<=c) with
 | true=>
  rw [hge] at t;obtain ⟨Γ',e,l,x,hΓ⟩:=Gq (P:=fun _ Γ=>∃l x,Γ=[JJ (.int c),JJ (.int k),JJ (.int b),none,JJ (.int l),x]) (i:=5) (body:=ay false 4 (aw nu (ae 4) (ae 2))) (cc 0 k.toNat) 0
   [JJ (.int c),JJ (.int k),JJ (.int b),none,JJ (.int c),none] ⟨c,none,rfl⟩ (fun m d Γ hd _ _ ⟨l,x,hΓ⟩=>by
    subst hΓ;refine ⟨by simp,_,dq (aN (aC rfl) (aC rfl) (uY (by omega) (by omega))) rfl (by simp),_,_,rfl⟩)
  subst hΓ;exact ⟨_,aV (vn (bq t (fun _=>aB (dq (aC rfl) rfl (by simp)) (aB (ff (iF (k:=k) (aD (aC rfl) ao) rfl (by omega) (by omega)) e) (bj (aN (aC rfl) (aC rfl) (dG (by omega))) rfl))) nofun)),Int.emod_nonneg _ (by omega),Int.emod_lt_of_pos _ (by omega)⟩
 | false=>
  rw [hge] at t;have m1:∀x:Int,0<=x % 2147483647/\x % 2147483647<2147483647:=fun x=>⟨Int.emod_nonneg _ (by omega),Int.emod_lt_of_pos _ (by omega)⟩
  refine ⟨_,aV (aB (bq t nofun (fun _=>rfl)) (aB (dq (aN (aN (aN (aN (aN (aC rfl) aW (dG (by omega))) (aN aW (aC rfl) (uA (by omega) (by omega))) pI) aW pI) aW (yH (by omega) (by omega))) aW (dG (by omega))) rfl (by simp [ak]))
   (aB (dq (aN (aN (aN (aN (aC rfl) (aC rfl) (uA ?_ ?_)) (aN aW (aC rfl) (uA (by omega) (by omega))) pI) aW pI) aW (dG (by omega))) rfl (by simp [ak]))
   (bj (aN (aN (aN (aN (aC rfl) aW (yH (by omega) (by omega))) aW (dG (by omega))) aW (uY (by omega) (by omega))) (aC rfl) (dG (by omega))) rfl)))),Int.emod_nonneg _ (by omega),Int.emod_lt_of_pos _ (by omega)⟩
  ·exact Int.lt_of_lt_of_le (by omega) (m1 _).1
  ·exact Int.lt_trans (m1 _).2 (by omega)
noncomputable def hE (c k b:Int):Int:=match av [.int c,.int k,.int b] with
 | .ok ⟨_,.int r⟩=>r
 | _=>0
theorem vG {c k b:Int} (hk:0<=k) (hk2:k<=1000) (hb:1<=b) (hb2:b<=1000):av [.int c,.int k,.int b]=.ok ⟨.leaf,.int (hE c k b)⟩:=by
 obtain ⟨r,e,_⟩:=nF (c:=c) hk hk2 hb hb2
 unfold hE;rw [e]
theorem zb {c k b:Int} (hk:0<=k) (hk2:k<=1000) (hb:1<=b) (hb2:b<=1000):0<=hE c k b/\hE c k b<b:=by
 obtain ⟨r,e,h⟩:=nF (c:=c) hk hk2 hb hb2
 unfold hE;rw [e];exact h
noncomputable def abc (d:D):D:=match d with
 | .int k=>(match fu [97,98,99] k with
  | some c=>.str ⟨#[c]⟩
  | none=>.none)
 | _=>.none
theorem uo {c:Nat} (h:c<1000):PyData.strOk ⟨#[c]⟩=true:=by
 unfold PyData.strOk;simp
 omega
theorem qF:(Str.ofString "abc").cps.toList=[97,98,99]:=by decide +kernel
theorem Fy:(Str.ofString "abc").length<=sizeLine:=by decide +kernel
theorem vg {k:Nat} (hk:k<3):∃c,c<1000/\fu (Str.ofString "abc").cps.toList (k:Int)=some c/\abc (.int k)=.str ⟨#[c]⟩:=by
 rw [qF];match k,hk with
 | 0,_=>exact ⟨97,by omega,rfl,rfl⟩
 | 1,_=>exact ⟨98,by omega,rfl,rfl⟩
 | 2,_=>exact ⟨99,by omega,rfl,rfl⟩
noncomputable abbrev eW:FS:=(aq (ay false 8 (ag 2 az (ab (ae 0) (ab (aw aR (aw aR (ae 1) (eK (.int 1))) (ae 7)) af))))
  (aq (aE 4 (ag 3 av (ab (ae 8) (ab (eK (.int 0)) (ab (eK (.int 2)) af)))))
  (aq (aE 5 (ax .leaf 11 (eO (ab (eK (.int 3)) af)) (aF ah (aw bD (ag 3 av (ab (ae 8) (ab (aw aR (eK (.int 1)) (ae 11)) (ab (eK (.int 2)) af)))) (eK (.int 1)))) (ai (eK (.str "abc")) (ae 11))))
  (aq (ay false 9 (ax .leaf 10 (eO (ab (ae 3) af)) (aF ah (aw bD (ag 3 av (ab (ae 8) (ab (aw aR (eK (.int 4)) (ae 10)) (ab (aw aR (eK (.int 2)) (bt oX (ab (aw jw (ae 3) (eK (.int 3))) af))) af)))) (eK (.int 1)))) (ae 10)))
  (aq (bL (aF ah (aw bD (ae 9) (bb .leaf af))) (ay false 9 (bb .leaf (ab (ag 3 av (ab (ae 8) (ab (aw aR (eK (.int 4)) (ae 3)) (ab (ae 3) af)))) af))) aG)
  (aE 6 (ae 9)))))))
theorem tH {ts:List Int} (h:ts.Pairwise (· < ·)):iu (ts.map .int)=true:=by
 unfold iu;rw [all_eq_true];intro d hd;obtain ⟨k,hk,rfl⟩:=yi hd;rw [length_map] at hk;have h1:k<ts.length:=by omega
 have h2:k+1<ts.length:=by omega
 unfold yI;dsimp only;rw [show (1+(k:Int)-1).toNat=k by omega,show (1+(k:Int)).toNat=k+1 by omega]
 rw [JA,JA,getElem?_map,getElem?_map,Jz h1,Jz h2];have:=List.pairwise_iff_getElem.mp h k (k+1) h1 h2 (by omega)
 show decide (ts[k]<ts[k+1])=true
 exact decide_eq_true this
structure Gw (N:Int) (n:Nat) (os ms ss:List D):Prop where
 lo:os.length=n
 lm:ms.length=n
 ls:ss.length=n
 o:∀a∈os,a=.int 0\/a=.int 1
 m:∀r∈ms,∃xs,r=.list xs/\jL xs/\xs.length<=30/\Ca r=true
 s:∀r∈ss,∃ts:List Int,r=.list (ts.map .int)/\ts.length<=30/\ts≠[]/\(∀t∈ts,0<=t/\t<N)/\ts.Pairwise (· < ·)
theorem Ct {ts:List Int}:gu (ts.map .int):=fun a ha=>by
 obtain ⟨n,_,e⟩:=List.mem_map.mp ha;exact ⟨n,e.symm⟩
theorem Gw.wk {N:Int} {n b:Nat} {os ms ss:List D} (h:Gw N n os ms ss) (hb:n<=b):Wk b os ms ss:=
 ⟨fun a ha=>(h.o a ha).elim (fun e=>⟨0,e⟩) fun e=>⟨1,e⟩,fun r hr=>let ⟨xs,e,a,b,_⟩:=h.m r hr;⟨xs,e,a,b⟩,fun r hr=>let ⟨ts,e,a,_⟩:=h.s r hr;⟨_,e,Ct,by rw [length_map];exact a⟩,by rw [h.lo];exact hb,by rw [h.lm];exact hb,by rw [h.ls];exact hb⟩
theorem Gw.isW {n:Nat} {os ms ss:List D} (h:Gw (n:Int) n os ms ss) (h1:1<=n) (h24:n<=24):isW os ms ss=true:=by
 unfold KC.isW Fh;rw [h.lo,h.lm,h.ls];have e1:decide ((n:Int)<1)=false:=decide_eq_false (by omega)
 have e2:decide ((24:Int)<n)=false:=decide_eq_false (by omega)
 rw [e1,e2];simp only [beq_self_eq_true,Bool.not_true,Bool.or_self,Bool.not_false,Bool.true_and,Bool.and_eq_true,all_eq_true]
 refine ⟨fun a ha=>?_,fun r hr=>?_,fun r hr=>?_⟩
 ·rcases h.o a ha with rfl | rfl<;>rfl
 ·obtain ⟨xs,_,_,_,e⟩:=h.m r hr
  exact e
 ·obtain ⟨ts,rfl,h2,h3,h4,h5⟩:=h.s r hr
  unfold EL;simp only [Bool.and_eq_true,decide_eq_true_eq,length_map,all_eq_true]
  refine ⟨by cases ts with | nil=>exact absurd rfl h3 | cons a r=>simp,fun a ha=>?_,tH h5⟩
  obtain ⟨t,ht,rfl⟩:=List.mem_map.mp ha;have:=h4 t ht
  unfold inR;simp only [Bool.and_eq_true,decide_eq_true_eq]
  exact this
theorem HJ (c0 c1 c2:Bool):Ca (.list (((if c0 then [PyData.str ⟨#[97]⟩] else [])++((if c1 then [PyData.str ⟨#[98]⟩] else [])++(if c2 then [PyData.str ⟨#[99]⟩] else [])))))=true:=by
 cases c0<;>cases c1<;>cases c2<;>decide +kernel
theorem HY (c:D->Bool):((cc 0 3).filter c).map abc=((if c (.int 0) then [PyData.str ⟨#[97]⟩] else [])++((if c (.int 1) then [PyData.str ⟨#[98]⟩] else [])++(if c (.int 2) then [PyData.str ⟨#[99]⟩] else []))):=by
 have e:cc 0 3=[.int 0,.int 1,.int 2]:=rfl
 rw [e];simp only [filter_cons,List.filter_nil]
 cases c (.int 0)<;>cases c (.int 1)<;>cases c (.int 2)<;>rfl
theorem zD (n:Nat) (c:D->Bool):∃ts:List Int,((cc 0 n).filter c).map (fun d=>d)=ts.map .int/\(∀t∈ts,0<=t/\t<(n:Int))/\ts.Pairwise (· < ·)/\ts.length<=n:=by
 refine ⟨((List.range n).map fun i=>(0:Int)+(i:Nat)).filter fun i=>c (.int i),?_,fun t ht=>?_,?_,?_⟩
 ·rw [List.map_id']
  unfold cc;rw [show (fun i:Nat=>PyData.int (0+(i:Int)))=(PyData.int∘fun i:Nat=>(0:Int)+(i:Nat)) from rfl,<-map_map,List.filter_map]
  rfl
 ·obtain ⟨h1,_⟩:=List.mem_filter.mp ht
  obtain ⟨i,hi,rfl⟩:=List.mem_map.mp h1;rw [mem_range] at hi;omega
 ·refine List.Pairwise.filter _ ?_
  rw [pairwise_map];exact List.pairwise_lt_range.imp fun h=>by omega
 ·refine Nat.le_trans (length_filter_le _ _) ?_
  simp
theorem pw {xs os ms ss:List D} {at' lim many:Int} {n:Nat} {x8 x9:Option PV} (hx:gu xs) (ha:0<=at') (hm:1<=many) (hm2:many<=24) (h:Gw many n os ms ss) (hn:n<=30) {r:Nat} :
  ∃os' ms' ss' x8' x9',eW [JJ (.list xs),JJ (.int at'),JJ (.int lim),JJ (.int many),some ⟨.lst .leaf,.list os⟩,some ⟨.lst .leaf,.list ms⟩,some ⟨.lst .leaf,.list ss⟩,JJ (.int (r:Nat)),x8,x9,none,none]
   = .nx [JJ (.list xs),JJ (.int at'),JJ (.int lim),JJ (.int many),some ⟨.lst .leaf,.list os'⟩,some ⟨.lst .leaf,.list ms'⟩,some ⟨.lst .leaf,.list ss'⟩,JJ (.int (r:Nat)),x8',x9',none,none]/\Gw many (n+1) os' ms' ss':=by
 obtain ⟨c,hc⟩:=B1 hx (k:=at'+1+(r:Int)) (by omega)
 have lo:=h.lo
 have lm:=h.lm
 have ls:=h.ls
 have c5:∀(Γ:Ev),Γ.length=12->Γ[8]?=some (JJ (.int c))->ax .leaf 11 (eO (ab (eK (.int 3)) af)) (aF ah (aw bD (ag 3 av (ab (ae 8) (ab (aw aR (eK (.int 1)) (ae 11)) (ab (eK (.int 2)) af)))) (eK (.int 1)))) (ai (eK (.str "abc")) (ae 11)) Γ
   = .ok ⟨.lst .leaf,.list (((cc 0 3).filter fun d=>match d with | .int k=>hE c (1+k) 2==1 | _=>false).map fun d=>abc d)⟩ Γ:=fun Γ hl h8=>by
  refine Gz (c:=fun d=>match d with | .int k=>hE c (1+k) 2==1 | _=>false) (f:=fun d=>⟨.leaf,abc d⟩) (st:=true) (iF (k:=3) (aD aW ao) rfl (by omega) (by omega)) (by omega) rfl (by rw [BY];omega) (fun d hd=>?_) fun d hd _=>?_
  ·obtain ⟨k,hk,rfl⟩:=yi hd
   have g11:(Γ.set 11 (JJ (.int (0+(k:Int)))))[11]?=some (JJ (.int (0+(k:Int)))):=by rw [getElem?_set_self (by omega)]
   have g8:(Γ.set 11 (JJ (.int (0+(k:Int)))))[8]?=some (JJ (.int c)):=by rw [getElem?_set_ne (by omega)];exact h8
   exact eB (aN (cG (aD (aC g8) (aD (aN aW (aC g11) pI) (aD aW ao))) (vG (by omega) (by omega) (by omega) (by omega)) rfl rfl) aW eq_int)
  ·obtain ⟨k,hk,rfl⟩:=yi hd
   have g11:(Γ.set 11 (JJ (.int (0+(k:Int)))))[11]?=some (JJ (.int (0+(k:Int)))):=by rw [getElem?_set_self (by omega)]
   obtain ⟨z,hz,e1,e2⟩:=vg hk;rw [Int.zero_add] at g11 ⊢;rw [e2];exact ⟨FU aW (aC g11) Fy e1,rfl⟩
 generalize hM:(((cc 0 3).filter fun d=>match d with | .int k=>hE c (1+k) 2==1 | _=>false).map fun d=>abc d)=M at c5
 have rM:jL M/\M.length<=30/\Ca (.list M)=true:=by
  refine ⟨?_,?_,?_⟩
  ·rw [<-hM]
   intro a ha;obtain ⟨d,hd,rfl⟩:=List.mem_map.mp ha;obtain ⟨k,hk,rfl⟩:=yi (List.mem_filter.mp hd).1;obtain ⟨z,hz,e1,e2⟩:=vg hk;rw [Int.zero_add,e2];exact ⟨_,rfl,uo hz⟩
  ·rw [<-hM,length_map]
   refine Nat.le_trans (length_filter_le _ _) ?_
   rw [BY];omega
  ·rw [<-hM]
   have:=HY (fun d=>match d with | .int k=>hE c (1+k) 2==1 | _=>false)
   rw [show (fun d=>abc d)=abc from rfl,this]
   exact HJ _ _ _
 have c6:∀(Γ:Ev),Γ.length=12->Γ[8]?=some (JJ (.int c))->Γ[3]?=some (JJ (.int many))->ax .leaf 10 (eO (ab (ae 3) af)) (aF ah (aw bD (ag 3 av (ab (ae 8) (ab (aw aR (eK (.int 4)) (ae 10)) (ab (aw aR (eK (.int 2)) (bt oX (ab (aw jw (ae 3) (eK (.int 3))) af))) af)))) (eK (.int 1)))) (ae 10) Γ
   = .ok ⟨.lst .leaf,.list (((cc 0 many.toNat).filter fun d=>match d with | .int k=>hE c (4+k) (2+(if decide (3<many) then 1 else 0))==1 | _=>false).map fun d=>d)⟩ Γ:=fun Γ hl h8 h3=>by
  refine Gz (c:=fun d=>match d with | .int k=>hE c (4+k) (2+(if decide (3<many) then 1 else 0))==1 | _=>false) (f:=fun d=>⟨.leaf,d⟩) (st:=true) (iF (k:=many) (aD (aC h3) ao) rfl (by omega) (by omega)) (by omega) rfl (by rw [BY];omega) (fun d hd=>?_) fun d hd _=>?_
  ·obtain ⟨k,hk,rfl⟩:=yi hd
   have g10:(Γ.set 10 (JJ (.int (0+(k:Int)))))[10]?=some (JJ (.int (0+(k:Int)))):=by rw [getElem?_set_self (by omega)]
   have g8:(Γ.set 10 (JJ (.int (0+(k:Int)))))[8]?=some (JJ (.int c)):=by rw [getElem?_set_ne (by omega)];exact h8
   have g3:(Γ.set 10 (JJ (.int (0+(k:Int)))))[3]?=some (JJ (.int many)):=by rw [getElem?_set_ne (by omega)];exact h3
   have b1:(1:Int)<=2+(if decide (3<many) then 1 else 0)/\(2:Int)+(if decide (3<many) then 1 else 0)<=1000:=by split<;>omega
   exact eB (aN (cG (aD (aC g8) (aD (aN aW (aC g10) pI) (aD (aN aW (b7 (aD (aN (aC g3) aW rfl) ao) rfl) pI) ao))) (vG (by omega) (by omega) b1.1 b1.2) rfl rfl) aW eq_int)
  ·obtain ⟨k,hk,rfl⟩:=yi hd
   exact ⟨aC (by rw [getElem?_set_self (by omega)]),rfl⟩
 obtain ⟨ts,hT,hts1,hts2,hts3⟩:=zD many.toNat (fun d=>match d with | .int k=>hE c (4+k) (2+(if decide (3<many) then 1 else 0))==1 | _=>false)
 rw [hT] at c6;have fin:∀(Γ:Ev) (T:List Int),(T.length<=30/\T≠[]/\(∀t∈T,0<=t/\t<many)/\T.Pairwise (· < ·))->Γ=[JJ (.list xs),JJ (.int at'),JJ (.int lim),JJ (.int many),some ⟨.lst .leaf,.list (os++[.int (hE c 0 2)])⟩,some ⟨.lst .leaf,.list (ms++[.list M])⟩,some ⟨.lst .leaf,.list ss⟩,JJ (.int (r:Nat)),JJ (.int c),JJ (.list (T.map .int)),none,none] ->
   ∃os' ms' ss' x8' x9',aE 6 (ae 9) Γ=.nx [JJ (.list xs),JJ (.int at'),JJ (.int lim),JJ (.int many),some ⟨.lst .leaf,.list os'⟩,some ⟨.lst .leaf,.list ms'⟩,some ⟨.lst .leaf,.list ss'⟩,JJ (.int (r:Nat)),x8',x9',none,none]/\Gw many (n+1) os' ms' ss':=fun Γ T hT2 hΓ=>by
  subst hΓ;refine ⟨os++[.int (hE c 0 2)],ms++[.list M],ss++[.list (T.map .int)],_,_,Gc rfl (aC rfl) rfl (by omega),by simp;omega,by simp;omega,by simp;omega,fun a ha=>?_,fun a ha=>?_,fun a ha=>?_⟩
  ·rcases Jx ha with z | z
   ·exact h.o a z
   ·have:=zb (c:=c) (k:=0) (b:=2) (by omega) (by omega) (by omega) (by omega)
    rw [List.mem_singleton.mp z];rcases (by omega:hE c 0 2=0\/hE c 0 2=1) with e | e
    ·exact .inl (by rw [e])
    ·exact .inr (by rw [e])
  ·rcases Jx ha with z | z
   ·exact h.m a z
   ·exact ⟨M,List.mem_singleton.mp z,rM.1,rM.2.1,by rw [List.mem_singleton.mp z];exact rM.2.2⟩
  ·rcases Jx ha with z | z
   ·exact h.s a z
   ·exact ⟨T,List.mem_singleton.mp z,hT2⟩
 have e1:=dq (i:=8) (cG (fl:=ab (ae 0) (ab (aw aR (aw aR (ae 1) (eK (.int 1))) (ae 7)) af)) (Γ:=[JJ (.list xs),JJ (.int at'),JJ (.int lim),JJ (.int many),some ⟨.lst .leaf,.list os⟩,some ⟨.lst .leaf,.list ms⟩,some ⟨.lst .leaf,.list ss⟩,JJ (.int (r:Nat)),x8,x9,none,none]) (aD (aC rfl) (aD (aN (aN (aC rfl) aW pI) (aC rfl) pI) ao)) hc rfl rfl) rfl (by simp)
 have e2:aE 4 (ag 3 av (ab (ae 8) (ab (eK (.int 0)) (ab (eK (.int 2)) af)))) [JJ (.list xs),JJ (.int at'),JJ (.int lim),JJ (.int many),some ⟨.lst .leaf,.list os⟩,some ⟨.lst .leaf,.list ms⟩,some ⟨.lst .leaf,.list ss⟩,JJ (.int (r:Nat)),JJ (.int c),x9,none,none]=_:=
  Gc rfl (cG (aD (aC rfl) (aD aW (aD aW ao))) (vG (by omega) (by omega) (by omega) (by omega)) rfl rfl) rfl (by omega)
 have e3:=Gc (i:=5) (Γ:=[JJ (.list xs),JJ (.int at'),JJ (.int lim),JJ (.int many),some ⟨.lst .leaf,.list (os++[.int (hE c 0 2)])⟩,some ⟨.lst .leaf,.list ms⟩,some ⟨.lst .leaf,.list ss⟩,JJ (.int (r:Nat)),JJ (.int c),x9,none,none]) rfl (c5 _ rfl rfl) rfl (by omega)
 have e4:=dq (i:=9) (Γ:=[JJ (.list xs),JJ (.int at'),JJ (.int lim),JJ (.int many),some ⟨.lst .leaf,.list (os++[.int (hE c 0 2)])⟩,some ⟨.lst .leaf,.list (ms++[.list M])⟩,some ⟨.lst .leaf,.list ss⟩,JJ (.int (r:Nat)),JJ (.int c),x9,none,none]) (c6 _ rfl rfl rfl) rfl (by simp)
 have t:aF ah (aw bD (ae 9) (bb .leaf af)) [JJ (.list xs),JJ (.int at'),JJ (.int lim),JJ (.int many),some ⟨.lst .leaf,.list (os++[.int (hE c 0 2)])⟩,some ⟨.lst .leaf,.list (ms++[.list M])⟩,some ⟨.lst .leaf,.list ss⟩,JJ (.int (r:Nat)),JJ (.int c),JJ (.list (ts.map .int)),none,none]
   = .ok (decide ((ts.map PyData.int).length=0)) _:=eB (aN (aC rfl) (pN (s:=.leaf) ao rfl rfl rfl) (Br (Cn Ct)))
 cases hz:decide ((ts.map PyData.int).length=0) with
 | true=>
  rw [hz] at t;obtain ⟨o',m',s',y8,y9,f1,f2⟩:=fin _ [hE c (4+many) many] ⟨by simp,by simp,fun t ht=>by rw [List.mem_singleton.mp ht];exact zb (by omega) (by omega) (by omega) (by omega),List.pairwise_singleton _ _⟩ rfl
  exact ⟨o',m',s',y8,y9,aB e1 (aB e2 (aB e3 (aB e4 (aB (bq t (fun _=>dq (pN (s:=.leaf) (aD (cG (aD (aC rfl) (aD (aN aW (aC rfl) pI) (aD (aC rfl) ao))) (vG (by omega) (by omega) (by omega) (by omega)) rfl rfl) ao) rfl rfl rfl) rfl (by simp)) nofun) f1)))),f2⟩
 | false=>
  rw [hz] at t;obtain ⟨o',m',s',y8,y9,f1,f2⟩:=fin _ ts ⟨by omega,(fun z=>by rw [z] at hz;cases hz),(fun t ht=>by have:=hts1 t ht;omega),hts2⟩ rfl
  exact ⟨o',m',s',y8,y9,aB e1 (aB e2 (aB e3 (aB e4 (aB (bq t nofun (fun _=>rfl)) f1)))),f2⟩
noncomputable abbrev W3:Sh:=.tup [.lst .leaf,.lst .leaf,.lst .leaf]
noncomputable abbrev mq (os ms ss:List D):D:=.tuple [.list os,.list ms,.list ss]
theorem rN {xs:List D} {at' lim:Int} (hx:gu xs) (ha:0<=at') (hl:1<=lim) (hl2:lim<=24):∃(n:Nat) (os ms ss:List D),m__law_world [.list xs,.int at',.int lim]=.ok ⟨W3,mq os ms ss⟩/\Gw (n:Int) n os ms ss/\1<=n/\(n:Int)<=lim:=by
 obtain ⟨c,hc⟩:=B1 hx (k:=at') ha
 have b0:0<=c % lim:=Int.emod_nonneg _ (by omega)
 have b1:c % lim<lim:=Int.emod_lt_of_pos _ (by omega)
 generalize hmm:1+c % lim=many at *
 have e0:ay false 3 (aw aR (eK (.int 1)) (aw bH (ag 2 az (ab (ae 0) (ab (ae 1) af))) (ae 2))) [JJ (.list xs),JJ (.int at'),JJ (.int lim),none,none,none,none,none,none,none,none,none]
   = .nx [JJ (.list xs),JJ (.int at'),JJ (.int lim),JJ (.int many),none,none,none,none,none,none,none,none]:=by
  rw [<-hmm];exact dq (aN aW (aN (cG (aD (aC rfl) (aD (aC rfl) ao)) hc rfl rfl) (aC rfl) (dG (by omega))) pI) rfl (by simp)
 obtain ⟨Γ',e,os,ms,ss,x7,x8,x9,hΓ,hw⟩:=Gq (P:=fun n Γ=>∃os ms ss x7 x8 x9,Γ=[JJ (.list xs),JJ (.int at'),JJ (.int lim),JJ (.int many),some ⟨.lst .leaf,.list os⟩,some ⟨.lst .leaf,.list ms⟩,some ⟨.lst .leaf,.list ss⟩,x7,x8,x9,none,none]/\Gw many n os ms ss) (i:=7) (body:=eW) (cc 0 many.toNat) 0
  [JJ (.list xs),JJ (.int at'),JJ (.int lim),JJ (.int many),some ⟨.lst .leaf,.list []⟩,some ⟨.lst .leaf,.list []⟩,some ⟨.lst .leaf,.list []⟩,none,none,none,none,none] ⟨[],[],[],none,none,none,rfl,rfl,rfl,rfl,fun a ha=>(nomatch ha),fun a ha=>(nomatch ha),fun a ha=>(nomatch ha)⟩ (fun m d Γ hd h1 h2 ⟨os,ms,ss,x7,x8,x9,hΓ,hw⟩=>by
   subst hΓ;obtain ⟨k,hk,rfl⟩:=yi hd;rw [BY] at h2;rw [Int.zero_add];obtain ⟨os',ms',ss',y8,y9,f1,f2⟩:=pw (at':=at') (lim:=lim) (many:=many) (x8:=x8) (x9:=x9) hx ha (by omega) (by omega) hw (by omega) (r:=k)
   exact ⟨by simp,_,f1,os',ms',ss',_,y8,y9,rfl,f2⟩)
 subst hΓ;rw [BY,Nat.zero_add] at hw;have en:((many.toNat:Nat):Int)=many:=by omega
 refine ⟨many.toNat,os,ms,ss,aV (aB e0 (aB (Cj (pN (s:=.leaf) ao rfl rfl rfl) rfl (by simp)) (aB (Cj (pN (s:=.leaf) ao rfl rfl rfl) rfl (by simp)) (aB (Cj (pN (s:=.leaf) ao rfl rfl rfl) rfl (by simp)) (aB (ff (iF (k:=many) (aD (aC rfl) ao) rfl (by omega) (by omega)) e) (bj (dm (aD (D7 (p:=⟨.lst .leaf,.list os⟩) rfl) (aD (D7 (p:=⟨.lst .leaf,.list ms⟩) rfl) (aD (D7 (p:=⟨.lst .leaf,.list ss⟩) rfl) ao))) rfl rfl) rfl)))))),by rw [en];exact hw,by omega,by omega⟩
theorem yG {n:Nat} {g:FS} {ds:List D} {Γ:Ev} (h:g (ak n ds)=.nx Γ):aI n g ds=.ok ⟨.leaf,.none⟩:=by unfold aI;rw [h]
theorem kn {Γ Γ1:Ev} {fa:F1} {p:PV} {c:String} {b:Bool} (ha:fa Γ=.ok p Γ1) (hb:iL (pU p.d) c=b):dO c fa Γ=.ok ⟨.leaf,.bool b⟩ Γ1:=by
 unfold dO bf;rw [ha];simp only [Out.bind,hb]
theorem v_not {Γ Γ1:Ev} {fa:F1} {s:Sh} {b:Bool} (ha:fa Γ=.ok ⟨s,.bool b⟩ Γ1):jy fa Γ=.ok ⟨.leaf,.bool (!b)⟩ Γ1:=by
 unfold jy bf;rw [ha];rfl
theorem pO {Γ Γ1:Ev} {fa:F1} {p:PV} (h:fa Γ=.ok p Γ1):fx fa Γ=.nx Γ1:=by unfold fx jO;rw [h]
theorem rS {b:Nat} {os ms ss:List D} (h:Wk b os ms ss) (hb:b<=100) (hw:isW os ms ss=true):bo [mq os ms ss]=.ok ⟨.leaf,.none⟩:=by
 have t:b6 (aF bh (ag 3 eQ (ab (ai (ae 0) (eK (.int 0))) (ab (ai (ae 0) (eK (.int 1))) (ab (ai (ae 0) (eK (.int 2))) af))))) [JJ (mq os ms ss)]=.ok (!(isW os ms ss)) [JJ (mq os ms ss)]:=
  dU (dg (cG (aD (hJ (j:=0) (aC rfl) aW rfl rfl rfl) (aD (hJ (j:=1) (aC rfl) aW rfl rfl rfl) (aD (hJ (j:=2) (aC rfl) aW rfl rfl rfl) ao))) (lD h hb) rfl rfl))
 rw [hw] at t;exact yG (bq t nofun (fun _=>rfl))
theorem uU {d:D} (h:shaped d=true):bD d d=some (.bool true):=by
 unfold bD;rw [h,Bool.and_self,if_pos rfl,PySem.SeqAt.eqv_refl _ (canLay_of_shaped h)]
theorem uz {d:D} (h:shaped d=true):iC d d=some (.bool false):=by
 unfold iC;rw [h,Bool.and_self,if_pos rfl,PySem.SeqAt.eqv_refl _ (canLay_of_shaped h)];rfl
noncomputable def dl (S:List (List Int)):List D:=S.map fun ts=>.list (ts.map .int)
theorem uG {ts:List Int} {i:Int}:bK false (.int i) (.list (ts.map .int))=some (.bool (ts.contains i)):=by
 unfold bK;simp only [za,Cn Ct,Bool.and_self,if_true]
 congr 2
 rw [Bool.eq_iff_iff];simp only [Bool.false_eq_true,if_false,any_eq_true,mem_map,contains_iff_mem]
 constructor
 ·rintro ⟨d,⟨t,ht,rfl⟩,e⟩
  rw [PyData.eqv] at e;have:t=i:=by simpa using e
  rw [<-this];exact ht
 ·intro h
  exact ⟨.int i,⟨i,h,rfl⟩,by rw [PyData.eqv];simp⟩
theorem DH {xs:List D} (h:gu xs):PyData.canLayAll0 xs=true/\PyData.depthAll xs=0:=by
 induction xs with
 | nil=>exact ⟨rfl,rfl⟩
 | cons a r ih=>
  obtain ⟨n,rfl⟩:=h a mem_cons_self;have q:=ih fun x hx=>h x (JB _ hx)
  simp [PyData.canLayAll0,PyData.canLay0,PyData.depthAll,PyData.depth,q.1,q.2]
theorem HS {xs:List D} (h:jL xs):PyData.canLayAll0 xs=true/\PyData.depthAll xs=0:=by
 induction xs with
 | nil=>exact ⟨rfl,rfl⟩
 | cons a r ih=>
  obtain ⟨n,rfl,hn⟩:=h a mem_cons_self;have q:=ih fun x hx=>h x (JB _ hx)
  simp [PyData.canLayAll0,PyData.canLay0,PyData.depthAll,PyData.depth,q.1,q.2,hn]
theorem qC {ms:List D} (h:∀r∈ms,∃xs,r=.list xs/\PyData.canLayAll0 xs=true/\PyData.depthAll xs=0):PyData.canLayAll0 ms=true/\PyData.depthAll ms<=1:=by
 induction ms with
 | nil=>exact ⟨rfl,Nat.zero_le _⟩
 | cons a r ih=>
  obtain ⟨xs,rfl,h1,h2⟩:=h a mem_cons_self;have q:=ih fun x hx=>h x (JB _ hx)
  refine ⟨by simp [PyData.canLayAll0,PyData.canLay0,q.1,h1],?_⟩
  rw [PyData.depthAll,PyData.depth,h2];exact Nat.max_le.mpr ⟨by omega,q.2⟩
noncomputable def has (x:Str) (d:D):Bool:=match d with
 | .list xs=>xs.any fun y=>PyData.eqv y (.str x)
 | _=>false
theorem Bb {x:Str} {xs:List D} (hx:PyData.strOk x=true) (h:jL xs):bK false (.str x) (.list xs)=some (.bool (has x (.list xs))):=by
 unfold bK;simp only [tp hx,vZ h,Bool.and_self,if_true]
 rfl
theorem rq {ts:List Int} {i:Int}:bK true (.int i) (.list (ts.map .int))=some (.bool (!ts.contains i)):=by
 have h:=uG (ts:=ts) (i:=i)
 unfold bK at h ⊢
 simp only [za,Cn Ct,Bool.and_self,if_true,Bool.false_eq_true,if_false] at h ⊢
 have h:=Option.some.inj h
 injection h with h
 rw [h]
end KC
namespace T
open PySem PySem.Spec L2
open PyProof.Rows hiding St
section
variable {Γ Γ1:Ev} {fa fb fc:F1} {fl:FL} {p:PV} {i n:Nat} {ga gb:FB} {g1 g2:FS}
@[simp] theorem Hk:sizeLine=16777216:=rfl
@[simp] theorem pM {α β:Type} {a:α} {e:Ev} {k:α->Ev->Out β}:(Out.ok a e).bind k=k a e:=rfl
@[simp] theorem r_k {d:D}:eK d Γ=.ok ⟨.leaf,d⟩ Γ:=rfl
@[simp] theorem IB:af Γ=.ok [] Γ:=rfl
@[simp] theorem G9:aK Γ=.ok true Γ:=rfl
@[simp] theorem Hh:aG Γ=.nx Γ:=rfl
@[simp] theorem HA:ab fa fl Γ=(fa Γ).bind fun p Γ1=>(fl Γ1).bind fun ps Γ2=>.ok (p::ps) Γ2:=rfl
@[simp] theorem Ac {g:D->D->Option D}:aw g fa fb Γ=(fa Γ).bind fun p Γ1=>(fb Γ1).bind fun q Γ2=>match g p.d q.d with | some d=>.ok ⟨.leaf,d⟩ Γ2 | none=>.no:=rfl
@[simp] theorem Jg {g:List D->Option D}:bt g fl Γ=(fl Γ).bind fun ps Γ'=>match g (ps.map (·.d)) with | some d=>.ok ⟨.leaf,d⟩ Γ' | none=>.no:=rfl
@[simp] theorem C1 {g:D->Option Bool}:aF g fa Γ=(fa Γ).bind fun p Γ'=>match g p.d with | some b=>.ok b Γ' | none=>.no:=rfl
@[simp] theorem HD:b6 ga Γ=(ga Γ).bind fun c Γ'=>.ok (!c) Γ':=rfl
@[simp] theorem tW:dB ga gb Γ=(ga Γ).bind fun c Γ'=>if c then gb Γ' else .ok false Γ':=rfl
@[simp] theorem IJ:eL ga gb Γ=(ga Γ).bind fun c Γ'=>if c then .ok true Γ' else gb Γ':=rfl
@[simp] theorem II:rH ga fa fb Γ=(ga Γ).bind fun b Γ'=>if b then fa Γ' else fb Γ':=rfl
@[simp] theorem Ae:eY fa fb Γ=(fa Γ).bind fun p Γ=>match p.d with | .bool true=>fb Γ | .bool false=>.ok ⟨.leaf,.bool false⟩ Γ | _=>.no:=rfl
@[simp] theorem Hy:jy fa Γ=(fa Γ).bind fun p Γ=>match p.d with | .bool b=>.ok ⟨.leaf,.bool (!b)⟩ Γ | _=>.no:=rfl
@[simp] theorem fy:aq g1 g2 Γ=match g1 Γ with | .nx Γ'=>g2 Γ' | .rt p=>.rt p | .bk Γ'=>.bk Γ' | .ct Γ'=>.ct Γ' | .er c Γ'=>.er c Γ' | .no=>.no:=by
 unfold aq
 cases g1 Γ<;>rfl
@[simp] theorem tV {k:PV->Ev->fJ}:jO fa k Γ=match fa Γ with | .ok p Γ1=>k p Γ1 | .er c Γ1=>.er c Γ1 | .no=>.no:=by
 unfold jO
 cases fa Γ<;>rfl
@[simp] theorem Hq:bL ga g1 g2 Γ=match ga Γ with | .ok b Γ1=>if b then g1 Γ1 else g2 Γ1 | .er c Γ1=>.er c Γ1 | .no=>.no:=by
 unfold bL
 cases ga Γ<;>rfl
@[simp] theorem EO {b:Bool}:ah (.bool b)=some b:=rfl
@[simp] theorem Ht {b:Bool}:bh (.bool b)=some b:=rfl
@[simp] theorem EM {xs:List D}:bh (.list xs)=some (!xs.isEmpty):=rfl
noncomputable def EW (p:PV):PV:=match p.s with
 | .leaf=>p
 | _=>⟨.view,p.d⟩
@[simp] theorem tU {d:D}:EW ⟨.leaf,d⟩=⟨.leaf,d⟩:=rfl
@[simp] theorem Iw {s:Sh} {d:D}:EW ⟨.lst s,d⟩=⟨.view,d⟩:=rfl
@[simp] theorem Iv {s:List Sh} {d:D}:EW ⟨.tup s,d⟩=⟨.view,d⟩:=rfl
@[simp] theorem mN:ae i Γ=match Γ[i]? with | some (some p)=>.ok (EW p) Γ | _=>.no:=by
 unfold ae
 cases h:Γ[i]? with
 | none=>rfl
 | some o=>
  cases o with
  | none=>rfl
  | some p=>
   obtain ⟨s,d⟩:=p
   cases s<;>rfl
@[simp] theorem Hi:cM i Γ=match Γ[i]? with | some (some p)=>.ok p (Γ.set i none) | _=>.no:=rfl
@[simp] theorem HB {d:D}:coer .leaf ⟨.leaf,d⟩=true:=rfl
@[simp] theorem ES {s:Sh} {d:D}:coer .leaf ⟨.lst s,d⟩=true:=rfl
@[simp] theorem ER {s:List Sh} {d:D}:coer .leaf ⟨.tup s,d⟩=true:=rfl
@[simp] theorem ET {i:Int} {s:Sh}:coer .leaf ⟨s,.int i⟩=true:=by cases s<;>rfl
@[simp] theorem EU {b:Bool} {s:Sh}:coer .leaf ⟨s,.bool b⟩=true:=by cases s<;>rfl
@[simp] theorem Ho:Sh.isView .leaf=false:=rfl
@[simp] theorem Hn {s:Sh}:Sh.isView (.lst s)=false:=rfl
@[simp] theorem Hm {s:List Sh}:Sh.isView (.tup s)=false:=rfl
@[simp] theorem jc {own:Bool}:ay own i fa Γ=match fa Γ with | .ok p Γ1=>(if i<Γ1.length then (if own&&!p.s.isView then .nx (Γ1.set i (some p)) else if T.coer .leaf p then .nx (Γ1.set i (some ⟨.leaf,p.d⟩)) else .no) else .no) | .er c Γ1=>.er c Γ1 | .no=>.no:=by
 unfold ay;rw [tV]
@[simp] theorem yE:aL fa Γ=match fa Γ with | .ok p Γ1=>(if p.s.isView then (if bQ p.d then .rt ⟨.leaf,p.d⟩ else .no) else .rt p) | .er c Γ1=>.er c Γ1 | .no=>.no:=by
 unfold aL;rw [tV]
@[simp] theorem Hz:fx fa Γ=match fa Γ with | .ok p Γ1=>.nx Γ1 | .er c Γ1=>.er c Γ1 | .no=>.no:=by
 unfold fx;rw [tV]
@[simp] theorem HC {den:List D->b4}:ag n den fl Γ=(fl Γ).bind fun ps Γ'=>if ps.length=n then (match den (ps.map (·.d)) with | .ok p=>if ps.all (T.coer .leaf) then .ok p Γ' else if bQ p.d then .ok ⟨.leaf,p.d⟩ Γ' else .ok ⟨.view,p.d⟩ Γ' | _=>.no) else .no:=rfl
@[simp] theorem Hw {a b:Int}:aR (.int a) (.int b)=some (.int (a+b)):=rfl
@[simp] theorem Hu {a b:Int}:gSub (.int a) (.int b)=some (.int (a-b)):=rfl
@[simp] theorem IH {a b:Int}:jv (.int a) (.int b)=some (.bool (decide (a<b))):=rfl
@[simp] theorem CZ {a b:Int}:jw (.int a) (.int b)=some (.bool (decide (b<a))):=rfl
@[simp] theorem Hv {ds:List D}:aQ [.list ds]=some (.int ds.length):=rfl
@[simp] theorem EN {ds:List D}:aQ [.tuple ds]=some (.int ds.length):=rfl
noncomputable def nq (p q:PV):Ev->Out PV:=ai (fun Γ=>.ok p Γ) (fun Γ=>.ok q Γ)
@[simp] theorem CY:ai fa fb Γ=(fa Γ).bind fun p Γ1=>(fb Γ1).bind fun q Γ2=>nq p q Γ2:=by
 unfold nq ai bf
 cases fa Γ with
 | ok p Γ1=>simp only [pM]
 | er c Γ1=>rfl
 | no=>rfl
@[simp] theorem IF {ds:List D} {k:Int} {s:Sh}:nq ⟨.leaf,.tuple ds⟩ ⟨s,.int k⟩ Γ=match fu ds k with | some d=>.ok ⟨.leaf,d⟩ Γ | none=>.no:=by
 unfold nq ai bf fu;simp only [pM]
 cases h:fq ds.length k with
 | none=>rfl
 | some j=>
  simp only [Option.bind_some]
  cases h2:ds[j]? with
  | none=>rfl
  | some d=>rfl
@[simp] theorem IG {ds:List D} {k:Int} {s:Sh}:nq ⟨.leaf,.list ds⟩ ⟨s,.int k⟩ Γ=match fu ds k with | some d=>.ok ⟨.leaf,d⟩ Γ | none=>.no:=by
 unfold nq ai bf fu;simp only [pM]
 cases h:fq ds.length k with
 | none=>rfl
 | some j=>
  simp only [Option.bind_some]
  cases h2:ds[j]? with
  | none=>rfl
  | some d=>rfl
@[simp] theorem IE {ds:List D} {k:Int} {s:Sh}:nq ⟨.view,.list ds⟩ ⟨s,.int k⟩ Γ=match fu ds k with | some d=>.ok ⟨if bQ d then .leaf else .view,d⟩ Γ | none=>.no:=by
 unfold nq ai bf fu;simp only [pM]
 cases h:fq ds.length k with
 | none=>rfl
 | some j=>
  simp only [Option.bind_some]
  cases h2:ds[j]? with
  | none=>rfl
  | some d=>rfl
@[simp] theorem IP {α:Type} {a:α} {r:List α}:fu (a::r) 0=some a:=by
 simp [fu,fq]
@[simp] theorem IM {α:Type} {a b:α} {r:List α}:fu (a::b::r) 1=some b:=by
 have:(1:Int)<(r.length:Int)+1+1:=by omega
 simp [fu,fq,this]
@[simp] theorem IL {α:Type} {a b c:α} {r:List α}:fu (a::b::c::r) 2=some c:=by
 have:(2:Int)<(r.length:Int)+1+1+1:=by omega
 simp [fu,fq,this]
theorem BQ {α:Type} {xs:List α} {k:Nat} {x:α} (h:xs[k]?=some x):fu xs (k:Int)=some x:=by
 have hk:=(JD h).1
 have:(k:Int)<(xs.length:Int):=by omega
 simp [fu,fq,this,h]
end
section
variable {Γ:Ev} {fa fb:F1} {i:Nat}
@[simp] theorem IC {c:String}:dO c fa Γ=(fa Γ).bind fun p Γ=>.ok ⟨.leaf,.bool (iL (pU p.d) c)⟩ Γ:=rfl
@[simp] theorem Hj {s:Sh} {fl:FL}:bb s fl Γ=(fl Γ).bind fun ps Γ'=>if !s.isView&&ps.all (T.coer s)&&decide (ps.length<=sizeLine) then .ok ⟨.lst s,.list (ps.map (·.d))⟩ Γ' else .no:=rfl
@[simp] theorem Ir {fl:FL}:bJ fl Γ=(fl Γ).bind fun ps Γ'=>if ps.all tok&&decide (ps.length<=sizeLine) then .ok ⟨.tup (ps.map yv),.tuple (ps.map (·.d))⟩ Γ' else .no:=rfl
@[simp] theorem Hf {d:D}:tok ⟨.leaf,d⟩=true:=rfl
@[simp] theorem Hd {s:Sh} {d:D}:tok ⟨.lst s,d⟩=true:=rfl
@[simp] theorem Hb {s:List Sh} {d:D}:tok ⟨.tup s,d⟩=true:=rfl
@[simp] theorem CW {a:D}:cu false a .none=some (.bool (bP a)):=rfl
@[simp] theorem Hl {a:D}:cu true a .none=some (.bool (!bP a)):=rfl
@[simp] theorem Iu:ig fa fb Γ=(fa Γ).bind fun p Γ1=>(fb Γ1).bind fun q Γ2=>match p.d,q.d with | .tuple xs,.int k=>if !p.s.isView&&decide (1<=k)&&decide (k<=xs.length) then .ok ⟨.leaf,.tuple (xs.drop k.toNat)⟩ Γ2 else .no | _,_=>.no:=rfl
@[simp] theorem ID {neg:Bool} {tab:List (Str×Int)}:uX neg tab fa Γ=(fa Γ).bind fun p Γ=>match p.d with | .str k=>.ok ⟨.leaf,.bool (if neg then !(cK k tab).isSome else (cK k tab).isSome)⟩ Γ | _=>.no:=rfl
@[simp] theorem Hs {tab:List (Str×Int)}:qz tab fa Γ=(fa Γ).bind fun p Γ=>match p.d with | .str k=>(match cK k tab with | some i=>.ok ⟨.leaf,.int i⟩ Γ | none=>.no) | _=>.no:=rfl
@[simp] theorem Hr:dJ fa Γ=(fa Γ).bind fun p Γ'=>match p.d with | .tuple ds=>if aH p ds then .ok ⟨ds,!p.s.isView⟩ Γ' else .no | _=>.no:=rfl
@[simp] theorem Ad:aS fa Γ=(fa Γ).bind fun p Γ'=>match p.d with | .list ds=>if aH p ds then .ok ⟨ds,!p.s.isView⟩ Γ' else .no | _=>.no:=rfl
@[simp] theorem IA {d:D} {ds:List D}:aH ⟨.leaf,d⟩ ds=true:=rfl
@[simp] theorem Iz {s:Sh} {d:D} {ds:List D}:aH ⟨.lst s,d⟩ ds=true:=rfl
@[simp] theorem Iy {s:List Sh} {d:D} {ds:List D}:aH ⟨.tup s,d⟩ ds=true:=rfl
@[simp] theorem IK {f:F1}:ir i f Γ=match Γ[i]? with | some (some ⟨.leaf,.int a⟩)=>jO f (ve i a) Γ | _=>.no:=rfl
@[simp] theorem HE {a b:Int} {s:Sh}:ve i a ⟨s,.int b⟩ Γ=if i<Γ.length then .nx (Γ.set i (JJ (.int (a+b)))) else .no:=rfl
theorem C0 {f:F1} {p:PV} {ds es:List D} (h:Γ[i]?=some (some ⟨.lst .leaf,.list ds⟩)) (hf:f Γ=.ok p Γ) (hp:p.d=.tuple es) (ho:p.s.isView=false) (hn:ds.length+es.length<=10000):kZ i f Γ=.nx (Γ.set i (some ⟨.lst .leaf,.list (ds++es)⟩)):=by
 have hb:(10000:Nat)<=sizeLine:=by decide
 obtain ⟨s,d⟩:=p;simp only at hp ho
 subst hp;unfold kZ cL;rw [h];simp only [if_true,tV,hf]
 unfold Bp aH;rw [h];have:ds.length+es.length<=sizeLine:=by omega
 simp only [ho,Bool.not_false,Bool.true_or,decide_eq_true this,Bool.and_self,if_true]
theorem lY {β:Type} {c:FB} {g:FS} {G:β->Ev} {test:β->Bool} {step:β->β} {Inv:β->Prop} {meas:β->Nat} (hc:∀b,Inv b->c (G b)=.ok (test b) (G b)) (hg:∀b,Inv b->test b=true->g (G b)=.nx (G (step b))/\Inv (step b)/\meas (step b)<meas b) :
  ∀(N:Nat) (b:β),Inv b->meas b<N->∃b',cb c g N (G b)=.nx (G b')/\Inv b'/\test b'=false
 | 0,b,_,h=>by omega
 | N+1,b,hi,hm=>by
  rw [cb,hc b hi]
  cases ht:test b with
  | false=>exact ⟨b,rfl,hi,ht⟩
  | true=>
   obtain ⟨h1,h2,h3⟩:=hg b hi ht;obtain ⟨b',e,q⟩:=lY hc hg N (step b) h2 (by omega)
   refine ⟨b',?_,q⟩
   simp only [h1]
   exact e
theorem kl {β:Type} {c:FB} {g:FS} {G:β->Ev} {test:β->Bool} {Inv:β->Prop} {meas:β->Nat} (hc:∀b,Inv b->c (G b)=.ok (test b) (G b)) (hg:∀b,Inv b->test b=true->∃b',g (G b)=.nx (G b')/\Inv b'/\meas b'<meas b) :
  ∀(N:Nat) (b:β),Inv b->meas b<N->∃b',cb c g N (G b)=.nx (G b')/\Inv b'/\test b'=false
 | 0,b,_,h=>by omega
 | N+1,b,hi,hm=>by
  rw [cb,hc b hi]
  cases ht:test b with
  | false=>exact ⟨b,rfl,hi,ht⟩
  | true=>
   obtain ⟨b1,h1,h2,h3⟩:=hg b hi ht;obtain ⟨b',e,q⟩:=kl hc hg N b1 h2 (by omega)
   refine ⟨b',?_,q⟩
   simp only [h1]
   exact e
theorem D9 {fa:F1} {p:PV} {ds:List D} (ho:Γ[i]?=some (some ⟨.lst .leaf,.list ds⟩)) (h:fa Γ=.ok p Γ) (hc:coer .leaf p=true) (hn:ds.length<=9000):aE i fa Γ=.nx (Γ.set i (some ⟨.lst .leaf,.list (ds++[p.d])⟩)):=by
 have hb:(10000:Nat)<=sizeLine:=by decide
 unfold aE ie;rw [ho];simp only [if_true,tV,h]
 unfold xZ;rw [ho];have:ds.length<sizeLine:=by omega
 simp only [hc,decide_eq_true this,Bool.and_self,if_true]
end
theorem Gf {α:Type} {en:α->D} {i:Nat} {fc:FB} {fe:F1} {s:Sh} {c:α->Bool} {f:α->PV} {Γ:Ev} (hΓ:Γ.set i none=Γ):∀(r:List α) (acc:List D),(∀x∈r,fc (Γ.set i (JJ (en x)))=.ok (c x) (Γ.set i (JJ (en x)))) ->
  (∀x∈r,c x=true->fe (Γ.set i (JJ (en x)))=.ok (f x) (Γ.set i (JJ (en x)))/\coer s (f x)=true)->acc.length+r.length<=sizeLine->cT i fc fe s (r.map en) Γ acc=.ok (acc++((r.filter c).map fun x=>(f x).d)) Γ
 | [],acc,_,_,_=>by simp [cT]
 | x::r,acc,hc,he,hl=>by
  have h1:=hc x mem_cons_self
  have hl1:acc.length<sizeLine:=by simp only [length_cons] at hl;omega
  have back:(Γ.set i (JJ (en x))).set i none=Γ:=by rw [set_set];exact hΓ
  rw [map_cons,cT,h1]
  cases hcd:c x with
  | false=>
   dsimp only;rw [if_pos hl1,back,Gf hΓ r acc (fun d hd=>hc d (JB _ hd)) (fun d hd=>he d (JB _ hd)) (by simp only [length_cons] at hl;omega)]
   rw [List.filter_cons_of_neg (by rw [hcd];exact Bool.false_ne_true)]
  | true=>
   obtain ⟨h2,h3⟩:=he x mem_cons_self hcd;dsimp only;rw [h2];dsimp only;rw [h3,decide_eq_true hl1,Bool.and_self,if_pos rfl,back,Gf hΓ r (acc++[(f x).d]) (fun d hd=>hc d (JB _ hd)) (fun d hd=>he d (JB _ hd)) (by simp only [length_cons,length_append,length_nil] at hl ⊢;omega)]
   rw [List.filter_cons_of_pos hcd,map_cons,append_assoc];rfl
theorem sq {α:Type} (en:α->D) (xs:List α) (c:α->Bool) (f:α->PV) {s:Sh} {i:Nat} {fi:FI} {fc:FB} {fe:F1} {st:Bool} {Γ:Ev} (hi:fi Γ=.ok ⟨xs.map en,st⟩ Γ) (hl:i<Γ.length) (hs:s.isView=false) (hn:xs.length<=10000)
  (hc:∀x∈xs,fc (Γ.set i (JJ (en x)))=.ok (c x) (Γ.set i (JJ (en x)))) (he:∀x∈xs,c x=true->fe (Γ.set i (JJ (en x)))=.ok (f x) (Γ.set i (JJ (en x)))/\coer s (f x)=true) :
  ax s i fi fc fe Γ=.ok ⟨.lst s,.list ((xs.filter c).map fun x=>(f x).d)⟩ Γ:=by
 have hb:(10000:Nat)<=sizeLine:=by decide
 unfold ax;rw [hi];unfold Out.bind;dsimp only;rw [Gf (c:=c) (f:=f) (by rw [set_set]) xs [] (fun d hd=>by rw [set_set];exact hc d hd) (fun d hd=>by rw [set_set];exact he d hd) (by simp;omega)]
 dsimp only;rw [hs,decide_eq_true hl];simp only [Bool.not_false,Bool.and_self,if_true,nil_append,set_set]
 have:Γ.set i (Γ.getD i none)=Γ:=by
  apply B2
  rw [JA,Jz hl];rfl
 rw [this]
theorem kP {α:Type} (en:α->D) (xs:List α) (f:α->PV) {s:Sh} {i:Nat} {fi:FI} {fe:F1} {st:Bool} {Γ:Ev} (hi:fi Γ=.ok ⟨xs.map en,st⟩ Γ) (hl:i<Γ.length) (hs:s.isView=false) (hn:xs.length<=10000)
  (he:∀x∈xs,fe (Γ.set i (JJ (en x)))=.ok (f x) (Γ.set i (JJ (en x)))/\coer s (f x)=true):ax s i fi aK fe Γ=.ok ⟨.lst s,.list (xs.map fun x=>(f x).d)⟩ Γ:=by
 rw [sq (fc:=aK) en xs (fun _=>true) f hi hl hs hn (fun _ _=>rfl) fun x hx _=>he x hx,List.filter_eq_self.mpr fun _ _=>rfl]
theorem Er {α β:Type} (en:α->D) (step:β->α->β) {Inv:β->List α->Prop} {i:Nat} {body:FS} {G:β->Option PV->Ev} (hi:∀b x,i<(G b x).length) (hset:∀b x y,(G b x).set i y=G b y)
  (hb:∀b a r,Inv b (a::r)->body (G b (JJ (en a)))=.nx (G (step b a) (JJ (en a)))/\Inv (step b a) r):∀(xs:List α) (b:β) (x:Option PV),Inv b xs->∃y,cE i body (xs.map en) (G b x)=.nx (G (xs.foldl step b) y)/\Inv (xs.foldl step b) []
 | [],b,x,h=>⟨x,rfl,h⟩
 | a::r,b,x,h=>by
  obtain ⟨h1,h2⟩:=hb b a r h;obtain ⟨y,e,h3⟩:=Er en step hi hset hb r (step b a) (JJ (en a)) h2
  refine ⟨y,?_,h3⟩
  rw [map_cons,cE,if_pos (hi b x),hset,h1];exact e
end T
namespace KC
open PySem PySem.Spec L2 T PySem.SeqAt
open PyProof.Rows hiding St
noncomputable abbrev rm (t:Nat):D:=.int (t:Int)
noncomputable abbrev aA (r:List Nat):D:=.list (r.map rm)
theorem BZ {n:Nat}:cc 0 n=(List.range n).map rm:=by
 unfold cc;simp
theorem sy {t:Nat} {r:List Nat}:bK false (rm t) (aA r)=some (.bool (r.contains t)):=by
 have h:=uG (ts:=r.map fun t:Nat=>(t:Int)) (i:=t)
 rw [map_map] at h;refine h.trans ?_
 congr 2
 rw [Bool.eq_iff_iff,contains_iff_mem,contains_iff_mem,mem_map];exact ⟨fun ⟨a,h1,h2⟩=>by rw [<-Int.ofNat_inj.mp h2];exact h1,fun h=>⟨t,h,rfl⟩⟩
theorem zi {t:Nat} {r:List Nat}:bK true (rm t) (aA r)=some (.bool (!r.contains t)):=by
 have h:=rq (ts:=r.map fun t:Nat=>(t:Int)) (i:=t)
 rw [map_map] at h;refine h.trans ?_
 congr 3
 rw [Bool.eq_iff_iff,contains_iff_mem,contains_iff_mem,mem_map];exact ⟨fun ⟨a,h1,h2⟩=>by rw [<-Int.ofNat_inj.mp h2];exact h1,fun h=>⟨t,h,rfl⟩⟩
structure Wd where
 n:Nat
 os:List D
 m:List (List Str)
 s:List (List Nat)
noncomputable def sN (r:List Str):D:=.list (r.map .str)
noncomputable def Wd.enc (w:Wd):D:=mq w.os (w.m.map sN) (w.s.map aA)
structure Wd.Ok (w:Wd):Prop where
 g:Gw (w.n:Int) w.n w.os (w.m.map sN) (w.s.map aA)
 h1:1<=w.n
 h24:w.n<=24
 lm:w.m.length=w.n
 ls:w.s.length=w.n
 st:∀r∈w.s,r≠[]/\r.length<=30/\∀t∈r,t<w.n
 mc:∀r∈w.m,∀c∈r,PyData.strOk c=true
noncomputable def Wd.stp (w:Wd) (r:Nat):List Nat:=w.s.getD r []
noncomputable def Wd.mks (w:Wd) (r:Nat):List Str:=w.m.getD r []
theorem Wd.Ok.at2 {w:Wd} (h:w.Ok) {r:Nat} (hr:r<w.n):fu (w.s.map aA) (r:Int)=some (aA (w.stp r)):=by
 refine BQ ?_
 unfold Wd.stp;rw [getElem?_map,JA,Jz (by rw [h.ls];exact hr)]
 rfl
theorem Wd.Ok.at1 {w:Wd} (h:w.Ok) {r:Nat} (hr:r<w.n):fu (w.m.map sN) (r:Int)=some (sN (w.mks r)):=by
 refine BQ ?_
 unfold Wd.mks;rw [getElem?_map,JA,Jz (by rw [h.lm];exact hr)]
 rfl
theorem Wd.Ok.stp_lt {w:Wd} (h:w.Ok) {r t:Nat} (ht:t∈w.stp r):t<w.n:=by
 unfold Wd.stp at ht;rw [JA] at ht
 cases e:w.s[r]? with
 | none=>rw [e] at ht;simp at ht
 | some x=>rw [e] at ht;exact (h.st x (mem_of_getElem? e)).2.2 t ht
theorem Wd.Ok.stp_ne {w:Wd} (h:w.Ok) {r:Nat} (hr:r<w.n):w.stp r≠[]:=by
 unfold Wd.stp;rw [JA,Jz (by rw [h.ls];exact hr)]
 exact (h.st _ (getElem_mem _)).1
theorem iN {w:Wd} (h:w.Ok) {r:List Nat}:cV [w.enc,aA r]=.ok ⟨.lst .leaf,aA ((List.range w.n).filter fun t=>!r.contains t)⟩:=by
 have lo:=h.g.lo
 have h24:=h.h24
 refine aV ?_
 have e:ax .leaf 2 (eO (ab (bt aQ (ab (ai (ae 0) (eK (.int 0))) af)) af)) (aF ah (aw (bK true) (ae 2) (ae 1))) (ae 2) (ak 3 [w.enc,aA r])=.ok ⟨.lst .leaf,.list (((List.range w.n).filter fun t=>!r.contains t).map fun t=>rm t)⟩ (ak 3 [w.enc,aA r]):=by
  refine sq rm (List.range w.n) (fun t=>!r.contains t) (fun t=>⟨.leaf,rm t⟩) (st:=true) ?_ (by simp [ak]) rfl (by simp;omega) ?_ ?_
  ·refine (iF (k:=(w.n:Int)) (ps:=[⟨.leaf,.int w.n⟩]) ?_ rfl (by omega) (by omega)).trans (by rw [<-BZ];rfl)
   simp [ak,Wd.enc,lo]
  ·intro t ht
   simp [ak,zi]
  ·intro t ht _
   simp [ak]
 unfold fW;rw [yE,e];rfl
inductive Wr where
 | yes | mark | not | sn | an | sa | aa | and | or | su | au
 deriving DecidableEq
noncomputable def Wr.t:Wr->Str
 | .yes => "yes" | .mark => "mark" | .not => "not" | .sn => "some next" | .an => "all next" | .sa => "some always" | .aa => "all always" | .and => "and" | .or => "or" | .su => "some until" | .au => "all until"
theorem fE (a b:Wr):bD (.str a.t) (.str b.t)=some (.bool (decide (a=b))):=by cases a<;>cases b<;>kernel_rfl
@[simp] theorem Cf (a:Wr):bD (.str a.t) (.str "yes")=some (.bool (decide (a=.yes))):=fE a .yes
@[simp] theorem Em (a:Wr):bD (.str a.t) (.str "mark")=some (.bool (decide (a=.mark))):=fE a .mark
@[simp] theorem BR (a:Wr):bD (.str a.t) (.str "not")=some (.bool (decide (a=.not))):=fE a .not
@[simp] theorem Ea (a:Wr):bD (.str a.t) (.str "and")=some (.bool (decide (a=.and))):=fE a .and
@[simp] theorem uV (a:Wr):bD (.str a.t) (.str "or")=some (.bool (decide (a=.or))):=fE a .or
@[simp] theorem A9 (a:Wr):bK false (.str a.t) cx=some (.bool (decide (a=.su\/a=.au))):=by cases a<;>kernel_rfl
@[simp] theorem EZ (a:Wr):bK true (.str a.t) cx=some (.bool (!decide (a=.su\/a=.au))):=by cases a<;>kernel_rfl
@[simp] theorem HL (a:Wr):bK false (.str a.t) cZ=some (.bool (decide (a=.sa\/a=.aa))):=by cases a<;>kernel_rfl
@[simp] theorem E8 (a:Wr):bK true (.str a.t) cZ=some (.bool (!decide (a=.sa\/a=.aa))):=by cases a<;>kernel_rfl
noncomputable def Wr.some (a:Wr):Bool:=decide (a=.sn\/a=.su\/a=.aa)
@[simp] theorem HK (a:Wr):bK false (.str a.t) bx=.some (.bool a.some):=by cases a<;>kernel_rfl
noncomputable def Wr.ar:Wr->Option Int
 | .yes=>Option.some 0 | .mark=>none | .and=>Option.some 2 | .or=>Option.some 2 | .su=>Option.some 2 | .au=>Option.some 2 | _=>Option.some 1
@[simp] theorem Fd (a:Wr):cK a.t iT=a.ar:=by cases a<;>kernel_rfl
inductive U5 where
 | not | sn | an | sa | aa
 deriving DecidableEq
inductive B4 where
 | and | or | su | au
 deriving DecidableEq
noncomputable def U5.w:U5->Wr
 | .not=>.not | .sn=>.sn | .an=>.an | .sa=>.sa | .aa=>.aa
noncomputable def B4.w:B4->Wr
 | .and=>.and | .or=>.or | .su=>.su | .au=>.au
inductive Sn where
 | yes | mk (c:Str) | un (k:U5) (a:Sn) | bi (k:B4) (a b:Sn)
 deriving DecidableEq
noncomputable def Sn.w:Sn->Wr
 | .yes=>.yes | .mk _=>.mark | .un k _=>k.w | .bi k _ _=>k.w
noncomputable def Sn.args:Sn->List Sn
 | .yes=>[] | .mk _=>[] | .un _ a=>[a] | .bi _ a b=>[a,b]
noncomputable def Sn.enc:Sn->D
 | .yes=>.tuple [.str Wr.yes.t] | .mk c=>.tuple [.str Wr.mark.t,.str c] | .un k a=>.tuple [.str k.w.t,a.enc] | .bi k a b=>.tuple [.str k.w.t,a.enc,b.enc]
noncomputable def Sn.size:Sn->Nat
 | .yes=>1 | .mk _=>1 | .un _ a=>a.size+1 | .bi _ a b=>a.size+b.size+1
noncomputable def Sn.dep:Sn->Nat
 | .yes=>1 | .mk _=>1 | .un _ a=>a.dep+1 | .bi _ a b=>max a.dep b.dep+1
noncomputable def fK:List Str:=["a", "b", "c", "d", "e", "f"]
noncomputable def Sn.ok:Sn->Prop
 | .yes=>True | .mk c=>c∈fK | .un _ a=>a.ok | .bi _ a b=>a.ok/\b.ok
theorem Fw {c:Str} (h:c∈fK):PyData.strOk c=true/\Cb (.str c)=true:=by
 unfold fK at h;simp only [mem_cons,not_mem_nil,or_false] at h
 rcases h with rfl | rfl | rfl | rfl | rfl | rfl<;>decide +kernel
noncomputable def Sn.psh:Sn->Sh
 | .mk _=>.tup [] | _=>.leaf
@[simp] theorem C8 (s:Sn):s.psh.isView=false:=by cases s<;>rfl
theorem Gh (s:Sn):aU [s.enc]=.ok ⟨s.psh,.tuple (s.args.map Sn.enc)⟩:=by
 cases s with
 | yes=>simp [aU,aI,dR,ak,Sn.enc,Sn.args,Sn.psh]
 | mk c=>simp [aU,aI,dR,ak,Sn.enc,Sn.args,Sn.psh]
 | un k a=>cases k<;>simp [aU,aI,dR,ak,Sn.enc,Sn.args,Sn.psh,U5.w]
 | bi k a b=>cases k<;>simp [aU,aI,dR,ak,Sn.enc,Sn.args,Sn.psh,B4.w]
theorem o9 {s:Sn} (h:s.ok):bN [s.enc]=.ok ⟨.leaf,.bool true⟩:=by
 cases s with
 | yes=>simp [bN,aI,de,ak,Sn.enc,iL,pU,Wr.ar,eq_int]
 | mk c=>
  obtain ⟨h1,h2⟩:=Fw h;simp [bN,aI,de,ak,Sn.enc,iL,pU,Wr.ar,eq_int,uH h1,h2]
 | un k a=>cases k<;>simp [bN,aI,de,ak,Sn.enc,iL,pU,Wr.ar,U5.w,eq_int]
 | bi k a b=>cases k<;>simp [bN,aI,de,ak,Sn.enc,iL,pU,Wr.ar,B4.w,eq_int]
noncomputable def fY (l:List Sn):D:=.list (l.map Sn.enc)
noncomputable def jN (l:List Sn):Nat:=(l.map Sn.size).sum
theorem Sn.size_pos (s:Sn):1<=s.size:=by cases s<;>simp [Sn.size]
theorem Sn.args_le (s:Sn):s.args.length<=2:=by cases s<;>simp [Sn.args]
theorem Sn.args_sz (s:Sn):jN s.args+1=s.size:=by cases s<;>simp [Sn.args,jN,Sn.size]
theorem xc (l:List Sn):l.length<=jN l:=by
 induction l with
 | nil=>simp [jN]
 | cons a r ih=>
  have:=a.size_pos
  simp only [jN,map_cons,sum_cons,length_cons] at ih ⊢
  omega
theorem vY (a b:List Sn):jN (a++b)=jN a+jN b:=by simp [jN]
theorem sZ (l:List Sn):jN (l.flatMap Sn.args)+l.length=jN l:=by
 induction l with
 | nil=>simp [jN]
 | cons a r ih=>
  have:=a.args_sz
  rw [List.flatMap_cons,vY];simp only [jN,map_cons,sum_cons,length_cons] at ih this ⊢
  omega
noncomputable def gp (l:List Sn):Nat:=l.foldr (fun s m=>max s.dep m) 0
theorem GE (a:Sn) (r:List Sn):gp (a::r)=max a.dep (gp r):=rfl
theorem u0 (a b:List Sn):gp (a++b)=max (gp a) (gp b):=by
 induction a with
 | nil=>simp [gp]
 | cons x r ih=>rw [List.cons_append,GE,GE,ih,Nat.max_assoc]
theorem Sn.dep_args (s:Sn):gp s.args+1=s.dep:=by cases s<;>simp [Sn.args,gp,Sn.dep]
theorem kB (l:List Sn) (h:l≠[]):gp (l.flatMap Sn.args)+1=gp l:=by
 induction l with
 | nil=>exact absurd rfl h
 | cons a r ih=>
  have:=a.dep_args
  rw [List.flatMap_cons,u0,GE]
  cases r with
  | nil=>simp [gp] at this ⊢;omega
  | cons b t=>
   have:=ih (by simp)
   omega
theorem kc {l:List Sn} (hn:l.length<=1000):cH [fY l]=.ok ⟨.lst .leaf,fY (l.flatMap Sn.args)⟩:=by
 obtain ⟨y,e,_⟩:=Er Sn.enc (fun (b:List Sn) a=>b++a.args) (Inv:=fun b r=>b.length+2*r.length<=2000) (i:=2) (body:=kZ 1 (ag 1 aU (ab (ae 2) af))) (G:=fun b x=>[JJ (fY l),some ⟨.lst .leaf,fY b⟩,x])
  (fun _ _=>by simp) (fun _ _ _=>by simp) (fun b a r hI=>by
   have h2:=a.args_le
   simp only [length_cons] at hI
   refine ⟨?_,by simp only [length_append];omega⟩
   rw [C0 (ds:=b.map Sn.enc) (es:=a.args.map Sn.enc) (p:=⟨a.psh,.tuple (a.args.map Sn.enc)⟩) rfl ?_ rfl (by simp) (by simp only [length_map];omega)]
   ·simp [fY]
   ·simp [Gh,C8,coer]) l [] none (by simp;omega)
 have ef:l.foldl (fun (b:List Sn) a=>b++a.args) []=l.flatMap Sn.args:=by
  have:∀(l:List Sn) (b:List Sn),l.foldl (fun (b:List Sn) a=>b++a.args) b=b++l.flatMap Sn.args:=by
   intro l;induction l with
   | nil=>intro b;simp
   | cons a r ih=>intro b;rw [List.foldl_cons,ih,List.flatMap_cons,append_assoc]
  rw [this,nil_append]
 rw [ef] at e;refine aV ?_
 have e2:dW 2 (aS (ae 0)) (kZ 1 (ag 1 aU (ab (ae 2) af))) [JJ (fY l),some ⟨.lst .leaf,fY []⟩,none]=.nx [JJ (fY l),some ⟨.lst .leaf,fY (l.flatMap Sn.args)⟩,y]:=ff (dD (ds:=l.map Sn.enc) (aC rfl) rfl) e
 have e1:ay true 1 (bb .leaf af) (ak 3 [fY l])=.nx [JJ (fY l),some ⟨.lst .leaf,fY []⟩,none]:=by simp [ak,fY]
 unfold fI;rw [fy,e1];simp only
 rw [fy,e2];simp
structure LS where
 ls:List (List Sn)
 l:List Sn
 many:Nat
noncomputable abbrev Fn (s:Sn) (b:LS):Ev:=[JJ s.enc,some ⟨.lst .leaf,.list (b.ls.map fY)⟩,JJ (fY b.l),JJ (.int (b.many:Int)),none]
structure LI (s:Sn) (b:LS):Prop where
 tot:(b.ls.map List.length).sum+jN b.l=s.size
 mny:b.many=(b.ls.map List.length).sum
 dep:b.ls.length+gp b.l=s.dep
 ok:∀a∈b.l,a.ok
theorem Sn.args_ok {s:Sn} (h:s.ok):∀a∈s.args,a.ok:=by
 cases s with
 | yes=>simp [Sn.args]
 | mk c=>simp [Sn.args]
 | un k a=>simpa [Sn.args,Sn.ok] using h
 | bi k a b=>simpa [Sn.args,Sn.ok] using h
theorem uZ {l:List Sn} (h:l≠[]):1<=gp l:=by
 have:=kB l h
 omega
theorem o8 {s:Sn} (h:s.ok) (hs:s.size<=200) (hd:s.dep<=24):∃L:List (List Sn),fz [s.enc]=.ok ⟨.lst .leaf,.list (L.map fY)⟩/\L.length=s.dep/\(L.map List.length).sum=s.size:=by
 obtain ⟨b',e,I,ht⟩:=lY (c:=aF bh (ae 2)) (G:=Fn s) (test:=fun b=>!b.l.isEmpty) (step:=fun b=>⟨b.ls++[b.l],b.l.flatMap Sn.args,b.many+b.l.length⟩) (Inv:=LI s) (meas:=fun b=>jN b.l)
  (g:=(aq (ir 3 (bt aQ (ab (ae 2) af)))
  (aq (bL (eL (aF ah (aw jw (ae 3) (eK dy))) (eL (aF ah (aw bD (bt aQ (ab (ae 1) af)) (eK dz))) (b6 (aF bh (bt (da false) (ab (ax .leaf 4 (aS (ae 2)) aK (ag 1 bN (ab (ae 4) af))) af)))))) (aL (eK .none)) aG)
  (aq (aE 1 (ae 2))
  (ay false 2 (ag 1 cH (ab (ae 2) af))))))) (fun b I=>by simp [Fn,fY]) (fun b I ht=>by
   have hne:b.l≠[]:=by intro z;rw [z] at ht;simp at ht
   have t1:=I.tot
   have t2:=I.mny
   have t3:=I.dep
   have t4:=xc b.l
   have t5:=uZ hne
   have t6:=sZ b.l
   have t7:=kB b.l hne
   have t8:0<b.l.length:=List.length_pos_iff.mpr hne
   refine ⟨?_,⟨?_,?_,?_,?_⟩,?_⟩
   ·have c1:ax .leaf 4 (aS (ae 2)) aK (ag 1 bN (ab (ae 4) af)) [JJ s.enc,some ⟨.lst .leaf,.list (b.ls.map fY)⟩,JJ (fY b.l),JJ (.int ((b.many:Int)+b.l.length)),none]=.ok ⟨.lst .leaf,.list (b.l.map fun _=>.bool true)⟩ [JJ s.enc,some ⟨.lst .leaf,.list (b.ls.map fY)⟩,JJ (fY b.l),JJ (.int ((b.many:Int)+b.l.length)),none]:=by
     refine kP Sn.enc b.l (fun _=>⟨.leaf,.bool true⟩) (st:=true) (by simp [fY]) (by simp) rfl (by omega) fun a ha=>?_
     simp [o9 (I.ok a ha)]
    have c2:da false [.list (b.l.map fun _=>.bool true)]=some (.bool true):=by
     rw [yh (f:=fun _=>true)]
     simp
    have n1:¬((200:Int)<(b.many:Int)+b.l.length):=by omega
    have n2:¬((b.ls.length:Int)=24):=by omega
    have lb:b.ls.length<=24:=by omega
    have pa:=kc (l:=b.l) (by omega)
    have ap:aE 1 (ae 2) [JJ s.enc,some ⟨.lst .leaf,.list (b.ls.map fY)⟩,JJ (fY b.l),JJ (.int ((b.many:Int)+b.l.length)),none]=.nx [JJ s.enc,some ⟨.lst .leaf,.list (b.ls.map fY++[fY b.l])⟩,JJ (fY b.l),JJ (.int ((b.many:Int)+b.l.length)),none]:=
     D9 rfl (aC rfl) rfl (by simp;omega)
    simp [Fn,fY,dy,dz] at c1 ap pa ⊢
    simp [c1,c2,n1,n2,eq_int,ap,pa]
   ·simp only [List.map_append,map_cons,map_nil,List.sum_append,sum_cons,List.sum_nil]
    omega
   ·simp only [List.map_append,map_cons,map_nil,List.sum_append,sum_cons,List.sum_nil]
    omega
   ·simp only [length_append,length_cons,length_nil]
    omega
   ·intro a ha
    obtain ⟨c,hc,ha⟩:=List.mem_flatMap.mp ha;exact Sn.args_ok (I.ok c hc) a ha
   ·show jN (b.l.flatMap Sn.args)<jN b.l
    omega) 1000 ⟨[],[s],0⟩ ⟨by simp [jN],by simp,by simp [gp],by simpa using h⟩ (by simp [jN];omega)
 have hl:b'.l=[]:=by simpa using ht
 refine ⟨b'.ls,?_,?_,?_⟩
 ·refine aV ?_
  have e0:Fn s ⟨[],[s],0⟩=[JJ s.enc,some ⟨.lst .leaf,.list []⟩,JJ (.list [s.enc]),JJ (.int 0),none]:=rfl
  rw [e0] at e;unfold iD;simp [ak]
  unfold ia;rw [e];simp
 ·have:=I.dep;rw [hl] at this;simpa [gp] using this
 ·have:=I.tot;rw [hl] at this;simpa [jN] using this
theorem dP {s:Sn} (h:s.ok) (hs:s.size<=200) (hd:s.dep<=24):ba [s.enc]=.ok ⟨.leaf,.none⟩:=by
 obtain ⟨L,e,_⟩:=o8 h hs hd;have e2:cR [s.enc]=.ok ⟨.leaf,.list (L.map fY)⟩:=by
  refine aV ?_
  simp [eH,ak,e,bP]
 refine yG (Γ:=[JJ s.enc]) ?_
 simp [eJ,ak,e2]
end KC
namespace KC
noncomputable def aX (rk:List (Option Nat)) (t:Nat):Option Nat:=rk.getD t none
noncomputable def led (any:Bool) (l:List Nat) (P:Nat->Prop):Prop:=if any then ∃t∈l,P t else ∀t∈l,P t
theorem led_t {l:List Nat} {P:Nat->Prop}:led true l P↔∃t∈l,P t:=by unfold led;simp
theorem led_f {l:List Nat} {P:Nat->Prop}:led false l P↔∀t∈l,P t:=by unfold led;simp
theorem vJ {any:Bool} {l:List Nat} {P Q:Nat->Prop} (h:led any l P) (i:∀t∈l,P t->Q t):led any l Q:=by
 cases any with
 | true=>obtain ⟨t,ht,hp⟩:=led_t.mp h;exact led_t.mpr ⟨t,ht,i t ht hp⟩
 | false=>exact led_f.mpr fun t ht=>i t ht (led_f.mp h t ht)
structure pE (n:Nat) (st:Nat->List Nat) (ch:Nat->Bool) (thr goal:List Nat) (rk:List (Option Nat)):Prop where
 len:rk.length=n
 g:∀r,r<n->r∈goal->aX rk r=some 0
 p:∀r k,r<n->r∉goal->aX rk r=some k->0<k/\r∈thr/\led (ch r) (st r) fun t=>∃j,aX rk t=some j/\j<k
 z:∀r,r<n->aX rk r=none->r∉goal/\(r∉thr\/¬led (ch r) (st r) fun t=>aX rk t≠none)
noncomputable def inn (st:Nat->List Nat) (L:List Nat) (r:Nat):List Nat:=(st r).filter fun t=>L.contains t
structure H0 (n:Nat) (st:Nat->List Nat) (own:Nat->Bool) (T X:Nat->Prop):Prop where
 lt:∀r,X r->r<n
 c:∀r,X r->led (own r) (st r) X
 a:∀S:Nat->Prop,(∀r,X r->T r->S r)->(∀r,X r->led (own r) (st r) (fun t=>X t/\S t)->S r)->∀r,X r->S r
structure Fr {α:Type} (n:Nat) (st:Nat->List Nat) (R:Nat->Prop) (M:List α) (mk:α->Nat->Prop) (X:Nat->Prop):Prop where
 lt:∀r,X r->r<n
 sub:∀r,X r->R r
 c:∀r,X r->∃t∈st r,X t
 a:∀m∈M,∀S:Nat->Prop,(∀r,X r->mk m r->S r)->(∀r,X r->(∃t∈st r,X t/\S t)->S r)->∀r,X r->S r
noncomputable def IZ (n:Nat) (L:List Nat):Prop:=∃q:Nat->Bool,L=(List.range n).filter q
open PySem PySem.Spec L2 T PySem.SeqAt
open PyProof.Rows hiding St
noncomputable def oD:Option Nat->D
 | none=>.none
 | some k=>.int (k:Int)
@[simp] theorem w6 (o:Option Nat):bP (oD o)=o.isNone:=by cases o<;>rfl
@[simp] theorem EY (o:Option Nat):bQ (oD o)=true:=by cases o<;>rfl
noncomputable abbrev cU (rk:List (Option Nat)):D:=.list (rk.map oD)
theorem eN {rk:List (Option Nat)} {t:Nat} (h:t<rk.length):fu (rk.map oD) (t:Int)=some (oD (aX rk t)):=by
 refine BQ ?_
 unfold aX;rw [getElem?_map,JA,Jz h];rfl
noncomputable def bR (any:Bool) (bs:List Bool):Bool:=if any then bs.any id else bs.all id
theorem xB {bs:List Bool}:da true [.list (bs.map .bool)]=some (.bool (bs.any id)):=by
 have h:=FV (any:=true) (xs:=bs) (f:=id)
 show Option.map _ (cN _)=_
 rw [show (bs.map PyData.bool)=bs.map fun x=>PyData.bool (id x) from rfl,h]
 simp
theorem Gr {bs:List Bool}:da false [.list (bs.map .bool)]=some (.bool (bs.all id)):=by
 have h:=FV (any:=true) (xs:=bs) (f:=id)
 show Option.map _ (cN _)=_
 rw [show (bs.map PyData.bool)=bs.map fun x=>PyData.bool (id x) from rfl,h]
 simp
theorem El {c:Bool} {bs:List Bool}:bX [.bool c,.list (bs.map .bool)]=.ok ⟨.leaf,.bool (bR c bs)⟩:=by
 unfold bR
 cases c<;>simp [bX,aI,nJ,ak,xB,Gr]
structure Wd.Ok0 (w:Wd):Prop where
 lo:w.os.length=w.n
 h24:w.n<=24
 ls:w.s.length=w.n
 st:∀r∈w.s,r.length<=30/\∀t∈r,t<w.n
theorem Wd.Ok.z {w:Wd} (h:w.Ok):w.Ok0:=⟨h.g.lo,h.h24,h.ls,fun r hr=>(h.st r hr).2⟩
theorem Wd.Ok0.at2 {w:Wd} (h:w.Ok0) {r:Nat} (hr:r<w.n):fu (w.s.map aA) (r:Int)=some (aA (w.stp r)):=by
 refine BQ ?_
 unfold Wd.stp;rw [getElem?_map,JA,Jz (by rw [h.ls];exact hr)]
 rfl
theorem Wd.Ok0.stp_lt {w:Wd} (h:w.Ok0) {r t:Nat} (ht:t∈w.stp r):t<w.n:=by
 unfold Wd.stp at ht;rw [JA] at ht
 cases e:w.s[r]? with
 | none=>rw [e] at ht;simp at ht
 | some x=>rw [e] at ht;exact (h.st x (mem_of_getElem? e)).2 t ht
theorem Wd.Ok0.len {w:Wd} (h:w.Ok0) {r:Nat}:(w.stp r).length<=10000:=by
 unfold Wd.stp;rw [JA]
 cases e:w.s[r]? with
 | none=>simp
 | some x=>
  have:=(h.st x (mem_of_getElem? e)).1
  simp only [Option.getD_some]
  omega
noncomputable abbrev ph (cl:List Bool):D:=.list (cl.map .bool)
noncomputable def iU (cl:List Bool) (r:Nat):Bool:=cl.getD r false
theorem DR {cl:List Bool} {t:Nat} (h:t<cl.length):fu (cl.map PyData.bool) (t:Int)=some (.bool (iU cl t)):=by
 refine BQ ?_
 unfold iU;rw [getElem?_map,JA,Jz h];rfl
noncomputable def ur (w:Wd) (ch:Nat->Bool) (thr:List Nat) (rk:List (Option Nat)):List Nat:=thr.filter fun r=>(aX rk r).isNone&&bR (ch r) ((w.stp r).map fun t=>(aX rk t).isSome)
theorem u4 {w:Wd} (h:w.Ok0) {cl:List Bool} {thr:List Nat} {rk:List (Option Nat)} (hcl:cl.length=w.n) (ht:∀r∈thr,r<w.n) (hl:rk.length=w.n) (hn:thr.length<=1000):cw [w.enc,ph cl,aA thr,cU rk]=.ok ⟨.lst .leaf,aA (ur w (iU cl) thr rk)⟩:=by
 obtain ⟨y,e,_⟩:=Er rm (fun (b:List Nat) r=>if (aX rk r).isNone&&bR (iU cl r) ((w.stp r).map fun t=>(aX rk t).isSome) then b++[r] else b) (Inv:=fun b r=>b.length+r.length<=1000/\∀t∈r,t<w.n) (i:=5)
  (body:=(bL (dB (aF ah (aw (cu false) (ai (ae 3) (ae 5)) (eK .none))) (aF bh (ag 2 bX (ab (ai (ae 1) (ae 5)) (ab (ax .leaf 6 (aS (ai (ai (ae 0) (eK (.int 2))) (ae 5))) aK (aw (cu true) (ai (ae 3) (ae 6)) (eK .none))) af))))) (aE 4 (ae 5)) aG))
  (G:=fun b x=>[JJ w.enc,JJ (ph cl),JJ (aA thr),JJ (cU rk),some ⟨.lst .leaf,aA b⟩,x,none])
  (fun _ _=>by simp) (fun _ _ _=>by simp) (fun b r rest hI=>by
   obtain ⟨h1,h2⟩:=hI;have hr:r<w.n:=h2 r mem_cons_self
   have a1:=eN (rk:=rk) (t:=r) (by omega)
   have a2:=h.at2 hr
   have a4:=DR (cl:=cl) (t:=r) (by omega)
   simp only [length_cons] at h1
   have c1:ax .leaf 6 (aS (ai (ai (ae 0) (eK (.int 2))) (ae 5))) aK (aw (cu true) (ai (ae 3) (ae 6)) (eK .none)) [JJ w.enc,JJ (ph cl),JJ (aA thr),JJ (cU rk),some ⟨.lst .leaf,aA b⟩,JJ (rm r),none]
     = .ok ⟨.lst .leaf,.list ((w.stp r).map fun t=>.bool (aX rk t).isSome)⟩ [JJ w.enc,JJ (ph cl),JJ (aA thr),JJ (cU rk),some ⟨.lst .leaf,aA b⟩,JJ (rm r),none]:=by
    refine kP rm (w.stp r) (fun t=>⟨.leaf,.bool (aX rk t).isSome⟩) (st:=true) (by simp [Wd.enc,a2]) (by simp) rfl h.len fun t ht=>?_
    have a3:=eN (rk:=rk) (t:=t) (by rw [hl];exact h.stp_lt ht)
    simp [a3]
   have dl:=El (c:=iU cl r) (bs:=(w.stp r).map fun t=>(aX rk t).isSome)
   rw [map_map] at dl;have dl:bX [.bool (iU cl r),.list ((w.stp r).map fun t=>.bool (aX rk t).isSome)]=.ok ⟨.leaf,.bool (bR (iU cl r) ((w.stp r).map fun t=>(aX rk t).isSome))⟩:=dl
   have ap:aE 4 (ae 5) [JJ w.enc,JJ (ph cl),JJ (aA thr),JJ (cU rk),some ⟨.lst .leaf,aA b⟩,JJ (rm r),none]=.nx [JJ w.enc,JJ (ph cl),JJ (aA thr),JJ (cU rk),some ⟨.lst .leaf,.list (b.map rm++[rm r])⟩,JJ (rm r),none]:=
    D9 rfl (aC rfl) rfl (by simp;omega)
   refine ⟨?_,?_⟩
   ·cases q1:(aX rk r).isNone with
    | false=>simp [a1,q1]
    | true=>
     cases q2:bR (iU cl r) ((w.stp r).map fun t=>(aX rk t).isSome) with
     | false=>simp [a1,a4,q1,c1,dl,q2]
     | true=>simp [a1,a4,q1,c1,dl,q2,ap]
   ·refine ⟨?_,fun t ht=>h2 t (JB _ ht)⟩
    split
    ·rw [length_append,length_singleton];omega
    ·omega) thr [] none (by simp;exact ⟨hn,ht⟩)
 have ef:∀(l b:List Nat),l.foldl (fun (b:List Nat) r=>if (aX rk r).isNone&&bR (iU cl r) ((w.stp r).map fun t=>(aX rk t).isSome) then b++[r] else b) b=b++ur w (iU cl) l rk:=by
  intro l;induction l with
  | nil=>intro b;simp [ur]
  | cons r t ih=>
   intro b;rw [List.foldl_cons,ih];unfold ur;rw [filter_cons];split<;>simp
 rw [ef,nil_append] at e;refine aV ?_
 have e2:=ff (fi:=aS (ae 2)) (Γ:=[JJ w.enc,JJ (ph cl),JJ (aA thr),JJ (cU rk),some ⟨.lst .leaf,aA []⟩,none,none]) (dD (ds:=thr.map rm) (aC rfl) rfl) e
 have e1:ay true 4 (bb .leaf af) (ak 7 [w.enc,ph cl,aA thr,cU rk])=.nx [JJ w.enc,JJ (ph cl),JJ (aA thr),JJ (cU rk),some ⟨.lst .leaf,aA []⟩,none,none]:=by simp [ak]
 unfold fV;rw [fy,e1];simp only
 rw [fy,e2];simp
theorem led_iff {any:Bool} {l:List Nat} {b:Nat->Bool}:bR any (l.map b)=true↔led any l fun t=>b t=true:=by
 unfold bR led
 cases any<;>simp
structure Right (w:Wd) (any:Bool) (thr goal:List Nat) (rk:List (Option Nat)):Prop where
 len:rk.length=w.n
 g:∀r,r<w.n->r∈goal->aX rk r=some 0
 p:∀r k,r<w.n->r∉goal->aX rk r=some k->0<k/\r∈thr/\led any (w.stp r) fun t=>∃j,aX rk t=some j/\j<k
 z:∀r,r<w.n->aX rk r=none->r∉goal/\(r∉thr\/¬led any (w.stp r) fun t=>aX rk t≠none)
inductive Unt (w:Wd) (any:Bool) (P Q:Nat->Prop):Nat->Prop where
 | now {r:Nat}:Q r->Unt w any P Q r
 | some {r t:Nat}:any=true->P r->t∈w.stp r->Unt w any P Q t->Unt w any P Q r
 | all {r:Nat}:any=false->P r->(∀t∈w.stp r,Unt w any P Q t)->Unt w any P Q r
theorem Unt.of_led {w:Wd} {any:Bool} {P Q:Nat->Prop} {r:Nat} (hp:P r) (h:led any (w.stp r) (Unt w any P Q)):Unt w any P Q r:=by
 unfold led at h
 cases any with
 | true=>obtain ⟨t,ht,hu⟩:=(by simpa using h:∃t,t∈w.stp r/\Unt w true P Q t);exact .some rfl hp ht hu
 | false=>exact .all rfl hp (by simpa using h)
theorem Right.iff {w:Wd} (ok:w.Ok) {any:Bool} {thr goal:List Nat} {rk:List (Option Nat)} (h:Right w any thr goal rk) {r:Nat} (hr:r<w.n):aX rk r≠none↔Unt w any (·∈thr) (·∈goal) r:=by
 constructor
 ·intro hn
  obtain ⟨k,hk⟩:=Option.ne_none_iff_exists'.mp hn
  have key:∀k r,r<w.n->aX rk r=some k->Unt w any (·∈thr) (·∈goal) r:=by
   intro k;induction k using Nat.strongRecOn with
   | ind k ih=>
    intro r hr hk;by_cases hg:r∈goal
    ·exact .now hg
    ·obtain ⟨_,h2,h3⟩:=h.p r k hr hg hk
     exact .of_led h2 (vJ h3 fun t ht ⟨j,hj,hlt⟩=>ih j hlt t (ok.stp_lt ht) hj)
  exact key k r hr hk
 ·intro hu
  induction hu with
  | now q=>rw [h.g _ hr q];simp
  | @some r t e hp ht _ ih=>
   intro hz;obtain ⟨_,z⟩:=h.z r hr hz;rcases z with z | z
   ·exact z hp
   ·subst e
    exact z (by unfold led;simpa using ⟨t,ht,by have:=ih (ok.stp_lt ht);simpa using this⟩)
  | @all r e hp _ ih=>
   intro hz;obtain ⟨_,z⟩:=h.z r hr hz;rcases z with z | z
   ·exact z hp
   ·subst e
    exact z (by unfold led;simpa using fun t ht=>by have:=ih t ht (ok.stp_lt ht);simpa using this)
noncomputable def cQ (rk:List (Option Nat)) (k:Nat) (fr:List Nat):List (Option Nat):=fr.foldl (fun l r=>l.set r (some k)) rk
theorem FZ {k:Nat}:∀(fr:List Nat) (rk:List (Option Nat)),(cQ rk k fr).length=rk.length
 | [],_=>rfl
 | a::r,rk=>by
  show (cQ (rk.set a (some k)) k r).length=_
  rw [FZ,length_set]
theorem wj {rk:List (Option Nat)} {a t:Nat} {o:Option Nat} (h:a<rk.length):aX (rk.set a o) t=if t=a then o else aX rk t:=by
 unfold aX;rw [JA,JA];split
 ·rename_i e;subst e;rw [getElem?_set_self h];rfl
 ·rename_i e;rw [getElem?_set_ne (fun z=>e z.symm)]
theorem qf {k t:Nat}:∀(fr:List Nat) (rk:List (Option Nat)),(∀a∈fr,a<rk.length)->aX (cQ rk k fr) t=if t∈fr then some k else aX rk t
 | [],rk,_=>by simp [cQ]
 | a::r,rk,h=>by
  show aX (cQ (rk.set a (some k)) k r) t=_
  rw [qf r _ (fun b hb=>by rw [length_set];exact h b (JB _ hb)),wj (h a mem_cons_self)]
  by_cases e1:t∈r
  ·simp [e1]
  ·by_cases e2:t=a
   ·simp [e2]
   ·simp [e1,e2]
noncomputable def cm (rk:List (Option Nat)):Nat:=(rk.filter Option.isNone).length
theorem rz {rk:List (Option Nat)} {a k:Nat} (h:rk[a]?=some none):cm (rk.set a (some k))+1=cm rk:=by
 induction rk generalizing a with
 | nil=>simp at h
 | cons x r ih=>
  cases a with
  | zero=>
   simp at h
   subst h;simp [cm]
  | succ a=>
   have:=ih (a:=a) (by simpa using h)
   simp only [cm,List.set_cons_succ,filter_cons] at this ⊢
   cases x with
   | none=>simp only [Option.isNone_none,if_true,length_cons];omega
   | some v=>simpa using this
theorem uw {rk:List (Option Nat)} {a k:Nat}:cm (rk.set a (some k))<=cm rk:=by
 induction rk generalizing a with
 | nil=>simp [cm]
 | cons x r ih=>
  cases a with
  | zero=>cases x<;>simp [cm]
  | succ a=>
   have:=ih (a:=a)
   simp only [cm,List.set_cons_succ,filter_cons] at this ⊢
   cases x with
   | none=>simp only [Option.isNone_none,if_true,length_cons];omega
   | some v=>simpa using this
theorem gO {k:Nat}:∀(fr:List Nat) (rk:List (Option Nat)),cm (cQ rk k fr)<=cm rk
 | [],_=>JH _
 | a::r,rk=>Nat.le_trans (gO r (rk.set a (some k))) uw
theorem rA {k:Nat} {fr:List Nat} {rk:List (Option Nat)} (hne:fr≠[]) (h:∀a∈fr,rk[a]?=some none):cm (cQ rk k fr)<cm rk:=by
 cases fr with
 | nil=>exact absurd rfl hne
 | cons a r=>
  have h1:=rz (k:=k) (h a mem_cons_self)
  have h2:=gO (k:=k) r (rk.set a (some k))
  show cm (cQ (rk.set a (some k)) k r)<_
  omega
structure RS where
 rk:List (Option Nat)
 k:Nat
 fr:List Nat
 x8:Option PV
structure RI (w:Wd) (ch:Nat->Bool) (thr goal:List Nat) (b:RS):Prop where
 len:b.rk.length=w.n
 frn:∀r∈b.fr,r<w.n/\aX b.rk r=none
 frl:b.fr.length<=1000
 lt:∀r j,aX b.rk r=some j->j<b.k
 zero:b.k=0->b.fr=goal
 g:0<b.k->∀r,r∈goal->aX b.rk r=some 0
 p:∀r j,r<w.n->r∉goal->aX b.rk r=some j->0<j/\r∈thr/\led (ch r) (w.stp r) fun t=>∃i,aX b.rk t=some i/\i<j
 nx:0<b.k->b.fr=ur w ch thr b.rk
 m1:∀r,r∈thr->aX b.rk r=none->¬led (ch r) (w.stp r) fun t=>∃i,aX b.rk t=some i/\i+1<b.k
 m2:∀r j,r∉goal->aX b.rk r=some j->¬led (ch r) (w.stp r) fun t=>∃i,aX b.rk t=some i/\i+1<j
noncomputable def Js (st:Nat->List Nat) (ch:Nat->Bool) (goal:List Nat) (rk:List (Option Nat)):Prop:=∀r j,r∉goal->aX rk r=some j->¬led (ch r) (st r) fun t=>∃i,aX rk t=some i/\i+1<j
theorem RI.right {w:Wd} {ch:Nat->Bool} {thr goal:List Nat} {b:RS} (hne:∀r∈thr,w.stp r≠[]) (I:RI w ch thr goal b) (he:b.fr=[]):pE w.n w.stp ch thr goal b.rk:=by
 refine ⟨I.len,fun r hr hg=>?_,I.p,fun r hr hz=>?_⟩
 ·rcases Nat.eq_zero_or_pos b.k with h | h
  ·rw [<-I.zero h,he] at hg;simp at hg
  ·exact I.g h r hg
 ·rcases Nat.eq_zero_or_pos b.k with h | h
  ·have hg:goal=[]:=by rw [<-I.zero h];exact he
   refine ⟨by rw [hg];simp,?_⟩
   by_cases ht:r∈thr
   case neg=>exact .inl ht
   refine .inr fun hl=>?_
   have no:∀t,aX b.rk t=none:=fun t=>by
    cases e:aX b.rk t with
    | none=>rfl
    | some j=>have:=I.lt t j e;omega
   cases hc:ch r with
   | true=>
    rw [hc] at hl;obtain ⟨t,_,z⟩:=led_t.mp hl;exact z (no t)
   | false=>
    rw [hc] at hl;obtain ⟨t,ht'⟩:=exists_mem_of_ne_nil _ (hne r ht);exact led_f.mp hl t ht' (no t)
  ·refine ⟨fun hg=>(by rw [I.g h r hg] at hz;cases hz),?_⟩
   by_cases ht:r∈thr
   ·refine .inr fun hl=>?_
    have hx:=I.nx h
    rw [he] at hx;have:r∈ur w ch thr b.rk:=by
     unfold ur;refine List.mem_filter.mpr ⟨ht,?_⟩
     rw [hz];simp only [Option.isNone_none,Bool.true_and]
     exact led_iff.mpr (vJ hl fun t _ z=>by cases e:aX b.rk t with | none=>exact absurd e z | some j=>rfl)
    rw [<-hx] at this;simp at this
   ·exact .inl ht
theorem RI.step {w:Wd} {ch:Nat->Bool} {thr goal:List Nat} (hne0:∀r∈thr,w.stp r≠[]) {b:RS} {y:Option PV} (hthr:∀r∈thr,r<w.n) (hl:thr.length<=1000) (I:RI w ch thr goal b) (hne:b.fr≠[]) :
  RI w ch thr goal ⟨cQ b.rk b.k b.fr,b.k+1,ur w ch thr (cQ b.rk b.k b.fr),y⟩/\cm (cQ b.rk b.k b.fr)<cm b.rk:=by
 have hfl:∀a∈b.fr,a<b.rk.length:=fun a ha=>by rw [I.len];exact (I.frn a ha).1
 have pt:∀t,aX (cQ b.rk b.k b.fr) t=if t∈b.fr then some b.k else aX b.rk t:=fun t=>qf _ _ hfl
 refine ⟨⟨by rw [FZ];exact I.len,fun r hr=>?_,?_,fun r j e=>?_,fun z=>absurd z (Nat.succ_ne_zero _),fun _ r hg=>?_,fun r j hr hg e=>?_,fun _=>rfl,fun r ht hz hl=>?_,fun r j hg e hl=>?_⟩,rA hne fun a ha=>?_⟩
 ·obtain ⟨h1,h2⟩:=List.mem_filter.mp hr
  simp only [Bool.and_eq_true,Option.isNone_iff_eq_none] at h2
  exact ⟨hthr r h1,h2.1⟩
 ·exact Nat.le_trans (length_filter_le _ _) hl
 ·rw [pt] at e
  show j<b.k+1
  split at e
  ·cases e;omega
  ·have:=I.lt r j e;omega
 ·show aX (cQ b.rk b.k b.fr) r=some 0
  rw [pt];rcases Nat.eq_zero_or_pos b.k with h | h
  ·rw [I.zero h,if_pos hg,h]
  ·have:=I.g h r hg
   split
   ·rename_i z;rw [(I.frn r z).2] at this;cases this
   ·exact this
 ·have e:aX (cQ b.rk b.k b.fr) r=some j:=e
  rw [pt] at e;split at e
  ·rename_i hm
   cases e;have hk:0<b.k:=by
    rcases Nat.eq_zero_or_pos b.k with h | h
    ·rw [I.zero h] at hm;exact absurd hm hg
    ·exact h
   have hx:=I.nx hk
   rw [hx] at hm;obtain ⟨h1,h2⟩:=List.mem_filter.mp hm;simp only [Bool.and_eq_true] at h2
   refine ⟨hk,h1,vJ (led_iff.mp h2.2) fun t _ z=>?_⟩
   cases e:aX b.rk t with
   | none=>rw [e] at z;cases z
   | some i=>
    refine ⟨i,?_,I.lt t i e⟩
    show aX (cQ b.rk b.k b.fr) t=_
    rw [pt,if_neg (fun q=>by rw [(I.frn t q).2] at e;cases e),e]
  ·obtain ⟨h1,h2,h3⟩:=I.p r j hr hg e
   refine ⟨h1,h2,vJ h3 fun t _ ⟨i,hi,hlt⟩=>⟨i,?_,hlt⟩⟩
   show aX (cQ b.rk b.k b.fr) t=_
   rw [pt,if_neg (fun q=>by rw [(I.frn t q).2] at hi;cases hi),hi]
 ·have hz:aX (cQ b.rk b.k b.fr) r=none:=hz
  rw [pt] at hz;split at hz
  ·cases hz
  rename_i hf;have hl:led (ch r) (w.stp r) fun t=>∃i,aX (cQ b.rk b.k b.fr) t=some i/\i+1<b.k+1:=hl
  have hl:led (ch r) (w.stp r) fun t=>∃i,aX b.rk t=some i/\i<b.k:=vJ hl fun t _ ⟨i,hi,hlt⟩=>by
   rw [pt] at hi;split at hi
   ·cases hi;omega
   ·exact ⟨i,hi,by omega⟩
  rcases Nat.eq_zero_or_pos b.k with h | h
  ·cases hc:ch r with
   | true=>
    rw [hc] at hl;obtain ⟨t,_,i,_,z⟩:=led_t.mp hl;omega
   | false=>
    rw [hc] at hl;obtain ⟨t,ht'⟩:=exists_mem_of_ne_nil _ (hne0 r ht);obtain ⟨i,_,z⟩:=led_f.mp hl t ht'
    omega
  ·refine hf ?_
   rw [I.nx h];refine List.mem_filter.mpr ⟨ht,?_⟩
   rw [hz];simp only [Option.isNone_none,Bool.true_and]
   exact led_iff.mpr (vJ hl fun t _ ⟨i,hi,_⟩=>by rw [hi];rfl)
 ·have e:aX (cQ b.rk b.k b.fr) r=some j:=e
  have hl:led (ch r) (w.stp r) fun t=>∃i,aX (cQ b.rk b.k b.fr) t=some i/\i+1<j:=hl
  have hj:j<=b.k:=by
   rw [pt] at e;split at e
   ·cases e;omega
   ·have:=I.lt r j e;omega
  have hl:led (ch r) (w.stp r) fun t=>∃i,aX b.rk t=some i/\i+1<j:=vJ hl fun t _ ⟨i,hi,hlt⟩=>by
   rw [pt] at hi;split at hi
   ·cases hi;omega
   ·exact ⟨i,hi,hlt⟩
  rw [pt] at e;split at e
  ·rename_i hm
   cases e;have hk:0<b.k:=by
    rcases Nat.eq_zero_or_pos b.k with h | h
    ·rw [I.zero h] at hm;exact absurd hm hg
    ·exact h
   have hm':=hm
   rw [I.nx hk] at hm';exact I.m1 r (List.mem_filter.mp hm').1 (I.frn r hm).2 hl
  ·exact I.m2 r j hg e hl
 ·obtain ⟨h1,h2⟩:=I.frn a ha
  unfold aX at h2;rw [JA,Jz (by rw [I.len];exact h1)] at h2
  rw [Jz (by rw [I.len];exact h1)]
  simpa using h2
noncomputable abbrev GR (w:Wd) (cl:List Bool) (thr goal:List Nat) (b:RS):Ev:=[JJ w.enc,JJ (ph cl),JJ (aA thr),JJ (aA goal),some ⟨.lst .leaf,cU b.rk⟩,JJ (.int (b.k:Int)),JJ (aA b.fr),b.x8,none]
noncomputable abbrev la:FS:=(aq (dW 7 (aS (ae 6))
  (gJ 4 (ae 5) (ae 7)))
  (aq (ir 5 (eK (.int 1)))
  (ay false 6 (fH 4 cw (ab (ae 0) (ab (ae 1) (ab (ae 2) (ab (ae 4) af))))))))
theorem wg {w:Wd} (ok:w.Ok0) {cl:List Bool} {thr goal:List Nat} {b:RS} (hcl:cl.length=w.n) (hne0:∀r∈thr,w.stp r≠[]) (hthr:∀r∈thr,r<w.n) (hl:thr.length<=1000) (I:RI w (iU cl) thr goal b) (hne:b.fr≠[]) :
  ∃b',la (GR w cl thr goal b)=.nx (GR w cl thr goal b')/\RI w (iU cl) thr goal b'/\cm b'.rk<cm b.rk:=by
 obtain ⟨y,e,_⟩:=Er rm (fun (l:List (Option Nat)) r=>l.set r (some b.k)) (Inv:=fun l r=>l.length=w.n/\∀t∈r,t<w.n) (i:=7) (body:=gJ 4 (ae 5) (ae 7))
  (G:=fun l x=>[JJ w.enc,JJ (ph cl),JJ (aA thr),JJ (aA goal),some ⟨.lst .leaf,cU l⟩,JJ (.int (b.k:Int)),JJ (aA b.fr),x,none])
  (fun _ _=>by simp) (fun _ _ _=>by simp) (fun l r rest ⟨h1,h2⟩=>by
   have hr:=h2 r mem_cons_self
   refine ⟨?_,by rw [length_set];exact h1,fun t ht=>h2 t (JB _ ht)⟩
   rw [zk (ds:=l.map oD) (j:=r) (k:=(r:Int)) rfl (aC rfl) (aC rfl) (sA (by rw [length_map,h1];exact hr)) rfl]
   simp [List.map_set,oD]) b.fr b.rk b.x8 ⟨I.len,fun t ht=>(I.frn t ht).1⟩
 obtain ⟨I',hm⟩:=RI.step (y:=y) hne0 hthr hl I hne
 refine ⟨⟨cQ b.rk b.k b.fr,b.k+1,ur w (iU cl) thr (cQ b.rk b.k b.fr),y⟩,?_,I',hm⟩
 have e2:=ff (fi:=aS (ae 6)) (Γ:=GR w cl thr goal b) (dD (ds:=b.fr.map rm) (aC rfl) rfl) e
 have dn:=u4 ok (cl:=cl) (thr:=thr) (rk:=cQ b.rk b.k b.fr) hcl hthr (by rw [FZ];exact I.len) hl
 unfold la;rw [fy,e2];have fr:oZ ⟨.lst .leaf,aA (ur w (iU cl) thr (cQ b.rk b.k b.fr))⟩=true:=by
  unfold oZ;simp [bQ]
 have ec:∀Γ:Ev,Γ=[JJ w.enc,JJ (ph cl),JJ (aA thr),JJ (aA goal),some ⟨.lst .leaf,cU (cQ b.rk b.k b.fr)⟩,JJ (.int ((b.k:Int)+1)),JJ (aA b.fr),y,none] ->
   fH 4 cw (ab (ae 0) (ab (ae 1) (ab (ae 2) (ab (ae 4) af)))) Γ=.ok ⟨.lst .leaf,aA (ur w (iU cl) thr (cQ b.rk b.k b.fr))⟩ Γ:=fun Γ hΓ=>by
  subst hΓ;unfold fH;simp [dn,fr]
 have pu:b.fr.foldl (fun l r=>l.set r (some b.k)) b.rk=cQ b.rk b.k b.fr:=rfl
 rw [pu];simp [ec _ rfl]
theorem lC {w:Wd} (ok:w.Ok0) {cl:List Bool} {thr goal:List Nat} (hcl:cl.length=w.n) (hne0:∀r∈thr,w.stp r≠[]) (hthr:∀r∈thr,r<w.n) (hl:thr.length<=1000) (hgoal:∀r∈goal,r<w.n) (hgl:goal.length<=1000) :
  ∃rk,gj [w.enc,ph cl,aA thr,aA goal]=.ok ⟨.lst .leaf,cU rk⟩/\pE w.n w.stp (iU cl) thr goal rk/\Js w.stp (iU cl) goal rk:=by
 have lo:=ok.lo
 have h24:=ok.h24
 have i0:RI w (iU cl) thr goal ⟨w.os.map fun _=>none,0,goal,none⟩:=by
  have z:∀r,aX (w.os.map fun _=>none) r=none:=fun r=>by
   unfold aX;rw [JA,getElem?_map]
   cases w.os[r]?<;>rfl
  refine ⟨by simp [lo],fun r hr=>⟨hgoal r hr,z r⟩,hgl,fun r j e=>(by rw [z] at e;cases e),fun _=>rfl,fun h=>absurd h (by simp),fun r j _ _ e=>(by rw [z] at e;cases e),fun h=>absurd h (by simp),fun r ht _ hl=>?_,fun r j _ e=>(by rw [z] at e;cases e)⟩
  have hl:led (iU cl r) (w.stp r) fun t=>∃i,aX (w.os.map fun _=>none) t=some i/\i+1<0:=hl
  cases hc:iU cl r with
  | true=>
   rw [hc] at hl;obtain ⟨t,_,i,_,z⟩:=led_t.mp hl;omega
  | false=>
   rw [hc] at hl;obtain ⟨t,ht'⟩:=exists_mem_of_ne_nil _ (hne0 r ht);obtain ⟨i,_,z⟩:=led_f.mp hl t ht'
   omega
 obtain ⟨b',e,I,hf⟩:=kl (c:=aF bh (ae 6)) (g:=la) (G:=GR w cl thr goal) (test:=fun b=>!b.fr.isEmpty) (Inv:=RI w (iU cl) thr goal) (meas:=fun b=>cm b.rk) (fun b I=>by simp) (fun b I hb=>wg ok hcl hne0 hthr hl I (by intro z;rw [z] at hb;simp at hb)) 1000 _ i0 (by
  have:cm (w.os.map fun _=>none)<=w.os.length:=by unfold cm;exact Nat.le_trans (length_filter_le _ _) (by simp)
  show cm (w.os.map fun _=>none)<1000
  omega)
 refine ⟨b'.rk,?_,I.right hne0 (by simpa using hf),I.m2⟩
 refine aV ?_
 have co:∀Γ:Ev,Γ.length=9->Γ[0]?=some (JJ w.enc)->ax .leaf 8 (aS (ai (ae 0) (eK (.int 0)))) aK (eK .none) Γ=.ok ⟨.lst .leaf,.list (w.os.map fun _=>.none)⟩ Γ:=fun Γ h1 h2=>by
  have:=kP (fun d:D=>d) w.os (fun _=>⟨.leaf,.none⟩) (s:=.leaf) (i:=8) (fi:=aS (ai (ae 0) (eK (.int 0)))) (fe:=eK .none) (st:=true) (Γ:=Γ) (by simp [h2,Wd.enc]) (by omega) rfl (by omega) (fun x hx=>by simp)
  simpa using this
 have e:cb (aF bh (ae 6)) la 1000 [JJ w.enc,JJ (ph cl),JJ (aA thr),JJ (aA goal),some ⟨.lst .leaf,.list (w.os.map fun _=>.none)⟩,JJ (.int 0),JJ (aA goal),none,none]=.nx (GR w cl thr goal b'):=by
  have q:cU (w.os.map fun _=>none)=.list (w.os.map fun _=>.none):=by
   unfold cU;rw [map_map];rfl
  rw [<-q];exact e
 unfold jC;rw [fy,jc,co _ rfl rfl];simp [ak]
 unfold ia;rw [e];simp
theorem Et {w:Wd} (ok:w.Ok) {s:Sn} {P:D} {thr goal:List Nat} (hw:(s.w=.su\/s.w=.au)\/(s.w=.sa\/s.w=.aa)) (ht:∃sh,coer .leaf ⟨sh,.tuple [aA thr,aA goal]⟩=true/\aZ [w.enc,s.enc,P]=.ok ⟨sh,.tuple [aA thr,aA goal]⟩) (hthr:∀r∈thr,r<w.n) (hl:thr.length<=1000) (hgoal:∀r∈goal,r<w.n) (hgl:goal.length<=1000) :
  ∃rk,bA [w.enc,s.enc,P]=.ok ⟨.lst .leaf,cU rk⟩/\Right w s.w.some thr goal rk:=by
 obtain ⟨sh,hsh,ht⟩:=ht;have lo:=ok.g.lo
 have h24:=ok.h24
 obtain ⟨rk,e,R,_⟩:=lC ok.z (cl:=w.os.map fun _=>s.w.some) (by rw [length_map];exact lo) (fun r hr=>ok.stp_ne (hthr r hr)) hthr hl hgoal hgl
 have hch:∀r,r<w.n->iU (w.os.map fun _=>s.w.some) r=s.w.some:=fun r hr=>by
  unfold iU;rw [JA,getElem?_map,Jz (by omega)]
  rfl
 refine ⟨rk,?_,⟨R.len,R.g,fun r k hr hg e=>?_,fun r hr e=>?_⟩⟩
 ·have hst:ai (ae 1) (eK (.int 0)) (ak 6 [w.enc,s.enc,P])=.ok ⟨.leaf,.str s.w.t⟩ (ak 6 [w.enc,s.enc,P]):=by
   cases s<;>simp [ak,Sn.enc,Sn.w]
  have s1:ay false 3 (ai (ae 1) (eK (.int 0))) (ak 6 [w.enc,s.enc,P])=.nx [JJ w.enc,JJ s.enc,JJ P,JJ (.str s.w.t),none,none]:=by
   rw [jc,hst];simp [ak]
  have s2:bL (dB (aF ah (aw (bK true) (ae 3) (eK cx))) (aF ah (aw (bK true) (ae 3) (eK cZ)))) (aL (eK .none)) aG [JJ w.enc,JJ s.enc,JJ P,JJ (.str s.w.t),none,none]=.nx [JJ w.enc,JJ s.enc,JJ P,JJ (.str s.w.t),none,none]:=by
   rcases hw with z | z
   ·simp [z]
   ·by_cases z2:(s.w=.su\/s.w=.au)<;>simp [z,z2]
  have s3:ay false 4 (ag 3 aZ (ab (ae 0) (ab (ae 1) (ab (ae 2) af)))) [JJ w.enc,JJ s.enc,JJ P,JJ (.str s.w.t),none,none]=.nx [JJ w.enc,JJ s.enc,JJ P,JJ (.str s.w.t),JJ (.tuple [aA thr,aA goal]),none]:=by
   simp [ht,hsh]
  have c1:ax .leaf 5 (aS (ai (ae 0) (eK (.int 0)))) aK (aw (bK false) (ae 3) (eK bx)) [JJ w.enc,JJ s.enc,JJ P,JJ (.str s.w.t),JJ (.tuple [aA thr,aA goal]),none]=.ok ⟨.lst .leaf,ph (w.os.map fun _=>s.w.some)⟩ [JJ w.enc,JJ s.enc,JJ P,JJ (.str s.w.t),JJ (.tuple [aA thr,aA goal]),none]:=by
   have:=kP (fun d:D=>d) w.os (fun _=>⟨.leaf,.bool s.w.some⟩) (s:=.leaf) (i:=5) (fi:=aS (ai (ae 0) (eK (.int 0)))) (fe:=aw (bK false) (ae 3) (eK bx)) (st:=true) (Γ:=[JJ w.enc,JJ s.enc,JJ P,JJ (.str s.w.t),JJ (.tuple [aA thr,aA goal]),none]) (by simp [Wd.enc]) (by simp) rfl (by omega) (fun x hx=>by simp)
   rw [this];simp
  refine aV ?_
  unfold gq;rw [fy,s1];simp only
  rw [fy,s2];simp only
  rw [fy,s3];simp only
  exact bj (cG (aD (aC rfl) (aD c1 (aD (hJ (j:=0) (ds:=[aA thr,aA goal]) (aC rfl) aW rfl rfl rfl) (aD (hJ (j:=1) (ds:=[aA thr,aA goal]) (aC rfl) aW rfl rfl rfl) ao)))) e rfl rfl) rfl
 ·have:=R.p r k hr hg e
  rw [hch r hr] at this;exact this
 ·have:=R.z r hr e
  rw [hch r hr] at this;exact this
noncomputable def fo (w:Wd):Sn->Nat->Prop
 | .yes,_=>True
 | .mk c,r=>c∈w.mks r
 | .un .not a,r=>¬fo w a r
 | .un .sn a,r=>∃t∈w.stp r,fo w a t
 | .un .an a,r=>∀t∈w.stp r,fo w a t
 | .un .sa a,r=>¬Unt w false (fun _=>True) (fun t=>¬fo w a t) r
 | .un .aa a,r=>¬Unt w true (fun _=>True) (fun t=>¬fo w a t) r
 | .bi .and a b,r=>fo w a r/\fo w b r
 | .bi .or a b,r=>fo w a r\/fo w b r
 | .bi .su a b,r=>Unt w true (fo w a) (fo w b) r
 | .bi .au a b,r=>Unt w false (fo w a) (fo w b) r
noncomputable def bE (w:Wd) (s:Sn) (r:Nat):Bool:=@decide (fo w s r) (Classical.propDecidable _)
theorem satB_iff {w:Wd} {s:Sn} {r:Nat}:bE w s r=true↔fo w s r:=by
 unfold bE;exact @decide_eq_true_iff _ (Classical.propDecidable _)
theorem jM {w:Wd} {s:Sn} {r:Nat} {b:Bool} (h:b=true↔fo w s r):b=bE w s r:=by
 rw [Bool.eq_iff_iff,h,satB_iff]
noncomputable def aJ (w:Wd) (s:Sn):List Nat:=(List.range w.n).filter (bE w s)
theorem mem_rof {w:Wd} {s:Sn} {r:Nat}:r∈aJ w s↔r<w.n/\fo w s r:=by
 unfold aJ;rw [mem_filter,mem_range,satB_iff]
theorem sm {w:Wd} {s:Sn} {r:Nat} (hr:r<w.n):(aJ w s).contains r=bE w s r:=by
 rw [Bool.eq_iff_iff,contains_iff_mem,mem_rof,satB_iff];exact ⟨fun h=>h.2,fun h=>⟨hr,h⟩⟩
theorem Unt.congr {w:Wd} (ok:w.Ok) {any:Bool} {P P' Q Q':Nat->Prop} (hp:∀t,t<w.n->P t->P' t) (hq:∀t,t<w.n->Q t->Q' t) {r:Nat} (hr:r<w.n) (h:Unt w any P Q r):Unt w any P' Q' r:=by
 induction h with
 | now q=>exact .now (hq _ hr q)
 | some e p ht _ ih=>exact .some e (hp _ hr p) ht (ih (ok.stp_lt ht))
 | all e p _ ih=>exact .all e (hp _ hr p) fun t ht=>ih t ht (ok.stp_lt ht)
theorem uF {c:Str} {r:List Str} (hc:PyData.strOk c=true) (h:∀x∈r,PyData.strOk x=true):bK false (.str c) (sN r)=some (.bool (r.contains c)):=by
 have hs:jL (r.map PyData.str):=fun a ha=>by
  obtain ⟨x,hx,rfl⟩:=List.mem_map.mp ha;exact ⟨x,rfl,h x hx⟩
 rw [sN,Bb hc hs];congr 2
 unfold has;simp only [List.any_map]
 rw [Bool.eq_iff_iff,any_eq_true,contains_iff_mem];constructor
 ·rintro ⟨x,hx,e⟩
  have:PyData.eqv (.str x) (.str c)=true:=e
  have:x=c:=by simpa [PyData.eqv] using this
  rw [<-this];exact hx
 ·intro hx
  exact ⟨c,hx,by show PyData.eqv (.str c) (.str c)=true;simp [PyData.eqv]⟩
noncomputable abbrev eP (ps:List (List Nat)):D:=.list (ps.map aA)
theorem yN {ps:List (List Nat)} {r:Nat} {Γ:Ev} (hl:Γ.length=9) (h2:Γ[2]?=some (JJ (eP ps))) (h4:Γ[4]?=some (JJ (rm r))) (hn:ps.length<=10000) :
  ax .leaf 7 (aS (ae 2)) aK (aw (bK false) (ae 4) (ae 7)) Γ=.ok ⟨.lst .leaf,.list (ps.map fun R=>.bool (R.contains r))⟩ Γ:=by
 refine kP aA ps (fun R=>⟨.leaf,.bool (R.contains r)⟩) (st:=true) (by simp [h2]) (by omega) rfl hn fun R hR=>?_
 have g4:(Γ.set 7 (JJ (aA R)))[4]?=some (JJ (rm r)):=by rw [getElem?_set_ne (by omega)];exact h4
 have g7:(Γ.set 7 (JJ (aA R)))[7]?=some (JJ (aA R)):=getElem?_set_self (by omega)
 refine ⟨?_,rfl⟩
 rw [Ac,mN,g4];simp only [tU,pM]
 rw [mN,g7];simp only [tU,pM,sy]
theorem zf {w:Wd} (ok:w.Ok) {r:Nat}:(w.stp r).length<=10000:=by
 unfold Wd.stp;rw [JA]
 cases e:w.s[r]? with
 | none=>simp
 | some x=>
  have:=(ok.st x (mem_of_getElem? e)).2.1
  simp only [Option.getD_some]
  omega
theorem CJ {w:Wd} (ok:w.Ok) {R:List Nat} {ps:List (List Nat)} {r:Nat} (hr:r<w.n) {Γ:Ev} (hl:Γ.length=9) (h0:Γ[0]?=some (JJ w.enc)) (h2:Γ[2]?=some (JJ (eP (R::ps)))) (h4:Γ[4]?=some (JJ (rm r))) :
  ax .leaf 8 (aS (ai (ai (ae 0) (eK (.int 2))) (ae 4))) aK (aw (bK false) (ae 8) (ai (ae 2) (eK (.int 0)))) Γ=.ok ⟨.lst .leaf,.list ((w.stp r).map fun t=>.bool (R.contains t))⟩ Γ:=by
 have a2:=ok.at2 hr
 refine kP rm (w.stp r) (fun t=>⟨.leaf,.bool (R.contains t)⟩) (st:=true) (by simp [h0,h4,Wd.enc,a2]) (by omega) rfl (zf ok) fun t ht=>?_
 have g2:(Γ.set 8 (JJ (rm t)))[2]?=some (JJ (eP (R::ps))):=by rw [getElem?_set_ne (by omega)];exact h2
 have g8:(Γ.set 8 (JJ (rm t)))[8]?=some (JJ (rm t)):=getElem?_set_self (by omega)
 refine ⟨?_,rfl⟩
 rw [Ac,mN,g8];simp only [tU,pM]
 rw [CY,mN,g2];simp [sy]
noncomputable def gx (w:Wd) (s:Sn) (R:D):Prop:=match s with
 | .bi .su a b=>∃rk,R=cU rk/\Right w true (aJ w a) (aJ w b) rk
 | .bi .au a b=>∃rk,R=cU rk/\Right w false (aJ w a) (aJ w b) rk
 | .un .sa a=>∃rk,R=cU rk/\Right w false (List.range w.n) ((List.range w.n).filter fun t=>!(aJ w a).contains t) rk
 | .un .aa a=>∃rk,R=cU rk/\Right w true (List.range w.n) ((List.range w.n).filter fun t=>!(aJ w a).contains t) rk
 | _=>R=.none
theorem pS {w:Wd} (ok:w.Ok) {any:Bool} {a b:Sn} {r:Nat} (hr:r<w.n):Unt w any (·∈aJ w a) (·∈aJ w b) r↔Unt w any (fo w a) (fo w b) r:=
 ⟨Unt.congr ok (fun t _ h=>(mem_rof.mp h).2) (fun t _ h=>(mem_rof.mp h).2) hr,Unt.congr ok (fun t ht h=>mem_rof.mpr ⟨ht,h⟩) (fun t ht h=>mem_rof.mpr ⟨ht,h⟩) hr⟩
theorem pT {w:Wd} (ok:w.Ok) {any:Bool} {a:Sn} {r:Nat} (hr:r<w.n):Unt w any (·∈List.range w.n) (·∈(List.range w.n).filter fun t=>!(aJ w a).contains t) r↔Unt w any (fun _=>True) (fun t=>¬fo w a t) r:=by
 have q:∀t,t<w.n->(t∈(List.range w.n).filter fun t=>!(aJ w a).contains t)\/fo w a t:=fun t ht=>by
  by_cases h:fo w a t
  ·exact .inr h
  ·refine .inl (List.mem_filter.mpr ⟨List.mem_range.mpr ht,?_⟩)
   rw [sm ht]
   cases e:bE w a t with
   | false=>rfl
   | true=>exact absurd (satB_iff.mp e) h
 constructor
 ·refine Unt.congr ok (fun _ _ _=>trivial) (fun t ht h hs=>?_) hr
  have:=(List.mem_filter.mp h).2
  rw [sm ht,satB_iff.mpr hs] at this
  cases this
 ·exact Unt.congr ok (fun t ht _=>List.mem_range.mpr ht) (fun t ht h=>(q t ht).elim id fun z=>absurd z h) hr
theorem jl {o:Option Nat}:(!o.isNone)=true↔o≠none:=by cases o<;>simp
theorem qu {o:Option Nat}:o.isNone=true↔¬o≠none:=by cases o<;>simp
theorem HW {a b:Bool}:da true [.list [.bool a,.bool b]]=some (.bool (a||b)):=by cases a<;>cases b<;>rfl
theorem all2 {a b:Bool}:da false [.list [.bool a,.bool b]]=some (.bool (a&&b)):=by cases a<;>cases b<;>rfl
theorem lE {w:Wd} (ok:w.Ok) {s:Sn} (hs:s.ok) {R:D} (hR:gx w s R) {r:Nat} (hr:r<w.n):eT [w.enc,s.enc,eP (s.args.map (aJ w)),R,rm r]=.ok ⟨.leaf,.bool (bE w s r)⟩:=by
 refine aV ?_
 have a1:=ok.at1 hr
 have a2:=ok.at2 hr
 cases s with
 | yes=>
  have e:true=bE w .yes r:=jM (by simp [fo])
  rw [<-e];simp [bB,ak,Sn.enc]
 | mk c=>
  have e:(w.mks r).contains c=bE w (.mk c) r:=jM (by rw [contains_iff_mem];rfl)
  have hm:∀x∈w.mks r,PyData.strOk x=true:=fun x hx=>by
   unfold Wd.mks at hx;rw [JA,Jz (by rw [ok.lm];exact hr)] at hx
   exact ok.mc _ (getElem_mem _) x hx
  rw [<-e];simp [bB,ak,Sn.enc,Wd.enc,a1,uF (Fw hs).1 hm]
 | un k a=>
  have hc:=yN (ps:=[aJ w a]) (r:=r) (Γ:=[JJ w.enc,JJ ((Sn.un k a).enc),JJ (eP [aJ w a]),JJ R,JJ (rm r),JJ (.str k.w.t),none,none,none]) rfl rfl rfl (by simp)
  have sc:=CJ ok (R:=aJ w a) (ps:=[]) hr (Γ:=[JJ w.enc,JJ ((Sn.un k a).enc),JJ (eP [aJ w a]),JJ R,JJ (rm r),JJ (.str k.w.t),JJ (.list [.bool ((aJ w a).contains r)]),none,none]) rfl rfl rfl rfl
  have dl:=El (c:=k.w.some) (bs:=(w.stp r).map fun t=>(aJ w a).contains t)
  rw [map_map] at dl;have dl:bX [.bool k.w.some,.list ((w.stp r).map fun t=>.bool ((aJ w a).contains t))]=_:=dl
  have stB:∀t∈w.stp r,(aJ w a).contains t=true↔fo w a t:=fun t ht=>by rw [sm (ok.stp_lt ht),satB_iff]
  simp only [Sn.enc] at hc sc
  cases k with
  | not=>
   have e:(!(aJ w a).contains r)=bE w (.un .not a) r:=jM (by rw [sm hr];simp [fo,<-satB_iff])
   rw [<-e];simp [U5.w] at hc
   simp [bB,ak,Sn.enc,Sn.args,U5.w,hc]
  | sn=>
   have e:bR true ((w.stp r).map fun t=>(aJ w a).contains t)=bE w (.un .sn a) r:=jM (by
    rw [led_iff];simp only [led,fo,if_true]
    exact ⟨fun ⟨t,ht,h⟩=>⟨t,ht,(stB t ht).mp h⟩,fun ⟨t,ht,h⟩=>⟨t,ht,(stB t ht).mpr h⟩⟩)
   have wk:U5.sn.w.some=true:=rfl
   have wk2:Wr.sn.some=true:=rfl
   rw [wk,e] at dl;simp [U5.w] at hc sc dl
   simp [bB,ak,Sn.enc,Sn.args,U5.w,hc,sc,dl,wk2]
  | an=>
   have e:bR false ((w.stp r).map fun t=>(aJ w a).contains t)=bE w (.un .an a) r:=jM (by
    rw [led_iff];simp only [led,fo,Bool.false_eq_true,if_false]
    exact ⟨fun h t ht=>(stB t ht).mp (h t ht),fun h t ht=>(stB t ht).mpr (h t ht)⟩)
   have wk:U5.an.w.some=false:=rfl
   have wk2:Wr.an.some=false:=rfl
   rw [wk,e] at dl;simp [U5.w] at hc sc dl
   simp [bB,ak,Sn.enc,Sn.args,U5.w,hc,sc,dl,wk2]
  | sa=>
   obtain ⟨rk,rfl,hR⟩:=hR;have a3:=eN (rk:=rk) (t:=r) (by rw [hR.len];exact hr)
   have e:(aX rk r).isNone=bE w (.un .sa a) r:=jM (by rw [qu,hR.iff ok hr,pT ok hr];rfl)
   rw [<-e];simp [bB,ak,Sn.enc,Sn.args,U5.w,a3]
  | aa=>
   obtain ⟨rk,rfl,hR⟩:=hR;have a3:=eN (rk:=rk) (t:=r) (by rw [hR.len];exact hr)
   have e:(aX rk r).isNone=bE w (.un .aa a) r:=jM (by rw [qu,hR.iff ok hr,pT ok hr];rfl)
   rw [<-e];simp [bB,ak,Sn.enc,Sn.args,U5.w,a3]
 | bi k a b=>
  have hc:=yN (ps:=[aJ w a,aJ w b]) (r:=r) (Γ:=[JJ w.enc,JJ ((Sn.bi k a b).enc),JJ (eP [aJ w a,aJ w b]),JJ R,JJ (rm r),JJ (.str k.w.t),none,none,none]) rfl rfl rfl (by simp)
  simp only [Sn.enc] at hc
  cases k with
  | and=>
   have e:((aJ w a).contains r&&(aJ w b).contains r)=bE w (.bi .and a b) r:=jM (by rw [sm hr,sm hr,Bool.and_eq_true,satB_iff,satB_iff];rfl)
   rw [<-e];simp [B4.w] at hc
   simp [bB,ak,Sn.enc,Sn.args,B4.w,hc,all2]
  | or=>
   have e:((aJ w a).contains r||(aJ w b).contains r)=bE w (.bi .or a b) r:=jM (by rw [sm hr,sm hr,Bool.or_eq_true,satB_iff,satB_iff];rfl)
   rw [<-e];simp [B4.w] at hc
   simp [bB,ak,Sn.enc,Sn.args,B4.w,hc,HW]
  | su=>
   obtain ⟨rk,rfl,hR⟩:=hR;have a3:=eN (rk:=rk) (t:=r) (by rw [hR.len];exact hr)
   have e:(!(aX rk r).isNone)=bE w (.bi .su a b) r:=jM (by rw [jl,hR.iff ok hr,pS ok hr];rfl)
   rw [<-e];simp [bB,ak,Sn.enc,Sn.args,B4.w,a3]
  | au=>
   obtain ⟨rk,rfl,hR⟩:=hR;have a3:=eN (rk:=rk) (t:=r) (by rw [hR.len];exact hr)
   have e:(!(aX rk r).isNone)=bE w (.bi .au a b) r:=jM (by rw [jl,hR.iff ok hr,pS ok hr];rfl)
   rw [<-e];simp [bB,ak,Sn.enc,Sn.args,B4.w,a3]
theorem D5 {w:Wd} {s:Sn}:∀r∈aJ w s,r<w.n:=fun r hr=>(mem_rof.mp hr).1
theorem Cq {w:Wd} (ok:w.Ok) {s:Sn}:(aJ w s).length<=1000:=by
 have:=ok.h24
 exact Nat.le_trans (length_filter_le _ _) (by simp;omega)
theorem GZ {Γ Γ1:Ev} {fl:FL} {ps:List PV} {k:Int} (hl:fl Γ=.ok ps Γ1) (hp:ps.map (·.d)=[.int k]) (h0:0<=k) (h1:k<=1000):xG fl Γ=.ok ⟨.lst .leaf,.list (cc 0 k.toNat)⟩ Γ1:=by
 have h3:dI k=true:=Ba (by omega) (by omega)
 have hb:=Co
 have h4:k<=(sizeLine:Int):=by omega
 unfold xG;rw [hl];simp only [Out.bind,hp,jU,h3,if_true,h4]
theorem yW {w:Wd} (ok:w.Ok) {Γ:Ev} (h0:Γ[0]?=some (JJ w.enc)):xG (ab (bt aQ (ab (ai (ae 0) (eK (.int 0))) af)) af) Γ=.ok ⟨.lst .leaf,aA (List.range w.n)⟩ Γ:=by
 have lo:=ok.g.lo
 have h24:=ok.h24
 rw [GZ (Γ1:=Γ) (ps:=[⟨.leaf,.int w.n⟩]) (k:=(w.n:Int)) (by simp [h0,Wd.enc,lo]) rfl (by omega) (by omega),Int.toNat_natCast,BZ]
theorem Ex {w:Wd} {s:Sn} {A B:List Nat} (hw:s.w=.su\/s.w=.au):aZ [w.enc,s.enc,eP [A,B]]=.ok ⟨.tup [.leaf,.leaf],.tuple [aA A,aA B]⟩:=by
 have hst:ai (ae 1) (eK (.int 0)) (ak 3 [w.enc,s.enc,eP [A,B]])=.ok ⟨.leaf,.str s.w.t⟩ (ak 3 [w.enc,s.enc,eP [A,B]]):=by
  cases s<;>simp [ak,Sn.enc,Sn.w]
 refine aV ?_
 unfold dQ;rw [fy,Hq,C1,Ac,hst];simp [hw,ak,yv]
theorem wV {w:Wd} (ok:w.Ok) {x:PV} {A:List Nat}:ag 2 cV (ab (ae 0) (ab (ai (ae 2) (eK (.int 0))) af)) [JJ w.enc,some x,JJ (eP [A])]=.ok ⟨.lst .leaf,aA ((List.range w.n).filter fun t=>!A.contains t)⟩ [JJ w.enc,some x,JJ (eP [A])]:=
 cG (ps:=[⟨.leaf,w.enc⟩,⟨.leaf,aA A⟩]) (aD (aC rfl) (aD (yg (j:=0) (ds:=[aA A]) (aC rfl) aW rfl rfl rfl) ao)) (iN ok (r:=A)) rfl rfl
theorem Ew {w:Wd} (ok:w.Ok) {s:Sn} {A:List Nat} (hw:¬(s.w=.su\/s.w=.au)):aZ [w.enc,s.enc,eP [A]]=.ok ⟨.tup [.lst .leaf,.lst .leaf],.tuple [aA (List.range w.n),aA ((List.range w.n).filter fun t=>!A.contains t)]⟩:=by
 have hst:ai (ae 1) (eK (.int 0)) [JJ w.enc,JJ s.enc,JJ (eP [A])]=.ok ⟨.leaf,.str s.w.t⟩ [JJ w.enc,JJ s.enc,JJ (eP [A])]:=by
  cases s<;>simp [Sn.enc,Sn.w]
 have lr:=yW ok (Γ:=[JJ w.enc,JJ s.enc,JJ (eP [A])]) rfl
 refine aV (aB (Γ1:=[JJ w.enc,JJ s.enc,JJ (eP [A])]) (bq (t:=false) (Γ1:=[JJ w.enc,JJ s.enc,JJ (eP [A])]) (eB (s:=.leaf) (aN hst aW (by show bK false (.str s.w.t) cx=_;rw [A9,decide_eq_false hw]))) nofun (fun _=>rfl)) (bj (dm (aD lr (aD (wV ok) ao)) rfl rfl) rfl))
theorem gQ {w:Wd} (ok:w.Ok) {s:Sn} (hs:s.ok) {R:D} (hR:gx w s R):bO [w.enc,s.enc,eP (s.args.map (aJ w)),R]=.ok ⟨.lst .leaf,aA (aJ w s)⟩:=by
 have lo:=ok.g.lo
 have h24:=ok.h24
 have e:ax .leaf 4 (eO (ab (bt aQ (ab (ai (ae 0) (eK (.int 0))) af)) af)) (aF bh (ag 5 eT (ab (ae 0) (ab (ae 1) (ab (ae 2) (ab (ae 3) (ab (ae 4) af))))))) (ae 4) (ak 5 [w.enc,s.enc,eP (s.args.map (aJ w)),R])=.ok ⟨.lst .leaf,.list (((List.range w.n).filter (bE w s)).map fun t=>rm t)⟩ (ak 5 [w.enc,s.enc,eP (s.args.map (aJ w)),R]):=by
  refine sq rm (List.range w.n) (bE w s) (fun t=>⟨.leaf,rm t⟩) (st:=true) ?_ (by simp [ak]) rfl (by simp;omega) (fun t ht=>?_) (fun t ht _=>?_)
  ·refine (iF (k:=(w.n:Int)) (ps:=[⟨.leaf,.int w.n⟩]) ?_ rfl (by omega) (by omega)).trans (by rw [<-BZ];rfl)
   simp [ak,Wd.enc,lo]
  ·have:=lE ok hs hR (List.mem_range.mp ht)
   simp [ak,this]
  ·simp [ak]
 refine aV ?_
 unfold jB;rw [yE,e];rfl
theorem Wd.Ok.check {w:Wd} (ok:w.Ok):bo [w.enc]=.ok ⟨.leaf,.none⟩:=rS (ok.g.wk (b:=24) ok.h24) (by omega) (ok.g.isW ok.h1 ok.h24)
end KC
namespace T
open PySem PySem.Spec L2
open PyProof.Rows hiding St
theorem zg {α:Type} (en:α->D) {i:Nat} {body:FS} {Inv:List α->Ev->Prop} (hb:∀a r Γ,Inv (a::r) Γ->i<Γ.length/\∃Γ',body (Γ.set i (JJ (en a)))=.nx Γ'/\Inv r Γ'):∀(xs:List α) (Γ:Ev),Inv xs Γ->∃Γ',cE i body (xs.map en) Γ=.nx Γ'/\Inv [] Γ'
 | [],Γ,h=>⟨Γ,rfl,h⟩
 | a::r,Γ,h=>by
  obtain ⟨hi,Γ1,h1,h2⟩:=hb a r Γ h;obtain ⟨Γ2,e,h3⟩:=zg en hb r Γ1 h2;refine ⟨Γ2,?_,h3⟩
  rw [map_cons,cE,if_pos hi,h1];exact e
theorem FT {Γ:Ev} {i j:Nat} {fb:F1} {s:Sh} {k:Int} {ds:List D} {d:D} (ho:Γ[i]?=some (some ⟨.lst .leaf,.list ds⟩)) (hb:fb Γ=.ok ⟨s,.int k⟩ Γ) (hi:fq ds.length k=some j) (hd:ds[j]?=some d):d7 i fb Γ=.ok ⟨.leaf,d⟩ Γ:=by
 unfold d7 cL;rw [ho];simp only [if_true,hb,pM]
 unfold xp;rw [ho];simp only [hi,hd]
theorem yu {Γ Γ1 Γ2:Ev} {fa fb:F1} {s s':Sh} {xs ys:List D} (ha:fa Γ=.ok ⟨s,.list xs⟩ Γ1) (hb:fb Γ1=.ok ⟨s',.list ys⟩ Γ2) (h1:aH ⟨s,.list xs⟩ xs=true) (h2:aH ⟨s',.list ys⟩ ys=true) (hn:xs.length+ys.length<=10000):nE fa fb Γ=.ok ⟨.lst .leaf,.list (xs++ys)⟩ Γ2:=by
 have hb':(10000:Nat)<=sizeLine:=by decide
 have:xs.length+ys.length<=sizeLine:=Nat.le_trans hn hb'
 unfold nE bf;rw [ha];simp only [pM]
 rw [hb];simp only [pM,h1,h2,decide_eq_true this,Bool.and_self,if_true]
end T
namespace KC
open PySem PySem.Spec L2 T PySem.SeqAt
open PyProof.Rows hiding St
theorem yw {n:Nat} {os ms ss:List D} (g:Gw (n:Int) n os ms ss) (h1:1<=n) (h24:n<=24):∃w:Wd,w.Ok/\w.enc=mq os ms ss/\w.n=n:=by
 have hm:∀l:List D,(∀r∈l,∃xs,r=.list xs/\jL xs)->∃M:List (List Str),l=M.map sN/\∀r∈M,∀c∈r,PyData.strOk c=true:=by
  have one:∀xs:List D,jL xs->∃r:List Str,xs=r.map .str/\∀c∈r,PyData.strOk c=true:=by
   intro xs;induction xs with
   | nil=>intro _;exact ⟨[],rfl,by simp⟩
   | cons a r ih=>
    intro h;obtain ⟨x,rfl,hx⟩:=h a mem_cons_self;obtain ⟨t,rfl,ht⟩:=ih fun b hb=>h b (JB _ hb)
    exact ⟨x::t,rfl,fun c hc=>(Jy hc).elim (fun e=>by rw [e];exact hx) (ht c)⟩
  intro l;induction l with
  | nil=>intro _;exact ⟨[],rfl,by simp⟩
  | cons a r ih=>
   intro h;obtain ⟨xs,rfl,hx⟩:=h a mem_cons_self;obtain ⟨x,rfl,hx2⟩:=one xs hx;obtain ⟨M,rfl,hM⟩:=ih fun b hb=>h b (JB _ hb)
   exact ⟨x::M,rfl,fun c hc=>(Jy hc).elim (fun e=>by rw [e];exact hx2) (hM c)⟩
 have hs:∀l:List D,(∀r∈l,∃ts:List Int,r=.list (ts.map .int)/\ts.length<=30/\ts≠[]/\(∀t∈ts,0<=t/\t<(n:Int))/\ts.Pairwise (· < ·))->∃S:List (List Nat),l=S.map aA/\∀r∈S,r≠[]/\r.length<=30/\∀t∈r,t<n:=by
  have one:∀ts:List Int,(∀t∈ts,0<=t/\t<(n:Int))->∃r:List Nat,ts.map PyData.int=r.map rm/\r.length=ts.length/\∀t∈r,t<n:=by
   intro ts;induction ts with
   | nil=>intro _;exact ⟨[],rfl,rfl,by simp⟩
   | cons a r ih=>
    intro h;have ha:=h a mem_cons_self
    obtain ⟨t,e,el,ht⟩:=ih fun b hb=>h b (JB _ hb)
    refine ⟨a.toNat::t,?_,by simp [el],fun c hc=>(Jy hc).elim (fun e=>by omega) (ht c)⟩
    rw [map_cons,map_cons,e];congr 2
    omega
  intro l;induction l with
  | nil=>intro _;exact ⟨[],rfl,by simp⟩
  | cons a r ih=>
   intro h;obtain ⟨ts,rfl,t1,t2,t3,_⟩:=h a mem_cons_self;obtain ⟨x,e,el,hx⟩:=one ts t3;obtain ⟨S,rfl,hS⟩:=ih fun b hb=>h b (JB _ hb)
   refine ⟨x::S,by rw [map_cons,e],fun c hc=>(Jy hc).elim (fun e=>by
    subst e;exact ⟨fun z=>t2 (List.length_eq_zero_iff.mp (by rw [<-el,z];rfl)),by omega,hx⟩) (hS c)⟩
 obtain ⟨M,eM,hM⟩:=hm ms fun r hr=>let ⟨xs,a,b,_⟩:=g.m r hr;⟨xs,a,b⟩
 obtain ⟨S,eS,hS⟩:=hs ss g.s;subst eM eS;refine ⟨⟨n,os,M,S⟩,⟨g,h1,h24,?_,?_,hS,hM⟩,rfl,rfl⟩
 ·have:=g.lm;simpa using this
 ·have:=g.ls;simpa using this
noncomputable def knd:List Wr:=[.mark,.mark,.not,.and,.su,.au,.sn,.an,.sa,.aa,.or,.yes]
noncomputable abbrev Dp:D:=.list (knd.map fun a=>.str a.t)
theorem AV {i:Int} (h0:0<=i) (h1:i<12):∃a:Wr,fu (knd.map fun a=>PyData.str a.t) i=some (.str a.t):=by
 have hl:i.toNat<knd.length:=by show i.toNat<12;omega
 obtain ⟨j,hj⟩:∃j:Nat,i=(j:Int):=⟨i.toNat,by omega⟩
 subst hj;rw [Int.toNat_natCast] at hl;refine ⟨knd[j],BQ ?_⟩
 rw [getElem?_map,Jz hl];rfl
@[simp] theorem Bc (a:Wr):bK false (.str a.t) (.tuple [.str "and",.str "or",.str "some until",.str "all until"])=some (.bool (decide (a=.and\/a=.or\/a=.su\/a=.au))):=by cases a<;>kernel_rfl
theorem nW {k:Int} (h0:0<=k) (h1:k<3):∃c:Nat,fu (Str.ofString "abc").cps.toList k=some c/\(⟨#[c]⟩:Str)∈fK:=by
 rw [qF];have:k=0\/k=1\/k=2:=by omega
 rcases this with rfl | rfl | rfl
 ·exact ⟨97,rfl,by decide +kernel⟩
 ·exact ⟨98,rfl,by decide +kernel⟩
 ·exact ⟨99,rfl,by decide +kernel⟩
theorem FF {n:Nat} {k:Int} (h0:-(n:Int)<=k) (h1:k<n):∃j,j<n/\fq n k=some j:=by
 unfold fq;by_cases h:0<=k
 ·exact ⟨k.toNat,by omega,by rw [if_pos h,if_pos h1]⟩
 ·exact ⟨(k+n).toNat,by omega,by rw [if_neg h,if_pos h0]⟩
noncomputable abbrev GS (xs:List D) (at' many:Int) (made:List Sn) (x5 x6 x7 x8 x9:Option PV):Ev:=[JJ (.list xs),JJ (.int at'),JJ (.int many),JJ Dp,some ⟨.lst .leaf,fY made⟩,x5,x6,x7,x8,x9]
structure Mad (made:List Sn):Prop where
 ne:0<made.length
 ok:∀s∈made,s.ok
 dp:∀s∈made,s.dep<=made.length
theorem Mad.snoc {made:List Sn} (h:Mad made) {s:Sn} (hs:s.ok) (hd:s.dep<=made.length+1):Mad (made++[s]):=by
 refine ⟨by simp,fun t ht=>?_,fun t ht=>?_⟩
 ·rcases Jx ht with z | z
  ·exact h.ok t z
  ·rw [List.mem_singleton.mp z];exact hs
 ·rw [length_append,length_singleton]
  rcases Jx ht with z | z
  ·have:=h.dp t z;omega
  ·rw [List.mem_singleton.mp z];exact hd
theorem Mad.at {made:List Sn} {j:Nat} (hj:j<made.length):∃s∈made,(made.map Sn.enc)[j]?=some s.enc:=⟨made[j],getElem_mem _,by rw [getElem?_map,Jz hj];rfl⟩
theorem qO {xs:List D} (hx:gu xs) {at' many:Int} (ha:0<=at') {made:List Sn} (hM:Mad made) (hl:made.length<=100) {k:Nat} {x6 x7 x8 x9:Option PV} :
  ∃s y6 y7 y8 y9,(aq (ay false 6 (ag 2 az (ab (ae 0) (ab (aw aR (ae 1) (ae 5)) af))))
  (aq (ay false 7 (ai (ae 3) (ag 3 av (ab (ae 6) (ab (eK (.int 0)) (ab (eK (.int 12)) af))))))
  (aq (ay false 8 (d7 4 (aw gSub (eU nr (eK (.int 1))) (aw bH (ag 3 av (ab (ae 6) (ab (eK (.int 1)) (ab (eK (.int 2)) af)))) (bt aQ (ab (ae 4) af))))))
  (aq (ay false 9 (d7 4 (aw bH (ag 3 av (ab (ae 6) (ab (eK (.int 2)) (ab (eK (.int 60)) af)))) (bt aQ (ab (ae 4) af)))))
  (bL (aF ah (aw bD (ae 7) (eK (.str "yes")))) (aE 4 (bJ (ab (eK (.str "yes")) af))) (bL (aF ah (aw bD (ae 7) (eK (.str "mark")))) (aE 4 (bJ (ab (eK (.str "mark")) (ab (ai (eK (.str "abc")) (ag 3 av (ab (ae 6) (ab (eK (.int 3)) (ab (eK (.int 3)) af))))) af)))) (bL (aF ah (aw (bK false) (ae 7) (bJ (ab (eK (.str "and")) (ab (eK (.str "or")) (ab (eK (.str "some until")) (ab (eK (.str "all until")) af))))))) (aE 4 (bJ (ab (ae 7) (ab (ae 9) (ab (ae 8) af))))) (aE 4 (bJ (ab (ae 7) (ab (ae 8) af)))))))))))
   (GS xs at' many made (JJ (.int (1+(k:Int)))) x6 x7 x8 x9)=.nx (GS xs at' many (made++[s]) (JJ (.int (1+(k:Int)))) y6 y7 y8 y9)/\Mad (made++[s]):=by
 obtain ⟨c,hc⟩:=B1 hx (k:=at'+(1+(k:Int))) (by omega)
 have d0:=zb (c:=c) (k:=0) (b:=12) (by omega) (by omega) (by omega) (by omega)
 have d1:=zb (c:=c) (k:=1) (b:=2) (by omega) (by omega) (by omega) (by omega)
 have d2:=zb (c:=c) (k:=2) (b:=60) (by omega) (by omega) (by omega) (by omega)
 have d3:=zb (c:=c) (k:=3) (b:=3) (by omega) (by omega) (by omega) (by omega)
 have e0:=vG (c:=c) (k:=0) (b:=12) (by omega) (by omega) (by omega) (by omega)
 have e1:=vG (c:=c) (k:=1) (b:=2) (by omega) (by omega) (by omega) (by omega)
 have e2:=vG (c:=c) (k:=2) (b:=60) (by omega) (by omega) (by omega) (by omega)
 have e3:=vG (c:=c) (k:=3) (b:=3) (by omega) (by omega) (by omega) (by omega)
 obtain ⟨a,ka⟩:=AV d0.1 d0.2;have hn:=hM.ne
 have m1:0<=hE c 1 2 % (made.length:Int):=Int.emod_nonneg _ (by omega)
 have m2:hE c 1 2 % (made.length:Int)<made.length:=Int.emod_lt_of_pos _ (by omega)
 have m3:0<=hE c 2 60 % (made.length:Int):=Int.emod_nonneg _ (by omega)
 have m4:hE c 2 60 % (made.length:Int)<made.length:=Int.emod_lt_of_pos _ (by omega)
 obtain ⟨j1,l1,ix1⟩:=FF (n:=made.length) (k:=-1-hE c 1 2 % (made.length:Int)) (by omega) (by omega)
 obtain ⟨j2,l2,ix2⟩:=FF (n:=made.length) (k:=hE c 2 60 % (made.length:Int)) (by omega) (by omega)
 obtain ⟨one,ho,eo⟩:=Mad.at l1;obtain ⟨oth,ht,et⟩:=Mad.at l2;obtain ⟨mc,em,hmc⟩:=nW d3.1 d3.2;have ho1:=hM.ok one ho
 have ho2:=hM.dp one ho
 have ht1:=hM.ok oth ht
 have ht2:=hM.dp oth ht
 have s1:∀x5 x6 x7 x8 x9:Option PV,x5=some ⟨.leaf,.int (1+(k:Int))⟩->ay false 6 (ag 2 az (ab (ae 0) (ab (aw aR (ae 1) (ae 5)) af))) (GS xs at' many made x5 x6 x7 x8 x9)=.nx (GS xs at' many made x5 (JJ (.int c)) x7 x8 x9):=fun x5 x6 x7 x8 x9 h5=>by
  subst h5;simp [hc]
 have s2:∀x5 x7 x8 x9:Option PV,ay false 7 (ai (ae 3) (ag 3 av (ab (ae 6) (ab (eK (.int 0)) (ab (eK (.int 12)) af))))) (GS xs at' many made x5 (JJ (.int c)) x7 x8 x9)=.nx (GS xs at' many made x5 (JJ (.int c)) (JJ (.str a.t)) x8 x9):=fun x5 x7 x8 x9=>by
  simp [e0,ka]
 have s3:∀x5 x7 x8 x9:Option PV,ay false 8 (d7 4 (aw gSub (eU nr (eK (.int 1))) (aw bH (ag 3 av (ab (ae 6) (ab (eK (.int 1)) (ab (eK (.int 2)) af)))) (bt aQ (ab (ae 4) af))))) (GS xs at' many made x5 (JJ (.int c)) x7 x8 x9)=.nx (GS xs at' many made x5 (JJ (.int c)) x7 (JJ one.enc) x9):=fun x5 x7 x8 x9=>by
  have:=FT (i:=4) (j:=j1) (Γ:=GS xs at' many made x5 (JJ (.int c)) x7 x8 x9) (ds:=made.map Sn.enc) (d:=one.enc) (s:=.leaf) (k:=-1-hE c 1 2 % (made.length:Int)) (fb:=(aw gSub (eU nr (eK (.int 1))) (aw bH (ag 3 av (ab (ae 6) (ab (eK (.int 1)) (ab (eK (.int 2)) af)))) (bt aQ (ab (ae 4) af))))) rfl
   (aN (Ii aW rfl) (aN (cG (aD (aC rfl) (aD aW (aD aW ao))) e1 rfl rfl) (b7 (aD (yt rfl) ao) rfl) (by show bH (.int _) (.int _)=_;rw [length_map,dG (by omega)])) rfl) (by rw [length_map];exact ix1) eo
  rw [jc,this];simp
 have s4:∀x5 x7 x8 x9:Option PV,ay false 9 (d7 4 (aw bH (ag 3 av (ab (ae 6) (ab (eK (.int 2)) (ab (eK (.int 60)) af)))) (bt aQ (ab (ae 4) af)))) (GS xs at' many made x5 (JJ (.int c)) x7 x8 x9)=.nx (GS xs at' many made x5 (JJ (.int c)) x7 x8 (JJ oth.enc)):=fun x5 x7 x8 x9=>by
  have:=FT (i:=4) (j:=j2) (Γ:=GS xs at' many made x5 (JJ (.int c)) x7 x8 x9) (ds:=made.map Sn.enc) (d:=oth.enc) (s:=.leaf) (k:=hE c 2 60 % (made.length:Int)) (fb:=(aw bH (ag 3 av (ab (ae 6) (ab (eK (.int 2)) (ab (eK (.int 60)) af)))) (bt aQ (ab (ae 4) af)))) rfl
   (aN (cG (aD (aC rfl) (aD aW (aD aW ao))) e2 rfl rfl) (b7 (aD (yt rfl) ao) rfl) (by show bH (.int _) (.int _)=_;rw [length_map,dG (by omega)])) (by rw [length_map];exact ix2) et
  rw [jc,this];simp
 have ap:∀{f:F1} {s:Sn} {sh:Sh} {x5:Option PV},f (GS xs at' many made x5 (JJ (.int c)) (JJ (.str a.t)) (JJ one.enc) (JJ oth.enc))=.ok ⟨sh,s.enc⟩ (GS xs at' many made x5 (JJ (.int c)) (JJ (.str a.t)) (JJ one.enc) (JJ oth.enc))->coer .leaf ⟨sh,s.enc⟩=true ->
   aE 4 f (GS xs at' many made x5 (JJ (.int c)) (JJ (.str a.t)) (JJ one.enc) (JJ oth.enc))=.nx (GS xs at' many (made++[s]) x5 (JJ (.int c)) (JJ (.str a.t)) (JJ one.enc) (JJ oth.enc)):=fun {f s sh x5} h hco=>by
  rw [D9 (ds:=made.map Sn.enc) rfl h hco (by rw [length_map];omega)]
  simp [fY]
 have fin:∀{s:Sn},s.ok->s.dep<=made.length+1->(bL (aF ah (aw bD (ae 7) (eK (.str "yes")))) (aE 4 (bJ (ab (eK (.str "yes")) af))) (bL (aF ah (aw bD (ae 7) (eK (.str "mark")))) (aE 4 (bJ (ab (eK (.str "mark")) (ab (ai (eK (.str "abc")) (ag 3 av (ab (ae 6) (ab (eK (.int 3)) (ab (eK (.int 3)) af))))) af)))) (bL (aF ah (aw (bK false) (ae 7) (bJ (ab (eK (.str "and")) (ab (eK (.str "or")) (ab (eK (.str "some until")) (ab (eK (.str "all until")) af))))))) (aE 4 (bJ (ab (ae 7) (ab (ae 9) (ab (ae 8) af))))) (aE 4 (bJ (ab (ae 7) (ab (ae 8) af)))))))
   (GS xs at' many made (JJ (.int (1+(k:Int)))) (JJ (.int c)) (JJ (.str a.t)) (JJ one.enc) (JJ oth.enc))=.nx (GS xs at' many (made++[s]) (JJ (.int (1+(k:Int)))) (JJ (.int c)) (JJ (.str a.t)) (JJ one.enc) (JJ oth.enc)) ->
   ∃s y6 y7 y8 y9,(aq (ay false 6 (ag 2 az (ab (ae 0) (ab (aw aR (ae 1) (ae 5)) af))))
  (aq (ay false 7 (ai (ae 3) (ag 3 av (ab (ae 6) (ab (eK (.int 0)) (ab (eK (.int 12)) af))))))
  (aq (ay false 8 (d7 4 (aw gSub (eU nr (eK (.int 1))) (aw bH (ag 3 av (ab (ae 6) (ab (eK (.int 1)) (ab (eK (.int 2)) af)))) (bt aQ (ab (ae 4) af))))))
  (aq (ay false 9 (d7 4 (aw bH (ag 3 av (ab (ae 6) (ab (eK (.int 2)) (ab (eK (.int 60)) af)))) (bt aQ (ab (ae 4) af)))))
  (bL (aF ah (aw bD (ae 7) (eK (.str "yes")))) (aE 4 (bJ (ab (eK (.str "yes")) af))) (bL (aF ah (aw bD (ae 7) (eK (.str "mark")))) (aE 4 (bJ (ab (eK (.str "mark")) (ab (ai (eK (.str "abc")) (ag 3 av (ab (ae 6) (ab (eK (.int 3)) (ab (eK (.int 3)) af))))) af)))) (bL (aF ah (aw (bK false) (ae 7) (bJ (ab (eK (.str "and")) (ab (eK (.str "or")) (ab (eK (.str "some until")) (ab (eK (.str "all until")) af))))))) (aE 4 (bJ (ab (ae 7) (ab (ae 9) (ab (ae 8) af))))) (aE 4 (bJ (ab (ae 7) (ab (ae 8) af)))))))))))
   (GS xs at' many made (JJ (.int (1+(k:Int)))) x6 x7 x8 x9)=.nx (GS xs at' many (made++[s]) (JJ (.int (1+(k:Int)))) y6 y7 y8 y9)/\Mad (made++[s]):=fun {s} h1 h2 h3=>
  ⟨s,_,_,_,_,aB (s1 _ _ _ _ _ rfl) (aB (s2 _ _ _ _) (aB (s3 _ _ _ _) (aB (s4 _ _ _ _) h3))),hM.snoc h1 h2⟩
 have tw:∀{b:Wr},a=b->(GS xs at' many made (JJ (.int (1+(k:Int)))) (JJ (.int c)) (JJ (.str a.t)) (JJ one.enc) (JJ oth.enc))[7]?=some (JJ (.str b.t)):=fun h=>by rw [<-h];rfl
 have ty:∀{t:Bool},decide (a=.yes)=t->aF ah (aw bD (ae 7) (eK (.str "yes"))) (GS xs at' many made (JJ (.int (1+(k:Int)))) (JJ (.int c)) (JJ (.str a.t)) (JJ one.enc) (JJ oth.enc))=.ok t (GS xs at' many made (JJ (.int (1+(k:Int)))) (JJ (.int c)) (JJ (.str a.t)) (JJ one.enc) (JJ oth.enc)):=fun h=>by
  rw [<-h];exact eB (aN (aC rfl) aW (Cf a))
 have tm:∀{t:Bool},decide (a=.mark)=t->aF ah (aw bD (ae 7) (eK (.str "mark"))) (GS xs at' many made (JJ (.int (1+(k:Int)))) (JJ (.int c)) (JJ (.str a.t)) (JJ one.enc) (JJ oth.enc))=.ok t (GS xs at' many made (JJ (.int (1+(k:Int)))) (JJ (.int c)) (JJ (.str a.t)) (JJ one.enc) (JJ oth.enc)):=fun h=>by
  rw [<-h];exact eB (aN (aC rfl) aW (Em a))
 have tb:∀{t:Bool},decide (a=.and\/a=.or\/a=.su\/a=.au)=t->aF ah (aw (bK false) (ae 7) (bJ (ab (eK (.str "and")) (ab (eK (.str "or")) (ab (eK (.str "some until")) (ab (eK (.str "all until")) af)))))) (GS xs at' many made (JJ (.int (1+(k:Int)))) (JJ (.int c)) (JJ (.str a.t)) (JJ one.enc) (JJ oth.enc))=.ok t (GS xs at' many made (JJ (.int (1+(k:Int)))) (JJ (.int c)) (JJ (.str a.t)) (JJ one.enc) (JJ oth.enc)):=fun h=>by
  rw [<-h];exact eB (aN (aC rfl) (dm (aD aW (aD aW (aD aW (aD aW ao)))) rfl rfl) (Bc a))
 have uni:∀u:U5,a=u.w->_:=fun u hu=>fin (s:=.un u one) ho1 (by show one.dep+1<=_;omega)
  (bq (ty (t:=false) (by rw [hu];cases u<;>rfl)) nofun fun _=>bq (tm (t:=false) (by rw [hu];cases u<;>rfl)) nofun fun _=>bq (tb (t:=false) (by rw [hu];cases u<;>rfl)) nofun fun _=>
   ap (sh:=.tup [.leaf,.leaf]) (by rw [show (Sn.un u one).enc=.tuple [.str u.w.t,one.enc] from rfl,<-hu];exact dm (aD (aC rfl) (aD (aC rfl) ao)) rfl rfl) rfl)
 have bin:∀u:B4,a=u.w->_:=fun u hu=>fin (s:=.bi u oth one) ⟨ht1,ho1⟩ (by show max oth.dep one.dep+1<=_;omega)
  (bq (ty (t:=false) (by rw [hu];cases u<;>rfl)) nofun fun _=>bq (tm (t:=false) (by rw [hu];cases u<;>rfl)) nofun fun _=>bq (tb (t:=true) (by rw [hu];cases u<;>rfl)) (fun _=>
   ap (sh:=.tup [.leaf,.leaf,.leaf]) (by rw [show (Sn.bi u oth one).enc=.tuple [.str u.w.t,oth.enc,one.enc] from rfl,<-hu];exact dm (aD (aC rfl) (aD (aC rfl) (aD (aC rfl) ao))) rfl rfl) rfl) nofun)
 have hyes:a=.yes->_:=fun hu=>fin (s:=.yes) trivial (by show 1<=_;omega) (bq (ty (t:=true) (by rw [hu];rfl)) (fun _=>ap (s:=.yes) (sh:=.tup [.leaf]) (dm (aD aW ao) rfl rfl) rfl) nofun)
 have hmark:a=.mark->_:=fun hu=>fin (s:=.mk ⟨#[mc]⟩) hmc (by show 1<=_;omega) (bq (ty (t:=false) (by rw [hu];rfl)) nofun fun _=>bq (tm (t:=true) (by rw [hu];rfl)) (fun _=>
  ap (s:=.mk ⟨#[mc]⟩) (sh:=.tup [.leaf,.leaf]) (dm (aD aW (aD (FU aW (cG (aD (aC rfl) (aD aW (aD aW ao))) e3 rfl rfl) Fy em) ao)) rfl rfl) rfl) nofun)
 cases ea:a with
 | yes=>exact hyes ea
 | mark=>exact hmark ea
 | not=>exact uni .not ea
 | sn=>exact uni .sn ea
 | an=>exact uni .an ea
 | sa=>exact uni .sa ea
 | aa=>exact uni .aa ea
 | and=>exact bin .and ea
 | or=>exact bin .or ea
 | su=>exact bin .su ea
 | au=>exact bin .au ea
theorem lB {xs:List D} (hx:gu xs) {at' many:Int} (ha:0<=at') (h1:1<=many) (h2:many<=20):∃s:Sn,cA [.list xs,.int at',.int many]=.ok ⟨.leaf,s.enc⟩/\s.ok/\(s.dep:Int)<=many:=by
 obtain ⟨c,hc⟩:=B1 hx (k:=at') ha
 have d3:=zb (c:=c) (k:=3) (b:=3) (by omega) (by omega) (by omega) (by omega)
 have e3:=vG (c:=c) (k:=3) (b:=3) (by omega) (by omega) (by omega) (by omega)
 obtain ⟨mc,em,hmc⟩:=nW d3.1 d3.2;obtain ⟨Γ',e,made,x5,x6,x7,x8,x9,rfl,hM,hl⟩:=zg (fun k:Nat=>PyData.int (1+(k:Int))) (i:=5) (body:=_) (Inv:=fun r Γ=>∃made x5 x6 x7 x8 x9,Γ=GS xs at' many made x5 x6 x7 x8 x9/\Mad made/\made.length+r.length=1+(many-1).toNat) (fun k r Γ ⟨made,x5,x6,x7,x8,x9,hΓ,hM,hl⟩=>by
   subst hΓ;simp only [length_cons] at hl
   obtain ⟨s,y6,y7,y8,y9,e,hM'⟩:=qO hx (many:=many) ha hM (by omega) (k:=k) (x6:=x6) (x7:=x7) (x8:=x8) (x9:=x9)
   exact ⟨by simp,_,e,made++[s],_,_,_,_,_,rfl,hM',by rw [length_append,length_singleton];omega⟩) (List.range (many-1).toNat) (GS xs at' many [.mk ⟨#[mc]⟩] none none none none none) ⟨_,_,_,_,_,_,rfl,⟨by simp,by simpa [Sn.ok] using hmc,by simp [Sn.dep]⟩,by simp⟩
 have hn:=hM.ne
 obtain ⟨j,lj,ixj⟩:=FF (n:=made.length) (k:=-1) (by omega) (by omega)
 obtain ⟨s,hs,es⟩:=Mad.at lj;refine ⟨s,?_,hM.ok s hs,?_⟩
 ·have k0:Dp=.list ([.str "mark",.str "mark",.str "not",.str "and",.str "some until",.str "all until",.str "some next",.str "all next",.str "some always"]++[.str "all always",.str "or",.str "yes"]):=rfl
  refine aV (aB (dq (pN (s:=.leaf) (aD aW (aD aW (aD aW (aD aW (aD aW (aD aW (aD aW (aD aW (aD aW ao))))))))) rfl rfl rfl) rfl (by simp [ak])) (aB (dq (yu (aC rfl) (pN (s:=.leaf) (aD aW (aD aW (aD aW ao))) rfl rfl rfl) rfl rfl (by simp)) rfl (by simp [ak]))
   (aB (Cj (pN (s:=.leaf) (aD (dm (aD aW (aD (FU aW (cG (aD (cG (aD (aC rfl) (aD (aC rfl) ao)) hc rfl rfl) (aD aW (aD aW ao))) e3 rfl rfl) Fy em) ao)) rfl rfl) ao) rfl rfl rfl) rfl (by simp [ak]))
   (aB (ff (Cy (aD aW (aD (aC rfl) ao)) rfl (by omega) (by omega) (by omega) (by omega)) e)
   (bj (FT (s:=.leaf) (k:=-1) (j:=j) (ds:=made.map Sn.enc) rfl (Ii aW rfl) (by rw [length_map];exact ixj) es) rfl)))))
 ·have:=hM.dp s hs
  simp only [length_nil] at hl
  omega
theorem Ey (l:List Int):intsOf (l.map .int)=some l:=by
 induction l with
 | nil=>rfl
 | cons a r ih=>rw [map_cons,intsOf,ih];rfl
theorem isT (s:Sn):iL (pU s.enc) "tuple"=true:=by cases s<;>rfl
theorem Cm {s a:Sn} (h:a∈s.args):a.dep+1<=s.dep:=by
 cases s with
 | yes=>simp [Sn.args] at h
 | mk c=>simp [Sn.args] at h
 | un k b=>simp [Sn.args] at h;subst h;simp [Sn.dep]
 | bi k b c=>
  simp [Sn.args] at h
  simp only [Sn.dep]
  rcases h with rfl | rfl<;>omega
theorem kD:∀(n:Nat) (s:Sn),s.dep<=n->bu n [s.enc]=.ok ⟨.leaf,.int (s.size:Int)⟩
 | 0,s,h=>by
  have:=s.dep_args
  omega
 | n+1,s,h=>by
  show aI 2 (dA (bu n)) [s.enc]=_
  refine aV ?_
  have fin:∀l:List Int,ax .leaf 1 (dJ (ig (ae 0) (eK (.int 1)))) (aF bh (dO "tuple" (ae 1))) (ag 1 (bu n) (ab (ae 1) af)) (ak 2 [s.enc])=.ok ⟨.lst .leaf,.list (l.map .int)⟩ (ak 2 [s.enc])->1+l.sum=(s.size:Int)->dA (bu n) (ak 2 [s.enc])=.rt ⟨.leaf,.int (s.size:Int)⟩:=fun l e hl=>by
   refine bj (aN aW (b7 (aD e ao) (by show rF [.list _]=_;simp only [rF,Ey];rfl)) ?_) rfl
   show aR (.int 1) (.int l.sum)=_
   rw [pI,hl]
  have gen:(∃x,s.enc=.tuple (x::s.args.map Sn.enc))->dA (bu n) (ak 2 [s.enc])=.rt ⟨.leaf,.int (s.size:Int)⟩:=fun ⟨x,ex⟩=>by
   refine fin (s.args.map fun a=>(a.size:Int)) ?_ ?_
   ·have z:(1:Int)<=(s.args.length:Int)+1:=by omega
    have:=sq Sn.enc s.args (fun _=>true) (fun a=>⟨.leaf,.int (a.size:Int)⟩) (s:=.leaf) (i:=1) (fi:=dJ (ig (ae 0) (eK (.int 1)))) (fc:=aF bh (dO "tuple" (ae 1))) (fe:=ag 1 (bu n) (ab (ae 1) af)) (st:=true) (Γ:=ak 2 [s.enc]) (by simp [ak,ex,z]) (by simp [ak]) rfl (by have:=s.args_le;omega) (fun a ha=>by simp [ak,isT]) (fun a ha _=>by
     have:=kD n a (by have:=Cm ha;omega)
     simp [ak,this])
    rw [this,List.filter_eq_self.mpr fun _ _=>rfl,map_map]
    rfl
   ·have:=s.args_sz
    have e2:(s.args.map fun a=>(a.size:Int)).sum=((jN s.args:Nat):Int):=by
     unfold jN;generalize s.args=l
     induction l with
     | nil=>rfl
     | cons a r ih=>simp only [map_cons,sum_cons,ih];omega
    rw [e2];omega
  cases s with
  | yes=>exact gen ⟨_,rfl⟩
  | un k a=>exact gen ⟨_,rfl⟩
  | bi k a b=>exact gen ⟨_,rfl⟩
  | mk c=>
   refine fin [] ?_ (by simp [Sn.size])
   have:=sq (fun x:Str=>PyData.str x) [c] (fun _=>false) (fun _=>⟨.leaf,.none⟩) (s:=.leaf) (i:=1) (fi:=dJ (ig (ae 0) (eK (.int 1)))) (fc:=aF bh (dO "tuple" (ae 1))) (fe:=ag 1 (bu n) (ab (ae 1) af)) (st:=true) (Γ:=ak 2 [(Sn.mk c).enc]) (by simp [ak,Sn.enc]) (by simp [ak]) rfl (by simp) (fun a ha=>by simp [ak,iL,pU]) (fun a ha z=>by cases z)
   simpa using this
end KC
namespace KQ
open PySem PySem.Spec L2 T PySem.SeqAt KC
open PyProof.Rows hiding St
noncomputable def d__law_world:FS:=(aq (ay false 3 (aw aR (eK (.int 1)) (aw bH (ag 2 az (ab (ae 0) (ab (ae 1) af))) (ae 2))))
  (aq (ay true 4 (bb .leaf af))
  (aq (ay true 5 (bb .leaf af))
  (aq (ay true 6 (bb .leaf af))
  (aq (dW 7 (eO (ab (ae 3) af))
  (aq (ay false 8 (ag 2 az (ab (ae 0) (ab (aw aR (aw aR (ae 1) (eK (.int 1))) (ae 7)) af))))
  (aq (aE 4 (ag 3 av (ab (ae 8) (ab (eK (.int 0)) (ab (eK (.int 2)) af)))))
  (aq (aE 5 (ax .leaf 11 (yK "abc") (aF ah (aw bD (ag 3 av (ab (ae 8) (ab (aw aR (eK (.int 1)) (bt (yP "abc") (ab (ae 11) af))) (ab (eK (.int 2)) af)))) (eK (.int 1)))) (ae 11)))
  (aq (ay false 9 (ax .leaf 10 (eO (ab (ae 3) af)) (aF ah (aw bD (ag 3 av (ab (ae 8) (ab (aw aR (eK (.int 4)) (ae 10)) (ab (aw aR (eK (.int 2)) (bt oX (ab (aw jw (ae 3) (eK (.int 3))) af))) af)))) (eK (.int 1)))) (ae 10)))
  (aq (bL (aF ah (aw bD (ae 9) (bb .leaf af))) (ay false 9 (bb .leaf (ab (ag 3 av (ab (ae 8) (ab (aw aR (eK (.int 4)) (ae 3)) (ab (ae 3) af)))) af))) aG)
  (aE 6 (ae 9))))))))
  (aL (bJ (ab (cM 4) (ab (cM 5) (ab (cM 6) af))))))))))
noncomputable def m__law_world:List JI->b4:=aI 12 d__law_world
noncomputable abbrev eW:FS:=(aq (ay false 8 (ag 2 az (ab (ae 0) (ab (aw aR (aw aR (ae 1) (eK (.int 1))) (ae 7)) af))))
  (aq (aE 4 (ag 3 av (ab (ae 8) (ab (eK (.int 0)) (ab (eK (.int 2)) af)))))
  (aq (aE 5 (ax .leaf 11 (yK "abc") (aF ah (aw bD (ag 3 av (ab (ae 8) (ab (aw aR (eK (.int 1)) (bt (yP "abc") (ab (ae 11) af))) (ab (eK (.int 2)) af)))) (eK (.int 1)))) (ae 11)))
  (aq (ay false 9 (ax .leaf 10 (eO (ab (ae 3) af)) (aF ah (aw bD (ag 3 av (ab (ae 8) (ab (aw aR (eK (.int 4)) (ae 10)) (ab (aw aR (eK (.int 2)) (bt oX (ab (aw jw (ae 3) (eK (.int 3))) af))) af)))) (eK (.int 1)))) (ae 10)))
  (aq (bL (aF ah (aw bD (ae 9) (bb .leaf af))) (ay false 9 (bb .leaf (ab (ag 3 av (ab (ae 8) (ab (aw aR (eK (.int 4)) (ae 3)) (ab (ae 3) af)))) af))) aG)
  (aE 6 (ae 9)))))))
end KQ
namespace KC
open PySem PySem.Spec L2 T
open PyProof.Rows hiding St
noncomputable def eZ:FS:=(aL (eY (aw (cu true) (ae 0) (eK .none)) (eY (aw (cu true) (ae 1) (eK .none)) (aw jv (ae 0) (ae 1)))))
noncomputable def dH:List JI->b4:=aI 2 eZ
open PySem.SeqAt
theorem vk {n:Nat} {fl:FL} {Γ:Ev} {s:Sh} (hn:n<=1000) (h:fl Γ=.ok [⟨s,.int (n:Int)⟩] Γ):eO fl Γ=.ok ⟨(List.range n).map rm,true⟩ Γ:=by
 rw [iF (k:=(n:Int)) h rfl (by omega) (by omega),Int.toNat_natCast,BZ]
theorem Eh {r:List Nat}:r.map rm=(r.map fun t:Nat=>(t:Int)).map PyData.int:=by rw [map_map];rfl
noncomputable def Jl (p:Int):D->Bool
 | .int o=>o==p
 | _=>false
noncomputable def own (w:Wd) (p:Int):Nat->Bool:=iU (w.os.map (Jl p))
noncomputable def ic:Option Nat->Option Nat->Bool
 | some a,some b=>decide (a<b)
 | _,_=>false
theorem rP {a b:Option Nat}:dH [oD a,oD b]=.ok ⟨.leaf,.bool (ic a b)⟩:=by
 refine aV ?_
 cases a with
 | none=>simp [eZ,ak,oD,ic,bP]
 | some a=>
  cases b with
  | none=>simp [eZ,ak,oD,ic,bP]
  | some b=>simp [eZ,ak,oD,ic,bP]
end KC
namespace T
open PySem PySem.Spec L2
open PyProof.Rows hiding St
theorem boot_zip:bootBuiltins "zip"=some (.type "zip"):=by decide +kernel
noncomputable def cX (i j:Nat) (fc:FB) (fe:F1) (s:Sh):List (JI×JI)->Ev->List JI->Out (List JI)
 | [],Γ,acc=>.ok acc Γ
 | (d,d2)::r,Γ,acc=>match fc ((Γ.set i (JJ d)).set j (JJ d2)) with
  | .ok true Γ1=>(match fe Γ1 with
   | .ok p Γ2=>if T.coer s p&&decide (acc.length<sizeLine) then cX i j fc fe s r ((Γ2.set i none).set j none) (acc++[p.d]) else .no
   | _=>.no)
  | .ok false Γ1=>if acc.length<sizeLine then cX i j fc fe s r ((Γ1.set i none).set j none) acc else .no
  | _=>.no
end T
namespace KC
open PySem PySem.Spec L2 T PySem.SeqAt
open PyProof.Rows hiding St
noncomputable def Wd.inn (w:Wd) (L:List Nat):Wd:=⟨w.n,w.os,w.m,w.s.map fun row=>row.filter fun t=>L.contains t⟩
noncomputable abbrev gl (T L:List Nat):List Nat:=L.filter fun r=>T.contains r
noncomputable abbrev lst (rk:List (Option Nat)) (L:List Nat):List Nat:=L.filter fun r=>(aX rk r).isNone
noncomputable def EI (tn:List (Option (Nat×Nat))) (t:Nat):Option (Nat×Nat):=tn.getD t none
noncomputable def Ie (tn:List (Option (Nat×Nat))) (a b t:Nat):Prop:=∃a' b',EI tn t=some (a',b')/\(a'<a\/(a'=a/\(b'<b\/(b=0/\b'=0))))
structure TS where
 tn:List (Option (Nat×Nat))
 L:List Nat
 k:Nat
 lost:List Nat
 x7:Option PV
 x8:Option PV
structure TI (w:Wd) (p:Int) (T:List Nat) (b:TS):Prop where
 len:b.tn.length=w.n
 std:IZ w.n b.L
 mem:∀r,r<w.n->(r∈b.L↔EI b.tn r=none)
 c:∀r∈b.L,led (own w p r) (w.stp r) (·∈b.L)
 big:∀X,H0 w.n w.stp (own w p) (·∈T) X->∀r,X r->r∈b.L
 los:∃rk,pE w.n (inn w.stp b.L) (own w p) b.L (gl T b.L) rk/\b.lost=lst rk b.L
 tk:∀r a j,EI b.tn r=some (a,j)->a<b.k
 td:∀r a j,r<w.n->EI b.tn r=some (a,j)->(j=0->r∉T)/\led (!own w p r) (w.stp r) (Ie b.tn a j)
theorem v_or {Γ:Ev} {fa fb:F1} {s:Sh} {a b:Bool} (ha:fa Γ=.ok ⟨s,.bool a⟩ Γ) (hb:fb Γ=.ok ⟨.leaf,.bool b⟩ Γ):xF fa fb Γ=.ok ⟨.leaf,.bool (a||b)⟩ Γ:=by
 unfold xF bf;rw [ha]
 cases a with
 | true=>cases s<;>rfl
 | false=>exact hb
noncomputable abbrev HI (w:Wd) (c:Str) (r:Nat):Prop:=c∈w.mks r
structure DV (w:Wd) (M:List Str) (L off:List Nat):Prop where
 ne:off≠[]
 sub:∀r∈off,r∈L
 no:∀(R:Nat->Prop) X,Fr w.n w.stp R M (HI w) X->(∀r,X r->r∈L)->∀r∈off,¬X r
structure DX (w:Wd) (M:List Str) (L:List Nat):Prop where
 c:∀r∈L,∃t∈w.stp r,t∈L
 a:∀m∈M,∀S:Nat->Prop,(∀r,r∈L->HI w m r->S r)->(∀r,r∈L->(∃t∈w.stp r,t∈L/\S t)->S r)->∀r,r∈L->S r
structure Jt where
 rows:List D
 L:List Nat
 row:D
structure FI (w:Wd) (R:List Nat) (M:List Str) (b:Jt):Prop where
 std:IZ w.n b.L
 sub:∀r∈b.L,r∈R
 cnt:b.rows.length+b.L.length<=w.n
 big:∀X,Fr w.n w.stp (·∈R) M (HI w) X->∀r,X r->r∈b.L
 row:(b.row=.none/\DX w M b.L)\/(∃off o,b.row=.tuple [aA off,o]/\DV w M b.L off)
theorem FK {r:List Nat}:shaped (aA r)=true:=Cn fun a ha=>by
 obtain ⟨t,_,e⟩:=List.mem_map.mp ha;exact ⟨(t:Int),e.symm⟩
theorem Bq {a b:List Nat} (h:a=b):bD (aA a) (aA b)=some (.bool true):=by rw [h];exact uU FK
theorem Fv:∀{n:Nat} {p:List Nat},p.Nodup->(∀x∈p,x<n)->p.length<=n
 | 0,[],_,_=>JH _
 | 0,a::p,_,h=>absurd (h a (by simp)) (Nat.not_lt_zero _)
 | n+1,p,nd,h=>by
  by_cases hn:n∈p
  ·have:=Fv (n:=n) (nd.erase n) fun x hx=>by
    obtain ⟨h1,h2⟩:=nd.mem_erase_iff.mp hx;have:=h x h2
    omega
   rw [List.length_erase_of_mem hn] at this;omega
  ·have:=Fv (n:=n) nd fun x hx=>by
    have h1:=h x hx
    have:x≠n:=fun e=>hn (e▸hx)
    omega
   omega
noncomputable def Wr.ofS (a:Wr):Bool:=decide (a=.sn\/a=.su\/a=.sa)
noncomputable def Wr.ofA (a:Wr):Bool:=decide (a=.an\/a=.au\/a=.aa)
noncomputable def Sn.tm (s:Sn):Bool:=s.w.ofS||s.w.ofA
end KC
namespace KC
open PySem PySem.Spec L2 T
open PyProof.Rows hiding St
noncomputable def iP:FS:=(aq (ay true 3 (bb .leaf af))
  (aq (dW 4 (eO (ab (bt aQ (ab (ai (ae 0) (eK (.int 0))) af)) af))
  (aq (ay false 5 (ax .leaf 6 (aS (ai (ai (ae 0) (eK (.int 2))) (ae 4))) (aF ah (aw (bK false) (ae 6) (ae 1))) (ae 6)))
  (bL (eL (aF ah (aw bD (bt aQ (ab (ae 5) af)) (bt aQ (ab (ai (ai (ae 0) (eK (.int 2))) (ae 4)) af)))) (dB (b6 (aF bh (ae 2))) (aF ah (aw jw (bt aQ (ab (ae 5) af)) (eK (.int 0)))))) (aE 3 (ae 4)) aG)))
  (aL (cM 3))))
noncomputable def bY:List JI->b4:=aI 7 iP
noncomputable def lH:FS:=(aq (ay false 4 (ae 2))
  (aq (dW 5 (eO (ab (bt aQ (ab (ai (ae 0) (eK (.int 0))) af)) af))
  (aq (ay false 6 (ag 3 bY (ab (ae 0) (ab (ae 4) (ab (ae 3) af)))))
  (ay false 4 (dN (ab (nE (ae 2) (ax .leaf 7 (aS (ae 1)) (dB (aF ah (aw (bK false) (ae 7) (ae 6))) (aF ah (aw (bK true) (ae 7) (ae 2)))) (ae 7))) af)))))
  (aL (ae 4))))
noncomputable def dv:List JI->b4:=aI 8 lH
noncomputable def gX (r__law_judge:List JI->b4):FS:=(aq (ay false 2 (xG (ab (bt aQ (ab (ai (ae 0) (eK (.int 0))) af)) af)))
  (aq (ay false 3 (ai (ae 1) (eK (.int 0))))
  (aq (bL (aF ah (aw bD (ae 3) (eK (.str "yes")))) (aL (ae 2)) aG)
  (aq (bL (aF ah (aw bD (ae 3) (eK (.str "mark")))) (aL (ax .leaf 8 (aS (ae 2)) (aF ah (aw (bK false) (ai (ae 1) (eK (.int 1))) (ai (ai (ae 0) (eK (.int 1))) (ae 8)))) (ae 8))) aG)
  (aq (ay false 4 (ag 2 r__law_judge (ab (ae 0) (ab (ai (ae 1) (eK (.int 1))) af))))
  (aq (ay false 5 (ax .leaf 8 (aS (ae 2)) (aF ah (aw (bK true) (ae 8) (ae 4))) (ae 8)))
  (aq (bL (aF ah (aw bD (ae 3) (eK (.str "not")))) (aL (ae 5)) aG)
  (aq (bL (eL (aF ah (aw bD (ae 3) (eK (.str "some next")))) (aF ah (aw bD (ae 3) (eK (.str "all next"))))) (aL (ag 3 bY (ab (ae 0) (ab (ae 4) (ab (aw bD (ae 3) (eK (.str "all next"))) af))))) aG)
  (aq (bL (eL (aF ah (aw bD (ae 3) (eK (.str "some always")))) (aF ah (aw bD (ae 3) (eK (.str "all always"))))) (aq (ay false 7 (ag 4 dv (ab (ae 0) (ab (ae 2) (ab (ae 5) (ab (aw bD (ae 3) (eK (.str "some always"))) af))))))
  (aL (ax .leaf 8 (aS (ae 2)) (aF ah (aw (bK true) (ae 8) (ae 7))) (ae 8)))) aG)
  (aq (ay false 6 (ag 2 r__law_judge (ab (ae 0) (ab (ai (ae 1) (eK (.int 2))) af))))
  (aq (bL (aF ah (aw bD (ae 3) (eK (.str "and")))) (aL (ax .leaf 8 (aS (ae 4)) (aF ah (aw (bK false) (ae 8) (ae 6))) (ae 8))) aG)
  (aq (bL (aF ah (aw bD (ae 3) (eK (.str "or")))) (aL (ax .leaf 8 (aS (ae 2)) (eL (aF ah (aw (bK false) (ae 8) (ae 4))) (aF ah (aw (bK false) (ae 8) (ae 6)))) (ae 8))) aG)
  (aL (ag 4 dv (ab (ae 0) (ab (ae 4) (ab (ae 6) (ab (aw bD (ae 3) (eK (.str "all until"))) af))))))))))))))))))
noncomputable def bM:Nat->List JI->b4
 | 0=>fun _=>.no
 | n+1=>aI 9 (gX (bM n))
noncomputable def cj:List JI->b4:=bM 20
open PySem.SeqAt
noncomputable abbrev bI (w:Wd) (p:Nat->Bool):List Nat:=(List.range w.n).filter p
theorem mem_fil {w:Wd} {p:Nat->Bool} {r:Nat}:r∈bI w p↔r<w.n/\p r=true:=by rw [mem_filter,mem_range]
theorem BW {w:Wd} {p:Nat->Bool} {r:Nat} (hr:r<w.n):(bI w p).contains r=p r:=by
 rw [Bool.eq_iff_iff,contains_iff_mem,mem_fil];exact ⟨fun h=>h.2,fun h=>⟨hr,h⟩⟩
theorem vv {w:Wd} {p q:Nat->Bool} (h:∀r,r<w.n->p r=q r):bI w p=bI w q:=List.filter_congr fun r hr=>h r (List.mem_range.mp hr)
theorem En {w:Wd} {p:Nat->Bool}:(bI w p).length<=w.n:=Nat.le_trans (length_filter_le _ _) (by simp)
theorem o6 {l:List Nat} {p:Nat->Bool}:((l.filter p).length=l.length↔l.all p=true)/\(0<(l.filter p).length↔l.any p=true):=by
 induction l with
 | nil=>simp
 | cons a r ih=>
  have:=length_filter_le p r
  rw [filter_cons]
  cases h:p a with
  | true=>simp only [if_true,length_cons,List.all_cons,List.any_cons,h,Bool.true_and,Bool.true_or,Nat.add_right_cancel_iff];exact ⟨ih.1,by simp⟩
  | false=>simp only [Bool.false_eq_true,if_false,length_cons,List.all_cons,List.any_cons,h,Bool.false_and,Bool.false_or];exact ⟨⟨fun z=>by omega,fun z=>by cases z⟩,ih.2⟩
theorem yT {w:Wd} (ok:w.Ok) {Γ:Ev} (h0:Γ[0]?=some (JJ w.enc)):eO (ab (bt aQ (ab (ai (ae 0) (eK (.int 0))) af)) af) Γ=.ok ⟨(List.range w.n).map rm,true⟩ Γ:=by
 have lo:=ok.g.lo
 have h24:=ok.h24
 refine (iF (k:=(w.n:Int)) (ps:=[⟨.leaf,.int w.n⟩]) ?_ rfl (by omega) (by omega)).trans (by rw [<-BZ];rfl)
 simp [h0,Wd.enc,lo]
theorem GN {w:Wd} (ok:w.Ok) {p:Nat->Bool} {each:Bool}:bY [w.enc,aA (bI w p),.bool each]=.ok ⟨.lst .leaf,aA (bI w fun r=>bR (!each) ((w.stp r).map p))⟩:=by
 have h24:=ok.h24
 obtain ⟨Γ',e,b,x4,x5,rfl,hb⟩:=zg rm (i:=4) (body:=(aq (ay false 5 (ax .leaf 6 (aS (ai (ai (ae 0) (eK (.int 2))) (ae 4))) (aF ah (aw (bK false) (ae 6) (ae 1))) (ae 6)))
  (bL (eL (aF ah (aw bD (bt aQ (ab (ae 5) af)) (bt aQ (ab (ai (ai (ae 0) (eK (.int 2))) (ae 4)) af)))) (dB (b6 (aF bh (ae 2))) (aF ah (aw jw (bt aQ (ab (ae 5) af)) (eK (.int 0)))))) (aE 3 (ae 4)) aG)))
  (Inv:=fun r Γ=>∃b x4 x5,Γ=[JJ w.enc,JJ (aA (bI w p)),JJ (.bool each),some ⟨.lst .leaf,aA b⟩,x4,x5,none]/\∃l,l++r=List.range w.n/\b=l.filter fun r=>bR (!each) ((w.stp r).map p)) (fun r rest Γ ⟨b,x4,x5,hΓ,l,hl,hb⟩=>by
   subst hΓ;have hr:r<w.n:=List.mem_range.mp (by rw [<-hl];simp)
   have hbl:b.length<=24:=by
    rw [hb];refine Nat.le_trans (length_filter_le _ _) ?_
    have:=congrArg List.length hl
    simp at this
    omega
   have a2:=ok.at2 hr
   have c1:ax .leaf 6 (aS (ai (ai (ae 0) (eK (.int 2))) (ae 4))) (aF ah (aw (bK false) (ae 6) (ae 1))) (ae 6) [JJ w.enc,JJ (aA (bI w p)),JJ (.bool each),some ⟨.lst .leaf,aA b⟩,JJ (rm r),x5,none]=.ok ⟨.lst .leaf,aA ((w.stp r).filter p)⟩ [JJ w.enc,JJ (aA (bI w p)),JJ (.bool each),some ⟨.lst .leaf,aA b⟩,JJ (rm r),x5,none]:=by
    have ef:(w.stp r).filter p=(w.stp r).filter fun t=>(bI w p).contains t:=List.filter_congr fun t ht=>(BW (ok.stp_lt ht)).symm
    rw [ef];exact sq rm (w.stp r) (fun t=>(bI w p).contains t) (fun t=>⟨.leaf,rm t⟩) (st:=true) (by simp [Wd.enc,a2]) (by simp) rfl (zf ok) (fun t ht=>by simp [sy]) (fun t ht _=>by simp)
   have fl:=o6 (l:=w.stp r) (p:=p)
   have hne:=ok.stp_ne hr
   have tst:(decide (((w.stp r).filter p).length=(w.stp r).length)||(!each&&decide (0<((w.stp r).filter p).length)))=bR (!each) ((w.stp r).map p):=by
    rw [Bool.eq_iff_iff];simp only [Bool.or_eq_true,Bool.and_eq_true,decide_eq_true_eq,fl.1,fl.2]
    cases each with
    | true=>simp [bR]
    | false=>
     simp only [bR,Bool.not_false,if_true,List.any_map,true_and]
     constructor
     ·rintro (h | h)
      ·obtain ⟨t,ht⟩:=exists_mem_of_ne_nil _ hne
       exact List.any_eq_true.mpr ⟨t,ht,List.all_eq_true.mp h t ht⟩
      ·exact h
     ·exact .inr
   have ap:aE 3 (ae 4) [JJ w.enc,JJ (aA (bI w p)),JJ (.bool each),some ⟨.lst .leaf,aA b⟩,JJ (rm r),JJ (aA ((w.stp r).filter p)),none]=.nx [JJ w.enc,JJ (aA (bI w p)),JJ (.bool each),some ⟨.lst .leaf,.list (b.map rm++[rm r])⟩,JJ (rm r),JJ (aA ((w.stp r).filter p)),none]:=
    D9 rfl (aC rfl) rfl (by simp;omega)
   have tb:(eL (aF ah (aw bD (bt aQ (ab (ae 5) af)) (bt aQ (ab (ai (ai (ae 0) (eK (.int 2))) (ae 4)) af)))) (dB (b6 (aF bh (ae 2))) (aF ah (aw jw (bt aQ (ab (ae 5) af)) (eK (.int 0)))))) [JJ w.enc,JJ (aA (bI w p)),JJ (.bool each),some ⟨.lst .leaf,aA b⟩,JJ (rm r),JJ (aA ((w.stp r).filter p)),none]=.ok (bR (!each) ((w.stp r).map p)) [JJ w.enc,JJ (aA (bI w p)),JJ (.bool each),some ⟨.lst .leaf,aA b⟩,JJ (rm r),JJ (aA ((w.stp r).filter p)),none]:=by
    rw [<-tst];have g:bD (.int (((w.stp r).filter p).map rm).length) (.int ((w.stp r).map rm).length)=some (.bool (decide (((w.stp r).filter p).length=(w.stp r).length))):=by
     rw [eq_int,length_map,length_map];congr 2
     rw [Bool.eq_iff_iff,beq_iff_eq,decide_eq_true_eq];omega
    have g2:jw (.int (((w.stp r).filter p).map rm).length) (.int 0)=some (.bool (decide (0<((w.stp r).filter p).length))):=by
     rw [CZ,length_map];congr 2
     rw [Bool.eq_iff_iff,decide_eq_true_eq,decide_eq_true_eq];omega
    have ix:ai (ai (ae 0) (eK (.int 2))) (ae 4) [JJ w.enc,JJ (aA (bI w p)),JJ (.bool each),some ⟨.lst .leaf,aA b⟩,JJ (rm r),JJ (aA ((w.stp r).filter p)),none]=.ok ⟨.leaf,aA (w.stp r)⟩ [JJ w.enc,JJ (aA (bI w p)),JJ (.bool each),some ⟨.lst .leaf,aA b⟩,JJ (rm r),JJ (aA ((w.stp r).filter p)),none]:=by simp [Wd.enc,a2]
    exact dS (eB (aN (b7 (aD (aC rfl) ao) rfl) (b7 (aD ix ao) rfl) g)) (qD (dU (dg (aC rfl))) (eB (aN (b7 (aD (aC rfl) ao) rfl) aW g2)))
   refine ⟨by simp,?_⟩
   have s1:ay false 5 (ax .leaf 6 (aS (ai (ai (ae 0) (eK (.int 2))) (ae 4))) (aF ah (aw (bK false) (ae 6) (ae 1))) (ae 6)) [JJ w.enc,JJ (aA (bI w p)),JJ (.bool each),some ⟨.lst .leaf,aA b⟩,JJ (rm r),x5,none]=.nx [JJ w.enc,JJ (aA (bI w p)),JJ (.bool each),some ⟨.lst .leaf,aA b⟩,JJ (rm r),JJ (aA ((w.stp r).filter p)),none]:=by rw [jc,c1];simp
   cases ht:bR (!each) ((w.stp r).map p) with
   | false=>
    rw [ht] at tb;refine ⟨_,aB s1 (bq tb nofun (fun _=>rfl)),b,_,_,rfl,l++[r],by rw [append_assoc];exact hl,?_⟩
    rw [List.filter_append,List.filter_cons_of_neg (by rw [ht];simp),hb]
    simp
   | true=>
    rw [ht] at tb;refine ⟨_,aB s1 (bq tb (fun _=>ap) nofun),b++[r],JJ (rm r),JJ (aA ((w.stp r).filter p)),by simp,l++[r],by rw [append_assoc];exact hl,?_⟩
    rw [List.filter_append,hb];simp [ht]) (List.range w.n) [JJ w.enc,JJ (aA (bI w p)),JJ (.bool each),some ⟨.lst .leaf,aA []⟩,none,none,none] ⟨_,_,_,rfl,[],rfl,rfl⟩
 obtain ⟨l,hl,hb⟩:=hb;rw [append_nil] at hl;subst hl hb;exact aV (aB (Cj (pN (s:=.leaf) ao rfl rfl rfl) rfl (by simp [ak])) (aB (ff (yT ok rfl) e) (bj (D7 rfl) rfl)))
noncomputable def cy (w:Wd) (any:Bool) (a b:Nat->Bool):Nat->Nat->Bool
 | 0,r=>b r
 | t+1,r=>b r||(a r&&bR any ((w.stp r).map (cy w any a b t)))
theorem kx {any:Bool} {l:List Nat} {p q:Nat->Bool} (h:∀t∈l,p t=true->q t=true) (hp:bR any (l.map p)=true):bR any (l.map q)=true:=led_iff.mpr (vJ (led_iff.mp hp) h)
theorem pR {w:Wd} {any:Bool} {a b:Nat->Bool}:∀(t r:Nat),cy w any a b t r=true->cy w any a b (t+1) r=true
 | 0,r,h=>by
  have h:b r=true:=h
  simp [cy,h]
 | t+1,r,h=>by
  rw [cy,Bool.or_eq_true,Bool.and_eq_true] at h ⊢;exact h.imp id fun ⟨h1,h2⟩=>⟨h1,kx (fun x _=>pR t x) h2⟩
theorem BB {l:List Nat} {p q:Nat->Bool} (h:∀r∈l,p r=true->q r=true):(l.filter p).length<=(l.filter q).length/\((l.filter q).length<=(l.filter p).length->∀r∈l,q r=true->p r=true):=by
 induction l with
 | nil=>simp
 | cons x r ih=>
  obtain ⟨i1,i2⟩:=ih fun y hy=>h y (JB _ hy)
  have hx:=h x mem_cons_self
  rw [filter_cons,filter_cons]
  cases hp:p x with
  | true=>
   simp only [hx hp,if_true,length_cons]
   refine ⟨by omega,fun z y hy hq=>?_⟩
   rcases Jy hy with rfl | hy
   ·exact hp
   ·exact i2 (by omega) y hy hq
  | false=>
   cases hq:q x with
   | true=>
    simp only [Bool.false_eq_true,if_false,if_true,length_cons]
    refine ⟨by omega,fun z=>by omega⟩
   | false=>
    simp only [Bool.false_eq_true,if_false]
    refine ⟨i1,fun z y hy h'=>?_⟩
    rcases Jy hy with rfl | hy
    ·rw [hq] at h';cases h'
    ·exact i2 z y hy h'
theorem ko {w:Wd} (ok:w.Ok) {any:Bool} {a b:Nat->Bool}:∀r,r<w.n->cy w any a b (w.n+1) r=true->cy w any a b w.n r=true:=by
 have stay:∀t,(∀r,r<w.n->cy w any a b (t+1) r=true->cy w any a b t r=true)->∀r,r<w.n->cy w any a b (t+2) r=true->cy w any a b (t+1) r=true:=fun t h r hr hu=>by
  rw [cy,Bool.or_eq_true,Bool.and_eq_true] at hu ⊢;exact hu.imp id fun ⟨h1,h2⟩=>⟨h1,kx (fun x hx=>h x (ok.stp_lt hx)) h2⟩
 have key:∀t,(∀r,r<w.n->cy w any a b (t+1) r=true->cy w any a b t r=true)\/t+1<=(bI w (cy w any a b (t+1))).length:=fun t=>by
  induction t with
  | zero=>
   by_cases h:∀r,r<w.n->cy w any a b 1 r=true->cy w any a b 0 r=true
   ·exact .inl h
   ·refine .inr ?_
    obtain ⟨r,hr⟩:=Classical.not_forall.mp h;obtain ⟨h1,h2⟩:=Classical.not_imp.mp hr;obtain ⟨h3,_⟩:=Classical.not_imp.mp h2;exact List.length_pos_of_mem (mem_fil.mpr ⟨h1,h3⟩)
  | succ t ih=>
   rcases ih with ih | ih
   ·exact .inl (stay t ih)
   ·obtain ⟨c1,c2⟩:(bI w (cy w any a b (t+1))).length<=(bI w (cy w any a b (t+2))).length/\((bI w (cy w any a b (t+2))).length<=(bI w (cy w any a b (t+1))).length->∀r∈List.range w.n,cy w any a b (t+2) r=true->cy w any a b (t+1) r=true):=BB (l:=List.range w.n) (p:=cy w any a b (t+1)) (q:=cy w any a b (t+2)) fun r _=>pR _ _
    by_cases h:(bI w (cy w any a b (t+2))).length<=(bI w (cy w any a b (t+1))).length
    ·exact .inl fun r hr=>c2 h r (List.mem_range.mpr hr)
    ·refine .inr ?_
     show t+1+1<=(bI w (cy w any a b (t+2))).length
     omega
 rcases key w.n with h | h
 ·exact h
 ·have:=En (w:=w) (p:=cy w any a b (w.n+1))
  omega
theorem D6 {w:Wd} (ok:w.Ok) {any:Bool} {a b:Nat->Bool} {r:Nat} (hr:r<w.n):cy w any a b w.n r=true↔Unt w any (fun t=>a t=true) (fun t=>b t=true) r:=by
 constructor
 ·have:∀t r,cy w any a b t r=true->Unt w any (fun t=>a t=true) (fun t=>b t=true) r:=by
   intro t;induction t with
   | zero=>exact fun r h=>.now h
   | succ t ih=>
    intro r h;rw [cy,Bool.or_eq_true,Bool.and_eq_true] at h;rcases h with h | ⟨h1,h2⟩
    ·exact .now h
    ·exact .of_led h1 (vJ (led_iff.mp h2) fun x _=>ih x)
  exact this _ _
 ·intro h
  have b0:∀t r,b r=true->cy w any a b t r=true:=fun t r h=>by
   cases t<;>simp [cy,h]
  induction h with
  | now q=>exact b0 _ _ q
  | @some r t e hp ht _ ih=>
   refine ko ok r hr ?_
   rw [cy,hp,Bool.true_and,Bool.or_eq_true];exact .inr (led_iff.mpr (by subst e;unfold led;simpa using ⟨t,ht,ih (ok.stp_lt ht)⟩))
  | @all r e hp _ ih=>
   refine ko ok r hr ?_
   rw [cy,hp,Bool.true_and,Bool.or_eq_true];exact .inr (led_iff.mpr (by subst e;unfold led;simpa using fun t ht=>ih t ht (ok.stp_lt ht)))
theorem tj {w:Wd} {l:List Nat} {p:Nat->Bool} (nd:l.Nodup) (h:∀r,r∈l↔r<w.n/\p r=true):PySem.W.sortI (l.map fun t:Nat=>(t:Int))=(bI w p).map fun t:Nat=>(t:Int):=by
 refine (PySem.W.eq_sortI ?_ ?_).symm
 ·refine List.Perm.map _ ?_
  exact (List.perm_ext_iff_of_nodup (List.nodup_range.filter _) nd).mpr fun r=>by rw [h,mem_fil]
 ·rw [pairwise_map]
  exact (List.pairwise_lt_range.filter _).imp fun h=>by omega
theorem Eu {w:Wd} (ok:w.Ok) {a b:Nat->Bool} {each:Bool}:dv [w.enc,aA (bI w a),aA (bI w b),.bool each]=.ok ⟨.leaf,aA (bI w (cy w (!each) a b w.n))⟩:=by
 have h24:=ok.h24
 obtain ⟨Γ',e,x5,x6,rfl,_⟩:=zg rm (i:=5) (body:=(aq (ay false 6 (ag 3 bY (ab (ae 0) (ab (ae 4) (ab (ae 3) af)))))
  (ay false 4 (dN (ab (nE (ae 2) (ax .leaf 7 (aS (ae 1)) (dB (aF ah (aw (bK false) (ae 7) (ae 6))) (aF ah (aw (bK true) (ae 7) (ae 2)))) (ae 7))) af)))))
  (Inv:=fun r Γ=>∃x5 x6,Γ=[JJ w.enc,JJ (aA (bI w a)),JJ (aA (bI w b)),JJ (.bool each),JJ (aA (bI w (cy w (!each) a b (w.n-r.length)))),x5,x6,none]/\r.length<=w.n) (fun r rest Γ ⟨x5,x6,hΓ,hl⟩=>by
   subst hΓ;simp only [length_cons] at hl
   obtain ⟨t,ht⟩:∃t,w.n-rest.length=t+1:=⟨w.n-rest.length-1,by omega⟩
   have ht2:w.n-(r::rest).length=t:=by simp only [length_cons];omega
   rw [ht2];have ds:=GN ok (p:=cy w (!each) a b t) (each:=each)
   refine ⟨by simp,[JJ w.enc,JJ (aA (bI w a)),JJ (aA (bI w b)),JJ (.bool each),JJ (aA (bI w (cy w (!each) a b (t+1)))),JJ (rm r),JJ (aA (bI w fun r=>bR (!each) ((w.stp r).map (cy w (!each) a b t)))),none],?_,_,_,by rw [ht],by omega⟩
   have c1:ax .leaf 7 (aS (ae 1)) (dB (aF ah (aw (bK false) (ae 7) (ae 6))) (aF ah (aw (bK true) (ae 7) (ae 2)))) (ae 7) [JJ w.enc,JJ (aA (bI w a)),JJ (aA (bI w b)),JJ (.bool each),JJ (aA (bI w (cy w (!each) a b t))),JJ (rm r),JJ (aA (bI w fun r=>bR (!each) ((w.stp r).map (cy w (!each) a b t)))),none]
     = .ok ⟨.lst .leaf,aA ((bI w a).filter fun t'=>(bI w fun r=>bR (!each) ((w.stp r).map (cy w (!each) a b t))).contains t'&&!(bI w b).contains t')⟩ [JJ w.enc,JJ (aA (bI w a)),JJ (aA (bI w b)),JJ (.bool each),JJ (aA (bI w (cy w (!each) a b t))),JJ (rm r),JJ (aA (bI w fun r=>bR (!each) ((w.stp r).map (cy w (!each) a b t)))),none]:=by
    refine sq rm (bI w a) _ (fun t=>⟨.leaf,rm t⟩) (st:=true) (by simp) (by simp) rfl (by have:=En (w:=w) (p:=a);omega) (fun t' ht'=>?_) (fun t' ht' _=>by simp)
    exact qD (eB (aN (aC rfl) (aC rfl) sy)) (eB (aN (aC rfl) (aC rfl) zi))
   have so:PySem.W.sortI ((bI w b++(bI w a).filter fun t'=>(bI w fun r=>bR (!each) ((w.stp r).map (cy w (!each) a b t))).contains t'&&!(bI w b).contains t').map fun t:Nat=>(t:Int))=(bI w (cy w (!each) a b (t+1))).map fun t:Nat=>(t:Int):=by
    refine tj ?_ fun r=>?_
    ·refine List.nodup_append.mpr ⟨List.nodup_range.filter _,(List.nodup_range.filter _).filter _,fun x hx y hy e=>?_⟩
     subst e;have:=(List.mem_filter.mp hy).2
     rw [Bool.and_eq_true,Bool.not_eq_true'] at this;rw [List.contains_iff_mem.mpr hx] at this;exact absurd this.2 (by simp)
    ·rw [List.mem_append,mem_fil,mem_filter,mem_fil,cy,Bool.or_eq_true,Bool.and_eq_true,Bool.and_eq_true,Bool.not_eq_true']
     constructor
     ·rintro (⟨h1,h2⟩ | ⟨⟨h1,h2⟩,h3,h4⟩)
      ·exact ⟨h1,.inl h2⟩
      ·rw [BW h1] at h3
       exact ⟨h1,.inr ⟨h2,h3⟩⟩
     ·rintro ⟨h1,h2 | ⟨h2,h3⟩⟩
      ·exact .inl ⟨h1,h2⟩
      ·by_cases hb:b r=true
       ·exact .inl ⟨h1,hb⟩
       ·rw [BW h1,BW h1]
        exact .inr ⟨⟨h1,h2⟩,h3,by simpa using hb⟩
   have l1:=En (w:=w) (p:=b)
   have l2:((bI w a).filter fun t'=>(bI w fun r=>bR (!each) ((w.stp r).map (cy w (!each) a b t))).contains t'&&!(bI w b).contains t').length<=w.n:=Nat.le_trans (length_filter_le _ _) En
   have c2:dN (ab (nE (ae 2) (ax .leaf 7 (aS (ae 1)) (dB (aF ah (aw (bK false) (ae 7) (ae 6))) (aF ah (aw (bK true) (ae 7) (ae 2)))) (ae 7))) af) [JJ w.enc,JJ (aA (bI w a)),JJ (aA (bI w b)),JJ (.bool each),JJ (aA (bI w (cy w (!each) a b t))),JJ (rm r),JJ (aA (bI w fun r=>bR (!each) ((w.stp r).map (cy w (!each) a b t)))),none]
     = .ok ⟨.lst .leaf,aA (bI w (cy w (!each) a b (t+1)))⟩ [JJ w.enc,JJ (aA (bI w a)),JJ (aA (bI w b)),JJ (.bool each),JJ (aA (bI w (cy w (!each) a b t))),JJ (rm r),JJ (aA (bI w fun r=>bR (!each) ((w.stp r).map (cy w (!each) a b t)))),none]:=by
    have ec:=yu (aC (i:=2) (d:=aA (bI w b)) rfl) c1 rfl rfl (by rw [length_map,length_map];omega)
    unfold dN;rw [aD ec ao];simp only [pM,map_cons,map_nil,sortArg]
    rw [<-List.map_append,show (bI w b++(bI w a).filter fun t'=>(bI w fun r=>bR (!each) ((w.stp r).map (cy w (!each) a b t))).contains t'&&!(bI w b).contains t').map rm=((bI w b++(bI w a).filter fun t'=>(bI w fun r=>bR (!each) ((w.stp r).map (cy w (!each) a b t))).contains t'&&!(bI w b).contains t').map fun t:Nat=>(t:Int)).map PyData.int from by rw [map_map];rfl,Ey]
    simp only
    rw [if_pos (by rw [length_map,length_append];omega),so,map_map]
    rfl
   exact aB (dq (cG (aD (aC rfl) (aD (aC rfl) (aD (aC rfl) ao))) ds rfl rfl) rfl (by simp)) (dq c2 rfl (by simp))) (List.range w.n) [JJ w.enc,JJ (aA (bI w a)),JJ (aA (bI w b)),JJ (.bool each),JJ (aA (bI w b)),none,none,none] ⟨none,none,by simp [cy],by simp⟩
 simp only [length_nil,Nat.sub_zero] at e
 exact aV (aB (dq (aC rfl) rfl (by simp [ak])) (aB (ff (yT ok rfl) e) (bj (aC rfl) rfl)))
@[simp] theorem nB (a:Wr):bD (.str a.t) (.str "some next")=some (.bool (decide (a=.sn))):=fE a .sn
@[simp] theorem jx (a:Wr):bD (.str a.t) (.str "all next")=some (.bool (decide (a=.an))):=fE a .an
@[simp] theorem nC (a:Wr):bD (.str a.t) (.str "some always")=some (.bool (decide (a=.sa))):=fE a .sa
@[simp] theorem uW (a:Wr):bD (.str a.t) (.str "all always")=some (.bool (decide (a=.aa))):=fE a .aa
@[simp] theorem IV (a:Wr):bD (.str a.t) (.str "some until")=some (.bool (decide (a=.su))):=fE a .su
@[simp] theorem yR (a:Wr):bD (.str a.t) (.str "all until")=some (.bool (decide (a=.au))):=fE a .au
theorem Ci {Γ:Ev} {fa:F1} {p:PV} (h:fa Γ=.ok p Γ) (hs:p.s.isView=false):aL fa Γ=.rt p:=bj h hs
theorem BV {sh:Sh} {d:D} (h:sh.isView=false):coer .leaf ⟨sh,d⟩=true:=by
 unfold coer;simp [h]
noncomputable abbrev GJ (w:Wd) (s:Sn) (x4 x5 x6 x7:Option PV):Ev:=[JJ w.enc,JJ s.enc,JJ (aA (List.range w.n)),JJ (.str s.w.t),x4,x5,x6,x7,none]
theorem jG {w:Wd} (ok:w.Ok) {s:Sn} {x4 x5 x6 x7:Option PV} {fc:FB} {i:Nat} {A:List Nat} {c:Nat->Bool} (hi:(GJ w s x4 x5 x6 x7)[i]?=some (JJ (aA A))) (hA:A.length<=10000) (hc:∀t∈A,fc ((GJ w s x4 x5 x6 x7).set 8 (JJ (rm t)))=.ok (c t) ((GJ w s x4 x5 x6 x7).set 8 (JJ (rm t)))) :
  ax .leaf 8 (aS (ae i)) fc (ae 8) (GJ w s x4 x5 x6 x7)=.ok ⟨.lst .leaf,aA (A.filter c)⟩ (GJ w s x4 x5 x6 x7):=
 sq rm A c (fun t=>⟨.leaf,rm t⟩) (st:=true) (by rw [Ad,mN,hi];simp) (by simp) rfl hA hc (fun t ht _=>⟨aC rfl,rfl⟩)
theorem qa {w:Wd} {a:Sn}:bI w (fun t=>!(aJ w a).contains t)=aJ w (.un .not a):=by
 refine vv fun r hr=>?_
 rw [sm hr];exact jM (by rw [Bool.not_eq_true',<-Bool.not_eq_true,satB_iff];rfl)
theorem qb {w:Wd} {s:Sn}:aJ w s=bI w (bE w s):=rfl
theorem rng_fil {w:Wd}:List.range w.n=bI w (fun _=>true):=by rw [bI,List.filter_eq_self.mpr fun _ _=>rfl]
theorem ya {w:Wd} {a b:Sn}:(aJ w a).filter (fun t=>(aJ w b).contains t)=aJ w (.bi .and a b):=by
 show (bI w (bE w a)).filter _=_
 rw [List.filter_filter];refine vv fun r hr=>?_
 rw [sm hr];exact jM (by rw [Bool.and_eq_true,satB_iff,satB_iff];exact And.comm)
theorem mn {w:Wd} {any:Bool} {a b:Sn} {r:Nat}:Unt w any (fun t=>bE w a t=true) (fun t=>bE w b t=true) r↔Unt w any (fo w a) (fo w b) r:=by
 rw [show (fun t=>bE w a t=true)=fo w a from funext fun t=>propext satB_iff,show (fun t=>bE w b t=true)=fo w b from funext fun t=>propext satB_iff]
theorem B3 {w:Wd} (ok:w.Ok):∀(n:Nat) (s:Sn),s.ok->s.dep<=n->∃sh:Sh,sh.isView=false/\bM n [w.enc,s.enc]=.ok ⟨sh,aA (aJ w s)⟩
 | 0,s,_,h=>by
  have:=s.dep_args
  omega
 | n+1,s,hs,h=>by
  have h24:=ok.h24
  have rl:∀s:Sn,(aJ w s).length<=10000:=fun s=>Nat.le_trans (Cq ok) (by omega)
  show ∃sh:Sh,sh.isView=false/\aI 9 (gX (bM n)) [w.enc,s.enc]=_
  have hst:ai (ae 1) (eK (.int 0)) [JJ w.enc,JJ s.enc,JJ (aA (List.range w.n)),none,none,none,none,none,none]=.ok ⟨.leaf,.str s.w.t⟩ [JJ w.enc,JJ s.enc,JJ (aA (List.range w.n)),none,none,none,none,none,none]:=by
   cases s<;>simp [Sn.enc,Sn.w]
  have go:∀{p:PV} {rest:FS},rest (GJ w s none none none none)=.rt p->(aq (ay false 2 (xG (ab (bt aQ (ab (ai (ae 0) (eK (.int 0))) af)) af))) (aq (ay false 3 (ai (ae 1) (eK (.int 0)))) rest)) (ak 9 [w.enc,s.enc])=.rt p:=fun {p rest} hr=>
   aB (dq (yW ok rfl) rfl (by simp [ak])) (aB (dq hst rfl (by simp [ak])) hr)
  have tq:∀{u:Wr} {t:Str} {x4 x5 x6 x7:Option PV} {v:Bool},bD (.str s.w.t) (.str t)=some (.bool (decide (s.w=u)))->decide (s.w=u)=v->aF ah (aw bD (ae 3) (eK (.str t))) (GJ w s x4 x5 x6 x7)=.ok v (GJ w s x4 x5 x6 x7):=fun {u t x4 x5 x6 x7 v} h1 h2=>eB (aN (aC rfl) aW (by rw [<-h2];exact h1))
  have te:∀{u:Wr} {t:Str} {x4 x5 x6 x7:Option PV} {v:Bool},bD (.str s.w.t) (.str t)=some (.bool (decide (s.w=u)))->decide (s.w=u)=v->aw bD (ae 3) (eK (.str t)) (GJ w s x4 x5 x6 x7)=.ok ⟨.leaf,.bool v⟩ (GJ w s x4 x5 x6 x7):=fun {u t x4 x5 x6 x7 v} h1 h2=>aN (aC rfl) aW (by rw [<-h2];exact h1)
  have no:∀{c:FB} {a:FS} {rest:FS} {Γ:Ev} {o:fJ},c Γ=.ok false Γ->rest Γ=o->aq (bL c a aG) rest Γ=o:=fun h1 h2=>aB (bq h1 nofun (fun _=>rfl)) h2
  have yes:∀{c:FB} {a:FS} {rest:FS} {Γ:Ev} {p:PV},c Γ=.ok true Γ->a Γ=.rt p->aq (bL c a aG) rest Γ=.rt p:=fun h1 h2=>vn (bq h1 (fun _=>h2) nofun)
  cases s with
  | yes=>
   refine ⟨.leaf,rfl,aV (go (yes (tq (Cf _) rfl) ?_))⟩
   have e:List.range w.n=aJ w .yes:=rng_fil.trans (vv fun r _=>jM (by simp [fo]))
   rw [<-e];exact bj (aC rfl) rfl
  | mk c=>
   refine ⟨.lst .leaf,rfl,aV (go (no (tq (Cf _) rfl) (yes (tq (Em _) rfl) (Ci (p:=⟨.lst .leaf,aA (aJ w (.mk c))⟩) ?_ rfl))))⟩
   refine jG (A:=List.range w.n) (c:=bE w (.mk c)) ok rfl (by simp;omega) fun t ht=>?_
   have hr:=List.mem_range.mp ht
   have hm:∀x∈w.mks t,PyData.strOk x=true:=fun x hx=>by
    unfold Wd.mks at hx;rw [JA,Jz (by rw [ok.lm];exact hr)] at hx
    exact ok.mc _ (getElem_mem _) x hx
   have e:(w.mks t).contains c=bE w (.mk c) t:=jM (by rw [contains_iff_mem];rfl)
   rw [<-e];simp [Sn.enc,Wd.enc,ok.at1 hr,uF (Fw hs).1 hm]
  | un k a=>
   obtain ⟨sh,hsh,ea⟩:=B3 ok n a hs (by simp only [Sn.dep] at h;omega)
   have s4:ay false 4 (ag 2 (bM n) (ab (ae 0) (ab (ai (ae 1) (eK (.int 1))) af))) (GJ w (.un k a) none none none none)=.nx (GJ w (.un k a) (JJ (aA (aJ w a))) none none none):=
    dq (cG (ps:=[⟨.leaf,w.enc⟩,⟨.leaf,a.enc⟩]) (aD (aC rfl) (aD (hJ (j:=1) (ds:=[.str k.w.t,a.enc]) (aC rfl) aW rfl rfl rfl) ao)) ea rfl rfl) (BV hsh) (by simp)
   have s5:ay false 5 (ax .leaf 8 (aS (ae 2)) (aF ah (aw (bK true) (ae 8) (ae 4))) (ae 8)) (GJ w (.un k a) (JJ (aA (aJ w a))) none none none)=.nx (GJ w (.un k a) (JJ (aA (aJ w a))) (JJ (aA (aJ w (.un .not a)))) none none):=by
    have:=jG (A:=List.range w.n) (c:=fun t=>!(aJ w a).contains t) (s:=.un k a) (x4:=some ⟨.leaf,aA (aJ w a)⟩) (x5:=none) (x6:=none) (x7:=none) (i:=2) (fc:=aF ah (aw (bK true) (ae 8) (ae 4))) ok rfl (by simp;omega) fun t ht=>eB (aN (aC rfl) (aC rfl) zi)
    rw [show (List.range w.n).filter (fun t=>!(aJ w a).contains t)=aJ w (.un .not a) from qa] at this
    exact dq this rfl (by simp)
   have pre:∀{p:PV} {r a1 a2:FS},r (GJ w (.un k a) (JJ (aA (aJ w a))) (JJ (aA (aJ w (.un .not a)))) none none)=.rt p->_:=fun {p r a1 a2} hr=>go (no (a:=a1) (tq (Cf _) (by cases k<;>rfl)) (no (a:=a2) (tq (Em _) (by cases k<;>rfl)) (aB s4 (aB s5 hr))))
   have stB:∀r t,t∈w.stp r->(bE w a t=true↔fo w a t):=fun r t ht=>satB_iff
   cases k with
   | not=>exact ⟨.leaf,rfl,aV (pre (yes (tq (BR _) rfl) (bj (aC rfl) rfl)))⟩
   | sn=>
    have e:bI w (fun r=>bR (!false) ((w.stp r).map (bE w a)))=aJ w (.un .sn a):=vv fun r hr=>jM (by
     rw [led_iff];simp only [led,fo,Bool.not_false,if_true]
     exact ⟨fun ⟨t,ht,h⟩=>⟨t,ht,satB_iff.mp h⟩,fun ⟨t,ht,h⟩=>⟨t,ht,satB_iff.mpr h⟩⟩)
    have ds:=GN ok (p:=bE w a) (each:=false)
    rw [e] at ds;exact ⟨.lst .leaf,rfl,aV (pre (no (tq (BR _) rfl) (yes (dS (a:=true) (b:=false) (tq (nB _) rfl) (tq (jx _) rfl)) (bj (cG (aD (aC rfl) (aD (aC rfl) (aD (te (v:=false) (jx _) rfl) ao))) ds rfl rfl) rfl))))⟩
   | an=>
    have e:bI w (fun r=>bR (!true) ((w.stp r).map (bE w a)))=aJ w (.un .an a):=vv fun r hr=>jM (by
     rw [led_iff];simp only [led,fo,Bool.not_true,Bool.false_eq_true,if_false]
     exact ⟨fun h t ht=>satB_iff.mp (h t ht),fun h t ht=>satB_iff.mpr (h t ht)⟩)
    have ds:=GN ok (p:=bE w a) (each:=true)
    rw [e] at ds;exact ⟨.lst .leaf,rfl,aV (pre (no (tq (BR _) rfl) (yes (dS (a:=false) (b:=true) (tq (nB _) rfl) (tq (jx _) rfl)) (bj (cG (aD (aC rfl) (aD (aC rfl) (aD (te (v:=true) (jx _) rfl) ao))) ds rfl rfl) rfl))))⟩
   | sa=>
    have du:=Eu ok (a:=fun _=>true) (b:=bE w (.un .not a)) (each:=true)
    rw [<-rng_fil,<-qb] at du;have e:(List.range w.n).filter (fun t=>!(bI w (cy w (!true) (fun _=>true) (bE w (.un .not a)) w.n)).contains t)=aJ w (.un .sa a):=vv fun r hr=>by
     rw [BW hr];refine jM ?_
     rw [Bool.not_eq_true',<-Bool.not_eq_true,D6 ok hr];simp only [fo,Bool.not_true]
     exact not_congr ⟨Unt.congr ok (fun _ _ _=>trivial) (fun t _ h=>(satB_iff (s:=.un .not a)).mp h) hr,Unt.congr ok (fun _ _ _=>trivial) (fun t _ h=>(satB_iff (s:=.un .not a)).mpr h) hr⟩
    refine ⟨.lst .leaf,rfl,aV (pre (no (tq (BR _) rfl) (no (dS (a:=false) (b:=false) (tq (nB _) rfl) (tq (jx _) rfl)) (yes (dS (a:=true) (b:=false) (tq (nC _) rfl) (tq (uW _) rfl)) (aB (dq (cG (aD (aC rfl) (aD (aC rfl) (aD (aC rfl) (aD (te (v:=true) (nC _) rfl) ao)))) du rfl rfl) rfl (by simp)) (Ci (p:=⟨.lst .leaf,aA (aJ w (.un .sa a))⟩) ?_ rfl))))))⟩
    rw [<-e];exact jG (A:=List.range w.n) (s:=.un .sa a) (i:=2) (x4:=some ⟨.leaf,aA (aJ w a)⟩) (x5:=some ⟨.leaf,aA (aJ w (.un .not a))⟩) (x6:=none) (x7:=some ⟨.leaf,aA (bI w (cy w (!true) (fun _=>true) (bE w (.un .not a)) w.n))⟩) ok rfl (by simp;omega) fun t ht=>eB (aN (aC rfl) (aC rfl) zi)
   | aa=>
    have du:=Eu ok (a:=fun _=>true) (b:=bE w (.un .not a)) (each:=false)
    rw [<-rng_fil,<-qb] at du;have e:(List.range w.n).filter (fun t=>!(bI w (cy w (!false) (fun _=>true) (bE w (.un .not a)) w.n)).contains t)=aJ w (.un .aa a):=vv fun r hr=>by
     rw [BW hr];refine jM ?_
     rw [Bool.not_eq_true',<-Bool.not_eq_true,D6 ok hr];simp only [fo,Bool.not_false]
     exact not_congr ⟨Unt.congr ok (fun _ _ _=>trivial) (fun t _ h=>(satB_iff (s:=.un .not a)).mp h) hr,Unt.congr ok (fun _ _ _=>trivial) (fun t _ h=>(satB_iff (s:=.un .not a)).mpr h) hr⟩
    refine ⟨.lst .leaf,rfl,aV (pre (no (tq (BR _) rfl) (no (dS (a:=false) (b:=false) (tq (nB _) rfl) (tq (jx _) rfl)) (yes (dS (a:=false) (b:=true) (tq (nC _) rfl) (tq (uW _) rfl)) (aB (dq (cG (aD (aC rfl) (aD (aC rfl) (aD (aC rfl) (aD (te (v:=false) (nC _) rfl) ao)))) du rfl rfl) rfl (by simp)) (Ci (p:=⟨.lst .leaf,aA (aJ w (.un .aa a))⟩) ?_ rfl))))))⟩
    rw [<-e];exact jG (A:=List.range w.n) (s:=.un .aa a) (i:=2) (x4:=some ⟨.leaf,aA (aJ w a)⟩) (x5:=some ⟨.leaf,aA (aJ w (.un .not a))⟩) (x6:=none) (x7:=some ⟨.leaf,aA (bI w (cy w (!false) (fun _=>true) (bE w (.un .not a)) w.n))⟩) ok rfl (by simp;omega) fun t ht=>eB (aN (aC rfl) (aC rfl) zi)
  | bi k a b=>
   obtain ⟨sh,hsh,ea⟩:=B3 ok n a hs.1 (by simp only [Sn.dep] at h;omega)
   obtain ⟨sb,hsb,eb⟩:=B3 ok n b hs.2 (by simp only [Sn.dep] at h;omega)
   have s4:ay false 4 (ag 2 (bM n) (ab (ae 0) (ab (ai (ae 1) (eK (.int 1))) af))) (GJ w (.bi k a b) none none none none)=.nx (GJ w (.bi k a b) (JJ (aA (aJ w a))) none none none):=
    dq (cG (ps:=[⟨.leaf,w.enc⟩,⟨.leaf,a.enc⟩]) (aD (aC rfl) (aD (hJ (j:=1) (ds:=[.str k.w.t,a.enc,b.enc]) (aC rfl) aW rfl rfl rfl) ao)) ea rfl rfl) (BV hsh) (by simp)
   have s5:ay false 5 (ax .leaf 8 (aS (ae 2)) (aF ah (aw (bK true) (ae 8) (ae 4))) (ae 8)) (GJ w (.bi k a b) (JJ (aA (aJ w a))) none none none)=.nx (GJ w (.bi k a b) (JJ (aA (aJ w a))) (JJ (aA (aJ w (.un .not a)))) none none):=by
    have:=jG (A:=List.range w.n) (c:=fun t=>!(aJ w a).contains t) (s:=.bi k a b) (x4:=some ⟨.leaf,aA (aJ w a)⟩) (x5:=none) (x6:=none) (x7:=none) (i:=2) (fc:=aF ah (aw (bK true) (ae 8) (ae 4))) ok rfl (by simp;omega) fun t ht=>eB (aN (aC rfl) (aC rfl) zi)
    rw [show (List.range w.n).filter (fun t=>!(aJ w a).contains t)=aJ w (.un .not a) from qa] at this
    exact dq this rfl (by simp)
   have s6:ay false 6 (ag 2 (bM n) (ab (ae 0) (ab (ai (ae 1) (eK (.int 2))) af))) (GJ w (.bi k a b) (JJ (aA (aJ w a))) (JJ (aA (aJ w (.un .not a)))) none none)=.nx (GJ w (.bi k a b) (JJ (aA (aJ w a))) (JJ (aA (aJ w (.un .not a)))) (JJ (aA (aJ w b))) none):=
    dq (cG (ps:=[⟨.leaf,w.enc⟩,⟨.leaf,b.enc⟩]) (aD (aC rfl) (aD (hJ (j:=2) (ds:=[.str k.w.t,a.enc,b.enc]) (aC rfl) aW rfl rfl rfl) ao)) eb rfl rfl) (BV hsb) (by simp)
   have pre:∀{p:PV} {r a1 a2 a3 a4 a5:FS},r (GJ w (.bi k a b) (JJ (aA (aJ w a))) (JJ (aA (aJ w (.un .not a)))) (JJ (aA (aJ w b))) none)=.rt p->_:=fun {p r a1 a2 a3 a4 a5} hr=>go (no (a:=a1) (tq (Cf _) (by cases k<;>rfl)) (no (a:=a2) (tq (Em _) (by cases k<;>rfl)) (aB s4 (aB s5 (no (a:=a3) (tq (BR _) (by cases k<;>rfl)) (no (a:=a4) (dS (a:=false) (b:=false) (tq (nB _) (by cases k<;>rfl)) (tq (jx _) (by cases k<;>rfl))) (no (a:=a5) (dS (a:=false) (b:=false) (tq (nC _) (by cases k<;>rfl)) (tq (uW _) (by cases k<;>rfl))) (aB s6 hr))))))))
   cases k with
   | and=>
    refine ⟨.lst .leaf,rfl,aV (pre (yes (tq (Ea _) rfl) (Ci (p:=⟨.lst .leaf,aA (aJ w (.bi .and a b))⟩) ?_ rfl)))⟩
    rw [<-ya];exact jG (A:=aJ w a) (s:=.bi .and a b) (i:=4) (x4:=some ⟨.leaf,aA (aJ w a)⟩) (x5:=some ⟨.leaf,aA (aJ w (.un .not a))⟩) (x6:=some ⟨.leaf,aA (aJ w b)⟩) (x7:=none) ok rfl (rl a) fun t ht=>eB (aN (aC rfl) (aC rfl) sy)
   | or=>
    refine ⟨.lst .leaf,rfl,aV (pre (no (tq (Ea _) rfl) (yes (tq (uV _) rfl) (Ci (p:=⟨.lst .leaf,aA (aJ w (.bi .or a b))⟩) ?_ rfl))))⟩
    have e:bI w (fun t=>(aJ w a).contains t||(aJ w b).contains t)=aJ w (.bi .or a b):=vv fun r hr=>by
     rw [sm hr,sm hr];exact jM (by rw [Bool.or_eq_true,satB_iff,satB_iff];rfl)
    rw [<-e];exact jG (A:=List.range w.n) (s:=.bi .or a b) (i:=2) (x4:=some ⟨.leaf,aA (aJ w a)⟩) (x5:=some ⟨.leaf,aA (aJ w (.un .not a))⟩) (x6:=some ⟨.leaf,aA (aJ w b)⟩) (x7:=none) ok rfl (by simp;omega) fun t ht=>dS (eB (aN (aC rfl) (aC rfl) sy)) (eB (aN (aC rfl) (aC rfl) sy))
   | su=>
    have du:=Eu ok (a:=bE w a) (b:=bE w b) (each:=false)
    have e:bI w (cy w (!false) (bE w a) (bE w b) w.n)=aJ w (.bi .su a b):=vv fun r hr=>jM (by rw [D6 ok hr,mn];rfl)
    rw [e] at du;exact ⟨.leaf,rfl,aV (pre (no (tq (Ea _) rfl) (no (tq (uV _) rfl) (bj (cG (aD (aC rfl) (aD (aC rfl) (aD (aC rfl) (aD (te (v:=false) (yR _) rfl) ao)))) du rfl rfl) rfl))))⟩
   | au=>
    have du:=Eu ok (a:=bE w a) (b:=bE w b) (each:=true)
    have e:bI w (cy w (!true) (bE w a) (bE w b) w.n)=aJ w (.bi .au a b):=vv fun r hr=>jM (by rw [D6 ok hr,mn];rfl)
    rw [e] at du;exact ⟨.leaf,rfl,aV (pre (no (tq (Ea _) rfl) (no (tq (uV _) rfl) (bj (cG (aD (aC rfl) (aD (aC rfl) (aD (aC rfl) (aD (te (v:=true) (yR _) rfl) ao)))) du rfl rfl) rfl))))⟩
theorem tu {r:List Nat}:shaped (aA r)=true:=by
 have:gu (r.map rm):=fun a ha=>by
  obtain ⟨t,_,e⟩:=List.mem_map.mp ha;exact ⟨(t:Int),e.symm⟩
 exact Cn this
theorem CB {c:FB} {fa fb:F1} {Γ:Ev} {t:Bool} {p:PV} (hc:c Γ=.ok t Γ) (ha:t=true->fa Γ=.ok p Γ) (hb:t=false->fb Γ=.ok p Γ):rH c fa fb Γ=.ok p Γ:=by
 unfold rH;rw [hc];simp only [pM]
 cases t with
 | true=>exact ha rfl
 | false=>exact hb rfl
end KC
namespace T
open PySem
theorem Gi {xs:Array Nat} {j p:Nat} (hp:∀k,k<xs.size->(xs.getD k j<j↔k<p)):∀(fuel lo hi:Nat),lo<=p->p<=hi->hi<=xs.size->hi-lo<=fuel->SetTable.below.go xs j fuel lo hi=p
 | 0,lo,hi,h1,h2,h3,h4=>by
  unfold SetTable.below.go;omega
 | n+1,lo,hi,h1,h2,h3,h4=>by
  unfold SetTable.below.go;by_cases c:lo<hi
  ·rw [if_pos c]
   have hm:=hp ((lo+hi) / 2) (by omega)
   simp only
   by_cases d:xs.getD ((lo+hi) / 2) j<j
   ·rw [if_pos d]
    have:=hm.mp d
    exact Gi hp n _ _ (by omega) h2 h3 (by omega)
   ·rw [if_neg d]
    have:¬(lo+hi) / 2<p:=fun z=>d (hm.mpr z)
    exact Gi hp n _ _ h1 (by omega) (by omega) (by omega)
  ·rw [if_neg c]
   omega
theorem Gk {xs:Array Nat} {j p:Nat} (hp:∀k,k<xs.size->(xs.getD k j<j↔k<p)) (hs:p<=xs.size):SetTable.below xs j=p:=Gi hp xs.size 0 xs.size (Nat.zero_le _) hs (JH _) (by omega)
noncomputable def Rs (xs:Array Nat):Prop:=xs.toList.Pairwise (· < ·)
theorem Rs.lt {xs:Array Nat} (h:Rs xs) {i k:Nat} (hi:i<xs.size) (hk:k<xs.size) (hik:i<k):xs[i]<xs[k]:=by
 have:=(List.pairwise_iff_getElem.mp h) i k (by simpa using hi) (by simpa using hk) hik
 simpa using this
theorem pz {xs:Array Nat}:SetTable.below xs 0=0:=Gk (fun k _=>by simp) (Nat.zero_le _)
theorem ze {xs:Array Nat} {k j:Nat} (hk:k<xs.size):xs.getD k j=xs[k]:=by
 unfold Array.getD;rw [dif_pos hk];rfl
theorem pA {xs:Array Nat} (h:Rs xs) {i:Nat} (hi:i<xs.size):SetTable.below xs (xs[i]+1)=i+1:=by
 refine Gk (fun k hk=>?_) (by omega)
 rw [ze hk];rcases Nat.lt_trichotomy k i with c | c | c
 ·have:=h.lt hk hi c
  omega
 ·subst c
  omega
 ·have:=h.lt hi hk c
  omega
theorem jg (j:Nat):∀(l:List Nat),l.Pairwise (· < ·)->∀k,k<l.length->(l.getD k j<j↔k<l.countP (·<j))
 | [],_,k,hk=>by simp at hk
 | a::l,h,k,hk=>by
  obtain ⟨h1,h2⟩:=List.pairwise_cons.mp h;rw [List.countP_cons];by_cases c:a<j
  ·simp only [c,decide_true,if_true]
   cases k with
   | zero=>simpa using c
   | succ k=>
    have:=jg j l h2 k (by simpa using hk)
    simp only [List.getD_cons_succ]
    omega
  ·have z:l.countP (·<j)=0:=List.countP_eq_zero.mpr fun b hb=>by
    have:=h1 b hb
    simp
    omega
   simp only [c,decide_false,Bool.false_eq_true,if_false,z]
   cases k with
   | zero=>simp;omega
   | succ k=>
    have hk':k<l.length:=by simpa using hk
    simp only [List.getD_cons_succ]
    rw [JA,Jz hk'];have:=h1 _ (getElem_mem hk')
    simp only [Option.getD_some]
    omega
theorem Rs.point {xs:Array Nat} (h:Rs xs) (j:Nat):(∀k,k<xs.size->(xs.getD k j<j↔k<SetTable.below xs j))/\SetTable.below xs j<=xs.size:=by
 have hp:∀k,k<xs.size->(xs.getD k j<j↔k<xs.toList.countP (·<j)):=fun k hk=>by
  have:=jg j xs.toList h k (by simpa using hk)
  rw [JA,Jz (by simpa using hk)] at this
  rw [ze hk];simpa using this
 have hc:xs.toList.countP (·<j)<=xs.size:=by
  have:=List.countP_le_length (p:=(·<j)) (l:=xs.toList)
  simpa using this
 rw [Gk hp hc];exact ⟨hp,hc⟩
theorem Rs.insert {xs:Array Nat} (h:Rs xs) {j:Nat} (hj:xs[SetTable.below xs j]?≠some j):Rs (SetTable.insertAt xs (SetTable.below xs j) j):=by
 obtain ⟨hp,hs⟩:=h.point j;generalize SetTable.below xs j=p at hp hs hj
 unfold Rs SetTable.insertAt;have e:(((xs.extract 0 p).push j)++xs.extract p xs.size).toList=xs.toList.take p++[j]++xs.toList.drop p:=by
  simp [Array.toList_extract,List.extract]
  rw [take_of_length_le (by simp)]
 rw [e,append_assoc,List.pairwise_append];have low:∀a∈xs.toList.take p,a<j:=fun a ha=>by
  obtain ⟨k,hk,rfl⟩:=getElem_of_mem ha;rw [length_take] at hk;have hk':k<xs.size:=by
   have:k<xs.toList.length:=by omega
   simpa using this
  have:=(hp k hk').mpr (by omega)
  rw [ze hk'] at this;simpa using this
 have up:∀a∈xs.toList.drop p,j<a:=fun a ha=>by
  obtain ⟨k,hk,rfl⟩:=getElem_of_mem ha;rw [length_drop,Array.length_toList] at hk;have hk':p+k<xs.size:=by omega
  have q:¬xs.getD (p+k) j<j:=fun z=>by have:=(hp (p+k) hk').mp z;omega
  rw [ze hk'] at q;have e1:(xs.toList.drop p)[k]=xs[p+k]:=by simp
  rw [e1];have hne:xs[p+k]≠j:=fun z=>by
   cases k with
   | zero=>
    simp only [Nat.add_zero] at z
    exact hj (by rw [Array.getElem?_eq_getElem (by omega),z])
   | succ k=>
    have hp':p<xs.size:=by omega
    have q0:¬xs.getD p j<j:=fun z=>by have:=(hp p hp').mp z;omega
    rw [ze hp'] at q0;have:=h.lt hp' hk' (by omega)
    omega
  omega
 refine ⟨h.sublist (List.take_sublist _ _),?_,fun a ha b hb=>?_⟩
 ·rw [List.singleton_append,List.pairwise_cons]
  exact ⟨up,h.sublist (List.drop_sublist _ _)⟩
 ·have l1:=low a ha
  rw [List.singleton_append] at hb;rcases Jy hb with rfl | hb
  ·exact l1
  ·have:=up b hb
   omega
theorem tD {n:Nat}:Rs (Array.range n):=by
 unfold Rs;rw [Array.toList_range];exact List.pairwise_lt_range
structure Tb (b:Bool) (t:SetTable):Prop where
 led:b=false->t.led=true
 rs:Rs t.place
 nd:t.dummies=#[]
theorem Tb.fresh {b:Bool}:Tb b (.fresh 0 0 (!b)):=⟨fun e=>by rw [e];rfl,List.Pairwise.nil,rfl⟩
theorem Tb.standIn {b:Bool} {t:SetTable} (h:Tb b t) (n:Nat):Tb b (t.standIn n):=⟨h.led,tD,rfl⟩
theorem Tb.orStandIn {b:Bool} {t:SetTable} (h:Tb b t) (n:Nat):Tb b (t.orStandIn n):=by
 unfold SetTable.orStandIn;split
 ·exact h
 ·exact h.standIn n
theorem Tb.plain {b:Bool} {t:SetTable} (h:Tb b t) (p:Bool):Tb b { t with plain:=p }:=⟨h.led,h.rs,h.nd⟩
theorem m8 {j:Nat}:SetTable.has #[] j=false:=by
 unfold SetTable.has;simp
theorem Tb.put {b:Bool} {t:SetTable} (h:Tb b t) {j:Nat} (hj:t.place[SetTable.below t.place j]?≠some j):Tb b (t.put j).1:=by
 refine ⟨h.led,h.rs.insert hj,?_⟩
 show (if SetTable.has t.dummies j=true then _ else t.dummies)=#[]
 rw [h.nd,m8];rfl
theorem iy {b:Bool} {t:SetTable} (h:Tb b t) {ha:Nat->Int} {k:Int}:∀(fuel:Nat) (p:SetTable.Probe),p.dummy=none->∀j d,SetTable.probe.go t ha k fuel p=some (.empty j d)->d=none/\t.place[SetTable.below t.place j]?≠some j
 | 0,p,_,j,d,e=>by unfold SetTable.probe.go at e;cases e
 | n+1,p,hp,j,d,e=>by
  unfold SetTable.probe.go at e;have adv:(t.advance p).dummy=none:=by
   unfold SetTable.advance;split
   ·exact hp
   ·exact hp
  cases q:t.slot p.j with
  | empty=>
   rw [q] at e;simp only [Option.some.injEq,SetTable.Met.empty.injEq] at e
   obtain ⟨rfl,rfl⟩:=e;refine ⟨hp,fun z=>?_⟩
   unfold SetTable.slot at q;simp only [z,beq_self_eq_true,if_true] at q
   cases q
  | dummy=>
   unfold SetTable.slot at q;simp only [h.nd,m8] at q
   split at q<;>simp at q
  | live i=>
   rw [q] at e;simp only at e
   split at e
   ·cases e
   ·exact iy h n _ adv j d e
theorem Tb.free {b:Bool} {t:SetTable} (h:Tb b t) {k:Int} {j:Nat} {d:Bool} (e:t.freeSlot k=some (j,d)):t.place[SetTable.below t.place j]?≠some j:=by
 unfold SetTable.freeSlot at e
 cases q:t.probe (fun _=>k+1) k (t.probeStart k) with
 | none=>rw [q] at e;cases e
 | some m=>
  rw [q] at e
  cases m with
  | candidate _ _ _=>cases e
  | empty i x=>
   obtain ⟨rfl,hi⟩:=iy h _ _ rfl i x q;simp only [Option.some.injEq,Prod.mk.injEq] at e
   obtain ⟨rfl,_⟩:=e;exact hi
theorem Tb.layNew {b:Bool} {t:SetTable} (h:Tb b t) (es:Array (Int×Value)) (k:Int) (x:Value):Tb b (PySem.layNew t es k x).2.1:=by
 unfold PySem.layNew
 cases e:t.freeSlot k with
 | none=>exact h.standIn _
 | some jd=>
  obtain ⟨j,d⟩:=jd;exact (h.put (h.free e)).orStandIn _
theorem xi {b led plain:Bool} {mask fg mv:Nat} {hs:Array Int} {t:SetTable} {o:Array Nat} (hl:b=false->led=true) (e:SetTable.laid mask fg mv led plain hs=some (t,o)):Tb b t:=by
 unfold SetTable.laid at e
 cases q:SetTable.layClean mask hs with
 | none=>rw [q] at e;cases e
 | some ow=>
  rw [q] at e;simp only [Option.bind_eq_bind,Option.bind_some,Option.pure_def,Option.some.injEq,Prod.mk.injEq] at e
  obtain ⟨rfl,_⟩:=e;refine ⟨hl,?_,rfl⟩
  unfold Rs;simp only [List.toList_toArray]
  rw [pairwise_map];refine List.Pairwise.filterMap _ (R:=(· < ·)) (fun a a' haa' c hc c' hc'=>?_) List.pairwise_lt_range
  cases x:ow.getD a none with
  | none=>rw [x] at hc;cases hc
  | some y=>
   cases x':ow.getD a' none with
   | none=>rw [x'] at hc';cases hc'
   | some y'=>
    rw [x] at hc;rw [x'] at hc'
    cases hc
    cases hc'
    exact haa'
theorem Tb.relay {b:Bool} {t:SetTable} (h:Tb b t) (es:Array (Int×Value)) (n:Nat):Tb b (relayAll t es n).2.1:=by
 unfold relayAll
 cases e:t.relaid (es.map (·.1)) n with
 | none=>exact h.standIn _
 | some to=>
  obtain ⟨t',o⟩:=to;simp only
  split
  ·unfold SetTable.relaid at e
   exact xi h.led e
  ·exact h.standIn _
open PySem.Spec L2
open PyProof.Rows hiding St
noncomputable abbrev d8 (w:World):Bool:=w.params.followText "set-order"
noncomputable def SetT (P:Program) (w:World) (h:Heap) (a:Addr) (S:Int->Bool) (n:Nat):Prop:=
 ∃o es ep t,h.get? a=some o/\o.ExactSet/\o.data=.set es ep t/\ElemsOf (intKind P w) es.toList/\(∀k,S k=true↔∃e∈es.toList,(intKind P w).is k e.2=true)/\es.size<scanBound/\t.fits es.size=true/\es.size=n/\Tb (d8 w) t
section
variable {P:Program} {w:World} {A:Around} {E:Value->Shared->Prop} {s:Shared}
theorem SetT.at {h h':Heap} {a:Addr} {S:Int->Bool} {n:Nat} (x:SetT P w h a S n) (k:∀o,h.get? a=some o->h'.get? a=some o):SetT P w h' a S n:=by
 obtain ⟨o,es,ep,t,ho,r⟩:=x;exact ⟨o,es,ep,t,k o ho,r⟩
theorem SetT.congr {h:Heap} {a:Addr} {S S':Int->Bool} {n n':Nat} (x:SetT P w h a S n) (e:∀k,S k=S' k) (en:n=n'):SetT P w h a S' n':=by
 have:S=S':=funext e
 subst this en;exact x
theorem pZ {h:Heap} {a:Addr} {o:Obj} {es es':Array (Int×Value)} {ep:Nat} {t t':SetTable} {S:Int->Bool} (ho:h.get? a=some o) (hex:o.ExactSet) (hd:o.data=.set es ep t) (hel:ElemsOf (intKind P w) es'.toList) (hm:∀k,S k=true↔∃e∈es'.toList,(intKind P w).is k e.2=true) (hb:es'.size<scanBound) (hf:t'.fits es'.size=true) (tb:Tb (d8 w) t') :
  (h.update a (Obj.putSet es' t')).get? a=some { o with data:=.set es' (ep+1) t' }/\SetT P w (h.update a (Obj.putSet es' t')) a S es'.size:=by
 have q:=(SetOf_store (knd:=intKind P w) ho hex hd hel hm hb hf).1
 exact ⟨q,_,es',ep+1,t',q,hex,rfl,hel,hm,hb,hf,rfl,tb⟩
theorem DS {a:Addr} {S:Int->Bool} {n:Nat} {k:Int} {x:Value} {Q:Bool->Shared->Prop} (hk:(intKind P w).is k x=true) (hx:x.scannable=true) (hS:SetT P w s.heap a S n) (hr:n+1<scanBound)
  (h:∀h',Heap.SameBut a s.heap h'->SetT P w h' a (fun i=>S i||decide (i=k)) (if S k then n else n+1)->∀b,Q b { s with heap:=h' }):wpAny (model P w) A (setAddHashed a x ((intKind P w).hash k)) Q E s:=by
 obtain ⟨o,es,ep,t,ho,hex,hd,hel,hm,hb,hf,hn,tb⟩:=hS;unfold setAddHashed setAddHashedIn;refine wpAny_holding (JE (wpAny_setState_of ho hd hf ?_))
 dsimp only;rw [byScan_of hx hb hel,if_pos rfl];unfold setAddByScan;refine JE (JE (wpAny_rule (JE (wpAny_setScan_of hk ho hd hf hel ?_))))
 cases q:List.findIdx? (fun e=>(intKind P w).is k e.2) es.toList with
 | some j=>
  dsimp only;obtain ⟨hj,hp,_⟩:=List.findIdx?_eq_some_iff_getElem.mp q
  have sk:S k=true:=(hm k).mpr ⟨_,getElem_mem hj,hp⟩
  refine JF (JF ?_)
  have z:=h s.heap (Heap.SameBut.refl a s.heap) ⟨o,es,ep,t,ho,hex,hd,hel,fun i=>?_,hb,hf,by rw [sk];exact hn,tb⟩ false
  ·have es':s={ s with heap:=s.heap }:=by cases s;rfl
   rw [es'];exact z
  ·rw [Bool.or_eq_true,decide_eq_true_eq,<-hm i]
   exact ⟨fun y=>y.elim id fun e=>e▸sk,.inl⟩
 | none=>
  dsimp only;have sk:S k=false:=by
   cases e:S k with
   | false=>rfl
   | true=>
    obtain ⟨y,hy,hp⟩:=(hm k).mp e;have:=List.findIdx?_eq_none_iff.mp q y hy
    rw [hp] at this
    cases this
  have pm:=layNew_perm t es ((intKind P w).hash k) x
  have ft:=layNew_fits t es ((intKind P w).hash k) x
  have tb1:=tb.layNew es ((intKind P w).hash k) x
  generalize layNew t es ((intKind P w).hash k) x=L at pm ft tb1 ⊢
  obtain ⟨e1,t1,wd,gv⟩:=L;dsimp only at pm ft tb1 ⊢
  rw [Array.toList_push] at pm;have el1:ElemsOf (intKind P w) e1.toList:=(hel.push hk hx).perm pm
  have m1:=fun i=>mem_push_iff hk hm pm i
  have sz:e1.size=n+1:=by rw [<-Array.length_toList,pm.length_eq,length_append,Array.length_toList,hn];rfl
  have b1:e1.size<scanBound:=by rw [sz];exact hr
  have gw:∀(b:Bool) {s1:Shared} {R:Unit->Shared->Prop},R () s1->wpAny (model P w) A (match b with | true=>rule "set.scan.the-table-gave-way" | false=>pure ()) R E s1:=fun b s1 R y=>by
   cases b
   ·exact JF y
   ·exact wpAny_rule y
  have fin:∀h',Heap.SameBut a s.heap h'->SetT P w h' a (fun i=>S i||decide (i=k)) e1.size->∀b,Q b { s with heap:=h' }:=fun h' sb y=>by
   have:=h h' sb
   rw [sk] at this;rw [sz] at y;exact this y
  have tail:∀t2:SetTable,t2.fits e1.size=true->Tb (d8 w) t2->∀{R:Option Bool->Shared->Prop},(∀h',(∀b,Q b { s with heap:=h' })->R (some true) { s with heap:=h' })->wpAny (model P w) A (do
    storeSet a e1 t2
    if (!wd&&t2.tooFull)=true then do
      (match (relayAll t2 e1 (SetTable.grown e1.size)).2.2 with | true=>rule "set.scan.the-table-gave-way" | false=>pure ())
      storeSet a (relayAll t2 e1 (SetTable.grown e1.size)).1 (relayAll t2 e1 (SetTable.grown e1.size)).2.1
      pure (some true)
     else pure (some true)) R E s:=fun t2 f2 tb2 R hR=>by
   refine JE (wpAny_storeSet_of ho hd ?_ (fits_of_scanBound b1))
   obtain ⟨g1,s1⟩:=pZ ho hex hd el1 m1 b1 f2 tb2;have sb1:=Heap.SameBut.update s.heap a (Obj.putSet e1 t2)
   split
   ·have pr:=relayAll_perm t2 e1 (SetTable.grown e1.size)
    have fr:=relayAll_fits t2 e1 (SetTable.grown e1.size)
    have tr:=tb2.relay e1 (SetTable.grown e1.size)
    generalize relayAll t2 e1 (SetTable.grown e1.size)=Rl at pr fr tr ⊢
    obtain ⟨e2,t3,g2⟩:=Rl;dsimp only at pr fr tr ⊢
    have sz2:e2.size=e1.size:=by rw [<-Array.length_toList,pr.length_eq,Array.length_toList]
    have b2:e2.size<scanBound:=by rw [sz2];exact b1
    refine JE (gw _ (JE (wpAny_storeSet_of g1 rfl ?_ (fits_of_scanBound b2))))
    obtain ⟨_,s2⟩:=pZ (P:=P) (S:=fun i=>S i||decide (i=k)) g1 hex rfl (el1.perm pr) (fun i=>(m1 i).trans ⟨fun ⟨e,he,y⟩=>⟨e,pr.mem_iff.mpr he,y⟩,fun ⟨e,he,y⟩=>⟨e,pr.mem_iff.mp he,y⟩⟩) b2 fr tr
    rw [sz2] at s2;exact JF (hR _ (fin _ (sb1.trans (Heap.SameBut.update _ a _)) s2))
   ·exact JF (hR _ (fin _ sb1 s1))
  refine JE (gw _ ?_)
  split
  ·refine JE ?_
   rw [hashByValue_scannable 8 hx];refine JF ?_
   refine tail _ ?_ ?_ fun h' y=>?_
   ·split
    ·exact ft
    ·exact SetTable.fits_plain_off ft
   ·split
    ·exact tb1
    ·exact tb1.plain false
   ·exact JF (y true)
  ·refine JE (JF ?_)
   simp only [if_true]
   exact tail _ ft tb1 fun h' y=>JF (y true)
end
section
variable {P:Program} {w:World} {A:Around} {R:Result->Shared->Prop} {I:Addr} {fp wr:List Addr} {G:Array GenState->Array GenState->Prop} {n:Nat} {Pr:Nat->Value->Prop} {Sn:Nat->Shared->Prop}
theorem CC (W:WalksS P w A.in1 I fp wr G n Pr Sn) (S:Addr) (hS:S∉fp) (val:Nat->Int) (hv:∀i v,Pr i v->∃t,v=.int (val i) t) (hb:n+1<scanBound):∀(k i:Nat) (s:Shared),n-i=k->i<=n->Sn i s->SetT P w s.heap S (fun z=>(firstMet val i).any (·==z)) (firstMet val i).length ->
   (∀s',Moved (S::wr) G s s'->SetT P w s'.heap S (fun z=>(firstMet val n).any (·==z)) (firstMet val n).length->R (.ok (.ret .none)) s')->codeAny (model P w) A (.builtin "set.update.loop" ⟨[.ref S,.ref I],[]⟩) R s:=by
 have hw:S∉wr:=fun z=>hS (W.sub _ z)
 have sub:∀b∈wr,b∈S::wr:=fun b z=>JB _ z
 intro k;induction k with
 | zero=>
  intro i s hk hi st x hR;obtain rfl:i=n:=by omega
  refine codeAny_builtin F.entry_set_update_loop ?_
  rw [Around.under_plainId F.plain_set_update_loop _];refine JE (W.done s _ _ st fun s' mv=>?_)
  exact JF (hR s' (mv.mono sub) (x.at fun o e=>mv.heap S o hw e))
 | succ k ih=>
  intro i s hk hi st x hR;have lt:i<n:=by omega
  refine codeAny_builtin F.entry_set_update_loop ?_
  rw [Around.under_plainId F.plain_set_update_loop _];refine JE (W.item i s _ _ lt st fun v s' pv st' mv=>?_)
  obtain ⟨t,rfl⟩:=hv i v pv;have x':=x.at fun o e=>mv.heap S o hw e
  refine JE (wpAny_holding ?_)
  unfold setAdd;refine wpAny_holding (JE ((intKind P w).pyHash (k:=val i) (intKind_is _ _ _ _) ?_))
  have room:(firstMet val i).length+1<scanBound:=by have:=firstMet_length_le val i;omega
  refine DS (s:={ s' with toks:=s'.toks+1 }) (intKind_is _ _ _ _) rfl x' room fun h' sb x2 b=>?_
  have x3:SetT P w h' S (fun z=>(firstMet val (i+1)).any (·==z)) (firstMet val (i+1)).length:=x2.congr (fun z=>by rw [firstMet_succ,step_any]) (by rw [firstMet_succ,step_length])
  refine JF ⟨plainId_quiet F.plain_set_update_loop _,ih (i+1) _ (by omega) lt (W.frame _ s' _ _ st' (Nat.le_succ _) fun c hc o e=>?_) x3 fun s2 mv2 x4=>?_⟩
  ·rw [sb.2 c fun z=>hS (by rw [<-z];exact hc)]
   exact e
  ·refine hR s2 (Moved.trans W.gtrans ((mv.mono sub).then_heap (Nat.le_succ _) fun c o hc e=>?_) mv2) x4
   rw [sb.2 c fun z=>hc (by rw [z];exact mem_cons_self)]
   exact e
end
section
variable {P:Program} {w:World} {A:Around} {E:Value->Shared->Prop} {s:Shared}
noncomputable abbrev jm (w:World):Obj:={ cls:=.type "set",dict:=none,data:=.set #[] 0 (.fresh 0 0 (!d8 w)) }
theorem Dm (a:Value) {Q:Value->Shared->Prop} (h:Q (.ref s.heap.objs.size) { s with heap:=s.heap.push (jm w) }):codeAny (model P w) A (.call (.builtin "set.__new__") ⟨[.type "set",a],[]⟩) (wants Q E) s:=by
 refine codeAny_of_tree ?_
 refine JE (wpAny_of_eq (F.newCall_set_1 a) (JF ⟨plainId_quiet F.plain_set_new _,codeAny_builtin F.entry_set_new ?_⟩))
 rw [Around.under_plainId F.plain_set_new _];unfold Builtin.«set.__new__» Builtin.Frozenset.newClass
 have sub:=sub_set_self
 obtain ⟨hp,g,d,tk,os⟩:=s;dsimp only;wp_walk
 refine wpAny_askSetting (JF ?_)
 dsimp only;simp only [newObj]
 exact JE (wpAny_alloc (JF (JF h)))
theorem xC {h:Heap} {a:Addr} (e:h.get? a=some (jm w)):SetT P w h a (fun _=>false) 0:=
 ⟨_,#[],0,_,e,⟨rfl,rfl,rfl⟩,rfl,fun e he=>by simp at he,fun k=>by simp,by decide,rfl,rfl,Tb.fresh⟩
theorem pq {l:Addr} {its:Array Value} {ns:List Int} {Q:Value->Shared->Prop} (hh:A.handled=none) (hl:s.heap.IsList l its) (hi:IntsAre its.toList ns) (hb:its.size+1<scanBound)
  (h:∀(h':Heap) (tk:Nat),SetT P w h' s.heap.objs.size (fun z=>(firstMet (fun i=>ns.getD i 0) its.size).any (·==z)) (firstMet (fun i=>ns.getD i 0) its.size).length->(∀b o,s.heap.get? b=some o->h'.get? b=some o)->Q (.ref s.heap.objs.size) { s with heap:=h',toks:=tk }) :
  wpAny (model P w) A (call (.type "set") [.ref l]) Q E s:=by
 obtain ⟨c,tl,mro⟩:=F.called_set.mro;have made:=F.called_set.made
 have sub:=F.called_set.sub
 refine wpAny_call (codeAny_of_tree ?_)
 show wpAny _ _ (callAny (.type "set") _) _ _ _
 refine JF ⟨Code.quiet_builtin _ (by decide +kernel),codeAny_builtin F.entry_type_call ?_⟩
 rw [Around.under_plain (weight_type_call_type "set" [.ref l] []) rfl]
 have h1:=F.called_set.notType
 have h2:=F.called_set.canCreate
 have ct:=F.typeCall_set_1 (.ref l)
 repeat (any_goals (first | assumption | wp_step))
 refine codeAny_mono (Dm (.ref l) (E:=E) (Q:=fun ob s1=>ob=.ref s.heap.objs.size/\s1={ s with heap:=s.heap.push (jm w) }) ⟨rfl,rfl⟩) fun r s1 hr=>?_
 cases r with
 | error e=>exact hr
 | ok fl=>
  cases fl with
  | ret ob=>
   obtain ⟨rfl,rfl⟩:=hr;have gS:(s.heap.push (jm w)).get? s.heap.objs.size=some (jm w):=Heap.get?_push_size _ rfl
   have ty:Shared.TypeIs { s with heap:=s.heap.push (jm w) } (.ref s.heap.objs.size) "set":=⟨_,gS,rfl⟩
   have li:=F.called_set.init.lookup
   have bi:=F.called_set.init.bind (.ref s.heap.objs.size)
   repeat (any_goals (first | assumption | wp_step))
   refine codeAny_mono (codeAny_call_builtin (R:=wants (fun r s2=>r=.none/\∃h' tk,s2={ s with heap:=h',toks:=tk }/\SetT P w h' s.heap.objs.size (fun z=>(firstMet (fun i=>ns.getD i 0) its.size).any (·==z)) (firstMet (fun i=>ns.getD i 0) its.size).length/\(∀b o,s.heap.get? b=some o->h'.get? b=some o)) E) F.called_set.init.plain F.entry_set_init (check_set_init_1 ty ?_)) fun r2 s2 hr2=>?_
   ·have hl':=hl
    obtain ⟨ol,gl,cl,nl,dl⟩:=hl;obtain ⟨oc,od,odt,os⟩:=ol;simp only at cl dl
    subst cl dl;have gl':(s.heap.push (jm w)).get? l=some { cls:=.type "list",dict:=od,data:=.seq its nl,slots:=os }:=JG _ gl
    have s1:=F.sub_list_set
    have s2:=F.sub_list_frozenset
    have ne:(Value.type "list"==Value.type "dict")=false:=by decide
    have l1:(s.heap.push (jm w)).IsList l its:=⟨_,gl',rfl,nl,rfl⟩
    unfold Builtin.«set.__init__» noKeywords Builtin.Frozenset.updateFrom
    generalize hPI:pyIter=PI
    wp_walk
    subst hPI;refine wpAny_pyIter_list l1 (JE (wpAny_runValue ?_))
    have lS:l<s.heap.objs.size:=Heap.lt_size gl
    have h3:A.in1.in1.in1.handled=none:=by simp [hh]
    have nI:l≠(s.heap.push (jm w)).objs.size:=by
     rw [Heap.size_push];exact Nat.ne_of_lt (Nat.lt_succ_of_lt lS)
    have nf:s.heap.objs.size∉[(s.heap.push (jm w)).objs.size,l]:=by
     rw [Heap.size_push];simp only [mem_cons,not_mem_nil,or_false,not_or]
     exact ⟨Nat.ne_of_lt (Nat.lt_succ_self _),Nat.ne_of_gt lS⟩
    refine CC ((Walks.list h3 _ l nI its).toS) s.heap.objs.size nf (fun i=>ns.getD i 0) (fun i v e=>IntsAre.int_at hi i v (by rw [Array.getElem?_toList];exact e)) hb (its.size-0) 0 _ (by omega) (Nat.zero_le _) ⟨⟨_,Heap.get?_push_size _ rfl,rfl,rfl⟩,l1.push _⟩ ?_ fun s' mv x=>?_
    ·exact (xC (JG _ gS)).congr (fun _=>rfl) rfl
    ·obtain ⟨h',g',d',tk',os'⟩:=s'
     have e1:g'=s.gens:=mv.gens
     have e2:d'=s.drawn:=mv.drawn
     have e3:os'=s.os:=mv.os
     subst e1 e2 e3;refine JF (JF ⟨rfl,h',tk',rfl,x,fun b o e=>?_⟩)
     have hb1:b≠s.heap.objs.size:=Nat.ne_of_lt (Heap.lt_size e)
     have hb2:b≠(s.heap.push (jm w)).objs.size:=by
      rw [Heap.size_push];exact Nat.ne_of_lt (Nat.lt_succ_of_lt (Heap.lt_size e))
     exact mv.heap b o (by simp only [mem_cons,not_mem_nil,or_false,not_or];exact ⟨hb1,hb2⟩) (JG _ (JG _ e))
   ·cases r2 with
    | error e=>exact hr2
    | ok f2=>
     cases f2 with
     | ret r=>
      obtain ⟨rfl,h',tk,rfl,x,kp⟩:=hr2;repeat (any_goals (first | assumption | wp_step))
      exact h _ _ x kp
     | _=>exact hr2.elim
  | _=>exact hr.elim
end
theorem lA:entryFor table "set.__iter__"=some Builtin.«frozenset.__iter__»:=entryFor_alias (id' := "frozenset.__iter__") (by kernel_rfl) rfl (by decide +kernel) (by kernel_rfl)
theorem slot_si_next:Slot "set_iterator" "__next__" "set_iterator.__next__":=
 .of (owner := "set_iterator") (n := "__next__") (by rw [typeLookup_type,builtinLookup_eq_fast];kernel_rfl) (by decide +kernel) (by decide +kernel) (by decide +kernel) (by first | exact .inl (by decide +kernel) | exact .inr (by decide +kernel)) (by rw [isSubtype_type];kernel_rfl)
theorem ED:entryFor table "set_iterator.__next__"=some Builtin.«set_iterator.__next__»:=entryFor_of_tree (by kernel_rfl)
theorem EE (a:Value):argsOk "set_iterator.__next__" ⟨[a],[]⟩:=by
 unfold argsOk;rw [signature?_of (id := "set_iterator.__next__") (n:=['_','_','t','x','e','n','_','_']) (o:=['r','o','t','a','r','e','t','i','_','t','e','s']) (by kernel_rfl) (show Manifest.owners.lookup (String.ofList ['r','o','t','a','r','e','t','i','_','t','e','s'].reverse)=some Manifest.sig_set_iterator by kernel_rfl)]
 kernel_rfl
theorem qj {α:Type} (next:Nat->Nat):∀(fuel k:Nat) (l:List α) (out:Array α),l.length=fuel->(pickOrder.go next fuel k l out).toList.Perm (out.toList++l)
 | 0,k,l,out,h=>by
  unfold pickOrder.go;rw [List.length_eq_zero_iff.mp h,append_nil]
 | n+1,k,l,out,h=>by
  unfold pickOrder.go;have lt:next k % l.length<l.length:=Nat.mod_lt _ (by omega)
  generalize next k % l.length=j at lt
  rw [Jz lt];simp only
  have ih:=qj next n (k+1) (l.eraseIdx j) (out.push l[j]) (by rw [List.length_eraseIdx_of_lt lt];omega)
  refine ih.trans ?_
  rw [Array.toList_push,append_assoc];refine List.Perm.append_left _ ?_
  rw [List.singleton_append];rw [List.eraseIdx_eq_take_drop_succ];have e:l=l.take j++l[j]::l.drop (j+1):=by rw [List.getElem_cons_drop,List.take_append_drop]
  conv=>rhs;rw [e]
  exact List.perm_middle.symm
theorem GM {α:Type} (next:Nat->Nat) (xs:Array α):(pickOrder next xs).toList.Perm xs.toList:=by
 unfold pickOrder;have:=qj next xs.size 0 xs.toList #[] (by simp)
 simpa using this
section
variable {P:Program} {w:World} {A:Around} {E:Value->Shared->Prop} {s:Shared} {S it:Addr} {o:Obj} {es:Array (Int×Value)} {ep:Nat} {t:SetTable}
theorem qq (ht:d8 w=true) (ho:s.heap.get? S=some o) (hd:o.data=.set es ep t) (hf:t.fits es.size=true) {sl i:Nat} {Q:Option (Value×Nat)->Shared->Prop} (h:Q (((pickOrder (w.params.setOrder S ep) es)[i]?).map fun e=>(e.2,sl)) s):wpAny (model P w) A (setNext S sl i ep) Q E s:=by
 unfold setNext;refine JE (wpAny_setState_of ho hd hf ?_)
 dsimp only;refine JE ?_
 unfold setsByText;refine JE (wpAny_askSetting (JF ?_))
 show wpAny (model P w) A (if d8 w=true then _ else _) Q E s
 rw [if_pos ht];simp only [bne_self_eq_false,Bool.false_eq_true,if_false]
 refine JE ?_
 unfold setWalk;refine JE (wpAny_setState_of ho hd hf ?_)
 dsimp only;refine JE ?_
 unfold setsByText;refine JE (wpAny_askSetting (JF ?_))
 show wpAny (model P w) A (if d8 w=true then _ else _) _ E s
 rw [if_pos ht];exact JE (wpAny_askSetting (JF (JF h)))
theorem kA (hf:t.fits es.size=true):t.place.size=es.size:=by
 unfold SetTable.fits at hf;rw [Bool.and_eq_true,beq_iff_eq] at hf;exact hf.1
theorem qr (ht:d8 w=false) (tb:Tb (d8 w) t) (hp:(!t.plain&&decide (es.size>1))=false) (ho:s.heap.get? S=some o) (hd:o.data=.set es ep t) (hf:t.fits es.size=true) {sl i:Nat} {Q:Option (Value×Nat)->Shared->Prop}
  (h:Q (match es[SetTable.below t.place sl]?,t.place[SetTable.below t.place sl]? with | some (_,x),some j=>some (x,j+1) | _,_=>none) s):wpAny (model P w) A (setNext S sl i ep) Q E s:=by
 have led:=tb.led ht
 unfold setNext;refine JE (wpAny_setState_of ho hd hf ?_)
 dsimp only;refine JE ?_
 unfold setsByText;refine JE (wpAny_askSetting (JF ?_))
 show wpAny (model P w) A (if d8 w=true then _ else _) Q E s
 rw [if_neg (by rw [ht];exact Bool.false_ne_true)]
 show wpAny (model P w) A (if (!t.plain&&decide (es.size>1))=true then _ else _) Q E s
 rw [if_neg (by rw [hp];exact Bool.false_ne_true)]
 show wpAny (model P w) A ((if (!t.led&&!es.isEmpty)=true then _ else _) >>= _) Q E s
 rw [if_neg (by rw [led];simp)]
 exact JE (JF (JF h))
end
noncomputable def SetIt (h:Heap) (it S:Addr) (f:Value) (i n ep:Nat):Prop:=∃o,h.get? it=some o/\o.cls=.type "set_iterator"/\o.data=.fields #[f,.int i 0,.ref S,.int n 0,.int ep 0]
theorem SetIt.at {h h':Heap} {it S:Addr} {f:Value} {i n ep:Nat} (x:SetIt h it S f i n ep) (k:∀o,h.get? it=some o->h'.get? it=some o):SetIt h' it S f i n ep:=let ⟨o,a,b⟩:=x;⟨o,k o a,b⟩
section
variable {P:Program} {w:World} {A:Around} {E:Value->Shared->Prop} {s:Shared} {S it:Addr} {o:Obj} {es:Array (Int×Value)} {ep:Nat} {t:SetTable} {i n sl nx:Nat} {x:Value} {Q:Option Value->Shared->Prop}
theorem nh (hit:SetIt s.heap it S (.int sl 0) i n ep) (ho:s.heap.get? S=some o) (hd:o.data=.set es ep t) (hf:t.fits es.size=true) (hn:es.size=n)
  (hN:∀(A:Around) (E:Value->Shared->Prop) (R:Option (Value×Nat)->Shared->Prop),R (some (x,nx)) s->wpAny (model P w) A (setNext S sl i ep) R E s)
  (hQ:∀h',SetIt h' it S (.int nx 0) (i+1) n ep->Heap.SameBut it s.heap h'->Q (some x) { s with heap:=h' }):wpAny (model P w) A (pyNext (.ref it)) Q E s:=by
 obtain ⟨oi,gi,ci,di⟩:=hit;have ty:s.TypeIs (.ref it) "set_iterator":=⟨oi,gi,ci⟩
 unfold pyNext;refine JE (wpAny_attempt (wpAny_callSpecial?_slot (name:=Str.ofString "__next__") ty slot_si_next (wpAny_call_entry slot_si_next ty ED ?_ (EE _))))
 unfold Builtin.«set_iterator.__next__»
 refine JE (JF ?_)
 refine JE (wpAny_fieldsOf gi di ?_)
 dsimp only;refine JE (wpAny_setEntries_of ho hd hf ?_)
 rw [if_neg (by rw [hn];simp)]
 simp only [Int.toNat_natCast]
 refine JE (hN _ _ _ ?_)
 dsimp only;refine JE (wpAny_setField gi di (by simp) ?_)
 have g1:=Heap.get?_update_self (Obj.mapFields (·.setIfInBounds 0 (rawInt nx))) gi (Obj.isFreed_of_fields (Obj.data_mapFields di _))
 have d1:=Obj.data_mapFields di (·.setIfInBounds 0 (rawInt nx))
 refine JE (wpAny_setField g1 d1 (by simp) (JF ⟨x,rfl,JF (hQ _ ?_ ((Heap.SameBut.update ..).trans (Heap.SameBut.update ..)))⟩))
 refine ⟨_,Heap.get?_update_self _ g1 (Obj.isFreed_of_fields (Obj.data_mapFields d1 _)),(Obj.cls_mapFields ..).trans ((Obj.cls_mapFields ..).trans ci),?_⟩
 rw [Obj.data_mapFields d1];simp [rawInt]
theorem qy (hh:A.handled=none) (hit:SetIt s.heap it S (.int sl 0) i n ep) (ho:s.heap.get? S=some o) (hd:o.data=.set es ep t) (hf:t.fits es.size=true) (hn:es.size=n)
  (hN:∀(A:Around) (E:Value->Shared->Prop) (R:Option (Value×Nat)->Shared->Prop),R none s->wpAny (model P w) A (setNext S sl i ep) R E s)
  (hQ:∀h',Heap.ExtBut it s.heap h'->Q none { s with heap:=h' }):wpAny (model P w) A (pyNext (.ref it)) Q E s:=by
 obtain ⟨oi,gi,ci,di⟩:=hit;have ty:s.TypeIs (.ref it) "set_iterator":=⟨oi,gi,ci⟩
 unfold pyNext;refine JE (wpAny_attempt (wpAny_callSpecial?_slot (name:=Str.ofString "__next__") ty slot_si_next (wpAny_call_entry slot_si_next ty ED ?_ (EE _))))
 unfold Builtin.«set_iterator.__next__»
 refine JE (JF ?_)
 refine JE (wpAny_fieldsOf gi di ?_)
 dsimp only;refine JE (wpAny_setEntries_of ho hd hf ?_)
 rw [if_neg (by rw [hn];simp)]
 simp only [Int.toNat_natCast]
 refine JE (hN _ _ _ ?_)
 dsimp only;refine JE (wpAny_setField gi di (by simp) ?_)
 refine JE ?_
 simp only [newExc,newTuple]
 refine JE (wpAny_newObj_type ?_ (by size_fits))
 refine JE (m:=firstArgMember _ _) (wpAny_of_eq (a:=Value.none) (by first | rfl | (simp only [firstArgMember];rfl)) ?_)
 refine wpAny_newObj_type ?_ (by size_fits)
 simp only [raiseNew]
 refine JE (wpAny_handled ?_)
 rw [show A.in1.handled=none from hh];refine JE (JF (wpAny_throw ?_))
 refine JE (wpAny_isInstance (T := "StopIteration") (b:=true) ⟨_,Heap.get?_push_size _ rfl,rfl⟩ isSubtype_stop ?_)
 exact JF (hQ _ (((Heap.SameBut.update ..).extBut.push _).push _))
end
theorem gE:Slot "set_iterator" "__iter__" "set_iterator.__iter__":=
 .of (owner := "set_iterator") (n := "__iter__") (by rw [typeLookup_type,builtinLookup_eq_fast];kernel_rfl) (by decide +kernel) (by decide +kernel) (by decide +kernel) (by first | exact .inl (by decide +kernel) | exact .inr (by decide +kernel)) (by rw [isSubtype_type];kernel_rfl)
theorem kb:entryFor table "set_iterator.__iter__"=some Builtin.«dict_keyiterator.__iter__»:=entryFor_alias (id' := "dict_keyiterator.__iter__") (by kernel_rfl) (by first | rfl | decide +kernel) (by decide +kernel) (by kernel_rfl)
theorem lO (a:Value):argsOk "set_iterator.__iter__" ⟨[a],[]⟩:=by
 unfold argsOk;rw [signature?_of (id := "set_iterator.__iter__") (n:=['_','_','r','e','t','i','_','_']) (o:=['r','o','t','a','r','e','t','i','_','t','e','s']) (by kernel_rfl) (show Manifest.owners.lookup (String.ofList ['r','o','t','a','r','e','t','i','_','t','e','s'].reverse)=some Manifest.sig_set_iterator by kernel_rfl)]
 kernel_rfl
section
variable {P:Program} {w:World} {A:Around} {E:Value->Shared->Prop} {s:Shared} {S it:Addr} {o:Obj} {es:Array (Int×Value)} {ep:Nat} {t:SetTable} {i n:Nat} {f:Value}
theorem FJ {Q:Value->Shared->Prop} (hit:SetIt s.heap it S f i n ep) (h:Q (.ref it) s):wpAny (model P w) A (pyIter (.ref it)) Q E s:=by
 obtain ⟨oi,gi,ci,_⟩:=hit;have ty:s.TypeIs (.ref it) "set_iterator":=⟨oi,gi,ci⟩
 refine wpAny_pyIter_slot ty gE (wpAny_call_entry gE ty kb ?_ (lO _))
 show wpAny _ _ (ret (.ref it)) _ _ s
 exact JF ⟨_,rfl, "set_iterator",_,ty,slot_si_next.lookup,h⟩
theorem vN (hh:A.handled=none) (ht:d8 w=true) (hne:S≠it) (hd:o.data=.set es ep t) (hf:t.fits es.size=true) (hn:es.size=n) :
  Walks P w A it [it,S] [it] n (fun i v=>((pickOrder (w.params.setOrder S ep) es).toList.map (·.2))[i]?=some v) (fun i h=>SetIt h it S (.int 0 0) i n ep/\h.get? S=some o) where
 sub:=fun b hb=>by simp at hb;simp [hb]
 frame:=fun _ _ _ st hk=>⟨st.1.at fun o e=>hk it (by simp) o e,hk S (by simp) o st.2⟩
 item:=fun i s Q E hi st hQ=>by
  have hl:(pickOrder (w.params.setOrder S ep) es).size=n:=by rw [<-Array.length_toList,(GM _ es).length_eq,Array.length_toList,hn]
  have hi':i<(pickOrder (w.params.setOrder S ep) es).size:=by rw [hl];exact hi
  refine nh (x:=((pickOrder (w.params.setOrder S ep) es)[i]).2) (nx:=0) st.1 st.2 hd hf hn (fun A E R h=>qq ht st.2 hd hf (by rw [Array.getElem?_eq_getElem hi'];exact h)) fun h' it' sb=>?_
  exact hQ _ h' s.toks (by rw [getElem?_map,Array.getElem?_toList,Array.getElem?_eq_getElem hi'];rfl) ⟨it',sb.extBut S o hne st.2⟩ fun b o hb e=>sb.extBut b o (fun z=>hb (by simp [z])) e
 done:=fun s Q E st hQ=>by
  have hl:(pickOrder (w.params.setOrder S ep) es).size=n:=by rw [<-Array.length_toList,(GM _ es).length_eq,Array.length_toList,hn]
  exact qy hh st.1 st.2 hd hf hn (fun A E R h=>qq ht st.2 hd hf (by rw [Array.getElem?_eq_none (by omega)];exact h)) fun h' eb=>hQ h' s.toks fun b o hb e=>eb b o (fun z=>hb (by simp [z])) e
 self:=fun _ _ _ _ st hQ=>FJ st.1 hQ
noncomputable abbrev qN (t:SetTable) (i:Nat):Nat:=if i=0 then 0 else t.place.getD (i-1) 0+1
theorem mD (tb:Tb (d8 w) t) (hf:t.fits es.size=true) (hi:i<=es.size):SetTable.below t.place (qN t i)=i:=by
 have hs:=kA hf
 unfold qN;by_cases c:i=0
 ·rw [if_pos c,c]
  exact pz
 ·rw [if_neg c,ze (by omega),pA tb.rs (by omega)]
  omega
theorem vO (hh:A.handled=none) (ht:d8 w=false) (tb:Tb (d8 w) t) (hp:(!t.plain&&decide (es.size>1))=false) (hne:S≠it) (hd:o.data=.set es ep t) (hf:t.fits es.size=true) (hn:es.size=n) :
  Walks P w A it [it,S] [it] n (fun i v=>(es.toList.map (·.2))[i]?=some v) (fun i h=>SetIt h it S (.int (qN t i) 0) i n ep/\h.get? S=some o) where
 sub:=fun b hb=>by simp at hb;simp [hb]
 frame:=fun _ _ _ st hk=>⟨st.1.at fun o e=>hk it (by simp) o e,hk S (by simp) o st.2⟩
 item:=fun i s Q E hi st hQ=>by
  have hs:=kA hf
  have hi':i<es.size:=by omega
  have hi2:i<t.place.size:=by omega
  refine nh (x:=(es[i]).2) (nx:=qN t (i+1)) st.1 st.2 hd hf hn (fun A E R h=>qr ht tb hp st.2 hd hf ?_) fun h' it' sb=>?_
  ·rw [mD tb hf (by omega),Array.getElem?_eq_getElem hi',Array.getElem?_eq_getElem hi2]
   have e:qN t (i+1)=t.place[i]+1:=by
    unfold qN;rw [if_neg (by omega),Nat.add_sub_cancel,ze hi2]
   rw [e] at h;exact h
  ·exact hQ _ h' s.toks (by rw [getElem?_map,Array.getElem?_toList,Array.getElem?_eq_getElem hi'];rfl) ⟨it',sb.extBut S o hne st.2⟩ fun b o hb e=>sb.extBut b o (fun z=>hb (by simp [z])) e
 done:=fun s Q E st hQ=>by
  refine qy hh st.1 st.2 hd hf hn (fun A E R h=>qr ht tb hp st.2 hd hf ?_) fun h' eb=>hQ h' s.toks fun b o hb e=>eb b o (fun z=>hb (by simp [z])) e
  rw [mD tb hf (by omega),Array.getElem?_eq_none (by omega)]
  exact h
 self:=fun _ _ _ _ st hQ=>FJ st.1 hQ
theorem pB {src:Source} {n:Nat} {Q:Nat->Shared->Prop} {M:Model} (hn:n≠0) (h:Q (M.w.draws src (s.drawn.get src) % n) { s with drawn:=s.drawn.bump src }):wpAny M A (choose src n) Q E s:=fun _ _ _=>⟨hn,h⟩
theorem rK {α:Type} {M:Model} (n:Nat):∀(l:List α) (s:Shared) {Q:List α->Shared->Prop},l.length=n->(∀l' d,l'.Perm l->Q l' { s with drawn:=d })->wpAny M A (drawOrder n l) Q E s:=by
 induction n with
 | zero=>
  intro l s Q hl h;rw [List.length_eq_zero_iff.mp hl] at h ⊢;have:=h [] s.drawn (List.Perm.refl _)
  have e:s={ s with drawn:=s.drawn }:=by cases s;rfl
  unfold drawOrder;rw [e];exact JF this
 | succ n ih=>
  intro l s Q hl h
  cases l with
  | nil=>cases hl
  | cons a l=>
   unfold drawOrder;refine JE (pB (by simp) ?_)
   have lt:M.w.draws Source.order (s.drawn.get Source.order) % (a::l).length<(a::l).length:=Nat.mod_lt _ (by simp)
   generalize M.w.draws Source.order (s.drawn.get Source.order) % (a::l).length=j at lt
   rw [Jz lt];dsimp only;refine JE (ih _ _ (by rw [List.length_eraseIdx_of_lt lt];omega) fun l' d pm=>JF (h _ d ?_))
   refine (List.Perm.cons _ pm).trans ?_
   rw [List.eraseIdx_eq_take_drop_succ];have e:(a::l)=(a::l).take j++(a::l)[j]::(a::l).drop (j+1):=by rw [List.getElem_cons_drop,List.take_append_drop]
   conv=>rhs;rw [e]
   exact List.perm_middle.symm
end
section
variable {P:Program} {w:World} {A:Around} {E:Value->Shared->Prop} {s:Shared} {S it T:Addr} {o oT:Obj} {es:Array (Int×Value)} {ep c:Nat} {t:SetTable} {i n:Nat} {x:Value} {pl:List Nat} {Q:Option Value->Shared->Prop}
noncomputable abbrev sx (pl:List Nat):Array Value:=(pl.map fun (i:Nat)=>rawInt i).toArray
theorem xk (hit:SetIt s.heap it S (.ref T) i n ep) (ho:s.heap.get? S=some o) (hd:o.data=.set es ep t) (hf:t.fits es.size=true) (hn:es.size=n) (hT:s.heap.get? T=some oT) (dT:oT.data=.seq (sx pl) c)
  {p:Nat} {e:Int×Value} (hp:pl[i]?=some p) (he:es[p]?=some e)
  (hQ:∀h',SetIt h' it S (.ref T) (i+1) n ep->Heap.SameBut it s.heap h'->Q (some e.2) { s with heap:=h' }):wpAny (model P w) A (pyNext (.ref it)) Q E s:=by
 obtain ⟨oi,gi,ci,di⟩:=hit;have ty:s.TypeIs (.ref it) "set_iterator":=⟨oi,gi,ci⟩
 unfold pyNext;refine JE (wpAny_attempt (wpAny_callSpecial?_slot (name:=Str.ofString "__next__") ty slot_si_next (wpAny_call_entry slot_si_next ty ED ?_ (EE _))))
 unfold Builtin.«set_iterator.__next__»
 refine JE (JF ?_)
 refine JE (wpAny_fieldsOf gi di ?_)
 dsimp only;refine JE (wpAny_setEntries_of ho hd hf ?_)
 rw [if_neg (by rw [hn];simp)]
 refine JE (wpAny_seqItems hT dT ?_)
 have e1:(sx pl)[Int.toNat (i:Int)]?=some (rawInt p):=by
  rw [Int.toNat_natCast,getElem?_toArray,getElem?_map,hp];rfl
 dsimp only;rw [e1];simp only [rawInt,Int.toNat_natCast]
 refine JE ?_
 unfold setNextDrawn;refine JE (wpAny_setState_of ho hd hf ?_)
 dsimp only;simp only [bne_self_eq_false,Bool.false_eq_true,if_false]
 rw [he];refine JF ?_
 refine JE (wpAny_setField gi di (by simp) (JF ⟨e.2,rfl,JF (hQ _ ?_ (Heap.SameBut.update ..))⟩))
 refine ⟨_,Heap.get?_update_self _ gi (Obj.isFreed_of_fields (Obj.data_mapFields di _)),(Obj.cls_mapFields ..).trans ci,?_⟩
 rw [Obj.data_mapFields di];simp [rawInt]
theorem Bs (hh:A.handled=none) (hit:SetIt s.heap it S (.ref T) i n ep) (ho:s.heap.get? S=some o) (hd:o.data=.set es ep t) (hf:t.fits es.size=true) (hn:es.size=n) (hT:s.heap.get? T=some oT) (dT:oT.data=.seq (sx pl) c)
  (hp:pl[i]?=none) (hQ:∀h',Heap.ExtBut it s.heap h'->Q none { s with heap:=h' }):wpAny (model P w) A (pyNext (.ref it)) Q E s:=by
 obtain ⟨oi,gi,ci,di⟩:=hit;have ty:s.TypeIs (.ref it) "set_iterator":=⟨oi,gi,ci⟩
 unfold pyNext;refine JE (wpAny_attempt (wpAny_callSpecial?_slot (name:=Str.ofString "__next__") ty slot_si_next (wpAny_call_entry slot_si_next ty ED ?_ (EE _))))
 unfold Builtin.«set_iterator.__next__»
 refine JE (JF ?_)
 refine JE (wpAny_fieldsOf gi di ?_)
 dsimp only;refine JE (wpAny_setEntries_of ho hd hf ?_)
 rw [if_neg (by rw [hn];simp)]
 refine JE (wpAny_seqItems hT dT ?_)
 have e1:(sx pl)[Int.toNat (i:Int)]?=none:=by
  rw [Int.toNat_natCast,getElem?_toArray,getElem?_map,hp];rfl
 dsimp only;rw [e1];dsimp only;refine JE (wpAny_setField gi di (by simp) ?_)
 have g1:=Heap.get?_update_self (Obj.mapFields (·.setIfInBounds 0 (rawInt 0))) gi (Obj.isFreed_of_fields (Obj.data_mapFields di _))
 have d1:=Obj.data_mapFields di (·.setIfInBounds 0 (rawInt 0))
 refine JE (wpAny_setField g1 d1 (by simp) ?_)
 refine JE ?_
 simp only [newExc,newTuple]
 refine JE (wpAny_newObj_type ?_ (by size_fits))
 refine JE (m:=firstArgMember _ _) (wpAny_of_eq (a:=Value.none) (by first | rfl | (simp only [firstArgMember];rfl)) ?_)
 refine wpAny_newObj_type ?_ (by size_fits)
 simp only [raiseNew]
 refine JE (wpAny_handled ?_)
 rw [show A.in1.handled=none from hh];refine JE (JF (wpAny_throw ?_))
 refine JE (wpAny_isInstance (T := "StopIteration") (b:=true) ⟨_,Heap.get?_push_size _ rfl,rfl⟩ isSubtype_stop ?_)
 exact JF (hQ _ ((((Heap.SameBut.update ..).trans (Heap.SameBut.update ..)).extBut.push _).push _))
theorem vP (hh:A.handled=none) (hne:S≠it) (hneT:T≠it) (hd:o.data=.set es ep t) (hf:t.fits es.size=true) (hn:es.size=n) (dT:oT.data=.seq (sx pl) c) (hl:pl.length=n) (hm:∀p∈pl,p<n) :
  Walks P w A it [it,S,T] [it] n (fun i v=>(pl.map fun p=>(es.getD p (0,.none)).2)[i]?=some v) (fun i h=>SetIt h it S (.ref T) i n ep/\h.get? S=some o/\h.get? T=some oT) where
 sub:=fun b hb=>by simp at hb;simp [hb]
 frame:=fun _ _ _ st hk=>⟨st.1.at fun o e=>hk it (by simp) o e,hk S (by simp) o st.2.1,hk T (by simp) oT st.2.2⟩
 item:=fun i s Q E hi st hQ=>by
  have hi':i<pl.length:=by omega
  have hp:pl[i]<es.size:=by
   rw [hn];exact hm _ (getElem_mem hi')
  refine xk st.1 st.2.1 hd hf hn st.2.2 dT (Jz hi') (Array.getElem?_eq_getElem hp) fun h' it' sb=>?_
  refine hQ _ h' s.toks ?_ ⟨it',sb.extBut S o hne st.2.1,sb.extBut T oT hneT st.2.2⟩ fun b o hb e=>sb.extBut b o (fun z=>hb (by simp [z])) e
  rw [getElem?_map,Jz hi'];simp [Array.getD,hp]
 done:=fun s Q E st hQ=>Bs hh st.1 st.2.1 hd hf hn st.2.2 dT (getElem?_eq_none (by omega)) fun h' eb=>hQ h' s.toks fun b o hb e=>eb b o (fun z=>hb (by simp [z])) e
 self:=fun _ _ _ _ st hQ=>FJ st.1 hQ
end
section
variable {P:Program} {w:World} {A:Around} {E:Value->Shared->Prop} {s:Shared} {S:Addr} {o:Obj} {es:Array (Int×Value)} {ep:Nat} {t:SetTable} {Q:Value->Shared->Prop}
theorem jn (es:Array (Int×Value)):(List.range es.size).map (fun p=>(es.getD p (0,.none)).2)=es.toList.map (·.2):=by
 apply List.ext_getElem
 ·simp
 ·intro i h1 h2
  have hi:i<es.size:=by simpa using h1
  simp [Array.getD,hi]
theorem uD (hh:A.handled=none) (ho:s.heap.get? S=some o) (hc:o.cls=.type "set") (hd:o.data=.set es ep t) (hf:t.fits es.size=true) (hb:es.size<scanBound) (tb:Tb (d8 w) t)
  (h:∀(h':Heap) (dr:Drawn) (it:Addr) (fp:List Addr) (us:List Value) (St:Nat->Heap->Prop),(∀b o,s.heap.get? b=some o->h'.get? b=some o)->us.Perm (es.toList.map (·.2))->s.heap.objs.size<=it->(∀b∈fp,b<h'.objs.size/\(b=S\/s.heap.objs.size<=b)) ->
   Walks P w A it fp [it] es.size (fun i v=>us[i]?=some v) St->St 0 h'->Q (.ref it) { s with heap:=h',drawn:=dr }) :
  wpAny (model P w) A (pyIter (.ref S)) Q E s:=by
 have ty:s.TypeIs (.ref S) "set":=⟨o,ho,hc⟩
 have lS:S<s.heap.objs.size:=Heap.lt_size ho
 refine wpAny_pyIter_slot ty F.slot_set_iter (wpAny_call_entry F.slot_set_iter ty lA ?_ (F.args_set_iter_1 _))
 unfold Builtin.«frozenset.__iter__»
 refine JE (JF ?_)
 refine JE ?_
 unfold Builtin.Frozenset.sizeOf;refine JE (wpAny_setEntries_of ho hd hf (JF ?_))
 have hsz:es.size<=sizeLine:=Nat.le_of_lt (Nat.lt_of_lt_of_le hb (by decide))
 have fin:∀(first:Value) (s':Shared) (h1:s'.heap.get? S=some o),Q (.ref s'.heap.objs.size) { s' with heap:=s'.heap.push { cls:=.type "set_iterator",data:=.fields #[first,.int 0 0,.ref S,.int es.size 0,.int ep 0] } } ->
   wpAny (model P w) A.in1 (do
    let e <-setEpoch S
    let r <-newFields "set_iterator" [first,rawInt 0,Value.ref S,rawInt ↑es.size,rawInt ↑e]
    ret r) (fun fin s'=>∃v,fin=Fin.done (Flow.ret v)/\∃T' r,s'.TypeIs v T'/\typeLookup (Value.type T') (Str.ofString "__next__")=pure (some r)/\Q v s') E s':=by
  intro first s' h1 q
  refine JE ?_
  unfold setEpoch;refine JE (wpAny_setState_of h1 hd hf (JF ?_))
  refine JE ?_
  unfold newFields;refine wpAny_newObj_type (JF ⟨_,rfl, "set_iterator",_,⟨_,Heap.get?_push_size _ rfl,rfl⟩,slot_si_next.lookup,?_⟩) (by size_fits)
  exact q
 refine JE ?_
 unfold setDrawn;refine JE (wpAny_setState_of ho hd hf ?_)
 dsimp only;refine JE ?_
 unfold setsByText;refine JE (wpAny_askSetting (JF ?_))
 refine JF ?_
 show wpAny (model P w) A.in1 (if (!d8 w&&(!t.plain&&decide (es.size>1)))=true then _ else _) _ E s
 by_cases hdr:(!d8 w&&(!t.plain&&decide (es.size>1)))=true
 ·rw [if_pos hdr]
  refine JE (rK es.size (List.range es.size) s (by simp) fun pl dr pm=>?_)
  have hl:pl.length=es.size:=by rw [pm.length_eq,List.length_range]
  refine JE (wpAny_newTuple ?_ (by rw [length_map,hl];exact hsz))
  refine fin _ _ (JG _ ho) ?_
  have gT:(s.heap.push { cls:=.type "tuple",data:=.seq (sx pl) }).get? s.heap.objs.size=some { cls:=.type "tuple",data:=.seq (sx pl) }:=Heap.get?_push_size _ rfl
  have eI:(s.heap.push { cls:=.type "tuple",data:=.seq (sx pl) }).objs.size=s.heap.objs.size+1:=Heap.size_push ..
  have gI:=Heap.get?_push_size (o:={ cls:=.type "set_iterator",data:=.fields #[.ref s.heap.objs.size,.int 0 0,.ref S,.int es.size 0,.int ep 0] }) (s.heap.push { cls:=.type "tuple",data:=.seq (sx pl) }) rfl
  have W:=vP (P:=P) (w:=w) (A:=A) (it:=(s.heap.push { cls:=.type "tuple",data:=.seq (sx pl) }).objs.size) (S:=S) (T:=s.heap.objs.size) (o:=o) (t:=t) (ep:=ep) (pl:=pl) (c:=0) hh (by rw [eI];exact Nat.ne_of_lt (Nat.lt_succ_of_lt lS)) (by rw [eI];exact Nat.ne_of_lt (Nat.lt_succ_self _)) hd hf rfl (oT:={ cls:=.type "tuple",data:=.seq (sx pl) }) rfl hl fun p hp=>by simpa using pm.mem_iff.mp hp
  refine h _ dr _ [(s.heap.push { cls:=.type "tuple",data:=.seq (sx pl) }).objs.size,S,s.heap.objs.size] (pl.map fun p=>(es.getD p (0,.none)).2) _ (fun b o e=>JG _ (JG _ e)) ?_ ?_ ?_ W ⟨⟨_,gI,rfl,rfl⟩,JG _ (JG _ ho),JG _ gT⟩
  ·rw [<-jn]
   exact pm.map _
  ·show s.heap.objs.size<=(s.heap.push _).objs.size
   rw [Heap.size_push];omega
  ·intro b hb
   show b<((s.heap.push _).push _).objs.size/\_
   rw [Heap.size_push,Heap.size_push];simp only [mem_cons,not_mem_nil,or_false] at hb
   rcases hb with rfl | rfl | rfl
   ·exact ⟨by rw [eI];exact Nat.lt_succ_self _,.inr (by rw [eI];exact Nat.le_succ _)⟩
   ·exact ⟨Nat.lt_succ_of_lt (Nat.lt_succ_of_lt lS),.inl rfl⟩
   ·exact ⟨Nat.lt_succ_of_lt (Nat.lt_succ_self _),.inr (JH _)⟩
 ·rw [if_neg hdr]
  refine JE (JF ?_)
  refine fin _ _ ho ?_
  have kp:∀b o,s.heap.get? b=some o->(s.heap.push { cls:=.type "set_iterator",data:=.fields #[.int 0 0,.int 0 0,.ref S,.int es.size 0,.int ep 0] }).get? b=some o:=fun b o e=>JG _ e
  have fpl:∀b∈[s.heap.objs.size,S],b<(s.heap.push { cls:=.type "set_iterator",data:=.fields #[.int 0 0,.int 0 0,.ref S,.int es.size 0,.int ep 0] }).objs.size/\(b=S\/s.heap.objs.size<=b):=by
   intro b hb;rw [Heap.size_push];simp only [mem_cons,not_mem_nil,or_false] at hb
   rcases hb with rfl | rfl
   ·exact ⟨Nat.lt_succ_self _,.inr (JH _)⟩
   ·exact ⟨Nat.lt_succ_of_lt lS,.inl rfl⟩
  have si:SetIt (s.heap.push { cls:=.type "set_iterator",data:=.fields #[.int 0 0,.int 0 0,.ref S,.int es.size 0,.int ep 0] }) s.heap.objs.size S (.int 0 0) 0 es.size ep:=⟨_,Heap.get?_push_size _ rfl,rfl,rfl⟩
  by_cases ht:d8 w=true
  ·exact h _ s.drawn _ [s.heap.objs.size,S] _ _ kp ((GM (w.params.setOrder S ep) es).map _) (JH _) fpl (vN (o:=o) hh ht (Nat.ne_of_lt lS) hd hf rfl) ⟨si,kp S o ho⟩
  ·have ht':d8 w=false:=by simpa using ht
   rw [ht'] at hdr;have hp:(!t.plain&&decide (es.size>1))=false:=by simpa using hdr
   exact h _ s.drawn _ [s.heap.objs.size,S] _ _ kp (List.Perm.refl _) (JH _) fpl (vO (o:=o) hh ht' tb hp (Nat.ne_of_lt lS) hd hf rfl) ⟨si,kp S o ho⟩
end
section
variable {P:Program} {w:World} {A:Around} {E:Value->Shared->Prop} {s:Shared} {r:Addr}
theorem uI {Q:Bool->Shared->Prop} (hT:s.TypeIs (.ref r) "set") (h:Q false s):wpAny (model P w) A (Builtin.List.listLengthHint (.ref r)) Q E s:=by
 unfold Builtin.List.listLengthHint;refine JE (wpAny_specialOf hT PySem.F.slot_set_len.lookup ?_)
 generalize b8:("set.__len__":String)=id0
 wp_delta
 rw [show splitId id0=some ("set", "__len__") from by subst b8;decide +kernel]
 subst b8;refine JE (wpAny_isInstance (T := "set") (b:=true) hT (by rw [isSubtype_type];kernel_rfl) ?_)
 refine wpAny_ite_split (fun hab=>absurd hab (by decide)) (fun _=>?_)
 refine wpAny_ite_split (fun _=>?_) (fun hab=>absurd (by decide +kernel) hab)
 refine JE (wpAny_typeOf hT ?_)
 exact JF h
variable {o:Obj} {es:Array (Int×Value)} {ep:Nat} {t:SetTable}
theorem xD {R:Result->Shared->Prop} (hh:A.handled=none) (ho:s.heap.get? r=some o) (hc:o.cls=.type "set") (hd:o.data=.set es ep t) (hf:t.fits es.size=true) (hb:es.size<scanBound) (tb:Tb (d8 w) t) (S:Addr) (hSr:S≠r) (res:Value) (hS:s.heap.get? S=some { cls:=.type "list",data:=.seq #[] 0 })
  (hR:∀h' tk dr acc' c',(∀b o,b≠S->s.heap.get? b=some o->h'.get? b=some o)->h'.get? S=some { cls:=.type "list",dict:=none,data:=.seq acc' c',slots:=#[] }->acc'.toList.Perm (es.toList.map (·.2))->R (.ok (.ret res)) { s with heap:=h',toks:=tk,drawn:=dr }) :
  wpAny (model P w) A.in1 (Builtin.List.listExtendWith (.ref S) (.ref r) res)
   (fun fin s'=>match fin with | .done f=>R (.ok f) s' | .again c'=>c'.quiet=true/\codeAny (model P w) A c' R s') (fun e s'=>R (.error e) s') s:=by
 have lS:=Heap.lt_size hS
 have hsz:es.size<=sizeLine:=Nat.le_of_lt (Nat.lt_of_lt_of_le hb (by decide))
 unfold Builtin.List.listExtendWith;refine JE (wpAny_typeOf (T := "set") ⟨o,ho,hc⟩ ?_)
 have h1:Builtin.List.listSameRef (.ref S) (.ref r)=false:=by simp [Builtin.List.listSameRef,hSr]
 have n1:(Value.type "set"==Value.type "list")=false:=by decide
 have n2:(Value.type "set"==Value.type "tuple")=false:=by decide
 simp only [h1,n1,n2,Bool.or_false,Bool.false_eq_true,if_false]
 refine JE (uD hh ho hc hd hf hb tb fun h' dr it fp us St kp pm lI hfp W st=>?_)
 have hSf:S∉fp:=fun hm=>by
  rcases (hfp S hm).2 with e | e
  ·exact hSr e
  ·exact absurd lS (Nat.not_lt_of_le e)
 have hS₁:=kp S _ hS
 have key:∀(h2:Heap) (c₁:Nat),St 0 h2->(∀b o,b≠S->s.heap.get? b=some o->h2.get? b=some o) ->
   h2.get? S=some { cls:=.type "list",data:=.seq #[] c₁ }->codeAny (model P w) A (.builtin "list.extend.loop" ⟨[.ref S,.ref it,res],[]⟩) R { s with heap:=h2,drawn:=dr }:=by
  intro h2 c₁ hst hk hS₁;refine codeAny_extend_loopS W.toS hsz S hSf res es.size 0 _ #[] c₁ rfl (Nat.zero_le _) hst hS₁ (ItemsOf.nil _) fun s' acc' c' hm hS' hacc=>?_
  have e:acc'.toList=us:=by
   apply ext_getElem?
   intro i;have lu:us.length=es.size:=by rw [pm.length_eq,length_map,Array.length_toList]
   by_cases hi:i<acc'.size
   ·have:=hacc.2 i acc'[i] (Array.getElem?_eq_getElem hi)
    rw [Array.getElem?_toList,Array.getElem?_eq_getElem hi,this]
   ·rw [Array.getElem?_toList,Array.getElem?_eq_none (by omega),getElem?_eq_none (by have:=hacc.1;omega)]
  rw [Moved.eq_with hm];refine hR s'.heap s'.toks dr acc' c' (fun b o hb e=>hm.heap b o (fun hmem=>?_) (hk b o hb e)) hS' (by rw [e];exact pm)
  rcases Jy hmem with e' | hmem
  ·exact hb e'
  ·exact absurd (Heap.lt_size e) (by rw [List.mem_singleton.mp hmem];exact Nat.not_lt_of_le lI)
 refine JE (wpAny_holding (uI (r:=r) ⟨o,kp r o ho,hc⟩ ?_))
 refine wpAny_ite_split (fun _=>?_) (fun _=>JF ⟨plainId_quiet PySem.F.plain_extend_loop _,key _ 0 st (fun b o _ e=>kp b o e) hS₁⟩)
 refine JE (wpAny_rule ?_)
 refine JE ?_
 show wpAny _ _ (updateSeq S (·.push .none) >>= fun _=>updateSeq S (·.pop)) _ _ _
 refine JE (wpAny_updateSeq hS₁ rfl ?_)
 have hS₂:=Heap.get?_update_self (Obj.mapSeq (·.push Value.none)) hS₁ rfl
 refine wpAny_updateSeq (hz:=by seq_fits) hS₂ rfl ?_
 have hS₃:=Heap.get?_update_self (Obj.mapSeq (·.pop)) hS₂ rfl
 refine JF ⟨plainId_quiet PySem.F.plain_extend_loop _,key _ _ ?_ (fun b o hb e=>?_) hS₃⟩
 ·refine W.frame 0 _ _ st fun b hb o e=>?_
  have hbS:b≠S:=fun h=>hSf (h▸hb)
  exact (Heap.get?_update_other _ _ (Ne.symm hbS)).trans ((Heap.get?_update_other _ _ (Ne.symm hbS)).trans e)
 ·exact (Heap.get?_update_other _ _ (Ne.symm hb)).trans ((Heap.get?_update_other _ _ (Ne.symm hb)).trans (kp b o e))
theorem nT {R:List Value->Shared->Prop} (hh:A.handled=none) (ho:s.heap.get? r=some o) (hc:o.cls=.type "set") (hd:o.data=.set es ep t) (hf:t.fits es.size=true) (hb:es.size<scanBound) (tb:Tb (d8 w) t)
  (h:∀(h':Heap) (tk:Nat) (dr:Drawn) (us:List Value),(∀b o,s.heap.get? b=some o->h'.get? b=some o)->us.Perm (es.toList.map (·.2))->R us { s with heap:=h',toks:=tk,drawn:=dr }) :
  wpAny (model P w) A (collect (.ref r)) R E s:=by
 have lr:=Heap.lt_size ho
 unfold collect;refine JE (wpAny_runValue (codeAny_builtin entry_proto_collect' ?_))
 rw [Around.under_plainId PySem.F.plain_proto_collect _];show wpAny _ A.in1 (newList [] >>= fun l=>again (.builtin "list.__iadd__" ⟨[l,.ref r],[]⟩)) _ _ s
 refine JE (wpAny_newObj_type ?_)
 refine JF ⟨plainId_quiet PySem.F.plain_list_iadd _,codeAny_builtin entry_list_iadd' ?_⟩
 rw [Around.under_plainId PySem.F.plain_list_iadd _];have hS₁:(s.heap.push { cls:=.type "list",data:=.seq ([]:List Value).toArray }).get? s.heap.objs.size=some { cls:=.type "list",data:=.seq #[] }:=Heap.get?_push_size _ rfl
 show wpAny _ A.in1 (Builtin.List.listExtendWith (.ref s.heap.objs.size) (.ref r) (.ref s.heap.objs.size)) _ _ _
 have key:=xD (P:=P) (w:=w) (A:=A) (s:={ s with heap:=s.heap.push { cls:=.type "list",data:=.seq ([]:List Value).toArray } })
  (R:=fun (q:Result) (s':Shared)=>∃(h':Heap) (tk:Nat) (dr:Drawn) (acc':Array Value) (c':Nat),q=.ok (.ret (.ref s.heap.objs.size))/\s'={ s with heap:=h',toks:=tk,drawn:=dr } /\
   (∀b o,s.heap.get? b=some o->h'.get? b=some o)/\h'.get? s.heap.objs.size=some { cls:=.type "list",dict:=none,data:=.seq acc' c',slots:=#[] }/\acc'.toList.Perm (es.toList.map (·.2)))
  hh (JG _ ho) hc hd hf hb tb s.heap.objs.size (Nat.ne_of_gt lr) (.ref s.heap.objs.size) hS₁
  (fun h' tk dr acc' c' hk hS' hacc=>⟨h',tk,dr,acc',c',rfl,rfl,fun b o e=>hk b o (Nat.ne_of_lt (Heap.lt_size e)) (JG _ e),hS',hacc⟩)
 refine wpAny_mono key (fun fin s' x=>?_) fun e s' x=>?_
 ·cases fin with
  | done f=>
   obtain ⟨h',tk,dr,acc',c',e,rfl,hk,hS',hacc⟩:=x
   cases e;show wpAny _ A (load s.heap.objs.size >>= _) _ _ _
   refine JE (wpAny_load hS' ?_)
   exact JF (h h' tk dr acc'.toList hk hacc)
  | again c₁=>
   refine ⟨x.1,codeAny_mono x.2 fun q s₂ y=>?_⟩
   obtain ⟨h',tk,dr,acc',c',rfl,rfl,hk,hS',hacc⟩:=y;show wpAny _ A (load s.heap.objs.size >>= _) _ _ _
   refine JE (wpAny_load hS' ?_)
   exact JF (h h' tk dr acc'.toList hk hacc)
 ·obtain ⟨_,_,_,_,_,e',_⟩:=x
  cases e'
end
noncomputable def ik (ns:List Int):List Int:=firstMet (fun i=>ns.getD i 0) ns.length
theorem iz:∀(l m:List Int),l.Nodup->(∀x∈l,x∈m)->m.length=l.length->m.Perm l
 | [],m,_,_,h=>by rw [List.length_eq_zero_iff.mp h]
 | a::l,m,nd,hm,h=>by
  have ha:a∈m:=hm a mem_cons_self
  obtain ⟨na,nl⟩:=List.nodup_cons.mp nd;have ih:=iz l (m.erase a) nl (fun x hx=>(List.mem_erase_of_ne (fun e:x=a=>na (e▸hx))).mpr (hm x (JB _ hx))) (by rw [List.length_erase_of_mem ha,h,length_cons];omega)
  exact (List.perm_cons_erase ha).trans (ih.cons a)
theorem GL (val:Nat->Int):∀i,(firstMet val i).Nodup
 | 0=>nodup_nil
 | i+1=>by
  rw [firstMet_succ];unfold step_dedup;split
  ·exact GL val i
  ·rename_i h
   rw [List.nodup_append];refine ⟨GL val i,by simp,fun a ha b hb e=>h ?_⟩
   rw [List.mem_singleton] at hb;subst hb e;simpa using ha
theorem Gg (ns:List Int):(ik ns).Nodup:=GL _ _
theorem ddp_mem {ns:List Int} {k:Int}:k∈ik ns↔k∈ns:=by
 have:=firstMet_any (fun i=>ns.getD i 0) ns.length k
 have e:(List.range ns.length).map (fun i=>ns.getD i 0)=ns:=by
  apply List.ext_getElem
  ·simp
  ·intro i h1 h2
   simp [List.getD,h2]
 rw [e] at this;unfold ik;rw [<-any_eq_true (p:=(·==k)) |>.trans ⟨fun ⟨x,h,e⟩=>by rwa [<-eq_of_beq e],fun h=>⟨k,h,by simp⟩⟩,this]
 exact List.any_eq_true.trans ⟨fun ⟨x,h,e⟩=>by rwa [<-eq_of_beq e],fun h=>⟨k,h,by simp⟩⟩
theorem kz {P:Program} {w:World}:∀(us:List Value),(∀u∈us,∃k,(intKind P w).is k u=true)->∃ns,IntsAre us ns
 | [],_=>⟨[],.nil⟩
 | u::us,h=>by
  obtain ⟨k,e⟩:=h u mem_cons_self;obtain ⟨t,rfl⟩:=Value.isInt_shape e;obtain ⟨ns,x⟩:=kz us fun v hv=>h v (JB _ hv)
  exact ⟨_,.cons _ _ x⟩
theorem ni {P:Program} {w:World} {k:Int}:∀{us:List Value} {ns:List Int},IntsAre us ns->(∃u∈us,(intKind P w).is k u=true)->k∈ns
 | _,_,.nil,⟨u,hu,_⟩=>by cases hu
 | _,_,.cons i t x,⟨u,hu,e⟩=>by
  rcases Jy hu with rfl | hu
  ·obtain ⟨t',e'⟩:=Value.isInt_shape (show Value.isInt k (Value.int i t)=true from e)
   cases e'
   exact mem_cons_self
  ·exact JB _ (ni x ⟨u,hu,e⟩)
theorem nj:∀{us:List Value} {ns:List Int},IntsAre us ns->us.length=ns.length
 | _,_,.nil=>rfl
 | _,_,.cons _ _ x=>by rw [length_cons,length_cons,nj x]
theorem L2Inv.drawn {X:Cx} {pins:List (Addr×Obj)} {σ:List (Option V)} {H:Hp} {s:Shared} (I:L2.Inv X pins σ H s) (d:Drawn):L2.Inv X pins σ H { s with drawn:=d }:=
 ⟨I.ok,I.os,I.bare,I.base,I.loc,I.cell,I.free,I.freeC,I.pin,I.hok,I.len⟩
theorem DN:bootBuiltins "set"=some (.type "set"):=by decide +kernel
noncomputable def Im (K:Fg) (ta:TA):TE:=fun σ H Q=>ta σ H fun vs H1=>∃(p:Addr) (ns:List Int),vs=[.ref p]/\SqL K H1 p (ns.map V.int)/\ns.length<4000/\(ik ns).length<64/\∀l,H1 l=none->Q (.ref l) (b9 H1 l (.lst ((PySem.W.sortI (ik ns)).map V.int)))
theorem oI {X:Cx} {a:Expr} {ta:TA} {p p2 pos pos2:Pos} (hg:Gl X "sorted") (hm:X.mg "sorted"=none) (hg2:Gl X "set") (hm2:X.mg "set"=none) (hc:X.calm=true) (ha:PA X [a] ta) (hs:starEach [a] X.env=[(false,eval a X.env)])
  (hs1:starEach [.Call (.Name "set" p2) [a] [] pos2] X.env=[(false,eval (.Call (.Name "set" p2) [a] [] pos2) X.env)]):PE X (.Call (.Name "sorted" p) [.Call (.Name "set" p2) [a] [] pos2] [] pos) (Im X.K ta):=by
 intro pins s σ H Q I h;refine wpAny_Call_Name_kw (vo I hg hm nV (PyProof.Rows.callWith_builtin1 ?_ hs1 rfl))
 rw [hs1];show wpAny _ _ (spliced ((false,eval (.Call (.Name "set" p2) [a] [] pos2) X.env)::[])) _ _ s
 refine Calls.spliced_cons (Call_ (vo I hg2 hm2 DN (PyProof.Rows.callWith_type1 (b5 (ha pos2 pins s σ H _ I h) fun us s1 ⟨vs,H1,I1,r1,q1⟩=>?_) hs rfl)))
 obtain ⟨pa,ns,e,hS,q1,q2,q⟩:=q1;subst e;obtain ⟨u,rfl,ru⟩:=r1.one
 cases ru;obtain ⟨its,r,pl,hz⟩:=I1.list hS;have hI:=Ec r
 have hl:its.length=ns.length:=by rw [<-r.length,length_map]
 have hl':its.toArray.size=ns.length:=by rw [size_toArray,hl]
 refine pq (ns:=ns) (I.ok.hd hc) pl.isList (by simpa using hI) (by rw [hl'];have:scanBound=4096:=rfl;omega) fun h1 tk1 st kp1=>?_
 rw [hl'] at st;refine Calls.spliced_nil ?_
 have I2:L2.Inv X pins σ H1 { s1 with heap:=h1,toks:=tk1 }:=I1.kept (t':=tk1) kp1
 obtain ⟨o,es,ep,t,ho,hex,hd,hel,hmem,hb,hf,hn,tb⟩:=st;refine Calls.call_function_entry kind_sorted plain_sorted entry_sorted (args_sorted1 _) ?_
 unfold Builtin.«sorted»
 refine JE (m:=checkCount "sorted" 1 1 _) (JF ?_)
 refine JE (nT (I.ok.hd hc) ho hex.1 hd hf hb tb fun h' tk dr us hk pm=>?_)
 have hlu:us.length=(ik ns).length:=by
  rw [pm.length_eq,length_map,Array.length_toList,hn];rfl
 obtain ⟨zs,hZ⟩:=kz (P:=X.prog) (w:=X.w) us fun u hu=>by
  obtain ⟨e,he,rfl⟩:=List.mem_map.mp (pm.mem_iff.mp hu);obtain ⟨k,hk,_⟩:=(hel e he).1;exact ⟨k,hk⟩
 have hpz:zs.Perm (ik ns):=by
  refine iz (ik ns) zs (Gg ns) (fun k hk=>?_) ?_
  ·obtain ⟨e,he,hx⟩:=(hmem k).mp (List.any_eq_true.mpr ⟨k,hk,by simp⟩)
   exact ni (P:=X.prog) (w:=X.w) hZ ⟨e.2,pm.mem_iff.mpr (List.mem_map.mpr ⟨e,he,rfl⟩),hx⟩
  ·rw [<-hlu,nj hZ]
 have hb2:=kr (n:=(ik ns).length) (by omega)
 refine JE (wpAny_newList ?_ (by rw [hlu];omega))
 have hoL:(h'.push { cls:=.type "list",data:=.seq us.toArray }).get? h'.objs.size=some (seqObj "list" us.toArray 0):=Heap.get?_push_size _ rfl
 refine JE (wpAny_holding (wpAny_call_entry slot_list_sort ⟨_,hoL,rfl⟩ entry_list_sort (list_sort_tree hoL hZ (by rw [hlu];exact q2) fun out ns' a1 a2 a3=>⟨_,rfl,?_⟩) (args_list_sort _)))
 have e:=PySem.W.eq_sortI (a2.trans hpz) a3
 subst e;have hlen:(PySem.W.sortI (ik ns)).length=(ik ns).length:=(PySem.W.sortI_perm _).length_eq
 obtain ⟨n,ho'⟩:=sortedHeap_at (out:=out) hoL
 have I3:L2.Inv X pins σ H1 { s1 with heap:=h',toks:=tk,drawn:=dr }:=L2Inv.drawn (I2.kept (t':=tk) hk) dr
 have kk:∀b o,h'.get? b=some o->(sortedHeap (h'.push { cls:=.type "list",data:=.seq us.toArray }) h'.objs.size us out).get? b=some o:=fun b o e=>by
  have hlt:=Heap.lt_size e
  rw [sortedHeap_old (Nat.ne_of_lt hlt) (by rw [Heap.size_push];exact Nat.lt_succ_of_lt hlt)]
  exact JG _ e
 exact JF ⟨_,rfl,.ref h'.objs.size,b9 H1 h'.objs.size (.lst ((PySem.W.sortI (ik ns)).map V.int)),I3.laid (t':=tk) kk (JH _) ⟨by rw [length_map,hlen];omega,out.toList,n,vals_of a1,by simpa [seqObj] using ho'⟩,rfl,q _ (I3.hok.fresh (JH _))⟩
section
variable {K:Fg} {W:XW} {σ:St} {H:Hp} {Q:VK} {fa:F1} {fl:FL}
noncomputable def fF (fl:FL):F1:=fun Γ=>(fl Γ).bind fun ps Γ'=>match sortArg (ps.map (·.d)) with
 | some ns=>if ns.length<4000/\(ik ns).length<64 then .ok ⟨.lst .leaf,.list ((PySem.W.sortI (ik ns)).map .int)⟩ Γ' else .no
 | none=>.no
theorem tK (h:tE K W (fF fl) σ H Q):Im K (tA K W fl) σ H Q:=by
 obtain ⟨He,O,Fs,Γ,E,h⟩:=h;refine ⟨He,O,Fs,Γ,E,?_⟩
 unfold fF at h
 cases e:fl Γ with
 | er c Γ'=>rw [e] at h;exact h
 | no=>rw [e] at h;exact h
 | ok ps Γ1=>
  rw [e] at h;intro vs H1 Gs Fs1 A;have r:=A.reps
  have h:Wants K W He O Fs H σ Q (match sortArg (ps.map (·.d)) with | some ns=>if ns.length<4000/\(ik ns).length<64 then .ok ⟨.lst .leaf,.list ((PySem.W.sortI (ik ns)).map .int)⟩ Γ1 else .no | none=>.no):=h
  cases ei:sortArg (ps.map (·.d)) with
   | none=>rw [ei] at h;exact h.elim
   | some ns=>
    rw [ei] at h;rw [i4 ei] at r;have h:Wants K W He O Fs H σ Q (if ns.length<4000/\(ik ns).length<64 then .ok ⟨.lst .leaf,.list ((PySem.W.sortI (ik ns)).map .int)⟩ Γ1 else .no):=h
    by_cases hn:ns.length<4000/\(ik ns).length<64
    ·rw [if_pos hn] at h
     have hl:=r.1
     match vs,hl with
     | [v],_=>
      have q:=r.2 0 v (.list (ns.map .int)) rfl rfl
      cases q with
      | @lst p ws _ hq hwl hw=>
       have ew:ws=ns.map V.int:=by
        apply ext_getElem?
        intro i;by_cases hi:i<ws.length
        ·have hi2:i<ns.length:=by rw [length_map] at hwl;omega
         have q:=hw i (ws[i]'hi) (.int (ns[i]'hi2)) (Jz _) (by rw [getElem?_map,Jz hi2];rfl)
         rw [Jz hi,getElem?_map,Jz hi2];generalize ws[i]'hi=u at q
         cases q;rfl
        ·rw [getElem?_eq_none (by omega),getElem?_eq_none (by rw [length_map] at hwl ⊢;omega)]
       rw [ew] at hq;refine ⟨p,ns,rfl,hq,hn.1,hn.2,fun l hl=>h _ _ _ _ (A.newSc E.ndO hl (by simp) fun i v d a1 a2=>?_)⟩
       rw [getElem?_map] at a1 a2
       cases e3:(PySem.W.sortI (ik ns))[i]? with
       | none=>rw [e3] at a1;cases a1
       | some z=>
        rw [e3] at a1 a2
        cases a1
        cases a2;exact .int z
    ·rw [if_neg hn] at h;exact h.elim
end
section
variable {X:Cx} {N gl:List Str} {vs cs ls lo gs:List Nat} {W:XW} {a:Expr} {p pos:Pos} {fl:FL}
theorem cb_sortSet {p2 pos2:Pos} (S:Cp X N gl vs cs ls lo gs) (j k:Nat) (hj:gl[j]?=some ("sorted":Str)) (hg:gs.contains j=true) (hm:X.mg "sorted"=none) (hk:gl[k]?=some ("set":Str)) (hg2:gs.contains k=true) (hm2:X.mg "set"=none) (ha:PA X [a] (tA X.K W fl)) (hs:starEach [a] X.env=[(false,eval a X.env)])
  (hs1:starEach [.Call (.Name "set" p2) [a] [] pos2] X.env=[(false,eval (.Call (.Name "set" p2) [a] [] pos2) X.env)]):PE X (.Call (.Name "sorted" p) [.Call (.Name "set" p2) [a] [] pos2] [] pos) (tE X.K W (fF fl)):=
 br (oI (S.g hj hg).1 hm (S.g hk hg2).1 hm2 S.calm ha hs hs1) fun _ _ _=>tK
end
end T
namespace TQ
open PySem PySem.Spec L2 T
open PyProof.Rows hiding St
section
variable {X:Cx} {N gl:List Str} {vs cs ls lo gs:List Nat} {W:XW} {a:Expr} {p pos:Pos} {fl:FL}
theorem kQ {p2 pos2:Pos} (S:Cp X N gl vs cs ls lo gs) (j k:Nat) (hj:gl[j]?=some ("sorted":Str)) (hg:gs.contains j=true) (hm:X.mg "sorted"=none) (hk:gl[k]?=some ("set":Str)) (hg2:gs.contains k=true) (hm2:X.mg "set"=none) (ha:Q (PA X [a] (tA X.K W fl))) (hs:starEach [a] X.env=[(false,eval a X.env)])
  (hs1:starEach [.Call (.Name "set" p2) [a] [] pos2] X.env=[(false,eval (.Call (.Name "set" p2) [a] [] pos2) X.env)]):Q (PE X (.Call (.Name "sorted" p) [.Call (.Name "set" p2) [a] [] pos2] [] pos) (tE X.K W (fF fl))):=⟨T.cb_sortSet S j k hj hg hm hk hg2 hm2 ha.p hs hs1⟩
end
end TQ
namespace KC
open PySem PySem.Spec L2 T
open PyProof.Rows hiding St
noncomputable def lG:FS:=(aL (eY (dO "int" (ae 0)) (jy (dO "bool" (ae 0)))))
noncomputable def cg:List JI->b4:=aI 1 lG
noncomputable def jE:FS:=(aq (bL (eL (b6 (aF bh (dO "list" (ae 0)))) (aF ah (aw iC (bt aQ (ab (ae 0) af)) (bt aQ (ab (ae 1) af))))) (aL (eK (.bool false))) aG)
  (aq (dW 2 (aS (ae 0))
  (bL (b6 (aF bh (ag 1 cg (ab (ae 2) af)))) (aL (eK (.bool false))) aG))
  (aL (aw bD (ae 0) (ae 1)))))
noncomputable def cI:List JI->b4:=aI 3 jE
noncomputable def nN:FS:=(aL (bJ (ab (cW (ai (ae 0) (eK (.int 0)))) (ab (ax .leaf 1 (aS (ai (ae 0) (eK (.int 1)))) aK (cW (ae 1))) (ab (ax .leaf 1 (aS (ai (ae 0) (eK (.int 2)))) aK (cW (ae 1))) af)))))
noncomputable def d5:List JI->b4:=aI 2 nN
noncomputable def lJ:FS:=(aq (ay false 1 (ax .leaf 2 (eO (ab (eK (.int 24)) af)) aK (dN (ab (bb .leaf (ab (aw bH (aw aR (ae 2) (eK (.int 1))) (eK (.int 24))) (ab (ai (bb .leaf (ab (aw bH (aw aR (ae 2) (eK (.int 1))) (eK (.int 24))) (ab (eK (.int 0)) af))) (aw bH (ae 0) (eK (.int 2)))) af))) af))))
  (aq (ay false 1 (ax .leaf 3 (aS (ae 1)) aK (fF (ab (ae 3) af))))
  (aL (bJ (ab (ax .leaf 2 (eO (ab (eK (.int 24)) af)) aK (aw bH (ae 2) (eK (.int 2)))) (ab (ax .leaf 2 (eO (ab (eK (.int 24)) af)) aK (rH (aF ah (aw bD (ae 2) (aw bH (ae 0) (eK (.int 24))))) (bb .leaf (ab (eK (.str "a")) af)) (bb .leaf af))) (ab (ae 1) af)))))))
noncomputable def cJ:List JI->b4:=aI 4 lJ
noncomputable def d_law:FS:=(aq (ay false 1 (ag 3 m__law_world (ab (ae 0) (ab (eK (.int 0)) (ab (eK (.int 6)) af)))))
  (aq (bL (aF ah (aw bD (aw bH (ag 2 az (ab (ae 0) (ab (eK (.int 23)) af))) (eK (.int 8))) (eK (.int 1)))) (ay false 1 (ag 1 cJ (ab (aw nu (ag 2 az (ab (ae 0) (ab (eK (.int 23)) af))) (eK (.int 8))) af))) aG)
  (aq (ay false 2 (ag 3 cA (ab (ae 0) (ab (eK (.int 8)) (ab (aw aR (eK (.int 1)) (aw bH (ag 2 az (ab (ae 0) (ab (eK (.int 7)) af))) (eK (.int 14)))) af)))))
  (aq (bL (aF ah (aw jw (ag 1 bU (ab (ae 2) af)) (eK (.int 60)))) (ay false 2 (ai (ae 2) (eK (.int 1)))) aG)
  (aq (bL (aF ah (aw jw (ag 1 bU (ab (ae 2) af)) (eK (.int 200)))) (aL (eK (.bool true))) aG)
  (aq (ay false 3 (ag 2 cj (ab (ae 1) (ab (ae 2) af))))
  (aq (ay false 4 (ag 1 d5 (ab (ae 1) af)))
  (aq (dW 5 (eO (ab (eK (.int 2)) af))
  (aq (ay true 6 (ag 2 xa (ab (ae 4) (ab (ae 2) af))))
  (aq (bL (eL (b6 (aF bh (ag 2 cI (ab (ae 6) (ab (ae 3) af))))) (aF ah (aw iC (ae 4) (ae 1)))) (aL (eK (.bool false))) aG)
  (aE 6 (eK (.int 0))))))
  (aL (eK (.bool true)))))))))))
noncomputable def m_law:List JI->b4:=aI 7 d_law
open PySem.SeqAt
theorem xN {n:Nat} {l:List Nat} (h:∀x∈l,x<n):(ik (l.map fun t:Nat=>(t:Int))).length<=n:=by
 have nd:=Gg (l.map fun t:Nat=>(t:Int))
 have m:∀x∈ik (l.map fun t:Nat=>(t:Int)),0<=x/\x.toNat<n:=fun x hx=>by
  obtain ⟨t,ht,rfl⟩:=List.mem_map.mp (ddp_mem.mp hx);exact ⟨by omega,by simpa using h t ht⟩
 have:=Fv (n:=n) (p:=(ik (l.map fun t:Nat=>(t:Int))).map Int.toNat) ?_ ?_
 ·rwa [length_map] at this
 ·rw [List.Nodup,pairwise_map]
  exact List.Pairwise.imp_of_mem (fun ha hb hab e=>hab (by have:=m _ ha;have:=m _ hb;omega)) nd
 ·intro x hx
  obtain ⟨t,ht,rfl⟩:=List.mem_map.mp hx;exact (m t ht).2
theorem tf {n:Nat} {l:List Nat} (h:∀x∈l,x<n):PySem.W.sortI (ik (l.map fun t:Nat=>(t:Int)))=((List.range n).filter fun r=>l.contains r).map fun t:Nat=>(t:Int):=by
 refine (PySem.W.eq_sortI ?_ ?_).symm
 ·refine (List.perm_ext_iff_of_nodup ?_ (Gg _)).mpr fun x=>?_
  ·rw [List.Nodup,pairwise_map]
   exact (List.nodup_range.filter _).imp fun h e=>h (by omega)
  ·rw [ddp_mem,mem_map,mem_map]
   constructor
   ·rintro ⟨t,ht,rfl⟩
    exact ⟨t,by simpa using (List.mem_filter.mp ht).2,rfl⟩
   ·rintro ⟨t,ht,rfl⟩
    exact ⟨t,List.mem_filter.mpr ⟨List.mem_range.mpr (h t ht),by simpa using ht⟩,rfl⟩
 ·rw [pairwise_map]
  exact (List.pairwise_lt_range.filter _).imp fun h=>by omega
theorem vQ {Γ:Ev} {fl:FL} {s:Sh} {n:Nat} {l:List Nat} (hl:fl Γ=.ok [⟨s,aA l⟩] Γ) (h:∀x∈l,x<n) (hn:n<64) (h4:l.length<4000):fF fl Γ=.ok ⟨.lst .leaf,aA ((List.range n).filter fun r=>l.contains r)⟩ Γ:=by
 unfold fF;rw [hl];have e:T.sortArg ([(⟨s,aA l⟩:PV)].map (·.d))=some (l.map fun t:Nat=>(t:Int)):=by
  show T.intsOf (l.map rm)=_
  rw [Eh,Ey]
 have c:(l.map fun t:Nat=>(t:Int)).length<4000/\(ik (l.map fun t:Nat=>(t:Int))).length<64:=⟨by rw [length_map];exact h4,Nat.lt_of_le_of_lt (xN h) hn⟩
 show (match T.sortArg ([(⟨s,aA l⟩:PV)].map (·.d)) with | some ns=>if ns.length<4000/\(ik ns).length<64 then Out.ok (⟨.lst .leaf,.list ((PySem.W.sortI (ik ns)).map .int)⟩:PV) Γ else .no | none=>.no)=_
 rw [e];dsimp only;rw [if_pos c,tf h,<-Eh]
theorem vR {Γ:Ev} {fl:FL} {s:Sh} {ns:List Int} (hl:fl Γ=.ok [⟨s,.list (ns.map .int)⟩] Γ) (h:ns.length<64):dN fl Γ=.ok ⟨.lst .leaf,.list ((PySem.W.sortI ns).map .int)⟩ Γ:=by
 unfold dN;rw [hl];show (match T.intsOf (ns.map .int) with | some ns=>if ns.length<64 then Out.ok (⟨.lst .leaf,.list ((PySem.W.sortI ns).map .int)⟩:PV) Γ else .no | none=>.no)=_
 rw [Ey];dsimp only;rw [if_pos h]
noncomputable def gC (a b:Nat):List Nat:=if a<=b then [a,b] else [b,a]
theorem CK {a b:Nat}:PySem.W.sortI [(a:Int),(b:Int)]=(gC a b).map fun t:Nat=>(t:Int):=by
 refine (PySem.W.eq_sortI ?_ ?_).symm
 ·unfold gC
  split
  ·exact List.Perm.refl _
  ·exact List.Perm.swap _ _ _
 ·unfold gC
  split<;>simp<;>omega
theorem two2_mem {a b x:Nat}:x∈gC a b↔x=a\/x=b:=by
 unfold gC;split<;>simp [or_comm]
noncomputable def gA (r:Nat):Nat:=(r+1) % 24
noncomputable def gB (c:Int) (r:Nat):Nat:=if c % 2=0 then (r+1) % 24 else 0
noncomputable def gS (c:Int) (r:Nat):List Nat:=(List.range 24).filter fun x=>(gC (gA r) (gB c r)).contains x
theorem zq {c:Int} {r:Nat}:∀x∈gC (gA r) (gB c r),x<24:=fun x hx=>by
 rcases two2_mem.mp hx with e | e
 ·rw [e];unfold gA;omega
 ·rw [e];unfold gB;split<;>omega
theorem rR {c:Int}:∃os ms ss,cJ [.int c]=.ok ⟨.tup [.lst .leaf,.lst .leaf,.leaf],mq os ms ss⟩/\Gw (24:Nat) 24 os ms ss:=by
 have m0:0<=c % 2:=Int.emod_nonneg _ (by omega)
 have m1:c % 2<2:=Int.emod_lt_of_pos _ (by omega)
 have aM:∀(Γ:Ev) (r:Nat),Γ[2]?=some (JJ (rm r))->aw bH (aw aR (ae 2) (eK (.int 1))) (eK (.int 24)) Γ=.ok ⟨.leaf,rm (gA r)⟩ Γ:=fun Γ r h=>by
  have:=aN (g:=bH) (aN (g:=aR) (aC h) (aW (d:=.int 1)) pI) (aW (d:=.int 24)) (dG (by omega))
  rw [this];show Out.ok (⟨.leaf,.int (((r:Int)+1) % 24)⟩:PV) Γ=_
  have e:((r:Int)+1) % 24=(gA r:Nat):=by unfold gA;omega
  rw [e]
 have c1:ax .leaf 2 (eO (ab (eK (.int 24)) af)) aK (dN (ab (bb .leaf (ab (aw bH (aw aR (ae 2) (eK (.int 1))) (eK (.int 24))) (ab (ai (bb .leaf (ab (aw bH (aw aR (ae 2) (eK (.int 1))) (eK (.int 24))) (ab (eK (.int 0)) af))) (aw bH (ae 0) (eK (.int 2)))) af))) af)) (ak 4 [.int c])=.ok ⟨.lst .leaf,.list ((List.range 24).map fun r=>aA (gC (gA r) (gB c r)))⟩ (ak 4 [.int c]):=by
  refine kP rm (List.range 24) (fun r=>⟨.lst .leaf,aA (gC (gA r) (gB c r))⟩) (st:=true) (vk (n:=24) (s:=.leaf) (by omega) (aD aW ao)) (by simp [ak]) rfl (by simp) fun r hr=>⟨?_,rfl⟩
  have a1:=aM ((ak 4 [.int c]).set 2 (JJ (rm r))) r rfl
  have ix:ai (bb .leaf (ab (aw bH (aw aR (ae 2) (eK (.int 1))) (eK (.int 24))) (ab (eK (.int 0)) af))) (aw bH (ae 0) (eK (.int 2))) ((ak 4 [.int c]).set 2 (JJ (rm r)))=.ok ⟨.leaf,rm (gB c r)⟩ ((ak 4 [.int c]).set 2 (JJ (rm r))):=by
   have li:=pN (s:=.leaf) (aD a1 (aD (aW (d:=.int 0)) ao)) rfl rfl rfl
   have mo:aw bH (ae 0) (eK (.int 2)) ((ak 4 [.int c]).set 2 (JJ (rm r)))=.ok ⟨.leaf,.int (c % 2)⟩ ((ak 4 [.int c]).set 2 (JJ (rm r))):=aN (aC rfl) aW (dG (by omega))
   rcases (by omega:c % 2=0\/c % 2=1) with e | e
   ·rw [e] at mo
    have g:gB c r=gA r:=by unfold gB;rw [if_pos e];rfl
    rw [g];exact yg (j:=0) li mo rfl rfl rfl
   ·rw [e] at mo
    have g:gB c r=0:=by unfold gB;rw [if_neg (by omega)]
    rw [g];exact yg (j:=1) li mo rfl rfl rfl
  have so:=vR (fl:=ab (bb .leaf (ab (aw bH (aw aR (ae 2) (eK (.int 1))) (eK (.int 24))) (ab (ai (bb .leaf (ab (aw bH (aw aR (ae 2) (eK (.int 1))) (eK (.int 24))) (ab (eK (.int 0)) af))) (aw bH (ae 0) (eK (.int 2)))) af))) af) (s:=.lst .leaf) (ns:=[(gA r:Int),(gB c r:Int)]) (aD (pN (s:=.leaf) (aD a1 (aD ix ao)) rfl rfl rfl) ao) (by simp)
  rw [so,CK,<-Eh]
 have c2:ax .leaf 3 (aS (ae 1)) aK (fF (ab (ae 3) af)) ((ak 4 [.int c]).set 1 (JJ (.list ((List.range 24).map fun r=>aA (gC (gA r) (gB c r))))))=.ok ⟨.lst .leaf,.list ((List.range 24).map fun r=>aA (gS c r))⟩ ((ak 4 [.int c]).set 1 (JJ (.list ((List.range 24).map fun r=>aA (gC (gA r) (gB c r)))))):=by
  refine kP (fun r=>aA (gC (gA r) (gB c r))) (List.range 24) (fun r=>⟨.lst .leaf,aA (gS c r)⟩) (st:=true) (dD (s:=.leaf) (aC rfl) rfl) (by simp [ak]) rfl (by simp) fun r hr=>⟨?_,rfl⟩
  exact vQ (s:=.leaf) (l:=gC (gA r) (gB c r)) (n:=24) (aD (aC rfl) ao) zq (by omega) (by unfold gC;split<;>simp)
 let Γ3:Ev:=((ak 4 [.int c]).set 1 (JJ (.list ((List.range 24).map fun r=>aA (gS c r)))))
 have c3:ax .leaf 2 (eO (ab (eK (.int 24)) af)) aK (aw bH (ae 2) (eK (.int 2))) Γ3=.ok ⟨.lst .leaf,.list ((List.range 24).map fun r:Nat=>PyData.int ((r:Int) % 2))⟩ Γ3:=
  kP rm (List.range 24) (fun r=>⟨.leaf,.int ((r:Int) % 2)⟩) (st:=true) (vk (n:=24) (s:=.leaf) (by omega) (aD aW ao)) (by simp [Γ3,ak]) rfl (by simp) fun r hr=>⟨aN (aC rfl) aW (dG (by omega)),rfl⟩
 have c4:ax .leaf 2 (eO (ab (eK (.int 24)) af)) aK (rH (aF ah (aw bD (ae 2) (aw bH (ae 0) (eK (.int 24))))) (bb .leaf (ab (eK (.str "a")) af)) (bb .leaf af)) Γ3=.ok ⟨.lst .leaf,.list ((List.range 24).map fun r:Nat=>if (r:Int)==c % 24 then PyData.list [.str "a"] else .list [])⟩ Γ3:=by
  refine kP rm (List.range 24) (fun r=>⟨.lst .leaf,if (r:Int)==c % 24 then PyData.list [.str "a"] else .list []⟩) (st:=true) (vk (n:=24) (s:=.leaf) (by omega) (aD aW ao)) (by simp [Γ3,ak]) rfl (by simp) fun r hr=>⟨?_,rfl⟩
  refine CB (t:=(r:Int)==c % 24) (eB (s:=.leaf) (aN (aC (i:=2) rfl) (aN (aC (i:=0) rfl) aW (dG (by omega))) KC.eq_int)) (fun h=>?_) (fun h=>?_)
  ·rw [h]
   exact pN (s:=.leaf) (aD aW ao) rfl rfl rfl
  ·rw [h]
   exact pN (s:=.leaf) ao rfl rfl rfl
 refine ⟨_,_,_,aV (aB (dq c1 rfl (by simp [ak])) (aB (dq c2 rfl (by simp [ak])) (bj (dm (aD c3 (aD c4 (aD (aC (i:=1) rfl) ao))) rfl rfl) rfl))),?_⟩
 refine ⟨by simp,by simp,by simp,fun a ha=>?_,fun a ha=>?_,fun a ha=>?_⟩
 ·obtain ⟨r,_,rfl⟩:=List.mem_map.mp ha
  rcases (by omega:(r:Int) % 2=0\/(r:Int) % 2=1) with e | e
  ·exact .inl (by rw [e])
  ·exact .inr (by rw [e])
 ·obtain ⟨r,_,rfl⟩:=List.mem_map.mp ha
  cases (r:Int)==c % 24 with
  | true=>exact ⟨[.str "a"],rfl,fun d hd=>⟨"a",List.mem_singleton.mp hd,by decide +kernel⟩,by simp,by decide +kernel⟩
  | false=>exact ⟨[],rfl,fun d hd=>(by cases hd),by simp,by decide +kernel⟩
 ·obtain ⟨r,_,rfl⟩:=List.mem_map.mp ha
  refine ⟨(gS c r).map fun t:Nat=>(t:Int),by rw [<-Eh],?_,?_,?_,?_⟩
  ·rw [length_map]
   exact Nat.le_trans (length_filter_le _ _) (by simp)
  ·have:gA r∈gS c r:=List.mem_filter.mpr ⟨List.mem_range.mpr (by unfold gA;omega),List.contains_iff_mem.mpr (two2_mem.mpr (.inl rfl))⟩
   intro z;rw [List.map_eq_nil_iff.mp z] at this
   cases this
  ·intro t ht
   obtain ⟨x,hx,rfl⟩:=List.mem_map.mp ht;have:=List.mem_range.mp (List.mem_filter.mp hx).1
   omega
  ·rw [pairwise_map]
   exact (List.pairwise_lt_range.filter _).imp fun h=>by omega
theorem rO {w:Wd} (ok:w.Ok):d5 [w.enc]=.ok ⟨W3,w.enc⟩:=by
 have i0:ai (ae 0) (eK (.int 0)) [JJ w.enc,none]=.ok ⟨.leaf,.list w.os⟩ [JJ w.enc,none]:=hJ (j:=0) (aC rfl) aW rfl rfl rfl
 have i1:ai (ae 0) (eK (.int 1)) [JJ w.enc,none]=.ok ⟨.leaf,.list (w.m.map sN)⟩ [JJ w.enc,none]:=hJ (j:=1) (aC rfl) aW rfl rfl rfl
 have i2:ai (ae 0) (eK (.int 2)) [JJ w.enc,none]=.ok ⟨.leaf,.list (w.s.map aA)⟩ [JJ w.enc,none]:=hJ (j:=2) (aC rfl) aW rfl rfl rfl
 have h24:=ok.h24
 have c1:ax .leaf 1 (aS (ai (ae 0) (eK (.int 1)))) aK (cW (ae 1)) [JJ w.enc,none]=.ok ⟨.lst .leaf,.list (w.m.map sN)⟩ [JJ w.enc,none]:=
  kP sN w.m (fun x=>⟨.lst .leaf,sN x⟩) (st:=true) (dD (s:=.leaf) i1 rfl) (by simp) rfl (by rw [ok.lm];omega) fun x hx=>⟨F9 (aC rfl) rfl,rfl⟩
 have c2:ax .leaf 1 (aS (ai (ae 0) (eK (.int 2)))) aK (cW (ae 1)) [JJ w.enc,none]=.ok ⟨.lst .leaf,.list (w.s.map aA)⟩ [JJ w.enc,none]:=
  kP aA w.s (fun x=>⟨.lst .leaf,aA x⟩) (st:=true) (dD (s:=.leaf) i2 rfl) (by simp) rfl (by rw [ok.ls];omega) fun x hx=>⟨F9 (aC rfl) rfl,rfl⟩
 exact aV (bj (dm (aD (F9 i0 rfl) (aD c1 (aD c2 ao))) rfl rfl) rfl)
theorem kC {z:Int}:cg [.int z]=.ok ⟨.leaf,.bool true⟩:=aV (bj (v_and (s:=.leaf) (a:=true) (b:=true) (kn (aC rfl) rfl) (v_not (b:=false) (s:=.leaf) (kn (aC rfl) rfl))) rfl)
theorem u3 {l:List Nat} (hl:l.length<=1000):cI [aA l,aA l]=.ok ⟨.leaf,.bool true⟩:=by
 have t:eL (b6 (aF bh (dO "list" (ae 0)))) (aF ah (aw iC (bt aQ (ab (ae 0) af)) (bt aQ (ab (ae 1) af)))) (ak 3 [aA l,aA l])=.ok (!true||!((l.length:Int)==(l.length:Int))) (ak 3 [aA l,aA l]):=dS (dU (b:=true) (dg (s:=.leaf) (kn (aC rfl) rfl))) (eB (s:=.leaf) (aN (b7 (d:=.int (l.length:Int)) (aD (aC (i:=0) rfl) ao) (by simp)) (b7 (d:=.int (l.length:Int)) (aD (aC (i:=1) rfl) ao) (by simp)) KC.ne_int))
 rw [beq_self_eq_true] at t;obtain ⟨Γ1,e1,x2,hΓ⟩:=zg rm (i:=2) (body:=bL (b6 (aF bh (ag 1 cg (ab (ae 2) af)))) (aL (eK (.bool false))) aG) (Inv:=fun rest Γ=>∃x2,Γ=[JJ (aA l),JJ (aA l),x2])
  (fun a rest Γ ⟨x2,e⟩=>by
   subst e;exact ⟨by simp,_,bq (t:=!true) (dU (dg (s:=.leaf) (cG (aD (aC rfl) ao) kC rfl rfl))) nofun (fun _=>rfl),JJ (rm a),rfl⟩) l [JJ (aA l),JJ (aA l),none] ⟨none,rfl⟩
 subst hΓ;exact aV (aB (bq t nofun fun _=>rfl) (aB (ff (dD (s:=.leaf) (aC rfl) rfl) e1) (bj (aN (aC rfl) (aC rfl) (Bq rfl)) rfl)))
theorem v9 {w:Wd} (ok:w.Ok):shaped w.enc=true:=by
 have h:=ok.g.wk (b:=24) ok.h24
 have o:=DH h.o
 have m:=qC fun r hr=>let ⟨xs,e,q,_⟩:=h.m r hr;⟨xs,e,HS q⟩
 have s:=qC fun r hr=>let ⟨xs,e,q,_⟩:=h.s r hr;⟨xs,e,DH q⟩
 have key:PyData.canLay0 w.enc=true/\PyData.depth w.enc<=3:=by
  simp only [Wd.enc,mq,PyData.canLay0,PyData.canLayAll0,PyData.depth,PyData.depthAll,o.1,m.1,s.1,o.2,Bool.and_self,Bool.true_and,true_and]
  have:=m.2
  have:=s.2
  omega
 unfold shaped;rw [key.1,Bool.true_and];exact decide_eq_true (by have:=key.2;omega)
end KC
namespace T
open PySem PySem.Spec L2
open PyProof.Rows hiding St
section
variable {i:Nat} {tab:List (Str×Int)} {K:Fg} {W:XW} {σ:St} {H H':Hp} {Q Q':VK} {QB QB':Bool->Hp->Prop} {f fa fb:F1} {g ga gb:FB} {D:fP} {s g1 g2:FS}
theorem vd {He:Hp} {O:List Addr} {Fs:List (List Addr)} {Γ:Ev} {v:Option V} (E:EnvOk K He O Fs H σ Γ) (e:Γ[i]?=some none):EnvOk K He O Fs H (σ.set i v) Γ:=by
 refine ⟨by rw [length_set];exact E.len1,E.len2,E.same,E.nd,E.inH,E.fresh,fun k p hp=>?_⟩
 obtain ⟨a,u,F,h1,h2,h3⟩:=E.slot k p hp;refine ⟨a,u,F,?_,h2,h3⟩
 have hk:i≠k:=fun z=>by rw [z,hp] at e;cases e
 rw [getElem?_set_ne hk];exact h1
end
end T
namespace TQ
open PySem PySem.Spec L2 T
open PyProof.Rows hiding St
section
variable {X:Cx} {N gl:List Str} {vs cs ls lo gs:List Nat} {W:XW} {a b c e:Expr} {es:List Expr} {pos p p2:Pos} {fa fb fc:F1} {fl:FL} {ga gb:FB} {g1 g2 g:FS} {i:Nat} {tab:List (Str×Int)}
theorem nvD (S:Cp X N gl vs cs ls lo gs) (i:Nat) {x:Str} {pos:Pos} (e:N[i]?=some x) (hi:vs.contains i=true):PE X (.Name x pos) (cY i):=by
 have m:=S.nm x (mem_of_getElem? e)
 exact zd (by rw [S.hN];exact e) (S.vis i x e hi) m.1 m.2
end
end TQ
namespace T
open PySem PySem.Spec L2
open PyProof.Rows hiding St
abbrev It:=kN ⊕ List kN
section
variable {prog:Program} {w:World}
variable (prog w)
variable {prog w}
noncomputable def hI (w:World):It->Int
 | .inl k=>A5 w k
 | .inr l=>reduceHash (Builtin.Tuple.tupleHashOf (l.map (A5 w)))
variable {A:Around} {E:Value->Shared->Prop} {s:Shared}
noncomputable def isT:It->Bool
 | .inl _=>false
 | .inr _=>true
end
noncomputable def Jk (K:Fg) (H:Hp):It->V->Prop
 | .inl k,v=>v=kV k
 | .inr l,v=>∃c,v=.ref c/\SqT K H c (l.map kV)
noncomputable def K2 (K:Fg) (H:Hp) (ks:List It) (b:Addr):Prop:=∃vs,SqT K H b vs/\Paired (Jk K H) ks vs
noncomputable abbrev KX (K:Fg) (H:Hp) (sh:List Bool):List (List It×V)->List (List It×Addr×Value)->Prop:=Paired fun p q=>p.1=q.1/\p.1.map isT=sh/\K2 K H p.1 q.2.1/\RelV p.2 q.2.2
theorem Dr {A B:Bool->Hp->Prop} {H:Hp} {σ:St} (h:A true H):pV σ H fun b H=>if b=true then A b H else B b H:=by
 show (if true=true then A true H else B true H)
 rw [if_pos rfl];exact h
section
variable {P:Program} {w:World} {A:Around} {E:Value->Shared->Prop} {s:Shared}
theorem uu {c t:Addr} {k:Nat} {its:Array Value} {x:Value} {Q:Value->Shared->Prop} (hc:s.heap.IsTupleIter c t k) (ht:s.heap.IsTuple t its) (hx:its[k]?=some x)
  (q:∀h',h'.IsTupleIter c t (k+1)->Heap.SameBut c s.heap h'->Q x { s with heap:=h' }):wpAny (model P w) A (Builtin.SmallTypes.nextOf (.ref c)) Q E s:=by
 obtain ⟨oc,e1,e2,e3⟩:=id hc;obtain ⟨ot,f1,_,n,f3⟩:=ht;unfold Builtin.SmallTypes.nextOf;refine JE (wpAny_callSpecial?_slot (name:=Str.ofString "__next__") hc.typeIs F.slot_tuple_iterator_next (wpAny_call_entry F.slot_tuple_iterator_next hc.typeIs F.entry_tuple_iterator_next ?_ (F.args_tuple_iterator_next_1 _)))
 show wpAny _ _ (field (.ref c) 0 >>= _) _ _ s
 refine JE (wpAny_field e1 e3 (x:=.ref t) rfl ?_)
 have ne:¬((Value.ref t==Value.none)=true):=Bool.false_ne_true
 show wpAny _ _ (if (Value.ref t==Value.none)=true then _ else _) _ _ _
 rw [if_neg ne];show wpAny _ _ (field (.ref c) 1 >>= _) _ _ s
 refine JE (wpAny_field e1 e3 (x:=.int k 0) rfl ?_)
 show wpAny _ _ (seqItems? (.ref t) >>= _) _ _ _
 refine JE (wpAny_seqItems f1 f3 ?_)
 simp only [hx,Int.toNat_natCast]
 refine JE (wpAny_setField e1 e3 (by simp) (JF ⟨x,rfl,JF (q _ ⟨_,Heap.get?_update_self _ e1 (Obj.isFreed_of_fields (Obj.data_mapFields e3 _)),(Obj.cls_mapFields ..).trans e2,?_⟩ (Heap.SameBut.update ..))⟩))
 rw [Obj.data_mapFields e3];simp [rawInt]
theorem w9 {c t:Addr} {k:Nat} {its:Array Value} {Q:Value->Shared->Prop} (hn:A.handled=none) (hc:s.heap.IsTupleIter c t k) (ht:s.heap.IsTuple t its) (hx:its[k]?=none)
  (q:∀h' e,Heap.ExtBut c s.heap h'->(∃o,h'.get? e=some o/\o.cls=.type "StopIteration")->E (.ref e) { s with heap:=h' }):wpAny (model P w) A (Builtin.SmallTypes.nextOf (.ref c)) Q E s:=by
 obtain ⟨oc,e1,e2,e3⟩:=id hc;obtain ⟨ot,f1,_,n,f3⟩:=ht;unfold Builtin.SmallTypes.nextOf;refine JE (wpAny_callSpecial?_slot (name:=Str.ofString "__next__") hc.typeIs F.slot_tuple_iterator_next (wpAny_call_entry F.slot_tuple_iterator_next hc.typeIs F.entry_tuple_iterator_next ?_ (F.args_tuple_iterator_next_1 _)))
 show wpAny _ _ (field (.ref c) 0 >>= _) _ _ s
 refine JE (wpAny_field e1 e3 (x:=.ref t) rfl ?_)
 have ne:¬((Value.ref t==Value.none)=true):=Bool.false_ne_true
 show wpAny _ _ (if (Value.ref t==Value.none)=true then _ else _) _ _ _
 rw [if_neg ne];show wpAny _ _ (field (.ref c) 1 >>= _) _ _ s
 refine JE (wpAny_field e1 e3 (x:=.int k 0) rfl ?_)
 show wpAny _ _ (seqItems? (.ref t) >>= _) _ _ _
 refine JE (wpAny_seqItems f1 f3 ?_)
 simp only [hx,Int.toNat_natCast]
 refine JE (wpAny_rule (JE (wpAny_setField e1 e3 (by simp) ?_)))
 show wpAny _ _ (newExc (.type "StopIteration") [] >>= _) _ _ (_:Shared)
 refine JE ?_
 simp only [newTuple,newExc]
 refine JE (wpAny_newObj_type ?_ (by size_fits));refine JE (m:=firstArgMember _ _) (wpAny_of_eq (a:=Value.none) (by first | rfl | (simp only [firstArgMember];rfl)) ?_)
 refine wpAny_newObj_type ?_ (by size_fits);simp only [raiseNew]
 refine JE (wpAny_handled ?_);first | rw [show A.in1.handled=none from hn] | rw [hn]
 refine JE (JF (wpAny_throw (q _ _ (((Heap.SameBut.update ..).extBut.push _).push _) ⟨_,Heap.get?_push_size _ rfl,rfl⟩)))
theorem Heap.IsTupleIter.at' {h h':Heap} {a t:Addr} {i:Nat} (x:h.IsTupleIter a t i) (k:∀o,h.get? a=some o->h'.get? a=some o):h'.IsTupleIter a t i:=by
 obtain ⟨o,e,r⟩:=x;exact ⟨o,k o e,r⟩
theorem vD {z TI TO i1 i2 l1 l2:Addr} {k:Nat} {xs ys:Array Value} {x y a b:Value} {Q:Value->Shared->Prop} (D:ZipApart z TI TO i1 i2 l1 l2)
  (hz:IsZip s.heap z TI TO .none) (hI:IsPair s.heap TI (.ref i1) (.ref i2)) (hO:IsPair s.heap TO a b) (c1:s.heap.IsTupleIter i1 l1 k) (c2:s.heap.IsListIter i2 l2 k) (g1:s.heap.IsTuple l1 xs) (g2:s.heap.IsList l2 ys) (hx:xs[k]?=some x) (hy:ys[k]?=some y)
  (q:∀h',IsZip h' z TI TO (rawInt s.heap.objs.size)->IsPair h' TO x y->h'.IsTupleIter i1 l1 (k+1)->h'.IsListIter i2 l2 (k+1)->IsPair h' s.heap.objs.size x y->h'.objs.size=s.heap.objs.size+1 ->
   (∀c o,c≠z->c≠TO->c≠i1->c≠i2->s.heap.get? c=some o->h'.get? c=some o)->Q (.ref s.heap.objs.size) { s with heap:=h' }) :
  wpAny (model P w) A (Builtin.«zip.__next__» ⟨[.ref z],[]⟩) (fun fin s'=>∃v,fin=.done (.ret v)/\Q v s') E s:=by
 show wpAny _ _ (field (.ref z) 2 >>= _) _ _ s
 refine JE (wpAny_field hz rfl (x:=.bool false) rfl ?_);show wpAny _ _ (field (.ref z) 3 >>= _) _ _ _
 refine JE (wpAny_field hz rfl (x:=.ref TI) rfl ?_);refine JE (wpAny_seqItems hI rfl ?_)
 show wpAny _ _ (Builtin.SmallTypes.ownedTupleIsFree (.ref z) >>= _) _ _ s
 refine JE ?_;unfold Builtin.SmallTypes.ownedTupleIsFree;refine JE (wpAny_field hz rfl (x:=.none) rfl (JF ?_))
 simp only [if_true];refine JE (wpAny_rule ?_);refine JE (wpAny_field hz rfl (x:=.ref TO) rfl ?_)
 refine JE (wpAny_setField_rec hz (by simp) fun j1 z1 s1=>?_);replace z1:IsZip j1 z TI TO .ellipsis:=z1
 refine JE ?_;simp only [List.zipIdx_cons,List.zipIdx_nil,forIn_nil,List.forIn_cons]
 refine JE (JE (wpAny_onRaise ?_));show wpAny _ _ (Builtin.SmallTypes.nextOf (.ref i1) >>= _) _ _ _
 refine JE (uu (c1.extBut s1.extBut D.i1z) (g1.extBut s1.extBut D.l1z) hx fun j2 d1 s2=>JF ?_)
 have o2:IsPair j2 TO a b:=s2.extBut _ _ D.TOi1 (s1.extBut _ _ D.TOz hO)
 refine JE (wpAny_seqItems o2 rfl ?_);refine JE (wpAny_updateSeq_pair o2 fun j3 o3 s3=>?_)
 replace o3:IsPair j3 TO x b:=o3
 refine JE (wpAny_letGo (JF ?_));refine JE (JE (wpAny_onRaise ?_));show wpAny _ _ (Builtin.SmallTypes.nextOf (.ref i2) >>= _) _ _ _
 refine JE (wpAny_nextOf_list_item (((c2.extBut s1.extBut D.i2z).extBut s2.extBut D.i12.symm).extBut s3.extBut D.TOi2.symm) (((g2.extBut s1.extBut D.l2z).extBut s2.extBut D.l2i1).extBut s3.extBut D.l2TO) hy fun j4 d2 s4=>JF ?_)
 have o4:IsPair j4 TO x b:=s4.extBut _ _ D.TOi2 o3
 refine JE (wpAny_seqItems o4 rfl ?_);refine JE (wpAny_updateSeq_pair o4 fun j5 o5 s5=>?_)
 replace o5:IsPair j5 TO x y:=o5
 refine JE (wpAny_letGo (JF (JF ?_)));refine JE (wpAny_seqItems o5 rfl ?_);refine JE (wpAny_newTuple ?_)
 have ez:j5.objs.size=s.heap.objs.size:=by rw [s5.1,s4.1,s3.1,s2.1,s1.1]
 have z5:IsZip j5 z TI TO .ellipsis:=s5.extBut _ _ D.TOz.symm (s4.extBut _ _ D.i2z.symm (s3.extBut _ _ D.TOz.symm (s2.extBut _ _ D.i1z.symm z1)))
 have kp:∀c o,c≠z->c≠TO->c≠i1->c≠i2->s.heap.get? c=some o->j5.get? c=some o:=fun c o n1 n2 n3 n4 e=>s5.extBut _ _ n2 (s4.extBut _ _ n4 (s3.extBut _ _ n2 (s2.extBut _ _ n3 (s1.extBut _ _ n1 e))))
 have a1:j5.IsTupleIter i1 l1 (k+1):=((d1.extBut s3.extBut D.TOi1.symm).extBut s4.extBut D.i12).extBut s5.extBut D.TOi1.symm
 have a2:j5.IsListIter i2 l2 (k+1):=d2.extBut s5.extBut D.TOi2.symm
 have zl:z<j5.objs.size:=Heap.lt_size z5
 show wpAny _ _ (Builtin.SmallTypes.ownedTupleHandOut (.ref z) (.ref j5.objs.size) >>= _) _ _ _
 refine JE ?_;unfold Builtin.SmallTypes.ownedTupleHandOut;have z6:IsZip (j5.push { cls:=.type "tuple",data:=.seq #[x,y] }) z TI TO .ellipsis:=JG _ z5
 refine JE (wpAny_setField_rec z6 (by simp) fun j7 z7 s7=>?_);replace z7:IsZip j7 z TI TO (rawInt j5.objs.size):=z7
 refine wpAny_setField_rec z7 (by simp) fun j8 z8 s8=>?_;replace z8:IsZip j8 z TI TO (rawInt j5.objs.size):=z8
 have up:∀c o,c≠z->j5.get? c=some o->j8.get? c=some o:=fun c o n1 e=>s8.extBut _ _ n1 (s7.extBut _ _ n1 (JG _ e))
 have t8:IsPair j8 j5.objs.size x y:=s8.extBut _ _ (Nat.ne_of_gt zl) (s7.extBut _ _ (Nat.ne_of_gt zl) (Heap.get?_push_size _ rfl))
 have n8:j8.objs.size=j5.objs.size+1:=by rw [s8.1,s7.1,Heap.size_push]
 rw [ez] at z8 t8 n8
 refine JF ⟨_,rfl,?_⟩;show Q (.ref j5.objs.size) _;rw [ez];exact q j8 z8 (up _ _ D.TOz o5) (Heap.IsTupleIter.at' a1 fun o e=>up _ o D.i1z e) (a2.at fun o e=>up _ o D.i2z e) t8 n8 fun c o n1 n2 n3 n4 e=>up c o n1 (kp c o n1 n2 n3 n4 e)
theorem yY {z TI TO i1 i2 l1 l2:Addr} {k:Nat} {xs:Array Value} {a b:Value} {Q:Fin->Shared->Prop} (hn:A.handled=none) (D:ZipApart z TI TO i1 i2 l1 l2)
  (hz:IsZip s.heap z TI TO .none) (hI:IsPair s.heap TI (.ref i1) (.ref i2)) (c1:s.heap.IsTupleIter i1 l1 k) (g1:s.heap.IsTuple l1 xs) (hx:xs[k]?=none)
  (q:∀h' e,(∀c o,c≠z->c≠i1->s.heap.get? c=some o->h'.get? c=some o)->(∃o,h'.get? e=some o/\o.cls=.type "StopIteration")->E (.ref e) { s with heap:=h' }) :
  wpAny (model P w) A (Builtin.«zip.__next__» ⟨[.ref z],[]⟩) Q E s:=by
 show wpAny _ _ (field (.ref z) 2 >>= _) _ _ s
 refine JE (wpAny_field hz rfl (x:=.bool false) rfl ?_);show wpAny _ _ (field (.ref z) 3 >>= _) _ _ _
 refine JE (wpAny_field hz rfl (x:=.ref TI) rfl ?_);refine JE (wpAny_seqItems hI rfl ?_)
 show wpAny _ _ (Builtin.SmallTypes.ownedTupleIsFree (.ref z) >>= _) _ _ s
 refine JE ?_;unfold Builtin.SmallTypes.ownedTupleIsFree;refine JE (wpAny_field hz rfl (x:=.none) rfl (JF ?_))
 simp only [if_true];refine JE (wpAny_rule ?_);refine JE (wpAny_field hz rfl (x:=.ref TO) rfl ?_)
 refine JE (wpAny_setField_rec hz (by simp) fun j1 z1 s1=>?_);replace z1:IsZip j1 z TI TO .ellipsis:=z1
 refine JE ?_;simp only [List.zipIdx_cons,List.zipIdx_nil,forIn_nil,List.forIn_cons]
 refine JE (JE (wpAny_onRaise ?_));show wpAny _ _ (Builtin.SmallTypes.nextOf (.ref i1) >>= _) _ _ _
 refine JE (w9 hn (c1.extBut s1.extBut D.i1z) (g1.extBut s1.extBut D.l1z) hx fun j2 e s2 he=>?_)
 obtain ⟨oe,he1,he2⟩:=he;have z2:IsZip j2 z TI TO .ellipsis:=s2 _ _ D.i1z.symm z1
 have ne:e≠z:=fun y=>by
  subst y;rw [z2] at he1
  cases he1;simp at he2
 exact wpAny_setField_rec z2 (by simp) fun j3 _ s3=>q j3 e (fun c o n1 n3 y=>s3.extBut _ _ n1 (s2 _ _ n3 (s1.extBut _ _ n1 y))) ⟨oe,s3.extBut _ _ ne he1,he2⟩
theorem vC {z TI TO i1 i2 l1 l2:Addr} {k:Nat} {xs ys:Array Value} {x y a b:Value} {Q:Option Value->Shared->Prop} (D:ZipApart z TI TO i1 i2 l1 l2)
  (hz:IsZip s.heap z TI TO .none) (hI:IsPair s.heap TI (.ref i1) (.ref i2)) (hO:IsPair s.heap TO a b) (c1:s.heap.IsTupleIter i1 l1 k) (c2:s.heap.IsListIter i2 l2 k) (g1:s.heap.IsTuple l1 xs) (g2:s.heap.IsList l2 ys) (hx:xs[k]?=some x) (hy:ys[k]?=some y)
  (q:∀h',IsZip h' z TI TO (rawInt s.heap.objs.size)->IsPair h' TO x y->h'.IsTupleIter i1 l1 (k+1)->h'.IsListIter i2 l2 (k+1)->IsPair h' s.heap.objs.size x y->h'.objs.size=s.heap.objs.size+1 ->
   (∀c o,c≠z->c≠TO->c≠i1->c≠i2->s.heap.get? c=some o->h'.get? c=some o)->Q (some (.ref s.heap.objs.size)) { s with heap:=h' }):wpAny (model P w) A (pyNext (.ref z)) Q E s:=by
 have ty:s.TypeIs (.ref z) "zip":=⟨_,hz,rfl⟩
 unfold pyNext;exact JE (wpAny_attempt (wpAny_callSpecial?_slot (name:=Str.ofString "__next__") ty F.slot_zip_next (wpAny_call_entry F.slot_zip_next ty F.entry_zip_next (vD D hz hI hO c1 c2 g1 g2 hx hy fun h' a1 a2 a3 a4 a5 a6 a7=>JF (q h' a1 a2 a3 a4 a5 a6 a7)) (F.args_zip_next_1 _))))
theorem vB {z TI TO i1 i2 l1 l2:Addr} {k:Nat} {xs:Array Value} {a b:Value} {Q:Option Value->Shared->Prop} (hn:A.handled=none) (D:ZipApart z TI TO i1 i2 l1 l2)
  (hz:IsZip s.heap z TI TO .none) (hI:IsPair s.heap TI (.ref i1) (.ref i2)) (c1:s.heap.IsTupleIter i1 l1 k) (g1:s.heap.IsTuple l1 xs) (hx:xs[k]?=none)
  (q:∀h',(∀c o,c≠z->c≠i1->s.heap.get? c=some o->h'.get? c=some o)->Q none { s with heap:=h' }):wpAny (model P w) A (pyNext (.ref z)) Q E s:=by
 have ty:s.TypeIs (.ref z) "zip":=⟨_,hz,rfl⟩
 unfold pyNext;refine JE (wpAny_attempt (wpAny_callSpecial?_slot (name:=Str.ofString "__next__") ty F.slot_zip_next (wpAny_call_entry F.slot_zip_next ty F.entry_zip_next (yY (a:=a) (b:=b) hn D hz hI c1 g1 hx fun h' e hk he=>?_) (F.args_zip_next_1 _))))
 obtain ⟨o,h1,h2⟩:=he;exact JE (wpAny_isInstance (T := "StopIteration") (b:=true) ⟨o,h1,h2⟩ isSubtype_stop (JF (q _ hk)))
noncomputable abbrev D1 (h:Heap) (l1:Addr):Heap:=h.push { cls:=.type "tuple_iterator",data:=.fields #[.ref l1,.int 0 0] }
noncomputable abbrev D0 (h:Heap) (l1 l2:Addr):Heap:=(D1 h l1).push { cls:=.type "list_iterator",data:=.fields #[.ref l2,.int 0 0] }
noncomputable abbrev DZ (h:Heap) (l1 l2:Addr):Heap:=(D0 h l1 l2).push { cls:=.type "tuple",data:=.seq #[.ref h.objs.size,.ref (D1 h l1).objs.size] }
noncomputable abbrev DY (h:Heap) (l1 l2:Addr):Heap:=(DZ h l1 l2).push { cls:=.type "tuple",data:=.seq #[.none,.none] }
noncomputable abbrev BP (h:Heap) (l1 l2:Addr):Heap:=(DY h l1 l2).push { cls:=.type "zip",data:=.fields #[.none,.bool false,.bool false,.ref (D0 h l1 l2).objs.size,.ref (DZ h l1 l2).objs.size] }
theorem yX (l1 l2:Addr) (xs ys:Array Value) :
  Meets (Builtin.«zip.__new__» ⟨[.type "zip",.ref l1,.ref l2],[]⟩) (fun _ R s=>s.heap.IsTuple l1 xs/\s.heap.IsList l2 ys/\R (.ok (.ret (.ref (DY s.heap l1 l2).objs.size))) { s with heap:=BP s.heap l1 l2 }):=
 .of_wp fun prog w A R s h=>by
  obtain ⟨hp,g,d,tk,os⟩:=s;obtain ⟨e1,e2,h⟩:=h;have hsub:=sub_zip
  have f1:Heap.IsTuple (Shared.heap ⟨hp,g,d,tk,os⟩) l1 xs:=e1
  have f2:Heap.IsList (Shared.heap ⟨hp.push { cls:=.type "tuple_iterator",data:=.fields #[.ref l1,.int 0 0] },g,d,tk,os⟩) l2 ys:=Heap.IsList.push e2 _
  wp_walk using wpAny_pyIter_tuple f1,wpAny_pyIter_list f2
  exact ⟨_,rfl,h⟩
theorem xT {l1 l2:Addr} {xs ys:Array Value} {Q:Value->Shared->Prop} (e1:s.heap.IsTuple l1 xs) (e2:s.heap.IsList l2 ys)
  (q:∀h',IsZip h' (s.heap.objs.size+4) (s.heap.objs.size+2) (s.heap.objs.size+3) .none->IsPair h' (s.heap.objs.size+2) (.ref s.heap.objs.size) (.ref (s.heap.objs.size+1))->IsPair h' (s.heap.objs.size+3) .none .none->h'.IsTupleIter s.heap.objs.size l1 0->h'.IsListIter (s.heap.objs.size+1) l2 0 ->
   (∀c o,s.heap.get? c=some o->h'.get? c=some o)->Q (.ref (s.heap.objs.size+4)) { s with heap:=h' }):wpAny (model P w) A (call (.type "zip") [.ref l1,.ref l2]) Q E s:=by
 refine callType_new F.called_zip (by decide) (F.typeCall_zip_2 _ _) (F.newCall_zip_2 _ _) (fun obj=>F.args_object_init_3 obj _ _) F.entry_zip_new (yX l1 l2 xs ys) ⟨e1,e2,?_⟩
 have p1:(D1 s.heap l1).objs.size=s.heap.objs.size+1:=Heap.size_push ..
 have p2:(D0 s.heap l1 l2).objs.size=s.heap.objs.size+2:=by rw [Heap.size_push,p1]
 have p3:(DZ s.heap l1 l2).objs.size=s.heap.objs.size+3:=by rw [Heap.size_push,p2]
 have p4:(DY s.heap l1 l2).objs.size=s.heap.objs.size+4:=by rw [Heap.size_push,p3]
 have g5:(BP s.heap l1 l2).get? (DY s.heap l1 l2).objs.size=some _:=Heap.get?_push_size _ rfl
 have g4:(BP s.heap l1 l2).get? (DZ s.heap l1 l2).objs.size=some _:=JG _ (Heap.get?_push_size _ rfl)
 have g3:(BP s.heap l1 l2).get? (D0 s.heap l1 l2).objs.size=some _:=JG _ (JG _ (Heap.get?_push_size _ rfl))
 have g2:(BP s.heap l1 l2).get? (D1 s.heap l1).objs.size=some _:=JG _ (JG _ (JG _ (Heap.get?_push_size _ rfl)))
 have g1:(BP s.heap l1 l2).get? s.heap.objs.size=some _:=JG _ (JG _ (JG _ (JG _ (Heap.get?_push_size _ rfl))))
 show _/\_
 rw [p2,p3,p4] at g5;rw [p1,p2] at g3;rw [p3] at g4;rw [p1] at g2;rw [p4];exact ⟨⟨_,g5,rfl⟩,q _ g5 g3 g4 ⟨_,g1,rfl,rfl⟩ ⟨_,g2,rfl,rfl⟩ fun c o x=>JG _ (JG _ (JG _ (JG _ (JG _ x))))⟩
end
noncomputable def Ib (K:Fg) (a b:Addr):L2.It:=
 ⟨fun i H=>∃xs ys x y,SqT K H a xs/\SqL K H b ys/\xs[i]?=some x/\ys[i]?=some y,fun i H x H'=>∃T v w,x=.ref T/\H T=none/\H'=b9 H T (.tup [v,w])/\∀xs ys,SqT K H a xs->SqL K H b ys->xs[i]?=some v/\ys[i]?=some w,fun i H=>∃xs,SqT K H a xs/\i=xs.length⟩
theorem vT {P:Program} {w:World} {K:Fg} {elts:List Expr} {k:Nat} {pos:Pos} (a b z TI TO i1 i2:Addr) (D:ZipApart z TI TO i1 i2 a b) :
  vi P w K (.Tuple elts k pos) (Ib K a b) [z,TI,TO,i1,i2] z (fun i h=>IsZip h z TI TO .none/\IsPair h TI (.ref i1) (.ref i2)/\(∃a b,IsPair h TO a b)/\h.IsTupleIter i1 a i/\h.IsListIter i2 b i) where
 mem:=by simp
 obj:=fun i h st c hc=>by
  obtain ⟨hz,hTI,⟨u,v,hTO⟩,⟨o1,e1,c1,d1⟩,⟨o2,e2,c2,d2⟩⟩:=st;simp only [mem_cons,not_mem_nil,or_false] at hc
  rcases hc with rfl | rfl | rfl | rfl | rfl
  ·exact ⟨_,hz,fun v z=>by
    have z':Data.fields _=Data.cell v:=z
    cases z'⟩
  ·exact ⟨_,hTI,fun v z=>by
    have z':Data.seq _ _=Data.cell v:=z
    cases z'⟩
  ·exact ⟨_,hTO,fun v z=>by
    have z':Data.seq _ _=Data.cell v:=z
    cases z'⟩
  ·exact ⟨o1,e1,fun v z=>by rw [d1] at z;cases z⟩
  ·exact ⟨o2,e2,fun v z=>by rw [d2] at z;cases z⟩
 keep:=fun i h h' st kk=>by
  obtain ⟨hz,hTI,⟨u,v,hTO⟩,h1,h2⟩:=st;exact ⟨kk z (by simp) _ hz,kk TI (by simp) _ hTI,⟨u,v,kk TO (by simp) _ hTO⟩,Heap.IsTupleIter.at' h1 fun o q=>kk i1 (by simp) o q,h2.at fun o q=>kk i2 (by simp) o q⟩
 item:=by
  intro X hP hw hK hc i pins s σ H E I hf st hg;subst hP hw hK;obtain ⟨xs,ys,x,y,hq,hq2,hx,hy⟩:=hg;obtain ⟨its,rv,p,hz⟩:=I.tuple hq;obtain ⟨its2,rv2,p2,hz2⟩:=I.list hq2;obtain ⟨u,hu,ru⟩:=rv.get hx;obtain ⟨u2,hu2,ru2⟩:=rv2.get hy;obtain ⟨sz,sI,⟨a0,b0,sO⟩,s1,s2⟩:=st;refine vC D sz sI sO s1 s2 p p2.isList (by rw [getElem?_toArray];exact hu) (by rw [getElem?_toArray];exact hu2) fun h' r1 r2 r3 r4 r5 r6 kk=>?_
  refine ⟨.ref s.heap.objs.size,rfl,wpAny_letOwnedTupleGo_zip r1 fun h2 z2 kk2=>?_⟩
  have lt:∀{c o},s.heap.get? c=some o->s.heap.objs.size≠c:=fun e=>Nat.ne_of_gt (Heap.lt_size e)
  have nz:s.heap.objs.size≠z:=lt sz
  have hTn:H s.heap.objs.size=none:=I.hok.fresh (JH _)
  have kAll:∀c o,c∉[z,TI,TO,i1,i2]->s.heap.get? c=some o->h2.get? c=some o:=fun c o hb q=>by
   simp only [mem_cons,not_mem_nil,or_false,not_or] at hb
   exact kk2.extBut _ _ hb.1 (kk c o hb.1 hb.2.2.1 hb.2.2.2.1 hb.2.2.2.2 q)
  have tT:h2.IsTuple s.heap.objs.size #[u,u2]:=⟨_,kk2.extBut _ _ nz r5,rfl,_,rfl⟩
  have hvs:Vals [x,y] [u,u2]:=.cons ru (.cons ru2 .nil)
  have I3:L2.Inv X pins σ (b9 H s.heap.objs.size (.tup [x,y])) { s with heap:=h2 }:=Inv.turnedT (t':=s.toks) I kAll hf (JH _) ⟨by show 2<=sizeLine;decide,[u,u2],hvs,(show IsTup h2 _ _ from tT)⟩
  refine ⟨.ref s.heap.objs.size,b9 H s.heap.objs.size (.tup [x,y]),I3,rfl,⟨_,x,y,rfl,hTn,rfl,fun xs' ys' h1 h2=>by rw [I.tuple_inj h1 hq,I.list_inj h2 hq2];exact ⟨hx,hy⟩⟩,⟨z2,kk2.extBut _ _ D.TIz (kk TI _ D.TIz D.TITO D.TIi1 D.TIi2 sI),⟨_,_,kk2.extBut _ _ D.TOz r2⟩,r3.extBut kk2.extBut D.i1z,r4.extBut kk2.extBut D.i2z⟩,fun c hb=>?_⟩
  have hbT:c≠s.heap.objs.size:=fun q=>by
   subst q;simp only [mem_cons,not_mem_nil,or_false] at hb
   rcases hb with h | h | h | h | h
   ·exact nz h
   ·exact lt sI h
   ·exact lt sO h
   ·exact (let ⟨_,e,_⟩:=s1;lt e) h
   ·exact (let ⟨_,e,_⟩:=s2;lt e) h
  rw [e9 hbT];exact (hf c hb).1
 done:=by
  intro X hP hw hK hc i pins s σ H E I hf st hg;subst hP hw hK;obtain ⟨xs,hq,hx⟩:=hg;obtain ⟨its,rv,p,hz⟩:=I.tuple hq;obtain ⟨sz,sI,⟨a0,b0,sO⟩,s1,s2⟩:=st;refine vB (a:=a0) (b:=b0) (I.ok.hd hc) D sz sI s1 p (by rw [getElem?_toArray,hx,rv.length];simp) fun h' hk=>⟨rfl,Inv.turnedL (t':=s.toks) I (fun c o hb q=>?_) hf⟩
  simp only [mem_cons,not_mem_nil,or_false,not_or] at hb
  exact hk c o hb.1 hb.2.2.2.1 q
 self:=fun _ _ _ _ _ st h=>wpAny_pyIter_zip st.1 h
noncomputable def IS (K:Fg) (ta:TA):TI:=fun σ H R=>ta σ H fun vs H1=>∃a b,vs=[.ref a,.ref b]/\(∃xs,SqT K H1 a xs)/\(∃ys,SqL K H1 b ys)/\R (Ib K a b) H1
theorem Da {X:Cx} {elts:List Expr} {kt:Nat} {ptg:Pos} {l m:Expr} {ta:TA} {p pos:Pos} (hg:Gl X "zip") (hm:X.mg "zip"=none) (ha:PA X [l,m] ta) (hs:starEach [l,m] X.env=(false,eval l X.env)::starEach [m] X.env) (hpl:(backTo pos (starEach [m] X.env)).any (·.1)=false) :
  PI X (.Tuple elts kt ptg) (.Call (.Name "zip" p) [l,m] [] pos) (IS X.K ta):=by
 intro pins s σ H R I h;refine Call_ (vo I hg hm boot_zip (PyProof.Rows.callWith_type1 (b5 (ha pos pins s σ H _ I h) fun us s1 ⟨vs,H1,I1,r1,q1⟩=>?_) hs hpl))
 obtain ⟨a,b,e,⟨xs,hq⟩,⟨ys,hq2⟩,q⟩:=q1;subst e;obtain ⟨u1,u2,rfl,ru,ru2⟩:∃u1 u2,us=[u1,u2]/\RelV (.ref a) u1/\RelV (.ref b) u2:=by
  cases r1 with
  | cons p q=>
   cases q with
   | cons p' q'=>
    cases q'
    exact ⟨_,_,rfl,p,p'⟩
 cases ru
 cases ru2;obtain ⟨its,rv,pl,hz⟩:=I1.tuple hq;obtain ⟨its2,rv2,pl2,hz2⟩:=I1.list hq2;refine xT pl pl2.isList fun h' hZ hTI hTO hi1 hi2 hk=>?_
 have ha1:a<s1.heap.objs.size:=by
  obtain ⟨o,q1,_⟩:=pl;exact Heap.lt_size q1
 have hb1:b<s1.heap.objs.size:=by
  obtain ⟨o,q1,_⟩:=pl2.isList;exact Heap.lt_size q1
 refine wpAny_pyIter_zip (s:={ s1 with heap:=h' }) hZ ?_
 have I2:L2.Inv X pins σ H1 { s1 with heap:=h' }:=I1.kept (t':=s1.toks) hk
 have D:ZipApart (s1.heap.objs.size+4) (s1.heap.objs.size+2) (s1.heap.objs.size+3) s1.heap.objs.size (s1.heap.objs.size+1) a b:=by
  constructor<;>first | exact Nat.ne_of_lt (by omega) | exact Nat.ne_of_gt (by omega) | exact Nat.ne_of_lt (Nat.lt_of_lt_of_le ha1 (by omega)) | exact Nat.ne_of_lt (Nat.lt_of_lt_of_le hb1 (by omega))
 refine ⟨s1.heap.objs.size+4,[s1.heap.objs.size+4,s1.heap.objs.size+2,s1.heap.objs.size+3,s1.heap.objs.size,s1.heap.objs.size+1],_,Ib X.K a b,H1,rfl,I2,vT a b _ _ _ _ _ D,⟨hZ,hTI,⟨_,_,hTO⟩,hi1,hi2⟩,fun c hb=>?_,q⟩
 simp only [mem_cons,not_mem_nil,or_false] at hb
 have hb2:s1.heap.objs.size<=c:=by
  rcases hb with z | z | z | z | z<;>rw [z]<;>first | exact Nat.le_add_right _ _ | exact JH _
 exact I1.fpOk hb2 (I1.hok.fresh hb2)
noncomputable def vE (s:Sh) (i j:Nat) (fc:FB) (fe:F1) (ps:List PV) (Γ1:Ev):Out PV:=match ps with
 | [⟨s1,.tuple ds⟩,⟨s2,.list ds2⟩]=>if aH ⟨s1,.tuple ds⟩ ds&&aH ⟨s2,.list ds2⟩ ds2&&decide (ds.length=ds2.length)&&d6 Γ1[i]?&&d6 Γ1[j]?&&!s.isView then (match cX i j fc fe s (ds.zip ds2) Γ1 [] with
  | .ok ds Γ2=>.ok ⟨.lst s,.list ds⟩ Γ2
  | _=>.no) else .no
 | _=>.no
noncomputable def fG (s:Sh) (i j:Nat) (fl:FL) (fc:FB) (fe:F1):F1:=fun Γ=>(fl Γ).bind (vE s i j fc fe)
section
variable {K:Fg} {W:XW} {σ:St} {H:Hp} {Q:VK} {fl:FL} {fe:F1} {fc:FB} {s:Sh} {i j:Nat}
theorem tO (hij:i≠j) (h:tE K W (fG s i j fl fc fe) σ H Q):iZ [i,j] (IS K (tA K W fl)) (Dv K 2 (uR (dM i) (uR (dM j) Dw))) (tT K W0 fc) (tE K W0 fe) σ H Q:=by
 obtain ⟨He,O,Fs,Γ,E,h⟩:=h;refine ⟨He,O,Fs,Γ,E,?_⟩
 unfold fG at h
 cases e:fl Γ with
 | er c Γ1=>rw [e] at h;exact h
 | no=>rw [e] at h;exact h
 | ok ps Γ1=>
  rw [e] at h;intro us H1 Gs0 Fs1 A;have hz:Wants K W He O Fs H σ Q (vE s i j fc fe ps Γ1):=h
  clear h;unfold vE at hz;split at hz
  case h_2=>exact hz.elim
  rename_i s1 ds s2 ds2;have h:=hz
  clear hz;by_cases hn:(aH ⟨s1,.tuple ds⟩ ds&&aH ⟨s2,.list ds2⟩ ds2&&decide (ds.length=ds2.length)&&d6 Γ1[i]?&&d6 Γ1[j]?&&!s.isView)=true
  case neg=>rw [if_neg hn] at h;exact h.elim
  rw [if_pos hn] at h;simp only [Bool.and_eq_true,Bool.not_eq_true',decide_eq_true_eq] at hn
  obtain ⟨⟨⟨⟨⟨hc1,hc2⟩,hdl⟩,hni⟩,hnj⟩,hsv⟩:=hn;have hni:=jt hni
  have hnj:=jt hnj
  match us,A.len1,Gs0,A.len2,A with
  | [v1,v2],_,[G1,G2],_,A=>
    cases eg:cX i j fc fe s (ds.zip ds2) Γ1 [] with
    | er c Γ'=>rw [eg] at h;exact h.elim
    | no=>rw [eg] at h;exact h.elim
    | ok ds' Γ2=>
     rw [eg] at h;have h:Wants K W He O Fs H σ Q (.ok ⟨.lst s,.list ds'⟩ Γ2):=h
     have nd0:=A.env.nd
     have dis:∀a∈[G1,G2].flatten,a∉O++Fs1.flatten:=fun a ha z=>by
      obtain ⟨n1,n2,n3⟩:=JC nd0;rcases Jx z with y | y
      ·exact (JC n1).2.2 a ha a y rfl
      ·exact n3 a (Jw _ ha) a y rfl
     have sub:∀a∈O++Fs1.flatten,a∈[G1,G2].flatten++O++Fs1.flatten:=fun a ha=>by
      rcases Jx ha with z | z
      ·exact Jw _ (Jv _ z)
      ·exact Jv _ z
     obtain ⟨p,vs,rfl,hq,hst,hr⟩:=(A.own 0 v1 _ G1 rfl rfl rfl).itemsT (O':=O++Fs1.flatten) hc1 sub (fun a ha=>dis a (by simp [ha]))
     obtain ⟨p2,vs2,rfl,hq2,hst2,hr2⟩:=(A.own 1 v2 _ G2 rfl rfl rfl).items (O':=O++Fs1.flatten) hc2 sub (fun a ha=>dis a (by simp [ha]))
     have E1:EnvOk K He O Fs1 H1 σ Γ1:=A.env.dropL
     have hlen:vs.length=ds.length:=hr.1
     have hlen2:vs2.length=ds2.length:=hr2.1
     have hi:i<Γ1.length:=(JD hni).1
     have hj:j<Γ1.length:=(JD hnj).1
     refine ⟨p,p2,rfl,⟨vs,hq⟩,⟨vs2,hq2⟩,fun A0 hD=>?_⟩
     have hHeD:He A0=none:=E1.same.free hD
     have E0':EnvOk K He (A0::([]:List (List Addr)).flatten++O) Fs1 (b9 H1 A0 (.lst [])) (bC [i,j] σ) Γ1:=
      (E1.blank2 hni hnj).hide (G:=[A0]) (jP hD) (by simp) (fun a ha=>by simp at ha;rw [ha];exact hD) (fun a ha=>by simp at ha;rw [ha,g6];exact Option.some_ne_none _)
     refine ⟨fun k m ys H'=>m=vs.length-k/\k<=vs.length/\∃Γk Fk Gs acc,DW K He O Fs1 H1 σ i j s A0 Γ1.length ys H' Γk Fk Gs acc/\cX i j fc fe s ((ds.zip ds2).drop k) Γk acc=.ok ds' Γ2,⟨vs.length,by simp,Nat.zero_le _,Γ1,Fs1,[],[],⟨E0',jP hD,g6,fun a ha=>.inl (by simpa using ha),rfl,rfl,fun m v d G h1=>by simp at h1,rfl⟩,by simpa using eg⟩,?_⟩
     rintro k m ys H' ⟨rfl,hk,Γk,Fk,Gs,acc,g,eg'⟩
     refine ⟨g.at_,?_⟩
     have hPk:SqT K H' p vs:=fX g.same hq
     have hPk2:SqL K H' p2 vs2:=g.same.seq hq2
     by_cases hlt:k<vs.length
     case neg=>
      left
      have:(ds.zip ds2).drop k=[]:=List.drop_eq_nil_of_le (by rw [List.length_zip];omega)
      rw [this] at eg';have eg'':(Out.ok acc Γk:Out (List JI))=.ok ds' Γ2:=eg'
      injection eg'' with e1 e2
      subst e1;subst e2;refine ⟨⟨vs,hPk,by omega⟩,?_⟩
      obtain ⟨n1',_,n3'⟩:=JC g.env.ndO;refine h (.ref A0) H' (A0::Gs.flatten) Fk ⟨A.same.trans g.same,g.env.unblank2,fun a ha=>?_,?_⟩
      ·have up:a∈Fs1.flatten\/H1 a=none->a∈Fs.flatten\/H a=none:=fun z=>z.elim (fun y=>A.new a (Jv _ y)) fun y=>.inr (A.same.free y)
       rcases Jx ha with z | z
       ·rcases Jy z with z | z
        ·exact up (.inr (by rw [z];exact hD))
        ·exact up (g.new a (Jw _ z))
       ·exact up (g.new a (Jv _ z))
      ·exact .lst hsv g.at_ g.l1 g.l2 n1' fun m v d G h1 h2 h3=>g.own m v d G h1 h2 h3
     case pos=>
      right
      have hv:vs[k]?=some vs[k]:=Jz hlt
      have hkd:k<ds.length:=by omega
      have hd:ds[k]?=some ds[k]:=Jz hkd
      have hv2:vs2[k]?=some (vs2[k]'(by omega)):=Jz _
      have hd2:ds2[k]?=some (ds2[k]'(by omega)):=Jz _
      have hdr:(ds.zip ds2).drop k=(ds[k],ds2[k]'(by omega))::(ds.zip ds2).drop (k+1):=by
       rw [drop_eq_getElem_cons (by rw [List.length_zip];omega),List.getElem_zip]
      rw [hdr] at eg';generalize hdk:ds[k]=d at hd eg'
      generalize hvk:vs[k]=v at hv
      generalize hdk2:ds2[k]'(by omega)=d2 at hd2 eg'
      generalize hvk2:vs2[k]'(by omega)=w2 at hv2
      simp only [cX] at eg'
      have hik:i<Γk.length:=by rw [g.len];exact hi
      have hjk:j<Γk.length:=by rw [g.len];exact hj
      have hsl:ys.length<sizeLine:=by
       rw [g.l1]
       cases ec:fc ((Γk.set i (JJ d)).set j (JJ d2)) with
       | no=>rw [ec] at eg';cases eg'
       | er c Γ'=>rw [ec] at eg';cases eg'
       | ok b Γa=>
        rw [ec] at eg'
        cases b with
        | false=>
         dsimp only at eg'
         split at eg'
         ·assumption
         ·cases eg'
        | true=>
         dsimp only at eg'
         split at eg'
         ·split at eg'
          ·rename_i z
           simp only [Bool.and_eq_true,decide_eq_true_eq] at z
           exact z.2
          ·cases eg'
         ·cases eg'
      refine ⟨⟨vs,vs2,v,w2,hPk,hPk2,hv,hv2⟩,hsl,?_⟩
      rintro x Hx ⟨T,v',u',rfl,hTn,rfl,hv'⟩
      have ev:v'=v:=Option.some.inj ((hv' vs vs2 hPk hPk2).1.symm.trans hv)
      subst ev;have eu:u'=w2:=Option.some.inj ((hv' vs vs2 hPk hPk2).2.symm.trans hv2)
      subst eu;refine ⟨T,[v',u'],rfl,.of g6,rfl,v',[u'],rfl,u',[],rfl,rfl,?_⟩
      have sT:Same H' (b9 H' T (.tup [v',u'])):=jP hTn
      have Eg:=g.env.grow sT
      have reps:∀(x:V) (e:JI),Rep K (b8 H1 (O++Fs1.flatten)) x e->Rep K (b8 (b9 H' T (.tup [v',u'])) (A0::Gs.flatten++O++Fk.flatten)) x e:=fun x e hxe=>hxe.mono (pK (g.same.trans sT) fun a ha=>by
       rcases Jx ha with z | z
       ·rcases Jx z with z | z
        ·rcases Jy z with z | z
         ·rw [z];exact .inr hD
         ·exact (g.new a (Jw _ z)).elim (fun y=>.inl (Jv _ y)) .inr
        ·exact .inl (Jw _ z)
       ·exact (g.new a (Jv _ z)).elim (fun y=>.inl (Jv _ y)) .inr)
      have rep:=reps _ _ (hr.2 k v' d hv hd)
      have rep2:=reps _ _ (hr2.2 k u' d2 hv2 hd2)
      have lF:Fk.length=Γk.length:=g.env.len2
      have Ep:=EnvOk.put (G:=[]) (i:=i) (p:=⟨.leaf,d⟩) (v:=v') Eg (.leaf rep) rfl (fun a ha=>by simp at ha) hik
      have fk:∀a∈(Fk.set i []).flatten,a∈Fk.flatten:=fun a ha=>ny (by omega) ha
      have Eq:=EnvOk.put (G:=[]) (i:=j) (p:=⟨.leaf,d2⟩) (v:=u') Ep (.leaf (rep2.mono (pK (Same.refl _) fun a ha=>.inl (by
       rcases Jx ha with z | z
       ·exact Jw _ z
       ·exact Jv _ (fk a z))))) rfl (fun a ha=>by simp at ha) (by rw [length_set];exact hjk)
      have fkk:∀a∈((Fk.set i []).set j []).flatten,a∈Fk.flatten:=fun a ha=>fk a (ny (by rw [length_set];omega) ha)
      refine ⟨⟨by rw [length_set,length_set],fun m u hm=>?_⟩,?_⟩
      ·have:=(Cr hm).1
       simp only [mem_cons,not_mem_nil,or_false,not_or] at this
       rw [getElem?_set_ne (Ne.symm this.2),getElem?_set_ne (Ne.symm this.1)];exact hm
      refine ⟨He,_,_,_,Eq,?_⟩
      cases ec:fc ((Γk.set i (JJ d)).set j (JJ d2)) with
      | no=>rw [ec] at eg';cases eg'
      | er c Γ'=>rw [ec] at eg';cases eg'
      | ok b Γa=>
       rw [ec] at eg';intro H3 Fs3 s3' E3 n3
       have s3:Same H' H3:=sT.trans s3'
       have lena:Γa.length=Γ1.length:=by
        have:=E3.len1
        rw [length_set,length_set,yo,E1.len1] at this;exact this.symm
       have n3':∀a∈Fs3.flatten,a∈Fs1.flatten\/H1 a=none:=fun a ha=>(n3 a ha).elim (fun z=>g.new a (Jv _ (fkk a z))) fun z=>.inr (g.same.free (sT.free z))
       have n3k:∀a∈Fs3.flatten,a∈Fk.flatten\/H' a=none:=fun a ha=>(n3 a ha).elim (fun z=>.inl (fkk a z)) fun z=>.inr (sT.free z)
       cases b with
       | false=>
        dsimp only at eg'
        split at eg'
        case isFalse=>cases eg'
        refine jr ⟨vs.length-(k+1),by omega,rfl,hlt,(Γa.set i none).set j none,Fs3,Gs,acc,⟨E3.forget2,g.same.trans s3,s3 _ _ g.at_,fun a ha=>?_,g.l1,g.l2,fun m v d G h1 h2 h3=>(g.own m v d G h1 h2 h3).mono s3 fun a ha=>?_,by rw [length_set,length_set];exact lena⟩,eg'⟩
        ·rcases Jx ha with z | z
         ·exact g.new a (Jw _ z)
         ·exact n3' a z
        ·rcases Jx ha with z | z
         ·exact .inl (Jw _ z)
         ·exact (n3k a z).elim (fun y=>.inl (Jv _ y)) .inr
       | true=>
        refine j9 ⟨He,_,_,_,E3,?_⟩
        dsimp only at eg'
        cases ee:fe Γa with
        | no=>rw [ee] at eg';cases eg'
        | er c Γ'=>rw [ee] at eg';cases eg'
        | ok p Γb=>
         rw [ee] at eg';dsimp only at eg'
         split at eg'
         case isFalse=>cases eg'
         rename_i hco;simp only [Bool.and_eq_true,decide_eq_true_eq] at hco
         obtain ⟨hco,_⟩:=hco;intro u H4 G Fs4 A4;have lenb:Γb.length=Γ1.length:=by
          have:=A4.env.len1
          rw [length_set,length_set,yo,E1.len1] at this;exact this.symm
         have at4:H4 A0=some (.lst ys):=A4.same _ _ (s3 _ _ g.at_)
         have s14:Same H1 H4:=(g.same.trans s3).trans A4.same
         have new4:∀a∈G++Fs4.flatten,a∈Fs1.flatten\/H1 a=none:=fun a ha=>(A4.new a ha).elim (n3' a) fun z=>.inr ((g.same.trans s3).free z)
         have hG':∀a∈aY s G,a∈G:=fun a ha=>GI ha
         obtain ⟨k1,k2,k3⟩:=JC A4.env.ndO;have ndk:(aY s G).Nodup:=by
          cases s<;>first | exact nodup_nil | exact k1
         have pmO:(A0::(Gs++[aY s G]).flatten++O).Perm (aY s G++(A0::Gs.flatten++O)):=by
          rw [vM];show (A0::((Gs.flatten++aY s G)++O)).Perm _
          refine List.Perm.trans ?_ List.perm_middle.symm
          refine List.Perm.cons _ ?_
          rw [append_assoc];exact mQ _ _ _
         have E5:EnvOk K He (aY s G++(A0::Gs.flatten++O)) Fs4 H4 (((bC [i,j] σ).set i (some v')).set j (some u')) Γb:=A4.env.drop (fun a ha=>by
          rcases Jx ha with z | z
          ·exact Jw _ (hG' a z)
          ·exact Jv _ z) (List.nodup_append.mpr ⟨ndk,k2,fun a ha b hb=>k3 a (hG' a ha) b hb⟩)
         have E6:=(E5.perm pmO).forget2
         have hDin:A0∈A0::(Gs++[aY s G]).flatten++O:=mem_cons_self
         have E7:=E6.mutO (o:=.lst (ys++[u])) hDin at4 hHeD
         have subH:∀a∈A0::(Gs++[aY s G]).flatten++O++Fs4.flatten,a∈G++(A0::Gs.flatten++O)++Fs4.flatten:=fun a ha=>by
          rcases Jx ha with z | z
          ·rcases Jx (pmO.mem_iff.mp z) with y | y
           ·exact Jw _ (Jw _ (hG' a y))
           ·exact Jw _ (Jv _ y)
          ·exact Jv _ z
         have Dnot:∀{m:Nat} {Gj:List Addr},Gs[m]?=some Gj->A0∉Gj:=fun {m Gj} hj z=>by
          have nd:=g.env.ndO
          exact (List.nodup_cons.mp nd).1 (Jw _ (nX hj z))
         refine ⟨at4,vs.length-(k+1),by omega,rfl,hlt,(Γb.set i none).set j none,Fs4,Gs++[aY s G],acc++[p.d],⟨E7,fun b o hb=>?_,g6,fun a ha=>?_,by simp [g.l1],by simp [g.l2],fun m w d' G' h1 h2 h3=>?_,by rw [length_set,length_set];exact lenb⟩,eg'⟩
         ·rw [e9 (vw hb hD)]
          exact s14 b o hb
         ·rcases Jx ha with z | z
          ·rw [vM] at z
           rcases Jx z with z | z
           ·exact g.new a (Jw _ z)
           ·exact new4 a (Jw _ (hG' a z))
          ·exact new4 a (Jv _ z)
         ·by_cases hm:m<ys.length
          ·rw [getElem?_append_left hm] at h1
           rw [getElem?_append_left (by rw [<-g.l1];exact hm)] at h2
           rw [getElem?_append_left (by rw [g.l2,<-g.l1];exact hm)] at h3
           have o1:=g.own m w d' G' h1 h2 h3
           have o2:=o1.mono (O':=A0::(Gs++[aY s G]).flatten++O++Fs4.flatten) (s3.trans A4.same) fun a ha=>by
            have up:a∈G++Fs4.flatten->a∈A0::Gs.flatten++O++Fk.flatten\/H' a=none:=fun z=>(A4.new a z).elim (fun y=>(n3k a y).elim (fun y=>.inl (Jv _ y)) .inr) fun y=>.inr (s3.free y)
            rcases Jx (subH a ha) with z | z
            ·rcases Jx z with z | z
             ·exact up (Jw _ z)
             ·exact .inl (Jw _ z)
            ·exact up (Jv _ z)
           exact o2.mut hsv (Jw _ hDin) (Dnot h3) at4
          ·have hm':m=ys.length:=by
            have:=(JD h1).1
            rw [length_append,length_singleton] at this;omega
           subst hm'
           rw [getElem?_append_right (JH _),Nat.sub_self] at h1;rw [getElem?_append_right (by rw [g.l1];exact JH _),show ys.length-acc.length=0 by rw [g.l1];exact Nat.sub_self _] at h2
           rw [getElem?_append_right (by rw [g.l2,g.l1];exact JH _),show ys.length-Gs.length=0 by rw [g.l2,g.l1];exact Nat.sub_self _] at h3
           cases h1
           cases h2
           cases h3;have o3:=A4.own.coer (s:=s) (O':=A0::(Gs++[aY s G]).flatten++O++Fs4.flatten) hco subH fun a ha hO=>by
            cases s with
            | leaf=>
             exfalso
             have hO':a∈(A0::Gs.flatten++O)++Fs4.flatten:=by
              rw [vM] at hO;simpa [aY] using hO
             rcases Jx hO' with z | z
             ·exact k3 a ha a z rfl
             ·have nd:=A4.env.nd
              exact (JC nd).2.2 a (Jw _ ha) a z rfl
            | view=>cases hsv
            | lst s=>exact ha
            | tup ss=>exact ha
           refine o3.mut hsv (Jw _ hDin) (fun z=>?_) at4
           exact k3 A0 (hG' A0 z) A0 mem_cons_self rfl
end
section
variable {X:Cx} {N gl:List Str} {vs cs ls lo gs:List Nat} {W:XW} {a b:Expr} {pos p:Pos} {fl:FL}
theorem coY {scope:Scope} {x y:Str} {px py pt cpos:Pos} {kt:Nat} {elt:Expr} {ifs:List Expr} {fe:F1} {fc:FB} {vs' cs' lo' gs':List Nat} (S:Cp X N gl vs cs ls lo gs) (s:Sh) (i j k:Nat) (hij:(i != j)=true) (hx:N[i]?=some x) (hy:N[j]?=some y) (hk:gl[k]?=some ("zip":Str)) (hg:gs.contains k=true) (hm:X.mg "zip"=none)
  (h1:jH N [i,j] cs scope=true) (h2:kE N gl vs' cs' [i,j] lo' gs' scope=true) (ha:PA X [a,b] (tA X.K W fl)) (hs1:starEach [a,b] X.env=(false,eval a X.env)::starEach [b] X.env) (hpl:(backTo cpos (starEach [b] X.env)).any (·.1)=false)
  (hc:qI X N gl vs' cs' [i,j] lo' gs' fun Y=>PF Y ifs (tT Y.K W0 fc)) (he:qI X N gl vs' cs' [i,j] lo' gs' fun Y=>PE Y elt (tE Y.K W0 fe)) (hs:∀x,foldedSetIterable (.Call (.Name "zip" p) [a,b] [] cpos) X.env x=pure x) :
  PE X (.ListComp elt [⟨.Tuple [.Name x px,.Name y py] kt pt,.Call (.Name "zip" p) [a,b] [] cpos,ifs,0⟩] scope pos) (tE X.K W (fG s i j fl fc fe)):=by
 have B:=fun cells C s₀ H₀ ex=>S.blk h2 cells C s₀ H₀ ex
 have L:=fun cells C s₀ H₀ ex=>(B cells C s₀ H₀ ex).loc i x hx (by simp)
 have L2':=fun cells C s₀ H₀ ex=>(B cells C s₀ H₀ ex).loc j y hy (by simp)
 have hN:X.N.Nodup:=by rw [S.hN];exact S.nd
 exact br (ql (kH S h1) S.calm (Da (S.g hk hg).1 hm ha hs1 hpl)
  (fun cells C s₀ H₀ ex=>Ar (X:=blk X scope cells C s₀ H₀ ex) S.calm (mP (yk (X:=blk X scope cells C s₀ H₀ ex) (i:=i) hN (by show X.N[i]?=_;rw [S.hN];exact hx) (L cells C s₀ H₀ ex).1 (L cells C s₀ H₀ ex).2) (mP (yk (X:=blk X scope cells C s₀ H₀ ex) (i:=j) hN (by show X.N[j]?=_;rw [S.hN];exact hy) (L2' cells C s₀ H₀ ex).1 (L2' cells C s₀ H₀ ex).2) wM)))
  (fun cells C s₀ H₀ ex=>hc _ (B cells C s₀ H₀ ex) ⟨rfl,rfl,rfl,rfl,rfl,rfl⟩) (fun cells C s₀ H₀ ex=>he _ (B cells C s₀ H₀ ex) ⟨rfl,rfl,rfl,rfl,rfl,rfl⟩) hs) fun _ _ _=>tO (by simpa using hij)
end
end T
namespace TQ
open PySem PySem.Spec L2 T
open PyProof.Rows hiding St
variable {X:Cx} {N gl:List Str} {vs cs ls lo gs:List Nat} {W:XW} {a b:Expr} {pos p:Pos} {fl:FL}
theorem Cz {scope:Scope} {x y:Str} {px py pt cpos:Pos} {kt:Nat} {elt:Expr} {ifs:List Expr} {fe:F1} {fc:FB} {vs' cs' lo' gs':List Nat} (S:Cp X N gl vs cs ls lo gs) (s:Sh) (i j k:Nat) (hij:(i != j)=true) (hx:N[i]?=some x) (hy:N[j]?=some y) (hk:gl[k]?=some ("zip":Str)) (hg:gs.contains k=true) (hm:X.mg "zip"=none)
  (h1:jH N [i,j] cs scope=true) (h2:kE N gl vs' cs' [i,j] lo' gs' scope=true) (ha:Q (PA X [a,b] (tA X.K W fl))) (hs1:starEach [a,b] X.env=(false,eval a X.env)::starEach [b] X.env) (hpl:(backTo cpos (starEach [b] X.env)).any (·.1)=false)
  (hc:qI X N gl vs' cs' [i,j] lo' gs' fun Y=>Q (PF Y ifs (tT Y.K W0 fc))) (he:qI X N gl vs' cs' [i,j] lo' gs' fun Y=>Q (PE Y elt (tE Y.K W0 fe))) (hs:∀x,foldedSetIterable (.Call (.Name "zip" p) [a,b] [] cpos) X.env x=pure x) :
  Q (PE X (.ListComp elt [⟨.Tuple [.Name x px,.Name y py] kt pt,.Call (.Name "zip" p) [a,b] [] cpos,ifs,0⟩] scope pos) (tE X.K W (fG s i j fl fc fe))):=⟨T.coY S s i j k hij hx hy hk hg hm h1 h2 ha.p hs1 hpl (fun Y S' F=>(hc Y S' F).p) (fun Y S' F=>(he Y S' F).p) hs⟩
end TQ
namespace KC
open PySem PySem.Spec L2 T
open PyProof.Rows hiding St
noncomputable def pb (r_paper_of:List JI->b4):FS:=(aq (ay false 2 (ax .leaf 5 (dJ (ag 1 aU (ab (ae 1) af))) aK (ag 2 r_paper_of (ab (ae 0) (ab (ae 5) af)))))
  (aq (ay false 3 (ax .leaf 6 (aS (ae 2)) aK (ai (ae 6) (eK (.int 0)))))
  (aq (ay true 4 (ag 3 bA (ab (ae 0) (ab (ae 1) (ab (ae 3) af)))))
  (aL (bJ (ab (fH 4 bO (ab (ae 0) (ab (ae 1) (ab (ae 3) (ab (ae 4) af))))) (ab (cM 4) (ab (ae 2) af))))))))
noncomputable def oS:Nat->List JI->b4
 | 0=>fun _=>.no
 | n+1=>aI 7 (pb (oS n))
noncomputable def iO:FS:=(aq (ay false 5 (ai (ae 2) (ae 4)))
  (aq (ay false 6 (ax .leaf 9 (aS (ai (ai (ae 0) (eK (.int 2))) (ae 4))) aK (ai (ae 2) (ae 9))))
  (aq (ay false 7 (aw (bK false) (ae 1) (eK bx)))
  (aq (bL (aF ah (aw (bK false) (ae 4) (ai (ae 3) (eK (.int 1))))) (aL (aw bD (ae 5) (eK (.int 0)))) aG)
  (aq (bL (aF ah (aw (cu false) (ae 5) (eK .none))) (aL (xF (aw (bK true) (ae 4) (ai (ae 3) (eK (.int 0)))) (jy (ag 2 bX (ab (ae 7) (ab (ax .leaf 10 (aS (ae 6)) aK (aw (cu true) (ae 10) (eK .none))) af)))))) aG)
  (aq (ay false 8 (ag 2 bX (ab (ae 7) (ab (ax .leaf 10 (aS (ae 6)) aK (ag 2 dH (ab (ae 10) (ab (ae 5) af)))) af))))
  (aL (eY (aw jw (ae 5) (eK (.int 0))) (eY (aw (bK false) (ae 4) (ai (ae 3) (eK (.int 0)))) (ae 8))))))))))
noncomputable def cz:List JI->b4:=aI 11 iO
noncomputable def gU:FS:=(aq (ay false 4 (ai (ae 1) (eK (.int 0))))
  (aq (bL (dB (aF ah (aw (bK true) (ae 4) (eK cx))) (aF ah (aw (bK true) (ae 4) (eK cZ)))) (aL (aw (cu false) (ae 3) (eK .none))) aG)
  (aq (bL (eL (aF ah (aw (cu false) (ae 3) (eK .none))) (aF ah (aw iC (bt aQ (ab (ae 3) af)) (bt aQ (ab (ai (ae 0) (eK (.int 0))) af))))) (aL (eK (.bool false))) aG)
  (aq (ay false 5 (ag 3 aZ (ab (ae 0) (ab (ae 1) (ab (ae 2) af)))))
  (aL (bt (da false) (ab (ax .leaf 6 (eO (ab (bt aQ (ab (ae 3) af)) af)) aK (ag 5 cz (ab (ae 0) (ab (ae 4) (ab (ae 3) (ab (ae 5) (ab (ae 6) af))))))) af)))))))
noncomputable def aT:List JI->b4:=aI 7 gU
noncomputable def jD (r_is_right:List JI->b4):FS:=(aq (ay false 3 (ag 1 aU (ab (ae 1) af)))
  (aq (bL (aF ah (aw iC (bt aQ (ab (ai (ae 2) (eK (.int 2))) af)) (bt aQ (ab (ae 3) af)))) (aL (eK (.bool false))) aG)
  (aq (bL (b6 (aF bh (bt (da false) (ab (fG .leaf 6 5 (ab (ae 3) (ab (ai (ae 2) (eK (.int 2))) af)) aK (ag 3 r_is_right (ab (ae 0) (ab (ae 6) (ab (ae 5) af))))) af)))) (aL (eK (.bool false))) aG)
  (aq (ay false 4 (ax .leaf 5 (aS (ai (ae 2) (eK (.int 2)))) aK (ai (ae 5) (eK (.int 0)))))
  (aL (eY (ag 4 aT (ab (ae 0) (ab (ae 1) (ab (ae 4) (ab (ai (ae 2) (eK (.int 1))) af))))) (aw bD (ai (ae 2) (eK (.int 0))) (ag 4 bO (ab (ae 0) (ab (ae 1) (ab (ae 4) (ab (ai (ae 2) (eK (.int 1))) af))))))))))))
noncomputable def cB:Nat->List JI->b4
 | 0=>fun _=>.no
 | n+1=>aI 7 (jD (cB n))
noncomputable def jo:List JI->b4:=cB 30
noncomputable def pf:FS:=(aq (fx (ag 1 bo (ab (ae 0) af)))
  (aq (fx (ag 1 ba (ab (ae 1) af)))
  (aL (ag 3 jo (ab (ae 0) (ab (ae 1) (ab (ae 2) af)))))))
noncomputable def eR:List JI->b4:=aI 3 pf
open PySem.SeqAt
theorem nS {α β:Type} (e1:α->D) (e2:β->D) (f:α->β->PV) {s:Sh} {i j:Nat} {fe:F1} {Γ:Ev} (hb:∀x y,((((Γ.set i x).set j y).set i none).set j none)=Γ) :
  ∀(xs:List α) (ys:List β) (acc:List D),xs.length=ys.length->(∀a∈xs,∀b∈ys,(a,b)∈xs.zip ys->fe ((Γ.set i (JJ (e1 a))).set j (JJ (e2 b)))=.ok (f a b) ((Γ.set i (JJ (e1 a))).set j (JJ (e2 b)))/\coer s (f a b)=true)->acc.length+xs.length<=10000 ->
  cX i j aK fe s ((xs.map e1).zip (ys.map e2)) Γ acc=.ok (acc++(xs.zip ys).map fun p=>(f p.1 p.2).d) Γ
 | [],[],acc,_,_,_=>by simp [cX]
 | a::xs,b::ys,acc,hl,he,hn=>by
  have hb0:(10000:Nat)<=sizeLine:=by decide
  obtain ⟨h1,h2⟩:=he a mem_cons_self b mem_cons_self (by simp)
  simp only [length_cons] at hn hl
  rw [map_cons,map_cons,List.zip_cons_cons,cX];show (match fe ((Γ.set i (JJ (e1 a))).set j (JJ (e2 b))) with
   | .ok p Γ2=>if T.coer s p&&decide (acc.length<sizeLine) then cX i j aK fe s _ ((Γ2.set i none).set j none) (acc++[p.d]) else .no
   | _=>.no)=_
  rw [h1];dsimp only;rw [h2,decide_eq_true (by omega),Bool.and_self,if_pos rfl,hb,nS e1 e2 f hb xs ys _ (by omega) (fun a ha b hb h=>he a (JB _ ha) b (JB _ hb) (by simp [h])) (by simp only [length_append,length_cons,length_nil];omega)]
  simp
theorem u7 {α β:Type} (e1:α->D) (e2:β->D) (f:α->β->PV) {xs:List α} {ys:List β} {s s1 s2:Sh} {i j:Nat} {fl:FL} {fe:F1} {Γ:Ev} (hf:fl Γ=.ok [⟨s1,.tuple (xs.map e1)⟩,⟨s2,.list (ys.map e2)⟩] Γ) (hb:∀x y,((((Γ.set i x).set j y).set i none).set j none)=Γ) (hi:d6 Γ[i]?=true) (hj:d6 Γ[j]?=true) (hs:s.isView=false) (k1:aH ⟨s1,.tuple (xs.map e1)⟩ (xs.map e1)=true) (k2:aH ⟨s2,.list (ys.map e2)⟩ (ys.map e2)=true)
  (hl:xs.length=ys.length) (hn:xs.length<=10000) (he:∀a∈xs,∀b∈ys,(a,b)∈xs.zip ys->fe ((Γ.set i (JJ (e1 a))).set j (JJ (e2 b)))=.ok (f a b) ((Γ.set i (JJ (e1 a))).set j (JJ (e2 b)))/\coer s (f a b)=true) :
  fG s i j fl aK fe Γ=.ok ⟨.lst s,.list ((xs.zip ys).map fun p=>(f p.1 p.2).d)⟩ Γ:=by
 unfold fG;rw [hf,pM];unfold vE;dsimp only;rw [k1,k2,hi,hj,hs,decide_eq_true (by simpa using hl)]
 simp only [Bool.and_self,Bool.not_false,if_true]
 rw [nS e1 e2 f hb xs ys [] hl he (by simpa using hn)]
 simp
noncomputable def qQ (w:Wd) (any:Bool) (thr goal:List Nat) (rk:List (Option Nat)) (r:Nat):Bool:=
 if goal.contains r then decide (aX rk r=some 0) else match aX rk r with
 | none=>!thr.contains r||!bR any ((w.stp r).map fun t=>(aX rk t).isSome)
 | some k=>decide (0<k)&&(thr.contains r&&bR any ((w.stp r).map fun t=>ic (aX rk t) (some k)))
theorem Ji {o:Option Nat}:bD (oD o) (.int 0)=some (.bool (decide (o=some 0))):=by
 cases o with
 | none=>rfl
 | some k=>
  show some (PyData.bool (decide ((k:Int)=0)))=_
  have:decide ((k:Int)=0)=decide (some k=some 0):=by
   by_cases h:k=0<;>simp [h]
  rw [this]
noncomputable abbrev GK (w:Wd) (a:Wr) (thr goal:List Nat) (rk:List (Option Nat)) (r:Nat) (x y z u:Option PV):Ev:=[JJ w.enc,JJ (.str a.t),JJ (cU rk),JJ (.tuple [aA thr,aA goal]),JJ (rm r),x,y,z,u,none,none]
theorem js {o:Option Nat}:(!o.isNone)=o.isSome:=by cases o<;>rfl
theorem jz {w:Wd} (ok:w.Ok) {a:Wr} {thr goal:List Nat} {rk:List (Option Nat)} {r:Nat} (hl:rk.length=w.n) (hr:r<w.n) :
  cz [w.enc,.str a.t,cU rk,.tuple [aA thr,aA goal],rm r]=.ok ⟨.leaf,.bool (qQ w a.some thr goal rk r)⟩:=by
 have a1:=eN (rk:=rk) (t:=r) (by omega)
 have a2:=ok.at2 hr
 have s1:ay false 5 (ai (ae 2) (ae 4)) (GK w a thr goal rk r none none none none)=.nx (GK w a thr goal rk r (JJ (oD (aX rk r))) none none none):=by simp [GK,a1]
 have c1:ax .leaf 9 (aS (ai (ai (ae 0) (eK (.int 2))) (ae 4))) aK (ai (ae 2) (ae 9)) (GK w a thr goal rk r (JJ (oD (aX rk r))) none none none)=.ok ⟨.lst .leaf,.list ((w.stp r).map fun t=>oD (aX rk t))⟩ (GK w a thr goal rk r (JJ (oD (aX rk r))) none none none):=by
  refine kP rm (w.stp r) (fun t=>⟨.leaf,oD (aX rk t)⟩) (st:=true) (by simp [GK,Wd.enc,a2]) (by simp [GK]) rfl (zf ok) fun t ht=>?_
  have a3:=eN (rk:=rk) (t:=t) (by rw [hl];exact ok.stp_lt ht)
  simp [GK,a3]
 have s2:ay false 6 (ax .leaf 9 (aS (ai (ai (ae 0) (eK (.int 2))) (ae 4))) aK (ai (ae 2) (ae 9))) (GK w a thr goal rk r (JJ (oD (aX rk r))) none none none)=.nx (GK w a thr goal rk r (JJ (oD (aX rk r))) (JJ (.list ((w.stp r).map fun t=>oD (aX rk t)))) none none):=by
  rw [jc,c1];simp [GK]
 have s3:ay false 7 (aw (bK false) (ae 1) (eK bx)) (GK w a thr goal rk r (JJ (oD (aX rk r))) (JJ (.list ((w.stp r).map fun t=>oD (aX rk t)))) none none)=.nx (GK w a thr goal rk r (JJ (oD (aX rk r))) (JJ (.list ((w.stp r).map fun t=>oD (aX rk t)))) (JJ (.bool a.some)) none):=by simp [GK]
 have c2:ax .leaf 10 (aS (ae 6)) aK (aw (cu true) (ae 10) (eK .none)) (GK w a thr goal rk r (JJ (oD (aX rk r))) (JJ (.list ((w.stp r).map fun t=>oD (aX rk t)))) (JJ (.bool a.some)) none)=.ok ⟨.lst .leaf,.list (((w.stp r).map fun t=>(aX rk t).isSome).map .bool)⟩ (GK w a thr goal rk r (JJ (oD (aX rk r))) (JJ (.list ((w.stp r).map fun t=>oD (aX rk t)))) (JJ (.bool a.some)) none):=by
  rw [map_map];refine kP (fun t=>oD (aX rk t)) (w.stp r) (fun t=>⟨.leaf,.bool (aX rk t).isSome⟩) (st:=true) (by simp [GK]) (by simp [GK]) rfl (zf ok) fun t ht=>?_
  simp [GK,js]
 have c3:ax .leaf 10 (aS (ae 6)) aK (ag 2 dH (ab (ae 10) (ab (ae 5) af))) (GK w a thr goal rk r (JJ (oD (aX rk r))) (JJ (.list ((w.stp r).map fun t=>oD (aX rk t)))) (JJ (.bool a.some)) none)=.ok ⟨.lst .leaf,.list (((w.stp r).map fun t=>ic (aX rk t) (aX rk r)).map .bool)⟩ (GK w a thr goal rk r (JJ (oD (aX rk r))) (JJ (.list ((w.stp r).map fun t=>oD (aX rk t)))) (JJ (.bool a.some)) none):=by
  rw [map_map];refine kP (fun t=>oD (aX rk t)) (w.stp r) (fun t=>⟨.leaf,.bool (ic (aX rk t) (aX rk r))⟩) (st:=true) (by simp [GK]) (by simp [GK]) rfl (zf ok) fun t ht=>?_
  have dl:=rP (a:=aX rk t) (b:=aX rk r)
  simp [GK,dl]
 have d2:=El (c:=a.some) (bs:=(w.stp r).map fun t=>(aX rk t).isSome)
 have d3:=El (c:=a.some) (bs:=(w.stp r).map fun t=>ic (aX rk t) (aX rk r))
 have l2:ag 2 bX (ab (ae 7) (ab (ax .leaf 10 (aS (ae 6)) aK (aw (cu true) (ae 10) (eK .none))) af)) (GK w a thr goal rk r (JJ (oD (aX rk r))) (JJ (.list ((w.stp r).map fun t=>oD (aX rk t)))) (JJ (.bool a.some)) none)=.ok ⟨.leaf,.bool (bR a.some ((w.stp r).map fun t=>(aX rk t).isSome))⟩ (GK w a thr goal rk r (JJ (oD (aX rk r))) (JJ (.list ((w.stp r).map fun t=>oD (aX rk t)))) (JJ (.bool a.some)) none):=
  cG (aD (aC rfl) (aD c2 ao)) d2 rfl rfl
 have l3:ag 2 bX (ab (ae 7) (ab (ax .leaf 10 (aS (ae 6)) aK (ag 2 dH (ab (ae 10) (ab (ae 5) af)))) af)) (GK w a thr goal rk r (JJ (oD (aX rk r))) (JJ (.list ((w.stp r).map fun t=>oD (aX rk t)))) (JJ (.bool a.some)) none)=.ok ⟨.leaf,.bool (bR a.some ((w.stp r).map fun t=>ic (aX rk t) (aX rk r)))⟩ (GK w a thr goal rk r (JJ (oD (aX rk r))) (JJ (.list ((w.stp r).map fun t=>oD (aX rk t)))) (JJ (.bool a.some)) none):=
  cG (aD (aC rfl) (aD c3 ao)) d3 rfl rfl
 have b1:aF ah (aw (bK false) (ae 4) (ai (ae 3) (eK (.int 1)))) (GK w a thr goal rk r (JJ (oD (aX rk r))) (JJ (.list ((w.stp r).map fun t=>oD (aX rk t)))) (JJ (.bool a.some)) none)=.ok (goal.contains r) (GK w a thr goal rk r (JJ (oD (aX rk r))) (JJ (.list ((w.stp r).map fun t=>oD (aX rk t)))) (JJ (.bool a.some)) none):=
  eB (s:=.leaf) (aN (aC rfl) (hJ (j:=1) (s:=.leaf) (s2:=.leaf) (d:=aA goal) (aC rfl) aW rfl rfl rfl) sy)
 have b2:aF ah (aw (cu false) (ae 5) (eK .none)) (GK w a thr goal rk r (JJ (oD (aX rk r))) (JJ (.list ((w.stp r).map fun t=>oD (aX rk t)))) (JJ (.bool a.some)) none)=.ok (aX rk r).isNone (GK w a thr goal rk r (JJ (oD (aX rk r))) (JJ (.list ((w.stp r).map fun t=>oD (aX rk t)))) (JJ (.bool a.some)) none):=
  eB (s:=.leaf) (aN (aC rfl) aW (by rw [CW,w6]))
 refine aV (aB s1 (aB s2 (aB s3 ?_)))
 unfold qQ
 cases hg:goal.contains r with
 | true=>
  rw [hg] at b1;rw [if_pos rfl];exact vn (bq b1 (fun _=>bj (aN (aC rfl) aW Ji) rfl) nofun)
 | false=>
  rw [hg] at b1;rw [if_neg (by simp)]
  refine aB (bq b1 nofun fun _=>rfl) ?_
  cases hk:aX rk r with
  | none=>
   rw [hk] at b2 l2
   exact vn (bq b2 (fun _=>bj (v_or (aN (aC rfl) (hJ (j:=0) (s:=.leaf) (s2:=.leaf) (d:=aA thr) (aC rfl) aW rfl rfl rfl) zi) (v_not l2)) rfl) nofun)
  | some k=>
   rw [hk] at b2 l3
   refine aB (bq b2 nofun fun _=>rfl) (aB (dq l3 rfl (by simp)) (bj (v_and (a:=decide (0<k)) (aN (p:=⟨.leaf,.int (k:Int)⟩) (aC rfl) aW ?_) (v_and (aN (aC rfl) (hJ (j:=0) (s:=.leaf) (s2:=.leaf) (d:=aA thr) (aC rfl) aW rfl rfl rfl) sy) (aC rfl))) rfl))
   show some (PyData.bool (decide ((0:Int)<(k:Int))))=_
   rw [show decide ((0:Int)<(k:Int))=decide (0<k) from decide_eq_decide.mpr (by omega)]
theorem xb {o:Option Nat} {k:Nat}:ic o (some k)=true↔∃j,o=some j/\j<k:=by
 cases o with
 | none=>simp [ic]
 | some a=>simp [ic]
theorem kv {any:Bool} {l:List Nat} {p q:Nat->Prop} (h:∀t∈l,p t↔q t):led any l p↔led any l q:=by
 unfold led
 cases any with
 | true=>simpa using ⟨fun ⟨t,a,b⟩=>⟨t,a,(h t a).mp b⟩,fun ⟨t,a,b⟩=>⟨t,a,(h t a).mpr b⟩⟩
 | false=>simpa using ⟨fun z t a=>(h t a).mp (z t a),fun z t a=>(h t a).mpr (z t a)⟩
theorem wc {w:Wd} {any:Bool} {thr goal:List Nat} {rk:List (Option Nat)} (hl:rk.length=w.n):(List.range w.n).all (qQ w any thr goal rk)=true↔Right w any thr goal rk:=by
 have l1:∀r,bR any ((w.stp r).map fun t=>(aX rk t).isSome)=true↔led any (w.stp r) fun t=>aX rk t≠none:=fun r=>led_iff.trans (kv fun t _=>by cases aX rk t<;>simp)
 have l2:∀r k,bR any ((w.stp r).map fun t=>ic (aX rk t) (some k))=true↔led any (w.stp r) fun t=>∃j,aX rk t=some j/\j<k:=fun r k=>led_iff.trans (kv fun t _=>xb)
 have hm:∀(l:List Nat) r,l.contains r=true↔r∈l:=fun l r=>by simp
 constructor
 ·intro h
  have h:∀r,r<w.n->qQ w any thr goal rk r=true:=fun r hr=>List.all_eq_true.mp h r (List.mem_range.mpr hr)
  refine ⟨hl,fun r hr hg=>?_,fun r k hr hg hk=>?_,fun r hr hk=>?_⟩
  ·have:=h r hr
   unfold qQ at this;rw [if_pos ((hm _ _).mpr hg)] at this;exact of_decide_eq_true this
  ·have:=h r hr
   unfold qQ at this;rw [if_neg (fun z=>hg ((hm _ _).mp z)),hk] at this
   simp only [Bool.and_eq_true,decide_eq_true_eq] at this
   exact ⟨this.1,(hm _ _).mp this.2.1,(l2 r k).mp this.2.2⟩
  ·have:=h r hr
   unfold qQ at this;by_cases hg:r∈goal
   ·rw [if_pos ((hm _ _).mpr hg),hk] at this
    cases of_decide_eq_true this
   ·rw [if_neg (fun z=>hg ((hm _ _).mp z)),hk] at this
    simp only [Bool.or_eq_true,Bool.not_eq_true'] at this
    refine ⟨hg,this.elim (fun z=>.inl fun y=>?_) fun z=>.inr fun y=>?_⟩
    ·rw [(hm _ _).mpr y] at z;cases z
    ·rw [(l1 r).mpr y] at z;cases z
 ·intro R
  refine List.all_eq_true.mpr fun r hr=>?_
  have hr:=List.mem_range.mp hr
  unfold qQ;by_cases hg:r∈goal
  ·rw [if_pos ((hm _ _).mpr hg),R.g r hr hg];rfl
  ·rw [if_neg (fun z=>hg ((hm _ _).mp z))]
   cases hk:aX rk r with
   | none=>
    simp only [Bool.or_eq_true,Bool.not_eq_true']
    refine (R.z r hr hk).2.elim (fun z=>.inl ?_) fun z=>.inr ?_
    ·cases e:thr.contains r with
     | false=>rfl
     | true=>exact absurd ((hm _ _).mp e) z
    ·cases e:bR any ((w.stp r).map fun t=>(aX rk t).isSome) with
     | false=>rfl
     | true=>exact absurd ((l1 r).mp e) z
   | some k=>
    obtain ⟨h1,h2,h3⟩:=R.p r k hr hg hk;simp only [Bool.and_eq_true,decide_eq_true_eq]
    exact ⟨h1,(hm _ _).mpr h2,(l2 r k).mpr h3⟩
theorem Ed {s:Sn} {Γ:Ev} (h:Γ[1]?=some (JJ s.enc)):ai (ae 1) (eK (.int 0)) Γ=.ok ⟨.leaf,.str s.w.t⟩ Γ:=by
 cases s<;>simp [h,Sn.enc,Sn.w]
noncomputable abbrev Ik:FB:=dB (aF ah (aw (bK true) (ae 4) (eK cx))) (aF ah (aw (bK true) (ae 4) (eK cZ)))
theorem yx {a:Wr} {Γ:Ev} (h:Γ[4]?=some (JJ (.str a.t))):Ik Γ=.ok (!(decide (a=.su\/a=.au))&&!(decide (a=.sa\/a=.aa))) Γ:=by
 cases a<;>simp [Ik,h]
theorem yf {w:Wd} {s:Sn} {P R:D} (h1:¬(s.w=.su\/s.w=.au)) (h2:¬(s.w=.sa\/s.w=.aa)):aT [w.enc,s.enc,P,R]=.ok ⟨.leaf,.bool (bP R)⟩:=by
 refine aV (aB (dq (Ed rfl) rfl (by simp [ak])) (vn (bq (yx (a:=s.w) rfl) (fun _=>bj (aN (aC rfl) aW rfl) rfl) fun z=>?_)))
 rw [decide_eq_false h1,decide_eq_false h2] at z
 cases z
theorem D8 {w:Wd} (ok:w.Ok) {s:Sn} {P:D} {sh:Sh} {thr goal:List Nat} {rk:List (Option Nat)} (h:(s.w=.su\/s.w=.au)\/(s.w=.sa\/s.w=.aa)) (ht:aZ [w.enc,s.enc,P]=.ok ⟨sh,.tuple [aA thr,aA goal]⟩) (hc:coer .leaf ⟨sh,.tuple [aA thr,aA goal]⟩=true) (hl:rk.length=w.n) :
  aT [w.enc,s.enc,P,cU rk]=.ok ⟨.leaf,.bool ((List.range w.n).all (qQ w s.w.some thr goal rk))⟩:=by
 have lo:=ok.g.lo
 have h24:=ok.h24
 have lk:bt aQ (ab (ae 3) af) [JJ w.enc,JJ s.enc,JJ P,JJ (cU rk),JJ (.str s.w.t),none,none]=.ok ⟨.leaf,.int (w.n:Int)⟩ [JJ w.enc,JJ s.enc,JJ P,JJ (cU rk),JJ (.str s.w.t),none,none]:=by
  refine b7 (aD (aC rfl) ao) ?_
  show some (PyData.int ((rk.map oD).length:Int))=_
  rw [length_map,hl]
 have lw:bt aQ (ab (ai (ae 0) (eK (.int 0))) af) [JJ w.enc,JJ s.enc,JJ P,JJ (cU rk),JJ (.str s.w.t),none,none]=.ok ⟨.leaf,.int (w.n:Int)⟩ [JJ w.enc,JJ s.enc,JJ P,JJ (cU rk),JJ (.str s.w.t),none,none]:=by
  refine b7 (aD (hJ (j:=0) (s:=.leaf) (s2:=.leaf) (d:=.list w.os) (aC rfl) aW rfl rfl rfl) ao) ?_
  show some (PyData.int (w.os.length:Int))=_
  rw [lo]
 have c:ax .leaf 6 (eO (ab (bt aQ (ab (ae 3) af)) af)) aK (ag 5 cz (ab (ae 0) (ab (ae 4) (ab (ae 3) (ab (ae 5) (ab (ae 6) af)))))) [JJ w.enc,JJ s.enc,JJ P,JJ (cU rk),JJ (.str s.w.t),JJ (.tuple [aA thr,aA goal]),none]=.ok ⟨.lst .leaf,.list ((List.range w.n).map fun r=>.bool (qQ w s.w.some thr goal rk r))⟩ [JJ w.enc,JJ s.enc,JJ P,JJ (cU rk),JJ (.str s.w.t),JJ (.tuple [aA thr,aA goal]),none]:=by
  refine kP rm (List.range w.n) (fun r=>⟨.leaf,.bool (qQ w s.w.some thr goal rk r)⟩) (st:=true) ?_ (by simp) rfl (by simp;omega) fun r hr=>⟨?_,rfl⟩
  ·refine (iF (k:=(w.n:Int)) (ps:=[⟨.leaf,.int w.n⟩]) (aD (b7 (aD (aC rfl) ao) ?_) ao) rfl (by omega) (by omega)).trans (by rw [<-BZ];rfl)
   show some (PyData.int ((rk.map oD).length:Int))=_
   rw [length_map,hl]
  ·exact cG (aD (aC rfl) (aD (aC rfl) (aD (aC rfl) (aD (aC rfl) (aD (aC rfl) ao))))) (jz ok hl (List.mem_range.mp hr)) rfl rfl
 refine aV (aB (dq (Ed rfl) rfl (by simp [ak])) (aB (bq (yx (a:=s.w) rfl) (fun z=>?_) fun _=>rfl) (aB (bq (dS (a:=false) (b:=false) (eB (s:=.leaf) (aN (aC rfl) aW rfl)) (eB (s:=.leaf) (aN lk lw ?_))) nofun fun _=>rfl) (aB (dq (cG (aD (aC rfl) (aD (aC rfl) (aD (aC rfl) ao))) ht rfl rfl) hc (by simp [ak])) (bj (b7 (aD c ao) ?_) rfl)))))
 ·exfalso
  rcases h with h | h
  ·rw [decide_eq_true h] at z;cases z
  ·rw [decide_eq_true h] at z;simp at z
 ·show some (PyData.bool (!decide ((w.n:Int)=(w.n:Int))))=_
  simp
 ·have:=Gr (bs:=(List.range w.n).map (qQ w s.w.some thr goal rk))
  rw [map_map] at this;rw [List.all_map] at this;exact this
theorem vf {w:Wd} (ok:w.Ok) {s:Sn} (h:(s.w=.su\/s.w=.au)\/(s.w=.sa\/s.w=.aa)) {rk:List (Option Nat)} (hl:rk.length=w.n):∃b:Bool,aT [w.enc,s.enc,eP (s.args.map (aJ w)),cU rk]=.ok ⟨.leaf,.bool b⟩/\(b=true↔gx w s (cU rk)):=by
 have inj:∀{a b:List (Option Nat)},cU a=cU b->a=b:=fun {a b} e=>by
  have e:a.map oD=b.map oD:=PyData.list.inj e
  have io:∀x y:Option Nat,oD x=oD y->x=y:=fun x y z=>by
   cases x<;>cases y<;>first | rfl | (cases z;done) | skip
   rename_i p q;have:((p:Int))=(q:Int):=PyData.int.inj z
   rw [Int.ofNat.inj this]
  exact (List.map_inj_right (fun x y z=>io x y z)).mp e
 have key:∀{any:Bool} {thr goal:List Nat},(List.range w.n).all (qQ w any thr goal rk)=true↔∃rk',cU rk=cU rk'/\Right w any thr goal rk':=fun {any thr goal}=>(wc hl).trans ⟨fun R=>⟨rk,rfl,R⟩,fun ⟨rk',e,R⟩=>by rw [inj e];exact R⟩
 cases s with
 | yes=>exact absurd h (by simp [Sn.w])
 | mk c=>exact absurd h (by simp [Sn.w])
 | un k a=>
  cases k with
  | not=>exact absurd h (by simp [Sn.w,U5.w])
  | sn=>exact absurd h (by simp [Sn.w,U5.w])
  | an=>exact absurd h (by simp [Sn.w,U5.w])
  | sa=>exact ⟨_,D8 ok h (Ew ok (s:=.un .sa a) (A:=aJ w a) (by simp [Sn.w,U5.w])) rfl hl,key⟩
  | aa=>exact ⟨_,D8 ok h (Ew ok (s:=.un .aa a) (A:=aJ w a) (by simp [Sn.w,U5.w])) rfl hl,key⟩
 | bi k a b=>
  cases k with
  | and=>exact absurd h (by simp [Sn.w,B4.w])
  | or=>exact absurd h (by simp [Sn.w,B4.w])
  | su=>exact ⟨_,D8 ok h (Ex (s:=.bi .su a b) (A:=aJ w a) (B:=aJ w b) (.inl rfl)) rfl hl,key⟩
  | au=>exact ⟨_,D8 ok h (Ex (s:=.bi .au a b) (A:=aJ w a) (B:=aJ w b) (.inr rfl)) rfl hl,key⟩
inductive Pap (w:Wd):Sn->D->Prop where
 | mk {s:Sn} {R:D} {bs:List D}:gx w s R->bs.length=s.args.length->(∀a b,(a,b)∈s.args.zip bs->Pap w a b)->Pap w s (.tuple [aA (aJ w s),R,.list bs])
theorem Pap.fst {w:Wd} {s:Sn} {d:D} (h:Pap w s d):∃r,d=.tuple (aA (aJ w s)::r):=by
 cases h with
 | mk h1 h2 h3=>exact ⟨_,rfl⟩
theorem GU {s a:Sn} (ha:a∈s.args) {n:Nat} (h:s.dep<=n+1):a.dep<=n:=by
 have:=Cm ha
 omega
theorem tR {w:Wd} (ok:w.Ok) {s:Sn}:∃p:PV,bA [w.enc,s.enc,eP (s.args.map (aJ w))]=.ok p/\gx w s p.d/\(p=⟨.leaf,.none⟩\/p.s=.lst .leaf)/\((s.w=.su\/s.w=.au)\/(s.w=.sa\/s.w=.aa)->p.s=.lst .leaf):=by
 have h24:=ok.h24
 have plain:∀s:Sn,¬(s.w=.su\/s.w=.au)->¬(s.w=.sa\/s.w=.aa)->∀P:D,bA [w.enc,s.enc,P]=.ok ⟨.leaf,.none⟩:=fun s h1 h2 P=>by
  have hst:=Ed (s:=s) (Γ:=ak 6 [w.enc,s.enc,P]) rfl
  refine aV ?_
  unfold gq;rw [fy,jc,hst];simp [ak,h1,h2]
 have pl:∀s:Sn,¬(s.w=.su\/s.w=.au)->¬(s.w=.sa\/s.w=.aa)->(∀R,R=.none->gx w s R)->∃p:PV,bA [w.enc,s.enc,eP (s.args.map (aJ w))]=.ok p/\gx w s p.d/\(p=⟨.leaf,.none⟩\/p.s=.lst .leaf)/\((s.w=.su\/s.w=.au)\/(s.w=.sa\/s.w=.aa)->p.s=.lst .leaf):=fun s h1 h2 h3=>⟨_,plain s h1 h2 _,h3 _ rfl,.inl rfl,fun z=>(z.elim h1 h2).elim⟩
 have gl:∀a:Sn,(∀r∈(List.range w.n).filter (fun t=>!(aJ w a).contains t),r<w.n)/\((List.range w.n).filter fun t=>!(aJ w a).contains t).length<=1000:=fun a=>
  ⟨fun r hr=>List.mem_range.mp (List.mem_filter.mp hr).1,Nat.le_trans (length_filter_le _ _) (by simp;omega)⟩
 cases s with
 | yes=>exact pl .yes (by simp [Sn.w]) (by simp [Sn.w]) fun R h=>h
 | mk c=>exact pl (.mk c) (by simp [Sn.w]) (by simp [Sn.w]) fun R h=>h
 | un k a=>
  cases k with
  | not=>exact pl (.un .not a) (by simp [Sn.w,U5.w]) (by simp [Sn.w,U5.w]) fun R h=>h
  | sn=>exact pl (.un .sn a) (by simp [Sn.w,U5.w]) (by simp [Sn.w,U5.w]) fun R h=>h
  | an=>exact pl (.un .an a) (by simp [Sn.w,U5.w]) (by simp [Sn.w,U5.w]) fun R h=>h
  | sa=>
   obtain ⟨rk,e,R⟩:=Et ok (s:=.un .sa a) (P:=eP [aJ w a]) (.inr (.inl rfl)) ⟨_,rfl,Ew ok (by simp [Sn.w,U5.w])⟩ (fun r hr=>List.mem_range.mp hr) (by simp;omega) (gl a).1 (gl a).2
   exact ⟨_,e,⟨rk,rfl,R⟩,.inr rfl,fun _=>rfl⟩
  | aa=>
   obtain ⟨rk,e,R⟩:=Et ok (s:=.un .aa a) (P:=eP [aJ w a]) (.inr (.inr rfl)) ⟨_,rfl,Ew ok (by simp [Sn.w,U5.w])⟩ (fun r hr=>List.mem_range.mp hr) (by simp;omega) (gl a).1 (gl a).2
   exact ⟨_,e,⟨rk,rfl,R⟩,.inr rfl,fun _=>rfl⟩
 | bi k a b=>
  cases k with
  | and=>exact pl (.bi .and a b) (by simp [Sn.w,B4.w]) (by simp [Sn.w,B4.w]) fun R h=>h
  | or=>exact pl (.bi .or a b) (by simp [Sn.w,B4.w]) (by simp [Sn.w,B4.w]) fun R h=>h
  | su=>
   obtain ⟨rk,e,R⟩:=Et ok (s:=.bi .su a b) (P:=eP [aJ w a,aJ w b]) (.inl (.inl rfl)) ⟨_,rfl,Ex (.inl rfl)⟩ D5 (Cq ok) D5 (Cq ok)
   exact ⟨_,e,⟨rk,rfl,R⟩,.inr rfl,fun _=>rfl⟩
  | au=>
   obtain ⟨rk,e,R⟩:=Et ok (s:=.bi .au a b) (P:=eP [aJ w a,aJ w b]) (.inl (.inr rfl)) ⟨_,rfl,Ex (.inr rfl)⟩ D5 (Cq ok) D5 (Cq ok)
   exact ⟨_,e,⟨rk,rfl,R⟩,.inr rfl,fun _=>rfl⟩
theorem nA:∀a b:List Nat,PyData.eqvAll (a.map rm) (b.map rm)=decide (a=b)
 | [],[]=>by simp [PyData.eqvAll]
 | [],y::b=>by simp [PyData.eqvAll]
 | x::a,[]=>by simp [PyData.eqvAll]
 | x::a,y::b=>by
  rw [map_cons,map_cons,PyData.eqvAll,nA a b,PyData.eqv];have:((x:Int)==(y:Int))=decide (x=y):=by
   rw [Bool.eq_iff_iff];simp only [beq_iff_eq,decide_eq_true_eq]
   omega
  rw [this];by_cases h1:x=y<;>by_cases h2:a=b<;>simp [h1,h2]
theorem FC {a b:List Nat}:bD (aA a) (aA b)=some (.bool (decide (a=b))):=by
 show (if shaped (aA a)&&shaped (aA b) then some (PyData.bool (PyData.eqv (.list (a.map rm)) (.list (b.map rm)))) else none)=_
 rw [FK,FK,Bool.and_self,if_pos rfl,PyData.eqv,nA]
theorem gR {w:Wd} (ok:w.Ok):∀(n:Nat) (s:Sn),s.ok->s.dep<=n->∀(A:List Nat) (R:D) (bs:List D) (b:Bool),bs.length=s.args.length->(∀a b,(a,b)∈s.args.zip bs->Pap w a b)->aT [w.enc,s.enc,eP (s.args.map (aJ w)),R]=.ok ⟨.leaf,.bool b⟩->(b=true->gx w s R) ->
  cB n [w.enc,s.enc,.tuple [aA A,R,.list bs]]=.ok ⟨.leaf,.bool (b&&decide (A=aJ w s))⟩
 | 0,s,_,h=>by
  have:=s.dep_args
  omega
 | n+1,s,hs,h=>by
  intro A R bs b hl hp hr hb;have pa:=Gh s
  have ls:=s.args_le
  let P:D:=.tuple [aA A,R,.list bs]
  have i2:∀x3 x4:Option PV,ai (ae 2) (eK (.int 2)) [JJ w.enc,JJ s.enc,JJ (.tuple [aA A,R,.list bs]),x3,x4,none,none]=.ok ⟨.leaf,.list bs⟩ [JJ w.enc,JJ s.enc,JJ (.tuple [aA A,R,.list bs]),x3,x4,none,none]:=fun x3 x4=>hJ (j:=2) (s:=.leaf) (s2:=.leaf) (aC rfl) aW rfl rfl rfl
  have c:fG .leaf 6 5 (ab (ae 3) (ab (ai (ae 2) (eK (.int 2))) af)) aK (ag 3 (cB n) (ab (ae 0) (ab (ae 6) (ab (ae 5) af)))) [JJ w.enc,JJ s.enc,JJ (.tuple [aA A,R,.list bs]),JJ (.tuple (s.args.map Sn.enc)),none,none,none]=.ok ⟨.lst .leaf,.list ((s.args.zip bs).map fun _=>.bool true)⟩ [JJ w.enc,JJ s.enc,JJ (.tuple [aA A,R,.list bs]),JJ (.tuple (s.args.map Sn.enc)),none,none,none]:=by
   refine u7 Sn.enc (fun d:D=>d) (fun _ _=>⟨.leaf,.bool true⟩) (xs:=s.args) (ys:=bs) (s1:=.leaf) (s2:=.leaf) ?_ (fun _ _=>rfl) rfl rfl rfl rfl rfl hl.symm (by omega) fun a ha b hb' hab=>⟨?_,rfl⟩
   ·have:=aD (aC (Γ:=[JJ w.enc,JJ s.enc,JJ (.tuple [aA A,R,.list bs]),JJ (.tuple (s.args.map Sn.enc)),none,none,none]) (i:=3) rfl) (aD (i2 (JJ (.tuple (s.args.map Sn.enc))) none) ao)
    rw [this,List.map_id']
   ·refine cG (aD (aC rfl) (aD (aC rfl) (aD (aC rfl) ao))) ?_ rfl rfl
    show cB n [w.enc,a.enc,b]=.ok ⟨.leaf,.bool true⟩
    have hp':=hp a b hab
    cases hp' with
    | @mk _ R' bs' h1 h2 h3=>
     have ha':=Sn.args_ok hs a ha
     have rt:aT [w.enc,a.enc,eP (a.args.map (aJ w)),R']=.ok ⟨.leaf,.bool true⟩:=by
      by_cases ht:(a.w=.su\/a.w=.au)\/(a.w=.sa\/a.w=.aa)
      ·have hrk:∃rk,R'=cU rk/\rk.length=w.n:=by
        cases a with
        | yes=>exact absurd ht (by simp [Sn.w])
        | mk c=>exact absurd ht (by simp [Sn.w])
        | un k a=>
         cases k with
         | not=>exact absurd ht (by simp [Sn.w,U5.w])
         | sn=>exact absurd ht (by simp [Sn.w,U5.w])
         | an=>exact absurd ht (by simp [Sn.w,U5.w])
         | sa=>obtain ⟨rk,e,R⟩:=h1;exact ⟨rk,e,R.len⟩
         | aa=>obtain ⟨rk,e,R⟩:=h1;exact ⟨rk,e,R.len⟩
        | bi k a b=>
         cases k with
         | and=>exact absurd ht (by simp [Sn.w,B4.w])
         | or=>exact absurd ht (by simp [Sn.w,B4.w])
         | su=>obtain ⟨rk,e,R⟩:=h1;exact ⟨rk,e,R.len⟩
         | au=>obtain ⟨rk,e,R⟩:=h1;exact ⟨rk,e,R.len⟩
       obtain ⟨rk,e,hl'⟩:=hrk;subst e;obtain ⟨b',e1,e2⟩:=vf ok ht hl'
       rw [e1,e2.mpr h1]
      ·have hn:R'=.none:=by
        cases a with
        | yes=>exact h1
        | mk c=>exact h1
        | un k a=>
         cases k with
         | not=>exact h1
         | sn=>exact h1
         | an=>exact h1
         | sa=>exact absurd (.inr (.inl rfl)) ht
         | aa=>exact absurd (.inr (.inr rfl)) ht
        | bi k a b=>
         cases k with
         | and=>exact h1
         | or=>exact h1
         | su=>exact absurd (.inl (.inl rfl)) ht
         | au=>exact absurd (.inl (.inr rfl)) ht
       rw [yf (fun z=>ht (.inl z)) fun z=>ht (.inr z),hn]
       rfl
     have:=gR ok n a ha' (GU ha h) (aJ w a) R' bs' true h2 h3 rt fun _=>h1
     rw [this];simp
  have al:da false [.list ((s.args.zip bs).map fun _=>.bool true)]=some (.bool true):=by
   have:=Gr (bs:=(s.args.zip bs).map fun _=>true)
   rw [map_map] at this;rw [List.all_map] at this;refine this.trans ?_
   have:(s.args.zip bs).all (id∘fun _=>true)=true:=List.all_eq_true.mpr fun _ _=>rfl
   rw [this]
  have c2:ax .leaf 5 (aS (ai (ae 2) (eK (.int 2)))) aK (ai (ae 5) (eK (.int 0))) [JJ w.enc,JJ s.enc,JJ (.tuple [aA A,R,.list bs]),JJ (.tuple (s.args.map Sn.enc)),none,none,none]=.ok ⟨.lst .leaf,eP (s.args.map (aJ w))⟩ [JJ w.enc,JJ s.enc,JJ (.tuple [aA A,R,.list bs]),JJ (.tuple (s.args.map Sn.enc)),none,none,none]:=by
   have eb:bs=(s.args.zip bs).map fun p=>p.2:=by
    rw [List.map_snd_zip (by omega)]
   have es:s.args=(s.args.zip bs).map fun p=>p.1:=by
    rw [List.map_fst_zip (by omega)]
   have:=kP (fun p:Sn×D=>p.2) (s.args.zip bs) (fun p=>⟨.leaf,aA (aJ w p.1)⟩) (s:=.leaf) (i:=5) (fi:=aS (ai (ae 2) (eK (.int 2)))) (fe:=ai (ae 5) (eK (.int 0))) (st:=true) (Γ:=[JJ w.enc,JJ s.enc,JJ (.tuple [aA A,R,.list bs]),JJ (.tuple (s.args.map Sn.enc)),none,none,none]) (by rw [<-eb];exact dD (i2 _ _) rfl) (by simp) rfl (by rw [List.length_zip];omega) fun p hp'=>by
    obtain ⟨r,e⟩:=(hp p.1 p.2 hp').fst
    exact ⟨hJ (j:=0) (s:=.leaf) (s2:=.leaf) (ds:=aA (aJ w p.1)::r) (by rw [<-e];exact aC rfl) aW (by simp [fq]) rfl rfl,rfl⟩
   rw [this];have e2:(s.args.zip bs).map (fun p=>aA (aJ w p.1))=(s.args.map (aJ w)).map aA:=by
    rw [map_map];conv=>rhs;rw [es]
    rw [map_map];rfl
   show Out.ok (⟨.lst .leaf,.list ((s.args.zip bs).map fun p=>aA (aJ w p.1))⟩:PV) _=_
   rw [e2]
  show aI 7 (jD (cB n)) [w.enc,s.enc,.tuple [aA A,R,.list bs]]=_
  refine aV (aB (dq (cG (aD (aC rfl) ao) pa rfl rfl) (by cases s<;>rfl) (by simp [ak])) (aB (bq (t:=false) (eB (s:=.leaf) (aN (b7 (aD (i2 _ _) ao) rfl) (b7 (aD (aC rfl) ao) rfl) ?_)) nofun fun _=>rfl) (aB (bq (dU (dg (b7 (aD c ao) al))) nofun fun _=>rfl) (aB (dq c2 rfl (by simp)) ?_))))
  ·show some (PyData.bool (!decide (((bs.length:Nat):Int)=((s.args.map Sn.enc).length:Int))))=_
   rw [length_map,hl];simp
  ·have ar:ag 4 aT (ab (ae 0) (ab (ae 1) (ab (ae 4) (ab (ai (ae 2) (eK (.int 1))) af)))) [JJ w.enc,JJ s.enc,JJ (.tuple [aA A,R,.list bs]),JJ (.tuple (s.args.map Sn.enc)),JJ (eP (s.args.map (aJ w))),none,none]=.ok ⟨.leaf,.bool b⟩ [JJ w.enc,JJ s.enc,JJ (.tuple [aA A,R,.list bs]),JJ (.tuple (s.args.map Sn.enc)),JJ (eP (s.args.map (aJ w))),none,none]:=
    cG (aD (aC rfl) (aD (aC rfl) (aD (aC rfl) (aD (hJ (j:=1) (s:=.leaf) (s2:=.leaf) (d:=R) (aC rfl) aW rfl rfl rfl) ao)))) hr rfl rfl
   cases b with
   | false=>
    refine bj (p:=⟨.leaf,.bool false⟩) (Γ1:=[JJ w.enc,JJ s.enc,JJ (.tuple [aA A,R,.list bs]),JJ (.tuple (s.args.map Sn.enc)),JJ (eP (s.args.map (aJ w))),none,none]) ?_ rfl
    rw [Ae];refine (congrArg (fun o=>Out.bind o _) ar).trans rfl
   | true=>
    have rb:=gQ ok hs (hb rfl)
    exact bj (v_and ar (aN (hJ (j:=0) (s:=.leaf) (s2:=.leaf) (d:=aA A) (aC rfl) aW rfl rfl rfl) (cG (aD (aC rfl) (aD (aC rfl) (aD (aC rfl) (aD (hJ (j:=1) (s:=.leaf) (s2:=.leaf) (d:=R) (aC rfl) aW rfl rfl rfl) ao)))) rb rfl rfl) FC)) rfl
end KC
namespace T
open PySem PySem.Spec L2
open PyProof.Rows hiding St
noncomputable abbrev gy (x:Str) (s:Stmt) (ps:List Str) (us:List Value):Prop:=∀(kV doc pm:Value) (an:Option Addr) (cdv ct:Value),bindArgs (PySem.W.fnOf x x (fL s) (bV s) (aO s) .none kV doc pm an cdv ct) ⟨us,[]⟩=pure (ps.zip us)
noncomputable abbrev eh (x:Str) (s:Stmt) (ps:List Str):Prop:=∀us:List Value,us.length=ps.length->gy x s ps us
section
variable {x:Str} {s:Stmt} {p1 p2 p3 p4 p5 p6:Str}
theorem oa (h:∀a,gy x s [p1] [a]:=by exact fun _ _ _ _ _ _ _=>rfl):eh x s [p1]:=fun us hl=>match us,hl with | [_],_=>h _
theorem vc (h:∀a b,gy x s [p1,p2] [a,b]:=by exact fun _ _ _ _ _ _ _ _=>rfl):eh x s [p1,p2]:=fun us hl=>match us,hl with | [_,_],_=>h _ _
theorem sd (h:∀a b c,gy x s [p1,p2,p3] [a,b,c]:=by exact fun _ _ _ _ _ _ _ _ _=>rfl):eh x s [p1,p2,p3]:=fun us hl=>match us,hl with | [_,_,_],_=>h _ _ _
theorem DI (h:∀a b c d,gy x s [p1,p2,p3,p4] [a,b,c,d]:=by exact fun _ _ _ _ _ _ _ _ _ _=>rfl):eh x s [p1,p2,p3,p4]:=fun us hl=>match us,hl with | [_,_,_,_],_=>h _ _ _ _
theorem IX (h:∀a b c d e,gy x s [p1,p2,p3,p4,p5] [a,b,c,d,e]:=by exact fun _ _ _ _ _ _ _ _ _ _ _=>rfl):eh x s [p1,p2,p3,p4,p5]:=fun us hl=>match us,hl with | [_,_,_,_,_],_=>h _ _ _ _ _
theorem Jq (h:∀a b c d e f,gy x s [p1,p2,p3,p4,p5,p6] [a,b,c,d,e,f]:=by exact fun _ _ _ _ _ _ _ _ _ _ _ _=>rfl):eh x s [p1,p2,p3,p4,p5,p6]:=fun us hl=>match us,hl with | [_,_,_,_,_,_],_=>h _ _ _ _ _ _
end
noncomputable def Ft (K:Fg) (mg:Str->Option Value) (n:Str) (s:Stmt):Prop:=∃f fd,mg n=some (.ref f)/\Fun K n n s f fd
theorem ft {K:Fg} {h:Heap} {mg:Str->Option Value} {n:Str} {s:Stmt} {f:Addr} {od an:Option Addr} {sl:Array (Option Value)} {oc kV dc pm cd ct:Value} (X:K.In h) (G:h.Ns mainGlobals mg) (a:PySem.W.nsIn K mainGlobals n=some (some (.ref f))) (l:K.lookup f=some ⟨oc,od,.func (PySem.W.fnOf n n (fL s) (bV s) (aO s) .none kV dc pm an cd ct),sl⟩) (c:PySem.W.codeIn K cd n=true) (k:PySem.W.keepIn K (.ref f)=true):Ft K mg n s:=⟨f,_,PySem.W.mg_of X G a,Bn (st:=s) l c k⟩
theorem Ce {K:Fg} {x:Str} {st:Stmt} {f:Addr} {fd:FuncData} {ps:List Str} (F:Fun K x x st f fd) (b:eh x st ps):Binds K fd ps []:=F.binds fun kV doc pm an cdv ct us hl=>b us hl kV doc pm an cdv ct
noncomputable def AS (vs cs:List Nat):List Nat:=vs.filter fun i=>!cs.contains i
noncomputable def fB (N gl ps:List Str) (vs cs gs:List Nat) (s:Stmt):Bool:=kE N gl vs cs vs (AS vs cs) gs (aO s)&&uy N gl&&(!(aO s).isCoroutine&&!(aO s).isGenerator&&decide (N.take ps.length=ps)&&(ps.all fun x=>fC (aO s) [.local,.cell] (some x))&&((aO s).names.all fun y=>!decide (y.2=.free)))
theorem Dz {N gl ps:List Str} {vs cs gs:List Nat} {s:Stmt} (h:fB N gl ps vs cs gs s=true):kE N gl vs cs vs (AS vs cs) gs (aO s)=true/\uy N gl=true/\cO N ps (aO s):=by
 unfold fB at h;simp only [Bool.and_eq_true,decide_eq_true_eq,all_eq_true,Bool.not_eq_true',decide_eq_false_iff_not] at h
 obtain ⟨⟨h1,h2⟩,⟨⟨⟨h3,h4⟩,h5⟩,h6⟩,h7⟩:=h;refine ⟨h1,h2,(Fq h1).kind,h3,h4,(ux h2).1,h5,fun x hx=>?_,h7⟩
 obtain ⟨k,hk,q⟩:=B7 (h6 x hx);simp only [mem_cons,not_mem_nil,or_false] at hk
 rcases hk with rfl | rfl
 ·exact .inl q
 ·exact .inr q
structure In (p:Fg->(Str->Option Value)->Prop) (X:Cx) (P:Program) (w:World) (K:Fg) (mg:Str->Option Value) (base:Heap) (k:Nat):Prop where
 e1:X.prog=P
 e2:X.w=w
 e3:X.K=K
 e4:X.mg=mg
 e5:X.base=base
 rm:Room k X.A
 pp:p K mg
section
variable {p:Fg->(Str->Option Value)->Prop} {X Y:Cx} {P:Program} {w:World} {K:Fg} {mg:Str->Option Value} {base:Heap} {j k n:Nat} {x:Str} {s:Stmt} {ps:List Str} {g:FS} {den:List JI->b4} {ss:List Sh}
theorem In.r (I:In p X P w K mg base k):Rm X:=I.rm.units
theorem In.e (I:In p X P w K mg base k):p X.K X.mg:=by rw [I.e3,I.e4];exact I.pp
theorem In.c (I:In p X P w K mg base k) (h:DefOk P w K mg base j x n den) (hj:decide (j<=k)=true:=by first | exact rfl | exact decide_eq_true (by omega)):pH X x n den:=by
 obtain ⟨rfl,rfl,rfl,rfl,rfl,r,_⟩:=I;exact h.cal r hj
theorem Fx.i (F:Fx X Y) (I:In p X P w K mg base k):In p Y P w K mg base k:=⟨F.prog.trans I.e1,F.w.trans I.e2,F.K.trans I.e3,F.mg.trans I.e4,F.base.trans I.e5,by rw [F.A];exact I.rm,I.pp⟩
noncomputable abbrev Bd (p:Fg->(Str->Option Value)->Prop) (P:Program) (w:World) (K:Fg) (mg:Str->Option Value) (base:Heap) (k:Nat) (N gl:List Str) (vs cs gs:List Nat) (s:Stmt) (g:FS):Prop:=∀X:Cx,Cp X N gl vs cs vs (AS vs cs) gs->In p X P w K mg base k->PassesOwn (model X.prog X.w) X.A X.env X.xe->TQ.Q (PSs X (bV s) (tS X.K W0 g))
theorem E9 (F:Ft K mg x s) (b:eh x s ps):DefOk P w K mg base j x ps.length (fun _=>.no):=by
 obtain ⟨f,fd,hm,F⟩:=F;exact ⟨f,fd,ps,Dy,hm,F.kp,Ce F b⟩
theorem IQ {f:Addr} {fd:FuncData} (F:Fun K x x s f fd) (e:p K mg) (N gl:List Str) (vs cs gs:List Nat) (h:fB N gl ps vs cs gs s=true) (hb:Bd p P w K mg base k N gl vs cs gs s g):e8 P w K mg base lQ (k+1) f fd ps (nZ K ps.length (aI N.length g)):=by
 obtain ⟨h1,h2,h3⟩:=Dz h;exact Bo F h3 fun cdv A outer s H E hr=>(hb _ (Cp.fn h1 h2) ⟨rfl,rfl,rfl,rfl,rfl,hr,e⟩ PassesOwn.never).p
theorem mk (F:Ft K mg x s) (e:p K mg) (ps:List Str) (b:eh x s ps) (rs gl:List Str) (vs cs gs:List Nat) (hb:Bd p P w K mg base k (ps++rs) gl vs cs gs s g) (h:fB (ps++rs) gl ps vs cs gs s=true:=by kernel_rfl):DefOk P w K mg base (k+1) x ps.length (aI (ps++rs).length g):=by
 obtain ⟨f,fd,hm,F⟩:=F;exact ⟨f,fd,ps,IQ F e _ gl vs cs gs h hb,hm,F.kp,Ce F b⟩
theorem Jj {fa:Addr} (F:Ft K mg x s) (e:p K mg) (q:Str) (b:eh x s [q]) (hfa:mg x=some (.ref fa)) (rs gl:List Str) (vs cs gs:List Nat) (hb:∀base,Bd p P w K mg base k ([q]++rs) gl vs cs gs s g) (h:fB ([q]++rs) gl [q] vs cs gs s=true:=by kernel_rfl) :
  ∃fd:FuncData,(∀(s:Shared) (v:Value),BindsTo s fd ⟨[v],[]⟩ [(q,v)])/\∀base:Heap,K.In base->base.Ns mainGlobals mg->e8 P w K mg base lQ (k+1) fa fd [q] (nZ K 1 (aI ([q]++rs).length g)):=by
 obtain ⟨f,fd,hm,F⟩:=F;have e':=hfa.symm.trans hm
 cases e'
 refine ⟨fd,fun s v=>?_,fun base _ _=>IQ F e _ gl vs cs gs h (hb base)⟩
 obtain ⟨oc,od,kV,doc,pm,an,cdv,ct,osl,rfl,lk,hcd⟩:=F.ex;exact .of_eq (b [v] rfl kV doc pm an cdv ct)
section
variable {h:Heap} {a:Addr} {dd:Option Addr} {its:Array Value} {n:Nat} {sl:Array (Option Value)} {ds:List JI} (KX:K.In h) (G:h.Ns mainGlobals mg)
include KX G
theorem gn (z:PySem.W.nsIn K mainGlobals x=some none):mg x=none:=PySem.W.mg_none_of KX G z
theorem gi {i:Int} {t:Tok} (z:PySem.W.nsIn K mainGlobals x=some (some (.int i t))):iS K mg x (.int i):=xR (PySem.W.mg_of KX G z)
theorem gt (z:PySem.W.nsIn K mainGlobals x=some (some (.ref a))) (l:K.lookup a=some ⟨.type "tuple",dd,.seq its n,sl⟩) (c:BC its ds=true):iS K mg x (.tuple ds):=xP (PySem.W.mg_of KX G z) l c
theorem gd {es:Array DictEntry} {ep:Nat} {tab:List (Str×Int)} (z:PySem.W.nsIn K mainGlobals x=some (some (.ref a))) (l:K.lookup a=some ⟨.type "dict",none,.dict es ep,#[]⟩) (c:sR a es tab=true):qH K mg x tab:=xQ (PySem.W.mg_of KX G z) l c
end
theorem walkG {m:List JI->b4} {l:PySem.W.OpenLaw} {q:Program} {loose:List Str} {XP:(Str->Option Value)->Heap->Prop} {YP:World->Heap->Prop} {d:DefRec} {K:Params->Fg} (lt:∀ns:List Int,ns.length<=63->m [.list (ns.map .int)]=.ok ⟨.leaf,.bool true⟩) (hr:Room j callerA) (hn:l.most=some 63) (hdf:d.params.defaults=[])
  (hY:∀(w:World) (h:Heap),YP w h->(K w.params).In h)
  (F:∀(w:World) (mg:Str->Option Value) (fa:Addr) (h:Heap),(K w.params).In h->h.Ns mainGlobals mg->mg d.name=some (.ref fa) ->
   ∃fd:FuncData,(∀(s:Shared) (u:Value),BindsTo s fd ⟨[u],[]⟩ [("script",u)])/\∀base:Heap,(K w.params).In base->base.Ns mainGlobals mg->e8 l.prog w (K w.params) mg base lQ j fa fd ["script"] (nZ (K w.params) 1 m)) :
  PySem.W.WalkO q loose XP YP l.row.toRowW d [] (fun f vs=>PySem.call f vs):=
 L2.walk_of (n:=63) (k:=j) (x := "script") (CX:=fun _=>lQ) (sp:=fun w=>nZ (K w.params) 1 m) hn (by decide) hdf hr hY F (fun _ _ a ns hl _ hS=>AU (lt ns hl) hS) fun _ _ _ _ _ z=>z
end
end T
namespace TQ
open PySem PySem.Spec L2 T
open PyProof.Rows hiding St
section
variable {X:Cx} {N gl:List Str} {vs cs ls lo gs:List Nat} {W:XW} {a b c e:Expr} {es:List Expr} {pos p:Pos} {fa fb fc:F1} {fl:FL} {ga gb:FB} {g1 g2 g:FS}
theorem aj (S:Cp X N gl vs cs ls lo gs) (i:Nat) {x:Str} (hN:N[i]?=some x:=by exact rfl) (hv:vs.contains i=true:=by exact rfl):Q (PE X (.Name x pos) (tE X.K W (ae i))):=w_cv S i hN hv
theorem bc (ha:Q (PE X e (tE X.K W fa))) (hr:Q (PA X es (tA X.K W fl))) (hs:fD e=false:=by exact rfl):Q (PA X (e::es) (tA X.K W (ab fa fl))):=w_da_cons ha hr (bS hs)
theorem aP (ha:Q (PE X e (tE X.K W fa))) (hs:fD e=false:=by exact rfl):Q (PA X [e] (tA X.K W (ab fa af))):=w_da_cons ha w_da_nil (bS hs)
theorem bw (ha:Q (PE X a (tE X.K W fa))) (hb:Q (PE X b (tE X.K W fb))) (hs:gZ b:=by exact fun _ _=>rfl):Q (PE X (.Subscript a b pos) (tE X.K W (ai fa fb))):=w_de_idx ha hb hs
theorem ck {x:Str} {n:Nat} {den:List JI->b4} (S:Cp X N gl vs cs ls lo gs) (j:Nat) (C:pH X x n den) (ha:Q (PA X (e::es) (tA X.K W fl))) (hj:gl[j]?=some x:=by exact rfl) (hg:gs.contains j=true:=by exact rfl) (he:fD e=false:=by exact rfl) (hpl:(backTo pos (starEach es X.env)).any (·.1)=false:=by exact rfl):Q (PE X (.Call (.Name x p) (e::es) [] pos) (tE X.K W (ag n den fl))):=w_cc S j hj hg C ha (bS he) hpl
theorem cF (S:Cp X N gl vs cs ls lo gs) (own:Bool) (i:Nat) {x:Str} {pos':Pos} (ha:Q (PE X a (tE X.K W fa))) (hi:N[i]?=some x:=by exact rfl) (hl:ls.contains i=true:=by exact rfl) (hs:swapsWith a (some (.Name x pos')) pos.line X.env=pure false:=by exact rfl):Q (PS X (.Assign [.Name x pos'] a pos) (tS X.K W (ay own i fa))):=md S own i hi hl hs ha
theorem eC (S:Cp X N gl vs cs ls lo gs) (j:Nat) (hm:X.mg "len"=none) (ha:Q (PA X (e::es) (tA X.K W fl))) (hj:gl[j]?=some ("len":Str):=by exact rfl) (hg:gs.contains j=true:=by exact rfl) (he:fD e=false:=by exact rfl) (hpl:(backTo pos (starEach es X.env)).any (·.1)=false:=by exact rfl):Q (PE X (.Call (.Name "len" p) (e::es) [] pos) (tE X.K W (bt aQ fl))):=sL S j hj hg hm ha (bS he) hpl
theorem bZ {op:CmpOp} {r:R2} {g:JI->JI->Option JI} (k:Ck X op r g) (ha:Q (PE X a (tE X.K W fa))) (hb:Q (PE X b (tE X.K W fb))) (hm:behindInMarks op b=false:=by with_unfolding_all rfl):Q (PT X (.Compare a [op] [b] pos) (tT X.K W (aF ah (aw g fa fb)))):=GW k ha hb hm
theorem eD {op:CmpOp} {r:R2} {g:JI->JI->Option JI} (k:Ck X op r g) (ha:Q (PE X a (tE X.K W fa))) (hb:Q (PE X b (tE X.K W fb))) (hm:behindInMarks op b=false:=by with_unfolding_all rfl):Q (PE X (.Compare a [op] [b] pos) (tE X.K W (aw g fa fb))):=GY k ha hb hm
theorem bW (ha:Q (PE X a (tE X.K W fa))):Q (PSs X [.Return (some a) pos] (tS X.K W (aL fa))):=fQ (sF ha)
theorem g9 {scope:Scope} {x:Str} {px:Pos} {iter elt:Expr} {ifs:List Expr} {fi:FI} {fe:F1} {fc:FB} (vs' cs' gs':List Nat) (S:Cp X N gl vs cs ls lo gs) (i:Nat) (hi':Q (PI X (.Name x px) iter (tI X.K W fi))) (hc:qI X N gl vs' cs' [i] [] gs' fun Y=>Q (PF Y ifs (tT Y.K W0 fc))) (he:qI X N gl vs' cs' [i] [] gs' fun Y=>Q (PE Y elt (tE Y.K W0 fe))) (hx:N[i]?=some x:=by exact rfl) (h1:jI N i cs scope=true:=by kernel_rfl) (h2:kE N gl vs' cs' [i] [] gs' scope=true:=by kernel_rfl) (hs:∀x,foldedSetIterable iter X.env x=pure x:=by exact fun _=>rfl):Q (PE X (.ListComp elt [⟨.Name x px,iter,ifs,0⟩] scope pos) (tE X.K W (ax .leaf i fi fc fe))):=GX S .leaf i hx h1 h2 hi' hc he hs
end
end TQ
namespace T
open PySem PySem.Spec L2
open PyProof.Rows hiding St
noncomputable def tG (φ:St->Prop) (t:TE):TE:=fun σ H Q=>φ σ/\t σ H Q
noncomputable abbrev bk (d c:Str):F1:=eK (.bool (d==c))
section
variable {K:Fg} {H:Hp} {O:List Addr} {σ:St} {Γ Γ1:Ev} {W:XW} {f:F1} {fb:FB} {Q:VK} {QB:Bool->Hp->Prop}
theorem Eo:∀n:Nat,(List.replicate n ([]:List Addr)).flatten=[]
 | 0=>rfl
 | n+1=>by rw [List.replicate_succ,flatten_cons,Eo n];rfl
theorem xE (nd:O.Nodup) (inH:∀a∈O,H a≠none) (hl:σ.length=Γ.length) (hs:∀(i:Nat) p,Γ[i]?=some (some p)->p.s=.leaf/\∃v,σ[i]?=some (some v)/\Rep K (b8 H O) v p.d):EnvOk K H O (List.replicate Γ.length []) H σ Γ:=by
 have e:=Eo Γ.length
 refine ⟨hl,List.length_replicate,Same.refl H,by rw [e,append_nil];exact nd,by rw [e,append_nil];exact inH,by rw [e];exact fun _ z=>(nomatch z),fun i p h=>?_⟩
 obtain ⟨h1,v,h2,h3⟩:=hs i p h;have hi:i<Γ.length:=(JD h).1
 refine ⟨by rw [h1];rfl,v,[],h2,by rw [getElem?_replicate,if_pos hi],?_⟩
 rw [h1,e,append_nil];exact .leaf h3
end
theorem xt {H:Hp} {O O':List Addr} (s:∀a∈O,a∈O'):Same (b8 H O') (b8 H O):=fun b o hb=>by
 unfold b8 at hb ⊢
 split at hb
 ·cases hb
 ·rename_i nb
  rw [if_neg fun z=>nb (s b z)]
  exact hb
theorem qo {K:Fg} {O O':List Addr} {H:Hp} {s:Sh} {F:List Addr} {v:V} {d:D} (o:Own K O' H s F v d):s.isView=false->(∀a∈F,a∉O)->(∀a∈O,a∈O')->Rep K (b8 H O) v d:=by
 induction o with
 | view _=>intro h;cases h
 | leaf r=>intro _ _ h;exact r.mono (xt h)
 | @lst s p vs ds Fs hv hp hl _ _ hi ih=>
  intro _ hf hO;refine .lst (.inl (.inl (vH hp (hf p mem_cons_self)))) hl fun i v d h1 h2=>?_
  have hF:i<Fs.length:=by have:=(JD h2).1;omega
  exact ih i v d Fs[i] h1 h2 (Jz hF) hv (fun a ha=>hf a (JB _ (List.mem_flatten.mpr ⟨_,getElem_mem hF,ha⟩))) hO
 | @tup ss p vs ds Fs hv hp np hl hl2 hl3 _ hi ih=>
  intro _ hf hO;refine .tup (.inl (.inl (vH hp fun z=>np (hO p z)))) hl fun i v d h1 h2=>?_
  have hd:=(JD h2).1
  have hF:i<Fs.length:=by omega
  have hS:i<ss.length:=by omega
  exact ih i v d Fs[i] ss[i] h1 h2 (Jz hF) (Jz hS) (hv _ (getElem_mem hS)) (fun a ha=>hf a (List.mem_flatten.mpr ⟨_,getElem_mem hF,ha⟩)) hO
theorem HR {K:Fg} {H:Hp} {O:List Addr} {σ:St} {Γ Γ1:Ev} {W:XW} {f:F1} {Q:VK} {p:PV} (inH:∀a∈O,H a≠none) (E:EnvOk K H O (List.replicate Γ.length []) H σ Γ) (hf:f Γ=.ok p Γ1) (hv:p.s.isView=false) (q:∀v H',Same H H'->Rep K (b8 H' O) v p.d->Q v H'):tE K W f σ H Q:=by
 refine ⟨_,_,_,_,E,?_⟩
 rw [hf];intro v H' G Fs' A
 refine q v H' A.same (qo A.own hv (fun a ha z=>?_) fun a ha=>Jw _ (Jv _ ha))
 rcases A.new a (Jw _ ha) with y | y
 ·rw [Eo] at y;cases y
 ·exact inH a z y
theorem nR {X:Cx} {N gl:List Str} {vs cs ls lo gs:List Nat} {W:XW} {pos:Pos} {scope:Scope} {x y:Str} {px pos' spos:Pos} {iter elt:Expr} {ifs:List Expr} {fi:FI} {fe:F1} {fc:FB} {vs' cs' lo' gs':List Nat} (S:Cp X N gl vs cs ls lo gs) (j:Nat) (s:Sh) (i:Nat) (hy:N[j]?=some y) (hyl:lo.contains j=true) (hx:N[i]?=some x)
  (hsl:(pos'.line==pos.line)=true) (hsn:(scope.names.any fun (n,k)=>n==y&&(k==NameKind.local||k==NameKind.cell))=false) (h1:jI N i cs scope=true) (h2:kE N gl vs' cs' [i] lo' gs' scope=true)
  (hi':PI X (.Name x px) iter (tI X.K W fi)) (hc:qI X N gl vs' cs' [i] lo' gs' fun Y=>PF Y ifs (tT Y.K W0 fc)) (he:qI X N gl vs' cs' [i] lo' gs' fun Y=>PE Y elt (tE Y.K W0 fe)) (hs:∀x,foldedSetIterable iter X.env x=pure x) :
  PS X (.Assign [.Name y pos'] (.ListComp elt [⟨.Name x px,iter,ifs,0⟩] scope pos) spos) (mx (tE X.K W (ax s i fi fc fe)) (dM j)):=by
 have B:=fun cells C s₀ H₀ ex=>S.blk h2 cells C s₀ H₀ ex
 have L:=fun cells C s₀ H₀ ex=>(B cells C s₀ H₀ ex).loc i x hx (by simp)
 have hN:X.N.Nodup:=by rw [S.hN];exact S.nd
 have hx':X.N[i]?=some x:=by rw [S.hN];exact hx
 exact fm (GC hN (by rw [S.hN];exact hy) (S.loo j y hy hyl) (Gn S h1) S.calm hi' (fun cells C s₀ H₀ ex=>yk (X:=blk X scope cells C s₀ H₀ ex) (i:=i) hN hx' (L cells C s₀ H₀ ex).1 (L cells C s₀ H₀ ex).2) (fun cells C s₀ H₀ ex=>hc _ (B cells C s₀ H₀ ex) ⟨rfl,rfl,rfl,rfl,rfl,rfl⟩) (fun cells C s₀ H₀ ex=>he _ (B cells C s₀ H₀ ex) ⟨rfl,rfl,rfl,rfl,rfl,rfl⟩)
  (GD S.kind (S.loo j y hy hyl) hsl hsn) hs) fun D σ H h=>FH h
end T
namespace KC
open PySem PySem.Spec L2 T PySem.SeqAt
open PyProof.Rows hiding St
theorem IU {K:Fg} {H:Hp} {O:List Addr} {σ:St} {Γ Γ1:Ev} {W:XW} {f:F1} {Q:VK} {p:PV} (E:EnvOk K H O (List.replicate Γ.length []) H σ Γ) (hf:f Γ=.ok p Γ1) (q:∀v H' G,Same H H'->G.Nodup->(∀a∈G,H a=none)->(∀a∈G,H' a≠none)->Own K (G++O) H' p.s G v p.d->Q v H'):tE K W f σ H Q:=by
 refine ⟨_,_,_,_,E,?_⟩
 rw [hf];intro v H' G Fs' A
 have nd:=A.env.nd
 rw [append_assoc] at nd;refine q v H' G A.same (JC nd).1 (fun a ha=>?_) (fun a ha=>A.env.inH a (Jw _ (Jw _ ha))) (A.own.perm fun a ha=>Jw _ ha)
 rcases A.new a (Jw _ ha) with y | y
 ·rw [Eo] at y;cases y
 ·exact y
noncomputable def cnt (ps:List (Nat×Nat)) (g:Nat->Nat->Bool):Nat:=ps.countP fun p=>g p.1 p.2
noncomputable abbrev sc (v0:V) (o:Bool) (d f:Addr) (x4:Option V):St:=[some v0,some (.bl o),some (.ref d),some (.ref f),x4,none,none]
end KC
namespace T
open PySem PySem.Spec L2
open PyProof.Rows hiding St
theorem xh {σ:St} {c:Nat} {v:V}:Ia (bC [c] σ) ((bC [c] σ).set c (some v)):=by
 refine ⟨by simp,fun i u h=>?_⟩
 have hn:=(Cr h).1
 rw [getElem?_set,if_neg (fun z=>hn (by rw [<-z];simp))]
 exact h
end T
namespace KC
open PySem PySem.Spec L2 T PySem.SeqAt
open PyProof.Rows hiding St
noncomputable def HH:Option Nat->V
 | none=>.non
 | some k=>.int (k:Int)
noncomputable def RO (H:Hp) (G:List Addr) (r:V) (R:D):Prop:=(r=.non/\R=.none/\G=[])\/∃(a:Addr) (rk:List (Option Nat)),r=.ref a/\G=[a]/\H a=some (.lst (rk.map HH))/\R=cU rk/\rk.length<=1000
inductive PO (H:Hp):List Addr->V->D->Prop where
 | mk {t a0 a2:Addr} {xs:List Nat} {r1:V} {R:D} {G1:List Addr} {vs:List V} {bs:List D} {Gs:List (List Addr)}:H t=some (.tup [.ref a0,r1,.ref a2])->H a0=some (.lst (xs.map fun x:Nat=>V.int (x:Int)))->xs.length<=1000->RO H G1 r1 R->H a2=some (.lst vs)->vs.length<=1000->vs.length=bs.length->Gs.length=bs.length ->
   (∀(i:Nat) v d G,vs[i]?=some v->bs[i]?=some d->Gs[i]?=some G->PO H G v d)->PO H (t::a0::a2::(G1++Gs.flatten)) (.ref t) (.tuple [aA xs,R,.list bs])
theorem BX {α:Type} {Gs:List (List α)} {i:Nat} {G:List α} {a:α} (h:Gs[i]?=some G) (ha:a∈G):a∈Gs.flatten:=List.mem_flatten.mpr ⟨G,mem_of_getElem? h,ha⟩
section
variable {K:Fg} {H H':Hp} {G O:List Addr} {v:V} {d:D}
theorem RO.keep {r:V} {R:D} (h:RO H G r R) (k:∀a∈G,∀o,H a=some o->H' a=some o):RO H' G r R:=by
 rcases h with h | ⟨a,rk,h1,h2,h3,h4⟩
 ·exact .inl h
 ·exact .inr ⟨a,rk,h1,h2,k a (by rw [h2];exact List.mem_singleton.mpr rfl) _ h3,h4⟩
theorem PO.keep (h:PO H G v d):(∀a∈G,∀o,H a=some o->H' a=some o)->PO H' G v d:=by
 induction h with
 | @mk t a0 a2 xs r1 R G1 vs bs Gs ht h0 l0 h1 h2 l2 e1 e2 hs ih=>
  intro k;have kG:∀a∈G1++Gs.flatten,∀o,H a=some o->H' a=some o:=fun a ha=>k a (JB _ (JB _ (JB _ ha)))
  exact .mk (k t (mem_cons_self ..) _ ht) (k a0 (JB _ (mem_cons_self ..)) _ h0) l0 (h1.keep fun a ha=>kG a (Jw _ ha)) (k a2 (JB _ (JB _ (mem_cons_self ..))) _ h2) l2 e1 e2
   fun i v d G i1 i2 i3=>ih i v d G i1 i2 i3 fun a ha=>kG a (Jv _ (BX i3 ha))
theorem PO.inH (h:PO H G v d):∀a∈G,H a≠none:=by
 induction h with
 | @mk t a0 a2 xs r1 R G1 vs bs Gs ht h0 l0 h1 h2 l2 e1 e2 hs ih=>
  intro a ha;rcases Jy ha with rfl | ha
  ·rw [ht];simp
  rcases Jy ha with rfl | ha
  ·rw [h0];simp
  rcases Jy ha with rfl | ha
  ·rw [h2];simp
  rcases Jx ha with ha | ha
  ·rcases h1 with ⟨_,_,e⟩ | ⟨b,rk,_,e,h3,_⟩
   ·rw [e] at ha;cases ha
   ·rw [e] at ha
    rw [List.mem_singleton.mp ha,h3];simp
  ·obtain ⟨g,hg,ha⟩:=List.mem_flatten.mp ha
   obtain ⟨i,hi,rfl⟩:=getElem_of_mem hg;exact ih i (vs[i]'(by omega)) (bs[i]'(by omega)) Gs[i] (Jz _) (Jz _) (Jz _) a ha
theorem zF {o:Option Nat}:Rep K H (HH o) (oD o):=by
 cases o with
 | none=>exact .non
 | some k=>exact .int _
theorem Ef {l:Addr} {vs:List V} {ds:List D} (h:H l=some (.lst vs)) (hO:l∉O) (hl:vs.length=ds.length) (hr:∀(i:Nat) v d,vs[i]?=some v->ds[i]?=some d->Rep K (b8 H O) v d):Rep K (b8 H O) (.ref l) (.list ds):=.lst (.of (vH h hO)) hl hr
theorem RO.rep {r:V} {R:D} (h:RO H G r R) (hO:∀a∈G,a∉O):Rep K (b8 H O) r R:=by
 rcases h with ⟨h1,h2,h3⟩ | ⟨a,rk,h1,h2,h3,h4,h5⟩
 ·rw [h1,h2];exact .non
 ·rw [h1,h4]
  refine Ef h3 (hO a (by rw [h2];exact List.mem_singleton.mpr rfl)) (by simp) fun i v d i1 i2=>?_
  rw [getElem?_map] at i1 i2
  obtain ⟨o,e1,rfl⟩:=Option.map_eq_some_iff.mp i1;rw [e1] at i2
  cases i2;exact zF
theorem PO.rep (h:PO H G v d):(∀a∈G,a∉O)->Rep K (b8 H O) v d:=by
 induction h with
 | @mk t a0 a2 xs r1 R G1 vs bs Gs ht h0 l0 h1 h2 l2 e1 e2 hs ih=>
  intro k;have kG:∀a∈G1++Gs.flatten,a∉O:=fun a ha=>k a (JB _ (JB _ (JB _ ha)))
  refine .tup (.of (vH ht (k t (mem_cons_self ..)))) rfl fun i v d i1 i2=>?_
  match i,i1,i2 with
  | 0,i1,i2=>
   cases i1;cases i2;refine Ef h0 (k a0 (JB _ (mem_cons_self ..))) (by simp) fun j u e j1 j2=>?_
   rw [getElem?_map] at j1 j2
   obtain ⟨o,e1,rfl⟩:=Option.map_eq_some_iff.mp j1;rw [e1] at j2
   cases j2;exact .int _
  | 1,i1,i2=>
   cases i1;cases i2;exact h1.rep fun a ha=>kG a (Jw _ ha)
  | 2,i1,i2=>
   cases i1;cases i2;refine Ef h2 (k a2 (JB _ (JB _ (mem_cons_self ..)))) e1 fun j u e j1 j2=>?_
   have hj:j<Gs.length:=by have:=(JD j2).1;omega
   exact ih j u e Gs[j] j1 j2 (Jz hj) fun a ha=>kG a (Jv _ (BX (Jz hj) ha))
  | i+3,i1,i2=>cases i1
end
noncomputable def fS (K:Fg) (n:Nat):Sp:=fun vs H Q _=>∃(w:Wd) (s:Sn) (O:List Addr),w.Ok/\s.ok/\s.dep<=n/\O.Nodup/\(∀a∈O,H a≠none)/\Reps K (b8 H O) vs [w.enc,s.enc] /\
 ∀v H' G P,Pap w s P->Same H H'->G.Nodup->(∀a∈G,H a=none)->PO H' G v P->Q v H'
noncomputable abbrev il:List Str:=["world", "sentence", "below", "parts", "ranks", "part", "each"]
noncomputable abbrev pG:List Str:=["parts_of", "paper_of", "ranks_of", "rooms_by"]
noncomputable abbrev qm:F1:=ax .leaf 6 (aS (ae 2)) aK (ai (ae 6) (eK (.int 0)))
noncomputable abbrev wU:F1:=ag 3 bA (ab (ae 0) (ab (ae 1) (ab (ae 3) af)))
noncomputable abbrev wR:F1:=ag 4 bO (ab (ae 0) (ab (ae 1) (ab (ae 3) (ab (ae 4) af))))
noncomputable def EJ (K:Fg) (n:Nat):L2.TS:=
 hU (fun D σ H=>iZ [5] (xq K (fh (nZ K 1 aU) [] L2.E0 (cv (cY 1) gD))) (dM 5) pV (fh (fS K n) [] L2.E0 (cv (cY 0) (cv (cY 5) gD))) σ H fun v H'=>D.nx (σ.set 2 (some v)) H')
 (hU (fun D σ H=>tE K W0 qm σ H fun v H'=>D.nx (σ.set 3 (some v)) H') (hU (mx (tE K W0 wU) (dM 4)) (sV (zt (cv (tE K W0 wR) (cv (cY 4) (cv (cY 2) gD)))))))
theorem yB {w:Wd} {s:Sn} {R:D} (h:gx w s R):R=.none\/∃rk,R=cU rk/\rk.length=w.n:=by
 unfold gx at h;split at h
 ·obtain ⟨rk,e,hr⟩:=h;exact .inr ⟨rk,e,hr.len⟩
 ·obtain ⟨rk,e,hr⟩:=h;exact .inr ⟨rk,e,hr.len⟩
 ·obtain ⟨rk,e,hr⟩:=h;exact .inr ⟨rk,e,hr.len⟩
 ·obtain ⟨rk,e,hr⟩:=h;exact .inr ⟨rk,e,hr.len⟩
 ·exact .inl h
theorem jh {K:Fg} {O:List Addr} {H:Hp} {G:List Addr} {v:V} {ds:List D} (o:Own K O H (.lst .leaf) G v (.list ds)):∃(l:Addr) (vs:List V),v=.ref l/\G=[l]/\H l=some (.lst vs)/\vs.length=ds.length/\∀(i:Nat) v d,vs[i]?=some v->ds[i]?=some d->Rep K (b8 H O) v d:=by
 cases o with
 | @lst _ l vs _ Fs hv hp hl hf nd hs=>
  have nil:∀F∈Fs,F=[]:=fun F hF=>by
   obtain ⟨i,hi,rfl⟩:=getElem_of_mem hF;have q:=hs i (vs[i]'(by omega)) (ds[i]'(by omega)) Fs[i] (Jz _) (Jz _) (Jz _)
   generalize Fs[i]=F at q
   cases q;rfl
  have fl:Fs.flatten=[]:=List.flatten_eq_nil_iff.mpr nil
  refine ⟨l,vs,rfl,by rw [fl],hp,hl,fun i v d i1 i2=>?_⟩
  have hi:i<Fs.length:=by have:=(JD i2).1;omega
  have q:=hs i v d Fs[i] i1 i2 (Jz hi)
  generalize Fs[i]=F at q
  cases q with
  | leaf r=>exact r
theorem vals_of {α:Type} {K:Fg} {H:Hp} {vs:List V} {xs:List α} {f:α->V} {g:α->D} (hl:vs.length=xs.length) (hr:∀(i:Nat) v d,vs[i]?=some v->(xs.map g)[i]?=some d->Rep K H v d) (hf:∀x v,Rep K H v (g x)->v=f x):vs=xs.map f:=by
 apply ext_getElem?
 intro i;by_cases hi:i<xs.length
 ·have hv:i<vs.length:=by omega
  rw [getElem?_map,Jz hv,Jz hi];have:=hr i vs[i] (g xs[i]) (Jz hv) (by rw [getElem?_map,Jz hi];rfl)
  rw [hf _ _ this];rfl
 ·rw [getElem?_eq_none (by omega),getElem?_eq_none (by simp;omega)]
theorem AC {K:Fg} {O:List Addr} {H:Hp} {s:Sh} {G:List Addr} {v:V} {R:D} (o:Own K O H s G v R) (h:(s=.leaf/\R=.none)\/(s=.lst .leaf/\∃rk:List (Option Nat),R=cU rk/\rk.length<=1000)):RO H G v R:=by
 rcases h with ⟨rfl,rfl⟩ | ⟨rfl,rk,rfl,hl⟩
 ·cases o with
  | leaf r=>cases r;exact .inl ⟨rfl,rfl,rfl⟩
 ·obtain ⟨l,vs,h1,h2,h3,h4,h5⟩:=jh o
  have ev:vs=rk.map HH:=vals_of (g:=oD) (by rw [h4,length_map]) h5 fun x v r=>by
   cases x with
   | none=>cases r;rfl
   | some k=>cases r;rfl
  exact .inr ⟨l,rk,h1,h2,by rw [h3,ev],rfl,hl⟩
noncomputable def HM:D->D
 | .tuple (x::_)=>x
 | _=>.none
theorem yZ {α β:Type} {P:α->β->Prop} {xs:List α} {ys:List β} (h:∀(i:Nat) a b,xs[i]?=some a->ys[i]?=some b->P a b):∀a b,(a,b)∈xs.zip ys->P a b:=fun a b hab=>by
 obtain ⟨i,hi⟩:=List.mem_iff_getElem?.mp hab
 rw [List.getElem?_zip_eq_some] at hi;exact h i a b hi.1 hi.2
theorem CS {K:Fg} {n:Nat} {vs:List V} {H:Hp} {Q:VK} {E:XK} {Qn:St->Hp->Prop} (h:fS K (n+1) vs H Q E):EJ K n { nx:=Qn,rt:=Q } (L2.start il vs) H:=by
 obtain ⟨w,s,O,ok,os,hd,nd,inH,rs,q⟩:=h;have hvl:vs.length=2:=rs.1
 match vs,hvl,rs with
 | [v0,v1],_,rs=>
 have r0:=rs.2 0 v0 _ rfl rfl
 have r1:=rs.2 1 v1 _ rfl rfl
 have mono:∀{H'},Same H H'->Same (b8 H O) (b8 H' O):=fun s=>pK s fun a ha=>.inl ha
 show EJ K n { nx:=Qn,rt:=Q } [some v0,some v1,none,none,none,none,none] H
 refine ⟨v1,rfl,?_⟩
 refine ⟨rfl,O,[s.enc],nd,inH,⟨rfl,fun i v d i1 i2=>?_⟩,?_⟩
 ·match i,i1,i2 with
  | 0,i1,i2=>cases i1;cases i2;exact r1
  | i+1,i1,i2=>cases i1
 rw [Gh];intro vp H1 Gp ret;have s1:Same H H1:=ret.same
 have rp:Rep K (b8 H1 O) vp (.tuple (s.args.map Sn.enc)):=qo ret.own ret.nv (fun a ha z=>inH a z (ret.fresh a ha)) (fun a ha=>Jv _ ha)
 cases rp with
 | @tup ap ws _ hq hl hr=>
 have hl:ws.length=s.args.length:=by rw [hl,length_map]
 have al:=s.args_le
 have sq1:SqT K H1 ap ws:=fX hid_le hq
 refine ⟨ap,rfl,⟨_,sq1⟩,fun L hL=>?_⟩
 have hLO:L∉O:=fun z=>inH L z (s1.free hL)
 refine ⟨fun k m ys H2=>m=s.args.length-k/\k<=s.args.length/\H2 L=some (.lst ys)/\Same H1 H2/\∃(Gs:List (List Addr)) (ds:List D),ys.length=k/\Gs.length=k/\ds.length=k/\(∀(i:Nat) v d G,ys[i]?=some v->ds[i]?=some d->Gs[i]?=some G->PO H2 G v d)/\(∀(i:Nat) a d,s.args[i]?=some a->ds[i]?=some d->Pap w a d)/\Gs.flatten.Nodup/\∀a∈Gs.flatten,H1 a=none/\a≠L,
  ⟨s.args.length,by simp,Nat.zero_le _,g6,jP hL,[],[],rfl,rfl,rfl,(fun i v d G i1=>nomatch i1),(fun i a d _ i2=>nomatch i2),nodup_nil,fun a ha=>nomatch ha⟩,?_⟩
 rintro k m ys H2 ⟨rfl,hk,hLs,s2,Gs,ds,y1,y2,y3,hpo,hpap,ndG,frG⟩
 refine ⟨hLs,?_⟩
 have sq2:SqT K H2 ap ws:=fX s2 sq1
 by_cases hlt:k<s.args.length
 case pos=>
  right
  have hlw:k<ws.length:=by omega
  have e1:ws[k]?=some ws[k]:=Jz hlw
  refine ⟨⟨_,_,sq2,e1⟩,Nat.lt_of_le_of_lt (by omega:ys.length<=2) (by decide),?_⟩
  rintro v H3 ⟨rfl,hv⟩
  have ev:v=ws[k]:=Option.some.inj ((hv _ sq2).symm.trans e1)
  subst ev;refine ⟨xh,Dr ?_⟩
  have rk:=hr k ws[k] (s.args[k].enc) e1 (by rw [getElem?_map,Jz hlt];rfl)
  have ha:s.args[k]∈s.args:=getElem_mem hlt
  have hL0:H L=none:=s1.free hL
  refine ⟨v0,rfl,ws[k],rfl,w,s.args[k],O,ok,Sn.args_ok os _ ha,GU ha hd,nd,fun a z y=>inH a z ((s1.trans s2).free y),⟨rfl,fun i v d i1 i2=>?_⟩,fun v H4 G P hP s4 ndg frg po=>?_⟩
  ·match i,i1,i2 with
   | 0,i1,i2=>cases i1;cases i2;exact r0.mono (mono (s1.trans s2))
   | 1,i1,i2=>cases i1;cases i2;exact rk.mono (pK s2 fun a ha=>.inl ha)
   | i+2,i1,i2=>cases i1
  ·have hL4:=s4 _ _ hLs
   have nG:∀a∈G,a≠L:=fun a ha z=>by have:=frg a ha;rw [z,hLs] at this;cases this
   have kp:∀a,a≠L->∀o,H4 a=some o->b9 H4 L (.lst (ys++[v])) a=some o:=fun a ha o e=>by rw [e9 ha];exact e
   refine ⟨hL4,s.args.length-(k+1),by omega,rfl,hlt,g6,fun c o hc=>?_,Gs++[G],ds++[P],by simp [y1],by simp [y2],by simp [y3],fun i v' d' G' i1 i2 i3=>?_,fun i a d' i1 i2=>?_,?_,fun a ha=>?_⟩
   ·rw [e9 (fun z=>by subst z;rw [hL] at hc;cases hc)]
    exact s4 c o (s2 c o hc)
   ·by_cases hi:i<k
    ·rw [getElem?_append_left (by omega)] at i1 i2 i3
     refine (hpo i v' d' G' i1 i2 i3).keep fun a ha o e=>kp a (frG a (BX i3 ha)).2 o (s4 a o e)
    ·have hik:i=k:=by
      have:=(JD i1).1
      rw [length_append,length_singleton] at this;omega
     subst hik;rw [getElem?_append_right (by omega)] at i1 i2 i3
     simp only [y1,y2,y3,Nat.sub_self,List.getElem?_cons_zero,Option.some.injEq] at i1 i2 i3
     subst i1;subst i2;subst i3;exact po.keep fun a ha o e=>kp a (nG a ha) o e
   ·by_cases hi:i<k
    ·rw [getElem?_append_left (by omega)] at i2
     exact hpap i a d' i1 i2
    ·have hik:i=k:=by
      have:=(JD i2).1
      rw [length_append,length_singleton] at this;omega
     subst hik;rw [getElem?_append_right (by omega)] at i2
     simp only [y3,Nat.sub_self,List.getElem?_cons_zero,Option.some.injEq] at i2
     rw [Jz hlt] at i1
     cases i1;subst i2;exact hP
   ·rw [flatten_append,List.flatten_singleton]
    refine List.nodup_append.mpr ⟨ndG,ndg,fun a ha b hb z=>?_⟩
    obtain ⟨g,hg,hag⟩:=List.mem_flatten.mp ha;obtain ⟨i,hi,rfl⟩:=getElem_of_mem hg;have:=(hpo i (ys[i]'(by omega)) (ds[i]'(by omega)) Gs[i] (Jz _) (Jz _) (Jz _)).inH a hag
    rw [z] at this;exact this (frg b hb)
   ·rw [flatten_append,List.flatten_singleton] at ha
    rcases Jx ha with ha | ha
    ·exact frG a ha
    ·exact ⟨s2.free (frg a ha),nG a ha⟩
 case neg=>
  left
  have hke:k=s.args.length:=by omega
  subst hke;refine ⟨⟨_,sq2,by omega⟩,?_⟩
  have s12:=s1.trans s2
  have frH:∀a∈Gs.flatten,H a=none:=fun a ha=>s1.free (frG a ha).1
  have rL:∀{H'},Same H2 H'->Rep K (b8 H' O) (.ref L) (.list ds):=fun {H'} s'=>Ef (s' _ _ hLs) hLO (by omega) fun i v d i1 i2=>by
   have hi:i<Gs.length:=by have:=(JD i2).1;omega
   have g:=Jz hi
   exact ((hpo i v d Gs[i] i1 i2 g).keep fun a _ o e=>s' a o e).rep fun a ha z=>inH a z (frH a (BX g ha))
  have eds:ds.map HM=(s.args.map (aJ w)).map aA:=by
   apply ext_getElem?
   intro i;by_cases hi:i<s.args.length
   ·rw [getElem?_map,getElem?_map,getElem?_map,Jz hi,Jz (by omega:i<ds.length)]
    obtain ⟨r,e⟩:=(hpap i s.args[i] (ds[i]'(by omega)) (Jz hi) (Jz (by omega))).fst
    rw [e];rfl
   ·rw [getElem?_eq_none (by simp;omega),getElem?_eq_none (by simp;omega)]
  have f1:qm [JJ w.enc,JJ s.enc,JJ (.list ds),none,none,none,none]=.ok ⟨.lst .leaf,eP (s.args.map (aJ w))⟩ [JJ w.enc,JJ s.enc,JJ (.list ds),none,none,none,none]:=by
   have:=kP (fun d:D=>d) ds (fun d=>⟨.leaf,HM d⟩) (s:=.leaf) (i:=6) (fi:=aS (ae 2)) (fe:=ai (ae 6) (eK (.int 0))) (st:=true) (Γ:=[JJ w.enc,JJ s.enc,JJ (.list ds),none,none,none,none]) (by rw [List.map_id'' (fun _=>rfl)];exact dD (s:=.leaf) (aC rfl) rfl) (by simp) rfl (by omega) fun d hdm=>by
    obtain ⟨i,hi,e⟩:=getElem_of_mem hdm;obtain ⟨r,er⟩:=(hpap i (s.args[i]'(by omega)) d (Jz _) (by rw [Jz hi,e])).fst
    rw [er];exact ⟨hJ (j:=0) (s:=.leaf) (s2:=.leaf) (aC rfl) aW (by simp [fq]) rfl rfl,rfl⟩
   refine this.trans ?_
   show Out.ok (⟨.lst .leaf,.list (ds.map HM)⟩:PV) _=_
   rw [eds]
  have inH2:∀{H'},Same H H'->∀a∈O,H' a≠none:=fun s' a ha z=>inH a ha (s'.free z)
  refine HR (Γ:=[JJ w.enc,JJ s.enc,JJ (.list ds),none,none,none,none]) (inH2 s12) (xE nd (inH2 s12) rfl fun i p hp=>?_) f1 rfl fun v3 H3 s3 r3=>?_
  ·match i,hp with
   | 0,hp=>cases hp;exact ⟨rfl,v0,rfl,r0.mono (mono s12)⟩
   | 1,hp=>cases hp;exact ⟨rfl,v1,rfl,r1.mono (mono s12)⟩
   | 2,hp=>cases hp;exact ⟨rfl,.ref L,rfl,rL (Same.refl _)⟩
   | 3,hp=>cases hp
   | 4,hp=>cases hp
   | 5,hp=>cases hp
   | 6,hp=>cases hp
   | i+7,hp=>cases hp
  obtain ⟨p,e1,e3,e4,e5⟩:=tR ok (s:=s)
  have s13:=s12.trans s3
  refine IU (Γ:=[JJ w.enc,JJ s.enc,JJ (.list ds),JJ (eP (s.args.map (aJ w))),none,none,none]) (xE nd (inH2 s13) rfl fun i p hp=>?_) (cG (aD (aC rfl) (aD (aC rfl) (aD (aC rfl) ao))) e1 rfl rfl) fun v4 H4 G1 s4 nd1 fr1 in1 own4=>?_
  ·match i,hp with
   | 0,hp=>cases hp;exact ⟨rfl,v0,rfl,r0.mono (mono s13)⟩
   | 1,hp=>cases hp;exact ⟨rfl,v1,rfl,r1.mono (mono s13)⟩
   | 2,hp=>cases hp;exact ⟨rfl,.ref L,rfl,rL s3⟩
   | 3,hp=>cases hp;exact ⟨rfl,v3,rfl,r3⟩
   | 4,hp=>cases hp
   | 5,hp=>cases hp
   | 6,hp=>cases hp
   | i+7,hp=>cases hp
  have ro4:RO H4 G1 v4 p.d:=AC own4 (by
   rcases e4 with z | z
   ·rw [z];exact .inl ⟨rfl,rfl⟩
   ·rcases yB e3 with y | ⟨rk,y,yl⟩
    ·rw [z,y] at own4
     cases own4
    ·exact .inr ⟨z,rk,y,by have:=ok.h24;omega⟩)
  have s14:=s13.trans s4
  have rb:=gQ ok os e3
  refine IU (Γ:=[JJ w.enc,JJ s.enc,JJ (.list ds),JJ (eP (s.args.map (aJ w))),JJ p.d,none,none]) (xE nd (inH2 s14) rfl fun i p' hp=>?_) (cG (aD (aC rfl) (aD (aC rfl) (aD (aC rfl) (aD (aC rfl) ao)))) rb rfl rfl) fun v5 H5 G0 s5 nd0 fr0 in0 own5=>?_
  ·match i,hp with
   | 0,hp=>cases hp;exact ⟨rfl,v0,rfl,r0.mono (mono s14)⟩
   | 1,hp=>cases hp;exact ⟨rfl,v1,rfl,r1.mono (mono s14)⟩
   | 2,hp=>cases hp;exact ⟨rfl,.ref L,rfl,rL (s3.trans s4)⟩
   | 3,hp=>cases hp;exact ⟨rfl,v3,rfl,r3.mono (pK s4 fun a ha=>.inl ha)⟩
   | 4,hp=>cases hp;exact ⟨rfl,v4,rfl,ro4.rep fun a ha z=>inH2 s13 a z (fr1 a ha)⟩
   | 5,hp=>cases hp
   | 6,hp=>cases hp
   | i+7,hp=>cases hp
  obtain ⟨a0,vs0,rfl,rfl,h50,l50,r50⟩:=jh own5;have ev0:vs0=(aJ w s).map fun x:Nat=>V.int (x:Int):=vals_of (g:=rm) (by rw [l50,length_map]) r50 fun x v r=>by cases r;rfl
  subst ev0;refine ⟨v4,rfl,.ref L,rfl,by show 3<=sizeLine;decide,fun t ht=>?_⟩
  have s25:=s3.trans (s4.trans s5)
  have ne:∀a,H5 a≠none->a≠t:=fun a ha z=>ha (by rw [z];exact ht)
  have L5:H5 L≠none:=by rw [s25 _ _ hLs];simp
  have kp:∀a,H5 a≠none->∀o,H5 a=some o->b9 H5 t (.tup [.ref a0,v4,.ref L]) a=some o:=fun a ha o e=>by rw [e9 (ne a ha)];exact e
  have poG:∀a∈Gs.flatten,H2 a≠none:=fun a ha=>by
   obtain ⟨g,hg,hag⟩:=List.mem_flatten.mp ha;obtain ⟨i,hi,rfl⟩:=getElem_of_mem hg;exact (hpo i (ys[i]'(by omega)) (ds[i]'(by omega)) Gs[i] (Jz _) (Jz _) (Jz _)).inH a hag
  have G5:∀a∈Gs.flatten,H5 a≠none:=fun a ha z=>poG a ha (s25.free z)
  have G15:∀a∈G1,H5 a≠none:=fun a ha z=>in1 a ha (s5.free z)
  have a05:H5 a0≠none:=by rw [h50];simp
  have s15:=s14.trans s5
  have len24:(aJ w s).length<=24:=by
   have:=ok.h24
   have:(aJ w s).length<=w.n:=by
    unfold aJ;exact Nat.le_trans (length_filter_le _ _) (by simp)
   omega
  refine q (.ref t) _ (t::a0::L::(G1++Gs.flatten)) _ (.mk e3 (by omega) (yZ hpap)) (s15.trans (jP ht)) ?_ (fun a ha=>?_) (.mk g6 (kp a0 a05 _ h50) (by omega) ((ro4.keep fun a _ o e=>s5 a o e).keep fun a ha o e=>kp a (G15 a ha) o e) (kp L L5 _ (s25 _ _ hLs)) (by omega) (by omega) (by omega) fun i v d G i1 i2 i3=>?_)
  ·refine List.nodup_cons.mpr ⟨fun z=>?_,List.nodup_cons.mpr ⟨fun z=>?_,List.nodup_cons.mpr ⟨fun z=>?_,List.nodup_append.mpr ⟨nd1,ndG,fun a ha b hb z=>?_⟩⟩⟩⟩
   ·rcases Jy z with z | z
    ·exact ne a0 a05 z.symm
    rcases Jy z with z | z
    ·exact ne L L5 z.symm
    rcases Jx z with z | z
    ·exact G15 t z ht
    ·exact G5 t z ht
   ·have f0:H4 a0=none:=fr0 a0 (List.mem_singleton.mpr rfl)
    rcases Jy z with z | z
    ·rw [z,(s3.trans s4) _ _ hLs] at f0;cases f0
    rcases Jx z with z | z
    ·exact in1 a0 z f0
    ·exact poG a0 z ((s3.trans s4).free f0)
   ·rcases Jx z with z | z
    ·have:=fr1 L z
     rw [s3 _ _ hLs] at this
     cases this
    ·exact (frG L z).2 rfl
   ·have:=fr1 a ha
    rw [z] at this;exact poG b hb (s3.free this)
  ·rcases Jy ha with rfl | ha
   ·exact s15.free ht
   rcases Jy ha with rfl | ha
   ·exact s14.free (fr0 a (List.mem_singleton.mpr rfl))
   rcases Jy ha with rfl | ha
   ·exact s1.free hL
   rcases Jx ha with ha | ha
   ·exact s13.free (fr1 a ha)
   ·exact frH a ha
  ·exact (hpo i v d G i1 i2 i3).keep fun a ha o e=>kp a (G5 a (BX i3 ha)) o (s25 a o e)
noncomputable def spPpr (K:Fg):Sp:=fun vs H Q _=>∃(w:Wd) (s:Sn) (O:List Addr),w.Ok/\s.ok/\s.size<=200/\s.dep<=24/\O.Nodup/\(∀a∈O,H a≠none)/\Reps K (b8 H O) vs [w.enc,s.enc] /\
 ∀v H' G P,Pap w s P->Same H H'->G.Nodup->(∀a∈G,H a=none)->PO H' G v P->Q v H'
noncomputable abbrev g0:List Str:=["world", "sentence"]
noncomputable abbrev kO:List Str:=["check_world", "check_sentence", "paper_of"]
noncomputable def vU (K:Fg) (n:Nat):L2.TS:=
 hU (fR (tE K W0 (ag 1 bo (ab (ae 0) af)))) (hU (fR (tE K W0 (ag 1 ba (ab (ae 1) af)))) (sV (fh (fS K n) [] L2.E0 (cv (cY 0) (cv (cY 1) gD)))))
theorem zM {K:Fg} {n:Nat} (hn:24<=n) {vs:List V} {H:Hp} {Q:VK} {E:XK} {Qn:St->Hp->Prop} (h:spPpr K vs H Q E):vU K n { nx:=Qn,rt:=Q } (L2.start g0 vs) H:=by
 obtain ⟨w,s,O,ok,os,hz,hd,nd,inH,rs,q⟩:=h;have hvl:vs.length=2:=rs.1
 match vs,hvl,rs with
 | [v0,v1],_,rs=>
 have r0:=rs.2 0 v0 _ rfl rfl
 have r1:=rs.2 1 v1 _ rfl rfl
 have mono:∀{H'},Same H H'->Same (b8 H O) (b8 H' O):=fun s=>pK s fun a ha=>.inl ha
 have inH2:∀{H'},Same H H'->∀a∈O,H' a≠none:=fun s' a ha z=>inH a ha (s'.free z)
 show vU K n { nx:=Qn,rt:=Q } [some v0,some v1] H
 have env:∀{H'},Same H H'->EnvOk K H' O (List.replicate 2 []) H' [some v0,some v1] [JJ w.enc,JJ s.enc]:=fun {H2} s2=>xE (Γ:=[JJ w.enc,JJ s.enc]) nd (inH2 s2) rfl fun i p hp=>by
  match i,hp with
  | 0,hp=>cases hp;exact ⟨rfl,v0,rfl,r0.mono (mono s2)⟩
  | 1,hp=>cases hp;exact ⟨rfl,v1,rfl,r1.mono (mono s2)⟩
  | i+2,hp=>cases hp
 refine HR (Γ:=[JJ w.enc,JJ s.enc]) (inH2 (Same.refl _)) (env (Same.refl _)) (cG (aD (aC rfl) ao) ok.check rfl rfl) rfl fun _ H1 s1 _=>?_
 refine HR (Γ:=[JJ w.enc,JJ s.enc]) (inH2 s1) (env s1) (cG (aD (aC rfl) ao) (dP os hz hd) rfl rfl) rfl fun _ H2 s2 _=>?_
 have s12:=s1.trans s2
 refine ⟨v0,rfl,v1,rfl,w,s,O,ok,os,by omega,nd,inH2 s12,⟨rfl,fun i v d i1 i2=>?_⟩,fun v H' G P hP s3 ndg frg po=>q v H' G P hP (s12.trans s3) ndg (fun a ha=>s12.free (frg a ha)) po⟩
 match i,i1,i2 with
 | 0,i1,i2=>cases i1;cases i2;exact r0.mono (mono s12)
 | 1,i1,i2=>cases i1;cases i2;exact r1.mono (mono s12)
 | i+2,i1,i2=>cases i1
noncomputable def spSpl (n:Nat):Sp:=fun vs H Q _=>∃(v:V) (G:List Addr) (P:D) (w:Wd) (s:Sn),vs=[v]/\Pap w s P/\s.dep<=n/\PO H G v P/\G.Nodup/\∀H',(∀a,a∉G->∀o,H a=some o->H' a=some o)->(∀a,H a≠none->H' a≠none)->Q .non H'
noncomputable abbrev lP:List Str:=["told", "piece"]
noncomputable abbrev sf:List Str:=["_law_spoil_paper"]
noncomputable def qM (K:Fg) (c:Int):TE:=vz (EV K) (cY 0) (tC (.int c))
noncomputable def sX (K:Fg) (c:Int) (v:V):L2.TS:=fR (EK K "list" lg (qM K c) (cv (tC v) gD))
noncomputable def tSl (K:Fg) (n:Nat):L2.TS:=
 hU (sX K 0 (.int 99)) (hU (vV (sU (vz (fun x y H Q=>y=.non/\Q (.bl (!decide (x=.non))) H) (qM K 1) (tC .non))) (sX K 1 (.int 99)) pX)
 (hU (vW (qw K (qM K 2)) (dM 1) (fR (fh (spSpl n) [] L2.E0 (cv (cY 1) gD)))) (sX K 2 .non)))
section
variable {K:Fg} {H:Hp} {σ:St} {Q:VK}
theorem FQ {t:Addr} {xs:List V} {c:Int} {v:V} (h0:σ[0]?=some (some (.ref t))) (ht:H t=some (.tup xs)) (hv:fu xs c=some v) (q:Q v H):qM K c σ H Q:=⟨.ref t,h0,.inr (.inl ⟨t,xs,c,v,rfl,rfl,.of ht,hv,q⟩)⟩
theorem FP {D:fP} {t:Addr} {xs:List V} {c:Int} {v:V} {l:Addr} {ys:List V} (h0:σ[0]?=some (some (.ref t))) (ht:H t=some (.tup xs)) (hv:fu xs c=some (.ref l)) (hl:H l=some (.lst ys)) (hn:ys.length<=1000) (q:D.nx σ (b9 H l (.lst (ys++[v])))):sX K c v D σ H:=
 FQ h0 ht hv ⟨.inl ⟨rfl,ys,.of hl⟩,l,ys,v,rfl,rfl,hl,Nat.lt_of_le_of_lt hn (by decide),q⟩
end
theorem CQ {K:Fg} {n:Nat} {vs:List V} {H:Hp} {Q:VK} {E:XK} (h:spSpl (n+1) vs H Q E):tSl K n { nx:=fun _ H'=>Q .non H',rt:=Q } (L2.start lP vs) H:=by
 obtain ⟨v,G,P,w,s,rfl,hP,hd,po,ndG,q⟩:=h
 cases hP with
 | @mk _ R bs hR hlb hz=>
 generalize ePd:(PyData.tuple [aA (aJ w s),R,.list bs])=Pd at po
 cases po with
 | @mk t a0 a2 xs r1 R' G1 ws bs' Gs ht h0 l0 h1 h2 l2 e1 e2 hs=>
 simp only [PyData.tuple.injEq,List.cons.injEq,PyData.list.injEq,and_true] at ePd
 obtain ⟨_,rfl,rfl⟩:=ePd;show tSl K n { nx:=fun _ H'=>Q .non H',rt:=Q } [some (.ref t),none] H
 obtain ⟨n1,nd1⟩:=List.nodup_cons.mp ndG;obtain ⟨n2,nd2⟩:=List.nodup_cons.mp nd1;obtain ⟨n3,nd3⟩:=List.nodup_cons.mp nd2;obtain ⟨nd4,nd5,n4⟩:=JC nd3;have mG1:∀a∈G1,a∈t::a0::a2::(G1++Gs.flatten):=fun a ha=>JB _ (JB _ (JB _ (Jw _ ha)))
 have mGs:∀a∈Gs.flatten,a∈t::a0::a2::(G1++Gs.flatten):=fun a ha=>JB _ (JB _ (JB _ (Jv _ ha)))
 have m0:a0∈t::a0::a2::(G1++Gs.flatten):=JB _ (mem_cons_self ..)
 have m2:a2∈t::a0::a2::(G1++Gs.flatten):=JB _ (JB _ (mem_cons_self ..))
 have t0:t≠a0:=fun z=>n1 (by rw [z];exact mem_cons_self ..)
 have t2:t≠a2:=fun z=>n1 (by rw [z];exact JB _ (mem_cons_self ..))
 have a02:a0≠a2:=fun z=>n2 (by rw [z];exact mem_cons_self ..)
 have tG:∀a∈G1++Gs.flatten,t≠a:=fun a ha z=>n1 (by rw [z];exact JB _ (JB _ ha))
 have a0G:∀a∈G1++Gs.flatten,a0≠a:=fun a ha z=>n2 (by rw [z];exact JB _ ha)
 have a2G:∀a∈G1++Gs.flatten,a2≠a:=fun a ha z=>n3 (by rw [z];exact ha)
 refine FP rfl ht rfl h0 (by rw [length_map];exact l0) ?_
 generalize hH1:b9 H a0 (.lst (xs.map (fun x:Nat=>V.int (x:Int))++[V.int 99]))=H1
 have k1:∀a,a≠a0->H1 a=H a:=fun a ha=>by rw [<-hH1,e9 ha]
 have i1:∀a,H a≠none->H1 a≠none:=fun a ha=>by
  by_cases z:a=a0
  ·rw [z,<-hH1,g6];simp
  ·rw [k1 a z];exact ha
 have ht1:H1 t=some (.tup [.ref a0,r1,.ref a2]):=by rw [k1 t t0];exact ht
 have go:∀H2,(∀a,a∉a0::G1->H2 a=H a)->(∀a,H a≠none->H2 a≠none)->hU (vW (qw K (qM K 2)) (dM 1) (fR (fh (spSpl n) [] L2.E0 (cv (cY 1) gD)))) (sX K 2 .non) { nx:=fun _ H'=>Q .non H',rt:=Q } [some (.ref t),none] H2:=by
  intro H2 k2 i2;have ne2:∀a,a≠a0->(∀b∈G1,a≠b)->H2 a=H a:=fun a ha hb=>k2 a fun z=>(Jy z).elim ha fun y=>hb a y rfl
  have ht2:H2 t=some (.tup [.ref a0,r1,.ref a2]):=by rw [ne2 t t0 fun b hb=>tG b (Jw _ hb)];exact ht
  have h22:H2 a2=some (.lst ws):=by rw [ne2 a2 (Ne.symm a02) fun b hb=>a2G b (Jw _ hb)];exact h2
  refine FQ rfl ht2 rfl ⟨a2,rfl,⟨ws,.of h22⟩,?_⟩
  refine uT (xs:=ws) (fun k σ' H'=>(∃x,σ'=[some (.ref t),x])/\(∀a,a∉(Gs.take k).flatten->∀o,H2 a=some o->H' a=some o)/\∀a,H2 a≠none->H' a≠none) ⟨⟨none,rfl⟩,fun _ _ _ e=>e,fun _ h=>h⟩ (fun k σ' H' _ hh=>.of (hh.2.1 a2 (fun z=>?_) _ h22)) (fun k v σ' H' e hh=>?_) fun σ' H' hh=>?_
  ·exact a2G a2 (Jv _ (List.mem_flatten.mpr (let ⟨g,hg,ha⟩:=List.mem_flatten.mp z;⟨g,List.mem_of_mem_take hg,ha⟩))) rfl
  ·obtain ⟨⟨x,rfl⟩,kk,ii⟩:=hh
   have hkw:k<ws.length:=(JD e).1
   have hkb:k<bs.length:=by omega
   have hkg:k<Gs.length:=by omega
   have gk:=Jz hkg
   have hka:k<s.args.length:=by omega
   have poK:=hs k v bs[k] Gs[k] e (Jz hkb) gk
   have ha:s.args[k]∈s.args:=getElem_mem hka
   have sub:∀a∈Gs[k],a∈Gs.flatten:=fun a h=>BX gk h
   have split:Gs=Gs.take k++Gs[k]::Gs.drop (k+1):=by rw [<-drop_eq_getElem_cons hkg,List.take_append_drop]
   have disj:∀a∈Gs[k],a∉(Gs.take k).flatten:=fun a h z=>by
    have nd':=nd5
    rw [split,flatten_append,flatten_cons] at nd';exact (JC nd').2.2 a z a (Jw _ h) rfl
   have ndk:Gs[k].Nodup:=by
    have nd':=nd5
    rw [split,flatten_append,flatten_cons] at nd';exact (JC (JC nd').2.1).1
   refine ⟨v,rfl,v,Gs[k],bs[k],w,s.args[k],rfl,hz _ _ (List.mem_iff_getElem?.mpr ⟨k,by rw [List.getElem?_zip_eq_some];exact ⟨Jz hka,Jz hkb⟩⟩),GU ha hd,poK.keep fun a h o e=>?_,ndk,fun H3 k3 i3=>⟨⟨_,rfl⟩,fun a h o e=>?_,fun a h=>i3 a (ii a h)⟩⟩
   ·refine kk a (disj a h) o ?_
    rw [ne2 a (fun z=>a0G a (Jv _ (sub a h)) z.symm) fun b hb z=>n4 b hb a (sub a h) z.symm]
    exact e
   ·have ht':Gs.take (k+1)=Gs.take k++[Gs[k]]:=by rw [List.take_succ,gk];rfl
    rw [ht',flatten_append,List.flatten_singleton] at h;exact k3 a (fun z=>h (Jv _ z)) o (kk a (fun z=>h (Jw _ z)) o e)
  ·obtain ⟨⟨x,rfl⟩,kk,ii⟩:=hh
   rw [take_of_length_le (by omega)] at kk
   have ht3:=kk t (fun z=>tG t (Jv _ z) rfl) _ ht2
   have h23:=kk a2 (fun z=>a2G a2 (Jv _ z) rfl) _ h22
   refine FP rfl ht3 rfl h23 l2 (q _ (fun a ha o e=>?_) fun a ha=>?_)
   ·have c2:a≠a2:=fun z=>ha (by rw [z];exact m2)
    rw [e9 c2];refine kk a (fun z=>ha (mGs a z)) o ?_
    rw [k2 a fun z=>ha ((Jy z).elim (fun y=>by rw [y];exact m0) (mG1 a))]
    exact e
   ·by_cases z:a=a2
    ·rw [z,g6];simp
    ·rw [e9 z];exact ii a (i2 a ha)
 refine FQ rfl ht1 rfl ⟨rfl,_,rfl,?_⟩
 rcases h1 with ⟨z1,_,z3⟩ | ⟨a1,rk,z1,z3,z4,_,z5⟩
 ·rw [z1]
  refine jr (show _ from go H1 (fun a ha=>k1 a fun z=>ha (by rw [z];exact mem_cons_self ..)) i1)
 ·rw [z1,show (!decide (V.ref a1=V.non))=true by simp]
  have a1m:a1∈G1:=by rw [z3];exact List.mem_singleton.mpr rfl
  have a10:a1≠a0:=Ne.symm (a0G a1 (Jw _ a1m))
  refine j9 (FP rfl (by rw [ht1,z1]) rfl (by rw [k1 a1 a10];exact z4) (by rw [length_map];exact z5) (go _ (fun a ha=>?_) fun a ha=>?_))
  ·have c1:a≠a1:=fun z=>ha (by rw [z];exact JB _ a1m)
   rw [e9 c1];exact k1 a fun z=>ha (by rw [z];exact mem_cons_self ..)
  ·by_cases z:a=a1
   ·rw [z,g6];simp
   ·rw [e9 z];exact i1 a ha
section
variable (P:Program) (w:World) (K:Fg) (mg:Str->Option Value) (base:Heap) (j n:Nat)
noncomputable def se:Prop:=∃(f:Addr) (fd:FuncData) (ps:List Str),e8 P w K mg base lQ j f fd ps (fS K n)/\mg "paper_of"=some (.ref f)/\PySem.W.keepIn K (.ref f)=true/\Binds K fd ps []
noncomputable def PprOk:Prop:=∃(f:Addr) (fd:FuncData) (ps:List Str),e8 P w K mg base lQ j f fd ps (spPpr K)/\mg "paper"=some (.ref f)/\PySem.W.keepIn K (.ref f)=true/\Binds K fd ps []
noncomputable def SplOk:Prop:=∃(f:Addr) (fd:FuncData) (ps:List Str),e8 P w K mg base lQ j f fd ps (spSpl n)/\mg "_law_spoil_paper"=some (.ref f)/\PySem.W.keepIn K (.ref f)=true/\Binds K fd ps []
end
noncomputable abbrev CaF (X:Cx) (x:Str) (sp:Sp):Prop:=∃(k:Nat) (f:Addr) (fd:FuncData) (ps:List Str),e8 X.prog X.w X.K X.mg X.base lQ k f fd ps sp/\Room k X.A/\X.mg x=some (.ref f)/\PySem.W.keepIn X.K (.ref f)=true/\Binds X.K fd ps []
section
variable {P:Program} {w:World} {K:Fg} {mg:Str->Option Value} {base:Heap} {f:Addr} {fd:FuncData} {st:Stmt} {j1 j2 j3 j k n:Nat} {vs cs ls lo gs:List Nat}
theorem Jh (F:Fun K "paper_of" "paper_of" st f fd) (hm:mg "paper_of"=some (.ref f)) (b:Binds K fd ["world", "sentence"] []):se P w K mg base k 0:=
 ⟨f,fd,["world", "sentence"],⟨fun vs H Q E h=>by obtain ⟨_,_,_,_,_,_,_,_,rs,_⟩:=h;exact rs.1,fun A outer s H args us vs Q E _ _ _ _ h=>by
  obtain ⟨_,s,_,_,_,hd,_⟩:=h;have:=s.dep_args
  omega⟩,hm,F.kp,b⟩
theorem Dj (F:Fun K "paper_of" "paper_of" st f fd) (hm:mg "paper_of"=some (.ref f)) (b:Binds K fd ["world", "sentence"] []) (sc:cO il ["world", "sentence"] (aO st)) (cp:kE il pG vs cs ls lo gs (aO st)=true) (nm:uy il pG=true)
  (c1:DefOk P w K mg base j1 "parts_of" 1 aU) (c2:DefOk P w K mg base j2 "ranks_of" 3 bA) (c3:DefOk P w K mg base j3 "rooms_by" 4 bO) (h1:decide (j1<=k)=true) (h2:decide (j2<=k)=true) (h3:decide (j3<=k)=true)
  (bd:∀(X:Cx) (n:Nat),Cp X il pG vs cs ls lo gs->Rm X->pH X "parts_of" 1 aU->CaF X "paper_of" (fS X.K n)->pH X "ranks_of" 3 bA->pH X "rooms_by" 4 bO->PSs X (bV st) (EJ X.K n)):∀n,se P w K mg base (k+n) n:=by
 intro n;induction n with
 | zero=>exact Jh F hm b
 | succ n ih=>
  obtain ⟨f',fd',ps',F',a',b',c'⟩:=ih;refine ⟨f,fd,["world", "sentence"],F.ok sc (fun vs H Q E h=>by obtain ⟨_,_,_,_,_,_,_,_,rs,_⟩:=h;exact rs.1) (fun cdv A outer s H vs Q E hr h=>?_),hm,F.kp,b⟩
  have r:∀{i:Nat},decide (i<=k)=true->Room i _:=fun {i} hi=>hr.mono (Nat.le_trans (of_decide_eq_true hi) (Nat.le_add_right k n))
  obtain ⟨f1,fd1,ps1,F1,x1,y1,z1⟩:=c1;obtain ⟨f2,fd2,ps2,F2,x2,y2,z2⟩:=c2;obtain ⟨f3,fd3,ps3,F3,x3,y3,z3⟩:=c3;exact ⟨_,bd _ n (Cp.fn cp nm) hr.units ⟨j1,f1,fd1,ps1,F1,r h1,x1,y1,z1⟩ ⟨k+n,f',fd',ps',F',hr,a',b',c'⟩ ⟨j2,f2,fd2,ps2,F2,r h2,x2,y2,z2⟩ ⟨j3,f3,fd3,ps3,F3,r h3,x3,y3,z3⟩,CS h⟩
theorem AN (F:Fun K "paper" "paper" st f fd) (hm:mg "paper"=some (.ref f)) (b:Binds K fd ["world", "sentence"] []) (sc:cO g0 ["world", "sentence"] (aO st)) (cp:kE g0 kO vs cs ls lo gs (aO st)=true) (nm:uy g0 kO=true)
  (c1:DefOk P w K mg base j1 "check_world" 1 bo) (c2:DefOk P w K mg base j2 "check_sentence" 1 ba) (c3:se P w K mg base j3 24) (h1:decide (j1<=k)=true) (h2:decide (j2<=k)=true) (h3:decide (j3<=k)=true)
  (bd:∀(X:Cx),Cp X g0 kO vs cs ls lo gs->Rm X->pH X "check_world" 1 bo->pH X "check_sentence" 1 ba->CaF X "paper_of" (fS X.K 24)->PSs X (bV st) (vU X.K 24)):PprOk P w K mg base (k+1):=by
 refine ⟨f,fd,["world", "sentence"],F.ok sc (fun vs H Q E h=>by obtain ⟨_,_,_,_,_,_,_,_,_,rs,_⟩:=h;exact rs.1) (fun cdv A outer s H vs Q E hr h=>?_),hm,F.kp,b⟩
 have r:∀{i:Nat},decide (i<=k)=true->Room i _:=fun {i} hi=>hr.mono (of_decide_eq_true hi)
 obtain ⟨f1,fd1,ps1,F1,x1,y1,z1⟩:=c1;obtain ⟨f2,fd2,ps2,F2,x2,y2,z2⟩:=c2;obtain ⟨f3,fd3,ps3,F3,x3,y3,z3⟩:=c3;exact ⟨_,bd _ (Cp.fn cp nm) hr.units ⟨j1,f1,fd1,ps1,F1,r h1,x1,y1,z1⟩ ⟨j2,f2,fd2,ps2,F2,r h2,x2,y2,z2⟩ ⟨j3,f3,fd3,ps3,F3,r h3,x3,y3,z3⟩,zM (JH _) h⟩
theorem AM (F:Fun K "_law_spoil_paper" "_law_spoil_paper" st f fd) (hm:mg "_law_spoil_paper"=some (.ref f)) (b:Binds K fd ["told"] []) (sc:cO lP ["told"] (aO st)) (cp:kE lP sf vs cs ls lo gs (aO st)=true) (nm:uy lP sf=true)
  (bd:∀(X:Cx) (n:Nat),Cp X lP sf vs cs ls lo gs->Rm X->PassesOwn (model X.prog X.w) X.A X.env X.xe->CaF X "_law_spoil_paper" (spSpl n)->PSs X (bV st) (tSl X.K n)):∀n,SplOk P w K mg base (k+n) n:=by
 intro n;induction n with
 | zero=>
  exact ⟨f,fd,["told"],⟨fun vs H Q E h=>by obtain ⟨_,_,_,_,_,e,_⟩:=h;rw [e];rfl,fun A outer s H args us vs Q E _ _ _ _ h=>by
   obtain ⟨_,_,_,_,s,_,_,hd,_⟩:=h;have:=s.dep_args
   omega⟩,hm,F.kp,b⟩
 | succ n ih=>
  obtain ⟨f',fd',ps',F',a',b',c'⟩:=ih;refine ⟨f,fd,["told"],F.ok sc (fun vs H Q E h=>by obtain ⟨_,_,_,_,_,e,_⟩:=h;rw [e];rfl) (fun cdv A outer s H vs Q E hr h=>?_),hm,F.kp,b⟩
  exact ⟨_,bd _ n (Cp.fn cp nm) hr.units PassesOwn.never ⟨k+n,f',fd',ps',F',hr,a',b',c'⟩,CQ h⟩
end
open Classical in
noncomputable def oE (i a b:Nat) (c:FB):FS:=fun Γ=>if Γ[i]?=some none/\∃(w:Wd) (s:Sn),w.Ok/\s.ok/\s.size<=200/\s.dep<=24/\Γ[a]?=some (JJ w.enc)/\Γ[b]?=some (JJ s.enc)/\∀P,Pap w s P->∃Γ',c (Γ.set i (JJ P))=.ok false Γ' then .nx Γ else .no
theorem AB {i a b:Nat} {c:FB} {Γ:Ev} {K:Fg} {W:XW} {He:Hp} {O:List Addr} {D:fP} (h:cC K W He O D (oE i a b c Γ)):Γ[i]?=some none/\(∃(w:Wd) (s:Sn),w.Ok/\s.ok/\s.size<=200/\s.dep<=24/\Γ[a]?=some (JJ w.enc)/\Γ[b]?=some (JJ s.enc)/\∀P,Pap w s P->∃Γ',c (Γ.set i (JJ P))=.ok false Γ')/\∀σ' H' Fs',EnvOk K He O Fs' H' σ' Γ->D.nx σ' H':=by
 unfold oE at h;split at h
 ·rename_i z
  exact ⟨z.1,z.2,h⟩
 ·exact h.elim
section
variable {K:Fg} {W:XW} {σ:St} {H:Hp} {D:fP} {i a b:Nat} {c:FB} {fl:FL}
theorem zN (hia:i≠a) (hib:i≠b) (h:tS K W (oE i a b c) D σ H):hU (mx (fh (spPpr K) [] L2.E0 (cv (cY a) (cv (cY b) gD))) (dM i)) (hU (vV (tT K W c) (sV (tC (.bl false))) pX) (fR (fh (spSpl 24) [] L2.E0 (cv (cY i) gD)))) D σ H:=by
 obtain ⟨He,O,Fs,Γ,E,h⟩:=h;obtain ⟨ei,⟨w,s,ok,os,hz,hd,ea,eb,hc⟩,q⟩:=AB h;have lti:i<σ.length:=by rw [E.len1];exact (JD ei).1
 obtain ⟨_,va,Fa,a1,a2,a3⟩:=E.slot a _ ea;obtain ⟨_,vb,Fb,b1,b2,b3⟩:=E.slot b _ eb;have ra:Rep K (b8 H (O++Fs.flatten)) va w.enc:=by cases a3 with | leaf r=>exact r
 have rb:Rep K (b8 H (O++Fs.flatten)) vb s.enc:=by cases b3 with | leaf r=>exact r
 refine ⟨va,a1,vb,b1,w,s,O++Fs.flatten,ok,os,hz,hd,E.nd,E.inH,⟨rfl,fun k v d k1 k2=>?_⟩,fun v H1 G P hP s1 ndG frG po=>?_⟩
 ·match k,k1,k2 with
  | 0,k1,k2=>cases k1;cases k2;exact ra
  | 1,k1,k2=>cases k1;cases k2;exact rb
  | k+2,k1,k2=>cases k1
 obtain ⟨Γ',ec⟩:=hc P hP;have dis:∀x∈G,x∉O++Fs.flatten:=fun x hx z=>E.inH x z (frG x hx)
 have Ei:EnvOk K He O (Fs.set i []) H1 (σ.set i (some v)) (Γ.set i (JJ P)):=
  EnvOk.put (G:=[]) (p:=⟨.leaf,P⟩) (by rw [nil_append];exact E.grow s1) (.leaf (by rw [nil_append];exact po.rep dis)) rfl (fun _ z=>nomatch z) (by rw [<-E.len1];exact lti)
 refine ⟨He,O,Fs.set i [],_,Ei,?_⟩
 show WantsB K W He O _ H1 _ _ (c (Γ.set i (JJ P)))
 rw [ec];intro H2 Fs2 s2 E2 n2;refine jr ⟨v,getElem?_set_self lti,v,G,P,w,s,rfl,hP,hd,po.keep (fun x _ o e=>s2 x o e),ndG,fun H3 k3 i3=>?_⟩
 have s3:Same H H3:=fun x o e=>k3 x (fun z=>by have:=frG x z;rw [e] at this;cases this) o (s2 x o (s1 x o e))
 exact q _ H3 Fs (vd (E.grow s3) ei)
end
end KC
namespace T
open PySem PySem.Spec L2
open PyProof.Rows hiding St
section
variable {p:Fg->(Str->Option Value)->Prop} {X:Cx} {P:Program} {w:World} {K:Fg} {mg:Str->Option Value} {base:Heap} {k j n:Nat}
theorem In.ppr (I:In p X P w K mg base k) (h:KC.PprOk P w K mg base j) (hj:decide (j<=k)=true:=by first | exact rfl | exact decide_eq_true (by omega)):KC.CaF X "paper" (KC.spPpr X.K):=by
 obtain ⟨rfl,rfl,rfl,rfl,rfl,r,_⟩:=I;obtain ⟨f,fd,ps,F,a,b,c⟩:=h;exact ⟨j,f,fd,ps,F,r.mono (of_decide_eq_true hj),a,b,c⟩
theorem In.spl (I:In p X P w K mg base k) (h:KC.SplOk P w K mg base j n) (hj:decide (j<=k)=true:=by first | exact rfl | exact decide_eq_true (by omega)):KC.CaF X "_law_spoil_paper" (KC.spSpl n):=by
 obtain ⟨rfl,rfl,rfl,rfl,rfl,r,_⟩:=I;obtain ⟨f,fd,ps,F,a,b,c⟩:=h;exact ⟨j,f,fd,ps,F,r.mono (of_decide_eq_true hj),a,b,c⟩
end
end T
namespace TQ
open PySem PySem.Spec L2 T KC
open PyProof.Rows hiding St
theorem sH {X:Cx} {N gl:List Str} {vs cs ls lo gs:List Nat} {W:XW} (S:Cp X N gl vs cs ls lo gs) (i a b ja jb:Nat) {x y z:Str} {e:Expr} {fc:FB} {kd:Nat} {p1 p2 p3 p4 p5 p6 p7 p8 p9 p10 p11 p12 p13:Pos} (c1:CaF X "paper" (spPpr X.K)) (c2:CaF X "_law_spoil_paper" (spSpl 24)) (hc:Q (PT X e (tT X.K W fc))) (hx:N[i]?=some x:=by rfl) (hvx:vs.contains i=true:=by rfl) (hlx:ls.contains i=true:=by rfl) (hy:N[a]?=some y:=by rfl) (hvy:vs.contains a=true:=by rfl) (hz:N[b]?=some z:=by rfl) (hvz:vs.contains b=true:=by rfl) (ga:gl[ja]?=some ("paper":Str):=by rfl) (gA:gs.contains ja=true:=by rfl) (gb:gl[jb]?=some ("_law_spoil_paper":Str):=by rfl) (gB:gs.contains jb=true:=by rfl) (hia:i≠a:=by decide) (hib:i≠b:=by decide)
  (hs1:swapsWith (.Call (.Name "paper" p1) [.Name y p2,.Name z p3] [] p4) (some (.Name x p5)) p6.line X.env=pure false:=by rfl) (hs2:swapsWith (.Call (.Name "_law_spoil_paper" p7) [.Name x p8] [] p9) none p10.line X.env=pure false:=by rfl) :
  Q (PSs X [.Assign [.Name x p5] (.Call (.Name "paper" p1) [.Name y p2,.Name z p3] [] p4) p6,.If e [.Return (some (.Constant (.bool false) kd p11)) p12] [] p13,.Expr (.Call (.Name "_law_spoil_paper" p7) [.Name x p8] [] p9) p10] (tS X.K W (oE i a b fc))):=by
 have hN:X.N.Nodup:=by rw [S.hN];exact S.nd
 have l1:=S.loc i x hx hlx
 obtain ⟨k1,f1,fd1,ps1,F1,r1,x1,y1,z1⟩:=c1;obtain ⟨k2,f2,fd2,ps2,F2,r2,x2,y2,z2⟩:=c2;exact ⟨Fo (sC (FO hN (by rw [S.hN];exact hx) l1.1 (yj F1 r1 (S.g ga gA).1 x1 y1 z1 .nil iA (lR (nvD S a hy hvy) (lR (nvD S b hz hvz) sg (bS rfl)) (bS rfl)) (by decide) (bS rfl) rfl) hs1 l1.2) (sC (uc hc.p (ym (D3 yF)) FG) (ym (vx (yj F2 r2 (S.g gb gB).1 x2 y2 z2 .nil iA (lR (nvD S i hx hvx) sg (bS rfl)) (by decide) (bS rfl) rfl) hs2)))) fun _ _ _=>zN hia hib⟩
end TQ
namespace KC
open PySem PySem.Spec L2 T
open PyProof.Rows hiding St
noncomputable def dE:Stmt:=G7 39
noncomputable def gF:Stmt:=G7 40
theorem CN:cO il ["world", "sentence"] (aO dE):=⟨rfl,rfl,rfl,by decide +kernel,rfl,by decide +kernel,by decide +kernel⟩
theorem DG:kE il pG [0,1,2,3,4] [0] [0,1,2,3,4] [1,2,3,4] [0,2,3] (aO dE)=true:=by kernel_rfl
theorem Dl:uy il pG=true:=by kernel_rfl
theorem zA:cO g0 ["world", "sentence"] (aO gF):=⟨rfl,rfl,rfl,by decide +kernel,rfl,by decide +kernel,by decide +kernel⟩
theorem BA:kE g0 kO [0,1] [] [0,1] [0,1] [0,1,2] (aO gF)=true:=by kernel_rfl
theorem AO:uy g0 kO=true:=by kernel_rfl
noncomputable abbrev Jf (X:Cx):Prop:=Cp X il pG [0,1,2,3,4] [0] [0,1,2,3,4] [1,2,3,4] [0,2,3]
theorem wJ {X:Cx} {n:Nat} {scope:Scope} {p1 p2 p3 p4 p5 p6 p7 p8 pos' spos pos:Pos} (S:Jf X) (c1:CaF X "parts_of" (nZ X.K 1 aU)) (c2:CaF X "paper_of" (fS X.K n)) (hsl:(pos'.line==pos.line)=true) (hsn:(scope.names.any fun (n,k)=>n==("below":Str)&&(k==NameKind.local||k==NameKind.cell))=false)
  (h1:jH il [5] [0] scope=true) (h2:kE il pG [0,5] [0] [5] [] [1] scope=true) (hs:∀x,foldedSetIterable (.Call (.Name "parts_of" p5) [.Name "sentence" p6] [] p7) X.env x=pure x) :
  PS X (.Assign [.Name "below" pos'] (.ListComp (.Call (.Name "paper_of" p1) [.Name "world" p2,.Name "part" p3] [] p4) [⟨.Name "part" p8,.Call (.Name "parts_of" p5) [.Name "sentence" p6] [] p7,[],0⟩] scope pos) spos)
   (fun D σ H=>iZ [5] (xq X.K (fh (nZ X.K 1 aU) [] L2.E0 (cv (cY 1) gD))) (dM 5) pV (fh (fS X.K n) [] L2.E0 (cv (cY 0) (cv (cY 5) gD))) σ H fun v H'=>D.nx (σ.set 2 (some v)) H'):=by
 have hN:X.N.Nodup:=by rw [S.hN];exact S.nd
 have B:=fun cells C s₀ H₀ ex=>S.blk h2 cells C s₀ H₀ ex
 obtain ⟨k,f,fd,ps,F,hr,a1,a2,a3⟩:=c2;obtain ⟨k1,f1,fd1,ps1,F1,hr1,b1,b2,b3⟩:=c1;exact GC hN (by rw [S.hN];rfl) (S.loo 2 "below" rfl rfl) (kH S h1) S.calm (uf (yj F1 hr1 (S.g (j:=0) rfl rfl).1 b1 b2 b3 .nil iA (lR (TQ.nvD S 1 rfl rfl) sg (bS rfl)) (by decide) (bS rfl) rfl))
  (fun cells C s₀ H₀ ex=>yk (X:=L2.blk X scope cells C s₀ H₀ ex) (i:=5) hN (by show X.N[5]?=_;rw [S.hN];rfl) ((B cells C s₀ H₀ ex).loc 5 _ rfl rfl).1 ((B cells C s₀ H₀ ex).loc 5 _ rfl rfl).2)
  (fun cells C s₀ H₀ ex=>ug)
  (fun cells C s₀ H₀ ex=>yj (X:=L2.blk X scope cells C s₀ H₀ ex) F hr ((B cells C s₀ H₀ ex).g (j:=1) rfl rfl).1 a1 a2 a3 .nil iA (lR (TQ.nvD (B cells C s₀ H₀ ex) 0 rfl rfl) (lR (TQ.nvD (B cells C s₀ H₀ ex) 5 rfl rfl) sg (bS rfl)) (bS rfl)) (by decide) (bS rfl) rfl)
  (GD S.kind (S.loo 2 "below" rfl rfl) hsl hsn) hs
theorem DK {X:Cx} {n:Nat} (S:Jf X) (R:Rm X) (c1:pH X "parts_of" 1 aU) (c2:CaF X "paper_of" (fS X.K n)) (c3:pH X "ranks_of" 3 bA) (c4:pH X "rooms_by" 4 bO):PSs X (bV dE) (EJ X.K n):=by
 have hN:X.N.Nodup:=by rw [S.hN];exact S.nd
 have g:∀(i:Nat) (x:Str),il[i]?=some x->X.N[i]?=some x:=fun i x e=>by rw [S.hN];exact e
 have lc:∀(i:Nat) (x:Str),il[i]?=some x->[0,1,2,3,4].contains i=true->Loc X.env.scope x/\(X.fn x=true\/X.env.scope.names.lookup x=some .local):=fun i x e hi=>S.loc i x e hi
 refine sC (wJ S c1 c2 rfl rfl (by kernel_rfl) (by kernel_rfl) (fun _=>rfl)) ?_
 refine sC (nR (vs':=[6]) (cs':=[]) (lo':=[]) (gs':=[]) S 3 .leaf 6 rfl rfl rfl rfl rfl (by kernel_rfl) (by kernel_rfl) (TQ.Q.p (TQ.w_di_seq (TQ.w_cv S 2 rfl rfl))) (fun Y SY FY=>TQ.Q.p TQ.w_df_nil) (fun Y SY FY=>TQ.Q.p (TQ.w_de_idx (TQ.w_cv SY 6 rfl rfl) TQ.w_de_int (fun _ _=>rfl))) (fun _=>rfl)) ?_
 refine sC (FO hN (g 4 _ rfl) (lc 4 _ rfl rfl).1 (TQ.Q.p (TQ.w_cc S 2 rfl rfl c3 (TQ.w_da_cons (TQ.w_cv S 0 rfl rfl) (TQ.w_da_cons (TQ.w_cv S 1 rfl rfl) (TQ.w_da_cons (TQ.w_cv S 3 rfl rfl) TQ.w_da_nil (bS rfl)) (bS rfl)) (bS rfl)) (bS rfl) rfl)) rfl (lc 4 _ rfl rfl).2) ?_
 exact ym (D3 (uh (lR (TQ.Q.p (TQ.w_cc S 3 rfl rfl c4 (TQ.w_da_cons (TQ.w_cv S 0 rfl rfl) (TQ.w_da_cons (TQ.w_cv S 1 rfl rfl) (TQ.w_da_cons (TQ.w_cv S 3 rfl rfl) (TQ.w_da_cons (TQ.w_cv S 4 rfl rfl) TQ.w_da_nil (bS rfl)) (bS rfl)) (bS rfl)) (bS rfl)) (bS rfl) rfl)) (lR (TQ.nvD S 4 rfl rfl) (lR (TQ.nvD S 2 rfl rfl) sg (bS rfl)) (bS rfl)) (bS rfl))))
theorem BE {X:Cx} (S:Cp X g0 kO [0,1] [] [0,1] [0,1] [0,1,2]) (R:Rm X) (c1:pH X "check_world" 1 bo) (c2:pH X "check_sentence" 1 ba) (c3:CaF X "paper_of" (fS X.K 24)):PSs X (bV gF) (vU X.K 24):=by
 obtain ⟨k,f,fd,ps,F,hr,a1,a2,a3⟩:=c3;exact sC (vx (TQ.Q.p (TQ.w_cc S 0 rfl rfl c1 (TQ.w_da_cons (TQ.w_cv S 0 rfl rfl) TQ.w_da_nil (bS rfl)) (bS rfl) rfl)) rfl) (sC (vx (TQ.Q.p (TQ.w_cc S 1 rfl rfl c2 (TQ.w_da_cons (TQ.w_cv S 1 rfl rfl) TQ.w_da_nil (bS rfl)) (bS rfl) rfl)) rfl) (ym (D3 (yj F hr (S.g (j:=2) rfl rfl).1 a1 a2 a3 .nil iA (lR (TQ.nvD S 0 rfl rfl) (lR (TQ.nvD S 1 rfl rfl) sg (bS rfl)) (bS rfl)) (by decide) (bS rfl) rfl))))
section
variable {P:Program} {w:World} {K:Fg} {mg:Str->Option Value} {base:Heap} {f:Addr} {fd:FuncData} {j1 j2 j3 k:Nat}
theorem mU (F:Fun K "paper_of" "paper_of" dE f fd) (hm:mg "paper_of"=some (.ref f)) (b:Binds K fd ["world", "sentence"] []) (c1:DefOk P w K mg base j1 "parts_of" 1 aU) (c2:DefOk P w K mg base j2 "ranks_of" 3 bA) (c3:DefOk P w K mg base j3 "rooms_by" 4 bO) (h1:decide (j1<=k)=true) (h2:decide (j2<=k)=true) (h3:decide (j3<=k)=true):se P w K mg base (k+24) 24:=
 Dj F hm b CN DG Dl c1 c2 c3 h1 h2 h3 (fun X n S R c1 c2 c3 c4=>DK S R c1 c2 c3 c4) 24
theorem uq (F:Fun K "paper" "paper" gF f fd) (hm:mg "paper"=some (.ref f)) (b:Binds K fd ["world", "sentence"] []) (c1:DefOk P w K mg base j1 "check_world" 1 bo) (c2:DefOk P w K mg base j2 "check_sentence" 1 ba) (c3:se P w K mg base j3 24) (h1:decide (j1<=k)=true) (h2:decide (j2<=k)=true) (h3:decide (j3<=k)=true):PprOk P w K mg base (k+1):=
 AN F hm b zA BA AO c1 c2 c3 h1 h2 h3 fun X S R c1 c2 c3=>BE S R c1 c2 c3
end
noncomputable def bF:Stmt:=G7 60
theorem CM:cO lP ["told"] (aO bF):=⟨rfl,rfl,rfl,by decide +kernel,rfl,by decide +kernel,by decide +kernel⟩
theorem DF:kE lP sf [0,1] [] [0,1] [0,1] [0] (aO bF)=true:=by kernel_rfl
theorem Dk:uy lP sf=true:=by kernel_rfl
noncomputable abbrev Je (X:Cx):Prop:=Cp X lP sf [0,1] [] [0,1] [0,1] [0]
theorem mC {X:Cx} (S:Je X) {p1 p2 p3:Pos} {k1:Nat} {c:Int}:PE X (.Subscript (.Name "told" p1) (.Constant (.int c) k1 p2) p3) (qM X.K c):=uj Fu (TQ.nvD S 0 rfl rfl) D2 (fun _ _=>rfl)
theorem DJ {X:Cx} {n:Nat} (S:Je X) (R:Rm X) (hp:PassesOwn (model X.prog X.w) X.A X.env X.xe) (c:CaF X "_law_spoil_paper" (spSpl n)):PSs X (bV bF) (tSl X.K n):=by
 have hN:X.N.Nodup:=by rw [S.hN];exact S.nd
 have l1:=S.loc 1 "piece" rfl rfl
 obtain ⟨k,f,fd,ps,F,hr,a1,a2,a3⟩:=c;refine sC (vx (mR PySem.F.plainAttrs_list PySem.F.slot_list_append PySem.F.type_list_append Cs (mC S) (lR D2 sg (bS rfl)) rfl rfl rfl (eA rfl) rfl) rfl) ?_
 refine sC (uc (qi qp (mC S) FN (by with_unfolding_all rfl)) (ym (vx (mR PySem.F.plainAttrs_list PySem.F.slot_list_append PySem.F.type_list_append Cs (mC S) (lR D2 sg (bS rfl)) rfl rfl rfl (eA rfl) rfl) rfl)) FG) ?_
 refine sC (ud hp S.calm (qk (mC S)) (yk hN (by rw [S.hN];rfl) l1.1 l1.2) (ym (vx (yj F hr (S.g (j:=0) rfl rfl).1 a1 a2 a3 .nil iA (lR (TQ.nvD S 1 rfl rfl) sg (bS rfl)) (by decide) (bS rfl) rfl) rfl)) (fun _=>rfl)) ?_
 exact ym (vx (mR PySem.F.plainAttrs_list PySem.F.slot_list_append PySem.F.type_list_append Cs (mC S) (lR FN sg (bS rfl)) rfl rfl rfl (eA rfl) rfl) rfl)
theorem fO {P:Program} {w:World} {K:Fg} {mg:Str->Option Value} {base:Heap} {f:Addr} {fd:FuncData} {k:Nat} (F:Fun K "_law_spoil_paper" "_law_spoil_paper" bF f fd) (hm:mg "_law_spoil_paper"=some (.ref f)) (b:Binds K fd ["told"] []):SplOk P w K mg base (k+24) 24:=
 AM F hm b CM DF Dk (fun X n S R hp c=>DJ S R hp c) 24
end KC
namespace KC.N
open PySem PySem.Spec L2 T
open PyProof.Rows hiding St
open KC
noncomputable def gV:FS:=(aq (ay false 6 (aw (bK false) (ae 1) (bJ (ab (eK (.str "all until")) (ab (eK (.str "some always")) af)))))
  (aq (ay false 7 (ax .leaf 9 (aS (ai (ai (ae 0) (eK (.int 2))) (ae 3))) (aF ah (aw (cu true) (ai (ae 2) (ae 9)) (eK .none))) (ae 9)))
  (aq (bL (aF ah (aw (cu false) (ai (ae 2) (ae 3)) (eK .none))) (aq (bL (aF bh (ae 5)) (aL (eK (.bool false))) aG)
  (aL (xF (jy (ae 4)) (rH (aF bh (ae 6)) (aw jv (bt aQ (ab (ae 7) af)) (bt aQ (ab (ai (ai (ae 0) (eK (.int 2))) (ae 3)) af))) (aw bD (ae 7) (bb .leaf af)))))) aG)
  (aq (bL (eL (aF bh (ae 5)) (aF ah (aw bD (ai (ae 2) (ae 3)) (eK (.int 0))))) (aL (eY (ae 5) (aw bD (ai (ae 2) (ae 3)) (eK (.int 0))))) aG)
  (aq (ay false 8 (ax .leaf 9 (aS (ae 7)) (aF ah (aw jv (ai (ae 2) (ae 9)) (ai (ae 2) (ae 3)))) (ae 9)))
  (aL (eY (ae 4) (rH (aF bh (ae 6)) (aw bD (bt aQ (ab (ae 8) af)) (bt aQ (ab (ai (ai (ae 0) (eK (.int 2))) (ae 3)) af))) (aw iC (ae 8) (bb .leaf af))))))))))
noncomputable def bz:List JI->b4:=aI 10 gV
noncomputable def gr:FS:=(aq (ay false 3 (ag 2 cj (ab (ae 0) (ab (ai (ae 1) (eK (.int 1))) af))))
  (aq (bL (eL (b6 (aF bh (dO "list" (ae 2)))) (aF ah (aw iC (bt aQ (ab (ae 2) af)) (bt aQ (ab (ai (ae 0) (eK (.int 0))) af))))) (aL (eK (.bool false))) aG)
  (aq (dW 4 (eO (ab (bt aQ (ab (ae 2) af)) af))
  (bL (dB (aF ah (aw (cu true) (ai (ae 2) (ae 4)) (eK .none))) (eL (b6 (aF bh (ag 1 cg (ab (ai (ae 2) (ae 4)) af)))) (aF ah (aw jv (ai (ae 2) (ae 4)) (eK (.int 0)))))) (aL (eK (.bool false))) aG))
  (aq (ay false 5 (bb .leaf af))
  (aq (bL (aF ah (aw (gP false) (eK (.str "until")) (ai (ae 1) (eK (.int 0))))) (ay false 5 (ag 2 cj (ab (ae 0) (ab (ai (ae 1) (eK (.int 2))) af)))) aG)
  (aq (dW 4 (eO (ab (bt aQ (ab (ae 2) af)) af))
  (aq (ay false 6 (aw (bK false) (ae 4) (ae 3)))
  (aq (ay false 7 (eK (.bool false)))
  (aq (bL (aF ah (aw (gP false) (eK (.str "until")) (ai (ae 1) (eK (.int 0))))) (ay false 7 (aw (bK false) (ae 4) (ae 5))) (aq (ay false 7 (jy (ae 6)))
  (ay false 6 (eK (.bool true)))))
  (bL (b6 (aF bh (ag 6 bz (ab (ae 0) (ab (ai (ae 1) (eK (.int 0))) (ab (ae 2) (ab (ae 4) (ab (ae 6) (ab (ae 7) af))))))))) (aL (eK (.bool false))) aG)))))
  (aL (eK (.bool true)))))))))
noncomputable def bG:List JI->b4:=aI 8 gr
noncomputable def gW (r__law_right:List JI->b4):FS:=(aq (bL (eL (b6 (aF bh (dO "tuple" (ae 2)))) (eL (aF ah (aw iC (bt aQ (ab (ae 2) af)) (eK (.int 3)))) (b6 (aF bh (ag 2 cI (ab (ai (ae 2) (eK (.int 0))) (ab (ag 2 cj (ab (ae 0) (ab (ae 1) af))) af))))))) (aL (eK (.bool false))) aG)
  (aq (ay false 3 (xF (aw (gP false) (eK (.str "until")) (ai (ae 1) (eK (.int 0)))) (aw (gP false) (eK (.str "always")) (ai (ae 1) (eK (.int 0))))))
  (aq (bL (eL (dB (aF bh (ae 3)) (b6 (aF bh (ag 3 bG (ab (ae 0) (ab (ae 1) (ab (ai (ae 2) (eK (.int 1))) af))))))) (dB (b6 (aF bh (ae 3))) (aF ah (aw (cu true) (ai (ae 2) (eK (.int 1))) (eK .none))))) (aL (eK (.bool false))) aG)
  (aq (ay false 4 (ax .leaf 5 (dJ (ig (ae 1) (eK (.int 1)))) (aF bh (dO "tuple" (ae 5))) (ae 5)))
  (aq (bL (eL (b6 (aF bh (dO "list" (ai (ae 2) (eK (.int 2)))))) (aF ah (aw iC (bt aQ (ab (ai (ae 2) (eK (.int 2))) af)) (bt aQ (ab (ae 4) af))))) (aL (eK (.bool false))) aG)
  (aL (bt (da false) (ab (ax .leaf 6 (eO (ab (bt aQ (ab (ae 4) af)) af)) aK (ag 3 r__law_right (ab (ae 0) (ab (ai (ae 4) (ae 6)) (ab (ai (ai (ae 2) (eK (.int 2))) (ae 6)) af))))) af))))))))
noncomputable def cf:Nat->List JI->b4
 | 0=>fun _=>.no
 | n+1=>aI 7 (gW (cf n))
noncomputable def dw:List JI->b4:=cf 30
noncomputable def d_law:FS:=(aq (ay false 1 (ag 3 m__law_world (ab (ae 0) (ab (eK (.int 0)) (ab (eK (.int 6)) af)))))
  (aq (bL (aF ah (aw bD (aw bH (ag 2 az (ab (ae 0) (ab (eK (.int 23)) af))) (eK (.int 8))) (eK (.int 1)))) (ay false 1 (ag 1 cJ (ab (aw nu (ag 2 az (ab (ae 0) (ab (eK (.int 23)) af))) (eK (.int 8))) af))) aG)
  (aq (ay false 2 (ag 3 cA (ab (ae 0) (ab (eK (.int 8)) (ab (aw aR (eK (.int 1)) (aw bH (ag 2 az (ab (ae 0) (ab (eK (.int 7)) af))) (eK (.int 12)))) af)))))
  (aq (bL (aF ah (aw jw (ag 1 bU (ab (ae 2) af)) (eK (.int 30)))) (ay false 2 (bJ (ab (eK (.str "some until")) (ab (bJ (ab (eK (.str "mark")) (ab (eK (.str "a")) af))) (ab (bJ (ab (eK (.str "all always")) (ab (bJ (ab (eK (.str "not")) (ab (bJ (ab (eK (.str "mark")) (ab (eK (.str "b")) af))) af))) af))) af))))) aG)
  (aq (ay false 3 (ag 1 d5 (ab (ae 1) af)))
  (aq (dW 4 (eO (ab (eK (.int 2)) af))
  (oE 5 3 2 (eL (b6 (aF bh (ag 3 dw (ab (ae 1) (ab (ae 2) (ab (ae 5) af)))))) (eL (aF ah (aw (uQ true) (ag 3 eR (ab (ae 3) (ab (ae 2) (ab (ae 5) af)))) (eK (.bool true)))) (aF ah (aw iC (ae 3) (ae 1)))))))
  (aL (eK (.bool true)))))))))
noncomputable def m_law:List JI->b4:=aI 6 d_law
open PySem.SeqAt
theorem D4 {fa fb:F1} {Γ:Ev}:xF fa fb Γ=(fa Γ).bind fun p Γ=>match p.d with | .bool true=>.ok ⟨.leaf,.bool true⟩ Γ | .bool false=>fb Γ | _=>.no:=rfl
theorem xn (a:Wr):bK false (.str a.t) (.tuple [.str "all until",.str "some always"])=some (.bool (decide (a=.au\/a=.sa))):=by cases a<;>kernel_rfl
theorem qv (u:Wr):gP false (.str "until") (.str u.t)=some (.bool (decide (u=.su\/u=.au))):=by cases u<;>kernel_rfl
theorem xo (u:Wr):gP false (.str "always") (.str u.t)=some (.bool (decide (u=.sa\/u=.aa))):=by cases u<;>kernel_rfl
noncomputable abbrev GR (w:Wd) (a:Wr) (rk:List (Option Nat)) (r:Nat) (st go:Bool) (x6 x7 x8:Option PV):Ev:=[JJ w.enc,JJ (.str a.t),JJ (cU rk),JJ (rm r),JJ (.bool st),JJ (.bool go),x6,x7,x8,none]
noncomputable def eX (w:Wd) (rk:List (Option Nat)) (r:Nat):List Nat:=(w.stp r).filter fun t=>(aX rk t).isSome
noncomputable def AR (a b:Option Nat):Bool:=match a,b with
 | some i,some j=>decide (i<j)
 | _,_=>false
noncomputable def less (w:Wd) (rk:List (Option Nat)) (r:Nat):List Nat:=(eX w rk r).filter fun t=>AR (aX rk t) (aX rk r)
theorem DA {l:List Nat}:bD (aA l) (.list [])=some (.bool (decide (l=[]))):=by
 have:=FC (a:=l) (b:=[])
 exact this
theorem Dn {l:List Nat}:iC (aA l) (.list [])=some (.bool (!decide (l=[]))):=by
 have h:=FC (a:=l) (b:=[])
 have h2:shaped (aA l)=true:=tu
 have h3:shaped (aA [])=true:=tu
 unfold bD at h;rw [h2,h3] at h;show iC (aA l) (aA [])=_
 unfold iC;rw [h2,h3];simp only [Bool.and_self,if_true,Option.some.injEq,PyData.bool.injEq] at h ⊢
 rw [h]
section
variable {w:Wd} (ok:w.Ok) {a:Wr} {rk:List (Option Nat)} {r:Nat} (hl:rk.length=w.n) (hr:r<w.n) {st go:Bool}
include ok hl hr
theorem wb {x6:Option PV}:ay false 7 (ax .leaf 9 (aS (ai (ai (ae 0) (eK (.int 2))) (ae 3))) (aF ah (aw (cu true) (ai (ae 2) (ae 9)) (eK .none))) (ae 9)) (GR w a rk r st go x6 none none)=.nx (GR w a rk r st go x6 (JJ (aA (eX w rk r))) none):=by
 have a2:=ok.at2 hr
 have c:=sq rm (w.stp r) (fun t=>(aX rk t).isSome) (fun t=>⟨.leaf,rm t⟩) (s:=.leaf) (i:=9) (fi:=aS (ai (ai (ae 0) (eK (.int 2))) (ae 3))) (fc:=aF ah (aw (cu true) (ai (ae 2) (ae 9)) (eK .none))) (fe:=ae 9) (st:=true) (Γ:=GR w a rk r st go x6 none none) (by simp [Wd.enc,a2]) (by simp) rfl (zf ok) (fun t ht=>by
  have a3:=eN (rk:=rk) (t:=t) (by rw [hl];exact ok.stp_lt ht)
  simp [a3,js]) (fun t _ _=>⟨aC rfl,rfl⟩)
 exact dq c rfl (by simp)
theorem wa {x6:Option PV} (hk:(aX rk r).isSome=true):ay false 8 (ax .leaf 9 (aS (ae 7)) (aF ah (aw jv (ai (ae 2) (ae 9)) (ai (ae 2) (ae 3)))) (ae 9)) (GR w a rk r st go x6 (JJ (aA (eX w rk r))) none)=.nx (GR w a rk r st go x6 (JJ (aA (eX w rk r))) (JJ (aA (less w rk r)))):=by
 have a1:=eN (rk:=rk) (t:=r) (by omega)
 have c:=sq rm (eX w rk r) (fun t=>AR (aX rk t) (aX rk r)) (fun t=>⟨.leaf,rm t⟩) (s:=.leaf) (i:=9) (fi:=aS (ae 7)) (fc:=aF ah (aw jv (ai (ae 2) (ae 9)) (ai (ae 2) (ae 3)))) (fe:=ae 9) (st:=true) (Γ:=GR w a rk r st go x6 (JJ (aA (eX w rk r))) none) (dD (s:=.leaf) (aC rfl) rfl) (by simp) rfl (Nat.le_trans (length_filter_le _ _) (zf ok)) (fun t ht=>by
  obtain ⟨t1,t2⟩:=List.mem_filter.mp ht;have a3:=eN (rk:=rk) (t:=t) (by rw [hl];exact ok.stp_lt t1)
  obtain ⟨i,ei⟩:=Option.isSome_iff_exists.mp t2;obtain ⟨k,ek⟩:=Option.isSome_iff_exists.mp hk;rw [ei] at a3;rw [ek] at a1;have:AR (aX rk t) (aX rk r)=decide ((i:Int)<(k:Int)):=by rw [ei,ek];simp [AR]
  rw [this];simp [a1,a3,oD]) (fun t _ _=>⟨aC rfl,rfl⟩)
 exact dq c rfl (by simp)
end
theorem filt_all {l:List Nat} {p:Nat->Bool}:(l.filter p).length=l.length↔∀t∈l,p t=true:=List.length_filter_eq_length_iff
theorem Bw {w:Wd} (ok:w.Ok) {a:Wr} (ha:(a=.su\/a=.au)\/(a=.sa\/a=.aa)) {thr goal:List Nat} {rk:List (Option Nat)} (R:Right w a.some thr goal rk) {r:Nat} (hr:r<w.n):bz [w.enc,.str a.t,cU rk,rm r,.bool (decide (r∈thr)),.bool (decide (r∈goal))]=.ok ⟨.leaf,.bool true⟩:=by
 have hl:=R.len
 have a1:=eN (rk:=rk) (t:=r) (by omega)
 have a2:=ok.at2 hr
 have eE:decide (a=.au\/a=.sa)=!a.some:=by rcases ha with (rfl | rfl) | (rfl | rfl)<;>rfl
 refine aV ?_
 refine aB (Γ1:=GR w a rk r (decide (r∈thr)) (decide (r∈goal)) (JJ (.bool (!a.some))) none none) (dq (aN (aC rfl) (dm (aD aW (aD aW ao)) rfl rfl) ((xn a).trans (by rw [eE]))) rfl (by simp [ak])) ?_
 refine aB (wb ok hl hr) ?_
 cases ek:aX rk r with
 | none=>
  rw [ek] at a1;obtain ⟨ng,nz⟩:=R.z r hr ek;refine vn (bq (Γ1:=GR w a rk r (decide (r∈thr)) (decide (r∈goal)) (JJ (.bool (!a.some))) (JJ (aA (eX w rk r))) none) (t:=true) (by simp [a1,oD,bP]) (fun _=>?_) nofun)
  refine aB (bq (Γ1:=GR w a rk r (decide (r∈thr)) (decide (r∈goal)) (JJ (.bool (!a.some))) (JJ (aA (eX w rk r))) none) (t:=false) (by simp [ng]) nofun fun _=>rfl) ?_
  by_cases ht:r∈thr
  ·have nl:¬led a.some (w.stp r) fun t=>aX rk t≠none:=nz.resolve_left fun z=>z ht
   cases es:a.some with
   | true=>
    rw [es,led_t] at nl;have e0:eX w rk r=[]:=List.filter_eq_nil_iff.mpr fun t h1 h2=>nl ⟨t,h1,fun z=>by rw [z] at h2;cases h2⟩
    have:=DA (l:=eX w rk r)
    rw [e0] at this ⊢;simp [ht,this,D4]
   | false=>
    rw [es,led_f] at nl;have lt:(eX w rk r).length<(w.stp r).length:=by
     refine Nat.lt_of_le_of_ne (length_filter_le _ _) fun z=>nl fun t ht2 z2=>?_
     have:=filt_all.mp z t ht2
     rw [z2] at this
     cases this
    have lt':((eX w rk r).length:Int)<((w.stp r).length:Int):=by omega
    simp [ht,Wd.enc,a2,aA,lt',D4]
  ·simp [ht,D4]
 | some k=>
  rw [ek] at a1;refine aB (bq (Γ1:=GR w a rk r (decide (r∈thr)) (decide (r∈goal)) (JJ (.bool (!a.some))) (JJ (aA (eX w rk r))) none) (t:=false) (by simp [a1,oD,bP]) nofun fun _=>rfl) ?_
  by_cases hg:r∈goal
  ·have:=R.g r hr hg
   rw [ek] at this
   cases this;refine vn (bq (Γ1:=GR w a rk r (decide (r∈thr)) (decide (r∈goal)) (JJ (.bool (!a.some))) (JJ (aA (eX w rk r))) none) (t:=true) (by simp [hg]) (fun _=>?_) nofun)
   simp [hg,a1,oD,eq_int]
  ·obtain ⟨kp,ht,hled⟩:=R.p r k hr hg ek
   have k0:((k:Int)==0)=false:=by
    have:¬((k:Int)=0):=by omega
    simpa using this
   refine aB (bq (Γ1:=GR w a rk r (decide (r∈thr)) (decide (r∈goal)) (JJ (.bool (!a.some))) (JJ (aA (eX w rk r))) none) (t:=false) (by simp [hg,a1,oD,eq_int,k0]) nofun fun _=>rfl) ?_
   refine aB (wa ok hl hr (by rw [ek];rfl)) ?_
   have mem:∀t,t∈less w rk r↔t∈w.stp r/\∃j,aX rk t=some j/\j<k:=fun t=>by
    unfold less eX;rw [mem_filter,mem_filter,ek];constructor
    ·rintro ⟨⟨h1,h2⟩,h3⟩
     obtain ⟨j,ej⟩:=Option.isSome_iff_exists.mp h2;rw [ej] at h3;exact ⟨h1,j,ej,by simpa [AR] using h3⟩
    ·rintro ⟨h1,j,ej,hj⟩
     exact ⟨⟨h1,by rw [ej];rfl⟩,by rw [ej];simpa [AR] using hj⟩
   cases es:a.some with
   | true=>
    rw [es,led_t] at hled;obtain ⟨t,t1,t2⟩:=hled;have ne:less w rk r≠[]:=fun z=>by
     have:=(mem t).mpr ⟨t1,t2⟩
     rw [z] at this
     cases this
    simp [ht,Dn,ne]
   | false=>
    rw [es,led_f] at hled;have eq:(less w rk r).length=(w.stp r).length:=by
     have e1:eX w rk r=w.stp r:=List.filter_eq_self.mpr fun t h1=>by obtain ⟨j,ej,_⟩:=hled t h1;rw [ej];rfl
     unfold less;rw [e1];refine filt_all.mpr fun t h1=>?_
     obtain ⟨j,ej,hj⟩:=hled t h1;rw [ej,ek];simpa [AR] using hj
    have eq':(((less w rk r).length:Int)==((w.stp r).length:Int))=true:=by rw [eq];simp
    simp [ht,Wd.enc,a2,aA,eq_int,eq']
noncomputable abbrev GQ (w:Wd) (s:Sn) (rk:List (Option Nat)) (one:List Nat) (x4 x5 x6 x7:Option PV):Ev:=[JJ w.enc,JJ s.enc,JJ (cU rk),JJ (aA one),x4,x5,x6,x7]
noncomputable abbrev HV:FS:=bL (dB (aF ah (aw (cu true) (ai (ae 2) (ae 4)) (eK .none))) (eL (b6 (aF bh (ag 1 cg (ab (ai (ae 2) (ae 4)) af)))) (aF ah (aw jv (ai (ae 2) (ae 4)) (eK (.int 0)))))) (aL (eK (.bool false))) aG
noncomputable abbrev HU:FS:=(aq (ay false 6 (aw (bK false) (ae 4) (ae 3)))
  (aq (ay false 7 (eK (.bool false)))
  (aq (bL (aF ah (aw (gP false) (eK (.str "until")) (ai (ae 1) (eK (.int 0))))) (ay false 7 (aw (bK false) (ae 4) (ae 5))) (aq (ay false 7 (jy (ae 6)))
  (ay false 6 (eK (.bool true)))))
  (bL (b6 (aF bh (ag 6 bz (ab (ae 0) (ab (ai (ae 1) (eK (.int 0))) (ab (ae 2) (ab (ae 4) (ab (ae 6) (ab (ae 7) af))))))))) (aL (eK (.bool false))) aG))))
section
variable {w:Wd} (ok:w.Ok) {s:Sn} {rk:List (Option Nat)} {one:List Nat} (hl:rk.length=w.n)
include ok hl
theorem wH {r:Nat} (hr:r<w.n) {x5 x6 x7:Option PV}:HV (GQ w s rk one (JJ (rm r)) x5 x6 x7)=.nx (GQ w s rk one (JJ (rm r)) x5 x6 x7):=by
 have a1:=eN (rk:=rk) (t:=r) (by omega)
 cases ek:aX rk r with
 | none=>
  rw [ek] at a1;exact bq (Γ1:=GQ w s rk one (JJ (rm r)) x5 x6 x7) (t:=false) (by simp [a1,oD,bP]) nofun fun _=>rfl
 | some k=>
  rw [ek] at a1;have nk:¬((k:Int)<0):=by omega
  have wh:=kC (z:=(k:Int))
  exact bq (Γ1:=GQ w s rk one (JJ (rm r)) x5 x6 x7) (t:=false) (by simp [a1,oD,bP,wh,nk]) nofun fun _=>rfl
end
theorem qc {n:Nat}:cc 0 n=(List.range n).map rm:=by
 unfold cc;apply List.map_congr_left
 intro k _;simp [rm]
theorem Fe {s:Sn} {Γ:Ev} (h:Γ[1]?=some (JJ s.enc)):ai (ae 1) (eK (.int 0)) Γ=.ok ⟨.leaf,.str s.w.t⟩ Γ:=Ed h
theorem Bx {w:Wd} (ok:w.Ok) {s:Sn} (hs:s.ok) (hd:s.dep<=20) (ht:(s.w=.su\/s.w=.au)\/(s.w=.sa\/s.w=.aa)) {rk:List (Option Nat)} (hR:gx w s (cU rk)):bG [w.enc,s.enc,cU rk]=.ok ⟨.leaf,.bool true⟩:=by
 obtain ⟨a,ends,thr,goal,ha,i1,hRt,hthr,hgoal,hend⟩:∃(a:Sn) (ends:List Nat) (thr goal:List Nat),a∈s.args/\(∀Γ:Ev,Γ[1]?=some (JJ s.enc)->ai (ae 1) (eK (.int 1)) Γ=.ok ⟨.leaf,a.enc⟩ Γ)/\Right w s.w.some thr goal rk /\
   (∀r,r<w.n->decide (r∈thr)=(if decide (s.w=.su\/s.w=.au) then (aJ w a).contains r else true))/\(∀r,r<w.n->decide (r∈goal)=(if decide (s.w=.su\/s.w=.au) then ends.contains r else !(aJ w a).contains r)) /\
   ((s.w=.su\/s.w=.au)->∃b∈s.args,ends=aJ w b/\∀Γ:Ev,Γ[1]?=some (JJ s.enc)->ai (ae 1) (eK (.int 2)) Γ=.ok ⟨.leaf,b.enc⟩ Γ):=by
  have rkinj:∀{rk':List (Option Nat)},cU rk=cU rk'->rk=rk':=fun {rk'} h=>by
   have h:rk.map oD=rk'.map oD:=by injection h
   have inj:∀x y:Option Nat,oD x=oD y->x=y:=fun x y e=>by
    cases x<;>cases y<;>simp [oD] at e ⊢
    omega
   exact List.map_inj_right (f:=oD) (fun x y e=>inj x y e) |>.mp h
  have mr:∀(c:Sn) (r:Nat),r<w.n->(decide (r∈List.range w.n))=true:=fun c r h=>by simp [h]
  have mf:∀(c:Sn) (r:Nat),r<w.n->decide (r∈(List.range w.n).filter fun t=>!(aJ w c).contains t)=!(aJ w c).contains r:=fun c r h=>by
   rw [Bool.eq_iff_iff,decide_eq_true_eq,mem_filter];simp [h]
  have mc:∀(l:List Nat) (r:Nat),decide (r∈l)=l.contains r:=fun l r=>by rw [Bool.eq_iff_iff,decide_eq_true_eq,contains_iff_mem]
  cases s with
  | yes=>simp [Sn.w] at ht
  | mk c=>simp [Sn.w] at ht
  | un k a=>
   have e1:∀Γ:Ev,Γ[1]?=some (JJ ((Sn.un k a).enc))->ai (ae 1) (eK (.int 1)) Γ=.ok ⟨.leaf,a.enc⟩ Γ:=fun Γ h=>hJ (s:=.leaf) (s2:=.leaf) (j:=1) (aC h) aW (sA (k:=1) (by simp)) rfl rfl
   cases k with
   | sa=>
    obtain ⟨rk',e,R⟩:=hR;rw [<-rkinj e] at R;exact ⟨a,[],_,_,mem_cons_self,e1,R,fun r hr=>mr a r hr,fun r hr=>mf a r hr,fun z=>by simp [Sn.w,U5.w] at z⟩
   | aa=>
    obtain ⟨rk',e,R⟩:=hR;rw [<-rkinj e] at R;exact ⟨a,[],_,_,mem_cons_self,e1,R,fun r hr=>mr a r hr,fun r hr=>mf a r hr,fun z=>by simp [Sn.w,U5.w] at z⟩
   | not=>simp [Sn.w,U5.w] at ht
   | sn=>simp [Sn.w,U5.w] at ht
   | an=>simp [Sn.w,U5.w] at ht
  | bi k a b=>
   have e1:∀Γ:Ev,Γ[1]?=some (JJ ((Sn.bi k a b).enc))->ai (ae 1) (eK (.int 1)) Γ=.ok ⟨.leaf,a.enc⟩ Γ:=fun Γ h=>hJ (s:=.leaf) (s2:=.leaf) (j:=1) (aC h) aW (sA (k:=1) (by simp)) rfl rfl
   have e2:∀Γ:Ev,Γ[1]?=some (JJ ((Sn.bi k a b).enc))->ai (ae 1) (eK (.int 2)) Γ=.ok ⟨.leaf,b.enc⟩ Γ:=fun Γ h=>hJ (s:=.leaf) (s2:=.leaf) (j:=2) (aC h) aW (sA (k:=2) (by simp)) rfl rfl
   cases k with
   | su=>
    obtain ⟨rk',e,R⟩:=hR;rw [<-rkinj e] at R;exact ⟨a,aJ w b,_,_,mem_cons_self,e1,R,fun r hr=>mc _ r,fun r hr=>mc _ r,fun _=>⟨b,JB _ mem_cons_self,rfl,e2⟩⟩
   | au=>
    obtain ⟨rk',e,R⟩:=hR;rw [<-rkinj e] at R;exact ⟨a,aJ w b,_,_,mem_cons_self,e1,R,fun r hr=>mc _ r,fun r hr=>mc _ r,fun _=>⟨b,JB _ mem_cons_self,rfl,e2⟩⟩
   | and=>simp [Sn.w,B4.w] at ht
   | or=>simp [Sn.w,B4.w] at ht
 have hl:=hRt.len
 have n24:=ok.h24
 have hda:=Cm ha
 obtain ⟨sj,vj,ej⟩:=B3 ok 20 a (Sn.args_ok hs a ha) (by omega)
 have lo:=ok.g.lo
 refine aV ?_
 refine aB (Γ1:=GQ w s rk (aJ w a) none none none none) (dq (cG (aD (aC rfl) (aD (i1 _ rfl) ao)) ej rfl rfl) (BV vj) (by simp [ak])) ?_
 have rl:(cU rk)=.list (rk.map oD):=rfl
 have len0:bt aQ (ab (ae 2) af) (GQ w s rk (aJ w a) none none none none)=.ok ⟨.leaf,.int (w.n:Int)⟩ (GQ w s rk (aJ w a) none none none none):=b7 (g:=aQ) (aD (aC rfl) ao) (by simp [rl,hl])
 have len1:bt aQ (ab (ai (ae 0) (eK (.int 0))) af) (GQ w s rk (aJ w a) none none none none)=.ok ⟨.leaf,.int (w.n:Int)⟩ (GQ w s rk (aJ w a) none none none none):=by simp [Wd.enc,lo]
 refine aB (bq (t:=false) (dS (a:=false) (b:=false) (dU (b:=true) (dg (kn (aC rfl) rfl))) (eB (aN len0 len1 (by rw [ne_int];simp)))) nofun fun _=>rfl) ?_
 have loop1:∃x4,cE 4 HV ((List.range w.n).map rm) (GQ w s rk (aJ w a) none none none none)=.nx (GQ w s rk (aJ w a) x4 none none none):=by
  obtain ⟨Γ',e,⟨x4,hx⟩,_⟩:=zg rm (i:=4) (body:=HV) (Inv:=fun l Γ=>(∃x4,Γ=GQ w s rk (aJ w a) x4 none none none)/\∀r∈l,r<w.n) (fun r l Γ hI=>by
   obtain ⟨⟨x4,rfl⟩,hm⟩:=hI;exact ⟨by simp,_,wH ok hl (hm r mem_cons_self),⟨_,rfl⟩,fun t ht=>hm t (JB _ ht)⟩) (List.range w.n) (GQ w s rk (aJ w a) none none none none) ⟨⟨none,rfl⟩,fun r hr=>List.mem_range.mp hr⟩
  exact ⟨x4,by rw [e,hx]⟩
 obtain ⟨x4,lp1⟩:=loop1;have lenX:∀{x4 x5 x6 x7:Option PV},bt aQ (ab (ae 2) af) (GQ w s rk (aJ w a) x4 x5 x6 x7)=.ok ⟨.leaf,.int (w.n:Int)⟩ (GQ w s rk (aJ w a) x4 x5 x6 x7):=fun {_ _ _ _}=>b7 (g:=aQ) (aD (aC rfl) ao) (by simp [rl,hl])
 have itX:∀{x4 x5 x6 x7:Option PV},eO (ab (bt aQ (ab (ae 2) af)) af) (GQ w s rk (aJ w a) x4 x5 x6 x7)=.ok ⟨(List.range w.n).map rm,true⟩ (GQ w s rk (aJ w a) x4 x5 x6 x7):=fun {_ _ _ _}=>(iF (k:=(w.n:Int)) (ps:=[⟨.leaf,.int (w.n:Int)⟩]) (aD lenX ao) rfl (by omega) (by omega)).trans (by rw [Int.toNat_natCast,qc])
 refine aB (ff itX lp1) ?_
 refine aB (Γ1:=GQ w s rk (aJ w a) x4 (JJ (aA [])) none none) (dq (pN (s:=.leaf) ao rfl rfl rfl) rfl (by simp)) ?_
 have ut:∀{x4 x5 x6 x7:Option PV},aF ah (aw (gP false) (eK (.str "until")) (ai (ae 1) (eK (.int 0)))) (GQ w s rk (aJ w a) x4 x5 x6 x7)=.ok (decide (s.w=.su\/s.w=.au)) (GQ w s rk (aJ w a) x4 x5 x6 x7):=fun {_ _ _ _}=>eB (s:=.leaf) (aN aW (Fe rfl) (qv s.w))
 obtain ⟨en,hen,st5⟩:∃en:List Nat,((s.w=.su\/s.w=.au)->en=ends)/\bL (aF ah (aw (gP false) (eK (.str "until")) (ai (ae 1) (eK (.int 0))))) (ay false 5 (ag 2 cj (ab (ae 0) (ab (ai (ae 1) (eK (.int 2))) af)))) aG (GQ w s rk (aJ w a) x4 (JJ (aA [])) none none)=.nx (GQ w s rk (aJ w a) x4 (JJ (aA en)) none none):=by
  by_cases hu:s.w=.su\/s.w=.au
  ·obtain ⟨b,hb,eb,i2⟩:=hend hu
   have hdb:=Cm hb
   obtain ⟨sb,vb,ejb⟩:=B3 ok 20 b (Sn.args_ok hs b hb) (by omega)
   refine ⟨ends,fun _=>rfl,bq ut (fun _=>?_) fun z=>?_⟩
   ·rw [eb]
    exact dq (cG (aD (aC rfl) (aD (i2 _ rfl) ao)) ejb rfl rfl) (BV vb) (by simp)
   ·exact absurd hu (of_decide_eq_false z)
  ·exact ⟨[],fun z=>absurd z hu,bq ut (fun z=>absurd (of_decide_eq_true z) hu) fun _=>rfl⟩
 refine aB st5 ?_
 have turn:∀r,r<w.n->∀x6 x7,∃y6 y7,HU (GQ w s rk (aJ w a) (JJ (rm r)) (JJ (aA en)) x6 x7)=.nx (GQ w s rk (aJ w a) (JJ (rm r)) (JJ (aA en)) y6 y7):=by
  intro r hr x6 x7;have rr:=Bw ok ht hRt hr
  rw [hthr r hr,hgoal r hr] at rr;have s6:ay false 6 (aw (bK false) (ae 4) (ae 3)) (GQ w s rk (aJ w a) (JJ (rm r)) (JJ (aA en)) x6 x7)=.nx (GQ w s rk (aJ w a) (JJ (rm r)) (JJ (aA en)) (JJ (.bool ((aJ w a).contains r))) x7):=dq (aN (aC rfl) (aC rfl) sy) rfl (by simp)
  have s7:ay false 7 (eK (.bool false)) (GQ w s rk (aJ w a) (JJ (rm r)) (JJ (aA en)) (JJ (.bool ((aJ w a).contains r))) x7)=.nx (GQ w s rk (aJ w a) (JJ (rm r)) (JJ (aA en)) (JJ (.bool ((aJ w a).contains r))) (JJ (.bool false))):=dq aW rfl (by simp)
  have fin:∀(p q:Bool),bz [w.enc,.str s.w.t,cU rk,rm r,.bool p,.bool q]=.ok ⟨.leaf,.bool true⟩->bL (b6 (aF bh (ag 6 bz (ab (ae 0) (ab (ai (ae 1) (eK (.int 0))) (ab (ae 2) (ab (ae 4) (ab (ae 6) (ab (ae 7) af))))))))) (aL (eK (.bool false))) aG (GQ w s rk (aJ w a) (JJ (rm r)) (JJ (aA en)) (JJ (.bool p)) (JJ (.bool q)))=.nx (GQ w s rk (aJ w a) (JJ (rm r)) (JJ (aA en)) (JJ (.bool p)) (JJ (.bool q))):=fun p q h=>
   bq (t:=false) (dU (b:=true) (dg (cG (aD (aC rfl) (aD (Fe rfl) (aD (aC rfl) (aD (aC rfl) (aD (aC rfl) (aD (aC rfl) ao)))))) h rfl rfl))) nofun fun _=>rfl
  by_cases hu:s.w=.su\/s.w=.au
  ·rw [decide_eq_true hu,if_pos rfl,if_pos rfl,<-hen hu] at rr
   exact ⟨_,_,aB s6 (aB s7 (aB (Γ1:=GQ w s rk (aJ w a) (JJ (rm r)) (JJ (aA en)) (JJ (.bool ((aJ w a).contains r))) (JJ (.bool (en.contains r)))) (bq ut (fun _=>dq (aN (aC rfl) (aC rfl) sy) rfl (by simp)) fun z=>absurd hu (of_decide_eq_false z)) (fin _ _ rr)))⟩
  ·rw [decide_eq_false hu,if_neg Bool.false_ne_true,if_neg Bool.false_ne_true] at rr
   refine ⟨_,_,aB s6 (aB s7 (aB (Γ1:=GQ w s rk (aJ w a) (JJ (rm r)) (JJ (aA en)) (JJ (.bool true)) (JJ (.bool (!(aJ w a).contains r)))) (bq ut (fun z=>absurd (of_decide_eq_true z) hu) fun _=>aB (Γ1:=GQ w s rk (aJ w a) (JJ (rm r)) (JJ (aA en)) (JJ (.bool ((aJ w a).contains r))) (JJ (.bool (!(aJ w a).contains r)))) (by simp) (dq aW rfl (by simp))) (fin _ _ rr)))⟩
 have loop2:∃y4 y6 y7,cE 4 HU ((List.range w.n).map rm) (GQ w s rk (aJ w a) x4 (JJ (aA en)) none none)=.nx (GQ w s rk (aJ w a) y4 (JJ (aA en)) y6 y7):=by
  obtain ⟨Γ',e,⟨y4,y6,y7,hx⟩,_⟩:=zg rm (i:=4) (body:=HU) (Inv:=fun l Γ=>(∃y4 y6 y7,Γ=GQ w s rk (aJ w a) y4 (JJ (aA en)) y6 y7)/\∀r∈l,r<w.n) (fun r l Γ hI=>by
   obtain ⟨⟨y4,y6,y7,rfl⟩,hm⟩:=hI;obtain ⟨z6,z7,e⟩:=turn r (hm r mem_cons_self) y6 y7;exact ⟨by simp,_,e,⟨_,_,_,rfl⟩,fun t ht=>hm t (JB _ ht)⟩) (List.range w.n) (GQ w s rk (aJ w a) x4 (JJ (aA en)) none none) ⟨⟨x4,none,none,rfl⟩,fun r hr=>List.mem_range.mp hr⟩
  exact ⟨y4,y6,y7,by rw [e,hx]⟩
 obtain ⟨y4,y6,y7,lp2⟩:=loop2;exact aB (ff itX lp2) (bj aW rfl)
theorem qE {w:Wd} (ok:w.Ok) {s:Sn} {rk:List (Option Nat)} (h:(s.w=.su\/s.w=.au)\/(s.w=.sa\/s.w=.aa)) (hl:rk.length=w.n) (hr:gx w s (cU rk)):aT [w.enc,s.enc,eP (s.args.map (aJ w)),cU rk]=.ok ⟨.leaf,.bool true⟩:=by
 obtain ⟨b,e,hb⟩:=vf ok h hl;rw [e,hb.mpr hr]
theorem xX {w:Wd} (ok:w.Ok) {s:Sn} {R:D} (h:gx w s R):aT [w.enc,s.enc,eP (s.args.map (aJ w)),R]=.ok ⟨.leaf,.bool true⟩:=by
 cases s with
 | yes=>cases (show R=.none from h);exact yf (by simp [Sn.w]) (by simp [Sn.w])
 | mk c=>cases (show R=.none from h);exact yf (by simp [Sn.w]) (by simp [Sn.w])
 | un k a=>
  cases k with
  | not=>cases (show R=.none from h);exact yf (by simp [Sn.w,U5.w]) (by simp [Sn.w,U5.w])
  | sn=>cases (show R=.none from h);exact yf (by simp [Sn.w,U5.w]) (by simp [Sn.w,U5.w])
  | an=>cases (show R=.none from h);exact yf (by simp [Sn.w,U5.w]) (by simp [Sn.w,U5.w])
  | sa=>obtain ⟨rk,rfl,hR⟩:=h;exact qE ok (.inr (.inl rfl)) hR.len ⟨rk,rfl,hR⟩
  | aa=>obtain ⟨rk,rfl,hR⟩:=h;exact qE ok (.inr (.inr rfl)) hR.len ⟨rk,rfl,hR⟩
 | bi k a b=>
  cases k with
  | and=>cases (show R=.none from h);exact yf (by simp [Sn.w,B4.w]) (by simp [Sn.w,B4.w])
  | or=>cases (show R=.none from h);exact yf (by simp [Sn.w,B4.w]) (by simp [Sn.w,B4.w])
  | su=>obtain ⟨rk,rfl,hR⟩:=h;exact qE ok (.inl (.inl rfl)) hR.len ⟨rk,rfl,hR⟩
  | au=>obtain ⟨rk,rfl,hR⟩:=h;exact qE ok (.inl (.inr rfl)) hR.len ⟨rk,rfl,hR⟩
theorem tF {w:Wd} {s:Sn} {R:D} (h:gx w s R) (ht:(s.w=.su\/s.w=.au)\/(s.w=.sa\/s.w=.aa)):∃rk,R=cU rk:=by
 rcases yB h with e | ⟨rk,e,_⟩
 ·exfalso
  subst e
  cases s with
  | yes=>simp [Sn.w] at ht
  | mk c=>simp [Sn.w] at ht
  | un k a=>cases k<;>first | (simp [Sn.w,U5.w] at ht;done) | (obtain ⟨rk,e,_⟩:=h;cases e)
  | bi k a b=>cases k<;>first | (simp [Sn.w,B4.w] at ht;done) | (obtain ⟨rk,e,_⟩:=h;cases e)
 ·exact ⟨rk,e⟩
theorem zE {w:Wd} {s:Sn} {R:D} (h:gx w s R) (ht:¬((s.w=.su\/s.w=.au)\/(s.w=.sa\/s.w=.aa))):R=.none:=by
 cases s with
 | yes=>exact h
 | mk c=>exact h
 | un k a=>cases k<;>first | exact h | exact absurd (by simp [Sn.w,U5.w]) ht
 | bi k a b=>cases k<;>first | exact h | exact absurd (by simp [Sn.w,B4.w]) ht
noncomputable abbrev GH (w:Wd) (s:Sn) (R:D) (bs:List D) (x3 x4:Option PV):Ev:=[JJ w.enc,JJ s.enc,JJ (.tuple [aA (aJ w s),R,.list bs]),x3,x4,none,none]
theorem sP {w:Wd} {s:Sn} {R:D} {bs:List D} {x3:Option PV}:ay false 4 (ax .leaf 5 (dJ (ig (ae 1) (eK (.int 1)))) (aF bh (dO "tuple" (ae 5))) (ae 5)) (GH w s R bs x3 none)=.nx (GH w s R bs x3 (JJ (.list (s.args.map Sn.enc)))):=by
 have gen:(∃x,s.enc=.tuple (x::s.args.map Sn.enc))->ay false 4 (ax .leaf 5 (dJ (ig (ae 1) (eK (.int 1)))) (aF bh (dO "tuple" (ae 5))) (ae 5)) (GH w s R bs x3 none)=.nx (GH w s R bs x3 (JJ (.list (s.args.map Sn.enc)))):=fun ⟨x,ex⟩=>by
  have z:(1:Int)<=(s.args.length:Int)+1:=by omega
  have c:=sq Sn.enc s.args (fun _=>true) (fun a=>⟨.leaf,a.enc⟩) (s:=.leaf) (i:=5) (fi:=dJ (ig (ae 1) (eK (.int 1)))) (fc:=aF bh (dO "tuple" (ae 5))) (fe:=ae 5) (st:=true) (Γ:=GH w s R bs x3 none) (by simp [ex,z]) (by simp) rfl (by have:=s.args_le;omega) (fun a ha=>by simp [isT]) (fun a ha _=>⟨aC rfl,rfl⟩)
  rw [List.filter_eq_self.mpr fun _ _=>rfl] at c
  exact dq c rfl (by simp)
 cases s with
 | yes=>exact gen ⟨_,rfl⟩
 | un k a=>exact gen ⟨_,rfl⟩
 | bi k a b=>exact gen ⟨_,rfl⟩
 | mk d=>
  have c:=sq (fun x:Str=>PyData.str x) [d] (fun _=>false) (fun _=>⟨.leaf,.none⟩) (s:=.leaf) (i:=5) (fi:=dJ (ig (ae 1) (eK (.int 1)))) (fc:=aF bh (dO "tuple" (ae 5))) (fe:=ae 5) (st:=true) (Γ:=GH w (.mk d) R bs x3 none) (by simp [Sn.enc]) (by simp) rfl (by simp) (fun a ha=>by simp [iL,pU]) (fun a ha z=>by cases z)
  exact dq c rfl (by simp)
theorem jA {w:Wd} (ok:w.Ok):∀(n:Nat) (s:Sn) (P:D),s.ok->s.dep<=n->s.dep<=20->Pap w s P->cf n [w.enc,s.enc,P]=.ok ⟨.leaf,.bool true⟩
 | 0,s,_,_,h,_,_=>by have:=s.dep_args;omega
 | n+1,s,P,hs,h,h20,hP=>by
  cases hP with
  | @mk _ R bs hR hl hp=>
  show aI 7 (gW (cf n)) [w.enc,s.enc,.tuple [aA (aJ w s),R,.list bs]]=_
  obtain ⟨sj,vj,ej⟩:=B3 ok 20 s hs h20;have n24:=ok.h24
  have len:(aJ w s).length<=1000:=by
   have:(aJ w s).length<=w.n:=by
    unfold aJ;exact Nat.le_trans (length_filter_le _ _) (by simp)
   omega
  have al:=s.args_le
  have i0:∀{x3 x4 x5 x6:Option PV},ai (ae 2) (eK (.int 0)) [JJ w.enc,JJ s.enc,JJ (.tuple [aA (aJ w s),R,.list bs]),x3,x4,x5,x6]=.ok ⟨.leaf,aA (aJ w s)⟩ [JJ w.enc,JJ s.enc,JJ (.tuple [aA (aJ w s),R,.list bs]),x3,x4,x5,x6]:=fun {_ _ _ _}=>hJ (s:=.leaf) (s2:=.leaf) (j:=0) (aC rfl) aW (sA (k:=0) (by simp)) rfl rfl
  have i1:∀{x3 x4 x5 x6:Option PV},ai (ae 2) (eK (.int 1)) [JJ w.enc,JJ s.enc,JJ (.tuple [aA (aJ w s),R,.list bs]),x3,x4,x5,x6]=.ok ⟨.leaf,R⟩ [JJ w.enc,JJ s.enc,JJ (.tuple [aA (aJ w s),R,.list bs]),x3,x4,x5,x6]:=fun {_ _ _ _}=>hJ (s:=.leaf) (s2:=.leaf) (j:=1) (aC rfl) aW (sA (k:=1) (by simp)) rfl rfl
  have i2:∀{x3 x4 x5 x6:Option PV},ai (ae 2) (eK (.int 2)) [JJ w.enc,JJ s.enc,JJ (.tuple [aA (aJ w s),R,.list bs]),x3,x4,x5,x6]=.ok ⟨.leaf,.list bs⟩ [JJ w.enc,JJ s.enc,JJ (.tuple [aA (aJ w s),R,.list bs]),x3,x4,x5,x6]:=fun {_ _ _ _}=>hJ (s:=.leaf) (s2:=.leaf) (j:=2) (aC rfl) aW (sA (k:=2) (by simp)) rfl rfl
  refine aV ?_
  refine aB (Γ1:=GH w s R bs none none) (bq (t:=false) (dS (a:=false) (b:=false) (dU (b:=true) (dg (kn (aC rfl) rfl))) (dS (a:=false) (b:=false) (eB (aN (b7 (g:=aQ) (d:=.int 3) (aD (aC rfl) ao) rfl) aW (by rw [ne_int];rfl))) (dU (b:=true) (dg (cG (aD i0 (aD (cG (aD (aC rfl) (aD (aC rfl) ao)) ej rfl rfl) ao)) (u3 len) rfl (by simp [BV vj])))))) nofun fun _=>rfl) ?_
  have tm:xF (aw (gP false) (eK (.str "until")) (ai (ae 1) (eK (.int 0)))) (aw (gP false) (eK (.str "always")) (ai (ae 1) (eK (.int 0)))) (GH w s R bs none none)=.ok ⟨.leaf,.bool (decide ((s.w=.su\/s.w=.au)\/(s.w=.sa\/s.w=.aa)))⟩ (GH w s R bs none none):=by
   rw [D4,aN aW (Fe rfl) (qv s.w)];simp only [pM]
   by_cases hu:s.w=.su\/s.w=.au
   ·rw [decide_eq_true hu,decide_eq_true (.inl hu)]
   ·rw [decide_eq_false hu]
    simp only
    have e:decide ((s.w=.su\/s.w=.au)\/(s.w=.sa\/s.w=.aa))=decide (s.w=.sa\/s.w=.aa):=by simp [hu]
    rw [e];exact aN aW (Fe rfl) (xo s.w)
  refine aB (Γ1:=GH w s R bs (JJ (.bool (decide ((s.w=.su\/s.w=.au)\/(s.w=.sa\/s.w=.aa))))) none) (dq tm rfl (by simp)) ?_
  have chk:bL (eL (dB (aF bh (ae 3)) (b6 (aF bh (ag 3 bG (ab (ae 0) (ab (ae 1) (ab (ai (ae 2) (eK (.int 1))) af))))))) (dB (b6 (aF bh (ae 3))) (aF ah (aw (cu true) (ai (ae 2) (eK (.int 1))) (eK .none))))) (aL (eK (.bool false))) aG (GH w s R bs (JJ (.bool (decide ((s.w=.su\/s.w=.au)\/(s.w=.sa\/s.w=.aa))))) none)=.nx (GH w s R bs (JJ (.bool (decide ((s.w=.su\/s.w=.au)\/(s.w=.sa\/s.w=.aa))))) none):=by
   by_cases ht:(s.w=.su\/s.w=.au)\/(s.w=.sa\/s.w=.aa)
   ·obtain ⟨rk,rfl⟩:=tF hR ht
    have lr:=Bx ok hs h20 ht hR
    rw [decide_eq_true ht];refine bq (Γ1:=GH w s (cU rk) bs (JJ (.bool true)) none) (t:=false) ?_ nofun fun _=>rfl
    have c1:ag 3 bG (ab (ae 0) (ab (ae 1) (ab (ai (ae 2) (eK (.int 1))) af))) (GH w s (cU rk) bs (JJ (.bool true)) none)=.ok ⟨.leaf,.bool true⟩ (GH w s (cU rk) bs (JJ (.bool true)) none):=cG (aD (aC rfl) (aD (aC rfl) (aD i1 ao))) lr rfl rfl
    exact dS (a:=false) (b:=false) (qD (a:=true) (b:=false) (dg (aC rfl)) (dU (b:=true) (dg c1))) (by rw [tW,dU (b:=true) (dg (s:=.leaf) (aC rfl))];rfl)
   ·cases zE hR ht
    rw [decide_eq_false ht];refine bq (Γ1:=GH w s .none bs (JJ (.bool false)) none) (t:=false) ?_ nofun fun _=>rfl
    exact dS (a:=false) (b:=false) (by rw [tW,dg (b:=false) (s:=.leaf) (aC rfl)];rfl) (qD (a:=true) (b:=false) (dU (b:=false) (dg (aC rfl))) (eB (s:=.leaf) (aN i1 aW rfl)))
  refine aB chk (aB sP ?_)
  generalize (JJ (.bool (decide ((s.w=.su\/s.w=.au)\/(s.w=.sa\/s.w=.aa)))):Option PV)=x3
  refine aB (bq (Γ1:=GH w s R bs x3 (JJ (.list (s.args.map Sn.enc)))) (t:=false) (dS (a:=false) (b:=false) (dU (b:=true) (dg (kn i2 rfl))) (eB (aN (g:=iC) (b7 (g:=aQ) (d:=.int (bs.length:Int)) (aD i2 ao) (by simp)) (b7 (g:=aQ) (d:=.int (s.args.length:Int)) (aD (aC (d:=.list (s.args.map Sn.enc)) rfl) ao) (by simp)) (by rw [ne_int,hl];simp)))) nofun fun _=>rfl) ?_
  have c:=kP rm (List.range s.args.length) (fun _=>⟨.leaf,.bool true⟩) (s:=.leaf) (i:=6) (fi:=eO (ab (bt aQ (ab (ae 4) af)) af)) (fe:=ag 3 (cf n) (ab (ae 0) (ab (ai (ae 4) (ae 6)) (ab (ai (ai (ae 2) (eK (.int 2))) (ae 6)) af)))) (st:=true) (Γ:=GH w s R bs x3 (JJ (.list (s.args.map Sn.enc))))
   ((iF (k:=(s.args.length:Int)) (ps:=[⟨.leaf,.int (s.args.length:Int)⟩]) (aD (b7 (g:=aQ) (d:=.int (s.args.length:Int)) (aD (aC rfl) ao) (by simp)) ao) rfl (by omega) (by omega)).trans (by rw [Int.toNat_natCast,qc])) (by simp) rfl (by simp;omega) fun k hk=>by
    have hk:=List.mem_range.mp hk
    have hkb:k<bs.length:=by omega
    have ha:s.args[k]∈s.args:=getElem_mem hk
    have pk:=hp s.args[k] bs[k] (List.mem_iff_getElem?.mpr ⟨k,by rw [List.getElem?_zip_eq_some];exact ⟨Jz hk,Jz hkb⟩⟩)
    have dk:=Cm ha
    have ih:=jA ok n s.args[k] bs[k] (Sn.args_ok hs _ ha) (by omega) (by omega) pk
    exact ⟨cG (aD (aC rfl) (aD (yg (s:=.leaf) (s2:=.leaf) (j:=k) (aC rfl) (aC rfl) (sA (by simpa using hk)) (by rw [getElem?_map,Jz hk];rfl) rfl) (aD (yg (s:=.leaf) (s2:=.leaf) (j:=k) i2 (aC rfl) (sA hkb) (Jz hkb) rfl) ao))) ih rfl rfl,rfl⟩
  refine bj (b7 (aD c ao) ?_) rfl
  have:=yh (xs:=List.range s.args.length) (f:=fun _=>true)
  exact this.trans (by simp)
theorem rQ {w:Wd} (ok:w.Ok) {s:Sn} (hs:s.ok) (h1:s.size<=200) (h2:s.dep<=24) {P:D} (hP:Pap w s P):eR [w.enc,s.enc,P]=.ok ⟨.leaf,.bool true⟩:=by
 cases hP with
 | @mk _ R bs hR hl hp=>
  have q:=gR ok 30 s hs (by omega) (aJ w s) R bs true hl hp (xX ok hR) (fun _=>hR)
  rw [show (true&&decide (aJ w s=aJ w s))=true by simp] at q
  exact aV (aB (pO (cG (aD (aC rfl) ao) ok.check rfl rfl)) (aB (pO (cG (aD (aC rfl) ao) (dP hs h1 h2) rfl rfl)) (bj (cG (aD (aC rfl) (aD (aC rfl) (aD (aC rfl) ao))) q rfl rfl) rfl)))
noncomputable abbrev G6 (xs:List D) (w:Wd) (x2 x3 x4 x5:Option PV):Ev:=[JJ (.list xs),JJ w.enc,x2,x3,x4,x5]
noncomputable abbrev pC:FB:=eL (b6 (aF bh (ag 3 dw (ab (ae 1) (ab (ae 2) (ab (ae 5) af)))))) (eL (aF ah (aw (uQ true) (ag 3 eR (ab (ae 3) (ab (ae 2) (ab (ae 5) af)))) (eK (.bool true)))) (aF ah (aw iC (ae 3) (ae 1))))
theorem mS {xs:List D} {w:Wd} (ok:w.Ok) {s:Sn} (hs:s.ok) (h1:s.size<=200) (hd:s.dep<=20) {x4:Option PV}:oE 5 3 2 pC (G6 xs w (JJ s.enc) (JJ w.enc) x4 none)=.nx (G6 xs w (JJ s.enc) (JJ w.enc) x4 none):=by
 unfold oE;refine if_pos ⟨rfl,w,s,ok,hs,h1,by omega,rfl,rfl,fun P hP=>⟨G6 xs w (JJ s.enc) (JJ w.enc) x4 (JJ P),?_⟩⟩
 have lr:dw [w.enc,s.enc,P]=.ok ⟨.leaf,.bool true⟩:=jA ok 30 s P hs (by omega) hd hP
 exact dS (a:=false) (b:=false) (dU (b:=true) (dg (cG (aD (aC rfl) (aD (aC rfl) (aD (aC rfl) ao))) lr rfl rfl))) (dS (a:=false) (b:=false) (eB (s:=.leaf) (aN (cG (aD (aC rfl) (aD (aC rfl) (aD (aC rfl) ao))) (rQ ok hs h1 (by omega) hP) rfl rfl) aW rfl)) (eB (s:=.leaf) (aN (aC rfl) (aC rfl) (uz (v9 ok)))))
theorem sE {i:Nat} {body:FS} {d:D} {r:List D} {Γ Γ1:Ev} {o:fJ} (hi:i<Γ.length) (h:body (Γ.set i (JJ d))=.nx Γ1) (h2:cE i body r Γ1=o):cE i body (d::r) Γ=o:=by
 rw [cE,if_pos hi,h];exact h2
theorem xH {xs:List D} (hx:gu xs):m_law [.list xs]=.ok ⟨.leaf,.bool true⟩:=by
 obtain ⟨n,os,ms,ss,e1,hg,h1,hn⟩:=rN hx (at':=0) (lim:=6) (by omega) (by omega) (by omega)
 obtain ⟨w0,ok0,ew,en⟩:=yw hg h1 (by omega)
 rw [<-ew] at e1;obtain ⟨c7,e2⟩:=B1 hx (k:=7) (by omega)
 obtain ⟨c23,e3⟩:=B1 hx (k:=23) (by omega)
 obtain ⟨s0,es,os0,ds⟩:=lB hx (at':=8) (many:=1+c7 % 12) (by omega) (by omega) (by omega)
 have cell:∀{k c:Int} {w:Wd} {a b d e:Option PV},az [.list xs,.int k]=.ok ⟨.leaf,.int c⟩->ag 2 az (ab (ae 0) (ab (eK (.int k)) af)) (G6 xs w a b d e)=.ok ⟨.leaf,.int c⟩ (G6 xs w a b d e):=fun h=>cG (aD (aC rfl) (aD aW ao)) h rfl rfl
 refine aV (aB (Γ1:=G6 xs w0 none none none none) (dq (cG (aD (aC rfl) (aD aW (aD aW ao))) e1 rfl rfl) rfl (by simp [ak])) ?_)
 obtain ⟨w,ok,st1⟩:∃w:Wd,w.Ok/\bL (aF ah (aw bD (aw bH (ag 2 az (ab (ae 0) (ab (eK (.int 23)) af))) (eK (.int 8))) (eK (.int 1)))) (ay false 1 (ag 1 cJ (ab (aw nu (ag 2 az (ab (ae 0) (ab (eK (.int 23)) af))) (eK (.int 8))) af))) aG (G6 xs w0 none none none none)=.nx (G6 xs w none none none none):=by
  have t:aF ah (aw bD (aw bH (ag 2 az (ab (ae 0) (ab (eK (.int 23)) af))) (eK (.int 8))) (eK (.int 1))) (G6 xs w0 none none none none)=.ok (c23 % 8==1) (G6 xs w0 none none none none):=eB (s:=.leaf) (aN (aN (cell e3) aW (dG (by omega))) aW KC.eq_int)
  cases hc:(c23 % 8==1) with
  | false=>rw [hc] at t;exact ⟨w0,ok0,bq t nofun fun _=>rfl⟩
  | true=>
   rw [hc] at t;obtain ⟨o',m',s',eg,gg⟩:=rR (c:=c23 / 8)
   obtain ⟨v,okv,ev,_⟩:=yw gg (by omega) (by omega)
   rw [<-ev] at eg;exact ⟨v,okv,bq t (fun _=>dq (cG (aD (aN (cell e3) aW (uY (by omega) (by omega))) ao) eg rfl rfl) rfl (by simp)) nofun⟩
 refine aB st1 ?_
 refine aB (Γ1:=G6 xs w (JJ s0.enc) none none none) (dq (cG (aD (aC rfl) (aD aW (aD (aN aW (aN (cell e2) aW (dG (by omega))) pI) ao))) es rfl rfl) rfl (by simp)) ?_
 obtain ⟨s,hs,hsz,hsd,st2⟩:∃s:Sn,s.ok/\s.size<=200/\s.dep<=20/\bL (aF ah (aw jw (ag 1 bU (ab (ae 2) af)) (eK (.int 30)))) (ay false 2 (bJ (ab (eK (.str "some until")) (ab (bJ (ab (eK (.str "mark")) (ab (eK (.str "a")) af))) (ab (bJ (ab (eK (.str "all always")) (ab (bJ (ab (eK (.str "not")) (ab (bJ (ab (eK (.str "mark")) (ab (eK (.str "b")) af))) af))) af))) af))))) aG (G6 xs w (JJ s0.enc) none none none)=.nx (G6 xs w (JJ s.enc) none none none):=by
  have cs:bU [s0.enc]=_:=kD 20 s0 (by omega)
  have t:aF ah (aw jw (ag 1 bU (ab (ae 2) af)) (eK (.int 30))) (G6 xs w (JJ s0.enc) none none none)=.ok (decide ((30:Int)<(s0.size:Int))) (G6 xs w (JJ s0.enc) none none none):=eB (s:=.leaf) (aN (cG (aD (aC rfl) ao) cs rfl rfl) aW rfl)
  cases hb:decide ((30:Int)<(s0.size:Int)) with
  | false=>
   rw [hb] at t;have:=of_decide_eq_false hb
   exact ⟨s0,os0,by omega,by omega,bq t nofun fun _=>rfl⟩
  | true=>
   rw [hb] at t;refine ⟨.bi .su (.mk "a") (.un .aa (.un .not (.mk "b"))),⟨by show ("a":Str)∈fK;decide +kernel,by show ("b":Str)∈fK;decide +kernel⟩,by simp [Sn.size],by simp [Sn.dep],bq t (fun _=>dq (dm (aD aW (aD (dm (aD aW (aD aW ao)) rfl rfl) (aD (dm (aD aW (aD (dm (aD aW (aD (dm (aD aW (aD aW ao)) rfl rfl) ao)) rfl rfl) ao)) rfl rfl) ao))) rfl rfl) rfl (by simp)) nofun⟩
 refine aB st2 ?_
 refine aB (Γ1:=G6 xs w (JJ s.enc) (JJ w.enc) none none) (dq (cG (aD (aC rfl) ao) (rO ok) rfl rfl) rfl (by simp)) ?_
 exact aB (ff (iF (k:=2) (ps:=[⟨.leaf,.int 2⟩]) (aD aW ao) rfl (by omega) (by omega)) (sE (d:=.int 0) (by simp) (mS ok hs hsz hsd) (sE (d:=.int 1) (by simp) (mS ok hs hsz hsd) rfl))) (bj aW rfl)
theorem law_true (ns:List Int) (hl:ns.length<=63):m_law [.list (ns.map .int)]=.ok ⟨.leaf,.bool true⟩:=xH Ct
end KC.N
namespace KC.N
open PySem PySem.Spec L2 T TQ
open PyProof.Rows hiding St
open KC
noncomputable def eF (n:Nat):Stmt:=(PySem.Challenge.pw_foreseehall_k21_papers_told.main.body)[n]!
noncomputable def tB:Stmt:=eF 1
noncomputable def oB:Stmt:=eF 2
noncomputable def jR:Stmt:=eF 3
noncomputable def oq:Stmt:=eF 4
noncomputable def mF:Stmt:=eF 13
noncomputable def mJ:Stmt:=eF 14
noncomputable def mI:Stmt:=eF 15
noncomputable def mH:Stmt:=eF 16
noncomputable def oy:Stmt:=eF 17
noncomputable def jT:Stmt:=eF 18
noncomputable def ox:Stmt:=eF 23
noncomputable def mG:Stmt:=eF 24
noncomputable def i6:Stmt:=eF 25
noncomputable def mE:Stmt:=eF 26
noncomputable def hX:Stmt:=eF 27
noncomputable def h9:Stmt:=eF 28
noncomputable def jS:Stmt:=eF 33
noncomputable def fZ:Stmt:=eF 34
noncomputable def ou:Stmt:=eF 35
noncomputable def oC:Stmt:=eF 36
noncomputable def oo:Stmt:=eF 37
noncomputable def iG:Stmt:=eF 41
noncomputable def gG:Stmt:=eF 42
noncomputable def oz:Stmt:=eF 43
noncomputable def oA:Stmt:=eF 44
noncomputable def i8:Stmt:=eF 46
noncomputable def kS:Stmt:=eF 47
noncomputable def i7:Stmt:=eF 48
noncomputable def mL:Stmt:=eF 49
noncomputable def kR:Stmt:=eF 50
noncomputable def mK:Stmt:=eF 51
noncomputable def iI:Stmt:=eF 52
noncomputable def kY:Stmt:=eF 53
noncomputable def iH:Stmt:=eF 54
noncomputable def kT:Stmt:=eF 55
noncomputable def kW:Stmt:=eF 56
noncomputable def gH:Stmt:=eF 57
noncomputable def gc:Stmt:=eF 58
noncomputable def kU:Stmt:=eF 59
noncomputable def kX:Stmt:=eF 61
noncomputable def CO:Stmt:=eF 62
structure Gl (K:Fg) (mg:Str->Option Value):Prop where
 n0:mg "any"=none
 n1:mg "all"=none
 n2:mg "len"=none
 n3:mg "range"=none
 n4:mg "isinstance"=none
 n5:mg "tuple"=none
 n6:mg "str"=none
 n7:mg "list"=none
 n8:mg "zip"=none
 n9:mg "int"=none
 n10:mg "bool"=none
 n11:mg "sum"=none
 n12:mg "sorted"=none
 n13:mg "set"=none
 h0:iS K mg "LETTERS" cD
 h1:iS K mg "MOST_ROOMS" eV
 h2:iS K mg "PLAYERS" cS
 h3:iS K mg "MOST_WORDS" dy
 h4:iS K mg "MOST_DEPTH" dz
 h5:iS K mg "UNTILS" cx
 h6:iS K mg "ALWAYS" cZ
 h7:iS K mg "BY_SOME_STEP" bx
 t0:qH K mg "PARTS" iT
structure Al (K:Fg) (mg:Str->Option Value):Prop where
 g:Gl K mg
 f0:Ft K mg "is_led" tB
 f1:Ft K mg "is_lower" oB
 f2:Ft K mg "ranked_next" jR
 f3:Ft K mg "ranks_to" oq
 f4:Ft K mg "is_rising" mF
 f5:Ft K mg "are_marks" mJ
 f6:Ft K mg "are_rooms" mI
 f7:Ft K mg "are_steps" mH
 f8:Ft K mg "is_world" oy
 f9:Ft K mg "check_world" jT
 f10:Ft K mg "parts_of" ox
 f11:Ft K mg "is_formed" mG
 f12:Ft K mg "parts_of_all" i6
 f13:Ft K mg "layers_of" mE
 f14:Ft K mg "checked_layers" hX
 f15:Ft K mg "check_sentence" h9
 f16:Ft K mg "other_rooms" jS
 f17:Ft K mg "through_and_goal" fZ
 f18:Ft K mg "ranks_of" ou
 f19:Ft K mg "holds_at" oC
 f20:Ft K mg "rooms_by" oo
 f21:Ft K mg "paper_of" dE
 f22:Ft K mg "paper" gF
 f23:Ft K mg "is_rank_right" iG
 f24:Ft K mg "are_ranks_right" gG
 f25:Ft K mg "is_right" oz
 f26:Ft K mg "is_paper" oA
 f27:Ft K mg "_law_cell_at" i8
 f28:Ft K mg "_law_whole" kS
 f29:Ft K mg "_law_numbers" i7
 f30:Ft K mg "_law_draw" mL
 f31:Ft K mg "_law_world" kR
 f32:Ft K mg "_law_twin" mK
 f33:Ft K mg "_law_sentence" iI
 f34:Ft K mg "_law_count" kY
 f35:Ft K mg "_law_steps_in" iH
 f36:Ft K mg "_law_until" kT
 f37:Ft K mg "_law_judge" kW
 f38:Ft K mg "_law_room_right" gH
 f39:Ft K mg "_law_ranks_right" gc
 f40:Ft K mg "_law_right" kU
 f41:Ft K mg "_law_spoil_paper" bF
 f42:Ft K mg "_law_great" kX
 f43:Ft K mg "law" CO
section
variable {P:Program} {w:World} {K:Fg} {mg:Str->Option Value} {base:Heap} (A:Al K mg)
include A
theorem Es:DefOk P w K mg base 1 "is_led" 2 bX:=mk A.f0 A.g ["is_chosen", "by_steps"] vc [] ["any", "all"] [0,1] [] [0,1] fun X S I hp=>
 (bW (B0 (gz (aj S 0) (fun _=>rfl)) (mm S 0 rfl rfl I.e.n0 (aP (aj S 1)) (bS rfl) rfl) (sr S 1 rfl rfl I.e.n1 (aP (aj S 1)) (bS rfl) rfl)))
theorem oQ:DefOk P w K mg base 1 "is_lower" 2 dH:=mk A.f1 A.g ["rank", "other"] vc [] [] [0,1] [] [] fun X S I hp=>
 (bW (pL (eD (yn I.r) (aj S 0) lV) (pL (eD (yn I.r) (aj S 1) lV) (oh (eD (mO I.r) (aj S 0) (aj S 1))))))
theorem jZ:DefOk P w K mg base 2 "ranked_next" 4 cw:=mk A.f2 A.g ["world", "chosen", "through", "ranks"] DI ["found", "room", "there"] ["is_led"] [0,1,2,3,4,5] [3] [0] fun X S I hp=>
 (bg (cF S true 4 (kj .leaf w_da_nil)) (bg (sv S 5 rfl rfl hp (w_di_seq (aj S 2)) (fQ (dh (iE (yq (bZ (oF I.r) (bw (aj S 3) (aj S 5)) lV) (yp (gz (ck S 0 (I.c (Es A)) (bc (bw (aj S 1) (aj S 5)) (aP (g9 [3,6] [3] [] S 6 (w_di_seq (bw (bw (aj S 0) w_de_int) (aj S 5))) (fun _ _ _=>w_df_nil) (fun Y1 S1 F1=>have I:=F1.i I;(eD (yn I.r) (bw (aj S1 3) (aj S1 6)) lV)))))) (fun _=>rfl))))) (fQ (vy S 4 rfl rfl (aj S 5) (eA rfl) rfl rfl rfl rfl)) dC)) (fun _=>rfl)) (bW (mi S 4 rfl rfl))))
theorem oJ:DefOk P w K mg base 3 "ranks_to" 4 gj:=mk A.f3 A.g ["world", "chosen", "through", "goal"] DI ["ranks", "rank", "fresh", "room", "owner"] ["ranked_next"] [0,1,2,3,4,5,6,7] [] [0] fun X S I hp=>
 (bg (sD (vs':=[8]) (cs':=[]) (lo':=[]) (gs':=[]) S true 4 .leaf 8 rfl rfl rfl rfl (by kernel_rfl) (by kernel_rfl) (by kernel_rfl) (w_di_seq (bw (aj S 0) w_de_int)) (fun _ _ _=>w_df_nil) (fun Y1 S1 F1=>lV) (fun _=>rfl)) (bg (cF S false 5 w_de_int) (bg (cF S false 6 (aj S 3)) (bg (iW 1000 hp (gz (aj S 6) (fun _=>rfl)) (bg (sv S 7 rfl rfl hp (w_di_seq (aj S 6)) (fQ (qJ S 4 rfl rfl (aj S 5) (aj S 7) rfl rfl rfl (fun _=>rfl))) (fun _=>rfl)) (bg (mh S 5 rfl rfl w_de_int) (fQ (cF S false 6 (zm S 0 rfl rfl (I.c (jZ A)) (bc (aj S 0) (bc (aj S 1) (bc (aj S 2) (aP (aj S 4))))) (bS rfl) rfl)))))) (bW (mi S 4 rfl rfl))))))
theorem iB:DefOk P w K mg base 1 "is_rising" 1 dX:=mk A.f4 A.g ["entries"] oa ["k"] ["len", "range", "all"] [0] [0] [0,1,2] fun X S I hp=>
 (bW (sr S 2 rfl rfl I.e.n1 (aP (g9 [0,1] [0] [] S 1 (yr S 1 rfl rfl I.e.n3 (bc w_de_int (aP (eC S 0 I.e.n2 (aP (aj S 0))))) (mB rfl rfl) (eA rfl)) (fun _ _ _=>w_df_nil) (fun Y1 S1 F1=>have I:=F1.i I;(eD (mO I.r) (bw (aj S1 0) (ma (aj S1 1) w_de_int)) (bw (aj S1 0) (aj S1 1)))))) (bS rfl) rfl))
theorem mZ:DefOk P w K mg base 2 "are_marks" 1 dZ:=mk A.f5 A.g ["entries"] oa ["entry"] ["LETTERS", "all", "is_rising"] [0] [] [1,2] fun X S I hp=>
 (bW (pL (sr S 1 rfl rfl I.e.n1 (aP (g9 [1] [] [0] S 1 (w_di_seq (aj S 0)) (fun _ _ _=>w_df_nil) (fun Y1 S1 F1=>have I:=F1.i I;(eD (dt I.r) (aj S1 1) (fM S1 0 rfl rfl I.e.h0))))) (bS rfl) rfl) (oh (ck S 2 (I.c (iB A)) (aP (aj S 0))))))
theorem mY:DefOk P w K mg base 2 "are_rooms" 2 fA:=mk A.f6 A.g ["entries", "size"] vc ["entry"] ["all", "is_rising"] [0,1] [1] [0,1] fun X S I hp=>
 (bW (pL (sr S 0 rfl rfl I.e.n1 (aP (g9 [1,2] [1] [] S 2 (w_di_seq (aj S 0)) (fun _ _ _=>w_df_nil) (fun Y1 S1 F1=>have I:=F1.i I;(CA (HF I.r) (mO I.r) w_de_int (aj S1 2) (aj S1 1) (by with_unfolding_all rfl))))) (bS rfl) rfl) (oh (ck S 1 (I.c (iB A)) (aP (aj S 0))))))
theorem mX:DefOk P w K mg base 3 "are_steps" 2 dY:=mk A.f7 A.g ["entries", "size"] vc [] ["len", "are_rooms"] [0,1] [] [0,1] fun X S I hp=>
 (bW (pL (eD (oG I.r) (eC S 0 I.e.n2 (aP (aj S 0))) w_de_int) (oh (ck S 1 (I.c (mY A)) (bc (aj S 0) (aP (aj S 1)))))))
theorem oN:DefOk P w K mg base 4 "is_world" 3 eQ:=mk A.f8 A.g ["owners", "marks", "steps"] sd ["size", "owner", "row"] ["len", "MOST_ROOMS", "PLAYERS", "all", "are_marks", "are_steps"] [0,1,2,3] [3] [0,1,3] fun X S I hp=>
 (bg (cF S false 3 (eC S 0 I.e.n2 (aP (aj S 0)))) (bg (dh (iE (iV (bZ (mO I.r) (aj S 3) w_de_int) (iV (bZ (oG I.r) (aj S 3) (fM S 1 rfl rfl I.e.h1)) (iV (bZ (jV I.r) (eC S 0 I.e.n2 (aP (aj S 1))) (aj S 3)) (lX (bZ (jV I.r) (eC S 0 I.e.n2 (aP (aj S 2))) (aj S 3))))))) (bW jQ) dC) (bg (dh (lU (gz (sr S 3 rfl rfl I.e.n1 (aP (g9 [4] [] [2] S 4 (w_di_seq (aj S 0)) (fun _ _ _=>w_df_nil) (fun Y1 S1 F1=>have I:=F1.i I;(eD (dt I.r) (aj S1 4) (fM S1 2 rfl rfl I.e.h2))))) (bS rfl) rfl) (fun _=>rfl))) (bW jQ) dC) (bW (pL (sr S 3 rfl rfl I.e.n1 (aP (g9 [5] [] [4] S 5 (w_di_seq (aj S 1)) (fun _ _ _=>w_df_nil) (fun Y2 S2 F2=>have I:=F2.i I;(ck S2 4 (I.c (mZ A)) (aP (aj S2 5)))))) (bS rfl) rfl) (oh (sr S 3 rfl rfl I.e.n1 (aP (g9 [3,5] [3] [5] S 5 (w_di_seq (aj S 2)) (fun _ _ _=>w_df_nil) (fun Y3 S3 F3=>have I:=F3.i I;(ck S3 5 (I.c (mX A)) (bc (aj S3 5) (aP (aj S3 3))))))) (bS rfl) rfl)))))))
theorem fT:DefOk P w K mg base 5 "check_world" 1 bo:=mk A.f9 A.g ["world"] oa [] ["is_world"] [0] [] [0] fun X S I hp=>
 (fQ (dh (lU (gz (ck S 0 (I.c (oN A)) (bc (bw (aj S 0) w_de_int) (bc (bw (aj S 0) w_de_int) (aP (bw (aj S 0) w_de_int))))) (fun _=>rfl))) (fQ pP) dC))
theorem GB:DefOk P w K mg base 1 "parts_of" 1 aU:=mk A.f10 A.g ["sentence"] oa [] [] [0] [] [] fun X S I hp=>
 (bW (B0 (bZ (bT I.r) (bw (aj S 0) w_de_int) cP) (lT w_da_nil) (Ga (aj S 0) w_de_int)))
theorem mW:DefOk P w K mg base 1 "is_formed" 1 bN:=mk A.f11 A.g ["some"] oa [] ["isinstance", "tuple", "len", "str", "LETTERS", "PARTS"] [0] [] [0,1,2,3,4,5] fun X S I hp=>
 (bg (dh (iE (iV (lU (gz (vt S 0 1 rfl rfl rfl rfl rfl Ej I.e.n4 I.e.n5 (aj S 0) (bS rfl) (bS rfl) rfl) (fun _=>rfl))) (iV (bZ (bT I.r) (eC S 2 I.e.n2 (aP (aj S 0))) w_de_int) (lX (lU (gz (vt S 0 3 rfl rfl rfl rfl rfl DM I.e.n4 I.e.n6 (bw (aj S 0) w_de_int) (bS rfl) (bS rfl) rfl) (fun _=>rfl))))))) (bW jQ) dC) (bg (dh (bZ (bT I.r) (bw (aj S 0) w_de_int) cP) (bW (pL (eD (bT I.r) (eC S 2 I.e.n2 (aP (aj S 0))) w_de_int) (oh (eD (dt I.r) (bw (aj S 0) w_de_int) (fM S 4 rfl rfl I.e.h0))))) dC) (bW (pL (iX S 5 rfl rfl I.e.t0 (bw (aj S 0) w_de_int)) (oh (eD (bT I.r) (eC S 2 I.e.n2 (aP (aj S 0))) (lW w_de_int (qK S 5 rfl rfl I.e.t0 (bw (aj S 0) w_de_int) (fun _ _=>rfl)))))))))
theorem jj:DefOk P w K mg base 2 "parts_of_all" 1 cH:=mk A.f12 A.g ["sentences"] oa ["found", "sentence"] ["parts_of"] [0,1,2] [] [0] fun X S I hp=>
 (bg (cF S true 1 (kj .leaf w_da_nil)) (bg (sv S 2 rfl rfl hp (w_di_seq (aj S 0)) (fQ (me S 1 rfl rfl (ck S 0 (I.c (GB A)) (aP (aj S 2))) (eA rfl) rfl rfl rfl rfl)) (fun _=>rfl)) (bW (mi S 1 rfl rfl))))
theorem mV:DefOk P w K mg base 3 "layers_of" 1 fz:=mk A.f13 A.g ["some"] oa ["layers", "layer", "many", "each"] ["len", "MOST_WORDS", "MOST_DEPTH", "is_formed", "all", "parts_of_all"] [0,1,2,3] [] [0,1,2,4,5] fun X S I hp=>
 (bg (cF S true 1 (kj .leaf w_da_nil)) (bg (cF S false 2 (kj .leaf (aP (aj S 0)))) (bg (cF S false 3 w_de_int) (bg (iW 1000 hp (gz (aj S 2) (fun _=>rfl)) (bg (mh S 3 rfl rfl (eC S 0 I.e.n2 (aP (aj S 2)))) (bg (dh (iE (iV (bZ (oG I.r) (aj S 3) (fM S 1 rfl rfl I.e.h3)) (iV (bZ (bT I.r) (eC S 0 I.e.n2 (aP (aj S 1))) (fM S 2 rfl rfl I.e.h4)) (lX (lU (gz (sr S 4 rfl rfl I.e.n1 (aP (g9 [4] [] [3] S 4 (w_di_seq (aj S 2)) (fun _ _ _=>w_df_nil) (fun Y1 S1 F1=>have I:=F1.i I;(ck S1 3 (I.c (mW A)) (aP (aj S1 4)))))) (bS rfl) rfl) (fun _=>rfl))))))) (bW lV) dC) (bg (vy S 1 rfl rfl (aj S 2) (eA rfl) rfl rfl rfl rfl) (fQ (cF S false 2 (ck S 5 (I.c (jj A)) (aP (aj S 2))))))))) (bW (mi S 1 rfl rfl))))))
theorem ib:DefOk P w K mg base 4 "checked_layers" 1 cR:=mk A.f14 A.g ["sentence"] oa ["layers"] ["layers_of"] [0,1] [] [0] fun X S I hp=>
 (bg (cF S false 1 (ck S 0 (I.c (mV A)) (aP (aj S 0)))) (bg (dh (bZ (oF I.r) (aj S 1) lV) (fQ pP) dC) (bW (aj S 1))))
theorem eG:DefOk P w K mg base 5 "check_sentence" 1 ba:=mk A.f15 A.g ["sentence"] oa [] ["checked_layers"] [0] [] [0] fun X S I hp=>
 (fQ (Gx (ck S 0 (I.c (ib A)) (aP (aj S 0))) rfl))
theorem j0:DefOk P w K mg base 1 "other_rooms" 2 cV:=mk A.f16 A.g ["world", "rooms"] vc ["room"] ["len", "range"] [0,1] [1] [0,1] fun X S I hp=>
 (bW (g9 [1,2] [1] [] S 2 (dj S 1 rfl rfl I.e.n3 (aP (eC S 0 I.e.n2 (aP (bw (aj S 0) w_de_int)))) (eA rfl)) (fun Y1 S1 F1=>have I:=F1.i I;og (bZ (vI I.r) (aj S1 2) (aj S1 1))) (fun Y1 S1 F1=>have I:=F1.i I;(aj S1 2))))
theorem dF:DefOk P w K mg base 2 "through_and_goal" 3 aZ:=mk A.f17 A.g ["world", "sentence", "parts"] sd [] ["UNTILS", "len", "list", "range", "other_rooms"] [0,1,2] [] [0,1,2,3,4] fun X S I hp=>
 (bg (dh (bZ (dt I.r) (bw (aj S 1) w_de_int) (fM S 0 rfl rfl I.e.h5)) (bW (lT (bc (bw (aj S 2) w_de_int) (aP (bw (aj S 2) w_de_int))))) dC) (bW (lT (bc (fw S 2 3 rfl rfl I.e.n7 rfl rfl I.e.n3 (aP (eC S 1 I.e.n2 (aP (bw (aj S 0) w_de_int)))) (eA rfl) (eA rfl)) (aP (ck S 4 (I.c (j0 A)) (bc (aj S 0) (aP (bw (aj S 2) w_de_int)))))))))
theorem oK:DefOk P w K mg base 4 "ranks_of" 3 bA:=mk A.f18 A.g ["world", "sentence", "parts"] sd ["word", "both", "owner"] ["UNTILS", "ALWAYS", "through_and_goal", "BY_SOME_STEP", "ranks_to"] [0,1,2,3,4] [3] [0,1,2,4] fun X S I hp=>
 (bg (cF S false 3 (bw (aj S 1) w_de_int)) (bg (dh (iE (yq (bZ (vI I.r) (aj S 3) (fM S 0 rfl rfl I.e.h5)) (yp (bZ (vI I.r) (aj S 3) (fM S 1 rfl rfl I.e.h6))))) (bW lV) dC) (bg (cF S false 4 (ck S 2 (I.c (dF A)) (bc (aj S 0) (bc (aj S 1) (aP (aj S 2)))))) (bW (ck S 4 (I.c (oJ A)) (bc (aj S 0) (bc (g9 [3,5] [3] [3] S 5 (w_di_seq (bw (aj S 0) w_de_int)) (fun _ _ _=>w_df_nil) (fun Y1 S1 F1=>have I:=F1.i I;(eD (dt I.r) (aj S1 3) (fM S1 3 rfl rfl I.e.h7)))) (bc (bw (aj S 4) w_de_int) (aP (bw (aj S 4) w_de_int))))))))))
theorem oR:DefOk P w K mg base 2 "holds_at" 5 eT:=mk A.f19 A.g ["world", "sentence", "parts", "ranks", "room"] IX ["word", "here", "rooms", "there"] ["UNTILS", "ALWAYS", "all", "any", "BY_SOME_STEP", "is_led"] [0,1,2,3,4,5,6] [2,4] [0,1,2,3,4,5] fun X S I hp=>
 (bg (cF S false 5 (bw (aj S 1) w_de_int)) (bg (dh (bZ (bT I.r) (aj S 5) cP) (bW jQ) dC) (bg (dh (bZ (bT I.r) (aj S 5) cP) (bW (eD (dt I.r) (bw (aj S 1) w_de_int) (bw (bw (aj S 0) w_de_int) (aj S 4)))) dC) (bg (dh (bZ (dt I.r) (aj S 5) (fM S 0 rfl rfl I.e.h5)) (bW (eD (yn I.r) (bw (aj S 3) (aj S 4)) lV)) dC) (bg (dh (bZ (dt I.r) (aj S 5) (fM S 1 rfl rfl I.e.h6)) (bW (eD (oF I.r) (bw (aj S 3) (aj S 4)) lV)) dC) (bg (sD (vs':=[4,7]) (cs':=[4]) (lo':=[]) (gs':=[]) S false 6 .leaf 7 rfl rfl rfl rfl (by kernel_rfl) (by kernel_rfl) (by kernel_rfl) (w_di_seq (aj S 2)) (fun _ _ _=>w_df_nil) (fun Y1 S1 F1=>have I:=F1.i I;(eD (dt I.r) (aj S1 4) (aj S1 7))) (fun _=>rfl)) (bg (dh (bZ (bT I.r) (aj S 5) cP) (bW (Cv (bw (aj S 6) w_de_int))) dC) (bg (dh (iE (iV (bZ (bT I.r) (aj S 5) cP) (lX (bZ (bT I.r) (aj S 5) cP)))) (bW (B0 (bZ (bT I.r) (aj S 5) cP) (sr S 2 rfl rfl I.e.n1 (aP (aj S 6)) (bS rfl) rfl) (mm S 3 rfl rfl I.e.n0 (aP (aj S 6)) (bS rfl) rfl))) dC) (bW (ck S 5 (I.c (Es A)) (bc (eD (dt I.r) (aj S 5) (fM S 4 rfl rfl I.e.h7)) (aP (g9 [2,8] [2] [] S 8 (w_di_seq (bw (bw (aj S 0) w_de_int) (aj S 4))) (fun _ _ _=>w_df_nil) (fun Y2 S2 F2=>have I:=F2.i I;(eD (dt I.r) (aj S2 8) (bw (aj S2 2) w_de_int))))))))))))))))
theorem ji:DefOk P w K mg base 3 "rooms_by" 4 bO:=mk A.f20 A.g ["world", "sentence", "parts", "ranks"] DI ["room"] ["len", "range", "holds_at"] [0,1,2,3] [0,1,2,3] [0,1] fun X S I hp=>
 (bW (g9 [0,1,2,3,4] [0,1,2,3] [2] S 4 (dj S 1 rfl rfl I.e.n3 (aP (eC S 0 I.e.n2 (aP (bw (aj S 0) w_de_int)))) (eA rfl)) (fun Y1 S1 F1=>have I:=F1.i I;og (gz (ck S1 2 (I.c (oR A)) (bc (aj S1 0) (bc (aj S1 1) (bc (aj S1 2) (bc (aj S1 3) (aP (aj S1 4))))))) (fun _=>rfl))) (fun Y1 S1 F1=>have I:=F1.i I;(aj S1 4))))
theorem oM:se P w K mg base 28 24:=match A.f21 with | ⟨_,_,hm,F⟩=>mU F hm (Ce F vc) (GB A) (oK A) (ji A) rfl rfl rfl
theorem w5:PprOk P w K mg base 29:=match A.f22 with | ⟨_,_,hm,F⟩=>uq F hm (Ce F vc) (fT A) (eG A) (oM A) rfl rfl rfl
theorem iJ:DefOk P w K mg base 2 "is_rank_right" 5 cz:=mk A.f23 A.g ["world", "word", "ranks", "both", "room"] IX ["rank", "ahead", "is_by_some", "is_lessened", "there", "other"] ["BY_SOME_STEP", "is_led", "is_lower"] [0,1,2,3,4,5,6,7,8] [2,5] [0,1] fun X S I hp=>
 (bg (cF S false 5 (bw (aj S 2) (aj S 4))) (bg (sD (vs':=[2,9]) (cs':=[2]) (lo':=[]) (gs':=[]) S false 6 .leaf 9 rfl rfl rfl rfl (by kernel_rfl) (by kernel_rfl) (by kernel_rfl) (w_di_seq (bw (bw (aj S 0) w_de_int) (aj S 4))) (fun _ _ _=>w_df_nil) (fun Y1 S1 F1=>(bw (aj S1 2) (aj S1 9))) (fun _=>rfl)) (bg (cF S false 7 (eD (dt I.r) (aj S 1) (fM S 0 rfl rfl I.e.h7))) (bg (dh (bZ (dt I.r) (aj S 4) (bw (aj S 3) w_de_int)) (bW (eD (bT I.r) (aj S 5) w_de_int)) dC) (bg (dh (bZ (oF I.r) (aj S 5) lV) (bW (FM (eD (vI I.r) (aj S 4) (bw (aj S 3) w_de_int)) (oh (Cv (ck S 1 (I.c (Es A)) (bc (aj S 7) (aP (g9 [10] [] [] S 10 (w_di_seq (aj S 6)) (fun _ _ _=>w_df_nil) (fun Y2 S2 F2=>have I:=F2.i I;(eD (yn I.r) (aj S2 10) lV)))))))))) dC) (bg (cF S false 8 (ck S 1 (I.c (Es A)) (bc (aj S 7) (aP (g9 [5,10] [5] [2] S 10 (w_di_seq (aj S 6)) (fun _ _ _=>w_df_nil) (fun Y3 S3 F3=>have I:=F3.i I;(ck S3 2 (I.c (oQ A)) (bc (aj S3 10) (aP (aj S3 5)))))))))) (bW (pL (eD (oG I.r) (aj S 5) w_de_int) (pL (eD (dt I.r) (aj S 4) (bw (aj S 3) w_de_int)) (oh (aj S 8)))))))))))
theorem gK:DefOk P w K mg base 3 "are_ranks_right" 4 aT:=mk A.f24 A.g ["world", "sentence", "parts", "ranks"] DI ["word", "both", "room"] ["UNTILS", "ALWAYS", "len", "through_and_goal", "range", "is_rank_right", "all"] [0,1,2,3,4,5] [0,3,4,5] [0,1,2,3,4,6] fun X S I hp=>
 (bg (cF S false 4 (bw (aj S 1) w_de_int)) (bg (dh (iE (yq (bZ (vI I.r) (aj S 4) (fM S 0 rfl rfl I.e.h5)) (yp (bZ (vI I.r) (aj S 4) (fM S 1 rfl rfl I.e.h6))))) (bW (eD (oF I.r) (aj S 3) lV)) dC) (bg (dh (iE (iV (bZ (oF I.r) (aj S 3) lV) (lX (bZ (jV I.r) (eC S 2 I.e.n2 (aP (aj S 3))) (eC S 2 I.e.n2 (aP (bw (aj S 0) w_de_int))))))) (bW jQ) dC) (bg (cF S false 5 (ck S 3 (I.c (dF A)) (bc (aj S 0) (bc (aj S 1) (aP (aj S 2)))))) (bW (sr S 6 rfl rfl I.e.n1 (aP (g9 [0,3,4,5,6] [0,3,4,5] [5] S 6 (dj S 4 rfl rfl I.e.n3 (aP (eC S 2 I.e.n2 (aP (aj S 3)))) (eA rfl)) (fun _ _ _=>w_df_nil) (fun Y1 S1 F1=>have I:=F1.i I;(ck S1 5 (I.c (iJ A)) (bc (aj S1 0) (bc (aj S1 4) (bc (aj S1 3) (bc (aj S1 5) (aP (aj S1 6)))))))))) (bS rfl) rfl))))))
theorem mT (n:Nat):DefOk P w K mg base (3+n) "is_right" 3 (cB n):=by
 induction n with
 | zero=>exact E9 A.f25 sd
 | succ n ih=>exact mk (k:=3+n) A.f25 A.g ["world", "sentence", "told"] sd ["within", "parts", "below", "part"] ["parts_of", "len", "zip", "is_right", "all", "are_ranks_right", "rooms_by"] [0,1,2,3,4] [0] [0,1,2,4,5,6] fun X S I hp=>
  (bg (cF S false 3 (ck S 0 (I.c (GB A)) (aP (aj S 1)))) (bg (dh (bZ (jV I.r) (eC S 1 I.e.n2 (aP (bw (aj S 2) w_de_int))) (eC S 1 I.e.n2 (aP (aj S 3)))) (bW jQ) dC) (bg (dh (lU (gz (sr S 4 rfl rfl I.e.n1 (aP (Cz (vs':=[0,5,6]) (cs':=[0]) (lo':=[]) (gs':=[3]) S .leaf 6 5 2 rfl rfl rfl rfl rfl I.e.n8 (by kernel_rfl) (by kernel_rfl) (bc (aj S 3) (aP (bw (aj S 2) w_de_int))) (bS rfl) rfl (fun _ _ _=>w_df_nil) (fun Y1 S1 F1=>have I:=F1.i I;(ck S1 3 (I.c ih) (bc (aj S1 0) (bc (aj S1 6) (aP (aj S1 5)))))) (fun _=>rfl))) (bS rfl) rfl) (fun _=>rfl))) (bW jQ) dC) (bg (sD (vs':=[5]) (cs':=[]) (lo':=[]) (gs':=[]) S false 4 .leaf 5 rfl rfl rfl rfl (by kernel_rfl) (by kernel_rfl) (by kernel_rfl) (w_di_seq (bw (aj S 2) w_de_int)) (fun _ _ _=>w_df_nil) (fun Y2 S2 F2=>(bw (aj S2 5) w_de_int)) (fun _=>rfl)) (bW (pL (ck S 5 (I.c (gK A)) (bc (aj S 0) (bc (aj S 1) (bc (aj S 4) (aP (bw (aj S 2) w_de_int)))))) (oh (eD (bT I.r) (bw (aj S 2) w_de_int) (ck S 6 (I.c (ji A)) (bc (aj S 0) (bc (aj S 1) (bc (aj S 4) (aP (bw (aj S 2) w_de_int))))))))))))))
theorem oO:DefOk P w K mg base 33 "is_right" 3 jo:=mT A 30
theorem oP:DefOk P w K mg base 34 "is_paper" 3 eR:=mk A.f26 A.g ["world", "sentence", "told"] sd [] ["check_world", "check_sentence", "is_right"] [0,1,2] [] [0,1,2] fun X S I hp=>
 (bg (Gx (ck S 0 (I.c (fT A)) (aP (aj S 0))) rfl) (bg (Gx (ck S 1 (I.c (eG A)) (aP (aj S 1))) rfl) (bW (ck S 2 (I.c (oO A)) (bc (aj S 0) (bc (aj S 1) (aP (aj S 2))))))))
theorem zj:DefOk P w K mg base 1 "_law_cell_at" 2 az:=mk A.f27 A.g ["script", "k"] vc [] ["len"] [0,1] [] [0] fun X S I hp=>
 (bg (dh (bZ (mO I.r) (aj S 1) (eC S 0 I.e.n2 (aP (aj S 0)))) (bW (bw (aj S 0) (aj S 1))) dC) (bW w_de_int))
theorem gL:DefOk P w K mg base 1 "_law_whole" 1 cg:=mk A.f28 A.g ["found"] oa [] ["isinstance", "int", "bool"] [0] [] [0,1,2] fun X S I hp=>
 (bW (pL (vt S 0 1 rfl rfl rfl rfl rfl yS I.e.n4 I.e.n9 (aj S 0) (bS rfl) (bS rfl) rfl) (oh (Cv (vt S 0 2 rfl rfl rfl rfl rfl BF I.e.n4 I.e.n10 (aj S 0) (bS rfl) (bS rfl) rfl)))))
theorem jk:DefOk P w K mg base 2 "_law_numbers" 2 cI:=mk A.f29 A.g ["found", "due"] vc ["x"] ["isinstance", "list", "len", "_law_whole"] [0,1,2] [] [0,1,2,3] fun X S I hp=>
 (bg (dh (iE (iV (lU (gz (vt S 0 1 rfl rfl rfl rfl rfl Cd I.e.n4 I.e.n7 (aj S 0) (bS rfl) (bS rfl) rfl) (fun _=>rfl))) (lX (bZ (jV I.r) (eC S 2 I.e.n2 (aP (aj S 0))) (eC S 2 I.e.n2 (aP (aj S 1))))))) (bW jQ) dC) (bg (sv S 2 rfl rfl hp (w_di_seq (aj S 0)) (fQ (dh (lU (gz (ck S 3 (I.c (gL A)) (aP (aj S 2))) (fun _=>rfl))) (bW jQ) dC)) (fun _=>rfl)) (bW (eD (bT I.r) (aj S 0) (aj S 1)))))
theorem vL:DefOk P w K mg base 1 "_law_draw" 3 av:=mk A.f30 A.g ["cell", "k", "bound"] sd ["stir", "left", "j"] ["range"] [0,1,2,3,4,5] [] [0] fun X S I hp=>
 (bg (dh (bZ (HG I.r) (aj S 0) (sG w_de_int w_de_int)) (bg (cF S false 4 (aj S 0)) (bg (sv S 5 rfl rfl hp (dj S 0 rfl rfl I.e.n3 (aP (aj S 1)) (eA rfl)) (fQ (cF S false 4 (Gb (aj S 4) (aj S 2)))) (fun _=>rfl)) (bW (nY (aj S 4) (aj S 2))))) dC) (bg (cF S false 3 (nY (Cu (lW (lW (nY (aj S 0) w_de_int) (Cu w_de_int (aj S 1))) w_de_int) w_de_int) w_de_int)) (bg (cF S false 3 (nY (lW (lW (Cu (aj S 3) (aj S 3)) (Cu w_de_int (aj S 1))) w_de_int) w_de_int)) (bW (nY (Gb (nY (Cu (aj S 3) w_de_int) w_de_int) w_de_int) (aj S 2))))))
theorem ll:DefOk P w K mg base 2 "_law_world" 3 m__law_world:=mk A.f31 A.g ["script", "at", "limit"] sd ["many", "owners", "marks", "steps", "room", "cell", "row", "there", "k"] ["_law_cell_at", "range", "_law_draw", "int"] [0,1,2,3,4,5,6,7,8,9] [3,8] [0,1,2] fun X S I hp=>
 (bg (cF S false 3 (lW w_de_int (nY (ck S 0 (I.c (zj A)) (bc (aj S 0) (aP (aj S 1)))) (aj S 2)))) (bg (cF S true 4 (kj .leaf w_da_nil)) (bg (cF S true 5 (kj .leaf w_da_nil)) (bg (cF S true 6 (kj .leaf w_da_nil)) (bg (sv S 7 rfl rfl hp (dj S 1 rfl rfl I.e.n3 (aP (aj S 3)) (eA rfl)) (bg (cF S false 8 (ck S 0 (I.c (zj A)) (bc (aj S 0) (aP (lW (lW (aj S 1) w_de_int) (aj S 7)))))) (bg (vy S 4 rfl rfl (ck S 2 (I.c (vL A)) (bc (aj S 8) (bc w_de_int (aP w_de_int)))) (eA rfl) rfl rfl rfl rfl) (bg (vy S 5 rfl rfl (g9 [8,11] [8] [2] S 11 (dj S 1 rfl rfl I.e.n3 (aP w_de_int) (eA rfl)) (fun Y1 S1 F1=>have I:=F1.i I;og (bZ (bT I.r) (ck S1 2 (I.c (vL A)) (bc (aj S1 8) (bc (lW w_de_int (aj S1 11)) (aP w_de_int)))) w_de_int)) (fun Y1 S1 F1=>have I:=F1.i I;(bw cP (aj S1 11)))) (eA rfl) rfl rfl rfl rfl) (bg (sD (vs':=[3,8,10]) (cs':=[3,8]) (lo':=[]) (gs':=[2,3]) S false 9 .leaf 10 rfl rfl rfl rfl (by kernel_rfl) (by kernel_rfl) (by kernel_rfl) (dj S 1 rfl rfl I.e.n3 (aP (aj S 3)) (eA rfl)) (fun Y2 S2 F2=>have I:=F2.i I;og (bZ (bT I.r) (ck S2 2 (I.c (vL A)) (bc (aj S2 8) (bc (lW w_de_int (aj S2 10)) (aP (lW w_de_int (sM S2 3 rfl rfl I.e.n9 (aP (eD (oG I.r) (aj S2 3) w_de_int)) (bS rfl) rfl)))))) w_de_int)) (fun Y2 S2 F2=>have I:=F2.i I;(aj S2 10)) (fun _=>rfl)) (bg (dh (bZ (bT I.r) (aj S 9) (kj .leaf w_da_nil)) (fQ (cF S false 9 (kj .leaf (aP (ck S 2 (I.c (vL A)) (bc (aj S 8) (bc (lW w_de_int (aj S 3)) (aP (aj S 3))))))))) dC) (fQ (vy S 6 rfl rfl (aj S 9) (eA rfl) rfl rfl rfl rfl))))))) (fun _=>rfl)) (bW (lT (bc (mi S 4 rfl rfl) (bc (mi S 5 rfl rfl) (aP (mi S 6 rfl rfl)))))))))))
theorem m5:DefOk P w K mg base 1 "_law_twin" 1 d5:=mk A.f32 A.g ["world"] oa ["row"] ["list"] [0] [] [0] fun X S I hp=>
 (bW (lT (bc (Gu S 0 rfl rfl I.e.n7 (bw (aj S 0) w_de_int) (eA rfl)) (bc (g9 [1] [] [0] S 1 (w_di_seq (bw (aj S 0) w_de_int)) (fun _ _ _=>w_df_nil) (fun Y1 S1 F1=>have I:=F1.i I;(Gu S1 0 rfl rfl I.e.n7 (aj S1 1) (eA rfl)))) (aP (g9 [1] [] [0] S 1 (w_di_seq (bw (aj S 0) w_de_int)) (fun _ _ _=>w_df_nil) (fun Y2 S2 F2=>have I:=F2.i I;(Gu S2 0 rfl rfl I.e.n7 (aj S2 1) (eA rfl)))))))))
theorem iK:DefOk P w K mg base 2 "_law_sentence" 3 cA:=mk A.f33 A.g ["script", "at", "many"] sd ["kinds", "made", "k", "cell", "kind", "one", "other"] ["_law_cell_at", "_law_draw", "range", "len"] [0,1,2,3,4,5,6,7,8,9] [] [0,1,2,3] fun X S I hp=>
 (bg (cF S false 3 (kj .leaf (bc cP (bc cP (bc cP (bc cP (bc cP (bc cP (bc cP (bc cP (aP cP))))))))))) (bg (cF S false 3 (ml (aj S 3) (kj .leaf (bc cP (bc cP (aP cP)))))) (bg (cF S true 4 (kj .leaf (aP (lT (bc cP (aP (bw cP (ck S 1 (I.c (vL A)) (bc (ck S 0 (I.c (zj A)) (bc (aj S 0) (aP (aj S 1)))) (bc w_de_int (aP w_de_int))))))))))) (bg (sv S 5 rfl rfl hp (yr S 2 rfl rfl I.e.n3 (bc w_de_int (aP (aj S 2))) (mB rfl rfl) (eA rfl)) (bg (cF S false 6 (ck S 0 (I.c (zj A)) (bc (aj S 0) (aP (lW (aj S 1) (aj S 5)))))) (bg (cF S false 7 (bw (aj S 3) (ck S 1 (I.c (vL A)) (bc (aj S 6) (bc w_de_int (aP w_de_int)))))) (bg (cF S false 8 (Gv S 4 rfl rfl (ma (mj w_de_int) (nY (ck S 1 (I.c (vL A)) (bc (aj S 6) (bc w_de_int (aP w_de_int)))) (eC S 3 I.e.n2 (aP (aj S 4))))) (fun _ _=>rfl))) (bg (cF S false 9 (Gv S 4 rfl rfl (nY (ck S 1 (I.c (vL A)) (bc (aj S 6) (bc w_de_int (aP w_de_int)))) (eC S 3 I.e.n2 (aP (aj S 4)))) (fun _ _=>rfl))) (fQ (dh (bZ (bT I.r) (aj S 7) cP) (fQ (vy S 4 rfl rfl (lT (aP cP)) (eA rfl) rfl rfl rfl rfl)) (fQ (dh (bZ (bT I.r) (aj S 7) cP) (fQ (vy S 4 rfl rfl (lT (bc cP (aP (bw cP (ck S 1 (I.c (vL A)) (bc (aj S 6) (bc w_de_int (aP w_de_int)))))))) (eA rfl) rfl rfl rfl rfl)) (fQ (dh (bZ (dt I.r) (aj S 7) (lT (bc cP (bc cP (bc cP (aP cP)))))) (fQ (vy S 4 rfl rfl (lT (bc (aj S 7) (bc (aj S 9) (aP (aj S 8))))) (eA rfl) rfl rfl rfl rfl)) (fQ (vy S 4 rfl rfl (lT (bc (aj S 7) (aP (aj S 8)))) (eA rfl) rfl rfl rfl rfl)))))))))))) (fun _=>rfl)) (bW (Gv S 4 rfl rfl (mj w_de_int) (fun _ _=>rfl)))))))
theorem jY (n:Nat):DefOk P w K mg base (0+n) "_law_count" 1 (bu n):=by
 induction n with
 | zero=>exact E9 A.f34 oa
 | succ n ih=>exact mk (k:=0+n) A.f34 A.g ["sentence"] oa ["piece"] ["_law_count", "isinstance", "tuple", "sum"] [0] [] [3] fun X S I hp=>
  (bW (lW w_de_int (sJ S 3 rfl rfl I.e.n11 (aP (g9 [1] [] [0,1,2] S 1 (lZ (Ga (aj S 0) w_de_int)) (fun Y1 S1 F1=>have I:=F1.i I;og (gz (vt S1 1 2 rfl rfl rfl rfl rfl Ej I.e.n4 I.e.n5 (aj S1 1) (bS rfl) (bS rfl) rfl) (fun _=>rfl))) (fun Y1 S1 F1=>have I:=F1.i I;(ck S1 0 (I.c ih) (aP (aj S1 1)))))) (bS rfl) rfl)))
theorem lx:DefOk P w K mg base 20 "_law_count" 1 bU:=jY A 20
theorem fj:DefOk P w K mg base 1 "_law_steps_in" 3 bY:=mk A.f35 A.g ["world", "rooms", "each"] sd ["found", "room", "into", "there"] ["len", "range"] [0,1,2,3,4,5] [1] [0,1] fun X S I hp=>
 (bg (cF S true 3 (kj .leaf w_da_nil)) (bg (sv S 4 rfl rfl hp (dj S 1 rfl rfl I.e.n3 (aP (eC S 0 I.e.n2 (aP (bw (aj S 0) w_de_int)))) (eA rfl)) (bg (sD (vs':=[1,6]) (cs':=[1]) (lo':=[]) (gs':=[]) S false 5 .leaf 6 rfl rfl rfl rfl (by kernel_rfl) (by kernel_rfl) (by kernel_rfl) (w_di_seq (bw (bw (aj S 0) w_de_int) (aj S 4))) (fun Y1 S1 F1=>have I:=F1.i I;og (bZ (dt I.r) (aj S1 6) (aj S1 1))) (fun Y1 S1 F1=>have I:=F1.i I;(aj S1 6)) (fun _=>rfl)) (fQ (dh (iE (iV (bZ (bT I.r) (eC S 0 I.e.n2 (aP (aj S 5))) (eC S 0 I.e.n2 (aP (bw (bw (aj S 0) w_de_int) (aj S 4))))) (lX (iE (yq (lU (gz (aj S 2) (fun _=>rfl))) (yp (bZ (oG I.r) (eC S 0 I.e.n2 (aP (aj S 5))) w_de_int))))))) (fQ (vy S 3 rfl rfl (aj S 4) (eA rfl) rfl rfl rfl rfl)) dC))) (fun _=>rfl)) (bW (mi S 3 rfl rfl))))
theorem gM:DefOk P w K mg base 2 "_law_until" 4 dv:=mk A.f36 A.g ["world", "one", "other", "each"] DI ["found", "turn", "ahead", "room"] ["len", "range", "_law_steps_in", "sorted"] [0,1,2,3,4,5,6] [2,6] [0,1,2,3] fun X S I hp=>
 (bg (cF S false 4 (aj S 2)) (bg (sv S 5 rfl rfl hp (dj S 1 rfl rfl I.e.n3 (aP (eC S 0 I.e.n2 (aP (bw (aj S 0) w_de_int)))) (eA rfl)) (bg (cF S false 6 (ck S 2 (I.c (fj A)) (bc (aj S 0) (bc (aj S 4) (aP (aj S 3)))))) (fQ (cF S false 4 (ip S 3 rfl rfl I.e.n12 (aP (ml (aj S 2) (g9 [2,6,7] [2,6] [] S 7 (w_di_seq (aj S 1)) (fun Y1 S1 F1=>have I:=F1.i I;og (iE (yq (bZ (dt I.r) (aj S1 7) (aj S1 6)) (yp (bZ (vI I.r) (aj S1 7) (aj S1 2)))))) (fun Y1 S1 F1=>have I:=F1.i I;(aj S1 7))))) (bS rfl) rfl)))) (fun _=>rfl)) (bW (aj S 4))))
theorem jX (n:Nat):DefOk P w K mg base (2+n) "_law_judge" 2 (bM n):=by
 induction n with
 | zero=>exact E9 A.f37 vc
 | succ n ih=>exact mk (k:=2+n) A.f37 A.g ["world", "sentence"] vc ["whole", "word", "one", "outside", "other", "away", "room"] ["len", "list", "range", "_law_judge", "_law_steps_in", "_law_until"] [0,1,2,3,4,5,6,7] [0,1,4,6,7] [0,1,2,3,4,5] fun X S I hp=>
  (bg (cF S false 2 (fw S 1 2 rfl rfl I.e.n7 rfl rfl I.e.n3 (aP (eC S 0 I.e.n2 (aP (bw (aj S 0) w_de_int)))) (eA rfl) (eA rfl))) (bg (cF S false 3 (bw (aj S 1) w_de_int)) (bg (dh (bZ (bT I.r) (aj S 3) cP) (bW (aj S 2)) dC) (bg (dh (bZ (bT I.r) (aj S 3) cP) (bW (g9 [0,1,8] [0,1] [] S 8 (w_di_seq (aj S 2)) (fun Y1 S1 F1=>have I:=F1.i I;og (bZ (dt I.r) (bw (aj S1 1) w_de_int) (bw (bw (aj S1 0) w_de_int) (aj S1 8)))) (fun Y1 S1 F1=>have I:=F1.i I;(aj S1 8)))) dC) (bg (cF S false 4 (ck S 3 (I.c ih) (bc (aj S 0) (aP (bw (aj S 1) w_de_int))))) (bg (sD (vs':=[4,8]) (cs':=[4]) (lo':=[]) (gs':=[]) S false 5 .leaf 8 rfl rfl rfl rfl (by kernel_rfl) (by kernel_rfl) (by kernel_rfl) (w_di_seq (aj S 2)) (fun Y2 S2 F2=>have I:=F2.i I;og (bZ (vI I.r) (aj S2 8) (aj S2 4))) (fun Y2 S2 F2=>have I:=F2.i I;(aj S2 8)) (fun _=>rfl)) (bg (dh (bZ (bT I.r) (aj S 3) cP) (bW (aj S 5)) dC) (bg (dh (iE (iV (bZ (bT I.r) (aj S 3) cP) (lX (bZ (bT I.r) (aj S 3) cP)))) (bW (ck S 4 (I.c (fj A)) (bc (aj S 0) (bc (aj S 4) (aP (eD (bT I.r) (aj S 3) cP)))))) dC) (bg (dh (iE (iV (bZ (bT I.r) (aj S 3) cP) (lX (bZ (bT I.r) (aj S 3) cP)))) (bg (cF S false 7 (ck S 5 (I.c (gM A)) (bc (aj S 0) (bc (aj S 2) (bc (aj S 5) (aP (eD (bT I.r) (aj S 3) cP))))))) (bW (g9 [7,8] [7] [] S 8 (w_di_seq (aj S 2)) (fun Y3 S3 F3=>have I:=F3.i I;og (bZ (vI I.r) (aj S3 8) (aj S3 7))) (fun Y3 S3 F3=>have I:=F3.i I;(aj S3 8))))) dC) (bg (cF S false 6 (ck S 3 (I.c ih) (bc (aj S 0) (aP (bw (aj S 1) w_de_int))))) (bg (dh (bZ (bT I.r) (aj S 3) cP) (bW (g9 [6,8] [6] [] S 8 (w_di_seq (aj S 4)) (fun Y4 S4 F4=>have I:=F4.i I;og (bZ (dt I.r) (aj S4 8) (aj S4 6))) (fun Y4 S4 F4=>have I:=F4.i I;(aj S4 8)))) dC) (bg (dh (bZ (bT I.r) (aj S 3) cP) (bW (g9 [4,6,8] [4,6] [] S 8 (w_di_seq (aj S 2)) (fun Y5 S5 F5=>have I:=F5.i I;og (iE (iV (bZ (dt I.r) (aj S5 8) (aj S5 4)) (lX (bZ (dt I.r) (aj S5 8) (aj S5 6)))))) (fun Y5 S5 F5=>have I:=F5.i I;(aj S5 8)))) dC) (bW (ck S 5 (I.c (gM A)) (bc (aj S 0) (bc (aj S 4) (bc (aj S 6) (aP (eD (bT I.r) (aj S 3) cP)))))))))))))))))))
theorem GO:DefOk P w K mg base 22 "_law_judge" 2 cj:=jX A 20
theorem gN:DefOk P w K mg base 1 "_law_room_right" 6 bz:=mk A.f38 A.g ["world", "word", "ranks", "room", "stay", "goal"] Jq ["each", "into", "less", "there"] ["len"] [0,1,2,3,4,5,6,7,8] [2,3] [0] fun X S I hp=>
 (bg (cF S false 6 (eD (dt I.r) (aj S 1) (lT (bc cP (aP cP))))) (bg (sD (vs':=[2,9]) (cs':=[2]) (lo':=[]) (gs':=[]) S false 7 .leaf 9 rfl rfl rfl rfl (by kernel_rfl) (by kernel_rfl) (by kernel_rfl) (w_di_seq (bw (bw (aj S 0) w_de_int) (aj S 3))) (fun Y1 S1 F1=>have I:=F1.i I;og (bZ (yn I.r) (bw (aj S1 2) (aj S1 9)) lV)) (fun Y1 S1 F1=>have I:=F1.i I;(aj S1 9)) (fun _=>rfl)) (bg (dh (bZ (oF I.r) (bw (aj S 2) (aj S 3)) lV) (bg (dh (gz (aj S 5) (fun _=>rfl)) (bW jQ) dC) (bW (FM (Cv (aj S 4)) (oh (B0 (gz (aj S 6) (fun _=>rfl)) (eD (mO I.r) (eC S 0 I.e.n2 (aP (aj S 7))) (eC S 0 I.e.n2 (aP (bw (bw (aj S 0) w_de_int) (aj S 3))))) (eD (bT I.r) (aj S 7) (kj .leaf w_da_nil))))))) dC) (bg (dh (iE (iV (gz (aj S 5) (fun _=>rfl)) (lX (bZ (bT I.r) (bw (aj S 2) (aj S 3)) w_de_int)))) (bW (pL (aj S 5) (oh (eD (bT I.r) (bw (aj S 2) (aj S 3)) w_de_int)))) dC) (bg (sD (vs':=[2,3,9]) (cs':=[2,3]) (lo':=[]) (gs':=[]) S false 8 .leaf 9 rfl rfl rfl rfl (by kernel_rfl) (by kernel_rfl) (by kernel_rfl) (w_di_seq (aj S 7)) (fun Y2 S2 F2=>have I:=F2.i I;og (bZ (mO I.r) (bw (aj S2 2) (aj S2 9)) (bw (aj S2 2) (aj S2 3)))) (fun Y2 S2 F2=>have I:=F2.i I;(aj S2 9)) (fun _=>rfl)) (bW (pL (aj S 4) (oh (B0 (gz (aj S 6) (fun _=>rfl)) (eD (bT I.r) (eC S 0 I.e.n2 (aP (aj S 8))) (eC S 0 I.e.n2 (aP (bw (bw (aj S 0) w_de_int) (aj S 3))))) (eD (jV I.r) (aj S 8) (kj .leaf w_da_nil)))))))))))
theorem gh:DefOk P w K mg base 23 "_law_ranks_right" 3 bG:=mk A.f39 A.g ["world", "sentence", "ranks"] sd ["one", "room", "ends", "stay", "goal"] ["_law_judge", "isinstance", "list", "len", "range", "_law_whole", "_law_room_right"] [0,1,2,3,4,5,6,7] [] [0,1,2,3,4,5,6] fun X S I hp=>
 (bg (cF S false 3 (ck S 0 (I.c (GO A)) (bc (aj S 0) (aP (bw (aj S 1) w_de_int))))) (bg (dh (iE (iV (lU (gz (vt S 1 2 rfl rfl rfl rfl rfl Cd I.e.n4 I.e.n7 (aj S 2) (bS rfl) (bS rfl) rfl) (fun _=>rfl))) (lX (bZ (jV I.r) (eC S 3 I.e.n2 (aP (aj S 2))) (eC S 3 I.e.n2 (aP (bw (aj S 0) w_de_int))))))) (bW jQ) dC) (bg (sv S 4 rfl rfl hp (dj S 4 rfl rfl I.e.n3 (aP (eC S 3 I.e.n2 (aP (aj S 2)))) (eA rfl)) (fQ (dh (iE (yq (bZ (yn I.r) (bw (aj S 2) (aj S 4)) lV) (yp (iE (iV (lU (gz (ck S 5 (I.c (gL A)) (aP (bw (aj S 2) (aj S 4)))) (fun _=>rfl))) (lX (bZ (mO I.r) (bw (aj S 2) (aj S 4)) w_de_int))))))) (bW jQ) dC)) (fun _=>rfl)) (bg (cF S false 5 (kj .leaf w_da_nil)) (bg (dh (bZ (qh I.r) cP (bw (aj S 1) w_de_int)) (fQ (cF S false 5 (ck S 0 (I.c (GO A)) (bc (aj S 0) (aP (bw (aj S 1) w_de_int)))))) dC) (bg (sv S 4 rfl rfl hp (dj S 4 rfl rfl I.e.n3 (aP (eC S 3 I.e.n2 (aP (aj S 2)))) (eA rfl)) (bg (cF S false 6 (eD (dt I.r) (aj S 4) (aj S 3))) (bg (cF S false 7 jQ) (bg (dh (bZ (qh I.r) cP (bw (aj S 1) w_de_int)) (fQ (cF S false 7 (eD (dt I.r) (aj S 4) (aj S 5)))) (bg (cF S false 7 (Cv (aj S 6))) (fQ (cF S false 6 jQ)))) (fQ (dh (lU (gz (ck S 6 (I.c (gN A)) (bc (aj S 0) (bc (bw (aj S 1) w_de_int) (bc (aj S 2) (bc (aj S 4) (bc (aj S 6) (aP (aj S 7)))))))) (fun _=>rfl))) (bW jQ) dC))))) (fun _=>rfl)) (bW jQ)))))))
theorem jW (n:Nat):DefOk P w K mg base (23+n) "_law_right" 3 (cf n):=by
 induction n with
 | zero=>exact E9 A.f40 sd
 | succ n ih=>exact mk (k:=23+n) A.f40 A.g ["world", "sentence", "told"] sd ["timed", "parts", "piece", "k"] ["isinstance", "tuple", "len", "_law_judge", "_law_numbers", "_law_ranks_right", "list", "range", "_law_right", "all"] [0,1,2,3,4] [0,2,4] [0,1,2,3,4,5,6,7,9] fun X S I hp=>
  (bg (dh (iE (iV (lU (gz (vt S 0 1 rfl rfl rfl rfl rfl Ej I.e.n4 I.e.n5 (aj S 2) (bS rfl) (bS rfl) rfl) (fun _=>rfl))) (iV (bZ (jV I.r) (eC S 2 I.e.n2 (aP (aj S 2))) w_de_int) (lX (lU (gz (ck S 4 (I.c (jk A)) (bc (bw (aj S 2) w_de_int) (aP (ck S 3 (I.c (GO A)) (bc (aj S 0) (aP (aj S 1))))))) (fun _=>rfl))))))) (bW jQ) dC) (bg (cF S false 3 (FM (eD (qh I.r) cP (bw (aj S 1) w_de_int)) (oh (eD (qh I.r) cP (bw (aj S 1) w_de_int))))) (bg (dh (iE (iV (iE (yq (gz (aj S 3) (fun _=>rfl)) (yp (lU (gz (ck S 5 (I.c (gh A)) (bc (aj S 0) (bc (aj S 1) (aP (bw (aj S 2) w_de_int))))) (fun _=>rfl)))))) (lX (iE (yq (lU (gz (aj S 3) (fun _=>rfl))) (yp (bZ (yn I.r) (bw (aj S 2) w_de_int) lV))))))) (bW jQ) dC) (bg (md S false 4 rfl rfl (my (S.cel 4 _ rfl rfl)) (g9 [5] [] [0,1] S 5 (lZ (Ga (aj S 1) w_de_int)) (fun Y1 S1 F1=>have I:=F1.i I;og (gz (vt S1 0 1 rfl rfl rfl rfl rfl Ej I.e.n4 I.e.n5 (aj S1 5) (bS rfl) (bS rfl) rfl) (fun _=>rfl))) (fun Y1 S1 F1=>have I:=F1.i I;(aj S1 5)))) (bg (dh (iE (iV (lU (gz (vt S 0 6 rfl rfl rfl rfl rfl Cd I.e.n4 I.e.n7 (bw (aj S 2) w_de_int) (bS rfl) (bS rfl) rfl) (fun _=>rfl))) (lX (bZ (jV I.r) (eC S 2 I.e.n2 (aP (bw (aj S 2) w_de_int))) (eC S 2 I.e.n2 (aP (aj S 4))))))) (bW jQ) dC) (bW (sr S 9 rfl rfl I.e.n1 (aP (g9 [0,2,4,6] [0,2,4] [8] S 6 (dj S 7 rfl rfl I.e.n3 (aP (eC S 2 I.e.n2 (aP (aj S 4)))) (eA rfl)) (fun _ _ _=>w_df_nil) (fun Y2 S2 F2=>have I:=F2.i I;(ck S2 8 (I.c ih) (bc (aj S2 0) (bc (bw (aj S2 4) (aj S2 6)) (aP (bw (bw (aj S2 2) w_de_int) (aj S2 6))))))))) (bS rfl) rfl)))))))
theorem lp:DefOk P w K mg base 53 "_law_right" 3 dw:=jW A 30
theorem gf:SplOk P w K mg base 24 24:=match A.f41 with | ⟨_,_,hm,F⟩=>fO F hm (Ce F oa)
theorem lq:DefOk P w K mg base 1 "_law_great" 1 cJ:=mk A.f42 A.g ["cell"] oa ["steps", "room", "row"] ["range", "sorted", "set"] [0,1] [0] [0] fun X S I hp=>
 (bg (sD (vs':=[0,2]) (cs':=[0]) (lo':=[]) (gs':=[1]) S false 1 .leaf 2 rfl rfl rfl rfl (by kernel_rfl) (by kernel_rfl) (by kernel_rfl) (dj S 0 rfl rfl I.e.n3 (aP w_de_int) (eA rfl)) (fun _ _ _=>w_df_nil) (fun Y1 S1 F1=>have I:=F1.i I;(ip S1 1 rfl rfl I.e.n12 (aP (kj .leaf (bc (nY (lW (aj S1 2) w_de_int) w_de_int) (aP (bw (kj .leaf (bc (nY (lW (aj S1 2) w_de_int) w_de_int) (aP w_de_int))) (nY (aj S1 0) w_de_int)))))) (bS rfl) rfl)) (fun _=>rfl)) (bg (sD (vs':=[3]) (cs':=[]) (lo':=[]) (gs':=[1,2]) S false 1 .leaf 3 rfl rfl rfl rfl (by kernel_rfl) (by kernel_rfl) (by kernel_rfl) (w_di_seq (aj S 1)) (fun _ _ _=>w_df_nil) (fun Y2 S2 F2=>have I:=F2.i I;(kQ S2 1 2 rfl rfl I.e.n12 rfl rfl I.e.n13 (aP (aj S2 3)) (eA rfl) (eA rfl))) (fun _=>rfl)) (bW (lT (bc (g9 [2] [] [] S 2 (dj S 0 rfl rfl I.e.n3 (aP w_de_int) (eA rfl)) (fun _ _ _=>w_df_nil) (fun Y3 S3 F3=>(nY (aj S3 2) w_de_int))) (bc (g9 [0,2] [0] [] S 2 (dj S 0 rfl rfl I.e.n3 (aP w_de_int) (eA rfl)) (fun _ _ _=>w_df_nil) (fun Y4 S4 F4=>have I:=F4.i I;(B0 (bZ (bT I.r) (aj S4 2) (nY (aj S4 0) w_de_int)) (kj .leaf (aP cP)) (kj .leaf w_da_nil)))) (aP (aj S 1))))))))
theorem o_law {fa:Addr} (hfa:mg "law"=some (.ref fa)):∃fd:FuncData,(∀(s:Shared) (v:Value),BindsTo s fd ⟨[v],[]⟩ [("script",v)])/\∀base:Heap,K.In base->base.Ns mainGlobals mg->e8 P w K mg base lQ 54 fa fd ["script"] (nZ K 1 m_law):=Jj A.f43 A.g "script" oa hfa ["world", "some", "handed", "turn", "told"] ["_law_world", "_law_cell_at", "_law_great", "_law_sentence", "_law_count", "_law_twin", "range", "_law_right", "is_paper", "paper", "_law_spoil_paper"] [0,1,2,3,4,5] [] [0,1,2,3,4,5,6,7,8,9,10] fun base X S I hp=>
 (bg (cF S false 1 (ck S 0 (I.c (ll A)) (bc (aj S 0) (bc w_de_int (aP w_de_int))))) (bg (dh (bZ (bT I.r) (nY (ck S 1 (I.c (zj A)) (bc (aj S 0) (aP w_de_int))) w_de_int) w_de_int) (fQ (cF S false 1 (ck S 2 (I.c (lq A)) (aP (Gb (ck S 1 (I.c (zj A)) (bc (aj S 0) (aP w_de_int))) w_de_int))))) dC) (bg (cF S false 2 (ck S 3 (I.c (iK A)) (bc (aj S 0) (bc w_de_int (aP (lW w_de_int (nY (ck S 1 (I.c (zj A)) (bc (aj S 0) (aP w_de_int))) w_de_int))))))) (bg (dh (bZ (oG I.r) (ck S 4 (I.c (lx A)) (aP (aj S 2))) w_de_int) (fQ (cF S false 2 (lT (bc cP (bc (lT (bc cP (aP cP))) (aP (lT (bc cP (aP (lT (bc cP (aP (lT (bc cP (aP cP))))))))))))))) dC) (bg (cF S false 3 (ck S 5 (I.c (m5 A)) (aP (aj S 1)))) (bg (sv S 4 rfl rfl hp (dj S 6 rfl rfl I.e.n3 (aP w_de_int) (eA rfl)) (sH S 5 3 2 9 10 (I.ppr (w5 A)) (I.spl (gf A)) (iE (iV (lU (gz (ck S 7 (I.c (lp A)) (bc (aj S 1) (bc (aj S 2) (aP (aj S 5))))) (fun _=>rfl))) (iV (bZ (Ak I.r) (ck S 8 (I.c (oP A)) (bc (aj S 3) (bc (aj S 2) (aP (aj S 5))))) jQ) (lX (bZ (jV I.r) (aj S 3) (aj S 1))))))) (fun _=>rfl)) (bW jQ)))))))
end
end KC.N
open PySem PySem.W PyProof.Rows
def PySem.W.Fast.tw11442580956888474785:=0
def PySem.W.Fast.tw6408947335969019430:=0
def PySem.W.Fast.tw7401722926937760458:=0
def PySem.W.Fast.tw1534358574007680683:=0
def PySem.W.Fast.tw17492210403736046861:=0
def PySem.W.Fast.tw9712862676987972625:=0
def PySem.W.Fast.tw8678503022206780050:=0
def PySem.W.Fast.tw5180170695538993139:=0
def PySem.W.Fast.tw9872082027229407892:=0
def PySem.W.Fast.tw3572474563464927255:=0
def PySem.W.Fast.tw4932024168768031707:=0
def PySem.W.Fast.tw1935877813874304671:=0
set_option maxRecDepth 100000 in
set_option maxHeartbeats 0 in
theorem PySem.Challenge.cw_foreseehall_k21_papers_told_holds : PySem.Challenge.rw_foreseehall_k21_papers_told.Holds := by
 w_on;o_law;k_head;(case hw=>w_witness2)
 k_fill
 refine T.walkG (j:=54) (l:=PySem.Challenge.rw_foreseehall_k21_papers_told) KC.N.law_true ⟨rfl,by decide,by decide,rfl⟩ rfl rfl (fun w h Y=>PySem.W.kIn_of Y) ?F
 case F=>
  intro w mg fa h KX G hmg;refine' KC.N.o_law (.mk (.mk (T.gn KX G ?z0) (T.gn KX G ?z1) (T.gn KX G ?z2) (T.gn KX G ?z3) (T.gn KX G ?z4) (T.gn KX G ?z5) (T.gn KX G ?z6) (T.gn KX G ?z7) (T.gn KX G ?z8) (T.gn KX G ?z9) (T.gn KX G ?z10) (T.gn KX G ?z11) (T.gn KX G ?z12) (T.gn KX G ?z13) (T.gt KX G ?e0 ?q0 ?v0) (T.gi KX G ?e1) (T.gt KX G ?e2 ?q2 ?v2) (T.gi KX G ?e3) (T.gi KX G ?e4) (T.gt KX G ?e5 ?q5 ?v5) (T.gt KX G ?e6 ?q6 ?v6) (T.gt KX G ?e7 ?q7 ?v7) (T.gd KX G ?x0 ?y0 ?w0)) (T.ft KX G ?a0 ?l0 ?c0 ?k0) (T.ft KX G ?a1 ?l1 ?c1 ?k1) (T.ft KX G ?a2 ?l2 ?c2 ?k2) (T.ft KX G ?a3 ?l3 ?c3 ?k3) (T.ft KX G ?a4 ?l4 ?c4 ?k4) (T.ft KX G ?a5 ?l5 ?c5 ?k5) (T.ft KX G ?a6 ?l6 ?c6 ?k6) (T.ft KX G ?a7 ?l7 ?c7 ?k7) (T.ft KX G ?a8 ?l8 ?c8 ?k8) (T.ft KX G ?a9 ?l9 ?c9 ?k9) (T.ft KX G ?a10 ?l10 ?c10 ?k10) (T.ft KX G ?a11 ?l11 ?c11 ?k11) (T.ft KX G ?a12 ?l12 ?c12 ?k12) (T.ft KX G ?a13 ?l13 ?c13 ?k13) (T.ft KX G ?a14 ?l14 ?c14 ?k14) (T.ft KX G ?a15 ?l15 ?c15 ?k15) (T.ft KX G ?a16 ?l16 ?c16 ?k16) (T.ft KX G ?a17 ?l17 ?c17 ?k17) (T.ft KX G ?a18 ?l18 ?c18 ?k18) (T.ft KX G ?a19 ?l19 ?c19 ?k19) (T.ft KX G ?a20 ?l20 ?c20 ?k20) (T.ft KX G ?a21 ?l21 ?c21 ?k21) (T.ft KX G ?a22 ?l22 ?c22 ?k22) (T.ft KX G ?a23 ?l23 ?c23 ?k23) (T.ft KX G ?a24 ?l24 ?c24 ?k24) (T.ft KX G ?a25 ?l25 ?c25 ?k25) (T.ft KX G ?a26 ?l26 ?c26 ?k26) (T.ft KX G ?a27 ?l27 ?c27 ?k27) (T.ft KX G ?a28 ?l28 ?c28 ?k28) (T.ft KX G ?a29 ?l29 ?c29 ?k29) (T.ft KX G ?a30 ?l30 ?c30 ?k30) (T.ft KX G ?a31 ?l31 ?c31 ?k31) (T.ft KX G ?a32 ?l32 ?c32 ?k32) (T.ft KX G ?a33 ?l33 ?c33 ?k33) (T.ft KX G ?a34 ?l34 ?c34 ?k34) (T.ft KX G ?a35 ?l35 ?c35 ?k35) (T.ft KX G ?a36 ?l36 ?c36 ?k36) (T.ft KX G ?a37 ?l37 ?c37 ?k37) (T.ft KX G ?a38 ?l38 ?c38 ?k38) (T.ft KX G ?a39 ?l39 ?c39 ?k39) (T.ft KX G ?a40 ?l40 ?c40 ?k40) (T.ft KX G ?a41 ?l41 ?c41 ?k41) (T.ft KX G ?a42 ?l42 ?c42 ?k42) (T.ft KX G ?a43 ?l43 ?c43 ?k43)) hmg
  case a0|l0|c0|k0|a1|l1|c1|k1|a2|l2|c2|k2|a3|l3|c3|k3|a4|l4|c4|k4|a5|l5|c5|k5|a6|l6|c6|k6|a7|l7|c7|k7|a8|l8|c8|k8|a9|l9|c9|k9|a10|l10|c10|k10|a11|l11|c11|k11|a12|l12|c12|k12|a13|l13|c13|k13|a14|l14|c14|k14|a15|l15|c15|k15|a16|l16|c16|k16|a17|l17|c17|k17|a18|l18|c18|k18|a19|l19|c19|k19|a20|l20|c20|k20|a21|l21|c21|k21|a22|l22|c22|k22|a23|l23|c23|k23|a24|l24|c24|k24|a25|l25|c25|k25|a26|l26|c26|k26|a27|l27|c27|k27|a28|l28|c28|k28|a29|l29|c29|k29|a30|l30|c30|k30|a31|l31|c31|k31|a32|l32|c32|k32|a33|l33|c33|k33|a34|l34|c34|k34|a35|l35|c35|k35|a36|l36|c36|k36|a37|l37|c37|k37|a38|l38|c38|k38|a39|l39|c39|k39|a40|l40|c40|k40|a41|l41|c41|k41|a42|l42|c42|k42|a43|l43|c43|k43|z0|z1|z2|z3|z4|z5|z6|z7|z8|z9|z10|z11|z12|z13|e0|q0=>k_is
  case v0=>kernel_rfl
  case e1|e2|q2=>k_is
  case v2=>kernel_rfl
  case e3|e4|e5|q5=>k_is
  case v5=>kernel_rfl
  case e6|q6=>k_is
  case v6=>kernel_rfl
  case e7|q7=>k_is
  case v7=>kernel_rfl
  case x0|y0=>k_is
  case w0=>kernel_rfl
