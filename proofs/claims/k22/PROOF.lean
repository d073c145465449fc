import PyProof.Rows.All
import Wide.All
import OpenK.AllK
import Wide.FinOn
import PyProof.EqAt
import PyProof.EqKinds
import PyProof.TupleCall
import PyProof.StrBlockH
import PyProof.StrWalks
import PyProof.StrCalls
import PyProof.StrCalls2
import PyProof.PureStr
import PyProof.FString
import PyProof.StrLawsIdx
import PyProof.SetRoads
import PyProof.DictRoadsH
import Lean
import PySem.Challenge.RW_foreseehall_k22_papers_checked
open List (mem_append_right mem_append_left getElem?_eq_getElem mem_cons_of_mem mem_cons_self length_map getElem?_map append_assoc length_set getD_eq_getElem?_getD size_toArray mem_of_getElem? map_cons getElem?_set_ne nodup_nil mem_cons getElem?_set_self length_append map_map not_mem_nil length_cons set_set getElem?_append_left nil_append getElem?_append_right flatten_cons getElem_mem lookup_cons append_nil length_filter_le all_eq_true replicate_succ getElem?_eq_none contains_iff_mem any_eq_true getElem_of_mem of_mem_zip length_drop length_singleton length_take perm_append_comm getElem?_toArray ext_getElem? mem_range getElem?_replicate filter_cons map_append singleton_append length_zip flatten_append forIn_nil getElem?_set drop_eq_getElem_cons mem_map map_id' pairwise_map sum_cons exists_mem_of_ne_nil map_set flatten_singleton map_congr_left set_comm)
set_option Elab.async false
set_option linter.all false
set_option maxRecDepth 100000
set_option maxHeartbeats 4000000
set_option maxRecDepth 10000
noncomputable section
abbrev Fg:=PySem.W.Frag
abbrev Hs(i:Nat):PySem.Stmt:=(PySem.Challenge.pw_foreseehall_k22_papers_checked.main.body)[i]!
theorem Mm{u:Type _}{a:u}(s:List u){t:List u}(h:a∈t):a∈s++t:=List.mem_append_right s h
theorem Mn{u:Type _}{a:u}{s:List u}(t:List u)(h:a∈s):a∈s++t:=List.mem_append_left t h
theorem Mo{u:Type _}{a:u}{s t:List u}(h:a∈s++t):a∈s\/a∈t:=List.mem_append.mp h
theorem Mp{u:Type _}{a b:u}{t:List u}(h:a∈b::t):a=b\/a∈t:=List.mem_cons.mp h
theorem Mq{u:Type _}{l:List u}{i:Nat}(h:i<l.length):l[i]?=some l[i]:=List.getElem?_eq_getElem h
theorem Mr{u:Type _}{l:List u}{i:Nat}{a:u}:l.getD i a=l[i]?.getD a:=List.getD_eq_getElem?_getD
theorem Ms{u:Type _}(y:u){a:u}{l:List u}(h:a∈l):a∈y::l:=List.mem_cons_of_mem y h
abbrev Mt{u:Type _}{a b:List u}:=(List.nodup_append (l₁:=a) (l₂:=b)).mp
abbrev Mv{u:Type _}{a:u}{l:List u}{i:Nat}:=(List.getElem?_eq_some_iff (l:=l) (i:=i) (a:=a)).mp
abbrev Mw:=@PySem.wpAny_bind
abbrev Mx:=@PySem.wpAny_pure
abbrev My:=@PySem.Heap.get?_push_of_some
abbrev Mz:=@Nat.le_refl
abbrev MA:=PySem.PyData
namespace L2
open PySem PySem.Spec PyProof.Rows
variable{A:Around}{h:Heap}{o:Obj}{g':Array GenState}{t' k:Nat}{d':Drawn}{l:Addr}{x:Str}{e c:Expr}{N:List Str}{M:Model}{B:List (Addr×Obj)}{K:Fg}{g:Int->Int->Int}{U:Str->Option Value}
abbrev lW:=Sum Int Str
noncomputable def Av:lW->Value->Bool
 |.inl k,v=>Value.isInt k v
 |.inr x,v=>Value.isStrOf x v
noncomputable def CG(w:World):lW->Int
 |.inl k=>hashInt k
 |.inr x=>hashStr w x
theorem xC:∀{k:lW}{v:Value},Av k v=true->(∃i t,k=Sum.inl i/\v=Value.int i t)\/(∃x t,k=Sum.inr x/\v=Value.str x t)
 |.inl i,v,h=>by
  obtain⟨t,e⟩:=Value.isInt_shape (k:=i) (v:=v) h
  exact .inl ⟨i,t,rfl,e⟩
 |.inr x,v,h=>by
  obtain⟨t,e⟩:=Value.isStrOf_shape (x:=x) (v:=v) h
  exact .inr ⟨x,t,rfl,e⟩
theorem CF(a b:Int):decide ((Sum.inl a:lW)=Sum.inl b)=(a==b):=by
 by_cases e:a=b
 .subst e;simp
 .have h:¬(Sum.inl a:lW)=Sum.inl b:=λq=>e (Sum.inl.inj q)
  rw[decide_eq_false h];exact(beq_eq_false_iff_ne.mpr e).symm
theorem CB(a b:Str):decide ((Sum.inr a:lW)=Sum.inr b)=decide (a=b):=by
 by_cases e:a=b
 .subst e;simp
 .have h:¬(Sum.inr a:lW)=Sum.inr b:=λq=>e (Sum.inr.inj q)
  rw[decide_eq_false h,decide_eq_false e]
theorem CD(a:Int)(b:Str):decide ((Sum.inl a:lW)=Sum.inr b)=false:=decide_eq_false (λq=>nomatch q)
theorem CC(a:Str)(b:Int):decide ((Sum.inr a:lW)=Sum.inl b)=false:=decide_eq_false (λq=>nomatch q)
noncomputable def mJ(c:Program)(w:World):PySem.KeyKind c w lW where
 is:=Av
 hash:=CG w
 inj:=λv a b Z U=>by
  rcases xC Z with⟨i,t,rfl,rfl⟩|⟨x,t,rfl,rfl⟩
  .rcases xC U with⟨j,u,rfl,e⟩|⟨y,u,rfl,e⟩
   .injection e with e1 _;rw[e1]
   .exact nomatch e
  .rcases xC U with⟨j,u,rfl,e⟩|⟨y,u,rfl,e⟩
   .exact nomatch e
   .injection e with e1 _;rw[e1]
 byValue:=λk v h=>by
  rcases xC h with⟨i,t,rfl,rfl⟩|⟨x,t,rfl,rfl⟩<;>rfl
 pyHash:=λf h=>by
  rcases xC f with⟨i,t,rfl,rfl⟩|⟨x,t,rfl,rfl⟩
  .exact wpAny_pyHash_int h
  .exact wpAny_pyHash_str h
 eqBool:=λE f h=>by
  rcases xC E with⟨i,t,rfl,rfl⟩|⟨x,t,rfl,rfl⟩
  .rcases xC f with⟨j,u,rfl,rfl⟩|⟨y,u,rfl,rfl⟩
   .rw[CF]at h;exact wpAny_eqBool_int h
   .rw[CD]at h;exact SeqAt.EqAt.int_str i t y u _ _ _ _ h
  .rcases xC f with⟨j,u,rfl,rfl⟩|⟨y,u,rfl,rfl⟩
   .rw[CC]at h;exact SeqAt.EqAt.str_int x t j u _ _ _ _ h
   .rw[CB]at h;exact wpAny_eqBool_str h
 «strs»:=λk x t v h=>by
  rcases xC h with⟨i,u,rfl,e⟩|⟨y,u,rfl,e⟩
  .exact nomatch e
  .injection e with e1 _
   subst e1
   cases v<;>rfl
inductive V where
 |non|bl (b:Bool)|int (i:Int)|str (x:Str)|byt (b:Array UInt8)|flt (b:UInt64)|ref (a:Addr)|ty (n:String)
 deriving DecidableEq
noncomputable def RelV:V->Value->Prop
 |.non,u=>u=Value.none
 |.bl b,u=>u=Value.bool b
 |.int i,u=>∃t,u=Value.int i t
 |.str x,u=>∃t,u=Value.str x t
 |.byt b,u=>∃t,u=Value.bytes b t
 |.flt b,u=>∃t,u=Value.float b t
 |.ref a,u=>u=Value.ref a
 |.ty n,u=>u=Value.type n
noncomputable abbrev Vals:List V->List Value->Prop:=Paired RelV
theorem Vals.length{L:List V}{A:List Value}(r:Vals L A):L.length=A.length:=Paired.length r
theorem Vals.get:∀{L:List V}{us:List Value}{i:Nat}{x:V},Vals L us->L[i]?=some x->∃u,us[i]?=some u/\RelV x u
 |_,_,_,_,.nil,e=>by simp at e
 |_,_,0,_,.cons r _,e=>by simp at e;subst e;exact⟨_,rfl,r⟩
 |_,_,i+1,x,.cons _ t,e=>by
  obtain⟨u,Y,M⟩:=Vals.get (i:=i) (x:=x) t (by simpa using e)
  exact⟨u,by simpa using Y,M⟩
theorem Vals.set{x:V}{u:Value}(r:RelV x u):∀{L:List V}{us:List Value}(i:Nat),Vals L us->Vals (L.set i x) (us.set i u)
 |_,_,_,.nil=>.nil
 |_,_,0,.cons _ t=>.cons r t
 |_,_,i+1,.cons q t=>.cons q (Vals.set r i t)
theorem Vals.append:∀{L R:List V}{us ws:List Value},Vals L us->Vals R ws->Vals (L++R) (us++ws)
 |_,_,_,_,.nil,s=>s
 |_,_,_,_,.cons r t,s=>.cons r (Vals.append t s)
theorem Vals.take:∀{L:List V}{us:List Value}(n:Nat),Vals L us->Vals (L.take n) (us.take n)
 |_,_,0,_=>.nil
 |_,_,_+1,.nil=>.nil
 |_,_,n+1,.cons r t=>.cons r (Vals.take n t)
theorem Vals.drop:∀{L:List V}{us:List Value}(n:Nat),Vals L us->Vals (L.drop n) (us.drop n)
 |_,_,0,r=>r
 |_,_,_+1,.nil=>.nil
 |_,_,n+1,.cons _ t=>Vals.drop n t
noncomputable def Dn:Option V->Option Value->Prop
 |some v,some u=>RelV v u
 |none,none=>True
 |_,_=>False
noncomputable def KV{d:Type}:List (d×V)->List (d×Value)->Prop:=Paired λ(p:d×V)(q:d×Value)=>p.1=q.1/\RelV p.2 q.2
noncomputable def kV:lW->V
 |.inl i=>.int i
 |.inr x=>.str x
inductive HO where
 |lst (xs:List V)
 |tup (xs:List V)
 |dK (kvs:List (lW×V))|dT (kvs:List (List lW×V))
 |set (S:Int->Bool) (n:Nat)
 |ins (C dx:Addr) (fs:List (Str×V))
 |own (x:Addr)
 |xd (fs:List (Str×V))
 |met (f x:Addr)
 |rng (lo hi:Int)
 |frz (o:Obj) (u:HO)
 |tbl (ps:Array Value)
 |ext (φ:Heap->Prop)
abbrev Hp:=Addr->Option HO
noncomputable def upd(H:Hp)(a:Addr)(o:HO):Hp:=λb=>if b=a then some o else H b
theorem eV{H:Hp}{a:Addr}{o:HO}:upd H a o a=some o:=by unfold upd;rw[if_pos rfl]
theorem eT{H:Hp}{a b:Addr}{o:HO}(h:b≠a):upd H a o b=H b:=by unfold upd;rw[if_neg h]
theorem xk{H:Hp}{a b:Addr}{o:HO}(h:H a=some o)(Z:H b=none):a≠b:=by
 intro e;subst e;rw[h]at Z;cases Z
section
variable(P:Program)(w:World)
noncomputable def ObjOk(H:Hp)(h:Heap)(a:Addr):HO->Prop
 |.lst L=>L.length<=sizeLine/\∃(g:List Value)(n:Nat),Vals L g/\h.get? a=some {cls:=.type "list",data:=.seq g.toArray n}
 |.tup L=>L.length<=sizeLine/\∃g:List Value,Vals L g/\IsTup h a g.toArray
 |.dK j=>j.length<=sizeLine/\(a==sysModules)=false/\∃B,KV j B/\h.DictOf (mJ P w) a B
 |.dT j=>j.length<=sizeLine/\(a==sysModules)=false/\∃L:List (List lW×Addr×Value),
   Paired (λ(p:List lW×V)(q:List lW×Addr×Value)=>p.1=q.1/\H q.2.1=some (.tup (p.1.map kV))/\RelV p.2 q.2.2) j L /\
   ∃o F N,h.get? a=some o/\o.ExactDict/\o.data=.dict F N/\F.toList=L.map (entryOfKey (tupleKind (mJ P w)))/\(L.map (·.1)).Nodup
 |.set S n=>h.SetOf (intKind P w) a S n
 |.ins C s fs=>H s=some (.own a)/\fs.length<=1000/\s≠a/\h.get? a=some (PySem.W.instObj C s) /\
   ∃U,h.Ns1 s U/\(∀f,Dn (fs.lookup f) (U f))/\PySem.Within U (fs.map (·.1))
 |.own _=>∃o,h.get? a=some o
 |.xd fs=>∃U,h.Ns1 a U/\∀f,Dn (fs.lookup f) (U f)
 |.rng G l=>∃t u v,h.get? a=some {cls:=.type "range",data:=.fields #[.int G t,.int l u,.int 1 v]}
 |.frz o u=>h.get? a=some o/\ObjOk H h a u
 |.tbl J=>h.get? a=some {cls:=.none,data:=.fields J}
 |.met f x=>h.get? a=some (PySem.W.methodObj (.ref f) (.ref x))
 |.ext i=>i h/\(∃o,h.get? a=some o)/\∀Y M:Heap,i Y->(∀o,Y.get? a=some o->M.get? a=some o)->i M
noncomputable def HOk(H:Hp)(h:Heap):Prop:=∀a o,H a=some o->ObjOk P w H h a o
end
section
variable{P:Program}{w:World}{H H':Hp}{h h':Heap}{a:Addr}{o:HO}
theorem ObjOk.lt(x:ObjOk P w H h a o):a<h.objs.size:=by
 cases o with
 |lst L=>obtain⟨_,_,_,_,e⟩:=x;exact Heap.lt_size e
 |tup L=>obtain⟨_,_,_,p⟩:=x;exact p.lt
 |dK j=>obtain⟨_,_,_,_,o,_,_,e,_⟩:=x;exact Heap.lt_size e
 |dT j=>obtain⟨_,_,_,_,o,_,_,e,_⟩:=x;exact Heap.lt_size e
 |set S n=>obtain⟨o,_,_,_,e,_⟩:=x;exact Heap.lt_size e
 |ins C s fs=>obtain⟨_,_,_,e,_⟩:=x;exact Heap.lt_size e
 |own y=>obtain⟨_,e⟩:=x;exact Heap.lt_size e
 |xd fs=>obtain⟨_,⟨_,_,_,e,_⟩,_⟩:=x;exact Heap.lt_size e
 |rng G l=>obtain⟨_,_,_,e⟩:=x;exact Heap.lt_size e
 |frz E u=>obtain⟨e,_⟩:=x;exact Heap.lt_size e
 |tbl J=>exact Heap.lt_size (show h.get? a=some _ from x)
 |met f y=>exact Heap.lt_size (show h.get? a=some _ from x)
 |ext i=>obtain⟨_,⟨_,e⟩,_⟩:=x;exact Heap.lt_size e
theorem Paired.mapP{u E:Type}{F G:u->E->Prop}:∀{c:List u}{l₂:List E},Paired F c l₂->(∀a b,F a b->G a b)->Paired G c l₂
 |_,_,.nil,_=>.nil
 |_,_,.cons r t,f=>.cons (f _ _ r) (Paired.mapP t f)
theorem ObjOk.stay(x:ObjOk P w H h a o)(k:∀b u,(b=a\/H b=some (.own a))->h.get? b=some u->h'.get? b=some u)(K:∀b,H b=some (.own a)->H' b=some (.own a))(A:∀b L,H b=some (.tup L)->H' b=some (.tup L)):ObjOk P w H' h' a o:=by
 induction o with
 |lst L=>obtain⟨z,g,n,r,e⟩:=x;exact⟨z,g,n,r,k _ _ (.inl rfl) e⟩
 |tup L=>obtain⟨z,g,r,E,e,c⟩:=x;exact⟨z,g,r,E,k _ _ (.inl rfl) e,c⟩
 |dK j=>obtain⟨z,y,B,r,E,F,N,e,c⟩:=x;exact⟨z,y,B,r,E,F,N,k _ _ (.inl rfl) e,c⟩
 |dT j=>
  obtain⟨z,y,L,r,E,F,N,e,c⟩:=x;exact⟨z,y,L,Paired.mapP r λp q z=>⟨z.1,A _ _ z.2.1,z.2.2⟩,E,F,N,k _ _ (.inl rfl) e,c⟩
 |set S n=>obtain⟨E,F,N,t,e,c⟩:=x;exact⟨E,F,N,t,k _ _ (.inl rfl) e,c⟩
 |ins C s fs=>
  obtain⟨d,z,ne,e,U,⟨M,F,N,R,c⟩,r⟩:=x;exact⟨K _ d,z,ne,k _ _ (.inl rfl) e,U,⟨M,F,N,k _ _ (.inr d) R,c⟩,r⟩
 |own y=>obtain⟨E,e⟩:=x;exact⟨E,k _ _ (.inl rfl) e⟩
 |xd fs=>obtain⟨U,⟨M,F,N,e,c⟩,r⟩:=x;exact⟨U,⟨M,F,N,k _ _ (.inl rfl) e,c⟩,r⟩
 |rng G l=>obtain⟨t,u,v,e⟩:=x;exact⟨t,u,v,k _ _ (.inl rfl) e⟩
 |frz E u I=>obtain⟨e,q⟩:=x;exact⟨k _ _ (.inl rfl) e,I q⟩
 |tbl J=>
  have e:h.get? a=some {cls:=.none,data:=.fields J}:=x
  show h'.get? a=some {cls:=.none,data:=.fields J}
  exact k a _ (.inl rfl) e
 |met f y=>
  have e:h.get? a=some (PySem.W.methodObj (.ref f) (.ref y)):=x
  show h'.get? a=some (PySem.W.methodObj (.ref f) (.ref y))
  exact k a _ (.inl rfl) e
 |ext i=>obtain⟨p,⟨o,e⟩,m⟩:=x;exact⟨m _ _ p λo q=>k _ _ (.inl rfl) q,⟨o,k _ _ (.inl rfl) e⟩,m⟩
theorem HOk.lt(x:HOk P w H h)(e:H a=some o):a<h.objs.size:=(x a o e).lt
theorem HOk.fresh(x:HOk P w H h)(e:h.objs.size<=a):H a=none:=by
 cases q:H a with
 |none=>rfl
 |some u=>exact absurd (Nat.lt_of_lt_of_le (x.lt q) e) (Nat.lt_irrefl _)
theorem HOk.kept(x:HOk P w H h)(k:∀b u,h.get? b=some u->h'.get? b=some u):HOk P w H h':=λa o e=>
 (x a o e).stay (λb u _ q=>k b u q) (λ_ q=>q) λ_ _ q=>q
theorem HOk.laid(x:HOk P w H h)(k:∀b u,h.get? b=some u->h'.get? b=some u)(C:h.objs.size<=a)(new:ObjOk P w (upd H a o) h' a o):HOk P w (upd H a o) h':=λb u e=>by
 have j:=x.fresh C
 by_cases U:b=a
 .subst U;rw[eV]at e;cases e;exact new
 .rw[eT U]at e
  exact(x b u e).stay (λc v _ q=>k c v q) (λc q=>by rw[eT (xk q j)];exact q) λc L q=>by rw[eT (xk q j)];exact q
end
noncomputable def Rd(H:Hp)(a:Addr)(u:HO):Prop:=H a=some u\/∃o,H a=some (.frz o u)
theorem Rd.ok{P:Program}{w:World}{H:Hp}{a:Addr}{u:HO}(r:Rd H a u)(x:HOk P w H h):ObjOk P w H h a u:=by
 rcases r with r|⟨o,r⟩
 .exact x a u r
 .obtain⟨_,q⟩:=x a _ r
  exact q
noncomputable def HV:Option HO->Prop
 |some (.lst _)=>True
 |some (.dK _)=>True
 |some (.dT _)=>True
 |some (.set _ _)=>True
 |some (.ins _ _ _)=>True
 |some (.ext _)=>True
 |_=>False
section
variable{P:Program}{w:World}{H:Hp}{h h':Heap}{x e:Addr}{o':HO}
theorem HOk.write(ok:HOk P w H h)(i:HV (H x))(R:e=x\/H e=some (.own x))(k:∀b u,b≠e->h.get? b=some u->h'.get? b=some u)(g:∃u,h'.get? e=some u)(new:ObjOk P w (upd H x o') h' x o'):HOk P w (upd H x o') h':=λb u q=>by
 have a:∀c y,H c=some (.own y)->c≠x:=λc y r z=>by subst z;rw[r]at i;exact i
 have j:∀c L,H c=some (.tup L)->c≠x:=λc L r z=>by subst z;rw[r]at i;exact i
 by_cases U:b=x
 .subst U;rw[eV]at q;cases q;exact new
 .rw[eT U]at q
  by_cases d:b=e
  .have t:H b=some (.own x):=by
    rcases R with z|z
    .exact absurd (d.trans z) U
    .rw[d];exact z
   rw[q]at t;cases t
   obtain⟨v,f⟩:=g;exact⟨v,by rw[d];exact f⟩
  .refine(ok b u q).stay (λc v J r=>k c v ?_ r) (λc r=>by rw[eT (a c b r)];exact r) λc L r=>by rw[eT (j c L r)];exact r
   rcases J with rfl|J
   .exact d
   .rintro rfl
    rcases R with z|z
    .exact a c b J z
    .rw[J]at z;cases z;exact U rfl
end
structure Un(fs ex:List Addr)(H H':Hp)(h h':Heap):Prop where
 keep:∀b o,h.get? b=some o->H b=none->b∉fs->b∉ex->h'.get? b=some o
 slot:∀b o,h.get? b=some o->H b=none->b∈fs->b∉ex->∃sl,h'.get? b=some {o with slots:=sl}
 free:∀b o,h.get? b=some o->H b=none->b∉ex->H' b=none
 there:∀b o,h.get? b=some o->b∉ex->∃o',h'.get? b=some o'
 tups:∀b xs,H b=some (.tup xs)->H' b=some (.tup xs)
 frzs:∀b o u,H b=some (.frz o u)->H' b=some (.frz o u)
 tbls:∀b ps,H b=some (.tbl ps)->∃more,H' b=some (.tbl (ps++more))
section
variable{fs fs' ex ex':List Addr}{H H1 H2:Hp}{h h1 h2 h':Heap}{a x e:Addr}{o:HO}
theorem Un.any(u:Un fs ex H H1 h h1){b:Addr}{E:Obj}(q:h.get? b=some E)(n:H b=none)(F:b∉ex):∃B,h1.get? b=some {E with slots:=B}:=by
 by_cases U:b∈fs
 .exact u.slot b E q n U F
 .exact⟨E.slots,u.keep b E q n U F⟩
theorem Un.kept(k:∀b u,h.get? b=some u->h'.get? b=some u):Un fs ex H H h h':=
 ⟨λb E q _ _ _=>k b E q,λb E q _ _ _=>⟨E.slots,k b E q⟩,λ_ _ _ n _=>n,λb E q _=>⟨E,k b E q⟩,λ_ _ q=>q,λ_ _ _ q=>q,λ_ J q=>⟨#[],by rw[q];simp⟩⟩
theorem Un.refl:Un fs ex H H h h:=Un.kept λ_ _ q=>q
theorem Un.laid(k:∀b u,h.get? b=some u->h'.get? b=some u)(C:h.objs.size<=a)(j:H a=none):Un fs ex H (upd H a o) h h' where
 keep:=λb u q _ _ _=>k b u q
 slot:=λb u q _ _ _=>⟨u.slots,k b u q⟩
 free:=λb u q n _=>by rw[eT (Nat.ne_of_lt (Nat.lt_of_lt_of_le (Heap.lt_size q) C))];exact n
 there:=λb u q _=>⟨u,k b u q⟩
 tups:=λb L q=>by rw[eT (xk q j)];exact q
 frzs:=λb u L q=>by rw[eT (xk q j)];exact q
 tbls:=λb J q=>⟨#[],by rw[eT (xk q j),q];simp⟩
theorem Un.write(i:HV (H x))(R:e=x\/H e=some (.own x))(k:∀b u,b≠e->h.get? b=some u->h'.get? b=some u)(g:∃u,h'.get? e=some u):Un fs ex H (upd H x o) h h':=by
 have F:∀b,H b=none->b≠x:=λb n z=>by subst z;rw[n]at i;exact i
 have U:∀b,H b=none->b≠e:=λb n z=>by
  subst z;rcases R with r|r
  .exact F b n r
  .rw[n]at r;cases r
 have E:∀b u,H b=some u->¬HV (some u)->b≠x:=λb u q G z=>by subst z;rw[q]at i;exact G i
 refine⟨λb u q n _ _=>k b u (U b n) q,λb u q n _ _=>⟨u.slots,k b u (U b n) q⟩,λb u q n _=>by rw[eT (F b n)];exact n,λb u q _=>?_,
  λb L q=>by rw[eT (E b _ q λz=>z)];exact q,λb u L q=>by rw[eT (E b _ q λz=>z)];exact q,λb J q=>⟨#[],by rw[eT (E b _ q λz=>z),q];simp⟩⟩
 by_cases d:b=e
 .subst d;exact g
 .exact⟨u,k b u d q⟩
end
noncomputable def Hn(h:Heap)(H:Hp):List Addr:=(List.range h.objs.size).filter λa=>(H a).isSome
noncomputable def mM(h:Heap)(H:Hp):Heap:=PySem.W.hideAll h (Hn h H)
theorem tG(h:Heap)(H:Hp):(mM h H).objs.size=h.objs.size:=PySem.W.hideAll_size _ _
theorem wg{H:Hp}{b:Addr}(e:h.get? b=some o)(n:H b=none):(mM h H).get? b=some o:=
 PySem.W.hideAll_get _ e λE=>by
  have q:(H b).isSome=true:=(List.mem_filter.mp E).2
  rw[n]at q;simp at q
theorem yN{H:Hp}{b:Addr}(e:(mM h H).get? b=some o):h.get? b=some o/\H b=none:=by
 have J:h.get? b=some o:=PySem.W.of_hideAll (Hn h H) e
 refine⟨J,?_⟩
 cases q:H b with
 |none=>rfl
 |some x=>
  have E:b∈Hn h H:=List.mem_filter.mpr ⟨List.mem_range.mpr (Heap.lt_size J),by simp[q]⟩
  have z:(mM h H).get? b=none:=PySem.W.hideAll_none (Hn h H) E
  rw[z]at e;cases e
noncomputable def zS(g h:Heap)(L:Addr):List (Addr×Obj):=(List.range h.objs.size).filterMap λa=>if a=L\/(g.get? a).isSome=true then none else(h.get? a).map λo=>(a,o)
noncomputable def cP(g h:Heap)(L d:Addr):List (Addr×Obj):=(zS g h L).filter λp=>decide (p.1≠d)
structure Mod(K:Fg)(mg:Str->Option Value)(base:Heap):Prop where
 kin:K.In base
 glob:base.Ns mainGlobals mg
 blt:∃mb,base.Ns builtinsNs mb/\∀x:Str,x ≠ "__name__"->mb x=bootBuiltins x
 nolimit:base.NoLimit
structure Cx where
 prog:Program
 w:World
 K:Fg
 mg:Str->Option Value
 base:Heap
 A:Around
 N:List Str
 s₀:Shared
 H₀:Hp
 env:Env
 outer:List Env
 stack:List Env
 ex:List Addr
 fn:Str->Bool
 calm:Bool
 pn:List (Addr×Obj)
 xe:Value->Shared->Prop
noncomputable def wx(l:List Env):List Addr:=l.filterMap (·.frame)
noncomputable abbrev Cx.fs(X:Cx):List Addr:=wx X.outer
noncomputable def Dk(sc:Scope)(x:Str):Prop:=sc.names.lookup x=some .local\/sc.names.lookup x=some .cell\/sc.names.lookup x=some .free
noncomputable def Loc(sc:Scope)(x:Str):Prop:=sc.names.lookup x=some .local\/sc.names.lookup x=some .cell
noncomputable def Look(env:Env)(h:Heap)(m:Str->Option Value)(x:Str)(u:Value):Prop:=
 (env.kindOf x=some .local/\m x=some u)\/((env.kindOf x=some .cell\/env.kindOf x=some .free)/\∃c,env.cells.lookup x=some c/\h.IsCell c (some u))
structure Cx.Ok(X:Cx):Prop where
 mod:Mod X.K X.mg X.base
 kind:X.env.scope.kind=.function
 glob:X.env.globals=mainGlobals
 blt:X.env.builtins=builtinsNs
 above:X.s₀.heap.objs.size<=X.env.locals
 inj:∀x y c,X.env.cells.lookup x=some c->X.env.cells.lookup y=some c->x=y
 has:∀x,(X.env.kindOf x=some .cell\/X.env.kindOf x=some .free)->∃c,X.env.cells.lookup x=some c
 cab:∀x c,X.fn x=true->X.env.cells.lookup x=some c->X.s₀.heap.objs.size<=c
 hd:X.calm=true->X.A.handled=none
 frames:X.A.frames=some X.stack
 stk:X.stack=X.outer\/(X.stack=X.env::X.outer/\X.env.frame=some X.env.locals)
 exf:∀b∈X.ex,b≠X.env.locals/\∀x c,X.env.cells.lookup x=some c->c≠b
 bs:∀b o,X.base.get? b=some o->X.s₀.heap.get? b=some o/\X.H₀ b=none
 bsz:X.base.objs.size<=X.s₀.heap.objs.size
 noex:∀b o,X.base.get? b=some o->b∉X.ex
 exfs:∀b∈X.ex,b∉X.fs
 funs:X.s₀.heap.FunFrames X.base X.outer
 frf:∀b∈X.fs,X.H₀ b=none
structure Inv(X:Cx)(pins:List (Addr×Obj))(σ:List (Option V))(H:Hp)(s:Shared):Prop where
 ok:X.Ok
 os:s.os=X.s₀.os
 bare:AllBare s.gens
 base:Un X.fs X.ex X.H₀ H X.s₀.heap s.heap
 loc:∃m,s.heap.Ns X.env.locals m/\∀(i:Nat)(x:Str)(v:V),X.N[i]?=some x->σ[i]?=some (some v)->Dk X.env.scope x->∃u,RelV v u/\Look X.env s.heap m x u
 cell:∀x c,X.env.cells.lookup x=some c->∃v,s.heap.IsCell c v
 free:H X.env.locals=none
 freeC:∀x c,X.env.cells.lookup x=some c->H c=none
 pin:∀p∈X.pn++pins,s.heap.get? p.1=some p.2/\H p.1=none/\p.1≠X.env.locals/\p.1∉X.fs/\∀v,p.2.data≠.cell v
 hok:HOk X.prog X.w H s.heap
 len:σ.length=X.N.length
section
variable{X:Cx}{pins:List (Addr×Obj)}{σ:List (Option V)}{H H':Hp}{s:Shared}{h':Heap}
theorem Cx.Ok.nofr(ok:X.Ok){b:Addr}(e:X.base.get? b=some o):b∉X.fs:=λU=>by
 have:=(ok.funs.mem U).1
 rw[e]at this;cases this
theorem Inv.bs(I:Inv X pins σ H s):∀b o,X.base.get? b=some o->s.heap.get? b=some o/\H b=none:=λb o e=>
 ⟨I.base.keep b o (I.ok.bs b o e).1 (I.ok.bs b o e).2 (I.ok.nofr e) (I.ok.noex b o e),I.base.free b o (I.ok.bs b o e).1 (I.ok.bs b o e).2 (I.ok.noex b o e)⟩
theorem Inv.bk(I:Inv X pins σ H s):∀b o,X.base.get? b=some o->s.heap.get? b=some o:=λb o e=>(I.bs b o e).1
theorem Inv.mod(I:Inv X pins σ H s):Mod X.K X.mg X.base:=I.ok.mod
theorem Inv.kIn(I:Inv X pins σ H s):X.K.In s.heap:=I.ok.mod.kin.keeps I.bk
theorem Inv.lt(I:Inv X pins σ H s):X.env.locals<s.heap.objs.size:=let⟨_,j,_⟩:=I.loc;j.lt
theorem Inv.sz(I:Inv X pins σ H s):X.s₀.heap.objs.size<=s.heap.objs.size:=Nat.le_trans I.ok.above (Nat.le_of_lt I.lt)
theorem Inv.nofs(I:Inv X pins σ H s){a:Addr}(h:s.heap.objs.size<=a):a∉X.fs:=λU=>by
 obtain⟨_,o,K,_⟩:=I.ok.funs.mem U;exact absurd (Nat.lt_of_lt_of_le (Heap.lt_size K) (Nat.le_trans I.sz h)) (Nat.lt_irrefl _)
theorem Inv.cne(I:Inv X pins σ H s):∀x c,X.env.cells.lookup x=some c->c≠X.env.locals:=λx c e z=>by
 obtain⟨v,o,K,y⟩:=I.cell x c e;obtain⟨m,⟨f,F,N,i,a,_⟩,_⟩:=I.loc;rw[z,i]at K;cases K;rw[a]at y;cases y
theorem Inv.funs(I:Inv X pins σ H s):s.heap.FunFrames X.base X.outer:=by
 have all:∀(l:List Env),(∀b∈wx l,b∈X.fs)->X.s₀.heap.FunFrames X.base l->s.heap.FunFrames X.base l:=by
  intro l;induction l with
  |nil=>intro _ _;trivial
  |cons env r B=>
   intro P S;obtain⟨G,⟨L,o,g,j,K,y⟩,m⟩:=S;have h:L∈X.fs:=P L (by unfold wx;rw[List.filterMap_cons,g];exact mem_cons_self)
   obtain⟨a,e⟩:=I.base.slot L o K (I.ok.frf L h) h λz=>I.ok.exfs L z h
   exact⟨G,⟨L,_,g,j,e,y⟩,B (λb U=>P b (by unfold wx;rw[List.filterMap_cons,g];exact Ms _ U)) m⟩
 exact all X.outer (λ_ U=>U) I.ok.funs
theorem Inv.stack(I:Inv X pins σ H s):s.heap.FunFrames X.base X.stack:=by
 rcases I.ok.stk with e|⟨e,hf⟩
 .rw[e];exact I.funs
 .rw[e]
  obtain⟨m,j,_⟩:=I.loc;refine .cons (by rw[I.ok.kind];decide) hf j ?_ I.funs
  exact Heap.get?_none_of_le (Nat.le_trans I.ok.bsz I.ok.above)
theorem Inv.stkSub(I:Inv X pins σ H s):∀b∈wx X.stack,b∈X.env.locals::X.fs:=λb U=>by
 rcases I.ok.stk with e|⟨e,hf⟩
 .rw[e]at U;exact Ms _ U
 .rw[e]at U
  unfold wx at U;rw[List.filterMap_cons,hf]at U;exact U
theorem Inv.stkFree(I:Inv X pins σ H s):∀b∈wx X.stack,H b=none:=λb U=>by
 rcases Mp (I.stkSub b U)with e|U
 .rw[e];exact I.free
 .obtain⟨_,o,K,_⟩:=I.ok.funs.mem U
  exact I.base.free b o K (I.ok.frf b U) λz=>I.ok.exfs b z U
theorem Inv.step{ch:List Addr}(I:Inv X pins σ H s)(a:∀b∈ch,(b∈X.ex\/X.s₀.heap.objs.size<=b)/\b≠X.env.locals/\(∀x c,X.env.cells.lookup x=some c->c≠b)/\∀p∈X.pn++pins,p.1≠b)(keep:∀b o,b≠X.env.locals->b∉X.fs->b∉ch->s.heap.get? b=some o->H b=none->h'.get? b=some o)(g:∀b o,b≠X.env.locals->b∈X.fs->b∉ch->s.heap.get? b=some o->H b=none->∃B,h'.get? b=some {o with slots:=B})(free:∀b o,b∉ch->s.heap.get? b=some o->H b=none->H' b=none)(E:∀b o,b∉ch->s.heap.get? b=some o->∃f,h'.get? b=some f)(P:∀b L,H b=some (.tup L)->H' b=some (.tup L))(frzs:∀b o u,H b=some (.frz o u)->H' b=some (.frz o u))(tbls:∀b ps,H b=some (.tbl ps)->∃Y,H' b=some (.tbl (ps++Y)))(Z:∀m,s.heap.Ns X.env.locals m->h'.Ns X.env.locals m)(A:HOk X.prog X.w H' h')(hg:AllBare g'):Inv X pins σ H' {s with heap:=h',gens:=g',drawn:=d',toks:=t'}:=by
 have G:∀b o,X.s₀.heap.get? b=some o->b≠X.env.locals:=λb o e=>Nat.ne_of_lt (Nat.lt_of_lt_of_le (Heap.lt_size e) I.ok.above)
 have w:∀b o,X.s₀.heap.get? b=some o->b∉X.ex->b∉ch:=λb o e F U=>by
  rcases(a b U).1 with z|z
  .exact F z
  .exact absurd (Nat.lt_of_lt_of_le (Heap.lt_size e) z) (Nat.lt_irrefl _)
 have t:∀x c,X.env.cells.lookup x=some c->∀v,s.heap.IsCell c v->h'.IsCell c v:=λx c e v ⟨o,K,y⟩=>by
  have h:c∉ch:=λz=>(a c z).2.2.1 x c e rfl
  by_cases J:c∈X.fs
  .obtain⟨B,q⟩:=g c o (I.cne x c e) J h K (I.freeC x c e)
   exact⟨_,q,y⟩
  .exact⟨o,keep c o (I.cne x c e) J h K (I.freeC x c e),y⟩
 refine⟨I.ok,I.os,hg,⟨λb o e n U F=>?_,λb o e n U F=>?_,λb o e n F=>?_,λb o e F=>?_,λb L e=>P b L (I.base.tups b L e),λb o L e=>frzs b o L (I.base.frzs b o L e),λb ps e=>?_⟩,?_,λx c e=>?_,?_,λx c e=>?_,λp C=>?_,A,I.len⟩
 .exact keep b o (G b o e) U (w b o e F) (I.base.keep b o e n U F) (I.base.free b o e n F)
 .obtain⟨B,N⟩:=I.base.slot b o e n U F
  obtain⟨sl',R⟩:=g b _ (G b o e) U (w b o e F) N (I.base.free b o e n F);exact⟨sl',R⟩
 .obtain⟨f,N⟩:=I.base.there b o e F
  exact free b f (w b o e F) N (I.base.free b o e n F)
 .obtain⟨f,N⟩:=I.base.there b o e F
  exact E b f (w b o e F) N
 .obtain⟨M,N⟩:=I.base.tbls b ps e
  obtain⟨m2,R⟩:=tbls b _ N;exact⟨M++m2,by rw[R,Array.append_assoc]⟩
 .obtain⟨m,j,S⟩:=I.loc
  refine⟨m,Z m j,λi x v N R e3=>?_⟩
  obtain⟨u,r,l⟩:=S i x v N R e3;refine⟨u,r,?_⟩
  rcases l with l|⟨k,c,e,z⟩
  .exact .inl l
  .exact .inr ⟨k,c,e,t x c e _ z⟩
 .obtain⟨v,z⟩:=I.cell x c e
  exact⟨v,t x c e v z⟩
 .obtain⟨m,⟨o,_,_,K,_⟩,_⟩:=I.loc
  exact free _ o (λz=>(a _ z).2.1 rfl) K I.free
 .obtain⟨v,o,K,y⟩:=I.cell x c e
  exact free c o (λz=>(a c z).2.2.1 x c e rfl) K (I.freeC x c e)
 .obtain⟨e,n,ne,nf,d⟩:=I.pin p C
  have h:p.1∉ch:=λz=>(a p.1 z).2.2.2 p C rfl
  exact⟨keep p.1 p.2 ne nf h e n,free p.1 p.2 h e n,ne,nf,d⟩
theorem Inv.un(I:Inv X pins σ H s)(u:Un X.fs [] H H' s.heap h')(A:HOk X.prog X.w H' h'):Inv X pins σ H' {s with heap:=h',toks:=t'}:=by
 obtain⟨m,⟨o,F,N,K,r⟩,_⟩:=id I.loc;obtain⟨B,h⟩:=u.any K I.free (by simp)
 exact I.step (g':=s.gens) (d':=s.drawn) (ch:=[]) (λ_ z=>nomatch z) (λb o _ U _ e n=>u.keep b o e n U (by simp)) (λb o _ U _ e n=>u.slot b o e n U (by simp)) (λb o _ e n=>u.free b o e n (by simp)) (λb o _ e=>u.there b o e (by simp)) u.tups u.frzs u.tbls (λl E=>by
  obtain⟨f,v,d,i,w⟩:=E;rw[K]at i;cases i
  exact⟨_,v,d,h,w⟩) A I.bare
theorem Inv.call{ch:List Addr}(I:Inv X pins σ H s)(u:Un (wx X.stack) ch H H' s.heap h')(A:HOk X.prog X.w H' h')(C:AllBare g')(a:∀b∈ch,(b∈X.ex\/X.s₀.heap.objs.size<=b)/\b≠X.env.locals/\(∀x c,X.env.cells.lookup x=some c->c≠b)/\∀p∈X.pn++pins,p.1≠b):Inv X pins σ H' {s with heap:=h',gens:=g',drawn:=d',toks:=t'}:=by
 obtain⟨m,⟨o,F,N,K,r⟩,_⟩:=id I.loc;obtain⟨B,h⟩:=u.any K I.free λz=>(a _ z).2.1 rfl
 exact I.step (ch:=ch) a (λb o h U J e n=>u.keep b o e n (λz=>(Mp (I.stkSub b z)).elim h U) J) (λb o _ _ J e n=>u.any e n J) (λb o J e n=>u.free b o e n J) (λb o J e=>u.there b o e J) u.tups u.frzs u.tbls (λl E=>by
  obtain⟨f,v,d,i,w⟩:=E;rw[K]at i;cases i
  exact⟨_,v,d,h,w⟩) A C
theorem Inv.turned(I:Inv X pins σ H s)(k:∀b o,b≠l->s.heap.get? b=some o->h'.get? b=some o)(j:H l=none)(h:l≠X.env.locals)(Y:l∈X.ex\/X.s₀.heap.objs.size<=l)(M:∀x c,X.env.cells.lookup x=some c->c≠l)(P:∀p∈X.pn++pins,p.1≠l):Inv X pins σ H {s with heap:=h',toks:=t'}:=by
 have f:∀b u,H b=some u->b≠l:=λb u e z=>by rw[z,j]at e;cases e
 refine I.step (g':=s.gens) (d':=s.drawn) (ch:=[l]) (λb U=>?_) (λb o _ _ J e _=>k b o (λz=>J (by simp[z])) e) (λb o _ _ J e _=>⟨o.slots,k b o (λz=>J (by simp[z])) e⟩) (λ_ _ _ _ n=>n)
  (λb o J e=>⟨o,k b o (λz=>J (by simp[z])) e⟩) (λ_ _ e=>e) (λ_ _ _ e=>e) (λb a e=>⟨#[],by rw[e];simp⟩) (λm E=>?_) (λb u e=>?_) I.bare
 .have e:b=l:=by simpa using U
  subst e;exact⟨Y,h,M,P⟩
 .obtain⟨o,F,N,K,r⟩:=E
  exact⟨o,F,N,k _ o (Ne.symm h) K,r⟩
 .refine(I.hok b u e).stay (λc v J q=>k c v ?_ q) (λ_ q=>q) λ_ _ q=>q
  rcases J with z|z
  .rw[z];exact f b u e
  .exact f c _ z
theorem Inv.tok(I:Inv X pins σ H s)(t:Nat):Inv X pins σ H {s with toks:=t}:=I.un (h':=s.heap) (t':=t) Un.refl I.hok
theorem Inv.kept(I:Inv X pins σ H s)(k:∀b u,s.heap.get? b=some u->h'.get? b=some u):Inv X pins σ H {s with heap:=h',toks:=t'}:=I.un (Un.kept k) (I.hok.kept k)
theorem Inv.laid{a:Addr}{o:HO}(I:Inv X pins σ H s)(k:∀b u,s.heap.get? b=some u->h'.get? b=some u)(C:s.heap.objs.size<=a)(new:ObjOk X.prog X.w (upd H a o) h' a o):Inv X pins σ (upd H a o) {s with heap:=h',toks:=t'}:=I.un (Un.laid k C (I.hok.fresh C)) (I.hok.laid k C new)
theorem Inv.write{x e:Addr}{o:HO}{N:Nat}(I:Inv X pins σ H s)(i:HV (H x))(R:e=x\/H e=some (.own x))(k:∀b u,b≠e->s.heap.get? b=some u->h'.get? b=some u)(g:∃u,h'.get? e=some u)(new:ObjOk X.prog X.w (upd H x o) h' x o):Inv X pins σ (upd H x o) {s with heap:=h',toks:=N}:=I.un (Un.write i R k g) (I.hok.write i R k g new)
theorem Inv.weak{Z:List (Option V)}(I:Inv X pins σ H s)(S:Z.length=σ.length)(w:∀(i:Nat) v,Z[i]?=some (some v)->σ[i]?=some (some v)):Inv X pins Z H s:=
 ⟨I.ok,I.os,I.bare,I.base,let⟨m,j,J⟩:=I.loc;⟨m,j,λi x v N R a=>J i x v N (w i v R) a⟩,I.cell,I.free,I.freeC,I.pin,I.hok,S.trans I.len⟩
theorem Inv.pins_of{a:List (Addr×Obj)}(I:Inv X pins σ H s)(h:∀p∈a,s.heap.get? p.1=some p.2/\H p.1=none/\p.1≠X.env.locals/\p.1∉X.fs/\∀v,p.2.data≠.cell v):Inv X a σ H s:=
 ⟨I.ok,I.os,I.bare,I.base,I.loc,I.cell,I.free,I.freeC,λp C=>(Mo C).elim (λz=>I.pin p (Mn _ z)) (h p),I.hok,I.len⟩
theorem oJ(L:N.Nodup){i j:Nat}(a:N[i]?=some x)(b:N[j]?=some x):i=j:=by
 obtain⟨Y,c⟩:=Mv a
 obtain⟨M,R⟩:=Mv b
 exact(List.getElem_inj L).mp (c.trans R.symm)
theorem kZ{E:Value->Shared->Prop}{i:Nat}{v:V}{u:Value}{Q:Unit->Shared->Prop}(I:Inv X pins σ H s)(L:X.N.Nodup)(l:X.N[i]?=some x)(F:Loc X.env.scope x)(r:RelV v u)(h:∀s',Inv X pins (σ.set i (some v)) H s'->(∃a,Heap.SameBut a s.heap s'.heap/\(a=X.env.locals\/X.env.cells.lookup x=some a))->Q () s')(g:X.fn x=true\/X.env.scope.names.lookup x=some .local:=by first|exact .inl rfl|exact .inr rfl|assumption):wpAny M A (storeName X.env x u) Q E s:=by
 obtain⟨m,hn,S⟩:=id I.loc;have hcls:(X.env.scope.kind==.class||(X.env.scope.kind==.module&&X.env.locals != X.env.globals))=false:=by rw[I.ok.kind];rfl
 have hiσ:i<σ.length:=by rw[I.len];exact(Mv l).1
 have cne:=I.cne
 have G:∀{a:Addr}{h':Heap},(∃o,s.heap.get? a=some o/\H a=none)->Heap.SameBut a s.heap h'->HOk X.prog X.w H h':=λ{a h'} ha P b ob e=>by
  obtain⟨_,_,Y⟩:=ha;refine(I.hok b ob e).stay (λc w' J q=>(P.2 c ?_).trans q) (λ_ q=>q) λ_ _ q=>q
  rintro rfl
  rcases J with rfl|J
  .rw[Y]at e;cases e
  .rw[Y]at J;cases J
 rcases F with hk|hk
 .refine wpAny_storeName_local hk hn (λh' hn' P=>?_) hcls
  obtain⟨oL,_,_,hoL,_⟩:=id hn;refine h _ ⟨I.ok,I.os,I.bare,⟨λb o e n U F=>?_,λb o e n U F=>?_,I.base.free,λb o e F=>?_,I.base.tups,I.base.frzs,I.base.tbls⟩,⟨_,hn',λj y t N R e3=>?_⟩,λy c e=>?_,I.free,I.freeC,λp C=>?_,G ⟨oL,hoL,I.free⟩ P,by simpa using I.len⟩ ⟨_,P,.inl rfl⟩
  .exact(P.2 b (Nat.ne_of_lt (Nat.lt_of_lt_of_le (Heap.lt_size e) I.ok.above))).trans (I.base.keep b o e n U F)
  .obtain⟨B,N⟩:=I.base.slot b o e n U F
   exact⟨B,(P.2 b (Nat.ne_of_lt (Nat.lt_of_lt_of_le (Heap.lt_size e) I.ok.above))).trans N⟩
  .obtain⟨f,N⟩:=I.base.there b o e F
   exact⟨f,(P.2 b (Nat.ne_of_lt (Nat.lt_of_lt_of_le (Heap.lt_size e) I.ok.above))).trans N⟩
  .by_cases hj:j=i
   .subst hj
    rw[l]at N;cases N;rw[getElem?_set_self hiσ]at R
    cases R;exact⟨u,r,.inl ⟨hk,by simp⟩⟩
   .rw[getElem?_set_ne (Ne.symm hj)]at R
    obtain⟨u',w,q⟩:=S j y t N R e3
    refine⟨u',w,?_⟩
    rcases q with⟨k,e⟩|⟨k,c,e,z⟩
    .refine .inl ⟨k,?_⟩
     have:y≠x:=λe=>hj (oJ L N (e▸l))
     simp[this,e]
    .exact .inr ⟨k,c,e,z.sameBut P (cne y c e)⟩
  .obtain⟨w',z⟩:=I.cell y c e
   exact⟨w',z.sameBut P (cne y c e)⟩
  .obtain⟨e,n,ne,Z,d⟩:=I.pin p C
   exact⟨(P.2 p.1 ne).trans e,n,ne,Z,d⟩
 .have hfn:X.fn x=true:=by
   rcases g with z|z
   .exact z
   .rw[z]at hk;cases hk
  obtain⟨c,J⟩:=I.ok.has x (.inl hk);obtain⟨w',z⟩:=I.cell x c J;refine wpAny_storeName_cell I.ok.kind hk J z (λh' K P=>?_)
  obtain⟨oc,hoc,hocd⟩:=id z;refine h {s with heap:=h'} ⟨I.ok,I.os,I.bare,⟨λb o e n U F=>?_,λb o e n U F=>?_,I.base.free,λb o e F=>?_,I.base.tups,I.base.frzs,I.base.tbls⟩,⟨m,hn.sameBut P (Ne.symm (cne x c J)),λj y t N R e3=>?_⟩,λy c' e=>?_,I.free,I.freeC,λp C=>?_,G ⟨oc,hoc,I.freeC x c J⟩ P,by simpa using I.len⟩ ⟨c,P,.inr J⟩
  .exact(P.2 b (Nat.ne_of_lt (Nat.lt_of_lt_of_le (Heap.lt_size e) (I.ok.cab x c hfn J)))).trans (I.base.keep b o e n U F)
  .obtain⟨B,N⟩:=I.base.slot b o e n U F
   exact⟨B,(P.2 b (Nat.ne_of_lt (Nat.lt_of_lt_of_le (Heap.lt_size e) (I.ok.cab x c hfn J)))).trans N⟩
  .obtain⟨f,N⟩:=I.base.there b o e F
   exact⟨f,(P.2 b (Nat.ne_of_lt (Nat.lt_of_lt_of_le (Heap.lt_size e) (I.ok.cab x c hfn J)))).trans N⟩
  .by_cases hj:j=i
   .subst hj
    rw[l]at N;cases N;rw[getElem?_set_self hiσ]at R
    cases R;exact⟨u,r,.inr ⟨.inl hk,c,J,K⟩⟩
   .rw[getElem?_set_ne (Ne.symm hj)]at R
    obtain⟨u',w,q⟩:=S j y t N R e3
    refine⟨u',w,?_⟩
    rcases q with q|⟨k,c',e,z'⟩
    .exact .inl q
    .refine .inr ⟨k,c',e,z'.sameBut P ?_⟩
     rintro rfl
     exact hj (oJ L N (I.ok.inj _ _ _ e J▸l))
  .by_cases hcc:c'=c
   .subst hcc;exact⟨_,K⟩
   .obtain⟨w2,z2⟩:=I.cell y c' e
    exact⟨w2,z2.sameBut P hcc⟩
  .obtain⟨e,n,ne,Z,d⟩:=I.pin p C
   refine⟨(P.2 p.1 ?_).trans e,n,ne,Z,d⟩
   intro q;rw[q,hoc]at e;have q':oc=p.2:=Option.some.inj e
   exact d w' (by rw[<-q'];exact hocd)
theorem Ji{E:Value->Shared->Prop}{i:Nat}{v:V}{u:Value}{Q:Unit->Shared->Prop}(I:Inv X pins σ H s)(L:X.N.Nodup)(l:X.N[i]?=some x)(F:Loc X.env.scope x)(r:RelV v u)(h:∀N,Inv X pins (σ.set i (some v)) H N->Q () N)(g:X.fn x=true\/X.env.scope.names.lookup x=some .local:=by first|exact .inl rfl|exact .inr rfl|assumption):wpAny M A (storeName X.env x u) Q E s:=
 kZ I L l F r (λN z _=>h N z) g
theorem Inv.call'{N:Shared}{ch:List Addr}(I:Inv X pins σ H s)(K:N.os=s.os)(u:Un (wx X.stack) ch H H' s.heap N.heap)(A:HOk X.prog X.w H' N.heap)(C:AllBare N.gens)(a:∀b∈ch,(b∈X.ex\/X.s₀.heap.objs.size<=b)/\b≠X.env.locals/\(∀x c,X.env.cells.lookup x=some c->c≠b)/\∀p∈X.pn++pins,p.1≠b):Inv X pins σ H' N:=by
 obtain⟨h',g',d',t',f⟩:=N
 have e:f=s.os:=K
 subst e;exact I.call (g':=g') (t':=t') (d':=d') u A C a
end
abbrev XK:=Value->Option Addr->Hp->Prop
abbrev St:=List (Option V)
abbrev VK:=V->Hp->Prop
abbrev TE:=St->Hp->VK->Prop
abbrev TT:=St->Hp->(Bool->Hp->Prop)->Prop
abbrev TA:=St->Hp->(List V->Hp->Prop)->Prop
structure eR where
 nx:St->Hp->Prop
 rt:VK
 bk:St->Hp->Prop:=λ_ _=>False
 ct:St->Hp->Prop:=λ_ _=>False
abbrev TS:=eR->St->Hp->Prop
noncomputable def EP(X:Cx)(B:List (Addr×Obj))(M:St)(Q:VK)(u:Value)(N:Shared):Prop:=∃v F,Inv X B M F N/\RelV v u/\Q v F
noncomputable def TP(X:Cx)(B:List (Addr×Obj))(M:St)(Q:Bool->Hp->Prop)(b:Bool)(N:Shared):Prop:=∃F,Inv X B M F N/\Q b F
noncomputable def AP(X:Cx)(B:List (Addr×Obj))(M:St)(Q:List V->Hp->Prop)(A:List Value)(N:Shared):Prop:=∃a F,Inv X B M F N/\Vals a A/\Q a F
noncomputable def SP(X:Cx)(B:List (Addr×Obj))(D:eR)(f:Flow)(N:Shared):Prop:=
 match f with
 |.next=>∃Z F,Inv X B Z F N/\D.nx Z F
 |.brk=>∃Z F,Inv X B Z F N/\D.bk Z F
 |.cont=>∃Z F,Inv X B Z F N/\D.ct Z F
 |.ret u=>∃v Z F,Inv X B Z F N/\RelV v u/\D.rt v F
noncomputable def PE(X:Cx)(e:Expr)(t:TE):Prop:=
 ∀(B:List (Addr×Obj))(s:Shared)(σ:St)(H:Hp)(Q:VK),Inv X B σ H s->t σ H Q->wpAny (model X.prog X.w) X.A (eval e X.env) (EP X B σ Q) X.xe s
noncomputable def PT(X:Cx)(e:Expr)(t:TT):Prop:=
 ∀(B:List (Addr×Obj))(s:Shared)(σ:St)(H:Hp)(Q:Bool->Hp->Prop),Inv X B σ H s->t σ H Q->wpAny (model X.prog X.w) X.A (isTrue e X.env (eval e X.env)) (TP X B σ Q) X.xe s
noncomputable def PW(X:Cx)(e:Expr)(t:TT):Prop:=
 ∀(d:Sem Value)(pins:List (Addr×Obj))(s:Shared)(σ:St)(H:Hp)(Q:Bool->Hp->Prop),Inv X pins σ H s->t σ H Q->wpAny (model X.prog X.w) X.A (isTrue e X.env d) (TP X pins σ Q) X.xe s
theorem PW.pt{X:Cx}{t:TT}(h:PW X e t):PT X e t:=h _
noncomputable def PA(X:Cx)(F:List Expr)(t:TA):Prop:=
 ∀(d:Pos)(pins:List (Addr×Obj))(s:Shared)(σ:St)(H:Hp)(Q:List V->Hp->Prop),Inv X pins σ H s->t σ H Q->wpAny (model X.prog X.w) X.A (spliced (backTo d (starEach F X.env))) (AP X pins σ Q) X.xe s
noncomputable def PS(X:Cx)(m:Stmt)(t:TS):Prop:=
 ∀(B:List (Addr×Obj))(s:Shared)(σ:St)(H:Hp)(D:eR),Inv X B σ H s->t D σ H->wpAny (model X.prog X.w) X.A (exec m X.env) (SP X B D) X.xe s
noncomputable def PSs(X:Cx)(m:List Stmt)(t:TS):Prop:=
 ∀(B:List (Addr×Obj))(s:Shared)(σ:St)(H:Hp)(D:eR),Inv X B σ H s->t D σ H->wpAny (model X.prog X.w) X.A (execs m X.env) (SP X B D) X.xe s
theorem b5{u:Type}{t:Sem u}{Q b:u->Shared->Prop}{E:Value->Shared->Prop}{s:Shared}(h:wpAny M A t Q E s)(k:∀a s,Q a s->b a s):wpAny M A t b E s:=wpAny_mono h k λ_ _ x=>x
section
variable{X:Cx}
noncomputable def bT(i:Nat):TE:=λM H Q=>∃v,M[i]?=some (some v)/\Q v H
noncomputable def tC(v:V):TE:=λ_ H Q=>Q v H
theorem Dw{i:Nat}{d:Pos}(L:X.N[i]?=some x)(f:Dk X.env.scope x)(y:(x==("__debug__":Str))=false:=by decide)(z:(x==("__classdict__":Str))=false:=by decide):PE X (.Name x d) (bT i):=by
 intro B s M H Q I h;obtain⟨v,e,h⟩:=h;obtain⟨m,j,S⟩:=I.loc;obtain⟨u,r,l⟩:=S i x v L e f;have k:EP X B M Q u s:=⟨v,H,I,r,h⟩
 rcases l with⟨G,E⟩|⟨G,c,hc,hcell⟩
 .exact wpAny_Name (wpAny_loadName_local I.ok.kind G j E k) y
 .rcases G with G|G
  .exact wpAny_Name (wpAny_loadName_cell I.ok.kind G hc hcell k) y
  .exact wpAny_Name (wpAny_loadName_free I.ok.kind G hc hcell k z) y
theorem Dv{i j pos}:PE X (.Constant (.int i) j pos) (tC (.int i)):=λ_ _ _ H _ I h=>wpAny_Constant_int ⟨.int i,H,I.tok _,⟨_,rfl⟩,h⟩
theorem Ff{b j pos}:PE X (.Constant (.bool b) j pos) (tC (.bl b)):=λ_ _ _ H _ I h=>Constant_bool ⟨.bl b,H,I,rfl,h⟩
theorem vG{j pos}:PE X (.Constant .none j pos) (tC .non):=λ_ _ _ H _ I h=>Constant_none ⟨.non,H,I,rfl,h⟩
theorem B3{x j pos}:PE X (.Constant (.str x) j pos) (tC (.str x)):=λ_ _ _ H _ I h=>Calls.Constant_str ⟨.str x,H,I.tok _,⟨_,rfl⟩,h⟩
noncomputable def Gl(X:Cx)(x:Str):Prop:=X.env.kindOf x=some .globalImplicit
theorem Gz{E:Value->Shared->Prop}{s:Shared}{M:St}{H:Hp}{u:Value}{d:Pos}{Q:Value->Shared->Prop}(I:Inv X B M H s)(C:Gl X x)(a:X.mg x=some u)(h:Q u s)(y:(x==("__debug__":Str))=false:=by decide):wpAny (model X.prog X.w) X.A (eval (.Name x d) X.env) Q E s:=
 Calls.Name_function_global I.ok.kind C (Calls.loadGlobal_global (by rw[I.ok.glob];exact I.mod.glob.keeps I.bk) a h) y
theorem xj{E:Value->Shared->Prop}{s:Shared}{M:St}{H:Hp}{u:Value}{d:Pos}{Q:Value->Shared->Prop}(I:Inv X B M H s)(C:Gl X x)(b:X.mg x=none)(f:bootBuiltins x=some u)(h:Q u s)(j:x ≠ "__name__":=by decide)(y:(x==("__debug__":Str))=false:=by decide):wpAny (model X.prog X.w) X.A (eval (.Name x d) X.env) Q E s:=by
 obtain⟨S,Y,a⟩:=I.mod.blt;exact Calls.Name_function_global I.ok.kind C (Calls.loadGlobal_builtin (by rw[I.ok.glob];exact I.mod.glob.keeps I.bk) b (by rw[I.ok.blt];exact Y.keeps I.bk) ((a x j).trans f) h) y
theorem yC{v:V}{u:Value}{d:Pos}(C:Gl X x)(E:X.mg x=some u)(r:RelV v u)(y:(x==("__debug__":Str))=false:=by decide):PE X (.Name x d) (tC v):=
 λ_ _ _ H _ I h=>Gz I C E ⟨v,H,I,r,h⟩ y
theorem yE{v:V}{u:Value}{d:Pos}(C:Gl X x)(E:X.mg x=none)(f:bootBuiltins x=some u)(r:RelV v u)(j:x ≠ "__name__":=by decide)(y:(x==("__debug__":Str))=false:=by decide):PE X (.Name x d) (tC v):=
 λ_ _ _ H _ I h=>xj I C E f ⟨v,H,I,r,h⟩ j y
variable{a b:Expr}{ta tb:TE}{pos:Pos}
noncomputable def PC(X:Cx)(f:CmpOp)(a b:Expr)(t:TE):Prop:=
 ∀(B:List (Addr×Obj))(s:Shared)(σ:St)(H:Hp)(Q:VK),Inv X B σ H s->t σ H Q ->
  wpAny (model X.prog X.w) X.A (eval a X.env) (λv i=>wpAny (model X.prog X.w) X.A (eval b X.env) (λu P=>wpAny (model X.prog X.w) X.A (compareOp f v u) (EP X B σ Q) X.xe P) X.xe i) X.xe s
theorem B8{f:CmpOp}{t:TE}(h:PC X f a b t)(Y:behindInMarks f b=false:=by first|exact nobehind _ (by decide) (by decide)|rfl):PE X (.Compare a [f] [b] pos) t:=λB s M H Q I j=>wpAny_Compare1 (h B s M H Q I j) Y
variable{tA tB':TT}{cP:List Expr}
noncomputable def Em(t u:TT):TT:=λM H Q=>t M H λc f=>if c=true then u M f Q else Q false f
noncomputable def K3(t u:TT):TT:=λM H Q=>t M H λc f=>if c=true then Q true f else u M f Q
noncomputable def Eh(t:TT):TT:=λM H Q=>t M H λc f=>Q (!c) f
theorem yx(Z:PT X a tA):PW X (.BoolOp .And [a] pos) tA:=by
 intro d B s M H Q I h;refine isTrue_and (b5 (Z B s M H Q I h) λc n e=>?_)
 cases c with
 |true=>exact isTrue_and_nil e
 |false=>exact e
theorem BY(Z:PT X a tA):PW X (.BoolOp .Or [a] pos) tA:=by
 intro d B s M H Q I h;refine isTrue_or (b5 (Z B s M H Q I h) λc n e=>?_)
 cases c with
 |false=>exact isTrue_or_nil e
 |true=>exact e
theorem BZ(Z:PT X a tA)(U:PW X (.BoolOp .And (b::cP) pos) tB'):PW X (.BoolOp .And (a::b::cP) pos) (Em tA tB'):=by
 intro d B s M H Q I h;refine isTrue_and (b5 (Z B s M H _ I h) λc n ⟨H1,I1,q1⟩=>?_)
 cases c with
 |true=>exact U d B n M H1 Q I1 q1
 |false=>exact⟨H1,I1,q1⟩
theorem EV(Z:PT X a tA)(U:PW X (.BoolOp .Or (b::cP) pos) tB'):PW X (.BoolOp .Or (a::b::cP) pos) (K3 tA tB'):=by
 intro d B s M H Q I h;refine isTrue_or (b5 (Z B s M H _ I h) λc n ⟨H1,I1,q1⟩=>?_)
 cases c with
 |true=>exact⟨H1,I1,q1⟩
 |false=>exact U d B n M H1 Q I1 q1
theorem B0(Z:PT X a tA):PT X (.UnaryOp .Not a pos) (Eh tA):=by
 intro B s M H Q I h;exact isTrue_not (Z B s M H (λc f=>Q (!c) f) I h)
noncomputable def Ai(F u:TE):TE:=λM H Q=>F M H λx f=>∃c,x=.bl c/\if c=true then u M f Q else Q (.bl false) f
noncomputable def Ef(F u:TE):TE:=λM H Q=>F M H λx f=>∃c,x=.bl c/\if c=true then Q (.bl true) f else u M f Q
noncomputable def Ah(F:TE):TE:=λM H Q=>F M H λx f=>∃c,x=.bl c/\Q (.bl (!c)) f
theorem pe_one{op}{t:TE}(h:PE X a t):PE X (.BoolOp op [a] pos) t:=λB s M H Q I j=>BoolOp_one (h B s M H Q I j)
theorem B9(Z:PE X a ta)(U:PE X (.BoolOp .And (b::cP) pos) tb):PE X (.BoolOp .And (a::b::cP) pos) (Ai ta tb):=by
 intro B s M H Q I h;refine BoolOp_and (b5 (Z B s M H _ I h) λv n ⟨x,H1,I1,r1,S⟩=>?_)
 obtain⟨c,rfl,S⟩:=S
 cases r1;refine wpAny_truthy_bool ?_
 cases c with
 |true=>exact U B n M H1 Q I1 S
 |false=>exact⟨.bl false,H1,I1,rfl,S⟩
theorem Fe(Z:PE X a ta)(U:PE X (.BoolOp .Or (b::cP) pos) tb):PE X (.BoolOp .Or (a::b::cP) pos) (Ef ta tb):=by
 intro B s M H Q I h;refine BoolOp_or (b5 (Z B s M H _ I h) λv n ⟨x,H1,I1,r1,S⟩=>?_)
 obtain⟨c,rfl,S⟩:=S
 cases r1;refine wpAny_truthy_bool ?_
 cases c with
 |false=>exact U B n M H1 Q I1 S
 |true=>exact⟨.bl true,H1,I1,rfl,S⟩
theorem B6(Z:PE X a ta):PE X (.UnaryOp .Not a pos) (Ah ta):=by
 intro B s M H Q I h;refine UnaryOp_ (b5 (Z B s M H _ I h) λv n ⟨x,H1,I1,r1,S⟩=>?_)
 obtain⟨c,rfl,S⟩:=S
 cases r1;exact not_of (wpAny_truthy_bool ⟨.bl (!c),H1,I1,rfl,S⟩)
noncomputable def K5(t:TT)(F u:TE):TE:=λM H Q=>t M H λc f=>if c=true then F M f Q else u M f Q
theorem vH(J:PT X c tA)(Z:PE X a ta)(U:PE X b tb):PE X (.IfExp c a b pos) (K5 tA ta tb):=by
 intro B s M H Q I h;refine wpAny_IfExp (b5 (J B s M H _ I h) λd n ⟨H1,I1,q1⟩=>?_)
 cases d with
 |true=>exact Z B n M H1 Q I1 q1
 |false=>exact U B n M H1 Q I1 q1
end
noncomputable def SqL(K:Fg)(H:Hp)(a:Addr)(L:List V):Prop:=
 Rd H a (.lst L) \/
  ∃(o:Obj)(its:Array Value)(n:Nat),K.lookup a=some o/\o.cls=.type "list"/\o.dict=none/\o.data=.seq its n/\its.size<=sizeLine/\Vals L its.toList
noncomputable def SqT(K:Fg)(H:Hp)(a:Addr)(L:List V):Prop:=
 Rd H a (.tup L) \/
  ∃(o:Obj)(its:Array Value)(n:Nat),K.lookup a=some o/\o.cls=.type "tuple"/\o.data=.seq its n/\its.size<=sizeLine/\Vals L its.toList
noncomputable def KJ:Value->Option V
 |.none=>some .non
 |.bool b=>some (.bl b)
 |.int i _=>some (.int i)
 |.str x _=>some (.str x)
 |.bytes b _=>some (.byt b)
 |.float b _=>some (.flt b)
 |.ref a=>some (.ref a)
 |.type n=>some (.ty n)
 |_=>none
theorem RelV.abs{x:V}{u:Value}(r:RelV x u):KJ u=some x:=by
 cases x with
 |non=>cases r;rfl
 |bl _=>cases r;rfl
 |int _=>obtain⟨t,rfl⟩:=r;rfl
 |str _=>obtain⟨t,rfl⟩:=r;rfl
 |byt _=>obtain⟨t,rfl⟩:=r;rfl
 |flt _=>obtain⟨t,rfl⟩:=r;rfl
 |ref _=>cases r;rfl
 |ty _=>cases r;rfl
theorem RelV.inj{x y:V}{u:Value}(r:RelV x u)(q:RelV y u):x=y:=Option.some.inj (r.abs.symm.trans q.abs)
theorem Vals.inj:∀{L R:List V}{us:List Value},Vals L us->Vals R us->L=R
 |_,_,_,.nil,.nil=>rfl
 |_,_,_,.cons r t,.cons r' t'=>by rw[r.inj r',Vals.inj t t']
section
variable{X:Cx}{pins:List (Addr×Obj)}{σ:St}{H:Hp}{s:Shared}{a:Addr}{xs ys:List V}
theorem SqL.of(h:H a=some (.lst xs)):SqL K H a xs:=.inl (.inl h)
theorem SqT.of(h:H a=some (.tup xs)):SqT K H a xs:=.inl (.inl h)
theorem Inv.list(I:Inv X pins σ H s)(h:SqL X.K H a xs):∃g:List Value,Vals xs g/\PlainL s.heap a g.toArray/\xs.length<=sizeLine:=by
 rcases h with h|⟨o,g,n,hk,hc,hd,hs,hz,r⟩
 .obtain⟨z,g,n,r,e⟩:=h.ok I.hok
  exact⟨g,r,⟨_,n,e,rfl,rfl,rfl⟩,z⟩
 .refine⟨g.toList,r,⟨o,n,I.kIn a o hk,hc,hd,by simpa using hs⟩,?_⟩
  have e:=r.length
  simp only[Array.length_toList]at e
  omega
theorem Inv.tuple(I:Inv X pins σ H s)(h:SqT X.K H a xs):∃g:List Value,Vals xs g/\IsTup s.heap a g.toArray/\xs.length<=sizeLine:=by
 rcases h with h|⟨o,g,n,hk,hc,hs,hz,r⟩
 .obtain⟨z,g,r,p⟩:=h.ok I.hok
  exact⟨g,r,p,z⟩
 .refine⟨g.toList,r,⟨o,I.kIn a o hk,hc,n,by simpa using hs⟩,?_⟩
  have e:=r.length
  simp only[Array.length_toList]at e
  omega
theorem Inv.list_inj(I:Inv X pins σ H s)(h:SqL X.K H a xs)(Z:SqL X.K H a ys):xs=ys:=by
 obtain⟨g,r,⟨o,n,e,_,_,d⟩,_⟩:=I.list h;obtain⟨c,w,⟨f,i,J,_,_,b⟩,_⟩:=I.list Z
 rw[e]at J;cases J
 rw[d]at b;injection b with d1 _
 have:g=c:=by simpa using congrArg Array.toList d1
 subst this;exact r.inj w
theorem Inv.tuple_inj(I:Inv X pins σ H s)(h:SqT X.K H a xs)(Z:SqT X.K H a ys):xs=ys:=by
 obtain⟨g,r,⟨o,e,_,n,d⟩,_⟩:=I.tuple h;obtain⟨c,w,⟨f,J,_,i,b⟩,_⟩:=I.tuple Z
 rw[e]at J;cases J
 rw[d]at b;injection b with d1 _
 have:g=c:=by simpa using congrArg Array.toList d1
 subst this;exact r.inj w
end
noncomputable abbrev Cx.wish(X:Cx)(E:Value->Shared->Prop):Cx:={X with xe:=E}
noncomputable abbrev Cx.nox(X:Cx):Cx:=X.wish λ_ _=>False
theorem Cx.Ok.wish{X:Cx}(ok:X.Ok)(E:Value->Shared->Prop):(X.wish E).Ok:=
 ⟨ok.mod,ok.kind,ok.glob,ok.blt,ok.above,ok.inj,ok.has,ok.cab,ok.hd,ok.frames,ok.stk,ok.exf,ok.bs,ok.bsz,ok.noex,ok.exfs,ok.funs,ok.frf⟩
theorem Cx.Ok.unwish{X:Cx}{E:Value->Shared->Prop}(ok:(X.wish E).Ok):X.Ok:=
 ⟨ok.mod,ok.kind,ok.glob,ok.blt,ok.above,ok.inj,ok.has,ok.cab,ok.hd,ok.frames,ok.stk,ok.exf,ok.bs,ok.bsz,ok.noex,ok.exfs,ok.funs,ok.frf⟩
section
variable{X:Cx}{pins:List (Addr×Obj)}{σ:St}{H:Hp}{s:Shared}{E:Value->Shared->Prop}
theorem Inv.wish(I:Inv X pins σ H s)(E:Value->Shared->Prop):Inv (X.wish E) pins σ H s:=⟨I.ok.wish E,I.os,I.bare,I.base,I.loc,I.cell,I.free,I.freeC,I.pin,I.hok,I.len⟩
theorem Inv.unwish(I:Inv (X.wish E) pins σ H s):Inv X pins σ H s:=⟨I.ok.unwish,I.os,I.bare,I.base,I.loc,I.cell,I.free,I.freeC,I.pin,I.hok,I.len⟩
theorem SP.unwish{D:eR}{f:Flow}{N:Shared}(h:SP (X.wish E) pins D f N):SP X pins D f N:=by
 cases f with
 |next=>obtain⟨Z,F,I,q⟩:=h;exact⟨Z,F,I.unwish,q⟩
 |brk=>obtain⟨Z,F,I,q⟩:=h;exact⟨Z,F,I.unwish,q⟩
 |cont=>obtain⟨Z,F,I,q⟩:=h;exact⟨Z,F,I.unwish,q⟩
 |ret u=>obtain⟨v,Z,F,I,r,q⟩:=h;exact⟨v,Z,F,I.unwish,r,q⟩
theorem PSs.nox{m:List Stmt}{t:TS}(h:PSs X.nox m t):PSs X m t:=λpins s σ H D I j=>
 wpAny_mono (h pins s σ H D (I.wish _) j) (λ_ _ q=>q.unwish) λ_ _ z=>False.elim z
end
section
variable{X:Cx}{st:Stmt}{cP:List Stmt}{t u:TS}{e:Expr}{te:TE}{pos:Pos}
noncomputable def fw:TS:=λD M H=>D.nx M H
noncomputable def cO(t u:TS):TS:=λD M H=>t {D with nx:=u D} M H
theorem xy:PSs X [] fw:=λ_ _ M H _ I h=>wpAny_execs_nil ⟨M,H,I,h⟩
theorem kn(Y:PS X st t)(a:PSs X cP u):PSs X (st::cP) (cO t u):=by
 intro B s M H D I h;refine wpAny_execs_cons (b5 (Y B s M H {D with nx:=u D} I h) λf n q=>?_)
 cases f with
 |next=>
  obtain⟨Z,F,z,q⟩:=q;exact a B n Z F D z q
 |ret v=>exact q
 |brk=>exact q
 |cont=>exact q
theorem m7(Y:PS X st t):PSs X [st] t:=by
 intro B s M H D I h;refine wpAny_execs_cons (b5 (Y B s M H D I h) λf n q=>?_)
 cases f with
 |next=>exact wpAny_execs_nil q
 |ret v=>exact q
 |brk=>exact q
 |cont=>exact q
theorem Inv.quiet{M:St}{H:Hp}{s:Shared}(I:Inv X B M H s):interactive X.env=false:=by simp[interactive,I.ok.kind]
noncomputable def eA(o:TE):TS:=λD M H=>o M H λ_ f=>D.nx M f
theorem xg(R:PE X e te)(P:swapsWith e none pos.line X.env=pure false:=by rfl):PS X (.Expr e pos) (eA te):=by
 intro B s M H D I h;exact wpAny_Expr_any (b5 (R B s M H _ I h) λv n ⟨x,H1,I1,r1,q1⟩=>⟨M,H1,I1,q1⟩) I.quiet P
noncomputable def pS(o:TE):TS:=λD M H=>o M H D.rt
theorem Dy(R:PE X e te):PS X (.Return (some e) pos) (pS te):=by
 intro B s M H D I h;exact wpAny_Return_some (b5 (R B s M H _ I h) λv n ⟨x,H1,I1,r1,q1⟩=>⟨x,M,H1,I1,r1,q1⟩)
noncomputable def gV(c:TT)(t u:TS):TS:=λD M H=>c M H λb f=>if b=true then t D M f else u D M f
theorem fJ{a b:List Stmt}{i:TT}(J:PT X c i)(Z:PSs X a t)(U:PSs X b u):PS X (.If c a b pos) (gV i t u):=by
 intro B s M H D I h;refine wpAny_If (b5 (J B s M H _ I h) λd n ⟨H1,I1,q1⟩=>?_)
 cases d with
 |true=>exact Z B n M H1 D I1 q1
 |false=>exact U B n M H1 D I1 q1
end
abbrev TG:=V->St->Hp->(St->Hp->Prop)->Prop
abbrev AC:=List V->St->Hp->(St->Hp->Prop)->Prop
noncomputable def PG(X:Cx)(a:Expr)(t:TG):Prop:=
 ∀(B:List (Addr×Obj))(s:Shared)(σ:St)(H:Hp)(v:V)(u:Value)(Q:St->Hp->Prop),Inv X B σ H s->RelV v u->t v σ H Q ->
  wpAny (model X.prog X.w) X.A (assign a X.env u) (λ_ N=>∃Z F,Inv X B Z F N/\Q Z F) X.xe s
noncomputable def HU(X:Cx)(o:List Expr)(t:AC):Prop:=
 ∀(B:List (Addr×Obj))(s:Shared)(σ:St)(H:Hp)(vs:List V)(us:List Value)(Q:St->Hp->Prop),Inv X B σ H s->Vals vs us->t vs σ H Q ->
  wpAny (model X.prog X.w) X.A (assignInOrder ((assignEach o X.env).map (·.2)) us) (λ_ N=>∃Z F,Inv X B Z F N/\Q Z F) X.xe s
abbrev Dm:=V->V->V->Hp->(Hp->Prop)->Prop
noncomputable def Gg(X:Cx)(t:Dm):Prop:=
 ∀(B:List (Addr×Obj))(s:Shared)(σ:St)(H:Hp)(o i v:V)(ov iv u:Value)(Q:Hp->Prop),Inv X B σ H s->RelV o ov->RelV i iv->RelV v u->t o i v H Q ->
  wpAny (model X.prog X.w) X.A (setItem ov iv u) (λ_ N=>∃F,Inv X B σ F N/\Q F) X.xe s
abbrev HS:=V->V->Hp->VK->Prop
noncomputable def LM(X:Cx)(f:Operator)(t:HS):Prop:=
 ∀(B:List (Addr×Obj))(s:Shared)(σ:St)(H:Hp)(x y:V)(v u:Value)(Q:VK),Inv X B σ H s->RelV x v->RelV y u->t x y H Q ->
  wpAny (model X.prog X.w) X.A (inplaceOp f v u) (EP X B σ Q) X.xe s
section
variable{X:Cx}{pos:Pos}
noncomputable def b8(i:Nat):TG:=λv M H Q=>Q (M.set i (some v)) H
theorem qZ{i:Nat}(L:X.N.Nodup)(l:X.N[i]?=some x)(F:Loc X.env.scope x)(g:X.fn x=true\/X.env.scope.names.lookup x=some .local:=by first|exact .inl rfl|exact .inr rfl|assumption):PG X (.Name x pos) (b8 i):=by
 intro B s M H v u Q I r h;exact wpAny_assign_Name (Ji I L l F r (λN z=>⟨_,H,z,h⟩) g)
noncomputable def zk:AC:=λB M H Q=>B=[]/\Q M H
noncomputable def jY(t:TG)(u:AC):AC:=λB M H Q=>∃v r,B=v::r/\t v M H λZ F=>u r Z F Q
theorem Iw:HU X [] zk:=by
 intro B s M H a A Q I r h;obtain⟨e,h⟩:=h;subst e
 cases r;exact assignInOrder_nil ⟨M,H,I,h⟩
theorem Ab{F:List Expr}{t:TG}{u:AC}(Y:PG X e t)(b:HU X F u)(P:(assignEach (e::F) X.env).map (·.2)=assign e X.env::(assignEach F X.env).map (·.2):=by rfl):HU X (e::F) (jY t u):=by
 intro B s M H c A Q I r h;obtain⟨v,a,N,h⟩:=h;subst N
 cases r with
 |cons r f=>
  rw[P];refine assignInOrder_cons (b5 (Y B s M H _ _ _ I r h) λ_ n ⟨σ1,H1,I1,q1⟩=>?_)
  exact b B n σ1 H1 _ _ Q I1 f q1
noncomputable def zj(K:Fg)(n:Nat)(t:AC):TG:=λv M H Q=>∃a L,v=.ref a/\SqT K H a L/\L.length=n/\t L M H Q
theorem Ii{d:List Expr}{t:AC}{n:Nat}(J:X.calm=true)(h:HU X d t)(j:(assignEach d X.env).length=n:=by rfl)(q:(assignEach d X.env).findIdx? (·.1)=none:=by rfl):PG X (.Tuple d k pos) (zj X.K n t):=by
 intro B s M H v u Q I r f;obtain⟨a,L,N,Y,S,f⟩:=f;subst N
 cases r;obtain⟨g,c,A,U⟩:=I.tuple Y;refine assign_Tuple_tuple (I.ok.hd J) A (by simp[j,<-S,c.length]) q λZ F=>?_
 have x:Inv X B M H {s with heap:=Z}:=I.kept (t':=s.toks) λb o e=>F b o (Nat.ne_of_lt (Heap.lt_size e)) e
 exact h B _ M H L _ Q x (by simpa using c) f
noncomputable def gSub(c b:TE)(t:Dm):TG:=λv M H Q=>c M H λo f=>b M f λi A=>t o i v A λP=>Q M P
theorem GD{o i:Expr}{c b:TE}{t:Dm}(K:PE X o c)(l:PE X i b)(P:Gg X t)(Z:∀v,assign (.Subscript o i pos) X.env v=(do
   let d <-holding [v] (eval o X.env)
   let e <-holding [v,d] (eval i X.env)
   standAt pos
   holding [v,d,e] (setItem d e v)
   release [v,d,e] []):=by intro _;rfl):PG X (.Subscript o i pos) (gSub c b t):=by
 intro B s M H v u Q I r h;rw[Z];refine Mw (wpAny_holding (b5 (K B s M H _ I h) λd n ⟨x,H1,I1,r1,q1⟩=>?_))
 refine Mw (wpAny_holding (b5 (l B n M H1 _ I1 q1) λe G ⟨y,H2,I2,r2,q2⟩=>?_))
 refine Mw (wpAny_standAt (Mw (wpAny_holding (b5 (P B G M H2 x y v d e u _ I2 r1 r2 r q2) λ_ Y ⟨H3,I3,q3⟩=>?_))))
 exact wpAny_release ⟨M,H3,I3,q3⟩
noncomputable def eC(o:TE)(g:TG):TS:=λD M H=>o M H λx f=>g x M f D.nx
theorem Dx{r:Expr}{o:TE}{g:TG}(R:PE X e o)(C:PG X r g)(P:swapsWithSole [r] e pos.line X.env=pure false:=by rfl)(j:swappedStores [r] e X.env=pure none:=by rfl)(Y:(assignEach [r] X.env).map (·.2)=[assign r X.env]:=by rfl):PS X (.Assign [r] e pos) (eC o g):=by
 intro B s M H D I h;refine wpAny_Assign_stores (b5 (R B s M H _ I h) λv n ⟨x,H1,I1,r1,q1⟩=>?_) P j
 rw[Y];exact b5 (C B n M H1 x v _ I1 r1 q1) λ_ G q=>q
theorem xu{i:Nat}{o:TE}{A:Pos}(L:X.N.Nodup)(l:X.N[i]?=some x)(F:Loc X.env.scope x)(R:PE X e o)(P:swapsWith e (some (.Name x A)) pos.line X.env=pure false:=by rfl)(g:X.fn x=true\/X.env.scope.names.lookup x=some .local:=by first|exact .inl rfl|exact .inr rfl|assumption):PS X (.Assign [.Name x A] e pos) (eC o (b8 i)):=by
 intro B s M H D I h;refine wpAny_Assign_Name (b5 (R B s M H _ I h) λv n ⟨y,H1,I1,r1,q1⟩=>?_) P
 exact Ji I1 L l F r1 (λG k=>⟨_,H1,k,q1⟩) g
noncomputable def El(i:Nat)(o:TE)(b:HS):TS:=λD M H=>∃x,M[i]?=some (some x)/\o M H λy f=>b x y f λz A=>D.nx (M.set i (some z)) A
theorem B1{i:Nat}{o:TE}{f:Operator}{b:HS}{A:Pos}(L:X.N.Nodup)(q:X.N[i]?=some x)(F:Loc X.env.scope x)(R:PE X e o)(K:LM X f b)(g:X.fn x=true\/X.env.scope.names.lookup x=some .local:=by first|exact .inl rfl|exact .inr rfl|assumption):PS X (.AugAssign (.Name x A) f e pos) (El i o b):=by
 intro B s M H D I h;obtain⟨v,N,h⟩:=h;obtain⟨m,j,S⟩:=I.loc;have d:Dk X.env.scope x:=by rcases F with k|k;exact .inl k;exact .inr (.inl k)
 obtain⟨u,r,l⟩:=S i x v q N d;refine wpAny_AugAssign_Name ?_
 have go:wpAny (model X.prog X.w) X.A (eval e X.env) (λw P=>wpAny (model X.prog X.w) X.A (inplaceOp f u w) (λr p=>wpAny (model X.prog X.w) X.A (storeName X.env x r) (λ_=>SP X B D .next) X.xe p) X.xe P) X.xe s:=by
  refine b5 (R B s M H _ I h) λw n ⟨y,H1,I1,r1,q1⟩=>?_
  refine b5 (K B n M H1 v y u w _ I1 r r1 q1) λz t ⟨zv,H2,I2,r2,q2⟩=>?_
  exact Ji I2 L q F r2 (λY a=>⟨_,H2,a,q2⟩) g
 rcases l with⟨G,E⟩|⟨G,c,hc,hcell⟩
 .exact wpAny_loadName_local I.ok.kind G j E go
 .rcases G with G|G
  .exact wpAny_loadName_cell I.ok.kind G hc hcell go
  .rcases F with k|k
   .have:X.env.scope.names.lookup x=some .free:=G
    rw[k]at this;cases this
   .have:X.env.scope.names.lookup x=some .free:=G
    rw[k]at this;cases this
noncomputable def Lv(f:Int->Int->Int):HS:=λx y H Q=>∃i j,x=.int i/\y=.int j/\Q (.int (f i j)) H
theorem CJ:LM X .Add (Lv λi j=>i+j):=by
 intro B s M H x y v u Q I k C h;obtain⟨i,j,N,R,q⟩:=h;subst N;subst R;obtain⟨t,rfl⟩:=k;obtain⟨a,rfl⟩:=C;exact iadd_int ⟨.int _,H,I.tok _,⟨_,rfl⟩,q⟩
end
section
variable{X:Cx}{pos:Pos}
noncomputable def uM(c:TT)(u:TS):TS:=λD M H=>∃W:Nat->St->Hp->Prop,(∃m,W m M H)/\∀m M H,W m M H ->
 c M H λb f=>if b=true then ∃N:St->Hp->Prop,(∀Z F,N Z F->∃l,l<m/\W l Z F)/\u {D with nx:=N,ct:=N,bk:=D.nx} M f else D.nx M f
theorem vB{w:List Stmt}{i:TT}{u:TS}(C:PassesOwn (model X.prog X.w) X.A X.env X.xe)(J:PT X c i)(U:PSs X w u):PS X (.While c w [] pos) (uM i u):=by
 intro B s M H D I h;obtain⟨W,⟨p,e⟩,turn⟩:=h;refine wpAny_While (codeAny_whileLoop (λn j=>∃Z F,Inv X B Z F j/\W n Z F) ?_ p ⟨M,H,I,e⟩)
 rintro n s1 ⟨σ1,H1,I1,w1⟩
 refine wpAny_passesOwn C (b5 (J B s1 σ1 H1 _ I1 (turn n σ1 H1 w1)) λb G ⟨H2,I2,g⟩=>?_)
 cases b with
 |true=>
  obtain⟨N,L,g⟩:=g;rw[if_pos rfl];refine wpAny_passesOwn C (b5 (U B G σ1 H2 _ I2 g) λf Y y=>?_)
  cases f with
  |next=>
   obtain⟨k,P,a,m⟩:=y;obtain⟨l,E,d⟩:=L k P m;exact⟨l,E,k,P,a,d⟩
  |cont=>
   obtain⟨k,P,a,m⟩:=y;obtain⟨l,E,d⟩:=L k P m;exact⟨l,E,k,P,a,d⟩
  |brk=>exact y
  |ret v=>exact y
 |false=>
  rw[if_neg Bool.false_ne_true];exact wpAny_execs_nil ⟨σ1,H2,I2,g⟩
end
structure It where
 go:Nat->Hp->Prop
 yld:Nat->Hp->V->Hp->Prop
 stop:Nat->Hp->Prop
noncomputable def kS(X:Cx)(B:List (Addr×Obj))(H:Hp)(b:Addr):Prop:=
 H b=none/\b≠X.env.locals/\b∉X.fs/\(b∈X.ex\/X.s₀.heap.objs.size<=b)/\(∀x c,X.env.cells.lookup x=some c->c≠b)/\∀p∈X.pn++B,p.1≠b
theorem Inv.fpOk{X:Cx}{M:St}{H F:Hp}{s:Shared}{b:Addr}(I:Inv X B M H s)(U:s.heap.objs.size<=b)(j:F b=none):kS X B F b:=by
 refine⟨j,Nat.ne_of_gt (Nat.lt_of_lt_of_le I.lt U),I.nofs U,.inr (Nat.le_trans I.sz U),λx c e z=>?_,λp C z=>?_⟩
 .obtain⟨v,q⟩:=I.cell x c e
  exact absurd (Nat.lt_of_lt_of_le q.lt (by rw[z];exact U)) (Nat.lt_irrefl _)
 .exact absurd (Nat.lt_of_lt_of_le (Heap.lt_size (I.pin p C).1) (by rw[z];exact U)) (Nat.lt_irrefl _)
structure xb(P:Program)(w:World)(K:Fg)(tg:Expr)(J:It)(fp:List Addr)(it:Addr)(tn:Nat->Heap->Prop):Prop where
 mem:it∈fp
 obj:∀i h,tn i h->∀b∈fp,∃o,h.get? b=some o/\∀v,o.data≠.cell v
 keep:∀i h h',tn i h->(∀b∈fp,∀o,h.get? b=some o->h'.get? b=some o)->tn i h'
 item:∀(X:Cx),X.prog=P->X.w=w->X.K=K->X.calm=true->∀(i:Nat)(pins:List (Addr×Obj))(s:Shared)(σ:St)(H:Hp)(E:Value->Shared->Prop),Inv X pins σ H s->(∀b∈fp,kS X pins H b)->tn i s.heap->J.go i H ->
  wpAny (model P w) X.A (pyNext (.ref it)) (λr s1=>∃u,r=some u /\
   wpAny (model P w) X.A (letOwnedTupleGo tg (.ref it) u) (λ_ s2=>∃x H',Inv X pins σ H' s2/\RelV x u/\J.yld i H x H'/\tn (i+1) s2.heap/\∀b∈fp,H' b=none) E s1) E s
 done:∀(X:Cx),X.prog=P->X.w=w->X.K=K->X.calm=true->∀(i:Nat)(pins:List (Addr×Obj))(s:Shared)(σ:St)(H:Hp)(E:Value->Shared->Prop),Inv X pins σ H s->(∀b∈fp,kS X pins H b)->tn i s.heap->J.stop i H ->
  wpAny (model P w) X.A (pyNext (.ref it)) (λr s1=>r=none/\Inv X pins σ H s1) E s
 self:∀(A:Around)(i:Nat)(s:Shared)(Q:Value->Shared->Prop)(E:Value->Shared->Prop),tn i s.heap->Q (.ref it) s->wpAny (model P w) A (pyIter (.ref it)) Q E s
abbrev TI:=St->Hp->(It->Hp->Prop)->Prop
noncomputable def LN(X:Cx)(B:List (Addr×Obj))(M:St)(r:Expr)(R:It->Hp->Prop)(a:Value)(G:Shared):Prop:=
 ∃(l:Addr)(fp:List Addr)(tn:Nat->Heap->Prop)(J:It)(H':Hp),a=.ref l/\Inv X B M H' G/\xb X.prog X.w X.K r J fp l tn/\tn 0 G.heap/\(∀b∈fp,kS X B H' b)/\R J H'
noncomputable def PI(X:Cx)(r z:Expr)(c:TI):Prop:=
 ∀(B:List (Addr×Obj))(s:Shared)(σ:St)(H:Hp)(R:It->Hp->Prop),Inv X B σ H s->c σ H R ->
  wpAny (model X.prog X.w) X.A (eval z X.env) (λv n=>wpAny (model X.prog X.w) X.A (pyIter v) (LN X B σ r R) X.xe n) X.xe s
theorem wq{E:Value->Shared->Prop}{s:Shared}{r:Expr}{u:Value}{n:String}{B:Array Value}{Q:Unit->Shared->Prop}(K:s.heap.get? l=some o)(J:o.cls=.type n)(y:o.data=.fields B)(j:["enumerate","zip","dict_itemiterator","dict_reverseitemiterator","odict_iterator","itertools.zip_longest","itertools.pairwise"].contains n=false)(k:Q () s):wpAny M A (letOwnedTupleGo r (.ref l) u) Q E s:=by
 unfold letOwnedTupleGo
 cases r<;>first
  |exact Mx k
  | (cases u<;>first
      |exact Mx k
      | (refine Mw (wpAny_load K ?_)
         rw[J,y];show wpAny M A (if(["enumerate","zip","dict_itemiterator","dict_reverseitemiterator","odict_iterator","itertools.zip_longest","itertools.pairwise"].contains n&&B[0]?==some (rawInt _))=true then _ else _) Q E s
         rw[if_neg (by intro h;rw[j,Bool.false_and]at h;cases h)]
         exact Mx k))
noncomputable def HX(K:Fg)(a:Addr):It:=
 ⟨λi H=>∃L x,SqL K H a L/\L[i]?=some x,λi H x F=>F=H/\∀L,SqL K H a L->L[i]?=some x,λi H=>∃L,SqL K H a L/\L.length<=i⟩
noncomputable def HW(K:Fg)(a:Addr):It:=
 ⟨λi H=>∃L x,SqT K H a L/\L[i]?=some x,λi H x F=>F=H/\∀L,SqT K H a L->L[i]?=some x,λi H=>∃L,SqT K H a L/\L.length<=i⟩
noncomputable def xn(G:Int)(n:Nat):It:=⟨λi _=>i<n,λi H x F=>F=H/\x=.int (G+i),λi _=>n<=i⟩
theorem sH{P:Program}{w:World}{r:Expr}(a l:Addr):xb P w K r (HX K a) [l] l (λi h=>h.IsListIter l a i) where
 mem:=by simp
 obj:=λi h m b U=>by
  have e:b=l:=by simpa using U
  subst e;obtain⟨o,e,c,d⟩:=m;exact⟨o,e,λv z=>by rw[d]at z;cases z⟩
 keep:=λi h Z m k=>m.at λo e=>k l (by simp) o e
 item:=by
  intro X y j hK J i B s M H E I hf m C;subst y j hK;obtain⟨L,x,Y,F⟩:=C;obtain⟨g,rv,p,hz⟩:=I.list Y;obtain⟨u,hu,ru⟩:=rv.get F;obtain⟨G,t,q,f3,A,f5⟩:=hf l (by simp)
  refine wpAny_pyNext_list_item m p.isList (x:=u) (by simpa using hu) λZ n sb=>?_
  have I1:Inv X B M H {s with heap:=Z}:=I.turned (t':=s.toks) (λb o U e=>(sb.2 b U).trans e) G t f3 A f5
  obtain⟨o,e,c,d⟩:=id n
  exact⟨u,rfl,wq (s:={s with heap:=Z}) e c d (by decide) ⟨x,H,I1,ru,⟨rfl,λR f=>by rw[I.list_inj f Y];exact F⟩,n,λb U=>(hf b U).1⟩⟩
 done:=by
  intro X y j hK J i B s M H E I hf m C;subst y j hK;obtain⟨L,Y,F⟩:=C;obtain⟨g,rv,p,hz⟩:=I.list Y;obtain⟨G,t,q,f3,A,f5⟩:=hf l (by simp)
  have S:=rv.length
  exact wpAny_pyNext_list_end (I.ok.hd J) m p.isList (by simp;omega) λZ N=>⟨rfl,I.turned (t':=s.toks) (λb o U e=>N b o U e) G t f3 A f5⟩
 self:=λ_ _ _ _ _ m h=>wpAny_pyIter_listiter m h
theorem pQ{P:Program}{w:World}{r:Expr}(a l:Addr):xb P w K r (HW K a) [l] l (λi h=>h.IsTupleIter l a i) where
 mem:=by simp
 obj:=λi h m b U=>by
  have e:b=l:=by simpa using U
  subst e;obtain⟨o,e,c,d⟩:=m;exact⟨o,e,λv z=>by rw[d]at z;cases z⟩
 keep:=λi h Z m k=>m.at λo e=>k l (by simp) o e
 item:=by
  intro X y j hK J i B s M H E I hf m C;subst y j hK;obtain⟨L,x,Y,F⟩:=C;obtain⟨g,rv,p,hz⟩:=I.tuple Y;obtain⟨u,hu,ru⟩:=rv.get F;obtain⟨G,t,q,f3,A,f5⟩:=hf l (by simp)
  refine wpAny_pyNext_tuple_item m (show s.heap.IsTuple a g.toArray from p) (x:=u) (by simpa using hu) λZ n sb=>?_
  have I1:Inv X B M H {s with heap:=Z}:=I.turned (t':=s.toks) (λb o U e=>(sb.2 b U).trans e) G t f3 A f5
  obtain⟨o,e,c,d⟩:=id n
  exact⟨u,rfl,wq (s:={s with heap:=Z}) e c d (by decide) ⟨x,H,I1,ru,⟨rfl,λR f=>by rw[I.tuple_inj f Y];exact F⟩,n,λb U=>(hf b U).1⟩⟩
 done:=by
  intro X y j hK J i B s M H E I hf m C;subst y j hK;obtain⟨L,Y,F⟩:=C;obtain⟨g,rv,p,hz⟩:=I.tuple Y;obtain⟨G,t,q,f3,A,f5⟩:=hf l (by simp)
  have S:=rv.length
  exact wpAny_pyNext_tuple_end (I.ok.hd J) m (show s.heap.IsTuple a g.toArray from p) (by simp;omega) λZ N=>⟨rfl,I.turned (t':=s.toks) (λb o U e=>N b o U e) G t f3 A f5⟩
 self:=λ_ _ _ _ _ m h=>wpAny_pyIter_tupleiter m h
theorem pR{P:Program}{w:World}{r:Expr}(l:Addr)(G:Int)(n:Nat):xb P w K r (xn G n) [l] l (λi h=>IsRangeIter h l (G+(i:Nat)*1) ((n:Int)-(i:Nat)) 1) where
 mem:=by simp
 obj:=λi h m b U=>by
  have e:b=l:=by simpa using U
  subst e;exact⟨_,m,λv z=>by
   have R:Data.fields _=Data.cell v:=z
   cases R⟩
 keep:=λi h Z m k=>k l (by simp) _ m
 item:=by
  intro X y j S J i B s M H E I g m C;subst y j S;obtain⟨u,p,q,d,A,c⟩:=g l (by simp)
  have W:=Walks.range (prog:=X.prog) (w:=X.w) (I.ok.hd J) l G 1 n
  refine W.item i s _ _ C m λv Z F f a L=>?_
  obtain⟨t,rfl⟩:=f;have x:Inv X B M H {s with heap:=Z,toks:=F}:=I.turned (λb o U e=>L b o (by simpa using U) e) u p d A c
  refine⟨_,rfl,wq (s:={s with heap:=Z,toks:=F}) (n := "range_iterator") a rfl rfl (by decide) ⟨.int (G+i),H,x,⟨t,?_⟩,⟨rfl,rfl⟩,a,λb U=>(g b U).1⟩⟩
  rw[Int.mul_one]
 done:=by
  intro X y j S J i B s M H E I g m C;subst y j S;obtain⟨u,p,q,d,A,c⟩:=g l (by simp)
  exact wpAny_pyNext_range_end (I.ok.hd J) m (by have:n<=i:=C;omega) λZ N=>⟨rfl,I.turned (t':=s.toks) (λb o U e=>N b o U e) u p d A c⟩
 self:=λ_ _ _ _ _ m h=>wpAny_pyIter_rangeiter m h
section
variable{X:Cx}{tg:Expr}
noncomputable def wc(K:Fg)(k:TE):TI:=λM H R=>k M H λx f=>∃a,x=.ref a/\(∃L,SqL K f a L)/\R (HX K a) f
noncomputable def za(K:Fg)(k:TE):TI:=λM H R=>k M H λx f=>∃a,x=.ref a/\(∃L,SqT K f a L)/\R (HW K a) f
theorem yB{l:Expr}{k:TE}(S:PE X l k):PI X tg l (wc X.K k):=by
 intro B s M H R I h;refine b5 (S B s M H _ I h) λv n ⟨x,H1,I1,r1,q1⟩=>?_
 obtain⟨a,e,⟨L,Y⟩,q⟩:=q1;subst e
 cases r1;obtain⟨g,c,p,d⟩:=I1.list Y;refine wpAny_pyIter_list p.isList ?_
 refine⟨n.heap.objs.size,[n.heap.objs.size],_,_,H1,rfl,I1.kept (t':=n.toks) λb o e=>My _ e,sH a _,⟨_,Heap.get?_push_size _ rfl,rfl,rfl⟩,λb U=>?_,q⟩
 have e:b=n.heap.objs.size:=by simpa using U
 subst e;exact I1.fpOk (Mz _) (I1.hok.fresh (Mz _))
theorem vE{l:Expr}{k:TE}(S:PE X l k):PI X tg l (za X.K k):=by
 intro B s M H R I h;refine b5 (S B s M H _ I h) λv n ⟨x,H1,I1,r1,q1⟩=>?_
 obtain⟨a,e,⟨L,Y⟩,q⟩:=q1;subst e
 cases r1;obtain⟨g,c,p,d⟩:=I1.tuple Y;refine wpAny_pyIter_tuple (show n.heap.IsTuple a g.toArray from p) ?_
 refine⟨n.heap.objs.size,[n.heap.objs.size],_,_,H1,rfl,I1.kept (t':=n.toks) λb o e=>My _ e,pQ a _,⟨_,Heap.get?_push_size _ rfl,rfl,rfl⟩,λb U=>?_,q⟩
 have e:b=n.heap.objs.size:=by simpa using U
 subst e;exact I1.fpOk (Mz _) (I1.hok.fresh (Mz _))
theorem nY{M:St}{H:Hp}{s:Shared}{R:It->Hp->Prop}{E:Value->Shared->Prop}{G l:Int}{t u v:Tok}{j:Nat}(I:Inv X B M H s)(Y:-(2 ^ 62)<=G)(a:G<2 ^ 62)(P:-(2 ^ 62)<=l)(m:l<2 ^ 62)(q:R (xn G (l-G).toNat) H):wpAny (model X.prog X.w) X.A (pyIter (.ref s.heap.objs.size)) (LN X B M tg R) E {s with heap:=s.heap.push {cls:=.type "range",data:=.fields #[.int G t,.int l u,.int 1 v]},toks:=j}:=by
 refine wpAny_pyIter_range (IsRange.new ..) (small_one Y a P m) ?_
 have x:Inv X B M H {s with heap:=s.heap.push {cls:=.type "range",data:=.fields #[.int G t,.int l u,.int 1 v]},toks:=j}:=I.kept λb o e=>My _ e
 refine⟨(s.heap.push {cls:=.type "range",data:=.fields #[.int G t,.int l u,.int 1 v]}).objs.size,[(s.heap.push {cls:=.type "range",data:=.fields #[.int G t,.int l u,.int 1 v]}).objs.size],_,_,H,rfl,
  x.kept (t':=j) λb o e=>My _ e,pR _ G (l-G).toNat,?_,λb U=>?_,q⟩
 .have N:G+((0:Nat):Int)*1=G:=by simp
  have c:(((l-G).toNat:Nat):Int)-((0:Nat):Int)=Builtin.Range.rangeSize G l 1:=by rw[rangeSize_one];split<;>omega
  show IsRangeIter _ _ (G+((0:Nat):Int)*1) ((((l-G).toNat:Nat):Int)-((0:Nat):Int)) 1
  rw[N,c];exact Heap.get?_push_size _ rfl
 .have e:b=(s.heap.push {cls:=.type "range",data:=.fields #[.int G t,.int l u,.int 1 v]}).objs.size:=by simpa using U
  subst e;exact x.fpOk (Mz _) (x.hok.fresh (Mz _))
noncomputable def wb(F:TA):TI:=λM H R=>F M H λB f=>∃j:Int,B=[.int j]/\-(2 ^ 62)<=j/\j<2 ^ 62/\R (xn 0 j.toNat) f
noncomputable def Ax(F:TA):TI:=λM H R=>F M H λB f=>∃i j:Int,B=[.int i,.int j]/\(-(2 ^ 62)<=i/\i<2 ^ 62/\-(2 ^ 62)<=j/\j<2 ^ 62)/\R (xn i (j-i).toNat) f
theorem lh{a:Expr}{F:TA}{p d:Pos}(C:Gl X "range")(E:X.mg "range"=none)(Z:PA X [a] F)(P:starEach [a] X.env=[(false,eval a X.env)]:=by rfl):PI X tg (.Call (.Name "range" p) [a] [] d) (wb F):=by
 intro B s M H R I h;refine Call_ (xj I C E boot_range (PyProof.Rows.callWith_type1 (b5 (Z d B s M H _ I h) λA n ⟨vs,H1,I1,r1,S⟩=>?_) P rfl))
 obtain⟨j,e,S,c,q⟩:=S;subst e
 cases r1 with
 |cons r f=>
  cases f;obtain⟨t,rfl⟩:=r;exact call_range_1 (nY I1 (by omega) (by omega) S c (by simpa using q))
theorem sY{a b:Expr}{F:TA}{p d:Pos}(C:Gl X "range")(E:X.mg "range"=none)(Z:PA X [a,b] F)(P:starEach [a,b] X.env=[(false,eval a X.env),(false,eval b X.env)]:=by rfl)(o:starEach [b] X.env=[(false,eval b X.env)]:=by rfl):PI X tg (.Call (.Name "range" p) [a,b] [] d) (Ax F):=by
 intro B s M H R I h;refine Call_ (xj I C E boot_range (PyProof.Rows.callWith_type1 (b5 (Z d B s M H _ I h) λA n ⟨vs,H1,I1,r1,S⟩=>?_) (by rw[P,o]) (by rw[o];rfl)))
 obtain⟨i,j,e,⟨S,c,y,u⟩,q⟩:=S;subst e
 cases r1 with
 |cons r f=>
  cases f with
  |cons w f=>
   cases f;obtain⟨t,rfl⟩:=r;obtain⟨N,rfl⟩:=w
   exact call_range_2 (nY I1 S c y u q)
noncomputable def xS(c:TI)(g:TG)(u:TS):TS:=λD M H=>c M H λJ f=>∃W:Nat->Nat->St->Hp->Prop,(∃m,W 0 m M f)/\∀i m M H,W i m M H ->
 (J.stop i H/\D.nx M H)\/(J.go i H/\∃N:St->Hp->Prop,(∀Z F,N Z F->∃l,l<m/\W (i+1) l Z F)/\∀x F,J.yld i H x F->g x M F λY A=>u {D with nx:=N,ct:=N,bk:=D.nx} Y A)
noncomputable def jJ(a:List Addr)(h:Heap):List (Addr×Obj):=a.filterMap λb=>(h.get? b).map λo=>(b,o)
theorem Hf{a:List Addr}{b:Addr}(U:b∈a)(e:h.get? b=some o):(b,o)∈jJ a h:=List.mem_filterMap.mpr ⟨b,U,by rw[e];rfl⟩
theorem tq{a:List Addr}{p:Addr×Obj}(C:p∈jJ a h):p.1∈a/\h.get? p.1=some p.2:=by
 obtain⟨b,U,e⟩:=List.mem_filterMap.mp C
 cases q:h.get? b with
 |none=>rw[q]at e;cases e
 |some o=>
  rw[q]at e;have J:(b,o)=p:=Option.some.inj e
  subst J
  exact⟨U,q⟩
theorem Inv.pinned{M:St}{H:Hp}{s:Shared}{a:List Addr}(I:Inv X B M H s)(g:∀b∈a,kS X B H b)(K:∀b∈a,∃o,s.heap.get? b=some o/\∀v,o.data≠.cell v):Inv X (B++jJ a s.heap) M H s:=
 I.pins_of λp C=>(Mo C).elim (λz=>I.pin p (Mm _ z)) λz=>by
  obtain⟨U,e⟩:=tq z;obtain⟨G,t,q,_⟩:=g p.1 U;obtain⟨o,J,d⟩:=K p.1 U;rw[e]at J;cases J
  exact⟨e,G,t,q,d⟩
theorem Inv.unpinned{pl:List (Addr×Obj)}{M:St}{H:Hp}{s:Shared}(I:Inv X (B++pl) M H s):Inv X B M H s:=I.pins_of λp C=>I.pin p (Mm _ (Mn _ C))
theorem vC{z:Expr}{w:List Stmt}{wi:TI}{g:TG}{tb:TS}{pos:Pos}(C:PassesOwn (model X.prog X.w) X.A X.env X.xe)(hc:X.calm=true)(l:PI X tg z wi)(hg:PG X tg g)(U:PSs X w tb)(P:∀x,foldedSetIterable z X.env x=pure x:=by intro _;rfl):PS X (.For tg z w [] pos) (xS wi g tb):=by
 intro B s M H D I h;refine wpAny_For (b5 (l B s M H _ I h) λv s1 Y=>b5 Y λitv G h2=>?_) P
 obtain⟨it,a,tn,J,A,e,k,T,y,q,W,⟨p,w0⟩,turn⟩:=h2;subst e;have stat:∀{F:Hp},(∀b∈a,F b=none)->∀b∈a,kS X B F b:=λj b U=>⟨j b U,(q b U).2⟩
 refine codeAny_forLoop_any (λn s'=>∃i Z F,Inv X B Z F s'/\tn i s'.heap/\(∀b∈a,F b=none)/\W i n Z F) ?_ p ⟨0,M,A,k,y,λb U=>(q b U).1,w0⟩
 rintro n s3 ⟨i,σ3,H3,I3,st3,fr3,w3⟩
 rcases turn i n σ3 H3 w3 with⟨L,qn⟩|⟨go,N,hN,step⟩
 .refine wpAny_passesOwn C (b5 (T.done X rfl rfl rfl hc i B s3 σ3 H3 X.xe I3 (stat fr3) st3 L) λr t ⟨hr,I4⟩=>?_)
  subst hr;exact wpAny_execs_nil ⟨σ3,H3,I4,qn⟩
 .refine wpAny_passesOwn C (b5 (T.item X rfl rfl rfl hc i B s3 σ3 H3 X.xe I3 (stat fr3) st3 go) λr t ⟨u,hr,h4⟩=>?_)
  subst hr;refine wpAny_passesOwn C (b5 h4 λ_ K ⟨x,H5,I5,r5,y5,st5,fr5⟩=>?_)
  have I5':=I5.pinned (stat fr5) (T.obj _ _ st5)
  refine wpAny_passesOwn C (b5 (hg _ K σ3 H5 x u _ I5' r5 (step x H5 y5)) λ_ s6 ⟨σ6,H6,I6,q6⟩=>?_)
  refine wpAny_passesOwn C (b5 (U _ s6 σ6 H6 _ I6 q6) λf s7 q7=>?_)
  have c:∀{R:St}{S:Hp},Inv X (B++jJ a K.heap) R S s7->N R S->∃m,m<n/\∃i Z F,Inv X B Z F s7/\tn i s7.heap/\(∀b∈a,F b=none)/\W i m Z F:=λ{R S} I7 n7=>by
   obtain⟨m',E,w7⟩:=hN R S n7;refine⟨m',E,i+1,R,S,I7.unpinned,T.keep _ _ _ st5 λb U o e=>(I7.pin (b,o) (Mm _ (Mm _ (Hf U e)))).1,λb U=>?_,w7⟩
   obtain⟨o,e,d⟩:=T.obj _ _ st5 b U;exact(I7.pin (b,o) (Mm _ (Mm _ (Hf U e)))).2.1
  cases f with
  |next=>obtain⟨R,S,I7,n7⟩:=q7;exact c I7 n7
  |cont=>obtain⟨R,S,I7,n7⟩:=q7;exact c I7 n7
  |brk=>obtain⟨R,S,I7,q7⟩:=q7;exact⟨R,S,I7.unpinned,q7⟩
  |ret v=>obtain⟨x7,R,S,I7,r7,q7⟩:=q7;exact⟨x7,R,S,I7.unpinned,r7,q7⟩
end
theorem tJ{G:Int}{n:Nat}{g:TG}{u:TS}{D:eR}{M:St}{H:Hp}(a:Nat->St->Hp->Prop)(o:a 0 M H)(P:∀i M H,i<n->a i M H->g (.int (G+i)) M H λY A=>u {D with nx:=a (i+1),ct:=a (i+1),bk:=D.nx} Y A)(b:∀M H,a n M H->D.nx M H):∃W:Nat->Nat->St->Hp->Prop,(∃m,W 0 m M H)/\∀i m M H,W i m M H ->
   ((xn G n).stop i H/\D.nx M H)\/((xn G n).go i H/\∃N:St->Hp->Prop,(∀Z F,N Z F->∃l,l<m/\W (i+1) l Z F)/\∀x F,(xn G n).yld i H x F->g x M F λY A=>u {D with nx:=N,ct:=N,bk:=D.nx} Y A):=by
 refine⟨λi m M H=>m=n-i/\i<=n/\a i M H,⟨n,by simp,Nat.zero_le _,o⟩,?_⟩
 rintro i m M H ⟨rfl,hi,p⟩
 by_cases f:i<n
 .refine .inr ⟨f,a (i+1),λZ F B=>⟨n-(i+1),by omega,rfl,f,B⟩,λx F y=>?_⟩
  obtain⟨e,y⟩:=y;subst e y;exact P i M _ f p
 .have e:i=n:=by omega
  subst e;exact .inl ⟨Mz _,b M H p⟩
abbrev R2:=V->V->Hp->VK->Prop
noncomputable def OpR(X:Cx)(f:Value->Value->Sem Value)(r:R2):Prop:=
 ∀(B:List (Addr×Obj))(s:Shared)(σ:St)(H:Hp)(x y:V)(v u:Value)(Q:VK),Inv X B σ H s->RelV x v->RelV y u->r x y H Q ->
  wpAny (model X.prog X.w) X.A (f v u) (EP X B σ Q) X.xe s
noncomputable def LJ(X:Cx)(f:Value->Sem Value)(r:V->Hp->VK->Prop):Prop:=
 ∀(B:List (Addr×Obj))(s:Shared)(σ:St)(H:Hp)(x:V)(v:Value)(Q:VK),Inv X B σ H s->RelV x v->r x H Q ->
  wpAny (model X.prog X.w) X.A (f v) (EP X B σ Q) X.xe s
noncomputable def CallR(X:Cx)(f:Value)(r:List V->Hp->VK->Prop):Prop:=
 ∀(B:List (Addr×Obj))(s:Shared)(σ:St)(H:Hp)(xs:List V)(us:List Value)(Q:VK),Inv X B σ H s->Vals xs us->r xs H Q ->
  wpAny (model X.prog X.w) X.A (call f us) (EP X B σ Q) X.xe s
noncomputable def KM(X:Cx)(r:V->Hp->(Bool->Hp->Prop)->Prop):Prop:=
 ∀(B:List (Addr×Obj))(s:Shared)(σ:St)(H:Hp)(x:V)(v:Value)(Q:Bool->Hp->Prop),Inv X B σ H s->RelV x v->r x H Q ->
  wpAny (model X.prog X.w) X.A (truthy v) (TP X B σ Q) X.xe s
noncomputable def m8(r:R2)(F u:TE):TE:=λM H Q=>F M H λx f=>u M f λy A=>r x y A Q
noncomputable def K0(r:V->Hp->VK->Prop)(F:TE):TE:=λM H Q=>F M H λx f=>r x f Q
noncomputable def rI(C:Int->Int->Prop)(g:Int->Int->V):R2:=λx y H Q=>∃i j,x=.int i/\y=.int j/\C i j/\Q (g i j) H
noncomputable def rA(g:Int->Int->V):R2:=λx y H Q=>∃i j,x=.int i/\y=.int j/\Q (g i j) H
section
variable{X:Cx}{a b c:Expr}{ta tb tc:TE}{pos:Pos}
theorem Dg(Z:PE X a ta)(U:PE X b tb){s:Shared}{M:St}{H:Hp}{R:V->V->Hp->Prop}(I:Inv X B M H s)(h:ta M H λx d=>tb M d λy A=>R x y A){Q:Value->Shared->Prop}{f:Value->Value->Sem Value}(g:∀v u G x y A,Inv X B M A G->RelV x v->RelV y u->R x y A->wpAny (model X.prog X.w) X.A (f v u) Q X.xe G):wpAny (model X.prog X.w) X.A (eval a X.env) (λv i=>wpAny (model X.prog X.w) X.A (eval b X.env) (λu P=>wpAny (model X.prog X.w) X.A (f v u) Q X.xe P) X.xe i) X.xe s:=by
 refine b5 (Z B s M H _ I h) λv n ⟨x,d,I1,r1,q1⟩=>?_
 refine b5 (U B n M d _ I1 q1) λu G ⟨y,A,I2,r2,q2⟩=>?_
 exact g v u G x y A I2 r1 r2 q2
theorem hE{f:Operator}{r:R2}(K:OpR X (binaryOp f) r)(Z:PE X a ta)(U:PE X b tb):PE X (.BinOp a f b pos) (m8 r ta tb):=by
 intro B s M H Q I h;exact wpAny_BinOp (Dg Z U I h λv u G x y A k d n q=>K B G M A x y v u Q k d n q)
theorem Fd{f:UnaryOp}{r:V->Hp->VK->Prop}(K:LJ X (unaryOp f) r)(Z:PE X a ta):PE X (.UnaryOp f a pos) (K0 r ta):=by
 intro B s M H Q I h;exact UnaryOp_ (b5 (Z B s M H _ I h) λv n ⟨x,H1,I1,r1,q1⟩=>K B n M H1 x v Q I1 r1 q1)
theorem HE{f:Value->Value->Sem Value}{C:Int->Int->Prop}(d:∀(i j:Int)(t u:Tok)(s:Shared)(Q:Value->Shared->Prop)(E:Value->Shared->Prop),C i j->Q (.int (g i j) s.toks) {s with toks:=s.toks+1}->wpAny (model X.prog X.w) X.A (f (.int i t) (.int j u)) Q E s):OpR X f (rI C λi j=>.int (g i j)):=by
 intro B s M H x y v u Q I K n h;obtain⟨i,j,rfl,rfl,J,q⟩:=h;obtain⟨t,rfl⟩:=K;obtain⟨N,rfl⟩:=n;exact d i j t N s _ _ J ⟨.int (g i j),H,I.tok _,⟨_,rfl⟩,q⟩
theorem Fl{f:Value->Value->Sem Value}(d:∀(i j:Int)(t u:Tok)(s:Shared)(Q:Value->Shared->Prop)(E:Value->Shared->Prop),Q (.int (g i j) s.toks) {s with toks:=s.toks+1}->wpAny (model X.prog X.w) X.A (f (.int i t) (.int j u)) Q E s):OpR X f (rA λi j=>.int (g i j)):=by
 intro B s M H x y v u Q I K n h;obtain⟨i,j,rfl,rfl,q⟩:=h;obtain⟨t,rfl⟩:=K;obtain⟨N,rfl⟩:=n;exact d i j t N s _ _ ⟨.int (g i j),H,I.tok _,⟨_,rfl⟩,q⟩
theorem yM{f:Value->Value->Sem Value}{g:Int->Int->Bool}(d:∀(i j:Int)(t u:Tok)(s:Shared)(Q:Value->Shared->Prop)(E:Value->Shared->Prop),Q (.bool (g i j)) s->wpAny (model X.prog X.w) X.A (f (.int i t) (.int j u)) Q E s):OpR X f (rA λi j=>.bl (g i j)):=by
 intro B s M H x y v u Q I K n h;obtain⟨i,j,rfl,rfl,q⟩:=h;obtain⟨t,rfl⟩:=K;obtain⟨N,rfl⟩:=n;exact d i j t N s _ _ ⟨.bl (g i j),H,I,rfl,q⟩
noncomputable def KY(i j:Int):Prop:=0<j/\j<1073741824
noncomputable def KW(i j:Int):Prop:=0<=j/\j<=1000000/\i.natAbs<2 ^ 64
noncomputable def CMul(i j:Int):Prop:=(-(2 ^ 64)<i/\i<2 ^ 64)\/(-(2 ^ 64)<j/\j<2 ^ 64)
theorem CMul.ok{i j:Int}(h:CMul i j):IntMulOk i j:=by
 rcases h with⟨Y,M⟩|⟨Y,M⟩
 .exact .of_left (intBits_le_64 Y M)
 .exact .of_right (intBits_le_64 Y M)
theorem Cq:OpR X (binaryOp .Add) (rA λi j=>.int (i+j)):=Fl λ_ _ _ _ _ _ _ q=>add_int q
theorem Cc:OpR X (binaryOp .Sub) (rA λi j=>.int (i-j)):=Fl λ_ _ _ _ _ _ _ q=>sub_int q
theorem Cg:OpR X (binaryOp .Mult) (rI CMul λi j=>.int (i*j)):=HE λ_ _ _ _ _ _ _ J q=>mul_int q J.ok
theorem yJ:OpR X (binaryOp .FloorDiv) (rI KY λi j=>.int (i / j)):=HE λi j _ _ _ _ _ J q=>by
 have Y:(0:Int)<j:=J.1
 have M:j<1073741824:=J.2
 exact floordiv_int (by omega) (by rw[Int.fdiv_eq_ediv_of_nonneg i (by omega)];exact q) (.inl (PyProof.noPylong_small (by omega)))
theorem Ci:OpR X (binaryOp .Mod) (rI (λ_ j=>0<j) λi j=>.int (i % j)):=HE λi j _ _ _ _ _ J q=>by
 have Y:(0:Int)<j:=J
 exact mod_int' (by omega) (by rw[Int.fmod_eq_emod_of_nonneg i (by omega)];exact q)
theorem Ce:OpR X (binaryOp .Pow) (rI KW λi j=>.int (i ^ j.toNat)):=HE λ_ _ _ _ _ _ _ J q=>pow_int_small J.1 J.2.1 J.2.2 q
end
noncomputable def scal:V->V->Bool
 |.non,.non=>true|.non,.int _=>true|.int _,.non=>true|.non,.bl _=>true|.bl _,.non=>true|.non,.str _=>true|.str _,.non=>true
 |.int _,.int _=>true|.bl _,.bl _=>true|.str _,.str _=>true|.byt _,.byt _=>true
 |.int _,.str _=>true|.str _,.int _=>true|.bl _,.str _=>true|.str _,.bl _=>true
 |_,_=>false
section
variable{X:Cx}{a b c:Expr}{ta tb tc:TE}{pos:Pos}
theorem DO{M:St}{H:Hp}{s:Shared}{Q:VK}{k i:Bool}(I:Inv X B M H s)(q:Q (.bl k) H)(e:k=i):EP X B M Q (.bool i) s:=by
 subst e;exact⟨.bl k,H,I,rfl,q⟩
theorem op_lt:OpR X (compareOp .Lt) (rA λi j=>.bl (decide (i<j))):=yM λ_ _ _ _ _ _ _ q=>lt_int q
theorem Fi:OpR X (compareOp .LtE) (rA λi j=>.bl (decide (i<=j))):=yM λ_ _ _ _ _ _ _ q=>le_int q
theorem Fj:OpR X (compareOp .Gt) (rA λi j=>.bl (decide (j<i))):=yM λ_ _ _ _ _ _ _ q=>gt_int q
theorem op_ge:OpR X (compareOp .GtE) (rA λi j=>.bl (decide (j<=i))):=yM λ_ _ _ _ _ _ _ q=>ge_int q
theorem tf:OpR X (compareOp .Lt) (λx y H Q=>∃i j,x=.str i/\y=.str j/\Q (.bl (decide (i.cps.toList<j.cps.toList))) H):=by
 intro B s M H x y v u Q I K n h;obtain⟨i,j,rfl,rfl,q⟩:=h;obtain⟨t,rfl⟩:=K;obtain⟨N,rfl⟩:=n;exact lt_str (DO I q rfl)
theorem tj:OpR X (compareOp .In) (λx y H Q=>∃i j,x=.str i/\y=.str j/\Q (.bl (!(Builtin.Str.occurrences j i 0 j.length 1).isEmpty)) H):=by
 intro B s M H x y v u Q I K n h;obtain⟨i,j,rfl,rfl,q⟩:=h;obtain⟨t,rfl⟩:=K;obtain⟨N,rfl⟩:=n;exact in_str (DO I q rfl)
theorem Cj:OpR X (compareOp .Is) (λx y H Q=>y=.non/\Q (.bl (decide (x=.non))) H):=by
 intro B s M H x y v u Q I K n h;obtain⟨rfl,q⟩:=h
 cases n;refine is_none_gen (DO I q ?_)
 cases x<;>first
  |(cases K;rfl)
  |(obtain⟨t,rfl⟩:=K;rfl)
theorem yI:OpR X (compareOp .IsNot) (λx y H Q=>y=.non/\Q (.bl (!decide (x=.non))) H):=by
 intro B s M H x y v u Q I K n h;obtain⟨rfl,q⟩:=h
 cases n;refine isnot_none_gen (DO I q ?_)
 cases x<;>first
  |(cases K;rfl)
  |(obtain⟨t,rfl⟩:=K;rfl)
theorem OpR.or{f:Value->Value->Sem Value}{r r':R2}(h:OpR X f r)(Z:OpR X f r'):OpR X f (λx y H Q=>r x y H Q\/r' x y H Q):=by
 intro B s M H x y v u Q I K n q;rcases q with q|q
 .exact h B s M H x y v u Q I K n q
 .exact Z B s M H x y v u Q I K n q
theorem yD{f:CmpOp}{r:R2}(K:OpR X (compareOp f) r)(Z:PE X a ta)(U:PE X b tb)(E:behindInMarks f b=false):PE X (.Compare a [f] [b] pos) (m8 r ta tb):=by
 intro B s M H Q I h;exact wpAny_Compare1 (Dg Z U I h λv u G x y A k d n q=>K B G M A x y v u Q k d n q) E
noncomputable def uO(t:TE):TT:=λM H Q=>t M H λx F=>∃k,x=.bl k/\Q k F
theorem yz{f:CmpOp}{r:R2}(K:OpR X (compareOp f) r)(Z:PE X a ta)(U:PE X b tb)(E:behindInMarks f b=false):PT X (.Compare a [f] [b] pos) (uO (m8 r ta tb)):=by
 intro B s M H Q I h;refine wpAny_isTrue_Compare1 (b5 (Z B s M H _ I h) λv n ⟨x,H1,I1,r1,q1⟩=>b5 (U B n M H1 _ I1 q1) λu G ⟨y,H2,I2,r2,q2⟩=>
  b5 (K B G M H2 x y v u _ I2 r1 r2 q2) λc Y ⟨z,H3,I3,r3,k,e,q3⟩=>?_) E
 subst e
 cases r3;exact wpAny_truthy_bool ⟨H3,I3,q3⟩
noncomputable def uQ(r w:R2)(F u i:TE):TE:=λM H Q=>F M H λx f=>u M f λy A=>r x y A λz P=>∃k,z=.bl k /\
 (if k=true then i M P λg d=>w y g d Q else Q (.bl false) P)
theorem vI{f j:CmpOp}{r w:R2}(K:OpR X (compareOp f) r)(i:OpR X (compareOp j) w)(Z:PE X a ta)(U:PE X b tb)(J:PE X c tc)(E:lastMarks [f,j] [b,c]=false:=by with_unfolding_all rfl):PE X (.Compare a [f,j] [b,c] pos) (uQ r w ta tb tc):=by
 intro B s M H Q I h;refine Compare_chain (b5 (Z B s M H _ I h) λv n ⟨x,H1,I1,r1,q1⟩=>chain_link (b5 (U B n M H1 _ I1 q1) λu G ⟨y,H2,I2,r2,q2⟩=>
  b5 (K B G M H2 x y v u _ I2 r1 r2 q2) λd Y ⟨z,H3,I3,r3,k,e,q3⟩=>?_)) E
 subst e
 cases r3;refine wpAny_truthy_bool ?_
 cases k with
 |false=>exact ite_ff ⟨.bl false,H3,I3,rfl,q3⟩
 |true=>exact ite_tt (chain_last (b5 (J B Y M H3 _ I3 q3) λg t ⟨z',H4,I4,r4,q4⟩=>i B t M H4 y z' u g Q I4 r2 r4 q4))
noncomputable def Dl(K:Fg)(x:V)(H:Hp)(k:Bool):Prop:=
 match x with
 |.non=>k=false
 |.bl b=>k=b
 |.int i=>k=(i != 0)
 |.str y=>y.length<=sizeLine/\k=((y.length:Int) != 0)
 |.byt y=>y.size<=sizeLine/\k=((y.size:Int) != 0)
 |.ref p=>(∃L,SqL K H p L/\k=!L.isEmpty)\/(∃L,SqT K H p L/\k=!L.isEmpty)\/∃j,H p=some (.dK j)/\k=!j.isEmpty
 |_=>False
theorem qy{d:Type}{j:List (d×V)}{B:List (d×Value)}(r:KV j B):(!B.isEmpty)=!j.isEmpty:=by
 cases r<;>rfl
theorem jW{L:List V}{g:List Value}(r:Vals L g):(!g.toArray.isEmpty)=!L.isEmpty:=by
 cases r<;>simp
theorem AK:(sizeLine:Nat)<2 ^ 63:=by rw[sizeLine_eq];decide
theorem Im:KM X (λx H Q=>∃k,Dl X.K x H k/\Q k H):=by
 intro B s M H x v Q I K h;obtain⟨k,e,q⟩:=h;have S:=AK
 have P:sizeLine=16777216:=sizeLine_eq
 cases x with
 |non=>
  cases K;have J:k=false:=e
  subst J
  exact truthy_none ⟨H,I,q⟩
 |bl b=>
  cases K;have J:k=b:=e
  subst J
  exact wpAny_truthy_bool ⟨H,I,q⟩
 |int i=>
  obtain⟨t,rfl⟩:=K;have J:k=(i != 0):=e
  subst J
  exact PySem.P.truthy_int ⟨H,I,q⟩
 |str y=>
  obtain⟨t,rfl⟩:=K;obtain⟨f,J⟩:y.length<=sizeLine/\k=((y.length:Int) != 0):=e
  subst J
  exact PySem.P.truthy_str (by omega) ⟨H,I.tok _,q⟩
 |byt y=>
  obtain⟨t,rfl⟩:=K;obtain⟨f,J⟩:y.size<=sizeLine/\k=((y.size:Int) != 0):=e
  subst J
  exact PySem.W.truthy_bytes (by omega) ⟨H,I.tok _,q⟩
 |ref p=>
  cases K;have J:(∃L,SqL X.K H p L/\k=!L.isEmpty)\/(∃L,SqT X.K H p L/\k=!L.isEmpty)\/∃j,H p=some (.dK j)/\k=!j.isEmpty:=e
  rcases J with⟨L,F,J⟩|⟨L,F,J⟩|⟨j,F,J⟩
  .subst J
   obtain⟨g,r,pl,U⟩:=I.list F;have z:=r.length
   exact wpAny_truthy_list pl.isList (by simp only[size_toArray];omega) ⟨H,I.tok _,by rw[jW r];exact q⟩
  .subst J
   obtain⟨g,r,pl,U⟩:=I.tuple F;have z:=r.length
   exact truthy_tuple pl (by simp only[size_toArray];omega) ⟨H,I.tok _,by rw[jW r];exact q⟩
  .subst J
   obtain⟨U,l,d,r,m⟩:j.length<=sizeLine/\(p==sysModules)=false/\∃d,KV j d/\s.heap.DictOf (mJ X.prog X.w) p d:=I.hok p _ F
   have z:j.length=d.length:=Paired.length r
   exact wpAny_truthy_dict l m (by omega) ⟨H,I.tok _,by rw[qy r];exact q⟩
 |_=>exact(show False from e).elim
theorem vA(Z:PE X a ta)(R:∀d,isTrue a X.env d=(do let v <-d;standAt a.pos;holding [v] (truthy v))):PT X a (λM H Q=>ta M H λx F=>∃k,Dl X.K x F k/\Q k F):=by
 intro B s M H Q I h;exact isTrue_plain (b5 (Z B s M H _ I h) λv n ⟨x,H1,I1,r1,q1⟩=>Im B n M H1 x v Q I1 r1 q1) (R _)
theorem vals1{x:V}{A:List Value}(r:Vals [x] A):∃u,A=[u]/\RelV x u:=by
 cases r with
 |cons k C=>cases C;exact⟨_,rfl,k⟩
theorem ua:CallR X (.type "int") (λL H Q=>(∃i,L=[.int i]/\Q (.int i) H)\/∃k,L=[.bl k]/\Q (.int (if k then 1 else 0)) H):=by
 intro B s M H L A Q I r h;rcases h with⟨i,rfl,q⟩|⟨k,rfl,q⟩
 .obtain⟨u,rfl,t,rfl⟩:=vals1 r
  exact call_int_int ⟨.int i,H,I,⟨_,rfl⟩,q⟩
 .obtain⟨u,rfl,d⟩:=vals1 r
  cases d;exact call_int_bool ⟨.int (if k then 1 else 0),H,I.tok _,⟨_,rfl⟩,q⟩
end
structure ObjM(h:Heap)(x dx C:Addr)(mA:Str->Option Value):Prop where
 obj:h.get? x=some (PySem.W.instObj C dx)
 ns:h.Ns1 dx mA
 ne:dx≠x
theorem tB{s:Addr}(n:h.Ns1 s U):∃M,h.get? s=some M/\∀i,PySem.W.lookIn i M=some (U i):=by
 obtain⟨o,F,N,K,c,G,_,E⟩:=n;refine⟨o,K,λi=>?_⟩
 have e:=E i
 unfold nsFind findBy at e;rw[<-Array.find?_toList]at e;unfold PySem.W.lookIn;rw[c];dsimp only;split
 .rename_i y q
  rw[q]at e;exact congrArg some e
 .rename_i q
  rw[q]at e;have a:F.toList.any (·.refKey)=false:=by
   rw[List.any_eq_false];intro y f;obtain⟨z,t,b⟩:=G y (Array.mem_toList_iff.mp f);simp[DictEntry.refKey,b]
  have I:¬F.toList.any (·.refKey)=true:=by rw[a];exact Bool.false_ne_true
  rw[if_neg I];exact congrArg some e
theorem ObjM.look{x s C:Addr}(I:ObjM h x s C U):∃M,PySem.W.InstAt h x (PySem.W.instObj C s) C (some M)/\∀i,PySem.W.lookIn i M=some (U i):=
 let⟨M,K,S⟩:=tB I.ns
 ⟨M,⟨I.obj,rfl,rfl,K⟩,S⟩
section
variable{P:Program}{w:World}{H H':Hp}{h h':Heap}{a C dx:Addr}{fs fs':List (Str×V)}
theorem y4(A:HOk P w H h)(e:H a=some (.ins C dx fs)):∃U,ObjM h a dx C U/\(∀f,Dn (fs.lookup f) (U f))/\PySem.Within U (fs.map (·.1))/\fs.length<=1000/\H dx=some (.own a):=by
 obtain⟨d,z,ne,E,U,n,r,q⟩:=(show ObjOk P w H h a (.ins C dx fs)from A a _ e);exact⟨U,⟨E,n,ne⟩,r,q,z,d⟩
end
structure Cls(K:Fg)(C:Addr):Prop where
 pg:PySem.W.plainGet K C Str.empty=true
 hd:PySem.W.hasDictIn K C=true
 po:PySem.W.plainOver K C=true
 sa:PySem.W.findIn K (.ref C) "__setattr__"=some (some (.builtin "object.__setattr__"))
theorem Cls.get{K:Fg}{C:Addr}(c:Cls K C)(f:Str):PySem.W.plainGet K C f=true:=c.pg
structure Con(K:Fg)(C:Addr)(f:Str)(v:V)(u:Value):Prop where
 at_:PySem.W.findIn K (.ref C) f=some (some u)
 rel:RelV v u
 get:PySem.W.specialIn K u "__get__"=some none
 cp:PySem.W.copiedNames.contains f=false
section
variable{X:Cx}{pins:List (Addr×Obj)}{σ:St}{H:Hp}{s:Shared}{A:Around}{E:Value->Shared->Prop}{Q:Value->Shared->Prop}{c:Value}{b:Bool}
inductive jo (K:Fg) (H:Hp):V->Value->Prop where
 |non:jo K H .non (.type "NoneType")
 |bl (x:Bool):jo K H (.bl x) (.type "bool")
 |int (i:Int):jo K H (.int i) (.type "int")
 |str (x:Str):jo K H (.str x) (.type "str")
 |flt (x:UInt64):jo K H (.flt x) (.type "float")
 |lst {a:Addr} {xs:List V} (e:H a=some (.lst xs)):jo K H (.ref a) (.type "list")
 |frz {a:Addr} {o:Obj} {xs:List V} (e:H a=some (.frz o (.lst xs))):jo K H (.ref a) (.type "list")
 |tup {a:Addr} {xs:List V} (e:H a=some (.tup xs)):jo K H (.ref a) (.type "tuple")
 |dK {a:Addr} {kvs:List (lW×V)} (e:H a=some (.dK kvs)):jo K H (.ref a) (.type "dict")
 |dT {a:Addr} {kvs:List (List lW×V)} (e:H a=some (.dT kvs)):jo K H (.ref a) (.type "dict")
 |ins {a C dx:Addr} {fs:List (Str×V)} (e:H a=some (.ins C dx fs)) (cl:Cls K C) (ha:PySem.W.findIn K (.ref C) "__class__"=some (some (.builtin "object.__class__")))
   (hn:PySem.W.specialIn K (.builtin "object.__class__") "__get__"=some (some (.builtin "getset_descriptor.__get__"))) (htk:PySem.W.takesIn K (.builtin "object.__class__")=some true)
   (hm:PySem.W.mroIn K C (.type "object")=some true):jo K H (.ref a) (.ref C)
theorem AU{x:V}{u t:Value}(I:Inv X pins σ H s)(K:RelV x u)(ty:jo X.K H x t)(e:PySem.W.kitOne X.K t c=some b)(h:∀j,Q (.bool b) {s with toks:=j}):wpAny (model X.prog X.w) A (call (.builtin "isinstance") [u,c]) Q E s:=by
 cases ty with
 |non=>cases(show u=Value.none from K);exact PySem.W.kia_one PySem.W.kitx_none I.kIn True.intro e nofun h
 |bl y=>cases(show u=Value.bool y from K);exact PySem.W.kia_one PySem.W.kitx_bool I.kIn True.intro e nofun h
 |int i=>obtain⟨t,q⟩:=(show ∃t,u=Value.int i t from K);cases q;exact PySem.W.kia_one PySem.W.kitx_int I.kIn True.intro e nofun h
 |str y=>obtain⟨t,q⟩:=(show ∃t,u=Value.str y t from K);cases q;exact PySem.W.kia_one PySem.W.kitx_str I.kIn True.intro e nofun h
 |flt y=>obtain⟨t,q⟩:=(show ∃t,u=Value.float y t from K);cases q;exact PySem.W.kia_one PySem.W.kitx_float I.kIn True.intro e nofun h
 |@lst a L ea=>
  cases(show u=Value.ref a from K)
  obtain⟨_,_,n,_,Y⟩:=(show ObjOk X.prog X.w H s.heap a (.lst L)from I.hok a _ ea);exact PySem.W.kia_one PySem.W.kitx_list I.kIn ⟨_,Y,rfl⟩ e nofun h
 |@frz a ob L ea=>
  cases(show u=Value.ref a from K)
  obtain⟨_,_,_,n,_,Y⟩:=(show ObjOk X.prog X.w H s.heap a (.frz ob (.lst L))from I.hok a _ ea);exact PySem.W.kia_one PySem.W.kitx_list I.kIn ⟨_,Y,rfl⟩ e nofun h
 |@tup a L ea=>
  cases(show u=Value.ref a from K)
  obtain⟨_,_,_,p⟩:=(show ObjOk X.prog X.w H s.heap a (.tup L)from I.hok a _ ea);obtain⟨o,Y,M,_⟩:=p;exact PySem.W.kia_one PySem.W.kitx_tuple I.kIn ⟨o,Y,M⟩ e nofun h
 |@dK a kvs ea=>
  cases(show u=Value.ref a from K)
  obtain⟨_,_,B,_,p⟩:=(show ObjOk X.prog X.w H s.heap a (.dK kvs)from I.hok a _ ea);obtain⟨o,F,N,Y,M,_⟩:=p;exact PySem.W.kia_one PySem.W.kitx_dict I.kIn ⟨o,Y,M.1⟩ e nofun h
 |@dT a kvs ea=>
  cases(show u=Value.ref a from K)
  obtain⟨_,_,L,_,o,F,N,Y,M,_⟩:=(show ObjOk X.prog X.w H s.heap a (.dT kvs)from I.hok a _ ea);exact PySem.W.kia_one PySem.W.kitx_dict I.kIn ⟨o,Y,M.1⟩ e nofun h
 |@ins a C dx fs ea cl ha hn htk hm=>
  cases(show u=Value.ref a from K)
  obtain⟨U,O,_⟩:=y4 I.hok ea;obtain⟨d,J,_⟩:=O.look;exact PySem.W.kia_one (PySem.W.kitx_own (cl.get _) cl.hd ha hn htk hm) I.kIn J e nofun h
end
structure Room(k:Nat)(A:Around):Prop where
 hd:A.handled=none
 dp:A.depth+3*k+5<recursionLimit
 un:A.units+16*k+200<cLine
 gd:A.guards=some []
theorem Room.mono{j:Nat}(r:Room k A)(h:j<=k):Room j A:=⟨r.hd,by have:=r.dp;omega,by have:=r.un;omega,r.gd⟩
theorem Room.deeper(r:Room (k+1) A)(env:Env):Room k (A.deeper env):=
 ⟨r.hd,by have:=r.dp;show A.depth+1+3*k+5<_;omega,by have:=r.un;show A.units+3+16*k+200<_;omega,r.gd⟩
theorem Room.depth(r:Room k A):A.depth<recursionLimit:=by have:=r.dp;omega
theorem Room.units(r:Room k A):A.units+64<cLine:=by have:=r.un;omega
noncomputable def d6:TA:=λ_ H Q=>Q [] H
noncomputable def bz(F:TE)(a:TA):TA:=λM H Q=>F M H λx f=>a M f λL A=>Q (x::L) A
section
variable{X:Cx}{e:Expr}{es:List Expr}{te:TE}{t:TA}{pos:Pos}
theorem pF:PA X [] d6:=λ_ _ _ _ H Q I h=>Calls.spliced_nil ⟨[],H,I,.nil,h⟩
theorem gm(Z:PE X e te)(m:PA X es t)(P:starEach (e::es) X.env=(false,eval e X.env)::starEach es X.env:=by rfl):PA X (e::es) (bz te t):=by
 intro pos B s M H Q I h;rw[P];show wpAny _ _ (spliced ((false,eval e X.env)::backTo pos (starEach es X.env))) _ _ s
 refine Calls.spliced_cons (b5 (Z B s M H _ I h) λu n ⟨x,H1,I1,r1,q1⟩=>?_)
 exact b5 (m pos B n M H1 _ I1 q1) λA G ⟨xs,H2,I2,r2,q2⟩=>⟨x::xs,H2,I2,.cons r1 r2,q2⟩
noncomputable def uN(t:TA):TE:=λM H Q=>t M H λL f=>L.length<=sizeLine/\∀p,f p=none->Q (.ref p) (upd f p (.tup L))
noncomputable def Ej(t:TA):TE:=λM H Q=>t M H λL f=>L.length<=sizeLine/\∀p,f p=none->Q (.ref p) (upd f p (.lst L))
theorem GC{x1}(h:PA X es t):PE X (.Tuple es x1 pos) (uN t):=by
 intro B s M H Q I Y;refine wpAny_Tuple_spliced (b5 (h pos B s M H _ I Y) λA n ⟨xs,H1,I1,r,z,q⟩=>⟨by rw[<-r.length];exact z,?_⟩)
 have g:H1 n.heap.objs.size=none:=I1.hok.fresh (Mz _)
 refine⟨.ref n.heap.objs.size,upd H1 n.heap.objs.size (.tup xs),I1.laid (t':=n.toks) (λb u e=>My _ e) (Mz _) ?_,rfl,q _ g⟩
 exact⟨z,A,r,⟨_,Heap.get?_push_size _ rfl,rfl,_,rfl⟩⟩
theorem B7(h:PA X es t):PE X (.List es pos) (Ej t):=by
 intro B s M H Q I Y;refine wpAny_List_spliced (b5 (h pos B s M H _ I Y) λA n ⟨xs,H1,I1,r,z,q⟩=>⟨by rw[<-r.length];exact z,?_⟩)
 have g:H1 n.heap.objs.size=none:=I1.hok.fresh (Mz _)
 refine⟨.ref n.heap.objs.size,upd H1 n.heap.objs.size (.lst xs),I1.laid (t':=n.toks) (λb u e=>My _ e) (Mz _) ?_,rfl,q _ g⟩
 exact⟨z,A,0,r,Heap.get?_push_size _ rfl⟩
end
abbrev Sp:=List V->Hp->VK->XK->Prop
abbrev xo:=List Env->Hp->Shared->XK->Value->Shared->Prop
structure zX(P:Program)(w:World)(K:Fg)(mg:Str->Option Value)(base:Heap)(A:Around)(outer:List Env)(s:Shared)(H:Hp):Prop where
 frames:A.frames=some outer
 mod:Mod K mg base
 bs:∀b o,base.get? b=some o->s.heap.get? b=some o/\H b=none
 bsz:base.objs.size<=s.heap.objs.size
 funs:s.heap.FunFrames base outer
 frf:∀b∈wx outer,H b=none
 hok:HOk P w H s.heap
 bare:AllBare s.gens
noncomputable def CE(L:List Env)(P:Program)(w:World)(H:Hp)(s:Shared)(Q:VK)(u:Value)(N:Shared):Prop:=
 ∃v F,N.os=s.os/\AllBare N.gens/\Un (wx L) [] H F s.heap N.heap/\HOk P w F N.heap/\RelV v u/\Q v F
noncomputable def CR(h:xo)(L:List Env)(P:Program)(w:World)(H:Hp)(s:Shared)(Q:VK)(E:XK)(r:Result)(N:Shared):Prop:=
 match r with
 |.ok (.ret u)=>CE L P w H s Q u N
 |.ok _=>False
 |.error e=>h L H s E e N
structure eQ(P:Program)(w:World)(K:Fg)(mg:Str->Option Value)(base:Heap)(CX:xo)(k:Nat)(f:Addr)(fd:FuncData)(ps:List Str)(sp:Sp):Prop where
 len:∀vs H Q E,sp vs H Q E->vs.length=ps.length
 run:∀(A:Around)(outer:List Env)(s:Shared)(H:Hp)(args:Args)(us:List Value)(vs:List V)(Q:VK)(E:XK),Room k A->zX P w K mg base A outer s H->BindsTo s fd args (ps.zip us)->Vals vs us->sp vs H Q E ->
  codeAny (model P w) A (.call (.ref f) args) (CR CX outer P w H s Q E) s
section
variable{X:Cx}{pins:List (Addr×Obj)}{σ:St}{H:Hp}{s s':Shared}
theorem Inv.env0(I:Inv X pins σ H s):zX X.prog X.w X.K X.mg X.base X.A X.stack s H:=
 ⟨I.ok.frames,I.ok.mod,I.bs,Nat.le_trans I.ok.bsz I.sz,I.stack,I.stkFree,I.hok,I.bare⟩
theorem Inv.after{Q:VK}{u:Value}(I:Inv X pins σ H s)(h:CE X.stack X.prog X.w H s Q u s'):EP X pins σ Q u s':=by
 obtain⟨v,F,a,E,un,A,r,q⟩:=h;obtain⟨c,g,d,t,B⟩:=s'
 obtain rfl:B=s.os:=a
 exact⟨v,F,I.call (h':=c) (g':=g) (d':=d) (t':=t) (ch:=[]) un A E (λb z=>absurd z (by simp)),r,q⟩
end
noncomputable def eB(C:Sp)(a:List V)(E:XK)(t:TA):TE:=λM H Q=>t M H λB f=>C (B++a) f Q E
noncomputable def Binds(K:Fg)(y:FuncData)(J:List Str)(X:List Value):Prop:=
 ∀(s:Shared)(us:List Value),K.In s.heap->(us++X).length=J.length->BindsTo s y ⟨us,[]⟩ (J.zip (us++X))
theorem Binds.all{K:Fg}{y:FuncData}{J:List Str}(h:∀A:List Value,A.length=J.length->bindArgs y ⟨A,[]⟩=pure (J.zip A)):Binds K y J []:=λs A _ S=>by
 rw[append_nil]at S ⊢;exact .of_eq (h A S)
noncomputable def qX(h:xo)(X:Cx)(E:XK):Prop:=∀(B:List (Addr×Obj))(σ:St)(H:Hp)(s:Shared)(e:Value)(s':Shared),Inv X B σ H s->h X.stack H s E e s'->X.xe e s'
section
variable{X:Cx}{CX:xo}{k:Nat}{f C:Addr}{fd:FuncData}{ps:List Str}{sp:Sp}{dvs:List V}{ds:List Value}{E:XK}{x m:Str}{p pos apos:Pos}{e o:Expr}{es:List Expr}{ta:TE}{t:TA}
theorem Bl{M:St}{H:Hp}{s:Shared}{Q:VK}{A:List Value}{a:List V}(F:eQ X.prog X.w X.K X.mg X.base CX k f fd ps sp)(c:Room k X.A)(U:Binds X.K fd ps ds)(y:Vals dvs ds)(g:qX CX X E)(I:Inv X B M H s)(r:Vals a A)(h:sp (a++dvs) H Q E):wpAny (model X.prog X.w) X.A (call (.ref f) A) (EP X B M Q) X.xe s:=by
 have b:Vals (a++dvs) (A++ds):=r.append y
 have S:(A++ds).length=ps.length:=by rw[<-b.length];exact F.len _ _ _ _ h
 refine wpAny_call (codeAny_mono (F.run X.A X.stack s H ⟨A,[]⟩ (A++ds) (a++dvs) Q E c I.env0 (U s A I.kIn S) b h) λr N Y=>?_)
 cases r with
 |error e=>exact g B M H s e N I Y
 |ok d=>
  cases d with
  |ret u=>exact I.after Y
  |next=>exact False.elim Y
  |brk=>exact False.elim Y
  |cont=>exact False.elim Y
theorem xx(F:eQ X.prog X.w X.K X.mg X.base CX k f fd ps sp)(a:Room k X.A)(g:Gl X x)(c:X.mg x=some (.ref f))(G:PySem.W.keepIn X.K (.ref f)=true)(U:Binds X.K fd ps ds)(y:Vals dvs ds)(b:qX CX X E)(Z:PA X (e::es) t)(d:(x==("__debug__":Str))=false:=by decide)(R:starEach (e::es) X.env=(false,eval e X.env)::starEach es X.env:=by rfl)(u:(backTo pos (starEach es X.env)).any (·.1)=false:=by rfl):PE X (.Call (.Name x p) (e::es) [] pos) (eB sp dvs E t):=by
 intro B s M H Q I h;refine wpAny_Call_Name_kw (Gz I g c ?_ d)
 refine PySem.W.callWith_K (h₀:=X.base) I.ok.mod.kin G (b5 (Z pos B s M H _ I h) λA n ⟨vs,H1,I1,r,q⟩=>⟨I1.kIn,?_⟩) R u
 exact Bl F a U y b I1 r q
end
structure cm(N P:List Str)(sc:Scope):Prop where
 kind:sc.kind=.function
 co:sc.isCoroutine=false
 gen:sc.isGenerator=false
 nd:N.Nodup
 pre:N.take P.length=P
 par:∀x∈P,sc.names.lookup x=some .local\/sc.names.lookup x=some .cell
 nofree:∀y∈sc.names,y.2≠.free
theorem lP{a:Str->Option NameKind}{x:Str}:∀{binds:List (Str×Value)}{m:Str->Option Value},(∀v,(x,v)∉binds)->bindL a binds m x=m x
 |[],_,_=>rfl
 |(n,v)::r,m,h=>by
  unfold bindL;rw[lP λw j=>h w (Ms _ j)]
  split
  .have:x≠n:=by rintro rfl;exact h v mem_cons_self
   simp[this]
  .rfl
theorem lR{a:Str->Option NameKind}{x:Str}:∀{binds:List (Str×Value)}{m:Str->Option Value},(∀v,(x,v)∉binds)->bindC a binds m x=m x
 |[],_,_=>rfl
 |(n,v)::r,m,h=>by
  unfold bindC;rw[lR λw j=>h w (Ms _ j)]
  split
  .rfl
  .have:x≠n:=by rintro rfl;exact h v mem_cons_self
   simp[this]
theorem lQ{a:Str->Option NameKind}{x:Str}{v:Value}:∀{P:List Str}{vs:List Value}{i:Nat}{m:Str->Option Value},P.Nodup->P[i]?=some x->vs[i]?=some v->a x=some .local ->
  bindL a (P.zip vs) m x=some v
 |[],_,_,_,_,h,_,_=>by simp at h
 |_::_,[],_,_,_,_,h,_=>by simp at h
 |p::P,w::vs,0,m,nd,h1,h2,hk=>by
  simp at h1 h2;subst h1;subst h2;show bindL a ((p,w)::P.zip vs) m p=_
  unfold bindL;rw[lP λv f=>(List.nodup_cons.mp nd).1 (of_mem_zip f).1,if_pos hk]
  simp
 |p::P,w::vs,i+1,m,nd,h1,h2,hk=>by
  show bindL a ((p,w)::P.zip vs) m x=_
  unfold bindL;exact lQ (i:=i) (List.nodup_cons.mp nd).2 (by simpa using h1) (by simpa using h2) hk
theorem lT{a:Str->Option NameKind}{x:Str}{v:Value}:∀{P:List Str}{vs:List Value}{i:Nat}{m:Str->Option Value},P.Nodup->P[i]?=some x->vs[i]?=some v->a x≠some .local ->
  bindC a (P.zip vs) m x=some v
 |[],_,_,_,_,h,_,_=>by simp at h
 |_::_,[],_,_,_,_,h,_=>by simp at h
 |p::P,w::vs,0,m,nd,h1,h2,hk=>by
  simp at h1 h2;subst h1;subst h2;show bindC a ((p,w)::P.zip vs) m p=_
  unfold bindC;rw[lR λv f=>(List.nodup_cons.mp nd).1 (of_mem_zip f).1,if_neg hk]
  simp
 |p::P,w::vs,i+1,m,nd,h1,h2,hk=>by
  show bindC a ((p,w)::P.zip vs) m x=_
  unfold bindC;exact lT (i:=i) (List.nodup_cons.mp nd).2 (by simpa using h1) (by simpa using h2) hk
noncomputable def start(N:List Str)(B:List V):St:=B.map some++List.replicate (N.length-B.length) none
noncomputable def ph(h:xo)(P:Program)(w:World)(K:Fg)(mg:Str->Option Value)(base:Heap)(N:List Str)(j:Str)(d:Scope)(f:Addr)(F:Value)(A:Around)(outer:List Env)(s:Shared)(H:Hp)(E:XK):Cx where
 prog:=P
 w:=w
 K:=K
 mg:=mg
 base:=base
 A:=A.deeper (envOfC j d s.heap.objs.size f F)
 N:=N
 s₀:=s
 H₀:=H
 env:=envOfC j d s.heap.objs.size f F
 outer:=outer
 stack:=envOfC j d s.heap.objs.size f F::outer
 ex:=[]
 calm:=true
 fn:=λ_=>true
 pn:=[]
 xe:=λe a=>wpAny (model P w) (A.deeper (envOfC j d s.heap.objs.size f F)) (leaving (envOfC j d s.heap.objs.size f F) e) (λ_ c=>h outer H s E e c) (λJ c=>h outer H s E J c) a
theorem pB{sc:Scope}{n:Nat}(h:sc.names.lookup x=some .cell):∃c,(cellsFrom n sc.names []).lookup x=some c:=by
 have q:=PySem.W.cellsFrom_some sc.names n [] (.inl h)
 exact Option.isSome_iff_exists.mp q
theorem tF{CX:xo}{P:Program}{w:World}{R:Str->Option Value}{g:Heap}{J:List Str}{j:Str}{d:Scope}{f:Addr}{F:Value}{L:List Env}{s X:Shared}{H:Hp}{E:XK}{I:List Value}{B:List V}(S:cm N J d)(hd:A.handled=none)(U:zX P w K R g A L s H)(hl:B.length=J.length)(r:Vals B I)(x:InCallC s s.heap.objs.size (bindL (envOfC j d s.heap.objs.size f F).kindOf (J.zip I) λ_=>none) (cellsFrom (s.heap.objs.size+1) d.names []) (bindC (envOfC j d s.heap.objs.size f F).kindOf (J.zip I) λ_=>none) X):Inv (ph CX P w K R g N j d f F A L s H E) [] (start N B) H X:=by
 have hpl:J.length<=N.length:=by have:=congrArg List.length S.pre;rw[length_take]at this;omega
 obtain⟨Y,tk,rfl,G⟩:=x.done;have m:∀b:Addr,b∉(ph CX P w K R g N j d f F A L s H E).ex:=λb z=>absurd (show b∈([]:List Addr)from z) (by simp)
 refine⟨⟨U.mod,S.kind,rfl,rfl,Mz _,λy z c Y M=>?_,λy t=>?_,λy c _ h=>?_,λ_=>hd,Around.frames_deeper U.frames,.inr ⟨rfl,rfl⟩,λb z=>absurd z (m b),U.bs,U.bsz,λb _ _=>m b,λb z=>absurd z (m b),U.funs,U.frf⟩,
  rfl,U.bare,Un.kept G,⟨_,x.toInCall.ns,λi y v Y M h3=>?_⟩,λy c h=>⟨_,x.cell y c h⟩,U.hok.fresh (Mz _),λy c h=>?_,λp C=>absurd (show p∈([]:List (Addr×Obj))from C) (by simp),U.hok.kept G,?_⟩
 .exact name_of_addr x.apart (PySem.mem_of_lookup Y) (PySem.mem_of_lookup M)
 .have t:d.names.lookup y=some .cell\/d.names.lookup y=some .free:=t
  rcases t with t|t
  .exact pB t
  .exact absurd rfl (S.nofree _ (PySem.mem_of_lookup t))
 .exact Nat.le_of_lt (x.above y c (PySem.mem_of_lookup h))
 .have l:i<B.length:=by
   unfold start at M;by_cases l:i<B.length
   .exact l
   .rw[getElem?_append_right (by simpa using l)]at M
    rw[getElem?_replicate]at M;split at M<;>cases M
  have Z:B[i]?=some v:=by
   unfold start at M;rw[getElem?_append_left (by simpa using l),getElem?_map]at M
   cases e:B[i]? with
   |none=>rw[e]at M;cases M
   |some a=>rw[e]at M;cases M;rfl
  obtain⟨u,hu,rv⟩:=r.get Z;have C:J[i]?=some y:=by
   rw[<-S.pre,List.getElem?_take_of_lt (by omega)];exact Y
  have o:J.Nodup:=by rw[<-S.pre];exact S.nd.sublist (List.take_sublist _ _)
  refine⟨u,rv,?_⟩
  rcases S.par y (mem_of_getElem? C)with k|k
  .exact .inl ⟨k,lQ o C hu k⟩
  .obtain⟨c,e⟩:=pB (n:=s.heap.objs.size+1) k
   refine .inr ⟨.inl k,c,e,?_⟩
   have q:=x.cell y c e
   rw[lT o C hu (by show d.names.lookup y≠_;rw[k];decide)]at q
   exact q
 .exact U.hok.fresh (Nat.le_of_lt (x.above y c (PySem.mem_of_lookup h)))
 .unfold start
  show _=N.length
  rw[length_append,length_map,List.length_replicate];omega
theorem FG{h:xo}{P:Program}{w:World}{p:Str->Option Value}{g:Heap}{f:Addr}{i j:Str}{params:Arguments}{body:List Stmt}{d:Scope}{dV kV doc X a ct oc:Value}{an M:Option Addr}{G:Array (Option Value)}{ps:List Str}{C:Sp}(lk:K.lookup f=some ⟨oc,M,.func (PySem.W.fnOf i j params body d dV kV doc X an a ct),G⟩)(z:PySem.W.codeIn K a j=true)(S:cm N ps d)(len:∀B H Q E,C B H Q E->B.length=ps.length)(hbody:∀(A:Around)(L:List Env)(s:Shared)(H:Hp)(B:List V)(Q:VK)(E:XK),Room k (A.deeper (envOfC j d s.heap.objs.size f a))->C B H Q E ->
   ∃t,PSs (ph h P w K p g N j d f a A L s H E) body t/\t {nx:=λ_ F=>Q .non F,rt:=Q} (start N B) H):eQ P w K p g h (k+1) f (PySem.W.fnOf i j params body d dV kV doc X an a ct) ps C:=by
 refine⟨len,λA L s H args us B Q E m e0 U r l=>?_⟩
 have hl:=len _ _ _ _ l
 have KX:K.In s.heap:=e0.mod.kin.keeps λb o e=>(e0.bs b o e).1
 have lim:s.heap.NoLimit:=e0.mod.nolimit.keeps λb o e=>(e0.bs b o e).1
 have hkind:∀y∈ps.zip us,d.names.lookup y.1=some .local\/(d.names.lookup y.1=some .cell/\((cellsFrom (s.heap.objs.size+1) d.names []).lookup y.1).isSome=true):=λ⟨n,v⟩ hy=>by
  rcases S.par n (of_mem_zip hy).1 with q|q
  .exact .inl q
  .exact .inr ⟨q,PySem.W.cellsFrom_some _ _ _ (.inl q)⟩
 refine codeAny_call_function m.depth (KX _ _ lk) rfl S.co S.gen rfl (PySem.W.codeRec_of KX z) (U _ _ _ _ ?_)
 refine wpAny_newFunctionEnv_cells S.kind hkind λenv R s1 x=>?_
 subst R;refine⟨lim.keeps x.toInCall.keep,codeAny_func ?_⟩
 obtain⟨t,ht,Y⟩:=hbody A L s H B Q E (m.deeper _) l;have I:Inv (ph h P w K p g N j d f a A L s H E) [] (start N B) H s1:=tF S m.hd e0 hl r x
 refine wpAny_mono (ht [] s1 (start N B) H _ I Y) (λfl s' hs=>?_) λe s' hs=>hs
 have fin:∀{Z:St}{F:Hp}{v:V}{u:Value},Inv (ph h P w K p g N j d f a A L s H E) [] Z F s'->RelV v u->Q v F->CE L P w H s Q u s':=
  λ{Z F v u} J c q=>⟨v,F,J.os,J.bare,J.base,J.hok,c,q⟩
 cases fl with
 |ret u=>
  obtain⟨v,Z,F,J,c,q⟩:=hs;exact fin J c q
 |next=>
  obtain⟨Z,F,J,q⟩:=hs;exact fin (v:=V.non) (u:=Value.none) J rfl q
 |brk=>
  obtain⟨_,_,_,q⟩:=hs;exact False.elim q
 |cont=>
  obtain⟨_,_,_,q⟩:=hs;exact False.elim q
section
variable{X:Cx}{x:Str}{p pos:Pos}{e:Expr}{es:List Expr}{t:TA}{id T:String}{r:List V->Hp->VK->Prop}
noncomputable def Ba(r:List V->Hp->VK->Prop)(t:TA):TE:=λM H Q=>t M H λB f=>r B f Q
theorem Je(J:CallR X (.builtin id) r)(C:Gl X x)(E:X.mg x=none)(f:bootBuiltins x=some (.builtin id))(Z:PA X (e::es) t)(j:x ≠ "__name__":=by decide)(d:(x==("__debug__":Str))=false:=by decide)(R:starEach (e::es) X.env=(false,eval e X.env)::starEach es X.env:=by rfl)(u:(backTo pos (starEach es X.env)).any (·.1)=false:=by rfl):PE X (.Call (.Name x p) (e::es) [] pos) (Ba r t):=by
 intro B s M H Q I h;refine wpAny_Call_Name_kw (xj I C E f ?_ j d)
 exact PyProof.Rows.callWith_builtin1 (b5 (Z pos B s M H _ I h) λA n ⟨vs,H1,I1,r1,q1⟩=>J B n M H1 vs A Q I1 r1 q1) R u
theorem Ja(J:CallR X (.type T) r)(C:Gl X x)(E:X.mg x=none)(f:bootBuiltins x=some (.type T))(Z:PA X (e::es) t)(j:x ≠ "__name__":=by decide)(d:(x==("__debug__":Str))=false:=by decide)(R:starEach (e::es) X.env=(false,eval e X.env)::starEach es X.env:=by rfl)(u:(backTo pos (starEach es X.env)).any (·.1)=false:=by rfl):PE X (.Call (.Name x p) (e::es) [] pos) (Ba r t):=by
 intro B s M H Q I h;refine wpAny_Call_Name_kw (xj I C E f ?_ j d)
 exact PyProof.Rows.callWith_type1 (b5 (Z pos B s M H _ I h) λA n ⟨vs,H1,I1,r1,q1⟩=>J B n M H1 vs A Q I1 r1 q1) R u
end
end L2
namespace HT
open PySem PyProof.Rows
variable{t:Addr}{G l:Option Int}
section
variable{prog:Program}{w:World}{A:Around}{E:Value->Shared->Prop}{s:Shared}
theorem cat_tup{b:Addr}{B x:List Value}{Q:Value->Shared->Prop}(h:IsTup s.heap t B.toArray)(U:IsTup s.heap b x.toArray)(f:B≠[])(Y:x=[]->Q (.ref t) s)(M:x≠[]->Q (.ref s.heap.objs.size) {s with heap:=s.heap.push {cls:=.type "tuple",data:=.seq (B++x).toArray} })(z:B.length+x.length<=sizeLine):wpAny (model prog w) A (binaryOp .Add (.ref t) (.ref b)) Q E s:=by
 obtain⟨⟨cls,q,data,c⟩,K,J,n,y⟩:=id h;obtain⟨⟨p,k,o,m⟩,d,i,g,a⟩:=id U;simp only at J y i a
 subst J y i a;have e:B.toArray++x.toArray=(B++x).toArray:=by simp
 by_cases j:x=[]
 .exact concat_meets ⟨_,K,rfl⟩ ⟨_,d,rfl⟩ noFill_tuple_add seq_tuple_add PySem.F.slot_tuple_add PySem.F.entry_tuple_add (PySem.F.args_tuple_add_2 _ _)
   (tuple_addW1 t b B.toArray x.toArray n g q k c m (by simpa using f) (by simp[j])) ⟨K,d,Y j⟩
 .refine concat_meets ⟨_,K,rfl⟩ ⟨_,d,rfl⟩ noFill_tuple_add seq_tuple_add PySem.F.slot_tuple_add PySem.F.entry_tuple_add (PySem.F.args_tuple_add_2 _ _)
   (tuple_addW2 t b B.toArray x.toArray n g q k c m (by simpa using f) (by simpa using j) (by rw[size_toArray,size_toArray];exact z)) ⟨K,d,?_⟩
  rw[e];exact M j
noncomputable def sIx(n d:Nat):Option Int->Nat
 |none=>d
 |some v=>if v<0 then(v+(n:Int)).toNat else min v.toNat n
theorem sIx_none(n d:Nat):sIx n d none=d:=rfl
theorem sIx_nat(n d k:Nat):sIx n d (some (k:Int))=min k n:=by
 show(if(k:Int)<0 then((k:Int)+(n:Int)).toNat else min (k:Int).toNat n)=min k n
 rw[if_neg (by omega),Int.toNat_natCast]
theorem Bk(n d:Nat)(y:d<=n)(o:Option Int):sIx n d o<=n:=by
 cases o with
 |none=>exact y
 |some v=>
  show(if v<0 then(v+(n:Int)).toNat else min v.toNat n)<=n
  by_cases f:v<0
  .rw[if_pos f];omega
  .rw[if_neg f];exact Nat.min_le_right _ _
theorem sd(v:Int)(n d:Nat):(if v<0 then max (v+(n:Int)) 0 else min v (n:Int))=((sIx n d (some v):Nat):Int):=by
 show(if v<0 then max (v+(n:Int)) 0 else min v (n:Int))=(((if v<0 then(v+(n:Int)).toNat else min v.toNat n):Nat):Int)
 by_cases f:v<0
 .simp only[if_pos f];omega
 .simp only[if_neg f];omega
theorem qV(G l:Option Int)(n:Nat):Builtin.Slice.sliceAdjust G l 1 (n:Int)=(((sIx n 0 G:Nat):Int),((sIx n n l:Nat):Int)):=by
 have Y:¬((1:Int)<0):=by omega
 unfold Builtin.Slice.sliceAdjust;simp only[Y,if_false]
 refine Prod.ext ?_ ?_
 .cases G with
  |none=>rfl
  |some v=>exact sd v n 0
 .cases l with
  |none=>rfl
  |some v=>exact sd v n n
theorem qe(i j:Nat):Builtin.Slice.slicePlaces (i:Int) (j:Int) 1=j-i:=by
 unfold Builtin.Slice.slicePlaces;have Y:(1:Int)>0:=by omega
 simp only[Y,if_true,Int.ediv_one]
 split<;>omega
theorem jD{v:Value}{o:Option Int}{Q:Option Int->Shared->Prop}(p:IsPart v o)(h:Q o s):wpAny (model prog w) A (Builtin.Slice.slicePartIndex v) Q E s:=by
 cases p with
 |none=>exact slicePart_none h
 |int i t=>exact slicePart_int h
theorem iF{B:Addr}{d f:Value}{n:Nat}{Q:Int×Int×Nat->Shared->Prop}(P:s.heap.IsSliceOf B d f .none)(pl:IsPart d G)(C:IsPart f l)(h:Q (((sIx n 0 G:Nat):Int),1,sIx n n l-sIx n 0 G) s):wpAny (model prog w) A (Builtin.Slice.sliceApplied (.ref B) (pure (n:Int))) Q E s:=by
 obtain⟨X,b,i,g⟩:=id P;unfold Builtin.Slice.sliceApplied Builtin.Slice.sliceFields;refine Mw (Mw (wpAny_field b g (x:=d) rfl (Mw (wpAny_field b g (x:=f) rfl (Mw (wpAny_field b g (x:=.none) rfl (Mx ?_)))))))
 refine Mw (slicePart_none ?_)
 show wpAny _ _ (if((1:Int)==0)=true then _ else _) _ _ s
 rw[if_neg (by decide)]
 refine Mw (jD pl (Mw (jD C (Mw (Mx ?_)))))
 show wpAny _ _ (match Builtin.Slice.sliceAdjust G l 1 (n:Int)with|(G,l)=>pure (G,(1:Int),Builtin.Slice.slicePlaces G l 1)) _ _ s
 rw[qV G l n];show wpAny _ _ (pure (((sIx n 0 G:Nat):Int),(1:Int),Builtin.Slice.slicePlaces ((sIx n 0 G:Nat):Int) ((sIx n n l:Nat):Int) 1)) _ _ s
 rw[qe];exact Mx h
theorem vD(L:Array Value)(i k:Nat):((List.range k).filterMap λ(m:Nat)=>L[((i:Int)+(m:Int)*1).toNat]?).toArray=((L.toList.drop i).take k).toArray:=by
 have e:(λ(m:Nat)=>L[((i:Int)+(m:Int)*1).toNat]?)=λm=>L[i+m]?:=by
  funext m
  have:((i:Int)+(m:Int)*1).toNat=i+m:=by omega
  rw[this]
 rw[e];have:=pick_run L i k
 rw[List.filterMap_map]at this;have R:((λx=>L[x]?)∘λx=>i+x)=λm=>L[i+m]?:=rfl
 rw[R]at this;rw[this]
theorem getItem_tuple_cut{B:Addr}{items:Array Value}{d f:Value}{Q:Value->Shared->Prop}(n:IsTup s.heap t items)(P:s.heap.IsSliceOf B d f .none)(pl:IsPart d G)(C:IsPart f l)(j:¬(sIx items.size 0 G=0/\sIx items.size items.size l=items.size))(h:Q (.ref s.heap.objs.size) {s with heap:=s.heap.push {cls:=.type "tuple",data:=.seq ((items.toList.drop (sIx items.size 0 G)).take (sIx items.size items.size l-sIx items.size 0 G)).toArray} })(z:items.size<=sizeLine):wpAny (model prog w) A (getItem (.ref t) (.ref B)) Q E s:=by
 have a:sizeOk (.seq ((items.toList.drop (sIx items.size 0 G)).take (sIx items.size items.size l-sIx items.size 0 G)).toArray):=by
  show((items.toList.drop (sIx items.size 0 G)).take (sIx items.size items.size l-sIx items.size 0 G)).toArray.size<=sizeLine
  rw[size_toArray,length_take,length_drop,Array.length_toList];omega
 have o:sIx items.size items.size l<=items.size:=Bk _ _ (Mz _) l
 obtain⟨X,b,i,g⟩:=id P;have k:s.TypeIs (.ref B) "slice":=⟨X,b,i⟩
 unfold getItem;try with_reducible refine wpAny_holding ?_
 first|refine Mw (Mx ?_)|skip
 refine Mw (wpAny_sequenceKey n.typeIs (by decide) ?_)
 refine Mw (wpAny_callSpecial?_slot (name:=Str.ofString "__getitem__") n.typeIs PyProof.Rows.slot_tuple_getitem
  (wpAny_call_entry PyProof.Rows.slot_tuple_getitem n.typeIs entry_tuple_getitem ?_ (args_tuple_getitem _ _)))
 show wpAny _ _ (Builtin.Tuple.tupleItemsOf (.ref t) >>= _) _ _ s
 refine Mw (tupleItemsOf_ n ?_)
 refine Mw (wpAny_typeOf k ?_)
 rw[if_pos (by decide)]
 refine Mw (iF P pl C ?_)
 have e:¬((((sIx items.size 0 G:Nat):Int)==0&&(1:Int)==1&&(sIx items.size items.size l-sIx items.size 0 G)==items.size)=true):=by
  intro q;rw[Bool.and_eq_true,Bool.and_eq_true]at q;have S:((sIx items.size 0 G:Nat):Int)=0:=eq_of_beq q.1.1
  have c:sIx items.size items.size l-sIx items.size 0 G=items.size:=eq_of_beq q.2
  exact j ⟨by omega,by omega⟩
 show wpAny _ _ (if(((sIx items.size 0 G:Nat):Int)==0&&(1:Int)==1&&(sIx items.size items.size l-sIx items.size 0 G)==items.size)=true then _ else _) _ _ s
 rw[if_neg e,vD];first
  |exact Mw (m:=Builtin.Tuple.tupleExact _) (wpAny_newObj_type (Mx ⟨_,rfl,Mx h⟩) a)
  |exact Mw (m:=Builtin.Tuple.tupleExact _) (wpAny_newObj_type (Mw (Mx (Mx ⟨_,rfl,Mx h⟩))) a)
  |exact Mw (Mw (m:=Builtin.Tuple.tupleExact _) (wpAny_newObj_type (Mx (Mx ⟨_,rfl,Mx h⟩)) a))
  |exact Mw (Mw (m:=Builtin.Tuple.tupleExact _) (wpAny_newObj_type (Mx ⟨_,rfl,Mx h⟩) a))
end
end HT
namespace L2
open PySem PySem.Spec PyProof.Rows
variable{L:List V}{A g:List Value}{B:List (Addr×Obj)}{M:St}
abbrev TO:=St->Hp->(Option Int->Hp->Prop)->Prop
noncomputable def PO(X:Cx)(e:Option Expr)(t:TO):Prop:=
 ∀(B:List (Addr×Obj))(s:Shared)(σ:St)(H:Hp)(Q:Option Int->Hp->Prop),Inv X B σ H s->t σ H Q ->
  wpAny (model X.prog X.w) X.A (evalPart e X.env) (λu N=>∃o F,Inv X B σ F N/\IsPart u o/\Q o F) X.xe s
noncomputable def mi:TO:=λ_ H Q=>Q none H
noncomputable def uP(t:TE):TO:=λM H Q=>t M H λx f=>∃i,x=.int i/\Q (some i) f
section
variable{X:Cx}{e:Expr}{te:TE}{lo hi:Option Expr}{tl th:TO}{pos p2:Pos}
theorem rD:PO X none mi:=by
 intro B s M H Q I h;rw[evalPart_none];exact Mx ⟨none,H,I,.none,h⟩
theorem rC(h:PE X e te):PO X (some e) (uP te):=by
 intro B s M H Q I j;rw[evalPart_some];refine b5 (h B s M H _ I j) λu n ⟨x,H1,I1,r1,q1⟩=>?_
 obtain⟨i,rfl,q⟩:=q1;obtain⟨t,rfl⟩:=r1;exact⟨some i,H1,I1,.int i t,q⟩
noncomputable def KO(X:Cx)(r:V->Option Int->Option Int->Hp->VK->Prop):Prop:=
 ∀(B:List (Addr×Obj))(s:Shared)(σ:St)(H:Hp)(x:V)(v vl vu:Value)(lo hi:Option Int)(sl:Addr)(Q:VK),Inv X B σ H s->RelV x v->s.heap.IsSliceOf sl vl vu .none->IsPart vl lo->IsPart vu hi->r x lo hi H Q ->
  ∃T i,typeLookup (.type T) "__getitem__"=pure (some (.builtin i))/\s.TypeIs v T/\wpAny (model X.prog X.w) X.A (getItem v (.ref sl)) (EP X B σ Q) X.xe s
noncomputable def tSl(r:V->Option Int->Option Int->Hp->VK->Prop)(o:TE)(k a:TO):TE:=λM H Q=>o M H λx f=>k M f λl A=>a M A λu P=>r x l u P Q
theorem oj{r:V->Option Int->Option Int->Hp->VK->Prop}(m:KO X r)(R:PE X e te)(S:PO X lo tl)(E:PO X hi th):PE X (.Subscript e (.Slice lo hi none p2) pos) (tSl r te tl th):=by
 intro B s M H Q I h;refine Subscript_ (b5 (R B s M H _ I h) λv n ⟨x,H1,I1,r1,q1⟩=>?_)
 refine wpAny_Slice (b5 (S B n M H1 _ I1 q1) λd G ⟨l,H2,I2,pl,q2⟩=>b5 (E B G M H2 _ I2 q2) λf Y ⟨u,H3,I3,pu,q3⟩=>?_)
 rw[evalPart_none];refine Mx ?_
 have a:Inv X B M H3 {Y with heap:=Y.heap.push {cls:=.type "slice",data:=.fields #[d,f,.none]} }:=I3.kept (t':=Y.toks) λb c q=>My _ q
 obtain⟨T,i,p,A,C⟩:=m B {Y with heap:=Y.heap.push {cls:=.type "slice",data:=.fields #[d,f,.none]} } M H3 x v d f l u Y.heap.objs.size Q a r1 (Heap.IsSliceOf.new ..) pl pu q3
 show wpAny (model X.prog X.w) X.A (subscriptTail e (.Slice lo hi none p2) v (.ref Y.heap.objs.size)) (EP X B M Q) X.xe {Y with heap:=Y.heap.push {cls:=.type "slice",data:=.fields #[d,f,.none]} }
 exact tail_any (ops:=[.ref Y.heap.objs.size,v]) A p C (by with_unfolding_all rfl)
noncomputable def kQ(L:List V)(G l:Option Int):List V:=(L.drop (HT.sIx L.length 0 G)).take (HT.sIx L.length L.length l-HT.sIx L.length 0 G)
theorem Jr(L:List V)(G l:Option Int):(kQ L G l).length<=L.length:=by
 unfold kQ;rw[length_take,length_drop];omega
noncomputable def BR(K:Fg):V->Option Int->Option Int->Hp->VK->Prop:=λx lo hi H Q=>∃a L,x=.ref a/\SqT K H a L /\
 ¬(HT.sIx L.length 0 lo=0/\HT.sIx L.length L.length hi=L.length)/\∀p,H p=none->Q (.ref p) (upd H p (.tup (kQ L lo hi)))
theorem Bf:KO X (BR X.K):=by
 intro B s M H x v d f lo hi c Q I K P pl C h;obtain⟨a,L,rfl,F,j,q⟩:=h
 cases K;obtain⟨g,r,A,U⟩:=I.tuple F;have z:g.toArray.size=L.length:=by rw[size_toArray];exact r.length.symm
 refine⟨"tuple",_,PyProof.Rows.slot_tuple_getitem.lookup,A.typeIs,?_⟩
 refine HT.getItem_tuple_cut A P pl C (by rw[z];exact j) ?_ (by rw[z];exact U)
 rw[z];refine⟨.ref s.heap.objs.size,_,I.laid (t':=s.toks) (o:=.tup (kQ L lo hi)) (λb E q=>My _ q) (Mz _) ?_,rfl,q _ (I.hok.fresh (Mz _))⟩
 exact⟨Nat.le_trans (Jr L lo hi) U,_,(r.drop (HT.sIx L.length 0 lo)).take (HT.sIx L.length L.length hi-HT.sIx L.length 0 lo),IsTup.new _ _⟩
noncomputable def vw(K:Fg):R2:=λx y H Q=>∃a b L R,x=.ref a/\y=.ref b/\SqT K H a L/\SqT K H b R/\L≠[]/\L.length+R.length<=sizeLine /\
 (R=[]->Q (.ref a) H)/\(R≠[]->∀p,H p=none->Q (.ref p) (upd H p (.tup (L++R))))
theorem Vals.nil_iff(r:Vals L A):A=[]↔L=[]:=by
 cases r with
 |nil=>simp
 |cons _ _=>simp
theorem yK:OpR X (binaryOp .Add) (vw X.K):=by
 intro B s M H x y v u Q I K n h;obtain⟨a,b,L,R,rfl,rfl,Z,U,F,d,S,c⟩:=h
 cases K
 cases n;obtain⟨g,k,G,_⟩:=I.tuple Z;obtain⟨f,C,p2,_⟩:=I.tuple U;refine HT.cat_tup G p2 (λz=>F (k.nil_iff.mp z)) (λz=>⟨.ref a,H,I,rfl,S (C.nil_iff.mp z)⟩) (λz=>?_) (by rw[<-k.length,<-C.length];exact d)
 refine⟨.ref s.heap.objs.size,_,I.laid (t':=s.toks) (o:=.tup (L++R)) (λb E q=>My _ q) (Mz _) ?_,rfl,c (λw=>z (C.nil_iff.mpr w)) _ (I.hok.fresh (Mz _))⟩
 exact⟨by rw[length_append];exact d,_,k.append C,IsTup.new _ _⟩
end
noncomputable def fQ(n:Nat)(i:Int):Option Nat:=if 0<=i then(if i<n then some i.toNat else none)else if -(n:Int)<=i then some (i+n).toNat else none
noncomputable def fy{u:Type}(L:List u)(i:Int):Option u:=(fQ L.length i).bind λj=>L[j]?
theorem Iq{n:Nat}{i:Int}{j:Nat}(h:fQ n i=some j):seqIndex? i n=some j/\j<n/\-(n:Int)<=i/\i<n:=by
 unfold fQ at h;by_cases o:0<=i
 .rw[if_pos o]at h
  by_cases Y:i<n
  .rw[if_pos Y]at h
   have e:i.toNat=j:=Option.some.inj h
   exact⟨by rw[seqIndex_of o Y,e],by omega,by omega,Y⟩
  .rw[if_neg Y]at h;cases h
 .rw[if_neg o]at h
  by_cases Y:-(n:Int)<=i
  .rw[if_pos Y]at h
   have e:(i+n).toNat=j:=Option.some.inj h
   exact⟨by rw[seqIndex_neg (by omega) Y,e],by omega,Y,by omega⟩
  .rw[if_neg Y]at h;cases h
theorem IL{u:Type}{L:List u}{i:Int}{v:u}(h:fy L i=some v):∃j,seqIndex? i L.length=some j/\L[j]?=some v/\j<L.length/\-(L.length:Int)<=i/\i<L.length:=by
 unfold fy at h
 cases e:fQ L.length i with
 |none=>rw[e]at h;cases h
 |some j=>
  rw[e]at h;obtain⟨Y,M,P,m⟩:=Iq e;exact⟨j,Y,h,M,P,m⟩
noncomputable def jx(b:Expr):Prop:=∀o i,subscripted b false o i=operate [o,i] (getItem o i)
noncomputable def IxR(X:Cx)(r:R2):Prop:=
 ∀(e d:Expr)(pins:List (Addr×Obj))(s:Shared)(σ:St)(H:Hp)(x y:V)(v u:Value)(Q:VK),Inv X pins σ H s->RelV x v->RelV y u->r x y H Q ->
  subscripted d false v u=operate [v,u] (getItem v u)->wpAny (model X.prog X.w) X.A (subscriptTail e d v u) (EP X pins σ Q) X.xe s
noncomputable def LO(X:Cx)(i:String)(r:V->List V->Hp->VK->Prop):Prop:=
 ∀(B:List (Addr×Obj))(s:Shared)(σ:St)(H:Hp)(x:V)(xs:List V)(v:Value)(us:List Value)(Q:VK),Inv X B σ H s->RelV x v->Vals xs us->r x xs H Q ->
  wpAny (model X.prog X.w) X.A (call (.builtin i) (v::us)) (EP X B σ Q) X.xe s
section
variable{X:Cx}{a b:Expr}{ta tb:TE}{pos:Pos}
theorem IxR.or{r r':R2}(h:IxR X r)(Z:IxR X r'):IxR X (λx y H Q=>r x y H Q\/r' x y H Q):=by
 intro e d B s M H x y v u Q I K n q P;rcases q with q|q
 .exact h e d B s M H x y v u Q I K n q P
 .exact Z e d B s M H x y v u Q I K n q P
theorem om{r:R2}(m:IxR X r)(Z:PE X a ta)(U:PE X b tb)(P:jx b):PE X (.Subscript a b pos) (m8 r ta tb):=by
 intro B s M H Q I h;exact Subscript_ (Dg Z U I h λv u G x y A k K n q=>m a b B G M A x y v u Q k K n q (P _ _))
noncomputable def ET(K:Fg):R2:=λx y H Q=>∃p L i v,x=.ref p/\y=.int i/\SqL K H p L/\fy L i=some v/\Q v H
noncomputable def ER(K:Fg):R2:=λx y H Q=>∃p L i v,x=.ref p/\y=.int i/\SqT K H p L/\fy L i=some v/\Q v H
noncomputable def ES:R2:=λx y H Q=>∃z i c,x=.str z/\y=.int i/\z.length<=sizeLine/\fy z.cps.toList i=some c/\Q (.str ⟨#[c]⟩) H
theorem ix_list:IxR X (ET X.K):=by
 intro e d B s M H x y v u Q I K n h P;obtain⟨p,L,i,z,rfl,rfl,f,R,q⟩:=h
 cases K;obtain⟨t,rfl⟩:=n;obtain⟨g,r,pl,U⟩:=I.list f;obtain⟨j,Y,c,l,m,C⟩:=IL R;obtain⟨w,F,E⟩:=r.get c;have S:=r.length
 have G:=AK
 have k:EP X B M Q w s:=⟨z,H,I,E,q⟩
 by_cases o:0<=i
 .have A:i.toNat=j:=by
   rw[seqIndex_of o C]at Y;exact Option.some.inj Y
  exact item_listR pl.isList o (by omega) (by rw[A];simpa using F) k P
 .have A:(i+(g.toArray.size:Int)).toNat=j:=by
   rw[seqIndex_neg (by omega) m]at Y
   rw[size_toArray,<-S];exact Option.some.inj Y
  exact subscriptTail_builtinR (x:=w) pl.isList.typeIs slot_list_getitem.lookup
   (wpAny_getItem_list_neg (Q:=λr N=>r=w/\EP X B M Q r N) pl.isList (by omega) (by rw[size_toArray]<;>omega) (by omega) (by rw[A];simpa using F) ⟨rfl,k⟩) P
theorem ix_tup:IxR X (ER X.K):=by
 intro e d B s M H x y v u Q I K n h P;obtain⟨p,L,i,z,rfl,rfl,f,R,q⟩:=h
 cases K;obtain⟨t,rfl⟩:=n;obtain⟨g,r,pl,U⟩:=I.tuple f;obtain⟨j,Y,c,l,m,C⟩:=IL R;obtain⟨w,F,E⟩:=r.get c;have S:=r.length
 have o:=AK
 have k:EP X B M Q w s:=⟨z,H,I,E,q⟩
 exact subscriptTail_builtinR (x:=w) pl.typeIs slot_tuple_getitem.lookup
  (getItem_tuple (j:=j) (Q:=λr N=>r=w/\EP X B M Q r N) pl (by omega) (by omega) (by rw[size_toArray,<-S];exact Y) (by simpa using F) ⟨rfl,k⟩) P
theorem CH:IxR X ES:=by
 intro e d B s M H x y v u Q I K n h P;obtain⟨z,i,c,rfl,rfl,U,f,q⟩:=h;obtain⟨t,rfl⟩:=K;obtain⟨l,rfl⟩:=n;obtain⟨j,Y,g,k,m,C⟩:=IL f;have S:z.cps.toList.length=z.length:=by simp[Str.length]
 rw[S]at Y m C
 have o:=AK
 exact tail_any (typeIs_str s z t) slot_str_getitem.lookup (getItem_str (c:=c) (by
  have N:decide (i < -(2 ^ 63:Int))=false:=decide_eq_false (by omega)
  have R:decide (i≥2 ^ 63)=false:=decide_eq_false (by omega)
  rw[N,R,Bool.or_false]) (by rw[Y];simpa using g) ⟨.str ⟨#[c]⟩,H,I.tok _,⟨_,rfl⟩,q⟩) P
noncomputable def xl(K:Fg):R2:=λx y H Q=>ET K x y H Q\/ER K x y H Q\/ES x y H Q
theorem DP:IxR X (xl X.K):=ix_list.or (ix_tup.or CH)
theorem qv(g:List Value)(n j:Nat)(u:Value):Obj.mapSeq (·.setIfInBounds j u) {cls:=.type "list",data:=.seq g.toArray n}={cls:=.type "list",data:=.seq (g.set j u).toArray n}:=by
 simp[Obj.mapSeq]
theorem Inv.lst{B:List (Addr×Obj)}{M:St}{H:Hp}{s:Shared}{p:Addr}{L:List V}(I:Inv X B M H s)(h:H p=some (.lst L)):∃(g:List Value)(n:Nat),Vals L g/\s.heap.get? p=some {cls:=.type "list",data:=.seq g.toArray n}/\L.length<=sizeLine:=by
 obtain⟨z,g,n,r,e⟩:=I.hok p _ h;exact⟨g,n,r,e,z⟩
theorem Inv.lstUpd{H:Hp}{s:Shared}{p:Addr}{R:List V}{c:List Value}{n i:Nat}{f:Obj->Obj}(I:Inv X B M H s)(h:H p=some (.lst L))(K:s.heap.get? p=some {cls:=.type "list",data:=.seq g.toArray n})(d:f {cls:=.type "list",data:=.seq g.toArray n}={cls:=.type "list",data:=.seq c.toArray i})(r:Vals R c)(j:R.length<=sizeLine)(t:Nat):Inv X B M (upd H p (.lst R)) {s with heap:=s.heap.update p f,toks:=t}:=by
 have e:(s.heap.update p f).get? p=some {cls:=.type "list",data:=.seq c.toArray i}:=by
  rw[Heap.get?_update_self f K (by rw[d]<;>rfl),d]
 refine I.write (x:=p) (e:=p) (by rw[h];trivial) (.inl rfl) (λb u U q=>(Heap.get?_update_other _ _ (Ne.symm U)).trans q) ⟨_,e⟩ ?_
 exact⟨j,c,i,r,e⟩
noncomputable def lg:V->V->V->Hp->(Hp->Prop)->Prop:=λo i v H Q=>∃p L k j,o=.ref p/\i=.int k/\H p=some (.lst L)/\fQ L.length k=some j/\Q (upd H p (.lst (L.set j v)))
theorem GW:Gg X lg:=by
 intro B s M H o i v d e u Q I l f c h;obtain⟨p,L,k,j,rfl,rfl,C,A,q⟩:=h
 cases l;obtain⟨t,rfl⟩:=f;obtain⟨g,n,r,K,U⟩:=I.lst C;obtain⟨Y,x,P,m⟩:=Iq A;have S:=r.length
 have y:=AK
 have z:Inv X B M (upd H p (.lst (L.set j v))) {s with heap:=s.heap.update p (Obj.mapSeq (·.setIfInBounds j u))}:=
  I.lstUpd C K (qv g n j u) (r.set c j) (by rw[length_set];exact U) s.toks
 by_cases w:0<=k
 .have G:k.toNat=j:=by
   rw[seqIndex_of w m]at Y;exact Option.some.inj Y
  exact PySem.W.ki_setAt K w (by omega) (by rw[size_toArray,<-S];exact m) (by rw[G];exact⟨_,z,q⟩)
 .have G:(k+(g.toArray.size:Int)).toNat=j:=by
   rw[seqIndex_neg (by omega) P]at Y
   rw[size_toArray,<-S];exact Option.some.inj Y
  exact PySem.W.ki_setBack K (by omega) (by rw[size_toArray,<-S];exact P) (by omega) (by rw[G];exact⟨_,z,q⟩)
theorem mj(G l:Option Int)(n:Nat):(sliceBounds G l none n).1=((HT.sIx n 0 G:Nat):Int)/\(sliceBounds G l none n).2.1=((HT.sIx n n l:Nat):Int)/\(sliceBounds G l none n).2.2=1:=by
 refine⟨?_,?_,rfl⟩
 .cases G with
  |none=>simp[sliceBounds,HT.sIx]
  |some i=>
   simp only[sliceBounds,HT.sIx,Option.getD_none,show(1:Int)>0 by decide,if_true]
   by_cases h:i<0
   .simp only[h,if_true]<;>omega
   .simp only[h,if_false]<;>omega
 .cases l with
  |none=>simp[sliceBounds,HT.sIx]
  |some i=>
   simp only[sliceBounds,HT.sIx,Option.getD_none,show(1:Int)>0 by decide,if_true]
   by_cases h:i<0
   .simp only[h,if_true]<;>omega
   .simp only[h,if_false]<;>omega
theorem ku(g:List Value)(G l:Option Int):slicePick g.toArray G l none=((g.drop (HT.sIx g.length 0 G)).take (HT.sIx g.length g.length l-HT.sIx g.length 0 G)).toArray:=by
 obtain⟨Y,M,P⟩:=mj G l g.toArray.size;unfold slicePick;rw[Y,M,P];simp only[sliceRange_one,pick_run,size_toArray]<;>rfl
noncomputable def EM(K:Fg):V->Option Int->Option Int->Hp->VK->Prop:=λx G l H Q=>∃a L,x=.ref a/\SqL K H a L/\∀p,H p=none->Q (.ref p) (upd H p (.lst (kQ L G l)))
theorem xV:KO X (EM X.K):=by
 intro B s M H x v d f G l c Q I K P pl C h;obtain⟨a,L,rfl,F,q⟩:=h
 cases K;obtain⟨g,r,A,U⟩:=I.list F;have z:=r.length
 refine⟨"list",_,slot_list_getitem.lookup,A.isList.typeIs,?_⟩
 refine wpAny_getItem_list_slice A.isList P pl C .none (by simp) ?_ (by rw[size_toArray]<;>omega)
 rw[ku,<-z];refine⟨.ref s.heap.objs.size,_,I.laid (t':=s.toks) (o:=.lst (kQ L G l)) (λb E q=>My _ q) (Mz _) ?_,rfl,q _ (I.hok.fresh (Mz _))⟩
 exact⟨Nat.le_trans (Jr L G l) U,_,0,(r.drop (HT.sIx L.length 0 G)).take (HT.sIx L.length L.length l-HT.sIx L.length 0 G),Heap.get?_push_size _ rfl⟩
theorem mC:OpR X (compareOp .NotIn) (λx y H Q=>∃i j,x=.str i/\y=.str j/\Q (.bl (!(!(Builtin.Str.occurrences j i 0 j.length 1).isEmpty))) H):=by
 intro B s M H x y v u Q I K n h;obtain⟨i,j,rfl,rfl,q⟩:=h;obtain⟨t,rfl⟩:=K;obtain⟨N,rfl⟩:=n;exact notIn_str ⟨.bl _,H,I,rfl,q⟩
theorem call_len_seq:CallR X (.builtin "len") (λL H Q=>∃p R,L=[.ref p]/\(SqL X.K H p R\/SqT X.K H p R)/\Q (.int R.length) H):=by
 intro B s M H L A Q I r h;obtain⟨p,R,rfl,Y,q⟩:=h;obtain⟨u,rfl,K⟩:=vals1 r
 cases K;have j:=AK
 rcases Y with Y|Y
 .obtain⟨g,w,pl,U⟩:=I.list Y
  have z:=w.length
  exact Calls.call_len_list pl.isList (by simp only[size_toArray]<;>omega) ⟨.int R.length,H,I.tok _,⟨s.toks+1,by rw[size_toArray,z]⟩,q⟩
 .obtain⟨g,w,pl,U⟩:=I.tuple Y
  have z:=w.length
  exact len_tuple pl (by simp only[size_toArray]<;>omega) ⟨.int R.length,H,I.tok _,⟨s.toks+1,by rw[size_toArray,z]⟩,q⟩
theorem mZ:CallR X (.builtin "len") (λL H Q=>∃z,L=[.str z]/\z.length<=sizeLine/\Q (.int z.length) H):=by
 intro B s M H L A Q I r h;obtain⟨z,rfl,U,q⟩:=h;obtain⟨u,rfl,t,rfl⟩:=vals1 r;have j:=AK
 exact len_str (by omega) ⟨.int z.length,H,I.tok _,⟨_,rfl⟩,q⟩
theorem CallR.or{f:Value}{r r':List V->Hp->VK->Prop}(h:CallR X f r)(Z:CallR X f r'):CallR X f (λL H Q=>r L H Q\/r' L H Q):=by
 intro B s M H L A Q I o q;rcases q with q|q
 .exact h B s M H L A Q I o q
 .exact Z B s M H L A Q I o q
theorem mY:CallR X (.type "list") (λL H Q=>∃p R,L=[.ref p]/\(SqL X.K H p R\/SqT X.K H p R)/\∀l,H l=none->Q (.ref l) (upd H l (.lst R))):=by
 intro B s M H L A Q I r h;obtain⟨p,R,rfl,Y,q⟩:=h;obtain⟨u,rfl,c⟩:=vals1 r
 cases c;have k:∀(g:List Value),Vals R g->R.length<=sizeLine->∀(Z:Heap)(C:Nat),(∀b f,s.heap.get? b=some f->Z.get? b=some f) ->
   Z.get? s.heap.objs.size=some {cls:=.type "list",dict:=none,data:=.seq g.toArray C,slots:=#[]}->EP X B M Q (.ref s.heap.objs.size) {s with heap:=Z}:=λg w U Z C F e=>
  ⟨.ref s.heap.objs.size,_,I.laid (t':=s.toks) F (Mz _) (show ObjOk X.prog X.w _ Z _ (.lst R)from⟨U,g,C,w,e⟩),rfl,q _ (I.hok.fresh (Mz _))⟩
 rcases Y with Y|Y
 .obtain⟨g,w,pl,U⟩:=I.list Y
  have z:=w.length
  obtain⟨o,K,J,n,y⟩:=pl.isList;exact call_list_seq p (.inl rfl) K J y (λZ C F e=>k g w U Z C F e) (by simp only[size_toArray]<;>omega)
 .obtain⟨g,w,pl,U⟩:=I.tuple Y
  have z:=w.length
  obtain⟨o,K,J,n,y⟩:=pl;exact call_list_seq p (.inr rfl) K J y (λZ C F e=>k g w U Z C F e) (by simp only[size_toArray]<;>omega)
theorem kR:CallR X (.type "tuple") (λL H Q=>∃p R,L=[.ref p]/\((SqL X.K H p R/\∀l,H l=none->Q (.ref l) (upd H l (.tup R)))\/(SqT X.K H p R/\Q (.ref p) H))):=by
 intro B s M H L A Q I r h;obtain⟨p,R,rfl,h⟩:=h;obtain⟨u,rfl,K⟩:=vals1 r
 cases K;rcases h with⟨Y,q⟩|⟨Y,q⟩
 .obtain⟨g,w,pl,U⟩:=I.list Y
  have z:=w.length
  refine call_tuple_list pl.isList (λZ F=>?_) (by simp only[size_toArray]<;>omega)
  have x:Inv X B M H {s with heap:=Z}:=I.kept (t':=s.toks) F
  have k:Inv X B M (upd H Z.objs.size (.tup R)) {s with heap:=Z.push {cls:=.type "tuple",data:=.seq g.toArray} }:=
   x.laid (t':=s.toks) (λb o e=>My _ e) (Mz _) (show ObjOk X.prog X.w _ _ _ (.tup R)from⟨U,g,w,IsTup.new _ _⟩)
  exact⟨.ref Z.objs.size,_,k,rfl,q _ (x.hok.fresh (Mz _))⟩
 .obtain⟨g,w,pl,U⟩:=I.tuple Y
  exact call_tuple_same pl ⟨.ref p,H,I,rfl,q⟩
noncomputable def JA(K:Fg)(T:String)(x:V)(H:Hp):Prop:=match x with
 |.str _=>T = "str"
 |.int _=>T = "int"
 |.ref p=>(T = "list"/\∃L,SqL K H p L)\/(T = "tuple"/\∃o,K.lookup p=some o/\o.cls=.type "tuple"/\o.dict=none) \/
   (T = "dict"/\((∃j,H p=some (.dK j))\/∃j,H p=some (.dT j)))\/(T = "set"/\∃S n,H p=some (.set S n))
 |_=>False
theorem uH{H:Hp}{s:Shared}{T:String}{x:V}{v:Value}(I:Inv X B M H s)(r:RelV x v)(ty:JA X.K T x H):s.TypeIs v T/\∀a,v=.ref a->∃E,s.heap.get? a=some E/\E.dict=none:=by
 cases x with
 |str z=>
  obtain⟨t,rfl⟩:=r
  cases(show T = "str" from ty)
  exact⟨typeIs_str s z t,λ_ e=>nomatch e⟩
 |int i=>
  obtain⟨t,rfl⟩:=r
  cases(show T = "int" from ty)
  exact⟨typeIs_int s i t,λ_ e=>nomatch e⟩
 |ref p=>
  cases r;rcases ty with⟨rfl,L,Y⟩|⟨rfl,o,G,hc,y⟩|⟨rfl,G⟩|⟨rfl,S,n,G⟩
  .obtain⟨g,_,pl,_⟩:=I.list Y
   refine⟨pl.isList.typeIs,λa e=>?_⟩
   cases e;obtain⟨o,n,e,c,y,_⟩:=pl;exact⟨o,e,y⟩
  .refine⟨⟨o,I.kIn p o G,hc⟩,λa e=>?_⟩
   cases e;exact⟨o,I.kIn _ o G,y⟩
  .have z:∃o,s.heap.get? p=some o/\o.ExactDict:=by
    rcases G with⟨j,G⟩|⟨j,G⟩
    .obtain⟨_,_,_,_,o,_,_,e,K,_⟩:=I.hok p _ G
     exact⟨o,e,K⟩
    .obtain⟨_,_,_,_,o,_,_,e,K,_⟩:=I.hok p _ G
     exact⟨o,e,K⟩
   obtain⟨o,e,K⟩:=z;refine⟨⟨o,e,K.1⟩,λa R=>?_⟩
   cases R;exact⟨o,e,K.2.1⟩
  .obtain⟨o,_,_,_,e,K,_⟩:=I.hok p _ G
   refine⟨⟨o,e,K.1⟩,λa R=>?_⟩
   cases R;exact⟨o,e,K.2.1⟩
 |_=>exact False.elim ty
noncomputable def Bb(K:Fg)(T:String)(r:V->List V->Hp->VK->Prop)(c:TE):TE:=λM H Q=>c M H λx f=>JA K T x f/\r x [] f Q
noncomputable def Bc(K:Fg)(T:String)(r:V->List V->Hp->VK->Prop)(c:TE)(t:TA):TE:=λM H Q=>c M H λx f=>JA K T x f/\t M f λL A=>r x L A Q
variable{o e:Expr}{es:List Expr}{to:TE}{t:TA}{name:Str}{apos cpos:Pos}{T id:String}{r:V->List V->Hp->VK->Prop}
theorem vJ(i:PlainAttrs T)(g:Slot T name id)(f:typeOf (.builtin id)=pure (.type "method_descriptor"))(E:LO X id r)(K:PE X o to)(j:attributeBase o name X.env (eval o X.env)=eval o X.env:=by rfl)(k:(apos.endLine==cpos.line)=true:=by rfl):PE X (.Call (.Attribute o name apos) [] [] cpos) (Bb X.K T r to):=by
 intro B s M H Q I h;refine wpAny_Call_method0_late j k (b5 (K B s M H _ I h) λv n ⟨x,H1,I1,r1,ty,q1⟩=>?_)
 obtain⟨Y,c⟩:=uH I1 r1 ty;exact⟨T,id,i,g,f,Y,c,Calls.callWith_builtin rfl (PySem.evalArgs_none (E B n M H1 x [] v [] Q I1 r1 .nil q1))⟩
theorem oo(i:PlainAttrs T)(g:Slot T name id)(f:typeOf (.builtin id)=pure (.type "method_descriptor"))(E:LO X id r)(K:PE X o to)(Z:PA X (e::es) t)(j:attributeBase o name X.env (eval o X.env)=eval o X.env:=by rfl)(q:((backTo cpos (starEach (e::es) X.env)).all (λx=>!x.1)&&(backToKw cpos (keywordEach [] X.env)).all (λx=>x.1.isSome)
   && decide ((e::es).length+([]:List Keyword).length+(if([]:List Keyword).isEmpty then 0 else 1)<30))=true:=by rfl)(k:(apos.endLine==cpos.line)=true:=by rfl)(P:starEach (e::es) X.env=(false,eval e X.env)::starEach es X.env:=by rfl)(c:(backTo cpos (starEach es X.env)).any (·.1)=false:=by rfl):PE X (.Call (.Attribute o name apos) (e::es) [] cpos) (Bc X.K T r to t):=by
 intro B s M H Q I h;refine wpAny_Call_method_late j q k rfl (b5 (K B s M H _ I h) λv n ⟨x,H1,I1,r1,ty,q1⟩=>?_)
 obtain⟨Y,l⟩:=uH I1 r1 ty;refine⟨T,id,i,g,f,Y,l,?_⟩
 have d:=Z cpos B n M H1 _ I1 q1
 rw[P]at d ⊢;refine Calls.callWith_builtin (by show(false||(backTo cpos (starEach es X.env)).any (·.1))=false;rw[c]<;>rfl) (Calls.evalArgs_plain ?_)
 exact b5 d λA G ⟨vs,H2,I2,r2,q2⟩=>E B G M H2 x vs v A Q I2 r1 r2 q2
end
noncomputable def Gk(X:Cx)(i:String)(r:V->List V->Hp->VK->Prop):Prop:=
 ∀(B:List (Addr×Obj))(s:Shared)(σ:St)(H:Hp)(x:V)(xs:List V)(v:Value)(us:List Value)(Q:VK),Inv X B σ H s->RelV x v->Vals xs us->r x xs H Q ->
  wpAny (model X.prog X.w) X.A (call (.builtin i) (v::us)) (EP X B σ Q) X.xe s
theorem Vals.one:∀{x:V}{us:List Value},Vals [x] us->∃u,us=[u]/\RelV x u
 |_,_,.cons r .nil=>⟨_,rfl,r⟩
theorem Vals.zero:∀{A:List Value},Vals [] A->A=[]
 |_,.nil=>rfl
theorem Vals.dropLast(h:Vals L A):Vals L.dropLast A.dropLast:=by
 induction h with
 |nil=>exact .nil
 |cons r t B=>
  cases t with
  |nil=>exact .nil
  |cons q N=>exact .cons r B
theorem Vals.eraseIdx:∀{L:List V}{us:List Value}(i:Nat),Vals L us->Vals (L.eraseIdx i) (us.eraseIdx i)
 |_,_,_,.nil=>.nil
 |_,_,0,.cons _ t=>t
 |_,_,i+1,.cons r t=>.cons r (Vals.eraseIdx i t)
theorem Vals.reverse(h:Vals L A):Vals L.reverse A.reverse:=by
 induction h with
 |nil=>exact .nil
 |cons r t B=>rw[List.reverse_cons,List.reverse_cons];exact Vals.append B (.cons r .nil)
theorem Vals.rep(h:Vals L A):∀k:Nat,Vals (List.replicate k L).flatten (List.replicate k A).flatten
 |0=>.nil
 |k+1=>by
  rw[replicate_succ,replicate_succ,flatten_cons,flatten_cons];exact Vals.append h (Vals.rep h k)
theorem qF{u:Type}(l:List u):l.eraseIdx (l.length-1)=l.dropLast:=by
 induction l with
 |nil=>rfl
 |cons a r B=>
  cases r with
  |nil=>rfl
  |cons b r=>
   have e:(a::b::r).length-1=((b::r).length-1)+1:=by
    have Y:(a::b::r).length=r.length+2:=rfl
    have M:(b::r).length=r.length+1:=rfl
    omega
   rw[e,List.eraseIdx_cons_succ,B];all_goals rfl
theorem ll{u:Type}:∀(l:List u)(i:Nat),(l.eraseIdx i).length<=l.length
 |[],_=>Mz _
 |_::_,0=>Nat.le_succ _
 |_::r,i+1=>Nat.succ_le_succ (ll r i)
theorem foldl_rep(g:List Value):∀(k:Nat)(acc:List Value),
  List.foldl (λc Z=>c++Z) acc.toArray (List.replicate k g.toArray)=(acc++(List.replicate k g).flatten).toArray
 |0,acc=>by simp
 |k+1,acc=>by
  have e:acc.toArray++g.toArray=(acc++g).toArray:=by simp
  have R:(acc++g)++(List.replicate k g).flatten=acc++(List.replicate (k+1) g).flatten:=by
   rw[replicate_succ,flatten_cons,append_assoc]
  rw[<-R,<-foldl_rep g k (acc++g),<-e,replicate_succ,List.foldl_cons]
section
variable{X:Cx}{pins:List (Addr×Obj)}{σ:St}{H:Hp}{s:Shared}{l b:Addr}{xs ys zs:List V}
theorem Inv.lset{its':List Value}{n:Nat}{f:Array Value->Array Value}{N:Nat}(I:Inv X pins σ H s)(o:H l=some (.lst xs))(e:s.heap.get? l=some {cls:=.type "list",data:=.seq g.toArray n})(a:f g.toArray=its'.toArray)(c:Vals ys its')(d:ys.length<=sizeLine):Inv X pins σ (upd H l (.lst ys)) {s with heap:=s.heap.update l (Obj.mapSeq f),toks:=N}:=by
 have q:=PySem.IsL.update e f
 rw[a]at q;refine I.write (x:=l) (e:=l) (by rw[o];exact trivial) (.inl rfl) (λh u U E=>(Heap.get?_update_other s.heap (Obj.mapSeq f) (Ne.symm U)).trans E) ⟨_,q⟩ ?_
 exact⟨d,its',_,c,q⟩
theorem Inv.lnew{t':Nat}(I:Inv X pins σ H s)(f:Vals ys g)(U:ys.length<=sizeLine):Inv X pins σ (upd H s.heap.objs.size (.lst ys)) {s with heap:=s.heap.push {cls:=.type "list",data:=.seq g.toArray},toks:=t'}:=
 I.laid (λ_ _ q=>My _ q) (Mz _) ⟨U,g,0,f,Heap.get?_push_size _ rfl⟩
theorem Inv.fresh(I:Inv X pins σ H s):H s.heap.objs.size=none:=I.hok.fresh (Mz _)
theorem Inv.lstM(I:Inv X pins σ H s)(o:H l=some (.lst xs)):xs.length<=sizeLine/\∃(g:List Value)(n:Nat),Vals xs g/\xs.length=g.length/\s.heap.get? l=some {cls:=.type "list",data:=.seq g.toArray n}:=by
 obtain⟨z,g,n,r,e⟩:=I.hok l _ o;exact⟨z,g,n,r,r.length,e⟩
theorem oG{n:Nat}(h:n<=sizeLine):Builtin.List.listTooLong n=false:=by
 unfold Builtin.List.listTooLong;exact decide_eq_false (by omega)
end
section
variable{X:Cx}
noncomputable def g9:V->List V->Hp->VK->Prop:=λx B H Q=>∃l L y,x=.ref l/\B=[y]/\H l=some (.lst L)/\L.length<sizeLine/\Q .non (upd H l (.lst (L++[y])))
theorem GM:Gk X "list.append" g9:=by
 intro B s M H x a v A Q I K c h;obtain⟨l,L,y,rfl,rfl,o,U,q⟩:=h
 cases K;obtain⟨u,rfl,N⟩:=c.one;obtain⟨z,g,n,r,S,e⟩:=I.lstM o;refine call_meets F.slot_list_append ⟨_,e,rfl⟩ F.entry_list_append (F.args_list_append_2 _ _) (PySem.list_append l g.toArray n u (by rw[size_toArray];omega)) ⟨e,?_⟩
 refine⟨.non,_,I.lset (its':=g++[u]) o e (by simp) (r.append (.cons N .nil)) ?_,rfl,q⟩
 rw[length_append,length_singleton];omega
noncomputable def EN:V->List V->Hp->VK->Prop:=λx B H Q=>∃l L y,x=.ref l/\B=[]/\H l=some (.lst L)/\L[L.length-1]?=some y/\Q y (upd H l (.lst L.dropLast))
theorem Cw:Gk X "list.pop" EN:=by
 intro B s M H x d v A Q I K c h;obtain⟨l,L,y,rfl,rfl,o,f,q⟩:=h
 cases K;have a:=c.zero
 subst a;obtain⟨z,g,n,r,S,e⟩:=I.lstM o;obtain⟨u,E,N⟩:=r.get f;have b:g.toArray[g.toArray.size-1]?=some u:=by
  show g.toArray[g.length-1]?=some u
  rw[<-Array.getElem?_toList,<-S];exact E
 refine call_meets F.slot_list_pop ⟨_,e,rfl⟩ F.entry_list_pop (F.args_list_pop_1 _) (MeetsSeq.list_pop_last l g.toArray n u b (by rw[size_toArray];omega)) ⟨e,?_⟩
 refine⟨y,_,I.lset (its':=g.dropLast) o e ?_ r.dropLast ?_,N,q⟩
 .show g.toArray.eraseIdxIfInBounds (g.toArray.size-1)=g.dropLast.toArray
  rw[size_toArray,List.eraseIdxIfInBounds_toArray,qF]
 .rw[List.length_dropLast]
  omega
noncomputable def vt:V->List V->Hp->VK->Prop:=λx B H Q=>∃l L i k y,x=.ref l/\B=[.int i]/\H l=some (.lst L)/\-(2 ^ 63)<=i/\i<2 ^ 63/\seqIndex? i L.length=some k/\L[k]?=some y/\Q y (upd H l (.lst (L.eraseIdx k)))
theorem vT:Gk X "list.pop" vt:=by
 intro B s M H x b v A Q I K c h;obtain⟨l,L,i,k,y,rfl,rfl,o,Y,a,G,f,q⟩:=h
 cases K;obtain⟨u,rfl,N⟩:=c.one;obtain⟨t,rfl⟩:=N;obtain⟨z,g,n,r,S,e⟩:=I.lstM o;obtain⟨w,j,E⟩:=r.get f;refine call_meets F.slot_list_pop ⟨_,e,rfl⟩ F.entry_list_pop (F.args_list_pop_2 _ _)
  (MeetsSeq.list_pop_at l g.toArray n i t k w (fitsIndex_both Y a) (by rw[size_toArray,<-S];exact G) (by rw[<-Array.getElem?_toList];exact j) (by rw[size_toArray];omega)) ⟨e,?_⟩
 refine⟨y,_,I.lset (its':=g.eraseIdx k) o e ?_ (r.eraseIdx k) ?_,E,q⟩
 .show g.toArray.eraseIdxIfInBounds k=(g.eraseIdx k).toArray
  rw[List.eraseIdxIfInBounds_toArray]
 .have:=ll L k
  omega
noncomputable def og:V->List V->Hp->VK->Prop:=λx B H Q=>∃l L,x=.ref l/\B=[]/\H l=some (.lst L)/\Q .non (upd H l (.lst L.reverse))
theorem qu:Gk X "list.reverse" og:=by
 intro B s M H x b v A Q I K c h;obtain⟨l,L,rfl,rfl,o,q⟩:=h
 cases K;have a:=c.zero
 subst a;obtain⟨z,g,n,r,S,e⟩:=I.lstM o;refine call_meets F.slot_list_reverse ⟨_,e,rfl⟩ F.entry_list_reverse (F.args_list_reverse_1 _) (AutoSeq1.list_reverse_list_0 l g.toArray n (by rw[size_toArray];omega)) ⟨e,?_⟩
 refine⟨.non,_,I.lset (its':=g.reverse) o e (by simp) r.reverse ?_,rfl,q⟩
 rw[List.length_reverse];omega
noncomputable def BS:R2:=λx y H Q=>∃l k L,x=.ref l/\y=.int k/\H l=some (.lst L)/\-(2 ^ 63)<=k/\k<2 ^ 63/\L.length*k.toNat<=sizeLine /\
 ∀p,H p=none->Q (.ref p) (upd H p (.lst (List.replicate k.toNat L).flatten))
theorem Iu{u:Type}(L:List u)(k:Nat):(List.replicate k L).flatten.length=k*L.length:=by
 induction k with
 |zero=>simp
 |succ k B=>rw[replicate_succ,flatten_cons,length_append,B,Nat.succ_mul,Nat.add_comm]
theorem Cd:OpR X (binaryOp .Mult) BS:=by
 intro B s M H x y v u Q I K C h;obtain⟨l,k,L,rfl,rfl,o,Y,A,p,q⟩:=h
 cases K;obtain⟨t,rfl⟩:=C;obtain⟨z,g,n,r,S,e⟩:=I.lstM o;have j:g.toArray.size*k.toNat<=sizeLine:=by rw[size_toArray,<-S];exact p
 have f:¬g.toArray.size*k.toNat>(2 ^ 63-1) / 8:=by
  have:(sizeLine:Nat)<=(2 ^ 63-1) / 8:=by decide
  omega
 have i:¬(!Builtin.List.listFitsIndex k)=true:=by
  rw[fitsIndex_both Y A];exact Bool.false_ne_true
 have b:¬Builtin.List.listTooLong (g.toArray.size*k.toNat)=true:=by
  rw[oG j];exact Bool.false_ne_true
 have d:List.foldl (λc Z=>c++Z) #[] (List.replicate (if g.toArray.isEmpty=true then 0 else k.toNat) g.toArray)=(List.replicate k.toNat g).flatten.toArray:=by
  have G:∀m:Nat,List.foldl (λc Z=>c++Z) #[] (List.replicate m g.toArray)=(List.replicate m g).flatten.toArray:=λm=>by
   have:=foldl_rep g m []
   rw[nil_append]at this;exact this
  rw[G]
  cases g with
  |nil=>simp
  |cons a w=>rw[if_neg (by simp)]
 refine wpAny_binaryOp_repeat_ref (T := "list") (U := "int") (by decide) ⟨_,e,rfl⟩ (λN=>typeIs_int N k t) noFill_list_mul F.fills_int_mul F.slot_int_rmul repeat_list F.slot_int_index.lookup
  (call_meets F.slot_int_rmul (typeIs_int s k t) F.entry_int_rmul (F.args_int_rmul_2 _ _) (int___rmul___int_list k t l g.toArray n)
   ⟨e,rfl,⟨_,e,rfl⟩,call_meets F.slot_list_mul ⟨_,e,rfl⟩ F.entry_list_mul (F.args_list_mul_2 _ _) (AutoListH.list___mul___list_int_3 l g.toArray n k t i f b) ⟨e,?_⟩⟩)
 rw[d];exact⟨.ref _,_,I.lnew (t':=s.toks) (r.rep k.toNat) (by rw[Iu,Nat.mul_comm];exact p),rfl,q _ I.fresh⟩
end
section
variable{prog:Program}{w:World}{A:Around}{E:Value->Shared->Prop}{s:Shared}
set_option maxRecDepth 100000 in
end
end L2
namespace Att
open PySem PySem.W PySem.Calls PyProof.Rows
variable{h:Heap}{l:OpenLaw}
theorem ji{P:Params}:∀(Z:List Int)(B:List Value),WellAll P h B (Z.map WData.int)->IntsAre B Z:=by
 intro Z;induction Z with
 |nil=>
  intro B w;rw[List.map_nil]at w
  cases w;exact .nil
 |cons n Z c=>
  intro B w;rw[map_cons]at w
  cases w with
  |cons a b=>
   cases a;exact .cons _ _ (c _ b)
theorem sM{n:Nat}(j:l.most=some n){P:Params}{args:List WData}{g:List Value}(e:l.row.toRowW.claim.pre args=true)(s:WellAll P h g args):∃a B Z,g=[Value.ref a]/\args=[WData.list (Z.map WData.int)]/\h.get? a=some {cls:=.type "list",data:=.seq B.toArray}/\IntsAre B Z/\Z.length<=n:=by
 have c:WShape.hasAll [] args [.list .int]=true:=(pre_splitW e).1
 have J:l.pre.holds [] {args:=args}=true:=(pre_splitW e).2
 obtain⟨d,r,rfl,Y,M⟩:=hasAllW_cons c;obtain rfl:=hasAllW_nil M
 obtain⟨L,rfl,f⟩:=hasW_list Y;obtain⟨Z,rfl⟩:=items_int f;have z:Z.length<=n:=by
  unfold OpenLaw.pre at J;have m:(WTm.not (.lt (.lit (.int (n:Int))) (.len (.arg 0)))).holds [] {args:=[.list (Z.map .int)]}=true:=by
   have m:=(holds_andW J).1
   rw[j]at m;exact m
  have C:=condW_of m (w_not (w_lt w_lit (w_len_list (w_arg rfl))))
  rw[length_map]at C;refine Nat.le_of_not_lt λq=>?_
  have t:(n:Int)<((Z.length:Nat):Int):=by omega
  first
   |(rw[decide_eq_true t]at C;exact absurd C (by decide))
   |(simp at C;omega)
 cases s with
 |cons k b=>
  cases b
  cases k with
  |list K v=>exact⟨_,_,Z,rfl,rfl,K,ji Z _ v,z⟩
theorem sX(l:OpenLaw)(args:List WData):l.row.toRowW.claim.post args (.bool true) args=true:=
 postW_of (r:=l.row.toRowW) (X:=(true==true))
  (show WShape.has [] (.bool true) .bool=true by first|rfl|decide|simp[WShape.has,WShape.arms,WShape.armsAll])
  (show(WTm.eq .res (.lit (.bool true))).value [] {args:=args,res:=some (.bool true),after:=args}=some (.bool (true==true))from w_eq_bool (w_res rfl) w_lit) rfl
theorem attach_call{n:Nat}{q:Program}{b:List Str}{H:(Str->Option Value)->Heap->Prop}{v:World->Heap->Prop}{d:DefRec}(j:l.most=some n)(hdf:d.params.defaults=[])(call:∀(w:World)(t i:Shared)(p S:Str->Option Value)(L:Addr)(o:Obj)(X F R:Value)(a:Addr)(B:List Value)(Z:List Int),
   Ground q b [] H w t p S i.heap->v w i.heap ->
   i.heap.get? L=some o->o.data=.func (docDef d.name d.params d.body d.scope X F R)->i.heap.CodeRec F d.name->p d.name=some (.ref L) ->
   i.heap.get? a=some {cls:=.type "list",data:=.seq B.toArray}->IntsAre B Z->Z.length<=n->i.gens=#[] ->
   codeAny (model l.prog w) callerA (.call (.ref L) ⟨[.ref a],[]⟩) (λr N=>r=.ok (.ret (.bool true))/\OldK i.heap N.heap/\N.os=i.os/\AllBare N.gens) i):WalkO q b H v l.row.toRowW d [] (λf B=>PySem.call f B):=by
 intro w t i p S G Y L o X F R k kV K y hcd c h C args g U e u x s I;obtain rfl:k=.none:=Dflts.none c hdf
 obtain rfl:kV=.none:=Dflts.noKw c
 obtain⟨a,B,Z,rfl,rfl,J,A,z⟩:=sM j e s;refine enter_call (codeAny_mono (call w t i p S L o X F R a B Z G Y K (fd_plain y) hcd h J A z C) λr N hq=>?_)
 obtain⟨rfl,M,P,m⟩:=hq;exact⟨.inl ⟨.bool true,.bool true,[],rfl,λ_=>rfl,.bool true,sX l _,λ_=>⟨List.Pairwise.nil,λ_ E=>(nomatch E)⟩⟩,M,P,m⟩
end Att
namespace L2
open PySem PySem.Spec PyProof.Rows
variable{k:NameKind}{y:FuncData}{x:Str}{X:Cx}{A:Prop}{F:Hp}{env:Env}
theorem kX:∀{B:List Value}{ns:List Int},IntsAre B ns->Vals (ns.map V.int) B
 |_,_,.nil=>.nil
 |_,_,.cons n t h=>.cons ⟨t,rfl⟩ (kX h)
noncomputable def Do(H:Hp):Prop:=∀b,H b=none\/∃o L,H b=some (.frz o (.lst L))
theorem vW{P:Program}{w:World}{K:Fg}{p mb:Str->Option Value}{CX:xo}{k:Nat}{L a:Addr}{sp:Sp}{i:Shared}{B:List Value}{ns:List Int}(KX:K.In i.heap)(hns:i.heap.Ns mainGlobals p)(U:i.heap.Ns builtinsNs mb)(hbb:∀x:Str,x ≠ "__name__"->mb x=bootBuiltins x)(hlim:i.heap.NoLimit)(C:i.gens=#[])(Z:i.heap.get? a=some {cls:=.type "list",data:=.seq B.toArray})(l:IntsAre B ns)(S:ns.length<=sizeLine)(hr:Room k callerA)(F:∀g:Heap,K.In g->g.Ns mainGlobals p->eQ P w K p g CX k L y [x] sp)(hbind:∀(s:Shared)(u:Value),BindsTo s y ⟨[u],[]⟩ [(x,u)])(hsp:∀H:Hp,Do H->SqL K H a (ns.map V.int)->sp [.ref a] H (λv _=>v=.bl true) λ_ _ _=>False)(hCX:∀H e s',CX [] H i (λ_ _ _=>False) e s'->False):codeAny (model P w) callerA (.call (.ref L) ⟨[.ref a],[]⟩) (λr s'=>r=.ok (.ret (.bool true))/\OldK i.heap s'.heap/\s'.os=i.os/\AllBare s'.gens) i:=by
 have c:=kX l
 have lenV:=l.length
 have core:∀H:Hp,Do H->SqL K H a (ns.map V.int)->HOk P w H i.heap->(∀b,H b≠none->b=a)->(H a≠none->K.lookup a=none) ->
   codeAny (model P w) callerA (.call (.ref L) ⟨[.ref a],[]⟩) (λr s'=>r=.ok (.ret (.bool true))/\OldK i.heap s'.heap/\s'.os=i.os/\AllBare s'.gens) i:=by
  intro H j I A hA hK;have f:∀{b:Addr}{o:Obj},i.heap.get? b=some o->H b=none->(mM i.heap H).get? b=some o:=λe n=>wg e n
  have noA:∀{b:Addr}{o:Obj}{es:Array DictEntry}{ep:Nat},i.heap.get? b=some o->o.data=.dict es ep->H b=none:=λ{b o es ep} e d=>by
   cases q:H b with
   |none=>rfl
   |some u=>
    have J:b=a:=hA b (by rw[q];simp)
    subst J
    rw[Z]at e;cases e;have d':Data.seq B.toArray _=Data.dict es ep:=d
    cases d'
  have nsK:∀{b:Addr}{m:Str->Option Value},i.heap.Ns b m->(mM i.heap H).Ns b m:=λ{b m} ⟨o,es,ep,e,d,r⟩=>⟨o,es,ep,f e (noA e d),d,r⟩
  have hKb:K.In (mM i.heap H):=λb o e=>f (KX b o e) (by
   cases q:H b with
   |none=>rfl
   |some u=>
    have J:b=a:=hA b (by rw[q];simp)
    subst J
    rw[hK (by rw[q];simp)]at e;cases e)
  have hM:Mod K p (mM i.heap H):=⟨hKb,nsK hns,⟨mb,nsK U,hbb⟩,let⟨mc,Y,M⟩:=hlim;⟨mc,nsK Y,M⟩⟩
  have e0:zX P w K p (mM i.heap H) callerA [] i H:=⟨rfl,hM,λb o e=>yN e,Nat.le_of_eq (tG _ _),trivial,λb U=>absurd (show b∈([]:List Addr)from U) (by simp),A,.of_eq C⟩
  refine codeAny_mono ((F _ hKb (nsK hns)).run callerA [] i H ⟨[.ref a],[]⟩ [.ref a] [.ref a] _ _ hr e0 (hbind i (.ref a)) (.cons rfl .nil) (hsp H j I)) λr s' h=>?_
  cases r with
  |error e=>exact(hCX H e s' h).elim
  |ok fl=>
   cases fl with
   |next=>exact False.elim h
   |brk=>exact False.elim h
   |cont=>exact False.elim h
   |ret u=>
    obtain⟨v,H',X,E,un,hok',r',q⟩:=h;have t:v=.bl true:=q
    subst t
    obtain rfl:u=Value.bool true:=r'
    refine⟨rfl,OldK.of_keep λb o e=>?_,X,E⟩
    cases q:H b with
    |none=>exact un.keep b o e q (by intro z;exact absurd (show b∈([]:List Addr)from z) (by simp)) (by simp)
    |some u=>
     rcases j b with z|⟨ob,xs,z⟩
     .rw[q]at z;cases z
     .have z2:=un.frzs b ob _ z
      obtain⟨N,_⟩:=A b _ z;obtain⟨R,_⟩:=hok' b _ z2
      rw[e]at N;cases N;exact R
 cases G:K.lookup a with
 |some o=>
  have e:=KX a o G
  rw[Z]at e
  cases e;refine core (λ_=>none) (λ_=>.inl rfl) (.inr ⟨_,B.toArray,_,G,rfl,rfl,rfl,by rw[size_toArray,lenV];exact S,by simpa using c⟩) (λb u z=>by have z':(none:Option HO)=some u:=z;cases z') (λb z=>absurd rfl z) λz=>absurd rfl z
 |none=>
  refine core (λb=>if b=a then some (.frz {cls:=.type "list",data:=.seq B.toArray} (.lst (ns.map V.int)))else none) (λb=>?_) (.inl (.inr ⟨{cls:=.type "list",data:=.seq B.toArray},if_pos rfl⟩)) (λb u z=>?_) (λb z=>?_) λ_=>G
  .by_cases U:b=a
   .exact .inr ⟨_,_,if_pos U⟩
   .exact .inl (if_neg U)
  .by_cases U:b=a
   .have z':=(if_pos U).symm.trans z
    cases z'
    subst U;exact⟨Z,by rw[length_map];exact S,B,_,c,Z⟩
   .have z':=(if_neg U).symm.trans z
    cases z'
  .by_cases U:b=a
   .exact U
   .exact absurd (if_neg U) z
theorem walk_of{l:PySem.W.OpenLaw}{n k:Nat}{q:Program}{b:List Str}{XP:(Str->Option Value)->Heap->Prop}{YP:World->Heap->Prop}{d:DefRec}{K:Params->Fg}{CX:World->xo}{sp:World->Sp}(j:l.most=some n)(P:n<=sizeLine)(r:d.params.defaults=[])(m:Room k callerA)(M:∀(w:World)(h:Heap),YP w h->(K w.params).In h)(F:∀(w:World)(p:Str->Option Value)(L:Addr)(h:Heap),(K w.params).In h->h.Ns mainGlobals p->p d.name=some (.ref L) ->
   ∃fd:FuncData,(∀(s:Shared)(u:Value),BindsTo s fd ⟨[u],[]⟩ [(x,u)]) /\
    ∀g:Heap,(K w.params).In g->g.Ns mainGlobals p->eQ l.prog w (K w.params) p g (CX w) k L fd [x] (sp w))(hsp:∀(w:World)(H:Hp)(a:Addr)(Z:List Int),Z.length<=n->Do H->SqL (K w.params) H a (Z.map V.int)->sp w [.ref a] H (λv _=>v=.bl true) λ_ _ _=>False)(E:∀(w:World)(H:Hp)(s:Shared)(e:Value)(N:Shared),CX w [] H s (λ_ _ _=>False) e N->False):PySem.W.WalkO q b XP YP l.row.toRowW d [] (λf B=>PySem.call f B):=by
 refine Att.attach_call j r λw t i p S L o X cd R a B Z G Y ho y hcd hmg J A z C=>?_
 have KX:=M w _ Y
 obtain⟨fd,U,c⟩:=F w p L _ KX G.T.g hmg;exact vW KX G.T.g G.T.b G.T.builtins G.T.nolimit C J A (Nat.le_trans z P) m c U (λH hO I=>hsp w H a Z z hO I) λH e N=>E w H i e N
noncomputable def fZ(s:Stmt):Arguments:=match s with
 |.FunctionDef _ a _ _ _ _ _ _ _ _=>a
 |_=>{posonlyargs:=[],args:=[],vararg:=none,kwonlyargs:=[],kw_defaults:=[],kwarg:=none,defaults:=[]}
noncomputable def bR(s:Stmt):List Stmt:=match s with
 |.FunctionDef _ _ b _ _ _ _ _ _ _=>b
 |_=>[]
noncomputable def aL(s:Stmt):Scope:=match s with
 |.FunctionDef _ _ _ _ _ _ sc _ _ _=>sc
 |_=>{kind:=.function,names:=[],isGenerator:=false,isCoroutine:=false}
noncomputable abbrev lZ:xo:=λ_ _ _ _ _ _=>False
noncomputable abbrev E0:XK:=λ_ _ _=>False
theorem hJ:qX lZ X E0:=λ_ _ _ _ _ _ _ h=>h.elim
structure Fun(K:Fg)(x qual:Str)(st:Stmt)(f:Addr)(fd:FuncData):Prop where
 ex:∃(oc:Value)(od:Option Addr)(kV doc pm:Value)(an:Option Addr)(cdv ct:Value)(osl:Array (Option Value)),
  fd=PySem.W.fnOf x qual (fZ st) (bR st) (aL st) .none kV doc pm an cdv ct/\K.lookup f=some ⟨oc,od,.func fd,osl⟩/\PySem.W.codeIn K cdv qual=true
 kp:PySem.W.keepIn K (.ref f)=true
section
variable{P:Program}{w:World}{K:Fg}{mg:Str->Option Value}{base:Heap}
theorem Fun.ok{j:Str}{st:Stmt}{f:Addr}{N ps:List Str}{k:Nat}{C:Sp}(F:Fun K x j st f y)(S:cm N ps (aL st))(len:∀B H Q E,C B H Q E->B.length=ps.length)(b:∀(a:Value)(A:Around)(L:List Env)(s:Shared)(H:Hp)(B:List V)(Q:VK)(E:XK),Room k (A.deeper (envOfC j (aL st) s.heap.objs.size f a))->C B H Q E ->
   ∃t,PSs (ph lZ P w K mg base N j (aL st) f a A L s H E).nox (bR st) t/\t {nx:=λ_ c=>Q .non c,rt:=Q} (start N B) H):eQ P w K mg base lZ (k+1) f y ps C:=by
 obtain⟨u,M,kV,R,X,an,a,ct,G,rfl,e,z⟩:=F.ex;refine FG e z S len λA L s H B Q E m l=>?_
 obtain⟨t,h,q⟩:=b a A L s H B Q E m l;exact⟨t,h.nox,q⟩
theorem Fun.binds{j:Str}{m:Stmt}{f:Addr}{J:List Str}(F:Fun K x j m f y)(h:∀(kV R X:Value)(an:Option Addr)(a ct:Value)(us:List Value),us.length=J.length->bindArgs (PySem.W.fnOf x j (fZ m) (bR m) (aL m) .none kV R X an a ct) ⟨us,[]⟩=pure (J.zip us)):Binds K y J []:=by
 obtain⟨u,M,kV,R,X,an,a,ct,G,rfl,e,z⟩:=F.ex;exact .all (h kV R X an a ct)
theorem CZ{j:Str}{st:Stmt}{f:Addr}{u:Value}{M an:Option Addr}{G:Array (Option Value)}{kV R X a ct:Value}(l:K.lookup f=some ⟨u,M,.func (PySem.W.fnOf x j (fZ st) (bR st) (aL st) .none kV R X an a ct),G⟩)(c:PySem.W.codeIn K a j=true)(k:PySem.W.keepIn K (.ref f)=true):Fun K x j st f (PySem.W.fnOf x j (fZ st) (bR st) (aL st) .none kV R X an a ct):=⟨⟨u,M,kV,R,X,an,a,ct,G,rfl,l,c⟩,k⟩
end
theorem la{n:Nat}(h:n<=1000):n<sizeLine:=Nat.lt_of_le_of_lt h (by decide)
theorem iL{B:Prop}(h:B):if false=true then A else B:=by
 rw[if_neg Bool.false_ne_true];exact h
theorem iK{B:Prop}(h:A):if true=true then A else B:=by
 rw[if_pos rfl];exact h
noncomputable def Same(H F:Hp):Prop:=∀b o,H b=some o->F b=some o
theorem Same.refl(H:Hp):Same H H:=λ_ _ h=>h
theorem Same.trans{H f H2:Hp}(a:Same H f)(b:Same f H2):Same H H2:=λc o h=>b c o (a c o h)
theorem Same.free{H:Hp}(e:Same H F){l:Addr}(h:F l=Option.none):H l=Option.none:=by
 cases q:H l with
 |none=>rfl
 |some o=>
  rw[e l o q]at h
  cases h
theorem Same.seq{K:Fg}{H:Hp}{a:Addr}{L:List V}(e:Same H F)(h:SqL K H a L):SqL K F a L:=by
 rcases h with(h|⟨o,h⟩)|h
 .exact .inl (.inl (e _ _ h))
 .exact .inl (.inr ⟨o,e _ _ h⟩)
 .exact .inr h
section
variable{prog:Program}{w:World}{A:Around}{R:Result->Shared->Prop}{s:Shared}
noncomputable abbrev zV:Value->Shared->Prop:=λ_ _=>False
theorem mX{o a z:Expr}{U:List Expr}{d:Scope}{C:Pos}{l q:Value}(I:Nat->Shared->Prop)(turn:∀n s,I n s->wpAny (model prog w) A (pyNext l) (λr i=>match r with
   |none=>R (.ok .next) i
   |some v=>wpAny (model prog w) A (letOwnedTupleGo a l v) (λ_ g=>wpAny (model prog w) A (assign a env v) (λ_ P=>
     wpAny (model prog w) A (forIn U true λc r=>if r=true then do let ok <-isTrue c env (eval c env);pure (ForInStep.yield ok)else pure (ForInStep.yield r)) (λok f=>
      if ok=true then wpAny (model prog w) A (eval o env) (λx b=>
       wpAny (model prog w) A (call (.builtin "list.append") [q,x]) (λ_ k=>∃m,m<n/\I m k) zV b) zV f
      else ∃m,m<n/\I m f) zV P) zV g) zV i) zV s)(n:Nat)(h:I n s):codeAny (model prog w) A (.compLoop (.ListComp o [⟨a,z,U,0⟩] d C) 0 l q env) R s:=by
 refine codeAny_loop rfl I (λn s hI=>?_) n h
 show wpAny _ A ((compTurn (.ListComp o [⟨a,z,U,0⟩] d C) 0 l q env).onRaise (λx=>do noteFrame x env;theTreesLotGoes x)) _ _ s
 refine wpAny_noted ?_
 rw[compTurn_list];have F:∀{Z:Value->Shared->Prop},∀(e:Value)(s:Shared),zV e s->Z e s:=λ_ _ x=>x.elim
 refine Mw (wpAny_standAt (Mw (wpAny_mono (turn n s hI) (λr i p=>?_) F)))
 cases r with
 |none=>exact Mx p
 |some v=>
  refine Mw (wpAny_mono p (λ_ g t=>?_) F)
  refine Mw (wpAny_mono t (λ_ P u=>Mw (wpAny_mono u (λok f j=>?_) F)) F)
  cases ok with
  |false=>exact Mx ⟨rfl,j⟩
  |true=>
   exact Mw (Mw (wpAny_mono j (λx b y=>Mw (wpAny_mono y (λ_ k B=>Mx (Mx ⟨rfl,B⟩)) F)) F))
end
noncomputable def dj(env:Env):List (Str×NameKind)->List (Str×Addr)->List (Str×Addr)
 |[],acc=>acc
 |(n,k)::r,acc=>if k==.free then dj env r ((n,(env.cells.lookup n).getD 0)::acc)else dj env r acc
theorem IR{env:Env}:∀(b:List (Str×NameKind))(acc:List (Str×Addr)),(∀n,(n,NameKind.free)∈b->∃c,env.cells.lookup n=some c) ->
  (forIn b acc λ(x:Str×NameKind)(cs:List (Str×Addr))=>(match x with|(name,kind)=>if kind==.free then(do let a <-cellOf env name;pure (ForInStep.yield ((name,a)::cs)))else pure (ForInStep.yield cs):Sem (ForInStep (List (Str×Addr)))))=(pure (dj env b acc):Sem (List (Str×Addr)))
 |[],acc,_=>by rw[forIn_nil];rfl
 |(n,k)::r,acc,h=>by
  rw[List.forIn_cons];unfold dj;by_cases G:(k==.free)=true
  .simp only[G,if_true]
   have d:k=.free:=by simpa using G
   obtain⟨c,J⟩:=h n (by rw[d];exact mem_cons_self)
   have e:cellOf env n=pure c:=by unfold cellOf;rw[J]
   rw[e,J];exact IR r ((n,c)::acc) λi j=>h i (Ms _ j)
  .rw[if_neg G]
   simp only[G]
   exact IR r acc λi j=>h i (Ms _ j)
theorem iA{d:Scope}(h:∀n,(n,NameKind.free)∈d.names->∃c,env.cells.lookup n=some c):closureFor d env=pure (dj env d.names []):=by
 have:=IR (env:=env) d.names [] h
 unfold closureFor;rw[show(pure (dj env d.names []):Sem (List (Str×Addr)))=(pure (dj env d.names []) >>= λx=>pure x)from rfl,<-this]
theorem Jk{env:Env}{x:Str}{c:Addr}:∀{b:List (Str×NameKind)}{acc:List (Str×Addr)},(∀n,(n,NameKind.free)∈b->∃c,env.cells.lookup n=some c)->(dj env b acc).lookup x=some c->env.cells.lookup x=some c\/acc.lookup x=some c
 |[],_,_,e=>.inr e
 |(n,k)::r,acc,h,e=>by
  unfold dj at e;have Z:∀i,(i,NameKind.free)∈r->∃c,env.cells.lookup i=some c:=λi j=>h i (Ms _ j)
  by_cases G:(k==.free)=true
  .rw[if_pos G]at e
   rcases Jk Z e with q|q
   .exact .inl q
   .rw[lookup_cons]at q
    have d:k=.free:=by simpa using G
    obtain⟨C,J⟩:=h n (by rw[d];exact mem_cons_self)
    cases F:x==n with
    |true=>
     rw[F,J]at q
     cases q;rw[eq_of_beq F];exact .inl J
    |false=>
     rw[F]at q;exact .inr q
  .rw[if_neg G]at e
   exact Jk Z e
theorem DJ{env:Env}{x:Str}:∀{names:List (Str×NameKind)}{acc:List (Str×Addr)},(x,NameKind.free)∈names\/(acc.lookup x).isSome=true->((dj env names acc).lookup x).isSome=true
 |[],_,h=>h.elim nofun id
 |(n,k)::r,acc,h=>by
  unfold dj;by_cases G:(k==.free)=true
  .rw[if_pos G]
   refine DJ (names:=r) ?_
   rcases h with h|h
   .rcases Mp h with e|h
    .cases e
     exact .inr (by rw[lookup_cons];simp)
    .exact .inl h
   .right
    rw[lookup_cons]
    cases F:x==n with
    |true=>rfl
    |false=>exact h
  .rw[if_neg G]
   refine DJ (names:=r) ?_
   rcases h with h|h
   .rcases Mp h with e|h
    .cases e
     exact absurd rfl G
    .exact .inl h
   .exact .inr h
theorem D3{x:Str}{c:Addr}:∀{b:List (Str×NameKind)}{n:Nat}{acc:List (Str×Addr)},(cellsFrom n b acc).lookup x=some c->((x,NameKind.cell)∈b/\n<=c)\/acc.lookup x=some c
 |[],_,_,e=>.inr e
 |(y,k)::r,n,acc,e=>by
  unfold cellsFrom at e;by_cases G:(k==.cell)=true
  .rw[if_pos G]at e
   have d:k=.cell:=by simpa using G
   rcases D3 e with⟨q,l⟩|q
   .exact .inl ⟨Ms _ q,by omega⟩
   .rw[lookup_cons]at q
    cases F:x==y with
    |true=>
     rw[F]at q
     cases q;exact .inl ⟨by rw[eq_of_beq F,d];exact mem_cons_self,Mz _⟩
    |false=>
     rw[F]at q;exact .inr q
  .rw[if_neg G]at e
   rcases D3 e with⟨q,l⟩|q
   .exact .inl ⟨Ms _ q,l⟩
   .exact .inr q
theorem Jv{x y:Str}{c:Addr}:∀{names:List (Str×NameKind)}{n:Nat}{acc:List (Str×Addr)},(∀z d,acc.lookup z=some d->d<n)->(∀x y d,acc.lookup x=some d->acc.lookup y=some d->x=y) ->
  (cellsFrom n names acc).lookup x=some c->(cellsFrom n names acc).lookup y=some c->x=y
 |[],_,_,_,hi,e,e'=>hi _ _ _ e e'
 |(z,k)::r,n,acc,hl,hi,e,e'=>by
  unfold cellsFrom at e e'
  by_cases G:(k==.cell)=true
  .rw[if_pos G]at e e'
   refine Jv (names:=r) (n:=n+1) (acc:=(z,n)::acc) (λa d q=>?_) (λa b d q t=>?_) e e'
   .rw[lookup_cons]at q
    cases F:a==z with
    |true=>rw[F]at q;cases q;exact Nat.lt_succ_self _
    |false=>rw[F]at q;exact Nat.lt_succ_of_lt (hl a d q)
   .rw[lookup_cons]at q t
    cases F:a==z with
    |true=>
     rw[F]at q
     cases q
     cases f:b==z with
     |true=>rw[eq_of_beq F,eq_of_beq f]
     |false=>rw[f]at t;exact absurd (hl b n t) (Nat.lt_irrefl _)
    |false=>
     rw[F]at q
     cases f:b==z with
     |true=>rw[f]at t;cases t;exact absurd (hl a n q) (Nat.lt_irrefl _)
     |false=>rw[f]at t;exact hi a b d q t
  .rw[if_neg G]at e e'
   exact Jv hl hi e e'
theorem IS{env:Env}{x:Str}{c:Addr}:∀{b:List (Str×NameKind)}{acc:List (Str×Addr)},(dj env b acc).lookup x=some c->(x,NameKind.free)∈b\/acc.lookup x=some c
 |[],_,e=>.inr e
 |(n,k)::r,acc,e=>by
  unfold dj at e;by_cases G:(k==.free)=true
  .rw[if_pos G]at e
   have d:k=.free:=by simpa using G
   rcases IS e with q|q
   .exact .inl (Ms _ q)
   .rw[lookup_cons]at q
    cases F:x==n with
    |true=>rw[eq_of_beq F,d];exact .inl mem_cons_self
    |false=>rw[F]at q;exact .inr q
  .rw[if_neg G]at e
   rcases IS e with q|q
   .exact .inl (Ms _ q)
   .exact .inr q
theorem Hk{x:Str}:∀{names:List (Str×NameKind)}{n:Nat}{acc:List (Str×Addr)},(x,NameKind.cell)∈names\/(acc.lookup x).isSome=true->((cellsFrom n names acc).lookup x).isSome=true
 |[],_,_,h=>h.elim nofun id
 |(y,k)::r,n,acc,h=>by
  unfold cellsFrom;by_cases G:(k==.cell)=true
  .rw[if_pos G]
   refine Hk (names:=r) ?_
   rcases h with h|h
   .rcases Mp h with e|h
    .cases e
     exact .inr (by rw[lookup_cons];simp)
    .exact .inl h
   .right
    rw[lookup_cons]
    cases F:x==y with
    |true=>rfl
    |false=>exact h
  .rw[if_neg G]
   refine Hk (names:=r) ?_
   rcases h with h|h
   .rcases Mp h with e|h
    .cases e
     exact absurd rfl G
    .exact .inl h
   .exact .inr h
theorem Hj{x:Str}:∀{b:List (Str×NameKind)}{n:Nat}{acc:List (Str×Addr)},(x,NameKind.cell)∉b->(cellsFrom n b acc).lookup x=acc.lookup x
 |[],_,_,_=>rfl
 |(y,k)::r,n,acc,h=>by
  unfold cellsFrom;have m:(x,NameKind.cell)∉r:=λz=>h (Ms _ z)
  by_cases G:(k==.cell)=true
  .rw[if_pos G,Hj m,lookup_cons]
   have d:k=.cell:=by simpa using G
   cases F:x==y with
   |true=>exact absurd (by rw[eq_of_beq F,d];exact mem_cons_self) h
   |false=>rfl
  .rw[if_neg G]
   exact Hj m
theorem Hl{x:Str}{c:Addr}:∀{b:List (Str×NameKind)}{n:Nat}{acc:List (Str×Addr)},(x,NameKind.cell)∈b->(cellsFrom n b acc).lookup x=some c->(cellsFrom n b []).lookup x=some c
 |[],_,_,h,_=>nomatch h
 |(y,k)::r,n,acc,h,e=>by
  unfold cellsFrom at e ⊢
  by_cases G:(k==.cell)=true
  .rw[if_pos G]at e ⊢
   by_cases m:(x,NameKind.cell)∈r
   .have:∀{acc v:List (Str×Addr)},(cellsFrom (n+1) r acc).lookup x=some c->(cellsFrom (n+1) r v).lookup x=some c:=λ{a a'} q=>by
     have s:=Hl m q
     have P:=Hk (n:=n+1) (acc:=a') (.inl m)
     obtain⟨C,K⟩:=Option.isSome_iff_exists.mp P;have S:=Hl m K
     rw[s]at S
     cases S;exact K
    exact this e
   .rw[Hj m]at e ⊢
    rw[lookup_cons]at e ⊢
    cases F:x==y with
    |true=>rw[F]at e;exact e
    |false=>
     rcases Mp h with z|z
     .cases z
      simp at F
     .exact absurd z m
  .rw[if_neg G]at e ⊢
   rcases Mp h with z|z
   .cases z
    exact absurd rfl G
   .exact Hl z e
noncomputable def blk(X:Cx)(scope:Scope)(cells:List (Str×Addr))(C:Addr)(s₀:Shared)(H₀:Hp)(ex:List Addr):Cx where
 prog:=X.prog
 w:=X.w
 K:=X.K
 mg:=X.mg
 base:=X.base
 A:=X.A
 N:=X.N
 s₀:=s₀
 H₀:=H₀
 env:={scope:=relabel scope X.env,locals:=C,globals:=X.env.globals,cells:=cells,qual:=X.env.qual,func:=none,code:=X.env.code,frame:=X.env.frame,builtins:=X.env.builtins}
 outer:=X.stack
 stack:=X.stack
 ex:=ex
 fn:=λx=>scope.names.any λy=>y.1==x&&y.2==.cell
 calm:=X.calm
 pn:=[]
 xe:=λ_ _=>False
structure d9(N:List Str)(is:List Nat)(osc scope:Scope):Prop where
 kind:scope.kind=.function
 free:∀n,(n,NameKind.free)∈scope.names->osc.names.lookup n=some .cell\/osc.names.lookup n=some .free
 own:∀(i:Nat)(x:Str),N[i]?=some x->(x,NameKind.local)∈scope.names\/(x,NameKind.cell)∈scope.names->i∈is
 loc:∀x∈scope.names,x.2=.local->scope.names.lookup x.1=some .local
 one:∀n,(n,NameKind.free)∈scope.names->(n,NameKind.cell)∉scope.names
noncomputable def bK(a:List Nat)(M:St):St:=M.mapIdx λi v=>if i∈a then none else v
theorem Ae(a:List Nat)(M:St):(bK a M).length=M.length:=by unfold bK;simp
theorem D2{a:List Nat}{M:St}{i:Nat}{v:V}(h:(bK a M)[i]?=some (some v)):i∉a/\M[i]?=some (some v):=by
 unfold bK at h;rw[List.getElem?_mapIdx]at h
 cases e:M[i]? with
 |none=>rw[e]at h;cases h
 |some o=>
  rw[e]at h;simp only[Option.map_some,Option.some.injEq]at h
  by_cases l:i∈a
  .rw[if_pos l]at h;cases h
  .rw[if_neg l]at h;exact⟨l,by rw[h]⟩
noncomputable def KP(a Y:St):Prop:=Y.length=a.length/\∀(i:Nat) v,a[i]?=some (some v)->Y[i]?=some (some v)
theorem jT{l:List (Str×NameKind)}(h:l.lookup x=some k):(x,k)∈l:=PySem.mem_of_lookup h
theorem DH{d:Scope}(h:(relabel d env).names.lookup x=some k):(x,k)∈d.names\/((x,NameKind.free)∈d.names/\k=.cell):=by
 have h:=jT h
 unfold relabel at h;obtain⟨⟨n,i⟩,E,e⟩:=List.mem_map.mp h;dsimp only at e;by_cases J:(i==NameKind.free&&env.scope.kind==.function&&env.kindOf n==some .cell)=true
 .rw[if_pos J]at e
  cases e;have:i=.free:=by
   simp only[Bool.and_eq_true,beq_iff_eq]at J
   exact J.1.1
  exact .inr ⟨this▸E,rfl⟩
 .rw[if_neg J]at e
  cases e;exact .inl E
noncomputable def bw(X:Cx)(d:Scope)(C:Addr):List (Str×Addr):=cellsFrom (C+1) d.names (dj X.env d.names [])
section
variable{X:Cx}{pins:List (Addr×Obj)}{σ:St}{H:Hp}{s:Shared}{scope:Scope}{is:List Nat}
theorem Inv.freeCells(I:Inv X pins σ H s)(S:d9 X.N is X.env.scope scope):∀n,(n,NameKind.free)∈scope.names->∃c,X.env.cells.lookup n=some c:=λn j=>
 I.ok.has n (S.free n j)
theorem Inv.blkOld(I:Inv X pins σ H s)(S:d9 X.N is X.env.scope scope){c:Addr}(h:(dj X.env scope.names []).lookup x=some c):X.env.cells.lookup x=some c:=by
 rcases Jk (I.freeCells S) h with q|q
 .exact q
 .cases q
theorem Inv.block{fp:List Addr}{t':Nat}(I:Inv X pins σ H s)(S:d9 X.N is X.env.scope scope)(g:∀b∈fp,kS X pins H b)(B:∀b∈fp,b<s.heap.objs.size):Inv (blk X scope (bw X scope (s.heap.objs.size+1)) (s.heap.objs.size+1) s H fp) [] (bK is σ) (upd H s.heap.objs.size (.lst []))
   {s with heap:=pushCells ((s.heap.push {cls:=.type "list",data:=.seq ([]:List Value).toArray}).push {cls:=.type "dict",data:=.dict #[]}) scope.names,toks:=t'}:=by
 generalize hC:s.heap.objs.size+1=C
 have hDn:H s.heap.objs.size=none:=I.hok.fresh (Mz _)
 have n:(s.heap.push {cls:=.type "list",data:=.seq ([]:List Value).toArray}).objs.size=C:=by rw[Heap.size_push,hC]
 have kept:∀b o,s.heap.get? b=some o->(pushCells ((s.heap.push {cls:=.type "list",data:=.seq ([]:List Value).toArray}).push {cls:=.type "dict",data:=.dict #[]}) scope.names).get? b=some o:=
  λb o e=>pushCells_keeps _ _ b o (My _ (My _ e))
 have Z:∀x c,(bw X scope C).lookup x=some c->((x,NameKind.cell)∈scope.names/\C+1<=c)\/X.env.cells.lookup x=some c:=λx c e=>by
  rcases D3 e with q|q
  .exact .inl q
  .exact .inr (I.blkOld S q)
 have oldLt:∀x c,X.env.cells.lookup x=some c->c<s.heap.objs.size:=λx c e=>by
  obtain⟨v,q⟩:=I.cell x c e;exact q.lt
 have cok:CellsOk (pushCells ((s.heap.push {cls:=.type "list",data:=.seq ([]:List Value).toArray}).push {cls:=.type "dict",data:=.dict #[]}) scope.names) (C+1)
   (cellsFrom (C+1) scope.names []):=by
  have:=cellsFrom_ok scope.names ((s.heap.push {cls:=.type "list",data:=.seq ([]:List Value).toArray}).push {cls:=.type "dict",data:=.dict #[]}) (C+1) [] ⟨λ_ _ E=>(nomatch E),List.Pairwise.nil⟩ (by rw[Heap.size_push,n];exact Mz _)
  rw[Heap.size_push,n]at this;exact this
 have lt1:∀{b:Nat},b<s.heap.objs.size->b≠C:=λ{b} h e=>by subst e;rw[<-hC]at h;exact absurd (Nat.lt_of_succ_lt h) (Nat.lt_irrefl _)
 have w:s.heap.objs.size<=C:=by rw[<-hC];exact Nat.le_succ _
 have M:∀x c,(bw X scope C).lookup x=some c->(C<c/\(pushCells ((s.heap.push {cls:=.type "list",data:=.seq ([]:List Value).toArray}).push {cls:=.type "dict",data:=.dict #[]}) scope.names).IsCell c none)\/X.env.cells.lookup x=some c:=λx c e=>by
  rcases Z x c e with⟨q1,q2⟩|q
  .exact .inl ⟨q2,(cok.empty x c (PySem.mem_of_lookup (Hl q1 e))).1⟩
  .exact .inr q
 refine⟨⟨I.ok.mod,S.kind,I.ok.glob,I.ok.blt,w,?_,?_,?_,I.ok.hd,I.ok.frames,.inl rfl,?_,I.bs,Nat.le_trans I.ok.bsz I.sz,?_,?_,I.stack,I.stkFree⟩,rfl,I.bare,?_,?_,?_,?_,?_,λp hp=>absurd (show p∈([]:List (Addr×Obj))from hp) (by simp),?_,(Ae _ _).trans I.len⟩
 .-- inj
  intro x y c F f;refine Jv (λz d q=>?_) (λa b d q q'=>I.ok.inj a b d (I.blkOld S q) (I.blkOld S q')) F f
  exact Nat.lt_succ_of_lt (Nat.lt_of_lt_of_le (oldLt z d (I.blkOld S q)) w)
 .-- has
  intro x F;have q:((bw X scope C).lookup x).isSome=true:=by
   refine Hk ?_
   have F:(relabel scope X.env).names.lookup x=some .cell\/(relabel scope X.env).names.lookup x=some .free:=F
   rcases F with F|F
   .rcases DH F with z|⟨z,_⟩
    .exact .inl z
    .exact .inr (DJ (.inl z))
   .rcases DH F with z|⟨z,_⟩
    .exact .inr (DJ (.inl z))
    .exact .inr (DJ (.inl z))
  exact Option.isSome_iff_exists.mp q
 .-- cab
  intro x c F e;have F:(scope.names.any λy=>y.1==x&&y.2==NameKind.cell)=true:=F
  obtain⟨y,f,hz⟩:=List.any_eq_true.mp F;simp only[Bool.and_eq_true,beq_iff_eq]at hz
  have E:(x,NameKind.cell)∈scope.names:=by rw[<-hz.1,<-hz.2];exact f
  rcases D3 e with⟨_,q⟩|q
  .exact Nat.le_trans w (Nat.le_of_succ_le q)
  .rcases IS q with z|z
   .exact absurd E (S.one x z)
   .cases z
 .-- exf
  intro b U;obtain⟨f0,t,f2,f3,A,P⟩:=g b U;refine⟨lt1 (B b U),λx c e z=>?_⟩
  rcases Z x c e with⟨_,q⟩|q
  .subst z
   exact absurd (Nat.lt_of_lt_of_le (B _ U) w) (Nat.not_lt.mpr (Nat.le_of_succ_le q))
  .exact A x c q z
 .-- noex
  intro b o e U;obtain⟨f0,t,f2,f3,A,P⟩:=g b U;rcases f3 with z|z
  .exact I.ok.noex b o e z
  .exact absurd (Nat.lt_of_lt_of_le (Heap.lt_size e) (Nat.le_trans I.ok.bsz z)) (Nat.lt_irrefl _)
 .-- exfs
  intro b U z;obtain⟨f0,t,f2,f3,A,P⟩:=g b U;rcases Mp (I.stkSub b z)with e|e
  .exact t e
  .exact f2 e
 .-- base
  exact Un.laid kept (Mz _) hDn
 .-- loc
  refine⟨λ_=>none,?_,λi x v N R e3=>?_⟩
  .have:=(Heap.Ns.new (s.heap.push {cls:=.type "list",data:=.seq ([]:List Value).toArray}) (.type "dict")).keeps (pushCells_keeps scope.names _)
   rw[n]at this;exact this
  .obtain⟨L,e2'⟩:=D2 R
   obtain⟨m,j,hl⟩:=id I.loc;have Y:(x,NameKind.free)∈scope.names:=by
    have e3:(relabel scope X.env).names.lookup x=some .local\/(relabel scope X.env).names.lookup x=some .cell\/(relabel scope X.env).names.lookup x=some .free:=e3
    rcases e3 with z|z|z
    .rcases DH z with y|⟨y,_⟩
     .exact absurd (S.own i x N (.inl y)) L
     .exact y
    .rcases DH z with y|⟨y,_⟩
     .exact absurd (S.own i x N (.inr y)) L
     .exact y
    .rcases DH z with y|⟨y,_⟩
     .exact y
     .exact y
   have G:=S.free x Y
   obtain⟨u,r,l⟩:=hl i x v N e2' (.inr G)
   refine⟨u,r,?_⟩
   rcases l with⟨k,_⟩|⟨k,c,e,z⟩
   .have k:X.env.scope.names.lookup x=some .local:=k
    rcases G with q|q<;>(rw[q]at k;cases k)
   .refine .inr ⟨?_,c,?_,z.keeps kept⟩
    .have e3:(relabel scope X.env).names.lookup x=some .local\/(relabel scope X.env).names.lookup x=some .cell\/(relabel scope X.env).names.lookup x=some .free:=e3
     rcases e3 with y|y|y
     .rcases DH y with y'|⟨_,y'⟩
      .exact absurd (S.own i x N (.inl y')) L
      .cases y'
     .exact .inl y
     .exact .inr y
    .have q:=DJ (env:=X.env) (acc:=[]) (.inl Y)
     obtain⟨c',K⟩:=Option.isSome_iff_exists.mp q;have:=I.blkOld S K
     rw[e]at this
     cases this;show(bw X scope C).lookup x=some c
     unfold bw;rw[Hj (S.one x Y)];exact K
 .-- cell
  intro x c e;rcases M x c e with⟨_,q⟩|q
  .exact⟨_,q⟩
  .obtain⟨v,z⟩:=I.cell x c q
   exact⟨v,z.keeps kept⟩
 .-- free
  show upd H s.heap.objs.size (.lst []) C=none
  rw[eT (by rw[<-hC];exact Nat.ne_of_gt (Nat.lt_succ_self _))]
  exact I.hok.fresh w
 .-- freeC
  intro x c e;show upd H s.heap.objs.size (.lst []) c=none
  rcases M x c e with⟨q,_⟩|q
  .have J:s.heap.objs.size<c:=Nat.lt_of_le_of_lt w q
   rw[eT (Nat.ne_of_gt J)];exact I.hok.fresh (Nat.le_of_lt J)
  .rw[eT (Nat.ne_of_lt (oldLt x c q))]
   exact I.freeC x c q
 .-- hok
  exact I.hok.laid kept (Mz _) ⟨Nat.zero_le _,[],0,.nil,pushCells_keeps _ _ _ _ (My _ (Heap.get?_push_size _ rfl))⟩
end
section
variable{M:Model}{A:Around}{E:Value->Shared->Prop}{s:Shared}
theorem kF{d:Scope}{a:Addr}{t:List (Str×Addr)}{j:Str}{Q:Env->Shared->Prop}(k:Q (newEnv d s.heap.objs.size a (cellsFrom (s.heap.objs.size+1) d.names t) j none .none (some env) builtinsNs) {s with heap:=pushCells (s.heap.push {cls:=.type "dict",data:=.dict #[]}) d.names}):wpAny M A (newFunctionEnv d a t [] j none .none (some env)) Q E s:=by
 simp only[newFunctionEnv,Option.isSome_some,if_true]
 refine Mw (wpAny_alloc ?_)
 refine Mw (wpAny_layCells _ (λi b l=>by cases c:b==NameKind.cell<;>simp[c]) _ _ _ _ ?_)
 rw[show({s with heap:=s.heap.push {cls:=.type "dict",data:=.dict #[]} }:Shared).heap.objs.size=s.heap.objs.size+1 from Heap.size_push ..]
 rw[forIn_nil];exact Mw (Mx (Mx k))
end
noncomputable def PF(X:Cx)(U:List Expr)(t:TT):Prop:=
 ∀(B:List (Addr×Obj))(s:Shared)(σ:St)(H:Hp)(Q:Bool->Hp->Prop),Inv X B σ H s->t σ H Q ->
  wpAny (model X.prog X.w) X.A (forIn U true λc r=>if r=true then do let ok <-isTrue c X.env (eval c X.env);pure (ForInStep.yield ok)else pure (ForInStep.yield r)) (TP X B σ Q) X.xe s
noncomputable def rh:TT:=λ_ H Q=>Q true H
theorem vF:PF X [] rh:=λB s M H Q I h=>wpAny_tests_nil ⟨H,I,h⟩
theorem B2{c:Expr}{t:TT}(h:PT X c t):PF X [c] t:=λB s M H Q I q=>wpAny_tests_one (h B s M H Q I q)
noncomputable def jB(a:List Nat)(c:TI)(g:TG)(i:TT)(o:TE):TE:=λM H Q=>c M H λJ f=>∀D,f D=none->∃W:Nat->Nat->List V->Hp->Prop,(∃m,W 0 m [] (upd f D (.lst [])))/\∀k m R H,W k m R H ->
 H D=some (.lst R)/\((J.stop k H/\Q (.ref D) H)\/(J.go k H/\R.length<sizeLine/\∀x F,J.yld k H x F->g x (bK a M) F λY A=>KP (bK a M) Y/\i Y A λb P=>
  if b=true then o Y P λv d=>d D=some (.lst R)/\∃l,l<m/\W (k+1) l (R++[v]) (upd d D (.lst (R++[v])))else ∃l,l<m/\W (k+1) l R P))
section
variable{X:Cx}{scope:Scope}{is:List Nat}{tg iter elt:Expr}{ifs:List Expr}{wi:TI}{g:TG}{tc:TT}{te:TE}{pos:Pos}
theorem lM{B:List (Addr×Obj)}{s:Shared}{M:St}{H:Hp}{Q:VK}{RR:Value->Addr->Result->Shared->Prop}(S:d9 X.N is X.env.scope scope)(E:X.calm=true)(hi:PI X tg iter wi)(hg:∀l C t w K,PG (blk X scope l C t w K) tg g)(hc:∀l C t w K,PF (blk X scope l C t w K) ifs tc)(he:∀l C t w K,PE (blk X scope l C t w K) elt te)(I:Inv X B M H s)(h:jB is wi g tc te M H Q)(hRR:∀D C N F m,Inv X B M F N->N.heap.Ns C m->Q (.ref D) F->F C=none->C≠X.env.locals->X.s₀.heap.objs.size<=C->(∀x c,X.env.cells.lookup x=some c->c≠C)->(∀p∈X.pn++B,p.1≠C)->RR (.ref D) C (.ok .next) N):wpAny (model X.prog X.w) X.A (eval iter X.env) (λx i=>wpAny (model X.prog X.w) X.A (pyIter x) (λit P=>wpAny (model X.prog X.w) X.A (newList []) (λacc f=>
   wpAny (model X.prog X.w) X.A (newFunctionEnv scope X.env.globals (dj X.env scope.names []) [] X.env.qual none .none (some X.env)) (λcenv s₄=>
    codeAny (model X.prog X.w) X.A (.compStart (.ListComp elt [⟨tg,iter,ifs,0⟩] scope pos) 0 it acc {cenv with scope:=relabel scope X.env}) (RR acc cenv.locals) s₄) X.xe f) X.xe P) X.xe i) X.xe s:=by
 refine b5 (hi B s M H _ I h) λv s1 Y=>b5 Y λitv G h2=>?_
 obtain⟨it,a,tn,J,A,e,I2,T,st2,f2,hW⟩:=h2;subst e;obtain⟨W,⟨m0,w0⟩,turn⟩:=hW G.heap.objs.size (I2.hok.fresh (Mz _));refine wpAny_newObj_type (kF ?_)
 have s1:(G.heap.push {cls:=.type "list",dict:=none,data:=.seq ([]:List Value).toArray}).objs.size=G.heap.objs.size+1:=by rw[Heap.size_push]
 dsimp only;rw[s1];have hfs:∀b∈a,b<G.heap.objs.size:=λb U=>by
  obtain⟨o,e,_⟩:=T.obj 0 _ st2 b U;exact Heap.lt_size e
 have I4:=I2.block (t':=G.toks) S f2 hfs
 generalize hCC:G.heap.objs.size+1=C at I4 ⊢
 have hDC:G.heap.objs.size<C:=by rw[<-hCC];exact Nat.lt_succ_self _
 have Hg:=hg (bw X scope C) C G A a
 have Hc:=hc (bw X scope C) C G A a
 have L:=he (bw X scope C) C G A a
 have Ha:=GM (X:=blk X scope (bw X scope C) C G A a)
 have hYcell:∀x c,(blk X scope (bw X scope C) C G A a).env.cells.lookup x=some c->G.heap.objs.size<=c\/X.env.cells.lookup x=some c:=λx c e=>by
  have e:(cellsFrom (C+1) scope.names (dj X.env scope.names [])).lookup x=some c:=e
  rcases D3 e with⟨_,q⟩|q
  .exact .inl (Nat.le_trans (Nat.le_of_lt hDC) (Nat.le_of_succ_le q))
  .exact .inr (I2.blkOld S q)
 have FY:∀{F:Hp},(∀b∈a,F b=none)->∀b∈a,kS (blk X scope (bw X scope C) C G A a) [] F b:=λ{F} j b U=>by
  obtain⟨f0,f1,f3,f4,f5,f6⟩:=f2 b U;refine⟨j b U,Nat.ne_of_lt (Nat.lt_trans (hfs b U) hDC),λz=>?_,.inl U,λx c e z=>?_,λp hp=>absurd (show p∈([]:List (Addr×Obj))from hp) (by simp)⟩
  .rcases Mp (I2.stkSub b z)with e|e
   .exact f1 e
   .exact f3 e
  .rcases hYcell x c e with q|q
   .rw[z]at q
    exact absurd (Nat.lt_of_lt_of_le (hfs b U) q) (Nat.lt_irrefl _)
   .exact f5 x c q z
 have hCx:∀x c,X.env.cells.lookup x=some c->c≠C:=λx c e z=>by
  obtain⟨v,q⟩:=I2.cell x c e;have:=q.lt
  rw[z]at this;exact absurd (Nat.lt_trans this hDC) (Nat.lt_irrefl _)
 have hCp:∀p∈X.pn++B,p.1≠C:=λp hp z=>by
  have:=Heap.lt_size (I2.pin p hp).1
  rw[z]at this;exact absurd (Nat.lt_trans this hDC) (Nat.lt_irrefl _)
 have out:∀{Z:St}{F:Hp}{N:Shared},Inv (blk X scope (bw X scope C) C G A a) [] Z F N->Inv X B M F N:=λ{Z F N} J=>
  I2.call' (ch:=a) J.os J.base J.hok J.bare λb U=>by
   obtain⟨f0,f1,f3,f4,f5,f6⟩:=f2 b U;exact⟨f4,f1,f5,f6⟩
 have loop:∀f:Shared,f={G with heap:=pushCells ((G.heap.push {cls:=.type "list",data:=.seq ([]:List Value).toArray}).push {cls:=.type "dict",data:=.dict #[]}) scope.names} ->
   codeAny (model X.prog X.w) X.A (.compLoop (.ListComp elt [⟨tg,iter,ifs,0⟩] scope pos) 0 (.ref it) (.ref G.heap.objs.size) (blk X scope (bw X scope C) C G A a).env) (RR (.ref G.heap.objs.size) C) f:=by
  rintro f rfl
  refine mX (λn N=>∃k R F,Inv (blk X scope (bw X scope C) C G A a) [] (bK is M) F N/\tn k N.heap/\(∀b∈a,F b=none)/\W k n R F) ?_ m0
   ⟨0,[],_,I4,T.keep 0 _ _ st2 λb _ o e=>pushCells_keeps _ _ b o (My _ (My _ e)),λb U=>by rw[eT (Nat.ne_of_lt (hfs b U))];exact(f2 b U).1,w0⟩
  rintro n s3 ⟨k,R,H3,I3,st3,fr3,w3⟩
  obtain⟨hD3,hcase⟩:=turn k n R H3 w3;rcases hcase with⟨stop,qn⟩|⟨go,hlen,step⟩
  .refine b5 (T.done (blk X scope (bw X scope C) C G A a) rfl rfl rfl E k [] s3 (bK is M) H3 zV I3 (FY fr3) st3 stop) λr s4 ⟨hr,I4⟩=>?_
   subst hr;obtain⟨m,j,_⟩:=id I4.loc;exact hRR _ C s4 H3 m (out I4) j qn I4.free (λz=>Nat.lt_irrefl _ (Nat.lt_trans (Nat.lt_of_lt_of_eq hDC z) I2.lt)) (Nat.le_trans I2.sz (Nat.le_of_lt hDC)) hCx hCp
  .refine b5 (T.item (blk X scope (bw X scope C) C G A a) rfl rfl rfl E k [] s3 (bK is M) H3 zV I3 (FY fr3) st3 go) λr s4 ⟨u,hr,h4⟩=>?_
   subst hr;refine b5 h4 λ_ s5 ⟨x,H5,I5,r5,y5,st5,fr5⟩=>?_
   have I5':=I5.pinned (FY fr5) (T.obj _ _ st5)
   refine b5 (Hg _ s5 (bK is M) H5 x u _ I5' r5 (step x H5 y5)) λ_ s6 ⟨σ6,H6,I6,le6,q6⟩=>?_
   refine b5 (Hc _ s6 σ6 H6 _ I6 q6) λok s7 ⟨H7,I7,q7⟩=>?_
   have again:∀{H8:Hp}{s8:Shared}{ys':List V},Inv (blk X scope (bw X scope C) C G A a) ([]++jJ a s5.heap) σ6 H8 s8->(∃m',m'<n/\W (k+1) m' ys' H8) ->
     ∃m,m<n/\∃k R F,Inv (blk X scope (bw X scope C) C G A a) [] (bK is M) F s8/\tn k s8.heap/\(∀b∈a,F b=none)/\W k m R F:=λ{H8 s8 ys'} I8 ⟨m',hm,w8⟩=>by
    refine⟨m',hm,k+1,ys',H8,(I8.weak le6.1.symm le6.2).unpinned,T.keep _ _ _ st5 λb U o e=>(I8.pin (b,o) (Mm _ (Mm _ (Hf U e)))).1,λb U=>?_,w8⟩
    obtain⟨o,e,d⟩:=T.obj _ _ st5 b U;exact(I8.pin (b,o) (Mm _ (Mm _ (Hf U e)))).2.1
   cases ok with
   |false=>
    rw[if_neg Bool.false_ne_true]at q7;exact again I7 q7
   |true=>
    rw[if_pos rfl]at q7;refine b5 (L _ s7 σ6 H7 _ I7 q7) λy s8 ⟨v8,H8,I8,r8,q8⟩=>?_
    obtain⟨hD8,q8⟩:=q8;refine b5 (Ha _ s8 σ6 H8 (.ref G.heap.objs.size) [v8] (.ref G.heap.objs.size) [y] (λ_ H9=>∃m',m'<n/\W (k+1) m' (R++[v8]) H9) I8 rfl (.cons r8 .nil) ⟨_,R,v8,rfl,rfl,hD8,hlen,q8⟩) λ_ s9 ⟨_,H9,I9,_,q9⟩=>?_
    exact again I9 q9
 exact codeAny_compStart_list (loop _ rfl) (T.self X.A 0 _ _ _ (T.keep 0 _ _ st2 λb _ o e=>pushCells_keeps _ _ b o (My _ (My _ e))) (loop _ rfl))
theorem rF(S:d9 X.N is X.env.scope scope)(E:X.calm=true)(c:PI X tg iter wi)(n:∀l C t w K,PG (blk X scope l C t w K) tg g)(J:∀l C t w K,PF (blk X scope l C t w K) ifs tc)(R:∀l C t w K,PE (blk X scope l C t w K) elt te)(P:∀x,foldedSetIterable iter X.env x=pure x:=by intro _;rfl):PE X (.ListComp elt [⟨tg,iter,ifs,0⟩] scope pos) (jB is wi g tc te):=by
 intro B s M H Q I h;rw[eval_ListComp];refine wpAny_comprehension_free (use:=none) rfl P (iA (I.freeCells S)) S.kind S.loc (lM (RR:=λa C=>compPost (model X.prog X.w) X.A X.xe none (EP X B M Q) a C) S E c n J R I h ?_)
 intro D C N F m z j q r i f d p
 refine⟨m,j,λZ k=>?_⟩
 exact⟨.ref D,F,z.turned (t':=N.toks) (λb o U e=>(k.2 b U).trans e) r i (.inr f) d p,rfl,q⟩
theorem Jo{i:Nat}{y:Str}{A spos:Pos}(L:X.N.Nodup)(f:X.N[i]?=some y)(hl:X.env.scope.names.lookup y=some .local)(S:d9 X.N is X.env.scope scope)(E:X.calm=true)(hi:PI X tg iter wi)(hg:∀l C t w K,PG (blk X scope l C t w K) tg g)(J:∀l C t w K,PF (blk X scope l C t w K) ifs tc)(R:∀l C t w K,PE (blk X scope l C t w K) elt te)(n:swapsWith (.ListComp elt [⟨tg,iter,ifs,0⟩] scope pos) (some (.Name y A)) spos.line X.env=pure true)(P:∀x,foldedSetIterable iter X.env x=pure x:=by intro _;rfl):PS X (.Assign [.Name y A] (.ListComp elt [⟨tg,iter,ifs,0⟩] scope pos) spos) (λD M H=>jB is wi g tc te M H λv F=>D.nx (M.set i (some v)) F):=by
 intro B s M H Ds I h;rw[exec_Assign_Name_used _ _ _ _ n];refine Mw (wpAny_standAt (Mw ?_))
 show wpAny _ X.A (do let _ <-comprehension (.ListComp elt [⟨tg,iter,ifs,0⟩] scope pos) scope X.env _ (newList []) false (eval iter X.env) (some (assign (.Name y A) X.env))) _ _ s
 refine Mw (wpAny_mono (wpAny_comprehension_free (use:=some (assign (.Name y A) X.env)) (Q:=λ_ N=>SP X B Ds .next N) rfl P (iA (I.freeCells S)) S.kind S.loc
  (lM (RR:=λacc C=>compPost (model X.prog X.w) X.A X.xe (some (assign (.Name y A) X.env)) (λ_ N=>SP X B Ds .next N) acc C) S E hi hg J R I h ?_)) (λ_ N Y=>Mx (Mx Y)) λ_ _ e=>e)
 intro D C N F m z j q r n2 n3 d p
 show wpAny _ X.A (assign (.Name y A) X.env (.ref D)) _ _ _
 refine wpAny_assign_Name (kZ (v:=.ref D) z L f (.inl hl) rfl (λc I'' hch=>?_) (.inr hl))
 obtain⟨a,u,Z⟩:=hch;have G:C≠a:=by
  rcases Z with e|e
  .rw[e];exact n2
  .exact(d y a e).symm
 refine⟨m,j.sameBut u G,λh' k=>?_⟩
 exact⟨_,F,I''.turned (t':=c.toks) (λb o U e=>(k.2 b U).trans e) r n2 (.inr n3) d p,q⟩
end
end L2
namespace T
open PySem PySem.Spec L2
open PyProof.Rows hiding St
variable{K:Fg}{F O' G:List Addr}{L:Hp}{o z:Expr}{t l U:List (List Addr)}{A h:Pos}{R:V->V->Hp->Prop}{N J:List Str}{X:List MA}{B:List V}{M:St}{x:Str}{bs:List Bool}{y:FuncData}{k:Nat}{I:List Nat}{env:Env}
abbrev D:=PyData
inductive Rep (K:Fg) (H:Hp):V->D->Prop where
 |non:Rep K H .non .none
 |bl (b:Bool):Rep K H (.bl b) (.bool b)
 |int (i:Int):Rep K H (.int i) (.int i)
 |str (x:Str):Rep K H (.str x) (.str x)
 |lst {p:Addr} {vs:List V} {ds:List D}:SqL K H p vs->vs.length=ds.length->(∀(i:Nat) v d,vs[i]?=some v->ds[i]?=some d->Rep K H v d)->Rep K H (.ref p) (.list ds)
 |tup {p:Addr} {vs:List V} {ds:List D}:SqT K H p vs->vs.length=ds.length->(∀(i:Nat) v d,vs[i]?=some v->ds[i]?=some d->Rep K H v d)->Rep K H (.ref p) (.tuple ds)
theorem eN{H F:Hp}{a:Addr}{L:List V}(e:Same H F)(h:SqT K H a L):SqT K F a L:=by
 rcases h with(h|⟨o,h⟩)|h
 .exact .inl (.inl (e _ _ h))
 .exact .inl (.inr ⟨o,e _ _ h⟩)
 .exact .inr h
theorem Rep.mono{H F:Hp}{v:V}{d:D}(e:Same H F)(h:Rep K H v d):Rep K F v d:=by
 induction h with
 |non=>exact .non
 |bl b=>exact .bl b
 |int i=>exact .int i
 |str x=>exact .str x
 |lst P S _ B=>exact .lst (e.seq P) S B
 |tup P S _ B=>exact .tup (eN e P) S B
noncomputable def Reps(K:Fg)(H:Hp)(B:List V)(X:List D):Prop:=B.length=X.length/\∀(i:Nat) v d,B[i]?=some v->X[i]?=some d->Rep K H v d
noncomputable def bZ(H:Hp)(O:List Addr):Hp:=λa=>if a∈O then none else H a
theorem hid_le{H:Hp}{O:List Addr}:Same (bZ H O) H:=λb o h=>by
 unfold bZ at h;split at h
 .cases h
 .exact h
theorem ur{H:Hp}{O:List Addr}{a:Addr}{o:HO}(h:H a=some o)(n:a∉O):bZ H O a=some o:=by
 unfold bZ;rw[if_neg n];exact h
theorem me{H F:Hp}{O u:List Addr}(e:Same H F)(h:∀a∈u,a∈O\/H a=none):Same (bZ H O) (bZ F u):=λb o q=>by
 unfold bZ at q ⊢
 split at q
 .cases q
 .rename_i j
  have U:b∉u:=λz=>(h b z).elim j λz=>by rw[z]at q;cases q
  rw[if_neg U];exact e b o q
theorem Io{H:Hp}{O:List Addr}{p:Addr}{o:HO}(h:p∈O):bZ (upd H p o) O=bZ H O:=by
 funext b
 unfold bZ;split
 .rfl
 .rename_i U
  exact eT λe=>U (e▸h)
theorem IQ{H:Hp}:bZ H []=H:=by
 funext b;unfold bZ;simp
theorem jt{H:Hp}{p:Addr}{o:HO}(h:H p=none):Same H (upd H p o):=λb u e=>by
 rw[eT (xk e h)];exact e
inductive Sh where
 |view|leaf|lst (s:Sh)|tup (ss:List Sh)
noncomputable def Sh.isView:Sh->Bool
 |.view=>true
 |_=>false
inductive Own (K:Fg) (O:List Addr) (H:Hp):Sh->List Addr->V->D->Prop where
 |view {v d}:Rep K H v d->Own K O H .view [] v d
 |leaf {v d}:Rep K (bZ H O) v d->Own K O H .leaf [] v d
 |lst {s:Sh} {p:Addr} {vs:List V} {ds:List D} {Fs:List (List Addr)}:s.isView=false->H p=some (.lst vs)->vs.length=ds.length->Fs.length=ds.length->(p::Fs.flatten).Nodup ->
   (∀(i:Nat) v d F,vs[i]?=some v->ds[i]?=some d->Fs[i]?=some F->Own K O H s F v d)->Own K O H (.lst s) (p::Fs.flatten) (.ref p) (.list ds)
 |tup {ss:List Sh} {p:Addr} {vs:List V} {ds:List D} {Fs:List (List Addr)}:(∀s∈ss,s.isView=false)->H p=some (.tup vs)->p∉O->vs.length=ds.length->Fs.length=ds.length->ss.length=ds.length->Fs.flatten.Nodup ->
   (∀(i:Nat) v d F s,vs[i]?=some v->ds[i]?=some d->Fs[i]?=some F->ss[i]?=some s->Own K O H s F v d)->Own K O H (.tup ss) Fs.flatten (.ref p) (.tuple ds)
theorem Own.mono{O:List Addr}{H c:Hp}{s:Sh}{v:V}{d:D}(h:Own K O H s G v d)(e:Same H c)(k:∀a∈O',a∈O\/H a=none):Own K O' c s G v d:=by
 induction h with
 |view r=>exact .view (r.mono e)
 |leaf r=>exact .leaf (r.mono (me e k))
 |lst f C S g X _ B=>exact .lst f (e _ _ C) S g X λi v d F Y M b=>B i v d F Y M b
 |tup f C j S g P X _ B=>exact .tup f (e _ _ C) (λz=>(k _ z).elim j λz=>by rw[z]at C;cases C) S g P X λi v d F s Y M b m=>B i v d F s Y M b m
theorem Own.rep{O:List Addr}{H:Hp}{s:Sh}{v:V}{d:D}(h:Own K O H s G v d):Rep K H v d:=by
 induction h with
 |view r=>exact r
 |leaf r=>exact r.mono hid_le
 |lst f C S g _ q B=>
  refine .lst (.of C) S λi v d Y M=>?_
  rename_i t _;obtain⟨F,c⟩:∃F,t[i]?=some F:=by
   have:=(Mv M).1
   exact⟨t[i]'(by omega),Mq _⟩
  exact B i v d F Y M c
 |tup f C j S g P _ q B=>
  refine .tup (.of C) S λi v d Y M=>?_
  rename_i u _ _ _ t _;have l:=(Mv M).1
  exact B i v d (t[i]'(by omega)) (u[i]'(by omega)) Y M (Mq _) (Mq _)
theorem pG{i:Nat}{a:Addr}(h:t[i]?=some F)(Z:a∈F):a∈t.flatten:=List.mem_flatten.mpr ⟨F,mem_of_getElem? h,Z⟩
theorem Own.freeze{O:List Addr}{H:Hp}{s:Sh}{v:V}{d:D}(h:Own K O H s G v d)(P:s.isView=false)(Y:∀a∈O',a∈O)(M:∀a∈G,a∉O'):Rep K (bZ H O') v d:=by
 induction h with
 |view r=>cases P
 |leaf r=>exact r.mono (me (Same.refl _) λa z=>.inl (Y a z))
 |lst f C S g _ q B=>
  refine .lst (.of (ur C (M _ mem_cons_self))) S λi v d N R=>?_
  rename_i t _;obtain⟨F,c⟩:∃F,t[i]?=some F:=by
   have:=(Mv R).1
   exact⟨t[i]'(by omega),Mq _⟩
  exact B i v d F N R c f λa Z=>M a (Ms _ (pG c Z))
 |tup f C j S g k _ q B=>
  refine .tup (.of (ur C λz=>j (Y _ z))) S λi v d N R=>?_
  rename_i u _ _ _ t _;have l:=(Mv R).1
  have I:t[i]?=some (t[i]'(by omega)):=Mq _
  exact B i v d _ (u[i]'(by omega)) N R I (Mq _) (f _ (getElem_mem _)) λa Z=>M a (pG I Z)
theorem Own.mut{O:List Addr}{H:Hp}{s:Sh}{v:V}{d:D}{p:Addr}{o:HO}{L:List V}(h:Own K O H s G v d)(P:s.isView=false)(C:p∈O)(a:p∉G)(S:H p=some (.lst L)):Own K O (upd H p o) s G v d:=by
 induction h with
 |view r=>cases P
 |leaf r=>refine .leaf ?_;rw[Io C];exact r
 |lst f Y J g X q B=>
  refine .lst f ?_ J g X λi v d F N R I=>B i v d F N R I f λz=>a (Ms _ (pG I z))
  rw[eT (λz=>a (by rw[<-z];exact mem_cons_self))]
  exact Y
 |tup f Y j J g k X q B=>
  refine .tup f ?_ j J g k X λi v d F s N R I w=>B i v d F s N R I w (f _ (mem_of_getElem? w)) λz=>a (pG I z)
  rw[eT (λz=>by rw[z,S]at Y;cases Y)]
  exact Y
inductive Sc:V->D->Prop where
 |non:Sc .non .none
 |bl (b:Bool):Sc (.bl b) (.bool b)
 |int (i:Int):Sc (.int i) (.int i)
 |str (x:Str):Sc (.str x) (.str x)
theorem Sc.rep{H:Hp}{v:V}{d:D}(h:Sc v d):Rep K H v d:=by cases h<;>constructor
noncomputable def bU:D->Bool
 |.list _=>false
 |.tuple _=>false
 |.dict _=>false
 |_=>true
theorem Rep.sc{H:Hp}{v:V}{d:D}(h:Rep K H v d)(s:bU d=true):Sc v d:=by
 cases h with
 |non=>exact .non
 |bl b=>exact .bl b
 |int i=>exact .int i
 |str x=>exact .str x
 |lst _ _ _=>cases s
 |tup _ _ _=>cases s
structure PV where
 s:Sh
 d:D
abbrev Ev:=List (Option PV)
@[simp] abbrev MB(d:PySem.PyData):Option PV:=some ⟨.leaf,d⟩
inductive Out (α:Type) where
 |ok (a:α) (e:Ev)
 |er (c:Str) (e:Ev)
 |no
noncomputable def Out.bind{u E:Type}(x:Out u)(k:u->Ev->Out E):Out E:=match x with
 |.ok a e=>k a e
 |.er c e=>.er c e
 |.no=>.no
structure EnvOk(K:Fg)(He:Hp)(O:List Addr)(Fs:List (List Addr))(H:Hp)(σ:St)(Γ:Ev):Prop where
 len1:σ.length=Γ.length
 len2:Fs.length=Γ.length
 same:Same He H
 nd:(O++Fs.flatten).Nodup
 inH:∀a∈O++Fs.flatten,H a≠none
 fresh:∀a∈Fs.flatten,He a=none
 slot:∀(i:Nat)(p:PV),Γ[i]?=some (some p)->p.s.isView=false/\∃v F,σ[i]?=some (some v)/\Fs[i]?=some F/\Own K (O++Fs.flatten) H p.s F v p.d
section
variable{K:Fg}{He H H':Hp}{O O' G:List Addr}{Fs:List (List Addr)}{σ:St}{Γ:Ev}
theorem EnvOk.grow(h:EnvOk K He O Fs H σ Γ)(e:Same H H'):EnvOk K He O Fs H' σ Γ:=
 ⟨h.len1,h.len2,h.same.trans e,h.nd,λa Z z=>h.inH a Z (e.free z),h.fresh,λi p q=>let⟨a,v,F,b,c,d⟩:=h.slot i p q;⟨a,v,F,b,c,d.mono e λ_ z=>.inl z⟩⟩
theorem EnvOk.drop(h:EnvOk K He O Fs H σ Γ)(P:∀a∈O',a∈O)(X:O'.Nodup):EnvOk K He O' Fs H σ Γ:=by
 obtain⟨r,g,m⟩:=Mt h.nd;refine⟨h.len1,h.len2,h.same,List.nodup_append.mpr ⟨X,g,λa Z b U=>m a (P a Z) b U⟩,λa Z=>h.inH a ?_,h.fresh,λi p q=>let⟨a,v,F,b,c,d⟩:=h.slot i p q;⟨a,v,F,b,c,d.mono (Same.refl _) λa z=>.inl ?_⟩⟩
 .rcases Mo Z with z|z
  .exact Mn _ (P a z)
  .exact Mm _ z
 .rcases Mo z with z|z
  .exact Mn _ (P a z)
  .exact Mm _ z
theorem EnvOk.dropL(h:EnvOk K He (G++O) Fs H σ Γ):EnvOk K He O Fs H σ Γ:=h.drop (λa z=>Mm _ z) (Mt (Mt h.nd).1).2.1
theorem EnvOk.hide(h:EnvOk K He O Fs H σ Γ)(e:Same H H')(X:G.Nodup)(j:∀a∈G,H a=none)(l:∀a∈G,H' a≠none):EnvOk K He (G++O) Fs H' σ Γ:=by
 refine⟨h.len1,h.len2,h.same.trans e,?_,λa Z=>?_,h.fresh,λi p q=>let⟨a,v,F,b,c,d⟩:=h.slot i p q;⟨a,v,F,b,c,d.mono e λa z=>?_⟩⟩
 .rw[append_assoc]
  exact List.nodup_append.mpr ⟨X,h.nd,λa Z b U z=>h.inH b U (by rw[<-z];exact j a Z)⟩
 .rw[append_assoc]at Z
  rcases Mo Z with z|z
  .exact l a z
  .exact λq=>h.inH a z (e.free q)
 .rw[append_assoc]at z
  rcases Mo z with z|z
  .exact .inr (j a z)
  .exact .inl z
end
structure Aft(K:Fg)(He:Hp)(O:List Addr)(Fs:List (List Addr))(H:Hp)(σ:St)(Γ':Ev)(p:PV)(v:V)(H':Hp)(G:List Addr)(Fs':List (List Addr)):Prop where
 same:Same H H'
 env:EnvOk K He (G++O) Fs' H' σ Γ'
 new:∀a∈G++Fs'.flatten,a∈Fs.flatten\/H a=none
 own:Own K (G++O++Fs'.flatten) H' p.s G v p.d
abbrev XW:=Str->St->Hp->Prop
abbrev F1:=Ev->Out PV
noncomputable def tE(K:Fg)(W:XW)(f:F1):TE:=λM H Q=>∃L O t C,EnvOk K L O t H M C/\match f C with
 |.ok p N=>∀v F G U,Aft K L O t H M N p v F G U->Q v F
 |.er c N=>∀F U,Same H F->EnvOk K L O U F M N->W c M F
 |.no=>False
noncomputable def Wants(K:Fg)(W:XW)(L:Hp)(O:List Addr)(t:List (List Addr))(H:Hp)(M:St)(Q:VK)(o:Out PV):Prop:=match o with
 |.ok p N=>∀v F G U,Aft K L O t H M N p v F G U->Q v F
 |.er c N=>∀F U,Same H F->EnvOk K L O U F M N->W c M F
 |.no=>False
section
variable{K:Fg}{W:XW}{He H:Hp}{O:List Addr}{Fs:List (List Addr)}{σ:St}{Γ Γ':Ev}{Q:VK}
theorem Wants.scal{A:Hp}{b:List Addr}{v:V}{d:D}(h:Wants K W He O Fs H σ Q (.ok ⟨.leaf,d⟩ Γ'))(s:Sc v d)(e:Same H A)(E:EnvOk K He b l A σ Γ')(j:∀a∈O,a∈b)(X:O.Nodup)(new:∀a∈l.flatten,a∈Fs.flatten\/H a=none):Q v A:=
 h v A [] l ⟨e,by rw[nil_append];exact E.drop j X,by rw[nil_append];exact new,.leaf s.rep⟩
theorem EnvOk.ndO(E:EnvOk K He O Fs H σ Γ):O.Nodup:=(Mt E.nd).1
end
noncomputable def aZ{E:Type}(f:F1)(k:PV->Ev->Out E):Ev->Out E:=λC=>(f C).bind k
section
variable{K:Fg}{W:XW}{σ:St}{H:Hp}{Q:VK}{fa fb:F1}
theorem uq{k:PV->F1}{R:VK}(h:tE K W (aZ fa k) σ H Q)(a:∀L O t I p v f G g,O.Nodup->Aft K L O t H σ I p v f G g->Wants K W L O t H σ Q (k p I)->R v f):tE K W fa σ H R:=by
 obtain⟨L,O,t,C,E,h⟩:=h;refine⟨L,O,t,C,E,?_⟩
 unfold aZ at h
 cases e:fa C with
 |ok p I=>
  rw[e]at h;exact λv F G U A=>a L O t I p v F G U E.ndO A h
 |er c I=>
  rw[e]at h;exact h
 |no=>
  rw[e]at h;exact h
theorem AL{k:PV->PV->F1}(h:tE K W (aZ fa λp=>aZ fb λq=>k p q) σ H Q)(G:∀L O t S p q v u f A o r l,O.Nodup->Same H f->Same f A->EnvOk K L (r++(o++O)) l A σ S->(∀a∈r++(o++l.flatten),a∈t.flatten\/H a=none) ->
   Own K (r++(o++O)++l.flatten) A p.s o v p.d->Own K (r++(o++O)++l.flatten) A q.s r u q.d->Wants K W L O t H σ Q (k p q S)->R v u A):tE K W fa σ H λv f=>tE K W fb σ f λu A=>R v u A:=by
 refine uq (k:=λp=>aZ fb λq=>k p q) h λL O t I p v f o g X j Y=>?_
 refine⟨L,o++O,g,I,j.env,?_⟩
 unfold aZ at Y
 cases e:fb I with
 |ok q S=>
  rw[e]at Y;intro u A r l b;have new:∀a∈r++(o++l.flatten),a∈t.flatten\/H a=none:=λa Z=>by
   have i:a∈o++g.flatten->a∈t.flatten\/H a=none:=j.new a
   rcases Mo Z with z|z
   .rcases b.new a (Mn _ z)with y|y
    .exact i (Mm _ y)
    .exact .inr (j.same.free y)
   .rcases Mo z with z|z
    .exact i (Mn _ z)
    .rcases b.new a (Mm _ z)with y|y
     .exact i (Mm _ y)
     .exact .inr (j.same.free y)
  refine G L O t S p q v u f A o r l X j.same b.same b.env new (j.own.mono b.same λa Z=>?_) b.own Y
  rcases Mo Z with z|z
  .rcases Mo z with z|z
   .rcases b.new a (Mn _ z)with y|y
    .exact .inl (Mm _ y)
    .exact .inr y
   .exact .inl (Mn _ z)
  .rcases b.new a (Mm _ z)with y|y
   .exact .inl (Mm _ y)
   .exact .inr y
 |er c S=>
  rw[e]at Y;intro A l P w;exact Y A l (j.same.trans P) w.dropL
 |no=>
  rw[e]at Y;exact Y
end
section
variable{X:Cx}{e:Expr}
theorem bt{t N:TE}(h:PE X e t)(i:∀M H Q,N M H Q->t M H Q):PE X e N:=λB s M H Q I q=>h B s M H Q I (i M H Q q)
theorem xc{t N:TT}(h:PT X e t)(i:∀M H Q,N M H Q->t M H Q):PT X e N:=λB s M H Q I q=>h B s M H Q I (i M H Q q)
theorem AD{t N:TT}(h:PW X e t)(i:∀M H Q,N M H Q->t M H Q):PW X e N:=λd B s M H Q I q=>h d B s M H Q I (i M H Q q)
theorem AE{F:List Expr}{t N:TA}(h:PA X F t)(i:∀M H Q,N M H Q->t M H Q):PA X F N:=λd B s M H Q I q=>h d B s M H Q I (i M H Q q)
theorem eO{m:Stmt}{t N:TS}(h:PS X m t)(i:∀D M H,N D M H->t D M H):PS X m N:=λB s M H D I q=>h B s M H D I (i D M H q)
theorem Ia{m:List Stmt}{t N:TS}(h:PSs X m t)(i:∀D M H,N D M H->t D M H):PSs X m N:=λB s M H D I q=>h B s M H D I (i D M H q)
theorem Gh{F:List Expr}{t N:TT}(h:PF X F t)(i:∀M H Q,N M H Q->t M H Q):PF X F N:=λB s M H Q I q=>h B s M H Q I (i M H Q q)
end
theorem Ju{h:Heap}:∀{B:List V}{its:List Value}{ds:List D},Vals B its->B.length=ds.length->(∀(i:Nat) v d,B[i]?=some v->ds[i]?=some d->∀u,RelV v u->∃U,Reads h u d U)->∃U,ReadsAll h its ds U
 |_,_,[],.nil,_,_=>⟨_,.nil⟩
 |_,_,d::ds,.cons (a:=v) (b:=u) r t,hl,h=>by
  obtain⟨U,m⟩:=h 0 v d rfl rfl u r;obtain⟨bs,J⟩:=Ju t (by simpa using hl) λi v d Y M=>h (i+1) v d (by simpa using Y) (by simpa using M)
  exact⟨_,.cons m J⟩
 |_,_,[],.cons _ _,hl,_=>by simp at hl
 |_,_,_::_,.nil,hl,_=>by simp at hl
theorem Rep.reads{X:Cx}{B:List (Addr×Obj)}{H:Hp}{s:Shared}{x:V}{d:D}(I:Inv X B M H s)(r:Rep X.K H x d):∀u,RelV x u->∃U,Reads s.heap u d U:=by
 induction r with
 |non=>rintro u rfl;exact⟨_,.none⟩
 |bl b=>rintro u rfl;exact⟨_,.bool b⟩
 |int i=>rintro u ⟨t,rfl⟩;exact⟨_,.int i t⟩
 |str x=>rintro u ⟨t,rfl⟩;exact⟨_,.str x t⟩
 |lst Y S _ a=>
  rintro u rfl
  obtain⟨g,c,⟨o,n,N,R,e,w⟩,_⟩:=I.list Y;obtain⟨U,m⟩:=Ju c S a;exact⟨_,.list N R w (by simpa using m)⟩
 |tup Y S _ a=>
  rintro u rfl
  obtain⟨g,c,⟨o,N,R,n,w⟩,_⟩:=I.tuple Y;obtain⟨U,m⟩:=Ju c S a;exact⟨_,.tuple N R w (by simpa using m)⟩
theorem pO{u:Type}{F G:List u}:∀{Fs:List (List u)}{i:Nat},Fs[i]?=some F->(F++(Fs.set i G).flatten).Perm (G++Fs.flatten)
 |[],_,h=>by simp at h
 |A::r,0,h=>by
  simp at h
  subst h;simp only[List.set_cons_zero,flatten_cons]
  rw[<-append_assoc,<-append_assoc];exact List.Perm.append_right _ perm_append_comm
 |A::r,i+1,h=>by
  have B:=pO (G:=G) (Fs:=r) (i:=i) (by simpa using h)
  simp only[List.set_cons_succ,flatten_cons]
  calc (F++(A++(r.set i G).flatten)).Perm (A++(F++(r.set i G).flatten)):=by
        rw[<-append_assoc,<-append_assoc];exact List.Perm.append_right _ perm_append_comm
    _ |>.Perm (A++(G++r.flatten)):=List.Perm.append_left _ B
    _ |>.Perm (G++(A++r.flatten)):=by
        rw[<-append_assoc,<-append_assoc];exact List.Perm.append_right _ perm_append_comm
section
variable{K:Fg}{He H:Hp}{O G:List Addr}{Fs:List (List Addr)}{σ:St}{Γ:Ev}
theorem EnvOk.lt(E:EnvOk K He O Fs H σ Γ){i:Nat}(h:i<Γ.length):∃F,Fs[i]?=some F:=⟨Fs[i]'(by rw[E.len2];exact h),Mq _⟩
theorem EnvOk.move{i:Nat}{p:PV}(E:EnvOk K He O Fs H σ Γ)(h:Γ[i]?=some (some p)):p.s.isView=false/\∃v F,σ[i]?=some (some v)/\EnvOk K He (F++O) (Fs.set i []) H σ (Γ.set i none)/\Own K (F++O++(Fs.set i []).flatten) H p.s F v p.d/\(∀a∈F++(Fs.set i []).flatten,a∈Fs.flatten):=by
 obtain⟨f,v,F,Y,M,P⟩:=E.slot i p h;have X:(F++(Fs.set i []).flatten).Perm Fs.flatten:=by simpa using pO (G:=[]) M
 have b:(F++O++(Fs.set i []).flatten).Perm (O++Fs.flatten):=by
  rw[append_assoc]
  calc (F++(O++(Fs.set i []).flatten)).Perm (O++(F++(Fs.set i []).flatten)):=by
        rw[<-append_assoc,<-append_assoc];exact List.Perm.append_right _ perm_append_comm
    _ |>.Perm (O++Fs.flatten):=List.Perm.append_left _ X
 refine⟨f,v,F,Y,⟨by rw[length_set];exact E.len1,by rw[length_set,length_set];exact E.len2,E.same,b.nodup_iff.mpr E.nd,λa Z=>E.inH a (b.mem_iff.mp Z),λa Z=>E.fresh a (X.mem_iff.mp (Mm _ Z)),λj q c=>?_⟩,P.mono (Same.refl _) λa Z=>.inl (b.mem_iff.mp Z),λa Z=>X.mem_iff.mp Z⟩
 by_cases A:j=i
 .subst A
  rw[getElem?_set]at c;split at c
  .split at c<;>cases c
  .rename_i z
   exact absurd rfl z
 .rw[getElem?_set_ne (Ne.symm A)]at c
  obtain⟨k,t,d,N,R,I⟩:=E.slot j q c;exact⟨k,t,d,N,by rw[getElem?_set_ne (Ne.symm A)];exact R,I.mono (Same.refl _) λa Z=>.inl (b.mem_iff.mp Z)⟩
theorem EnvOk.put{i:Nat}{p:PV}{v:V}(E:EnvOk K He (G++O) Fs H σ Γ)(g:Own K (G++O++Fs.flatten) H p.s G v p.d)(f:p.s.isView=false)(m:∀a∈G,He a=none)(l:i<Γ.length):EnvOk K He O (Fs.set i G) H (σ.set i (some v)) (Γ.set i (some p)):=by
 obtain⟨F,c⟩:=E.lt l;have b:=pO (G:=G) c
 have X:=E.nd
 rw[append_assoc]at X;have r:∀a∈O++(Fs.set i G).flatten,a∈G++O++Fs.flatten:=λa Z=>by
  rw[append_assoc];rcases Mo Z with z|z
  .exact Mm _ (Mn _ z)
  .rcases Mo (b.mem_iff.mp (Mm _ z))with y|y
   .exact Mn _ y
   .exact Mm _ (Mm _ y)
 refine⟨by rw[length_set,length_set];exact E.len1,by rw[length_set,length_set];exact E.len2,E.same,?_,λa Z=>E.inH a (r a Z),λa Z=>?_,λj q Y=>?_⟩
 .have h:(O++(F++(Fs.set i G).flatten)).Perm (G++(O++Fs.flatten)):=by
   calc (O++(F++(Fs.set i G).flatten)).Perm (O++(G++Fs.flatten)):=List.Perm.append_left _ b
     _ |>.Perm (G++(O++Fs.flatten)):=by
       rw[<-append_assoc,<-append_assoc];exact List.Perm.append_right _ perm_append_comm
  have e:=h.nodup_iff.mpr X
  refine e.sublist ?_
  exact List.Sublist.append_left (List.sublist_append_right _ _) _
 .rcases Mo (b.mem_iff.mp (Mm _ Z))with y|y
  .exact m a y
  .exact E.fresh a y
 .by_cases A:j=i
  .subst A
   rw[getElem?_set_self l]at Y
   cases Y;refine⟨f,v,G,?_,?_,g.mono (Same.refl _) λa Z=>.inl (r a Z)⟩
   .rw[getElem?_set_self (by rw[E.len1];exact l)]
   .rw[getElem?_set_self (by rw[E.len2];exact l)]
  .rw[getElem?_set_ne (Ne.symm A)]at Y
   obtain⟨k,t,d,N,R,I⟩:=E.slot j q Y;exact⟨k,t,d,by rw[getElem?_set_ne (Ne.symm A)];exact N,by rw[getElem?_set_ne (Ne.symm A)];exact R,I.mono (Same.refl _) λa Z=>.inl (r a Z)⟩
theorem Aft.freshG{N:Ev}{p:PV}{v:V}{F:Hp}(E:EnvOk K He O Fs H σ Γ)(A:Aft K He O Fs H σ N p v F G U):∀a∈G,He a=none:=λa Z=>by
 rcases A.new a (Mn _ Z)with z|z
 .exact E.fresh a z
 .exact E.same.free z
end
noncomputable def ab(i:Nat):F1:=λC=>match C[i]? with
 |some (some p)=>(match p.s with
  |.leaf=>.ok ⟨.leaf,p.d⟩ C
  |_=>.ok ⟨.view,p.d⟩ C)
 |_=>.no
noncomputable def cC(i:Nat):F1:=λC=>match C[i]? with
 |some (some p)=>.ok p (C.set i none)
 |_=>.no
noncomputable def eK(d:D):F1:=λC=>.ok ⟨.leaf,d⟩ C
section
variable{X:Cx}{W:XW}{i:Nat}{e:Expr}{pos:Pos}
theorem Bq{H:Hp}{Q:VK}(h:tE K W (ab i) M H Q):bT i M H Q:=by
 obtain⟨L,O,t,C,E,h⟩:=h;unfold ab at h
 cases e:C[i]? with
 |none=>rw[e]at h;exact h.elim
 |some o=>
  rw[e]at h
  cases o with
  |none=>exact h.elim
  |some p=>
   obtain⟨f,v,F,Y,b,P⟩:=E.slot i p e;obtain⟨s,d⟩:=p;have new:∀a∈[]++t.flatten,a∈t.flatten\/H a=none:=λa Z=>.inl (by simpa using Z)
   cases s with
   |leaf=>
    cases P with
    |leaf r=>exact⟨v,Y,h v H [] t ⟨Same.refl _,by simpa using E,new,.leaf r⟩⟩
   |view=>cases f
   |lst s=>exact⟨v,Y,h v H [] t ⟨Same.refl _,by simpa using E,new,.view P.rep⟩⟩
   |tup u=>exact⟨v,Y,h v H [] t ⟨Same.refl _,by simpa using E,new,.view P.rep⟩⟩
theorem yk{H:Hp}{Q:VK}(h:tE K W (cC i) M H Q):bT i M H Q:=by
 obtain⟨L,O,t,C,E,h⟩:=h;unfold cC at h
 cases e:C[i]? with
 |none=>rw[e]at h;exact h.elim
 |some o=>
  rw[e]at h
  cases o with
  |none=>exact h.elim
  |some p=>
   obtain⟨f,v,F,Y,j,b,r⟩:=E.move e;exact⟨v,Y,h v H F (t.set i []) ⟨Same.refl _,j,λa Z=>.inl (r a Z),b⟩⟩
theorem Da(h:PE X e (bT i)):PE X e (tE X.K W (ab i)):=bt h λ_ _ _=>Bq
theorem zA(h:PE X e (bT i)):PE X e (tE X.K W (cC i)):=bt h λ_ _ _=>yk
theorem vf{H:Hp}{Q:VK}{v:V}{d:D}(P:∀H,Rep K H v d)(h:tE K W (eK d) M H Q):Q v H:=by
 obtain⟨L,O,t,C,E,h⟩:=h;exact h v H [] t ⟨Same.refl _,by simpa using E,λa Z=>.inl (by simpa using Z),.leaf (P _)⟩
theorem zB{v:V}{u:Value}{d:D}(C:Gl X x)(E:X.mg x=some u)(r:RelV v u)(m:∀H,Rep X.K H v d)(y:(x==("__debug__":Str))=false:=by decide):PE X (.Name x pos) (tE X.K W (eK d)):=
 bt (yC C E r y) λ_ _ _=>vf m
end
noncomputable def aj(g:D->D->Option D)(L e:F1):F1:=aZ L λp=>aZ e λq=>λC=>match g p.d q.d with
 |some d=>.ok ⟨.leaf,d⟩ C
 |none=>.no
noncomputable def GOp(K:Fg)(r:R2)(g:D->D->Option D):Prop:=∀x y H Q a b d,Rep K H x a->Rep K H y b->g a b=some d->(∀v,Sc v d->Q v H)->r x y H Q
section
variable{K:Fg}{W:XW}{σ:St}{H:Hp}{Q:VK}{fa fb:F1}{r:R2}{g:D->D->Option D}
theorem iX(C:GOp K r g)(h:tE K W (aj g fa fb) σ H Q):m8 r (tE K W fa) (tE K W fb) σ H Q:=by
 refine AL h ?_
 intro L O t S p q v u f A o c l X n G E new b y w
 cases e:g p.d q.d with
 |none=>rw[e]at w;exact w.elim
 |some d=>
  rw[e]at w;exact C v u A Q p.d q.d d b.rep y.rep e λz s=>w.scal s (n.trans G) E (λa Z=>Mm _ (Mm _ Z)) X λa Z=>new a (Mm _ (Mm _ Z))
end
theorem GOp.or{r r':R2}{g g':D->D->Option D}(h:GOp K r g)(Z:GOp K r' g'):GOp K (λx y H Q=>r x y H Q\/r' x y H Q) (λa b=>(g a b).or (g' a b)):=by
 intro x y H Q a b d m J e k;have e:(g a b).or (g' a b)=some d:=e
 cases N:g a b with
 |some z=>rw[N]at e;cases e;exact .inl (h x y H Q a b _ m J N k)
 |none=>rw[N]at e;exact .inr (Z x y H Q a b d m J (by simpa using e) k)
noncomputable def gI(C:Int->Int->Bool)(f:Int->Int->D):D->D->Option D
 |.int i,.int j=>if C i j then some (f i j)else none
 |_,_=>none
theorem rT{C:Int->Int->Prop}{l:Int->Int->Bool}{g:Int->Int->V}{f:Int->Int->D}(h:∀i j,l i j=true->C i j)(P:∀i j,Sc (g i j) (f i j)):GOp K (rI C g) (gI l f):=by
 intro x y H Q a b d m J e k
 cases m<;>cases J<;>simp only[gI]at e<;>try cases e
 rename_i i j;split at e
 .rename_i c
  cases e;exact⟨i,j,rfl,rfl,h i j c,k _ (P i j)⟩
 .cases e
noncomputable def AB(f:Int->Int->D):D->D->Option D
 |.int i,.int j=>some (f i j)
 |_,_=>none
theorem Du{g:Int->Int->V}{f:Int->Int->D}(P:∀i j,Sc (g i j) (f i j)):GOp K (rA g) (AB f):=by
 intro x y H Q a b d m J e k
 cases m<;>cases J<;>simp only[AB]at e<;>try cases e
 rename_i i j;exact⟨i,j,rfl,rfl,k _ (P i j)⟩
abbrev gSub:=AB λi j=>.int (i-j)
abbrev aQ:=AB λi j=>.int (i+j)
noncomputable def ud(i j:Int):Bool:=(decide (-(2 ^ 64)<i)&&decide (i<2 ^ 64))||(decide (-(2 ^ 64)<j)&&decide (j<2 ^ 64))
abbrev il:=gI ud λi j=>.int (i*j)
noncomputable def zN(_ j:Int):Bool:=decide (0<j)&&decide (j<1073741824)
abbrev bO:=gI zN λi j=>.int (i / j)
noncomputable def zM(_ j:Int):Bool:=decide (0<j)
abbrev bj:=gI zM λi j=>.int (i % j)
noncomputable def zL(i j:Int):Bool:=decide (0<=j)&&decide (j<=1000000)&&decide (i.natAbs<2 ^ 64)
abbrev qz:=gI zL λi j=>.int (i ^ j.toNat)
mutual
noncomputable def Sh.same:Sh->Sh->Bool
 |.view,.view=>true
 |.leaf,.leaf=>true
 |.lst a,.lst b=>Sh.same a b
 |.tup as,.tup bs=>Sh.sameL as bs
 |_,_=>false
noncomputable def Sh.sameL:List Sh->List Sh->Bool
 |[],[]=>true
 |a::as,b::bs=>Sh.same a b&&Sh.sameL as bs
 |_,_=>false
end
mutual
theorem Sh.same_eq:∀{a b:Sh},Sh.same a b=true->a=b
 |.view,.view,_=>rfl
 |.leaf,.leaf,_=>rfl
 |.lst a,.lst b,h=>by rw[Sh.same_eq (a:=a) (b:=b) (by simpa[Sh.same]using h)]
 |.tup as,.tup bs,h=>by rw[Sh.sameL_eq (as:=as) (bs:=bs) (by simpa[Sh.same]using h)]
 |.view,.leaf,h=>by simp[Sh.same]at h
 |.view,.lst _,h=>by simp[Sh.same]at h
 |.view,.tup _,h=>by simp[Sh.same]at h
 |.leaf,.view,h=>by simp[Sh.same]at h
 |.leaf,.lst _,h=>by simp[Sh.same]at h
 |.leaf,.tup _,h=>by simp[Sh.same]at h
 |.lst _,.view,h=>by simp[Sh.same]at h
 |.lst _,.leaf,h=>by simp[Sh.same]at h
 |.lst _,.tup _,h=>by simp[Sh.same]at h
 |.tup _,.view,h=>by simp[Sh.same]at h
 |.tup _,.leaf,h=>by simp[Sh.same]at h
 |.tup _,.lst _,h=>by simp[Sh.same]at h
theorem Sh.sameL_eq:∀{as bs:List Sh},Sh.sameL as bs=true->as=bs
 |[],[],_=>rfl
 |a::as,b::bs,h=>by
  have h:Sh.same a b=true/\Sh.sameL as bs=true:=by simpa[Sh.sameL]using h
  rw[Sh.same_eq h.1,Sh.sameL_eq h.2]
 |[],_::_,h=>by simp[Sh.sameL]at h
 |_::_,[],h=>by simp[Sh.sameL]at h
end
noncomputable def coer(s:Sh)(p:PV):Bool:=match s with
 |.leaf=>!p.s.isView||bU p.d
 |.view=>false
 |s=>Sh.same s p.s
noncomputable def bb(s:Sh)(G:List Addr):List Addr:=match s with
 |.leaf=>[]
 |_=>G
theorem IZ{s:Sh}{a:Addr}(h:a∈bb s G):a∈G:=by
 unfold bb at h;split at h
 .simp at h
 .exact h
theorem Own.coer{K:Fg}{O O':List Addr}{H:Hp}{s:Sh}{p:PV}{G:List Addr}{v:V}(h:Own K O H p.s G v p.d)(c:coer s p=true)(Y:∀a∈O',a∈O)(M:∀a∈G,a∈O'->a∈bb s G):Own K O' H s (bb s G) v p.d:=by
 cases s with
 |view=>simp[T.coer]at c
 |leaf=>
  show Own K O' H .leaf [] v p.d
  have c:(!p.s.isView||bU p.d)=true:=c
  cases f:p.s.isView with
  |false=>exact .leaf (h.freeze f Y λa Z z=>by simpa[bb]using M a Z z)
  |true=>
   rw[f]at c;exact .leaf (h.rep.sc (by simpa using c)).rep
 |lst s=>
  have e:Sh.lst s=p.s:=Sh.same_eq c
  show Own K O' H (.lst s) G v p.d
  rw[e];exact h.mono (Same.refl _) λa Z=>.inl (Y a Z)
 |tup u=>
  have e:Sh.tup u=p.s:=Sh.same_eq c
  show Own K O' H (.tup u) G v p.d
  rw[e];exact h.mono (Same.refl _) λa Z=>.inl (Y a Z)
open PySem.SeqAt in
noncomputable def bf:D->D->Option D:=λa b=>if shaped a&&shaped b then some (.bool (PyData.eqv a b))else none
open PySem.SeqAt in
noncomputable def fE:D->D->Option D:=λa b=>if shaped a&&shaped b then some (.bool (!PyData.eqv a b))else none
open PySem.SeqAt in
noncomputable def sW(K:Fg)(l:Bool):R2:=λx y H Q=>∃a b,Rep K H x a/\Rep K H y b/\shaped a=true/\shaped b=true/\Q (.bl (if l then !PyData.eqv a b else PyData.eqv a b)) H
section
variable{X:Cx}
theorem Cn(E:X.A.units+64<cLine):OpR X (compareOp .Eq) (sW X.K false):=by
 intro B s M H x y v u Q I K n h;obtain⟨a,b,m,J,sa,L,q⟩:=h;obtain⟨U,k⟩:=m.reads I v K;obtain⟨bs,C⟩:=J.reads I u n;exact SeqAt.compareEq_shaped k C sa L E ⟨.bl _,H,I,rfl,q⟩
theorem Cf(E:X.A.units+64<cLine):OpR X (compareOp .NotEq) (sW X.K true):=by
 intro B s M H x y v u Q I K n h;obtain⟨a,b,m,J,sa,L,q⟩:=h;obtain⟨U,k⟩:=m.reads I v K;obtain⟨bs,C⟩:=J.reads I u n;exact SeqAt.compareNe_shaped k C sa L E ⟨.bl _,H,I,rfl,q⟩
end
theorem CT:GOp K (sW K false) bf:=by
 intro x y H Q a b d m J e k;unfold bf at e;split at e
 .rename_i c
  cases e;simp only[Bool.and_eq_true]at c
  exact⟨a,b,m,J,c.1,c.2,k _ (.bl _)⟩
 .cases e
theorem CP:GOp K (sW K true) fE:=by
 intro x y H Q a b d m J e k;unfold fE at e;split at e
 .rename_i c
  cases e;simp only[Bool.and_eq_true]at c
  exact⟨a,b,m,J,c.1,c.2,k _ (.bl _)⟩
 .cases e
noncomputable def CW:D->D->Option D
 |.str i,.str j=>some (.bool (decide (i.cps.toList<j.cps.toList)))
 |_,_=>none
abbrev Ky:=AB λi j=>.bool (decide (i<j))
noncomputable abbrev iN:D->D->Option D:=λa b=>(Ky a b).or (CW a b)
abbrev HN:=AB λi j=>.bool (decide (i<=j))
abbrev gO:=AB λi j=>.bool (decide (j<i))
abbrev L1:=AB λi j=>.bool (decide (j<=i))
theorem ze:GOp K (λx y H Q=>∃i j,x=.str i/\y=.str j/\Q (.bl (decide (i.cps.toList<j.cps.toList))) H) CW:=by
 intro x y H Q a b d m J e k
 cases m<;>cases J<;>simp only[CW]at e<;>try cases e
 rename_i i j;exact⟨i,j,rfl,rfl,k _ (.bl _)⟩
theorem CQ:GOp K (λx y H Q=>rA (λi j=>.bl (decide (i<j))) x y H Q\/∃i j,x=.str i/\y=.str j/\Q (.bl (decide (i.cps.toList<j.cps.toList))) H) iN:=
 (Du λ_ _=>.bl _).or ze
open PySem.SeqAt in
noncomputable def bx(l:Bool):D->D->Option D
 |a,.list xs=>if shaped a&&shaped (.list xs)then some (.bool (if l then !xs.any λy=>PyData.eqv y a else xs.any λy=>PyData.eqv y a))else none
 |a,.tuple xs=>if shaped a&&shaped (.tuple xs)then some (.bool (if l then !xs.any λy=>PyData.eqv y a else xs.any λy=>PyData.eqv y a))else none
 |_,_=>none
noncomputable def vv(K:Fg)(l:Bool):R2:=λx y H Q=>∃a b d,Rep K H x a/\Rep K H y b/\bx l a b=some (.bool d)/\Q (.bl d) H
theorem wo{l:Bool}:GOp K (vv K l) (bx l):=by
 intro x y H Q a b d m J e k;have:∃c,d=.bool c:=by
  cases b<;>simp only[bx]at e<;>(try cases e)<;>(split at e<;>cases e<;>exact⟨_,rfl⟩)
 obtain⟨c,rfl⟩:=this;exact⟨a,b,c,m,J,e,k _ (.bl c)⟩
theorem G9{d:D}{L:List D}(h:SeqAt.shaped d=true)(e:d=.list L\/d=.tuple L):PyData.canLayAll0 L=true/\PyData.depthAll L+1<=64:=by
 have Y:=SeqAt.canLay_of_shaped h
 have M:=SeqAt.depth_of_shaped h
 rcases e with e|e<;>subst e<;>exact⟨by simpa[PyData.canLay0]using Y,by simpa[PyData.depth]using M⟩
section
variable{X:Cx}
theorem Cm(E:X.A.units+64<cLine):OpR X (compareOp .In) (vv X.K false):=by
 intro B s M H x y v u Q I K n h;obtain⟨a,b,d,m,J,e,q⟩:=h;obtain⟨U,k⟩:=m.reads I v K;obtain⟨bs,C⟩:=J.reads I u n
 cases b<;>simp only[bx]at e<;>try cases e
 all_goals
  split at e
  .rename_i c
   simp only[Bool.and_eq_true]at c
   simp only[Option.some.injEq,PyData.bool.injEq]at e
   subst e;first
    | (obtain⟨G,r⟩:=G9 c.2 (.inl rfl)
       exact SeqAt.in_list_reads C k G (SeqAt.canLay_of_shaped c.1) (Nat.lt_of_le_of_lt (by have:=Nat.min_le_left (PyData.depthAll ‹_›) a.depth;omega) E) ⟨.bl _,H,I,rfl,q⟩)
    | (obtain⟨G,r⟩:=G9 c.2 (.inr rfl)
       exact SeqAt.in_tuple_reads C k G (SeqAt.canLay_of_shaped c.1) (Nat.lt_of_le_of_lt (by have:=Nat.min_le_left (PyData.depthAll ‹_›) a.depth;omega) E) ⟨.bl _,H,I,rfl,q⟩)
  .cases e
theorem sZ(E:X.A.units+64<cLine):OpR X (compareOp .NotIn) (vv X.K true):=by
 intro B s M H x y v u Q I K n h;obtain⟨a,b,d,m,J,e,q⟩:=h;obtain⟨U,k⟩:=m.reads I v K;obtain⟨bs,C⟩:=J.reads I u n
 cases b<;>simp only[bx]at e<;>try cases e
 all_goals
  split at e
  .rename_i c
   simp only[Bool.and_eq_true]at c
   simp only[Option.some.injEq,PyData.bool.injEq]at e
   subst e;first
    | (obtain⟨G,r⟩:=G9 c.2 (.inl rfl)
       exact SeqAt.notIn_list_reads C k G (SeqAt.canLay_of_shaped c.1) (Nat.lt_of_le_of_lt (by have:=Nat.min_le_left (PyData.depthAll ‹_›) a.depth;omega) E) ⟨.bl _,H,I,rfl,q⟩)
    | (obtain⟨G,r⟩:=G9 c.2 (.inr rfl)
       exact SeqAt.notIn_tuple_reads C k G (SeqAt.canLay_of_shaped c.1) (Nat.lt_of_le_of_lt (by have:=Nat.min_le_left (PyData.depthAll ‹_›) a.depth;omega) E) ⟨.bl _,H,I,rfl,q⟩)
  .cases e
end
noncomputable def WantsB(K:Fg)(W:XW)(L:Hp)(O:List Addr)(t:List (List Addr))(H:Hp)(M:St)(Q:Bool->Hp->Prop)(o:Out Bool):Prop:=match o with
 |.ok b N=>∀F U,Same H F->EnvOk K L O U F M N->(∀a∈U.flatten,a∈t.flatten\/H a=none)->Q b F
 |.er c N=>∀F U,Same H F->EnvOk K L O U F M N->W c M F
 |.no=>False
abbrev FB:=Ev->Out Bool
noncomputable def tT(K:Fg)(W:XW)(f:FB):TT:=λM H Q=>∃L O t C,EnvOk K L O t H M C/\WantsB K W L O t H M Q (f C)
section
variable{K:Fg}{W:XW}{He H H1:Hp}{O:List Addr}{Fs Fs1:List (List Addr)}{σ:St}{Γ Γ':Ev}{Q:VK}{QB:Bool->Hp->Prop}
theorem Wants.after{o:Out PV}(h:Wants K W He O Fs H σ Q o)(s:Same H H1)(n:∀a∈Fs1.flatten,a∈Fs.flatten\/H a=none):Wants K W He O Fs1 H1 σ Q o:=by
 cases o with
 |ok p Γ'=>exact λv F G U A=>h v F G U ⟨s.trans A.same,A.env,λa Z=>(A.new a Z).elim (n a) λz=>.inr (s.free z),A.own⟩
 |er c Γ'=>exact λF U e E=>h F U (s.trans e) E
 |no=>exact h
theorem WantsB.after{o:Out Bool}(h:WantsB K W He O Fs H σ QB o)(s:Same H H1)(n:∀a∈Fs1.flatten,a∈Fs.flatten\/H a=none):WantsB K W He O Fs1 H1 σ QB o:=by
 cases o with
 |ok p Γ'=>exact λF U e E i=>h F U (s.trans e) E λa Z=>(i a Z).elim (n a) λz=>.inr (s.free z)
 |er c Γ'=>exact λF U e E=>h F U (s.trans e) E
 |no=>exact h
theorem Aft.go{p:PV}{v:V}(A:Aft K He O Fs H σ Γ' p v H1 G Fs1):EnvOk K He O Fs1 H1 σ Γ':=A.env.dropL
theorem Aft.newF{p:PV}{v:V}(A:Aft K He O Fs H σ Γ' p v H1 G Fs1):∀a∈Fs1.flatten,a∈Fs.flatten\/H a=none:=λa Z=>A.new a (Mm _ Z)
end
section
variable{K:Fg}{W:XW}{σ:St}{H:Hp}{Q:VK}{QB:Bool->Hp->Prop}{fa fb fc:F1}{ga gb:FB}
noncomputable def aG(g:D->Option Bool)(f:F1):FB:=λC=>(f C).bind λp N=>match g p.d with
 |some b=>.ok b N
 |none=>.no
theorem rj{g:D->Option Bool}{R:VK}(h:tT K W (aG g fa) σ H QB)(i:∀v d b f,Rep K f v d->g d=some b->QB b f->R v f):tE K W fa σ H R:=by
 obtain⟨L,O,t,C,E,h⟩:=h;refine⟨L,O,t,C,E,?_⟩
 unfold aG at h
 cases e:fa C with
 |ok p N=>
  rw[e]at h;intro v F G U A
  have h:WantsB K W L O t H σ QB (match g p.d with|some b=>.ok b N|none=>.no):=h
  cases a:g p.d with
  |some b=>
   rw[a]at h;exact i v p.d b F A.own.rep a (h F U A.same A.go A.newF)
  |none=>rw[a]at h;exact h.elim
 |er c N=>rw[e]at h;exact h
 |no=>rw[e]at h;exact h
noncomputable def ag:D->Option Bool
 |.bool b=>some b
 |_=>none
theorem yh{t:TE}(l:∀Q,tE K W fa σ H Q->t σ H Q)(h:tT K W (aG ag fa) σ H QB):uO t σ H QB:=by
 refine l _ (rj h λv d b f r e q=>?_)
 cases r<;>simp only[ag]at e<;>try cases e
 exact⟨_,rfl,q⟩
noncomputable def bH:D->Option Bool
 |.none=>some false
 |.bool b=>some b
 |.int i=>some (i != 0)
 |.str x=>if x.length<=sizeLine then some ((x.length:Int) != 0)else none
 |.list L=>some (!L.isEmpty)
 |.tuple L=>some (!L.isEmpty)
 |.dict _=>none
theorem Bs(h:tT K W (aG bH fa) σ H QB):tE K W fa σ H λx F=>∃k,Dl K x F k/\QB k F:=by
 refine rj h λv d b f r e q=>?_
 cases r with
 |non=>cases e;exact⟨_,rfl,q⟩
 |bl c=>cases e;exact⟨_,rfl,q⟩
 |int i=>cases e;exact⟨_,rfl,q⟩
 |str x=>
  simp only[bH]at e
  split at e
  .rename_i z;cases e;exact⟨_,⟨z,rfl⟩,q⟩
  .cases e
 |@lst p vs ds hq hl _=>
  cases e;exact⟨_,.inl ⟨vs,hq,by cases vs<;>cases ds<;>simp_all⟩,q⟩
 |@tup p vs ds hq hl _=>
  cases e;exact⟨_,.inr (.inl ⟨vs,hq,by cases vs<;>cases ds<;>simp_all⟩),q⟩
noncomputable def dw(a b:FB):FB:=λC=>(a C).bind λc N=>if c then b N else .ok false N
noncomputable def fF(a b:FB):FB:=λC=>(a C).bind λc N=>if c then .ok true N else b N
noncomputable def dv(a:FB):FB:=λC=>(a C).bind λc N=>.ok (!c) N
theorem Ik{k:Bool->Ev->Out Bool}{R:Bool->Hp->Prop}(h:tT K W (λC=>(ga C).bind k) σ H QB)(G:∀(L:Hp) (O:List Addr) I b H1 Fs1,Same H H1->EnvOk K L O Fs1 H1 σ I->WantsB K W L O Fs1 H1 σ QB (k b I)->R b H1):tT K W ga σ H R:=by
 obtain⟨L,O,t,C,E,h⟩:=h;have h:WantsB K W L O t H σ QB ((ga C).bind k):=h
 refine⟨L,O,t,C,E,?_⟩
 cases e:ga C with
 |ok b I=>rw[e]at h;exact λF U s j n=>G L O I b F U s j (WantsB.after (o:=k b I) h s n)
 |er c I=>rw[e]at h;exact h
 |no=>rw[e]at h;exact h
theorem WantsB.now{O:List Addr}{C:Ev}{b:Bool}(h:WantsB K W L O t H σ QB (.ok b C))(E:EnvOk K L O t H σ C):QB b H:=h H t (Same.refl _) E λ_ z=>.inl z
theorem yw(h:tT K W (dw ga gb) σ H QB):Em (tT K W ga) (tT K W gb) σ H QB:=by
 refine Ik h λL O I b f g s E w=>?_
 cases b with
 |true=>exact iK ⟨L,O,g,I,E,w⟩
 |false=>exact iL (WantsB.now w E)
theorem BM(h:tT K W (fF ga gb) σ H QB):K3 (tT K W ga) (tT K W gb) σ H QB:=by
 refine Ik h λL O I b f g s E w=>?_
 cases b with
 |false=>exact iL ⟨L,O,g,I,E,w⟩
 |true=>exact iK (WantsB.now w E)
theorem yv(h:tT K W (dv ga) σ H QB):Eh (tT K W ga) σ H QB:=Ik h λL O I b f g s E w=>WantsB.now w E
noncomputable def cV(L e:F1):F1:=aZ L λp C=>match p.d with
 |.bool true=>e C
 |.bool false=>.ok ⟨.leaf,.bool false⟩ C
 |_=>.no
noncomputable def wF(L e:F1):F1:=aZ L λp C=>match p.d with
 |.bool true=>.ok ⟨.leaf,.bool true⟩ C
 |.bool false=>e C
 |_=>.no
noncomputable def iq(L:F1):F1:=aZ L λp C=>match p.d with
 |.bool b=>.ok ⟨.leaf,.bool (!b)⟩ C
 |_=>.no
theorem BO(h:tE K W (cV fa fb) σ H Q):Ai (tE K W fa) (tE K W fb) σ H Q:=by
 refine uq h λL O t I p v f G g X A w=>?_
 have r:=A.own.rep
 obtain⟨s,d⟩:=p
 cases r with
 |bl b=>
  cases b with
  |true=>exact⟨true,rfl,iK ⟨L,O,g,I,A.go,Wants.after w A.same A.newF⟩⟩
  |false=>exact⟨false,rfl,iL (Wants.scal w (.bl false) A.same A.env (λa Z=>Mm _ Z) X A.newF)⟩
 |_=>exact w.elim
theorem EC(h:tE K W (wF fa fb) σ H Q):Ef (tE K W fa) (tE K W fb) σ H Q:=by
 refine uq h λL O t I p v f G g X A w=>?_
 have r:=A.own.rep
 obtain⟨s,d⟩:=p
 cases r with
 |bl b=>
  cases b with
  |false=>exact⟨false,rfl,iL ⟨L,O,g,I,A.go,Wants.after w A.same A.newF⟩⟩
  |true=>exact⟨true,rfl,iK (Wants.scal w (.bl true) A.same A.env (λa Z=>Mm _ Z) X A.newF)⟩
 |_=>exact w.elim
theorem BB(h:tE K W (iq fa) σ H Q):Ah (tE K W fa) σ H Q:=by
 refine uq h λL O t I p v f G g X A w=>?_
 have r:=A.own.rep
 obtain⟨s,d⟩:=p
 cases r with
 |bl b=>exact⟨b,rfl,Wants.scal w (.bl _) A.same A.env (λa Z=>Mm _ Z) X A.newF⟩
 |_=>exact w.elim
noncomputable def kJ(c:FB)(L e:F1):F1:=λC=>(c C).bind λb N=>if b then L N else e N
theorem ED(h:tE K W (kJ ga fa fb) σ H Q):K5 (tT K W ga) (tE K W fa) (tE K W fb) σ H Q:=by
 obtain⟨L,O,t,C,E,h⟩:=h;refine⟨L,O,t,C,E,?_⟩
 unfold kJ at h
 cases e:ga C with
 |ok b I=>
  rw[e]at h;intro F U s j n
  have Z:=Wants.after (o:=if b then fa I else fb I) h s n
  cases b with
  |true=>exact iK ⟨L,O,U,I,j,Z⟩
  |false=>exact iL ⟨L,O,U,I,j,Z⟩
 |er c I=>rw[e]at h;exact h
 |no=>rw[e]at h;exact h
noncomputable def gH(g B:D->D->Option D)(L e v:F1):F1:=aZ L λp=>aZ e λq=>λC=>match g p.d q.d with
 |some (.bool true)=>if bU q.d then(v C).bind λz N=>(match B q.d z.d with|some d=>.ok ⟨.leaf,d⟩ N|none=>.no)else .no
 |some (.bool false)=>.ok ⟨.leaf,.bool false⟩ C
 |_=>.no
theorem vi{r r':R2}{g B:D->D->Option D}(C:GOp K r g)(M:GOp K r' B)(h:tE K W (gH g B fa fb fc) σ H Q):uQ r r' (tE K W fa) (tE K W fb) (tE K W fc) σ H Q:=by
 refine AL h ?_
 intro L O t S p q v u f A o G2 l X n G E new o1 y w;have sub:∀a∈O,a∈G2++(o++O):=λa Z=>Mm _ (Mm _ Z)
 have newF:∀a∈l.flatten,a∈t.flatten\/H a=none:=λa Z=>new a (Mm _ (Mm _ Z))
 cases e:g p.d q.d with
 |none=>rw[e]at w;exact w.elim
 |some d=>
  rw[e]at w;refine C v u A _ p.d q.d d o1.rep y.rep e λz s=>?_
  cases s with
  |bl b=>
   cases b with
   |false=>exact⟨false,rfl,iL (Wants.scal w (.bl false) (n.trans G) E sub X newF)⟩
   |true=>
    refine⟨true,rfl,iK ?_⟩
    have w:Wants K W L O t H σ Q (if bU q.d then(fc S).bind λz N=>(match B q.d z.d with|some d=>.ok ⟨.leaf,d⟩ N|none=>.no)else .no):=w
    cases P:bU q.d with
    |false=>rw[P]at w;exact w.elim
    |true=>
     rw[P]at w;have w:Wants K W L O t H σ Q ((fc S).bind λz N=>(match B q.d z.d with|some d=>.ok ⟨.leaf,d⟩ N|none=>.no)):=w
     have su:=y.rep.sc P
     refine⟨L,O,l,S,E.drop sub X,?_⟩
     cases I:fc S with
     |ok Y J=>
      rw[I]at w;intro m H3 G3 k R;have w:Wants K W L O t H σ Q (match B q.d Y.d with|some d=>.ok ⟨.leaf,d⟩ J|none=>.no):=w
      cases e4:B q.d Y.d with
      |none=>rw[e4]at w;exact w.elim
      |some d4=>
       rw[e4]at w;exact M u m H3 Q q.d Y.d d4 su.rep R.own.rep e4 λz s=>Wants.scal w s ((n.trans G).trans R.same) R.env (λa Z=>Mm _ Z) X λa Z=>(R.new a (Mm _ Z)).elim (newF a) λz=>.inr ((n.trans G).free z)
     |er c J=>
      rw[I]at w;exact λF U s j=>w F U ((n.trans G).trans s) j
     |no=>rw[I]at w;exact w
  |non=>exact w.elim
  |int i=>exact w.elim
  |str x=>exact w.elim
end
structure AftL(K:Fg)(He:Hp)(O:List Addr)(Fs:List (List Addr))(H:Hp)(σ:St)(Γ':Ev)(ps:List PV)(vs:List V)(H':Hp)(Gs Fs':List (List Addr)):Prop where
 same:Same H H'
 len1:vs.length=ps.length
 len2:Gs.length=ps.length
 env:EnvOk K He (Gs.flatten++O) Fs' H' σ Γ'
 new:∀a∈Gs.flatten++Fs'.flatten,a∈Fs.flatten\/H a=none
 own:∀(i:Nat) v p G,vs[i]?=some v->ps[i]?=some p->Gs[i]?=some G->Own K (Gs.flatten++O++Fs'.flatten) H' p.s G v p.d
abbrev FL:=Ev->Out (List PV)
noncomputable def xa(K:Fg)(W:XW)(L:Hp)(O:List Addr)(t:List (List Addr))(H:Hp)(M:St)(Q:List V->Hp->Prop)(o:Out (List PV)):Prop:=match o with
 |.ok J N=>∀B F r U,AftL K L O t H M N J B F r U->Q B F
 |.er c N=>∀F U,Same H F->EnvOk K L O U F M N->W c M F
 |.no=>False
noncomputable def tA(K:Fg)(W:XW)(f:FL):TA:=λM H Q=>∃L O t C,EnvOk K L O t H M C/\xa K W L O t H M Q (f C)
noncomputable def af:FL:=λC=>.ok [] C
noncomputable def ae(L:F1)(d:FL):FL:=λC=>(L C).bind λp I=>(d I).bind λJ S=>.ok (p::J) S
section
variable{K:Fg}{W:XW}{σ:St}{H:Hp}{Q:VK}{QL:List V->Hp->Prop}{fa fb:F1}{fl:FL}
theorem BC(h:tA K W af σ H QL):d6 σ H QL:=by
 obtain⟨L,O,t,C,E,h⟩:=h;exact h [] H [] t ⟨Same.refl _,rfl,rfl,by simpa using E,λa Z=>.inl (by simpa using Z),λi v p G e=>by simp at e⟩
theorem oh{u:Type}(A B C:List u):(A++(B++C)).Perm (B++(A++C)):=by
 rw[<-append_assoc,<-append_assoc];exact List.Perm.append_right _ perm_append_comm
theorem EnvOk.perm{H:Hp}{O u:List Addr}{C:Ev}(E:EnvOk K L O t H σ C)(p:u.Perm O):EnvOk K L u t H σ C:=E.drop (λa Z=>p.mem_iff.mp Z) (p.nodup_iff.mpr E.ndO)
theorem Own.perm{H:Hp}{O u:List Addr}{s:Sh}{v:V}{d:D}(h:Own K O H s G v d)(p:∀a∈u,a∈O):Own K u H s G v d:=h.mono (Same.refl _) λa Z=>.inl (p a Z)
theorem yr(h:tA K W (ae fa fl) σ H QL):bz (tE K W fa) (tA K W fl) σ H QL:=by
 obtain⟨L,O,t,C,E,h⟩:=h;refine⟨L,O,t,C,E,?_⟩
 unfold ae at h
 cases e:fa C with
 |ok p I=>
  rw[e]at h;intro v f o g j;refine⟨L,o++O,g,I,j.env,?_⟩
  have h:xa K W L O t H σ QL ((fl I).bind λJ S=>.ok (p::J) S):=h
  cases R:fl I with
  |ok J S=>
   rw[R]at h;intro B A r l b;have X:((o::r).flatten++O).Perm (r.flatten++(o++O)):=by
    rw[flatten_cons,append_assoc];exact oh _ _ _
   refine h (v::B) A (o::r) l ⟨j.same.trans b.same,by simp[b.len1],by simp[b.len2],b.env.perm X,λa Z=>?_,λi u q G Y M P=>?_⟩
   .rcases Mo Z with z|z
    .rw[flatten_cons]at z
     rcases Mo z with z|z
     .exact j.new a (Mn _ z)
     .exact(b.new a (Mn _ z)).elim (λy=>j.new a (Mm _ y)) λy=>.inr (j.same.free y)
    .exact(b.new a (Mm _ z)).elim (λy=>j.new a (Mm _ y)) λy=>.inr (j.same.free y)
   .have d:∀a∈(o::r).flatten++O++l.flatten,a∈r.flatten++(o++O)++l.flatten:=λa Z=>by
     rcases Mo Z with z|z
     .exact Mn _ (X.mem_iff.mp z)
     .exact Mm _ z
    cases i with
    |zero=>
     simp at Y M P
     subst Y M P;refine(j.own.mono b.same λa Z=>?_).perm d
     rcases Mo Z with z|z
     .rcases Mo z with z|z
      .exact(b.new a (Mn _ z)).elim (λy=>.inl (Mm _ y)) .inr
      .exact .inl (Mn _ z)
     .exact(b.new a (Mm _ z)).elim (λy=>.inl (Mm _ y)) .inr
    |succ i=>
     simp at Y M P
     exact(b.own i u q G Y M P).perm d
  |er c S=>
   rw[R]at h;exact λA l s w=>h A l (j.same.trans s) w.dropL
  |no=>rw[R]at h;exact h
 |er c I=>rw[e]at h;exact h
 |no=>rw[e]at h;exact h
theorem AftL.reps{O:List Addr}{r:List (List Addr)}{N:Ev}{J:List PV}{F:Hp}(A:AftL K L O t H σ N J B F r U):Reps K F B (J.map (·.d)):=by
 refine⟨by rw[length_map];exact A.len1,λi v d Y M=>?_⟩
 rw[getElem?_map]at M
 cases e:J[i]? with
 |none=>rw[e]at M;cases M
 |some p=>
  rw[e]at M
  cases M;have l:=(Mv e).1
  exact(A.own i v p (r[i]'(by rw[A.len2];exact l)) Y e (Mq _)).rep
noncomputable def bp(g:List D->Option D)(a:FL):F1:=λC=>(a C).bind λJ N=>match g (J.map (·.d))with
 |some d=>.ok ⟨.leaf,d⟩ N
 |none=>.no
noncomputable def GCall(K:Fg)(r:List V->Hp->VK->Prop)(g:List D->Option D):Prop:=∀B H Q X d,Reps K H B X->g X=some d->(∀v,Sc v d->Q v H)->r B H Q
theorem Am{r:List V->Hp->VK->Prop}{g:List D->Option D}(b:GCall K r g)(h:tE K W (bp g fl) σ H Q):Ba r (tA K W fl) σ H Q:=by
 obtain⟨L,O,t,C,E,h⟩:=h;refine⟨L,O,t,C,E,?_⟩
 unfold bp at h
 cases e:fl C with
 |ok J N=>
  rw[e]at h;intro B F f U A
  have h:Wants K W L O t H σ Q (match g (J.map (·.d))with|some d=>.ok ⟨.leaf,d⟩ N|none=>.no):=h
  cases R:g (J.map (·.d))with
  |none=>rw[R]at h;exact h.elim
  |some d=>
   rw[R]at h;exact b B F Q _ d A.reps R λv s=>Wants.scal h s A.same A.env (λa Z=>Mm _ Z) E.ndO λa Z=>A.new a (Mm _ Z)
 |er c N=>rw[e]at h;exact h
 |no=>rw[e]at h;exact h
theorem GCall.or{r r':List V->Hp->VK->Prop}{g g':List D->Option D}(h:GCall K r g)(Z:GCall K r' g'):GCall K (λL H Q=>r L H Q\/r' L H Q) (λX=>(g X).or (g' X)):=by
 intro B H Q X d o e k;have e:(g X).or (g' X)=some d:=e
 cases N:g X with
 |some z=>rw[N]at e;cases e;exact .inl (h B H Q X _ o N k)
 |none=>rw[N]at e;exact .inr (Z B H Q X d o (by simpa using e) k)
theorem Reps.one{d:D}(h:Reps K H B [d]):∃v,B=[v]/\Rep K H v d:=by
 obtain⟨S,h⟩:=h;match B,S with
 |[v],_=>exact⟨v,rfl,h 0 v d rfl rfl⟩
theorem Reps.two{d e:D}(h:Reps K H B [d,e]):∃v u,B=[v,u]/\Rep K H v d/\Rep K H u e:=by
 obtain⟨S,h⟩:=h;match B,S with
 |[v,u],_=>exact⟨v,u,rfl,h 0 v d rfl rfl,h 1 u e rfl rfl⟩
end
noncomputable def Az:List D->Option D
 |[.list xs]=>some (.int xs.length)
 |[.tuple xs]=>some (.int xs.length)
 |_=>none
noncomputable def wu:List D->Option D
 |[.str x]=>if x.length<=sizeLine then some (.int x.length)else none
 |_=>none
noncomputable abbrev aK:List D->Option D:=λX=>(Az X).or (wu X)
theorem CU:GCall K (λL H Q=>(∃p R,L=[.ref p]/\(SqL K H p R\/SqT K H p R)/\Q (.int R.length) H)\/∃z,L=[.str z]/\z.length<=sizeLine/\Q (.int z.length) H) aK:=by
 refine GCall.or (g:=Az) (g':=wu) (r:=λL H Q=>∃p R,L=[.ref p]/\(SqL K H p R\/SqT K H p R)/\Q (.int R.length) H) (r':=λL H Q=>∃z,L=[.str z]/\z.length<=sizeLine/\Q (.int z.length) H) ?_ ?_
 .intro B H Q X d o e k
  match X,e with
  |[.list L],e=>
   obtain⟨v,rfl,r⟩:=o.one
   cases e
   cases r with
   |@lst p us _ hq hl _=>exact⟨p,us,rfl,.inl hq,by rw[hl];exact k _ (.int _)⟩
  |[.tuple L],e=>
   obtain⟨v,rfl,r⟩:=o.one
   cases e
   cases r with
   |@tup p us _ hq hl _=>exact⟨p,us,rfl,.inr hq,by rw[hl];exact k _ (.int _)⟩
 .intro B H Q X d o e k
  match X,e with
  |[.str x],e=>
   obtain⟨v,rfl,r⟩:=o.one;simp only[wu]at e
   split at e
   .rename_i z
    cases e
    cases r;exact⟨x,rfl,z,k _ (.int _)⟩
   .cases e
noncomputable def qB:List D->Option D
 |[.int i]=>some (.int i)
 |[.bool b]=>some (.int (if b then 1 else 0))
 |_=>none
theorem CV:GCall K (λL H Q=>(∃i,L=[.int i]/\Q (.int i) H)\/∃k,L=[.bl k]/\Q (.int (if k then 1 else 0)) H) qB:=by
 intro B H Q X d o e k;match X,e with
 |[.int i],e=>
  obtain⟨v,rfl,r⟩:=o.one
  cases e;cases r;exact .inl ⟨i,rfl,k _ (.int _)⟩
 |[.bool b],e=>
  obtain⟨v,rfl,r⟩:=o.one
  cases e;cases r;exact .inr ⟨b,rfl,k _ (.int _)⟩
noncomputable def L0:List D->Option D
 |[.int i,.int j]=>some (.int (if j>i then j else i))
 |_=>none
noncomputable def cN:List D->Option (List Bool)
 |[]=>some []
 |.bool b::r=>(cN r).map (b :: ·)
 |_=>none
theorem ke:∀{X:List D}{bs:List Bool},cN X=some bs->X=bs.map PyData.bool
 |[],bs,h=>by cases h;rfl
 |.bool b::r,bs,h=>by
  simp only[cN]at h
  cases e:cN r with
  |none=>rw[e]at h;cases h
  |some I=>rw[e]at h;cases h;rw[ke e];rfl
 |.none::_,_,h=>by cases h
 |.int _::_,_,h=>by cases h
 |.str _::_,_,h=>by cases h
 |.list _::_,_,h=>by cases h
 |.tuple _::_,_,h=>by cases h
 |.dict _::_,_,h=>by cases h
noncomputable def cU(any:Bool):List D->Option D
 |[.list xs]=>(cN xs).map λbs=>.bool (if any then bs.any id else bs.all id)
 |_=>none
theorem jH{K:Fg}{H:Hp}:∀{vs:List V}{bs:List Bool},Reps K H vs (bs.map PyData.bool)->vs=bs.map V.bl
 |[],[],_=>rfl
 |v::vs,b::bs,⟨hl,h⟩=>by
  have r:=h 0 v (.bool b) rfl rfl
  cases r;rw[jH (bs:=bs) (vs:=vs) ⟨by simpa using hl,λi v d Y M=>h (i+1) v d (by simpa using Y) (by simpa using M)⟩]
  rfl
 |[],_::_,⟨hl,_⟩=>by simp at hl
 |_::_,[],⟨hl,_⟩=>by simp at hl
noncomputable def BX(K:Fg)(any:Bool):List V->Hp->VK->Prop:=λL H Q=>∃(p:Addr)(bs:List Bool),L=[.ref p]/\SqL K H p (bs.map V.bl)/\Q (.bl (if any then bs.any id else bs.all id)) H
theorem wt{any:Bool}:GCall K (BX K any) (cU any):=by
 intro B H Q X d o e k;match X,e with
 |[.list xs],e=>
  obtain⟨v,rfl,r⟩:=o.one;simp only[cU]at e
  cases N:cN xs with
  |none=>rw[N]at e;cases e
  |some bs=>
   rw[N]at e
   cases e;have:=ke N
   subst this
   cases r with
   |@lst p us _ hq hl hr=>
    have:=jH ⟨hl,hr⟩
    subst this;exact⟨p,bs,rfl,hq,k _ (.bl _)⟩
section
variable{X:Cx}
theorem lO:∀{g:List Value},Vals (bs.map V.bl) g->g=bs.map Value.bool:=by
 induction bs with
 |nil=>intro g h;cases h;rfl
 |cons b bs B=>
  intro g h
  cases h with
  |cons r t=>
   cases(show _=Value.bool b from r)
   rw[B t];rfl
theorem sV(bs:List Bool):(List.range bs.length).all (λi=>bs.getD i false)=bs.all id:=by
 rw[Bool.eq_iff_iff,all_eq_true,all_eq_true];constructor
 .intro h b U
  obtain⟨i,l,e⟩:=List.mem_iff_getElem.mp U;have:=h i (List.mem_range.mpr l)
  rw[Mr,Mq l]at this;rw[<-e];simpa using this
 .intro h i l
  have l:=List.mem_range.mp l
  rw[Mr,Mq l];exact h _ (getElem_mem l)
theorem sU(bs:List Bool):(List.range bs.length).any (λi=>bs.getD i false)=bs.any id:=by
 rw[Bool.eq_iff_iff,any_eq_true,any_eq_true];constructor
 .rintro⟨i,l,h⟩
  have l:=List.mem_range.mp l
  rw[Mr,Mq l]at h;exact⟨_,getElem_mem l,h⟩
 .rintro⟨b,U,h⟩
  obtain⟨i,l,e⟩:=List.mem_iff_getElem.mp U;refine⟨i,List.mem_range.mpr l,?_⟩
  rw[Mr,Mq l,e];exact h
theorem iT{c:Program}{w:World}{A:Around}:TruthOf c w A (λi v=>(bs.map Value.bool).toArray[i]?=some v) (λi=>bs.getD i false):=by
 intro i v s Q E y k;simp only[getElem?_toArray,getElem?_map]at y
 cases e:bs[i]? with
 |none=>rw[e]at y;cases y
 |some b=>
  rw[e]at y
  cases y;have k:Q (bs.getD i false) s:=k
  rw[Mr,e]at k;exact wpAny_truthy_bool k
theorem uc(J:X.calm=true):CallR X (.builtin "all") (BX X.K false):=by
 intro B s M H d a Q I c h;obtain⟨p,bs,rfl,Y,q⟩:=h;obtain⟨u,rfl,N⟩:=vals1 c
 cases N;obtain⟨g,c,pl,U⟩:=I.list Y;have:=lO c
 subst this;have y:=I.ok.hd J
 refine call_all_walk (wpAny_pyIter_list pl.isList ?_)
 have ne:p≠s.heap.objs.size:=by
  obtain⟨o,n,e,_⟩:=pl;exact Nat.ne_of_lt (Heap.lt_size e)
 refine⟨s.heap.objs.size,_,_,_,_,_,λi=>bs.getD i false,rfl,Walks.list (prog:=X.prog) (w:=X.w) (A:=X.A.in1) y s.heap.objs.size p ne (bs.map Value.bool).toArray,⟨⟨_,Heap.get?_push_size _ rfl,rfl,rfl⟩,pl.isList.at λo e=>My _ e⟩,iT,λh' j G=>?_⟩
 refine⟨.bl _,H,I.kept (h':=h') (t':=j) λb o e=>G b o (λz=>?_) (My _ e),rfl,?_⟩
 .have z:b=s.heap.objs.size:=by simpa using z
  exact absurd (Heap.lt_size e) (by rw[z];exact Nat.lt_irrefl _)
 .rw[size_toArray,length_map,sV]
  exact q
theorem ub(J:X.calm=true):CallR X (.builtin "any") (BX X.K true):=by
 intro B s M H d a Q I c h;obtain⟨p,bs,rfl,Y,q⟩:=h;obtain⟨u,rfl,N⟩:=vals1 c
 cases N;obtain⟨g,c,pl,U⟩:=I.list Y;have:=lO c
 subst this;have y:=I.ok.hd J
 refine call_any_walk (wpAny_pyIter_list pl.isList ?_)
 have ne:p≠s.heap.objs.size:=by
  obtain⟨o,n,e,_⟩:=pl;exact Nat.ne_of_lt (Heap.lt_size e)
 refine⟨s.heap.objs.size,_,_,_,_,_,λi=>bs.getD i false,rfl,Walks.list (prog:=X.prog) (w:=X.w) (A:=X.A.in1) y s.heap.objs.size p ne (bs.map Value.bool).toArray,⟨⟨_,Heap.get?_push_size _ rfl,rfl,rfl⟩,pl.isList.at λo e=>My _ e⟩,iT,λh' j G=>?_⟩
 refine⟨.bl _,H,I.kept (h':=h') (t':=j) λb o e=>G b o (λz=>?_) (My _ e),rfl,?_⟩
 .have z:b=s.heap.objs.size:=by simpa using z
  exact absurd (Heap.lt_size e) (by rw[z];exact Nat.lt_irrefl _)
 .rw[size_toArray,length_map,sU]
  exact q
end
noncomputable def cx(s:Sh)(j:Nat)(d:D):Option Sh:=match s with
 |.leaf=>some .leaf
 |.view=>some (if bU d then .leaf else .view)
 |.lst s=>some s
 |.tup u=>u[j]?
noncomputable def ah(L e:F1):F1:=aZ L λp=>aZ e λq=>λC=>match q.d with
 |.int i=>(match p.d with
  |.list X=>(match fQ X.length i with
   |some j=>(match X[j]? with
    |some d=>(match cx p.s j d with
     |some s=>.ok ⟨s,d⟩ C
     |none=>.no)
    |none=>.no)
   |none=>.no)
  |.tuple X=>(match fQ X.length i with
   |some j=>(match X[j]? with
    |some d=>(match cx p.s j d with
     |some s=>.ok ⟨s,d⟩ C
     |none=>.no)
    |none=>.no)
   |none=>.no)
  |.str z=>if z.length<=sizeLine then(match fy z.cps.toList i with
   |some c=>.ok ⟨.leaf,.str ⟨#[c]⟩⟩ C
   |none=>.no)else .no
  |_=>.no)
 |_=>.no
theorem Own.item{O:List Addr}{H:Hp}{s N:Sh}{p:Addr}{X:List D}{j:Nat}{d:D}(h:Own K O H s G (.ref p) (.list X))(y:X[j]?=some d)(P:cx s j d=some N):∃B v x,SqL K H p B/\B.length=X.length/\B[j]?=some v/\(∀a∈x,a∈G)/\x.Nodup/\Own K O H N x v d:=by
 have l:=(Mv y).1
 cases h with
 |view r=>
  cases r with
  |@lst _ B _ hq hl hr=>
   have f:B[j]?=some (B[j]'(by omega)):=Mq _
   have w:=hr j _ d f y
   simp only[cx,Option.some.injEq]at P
   cases e:bU d with
   |true=>
    rw[e]at P
    cases P;exact⟨B,_,[],hq,hl,f,(λ_ z=>nomatch z),nodup_nil,.leaf (w.sc e).rep⟩
   |false=>
    rw[e]at P
    cases P;exact⟨B,_,[],hq,hl,f,(λ_ z=>nomatch z),nodup_nil,.view w⟩
 |leaf r=>
  cases r with
  |@lst _ B _ hq hl hr=>
   have f:B[j]?=some (B[j]'(by omega)):=Mq _
   cases P;exact⟨B,_,[],hid_le.seq hq,hl,f,(λ_ z=>nomatch z),nodup_nil,.leaf (hr j _ d f y)⟩
 |@lst s₀ _ B _ Fs f hp hl hf nd hr=>
  have b:B[j]?=some (B[j]'(by omega)):=Mq _
  have c:Fs[j]?=some (Fs[j]'(by omega)):=Mq _
  cases P;refine⟨B,_,_,.of hp,hl,b,λa Z=>Ms _ (pG c Z),?_,hr j _ d _ b y c⟩
  exact((List.nodup_cons.mp nd).2).sublist (List.sublist_flatten_of_mem (mem_of_getElem? c))
theorem Own.itemT{O:List Addr}{H:Hp}{s N:Sh}{p:Addr}{X:List D}{j:Nat}{d:D}(h:Own K O H s G (.ref p) (.tuple X))(y:X[j]?=some d)(P:cx s j d=some N):∃B v x,SqT K H p B/\B.length=X.length/\B[j]?=some v/\(∀a∈x,a∈G)/\x.Nodup/\Own K O H N x v d:=by
 have l:=(Mv y).1
 cases h with
 |view r=>
  cases r with
  |@tup _ B _ hq hl hr=>
   have f:B[j]?=some (B[j]'(by omega)):=Mq _
   have w:=hr j _ d f y
   simp only[cx,Option.some.injEq]at P
   cases e:bU d with
   |true=>
    rw[e]at P
    cases P;exact⟨B,_,[],hq,hl,f,(λ_ z=>nomatch z),nodup_nil,.leaf (w.sc e).rep⟩
   |false=>
    rw[e]at P
    cases P;exact⟨B,_,[],hq,hl,f,(λ_ z=>nomatch z),nodup_nil,.view w⟩
 |leaf r=>
  cases r with
  |@tup _ B _ hq hl hr=>
   have f:B[j]?=some (B[j]'(by omega)):=Mq _
   cases P;exact⟨B,_,[],eN hid_le hq,hl,f,(λ_ z=>nomatch z),nodup_nil,.leaf (hr j _ d f y)⟩
 |@tup ss _ B _ Fs f hp hn hl hf hl2 nd hr=>
  have b:B[j]?=some (B[j]'(by omega)):=Mq _
  have c:Fs[j]?=some (Fs[j]'(by omega)):=Mq _
  have P:ss[j]?=some N:=P
  refine⟨B,_,_,.of hp,hl,b,λa Z=>pG c Z,?_,hr j _ d _ _ b y c P⟩
  exact nd.sublist (List.sublist_flatten_of_mem (mem_of_getElem? c))
theorem Wants.part{W:XW}{H A:Hp}{O x:List Addr}{N:Ev}{Q:VK}{s:Sh}{v:V}{d:D}(h:Wants K W L O t H M Q (.ok ⟨s,d⟩ N))(e:Same H A)(E:EnvOk K L (G++O) l A M N)(r:∀a∈x,a∈G)(X:x.Nodup)(new:∀a∈G++l.flatten,a∈t.flatten\/H a=none)(o:Own K (G++O++l.flatten) A s x v d):Q v A:=by
 have c:∀a∈x++O,a∈G++O:=λa Z=>by
  rcases Mo Z with z|z
  .exact Mn _ (r a z)
  .exact Mm _ z
 obtain⟨f,g,m⟩:=Mt E.ndO;refine h v A x l ⟨e,E.drop c (List.nodup_append.mpr ⟨X,g,λa Z b U=>m a (r a Z) b U⟩),λa Z=>new a ?_,o.perm λa Z=>?_⟩
 .rcases Mo Z with z|z
  .exact Mn _ (r a z)
  .exact Mm _ z
 .rcases Mo Z with z|z
  .exact Mn _ (c a z)
  .exact Mm _ z
theorem wZ{u E:Type}{L:List u}{R:List E}{i:Int}{j:Nat}{v:u}(S:L.length=R.length)(h:fQ R.length i=some j)(f:L[j]?=some v):fy L i=some v:=by
 unfold fy;rw[S,h];exact f
section
variable{K:Fg}{W:XW}{σ:St}{H:Hp}{Q:VK}{fa fb:F1}
theorem BG(h:tE K W (ah fa fb) σ H Q):m8 (xl K) (tE K W fa) (tE K W fb) σ H Q:=by
 refine AL h ?_
 intro L O t S p q v u f A o r l nd n G E new e y w;obtain⟨J,pd⟩:=p;obtain⟨qs,qd⟩:=q;have ri:=y.rep
 cases qd<;>try exact w.elim
 rename_i i
 cases ri;have E':EnvOk K L ((r++o)++O) l A σ S:=by rw[append_assoc];exact E
 have new':∀a∈(r++o)++l.flatten,a∈t.flatten\/H a=none:=λa Z=>new a (by rw[<-append_assoc];exact Z)
 have o1':Own K ((r++o)++O++l.flatten) A J o v pd:=e.perm λa Z=>by rw[append_assoc r]at Z;exact Z
 have g:=e.rep
 cases pd with
 |list X=>
  obtain⟨F,rfl⟩:∃F,v=.ref F:=by cases g;exact⟨_,rfl⟩
  have w:Wants K W L O t H σ Q (match fQ X.length i with|some j=>(match X[j]? with|some d=>(match cx J j d with|some s=>.ok ⟨s,d⟩ S|none=>.no)|none=>.no)|none=>.no):=w
  cases N:fQ X.length i with
  |none=>rw[N]at w;exact w.elim
  |some j=>
   rw[N]at w;have w:Wants K W L O t H σ Q (match X[j]? with|some d=>(match cx J j d with|some s=>.ok ⟨s,d⟩ S|none=>.no)|none=>.no):=w
   cases R:X[j]? with
   |none=>rw[R]at w;exact w.elim
   |some d=>
    rw[R]at w;have w:Wants K W L O t H σ Q (match cx J j d with|some s=>.ok ⟨s,d⟩ S|none=>.no):=w
    cases I:cx J j d with
    |none=>rw[I]at w;exact w.elim
    |some s=>
     rw[I]at w;obtain⟨B,v',x,Y,M,P,m,C,h6⟩:=o1'.item R I
     exact .inl ⟨F,B,i,v',rfl,rfl,Y,wZ M N P,Wants.part w (n.trans G) E' (λa Z=>Mm _ (m a Z)) C new' h6⟩
 |tuple X=>
  obtain⟨F,rfl⟩:∃F,v=.ref F:=by cases g;exact⟨_,rfl⟩
  have w:Wants K W L O t H σ Q (match fQ X.length i with|some j=>(match X[j]? with|some d=>(match cx J j d with|some s=>.ok ⟨s,d⟩ S|none=>.no)|none=>.no)|none=>.no):=w
  cases N:fQ X.length i with
  |none=>rw[N]at w;exact w.elim
  |some j=>
   rw[N]at w;have w:Wants K W L O t H σ Q (match X[j]? with|some d=>(match cx J j d with|some s=>.ok ⟨s,d⟩ S|none=>.no)|none=>.no):=w
   cases R:X[j]? with
   |none=>rw[R]at w;exact w.elim
   |some d=>
    rw[R]at w;have w:Wants K W L O t H σ Q (match cx J j d with|some s=>.ok ⟨s,d⟩ S|none=>.no):=w
    cases I:cx J j d with
    |none=>rw[I]at w;exact w.elim
    |some s=>
     rw[I]at w;obtain⟨B,v',x,Y,M,P,m,C,h6⟩:=o1'.itemT R I
     exact .inr (.inl ⟨F,B,i,v',rfl,rfl,Y,wZ M N P,Wants.part w (n.trans G) E' (λa Z=>Mm _ (m a Z)) C new' h6⟩)
 |str z=>
  cases g;have w:Wants K W L O t H σ Q (if z.length<=sizeLine then(match fy z.cps.toList i with|some c=>.ok ⟨.leaf,.str ⟨#[c]⟩⟩ S|none=>.no)else .no):=w
  by_cases U:z.length<=sizeLine
  .rw[if_pos U]at w
   cases N:fy z.cps.toList i with
   |none=>rw[N]at w;exact w.elim
   |some c=>
    rw[N]at w;exact .inr (.inr ⟨z,i,c,rfl,rfl,U,N,Wants.scal w (.str _) (n.trans G) E (λa Z=>Mm _ (Mm _ Z)) nd λa Z=>new a (Mm _ (Mm _ Z))⟩)
  .rw[if_neg U]at w
   exact w.elim
 |none=>exact w.elim
 |bool b=>exact w.elim
 |int k=>exact w.elim
 |dict k=>exact w.elim
end
theorem oN(s:Sh):∀r:List (List Addr),((r.map (bb s)).flatten).Sublist r.flatten
 |[]=>List.Sublist.refl _
 |G::r=>by
  simp only[map_cons,flatten_cons]
  refine List.Sublist.append ?_ (oN s r)
  unfold bb;split
  .exact List.nil_sublist _
  .exact List.Sublist.refl _
theorem lA:∀r:List (List Addr),(r.map (bb .leaf)).flatten=[]
 |[]=>rfl
 |_::r=>by simp only[map_cons,flatten_cons,lA r];rfl
section
variable{K:Fg}{W:XW}{σ:St}{He H H':Hp}{O:List Addr}{Fs Fs' Gs:List (List Addr)}{Γ':Ev}{ps:List PV}{vs:List V}{Q:VK}
theorem AftL.newList{s:Sh}{p:Addr}(A:AftL K He O Fs H σ Γ' ps vs H' Gs Fs')(P:s.isView=false)(J:ps.all (T.coer s)=true)(C:H' p=none):Aft K He O Fs H σ Γ' ⟨.lst s,.list (ps.map (·.d))⟩ (.ref p) (upd H' p (.lst vs)) (p::(Gs.map (bb s)).flatten) Fs':=by
 obtain⟨r,g,m⟩:=Mt A.env.ndO;obtain⟨t,x,X⟩:=Mt A.env.nd;have f:=oN s Gs
 have n:EnvOk K He ((Gs.map (bb s)).flatten++O) Fs' H' σ Γ':=A.env.drop (λa Z=>by
   rcases Mo Z with z|z
   .exact Mn _ (f.subset z)
   .exact Mm _ z) (List.nodup_append.mpr ⟨r.sublist f,g,λa Z b U=>m a (f.subset Z) b U⟩)
 have w:=n.hide (G:=[p]) (jt (o:=.lst vs) C) (by simp) (λa Z=>by simp at Z;rw[Z];exact C) (λa Z=>by simp at Z;rw[Z,eV];exact Option.some_ne_none _)
 have h:∀{a},a∈Gs.flatten++O++Fs'.flatten->a≠p:=λ{a} Z z=>A.env.inH a Z (by rw[z];exact C)
 refine⟨A.same.trans (jt C),w,λa Z=>?_,?_⟩
 .rcases Mo Z with z|z
  .rcases Mp z with z|z
   .rw[z];exact .inr (A.same.free C)
   .exact A.new a (Mn _ (f.subset z))
  .exact A.new a (Mm _ z)
 .refine .lst P eV (by rw[length_map];exact A.len1) (by rw[length_map,length_map];exact A.len2) ?_ λi v d F Y M l=>?_
  .refine List.nodup_cons.mpr ⟨λz=>h (Mn _ (Mn _ (f.subset z))) rfl,r.sublist f⟩
  .rw[getElem?_map]at M l
   cases R:ps[i]? with
   |none=>rw[R]at M;cases M
   |some q=>
    cases I:Gs[i]? with
    |none=>rw[I]at l;cases l
    |some G=>
     rw[R]at M;rw[I]at l
     cases M
     cases l;have c:T.coer s q=true:=List.all_eq_true.mp J q (mem_of_getElem? R)
     have e:=(A.own i v q G Y R I).mono (O':=p::(Gs.flatten++O++Fs'.flatten)) (jt (o:=.lst vs) C) λa Z=>by
      rcases Mp Z with z|z
      .rw[z];exact .inr C
      .exact .inl z
     refine e.coer c (λa Z=>?_) λa Z j=>?_
     .rw[append_assoc]at Z
      rcases Mo Z with z|z
      .rcases Mp z with z|z
       .rw[z];exact mem_cons_self
       .exact Ms _ (Mn _ (Mn _ (f.subset z)))
      .rcases Mo z with z|z
       .exact Ms _ (Mn _ (Mm _ z))
       .exact Ms _ (Mm _ z)
     .have k:a∈Gs.flatten:=pG I Z
      cases s with
      |leaf=>
       rw[lA]at j;exfalso
       rw[append_assoc]at j;rcases Mo j with z|z
       .have z:a=p:=by simpa using z
        exact h (Mn _ (Mn _ k)) z
       .rcases Mo z with z|z
        .exact m a k a z rfl
        .exact X a (Mn _ k) a z rfl
      |view=>cases P
      |lst s=>exact Z
      |tup u=>exact Z
noncomputable def aY(s:Sh)(d:FL):F1:=λC=>(d C).bind λps Γ'=>if !s.isView&&ps.all (T.coer s)&&decide (ps.length<=sizeLine)then .ok ⟨.lst s,.list (ps.map (·.d))⟩ Γ' else .no
theorem ym{s:Sh}{d:FL}(h:tE K W (aY s d) σ H Q):Ej (tA K W d) σ H Q:=by
 obtain⟨He,O,Fs,C,E,h⟩:=h;refine⟨He,O,Fs,C,E,?_⟩
 unfold aY at h
 cases e:d C with
 |ok ps Γ'=>
  rw[e]at h;intro vs H' Gs Fs' A
  have h:Wants K W He O Fs H σ Q (if(!s.isView&&ps.all (T.coer s)&&decide (ps.length<=sizeLine))=true then .ok ⟨.lst s,.list (ps.map (·.d))⟩ Γ' else .no):=h
  by_cases J:(!s.isView&&ps.all (T.coer s)&&decide (ps.length<=sizeLine))=true
  .rw[if_pos J]at h
   simp only[Bool.and_eq_true,decide_eq_true_eq,Bool.not_eq_true']at J
   exact⟨by rw[A.len1];exact J.2,λp a=>h _ _ _ _ (A.newList J.1.1 J.1.2 a)⟩
  .rw[if_neg J]at h
   exact h.elim
 |er c Γ'=>rw[e]at h;exact h
 |no=>rw[e]at h;exact h
noncomputable def Ag(p:PV):Sh:=if p.s.isView then .leaf else p.s
noncomputable def tok(p:PV):Bool:=!p.s.isView||bU p.d
theorem AftL.newTup{p:Addr}(A:AftL K He O Fs H σ Γ' ps vs H' Gs Fs')(J:ps.all tok=true)(C:H' p=none):Aft K He O Fs H σ Γ' ⟨.tup (ps.map Ag),.tuple (ps.map (·.d))⟩ (.ref p) (upd H' p (.tup vs)) Gs.flatten Fs':=by
 obtain⟨j,g,k⟩:=Mt A.env.ndO;have h:p∉Gs.flatten++O++Fs'.flatten:=λZ=>A.env.inH p Z C
 refine⟨A.same.trans (jt C),A.env.grow (jt C),A.new,?_⟩
 refine .tup (λs P=>?_) eV h (by rw[length_map];exact A.len1) (by rw[length_map];exact A.len2) (by rw[length_map,length_map]) j λi v d F s Y M b m=>?_
 .obtain⟨q,_,rfl⟩:=List.mem_map.mp P
  unfold Ag;split
  .rfl
  .rename_i z;simpa using z
 .rw[getElem?_map]at M m
  cases R:ps[i]? with
  |none=>rw[R]at M;cases M
  |some q=>
   rw[R]at M m
   cases M
   cases m;have c:tok q=true:=List.all_eq_true.mp J q (mem_of_getElem? R)
   have e:=(A.own i v q F Y R b).mono (O':=Gs.flatten++O++Fs'.flatten) (jt (o:=.tup vs) C) λa Z=>.inl Z
   unfold Ag
   cases f:q.s.isView with
   |false=>exact e
   |true=>
    unfold tok at c;rw[f]at c;obtain⟨s,d⟩:=q
    cases s with
    |view=>
     cases e with
     |view r=>exact .leaf (r.sc (by simpa using c)).rep
    |_=>cases f
noncomputable def b4(d:FL):F1:=λC=>(d C).bind λps Γ'=>if ps.all tok&&decide (ps.length<=sizeLine)then .ok ⟨.tup (ps.map Ag),.tuple (ps.map (·.d))⟩ Γ' else .no
theorem Br{d:FL}(h:tE K W (b4 d) σ H Q):uN (tA K W d) σ H Q:=by
 obtain⟨He,O,Fs,C,E,h⟩:=h;refine⟨He,O,Fs,C,E,?_⟩
 unfold b4 at h
 cases e:d C with
 |ok ps Γ'=>
  rw[e]at h;intro vs H' Gs Fs' A
  have h:Wants K W He O Fs H σ Q (if(ps.all tok&&decide (ps.length<=sizeLine))=true then .ok ⟨.tup (ps.map Ag),.tuple (ps.map (·.d))⟩ Γ' else .no):=h
  by_cases J:(ps.all tok&&decide (ps.length<=sizeLine))=true
  .rw[if_pos J]at h
   simp only[Bool.and_eq_true,decide_eq_true_eq]at J
   exact⟨by rw[A.len1];exact J.2,λp a=>h _ _ _ _ (A.newTup J.1 a)⟩
  .rw[if_neg J]at h
   exact h.elim
 |er c Γ'=>rw[e]at h;exact h
 |no=>rw[e]at h;exact h
end
noncomputable def aF(p:PV)(X:List D):Bool:=!p.s.isView||X.all bU
theorem Own.items{O:List Addr}{H:Hp}{s:Sh}{v:V}{X:List D}(h:Own K O H s G v (.list X))(J:aF ⟨s,.list X⟩ X=true)(Y:∀a∈O',a∈O)(M:∀a∈G,a∉O'):∃p B,v=.ref p/\SqL K H p B/\(s.isView=false->SqL K (bZ H O') p B)/\Reps K (bZ H O') B X:=by
 have m:=h.rep
 cases f:s.isView with
 |false=>
  have r:=h.freeze f Y M
  cases r with
  |@lst p B _ hq hl m=>exact⟨p,B,rfl,hid_le.seq hq,λ_=>hq,hl,m⟩
 |true=>
  unfold aF at J;have J:X.all bU=true:=by simpa[f]using J
  cases m with
  |@lst p B _ hq hl m=>exact⟨p,B,rfl,hq,nofun,hl,λi v d N R=>((m i v d N R).sc (List.all_eq_true.mp J d (mem_of_getElem? R))).rep⟩
theorem Own.itemsT{O:List Addr}{H:Hp}{s:Sh}{v:V}{X:List D}(h:Own K O H s G v (.tuple X))(J:aF ⟨s,.tuple X⟩ X=true)(Y:∀a∈O',a∈O)(M:∀a∈G,a∉O'):∃p B,v=.ref p/\SqT K H p B/\(s.isView=false->SqT K (bZ H O') p B)/\Reps K (bZ H O') B X:=by
 have m:=h.rep
 cases f:s.isView with
 |false=>
  have r:=h.freeze f Y M
  cases r with
  |@tup p B _ hq hl m=>exact⟨p,B,rfl,eN hid_le hq,λ_=>hq,hl,m⟩
 |true=>
  unfold aF at J;have J:X.all bU=true:=by simpa[f]using J
  cases m with
  |@tup p B _ hq hl m=>exact⟨p,B,rfl,hq,nofun,hl,λi v d N R=>((m i v d N R).sc (List.all_eq_true.mp J d (mem_of_getElem? R))).rep⟩
theorem IJ{H f:Hp}{O:List Addr}{g:List (List Addr)}{I:Ev}{X:List D}{p:Addr}(E:EnvOk K L O g f M I)(s:Same H f)(n:∀a∈g.flatten,a∈t.flatten\/H a=none)(m:Reps K (bZ f (O++g.flatten)) B X)(C:f p=none):Aft K L O t H M I ⟨.lst .leaf,.list X⟩ (.ref p) (upd f p (.lst B)) [p] g:=by
 have w:=E.hide (G:=[p]) (jt (o:=.lst B) C) (by simp) (λa Z=>by simp at Z;rw[Z];exact C) (λa Z=>by simp at Z;rw[Z,eV];exact Option.some_ne_none _)
 refine⟨s.trans (jt C),w,λa Z=>?_,?_⟩
 .rcases Mo Z with z|z
  .have z:a=p:=by simpa using z
   rw[z];exact .inr (s.free C)
  .exact n a z
 .have b:(List.replicate X.length ([]:List Addr)).flatten=[]:=by simp
  have:[p]=p::(List.replicate X.length ([]:List Addr)).flatten:=by rw[b]
  rw[this];refine .lst rfl eV m.1 (by simp) (by rw[b];simp) λi v d F Y c P=>?_
  rw[getElem?_replicate]at P;split at P
  .cases P
   refine .leaf ((m.2 i v d Y c).mono (me (jt C) λa Z=>?_))
   rw[b]at Z;rcases Mo Z with z|z
   .rcases Mo z with z|z
    .have z:a=p:=by simpa using z
     rw[z];exact .inr C
    .exact .inl (Mn _ z)
   .exact .inl (Mm _ z)
  .cases P
noncomputable def ck(L:F1):F1:=aZ L λp C=>match p.d with
 |.list X=>if aF p X then .ok ⟨.lst .leaf,.list X⟩ C else .no
 |.tuple X=>if aF p X then .ok ⟨.lst .leaf,.list X⟩ C else .no
 |_=>.no
section
variable{K:Fg}{W:XW}{σ:St}{H:Hp}{Q:VK}{fa fb:F1}
theorem Aft.disj{f:Hp}{O:List Addr}{g:List (List Addr)}{I:Ev}{p:PV}{v:V}(A:Aft K L O t H σ I p v f G g):∀a∈G,a∉O++g.flatten:=λa Z z=>by
 have X:=A.env.nd
 rw[append_assoc]at X;exact(Mt X).2.2 a Z a z rfl
theorem kr{O:List Addr}:∀a∈O++F,a∈G++O++F:=λa Z=>by
 rw[append_assoc];exact Mm _ Z
theorem sR(h:tE K W (ck fa) σ H Q):Ba (λL H Q=>∃p R,L=[.ref p]/\(SqL K H p R\/SqT K H p R)/\∀l,H l=none->Q (.ref l) (upd H l (.lst R))) (tA K W (ae fa af)) σ H Q:=by
 have Y:tE K W fa σ H λx f=>∃p R,x=.ref p/\(SqL K f p R\/SqT K f p R)/\∀l,f l=none->Q (.ref l) (upd f l (.lst R)):=by
  refine uq h λb O t I p v f G g j A w=>?_
  obtain⟨s,d⟩:=p
  cases d with
  |list X=>
   have w:Wants K W b O t H σ Q (if aF ⟨s,.list X⟩ X then .ok ⟨.lst .leaf,.list X⟩ I else .no):=w
   cases J:aF ⟨s,.list X⟩ X with
   |false=>rw[J]at w;exact w.elim
   |true=>
    rw[J]at w;obtain⟨p,B,rfl,i,_,m⟩:=A.own.items (O':=O++g.flatten) J kr A.disj
    exact⟨p,B,rfl,.inl i,λl S=>w _ _ _ _ (IJ A.go A.same A.newF m S)⟩
  |tuple X=>
   have w:Wants K W b O t H σ Q (if aF ⟨s,.tuple X⟩ X then .ok ⟨.lst .leaf,.list X⟩ I else .no):=w
   cases J:aF ⟨s,.tuple X⟩ X with
   |false=>rw[J]at w;exact w.elim
   |true=>
    rw[J]at w;obtain⟨p,B,rfl,i,_,m⟩:=A.own.itemsT (O':=O++g.flatten) J kr A.disj
    exact⟨p,B,rfl,.inr i,λl S=>w _ _ _ _ (IJ A.go A.same A.newF m S)⟩
  |_=>exact w.elim
 obtain⟨b,O,t,C,E,Y⟩:=Y;refine⟨b,O,t,C,E,?_⟩
 unfold ae af
 cases e:fa C with
 |ok p N=>
  rw[e]at Y;intro B F r U A
  match B,r,A.len1,A.len2 with
  |[v],[G],_,_=>
   have a:Aft K b O t H σ N p v F G U:=⟨A.same,by simpa using A.env,by simpa using A.new,by simpa using A.own 0 v p G rfl rfl rfl⟩
   obtain⟨q,R,rfl,M,P⟩:=Y v F G U a
   exact⟨q,R,rfl,M,P⟩
 |er c N=>rw[e]at Y;exact Y
 |no=>rw[e]at Y;exact Y
end
structure zW(J:It)(P:Hp->Prop)(vs:List V):Prop where
 go:∀(i:Nat) H v,P H->vs[i]?=some v->J.go i H/\∀x H',J.yld i H x H'->H'=H/\x=v
 stop:∀H,P H->J.stop vs.length H
theorem yZ{a:Addr}:zW (HX K a) (λH=>SqL K H a B) B:=
 ⟨λi H v C f=>⟨⟨B,v,C,f⟩,λx F ⟨e,q⟩=>⟨e,Option.some.inj ((q B C).symm.trans f)⟩⟩,λH C=>⟨B,C,Mz _⟩⟩
theorem CI{a:Addr}:zW (HW K a) (λH=>SqT K H a B) B:=
 ⟨λi H v C f=>⟨⟨B,v,C,f⟩,λx F ⟨e,q⟩=>⟨e,Option.some.inj ((q B C).symm.trans f)⟩⟩,λH C=>⟨B,C,Mz _⟩⟩
noncomputable def gg(G:Int)(n:Nat):List V:=(List.range n).map λi=>.int (G+(i:Nat))
noncomputable def b9(G:Int)(n:Nat):List D:=(List.range n).map λi=>.int (G+(i:Nat))
theorem vY{G:Int}{n:Nat}:zW (xn G n) (λ_=>True) (gg G n):=by
 refine⟨λi H v _ f=>?_,λH _=>?_⟩
 .unfold gg at f
  rw[getElem?_map]at f
  cases e:(List.range n)[i]? with
  |none=>rw[e]at f;cases f
  |some k=>
   rw[e]at f;obtain⟨Y,M⟩:=Mv e
   simp at Y M
   subst M
   cases f;exact⟨Y,λx F ⟨q1,q2⟩=>⟨q1,q2⟩⟩
 .show n<=(gg G n).length
  simp[gg]
theorem Jh{H:Hp}{lo:Int}{n:Nat}:Reps K H (gg lo n) (b9 lo n):=by
 refine⟨by simp[gg,b9],λi v d Y M=>?_⟩
 unfold gg at Y;unfold b9 at M;rw[getElem?_map]at Y M
 cases e:(List.range n)[i]? with
 |none=>rw[e]at Y;cases Y
 |some k=>
  rw[e]at Y M
  cases Y
  cases M;exact .int _
structure LP where
 ds:List D
 st:Bool
abbrev FI:=Ev->Out LP
noncomputable def kg(K:Fg)(W:XW)(L:Hp)(O:List Addr)(b:List (List Addr))(H:Hp)(M:St)(R:It->Hp->Prop)(o:Out LP):Prop:=match o with
 |.ok t N=>∀J F U B P,Same H F->EnvOk K L O U F M N->(∀a∈U.flatten,a∈b.flatten\/H a=none)->zW J P B->P F->(∀A,Same F A->P A)->(t.st=true->∀A,Same (bZ F U.flatten) A->P A) ->
   Reps K (bZ F (O++U.flatten)) B t.ds->R J F
 |.er c N=>∀F U,Same H F->EnvOk K L O U F M N->W c M F
 |.no=>False
noncomputable def tI(K:Fg)(W:XW)(f:FI):TI:=λM H R=>∃L O t C,EnvOk K L O t H M C/\kg K W L O t H M R (f C)
theorem so{X:Cx}{r:Expr}{t N:TI}(h:PI X r z t)(i:∀M H R,N M H R->t M H R):PI X r z N:=λB s M H R I q=>h B s M H R I (i M H R q)
noncomputable def aP(L:F1):FI:=λC=>(L C).bind λp N=>match p.d with
 |.list X=>if aF p X then .ok ⟨X,!p.s.isView⟩ N else .no
 |_=>.no
noncomputable def eG(L:F1):FI:=λC=>(L C).bind λp N=>match p.d with
 |.tuple X=>if aF p X then .ok ⟨X,!p.s.isView⟩ N else .no
 |_=>.no
section
variable{K:Fg}{W:XW}{σ:St}{H:Hp}{R:It->Hp->Prop}{fa fb:F1}
theorem sub_hid{H:Hp}{O:List Addr}:Same (bZ H (O++F)) (bZ H F):=me (Same.refl _) λa Z=>.inl (Mm _ Z)
theorem yo(h:tI K W (aP fa) σ H R):wc K (tE K W fa) σ H R:=by
 obtain⟨L,O,t,C,E,h⟩:=h;refine⟨L,O,t,C,E,?_⟩
 unfold aP at h
 cases e:fa C with
 |ok p I=>
  rw[e]at h;intro v f G g A;obtain⟨s,d⟩:=p
  cases d with
  |list X=>
   have h:kg K W L O t H σ R (if aF ⟨s,.list X⟩ X then .ok ⟨X,!s.isView⟩ I else .no):=h
   cases J:aF ⟨s,.list X⟩ X with
   |false=>rw[J]at h;exact h.elim
   |true=>
    rw[J]at h;obtain⟨p,B,rfl,Y,q,m⟩:=A.own.items (O':=O++g.flatten) J kr A.disj
    exact⟨p,rfl,⟨B,Y⟩,h (HX K p) f g B (λH=>SqL K H p B) A.same A.go A.newF yZ Y (λi a=>a.seq Y) (λb i a=>a.seq (sub_hid.seq (q (by simpa using b)))) m⟩
  |_=>exact h.elim
 |er c N=>rw[e]at h;exact h
 |no=>rw[e]at h;exact h
theorem yn(h:tI K W (eG fa) σ H R):za K (tE K W fa) σ H R:=by
 obtain⟨L,O,t,C,E,h⟩:=h;refine⟨L,O,t,C,E,?_⟩
 unfold eG at h
 cases e:fa C with
 |ok p I=>
  rw[e]at h;intro v f G g A;obtain⟨s,d⟩:=p
  cases d with
  |tuple X=>
   have h:kg K W L O t H σ R (if aF ⟨s,.tuple X⟩ X then .ok ⟨X,!s.isView⟩ I else .no):=h
   cases J:aF ⟨s,.tuple X⟩ X with
   |false=>rw[J]at h;exact h.elim
   |true=>
    rw[J]at h;obtain⟨p,B,rfl,Y,q,m⟩:=A.own.itemsT (O':=O++g.flatten) J kr A.disj
    exact⟨p,rfl,⟨B,Y⟩,h (HW K p) f g B (λH=>SqT K H p B) A.same A.go A.newF CI Y (λi a=>eN a Y) (λb i a=>eN a (eN sub_hid (q (by simpa using b)))) m⟩
  |_=>exact h.elim
 |er c N=>rw[e]at h;exact h
 |no=>rw[e]at h;exact h
noncomputable def cL(j:Int):Bool:=decide (-(2 ^ 62)<=j)&&decide (j<2 ^ 62)
noncomputable def kz:List D->Option Int
 |[.int j]=>if cL j then some j else none
 |_=>none
noncomputable def sP:List D->Option (Int×Int)
 |[.int i,.int j]=>if cL i&&cL j then some (i,j)else none
 |_=>none
theorem rq{X:List D}{j:Int}(h:kz X=some j):X=[.int j]/\-(2 ^ 62)<=j/\j<2 ^ 62:=by
 unfold kz at h;split at h
 .split at h
  .rename_i J
   cases h;simp only[cL,Bool.and_eq_true,decide_eq_true_eq]at J
   exact⟨rfl,J.1,J.2⟩
  .cases h
 .cases h
theorem yd{X:List D}{i j:Int}(h:sP X=some (i,j)):X=[.int i,.int j]/\(-(2 ^ 62)<=i/\i<2 ^ 62/\-(2 ^ 62)<=j/\j<2 ^ 62):=by
 unfold sP at h;split at h
 .split at h
  .rename_i J
   cases h;simp only[cL,Bool.and_eq_true,decide_eq_true_eq]at J
   exact⟨rfl,J.1.1,J.1.2,J.2.1,J.2.2⟩
  .cases h
 .cases h
noncomputable def gh(d:FL):FI:=λC=>(d C).bind λJ N=>match kz (J.map (·.d))with
 |some j=>.ok ⟨b9 0 j.toNat,true⟩ N
 |none=>.no
noncomputable def zb(d:FL):FI:=λC=>(d C).bind λJ N=>match sP (J.map (·.d))with
 |some (i,j)=>.ok ⟨b9 i (j-i).toNat,true⟩ N
 |none=>.no
theorem BI{d:FL}(h:tI K W (gh d) σ H R):wb (tA K W d) σ H R:=by
 obtain⟨L,O,t,C,E,h⟩:=h;refine⟨L,O,t,C,E,?_⟩
 unfold gh at h
 cases e:d C with
 |ok J I=>
  rw[e]at h;intro B f k g A;have h:kg K W L O t H σ R (match kz (J.map (·.d))with|some j=>.ok ⟨b9 0 j.toNat,true⟩ I|none=>.no):=h
  have o:=A.reps
  cases b:kz (J.map (·.d))with
  |none=>rw[b]at h;exact h.elim
  |some j=>
   rw[b]at h;obtain⟨i,Y,M⟩:=rq b;rw[i]at o;obtain⟨v,rfl,r⟩:=o.one
   cases r;exact⟨j,rfl,Y,M,h (xn 0 j.toNat) f g (gg 0 j.toNat) (λ_=>True) A.same A.env.dropL (λa Z=>A.new a (Mm _ Z)) vY trivial (λ_ _=>trivial) (λ_ _ _=>trivial) Jh⟩
 |er c N=>rw[e]at h;exact h
 |no=>rw[e]at h;exact h
theorem BH{d:FL}(h:tI K W (zb d) σ H R):Ax (tA K W d) σ H R:=by
 obtain⟨L,O,t,C,E,h⟩:=h;refine⟨L,O,t,C,E,?_⟩
 unfold zb at h
 cases e:d C with
 |ok J I=>
  rw[e]at h;intro B f m g A;have h:kg K W L O t H σ R (match sP (J.map (·.d))with|some (i,j)=>.ok ⟨b9 i (j-i).toNat,true⟩ I|none=>.no):=h
  have o:=A.reps
  cases k:sP (J.map (·.d))with
  |none=>rw[k]at h;exact h.elim
  |some b=>
   obtain⟨i,j⟩:=b;rw[k]at h;obtain⟨l,U⟩:=yd k;rw[l]at o;obtain⟨v,u,rfl,r,w⟩:=o.two
   cases r
   cases w
   exact⟨i,j,rfl,U,h (xn i (j-i).toNat) f g (gg i (j-i).toNat) (λ_=>True) A.same A.env.dropL (λa Z=>A.new a (Mm _ Z)) vY trivial (λ_ _=>trivial) (λ_ _ _=>trivial) Jh⟩
 |er c N=>rw[e]at h;exact h
 |no=>rw[e]at h;exact h
end
noncomputable def cW(i:Nat)(v:FB)(m:F1)(s:Sh):List D->Ev->List D->Out (List D)
 |[],Γ,acc=>.ok acc Γ
 |d::r,Γ,acc=>match v (Γ.set i (MB d))with
  |.ok true I=>(match m I with
   |.ok p S=>if T.coer s p&&decide (acc.length<sizeLine)then cW i v m s r (S.set i none) (acc++[p.d])else .no
   |_=>.no)
  |.ok false I=>if acc.length<sizeLine then cW i v m s r (I.set i none) acc else .no
  |_=>.no
noncomputable def aw(s:Sh)(i:Nat)(u:FI)(v:FB)(m:F1):F1:=λC=>(u C).bind λt I=>match cW i v m s t.ds (I.set i none) []with
 |.ok X S=>if !s.isView&&decide (i<I.length)then .ok ⟨.lst s,.list X⟩ (S.set i (I.getD i none))else .no
 |_=>.no
noncomputable abbrev W0:XW:=λ_ _ _=>False
section
variable{K:Fg}{He H H1 H2:Hp}{O G:List Addr}{Fs Fs1 Fs2:List (List Addr)}{σ:St}{Γ Γ1 Γ2:Ev}
theorem IF{a:List Nat}{j:Nat}(h:j∉a):(bK a M)[j]?=M[j]?:=by
 unfold bK;rw[List.getElem?_mapIdx]
 cases M[j]? with
 |none=>rfl
 |some o=>simp[h]
theorem G8{C:Ev}{i j:Nat}{p:PV}(h:(C.set i none)[j]?=some (some p)):j≠i/\C[j]?=some (some p):=by
 by_cases A:j=i
 .subst A
  rw[getElem?_set]at h;split at h
  .split at h<;>cases h
  .rename_i z;exact absurd rfl z
 .rw[getElem?_set_ne (Ne.symm A)]at h
  exact⟨A,h⟩
theorem EnvOk.shut{i:Nat}(E:EnvOk K He O Fs H σ Γ)(l:i<Γ.length):∃F,Fs[i]?=some F/\EnvOk K He (F++O) (Fs.set i []) H (bK [i] σ) (Γ.set i none)/\∀a,a∈F++(Fs.set i []).flatten↔a∈Fs.flatten:=by
 obtain⟨F,c⟩:=E.lt l;have X:(F++(Fs.set i []).flatten).Perm Fs.flatten:=by simpa using pO (G:=[]) c
 have b:(F++O++(Fs.set i []).flatten).Perm (O++Fs.flatten):=by
  rw[append_assoc];exact(oh _ _ _).trans (List.Perm.append_left _ X)
 refine⟨F,c,⟨by rw[Ae,length_set];exact E.len1,by rw[length_set,length_set];exact E.len2,E.same,b.nodup_iff.mpr E.nd,λa Z=>E.inH a (b.mem_iff.mp Z),λa Z=>E.fresh a (X.mem_iff.mp (Mm _ Z)),λj q Y=>?_⟩,λa=>X.mem_iff⟩
 obtain⟨A,Y⟩:=G8 Y;obtain⟨k,t,d,N,R,I⟩:=E.slot j q Y;exact⟨k,t,d,by rw[IF (by simpa using A)];exact N,by rw[getElem?_set_ne (Ne.symm A)];exact R,I.mono (Same.refl _) λa Z=>.inl (b.mem_iff.mp Z)⟩
theorem EnvOk.forget{i:Nat}{x:Option V}(E:EnvOk K He O Fs H ((bK [i] σ).set i x) Γ)(l:i<Γ.length):EnvOk K He O (Fs.set i []) H (bK [i] σ) (Γ.set i none):=by
 obtain⟨F,c⟩:=E.lt l;have X:(F++(Fs.set i []).flatten).Perm Fs.flatten:=by simpa using pO (G:=[]) c
 have r:∀a∈O++(Fs.set i []).flatten,a∈O++Fs.flatten:=λa Z=>by
  rcases Mo Z with z|z
  .exact Mn _ z
  .exact Mm _ (X.mem_iff.mp (Mm _ z))
 have p:=E.len1
 rw[length_set]at p;obtain⟨e,g,m⟩:=Mt E.nd;have f:((Fs.set i []).flatten).Nodup:=(Mt (X.nodup_iff.mpr g)).2.1
 refine⟨by rw[length_set];exact p,by rw[length_set,length_set];exact E.len2,E.same,List.nodup_append.mpr ⟨e,f,λa Z b U=>m a Z b (X.mem_iff.mp (Mm _ U))⟩,λa Z=>E.inH a (r a Z),λa Z=>E.fresh a (X.mem_iff.mp (Mm _ Z)),λj q Y=>?_⟩
 obtain⟨A,Y⟩:=G8 Y;obtain⟨k,t,d,N,R,I⟩:=E.slot j q Y;rw[getElem?_set_ne (Ne.symm A)]at N;exact⟨k,t,d,N,by rw[getElem?_set_ne (Ne.symm A)];exact R,I.mono (Same.refl _) λa Z=>.inl (r a Z)⟩
theorem EnvOk.reopen{i:Nat}(g:EnvOk K He O Fs1 H1 σ Γ1)(c:Fs1[i]?=some F)(w:EnvOk K He (G++(F++O)) Fs2 H2 (bK [i] σ) Γ2)(S:Γ2.length=Γ1.length)(s:Same H1 H2)(m:Γ2[i]?=some none)(h:Fs2[i]?=some [])(new:∀a∈G++Fs2.flatten,a∈Fs1.flatten\/H1 a=none):EnvOk K He (G++O) (Fs2.set i F) H2 σ (Γ2.set i (Γ1.getD i none)):=by
 have X:((Fs2.set i F).flatten).Perm (F++Fs2.flatten):=by simpa using pO (G:=F) h
 have b:(G++O++(Fs2.set i F).flatten).Perm (G++(F++O)++Fs2.flatten):=by
  refine(List.Perm.append_left _ X).trans ?_
  rw[append_assoc,append_assoc];refine List.Perm.append_left _ ?_
  rw[append_assoc];exact oh _ _ _
 have l:i<Γ2.length:=(Mv m).1
 refine⟨by rw[length_set,S];exact g.len1,by rw[length_set,length_set];exact w.len2,w.same,b.nodup_iff.mpr w.nd,λa Z=>w.inH a (b.mem_iff.mp Z),λa Z=>?_,λj q Y=>?_⟩
 .rcases Mo (X.mem_iff.mp Z)with z|z
  .exact g.fresh a (pG c z)
  .exact w.fresh a z
 .by_cases A:j=i
  .subst A
   rw[getElem?_set_self l]at Y;have Y:Γ1.getD j none=some q:=Option.some.inj Y
   rw[Mr]at Y;have f:Γ1[j]?=some (some q):=by
    cases e:Γ1[j]? with
    |none=>rw[e]at Y;cases Y
    |some o=>rw[e]at Y;simp only[Option.getD_some]at Y;rw[Y]
   obtain⟨k,t,d,N,R,I⟩:=g.slot j q f
   rw[c]at R
   cases R;refine⟨k,t,F,N,getElem?_set_self (by rw[w.len2];exact l),I.mono s λa Z=>?_⟩
   rcases Mo Z with z|z
   .rcases Mo z with z|z
    .exact(new a (Mn _ z)).elim (λy=>.inl (Mm _ y)) .inr
    .exact .inl (Mn _ z)
   .rcases Mo (X.mem_iff.mp z)with y|y
    .exact .inl (Mm _ (pG c y))
    .exact(new a (Mm _ y)).elim (λy=>.inl (Mm _ y)) .inr
  .rw[getElem?_set_ne (Ne.symm A)]at Y
   obtain⟨k,t,d,N,R,I⟩:=w.slot j q Y;rw[IF (by simpa using A)]at N
   exact⟨k,t,d,N,by rw[getElem?_set_ne (Ne.symm A)];exact R,I.mono (Same.refl _) λa Z=>.inl (b.mem_iff.mp Z)⟩
theorem EnvOk.mutO{p:Addr}{o:HO}{L:List V}(E:EnvOk K He O Fs H σ Γ)(C:p∈O)(S:H p=some (.lst L))(c:He p=none):EnvOk K He O Fs (upd H p o) σ Γ:=by
 obtain⟨r,g,m⟩:=Mt E.nd;refine⟨E.len1,E.len2,λb u e=>?_,E.nd,λa Z=>?_,E.fresh,λj q Y=>?_⟩
 .rw[eT (xk e c)]
  exact E.same b u e
 .by_cases h:a=p
  .rw[h,eV];exact Option.some_ne_none _
  .rw[eT h];exact E.inH a Z
 .obtain⟨k,t,d,N,R,I⟩:=E.slot j q Y
  exact⟨k,t,d,N,R,I.mut k (Mn _ C) (λz=>m p C p (pG R z) rfl) S⟩
end
structure KS(K:Fg)(He:Hp)(O F:List Addr)(Fs1:List (List Addr))(H1:Hp)(σ:St)(i:Nat)(s:Sh)(A0:Addr)(n:Nat)(ys:List V)(H:Hp)(Γk:Ev)(Fk Gs:List (List Addr))(acc:List D):Prop where
 env:EnvOk K He (A0::Gs.flatten++(F++O)) Fk H (bK [i] σ) Γk
 same:Same H1 H
 at_:H A0=some (.lst ys)
 new:∀a∈Gs.flatten++Fk.flatten,a∈Fs1.flatten\/H1 a=none
 l1:ys.length=acc.length
 l2:Gs.length=acc.length
 own:∀(j:Nat) v d G,ys[j]?=some v->acc[j]?=some d->Gs[j]?=some G->Own K (A0::Gs.flatten++(F++O)++Fk.flatten) H s G v d
 noneG:Γk[i]?=some none
 noneF:Fk[i]?=some []
 len:Γk.length=n
theorem xE{u:Type}(r:List (List u))(G:List u):(r++[G]).flatten=r.flatten++G:=by simp
section
variable{K:Fg}{W:XW}{σ:St}{H:Hp}{Q:VK}{fe:F1}{fc:FB}{fi:FI}{s:Sh}{i:Nat}
theorem Iy(h:tE K W (aw s i fi fc fe) σ H Q):jB [i] (tI K W fi) (b8 i) (tT K W0 fc) (tE K W0 fe) σ H Q:=by
 obtain⟨L,O,Fs,C,E,h⟩:=h;refine⟨L,O,Fs,C,E,?_⟩
 unfold aw at h
 cases e:fi C with
 |er c N=>rw[e]at h;exact h
 |no=>rw[e]at h;exact h
 |ok t I=>
  rw[e]at h;intro J f Fs1 B P n E1 n1 it hP hP1 _ hr A0 hD;have h:Wants K W L O Fs H σ Q (match cW i fc fe s t.ds (I.set i none) []with|.ok X S=>if !s.isView&&decide (i<I.length)then .ok ⟨.lst s,.list X⟩ (S.set i (I.getD i none))else .no|_=>.no):=h
  cases eg:cW i fc fe s t.ds (I.set i none) []with
  |er c N=>rw[eg]at h;exact h.elim
  |no=>rw[eg]at h;exact h.elim
  |ok ds' S=>
   rw[eg]at h;have h:Wants K W L O Fs H σ Q (if(!s.isView&&decide (i<I.length))=true then .ok ⟨.lst s,.list ds'⟩ (S.set i (I.getD i none))else .no):=h
   by_cases hc:(!s.isView&&decide (i<I.length))=true
   case neg=>rw[if_neg hc]at h;exact h.elim
   rw[if_pos hc]at h;simp only[Bool.and_eq_true,decide_eq_true_eq,Bool.not_eq_true']at hc
   obtain⟨hsv,l⟩:=hc;obtain⟨F,hF,E0,hmem⟩:=E1.shut l;have hHeD:L A0=none:=E1.same.free hD
   have E0':EnvOk K L (A0::([]:List (List Addr)).flatten++(F++O)) (Fs1.set i []) (upd f A0 (.lst [])) (bK [i] σ) (I.set i none):=
    E0.hide (G:=[A0]) (jt hD) (by simp) (λa Z=>by simp at Z;rw[Z];exact hD) (λa Z=>by simp at Z;rw[Z,eV];exact Option.some_ne_none _)
   refine⟨λk m R H'=>m=B.length-k/\k<=B.length/\∃Γk Fk r q,KS K L O F Fs1 f σ i s A0 I.length R H' Γk Fk r q/\cW i fc fe s (t.ds.drop k) Γk q=.ok ds' S,⟨B.length,by simp,Nat.zero_le _,I.set i none,Fs1.set i [],[],[],⟨E0',jt hD,eV,λa Z=>.inl ((hmem a).mp (Mm _ (by simpa using Z))),rfl,rfl,λj v d G Y=>by simp at Y,getElem?_set_self l,getElem?_set_self (by rw[E1.len2];exact l),by rw[length_set]⟩,by simpa using eg⟩,?_⟩
   rintro k m R H' ⟨rfl,hk,Γk,Fk,r,q,g,eg'⟩
   refine⟨g.at_,?_⟩
   have hPk:P H':=hP1 H' g.same
   have hlen:B.length=t.ds.length:=hr.1
   by_cases hlt:k<B.length
   case neg=>
    have hke:k=B.length:=by omega
    left
    have:t.ds.drop k=[]:=List.drop_eq_nil_of_le (by omega)
    rw[this]at eg';have eg'':(Out.ok q Γk:Out (List D))=.ok ds' S:=eg'
    injection eg'' with e1 e2
    subst e1;subst e2;refine⟨by rw[hke];exact it.stop H' hPk,?_⟩
    have E3:EnvOk K L ((A0::r.flatten)++O) (Fk.set i F) H' σ (Γk.set i (I.getD i none)):=
     EnvOk.reopen (G:=A0::r.flatten) E1 hF g.env g.len g.same g.noneG g.noneF λa Z=>by
      rcases Mo Z with z|z
      .rcases Mp z with z|z
       .rw[z];exact .inr hD
       .exact g.new a (Mn _ z)
      .exact g.new a (Mm _ z)
    have pmF:((Fk.set i F).flatten).Perm (F++Fk.flatten):=by simpa using pO (G:=F) g.noneF
    obtain⟨n1',_,n3'⟩:=Mt g.env.ndO;refine h (.ref A0) H' (A0::r.flatten) (Fk.set i F) ⟨n.trans g.same,E3,λa Z=>?_,?_⟩
    .have up:a∈Fs1.flatten\/f a=none->a∈Fs.flatten\/H a=none:=λz=>z.elim (n1 a) λy=>.inr (n.free y)
     rcases Mo Z with z|z
     .rcases Mp z with z|z
      .exact up (.inr (by rw[z];exact hD))
      .exact up (g.new a (Mn _ z))
     .rcases Mo (pmF.mem_iff.mp z)with y|y
      .exact up (.inl (pG hF y))
      .exact up (g.new a (Mm _ y))
    .refine .lst hsv g.at_ g.l1 g.l2 n1' λj v d G Y M h3=>(g.own j v d G Y M h3).perm λa Z=>?_
     rw[append_assoc]at Z ⊢;rcases Mo Z with z|z
     .exact Mn _ z
     .refine Mm _ ?_
      rcases Mo z with z|z
      .exact Mn _ (Mm _ z)
      .rcases Mo (pmF.mem_iff.mp z)with y|y
       .exact Mn _ (Mn _ y)
       .exact Mm _ y
   case pos=>
    right
    have hv:B[k]?=some B[k]:=Mq hlt
    have hkd:k<t.ds.length:=by omega
    have hd:t.ds[k]?=some t.ds[k]:=Mq hkd
    have hdr:t.ds.drop k=t.ds[k]::t.ds.drop (k+1):=drop_eq_getElem_cons hkd
    rw[hdr]at eg';generalize hdk:t.ds[k]=d at hd eg'
    generalize hvk:B[k]=v at hv
    obtain⟨hgo,hyld⟩:=it.go k H' v hPk hv
    simp only[cW]at eg'
    have hik:i<Γk.length:=by rw[g.len];exact l
    have rep:Rep K (bZ H' (A0::r.flatten++(F++O)++Fk.flatten)) v d:=(hr.2 k v d hv hd).mono (me g.same λa Z=>by
     rcases Mo Z with z|z
     .rcases Mo z with z|z
      .rcases Mp z with z|z
       .rw[z];exact .inr hD
       .exact(g.new a (Mn _ z)).elim (λy=>.inl (Mm _ y)) .inr
      .rcases Mo z with z|z
       .exact .inl (Mm _ (pG hF z))
       .exact .inl (Mn _ z)
     .exact(g.new a (Mm _ z)).elim (λy=>.inl (Mm _ y)) .inr)
    have Ep:EnvOk K L (A0::r.flatten++(F++O)) (Fk.set i []) H' ((bK [i] σ).set i (some v)) (Γk.set i (MB d)):=
     EnvOk.put (G:=[]) (p:=⟨.leaf,d⟩) (v:=v) g.env (.leaf rep) rfl (λa Z=>by simp at Z) hik
    have hsl:R.length<sizeLine:=by
     rw[g.l1]
     cases ec:fc (Γk.set i (MB d))with
     |no=>rw[ec]at eg';cases eg'
     |er c N=>rw[ec]at eg';cases eg'
     |ok b Γa=>
      rw[ec]at eg'
      cases b with
      |false=>
       dsimp only at eg'
       split at eg'
       .assumption
       .cases eg'
      |true=>
       dsimp only at eg'
       split at eg'
       .split at eg'
        .rename_i z
         simp only[Bool.and_eq_true,decide_eq_true_eq]at z
         exact z.2
        .cases eg'
       .cases eg'
    refine⟨hgo,hsl,λx Hx hx=>?_⟩
    obtain⟨rfl,rfl⟩:=hyld x Hx hx;show KP (bK [i] σ) ((bK [i] σ).set i (some x))/\_
    refine⟨⟨by rw[length_set],λj u A=>?_⟩,?_⟩
    .have:=(D2 A).1
     rw[getElem?_set_ne (by simp at this;exact λz=>this z.symm)]
     exact A
    refine⟨L,_,_,_,Ep,?_⟩
    cases ec:fc (Γk.set i (MB d))with
    |no=>rw[ec]at eg';cases eg'
    |er c N=>rw[ec]at eg';cases eg'
    |ok b Γa=>
     rw[ec]at eg';intro H3 Fs3 s3 E3 n3;have lena:Γa.length=I.length:=by
      have:=E3.len1
      rw[length_set,Ae,E1.len1]at this;exact this.symm
     have n3':∀a∈Fs3.flatten,a∈Fs1.flatten\/f a=none:=λa Z=>(n3 a Z).elim (λz=>by
      have pm:((Fk.set i []).flatten).Perm Fk.flatten:=by simpa using pO (G:=[]) g.noneF
      exact g.new a (Mm _ (pm.mem_iff.mp z))) λz=>.inr (g.same.free z)
     cases b with
     |false=>
      dsimp only at eg'
      split at eg'
      case isFalse=>cases eg'
      refine iL ⟨B.length-(k+1),by omega,rfl,hlt,Γa.set i none,Fs3.set i [],r,q,⟨E3.forget (by rw[lena];exact l),g.same.trans s3,s3 _ _ g.at_,λa Z=>?_,g.l1,g.l2,λj v d G Y M h3=>(g.own j v d G Y M h3).mono s3 λa Z=>?_,getElem?_set_self (by rw[lena];exact l),getElem?_set_self (by rw[E3.len2,lena];exact l),by rw[length_set];exact lena⟩,eg'⟩
      .rcases Mo Z with z|z
       .exact g.new a (Mn _ z)
       .obtain⟨F3,hF3⟩:=E3.lt (i:=i) (by rw[lena];exact l)
        have pm:(F3++(Fs3.set i []).flatten).Perm Fs3.flatten:=by simpa using pO (G:=[]) hF3
        exact n3' a (pm.mem_iff.mp (Mm _ z))
      .rcases Mo Z with z|z
       .exact .inl (Mn _ z)
       .obtain⟨F3,hF3⟩:=E3.lt (i:=i) (by rw[lena];exact l)
        have pm:(F3++(Fs3.set i []).flatten).Perm Fs3.flatten:=by simpa using pO (G:=[]) hF3
        have pm2:((Fk.set i []).flatten).Perm Fk.flatten:=by simpa using pO (G:=[]) g.noneF
        exact(n3 a (pm.mem_iff.mp (Mm _ z))).elim (λy=>.inl (Mm _ (pm2.mem_iff.mp y))) .inr
     |true=>
      refine iK ⟨L,_,_,_,E3,?_⟩
      dsimp only at eg'
      cases ee:fe Γa with
      |no=>rw[ee]at eg';cases eg'
      |er c N=>rw[ee]at eg';cases eg'
      |ok p Γb=>
       rw[ee]at eg';dsimp only at eg'
       split at eg'
       case isFalse=>cases eg'
       rename_i hco;simp only[Bool.and_eq_true,decide_eq_true_eq]at hco
       obtain⟨hco,_⟩:=hco;intro u H4 G Fs4 A4;have lenb:Γb.length=I.length:=by
        have:=A4.env.len1
        rw[length_set,Ae,E1.len1]at this;exact this.symm
       have hib:i<Γb.length:=by rw[lenb];exact l
       have at4:H4 A0=some (.lst R):=A4.same _ _ (s3 _ _ g.at_)
       have s14:Same f H4:=(g.same.trans s3).trans A4.same
       have pmk:((Fk.set i []).flatten).Perm Fk.flatten:=by simpa using pO (G:=[]) g.noneF
       obtain⟨F4,hF4⟩:=A4.env.lt hib;have pm4:(F4++(Fs4.set i []).flatten).Perm Fs4.flatten:=by simpa using pO (G:=[]) hF4
       have new4:∀a∈G++Fs4.flatten,a∈Fs1.flatten\/f a=none:=λa Z=>(A4.new a Z).elim (n3' a) λz=>.inr ((g.same.trans s3).free z)
       have hG':∀a∈bb s G,a∈G:=λa Z=>IZ Z
       obtain⟨k1,k2,k3⟩:=Mt A4.env.ndO;have ndk:(bb s G).Nodup:=by
        cases s<;>first|exact nodup_nil|exact k1
       have pmO:(A0::(r++[bb s G]).flatten++(F++O)).Perm (bb s G++(A0::r.flatten++(F++O))):=by
        rw[xE];show(A0::((r.flatten++bb s G)++(F++O))).Perm _
        refine List.Perm.trans ?_ List.perm_middle.symm
        refine List.Perm.cons _ ?_
        rw[append_assoc];exact oh _ _ _
       have E5:EnvOk K L (bb s G++(A0::r.flatten++(F++O))) Fs4 H4 ((bK [i] σ).set i (some x)) Γb:=A4.env.drop (λa Z=>by
        rcases Mo Z with z|z
        .exact Mn _ (hG' a z)
        .exact Mm _ z) (List.nodup_append.mpr ⟨ndk,k2,λa Z b U=>k3 a (hG' a Z) b U⟩)
       have E6:=(E5.perm pmO).forget hib
       have hDin:A0∈A0::(r++[bb s G]).flatten++(F++O):=mem_cons_self
       have E7:=E6.mutO (o:=.lst (R++[u])) hDin at4 hHeD
       have subH:∀a∈A0::(r++[bb s G]).flatten++(F++O)++(Fs4.set i []).flatten,a∈G++(A0::r.flatten++(F++O))++Fs4.flatten:=λa Z=>by
        rcases Mo Z with z|z
        .rcases Mo (pmO.mem_iff.mp z)with y|y
         .exact Mn _ (Mn _ (hG' a y))
         .exact Mn _ (Mm _ y)
        .exact Mm _ (pm4.mem_iff.mp (Mm _ z))
       have Dnot:∀{j:Nat}{Gj:List Addr},r[j]?=some Gj->A0∉Gj:=λ{j Gj} A z=>by
        have nd:=g.env.ndO
        exact(List.nodup_cons.mp nd).1 (Mn _ (pG A z))
       refine⟨at4,B.length-(k+1),by omega,rfl,hlt,Γb.set i none,Fs4.set i [],r++[bb s G],q++[p.d],⟨E7,λb o U=>?_,eV,λa Z=>?_,by simp[g.l1],by simp[g.l2],λj w d' G' Y M h3=>?_,getElem?_set_self hib,getElem?_set_self (by rw[A4.env.len2];exact hib),by rw[length_set];exact lenb⟩,eg'⟩
       .rw[eT (xk U hD)]
        exact s14 b o U
       .rcases Mo Z with z|z
        .rw[xE]at z
         rcases Mo z with z|z
         .exact g.new a (Mn _ z)
         .exact new4 a (Mn _ (hG' a z))
        .exact new4 a (Mm _ (pm4.mem_iff.mp (Mm _ z)))
       .by_cases A:j<R.length
        .rw[getElem?_append_left A]at Y
         rw[getElem?_append_left (by rw[<-g.l1];exact A)]at M
         rw[getElem?_append_left (by rw[g.l2,<-g.l1];exact A)]at h3
         have o1:=g.own j w d' G' Y M h3
         have o2:=o1.mono (O':=A0::(r++[bb s G]).flatten++(F++O)++(Fs4.set i []).flatten) (s3.trans A4.same) λa Z=>by
          have up:a∈G++Fs4.flatten->a∈A0::r.flatten++(F++O)++Fk.flatten\/Hx a=none:=λz=>(A4.new a z).elim (λy=>(n3 a y).elim (λy=>.inl (Mm _ (pmk.mem_iff.mp y))) .inr) λy=>.inr (s3.free y)
          rcases Mo (subH a Z)with z|z
          .rcases Mo z with z|z
           .exact up (Mn _ z)
           .exact .inl (Mn _ z)
          .exact up (Mm _ z)
         exact o2.mut hsv (Mn _ hDin) (Dnot h3) at4
        .have hj':j=R.length:=by
          have:=(Mv Y).1
          rw[length_append,length_singleton]at this;omega
         subst hj'
         rw[getElem?_append_right (Mz _),Nat.sub_self]at Y;rw[getElem?_append_right (by rw[g.l1];exact Mz _),show R.length-q.length=0 by rw[g.l1];exact Nat.sub_self _]at M
         rw[getElem?_append_right (by rw[g.l2,g.l1];exact Mz _),show R.length-r.length=0 by rw[g.l2,g.l1];exact Nat.sub_self _]at h3
         cases Y
         cases M
         cases h3;have o3:=A4.own.coer (s:=s) (O':=A0::(r++[bb s G]).flatten++(F++O)++(Fs4.set i []).flatten) hco subH λa Z hO=>by
          cases s with
          |leaf=>
           exfalso
           have hO':a∈(A0::r.flatten++(F++O))++(Fs4.set i []).flatten:=by
            rw[xE]at hO;simpa[bb]using hO
           rcases Mo hO' with z|z
           .exact k3 a Z a z rfl
           .have nd:=A4.env.nd
            exact(Mt nd).2.2 a (Mn _ Z) a (pm4.mem_iff.mp (Mm _ z)) rfl
          |view=>cases hsv
          |lst s=>exact Z
          |tup ss=>exact Z
         refine o3.mut hsv (Mn _ hDin) (λz=>?_) at4
         exact k3 A0 (hG' A0 z) A0 mem_cons_self rfl
end
inductive gj where
 |nx (e:Ev)|bk (e:Ev)|ct (e:Ev)|rt (p:PV)|er (c:Str) (e:Ev)|no
abbrev FS:=Ev->gj
structure RetOk(K:Fg)(He:Hp)(O:List Addr)(p:PV)(v:V)(H':Hp)(G:List Addr):Prop where
 same:Same He H'
 fresh:∀a∈G,He a=none
 inH:∀a∈G,H' a≠none
 nd:G.Nodup
 own:Own K (G++O) H' p.s G v p.d
 nv:p.s.isView=false
noncomputable def cF(K:Fg)(W:XW)(L:Hp)(O:List Addr)(D:eR):gj->Prop
 |.nx N=>∀Z F U,EnvOk K L O U F Z N->D.nx Z F
 |.bk N=>∀Z F U,EnvOk K L O U F Z N->D.bk Z F
 |.ct N=>∀Z F U,EnvOk K L O U F Z N->D.ct Z F
 |.rt p=>∀v F G,RetOk K L O p v F G->D.rt v F
 |.er c N=>∀Z F U,EnvOk K L O U F Z N->W c Z F
 |.no=>False
noncomputable def tS(K:Fg)(W:XW)(g:FS):TS:=λD M H=>∃L O t C,EnvOk K L O t H M C/\cF K W L O D (g C)
noncomputable def aH:FS:=λC=>.nx C
noncomputable def ao(B X:FS):FS:=λC=>match B C with
 |.nx N=>X N
 |o=>o
noncomputable def jv(f:F1)(k:PV->Ev->gj):FS:=λC=>match f C with
 |.ok p N=>k p N
 |.er c N=>.er c N
 |.no=>.no
noncomputable def bY(c:FB)(a b:FS):FS:=λC=>match c C with
 |.ok t N=>if t then a N else b N
 |.er c N=>.er c N
 |.no=>.no
section
variable{K:Fg}{W:XW}{σ:St}{H:Hp}{D:eR}{fa fb:F1}{ga gb:FB}{g1 g2:FS}
theorem yj(h:tS K W aH D σ H):fw D σ H:=by
 obtain⟨L,O,t,C,E,h⟩:=h;exact h σ H t E
theorem Bw(h:tS K W (ao g1 g2) D σ H):cO (tS K W g1) (tS K W g2) D σ H:=by
 obtain⟨L,O,t,C,E,h⟩:=h;refine⟨L,O,t,C,E,?_⟩
 unfold ao at h
 cases e:g1 C with
 |nx N=>rw[e]at h;exact λZ F U j=>⟨L,O,U,N,j,h⟩
 |bk N=>rw[e]at h;exact h
 |ct N=>rw[e]at h;exact h
 |rt p=>rw[e]at h;exact h
 |er c N=>rw[e]at h;exact h
 |no=>rw[e]at h;exact h
theorem iU{k:PV->Ev->gj}{R:VK}(h:tS K W (jv fa k) D σ H)(b:∀L O t I p v f G g,EnvOk K L O t H σ I\/True->(∀a∈G,L a=none)->Aft K L O t H σ I p v f G g->cF K W L O D (k p I)->R v f):tE K W fa σ H R:=by
 obtain⟨L,O,t,C,E,h⟩:=h;refine⟨L,O,t,C,E,?_⟩
 unfold jv at h
 cases e:fa C with
 |ok p I=>rw[e]at h;exact λv F G U A=>b L O t I p v F G U (.inr trivial) (A.freshG E) A h
 |er c I=>rw[e]at h;exact λF U s j=>h σ F U j
 |no=>rw[e]at h;exact h
theorem BF(h:tS K W (bY ga g1 g2) D σ H):gV (tT K W ga) (tS K W g1) (tS K W g2) D σ H:=by
 obtain⟨L,O,t,C,E,h⟩:=h;refine⟨L,O,t,C,E,?_⟩
 unfold bY at h
 cases e:ga C with
 |ok b I=>
  rw[e]at h;intro F U s j n
  cases b with
  |true=>exact iK ⟨L,O,U,I,j,h⟩
  |false=>exact iL ⟨L,O,U,I,j,h⟩
 |er c I=>rw[e]at h;exact λF U s j=>h σ F U j
 |no=>rw[e]at h;exact h
noncomputable def aJ(f:F1):FS:=jv f λp _=>if p.s.isView then(if bU p.d then .rt ⟨.leaf,p.d⟩else .no)else .rt p
theorem Bx(h:tS K W (aJ fa) D σ H):pS (tE K W fa) D σ H:=by
 refine iU h λL O t I p v f G g _ d A w=>?_
 obtain⟨r,c,m⟩:=Mt A.env.ndO;have inH:∀a∈G,f a≠none:=λa Z=>A.env.inH a (Mn _ (Mn _ Z))
 cases b:p.s.isView with
 |false=>
  have w:cF K W L O D (.rt p):=by simpa[b]using w
  exact w v f G ⟨A.env.same,d,inH,r,A.own.perm λa Z=>Mn _ Z,b⟩
 |true=>
  cases P:bU p.d with
  |false=>rw[b,P]at w;exact w.elim
  |true=>
   have w:cF K W L O D (.rt ⟨.leaf,p.d⟩):=by simpa[b,P]using w
   exact w v f [] ⟨A.env.same,(λ_ z=>nomatch z),(λ_ z=>nomatch z),nodup_nil,.leaf (A.own.rep.sc P).rep,rfl⟩
noncomputable def aA(own:Bool)(i:Nat)(f:F1):FS:=jv f λp C=>if i<C.length then(if own&&!p.s.isView then .nx (C.set i (some p))else if T.coer .leaf p then .nx (C.set i (MB p.d))else .no)else .no
theorem ve{own:Bool}{i:Nat}(h:tS K W (aA own i fa) D σ H):eC (tE K W fa) (b8 i) D σ H:=by
 refine iU h λL O t I p v f G g _ d A w=>?_
 show D.nx (σ.set i (some v)) f
 have w:cF K W L O D (if i<I.length then(if own&&!p.s.isView then .nx (I.set i (some p))else if T.coer .leaf p then .nx (I.set i (MB p.d))else .no)else .no):=w
 by_cases l:i<I.length
 case neg=>rw[if_neg l]at w;exact w.elim
 rw[if_pos l]at w
 cases b:(own&&!p.s.isView)with
 |true=>
  rw[b]at w;have c:p.s.isView=false:=by
   simp only[Bool.and_eq_true,Bool.not_eq_true']at b
   exact b.2
  exact w _ f _ (EnvOk.put A.env A.own c d l)
 |false=>
  rw[b]at w
  cases J:T.coer .leaf p with
  |false=>rw[J]at w;exact w.elim
  |true=>
   rw[J]at w;have o:=A.own.coer (s:=.leaf) (O':=O++g.flatten) J kr λa Z z=>absurd z (A.disj a Z)
   exact w _ f _ (EnvOk.put (G:=[]) (p:=⟨.leaf,p.d⟩) (v:=v) A.go o rfl (λa Z=>by simp at Z) l)
noncomputable def fH(f:F1):FS:=jv f λ_ C=>.nx C
theorem yq(h:tS K W (fH fa) D σ H):eA (tE K W fa) D σ H:=
 iU h λL O t I p v f G g _ d A w=>w σ f g A.go
theorem DE{u:Type}{l:List u}{i:Nat}{x:u}(h:l[i]?=some x):l.set i x=l:=by
 apply ext_getElem?
 intro j;by_cases A:j=i
 .subst A
  rw[getElem?_set_self (Mv h).1,h]
 .rw[getElem?_set_ne (Ne.symm A)]
noncomputable def zQ(i:Nat)(p:PV)(C:Ev):gj:=match C[i]? with
 |some (some ⟨.lst s,.list ds⟩)=>if T.coer s p&&decide (ds.length<sizeLine)then .nx (C.set i (some ⟨.lst s,.list (ds++[p.d])⟩))else .no
 |_=>.no
noncomputable def iM:Option (Option PV)->Bool
 |some (some ⟨.lst _,.list _⟩)=>true
 |_=>false
noncomputable def aN(i:Nat)(f:F1):FS:=λC=>if iM C[i]? then jv f (zQ i) C else .no
theorem zP{H:Hp}{O:List Addr}{C:Ev}{i:Nat}{s:Sh}{p:PV}{v:V}(E:EnvOk K L (G++O) t H σ C)(o:Own K (G++O++t.flatten) H p.s G v p.d)(d:∀a∈G,L a=none)(h:C[i]?=some (some ⟨.lst s,.list X⟩))(J:T.coer s p=true):∃l B,σ[i]?=some (some (.ref l))/\H l=some (.lst B)/\B.length=X.length/\∃Fs',EnvOk K L O Fs' (upd H l (.lst (B++[v]))) σ (C.set i (some ⟨.lst s,.list (X++[p.d])⟩)):=by
 obtain⟨f,u,F,Y,g,e,r⟩:=E.move h;have hi:i<C.length:=(Mv h).1
 cases e with
 |@lst _ l B _ Fs0 hsv hp hl hf nd q=>
  refine⟨l,B,Y,hp,hl,t.set i (l::(Fs0++[bb s G]).flatten),?_⟩
  have hlF:l∈t.flatten:=r l (Mn _ mem_cons_self)
  have M:L l=none:=E.fresh l hlF
  have c:∀a∈bb s G,a∈G:=λa Z=>IZ Z
  obtain⟨k1,k2,S⟩:=Mt g.ndO;obtain⟨g1,g2,g3⟩:=Mt k2;have P:(bb s G).Nodup:=by
   cases s<;>first|exact nodup_nil|exact g1
  have n:((l::(Fs0++[bb s G]).flatten)++O).Perm ((l::Fs0.flatten)++(bb s G++O)):=by
   rw[xE];show(l::((Fs0.flatten++bb s G)++O)).Perm (l::(Fs0.flatten++(bb s G++O)))
   rw[append_assoc]
  have E2:EnvOk K L ((l::Fs0.flatten)++(bb s G++O)) (t.set i []) H σ (C.set i none):=g.drop (λa Z=>by
   rcases Mo Z with z|z
   .exact Mn _ z
   .refine Mm _ ?_
    rcases Mo z with z|z
    .exact Mn _ (c a z)
    .exact Mm _ z) (List.nodup_append.mpr ⟨k1,List.nodup_append.mpr ⟨P,g2,λa Z b U=>g3 a (c a Z) b U⟩,λa Z b U=>S a Z b (by
     rcases Mo U with z|z
     .exact Mn _ (c b z)
     .exact Mm _ z)⟩)
  have E3:=E2.perm n
  have hlin:l∈(l::(Fs0++[bb s G]).flatten)++O:=mem_cons_self
  have E4:=E3.mutO (o:=.lst (B++[v])) hlin hp M
  have lnG:l∉G:=λz=>S l mem_cons_self l (Mn _ z) rfl
  have m:∀a∈(l::(Fs0++[bb s G]).flatten)++O++(t.set i []).flatten,a∈(l::Fs0.flatten)++(G++O)++(t.set i []).flatten:=λa Z=>by
   rcases Mo Z with z|z
   .refine Mn _ ?_
    rcases Mo (n.mem_iff.mp z)with y|y
    .exact Mn _ y
    .refine Mm _ ?_
     rcases Mo y with y|y
     .exact Mn _ (c a y)
     .exact Mm _ y
   .exact Mm _ z
  have ownL:Own K ((l::(Fs0++[bb s G]).flatten)++O++(t.set i []).flatten) (upd H l (.lst (B++[v]))) (.lst s) (l::(Fs0++[bb s G]).flatten) (.ref l) (.list (X++[p.d])):=by
   refine .lst hsv eV (by simp[hl]) (by simp[hf]) ?_ λj w d' x N R I=>?_
   .have nd2:=E3.ndO
    exact(Mt nd2).1
   .by_cases A:j<B.length
    .rw[getElem?_append_left A]at N
     rw[getElem?_append_left (by omega)]at R
     rw[getElem?_append_left (by omega)]at I
     exact((q j w d' x N R I).perm m).mut hsv (Mn _ hlin) (λz=>(List.nodup_cons.mp nd).1 (pG I z)) hp
    .have hj':j=B.length:=by
      have:=(Mv N).1
      rw[length_append,length_singleton]at this;omega
     subst hj'
     rw[getElem?_append_right (Mz _),Nat.sub_self]at N;rw[getElem?_append_right (by omega),show B.length-X.length=0 by omega]at R
     rw[getElem?_append_right (by omega),show B.length-Fs0.length=0 by omega]at I
     cases N
     cases R
     cases I;have osub:∀a∈(l::(Fs0++[bb s G]).flatten)++O++(t.set i []).flatten,a∈G++O++t.flatten:=λa Z=>by
      rcases Mo (m a Z)with z|z
      .rcases Mo z with z|z
       .exact Mm _ (r a (Mn _ z))
       .exact Mn _ z
      .exact Mm _ (r a (Mm _ z))
     have o3:=o.coer (s:=s) J osub λa Z hO=>by
      cases s with
      |leaf=>
       exfalso
       rw[xE]at hO;have hO':a∈(l::Fs0.flatten)++O++(t.set i []).flatten:=by simpa[bb]using hO
       have ndE:=E.nd
       rw[append_assoc]at ndE;have dis:=(Mt ndE).2.2
       rcases Mo hO' with z|z
       .rcases Mo z with z|z
        .exact dis a Z a (Mm _ (r a (Mn _ z))) rfl
        .exact dis a Z a (Mn _ z) rfl
       .exact dis a Z a (Mm _ (r a (Mm _ z))) rfl
      |view=>cases hsv
      |lst s=>exact Z
      |tup ss=>exact Z
     exact o3.mut hsv (Mn _ hlin) (λz=>lnG (c l z)) hp
  have k:=EnvOk.put (i:=i) (p:=⟨.lst s,.list (X++[p.d])⟩) (v:=.ref l) E4 ownL rfl (λa Z=>?_) (by rw[length_set];exact hi)
  .rw[set_set,set_set,DE Y]at k
   exact k
  .rcases Mp Z with z|z
   .rw[z];exact M
   .rw[xE]at z
    rcases Mo z with z|z
    .exact E.fresh a (r a (Mn _ (Ms _ z)))
    .exact d a (c a z)
theorem Ij{QL:List V->Hp->Prop}(Y:tE K W fa σ H λv F=>QL [v] F):tA K W (ae fa af) σ H QL:=by
 obtain⟨L,O,t,C,E,Y⟩:=Y;refine⟨L,O,t,C,E,?_⟩
 unfold ae af
 cases e:fa C with
 |ok p N=>
  rw[e]at Y;intro B F r U A
  match B,r,A.len1,A.len2 with
  |[v],[G],_,_=>exact Y v F G U ⟨A.same,by simpa using A.env,by simpa using A.new,by simpa using A.own 0 v p G rfl rfl rfl⟩
 |er c N=>rw[e]at Y;exact Y
 |no=>rw[e]at Y;exact Y
theorem tD{o:Option (Option PV)}(h:iM o=true):∃s X,o=some (some ⟨.lst s,.list X⟩):=by
 unfold iM at h;split at h
 .exact⟨_,_,rfl⟩
 .cases h
theorem EnvOk.ownL{H:Hp}{O:List Addr}{C:Ev}{i:Nat}{s:Sh}(E:EnvOk K L O t H σ C)(h:C[i]?=some (some ⟨.lst s,.list X⟩)):∃l B,σ[i]?=some (some (.ref l))/\H l=some (.lst B)/\B.length=X.length:=by
 obtain⟨f,v,F,Y,M,P⟩:=E.slot i _ h
 cases P with
 |@lst _ l B _ Fs0 hsv hp hl hf nd q=>exact⟨l,B,Y,hp,hl⟩
theorem sS{i:Nat}(h:tS K W (aN i fa) D σ H):eA (Bc K "list" g9 (bT i) (tA K W (ae fa af))) D σ H:=by
 obtain⟨L,O,t,C,E,h⟩:=h;unfold aN at h
 cases e:iM C[i]? with
 |false=>rw[e]at h;exact h.elim
 |true=>
  rw[e]at h;obtain⟨s,X,k⟩:=tD e;obtain⟨l,B,Y,M,P⟩:=E.ownL k;refine⟨.ref l,Y,.inl ⟨rfl,B,.of M⟩,Ij (iU (D:=D) ⟨L,O,t,C,E,h⟩ λL O t I p v f G g _ d A w=>?_)⟩
  unfold zQ at w;split at w
  .rename_i n a N
   cases J:(T.coer n p&&decide (a.length<sizeLine))with
   |false=>rw[J]at w;exact w.elim
   |true=>
    rw[J]at w;simp only[Bool.and_eq_true,decide_eq_true_eq]at J
    obtain⟨m,b,S,c,y,U,j⟩:=zP A.env A.own d N J.1;rw[Y]at S
    cases S;exact⟨l,b,v,rfl,rfl,c,by rw[y];exact J.2,w σ _ U j⟩
  .exact w.elim
noncomputable def bV(i:Nat)(w:FS):List MA->Ev->gj
 |[],Γ=>.nx Γ
 |d::r,Γ=>if i<Γ.length then(match w (Γ.set i (MB d))with
  |.nx N=>bV i w r N
  |.ct N=>bV i w r N
  |.bk N=>.nx N
  |.rt p=>.rt p
  |.er c N=>.er c N
  |.no=>.no)else .no
noncomputable def dR(i:Nat)(u:FI)(w:FS):FS:=λC=>match u C with
 |.ok t I=>if t.st then bV i w t.ds I else .no
 |.er c I=>.er c I
 |.no=>.no
theorem EnvOk.rebase{H:Hp}{O:List Addr}{C:Ev}(E:EnvOk K L O t H σ C):EnvOk K (bZ H t.flatten) O t H σ C/\Same L (bZ H t.flatten):=
 ⟨⟨E.len1,E.len2,hid_le,E.nd,E.inH,λa Z=>by unfold bZ;rw[if_pos Z],E.slot⟩,λb o e=>ur (E.same b o e) λz=>by have:=E.fresh b z;rw[e]at this;cases this⟩
theorem EnvOk.unbase{b H:Hp}{O:List Addr}{C:Ev}(E:EnvOk K b O t H σ C)(s:Same L b):EnvOk K L O t H σ C:=
 ⟨E.len1,E.len2,s.trans E.same,E.nd,E.inH,λa Z=>s.free (E.fresh a Z),E.slot⟩
theorem RetOk.unbase{b H:Hp}{O:List Addr}{p:PV}{v:V}(r:RetOk K b O p v H G)(s:Same L b):RetOk K L O p v H G:=
 ⟨s.trans r.same,λa Z=>s.free (r.fresh a Z),r.inH,r.nd,r.own,r.nv⟩
theorem BJ{i:Nat}{fi:FI}{w:FS}(h:tS K W (dR i fi w) D σ H):xS (tI K W fi) (b8 i) (tS K W w) D σ H:=by
 obtain⟨L,O,Fs,C,E,h⟩:=h;refine⟨L,O,Fs,C,E,?_⟩
 unfold dR at h
 cases e:fi C with
 |er c I=>rw[e]at h;exact λF Fs' s j=>h σ F Fs' j
 |no=>rw[e]at h;exact h
 |ok t I=>
  rw[e]at h;intro J f g B P n E1 n1 it hP hP1 hst hr;have h:cF K W L O D (if t.st then bV i w t.ds I else .no):=h
  cases A:t.st with
  |false=>rw[A]at h;exact h.elim
  |true=>
   rw[A]at h;have h:cF K W L O D (bV i w t.ds I):=h
   obtain⟨E1',sHe⟩:=E1.rebase;have hlen:B.length=t.ds.length:=hr.1
   refine⟨λk m σ' F=>m=B.length-k/\k<=B.length/\∃M X,EnvOk K (bZ f g.flatten) O X F σ' M/\cF K W L O D (bV i w (t.ds.drop k) M),⟨B.length,by simp,Nat.zero_le _,I,g,E1',by simpa using h⟩,?_⟩
   rintro k m σ' F ⟨rfl,hk,M,X,Ek,hw⟩
   have S:P F:=hst A F Ek.same
   by_cases hlt:k<B.length
   case neg=>
    left
    have hke:k=B.length:=by omega
    have:t.ds.drop k=[]:=List.drop_eq_nil_of_le (by omega)
    rw[this]at hw;exact⟨by rw[hke];exact it.stop F S,hw σ' F X (Ek.unbase sHe)⟩
   case pos=>
    right
    have hv:B[k]?=some B[k]:=Mq hlt
    have hkd:k<t.ds.length:=by omega
    have y:t.ds[k]?=some t.ds[k]:=Mq hkd
    have hdr:t.ds.drop k=t.ds[k]::t.ds.drop (k+1):=drop_eq_getElem_cons hkd
    rw[hdr]at hw;generalize hdk:t.ds[k]=d at y hw
    generalize hvk:B[k]=v at hv
    obtain⟨hgo,hyld⟩:=it.go k F v S hv
    simp only[bV]at hw
    by_cases l:i<M.length
    case neg=>rw[if_neg l]at hw;exact hw.elim
    rw[if_pos l]at hw;have rep:Rep K (bZ F (O++X.flatten)) v d:=by
     refine(hr.2 k v d hv y).mono λb o U=>?_
     have hb1:bZ f g.flatten b=some o:=sub_hid b o U
     have hbO:b∉O:=λz=>by
      unfold bZ at U;rw[if_pos (Mn _ z)]at U
      cases U
     have hbF:b∉X.flatten:=λz=>by
      have:=Ek.fresh b z
      rw[hb1]at this
      cases this
     exact ur (Ek.same b o hb1) λz=>(Mo z).elim hbO hbF
    have Ep:EnvOk K (bZ f g.flatten) O (X.set i []) F (σ'.set i (some v)) (M.set i (MB d)):=
     EnvOk.put (G:=[]) (p:=⟨.leaf,d⟩) (v:=v) Ek (.leaf rep) rfl (λa Z=>by simp at Z) l
    refine⟨hgo,λY H2=>∃M X,EnvOk K (bZ f g.flatten) O X H2 Y M/\cF K W L O D (bV i w (t.ds.drop (k+1)) M),λY H2 q=>⟨B.length-(k+1),by omega,rfl,hlt,q⟩,λx Hx hx=>?_⟩
    obtain⟨rfl,rfl⟩:=hyld x Hx hx;show tS K W w _ (σ'.set i (some x)) Hx
    refine⟨bZ f g.flatten,O,_,_,Ep,?_⟩
    cases eb:w (M.set i (MB d))with
    |nx N=>rw[eb]at hw;exact λY H2 R E2=>⟨N,R,E2,hw⟩
    |ct N=>rw[eb]at hw;exact λY H2 R E2=>⟨N,R,E2,hw⟩
    |bk N=>rw[eb]at hw;exact λY H2 R E2=>hw Y H2 R (E2.unbase sHe)
    |rt p=>rw[eb]at hw;exact λu H2 G r=>hw u H2 G (r.unbase sHe)
    |er c N=>rw[eb]at hw;exact λY H2 R E2=>hw Y H2 R (E2.unbase sHe)
    |no=>rw[eb]at hw;exact hw
end
inductive Res where
 |ok (p:PV)|er (c:Str)|no
noncomputable def pJ(K:Fg)(n:Nat)(w:List MA->Res):Sp:=λB H Q _=>B.length=n/\∃O X,O.Nodup/\(∀a∈O,H a≠none)/\Reps K (bZ H O) B X/\match w X with
 |.ok p=>∀v F G,RetOk K H O p v F G->Q v F
 |.er _=>False
 |.no=>False
noncomputable def av(n:Nat)(X:List MA):Ev:=X.map (λd=>some ⟨.leaf,d⟩)++List.replicate (n-X.length) none
noncomputable def aI(n:Nat)(g:FS)(X:List MA):Res:=match g (av n X)with
 |.nx _=>.ok ⟨.leaf,.none⟩
 |.rt p=>.ok p
 |.er c _=>.er c
 |_=>.no
section
variable{P:Program}{w:World}{K:Fg}{mg:Str->Option Value}{base:Heap}
theorem tK{H:Hp}{O:List Addr}(j:B.length<=N.length)(b:O.Nodup)(inH:∀a∈O,H a≠none)(o:Reps K (bZ H O) B X):EnvOk K H O (List.replicate N.length []) H (L2.start N B) (av N.length X):=by
 have d:(List.replicate N.length ([]:List Addr)).flatten=[]:=by simp
 have S:=o.1
 refine⟨by simp[L2.start,av,S],by simp[av];omega,Same.refl _,by rw[d];simpa using b,by rw[d];simpa using inH,λa Z=>by rw[d]at Z;simp at Z,λi p C=>?_⟩
 unfold av at C;by_cases l:i<X.length
 .rw[getElem?_append_left (by simpa using l),getElem?_map,Mq l]at C
  cases C;refine⟨rfl,B[i]'(by omega),[],?_,?_,?_⟩
  .unfold L2.start
   rw[getElem?_append_left (by simp;omega),getElem?_map,Mq (by omega)]
   rfl
  .rw[getElem?_replicate,if_pos (by omega)]
  .refine .leaf ?_
   rw[d,append_nil];exact o.2 i _ _ (Mq _) (Mq l)
 .rw[getElem?_append_right (by simpa using l),getElem?_replicate]at C
  split at C<;>cases C
theorem C0{j:Str}{d:Stmt}{f:Addr}{g:FS}(F:Fun K x j d f y)(S:cm N J (aL d))(U:∀(a:Value)(A:Around)(L:List Env)(s:Shared)(H:Hp)(E:XK),Room k (A.deeper (envOfC j (aL d) s.heap.objs.size f a)) ->
   PSs (ph lZ P w K mg base N j (aL d) f a A L s H E).nox (bR d) (tS K W0 g)):eQ P w K mg base lZ (k+1) f y J (pJ K J.length (aI N.length g)):=by
 have u:J.length<=N.length:=by have:=congrArg List.length S.pre;rw[length_take]at this;omega
 refine F.ok S (λB H Q E h=>h.1) (λa A L s H B Q E m h=>⟨_,U a A L s H E m,?_⟩)
 obtain⟨r,O,X,q,inH,o,w⟩:=h;refine⟨H,O,List.replicate N.length [],av N.length X,tK (by omega) q inH o,?_⟩
 unfold aI at w
 cases e:g (av N.length X)with
 |nx b=>
  rw[e]at w;exact λZ i n l=>w .non i [] ⟨l.same,(λ_ z=>nomatch z),(λ_ z=>nomatch z),nodup_nil,.leaf .non,rfl⟩
 |rt p=>rw[e]at w;exact w
 |bk b=>rw[e]at w;exact w.elim
 |ct b=>rw[e]at w;exact w.elim
 |er c b=>rw[e]at w;exact w.elim
 |no=>rw[e]at w;exact w.elim
end
noncomputable def ai(n:Nat)(w:List MA->Res)(d:FL):F1:=λC=>(d C).bind λJ N=>if J.length=n then(match w (J.map (·.d))with
 |.ok p=>if J.all (T.coer .leaf)then .ok p N else if bU p.d then .ok ⟨.leaf,p.d⟩ N else .ok ⟨.view,p.d⟩ N
 |_=>.no)else .no
section
variable{K:Fg}{W:XW}{σ:St}{H:Hp}{Q:VK}{fl:FL}
theorem yu{n:Nat}{w:List MA->Res}{E:XK}(h:tE K W (ai n w fl) σ H Q):eB (pJ K n w) [] E (tA K W fl) σ H Q:=by
 obtain⟨L,O,t,C,E0,h⟩:=h;refine⟨L,O,t,C,E0,?_⟩
 unfold ai at h
 cases e:fl C with
 |er c N=>rw[e]at h;exact h
 |no=>rw[e]at h;exact h
 |ok b I=>
  rw[e]at h;intro B f Gs g A;have h:Wants K W L O t H σ Q (if b.length=n then(match w (b.map (·.d))with|.ok p=>if b.all (T.coer .leaf)then .ok p I else if bU p.d then .ok ⟨.leaf,p.d⟩ I else .ok ⟨.view,p.d⟩ I|_=>.no)else .no):=h
  by_cases j:b.length=n
  case neg=>rw[if_neg j]at h;exact h.elim
  rw[if_pos j]at h;have S:(B++[]).length=n:=by rw[append_nil,A.len1];exact j
  cases F:w (b.map (·.d))with
  |er c=>rw[F]at h;exact h.elim
  |no=>rw[F]at h;exact h.elim
  |ok p=>
   rw[F]at h;have h:Wants K W L O t H σ Q (if b.all (T.coer .leaf)then .ok p I else if bU p.d then .ok ⟨.leaf,p.d⟩ I else .ok ⟨.view,p.d⟩ I):=h
   obtain⟨n1,n2,m⟩:=Mt A.env.nd;obtain⟨m1,x,X⟩:=Mt n1;have newF:∀a∈g.flatten,a∈t.flatten\/H a=none:=λa Z=>A.new a (Mm _ Z)
   cases J:b.all (T.coer .leaf)with
   |true=>
    rw[J]at h;have h:Wants K W L O t H σ Q (.ok p I):=h
    refine⟨S,O++g.flatten,b.map (·.d),A.env.dropL.nd,A.env.dropL.inH,?_,?_⟩
    .rw[append_nil]
     refine⟨A.reps.1,λi v d Y M=>?_⟩
     rw[getElem?_map]at M
     cases R:b[i]? with
     |none=>rw[R]at M;cases M
     |some q=>
      rw[R]at M
      cases M;have l:=(Mv R).1
      have U:Gs[i]?=some (Gs[i]'(by rw[A.len2];exact l)):=Mq _
      have o:=A.own i v q _ Y R U
      have o2:=o.coer (s:=.leaf) (O':=O++g.flatten) (List.all_eq_true.mp J q (mem_of_getElem? R)) kr λa Z z=>by
       exfalso
       have k:=pG U Z
       rcases Mo z with y|y
       .exact X a k a y rfl
       .exact m a (Mn _ k) a y rfl
      cases o2 with
      |leaf r=>exact r
    .rw[F]
     intro v u G r;refine h v u G g ⟨A.same.trans r.same,A.env.dropL.hide r.same r.nd r.fresh r.inH,λa Z=>?_,by rw[append_assoc];exact r.own⟩
     rcases Mo Z with z|z
     .exact .inr (A.same.free (r.fresh a z))
     .exact newF a z
   |false=>
    rw[J]at h;have h:Wants K W L O t H σ Q (if bU p.d then .ok ⟨.leaf,p.d⟩ I else .ok ⟨.view,p.d⟩ I):=h
    refine⟨S,[],b.map (·.d),nodup_nil,(λ_ z=>nomatch z),by rw[append_nil,IQ];exact A.reps,?_⟩
    rw[F];intro v u G r
    cases P:bU p.d with
    |true=>
     rw[P]at h;exact Wants.scal h (r.own.rep.sc P) (A.same.trans r.same) (A.env.dropL.grow r.same) (λa Z=>Z) E0.ndO newF
    |false=>
     rw[P]at h;have h:Wants K W L O t H σ Q (.ok ⟨.view,p.d⟩ I):=h
     exact h v u [] g ⟨A.same.trans r.same,by simpa using A.env.dropL.grow r.same,by simpa using newF,.view r.own.rep⟩
end
theorem F9:bootBuiltins "len"=some (.builtin "len"):=by decide +kernel
theorem Gc:bootBuiltins "all"=some (.builtin "all"):=by decide +kernel
theorem Gb:bootBuiltins "any"=some (.builtin "any"):=by decide +kernel
theorem pC:bootBuiltins "sorted"=some (.builtin "sorted"):=by decide +kernel
theorem m4:bootBuiltins "isinstance"=some (.builtin "isinstance"):=by decide +kernel
theorem Ga:bootBuiltins "int"=some (.type "int"):=by decide +kernel
theorem wX:bootBuiltins "list"=some (.type "list"):=by decide +kernel
theorem IM:bootBuiltins "tuple"=some (.type "tuple"):=by decide +kernel
theorem Dj:bootBuiltins "bool"=some (.type "bool"):=by decide +kernel
theorem F7:bootBuiltins "str"=some (.type "str"):=by decide +kernel
section
variable{X:Cx}{W:XW}{a b c e:Expr}{es:List Expr}{pos:Pos}{fa fb fc:F1}{fl:FL}{ga gb:FB}{g1 g2:FS}
theorem Dc{f:CmpOp}{r:R2}{g:MA->MA->Option MA}(K:OpR X (compareOp f) r)(C:GOp X.K r g)(Z:PE X a (tE X.K W fa))(U:PE X b (tE X.K W fb))(E:behindInMarks f b=false:=by with_unfolding_all rfl):PE X (.Compare a [f] [b] pos) (tE X.K W (aj g fa fb)):=bt (yD K Z U E) λ_ _ _=>iX C
theorem C6{f:CmpOp}{r:R2}{g:MA->MA->Option MA}(K:OpR X (compareOp f) r)(C:GOp X.K r g)(Z:PE X a (tE X.K W fa))(U:PE X b (tE X.K W fb))(E:behindInMarks f b=false:=by with_unfolding_all rfl):PT X (.Compare a [f] [b] pos) (tT X.K W (aG ag (aj g fa fb))):=xc (yz K Z U E) λM H d=>yh λQ=>iX C
theorem wO{f j:CmpOp}{r w:R2}{g B:MA->MA->Option MA}(K:OpR X (compareOp f) r)(C:GOp X.K r g)(i:OpR X (compareOp j) w)(M:GOp X.K w B)(Z:PE X a (tE X.K W fa))(U:PE X b (tE X.K W fb))(J:PE X c (tE X.K W fc))(E:lastMarks [f,j] [b,c]=false:=by with_unfolding_all rfl):PE X (.Compare a [f,j] [b,c] pos) (tE X.K W (gH g B fa fb fc)):=bt (vI K i Z U J E) λ_ _ _=>vi C M
theorem da_nil:PA X [] (tA X.K W af):=AE pF λ_ _ _=>BC
theorem da_cons(Z:PE X e (tE X.K W fa))(m:PA X es (tA X.K W fl))(P:starEach (e::es) X.env=(false,eval e X.env)::starEach es X.env:=by rfl):PA X (e::es) (tA X.K W (ae fa fl)):=AE (gm Z m P) λ_ _ _=>yr
theorem wQ{i:String}{r:List V->Hp->VK->Prop}{g:List MA->Option MA}{p:Pos}(J:CallR X (.builtin i) r)(C:GCall X.K r g)(f:bootBuiltins x=some (.builtin i))(E:X.mg x=none)(Z:PA X (e::es) (tA X.K W fl))(k:Gl X x:=by rfl)(j:x ≠ "__name__":=by decide)(d:(x==("__debug__":Str))=false:=by decide)(R:starEach (e::es) X.env=(false,eval e X.env)::starEach es X.env:=by rfl)(u:(backTo pos (starEach es X.env)).any (·.1)=false:=by rfl):PE X (.Call (.Name x p) (e::es) [] pos) (tE X.K W (bp g fl)):=bt (Je J k E f Z j d R u) λ_ _ _=>Am C
theorem FT{i:String}{r:List V->Hp->VK->Prop}{g:List MA->Option MA}{p:Pos}(J:CallR X (.type i) r)(C:GCall X.K r g)(f:bootBuiltins x=some (.type i))(E:X.mg x=none)(Z:PA X (e::es) (tA X.K W fl))(k:Gl X x:=by rfl)(j:x ≠ "__name__":=by decide)(d:(x==("__debug__":Str))=false:=by decide)(R:starEach (e::es) X.env=(false,eval e X.env)::starEach es X.env:=by rfl)(u:(backTo pos (starEach es X.env)).any (·.1)=false:=by rfl):PE X (.Call (.Name x p) (e::es) [] pos) (tE X.K W (bp g fl)):=bt (Ja J k E f Z j d R u) λ_ _ _=>Am C
theorem tY{p:Pos}(E:X.mg "list"=none)(Z:PE X e (tE X.K W fa))(k:Gl X "list":=by rfl)(P:starEach [e] X.env=[(false,eval e X.env)]:=by rfl):PE X (.Call (.Name "list" p) [e] [] pos) (tE X.K W (ck fa)):=bt (Ja mY k E wX (da_cons Z da_nil P) (by decide) (by decide) P rfl) λ_ _ _=>sR
theorem zD{f:Addr}{n:Nat}{w:List MA->Res}{p:Pos}(F:eQ X.prog X.w X.K X.mg X.base lZ k f y J (pJ X.K n w))(m:Room k X.A)(E:X.mg x=some (.ref f))(G:PySem.W.keepIn X.K (.ref f)=true)(U:Binds X.K y J [])(Z:PA X (e::es) (tA X.K W fl))(C:Gl X x:=by rfl)(d:(x==("__debug__":Str))=false:=by decide)(R:starEach (e::es) X.env=(false,eval e X.env)::starEach es X.env:=by rfl)(u:(backTo pos (starEach es X.env)).any (·.1)=false:=by rfl):PE X (.Call (.Name x p) (e::es) [] pos) (tE X.K W (ai n w fl)):=bt (xx F m C E G U .nil hJ Z d R u) λ_ _ _=>yu
theorem FR{r:Expr}{p:Pos}(E:X.mg "range"=none)(Z:PA X [a] (tA X.K W fl))(C:Gl X "range":=by rfl)(P:starEach [a] X.env=[(false,eval a X.env)]:=by rfl):PI X r (.Call (.Name "range" p) [a] [] pos) (tI X.K W (gh fl)):=so (lh C E Z P) λ_ _ _=>BI
theorem FQ{r:Expr}{p:Pos}(E:X.mg "range"=none)(Z:PA X [a,b] (tA X.K W fl))(C:Gl X "range":=by rfl)(P:starEach [a,b] X.env=[(false,eval a X.env),(false,eval b X.env)]:=by rfl)(o:starEach [b] X.env=[(false,eval b X.env)]:=by rfl):PI X r (.Call (.Name "range" p) [a,b] [] pos) (tI X.K W (zb fl)):=so (sY C E Z P o) λ_ _ _=>BH
noncomputable def aM:FB:=λC=>.ok true C
theorem zC{d:Scope}{r:Pos}{U:List Expr}{u:FI}{m:F1}{v:FB}(s:Sh)(i:Nat)(S:d9 X.N [i] X.env.scope d)(L:X.N.Nodup)(q:PI X (.Name x r) z (tI X.K W u))(J:∀l C t w K,PF (blk X d l C t w K) U (tT X.K W0 v))(R:∀l C t w K,PE (blk X d l C t w K) o (tE X.K W0 m))(E:X.calm=true:=by rfl)(F:X.N[i]?=some x:=by rfl)(f:∀l C t w K,Loc (blk X d l C t w K).env.scope x:=by first|exact λ_ _ _ _ _=>Or.inl rfl|exact λ_ _ _ _ _=>Or.inr rfl)(g:∀l C t w K,(blk X d l C t w K).fn x=true\/(blk X d l C t w K).env.scope.names.lookup x=some .local:=by first|exact λ_ _ _ _ _=>Or.inr rfl|exact λ_ _ _ _ _=>Or.inl rfl)(P:∀x,foldedSetIterable z X.env x=pure x:=by intro _;rfl):PE X (.ListComp o [⟨.Name x r,z,U,0⟩] d pos) (tE X.K W (aw s i u v m)):=
 bt (rF S E q (λl C t w K=>qZ (X:=blk X d l C t w K) (i:=i) L F (f l C t w K) (g l C t w K)) J R P) λ_ _ _=>Iy
theorem C7(own:Bool)(i:Nat)(L:X.N.Nodup)(Z:PE X a (tE X.K W fa))(l:X.N[i]?=some x:=by rfl)(F:Loc X.env.scope x:=by first|exact Or.inl rfl|exact Or.inr rfl)(P:swapsWith a (some (.Name x A)) pos.line X.env=pure false:=by rfl)(g:X.fn x=true\/X.env.scope.names.lookup x=some .local:=by first|exact .inl rfl|exact .inr rfl):PS X (.Assign [.Name x A] a pos) (tS X.K W (aA own i fa)):=eO (xu L l F Z P g) λ_ _ _=>ve
theorem qH(own:Bool)(j:Nat){d:Scope}{y:Str}{r Z:Pos}{U:List Expr}{u:FI}{m:F1}{v:FB}(s:Sh)(i:Nat)(S:d9 X.N [i] X.env.scope d)(L:X.N.Nodup)(q:PI X (.Name x r) z (tI X.K W u))(J:∀l C t w K,PF (blk X d l C t w K) U (tT X.K W0 v))(R:∀l C t w K,PE (blk X d l C t w K) o (tE X.K W0 m))(n:swapsWith (.ListComp o [⟨.Name x r,z,U,0⟩] d pos) (some (.Name y A)) Z.line X.env=pure true:=by rfl)(f:X.N[j]?=some y:=by rfl)(k:X.env.scope.names.lookup y=some .local:=by rfl)(E:X.calm=true:=by rfl)(F:X.N[i]?=some x:=by rfl)(B:∀l C t w K,Loc (blk X d l C t w K).env.scope x:=by first|exact λ_ _ _ _ _=>Or.inl rfl|exact λ_ _ _ _ _=>Or.inr rfl)(g:∀l C t w K,(blk X d l C t w K).fn x=true\/(blk X d l C t w K).env.scope.names.lookup x=some .local:=by first|exact λ_ _ _ _ _=>Or.inr rfl|exact λ_ _ _ _ _=>Or.inl rfl)(P:∀x,foldedSetIterable z X.env x=pure x:=by intro _;rfl):PS X (.Assign [.Name y A] (.ListComp o [⟨.Name x r,z,U,0⟩] d pos) Z) (tS X.K W (aA own j (aw s i u v m))):=
 eO (Jo L f k S E q (λl C t w K=>qZ (X:=blk X d l C t w K) (i:=i) L F (B l C t w K) (g l C t w K)) J R n P) λD M H h=>by
  have p:eC (tE X.K W (aw s i u v m)) (b8 j) D M H:=ve h
  exact Iy p
theorem tM(i:Nat){p d:Pos}(Z:PE X a (tE X.K W fa))(L:X.N[i]?=some x:=by rfl)(f:Dk X.env.scope x:=by first|exact Or.inl rfl|exact Or.inr (Or.inl rfl)|exact Or.inr (Or.inr rfl))(y:(x==("__debug__":Str))=false:=by decide)(z:(x==("__classdict__":Str))=false:=by decide)(P:starEach [a] X.env=[(false,eval a X.env)]:=by rfl)(j:attributeBase (.Name x p) "append" X.env (eval (.Name x p) X.env)=eval (.Name x p) X.env:=by rfl)(k:(d.endLine==h.line)=true:=by rfl)(q:((backTo h (starEach [a] X.env)).all (λx=>!x.1)&&(backToKw h (keywordEach [] X.env)).all (λx=>x.1.isSome)
   && decide ([a].length+([]:List Keyword).length+(if([]:List Keyword).isEmpty then 0 else 1)<30))=true:=by rfl)(n:swapsWith (.Call (.Attribute (.Name x p) "append" d) [a] [] h) none pos.line X.env=pure false:=by rfl):PS X (.Expr (.Call (.Attribute (.Name x p) "append" d) [a] [] h) pos) (tS X.K W (aN i fa)):=
 eO (xg (oo PySem.F.plainAttrs_list PySem.F.slot_list_append PySem.F.type_list_append GM (Dw L f y z) (da_cons Z da_nil P) j q k P rfl) n) λ_ _ _=>sS
theorem C8(i:Nat){r:Pos}{w:List Stmt}{u:FI}{g:FS}(C:PassesOwn (model X.prog X.w) X.A X.env X.xe)(L:X.N.Nodup)(q:PI X (.Name x r) z (tI X.K W u))(U:PSs X w (tS X.K W g))(E:X.calm=true:=by rfl)(F:X.N[i]?=some x:=by rfl)(S:Loc X.env.scope x:=by first|exact Or.inl rfl|exact Or.inr rfl)(d:X.fn x=true\/X.env.scope.names.lookup x=some .local:=by first|exact .inl rfl|exact .inr rfl)(P:∀x,foldedSetIterable z X.env x=pure x:=by intro _;rfl):PS X (.For (.Name x r) z w [] pos) (tS X.K W (dR i u g)):=
 eO (vC C E q (qZ L F S d) U P) λ_ _ _=>BJ
end
structure Cp(X:Cx)(N gl:List Str)(vs cs ls lo gs:List Nat):Prop where
 hN:X.N=N
 nd:N.Nodup
 nm:∀x∈N,(x==("__debug__":Str))=false/\(x==("__classdict__":Str))=false
 ng:∀x∈gl,(x==("__debug__":Str))=false/\x ≠ "__name__"
 vis:∀(i:Nat) x,N[i]?=some x->vs.contains i=true->Dk X.env.scope x
 cel:∀(i:Nat) x,N[i]?=some x->cs.contains i=true->X.env.scope.names.lookup x=some .cell\/X.env.scope.names.lookup x=some .free
 loc:∀(i:Nat) x,N[i]?=some x->ls.contains i=true->Loc X.env.scope x/\(X.fn x=true\/X.env.scope.names.lookup x=some .local)
 loo:∀(i:Nat) x,N[i]?=some x->lo.contains i=true->X.env.scope.names.lookup x=some .local
 glb:∀(j:Nat) x,gl[j]?=some x->gs.contains j=true->Gl X x
 calm:X.calm=true
 kind:X.env.scope.kind=.function
noncomputable def fP(sc:Scope)(a:List NameKind)(o:Option Str):Bool:=match o with
 |some x=>(match sc.names.lookup x with
  |some k=>a.any λz=>decide (z=k)
  |none=>false)
 |none=>true
noncomputable def kl(N gl:List Str)(B I s G H:List Nat)(sc:Scope):Bool:=
 decide (sc.kind=.function)&&(B.all λi=>fP sc [.local,.cell,.free] N[i]?)&&(I.all λi=>fP sc [.cell,.free] N[i]?)&&(s.all λi=>fP sc [.local,.cell] N[i]?)&&(G.all λi=>fP sc [.local] N[i]?)&&(H.all λj=>fP sc [.globalImplicit] gl[j]?)
noncomputable def tx(N gl:List Str):Bool:=decide N.Nodup&&(N.all λx=>!(x==("__debug__":Str))&&!(x==("__classdict__":Str)))&&(gl.all λx=>!(x==("__debug__":Str))&&!decide (x = "__name__"))
theorem DG{sc:Scope}{a:List NameKind}(h:fP sc a (some x)=true):∃k∈a,sc.names.lookup x=some k:=by
 unfold fP at h;simp only at h
 split at h
 .rename_i k e
  simp only[any_eq_true,decide_eq_true_eq]at h
  obtain⟨z,U,rfl⟩:=h;exact⟨z,U,e⟩
 .cases h
theorem DN{P:Nat->Bool}{l:List Nat}{i:Nat}(h:l.all P=true)(a:l.contains i=true):P i=true:=by
 rw[all_eq_true]at h;exact h i (by simpa using a)
structure Ml(N gl:List Str)(vs cs ls lo gs:List Nat)(sc:Scope):Prop where
 kind:sc.kind=.function
 vis:∀(i:Nat) x,N[i]?=some x->vs.contains i=true->Dk sc x
 cel:∀(i:Nat) x,N[i]?=some x->cs.contains i=true->sc.names.lookup x=some .cell\/sc.names.lookup x=some .free
 loc:∀(i:Nat) x,N[i]?=some x->ls.contains i=true->Loc sc x
 loo:∀(i:Nat) x,N[i]?=some x->lo.contains i=true->sc.names.lookup x=some .local
 glb:∀(j:Nat) x,gl[j]?=some x->gs.contains j=true->sc.names.lookup x=some .globalImplicit
theorem Ic{gl:List Str}{B s a H:List Nat}{sc:Scope}(h:kl N gl B I s a H sc=true):Ml N gl B I s a H sc:=by
 unfold kl at h;simp only[Bool.and_eq_true,decide_eq_true_eq]at h
 obtain⟨⟨⟨⟨⟨o,Y⟩,M⟩,P⟩,m⟩,C⟩:=h;refine⟨o,λi x e l=>?_,λi x e l=>?_,λi x e l=>?_,λi x e l=>?_,λi x e l=>?_⟩
 .have q:=DN Y l
  rw[e]at q;obtain⟨k,G,q⟩:=DG q;simp only[mem_cons,not_mem_nil,or_false]at G
  rcases G with rfl|rfl|rfl
  .exact .inl q
  .exact .inr (.inl q)
  .exact .inr (.inr q)
 .have q:=DN M l
  rw[e]at q;obtain⟨k,G,q⟩:=DG q;simp only[mem_cons,not_mem_nil,or_false]at G
  rcases G with rfl|rfl
  .exact .inl q
  .exact .inr q
 .have q:=DN P l
  rw[e]at q;obtain⟨k,G,q⟩:=DG q;simp only[mem_cons,not_mem_nil,or_false]at G
  rcases G with rfl|rfl
  .exact .inl q
  .exact .inr q
 .have q:=DN m l
  rw[e]at q;obtain⟨k,G,q⟩:=DG q;simp only[mem_cons,not_mem_nil,or_false]at G
  rw[G]at q;exact q
 .have q:=DN C l
  rw[e]at q;obtain⟨k,G,q⟩:=DG q;simp only[mem_cons,not_mem_nil,or_false]at G
  rw[G]at q;exact q
theorem vP{gl:List Str}(h:tx N gl=true):N.Nodup/\(∀x∈N,(x==("__debug__":Str))=false/\(x==("__classdict__":Str))=false)/\∀x∈gl,(x==("__debug__":Str))=false/\x ≠ "__name__":=by
 unfold tx at h;simp only[Bool.and_eq_true,decide_eq_true_eq,all_eq_true,Bool.not_eq_true',decide_eq_false_iff_not]at h
 exact⟨h.1.1,h.1.2,h.2⟩
theorem Cp.fn{P:Program}{w:World}{p:Str->Option Value}{g:Heap}{gl:List Str}{B k G d:List Nat}{j:Str}{sc:Scope}{f:Addr}{F:Value}{A:Around}{L:List Env}{s:Shared}{H:Hp}{E:XK}(h:kl N gl B I k G d sc=true)(Z:tx N gl=true):Cp (ph lZ P w K p g N j sc f F A L s H E).nox N gl B I k G d:=by
 obtain⟨a,b,c⟩:=vP Z
 have q:=Ic h
 exact⟨rfl,a,b,c,q.vis,q.cel,λi x e l=>⟨q.loc i x e l,.inl rfl⟩,q.loo,q.glb,rfl,q.kind⟩
theorem Ak{env:Env}{x:Str}{k:NameKind}:∀{b:List (Str×NameKind)},b.lookup x=some k ->
  (b.map λ(n,k)=>if(k==NameKind.free&&env.scope.kind==.function&&env.kindOf n==some .cell)then(n,NameKind.cell)else(n,k)).lookup x=some k \/
  (k=.free/\(b.map λ(n,k)=>if(k==NameKind.free&&env.scope.kind==.function&&env.kindOf n==some .cell)then(n,NameKind.cell)else(n,k)).lookup x=some .cell)
 |[],h=>by simp at h
 |(n,k')::r,h=>by
  have B:=@Ak env x k r
  rw[map_cons];show List.lookup x ((if(k'==NameKind.free&&env.scope.kind==.function&&env.kindOf n==some .cell)=true then(n,NameKind.cell)else(n,k'))::_)=_\/_/\List.lookup x ((if(k'==NameKind.free&&env.scope.kind==.function&&env.kindOf n==some .cell)=true then(n,NameKind.cell)else(n,k'))::_)=_
  by_cases J:(k'==NameKind.free&&env.scope.kind==.function&&env.kindOf n==some .cell)=true
  .rw[if_pos J]
   cases F:x==n with
   |true=>
    simp only[lookup_cons,F]at h ⊢
    cases h;simp only[Bool.and_eq_true,beq_iff_eq]at J
    exact .inr ⟨J.1.1,trivial⟩
   |false=>
    simp only[lookup_cons,F]at h ⊢
    exact B h
  .rw[if_neg J]
   cases F:x==n with
   |true=>
    simp only[lookup_cons,F]at h ⊢
    cases h;exact .inl rfl
   |false=>
    simp only[lookup_cons,F]at h ⊢
    exact B h
theorem xv{d:Scope}{k:NameKind}(h:d.names.lookup x=some k):(relabel d env).names.lookup x=some k\/(k=.free/\(relabel d env).names.lookup x=some .cell):=Ak h
theorem Cp.blk{X:Cx}{N gl:List Str}{B I s G H n b a c A:List Nat}{d:Scope}(S:Cp X N gl B I s G H)(h:kl N gl n b a c A d=true)(cells C s₀ H₀ ex):Cp (blk X d cells C s₀ H₀ ex) N gl n b a c A:=by
 have q:=Ic h
 refine⟨S.hN,S.nd,S.nm,S.ng,λi x e l=>?_,λi x e l=>?_,λi x e l=>?_,λi x e l=>?_,λi x e l=>?_,S.calm,q.kind⟩
 .show Dk (relabel d X.env) x
  rcases q.vis i x e l with z|z|z
  .rcases xv (env:=X.env) z with y|⟨y,_⟩
   .exact .inl y
   .cases y
  .rcases xv (env:=X.env) z with y|⟨y,_⟩
   .exact .inr (.inl y)
   .cases y
  .rcases xv (env:=X.env) z with y|⟨_,y⟩
   .exact .inr (.inr y)
   .exact .inr (.inl y)
 .show(relabel d X.env).names.lookup x=some .cell\/(relabel d X.env).names.lookup x=some .free
  rcases q.cel i x e l with z|z
  .rcases xv (env:=X.env) z with y|⟨y,_⟩
   .exact .inl y
   .cases y
  .rcases xv (env:=X.env) z with y|⟨_,y⟩
   .exact .inr y
   .exact .inl y
 .show Loc (relabel d X.env) x/\((d.names.any λy=>y.1==x&&y.2==.cell)=true\/(relabel d X.env).names.lookup x=some .local)
  rcases q.loc i x e l with z|z
  .rcases xv (env:=X.env) z with y|⟨y,_⟩
   .exact⟨.inl y,.inr y⟩
   .cases y
  .rcases xv (env:=X.env) z with y|⟨y,_⟩
   .refine⟨.inr y,.inl ?_⟩
    rw[any_eq_true];exact⟨(x,.cell),jT z,by simp⟩
   .cases y
 .show(relabel d X.env).names.lookup x=some .local
  rcases xv (env:=X.env) (q.loo i x e l)with y|⟨y,_⟩
  .exact y
  .cases y
 .show(relabel d X.env).names.lookup x=some .globalImplicit
  rcases xv (env:=X.env) (q.glb i x e l)with y|⟨y,_⟩
  .exact y
  .cases y
noncomputable def kd(N:List Str)(i:Nat)(I:List Nat)(sc:Scope):Bool:=
 decide (sc.kind=.function)&&(sc.names.all λp=>!decide (p.2=.free)||I.any λj=>decide (N[j]?=some p.1)) &&
 ((List.range N.length).all λj=>j==i||(sc.names.all λp=>!decide (some p.1=N[j]?)||(!decide (p.2=.local)&&!decide (p.2=.cell)))) &&
 (sc.names.all λp=>!decide (p.2=.local)||decide (sc.names.lookup p.1=some .local)) &&
 (sc.names.all λp=>!decide (p.2=.free)||sc.names.all λq=>!decide (q.1=p.1)||!decide (q.2=.cell))
theorem IG{X:Cx}{gl:List Str}{B s G H:List Nat}{d:Scope}{i:Nat}(S:Cp X N gl B I s G H)(h:kd N i I d=true):d9 X.N [i] X.env.scope d:=by
 unfold kd at h;simp only[Bool.and_eq_true,decide_eq_true_eq,all_eq_true,Bool.or_eq_true,Bool.not_eq_true',decide_eq_false_iff_not,any_eq_true,mem_range,beq_iff_eq]at h
 obtain⟨⟨⟨⟨o,Y⟩,M⟩,P⟩,m⟩:=h;refine⟨o,λn a=>?_,λj x e A=>?_,λx F e=>?_,λn a J=>?_⟩
 .rcases Y _ a with z|⟨j,A,e⟩
  .exact absurd rfl z
  .exact S.cel j n e (by simpa using A)
 .rw[S.hN]at e
  rcases M j (Mv e).1 with z|z
  .rw[z];exact List.mem_singleton.mpr rfl
  .exfalso
   rcases A with y|y
   .rcases z _ y with w|w
    .exact w e.symm
    .exact w.1 rfl
   .rcases z _ y with w|w
    .exact w e.symm
    .exact w.2 rfl
 .rcases P x F with z|z
  .exact absurd e z
  .exact z
 .rcases m _ a with z|z
  .exact z rfl
  .rcases z _ J with w|w
   .exact w rfl
   .exact w rfl
structure Fx(X Y:Cx):Prop where
 prog:Y.prog=X.prog
 w:Y.w=X.w
 K:Y.K=X.K
 mg:Y.mg=X.mg
 base:Y.base=X.base
 A:Y.A=X.A
noncomputable def Rm(X:Cx):Prop:=X.A.units+64<cLine
noncomputable def pM(X:Cx)(x:Str)(n:Nat)(w:List MA->Res):Prop:=∃(k:Nat)(f:Addr)(fd:FuncData)(ps:List Str),eQ X.prog X.w X.K X.mg X.base lZ k f fd ps (pJ X.K n w)/\Room k X.A/\X.mg x=some (.ref f)/\PySem.W.keepIn X.K (.ref f)=true/\Binds X.K fd ps []
noncomputable def Con(X:Cx)(x:Str)(d:MA):Prop:=∃u v,X.mg x=some u/\RelV v u/\∀H,Rep X.K H v d
section
variable{X:Cx}{N gl:List Str}{vs cs ls lo gs:List Nat}{W:XW}{a b c e:Expr}{es:List Expr}{pos p:Pos}{fa fb fc:F1}{fl:FL}{ga gb:FB}{g1 g2:FS}
theorem Cp.g(S:Cp X N gl vs cs ls lo gs){j:Nat}(A:gl[j]?=some x)(C:gs.contains j=true):Gl X x/\(x==("__debug__":Str))=false/\x ≠ "__name__":=
 ⟨S.glb j x A C,S.ng x (mem_of_getElem? A)⟩
noncomputable def EO:R2:=λx y H Q=>rA (λi j=>.bl (decide (i<j))) x y H Q\/∃i j,x=.str i/\y=.str j/\Q (.bl (decide (i.cps.toList<j.cps.toList))) H
theorem Fm:OpR X (compareOp .Lt) EO:=op_lt.or tf
noncomputable def CY:MA->MA->Option MA
 |.str i,.str j=>some (.bool (!decide (i.cps.toList<j.cps.toList)))
 |_,_=>none
noncomputable abbrev qC:MA->MA->Option MA:=λa b=>(L1 a b).or (CY a b)
noncomputable def BV:R2:=λx y H Q=>rA (λi j=>.bl (decide (j<=i))) x y H Q\/∃i j,x=.str i/\y=.str j/\Q (.bl (!decide (i.cps.toList<j.cps.toList))) H
theorem tm:OpR X (compareOp .GtE) (λx y H Q=>∃i j,x=.str i/\y=.str j/\Q (.bl (!decide (i.cps.toList<j.cps.toList))) H):=by
 intro B s M H x y v u Q I K n h;obtain⟨i,j,rfl,rfl,q⟩:=h;obtain⟨t,rfl⟩:=K;obtain⟨d,rfl⟩:=n;exact PySem.P.ge_str (DO I q rfl)
theorem Fn:OpR X (compareOp .GtE) BV:=op_ge.or tm
theorem zh:GOp K (λx y H Q=>∃i j,x=.str i/\y=.str j/\Q (.bl (!decide (i.cps.toList<j.cps.toList))) H) CY:=by
 intro x y H Q a b d m J e k
 cases m<;>cases J<;>simp only[CY]at e<;>try cases e
 rename_i i j;exact⟨i,j,rfl,rfl,k _ (.bl _)⟩
theorem CS:GOp K BV qC:=(Du λ_ _=>.bl _).or zh
structure Ck(X:Cx)(op:CmpOp)(r:R2)(g:MA->MA->Option MA):Prop where
 o:OpR X (compareOp op) r
 g:GOp X.K r g
theorem mz(R:Rm X):Ck X .Lt EO iN:=⟨Fm,CQ⟩
theorem Ki(R:Rm X):Ck X .LtE (rA λi j=>.bl (decide (i<=j))) HN:=⟨Fi,Du λ_ _=>.bl _⟩
theorem jI(R:Rm X):Ck X .Gt (rA λi j=>.bl (decide (j<i))) gO:=⟨Fj,Du λ_ _=>.bl _⟩
theorem Kj(R:Rm X):Ck X .GtE BV qC:=⟨Fn,CS⟩
theorem bN(R:Rm X):Ck X .Eq (sW X.K false) bf:=⟨Cn R,CT⟩
theorem my(R:Rm X):Ck X .NotEq (sW X.K true) fE:=⟨Cf R,CP⟩
theorem dt(R:Rm X):Ck X .In (vv X.K false) (bx false):=⟨Cm R,wo⟩
theorem xA(R:Rm X):Ck X .NotIn (vv X.K true) (bx true):=⟨sZ R,wo⟩
theorem ct{f:CmpOp}{r:R2}{g:MA->MA->Option MA}(k:Ck X f r g)(Z:PE X a (tE X.K W fa))(U:PE X b (tE X.K W fb))(E:behindInMarks f b=false):PT X (.Compare a [f] [b] pos) (tT X.K W (aG ag (aj g fa fb))):=C6 k.o k.g Z U E
theorem cc{n:Nat}{w:List MA->Res}(S:Cp X N gl vs cs ls lo gs)(j:Nat)(A:gl[j]?=some x)(d:gs.contains j=true)(C:pM X x n w)(Z:PA X (e::es) (tA X.K W fl))(R:starEach (e::es) X.env=(false,eval e X.env)::starEach es X.env)(u:(backTo pos (starEach es X.env)).any (·.1)=false):PE X (.Call (.Name x p) (e::es) [] pos) (tE X.K W (ai n w fl)):=by
 obtain⟨k,f,y,J,F,m,E,G,U⟩:=C;exact zD F m E G U Z (S.g A d).1 (S.g A d).2.1 R u
noncomputable abbrev sx(X:Cx)(N gl:List Str)(B I s G H:List Nat)(R:Cx->Prop):Prop:=∀Y:Cx,Cp Y N gl B I s G H->Fx X Y->R Y
theorem co{d:Scope}{r:Pos}{U:List Expr}{u:FI}{m:F1}{v:FB}{n H A:List Nat}(S:Cp X N gl vs cs ls lo gs)(s:Sh)(i:Nat)(F:N[i]?=some x)(f:kd N i cs d=true)(M:kl N gl n H [i] I A d=true)(q:PI X (.Name x r) z (tI X.K W u))(J:sx X N gl n H [i] I A λY=>PF Y U (tT Y.K W0 v))(R:sx X N gl n H [i] I A λY=>PE Y o (tE Y.K W0 m))(P:∀x,foldedSetIterable z X.env x=pure x):PE X (.ListComp o [⟨.Name x r,z,U,0⟩] d pos) (tE X.K W (aw s i u v m)):=by
 have B:=λl C t w K=>S.blk M l C t w K
 have L:=λl C t w K=>(B l C t w K).loc i x F (by simp)
 exact zC (X:=X) s i (IG S f) (by rw[S.hN];exact S.nd) q (λl C t w K=>J _ (B l C t w K) ⟨rfl,rfl,rfl,rfl,rfl,rfl⟩) (λl C t w K=>R _ (B l C t w K) ⟨rfl,rfl,rfl,rfl,rfl,rfl⟩)
  S.calm (by rw[S.hN];exact F) (λl C t w K=>(L l C t w K).1) (λl C t w K=>(L l C t w K).2) P
theorem Jp{g:List Comprehension}{d:Scope}{y:Str}{h:Nat}(G:X.env.scope.kind=.function)(f:X.env.scope.names.lookup y=some .local)(S:(A.line==pos.line)=true)(j:(d.names.any λ(n,k)=>n==y&&(k==NameKind.local||k==NameKind.cell))=false):swapsWith (.ListComp o g d pos) (some (.Name y A)) h X.env=pure true:=by
 have i:(X.env.blockKind==ScopeKind.function)=true:=by unfold Env.blockKind;rw[G];rfl
 have R:(X.env.kindOf y==some NameKind.local)=true:=by unfold Env.kindOf;rw[f];rfl
 show(pure (X.env.blockKind==.function&&X.env.kindOf y==some .local&&A.line==pos.line&&!(d.names.any λ(n,k)=>n==y&&(k==NameKind.local||k==NameKind.cell))):Sem Bool)=pure true
 rw[i,R,S,j];rfl
theorem nL{g:List Comprehension}{d:Scope}{y:Str}{h:Nat}(f:X.env.scope.names.lookup y=some .cell\/X.env.scope.names.lookup y=some .free):swapsWith (.ListComp o g d pos) (some (.Name y A)) h X.env=pure false:=by
 have R:(X.env.kindOf y==some NameKind.local)=false:=by
  unfold Env.kindOf;rcases f with f|f<;>rw[f]<;>rfl
 show(pure (X.env.blockKind==.function&&X.env.kindOf y==some .local&&A.line==pos.line&&!(d.names.any λ(n,k)=>n==y&&(k==NameKind.local||k==NameKind.cell))):Sem Bool)=pure false
 rw[R,Bool.and_false,Bool.false_and,Bool.false_and]
theorem cs_append(S:Cp X N gl vs cs ls lo gs)(i:Nat){d:Pos}(l:N[i]?=some x)(f:vs.contains i=true)(Z:PE X a (tE X.K W fa))(P:starEach [a] X.env=[(false,eval a X.env)])(j:attributeBase (.Name x p) "append" X.env (eval (.Name x p) X.env)=eval (.Name x p) X.env)(k:(d.endLine==h.line)=true)(q:((backTo h (starEach [a] X.env)).all (λx=>!x.1)&&(backToKw h (keywordEach [] X.env)).all (λx=>x.1.isSome)
   && decide ([a].length+([]:List Keyword).length+(if([]:List Keyword).isEmpty then 0 else 1)<30))=true)(n:swapsWith (.Call (.Attribute (.Name x p) "append" d) [a] [] h) none pos.line X.env=pure false):PS X (.Expr (.Call (.Attribute (.Name x p) "append" d) [a] [] h) pos) (tS X.K W (aN i fa)):=
 tM i Z (by rw[S.hN];exact l) (S.vis i x l f) (S.nm x (mem_of_getElem? l)).1 (S.nm x (mem_of_getElem? l)).2 P j k q n
end
noncomputable def eU(g:MA->Option MA)(L:F1):F1:=aZ L λp C=>match g p.d with
 |some d=>.ok ⟨.leaf,d⟩ C
 |none=>.no
noncomputable def tH:MA->Option MA
 |.int i=>some (.int (-i))
 |_=>none
noncomputable def wC(L e:F1):F1:=aZ L λp=>aZ e λq=>λC=>match p.s,p.d,q.d with
 |.lst .leaf,.list ds,.int k=>if cL k&&decide (ds.length*k.toNat<=sizeLine)then .ok ⟨.lst .leaf,.list (List.replicate k.toNat ds).flatten⟩ C else .no
 |_,_,_=>.no
noncomputable def dD:Option (Option PV)->Bool
 |some (some ⟨.lst .leaf,.list _⟩)=>true
 |_=>false
noncomputable def Bh(i:Nat)(p q:PV)(C:Ev):gj:=match C[i]? with
 |some (some ⟨.lst .leaf,.list ds⟩)=>(match q.d with
  |.int k=>(match fQ ds.length k with
   |some j=>if T.coer .leaf p then .nx (C.set i (some ⟨.lst .leaf,.list (ds.set j p.d)⟩))else .no
   |none=>.no)
  |_=>.no)
 |_=>.no
noncomputable def g6(i:Nat)(b a:F1):FS:=λC=>if dD C[i]? then jv b (λp=>jv a (Bh i p)) C else .no
section
variable{K:Fg}{W:XW}{σ:St}{H:Hp}{Q:VK}{D:eR}{fa fb:F1}{fl:FL}
theorem Ez{r:V->Hp->VK->Prop}{g:MA->Option MA}(C:∀x H Q a d,Rep K H x a->g a=some d->(∀v,Sc v d->Q v H)->r x H Q)(h:tE K W (eU g fa) σ H Q):K0 r (tE K W fa) σ H Q:=by
 refine uq h λL O t I p v f G b X A Y=>?_
 cases e:g p.d with
 |none=>rw[e]at Y;exact Y.elim
 |some d=>
  rw[e]at Y;exact C v f Q p.d d A.own.rep e λu E=>Wants.scal Y E A.same A.env.dropL (λa Z=>Z) X λa Z=>A.new a (Mm _ Z)
theorem oU{u E:Type}{L:List u}{R:List E}(S:L.length=R.length):∀(k j:Nat){x:u}{y:E},(List.replicate k L).flatten[j]?=some x->(List.replicate k R).flatten[j]?=some y->∃i:Nat,L[i]?=some x/\R[i]?=some y
 |0,j,x,y,h,_=>by simp at h
 |k+1,j,x,y,h1,h2=>by
  rw[replicate_succ,flatten_cons]at h1 h2
  by_cases A:j<L.length
  .rw[getElem?_append_left A]at h1
   rw[getElem?_append_left (by omega)]at h2
   exact⟨j,h1,h2⟩
  .rw[getElem?_append_right (by omega)]at h1
   rw[getElem?_append_right (by omega),<-S]at h2
   exact oU S k (j-L.length) h1 h2
theorem IX:∀{t:List (List Addr)},(∀F∈t,F=[])->t.flatten=[]
 |[],_=>rfl
 |F::r,h=>by rw[flatten_cons,h F mem_cons_self,IX λG k=>h G (Ms _ k)];rfl
theorem Own.leaves{O:List Addr}{v:V}(h:Own K O H (.lst .leaf) G v (.list X)):∃l B,v=.ref l/\G=[l]/\H l=some (.lst B)/\B.length=X.length/\∀(j:Nat) u d,B[j]?=some u->X[j]?=some d->Rep K (bZ H O) u d:=by
 cases h with
 |@lst _ l B _ Fs hsv hp hl hf nd q=>
  have c:∀F∈Fs,F=[]:=λF c=>by
   obtain⟨j,A,e⟩:=getElem_of_mem c;have o:=q j (B[j]'(by omega)) (X[j]'(by omega)) F (Mq _) (Mq _) (by rw[Mq A,e])
   cases o;rfl
  refine⟨l,B,rfl,by rw[IX c],hp,hl,λj u d Y M=>?_⟩
  have A:=(Mv M).1
  have o:=q j u d (Fs[j]'(by omega)) Y M (Mq _)
  generalize Fs[j]'(by omega)=F at o
  cases o with
  |leaf r=>exact r
theorem Own.mkLeaves{O:List Addr}{l:Addr}(C:H l=some (.lst B))(S:B.length=X.length)(q:∀(j:Nat) u d,B[j]?=some u->X[j]?=some d->Rep K (bZ H O) u d):Own K O H (.lst .leaf) [l] (.ref l) (.list X):=by
 have c:(List.replicate X.length ([]:List Addr)).flatten=[]:=IX λF c=>(List.mem_replicate.mp c).2
 have o:Own K O H (.lst .leaf) (l::(List.replicate X.length ([]:List Addr)).flatten) (.ref l) (.list X):=by
  refine .lst rfl C S (by simp) (by rw[c];simp) λj u d F Y M P=>?_
  have:F=[]:=(List.mem_replicate.mp (mem_of_getElem? P)).2
  subst this;exact .leaf (q j u d Y M)
 rw[c]at o;exact o
theorem By(h:tE K W (wC fa fb) σ H Q):m8 BS (tE K W fa) (tE K W fb) σ H Q:=by
 refine AL (R:=λv u A=>BS v u A Q) h λL O t U p q v u f A G1 r I nd n s2 E new e y w=>?_
 obtain⟨s,d⟩:=p;obtain⟨s',b⟩:=q;dsimp only at w e y
 split at w
 .rename_i X k
  have hq:=y.rep
  cases hq;obtain⟨l,B,rfl,rfl,C,S,m⟩:=e.leaves;by_cases J:(cL k&&decide (X.length*k.toNat<=sizeLine))=true
  .rw[if_pos J]at w
   simp only[Bool.and_eq_true,decide_eq_true_eq,cL]at J
   refine⟨l,k,B,rfl,rfl,C,by omega,by omega,by rw[S];exact J.2,λP c=>?_⟩
   have F:O.Nodup:=nd
   have g:EnvOk K L O I A σ U:=E.drop (λa Z=>Mm _ (Mm _ Z)) nd
   have E2:=g.hide (G:=[P]) (jt (o:=.lst (List.replicate k.toNat B).flatten) c) (by simp) (by simpa using c) (λa Z=>by rw[List.mem_singleton.mp Z,eV];exact Option.some_ne_none _)
   refine w (.ref P) _ [P] I ⟨(n.trans s2).trans (jt c),E2,λa Z=>?_,?_⟩
   .rcases Mo Z with z|z
    .rw[List.mem_singleton.mp z]
     exact .inr (n.free (s2.free c))
    .exact new a (Mm _ (Mm _ z))
   .refine Own.mkLeaves eV (by rw[Iu,Iu,S]) λj x d Y M=>?_
    obtain⟨i,N,e2⟩:=oU S _ j Y M;refine(m i x d N e2).mono (me (jt c) λa Z=>?_)
    rcases Mo Z with z|z
    .rcases Mo z with z|z
     .rw[List.mem_singleton.mp z];exact .inr c
     .exact .inl (Mn _ (Mm _ (Mm _ z)))
    .exact .inl (Mm _ z)
  .rw[if_neg J]at w;exact w.elim
 .exact w.elim
theorem A8{k:PV->PV->Ev->gj}(h:tS K W (jv fa λp=>jv fb (k p)) D σ H)(G:∀L O S p q v u f A o r l,O.Nodup->Same H f->Same f A->EnvOk K L (r++(o++O)) l A σ S->(∀a∈r++o,L a=none) ->
   Own K (r++(o++O)++l.flatten) A p.s o v p.d->Own K (r++(o++O)++l.flatten) A q.s r u q.d->cF K W L O D (k p q S)->R v u A):tE K W fa σ H λv f=>tE K W fb σ f λu A=>R v u A:=by
 refine iU h λL O t I p v f o g _ d j Y=>?_
 refine⟨L,o++O,g,I,j.env,?_⟩
 unfold jv at Y;have X:O.Nodup:=(Mt j.env.ndO).2.1
 cases e:fb I with
 |ok q S=>
  rw[e]at Y;intro u A r l b;refine G L O S p q v u f A o r l X j.same b.same b.env (λa Z=>?_) (j.own.mono b.same λa Z=>?_) b.own Y
  .rcases Mo Z with z|z
   .exact b.freshG j.env a z
   .exact d a z
  .rcases Mo Z with z|z
   .rcases Mo z with z|z
    .rcases b.new a (Mn _ z)with y|y
     .exact .inl (Mm _ y)
     .exact .inr y
    .exact .inl (Mn _ z)
   .rcases b.new a (Mm _ z)with y|y
    .exact .inl (Mm _ y)
    .exact .inr y
 |er c S=>
  rw[e]at Y;intro A l P w;exact Y σ A l w.dropL
 |no=>
  rw[e]at Y;exact Y
theorem xT{b:VK}(h:tE K W fa σ H Q)(Y:∀v F,Q v F->b v F):tE K W fa σ H b:=by
 obtain⟨L,O,t,C,E,h⟩:=h;refine⟨L,O,t,C,E,?_⟩
 cases e:fa C with
 |ok p N=>rw[e]at h;exact λv F G U A=>Y v F (h v F G U A)
 |er c N=>rw[e]at h;exact h
 |no=>rw[e]at h;exact h
theorem EnvOk.chg{O:List Addr}{C:Ev}{i:Nat}(E:EnvOk K L O t H σ C)(h:C[i]?=some (some ⟨.lst .leaf,.list X⟩)):∃l B,σ[i]?=some (some (.ref l))/\H l=some (.lst B)/\B.length=X.length/\(∀(j:Nat) u d,B[j]?=some u->X[j]?=some d->Rep K (bZ H (O++t.flatten)) u d) /\
   ∀(n:List V)(b:List MA),n.length=b.length->(∀(j:Nat) u d,n[j]?=some u->b[j]?=some d->Rep K (bZ H (O++t.flatten)) u d)->∃U,EnvOk K L O U (upd H l (.lst n)) σ (C.set i (some ⟨.lst .leaf,.list b⟩)):=by
 obtain⟨f,v,F,Y,g,e,r⟩:=E.move h;have hi:i<C.length:=(Mv h).1
 obtain⟨_,v0,F0,A,R,o0⟩:=E.slot i _ h;obtain⟨l,B,rfl,rfl,hp,S,m⟩:=e.leaves;obtain⟨G,n,e0,N,c,J,w⟩:=o0.leaves;rw[Y]at A
 cases A
 cases e0;rw[hp]at c
 cases c
 refine⟨l,B,Y,hp,S,w,λx b hw q=>?_⟩
 have s:l∈t.flatten:=r l (Mn _ (List.mem_singleton.mpr rfl))
 have M:L l=none:=E.fresh l s
 have P:=g.mutO (o:=.lst x) (Mn _ (List.mem_singleton.mpr rfl)) hp M
 have ownL:Own K ([l]++O++(t.set i []).flatten) (upd H l (.lst x)) (.lst .leaf) [l] (.ref l) (.list b):=by
  refine Own.mkLeaves eV hw λj u d I y=>?_
  rw[Io (Mn _ (Mn _ (List.mem_singleton.mpr rfl)))];refine(q j u d I y).mono (me (Same.refl _) λa Z=>.inl ?_)
  rcases Mo Z with z|z
  .rcases Mo z with z|z
   .rw[List.mem_singleton.mp z];exact Mm _ s
   .exact Mn _ z
  .exact Mm _ (r a (Mm _ z))
 have k:=EnvOk.put (i:=i) (p:=⟨.lst .leaf,.list b⟩) (v:=.ref l) P ownL rfl (λa Z=>by rw[List.mem_singleton.mp Z];exact M) (by rw[length_set];exact hi)
 rw[set_set,set_set,DE Y]at k;exact⟨_,k⟩
theorem jU{o:Option (Option PV)}(h:dD o=true):∃X,o=some (some ⟨.lst .leaf,.list X⟩):=by
 unfold dD at h;split at h
 .exact⟨_,rfl⟩
 .cases h
theorem yi{i:Nat}(h:tS K W (g6 i fa fb) D σ H):eC (tE K W fa) (L2.gSub (bT i) (tE K W fb) lg) D σ H:=by
 obtain⟨L,O,t,C,E,h⟩:=h;unfold g6 at h
 cases ho:dD C[i]? with
 |false=>rw[ho]at h;exact h.elim
 |true=>
  rw[ho]at h;obtain⟨X,e0⟩:=jU ho;obtain⟨l,B,Y,M,P,_,_⟩:=E.chg e0;refine xT (A8 (D:=D) (R:=λv u A=>lg (.ref l) u v A λH3=>D.nx σ H3) ⟨L,O,t,C,E,h⟩ λL O S p q v u f A o r Fs2 nd n G E2 fr e o2 w=>?_) λv F q=>⟨.ref l,Y,q⟩
  unfold Bh at w;split at w
  .rename_i ds1 N
   split at w
   .rename_i k ek
    split at w
    .rename_i j ej
     cases J:T.coer .leaf p with
     |false=>rw[J]at w;exact w.elim
     |true=>
      rw[J]at w;have E3:EnvOk K L O Fs2 A σ S:=E2.drop (λa Z=>Mm _ (Mm _ Z)) nd
      obtain⟨l1,b,q1,q2,q3,q4,q5⟩:=E3.chg N;rw[Y]at q1
      cases q1;have hu:=o2.rep
      rw[ek]at hu
      cases hu;have ov:Own K (O++Fs2.flatten) A .leaf [] v p.d:=by
       refine e.coer (s:=.leaf) J (λa Z=>?_) λa Z z=>?_
       .rcases Mo Z with z|z
        .exact Mn _ (Mm _ (Mm _ z))
        .exact Mm _ z
       .exfalso
        have ndE:=E2.nd
        rw[append_assoc]at ndE;have g:=(Mt ndE).2.1
        rw[append_assoc]at g;exact(Mt g).2.2 a Z a z rfl
      cases ov with
      |leaf c=>
       have ixl:fQ b.length k=some j:=by rw[q3];exact ej
       obtain⟨U,E4⟩:=q5 (b.set j v) (ds1.set j p.d) (by rw[length_set,length_set,q3]) λm x d I y=>by
        by_cases hm:m=j
        .subst hm
         rw[getElem?_set]at I y
         rw[if_pos rfl]at I y
         split at I
         .split at y
          .cases I;cases y;exact c
          .cases y
         .cases I
        .rw[getElem?_set_ne (Ne.symm hm)]at I y
         exact q4 m x d I y
       exact⟨l,b,k,j,rfl,rfl,q2,ixl,w σ _ U E4⟩
    .exact w.elim
   .exact w.elim
  .exact w.elim
end
section
variable{X:Cx}
theorem A7:LJ X (unaryOp .USub) (λx H Q=>∃i,x=.int i/\Q (.int (-i)) H):=by
 intro B s M H x v Q I K h;obtain⟨i,rfl,q⟩:=h;obtain⟨t,rfl⟩:=K;exact neg_int ⟨.int (-i),H,I.tok _,⟨_,rfl⟩,q⟩
end
section
variable{X:Cx}
variable{N gl:List Str}{vs cs ls lo gs:List Nat}{W:XW}{a b c e:Expr}{es:List Expr}{pos p:Pos}{fa fb fc:F1}{fl:FL}{g:FS}
theorem cs_setI(S:Cp X N gl vs cs ls lo gs)(i:Nat){r:Pos}(l:N[i]?=some x)(f:vs.contains i=true)(Z:PE X a (tE X.K W fa))(U:PE X b (tE X.K W fb))(P:swapsWithSole [.Subscript (.Name x r) b A] a pos.line X.env=pure false)(j:swappedStores [.Subscript (.Name x r) b A] a X.env=pure none)(Y:(assignEach [.Subscript (.Name x r) b A] X.env).map (·.2)=[assign (.Subscript (.Name x r) b A) X.env])(has:∀v,assign (.Subscript (.Name x r) b A) X.env v=(do
   let ov <-holding [v] (eval (.Name x r) X.env)
   let iv <-holding [v,ov] (eval b X.env)
   standAt A
   holding [v,ov,iv] (setItem ov iv v)
   release [v,ov,iv] [])):PS X (.Assign [.Subscript (.Name x r) b A] a pos) (tS X.K W (g6 i fa fb)):=by
 have m:=S.nm x (mem_of_getElem? l)
 exact eO (Dx Z (GD (Dw (by rw[S.hN];exact l) (S.vis i x l f) m.1 m.2) U GW has) P j Y) λ_ _ _=>yi
end
noncomputable def fR:Expr->Bool
 |.Starred ..=>true
 |_=>false
theorem bC{e:Expr}{F:List Expr}(h:fR e=false):starEach (e::F) env=(false,eval e env)::starEach F env:=by
 cases e<;>first|rfl|cases h
theorem eX{a:Expr}(h:fR a=false):starEach [a] env=[(false,eval a env)]:=bC h
theorem uT{a b:Expr}(h:fR a=false)(M:fR b=false):starEach [a,b] env=[(false,eval a env),(false,eval b env)]:=by rw[bC h,eX M]
noncomputable def DefOk(P:Program)(w:World)(K:Fg)(p:Str->Option Value)(g:Heap)(j:Nat)(x:Str)(n:Nat)(a:List MA->Res):Prop:=
 ∃(f:Addr)(fd:FuncData)(ps:List Str),eQ P w K p g lZ j f fd ps (pJ K n a)/\p x=some (.ref f)/\PySem.W.keepIn K (.ref f)=true/\Binds K fd ps []
noncomputable def jq(K:Fg)(p:Str->Option Value)(x:Str)(d:MA):Prop:=∃u v,p x=some u/\RelV v u/\∀H,Rep K H v d
theorem DefOk.cal{X:Cx}{j n:Nat}{w:List MA->Res}(h:DefOk X.prog X.w X.K X.mg X.base j x n w)(m:Room k X.A)(A:decide (j<=k)=true):pM X x n w:=by
 obtain⟨f,y,J,F,a,b,c⟩:=h;exact⟨j,f,y,J,F,m.mono (of_decide_eq_true A),a,b,c⟩
noncomputable def JC:MA->V
 |.none=>.non
 |.bool b=>.bl b
 |.int i=>.int i
 |.str x=>.str x
 |_=>.non
noncomputable def tZ:List Value->List MA->Bool
 |.int i _::r,.int j::ds=>decide (i=j)&&tZ r ds
 |.str x _::r,.str y::ds=>decide (x=y)&&tZ r ds
 |[],[]=>true
 |_,_=>false
theorem IP:∀{A:List Value}{ds:List MA},tZ A ds=true->Vals (ds.map JC) A/\∀d∈ds,Sc (JC d) d
 |[],[],_=>⟨.nil,λd y=>(nomatch y)⟩
 |.int i t::r,.int j::ds,h=>by
  simp only[tZ,Bool.and_eq_true,decide_eq_true_eq]at h
  obtain⟨rfl,h⟩:=h;obtain⟨a,b⟩:=IP h;refine⟨.cons ⟨t,rfl⟩ a,λd y=>?_⟩
  rcases Mp y with z|z
  .rw[z];exact .int i
  .exact b d z
 |.str i t::r,.str j::ds,h=>by
  simp only[tZ,Bool.and_eq_true,decide_eq_true_eq]at h
  obtain⟨rfl,h⟩:=h;obtain⟨a,b⟩:=IP h;refine⟨.cons ⟨t,rfl⟩ a,λd y=>?_⟩
  rcases Mp y with z|z
  .rw[z];exact .str i
  .exact b d z
noncomputable def Df(g:Array Value)(X:List MA):Bool:=decide (g.size<=sizeLine)&&tZ g.toList X
theorem zG{p:Str->Option Value}{a:Addr}{q:Option Addr}{g:Array Value}{n:Nat}{B:Array (Option Value)}(E:p x=some (.ref a))(l:K.lookup a=some ⟨.type "tuple",q,.seq g n,B⟩)(h:Df g X=true):jq K p x (.tuple X):=by
 unfold Df at h;simp only[Bool.and_eq_true,decide_eq_true_eq]at h
 obtain⟨v,s⟩:=IP h.2;refine⟨.ref a,.ref a,E,rfl,λH=>.tup (vs:=X.map JC) (.inr ⟨_,g,n,l,rfl,rfl,h.1,v⟩) (by simp) λi v d Y M=>?_⟩
 rw[getElem?_map,M]at Y
 cases Y;exact(s d (mem_of_getElem? M)).rep
theorem zI{p:Str->Option Value}{i:Int}{t:Tok}(E:p x=some (.int i t)):jq K p x (.int i):=⟨.int i t,.int i,E,⟨t,rfl⟩,λH=>.int i⟩
theorem CA{m:List MA->Res}{H:Hp}{a:Addr}{Z:List Int}{E:XK}(h:m [.list (Z.map .int)]=.ok ⟨.leaf,.bool true⟩)(I:SqL K H a (Z.map V.int)):pJ K 1 m [.ref a] H (λv _=>v=.bl true) E:=by
 refine⟨rfl,[],[.list (Z.map .int)],nodup_nil,(λ_ z=>nomatch z),⟨rfl,λi v d Y M=>?_⟩,?_⟩
 .rw[IQ]
  match i,Y,M with
  |0,Y,M=>
   cases Y
   cases M;refine .lst I (by simp) λi v d Y M=>?_
   rw[getElem?_map]at Y M
   cases e:Z[i]? with
   |none=>rw[e]at Y;cases Y
   |some z=>
    rw[e]at Y M
    cases Y
    cases M;exact .int z
  |i+1,Y,M=>simp at Y
 .rw[h]
  intro v F G r
  have o:=r.own.rep
  cases o;rfl
end T
namespace TQ
open PySem PySem.Spec L2 T
open PyProof.Rows hiding St
variable{x:Str}{z o:Expr}{U:List Expr}{A:Pos}
structure Q(p:Prop):Prop where
 p:p
section
variable{X:Cx}{N gl:List Str}{vs cs ls lo gs:List Nat}{W:XW}{a b c e:Expr}{es:List Expr}{pos p:Pos}{fa fb fc:F1}{fl:FL}{ga gb:FB}{g1 g2 g:FS}
theorem w_cv(S:Cp X N gl vs cs ls lo gs)(i:Nat)(L:N[i]?=some x)(f:vs.contains i=true):Q (PE X (.Name x pos) (tE X.K W (ab i))):=⟨by
 have m:=S.nm x (mem_of_getElem? L)
 exact Da (Dw (by rw[S.hN];exact L) (S.vis i x L f) m.1 m.2)⟩
theorem mf(S:Cp X N gl vs cs ls lo gs)(i:Nat)(L:N[i]?=some x)(f:vs.contains i=true):Q (PE X (.Name x pos) (tE X.K W (cC i))):=⟨by
 have m:=S.nm x (mem_of_getElem? L)
 exact zA (Dw (by rw[S.hN];exact L) (S.vis i x L f) m.1 m.2)⟩
theorem gc(S:Cp X N gl vs cs ls lo gs)(j:Nat){d:MA}(A:gl[j]?=some x)(C:gs.contains j=true)(h:Con X x d):Q (PE X (.Name x pos) (tE X.K W (eK d))):=⟨by
 obtain⟨u,v,Y,M,P⟩:=h;have q:=S.g A C
 exact zB q.1 Y M P q.2.1⟩
theorem w_de_int{j:Int}{k pos}:Q (PE X (.Constant (.int j) k pos) (tE X.K W (eK (.int j)))):=⟨bt Dv λ_ _ _=>vf λ_=>.int j⟩
theorem sC{j:Bool}{k pos}:Q (PE X (.Constant (.bool j) k pos) (tE X.K W (eK (.bool j)))):=⟨bt Ff λ_ _ _=>vf λ_=>.bl j⟩
theorem iR{k pos}:Q (PE X (.Constant .none k pos) (tE X.K W (eK .none))):=⟨bt vG λ_ _ _=>vf λ_=>.non⟩
theorem dU{j:Str}{k pos}:Q (PE X (.Constant (.str j) k pos) (tE X.K W (eK (.str j)))):=⟨bt B3 λ_ _ _=>vf λ_=>.str j⟩
theorem nh(Z:Q (PE X a (tE X.K W fa)))(U:Q (PE X b (tE X.K W fb))):Q (PE X (.BinOp a .Add b pos) (tE X.K W (aj aQ fa fb))):=⟨have Z:=Z.p;have U:=U.p;bt (hE Cq Z U) λ_ _ _=>iX (Du λ_ _=>.int _)⟩
theorem uB(Z:Q (PE X a (tE X.K W fa)))(U:Q (PE X b (tE X.K W fb))):Q (PE X (.BinOp a .Sub b pos) (tE X.K W (aj gSub fa fb))):=⟨have Z:=Z.p;have U:=U.p;bt (hE Cc Z U) λ_ _ _=>iX (Du λ_ _=>.int _)⟩
theorem DF(Z:Q (PE X a (tE X.K W fa)))(U:Q (PE X b (tE X.K W fb))):Q (PE X (.BinOp a .Mult b pos) (tE X.K W (aj il fa fb))):=⟨have Z:=Z.p;have U:=U.p;bt (hE Cg Z U) λ_ _ _=>iX (rT (λi j h=>by
 simp only[ud,Bool.or_eq_true,Bool.and_eq_true,decide_eq_true_eq]at h
 exact h) λ_ _=>.int _)⟩
theorem pH(Z:Q (PE X a (tE X.K W fa)))(U:Q (PE X b (tE X.K W fb))):Q (PE X (.BinOp a .FloorDiv b pos) (tE X.K W (aj bO fa fb))):=⟨have Z:=Z.p;have U:=U.p;bt (hE yJ Z U) λ_ _ _=>iX (rT (λi j h=>by
 simp only[zN,Bool.and_eq_true,decide_eq_true_eq]at h
 exact h) λ_ _=>.int _)⟩
theorem i9(Z:Q (PE X a (tE X.K W fa)))(U:Q (PE X b (tE X.K W fb))):Q (PE X (.BinOp a .Mod b pos) (tE X.K W (aj bj fa fb))):=⟨have Z:=Z.p;have U:=U.p;bt (hE Ci Z U) λ_ _ _=>iX (rT (λi j h=>by
 simp only[zM,decide_eq_true_eq]at h
 exact h) λ_ _=>.int _)⟩
theorem nq(Z:Q (PE X a (tE X.K W fa)))(U:Q (PE X b (tE X.K W fb))):Q (PE X (.BinOp a .Pow b pos) (tE X.K W (aj qz fa fb))):=⟨have Z:=Z.p;have U:=U.p;bt (hE Ce Z U) λ_ _ _=>iX (rT (λi j h=>by
 simp only[zL,Bool.and_eq_true,decide_eq_true_eq]at h
 exact⟨h.1.1,h.1.2,h.2⟩) λ_ _=>.int _)⟩
theorem uD(Z:Q (PE X a (tE X.K W fa)))(U:Q (PE X b (tE X.K W fb))):Q (PE X (.BinOp a .Mult b pos) (tE X.K W (wC fa fb))):=⟨have Z:=Z.p;have U:=U.p;bt (hE Cd Z U) λ_ _ _=>By⟩
theorem nB(Z:Q (PE X a (tE X.K W fa))):Q (PE X (.UnaryOp .USub a pos) (tE X.K W (eU tH fa))):=⟨have Z:=Z.p;bt (Fd A7 Z) λ_ _ _=>Ez λx H Q a d r e k=>by
 cases r<;>simp only[tH]at e<;>cases e
 exact⟨_,rfl,k _ (.int _)⟩⟩
theorem GY(Z:Q (PE X a (tE X.K W fa))):Q (PE X (.UnaryOp .Not a pos) (tE X.K W (iq fa))):=⟨have Z:=Z.p;bt (B6 Z) λ_ _ _=>BB⟩
theorem Jy{f:CmpOp}{r:R2}{g:MA->MA->Option MA}(k:Ck X f r g)(Z:Q (PE X a (tE X.K W fa)))(U:Q (PE X b (tE X.K W fb)))(E:behindInMarks f b=false):Q (PE X (.Compare a [f] [b] pos) (tE X.K W (aj g fa fb))):=⟨have Z:=Z.p;have U:=U.p;Dc k.o k.g Z U E⟩
theorem D7{f j:CmpOp}{r w:R2}{g B:MA->MA->Option MA}(k:Ck X f r g)(i:Ck X j w B)(Z:Q (PE X a (tE X.K W fa)))(U:Q (PE X b (tE X.K W fb)))(J:Q (PE X c (tE X.K W fc)))(E:lastMarks [f,j] [b,c]=false):Q (PE X (.Compare a [f,j] [b,c] pos) (tE X.K W (gH g B fa fb fc))):=⟨have Z:=Z.p;have U:=U.p;have J:=J.p;wO k.o k.g i.o i.g Z U J E⟩
theorem nj{op}(h:Q (PE X a (tE X.K W fa))):Q (PE X (.BoolOp op [a] pos) (tE X.K W fa)):=⟨L2.pe_one h.p⟩
theorem ni(Z:Q (PE X a (tE X.K W fa)))(U:Q (PE X (.BoolOp .And (b::es) pos) (tE X.K W fb))):Q (PE X (.BoolOp .And (a::b::es) pos) (tE X.K W (cV fa fb))):=⟨have Z:=Z.p;have U:=U.p;bt (B9 Z U) λ_ _ _=>BO⟩
theorem IC(Z:Q (PE X a (tE X.K W fa)))(U:Q (PE X (.BoolOp .Or (b::es) pos) (tE X.K W fb))):Q (PE X (.BoolOp .Or (a::b::es) pos) (tE X.K W (wF fa fb))):=⟨have Z:=Z.p;have U:=U.p;bt (Fe Z U) λ_ _ _=>EC⟩
theorem xB(J:Q (PT X c (tT X.K W ga)))(Z:Q (PE X a (tE X.K W fa)))(U:Q (PE X b (tE X.K W fb))):Q (PE X (.IfExp c a b pos) (tE X.K W (kJ ga fa fb))):=⟨have J:=J.p;have Z:=Z.p;have U:=U.p;bt (vH J Z U) λ_ _ _=>ED⟩
theorem w_de_idx(Z:Q (PE X a (tE X.K W fa)))(U:Q (PE X b (tE X.K W fb)))(P:jx b):Q (PE X (.Subscript a b pos) (tE X.K W (ah fa fb))):=⟨have Z:=Z.p;have U:=U.p;bt (om DP Z U P) λ_ _ _=>BG⟩
theorem jy(s:Sh)(h:Q (PA X es (tA X.K W fl))):Q (PE X (.List es pos) (tE X.K W (aY s fl))):=⟨have h:=h.p;bt (B7 h) λ_ _ _=>ym⟩
theorem pI{x1}(h:Q (PA X es (tA X.K W fl))):Q (PE X (.Tuple es x1 pos) (tE X.K W (b4 fl))):=⟨have h:=h.p;bt (GC h) λ_ _ _=>Br⟩
theorem w_da_nil :Q (PA X [] (tA X.K W af)):=⟨T.da_nil ⟩
theorem w_da_cons(Z:Q (PE X e (tE X.K W fa)))(m:Q (PA X es (tA X.K W fl)))(P:starEach (e::es) X.env=(false,eval e X.env)::starEach es X.env):Q (PA X (e::es) (tA X.K W (ae fa fl))):=⟨T.da_cons Z.p m.p P⟩
theorem Jx{d:Scope}{r:Pos}{u:FI}{m:F1}{v:FB}{n H I A:List Nat}(S:Cp X N gl vs cs ls lo gs)(s:Sh)(i:Nat)(f:N[i]?=some x)(h:kd N i cs d=true)(M:kl N gl n H [i] I A d=true)(q:Q (PI X (.Name x r) z (tI X.K W u)))(J:sx X N gl n H [i] I A λY=>Q (PF Y U (tT Y.K W0 v)))(R:sx X N gl n H [i] I A λY=>Q (PE Y o (tE Y.K W0 m)))(P:∀x,foldedSetIterable z X.env x=pure x):Q (PE X (.ListComp o [⟨.Name x r,z,U,0⟩] d pos) (tE X.K W (aw s i u v m))):=⟨T.co S s i f h M q.p (λY S F=>(J Y S F).p) (λY S F=>(R Y S F).p) P⟩
theorem xF{d:Scope}{y:Str}{r Z:Pos}{u:FI}{m:F1}{v:FB}{vs' cs' lo' gs':List Nat}(S:Cp X N gl vs cs ls lo gs)(own:Bool)(j:Nat)(s:Sh)(i:Nat)(f:N[j]?=some y)(E:lo.contains j=true)(H:N[i]?=some x)(h:(A.line==pos.line)=true)(G:(d.names.any λ(n,k)=>n==y&&(k==NameKind.local||k==NameKind.cell))=false)(I:kd N i cs d=true)(M:kl N gl vs' cs' [i] lo' gs' d=true)(q:Q (PI X (.Name x r) z (tI X.K W u)))(J:sx X N gl vs' cs' [i] lo' gs' λY=>Q (PF Y U (tT Y.K W0 v)))(R:sx X N gl vs' cs' [i] lo' gs' λY=>Q (PE Y o (tE Y.K W0 m)))(P:∀x,foldedSetIterable z X.env x=pure x):Q (PS X (.Assign [.Name y A] (.ListComp o [⟨.Name x r,z,U,0⟩] d pos) Z) (tS X.K W (aA own j (aw s i u v m)))):=⟨by
 have q:=q.p
 have J:=λY S F=>(J Y S F).p
 have R:=λY S F=>(R Y S F).p
 have B:=λl C t w K=>S.blk M l C t w K
 have L:=λl C t w K=>(B l C t w K).loc i x H (by simp)
 exact qH (X:=X) own j s i (IG S I) (by rw[S.hN];exact S.nd) q (λl C t w K=>J _ (B l C t w K) ⟨rfl,rfl,rfl,rfl,rfl,rfl⟩) (λl C t w K=>R _ (B l C t w K) ⟨rfl,rfl,rfl,rfl,rfl,rfl⟩)
  (Jp S.kind (S.loo j y f E) h G) (by rw[S.hN];exact f) (S.loo j y f E) S.calm (by rw[S.hN];exact H) (λl C t w K=>(L l C t w K).1) (λl C t w K=>(L l C t w K).2) P⟩
theorem Ac(S:Cp X N gl vs cs ls lo gs)(j:Nat)(A:gl[j]?=some ("len":Str))(C:gs.contains j=true)(E:X.mg "len"=none)(Z:Q (PA X (e::es) (tA X.K W fl)))(R:starEach (e::es) X.env=(false,eval e X.env)::starEach es X.env)(u:(backTo pos (starEach es X.env)).any (·.1)=false):Q (PE X (.Call (.Name "len" p) (e::es) [] pos) (tE X.K W (bp aK fl))):=⟨have Z:=Z.p;wQ (call_len_seq.or mZ) CU F9 E Z (S.g A C).1 (S.g A C).2.2 (S.g A C).2.1 R u⟩
theorem uj(S:Cp X N gl vs cs ls lo gs)(j:Nat)(A:gl[j]?=some ("all":Str))(C:gs.contains j=true)(E:X.mg "all"=none)(Z:Q (PA X (e::es) (tA X.K W fl)))(R:starEach (e::es) X.env=(false,eval e X.env)::starEach es X.env)(u:(backTo pos (starEach es X.env)).any (·.1)=false):Q (PE X (.Call (.Name "all" p) (e::es) [] pos) (tE X.K W (bp (cU false) fl))):=⟨have Z:=Z.p;wQ (uc S.calm) wt Gc E Z (S.g A C).1 (S.g A C).2.2 (S.g A C).2.1 R u⟩
theorem nF(S:Cp X N gl vs cs ls lo gs)(j:Nat)(A:gl[j]?=some ("any":Str))(C:gs.contains j=true)(E:X.mg "any"=none)(Z:Q (PA X (e::es) (tA X.K W fl)))(R:starEach (e::es) X.env=(false,eval e X.env)::starEach es X.env)(u:(backTo pos (starEach es X.env)).any (·.1)=false):Q (PE X (.Call (.Name "any" p) (e::es) [] pos) (tE X.K W (bp (cU true) fl))):=⟨have Z:=Z.p;wQ (ub S.calm) wt Gb E Z (S.g A C).1 (S.g A C).2.2 (S.g A C).2.1 R u⟩
theorem uE(S:Cp X N gl vs cs ls lo gs)(j:Nat)(A:gl[j]?=some ("int":Str))(C:gs.contains j=true)(E:X.mg "int"=none)(Z:Q (PA X (e::es) (tA X.K W fl)))(R:starEach (e::es) X.env=(false,eval e X.env)::starEach es X.env)(u:(backTo pos (starEach es X.env)).any (·.1)=false):Q (PE X (.Call (.Name "int" p) (e::es) [] pos) (tE X.K W (bp qB fl))):=⟨have Z:=Z.p;FT ua CV Ga E Z (S.g A C).1 (S.g A C).2.2 (S.g A C).2.1 R u⟩
theorem D1(S:Cp X N gl vs cs ls lo gs)(j:Nat)(A:gl[j]?=some ("list":Str))(C:gs.contains j=true)(E:X.mg "list"=none)(Z:Q (PE X e (tE X.K W fa)))(P:starEach [e] X.env=[(false,eval e X.env)]):Q (PE X (.Call (.Name "list" p) [e] [] pos) (tE X.K W (ck fa))):=⟨have Z:=Z.p;tY E Z (S.g A C).1 P⟩
theorem w_cc{n:Nat}{w:List MA->Res}(S:Cp X N gl vs cs ls lo gs)(j:Nat)(A:gl[j]?=some x)(d:gs.contains j=true)(C:pM X x n w)(Z:Q (PA X (e::es) (tA X.K W fl)))(R:starEach (e::es) X.env=(false,eval e X.env)::starEach es X.env)(u:(backTo pos (starEach es X.env)).any (·.1)=false):Q (PE X (.Call (.Name x p) (e::es) [] pos) (tE X.K W (ai n w fl))):=⟨T.cc S j A d C Z.p R u⟩
theorem gp{r:Expr}(S:Cp X N gl vs cs ls lo gs)(j:Nat)(A:gl[j]?=some ("range":Str))(C:gs.contains j=true)(E:X.mg "range"=none)(Z:Q (PA X [a] (tA X.K W fl)))(P:starEach [a] X.env=[(false,eval a X.env)]):Q (PI X r (.Call (.Name "range" p) [a] [] pos) (tI X.K W (gh fl))):=⟨have Z:=Z.p;FR E Z (S.g A C).1 P⟩
theorem D5{r:Expr}(S:Cp X N gl vs cs ls lo gs)(j:Nat)(A:gl[j]?=some ("range":Str))(C:gs.contains j=true)(E:X.mg "range"=none)(Z:Q (PA X [a,b] (tA X.K W fl)))(P:starEach [a,b] X.env=[(false,eval a X.env),(false,eval b X.env)])(o:starEach [b] X.env=[(false,eval b X.env)]):Q (PI X r (.Call (.Name "range" p) [a,b] [] pos) (tI X.K W (zb fl))):=⟨have Z:=Z.p;FQ E Z (S.g A C).1 P o⟩
theorem w_di_seq{r:Expr}(Z:Q (PE X a (tE X.K W fa))):Q (PI X r a (tI X.K W (aP fa))):=⟨have Z:=Z.p;so (yB Z) λ_ _ _=>yo⟩
theorem eY{f:CmpOp}{r:R2}{g:MA->MA->Option MA}(k:Ck X f r g)(Z:Q (PE X a (tE X.K W fa)))(U:Q (PE X b (tE X.K W fb)))(E:behindInMarks f b=false):Q (PT X (.Compare a [f] [b] pos) (tT X.K W (aG ag (aj g fa fb)))):=⟨T.ct k Z.p U.p E⟩
theorem xD(Z:Q (PT X a (tT X.K W ga))):Q (PT X (.UnaryOp .Not a pos) (tT X.K W (dv ga))):=⟨have Z:=Z.p;xc (B0 Z) λ_ _ _=>yv⟩
theorem ux(Z:Q (PT X a (tT X.K W ga))):Q (PW X (.BoolOp .And [a] pos) (tT X.K W ga)):=⟨have Z:=Z.p;yx Z⟩
theorem uv(Z:Q (PT X a (tT X.K W ga))):Q (PW X (.BoolOp .Or [a] pos) (tT X.K W ga)):=⟨have Z:=Z.p;BY Z⟩
theorem uk(Z:Q (PT X a (tT X.K W ga)))(U:Q (PW X (.BoolOp .And (b::es) pos) (tT X.K W gb))):Q (PW X (.BoolOp .And (a::b::es) pos) (tT X.K W (dw ga gb))):=⟨have Z:=Z.p;have U:=U.p;AD (BZ Z U) λ_ _ _=>yw⟩
theorem pN(Z:Q (PT X a (tT X.K W ga)))(U:Q (PW X (.BoolOp .Or (b::es) pos) (tT X.K W gb))):Q (PW X (.BoolOp .Or (a::b::es) pos) (tT X.K W (fF ga gb))):=⟨have Z:=Z.p;have U:=U.p;AD (EV Z U) λ_ _ _=>BM⟩
theorem kj(h:Q (PW X a (tT X.K W ga))):Q (PT X a (tT X.K W ga)):=⟨L2.PW.pt h.p⟩
theorem kT(Z:Q (PE X a (tE X.K W fa)))(R:∀d,isTrue a X.env d=(do let v <-d;standAt a.pos;holding [v] (truthy v))):Q (PT X a (tT X.K W (aG bH fa))):=⟨have Z:=Z.p;xc (vA Z R) λ_ _ _=>Bs⟩
theorem dW :Q (PSs X [] (tS X.K W aH)):=⟨Ia xy λ_ _ _=>yj⟩
theorem ko{m:Stmt}(Y:Q (PS X m (tS X.K W g1))):Q (PSs X [m] (tS X.K W g1)):=⟨have Y:=Y.p;m7 Y⟩
theorem br{m:Stmt}{cP:List Stmt}(Y:Q (PS X m (tS X.K W g1)))(M:Q (PSs X cP (tS X.K W g2))):Q (PSs X (m::cP) (tS X.K W (ao g1 g2))):=⟨have Y:=Y.p;have M:=M.p;Ia (kn Y M) λ_ _ _=>Bw⟩
theorem uz(Z:Q (PE X a (tE X.K W fa))):Q (PS X (.Return (some a) pos) (tS X.K W (aJ fa))):=⟨have Z:=Z.p;eO (Dy Z) λ_ _ _=>Bx⟩
theorem dS{A B:List Stmt}(J:Q (PT X c (tT X.K W ga)))(Z:Q (PSs X A (tS X.K W g1)))(U:Q (PSs X B (tS X.K W g2))):Q (PS X (.If c A B pos) (tS X.K W (bY ga g1 g2))):=⟨have J:=J.p;have Z:=Z.p;have U:=U.p;eO (fJ J Z U) λ_ _ _=>BF⟩
theorem Ad(S:Cp X N gl vs cs ls lo gs)(i:Nat){r:Pos}{w:List Stmt}{u:FI}{g:FS}(F:N[i]?=some x)(d:ls.contains i=true)(C:PassesOwn (model X.prog X.w) X.A X.env X.xe)(q:Q (PI X (.Name x r) z (tI X.K W u)))(U:Q (PSs X w (tS X.K W g)))(P:∀x,foldedSetIterable z X.env x=pure x):Q (PS X (.For (.Name x r) z w [] pos) (tS X.K W (dR i u g))):=⟨have q:=q.p;have U:=U.p;C8 i C (by rw[S.hN];exact S.nd) q U S.calm (by rw[S.hN];exact F) (S.loc i x F d).1 (S.loc i x F d).2 P⟩
theorem nt(S:Cp X N gl vs cs ls lo gs)(own:Bool)(i:Nat)(l:N[i]?=some x)(d:ls.contains i=true)(P:swapsWith a (some (.Name x A)) pos.line X.env=pure false)(Z:Q (PE X a (tE X.K W fa))):Q (PS X (.Assign [.Name x A] a pos) (tS X.K W (aA own i fa))):=⟨have Z:=Z.p;C7 own i (by rw[S.hN];exact S.nd) Z (by rw[S.hN];exact l) (S.loc i x l d).1 P (S.loc i x l d).2⟩
theorem sE(S:Cp X N gl vs cs ls lo gs)(i:Nat){r:Pos}(l:N[i]?=some x)(f:vs.contains i=true)(Z:Q (PE X a (tE X.K W fa)))(U:Q (PE X b (tE X.K W fb)))(P:swapsWithSole [.Subscript (.Name x r) b A] a pos.line X.env=pure false)(j:swappedStores [.Subscript (.Name x r) b A] a X.env=pure none)(Y:(assignEach [.Subscript (.Name x r) b A] X.env).map (·.2)=[assign (.Subscript (.Name x r) b A) X.env])(has:∀v,assign (.Subscript (.Name x r) b A) X.env v=(do
   let ov <-holding [v] (eval (.Name x r) X.env)
   let iv <-holding [v,ov] (eval b X.env)
   standAt A
   holding [v,ov,iv] (setItem ov iv v)
   release [v,ov,iv] [])):Q (PS X (.Assign [.Subscript (.Name x r) b A] a pos) (tS X.K W (g6 i fa fb))):=⟨T.cs_setI S i l f Z.p U.p P j Y has⟩
theorem AS(S:Cp X N gl vs cs ls lo gs)(i:Nat){d h:Pos}(l:N[i]?=some x)(f:vs.contains i=true)(Z:Q (PE X a (tE X.K W fa)))(P:starEach [a] X.env=[(false,eval a X.env)])(j:attributeBase (.Name x p) "append" X.env (eval (.Name x p) X.env)=eval (.Name x p) X.env)(k:(d.endLine==h.line)=true)(q:((backTo h (starEach [a] X.env)).all (λx=>!x.1)&&(backToKw h (keywordEach [] X.env)).all (λx=>x.1.isSome)
   && decide ([a].length+([]:List Keyword).length+(if([]:List Keyword).isEmpty then 0 else 1)<30))=true)(n:swapsWith (.Call (.Attribute (.Name x p) "append" d) [a] [] h) none pos.line X.env=pure false):Q (PS X (.Expr (.Call (.Attribute (.Name x p) "append" d) [a] [] h) pos) (tS X.K W (aN i fa))):=⟨T.cs_append S i l f Z.p P j k q n⟩
theorem w_df_nil :Q (PF X [] (tT X.K W0 aM)):=⟨Gh vF λM H Q h=>by
 obtain⟨L,O,t,C,E,h⟩:=h;exact h H t (Same.refl _) E λ_ z=>.inl z⟩
theorem rd(h:Q (PT X c (tT X.K W0 ga))):Q (PF X [c] (tT X.K W0 ga)):=⟨have h:=h.p;B2 h⟩
end
end TQ
namespace T
open PySem PySem.Spec L2
open PyProof.Rows hiding St
variable{K:Fg}{c:String}{X:List MA}{M:St}{t:List (List Addr)}{C:Ev}{B:List (Addr×Obj)}{t':Nat}
noncomputable def Hu:FS:=λ_=>.no
noncomputable def um:MA->String
 |.none => "NoneType"
 |.bool _ => "bool"
 |.int _ => "int"
 |.str _ => "str"
 |.list _ => "list"
 |.tuple _ => "tuple"
 |.dict _ => "dict"
noncomputable def kH(t c:String):Bool:=t==c||(t == "bool"&&c == "int")
noncomputable def kinds:List String:=["bool","int","str","list","tuple"]
theorem yX(J:c∈kinds):∀t∈["NoneType","bool","int","str","list","tuple"],PySem.W.kitOne K (.type t) (.type c)=some (kH t c):=by
 intro t A;unfold kinds at J;simp only[mem_cons,not_mem_nil,or_false]at J A
 rcases J with rfl|rfl|rfl|rfl|rfl<;>rcases A with rfl|rfl|rfl|rfl|rfl|rfl<;>kernel_rfl
section
variable{X:Cx}{pins:List (Addr×Obj)}{σ:St}{H:Hp}{s:Shared}{A:Around}{E:Value->Shared->Prop}{Q:Value->Shared->Prop}{c:Value}{b:Bool}
theorem qx{x:V}{u:Value}{d:MA}(I:Inv X pins σ H s)(K:RelV x u)(r:Rep X.K H x d)(e:PySem.W.kitOne X.K (.type (um d)) c=some b)(h:∀j,Q (.bool b) {s with toks:=j}):wpAny (model X.prog X.w) A (call (.builtin "isinstance") [u,c]) Q E s:=by
 cases r with
 |non=>exact AU I K .non e h
 |bl y=>exact AU I K (.bl y) e h
 |int i=>exact AU I K (.int i) e h
 |str y=>exact AU I K (.str y) e h
 |@lst p vs ds hs hl q=>
  rcases hs with(z|⟨o,z⟩)|⟨o,its,n,hk,hc,hd,hz,_⟩
  .exact AU I K (.lst z) e h
  .exact AU I K (.frz z) e h
  .cases(show u=Value.ref p from K)
   exact PySem.W.kia_one PySem.W.kitx_list I.kIn ⟨o,I.kIn _ o hk,hc⟩ e nofun h
 |@tup p vs ds hs hl q=>
  rcases hs with(z|⟨o,z⟩)|⟨o,its,n,hk,hc,hd,hz,_⟩
  .exact AU I K (.tup z) e h
  .cases(show u=Value.ref p from K)
   obtain⟨_,_,_,n,G,Y,M,_⟩:=(show ObjOk X.prog X.w H s.heap p (.frz o (.tup vs))from I.hok p _ z);exact PySem.W.kia_one PySem.W.kitx_tuple I.kIn ⟨G,Y,M⟩ e nofun h
  .cases(show u=Value.ref p from K)
   exact PySem.W.kia_one PySem.W.kitx_tuple I.kIn ⟨o,I.kIn _ o hk,hc⟩ e nofun h
end
noncomputable def BU(K:Fg)(c:String):List V->Hp->VK->Prop:=λL H Q=>∃x d,L=[x,.ty c]/\Rep K H x d/\Q (.bl (kH (um d) c)) H
theorem wV{X:Cx}(J:c∈kinds):CallR X (.builtin "isinstance") (BU X.K c):=by
 intro B s M H L a Q I b h;obtain⟨x,d,rfl,r,q⟩:=h;match a,b with
 |[u,t],.cons r1 (.cons r2 .nil)=>
  cases(show t=Value.type c from r2)
  have A:um d∈["NoneType","bool","int","str","list","tuple"]:=by cases r<;>simp[um]
  exact qx I r1 r (yX J _ A) λj=>⟨.bl _,H,I.tok j,rfl,q⟩
noncomputable def fm(c:String)(L:F1):F1:=aZ L λp C=>.ok ⟨.leaf,.bool (kH (um p.d) c)⟩ C
theorem BD{W:XW}{H:Hp}{Q:VK}{b:F1}(h:tE K W (fm c b) M H Q):Ba (BU K c) (bz (tE K W b) (bz (tC (.ty c)) d6)) M H Q:=by
 show tE K W b M H λx f=>BU K c [x,.ty c] f Q
 refine uq h λL O t I p v f G g X A w=>?_
 exact⟨v,p.d,rfl,A.own.rep,Wants.scal w (.bl _) A.same A.env.dropL (λa Z=>Z) X λa Z=>A.new a (Mm _ Z)⟩
noncomputable def cj(c:FB)(g:FS):Nat->Ev->gj
 |0,_=>.no
 |n+1,Γ=>match c Γ with
  |.ok true I=>(match g I with
   |.nx S=>cj c g n S
   |.ct S=>cj c g n S
   |.bk S=>.nx S
   |.rt p=>.rt p
   |.er e S=>.er e S
   |.no=>.no)
  |.ok false I=>.nx I
  |.er e I=>.er e I
  |.no=>.no
noncomputable def iI(n:Nat)(c:FB)(g:FS):FS:=cj c g n
section
variable{K:Fg}{W:XW}{σ:St}{H:Hp}{Q:VK}{D:eR}{fa fb:F1}{fl:FL}
theorem u7{n:Nat}{c:FB}{g:FS}(h:tS K W (iI n c g) D σ H):uM (tT K W c) (tS K W g) D σ H:=by
 obtain⟨L,O,t,C,E,h⟩:=h;refine⟨λm Z F=>∃M X,EnvOk K L O X F Z M/\cF K W L O D (cj c g m M),⟨n,C,t,E,h⟩,?_⟩
 rintro m Z F ⟨M,X,Ek,j⟩
 cases m with
 |zero=>exact j.elim
 |succ m=>
  refine⟨L,O,X,M,Ek,?_⟩
  rw[cj]at j
  cases e:c M with
  |er x I=>rw[e]at j;exact λA l s w=>j Z A l w
  |no=>rw[e]at j;exact j
  |ok b I=>
   rw[e]at j;intro A l d w f
   cases b with
   |false=>rw[if_neg Bool.false_ne_true];exact j Z A l w
   |true=>
    rw[if_pos rfl];refine⟨λk P=>∃J y,EnvOk K L O y P k J/\cF K W L O D (cj c g m J),λk P q=>⟨m,Nat.lt_succ_self _,q⟩,L,O,l,I,w,?_⟩
    have j:cF K W L O D (match g I with|.nx S=>cj c g m S|.ct S=>cj c g m S|.bk S=>.nx S|.rt p=>.rt p|.er e S=>.er e S|.no=>.no):=j
    cases a:g I with
    |nx N=>rw[a]at j;exact λY A R w=>⟨N,R,w,j⟩
    |ct N=>rw[a]at j;exact λY A R w=>⟨N,R,w,j⟩
    |bk N=>rw[a]at j;exact λY A R w=>j Y A R w
    |rt p=>rw[a]at j;exact λu A G r=>j u A G r
    |er x N=>rw[a]at j;exact λY A R w=>j Y A R w
    |no=>rw[a]at j;exact j
theorem EnvOk.chgF{L:Hp}{O:List Addr}{i:Nat}(E:EnvOk K L O t H σ C)(h:C[i]?=some (some ⟨.lst .leaf,.list X⟩)):∃l B,σ[i]?=some (some (.ref l))/\H l=some (.lst B)/\B.length=X.length/\(∀(j:Nat) u d,B[j]?=some u->X[j]?=some d->Rep K (bZ H (O++t.flatten)) u d) /\
   ∀(n:List V)(b:List MA),n.length=b.length->(∀(j:Nat) u d,n[j]?=some u->b[j]?=some d->Rep K (bZ H (O++t.flatten)) u d)->EnvOk K L O t (upd H l (.lst n)) σ (C.set i (some ⟨.lst .leaf,.list b⟩)):=by
 obtain⟨f,v,F,Y,g,e,r⟩:=E.move h;have hi:i<C.length:=(Mv h).1
 obtain⟨_,v0,F0,A,R,o0⟩:=E.slot i _ h;obtain⟨l,B,rfl,rfl,hp,S,m⟩:=e.leaves;obtain⟨G,n,U,N,c,J,w⟩:=o0.leaves;rw[Y]at A
 cases A
 cases U;rw[hp]at c
 cases c
 refine⟨l,B,Y,hp,S,w,λx b hw q=>?_⟩
 have s:l∈t.flatten:=r l (Mn _ (List.mem_singleton.mpr rfl))
 have M:L l=none:=E.fresh l s
 have P:=g.mutO (o:=.lst x) (Mn _ (List.mem_singleton.mpr rfl)) hp M
 have ownL:Own K ([l]++O++(t.set i []).flatten) (upd H l (.lst x)) (.lst .leaf) [l] (.ref l) (.list b):=by
  refine Own.mkLeaves eV hw λj u d I y=>?_
  rw[Io (Mn _ (Mn _ (List.mem_singleton.mpr rfl)))];refine(q j u d I y).mono (me (Same.refl _) λa Z=>.inl ?_)
  rcases Mo Z with z|z
  .rcases Mo z with z|z
   .rw[List.mem_singleton.mp z];exact Mm _ s
   .exact Mn _ z
  .exact Mm _ (r a (Mm _ z))
 have k:=EnvOk.put (i:=i) (p:=⟨.lst .leaf,.list b⟩) (v:=.ref l) P ownL rfl (λa Z=>by rw[List.mem_singleton.mp Z];exact M) (by rw[length_set];exact hi)
 rw[set_set,set_set,DE Y]at k;rw[N]at R;rw[DE R]at k;exact k
end
noncomputable def vq(K:Fg):List V->Hp->VK->Prop:=λL H Q=>∃(p:Addr)(ns:List Int),L=[.ref p]/\SqL K H p (ns.map V.int)/\ns.length<64/\∀l,H l=none->Q (.ref l) (upd H l (.lst ((PySem.W.sortI ns).map V.int)))
theorem Ip:∀{Z:List Int}{us:List Value},Vals (Z.map V.int) us->IntsAre us Z
 |[],_,.nil=>.nil
 |n::Z,_,.cons r t=>by
  obtain⟨j,rfl⟩:=(show ∃t,_=Value.int n t from r)
  exact .cons _ _ (Ip t)
theorem vals_of:∀{Z:List Int}{us:List Value},IntsAre us Z->Vals (Z.map V.int) us
 |_,_,.nil=>.nil
 |_,_,.cons _ _ t=>.cons ⟨_,rfl⟩ (vals_of t)
theorem qP{X:Cx}:CallR X (.builtin "sorted") (vq X.K):=by
 intro B s M H L A Q I c h;obtain⟨p,Z,rfl,f,d,q⟩:=h;obtain⟨u,rfl,N⟩:=c.one
 cases N;obtain⟨g,r,pl,k⟩:=I.list f;have hI:=Ip r
 have S:g.length=Z.length:=by rw[<-r.length,length_map]
 refine sorted_ints pl.isList hI (by omega) λout a i y j=>?_
 have e:=PySem.W.eq_sortI y j
 subst e;obtain⟨n,K⟩:=sortedAll_at s.heap g out;have z:(PySem.W.sortI Z).length=Z.length:=(PySem.W.sortI_perm Z).length_eq
 have U:=la (n:=Z.length) (by omega)
 refine⟨.ref (s.heap.objs.size+1),upd H (s.heap.objs.size+1) (.lst ((PySem.W.sortI Z).map V.int)),I.laid (t':=s.toks) (λb o e=>sortedAll_old e) (Nat.le_succ _) ⟨by rw[length_map,z];omega,out.toList,n,vals_of i,by simpa[seqObj]using K⟩,rfl,q _ (I.hok.fresh (Nat.le_succ _))⟩
theorem rg:∀{L:List V}{us:List Value},L.length=us.length->(∀(i:Nat) x u,L[i]?=some x->us[i]?=some u->RelV x u)->Vals L us
 |[],[],_,_=>.nil
 |x::L,u::us,hl,h=>.cons (h 0 x u rfl rfl) (rg (by simpa using hl) λi x u a b=>h (i+1) x u (by simpa using a) (by simpa using b))
 |[],_::_,hl,_=>by simp at hl
 |_::_,[],hl,_=>by simp at hl
noncomputable def K4(F:TA):TE:=λM H Q=>F M H λB f=>∃j:Int,B=[.int j]/\-(2 ^ 62)<=j/\j<=sizeLine/\∀l,f l=none->Q (.ref l) (upd f l (.lst (gg 0 j.toNat)))
theorem mB{X:Cx}{a:Expr}{F:TA}{p r d l:Pos}(C:Gl X "list")(E:X.mg "list"=none)(m:Gl X "range")(Y:X.mg "range"=none)(J:X.calm=true)(Z:PA X [a] F)(P:starEach [a] X.env=[(false,eval a X.env)])(L:starEach [.Call (.Name "range" r) [a] [] l] X.env=[(false,eval (.Call (.Name "range" r) [a] [] l) X.env)]):PE X (.Call (.Name "list" p) [.Call (.Name "range" r) [a] [] l] [] d) (K4 F):=by
 intro B s M H Q I h;refine Call_ (xj I C E wX (PyProof.Rows.callWith_type1 ?_ L rfl))
 rw[L];show wpAny _ _ (spliced ((false,eval (.Call (.Name "range" r) [a] [] l) X.env)::[])) _ _ s
 refine Calls.spliced_cons (Call_ (xj I m Y boot_range (PyProof.Rows.callWith_type1 (b5 (Z l B s M H _ I h) λA g ⟨vs,H1,I1,r1,S⟩=>?_) P rfl)))
 obtain⟨j,e,S,c,q⟩:=S;subst e;obtain⟨u,rfl,ru⟩:=r1.one;obtain⟨t,rfl⟩:=(show ∃t,u=Value.int j t from ru)
 refine call_range_1 (Calls.spliced_nil ?_)
 have U:(sizeLine:Int)<2 ^ 62:=by decide
 refine call_list_range (n:=j.toNat) (I.ok.hd J) (IsRange.new ..) (small_one (by omega) (by omega) S (by omega)) (by rw[rangeSize_one];split<;>omega) (by have:(sizeLine:Nat)=2 ^ 24:=rfl;omega) λh' tk v c' G K z=>?_
 have y:Inv X B M H1 {g with heap:=g.heap.push {cls:=.type "range",data:=.fields #[.int 0 g.toks,.int j t,.int 1 (g.toks+1)]},toks:=g.toks+1+1}:=I1.kept λb o e=>My _ e
 have f:Vals (gg 0 j.toNat) v.toList:=by
  refine rg (by have:=z.1;simp only[Array.length_toList,gg,length_map,List.length_range];omega) λi x u N R=>?_
  obtain⟨t2,rfl⟩:=z.2 i u (by rw[<-Array.getElem?_toList];exact R)
  unfold gg at N;rw[getElem?_map]at N
  cases w:(List.range j.toNat)[i]? with
  |none=>rw[w]at N;cases N
  |some k=>
   rw[w]at N;obtain⟨k1,k2⟩:=Mv w
   simp at k2
   subst k2
   cases N;exact⟨t2,by simp⟩
 refine⟨.ref _,upd H1 _ (.lst (gg 0 j.toNat)),y.laid (t':=tk) (λb o e=>G b o e) (Mz _) ⟨?_,v.toList,c',f,by simpa using K⟩,rfl,q _ (y.hok.fresh (Mz _))⟩
 simp only[gg,length_map,List.length_range]
 omega
section
variable{K:Fg}{W:XW}{σ:St}{H:Hp}{Q:VK}{fa:F1}{fl:FL}
theorem AftL.newSc{L:Hp}{O:List Addr}{r g:List (List Addr)}{I:Ev}{J:List PV}{b:List V}{f:Hp}{l:Addr}{B:List V}(A:AftL K L O t H σ I J b f r g)(e:O.Nodup)(S:f l=none)(c:B.length=X.length)(P:∀(i:Nat) v d,B[i]?=some v->X[i]?=some d->Sc v d):Aft K L O t H σ I ⟨.lst .leaf,.list X⟩ (.ref l) (upd f l (.lst B)) [l] g:=by
 refine⟨A.same.trans (jt S),A.env.dropL.hide (jt S) (by simp) (by simpa using S) (λa Z=>by rw[List.mem_singleton.mp Z,eV];exact Option.some_ne_none _),λa Z=>?_,?_⟩
 .rcases Mo Z with z|z
  .rw[List.mem_singleton.mp z];exact .inr (A.same.free S)
  .exact A.new a (Mm _ z)
 .exact Own.mkLeaves eV c λj u d N R=>(P j u d N R).rep
noncomputable def rX(d:FL):F1:=λC=>(d C).bind λJ N=>match kz (J.map (·.d))with
 |some j=>if j<=sizeLine then .ok ⟨.lst .leaf,.list (b9 0 j.toNat)⟩ N else .no
 |none=>.no
theorem EE(h:tE K W (rX fl) σ H Q):K4 (tA K W fl) σ H Q:=by
 obtain⟨L,O,t,C,E,h⟩:=h;refine⟨L,O,t,C,E,?_⟩
 unfold rX at h
 cases e:fl C with
 |er c N=>rw[e]at h;exact h
 |no=>rw[e]at h;exact h
 |ok J I=>
  rw[e]at h;intro B f s g A;have h:Wants K W L O t H σ Q (match kz (J.map (·.d))with|some j=>if j<=sizeLine then .ok ⟨.lst .leaf,.list (b9 0 j.toNat)⟩ I else .no|none=>.no):=h
  cases er:kz (J.map (·.d))with
  |none=>rw[er]at h;exact h.elim
  |some j=>
   rw[er]at h;obtain⟨p,R,a⟩:=rq er;have r:=A.reps
   rw[p]at r;have h:Wants K W L O t H σ Q (if j<=sizeLine then .ok ⟨.lst .leaf,.list (b9 0 j.toNat)⟩ I else .no):=h
   by_cases b:j<=sizeLine
   .rw[if_pos b]at h
    have o:B=[.int j]:=by
     have S:=r.1
     match B,S with
     |[v],_=>
      have q:=r.2 0 v (.int j) rfl rfl
      cases q;rfl
    refine⟨j,o,R,b,λl S=>h _ _ _ _ (A.newSc E.ndO S (by simp[gg,b9]) λi v d m y=>?_)⟩
    have q:=Jh (K:=K) (H:=f) (lo:=0) (n:=j.toNat)
    refine(q.2 i v d m y).sc ?_
    unfold b9 at y;rw[getElem?_map]at y
    cases a:(List.range j.toNat)[i]? with
    |none=>rw[a]at y;cases y
    |some k=>rw[a]at y;cases y;rfl
   .rw[if_neg b]at h;exact h.elim
noncomputable def intsOf:List MA->Option (List Int)
 |[]=>some []
 |.int i::r=>(intsOf r).map (i :: ·)
 |_=>none
theorem lC:∀{X:List MA}{ns:List Int},intsOf X=some ns->X=ns.map .int
 |[],ns,h=>by cases h;rfl
 |.int i::r,ns,h=>by
  unfold intsOf at h
  cases e:intsOf r with
  |none=>rw[e]at h;cases h
  |some v=>rw[e]at h;cases h;rw[lC e];rfl
 |.none::_,_,h=>by cases h
 |.bool _::_,_,h=>by cases h
 |.str _::_,_,h=>by cases h
 |.list _::_,_,h=>by cases h
 |.tuple _::_,_,h=>by cases h
 |.dict _::_,_,h=>by cases h
noncomputable def sortArg:List MA->Option (List Int)
 |[.list ds]=>intsOf ds
 |_=>none
theorem jC{Z:List Int}(h:sortArg X=some Z):X=[.list (Z.map .int)]:=by
 unfold sortArg at h;split at h
 .rw[lC h]
 .cases h
noncomputable def fT(d:FL):F1:=λC=>(d C).bind λJ N=>match sortArg (J.map (·.d))with
 |some Z=>if Z.length<64 then .ok ⟨.lst .leaf,.list ((PySem.W.sortI Z).map .int)⟩ N else .no
 |none=>.no
theorem vd(h:tE K W (fT fl) σ H Q):Ba (vq K) (tA K W fl) σ H Q:=by
 obtain⟨L,O,t,C,E,h⟩:=h;refine⟨L,O,t,C,E,?_⟩
 unfold fT at h
 cases e:fl C with
 |er c N=>rw[e]at h;exact h
 |no=>rw[e]at h;exact h
 |ok J I=>
  rw[e]at h;intro B f n g A;have r:=A.reps
  have h:Wants K W L O t H σ Q (match sortArg (J.map (·.d))with|some Z=>if Z.length<64 then .ok ⟨.lst .leaf,.list ((PySem.W.sortI Z).map .int)⟩ I else .no|none=>.no):=h
  cases b:sortArg (J.map (·.d))with
   |none=>rw[b]at h;exact h.elim
   |some Z=>
    rw[b]at h;rw[jC b]at r;have h:Wants K W L O t H σ Q (if Z.length<64 then .ok ⟨.lst .leaf,.list ((PySem.W.sortI Z).map .int)⟩ I else .no):=h
    by_cases j:Z.length<64
    .rw[if_pos j]at h
     have S:=r.1
     match B,S with
     |[v],_=>
      have q:=r.2 0 v (.list (Z.map .int)) rfl rfl
      cases q with
      |@lst p ws _ hq hwl hw=>
       have F:ws=Z.map V.int:=by
        apply ext_getElem?
        intro i;by_cases k:i<ws.length
        .have x:i<Z.length:=by rw[length_map]at hwl;omega
         have q:=hw i (ws[i]'k) (.int (Z[i]'x)) (Mq _) (by rw[getElem?_map,Mq x];rfl)
         rw[Mq k,getElem?_map,Mq x];generalize ws[i]'k=u at q
         cases q;rfl
        .rw[getElem?_eq_none (by omega),getElem?_eq_none (by rw[length_map]at hwl ⊢;omega)]
       rw[F]at hq;refine⟨p,Z,rfl,hq,j,λl S=>h _ _ _ _ (A.newSc E.ndO S (by simp) λi v d a y=>?_)⟩
       rw[getElem?_map]at a y
       cases m:(PySem.W.sortI Z)[i]? with
       |none=>rw[m]at a;cases a
       |some z=>
        rw[m]at a y
        cases a
        cases y;exact .int z
    .rw[if_neg j]at h;exact h.elim
end
theorem Inv.turnedL{X:Cx}{H:Hp}{s:Shared}{Z:Heap}{a:List Addr}(I:L2.Inv X B M H s)(k:∀b o,b∉a->s.heap.get? b=some o->Z.get? b=some o)(g:∀b∈a,kS X B H b):L2.Inv X B M H {s with heap:=Z,toks:=t'}:=by
 have f:∀b u,H b=some u->b∉a:=λb u e z=>by have:=(g b z).1;rw[e]at this;cases this
 have h:X.env.locals∉a:=λz=>(g _ z).2.1 rfl
 refine I.step (g':=s.gens) (d':=s.drawn) (ch:=a) (λb U=>?_) (λb o _ _ J e _=>k b o J e) (λb o _ _ J e _=>⟨o.slots,k b o J e⟩) (λ_ _ _ _ n=>n)
  (λb o J e=>⟨o,k b o J e⟩) (λ_ _ e=>e) (λ_ _ _ e=>e) (λb i e=>⟨#[],by rw[e];simp⟩) (λm E=>?_) (λb u e=>?_) I.bare
 .obtain⟨G,t,j,d,A,P⟩:=g b U
  exact⟨d,t,A,P⟩
 .obtain⟨o,F,N,K,r⟩:=E
  exact⟨o,F,N,k _ o h K,r⟩
 .refine(I.hok b u e).stay (λc v J q=>k c v ?_ q) (λ_ q=>q) λ_ _ q=>q
  rcases J with z|z
  .rw[z];exact f b u e
  .exact f c _ z
theorem Inv.turnedT{X:Cx}{H:Hp}{s:Shared}{Z:Heap}{a:List Addr}{T:Addr}{L:List V}(I:L2.Inv X B M H s)(k:∀b o,b∉a->s.heap.get? b=some o->Z.get? b=some o)(g:∀b∈a,kS X B H b)(p:s.heap.objs.size<=T)(new:ObjOk X.prog X.w (upd H T (.tup L)) Z T (.tup L)):L2.Inv X B M (upd H T (.tup L)) {s with heap:=Z,toks:=t'}:=by
 have j:H T=none:=I.hok.fresh p
 have f:∀b u,H b=some u->b∉a:=λb u e z=>by have:=(g b z).1;rw[e]at this;cases this
 have i:∀b u,H b=some u->upd H T (.tup L) b=some u:=λb u e=>by rw[eT (xk e j)];exact e
 have h:X.env.locals∉a:=λz=>(g _ z).2.1 rfl
 refine I.step (g':=s.gens) (d':=s.drawn) (ch:=a) (λb U=>?_) (λb o _ _ J e _=>k b o J e) (λb o _ _ J e _=>⟨o.slots,k b o J e⟩) (λb o _ e n=>by rw[eT (Nat.ne_of_lt (Nat.lt_of_lt_of_le (Heap.lt_size e) p))];exact n)
  (λb o J e=>⟨o,k b o J e⟩) (λb _ e=>i b _ e) (λb _ _ e=>i b _ e) (λb l e=>⟨#[],by rw[i b _ e];simp⟩) (λm E=>?_) (λb u e=>?_) I.bare
 .obtain⟨G,t,w,d,A,P⟩:=g b U
  exact⟨d,t,A,P⟩
 .obtain⟨o,F,N,K,r⟩:=E
  exact⟨o,F,N,k _ o h K,r⟩
 .by_cases U:b=T
  .subst U
   rw[eV]at e
   cases e;exact new
  .rw[eT U]at e
   refine(I.hok b u e).stay (λc v J q=>k c v ?_ q) (λc q=>i c _ q) λc _ q=>i c _ q
   rcases J with z|z
   .rw[z];exact f b u e
   .exact f c _ z
noncomputable def d5:Option (Option PV)->Bool
 |some none=>true
 |_=>false
theorem jV{o:Option (Option PV)}(h:d5 o=true):o=some none:=by
 unfold d5 at h;split at h
 .rfl
 .cases h
section
variable{K:Fg}{He H H1 H2:Hp}{O G:List Addr}{Fs Fs1 Fs2:List (List Addr)}{σ:St}{Γ Γ1 Γ2:Ev}
theorem uW{i j m:Nat}{p:PV}(h:((C.set i none).set j none)[m]?=some (some p)):m≠i/\m≠j/\C[m]?=some (some p):=by
 obtain⟨Y,M⟩:=G8 h;obtain⟨P,a⟩:=G8 M;exact⟨P,Y,a⟩
theorem EnvOk.forget2{i j:Nat}{x y:Option V}(E:EnvOk K He O Fs H (((bK [i,j] σ).set i x).set j y) Γ):EnvOk K He O Fs H (bK [i,j] σ) ((Γ.set i none).set j none):=by
 refine⟨by have:=E.len1;simpa using this,by have:=E.len2;simpa using this,E.same,E.nd,E.inH,E.fresh,λm q a=>?_⟩
 obtain⟨Y,M,P⟩:=uW a;obtain⟨k,t,d,N,R,I⟩:=E.slot m q P;rw[getElem?_set_ne (Ne.symm M),getElem?_set_ne (Ne.symm Y)]at N;exact⟨k,t,d,N,R,I⟩
theorem EnvOk.blank2{i j:Nat}(E:EnvOk K He O Fs H σ Γ)(l:Γ[i]?=some none)(A:Γ[j]?=some none):EnvOk K He O Fs H (bK [i,j] σ) Γ:=by
 refine⟨by rw[Ae];exact E.len1,E.len2,E.same,E.nd,E.inH,E.fresh,λm q Y=>?_⟩
 obtain⟨k,t,d,N,R,I⟩:=E.slot m q Y;refine⟨k,t,d,?_,R,I⟩
 rw[IF (λz=>?_)]
 .exact N
 .simp only[mem_cons,not_mem_nil,or_false]at z
  rcases z with z|z
  .rw[z,l]at Y;cases Y
  .rw[z,A]at Y;cases Y
theorem EnvOk.unblank2{i j:Nat}(E:EnvOk K He O Fs H (bK [i,j] σ) Γ):EnvOk K He O Fs H σ Γ:=by
 refine⟨by have:=E.len1;rw[Ae]at this;exact this,E.len2,E.same,E.nd,E.inH,E.fresh,λm q Y=>?_⟩
 obtain⟨k,t,d,N,R,I⟩:=E.slot m q Y;exact⟨k,t,d,(D2 N).2,R,I⟩
theorem oS{i:Nat}{a:Addr}(l:i<Fs.length)(h:a∈(Fs.set i []).flatten):a∈Fs.flatten:=by
 have c:Fs[i]?=some (Fs[i]'l):=Mq _
 have:=(pO (G:=[]) c).mem_iff.mp (Mm _ h)
 simpa using this
structure Gm(K:Fg)(He:Hp)(O:List Addr)(Fs1:List (List Addr))(H1:Hp)(σ:St)(i j:Nat)(s:Sh)(A0:Addr)(n:Nat)(ys:List V)(H:Hp)(Γk:Ev)(Fk Gs:List (List Addr))(acc:List MA):Prop where
 env:EnvOk K He (A0::Gs.flatten++O) Fk H (bK [i,j] σ) Γk
 same:Same H1 H
 at_:H A0=some (.lst ys)
 new:∀a∈Gs.flatten++Fk.flatten,a∈Fs1.flatten\/H1 a=none
 l1:ys.length=acc.length
 l2:Gs.length=acc.length
 own:∀(m:Nat) v d G,ys[m]?=some v->acc[m]?=some d->Gs[m]?=some G->Own K (A0::Gs.flatten++O++Fk.flatten) H s G v d
 len:Γk.length=n
end
noncomputable def kc(N:List Str)(a:List Nat)(I:List Nat)(sc:Scope):Bool:=
 decide (sc.kind=.function)&&(sc.names.all λp=>!decide (p.2=.free)||I.any λj=>decide (N[j]?=some p.1)) &&
 ((List.range N.length).all λj=>a.contains j||(sc.names.all λp=>!decide (some p.1=N[j]?)||(!decide (p.2=.local)&&!decide (p.2=.cell)))) &&
 (sc.names.all λp=>!decide (p.2=.local)||decide (sc.names.lookup p.1=some .local)) &&
 (sc.names.all λp=>!decide (p.2=.free)||sc.names.all λq=>!decide (q.1=p.1)||!decide (q.2=.cell))
theorem lN{X:Cx}{N gl:List Str}{B I s G H a:List Nat}{d:Scope}(S:Cp X N gl B I s G H)(h:kc N a I d=true):d9 X.N a X.env.scope d:=by
 unfold kc at h;simp only[Bool.and_eq_true,decide_eq_true_eq,all_eq_true,Bool.or_eq_true,Bool.not_eq_true',decide_eq_false_iff_not,any_eq_true,mem_range]at h
 obtain⟨⟨⟨⟨o,Y⟩,M⟩,P⟩,m⟩:=h;refine⟨o,λn b=>?_,λj x e A=>?_,λx F e=>?_,λn b J=>?_⟩
 .rcases Y _ b with z|⟨j,A,e⟩
  .exact absurd rfl z
  .exact S.cel j n e (by simpa using A)
 .rw[S.hN]at e
  rcases M j (Mv e).1 with z|z
  .simpa using z
  .exfalso
   rcases A with y|y
   .rcases z _ y with w|w
    .exact w e.symm
    .exact w.1 rfl
   .rcases z _ y with w|w
    .exact w e.symm
    .exact w.2 rfl
 .rcases P x F with z|z
  .exact absurd e z
  .exact z
 .rcases m _ b with z|z
  .exact z rfl
  .rcases z _ J with w|w
   .exact w rfl
   .exact w rfl
end T
namespace TQ
open PySem PySem.Spec L2 T
open PyProof.Rows hiding St
section
variable{X:Cx}{N gl:List Str}{vs cs ls lo gs:List Nat}{W:XW}{a b c e:Expr}{es:List Expr}{pos p:Pos}{fa fb fc:F1}{fl:FL}{ga gb:FB}{g1 g2 g:FS}
theorem uy{m:Stmt}:Q (PS X m (tS X.K W Hu)):=⟨λB s M H D I h=>by
 obtain⟨L,O,t,C,E,h⟩:=h;exact h.elim⟩
theorem Jd(Z:Q (PE X e (tE X.K W fa)))(P:swapsWith e none pos.line X.env=pure false):Q (PS X (.Expr e pos) (tS X.K W (fH fa))):=⟨have Z:=Z.p;eO (xg Z P) λ_ _ _=>yq⟩
theorem GX{X:Cx}{N gl:List Str}{B I s h H:List Nat}{W:XW}{a:Expr}{d p r:Pos}{L:F1}{c:String}{x:Str}(S:Cp X N gl B I s h H)(j k:Nat)(A:gl[j]?=some ("isinstance":Str))(C:H.contains j=true)(G:gl[k]?=some x)(m:H.contains k=true)(J:kinds.contains c=true)(f:bootBuiltins x=some (.type c))(E:X.mg "isinstance"=none)(Y:X.mg x=none)(Z:Q (PE X a (tE X.K W L)))(P:starEach [a,.Name x r] X.env=(false,eval a X.env)::starEach [.Name x r] X.env)(o:starEach [.Name x r] X.env=(false,eval (.Name x r) X.env)::starEach [] X.env)(u:(backTo d (starEach [.Name x r] X.env)).any (·.1)=false):Q (PE X (.Call (.Name "isinstance" p) [a,.Name x r] [] d) (tE X.K W (fm c L))):=⟨have Z:=Z.p;bt (Je (wV (by simpa using J)) (S.g A C).1 E m4 (gm Z (gm (yE (v:=.ty c) (S.g G m).1 Y f rfl (S.g G m).2.2 (S.g G m).2.1) pF o) P) (S.g A C).2.2 (S.g A C).2.1 P u) λ_ _ _=>BD⟩
theorem nE(S:Cp X N gl vs cs ls lo gs)(j:Nat)(A:gl[j]?=some ("sorted":Str))(C:gs.contains j=true)(E:X.mg "sorted"=none)(Z:Q (PA X (e::es) (tA X.K W fl)))(R:starEach (e::es) X.env=(false,eval e X.env)::starEach es X.env)(u:(backTo pos (starEach es X.env)).any (·.1)=false):Q (PE X (.Call (.Name "sorted" p) (e::es) [] pos) (tE X.K W (fT fl))):=⟨have Z:=Z.p;bt (Je qP (S.g A C).1 E pC Z (S.g A C).2.2 (S.g A C).2.1 R u) λ_ _ _=>vd⟩
theorem Hi{r l:Pos}(S:Cp X N gl vs cs ls lo gs)(j k:Nat)(A:gl[j]?=some ("list":Str))(C:gs.contains j=true)(E:X.mg "list"=none)(G:gl[k]?=some ("range":Str))(m:gs.contains k=true)(Y:X.mg "range"=none)(Z:Q (PA X [a] (tA X.K W fl)))(P:starEach [a] X.env=[(false,eval a X.env)])(L:starEach [.Call (.Name "range" r) [a] [] l] X.env=[(false,eval (.Call (.Name "range" r) [a] [] l) X.env)]):Q (PE X (.Call (.Name "list" p) [.Call (.Name "range" r) [a] [] l] [] pos) (tE X.K W (rX fl))):=⟨have Z:=Z.p;bt (mB (S.g A C).1 E (S.g G m).1 Y S.calm Z P L) λ_ _ _=>EE⟩
theorem jz(n:Nat){w:List Stmt}(C:PassesOwn (model X.prog X.w) X.A X.env X.xe)(J:Q (PT X c (tT X.K W ga)))(U:Q (PSs X w (tS X.K W g))):Q (PS X (.While c w [] pos) (tS X.K W (iI n ga g))):=⟨have J:=J.p;have U:=U.p;eO (vB C J U) λ_ _ _=>u7⟩
end
end TQ
namespace T
open PySem PySem.Spec L2
open PyProof.Rows hiding St
variable{K:Fg}{X:List MA}{l:Addr}{B:List V}{F:Array DictEntry}{o:List Addr}{L:Array Value}{g:List (List Addr)}{I:Ev}{N:Nat}{G:Array (Option Value)}
noncomputable def bW:MA->Bool
 |.none=>true
 |_=>false
noncomputable def bJ(l:Bool):MA->MA->Option MA
 |a,.none=>some (.bool (if l then !bW a else bW a))
 |_,_=>none
theorem oH{H:Hp}{x:V}{a:MA}(r:Rep K H x a):decide (x=V.non)=bW a:=by
 cases r<;>simp[bW]
theorem zf:GOp K (λx y H Q=>y=.non/\Q (.bl (decide (x=.non))) H) (bJ false):=by
 intro x y H Q a b d m J e k
 cases J<;>simp only[bJ]at e<;>try cases e
 exact⟨rfl,by rw[oH m];exact k _ (.bl _)⟩
theorem wj:GOp K (λx y H Q=>y=.non/\Q (.bl (!decide (x=.non))) H) (bJ true):=by
 intro x y H Q a b d m J e k
 cases J<;>simp only[bJ]at e<;>try cases e
 exact⟨rfl,by rw[oH m];exact k _ (.bl _)⟩
theorem kA{X:Cx}(R:Rm X):Ck X .Is (λx y H Q=>y=.non/\Q (.bl (decide (x=.non))) H) (bJ false):=⟨Cj,zf⟩
theorem xh{X:Cx}(R:Rm X):Ck X .IsNot (λx y H Q=>y=.non/\Q (.bl (!decide (x=.non))) H) (bJ true):=⟨yI,wj⟩
noncomputable def Lx:MA->MA->Option MA
 |.str i,.str j=>if i.length+j.length<=sizeLine then some (.str (i++j))else none
 |_,_=>none
noncomputable def kK(L e:F1):F1:=aZ L λp=>aZ e λq=>λC=>match p.d,q.d with
 |.list xs,.list ys=>if aF p xs&&aF q ys&&decide (xs.length+ys.length<=sizeLine)then .ok ⟨.lst .leaf,.list (xs++ys)⟩ C else .no
 |_,_=>.no
noncomputable def lG(L e:F1):F1:=aZ L λp=>aZ e λq=>λC=>match p.d,q.d with
 |.tuple xs,.tuple ys=>if !p.s.isView&&aF q ys&&!xs.isEmpty&&decide (xs.length+ys.length<=sizeLine)then .ok ⟨.leaf,.tuple (xs++ys)⟩ C else .no
 |_,_=>.no
noncomputable def jZ(L e:F1):F1:=aZ L λp=>aZ e λq=>λC=>match p.d,q.d with
 |.tuple xs,.int k=>if !p.s.isView&&decide (1<=k)&&decide (k<=xs.length)then .ok ⟨.leaf,.tuple (xs.drop k.toNat)⟩ C else .no
 |_,_=>.no
noncomputable def vx(K:Fg):R2:=λx y H Q=>∃l b L X,x=.ref l/\y=.ref b/\SqL K H l L/\SqL K H b X/\L.length+X.length<=sizeLine/\∀p,H p=none->Q (.ref p) (upd H p (.lst (L++X)))
theorem zJ{c:Program}{w:World}{A:Around}{E:Value->Shared->Prop}{s:Shared}{b:Addr}{B x:List Value}{Q:Value->Shared->Prop}(S:s.heap.IsList l B.toArray)(U:s.heap.IsList b x.toArray)(j:B.length+x.length<=sizeLine)(h:Q (.ref s.heap.objs.size) {s with heap:=s.heap.push {cls:=.type "list",data:=.seq (B++x).toArray} }):wpAny (model c w) A (binaryOp .Add (.ref l) (.ref b)) Q E s:=by
 obtain⟨⟨cls,q,data,f⟩,K,J,n,y⟩:=id S;obtain⟨⟨p,k,o,m⟩,d,i,g,a⟩:=id U;simp only at J y i a
 subst J y i a;have e:B.toArray++x.toArray=(B++x).toArray:=by simp
 rw[<-e]at h;exact concat_meets ⟨_,K,rfl⟩ ⟨_,d,rfl⟩ noFill_list_add seq_list_add PySem.F.slot_list_add PySem.F.entry_list_add (PySem.F.args_list_add_2 _ _) (list_addW l b B.toArray x.toArray n g q k f m (by simpa using j)) ⟨K,d,h⟩
theorem yL{X:Cx}:OpR X (binaryOp .Add) (vx X.K):=by
 intro B s M H x y v u Q I K n h;obtain⟨l,b,L,c,rfl,rfl,o,j,U,q⟩:=h
 cases K
 cases n;obtain⟨g,r,pl,z⟩:=I.list o;obtain⟨f,C,w,a⟩:=I.list j;refine zJ pl.isList w.isList (by rw[<-r.length,<-C.length];exact U) ?_
 exact⟨.ref _,_,I.lnew (t':=s.toks) (r.append C) (by rw[length_append];exact U),rfl,q _ I.fresh⟩
section
variable{K:Fg}{W:XW}{σ:St}{H:Hp}{Q:VK}{D:eR}{fa fb:F1}{fl:FL}
theorem Reps.app{x:List V}{F:List MA}(h:Reps K H B X)(Z:Reps K H x F):Reps K H (B++x) (X++F):=by
 refine⟨by rw[length_append,length_append,h.1,Z.1],λi v d N R=>?_⟩
 by_cases l:i<B.length
 .rw[getElem?_append_left l]at N
  rw[getElem?_append_left (by rw[<-h.1];exact l)]at R
  exact h.2 i v d N R
 .rw[getElem?_append_right (by omega)]at N
  rw[getElem?_append_right (by rw[<-h.1];omega),<-h.1]at R
  exact Z.2 _ v d N R
theorem Reps.drop(k:Nat)(h:Reps K H B X):Reps K H (B.drop k) (X.drop k):=by
 refine⟨by rw[length_drop,length_drop,h.1],λi v d N R=>?_⟩
 rw[List.getElem?_drop]at N R
 exact h.2 _ v d N R
theorem C9{r O F:List Addr}(X:(r++(o++O)++F).Nodup):(∀a∈o,a∉O++F)/\(∀a∈r,a∉O++F):=by
 rw[append_assoc,append_assoc]at X;obtain⟨_,g,m⟩:=Mt X;obtain⟨_,_,d⟩:=Mt g;exact⟨λa Z z=>d a Z a z rfl,λa Z z=>m a Z a (Mm _ z) rfl⟩
theorem uS{r O F:List Addr}:∀a∈O++F,a∈r++(o++O)++F:=λa Z=>by
 rcases Mo Z with z|z
 .exact Mn _ (Mm _ (Mm _ z))
 .exact Mm _ z
theorem Ir{L f:Hp}{O:List Addr}{t:List (List Addr)}{p:Addr}(E:EnvOk K L O g f σ I)(s:Same H f)(n:∀a∈g.flatten,a∈t.flatten\/H a=none)(m:Reps K (bZ f (O++g.flatten)) B X)(C:f p=none):Aft K L O t H σ I ⟨.leaf,.tuple X⟩ (.ref p) (upd f p (.tup B)) [] g:=by
 refine⟨s.trans (jt C),by rw[nil_append];exact E.grow (jt C),by rw[nil_append];exact n,.leaf ?_⟩
 rw[nil_append];have j:p∉O++g.flatten:=λz=>E.inH p z C
 exact .tup (.of (ur eV j)) m.1 λi v d Y M=>(m.2 i v d Y M).mono (me (jt C) λa Z=>.inl Z)
theorem rQ{L f:Hp}{O:List Addr}{Fs:List (List Addr)}{v:V}{d:MA}(E:EnvOk K L O g f σ I)(s:Same H f)(n:∀a∈g.flatten,a∈Fs.flatten\/H a=none)(m:Rep K (bZ f (O++g.flatten)) v d):Aft K L O Fs H σ I ⟨.leaf,d⟩ v f [] g:=
 ⟨s,by rw[nil_append];exact E,by rw[nil_append];exact n,.leaf (by rw[nil_append];exact m)⟩
theorem BL(h:tE K W (kK fa fb) σ H Q):m8 (vx K) (tE K W fa) (tE K W fb) σ H Q:=by
 refine AL (R:=λv u A=>vx K v u A Q) h λU O t S p q v u f A o G2 l X n G E new e y w=>?_
 obtain⟨s,d⟩:=p;obtain⟨N,b⟩:=q;dsimp only at w e y
 split at w
 .rename_i L g
  cases J:(aF ⟨s,.list L⟩ L&&aF ⟨N,.list g⟩ g&&decide (L.length+g.length<=sizeLine))with
  |false=>rw[J]at w;exact w.elim
  |true=>
   rw[J]at w;simp only[Bool.and_eq_true,decide_eq_true_eq]at J
   obtain⟨⟨Y,M⟩,P⟩:=J;obtain⟨F,i⟩:=C9 E.nd;obtain⟨j,B,rfl,z,_,k⟩:=e.items (O':=O++l.flatten) Y uS F
   obtain⟨r,x,rfl,m,_,C⟩:=y.items (O':=O++l.flatten) M uS i
   refine⟨j,r,B,x,rfl,rfl,z,m,by rw[k.1,C.1];exact P,λI c=>w _ _ _ _ (IJ (E.drop (λa Z=>Mm _ (Mm _ Z)) X) (n.trans G) (λa Z=>new a (Mm _ (Mm _ Z))) (k.app C) c)⟩
 .exact w.elim
theorem yt(h:tE K W (lG fa fb) σ H Q):m8 (vw K) (tE K W fa) (tE K W fb) σ H Q:=by
 refine AL (R:=λv u m=>vw K v u m Q) h λHe O Fs S p q v u f m G1 G2 l X n G E new t y w=>?_
 obtain⟨s,d⟩:=p;obtain⟨N,b⟩:=q;dsimp only at w t y
 split at w
 .rename_i L j
  cases J:(!s.isView&&aF ⟨N,.tuple j⟩ j&&!L.isEmpty&&decide (L.length+j.length<=sizeLine))with
  |false=>rw[J]at w;exact w.elim
  |true=>
   rw[J]at w;simp only[Bool.and_eq_true,decide_eq_true_eq,Bool.not_eq_true']at J
   obtain⟨⟨⟨Y,M⟩,o⟩,P⟩:=J;obtain⟨F,i⟩:=C9 E.nd;have g:=E.drop (λa Z=>Mm _ (Mm _ Z)) X
   have I:∀a∈l.flatten,a∈Fs.flatten\/H a=none:=λa Z=>new a (Mm _ (Mm _ Z))
   have k:=t.freeze (O':=O++l.flatten) Y uS F
   obtain⟨r,x,rfl,U,_,C⟩:=y.itemsT (O':=O++l.flatten) M uS i
   cases k with
   |@tup a vs _ hq hl hr=>
    refine⟨a,r,vs,x,rfl,rfl,eN hid_le hq,U,λz=>?_,by rw[hl,C.1];exact P,λz=>?_,λz B c=>w _ _ _ _ (Ir g (n.trans G) I (Reps.app ⟨hl,hr⟩ C) c)⟩
    .subst z
     cases L with
     |nil=>simp at o
     |cons _ _=>simp at hl
    .subst z
     have e:j=[]:=List.length_eq_zero_iff.mp (by rw[<-C.1];rfl)
     subst e;have A:=rQ (Fs:=Fs) (H:=H) (d:=.tuple (L++[])) (v:=.ref a) g (n.trans G) I (by rw[append_nil];exact .tup hq hl hr)
     exact w _ _ _ _ A
 .exact w.elim
theorem Bv(h:tE K W (jZ fa fb) σ H Q):tSl (BR K) (tE K W fa) (uP (tE K W fb)) mi σ H Q:=by
 refine AL (R:=λv u A=>∃i,u=.int i/\BR K v (some i) none A Q) h λHe O t S p q v u f A o r l X n G E new e y w=>?_
 obtain⟨s,d⟩:=p;obtain⟨N,b⟩:=q;dsimp only at w e y
 split at w
 .rename_i L k
  cases J:(!s.isView&&decide (1<=k)&&decide (k<=L.length))with
  |false=>rw[J]at w;exact w.elim
  |true=>
   rw[J]at w;simp only[Bool.and_eq_true,decide_eq_true_eq,Bool.not_eq_true']at J
   obtain⟨⟨Y,M⟩,P⟩:=J;obtain⟨F,d2⟩:=C9 E.nd;have g:=E.drop (λa Z=>Mm _ (Mm _ Z)) X
   have I:∀a∈l.flatten,a∈t.flatten\/H a=none:=λa Z=>new a (Mm _ (Mm _ Z))
   have x:=e.freeze (O':=O++l.flatten) Y uS F
   have U:=y.rep
   cases U;refine⟨k,rfl,?_⟩
   cases x with
   |@tup a vs _ hq hl hr=>
    have j:k=((k.toNat:Nat):Int):=by omega
    refine⟨a,vs,rfl,eN hid_le hq,λz=>?_,λB c=>?_⟩
    .have C:=z.1
     rw[j,HT.sIx_nat]at C;omega
    .have m:kQ vs (some k) none=vs.drop k.toNat:=by
      unfold kQ;rw[j,HT.sIx_nat,HT.sIx_none,Int.toNat_natCast,List.take_of_length_le (by rw[length_drop];omega)]
      rw[Nat.min_eq_left (by omega)]
     rw[m];exact w _ _ _ _ (Ir g (n.trans G) I (Reps.drop k.toNat ⟨hl,hr⟩) c)
 .exact w.elim
noncomputable def iO(L:F1):F1:=aZ L λp C=>match p.d with
 |.list X=>if aF p X then .ok ⟨.leaf,.tuple X⟩ C else .no
 |.tuple X=>if !p.s.isView then .ok ⟨.leaf,.tuple X⟩ C else .no
 |_=>.no
theorem u9(h:tE K W (iO fa) σ H Q):Ba (λL H Q=>∃p R,L=[.ref p]/\((SqL K H p R/\∀l,H l=none->Q (.ref l) (upd H l (.tup R)))\/(SqT K H p R/\Q (.ref p) H))) (tA K W (ae fa af)) σ H Q:=by
 refine Ij (QL:=λL f=>∃p R,L=[.ref p]/\((SqL K f p R/\∀l,f l=none->Q (.ref l) (upd f l (.tup R)))\/(SqT K f p R/\Q (.ref p) f))) ?_
 refine uq h λb O t I p v f G g c A w=>?_
 obtain⟨s,d⟩:=p
 cases d with
 |list X=>
  have w:Wants K W b O t H σ Q (if aF ⟨s,.list X⟩ X then .ok ⟨.leaf,.tuple X⟩ I else .no):=w
  cases J:aF ⟨s,.list X⟩ X with
  |false=>rw[J]at w;exact w.elim
  |true=>
   rw[J]at w;obtain⟨p,B,rfl,Y,_,m⟩:=A.own.items (O':=O++g.flatten) J kr A.disj
   exact⟨p,B,rfl,.inl ⟨Y,λl S=>w _ _ _ _ (Ir A.go A.same A.newF m S)⟩⟩
 |tuple X=>
  have w:Wants K W b O t H σ Q (if !s.isView then .ok ⟨.leaf,.tuple X⟩ I else .no):=w
  cases J:s.isView with
  |true=>rw[J]at w;exact w.elim
  |false=>
   rw[J]at w;have k:=A.own.freeze (O':=O++g.flatten) J kr A.disj
   cases k with
   |@tup a B _ Y S m=>exact⟨a,B,rfl,.inr ⟨eN hid_le Y,w _ _ _ _ (rQ A.go A.same A.newF (.tup Y S m))⟩⟩
 |_=>exact w.elim
end
noncomputable def Kx:List MA->Option MA
 |[.list ds]=>(intsOf ds).map λZ=>.int Z.sum
 |_=>none
noncomputable def cK(k:Str):List (Str×Int)->Option Int
 |[]=>none
 |(x,i)::r=>if k=x then some i else cK k r
noncomputable def uL(a:Addr)(F:Array DictEntry)(m:List (Str×Int)):Bool:=!(a==sysModules)&&KTD.rowsLook KTD.flatLooks F.toList (m.map λp=>(p.1,.int p.2))
noncomputable def sv(K:Fg)(p:Str->Option Value)(x:Str)(m:List (Str×Int)):Prop:=∃a F N,p x=some (.ref a)/\K.lookup a=some ⟨.type "dict",none,.dict F N,#[]⟩/\uL a F m=true
noncomputable def Dp(X:Cx)(x:Str)(m:List (Str×Int)):Prop:=sv X.K X.mg x m
theorem zH{p:Str->Option Value}{x:Str}{a:Addr}{m:List (Str×Int)}(E:p x=some (.ref a))(l:K.lookup a=some ⟨.type "dict",none,.dict F N,#[]⟩)(h:uL a F m=true):sv K p x m:=⟨a,F,N,E,l,h⟩
noncomputable def uK(m:List (Str×Int)):List (Str×KTD.Dat):=(m.map λp=>(p.1,PySem.PyData.int p.2)).map λp=>(p.1,KTD.Dat.flat p.2)
theorem nJ{h:Heap}{a:Addr}{m:List (Str×Int)}(G:K.In h)(l:K.lookup a=some ⟨.type "dict",none,.dict F N,#[]⟩)(U:uL a F m=true):KTD.Here h h a (uK m):=by
 unfold uL at U;simp only[Bool.and_eq_true,Bool.not_eq_true']at U
 refine⟨KTD.TabOf.text ⟨U.1,_,F,N,G a _ l,⟨rfl,rfl,rfl⟩,rfl,KTD.rows_of_look (λd v z=>KTD.flat_of_looks z) U.2⟩,λb o z=>z⟩
theorem Jj(k:Str):∀m:List (Str×Int),KTD.datumAt k (uK m)=(cK k m).map λi=>KTD.Dat.flat (.int i)
 |[]=>rfl
 |(x,i)::r=>by
  have B:=Jj k r
  unfold uK at B ⊢
  simp only[map_cons,KTD.datumAt,cK]
  by_cases e:k=x
  .simp[e]
  .simp[e]
   simpa using B
theorem oW{h:Heap}{k:Str}{P:Value->Prop}{i:Int}(C:∀t,P (.int i t)):∀m:List (Str×Int),cK k m=some i->KTD.EachL h k P (uK m)
 |[],_=>trivial
 |[(x,j)],e=>λF=>by
  simp only[cK,F,if_true,Option.some.injEq]at e
  subst e;exact C
 |(x,j)::q::r,e=>by
  show(if decide (k=x)=true then KTD.Opened h P (.flat (.int j))else KTD.EachL h k P (uK (q::r)))
  by_cases F:k=x
  .rw[if_pos (decide_eq_true F)]
   rw[cK,if_pos F]at e
   cases e;exact C
  .rw[if_neg (by simp[F])]
   rw[cK,if_neg F]at e;exact oW C (q::r) e
noncomputable def wG(l:Bool)(m:List (Str×Int))(L:F1):F1:=aZ L λp C=>match p.d with
 |.str k=>.ok ⟨.leaf,.bool (if l then !(cK k m).isSome else(cK k m).isSome)⟩ C
 |_=>.no
noncomputable def rY(m:List (Str×Int))(L:F1):F1:=aZ L λp C=>match p.d with
 |.str k=>(match cK k m with
  |some i=>.ok ⟨.leaf,.int i⟩ C
  |none=>.no)
 |_=>.no
section
variable{K:Fg}{W:XW}{σ:St}{H:Hp}{Q:VK}{fa:F1}
theorem BE{l:Bool}{m:List (Str×Int)}(h:tE K W (wG l m fa) σ H Q):tE K W fa σ H λx f=>∃k,x=.str k/\Q (.bl (if l then !(cK k m).isSome else(cK k m).isSome)) f:=by
 refine uq h λL O t I p v f G g X A w=>?_
 obtain⟨s,d⟩:=p;have r:=A.own.rep
 cases r with
 |str k=>exact⟨k,rfl,Wants.scal w (.bl _) A.same A.env (λa Z=>Mm _ Z) X A.newF⟩
 |_=>exact w.elim
theorem yp{m:List (Str×Int)}(h:tE K W (rY m fa) σ H Q):tE K W fa σ H λx f=>∃k i,x=.str k/\cK k m=some i/\Q (.int i) f:=by
 refine uq h λL O t I p v f G g X A w=>?_
 obtain⟨s,d⟩:=p;have r:=A.own.rep
 cases r with
 |str k=>
  have w:Wants K W L O t H σ Q (match cK k m with|some i=>.ok ⟨.leaf,.int i⟩ I|none=>.no):=w
  cases e:cK k m with
  |none=>rw[e]at w;exact w.elim
  |some i=>
   rw[e]at w;exact⟨k,i,rfl,e,Wants.scal w (.int _) A.same A.env (λa Z=>Mm _ Z) X A.newF⟩
 |_=>exact w.elim
end
section
variable{X:Cx}{N gl:List Str}{vs cs ls lo gs:List Nat}{W:XW}{a b c e:Expr}{es:List Expr}{pos p:Pos}{fa fb fc:F1}{fl:FL}{g:FS}
theorem Ca{x:Str}{m:List (Str×Int)}(S:Cp X N gl vs cs ls lo gs)(j:Nat)(A:gl[j]?=some x)(C:gs.contains j=true)(Tb:Dp X x m)(Z:PE X a (tE X.K W fa)):PC X .In a (.Name x p) (tE X.K W (wG false m fa)):=by
 intro B s M H Q I h;obtain⟨d,es,f,E,l,U⟩:=Tb;refine b5 (Z B s M H _ I (BE h)) λv n ⟨y,H1,I1,r1,k,ey,q⟩=>?_
 subst ey;obtain⟨t,rfl⟩:=r1;refine Gz I1 (S.g A C).1 E ?_ (S.g A C).2.1
 refine KTD.in_text (nJ I1.kIn l U) ?_
 refine⟨.bl _,H1,I1.tok _,?_,q⟩
 rw[<-KTD.isSome_datumAt,Jj,Option.isSome_map];rfl
end
noncomputable def Ku(i:Nat)(q:PV)(C:Ev):Out PV:=match C[i]?,q.d with
 |some (some ⟨.lst .leaf,.list ds⟩),.int k=>(match fQ ds.length k with
  |some j=>(match ds[j]? with
   |some d=>.ok ⟨.leaf,d⟩ C
   |none=>.no)
  |none=>.no)
 |_,_=>.no
noncomputable def wH(i:Nat)(e:F1):F1:=λC=>if dD C[i]? then(e C).bind (Ku i)else .no
section
variable{K:Fg}{W:XW}{σ:St}{H:Hp}{Q:VK}{D:eR}{fa fb:F1}{fl:FL}
noncomputable def qD(p:PV):Bool:=match p with
 |⟨.lst .leaf,.list ds⟩=>ds.all bU
 |_=>false
noncomputable def fU(n:Nat)(w:List MA->Res)(d:FL):F1:=λC=>(d C).bind λJ N=>if J.length=n then(match w (J.map (·.d))with
 |.ok p=>if qD p then .ok p N else .no
 |_=>.no)else .no
theorem vj{n:Nat}{w:List MA->Res}{E:XK}(h:tE K W (fU n w fl) σ H Q):eB (pJ K n w) [] E (tA K W fl) σ H Q:=by
 obtain⟨L,O,t,C,E0,h⟩:=h;refine⟨L,O,t,C,E0,?_⟩
 unfold fU at h
 cases e:fl C with
 |er c N=>rw[e]at h;exact h
 |no=>rw[e]at h;exact h
 |ok i I=>
  rw[e]at h;intro B f y g A;have h:Wants K W L O t H σ Q (if i.length=n then(match w (i.map (·.d))with|.ok p=>if qD p then .ok p I else .no|_=>.no)else .no):=h
  by_cases k:i.length=n
  case neg=>rw[if_neg k]at h;exact h.elim
  rw[if_pos k]at h;have S:(B++[]).length=n:=by rw[append_nil,A.len1];exact k
  cases F:w (i.map (·.d))with
  |er c=>rw[F]at h;exact h.elim
  |no=>rw[F]at h;exact h.elim
  |ok p=>
   rw[F]at h;have h:Wants K W L O t H σ Q (if qD p then .ok p I else .no):=h
   have newF:∀a∈g.flatten,a∈t.flatten\/H a=none:=λa Z=>A.new a (Mm _ Z)
   cases J:qD p with
   |false=>rw[J]at h;exact h.elim
   |true=>
    rw[J]at h;have h:Wants K W L O t H σ Q (.ok p I):=h
    refine⟨S,[],i.map (·.d),nodup_nil,(λ_ z=>nomatch z),by rw[append_nil,IQ];exact A.reps,?_⟩
    rw[F];intro v s G r;unfold qD at J;split at J
    .rename_i X
     obtain⟨l,x,rfl,rfl,o,b,m⟩:=r.own.leaves;refine h (.ref l) s [l] g ⟨A.same.trans r.same,A.env.dropL.hide r.same r.nd r.fresh r.inH,λa Z=>?_,Own.mkLeaves o b λj u d q R=>((m j u d q R).sc (List.all_eq_true.mp J d (mem_of_getElem? R))).rep⟩
     rcases Mo Z with z|z
     .exact .inr (A.same.free (r.fresh a z))
     .exact newF a z
    .cases J
noncomputable def wY(i:Nat)(a:Int)(p:PV)(C:Ev):gj:=match p.d with
 |.int b=>if i<C.length then .nx (C.set i (MB (.int (a+b))))else .no
 |_=>.no
noncomputable def iV(i:Nat)(f:F1):FS:=λC=>match C[i]? with
 |some (some ⟨.leaf,.int a⟩)=>jv f (wY i a) C
 |_=>.no
theorem BN{i:Nat}(h:tS K W (iV i fa) D σ H):El i (tE K W fa) (Lv λi j=>i+j) D σ H:=by
 obtain⟨L,O,t,C,E,h⟩:=h;unfold iV at h;split at h
 .rename_i a U
  obtain⟨_,v,F,Y,M,P⟩:=E.slot i _ U;have r:=P.rep
  cases r;refine⟨.int a,Y,?_⟩
  refine iU (D:=D) (k:=wY i a) ⟨L,O,t,C,E,h⟩ λL O t I p u f G g _ d A w=>?_
  unfold wY at w;split at w
  .rename_i b N
   have r:=A.own.rep
   rw[N]at r
   cases r;by_cases l:i<I.length
   .rw[if_pos l]at w
    exact⟨a,b,rfl,rfl,w _ _ _ (EnvOk.put (G:=[]) (p:=⟨.leaf,.int (a+b)⟩) (v:=.int (a+b)) A.go (.leaf (.int _)) rfl (λa Z=>by simp at Z) l)⟩
   .rw[if_neg l]at w;exact w.elim
  .exact w.elim
 .exact h.elim
noncomputable def C1(i:Nat)(p:PV)(C:Ev):gj:=match C[i]?,p.d with
 |some (some ⟨.lst .leaf,.list ds⟩),.tuple es=>if aF p es&&decide (ds.length+es.length<=sizeLine)then .nx (C.set i (some ⟨.lst .leaf,.list (ds++es)⟩))else .no
 |some (some ⟨.lst .leaf,.list ds⟩),.list es=>if aF p es&&decide (ds.length+es.length<=sizeLine)then .nx (C.set i (some ⟨.lst .leaf,.list (ds++es)⟩))else .no
 |_,_=>.no
noncomputable def mw(i:Nat)(f:F1):FS:=λC=>if dD C[i]? then jv f (C1 i) C else .no
noncomputable def BW(K:Fg):V->List V->Hp->VK->Prop:=λx B H Q=>∃l b L X,x=.ref l/\B=[.ref b]/\H l=some (.lst L)/\(SqL K H b X\/SqT K H b X)/\L.length+X.length<=sizeLine/\Q .non (upd H l (.lst (L++X)))
theorem BK{i:Nat}(h:tS K W (mw i fa) D σ H):eA (Bc K "list" (BW K) (bT i) (tA K W (ae fa af))) D σ H:=by
 obtain⟨L,O,t,C,E,h⟩:=h;unfold mw at h
 cases o:dD C[i]? with
 |false=>rw[o]at h;exact h.elim
 |true=>
  rw[o]at h;obtain⟨X,q⟩:=jU o;obtain⟨l,B,Y,M,P,_,_⟩:=E.chgF q;refine⟨.ref l,Y,.inl ⟨rfl,B,.of M⟩,Ij (iU (D:=D) ⟨L,O,t,C,E,h⟩ λL O t I p v f G g _ Z A w=>?_)⟩
  obtain⟨s,d⟩:=p;have k:∀(a F:List MA)(b:Addr)(x:List V),I[i]?=some (some ⟨.lst .leaf,.list a⟩)->v=.ref b->(SqL K f b x\/SqT K f b x)->Reps K (bZ f (O++g.flatten)) x F->a.length+F.length<=sizeLine ->
    cF K W L O D (.nx (I.set i (some ⟨.lst .leaf,.list (a++F)⟩)))->BW K (.ref l) [v] f (λ_ z=>D.nx σ z):=λa F b x N r n m U w=>by
   obtain⟨l1,j,S,c,y,u,e⟩:=A.go.chgF N;rw[Y]at S
   cases S;subst r;refine⟨l,b,j,x,rfl,rfl,c,n,by rw[y,m.1];exact U,w σ _ _ (e (j++x) (a++F) (by rw[length_append,length_append,y,m.1]) ?_)⟩
   exact(Reps.app ⟨y,u⟩ m).2
  unfold C1 at w;split at w
  .rename_i a F N R
   dsimp only at R;subst R
   cases J:(aF ⟨s,.tuple F⟩ F&&decide (a.length+F.length<=sizeLine))with
   |false=>rw[J]at w;exact w.elim
   |true=>
    rw[J]at w;simp only[Bool.and_eq_true,decide_eq_true_eq]at J
    obtain⟨b,x,rfl,n,_,m⟩:=A.own.itemsT (O':=O++g.flatten) J.1 kr A.disj
    exact k a F b x N rfl (.inr n) m J.2 w
  .rename_i a F N R
   dsimp only at R;subst R
   cases J:(aF ⟨s,.list F⟩ F&&decide (a.length+F.length<=sizeLine))with
   |false=>rw[J]at w;exact w.elim
   |true=>
    rw[J]at w;simp only[Bool.and_eq_true,decide_eq_true_eq]at J
    obtain⟨b,x,rfl,n,_,m⟩:=A.own.items (O':=O++g.flatten) J.1 kr A.disj
    exact k a F b x N rfl (.inl n) m J.2 w
  .exact w.elim
end
theorem KB{b:Addr}{a:Array Value}{n m:Nat}{i:Option Addr}(o:¬(!L.isEmpty&&Builtin.List.listTooLong (L.size+a.size))=true)(Y:L.size<=sizeLine)(M:(L++a).size<=sizeLine+1):Meets (Builtin.«list.extend» ⟨[.ref l,.ref b],[]⟩) (λ_ R s=>s.heap.get? l=some ⟨.type "list",none,.seq L n,#[]⟩/\s.heap.get? b=some ⟨.type "tuple",i,.seq a m,G⟩ /\
   R (.ok (.ret Value.none)) {s with heap:=s.heap.update l (Obj.mapSeq λx=>x++a),toks:=s.toks}):=
 .of_wp λc w A R s h=>by
  obtain⟨C,g,d,j,X⟩:=s;obtain⟨S,U,h⟩:=h;have t:=AutoSeq1.idx_int
  have q:=AutoSeq1.sub_tuple_tuple
  have e:=AutoSeq1.sub_list_list
  have f:=AutoSeq1.sub_tuple_list
  have P:=AutoSeq1.sub_list_tuple
  wp_walk using(wpAny_updateSeq S rfl (hz:=Y) (_hz':=M)),AutoSeq1.wpAny_loadPart' S,AutoSeq1.wpAny_loadPart' U
  exact⟨_,rfl,h⟩
theorem KD{b:Addr}{a:Array Value}{n m:Nat}{i:Option Addr}(o:¬(!L.isEmpty&&Builtin.List.listTooLong (L.size+a.size))=true)(Y:L.size<=sizeLine)(M:(L++a).size<=sizeLine+1):Meets (Builtin.«list.extend» ⟨[.ref l,.ref b],[]⟩) (λ_ R s=>s.heap.get? l=some ⟨.type "list",none,.seq L n,#[]⟩/\s.heap.get? b=some ⟨.type "list",i,.seq a m,G⟩ /\
   R (.ok (.ret Value.none)) {s with heap:=s.heap.update l (Obj.mapSeq λx=>x++a),toks:=s.toks}):=
 .of_wp λc w A R s h=>by
  obtain⟨C,g,d,j,X⟩:=s;obtain⟨S,U,h⟩:=h;have t:=AutoSeq1.idx_int
  have q:=AutoSeq1.sub_tuple_tuple
  have e:=AutoSeq1.sub_list_list
  have f:=AutoSeq1.sub_tuple_list
  have P:=AutoSeq1.sub_list_tuple
  wp_walk using(wpAny_updateSeq S rfl (hz:=Y) (_hz':=M)),AutoSeq1.wpAny_loadPart' S,AutoSeq1.wpAny_loadPart' U
  exact⟨_,rfl,h⟩
theorem Cy{X:Cx}:Gk X "list.extend" (BW X.K):=by
 intro B s M H x vs v A Q I K c h;obtain⟨l,b,L,Z,rfl,rfl,o,j,U,q⟩:=h
 cases K;obtain⟨u,rfl,N⟩:=c.one
 cases N;obtain⟨z,g,n,r,S,e⟩:=I.lstM o;have k:∀f:List Value,Vals Z f->g.toArray.size+f.toArray.size<=sizeLine/\(g.toArray++f.toArray).size<=sizeLine+1/\g.toArray.size<=sizeLine/\¬(!g.toArray.isEmpty&&Builtin.List.listTooLong (g.toArray.size+f.toArray.size))=true /\
   EP X B M Q Value.none {s with heap:=s.heap.update l (Obj.mapSeq λx=>x++f.toArray),toks:=s.toks}:=λf C=>by
  have Y:g.toArray.size+f.toArray.size<=sizeLine:=by rw[size_toArray,size_toArray,<-r.length,<-C.length];exact U
  refine⟨Y,by rw[Array.size_append];omega,by omega,?_,?_⟩
  .rw[oG Y,Bool.and_false]
   exact Bool.false_ne_true
  .exact⟨.non,_,I.lset (its':=g++f) o e (by simp) (r.append C) (by rw[length_append];exact U),rfl,q⟩
 rcases j with j|j
 .obtain⟨f,C,⟨⟨p,i,a,G⟩,J,R,m,ed,w⟩,_⟩:=I.list j
  simp only at m w
  subst m w;obtain⟨t,y,d,E,P⟩:=k f C;exact call_meets F.slot_list_extend ⟨_,e,rfl⟩ F.entry_list_extend (F.args_list_extend_2 _ _) (KD E d y) ⟨e,R,P⟩
 .obtain⟨f,C,⟨⟨p,i,a,G⟩,R,m,J,w⟩,_⟩:=I.tuple j
  simp only at m w
  subst m w;obtain⟨t,y,d,E,P⟩:=k f C;exact call_meets F.slot_list_extend ⟨_,e,rfl⟩ F.entry_list_extend (F.args_list_extend_2 _ _) (KB E d y) ⟨e,R,P⟩
section
variable{X:Cx}{N gl:List Str}{vs cs ls lo gs:List Nat}{W:XW}{a b c e:Expr}{es:List Expr}{pos p:Pos}{fa fb fc:F1}{fl:FL}{g:FS}
theorem cs_extend(S:Cp X N gl vs cs ls lo gs)(i:Nat){x:Str}{d h:Pos}(l:N[i]?=some x)(f:vs.contains i=true)(Z:PE X a (tE X.K W fa))(P:starEach [a] X.env=[(false,eval a X.env)])(j:attributeBase (.Name x p) "extend" X.env (eval (.Name x p) X.env)=eval (.Name x p) X.env)(k:(d.endLine==h.line)=true)(q:((backTo h (starEach [a] X.env)).all (λx=>!x.1)&&(backToKw h (keywordEach [] X.env)).all (λx=>x.1.isSome)
   && decide ([a].length+([]:List Keyword).length+(if([]:List Keyword).isEmpty then 0 else 1)<30))=true)(n:swapsWith (.Call (.Attribute (.Name x p) "extend" d) [a] [] h) none pos.line X.env=pure false):PS X (.Expr (.Call (.Attribute (.Name x p) "extend" d) [a] [] h) pos) (tS X.K W (mw i fa)):=by
 have m:=S.nm x (mem_of_getElem? l)
 exact eO (xg (oo PySem.F.plainAttrs_list PySem.F.slot_list_extend PySem.F.type_list_extend Cy (Dw (by rw[S.hN];exact l) (S.vis i x l f) m.1 m.2) (da_cons Z da_nil P) j q k P rfl) n) λ_ _ _=>BK
theorem FH{P:Program}{w:World}{i:Str->Option Value}{d:Heap}{k:Nat}{f:Addr}{y:FuncData}{J:List Str}:eQ P w K i d lZ k f y J (pJ K J.length λ_=>.no):=
 ⟨λvs H Q E h=>h.1,λA L s H args j vs Q E m R U l h=>by
  obtain⟨_,_,_,_,_,_,w⟩:=h;exact w.elim⟩
end
end T
namespace TQ
open PySem PySem.Spec L2 T
open PyProof.Rows hiding St
variable{x:Str}
section
variable{X:Cx}{N gl:List Str}{vs cs ls lo gs:List Nat}{W:XW}{a b c e:Expr}{es:List Expr}{pos p:Pos}{fa fb fc:F1}{fl:FL}{ga gb:FB}{g1 g2 g:FS}
theorem nC(Z:Q (PE X a (tE X.K W fa)))(U:Q (PE X b (tE X.K W fb))):Q (PE X (.BinOp a .Add b pos) (tE X.K W (kK fa fb))):=⟨have Z:=Z.p;have U:=U.p;bt (hE yL Z U) λ_ _ _=>BL⟩
theorem sG(Z:Q (PE X a (tE X.K W fa)))(U:Q (PE X b (tE X.K W fb))):Q (PE X (.BinOp a .Add b pos) (tE X.K W (lG fa fb))):=⟨have Z:=Z.p;have U:=U.p;bt (hE yK Z U) λ_ _ _=>yt⟩
theorem nA{r:Pos}(Z:Q (PE X a (tE X.K W fa)))(U:Q (PE X b (tE X.K W fb))):Q (PE X (.Subscript a (.Slice (some b) none none r) pos) (tE X.K W (jZ fa fb))):=⟨have Z:=Z.p;have U:=U.p;bt (oj Bf Z (rC U) rD) λ_ _ _=>Bv⟩
theorem pP(S:Cp X N gl vs cs ls lo gs)(j:Nat)(A:gl[j]?=some ("tuple":Str))(C:gs.contains j=true)(E:X.mg "tuple"=none)(Z:Q (PE X e (tE X.K W fa)))(P:starEach [e] X.env=[(false,eval e X.env)]):Q (PE X (.Call (.Name "tuple" p) [e] [] pos) (tE X.K W (iO fa))):=⟨have Z:=Z.p;bt (Ja kR (S.g A C).1 E IM (da_cons Z da_nil P) (by decide) (by decide) P rfl) λ_ _ _=>u9⟩
theorem jA{m:List (Str×Int)}(S:Cp X N gl vs cs ls lo gs)(j:Nat)(A:gl[j]?=some x)(C:gs.contains j=true)(Tb:Dp X x m)(Z:Q (PE X a (tE X.K W fa))):Q (PE X (.Compare a [.In] [.Name x p] pos) (tE X.K W (wG false m fa))):=⟨have Z:=Z.p;B8 (Ca S j A C Tb Z) rfl⟩
theorem sF{m:List (Str×Int)}(S:Cp X N gl vs cs ls lo gs)(j:Nat)(A:gl[j]?=some x)(C:gs.contains j=true)(Tb:Dp X x m)(Z:Q (PE X a (tE X.K W fa)))(P:jx a):Q (PE X (.Subscript (.Name x p) a pos) (tE X.K W (rY m fa))):=⟨by
 have Z:=Z.p
 intro B s M H Q I h;obtain⟨d,es,o,E,l,U⟩:=Tb;refine Subscript_ (Gz I (S.g A C).1 E ?_ (S.g A C).2.1)
 refine b5 (Z B s M H _ I (yp h)) λv n ⟨y,H1,I1,r1,k,i,ey,e,q⟩=>?_
 subst ey;obtain⟨t,rfl⟩:=r1;refine KTD.item_text (nJ I1.kIn l U) ?_ (oW (λf=>⟨.int i,H1,I1.tok _,⟨_,rfl⟩,q⟩) m e) (P _ _)
 rw[<-KTD.isSome_datumAt,Jj,e];rfl⟩
theorem AY{n:Nat}{w:List MA->Res}(S:Cp X N gl vs cs ls lo gs)(j:Nat)(A:gl[j]?=some x)(d:gs.contains j=true)(C:pM X x n w)(Z:Q (PA X (e::es) (tA X.K W fl)))(R:starEach (e::es) X.env=(false,eval e X.env)::starEach es X.env)(u:(backTo pos (starEach es X.env)).any (·.1)=false):Q (PE X (.Call (.Name x p) (e::es) [] pos) (tE X.K W (fU n w fl))):=⟨by
 have Z:=Z.p
 obtain⟨k,f,y,J,F,m,E,G,U⟩:=C;exact bt (xx F m (S.g A d).1 E G U .nil hJ Z (S.g A d).2.1 R u) λ_ _ _=>vj⟩
theorem ny(S:Cp X N gl vs cs ls lo gs)(i:Nat){A:Pos}(l:N[i]?=some x)(d:ls.contains i=true)(Z:Q (PE X a (tE X.K W fa))):Q (PS X (.AugAssign (.Name x A) .Add a pos) (tS X.K W (iV i fa))):=⟨have Z:=Z.p;eO (B1 (by rw[S.hN];exact S.nd) (by rw[S.hN];exact l) (S.loc i x l d).1 Z CJ (S.loc i x l d).2) λ_ _ _=>BN⟩
theorem nu(S:Cp X N gl vs cs ls lo gs)(i:Nat){d h:Pos}(l:N[i]?=some x)(f:vs.contains i=true)(Z:Q (PE X a (tE X.K W fa)))(P:starEach [a] X.env=[(false,eval a X.env)])(j:attributeBase (.Name x p) "extend" X.env (eval (.Name x p) X.env)=eval (.Name x p) X.env)(k:(d.endLine==h.line)=true)(q:((backTo h (starEach [a] X.env)).all (λx=>!x.1)&&(backToKw h (keywordEach [] X.env)).all (λx=>x.1.isSome)
   && decide ([a].length+([]:List Keyword).length+(if([]:List Keyword).isEmpty then 0 else 1)<30))=true)(n:swapsWith (.Call (.Attribute (.Name x p) "extend" d) [a] [] h) none pos.line X.env=pure false):Q (PS X (.Expr (.Call (.Attribute (.Name x p) "extend" d) [a] [] h) pos) (tS X.K W (mw i fa))):=⟨T.cs_extend S i l f Z.p P j k q n⟩
theorem uA{r:Expr}(Z:Q (PE X a (tE X.K W fa))):Q (PI X r a (tI X.K W (eG fa))):=⟨have Z:=Z.p;so (vE Z) λ_ _ _=>yn⟩
end
end TQ
namespace T
open PySem PySem.Spec L2
open PyProof.Rows hiding St
variable{K:Fg}{X:List D}{C:Ev}{g:D->D->Option D}{k:Int}{o:gj}
noncomputable def d7(l:Bool):MA->MA->Option MA
 |.str i,.str j=>some (.bool (if l then !(!(Builtin.Str.occurrences j i 0 j.length 1).isEmpty)else !(Builtin.Str.occurrences j i 0 j.length 1).isEmpty))
 |_,_=>none
theorem zg:GOp K (λx y H Q=>∃i j,x=.str i/\y=.str j/\Q (.bl (!(Builtin.Str.occurrences j i 0 j.length 1).isEmpty)) H) (d7 false):=by
 intro x y H Q a b d m J e k
 cases m<;>cases J<;>simp only[d7]at e<;>try cases e
 exact⟨_,_,rfl,rfl,k _ (.bl _)⟩
theorem wm:GOp K (λx y H Q=>∃i j,x=.str i/\y=.str j/\Q (.bl (!(!(Builtin.Str.occurrences j i 0 j.length 1).isEmpty))) H) (d7 true):=by
 intro x y H Q a b d m J e k
 cases m<;>cases J<;>simp only[d7]at e<;>try cases e
 exact⟨_,_,rfl,rfl,k _ (.bl _)⟩
theorem EU{X:Cx}(R:Rm X):Ck X .In (λx y H Q=>∃i j,x=.str i/\y=.str j/\Q (.bl (!(Builtin.Str.occurrences j i 0 j.length 1).isEmpty)) H) (d7 false):=⟨tj,zg⟩
theorem vy{X:Cx}(R:Rm X):Ck X .NotIn (λx y H Q=>∃i j,x=.str i/\y=.str j/\Q (.bl (!(!(Builtin.Str.occurrences j i 0 j.length 1).isEmpty))) H) (d7 true):=⟨mC,wm⟩
noncomputable def Me(x:Str):List MA:=x.cps.toList.map λc=>.str ⟨#[c]⟩
noncomputable def Aw(x:Str):FI:=λC=>.ok ⟨Me x,true⟩ C
noncomputable def AA(x:Str):List MA->Option MA
 |[.str j]=>match Builtin.Str.occurrences x j 0 x.length 1 with
  |k::_=>some (.int k)
  |[]=>none
 |_=>none
noncomputable def putN:List Nat->List PV->Ev->Option Ev
 |[],[],Γ=>some Γ
 |i::is,p::ps,Γ=>if decide (i<Γ.length)&&!p.s.isView then putN is ps (Γ.set i (some p))else none
 |_,_,_=>none
noncomputable def xZ:List Nat->List V->St->St
 |i::is,v::vs,σ=>xZ is vs (σ.set i (some v))
 |_,_,σ=>σ
noncomputable def yy:List Sh->List MA->List PV
 |s::ss,d::ds=>⟨s,d⟩::yy ss ds
 |_,_=>[]
noncomputable def A6(p:PV):Option (List PV):=match p.s,p.d with
 |.tup ss,.tuple ds=>some (yy ss ds)
 |.leaf,.tuple ds=>some (ds.map λd=>⟨.leaf,d⟩)
 |_,_=>none
noncomputable def jG(a:List Nat)(f:F1):FS:=jv f λp C=>match A6 p with
 |some J=>if J.length=a.length then(match putN a J C with
  |some N=>.nx N
  |none=>.no)else .no
 |none=>.no
noncomputable def qA:List Nat->AC
 |[]=>zk
 |i::is=>jY (b8 i) (qA is)
theorem IY{H:Hp}{Q:St->Hp->Prop}:∀{is:List Nat}{vs:List V}{σ:St},vs.length=is.length->Q (xZ is vs σ) H->qA is vs σ H Q
 |[],[],_,_,q=>⟨rfl,q⟩
 |i::is,v::vs,σ,hl,q=>⟨v,vs,rfl,IY (is:=is) (vs:=vs) (by simpa using hl) q⟩
 |[],_::_,_,hl,_=>by simp at hl
 |_::_,[],_,hl,_=>by simp at hl
section
variable{K:Fg}{W:XW}{σ:St}{H:Hp}{D:eR}{fa:F1}
theorem Jf{L:Hp}{O:List Addr}:∀{is:List Nat}{ps:List PV}{vs:List V}{Gs:List (List Addr)}{Fs:List (List Addr)}{σ:St}{Γ Γ':Ev},vs.length=ps.length->Gs.length=ps.length->EnvOk K L (Gs.flatten++O) Fs H σ Γ->(∀a∈Gs.flatten,L a=none) ->
  (∀(k:Nat) v p G,vs[k]?=some v->ps[k]?=some p->Gs[k]?=some G->Own K (Gs.flatten++O++Fs.flatten) H p.s G v p.d)->putN is ps Γ=some Γ'->∃U,EnvOk K L O U H (xZ is vs σ) Γ'
 |[],[],[],[],Fs,σ,Γ,Γ',_,_,E,_,_,h=>by
  cases h;exact⟨Fs,by simpa[xZ]using E⟩
 |i::is,p::ps,v::vs,G::Gs,Fs,σ,Γ,Γ',h1,h2,E,fr,o,h=>by
  unfold putN at h;split at h
  .rename_i J
   simp only[Bool.and_eq_true,decide_eq_true_eq,Bool.not_eq_true']at J
   obtain⟨l,r⟩:=J;have d:(G::Gs).flatten++O=G++(Gs.flatten++O):=by simp[append_assoc]
   rw[d]at E o
   have g:=EnvOk.put (i:=i) E (o 0 v p G rfl rfl rfl) r (λa Z=>fr a (by simp[Z])) l
   refine Jf (is:=is) (ps:=ps) (vs:=vs) (Gs:=Gs) (by simpa using h1) (by simpa using h2) g (λa Z=>fr a (Mm G Z)) (λk t B x I b n=>?_) h
   refine(o (k+1) t B x (by simpa using I) (by simpa using b) (by simpa using n)).perm λa Z=>?_
   rcases Mo Z with z|z
   .exact Mn _ (Mm _ z)
   .obtain⟨F,c⟩:=E.lt l
    rcases Mo ((pO (G:=G) c).mem_iff.mp (Mm _ z))with y|y
    .exact Mn _ (Mn _ y)
    .exact Mm _ y
  .cases h
 |[],_::_,_,_,_,_,_,_,_,_,_,_,_,h=>by cases h
 |_::_,[],_,_,_,_,_,_,_,_,_,_,_,h=>by cases h
 |[],[],_::_,_,_,_,_,_,h,_,_,_,_,_=>by simp at h
 |[],[],[],_::_,_,_,_,_,_,h,_,_,_,_=>by simp at h
 |_::_,_::_,[],_,_,_,_,_,h,_,_,_,_,_=>by simp at h
 |_::_,_::_,_::_,[],_,_,_,_,_,h,_,_,_,_=>by simp at h
theorem rB:∀{ss:List Sh}{ds:List MA},ss.length=ds.length->(yy ss ds).length=ds.length
 |[],[],_=>rfl
 |_::ss,_::ds,h=>by simp only[yy,length_cons];rw[rB (ss:=ss) (ds:=ds) (by simpa using h)]
 |[],_::_,h=>by simp at h
 |_::_,[],h=>by simp at h
theorem vz:∀{u:List Sh}{ds:List MA}{k:Nat}{p:PV},(yy u ds)[k]?=some p->u[k]?=some p.s/\ds[k]?=some p.d
 |[],_,k,p,h=>by simp[yy]at h
 |_::_,[],k,p,h=>by simp[yy]at h
 |s::u,d::ds,0,p,h=>by
  simp only[yy,List.getElem?_cons_zero,Option.some.injEq]at h
  subst h;exact⟨rfl,rfl⟩
 |s::u,d::ds,k+1,p,h=>by
  simp only[yy,List.getElem?_cons_succ]at h ⊢
  exact vz h
theorem Iz{n:Nat}:(List.replicate n ([]:List Addr)).flatten=[]:=by
 induction n with
 |zero=>rfl
 |succ n B=>rw[replicate_succ,flatten_cons,B];rfl
theorem yg{is:List Nat}(h:tS K W (jG is fa) D σ H):eC (tE K W fa) (zj K is.length (qA is)) D σ H:=by
 refine iU h λL O Fs I p v f G g _ l A w=>?_
 obtain⟨s,d⟩:=p;have o:=A.own
 have E:=A.env
 dsimp only at w o
 cases c:A6 ⟨s,d⟩with
 |none=>rw[c]at w;exact w.elim
 |some J=>
  rw[c]at w;dsimp only at w;by_cases S:J.length=is.length
  .rw[if_pos S]at w
   cases C:putN is J I with
   |none=>rw[C]at w;exact w.elim
   |some N=>
    rw[C]at w
    cases o with
    |view r=>cases c
    |lst=>cases c
    |leaf r=>
     cases d with
     |tuple X=>
      cases c
      cases r with
      |@tup a vs _ hq hlen hr=>
       obtain⟨U,j⟩:=Jf (is:=is) (vs:=vs) (Gs:=List.replicate X.length []) (Fs:=g) (by rw[hlen,length_map]) (by rw[List.length_replicate,length_map]) (by rw[Iz];exact E) (by rw[Iz];intro a Z;simp at Z) (λk t B x e y n=>by
        rw[Iz];rw[getElem?_map]at y
        cases F:X[k]? with
        |none=>rw[F]at y;cases y
        |some b=>
         rw[F]at y
         cases y;have:x=[]:=List.eq_of_mem_replicate (mem_of_getElem? n)
         subst this;exact .leaf (hr k t b e F)) C
       exact⟨a,vs,rfl,eN hid_le hq,by rw[hlen];simpa using S,IY (by rw[hlen];simpa using S) (w _ _ _ j)⟩
     |_=>cases c
    |@tup ss a vs X Fs0 hv hpa hn hlen hf hs nd q=>
     cases c;have pl:=rB hs
     obtain⟨U,j⟩:=Jf (is:=is) (vs:=vs) (Gs:=Fs0) (Fs:=g) (by rw[hlen,pl]) (by rw[hf,pl]) E l (λk t B x e y n=>by
      obtain⟨M,i⟩:=vz y;exact q k t B.d x B.s e i n M) C
     have P:vs.length=is.length:=by rw[hlen,<-pl];exact S
     exact⟨a,vs,rfl,.of hpa,P,IY P (w _ _ _ j)⟩
  .rw[if_neg S]at w
   exact w.elim
end
theorem DW:(1000:Nat)<=sizeLine:=by decide
theorem Jq{i:Nat}{v:FB}{m:F1}{s:Sh}{c:D->Bool}{f:D->PV}{C:Ev}(K:C.set i none=C):∀(r q:List D),(∀d∈r,v (C.set i (MB d))=.ok (c d) (C.set i (MB d))) ->
  (∀d∈r,c d=true->m (C.set i (MB d))=.ok (f d) (C.set i (MB d))/\coer s (f d)=true)->q.length+r.length<=sizeLine->cW i v m s r C q=.ok (q++((r.filter c).map λd=>(f d).d)) C
 |[],q,_,_,_=>by simp[cW]
 |d::r,q,hc,he,hl=>by
  have Y:=hc d mem_cons_self
  have b:q.length<sizeLine:=by simp at hl;omega
  have a:(C.set i (MB d)).set i none=C:=by rw[set_set];exact K
  rw[cW,Y]
  cases z:c d with
  |false=>
   dsimp only;rw[if_pos b,a,Jq K r q (λd y=>hc d (Ms _ y)) (λd y=>he d (Ms _ y)) (by simp at hl;omega)]
   rw[List.filter_cons_of_neg (by rw[z];exact Bool.false_ne_true)]
  |true=>
   obtain⟨M,P⟩:=he d mem_cons_self z;dsimp only;rw[M];dsimp only;rw[P,decide_eq_true b,Bool.and_self,if_pos rfl,a,Jq K r (q++[(f d).d]) (λd y=>hc d (Ms _ y)) (λd y=>he d (Ms _ y)) (by simp at hl ⊢;omega)]
   rw[List.filter_cons_of_pos z,map_cons,append_assoc];rfl
theorem Jl{s:Sh}{i:Nat}{u:FI}{fc:FB}{m:F1}{c:D->Bool}{f:D->PV}{st:Bool}(l:u C=.ok ⟨X,st⟩ C)(S:i<C.length)(P:s.isView=false)(j:X.length<=1000)(J:∀d∈X,fc (C.set i (MB d))=.ok (c d) (C.set i (MB d)))(R:∀d∈X,c d=true->m (C.set i (MB d))=.ok (f d) (C.set i (MB d))/\coer s (f d)=true):aw s i u fc m C=.ok ⟨.lst s,.list ((X.filter c).map λd=>(f d).d)⟩ C:=by
 have U:=DW
 unfold aw;rw[l];unfold Out.bind;dsimp only;rw[Jq (c:=c) (f:=f) (by rw[set_set]) X [] (λd y=>by rw[set_set];exact J d y) (λd y=>by rw[set_set];exact R d y) (by simp;omega)]
 dsimp only;rw[P,decide_eq_true S];simp only[Bool.not_false,Bool.and_self,if_true,nil_append,set_set]
 have:C.set i (C.getD i none)=C:=by
  apply DE
  rw[Mr,Mq S];rfl
 rw[this]
theorem DB{s:Sh}{i:Nat}{u:FI}{m:F1}{f:D->PV}{st:Bool}(l:u C=.ok ⟨X,st⟩ C)(S:i<C.length)(P:s.isView=false)(j:X.length<=1000)(R:∀d∈X,m (C.set i (MB d))=.ok (f d) (C.set i (MB d))/\coer s (f d)=true):aw s i u aM m C=.ok ⟨.lst s,.list (X.map λd=>(f d).d)⟩ C:=by
 rw[Jl (fc:=aM) (c:=λ_=>true) (f:=f) l S P j (λd y=>rfl) λd y _=>R d y,List.filter_eq_self.mpr λ_ _=>rfl]
theorem IH{P:Nat->Ev->Prop}{i:Nat}{body:FS}:∀(X:List D)(n:Nat)(C:Ev),P n C->(∀k d C,d∈X->n<=k->k<n+X.length->P k C->i<C.length/\∃N,body (C.set i (MB d))=.nx N/\P (k+1) N)->∃N,bV i body X C=.nx N/\P (n+X.length) N
 |[],n,C,h,_=>⟨C,rfl,h⟩
 |d::r,n,C,h,st=>by
  obtain⟨l,I,e,Y⟩:=st n d C mem_cons_self (Mz _) (by simp) h
  obtain⟨S,R,M⟩:=IH r (n+1) I Y λk d C y a b c=>st k d C (Ms _ y) (by omega) (by simp;omega) c
  refine⟨S,?_,?_⟩
  .rw[bV,if_pos l,e]
   exact R
  .rw[length_cons,show n+(r.length+1)=n+1+r.length by omega]
   exact M
theorem II{any:Bool}{u:Type}{xs:List u}{f:u->Bool}:cN (xs.map λx=>.bool (f x))=some (xs.map f):=by
 induction xs with
 |nil=>rfl
 |cons x r B=>rw[map_cons,cN,B];rfl
theorem AM{u:Type}{L:List u}{f:u->Bool}:cU false [.list (L.map λx=>.bool (f x))]=some (.bool (L.all f)):=by
 show Option.map _ (cN _)=_
 rw[II (any:=false)];simp[List.all_map]
section
variable{Γ Γ1 Γ2:Ev}{fa fb fc:F1}{fl:FL}{p q:PV}{ps:List PV}{d e:D}{s s' s2:Sh}{i j n:Nat}
theorem az(h:Γ[i]?=some (MB d)):ab i Γ=.ok ⟨.leaf,d⟩ Γ:=by unfold ab;rw[h]
theorem DQ(h:Γ[i]?=some (some p)):cC i Γ=.ok p (Γ.set i none):=by unfold cC;rw[h]
theorem aO:eK d Γ=.ok ⟨.leaf,d⟩ Γ:=rfl
theorem aB(Z:fa Γ=.ok p Γ1)(U:fb Γ1=.ok q Γ2)(C:g p.d q.d=some d):aj g fa fb Γ=.ok ⟨.leaf,d⟩ Γ2:=by
 unfold aj aZ;rw[Z];simp only[Out.bind];rw[U];simp only[C]
theorem aE(Z:fa Γ=.ok p Γ1)(S:fl Γ1=.ok ps Γ2):ae fa fl Γ=.ok (p::ps) Γ2:=by
 unfold ae;rw[Z];simp only[Out.bind];rw[S]
theorem aq:af Γ=.ok [] Γ:=rfl
theorem bX{g:List D->Option D}(S:fl Γ=.ok ps Γ1)(C:g (ps.map (·.d))=some d):bp g fl Γ=.ok ⟨.leaf,d⟩ Γ1:=by
 unfold bp;rw[S];simp only[Out.bind];rw[C]
theorem dE{w:List D->Res}(S:fl Γ=.ok ps Γ1)(y:w (ps.map (·.d))=.ok p)(a:ps.length=n)(J:ps.all (coer .leaf)=true):ai n w fl Γ=.ok p Γ1:=by
 unfold ai;rw[S];simp only[Out.bind,a,y,J,if_true]
theorem km{ds:List D}(Z:fa Γ=.ok ⟨s,.list ds⟩ Γ1)(U:fb Γ1=.ok ⟨s',.int k⟩ Γ2)(l:fQ ds.length k=some j)(y:ds[j]?=some d)(P:cx s j d=some s2):ah fa fb Γ=.ok ⟨s2,d⟩ Γ2:=by
 unfold ah aZ;rw[Z];simp only[Out.bind];rw[U];simp only[l,y,P]
theorem js{ds:List D}(Z:fa Γ=.ok ⟨s,.tuple ds⟩ Γ1)(U:fb Γ1=.ok ⟨s',.int k⟩ Γ2)(l:fQ ds.length k=some j)(y:ds[j]?=some d)(P:cx s j d=some s2):ah fa fb Γ=.ok ⟨s2,d⟩ Γ2:=by
 unfold ah aZ;rw[Z];simp only[Out.bind];rw[U];simp only[l,y,P]
theorem GF{x:Str}{c:Nat}(Z:fa Γ=.ok ⟨s,.str x⟩ Γ1)(U:fb Γ1=.ok ⟨s',.int k⟩ Γ2)(a:x.length<=sizeLine)(l:fy x.cps.toList k=some c):ah fa fb Γ=.ok ⟨.leaf,.str ⟨#[c]⟩⟩ Γ2:=by
 unfold ah aZ;rw[Z];simp only[Out.bind];rw[U];simp only[l,a,if_true]
theorem ma(S:fl Γ=.ok ps Γ1)(P:s.isView=false)(J:ps.all (coer s)=true)(a:decide (ps.length<=1000)=true):aY s fl Γ=.ok ⟨.lst s,.list (ps.map (·.d))⟩ Γ1:=by
 have M:ps.length<=sizeLine:=Nat.le_trans (of_decide_eq_true a) DW
 unfold aY;rw[S];simp only[Out.bind,P,J,decide_eq_true M,Bool.not_false,Bool.and_self,if_true]
theorem cZ(S:fl Γ=.ok ps Γ1)(J:ps.all tok=true)(a:decide (ps.length<=1000)=true):b4 fl Γ=.ok ⟨.tup (ps.map Ag),.tuple (ps.map (·.d))⟩ Γ1:=by
 have M:ps.length<=sizeLine:=Nat.le_trans (of_decide_eq_true a) DW
 unfold b4;rw[S];simp only[Out.bind,J,decide_eq_true M,Bool.and_self,if_true]
theorem DY(Z:fa Γ=.ok ⟨s,.list X⟩ Γ1)(K:aF ⟨s,.list X⟩ X=true):ck fa Γ=.ok ⟨.lst .leaf,.list X⟩ Γ1:=by
 unfold ck aZ;rw[Z];simp only[Out.bind,K,if_true]
theorem v_and{a b:Bool}(Z:fa Γ=.ok ⟨s,.bool a⟩ Γ)(U:fb Γ=.ok ⟨.leaf,.bool b⟩ Γ):cV fa fb Γ=.ok ⟨.leaf,.bool (a&&b)⟩ Γ:=by
 unfold cV aZ;rw[Z];simp only[Out.bind]
 cases a with
 |false=>rfl
 |true=>exact U
theorem xN{B:D->D->Option D}{b u:Bool}(Z:fa Γ=.ok p Γ)(U:fb Γ=.ok q Γ)(C:g p.d q.d=some (.bool b))(P:bU q.d=true){z:PV}(J:fc Γ=.ok z Γ)(M:B q.d z.d=some (.bool u)):gH g B fa fb fc Γ=.ok ⟨.leaf,.bool (b&&u)⟩ Γ:=by
 unfold gH aZ;rw[Z];simp only[Out.bind];rw[U];simp only[C]
 cases b with
 |false=>rfl
 |true=>simp only[P,if_true,J,M,Bool.true_and]
theorem cD(Z:fa Γ=.ok ⟨s,.bool b⟩ Γ1):aG ag fa Γ=.ok b Γ1:=by unfold aG;rw[Z];rfl
theorem dk(Z:fa Γ=.ok ⟨s,.bool b⟩ Γ1):aG bH fa Γ=.ok b Γ1:=by unfold aG;rw[Z];rfl
theorem lU{w:FB}{b:Bool}(h:w Γ=.ok b Γ1):dv w Γ=.ok (!b) Γ1:=by unfold dv;rw[h];rfl
theorem gC{w P:FB}{a b:Bool}(Z:w Γ=.ok a Γ)(U:P Γ=.ok b Γ):dw w P Γ=.ok (a&&b) Γ:=by
 unfold dw;rw[Z];simp only[Out.bind]
 cases a with
 |false=>rfl
 |true=>exact U
theorem iP{w P:FB}{a b:Bool}(Z:w Γ=.ok a Γ)(U:P Γ=.ok b Γ):fF w P Γ=.ok (a||b) Γ:=by
 unfold fF;rw[Z];simp only[Out.bind]
 cases a with
 |false=>exact U
 |true=>rfl
theorem cQ{ds:List D}(Z:fa Γ=.ok ⟨s,.list ds⟩ Γ1)(K:aF ⟨s,.list ds⟩ ds=true):aP fa Γ=.ok ⟨ds,!s.isView⟩ Γ1:=by
 unfold aP;rw[Z];simp only[Out.bind,K,if_true]
theorem kq(S:fl Γ=.ok ps Γ1)(C:ps.map (·.d)=[.int k])(o:-1000<=k)(Y:k<=100000):gh fl Γ=.ok ⟨b9 0 k.toNat,true⟩ Γ1:=by
 have P:cL k=true:=by unfold cL;simp only[Bool.and_eq_true,decide_eq_true_eq];omega
 unfold gh;rw[S];simp only[Out.bind,C,kz,P,if_true]
theorem Jw{m:Int}(S:fl Γ=.ok ps Γ1)(C:ps.map (·.d)=[.int k,.int m])(o:-1000<=k)(Y:k<=100000)(M:-1000<=m)(b:m<=100000):zb fl Γ=.ok ⟨b9 k (m-k).toNat,true⟩ Γ1:=by
 have P:cL k=true:=by unfold cL;simp only[Bool.and_eq_true,decide_eq_true_eq];omega
 have a:cL m=true:=by unfold cL;simp only[Bool.and_eq_true,decide_eq_true_eq];omega
 unfold zb;rw[S];simp only[Out.bind,C,sP,P,a,Bool.and_self,if_true]
theorem ay{B X:FS}(Y:B Γ=.nx Γ1)(M:X Γ1=o):ao B X Γ=o:=by unfold ao;rw[Y];exact M
theorem gQ{B X:FS}(Y:B Γ=.rt p):ao B X Γ=.rt p:=by unfold ao;rw[Y]
theorem aT{c:FB}{a b:FS}{t:Bool}(J:c Γ=.ok t Γ1)(A:t=true->a Γ1=o)(g:t=false->b Γ1=o):bY c a b Γ=o:=by
 unfold bY;rw[J]
 cases t with
 |true=>exact A rfl
 |false=>exact g rfl
theorem aS(h:fa Γ=.ok p Γ1)(P:p.s.isView=false):aJ fa Γ=.rt p:=by
 unfold aJ jv;rw[h];simp only[P];rfl
theorem dO(h:fa Γ=.ok p Γ1)(J:coer .leaf p=true)(l:i<Γ1.length):aA false i fa Γ=.nx (Γ1.set i (MB p.d)):=by
 unfold aA jv;rw[h];simp only[l,if_true,J,Bool.false_and];rfl
theorem DR(h:fa Γ=.ok p Γ1)(P:p.s.isView=false)(l:i<Γ1.length):aA true i fa Γ=.nx (Γ1.set i (some p)):=by
 unfold aA jv;rw[h];simp only[l,if_true,P,Bool.true_and,Bool.not_false]
theorem GZ{ds:List D}(K:Γ[i]?=some (some ⟨.lst s,.list ds⟩))(h:fa Γ=.ok p Γ)(J:coer s p=true)(a:ds.length<=900):aN i fa Γ=.nx (Γ.set i (some ⟨.lst s,.list (ds++[p.d])⟩)):=by
 have M:ds.length<sizeLine:=Nat.lt_of_lt_of_le (by omega:ds.length<1000) DW
 unfold aN iM;rw[K];simp only[if_true];unfold jv;rw[h];simp only;unfold zQ;rw[K];simp only[J,decide_eq_true M,Bool.and_self,if_true]
theorem AW{ds:List D}(K:Γ[i]?=some (some ⟨.lst .leaf,.list ds⟩))(h:fa Γ=.ok p Γ)(G:fb Γ=.ok ⟨s,.int k⟩ Γ)(l:fQ ds.length k=some j)(J:coer .leaf p=true):g6 i fa fb Γ=.nx (Γ.set i (some ⟨.lst .leaf,.list (ds.set j p.d)⟩)):=by
 unfold g6 dD;rw[K];simp only[if_true];unfold jv;rw[h];simp only;rw[G];simp only;unfold Bh;rw[K];simp only[l,J,if_true]
theorem gU{fi:FI}{w:FS}(h:fi Γ=.ok ⟨X,true⟩ Γ1)(C:bV i w X Γ1=o):dR i fi w Γ=o:=by unfold dR;rw[h];exact C
end
end T
namespace KC
open PySem PySem.Spec L2 T
open PyProof.Rows hiding St
variable{x:Str}{X L:List D}{k:Nat}{g:FS}{c at' lim:Int}{o ts:List Int}{C I:Ev}
noncomputable def cG:MA:=.tuple [.str "a",.str "b",.str "c",.str "d",.str "e",.str "f"]
noncomputable def cT:MA:=.tuple [.int 0,.int 1]
noncomputable def fh:MA:=.int 24
noncomputable def dB:MA:=.int 200
noncomputable def dC:MA:=.int 24
noncomputable def cB:MA:=.tuple [.str "some until",.str "all until"]
noncomputable def dg:MA:=.tuple [.str "some always",.str "all always"]
noncomputable def bE:MA:=.tuple [.str "some next",.str "some until",.str "all always"]
noncomputable def ju:List (Str×Int):=[("yes",0),("not",1),("some next",1),("all next",1),("some always",1),("all always",1),("and",2),("or",2),("some until",2),("all until",2)]
noncomputable def o6:FS:=(aJ (bp (cU false) (ae (aw .leaf 1 (zb (ae (eK (.int 1)) (ae (bp aK (ae (ab 0) af)) af))) aM (aj iN (ah (ab 0) (aj gSub (ab 1) (eK (.int 1)))) (ah (ab 0) (ab 1)))) af)))
noncomputable def dX:List MA->Res:=aI 2 o6
noncomputable def pb:FS:=(aJ (cV (bp (cU false) (ae (aw .leaf 1 (aP (ab 0)) aM (aj (bx false) (ab 1) (eK cG))) af)) (ai 1 dX (ae (ab 0) af))))
noncomputable def dZ:List MA->Res:=aI 2 pb
noncomputable def o9:FS:=(aJ (cV (bp (cU false) (ae (aw .leaf 2 (aP (ab 0)) aM (gH HN iN (eK (.int 0)) (ab 2) (ab 1))) af)) (ai 1 dX (ae (ab 0) af))))
noncomputable def fM:List MA->Res:=aI 3 o9
noncomputable def o8:FS:=(aJ (cV (aj gO (bp aK (ae (ab 0) af)) (eK (.int 0))) (ai 2 fM (ae (ab 0) (ae (ab 1) af)))))
noncomputable def dY:List MA->Res:=aI 2 o8
noncomputable def qM:FS:=(ao (aA false 3 (bp aK (ae (ab 0) af)))
  (ao (bY (fF (aG ag (aj iN (ab 3) (eK (.int 1)))) (fF (aG ag (aj gO (ab 3) (eK fh))) (fF (aG ag (aj fE (bp aK (ae (ab 1) af)) (ab 3))) (aG ag (aj fE (bp aK (ae (ab 2) af)) (ab 3)))))) (aJ (eK (.bool false))) aH)
  (ao (bY (dv (aG bH (bp (cU false) (ae (aw .leaf 4 (aP (ab 0)) aM (aj (bx false) (ab 4) (eK cT))) af)))) (aJ (eK (.bool false))) aH)
  (aJ (cV (bp (cU false) (ae (aw .leaf 5 (aP (ab 1)) aM (ai 1 dZ (ae (ab 5) af))) af)) (bp (cU false) (ae (aw .leaf 5 (aP (ab 2)) aM (ai 2 dY (ae (ab 5) (ae (ab 3) af)))) af)))))))
noncomputable def eZ:List MA->Res:=aI 6 qM
noncomputable def kP:FS:=(bY (dv (aG bH (ai 3 eZ (ae (ah (ab 0) (eK (.int 0))) (ae (ah (ab 0) (eK (.int 1))) (ae (ah (ab 0) (eK (.int 2))) af)))))) Hu aH)
noncomputable def bu:List MA->Res:=aI 1 kP
noncomputable def dN:FS:=(aJ (kJ (aG ag (aj bf (ah (ab 0) (eK (.int 0))) (eK (.str "mark")))) (b4 af) (jZ (ab 0) (eK (.int 1)))))
noncomputable def aU:List MA->Res:=aI 1 dN
noncomputable def dh:FS:=(ao (bY (fF (dv (aG bH (fm "tuple" (ab 0)))) (fF (aG ag (aj bf (bp aK (ae (ab 0) af)) (eK (.int 0)))) (dv (aG bH (fm "str" (ah (ab 0) (eK (.int 0)))))))) (aJ (eK (.bool false))) aH)
  (ao (bY (aG ag (aj bf (ah (ab 0) (eK (.int 0))) (eK (.str "mark")))) (aJ (cV (aj bf (bp aK (ae (ab 0) af)) (eK (.int 2))) (aj (bx false) (ah (ab 0) (eK (.int 1))) (eK cG)))) aH)
  (aJ (cV (wG false ju (ah (ab 0) (eK (.int 0)))) (aj bf (bp aK (ae (ab 0) af)) (aj aQ (eK (.int 1)) (rY ju (ah (ab 0) (eK (.int 0))))))))))
noncomputable def bQ:List MA->Res:=aI 1 dh
noncomputable def fV:FS:=(ao (aA true 1 (aY .leaf af))
  (ao (dR 2 (aP (ab 0))
  (mw 1 (ai 1 aU (ae (ab 2) af))))
  (aJ (cC 1))))
noncomputable def cI:List MA->Res:=aI 3 fV
noncomputable def i7:FS:=(ao (aA true 1 (aY .leaf af))
  (ao (aA false 2 (aY .leaf (ae (ab 0) af)))
  (ao (aA false 3 (eK (.int 0)))
  (ao (iI 1000 (aG bH (ab 2))
  (ao (iV 3 (bp aK (ae (ab 2) af)))
  (ao (bY (fF (aG ag (aj gO (ab 3) (eK dB))) (fF (aG ag (aj bf (bp aK (ae (ab 1) af)) (eK dC))) (dv (aG bH (bp (cU false) (ae (aw .leaf 4 (aP (ab 2)) aM (ai 1 bQ (ae (ab 4) af))) af)))))) (aJ (eK .none)) aH)
  (ao (aN 1 (ab 2))
  (aA false 2 (ai 1 cI (ae (ab 2) af)))))))
  (aJ (cC 1))))))
noncomputable def fL:List MA->Res:=aI 5 i7
noncomputable def eH:FS:=(ao (aA false 1 (ai 1 fL (ae (ab 0) af)))
  (ao (bY (aG ag (aj (bJ false) (ab 1) (eK .none))) Hu aH)
  (aJ (ab 1))))
noncomputable def cS:List MA->Res:=aI 2 eH
noncomputable def eJ:FS:=(fH (ai 1 cS (ae (ab 0) af)))
noncomputable def bg:List MA->Res:=aI 1 eJ
noncomputable def gz:FS:=(aJ (aw .leaf 2 (gh (ae (bp aK (ae (ah (ab 0) (eK (.int 0))) af)) af)) (aG ag (aj (bx true) (ab 2) (ab 1))) (ab 2)))
noncomputable def cX:List MA->Res:=aI 3 gz
noncomputable def o7:FS:=(aJ (kJ (aG bH (ab 0)) (bp (cU true) (ae (ab 1) af)) (bp (cU false) (ae (ab 1) af))))
noncomputable def b6:List MA->Res:=aI 2 o7
noncomputable def dM:FS:=(ao (bY (aG ag (aj (bx false) (ah (ab 1) (eK (.int 0))) (eK cB))) (aJ (b4 (ae (ah (ab 2) (eK (.int 0))) (ae (ah (ab 2) (eK (.int 1))) af)))) aH)
  (aJ (b4 (ae (rX (ae (bp aK (ae (ah (ab 0) (eK (.int 0))) af)) af)) (ae (ai 2 cX (ae (ab 0) (ae (ah (ab 2) (eK (.int 0))) af))) af)))))
noncomputable def aW:List MA->Res:=aI 3 dM
noncomputable def gy:FS:=(ao (aA true 4 (aY .leaf af))
  (ao (dR 5 (aP (ab 2))
  (bY (dw (aG ag (aj (bJ false) (ah (ab 3) (ab 5)) (eK .none))) (aG bH (ai 2 b6 (ae (ah (ab 1) (ab 5)) (ae (aw .leaf 6 (aP (ah (ah (ab 0) (eK (.int 2))) (ab 5))) aM (aj (bJ true) (ah (ab 3) (ab 6)) (eK .none))) af))))) (aN 4 (ab 5)) aH))
  (aJ (cC 4))))
noncomputable def cA:List MA->Res:=aI 7 gy
noncomputable def j9:FS:=(ao (aA true 4 (aw .leaf 8 (aP (ah (ab 0) (eK (.int 0)))) aM (eK .none)))
  (ao (aA false 5 (eK (.int 0)))
  (ao (aA false 6 (ab 3))
  (ao (iI 1000 (aG bH (ab 6))
  (ao (dR 7 (aP (ab 6))
  (g6 4 (ab 5) (ab 7)))
  (ao (iV 5 (eK (.int 1)))
  (aA false 6 (fU 4 cA (ae (ab 0) (ae (ab 1) (ae (ab 2) (ae (ab 4) af)))))))))
  (aJ (cC 4))))))
noncomputable def gG:List MA->Res:=aI 9 j9
noncomputable def gK:FS:=(ao (aA false 3 (ah (ab 1) (eK (.int 0))))
  (ao (bY (dw (aG ag (aj (bx true) (ab 3) (eK cB))) (aG ag (aj (bx true) (ab 3) (eK dg)))) (aJ (eK .none)) aH)
  (ao (aA false 4 (ai 3 aW (ae (ab 0) (ae (ab 1) (ae (ab 2) af)))))
  (aJ (ai 4 gG (ae (ab 0) (ae (aw .leaf 5 (aP (ah (ab 0) (eK (.int 0)))) aM (aj (bx false) (ab 3) (eK bE))) (ae (ah (ab 4) (eK (.int 0))) (ae (ah (ab 4) (eK (.int 1))) af)))))))))
noncomputable def bG:List MA->Res:=aI 6 gK
noncomputable def bI:FS:=(ao (aA false 5 (ah (ab 1) (eK (.int 0))))
  (ao (bY (aG ag (aj bf (ab 5) (eK (.str "yes")))) (aJ (eK (.bool true))) aH)
  (ao (bY (aG ag (aj bf (ab 5) (eK (.str "mark")))) (aJ (aj (bx false) (ah (ab 1) (eK (.int 1))) (ah (ah (ab 0) (eK (.int 1))) (ab 4)))) aH)
  (ao (bY (aG ag (aj (bx false) (ab 5) (eK cB))) (aJ (aj (bJ true) (ah (ab 3) (ab 4)) (eK .none))) aH)
  (ao (bY (aG ag (aj (bx false) (ab 5) (eK dg))) (aJ (aj (bJ false) (ah (ab 3) (ab 4)) (eK .none))) aH)
  (ao (aA false 6 (aw .leaf 7 (aP (ab 2)) aM (aj (bx false) (ab 4) (ab 7))))
  (ao (bY (aG ag (aj bf (ab 5) (eK (.str "not")))) (aJ (iq (ah (ab 6) (eK (.int 0))))) aH)
  (ao (bY (fF (aG ag (aj bf (ab 5) (eK (.str "and")))) (aG ag (aj bf (ab 5) (eK (.str "or"))))) (aJ (kJ (aG ag (aj bf (ab 5) (eK (.str "and")))) (bp (cU false) (ae (ab 6) af)) (bp (cU true) (ae (ab 6) af)))) aH)
  (aJ (ai 2 b6 (ae (aj (bx false) (ab 5) (eK bE)) (ae (aw .leaf 8 (aP (ah (ah (ab 0) (eK (.int 2))) (ab 4))) aM (aj (bx false) (ab 8) (ah (ab 2) (eK (.int 0))))) af))))))))))))
noncomputable def ff:List MA->Res:=aI 9 bI
noncomputable def j6:FS:=(aJ (aw .leaf 4 (gh (ae (bp aK (ae (ah (ab 0) (eK (.int 0))) af)) af)) (aG bH (ai 5 ff (ae (ab 0) (ae (ab 1) (ae (ab 2) (ae (ab 3) (ae (ab 4) af))))))) (ab 4)))
noncomputable def bM:List MA->Res:=aI 5 j6
noncomputable def wR(a:List MA->Res):FS:=(ao (aA false 2 (aw .leaf 3 (eG (ai 1 aU (ae (ab 1) af))) aM (ai 2 a (ae (ab 0) (ae (ab 3) af)))))
  (aJ (ai 4 bM (ae (ab 0) (ae (ab 1) (ae (ab 2) (ae (ai 3 bG (ae (ab 0) (ae (ab 1) (ae (ab 2) af)))) af)))))))
noncomputable def oM:Nat->List MA->Res
 |0=>λ_=>.no
 |n+1=>aI 4 (wR (oM n))
noncomputable def vU:List MA->Res:=oM 30
noncomputable def zE:FS:=(ao (fH (ai 1 bu (ae (ab 0) af)))
  (ao (fH (ai 1 bg (ae (ab 1) af)))
  (aJ (ai 2 vU (ae (ab 0) (ae (ab 1) af))))))
noncomputable def yR:List MA->Res:=aI 2 zE
noncomputable def kb:FS:=(ao (bY (aG ag (aj iN (ab 1) (bp aK (ae (ab 0) af)))) (aJ (ah (ab 0) (ab 1))) aH)
  (aJ (eK (.int 0))))
noncomputable def aD:List MA->Res:=aI 2 kb
noncomputable def pf:FS:=(ao (bY (aG ag (aj qC (ab 0) (aj qz (eK (.int 10)) (eK (.int 18))))) (ao (aA false 4 (ab 0))
  (ao (dR 5 (gh (ae (ab 1) af))
  (aA false 4 (aj bO (ab 4) (ab 2))))
  (aJ (aj bj (ab 4) (ab 2))))) aH)
  (ao (aA false 3 (aj bj (aj il (aj aQ (aj aQ (aj bj (ab 0) (eK (.int 1000000007))) (aj il (eK (.int 1009)) (ab 1))) (eK (.int 17))) (eK (.int 69621))) (eK (.int 2147483647))))
  (ao (aA false 3 (aj bj (aj aQ (aj aQ (aj il (ab 3) (ab 3)) (aj il (eK (.int 40503)) (ab 1))) (eK (.int 5))) (eK (.int 2147483629))))
  (aJ (aj bj (aj bO (aj bj (aj il (ab 3) (eK (.int 48271))) (eK (.int 2147483647))) (eK (.int 32))) (ab 2))))))
noncomputable def aC:List MA->Res:=aI 6 pf
noncomputable def d__law_world:FS:=(ao (aA false 3 (aj aQ (eK (.int 1)) (aj bj (ai 2 aD (ae (ab 0) (ae (ab 1) af))) (ab 2))))
  (ao (aA true 4 (aY .leaf af))
  (ao (aA true 5 (aY .leaf af))
  (ao (aA true 6 (aY .leaf af))
  (ao (dR 7 (gh (ae (ab 3) af))
  (ao (aA false 8 (ai 2 aD (ae (ab 0) (ae (aj aQ (aj aQ (ab 1) (eK (.int 1))) (ab 7)) af))))
  (ao (aN 4 (ai 3 aC (ae (ab 8) (ae (eK (.int 0)) (ae (eK (.int 2)) af)))))
  (ao (aN 5 (aw .leaf 11 (gh (ae (eK (.int 3)) af)) (aG ag (aj bf (ai 3 aC (ae (ab 8) (ae (aj aQ (eK (.int 1)) (ab 11)) (ae (eK (.int 2)) af)))) (eK (.int 1)))) (ah (eK (.str "abc")) (ab 11))))
  (ao (aA false 9 (aw .leaf 10 (gh (ae (ab 3) af)) (aG ag (aj bf (ai 3 aC (ae (ab 8) (ae (aj aQ (eK (.int 4)) (ab 10)) (ae (aj aQ (eK (.int 2)) (bp qB (ae (aj gO (ab 3) (eK (.int 3))) af))) af)))) (eK (.int 1)))) (ab 10)))
  (ao (bY (aG ag (aj bf (ab 9) (aY .leaf af))) (aA false 9 (aY .leaf (ae (ai 3 aC (ae (ab 8) (ae (aj aQ (eK (.int 4)) (ab 3)) (ae (ab 3) af)))) af))) aH)
  (aN 6 (ab 9))))))))
  (aJ (b4 (ae (cC 4) (ae (cC 5) (ae (cC 6) af))))))))))
noncomputable def m__law_world:List MA->Res:=aI 12 d__law_world
noncomputable def jn:FS:=(ao (aA false 3 (aY .leaf (ae (eK (.str "mark")) (ae (eK (.str "mark")) (ae (eK (.str "not")) (ae (eK (.str "and")) (ae (eK (.str "some until")) (ae (eK (.str "all until")) (ae (eK (.str "some next")) (ae (eK (.str "all next")) (ae (eK (.str "some always")) af)))))))))))
  (ao (aA false 3 (kK (ab 3) (aY .leaf (ae (eK (.str "all always")) (ae (eK (.str "or")) (ae (eK (.str "yes")) af))))))
  (ao (aA true 4 (aY .leaf (ae (b4 (ae (eK (.str "mark")) (ae (ah (eK (.str "abc")) (ai 3 aC (ae (ai 2 aD (ae (ab 0) (ae (ab 1) af))) (ae (eK (.int 3)) (ae (eK (.int 3)) af))))) af))) af)))
  (ao (dR 5 (zb (ae (eK (.int 1)) (ae (ab 2) af)))
  (ao (aA false 6 (ai 2 aD (ae (ab 0) (ae (aj aQ (ab 1) (ab 5)) af))))
  (ao (aA false 7 (ah (ab 3) (ai 3 aC (ae (ab 6) (ae (eK (.int 0)) (ae (eK (.int 12)) af))))))
  (ao (aA false 8 (wH 4 (aj gSub (eU tH (eK (.int 1))) (aj bj (ai 3 aC (ae (ab 6) (ae (eK (.int 1)) (ae (eK (.int 2)) af)))) (bp aK (ae (ab 4) af))))))
  (ao (aA false 9 (wH 4 (aj bj (ai 3 aC (ae (ab 6) (ae (eK (.int 2)) (ae (eK (.int 60)) af)))) (bp aK (ae (ab 4) af)))))
  (bY (aG ag (aj bf (ab 7) (eK (.str "yes")))) (aN 4 (b4 (ae (eK (.str "yes")) af))) (bY (aG ag (aj bf (ab 7) (eK (.str "mark")))) (aN 4 (b4 (ae (eK (.str "mark")) (ae (ah (eK (.str "abc")) (ai 3 aC (ae (ab 6) (ae (eK (.int 3)) (ae (eK (.int 3)) af))))) af)))) (bY (aG ag (aj (bx false) (ab 7) (b4 (ae (eK (.str "and")) (ae (eK (.str "or")) (ae (eK (.str "some until")) (ae (eK (.str "all until")) af))))))) (aN 4 (b4 (ae (ab 7) (ae (ab 9) (ae (ab 8) af))))) (aN 4 (b4 (ae (ab 7) (ae (ab 8) af))))))))))))
  (aJ (wH 4 (eU tH (eK (.int 1)))))))))
noncomputable def jh:List MA->Res:=aI 10 jn
noncomputable def mW(a:List MA->Res):FS:=(aJ (aj aQ (eK (.int 1)) (bp Kx (ae (aw .leaf 1 (eG (jZ (ab 0) (eK (.int 1)))) (aG bH (fm "tuple" (ab 1))) (ai 1 a (ae (ab 1) af))) af))))
noncomputable def ib:Nat->List MA->Res
 |0=>λ_=>.no
 |n+1=>aI 2 (mW (ib n))
noncomputable def ie:List MA->Res:=ib 20
open PySem.SeqAt
noncomputable def HK(a b:D):Bool:=match iN a b with
 |some (.bool t)=>t
 |_=>false
noncomputable def gL(X:List D):Prop:=∀a∈X,∃n,a=.int n
noncomputable def kh(X:List D):Prop:=∀a∈X,∃x,a=.str x/\PyData.strOk x=true
noncomputable def Row(X:List D):Prop:=gL X\/kh X
theorem xw(i:Int):shaped (.int i)=true:=by simp[shaped,PyData.canLay0,PyData.depth]
theorem uV(h:PyData.strOk x=true):shaped (.str x)=true:=by simp[shaped,PyData.canLay0,PyData.depth,h]
theorem Row.lt{a b:D}(h:Row X)(Z:a∈X)(U:b∈X):iN a b=some (.bool (HK a b))/\qC a b=some (.bool (!HK a b)):=by
 rcases h with h|h
 .obtain⟨n,rfl⟩:=h a Z
  obtain⟨m,rfl⟩:=h b U;refine⟨rfl,?_⟩
  show some (PyData.bool (decide (m<=n)))=some (.bool (!decide (n<m)))
  congr 2
  by_cases q:n<m
  .simp[q,Int.not_le.mpr q]
  .simp[q,Int.not_lt.mp q]
 .obtain⟨n,rfl,_⟩:=h a Z
  obtain⟨m,rfl,_⟩:=h b U;exact⟨rfl,rfl⟩
noncomputable def Au(X:List D)(d:D):Bool:=match d with
 |.int j=>HK (X.getD (j-1).toNat .none) (X.getD j.toNat .none)
 |_=>false
noncomputable def iW(X:List D):Bool:=(b9 1 ((X.length:Int)-1).toNat).all (Au X)
theorem Aa{a:Int}{n:Nat}{d:D}(h:d∈b9 a n):∃k:Nat,k<n/\d=.int (a+k):=by
 unfold b9 at h;simp only[mem_map,mem_range]at h
 obtain⟨k,G,e⟩:=h;exact⟨k,G,e.symm⟩
theorem Dz{G:Int}{n:Nat}:(b9 G n).length=n:=by unfold b9;simp
theorem m9{n:Nat}(h:k<n):fQ n (k:Int)=some k:=by
 unfold fQ;rw[if_pos (by omega),if_pos (by omega)]
 simp
theorem Fz{n:Nat}{i:Int}(o:0<=i)(Y:i<n):fQ n i=some i.toNat:=by
 unfold fQ;rw[if_pos o,if_pos Y]
theorem CM{i:Int}(o:-1000<=i)(Y:i<=100000):cL i=true:=by
 unfold cL;simp only[Bool.and_eq_true,decide_eq_true_eq]
 omega
theorem GA(h:k<X.length):X[k]?=some (X.getD k .none):=by
 rw[Mr,Mq h];rfl
theorem getD_mem(h:k<X.length):X.getD k .none∈X:=mem_of_getElem? (GA h)
theorem Fy(h:Row X)(G:k<((X.length:Int)-1).toNat):fQ X.length (1+(k:Int)-1)=some k/\fQ X.length (1+(k:Int))=some (k+1)/\X[k]?=some (X.getD k .none)/\X[k+1]?=some (X.getD (k+1) .none) /\
  iN (X.getD k .none) (X.getD (k+1) .none)=some (.bool (Au X (.int (1+(k:Int)))))/\qC (X.getD k .none) (X.getD (k+1) .none)=some (.bool (!Au X (.int (1+(k:Int))))):=by
 have Y:k<X.length:=by omega
 have M:k+1<X.length:=by omega
 have l:=h.lt (getD_mem Y) (getD_mem M)
 have I:Au X (.int (1+(k:Int)))=HK (X.getD k .none) (X.getD (k+1) .none):=by
  unfold Au;dsimp only;rw[show(1+(k:Int)-1).toNat=k by omega,show(1+(k:Int)).toNat=k+1 by omega]
 rw[I];exact⟨by rw[show(1+(k:Int)-1)=k by omega];exact m9 Y,by rw[show(1+(k:Int))=((k+1:Nat):Int) by omega];exact m9 M,GA Y,GA M,l.1,l.2⟩
theorem aV{n:Nat}{p:PV}(h:g (av n X)=.rt p):aI n g X=.ok p:=by unfold aI;rw[h]
theorem eq_int{a b:Int}:bf (.int a) (.int b)=some (.bool (a==b)):=by
 unfold bf;rw[xw,xw,Bool.and_self,if_pos rfl,PyData.eqv]
theorem gx(h:Row X)(S:X.length<=100):dX [.list X]=.ok ⟨.leaf,.bool (iW X)⟩:=by
 have J:aw .leaf 1 (zb (ae (eK (.int 1)) (ae (bp aK (ae (ab 0) af)) af))) aM (aj iN (ah (ab 0) (aj gSub (ab 1) (eK (.int 1)))) (ah (ab 0) (ab 1))) [MB (.list X),none] =
   .ok ⟨.lst .leaf,.list ((b9 1 ((X.length:Int)-1).toNat).map λd=>.bool (Au X d))⟩ [MB (.list X),none]:=by
  refine DB (f:=λd=>⟨.leaf,.bool (Au X d)⟩) (st:=true) (Jw (k:=1) (m:=(X.length:Int)) (aE aO (aE (bX (aE (az rfl) aq) rfl) aq)) rfl (by omega) (by omega) (by omega) (by omega)) (by simp) rfl (by rw[Dz];omega) λd y=>⟨?_,rfl⟩
  obtain⟨k,G,rfl⟩:=Aa y;obtain⟨N,R,I,w,a,b⟩:=Fy h G;exact aB (km (az rfl) (aB (az rfl) aO rfl) N I rfl) (km (az rfl) (az rfl) R w rfl) a
 exact aV (aS (bX (aE J aq) AM) rfl)
noncomputable def DL(a:D):Bool:=[PyData.str "a",.str "b",.str "c",.str "d",.str "e",.str "f"].any λy=>PyData.eqv y a
noncomputable def FE(a:D):Bool:=[PyData.int 0,.int 1].any λy=>PyData.eqv y a
noncomputable def inR(n:Int)(a:D):Bool:=match a with
 |.int i=>decide (0<=i)&&decide (i<n)
 |_=>false
noncomputable def DK(d:D):Bool:=match d with
 |.list L=>L.all DL&&iW L
 |_=>false
noncomputable def Ht(n:Int)(d:D):Bool:=match d with
 |.list L=>decide (0<L.length)&&(L.all (inR n)&&iW L)
 |_=>false
theorem Bg:shaped cG=true:=by decide +kernel
theorem Er:shaped cT=true:=by decide +kernel
theorem wa(F:PyData.strOk x=true):bx false (.str x) cG=some (.bool (DL (.str x))):=by
 unfold bx cG;have:=Bg
 unfold cG at this;simp only[uV F,this,Bool.and_self,if_true]
 rfl
theorem FD{i:Int}:bx false (.int i) cT=some (.bool (FE (.int i))):=by
 unfold bx cT;have:=Er
 unfold cT at this;simp only[xw,this,Bool.and_self,if_true]
 rfl
theorem kO(h:kh X)(S:X.length<=100):dZ [.list X]=.ok ⟨.leaf,.bool (X.all DL&&iW X)⟩:=by
 have J:aw .leaf 1 (aP (ab 0)) aM (aj (bx false) (ab 1) (eK cG)) [MB (.list X),none]=.ok ⟨.lst .leaf,.list (X.map λd=>.bool (DL d))⟩ [MB (.list X),none]:=by
  refine DB (f:=λd=>⟨.leaf,.bool (DL d)⟩) (cQ (az rfl) rfl) (by simp) rfl (by omega) λd y=>⟨?_,rfl⟩
  obtain⟨x,rfl,F⟩:=h d y;exact aB (az rfl) aO (wa F)
 exact aV (aS (v_and (bX (aE J aq) AM) (dE (aE (az rfl) aq) (gx (.inr h) S) rfl rfl)) rfl)
theorem chain_ev{i n:Int}:HN (.int 0) (.int i)=some (.bool (decide (0<=i)))/\iN (.int i) (.int n)=some (.bool (decide (i<n))):=⟨rfl,rfl⟩
theorem kN{n:Int}(h:gL X)(S:X.length<=100):fM [.list X,.int n]=.ok ⟨.leaf,.bool (X.all (inR n)&&iW X)⟩:=by
 have J:aw .leaf 2 (aP (ab 0)) aM (gH HN iN (eK (.int 0)) (ab 2) (ab 1)) [MB (.list X),MB (.int n),none]=.ok ⟨.lst .leaf,.list (X.map λd=>.bool (inR n d))⟩ [MB (.list X),MB (.int n),none]:=by
  refine DB (f:=λd=>⟨.leaf,.bool (inR n d)⟩) (cQ (az rfl) rfl) (by simp) rfl (by omega) λd y=>⟨?_,rfl⟩
  obtain⟨i,rfl⟩:=h d y;exact xN aO (az rfl) (chain_ev (n:=n)).1 rfl (az rfl) chain_ev.2
 exact aV (aS (v_and (bX (aE J aq) AM) (dE (aE (az rfl) aq) (gx (.inl h) S) rfl rfl)) rfl)
theorem kM{n:Int}(h:gL X)(S:X.length<=100):dY [.list X,.int n]=.ok ⟨.leaf,.bool (decide (0<X.length)&&(X.all (inR n)&&iW X))⟩:=by
 have e:gO (.int (X.length:Nat)) (.int 0)=some (.bool (decide (0<X.length))):=by
  show some (PyData.bool (decide ((0:Int)<(X.length:Int))))=_
  congr 2
  exact decide_eq_decide.mpr (by omega)
 exact aV (aS (v_and (aB (bX (aE (az rfl) aq) rfl) aO e) (dE (aE (az rfl) (aE (az rfl) aq)) (kN h S) rfl rfl)) rfl)
structure Wk(b:Nat)(os ms ss:List D):Prop where
 o:gL os
 m:∀r∈ms,∃xs,r=.list xs/\kh xs/\xs.length<=30
 s:∀r∈ss,∃xs,r=.list xs/\gL xs/\xs.length<=30
 lo:os.length<=b
 lm:ms.length<=b
 ls:ss.length<=b
noncomputable def HR(X v u:List D):Bool:=decide ((X.length:Int)<1)||(decide ((24:Int)<X.length)||((!((v.length:Int)==(X.length:Int)))||(!((u.length:Int)==(X.length:Int)))))
noncomputable def isW(X v u:List D):Bool:=!HR X v u&&(X.all FE&&(v.all DK&&u.all (Ht X.length)))
theorem ne_int{a b:Int}:fE (.int a) (.int b)=some (.bool (!(a==b))):=by
 unfold fE;rw[xw,xw,Bool.and_self,if_pos rfl,PyData.eqv]
theorem mP{b:Nat}{v u:List D}(h:Wk b X v u)(U:b<=100):eZ [.list X,.list v,.list u]=.ok ⟨.leaf,.bool (isW X v u)⟩:=by
 have G:=h.lo
 have e:=h.lm
 have s:=h.ls
 refine aV ?_
 refine ay (dO (bX (aE (az rfl) aq) rfl) rfl (by simp[av])) ?_
 have c:(fF (aG ag (aj iN (ab 3) (eK (.int 1)))) (fF (aG ag (aj gO (ab 3) (eK fh))) (fF (aG ag (aj fE (bp aK (ae (ab 1) af)) (ab 3))) (aG ag (aj fE (bp aK (ae (ab 2) af)) (ab 3)))))) [MB (.list X),MB (.list v),MB (.list u),MB (.int (X.length:Nat)),none,none]
   = .ok (HR X v u) [MB (.list X),MB (.list v),MB (.list u),MB (.int (X.length:Nat)),none,none]:=
  iP (cD (aB (az rfl) aO rfl)) (iP (cD (aB (az rfl) aO rfl)) (iP (cD (aB (bX (aE (az rfl) aq) rfl) (az rfl) ne_int)) (cD (aB (bX (aE (az rfl) aq) rfl) (az rfl) ne_int))))
 cases a:HR X v u with
 |true=>
  rw[a]at c;unfold isW;rw[a];exact gQ (aT c (λ_=>aS aO rfl) nofun)
 |false=>
  rw[a]at c;refine ay (aT c nofun (λ_=>rfl)) ?_
  have J:aw .leaf 4 (aP (ab 0)) aM (aj (bx false) (ab 4) (eK cT)) [MB (.list X),MB (.list v),MB (.list u),MB (.int (X.length:Nat)),none,none]
    = .ok ⟨.lst .leaf,.list (X.map λd=>.bool (FE d))⟩ [MB (.list X),MB (.list v),MB (.list u),MB (.int (X.length:Nat)),none,none]:=by
   refine DB (f:=λd=>⟨.leaf,.bool (FE d)⟩) (cQ (az rfl) rfl) (by simp) rfl (by omega) λd y=>⟨?_,rfl⟩
   obtain⟨i,rfl⟩:=h.o d y;exact aB (az rfl) aO FD
  have p:aw .leaf 5 (aP (ab 1)) aM (ai 1 dZ (ae (ab 5) af)) [MB (.list X),MB (.list v),MB (.list u),MB (.int (X.length:Nat)),none,none]
    = .ok ⟨.lst .leaf,.list (v.map λd=>.bool (DK d))⟩ [MB (.list X),MB (.list v),MB (.list u),MB (.int (X.length:Nat)),none,none]:=by
   refine DB (f:=λd=>⟨.leaf,.bool (DK d)⟩) (cQ (az rfl) rfl) (by simp) rfl (by omega) λd y=>⟨?_,rfl⟩
   obtain⟨L,rfl,F,S⟩:=h.m d y;exact dE (aE (az rfl) aq) (kO F (by omega)) rfl rfl
  have z:aw .leaf 5 (aP (ab 2)) aM (ai 2 dY (ae (ab 5) (ae (ab 3) af))) [MB (.list X),MB (.list v),MB (.list u),MB (.int (X.length:Nat)),none,none]
    = .ok ⟨.lst .leaf,.list (u.map λd=>.bool (Ht X.length d))⟩ [MB (.list X),MB (.list v),MB (.list u),MB (.int (X.length:Nat)),none,none]:=by
   refine DB (f:=λd=>⟨.leaf,.bool (Ht X.length d)⟩) (cQ (az rfl) rfl) (by simp) rfl (by omega) λd y=>⟨?_,rfl⟩
   obtain⟨L,rfl,F,S⟩:=h.s d y;exact dE (aE (az rfl) (aE (az rfl) aq)) (kM F (by omega)) rfl rfl
  have q:=lU (dk (bX (aE J aq) AM))
  cases K:X.all FE with
  |false=>
   rw[K]at q;unfold isW;rw[K,Bool.false_and,Bool.and_false];exact gQ (aT q (λ_=>aS aO rfl) nofun)
  |true=>
   rw[K]at q;refine ay (aT q nofun (λ_=>rfl)) ?_
   unfold isW;rw[a,K,Bool.not_false,Bool.true_and,Bool.true_and];exact aS (v_and (bX (aE p aq) AM) (bX (aE z aq) AM)) rfl
theorem C3(h:shaped (.list L)=true):bf (.list L) (.list [])=some (.bool (decide (L.length=0))):=by
 unfold bf;have M:shaped (.list [])=true:=by decide +kernel
 rw[h,M,Bool.and_self,if_pos rfl]
 cases L with
 |nil=>rfl
 |cons a r=>rfl
theorem DU(h:gL L):shaped (.list L)=true:=by
 have c:PyData.canLayAll0 L=true/\PyData.depthAll L=0:=by
  induction L with
  |nil=>exact⟨rfl,rfl⟩
  |cons a r B=>
   obtain⟨n,rfl⟩:=h a mem_cons_self;have q:=B λx F=>h x (Ms _ F)
   simp[PyData.canLayAll0,PyData.canLay0,PyData.depthAll,PyData.depth,q.1,q.2]
 simp[shaped,PyData.canLay0,PyData.depth,c.1,c.2]
theorem xX(h:kh L):shaped (.list L)=true:=by
 have c:PyData.canLayAll0 L=true/\PyData.depthAll L=0:=by
  induction L with
  |nil=>exact⟨rfl,rfl⟩
  |cons a r B=>
   obtain⟨n,rfl,j⟩:=h a mem_cons_self;have q:=B λx F=>h x (Ms _ F)
   simp[PyData.canLayAll0,PyData.canLay0,PyData.depthAll,PyData.depth,q.1,q.2,j]
 simp[shaped,PyData.canLay0,PyData.depth,c.1,c.2]
theorem lt_int{a b:Int}:iN (.int a) (.int b)=some (.bool (decide (a<b))):=rfl
theorem zi{a b:Int}:qC (.int a) (.int b)=some (.bool (decide (b<=a))):=rfl
theorem uu{a b:Int}:aQ (.int a) (.int b)=some (.int (a+b)):=rfl
theorem cH{a b:Int}(h:0<b):bj (.int a) (.int b)=some (.int (a % b)):=by
 show(if zM a b then _ else _)=_
 rw[if_pos (by unfold zM;simpa using h)]
theorem fx{a b:Int}(h:0<b)(M:b<1073741824):bO (.int a) (.int b)=some (.int (a / b)):=by
 show(if zN a b then _ else _)=_
 rw[if_pos (by unfold zN;simp[h,M])]
theorem As{a b:Int}(h:-1000000000000<b)(M:b<1000000000000):il (.int a) (.int b)=some (.int (a*b)):=by
 show(if ud a b then _ else _)=_
 rw[if_pos (by unfold ud;simp only[Bool.or_eq_true,Bool.and_eq_true,decide_eq_true_eq];right;omega)]
theorem vS{a b:Int}(h:-1000000000000<a)(M:a<1000000000000):il (.int a) (.int b)=some (.int (a*b)):=by
 show(if ud a b then _ else _)=_
 rw[if_pos (by unfold ud;simp only[Bool.or_eq_true,Bool.and_eq_true,decide_eq_true_eq];left;omega)]
theorem EY{b:Int}(h:0<=b)(M:b<=100):qz (.int 10) (.int b)=some (.int (10 ^ b.toNat)):=by
 show(if zL 10 b then _ else _)=_
 rw[if_pos (by unfold zL;simp only[Bool.and_eq_true,decide_eq_true_eq];exact⟨⟨h,by omega⟩,by decide⟩)]
theorem DC(h:gL L){k:Int}(G:0<=k):∃c,aD [.list L,.int k]=.ok ⟨.leaf,.int c⟩:=by
 have t:aG ag (aj iN (ab 1) (bp aK (ae (ab 0) af))) [MB (.list L),MB (.int k)]=.ok (decide (k<(L.length:Int))) [MB (.list L),MB (.int k)]:=
  cD (aB (az rfl) (bX (aE (az rfl) aq) rfl) lt_int)
 cases f:decide (k<(L.length:Int))with
 |true=>
  rw[f]at t;have S:=of_decide_eq_true f
  have a:k.toNat<L.length:=by omega
  obtain⟨c,J⟩:=h _ (getD_mem a);have g:=GA a
  rw[J]at g;exact⟨c,aV (gQ (aT t (λ_=>aS (km (az rfl) (az rfl) (Fz G S) g rfl) rfl) nofun))⟩
 |false=>
  rw[f]at t;exact⟨0,aV (ay (aT t nofun (λ_=>rfl)) (aS aO rfl))⟩
theorem oY{k b:Int}(G:0<=k)(a:k<=1000)(U:1<=b)(g:b<=1000):∃r,aC [.int c,.int k,.int b]=.ok ⟨.leaf,.int r⟩/\0<=r/\r<b:=by
 have t:aG ag (aj qC (ab 0) (aj qz (eK (.int 10)) (eK (.int 18)))) [MB (.int c),MB (.int k),MB (.int b),none,none,none]=.ok (decide (10 ^ (18:Int).toNat<=c)) [MB (.int c),MB (.int k),MB (.int b),none,none,none]:=
  cD (aB (az rfl) (aB aO aO (EY (by omega) (by omega))) zi)
 cases f:decide (10 ^ (18:Int).toNat<=c)with
 |true=>
  rw[f]at t;obtain⟨N,e,l,x,K⟩:=IH (P:=λ_ C=>∃l x,C=[MB (.int c),MB (.int k),MB (.int b),none,MB (.int l),x]) (i:=5) (body:=aA false 4 (aj bO (ab 4) (ab 2))) (b9 0 k.toNat) 0
   [MB (.int c),MB (.int k),MB (.int b),none,MB (.int c),none] ⟨c,none,rfl⟩ (λm d C y _ _ ⟨l,x,K⟩=>by
    subst K;refine⟨by simp,_,dO (aB (az rfl) (az rfl) (fx (by omega) (by omega))) rfl (by simp),_,_,rfl⟩)
  subst K;exact⟨_,aV (gQ (aT t (λ_=>ay (dO (az rfl) rfl (by simp)) (ay (gU (kq (k:=k) (aE (az rfl) aq) rfl (by omega) (by omega)) e) (aS (aB (az rfl) (az rfl) (cH (by omega))) rfl))) nofun)),Int.emod_nonneg _ (by omega),Int.emod_lt_of_pos _ (by omega)⟩
 |false=>
  rw[f]at t;have M:∀x:Int,0<=x % 2147483647/\x % 2147483647<2147483647:=λx=>⟨Int.emod_nonneg _ (by omega),Int.emod_lt_of_pos _ (by omega)⟩
  refine⟨_,aV (ay (aT t nofun (λ_=>rfl)) (ay (dO (aB (aB (aB (aB (aB (az rfl) aO (cH (by omega))) (aB aO (az rfl) (vS (by omega) (by omega))) uu) aO uu) aO (As (by omega) (by omega))) aO (cH (by omega))) rfl (by simp[av]))
   (ay (dO (aB (aB (aB (aB (az rfl) (az rfl) (vS ?_ ?_)) (aB aO (az rfl) (vS (by omega) (by omega))) uu) aO uu) aO (cH (by omega))) rfl (by simp[av]))
   (aS (aB (aB (aB (aB (az rfl) aO (As (by omega) (by omega))) aO (cH (by omega))) aO (fx (by omega) (by omega))) (az rfl) (cH (by omega))) rfl)))),Int.emod_nonneg _ (by omega),Int.emod_lt_of_pos _ (by omega)⟩
  .exact Int.lt_of_lt_of_le (by omega) (M _).1
  .exact Int.lt_trans (M _).2 (by omega)
noncomputable def lJ(c k b:Int):Int:=match aC [.int c,.int k,.int b]with
 |.ok ⟨_,.int r⟩=>r
 |_=>0
theorem Gx{k b:Int}(G:0<=k)(a:k<=1000)(U:1<=b)(K:b<=1000):aC [.int c,.int k,.int b]=.ok ⟨.leaf,.int (lJ c k b)⟩:=by
 obtain⟨r,e,_⟩:=oY (c:=c) G a U K
 unfold lJ;rw[e]
theorem wJ{k b:Int}(G:0<=k)(a:k<=1000)(U:1<=b)(K:b<=1000):0<=lJ c k b/\lJ c k b<b:=by
 obtain⟨r,e,h⟩:=oY (c:=c) G a U K
 unfold lJ;rw[e];exact h
noncomputable def abc(d:D):D:=match d with
 |.int k=>(match fy [97,98,99] k with
  |some c=>.str ⟨#[c]⟩
  |none=>.none)
 |_=>.none
theorem vK{c:Nat}(h:c<1000):PyData.strOk ⟨#[c]⟩=true:=by
 unfold PyData.strOk;simp
 omega
theorem zU:(Str.ofString "abc").cps.toList=[97,98,99]:=by decide +kernel
theorem zT:(Str.ofString "abc").length<=sizeLine:=by decide +kernel
theorem w9(G:k<3):∃c,c<1000/\fy (Str.ofString "abc").cps.toList (k:Int)=some c/\abc (.int k)=.str ⟨#[c]⟩:=by
 rw[zU];match k,G with
 |0,_=>exact⟨97,by omega,rfl,rfl⟩
 |1,_=>exact⟨98,by omega,rfl,rfl⟩
 |2,_=>exact⟨99,by omega,rfl,rfl⟩
noncomputable abbrev eW:FS:=(ao (aA false 8 (ai 2 aD (ae (ab 0) (ae (aj aQ (aj aQ (ab 1) (eK (.int 1))) (ab 7)) af))))
  (ao (aN 4 (ai 3 aC (ae (ab 8) (ae (eK (.int 0)) (ae (eK (.int 2)) af)))))
  (ao (aN 5 (aw .leaf 11 (gh (ae (eK (.int 3)) af)) (aG ag (aj bf (ai 3 aC (ae (ab 8) (ae (aj aQ (eK (.int 1)) (ab 11)) (ae (eK (.int 2)) af)))) (eK (.int 1)))) (ah (eK (.str "abc")) (ab 11))))
  (ao (aA false 9 (aw .leaf 10 (gh (ae (ab 3) af)) (aG ag (aj bf (ai 3 aC (ae (ab 8) (ae (aj aQ (eK (.int 4)) (ab 10)) (ae (aj aQ (eK (.int 2)) (bp qB (ae (aj gO (ab 3) (eK (.int 3))) af))) af)))) (eK (.int 1)))) (ab 10)))
  (ao (bY (aG ag (aj bf (ab 9) (aY .leaf af))) (aA false 9 (aY .leaf (ae (ai 3 aC (ae (ab 8) (ae (aj aQ (eK (.int 4)) (ab 3)) (ae (ab 3) af)))) af))) aH)
  (aN 6 (ab 9)))))))
theorem u4(h:o.Pairwise (· < ·)):iW (o.map .int)=true:=by
 unfold iW;rw[all_eq_true];intro d y;obtain⟨k,G,rfl⟩:=Aa y;rw[length_map]at G;have Y:k<o.length:=by omega
 have M:k+1<o.length:=by omega
 unfold Au;dsimp only;rw[show(1+(k:Int)-1).toNat=k by omega,show(1+(k:Int)).toNat=k+1 by omega]
 rw[Mr,Mr,getElem?_map,getElem?_map,Mq Y,Mq M];have:=List.pairwise_iff_getElem.mp h k (k+1) Y M (by omega)
 show decide (o[k]<o[k+1])=true
 exact decide_eq_true this
structure Gw(N:Int)(n:Nat)(os ms ss:List D):Prop where
 lo:os.length=n
 lm:ms.length=n
 ls:ss.length=n
 o:∀a∈os,a=.int 0\/a=.int 1
 m:∀r∈ms,∃xs,r=.list xs/\kh xs/\xs.length<=30/\DK r=true
 s:∀r∈ss,∃ts:List Int,r=.list (ts.map .int)/\ts.length<=30/\ts≠[]/\(∀t∈ts,0<=t/\t<N)/\ts.Pairwise (· < ·)
theorem DX:gL (o.map .int):=λa Z=>by
 obtain⟨n,_,e⟩:=List.mem_map.mp Z;exact⟨n,e.symm⟩
theorem Gw.wk{N:Int}{n b:Nat}{v u:List D}(h:Gw N n X v u)(U:n<=b):Wk b X v u:=
 ⟨λa Z=>(h.o a Z).elim (λe=>⟨0,e⟩) λe=>⟨1,e⟩,λr m=>let⟨L,e,a,b,_⟩:=h.m r m;⟨L,e,a,b⟩,λr m=>let⟨o,e,a,_⟩:=h.s r m;⟨_,e,DX,by rw[length_map];exact a⟩,by rw[h.lo];exact U,by rw[h.lm];exact U,by rw[h.ls];exact U⟩
theorem Gw.isW{n:Nat}{X v u:List D}(h:Gw (n:Int) n X v u)(Y:1<=n)(H:n<=24):isW X v u=true:=by
 unfold KC.isW HR;rw[h.lo,h.lm,h.ls];have N:decide ((n:Int)<1)=false:=decide_eq_false (by omega)
 have R:decide ((24:Int)<n)=false:=decide_eq_false (by omega)
 rw[N,R];simp only[beq_self_eq_true,Bool.not_true,Bool.or_self,Bool.not_false,Bool.true_and,Bool.and_eq_true,all_eq_true]
 refine⟨λa Z=>?_,λr m=>?_,λr m=>?_⟩
 .rcases h.o a Z with rfl|rfl<;>rfl
 .obtain⟨L,_,_,_,e⟩:=h.m r m
  exact e
 .obtain⟨o,rfl,M,P,b,C⟩:=h.s r m
  unfold Ht;simp only[Bool.and_eq_true,decide_eq_true_eq,length_map,all_eq_true]
  refine⟨by cases o with|nil=>exact absurd rfl P|cons a r=>simp,λa Z=>?_,u4 C⟩
  obtain⟨t,A,rfl⟩:=List.mem_map.mp Z;have:=b t A
  unfold inR;simp only[Bool.and_eq_true,decide_eq_true_eq]
  exact this
theorem Ko(a J p:Bool):DK (.list (((if a then[PyData.str ⟨#[97]⟩]else[])++((if J then[PyData.str ⟨#[98]⟩]else[])++(if p then[PyData.str ⟨#[99]⟩]else[])))))=true:=by
 cases a<;>cases J<;>cases p<;>decide +kernel
theorem KL(c:D->Bool):((b9 0 3).filter c).map abc=((if c (.int 0)then[PyData.str ⟨#[97]⟩]else[])++((if c (.int 1)then[PyData.str ⟨#[98]⟩]else[])++(if c (.int 2)then[PyData.str ⟨#[99]⟩]else[]))):=by
 have e:b9 0 3=[.int 0,.int 1,.int 2]:=rfl
 rw[e];simp only[filter_cons,List.filter_nil]
 cases c (.int 0)<;>cases c (.int 1)<;>cases c (.int 2)<;>rfl
theorem Bo(n:Nat)(c:D->Bool):∃o:List Int,((b9 0 n).filter c).map (λd=>d)=o.map .int/\(∀t∈o,0<=t/\t<(n:Int))/\o.Pairwise (· < ·)/\o.length<=n:=by
 refine⟨((List.range n).map λi=>(0:Int)+(i:Nat)).filter λi=>c (.int i),?_,λt A=>?_,?_,?_⟩
 .rw[map_id']
  unfold b9;rw[show(λi:Nat=>PyData.int (0+(i:Int)))=(PyData.int∘λi:Nat=>(0:Int)+(i:Nat))from rfl,<-map_map,List.filter_map]
  rfl
 .obtain⟨Y,_⟩:=List.mem_filter.mp A
  obtain⟨i,l,rfl⟩:=List.mem_map.mp Y;rw[mem_range]at l;omega
 .refine List.Pairwise.filter _ ?_
  rw[pairwise_map];exact List.pairwise_lt_range.imp λh=>by omega
 .refine Nat.le_trans (length_filter_le _ _) ?_
  simp
theorem qR{v u:List D}{many:Int}{n:Nat}{x8 x9:Option PV}(F:gL L)(Z:0<=at')(E:1<=many)(Y:many<=24)(h:Gw many n X v u)(j:n<=30){r:Nat} :
  ∃B g x x8' x9',eW [MB (.list L),MB (.int at'),MB (.int lim),MB (.int many),some ⟨.lst .leaf,.list X⟩,some ⟨.lst .leaf,.list v⟩,some ⟨.lst .leaf,.list u⟩,MB (.int (r:Nat)),x8,x9,none,none]
   = .nx [MB (.list L),MB (.int at'),MB (.int lim),MB (.int many),some ⟨.lst .leaf,.list B⟩,some ⟨.lst .leaf,.list g⟩,some ⟨.lst .leaf,.list x⟩,MB (.int (r:Nat)),x8',x9',none,none]/\Gw many (n+1) B g x:=by
 obtain⟨c,J⟩:=DC F (k:=at'+1+(r:Int)) (by omega)
 have lo:=h.lo
 have lm:=h.lm
 have ls:=h.ls
 have c5:∀(Γ:Ev),Γ.length=12->Γ[8]?=some (MB (.int c))->aw .leaf 11 (gh (ae (eK (.int 3)) af)) (aG ag (aj bf (ai 3 aC (ae (ab 8) (ae (aj aQ (eK (.int 1)) (ab 11)) (ae (eK (.int 2)) af)))) (eK (.int 1)))) (ah (eK (.str "abc")) (ab 11)) Γ
   = .ok ⟨.lst .leaf,.list (((b9 0 3).filter λd=>match d with|.int k=>lJ c (1+k) 2==1|_=>false).map λd=>abc d)⟩ Γ:=λΓ S h8=>by
  refine Jl (c:=λd=>match d with|.int k=>lJ c (1+k) 2==1|_=>false) (f:=λd=>⟨.leaf,abc d⟩) (st:=true) (kq (k:=3) (aE aO aq) rfl (by omega) (by omega)) (by omega) rfl (by rw[Dz];omega) (λd y=>?_) λd y _=>?_
  .obtain⟨k,G,rfl⟩:=Aa y
   have m:(Γ.set 11 (MB (.int (0+(k:Int)))))[11]?=some (MB (.int (0+(k:Int)))):=by rw[getElem?_set_self (by omega)]
   have g8:(Γ.set 11 (MB (.int (0+(k:Int)))))[8]?=some (MB (.int c)):=by rw[getElem?_set_ne (by omega)];exact h8
   exact cD (aB (dE (aE (az g8) (aE (aB aO (az m) uu) (aE aO aq))) (Gx (by omega) (by omega) (by omega) (by omega)) rfl rfl) aO eq_int)
  .obtain⟨k,G,rfl⟩:=Aa y
   have m:(Γ.set 11 (MB (.int (0+(k:Int)))))[11]?=some (MB (.int (0+(k:Int)))):=by rw[getElem?_set_self (by omega)]
   obtain⟨z,U,N,R⟩:=w9 G;rw[Int.zero_add]at m ⊢;rw[R];exact⟨GF aO (az m) zT N,rfl⟩
 generalize C:(((b9 0 3).filter λd=>match d with|.int k=>lJ c (1+k) 2==1|_=>false).map λd=>abc d)=M at c5
 have rM:kh M/\M.length<=30/\DK (.list M)=true:=by
  refine⟨?_,?_,?_⟩
  .rw[<-C]
   intro a Z;obtain⟨d,y,rfl⟩:=List.mem_map.mp Z;obtain⟨k,G,rfl⟩:=Aa (List.mem_filter.mp y).1;obtain⟨z,U,N,R⟩:=w9 G;rw[Int.zero_add,R];exact⟨_,rfl,vK U⟩
  .rw[<-C,length_map]
   refine Nat.le_trans (length_filter_le _ _) ?_
   rw[Dz];omega
  .rw[<-C]
   have:=KL (λd=>match d with|.int k=>lJ c (1+k) 2==1|_=>false)
   rw[show(λd=>abc d)=abc from rfl,this]
   exact Ko _ _ _
 have c6:∀(Γ:Ev),Γ.length=12->Γ[8]?=some (MB (.int c))->Γ[3]?=some (MB (.int many))->aw .leaf 10 (gh (ae (ab 3) af)) (aG ag (aj bf (ai 3 aC (ae (ab 8) (ae (aj aQ (eK (.int 4)) (ab 10)) (ae (aj aQ (eK (.int 2)) (bp qB (ae (aj gO (ab 3) (eK (.int 3))) af))) af)))) (eK (.int 1)))) (ab 10) Γ
   = .ok ⟨.lst .leaf,.list (((b9 0 many.toNat).filter λd=>match d with|.int k=>lJ c (4+k) (2+(if decide (3<many)then 1 else 0))==1|_=>false).map λd=>d)⟩ Γ:=λΓ S h8 P=>by
  refine Jl (c:=λd=>match d with|.int k=>lJ c (4+k) (2+(if decide (3<many)then 1 else 0))==1|_=>false) (f:=λd=>⟨.leaf,d⟩) (st:=true) (kq (k:=many) (aE (az P) aq) rfl (by omega) (by omega)) (by omega) rfl (by rw[Dz];omega) (λd y=>?_) λd y _=>?_
  .obtain⟨k,G,rfl⟩:=Aa y
   have g10:(Γ.set 10 (MB (.int (0+(k:Int)))))[10]?=some (MB (.int (0+(k:Int)))):=by rw[getElem?_set_self (by omega)]
   have g8:(Γ.set 10 (MB (.int (0+(k:Int)))))[8]?=some (MB (.int c)):=by rw[getElem?_set_ne (by omega)];exact h8
   have g3:(Γ.set 10 (MB (.int (0+(k:Int)))))[3]?=some (MB (.int many)):=by rw[getElem?_set_ne (by omega)];exact P
   have H:(1:Int)<=2+(if decide (3<many)then 1 else 0)/\(2:Int)+(if decide (3<many)then 1 else 0)<=1000:=by split<;>omega
   exact cD (aB (dE (aE (az g8) (aE (aB aO (az g10) uu) (aE (aB aO (bX (aE (aB (az g3) aO rfl) aq) rfl) uu) aq))) (Gx (by omega) (by omega) H.1 H.2) rfl rfl) aO eq_int)
  .obtain⟨k,G,rfl⟩:=Aa y
   exact⟨az (by rw[getElem?_set_self (by omega)]),rfl⟩
 obtain⟨o,p,hts1,hts2,hts3⟩:=Bo many.toNat (λd=>match d with|.int k=>lJ c (4+k) (2+(if decide (3<many)then 1 else 0))==1|_=>false)
 rw[p]at c6;have fin:∀(Γ:Ev)(T:List Int),(T.length<=30/\T≠[]/\(∀t∈T,0<=t/\t<many)/\T.Pairwise (· < ·))->Γ=[MB (.list L),MB (.int at'),MB (.int lim),MB (.int many),some ⟨.lst .leaf,.list (X++[.int (lJ c 0 2)])⟩,some ⟨.lst .leaf,.list (v++[.list M])⟩,some ⟨.lst .leaf,.list u⟩,MB (.int (r:Nat)),MB (.int c),MB (.list (T.map .int)),none,none] ->
   ∃B g x x8' x9',aN 6 (ab 9) Γ=.nx [MB (.list L),MB (.int at'),MB (.int lim),MB (.int many),some ⟨.lst .leaf,.list B⟩,some ⟨.lst .leaf,.list g⟩,some ⟨.lst .leaf,.list x⟩,MB (.int (r:Nat)),x8',x9',none,none]/\Gw many (n+1) B g x:=λΓ T hT2 K=>by
  subst K;refine⟨X++[.int (lJ c 0 2)],v++[.list M],u++[.list (T.map .int)],_,_,GZ rfl (az rfl) rfl (by omega),by simp;omega,by simp;omega,by simp;omega,λa Z=>?_,λa Z=>?_,λa Z=>?_⟩
  .rcases Mo Z with z|z
   .exact h.o a z
   .have:=wJ (c:=c) (k:=0) (b:=2) (by omega) (by omega) (by omega) (by omega)
    rw[List.mem_singleton.mp z];rcases(by omega:lJ c 0 2=0\/lJ c 0 2=1)with e|e
    .exact .inl (by rw[e])
    .exact .inr (by rw[e])
  .rcases Mo Z with z|z
   .exact h.m a z
   .exact⟨M,List.mem_singleton.mp z,rM.1,rM.2.1,by rw[List.mem_singleton.mp z];exact rM.2.2⟩
  .rcases Mo Z with z|z
   .exact h.s a z
   .exact⟨T,List.mem_singleton.mp z,hT2⟩
 have N:=dO (i:=8) (dE (fl:=ae (ab 0) (ae (aj aQ (aj aQ (ab 1) (eK (.int 1))) (ab 7)) af)) (Γ:=[MB (.list L),MB (.int at'),MB (.int lim),MB (.int many),some ⟨.lst .leaf,.list X⟩,some ⟨.lst .leaf,.list v⟩,some ⟨.lst .leaf,.list u⟩,MB (.int (r:Nat)),x8,x9,none,none]) (aE (az rfl) (aE (aB (aB (az rfl) aO uu) (az rfl) uu) aq)) J rfl rfl) rfl (by simp)
 have R:aN 4 (ai 3 aC (ae (ab 8) (ae (eK (.int 0)) (ae (eK (.int 2)) af)))) [MB (.list L),MB (.int at'),MB (.int lim),MB (.int many),some ⟨.lst .leaf,.list X⟩,some ⟨.lst .leaf,.list v⟩,some ⟨.lst .leaf,.list u⟩,MB (.int (r:Nat)),MB (.int c),x9,none,none]=_:=
  GZ rfl (dE (aE (az rfl) (aE aO (aE aO aq))) (Gx (by omega) (by omega) (by omega) (by omega)) rfl rfl) rfl (by omega)
 have I:=GZ (i:=5) (Γ:=[MB (.list L),MB (.int at'),MB (.int lim),MB (.int many),some ⟨.lst .leaf,.list (X++[.int (lJ c 0 2)])⟩,some ⟨.lst .leaf,.list v⟩,some ⟨.lst .leaf,.list u⟩,MB (.int (r:Nat)),MB (.int c),x9,none,none]) rfl (c5 _ rfl rfl) rfl (by omega)
 have w:=dO (i:=9) (Γ:=[MB (.list L),MB (.int at'),MB (.int lim),MB (.int many),some ⟨.lst .leaf,.list (X++[.int (lJ c 0 2)])⟩,some ⟨.lst .leaf,.list (v++[.list M])⟩,some ⟨.lst .leaf,.list u⟩,MB (.int (r:Nat)),MB (.int c),x9,none,none]) (c6 _ rfl rfl rfl) rfl (by simp)
 have t:aG ag (aj bf (ab 9) (aY .leaf af)) [MB (.list L),MB (.int at'),MB (.int lim),MB (.int many),some ⟨.lst .leaf,.list (X++[.int (lJ c 0 2)])⟩,some ⟨.lst .leaf,.list (v++[.list M])⟩,some ⟨.lst .leaf,.list u⟩,MB (.int (r:Nat)),MB (.int c),MB (.list (o.map .int)),none,none]
   = .ok (decide ((o.map PyData.int).length=0)) _:=cD (aB (az rfl) (ma (s:=.leaf) aq rfl rfl rfl) (C3 (DU DX)))
 cases U:decide ((o.map PyData.int).length=0)with
 |true=>
  rw[U]at t;obtain⟨o',l,s',y8,y9,f1,q⟩:=fin _ [lJ c (4+many) many] ⟨by simp,by simp,λt A=>by rw[List.mem_singleton.mp A];exact wJ (by omega) (by omega) (by omega) (by omega),List.pairwise_singleton _ _⟩ rfl
  exact⟨o',l,s',y8,y9,ay N (ay R (ay I (ay w (ay (aT t (λ_=>dO (ma (s:=.leaf) (aE (dE (aE (az rfl) (aE (aB aO (az rfl) uu) (aE (az rfl) aq))) (Gx (by omega) (by omega) (by omega) (by omega)) rfl rfl) aq) rfl rfl rfl) rfl (by simp)) nofun) f1)))),q⟩
 |false=>
  rw[U]at t;obtain⟨o',l,s',y8,y9,f1,q⟩:=fin _ o ⟨by omega,(λz=>by rw[z]at U;cases U),(λt A=>by have:=hts1 t A;omega),hts2⟩ rfl
  exact⟨o',l,s',y8,y9,ay N (ay R (ay I (ay w (ay (aT t nofun (λ_=>rfl)) f1)))),q⟩
noncomputable abbrev W3:Sh:=.tup [.lst .leaf,.lst .leaf,.lst .leaf]
noncomputable abbrev nH(X v u:List D):D:=.tuple [.list X,.list v,.list u]
theorem tQ(F:gL L)(Z:0<=at')(S:1<=lim)(h:lim<=24):∃(n:Nat)(X v u:List D),m__law_world [.list L,.int at',.int lim]=.ok ⟨W3,nH X v u⟩/\Gw (n:Int) n X v u/\1<=n/\(n:Int)<=lim:=by
 obtain⟨c,J⟩:=DC F (k:=at') Z
 have w:0<=c % lim:=Int.emod_nonneg _ (by omega)
 have H:c % lim<lim:=Int.emod_lt_of_pos _ (by omega)
 generalize o:1+c % lim=many at *
 have U:aA false 3 (aj aQ (eK (.int 1)) (aj bj (ai 2 aD (ae (ab 0) (ae (ab 1) af))) (ab 2))) [MB (.list L),MB (.int at'),MB (.int lim),none,none,none,none,none,none,none,none,none]
   = .nx [MB (.list L),MB (.int at'),MB (.int lim),MB (.int many),none,none,none,none,none,none,none,none]:=by
  rw[<-o];exact dO (aB aO (aB (dE (aE (az rfl) (aE (az rfl) aq)) J rfl rfl) (az rfl) (cH (by omega))) uu) rfl (by simp)
 obtain⟨N,e,X,v,u,f,x8,x9,K,j⟩:=IH (P:=λn C=>∃X v u f x8 x9,C=[MB (.list L),MB (.int at'),MB (.int lim),MB (.int many),some ⟨.lst .leaf,.list X⟩,some ⟨.lst .leaf,.list v⟩,some ⟨.lst .leaf,.list u⟩,f,x8,x9,none,none]/\Gw many n X v u) (i:=7) (body:=eW) (b9 0 many.toNat) 0
  [MB (.list L),MB (.int at'),MB (.int lim),MB (.int many),some ⟨.lst .leaf,.list []⟩,some ⟨.lst .leaf,.list []⟩,some ⟨.lst .leaf,.list []⟩,none,none,none,none,none] ⟨[],[],[],none,none,none,rfl,rfl,rfl,rfl,λa Z=>(nomatch Z),λa Z=>(nomatch Z),λa Z=>(nomatch Z)⟩ (λm d C y Y M ⟨X,v,u,f,x8,x9,K,j⟩=>by
   subst K;obtain⟨k,G,rfl⟩:=Aa y;rw[Dz]at M;rw[Int.zero_add];obtain⟨B,z,x,b,l,t,q⟩:=qR (at':=at') (lim:=lim) (many:=many) (x8:=x8) (x9:=x9) F Z (by omega) (by omega) j (by omega) (r:=k)
   exact⟨by simp,_,t,B,z,x,_,b,l,rfl,q⟩)
 subst K;rw[Dz,Nat.zero_add]at j;have g:((many.toNat:Nat):Int)=many:=by omega
 refine⟨many.toNat,X,v,u,aV (ay U (ay (DR (ma (s:=.leaf) aq rfl rfl rfl) rfl (by simp)) (ay (DR (ma (s:=.leaf) aq rfl rfl rfl) rfl (by simp)) (ay (DR (ma (s:=.leaf) aq rfl rfl rfl) rfl (by simp)) (ay (gU (kq (k:=many) (aE (az rfl) aq) rfl (by omega) (by omega)) e) (aS (cZ (aE (DQ (p:=⟨.lst .leaf,.list X⟩) rfl) (aE (DQ (p:=⟨.lst .leaf,.list v⟩) rfl) (aE (DQ (p:=⟨.lst .leaf,.list u⟩) rfl) aq))) rfl rfl) rfl)))))),by rw[g];exact j,by omega,by omega⟩
theorem Ap{n:Nat}{Γ:Ev}(h:g (av n X)=.nx Γ):aI n g X=.ok ⟨.leaf,.none⟩:=by unfold aI;rw[h]
theorem uG{L:F1}{p:PV}{c:String}{b:Bool}(Z:L C=.ok p I)(U:kH (um p.d) c=b):fm c L C=.ok ⟨.leaf,.bool b⟩ I:=by
 unfold fm aZ;rw[Z];simp only[Out.bind,U]
theorem v_not{L:F1}{s:Sh}{b:Bool}(Z:L C=.ok ⟨s,.bool b⟩ I):iq L C=.ok ⟨.leaf,.bool (!b)⟩ I:=by
 unfold iq aZ;rw[Z];rfl
theorem rf{L:F1}{p:PV}(h:L C=.ok p I):fH L C=.nx I:=by unfold fH jv;rw[h]
theorem tW{b:Nat}{v u:List D}(h:Wk b X v u)(U:b<=100)(a:isW X v u=true):bu [nH X v u]=.ok ⟨.leaf,.none⟩:=by
 have t:dv (aG bH (ai 3 eZ (ae (ah (ab 0) (eK (.int 0))) (ae (ah (ab 0) (eK (.int 1))) (ae (ah (ab 0) (eK (.int 2))) af))))) [MB (nH X v u)]=.ok (!(isW X v u)) [MB (nH X v u)]:=
  lU (dk (dE (aE (js (j:=0) (az rfl) aO rfl rfl rfl) (aE (js (j:=1) (az rfl) aO rfl rfl rfl) (aE (js (j:=2) (az rfl) aO rfl rfl rfl) aq))) (mP h U) rfl rfl))
 rw[a]at t;exact Ap (aT t nofun (λ_=>rfl))
theorem wA{d:D}(h:shaped d=true):bf d d=some (.bool true):=by
 unfold bf;rw[h,Bool.and_self,if_pos rfl,PySem.SeqAt.eqv_refl _ (canLay_of_shaped h)]
noncomputable def dl(S:List (List Int)):List D:=S.map λo=>.list (o.map .int)
theorem v9{i:Int}:bx false (.int i) (.list (ts.map .int))=some (.bool (ts.contains i)):=by
 unfold bx;simp only[xw,DU DX,Bool.and_self,if_true]
 congr 2
 rw[Bool.eq_iff_iff];simp only[Bool.false_eq_true,if_false,any_eq_true,mem_map,contains_iff_mem]
 constructor
 .rintro⟨d,⟨t,A,rfl⟩,e⟩
  rw[PyData.eqv]at e;have:t=i:=by simpa using e
  rw[<-this];exact A
 .intro h
  exact⟨.int i,⟨i,h,rfl⟩,by rw[PyData.eqv];simp⟩
theorem FX(h:gL L):PyData.canLayAll0 L=true/\PyData.depthAll L=0:=by
 induction L with
 |nil=>exact⟨rfl,rfl⟩
 |cons a r B=>
  obtain⟨n,rfl⟩:=h a mem_cons_self;have q:=B λx F=>h x (Ms _ F)
  simp[PyData.canLayAll0,PyData.canLay0,PyData.depthAll,PyData.depth,q.1,q.2]
theorem KF(h:kh L):PyData.canLayAll0 L=true/\PyData.depthAll L=0:=by
 induction L with
 |nil=>exact⟨rfl,rfl⟩
 |cons a r B=>
  obtain⟨n,rfl,j⟩:=h a mem_cons_self;have q:=B λx F=>h x (Ms _ F)
  simp[PyData.canLayAll0,PyData.canLay0,PyData.depthAll,PyData.depth,q.1,q.2,j]
theorem se{v:List D}(h:∀r∈v,∃L,r=.list L/\PyData.canLayAll0 L=true/\PyData.depthAll L=0):PyData.canLayAll0 v=true/\PyData.depthAll v<=1:=by
 induction v with
 |nil=>exact⟨rfl,Nat.zero_le _⟩
 |cons a r B=>
  obtain⟨L,rfl,Y,M⟩:=h a mem_cons_self;have q:=B λx F=>h x (Ms _ F)
  refine⟨by simp[PyData.canLayAll0,PyData.canLay0,q.1,Y],?_⟩
  rw[PyData.depthAll,PyData.depth,M];exact Nat.max_le.mpr ⟨by omega,q.2⟩
noncomputable def has(x:Str)(d:D):Bool:=match d with
 |.list L=>L.any λy=>PyData.eqv y (.str x)
 |_=>false
theorem CN(F:PyData.strOk x=true)(h:kh L):bx false (.str x) (.list L)=some (.bool (has x (.list L))):=by
 unfold bx;simp only[uV F,xX h,Bool.and_self,if_true]
 rfl
theorem tu{i:Int}:bx true (.int i) (.list (ts.map .int))=some (.bool (!ts.contains i)):=by
 have h:=v9 (ts:=ts) (i:=i)
 unfold bx at h ⊢
 simp only[xw,DU DX,Bool.and_self,if_true,Bool.false_eq_true,if_false]at h ⊢
 have h:=Option.some.inj h
 injection h with h
 rw[h]
end KC
namespace T
open PySem PySem.Spec L2
open PyProof.Rows hiding St
variable{X:List D}{fi:FI}{fe:F1}{Γ:Ev}
section
variable{Γ Γ1:Ev}{fa fb fc:F1}{fl:FL}{p:PV}{i n:Nat}{ga gb:FB}{g1 g2:FS}
@[simp] theorem JS:sizeLine=16777216:=rfl
@[simp] theorem sy{u E:Type}{a:u}{e:Ev}{k:u->Ev->Out E}:(Out.ok a e).bind k=k a e:=rfl
@[simp] theorem r_k{d:D}:eK d Γ=.ok ⟨.leaf,d⟩ Γ:=rfl
@[simp] theorem Lj:af Γ=.ok [] Γ:=rfl
@[simp] theorem JL:aM Γ=.ok true Γ:=rfl
@[simp] theorem JP:aH Γ=.nx Γ:=rfl
@[simp] theorem Kc:ae fa fl Γ=(fa Γ).bind λp Γ1=>(fl Γ1).bind λJ S=>.ok (p::J) S:=rfl
@[simp] theorem BP{g:D->D->Option D}:aj g fa fb Γ=(fa Γ).bind λp Γ1=>(fb Γ1).bind λq S=>match g p.d q.d with|some d=>.ok ⟨.leaf,d⟩ S|none=>.no:=rfl
@[simp] theorem LR{g:List D->Option D}:bp g fl Γ=(fl Γ).bind λJ N=>match g (J.map (·.d))with|some d=>.ok ⟨.leaf,d⟩ N|none=>.no:=rfl
@[simp] theorem EK{g:D->Option Bool}:aG g fa Γ=(fa Γ).bind λp N=>match g p.d with|some b=>.ok b N|none=>.no:=rfl
@[simp] theorem Kf:dv ga Γ=(ga Γ).bind λc N=>.ok (!c) N:=rfl
@[simp] theorem Kg:dw ga gb Γ=(ga Γ).bind λc N=>if c then gb N else .ok false N:=rfl
@[simp] theorem Lp:fF ga gb Γ=(ga Γ).bind λc N=>if c then .ok true N else gb N:=rfl
@[simp] theorem EJ:kJ ga fa fb Γ=(ga Γ).bind λb N=>if b then fa N else fb N:=rfl
@[simp] theorem BQ:cV fa fb Γ=(fa Γ).bind λp Γ=>match p.d with|.bool true=>fb Γ|.bool false=>.ok ⟨.leaf,.bool false⟩ Γ|_=>.no:=rfl
@[simp] theorem Ka:iq fa Γ=(fa Γ).bind λp Γ=>match p.d with|.bool b=>.ok ⟨.leaf,.bool (!b)⟩ Γ|_=>.no:=rfl
@[simp] theorem fI:ao g1 g2 Γ=match g1 Γ with|.nx N=>g2 N|.rt p=>.rt p|.bk N=>.bk N|.ct N=>.ct N|.er c N=>.er c N|.no=>.no:=by
 unfold ao
 cases g1 Γ<;>rfl
@[simp] theorem vn{k:PV->Ev->gj}:jv fa k Γ=match fa Γ with|.ok p Γ1=>k p Γ1|.er c Γ1=>.er c Γ1|.no=>.no:=by
 unfold jv
 cases fa Γ<;>rfl
@[simp] theorem JX:bY ga g1 g2 Γ=match ga Γ with|.ok b Γ1=>if b then g1 Γ1 else g2 Γ1|.er c Γ1=>.er c Γ1|.no=>.no:=by
 unfold bY
 cases ga Γ<;>rfl
@[simp] theorem Hy{b:Bool}:ag (.bool b)=some b:=rfl
@[simp] theorem J0{b:Bool}:bH (.bool b)=some b:=rfl
@[simp] theorem Hv{L:List D}:bH (.list L)=some (!L.isEmpty):=rfl
noncomputable def HD(p:PV):PV:=match p.s with
 |.leaf=>p
 |_=>⟨.view,p.d⟩
@[simp] theorem vm{d:D}:HD ⟨.leaf,d⟩=⟨.leaf,d⟩:=rfl
@[simp] theorem Lf{s:Sh}{d:D}:HD ⟨.lst s,d⟩=⟨.view,d⟩:=rfl
@[simp] theorem Le{s:List Sh}{d:D}:HD ⟨.tup s,d⟩=⟨.view,d⟩:=rfl
@[simp] theorem nZ:ab i Γ=match Γ[i]? with|some (some p)=>.ok (HD p) Γ|_=>.no:=by
 unfold ab
 cases h:Γ[i]? with
 |none=>rfl
 |some o=>
  cases o with
  |none=>rfl
  |some p=>
   obtain⟨s,d⟩:=p
   cases s<;>rfl
@[simp] theorem JQ:cC i Γ=match Γ[i]? with|some (some p)=>.ok p (Γ.set i none)|_=>.no:=rfl
@[simp] theorem Kd{d:D}:coer .leaf ⟨.leaf,d⟩=true:=rfl
@[simp] theorem HA{s:Sh}{d:D}:coer .leaf ⟨.lst s,d⟩=true:=rfl
@[simp] theorem Hz{s:List Sh}{d:D}:coer .leaf ⟨.tup s,d⟩=true:=rfl
@[simp] theorem HB{i:Int}{s:Sh}:coer .leaf ⟨s,.int i⟩=true:=by cases s<;>rfl
@[simp] theorem HC{b:Bool}{s:Sh}:coer .leaf ⟨s,.bool b⟩=true:=by cases s<;>rfl
@[simp] theorem JW:Sh.isView .leaf=false:=rfl
@[simp] theorem JV{s:Sh}:Sh.isView (.lst s)=false:=rfl
@[simp] theorem JU{s:List Sh}:Sh.isView (.tup s)=false:=rfl
@[simp] theorem oa{own:Bool}:aA own i fa Γ=match fa Γ with|.ok p Γ1=>(if i<Γ1.length then(if own&&!p.s.isView then .nx (Γ1.set i (some p))else if T.coer .leaf p then .nx (Γ1.set i (some ⟨.leaf,p.d⟩))else .no)else .no)|.er c Γ1=>.er c Γ1|.no=>.no:=by
 unfold aA;rw[vn]
@[simp] theorem An:aJ fa Γ=match fa Γ with|.ok p Γ1=>(if p.s.isView then(if bU p.d then .rt ⟨.leaf,p.d⟩else .no)else .rt p)|.er c Γ1=>.er c Γ1|.no=>.no:=by
 unfold aJ;rw[vn]
@[simp] theorem Kb:fH fa Γ=match fa Γ with|.ok p Γ1=>.nx Γ1|.er c Γ1=>.er c Γ1|.no=>.no:=by
 unfold fH;rw[vn]
@[simp] theorem Ke{w:List D->Res}:ai n w fl Γ=(fl Γ).bind λJ N=>if J.length=n then(match w (J.map (·.d))with|.ok p=>if J.all (T.coer .leaf)then .ok p N else if bU p.d then .ok ⟨.leaf,p.d⟩ N else .ok ⟨.view,p.d⟩ N|_=>.no)else .no:=rfl
@[simp] theorem J8{a b:Int}:aQ (.int a) (.int b)=some (.int (a+b)):=rfl
@[simp] theorem J6{a b:Int}:gSub (.int a) (.int b)=some (.int (a-b)):=rfl
@[simp] theorem Lo{a b:Int}:iN (.int a) (.int b)=some (.bool (decide (a<b))):=rfl
@[simp] theorem EH{a b:Int}:gO (.int a) (.int b)=some (.bool (decide (b<a))):=rfl
@[simp] theorem J7:aK [.list X]=some (.int X.length):=rfl
@[simp] theorem Hw:aK [.tuple X]=some (.int X.length):=rfl
noncomputable def oR(p q:PV):Ev->Out PV:=ah (λΓ=>.ok p Γ) (λΓ=>.ok q Γ)
@[simp] theorem Ao:ah fa fb Γ=(fa Γ).bind λp Γ1=>(fb Γ1).bind λq S=>oR p q S:=by
 unfold oR ah aZ
 cases fa Γ with
 |ok p Γ1=>simp only[sy]
 |er c Γ1=>rfl
 |no=>rfl
@[simp] theorem EG{k:Int}{s:Sh}:oR ⟨.leaf,.tuple X⟩ ⟨s,.int k⟩ Γ=match fy X k with|some d=>.ok ⟨.leaf,d⟩ Γ|none=>.no:=by
 unfold oR ah aZ fy;simp only[sy]
 cases h:fQ X.length k with
 |none=>rfl
 |some j=>
  simp only[Option.bind_some]
  cases M:X[j]? with
  |none=>rfl
  |some d=>rfl
@[simp] theorem Ln{k:Int}{s:Sh}:oR ⟨.leaf,.list X⟩ ⟨s,.int k⟩ Γ=match fy X k with|some d=>.ok ⟨.leaf,d⟩ Γ|none=>.no:=by
 unfold oR ah aZ fy;simp only[sy]
 cases h:fQ X.length k with
 |none=>rfl
 |some j=>
  simp only[Option.bind_some]
  cases M:X[j]? with
  |none=>rfl
  |some d=>rfl
@[simp] theorem Lm{k:Int}{s:Sh}:oR ⟨.view,.list X⟩ ⟨s,.int k⟩ Γ=match fy X k with|some d=>.ok ⟨if bU d then .leaf else .view,d⟩ Γ|none=>.no:=by
 unfold oR ah aZ fy;simp only[sy]
 cases h:fQ X.length k with
 |none=>rfl
 |some j=>
  simp only[Option.bind_some]
  cases M:X[j]? with
  |none=>rfl
  |some d=>rfl
@[simp] theorem EL{u:Type}{a:u}{r:List u}:fy (a::r) 0=some a:=by
 simp[fy,fQ]
@[simp] theorem Ls{u:Type}{a b:u}{r:List u}:fy (a::b::r) 1=some b:=by
 have:(1:Int)<(r.length:Int)+1+1:=by omega
 simp[fy,fQ,this]
@[simp] theorem Lr{u:Type}{a b c:u}{r:List u}:fy (a::b::c::r) 2=some c:=by
 have:(2:Int)<(r.length:Int)+1+1+1:=by omega
 simp[fy,fQ,this]
theorem Dr{u:Type}{L:List u}{k:Nat}{x:u}(h:L[k]?=some x):fy L (k:Int)=some x:=by
 have G:=(Mv h).1
 have:(k:Int)<(L.length:Int):=by omega
 simp[fy,fQ,this,h]
end
section
variable{Γ:Ev}{fa fb:F1}{i:Nat}
@[simp] theorem Lk{c:String}:fm c fa Γ=(fa Γ).bind λp Γ=>.ok ⟨.leaf,.bool (kH (um p.d) c)⟩ Γ:=rfl
@[simp] theorem JR{s:Sh}{d:FL}:aY s d Γ=(d Γ).bind λJ N=>if !s.isView&&J.all (T.coer s)&&decide (J.length<=sizeLine)then .ok ⟨.lst s,.list (J.map (·.d))⟩ N else .no:=rfl
@[simp] theorem Lc{d:FL}:b4 d Γ=(d Γ).bind λJ N=>if J.all tok&&decide (J.length<=sizeLine)then .ok ⟨.tup (J.map Ag),.tuple (J.map (·.d))⟩ N else .no:=rfl
@[simp] theorem JO{d:D}:tok ⟨.leaf,d⟩=true:=rfl
@[simp] theorem JN{s:Sh}{d:D}:tok ⟨.lst s,d⟩=true:=rfl
@[simp] theorem JM{s:List Sh}{d:D}:tok ⟨.tup s,d⟩=true:=rfl
@[simp] theorem EF{a:D}:bJ false a .none=some (.bool (bW a)):=rfl
@[simp] theorem JT{a:D}:bJ true a .none=some (.bool (!bW a)):=rfl
@[simp] theorem Ld:jZ fa fb Γ=(fa Γ).bind λp I=>(fb I).bind λq S=>match p.d,q.d with|.tuple xs,.int k=>if !p.s.isView&&decide (1<=k)&&decide (k<=xs.length)then .ok ⟨.leaf,.tuple (xs.drop k.toNat)⟩ S else .no|_,_=>.no:=rfl
@[simp] theorem Ll{l:Bool}{m:List (Str×Int)}:wG l m fa Γ=(fa Γ).bind λp Γ=>match p.d with|.str k=>.ok ⟨.leaf,.bool (if l then !(cK k m).isSome else(cK k m).isSome)⟩ Γ|_=>.no:=rfl
@[simp] theorem JZ{m:List (Str×Int)}:rY m fa Γ=(fa Γ).bind λp Γ=>match p.d with|.str k=>(match cK k m with|some i=>.ok ⟨.leaf,.int i⟩ Γ|none=>.no)|_=>.no:=rfl
@[simp] theorem JY:eG fa Γ=(fa Γ).bind λp N=>match p.d with|.tuple X=>if aF p X then .ok ⟨X,!p.s.isView⟩ N else .no|_=>.no:=rfl
@[simp] theorem vo:aP fa Γ=(fa Γ).bind λp N=>match p.d with|.list X=>if aF p X then .ok ⟨X,!p.s.isView⟩ N else .no|_=>.no:=rfl
@[simp] theorem Li{d:D}:aF ⟨.leaf,d⟩ X=true:=rfl
@[simp] theorem Lh{s:Sh}{d:D}:aF ⟨.lst s,d⟩ X=true:=rfl
@[simp] theorem Lg{s:List Sh}{d:D}:aF ⟨.tup s,d⟩ X=true:=rfl
@[simp] theorem Lq{f:F1}:iV i f Γ=match Γ[i]? with|some (some ⟨.leaf,.int a⟩)=>jv f (wY i a) Γ|_=>.no:=rfl
@[simp] theorem Kh{a b:Int}{s:Sh}:wY i a ⟨s,.int b⟩ Γ=if i<Γ.length then .nx (Γ.set i (MB (.int (a+b))))else .no:=rfl
theorem EI{f:F1}{p:PV}{ds es:List D}(h:Γ[i]?=some (some ⟨.lst .leaf,.list ds⟩))(g:f Γ=.ok p Γ)(C:p.d=.tuple es)(K:p.s.isView=false)(j:ds.length+es.length<=10000):mw i f Γ=.nx (Γ.set i (some ⟨.lst .leaf,.list (ds++es)⟩)):=by
 have U:(10000:Nat)<=sizeLine:=by decide
 obtain⟨s,d⟩:=p;simp only at C K
 subst C;unfold mw dD;rw[h];simp only[if_true,vn,g]
 unfold C1 aF;rw[h];have:ds.length+es.length<=sizeLine:=by omega
 simp only[K,Bool.not_false,Bool.true_or,decide_eq_true this,Bool.and_self,if_true]
theorem nk{E:Type}{c:FB}{g:FS}{G:E->Ev}{test:E->Bool}{step:E->E}{Inv:E->Prop}{meas:E->Nat}(J:∀b,Inv b->c (G b)=.ok (test b) (G b))(C:∀b,Inv b->test b=true->g (G b)=.nx (G (step b))/\Inv (step b)/\meas (step b)<meas b):∀(N:Nat)(b:E),Inv b->meas b<N->∃u,cj c g N (G b)=.nx (G u)/\Inv u/\test u=false
 |0,b,_,h=>by omega
 |N+1,b,hi,hm=>by
  rw[cj,J b hi]
  cases A:test b with
  |false=>exact⟨b,rfl,hi,A⟩
  |true=>
   obtain⟨Y,M,P⟩:=C b hi A;obtain⟨u,e,q⟩:=nk J C N (step b) M (by omega)
   refine⟨u,?_,q⟩
   simp only[Y]
   exact e
theorem kW{E:Type}{c:FB}{g:FS}{G:E->Ev}{test:E->Bool}{Inv:E->Prop}{meas:E->Nat}(J:∀b,Inv b->c (G b)=.ok (test b) (G b))(C:∀b,Inv b->test b=true->∃u,g (G b)=.nx (G u)/\Inv u/\meas u<meas b):∀(N:Nat)(b:E),Inv b->meas b<N->∃u,cj c g N (G b)=.nx (G u)/\Inv u/\test u=false
 |0,b,_,h=>by omega
 |N+1,b,hi,hm=>by
  rw[cj,J b hi]
  cases A:test b with
  |false=>exact⟨b,rfl,hi,A⟩
  |true=>
   obtain⟨H,Y,M,P⟩:=C b hi A;obtain⟨u,e,q⟩:=kW J C N H M (by omega)
   refine⟨u,?_,q⟩
   simp only[Y]
   exact e
theorem Ib{L:F1}{p:PV}(K:Γ[i]?=some (some ⟨.lst .leaf,.list X⟩))(h:L Γ=.ok p Γ)(J:coer .leaf p=true)(j:X.length<=9000):aN i L Γ=.nx (Γ.set i (some ⟨.lst .leaf,.list (X++[p.d])⟩)):=by
 have U:(10000:Nat)<=sizeLine:=by decide
 unfold aN iM;rw[K];simp only[if_true,vn,h]
 unfold zQ;rw[K];have:X.length<sizeLine:=by omega
 simp only[J,decide_eq_true this,Bool.and_self,if_true]
end
theorem IT{u:Type}{g:u->D}{i:Nat}{v:FB}{m:F1}{s:Sh}{c:u->Bool}{f:u->PV}{C:Ev}(K:C.set i none=C):∀(r:List u)(acc:List D),(∀x∈r,v (C.set i (MB (g x)))=.ok (c x) (C.set i (MB (g x)))) ->
  (∀x∈r,c x=true->m (C.set i (MB (g x)))=.ok (f x) (C.set i (MB (g x)))/\coer s (f x)=true)->acc.length+r.length<=sizeLine->cW i v m s (r.map g) C acc=.ok (acc++((r.filter c).map λx=>(f x).d)) C
 |[],acc,_,_,_=>by simp[cW]
 |x::r,acc,hc,he,hl=>by
  have Y:=hc x mem_cons_self
  have b:acc.length<sizeLine:=by simp only[length_cons]at hl;omega
  have a:(C.set i (MB (g x))).set i none=C:=by rw[set_set];exact K
  rw[map_cons,cW,Y]
  cases z:c x with
  |false=>
   dsimp only;rw[if_pos b,a,IT K r acc (λd y=>hc d (Ms _ y)) (λd y=>he d (Ms _ y)) (by simp only[length_cons]at hl;omega)]
   rw[List.filter_cons_of_neg (by rw[z];exact Bool.false_ne_true)]
  |true=>
   obtain⟨M,P⟩:=he x mem_cons_self z;dsimp only;rw[M];dsimp only;rw[P,decide_eq_true b,Bool.and_self,if_pos rfl,a,IT K r (acc++[(f x).d]) (λd y=>hc d (Ms _ y)) (λd y=>he d (Ms _ y)) (by simp only[length_cons,length_append,List.length_nil]at hl ⊢;omega)]
   rw[List.filter_cons_of_pos z,map_cons,append_assoc];rfl
theorem ui{u:Type}(g:u->D)(L:List u)(c:u->Bool)(f:u->PV){s:Sh}{i:Nat}{fc:FB}{st:Bool}(l:fi Γ=.ok ⟨L.map g,st⟩ Γ)(S:i<Γ.length)(P:s.isView=false)(j:L.length<=10000)(J:∀x∈L,fc (Γ.set i (MB (g x)))=.ok (c x) (Γ.set i (MB (g x))))(R:∀x∈L,c x=true->fe (Γ.set i (MB (g x)))=.ok (f x) (Γ.set i (MB (g x)))/\coer s (f x)=true):aw s i fi fc fe Γ=.ok ⟨.lst s,.list ((L.filter c).map λx=>(f x).d)⟩ Γ:=by
 have U:(10000:Nat)<=sizeLine:=by decide
 unfold aw;rw[l];unfold Out.bind;dsimp only;rw[IT (c:=c) (f:=f) (by rw[set_set]) L [] (λd y=>by rw[set_set];exact J d y) (λd y=>by rw[set_set];exact R d y) (by simp;omega)]
 dsimp only;rw[P,decide_eq_true S];simp only[Bool.not_false,Bool.and_self,if_true,nil_append,set_set]
 have:Γ.set i (Γ.getD i none)=Γ:=by
  apply DE
  rw[Mr,Mq S];rfl
 rw[this]
theorem nc{u:Type}(g:u->D)(L:List u)(f:u->PV){s:Sh}{i:Nat}{st:Bool}(l:fi Γ=.ok ⟨L.map g,st⟩ Γ)(S:i<Γ.length)(P:s.isView=false)(j:L.length<=10000)(R:∀x∈L,fe (Γ.set i (MB (g x)))=.ok (f x) (Γ.set i (MB (g x)))/\coer s (f x)=true):aw s i fi aM fe Γ=.ok ⟨.lst s,.list (L.map λx=>(f x).d)⟩ Γ:=by
 rw[ui (fc:=aM) g L (λ_=>true) f l S P j (λ_ _=>rfl) λx F _=>R x F,List.filter_eq_self.mpr λ_ _=>rfl]
theorem GO{u E:Type}(g:u->D)(step:E->u->E){Inv:E->List u->Prop}{i:Nat}{body:FS}{G:E->Option PV->Ev}(l:∀b x,i<(G b x).length)(c:∀b x y,(G b x).set i y=G b y)(U:∀b a r,Inv b (a::r)->body (G b (MB (g a)))=.nx (G (step b a) (MB (g a)))/\Inv (step b a) r):∀(L:List u)(b:E)(x:Option PV),Inv b L->∃y,bV i body (L.map g) (G b x)=.nx (G (L.foldl step b) y)/\Inv (L.foldl step b) []
 |[],b,x,h=>⟨x,rfl,h⟩
 |a::r,b,x,h=>by
  obtain⟨Y,M⟩:=U b a r h;obtain⟨y,e,P⟩:=GO g step l c U r (step b a) (MB (g a)) M
  refine⟨y,?_,P⟩
  rw[map_cons,bV,if_pos (l b x),c,Y];exact e
end T
namespace KC
open PySem PySem.Spec L2 T PySem.SeqAt
open PyProof.Rows hiding St
noncomputable abbrev rm(t:Nat):D:=.int (t:Int)
noncomputable abbrev aR(r:List Nat):D:=.list (r.map rm)
theorem DA{n:Nat}:b9 0 n=(List.range n).map rm:=by
 unfold b9;simp
theorem uh{t:Nat}{r:List Nat}:bx false (rm t) (aR r)=some (.bool (r.contains t)):=by
 have h:=v9 (ts:=r.map λt:Nat=>(t:Int)) (i:=t)
 rw[map_map]at h;refine h.trans ?_
 congr 2
 rw[Bool.eq_iff_iff,contains_iff_mem,contains_iff_mem,mem_map];exact⟨λ⟨a,Y,M⟩=>by rw[<-Int.ofNat_inj.mp M];exact Y,λh=>⟨t,h,rfl⟩⟩
theorem D0{t:Nat}{r:List Nat}:bx true (rm t) (aR r)=some (.bool (!r.contains t)):=by
 have h:=tu (ts:=r.map λt:Nat=>(t:Int)) (i:=t)
 rw[map_map]at h;refine h.trans ?_
 congr 3
 rw[Bool.eq_iff_iff,contains_iff_mem,contains_iff_mem,mem_map];exact⟨λ⟨a,Y,M⟩=>by rw[<-Int.ofNat_inj.mp M];exact Y,λh=>⟨t,h,rfl⟩⟩
structure Wd where
 n:Nat
 os:List D
 m:List (List Str)
 s:List (List Nat)
noncomputable def uI(r:List Str):D:=.list (r.map .str)
noncomputable def Wd.enc(w:Wd):D:=nH w.os (w.m.map uI) (w.s.map aR)
structure Wd.Ok(w:Wd):Prop where
 g:Gw (w.n:Int) w.n w.os (w.m.map uI) (w.s.map aR)
 h1:1<=w.n
 h24:w.n<=24
 lm:w.m.length=w.n
 ls:w.s.length=w.n
 st:∀r∈w.s,r≠[]/\r.length<=30/\∀t∈r,t<w.n
 mc:∀r∈w.m,∀c∈r,PyData.strOk c=true
noncomputable def Wd.stp(w:Wd)(r:Nat):List Nat:=w.s.getD r []
noncomputable def Wd.mks(w:Wd)(r:Nat):List Str:=w.m.getD r []
theorem Wd.Ok.at2{w:Wd}(h:w.Ok){r:Nat}(m:r<w.n):fy (w.s.map aR) (r:Int)=some (aR (w.stp r)):=by
 refine Dr ?_
 unfold Wd.stp;rw[getElem?_map,Mr,Mq (by rw[h.ls];exact m)]
 rfl
theorem Wd.Ok.at1{w:Wd}(h:w.Ok){r:Nat}(m:r<w.n):fy (w.m.map uI) (r:Int)=some (uI (w.mks r)):=by
 refine Dr ?_
 unfold Wd.mks;rw[getElem?_map,Mr,Mq (by rw[h.lm];exact m)]
 rfl
theorem Wd.Ok.stp_lt{w:Wd}(h:w.Ok){r t:Nat}(A:t∈w.stp r):t<w.n:=by
 unfold Wd.stp at A;rw[Mr]at A
 cases e:w.s[r]? with
 |none=>rw[e]at A;simp at A
 |some x=>rw[e]at A;exact(h.st x (mem_of_getElem? e)).2.2 t A
theorem Wd.Ok.stp_ne{w:Wd}(h:w.Ok){r:Nat}(m:r<w.n):w.stp r≠[]:=by
 unfold Wd.stp;rw[Mr,Mq (by rw[h.ls];exact m)]
 exact(h.st _ (getElem_mem _)).1
theorem jk{w:Wd}(h:w.Ok){r:List Nat}:cX [w.enc,aR r]=.ok ⟨.lst .leaf,aR ((List.range w.n).filter λt=>!r.contains t)⟩:=by
 have G:=h.g.lo
 have H:=h.h24
 refine aV ?_
 have e:aw .leaf 2 (gh (ae (bp aK (ae (ah (ab 0) (eK (.int 0))) af)) af)) (aG ag (aj (bx true) (ab 2) (ab 1))) (ab 2) (av 3 [w.enc,aR r])=.ok ⟨.lst .leaf,.list (((List.range w.n).filter λt=>!r.contains t).map λt=>rm t)⟩ (av 3 [w.enc,aR r]):=by
  refine ui rm (List.range w.n) (λt=>!r.contains t) (λt=>⟨.leaf,rm t⟩) (st:=true) ?_ (by simp[av]) rfl (by simp;omega) ?_ ?_
  .refine(kq (k:=(w.n:Int)) (ps:=[⟨.leaf,.int w.n⟩]) ?_ rfl (by omega) (by omega)).trans (by rw[<-DA];rfl)
   simp[av,Wd.enc,G]
  .intro t A
   simp[av,D0]
  .intro t A _
   simp[av]
 unfold gz;rw[An,e];rfl
inductive Wr where
 |yes|mark|not|sn|an|sa|aa|and|or|su|au
 deriving DecidableEq
noncomputable def Wr.t:Wr->Str
 |.yes => "yes" |.mark => "mark" |.not => "not" |.sn => "some next" |.an => "all next" |.sa => "some always" |.aa => "all always" |.and => "and" |.or => "or" |.su => "some until" |.au => "all until"
theorem fS(a b:Wr):bf (.str a.t) (.str b.t)=some (.bool (decide (a=b))):=by cases a<;>cases b<;>kernel_rfl
@[simp] theorem wz(a:Wr):bf (.str a.t) (.str "yes")=some (.bool (decide (a=.yes))):=fS a .yes
@[simp] theorem zw(a:Wr):bf (.str a.t) (.str "mark")=some (.bool (decide (a=.mark))):=fS a .mark
@[simp] theorem C2(a:Wr):bf (.str a.t) (.str "not")=some (.bool (decide (a=.not))):=fS a .not
@[simp] theorem C4(a:Wr):bf (.str a.t) (.str "and")=some (.bool (decide (a=.and))):=fS a .and
@[simp] theorem FN(a:Wr):bf (.str a.t) (.str "or")=some (.bool (decide (a=.or))):=fS a .or
@[simp] theorem CK(a:Wr):bx false (.str a.t) cB=some (.bool (decide (a=.su\/a=.au))):=by cases a<;>kernel_rfl
@[simp] theorem HI(a:Wr):bx true (.str a.t) cB=some (.bool (!decide (a=.su\/a=.au))):=by cases a<;>kernel_rfl
@[simp] theorem Kt(a:Wr):bx false (.str a.t) dg=some (.bool (decide (a=.sa\/a=.aa))):=by cases a<;>kernel_rfl
@[simp] theorem HJ(a:Wr):bx true (.str a.t) dg=some (.bool (!decide (a=.sa\/a=.aa))):=by cases a<;>kernel_rfl
noncomputable def Wr.some(a:Wr):Bool:=decide (a=.sn\/a=.su\/a=.aa)
@[simp] theorem Kr(a:Wr):bx false (.str a.t) bE=.some (.bool a.some):=by cases a<;>kernel_rfl
noncomputable def Wr.ar:Wr->Option Int
 |.yes=>Option.some 0|.mark=>none|.and=>Option.some 2|.or=>Option.some 2|.su=>Option.some 2|.au=>Option.some 2|_=>Option.some 1
@[simp] theorem HL(a:Wr):cK a.t ju=a.ar:=by cases a<;>kernel_rfl
inductive U5 where
 |not|sn|an|sa|aa
 deriving DecidableEq
inductive B4 where
 |and|or|su|au
 deriving DecidableEq
noncomputable def U5.w:U5->Wr
 |.not=>.not|.sn=>.sn|.an=>.an|.sa=>.sa|.aa=>.aa
noncomputable def B4.w:B4->Wr
 |.and=>.and|.or=>.or|.su=>.su|.au=>.au
inductive Sn where
 |yes|mk (c:Str)|un (k:U5) (a:Sn)|bi (k:B4) (a b:Sn)
 deriving DecidableEq
noncomputable def Sn.w:Sn->Wr
 |.yes=>.yes|.mk _=>.mark|.un k _=>k.w|.bi k _ _=>k.w
noncomputable def Sn.args:Sn->List Sn
 |.yes=>[]|.mk _=>[]|.un _ a=>[a]|.bi _ a b=>[a,b]
noncomputable def Sn.enc:Sn->D
 |.yes=>.tuple [.str Wr.yes.t]|.mk c=>.tuple [.str Wr.mark.t,.str c]|.un k a=>.tuple [.str k.w.t,a.enc]|.bi k a b=>.tuple [.str k.w.t,a.enc,b.enc]
noncomputable def Sn.size:Sn->Nat
 |.yes=>1|.mk _=>1|.un _ a=>a.size+1|.bi _ a b=>a.size+b.size+1
noncomputable def Sn.dep:Sn->Nat
 |.yes=>1|.mk _=>1|.un _ a=>a.dep+1|.bi _ a b=>max a.dep b.dep+1
noncomputable def ig:List Str:=["a","b","c","d","e","f"]
noncomputable def Sn.ok:Sn->Prop
 |.yes=>True|.mk c=>c∈ig|.un _ a=>a.ok|.bi _ a b=>a.ok/\b.ok
theorem Ig{c:Str}(h:c∈ig):PyData.strOk c=true/\DL (.str c)=true:=by
 unfold ig at h;simp only[mem_cons,not_mem_nil,or_false]at h
 rcases h with rfl|rfl|rfl|rfl|rfl|rfl<;>decide +kernel
noncomputable def Sn.psh:Sn->Sh
 |.mk _=>.tup []|_=>.leaf
@[simp] theorem EX(s:Sn):s.psh.isView=false:=by cases s<;>rfl
theorem IV(s:Sn):aU [s.enc]=.ok ⟨s.psh,.tuple (s.args.map Sn.enc)⟩:=by
 cases s with
 |yes=>simp[aU,aI,dN,av,Sn.enc,Sn.args,Sn.psh]
 |mk c=>simp[aU,aI,dN,av,Sn.enc,Sn.args,Sn.psh]
 |un k a=>cases k<;>simp[aU,aI,dN,av,Sn.enc,Sn.args,Sn.psh,U5.w]
 |bi k a b=>cases k<;>simp[aU,aI,dN,av,Sn.enc,Sn.args,Sn.psh,B4.w]
theorem qK{s:Sn}(h:s.ok):bQ [s.enc]=.ok ⟨.leaf,.bool true⟩:=by
 cases s with
 |yes=>simp[bQ,aI,dh,av,Sn.enc,kH,um,Wr.ar,eq_int]
 |mk c=>
  obtain⟨Y,M⟩:=Ig h;simp[bQ,aI,dh,av,Sn.enc,kH,um,Wr.ar,eq_int,wa Y,M]
 |un k a=>cases k<;>simp[bQ,aI,dh,av,Sn.enc,kH,um,Wr.ar,U5.w,eq_int]
 |bi k a b=>cases k<;>simp[bQ,aI,dh,av,Sn.enc,kH,um,Wr.ar,B4.w,eq_int]
noncomputable def gW(l:List Sn):D:=.list (l.map Sn.enc)
noncomputable def kY(l:List Sn):Nat:=(l.map Sn.size).sum
theorem Sn.size_pos(s:Sn):1<=s.size:=by cases s<;>simp[Sn.size]
theorem Sn.args_le(s:Sn):s.args.length<=2:=by cases s<;>simp[Sn.args]
theorem Sn.args_sz(s:Sn):kY s.args+1=s.size:=by cases s<;>simp[Sn.args,kY,Sn.size]
theorem yU(l:List Sn):l.length<=kY l:=by
 induction l with
 |nil=>simp[kY]
 |cons a r B=>
  have:=a.size_pos
  simp only[kY,map_cons,sum_cons,length_cons]at B ⊢
  omega
theorem xU(a b:List Sn):kY (a++b)=kY a+kY b:=by simp[kY]
theorem uR(l:List Sn):kY (l.flatMap Sn.args)+l.length=kY l:=by
 induction l with
 |nil=>simp[kY]
 |cons a r B=>
  have:=a.args_sz
  rw[List.flatMap_cons,xU];simp only[kY,map_cons,sum_cons,length_cons]at B this ⊢
  omega
noncomputable def gJ(l:List Sn):Nat:=l.foldr (λs m=>max s.dep m) 0
theorem IW(a:Sn)(r:List Sn):gJ (a::r)=max a.dep (gJ r):=rfl
theorem wL(a b:List Sn):gJ (a++b)=max (gJ a) (gJ b):=by
 induction a with
 |nil=>simp[gJ]
 |cons x r B=>rw[List.cons_append,IW,IW,B,Nat.max_assoc]
theorem Sn.dep_args(s:Sn):gJ s.args+1=s.dep:=by cases s<;>simp[Sn.args,gJ,Sn.dep]
theorem lK(l:List Sn)(h:l≠[]):gJ (l.flatMap Sn.args)+1=gJ l:=by
 induction l with
 |nil=>exact absurd rfl h
 |cons a r B=>
  have:=a.dep_args
  rw[List.flatMap_cons,wL,IW]
  cases r with
  |nil=>simp[gJ]at this ⊢;omega
  |cons b t=>
   have:=B (by simp)
   omega
theorem kL{l:List Sn}(j:l.length<=1000):cI [gW l]=.ok ⟨.lst .leaf,gW (l.flatMap Sn.args)⟩:=by
 obtain⟨y,e,_⟩:=GO Sn.enc (λ(b:List Sn) a=>b++a.args) (Inv:=λb r=>b.length+2*r.length<=2000) (i:=2) (body:=mw 1 (ai 1 aU (ae (ab 2) af))) (G:=λb x=>[MB (gW l),some ⟨.lst .leaf,gW b⟩,x])
  (λ_ _=>by simp) (λ_ _ _=>by simp) (λb a r hI=>by
   have M:=a.args_le
   simp only[length_cons]at hI
   refine⟨?_,by simp only[length_append];omega⟩
   rw[EI (ds:=b.map Sn.enc) (es:=a.args.map Sn.enc) (p:=⟨a.psh,.tuple (a.args.map Sn.enc)⟩) rfl ?_ rfl (by simp) (by simp only[length_map];omega)]
   .simp[gW]
   .simp[IV,EX,coer]) l [] none (by simp;omega)
 have f:l.foldl (λ(b:List Sn) a=>b++a.args) []=l.flatMap Sn.args:=by
  have:∀(l:List Sn)(b:List Sn),l.foldl (λ(b:List Sn) a=>b++a.args) b=b++l.flatMap Sn.args:=by
   intro l;induction l with
   |nil=>intro b;simp
   |cons a r B=>intro b;rw[List.foldl_cons,B,List.flatMap_cons,append_assoc]
  rw[this,nil_append]
 rw[f]at e;refine aV ?_
 have R:dR 2 (aP (ab 0)) (mw 1 (ai 1 aU (ae (ab 2) af))) [MB (gW l),some ⟨.lst .leaf,gW []⟩,none]=.nx [MB (gW l),some ⟨.lst .leaf,gW (l.flatMap Sn.args)⟩,y]:=gU (cQ (ds:=l.map Sn.enc) (az rfl) rfl) e
 have N:aA true 1 (aY .leaf af) (av 3 [gW l])=.nx [MB (gW l),some ⟨.lst .leaf,gW []⟩,none]:=by simp[av,gW]
 unfold fV;rw[fI,N];simp only
 rw[fI,R];simp
structure LS where
 ls:List (List Sn)
 l:List Sn
 many:Nat
noncomputable abbrev HZ(s:Sn)(b:LS):Ev:=[MB s.enc,some ⟨.lst .leaf,.list (b.ls.map gW)⟩,MB (gW b.l),MB (.int (b.many:Int)),none]
structure LI(s:Sn)(b:LS):Prop where
 tot:(b.ls.map List.length).sum+kY b.l=s.size
 mny:b.many=(b.ls.map List.length).sum
 dep:b.ls.length+gJ b.l=s.dep
 ok:∀a∈b.l,a.ok
theorem Sn.args_ok{s:Sn}(h:s.ok):∀a∈s.args,a.ok:=by
 cases s with
 |yes=>simp[Sn.args]
 |mk c=>simp[Sn.args]
 |un k a=>simpa[Sn.args,Sn.ok]using h
 |bi k a b=>simpa[Sn.args,Sn.ok]using h
theorem wK{l:List Sn}(h:l≠[]):1<=gJ l:=by
 have:=lK l h
 omega
theorem qJ{s:Sn}(h:s.ok)(P:s.size<=200)(y:s.dep<=24):∃L:List (List Sn),fL [s.enc]=.ok ⟨.lst .leaf,.list (L.map gW)⟩/\L.length=s.dep/\(L.map List.length).sum=s.size:=by
 obtain⟨u,e,I,A⟩:=nk (c:=aG bH (ab 2)) (G:=HZ s) (test:=λb=>!b.l.isEmpty) (step:=λb=>⟨b.ls++[b.l],b.l.flatMap Sn.args,b.many+b.l.length⟩) (Inv:=LI s) (meas:=λb=>kY b.l)
  (g:=(ao (iV 3 (bp aK (ae (ab 2) af)))
  (ao (bY (fF (aG ag (aj gO (ab 3) (eK dB))) (fF (aG ag (aj bf (bp aK (ae (ab 1) af)) (eK dC))) (dv (aG bH (bp (cU false) (ae (aw .leaf 4 (aP (ab 2)) aM (ai 1 bQ (ae (ab 4) af))) af)))))) (aJ (eK .none)) aH)
  (ao (aN 1 (ab 2))
  (aA false 2 (ai 1 cI (ae (ab 2) af))))))) (λb I=>by simp[HZ,gW]) (λb I A=>by
   have B:b.l≠[]:=by intro z;rw[z]at A;simp at A
   have q:=I.tot
   have Y:=I.mny
   have N:=I.dep
   have j:=yU b.l
   have m:=wK B
   have t:=uR b.l
   have o:=lK b.l B
   have d:0<b.l.length:=List.length_pos_iff.mpr B
   refine⟨?_,⟨?_,?_,?_,?_⟩,?_⟩
   .have v:aw .leaf 4 (aP (ab 2)) aM (ai 1 bQ (ae (ab 4) af)) [MB s.enc,some ⟨.lst .leaf,.list (b.ls.map gW)⟩,MB (gW b.l),MB (.int ((b.many:Int)+b.l.length)),none]=.ok ⟨.lst .leaf,.list (b.l.map λ_=>.bool true)⟩ [MB s.enc,some ⟨.lst .leaf,.list (b.ls.map gW)⟩,MB (gW b.l),MB (.int ((b.many:Int)+b.l.length)),none]:=by
     refine nc Sn.enc b.l (λ_=>⟨.leaf,.bool true⟩) (st:=true) (by simp[gW]) (by simp) rfl (by omega) λa Z=>?_
     simp[qK (I.ok a Z)]
    have p:cU false [.list (b.l.map λ_=>.bool true)]=some (.bool true):=by
     rw[AM (f:=λ_=>true)]
     simp
    have r:¬((200:Int)<(b.many:Int)+b.l.length):=by omega
    have w:¬((b.ls.length:Int)=24):=by omega
    have n:b.ls.length<=24:=by omega
    have i:=kL (l:=b.l) (by omega)
    have k:aN 1 (ab 2) [MB s.enc,some ⟨.lst .leaf,.list (b.ls.map gW)⟩,MB (gW b.l),MB (.int ((b.many:Int)+b.l.length)),none]=.nx [MB s.enc,some ⟨.lst .leaf,.list (b.ls.map gW++[gW b.l])⟩,MB (gW b.l),MB (.int ((b.many:Int)+b.l.length)),none]:=
     Ib rfl (az rfl) rfl (by simp;omega)
    simp[HZ,gW,dB,dC]at v k i ⊢
    simp[v,p,r,w,eq_int,k,i]
   .simp only[map_append,map_cons,List.map_nil,List.sum_append,sum_cons,List.sum_nil]
    omega
   .simp only[map_append,map_cons,List.map_nil,List.sum_append,sum_cons,List.sum_nil]
    omega
   .simp only[length_append,length_cons,List.length_nil]
    omega
   .intro a Z
    obtain⟨c,J,Z⟩:=List.mem_flatMap.mp Z;exact Sn.args_ok (I.ok c J) a Z
   .show kY (b.l.flatMap Sn.args)<kY b.l
    omega) 1000 ⟨[],[s],0⟩ ⟨by simp[kY],by simp,by simp[gJ],by simpa using h⟩ (by simp[kY];omega)
 have S:u.l=[]:=by simpa using A
 refine⟨u.ls,?_,?_,?_⟩
 .refine aV ?_
  have U:HZ s ⟨[],[s],0⟩=[MB s.enc,some ⟨.lst .leaf,.list []⟩,MB (.list [s.enc]),MB (.int 0),none]:=rfl
  rw[U]at e;unfold i7;simp[av]
  unfold iI;rw[e];simp
 .have:=I.dep;rw[S]at this;simpa[gJ]using this
 .have:=I.tot;rw[S]at this;simpa[kY]using this
theorem dJ{s:Sn}(h:s.ok)(P:s.size<=200)(y:s.dep<=24):bg [s.enc]=.ok ⟨.leaf,.none⟩:=by
 obtain⟨L,e,_⟩:=qJ h P y;have R:cS [s.enc]=.ok ⟨.leaf,.list (L.map gW)⟩:=by
  refine aV ?_
  simp[eH,av,e,bW]
 refine Ap (Γ:=[MB s.enc]) ?_
 simp[eJ,av,R]
end KC
namespace KC
variable{l thr A:List Nat}{rk:List (Option Nat)}{t k:Nat}{bs cl:List Bool}{o:Option Nat}{ps:List (List Nat)}{Γ:Ev}
noncomputable def bP(rk:List (Option Nat))(t:Nat):Option Nat:=rk.getD t none
noncomputable def led(any:Bool)(l:List Nat)(P:Nat->Prop):Prop:=if any then ∃t∈l,P t else ∀t∈l,P t
theorem led_t{P:Nat->Prop}:led true l P↔∃t∈l,P t:=by unfold led;simp
theorem led_f{P:Nat->Prop}:led false l P↔∀t∈l,P t:=by unfold led;simp
theorem AR{any:Bool}{P Q:Nat->Prop}(h:led any l P)(i:∀t∈l,P t->Q t):led any l Q:=by
 cases any with
 |true=>obtain⟨t,A,C⟩:=led_t.mp h;exact led_t.mpr ⟨t,A,i t A C⟩
 |false=>exact led_f.mpr λt A=>i t A (led_f.mp h t A)
structure qW(n:Nat)(st:Nat->List Nat)(ch:Nat->Bool)(thr goal:List Nat)(rk:List (Option Nat)):Prop where
 len:rk.length=n
 g:∀r,r<n->r∈goal->bP rk r=some 0
 p:∀r k,r<n->r∉goal->bP rk r=some k->0<k/\r∈thr/\led (ch r) (st r) λt=>∃j,bP rk t=some j/\j<k
 z:∀r,r<n->bP rk r=none->r∉goal/\(r∉thr\/¬led (ch r) (st r) λt=>bP rk t≠none)
noncomputable def inn(m:Nat->List Nat)(L:List Nat)(r:Nat):List Nat:=(m r).filter λt=>L.contains t
structure KN(n:Nat)(st:Nat->List Nat)(own:Nat->Bool)(T X:Nat->Prop):Prop where
 lt:∀r,X r->r<n
 c:∀r,X r->led (own r) (st r) X
 a:∀S:Nat->Prop,(∀r,X r->T r->S r)->(∀r,X r->led (own r) (st r) (λt=>X t/\S t)->S r)->∀r,X r->S r
structure Fr{α:Type}(n:Nat)(st:Nat->List Nat)(R:Nat->Prop)(M:List α)(mk:α->Nat->Prop)(X:Nat->Prop):Prop where
 lt:∀r,X r->r<n
 sub:∀r,X r->R r
 c:∀r,X r->∃t∈st r,X t
 a:∀m∈M,∀S:Nat->Prop,(∀r,X r->mk m r->S r)->(∀r,X r->(∃t∈st r,X t/\S t)->S r)->∀r,X r->S r
noncomputable def LK(n:Nat)(L:List Nat):Prop:=∃q:Nat->Bool,L=(List.range n).filter q
open PySem PySem.Spec L2 T PySem.SeqAt
open PyProof.Rows hiding St
noncomputable def oD:Option Nat->D
 |none=>.none
 |some k=>.int (k:Int)
@[simp] theorem HH(o:Option Nat):bW (oD o)=o.isNone:=by cases o<;>rfl
@[simp] theorem HG(o:Option Nat):bU (oD o)=true:=by cases o<;>rfl
noncomputable abbrev fY(rk:List (Option Nat)):D:=.list (rk.map oD)
theorem lV(h:t<rk.length):fy (rk.map oD) (t:Int)=some (oD (bP rk t)):=by
 refine Dr ?_
 unfold bP;rw[getElem?_map,Mr,Mq h];rfl
noncomputable def cw(any:Bool)(bs:List Bool):Bool:=if any then bs.any id else bs.all id
theorem zm:cU true [.list (bs.map .bool)]=some (.bool (bs.any id)):=by
 have h:=II (any:=true) (xs:=bs) (f:=id)
 show Option.map _ (cN _)=_
 rw[show(bs.map PyData.bool)=bs.map λx=>PyData.bool (id x)from rfl,h]
 simp
theorem GS:cU false [.list (bs.map .bool)]=some (.bool (bs.all id)):=by
 have h:=II (any:=true) (xs:=bs) (f:=id)
 show Option.map _ (cN _)=_
 rw[show(bs.map PyData.bool)=bs.map λx=>PyData.bool (id x)from rfl,h]
 simp
theorem Gy{c:Bool}:b6 [.bool c,.list (bs.map .bool)]=.ok ⟨.leaf,.bool (cw c bs)⟩:=by
 unfold cw
 cases c<;>simp[b6,aI,o7,av,zm,GS]
structure Wd.Ok0(w:Wd):Prop where
 lo:w.os.length=w.n
 h24:w.n<=24
 ls:w.s.length=w.n
 st:∀r∈w.s,r.length<=30/\∀t∈r,t<w.n
theorem Wd.Ok.z{w:Wd}(h:w.Ok):w.Ok0:=⟨h.g.lo,h.h24,h.ls,λr m=>(h.st r m).2⟩
theorem Wd.Ok0.at2{w:Wd}(h:w.Ok0){r:Nat}(m:r<w.n):fy (w.s.map aR) (r:Int)=some (aR (w.stp r)):=by
 refine Dr ?_
 unfold Wd.stp;rw[getElem?_map,Mr,Mq (by rw[h.ls];exact m)]
 rfl
theorem Wd.Ok0.stp_lt{w:Wd}(h:w.Ok0){r:Nat}(A:t∈w.stp r):t<w.n:=by
 unfold Wd.stp at A;rw[Mr]at A
 cases e:w.s[r]? with
 |none=>rw[e]at A;simp at A
 |some x=>rw[e]at A;exact(h.st x (mem_of_getElem? e)).2 t A
theorem Wd.Ok0.len{w:Wd}(h:w.Ok0){r:Nat}:(w.stp r).length<=10000:=by
 unfold Wd.stp;rw[Mr]
 cases e:w.s[r]? with
 |none=>simp
 |some x=>
  have:=(h.st x (mem_of_getElem? e)).1
  simp only[Option.getD_some]
  omega
noncomputable abbrev qO(t:List Bool):D:=.list (t.map .bool)
noncomputable def jw(t:List Bool)(r:Nat):Bool:=t.getD r false
theorem Gd(h:t<cl.length):fy (cl.map PyData.bool) (t:Int)=some (.bool (jw cl t)):=by
 refine Dr ?_
 unfold jw;rw[getElem?_map,Mr,Mq h];rfl
noncomputable def vM(w:Wd)(a:Nat->Bool)(v:List Nat)(rk:List (Option Nat)):List Nat:=v.filter λr=>(bP rk r).isNone&&cw (a r) ((w.stp r).map λt=>(bP rk t).isSome)
theorem wM{w:Wd}(h:w.Ok0)(a:cl.length=w.n)(A:∀r∈thr,r<w.n)(S:rk.length=w.n)(j:thr.length<=1000):cA [w.enc,qO cl,aR thr,fY rk]=.ok ⟨.lst .leaf,aR (vM w (jw cl) thr rk)⟩:=by
 obtain⟨y,e,_⟩:=GO rm (λ(b:List Nat) r=>if(bP rk r).isNone&&cw (jw cl r) ((w.stp r).map λt=>(bP rk t).isSome)then b++[r]else b) (Inv:=λb r=>b.length+r.length<=1000/\∀t∈r,t<w.n) (i:=5)
  (body:=(bY (dw (aG ag (aj (bJ false) (ah (ab 3) (ab 5)) (eK .none))) (aG bH (ai 2 b6 (ae (ah (ab 1) (ab 5)) (ae (aw .leaf 6 (aP (ah (ah (ab 0) (eK (.int 2))) (ab 5))) aM (aj (bJ true) (ah (ab 3) (ab 6)) (eK .none))) af))))) (aN 4 (ab 5)) aH))
  (G:=λb x=>[MB w.enc,MB (qO cl),MB (aR thr),MB (fY rk),some ⟨.lst .leaf,aR b⟩,x,none])
  (λ_ _=>by simp) (λ_ _ _=>by simp) (λb r cP hI=>by
   obtain⟨Y,M⟩:=hI;have m:r<w.n:=M r mem_cons_self
   have I:=lV (rk:=rk) (t:=r) (by omega)
   have p:=h.at2 m
   have d:=Gd (cl:=cl) (t:=r) (by omega)
   simp only[length_cons]at Y
   have J:aw .leaf 6 (aP (ah (ah (ab 0) (eK (.int 2))) (ab 5))) aM (aj (bJ true) (ah (ab 3) (ab 6)) (eK .none)) [MB w.enc,MB (qO cl),MB (aR thr),MB (fY rk),some ⟨.lst .leaf,aR b⟩,MB (rm r),none]
     = .ok ⟨.lst .leaf,.list ((w.stp r).map λt=>.bool (bP rk t).isSome)⟩ [MB w.enc,MB (qO cl),MB (aR thr),MB (fY rk),some ⟨.lst .leaf,aR b⟩,MB (rm r),none]:=by
    refine nc rm (w.stp r) (λt=>⟨.leaf,.bool (bP rk t).isSome⟩) (st:=true) (by simp[Wd.enc,p]) (by simp) rfl h.len λt A=>?_
    have n:=lV (rk:=rk) (t:=t) (by rw[S];exact h.stp_lt A)
    simp[n]
   have dl:=Gy (c:=jw cl r) (bs:=(w.stp r).map λt=>(bP rk t).isSome)
   rw[map_map]at dl;have dl:b6 [.bool (jw cl r),.list ((w.stp r).map λt=>.bool (bP rk t).isSome)]=.ok ⟨.leaf,.bool (cw (jw cl r) ((w.stp r).map λt=>(bP rk t).isSome))⟩:=dl
   have k:aN 4 (ab 5) [MB w.enc,MB (qO cl),MB (aR thr),MB (fY rk),some ⟨.lst .leaf,aR b⟩,MB (rm r),none]=.nx [MB w.enc,MB (qO cl),MB (aR thr),MB (fY rk),some ⟨.lst .leaf,.list (b.map rm++[rm r])⟩,MB (rm r),none]:=
    Ib rfl (az rfl) rfl (by simp;omega)
   refine⟨?_,?_⟩
   .cases g:(bP rk r).isNone with
    |false=>simp[I,g]
    |true=>
     cases o:cw (jw cl r) ((w.stp r).map λt=>(bP rk t).isSome)with
     |false=>simp[I,d,g,J,dl,o]
     |true=>simp[I,d,g,J,dl,o,k]
   .refine⟨?_,λt A=>M t (Ms _ A)⟩
    split
    .rw[length_append,length_singleton];omega
    .omega) thr [] none (by simp;exact⟨j,A⟩)
 have f:∀(l b:List Nat),l.foldl (λ(b:List Nat) r=>if(bP rk r).isNone&&cw (jw cl r) ((w.stp r).map λt=>(bP rk t).isSome)then b++[r]else b) b=b++vM w (jw cl) l rk:=by
  intro l;induction l with
  |nil=>intro b;simp[vM]
  |cons r t B=>
   intro b;rw[List.foldl_cons,B];unfold vM;rw[filter_cons];split<;>simp
 rw[f,nil_append]at e;refine aV ?_
 have R:=gU (fi:=aP (ab 2)) (Γ:=[MB w.enc,MB (qO cl),MB (aR thr),MB (fY rk),some ⟨.lst .leaf,aR []⟩,none,none]) (cQ (ds:=thr.map rm) (az rfl) rfl) e
 have N:aA true 4 (aY .leaf af) (av 7 [w.enc,qO cl,aR thr,fY rk])=.nx [MB w.enc,MB (qO cl),MB (aR thr),MB (fY rk),some ⟨.lst .leaf,aR []⟩,none,none]:=by simp[av]
 unfold gy;rw[fI,N];simp only
 rw[fI,R];simp
theorem led_iff{any:Bool}{b:Nat->Bool}:cw any (l.map b)=true↔led any l λt=>b t=true:=by
 unfold cw led
 cases any<;>simp
structure Right(w:Wd)(any:Bool)(thr goal:List Nat)(rk:List (Option Nat)):Prop where
 len:rk.length=w.n
 g:∀r,r<w.n->r∈goal->bP rk r=some 0
 p:∀r k,r<w.n->r∉goal->bP rk r=some k->0<k/\r∈thr/\led any (w.stp r) λt=>∃j,bP rk t=some j/\j<k
 z:∀r,r<w.n->bP rk r=none->r∉goal/\(r∉thr\/¬led any (w.stp r) λt=>bP rk t≠none)
inductive Unt (w:Wd) (any:Bool) (P Q:Nat->Prop):Nat->Prop where
 |now {r:Nat}:Q r->Unt w any P Q r
 |some {r t:Nat}:any=true->P r->t∈w.stp r->Unt w any P Q t->Unt w any P Q r
 |all {r:Nat}:any=false->P r->(∀t∈w.stp r,Unt w any P Q t)->Unt w any P Q r
theorem Unt.of_led{w:Wd}{any:Bool}{P Q:Nat->Prop}{r:Nat}(C:P r)(h:led any (w.stp r) (Unt w any P Q)):Unt w any P Q r:=by
 unfold led at h
 cases any with
 |true=>obtain⟨t,A,E⟩:=(by simpa using h:∃t,t∈w.stp r/\Unt w true P Q t);exact .some rfl C A E
 |false=>exact .all rfl C (by simpa using h)
theorem Right.iff{w:Wd}(ok:w.Ok){any:Bool}{v f:List Nat}(h:Right w any v f rk){r:Nat}(m:r<w.n):bP rk r≠none↔Unt w any (·∈v) (·∈f) r:=by
 constructor
 .intro a
  obtain⟨k,G⟩:=Option.ne_none_iff_exists'.mp a
  have n:∀k r,r<w.n->bP rk r=some k->Unt w any (·∈v) (·∈f) r:=by
   intro k;induction k using Nat.strongRecOn with
   |ind k B=>
    intro r m G;by_cases C:r∈f
    .exact .now C
    .obtain⟨_,M,P⟩:=h.p r k m C G
     exact .of_led M (AR P λt A ⟨j,hj,hlt⟩=>B j hlt t (ok.stp_lt A) hj)
  exact n k r m G
 .intro E
  induction E with
  |now q=>rw[h.g _ m q];simp
  |@some r t e hp A _ B=>
   intro U;obtain⟨_,z⟩:=h.z r m U;rcases z with z|z
   .exact z hp
   .subst e
    exact z (by unfold led;simpa using⟨t,A,by have:=B (ok.stp_lt A);simpa using this⟩)
  |@all r e hp _ B=>
   intro U;obtain⟨_,z⟩:=h.z r m U;rcases z with z|z
   .exact z hp
   .subst e
    exact z (by unfold led;simpa using λt A=>by have:=B t A (ok.stp_lt A);simpa using this)
noncomputable def cR(rk:List (Option Nat))(k:Nat)(d:List Nat):List (Option Nat):=d.foldl (λl r=>l.set r (some k)) rk
theorem Jg{k:Nat}:∀(d:List Nat)(rk:List (Option Nat)),(cR rk k d).length=rk.length
 |[],_=>rfl
 |a::r,rk=>by
  show(cR (rk.set a (some k)) k r).length=_
  rw[Jg,length_set]
theorem yf{a:Nat}(h:a<rk.length):bP (rk.set a o) t=if t=a then o else bP rk t:=by
 unfold bP;rw[Mr,Mr];split
 .rename_i e;subst e;rw[getElem?_set_self h];rfl
 .rename_i e;rw[getElem?_set_ne (λz=>e z.symm)]
theorem rz{k t:Nat}:∀(d:List Nat)(rk:List (Option Nat)),(∀a∈d,a<rk.length)->bP (cR rk k d) t=if t∈d then some k else bP rk t
 |[],rk,_=>by simp[cR]
 |a::r,rk,h=>by
  show bP (cR (rk.set a (some k)) k r) t=_
  rw[rz r _ (λb U=>by rw[length_set];exact h b (Ms _ U)),yf (h a mem_cons_self)]
  by_cases N:t∈r
  .simp[N]
  .by_cases R:t=a
   .simp[R]
   .simp[N,R]
noncomputable def cu(rk:List (Option Nat)):Nat:=(rk.filter Option.isNone).length
theorem tv{a:Nat}(h:rk[a]?=some none):cu (rk.set a (some k))+1=cu rk:=by
 induction rk generalizing a with
 |nil=>simp at h
 |cons x r B=>
  cases a with
  |zero=>
   simp at h
   subst h;simp[cu]
  |succ a=>
   have:=B (a:=a) (by simpa using h)
   simp only[cu,List.set_cons_succ,filter_cons]at this ⊢
   cases x with
   |none=>simp only[Option.isNone_none,if_true,length_cons];omega
   |some v=>simpa using this
theorem vO{a:Nat}:cu (rk.set a (some k))<=cu rk:=by
 induction rk generalizing a with
 |nil=>simp[cu]
 |cons x r B=>
  cases a with
  |zero=>cases x<;>simp[cu]
  |succ a=>
   have:=B (a:=a)
   simp only[cu,List.set_cons_succ,filter_cons]at this ⊢
   cases x with
   |none=>simp only[Option.isNone_none,if_true,length_cons];omega
   |some v=>simpa using this
theorem h9{k:Nat}:∀(d:List Nat)(rk:List (Option Nat)),cu (cR rk k d)<=cu rk
 |[],_=>Mz _
 |a::r,rk=>Nat.le_trans (h9 r (rk.set a (some k))) vO
theorem tw{d:List Nat}(B:d≠[])(h:∀a∈d,rk[a]?=some none):cu (cR rk k d)<cu rk:=by
 cases d with
 |nil=>exact absurd rfl B
 |cons a r=>
  have Y:=tv (k:=k) (h a mem_cons_self)
  have M:=h9 (k:=k) r (rk.set a (some k))
  show cu (cR (rk.set a (some k)) k r)<_
  omega
structure RS where
 rk:List (Option Nat)
 k:Nat
 fr:List Nat
 x8:Option PV
structure RI(w:Wd)(ch:Nat->Bool)(thr goal:List Nat)(b:RS):Prop where
 len:b.rk.length=w.n
 frn:∀r∈b.fr,r<w.n/\bP b.rk r=none
 frl:b.fr.length<=1000
 lt:∀r j,bP b.rk r=some j->j<b.k
 zero:b.k=0->b.fr=goal
 g:0<b.k->∀r,r∈goal->bP b.rk r=some 0
 p:∀r j,r<w.n->r∉goal->bP b.rk r=some j->0<j/\r∈thr/\led (ch r) (w.stp r) λt=>∃i,bP b.rk t=some i/\i<j
 nx:0<b.k->b.fr=vM w ch thr b.rk
 m1:∀r,r∈thr->bP b.rk r=none->¬led (ch r) (w.stp r) λt=>∃i,bP b.rk t=some i/\i+1<b.k
 m2:∀r j,r∉goal->bP b.rk r=some j->¬led (ch r) (w.stp r) λt=>∃i,bP b.rk t=some i/\i+1<j
noncomputable def Mh(m:Nat->List Nat)(a:Nat->Bool)(f:List Nat)(rk:List (Option Nat)):Prop:=∀r j,r∉f->bP rk r=some j->¬led (a r) (m r) λt=>∃i,bP rk t=some i/\i+1<j
theorem RI.right{w:Wd}{a:Nat->Bool}{v f:List Nat}{b:RS}(B:∀r∈v,w.stp r≠[])(I:RI w a v f b)(R:b.fr=[]):qW w.n w.stp a v f b.rk:=by
 refine⟨I.len,λr m C=>?_,I.p,λr m U=>?_⟩
 .rcases Nat.eq_zero_or_pos b.k with h|h
  .rw[<-I.zero h,R]at C;simp at C
  .exact I.g h r C
 .rcases Nat.eq_zero_or_pos b.k with h|h
  .have C:f=[]:=by rw[<-I.zero h];exact R
   refine⟨by rw[C];simp,?_⟩
   by_cases A:r∈v
   case neg=>exact .inl A
   refine .inr λS=>?_
   have no:∀t,bP b.rk t=none:=λt=>by
    cases e:bP b.rk t with
    |none=>rfl
    |some j=>have:=I.lt t j e;omega
   cases J:a r with
   |true=>
    rw[J]at S;obtain⟨t,_,z⟩:=led_t.mp S;exact z (no t)
   |false=>
    rw[J]at S;obtain⟨t,M⟩:=exists_mem_of_ne_nil _ (B r A);exact led_f.mp S t M (no t)
  .refine⟨λC=>(by rw[I.g h r C]at U;cases U),?_⟩
   by_cases A:r∈v
   .refine .inr λS=>?_
    have F:=I.nx h
    rw[R]at F;have:r∈vM w a v b.rk:=by
     unfold vM;refine List.mem_filter.mpr ⟨A,?_⟩
     rw[U];simp only[Option.isNone_none,Bool.true_and]
     exact led_iff.mpr (AR S λt _ z=>by cases e:bP b.rk t with|none=>exact absurd e z|some j=>rfl)
    rw[<-F]at this;simp at this
   .exact .inl A
theorem RI.step{w:Wd}{ch:Nat->Bool}{v f:List Nat}(n:∀r∈v,w.stp r≠[]){b:RS}{y:Option PV}(p:∀r∈v,r<w.n)(S:v.length<=1000)(I:RI w ch v f b)(B:b.fr≠[]):RI w ch v f ⟨cR b.rk b.k b.fr,b.k+1,vM w ch v (cR b.rk b.k b.fr),y⟩/\cu (cR b.rk b.k b.fr)<cu b.rk:=by
 have d:∀a∈b.fr,a<b.rk.length:=λa Z=>by rw[I.len];exact(I.frn a Z).1
 have pt:∀t,bP (cR b.rk b.k b.fr) t=if t∈b.fr then some b.k else bP b.rk t:=λt=>rz _ _ d
 refine⟨⟨by rw[Jg];exact I.len,λr m=>?_,?_,λr j e=>?_,λz=>absurd z (Nat.succ_ne_zero _),λ_ r C=>?_,λr j m C e=>?_,λ_=>rfl,λr A U S=>?_,λr j C e S=>?_⟩,tw B λa Z=>?_⟩
 .obtain⟨Y,M⟩:=List.mem_filter.mp m
  simp only[Bool.and_eq_true,Option.isNone_iff_eq_none]at M
  exact⟨p r Y,M.1⟩
 .exact Nat.le_trans (length_filter_le _ _) S
 .rw[pt]at e
  show j<b.k+1
  split at e
  .cases e;omega
  .have:=I.lt r j e;omega
 .show bP (cR b.rk b.k b.fr) r=some 0
  rw[pt];rcases Nat.eq_zero_or_pos b.k with h|h
  .rw[I.zero h,if_pos C,h]
  .have:=I.g h r C
   split
   .rename_i z;rw[(I.frn r z).2]at this;cases this
   .exact this
 .have e:bP (cR b.rk b.k b.fr) r=some j:=e
  rw[pt]at e;split at e
  .rename_i E
   cases e;have G:0<b.k:=by
    rcases Nat.eq_zero_or_pos b.k with h|h
    .rw[I.zero h]at E;exact absurd E C
    .exact h
   have F:=I.nx G
   rw[F]at E;obtain⟨Y,M⟩:=List.mem_filter.mp E;simp only[Bool.and_eq_true]at M
   refine⟨G,Y,AR (led_iff.mp M.2) λt _ z=>?_⟩
   cases e:bP b.rk t with
   |none=>rw[e]at z;cases z
   |some i=>
    refine⟨i,?_,I.lt t i e⟩
    show bP (cR b.rk b.k b.fr) t=_
    rw[pt,if_neg (λq=>by rw[(I.frn t q).2]at e;cases e),e]
  .obtain⟨Y,M,P⟩:=I.p r j m C e
   refine⟨Y,M,AR P λt _ ⟨i,hi,hlt⟩=>⟨i,?_,hlt⟩⟩
   show bP (cR b.rk b.k b.fr) t=_
   rw[pt,if_neg (λq=>by rw[(I.frn t q).2]at hi;cases hi),hi]
 .have U:bP (cR b.rk b.k b.fr) r=none:=U
  rw[pt]at U;split at U
  .cases U
  rename_i g;have S:led (ch r) (w.stp r) λt=>∃i,bP (cR b.rk b.k b.fr) t=some i/\i+1<b.k+1:=S
  have S:led (ch r) (w.stp r) λt=>∃i,bP b.rk t=some i/\i<b.k:=AR S λt _ ⟨i,hi,hlt⟩=>by
   rw[pt]at hi;split at hi
   .cases hi;omega
   .exact⟨i,hi,by omega⟩
  rcases Nat.eq_zero_or_pos b.k with h|h
  .cases J:ch r with
   |true=>
    rw[J]at S;obtain⟨t,_,i,_,z⟩:=led_t.mp S;omega
   |false=>
    rw[J]at S;obtain⟨t,k⟩:=exists_mem_of_ne_nil _ (n r A);obtain⟨i,_,z⟩:=led_f.mp S t k
    omega
  .refine g ?_
   rw[I.nx h];refine List.mem_filter.mpr ⟨A,?_⟩
   rw[U];simp only[Option.isNone_none,Bool.true_and]
   exact led_iff.mpr (AR S λt _ ⟨i,hi,_⟩=>by rw[hi];rfl)
 .have e:bP (cR b.rk b.k b.fr) r=some j:=e
  have S:led (ch r) (w.stp r) λt=>∃i,bP (cR b.rk b.k b.fr) t=some i/\i+1<j:=S
  have l:j<=b.k:=by
   rw[pt]at e;split at e
   .cases e;omega
   .have:=I.lt r j e;omega
  have S:led (ch r) (w.stp r) λt=>∃i,bP b.rk t=some i/\i+1<j:=AR S λt _ ⟨i,hi,hlt⟩=>by
   rw[pt]at hi;split at hi
   .cases hi;omega
   .exact⟨i,hi,hlt⟩
  rw[pt]at e;split at e
  .rename_i E
   cases e;have G:0<b.k:=by
    rcases Nat.eq_zero_or_pos b.k with h|h
    .rw[I.zero h]at E;exact absurd E C
    .exact h
   have c:=E
   rw[I.nx G]at c;exact I.m1 r (List.mem_filter.mp c).1 (I.frn r E).2 S
  .exact I.m2 r j C e S
 .obtain⟨Y,M⟩:=I.frn a Z
  unfold bP at M;rw[Mr,Mq (by rw[I.len];exact Y)]at M
  rw[Mq (by rw[I.len];exact Y)]
  simpa using M
abbrev GR(w:Wd)(t:List Bool)(v f:List Nat)(b:RS):Ev:=[MB w.enc,MB (qO t),MB (aR v),MB (aR f),some ⟨.lst .leaf,fY b.rk⟩,MB (.int (b.k:Int)),MB (aR b.fr),b.x8,none]
abbrev mx:FS:=(ao (dR 7 (aP (ab 6))
  (g6 4 (ab 5) (ab 7)))
  (ao (iV 5 (eK (.int 1)))
  (aA false 6 (fU 4 cA (ae (ab 0) (ae (ab 1) (ae (ab 2) (ae (ab 4) af))))))))
theorem ye{w:Wd}(ok:w.Ok0){f:List Nat}{b:RS}(a:cl.length=w.n)(n:∀r∈thr,w.stp r≠[])(p:∀r∈thr,r<w.n)(S:thr.length<=1000)(I:RI w (jw cl) thr f b)(B:b.fr≠[]):∃u,mx (GR w cl thr f b)=.nx (GR w cl thr f u)/\RI w (jw cl) thr f u/\cu u.rk<cu b.rk:=by
 obtain⟨y,e,_⟩:=GO rm (λ(l:List (Option Nat)) r=>l.set r (some b.k)) (Inv:=λl r=>l.length=w.n/\∀t∈r,t<w.n) (i:=7) (body:=g6 4 (ab 5) (ab 7))
  (G:=λl x=>[MB w.enc,MB (qO cl),MB (aR thr),MB (aR f),some ⟨.lst .leaf,fY l⟩,MB (.int (b.k:Int)),MB (aR b.fr),x,none])
  (λ_ _=>by simp) (λ_ _ _=>by simp) (λl r cP ⟨h1,h2⟩=>by
   have m:=h2 r mem_cons_self
   refine⟨?_,by rw[length_set];exact h1,λt A=>h2 t (Ms _ A)⟩
   rw[AW (ds:=l.map oD) (j:=r) (k:=(r:Int)) rfl (az rfl) (az rfl) (m9 (by rw[length_map,h1];exact m)) rfl]
   simp[map_set,oD]) b.fr b.rk b.x8 ⟨I.len,λt A=>(I.frn t A).1⟩
 obtain⟨z,E⟩:=RI.step (y:=y) n p S I B
 refine⟨⟨cR b.rk b.k b.fr,b.k+1,vM w (jw cl) thr (cR b.rk b.k b.fr),y⟩,?_,z,E⟩
 have R:=gU (fi:=aP (ab 6)) (Γ:=GR w cl thr f b) (cQ (ds:=b.fr.map rm) (az rfl) rfl) e
 have c:=wM ok (cl:=cl) (thr:=thr) (rk:=cR b.rk b.k b.fr) a p (by rw[Jg];exact I.len) S
 unfold mx;rw[fI,R];have d:qD ⟨.lst .leaf,aR (vM w (jw cl) thr (cR b.rk b.k b.fr))⟩=true:=by
  unfold qD;simp[bU]
 have g:∀Γ:Ev,Γ=[MB w.enc,MB (qO cl),MB (aR thr),MB (aR f),some ⟨.lst .leaf,fY (cR b.rk b.k b.fr)⟩,MB (.int ((b.k:Int)+1)),MB (aR b.fr),y,none] ->
   fU 4 cA (ae (ab 0) (ae (ab 1) (ae (ab 2) (ae (ab 4) af)))) Γ=.ok ⟨.lst .leaf,aR (vM w (jw cl) thr (cR b.rk b.k b.fr))⟩ Γ:=λΓ K=>by
  subst K;unfold fU;simp[c,d]
 have C:b.fr.foldl (λl r=>l.set r (some b.k)) b.rk=cR b.rk b.k b.fr:=rfl
 rw[C];simp[g _ rfl]
theorem mO{w:Wd}(ok:w.Ok0){v f:List Nat}(a:cl.length=w.n)(n:∀r∈v,w.stp r≠[])(p:∀r∈v,r<w.n)(S:v.length<=1000)(l:∀r∈f,r<w.n)(y:f.length<=1000):∃rk,gG [w.enc,qO cl,aR v,aR f]=.ok ⟨.lst .leaf,fY rk⟩/\qW w.n w.stp (jw cl) v f rk/\Mh w.stp (jw cl) f rk:=by
 have o:=ok.lo
 have H:=ok.h24
 have B:RI w (jw cl) v f ⟨w.os.map λ_=>none,0,f,none⟩:=by
  have z:∀r,bP (w.os.map λ_=>none) r=none:=λr=>by
   unfold bP;rw[Mr,getElem?_map]
   cases w.os[r]?<;>rfl
  refine⟨by simp[o],λr m=>⟨l r m,z r⟩,y,λr j e=>(by rw[z]at e;cases e),λ_=>rfl,λh=>absurd h (by simp),λr j _ _ e=>(by rw[z]at e;cases e),λh=>absurd h (by simp),λr A _ S=>?_,λr j _ e=>(by rw[z]at e;cases e)⟩
  have S:led (jw cl r) (w.stp r) λt=>∃i,bP (w.os.map λ_=>none) t=some i/\i+1<0:=S
  cases J:jw cl r with
  |true=>
   rw[J]at S;obtain⟨t,_,i,_,z⟩:=led_t.mp S;omega
  |false=>
   rw[J]at S;obtain⟨t,k⟩:=exists_mem_of_ne_nil _ (n r A);obtain⟨i,_,z⟩:=led_f.mp S t k
   omega
 obtain⟨u,e,I,C⟩:=kW (c:=aG bH (ab 6)) (g:=mx) (G:=GR w cl v f) (test:=λb=>!b.fr.isEmpty) (Inv:=RI w (jw cl) v f) (meas:=λb=>cu b.rk) (λb I=>by simp) (λb I U=>ye ok a n p S I (by intro z;rw[z]at U;simp at U)) 1000 _ B (by
  have:cu (w.os.map λ_=>none)<=w.os.length:=by unfold cu;exact Nat.le_trans (length_filter_le _ _) (by simp)
  show cu (w.os.map λ_=>none)<1000
  omega)
 refine⟨u.rk,?_,I.right n (by simpa using C),I.m2⟩
 refine aV ?_
 have co:∀Γ:Ev,Γ.length=9->Γ[0]?=some (MB w.enc)->aw .leaf 8 (aP (ah (ab 0) (eK (.int 0)))) aM (eK .none) Γ=.ok ⟨.lst .leaf,.list (w.os.map λ_=>.none)⟩ Γ:=λΓ Y M=>by
  have:=nc (λd:D=>d) w.os (λ_=>⟨.leaf,.none⟩) (s:=.leaf) (i:=8) (fi:=aP (ah (ab 0) (eK (.int 0)))) (fe:=eK .none) (st:=true) (Γ:=Γ) (by simp[M,Wd.enc]) (by omega) rfl (by omega) (λx F=>by simp)
  simpa using this
 have e:cj (aG bH (ab 6)) mx 1000 [MB w.enc,MB (qO cl),MB (aR v),MB (aR f),some ⟨.lst .leaf,.list (w.os.map λ_=>.none)⟩,MB (.int 0),MB (aR f),none,none]=.nx (GR w cl v f u):=by
  have q:fY (w.os.map λ_=>none)=.list (w.os.map λ_=>.none):=by
   unfold fY;rw[map_map];rfl
  rw[<-q];exact e
 unfold j9;rw[fI,oa,co _ rfl rfl];simp[av]
 unfold iI;rw[e];simp
theorem GL{w:Wd}(ok:w.Ok){s:Sn}{P:D}{v f:List Nat}(b:(s.w=.su\/s.w=.au)\/(s.w=.sa\/s.w=.aa))(A:∃o,coer .leaf ⟨o,.tuple [aR v,aR f]⟩=true/\aW [w.enc,s.enc,P]=.ok ⟨o,.tuple [aR v,aR f]⟩)(p:∀r∈v,r<w.n)(S:v.length<=1000)(l:∀r∈f,r<w.n)(y:f.length<=1000):∃rk,bG [w.enc,s.enc,P]=.ok ⟨.lst .leaf,fY rk⟩/\Right w s.w.some v f rk:=by
 obtain⟨o,c,A⟩:=A;have G:=ok.g.lo
 have H:=ok.h24
 obtain⟨rk,e,R,_⟩:=mO ok.z (cl:=w.os.map λ_=>s.w.some) (by rw[length_map];exact G) (λr m=>ok.stp_ne (p r m)) p S l y
 have a:∀r,r<w.n->jw (w.os.map λ_=>s.w.some) r=s.w.some:=λr m=>by
  unfold jw;rw[Mr,getElem?_map,Mq (by omega)]
  rfl
 refine⟨rk,?_,⟨R.len,R.g,λr k m C e=>?_,λr m e=>?_⟩⟩
 .have q:ah (ab 1) (eK (.int 0)) (av 6 [w.enc,s.enc,P])=.ok ⟨.leaf,.str s.w.t⟩ (av 6 [w.enc,s.enc,P]):=by
   cases s<;>simp[av,Sn.enc,Sn.w]
  have n:aA false 3 (ah (ab 1) (eK (.int 0))) (av 6 [w.enc,s.enc,P])=.nx [MB w.enc,MB s.enc,MB P,MB (.str s.w.t),none,none]:=by
   rw[oa,q];simp[av]
  have h:bY (dw (aG ag (aj (bx true) (ab 3) (eK cB))) (aG ag (aj (bx true) (ab 3) (eK dg)))) (aJ (eK .none)) aH [MB w.enc,MB s.enc,MB P,MB (.str s.w.t),none,none]=.nx [MB w.enc,MB s.enc,MB P,MB (.str s.w.t),none,none]:=by
   rcases b with z|z
   .simp[z]
   .by_cases g:(s.w=.su\/s.w=.au)<;>simp[z,g]
  have Y:aA false 4 (ai 3 aW (ae (ab 0) (ae (ab 1) (ae (ab 2) af)))) [MB w.enc,MB s.enc,MB P,MB (.str s.w.t),none,none]=.nx [MB w.enc,MB s.enc,MB P,MB (.str s.w.t),MB (.tuple [aR v,aR f]),none]:=by
   simp[A,c]
  have J:aw .leaf 5 (aP (ah (ab 0) (eK (.int 0)))) aM (aj (bx false) (ab 3) (eK bE)) [MB w.enc,MB s.enc,MB P,MB (.str s.w.t),MB (.tuple [aR v,aR f]),none]=.ok ⟨.lst .leaf,qO (w.os.map λ_=>s.w.some)⟩ [MB w.enc,MB s.enc,MB P,MB (.str s.w.t),MB (.tuple [aR v,aR f]),none]:=by
   have:=nc (λd:D=>d) w.os (λ_=>⟨.leaf,.bool s.w.some⟩) (s:=.leaf) (i:=5) (fi:=aP (ah (ab 0) (eK (.int 0)))) (fe:=aj (bx false) (ab 3) (eK bE)) (st:=true) (Γ:=[MB w.enc,MB s.enc,MB P,MB (.str s.w.t),MB (.tuple [aR v,aR f]),none]) (by simp[Wd.enc]) (by simp) rfl (by omega) (λx F=>by simp)
   rw[this];simp
  refine aV ?_
  unfold gK;rw[fI,n];simp only
  rw[fI,h];simp only
  rw[fI,Y];simp only
  exact aS (dE (aE (az rfl) (aE J (aE (js (j:=0) (ds:=[aR v,aR f]) (az rfl) aO rfl rfl rfl) (aE (js (j:=1) (ds:=[aR v,aR f]) (az rfl) aO rfl rfl rfl) aq)))) e rfl rfl) rfl
 .have:=R.p r k m C e
  rw[a r m]at this;exact this
 .have:=R.z r m e
  rw[a r m]at this;exact this
def gN(w:Wd):Sn->Nat->Prop
 |.yes,_=>True
 |.mk c,r=>c∈w.mks r
 |.un .not a,r=>¬gN w a r
 |.un .sn a,r=>∃t∈w.stp r,gN w a t
 |.un .an a,r=>∀t∈w.stp r,gN w a t
 |.un .sa a,r=>¬Unt w false (λ_=>True) (λt=>¬gN w a t) r
 |.un .aa a,r=>¬Unt w true (λ_=>True) (λt=>¬gN w a t) r
 |.bi .and a b,r=>gN w a r/\gN w b r
 |.bi .or a b,r=>gN w a r\/gN w b r
 |.bi .su a b,r=>Unt w true (gN w a) (gN w b) r
 |.bi .au a b,r=>Unt w false (gN w a) (gN w b) r
def de(w:Wd)(s:Sn)(r:Nat):Bool:=@decide (gN w s r) (Classical.propDecidable _)
theorem satB_iff{w:Wd}{s:Sn}{r:Nat}:de w s r=true↔gN w s r:=by
 unfold de;exact @decide_eq_true_iff _ (Classical.propDecidable _)
theorem ki{w:Wd}{s:Sn}{r:Nat}{b:Bool}(h:b=true↔gN w s r):b=de w s r:=by
 rw[Bool.eq_iff_iff,h,satB_iff]
def aX(w:Wd)(s:Sn):List Nat:=(List.range w.n).filter (de w s)
theorem mem_rof{w:Wd}{s:Sn}{r:Nat}:r∈aX w s↔r<w.n/\gN w s r:=by
 unfold aX;rw[List.mem_filter,mem_range,satB_iff]
theorem sA{w:Wd}{s:Sn}{r:Nat}(m:r<w.n):(aX w s).contains r=de w s r:=by
 rw[Bool.eq_iff_iff,contains_iff_mem,mem_rof,satB_iff];exact⟨λh=>h.2,λh=>⟨m,h⟩⟩
theorem Unt.congr{w:Wd}(ok:w.Ok){any:Bool}{P a Q b:Nat->Prop}(C:∀t,t<w.n->P t->a t)(Y:∀t,t<w.n->Q t->b t){r:Nat}(m:r<w.n)(h:Unt w any P Q r):Unt w any a b r:=by
 induction h with
 |now q=>exact .now (Y _ m q)
 |some e p A _ B=>exact .some e (C _ m p) A (B (ok.stp_lt A))
 |all e p _ B=>exact .all e (C _ m p) λt A=>B t A (ok.stp_lt A)
theorem vZ{c:Str}{r:List Str}(J:PyData.strOk c=true)(h:∀x∈r,PyData.strOk x=true):bx false (.str c) (uI r)=some (.bool (r.contains c)):=by
 have P:kh (r.map PyData.str):=λa Z=>by
  obtain⟨x,F,rfl⟩:=List.mem_map.mp Z;exact⟨x,rfl,h x F⟩
 rw[uI,CN J P];congr 2
 unfold has;simp only[List.any_map]
 rw[Bool.eq_iff_iff,any_eq_true,contains_iff_mem];constructor
 .rintro⟨x,F,e⟩
  have:PyData.eqv (.str x) (.str c)=true:=e
  have:x=c:=by simpa[PyData.eqv]using this
  rw[<-this];exact F
 .intro F
  exact⟨c,F,by show PyData.eqv (.str c) (.str c)=true;simp[PyData.eqv]⟩
abbrev cv(J:List (List Nat)):D:=.list (J.map aR)
theorem Ay{r:Nat}(S:Γ.length=9)(M:Γ[2]?=some (MB (cv ps)))(m:Γ[4]?=some (MB (rm r)))(j:ps.length<=10000):aw .leaf 7 (aP (ab 2)) aM (aj (bx false) (ab 4) (ab 7)) Γ=.ok ⟨.lst .leaf,.list (ps.map λR=>.bool (R.contains r))⟩ Γ:=by
 refine nc aR ps (λR=>⟨.leaf,.bool (R.contains r)⟩) (st:=true) (by simp[M]) (by omega) rfl j λR p=>?_
 have b:(Γ.set 7 (MB (aR R)))[4]?=some (MB (rm r)):=by rw[getElem?_set_ne (by omega)];exact m
 have a:(Γ.set 7 (MB (aR R)))[7]?=some (MB (aR R)):=getElem?_set_self (by omega)
 refine⟨?_,rfl⟩
 rw[BP,nZ,b];simp only[vm,sy]
 rw[nZ,a];simp only[vm,sy,uh]
theorem AQ{w:Wd}(ok:w.Ok){r:Nat}:(w.stp r).length<=10000:=by
 unfold Wd.stp;rw[Mr]
 cases e:w.s[r]? with
 |none=>simp
 |some x=>
  have:=(ok.st x (mem_of_getElem? e)).2.1
  simp only[Option.getD_some]
  omega
theorem En{w:Wd}(ok:w.Ok){R:List Nat}{r:Nat}(m:r<w.n)(S:Γ.length=9)(o:Γ[0]?=some (MB w.enc))(M:Γ[2]?=some (MB (cv (R::ps))))(b:Γ[4]?=some (MB (rm r))):aw .leaf 8 (aP (ah (ah (ab 0) (eK (.int 2))) (ab 4))) aM (aj (bx false) (ab 8) (ah (ab 2) (eK (.int 0)))) Γ=.ok ⟨.lst .leaf,.list ((w.stp r).map λt=>.bool (R.contains t))⟩ Γ:=by
 have y:=ok.at2 m
 refine nc rm (w.stp r) (λt=>⟨.leaf,.bool (R.contains t)⟩) (st:=true) (by simp[o,b,Wd.enc,y]) (by omega) rfl (AQ ok) λt A=>?_
 have X:(Γ.set 8 (MB (rm t)))[2]?=some (MB (cv (R::ps))):=by rw[getElem?_set_ne (by omega)];exact M
 have a:(Γ.set 8 (MB (rm t)))[8]?=some (MB (rm t)):=getElem?_set_self (by omega)
 refine⟨?_,rfl⟩
 rw[BP,nZ,a];simp only[vm,sy]
 rw[Ao,nZ,X];simp[uh]
def fG(w:Wd)(s:Sn)(R:D):Prop:=match s with
 |.bi .su a b=>∃rk,R=fY rk/\Right w true (aX w a) (aX w b) rk
 |.bi .au a b=>∃rk,R=fY rk/\Right w false (aX w a) (aX w b) rk
 |.un .sa a=>∃rk,R=fY rk/\Right w false (List.range w.n) ((List.range w.n).filter λt=>!(aX w a).contains t) rk
 |.un .aa a=>∃rk,R=fY rk/\Right w true (List.range w.n) ((List.range w.n).filter λt=>!(aX w a).contains t) rk
 |_=>R=.none
theorem GI{w:Wd}(ok:w.Ok){any:Bool}{a b:Sn}{r:Nat}(m:r<w.n):Unt w any (·∈aX w a) (·∈aX w b) r↔Unt w any (gN w a) (gN w b) r:=
 ⟨Unt.congr ok (λt _ h=>(mem_rof.mp h).2) (λt _ h=>(mem_rof.mp h).2) m,Unt.congr ok (λt A h=>mem_rof.mpr ⟨A,h⟩) (λt A h=>mem_rof.mpr ⟨A,h⟩) m⟩
theorem GH{w:Wd}(ok:w.Ok){any:Bool}{a:Sn}{r:Nat}(m:r<w.n):Unt w any (·∈List.range w.n) (·∈(List.range w.n).filter λt=>!(aX w a).contains t) r↔Unt w any (λ_=>True) (λt=>¬gN w a t) r:=by
 have q:∀t,t<w.n->(t∈(List.range w.n).filter λt=>!(aX w a).contains t)\/gN w a t:=λt A=>by
  by_cases h:gN w a t
  .exact .inr h
  .refine .inl (List.mem_filter.mpr ⟨List.mem_range.mpr A,?_⟩)
   rw[sA A]
   cases e:de w a t with
   |false=>rfl
   |true=>exact absurd (satB_iff.mp e) h
 constructor
 .refine Unt.congr ok (λ_ _ _=>trivial) (λt A h P=>?_) m
  have:=(List.mem_filter.mp h).2
  rw[sA A,satB_iff.mpr P]at this
  cases this
 .exact Unt.congr ok (λt A _=>List.mem_range.mpr A) (λt A h=>(q t A).elim id λz=>absurd z h) m
theorem jO:(!o.isNone)=true↔o≠none:=by cases o<;>simp
theorem rS:o.isNone=true↔¬o≠none:=by cases o<;>simp
theorem KI{a b:Bool}:cU true [.list [.bool a,.bool b]]=some (.bool (a||b)):=by cases a<;>cases b<;>rfl
theorem all2{a b:Bool}:cU false [.list [.bool a,.bool b]]=some (.bool (a&&b)):=by cases a<;>cases b<;>rfl
theorem mQ{w:Wd}(ok:w.Ok){s:Sn}(P:s.ok){R:D}(p:fG w s R){r:Nat}(m:r<w.n):ff [w.enc,s.enc,cv (s.args.map (aX w)),R,rm r]=.ok ⟨.leaf,.bool (de w s r)⟩:=by
 refine aV ?_
 have I:=ok.at1 m
 have y:=ok.at2 m
 cases s with
 |yes=>
  have e:true=de w .yes r:=ki (by simp[gN])
  rw[<-e];simp[bI,av,Sn.enc]
 |mk c=>
  have e:(w.mks r).contains c=de w (.mk c) r:=ki (by rw[contains_iff_mem];rfl)
  have E:∀x∈w.mks r,PyData.strOk x=true:=λx F=>by
   unfold Wd.mks at F;rw[Mr,Mq (by rw[ok.lm];exact m)]at F
   exact ok.mc _ (getElem_mem _) x F
  rw[<-e];simp[bI,av,Sn.enc,Wd.enc,I,vZ (Ig P).1 E]
 |un k a=>
  have J:=Ay (ps:=[aX w a]) (r:=r) (Γ:=[MB w.enc,MB ((Sn.un k a).enc),MB (cv [aX w a]),MB R,MB (rm r),MB (.str k.w.t),none,none,none]) rfl rfl rfl (by simp)
  have sc:=En ok (R:=aX w a) (ps:=[]) m (Γ:=[MB w.enc,MB ((Sn.un k a).enc),MB (cv [aX w a]),MB R,MB (rm r),MB (.str k.w.t),MB (.list [.bool ((aX w a).contains r)]),none,none]) rfl rfl rfl rfl
  have dl:=Gy (c:=k.w.some) (bs:=(w.stp r).map λt=>(aX w a).contains t)
  rw[map_map]at dl;have dl:b6 [.bool k.w.some,.list ((w.stp r).map λt=>.bool ((aX w a).contains t))]=_:=dl
  have stB:∀t∈w.stp r,(aX w a).contains t=true↔gN w a t:=λt A=>by rw[sA (ok.stp_lt A),satB_iff]
  simp only[Sn.enc]at J sc
  cases k with
  |not=>
   have e:(!(aX w a).contains r)=de w (.un .not a) r:=ki (by rw[sA m];simp[gN,<-satB_iff])
   rw[<-e];simp[U5.w]at J
   simp[bI,av,Sn.enc,Sn.args,U5.w,J]
  |sn=>
   have e:cw true ((w.stp r).map λt=>(aX w a).contains t)=de w (.un .sn a) r:=ki (by
    rw[led_iff];simp only[led,gN,if_true]
    exact⟨λ⟨t,A,h⟩=>⟨t,A,(stB t A).mp h⟩,λ⟨t,A,h⟩=>⟨t,A,(stB t A).mpr h⟩⟩)
   have wk:U5.sn.w.some=true:=rfl
   have d:Wr.sn.some=true:=rfl
   rw[wk,e]at dl;simp[U5.w]at J sc dl
   simp[bI,av,Sn.enc,Sn.args,U5.w,J,sc,dl,d]
  |an=>
   have e:cw false ((w.stp r).map λt=>(aX w a).contains t)=de w (.un .an a) r:=ki (by
    rw[led_iff];simp only[led,gN,Bool.false_eq_true,if_false]
    exact⟨λh t A=>(stB t A).mp (h t A),λh t A=>(stB t A).mpr (h t A)⟩)
   have wk:U5.an.w.some=false:=rfl
   have d:Wr.an.some=false:=rfl
   rw[wk,e]at dl;simp[U5.w]at J sc dl
   simp[bI,av,Sn.enc,Sn.args,U5.w,J,sc,dl,d]
  |sa=>
   obtain⟨rk,rfl,p⟩:=p;have n:=lV (rk:=rk) (t:=r) (by rw[p.len];exact m)
   have e:(bP rk r).isNone=de w (.un .sa a) r:=ki (by rw[rS,p.iff ok m,GH ok m];rfl)
   rw[<-e];simp[bI,av,Sn.enc,Sn.args,U5.w,n]
  |aa=>
   obtain⟨rk,rfl,p⟩:=p;have n:=lV (rk:=rk) (t:=r) (by rw[p.len];exact m)
   have e:(bP rk r).isNone=de w (.un .aa a) r:=ki (by rw[rS,p.iff ok m,GH ok m];rfl)
   rw[<-e];simp[bI,av,Sn.enc,Sn.args,U5.w,n]
 |bi k a b=>
  have J:=Ay (ps:=[aX w a,aX w b]) (r:=r) (Γ:=[MB w.enc,MB ((Sn.bi k a b).enc),MB (cv [aX w a,aX w b]),MB R,MB (rm r),MB (.str k.w.t),none,none,none]) rfl rfl rfl (by simp)
  simp only[Sn.enc]at J
  cases k with
  |and=>
   have e:((aX w a).contains r&&(aX w b).contains r)=de w (.bi .and a b) r:=ki (by rw[sA m,sA m,Bool.and_eq_true,satB_iff,satB_iff];rfl)
   rw[<-e];simp[B4.w]at J
   simp[bI,av,Sn.enc,Sn.args,B4.w,J,all2]
  |or=>
   have e:((aX w a).contains r||(aX w b).contains r)=de w (.bi .or a b) r:=ki (by rw[sA m,sA m,Bool.or_eq_true,satB_iff,satB_iff];rfl)
   rw[<-e];simp[B4.w]at J
   simp[bI,av,Sn.enc,Sn.args,B4.w,J,KI]
  |su=>
   obtain⟨rk,rfl,p⟩:=p;have n:=lV (rk:=rk) (t:=r) (by rw[p.len];exact m)
   have e:(!(bP rk r).isNone)=de w (.bi .su a b) r:=ki (by rw[jO,p.iff ok m,GI ok m];rfl)
   rw[<-e];simp[bI,av,Sn.enc,Sn.args,B4.w,n]
  |au=>
   obtain⟨rk,rfl,p⟩:=p;have n:=lV (rk:=rk) (t:=r) (by rw[p.len];exact m)
   have e:(!(bP rk r).isNone)=de w (.bi .au a b) r:=ki (by rw[jO,p.iff ok m,GI ok m];rfl)
   rw[<-e];simp[bI,av,Sn.enc,Sn.args,B4.w,n]
theorem GE{w:Wd}{s:Sn}:∀r∈aX w s,r<w.n:=λr m=>(mem_rof.mp m).1
theorem GG{w:Wd}(ok:w.Ok){s:Sn}:(aX w s).length<=1000:=by
 have:=ok.h24
 exact Nat.le_trans (length_filter_le _ _) (by simp;omega)
theorem Jz{C Γ1:Ev}{d:FL}{ps:List PV}{k:Int}(S:d C=.ok ps Γ1)(a:ps.map (·.d)=[.int k])(o:0<=k)(Y:k<=1000):rX d C=.ok ⟨.lst .leaf,.list (b9 0 k.toNat)⟩ Γ1:=by
 have P:cL k=true:=CM (by omega) (by omega)
 have U:=DW
 have m:k<=(sizeLine:Int):=by omega
 unfold rX;rw[S];simp only[Out.bind,a,kz,P,if_true,m]
theorem sq{w:Wd}(ok:w.Ok)(o:Γ[0]?=some (MB w.enc)):rX (ae (bp aK (ae (ah (ab 0) (eK (.int 0))) af)) af) Γ=.ok ⟨.lst .leaf,aR (List.range w.n)⟩ Γ:=by
 have G:=ok.g.lo
 have H:=ok.h24
 rw[Jz (Γ1:=Γ) (ps:=[⟨.leaf,.int w.n⟩]) (k:=(w.n:Int)) (by simp[o,Wd.enc,G]) rfl (by omega) (by omega),Int.toNat_natCast,DA]
theorem Hd{w:Wd}{s:Sn}{B:List Nat}(j:s.w=.su\/s.w=.au):aW [w.enc,s.enc,cv [A,B]]=.ok ⟨.tup [.leaf,.leaf],.tuple [aR A,aR B]⟩:=by
 have q:ah (ab 1) (eK (.int 0)) (av 3 [w.enc,s.enc,cv [A,B]])=.ok ⟨.leaf,.str s.w.t⟩ (av 3 [w.enc,s.enc,cv [A,B]]):=by
  cases s<;>simp[av,Sn.enc,Sn.w]
 refine aV ?_
 unfold dM;rw[fI,JX,EK,BP,q];simp[j,av,Ag]
theorem yH{w:Wd}(ok:w.Ok){x:PV}:ai 2 cX (ae (ab 0) (ae (ah (ab 2) (eK (.int 0))) af)) [MB w.enc,some x,MB (cv [A])]=.ok ⟨.lst .leaf,aR ((List.range w.n).filter λt=>!A.contains t)⟩ [MB w.enc,some x,MB (cv [A])]:=
 dE (ps:=[⟨.leaf,w.enc⟩,⟨.leaf,aR A⟩]) (aE (az rfl) (aE (km (j:=0) (ds:=[aR A]) (az rfl) aO rfl rfl rfl) aq)) (jk ok (r:=A)) rfl rfl
theorem Hb{w:Wd}(ok:w.Ok){s:Sn}(j:¬(s.w=.su\/s.w=.au)):aW [w.enc,s.enc,cv [A]]=.ok ⟨.tup [.lst .leaf,.lst .leaf],.tuple [aR (List.range w.n),aR ((List.range w.n).filter λt=>!A.contains t)]⟩:=by
 have q:ah (ab 1) (eK (.int 0)) [MB w.enc,MB s.enc,MB (cv [A])]=.ok ⟨.leaf,.str s.w.t⟩ [MB w.enc,MB s.enc,MB (cv [A])]:=by
  cases s<;>simp[Sn.enc,Sn.w]
 have a:=sq ok (Γ:=[MB w.enc,MB s.enc,MB (cv [A])]) rfl
 refine aV (ay (Γ1:=[MB w.enc,MB s.enc,MB (cv [A])]) (aT (t:=false) (Γ1:=[MB w.enc,MB s.enc,MB (cv [A])]) (cD (s:=.leaf) (aB q aO (by show bx false (.str s.w.t) cB=_;rw[CK,decide_eq_false j]))) nofun (λ_=>rfl)) (aS (cZ (aE a (aE (yH ok) aq)) rfl rfl) rfl))
theorem iu{w:Wd}(ok:w.Ok){s:Sn}(P:s.ok){R:D}(p:fG w s R):bM [w.enc,s.enc,cv (s.args.map (aX w)),R]=.ok ⟨.lst .leaf,aR (aX w s)⟩:=by
 have G:=ok.g.lo
 have H:=ok.h24
 have e:aw .leaf 4 (gh (ae (bp aK (ae (ah (ab 0) (eK (.int 0))) af)) af)) (aG bH (ai 5 ff (ae (ab 0) (ae (ab 1) (ae (ab 2) (ae (ab 3) (ae (ab 4) af))))))) (ab 4) (av 5 [w.enc,s.enc,cv (s.args.map (aX w)),R])=.ok ⟨.lst .leaf,.list (((List.range w.n).filter (de w s)).map λt=>rm t)⟩ (av 5 [w.enc,s.enc,cv (s.args.map (aX w)),R]):=by
  refine ui rm (List.range w.n) (de w s) (λt=>⟨.leaf,rm t⟩) (st:=true) ?_ (by simp[av]) rfl (by simp;omega) (λt A=>?_) (λt A _=>?_)
  .refine(kq (k:=(w.n:Int)) (ps:=[⟨.leaf,.int w.n⟩]) ?_ rfl (by omega) (by omega)).trans (by rw[<-DA];rfl)
   simp[av,Wd.enc,G]
  .have:=mQ ok P p (List.mem_range.mp A)
   simp[av,this]
  .simp[av]
 refine aV ?_
 unfold j6;rw[An,e];rfl
theorem Wd.Ok.check{w:Wd}(ok:w.Ok):bu [w.enc]=.ok ⟨.leaf,.none⟩:=tW (ok.g.wk (b:=24) ok.h24) (by omega) (ok.g.isW ok.h1 ok.h24)
end KC
namespace T
open PySem PySem.Spec L2
open PyProof.Rows hiding St
theorem lD{u:Type}(g:u->D){i:Nat}{body:FS}{Inv:List u->Ev->Prop}(U:∀a r C,Inv (a::r) C->i<C.length/\∃N,body (C.set i (MB (g a)))=.nx N/\Inv r N):∀(L:List u)(C:Ev),Inv L C->∃N,bV i body (L.map g) C=.nx N/\Inv [] N
 |[],C,h=>⟨C,rfl,h⟩
 |a::r,C,h=>by
  obtain⟨l,I,Y,M⟩:=U a r C h;obtain⟨S,e,P⟩:=lD g U r I M;refine⟨S,?_,P⟩
  rw[map_cons,bV,if_pos l,Y];exact e
theorem D9{C I S:Ev}{L e:F1}{s N:Sh}{xs ys:List D}(Z:L C=.ok ⟨s,.list xs⟩ I)(U:e I=.ok ⟨N,.list ys⟩ S)(Y:aF ⟨s,.list xs⟩ xs=true)(M:aF ⟨N,.list ys⟩ ys=true)(j:xs.length+ys.length<=10000):kK L e C=.ok ⟨.lst .leaf,.list (xs++ys)⟩ S:=by
 have H:(10000:Nat)<=sizeLine:=by decide
 have:xs.length+ys.length<=sizeLine:=Nat.le_trans j H
 unfold kK aZ;rw[Z];simp only[sy]
 rw[U];simp only[sy,Y,M,decide_eq_true this,Bool.and_self,if_true]
end T
namespace KC
open PySem PySem.Spec L2 T PySem.SeqAt
open PyProof.Rows hiding St
theorem Ec{n:Nat}{X v u:List D}(g:Gw (n:Int) n X v u)(Y:1<=n)(H:n<=24):∃w:Wd,w.Ok/\w.enc=nH X v u/\w.n=n:=by
 have E:∀l:List D,(∀r∈l,∃L,r=.list L/\kh L)->∃M:List (List Str),l=M.map uI/\∀r∈M,∀c∈r,PyData.strOk c=true:=by
  have one:∀L:List D,kh L->∃r:List Str,L=r.map .str/\∀c∈r,PyData.strOk c=true:=by
   intro L;induction L with
   |nil=>intro _;exact⟨[],rfl,by simp⟩
   |cons a r B=>
    intro h;obtain⟨x,rfl,F⟩:=h a mem_cons_self;obtain⟨t,rfl,A⟩:=B λb U=>h b (Ms _ U)
    exact⟨x::t,rfl,λc J=>(Mp J).elim (λe=>by rw[e];exact F) (A c)⟩
  intro l;induction l with
  |nil=>intro _;exact⟨[],rfl,by simp⟩
  |cons a r B=>
   intro h;obtain⟨L,rfl,F⟩:=h a mem_cons_self;obtain⟨x,rfl,d⟩:=one L F;obtain⟨M,rfl,C⟩:=B λb U=>h b (Ms _ U)
   exact⟨x::M,rfl,λc J=>(Mp J).elim (λe=>by rw[e];exact d) (C c)⟩
 have P:∀l:List D,(∀r∈l,∃o:List Int,r=.list (o.map .int)/\o.length<=30/\o≠[]/\(∀t∈o,0<=t/\t<(n:Int))/\o.Pairwise (· < ·))->∃S:List (List Nat),l=S.map aR/\∀r∈S,r≠[]/\r.length<=30/\∀t∈r,t<n:=by
  have one:∀o:List Int,(∀t∈o,0<=t/\t<(n:Int))->∃r:List Nat,o.map PyData.int=r.map rm/\r.length=o.length/\∀t∈r,t<n:=by
   intro o;induction o with
   |nil=>intro _;exact⟨[],rfl,rfl,by simp⟩
   |cons a r B=>
    intro h;have Z:=h a mem_cons_self
    obtain⟨t,e,K,A⟩:=B λb U=>h b (Ms _ U)
    refine⟨a.toNat::t,?_,by simp[K],λc J=>(Mp J).elim (λe=>by omega) (A c)⟩
    rw[map_cons,map_cons,e];congr 2
    omega
  intro l;induction l with
  |nil=>intro _;exact⟨[],rfl,by simp⟩
  |cons a r B=>
   intro h;obtain⟨o,rfl,q,j,N,_⟩:=h a mem_cons_self;obtain⟨x,e,K,F⟩:=one o N;obtain⟨S,rfl,I⟩:=B λb U=>h b (Ms _ U)
   refine⟨x::S,by rw[map_cons,e],λc J=>(Mp J).elim (λe=>by
    subst e;exact⟨λz=>j (List.length_eq_zero_iff.mp (by rw[<-K,z];rfl)),by omega,F⟩) (I c)⟩
 obtain⟨M,i,C⟩:=E v λr m=>let⟨L,a,b,_⟩:=g.m r m;⟨L,a,b⟩
 obtain⟨S,f,I⟩:=P u g.s;subst i f;refine⟨⟨n,X,M,S⟩,⟨g,Y,H,?_,?_,I,C⟩,rfl,rfl⟩
 .have:=g.lm;simpa using this
 .have:=g.ls;simpa using this
def knd:List Wr:=[.mark,.mark,.not,.and,.su,.au,.sn,.an,.sa,.aa,.or,.yes]
@[simp] theorem Ks(a:Wr):bx false (.str a.t) (.tuple [.str "and",.str "or",.str "some until",.str "all until"])=some (.bool (decide (a=.and\/a=.or\/a=.su\/a=.au))):=by cases a<;>kernel_rfl
theorem jX(l:List Int):intsOf (l.map .int)=some l:=by
 induction l with
 |nil=>rfl
 |cons a r B=>rw[map_cons,intsOf,B];rfl
theorem zx{s a:Sn}(h:a∈s.args):a.dep+1<=s.dep:=by
 cases s with
 |yes=>simp[Sn.args]at h
 |mk c=>simp[Sn.args]at h
 |un k b=>simp[Sn.args]at h;subst h;simp[Sn.dep]
 |bi k b c=>
  simp[Sn.args]at h
  simp only[Sn.dep]
  rcases h with rfl|rfl<;>omega
end KC
namespace KQ
open PySem PySem.Spec L2 T PySem.SeqAt KC
open PyProof.Rows hiding St
def d__law_world:FS:=(ao (aA false 3 (aj aQ (eK (.int 1)) (aj bj (ai 2 aD (ae (ab 0) (ae (ab 1) af))) (ab 2))))
  (ao (aA true 4 (aY .leaf af))
  (ao (aA true 5 (aY .leaf af))
  (ao (aA true 6 (aY .leaf af))
  (ao (dR 7 (gh (ae (ab 3) af))
  (ao (aA false 8 (ai 2 aD (ae (ab 0) (ae (aj aQ (aj aQ (ab 1) (eK (.int 1))) (ab 7)) af))))
  (ao (aN 4 (ai 3 aC (ae (ab 8) (ae (eK (.int 0)) (ae (eK (.int 2)) af)))))
  (ao (aN 5 (aw .leaf 11 (Aw "abc") (aG ag (aj bf (ai 3 aC (ae (ab 8) (ae (aj aQ (eK (.int 1)) (bp (AA "abc") (ae (ab 11) af))) (ae (eK (.int 2)) af)))) (eK (.int 1)))) (ab 11)))
  (ao (aA false 9 (aw .leaf 10 (gh (ae (ab 3) af)) (aG ag (aj bf (ai 3 aC (ae (ab 8) (ae (aj aQ (eK (.int 4)) (ab 10)) (ae (aj aQ (eK (.int 2)) (bp qB (ae (aj gO (ab 3) (eK (.int 3))) af))) af)))) (eK (.int 1)))) (ab 10)))
  (ao (bY (aG ag (aj bf (ab 9) (aY .leaf af))) (aA false 9 (aY .leaf (ae (ai 3 aC (ae (ab 8) (ae (aj aQ (eK (.int 4)) (ab 3)) (ae (ab 3) af)))) af))) aH)
  (aN 6 (ab 9))))))))
  (aJ (b4 (ae (cC 4) (ae (cC 5) (ae (cC 6) af))))))))))
def m__law_world:List MA->Res:=aI 12 d__law_world
abbrev eW:FS:=(ao (aA false 8 (ai 2 aD (ae (ab 0) (ae (aj aQ (aj aQ (ab 1) (eK (.int 1))) (ab 7)) af))))
  (ao (aN 4 (ai 3 aC (ae (ab 8) (ae (eK (.int 0)) (ae (eK (.int 2)) af)))))
  (ao (aN 5 (aw .leaf 11 (Aw "abc") (aG ag (aj bf (ai 3 aC (ae (ab 8) (ae (aj aQ (eK (.int 1)) (bp (AA "abc") (ae (ab 11) af))) (ae (eK (.int 2)) af)))) (eK (.int 1)))) (ab 11)))
  (ao (aA false 9 (aw .leaf 10 (gh (ae (ab 3) af)) (aG ag (aj bf (ai 3 aC (ae (ab 8) (ae (aj aQ (eK (.int 4)) (ab 10)) (ae (aj aQ (eK (.int 2)) (bp qB (ae (aj gO (ab 3) (eK (.int 3))) af))) af)))) (eK (.int 1)))) (ab 10)))
  (ao (bY (aG ag (aj bf (ab 9) (aY .leaf af))) (aA false 9 (aY .leaf (ae (ai 3 aC (ae (ab 8) (ae (aj aQ (eK (.int 4)) (ab 3)) (ae (ab 3) af)))) af))) aH)
  (aN 6 (ab 9)))))))
end KQ
namespace KC
open PySem PySem.Spec L2 T
open PyProof.Rows hiding St
def fu:FS:=(aJ (cV (aj (bJ true) (ab 0) (eK .none)) (cV (aj (bJ true) (ab 1) (eK .none)) (aj iN (ab 0) (ab 1)))))
def dI:List MA->Res:=aI 2 fu
open PySem.SeqAt
def LY(p:Int):D->Bool
 |.int o=>o==p
 |_=>false
def own(w:Wd)(p:Int):Nat->Bool:=jw (w.os.map (LY p))
def qw:Option Nat->Option Nat->Bool
 |some a,some b=>decide (a<b)
 |_,_=>false
end KC
namespace T
open PySem PySem.Spec L2
open PyProof.Rows hiding St
theorem boot_zip:bootBuiltins "zip"=some (.type "zip"):=by decide +kernel
def cY(i j:Nat)(v:FB)(m:F1)(s:Sh):List (MA×MA)->Ev->List MA->Out (List MA)
 |[],Γ,acc=>.ok acc Γ
 |(d,d2)::r,Γ,acc=>match v ((Γ.set i (MB d)).set j (MB d2))with
  |.ok true I=>(match m I with
   |.ok p S=>if T.coer s p&&decide (acc.length<sizeLine)then cY i j v m s r ((S.set i none).set j none) (acc++[p.d])else .no
   |_=>.no)
  |.ok false I=>if acc.length<sizeLine then cY i j v m s r ((I.set i none).set j none) acc else .no
  |_=>.no
end T
namespace KC
open PySem PySem.Spec L2 T PySem.SeqAt
open PyProof.Rows hiding St
variable{C:Ev}
def Wd.inn(w:Wd)(L:List Nat):Wd:=⟨w.n,w.os,w.m,w.s.map λa=>a.filter λt=>L.contains t⟩
abbrev gl(T L:List Nat):List Nat:=L.filter λr=>T.contains r
abbrev lst(rk:List (Option Nat))(L:List Nat):List Nat:=L.filter λr=>(bP rk r).isNone
def Ho(c:List (Option (Nat×Nat)))(t:Nat):Option (Nat×Nat):=c.getD t none
def KU(c:List (Option (Nat×Nat)))(a b t:Nat):Prop:=∃I u,Ho c t=some (I,u)/\(I<a\/(I=a/\(u<b\/(b=0/\u=0))))
structure TS where
 tn:List (Option (Nat×Nat))
 L:List Nat
 k:Nat
 lost:List Nat
 x7:Option PV
 x8:Option PV
structure TI(w:Wd)(p:Int)(T:List Nat)(b:TS):Prop where
 len:b.tn.length=w.n
 std:LK w.n b.L
 mem:∀r,r<w.n->(r∈b.L↔Ho b.tn r=none)
 c:∀r∈b.L,led (own w p r) (w.stp r) (·∈b.L)
 big:∀X,KN w.n w.stp (own w p) (·∈T) X->∀r,X r->r∈b.L
 los:∃rk,qW w.n (inn w.stp b.L) (own w p) b.L (gl T b.L) rk/\b.lost=lst rk b.L
 tk:∀r a j,Ho b.tn r=some (a,j)->a<b.k
 td:∀r a j,r<w.n->Ho b.tn r=some (a,j)->(j=0->r∉T)/\led (!own w p r) (w.stp r) (KU b.tn a j)
theorem v_or{L e:F1}{s:Sh}{a b:Bool}(Z:L C=.ok ⟨s,.bool a⟩ C)(U:e C=.ok ⟨.leaf,.bool b⟩ C):wF L e C=.ok ⟨.leaf,.bool (a||b)⟩ C:=by
 unfold wF aZ;rw[Z]
 cases a with
 |true=>cases s<;>rfl
 |false=>exact U
abbrev Km(w:Wd)(c:Str)(r:Nat):Prop:=c∈w.mks r
structure Gi(w:Wd)(M:List Str)(L off:List Nat):Prop where
 ne:off≠[]
 sub:∀r∈off,r∈L
 no:∀(R:Nat->Prop) X,Fr w.n w.stp R M (Km w) X->(∀r,X r->r∈L)->∀r∈off,¬X r
structure Gn(w:Wd)(M:List Str)(L:List Nat):Prop where
 c:∀r∈L,∃t∈w.stp r,t∈L
 a:∀m∈M,∀S:Nat->Prop,(∀r,r∈L->Km w m r->S r)->(∀r,r∈L->(∃t∈w.stp r,t∈L/\S t)->S r)->∀r,r∈L->S r
structure Mi where
 rows:List D
 L:List Nat
 row:D
structure FI(w:Wd)(R:List Nat)(M:List Str)(b:Mi):Prop where
 std:LK w.n b.L
 sub:∀r∈b.L,r∈R
 cnt:b.rows.length+b.L.length<=w.n
 big:∀X,Fr w.n w.stp (·∈R) M (Km w) X->∀r,X r->r∈b.L
 row:(b.row=.none/\Gn w M b.L)\/(∃off o,b.row=.tuple [aR off,o]/\Gi w M b.L off)
theorem AV{a:List Nat}{f:F1}{I N:Ev}{p:PV}{J:List PV}(h:f C=.ok p I)(E:A6 p=some J)(S:J.length=a.length)(b:putN a J I=some N):jG a f C=.nx N:=by
 unfold jG jv;rw[h];simp only[E,S,if_true,b]
theorem IB{r:List Nat}:shaped (aR r)=true:=DU λa Z=>by
 obtain⟨t,_,e⟩:=List.mem_map.mp Z;exact⟨(t:Int),e.symm⟩
abbrev wy(F R:List Nat):D:=.tuple [aR F,aR R]
theorem xW{w:Wd}(ok:w.Ok){i:Nat}(o:C[i]?=some (MB w.enc)):bp aK (ae (ah (ab i) (eK (.int 0))) af) C=.ok ⟨.leaf,.int (w.n:Int)⟩ C:=by
 have e:ah (ab i) (eK (.int 0)) C=.ok ⟨.leaf,.list w.os⟩ C:=by
  rw[Ao,az o];simp only[Out.bind,aO,Wd.enc,nH,EG,EL]
 refine bX (aE e aq) ?_
 simp[ok.g.lo]
end KC
namespace KQ
open PySem PySem.Spec L2 T PySem.SeqAt KC
open PyProof.Rows hiding St
abbrev GP(w:Wd)(p c:Int)(b:Bool)(l:List (Option Nat))(K H f:Option PV):Ev:=[MB w.enc,MB (.int p),MB (.int c),MB (.bool b),some ⟨.lst .leaf,fY l⟩,K,H,f]
end KQ
namespace KC
open PySem PySem.Spec L2 T
open PyProof.Rows hiding St
variable{C:Ev}
def jm:FS:=(ao (aA true 3 (aY .leaf af))
  (ao (dR 4 (gh (ae (bp aK (ae (ah (ab 0) (eK (.int 0))) af)) af))
  (ao (aA false 5 (aw .leaf 6 (aP (ah (ah (ab 0) (eK (.int 2))) (ab 4))) (aG ag (aj (bx false) (ab 6) (ab 1))) (ab 6)))
  (bY (fF (aG ag (aj bf (bp aK (ae (ab 5) af)) (bp aK (ae (ah (ah (ab 0) (eK (.int 2))) (ab 4)) af)))) (dw (dv (aG bH (ab 2))) (aG ag (aj gO (bp aK (ae (ab 5) af)) (eK (.int 0)))))) (aN 3 (ab 4)) aH)))
  (aJ (cC 3))))
def b7:List MA->Res:=aI 7 jm
def mS:FS:=(ao (aA false 4 (ab 2))
  (ao (dR 5 (gh (ae (bp aK (ae (ah (ab 0) (eK (.int 0))) af)) af))
  (ao (aA false 6 (ai 3 b7 (ae (ab 0) (ae (ab 4) (ae (ab 3) af)))))
  (aA false 4 (fT (ae (kK (ab 2) (aw .leaf 7 (aP (ab 1)) (dw (aG ag (aj (bx false) (ab 7) (ab 6))) (aG ag (aj (bx true) (ab 7) (ab 2)))) (ab 7))) af)))))
  (aJ (ab 4))))
def ic:List MA->Res:=aI 8 mS
def d__law_judge(a:List MA->Res):FS:=(ao (aA false 2 (rX (ae (bp aK (ae (ah (ab 0) (eK (.int 0))) af)) af)))
  (ao (aA false 3 (ah (ab 1) (eK (.int 0))))
  (ao (bY (aG ag (aj bf (ab 3) (eK (.str "yes")))) (aJ (ab 2)) aH)
  (ao (bY (aG ag (aj bf (ab 3) (eK (.str "mark")))) (aJ (aw .leaf 8 (aP (ab 2)) (aG ag (aj (bx false) (ah (ab 1) (eK (.int 1))) (ah (ah (ab 0) (eK (.int 1))) (ab 8)))) (ab 8))) aH)
  (ao (aA false 4 (ai 2 a (ae (ab 0) (ae (ah (ab 1) (eK (.int 1))) af))))
  (ao (aA false 5 (aw .leaf 8 (aP (ab 2)) (aG ag (aj (bx true) (ab 8) (ab 4))) (ab 8)))
  (ao (bY (aG ag (aj bf (ab 3) (eK (.str "not")))) (aJ (ab 5)) aH)
  (ao (bY (fF (aG ag (aj bf (ab 3) (eK (.str "some next")))) (aG ag (aj bf (ab 3) (eK (.str "all next"))))) (aJ (ai 3 b7 (ae (ab 0) (ae (ab 4) (ae (aj bf (ab 3) (eK (.str "all next"))) af))))) aH)
  (ao (bY (fF (aG ag (aj bf (ab 3) (eK (.str "some always")))) (aG ag (aj bf (ab 3) (eK (.str "all always"))))) (ao (aA false 7 (ai 4 ic (ae (ab 0) (ae (ab 2) (ae (ab 5) (ae (aj bf (ab 3) (eK (.str "some always"))) af))))))
  (aJ (aw .leaf 8 (aP (ab 2)) (aG ag (aj (bx true) (ab 8) (ab 7))) (ab 8)))) aH)
  (ao (aA false 6 (ai 2 a (ae (ab 0) (ae (ah (ab 1) (eK (.int 2))) af))))
  (ao (bY (aG ag (aj bf (ab 3) (eK (.str "and")))) (aJ (aw .leaf 8 (aP (ab 4)) (aG ag (aj (bx false) (ab 8) (ab 6))) (ab 8))) aH)
  (ao (bY (aG ag (aj bf (ab 3) (eK (.str "or")))) (aJ (aw .leaf 8 (aP (ab 2)) (fF (aG ag (aj (bx false) (ab 8) (ab 4))) (aG ag (aj (bx false) (ab 8) (ab 6)))) (ab 8))) aH)
  (aJ (ai 4 ic (ae (ab 0) (ae (ab 4) (ae (ab 6) (ae (aj bf (ab 3) (eK (.str "all until"))) af))))))))))))))))))
def ia:Nat->List MA->Res
 |0=>λ_=>.no
 |n+1=>aI 9 (d__law_judge (ia n))
def m__law_judge:List MA->Res:=ia 20
open PySem.SeqAt
abbrev gP(w:Wd)(p:Nat->Bool):List Nat:=(List.range w.n).filter p
theorem yQ{w:Wd}{p:Nat->Bool}{r:Nat}:r∈gP w p↔r<w.n/\p r=true:=by rw[List.mem_filter,mem_range]
theorem zd{w:Wd}{p:Nat->Bool}{r:Nat}(m:r<w.n):(gP w p).contains r=p r:=by
 rw[Bool.eq_iff_iff,contains_iff_mem,yQ];exact⟨λh=>h.2,λh=>⟨m,h⟩⟩
theorem uw{w:Wd}{p q:Nat->Bool}(h:∀r,r<w.n->p r=q r):gP w p=gP w q:=List.filter_congr λr m=>h r (List.mem_range.mp m)
theorem qE{l:List Nat}{p:Nat->Bool}:((l.filter p).length=l.length↔l.all p=true)/\(0<(l.filter p).length↔l.any p=true):=by
 induction l with
 |nil=>simp
 |cons a r B=>
  have:=length_filter_le p r
  rw[filter_cons]
  cases h:p a with
  |true=>simp only[if_true,length_cons,List.all_cons,List.any_cons,h,Bool.true_and,Bool.true_or,Nat.add_right_cancel_iff];exact⟨B.1,by simp⟩
  |false=>simp only[Bool.false_eq_true,if_false,length_cons,List.all_cons,List.any_cons,h,Bool.false_and,Bool.false_or];exact⟨⟨λz=>by omega,λz=>by cases z⟩,B.2⟩
theorem Gf{w:Wd}(ok:w.Ok)(o:C[0]?=some (MB w.enc)):gh (ae (bp aK (ae (ah (ab 0) (eK (.int 0))) af)) af) C=.ok ⟨(List.range w.n).map rm,true⟩ C:=by
 have G:=ok.g.lo
 have H:=ok.h24
 refine(kq (k:=(w.n:Int)) (ps:=[⟨.leaf,.int w.n⟩]) ?_ rfl (by omega) (by omega)).trans (by rw[<-DA];rfl)
 simp[o,Wd.enc,G]
theorem ir{w:Wd}(ok:w.Ok){p:Nat->Bool}{each:Bool}:b7 [w.enc,aR (gP w p),.bool each]=.ok ⟨.lst .leaf,aR (gP w λr=>cw (!each) ((w.stp r).map p))⟩:=by
 have H:=ok.h24
 obtain⟨N,e,b,E,K,rfl,U⟩:=lD rm (i:=4) (body:=(ao (aA false 5 (aw .leaf 6 (aP (ah (ah (ab 0) (eK (.int 2))) (ab 4))) (aG ag (aj (bx false) (ab 6) (ab 1))) (ab 6)))
  (bY (fF (aG ag (aj bf (bp aK (ae (ab 5) af)) (bp aK (ae (ah (ah (ab 0) (eK (.int 2))) (ab 4)) af)))) (dw (dv (aG bH (ab 2))) (aG ag (aj gO (bp aK (ae (ab 5) af)) (eK (.int 0)))))) (aN 3 (ab 4)) aH)))
  (Inv:=λr C=>∃b E K,C=[MB w.enc,MB (aR (gP w p)),MB (.bool each),some ⟨.lst .leaf,aR b⟩,E,K,none]/\∃l,l++r=List.range w.n/\b=l.filter λr=>cw (!each) ((w.stp r).map p)) (λr cP C ⟨b,E,K,hΓ,l,S,U⟩=>by
   subst hΓ;have m:r<w.n:=List.mem_range.mp (by rw[<-S];simp)
   have j:b.length<=24:=by
    rw[U];refine Nat.le_trans (length_filter_le _ _) ?_
    have:=congrArg List.length S
    simp at this
    omega
   have y:=ok.at2 m
   have J:aw .leaf 6 (aP (ah (ah (ab 0) (eK (.int 2))) (ab 4))) (aG ag (aj (bx false) (ab 6) (ab 1))) (ab 6) [MB w.enc,MB (aR (gP w p)),MB (.bool each),some ⟨.lst .leaf,aR b⟩,MB (rm r),K,none]=.ok ⟨.lst .leaf,aR ((w.stp r).filter p)⟩ [MB w.enc,MB (aR (gP w p)),MB (.bool each),some ⟨.lst .leaf,aR b⟩,MB (rm r),K,none]:=by
    have f:(w.stp r).filter p=(w.stp r).filter λt=>(gP w p).contains t:=List.filter_congr λt A=>(zd (ok.stp_lt A)).symm
    rw[f];exact ui rm (w.stp r) (λt=>(gP w p).contains t) (λt=>⟨.leaf,rm t⟩) (st:=true) (by simp[Wd.enc,y]) (by simp) rfl (AQ ok) (λt A=>by simp[uh]) (λt A _=>by simp)
   have d:=qE (l:=w.stp r) (p:=p)
   have B:=ok.stp_ne m
   have a:(decide (((w.stp r).filter p).length=(w.stp r).length)||(!each&&decide (0<((w.stp r).filter p).length)))=cw (!each) ((w.stp r).map p):=by
    rw[Bool.eq_iff_iff];simp only[Bool.or_eq_true,Bool.and_eq_true,decide_eq_true_eq,d.1,d.2]
    cases each with
    |true=>simp[cw]
    |false=>
     simp only[cw,Bool.not_false,if_true,List.any_map,true_and]
     constructor
     .rintro(h|h)
      .obtain⟨t,A⟩:=exists_mem_of_ne_nil _ B
       exact List.any_eq_true.mpr ⟨t,A,List.all_eq_true.mp h t A⟩
      .exact h
     .exact .inr
   have k:aN 3 (ab 4) [MB w.enc,MB (aR (gP w p)),MB (.bool each),some ⟨.lst .leaf,aR b⟩,MB (rm r),MB (aR ((w.stp r).filter p)),none]=.nx [MB w.enc,MB (aR (gP w p)),MB (.bool each),some ⟨.lst .leaf,.list (b.map rm++[rm r])⟩,MB (rm r),MB (aR ((w.stp r).filter p)),none]:=
    Ib rfl (az rfl) rfl (by simp;omega)
   have u:(fF (aG ag (aj bf (bp aK (ae (ab 5) af)) (bp aK (ae (ah (ah (ab 0) (eK (.int 2))) (ab 4)) af)))) (dw (dv (aG bH (ab 2))) (aG ag (aj gO (bp aK (ae (ab 5) af)) (eK (.int 0)))))) [MB w.enc,MB (aR (gP w p)),MB (.bool each),some ⟨.lst .leaf,aR b⟩,MB (rm r),MB (aR ((w.stp r).filter p)),none]=.ok (cw (!each) ((w.stp r).map p)) [MB w.enc,MB (aR (gP w p)),MB (.bool each),some ⟨.lst .leaf,aR b⟩,MB (rm r),MB (aR ((w.stp r).filter p)),none]:=by
    rw[<-a];have g:bf (.int (((w.stp r).filter p).map rm).length) (.int ((w.stp r).map rm).length)=some (.bool (decide (((w.stp r).filter p).length=(w.stp r).length))):=by
     rw[eq_int,length_map,length_map];congr 2
     rw[Bool.eq_iff_iff,beq_iff_eq,decide_eq_true_eq];omega
    have X:gO (.int (((w.stp r).filter p).map rm).length) (.int 0)=some (.bool (decide (0<((w.stp r).filter p).length))):=by
     rw[EH,length_map];congr 2
     rw[Bool.eq_iff_iff,decide_eq_true_eq,decide_eq_true_eq];omega
    have c:ah (ah (ab 0) (eK (.int 2))) (ab 4) [MB w.enc,MB (aR (gP w p)),MB (.bool each),some ⟨.lst .leaf,aR b⟩,MB (rm r),MB (aR ((w.stp r).filter p)),none]=.ok ⟨.leaf,aR (w.stp r)⟩ [MB w.enc,MB (aR (gP w p)),MB (.bool each),some ⟨.lst .leaf,aR b⟩,MB (rm r),MB (aR ((w.stp r).filter p)),none]:=by simp[Wd.enc,y]
    exact iP (cD (aB (bX (aE (az rfl) aq) rfl) (bX (aE c aq) rfl) g)) (gC (lU (dk (az rfl))) (cD (aB (bX (aE (az rfl) aq) rfl) aO X)))
   refine⟨by simp,?_⟩
   have n:aA false 5 (aw .leaf 6 (aP (ah (ah (ab 0) (eK (.int 2))) (ab 4))) (aG ag (aj (bx false) (ab 6) (ab 1))) (ab 6)) [MB w.enc,MB (aR (gP w p)),MB (.bool each),some ⟨.lst .leaf,aR b⟩,MB (rm r),K,none]=.nx [MB w.enc,MB (aR (gP w p)),MB (.bool each),some ⟨.lst .leaf,aR b⟩,MB (rm r),MB (aR ((w.stp r).filter p)),none]:=by rw[oa,J];simp
   cases A:cw (!each) ((w.stp r).map p)with
   |false=>
    rw[A]at u;refine⟨_,ay n (aT u nofun (λ_=>rfl)),b,_,_,rfl,l++[r],by rw[append_assoc];exact S,?_⟩
    rw[List.filter_append,List.filter_cons_of_neg (by rw[A];simp),U]
    simp
   |true=>
    rw[A]at u;refine⟨_,ay n (aT u (λ_=>k) nofun),b++[r],MB (rm r),MB (aR ((w.stp r).filter p)),by simp,l++[r],by rw[append_assoc];exact S,?_⟩
    rw[List.filter_append,U];simp[A]) (List.range w.n) [MB w.enc,MB (aR (gP w p)),MB (.bool each),some ⟨.lst .leaf,aR []⟩,none,none,none] ⟨_,_,_,rfl,[],rfl,rfl⟩
 obtain⟨l,S,U⟩:=U;rw[append_nil]at S;subst S U;exact aV (ay (DR (ma (s:=.leaf) aq rfl rfl rfl) rfl (by simp[av])) (ay (gU (Gf ok rfl) e) (aS (DQ rfl) rfl)))
@[simp] theorem LC(a:Wr):bf (.str a.t) (.str "some next")=some (.bool (decide (a=.sn))):=fS a .sn
@[simp] theorem FP(a:Wr):bf (.str a.t) (.str "all next")=some (.bool (decide (a=.an))):=fS a .an
@[simp] theorem LD(a:Wr):bf (.str a.t) (.str "some always")=some (.bool (decide (a=.sa))):=fS a .sa
@[simp] theorem LG(a:Wr):bf (.str a.t) (.str "all always")=some (.bool (decide (a=.aa))):=fS a .aa
@[simp] theorem LB(a:Wr):bf (.str a.t) (.str "some until")=some (.bool (decide (a=.su))):=fS a .su
@[simp] theorem LF(a:Wr):bf (.str a.t) (.str "all until")=some (.bool (decide (a=.au))):=fS a .au
theorem AX{L:F1}{p:PV}(h:L C=.ok p C)(P:p.s.isView=false):aJ L C=.rt p:=aS h P
theorem rZ{o:Sh}{d:D}(h:o.isView=false):coer .leaf ⟨o,d⟩=true:=by
 unfold coer;simp[h]
abbrev GJ(w:Wd)(s:Sn)(E K H f:Option PV):Ev:=[MB w.enc,MB s.enc,MB (aR (List.range w.n)),MB (.str s.w.t),E,K,H,f,none]
theorem FW{w:Wd}(ok:w.Ok){s:Sn}{E K H f:Option PV}{v:FB}{i:Nat}{A:List Nat}{c:Nat->Bool}(l:(GJ w s E K H f)[i]?=some (MB (aR A)))(d:A.length<=10000)(J:∀t∈A,v ((GJ w s E K H f).set 8 (MB (rm t)))=.ok (c t) ((GJ w s E K H f).set 8 (MB (rm t)))):aw .leaf 8 (aP (ab i)) v (ab 8) (GJ w s E K H f)=.ok ⟨.lst .leaf,aR (A.filter c)⟩ (GJ w s E K H f):=
 ui rm A c (λt=>⟨.leaf,rm t⟩) (st:=true) (by rw[vo,nZ,l];simp) (by simp) rfl d J (λt a _=>⟨az rfl,rfl⟩)
theorem yb{w:Wd}{a:Sn}:gP w (λt=>!(aX w a).contains t)=aX w (.un .not a):=by
 refine uw λr m=>?_
 rw[sA m];exact ki (by rw[Bool.not_eq_true',<-Bool.not_eq_true,satB_iff];rfl)
theorem rng_fil{w:Wd}:List.range w.n=gP w (λ_=>true):=by rw[gP,List.filter_eq_self.mpr λ_ _=>rfl]
end KC
namespace T
open PySem
variable{L:Array Nat}{k:Int}{t:SetTable}{h Z:Heap}{S:Int->Bool}{l:Addr}{B:Nat}{M:Model}
theorem ID{L:Array Nat}{j p:Nat}(C:∀k,k<L.size->(L.getD k j<j↔k<p)):∀(a G l:Nat),G<=p->p<=l->l<=L.size->l-G<=a->SetTable.below.go L j a G l=p
 |0,G,l,h1,h2,h3,h4=>by
  unfold SetTable.below.go;omega
 |n+1,G,l,h1,h2,h3,h4=>by
  unfold SetTable.below.go;by_cases c:G<l
  .rw[if_pos c]
   have E:=C ((G+l) / 2) (by omega)
   simp only
   by_cases d:L.getD ((G+l) / 2) j<j
   .rw[if_pos d]
    have:=E.mp d
    exact ID C n _ _ (by omega) h2 h3 (by omega)
   .rw[if_neg d]
    have:¬(G+l) / 2<p:=λz=>d (E.mpr z)
    exact ID C n _ _ h1 (by omega) (by omega) (by omega)
  .rw[if_neg c]
   omega
theorem IE{j p:Nat}(C:∀k,k<L.size->(L.getD k j<j↔k<p))(P:p<=L.size):SetTable.below L j=p:=ID C L.size 0 L.size (Nat.zero_le _) P (Mz _) (by omega)
def Rs(L:Array Nat):Prop:=L.toList.Pairwise (· < ·)
theorem Rs.lt(h:Rs L){i k:Nat}(l:i<L.size)(G:k<L.size)(X:i<k):L[i]<L[k]:=by
 have:=(List.pairwise_iff_getElem.mp h) i k (by simpa using l) (by simpa using G) X
 simpa using this
theorem qS:SetTable.below L 0=0:=IE (λk _=>by simp) (Nat.zero_le _)
theorem AN{k j:Nat}(G:k<L.size):L.getD k j=L[k]:=by
 unfold Array.getD;rw[dif_pos G];rfl
theorem qT(h:Rs L){i:Nat}(l:i<L.size):SetTable.below L (L[i]+1)=i+1:=by
 refine IE (λk G=>?_) (by omega)
 rw[AN G];rcases Nat.lt_trichotomy k i with c|c|c
 .have:=h.lt G l c
  omega
 .subst c
  omega
 .have:=h.lt l G c
  omega
theorem jK(j:Nat):∀(l:List Nat),l.Pairwise (· < ·)->∀k,k<l.length->(l.getD k j<j↔k<l.countP (·<j))
 |[],_,k,hk=>by simp at hk
 |a::l,h,k,hk=>by
  obtain⟨Y,M⟩:=List.pairwise_cons.mp h;rw[List.countP_cons];by_cases c:a<j
  .simp only[c,decide_true,if_true]
   cases k with
   |zero=>simpa using c
   |succ k=>
    have:=jK j l M k (by simpa using hk)
    simp only[List.getD_cons_succ]
    omega
  .have z:l.countP (·<j)=0:=List.countP_eq_zero.mpr λb U=>by
    have:=Y b U
    simp
    omega
   simp only[c,decide_false,Bool.false_eq_true,if_false,z]
   cases k with
   |zero=>simp;omega
   |succ k=>
    have d:k<l.length:=by simpa using hk
    simp only[List.getD_cons_succ]
    rw[Mr,Mq d];have:=Y _ (getElem_mem d)
    simp only[Option.getD_some]
    omega
theorem Rs.point(h:Rs L)(j:Nat):(∀k,k<L.size->(L.getD k j<j↔k<SetTable.below L j))/\SetTable.below L j<=L.size:=by
 have C:∀k,k<L.size->(L.getD k j<j↔k<L.toList.countP (·<j)):=λk G=>by
  have:=jK j L.toList h k (by simpa using G)
  rw[Mr,Mq (by simpa using G)]at this
  rw[AN G];simpa using this
 have J:L.toList.countP (·<j)<=L.size:=by
  have:=List.countP_le_length (p:=(·<j)) (l:=L.toList)
  simpa using this
 rw[IE C J];exact⟨C,J⟩
theorem Rs.insert(h:Rs L){j:Nat}(A:L[SetTable.below L j]?≠some j):Rs (SetTable.insertAt L (SetTable.below L j) j):=by
 obtain⟨C,P⟩:=h.point j;generalize SetTable.below L j=p at C P A
 unfold Rs SetTable.insertAt;have e:(((L.extract 0 p).push j)++L.extract p L.size).toList=L.toList.take p++[j]++L.toList.drop p:=by
  simp[Array.toList_extract,List.extract]
  rw[List.take_of_length_le (by simp)]
 rw[e,append_assoc,List.pairwise_append];have f:∀a∈L.toList.take p,a<j:=λa Z=>by
  obtain⟨k,G,rfl⟩:=getElem_of_mem Z;rw[length_take]at G;have d:k<L.size:=by
   have:k<L.toList.length:=by omega
   simpa using this
  have:=(C k d).mpr (by omega)
  rw[AN d]at this;simpa using this
 have i:∀a∈L.toList.drop p,j<a:=λa Z=>by
  obtain⟨k,G,rfl⟩:=getElem_of_mem Z;rw[length_drop,Array.length_toList]at G;have d:p+k<L.size:=by omega
  have q:¬L.getD (p+k) j<j:=λz=>by have:=(C (p+k) d).mp z;omega
  rw[AN d]at q;have N:(L.toList.drop p)[k]=L[p+k]:=by simp
  rw[N];have B:L[p+k]≠j:=λz=>by
   cases k with
   |zero=>
    simp only[Nat.add_zero]at z
    exact A (by rw[Array.getElem?_eq_getElem (by omega),z])
   |succ k=>
    have c:p<L.size:=by omega
    have s:¬L.getD p j<j:=λz=>by have:=(C p c).mp z;omega
    rw[AN c]at s;have:=h.lt c d (by omega)
    omega
  omega
 refine⟨h.sublist (List.take_sublist _ _),?_,λa Z b U=>?_⟩
 .rw[singleton_append,List.pairwise_cons]
  exact⟨i,h.sublist (List.drop_sublist _ _)⟩
 .have g:=f a Z
  rw[singleton_append]at U;rcases Mp U with rfl|U
  .exact g
  .have:=i b U
   omega
theorem uY{n:Nat}:Rs (Array.range n):=by
 unfold Rs;rw[Array.toList_range];exact List.pairwise_lt_range
structure Tb(b:Bool)(t:SetTable):Prop where
 led:b=false->t.led=true
 rs:Rs t.place
 nd:t.dummies=#[]
theorem Tb.fresh{b:Bool}:Tb b (.fresh 0 0 (!b)):=⟨λe=>by rw[e];rfl,List.Pairwise.nil,rfl⟩
theorem Tb.standIn{b:Bool}(h:Tb b t)(n:Nat):Tb b (t.standIn n):=⟨h.led,uY,rfl⟩
theorem Tb.orStandIn{b:Bool}(h:Tb b t)(n:Nat):Tb b (t.orStandIn n):=by
 unfold SetTable.orStandIn;split
 .exact h
 .exact h.standIn n
theorem Tb.plain{b:Bool}{t:SetTable}(h:Tb b t)(p:Bool):Tb b {t with plain:=p}:=⟨h.led,h.rs,h.nd⟩
theorem oK{j:Nat}:SetTable.has #[] j=false:=by
 unfold SetTable.has;simp
theorem Tb.put{b:Bool}(h:Tb b t){j:Nat}(A:t.place[SetTable.below t.place j]?≠some j):Tb b (t.put j).1:=by
 refine⟨h.led,h.rs.insert A,?_⟩
 show(if SetTable.has t.dummies j=true then _ else t.dummies)=#[]
 rw[h.nd,oK];rfl
theorem iY{b:Bool}{t:SetTable}(h:Tb b t){Z:Nat->Int}{k:Int}:∀(a:Nat)(p:SetTable.Probe),p.dummy=none->∀j d,SetTable.probe.go t Z k a p=some (.empty j d)->d=none/\t.place[SetTable.below t.place j]?≠some j
 |0,p,_,j,d,e=>by unfold SetTable.probe.go at e;cases e
 |n+1,p,hp,j,d,e=>by
  unfold SetTable.probe.go at e;have c:(t.advance p).dummy=none:=by
   unfold SetTable.advance;split
   .exact hp
   .exact hp
  cases q:t.slot p.j with
  |empty=>
   rw[q]at e;simp only[Option.some.injEq,SetTable.Met.empty.injEq]at e
   obtain⟨rfl,rfl⟩:=e;refine⟨hp,λz=>?_⟩
   unfold SetTable.slot at q;simp only[z,beq_self_eq_true,if_true]at q
   cases q
  |dummy=>
   unfold SetTable.slot at q;simp only[h.nd,oK]at q
   split at q<;>simp at q
  |live i=>
   rw[q]at e;simp only at e
   split at e
   .cases e
   .exact iY h n _ c j d e
theorem Tb.free{b:Bool}(h:Tb b t){j:Nat}{d:Bool}(e:t.freeSlot k=some (j,d)):t.place[SetTable.below t.place j]?≠some j:=by
 unfold SetTable.freeSlot at e
 cases q:t.probe (λ_=>k+1) k (t.probeStart k)with
 |none=>rw[q]at e;cases e
 |some m=>
  rw[q]at e
  cases m with
  |candidate _ _ _=>cases e
  |empty i x=>
   obtain⟨rfl,l⟩:=iY h _ _ rfl i x q;simp only[Option.some.injEq,Prod.mk.injEq]at e
   obtain⟨rfl,_⟩:=e;exact l
theorem Tb.layNew{b:Bool}(h:Tb b t)(F:Array (Int×Value))(k:Int)(x:Value):Tb b (PySem.layNew t F k x).2.1:=by
 unfold PySem.layNew
 cases e:t.freeSlot k with
 |none=>exact h.standIn _
 |some a=>
  obtain⟨j,d⟩:=a;exact(h.put (h.free e)).orStandIn _
theorem yW{b led plain:Bool}{d i H:Nat}{P:Array Int}{o:Array Nat}(S:b=false->led=true)(e:SetTable.laid d i H led plain P=some (t,o)):Tb b t:=by
 unfold SetTable.laid at e
 cases q:SetTable.layClean d P with
 |none=>rw[q]at e;cases e
 |some h=>
  rw[q]at e;simp only[Option.bind_eq_bind,Option.bind_some,Option.pure_def,Option.some.injEq,Prod.mk.injEq]at e
  obtain⟨rfl,_⟩:=e;refine⟨S,?_,rfl⟩
  unfold Rs;simp only[List.toList_toArray]
  rw[pairwise_map];refine List.Pairwise.filterMap _ (R:=(· < ·)) (λa I f c J C K=>?_) List.pairwise_lt_range
  cases x:h.getD a none with
  |none=>rw[x]at J;cases J
  |some y=>
   cases g:h.getD I none with
   |none=>rw[g]at K;cases K
   |some j=>
    rw[x]at J;rw[g]at K
    cases J
    cases K
    exact f
theorem Tb.relay{b:Bool}(h:Tb b t)(F:Array (Int×Value))(n:Nat):Tb b (relayAll t F n).2.1:=by
 unfold relayAll
 cases e:t.relaid (F.map (·.1)) n with
 |none=>exact h.standIn _
 |some c=>
  obtain⟨N,o⟩:=c;simp only
  split
  .unfold SetTable.relaid at e
   exact yW h.led e
  .exact h.standIn _
open PySem.Spec L2
open PyProof.Rows hiding St
abbrev d8(w:World):Bool:=w.params.followText "set-order"
def SetT(P:Program)(w:World)(h:Heap)(a:Addr)(S:Int->Bool)(n:Nat):Prop:=
 ∃o F N t,h.get? a=some o/\o.ExactSet/\o.data=.set F N t/\ElemsOf (intKind P w) F.toList/\(∀k,S k=true↔∃e∈F.toList,(intKind P w).is k e.2=true)/\F.size<scanBound/\t.fits F.size=true/\F.size=n/\Tb (d8 w) t
section
variable{P:Program}{w:World}{A:Around}{E:Value->Shared->Prop}{s:Shared}
theorem SetT.at{a:Addr}{n:Nat}(x:SetT P w h a S n)(k:∀o,h.get? a=some o->Z.get? a=some o):SetT P w Z a S n:=by
 obtain⟨o,F,N,t,K,r⟩:=x;exact⟨o,F,N,t,k o K,r⟩
theorem SetT.congr{a:Addr}{q:Int->Bool}{n i:Nat}(x:SetT P w h a S n)(e:∀k,S k=q k)(g:n=i):SetT P w h a q i:=by
 have:S=q:=funext e
 subst this g;exact x
theorem rl{a:Addr}{o:Obj}{F v:Array (Int×Value)}{b:Nat}{N:SetTable}(K:h.get? a=some o)(l:o.ExactSet)(y:o.data=.set F b t)(c:ElemsOf (intKind P w) v.toList)(d:∀k,S k=true↔∃e∈v.toList,(intKind P w).is k e.2=true)(U:v.size<scanBound)(g:N.fits v.size=true)(u:Tb (d8 w) N):(h.update a (Obj.putSet v N)).get? a=some {o with data:=.set v (b+1) N}/\SetT P w (h.update a (Obj.putSet v N)) a S v.size:=by
 have q:=(SetOf_store (knd:=intKind P w) K l y c d U g).1
 exact⟨q,_,v,b+1,N,q,l,rfl,c,d,U,g,rfl,u⟩
theorem Ge{a:Addr}{n:Nat}{x:Value}{Q:Bool->Shared->Prop}(G:(intKind P w).is k x=true)(F:x.scannable=true)(I:SetT P w s.heap a S n)(m:n+1<scanBound)(h:∀Z,Heap.SameBut a s.heap Z->SetT P w Z a (λi=>S i||decide (i=k)) (if S k then n else n+1)->∀b,Q b {s with heap:=Z}):wpAny (model P w) A (setAddHashed a x ((intKind P w).hash k)) Q E s:=by
 obtain⟨o,es,ep,t,K,l,hd,c,hm,U,g,hn,u⟩:=I;unfold setAddHashed setAddHashedIn;refine wpAny_holding (Mw (wpAny_setState_of K hd g ?_))
 dsimp only;rw[byScan_of F U c,if_pos rfl];unfold setAddByScan;refine Mw (Mw (wpAny_rule (Mw (wpAny_setScan_of G K hd g c ?_))))
 cases q:List.findIdx? (λe=>(intKind P w).is k e.2) es.toList with
 |some j=>
  dsimp only;obtain⟨hj,C,_⟩:=List.findIdx?_eq_some_iff_getElem.mp q
  have sk:S k=true:=(hm k).mpr ⟨_,getElem_mem hj,C⟩
  refine Mx (Mx ?_)
  have z:=h s.heap (Heap.SameBut.refl a s.heap) ⟨o,es,ep,t,K,l,hd,c,λi=>?_,U,g,by rw[sk];exact hn,u⟩ false
  .have v:s={s with heap:=s.heap}:=by cases s;rfl
   rw[v];exact z
  .rw[Bool.or_eq_true,decide_eq_true_eq,<-hm i]
   exact⟨λy=>y.elim id λe=>e▸sk,.inl⟩
 |none=>
  dsimp only;have sk:S k=false:=by
   cases e:S k with
   |false=>rfl
   |true=>
    obtain⟨y,f,C⟩:=(hm k).mp e;have:=List.findIdx?_eq_none_iff.mp q y f
    rw[C]at this
    cases this
  have X:=layNew_perm t es ((intKind P w).hash k) x
  have ft:=layNew_fits t es ((intKind P w).hash k) x
  have r:=u.layNew es ((intKind P w).hash k) x
  generalize layNew t es ((intKind P w).hash k) x=L at X ft r ⊢
  obtain⟨N,t1,wd,gv⟩:=L;dsimp only at X ft r ⊢
  rw[Array.toList_push]at X;have el1:ElemsOf (intKind P w) N.toList:=(c.push G F).perm X
  have M:=λi=>mem_push_iff G hm X i
  have sz:N.size=n+1:=by rw[<-Array.length_toList,X.length_eq,length_append,Array.length_toList,hn];rfl
  have H:N.size<scanBound:=by rw[sz];exact m
  have gw:∀(b:Bool){s1:Shared}{R:Unit->Shared->Prop},R () s1->wpAny (model P w) A (match b with|true=>rule "set.scan.the-table-gave-way" |false=>pure ()) R E s1:=λb s1 R y=>by
   cases b
   .exact Mx y
   .exact wpAny_rule y
  have fin:∀Z,Heap.SameBut a s.heap Z->SetT P w Z a (λi=>S i||decide (i=k)) N.size->∀b,Q b {s with heap:=Z}:=λZ sb y=>by
   have:=h Z sb
   rw[sk]at this;rw[sz]at y;exact this y
  have J:∀Y:SetTable,Y.fits N.size=true->Tb (d8 w) Y->∀{R:Option Bool->Shared->Prop},(∀Z,(∀b,Q b {s with heap:=Z})->R (some true) {s with heap:=Z})->wpAny (model P w) A (do
    storeSet a N Y
    if(!wd&&Y.tooFull)=true then do
      (match(relayAll Y N (SetTable.grown N.size)).2.2 with|true=>rule "set.scan.the-table-gave-way" |false=>pure ())
      storeSet a (relayAll Y N (SetTable.grown N.size)).1 (relayAll Y N (SetTable.grown N.size)).2.1
      pure (some true)
     else pure (some true)) R E s:=λY f2 tb2 R p=>by
   refine Mw (wpAny_storeSet_of K hd ?_ (fits_of_scanBound H))
   obtain⟨B,s1⟩:=rl K l hd el1 M H f2 tb2;have sb1:=Heap.SameBut.update s.heap a (Obj.putSet N Y)
   split
   .have pr:=relayAll_perm Y N (SetTable.grown N.size)
    have d:=relayAll_fits Y N (SetTable.grown N.size)
    have tr:=tb2.relay N (SetTable.grown N.size)
    generalize relayAll Y N (SetTable.grown N.size)=Rl at pr d tr ⊢
    obtain⟨e2,t3,g2⟩:=Rl;dsimp only at pr d tr ⊢
    have sz2:e2.size=N.size:=by rw[<-Array.length_toList,pr.length_eq,Array.length_toList]
    have b2:e2.size<scanBound:=by rw[sz2];exact H
    refine Mw (gw _ (Mw (wpAny_storeSet_of B rfl ?_ (fits_of_scanBound b2))))
    obtain⟨_,s2⟩:=rl (P:=P) (S:=λi=>S i||decide (i=k)) B l rfl (el1.perm pr) (λi=>(M i).trans ⟨λ⟨e,he,y⟩=>⟨e,pr.mem_iff.mpr he,y⟩,λ⟨e,he,y⟩=>⟨e,pr.mem_iff.mp he,y⟩⟩) b2 d tr
    rw[sz2]at s2;exact Mx (p _ (fin _ (sb1.trans (Heap.SameBut.update _ a _)) s2))
   .exact Mx (p _ (fin _ sb1 s1))
  refine Mw (gw _ ?_)
  split
  .refine Mw ?_
   rw[hashByValue_scannable 8 F];refine Mx ?_
   refine J _ ?_ ?_ λZ y=>?_
   .split
    .exact ft
    .exact SetTable.fits_plain_off ft
   .split
    .exact r
    .exact r.plain false
   .exact Mx (y true)
  .refine Mw (Mx ?_)
   simp only[if_true]
   exact J _ ft r λZ y=>Mx (y true)
end
section
variable{P:Program}{w:World}{A:Around}{R:Result->Shared->Prop}{I:Addr}{fp wr:List Addr}{G:Array GenState->Array GenState->Prop}{n:Nat}{Pr:Nat->Value->Prop}{Sn:Nat->Shared->Prop}
theorem Ea(W:WalksS P w A.in1 I fp wr G n Pr Sn)(S:Addr)(y:S∉fp)(d:Nat->Int)(f:∀i v,Pr i v->∃t,v=.int (d i) t)(U:n+1<scanBound):∀(k i:Nat)(s:Shared),n-i=k->i<=n->Sn i s->SetT P w s.heap S (λz=>(firstMet d i).any (·==z)) (firstMet d i).length ->
   (∀N,Moved (S::wr) G s N->SetT P w N.heap S (λz=>(firstMet d n).any (·==z)) (firstMet d n).length->R (.ok (.ret .none)) N)->codeAny (model P w) A (.builtin "set.update.loop" ⟨[.ref S,.ref I],[]⟩) R s:=by
 have j:S∉wr:=λz=>y (W.sub _ z)
 have r:∀b∈wr,b∈S::wr:=λb z=>Ms _ z
 intro k;induction k with
 |zero=>
  intro i s M l m x p;obtain rfl:i=n:=by omega
  refine codeAny_builtin F.entry_set_update_loop ?_
  rw[Around.under_plainId F.plain_set_update_loop _];refine Mw (W.done s _ _ m λN H=>?_)
  exact Mx (p N (H.mono r) (x.at λo e=>H.heap S o j e))
 |succ k B=>
  intro i s M l m x p;have lt:i<n:=by omega
  refine codeAny_builtin F.entry_set_update_loop ?_
  rw[Around.under_plainId F.plain_set_update_loop _];refine Mw (W.item i s _ _ lt m λv N q u H=>?_)
  obtain⟨t,rfl⟩:=f i v q;have g:=x.at λo e=>H.heap S o j e
  refine Mw (wpAny_holding ?_)
  unfold setAdd;refine wpAny_holding (Mw ((intKind P w).pyHash (k:=d i) (intKind_is _ _ _ _) ?_))
  have a:(firstMet d i).length+1<scanBound:=by have:=firstMet_length_le d i;omega
  refine Ge (s:={N with toks:=N.toks+1}) (intKind_is _ _ _ _) rfl g a λZ L X b=>?_
  have K:SetT P w Z S (λz=>(firstMet d (i+1)).any (·==z)) (firstMet d (i+1)).length:=X.congr (λz=>by rw[firstMet_succ,step_any]) (by rw[firstMet_succ,step_length])
  refine Mx ⟨plainId_quiet F.plain_set_update_loop _,B (i+1) _ (by omega) lt (W.frame _ N _ _ u (Nat.le_succ _) λc J o e=>?_) K λC h E=>?_⟩
  .rw[L.2 c λz=>y (by rw[<-z];exact J)]
   exact e
  .refine p C (Moved.trans W.gtrans ((H.mono r).then_heap (Nat.le_succ _) λc o J e=>?_) h) E
   rw[L.2 c λz=>J (by rw[z];exact mem_cons_self)]
   exact e
end
section
variable{P:Program}{w:World}{A:Around}{E:Value->Shared->Prop}{s:Shared}
abbrev jP(w:World):Obj:={cls:=.type "set",dict:=none,data:=.set #[] 0 (.fresh 0 0 (!d8 w))}
theorem Fv(a:Value){Q:Value->Shared->Prop}(h:Q (.ref s.heap.objs.size) {s with heap:=s.heap.push (jP w)}):codeAny (model P w) A (.call (.builtin "set.__new__") ⟨[.type "set",a],[]⟩) (wants Q E) s:=by
 refine codeAny_of_tree ?_
 refine Mw (wpAny_of_eq (F.newCall_set_1 a) (Mx ⟨plainId_quiet F.plain_set_new _,codeAny_builtin F.entry_set_new ?_⟩))
 rw[Around.under_plainId F.plain_set_new _];unfold Builtin.«set.__new__» Builtin.Frozenset.newClass
 have r:=sub_set_self
 obtain⟨C,g,d,j,X⟩:=s;dsimp only;wp_walk
 refine wpAny_askSetting (Mx ?_)
 dsimp only;simp only[newObj]
 exact Mw (wpAny_alloc (Mx (Mx h)))
theorem zo{a:Addr}(e:h.get? a=some (jP w)):SetT P w h a (λ_=>false) 0:=
 ⟨_,#[],0,_,e,⟨rfl,rfl,rfl⟩,rfl,λe R=>by simp at R,λk=>by simp,by decide,rfl,rfl,Tb.fresh⟩
theorem qQ{g:Array Value}{ns:List Int}{Q:Value->Shared->Prop}(hh:A.handled=none)(S:s.heap.IsList l g)(hi:IntsAre g.toList ns)(U:g.size+1<scanBound)(h:∀(Z:Heap)(j:Nat),SetT P w Z s.heap.objs.size (λz=>(firstMet (λi=>ns.getD i 0) g.size).any (·==z)) (firstMet (λi=>ns.getD i 0) g.size).length->(∀b o,s.heap.get? b=some o->Z.get? b=some o)->Q (.ref s.heap.objs.size) {s with heap:=Z,toks:=j}):wpAny (model P w) A (call (.type "set") [.ref l]) Q E s:=by
 obtain⟨c,k,mro⟩:=F.called_set.mro;have made:=F.called_set.made
 have sub:=F.called_set.sub
 refine wpAny_call (codeAny_of_tree ?_)
 show wpAny _ _ (callAny (.type "set") _) _ _ _
 refine Mx ⟨Code.quiet_builtin _ (by decide +kernel),codeAny_builtin F.entry_type_call ?_⟩
 rw[Around.under_plain (weight_type_call_type "set" [.ref l] []) rfl]
 have Y:=F.called_set.notType
 have M:=F.called_set.canCreate
 have ct:=F.typeCall_set_1 (.ref l)
 repeat (any_goals (first|assumption|wp_step))
 refine codeAny_mono (Fv (.ref l) (E:=E) (Q:=λob n=>ob=.ref s.heap.objs.size/\n={s with heap:=s.heap.push (jP w)}) ⟨rfl,rfl⟩) λr n m=>?_
 cases r with
 |error e=>exact m
 |ok d=>
  cases d with
  |ret ob=>
   obtain⟨rfl,rfl⟩:=m;have gS:(s.heap.push (jP w)).get? s.heap.objs.size=some (jP w):=Heap.get?_push_size _ rfl
   have ty:Shared.TypeIs {s with heap:=s.heap.push (jP w)} (.ref s.heap.objs.size) "set":=⟨_,gS,rfl⟩
   have li:=F.called_set.init.lookup
   have bi:=F.called_set.init.bind (.ref s.heap.objs.size)
   repeat (any_goals (first|assumption|wp_step))
   refine codeAny_mono (codeAny_call_builtin (R:=wants (λr G=>r=.none/\∃Z j,G={s with heap:=Z,toks:=j}/\SetT P w Z s.heap.objs.size (λz=>(firstMet (λi=>ns.getD i 0) g.size).any (·==z)) (firstMet (λi=>ns.getD i 0) g.size).length/\(∀b o,s.heap.get? b=some o->Z.get? b=some o)) E) F.called_set.init.plain F.entry_set_init (check_set_init_1 ty ?_)) λC G a=>?_
   .have J:=S
    obtain⟨ol,gl,t,f,dl⟩:=S;obtain⟨u,od,odt,X⟩:=ol;simp only at t dl
    subst t dl;have gl':(s.heap.push (jP w)).get? l=some {cls:=.type "list",dict:=od,data:=.seq g f,slots:=X}:=My _ gl
    have n:=F.sub_list_set
    have G:=F.sub_list_frozenset
    have ne:(Value.type "list"==Value.type "dict")=false:=by decide
    have p:(s.heap.push (jP w)).IsList l g:=⟨_,gl',rfl,f,rfl⟩
    unfold Builtin.«set.__init__» noKeywords Builtin.Frozenset.updateFrom
    generalize hPI:pyIter=PI
    wp_walk
    subst hPI;refine wpAny_pyIter_list p (Mw (wpAny_runValue ?_))
    have L:l<s.heap.objs.size:=Heap.lt_size gl
    have h3:A.in1.in1.in1.handled=none:=by simp[hh]
    have nI:l≠(s.heap.push (jP w)).objs.size:=by
     rw[Heap.size_push];exact Nat.ne_of_lt (Nat.lt_succ_of_lt L)
    have nf:s.heap.objs.size∉[(s.heap.push (jP w)).objs.size,l]:=by
     rw[Heap.size_push];simp only[mem_cons,not_mem_nil,or_false,not_or]
     exact⟨Nat.ne_of_lt (Nat.lt_succ_self _),Nat.ne_of_gt L⟩
    refine Ea ((Walks.list h3 _ l nI g).toS) s.heap.objs.size nf (λi=>ns.getD i 0) (λi v e=>IntsAre.int_at hi i v (by rw[Array.getElem?_toList];exact e)) U (g.size-0) 0 _ (by omega) (Nat.zero_le _) ⟨⟨_,Heap.get?_push_size _ rfl,rfl,rfl⟩,p.push _⟩ ?_ λs' H x=>?_
    .exact(zo (My _ gS)).congr (λ_=>rfl) rfl
    .obtain⟨Z,g',d',tk',B⟩:=s'
     have N:g'=s.gens:=H.gens
     have e2:d'=s.drawn:=H.drawn
     have I:B=s.os:=H.os
     subst N e2 I;refine Mx (Mx ⟨rfl,Z,tk',rfl,x,λb o e=>?_⟩)
     have y:b≠s.heap.objs.size:=Nat.ne_of_lt (Heap.lt_size e)
     have K:b≠(s.heap.push (jP w)).objs.size:=by
      rw[Heap.size_push];exact Nat.ne_of_lt (Nat.lt_succ_of_lt (Heap.lt_size e))
     exact H.heap b o (by simp only[mem_cons,not_mem_nil,or_false,not_or];exact⟨y,K⟩) (My _ (My _ e))
   .cases C with
    |error e=>exact a
    |ok q=>
     cases q with
     |ret r=>
      obtain⟨rfl,Z,j,rfl,x,kp⟩:=a;repeat (any_goals (first|assumption|wp_step))
      exact h _ _ x kp
     |_=>exact a.elim
  |_=>exact m.elim
end
theorem mN:entryFor table "set.__iter__"=some Builtin.«frozenset.__iter__»:=entryFor_alias (id' := "frozenset.__iter__") (by kernel_rfl) rfl (by decide +kernel) (by kernel_rfl)
theorem slot_si_next:Slot "set_iterator" "__next__" "set_iterator.__next__":=
 .of (owner := "set_iterator") (n := "__next__") (by rw[typeLookup_type,builtinLookup_eq_fast];kernel_rfl) (by decide +kernel) (by decide +kernel) (by decide +kernel) (by first|exact .inl (by decide +kernel)|exact .inr (by decide +kernel)) (by rw[isSubtype_type];kernel_rfl)
theorem Hm:entryFor table "set_iterator.__next__"=some Builtin.«set_iterator.__next__»:=entryFor_of_tree (by kernel_rfl)
theorem G7(a:Value):argsOk "set_iterator.__next__" ⟨[a],[]⟩:=by
 unfold argsOk;rw[signature?_of (id := "set_iterator.__next__") (n:=['_','_','t','x','e','n','_','_']) (o:=['r','o','t','a','r','e','t','i','_','t','e','s']) (by kernel_rfl) (show Manifest.owners.lookup (String.ofList ['r','o','t','a','r','e','t','i','_','t','e','s'].reverse)=some Manifest.sig_set_iterator by kernel_rfl)]
 kernel_rfl
theorem rE{u:Type}(b:Nat->Nat):∀(a k:Nat)(l:List u)(out:Array u),l.length=a->(pickOrder.go b a k l out).toList.Perm (out.toList++l)
 |0,k,l,out,h=>by
  unfold pickOrder.go;rw[List.length_eq_zero_iff.mp h,append_nil]
 |n+1,k,l,out,h=>by
  unfold pickOrder.go;have lt:b k % l.length<l.length:=Nat.mod_lt _ (by omega)
  generalize b k % l.length=j at lt
  rw[Mq lt];simp only
  have B:=rE b n (k+1) (l.eraseIdx j) (out.push l[j]) (by rw[List.length_eraseIdx_of_lt lt];omega)
  refine B.trans ?_
  rw[Array.toList_push,append_assoc];refine List.Perm.append_left _ ?_
  rw[singleton_append];rw[List.eraseIdx_eq_take_drop_succ];have e:l=l.take j++l[j]::l.drop (j+1):=by rw[List.getElem_cons_drop,List.take_append_drop]
  conv=>rhs;rw[e]
  exact List.perm_middle.symm
theorem Jb{u:Type}(b:Nat->Nat)(L:Array u):(pickOrder b L).toList.Perm L.toList:=by
 unfold pickOrder;have:=rE b L.size 0 L.toList #[] (by simp)
 simpa using this
section
variable{P:Program}{w:World}{A:Around}{E:Value->Shared->Prop}{s:Shared}{S it:Addr}{o:Obj}{es:Array (Int×Value)}{ep:Nat}{t:SetTable}
theorem rK(a:d8 w=true)(K:s.heap.get? S=some o)(y:o.data=.set es ep t)(g:t.fits es.size=true){i:Nat}{Q:Option (Value×Nat)->Shared->Prop}(h:Q (((pickOrder (w.params.setOrder S ep) es)[i]?).map λe=>(e.2,B)) s):wpAny (model P w) A (setNext S B i ep) Q E s:=by
 unfold setNext;refine Mw (wpAny_setState_of K y g ?_)
 dsimp only;refine Mw ?_
 unfold setsByText;refine Mw (wpAny_askSetting (Mx ?_))
 show wpAny (model P w) A (if d8 w=true then _ else _) Q E s
 rw[if_pos a];simp only[bne_self_eq_false,Bool.false_eq_true,if_false]
 refine Mw ?_
 unfold setWalk;refine Mw (wpAny_setState_of K y g ?_)
 dsimp only;refine Mw ?_
 unfold setsByText;refine Mw (wpAny_askSetting (Mx ?_))
 show wpAny (model P w) A (if d8 w=true then _ else _) _ E s
 rw[if_pos a];exact Mw (wpAny_askSetting (Mx (Mx h)))
theorem lE(g:t.fits es.size=true):t.place.size=es.size:=by
 unfold SetTable.fits at g;rw[Bool.and_eq_true,beq_iff_eq]at g;exact g.1
theorem rN(a:d8 w=false)(u:Tb (d8 w) t)(C:(!t.plain&&decide (es.size>1))=false)(K:s.heap.get? S=some o)(y:o.data=.set es ep t)(g:t.fits es.size=true){i:Nat}{Q:Option (Value×Nat)->Shared->Prop}(h:Q (match es[SetTable.below t.place B]?,t.place[SetTable.below t.place B]? with|some (_,x),some j=>some (x,j+1)|_,_=>none) s):wpAny (model P w) A (setNext S B i ep) Q E s:=by
 have led:=u.led a
 unfold setNext;refine Mw (wpAny_setState_of K y g ?_)
 dsimp only;refine Mw ?_
 unfold setsByText;refine Mw (wpAny_askSetting (Mx ?_))
 show wpAny (model P w) A (if d8 w=true then _ else _) Q E s
 rw[if_neg (by rw[a];exact Bool.false_ne_true)]
 show wpAny (model P w) A (if(!t.plain&&decide (es.size>1))=true then _ else _) Q E s
 rw[if_neg (by rw[C];exact Bool.false_ne_true)]
 show wpAny (model P w) A ((if(!t.led&&!es.isEmpty)=true then _ else _) >>= _) Q E s
 rw[if_neg (by rw[led];simp)]
 exact Mw (Mx (Mx h))
end
def SetIt(h:Heap)(l S:Addr)(f:Value)(i n N:Nat):Prop:=∃o,h.get? l=some o/\o.cls=.type "set_iterator"/\o.data=.fields #[f,.int i 0,.ref S,.int n 0,.int N 0]
theorem SetIt.at{S:Addr}{f:Value}{i n N:Nat}(x:SetIt h l S f i n N)(k:∀o,h.get? l=some o->Z.get? l=some o):SetIt Z l S f i n N:=let⟨o,a,b⟩:=x;⟨o,k o a,b⟩
section
variable{P:Program}{w:World}{A:Around}{E:Value->Shared->Prop}{s:Shared}{S it:Addr}{o:Obj}{es:Array (Int×Value)}{ep:Nat}{t:SetTable}{i n sl nx:Nat}{x:Value}{Q:Option Value->Shared->Prop}
theorem oO(l:SetIt s.heap it S (.int sl 0) i n ep)(K:s.heap.get? S=some o)(y:o.data=.set es ep t)(g:t.fits es.size=true)(j:es.size=n)(L:∀(A:Around)(E:Value->Shared->Prop)(R:Option (Value×Nat)->Shared->Prop),R (some (x,nx)) s->wpAny (model P w) A (setNext S sl i ep) R E s)(k:∀Z,SetIt Z it S (.int nx 0) (i+1) n ep->Heap.SameBut it s.heap Z->Q (some x) {s with heap:=Z}):wpAny (model P w) A (pyNext (.ref it)) Q E s:=by
 obtain⟨r,gi,q,f⟩:=l;have ty:s.TypeIs (.ref it) "set_iterator":=⟨r,gi,q⟩
 unfold pyNext;refine Mw (wpAny_attempt (wpAny_callSpecial?_slot (name:=Str.ofString "__next__") ty slot_si_next (wpAny_call_entry slot_si_next ty Hm ?_ (G7 _))))
 unfold Builtin.«set_iterator.__next__»
 refine Mw (Mx ?_)
 refine Mw (wpAny_fieldsOf gi f ?_)
 dsimp only;refine Mw (wpAny_setEntries_of K y g ?_)
 rw[if_neg (by rw[j];simp)]
 simp only[Int.toNat_natCast]
 refine Mw (L _ _ _ ?_)
 dsimp only;refine Mw (wpAny_setField gi f (by simp) ?_)
 have B:=Heap.get?_update_self (Obj.mapFields (·.setIfInBounds 0 (rawInt nx))) gi (Obj.isFreed_of_fields (Obj.data_mapFields f _))
 have F:=Obj.data_mapFields f (·.setIfInBounds 0 (rawInt nx))
 refine Mw (wpAny_setField B F (by simp) (Mx ⟨x,rfl,Mx (k _ ?_ ((Heap.SameBut.update ..).trans (Heap.SameBut.update ..)))⟩))
 refine⟨_,Heap.get?_update_self _ B (Obj.isFreed_of_fields (Obj.data_mapFields F _)),(Obj.cls_mapFields ..).trans ((Obj.cls_mapFields ..).trans q),?_⟩
 rw[Obj.data_mapFields F];simp[rawInt]
theorem rW(d:A.handled=none)(l:SetIt s.heap it S (.int sl 0) i n ep)(K:s.heap.get? S=some o)(y:o.data=.set es ep t)(g:t.fits es.size=true)(j:es.size=n)(L:∀(A:Around)(E:Value->Shared->Prop)(R:Option (Value×Nat)->Shared->Prop),R none s->wpAny (model P w) A (setNext S sl i ep) R E s)(k:∀Z,Heap.ExtBut it s.heap Z->Q none {s with heap:=Z}):wpAny (model P w) A (pyNext (.ref it)) Q E s:=by
 obtain⟨r,gi,q,f⟩:=l;have ty:s.TypeIs (.ref it) "set_iterator":=⟨r,gi,q⟩
 unfold pyNext;refine Mw (wpAny_attempt (wpAny_callSpecial?_slot (name:=Str.ofString "__next__") ty slot_si_next (wpAny_call_entry slot_si_next ty Hm ?_ (G7 _))))
 unfold Builtin.«set_iterator.__next__»
 refine Mw (Mx ?_)
 refine Mw (wpAny_fieldsOf gi f ?_)
 dsimp only;refine Mw (wpAny_setEntries_of K y g ?_)
 rw[if_neg (by rw[j];simp)]
 simp only[Int.toNat_natCast]
 refine Mw (L _ _ _ ?_)
 dsimp only;refine Mw (wpAny_setField gi f (by simp) ?_)
 refine Mw ?_
 simp only[newExc,newTuple]
 refine Mw (wpAny_newObj_type ?_ (by size_fits))
 refine Mw (m:=firstArgMember _ _) (wpAny_of_eq (a:=Value.none) (by first|rfl|(simp only[firstArgMember];rfl)) ?_)
 refine wpAny_newObj_type ?_ (by size_fits)
 simp only[raiseNew]
 refine Mw (wpAny_handled ?_)
 rw[show A.in1.handled=none from d];refine Mw (Mx (wpAny_throw ?_))
 refine Mw (wpAny_isInstance (T := "StopIteration") (b:=true) ⟨_,Heap.get?_push_size _ rfl,rfl⟩ isSubtype_stop ?_)
 exact Mx (k _ (((Heap.SameBut.update ..).extBut.push _).push _))
end
theorem gX:Slot "set_iterator" "__iter__" "set_iterator.__iter__":=
 .of (owner := "set_iterator") (n := "__iter__") (by rw[typeLookup_type,builtinLookup_eq_fast];kernel_rfl) (by decide +kernel) (by decide +kernel) (by decide +kernel) (by first|exact .inl (by decide +kernel)|exact .inr (by decide +kernel)) (by rw[isSubtype_type];kernel_rfl)
theorem kI:entryFor table "set_iterator.__iter__"=some Builtin.«dict_keyiterator.__iter__»:=entryFor_alias (id' := "dict_keyiterator.__iter__") (by kernel_rfl) (by first|rfl|decide +kernel) (by decide +kernel) (by kernel_rfl)
theorem m5(a:Value):argsOk "set_iterator.__iter__" ⟨[a],[]⟩:=by
 unfold argsOk;rw[signature?_of (id := "set_iterator.__iter__") (n:=['_','_','r','e','t','i','_','_']) (o:=['r','o','t','a','r','e','t','i','_','t','e','s']) (by kernel_rfl) (show Manifest.owners.lookup (String.ofList ['r','o','t','a','r','e','t','i','_','t','e','s'].reverse)=some Manifest.sig_set_iterator by kernel_rfl)]
 kernel_rfl
section
variable{P:Program}{w:World}{A:Around}{E:Value->Shared->Prop}{s:Shared}{S it:Addr}{o:Obj}{es:Array (Int×Value)}{ep:Nat}{t:SetTable}{i n:Nat}{f:Value}
theorem IA{Q:Value->Shared->Prop}(l:SetIt s.heap it S f i n ep)(h:Q (.ref it) s):wpAny (model P w) A (pyIter (.ref it)) Q E s:=by
 obtain⟨r,gi,q,_⟩:=l;have ty:s.TypeIs (.ref it) "set_iterator":=⟨r,gi,q⟩
 refine wpAny_pyIter_slot ty gX (wpAny_call_entry gX ty kI ?_ (m5 _))
 show wpAny _ _ (ret (.ref it)) _ _ s
 exact Mx ⟨_,rfl,"set_iterator",_,ty,slot_si_next.lookup,h⟩
theorem xG(d:A.handled=none)(c:d8 w=true)(B:S≠it)(y:o.data=.set es ep t)(g:t.fits es.size=true)(j:es.size=n):Walks P w A it [it,S] [it] n (λi v=>((pickOrder (w.params.setOrder S ep) es).toList.map (·.2))[i]?=some v) (λi h=>SetIt h it S (.int 0 0) i n ep/\h.get? S=some o) where
 sub:=λb U=>by simp at U;simp[U]
 frame:=λ_ _ _ m G=>⟨m.1.at λo e=>G it (by simp) o e,G S (by simp) o m.2⟩
 item:=λi s Q E l m k=>by
  have p:(pickOrder (w.params.setOrder S ep) es).size=n:=by rw[<-Array.length_toList,(Jb _ es).length_eq,Array.length_toList,j]
  have q:i<(pickOrder (w.params.setOrder S ep) es).size:=by rw[p];exact l
  refine oO (x:=((pickOrder (w.params.setOrder S ep) es)[i]).2) (nx:=0) m.1 m.2 y g j (λA E R h=>rK c m.2 y g (by rw[Array.getElem?_eq_getElem q];exact h)) λZ a L=>?_
  exact k _ Z s.toks (by rw[getElem?_map,Array.getElem?_toList,Array.getElem?_eq_getElem q];rfl) ⟨a,L.extBut S o B m.2⟩ λb o U e=>L.extBut b o (λz=>U (by simp[z])) e
 done:=λs Q E m k=>by
  have p:(pickOrder (w.params.setOrder S ep) es).size=n:=by rw[<-Array.length_toList,(Jb _ es).length_eq,Array.length_toList,j]
  exact rW d m.1 m.2 y g j (λA E R h=>rK c m.2 y g (by rw[Array.getElem?_eq_none (by omega)];exact h)) λZ N=>k Z s.toks λb o U e=>N b o (λz=>U (by simp[z])) e
 self:=λ_ _ _ _ m k=>IA m.1 k
abbrev sL(t:SetTable)(i:Nat):Nat:=if i=0 then 0 else t.place.getD (i-1) 0+1
theorem nN(u:Tb (d8 w) t)(g:t.fits es.size=true)(l:i<=es.size):SetTable.below t.place (sL t i)=i:=by
 have a:=lE g
 unfold sL;by_cases c:i=0
 .rw[if_pos c,c]
  exact qS
 .rw[if_neg c,AN (by omega),qT u.rs (by omega)]
  omega
theorem xH(d:A.handled=none)(p:d8 w=false)(u:Tb (d8 w) t)(C:(!t.plain&&decide (es.size>1))=false)(B:S≠it)(y:o.data=.set es ep t)(g:t.fits es.size=true)(j:es.size=n):Walks P w A it [it,S] [it] n (λi v=>(es.toList.map (·.2))[i]?=some v) (λi h=>SetIt h it S (.int (sL t i) 0) i n ep/\h.get? S=some o) where
 sub:=λb U=>by simp at U;simp[U]
 frame:=λ_ _ _ m G=>⟨m.1.at λo e=>G it (by simp) o e,G S (by simp) o m.2⟩
 item:=λi s Q E l m k=>by
  have r:=lE g
  have q:i<es.size:=by omega
  have c:i<t.place.size:=by omega
  refine oO (x:=(es[i]).2) (nx:=sL t (i+1)) m.1 m.2 y g j (λA E R h=>rN p u C m.2 y g ?_) λZ a L=>?_
  .rw[nN u g (by omega),Array.getElem?_eq_getElem q,Array.getElem?_eq_getElem c]
   have e:sL t (i+1)=t.place[i]+1:=by
    unfold sL;rw[if_neg (by omega),Nat.add_sub_cancel,AN c]
   rw[e]at h;exact h
  .exact k _ Z s.toks (by rw[getElem?_map,Array.getElem?_toList,Array.getElem?_eq_getElem q];rfl) ⟨a,L.extBut S o B m.2⟩ λb o U e=>L.extBut b o (λz=>U (by simp[z])) e
 done:=λs Q E m k=>by
  refine rW d m.1 m.2 y g j (λA E R h=>rN p u C m.2 y g ?_) λZ N=>k Z s.toks λb o U e=>N b o (λz=>U (by simp[z])) e
  rw[nN u g (by omega),Array.getElem?_eq_none (by omega)]
  exact h
 self:=λ_ _ _ _ m k=>IA m.1 k
theorem qU{a:Source}{n:Nat}{Q:Nat->Shared->Prop}(j:n≠0)(h:Q (M.w.draws a (s.drawn.get a) % n) {s with drawn:=s.drawn.bump a}):wpAny M A (choose a n) Q E s:=λ_ _ _=>⟨j,h⟩
theorem tP{u:Type}(n:Nat):∀(l:List u)(s:Shared){Q:List u->Shared->Prop},l.length=n->(∀G d,G.Perm l->Q G {s with drawn:=d})->wpAny M A (drawOrder n l) Q E s:=by
 induction n with
 |zero=>
  intro l s Q b h;rw[List.length_eq_zero_iff.mp b]at h ⊢;have:=h [] s.drawn (List.Perm.refl _)
  have e:s={s with drawn:=s.drawn}:=by cases s;rfl
  unfold drawOrder;rw[e];exact Mx this
 |succ n B=>
  intro l s Q b h
  cases l with
  |nil=>cases b
  |cons a l=>
   unfold drawOrder;refine Mw (qU (by simp) ?_)
   have lt:M.w.draws Source.order (s.drawn.get Source.order) % (a::l).length<(a::l).length:=Nat.mod_lt _ (by simp)
   generalize M.w.draws Source.order (s.drawn.get Source.order) % (a::l).length=j at lt
   rw[Mq lt];dsimp only;refine Mw (B _ _ (by rw[List.length_eraseIdx_of_lt lt];omega) λG d X=>Mx (h _ d ?_))
   refine(List.Perm.cons _ X).trans ?_
   rw[List.eraseIdx_eq_take_drop_succ];have e:(a::l)=(a::l).take j++(a::l)[j]::(a::l).drop (j+1):=by rw[List.getElem_cons_drop,List.take_append_drop]
   conv=>rhs;rw[e]
   exact List.perm_middle.symm
end
section
variable{P:Program}{w:World}{A:Around}{E:Value->Shared->Prop}{s:Shared}{S it T:Addr}{o oT:Obj}{es:Array (Int×Value)}{ep c:Nat}{t:SetTable}{i n:Nat}{x:Value}{pl:List Nat}{Q:Option Value->Shared->Prop}
abbrev uo(pl:List Nat):Array Value:=(pl.map λ(i:Nat)=>rawInt i).toArray
theorem yY(l:SetIt s.heap it S (.ref T) i n ep)(K:s.heap.get? S=some o)(y:o.data=.set es ep t)(g:t.fits es.size=true)(j:es.size=n)(a:s.heap.get? T=some oT)(dT:oT.data=.seq (uo pl) c){p:Nat}{e:Int×Value}(C:pl[i]?=some p)(R:es[p]?=some e)(k:∀Z,SetIt Z it S (.ref T) (i+1) n ep->Heap.SameBut it s.heap Z->Q (some e.2) {s with heap:=Z}):wpAny (model P w) A (pyNext (.ref it)) Q E s:=by
 obtain⟨r,gi,q,f⟩:=l;have ty:s.TypeIs (.ref it) "set_iterator":=⟨r,gi,q⟩
 unfold pyNext;refine Mw (wpAny_attempt (wpAny_callSpecial?_slot (name:=Str.ofString "__next__") ty slot_si_next (wpAny_call_entry slot_si_next ty Hm ?_ (G7 _))))
 unfold Builtin.«set_iterator.__next__»
 refine Mw (Mx ?_)
 refine Mw (wpAny_fieldsOf gi f ?_)
 dsimp only;refine Mw (wpAny_setEntries_of K y g ?_)
 rw[if_neg (by rw[j];simp)]
 refine Mw (wpAny_seqItems a dT ?_)
 have N:(uo pl)[Int.toNat (i:Int)]?=some (rawInt p):=by
  rw[Int.toNat_natCast,getElem?_toArray,getElem?_map,C];rfl
 dsimp only;rw[N];simp only[rawInt,Int.toNat_natCast]
 refine Mw ?_
 unfold setNextDrawn;refine Mw (wpAny_setState_of K y g ?_)
 dsimp only;simp only[bne_self_eq_false,Bool.false_eq_true,if_false]
 rw[R];refine Mx ?_
 refine Mw (wpAny_setField gi f (by simp) (Mx ⟨e.2,rfl,Mx (k _ ?_ (Heap.SameBut.update ..))⟩))
 refine⟨_,Heap.get?_update_self _ gi (Obj.isFreed_of_fields (Obj.data_mapFields f _)),(Obj.cls_mapFields ..).trans q,?_⟩
 rw[Obj.data_mapFields f];simp[rawInt]
theorem C5(d:A.handled=none)(l:SetIt s.heap it S (.ref T) i n ep)(K:s.heap.get? S=some o)(y:o.data=.set es ep t)(g:t.fits es.size=true)(j:es.size=n)(p:s.heap.get? T=some oT)(dT:oT.data=.seq (uo pl) c)(C:pl[i]?=none)(k:∀Z,Heap.ExtBut it s.heap Z->Q none {s with heap:=Z}):wpAny (model P w) A (pyNext (.ref it)) Q E s:=by
 obtain⟨r,gi,q,f⟩:=l;have ty:s.TypeIs (.ref it) "set_iterator":=⟨r,gi,q⟩
 unfold pyNext;refine Mw (wpAny_attempt (wpAny_callSpecial?_slot (name:=Str.ofString "__next__") ty slot_si_next (wpAny_call_entry slot_si_next ty Hm ?_ (G7 _))))
 unfold Builtin.«set_iterator.__next__»
 refine Mw (Mx ?_)
 refine Mw (wpAny_fieldsOf gi f ?_)
 dsimp only;refine Mw (wpAny_setEntries_of K y g ?_)
 rw[if_neg (by rw[j];simp)]
 refine Mw (wpAny_seqItems p dT ?_)
 have N:(uo pl)[Int.toNat (i:Int)]?=none:=by
  rw[Int.toNat_natCast,getElem?_toArray,getElem?_map,C];rfl
 dsimp only;rw[N];dsimp only;refine Mw (wpAny_setField gi f (by simp) ?_)
 have B:=Heap.get?_update_self (Obj.mapFields (·.setIfInBounds 0 (rawInt 0))) gi (Obj.isFreed_of_fields (Obj.data_mapFields f _))
 have F:=Obj.data_mapFields f (·.setIfInBounds 0 (rawInt 0))
 refine Mw (wpAny_setField B F (by simp) ?_)
 refine Mw ?_
 simp only[newExc,newTuple]
 refine Mw (wpAny_newObj_type ?_ (by size_fits))
 refine Mw (m:=firstArgMember _ _) (wpAny_of_eq (a:=Value.none) (by first|rfl|(simp only[firstArgMember];rfl)) ?_)
 refine wpAny_newObj_type ?_ (by size_fits)
 simp only[raiseNew]
 refine Mw (wpAny_handled ?_)
 rw[show A.in1.handled=none from d];refine Mw (Mx (wpAny_throw ?_))
 refine Mw (wpAny_isInstance (T := "StopIteration") (b:=true) ⟨_,Heap.get?_push_size _ rfl,rfl⟩ isSubtype_stop ?_)
 exact Mx (k _ ((((Heap.SameBut.update ..).trans (Heap.SameBut.update ..)).extBut.push _).push _))
theorem xI(d:A.handled=none)(B:S≠it)(f:T≠it)(y:o.data=.set es ep t)(g:t.fits es.size=true)(j:es.size=n)(dT:oT.data=.seq (uo pl) c)(u:pl.length=n)(r:∀p∈pl,p<n):Walks P w A it [it,S,T] [it] n (λi v=>(pl.map λp=>(es.getD p (0,.none)).2)[i]?=some v) (λi h=>SetIt h it S (.ref T) i n ep/\h.get? S=some o/\h.get? T=some oT) where
 sub:=λb U=>by simp at U;simp[U]
 frame:=λ_ _ _ m G=>⟨m.1.at λo e=>G it (by simp) o e,G S (by simp) o m.2.1,G T (by simp) oT m.2.2⟩
 item:=λi s Q E l m k=>by
  have q:i<pl.length:=by omega
  have C:pl[i]<es.size:=by
   rw[j];exact r _ (getElem_mem q)
  refine yY m.1 m.2.1 y g j m.2.2 dT (Mq q) (Array.getElem?_eq_getElem C) λZ a L=>?_
  refine k _ Z s.toks ?_ ⟨a,L.extBut S o B m.2.1,L.extBut T oT f m.2.2⟩ λb o U e=>L.extBut b o (λz=>U (by simp[z])) e
  rw[getElem?_map,Mq q];simp[Array.getD,C]
 done:=λs Q E m k=>C5 d m.1 m.2.1 y g j m.2.2 dT (getElem?_eq_none (by omega)) λZ N=>k Z s.toks λb o U e=>N b o (λz=>U (by simp[z])) e
 self:=λ_ _ _ _ m k=>IA m.1 k
end
section
variable{P:Program}{w:World}{A:Around}{E:Value->Shared->Prop}{s:Shared}{S:Addr}{o:Obj}{es:Array (Int×Value)}{ep:Nat}{t:SetTable}{Q:Value->Shared->Prop}
theorem jQ(F:Array (Int×Value)):(List.range F.size).map (λp=>(F.getD p (0,.none)).2)=F.toList.map (·.2):=by
 apply List.ext_getElem
 .simp
 .intro i Y M
  have l:i<F.size:=by simpa using Y
  simp[Array.getD,l]
theorem vX(d:A.handled=none)(K:s.heap.get? S=some o)(J:o.cls=.type "set")(y:o.data=.set es ep t)(g:t.fits es.size=true)(U:es.size<scanBound)(u:Tb (d8 w) t)(h:∀(Z:Heap)(B:Drawn)(it:Addr)(fp:List Addr)(us:List Value)(St:Nat->Heap->Prop),(∀b o,s.heap.get? b=some o->Z.get? b=some o)->us.Perm (es.toList.map (·.2))->s.heap.objs.size<=it->(∀b∈fp,b<Z.objs.size/\(b=S\/s.heap.objs.size<=b)) ->
   Walks P w A it fp [it] es.size (λi v=>us[i]?=some v) St->St 0 Z->Q (.ref it) {s with heap:=Z,drawn:=B}):wpAny (model P w) A (pyIter (.ref S)) Q E s:=by
 have ty:s.TypeIs (.ref S) "set":=⟨o,K,J⟩
 have L:S<s.heap.objs.size:=Heap.lt_size K
 refine wpAny_pyIter_slot ty F.slot_set_iter (wpAny_call_entry F.slot_set_iter ty mN ?_ (F.args_set_iter_1 _))
 unfold Builtin.«frozenset.__iter__»
 refine Mw (Mx ?_)
 refine Mw ?_
 unfold Builtin.Frozenset.sizeOf;refine Mw (wpAny_setEntries_of K y g (Mx ?_))
 have z:es.size<=sizeLine:=Nat.le_of_lt (Nat.lt_of_lt_of_le U (by decide))
 have k:∀(f:Value)(N:Shared)(Y:N.heap.get? S=some o),Q (.ref N.heap.objs.size) {N with heap:=N.heap.push {cls:=.type "set_iterator",data:=.fields #[f,.int 0 0,.ref S,.int es.size 0,.int ep 0]} } ->
   wpAny (model P w) A.in1 (do
    let e <-setEpoch S
    let r <-newFields "set_iterator" [f,rawInt 0,Value.ref S,rawInt ↑es.size,rawInt ↑e]
    ret r) (λk N=>∃v,k=Fin.done (Flow.ret v)/\∃n r,N.TypeIs v n/\typeLookup (Value.type n) (Str.ofString "__next__")=pure (some r)/\Q v N) E N:=by
  intro f N Y q
  refine Mw ?_
  unfold setEpoch;refine Mw (wpAny_setState_of Y y g (Mx ?_))
  refine Mw ?_
  unfold newFields;refine wpAny_newObj_type (Mx ⟨_,rfl,"set_iterator",_,⟨_,Heap.get?_push_size _ rfl,rfl⟩,slot_si_next.lookup,?_⟩) (by size_fits)
  exact q
 refine Mw ?_
 unfold setDrawn;refine Mw (wpAny_setState_of K y g ?_)
 dsimp only;refine Mw ?_
 unfold setsByText;refine Mw (wpAny_askSetting (Mx ?_))
 refine Mx ?_
 show wpAny (model P w) A.in1 (if(!d8 w&&(!t.plain&&decide (es.size>1)))=true then _ else _) _ E s
 by_cases a:(!d8 w&&(!t.plain&&decide (es.size>1)))=true
 .rw[if_pos a]
  refine Mw (tP es.size (List.range es.size) s (by simp) λpl B X=>?_)
  have I:pl.length=es.size:=by rw[X.length_eq,List.length_range]
  refine Mw (wpAny_newTuple ?_ (by rw[length_map,I];exact z))
  refine k _ _ (My _ K) ?_
  have x:(s.heap.push {cls:=.type "tuple",data:=.seq (uo pl)}).get? s.heap.objs.size=some {cls:=.type "tuple",data:=.seq (uo pl)}:=Heap.get?_push_size _ rfl
  have l:(s.heap.push {cls:=.type "tuple",data:=.seq (uo pl)}).objs.size=s.heap.objs.size+1:=Heap.size_push ..
  have gI:=Heap.get?_push_size (o:={cls:=.type "set_iterator",data:=.fields #[.ref s.heap.objs.size,.int 0 0,.ref S,.int es.size 0,.int ep 0]}) (s.heap.push {cls:=.type "tuple",data:=.seq (uo pl)}) rfl
  have W:=xI (P:=P) (w:=w) (A:=A) (it:=(s.heap.push {cls:=.type "tuple",data:=.seq (uo pl)}).objs.size) (S:=S) (T:=s.heap.objs.size) (o:=o) (t:=t) (ep:=ep) (pl:=pl) (c:=0) d (by rw[l];exact Nat.ne_of_lt (Nat.lt_succ_of_lt L)) (by rw[l];exact Nat.ne_of_lt (Nat.lt_succ_self _)) y g rfl (oT:={cls:=.type "tuple",data:=.seq (uo pl)}) rfl I λp C=>by simpa using X.mem_iff.mp C
  refine h _ B _ [(s.heap.push {cls:=.type "tuple",data:=.seq (uo pl)}).objs.size,S,s.heap.objs.size] (pl.map λp=>(es.getD p (0,.none)).2) _ (λb o e=>My _ (My _ e)) ?_ ?_ ?_ W ⟨⟨_,gI,rfl,rfl⟩,My _ (My _ K),My _ x⟩
  .rw[<-jQ]
   exact X.map _
  .show s.heap.objs.size<=(s.heap.push _).objs.size
   rw[Heap.size_push];omega
  .intro b U
   show b<((s.heap.push _).push _).objs.size/\_
   rw[Heap.size_push,Heap.size_push];simp only[mem_cons,not_mem_nil,or_false]at U
   rcases U with rfl|rfl|rfl
   .exact⟨by rw[l];exact Nat.lt_succ_self _,.inr (by rw[l];exact Nat.le_succ _)⟩
   .exact⟨Nat.lt_succ_of_lt (Nat.lt_succ_of_lt L),.inl rfl⟩
   .exact⟨Nat.lt_succ_of_lt (Nat.lt_succ_self _),.inr (Mz _)⟩
 .rw[if_neg a]
  refine Mw (Mx ?_)
  refine k _ _ K ?_
  have G:∀b o,s.heap.get? b=some o->(s.heap.push {cls:=.type "set_iterator",data:=.fields #[.int 0 0,.int 0 0,.ref S,.int es.size 0,.int ep 0]}).get? b=some o:=λb o e=>My _ e
  have j:∀b∈[s.heap.objs.size,S],b<(s.heap.push {cls:=.type "set_iterator",data:=.fields #[.int 0 0,.int 0 0,.ref S,.int es.size 0,.int ep 0]}).objs.size/\(b=S\/s.heap.objs.size<=b):=by
   intro b U;rw[Heap.size_push];simp only[mem_cons,not_mem_nil,or_false]at U
   rcases U with rfl|rfl
   .exact⟨Nat.lt_succ_self _,.inr (Mz _)⟩
   .exact⟨Nat.lt_succ_of_lt L,.inl rfl⟩
  have m:SetIt (s.heap.push {cls:=.type "set_iterator",data:=.fields #[.int 0 0,.int 0 0,.ref S,.int es.size 0,.int ep 0]}) s.heap.objs.size S (.int 0 0) 0 es.size ep:=⟨_,Heap.get?_push_size _ rfl,rfl,rfl⟩
  by_cases H:d8 w=true
  .exact h _ s.drawn _ [s.heap.objs.size,S] _ _ G ((Jb (w.params.setOrder S ep) es).map _) (Mz _) j (xG (o:=o) d H (Nat.ne_of_lt L) y g rfl) ⟨m,G S o K⟩
  .have M:d8 w=false:=by simpa using H
   rw[M]at a;have C:(!t.plain&&decide (es.size>1))=false:=by simpa using a
   exact h _ s.drawn _ [s.heap.objs.size,S] _ _ G (List.Perm.refl _) (Mz _) j (xH (o:=o) d M u C (Nat.ne_of_lt L) y g rfl) ⟨m,G S o K⟩
end
section
variable{P:Program}{w:World}{A:Around}{E:Value->Shared->Prop}{s:Shared}{r:Addr}
theorem we{Q:Bool->Shared->Prop}(p:s.TypeIs (.ref r) "set")(h:Q false s):wpAny (model P w) A (Builtin.List.listLengthHint (.ref r)) Q E s:=by
 unfold Builtin.List.listLengthHint;refine Mw (wpAny_specialOf p PySem.F.slot_set_len.lookup ?_)
 generalize bZ:("set.__len__":String)=id0
 wp_delta
 rw[show splitId id0=some ("set","__len__")from by subst bZ;decide +kernel]
 subst bZ;refine Mw (wpAny_isInstance (T := "set") (b:=true) p (by rw[isSubtype_type];kernel_rfl) ?_)
 refine wpAny_ite_split (λI=>absurd I (by decide)) (λ_=>?_)
 refine wpAny_ite_split (λ_=>?_) (λI=>absurd (by decide +kernel) I)
 refine Mw (wpAny_typeOf p ?_)
 exact Mx h
variable{o:Obj}{es:Array (Int×Value)}{ep:Nat}{t:SetTable}
theorem zr{R:Result->Shared->Prop}(d:A.handled=none)(K:s.heap.get? r=some o)(J:o.cls=.type "set")(y:o.data=.set es ep t)(g:t.fits es.size=true)(U:es.size<scanBound)(u:Tb (d8 w) t)(S:Addr)(hSr:S≠r)(res:Value)(I:s.heap.get? S=some {cls:=.type "list",data:=.seq #[] 0})(p:∀Z j B v C,(∀b o,b≠S->s.heap.get? b=some o->Z.get? b=some o)->Z.get? S=some {cls:=.type "list",dict:=none,data:=.seq v C,slots:=#[]}->v.toList.Perm (es.toList.map (·.2))->R (.ok (.ret res)) {s with heap:=Z,toks:=j,drawn:=B}):wpAny (model P w) A.in1 (Builtin.List.listExtendWith (.ref S) (.ref r) res)
   (λk N=>match k with|.done f=>R (.ok f) N|.again C=>C.quiet=true/\codeAny (model P w) A C R N) (λe N=>R (.error e) N) s:=by
 have lS:=Heap.lt_size I
 have hsz:es.size<=sizeLine:=Nat.le_of_lt (Nat.lt_of_lt_of_le U (by decide))
 unfold Builtin.List.listExtendWith;refine Mw (wpAny_typeOf (T := "set") ⟨o,K,J⟩ ?_)
 have Y:Builtin.List.listSameRef (.ref S) (.ref r)=false:=by simp[Builtin.List.listSameRef,hSr]
 have n1:(Value.type "set"==Value.type "list")=false:=by decide
 have n2:(Value.type "set"==Value.type "tuple")=false:=by decide
 simp only[Y,n1,n2,Bool.or_false,Bool.false_eq_true,if_false]
 refine Mw (vX d K J y g U u λZ B it a us St F X lI hfp W m=>?_)
 have hSf:S∉a:=λhm=>by
  rcases(hfp S hm).2 with e|e
  .exact hSr e
  .exact absurd lS (Nat.not_lt_of_le e)
 have c:=F S _ I
 have n:∀(M:Heap)(L:Nat),St 0 M->(∀b o,b≠S->s.heap.get? b=some o->M.get? b=some o) ->
   M.get? S=some {cls:=.type "list",data:=.seq #[] L}->codeAny (model P w) A (.builtin "list.extend.loop" ⟨[.ref S,.ref it,res],[]⟩) R {s with heap:=M,drawn:=B}:=by
  intro M L q G c;refine codeAny_extend_loopS W.toS hsz S hSf res es.size 0 _ #[] L rfl (Nat.zero_le _) q c (ItemsOf.nil _) λN v C hm H z=>?_
  have e:v.toList=us:=by
   apply ext_getElem?
   intro i;have lu:us.length=es.size:=by rw[X.length_eq,length_map,Array.length_toList]
   by_cases l:i<v.size
   .have:=z.2 i v[i] (Array.getElem?_eq_getElem l)
    rw[Array.getElem?_toList,Array.getElem?_eq_getElem l,this]
   .rw[Array.getElem?_toList,Array.getElem?_eq_none (by omega),getElem?_eq_none (by have:=z.1;omega)]
  rw[Moved.eq_with hm];refine p N.heap N.toks B v C (λb o U e=>hm.heap b o (λx=>?_) (G b o U e)) H (by rw[e];exact X)
  rcases Mp x with e'|x
  .exact U e'
  .exact absurd (Heap.lt_size e) (by rw[List.mem_singleton.mp x];exact Nat.not_lt_of_le lI)
 refine Mw (wpAny_holding (we (r:=r) ⟨o,F r o K,J⟩ ?_))
 refine wpAny_ite_split (λ_=>?_) (λ_=>Mx ⟨plainId_quiet PySem.F.plain_extend_loop _,n _ 0 m (λb o _ e=>F b o e) c⟩)
 refine Mw (wpAny_rule ?_)
 refine Mw ?_
 show wpAny _ _ (updateSeq S (·.push .none) >>= λ_=>updateSeq S (·.pop)) _ _ _
 refine Mw (wpAny_updateSeq c rfl ?_)
 have hS₂:=Heap.get?_update_self (Obj.mapSeq (·.push Value.none)) c rfl
 refine wpAny_updateSeq (hz:=by seq_fits) hS₂ rfl ?_
 have hS₃:=Heap.get?_update_self (Obj.mapSeq (·.pop)) hS₂ rfl
 refine Mx ⟨plainId_quiet PySem.F.plain_extend_loop _,n _ _ ?_ (λb o U e=>?_) hS₃⟩
 .refine W.frame 0 _ _ m λb U o e=>?_
  have hbS:b≠S:=λh=>hSf (h▸U)
  exact(Heap.get?_update_other _ _ (Ne.symm hbS)).trans ((Heap.get?_update_other _ _ (Ne.symm hbS)).trans e)
 .exact(Heap.get?_update_other _ _ (Ne.symm U)).trans ((Heap.get?_update_other _ _ (Ne.symm U)).trans (F b o e))
theorem pA{R:List Value->Shared->Prop}(d:A.handled=none)(K:s.heap.get? r=some o)(J:o.cls=.type "set")(m:o.data=.set es ep t)(g:t.fits es.size=true)(U:es.size<scanBound)(u:Tb (d8 w) t)(h:∀(Z:Heap)(j:Nat)(B:Drawn)(us:List Value),(∀b o,s.heap.get? b=some o->Z.get? b=some o)->us.Perm (es.toList.map (·.2))->R us {s with heap:=Z,toks:=j,drawn:=B}):wpAny (model P w) A (collect (.ref r)) R E s:=by
 have a:=Heap.lt_size K
 unfold collect;refine Mw (wpAny_runValue (codeAny_builtin entry_proto_collect' ?_))
 rw[Around.under_plainId PySem.F.plain_proto_collect _];show wpAny _ A.in1 (newList [] >>= λl=>again (.builtin "list.__iadd__" ⟨[l,.ref r],[]⟩)) _ _ s
 refine Mw (wpAny_newObj_type ?_)
 refine Mx ⟨plainId_quiet PySem.F.plain_list_iadd _,codeAny_builtin entry_list_iadd' ?_⟩
 rw[Around.under_plainId PySem.F.plain_list_iadd _];have c:(s.heap.push {cls:=.type "list",data:=.seq ([]:List Value).toArray}).get? s.heap.objs.size=some {cls:=.type "list",data:=.seq #[]}:=Heap.get?_push_size _ rfl
 show wpAny _ A.in1 (Builtin.List.listExtendWith (.ref s.heap.objs.size) (.ref r) (.ref s.heap.objs.size)) _ _ _
 have n:=zr (P:=P) (w:=w) (A:=A) (s:={s with heap:=s.heap.push {cls:=.type "list",data:=.seq ([]:List Value).toArray} })
  (R:=λ(q:Result)(N:Shared)=>∃(Z:Heap)(j:Nat)(B:Drawn)(v:Array Value)(C:Nat),q=.ok (.ret (.ref s.heap.objs.size))/\N={s with heap:=Z,toks:=j,drawn:=B} /\
   (∀b o,s.heap.get? b=some o->Z.get? b=some o)/\Z.get? s.heap.objs.size=some {cls:=.type "list",dict:=none,data:=.seq v C,slots:=#[]}/\v.toList.Perm (es.toList.map (·.2)))
  d (My _ K) J m g U u s.heap.objs.size (Nat.ne_of_gt a) (.ref s.heap.objs.size) c
  (λZ j B v C G H z=>⟨Z,j,B,v,C,rfl,rfl,λb o e=>G b o (Nat.ne_of_lt (Heap.lt_size e)) (My _ e),H,z⟩)
 refine wpAny_mono n (λk N x=>?_) λe N x=>?_
 .cases k with
  |done f=>
   obtain⟨Z,j,B,v,C,e,rfl,G,H,z⟩:=x
   cases e;show wpAny _ A (load s.heap.objs.size >>= _) _ _ _
   refine Mw (wpAny_load H ?_)
   exact Mx (h Z j B v.toList G z)
  |again L=>
   refine⟨x.1,codeAny_mono x.2 λq i y=>?_⟩
   obtain⟨Z,j,B,v,C,rfl,rfl,G,H,z⟩:=y;show wpAny _ A (load s.heap.objs.size >>= _) _ _ _
   refine Mw (wpAny_load H ?_)
   exact Mx (h Z j B v.toList G z)
 .obtain⟨_,_,_,_,_,p,_⟩:=x
  cases p
end
def iD(Z:List Int):List Int:=firstMet (λi=>Z.getD i 0) Z.length
theorem i4:∀(l m:List Int),l.Nodup->(∀x∈l,x∈m)->m.length=l.length->m.Perm l
 |[],m,_,_,h=>by rw[List.length_eq_zero_iff.mp h]
 |a::l,m,nd,hm,h=>by
  have Z:a∈m:=hm a mem_cons_self
  obtain⟨b,f⟩:=List.nodup_cons.mp nd;have B:=i4 l (m.erase a) f (λx F=>(List.mem_erase_of_ne (λe:x=a=>b (e▸F))).mpr (hm x (Ms _ F))) (by rw[List.length_erase_of_mem Z,h,length_cons];omega)
  exact(List.perm_cons_erase Z).trans (B.cons a)
theorem I0(d:Nat->Int):∀i,(firstMet d i).Nodup
 |0=>nodup_nil
 |i+1=>by
  rw[firstMet_succ];unfold step_dedup;split
  .exact I0 d i
  .rename_i h
   rw[List.nodup_append];refine⟨I0 d i,by simp,λa Z b U e=>h ?_⟩
   rw[List.mem_singleton]at U;subst U e;simpa using Z
theorem IU(Z:List Int):(iD Z).Nodup:=I0 _ _
theorem ddp_mem{Z:List Int}:k∈iD Z↔k∈Z:=by
 have:=firstMet_any (λi=>Z.getD i 0) Z.length k
 have e:(List.range Z.length).map (λi=>Z.getD i 0)=Z:=by
  apply List.ext_getElem
  .simp
  .intro i Y M
   simp[List.getD,M]
 rw[e]at this;unfold iD;rw[<-any_eq_true (p:=(·==k)) |>.trans ⟨λ⟨x,h,e⟩=>by rwa[<-eq_of_beq e],λh=>⟨k,h,by simp⟩⟩,this]
 exact List.any_eq_true.trans ⟨λ⟨x,h,e⟩=>by rwa[<-eq_of_beq e],λh=>⟨k,h,by simp⟩⟩
theorem lB{P:Program}{w:World}:∀(A:List Value),(∀u∈A,∃k,(intKind P w).is k u=true)->∃Z,IntsAre A Z
 |[],_=>⟨[],.nil⟩
 |u::A,h=>by
  obtain⟨k,e⟩:=h u mem_cons_self;obtain⟨t,rfl⟩:=Value.isInt_shape e;obtain⟨Z,x⟩:=lB A λv f=>h v (Ms _ f)
  exact⟨_,.cons _ _ x⟩
theorem oP{P:Program}{w:World}{k:Int}:∀{A:List Value}{ns:List Int},IntsAre A ns->(∃u∈A,(intKind P w).is k u=true)->k∈ns
 |_,_,.nil,⟨u,hu,_⟩=>by cases hu
 |_,_,.cons i t x,⟨u,hu,e⟩=>by
  rcases Mp hu with rfl|hu
  .obtain⟨N,J⟩:=Value.isInt_shape (show Value.isInt k (Value.int i t)=true from e)
   cases J
   exact mem_cons_self
  .exact Ms _ (oP x ⟨u,hu,e⟩)
theorem oQ:∀{A:List Value}{ns:List Int},IntsAre A ns->A.length=ns.length
 |_,_,.nil=>rfl
 |_,_,.cons _ _ x=>by rw[length_cons,length_cons,oQ x]
theorem L2Inv.drawn{X:Cx}{B:List (Addr×Obj)}{M:List (Option V)}{H:Hp}{s:Shared}(I:L2.Inv X B M H s)(d:Drawn):L2.Inv X B M H {s with drawn:=d}:=
 ⟨I.ok,I.os,I.bare,I.base,I.loc,I.cell,I.free,I.freeC,I.pin,I.hok,I.len⟩
theorem F8:bootBuiltins "set"=some (.type "set"):=by decide +kernel
def K1(K:Fg)(F:TA):TE:=λM H Q=>F M H λB f=>∃(p:Addr)(ns:List Int),B=[.ref p]/\SqL K f p (ns.map V.int)/\ns.length<4000/\(iD ns).length<64/\∀l,f l=none->Q (.ref l) (upd f l (.lst ((PySem.W.sortI (iD ns)).map V.int)))
theorem qf{X:Cx}{a:Expr}{ta:TA}{p p2 d l:Pos}(C:Gl X "sorted")(E:X.mg "sorted"=none)(hg2:Gl X "set")(hm2:X.mg "set"=none)(J:X.calm=true)(Z:PA X [a] ta)(hs:starEach [a] X.env=[(false,eval a X.env)])(L:starEach [.Call (.Name "set" p2) [a] [] l] X.env=[(false,eval (.Call (.Name "set" p2) [a] [] l) X.env)]):PE X (.Call (.Name "sorted" p) [.Call (.Name "set" p2) [a] [] l] [] d) (K1 X.K ta):=by
 intro B s M H Q I h;refine wpAny_Call_Name_kw (xj I C E pC (PyProof.Rows.callWith_builtin1 ?_ L rfl))
 rw[L];show wpAny _ _ (spliced ((false,eval (.Call (.Name "set" p2) [a] [] l) X.env)::[])) _ _ s
 refine Calls.spliced_cons (Call_ (xj I hg2 hm2 F8 (PyProof.Rows.callWith_type1 (b5 (Z l B s M H _ I h) λA s1 ⟨vs,H1,I1,r1,q1⟩=>?_) hs rfl)))
 obtain⟨pa,ns,e,hS,q1,c,q⟩:=q1;subst e;obtain⟨u,rfl,ru⟩:=r1.one
 cases ru;obtain⟨g,r,pl,hz⟩:=I1.list hS;have hI:=Ip r
 have S:g.length=ns.length:=by rw[<-r.length,length_map]
 have hl':g.toArray.size=ns.length:=by rw[size_toArray,S]
 refine qQ (ns:=ns) (I.ok.hd J) pl.isList (by simpa using hI) (by rw[hl'];have:scanBound=4096:=rfl;omega) λY tk1 st kp1=>?_
 rw[hl']at st;refine Calls.spliced_nil ?_
 have I2:L2.Inv X B M H1 {s1 with heap:=Y,toks:=tk1}:=I1.kept (t':=tk1) kp1
 obtain⟨o,es,N,t,K,hex,y,hel,x,U,hf,j,tb⟩:=st;refine Calls.call_function_entry kind_sorted plain_sorted entry_sorted (args_sorted1 _) ?_
 unfold Builtin.«sorted»
 refine Mw (m:=checkCount "sorted" 1 1 _) (Mx ?_)
 refine Mw (pA (I.ok.hd J) K hex.1 y hf U tb λh' tk dr A G pm=>?_)
 have hlu:A.length=(iD ns).length:=by
  rw[pm.length_eq,length_map,Array.length_toList,j];rfl
 obtain⟨zs,hZ⟩:=lB (P:=X.prog) (w:=X.w) A λu hu=>by
  obtain⟨e,R,rfl⟩:=List.mem_map.mp (pm.mem_iff.mp hu);obtain⟨k,G,_⟩:=(hel e R).1;exact⟨k,G⟩
 have hpz:zs.Perm (iD ns):=by
  refine i4 (iD ns) zs (IU ns) (λk G=>?_) ?_
  .obtain⟨e,R,F⟩:=(x k).mp (List.any_eq_true.mpr ⟨k,G,by simp⟩)
   exact oP (P:=X.prog) (w:=X.w) hZ ⟨e.2,pm.mem_iff.mpr (List.mem_map.mpr ⟨e,R,rfl⟩),F⟩
  .rw[<-hlu,oQ hZ]
 have hb2:=la (n:=(iD ns).length) (by omega)
 refine Mw (wpAny_newList ?_ (by rw[hlu];omega))
 have v:(h'.push {cls:=.type "list",data:=.seq A.toArray}).get? h'.objs.size=some (seqObj "list" A.toArray 0):=Heap.get?_push_size _ rfl
 refine Mw (wpAny_holding (wpAny_call_entry slot_list_sort ⟨_,v,rfl⟩ entry_list_sort (list_sort_tree v hZ (by rw[hlu];exact c) λout ns' a1 a2 a3=>⟨_,rfl,?_⟩) (args_list_sort _)))
 have e:=PySem.W.eq_sortI (a2.trans hpz) a3
 subst e;have z:(PySem.W.sortI (iD ns)).length=(iD ns).length:=(PySem.W.sortI_perm _).length_eq
 obtain⟨n,i⟩:=sortedHeap_at (out:=out) v
 have I3:L2.Inv X B M H1 {s1 with heap:=h',toks:=tk,drawn:=dr}:=L2Inv.drawn (I2.kept (t':=tk) G) dr
 have kk:∀b o,h'.get? b=some o->(sortedHeap (h'.push {cls:=.type "list",data:=.seq A.toArray}) h'.objs.size A out).get? b=some o:=λb o e=>by
  have f:=Heap.lt_size e
  rw[sortedHeap_old (Nat.ne_of_lt f) (by rw[Heap.size_push];exact Nat.lt_succ_of_lt f)]
  exact My _ e
 exact Mx ⟨_,rfl,.ref h'.objs.size,upd H1 h'.objs.size (.lst ((PySem.W.sortI (iD ns)).map V.int)),I3.laid (t':=tk) kk (Mz _) ⟨by rw[length_map,z];omega,out.toList,n,vals_of a1,by simpa[seqObj]using i⟩,rfl,q _ (I3.hok.fresh (Mz _))⟩
section
variable{K:Fg}{W:XW}{σ:St}{H:Hp}{Q:VK}{fa:F1}{fl:FL}
def fj(d:FL):F1:=λC=>(d C).bind λJ N=>match sortArg (J.map (·.d))with
 |some Z=>if Z.length<4000/\(iD Z).length<64 then .ok ⟨.lst .leaf,.list ((PySem.W.sortI (iD Z)).map .int)⟩ N else .no
 |none=>.no
theorem vc(h:tE K W (fj fl) σ H Q):K1 K (tA K W fl) σ H Q:=by
 obtain⟨L,O,t,C,E,h⟩:=h;refine⟨L,O,t,C,E,?_⟩
 unfold fj at h
 cases e:fl C with
 |er c N=>rw[e]at h;exact h
 |no=>rw[e]at h;exact h
 |ok J I=>
  rw[e]at h;intro B f n g A;have r:=A.reps
  have h:Wants K W L O t H σ Q (match sortArg (J.map (·.d))with|some Z=>if Z.length<4000/\(iD Z).length<64 then .ok ⟨.lst .leaf,.list ((PySem.W.sortI (iD Z)).map .int)⟩ I else .no|none=>.no):=h
  cases b:sortArg (J.map (·.d))with
   |none=>rw[b]at h;exact h.elim
   |some Z=>
    rw[b]at h;rw[jC b]at r;have h:Wants K W L O t H σ Q (if Z.length<4000/\(iD Z).length<64 then .ok ⟨.lst .leaf,.list ((PySem.W.sortI (iD Z)).map .int)⟩ I else .no):=h
    by_cases j:Z.length<4000/\(iD Z).length<64
    .rw[if_pos j]at h
     have S:=r.1
     match B,S with
     |[v],_=>
      have q:=r.2 0 v (.list (Z.map .int)) rfl rfl
      cases q with
      |@lst p ws _ hq hwl hw=>
       have F:ws=Z.map V.int:=by
        apply ext_getElem?
        intro i;by_cases k:i<ws.length
        .have x:i<Z.length:=by rw[length_map]at hwl;omega
         have q:=hw i (ws[i]'k) (.int (Z[i]'x)) (Mq _) (by rw[getElem?_map,Mq x];rfl)
         rw[Mq k,getElem?_map,Mq x];generalize ws[i]'k=u at q
         cases q;rfl
        .rw[getElem?_eq_none (by omega),getElem?_eq_none (by rw[length_map]at hwl ⊢;omega)]
       rw[F]at hq;refine⟨p,Z,rfl,hq,j.1,j.2,λl S=>h _ _ _ _ (A.newSc E.ndO S (by simp) λi v d a y=>?_)⟩
       rw[getElem?_map]at a y
       cases m:(PySem.W.sortI (iD Z))[i]? with
       |none=>rw[m]at a;cases a
       |some z=>
        rw[m]at a y
        cases a
        cases y;exact .int z
    .rw[if_neg j]at h;exact h.elim
end
section
variable{X:Cx}{N gl:List Str}{vs cs ls lo gs:List Nat}{W:XW}{a:Expr}{p pos:Pos}{fl:FL}
theorem cb_sortSet{r l:Pos}(S:Cp X N gl vs cs ls lo gs)(j k:Nat)(A:gl[j]?=some ("sorted":Str))(C:gs.contains j=true)(E:X.mg "sorted"=none)(G:gl[k]?=some ("set":Str))(m:gs.contains k=true)(Y:X.mg "set"=none)(Z:PA X [a] (tA X.K W fl))(P:starEach [a] X.env=[(false,eval a X.env)])(L:starEach [.Call (.Name "set" r) [a] [] l] X.env=[(false,eval (.Call (.Name "set" r) [a] [] l) X.env)]):PE X (.Call (.Name "sorted" p) [.Call (.Name "set" r) [a] [] l] [] pos) (tE X.K W (fj fl)):=
 bt (qf (S.g A C).1 E (S.g G m).1 Y S.calm Z P L) λ_ _ _=>vc
end
end T
namespace TQ
open PySem PySem.Spec L2 T
open PyProof.Rows hiding St
section
variable{X:Cx}{N gl:List Str}{vs cs ls lo gs:List Nat}{W:XW}{a:Expr}{p pos:Pos}{fl:FL}
theorem mh{r l:Pos}(S:Cp X N gl vs cs ls lo gs)(j k:Nat)(A:gl[j]?=some ("sorted":Str))(C:gs.contains j=true)(E:X.mg "sorted"=none)(G:gl[k]?=some ("set":Str))(m:gs.contains k=true)(Y:X.mg "set"=none)(Z:Q (PA X [a] (tA X.K W fl)))(P:starEach [a] X.env=[(false,eval a X.env)])(L:starEach [.Call (.Name "set" r) [a] [] l] X.env=[(false,eval (.Call (.Name "set" r) [a] [] l) X.env)]):Q (PE X (.Call (.Name "sorted" p) [.Call (.Name "set" r) [a] [] l] [] pos) (tE X.K W (fj fl))):=⟨T.cb_sortSet S j k A C E G m Y Z.p P L⟩
end
end TQ
namespace KC
open PySem PySem.Spec L2 T
open PyProof.Rows hiding St
def mR:FS:=(aJ (cV (fm "int" (ab 0)) (iq (fm "bool" (ab 0)))))
def mK:List MA->Res:=aI 1 mR
def ka:FS:=(ao (bY (fF (dv (aG bH (fm "list" (ab 0)))) (aG ag (aj fE (bp aK (ae (ab 0) af)) (bp aK (ae (ab 1) af))))) (aJ (eK (.bool false))) aH)
  (ao (dR 2 (aP (ab 0))
  (bY (dv (aG bH (ai 1 mK (ae (ab 2) af)))) (aJ (eK (.bool false))) aH))
  (aJ (aj bf (ab 0) (ab 1)))))
def jS:List MA->Res:=aI 3 ka
def pe:FS:=(aJ (b4 (ae (ck (ah (ab 0) (eK (.int 0)))) (ae (aw .leaf 1 (aP (ah (ab 0) (eK (.int 1)))) aM (ck (ab 1))) (ae (aw .leaf 1 (aP (ah (ab 0) (eK (.int 2)))) aM (ck (ab 1))) af)))))
def df:List MA->Res:=aI 2 pe
def mV:FS:=(ao (aA false 1 (aw .leaf 2 (gh (ae (eK (.int 24)) af)) aM (fT (ae (aY .leaf (ae (aj bj (aj aQ (ab 2) (eK (.int 1))) (eK (.int 24))) (ae (ah (aY .leaf (ae (aj bj (aj aQ (ab 2) (eK (.int 1))) (eK (.int 24))) (ae (eK (.int 0)) af))) (aj bj (ab 0) (eK (.int 2)))) af))) af))))
  (ao (aA false 1 (aw .leaf 3 (aP (ab 1)) aM (fj (ae (ab 3) af))))
  (aJ (b4 (ae (aw .leaf 2 (gh (ae (eK (.int 24)) af)) aM (aj bj (ab 2) (eK (.int 2)))) (ae (aw .leaf 2 (gh (ae (eK (.int 24)) af)) aM (kJ (aG ag (aj bf (ab 2) (aj bj (ab 0) (eK (.int 24))))) (aY .leaf (ae (eK (.str "a")) af)) (aY .leaf af))) (ae (ab 1) af)))))))
def mL:List MA->Res:=aI 4 mV
def d_law:FS:=(ao (aA false 1 (ai 3 m__law_world (ae (ab 0) (ae (eK (.int 0)) (ae (eK (.int 6)) af)))))
  (ao (bY (aG ag (aj bf (aj bj (ai 2 aD (ae (ab 0) (ae (eK (.int 23)) af))) (eK (.int 8))) (eK (.int 1)))) (aA false 1 (ai 1 mL (ae (aj bO (ai 2 aD (ae (ab 0) (ae (eK (.int 23)) af))) (eK (.int 8))) af))) aH)
  (ao (aA false 2 (ai 3 jh (ae (ab 0) (ae (eK (.int 8)) (ae (aj aQ (eK (.int 1)) (aj bj (ai 2 aD (ae (ab 0) (ae (eK (.int 7)) af))) (eK (.int 14)))) af)))))
  (ao (bY (aG ag (aj gO (ai 1 ie (ae (ab 2) af)) (eK (.int 60)))) (aA false 2 (ah (ab 2) (eK (.int 1)))) aH)
  (ao (bY (aG ag (aj gO (ai 1 ie (ae (ab 2) af)) (eK (.int 200)))) (aJ (eK (.bool true))) aH)
  (ao (aA false 3 (ai 2 m__law_judge (ae (ab 1) (ae (ab 2) af))))
  (ao (aA false 4 (ai 1 df (ae (ab 1) af)))
  (ao (dR 5 (gh (ae (eK (.int 2)) af))
  (ao (aA true 6 (ai 2 yR (ae (ab 4) (ae (ab 2) af))))
  (ao (bY (fF (dv (aG bH (ai 2 jS (ae (ab 6) (ae (ab 3) af))))) (aG ag (aj fE (ab 4) (ab 1)))) (aJ (eK (.bool false))) aH)
  (aN 6 (eK (.int 0))))))
  (aJ (eK (.bool true)))))))))))
def m_law:List MA->Res:=aI 7 d_law
open PySem.SeqAt
def JB(a b:Nat):List Nat:=if a<=b then[a,b]else[b,a]
def gA(r:Nat):Nat:=(r+1) % 24
def gB(c:Int)(r:Nat):Nat:=if c % 2=0 then(r+1) % 24 else 0
def gS(c:Int)(r:Nat):List Nat:=(List.range 24).filter λx=>(JB (gA r) (gB c r)).contains x
theorem tR{w:Wd}(ok:w.Ok):df [w.enc]=.ok ⟨W3,w.enc⟩:=by
 have B:ah (ab 0) (eK (.int 0)) [MB w.enc,none]=.ok ⟨.leaf,.list w.os⟩ [MB w.enc,none]:=js (j:=0) (az rfl) aO rfl rfl rfl
 have I:ah (ab 0) (eK (.int 1)) [MB w.enc,none]=.ok ⟨.leaf,.list (w.m.map uI)⟩ [MB w.enc,none]:=js (j:=1) (az rfl) aO rfl rfl rfl
 have u:ah (ab 0) (eK (.int 2)) [MB w.enc,none]=.ok ⟨.leaf,.list (w.s.map aR)⟩ [MB w.enc,none]:=js (j:=2) (az rfl) aO rfl rfl rfl
 have H:=ok.h24
 have J:aw .leaf 1 (aP (ah (ab 0) (eK (.int 1)))) aM (ck (ab 1)) [MB w.enc,none]=.ok ⟨.lst .leaf,.list (w.m.map uI)⟩ [MB w.enc,none]:=
  nc uI w.m (λx=>⟨.lst .leaf,uI x⟩) (st:=true) (cQ (s:=.leaf) I rfl) (by simp) rfl (by rw[ok.lm];omega) λx F=>⟨DY (az rfl) rfl,rfl⟩
 have p:aw .leaf 1 (aP (ah (ab 0) (eK (.int 2)))) aM (ck (ab 1)) [MB w.enc,none]=.ok ⟨.lst .leaf,.list (w.s.map aR)⟩ [MB w.enc,none]:=
  nc aR w.s (λx=>⟨.lst .leaf,aR x⟩) (st:=true) (cQ (s:=.leaf) u rfl) (by simp) rfl (by rw[ok.ls];omega) λx F=>⟨DY (az rfl) rfl,rfl⟩
 exact aV (aS (cZ (aE (DY B rfl) (aE J (aE p aq))) rfl rfl) rfl)
end KC
namespace T
open PySem PySem.Spec L2
open PyProof.Rows hiding St
section
variable{i:Nat}{tab:List (Str×Int)}{K:Fg}{W:XW}{σ:St}{H H':Hp}{Q Q':VK}{QB QB':Bool->Hp->Prop}{f fa fb:F1}{g ga gb:FB}{D:eR}{s g1 g2:FS}
theorem GN{L:Hp}{O:List Addr}{t:List (List Addr)}{C:Ev}{v:Option V}(E:EnvOk K L O t H σ C)(e:C[i]?=some none):EnvOk K L O t H (σ.set i v) C:=by
 refine⟨by rw[length_set];exact E.len1,E.len2,E.same,E.nd,E.inH,E.fresh,λk p b=>?_⟩
 obtain⟨a,u,F,Y,M,P⟩:=E.slot k p b;refine⟨a,u,F,?_,M,P⟩
 have G:i≠k:=λz=>by rw[z,b]at e;cases e
 rw[getElem?_set_ne G];exact Y
end
end T
namespace TQ
open PySem PySem.Spec L2 T
open PyProof.Rows hiding St
section
variable{X:Cx}{N gl:List Str}{vs cs ls lo gs:List Nat}{W:XW}{a b c e:Expr}{es:List Expr}{pos p p2:Pos}{fa fb fc:F1}{fl:FL}{ga gb:FB}{g1 g2 g:FS}{i:Nat}{tab:List (Str×Int)}
theorem nvD(S:Cp X N gl vs cs ls lo gs)(i:Nat){x:Str}{d:Pos}(e:N[i]?=some x)(l:vs.contains i=true):PE X (.Name x d) (bT i):=by
 have m:=S.nm x (mem_of_getElem? e)
 exact Dw (by rw[S.hN];exact e) (S.vis i x e l) m.1 m.2
end
end TQ
namespace T
open PySem PySem.Spec L2
open PyProof.Rows hiding St
variable{c t z I l:Addr}{k:Nat}{g L R:Array Value}{x y:Value}
abbrev It:=lW ⊕ List lW
section
variable{prog:Program}{w:World}
variable(prog w)
variable{prog w}
def hI(w:World):It->Int
 |.inl k=>CG w k
 |.inr l=>reduceHash (Builtin.Tuple.tupleHashOf (l.map (CG w)))
variable{A:Around}{E:Value->Shared->Prop}{s:Shared}
def Kq:It->Bool
 |.inl _=>false
 |.inr _=>true
end
def LX(K:Fg)(H:Hp):It->V->Prop
 |.inl k,v=>v=kV k
 |.inr l,v=>∃c,v=.ref c/\SqT K H c (l.map kV)
def K2(K:Fg)(H:Hp)(a:List It)(b:Addr):Prop:=∃B,SqT K H b B/\Paired (LX K H) a B
abbrev KX(K:Fg)(H:Hp)(o:List Bool):List (List It×V)->List (List It×Addr×Value)->Prop:=Paired λp q=>p.1=q.1/\p.1.map Kq=o/\K2 K H p.1 q.2.1/\RelV p.2 q.2.2
theorem FA{A B:Bool->Hp->Prop}{H:Hp}{M:St}(h:A true H):rh M H λb H=>if b=true then A b H else B b H:=by
 show(if true=true then A true H else B true H)
 rw[if_pos rfl];exact h
section
variable{P:Program}{w:World}{A:Around}{E:Value->Shared->Prop}{s:Shared}
theorem vN{Q:Value->Shared->Prop}(J:s.heap.IsTupleIter c t k)(e:s.heap.IsTuple t g)(a:g[k]?=some x)(q:∀Z,Z.IsTupleIter c t (k+1)->Heap.SameBut c s.heap Z->Q x {s with heap:=Z}):wpAny (model P w) A (Builtin.SmallTypes.nextOf (.ref c)) Q E s:=by
 obtain⟨u,N,R,I⟩:=id J;obtain⟨b,f,_,n,d⟩:=e;unfold Builtin.SmallTypes.nextOf;refine Mw (wpAny_callSpecial?_slot (name:=Str.ofString "__next__") J.typeIs F.slot_tuple_iterator_next (wpAny_call_entry F.slot_tuple_iterator_next J.typeIs F.entry_tuple_iterator_next ?_ (F.args_tuple_iterator_next_1 _)))
 show wpAny _ _ (field (.ref c) 0 >>= _) _ _ s
 refine Mw (wpAny_field N I (x:=.ref t) rfl ?_)
 have ne:¬((Value.ref t==Value.none)=true):=Bool.false_ne_true
 show wpAny _ _ (if(Value.ref t==Value.none)=true then _ else _) _ _ _
 rw[if_neg ne];show wpAny _ _ (field (.ref c) 1 >>= _) _ _ s
 refine Mw (wpAny_field N I (x:=.int k 0) rfl ?_)
 show wpAny _ _ (seqItems? (.ref t) >>= _) _ _ _
 refine Mw (wpAny_seqItems f d ?_)
 simp only[a,Int.toNat_natCast]
 refine Mw (wpAny_setField N I (by simp) (Mx ⟨x,rfl,Mx (q _ ⟨_,Heap.get?_update_self _ N (Obj.isFreed_of_fields (Obj.data_mapFields I _)),(Obj.cls_mapFields ..).trans R,?_⟩ (Heap.SameBut.update ..))⟩))
 rw[Obj.data_mapFields I];simp[rawInt]
theorem yP{Q:Value->Shared->Prop}(j:A.handled=none)(J:s.heap.IsTupleIter c t k)(h:s.heap.IsTuple t g)(f:g[k]?=none)(q:∀Z e,Heap.ExtBut c s.heap Z->(∃o,Z.get? e=some o/\o.cls=.type "StopIteration")->E (.ref e) {s with heap:=Z}):wpAny (model P w) A (Builtin.SmallTypes.nextOf (.ref c)) Q E s:=by
 obtain⟨u,N,R,I⟩:=id J;obtain⟨b,i,_,n,d⟩:=h;unfold Builtin.SmallTypes.nextOf;refine Mw (wpAny_callSpecial?_slot (name:=Str.ofString "__next__") J.typeIs F.slot_tuple_iterator_next (wpAny_call_entry F.slot_tuple_iterator_next J.typeIs F.entry_tuple_iterator_next ?_ (F.args_tuple_iterator_next_1 _)))
 show wpAny _ _ (field (.ref c) 0 >>= _) _ _ s
 refine Mw (wpAny_field N I (x:=.ref t) rfl ?_)
 have ne:¬((Value.ref t==Value.none)=true):=Bool.false_ne_true
 show wpAny _ _ (if(Value.ref t==Value.none)=true then _ else _) _ _ _
 rw[if_neg ne];show wpAny _ _ (field (.ref c) 1 >>= _) _ _ s
 refine Mw (wpAny_field N I (x:=.int k 0) rfl ?_)
 show wpAny _ _ (seqItems? (.ref t) >>= _) _ _ _
 refine Mw (wpAny_seqItems i d ?_)
 simp only[f,Int.toNat_natCast]
 refine Mw (wpAny_rule (Mw (wpAny_setField N I (by simp) ?_)))
 show wpAny _ _ (newExc (.type "StopIteration") [] >>= _) _ _ (_:Shared)
 refine Mw ?_
 simp only[newTuple,newExc]
 refine Mw (wpAny_newObj_type ?_ (by size_fits));refine Mw (m:=firstArgMember _ _) (wpAny_of_eq (a:=Value.none) (by first|rfl|(simp only[firstArgMember];rfl)) ?_)
 refine wpAny_newObj_type ?_ (by size_fits);simp only[raiseNew]
 refine Mw (wpAny_handled ?_);first|rw[show A.in1.handled=none from j]|rw[j]
 refine Mw (Mx (wpAny_throw (q _ _ (((Heap.SameBut.update ..).extBut.push _).push _) ⟨_,Heap.get?_push_size _ rfl,rfl⟩)))
theorem Heap.IsTupleIter.at'{h Z:Heap}{a:Addr}{i:Nat}(x:h.IsTupleIter a t i)(k:∀o,h.get? a=some o->Z.get? a=some o):Z.IsTupleIter a t i:=by
 obtain⟨o,e,r⟩:=x;exact⟨o,k o e,r⟩
theorem xr{TI TO u p:Addr}{a b:Value}{Q:Value->Shared->Prop}(D:ZipApart z TI TO I u p l)(U:IsZip s.heap z TI TO .none)(hI:IsPair s.heap TI (.ref I) (.ref u))(j:IsPair s.heap TO a b)(J:s.heap.IsTupleIter I p k)(c2:s.heap.IsListIter u l k)(B:s.heap.IsTuple p L)(X:s.heap.IsList l R)(F:L[k]?=some x)(f:R[k]?=some y)(q:∀Z,IsZip Z z TI TO (rawInt s.heap.objs.size)->IsPair Z TO x y->Z.IsTupleIter I p (k+1)->Z.IsListIter u l (k+1)->IsPair Z s.heap.objs.size x y->Z.objs.size=s.heap.objs.size+1 ->
   (∀c o,c≠z->c≠TO->c≠I->c≠u->s.heap.get? c=some o->Z.get? c=some o)->Q (.ref s.heap.objs.size) {s with heap:=Z}):wpAny (model P w) A (Builtin.«zip.__next__» ⟨[.ref z],[]⟩) (λfin N=>∃v,fin=.done (.ret v)/\Q v N) E s:=by
 show wpAny _ _ (field (.ref z) 2 >>= _) _ _ s
 refine Mw (wpAny_field U rfl (x:=.bool false) rfl ?_);show wpAny _ _ (field (.ref z) 3 >>= _) _ _ _
 refine Mw (wpAny_field U rfl (x:=.ref TI) rfl ?_);refine Mw (wpAny_seqItems hI rfl ?_)
 show wpAny _ _ (Builtin.SmallTypes.ownedTupleIsFree (.ref z) >>= _) _ _ s
 refine Mw ?_;unfold Builtin.SmallTypes.ownedTupleIsFree;refine Mw (wpAny_field U rfl (x:=.none) rfl (Mx ?_))
 simp only[if_true];refine Mw (wpAny_rule ?_);refine Mw (wpAny_field U rfl (x:=.ref TO) rfl ?_)
 refine Mw (wpAny_setField_rec U (by simp) λS M n=>?_);replace M:IsZip S z TI TO .ellipsis:=M
 refine Mw ?_;simp only[List.zipIdx_cons,List.zipIdx_nil,forIn_nil,List.forIn_cons]
 refine Mw (Mw (wpAny_onRaise ?_));show wpAny _ _ (Builtin.SmallTypes.nextOf (.ref I) >>= _) _ _ _
 refine Mw (vN (J.extBut n.extBut D.i1z) (B.extBut n.extBut D.l1z) F λC d1 G=>Mx ?_)
 have o2:IsPair C TO a b:=G.extBut _ _ D.TOi1 (n.extBut _ _ D.TOz j)
 refine Mw (wpAny_seqItems o2 rfl ?_);refine Mw (wpAny_updateSeq_pair o2 λj3 o3 Y=>?_)
 replace o3:IsPair j3 TO x b:=o3
 refine Mw (wpAny_letGo (Mx ?_));refine Mw (Mw (wpAny_onRaise ?_));show wpAny _ _ (Builtin.SmallTypes.nextOf (.ref u) >>= _) _ _ _
 refine Mw (wpAny_nextOf_list_item (((c2.extBut n.extBut D.i2z).extBut G.extBut D.i12.symm).extBut Y.extBut D.TOi2.symm) (((X.extBut n.extBut D.l2z).extBut G.extBut D.l2i1).extBut Y.extBut D.l2TO) f λj4 d2 t=>Mx ?_)
 have o4:IsPair j4 TO x b:=t.extBut _ _ D.TOi2 o3
 refine Mw (wpAny_seqItems o4 rfl ?_);refine Mw (wpAny_updateSeq_pair o4 λh o5 K=>?_)
 replace o5:IsPair h TO x y:=o5
 refine Mw (wpAny_letGo (Mx (Mx ?_)));refine Mw (wpAny_seqItems o5 rfl ?_);refine Mw (wpAny_newTuple ?_)
 have ez:h.objs.size=s.heap.objs.size:=by rw[K.1,t.1,Y.1,G.1,n.1]
 have z5:IsZip h z TI TO .ellipsis:=K.extBut _ _ D.TOz.symm (t.extBut _ _ D.i2z.symm (Y.extBut _ _ D.TOz.symm (G.extBut _ _ D.i1z.symm M)))
 have kp:∀c o,c≠z->c≠TO->c≠I->c≠u->s.heap.get? c=some o->h.get? c=some o:=λc o r g m d e=>K.extBut _ _ g (t.extBut _ _ d (Y.extBut _ _ g (G.extBut _ _ m (n.extBut _ _ r e))))
 have a1:h.IsTupleIter I p (k+1):=((d1.extBut Y.extBut D.TOi1.symm).extBut t.extBut D.i12).extBut K.extBut D.TOi1.symm
 have a2:h.IsListIter u l (k+1):=d2.extBut K.extBut D.TOi2.symm
 have zl:z<h.objs.size:=Heap.lt_size z5
 show wpAny _ _ (Builtin.SmallTypes.ownedTupleHandOut (.ref z) (.ref h.objs.size) >>= _) _ _ _
 refine Mw ?_;unfold Builtin.SmallTypes.ownedTupleHandOut;have z6:IsZip (h.push {cls:=.type "tuple",data:=.seq #[x,y]}) z TI TO .ellipsis:=My _ z5
 refine Mw (wpAny_setField_rec z6 (by simp) λj7 z7 s7=>?_);replace z7:IsZip j7 z TI TO (rawInt h.objs.size):=z7
 refine wpAny_setField_rec z7 (by simp) λj8 z8 H=>?_;replace z8:IsZip j8 z TI TO (rawInt h.objs.size):=z8
 have i:∀c o,c≠z->h.get? c=some o->j8.get? c=some o:=λc o r e=>H.extBut _ _ r (s7.extBut _ _ r (My _ e))
 have t8:IsPair j8 h.objs.size x y:=H.extBut _ _ (Nat.ne_of_gt zl) (s7.extBut _ _ (Nat.ne_of_gt zl) (Heap.get?_push_size _ rfl))
 have n8:j8.objs.size=h.objs.size+1:=by rw[H.1,s7.1,Heap.size_push]
 rw[ez]at z8 t8 n8
 refine Mx ⟨_,rfl,?_⟩;show Q (.ref h.objs.size) _;rw[ez];exact q j8 z8 (i _ _ D.TOz o5) (Heap.IsTupleIter.at' a1 λo e=>i _ o D.i1z e) (a2.at λo e=>i _ o D.i2z e) t8 n8 λc o r g m d e=>i c o r (kp c o r g m d e)
theorem AI{TI TO u p:Addr}{a b:Value}{Q:Fin->Shared->Prop}(j:A.handled=none)(D:ZipApart z TI TO I u p l)(U:IsZip s.heap z TI TO .none)(hI:IsPair s.heap TI (.ref I) (.ref u))(J:s.heap.IsTupleIter I p k)(B:s.heap.IsTuple p L)(F:L[k]?=none)(q:∀Z e,(∀c o,c≠z->c≠I->s.heap.get? c=some o->Z.get? c=some o)->(∃o,Z.get? e=some o/\o.cls=.type "StopIteration")->E (.ref e) {s with heap:=Z}):wpAny (model P w) A (Builtin.«zip.__next__» ⟨[.ref z],[]⟩) Q E s:=by
 show wpAny _ _ (field (.ref z) 2 >>= _) _ _ s
 refine Mw (wpAny_field U rfl (x:=.bool false) rfl ?_);show wpAny _ _ (field (.ref z) 3 >>= _) _ _ _
 refine Mw (wpAny_field U rfl (x:=.ref TI) rfl ?_);refine Mw (wpAny_seqItems hI rfl ?_)
 show wpAny _ _ (Builtin.SmallTypes.ownedTupleIsFree (.ref z) >>= _) _ _ s
 refine Mw ?_;unfold Builtin.SmallTypes.ownedTupleIsFree;refine Mw (wpAny_field U rfl (x:=.none) rfl (Mx ?_))
 simp only[if_true];refine Mw (wpAny_rule ?_);refine Mw (wpAny_field U rfl (x:=.ref TO) rfl ?_)
 refine Mw (wpAny_setField_rec U (by simp) λS M n=>?_);replace M:IsZip S z TI TO .ellipsis:=M
 refine Mw ?_;simp only[List.zipIdx_cons,List.zipIdx_nil,forIn_nil,List.forIn_cons]
 refine Mw (Mw (wpAny_onRaise ?_));show wpAny _ _ (Builtin.SmallTypes.nextOf (.ref I) >>= _) _ _ _
 refine Mw (yP j (J.extBut n.extBut D.i1z) (B.extBut n.extBut D.l1z) F λC e G R=>?_)
 obtain⟨h,d,f⟩:=R;have v:IsZip C z TI TO .ellipsis:=G _ _ D.i1z.symm M
 have ne:e≠z:=λy=>by
  subst y;rw[v]at d
  cases d;simp at f
 exact wpAny_setField_rec v (by simp) λg _ Y=>q g e (λc o r m y=>Y.extBut _ _ r (G _ _ m (n.extBut _ _ r y))) ⟨h,Y.extBut _ _ ne d,f⟩
theorem xq{TI TO u p:Addr}{a b:Value}{Q:Option Value->Shared->Prop}(D:ZipApart z TI TO I u p l)(U:IsZip s.heap z TI TO .none)(hI:IsPair s.heap TI (.ref I) (.ref u))(j:IsPair s.heap TO a b)(J:s.heap.IsTupleIter I p k)(t:s.heap.IsListIter u l k)(B:s.heap.IsTuple p L)(X:s.heap.IsList l R)(m:L[k]?=some x)(f:R[k]?=some y)(q:∀Z,IsZip Z z TI TO (rawInt s.heap.objs.size)->IsPair Z TO x y->Z.IsTupleIter I p (k+1)->Z.IsListIter u l (k+1)->IsPair Z s.heap.objs.size x y->Z.objs.size=s.heap.objs.size+1 ->
   (∀c o,c≠z->c≠TO->c≠I->c≠u->s.heap.get? c=some o->Z.get? c=some o)->Q (some (.ref s.heap.objs.size)) {s with heap:=Z}):wpAny (model P w) A (pyNext (.ref z)) Q E s:=by
 have ty:s.TypeIs (.ref z) "zip":=⟨_,U,rfl⟩
 unfold pyNext;exact Mw (wpAny_attempt (wpAny_callSpecial?_slot (name:=Str.ofString "__next__") ty F.slot_zip_next (wpAny_call_entry F.slot_zip_next ty F.entry_zip_next (xr D U hI j J t B X m f λZ r i n d e g h=>Mx (q Z r i n d e g h)) (F.args_zip_next_1 _))))
theorem xp{TI TO u p:Addr}{a b:Value}{Q:Option Value->Shared->Prop}(j:A.handled=none)(D:ZipApart z TI TO I u p l)(U:IsZip s.heap z TI TO .none)(hI:IsPair s.heap TI (.ref I) (.ref u))(J:s.heap.IsTupleIter I p k)(B:s.heap.IsTuple p L)(d:L[k]?=none)(q:∀Z,(∀c o,c≠z->c≠I->s.heap.get? c=some o->Z.get? c=some o)->Q none {s with heap:=Z}):wpAny (model P w) A (pyNext (.ref z)) Q E s:=by
 have ty:s.TypeIs (.ref z) "zip":=⟨_,U,rfl⟩
 unfold pyNext;refine Mw (wpAny_attempt (wpAny_callSpecial?_slot (name:=Str.ofString "__next__") ty F.slot_zip_next (wpAny_call_entry F.slot_zip_next ty F.entry_zip_next (AI (a:=a) (b:=b) j D U hI J B d λZ e G R=>?_) (F.args_zip_next_1 _))))
 obtain⟨o,Y,M⟩:=R;exact Mw (wpAny_isInstance (T := "StopIteration") (b:=true) ⟨o,Y,M⟩ isSubtype_stop (Mx (q _ G)))
abbrev Gv(h:Heap)(p:Addr):Heap:=h.push {cls:=.type "tuple_iterator",data:=.fields #[.ref p,.int 0 0]}
abbrev Gu(h:Heap)(p l:Addr):Heap:=(Gv h p).push {cls:=.type "list_iterator",data:=.fields #[.ref l,.int 0 0]}
abbrev Gr(h:Heap)(p l:Addr):Heap:=(Gu h p l).push {cls:=.type "tuple",data:=.seq #[.ref h.objs.size,.ref (Gv h p).objs.size]}
abbrev Gq(h:Heap)(p l:Addr):Heap:=(Gr h p l).push {cls:=.type "tuple",data:=.seq #[.none,.none]}
abbrev Dq(h:Heap)(p l:Addr):Heap:=(Gq h p l).push {cls:=.type "zip",data:=.fields #[.none,.bool false,.bool false,.ref (Gu h p l).objs.size,.ref (Gr h p l).objs.size]}
theorem AH(p l:Addr)(L a:Array Value):Meets (Builtin.«zip.__new__» ⟨[.type "zip",.ref p,.ref l],[]⟩) (λ_ R s=>s.heap.IsTuple p L/\s.heap.IsList l a/\R (.ok (.ret (.ref (Gq s.heap p l).objs.size))) {s with heap:=Dq s.heap p l}):=
 .of_wp λc w A R s h=>by
  obtain⟨C,g,d,j,X⟩:=s;obtain⟨N,b,h⟩:=h;have f:=sub_zip
  have t:Heap.IsTuple (Shared.heap ⟨C,g,d,j,X⟩) p L:=N
  have q:Heap.IsList (Shared.heap ⟨C.push {cls:=.type "tuple_iterator",data:=.fields #[.ref p,.int 0 0]},g,d,j,X⟩) l a:=Heap.IsList.push b _
  wp_walk using wpAny_pyIter_tuple t,wpAny_pyIter_list q
  exact⟨_,rfl,h⟩
theorem zK{p:Addr}{f:Array Value}{Q:Value->Shared->Prop}(N:s.heap.IsTuple p L)(R:s.heap.IsList l f)(q:∀Z,IsZip Z (s.heap.objs.size+4) (s.heap.objs.size+2) (s.heap.objs.size+3) .none->IsPair Z (s.heap.objs.size+2) (.ref s.heap.objs.size) (.ref (s.heap.objs.size+1))->IsPair Z (s.heap.objs.size+3) .none .none->Z.IsTupleIter s.heap.objs.size p 0->Z.IsListIter (s.heap.objs.size+1) l 0 ->
   (∀c o,s.heap.get? c=some o->Z.get? c=some o)->Q (.ref (s.heap.objs.size+4)) {s with heap:=Z}):wpAny (model P w) A (call (.type "zip") [.ref p,.ref l]) Q E s:=by
 refine callType_new F.called_zip (by decide) (F.typeCall_zip_2 _ _) (F.newCall_zip_2 _ _) (λd=>F.args_object_init_3 d _ _) F.entry_zip_new (AH p l L f) ⟨N,R,?_⟩
 have G:(Gv s.heap p).objs.size=s.heap.objs.size+1:=Heap.size_push ..
 have r:(Gu s.heap p l).objs.size=s.heap.objs.size+2:=by rw[Heap.size_push,G]
 have Y:(Gr s.heap p l).objs.size=s.heap.objs.size+3:=by rw[Heap.size_push,r]
 have h:(Gq s.heap p l).objs.size=s.heap.objs.size+4:=by rw[Heap.size_push,Y]
 have e:(Dq s.heap p l).get? (Gq s.heap p l).objs.size=some _:=Heap.get?_push_size _ rfl
 have b:(Dq s.heap p l).get? (Gr s.heap p l).objs.size=some _:=My _ (Heap.get?_push_size _ rfl)
 have a:(Dq s.heap p l).get? (Gu s.heap p l).objs.size=some _:=My _ (My _ (Heap.get?_push_size _ rfl))
 have X:(Dq s.heap p l).get? (Gv s.heap p).objs.size=some _:=My _ (My _ (My _ (Heap.get?_push_size _ rfl)))
 have B:(Dq s.heap p l).get? s.heap.objs.size=some _:=My _ (My _ (My _ (My _ (Heap.get?_push_size _ rfl))))
 show _/\_
 rw[r,Y,h]at e;rw[G,r]at a;rw[Y]at b;rw[G]at X;rw[h];exact⟨⟨_,e,rfl⟩,q _ e a b ⟨_,B,rfl,rfl⟩ ⟨_,X,rfl,rfl⟩ λc o x=>My _ (My _ (My _ (My _ (My _ x))))⟩
end
def KR(K:Fg)(a b:Addr):L2.It:=
 ⟨λi H=>∃L R x y,SqT K H a L/\SqL K H b R/\L[i]?=some x/\R[i]?=some y,λi H x F=>∃T v w,x=.ref T/\H T=none/\F=upd H T (.tup [v,w])/\∀L R,SqT K H a L->SqL K H b R->L[i]?=some v/\R[i]?=some w,λi H=>∃L,SqT K H a L/\i=L.length⟩
theorem xP{P:Program}{w:World}{K:Fg}{elts:List Expr}{d:Pos}(a b z TI TO i1 i2:Addr)(D:ZipApart z TI TO i1 i2 a b):xb P w K (.Tuple elts k d) (KR K a b) [z,TI,TO,i1,i2] z (λi h=>IsZip h z TI TO .none/\IsPair h TI (.ref i1) (.ref i2)/\(∃a b,IsPair h TO a b)/\h.IsTupleIter i1 a i/\h.IsListIter i2 b i) where
 mem:=by simp
 obj:=λi h m c J=>by
  obtain⟨hz,hTI,⟨u,v,hTO⟩,⟨o1,N,c1,d1⟩,⟨o2,R,c2,d2⟩⟩:=m;simp only[mem_cons,not_mem_nil,or_false]at J
  rcases J with rfl|rfl|rfl|rfl|rfl
  .exact⟨_,hz,λv z=>by
    have l:Data.fields _=Data.cell v:=z
    cases l⟩
  .exact⟨_,hTI,λv z=>by
    have l:Data.seq _ _=Data.cell v:=z
    cases l⟩
  .exact⟨_,hTO,λv z=>by
    have l:Data.seq _ _=Data.cell v:=z
    cases l⟩
  .exact⟨o1,N,λv z=>by rw[d1]at z;cases z⟩
  .exact⟨o2,R,λv z=>by rw[d2]at z;cases z⟩
 keep:=λi h Z m A=>by
  obtain⟨hz,hTI,⟨u,v,hTO⟩,Y,h2⟩:=m;exact⟨A z (by simp) _ hz,A TI (by simp) _ hTI,⟨u,v,A TO (by simp) _ hTO⟩,Heap.IsTupleIter.at' Y λo q=>A i1 (by simp) o q,h2.at λo q=>A i2 (by simp) o q⟩
 item:=by
  intro X hP j S J i B s M H E I hf m C;subst hP j S;obtain⟨L,ys,x,y,hq,t,F,f⟩:=C;obtain⟨g,rv,p,hz⟩:=I.tuple hq;obtain⟨its2,rv2,r,hz2⟩:=I.list t;obtain⟨u,hu,ru⟩:=rv.get F;obtain⟨u2,hu2,ru2⟩:=rv2.get f;obtain⟨sz,sI,⟨a0,b0,sO⟩,n,s2⟩:=m;refine xq D sz sI sO n s2 p r.isList (by rw[getElem?_toArray];exact hu) (by rw[getElem?_toArray];exact hu2) λZ r1 r2 r3 r4 r5 r6 A=>?_
  refine⟨.ref s.heap.objs.size,rfl,wpAny_letOwnedTupleGo_zip r1 λh2 z2 kk2=>?_⟩
  have lt:∀{c o},s.heap.get? c=some o->s.heap.objs.size≠c:=λe=>Nat.ne_of_gt (Heap.lt_size e)
  have nz:s.heap.objs.size≠z:=lt sz
  have hTn:H s.heap.objs.size=none:=I.hok.fresh (Mz _)
  have kAll:∀c o,c∉[z,TI,TO,i1,i2]->s.heap.get? c=some o->h2.get? c=some o:=λc o U q=>by
   simp only[mem_cons,not_mem_nil,or_false,not_or]at U
   exact kk2.extBut _ _ U.1 (A c o U.1 U.2.2.1 U.2.2.2.1 U.2.2.2.2 q)
  have tT:h2.IsTuple s.heap.objs.size #[u,u2]:=⟨_,kk2.extBut _ _ nz r5,rfl,_,rfl⟩
  have hvs:Vals [x,y] [u,u2]:=.cons ru (.cons ru2 .nil)
  have I3:L2.Inv X B M (upd H s.heap.objs.size (.tup [x,y])) {s with heap:=h2}:=Inv.turnedT (t':=s.toks) I kAll hf (Mz _) ⟨by show 2<=sizeLine;decide,[u,u2],hvs,(show IsTup h2 _ _ from tT)⟩
  refine⟨.ref s.heap.objs.size,upd H s.heap.objs.size (.tup [x,y]),I3,rfl,⟨_,x,y,rfl,hTn,rfl,λxs' ys' Y h2=>by rw[I.tuple_inj Y hq,I.list_inj h2 t];exact⟨F,f⟩⟩,⟨z2,kk2.extBut _ _ D.TIz (A TI _ D.TIz D.TITO D.TIi1 D.TIi2 sI),⟨_,_,kk2.extBut _ _ D.TOz r2⟩,r3.extBut kk2.extBut D.i1z,r4.extBut kk2.extBut D.i2z⟩,λc U=>?_⟩
  have hbT:c≠s.heap.objs.size:=λq=>by
   subst q;simp only[mem_cons,not_mem_nil,or_false]at U
   rcases U with h|h|h|h|h
   .exact nz h
   .exact lt sI h
   .exact lt sO h
   .exact(let⟨_,e,_⟩:=n;lt e) h
   .exact(let⟨_,e,_⟩:=s2;lt e) h
  rw[eT hbT];exact(hf c U).1
 done:=by
  intro X hP j S J i B s M H E I hf m C;subst hP j S;obtain⟨L,hq,F⟩:=C;obtain⟨g,rv,p,hz⟩:=I.tuple hq;obtain⟨sz,sI,⟨a0,b0,sO⟩,n,s2⟩:=m;refine xp (a:=a0) (b:=b0) (I.ok.hd J) D sz sI n p (by rw[getElem?_toArray,F,rv.length];simp) λZ G=>⟨rfl,Inv.turnedL (t':=s.toks) I (λc o U q=>?_) hf⟩
  simp only[mem_cons,not_mem_nil,or_false,not_or]at U
  exact G c o U.1 U.2.2.2.1 q
 self:=λ_ _ _ _ _ m h=>wpAny_pyIter_zip m.1 h
def Lw(K:Fg)(F:TA):TI:=λM H R=>F M H λB f=>∃a b,B=[.ref a,.ref b]/\(∃L,SqT K f a L)/\(∃c,SqL K f b c)/\R (KR K a b) f
theorem Fc{X:Cx}{i:List Expr}{kt:Nat}{ptg:Pos}{l m:Expr}{F:TA}{p d:Pos}(C:Gl X "zip")(E:X.mg "zip"=none)(Z:PA X [l,m] F)(P:starEach [l,m] X.env=(false,eval l X.env)::starEach [m] X.env)(u:(backTo d (starEach [m] X.env)).any (·.1)=false):PI X (.Tuple i kt ptg) (.Call (.Name "zip" p) [l,m] [] d) (Lw X.K F):=by
 intro B s M H R I h;refine Call_ (xj I C E boot_zip (PyProof.Rows.callWith_type1 (b5 (Z d B s M H _ I h) λA n ⟨vs,H1,I1,r1,S⟩=>?_) P u))
 obtain⟨a,b,e,⟨L,Y⟩,⟨ys,hq2⟩,q⟩:=S;subst e;obtain⟨u1,J,rfl,N,v⟩:∃u1 J,A=[u1,J]/\RelV (.ref a) u1/\RelV (.ref b) J:=by
  cases r1 with
  |cons p q=>
   cases q with
   |cons p' t=>
    cases t
    exact⟨_,_,rfl,p,p'⟩
 cases N
 cases v;obtain⟨g,rv,pl,hz⟩:=I1.tuple Y;obtain⟨f,rv2,w,hz2⟩:=I1.list hq2;refine zK pl w.isList λh' hZ j r hi1 x G=>?_
 have ha1:a<n.heap.objs.size:=by
  obtain⟨o,S,_⟩:=pl;exact Heap.lt_size S
 have y:b<n.heap.objs.size:=by
  obtain⟨o,S,_⟩:=w.isList;exact Heap.lt_size S
 refine wpAny_pyIter_zip (s:={n with heap:=h'}) hZ ?_
 have k:L2.Inv X B M H1 {n with heap:=h'}:=I1.kept (t':=n.toks) G
 have D:ZipApart (n.heap.objs.size+4) (n.heap.objs.size+2) (n.heap.objs.size+3) n.heap.objs.size (n.heap.objs.size+1) a b:=by
  constructor<;>first|exact Nat.ne_of_lt (by omega)|exact Nat.ne_of_gt (by omega)|exact Nat.ne_of_lt (Nat.lt_of_lt_of_le ha1 (by omega))|exact Nat.ne_of_lt (Nat.lt_of_lt_of_le y (by omega))
 refine⟨n.heap.objs.size+4,[n.heap.objs.size+4,n.heap.objs.size+2,n.heap.objs.size+3,n.heap.objs.size,n.heap.objs.size+1],_,KR X.K a b,H1,rfl,k,xP a b _ _ _ _ _ D,⟨hZ,j,⟨_,_,r⟩,hi1,x⟩,λc U=>?_,q⟩
 simp only[mem_cons,not_mem_nil,or_false]at U
 have K:n.heap.objs.size<=c:=by
  rcases U with z|z|z|z|z<;>rw[z]<;>first|exact Nat.le_add_right _ _|exact Mz _
 exact I1.fpOk K (I1.hok.fresh K)
def xt(s:Sh)(i j:Nat)(v:FB)(m:F1)(J:List PV)(I:Ev):Out PV:=match J with
 |[⟨s1,.tuple X⟩,⟨s2,.list ds2⟩]=>if aF ⟨s1,.tuple X⟩ X&&aF ⟨s2,.list ds2⟩ ds2&&decide (X.length=ds2.length)&&d5 I[i]?&&d5 I[j]?&&!s.isView then(match cY i j v m s (X.zip ds2) I []with
  |.ok X S=>.ok ⟨.lst s,.list X⟩ S
  |_=>.no)else .no
 |_=>.no
def fo(s:Sh)(i j:Nat)(d:FL)(v:FB)(m:F1):F1:=λC=>(d C).bind (xt s i j v m)
section
variable{K:Fg}{W:XW}{σ:St}{H:Hp}{Q:VK}{fl:FL}{fe:F1}{fc:FB}{s:Sh}{i j:Nat}
theorem vh(hij:i≠j)(h:tE K W (fo s i j fl fc fe) σ H Q):jB [i,j] (Lw K (tA K W fl)) (zj K 2 (jY (b8 i) (jY (b8 j) zk))) (tT K W0 fc) (tE K W0 fe) σ H Q:=by
 obtain⟨L,O,t,C,E,h⟩:=h;refine⟨L,O,t,C,E,?_⟩
 unfold fo at h
 cases e:fl C with
 |er c I=>rw[e]at h;exact h
 |no=>rw[e]at h;exact h
 |ok J I=>
  rw[e]at h;intro us f Gs0 Fs1 A;have hz:Wants K W L O t H σ Q (xt s i j fc fe J I):=h
  clear h;unfold xt at hz;split at hz
  case h_2=>exact hz.elim
  rename_i n X s2 ds2;have h:=hz
  clear hz;by_cases hn:(aF ⟨n,.tuple X⟩ X&&aF ⟨s2,.list ds2⟩ ds2&&decide (X.length=ds2.length)&&d5 I[i]?&&d5 I[j]?&&!s.isView)=true
  case neg=>rw[if_neg hn]at h;exact h.elim
  rw[if_pos hn]at h;simp only[Bool.and_eq_true,Bool.not_eq_true',decide_eq_true_eq]at hn
  obtain⟨⟨⟨⟨⟨hc1,hc2⟩,hdl⟩,hni⟩,hnj⟩,hsv⟩:=hn;have hni:=jV hni
  have hnj:=jV hnj
  match us,A.len1,Gs0,A.len2,A with
  |[v1,v2],_,[G1,G2],_,A=>
    cases eg:cY i j fc fe s (X.zip ds2) I []with
    |er c N=>rw[eg]at h;exact h.elim
    |no=>rw[eg]at h;exact h.elim
    |ok ds' S=>
     rw[eg]at h;have h:Wants K W L O t H σ Q (.ok ⟨.lst s,.list ds'⟩ S):=h
     have nd0:=A.env.nd
     have dis:∀a∈[G1,G2].flatten,a∉O++Fs1.flatten:=λa Z z=>by
      obtain⟨n1,n2,n3⟩:=Mt nd0;rcases Mo z with y|y
      .exact(Mt n1).2.2 a Z a y rfl
      .exact n3 a (Mn _ Z) a y rfl
     have sub:∀a∈O++Fs1.flatten,a∈[G1,G2].flatten++O++Fs1.flatten:=λa Z=>by
      rcases Mo Z with z|z
      .exact Mn _ (Mm _ z)
      .exact Mm _ z
     obtain⟨p,B,rfl,hq,hst,hr⟩:=(A.own 0 v1 _ G1 rfl rfl rfl).itemsT (O':=O++Fs1.flatten) hc1 sub (λa Z=>dis a (by simp[Z]))
     obtain⟨p2,vs2,rfl,hq2,hst2,hr2⟩:=(A.own 1 v2 _ G2 rfl rfl rfl).items (O':=O++Fs1.flatten) hc2 sub (λa Z=>dis a (by simp[Z]))
     have E1:EnvOk K L O Fs1 f σ I:=A.env.dropL
     have hlen:B.length=X.length:=hr.1
     have hlen2:vs2.length=ds2.length:=hr2.1
     have l:i<I.length:=(Mv hni).1
     have hj:j<I.length:=(Mv hnj).1
     refine⟨p,p2,rfl,⟨B,hq⟩,⟨vs2,hq2⟩,λA0 hD=>?_⟩
     have hHeD:L A0=none:=E1.same.free hD
     have E0':EnvOk K L (A0::([]:List (List Addr)).flatten++O) Fs1 (upd f A0 (.lst [])) (bK [i,j] σ) I:=
      (E1.blank2 hni hnj).hide (G:=[A0]) (jt hD) (by simp) (λa Z=>by simp at Z;rw[Z];exact hD) (λa Z=>by simp at Z;rw[Z,eV];exact Option.some_ne_none _)
     refine⟨λk m R F=>m=B.length-k/\k<=B.length/\∃Γk Fk r q,Gm K L O Fs1 f σ i j s A0 I.length R F Γk Fk r q/\cY i j fc fe s ((X.zip ds2).drop k) Γk q=.ok ds' S,⟨B.length,by simp,Nat.zero_le _,I,Fs1,[],[],⟨E0',jt hD,eV,λa Z=>.inl (by simpa using Z),rfl,rfl,λm v d G Y=>by simp at Y,rfl⟩,by simpa using eg⟩,?_⟩
     rintro k m R F ⟨rfl,hk,Γk,Fk,r,q,g,eg'⟩
     refine⟨g.at_,?_⟩
     have hPk:SqT K F p B:=eN g.same hq
     have hPk2:SqL K F p2 vs2:=g.same.seq hq2
     by_cases hlt:k<B.length
     case neg=>
      left
      have:(X.zip ds2).drop k=[]:=List.drop_eq_nil_of_le (by rw[length_zip];omega)
      rw[this]at eg';have eg'':(Out.ok q Γk:Out (List MA))=.ok ds' S:=eg'
      injection eg'' with e1 e2
      subst e1;subst e2;refine⟨⟨B,hPk,by omega⟩,?_⟩
      obtain⟨n1',_,n3'⟩:=Mt g.env.ndO;refine h (.ref A0) F (A0::r.flatten) Fk ⟨A.same.trans g.same,g.env.unblank2,λa Z=>?_,?_⟩
      .have up:a∈Fs1.flatten\/f a=none->a∈t.flatten\/H a=none:=λz=>z.elim (λy=>A.new a (Mm _ y)) λy=>.inr (A.same.free y)
       rcases Mo Z with z|z
       .rcases Mp z with z|z
        .exact up (.inr (by rw[z];exact hD))
        .exact up (g.new a (Mn _ z))
       .exact up (g.new a (Mm _ z))
      .exact .lst hsv g.at_ g.l1 g.l2 n1' λm v d G Y M P=>g.own m v d G Y M P
     case pos=>
      right
      have hv:B[k]?=some B[k]:=Mq hlt
      have hkd:k<X.length:=by omega
      have hd:X[k]?=some X[k]:=Mq hkd
      have hv2:vs2[k]?=some (vs2[k]'(by omega)):=Mq _
      have hd2:ds2[k]?=some (ds2[k]'(by omega)):=Mq _
      have hdr:(X.zip ds2).drop k=(X[k],ds2[k]'(by omega))::(X.zip ds2).drop (k+1):=by
       rw[drop_eq_getElem_cons (by rw[length_zip];omega),List.getElem_zip]
      rw[hdr]at eg';generalize hdk:X[k]=d at hd eg'
      generalize hvk:B[k]=v at hv
      generalize hdk2:ds2[k]'(by omega)=d2 at hd2 eg'
      generalize hvk2:vs2[k]'(by omega)=w2 at hv2
      simp only[cY]at eg'
      have hik:i<Γk.length:=by rw[g.len];exact l
      have hjk:j<Γk.length:=by rw[g.len];exact hj
      have hsl:R.length<sizeLine:=by
       rw[g.l1]
       cases ec:fc ((Γk.set i (MB d)).set j (MB d2))with
       |no=>rw[ec]at eg';cases eg'
       |er c N=>rw[ec]at eg';cases eg'
       |ok b Γa=>
        rw[ec]at eg'
        cases b with
        |false=>
         dsimp only at eg'
         split at eg'
         .assumption
         .cases eg'
        |true=>
         dsimp only at eg'
         split at eg'
         .split at eg'
          .rename_i z
           simp only[Bool.and_eq_true,decide_eq_true_eq]at z
           exact z.2
          .cases eg'
         .cases eg'
      refine⟨⟨B,vs2,v,w2,hPk,hPk2,hv,hv2⟩,hsl,?_⟩
      rintro x Hx ⟨T,v',u',rfl,hTn,rfl,hv'⟩
      have ev:v'=v:=Option.some.inj ((hv' B vs2 hPk hPk2).1.symm.trans hv)
      subst ev;have eu:u'=w2:=Option.some.inj ((hv' B vs2 hPk hPk2).2.symm.trans hv2)
      subst eu;refine⟨T,[v',u'],rfl,.of eV,rfl,v',[u'],rfl,u',[],rfl,rfl,?_⟩
      have sT:Same F (upd F T (.tup [v',u'])):=jt hTn
      have Eg:=g.env.grow sT
      have reps:∀(x:V)(e:MA),Rep K (bZ f (O++Fs1.flatten)) x e->Rep K (bZ (upd F T (.tup [v',u'])) (A0::r.flatten++O++Fk.flatten)) x e:=λx e hxe=>hxe.mono (me (g.same.trans sT) λa Z=>by
       rcases Mo Z with z|z
       .rcases Mo z with z|z
        .rcases Mp z with z|z
         .rw[z];exact .inr hD
         .exact(g.new a (Mn _ z)).elim (λy=>.inl (Mm _ y)) .inr
        .exact .inl (Mn _ z)
       .exact(g.new a (Mm _ z)).elim (λy=>.inl (Mm _ y)) .inr)
      have rep:=reps _ _ (hr.2 k v' d hv hd)
      have rep2:=reps _ _ (hr2.2 k u' d2 hv2 hd2)
      have lF:Fk.length=Γk.length:=g.env.len2
      have Ep:=EnvOk.put (G:=[]) (i:=i) (p:=⟨.leaf,d⟩) (v:=v') Eg (.leaf rep) rfl (λa Z=>by simp at Z) hik
      have fk:∀a∈(Fk.set i []).flatten,a∈Fk.flatten:=λa Z=>oS (by omega) Z
      have Eq:=EnvOk.put (G:=[]) (i:=j) (p:=⟨.leaf,d2⟩) (v:=u') Ep (.leaf (rep2.mono (me (Same.refl _) λa Z=>.inl (by
       rcases Mo Z with z|z
       .exact Mn _ z
       .exact Mm _ (fk a z))))) rfl (λa Z=>by simp at Z) (by rw[length_set];exact hjk)
      have fkk:∀a∈((Fk.set i []).set j []).flatten,a∈Fk.flatten:=λa Z=>fk a (oS (by rw[length_set];omega) Z)
      refine⟨⟨by rw[length_set,length_set],λm u hm=>?_⟩,?_⟩
      .have:=(D2 hm).1
       simp only[mem_cons,not_mem_nil,or_false,not_or]at this
       rw[getElem?_set_ne (Ne.symm this.2),getElem?_set_ne (Ne.symm this.1)];exact hm
      refine⟨L,_,_,_,Eq,?_⟩
      cases ec:fc ((Γk.set i (MB d)).set j (MB d2))with
      |no=>rw[ec]at eg';cases eg'
      |er c N=>rw[ec]at eg';cases eg'
      |ok b Γa=>
       rw[ec]at eg';intro H3 Fs3 s3' E3 n3
       have s3:Same F H3:=sT.trans s3'
       have lena:Γa.length=I.length:=by
        have:=E3.len1
        rw[length_set,length_set,Ae,E1.len1]at this;exact this.symm
       have n3':∀a∈Fs3.flatten,a∈Fs1.flatten\/f a=none:=λa Z=>(n3 a Z).elim (λz=>g.new a (Mm _ (fkk a z))) λz=>.inr (g.same.free (sT.free z))
       have n3k:∀a∈Fs3.flatten,a∈Fk.flatten\/F a=none:=λa Z=>(n3 a Z).elim (λz=>.inl (fkk a z)) λz=>.inr (sT.free z)
       cases b with
       |false=>
        dsimp only at eg'
        split at eg'
        case isFalse=>cases eg'
        refine iL ⟨B.length-(k+1),by omega,rfl,hlt,(Γa.set i none).set j none,Fs3,r,q,⟨E3.forget2,g.same.trans s3,s3 _ _ g.at_,λa Z=>?_,g.l1,g.l2,λm v d G Y M P=>(g.own m v d G Y M P).mono s3 λa Z=>?_,by rw[length_set,length_set];exact lena⟩,eg'⟩
        .rcases Mo Z with z|z
         .exact g.new a (Mn _ z)
         .exact n3' a z
        .rcases Mo Z with z|z
         .exact .inl (Mn _ z)
         .exact(n3k a z).elim (λy=>.inl (Mm _ y)) .inr
       |true=>
        refine iK ⟨L,_,_,_,E3,?_⟩
        dsimp only at eg'
        cases ee:fe Γa with
        |no=>rw[ee]at eg';cases eg'
        |er c N=>rw[ee]at eg';cases eg'
        |ok p Γb=>
         rw[ee]at eg';dsimp only at eg'
         split at eg'
         case isFalse=>cases eg'
         rename_i hco;simp only[Bool.and_eq_true,decide_eq_true_eq]at hco
         obtain⟨hco,_⟩:=hco;intro u H4 G Fs4 A4;have lenb:Γb.length=I.length:=by
          have:=A4.env.len1
          rw[length_set,length_set,Ae,E1.len1]at this;exact this.symm
         have at4:H4 A0=some (.lst R):=A4.same _ _ (s3 _ _ g.at_)
         have s14:Same f H4:=(g.same.trans s3).trans A4.same
         have new4:∀a∈G++Fs4.flatten,a∈Fs1.flatten\/f a=none:=λa Z=>(A4.new a Z).elim (n3' a) λz=>.inr ((g.same.trans s3).free z)
         have hG':∀a∈bb s G,a∈G:=λa Z=>IZ Z
         obtain⟨k1,k2,k3⟩:=Mt A4.env.ndO;have ndk:(bb s G).Nodup:=by
          cases s<;>first|exact nodup_nil|exact k1
         have pmO:(A0::(r++[bb s G]).flatten++O).Perm (bb s G++(A0::r.flatten++O)):=by
          rw[xE];show(A0::((r.flatten++bb s G)++O)).Perm _
          refine List.Perm.trans ?_ List.perm_middle.symm
          refine List.Perm.cons _ ?_
          rw[append_assoc];exact oh _ _ _
         have E5:EnvOk K L (bb s G++(A0::r.flatten++O)) Fs4 H4 (((bK [i,j] σ).set i (some v')).set j (some u')) Γb:=A4.env.drop (λa Z=>by
          rcases Mo Z with z|z
          .exact Mn _ (hG' a z)
          .exact Mm _ z) (List.nodup_append.mpr ⟨ndk,k2,λa Z b U=>k3 a (hG' a Z) b U⟩)
         have E6:=(E5.perm pmO).forget2
         have hDin:A0∈A0::(r++[bb s G]).flatten++O:=mem_cons_self
         have E7:=E6.mutO (o:=.lst (R++[u])) hDin at4 hHeD
         have subH:∀a∈A0::(r++[bb s G]).flatten++O++Fs4.flatten,a∈G++(A0::r.flatten++O)++Fs4.flatten:=λa Z=>by
          rcases Mo Z with z|z
          .rcases Mo (pmO.mem_iff.mp z)with y|y
           .exact Mn _ (Mn _ (hG' a y))
           .exact Mn _ (Mm _ y)
          .exact Mm _ z
         have Dnot:∀{m:Nat}{Gj:List Addr},r[m]?=some Gj->A0∉Gj:=λ{m Gj} hj z=>by
          have nd:=g.env.ndO
          exact(List.nodup_cons.mp nd).1 (Mn _ (pG hj z))
         refine⟨at4,B.length-(k+1),by omega,rfl,hlt,(Γb.set i none).set j none,Fs4,r++[bb s G],q++[p.d],⟨E7,λb o U=>?_,eV,λa Z=>?_,by simp[g.l1],by simp[g.l2],λm w d' G' Y M P=>?_,by rw[length_set,length_set];exact lenb⟩,eg'⟩
         .rw[eT (xk U hD)]
          exact s14 b o U
         .rcases Mo Z with z|z
          .rw[xE]at z
           rcases Mo z with z|z
           .exact g.new a (Mn _ z)
           .exact new4 a (Mn _ (hG' a z))
          .exact new4 a (Mm _ z)
         .by_cases hm:m<R.length
          .rw[getElem?_append_left hm]at Y
           rw[getElem?_append_left (by rw[<-g.l1];exact hm)]at M
           rw[getElem?_append_left (by rw[g.l2,<-g.l1];exact hm)]at P
           have o1:=g.own m w d' G' Y M P
           have o2:=o1.mono (O':=A0::(r++[bb s G]).flatten++O++Fs4.flatten) (s3.trans A4.same) λa Z=>by
            have up:a∈G++Fs4.flatten->a∈A0::r.flatten++O++Fk.flatten\/F a=none:=λz=>(A4.new a z).elim (λy=>(n3k a y).elim (λy=>.inl (Mm _ y)) .inr) λy=>.inr (s3.free y)
            rcases Mo (subH a Z)with z|z
            .rcases Mo z with z|z
             .exact up (Mn _ z)
             .exact .inl (Mn _ z)
            .exact up (Mm _ z)
           exact o2.mut hsv (Mn _ hDin) (Dnot P) at4
          .have hm':m=R.length:=by
            have:=(Mv Y).1
            rw[length_append,length_singleton]at this;omega
           subst hm'
           rw[getElem?_append_right (Mz _),Nat.sub_self]at Y;rw[getElem?_append_right (by rw[g.l1];exact Mz _),show R.length-q.length=0 by rw[g.l1];exact Nat.sub_self _]at M
           rw[getElem?_append_right (by rw[g.l2,g.l1];exact Mz _),show R.length-r.length=0 by rw[g.l2,g.l1];exact Nat.sub_self _]at P
           cases Y
           cases M
           cases P;have o3:=A4.own.coer (s:=s) (O':=A0::(r++[bb s G]).flatten++O++Fs4.flatten) hco subH λa Z hO=>by
            cases s with
            |leaf=>
             exfalso
             have hO':a∈(A0::r.flatten++O)++Fs4.flatten:=by
              rw[xE]at hO;simpa[bb]using hO
             rcases Mo hO' with z|z
             .exact k3 a Z a z rfl
             .have nd:=A4.env.nd
              exact(Mt nd).2.2 a (Mn _ Z) a z rfl
            |view=>cases hsv
            |lst s=>exact Z
            |tup ss=>exact Z
           refine o3.mut hsv (Mn _ hDin) (λz=>?_) at4
           exact k3 A0 (hG' A0 z) A0 mem_cons_self rfl
end
section
variable{X:Cx}{N gl:List Str}{vs cs ls lo gs:List Nat}{W:XW}{a b:Expr}{pos p:Pos}{fl:FL}
theorem coY{d:Scope}{x y:Str}{r g pt h:Pos}{c:Nat}{o:Expr}{U:List Expr}{m:F1}{v:FB}{n H I A:List Nat}(S:Cp X N gl vs cs ls lo gs)(s:Sh)(i j k:Nat)(q:(i != j)=true)(F:N[i]?=some x)(f:N[j]?=some y)(G:gl[k]?=some ("zip":Str))(hg:gs.contains k=true)(E:X.mg "zip"=none)(h1:kc N [i,j] cs d=true)(M:kl N gl n H [i,j] I A d=true)(Z:PA X [a,b] (tA X.K W fl))(z:starEach [a,b] X.env=(false,eval a X.env)::starEach [b] X.env)(u:(backTo h (starEach [b] X.env)).any (·.1)=false)(J:sx X N gl n H [i,j] I A λY=>PF Y U (tT Y.K W0 v))(R:sx X N gl n H [i,j] I A λY=>PE Y o (tE Y.K W0 m))(P:∀x,foldedSetIterable (.Call (.Name "zip" p) [a,b] [] h) X.env x=pure x):PE X (.ListComp o [⟨.Tuple [.Name x r,.Name y g] c pt,.Call (.Name "zip" p) [a,b] [] h,U,0⟩] d pos) (tE X.K W (fo s i j fl v m)):=by
 have B:=λl C t w K=>S.blk M l C t w K
 have L:=λl C t w K=>(B l C t w K).loc i x F (by simp)
 have e:=λl C t w K=>(B l C t w K).loc j y f (by simp)
 have hN:X.N.Nodup:=by rw[S.hN];exact S.nd
 exact bt (rF (lN S h1) S.calm (Fc (S.g G hg).1 E Z z u)
  (λl C t w K=>Ii (X:=blk X d l C t w K) S.calm (Ab (qZ (X:=blk X d l C t w K) (i:=i) hN (by show X.N[i]?=_;rw[S.hN];exact F) (L l C t w K).1 (L l C t w K).2) (Ab (qZ (X:=blk X d l C t w K) (i:=j) hN (by show X.N[j]?=_;rw[S.hN];exact f) (e l C t w K).1 (e l C t w K).2) Iw)))
  (λl C t w K=>J _ (B l C t w K) ⟨rfl,rfl,rfl,rfl,rfl,rfl⟩) (λl C t w K=>R _ (B l C t w K) ⟨rfl,rfl,rfl,rfl,rfl,rfl⟩) P) λ_ _ _=>vh (by simpa using q)
end
end T
namespace TQ
open PySem PySem.Spec L2 T
open PyProof.Rows hiding St
variable{X:Cx}{N gl:List Str}{vs cs ls lo gs:List Nat}{W:XW}{a b:Expr}{pos p:Pos}{fl:FL}
theorem D6{d:Scope}{x y:Str}{r g pt h:Pos}{c:Nat}{o:Expr}{U:List Expr}{m:F1}{v:FB}{vs' cs' lo' gs':List Nat}(S:Cp X N gl vs cs ls lo gs)(s:Sh)(i j k:Nat)(l:(i != j)=true)(e:N[i]?=some x)(f:N[j]?=some y)(G:gl[k]?=some ("zip":Str))(C:gs.contains k=true)(E:X.mg "zip"=none)(n:kc N [i,j] cs d=true)(M:kl N gl vs' cs' [i,j] lo' gs' d=true)(Z:Q (PA X [a,b] (tA X.K W fl)))(L:starEach [a,b] X.env=(false,eval a X.env)::starEach [b] X.env)(u:(backTo h (starEach [b] X.env)).any (·.1)=false)(J:sx X N gl vs' cs' [i,j] lo' gs' λY=>Q (PF Y U (tT Y.K W0 v)))(R:sx X N gl vs' cs' [i,j] lo' gs' λY=>Q (PE Y o (tE Y.K W0 m)))(P:∀x,foldedSetIterable (.Call (.Name "zip" p) [a,b] [] h) X.env x=pure x):Q (PE X (.ListComp o [⟨.Tuple [.Name x r,.Name y g] c pt,.Call (.Name "zip" p) [a,b] [] h,U,0⟩] d pos) (tE X.K W (fo s i j fl v m))):=⟨T.coY S s i j k l e f G C E n M Z.p L u (λY q F=>(J Y q F).p) (λY q F=>(R Y q F).p) P⟩
end TQ
namespace KC
open PySem PySem.Spec L2 T
open PyProof.Rows hiding St
variable{C:Ev}
def qL(a:List MA->Res):FS:=(ao (aA false 2 (aw .leaf 5 (eG (ai 1 aU (ae (ab 1) af))) aM (ai 2 a (ae (ab 0) (ae (ab 5) af)))))
  (ao (aA false 3 (aw .leaf 6 (aP (ab 2)) aM (ah (ab 6) (eK (.int 0)))))
  (ao (aA true 4 (ai 3 bG (ae (ab 0) (ae (ab 1) (ae (ab 3) af)))))
  (aJ (b4 (ae (fU 4 bM (ae (ab 0) (ae (ab 1) (ae (ab 3) (ae (ab 4) af))))) (ae (cC 4) (ae (ab 2) af))))))))
def qr:Nat->List MA->Res
 |0=>λ_=>.no
 |n+1=>aI 7 (qL (qr n))
def jl:FS:=(ao (aA false 5 (ah (ab 2) (ab 4)))
  (ao (aA false 6 (aw .leaf 9 (aP (ah (ah (ab 0) (eK (.int 2))) (ab 4))) aM (ah (ab 2) (ab 9))))
  (ao (aA false 7 (aj (bx false) (ab 1) (eK bE)))
  (ao (bY (aG ag (aj (bx false) (ab 4) (ah (ab 3) (eK (.int 1))))) (aJ (aj bf (ab 5) (eK (.int 0)))) aH)
  (ao (bY (aG ag (aj (bJ false) (ab 5) (eK .none))) (aJ (wF (aj (bx true) (ab 4) (ah (ab 3) (eK (.int 0)))) (iq (ai 2 b6 (ae (ab 7) (ae (aw .leaf 10 (aP (ab 6)) aM (aj (bJ true) (ab 10) (eK .none))) af)))))) aH)
  (ao (aA false 8 (ai 2 b6 (ae (ab 7) (ae (aw .leaf 10 (aP (ab 6)) aM (ai 2 dI (ae (ab 10) (ae (ab 5) af)))) af))))
  (aJ (cV (aj gO (ab 5) (eK (.int 0))) (cV (aj (bx false) (ab 4) (ah (ab 3) (eK (.int 0)))) (ab 8))))))))))
def cE:List MA->Res:=aI 11 jl
def iy:FS:=(ao (aA false 4 (ah (ab 1) (eK (.int 0))))
  (ao (bY (dw (aG ag (aj (bx true) (ab 4) (eK cB))) (aG ag (aj (bx true) (ab 4) (eK dg)))) (aJ (aj (bJ false) (ab 3) (eK .none))) aH)
  (ao (bY (fF (aG ag (aj (bJ false) (ab 3) (eK .none))) (aG ag (aj fE (bp aK (ae (ab 3) af)) (bp aK (ae (ah (ab 0) (eK (.int 0))) af))))) (aJ (eK (.bool false))) aH)
  (ao (aA false 5 (ai 3 aW (ae (ab 0) (ae (ab 1) (ae (ab 2) af)))))
  (aJ (bp (cU false) (ae (aw .leaf 6 (gh (ae (bp aK (ae (ab 3) af)) af)) aM (ai 5 cE (ae (ab 0) (ae (ab 4) (ae (ab 3) (ae (ab 5) (ae (ab 6) af))))))) af)))))))
def ba:List MA->Res:=aI 7 iy
def fq(a:List MA->Res):FS:=(ao (aA false 3 (ai 1 aU (ae (ab 1) af)))
  (ao (bY (aG ag (aj fE (bp aK (ae (ah (ab 2) (eK (.int 2))) af)) (bp aK (ae (ab 3) af)))) (aJ (eK (.bool false))) aH)
  (ao (bY (dv (aG bH (bp (cU false) (ae (fo .leaf 6 5 (ae (ab 3) (ae (ah (ab 2) (eK (.int 2))) af)) aM (ai 3 a (ae (ab 0) (ae (ab 6) (ae (ab 5) af))))) af)))) (aJ (eK (.bool false))) aH)
  (ao (aA false 4 (aw .leaf 5 (aP (ah (ab 2) (eK (.int 2)))) aM (ah (ab 5) (eK (.int 0)))))
  (aJ (cV (ai 4 ba (ae (ab 0) (ae (ab 1) (ae (ab 4) (ae (ah (ab 2) (eK (.int 1))) af))))) (aj bf (ah (ab 2) (eK (.int 0))) (ai 4 bM (ae (ab 0) (ae (ab 1) (ae (ab 4) (ae (ah (ab 2) (eK (.int 1))) af))))))))))))
def bL:Nat->List MA->Res
 |0=>λ_=>.no
 |n+1=>aI 7 (fq (bL n))
def jR:List MA->Res:=bL 30
def qN:FS:=(ao (fH (ai 1 bu (ae (ab 0) af)))
  (ao (fH (ai 1 bg (ae (ab 1) af)))
  (aJ (ai 3 jR (ae (ab 0) (ae (ab 1) (ae (ab 2) af)))))))
def dH:List MA->Res:=aI 3 qN
open PySem.SeqAt
theorem pw{u E:Type}(N:u->D)(R:E->D)(f:u->E->PV){s:Sh}{i j:Nat}{m:F1}{C:Ev}(U:∀x y,((((C.set i x).set j y).set i none).set j none)=C):∀(L:List u)(ys:List E)(acc:List D),L.length=ys.length->(∀a∈L,∀b∈ys,(a,b)∈L.zip ys->m ((C.set i (MB (N a))).set j (MB (R b)))=.ok (f a b) ((C.set i (MB (N a))).set j (MB (R b)))/\coer s (f a b)=true)->acc.length+L.length<=10000 ->
  cY i j aM m s ((L.map N).zip (ys.map R)) C acc=.ok (acc++(L.zip ys).map λp=>(f p.1 p.2).d) C
 |[],[],acc,_,_,_=>by simp[cY]
 |a::L,b::ys,acc,hl,he,hn=>by
  have c:(10000:Nat)<=sizeLine:=by decide
  obtain⟨Y,M⟩:=he a mem_cons_self b mem_cons_self (by simp)
  simp only[length_cons]at hn hl
  rw[map_cons,map_cons,List.zip_cons_cons,cY];show(match m ((C.set i (MB (N a))).set j (MB (R b)))with
   |.ok p S=>if T.coer s p&&decide (acc.length<sizeLine)then cY i j aM m s _ ((S.set i none).set j none) (acc++[p.d])else .no
   |_=>.no)=_
  rw[Y];dsimp only;rw[M,decide_eq_true (by omega),Bool.and_self,if_pos rfl,U,pw N R f U L ys _ (by omega) (λa Z b U h=>he a (Ms _ Z) b (Ms _ U) (by simp[h])) (by simp only[length_append,length_cons,List.length_nil];omega)]
  simp
theorem wU{u E:Type}(N:u->D)(R:E->D)(f:u->E->PV){xs:List u}{ys:List E}{s s1 s2:Sh}{i j:Nat}{d:FL}{m:F1}(g:d C=.ok [⟨s1,.tuple (xs.map N)⟩,⟨s2,.list (ys.map R)⟩] C)(U:∀x y,((((C.set i x).set j y).set i none).set j none)=C)(l:d5 C[i]?=true)(A:d5 C[j]?=true)(P:s.isView=false)(h:aF ⟨s1,.tuple (xs.map N)⟩ (xs.map N)=true)(B:aF ⟨s2,.list (ys.map R)⟩ (ys.map R)=true)(S:xs.length=ys.length)(c:xs.length<=10000)(e:∀a∈xs,∀b∈ys,(a,b)∈xs.zip ys->m ((C.set i (MB (N a))).set j (MB (R b)))=.ok (f a b) ((C.set i (MB (N a))).set j (MB (R b)))/\coer s (f a b)=true):fo s i j d aM m C=.ok ⟨.lst s,.list ((xs.zip ys).map λp=>(f p.1 p.2).d)⟩ C:=by
 unfold fo;rw[g,sy];unfold xt;dsimp only;rw[h,B,l,A,P,decide_eq_true (by simpa using S)]
 simp only[Bool.and_self,Bool.not_false,if_true]
 rw[pw N R f U xs ys [] S e (by simpa using c)]
 simp
def u3(w:Wd)(any:Bool)(v f:List Nat)(rk:List (Option Nat))(r:Nat):Bool:=
 if f.contains r then decide (bP rk r=some 0)else match bP rk r with
 |none=>!v.contains r||!cw any ((w.stp r).map λt=>(bP rk t).isSome)
 |some k=>decide (0<k)&&(v.contains r&&cw any ((w.stp r).map λt=>qw (bP rk t) (some k)))
theorem yS{o:Option Nat}{k:Nat}:qw o (some k)=true↔∃j,o=some j/\j<k:=by
 cases o with
 |none=>simp[qw]
 |some a=>simp[qw]
theorem lq{any:Bool}{l:List Nat}{p q:Nat->Prop}(h:∀t∈l,p t↔q t):led any l p↔led any l q:=by
 unfold led
 cases any with
 |true=>simpa using⟨λ⟨t,a,b⟩=>⟨t,a,(h t a).mp b⟩,λ⟨t,a,b⟩=>⟨t,a,(h t a).mpr b⟩⟩
 |false=>simpa using⟨λz t a=>(h t a).mp (z t a),λz t a=>(h t a).mpr (z t a)⟩
theorem ya{w:Wd}{any:Bool}{v f:List Nat}{rk:List (Option Nat)}(S:rk.length=w.n):(List.range w.n).all (u3 w any v f rk)=true↔Right w any v f rk:=by
 have p:∀r,cw any ((w.stp r).map λt=>(bP rk t).isSome)=true↔led any (w.stp r) λt=>bP rk t≠none:=λr=>led_iff.trans (lq λt _=>by cases bP rk t<;>simp)
 have a:∀r k,cw any ((w.stp r).map λt=>qw (bP rk t) (some k))=true↔led any (w.stp r) λt=>∃j,bP rk t=some j/\j<k:=λr k=>led_iff.trans (lq λt _=>yS)
 have E:∀(l:List Nat) r,l.contains r=true↔r∈l:=λl r=>by simp
 constructor
 .intro h
  have h:∀r,r<w.n->u3 w any v f rk r=true:=λr m=>List.all_eq_true.mp h r (List.mem_range.mpr m)
  refine⟨S,λr m C=>?_,λr k m C G=>?_,λr m G=>?_⟩
  .have:=h r m
   unfold u3 at this;rw[if_pos ((E _ _).mpr C)]at this;exact of_decide_eq_true this
  .have:=h r m
   unfold u3 at this;rw[if_neg (λz=>C ((E _ _).mp z)),G]at this
   simp only[Bool.and_eq_true,decide_eq_true_eq]at this
   exact⟨this.1,(E _ _).mp this.2.1,(a r k).mp this.2.2⟩
  .have:=h r m
   unfold u3 at this;by_cases C:r∈f
   .rw[if_pos ((E _ _).mpr C),G]at this
    cases of_decide_eq_true this
   .rw[if_neg (λz=>C ((E _ _).mp z)),G]at this
    simp only[Bool.or_eq_true,Bool.not_eq_true']at this
    refine⟨C,this.elim (λz=>.inl λy=>?_) λz=>.inr λy=>?_⟩
    .rw[(E _ _).mpr y]at z;cases z
    .rw[(p r).mpr y]at z;cases z
 .intro R
  refine List.all_eq_true.mpr λr m=>?_
  have m:=List.mem_range.mp m
  unfold u3;by_cases C:r∈f
  .rw[if_pos ((E _ _).mpr C),R.g r m C];rfl
  .rw[if_neg (λz=>C ((E _ _).mp z))]
   cases G:bP rk r with
   |none=>
    simp only[Bool.or_eq_true,Bool.not_eq_true']
    refine(R.z r m G).2.elim (λz=>.inl ?_) λz=>.inr ?_
    .cases e:v.contains r with
     |false=>rfl
     |true=>exact absurd ((E _ _).mp e) z
    .cases e:cw any ((w.stp r).map λt=>(bP rk t).isSome)with
     |false=>rfl
     |true=>exact absurd ((p r).mp e) z
   |some k=>
    obtain⟨Y,M,P⟩:=R.p r k m C G;simp only[Bool.and_eq_true,decide_eq_true_eq]
    exact⟨Y,(E _ _).mpr M,(a r k).mpr P⟩
theorem xf{s:Sn}{Γ:Ev}(h:Γ[1]?=some (MB s.enc)):ah (ab 1) (eK (.int 0)) Γ=.ok ⟨.leaf,.str s.w.t⟩ Γ:=by
 cases s<;>simp[h,Sn.enc,Sn.w]
abbrev KZ:FB:=dw (aG ag (aj (bx true) (ab 4) (eK cB))) (aG ag (aj (bx true) (ab 4) (eK dg)))
theorem uJ{a:Wr}(h:C[4]?=some (MB (.str a.t))):KZ C=.ok (!(decide (a=.su\/a=.au))&&!(decide (a=.sa\/a=.aa))) C:=by
 cases a<;>simp[KZ,h]
theorem w4{w:Wd}{s:Sn}{P R:D}(Y:¬(s.w=.su\/s.w=.au))(M:¬(s.w=.sa\/s.w=.aa)):ba [w.enc,s.enc,P,R]=.ok ⟨.leaf,.bool (bW R)⟩:=by
 refine aV (ay (dO (xf rfl) rfl (by simp[av])) (gQ (aT (uJ (a:=s.w) rfl) (λ_=>aS (aB (az rfl) aO rfl) rfl) λz=>?_)))
 rw[decide_eq_false Y,decide_eq_false M]at z
 cases z
inductive Pap (w:Wd):Sn->D->Prop where
 |mk {s:Sn} {R:D} {bs:List D}:fG w s R->bs.length=s.args.length->(∀a b,(a,b)∈s.args.zip bs->Pap w a b)->Pap w s (.tuple [aR (aX w s),R,.list bs])
theorem Pap.fst{w:Wd}{s:Sn}{d:D}(h:Pap w s d):∃r,d=.tuple (aR (aX w s)::r):=by
 cases h with
 |mk Y M P=>exact⟨_,rfl⟩
theorem G4{s a:Sn}(Z:a∈s.args){n:Nat}(h:s.dep<=n+1):a.dep<=n:=by
 have:=zx Z
 omega
theorem vk{w:Wd}(ok:w.Ok){s:Sn}:∃p:PV,bG [w.enc,s.enc,cv (s.args.map (aX w))]=.ok p/\fG w s p.d/\(p=⟨.leaf,.none⟩\/p.s=.lst .leaf)/\((s.w=.su\/s.w=.au)\/(s.w=.sa\/s.w=.aa)->p.s=.lst .leaf):=by
 have H:=ok.h24
 have plain:∀s:Sn,¬(s.w=.su\/s.w=.au)->¬(s.w=.sa\/s.w=.aa)->∀P:D,bG [w.enc,s.enc,P]=.ok ⟨.leaf,.none⟩:=λs Y M P=>by
  have q:=xf (s:=s) (Γ:=av 6 [w.enc,s.enc,P]) rfl
  refine aV ?_
  unfold gK;rw[fI,oa,q];simp[av,Y,M]
 have pl:∀s:Sn,¬(s.w=.su\/s.w=.au)->¬(s.w=.sa\/s.w=.aa)->(∀R,R=.none->fG w s R)->∃p:PV,bG [w.enc,s.enc,cv (s.args.map (aX w))]=.ok p/\fG w s p.d/\(p=⟨.leaf,.none⟩\/p.s=.lst .leaf)/\((s.w=.su\/s.w=.au)\/(s.w=.sa\/s.w=.aa)->p.s=.lst .leaf):=λs Y M d=>⟨_,plain s Y M _,d _ rfl,.inl rfl,λz=>(z.elim Y M).elim⟩
 have gl:∀a:Sn,(∀r∈(List.range w.n).filter (λt=>!(aX w a).contains t),r<w.n)/\((List.range w.n).filter λt=>!(aX w a).contains t).length<=1000:=λa=>
  ⟨λr m=>List.mem_range.mp (List.mem_filter.mp m).1,Nat.le_trans (length_filter_le _ _) (by simp;omega)⟩
 cases s with
 |yes=>exact pl .yes (by simp[Sn.w]) (by simp[Sn.w]) λR h=>h
 |mk c=>exact pl (.mk c) (by simp[Sn.w]) (by simp[Sn.w]) λR h=>h
 |un k a=>
  cases k with
  |not=>exact pl (.un .not a) (by simp[Sn.w,U5.w]) (by simp[Sn.w,U5.w]) λR h=>h
  |sn=>exact pl (.un .sn a) (by simp[Sn.w,U5.w]) (by simp[Sn.w,U5.w]) λR h=>h
  |an=>exact pl (.un .an a) (by simp[Sn.w,U5.w]) (by simp[Sn.w,U5.w]) λR h=>h
  |sa=>
   obtain⟨rk,e,R⟩:=GL ok (s:=.un .sa a) (P:=cv [aX w a]) (.inr (.inl rfl)) ⟨_,rfl,Hb ok (by simp[Sn.w,U5.w])⟩ (λr m=>List.mem_range.mp m) (by simp;omega) (gl a).1 (gl a).2
   exact⟨_,e,⟨rk,rfl,R⟩,.inr rfl,λ_=>rfl⟩
  |aa=>
   obtain⟨rk,e,R⟩:=GL ok (s:=.un .aa a) (P:=cv [aX w a]) (.inr (.inr rfl)) ⟨_,rfl,Hb ok (by simp[Sn.w,U5.w])⟩ (λr m=>List.mem_range.mp m) (by simp;omega) (gl a).1 (gl a).2
   exact⟨_,e,⟨rk,rfl,R⟩,.inr rfl,λ_=>rfl⟩
 |bi k a b=>
  cases k with
  |and=>exact pl (.bi .and a b) (by simp[Sn.w,B4.w]) (by simp[Sn.w,B4.w]) λR h=>h
  |or=>exact pl (.bi .or a b) (by simp[Sn.w,B4.w]) (by simp[Sn.w,B4.w]) λR h=>h
  |su=>
   obtain⟨rk,e,R⟩:=GL ok (s:=.bi .su a b) (P:=cv [aX w a,aX w b]) (.inl (.inl rfl)) ⟨_,rfl,Hd (.inl rfl)⟩ GE (GG ok) GE (GG ok)
   exact⟨_,e,⟨rk,rfl,R⟩,.inr rfl,λ_=>rfl⟩
  |au=>
   obtain⟨rk,e,R⟩:=GL ok (s:=.bi .au a b) (P:=cv [aX w a,aX w b]) (.inl (.inr rfl)) ⟨_,rfl,Hd (.inr rfl)⟩ GE (GG ok) GE (GG ok)
   exact⟨_,e,⟨rk,rfl,R⟩,.inr rfl,λ_=>rfl⟩
theorem oV:∀a b:List Nat,PyData.eqvAll (a.map rm) (b.map rm)=decide (a=b)
 |[],[]=>by simp[PyData.eqvAll]
 |[],y::b=>by simp[PyData.eqvAll]
 |x::a,[]=>by simp[PyData.eqvAll]
 |x::a,y::b=>by
  rw[map_cons,map_cons,PyData.eqvAll,oV a b,PyData.eqv];have:((x:Int)==(y:Int))=decide (x=y):=by
   rw[Bool.eq_iff_iff];simp only[beq_iff_eq,decide_eq_true_eq]
   omega
  rw[this];by_cases Y:x=y<;>by_cases M:a=b<;>simp[Y,M]
theorem zt{a b:List Nat}:bf (aR a) (aR b)=some (.bool (decide (a=b))):=by
 show(if shaped (aR a)&&shaped (aR b)then some (PyData.bool (PyData.eqv (.list (a.map rm)) (.list (b.map rm))))else none)=_
 rw[IB,IB,Bool.and_self,if_pos rfl,PyData.eqv,oV]
end KC
namespace T
open PySem PySem.Spec L2
open PyProof.Rows hiding St
variable{K:Fg}{y:FuncData}{J:List Str}
def Mg(L:List Nat)(M Z:St):Prop:=∀i∈L,Z[i]?=M[i]?
def nD(L:List Nat)(D:eR)(M:St):eR:={D with nx:=λZ F=>Mg L M Z->D.nx Z F}
def tN(L:List Nat)(K:Fg)(W:XW)(g:FS):TS:=λD M H=>tS K W g (nD L D M) M H
abbrev gM(x:Str)(s:Stmt)(J:List Str)(A:List Value):Prop:=∀(kV R X:Value)(an:Option Addr)(cdv ct:Value),bindArgs (PySem.W.fnOf x x (fZ s) (bR s) (aL s) .none kV R X an cdv ct) ⟨A,[]⟩=pure (J.zip A)
abbrev eh(x:Str)(s:Stmt)(J:List Str):Prop:=∀A:List Value,A.length=J.length->gM x s J A
section
variable{x:Str}{s:Stmt}{p1 p2 p3 p4 p5 p6:Str}
theorem ue(h:∀a,gM x s [p1] [a]:=by exact λ_ _ _ _ _ _ _=>rfl):eh x s [p1]:=λA S=>match A,S with|[_],_=>h _
theorem xm(h:∀a b,gM x s [p1,p2] [a,b]:=by exact λ_ _ _ _ _ _ _ _=>rfl):eh x s [p1,p2]:=λA S=>match A,S with|[_,_],_=>h _ _
theorem sg(h:∀a b c,gM x s [p1,p2,p3] [a,b,c]:=by exact λ_ _ _ _ _ _ _ _ _=>rfl):eh x s [p1,p2,p3]:=λA S=>match A,S with|[_,_,_],_=>h _ _ _
theorem HQ(h:∀a b c d,gM x s [p1,p2,p3,p4] [a,b,c,d]:=by exact λ_ _ _ _ _ _ _ _ _ _=>rfl):eh x s [p1,p2,p3,p4]:=λA S=>match A,S with|[_,_,_,_],_=>h _ _ _ _
theorem LH(h:∀a b c d e,gM x s [p1,p2,p3,p4,p5] [a,b,c,d,e]:=by exact λ_ _ _ _ _ _ _ _ _ _ _=>rfl):eh x s [p1,p2,p3,p4,p5]:=λA S=>match A,S with|[_,_,_,_,_],_=>h _ _ _ _ _
theorem Mf(h:∀a b c d e f,gM x s [p1,p2,p3,p4,p5,p6] [a,b,c,d,e,f]:=by exact λ_ _ _ _ _ _ _ _ _ _ _ _=>rfl):eh x s [p1,p2,p3,p4,p5,p6]:=λA S=>match A,S with|[_,_,_,_,_,_],_=>h _ _ _ _ _ _
end
def Ft(K:Fg)(p:Str->Option Value)(n:Str)(s:Stmt):Prop:=∃f y,p n=some (.ref f)/\Fun K n n s f y
theorem ft{h:Heap}{p:Str->Option Value}{n:Str}{s:Stmt}{f:Addr}{M an:Option Addr}{B:Array (Option Value)}{u kV b d F ct:Value}(X:K.In h)(G:h.Ns mainGlobals p)(a:PySem.W.nsIn K mainGlobals n=some (some (.ref f)))(l:K.lookup f=some ⟨u,M,.func (PySem.W.fnOf n n (fZ s) (bR s) (aL s) .none kV b d an F ct),B⟩)(c:PySem.W.codeIn K F n=true)(k:PySem.W.keepIn K (.ref f)=true):Ft K p n s:=⟨f,_,PySem.W.mg_of X G a,CZ (st:=s) l c k⟩
theorem Dt{x:Str}{m:Stmt}{f:Addr}(F:Fun K x x m f y)(b:eh x m J):Binds K y J []:=F.binds λkV R X an a ct A S=>b A S kV R X an a ct
def Cz(B I:List Nat):List Nat:=B.filter λi=>!I.contains i
def fB(N gl J:List Str)(B I H:List Nat)(s:Stmt):Bool:=kl N gl B I B (Cz B I) H (aL s)&&tx N gl&&(!(aL s).isCoroutine&&!(aL s).isGenerator&&decide (N.take J.length=J)&&(J.all λx=>fP (aL s) [.local,.cell] (some x))&&((aL s).names.all λy=>!decide (y.2=.free)))
theorem FJ{N gl:List Str}{B I H:List Nat}{s:Stmt}(h:fB N gl J B I H s=true):kl N gl B I B (Cz B I) H (aL s)=true/\tx N gl=true/\cm N J (aL s):=by
 unfold fB at h;simp only[Bool.and_eq_true,decide_eq_true_eq,all_eq_true,Bool.not_eq_true',decide_eq_false_iff_not]at h
 obtain⟨⟨Y,M⟩,⟨⟨⟨P,m⟩,C⟩,a⟩,b⟩:=h;refine⟨Y,M,(Ic Y).kind,P,m,(vP M).1,C,λx F=>?_,b⟩
 obtain⟨k,G,q⟩:=DG (a x F);simp only[mem_cons,not_mem_nil,or_false]at G
 rcases G with rfl|rfl
 .exact .inl q
 .exact .inr q
structure In(p:Fg->(Str->Option Value)->Prop)(X:Cx)(P:Program)(w:World)(K:Fg)(mg:Str->Option Value)(base:Heap)(k:Nat):Prop where
 e1:X.prog=P
 e2:X.w=w
 e3:X.K=K
 e4:X.mg=mg
 e5:X.base=base
 rm:Room k X.A
 pp:p K mg
section
variable{p:Fg->(Str->Option Value)->Prop}{X Y:Cx}{P:Program}{w:World}{K:Fg}{mg:Str->Option Value}{base:Heap}{j k n:Nat}{x:Str}{s:Stmt}{ps:List Str}{g:FS}{den:List MA->Res}{ss:List Sh}
theorem In.r(I:In p X P w K mg base k):Rm X:=I.rm.units
theorem In.e(I:In p X P w K mg base k):p X.K X.mg:=by rw[I.e3,I.e4];exact I.pp
theorem In.c(I:In p X P w K mg base k)(h:DefOk P w K mg base j x n den)(A:decide (j<=k)=true:=by first|exact rfl|exact decide_eq_true (by omega)):pM X x n den:=by
 obtain⟨rfl,rfl,rfl,rfl,rfl,r,_⟩:=I;exact h.cal r A
theorem Fx.i(F:Fx X Y)(I:In p X P w K mg base k):In p Y P w K mg base k:=⟨F.prog.trans I.e1,F.w.trans I.e2,F.K.trans I.e3,F.mg.trans I.e4,F.base.trans I.e5,by rw[F.A];exact I.rm,I.pp⟩
abbrev Bd(p:Fg->(Str->Option Value)->Prop)(P:Program)(w:World)(K:Fg)(b:Str->Option Value)(a:Heap)(k:Nat)(N gl:List Str)(B I H:List Nat)(s:Stmt)(g:FS):Prop:=∀X:Cx,Cp X N gl B I B (Cz B I) H->In p X P w K b a k->PassesOwn (model X.prog X.w) X.A X.env X.xe->TQ.Q (PSs X (bR s) (tS X.K W0 g))
theorem Kn(F:Ft K mg x s)(b:eh x s ps):DefOk P w K mg base j x ps.length (λ_=>.no):=by
 obtain⟨f,y,E,F⟩:=F;exact⟨f,y,ps,FH,E,F.kp,Dt F b⟩
theorem Lu{f:Addr}(F:Fun K x x s f y)(e:p K mg)(N gl:List Str)(B I b:List Nat)(h:fB N gl ps B I b s=true)(U:Bd p P w K mg base k N gl B I b s g):eQ P w K mg base lZ (k+1) f y ps (pJ K ps.length (aI N.length g)):=by
 obtain⟨d,M,c⟩:=FJ h;exact C0 F c λa A L s H E m=>(U _ (Cp.fn d M) ⟨rfl,rfl,rfl,rfl,rfl,m,e⟩ PassesOwn.never).p
theorem mk(F:Ft K mg x s)(e:p K mg)(J:List Str)(b:eh x s J)(o gl:List Str)(B I H:List Nat)(U:Bd p P w K mg base k (J++o) gl B I H s g)(h:fB (J++o) gl J B I H s=true:=by kernel_rfl):DefOk P w K mg base (k+1) x J.length (aI (J++o).length g):=by
 obtain⟨f,y,E,F⟩:=F;exact⟨f,y,J,Lu F e _ gl B I H h U,E,F.kp,Dt F b⟩
theorem LW{L:Addr}(F:Ft K mg x s)(e:p K mg)(q:Str)(b:eh x s [q])(c:mg x=some (.ref L))(o gl:List Str)(B I H:List Nat)(U:∀base,Bd p P w K mg base k ([q]++o) gl B I H s g)(h:fB ([q]++o) gl [q] B I H s=true:=by kernel_rfl):∃y:FuncData,(∀(s:Shared)(v:Value),BindsTo s y ⟨[v],[]⟩ [(q,v)])/\∀base:Heap,K.In base->base.Ns mainGlobals mg->eQ P w K mg base lZ (k+1) L y [q] (pJ K 1 (aI ([q]++o).length g)):=by
 obtain⟨f,y,E,F⟩:=F;have J:=c.symm.trans E
 cases J
 refine⟨y,λs v=>?_,λbase _ _=>Lu F e _ gl B I H h (U base)⟩
 obtain⟨u,M,kV,R,d,an,a,ct,G,rfl,i,z⟩:=F.ex;exact .of_eq (b [v] rfl kV R d an a ct)
section
variable{h:Heap}{a:Addr}{dd:Option Addr}{its:Array Value}{n:Nat}{sl:Array (Option Value)}{ds:List MA}(KX:K.In h)(G:h.Ns mainGlobals mg)
include KX G
theorem gn(z:PySem.W.nsIn K mainGlobals x=some none):mg x=none:=PySem.W.mg_none_of KX G z
theorem gi{i:Int}{t:Tok}(z:PySem.W.nsIn K mainGlobals x=some (some (.int i t))):jq K mg x (.int i):=zI (PySem.W.mg_of KX G z)
theorem gt(z:PySem.W.nsIn K mainGlobals x=some (some (.ref a)))(l:K.lookup a=some ⟨.type "tuple",dd,.seq its n,sl⟩)(c:Df its ds=true):jq K mg x (.tuple ds):=zG (PySem.W.mg_of KX G z) l c
theorem gd{F:Array DictEntry}{N:Nat}{m:List (Str×Int)}(z:PySem.W.nsIn K mainGlobals x=some (some (.ref a)))(l:K.lookup a=some ⟨.type "dict",none,.dict F N,#[]⟩)(c:uL a F m=true):sv K mg x m:=zH (PySem.W.mg_of KX G z) l c
end
theorem walkG{m:List MA->Res}{l:PySem.W.OpenLaw}{q:Program}{b:List Str}{H:(Str->Option Value)->Heap->Prop}{v:World->Heap->Prop}{d:DefRec}{K:Params->Fg}(lt:∀Z:List Int,Z.length<=63->m [.list (Z.map .int)]=.ok ⟨.leaf,.bool true⟩)(c:Room j callerA)(e:l.most=some 63)(r:d.params.defaults=[])(M:∀(w:World)(h:Heap),v w h->(K w.params).In h)(F:∀(w:World)(mg:Str->Option Value)(fa:Addr)(h:Heap),(K w.params).In h->h.Ns mainGlobals mg->mg d.name=some (.ref fa) ->
   ∃y:FuncData,(∀(s:Shared)(u:Value),BindsTo s y ⟨[u],[]⟩ [("script",u)])/\∀base:Heap,(K w.params).In base->base.Ns mainGlobals mg->eQ l.prog w (K w.params) mg base lZ j fa y ["script"] (pJ (K w.params) 1 m)):PySem.W.WalkO q b H v l.row.toRowW d [] (λf B=>PySem.call f B):=
 L2.walk_of (n:=63) (k:=j) (x := "script") (CX:=λ_=>lZ) (sp:=λw=>pJ (K w.params) 1 m) e (by decide) r c M F (λ_ _ a Z S _ I=>CA (lt Z S) I) λ_ _ _ _ _ z=>z
end
end T
namespace TQ
open PySem PySem.Spec L2 T
open PyProof.Rows hiding St
variable{x:Str}
section
variable{X:Cx}{N gl:List Str}{vs cs ls lo gs:List Nat}{W:XW}{a b c e:Expr}{es:List Expr}{pos p:Pos}{fa fb fc:F1}{fl:FL}{ga gb:FB}{g1 g2 g:FS}
theorem ak(S:Cp X N gl vs cs ls lo gs)(i:Nat)(L:N[i]?=some x:=by exact rfl)(f:vs.contains i=true:=by exact rfl):Q (PE X (.Name x pos) (tE X.K W (ab i))):=w_cv S i L f
theorem bB(Z:Q (PE X e (tE X.K W fa)))(m:Q (PA X es (tA X.K W fl)))(P:fR e=false:=by exact rfl):Q (PA X (e::es) (tA X.K W (ae fa fl))):=w_da_cons Z m (bC P)
theorem bc(Z:Q (PE X e (tE X.K W fa)))(P:fR e=false:=by exact rfl):Q (PA X [e] (tA X.K W (ae fa af))):=w_da_cons Z w_da_nil (bC P)
theorem bA(Z:Q (PE X a (tE X.K W fa)))(U:Q (PE X b (tE X.K W fb)))(P:jx b:=by exact λ_ _=>rfl):Q (PE X (.Subscript a b pos) (tE X.K W (ah fa fb))):=w_de_idx Z U P
theorem dm{n:Nat}{w:List MA->Res}(S:Cp X N gl vs cs ls lo gs)(j:Nat)(C:pM X x n w)(Z:Q (PA X (e::es) (tA X.K W fl)))(A:gl[j]?=some x:=by exact rfl)(d:gs.contains j=true:=by exact rfl)(R:fR e=false:=by exact rfl)(u:(backTo pos (starEach es X.env)).any (·.1)=false:=by exact rfl):Q (PE X (.Call (.Name x p) (e::es) [] pos) (tE X.K W (ai n w fl))):=w_cc S j A d C Z (bC R) u
theorem da(S:Cp X N gl vs cs ls lo gs)(own:Bool)(i:Nat){A:Pos}(Z:Q (PE X a (tE X.K W fa)))(l:N[i]?=some x:=by exact rfl)(d:ls.contains i=true:=by exact rfl)(P:swapsWith a (some (.Name x A)) pos.line X.env=pure false:=by exact rfl):Q (PS X (.Assign [.Name x A] a pos) (tS X.K W (aA own i fa))):=nt S own i l d P Z
theorem fz(S:Cp X N gl vs cs ls lo gs)(j:Nat)(E:X.mg "len"=none)(Z:Q (PA X (e::es) (tA X.K W fl)))(A:gl[j]?=some ("len":Str):=by exact rfl)(C:gs.contains j=true:=by exact rfl)(R:fR e=false:=by exact rfl)(u:(backTo pos (starEach es X.env)).any (·.1)=false:=by exact rfl):Q (PE X (.Call (.Name "len" p) (e::es) [] pos) (tE X.K W (bp aK fl))):=Ac S j A C E Z (bC R) u
theorem cn{f:CmpOp}{r:R2}{g:MA->MA->Option MA}(k:Ck X f r g)(Z:Q (PE X a (tE X.K W fa)))(U:Q (PE X b (tE X.K W fb)))(E:behindInMarks f b=false:=by with_unfolding_all rfl):Q (PT X (.Compare a [f] [b] pos) (tT X.K W (aG ag (aj g fa fb)))):=eY k Z U E
theorem dP{f:CmpOp}{r:R2}{g:MA->MA->Option MA}(k:Ck X f r g)(Z:Q (PE X a (tE X.K W fa)))(U:Q (PE X b (tE X.K W fb)))(E:behindInMarks f b=false:=by with_unfolding_all rfl):Q (PE X (.Compare a [f] [b] pos) (tE X.K W (aj g fa fb))):=Jy k Z U E
theorem cb(Z:Q (PE X a (tE X.K W fa))):Q (PSs X [.Return (some a) pos] (tS X.K W (aJ fa))):=ko (uz Z)
theorem iE{d:Scope}{r:Pos}{z o:Expr}{U:List Expr}{u:FI}{m:F1}{v:FB}(n H A:List Nat)(S:Cp X N gl vs cs ls lo gs)(i:Nat)(q:Q (PI X (.Name x r) z (tI X.K W u)))(J:sx X N gl n H [i] [] A λY=>Q (PF Y U (tT Y.K W0 v)))(R:sx X N gl n H [i] [] A λY=>Q (PE Y o (tE Y.K W0 m)))(F:N[i]?=some x:=by exact rfl)(f:kd N i cs d=true:=by kernel_rfl)(M:kl N gl n H [i] [] A d=true:=by kernel_rfl)(P:∀x,foldedSetIterable z X.env x=pure x:=by exact λ_=>rfl):Q (PE X (.ListComp o [⟨.Name x r,z,U,0⟩] d pos) (tE X.K W (aw .leaf i u v m))):=Jx S .leaf i F f M q J R P
end
end TQ
namespace T
open PySem PySem.Spec L2
open PyProof.Rows hiding St
abbrev bk(d c:Str):F1:=eK (.bool (d==c))
section
variable{X:Cx}{N gl:List Str}{vs cs ls lo gs:List Nat}{W:XW}{a:Expr}{pos:Pos}{fa:F1}
theorem cs_unpt(S:Cp X N gl vs cs ls lo gs)(i j k:Nat){x y z:Str}{r g b pt:Pos}{c:Nat}(l:N[i]?=some x)(A:N[j]?=some y)(G:N[k]?=some z)(d:ls.contains i=true)(f:ls.contains j=true)(e:ls.contains k=true)(Z:PE X a (tE X.K W fa))(P:swapsWithSole [.Tuple [.Name x r,.Name y g,.Name z b] c pt] a pos.line X.env=pure false)(h:swappedStores [.Tuple [.Name x r,.Name y g,.Name z b] c pt] a X.env=pure none):PS X (.Assign [.Tuple [.Name x r,.Name y g,.Name z b] c pt] a pos) (tS X.K W (jG [i,j,k] fa)):=by
 have L:X.N.Nodup:=by rw[S.hN];exact S.nd
 exact eO (Dx Z (Ii S.calm (Ab (qZ L (by rw[S.hN];exact l) (S.loc i x l d).1 (S.loc i x l d).2) (Ab (qZ L (by rw[S.hN];exact A) (S.loc j y A f).1 (S.loc j y A f).2) (Ab (qZ L (by rw[S.hN];exact G) (S.loc k z G e).1 (S.loc k z G e).2) Iw)))) P h) λ_ _ _=>yg (is:=[i,j,k])
end
end T
namespace TQ
open PySem PySem.Spec L2 T
open PyProof.Rows hiding St
variable{X:Cx}{N gl:List Str}{vs cs ls lo gs:List Nat}{W:XW}{a:Expr}{pos:Pos}{fa:F1}
theorem sD(S:Cp X N gl vs cs ls lo gs)(i j k:Nat){x y z:Str}{r g b pt:Pos}{c:Nat}(l:N[i]?=some x)(A:N[j]?=some y)(G:N[k]?=some z)(d:ls.contains i=true)(f:ls.contains j=true)(e:ls.contains k=true)(Z:Q (PE X a (tE X.K W fa)))(P:swapsWithSole [.Tuple [.Name x r,.Name y g,.Name z b] c pt] a pos.line X.env=pure false)(h:swappedStores [.Tuple [.Name x r,.Name y g,.Name z b] c pt] a X.env=pure none):Q (PS X (.Assign [.Tuple [.Name x r,.Name y g,.Name z b] c pt] a pos) (tS X.K W (jG [i,j,k] fa))):=⟨T.cs_unpt S i j k l A G d f e Z.p P h⟩
end TQ
namespace T
open PySem PySem.Spec L2
open PyProof.Rows hiding St
variable{K:Fg}
section
variable{K:Fg}{H:Hp}{O:List Addr}{σ:St}{Γ Γ1:Ev}{W:XW}{f:F1}{fb:FB}{Q:VK}{QB:Bool->Hp->Prop}
theorem DV:∀n:Nat,(List.replicate n ([]:List Addr)).flatten=[]
 |0=>rfl
 |n+1=>by rw[replicate_succ,flatten_cons,DV n];rfl
theorem qG(X:O.Nodup)(inH:∀a∈O,H a≠none)(S:σ.length=Γ.length)(P:∀(i:Nat) p,Γ[i]?=some (some p)->p.s=.leaf/\∃v,σ[i]?=some (some v)/\Rep K (bZ H O) v p.d):EnvOk K H O (List.replicate Γ.length []) H σ Γ:=by
 have e:=DV Γ.length
 refine⟨S,List.length_replicate,Same.refl H,by rw[e,append_nil];exact X,by rw[e,append_nil];exact inH,by rw[e];exact λ_ z=>(nomatch z),λi p h=>?_⟩
 obtain⟨Y,v,M,b⟩:=P i p h;have l:i<Γ.length:=(Mv h).1
 refine⟨by rw[Y];rfl,v,[],M,by rw[getElem?_replicate,if_pos l],?_⟩
 rw[Y,e,append_nil];exact .leaf b
theorem DM{z:Int}(E:EnvOk K H O (List.replicate Γ.length []) H σ Γ)(g:f Γ=.ok ⟨.leaf,.int z⟩ Γ1)(q:∀F,Same H F->Q (.int z) F):tE K W f σ H Q:=by
 refine⟨_,_,_,_,E,?_⟩
 rw[g];intro v F G U A
 cases A.own with
 |leaf r=>
  cases r;exact q F A.same
theorem HP{b:Bool}(E:EnvOk K H O (List.replicate Γ.length []) H σ Γ)(g:fb Γ=.ok b Γ1)(q:∀F,Same H F->QB b F):tT K W fb σ H QB:=by
 refine⟨_,_,_,_,E,?_⟩
 rw[g];exact λF U s _ _=>q F s
end
theorem zc{H:Hp}{O u:List Addr}(s:∀a∈O,a∈u):Same (bZ H u) (bZ H O):=λb o U=>by
 unfold bZ at U ⊢
 split at U
 .cases U
 .rename_i c
  rw[if_neg λz=>c (s b z)]
  exact U
theorem rH{O u:List Addr}{H:Hp}{s:Sh}{F:List Addr}{v:V}{d:D}(o:Own K u H s F v d):s.isView=false->(∀a∈F,a∉O)->(∀a∈O,a∈u)->Rep K (bZ H O) v d:=by
 induction o with
 |view _=>intro h;cases h
 |leaf r=>intro _ _ h;exact r.mono (zc h)
 |@lst s p vs ds Fs hv hp hl _ _ hi ih=>
  intro _ g j;refine .lst (.inl (.inl (ur hp (g p mem_cons_self)))) hl λi v d Y M=>?_
  have c:i<Fs.length:=by have:=(Mv M).1;omega
  exact ih i v d Fs[i] Y M (Mq c) hv (λa Z=>g a (Ms _ (List.mem_flatten.mpr ⟨_,getElem_mem c,Z⟩))) j
 |@tup ss p vs ds Fs hv hp np hl hl2 hl3 _ hi ih=>
  intro _ g j;refine .tup (.inl (.inl (ur hp λz=>np (j p z)))) hl λi v d Y M=>?_
  have y:=(Mv M).1
  have c:i<Fs.length:=by omega
  have I:i<ss.length:=by omega
  exact ih i v d Fs[i] ss[i] Y M (Mq c) (Mq I) (hv _ (getElem_mem I)) (λa Z=>g a (List.mem_flatten.mpr ⟨_,getElem_mem c,Z⟩)) j
theorem FK{H:Hp}{O:List Addr}{M:St}{Γ I:Ev}{W:XW}{f:F1}{Q:VK}{p:PV}(inH:∀a∈O,H a≠none)(E:EnvOk K H O (List.replicate Γ.length []) H M Γ)(g:f Γ=.ok p I)(b:p.s.isView=false)(q:∀v F,Same H F->Rep K (bZ F O) v p.d->Q v F):tE K W f M H Q:=by
 refine⟨_,_,_,_,E,?_⟩
 rw[g];intro v F G U A
 refine q v F A.same (rH A.own b (λa Z z=>?_) λa Z=>Mn _ (Mm _ Z))
 rcases A.new a (Mn _ Z)with y|y
 .rw[DV]at y;cases y
 .exact inH a z y
end T
namespace KC
open PySem PySem.Spec L2 T PySem.SeqAt
open PyProof.Rows hiding St
abbrev GP(w:Wd)(R:List Nat)(E:Option PV):Ev:=[MB w.enc,MB (aR R),none,none,E,none,none,none]
end KC
namespace T
open PySem PySem.Spec L2
open PyProof.Rows hiding St
theorem pq{X:Cx}{N gl:List Str}{p I ls G gs:List Nat}{W:XW}{e:Pos}{d:Scope}{x y:Str}{r A Z:Pos}{z o:Expr}{U:List Expr}{u:FI}{m:F1}{v:FB}{vs' cs' lo' gs':List Nat}(S:Cp X N gl p I ls G gs)(j:Nat)(s:Sh)(i:Nat)(f:N[j]?=some y)(E:G.contains j=true)(F:N[i]?=some x)(c:(A.line==e.line)=true)(a:(d.names.any λ(n,k)=>n==y&&(k==NameKind.local||k==NameKind.cell))=false)(h1:kd N i I d=true)(h2:kl N gl vs' cs' [i] lo' gs' d=true)(q:PI X (.Name x r) z (tI X.K W u))(J:sx X N gl vs' cs' [i] lo' gs' λY=>PF Y U (tT Y.K W0 v))(R:sx X N gl vs' cs' [i] lo' gs' λY=>PE Y o (tE Y.K W0 m))(P:∀x,foldedSetIterable z X.env x=pure x):PS X (.Assign [.Name y A] (.ListComp o [⟨.Name x r,z,U,0⟩] d e) Z) (eC (tE X.K W (aw s i u v m)) (b8 j)):=by
 have B:=λl C t w K=>S.blk h2 l C t w K
 have L:=λl C t w K=>(B l C t w K).loc i x F (by simp)
 have g:X.N.Nodup:=by rw[S.hN];exact S.nd
 have b:X.N[i]?=some x:=by rw[S.hN];exact F
 exact eO (Jo g (by rw[S.hN];exact f) (S.loo j y f E) (IG S h1) S.calm q (λl C t w K=>qZ (X:=blk X d l C t w K) (i:=i) g b (L l C t w K).1 (L l C t w K).2) (λl C t w K=>J _ (B l C t w K) ⟨rfl,rfl,rfl,rfl,rfl,rfl⟩) (λl C t w K=>R _ (B l C t w K) ⟨rfl,rfl,rfl,rfl,rfl,rfl⟩)
  (Jp S.kind (S.loo j y f E) c a) P) λD M H h=>Iy h
end T
namespace KC
open PySem PySem.Spec L2 T PySem.SeqAt
open PyProof.Rows hiding St
theorem LA{K:Fg}{H:Hp}{O:List Addr}{M:St}{Γ I:Ev}{W:XW}{f:F1}{Q:VK}{p:PV}(E:EnvOk K H O (List.replicate Γ.length []) H M Γ)(g:f Γ=.ok p I)(q:∀v F G,Same H F->G.Nodup->(∀a∈G,H a=none)->(∀a∈G,F a≠none)->Own K (G++O) F p.s G v p.d->Q v F):tE K W f M H Q:=by
 refine⟨_,_,_,_,E,?_⟩
 rw[g];intro v F G U A
 have X:=A.env.nd
 rw[append_assoc]at X;refine q v F G A.same (Mt X).1 (λa Z=>?_) (λa Z=>A.env.inH a (Mn _ (Mn _ Z))) (A.own.perm λa Z=>Mn _ Z)
 rcases A.new a (Mn _ Z)with y|y
 .rw[DV]at y;cases y
 .exact y
def cnt(J:List (Nat×Nat))(g:Nat->Nat->Bool):Nat:=J.countP λp=>g p.1 p.2
abbrev sc(a:V)(o:Bool)(d f:Addr)(E:Option V):St:=[some a,some (.bl o),some (.ref d),some (.ref f),E,none,none]
end KC
namespace T
open PySem PySem.Spec L2
open PyProof.Rows hiding St
theorem yV{M:St}{c:Nat}{v:V}:KP (bK [c] M) ((bK [c] M).set c (some v)):=by
 refine⟨by simp,λi u h=>?_⟩
 have j:=(D2 h).1
 rw[getElem?_set,if_neg (λz=>j (by rw[<-z];simp))]
 exact h
end T
namespace KC
open PySem PySem.Spec L2 T PySem.SeqAt
open PyProof.Rows hiding St
variable{R:D}{B:List V}{X:List D}{K:Fg}{G:List Addr}
def Kk:Option Nat->V
 |none=>.non
 |some k=>.int (k:Int)
def RO(H:Hp)(G:List Addr)(r:V)(R:D):Prop:=(r=.non/\R=.none/\G=[])\/∃(a:Addr)(rk:List (Option Nat)),r=.ref a/\G=[a]/\H a=some (.lst (rk.map Kk))/\R=fY rk/\rk.length<=1000
inductive PO (H:Hp):List Addr->V->D->Prop where
 |mk {t a0 a2:Addr} {xs:List Nat} {r1:V} {R:D} {G1:List Addr} {vs:List V} {bs:List D} {Gs:List (List Addr)}:H t=some (.tup [.ref a0,r1,.ref a2])->H a0=some (.lst (xs.map λx:Nat=>V.int (x:Int)))->xs.length<=1000->RO H G1 r1 R->H a2=some (.lst vs)->vs.length<=1000->vs.length=bs.length->Gs.length=bs.length ->
   (∀(i:Nat) v d G,vs[i]?=some v->bs[i]?=some d->Gs[i]?=some G->PO H G v d)->PO H (t::a0::a2::(G1++Gs.flatten)) (.ref t) (.tuple [aR xs,R,.list bs])
theorem AO{u:Type}{r:List (List u)}{i:Nat}{G:List u}{a:u}(h:r[i]?=some G)(Z:a∈G):a∈r.flatten:=List.mem_flatten.mpr ⟨G,mem_of_getElem? h,Z⟩
section
variable{K:Fg}{H H':Hp}{G O:List Addr}{v:V}{d:D}
theorem RO.keep{r:V}(h:RO H G r R)(k:∀a∈G,∀o,H a=some o->H' a=some o):RO H' G r R:=by
 rcases h with h|⟨a,rk,h1,h2,h3,h4⟩
 .exact .inl h
 .exact .inr ⟨a,rk,h1,h2,k a (by rw[h2];exact List.mem_singleton.mpr rfl) _ h3,h4⟩
theorem PO.keep(h:PO H G v d):(∀a∈G,∀o,H a=some o->H' a=some o)->PO H' G v d:=by
 induction h with
 |@mk t a0 a2 xs r1 R G1 vs bs Gs ht h0 l0 h1 h2 l2 e1 e2 hs ih=>
  intro k;have c:∀a∈G1++Gs.flatten,∀o,H a=some o->H' a=some o:=λa Z=>k a (Ms _ (Ms _ (Ms _ Z)))
  exact .mk (k t (mem_cons_self ..) _ ht) (k a0 (Ms _ (mem_cons_self ..)) _ h0) l0 (h1.keep λa Z=>c a (Mn _ Z)) (k a2 (Ms _ (Ms _ (mem_cons_self ..))) _ h2) l2 e1 e2
   λi v d G I u b=>ih i v d G I u b λa Z=>c a (Mm _ (AO b Z))
theorem PO.inH(h:PO H G v d):∀a∈G,H a≠none:=by
 induction h with
 |@mk t a0 a2 xs r1 R G1 vs bs Gs ht h0 l0 h1 h2 l2 e1 e2 hs ih=>
  intro a Z;rcases Mp Z with rfl|Z
  .rw[ht];simp
  rcases Mp Z with rfl|Z
  .rw[h0];simp
  rcases Mp Z with rfl|Z
  .rw[h2];simp
  rcases Mo Z with Z|Z
  .rcases h1 with⟨_,_,e⟩|⟨b,rk,_,e,h3,_⟩
   .rw[e]at Z;cases Z
   .rw[e]at Z
    rw[List.mem_singleton.mp Z,h3];simp
  .obtain⟨g,C,Z⟩:=List.mem_flatten.mp Z
   obtain⟨i,l,rfl⟩:=getElem_of_mem C;exact ih i (vs[i]'(by omega)) (bs[i]'(by omega)) Gs[i] (Mq _) (Mq _) (Mq _) a Z
theorem Bp{o:Option Nat}:Rep K H (Kk o) (oD o):=by
 cases o with
 |none=>exact .non
 |some k=>exact .int _
theorem xi{l:Addr}(h:H l=some (.lst B))(j:l∉O)(S:B.length=X.length)(m:∀(i:Nat) v d,B[i]?=some v->X[i]?=some d->Rep K (bZ H O) v d):Rep K (bZ H O) (.ref l) (.list X):=.lst (.of (ur h j)) S m
theorem RO.rep{r:V}(h:RO H G r R)(j:∀a∈G,a∉O):Rep K (bZ H O) r R:=by
 rcases h with⟨Y,M,P⟩|⟨a,rk,Y,M,P,h4,h5⟩
 .rw[Y,M];exact .non
 .rw[Y,h4]
  refine xi P (j a (by rw[M];exact List.mem_singleton.mpr rfl)) (by simp) λi v d I u=>?_
  rw[getElem?_map]at I u
  obtain⟨o,N,rfl⟩:=Option.map_eq_some_iff.mp I;rw[N]at u
  cases u;exact Bp
theorem PO.rep(h:PO H G v d):(∀a∈G,a∉O)->Rep K (bZ H O) v d:=by
 induction h with
 |@mk t a0 a2 xs r1 R G1 vs bs Gs ht h0 l0 h1 h2 l2 N e2 hs ih=>
  intro k;have c:∀a∈G1++Gs.flatten,a∉O:=λa Z=>k a (Ms _ (Ms _ (Ms _ Z)))
  refine .tup (.of (ur ht (k t (mem_cons_self ..)))) rfl λi v d I b=>?_
  match i,I,b with
  |0,I,b=>
   cases I;cases b;refine xi h0 (k a0 (Ms _ (mem_cons_self ..))) (by simp) λj u e S C=>?_
   rw[getElem?_map]at S C
   obtain⟨o,N,rfl⟩:=Option.map_eq_some_iff.mp S;rw[N]at C
   cases C;exact .int _
  |1,I,b=>
   cases I;cases b;exact h1.rep λa Z=>c a (Mn _ Z)
  |2,I,b=>
   cases I;cases b;refine xi h2 (k a2 (Ms _ (Ms _ (mem_cons_self ..)))) N λj u e S C=>?_
   have A:j<Gs.length:=by have:=(Mv C).1;omega
   exact ih j u e Gs[j] S C (Mq A) λa Z=>c a (Mm _ (AO (Mq A) Z))
  |i+3,I,b=>cases I
end
def gq(K:Fg)(n:Nat):Sp:=λB H Q _=>∃(w:Wd)(s:Sn)(O:List Addr),w.Ok/\s.ok/\s.dep<=n/\O.Nodup/\(∀a∈O,H a≠none)/\Reps K (bZ H O) B [w.enc,s.enc] /\
 ∀v F G P,Pap w s P->Same H F->G.Nodup->(∀a∈G,H a=none)->PO F G v P->Q v F
abbrev iQ:List Str:=["world","sentence","below","parts","ranks","part","each"]
abbrev qY:List Str:=["parts_of","paper_of","ranks_of","rooms_by"]
abbrev rG:F1:=aw .leaf 6 (aP (ab 2)) aM (ah (ab 6) (eK (.int 0)))
abbrev yG:F1:=ai 3 bG (ae (ab 0) (ae (ab 1) (ae (ab 3) af)))
abbrev yF:F1:=ai 4 bM (ae (ab 0) (ae (ab 1) (ae (ab 3) (ae (ab 4) af))))
def Hr(K:Fg)(n:Nat):L2.TS:=
 cO (λD M H=>jB [5] (za K (eB (pJ K 1 aU) [] L2.E0 (bz (bT 1) d6))) (b8 5) rh (eB (gq K n) [] L2.E0 (bz (bT 0) (bz (bT 5) d6))) M H λv F=>D.nx (M.set 2 (some v)) F)
 (cO (λD M H=>tE K W0 rG M H λv F=>D.nx (M.set 3 (some v)) F) (cO (eC (tE K W0 yG) (b8 4)) (pS (uN (bz (tE K W0 yF) (bz (bT 4) (bz (bT 2) d6)))))))
theorem Aj{w:Wd}{s:Sn}(h:fG w s R):R=.none\/∃rk,R=fY rk/\rk.length=w.n:=by
 unfold fG at h;split at h
 .obtain⟨rk,e,m⟩:=h;exact .inr ⟨rk,e,m.len⟩
 .obtain⟨rk,e,m⟩:=h;exact .inr ⟨rk,e,m.len⟩
 .obtain⟨rk,e,m⟩:=h;exact .inr ⟨rk,e,m.len⟩
 .obtain⟨rk,e,m⟩:=h;exact .inr ⟨rk,e,m.len⟩
 .exact .inl h
theorem Jn{O:List Addr}{H:Hp}{v:V}(o:Own K O H (.lst .leaf) G v (.list X)):∃(l:Addr)(vs:List V),v=.ref l/\G=[l]/\H l=some (.lst vs)/\vs.length=X.length/\∀(i:Nat) v d,vs[i]?=some v->X[i]?=some d->Rep K (bZ H O) v d:=by
 cases o with
 |@lst _ l vs _ Fs hv hp hl hf nd hs=>
  have a:∀F∈Fs,F=[]:=λF c=>by
   obtain⟨i,b,rfl⟩:=getElem_of_mem c;have q:=hs i (vs[i]'(by omega)) (X[i]'(by omega)) Fs[i] (Mq _) (Mq _) (Mq _)
   generalize Fs[i]=F at q
   cases q;rfl
  have e:Fs.flatten=[]:=List.flatten_eq_nil_iff.mpr a
  refine⟨l,vs,rfl,by rw[e],hp,hl,λi v d I u=>?_⟩
  have b:i<Fs.length:=by have:=(Mv u).1;omega
  have q:=hs i v d Fs[i] I u (Mq b)
  generalize Fs[i]=F at q
  cases q with
  |leaf r=>exact r
theorem vals_of{u:Type}{H:Hp}{xs:List u}{f:u->V}{g:u->D}(S:B.length=xs.length)(m:∀(i:Nat) v d,B[i]?=some v->(xs.map g)[i]?=some d->Rep K H v d)(b:∀x v,Rep K H v (g x)->v=f x):B=xs.map f:=by
 apply ext_getElem?
 intro i;by_cases l:i<xs.length
 .have a:i<B.length:=by omega
  rw[getElem?_map,Mq a,Mq l];have:=m i B[i] (g xs[i]) (Mq a) (by rw[getElem?_map,Mq l];rfl)
  rw[b _ _ this];rfl
 .rw[getElem?_eq_none (by omega),getElem?_eq_none (by simp;omega)]
theorem Cb{O:List Addr}{H:Hp}{s:Sh}{v:V}(o:Own K O H s G v R)(h:(s=.leaf/\R=.none)\/(s=.lst .leaf/\∃rk:List (Option Nat),R=fY rk/\rk.length<=1000)):RO H G v R:=by
 rcases h with⟨rfl,rfl⟩|⟨rfl,rk,rfl,hl⟩
 .cases o with
  |leaf r=>cases r;exact .inl ⟨rfl,rfl,rfl⟩
 .obtain⟨l,B,Y,M,P,m,C⟩:=Jn o
  have a:B=rk.map Kk:=vals_of (g:=oD) (by rw[m,length_map]) C λx v r=>by
   cases x with
   |none=>cases r;rfl
   |some k=>cases r;rfl
  exact .inr ⟨l,rk,Y,M,by rw[P,a],rfl,hl⟩
def Kw:D->D
 |.tuple (x::_)=>x
 |_=>.none
theorem AJ{u E:Type}{P:u->E->Prop}{L:List u}{R:List E}(h:∀(i:Nat) a b,L[i]?=some a->R[i]?=some b->P a b):∀a b,(a,b)∈L.zip R->P a b:=λa b I=>by
 obtain⟨i,l⟩:=List.mem_iff_getElem?.mp I
 rw[List.getElem?_zip_eq_some]at l;exact h i a b l.1 l.2
theorem EB{n:Nat}{H:Hp}{Q:VK}{E:XK}{Qn:St->Hp->Prop}(h:gq K (n+1) B H Q E):Hr K n {nx:=Qn,rt:=Q} (L2.start iQ B) H:=by
 obtain⟨w,s,O,ok,os,hd,X,inH,rs,q⟩:=h;have hvl:B.length=2:=rs.1
 match B,hvl,rs with
 |[v0,v1],_,rs=>
 have r0:=rs.2 0 v0 _ rfl rfl
 have r1:=rs.2 1 v1 _ rfl rfl
 have mono:∀{H'},Same H H'->Same (bZ H O) (bZ H' O):=λs=>me s λa Z=>.inl Z
 show Hr K n {nx:=Qn,rt:=Q} [some v0,some v1,none,none,none,none,none] H
 refine⟨v1,rfl,?_⟩
 refine⟨rfl,O,[s.enc],X,inH,⟨rfl,λi v d I u=>?_⟩,?_⟩
 .match i,I,u with
  |0,I,u=>cases I;cases u;exact r1
  |i+1,I,u=>cases I
 rw[IV];intro vp f Gp ret;have s1:Same H f:=ret.same
 have rp:Rep K (bZ f O) vp (.tuple (s.args.map Sn.enc)):=rH ret.own ret.nv (λa Z z=>inH a z (ret.fresh a Z)) (λa Z=>Mm _ Z)
 cases rp with
 |@tup ap ws _ hq S hr=>
 have S:ws.length=s.args.length:=by rw[S,length_map]
 have al:=s.args_le
 have sq1:SqT K f ap ws:=eN hid_le hq
 refine⟨ap,rfl,⟨_,sq1⟩,λL hL=>?_⟩
 have hLO:L∉O:=λz=>inH L z (s1.free hL)
 refine⟨λk m R H2=>m=s.args.length-k/\k<=s.args.length/\H2 L=some (.lst R)/\Same f H2/\∃(Gs:List (List Addr))(ds:List D),R.length=k/\Gs.length=k/\ds.length=k/\(∀(i:Nat) v d G,R[i]?=some v->ds[i]?=some d->Gs[i]?=some G->PO H2 G v d)/\(∀(i:Nat) a d,s.args[i]?=some a->ds[i]?=some d->Pap w a d)/\Gs.flatten.Nodup/\∀a∈Gs.flatten,f a=none/\a≠L,
  ⟨s.args.length,by simp,Nat.zero_le _,eV,jt hL,[],[],rfl,rfl,rfl,(λi v d G I=>nomatch I),(λi a d _ u=>nomatch u),nodup_nil,λa Z=>nomatch Z⟩,?_⟩
 rintro k m R H2 ⟨rfl,hk,hLs,s2,Gs,ds,y1,y2,y3,hpo,hpap,ndG,frG⟩
 refine⟨hLs,?_⟩
 have sq2:SqT K H2 ap ws:=eN s2 sq1
 by_cases hlt:k<s.args.length
 case pos=>
  right
  have hlw:k<ws.length:=by omega
  have N:ws[k]?=some ws[k]:=Mq hlw
  refine⟨⟨_,_,sq2,N⟩,Nat.lt_of_le_of_lt (by omega:R.length<=2) (by decide),?_⟩
  rintro v H3 ⟨rfl,hv⟩
  have ev:v=ws[k]:=Option.some.inj ((hv _ sq2).symm.trans N)
  subst ev;refine⟨yV,FA ?_⟩
  have rk:=hr k ws[k] (s.args[k].enc) N (by rw[getElem?_map,Mq hlt];rfl)
  have Z:s.args[k]∈s.args:=getElem_mem hlt
  have hL0:H L=none:=s1.free hL
  refine⟨v0,rfl,ws[k],rfl,w,s.args[k],O,ok,Sn.args_ok os _ Z,G4 Z hd,X,λa z y=>inH a z ((s1.trans s2).free y),⟨rfl,λi v d I u=>?_⟩,λv H4 G P hP s4 ndg frg po=>?_⟩
  .match i,I,u with
   |0,I,u=>cases I;cases u;exact r0.mono (mono (s1.trans s2))
   |1,I,u=>cases I;cases u;exact rk.mono (me s2 λa Z=>.inl Z)
   |i+2,I,u=>cases I
  .have hL4:=s4 _ _ hLs
   have nG:∀a∈G,a≠L:=λa Z z=>by have:=frg a Z;rw[z,hLs]at this;cases this
   have F:∀a,a≠L->∀o,H4 a=some o->upd H4 L (.lst (R++[v])) a=some o:=λa Z o e=>by rw[eT Z];exact e
   refine⟨hL4,s.args.length-(k+1),by omega,rfl,hlt,eV,λc o J=>?_,Gs++[G],ds++[P],by simp[y1],by simp[y2],by simp[y3],λi v' d' G' I u i3=>?_,λi a d' I u=>?_,?_,λa Z=>?_⟩
   .rw[eT (λz=>by subst z;rw[hL]at J;cases J)]
    exact s4 c o (s2 c o J)
   .by_cases l:i<k
    .rw[getElem?_append_left (by omega)]at I u i3
     refine(hpo i v' d' G' I u i3).keep λa Z o e=>F a (frG a (AO i3 Z)).2 o (s4 a o e)
    .have hik:i=k:=by
      have:=(Mv I).1
      rw[length_append,length_singleton]at this;omega
     subst hik;rw[getElem?_append_right (by omega)]at I u i3
     simp only[y1,y2,y3,Nat.sub_self,List.getElem?_cons_zero,Option.some.injEq]at I u i3
     subst I;subst u;subst i3;exact po.keep λa Z o e=>F a (nG a Z) o e
   .by_cases l:i<k
    .rw[getElem?_append_left (by omega)]at u
     exact hpap i a d' I u
    .have hik:i=k:=by
      have:=(Mv u).1
      rw[length_append,length_singleton]at this;omega
     subst hik;rw[getElem?_append_right (by omega)]at u
     simp only[y3,Nat.sub_self,List.getElem?_cons_zero,Option.some.injEq]at u
     rw[Mq hlt]at I
     cases I;subst u;exact hP
   .rw[flatten_append,flatten_singleton]
    refine List.nodup_append.mpr ⟨ndG,ndg,λa Z b U z=>?_⟩
    obtain⟨g,hg,hag⟩:=List.mem_flatten.mp Z;obtain⟨i,l,rfl⟩:=getElem_of_mem hg;have:=(hpo i (R[i]'(by omega)) (ds[i]'(by omega)) Gs[i] (Mq _) (Mq _) (Mq _)).inH a hag
    rw[z]at this;exact this (frg b U)
   .rw[flatten_append,flatten_singleton]at Z
    rcases Mo Z with Z|Z
    .exact frG a Z
    .exact⟨s2.free (frg a Z),nG a Z⟩
 case neg=>
  left
  have hke:k=s.args.length:=by omega
  subst hke;refine⟨⟨_,sq2,by omega⟩,?_⟩
  have s12:=s1.trans s2
  have frH:∀a∈Gs.flatten,H a=none:=λa Z=>s1.free (frG a Z).1
  have rL:∀{H'},Same H2 H'->Rep K (bZ H' O) (.ref L) (.list ds):=λ{H'} s'=>xi (s' _ _ hLs) hLO (by omega) λi v d I u=>by
   have l:i<Gs.length:=by have:=(Mv u).1;omega
   have g:=Mq l
   exact((hpo i v d Gs[i] I u g).keep λa _ o e=>s' a o e).rep λa Z z=>inH a z (frH a (AO g Z))
  have eds:ds.map Kw=(s.args.map (aX w)).map aR:=by
   apply ext_getElem?
   intro i;by_cases l:i<s.args.length
   .rw[getElem?_map,getElem?_map,getElem?_map,Mq l,Mq (by omega:i<ds.length)]
    obtain⟨r,e⟩:=(hpap i s.args[i] (ds[i]'(by omega)) (Mq l) (Mq (by omega))).fst
    rw[e];rfl
   .rw[getElem?_eq_none (by simp;omega),getElem?_eq_none (by simp;omega)]
  have f1:rG [MB w.enc,MB s.enc,MB (.list ds),none,none,none,none]=.ok ⟨.lst .leaf,cv (s.args.map (aX w))⟩ [MB w.enc,MB s.enc,MB (.list ds),none,none,none,none]:=by
   have:=nc (λd:D=>d) ds (λd=>⟨.leaf,Kw d⟩) (s:=.leaf) (i:=6) (fi:=aP (ab 2)) (fe:=ah (ab 6) (eK (.int 0))) (st:=true) (Γ:=[MB w.enc,MB s.enc,MB (.list ds),none,none,none,none]) (by rw[List.map_id'' (λ_=>rfl)];exact cQ (s:=.leaf) (az rfl) rfl) (by simp) rfl (by omega) λd hdm=>by
    obtain⟨i,l,e⟩:=getElem_of_mem hdm;obtain⟨r,er⟩:=(hpap i (s.args[i]'(by omega)) d (Mq _) (by rw[Mq l,e])).fst
    rw[er];exact⟨js (j:=0) (s:=.leaf) (s2:=.leaf) (az rfl) aO (by simp[fQ]) rfl rfl,rfl⟩
   refine this.trans ?_
   show Out.ok (⟨.lst .leaf,.list (ds.map Kw)⟩:PV) _=_
   rw[eds]
  have M:∀{H'},Same H H'->∀a∈O,H' a≠none:=λs' a Z z=>inH a Z (s'.free z)
  refine FK (Γ:=[MB w.enc,MB s.enc,MB (.list ds),none,none,none,none]) (M s12) (qG X (M s12) rfl λi p C=>?_) f1 rfl λv3 H3 Y r3=>?_
  .match i,C with
   |0,C=>cases C;exact⟨rfl,v0,rfl,r0.mono (mono s12)⟩
   |1,C=>cases C;exact⟨rfl,v1,rfl,r1.mono (mono s12)⟩
   |2,C=>cases C;exact⟨rfl,.ref L,rfl,rL (Same.refl _)⟩
   |3,C=>cases C
   |4,C=>cases C
   |5,C=>cases C
   |6,C=>cases C
   |i+7,C=>cases C
  obtain⟨p,N,e3,e4,e5⟩:=vk ok (s:=s)
  have s13:=s12.trans Y
  refine LA (Γ:=[MB w.enc,MB s.enc,MB (.list ds),MB (cv (s.args.map (aX w))),none,none,none]) (qG X (M s13) rfl λi p C=>?_) (dE (aE (az rfl) (aE (az rfl) (aE (az rfl) aq))) N rfl rfl) λv4 H4 G1 s4 nd1 fr1 in1 own4=>?_
  .match i,C with
   |0,C=>cases C;exact⟨rfl,v0,rfl,r0.mono (mono s13)⟩
   |1,C=>cases C;exact⟨rfl,v1,rfl,r1.mono (mono s13)⟩
   |2,C=>cases C;exact⟨rfl,.ref L,rfl,rL Y⟩
   |3,C=>cases C;exact⟨rfl,v3,rfl,r3⟩
   |4,C=>cases C
   |5,C=>cases C
   |6,C=>cases C
   |i+7,C=>cases C
  have ro4:RO H4 G1 v4 p.d:=Cb own4 (by
   rcases e4 with z|z
   .rw[z];exact .inl ⟨rfl,rfl⟩
   .rcases Aj e3 with y|⟨rk,y,yl⟩
    .rw[z,y]at own4
     cases own4
    .exact .inr ⟨z,rk,y,by have:=ok.h24;omega⟩)
  have s14:=s13.trans s4
  have rb:=iu ok os e3
  refine LA (Γ:=[MB w.enc,MB s.enc,MB (.list ds),MB (cv (s.args.map (aX w))),MB p.d,none,none]) (qG X (M s14) rfl λi p' C=>?_) (dE (aE (az rfl) (aE (az rfl) (aE (az rfl) (aE (az rfl) aq)))) rb rfl rfl) λv5 H5 G0 s5 nd0 fr0 in0 own5=>?_
  .match i,C with
   |0,C=>cases C;exact⟨rfl,v0,rfl,r0.mono (mono s14)⟩
   |1,C=>cases C;exact⟨rfl,v1,rfl,r1.mono (mono s14)⟩
   |2,C=>cases C;exact⟨rfl,.ref L,rfl,rL (Y.trans s4)⟩
   |3,C=>cases C;exact⟨rfl,v3,rfl,r3.mono (me s4 λa Z=>.inl Z)⟩
   |4,C=>cases C;exact⟨rfl,v4,rfl,ro4.rep λa Z z=>M s13 a z (fr1 a Z)⟩
   |5,C=>cases C
   |6,C=>cases C
   |i+7,C=>cases C
  obtain⟨a0,vs0,rfl,rfl,h50,l50,r50⟩:=Jn own5;have ev0:vs0=(aX w s).map λx:Nat=>V.int (x:Int):=vals_of (g:=rm) (by rw[l50,length_map]) r50 λx v r=>by cases r;rfl
  subst ev0;refine⟨v4,rfl,.ref L,rfl,by show 3<=sizeLine;decide,λt A=>?_⟩
  have s25:=Y.trans (s4.trans s5)
  have ne:∀a,H5 a≠none->a≠t:=λa Z z=>Z (by rw[z];exact A)
  have L5:H5 L≠none:=by rw[s25 _ _ hLs];simp
  have F:∀a,H5 a≠none->∀o,H5 a=some o->upd H5 t (.tup [.ref a0,v4,.ref L]) a=some o:=λa Z o e=>by rw[eT (ne a Z)];exact e
  have poG:∀a∈Gs.flatten,H2 a≠none:=λa Z=>by
   obtain⟨g,hg,hag⟩:=List.mem_flatten.mp Z;obtain⟨i,l,rfl⟩:=getElem_of_mem hg;exact(hpo i (R[i]'(by omega)) (ds[i]'(by omega)) Gs[i] (Mq _) (Mq _) (Mq _)).inH a hag
  have G5:∀a∈Gs.flatten,H5 a≠none:=λa Z z=>poG a Z (s25.free z)
  have G15:∀a∈G1,H5 a≠none:=λa Z z=>in1 a Z (s5.free z)
  have a05:H5 a0≠none:=by rw[h50];simp
  have s15:=s14.trans s5
  have len24:(aX w s).length<=24:=by
   have:=ok.h24
   have:(aX w s).length<=w.n:=by
    unfold aX;exact Nat.le_trans (length_filter_le _ _) (by simp)
   omega
  refine q (.ref t) _ (t::a0::L::(G1++Gs.flatten)) _ (.mk e3 (by omega) (AJ hpap)) (s15.trans (jt A)) ?_ (λa Z=>?_) (.mk eV (F a0 a05 _ h50) (by omega) ((ro4.keep λa _ o e=>s5 a o e).keep λa Z o e=>F a (G15 a Z) o e) (F L L5 _ (s25 _ _ hLs)) (by omega) (by omega) (by omega) λi v d G I u i3=>?_)
  .refine List.nodup_cons.mpr ⟨λz=>?_,List.nodup_cons.mpr ⟨λz=>?_,List.nodup_cons.mpr ⟨λz=>?_,List.nodup_append.mpr ⟨nd1,ndG,λa Z b U z=>?_⟩⟩⟩⟩
   .rcases Mp z with z|z
    .exact ne a0 a05 z.symm
    rcases Mp z with z|z
    .exact ne L L5 z.symm
    rcases Mo z with z|z
    .exact G15 t z A
    .exact G5 t z A
   .have f0:H4 a0=none:=fr0 a0 (List.mem_singleton.mpr rfl)
    rcases Mp z with z|z
    .rw[z,(Y.trans s4) _ _ hLs]at f0;cases f0
    rcases Mo z with z|z
    .exact in1 a0 z f0
    .exact poG a0 z ((Y.trans s4).free f0)
   .rcases Mo z with z|z
    .have:=fr1 L z
     rw[Y _ _ hLs]at this
     cases this
    .exact(frG L z).2 rfl
   .have:=fr1 a Z
    rw[z]at this;exact poG b U (Y.free this)
  .rcases Mp Z with rfl|Z
   .exact s15.free A
   rcases Mp Z with rfl|Z
   .exact s14.free (fr0 a (List.mem_singleton.mpr rfl))
   rcases Mp Z with rfl|Z
   .exact s1.free hL
   rcases Mo Z with Z|Z
   .exact s13.free (fr1 a Z)
   .exact frH a Z
  .exact(hpo i v d G I u i3).keep λa Z o e=>F a (G5 a (AO i3 Z)) o (s25 a o e)
def spPpr(K:Fg):Sp:=λB H Q _=>∃(w:Wd)(s:Sn)(O:List Addr),w.Ok/\s.ok/\s.size<=200/\s.dep<=24/\O.Nodup/\(∀a∈O,H a≠none)/\Reps K (bZ H O) B [w.enc,s.enc] /\
 ∀v F G P,Pap w s P->Same H F->G.Nodup->(∀a∈G,H a=none)->PO F G v P->Q v F
abbrev iC:List Str:=["world","sentence"]
abbrev lY:List Str:=["check_world","check_sentence","paper_of"]
def xR(K:Fg)(n:Nat):L2.TS:=
 cO (eA (tE K W0 (ai 1 bu (ae (ab 0) af)))) (cO (eA (tE K W0 (ai 1 bg (ae (ab 1) af)))) (pS (eB (gq K n) [] L2.E0 (bz (bT 0) (bz (bT 1) d6)))))
theorem Bz{n:Nat}(j:24<=n){H:Hp}{Q:VK}{E:XK}{J:St->Hp->Prop}(h:spPpr K B H Q E):xR K n {nx:=J,rt:=Q} (L2.start iC B) H:=by
 obtain⟨w,s,O,ok,x,U,y,X,inH,o,q⟩:=h;have l:B.length=2:=o.1
 match B,l,o with
 |[v0,v1],_,o=>
 have e:=o.2 0 v0 _ rfl rfl
 have k:=o.2 1 v1 _ rfl rfl
 have mono:∀{F},Same H F->Same (bZ H O) (bZ F O):=λs=>me s λa Z=>.inl Z
 have M:∀{F},Same H F->∀a∈O,F a≠none:=λN a Z z=>inH a Z (N.free z)
 show xR K n {nx:=J,rt:=Q} [some v0,some v1] H
 have env:∀{F},Same H F->EnvOk K F O (List.replicate 2 []) F [some v0,some v1] [MB w.enc,MB s.enc]:=λ{A} r=>qG (Γ:=[MB w.enc,MB s.enc]) X (M r) rfl λi p C=>by
  match i,C with
  |0,C=>cases C;exact⟨rfl,v0,rfl,e.mono (mono r)⟩
  |1,C=>cases C;exact⟨rfl,v1,rfl,k.mono (mono r)⟩
  |i+2,C=>cases C
 refine FK (Γ:=[MB w.enc,MB s.enc]) (M (Same.refl _)) (env (Same.refl _)) (dE (aE (az rfl) aq) ok.check rfl rfl) rfl λ_ f t _=>?_
 refine FK (Γ:=[MB w.enc,MB s.enc]) (M t) (env t) (dE (aE (az rfl) aq) (dJ x U y) rfl rfl) rfl λ_ A r _=>?_
 have b:=t.trans r
 refine⟨v0,rfl,v1,rfl,w,s,O,ok,x,by omega,X,M b,⟨rfl,λi v d I u=>?_⟩,λv F G P L Y m c g=>q v F G P L (b.trans Y) m (λa Z=>b.free (c a Z)) g⟩
 match i,I,u with
 |0,I,u=>cases I;cases u;exact e.mono (mono b)
 |1,I,u=>cases I;cases u;exact k.mono (mono b)
 |i+2,I,u=>cases I
def Eo(n:Nat):Sp:=λB H Q _=>∃(v:V)(G:List Addr)(P:D)(w:Wd)(s:Sn),B=[v]/\Pap w s P/\s.dep<=n/\PO H G v P/\G.Nodup/\∀F,(∀a,a∉G->∀o,H a=some o->F a=some o)->(∀a,H a≠none->F a≠none)->Q .non F
def pT(K:Fg)(c:Int):TE:=m8 (xl K) (bT 0) (tC (.int c))
def Be(K:Fg)(c:Int)(v:V):L2.TS:=eA (Bc K "list" g9 (pT K c) (bz (tC v) d6))
def tSl(K:Fg)(n:Nat):L2.TS:=
 cO (Be K 0 (.int 99)) (cO (gV (uO (m8 (λx y H Q=>y=.non/\Q (.bl (!decide (x=.non))) H) (pT K 1) (tC .non))) (Be K 1 (.int 99)) fw)
 (cO (xS (wc K (pT K 2)) (b8 1) (eA (eB (Eo n) [] L2.E0 (bz (bT 1) d6)))) (Be K 2 .non)))
section
variable{K:Fg}{H:Hp}{σ:St}{Q:VK}
theorem vg{t:Addr}{L:List V}{c:Int}{v:V}(o:σ[0]?=some (some (.ref t)))(A:H t=some (.tup L))(f:fy L c=some v)(q:Q v H):pT K c σ H Q:=⟨.ref t,o,.inr (.inl ⟨t,L,c,v,rfl,rfl,.of A,f,q⟩)⟩
end
section
variable(P:Program)(w:World)(K:Fg)(mg:Str->Option Value)(base:Heap)(j n:Nat)
def uf:Prop:=∃(f:Addr)(fd:FuncData)(ps:List Str),eQ P w K mg base lZ j f fd ps (gq K n)/\mg "paper_of"=some (.ref f)/\PySem.W.keepIn K (.ref f)=true/\Binds K fd ps []
def PprOk:Prop:=∃(f:Addr)(fd:FuncData)(ps:List Str),eQ P w K mg base lZ j f fd ps (spPpr K)/\mg "paper"=some (.ref f)/\PySem.W.keepIn K (.ref f)=true/\Binds K fd ps []
end
abbrev CaF(X:Cx)(x:Str)(C:Sp):Prop:=∃(k:Nat)(f:Addr)(fd:FuncData)(ps:List Str),eQ X.prog X.w X.K X.mg X.base lZ k f fd ps C/\Room k X.A/\X.mg x=some (.ref f)/\PySem.W.keepIn X.K (.ref f)=true/\Binds X.K fd ps []
section
variable{P:Program}{w:World}{K:Fg}{mg:Str->Option Value}{base:Heap}{f:Addr}{fd:FuncData}{st:Stmt}{j1 j2 j3 j k n:Nat}{vs cs ls lo gs:List Nat}
theorem LU(F:Fun K "paper_of" "paper_of" st f fd)(a:mg "paper_of"=some (.ref f))(b:Binds K fd ["world","sentence"] []):uf P w K mg base k 0:=
 ⟨f,fd,["world","sentence"],⟨λvs H Q E h=>by obtain⟨_,_,_,_,_,_,_,_,o,_⟩:=h;exact o.1,λA L s H args c vs Q E _ _ _ _ h=>by
  obtain⟨_,s,_,_,_,y,_⟩:=h;have:=s.dep_args
  omega⟩,a,F.kp,b⟩
theorem Fp(F:Fun K "paper_of" "paper_of" st f fd)(hm:mg "paper_of"=some (.ref f))(b:Binds K fd ["world","sentence"] [])(sc:cm iQ ["world","sentence"] (aL st))(cp:kl iQ qY vs cs ls lo gs (aL st)=true)(G:tx iQ qY=true)(J:DefOk P w K mg base j1 "parts_of" 1 aU)(p:DefOk P w K mg base j2 "ranks_of" 3 bG)(z:DefOk P w K mg base j3 "rooms_by" 4 bM)(Y:decide (j1<=k)=true)(M:decide (j2<=k)=true)(h3:decide (j3<=k)=true)(bd:∀(X:Cx)(n:Nat),Cp X iQ qY vs cs ls lo gs->Rm X->pM X "parts_of" 1 aU->CaF X "paper_of" (gq X.K n)->pM X "ranks_of" 3 bG->pM X "rooms_by" 4 bM->PSs X (bR st) (Hr X.K n)):∀n,uf P w K mg base (k+n) n:=by
 intro n;induction n with
 |zero=>exact LU F hm b
 |succ n B=>
  obtain⟨f',fd',S,F',I,u,C⟩:=B;refine⟨f,fd,["world","sentence"],F.ok sc (λvs H Q E h=>by obtain⟨_,_,_,_,_,_,_,_,o,_⟩:=h;exact o.1) (λa A L s H vs Q E m h=>?_),hm,F.kp,b⟩
  have r:∀{i:Nat},decide (i<=k)=true->Room i _:=λ{i} hi=>m.mono (Nat.le_trans (of_decide_eq_true hi) (Nat.le_add_right k n))
  obtain⟨t,U,g,F1,c,N,z1⟩:=J;obtain⟨q,x,e,R,Z,y2,v⟩:=p;obtain⟨d,fd3,ps3,y,l,y3,z3⟩:=z;exact⟨_,bd _ n (Cp.fn cp G) m.units ⟨j1,t,U,g,F1,r Y,c,N,z1⟩ ⟨k+n,f',fd',S,F',m,I,u,C⟩ ⟨j2,q,x,e,R,r M,Z,y2,v⟩ ⟨j3,d,fd3,ps3,y,r h3,l,y3,z3⟩,EB h⟩
theorem Cs(F:Fun K "paper" "paper" st f fd)(hm:mg "paper"=some (.ref f))(b:Binds K fd ["world","sentence"] [])(sc:cm iC ["world","sentence"] (aL st))(cp:kl iC lY vs cs ls lo gs (aL st)=true)(G:tx iC lY=true)(J:DefOk P w K mg base j1 "check_world" 1 bu)(p:DefOk P w K mg base j2 "check_sentence" 1 bg)(z:uf P w K mg base j3 24)(Y:decide (j1<=k)=true)(M:decide (j2<=k)=true)(h3:decide (j3<=k)=true)(bd:∀(X:Cx),Cp X iC lY vs cs ls lo gs->Rm X->pM X "check_world" 1 bu->pM X "check_sentence" 1 bg->CaF X "paper_of" (gq X.K 24)->PSs X (bR st) (xR X.K 24)):PprOk P w K mg base (k+1):=by
 refine⟨f,fd,["world","sentence"],F.ok sc (λvs H Q E h=>by obtain⟨_,_,_,_,_,_,_,_,_,o,_⟩:=h;exact o.1) (λa A L s H vs Q E m h=>?_),hm,F.kp,b⟩
 have r:∀{i:Nat},decide (i<=k)=true->Room i _:=λ{i} hi=>m.mono (of_decide_eq_true hi)
 obtain⟨t,U,g,F1,c,N,z1⟩:=J;obtain⟨q,x,e,R,Z,I,v⟩:=p;obtain⟨d,u,B,y,l,S,C⟩:=z;exact⟨_,bd _ (Cp.fn cp G) m.units ⟨j1,t,U,g,F1,r Y,c,N,z1⟩ ⟨j2,q,x,e,R,r M,Z,I,v⟩ ⟨j3,d,u,B,y,r h3,l,S,C⟩,Bz (Mz _) h⟩
end
end KC
namespace T
open PySem PySem.Spec L2
open PyProof.Rows hiding St
section
variable{p:Fg->(Str->Option Value)->Prop}{X:Cx}{P:Program}{w:World}{K:Fg}{mg:Str->Option Value}{base:Heap}{k j n:Nat}
theorem In.ppr(I:In p X P w K mg base k)(h:KC.PprOk P w K mg base j)(A:decide (j<=k)=true:=by first|exact rfl|exact decide_eq_true (by omega)):KC.CaF X "paper" (KC.spPpr X.K):=by
 obtain⟨rfl,rfl,rfl,rfl,rfl,r,_⟩:=I;obtain⟨f,y,J,F,a,b,c⟩:=h;exact⟨j,f,y,J,F,r.mono (of_decide_eq_true A),a,b,c⟩
end
end T
namespace KC
open PySem PySem.Spec L2 T
open PyProof.Rows hiding St
variable{X:List PyData}{G l:Nat}{o:Option Int}{e:F1}{K:Fg}{W:XW}{C Γ I:Ev}{k:Int}{B:List V}
def dF:Stmt:=Hs 39
def gY:Stmt:=Hs 40
theorem Ew:cm iQ ["world","sentence"] (aL dF):=⟨rfl,rfl,rfl,by decide +kernel,rfl,by decide +kernel,by decide +kernel⟩
theorem FV:kl iQ qY [0,1,2,3,4] [0] [0,1,2,3,4] [1,2,3,4] [0,2,3] (aL dF)=true:=by kernel_rfl
theorem Fu:tx iQ qY=true:=by kernel_rfl
theorem Bj:cm iC ["world","sentence"] (aL gY):=⟨rfl,rfl,rfl,by decide +kernel,rfl,by decide +kernel,by decide +kernel⟩
theorem De:kl iC lY [0,1] [] [0,1] [0,1] [0,1,2] (aL gY)=true:=by kernel_rfl
theorem Cv:tx iC lY=true:=by kernel_rfl
abbrev LQ(X:Cx):Prop:=Cp X iQ qY [0,1,2,3,4] [0] [0,1,2,3,4] [1,2,3,4] [0,2,3]
theorem yA{X:Cx}{n:Nat}{d:Scope}{G r R h o b e q A Z E:Pos}(S:LQ X)(c1:CaF X "parts_of" (pJ X.K 1 aU))(p:CaF X "paper_of" (gq X.K n))(c:(A.line==E.line)=true)(a:(d.names.any λ(n,k)=>n==("below":Str)&&(k==NameKind.local||k==NameKind.cell))=false)(Y:kc iQ [5] [0] d=true)(h2:kl iQ qY [0,5] [0] [5] [] [1] d=true)(P:∀x,foldedSetIterable (.Call (.Name "parts_of" o) [.Name "sentence" b] [] e) X.env x=pure x):PS X (.Assign [.Name "below" A] (.ListComp (.Call (.Name "paper_of" G) [.Name "world" r,.Name "part" R] [] h) [⟨.Name "part" q,.Call (.Name "parts_of" o) [.Name "sentence" b] [] e,[],0⟩] d E) Z)
   (λD M H=>jB [5] (za X.K (eB (pJ X.K 1 aU) [] L2.E0 (bz (bT 1) d6))) (b8 5) rh (eB (gq X.K n) [] L2.E0 (bz (bT 0) (bz (bT 5) d6))) M H λv H'=>D.nx (M.set 2 (some v)) H'):=by
 have L:X.N.Nodup:=by rw[S.hN];exact S.nd
 have B:=λl C t w K=>S.blk h2 l C t w K
 obtain⟨k,f,fd,J,F,m,I,y,a3⟩:=p;obtain⟨u,f1,U,g,F1,z,b1,N,s⟩:=c1;exact Jo L (by rw[S.hN];rfl) (S.loo 2 "below" rfl rfl) (lN S Y) S.calm (vE (xx F1 z (S.g (j:=0) rfl rfl).1 b1 N s .nil hJ (gm (TQ.nvD S 1 rfl rfl) pF (bC rfl)) (by decide) (bC rfl) rfl))
  (λl C t w K=>qZ (X:=L2.blk X d l C t w K) (i:=5) L (by show X.N[5]?=_;rw[S.hN];rfl) ((B l C t w K).loc 5 _ rfl rfl).1 ((B l C t w K).loc 5 _ rfl rfl).2)
  (λl C t w K=>vF)
  (λl C t w K=>xx (X:=L2.blk X d l C t w K) F m ((B l C t w K).g (j:=1) rfl rfl).1 I y a3 .nil hJ (gm (TQ.nvD (B l C t w K) 0 rfl rfl) (gm (TQ.nvD (B l C t w K) 5 rfl rfl) pF (bC rfl)) (bC rfl)) (by decide) (bC rfl) rfl)
  (Jp S.kind (S.loo 2 "below" rfl rfl) c a) P
theorem F6{X:Cx}{n:Nat}(S:LQ X)(R:Rm X)(J:pM X "parts_of" 1 aU)(p:CaF X "paper_of" (gq X.K n))(z:pM X "ranks_of" 3 bG)(c:pM X "rooms_by" 4 bM):PSs X (bR dF) (Hr X.K n):=by
 have L:X.N.Nodup:=by rw[S.hN];exact S.nd
 have g:∀(i:Nat)(x:Str),iQ[i]?=some x->X.N[i]?=some x:=λi x e=>by rw[S.hN];exact e
 have b:∀(i:Nat)(x:Str),iQ[i]?=some x->[0,1,2,3,4].contains i=true->Loc X.env.scope x/\(X.fn x=true\/X.env.scope.names.lookup x=some .local):=λi x e l=>S.loc i x e l
 refine kn (yA S J p rfl rfl (by kernel_rfl) (by kernel_rfl) (λ_=>rfl)) ?_
 refine kn (pq (vs':=[6]) (cs':=[]) (lo':=[]) (gs':=[]) S 3 .leaf 6 rfl rfl rfl rfl rfl (by kernel_rfl) (by kernel_rfl) (TQ.Q.p (TQ.w_di_seq (TQ.w_cv S 2 rfl rfl))) (λY d a=>TQ.Q.p TQ.w_df_nil) (λY d a=>TQ.Q.p (TQ.w_de_idx (TQ.w_cv d 6 rfl rfl) TQ.w_de_int (λ_ _=>rfl))) (λ_=>rfl)) ?_
 refine kn (xu L (g 4 _ rfl) (b 4 _ rfl rfl).1 (TQ.Q.p (TQ.w_cc S 2 rfl rfl z (TQ.w_da_cons (TQ.w_cv S 0 rfl rfl) (TQ.w_da_cons (TQ.w_cv S 1 rfl rfl) (TQ.w_da_cons (TQ.w_cv S 3 rfl rfl) TQ.w_da_nil (bC rfl)) (bC rfl)) (bC rfl)) (bC rfl) rfl)) rfl (b 4 _ rfl rfl).2) ?_
 exact m7 (Dy (GC (gm (TQ.Q.p (TQ.w_cc S 3 rfl rfl c (TQ.w_da_cons (TQ.w_cv S 0 rfl rfl) (TQ.w_da_cons (TQ.w_cv S 1 rfl rfl) (TQ.w_da_cons (TQ.w_cv S 3 rfl rfl) (TQ.w_da_cons (TQ.w_cv S 4 rfl rfl) TQ.w_da_nil (bC rfl)) (bC rfl)) (bC rfl)) (bC rfl)) (bC rfl) rfl)) (gm (TQ.nvD S 4 rfl rfl) (gm (TQ.nvD S 2 rfl rfl) pF (bC rfl)) (bC rfl)) (bC rfl))))
theorem Di{X:Cx}(S:Cp X iC lY [0,1] [] [0,1] [0,1] [0,1,2])(R:Rm X)(a:pM X "check_world" 1 bu)(p:pM X "check_sentence" 1 bg)(z:CaF X "paper_of" (gq X.K 24)):PSs X (bR gY) (xR X.K 24):=by
 obtain⟨k,f,b,J,F,m,I,y,n⟩:=z;exact kn (xg (TQ.Q.p (TQ.w_cc S 0 rfl rfl a (TQ.w_da_cons (TQ.w_cv S 0 rfl rfl) TQ.w_da_nil (bC rfl)) (bC rfl) rfl)) rfl) (kn (xg (TQ.Q.p (TQ.w_cc S 1 rfl rfl p (TQ.w_da_cons (TQ.w_cv S 1 rfl rfl) TQ.w_da_nil (bC rfl)) (bC rfl) rfl)) rfl) (m7 (Dy (xx F m (S.g (j:=2) rfl rfl).1 I y n .nil hJ (gm (TQ.nvD S 0 rfl rfl) (gm (TQ.nvD S 1 rfl rfl) pF (bC rfl)) (bC rfl)) (by decide) (bC rfl) rfl))))
section
variable{P:Program}{w:World}{K:Fg}{mg:Str->Option Value}{base:Heap}{f:Addr}{fd:FuncData}{j1 j2 j3 k:Nat}
theorem ox(F:Fun K "paper_of" "paper_of" dF f fd)(E:mg "paper_of"=some (.ref f))(b:Binds K fd ["world","sentence"] [])(J:DefOk P w K mg base j1 "parts_of" 1 aU)(p:DefOk P w K mg base j2 "ranks_of" 3 bG)(z:DefOk P w K mg base j3 "rooms_by" 4 bM)(Y:decide (j1<=k)=true)(M:decide (j2<=k)=true)(a:decide (j3<=k)=true):uf P w K mg base (k+24) 24:=
 Fp F E b Ew FV Fu J p z Y M a (λX n S R J p z c=>F6 S R J p z c) 24
theorem vL(F:Fun K "paper" "paper" gY f fd)(E:mg "paper"=some (.ref f))(b:Binds K fd ["world","sentence"] [])(J:DefOk P w K mg base j1 "check_world" 1 bu)(p:DefOk P w K mg base j2 "check_sentence" 1 bg)(z:uf P w K mg base j3 24)(Y:decide (j1<=k)=true)(M:decide (j2<=k)=true)(a:decide (j3<=k)=true):PprOk P w K mg base (k+1):=
 Cs F E b Bj De Cv J p z Y M a λX S R J p z=>Di S R J p z
end
open PySem.SeqAt
inductive Ty where
 |no|rm|rk|pl (n:Nat)|tp (n:Nat)
def Fh:Option Int->V
 |none=>.non
 |some k=>.int k
def oI:Option Int->D
 |none=>.none
 |some k=>.int k
def At(H:Hp)(C:Addr->Ty)(b:Nat)(a:Addr):Ty->Prop
 |.no=>True
 |.rm=>∃L:List Int,H a=some (.lst (L.map V.int))/\L.length<=b
 |.rk=>∃X:List (Option Int),H a=some (.lst (X.map Fh))/\X.length<=b
 |.pl n=>∃o:List Addr,H a=some (.lst (o.map V.ref))/\o.length<=b/\∀t∈o,∃m,m<n/\C t=.tp m
 |.tp n=>∃Z r y,H a=some (.tup [.ref Z,r,.ref y])/\C Z=.rm/\(r=.non\/∃I,r=.ref I/\C I=.rk)/\C y=.pl n
def Jt(H:Hp)(C:Addr->Ty)(b:Nat):Prop:=∀a,At H C b a (C a)
def Ex(C S:Addr->Ty)(H:Hp):Prop:=(∀x,C x≠.no->S x=C x)/\∀x,S x≠.no->C x≠.no\/H x=none
def Mu(l:Nat):Ty->Prop
 |.rm=>True
 |.rk=>True
 |.pl n=>n<=l
 |_=>False
def Kp(l:Nat)(τ:Addr->Ty)(H F:Hp):Prop:=(∀x,¬Mu l (τ x)->∀o,H x=some o->F x=some o)/\∀x,H x≠none->F x≠none
def dQ(C:Addr->Ty)(a:Addr)(T:Ty):Addr->Ty:=λx=>if x=a then T else C x
section
variable{H H' H2:Hp}{τ τ' τ2:Addr->Ty}{b b':Nat}{a:Addr}
theorem kU{T:Ty}:dQ τ a T a=T:=if_pos rfl
theorem dy{T:Ty}{x:Addr}(h:x≠a):dQ τ a T x=τ x:=if_neg h
theorem At.move{T:Ty}(h:At H τ b a T)(g:b<=b')(d:∀o,H a=some o->H' a=some o)(A:∀x,τ x≠.no->τ' x=τ x):At H' τ' b' a T:=by
 have F:∀{x:Addr}{U:Ty},τ x=U->U≠.no->τ' x=U:=λ{x U} e n=>by rw[A x (by rw[e];exact n),e]
 cases T with
 |no=>trivial
 |rm=>obtain⟨L,e,l⟩:=h;exact⟨L,d _ e,by omega⟩
 |rk=>obtain⟨L,e,l⟩:=h;exact⟨L,d _ e,by omega⟩
 |pl n=>obtain⟨f,e,l,q⟩:=h;exact⟨f,d _ e,by omega,λt m=>let⟨k,Y,M⟩:=q t m;⟨k,Y,F M (by simp)⟩⟩
 |tp n=>
  obtain⟨Z,r,y,e,Y,M,P⟩:=h;exact⟨Z,r,y,d _ e,F Y (by simp),M.imp id (λ⟨I,S,c⟩=>⟨I,S,F c (by simp)⟩),F P (by simp)⟩
theorem Jt.inH(J:Jt H τ b)(h:τ a≠.no):H a≠none:=by
 have:=J a
 cases e:τ a with
 |no=>exact absurd e h
 |rm=>rw[e]at this;obtain⟨_,q,_⟩:=this;rw[q];simp
 |rk=>rw[e]at this;obtain⟨_,q,_⟩:=this;rw[q];simp
 |pl n=>rw[e]at this;obtain⟨_,q,_⟩:=this;rw[q];simp
 |tp n=>rw[e]at this;obtain⟨_,_,_,q,_⟩:=this;rw[q];simp
theorem Jt.free(J:Jt H τ b)(h:H a=none):τ a=.no:=Classical.byContradiction λz=>J.inH z h
theorem Jt.grow(J:Jt H τ b)(s:Same H H')(U:b<=b'):Jt H' τ b':=λx=>(J x).move U (λo e=>s x o e) λ_ _=>rfl
theorem Jt.put{o:HO}(J:Jt H τ b)(U:b<=b')(h:At (upd H a o) τ b' a (τ a)):Jt (upd H a o) τ b':=λx=>by
 by_cases z:x=a
 .subst z;exact h
 .exact(J x).move U (λo e=>by rw[eT z];exact e) λ_ _=>rfl
theorem Jt.new{o:HO}{T:Ty}(J:Jt H τ b)(U:b<=b')(Z:H a=none)(h:At (upd H a o) (dQ τ a T) b' a T):Jt (upd H a o) (dQ τ a T) b':=λx=>by
 by_cases z:x=a
 .subst z;rw[kU];exact h
 .rw[dy z]
  exact(J x).move U (λo e=>by rw[eT z];exact e) λy f=>dy λw=>f (by rw[w];exact J.free Z)
theorem Jt.set{T:Ty}(J:Jt H τ b)(Z:τ a=.no)(h:At H (dQ τ a T) b a T):Jt H (dQ τ a T) b:=λx=>by
 by_cases z:x=a
 .subst z;rw[kU];exact h
 .rw[dy z]
  exact(J x).move (Mz _) (λo e=>e) λy f=>dy λw=>f (by rw[w];exact Z)
theorem Ex.refl:Ex τ τ H:=⟨λ_ _=>rfl,λ_ h=>.inl h⟩
theorem Ex.new{T:Ty}(J:Jt H τ b)(Z:H a=none):Ex τ (dQ τ a T) H:=⟨λx F=>dy λz=>F (by rw[z];exact J.free Z),λx F=>by
 by_cases z:x=a
 .exact .inr (by rw[z];exact Z)
 .rw[dy z]at F;exact .inl F⟩
theorem Ex.trans(e:Ex τ τ' H)(R:Ex τ' τ2 H2)(k:∀x,H x≠none->H2 x≠none):Ex τ τ2 H:=⟨λx F=>by rw[R.1 x (by rw[e.1 x F];exact F),e.1 x F],λx F=>by
 rcases R.2 x F with z|z
 .exact e.2 x z
 .exact .inr (Classical.byContradiction λy=>k x y z)⟩
theorem Mu.ne{T:Ty}(h:Mu l T):T≠.no:=λz=>by rw[z]at h;exact h
theorem Mu.mono{T:Ty}(S:l<=G)(h:Mu l T):Mu G T:=by
 cases T with
 |pl n=>exact Nat.le_trans (show n<=l from h) S
 |_=>exact h
theorem Kp.same(s:Same H H'):Kp l τ H H':=⟨λx _ o e=>s x o e,λx h z=>h (s.free z)⟩
theorem Kp.mono(S:l<=G)(k:Kp l τ H H'):Kp G τ H H':=⟨λx F=>k.1 x λz=>F (z.mono S),k.2⟩
theorem Kp.upd{l:Nat}{o:HO}(h:Mu l (τ a)):Kp l τ H (upd H a o):=⟨λx F u e=>by rw[eT (λz=>F (by rw[z];exact h))];exact e,λx F=>by
 by_cases z:x=a
 .rw[z,eV];simp
 .rw[eT z];exact F⟩
theorem Kp.trans(k:Kp l τ H H')(B:Kp l τ' H' H2)(e:Ex τ τ' H):Kp l τ H H2:=⟨λx F o h=>B.1 x (λz=>by
 by_cases y:τ x=.no
 .rcases e.2 x z.ne with y2|y2
  .exact y2 y
  .rw[h]at y2;cases y2
 .rw[e.1 x y]at z;exact F z) o (k.1 x F o h),λx F=>B.2 x (k.2 x F)⟩
end
inductive PT (b:Nat):Nat->D->Prop where
 |mk {n:Nat} {xs:List Int} {R:D} {bs:List D} {ms:D->Nat}:xs.length<=b->(R=.none\/∃zs:List (Option Int),R=.list (zs.map oI)/\zs.length<=b)->bs.length<=b->(∀d∈bs,ms d<n)->(∀d∈bs,PT b (ms d) d)->PT b n (.tuple [.list (xs.map .int),R,.list bs])
theorem u6{H:Hp}:Rep K H (Fh o) (oI o):=by
 cases o with
 |none=>exact .non
 |some k=>exact .int _
theorem DD{u:Type}{H:Hp}{L:List u}{f:u->V}{g:u->D}(h:∀x∈L,Rep K H (f x) (g x)):∀(i:Nat) v d,(L.map f)[i]?=some v->(L.map g)[i]?=some d->Rep K H v d:=λi v d I a=>by
 rw[getElem?_map]at I a
 obtain⟨x,N,rfl⟩:=Option.map_eq_some_iff.mp I;rw[N]at a
 cases a;exact h x (mem_of_getElem? N)
theorem Jt.tree{H:Hp}{C:Addr->Ty}{b:Nat}{O:List Addr}(J:Jt H C b)(j:∀a,C a≠.no->a∉O):∀(n:Nat)(t:Addr),C t=.tp n->∃P,PT b n P/\Rep K (bZ H O) (.ref t) P:=by
 intro n;induction n using Nat.strongRecOn with
 |ind n B=>
  intro t A;have at':=J t
  rw[A]at at';obtain⟨Z,r,a2,e,h0,Y,M⟩:=at'
  have s:=J Z
  rw[h0]at s;obtain⟨L,U,q⟩:=s;have c:=J a2
  rw[M]at c;obtain⟨o,e2,l,c⟩:=c;have sub:∀x:Addr,∃P,x∈o->(∃m,m<n/\PT b m P)/\Rep K (bZ H O) (.ref x) P:=λx=>by
   by_cases F:x∈o
   .obtain⟨m,E,k⟩:=c x F
    obtain⟨P,G,p2⟩:=B m E x k;exact⟨P,λ_=>⟨⟨m,E,G⟩,p2⟩⟩
   .exact⟨.none,λz=>absurd z F⟩
  obtain⟨f,g⟩:=Classical.axiomOfChoice sub;obtain⟨R,hR,rR⟩:∃R,(R=.none\/∃X:List (Option Int),R=.list (X.map oI)/\X.length<=b)/\Rep K (bZ H O) r R:=by
   rcases Y with rfl|⟨a1,rfl,Y⟩
   .exact⟨.none,.inl rfl,.non⟩
   .have S:=J a1
    rw[Y]at S;obtain⟨X,N,p⟩:=S;exact⟨_,.inr ⟨X,rfl,p⟩,xi N (j a1 (by rw[Y];simp)) (by simp) (DD λx _=>u6)⟩
  have w:∀d:D,∃m,d∈o.map f->m<n/\PT b m d:=λd=>by
   by_cases y:d∈o.map f
   .obtain⟨x,F,rfl⟩:=List.mem_map.mp y
    obtain⟨m,Y,M⟩:=(g x F).1;exact⟨m,λ_=>⟨Y,M⟩⟩
   .exact⟨0,λz=>absurd z y⟩
  obtain⟨ms,h⟩:=Classical.axiomOfChoice w;refine⟨.tuple [.list (L.map .int),R,.list (o.map f)],.mk (ms:=ms) q hR (by simp;exact l) (λd y=>(h d y).1) (λd y=>(h d y).2),.tup (.of (ur e (j t (by rw[A];simp)))) rfl λi v d I u=>?_⟩
  match i,I,u with
  |0,I,u=>cases I;cases u;exact xi U (j Z (by rw[h0];simp)) (by simp) (DD λx _=>.int _)
  |1,I,u=>cases I;cases u;exact rR
  |2,I,u=>cases I;cases u;exact xi e2 (j a2 (by rw[M];simp)) (by simp) (DD λx F=>(g x F).2)
  |i+3,I,u=>cases I
theorem zR{x:List V}(h:∀u∈x,∃a,u=V.ref a):∃A:List Addr,x=A.map V.ref:=by
 induction x with
 |nil=>exact⟨[],rfl⟩
 |cons u x b=>
  obtain⟨a,rfl⟩:=h u (mem_cons_self ..);obtain⟨A,rfl⟩:=b λv f=>h v (Ms _ f)
  exact⟨a::A,rfl⟩
theorem E8{H:Hp}{w:Wd}:∀(n:Nat){s:Sn}{G:List Addr}{v:V}{P:D}{τ0:Addr->Ty}{b:Nat},s.dep<=n->Pap w s P->PO H G v P->G.Nodup->(∀a∈G,τ0 a=.no)->Jt H τ0 b->w.n<=b->2<=b->∃C t,v=.ref t/\C t=.tp n/\Jt H C b/\(∀x,x∉G->C x=τ0 x)/\∀x∈G,C x≠.no:=by
 intro n;induction n with
 |zero=>intro s _ _ _ _ _ hd;have:=s.dep_args;omega
 |succ n B=>
  intro s G v P τ0 b hd hP po ndG hno J U K
  cases hP with
  |@mk _ R bs hR hlb hz=>
  generalize ePd:(PyData.tuple [aR (aX w s),R,.list bs])=Pd at po
  cases po with
  |@mk t a0 a2 xs r1 R' G1 ws bs' Gs ht h0 l0 h1 h2 l2 e1 e2 hs=>
  simp only[PyData.tuple.injEq,List.cons.injEq,PyData.list.injEq,and_true]at ePd
  obtain⟨exs,rfl,rfl⟩:=ePd;have lx:xs.length<=b:=by
   have e:=congrArg List.length exs
   simp only[length_map]at e
   rw[<-e];refine Nat.le_trans ?_ U
   unfold aX;exact Nat.le_trans (length_filter_le _ _) (by simp)
  have al:=s.args_le
  obtain⟨r,nd1⟩:=List.nodup_cons.mp ndG;obtain⟨g,nd2⟩:=List.nodup_cons.mp nd1;obtain⟨n3,nd3⟩:=List.nodup_cons.mp nd2;obtain⟨nd4,nd5,n4⟩:=Mt nd3;have mGs:∀a∈Gs.flatten,a∈t::a0::a2::(G1++Gs.flatten):=λa Z=>Ms _ (Ms _ (Ms _ (Mm _ Z)))
  have parts:∀k,k<=bs.length->∃C,Jt H C b/\(∀x,x∉(Gs.take k).flatten->C x=τ0 x)/\(∀x∈(Gs.take k).flatten,C x≠.no)/\∀(i:Nat) u,i<k->ws[i]?=some u->∃N,u=.ref N/\C N=.tp n:=by
   intro k;induction k with
   |zero=>intro _;exact⟨τ0,J,λ_ _=>rfl,(λx F=>by simp at F),λi _ l=>absurd l (Nat.not_lt_zero _)⟩
   |succ k ik=>
    intro hk;obtain⟨C,J1,k1,k2,k3⟩:=ik (by omega)
    have hkg:k<Gs.length:=by omega
    have hkb:k<bs.length:=by omega
    have hkw:k<ws.length:=by omega
    have hka:k<s.args.length:=by omega
    have gk:=Mq hkg
    have split:Gs=Gs.take k++Gs[k]::Gs.drop (k+1):=by rw[<-drop_eq_getElem_cons hkg,List.take_append_drop]
    have nd':=nd5
    rw[split,flatten_append,flatten_cons]at nd';have disj:∀a∈Gs[k],a∉(Gs.take k).flatten:=λa h z=>(Mt nd').2.2 a z a (Mn _ h) rfl
    have ndk:Gs[k].Nodup:=(Mt (Mt nd').2.1).1
    have Z:s.args[k]∈s.args:=getElem_mem hka
    obtain⟨τ1,N,f,M,J2,j1,j2⟩:=B (G4 Z hd) (hz _ _ (List.mem_iff_getElem?.mpr ⟨k,by rw[List.getElem?_zip_eq_some];exact⟨Mq hka,Mq hkb⟩⟩)) (hs k ws[k] bs[k] Gs[k] (Mq hkw) (Mq hkb) gk) ndk (λa h=>by rw[k1 a (disj a h)];exact hno a (mGs a (AO gk h))) J1 U K
    have j:Gs.take (k+1)=Gs.take k++[Gs[k]]:=by rw[List.take_succ,gk];rfl
    refine⟨τ1,J2,λx F=>?_,λx F=>?_,λi u l E=>?_⟩
    .rw[j,flatten_append,flatten_singleton]at F
     rw[j1 x λz=>F (Mm _ z),k1 x λz=>F (Mn _ z)]
    .rw[j,flatten_append,flatten_singleton]at F
     by_cases z:x∈Gs[k]
     .exact j2 x z
     .rcases Mo F with y|y
      .rw[j1 x z];exact k2 x y
      .exact absurd y z
    .by_cases X:i=k
     .subst X
      rw[Mq hkw]at E
      cases E;exact⟨N,f,M⟩
     .obtain⟨Y,S,c⟩:=k3 i u (by omega) E
      refine⟨Y,S,?_⟩
      have ht2:Y∉Gs[k]:=λz=>by
       have:=hno Y (mGs Y (AO gk z))
       rw[<-k1 Y (disj Y z),c]at this
       cases this
      rw[j1 Y ht2];exact c
  obtain⟨C,J1,k1,k2,k3⟩:=parts bs.length (Mz _);rw[List.take_of_length_le (by omega)]at k1 k2
  have nG:∀a∈t::a0::a2::G1,C a=.no:=λa Z=>by
   have hmem:a∈t::a0::a2::(G1++Gs.flatten):=by
    rcases Mp Z with rfl|Z
    .exact mem_cons_self ..
    rcases Mp Z with rfl|Z
    .exact Ms _ (mem_cons_self ..)
    rcases Mp Z with rfl|Z
    .exact Ms _ (Ms _ (mem_cons_self ..))
    exact Ms _ (Ms _ (Ms _ (Mn _ Z)))
   rw[k1 a λz=>?_]
   .exact hno a hmem
   .rcases Mp Z with rfl|Z
    .exact r (Ms _ (Ms _ (Mm _ z)))
    rcases Mp Z with rfl|Z
    .exact g (Ms _ (Mm _ z))
    rcases Mp Z with rfl|Z
    .exact n3 (Mm _ z)
    exact n4 a Z a z rfl
  have m0:C a0=.no:=nG a0 (by simp)
  have m2:C a2=.no:=nG a2 (by simp)
  have mt:C t=.no:=nG t (by simp)
  have d0:t≠a0:=λz=>r (by rw[z];simp)
  have d2:t≠a2:=λz=>r (by rw[z];simp)
  have d3:a0≠a2:=λz=>g (by rw[z];simp)
  have J2:Jt H (dQ C a0 .rm) b:=J1.set m0 ⟨xs.map λx:Nat=>(x:Int),by rw[h0,map_map];rfl,by rw[length_map];exact lx⟩
  obtain⟨A,hus⟩:∃A:List Addr,ws=A.map V.ref:=by
   have:∀u∈ws,∃a,u=V.ref a:=λu E=>by
    obtain⟨i,l,rfl⟩:=List.mem_iff_getElem.mp E;obtain⟨N,q,_⟩:=k3 i _ (by omega) (Mq l)
    exact⟨N,q⟩
   exact zR this
  subst hus;have E:∀u∈A,C u=.tp n:=λu E=>by
   obtain⟨i,l,rfl⟩:=List.mem_iff_getElem.mp E;obtain⟨N,q,c⟩:=k3 i (.ref A[i]) (by simp at e1;omega) (by rw[getElem?_map,Mq l];rfl)
   cases q;exact c
  have J3:Jt H (dQ (dQ C a0 .rm) a2 (.pl (n+1))) b:=J2.set (by rw[dy d3.symm];exact m2) ⟨A,h2,by simp at e1;omega,λu m=>⟨n,Nat.lt_succ_self _,by
   have:=E u m
   rw[dy (λz=>by rw[z,m2]at this;cases this),dy (λz=>by rw[z,m0]at this;cases this)]
   exact this⟩⟩
  have last:∀(L:Addr->Ty),Jt H L b->L t=.no->L a0=.rm->L a2=.pl (n+1)->(r1=.non\/∃I,r1=.ref I/\L I=.rk)->(∀x,x∉t::a0::a2::(G1++Gs.flatten)->L x=τ0 x)->(∀x∈a0::a2::(G1++Gs.flatten),L x≠.no)->∃C N,V.ref t=.ref N/\C N=.tp (n+1)/\Jt H C b/\(∀x,x∉t::a0::a2::(G1++Gs.flatten)->C x=τ0 x)/\∀x∈t::a0::a2::(G1++Gs.flatten),C x≠.no:=by
   intro L J9 qt q0 c S qo qi;have tn:∀x,L x≠.no->x≠t:=λx h z=>h (by rw[z];exact qt)
   refine⟨dQ L t (.tp (n+1)),t,rfl,kU,J9.set qt ⟨a0,r1,a2,ht,by rw[dy d0.symm];exact q0,?_,by rw[dy d2.symm];exact c⟩,λx F=>?_,λx F=>?_⟩
   .rcases S with z|⟨I,z,z2⟩
    .exact .inl z
    .exact .inr ⟨I,z,by rw[dy (tn I (by rw[z2];simp))];exact z2⟩
   .rw[dy (λz=>F (by rw[z];simp))];exact qo x F
   .by_cases z:x=t
    .rw[z,kU];simp
    .rw[dy z]
     exact qi x ((Mp F).resolve_left z)
  have d:∀x∈Gs.flatten,x≠a0/\x≠a2:=λx F=>⟨λz=>g (by rw[<-z];exact Ms _ (Mm _ F)),λz=>n3 (by rw[<-z];exact Mm _ F)⟩
  rcases h1 with⟨rfl,_,rfl⟩|⟨I,rk,rfl,rfl,hk,ek,lk⟩
  .refine last _ J3 (by rw[dy d2,dy d0];exact mt) (by rw[dy d3,kU]) kU (.inl rfl) (λx F=>?_) λx F=>?_
   .simp only[mem_cons,nil_append,not_or]at F
    rw[dy F.2.2.1,dy F.2.1];exact k1 x F.2.2.2
   .simp only[mem_cons,nil_append]at F
    rcases F with rfl|rfl|F
    .rw[dy d3,kU];simp
    .rw[kU];simp
    .rw[dy (d x F).2,dy (d x F).1];exact k2 x F
  .have m1:C I=.no:=nG I (by simp)
   have c0:I≠a0:=λz=>g (by rw[z];simp)
   have p:I≠a2:=λz=>n3 (by rw[z];simp)
   have ct:t≠I:=λz=>r (by rw[z];simp)
   have cf:I∉Gs.flatten:=λz=>n4 I (by simp) I z rfl
   have J4:=J3.set (a:=I) (T:=.rk) (by rw[dy p,dy c0];exact m1) ⟨rk.map (λo=>o.map λx:Nat=>(x:Int)),by
    rw[hk,map_map];congr 2
    exact map_congr_left λo _=>by cases o<;>rfl,by
    rcases Aj hR with z|⟨rk',z,z2⟩
    .rw[z]at ek;cases ek
    .rw[z]at ek
     simp only[fY,PyData.list.injEq]at ek
     have e:=congrArg List.length ek
     simp only[length_map]at e ⊢
     omega⟩
   refine last _ J4 (by rw[dy ct,dy d2,dy d0];exact mt) (by rw[dy c0.symm,dy d3,kU]) (by rw[dy p.symm,kU]) (.inr ⟨I,rfl,kU⟩) (λx F=>?_) λx F=>?_
   .simp only[mem_cons,singleton_append,not_or]at F
    rw[dy F.2.2.2.1,dy F.2.2.1,dy F.2.1];exact k1 x F.2.2.2.2
   .simp only[mem_cons,singleton_append]at F
    rcases F with rfl|rfl|rfl|F
    .rw[dy c0.symm,dy d3,kU];simp
    .rw[dy p.symm,kU];simp
    .rw[kU];simp
    .rw[dy (λz=>cf (by rw[<-z];exact F)),dy (d x F).2,dy (d x F).1];exact k2 x F
def Ee(F u:TE):TE:=λM H Q=>F M H λx f=>((x=.non\/x=.int 0)/\u M f Q)\/∃k:Int,x=.int k/\k≠0/\Q (.int k) f
def wD(L e:F1):F1:=aZ L λp C=>match p.d with
 |.none=>e C
 |.int k=>if k=0 then e C else .ok ⟨.leaf,.int k⟩ C
 |_=>.no
theorem B5{X:Cx}{a b:Expr}{cP:List Expr}{d:Pos}{F u:TE}(Z:PE X a F)(U:PE X (.BoolOp .Or (b::cP) d) u):PE X (.BoolOp .Or (a::b::cP) d) (Ee F u):=by
 intro B s M H Q I h;refine BoolOp_or (b5 (Z B s M H _ I h) λv n ⟨x,H1,I1,r1,S⟩=>?_)
 rcases S with⟨z,S⟩|⟨k,rfl,hk,S⟩
 .refine b5 (Im B n M H1 x v (λc A=>c=false/\u M A Q) I1 r1 ⟨false,?_,rfl,S⟩) λc G ⟨A,I2,q2,q3⟩=>?_
  .rcases z with rfl|rfl<;>rfl
  .subst q2
   exact U B G M A Q I2 q3
 .refine b5 (Im B n M H1 (.int k) v (λc A=>c=true/\A=H1) I1 r1 ⟨true,by show true=(k != 0);simp[hk],rfl,rfl⟩) λc G ⟨A,I2,q2,q3⟩=>?_
  subst q2 q3;exact⟨.int k,A,I2,r1,S⟩
section
variable{K:Fg}{W:XW}{σ:St}{H:Hp}{Q:VK}{fa fb:F1}
theorem BA(h:tE K W (wD fa fb) σ H Q):Ee (tE K W fa) (tE K W fb) σ H Q:=by
 refine uq h λL O t I p v f G g X A w=>?_
 have r:=A.own.rep
 obtain⟨s,d⟩:=p
 cases r with
 |non=>exact .inl ⟨.inl rfl,⟨L,O,g,I,A.go,Wants.after w A.same A.newF⟩⟩
 |int k=>
  by_cases b:k=0
  .subst b
   exact .inl ⟨.inr rfl,⟨L,O,g,I,A.go,Wants.after w A.same A.newF⟩⟩
  .have w:Wants K W L O t H σ Q (if k=0 then fb I else .ok ⟨.leaf,.int k⟩ I):=w
   rw[if_neg b]at w;exact .inr ⟨k,rfl,b,Wants.scal w (.int k) A.same A.env (λa Z=>Mm _ Z) X A.newF⟩
 |_=>exact w.elim
end
theorem D4{X:Cx}{a b:Expr}{F:List Expr}{d:Pos}{L:F1}(Z:TQ.Q (PE X a (tE X.K W L)))(U:TQ.Q (PE X (.BoolOp .Or (b::F) d) (tE X.K W e))):TQ.Q (PE X (.BoolOp .Or (a::b::F) d) (tE X.K W (wD L e))):=⟨bt (B5 Z.p U.p) λ_ _ _=>BA⟩
abbrev GV(c m wy j:Int)(L:List Int)(R:D)(bs:List D):Ev:=[none,MB (.int c),MB (.int m),MB (.int wy),MB (.int j),MB (.list (L.map .int)),MB R,MB (.list bs)]
abbrev SV(t:Addr)(c m wy j:Int)(Z:Addr)(r:V)(y:Addr):St:=[some (.ref t),some (.int c),some (.int m),some (.int wy),some (.int j),some (.ref Z),some r,some (.ref y)]
structure Vw(K:Fg)(O:List Addr)(H:Hp)(τ:Addr->Ty)(b n:Nat)(a0:Addr)(r:V)(a2:Addr)(xs:List Int)(R:D)(ts:List Addr)(bs:List D):Prop where
 e0:H a0=some (.lst (xs.map V.int))
 l0:xs.length<=b
 hr:(r=.non/\R=.none)\/∃(a1:Addr)(zs:List (Option Int)),r=.ref a1/\τ a1=.rk/\H a1=some (.lst (zs.map Fh))/\R=.list (zs.map oI)/\zs.length<=b
 e2:H a2=some (.lst (ts.map V.ref))
 l2:ts.length<=b
 q2:∀t∈ts,∃m,m<n/\τ t=.tp m
 lb:bs.length=ts.length
 r0:Rep K (bZ H O) (.ref a0) (.list (xs.map .int))
 rR:Rep K (bZ H O) r R
 r2:Rep K (bZ H O) (.ref a2) (.list bs)
section
variable{K:Fg}{O:List Addr}{H H':Hp}{τ:Addr->Ty}{b n:Nat}{a0:Addr}{r:V}{a2:Addr}{xs:List Int}{R:D}{ts:List Addr}{bs:List D}
theorem Vw.grow(v:Vw K O H τ b n a0 r a2 xs R ts bs)(s:Same H H'):Vw K O H' τ b n a0 r a2 xs R ts bs where
 e0:=s _ _ v.e0
 l0:=v.l0
 hr:=v.hr.imp id λ⟨I,X,Y,M,P,m⟩=>⟨I,X,Y,M,s _ _ P,m⟩
 e2:=s _ _ v.e2
 l2:=v.l2
 q2:=v.q2
 lb:=v.lb
 r0:=v.r0.mono (me s λa Z=>.inl Z)
 rR:=v.rR.mono (me s λa Z=>.inl Z)
 r2:=v.r2.mono (me s λa Z=>.inl Z)
theorem iS(J:Jt H τ b)(j:∀a,τ a≠.no->a∉O)(o:τ a0=.rm)(Y:r=.non\/∃I,r=.ref I/\τ I=.rk)(M:τ a2=.pl n):∃xs R ts bs,Vw K O H τ b n a0 r a2 xs R ts bs:=by
 have s:=J a0
 rw[o]at s;obtain⟨xs,U,q⟩:=s;have c:=J a2
 rw[M]at c;obtain⟨ts,h,l,c⟩:=c;have d:∀x:Addr,∃P,x∈ts->Rep K (bZ H O) (.ref x) P:=λx=>by
  by_cases F:x∈ts
  .obtain⟨m,E,k⟩:=c x F
   obtain⟨P,G,i⟩:=J.tree j m x k;exact⟨P,λ_=>i⟩
  .exact⟨.none,λz=>absurd z F⟩
 obtain⟨f,g⟩:=Classical.axiomOfChoice d;have e:Rep K (bZ H O) (.ref a0) (.list (xs.map .int)):=xi U (j a0 (by rw[o];simp)) (by simp) (DD λx _=>.int _)
 have C:Rep K (bZ H O) (.ref a2) (.list (ts.map f)):=xi h (j a2 (by rw[M];simp)) (by simp) (DD λx F=>g x F)
 rcases Y with rfl|⟨I,rfl,Y⟩
 .exact⟨xs,.none,ts,ts.map f,U,q,.inl ⟨rfl,rfl⟩,h,l,c,by simp,e,.non,C⟩
 .have S:=J I
  rw[Y]at S;obtain⟨X,N,p⟩:=S;exact⟨xs,_,ts,ts.map f,U,q,.inr ⟨I,X,rfl,Y,N,rfl,p⟩,h,l,c,by simp,e,xi N (j I (by rw[Y];simp)) (by simp) (DD λx _=>u6),C⟩
theorem Vw.env{t:Addr}{c m wy j:Int}(v:Vw K O H τ b n a0 r a2 xs R ts bs)(X:O.Nodup)(inH:∀a∈O,H a≠none):EnvOk K H O (List.replicate 8 []) H (SV t c m wy j a0 r a2) (GV c m wy j xs R bs):=
 qG (Γ:=GV c m wy j xs R bs) X inH rfl λi p C=>by
  match i,C with
  |0,C=>cases C
  |1,C=>cases C;exact⟨rfl,_,rfl,.int _⟩
  |2,C=>cases C;exact⟨rfl,_,rfl,.int _⟩
  |3,C=>cases C;exact⟨rfl,_,rfl,.int _⟩
  |4,C=>cases C;exact⟨rfl,_,rfl,.int _⟩
  |5,C=>cases C;exact⟨rfl,_,rfl,v.r0⟩
  |6,C=>cases C;exact⟨rfl,_,rfl,v.rR⟩
  |7,C=>cases C;exact⟨rfl,_,rfl,v.r2⟩
  |i+8,C=>cases C
end
structure Iv(O:List Addr)(τ0:Addr->Ty)(H0:Hp)(n b:Nat)(τ:Addr->Ty)(ax:Int)(a0:Addr)(r:V)(a2:Addr)(H:Hp):Prop where
 J:Jt H τ b
 ex:Ex τ0 τ H0
 kp:Kp n τ0 H0 H
 h0:τ a0=.rm
 h1:r=.non\/∃a1,r=.ref a1/\τ a1=.rk
 h2:τ a2=.pl n
 hx:0<=ax
def Co(O:List Addr)(a:Addr->Ty)(d:Hp)(n b:Nat)(c m:Int)(M:St)(H:Hp):Prop:=∃C t wy j Z r y,M=SV t c m wy j Z r y/\Iv O a d n b C j Z r y H
section
variable{K:Fg}{O:List Addr}{H H' H0:Hp}{τ τ0:Addr->Ty}{b b' n:Nat}{a0:Addr}{r:V}{a2 t:Addr}{c m wy ax:Int}{σ:St}{D:eR}
theorem Iv.grow(v:Iv O τ0 H0 n b τ ax a0 r a2 H)(s:Same H H')(U:b<=b'):Iv O τ0 H0 n b' τ ax a0 r a2 H':=⟨v.J.grow s U,v.ex,v.kp.trans (Kp.same (τ:=τ) s) v.ex,v.h0,v.h1,v.h2,v.hx⟩
theorem Iv.out(v:Iv O τ0 H0 n b τ ax a0 r a2 H)(f:∀a∈O,H0 a≠none/\τ0 a=.no):(∀a,τ a≠.no->a∉O)/\∀a∈O,H a≠none:=⟨λa Z z=>by
 rcases v.ex.2 a Z with y|y
 .exact y (f a z).2
 .exact(f a z).1 y,λa Z=>v.kp.2 a (f a Z).1⟩
theorem i6{g:FB}{d:L2.TS}{bo:Bool}{L:List Int}{R:PyData}{o:List Addr}{bs:List PyData}(X:O.Nodup)(f:∀a∈O,H0 a≠none/\τ0 a=.no)(v:Iv O τ0 H0 n b τ ax a0 r a2 H)(w:Vw K O H τ b n a0 r a2 L R o bs)(J:g (GV c m wy ax L R bs)=.ok bo (GV c m wy ax L R bs))(A:bo=true->∀e,Iv O τ0 H0 n b τ ax a0 r a2 e->Vw K O e τ b n a0 r a2 L R o bs->d D (SV t c m wy ax a0 r a2) e)(j:∀Z e,Co O τ0 H0 n (b+1) c m Z e->D.nx Z e):gV (tT K W0 g) d fw D (SV t c m wy ax a0 r a2) H:=by
 refine HP (Γ:=GV c m wy ax L R bs) (w.env X (v.out f).2) J λe s=>?_
 cases bo with
 |true=>exact iK (A rfl e (v.grow s (Mz _)) (w.grow s))
 |false=>exact iL (j _ _ ⟨τ,t,wy,ax,a0,r,a2,rfl,v.grow s (Nat.le_succ _)⟩)
end
section
variable{K:Fg}{O:List Addr}{H H' H0:Hp}{τ τ0:Addr->Ty}{b b' n:Nat}{a0:Addr}{r:V}{a2 t p:Addr}{c m wy ax:Int}{σ:St}{D:eR}{T:Ty}
theorem Jt.new'(J:Jt H τ b)(U:b<=b')(s:Same H H')(C:H p=none)(h:At H' (dQ τ p T) b' p T):Jt H' (dQ τ p T) b':=λx=>by
 by_cases z:x=p
 .subst z;rw[kU];exact h
 .rw[dy z]
  exact(J x).move U (λo e=>s x o e) λy f=>dy λw=>f (by rw[w];exact J.free C)
theorem Iv.put{o:HO}(v:Iv O τ0 H0 n b τ ax a0 r a2 H){a:Addr}(Z:Mu n (τ a))(h:At (upd H a o) τ (b+1) a (τ a)):Iv O τ0 H0 n (b+1) τ ax a0 r a2 (upd H a o):=
 ⟨v.J.put (Nat.le_succ _) h,v.ex,v.kp.trans (Kp.upd (τ:=τ) Z) v.ex,v.h0,v.h1,v.h2,v.hx⟩
theorem Iv.ne(v:Iv O τ0 H0 n b τ ax a0 r a2 H)(C:H p=none){a:Addr}(Z:τ a≠.no):a≠p:=λz=>v.J.inH Z (by rw[z];exact C)
theorem Iv.ext(v:Iv O τ0 H0 n b τ ax a0 r a2 H)(C:H p=none):Ex τ0 (dQ τ p T) H0:=v.ex.trans (Ex.new v.J C) v.kp.2
theorem Iv.h1'(v:Iv O τ0 H0 n b τ ax a0 r a2 H)(C:H p=none):r=.non\/∃I,r=.ref I/\dQ τ p T I=.rk:=v.h1.imp id λ⟨I,e,h⟩=>⟨I,e,by rw[dy (v.ne C (by rw[h];simp))];exact h⟩
theorem rV{u E:Type}(f:u->E):∀(l:List u)(k:Nat),(l.map f).eraseIdx k=(l.eraseIdx k).map f
 |[],_=>rfl
 |_::_,0=>rfl
 |a::l,k+1=>by
  show f a::(l.map f).eraseIdx k=f a::(l.eraseIdx k).map f
  rw[rV f l k]
theorem lH{i:Nat}{a:Int}(h:C[i]?=some (MB (.int a))):aG ag (aj bf (ab i) (eK (.int k))) C=.ok (a==k) C:=cD (aB (g:=bf) (az h) aO eq_int)
theorem wI{i:Nat}(h:C[i]?=some (MB (.list X))):aG ag (aj gO (bp aK (ae (ab i) af)) (eK (.int k))) C=.ok (decide (k<(X.length:Int))) C:=cD (s:=.leaf) (aB (g:=gO) (bX (g:=aK) (d:=.int (X.length:Int)) (aE (az h) aq) rfl) aO rfl)
theorem oX{i:Nat}{d:PyData}(h:C[i]?=some (MB d)):aG ag (aj (bJ true) (ab i) (eK .none)) C=.ok (!bW d) C:=cD (s:=.leaf) (aB (g:=bJ true) (az h) aO rfl)
abbrev Md:FB:=dw (aG ag (aj bf (ab 3) (eK (.int 0)))) (aG ag (aj gO (bp aK (ae (ab 5) af)) (eK (.int 0))))
abbrev L4:F1:=aj bj (ab 4) (bp aK (ae (ab 5) af))
abbrev Lb(K:Fg):L2.TS:=gV (tT K W0 Md) (eA (Bc K "list" vt (bT 5) (bz (tE K W0 L4) d6))) fw
theorem JK(X:O.Nodup)(f:∀a∈O,H0 a≠none/\τ0 a=.no)(U:b<=1000)(co:Co O τ0 H0 n b c m σ H)(j:∀Z i,Co O τ0 H0 n (b+1) c m Z i->D.nx Z i):Lb K D σ H:=by
 obtain⟨τ,t,wy,ax,a0,r,a2,rfl,v⟩:=co;obtain⟨L,R,o,bs,w⟩:=iS (K:=K) v.J (v.out f).1 v.h0 v.h1 v.h2
 refine i6 X f v w (gC (lH rfl) (wI rfl)) (λl i v w=>?_) j
 have S:0<L.length:=by
  simp only[Bool.and_eq_true,decide_eq_true_eq,length_map]at l
  omega
 refine⟨.ref a0,rfl,.inl ⟨rfl,_,.of w.e0⟩,?_⟩
 have q:=w.l0
 have E:0<=ax % (L.length:Int)/\ax % (L.length:Int)<L.length:=⟨Int.emod_nonneg _ (by omega),Int.emod_lt_of_pos _ (by omega)⟩
 refine DM (Γ:=GV c m wy ax L R bs) (z:=ax % (L.length:Int)) (w.env X (v.out f).2) (aB (g:=bj) (az rfl) (bX (g:=aK) (d:=.int (L.length:Int)) (aE (az rfl) aq) (by simp)) (cH (by omega))) λA s=>?_
 have h:=v.grow s (Mz _)
 obtain⟨k,G⟩:∃k:Nat,ax % (L.length:Int)=k:=⟨_,(Int.toNat_of_nonneg E.1).symm⟩
 have e:k<L.length:=by omega
 refine⟨a0,_,_,k,V.int L[k],rfl,rfl,s _ _ w.e0,by omega,by omega,?_,?_,j _ _ ⟨τ,t,wy,ax,a0,r,a2,rfl,h.put (by rw[h.h0];trivial) ?_⟩⟩
 .rw[G,length_map]
  exact(Iq (m9 e)).1
 .rw[getElem?_map,Mq e];rfl
 .rw[h.h0]
  exact⟨L.eraseIdx k,by rw[eV,rV],by have:=List.length_eraseIdx_le L k;omega⟩
theorem A5{a:F1}{s s':Sh}{L R:List PyData}(Z:a C=.ok ⟨s,.list L⟩ C)(U:e C=.ok ⟨s',.list R⟩ C)(Y:aF ⟨s,.list L⟩ L=true)(M:aF ⟨s',.list R⟩ R=true)(S:L.length+R.length<=2000):kK a e C=.ok ⟨.lst .leaf,.list (L++R)⟩ C:=by
 have I:(2000:Nat)<=sizeLine:=by decide
 have h:L.length+R.length<=sizeLine:=by omega
 unfold kK aZ;rw[Z];simp only[Out.bind,U,Y,M,decide_eq_true h,Bool.and_self,if_true]
theorem xJ{d:FL}{s:Sh}{Z:List Int}(S:d C=.ok [⟨s,.list (Z.map .int)⟩] C)(h:Z.length<64):fT d C=.ok ⟨.lst .leaf,.list ((PySem.W.sortI Z).map .int)⟩ C:=by
 unfold fT;rw[S];show(match T.intsOf (Z.map .int)with|some Z=>if Z.length<64 then Out.ok (⟨.lst .leaf,.list ((PySem.W.sortI Z).map .int)⟩:PV) C else .no|none=>.no)=_
 rw[jX];dsimp only;rw[if_pos h]
theorem xM{i:Nat}{a u B:Int}(h:C[i]?=some (MB (.int a)))(Y:0<u)(h1':u<1073741824)(M:0<B):aj bj (aj bO (ab i) (eK (.int u))) (eK (.int B)) C=.ok ⟨.leaf,.int (a / u % B)⟩ C:=aB (g:=bj) (aB (g:=bO) (az h) aO (fx Y h1')) aO (cH M)
theorem FM{f:F1}{Q:VK}(E:EnvOk K H O (List.replicate Γ.length []) H σ Γ)(g:f Γ=.ok ⟨.lst .leaf,.list X⟩ I)(q:∀p B H' u,Same H H'->H p=none->H' p=some (.lst B)->B.length=X.length->(∀(i:Nat) v d,B[i]?=some v->X[i]?=some d->Rep K (bZ H' u) v d)->Q (.ref p) H'):tE K W f σ H Q:=by
 refine⟨_,_,_,_,E,?_⟩
 rw[g];intro v H' G U A
 obtain⟨l,B,rfl,rfl,Y,M,P⟩:=Jn A.own;refine q l B H' _ A.same ?_ Y M P
 rcases A.new l (by simp)with y|y
 .rw[DV]at y;cases y
 .exact y
abbrev Mc:FB:=aG ag (aj bf (ab 3) (eK (.int 1)))
abbrev Lz:F1:=fT (ae (kK (ab 5) (aY .leaf (ae (ah (aY .leaf (ae (ab 4) (ae (ab 2) (ae (eU tH (eK (.int 1))) af)))) (aj bj (aj bO (ab 1) (eK (.int 64))) (eK (.int 3)))) af))) af)
abbrev La(K:Fg):L2.TS:=gV (tT K W0 Mc) (eC (tE K W0 Lz) (b8 5)) fw
theorem JJ(X:O.Nodup)(f:∀a∈O,H0 a≠none/\τ0 a=.no)(U:b<=60)(co:Co O τ0 H0 n b c m σ H)(l:∀Z i,Co O τ0 H0 n (b+1) c m Z i->D.nx Z i):La K D σ H:=by
 obtain⟨τ,t,wy,ax,a0,r,a2,rfl,v⟩:=co;obtain⟨xs,R,o,bs,w⟩:=iS (K:=K) v.J (v.out f).1 v.h0 v.h1 v.h2
 refine i6 X f v w (lH rfl) (λ_ i v w=>?_) l
 have q:=w.l0
 obtain⟨k,G,d⟩:∃k:Nat,c / 64 % 3=k/\k<3:=⟨(c / 64 % 3).toNat,by omega,by omega⟩
 obtain⟨y,h⟩:∃y:Int,([.int ax,.int m,.int (-1)]:List PyData)[k]?=some (.int y):=by
  match k,d with
  |0,_=>exact⟨_,rfl⟩
  |1,_=>exact⟨_,rfl⟩
  |2,_=>exact⟨_,rfl⟩
 have e:Lz (GV c m wy ax xs R bs)=.ok ⟨.lst .leaf,.list ((PySem.W.sortI (xs++[y])).map .int)⟩ (GV c m wy ax xs R bs):=by
  refine xJ (s:=.lst .leaf) ?_ (by simp;omega)
  rw[map_append];refine aE (A5 (s:=.leaf) (s':=.lst .leaf) (az rfl) (ma (ps:=[⟨.leaf,.int y⟩]) (aE (km (s:=.lst .leaf) (s2:=.leaf) (j:=k) (ma (ps:=[⟨.leaf,.int ax⟩,⟨.leaf,.int m⟩,⟨.leaf,.int (-1)⟩]) (aE (az rfl) (aE (az rfl) (aE rfl aq))) rfl rfl rfl) (xM rfl (by decide) (by decide) (by decide)) (by rw[G];exact m9 d) h rfl) aq) rfl rfl rfl) rfl rfl (by simp;omega)) aq
 refine FM (Γ:=GV c m wy ax xs R bs) (w.env X (v.out f).2) e λp B A u s C E S z=>l _ _ ⟨dQ τ p .rm,t,wy,ax,p,r,a2,rfl,v.J.new' (Nat.le_succ _) s C ⟨PySem.W.sortI (xs++[y]),by rw[E,vals_of (xs:=PySem.W.sortI (xs++[y])) (f:=V.int) (g:=PyData.int) (by simpa using S) z (λx v r=>by cases r;rfl)],?_⟩,v.ext C,v.kp.trans (Kp.same (τ:=τ) s) v.ex,kU,v.h1' C,by rw[dy (v.ne C (by rw[v.h2];simp))];exact v.h2,v.hx⟩
 rw[(PySem.W.sortI_perm _).length_eq];simp
 omega
theorem Ih:∀{X d:List (Option Int)},X.map oI=d.map oI->X=d
 |[],[],_=>rfl
 |[],_::_,h=>by cases h
 |_::_,[],h=>by cases h
 |a::X,a'::d,h=>by
  simp only[map_cons,List.cons.injEq]at h
  rw[Ih h.2];congr 1
  cases a<;>cases a'<;>first|rfl|(have:=h.1;cases this;rfl)|(have:=h.1;cases this)
theorem EZ:qz (.int 10) (.int 20)=some (.int (10 ^ 20)):=by
 rfl
theorem CL{a:Int}(h:X=[.int 2,.int 3]):∃i,bx false (.int a) (.tuple X)=some (.bool i):=by
 subst h;refine⟨[PyData.int 2,PyData.int 3].any λy=>PyData.eqv y (.int a),?_⟩
 unfold bx;dsimp only;rw[xw,show shaped (.tuple [.int 2,.int 3])=true by decide +kernel]
 rfl
theorem D8{fa:F1}{s:Sh}(h:fa Γ=.ok ⟨s,oI o⟩ Γ):∃z:Int,wD fa (eK (.int 0)) Γ=.ok ⟨.leaf,.int z⟩ Γ:=by
 unfold wD aZ;rw[h]
 cases o with
 |none=>exact⟨0,rfl⟩
 |some k=>
  by_cases G:k=0
  .subst G;exact⟨0,rfl⟩
  .refine⟨k,?_⟩
   show(if k=0 then _ else _)=_
   rw[if_neg G]
abbrev Mb:FB:=dw (aG ag (aj (bx false) (ab 3) (b4 (ae (eK (.int 2)) (ae (eK (.int 3)) af))))) (dw (aG ag (aj (bJ true) (ab 6) (eK .none))) (aG ag (aj iN (ab 4) (bp aK (ae (ab 6) af)))))
abbrev Ly:F1:=ah (aY .leaf (ae (eK .none) (ae (eK (.int 0)) (ae (aj aQ (wD (ah (ab 6) (ab 4)) (eK (.int 0))) (eK (.int 1))) (ae (eU tH (eK (.int 1))) (ae (ab 2) (ae (aj qz (eK (.int 10)) (eK (.int 20))) (ae (eK (.int 1)) (ae (eK (.int 2)) af))))))))) (aj bj (aj bO (ab 1) (eK (.int 64))) (eK (.int 8)))
abbrev K9(K:Fg):L2.TS:=gV (tT K W0 Mb) (eC (tE K W0 Ly) (gSub (bT 6) (bT 4) lg)) fw
theorem JI(X:O.Nodup)(f:∀a∈O,H0 a≠none/\τ0 a=.no)(co:Co O τ0 H0 n b c m σ H)(J:∀Z E,Co O τ0 H0 n (b+1) c m Z E->D.nx Z E):K9 K D σ H:=by
 obtain⟨τ,t,wy,ax,a0,r,a2,rfl,v⟩:=co;obtain⟨L,R,P,bs,w⟩:=iS (K:=K) v.J (v.out f).1 v.h0 v.h1 v.h2
 obtain⟨i,Y⟩:=CL (a:=wy) rfl
 have B:aG ag (aj (bx false) (ab 3) (b4 (ae (eK (.int 2)) (ae (eK (.int 3)) af)))) (GV c m wy ax L R bs)=.ok i (GV c m wy ax L R bs):=cD (s:=.leaf) (aB (g:=bx false) (az rfl) rfl Y)
 rcases w.hr with⟨rfl,rfl⟩|⟨a1,zs,rfl,h1,e1,rfl,l1⟩
 .refine i6 (bo:=i&&false) X f v w (gC B ?_) (λz=>?_) J
  .show(aG ag (aj (bJ true) (ab 6) (eK .none)) (GV c m wy ax L .none bs)).bind _=_
   rw[oX rfl];rfl
  .rw[Bool.and_false]at z;cases z
 .refine i6 (bo:=i&&(true&&decide (ax<(zs.length:Int)))) X f v w (gC B (gC (a:=true) (oX (d:=.list (zs.map oI)) rfl) (cD (s:=.leaf) (aB (g:=iN) (az rfl) (bX (g:=aK) (d:=.int (zs.length:Int)) (aE (az rfl) aq) (by simp)) lt_int)))) (λz E v w=>?_) J
  simp only[Bool.true_and,Bool.and_eq_true,decide_eq_true_eq]at z
  obtain⟨j,M⟩:∃j:Nat,ax=j:=⟨ax.toNat,(Int.toNat_of_nonneg v.hx).symm⟩
  have I:j<zs.length:=by omega
  obtain⟨q,C⟩:=D8 (fa:=ah (ab 6) (ab 4)) (Γ:=GV c m wy ax L (.list (zs.map oI)) bs) (s:=.leaf) (o:=zs[j]) (km (s:=.leaf) (s2:=.leaf) (j:=j) (az rfl) (az rfl) (by rw[M];exact m9 (by simpa using I)) (by rw[getElem?_map,Mq I];rfl) rfl)
  obtain⟨k,G,l⟩:∃k:Nat,c / 64 % 8=k/\k<8:=⟨(c / 64 % 8).toNat,by omega,by omega⟩
  obtain⟨o,y⟩:∃o:Option Int,([.none,.int 0,.int (q+1),.int (-1),.int m,.int (10 ^ 20),.int 1,.int 2]:List PyData)[k]?=some (oI o):=by
   match k,l with
   |0,_=>exact⟨none,rfl⟩
   |1,_=>exact⟨some _,rfl⟩
   |2,_=>exact⟨some _,rfl⟩
   |3,_=>exact⟨some _,rfl⟩
   |4,_=>exact⟨some _,rfl⟩
   |5,_=>exact⟨some _,rfl⟩
   |6,_=>exact⟨some _,rfl⟩
   |7,_=>exact⟨some _,rfl⟩
  have e:Ly (GV c m wy ax L (.list (zs.map oI)) bs)=.ok ⟨.leaf,oI o⟩ (GV c m wy ax L (.list (zs.map oI)) bs):=
   km (s:=.lst .leaf) (s2:=.leaf) (j:=k) (ma (ps:=[⟨.leaf,.none⟩,⟨.leaf,.int 0⟩,⟨.leaf,.int (q+1)⟩,⟨.leaf,.int (-1)⟩,⟨.leaf,.int m⟩,⟨.leaf,.int (10 ^ 20)⟩,⟨.leaf,.int 1⟩,⟨.leaf,.int 2⟩]) (aE aO (aE aO (aE (aB (g:=aQ) C aO rfl) (aE rfl (aE (az rfl) (aE (aB (g:=qz) aO aO EZ) (aE aO (aE aO aq)))))))) rfl rfl rfl) (xM rfl (by decide) (by decide) (by decide)) (by rw[G];exact m9 l) y rfl
  refine FK (Γ:=GV c m wy ax L (.list (zs.map oI)) bs) (v.out f).2 (w.env X (v.out f).2) e rfl λx A s N=>?_
  have h:=v.grow s (Mz _)
  have F:x=Fh o:=by cases o<;>(cases N;rfl)
  have u:E a1=some (.lst (zs.map Fh)):=by
   rcases w.hr with⟨z,_⟩|⟨_,zs',z,_,z2,z3,_⟩
   .cases z
   .cases z
    simp only[PyData.list.injEq]at z3
    rw[z2];congr 2
    exact(Ih z3).symm▸rfl
  refine⟨.ref a1,rfl,.int ax,rfl,a1,_,ax,j,rfl,rfl,s _ _ u,by rw[M,length_map];exact m9 I,J _ _ ⟨τ,t,wy,ax,a0,.ref a1,a2,rfl,h.put (by rw[h1];trivial) ?_⟩⟩
  rw[h1];exact⟨zs.set j o,by rw[eV,F,map_set],by rw[length_set];omega⟩
end
section
variable{K:Fg}{O:List Addr}{H H' H0:Hp}{τ τ0:Addr->Ty}{b b' n:Nat}{a0:Addr}{r:V}{a2 t p:Addr}{c m wy ax:Int}{σ:St}{D:eR}{T:Ty}
theorem zY{c:FB}{L:F1}{b:Bool}{p:PV}(h:c Γ=.ok b Γ)(Y:b=true->L Γ=.ok p Γ)(M:b=false->e Γ=.ok p Γ):kJ c L e Γ=.ok p Γ:=by
 unfold kJ;rw[h]
 cases b with
 |true=>exact Y rfl
 |false=>exact M rfl
theorem AZ{L:F1}{ds:List PyData}{s:Sh}(Z:L Γ=.ok ⟨.lst .leaf,.list ds⟩ Γ)(U:e Γ=.ok ⟨s,.int k⟩ Γ)(Y:cL k=true)(M:ds.length*k.toNat<=2000):wC L e Γ=.ok ⟨.lst .leaf,.list (List.replicate k.toNat ds).flatten⟩ Γ:=by
 have I:(2000:Nat)<=sizeLine:=by decide
 have h:ds.length*k.toNat<=sizeLine:=by omega
 unfold wC aZ;rw[Z];simp only[Out.bind,U,Y,decide_eq_true h,Bool.and_self,if_true]
theorem u5(k:Nat):(List.replicate k [PyData.int 0]).flatten=(List.replicate k (0:Int)).map .int:=by
 induction k with
 |zero=>rfl
 |succ k B=>rw[replicate_succ,flatten_cons,B,replicate_succ,map_cons];rfl
abbrev Ma:FB:=aG ag (aj bf (ab 3) (eK (.int 4)))
abbrev Kz:F1:=kJ (aG ag (aj (bJ true) (ab 6) (eK .none))) (eK .none) (wC (aY .leaf (ae (eK (.int 0)) af)) (ab 2))
abbrev ro4(K:Fg):L2.TS:=gV (tT K W0 Ma) (eC (tE K W0 Kz) (b8 6)) fw
theorem JH(X:O.Nodup)(f:∀a∈O,H0 a≠none/\τ0 a=.no)(E:0<=m)(Y:m<=(b:Int))(U:b<=1000)(co:Co O τ0 H0 n b c m σ H)(j:∀Z i,Co O τ0 H0 n (b+1) c m Z i->D.nx Z i):ro4 K D σ H:=by
 obtain⟨τ,t,wy,ax,a0,r,a2,rfl,v⟩:=co;obtain⟨xs,R,o,bs,w⟩:=iS (K:=K) v.J (v.out f).1 v.h0 v.h1 v.h2
 refine i6 X f v w (lH rfl) (λ_ i v w=>?_) j
 rcases w.hr with⟨rfl,rfl⟩|⟨a1,zs,rfl,h1,e1,rfl,l1⟩
 .have e:Kz (GV c m wy ax xs .none bs)=.ok ⟨.lst .leaf,.list ((List.replicate m.toNat (0:Int)).map .int)⟩ (GV c m wy ax xs .none bs):=by
   refine zY (b:=false) (oX (d:=.none) rfl) nofun λ_=>?_
   rw[<-u5];exact AZ (ds:=[.int 0]) (ma (ps:=[⟨.leaf,.int 0⟩]) (aE aO aq) rfl rfl rfl) (az rfl) (by unfold cL;simp only[Bool.and_eq_true,decide_eq_true_eq];omega) (by simp;omega)
  refine FM (Γ:=GV c m wy ax xs .none bs) (w.env X (v.out f).2) e λp B A u s C l S k=>j _ _ ⟨dQ τ p .rk,t,wy,ax,a0,.ref p,a2,rfl,v.J.new' (Nat.le_succ _) s C ⟨(List.replicate m.toNat (0:Int)).map some,by rw[l,vals_of (xs:=List.replicate m.toNat (0:Int)) (f:=V.int) (g:=PyData.int) (by simpa using S) k (λx v r=>by cases r;rfl),map_map];rfl,by simp;omega⟩,v.ext C,v.kp.trans (Kp.same (τ:=τ) s) v.ex,by rw[dy (v.ne C (by rw[v.h0];simp))];exact v.h0,.inr ⟨p,rfl,kU⟩,by rw[dy (v.ne C (by rw[v.h2];simp))];exact v.h2,v.hx⟩
 .have e:Kz (GV c m wy ax xs (.list (zs.map oI)) bs)=.ok ⟨.leaf,.none⟩ (GV c m wy ax xs (.list (zs.map oI)) bs):=zY (b:=true) (oX (d:=.list (zs.map oI)) rfl) (λ_=>aO) nofun
  refine FK (Γ:=GV c m wy ax xs (.list (zs.map oI)) bs) (v.out f).2 (w.env X (v.out f).2) e rfl λx A s q=>?_
  have h:=v.grow s (Nat.le_succ b)
  cases q;exact j _ _ ⟨τ,t,wy,ax,a0,.non,a2,rfl,h.J,h.ex,h.kp,h.h0,.inl rfl,h.h2,h.hx⟩
abbrev L9:FB:=dw (aG ag (aj bf (ab 3) (eK (.int 5)))) (aG ag (aj (bJ true) (ab 6) (eK .none)))
abbrev K8(K:Fg):L2.TS:=gV (tT K W0 L9) (eA (Bc K "list" g9 (bT 6) (bz (tC .non) d6))) fw
theorem JG(X:O.Nodup)(f:∀a∈O,H0 a≠none/\τ0 a=.no)(U:b<=1000)(co:Co O τ0 H0 n b c m σ H)(j:∀Z d,Co O τ0 H0 n (b+1) c m Z d->D.nx Z d):K8 K D σ H:=by
 obtain⟨τ,t,wy,ax,a0,r,a2,rfl,v⟩:=co;obtain⟨L,R,o,bs,w⟩:=iS (K:=K) v.J (v.out f).1 v.h0 v.h1 v.h2
 refine i6 X f v w (gC (lH rfl) (oX rfl)) (λz d v w=>?_) j
 rcases w.hr with⟨rfl,rfl⟩|⟨a1,zs,rfl,h1,e1,rfl,l1⟩
 .simp[bW]at z
 .have I:(1000:Nat)<sizeLine:=by decide
  refine⟨.ref a1,rfl,.inl ⟨rfl,_,.of e1⟩,a1,_,.non,rfl,rfl,e1,by rw[length_map];omega,j _ _ ⟨τ,t,wy,ax,a0,.ref a1,a2,rfl,v.put (by rw[h1];trivial) ?_⟩⟩
  rw[h1];exact⟨zs++[none],by rw[eV,map_append];rfl,by simp;omega⟩
abbrev L7:FB:=dw (aG ag (aj bf (ab 3) (eK (.int 7)))) (aG ag (aj gO (bp aK (ae (ab 7) af)) (eK (.int 1))))
abbrev K6(K:Fg):L2.TS:=gV (tT K W0 L7) (eA (Bb K "list" og (bT 7))) fw
theorem JE(X:O.Nodup)(f:∀a∈O,H0 a≠none/\τ0 a=.no)(co:Co O τ0 H0 n b c m σ H)(j:∀Z d,Co O τ0 H0 n (b+1) c m Z d->D.nx Z d):K6 K D σ H:=by
 obtain⟨τ,t,wy,ax,a0,r,a2,rfl,v⟩:=co;obtain⟨L,R,o,bs,w⟩:=iS (K:=K) v.J (v.out f).1 v.h0 v.h1 v.h2
 refine i6 X f v w (gC (lH rfl) (wI rfl)) (λ_ d v w=>?_) j
 have l:=w.l2
 refine⟨.ref a2,rfl,.inl ⟨rfl,_,.of w.e2⟩,a2,_,rfl,rfl,w.e2,j _ _ ⟨τ,t,wy,ax,a0,r,a2,rfl,v.put (by rw[v.h2];exact Mz _) ?_⟩⟩
 rw[v.h2];exact⟨o.reverse,by rw[eV,List.map_reverse],by simp;omega,λu E=>w.q2 u (List.mem_reverse.mp E)⟩
abbrev L8:FB:=dw (aG ag (aj bf (ab 3) (eK (.int 6)))) (aG ag (aj gO (bp aK (ae (ab 7) af)) (eK (.int 0))))
abbrev KA(k:Int):FB:=aG ag (aj bf (aj bj (aj bO (ab 1) (eK (.int 64))) (eK (.int 3))) (eK (.int k)))
abbrev A9(K:Fg):TE:=m8 (xl K) (bT 7) (tC (.int 0))
abbrev K7(K:Fg):L2.TS:=gV (tT K W0 L8) (gV (tT K W0 (KA 0)) (eA (Bb K "list" EN (bT 7))) (gV (tT K W0 (KA 1)) (eA (Bc K "list" g9 (bT 7) (bz (A9 K) d6)))
 (eC (uN (bz (L2.tSl (EM K) (m8 (xl K) (A9 K) (tC (.int 0))) (uP (tC (.int 1))) mi) (bz (m8 (xl K) (A9 K) (tC (.int 1))) (bz (m8 (xl K) (A9 K) (tC (.int 2))) d6)))) (gSub (bT 7) (tC (.int 0)) lg)))) fw
theorem zF(L:List Int)(G l:Option Int):∃R:List Int,kQ (L.map V.int) G l=R.map V.int/\R.length<=L.length:=by
 have:=Jr (L.map V.int) G l
 refine⟨(L.drop (HT.sIx L.length 0 G)).take (HT.sIx L.length L.length l-HT.sIx L.length 0 G),?_,?_⟩
 .unfold kQ
  rw[length_map,List.map_take,List.map_drop]
 .rw[length_take,length_drop]
  omega
theorem JF(X:O.Nodup)(f:∀a∈O,H0 a≠none/\τ0 a=.no)(hb:b<=1000)(co:Co O τ0 H0 n b c m σ H)(j:∀σ' H1,Co O τ0 H0 n (b+1) c m σ' H1->D.nx σ' H1):K7 K D σ H:=by
 have big:(1000:Nat)<sizeLine:=by decide
 obtain⟨τ,t,wy,ax,a0,r,a2,rfl,v⟩:=co;obtain⟨L,R,ts,bs,w⟩:=iS (K:=K) v.J (v.out f).1 v.h0 v.h1 v.h2
 refine i6 X f v w (gC (lH rfl) (wI rfl)) (λz H1 v w=>?_) j
 have l2:=w.l2
 have lb:=w.lb
 have hpos:0<ts.length:=by
  simp only[Bool.and_eq_true,decide_eq_true_eq]at z
  omega
 have fA:∀k:Int,KA k (GV c m wy ax L R bs)=.ok (c / 64 % 3==k) (GV c m wy ax L R bs):=λk=>cD (aB (g:=bf) (xM rfl (by decide) (by decide) (by decide)) aO eq_int)
 refine HP (Γ:=GV c m wy ax L R bs) (w.env X (v.out f).2) (fA 0) λA s2=>?_
 have v2:=v.grow s2 (Mz _)
 have w2:=w.grow s2
 cases c / 64 % 3==0 with
 |true=>
  refine iK ⟨.ref a2,rfl,.inl ⟨rfl,_,.of w2.e2⟩,a2,_,V.ref ts[ts.length-1],rfl,rfl,w2.e2,?_,j _ _ ⟨τ,t,wy,ax,a0,r,a2,rfl,v2.put (by rw[v.h2];exact Mz _) ?_⟩⟩
  .rw[length_map,getElem?_map,Mq (by omega)];rfl
  .rw[v.h2]
   exact⟨ts.dropLast,by rw[eV,List.map_dropLast],by simp;omega,λu E=>w.q2 u (List.dropLast_subset ts E)⟩
 |false=>
  refine iL (HP (Γ:=GV c m wy ax L R bs) (w2.env X (v2.out f).2) (fA 1) λP s3=>?_)
  have v3:=v2.grow s3 (Mz _)
  have w3:=w2.grow s3
  have hat:fy (ts.map V.ref) 0=some (.ref ts[0]):=by
   unfold fy;rw[show fQ (ts.map V.ref).length 0=some 0 from m9 (k:=0) (by simpa using hpos)]
   simp[hpos]
  have m0:ts[0]∈ts:=getElem_mem hpos
  cases c / 64 % 3==1 with
  |true=>
   refine iK ⟨.ref a2,rfl,.inl ⟨rfl,_,.of w3.e2⟩,.ref a2,rfl,.inl ⟨a2,_,0,.ref ts[0],rfl,rfl,.of w3.e2,hat,a2,_,.ref ts[0],rfl,rfl,w3.e2,by rw[length_map];omega,j _ _ ⟨τ,t,wy,ax,a0,r,a2,rfl,v3.put (by rw[v.h2];exact Mz _) ?_⟩⟩⟩
   rw[v.h2];exact⟨ts++[ts[0]],by rw[eV,map_append];rfl,by simp;omega,λu E=>by
    rcases Mo E with y|y
    .exact w.q2 u y
    .rw[List.mem_singleton.mp y];exact w.q2 _ m0⟩
  |false=>
   obtain⟨k,G,ek⟩:=w.q2 _ m0;have at0:=v3.J ts[0]
   rw[ek]at at0;obtain⟨b0,J,b2,N,h0,Y,M⟩:=at0;have q0:=v3.J b0
   rw[h0]at q0;obtain⟨ys,ey,ly⟩:=q0;obtain⟨cs,ec,lc⟩:=zF ys (some 1) none;have ix:∀{d:Hp}{Q:VK}{i:Int}{x:V},Same P d->fy [V.ref b0,J,.ref b2] i=some x->Q x d->m8 (xl K) (A9 K) (tC (.int i)) (SV t c m wy ax a0 r a2) d Q:=λ{d Q i x} s F q=>⟨.ref a2,rfl,.inl ⟨a2,_,0,.ref ts[0],rfl,rfl,.of (s _ _ w3.e2),hat,.inr (.inl ⟨ts[0],_,i,x,rfl,rfl,.of (s _ _ N),F,q⟩)⟩⟩
   refine iL (ix (Same.refl _) rfl ⟨1,rfl,b0,_,rfl,.of ey,λl S=>?_⟩)
   rw[ec];have B:Same P (upd P l (.lst (cs.map V.int))):=λx o e=>by rw[eT (λz=>by rw[z,S]at e;cases e)];exact e
   refine ix B rfl (ix B rfl ⟨by show(3:Nat)<=sizeLine;omega,λp C=>?_⟩)
   have J4:=v3.J.new (T:=.rm) (o:=.lst (cs.map V.int)) (Mz _) S ⟨cs,by rw[eV],by omega⟩
   have nl:∀{a:Addr},τ a≠.no->a≠l:=λZ=>v3.ne S Z
   have np:∀{a:Addr},τ a≠.no->a≠p:=λ{a} Z z=>v3.J.inH Z (Classical.byContradiction λy=>by
    obtain⟨o,eo⟩:=Option.ne_none_iff_exists'.mp y
    have:=B _ _ eo
    rw[z,C]at this
    cases this)
   have lp:l≠p:=λz=>by rw[<-z,eV]at C;cases C
   have tk:∀{a:Addr}{U:Ty},τ a=U->U≠.no->dQ (dQ τ l .rm) p (.tp k) a=U:=λ{a U} e hU=>by rw[dy (np (by rw[e];exact hU)),dy (nl (by rw[e];exact hU))];exact e
   have J5:=J4.new (T:=.tp k) (o:=.tup [.ref l,J,.ref b2]) (b':=b) (Mz _) C ⟨l,J,b2,by rw[eV],by rw[dy lp,kU],Y.imp id (λ⟨I,e,h⟩=>⟨I,e,tk h (by simp)⟩),tk M (by simp)⟩
   have s5:Same (upd P l (.lst (cs.map V.int))) (upd (upd P l (.lst (cs.map V.int))) p (.tup [.ref l,J,.ref b2])):=λx o e=>by rw[eT (λz=>by rw[z,C]at e;cases e)];exact e
   have v5:Iv O τ0 H0 n b (dQ (dQ τ l .rm) p (.tp k)) ax a0 r a2 (upd (upd P l (.lst (cs.map V.int))) p (.tup [.ref l,J,.ref b2])):=⟨J5,(v3.ext S).trans (Ex.new J4 C) (λx F=>(v3.kp.trans (Kp.same (τ:=τ) B) v3.ex).2 x F),v3.kp.trans (Kp.same (τ:=τ) (B.trans s5)) v3.ex,tk v3.h0 (by simp),v3.h1.imp id (λ⟨I,e,h⟩=>⟨I,e,tk h (by simp)⟩),tk v3.h2 (by simp),v3.hx⟩
   refine⟨.ref a2,rfl,a2,_,0,0,rfl,rfl,s5 _ _ (B _ _ w3.e2),m9 (k:=0) (by simpa using hpos),j _ _ ⟨_,t,wy,ax,a0,r,a2,rfl,v5.put (by rw[v5.h2];exact Mz _) ?_⟩⟩
   rw[v5.h2];refine⟨ts.set 0 p,by rw[eV,map_set],by simp;omega,λu E=>?_⟩
   rcases List.mem_or_eq_of_mem_set E with y|y
   .obtain⟨k',h1',h2'⟩:=w.q2 u y
    exact⟨k',h1',tk h2' (by simp)⟩
   .rw[y];exact⟨k,G,kU⟩
end
abbrev HY(c m:Int):Ev:=[none,MB (.int c),MB (.int m),none,none,none,none,none]
abbrev AF(P:PyData)(c m:Int):Ev:=[MB P,MB (.int c),MB (.int m),none]
def nM:Sp:=λB H Q _=>∃(t:Addr)(c m:Int)(τ:Addr->Ty)(n b:Nat),B=[.ref t,.int c,.int m]/\0<m/\m<=b/\b<=50/\Jt H τ b/\τ t=.tp n/\∀N S F,Jt F S (b+7)->Ex τ S H->Kp n τ H F->S N=.tp n->Q (.ref N) F
abbrev fW:List Str:=["told","cell","many","way","at","rooms","ranks","parts"]
abbrev lX:List Str:=["len","sorted"]
def xQ(K:Fg):L2.TS:=
 cO (eC (bT 0) (zj K 3 (jY (b8 5) (jY (b8 6) (jY (b8 7) zk)))))
 (cO (eC (tE K W0 (aj bj (ab 1) (eK (.int 8)))) (b8 3))
 (cO (eC (tE K W0 (aj bj (aj bO (ab 1) (eK (.int 8))) (ab 2))) (b8 4))
 (cO (Lb K) (cO (La K) (cO (K9 K) (cO (ro4 K) (cO (K8 K) (cO (K7 K) (cO (K6 K) (pS (uN (bz (bT 5) (bz (bT 6) (bz (bT 7) d6))))))))))))))
theorem Bt{H:Hp}{Q:VK}{E:XK}{X:St->Hp->Prop}(h:nM B H Q E):xQ K {nx:=X,rt:=Q} (L2.start fW B) H:=by
 have I:(1000:Nat)<sizeLine:=by decide
 obtain⟨t,c,m,τ,n,b,rfl,hm,hmb,U,J,A,q⟩:=h;show xQ K {nx:=X,rt:=Q} [some (.ref t),some (.int c),some (.int m),none,none,none,none,none] H
 have at':=J t
 rw[A]at at';obtain⟨Z,r,y,e,h0,Y,M⟩:=at'
 refine⟨.ref t,rfl,t,_,rfl,.of e,rfl,.ref Z,_,rfl,r,_,rfl,.ref y,_,rfl,rfl,?_⟩
 show cO _ _ _ [some (.ref t),some (.int c),some (.int m),none,none,some (.ref Z),some r,some (.ref y)] H
 have env:∀(F:Hp)(l:Option V),EnvOk K F [] (List.replicate 8 []) F [some (.ref t),some (.int c),some (.int m),l,none,some (.ref Z),some r,some (.ref y)] (HY c m):=λF l=>qG (Γ:=(HY c m)) nodup_nil (λa z=>nomatch z) rfl λi p C=>by
  match i,C with
  |0,C=>cases C
  |1,C=>cases C;exact⟨rfl,_,rfl,.int _⟩
  |2,C=>cases C;exact⟨rfl,_,rfl,.int _⟩
  |3,C=>cases C
  |4,C=>cases C
  |5,C=>cases C
  |6,C=>cases C
  |7,C=>cases C
  |i+8,C=>cases C
 refine DM (Γ:=HY c m) (z:=c % 8) (env H none) (aB (g:=bj) (az rfl) aO (cH (by decide))) λH1 s1=>?_
 show cO _ _ _ [some (.ref t),some (.int c),some (.int m),some (.int (c % 8)),none,some (.ref Z),some r,some (.ref y)] H1
 refine DM (Γ:=HY c m) (z:=c / 8 % m) (env H1 _) (aB (g:=bj) (aB (g:=bO) (az rfl) aO (fx (by decide) (by decide))) (az rfl) (cH hm)) λH2 G=>?_
 have s:=s1.trans G
 have f:∀a∈([]:List Addr),H a≠none/\τ a=.no:=λa z=>nomatch z
 have co:Co [] τ H n b c m (SV t c m (c % 8) (c / 8 % m) Z r y) H2:=⟨τ,t,_,_,Z,r,y,rfl,J.grow s (Mz _),Ex.refl,Kp.same s,h0,Y,M,Int.emod_nonneg _ (by omega)⟩
 refine JK nodup_nil f (by omega) co λk P co=>?_
 refine JJ nodup_nil f (by omega) co λσ4 d co=>?_
 refine JI nodup_nil f co λσ5 u co=>?_
 refine JH nodup_nil f (by omega) (by omega) (by omega) co λσ6 H6 co=>?_
 refine JG nodup_nil f (by omega) co λR S co=>?_
 refine JF nodup_nil f (by omega) co λσ8 H8 co=>?_
 refine JE nodup_nil f co λσ9 H9 co=>?_
 obtain⟨L,t9,wy,j,w,r9,N,rfl,v⟩:=co;refine⟨.ref w,rfl,r9,rfl,.ref N,rfl,by show(3:Nat)<=sizeLine;omega,λp C=>?_⟩
 have sp:Same H9 (upd H9 p (.tup [.ref w,r9,.ref N])):=λx o e=>by rw[eT (λz=>by rw[z,C]at e;cases e)];exact e
 refine q p (dQ L p (.tp n)) _ (v.J.new (Mz _) C ⟨w,r9,N,by rw[eV],?_,v.h1' C,?_⟩) (v.ext C) (v.kp.trans (Kp.same (τ:=L) sp) v.ex) kU
 .rw[dy (v.ne C (by rw[v.h0];simp))];exact v.h0
 .rw[dy (v.ne C (by rw[v.h2];simp))];exact v.h2
theorem Eb{H:Hp}{C:Addr->Ty}{b n:Nat}{t:Addr}(J:Jt H C b)(A:C t=.tp n):∃Z r y L R o bs,H t=some (.tup [.ref Z,r,.ref y])/\C y=.pl n/\Vw K [] H C b n Z r y L R o bs/\Rep K (bZ H []) (.ref t) (.tuple [.list (L.map .int),R,.list bs]):=by
 have at':=J t
 rw[A]at at';obtain⟨Z,r,y,e,a,Y,M⟩:=at'
 obtain⟨L,R,o,bs,w⟩:=iS (K:=K) (O:=[]) J (λ_ _ z=>nomatch z) a Y M
 refine⟨Z,r,y,L,R,o,bs,e,M,w,.tup (.of (ur e nofun)) rfl λi v d I u=>?_⟩
 match i,I,u with
 |0,I,u=>cases I;cases u;exact w.r0
 |1,I,u=>cases I;cases u;exact w.rR
 |2,I,u=>cases I;cases u;exact w.r2
 |i+3,I,u=>cases I
def spSw(k:Nat):Sp:=λB H Q _=>∃(t:Addr)(c m:Int)(τ:Addr->Ty)(n b:Nat),B=[.ref t,.int c,.int m]/\0<m/\m<=b/\b<=50/\n<k/\Jt H τ b/\τ t=.tp n/\∀N S F,Jt F S (b+7)->Ex τ S H->Kp n τ H F->S N=.tp n->Q (.ref N) F
abbrev m6:List Str:=["told","cell","many","at"]
abbrev ug:List Str:=["len","_law_spoilt_within","_law_spoilt"]
abbrev L6:FB:=fF (aG ag (aj bf (aj bj (ab 1) (eK (.int 2))) (eK (.int 0)))) (aG ag (aj bf (bp aK (ae (ah (ab 0) (eK (.int 2))) af)) (eK (.int 0))))
abbrev L3:F1:=aj bj (aj bO (ab 1) (eK (.int 2))) (bp aK (ae (ah (ab 0) (eK (.int 2))) af))
def Hq(K:Fg)(k:Nat):L2.TS:=
 cO (gV (tT K W0 L6) (pS (eB nM [] L2.E0 (bz (bT 0) (bz (tE K W0 (aj bO (ab 1) (eK (.int 2)))) (bz (bT 2) d6))))) fw)
 (cO (eC (tE K W0 L3) (b8 3))
 (cO (eC (eB (spSw k) [] L2.E0 (bz (m8 (xl K) (pT K 2) (bT 3)) (bz (tE K W0 (aj bO (ab 1) (eK (.int 4)))) (bz (bT 2) d6)))) (gSub (pT K 2) (bT 3) lg))
 (pS (bT 0))))
theorem EA{k:Nat}{H:Hp}{Q:VK}{E:XK}{X:St->Hp->Prop}(h:spSw (k+1) B H Q E):Hq K k {nx:=X,rt:=Q} (L2.start m6 B) H:=by
 obtain⟨t,c,m,τ,n,b,rfl,hm,hmb,U,hnk,J,A,q⟩:=h;show Hq K k {nx:=X,rt:=Q} [some (.ref t),some (.int c),some (.int m),none] H
 obtain⟨Z,r,a2,L,R,o,bs,e,M,w,rt⟩:=Eb (K:=K) J A
 have env:∀{F:Hp}{x3:Option V},Same H F->EnvOk K F [] (List.replicate 4 []) F [some (.ref t),some (.int c),some (.int m),x3] (AF (.tuple [.list (L.map .int),R,.list bs]) c m):=λ{F x3} s=>qG (Γ:=(AF (.tuple [.list (L.map .int),R,.list bs]) c m)) nodup_nil (λa z=>nomatch z) rfl λi p C=>by
  match i,C with
  |0,C=>cases C;exact⟨rfl,_,rfl,rt.mono (me s λa z=>nomatch z)⟩
  |1,C=>cases C;exact⟨rfl,_,rfl,.int _⟩
  |2,C=>cases C;exact⟨rfl,_,rfl,.int _⟩
  |3,C=>cases C
  |i+4,C=>cases C
 have hlen:bp aK (ae (ah (ab 0) (eK (.int 2))) af) (AF (.tuple [.list (L.map .int),R,.list bs]) c m)=.ok ⟨.leaf,.int (bs.length:Int)⟩ (AF (.tuple [.list (L.map .int),R,.list bs]) c m):=bX (g:=aK) (aE (js (s:=.leaf) (s2:=.leaf) (j:=2) (az rfl) aO rfl rfl rfl) aq) rfl
 refine HP (Γ:=AF (.tuple [.list (L.map .int),R,.list bs]) c m) (env (Same.refl _)) (iP (cD (aB (g:=bf) (aB (g:=bj) (az rfl) aO (cH (by decide))) aO eq_int)) (cD (aB (g:=bf) hlen aO eq_int))) λf s1=>?_
 cases hg:(c % 2==0||(bs.length:Int)==0)with
 |true=>
  refine iK ⟨.ref t,rfl,DM (Γ:=AF (.tuple [.list (L.map .int),R,.list bs]) c m) (z:=c / 2) (env s1) (aB (g:=bO) (az rfl) aO (fx (by decide) (by decide))) λH2 s2=>?_⟩
  have s:=s1.trans s2
  exact⟨.int m,rfl,t,c / 2,m,τ,n,b,rfl,hm,hmb,U,J.grow s (Mz _),A,λt' S F J' ex kp ht'=>q t' S F J' ⟨ex.1,λx hx=>(ex.2 x hx).imp id λz=>s.free z⟩ ((Kp.same s).trans kp Ex.refl) ht'⟩
 |false=>
  have G:0<bs.length:=by
   simp only[Bool.or_eq_false_iff,beq_eq_false_iff_ne]at hg
   omega
  have lb:=w.lb
  refine iL (DM (Γ:=AF (.tuple [.list (L.map .int),R,.list bs]) c m) (z:=c / 2 % (bs.length:Int)) (env s1) (aB (g:=bj) (aB (g:=bO) (az rfl) aO (fx (by decide) (by decide))) hlen (cH (by omega))) λH2 s2=>?_)
  obtain⟨j,hj,I⟩:∃j:Nat,c / 2 % (bs.length:Int)=j/\j<o.length:=⟨(c / 2 % (bs.length:Int)).toNat,(Int.toNat_of_nonneg (Int.emod_nonneg _ (by omega))).symm,by have:=Int.emod_lt_of_pos (c / 2) (show(0:Int)<bs.length by omega);omega⟩
  rw[hj];show cO _ _ _ [some (.ref t),some (.int c),some (.int m),some (.int (j:Int))] H2
  have s:=s1.trans s2
  have J2:=J.grow s (Mz _)
  have w2:=w.grow s
  refine vg rfl (s _ _ e) rfl ⟨.int j,rfl,.inl ⟨a2,_,j,.ref o[j],rfl,rfl,.of w2.e2,?_,?_⟩⟩
  .unfold fy
   rw[m9 (by simpa using I)]
   simp[I]
  obtain⟨k',d,ek'⟩:=w.q2 _ (getElem_mem I);refine DM (Γ:=AF (.tuple [.list (L.map .int),R,.list bs]) c m) (z:=c / 4) (env s) (aB (g:=bO) (az rfl) aO (fx (by decide) (by decide))) λP Y=>?_
  have N:=s.trans Y
  refine⟨.int m,rfl,o[j],c / 4,m,τ,k',b,rfl,hm,hmb,U,by omega,J.grow N (Mz _),ek',λt' S H4 J4 ex4 kp4 ht4=>?_⟩
  have e4:H4 t=some (.tup [.ref Z,r,.ref a2]):=kp4.1 t (by rw[A];exact id) _ (N _ _ e)
  have e24:H4 a2=some (.lst (o.map V.ref)):=kp4.1 a2 (by rw[M];exact λz=>absurd (show n<=k' from z) (by omega)) _ (N _ _ w.e2)
  have h24:S a2=.pl n:=by rw[ex4.1 a2 (by rw[M];simp)];exact M
  have ht4':S t=.tp n:=by rw[ex4.1 t (by rw[A];simp)];exact A
  have ex:Ex τ S H:=⟨ex4.1,λx hx=>(ex4.2 x hx).imp id λz=>N.free z⟩
  refine vg rfl e4 rfl ⟨.int j,rfl,a2,_,j,j,rfl,rfl,e24,by rw[length_map];exact m9 I,.ref t,rfl,q t S _ (J4.put (Mz _) ?_) ex ((((Kp.same N).trans kp4 Ex.refl).mono (Nat.le_of_lt d)).trans (Kp.upd (τ:=S) (by rw[h24];exact Mz _)) ex) ht4'⟩
  rw[h24];have l:=w.l2
  refine⟨o.set j t',by rw[eV,map_set],by rw[length_set];omega,λu hu=>?_⟩
  rcases List.mem_or_eq_of_mem_set hu with y|y
  .obtain⟨k2,z1,v⟩:=w.q2 u y
   exact⟨k2,z1,by rw[ex4.1 u (by rw[v];simp)];exact v⟩
  .rw[y];exact⟨k',d,ht4⟩
section
variable(P:Program)(w:World)(K:Fg)(mg:Str->Option Value)(base:Heap)(j n:Nat)
def pE:Prop:=∃(f:Addr)(fd:FuncData)(ps:List Str),eQ P w K mg base lZ j f fd ps nM/\mg "_law_spoilt"=some (.ref f)/\PySem.W.keepIn K (.ref f)=true/\Binds K fd ps []
def SwOk:Prop:=∃(f:Addr)(fd:FuncData)(ps:List Str),eQ P w K mg base lZ j f fd ps (spSw n)/\mg "_law_spoilt_within"=some (.ref f)/\PySem.W.keepIn K (.ref f)=true/\Binds K fd ps []
end
section
variable{P:Program}{w:World}{K:Fg}{mg:Str->Option Value}{base:Heap}{f:Addr}{fd:FuncData}{st:Stmt}{j1 j2 j3 j k n:Nat}{vs cs ls lo gs:List Nat}
theorem Cr(F:Fun K "_law_spoilt" "_law_spoilt" st f fd)(c:mg "_law_spoilt"=some (.ref f))(b:Binds K fd ["told","cell","many"] [])(sc:cm fW ["told","cell","many"] (aL st))(o:kl fW lX vs cs ls lo gs (aL st)=true)(G:tx fW lX=true)(r:mg "len"=none)(g:mg "sorted"=none)(i:∀(X:Cx),Cp X fW lX vs cs ls lo gs->Rm X->X.mg "len"=none->X.mg "sorted"=none->PSs X (bR st) (xQ X.K)):pE P w K mg base (k+1):=by
 refine⟨f,fd,["told","cell","many"],F.ok sc (λvs H Q E h=>by obtain⟨_,_,_,_,_,_,e,_⟩:=h;rw[e];rfl) (λa A L s H vs Q E m h=>?_),c,F.kp,b⟩
 exact⟨_,i _ (Cp.fn o G) m.units r g,Bt h⟩
theorem Fo(F:Fun K "_law_spoilt_within" "_law_spoilt_within" st f fd)(q:mg "_law_spoilt_within"=some (.ref f))(b:Binds K fd ["told","cell","many"] [])(sc:cm m6 ["told","cell","many"] (aL st))(o:kl m6 ug vs cs ls lo gs (aL st)=true)(G:tx m6 ug=true)(r:mg "len"=none)(J:pE P w K mg base j1)(Y:decide (j1<=k)=true)(i:∀(X:Cx)(n:Nat),Cp X m6 ug vs cs ls lo gs->Rm X->X.mg "len"=none->CaF X "_law_spoilt_within" (spSw n)->CaF X "_law_spoilt" nM->PSs X (bR st) (Hq X.K n)):∀n,SwOk P w K mg base (k+n) n:=by
 intro n;induction n with
 |zero=>
  exact⟨f,fd,["told","cell","many"],⟨λvs H Q E h=>by obtain⟨_,_,_,_,_,_,e,_⟩:=h;rw[e];rfl,λA L s H args v vs Q E _ _ _ _ h=>by
   obtain⟨_,_,_,_,_,_,_,_,_,_,y,_⟩:=h;exact absurd y (Nat.not_lt_zero _)⟩,q,F.kp,b⟩
 |succ n B=>
  obtain⟨p,l,S,d,I,u,C⟩:=B;obtain⟨t,U,g,F1,c,N,M⟩:=J;refine⟨f,fd,["told","cell","many"],F.ok sc (λvs H Q E h=>by obtain⟨_,_,_,_,_,_,e,_⟩:=h;rw[e];rfl) (λa A L s H vs Q E m h=>?_),q,F.kp,b⟩
  exact⟨_,i _ n (Cp.fn o G) m.units r ⟨k+n,p,l,S,d,m,I,u,C⟩ ⟨j1,t,U,g,F1,m.mono (Nat.le_trans (of_decide_eq_true Y) (Nat.le_add_right k n)),c,N,M⟩,EA h⟩
end
theorem KE{L H:Hp}{O:List Addr}{t:List (List Addr)}{M:St}{f:F1}{Q:VK}{z:Int}(E:EnvOk K L O t H M C)(g:f C=.ok ⟨.leaf,.int z⟩ I)(q:∀F,Same H F->Q (.int z) F):tE K W f M H Q:=by
 refine⟨_,_,_,_,E,?_⟩
 rw[g];intro v F G U A
 cases A.own with
 |leaf r=>
  cases r;exact q F A.same
theorem PT.mono{b u n:Nat}{P:PyData}(h:PT b n P)(U:b<=u):PT u n P:=by
 induction h with
 |mk Y M a m _ B=>exact .mk (by omega) (M.imp id λ⟨X,e,l⟩=>⟨X,e,by omega⟩) (by omega) m B
open Classical in
def sN(i j a b:Nat)(ft m d:F1)(g:FS):FS:=λC=>if(C[i]?=some none/\C[j]?=some none)/\∃(w:Wd)(s:Sn)(k:Nat),w.Ok/\w.n<=20/\0<w.n/\s.ok/\s.size<=200/\s.dep<=24/\C[a]?=some (MB w.enc)/\C[b]?=some (MB s.enc)/\k<=2/\ft C=.ok ⟨.leaf,.int (k:Int)⟩ C /\
  (∀q:Nat,q<k->(∃c,m (C.set j (MB (.int (q:Int))))=.ok ⟨.leaf,.int c⟩ (C.set j (MB (.int (q:Int)))))/\d (C.set j (MB (.int (q:Int))))=.ok ⟨.leaf,.int (w.n:Int)⟩ (C.set j (MB (.int (q:Int))))) /\
  ∀P,PT 40 24 P->g (C.set i (MB P))=.rt ⟨.leaf,.bool true⟩then .rt ⟨.leaf,.bool true⟩else .no
def JD(K:Fg)(W:XW)(i j a b:Nat)(ft m d:F1)(g:FS):L2.TS:=
 cO (eC (eB (spPpr K) [] L2.E0 (bz (bT a) (bz (bT b) d6))) (b8 i)) (cO (xS (wb (bz (tE K W ft) d6)) (b8 j) (eC (eB (spSw 25) [] L2.E0 (bz (bT i) (bz (tE K W m) (bz (tE K W d) d6)))) (b8 i))) (tS K W g))
section
variable{K:Fg}{W:XW}{σ:St}{H:Hp}{D:eR}{i j a b:Nat}{ft fe fl:F1}{g:FS}
theorem Bu(l:i≠j)(h:tS K W (sN i j a b ft fe fl g) D σ H):JD K W i j a b ft fe fl g D σ H:=by
 obtain⟨L,O,Fs,C,E,h⟩:=h;have h':cF K W L O D (sN i j a b ft fe fl g C):=h
 unfold sN at h'
 split at h'
 case isFalse=>exact h'.elim
 case isTrue z=>
 obtain⟨⟨ei,ej⟩,w,s,k,ok,hn,hn0,X,U,hd,ea,eb,hk,et,ee,eg⟩:=z;have lti:i<σ.length:=by rw[E.len1];exact(Mv ei).1
 have ltj:j<σ.length:=by rw[E.len1];exact(Mv ej).1
 obtain⟨_,va,Fa,I,a2,a3⟩:=E.slot a _ ea;obtain⟨_,vb,Fb,b1,b2,b3⟩:=E.slot b _ eb;have m:Rep K (bZ H (O++Fs.flatten)) va w.enc:=by cases a3 with|leaf r=>exact r
 have rb:Rep K (bZ H (O++Fs.flatten)) vb s.enc:=by cases b3 with|leaf r=>exact r
 refine⟨va,I,vb,b1,w,s,O++Fs.flatten,ok,X,U,hd,E.nd,E.inH,⟨rfl,λk v d u B=>?_⟩,λv f G P hP n ndG frG po=>?_⟩
 .match k,u,B with
  |0,u,B=>cases u;cases B;exact m
  |1,u,B=>cases u;cases B;exact rb
  |k+2,u,B=>cases u
 obtain⟨τ,t,rfl,A,J,no,yes⟩:=E8 (τ0:=λ_=>.no) (b:=20) 24 hd hP po ndG (λ_ _=>rfl) (λ_=>trivial) hn (by decide)
 have kept:∀{F:Hp},Kp 24 τ f F->Same H F:=λ{F} kp x o e=>kp.1 x (by
  rw[no x λz=>by have:=frG x z;rw[e]at this;cases this]
  exact id) o (n x o e)
 have E1:EnvOk K L O Fs f (σ.set i (some (.ref t))) C:=GN (E.grow n) ei
 refine KE E1 et λH2 s2=>⟨(k:Int),rfl,by omega,by omega,?_⟩
 rw[Int.toNat_natCast];have B:Kp 24 τ f H2:=Kp.same s2
 refine tJ (λq Z F=>∃S N x,Z=(σ.set i (some (.ref N))).set j x/\Jt F S (20+7*q)/\S N=.tp 24/\Ex τ S f/\Kp 24 τ f F) ⟨τ,t,σ[j],?_,J.grow s2 (Mz _),A,Ex.refl,B⟩ (λq Z F Y hh=>?_) λZ F hh=>?_
 .rw[set_comm _ _ l,List.set_getElem_self]
 .obtain⟨S,N,x,rfl,J',M,ex',kp'⟩:=hh
  obtain⟨⟨c,ec⟩,el⟩:=ee q Y;have E2:EnvOk K L O Fs F ((σ.set i (some (.ref N))).set j x) C:=GN (GN (E.grow (kept kp')) ei) ej
  have R:EnvOk K L O (Fs.set j []) F (((σ.set i (some (.ref N))).set j x).set j (some (.int (0+(q:Int))))) (C.set j (MB (.int (q:Int)))):=EnvOk.put (G:=[]) (p:=⟨.leaf,.int (q:Int)⟩) (by rw[nil_append];exact E2) (.leaf (by rw[Int.zero_add];exact .int _)) rfl (λ_ z=>nomatch z) (by rw[<-E.len1];exact ltj)
  rw[set_set]at R;show eC _ _ _ (((σ.set i (some (.ref N))).set j x).set j (some (.int (0+(q:Int))))) F
  rw[set_set];refine⟨.ref N,by rw[getElem?_set_ne (Ne.symm l),getElem?_set_self lti],KE R ec λH3 s3=>KE (R.grow s3) el λH4 s4=>?_⟩
  have s34:=s3.trans s4
  refine⟨N,c,(w.n:Int),S,24,20+7*q,rfl,by omega,by omega,by omega,by decide,J'.grow s34 (Mz _),M,λt5 τ5 H5 J5 ex5 kp5 ht5=>?_⟩
  refine⟨τ5,t5,some (.int (0+(q:Int))),?_,by rw[show 20+7*(q+1)=20+7*q+7 by omega];exact J5,ht5,ex'.trans (H2:=H4) ex5 λx hx=>(kp'.trans (Kp.same (τ:=S) s34) ex').2 x hx,(kp'.trans (Kp.same (τ:=S) s34) ex').trans kp5 ex'⟩
  rw[set_comm _ _ l,set_set,set_comm _ _ (Ne.symm l)]
 .obtain⟨S,N,x,rfl,J',M,ex',kp'⟩:=hh
  have sk:=kept kp'
  have out:∀y,S y≠.no->y∉O++Fs.flatten:=λy hy z=>by
   rcases ex'.2 y hy with q|q
   .by_cases hg:y∈G
    .exact E.inH y z (frG y hg)
    .exact q (no y hg)
   .exact E.inH y z (n.free q)
  obtain⟨P',pt,rp⟩:=J'.tree (K:=K) out 24 N M
  have E2:EnvOk K L O Fs F (σ.set j x) C:=GN (E.grow sk) ej
  have Ei:EnvOk K L O (Fs.set i []) F ((σ.set j x).set i (some (.ref N))) (C.set i (MB P')):=EnvOk.put (G:=[]) (p:=⟨.leaf,P'⟩) (by rw[nil_append];exact E2) (.leaf (by rw[nil_append];exact rp)) rfl (λ_ z=>nomatch z) (by rw[<-E.len1];exact lti)
  rw[set_comm _ _ l];refine⟨L,O,Fs.set i [],_,Ei,?_⟩
  rw[eg P' (pt.mono (by omega))]
  exact h'
end
end KC
namespace T
open PySem PySem.Spec L2
open PyProof.Rows hiding St
theorem In.sw{p:Fg->(Str->Option Value)->Prop}{X:Cx}{P:Program}{w:World}{K:Fg}{d:Str->Option Value}{g:Heap}{k j n:Nat}(I:In p X P w K d g k)(h:KC.SwOk P w K d g j n)(A:decide (j<=k)=true:=by first|exact rfl|exact decide_eq_true (by omega)):KC.CaF X "_law_spoilt_within" (KC.spSw n):=by
 obtain⟨rfl,rfl,rfl,rfl,rfl,r,_⟩:=I;obtain⟨f,y,J,F,a,b,c⟩:=h;exact⟨j,f,y,J,F,r.mono (of_decide_eq_true A),a,b,c⟩
end T
namespace TQ
open PySem PySem.Spec L2 T KC
open PyProof.Rows hiding St
theorem uC{X:Cx}{N gl:List Str}{B I s G H:List Nat}{W:XW}(S:Cp X N gl B I s G H)(C:PassesOwn (model X.prog X.w) X.A X.env X.xe)(i j a b ja jb jr:Nat){x y z u:Str}{et e K:Expr}{ft m d:F1}{g:FS}{cP:List Stmt}{p1 r Y h p5 p6 p7 p8 p9 p10 p11 p12 p13 p14 p15:Pos}(J:CaF X "paper" (spPpr X.K))(c2:CaF X "_law_spoilt_within" (spSw 25))(nr:X.mg "range"=none)(A:Q (PE X et (tE X.K W ft)))(R:Q (PE X e (tE X.K W m)))(hl:Q (PE X K (tE X.K W d)))(hg:Q (PSs X cP (tS X.K W g)))(hst:starEach [et] X.env=[(false,eval et X.env)])(hse:starEach [e,K] X.env=(false,eval e X.env)::starEach [K] X.env)(c:starEach [K] X.env=[(false,eval K X.env)])(F:N[i]?=some x:=by rfl)(hvx:B.contains i=true:=by rfl)(hlx:s.contains i=true:=by rfl)(E:N[j]?=some u:=by rfl)(n:s.contains j=true:=by rfl)(f:N[a]?=some y:=by rfl)(hvy:B.contains a=true:=by rfl)(U:N[b]?=some z:=by rfl)(hvz:B.contains b=true:=by rfl)(w:gl[ja]?=some ("paper":Str):=by rfl)(gA:H.contains ja=true:=by rfl)(P:gl[jb]?=some ("_law_spoilt_within":Str):=by rfl)(gB:H.contains jb=true:=by rfl)(gr:gl[jr]?=some ("range":Str):=by rfl)(gR:H.contains jr=true:=by rfl)(hij:i≠j:=by decide)(hs1:swapsWith (.Call (.Name "paper" p1) [.Name y r,.Name z Y] [] h) (some (.Name x p5)) p6.line X.env=pure false:=by rfl)(o:swapsWith (.Call (.Name "_law_spoilt_within" p7) [.Name x p8,e,K] [] p9) (some (.Name x p10)) p11.line X.env=pure false:=by rfl)(hfs:∀x,foldedSetIterable (.Call (.Name "range" p12) [et] [] p13) X.env x=pure x:=by intro _;rfl):Q (PSs X (.Assign [.Name x p5] (.Call (.Name "paper" p1) [.Name y r,.Name z Y] [] h) p6::.For (.Name u p14) (.Call (.Name "range" p12) [et] [] p13) [.Assign [.Name x p10] (.Call (.Name "_law_spoilt_within" p7) [.Name x p8,e,K] [] p9) p11] [] p15::cP) (tS X.K W (sN i j a b ft m d g))):=by
 have L:X.N.Nodup:=by rw[S.hN];exact S.nd
 have p:=S.loc i x F hlx
 have l:=S.loc j u E n
 obtain⟨k1,t,fd1,ps1,F1,k,x1,y1,M⟩:=J;obtain⟨k2,q,fd2,ps2,F2,r2,Z,y2,v⟩:=c2;exact⟨Ia (kn (xu L (by rw[S.hN];exact F) p.1 (xx F1 k (S.g w gA).1 x1 y1 M .nil hJ (gm (nvD S a f hvy) (gm (nvD S b U hvz) pF (bC rfl)) (bC rfl)) (by decide) (bC rfl) rfl) hs1 p.2) (kn (vC C S.calm (lh (S.g gr gR).1 nr (gm A.p pF hst) hst) (qZ L (by rw[S.hN];exact E) l.1 l.2) (m7 (xu L (by rw[S.hN];exact F) p.1 (xx F2 r2 (S.g P gB).1 Z y2 v .nil hJ (gm (nvD S i F hvx) (gm R.p (gm hl.p pF c) hse) (bC rfl)) (by decide) (bC rfl) (by rw[hse,c];rfl)) o p.2)) hfs) hg.p)) λ_ _ _=>Bu hij⟩
end TQ
namespace KC
open PySem PySem.Spec L2 T TQ
open PyProof.Rows hiding St
variable{X:Cx}
def cy:Stmt:=Hs 56
def bD:Stmt:=Hs 57
theorem Bi:cm fW ["told","cell","many"] (aL cy):=⟨rfl,rfl,rfl,by decide +kernel,rfl,by decide +kernel,by decide +kernel⟩
theorem Dd:kl fW lX [0,1,2,3,4,5,6,7] [] [0,1,2,3,4,5,6,7] [0,1,2,3,4,5,6,7] [0,1] (aL cy)=true:=by kernel_rfl
theorem Cu:tx fW lX=true:=by kernel_rfl
theorem Eu:cm m6 ["told","cell","many"] (aL bD):=⟨rfl,rfl,rfl,by decide +kernel,rfl,by decide +kernel,by decide +kernel⟩
theorem FU:kl m6 ug [0,1,2,3] [] [0,1,2,3] [0,1,2,3] [0,1,2] (aL bD)=true:=by kernel_rfl
theorem Fq:tx m6 ug=true:=by kernel_rfl
abbrev Mk(X:Cx):Prop:=Cp X fW lX [0,1,2,3,4,5,6,7] [] [0,1,2,3,4,5,6,7] [0,1,2,3,4,5,6,7] [0,1]
abbrev Mj(X:Cx):Prop:=Cp X m6 ug [0,1,2,3] [] [0,1,2,3] [0,1,2,3] [0,1,2]
theorem Dh(S:Mk X)(R:Rm X)(a:X.mg "len"=none)(d:X.mg "sorted"=none):PSs X (bR cy) (xQ X.K):=by
 have L:X.N.Nodup:=by rw[S.hN];exact S.nd
 have g:∀(i:Nat)(x:Str),fW[i]?=some x->X.N[i]?=some x:=λi x e=>by rw[S.hN];exact e
 have b:∀(i:Nat)(x:Str),fW[i]?=some x->[0,1,2,3,4,5,6,7].contains i=true->Loc X.env.scope x/\(X.fn x=true\/X.env.scope.names.lookup x=some .local):=λi x e l=>S.loc i x e l
 refine kn (Dx (TQ.nvD S 0 rfl rfl) (Ii S.calm (Ab (qZ L (g 5 _ rfl) (b 5 _ rfl rfl).1 (b 5 _ rfl rfl).2) (Ab (qZ L (g 6 _ rfl) (b 6 _ rfl rfl).1 (b 6 _ rfl rfl).2) (Ab (qZ L (g 7 _ rfl) (b 7 _ rfl rfl).1 (b 7 _ rfl rfl).2) Iw))))) ?_
 refine kn (xu L (g 3 _ rfl) (b 3 _ rfl rfl).1 (TQ.Q.p (i9 (w_cv S 1 rfl rfl) w_de_int)) rfl (b 3 _ rfl rfl).2) ?_
 refine kn (xu L (g 4 _ rfl) (b 4 _ rfl rfl).1 (TQ.Q.p (i9 (pH (w_cv S 1 rfl rfl) w_de_int) (w_cv S 2 rfl rfl))) rfl (b 4 _ rfl rfl).2) ?_
 refine kn (fJ (TQ.Q.p (kj (uk (eY (bN R) (w_cv S 3 rfl rfl) w_de_int (by with_unfolding_all rfl)) (ux (eY (jI R) (Ac S 0 rfl rfl a (w_da_cons (w_cv S 5 rfl rfl) w_da_nil (bC rfl)) (bC rfl) rfl) w_de_int (by with_unfolding_all rfl))))))
  (m7 (xg (oo PySem.F.plainAttrs_list PySem.F.slot_list_pop PySem.F.type_list_pop vT (TQ.nvD S 5 rfl rfl) (gm (TQ.Q.p (i9 (w_cv S 4 rfl rfl) (Ac S 0 rfl rfl a (w_da_cons (w_cv S 5 rfl rfl) w_da_nil (bC rfl)) (bC rfl) rfl))) pF (bC rfl)) rfl rfl rfl (eX rfl) rfl) rfl)) xy) ?_
 refine kn (fJ (TQ.Q.p (eY (bN R) (w_cv S 3 rfl rfl) w_de_int (by with_unfolding_all rfl)))
  (m7 (xu L (g 5 _ rfl) (b 5 _ rfl rfl).1 (TQ.Q.p (nE S 1 rfl rfl d (w_da_cons (nC (w_cv S 5 rfl rfl) (jy .leaf (w_da_cons (w_de_idx (jy .leaf (w_da_cons (w_cv S 4 rfl rfl) (w_da_cons (w_cv S 2 rfl rfl) (w_da_cons (nB w_de_int) w_da_nil (bC rfl)) (bC rfl)) (bC rfl))) (i9 (pH (w_cv S 1 rfl rfl) w_de_int) w_de_int) (λ_ _=>rfl)) w_da_nil (bC rfl)))) w_da_nil (bC rfl)) (bC rfl) rfl)) rfl (b 5 _ rfl rfl).2)) xy) ?_
 refine kn (fJ (TQ.Q.p (kj (uk (eY (dt R) (w_cv S 3 rfl rfl) (pI (w_da_cons w_de_int (w_da_cons w_de_int w_da_nil (bC rfl)) (bC rfl))) (by with_unfolding_all rfl)) (uk (eY (xh R) (w_cv S 6 rfl rfl) iR (by with_unfolding_all rfl)) (ux (eY (mz R) (w_cv S 4 rfl rfl) (Ac S 0 rfl rfl a (w_da_cons (w_cv S 6 rfl rfl) w_da_nil (bC rfl)) (bC rfl) rfl) (by with_unfolding_all rfl)))))))
  (m7 (Dx (TQ.Q.p (w_de_idx (jy .leaf (w_da_cons iR (w_da_cons w_de_int (w_da_cons (nh (D4 (w_de_idx (w_cv S 6 rfl rfl) (w_cv S 4 rfl rfl) (λ_ _=>rfl)) (nj w_de_int)) w_de_int) (w_da_cons (nB w_de_int) (w_da_cons (w_cv S 2 rfl rfl) (w_da_cons (nq w_de_int w_de_int) (w_da_cons w_de_int (w_da_cons w_de_int w_da_nil (bC rfl)) (bC rfl)) (bC rfl)) (bC rfl)) (bC rfl)) (bC rfl)) (bC rfl)) (bC rfl))) (i9 (pH (w_cv S 1 rfl rfl) w_de_int) w_de_int) (λ_ _=>rfl))) (GD (TQ.nvD S 6 rfl rfl) (TQ.nvD S 4 rfl rfl) GW))) xy) ?_
 refine kn (fJ (TQ.Q.p (eY (bN R) (w_cv S 3 rfl rfl) w_de_int (by with_unfolding_all rfl)))
  (m7 (xu L (g 6 _ rfl) (b 6 _ rfl rfl).1 (TQ.Q.p (xB (eY (xh R) (w_cv S 6 rfl rfl) iR (by with_unfolding_all rfl)) iR (uD (jy .leaf (w_da_cons w_de_int w_da_nil (bC rfl))) (w_cv S 2 rfl rfl)))) rfl (b 6 _ rfl rfl).2)) xy) ?_
 refine kn (fJ (TQ.Q.p (kj (uk (eY (bN R) (w_cv S 3 rfl rfl) w_de_int (by with_unfolding_all rfl)) (ux (eY (xh R) (w_cv S 6 rfl rfl) iR (by with_unfolding_all rfl))))))
  (m7 (xg (oo PySem.F.plainAttrs_list PySem.F.slot_list_append PySem.F.type_list_append GM (TQ.nvD S 6 rfl rfl) (gm vG pF (bC rfl)) rfl rfl rfl (eX rfl) rfl) rfl)) xy) ?_
 have F:∀{G r Y:Pos}{k1:Nat},PE X (.Subscript (.Name "parts" G) (.Constant (.int 0) k1 r) Y) (A9 X.K):=λ{G r Y k1}=>om DP (TQ.nvD S 7 rfl rfl) Dv (λ_ _=>rfl)
 have f:∀{G r Y h o:Pos}{k1 k2:Nat}{c:Int},PE X (.Subscript (.Subscript (.Name "parts" G) (.Constant (.int 0) k1 r) Y) (.Constant (.int c) k2 h) o) (m8 (xl X.K) (A9 X.K) (tC (.int c))):=λ{G r Y h o k1 k2 c}=>om DP F Dv (λ_ _=>rfl)
 refine kn (fJ (TQ.Q.p (kj (uk (eY (bN R) (w_cv S 3 rfl rfl) w_de_int (by with_unfolding_all rfl)) (ux (eY (jI R) (Ac S 0 rfl rfl a (w_da_cons (w_cv S 7 rfl rfl) w_da_nil (bC rfl)) (bC rfl) rfl) w_de_int (by with_unfolding_all rfl))))))
  (m7 (fJ (TQ.Q.p (eY (bN R) (i9 (pH (w_cv S 1 rfl rfl) w_de_int) w_de_int) w_de_int (by with_unfolding_all rfl)))
   (m7 (xg (vJ PySem.F.plainAttrs_list PySem.F.slot_list_pop PySem.F.type_list_pop Cw (TQ.nvD S 7 rfl rfl) rfl rfl) rfl))
   (m7 (fJ (TQ.Q.p (eY (bN R) (i9 (pH (w_cv S 1 rfl rfl) w_de_int) w_de_int) w_de_int (by with_unfolding_all rfl)))
    (m7 (xg (oo PySem.F.plainAttrs_list PySem.F.slot_list_append PySem.F.type_list_append GM (TQ.nvD S 7 rfl rfl) (gm F pF (bC rfl)) rfl rfl rfl (eX rfl) rfl) rfl))
    (m7 (Dx (GC (gm (oj xV f (rC Dv) rD) (gm f (gm f pF (bC rfl)) (bC rfl)) (bC rfl))) (GD (TQ.nvD S 7 rfl rfl) Dv GW))))))) xy) ?_
 refine kn (fJ (TQ.Q.p (kj (uk (eY (bN R) (w_cv S 3 rfl rfl) w_de_int (by with_unfolding_all rfl)) (ux (eY (jI R) (Ac S 0 rfl rfl a (w_da_cons (w_cv S 7 rfl rfl) w_da_nil (bC rfl)) (bC rfl) rfl) w_de_int (by with_unfolding_all rfl))))))
  (m7 (xg (vJ PySem.F.plainAttrs_list PySem.F.slot_list_reverse PySem.F.type_list_reverse qu (TQ.nvD S 7 rfl rfl) rfl rfl) rfl)) xy) ?_
 exact m7 (Dy (GC (gm (TQ.nvD S 5 rfl rfl) (gm (TQ.nvD S 6 rfl rfl) (gm (TQ.nvD S 7 rfl rfl) pF (bC rfl)) (bC rfl)) (bC rfl))))
theorem FZ{n:Nat}(S:Mj X)(R:Rm X)(a:X.mg "len"=none)(p:CaF X "_law_spoilt_within" (spSw n))(J:CaF X "_law_spoilt" nM):PSs X (bR bD) (Hq X.K n):=by
 have L:X.N.Nodup:=by rw[S.hN];exact S.nd
 obtain⟨u,t,U,g,F1,k,c,N,M⟩:=J;obtain⟨B,q,x,e,d,C,Z,I,v⟩:=p;have h:=S.loc 3 "at" rfl rfl
 have b:∀{G r Y:Pos}{u:Nat},PE X (.Subscript (.Name "told" G) (.Constant (.int 2) u r) Y) (pT X.K 2):=λ{G r Y u}=>om DP (TQ.nvD S 0 rfl rfl) Dv (λ_ _=>rfl)
 refine kn (fJ (TQ.Q.p (kj (pN (eY (bN R) (i9 (w_cv S 1 rfl rfl) w_de_int) w_de_int (by with_unfolding_all rfl)) (uv (eY (bN R) (Ac S 0 rfl rfl a (w_da_cons (w_de_idx (w_cv S 0 rfl rfl) w_de_int (λ_ _=>rfl)) w_da_nil (bC rfl)) (bC rfl) rfl) w_de_int (by with_unfolding_all rfl))))))
  (m7 (Dy (xx F1 k (S.g (j:=2) rfl rfl).1 c N M .nil hJ (gm (TQ.nvD S 0 rfl rfl) (gm (TQ.Q.p (pH (w_cv S 1 rfl rfl) w_de_int)) (gm (TQ.nvD S 2 rfl rfl) pF (bC rfl)) (bC rfl)) (bC rfl)) (by decide) (bC rfl) rfl))) xy) ?_
 refine kn (xu L (by rw[S.hN];rfl) h.1 (TQ.Q.p (i9 (pH (w_cv S 1 rfl rfl) w_de_int) (Ac S 0 rfl rfl a (w_da_cons (w_de_idx (w_cv S 0 rfl rfl) w_de_int (λ_ _=>rfl)) w_da_nil (bC rfl)) (bC rfl) rfl))) rfl h.2) ?_
 refine kn (Dx (xx d C (S.g (j:=1) rfl rfl).1 Z I v .nil hJ (gm (om DP b (TQ.nvD S 3 rfl rfl) (λ_ _=>rfl)) (gm (TQ.Q.p (pH (w_cv S 1 rfl rfl) w_de_int)) (gm (TQ.nvD S 2 rfl rfl) pF (bC rfl)) (bC rfl)) (bC rfl)) (by decide) (bC rfl) rfl) (GD b (TQ.nvD S 3 rfl rfl) GW)) ?_
 exact m7 (Dy (TQ.nvD S 0 rfl rfl))
section
variable{P:Program}{w:World}{K:Fg}{mg:Str->Option Value}{base:Heap}{f:Addr}{fd:FuncData}{j1 k:Nat}
theorem jL(F:Fun K "_law_spoilt" "_law_spoilt" cy f fd)(E:mg "_law_spoilt"=some (.ref f))(b:Binds K fd ["told","cell","many"] [])(r:mg "len"=none)(g:mg "sorted"=none):pE P w K mg base (k+1):=Cr F E b Bi Dd Cu r g λX S R a b=>Dh S R a b
theorem fD(F:Fun K "_law_spoilt_within" "_law_spoilt_within" bD f fd)(E:mg "_law_spoilt_within"=some (.ref f))(b:Binds K fd ["told","cell","many"] [])(r:mg "len"=none)(J:pE P w K mg base j1)(Y:decide (j1<=k)=true):SwOk P w K mg base (k+25) 25:=Fo F E b Eu FU Fq r J Y (λX n S R a c d=>FZ S R a c d) 25
end
end KC
namespace KC.O
open PySem PySem.Spec L2 T
open PyProof.Rows hiding St
open KC
variable{rk X:List (Option Int)}{o:Option Int}{g:List Int}{C I:Ev}{R:D}{L bs:List D}{l x x3 x4:Option PV}{k:Nat}{c:Int}{e:F1}
def d__law_judge:FS:=(ao (aA false 2 (rX (ae (bp aK (ae (ah (ab 0) (eK (.int 0))) af)) af)))
  (ao (aA false 3 (ah (ab 1) (eK (.int 0))))
  (ao (bY (aG ag (aj bf (ab 3) (eK (.str "yes")))) (aJ (ab 2)) aH)
  (ao (bY (aG ag (aj bf (ab 3) (eK (.str "mark")))) (aJ (aw .leaf 8 (aP (ab 2)) (aG ag (aj (bx false) (ah (ab 1) (eK (.int 1))) (ah (ah (ab 0) (eK (.int 1))) (ab 8)))) (ab 8))) aH) Hu))))
def m__law_judge:List MA->Res:=aI 9 d__law_judge
def mU:FS:=(ao (aA false 3 (rX (ae (bp aK (ae (ah (ab 0) (eK (.int 0))) af)) af)))
  (ao (aA false 4 (ah (ab 1) (eK (.int 0))))
  (ao (bY (aG ag (aj (bx false) (ab 4) (b4 (ae (eK (.str "yes")) (ae (eK (.str "mark")) af))))) (aJ (ai 2 m__law_judge (ae (ab 0) (ae (ab 1) af)))) aH)
  (ao (bY (aG ag (aj bf (ab 4) (eK (.str "not")))) (aJ (aw .leaf 5 (aP (ab 3)) (aG ag (aj (bx true) (ab 5) (ah (ab 2) (eK (.int 0))))) (ab 5))) aH)
  (ao (bY (aG ag (aj bf (ab 4) (eK (.str "and")))) (aJ (aw .leaf 5 (aP (ab 3)) (dw (aG ag (aj (bx false) (ab 5) (ah (ab 2) (eK (.int 0))))) (aG ag (aj (bx false) (ab 5) (ah (ab 2) (eK (.int 1)))))) (ab 5))) aH)
  (ao (bY (aG ag (aj bf (ab 4) (eK (.str "or")))) (aJ (aw .leaf 5 (aP (ab 3)) (fF (aG ag (aj (bx false) (ab 5) (ah (ab 2) (eK (.int 0))))) (aG ag (aj (bx false) (ab 5) (ah (ab 2) (eK (.int 1)))))) (ab 5))) aH)
  (aJ (ai 3 b7 (ae (ab 0) (ae (ah (ab 2) (eK (.int 0))) (ae (aj bf (ab 4) (eK (.str "all next"))) af)))))))))))
def dz:List MA->Res:=aI 6 mU
def iz:FS:=(ao (aA false 6 (aj (bx false) (ab 1) (b4 (ae (eK (.str "all until")) (ae (eK (.str "some always")) af)))))
  (ao (aA false 7 (aw .leaf 9 (aP (ah (ah (ab 0) (eK (.int 2))) (ab 3))) (aG ag (aj (bJ true) (ah (ab 2) (ab 9)) (eK .none))) (ab 9)))
  (ao (bY (aG ag (aj (bJ false) (ah (ab 2) (ab 3)) (eK .none))) (ao (bY (aG bH (ab 5)) (aJ (eK (.bool false))) aH)
  (aJ (wF (iq (ab 4)) (kJ (aG bH (ab 6)) (aj iN (bp aK (ae (ab 7) af)) (bp aK (ae (ah (ah (ab 0) (eK (.int 2))) (ab 3)) af))) (aj bf (ab 7) (aY .leaf af)))))) aH)
  (ao (bY (fF (aG bH (ab 5)) (aG ag (aj bf (ah (ab 2) (ab 3)) (eK (.int 0))))) (aJ (cV (ab 5) (aj bf (ah (ab 2) (ab 3)) (eK (.int 0))))) aH)
  (ao (aA false 8 (aw .leaf 9 (aP (ab 7)) (aG ag (aj iN (ah (ab 2) (ab 9)) (ah (ab 2) (ab 3)))) (ab 9)))
  (aJ (cV (aj gO (ah (ab 2) (ab 3)) (eK (.int 0))) (cV (ab 4) (kJ (aG bH (ab 6)) (aj bf (bp aK (ae (ab 8) af)) (bp aK (ae (ah (ah (ab 0) (eK (.int 2))) (ab 3)) af))) (aj fE (ab 8) (aY .leaf af)))))))))))
def bF:List MA->Res:=aI 10 iz
def cM(a:List MA->Res):FS:=(ao (jG [8,9,10] (ab 2))
  (ao (aA false 3 (aw .leaf 12 (eG (jZ (ab 1) (eK (.int 1)))) (aG bH (fm "tuple" (ab 12))) (ab 12)))
  (ao (aA false 4 (rX (ae (bp aK (ae (ah (ab 0) (eK (.int 0))) af)) af)))
  (ao (bY (fF (aG ag (aj fE (ab 8) (fj (ae (ab 8) af)))) (aG ag (aj gO (bp aK (ae (aw .leaf 7 (aP (ab 8)) (aG ag (aj (bx true) (ab 7) (ab 4))) (ab 7)) af)) (eK (.int 0))))) (aJ (eK (.bool false))) aH)
  (ao (bY (aG ag (aj fE (bp aK (ae (ab 10) af)) (bp aK (ae (ab 3) af)))) (aJ (eK (.bool false))) aH)
  (ao (bY (dv (aG bH (bp (cU false) (ae (aw .leaf 13 (gh (ae (bp aK (ae (ab 3) af)) af)) aM (ai 3 a (ae (ab 0) (ae (ah (ab 3) (ab 13)) (ae (ah (ab 10) (ab 13)) af))))) af)))) (aJ (eK (.bool false))) aH)
  (ao (aA false 5 (aw .leaf 12 (aP (ab 10)) aM (ah (ab 12) (eK (.int 0)))))
  (ao (bY (dw (aG ag (aj (d7 true) (eK (.str "until")) (ah (ab 1) (eK (.int 0))))) (aG ag (aj (d7 true) (eK (.str "always")) (ah (ab 1) (eK (.int 0)))))) (aJ (cV (aj (bJ false) (ab 9) (eK .none)) (aj bf (ab 8) (ai 3 dz (ae (ab 0) (ae (ab 1) (ae (ab 5) af))))))) aH)
  (ao (bY (fF (aG ag (aj (bJ false) (ab 9) (eK .none))) (aG ag (aj fE (bp aK (ae (ab 9) af)) (bp aK (ae (ab 4) af))))) (aJ (eK (.bool false))) aH)
  (ao (aA false 6 (aj (d7 false) (eK (.str "until")) (ah (ab 1) (eK (.int 0)))))
  (ao (dR 7 (aP (ab 4))
  (ao (aA false 11 (kJ (aG bH (ab 6)) (aj (bx false) (ab 7) (ah (ab 5) (eK (.int 1)))) (aj (bx true) (ab 7) (ah (ab 5) (eK (.int 0))))))
  (bY (dv (aG bH (ai 6 bF (ae (ab 0) (ae (ah (ab 1) (eK (.int 0))) (ae (ab 9) (ae (ab 7) (ae (wF (iq (ab 6)) (aj (bx false) (ab 7) (ah (ab 5) (eK (.int 0))))) (ae (ab 11) af))))))))) (aJ (eK (.bool false))) aH)))
  (aJ (aj bf (ab 8) (aw .leaf 7 (aP (ab 4)) (aG ag (aj bf (aj (bJ true) (ah (ab 9) (ab 7)) (eK .none)) (ab 6))) (ab 7)))))))))))))))
def bh:Nat->List MA->Res
 |0=>λ_=>.no
 |n+1=>aI 14 (cM (bh n))
def dA:List MA->Res:=bh 30
def mT:FS:=(ao (aA false 2 (ah (aY .leaf (ae (eK (.str "some until")) (ae (eK (.str "all until")) (ae (eK (.str "some always")) (ae (eK (.str "all always")) af))))) (aj bj (ab 0) (eK (.int 4)))))
  (ao (bY (aG ag (aj iN (aj bj (ab 0) (eK (.int 4))) (eK (.int 2)))) (aJ (b4 (ae (ab 2) (ae (ab 1) (ae (b4 (ae (eK (.str "mark")) (ae (ah (eK (.str "abc")) (aj bj (aj bO (ab 0) (eK (.int 4))) (eK (.int 3)))) af))) af))))) aH)
  (aJ (b4 (ae (ab 2) (ae (ab 1) af))))))
def cJ:List MA->Res:=aI 3 mT
def i8(a:List MA->Res):FS:=(aJ (b4 (ae (ck (ah (ab 0) (eK (.int 0)))) (ae (kJ (aG ag (aj (bJ false) (ah (ab 0) (eK (.int 1))) (eK .none))) (eK .none) (ck (ah (ab 0) (eK (.int 1))))) (ae (aw .leaf 1 (aP (ah (ab 0) (eK (.int 2)))) aM (ai 1 a (ae (ab 1) af))) af)))))
def cg:Nat->List MA->Res
 |0=>λ_=>.no
 |n+1=>aI 2 (i8 (cg n))
def fN:List MA->Res:=cg 30
def d_law:FS:=(ao (aA false 1 (ai 3 m__law_world (ae (ab 0) (ae (eK (.int 4)) (ae (eK (.int 5)) af)))))
  (ao (aA false 2 (ai 2 aD (ae (ab 0) (ae (eK (.int 0)) af))))
  (ao (aA false 3 (aY .leaf (ae (eK (.str "some until")) (ae (eK (.str "all until")) (ae (eK (.str "some always")) (ae (eK (.str "all always")) (ae (eK (.str "some next")) (ae (eK (.str "all next")) af))))))))
  (ao (aA false 3 (kK (ab 3) (aY .leaf (ae (eK (.str "not")) (ae (eK (.str "and")) (ae (eK (.str "or")) (ae (eK (.str "mark")) af)))))))
  (ao (aA false 4 (ah (ab 3) (aj bj (ab 2) (eK (.int 10)))))
  (ao (aA true 5 (aY .leaf af))
  (ao (dR 6 (gh (ae (ah (aY .leaf (ae (eK (.int 2)) (ae (eK (.int 2)) (ae (eK (.int 1)) (ae (eK (.int 1)) (ae (eK (.int 1)) (ae (eK (.int 1)) (ae (eK (.int 1)) (ae (eK (.int 2)) (ae (eK (.int 2)) (ae (eK (.int 0)) af))))))))))) (aj bj (ab 2) (eK (.int 10)))) af))
  (ao (aA false 12 (b4 (ae (eK (.str "mark")) (ae (ah (eK (.str "abc")) (aj bj (aj bO (aj bO (ab 2) (eK (.int 10))) (aj aQ (aj il (eK (.int 5)) (ab 6)) (eK (.int 1)))) (eK (.int 3)))) af))))
  (ao (bY (aG ag (aj bf (aj bj (aj bO (aj bO (ab 2) (eK (.int 90))) (aj aQ (ab 6) (eK (.int 1)))) (eK (.int 2))) (eK (.int 1)))) (aA false 12 (b4 (ae (eK (.str "not")) (ae (ab 12) af)))) aH)
  (ao (aA false 13 (ai 2 aD (ae (ab 0) (ae (aj aQ (eK (.int 12)) (ab 6)) af))))
  (ao (bY (aG ag (aj bf (aj bj (ab 13) (eK (.int 2))) (eK (.int 1)))) (aA false 12 (ai 2 cJ (ae (aj bO (ab 13) (eK (.int 2))) (ae (ab 12) af)))) aH)
  (aN 5 (ab 12)))))))
  (ao (aA false 7 (kJ (aG ag (aj fE (ab 4) (eK (.str "mark")))) (lG (b4 (ae (ab 4) af)) (iO (cC 5))) (b4 (ae (eK (.str "mark")) (ae (eK (.str "b")) af)))))
  (sN 8 9 1 7 (aj bj (ai 2 aD (ae (ab 0) (ae (eK (.int 1)) af))) (eK (.int 3))) (ai 2 aD (ae (ab 0) (ae (aj aQ (eK (.int 2)) (ab 9)) af))) (bp aK (ae (ah (ab 1) (eK (.int 0))) af))
  (ao (aA false 10 (aY .leaf (ae (ai 1 df (ae (ab 1) af)) (ae (ai 1 fN (ae (ab 8) af)) af))))
  (ao (aA false 11 (ai 3 dH (ae (ah (ab 10) (eK (.int 0))) (ae (ab 7) (ae (ah (ab 10) (eK (.int 1))) af)))))
  (aJ (cV (fm "bool" (ab 11)) (cV (aj bf (ab 11) (ai 3 dA (ae (ab 1) (ae (ab 7) (ae (ab 8) af))))) (aj bf (ab 10) (aY .leaf (ae (ab 1) (ae (ab 8) af))))))))))))))))))
def m_law:List MA->Res:=aI 14 d_law
open PySem.SeqAt
abbrev fX(rk:List (Option Int)):D:=.list (rk.map oI)
def bS(rk:List (Option Int))(t:Nat):Option Int:=rk.getD t none
@[simp] theorem rJ(o:Option Int):bW (oI o)=o.isNone:=by cases o<;>rfl
@[simp] theorem HF(o:Option Int):bU (oI o)=true:=by cases o<;>rfl
theorem kf{t:Nat}(h:t<rk.length):fy (rk.map oI) (t:Int)=some (oI (bS rk t)):=by
 refine Dr ?_
 unfold bS;rw[getElem?_map,Mr,Mq h];rfl
def fO:Option Int->Option Int->Bool
 |some a,some b=>decide (a<b)
 |_,_=>false
theorem qI{a b:Option Int}:dI [oI a,oI b]=.ok ⟨.leaf,.bool (fO a b)⟩:=by
 refine aV ?_
 cases a with
 |none=>simp[fu,av,oI,fO,bW]
 |some a=>
  cases b with
  |none=>simp[fu,av,oI,fO,bW]
  |some b=>simp[fu,av,oI,fO,bW]
theorem LV:bf (oI o) (.int 0)=some (.bool (decide (o=some 0))):=by
 cases o with
 |none=>rfl
 |some k=>
  show bf (.int k) (.int 0)=_
  rw[eq_int];by_cases h:k=0<;>simp[h]
theorem Js:(!o.isNone)=o.isSome:=by cases o<;>rfl
def pK(w:Wd)(any:Bool)(v f:List Nat)(rk:List (Option Int))(r:Nat):Bool:=
 if f.contains r then decide (bS rk r=some 0)else match bS rk r with
 |none=>!v.contains r||!cw any ((w.stp r).map λt=>(bS rk t).isSome)
 |some k=>decide (0<k)&&(v.contains r&&cw any ((w.stp r).map λt=>fO (bS rk t) (some k)))
abbrev gD(w:Wd)(a:Wr)(v f:List Nat)(rk:List (Option Int))(r:Nat)(x y z u:Option PV):Ev:=[MB w.enc,MB (.str a.t),MB (fX rk),MB (.tuple [aR v,aR f]),MB (rm r),x,y,z,u,none,none]
theorem jj{w:Wd}(ok:w.Ok){a:Wr}{v f:List Nat}{r:Nat}(S:rk.length=w.n)(m:r<w.n):cE [w.enc,.str a.t,fX rk,.tuple [aR v,aR f],rm r]=.ok ⟨.leaf,.bool (pK w a.some v f rk r)⟩:=by
 have I:=kf (rk:=rk) (t:=r) (by omega)
 have y:=ok.at2 m
 have n:aA false 5 (ah (ab 2) (ab 4)) (gD w a v f rk r none none none none)=.nx (gD w a v f rk r (MB (oI (bS rk r))) none none none):=by simp[gD,I]
 have J:aw .leaf 9 (aP (ah (ah (ab 0) (eK (.int 2))) (ab 4))) aM (ah (ab 2) (ab 9)) (gD w a v f rk r (MB (oI (bS rk r))) none none none)=.ok ⟨.lst .leaf,.list ((w.stp r).map λt=>oI (bS rk t))⟩ (gD w a v f rk r (MB (oI (bS rk r))) none none none):=by
  refine nc rm (w.stp r) (λt=>⟨.leaf,oI (bS rk t)⟩) (st:=true) (by simp[gD,Wd.enc,y]) (by simp[gD]) rfl (AQ ok) λt A=>?_
  have g:=kf (rk:=rk) (t:=t) (by rw[S];exact ok.stp_lt A)
  simp[gD,g]
 have s2:aA false 6 (aw .leaf 9 (aP (ah (ah (ab 0) (eK (.int 2))) (ab 4))) aM (ah (ab 2) (ab 9))) (gD w a v f rk r (MB (oI (bS rk r))) none none none)=.nx (gD w a v f rk r (MB (oI (bS rk r))) (MB (.list ((w.stp r).map λt=>oI (bS rk t)))) none none):=by
  rw[oa,J];simp[gD]
 have Y:aA false 7 (aj (bx false) (ab 1) (eK bE)) (gD w a v f rk r (MB (oI (bS rk r))) (MB (.list ((w.stp r).map λt=>oI (bS rk t)))) none none)=.nx (gD w a v f rk r (MB (oI (bS rk r))) (MB (.list ((w.stp r).map λt=>oI (bS rk t)))) (MB (.bool a.some)) none):=by simp[gD]
 have o:aw .leaf 10 (aP (ab 6)) aM (aj (bJ true) (ab 10) (eK .none)) (gD w a v f rk r (MB (oI (bS rk r))) (MB (.list ((w.stp r).map λt=>oI (bS rk t)))) (MB (.bool a.some)) none)=.ok ⟨.lst .leaf,.list (((w.stp r).map λt=>(bS rk t).isSome).map .bool)⟩ (gD w a v f rk r (MB (oI (bS rk r))) (MB (.list ((w.stp r).map λt=>oI (bS rk t)))) (MB (.bool a.some)) none):=by
  rw[map_map];refine nc (λt=>oI (bS rk t)) (w.stp r) (λt=>⟨.leaf,.bool (bS rk t).isSome⟩) (st:=true) (by simp[gD]) (by simp[gD]) rfl (AQ ok) λt A=>?_
  simp[gD,Js]
 have z:aw .leaf 10 (aP (ab 6)) aM (ai 2 dI (ae (ab 10) (ae (ab 5) af))) (gD w a v f rk r (MB (oI (bS rk r))) (MB (.list ((w.stp r).map λt=>oI (bS rk t)))) (MB (.bool a.some)) none)=.ok ⟨.lst .leaf,.list (((w.stp r).map λt=>fO (bS rk t) (bS rk r)).map .bool)⟩ (gD w a v f rk r (MB (oI (bS rk r))) (MB (.list ((w.stp r).map λt=>oI (bS rk t)))) (MB (.bool a.some)) none):=by
  rw[map_map];refine nc (λt=>oI (bS rk t)) (w.stp r) (λt=>⟨.leaf,.bool (fO (bS rk t) (bS rk r))⟩) (st:=true) (by simp[gD]) (by simp[gD]) rfl (AQ ok) λt A=>?_
  have dl:=qI (a:=bS rk t) (b:=bS rk r)
  simp[gD,dl]
 have i:=Gy (c:=a.some) (bs:=(w.stp r).map λt=>(bS rk t).isSome)
 have e:=Gy (c:=a.some) (bs:=(w.stp r).map λt=>fO (bS rk t) (bS rk r))
 have l:ai 2 b6 (ae (ab 7) (ae (aw .leaf 10 (aP (ab 6)) aM (aj (bJ true) (ab 10) (eK .none))) af)) (gD w a v f rk r (MB (oI (bS rk r))) (MB (.list ((w.stp r).map λt=>oI (bS rk t)))) (MB (.bool a.some)) none)=.ok ⟨.leaf,.bool (cw a.some ((w.stp r).map λt=>(bS rk t).isSome))⟩ (gD w a v f rk r (MB (oI (bS rk r))) (MB (.list ((w.stp r).map λt=>oI (bS rk t)))) (MB (.bool a.some)) none):=
  dE (aE (az rfl) (aE o aq)) i rfl rfl
 have h:ai 2 b6 (ae (ab 7) (ae (aw .leaf 10 (aP (ab 6)) aM (ai 2 dI (ae (ab 10) (ae (ab 5) af)))) af)) (gD w a v f rk r (MB (oI (bS rk r))) (MB (.list ((w.stp r).map λt=>oI (bS rk t)))) (MB (.bool a.some)) none)=.ok ⟨.leaf,.bool (cw a.some ((w.stp r).map λt=>fO (bS rk t) (bS rk r)))⟩ (gD w a v f rk r (MB (oI (bS rk r))) (MB (.list ((w.stp r).map λt=>oI (bS rk t)))) (MB (.bool a.some)) none):=
  dE (aE (az rfl) (aE z aq)) e rfl rfl
 have H:aG ag (aj (bx false) (ab 4) (ah (ab 3) (eK (.int 1)))) (gD w a v f rk r (MB (oI (bS rk r))) (MB (.list ((w.stp r).map λt=>oI (bS rk t)))) (MB (.bool a.some)) none)=.ok (f.contains r) (gD w a v f rk r (MB (oI (bS rk r))) (MB (.list ((w.stp r).map λt=>oI (bS rk t)))) (MB (.bool a.some)) none):=
  cD (s:=.leaf) (aB (az rfl) (js (j:=1) (s:=.leaf) (s2:=.leaf) (d:=aR f) (az rfl) aO rfl rfl rfl) uh)
 have N:aG ag (aj (bJ false) (ab 5) (eK .none)) (gD w a v f rk r (MB (oI (bS rk r))) (MB (.list ((w.stp r).map λt=>oI (bS rk t)))) (MB (.bool a.some)) none)=.ok (bS rk r).isNone (gD w a v f rk r (MB (oI (bS rk r))) (MB (.list ((w.stp r).map λt=>oI (bS rk t)))) (MB (.bool a.some)) none):=
  cD (s:=.leaf) (aB (az rfl) aO (by rw[EF,rJ]))
 refine aV (ay n (ay s2 (ay Y ?_)))
 unfold pK
 cases C:f.contains r with
 |true=>
  rw[C]at H;rw[if_pos rfl];exact gQ (aT H (λ_=>aS (aB (az rfl) aO LV) rfl) nofun)
 |false=>
  rw[C]at H;rw[if_neg (by simp)]
  refine ay (aT H nofun λ_=>rfl) ?_
  cases G:bS rk r with
  |none=>
   rw[G]at N l
   exact gQ (aT N (λ_=>aS (v_or (aB (az rfl) (js (j:=0) (s:=.leaf) (s2:=.leaf) (d:=aR v) (az rfl) aO rfl rfl rfl) D0) (v_not l)) rfl) nofun)
  |some k=>
   rw[G]at N h
   refine ay (aT N nofun λ_=>rfl) (ay (dO h rfl (by simp)) (aS (v_and (a:=decide (0<k)) (aB (p:=⟨.leaf,.int k⟩) (az rfl) aO ?_) (v_and (aB (az rfl) (js (j:=0) (s:=.leaf) (s2:=.leaf) (d:=aR v) (az rfl) aO rfl rfl rfl) uh) (az rfl))) rfl))
   rfl
theorem pD{w:Wd}(ok:w.Ok){s:Sn}{P:D}{o:Sh}{v f:List Nat}(h:(s.w=.su\/s.w=.au)\/(s.w=.sa\/s.w=.aa))(A:aW [w.enc,s.enc,P]=.ok ⟨o,.tuple [aR v,aR f]⟩)(J:coer .leaf ⟨o,.tuple [aR v,aR f]⟩=true)(S:rk.length=w.n):ba [w.enc,s.enc,P,fX rk]=.ok ⟨.leaf,.bool ((List.range w.n).all (pK w s.w.some v f rk))⟩:=by
 have G:=ok.g.lo
 have H:=ok.h24
 have e:bp aK (ae (ab 3) af) [MB w.enc,MB s.enc,MB P,MB (fX rk),MB (.str s.w.t),none,none]=.ok ⟨.leaf,.int (w.n:Int)⟩ [MB w.enc,MB s.enc,MB P,MB (fX rk),MB (.str s.w.t),none,none]:=by
  refine bX (aE (az rfl) aq) ?_
  show some (PyData.int ((rk.map oI).length:Int))=_
  rw[length_map,S]
 have g:bp aK (ae (ah (ab 0) (eK (.int 0))) af) [MB w.enc,MB s.enc,MB P,MB (fX rk),MB (.str s.w.t),none,none]=.ok ⟨.leaf,.int (w.n:Int)⟩ [MB w.enc,MB s.enc,MB P,MB (fX rk),MB (.str s.w.t),none,none]:=by
  refine bX (aE (js (j:=0) (s:=.leaf) (s2:=.leaf) (d:=.list w.os) (az rfl) aO rfl rfl rfl) aq) ?_
  show some (PyData.int (w.os.length:Int))=_
  rw[G]
 have c:aw .leaf 6 (gh (ae (bp aK (ae (ab 3) af)) af)) aM (ai 5 cE (ae (ab 0) (ae (ab 4) (ae (ab 3) (ae (ab 5) (ae (ab 6) af)))))) [MB w.enc,MB s.enc,MB P,MB (fX rk),MB (.str s.w.t),MB (.tuple [aR v,aR f]),none]=.ok ⟨.lst .leaf,.list ((List.range w.n).map λr=>.bool (pK w s.w.some v f rk r))⟩ [MB w.enc,MB s.enc,MB P,MB (fX rk),MB (.str s.w.t),MB (.tuple [aR v,aR f]),none]:=by
  refine nc rm (List.range w.n) (λr=>⟨.leaf,.bool (pK w s.w.some v f rk r)⟩) (st:=true) ?_ (by simp) rfl (by simp;omega) λr m=>⟨?_,rfl⟩
  .refine(kq (k:=(w.n:Int)) (ps:=[⟨.leaf,.int w.n⟩]) (aE (bX (aE (az rfl) aq) ?_) aq) rfl (by omega) (by omega)).trans (by rw[<-DA];rfl)
   show some (PyData.int ((rk.map oI).length:Int))=_
   rw[length_map,S]
  .exact dE (aE (az rfl) (aE (az rfl) (aE (az rfl) (aE (az rfl) (aE (az rfl) aq))))) (jj ok S (List.mem_range.mp m)) rfl rfl
 refine aV (ay (dO (xf rfl) rfl (by simp[av])) (ay (aT (uJ (a:=s.w) rfl) (λz=>?_) λ_=>rfl) (ay (aT (iP (a:=false) (b:=false) (cD (s:=.leaf) (aB (az rfl) aO rfl)) (cD (s:=.leaf) (aB e g ?_))) nofun λ_=>rfl) (ay (dO (dE (aE (az rfl) (aE (az rfl) (aE (az rfl) aq))) A rfl rfl) J (by simp[av])) (aS (bX (aE c aq) ?_) rfl)))))
 .exfalso
  rcases h with h|h
  .rw[decide_eq_true h]at z;cases z
  .rw[decide_eq_true h]at z;simp at z
 .show some (PyData.bool (!decide ((w.n:Int)=(w.n:Int))))=_
  simp
 .have:=GS (bs:=(List.range w.n).map (pK w s.w.some v f rk))
  rw[map_map]at this;rw[List.all_map]at this;exact this
def pL:Option Nat->Option Int
 |none=>none
 |some k=>some (k:Int)
theorem Ct(o:Option Nat):oI (pL o)=oD o:=by cases o<;>rfl
theorem DZ(rk:List (Option Nat)):fX (rk.map pL)=fY rk:=by
 show PyData.list ((rk.map pL).map oI)=.list (rk.map oD)
 rw[map_map];congr 1
 exact map_congr_left λo _=>Ct o
theorem GK(rk:List (Option Nat))(r:Nat):bS (rk.map pL) r=pL (bP rk r):=by
 unfold bS bP;rw[Mr,Mr,getElem?_map]
 cases rk[r]?<;>rfl
theorem vV(a b:Option Nat):fO (pL a) (pL b)=qw a b:=by
 cases a<;>cases b<;>first|rfl|skip
 rename_i a b;show decide ((a:Int)<(b:Int))=decide (a<b)
 exact decide_eq_decide.mpr (by omega)
theorem pj(a:Option Nat):(pL a).isSome=a.isSome:=by cases a<;>rfl
theorem rrI_cst{w:Wd}{any:Bool}{v f:List Nat}{rk:List (Option Nat)}{r:Nat}:pK w any v f (rk.map pL) r=u3 w any v f rk r:=by
 unfold pK u3;rw[GK];have N:((w.stp r).map λt=>(bS (rk.map pL) t).isSome)=(w.stp r).map λt=>(bP rk t).isSome:=map_congr_left λt _=>by rw[GK,pj]
 rw[N]
 cases G:bP rk r with
 |none=>rfl
 |some k=>
  have R:((w.stp r).map λt=>fO (bS (rk.map pL) t) (some (k:Int)))=(w.stp r).map λt=>qw (bP rk t) (some k):=map_congr_left λt _=>by rw[GK];exact vV _ (some k)
  show(if _ then decide (some (k:Int)=some 0)else decide ((0:Int)<(k:Int))&&(_&&cw any ((w.stp r).map λt=>fO (bS (rk.map pL) t) (some (k:Int)))))=(if _ then decide (some k=some 0)else decide (0<k)&&_)
  rw[R,show decide ((0:Int)<(k:Int))=decide (0<k)from decide_eq_decide.mpr (by omega),show decide (some (k:Int)=some 0)=decide (some k=some 0)from decide_eq_decide.mpr (by simp)]
theorem nX{w:Wd}{any:Bool}{v f:List Nat}(S:X.length=w.n)(h:(List.range w.n).all (pK w any v f X)=true):∃rk:List (Option Nat),X=rk.map pL:=by
 have a:∀(r:Nat)(k:Int),X[r]?=some (some k)->0<=k:=λr k e=>by
  have m:r<w.n:=by rw[<-S];exact(Mv e).1
  have:=List.all_eq_true.mp h r (List.mem_range.mpr m)
  have j:bS X r=some k:=by unfold bS;rw[Mr,e];rfl
  unfold pK at this;rw[j]at this;split at this
  .have:=of_decide_eq_true this
   cases this;exact Int.le_refl _
  .simp only[Bool.and_eq_true,decide_eq_true_eq]at this
   omega
 clear h S;induction X with
 |nil=>exact⟨[],rfl⟩
 |cons o X B=>
  obtain⟨rk,rfl⟩:=B λr k e=>a (r+1) k (by simpa using e)
  cases o with
  |none=>exact⟨none::rk,rfl⟩
  |some k=>exact⟨some k.toNat::rk,by rw[map_cons];congr 1;show some k=some ((k.toNat:Nat):Int);rw[Int.toNat_of_nonneg (a 0 k rfl)]⟩
abbrev iZ(g:List Int):D:=.list (g.map .int)
theorem zZ(G:List Nat):aR G=iZ (G.map λt:Nat=>(t:Int)):=by
 show PyData.list (G.map rm)=.list ((G.map λt:Nat=>(t:Int)).map .int)
 rw[map_map];rfl
theorem rn:shaped (iZ g)=true:=DU λa Z=>by
 obtain⟨t,_,e⟩:=List.mem_map.mp Z;exact⟨t,e.symm⟩
theorem Ie:∀a b:List Int,PyData.eqvAll (a.map .int) (b.map .int)=decide (a=b)
 |[],[]=>by simp[PyData.eqvAll]
 |[],y::b=>by simp[PyData.eqvAll]
 |x::a,[]=>by simp[PyData.eqvAll]
 |x::a,y::b=>by
  rw[map_cons,map_cons,PyData.eqvAll,Ie a b,PyData.eqv];by_cases Y:x=y<;>by_cases M:a=b<;>simp[Y,M]
theorem wB{a b:List Int}:bf (iZ a) (iZ b)=some (.bool (decide (a=b))):=by
 show(if shaped (iZ a)&&shaped (iZ b)then some (PyData.bool (PyData.eqv (.list (a.map .int)) (.list (b.map .int))))else none)=_
 rw[rn,rn,Bool.and_self,if_pos rfl,PyData.eqv,Ie]
theorem Ar{a b:List Int}:fE (iZ a) (iZ b)=some (.bool (!decide (a=b))):=by
 show(if shaped (iZ a)&&shaped (iZ b)then some (PyData.bool (!PyData.eqv (.list (a.map .int)) (.list (b.map .int))))else none)=_
 rw[rn,rn,Bool.and_self,if_pos rfl,PyData.eqv,Ie]
abbrev iB(s:Sn):Prop:=(s.w=.su\/s.w=.au)\/(s.w=.sa\/s.w=.aa)
abbrev LL(R:D):Prop:=R=.none\/∃X:List (Option Int),R=.list (X.map oI)/\X.length<=40
theorem wW{w P:FB}(Z:w C=.ok true C):fF w P C=.ok true C:=by unfold fF;rw[Z];rfl
theorem sj{w:Wd}(ok:w.Ok){s:Sn}{P:D}(h:iB s)(p:R=.none\/∃X,R=fX X/\X.length≠w.n):ba [w.enc,s.enc,P,R]=.ok ⟨.leaf,.bool false⟩:=by
 have G:=ok.g.lo
 refine aV (ay (dO (xf rfl) rfl (by simp[av])) (ay (aT (uJ (a:=s.w) rfl) (λz=>?_) λ_=>rfl) (gQ (aT (t:=true) (Γ1:=[MB w.enc,MB s.enc,MB P,MB R,MB (.str s.w.t),none,none]) ?_ (λ_=>aS aO rfl) nofun))))
 .exfalso
  rcases h with h|h
  .rw[decide_eq_true h]at z;cases z
  .rw[decide_eq_true h]at z;simp at z
 .rcases p with rfl|⟨X,rfl,hn⟩
  .exact wW (cD (s:=.leaf) (aB (az rfl) aO rfl))
  .refine iP (a:=false) (b:=true) (cD (s:=.leaf) (aB (az rfl) aO rfl)) (cD (s:=.leaf) (aB (g:=fE) (bX (g:=aK) (d:=.int (X.length:Int)) (aE (az rfl) aq) (by simp)) (bX (g:=aK) (d:=.int (w.n:Int)) (aE (js (j:=0) (s:=.leaf) (s2:=.leaf) (d:=.list w.os) (az rfl) aO rfl rfl rfl) aq) ?_) ?_))
   .show some (PyData.int (w.os.length:Int))=_
    rw[G]
   .rw[ne_int]
    have:((X.length:Int)==(w.n:Int))=false:=by
     rw[beq_eq_false_iff_ne];omega
    rw[this];rfl
def stB(w:Wd):Sn->Nat->Bool
 |.bi _ a _,r=>(aX w a).contains r
 |_,_=>true
def HM(w:Wd):Sn->Nat->Bool
 |.bi _ _ b,r=>(aX w b).contains r
 |.un _ a,r=>!(aX w a).contains r
 |_,_=>false
theorem DT{a b:List (Option Nat)}(e:fY a=fY b):a=b:=by
 have e:a.map oD=b.map oD:=PyData.list.inj e
 have c:∀x y:Option Nat,oD x=oD y->x=y:=λx y z=>by
  cases x<;>cases y<;>first|rfl|(cases z;done)|skip
  rename_i p q;have:((p:Int))=(q:Int):=PyData.int.inj z
  rw[Int.ofNat.inj this]
 exact(List.map_inj_right (λx y z=>c x y z)).mp e
theorem Il{w:Wd}(ok:w.Ok){s:Sn}(h:iB s):∃v f o,aW [w.enc,s.enc,cv (s.args.map (aX w))]=.ok ⟨o,.tuple [aR v,aR f]⟩/\coer .leaf ⟨o,.tuple [aR v,aR f]⟩=true/\(∀rk:List (Option Nat),rk.length=w.n->((List.range w.n).all (u3 w s.w.some v f rk)=true↔fG w s (fY rk)))/\∀r,r<w.n->v.contains r=stB w s r/\f.contains r=HM w s r:=by
 have n:∀{rk:List (Option Nat)}{any:Bool}{v f:List Nat},rk.length=w.n->((List.range w.n).all (u3 w any v f rk)=true↔∃d,fY rk=fY d/\Right w any v f d):=λ{rk any v f} S=>(ya S).trans ⟨λR=>⟨rk,rfl,R⟩,λ⟨d,e,R⟩=>by rw[DT e];exact R⟩
 have g:∀(A:List Nat) r,r<w.n->(List.range w.n).contains r=true/\((List.range w.n).filter λt=>!A.contains t).contains r=!A.contains r:=λA r m=>by
  refine⟨by simp[m],?_⟩
  rw[Bool.eq_iff_iff];simp[m]
 cases s with
 |yes=>exact absurd h (by simp[Sn.w])
 |mk c=>exact absurd h (by simp[Sn.w])
 |un k a=>
  cases k with
  |not=>exact absurd h (by simp[Sn.w,U5.w])
  |sn=>exact absurd h (by simp[Sn.w,U5.w])
  |an=>exact absurd h (by simp[Sn.w,U5.w])
  |sa=>exact⟨_,_,_,Hb ok (s:=.un .sa a) (A:=aX w a) (by simp[Sn.w,U5.w]),rfl,λrk S=>n S,λr m=>g _ r m⟩
  |aa=>exact⟨_,_,_,Hb ok (s:=.un .aa a) (A:=aX w a) (by simp[Sn.w,U5.w]),rfl,λrk S=>n S,λr m=>g _ r m⟩
 |bi k a b=>
  cases k with
  |and=>exact absurd h (by simp[Sn.w,B4.w])
  |or=>exact absurd h (by simp[Sn.w,B4.w])
  |su=>exact⟨_,_,_,Hd (s:=.bi .su a b) (A:=aX w a) (B:=aX w b) (.inl rfl),rfl,λrk S=>n S,λr m=>⟨rfl,rfl⟩⟩
  |au=>exact⟨_,_,_,Hd (s:=.bi .au a b) (A:=aX w a) (B:=aX w b) (.inr rfl),rfl,λrk S=>n S,λr m=>⟨rfl,rfl⟩⟩
theorem Hh{w:Wd}{s:Sn}(h:¬iB s):fG w s R↔R=.none:=by
 cases s with
 |yes=>exact Iff.rfl
 |mk c=>exact Iff.rfl
 |un k a=>
  cases k with
  |not=>exact Iff.rfl
  |sn=>exact Iff.rfl
  |an=>exact Iff.rfl
  |sa=>exact absurd (.inr (.inl rfl)) h
  |aa=>exact absurd (.inr (.inr rfl)) h
 |bi k a b=>
  cases k with
  |and=>exact Iff.rfl
  |or=>exact Iff.rfl
  |su=>exact absurd (.inl (.inl rfl)) h
  |au=>exact absurd (.inl (.inr rfl)) h
theorem KG{w:Wd}(ok:w.Ok){s:Sn}(p:LL R):∃B,ba [w.enc,s.enc,cv (s.args.map (aX w)),R]=.ok ⟨.leaf,.bool B⟩/\(B=true->fG w s R):=by
 by_cases A:iB s
 .rcases p with rfl|⟨zs,rfl,_⟩
  .exact⟨false,sj ok A (.inl rfl),nofun⟩
  .by_cases S:zs.length=w.n
   .obtain⟨v,f,o,N,a,I,_⟩:=Il ok A
    refine⟨_,pD ok A N a S,λz=>?_⟩
    obtain⟨rk,rfl⟩:=nX S z;show fG w s (fX (rk.map pL))
    rw[DZ];refine(I rk (by simpa using S)).mp ?_
    rw[<-z];exact List.all_congr rfl λr=>rrI_cst.symm
   .exact⟨false,sj ok A (.inr ⟨zs,rfl,S⟩),nofun⟩
 .refine⟨_,w4 (λz=>A (.inl z)) λz=>A (.inr z),λz=>(Hh A).mpr ?_⟩
  rcases p with rfl|⟨zs,rfl,_⟩
  .rfl
  .cases z
theorem Jc{w:Wd}{s:Sn}(h:fG w s R)(A:iB s):∃rk,R=fY rk/\rk.length=w.n:=by
 cases s with
 |yes=>exact absurd A (by simp[Sn.w])
 |mk c=>exact absurd A (by simp[Sn.w])
 |un k a=>
  cases k with
  |not=>exact absurd A (by simp[Sn.w,U5.w])
  |sn=>exact absurd A (by simp[Sn.w,U5.w])
  |an=>exact absurd A (by simp[Sn.w,U5.w])
  |sa=>obtain⟨rk,e,R⟩:=h;exact⟨rk,e,R.len⟩
  |aa=>obtain⟨rk,e,R⟩:=h;exact⟨rk,e,R.len⟩
 |bi k a b=>
  cases k with
  |and=>exact absurd A (by simp[Sn.w,B4.w])
  |or=>exact absurd A (by simp[Sn.w,B4.w])
  |su=>obtain⟨rk,e,R⟩:=h;exact⟨rk,e,R.len⟩
  |au=>obtain⟨rk,e,R⟩:=h;exact⟨rk,e,R.len⟩
theorem CO{a b:List Int}(h:iZ a=iZ b):a=b:=(List.map_inj_right (λx y z=>PyData.int.inj z)).mp (PyData.list.inj h)
theorem DS{w:Wd}{s:Sn}{L:List Int}(h:Pap w s (.tuple [iZ L,R,.list bs])):L=(aX w s).map (λt:Nat=>(t:Int))/\fG w s R/\bs.length=s.args.length/\∀a b,(a,b)∈s.args.zip bs->Pap w a b:=by
 generalize c:(PyData.tuple [iZ L,R,.list bs])=P at h
 cases h with
 |@mk _ R' bs' h1 h2 h3=>
  simp only[PyData.tuple.injEq,List.cons.injEq,and_true]at c
  obtain⟨N,d,I⟩:=c;have N:iZ L=aR (aX w s):=by rw[<-N]
  cases d
  cases I;exact⟨CO (N.trans (zZ _)),h1,h2,h3⟩
theorem KH{w:Wd}(ok:w.Ok){s:Sn}(p:LL R):∃B,ba [w.enc,s.enc,cv (s.args.map (aX w)),R]=.ok ⟨.leaf,.bool B⟩/\(B=true↔fG w s R):=by
 by_cases h:fG w s R
 .refine⟨true,?_,λ_=>h,λ_=>rfl⟩
  by_cases A:iB s
  .obtain⟨rk,e,S⟩:=Jc h A
   obtain⟨v,f,o,N,a,I,_⟩:=Il ok A;subst e;rw[<-DZ,pD ok A N a (by simpa using S),<-(I rk S).mpr h]
   exact congrArg (λb=>Res.ok (⟨.leaf,.bool b⟩:PV)) (List.all_congr rfl λr=>rrI_cst)
  .rw[(Hh A).mp h]
   exact w4 (λz=>A (.inl z)) λz=>A (.inr z)
 .obtain⟨B,e,i⟩:=KG ok (s:=s) p
  exact⟨B,e,i,λz=>absurd z h⟩
abbrev GQ(w:Wd)(s:Sn)(P:D)(l E:Option PV):Ev:=[MB w.enc,MB s.enc,MB P,l,E,none,none]
theorem E9{u E:Type}{p:u->E->Bool->Prop}{xs:List (u×E)}(h:∀q∈xs,∃B,p q.1 q.2 B):∃f:u->E->Bool,∀q∈xs,p q.1 q.2 (f q.1 q.2):=by
 have:∀q:u×E,∃B,q∈xs->p q.1 q.2 B:=λq=>by
  by_cases Y:q∈xs
  .obtain⟨B,j⟩:=h q Y;exact⟨B,λ_=>j⟩
  .exact⟨false,λz=>absurd z Y⟩
 obtain⟨f,g⟩:=Classical.axiomOfChoice this;exact⟨λa b=>f (a,b),λq Y=>g q Y⟩
theorem j0{w:Wd}(ok:w.Ok):∀(n:Nat)(s:Sn),s.ok->s.dep<=n->∀(k:Nat)(P:D),PT 40 k P->∃B,bL n [w.enc,s.enc,P]=.ok ⟨.leaf,.bool B⟩/\(B=true↔Pap w s P)
 |0,s,_,h=>by
  have:=s.dep_args
  omega
 |n+1,s,hs,h=>by
  intro k P y
  cases y with
  |@mk _ xs R bs ms l0 hR lb hms hb=>
  have pa:=IV s
  have ls:=s.args_le
  have u:∀l E:Option PV,ah (ab 2) (eK (.int 2)) (GQ w s (.tuple [iZ xs,R,.list bs]) l E)=.ok ⟨.leaf,.list bs⟩ (GQ w s (.tuple [iZ xs,R,.list bs]) l E):=λl E=>js (j:=2) (s:=.leaf) (s2:=.leaf) (az rfl) aO rfl rfl rfl
  have f:∀{p:PV}{g:FS},g (GQ w s (.tuple [iZ xs,R,.list bs]) (MB (.tuple (s.args.map Sn.enc))) none)=.rt p->ao (aA false 3 (ai 1 aU (ae (ab 1) af))) g (av 7 [w.enc,s.enc,.tuple [iZ xs,R,.list bs]])=.rt p:=λ{p g} hg=>ay (dO (dE (aE (az rfl) aq) pa rfl rfl) (by cases s<;>rfl) (by simp[av])) hg
  have A:aj fE (bp aK (ae (ah (ab 2) (eK (.int 2))) af)) (bp aK (ae (ab 3) af)) (GQ w s (.tuple [iZ xs,R,.list bs]) (MB (.tuple (s.args.map Sn.enc))) none)=.ok ⟨.leaf,.bool (!((bs.length:Int)==(s.args.length:Int)))⟩ (GQ w s (.tuple [iZ xs,R,.list bs]) (MB (.tuple (s.args.map Sn.enc))) none):=aB (g:=fE) (bX (g:=aK) (d:=.int (bs.length:Int)) (aE (u _ _) aq) rfl) (bX (g:=aK) (d:=.int (s.args.length:Int)) (aE (az rfl) aq) (by simp)) ne_int
  by_cases S:bs.length=s.args.length
  case neg=>
   refine⟨false,?_,nofun,λz=>absurd (DS z).2.2.1 S⟩
   show aI 7 (fq (bL n)) _=_
   refine aV (f (gQ (aT (t:=true) (Γ1:=GQ w s (.tuple [iZ xs,R,.list bs]) (MB (.tuple (s.args.map Sn.enc))) none) ?_ (λ_=>aS aO rfl) nofun)))
   have:=cD (s:=.leaf) A
   rw[show(!((bs.length:Int)==(s.args.length:Int)))=true by simp;omega]at this
   exact this
  have U:aG ag (aj fE (bp aK (ae (ah (ab 2) (eK (.int 2))) af)) (bp aK (ae (ab 3) af))) (GQ w s (.tuple [iZ xs,R,.list bs]) (MB (.tuple (s.args.map Sn.enc))) none)=.ok false (GQ w s (.tuple [iZ xs,R,.list bs]) (MB (.tuple (s.args.map Sn.enc))) none):=by
   have:=cD (s:=.leaf) A
   rw[show(!((bs.length:Int)==(s.args.length:Int)))=false by simp;omega]at this
   exact this
  obtain⟨fB,L⟩:=E9 (xs:=s.args.zip bs) (p:=λa b B=>bL n [w.enc,a.enc,b]=.ok ⟨.leaf,.bool B⟩/\(B=true↔Pap w a b)) λq Y=>by
   obtain⟨q1,q2⟩:=q;have Z:=(of_mem_zip Y).1
   have H:=(of_mem_zip Y).2
   exact j0 ok n q1 (Sn.args_ok hs q1 Z) (G4 Z h) _ q2 (hb q2 H)
  have c:fo .leaf 6 5 (ae (ab 3) (ae (ah (ab 2) (eK (.int 2))) af)) aM (ai 3 (bL n) (ae (ab 0) (ae (ab 6) (ae (ab 5) af)))) (GQ w s (.tuple [iZ xs,R,.list bs]) (MB (.tuple (s.args.map Sn.enc))) none)=.ok ⟨.lst .leaf,.list (((s.args.zip bs).map λq=>fB q.1 q.2).map .bool)⟩ (GQ w s (.tuple [iZ xs,R,.list bs]) (MB (.tuple (s.args.map Sn.enc))) none):=by
   rw[map_map];refine wU Sn.enc (λd:D=>d) (λa b=>⟨.leaf,.bool (fB a b)⟩) (xs:=s.args) (ys:=bs) (s1:=.leaf) (s2:=.leaf) ?_ (λ_ _=>rfl) rfl rfl rfl rfl rfl S.symm (by omega) λa Z b H I=>⟨?_,rfl⟩
   .have:=aE (az (Γ:=GQ w s (.tuple [iZ xs,R,.list bs]) (MB (.tuple (s.args.map Sn.enc))) none) (i:=3) rfl) (aE (u (MB (.tuple (s.args.map Sn.enc))) none) aq)
    rw[this,map_id']
   .exact dE (aE (az rfl) (aE (az rfl) (aE (az rfl) aq))) (L (a,b) I).1 rfl rfl
  have X:=GS (bs:=(s.args.zip bs).map λq=>fB q.1 q.2)
  have m:dv (aG bH (bp (cU false) (ae (fo .leaf 6 5 (ae (ab 3) (ae (ah (ab 2) (eK (.int 2))) af)) aM (ai 3 (bL n) (ae (ab 0) (ae (ab 6) (ae (ab 5) af))))) af))) (GQ w s (.tuple [iZ xs,R,.list bs]) (MB (.tuple (s.args.map Sn.enc))) none)=.ok (!((s.args.zip bs).map λq=>fB q.1 q.2).all id) (GQ w s (.tuple [iZ xs,R,.list bs]) (MB (.tuple (s.args.map Sn.enc))) none):=lU (dk (bX (aE c aq) X))
  cases v:((s.args.zip bs).map λq=>fB q.1 q.2).all id with
  |false=>
   rw[v]at m;have no:Pap w s (.tuple [iZ xs,R,.list bs])->false=true:=λz=>by
    rw[<-v];refine List.all_eq_true.mpr λx F=>?_
    obtain⟨q,Y,e⟩:=List.mem_map.mp F;rw[<-e];exact(L q Y).2.mpr ((DS z).2.2.2 q.1 q.2 Y)
   refine⟨false,?_,nofun,no⟩
   show aI 7 (fq (bL n)) _=_
   exact aV (f (ay (aT U nofun λ_=>rfl) (gQ (aT (t:=true) m (λ_=>aS aO rfl) nofun))))
  |true=>
   rw[v]at m;have C:∀a b,(a,b)∈s.args.zip bs->Pap w a b:=λa b I=>(L (a,b) I).2.mp (by
    have:=List.all_eq_true.mp v (fB a b) (List.mem_map.mpr ⟨(a,b),I,rfl⟩)
    exact this)
   have c2:aw .leaf 5 (aP (ah (ab 2) (eK (.int 2)))) aM (ah (ab 5) (eK (.int 0))) (GQ w s (.tuple [iZ xs,R,.list bs]) (MB (.tuple (s.args.map Sn.enc))) none)=.ok ⟨.lst .leaf,cv (s.args.map (aX w))⟩ (GQ w s (.tuple [iZ xs,R,.list bs]) (MB (.tuple (s.args.map Sn.enc))) none):=by
    have N:bs=(s.args.zip bs).map λp=>p.2:=by
     rw[List.map_snd_zip (by omega)]
    have es:s.args=(s.args.zip bs).map λp=>p.1:=by
     rw[List.map_fst_zip (by omega)]
    have:=nc (λp:Sn×D=>p.2) (s.args.zip bs) (λp=>⟨.leaf,aR (aX w p.1)⟩) (s:=.leaf) (i:=5) (fi:=aP (ah (ab 2) (eK (.int 2)))) (fe:=ah (ab 5) (eK (.int 0))) (st:=true) (Γ:=GQ w s (.tuple [iZ xs,R,.list bs]) (MB (.tuple (s.args.map Sn.enc))) none) (by rw[<-N,vo,u];rfl) (by simp) rfl (by rw[length_zip];omega) λp hp'=>by
     obtain⟨r,e⟩:=(C p.1 p.2 hp').fst
     exact⟨js (j:=0) (s:=.leaf) (s2:=.leaf) (ds:=aR (aX w p.1)::r) (by rw[<-e];exact az rfl) aO (by simp[fQ]) rfl rfl,rfl⟩
    rw[this];have e2:(s.args.zip bs).map (λp=>aR (aX w p.1))=(s.args.map (aX w)).map aR:=by
     rw[map_map];conv=>rhs;rw[es]
     rw[map_map];rfl
    show Out.ok (⟨.lst .leaf,.list ((s.args.zip bs).map λp=>aR (aX w p.1))⟩:PV) _=_
    rw[e2]
   obtain⟨B,hB,hBt⟩:=KH ok (s:=s) hR
   have ar:ai 4 ba (ae (ab 0) (ae (ab 1) (ae (ab 4) (ae (ah (ab 2) (eK (.int 1))) af)))) (GQ w s (.tuple [iZ xs,R,.list bs]) (MB (.tuple (s.args.map Sn.enc))) (MB (cv (s.args.map (aX w)))))=.ok ⟨.leaf,.bool B⟩ (GQ w s (.tuple [iZ xs,R,.list bs]) (MB (.tuple (s.args.map Sn.enc))) (MB (cv (s.args.map (aX w))))):=
    dE (aE (az rfl) (aE (az rfl) (aE (az rfl) (aE (js (j:=1) (s:=.leaf) (s2:=.leaf) (d:=R) (az rfl) aO rfl rfl rfl) aq)))) hB rfl rfl
   have M:∀{p:PV},aJ (cV (ai 4 ba (ae (ab 0) (ae (ab 1) (ae (ab 4) (ae (ah (ab 2) (eK (.int 1))) af))))) (aj bf (ah (ab 2) (eK (.int 0))) (ai 4 bM (ae (ab 0) (ae (ab 1) (ae (ab 4) (ae (ah (ab 2) (eK (.int 1))) af))))))) (GQ w s (.tuple [iZ xs,R,.list bs]) (MB (.tuple (s.args.map Sn.enc))) (MB (cv (s.args.map (aX w)))))=.rt p->bL (n+1) [w.enc,s.enc,.tuple [iZ xs,R,.list bs]]=.ok p:=λ{p} hr=>by
    show aI 7 (fq (bL n)) _=_
    exact aV (f (ay (aT U nofun λ_=>rfl) (ay (aT m nofun λ_=>rfl) (ay (dO c2 rfl (by simp)) hr))))
   cases B with
   |false=>
    refine⟨false,M ?_,nofun,λz=>hBt.mpr (DS z).2.1⟩
    refine aS (p:=⟨.leaf,.bool false⟩) (Γ1:=GQ w s (.tuple [iZ xs,R,.list bs]) (MB (.tuple (s.args.map Sn.enc))) (MB (cv (s.args.map (aX w))))) ?_ rfl
    rw[BQ];exact(congrArg (λo=>Out.bind o _) ar).trans rfl
   |true=>
    have G:=hBt.mp rfl
    have J:=iu ok hs G
    refine⟨_,M (aS (v_and ar (aB (g:=bf) (js (j:=0) (s:=.leaf) (s2:=.leaf) (d:=iZ xs) (az rfl) aO rfl rfl rfl) (dE (aE (az rfl) (aE (az rfl) (aE (az rfl) (aE (js (j:=1) (s:=.leaf) (s2:=.leaf) (d:=R) (az rfl) aO rfl rfl rfl) aq)))) J rfl rfl) (by rw[zZ];exact wB))) rfl),λz=>?_,λz=>by rw[Bool.true_and];exact decide_eq_true (DS z).1⟩
    rw[Bool.true_and]at z;have K:=of_decide_eq_true z
    show Pap w s (.tuple [iZ xs,R,.list bs])
    rw[K,<-zZ];exact .mk G S C
theorem y7(a:Wr):bx false (.str a.t) (.tuple [.str "all until",.str "some always"])=some (.bool (decide (a=.au\/a=.sa))):=by cases a<;>kernel_rfl
abbrev sr(w:Wd)(a:Wr)(X:List (Option Int))(r:Nat)(m go:Bool)(H f b:Option PV):Ev:=[MB w.enc,MB (.str a.t),MB (fX X),MB (rm r),MB (.bool m),MB (.bool go),H,f,b,none]
def eF(w:Wd)(X:List (Option Int))(r:Nat):List Nat:=(w.stp r).filter λt=>(bS X t).isSome
def rO(w:Wd)(X:List (Option Int))(r:Nat):List Nat:=(eF w X r).filter λt=>fO (bS X t) (bS X r)
theorem FO{l:List Nat}:bf (aR l) (.list [])=some (.bool (decide (l=[]))):=by
 have:=zt (a:=l) (b:=[])
 exact this
theorem Fw{l:List Nat}:fE (aR l) (.list [])=some (.bool (!decide (l=[]))):=by
 have:=Ar (a:=l.map λt:Nat=>(t:Int)) (b:=[])
 rw[<-zZ]at this;refine this.trans ?_
 congr 3
 exact decide_eq_decide.mpr (by simp)
section
variable{w:Wd}(ok:w.Ok){a:Wr}{zs:List (Option Int)}{r:Nat}(hl:zs.length=w.n)(hr:r<w.n){st go:Bool}
include ok hl hr
theorem u0{H:Option PV}:aA false 7 (aw .leaf 9 (aP (ah (ah (ab 0) (eK (.int 2))) (ab 3))) (aG ag (aj (bJ true) (ah (ab 2) (ab 9)) (eK .none))) (ab 9)) (sr w a zs r st go H none none)=.nx (sr w a zs r st go H (MB (aR (eF w zs r))) none):=by
 have y:=ok.at2 hr
 have c:=ui rm (w.stp r) (λt=>(bS zs t).isSome) (λt=>⟨.leaf,rm t⟩) (s:=.leaf) (i:=9) (fi:=aP (ah (ah (ab 0) (eK (.int 2))) (ab 3))) (fc:=aG ag (aj (bJ true) (ah (ab 2) (ab 9)) (eK .none))) (fe:=ab 9) (st:=true) (Γ:=sr w a zs r st go H none none) (by simp[Wd.enc,y]) (by simp) rfl (AQ ok) (λt A=>by
  have n:=kf (rk:=zs) (t:=t) (by rw[hl];exact ok.stp_lt A)
  simp[n,Js]) (λt _ _=>⟨az rfl,rfl⟩)
 exact dO c rfl (by simp)
theorem uZ{H:Option PV}(G:(bS zs r).isSome=true):aA false 8 (aw .leaf 9 (aP (ab 7)) (aG ag (aj iN (ah (ab 2) (ab 9)) (ah (ab 2) (ab 3)))) (ab 9)) (sr w a zs r st go H (MB (aR (eF w zs r))) none)=.nx (sr w a zs r st go H (MB (aR (eF w zs r))) (MB (aR (rO w zs r)))):=by
 have I:=kf (rk:=zs) (t:=r) (by omega)
 have c:=ui rm (eF w zs r) (λt=>fO (bS zs t) (bS zs r)) (λt=>⟨.leaf,rm t⟩) (s:=.leaf) (i:=9) (fi:=aP (ab 7)) (fc:=aG ag (aj iN (ah (ab 2) (ab 9)) (ah (ab 2) (ab 3)))) (fe:=ab 9) (st:=true) (Γ:=sr w a zs r st go H (MB (aR (eF w zs r))) none) (cQ (s:=.leaf) (az rfl) rfl) (by simp) rfl (Nat.le_trans (length_filter_le _ _) (AQ ok)) (λt A=>by
  obtain⟨q,Y⟩:=List.mem_filter.mp A;have n:=kf (rk:=zs) (t:=t) (by rw[hl];exact ok.stp_lt q)
  obtain⟨i,b⟩:=Option.isSome_iff_exists.mp Y;obtain⟨k,j⟩:=Option.isSome_iff_exists.mp G;rw[b]at n;rw[j]at I;have:fO (bS zs t) (bS zs r)=decide (i<k):=by rw[b,j];rfl
  rw[this];simp[I,n,oI]) (λt _ _=>⟨az rfl,rfl⟩)
 exact dO c rfl (by simp)
end
theorem rP{any:Bool}{l:List Nat}{p:Nat->Bool}:cw any (l.map p)=if any then !decide (l.filter p=[])else decide ((l.filter p).length=l.length):=by
 rw[Bool.eq_iff_iff]
 cases any with
 |true=>simp[cw]
 |false=>
  simp only[cw,Bool.false_eq_true,if_false,decide_eq_true_eq,List.length_filter_eq_length_iff]
  simp
theorem yT{w:Wd}{r:Nat}{k:Int}(j:bS X r=some k):rO w X r=(w.stp r).filter λt=>fO (bS X t) (some k):=by
 unfold rO eF;rw[List.filter_filter,j];refine List.filter_congr λt _=>?_
 cases bS X t<;>simp[fO]
theorem zy{w:Wd}(ok:w.Ok){a:Wr}(Z:(a=.su\/a=.au)\/(a=.sa\/a=.aa)){thr goal:List Nat}(S:X.length=w.n){r:Nat}(m:r<w.n):bF [w.enc,.str a.t,fX X,rm r,.bool (thr.contains r),.bool (goal.contains r)]=.ok ⟨.leaf,.bool (pK w a.some thr goal X r)⟩:=by
 have I:=kf (rk:=X) (t:=r) (by omega)
 have y:=ok.at2 m
 have h:decide (a=.au\/a=.sa)=!a.some:=by rcases Z with(rfl|rfl)|(rfl|rfl)<;>rfl
 have e:∀{x6 x7 x8:Option PV},ah (ab 2) (ab 3) (sr w a X r (thr.contains r) (goal.contains r) x6 x7 x8)=.ok ⟨.leaf,oI (bS X r)⟩ (sr w a X r (thr.contains r) (goal.contains r) x6 x7 x8):=λ{x6 x7 x8}=>by simp[I]
 have f:∀{x6 x7 x8:Option PV},bp aK (ae (ah (ah (ab 0) (eK (.int 2))) (ab 3)) af) (sr w a X r (thr.contains r) (goal.contains r) x6 x7 x8)=.ok ⟨.leaf,.int ((w.stp r).length:Int)⟩ (sr w a X r (thr.contains r) (goal.contains r) x6 x7 x8):=λ{x6 x7 x8}=>by simp[Wd.enc,y]
 refine aV ?_
 refine ay (Γ1:=sr w a X r (thr.contains r) (goal.contains r) (MB (.bool (!a.some))) none none) (dO (aB (az rfl) (cZ (aE aO (aE aO aq)) rfl rfl) ((y7 a).trans (by rw[h]))) rfl (by simp[av])) ?_
 refine ay (u0 ok S m) ?_
 unfold pK
 cases j:bS X r with
 |none=>
  rw[j]at e;refine gQ (aT (t:=true) (cD (s:=.leaf) (aB (g:=bJ false) e aO rfl)) (λ_=>?_) nofun)
  cases C:goal.contains r with
  |true=>
   rw[if_pos rfl];exact gQ (aT (t:=true) (dk (s:=.leaf) (az rfl)) (λ_=>aS aO rfl) nofun)
  |false=>
   rw[if_neg (by simp)]
   rw[C]at f;refine ay (aT (t:=false) (dk (s:=.leaf) (az rfl)) nofun λ_=>rfl) (aS (v_or (v_not (az rfl)) ?_) rfl)
   rw[rP];refine zY (b:=!a.some) (dk (s:=.leaf) (az rfl)) (λz=>?_) λz=>?_
   .have F:a.some=false:=by simpa using z
    rw[F];refine aB (g:=iN) (bX (g:=aK) (d:=.int ((eF w X r).length:Int)) (aE (az rfl) aq) (by simp)) f ?_
    rw[lt_int];congr 2
    have:=length_filter_le (λt=>(bS X t).isSome) (w.stp r)
    by_cases Y:((w.stp r).filter λt=>(bS X t).isSome).length=(w.stp r).length
    .rw[if_neg (by simp),decide_eq_true Y,decide_eq_false (by unfold eF;omega)]
     rfl
    .rw[if_neg (by simp),decide_eq_false Y,decide_eq_true (by unfold eF;omega)]
     rfl
   .have F:a.some=true:=by simpa using z
    rw[F];refine(aB (g:=bf) (az rfl) (ma (ps:=[]) aq rfl rfl rfl) FO).trans ?_
    simp[eF]
 |some k=>
  rw[j]at e;refine ay (aT (t:=false) (cD (s:=.leaf) (aB (g:=bJ false) e aO rfl)) nofun λ_=>rfl) ?_
  have c:∀{x6 x7 x8:Option PV},aj bf (ah (ab 2) (ab 3)) (eK (.int 0)) (sr w a X r (thr.contains r) (goal.contains r) x6 x7 x8)=.ok ⟨.leaf,.bool (decide (k=0))⟩ (sr w a X r (thr.contains r) (goal.contains r) x6 x7 x8):=λ{x6 x7 x8}=>aB (g:=bf) e aO (eq_int.trans (by congr 2))
  cases C:goal.contains r with
  |true=>
   rw[C]at c;rw[if_pos rfl];have l:decide (k=0)=decide (some k=some 0):=decide_eq_decide.mpr (by simp)
   rw[l]at c;exact gQ (aT (t:=true) (wW (dk (s:=.leaf) (az rfl))) (λ_=>aS (v_and (a:=true) (az rfl) c) rfl) nofun)
  |false=>
   rw[C]at c e f
   rw[if_neg (by simp)]
   by_cases o:k=0
   .rw[decide_eq_true o]at c
    refine gQ (aT (t:=true) (iP (a:=false) (b:=true) (dk (s:=.leaf) (az rfl)) (cD c)) (λ_=>aS (Γ1:=sr w a X r (thr.contains r) false (MB (.bool (!a.some))) (MB (aR (eF w X r))) none) ?_ rfl) nofun)
    have i:=v_and (a:=false) (b:=true) (fa:=ab 5) (az rfl) (c (x6:=some ⟨.leaf,.bool (!a.some)⟩) (x7:=some ⟨.leaf,aR (eF w X r)⟩) (x8:=none))
    rw[o];exact i
   .rw[decide_eq_false o]at c
    refine ay (aT (t:=false) (iP (a:=false) (b:=false) (dk (s:=.leaf) (az rfl)) (cD c)) nofun λ_=>rfl) ?_
    refine ay (uZ ok S m (by rw[j];rfl)) (aS (v_and (aB (g:=gO) e aO rfl) (v_and (az rfl) ?_)) rfl)
    rw[rP,<-yT j];refine zY (b:=!a.some) (dk (s:=.leaf) (az rfl)) (λz=>?_) λz=>?_
    .have F:a.some=false:=by simpa using z
     rw[F];refine aB (g:=bf) (bX (g:=aK) (d:=.int ((rO w X r).length:Int)) (aE (az rfl) aq) (by simp)) f ?_
     rw[eq_int];congr 2
     rw[Bool.eq_iff_iff];simp only[beq_iff_eq,Bool.false_eq_true,if_false,decide_eq_true_eq]
     omega
    .have F:a.some=true:=by simpa using z
     rw[F];exact aB (g:=fE) (az rfl) (ma (ps:=[]) aq rfl rfl rfl) Fw
theorem FC(a:Wr):bx false (.str a.t) (.tuple [.str "yes",.str "mark"])=some (.bool (decide (a=.yes\/a=.mark))):=by cases a<;>kernel_rfl
abbrev GP(w:Wd)(s:Sn)(P:D):Ev:=[MB w.enc,MB s.enc,MB P,MB (aR (List.range w.n)),MB (.str s.w.t),none]
theorem Bn{w:Wd}{a b:Sn}:gP w (λt=>(aX w a).contains t||(aX w b).contains t)=aX w (.bi .or a b):=uw λr m=>by
 rw[sA m,sA m];exact ki (by rw[Bool.or_eq_true,satB_iff,satB_iff];rfl)
theorem yc{w:Wd}{a b:Sn}:gP w (λt=>(aX w a).contains t&&(aX w b).contains t)=aX w (.bi .and a b):=uw λr m=>by
 rw[sA m,sA m];exact ki (by rw[Bool.and_eq_true,satB_iff,satB_iff];rfl)
theorem wN{w:Wd}(ok:w.Ok){s:Sn}(P:s.ok)(h:s.w=.yes\/s.w=.mark):∃o:Sh,o.isView=false/\m__law_judge [w.enc,s.enc]=.ok ⟨o,aR (aX w s)⟩:=by
 have H:=ok.h24
 have go:∀{p:PV}{cP:FS},cP (GJ w s none none none none)=.rt p->(ao (aA false 2 (rX (ae (bp aK (ae (ah (ab 0) (eK (.int 0))) af)) af))) (ao (aA false 3 (ah (ab 1) (eK (.int 0)))) cP)) (av 9 [w.enc,s.enc])=.rt p:=λ{p cP} m=>
  ay (dO (sq ok rfl) rfl (by simp[av])) (ay (dO (xf rfl) rfl (by simp[av])) m)
 cases s with
 |yes=>
  refine⟨.leaf,rfl,aV (go (gQ (aT (t:=true) (cD (s:=.leaf) (aB (az rfl) aO (wz _))) (λ_=>?_) nofun)))⟩
  have e:List.range w.n=aX w .yes:=rng_fil.trans (uw λr _=>ki (by simp[gN]))
  rw[<-e];exact aS (az rfl) rfl
 |mk c=>
  refine⟨.lst .leaf,rfl,aV (go (ay (aT (t:=false) (cD (s:=.leaf) (aB (az rfl) aO (wz _))) nofun λ_=>rfl) (gQ (aT (t:=true) (cD (s:=.leaf) (aB (az rfl) aO (zw _))) (λ_=>AX (p:=⟨.lst .leaf,aR (aX w (.mk c))⟩) ?_ rfl) nofun))))⟩
  refine FW (A:=List.range w.n) (c:=de w (.mk c)) ok rfl (by simp;omega) λt d=>?_
  have m:=List.mem_range.mp d
  have E:∀x∈w.mks t,PyData.strOk x=true:=λx F=>by
   unfold Wd.mks at F;rw[Mr,Mq (by rw[ok.lm];exact m)]at F
   exact ok.mc _ (getElem_mem _) x F
  have e:(w.mks t).contains c=de w (.mk c) t:=ki (by rw[contains_iff_mem];rfl)
  rw[<-e];simp[Sn.enc,Wd.enc,ok.at1 m,vZ (Ig P).1 E]
 |un k a=>cases k<;>simp[Sn.w,U5.w]at h
 |bi k a b=>cases k<;>simp[Sn.w,B4.w]at h
theorem tV{w:Wd}(ok:w.Ok){s:Sn}(P:s.ok)(A:¬iB s):∃o:Sh,o.isView=false/\dz [w.enc,s.enc,cv (s.args.map (aX w))]=.ok ⟨o,aR (aX w s)⟩:=by
 have H:=ok.h24
 have d:∀{p:PV}{g:FS},g (GP w s (cv (s.args.map (aX w))))=.rt p->ao (aA false 3 (rX (ae (bp aK (ae (ah (ab 0) (eK (.int 0))) af)) af))) (ao (aA false 4 (ah (ab 1) (eK (.int 0)))) g) (av 6 [w.enc,s.enc,cv (s.args.map (aX w))])=.rt p:=λ{p g} hg=>
  ay (dO (sq ok rfl) rfl (by simp[av])) (ay (dO (xf rfl) rfl (by simp[av])) hg)
 have q:aG ag (aj (bx false) (ab 4) (b4 (ae (eK (.str "yes")) (ae (eK (.str "mark")) af)))) (GP w s (cv (s.args.map (aX w))))=.ok (decide (s.w=.yes\/s.w=.mark)) (GP w s (cv (s.args.map (aX w)))):=cD (s:=.leaf) (aB (g:=bx false) (az rfl) (cZ (aE aO (aE aO aq)) rfl rfl) (FC _))
 have tN:aG ag (aj bf (ab 4) (eK (.str "not"))) (GP w s (cv (s.args.map (aX w))))=.ok (decide (s.w=.not)) (GP w s (cv (s.args.map (aX w)))):=cD (s:=.leaf) (aB (g:=bf) (az rfl) aO (C2 _))
 have tA:aG ag (aj bf (ab 4) (eK (.str "and"))) (GP w s (cv (s.args.map (aX w))))=.ok (decide (s.w=.and)) (GP w s (cv (s.args.map (aX w)))):=cD (s:=.leaf) (aB (g:=bf) (az rfl) aO (C4 _))
 have i:aG ag (aj bf (ab 4) (eK (.str "or"))) (GP w s (cv (s.args.map (aX w))))=.ok (decide (s.w=.or)) (GP w s (cv (s.args.map (aX w)))):=cD (s:=.leaf) (aB (g:=bf) (az rfl) aO (FN _))
 have l:aj bf (ab 4) (eK (.str "all next")) (GP w s (cv (s.args.map (aX w))))=.ok ⟨.leaf,.bool (decide (s.w=.an))⟩ (GP w s (cv (s.args.map (aX w)))):=aB (g:=bf) (az rfl) aO (FP _)
 have f:∀{v:FB}{c:Nat->Bool},(∀t,t<w.n->v ((GP w s (cv (s.args.map (aX w)))).set 5 (MB (rm t)))=.ok (c t) ((GP w s (cv (s.args.map (aX w)))).set 5 (MB (rm t))))->aw .leaf 5 (aP (ab 3)) v (ab 5) (GP w s (cv (s.args.map (aX w))))=.ok ⟨.lst .leaf,aR (gP w c)⟩ (GP w s (cv (s.args.map (aX w)))):=λ{v c} hc=>
  ui rm (List.range w.n) c (λt=>⟨.leaf,rm t⟩) (st:=true) (cQ (s:=.leaf) (az rfl) rfl) (by simp) rfl (by simp;omega) (λt A=>hc t (List.mem_range.mp A)) (λt A _=>⟨az rfl,rfl⟩)
 cases s with
 |yes=>
  obtain⟨o,Y,M⟩:=wN (s:=.yes) ok trivial (.inl rfl)
  exact⟨o,Y,aV (d (gQ (aT (t:=true) q (λ_=>aS (dE (aE (az rfl) (aE (az rfl) aq)) M rfl rfl) Y) nofun)))⟩
 |mk c=>
  obtain⟨o,Y,M⟩:=wN (s:=.mk c) ok P (.inr rfl)
  exact⟨o,Y,aV (d (gQ (aT (t:=true) q (λ_=>aS (dE (aE (az rfl) (aE (az rfl) aq)) M rfl rfl) Y) nofun)))⟩
 |un k a=>
  have B:∀{x5:Option PV},ah (ab 2) (eK (.int 0)) ((GP w (.un k a) (cv [aX w a])).set 5 x5)=.ok ⟨.leaf,aR (aX w a)⟩ ((GP w (.un k a) (cv [aX w a])).set 5 x5):=λ{x5}=>km (j:=0) (s:=.leaf) (s2:=.leaf) (az rfl) aO rfl rfl rfl
  cases k with
  |not=>
   refine⟨.lst .leaf,rfl,aV (d (ay (aT (t:=false) q nofun λ_=>rfl) (gQ (aT (t:=true) tN (λ_=>aS ((f (c:=λt=>!(aX w a).contains t) λt A=>?_).trans (by rw[yb])) rfl) nofun))))⟩
   exact cD (s:=.leaf) (aB (g:=bx true) (az rfl) B D0)
  |sn=>
   have e:gP w (λr=>cw (!false) ((w.stp r).map (de w a)))=aX w (.un .sn a):=uw λr m=>ki (by
    rw[led_iff];simp only[led,gN,Bool.not_false,if_true]
    exact⟨λ⟨t,A,h⟩=>⟨t,A,satB_iff.mp h⟩,λ⟨t,A,h⟩=>⟨t,A,satB_iff.mpr h⟩⟩)
   have X:=ir ok (p:=de w a) (each:=false)
   rw[e]at X;exact⟨.lst .leaf,rfl,aV (d (ay (aT (t:=false) q nofun λ_=>rfl) (ay (aT (t:=false) tN nofun λ_=>rfl) (ay (aT (t:=false) tA nofun λ_=>rfl) (ay (aT (t:=false) i nofun λ_=>rfl) (aS (dE (aE (az rfl) (aE (B (x5:=none)) (aE l aq))) X rfl rfl) rfl))))))⟩
  |an=>
   have e:gP w (λr=>cw (!true) ((w.stp r).map (de w a)))=aX w (.un .an a):=uw λr m=>ki (by
    rw[led_iff];simp only[led,gN,Bool.not_true,Bool.false_eq_true,if_false]
    exact⟨λh t A=>satB_iff.mp (h t A),λh t A=>satB_iff.mpr (h t A)⟩)
   have X:=ir ok (p:=de w a) (each:=true)
   rw[e]at X;exact⟨.lst .leaf,rfl,aV (d (ay (aT (t:=false) q nofun λ_=>rfl) (ay (aT (t:=false) tN nofun λ_=>rfl) (ay (aT (t:=false) tA nofun λ_=>rfl) (ay (aT (t:=false) i nofun λ_=>rfl) (aS (dE (aE (az rfl) (aE (B (x5:=none)) (aE l aq))) X rfl rfl) rfl))))))⟩
  |sa=>exact absurd (.inr (.inl rfl)) A
  |aa=>exact absurd (.inr (.inr rfl)) A
 |bi k a b=>
  have B:∀{x5:Option PV},ah (ab 2) (eK (.int 0)) ((GP w (.bi k a b) (cv [aX w a,aX w b])).set 5 x5)=.ok ⟨.leaf,aR (aX w a)⟩ ((GP w (.bi k a b) (cv [aX w a,aX w b])).set 5 x5):=λ{x5}=>km (j:=0) (s:=.leaf) (s2:=.leaf) (az rfl) aO rfl rfl rfl
  have I:∀{x5:Option PV},ah (ab 2) (eK (.int 1)) ((GP w (.bi k a b) (cv [aX w a,aX w b])).set 5 x5)=.ok ⟨.leaf,aR (aX w b)⟩ ((GP w (.bi k a b) (cv [aX w a,aX w b])).set 5 x5):=λ{x5}=>km (j:=1) (s:=.leaf) (s2:=.leaf) (az rfl) aO rfl rfl rfl
  cases k with
  |and=>
   refine⟨.lst .leaf,rfl,aV (d (ay (aT (t:=false) q nofun λ_=>rfl) (ay (aT (t:=false) tN nofun λ_=>rfl) (gQ (aT (t:=true) tA (λ_=>aS ((f (c:=λt=>(aX w a).contains t&&(aX w b).contains t) λt A=>?_).trans (by rw[yc])) rfl) nofun)))))⟩
   exact gC (cD (s:=.leaf) (aB (g:=bx false) (az rfl) B uh)) (cD (s:=.leaf) (aB (g:=bx false) (az rfl) I uh))
  |or=>
   refine⟨.lst .leaf,rfl,aV (d (ay (aT (t:=false) q nofun λ_=>rfl) (ay (aT (t:=false) tN nofun λ_=>rfl) (ay (aT (t:=false) tA nofun λ_=>rfl) (gQ (aT (t:=true) i (λ_=>aS ((f (c:=λt=>(aX w a).contains t||(aX w b).contains t) λt A=>?_).trans (by rw[Bn])) rfl) nofun))))))⟩
   exact iP (cD (s:=.leaf) (aB (g:=bx false) (az rfl) B uh)) (cD (s:=.leaf) (aB (g:=bx false) (az rfl) I uh))
  |su=>exact absurd (.inl (.inl rfl)) A
  |au=>exact absurd (.inl (.inr rfl)) A
theorem y6(u:Wr):d7 false (.str "until") (.str u.t)=some (.bool (decide (u=.su\/u=.au))):=by cases u<;>kernel_rfl
theorem vQ(u:Wr):d7 true (.str "until") (.str u.t)=some (.bool (!decide (u=.su\/u=.au))):=by cases u<;>kernel_rfl
theorem vR(u:Wr):d7 true (.str "always") (.str u.t)=some (.bool (!decide (u=.sa\/u=.aa))):=by cases u<;>kernel_rfl
theorem Bm{w:Wd}(ok:w.Ok){s:Sn}(A:iB s){rk:List (Option Nat)}(h:fG w s (fY rk)):aX w s=gP w λr=>(bP rk r).isSome==decide (s.w=.su\/s.w=.au):=by
 have f:∀r,(bP rk r).isSome=true↔bP rk r≠none:=λr=>by cases bP rk r<;>simp
 cases s with
 |yes=>exact absurd A (by simp[Sn.w])
 |mk c=>exact absurd A (by simp[Sn.w])
 |un k a=>
  have U:decide ((Sn.un k a).w=.su\/(Sn.un k a).w=.au)=false:=by cases k<;>rfl
  rw[U]
  cases k with
  |not=>exact absurd A (by simp[Sn.w,U5.w])
  |sn=>exact absurd A (by simp[Sn.w,U5.w])
  |an=>exact absurd A (by simp[Sn.w,U5.w])
  |sa=>
   obtain⟨d,e,R⟩:=h
   cases DT e
   refine(uw λr m=>ki ?_).symm
   rw[beq_false,Bool.not_eq_true',<-Bool.not_eq_true,f r,R.iff ok m];exact not_congr (GH ok m)
  |aa=>
   obtain⟨d,e,R⟩:=h
   cases DT e
   refine(uw λr m=>ki ?_).symm
   rw[beq_false,Bool.not_eq_true',<-Bool.not_eq_true,f r,R.iff ok m];exact not_congr (GH ok m)
 |bi k a b=>
  cases k with
  |and=>exact absurd A (by simp[Sn.w,B4.w])
  |or=>exact absurd A (by simp[Sn.w,B4.w])
  |su=>
   obtain⟨d,e,R⟩:=h
   cases DT e
   refine(uw λr m=>ki ?_).symm
   rw[show decide ((Sn.bi .su a b).w=.su\/(Sn.bi .su a b).w=.au)=true from rfl,beq_true,f r,R.iff ok m];exact GI ok m
  |au=>
   obtain⟨d,e,R⟩:=h
   cases DT e
   refine(uw λr m=>ki ?_).symm
   rw[show decide ((Sn.bi .au a b).w=.su\/(Sn.bi .au a b).w=.au)=true from rfl,beq_true,f r,R.iff ok m];exact GI ok m
theorem len_sub:∀(l m:List Int),l.Nodup->(∀x∈l,x∈m)->l.length<=m.length
 |[],_,_,_=>Nat.zero_le _
 |a::l,m,nd,h=>by
  obtain⟨b,f⟩:=List.nodup_cons.mp nd;have Z:=h a mem_cons_self
  have B:=len_sub l (m.erase a) f λx F=>(List.mem_erase_of_ne (λe:x=a=>b (e▸F))).mpr (h x (Ms _ F))
  rw[List.length_erase_of_mem Z]at B;have:0<m.length:=List.length_pos_of_mem Z
  rw[length_cons];omega
theorem xK{d:FL}{s:Sh}(S:d C=.ok [⟨s,iZ g⟩] C)(h:g.length<=60):fj d C=.ok ⟨.lst .leaf,iZ (PySem.W.sortI (iD g))⟩ C:=by
 unfold fj;rw[S];have e:T.sortArg ([(⟨s,iZ g⟩:PV)].map (·.d))=some g:=by
  show T.intsOf (g.map .int)=_
  rw[jX]
 have y:(iD g).length<=g.length:=len_sub _ _ (IU g) λx F=>ddp_mem.mp F
 show(match T.sortArg ([(⟨s,iZ g⟩:PV)].map (·.d))with|some Z=>if Z.length<4000/\(iD Z).length<64 then Out.ok (⟨.lst .leaf,.list ((PySem.W.sortI (iD Z)).map .int)⟩:PV) C else .no|none=>.no)=_
 rw[e];dsimp only;rw[if_pos ⟨by omega,by omega⟩]
theorem uU{w:Wd}{s:Sn}:PySem.W.sortI (iD ((aX w s).map λt:Nat=>(t:Int)))=(aX w s).map λt:Nat=>(t:Int):=by
 refine(PySem.W.eq_sortI ?_ ?_).symm
 .refine(List.perm_ext_iff_of_nodup ?_ (IU _)).mpr λx=>ddp_mem.symm
  rw[List.Nodup,pairwise_map];exact(List.nodup_range.filter _).imp λh e=>h (by omega)
 .rw[pairwise_map]
  exact(List.pairwise_lt_range.filter _).imp λh=>by omega
theorem rU{u:Type}(g:u->D){i:Nat}{body:FS}{Inv:Ev->Prop}{c:u->Bool}{q:PV}:∀(L:List u)(C:Ev),(∀a∈L,∀C,Inv C->i<C.length/\(c a=true->∃N,body (C.set i (MB (g a)))=.nx N/\Inv N)/\(c a=false->body (C.set i (MB (g a)))=.rt q))->Inv C ->
  (L.all c=true->∃N,bV i body (L.map g) C=.nx N/\Inv N)/\(L.all c=false->bV i body (L.map g) C=.rt q)
 |[],C,_,h=>⟨λ_=>⟨C,rfl,h⟩,nofun⟩
 |a::r,C,hb,h=>by
  obtain⟨Y,M,P⟩:=hb a mem_cons_self C h;rw[map_cons,List.all_cons]
  cases e:c a with
  |true=>
   obtain⟨I,d,j⟩:=M e;have B:=rU g r I (λb H=>hb b (Ms _ H)) j
   have f:bV i body (g a::r.map g) C=bV i body (r.map g) I:=by
    rw[bV,if_pos Y,d]
   rw[f,Bool.true_and];exact B
  |false=>
   rw[Bool.false_and];refine⟨λz=>(nomatch z),λ_=>?_⟩
   rw[bV,if_pos Y,P e]
abbrev GT(w:Wd)(s:Sn)(L:List Int)(R:D)(bs:List D)(l E K H f v:Option PV):Ev:=[MB w.enc,MB s.enc,MB (.tuple [iZ L,R,.list bs]),l,E,K,H,f,MB (iZ L),MB R,MB (.list bs),v,none,none]
abbrev gf(s:Sn):Option PV:=some ⟨.leaf,.list (s.args.map Sn.enc)⟩
abbrev gF(w:Wd):Option PV:=some ⟨.leaf,aR (List.range w.n)⟩
theorem sJ{w:Wd}{s:Sn}{L:List Int}:aA false 3 (aw .leaf 12 (eG (jZ (ab 1) (eK (.int 1)))) (aG bH (fm "tuple" (ab 12))) (ab 12)) (GT w s L R bs none none none none none none)=.nx (GT w s L R bs (gf s) none none none none none):=by
 have Kq:∀a:Sn,kH (um a.enc) "tuple"=true:=λa=>by cases a<;>rfl
 have d:(∃x,s.enc=.tuple (x::s.args.map Sn.enc))->aA false 3 (aw .leaf 12 (eG (jZ (ab 1) (eK (.int 1)))) (aG bH (fm "tuple" (ab 12))) (ab 12)) (GT w s L R bs none none none none none none)=.nx (GT w s L R bs (gf s) none none none none none):=λ⟨x,K⟩=>by
  have z:(1:Int)<=(s.args.length:Int)+1:=by omega
  have c:=ui Sn.enc s.args (λ_=>true) (λa=>⟨.leaf,a.enc⟩) (s:=.leaf) (i:=12) (fi:=eG (jZ (ab 1) (eK (.int 1)))) (fc:=aG bH (fm "tuple" (ab 12))) (fe:=ab 12) (st:=true) (Γ:=GT w s L R bs none none none none none none) (by simp[K,z]) (by simp) rfl (by have:=s.args_le;omega) (λa Z=>dk (uG (az rfl) (Kq a))) (λa Z _=>⟨az rfl,rfl⟩)
  rw[List.filter_eq_self.mpr λ_ _=>rfl]at c
  exact dO c rfl (by simp)
 cases s with
 |yes=>exact d ⟨_,rfl⟩
 |un k a=>exact d ⟨_,rfl⟩
 |bi k a b=>exact d ⟨_,rfl⟩
 |mk c=>
  have cc:=ui (λx:Str=>PyData.str x) [c] (λ_=>false) (λa=>⟨.leaf,.str a⟩) (s:=.leaf) (i:=12) (fi:=eG (jZ (ab 1) (eK (.int 1)))) (fc:=aG bH (fm "tuple" (ab 12))) (fe:=ab 12) (st:=true) (Γ:=GT w (.mk c) L R bs none none none none none none) (by simp[Sn.enc]) (by simp) rfl (by simp) (λa Z=>dk (uG (az rfl) rfl)) (λa Z z=>nomatch z)
  exact dO cc rfl (by simp)
abbrev LZ:FS:=(ao (bY (dw (aG ag (aj (d7 true) (eK (.str "until")) (ah (ab 1) (eK (.int 0))))) (aG ag (aj (d7 true) (eK (.str "always")) (ah (ab 1) (eK (.int 0)))))) (aJ (cV (aj (bJ false) (ab 9) (eK .none)) (aj bf (ab 8) (ai 3 dz (ae (ab 0) (ae (ab 1) (ae (ab 5) af))))))) aH) (ao (bY (fF (aG ag (aj (bJ false) (ab 9) (eK .none))) (aG ag (aj fE (bp aK (ae (ab 9) af)) (bp aK (ae (ab 4) af))))) (aJ (eK (.bool false))) aH) (ao (aA false 6 (aj (d7 false) (eK (.str "until")) (ah (ab 1) (eK (.int 0))))) (ao (dR 7 (aP (ab 4)) (ao (aA false 11 (kJ (aG bH (ab 6)) (aj (bx false) (ab 7) (ah (ab 5) (eK (.int 1)))) (aj (bx true) (ab 7) (ah (ab 5) (eK (.int 0)))))) (bY (dv (aG bH (ai 6 bF (ae (ab 0) (ae (ah (ab 1) (eK (.int 0))) (ae (ab 9) (ae (ab 7) (ae (wF (iq (ab 6)) (aj (bx false) (ab 7) (ah (ab 5) (eK (.int 0))))) (ae (ab 11) af))))))))) (aJ (eK (.bool false))) aH))) (aJ (aj bf (ab 8) (aw .leaf 7 (aP (ab 4)) (aG ag (aj bf (aj (bJ true) (ah (ab 9) (ab 7)) (eK .none)) (ab 6))) (ab 7))))))))
theorem lL{w:Wd}(ok:w.Ok):∀(n:Nat)(s:Sn),s.ok->s.dep<=n->∀(k:Nat)(P:D),PT 40 k P->∃B,bh n [w.enc,s.enc,P]=.ok ⟨.leaf,.bool B⟩/\(B=true↔Pap w s P)
 |0,s,_,h=>by
  have:=s.dep_args
  omega
 |n+1,s,hs,h=>by
  intro k P hP
  cases hP with
  |@mk _ xs R bs ms l0 hR lb hms hb=>
  have ls:=s.args_le
  have h24:=ok.h24
  have pre:∀{p:PV}{g:FS},g (GT w s xs R bs (gf s) (gF w) none none none none)=.rt p->ao (jG [8,9,10] (ab 2)) (ao (aA false 3 (aw .leaf 12 (eG (jZ (ab 1) (eK (.int 1)))) (aG bH (fm "tuple" (ab 12))) (ab 12))) (ao (aA false 4 (rX (ae (bp aK (ae (ah (ab 0) (eK (.int 0))) af)) af))) g)) (av 14 [w.enc,s.enc,.tuple [iZ xs,R,.list bs]])=.rt p:=λ{p g} hg=>
   ay (Γ1:=GT w s xs R bs none none none none none none) (AV (az (d:=.tuple [iZ xs,R,.list bs]) rfl) rfl rfl rfl) (ay sJ (ay (dO (sq ok rfl) rfl (by simp)) hg))
  have inv:=λC:Pap w s (.tuple [iZ xs,R,.list bs])=>DS C
  let cz:Int->Bool:=λz=>!((List.range w.n).map rm).any λy=>PyData.eqv y (.int z)
  have hcz:∀z:Int,bx true (.int z) (aR (List.range w.n))=some (.bool (cz z)):=λz=>by
   show(if shaped (.int z)&&shaped (aR (List.range w.n))then some (PyData.bool (cz z))else none)=_
   rw[xw,IB,Bool.and_self,if_pos rfl]
  have c2:aw .leaf 7 (aP (ab 8)) (aG ag (aj (bx true) (ab 7) (ab 4))) (ab 7) (GT w s xs R bs (gf s) (gF w) none none none none)=.ok ⟨.lst .leaf,iZ (xs.filter cz)⟩ (GT w s xs R bs (gf s) (gF w) none none none none):=
   ui PyData.int xs cz (λz=>⟨.leaf,.int z⟩) (st:=true) (cQ (s:=.leaf) (az rfl) rfl) (by simp) rfl (by omega) (λz U=>cD (s:=.leaf) (aB (g:=bx true) (az rfl) (az rfl) (hcz z))) (λz U _=>⟨az rfl,rfl⟩)
  have t4:fF (aG ag (aj fE (ab 8) (fj (ae (ab 8) af)))) (aG ag (aj gO (bp aK (ae (aw .leaf 7 (aP (ab 8)) (aG ag (aj (bx true) (ab 7) (ab 4))) (ab 7)) af)) (eK (.int 0)))) (GT w s xs R bs (gf s) (gF w) none none none none)=.ok (!decide (xs=PySem.W.sortI (iD xs))||decide ((0:Int)<((xs.filter cz).length:Int))) (GT w s xs R bs (gf s) (gF w) none none none none):=
   iP (cD (s:=.leaf) (aB (g:=fE) (az rfl) (xK (s:=.leaf) (aE (az rfl) aq) (by omega)) Ar)) (cD (s:=.leaf) (aB (g:=gO) (bX (g:=aK) (d:=.int ((xs.filter cz).length:Int)) (aE c2 aq) (by simp)) aO rfl))
  have p4:Pap w s (.tuple [iZ xs,R,.list bs])->(!decide (xs=PySem.W.sortI (iD xs))||decide ((0:Int)<((xs.filter cz).length:Int)))=false:=λC=>by
   obtain⟨rfl,_,_,_⟩:=inv C;rw[uU,decide_eq_true rfl,List.filter_eq_nil_iff.mpr λz U=>?_]
   .rfl
   .obtain⟨r,m,rfl⟩:=List.mem_map.mp U
    have hr':r<w.n:=List.mem_range.mp (List.mem_filter.mp m).1
    have e:=(hcz (r:Int)).symm.trans (D0 (t:=r) (r:=List.range w.n))
    simp only[Option.some.injEq,PyData.bool.injEq]at e
    rw[e];simp[hr']
  cases h4:(!decide (xs=PySem.W.sortI (iD xs))||decide ((0:Int)<((xs.filter cz).length:Int)))with
  |true=>
   rw[h4]at t4 p4
   refine⟨false,?_,λz=>(nomatch z),λC=>by cases p4 C⟩
   show aI 14 (cM (bh n)) _=_
   exact aV (pre (gQ (aT (t:=true) t4 (λ_=>aS aO rfl) nofun)))
  |false=>
  rw[h4]at t4;have lenE:aG ag (aj fE (bp aK (ae (ab 10) af)) (bp aK (ae (ab 3) af))) (GT w s xs R bs (gf s) (gF w) none none none none)=.ok (!((bs.length:Int)==(s.args.length:Int))) (GT w s xs R bs (gf s) (gF w) none none none none):=cD (s:=.leaf) (aB (g:=fE) (bX (g:=aK) (d:=.int (bs.length:Int)) (aE (az rfl) aq) rfl) (bX (g:=aK) (d:=.int (s.args.length:Int)) (aE (az rfl) aq) (by simp)) ne_int)
  by_cases S:bs.length=s.args.length
  case neg=>
   refine⟨false,?_,λz=>(nomatch z),λC=>absurd (inv C).2.2.1 S⟩
   rw[show(!((bs.length:Int)==(s.args.length:Int)))=true by simp;omega]at lenE
   show aI 14 (cM (bh n)) _=_
   exact aV (pre (ay (aT t4 nofun λ_=>rfl) (gQ (aT (t:=true) lenE (λ_=>aS aO rfl) nofun))))
  rw[show(!((bs.length:Int)==(s.args.length:Int)))=false by simp;omega]at lenE
  obtain⟨fB,hfB⟩:=E9 (xs:=s.args.zip bs) (p:=λa b B=>bh n [w.enc,a.enc,b]=.ok ⟨.leaf,.bool B⟩/\(B=true↔Pap w a b)) λq Y=>by
   obtain⟨q1,q2⟩:=q;have Z:=(of_mem_zip Y).1
   have hb':=(of_mem_zip Y).2
   exact lL ok n q1 (Sn.args_ok hs q1 Z) (G4 Z h) _ q2 (hb q2 hb')
  let fk:Nat->Bool:=λi=>fB (s.args.getD i .yes) (bs.getD i .none)
  have hfk:∀i,i<s.args.length->(s.args.getD i .yes,bs.getD i .none)∈s.args.zip bs:=λi l=>by
   refine List.mem_iff_getElem?.mpr ⟨i,?_⟩
   rw[List.getElem?_zip_eq_some,Mr,Mr,Mq l,Mq (show i<bs.length by omega)]
   exact⟨rfl,rfl⟩
  have c:=nc rm (List.range s.args.length) (λi=>⟨.leaf,.bool (fk i)⟩) (s:=.leaf) (i:=13) (fi:=gh (ae (bp aK (ae (ab 3) af)) af)) (fe:=ai 3 (bh n) (ae (ab 0) (ae (ah (ab 3) (ab 13)) (ae (ah (ab 10) (ab 13)) af)))) (st:=true) (Γ:=GT w s xs R bs (gf s) (gF w) none none none none)
   ((kq (k:=(s.args.length:Int)) (ps:=[⟨.leaf,.int (s.args.length:Int)⟩]) (aE (bX (g:=aK) (d:=.int (s.args.length:Int)) (aE (az rfl) aq) (by simp)) aq) rfl (by omega) (by omega)).trans (by rw[<-DA];rfl)) (by simp) rfl (by simp;omega) λi l=>by
    have l:=List.mem_range.mp l
    have hib:i<bs.length:=by omega
    exact⟨dE (aE (az rfl) (aE (km (s:=.leaf) (s2:=.leaf) (j:=i) (d:=(s.args.getD i .yes).enc) (az rfl) (az rfl) (m9 (by simpa using l)) (by rw[getElem?_map,Mr,Mq l];rfl) rfl) (aE (km (s:=.leaf) (s2:=.leaf) (j:=i) (d:=bs.getD i .none) (az rfl) (az rfl) (m9 hib) (by rw[Mr,Mq hib];rfl) rfl) aq))) (hfB _ (hfk i l)).1 rfl rfl,rfl⟩
  have al:=GS (bs:=(List.range s.args.length).map fk)
  rw[map_map]at al;have tAll:=lU (dk (s:=.leaf) (bX (g:=cU false) (aE c aq) al))
  have allP:((List.range s.args.length).map fk).all id=true↔∀a b,(a,b)∈s.args.zip bs->Pap w a b:=by
   rw[List.all_map,all_eq_true];constructor
   .intro hA a b hab
    obtain⟨i,l,e⟩:=List.mem_iff_getElem.mp hab;have x:i<s.args.length:=by rw[length_zip]at l;omega
    have:=hA i (List.mem_range.mpr x)
    have q:=(hfB _ (hfk i x)).2.mp this
    rw[List.getElem_zip]at e;simp only[Prod.mk.injEq]at e
    rw[<-e.1,<-e.2];rw[Mr,Mr,Mq x,Mq (show i<bs.length by omega)]at q
    exact q
   .intro hA i l
    have l:=List.mem_range.mp l
    exact(hfB _ (hfk i l)).2.mpr (hA _ _ (hfk i l))
  cases hall:((List.range s.args.length).map fk).all id with
  |false=>
   rw[hall]at tAll allP
   refine⟨false,?_,λz=>(nomatch z),λC=>by cases allP.mpr (inv C).2.2.2⟩
   show aI 14 (cM (bh n)) _=_
   exact aV (pre (ay (aT t4 nofun λ_=>rfl) (ay (aT lenE nofun λ_=>rfl) (gQ (aT (t:=true) tAll (λ_=>aS aO rfl) nofun)))))
  |true=>
  rw[hall]at tAll allP
  have C:=allP.mp rfl
  have c5:aw .leaf 12 (aP (ab 10)) aM (ah (ab 12) (eK (.int 0))) (GT w s xs R bs (gf s) (gF w) none none none none)=.ok ⟨.lst .leaf,cv (s.args.map (aX w))⟩ (GT w s xs R bs (gf s) (gF w) none none none none):=by
   have eb:bs=(s.args.zip bs).map λp=>p.2:=by
    rw[List.map_snd_zip (by omega)]
   have F:s.args=(s.args.zip bs).map λp=>p.1:=by
    rw[List.map_fst_zip (by omega)]
   have:=nc (λp:Sn×D=>p.2) (s.args.zip bs) (λp=>⟨.leaf,aR (aX w p.1)⟩) (s:=.leaf) (i:=12) (fi:=aP (ab 10)) (fe:=ah (ab 12) (eK (.int 0))) (st:=true) (Γ:=GT w s xs R bs (gf s) (gF w) none none none none) (by rw[<-eb];exact cQ (s:=.leaf) (az rfl) rfl) (by simp) rfl (by rw[length_zip];omega) λp hp'=>by
    obtain⟨r,e⟩:=(C p.1 p.2 hp').fst
    exact⟨js (j:=0) (s:=.leaf) (s2:=.leaf) (ds:=aR (aX w p.1)::r) (by rw[<-e];exact az rfl) aO (by simp[fQ]) rfl rfl,rfl⟩
   rw[this];have e2:(s.args.zip bs).map (λp=>aR (aX w p.1))=(s.args.map (aX w)).map aR:=by
    rw[map_map];conv=>rhs;rw[F]
    rw[map_map];rfl
   show Out.ok (⟨.lst .leaf,.list ((s.args.zip bs).map λp=>aR (aX w p.1))⟩:PV) _=_
   rw[e2]
  have to5:∀{p:PV},LZ (GT w s xs R bs (gf s) (gF w) (MB (cv (s.args.map (aX w)))) none none none)=.rt p->bh (n+1) [w.enc,s.enc,.tuple [iZ xs,R,.list bs]]=.ok p:=λ{p} hg=>by
   show aI 14 (cM (bh n)) _=_
   exact aV (pre (ay (aT t4 nofun λ_=>rfl) (ay (aT lenE nofun λ_=>rfl) (ay (aT tAll nofun λ_=>rfl) (ay (dO (i:=5) c5 rfl (by simp)) hg)))))
  have t8:dw (aG ag (aj (d7 true) (eK (.str "until")) (ah (ab 1) (eK (.int 0))))) (aG ag (aj (d7 true) (eK (.str "always")) (ah (ab 1) (eK (.int 0))))) (GT w s xs R bs (gf s) (gF w) (MB (cv (s.args.map (aX w)))) none none none)=.ok (!decide (s.w=.su\/s.w=.au)&&!decide (s.w=.sa\/s.w=.aa)) (GT w s xs R bs (gf s) (gF w) (MB (cv (s.args.map (aX w)))) none none none):=
   gC (cD (s:=.leaf) (aB (g:=d7 true) aO (xf rfl) (vQ _))) (cD (s:=.leaf) (aB (g:=d7 true) aO (xf rfl) (vR _)))
  by_cases A:iB s
  case neg=>
   rw[decide_eq_false (λz=>A (.inl z)),decide_eq_false (λz=>A (.inr z))]at t8
   obtain⟨o,f,hpl⟩:=tV ok hs A;refine⟨bW R&&decide (xs=(aX w s).map λt:Nat=>(t:Int)),?_,?_⟩
   .exact to5 (gQ (aT (t:=true) t8 (λ_=>aS (v_and (aB (g:=bJ false) (az rfl) aO rfl) (aB (g:=bf) (az rfl) (dE (aE (az rfl) (aE (az rfl) (aE (az rfl) aq))) hpl rfl rfl) (by rw[zZ];exact wB))) rfl) nofun))
   .rw[Bool.and_eq_true,decide_eq_true_eq]
    constructor
    .rintro⟨L,rfl⟩
     have:R=.none:=by
      rcases hR with rfl|⟨X,rfl,_⟩
      .rfl
      .cases L
     show Pap w s (.tuple [iZ _,R,.list bs])
     rw[<-zZ];exact .mk ((Hh A).mpr this) S C
    .intro Y
     obtain⟨e1,e2,_⟩:=inv Y;exact⟨by rw[(Hh A).mp e2];rfl,e1⟩
  have t8':(!decide (s.w=.su\/s.w=.au)&&!decide (s.w=.sa\/s.w=.aa))=false:=by
   rcases A with z|z
   .rw[decide_eq_true z];rfl
   .rw[decide_eq_true z];simp
  rw[t8']at t8;have badR:(R=.none\/∃X,R=fX X/\X.length≠w.n)->∃B,bh (n+1) [w.enc,s.enc,.tuple [iZ xs,R,.list bs]]=.ok ⟨.leaf,.bool B⟩/\(B=true↔Pap w s (.tuple [iZ xs,R,.list bs])):=λhbad=>by
   refine⟨false,?_,λz=>(nomatch z),λY=>?_⟩
   .refine to5 (ay (aT t8 nofun λ_=>rfl) (gQ (aT (t:=true) (Γ1:=GT w s xs R bs (gf s) (gF w) (MB (cv (s.args.map (aX w)))) none none none) ?_ (λ_=>aS aO rfl) nofun)))
    rcases hbad with rfl|⟨X,rfl,hne⟩
    .exact wW (cD (s:=.leaf) (aB (az rfl) aO rfl))
    .refine iP (a:=false) (b:=true) (cD (s:=.leaf) (aB (az rfl) aO rfl)) (cD (s:=.leaf) (aB (g:=fE) (bX (g:=aK) (d:=.int (X.length:Int)) (aE (az rfl) aq) (by simp)) (bX (g:=aK) (d:=.int (w.n:Int)) (aE (az rfl) aq) (by simp)) ?_))
     rw[ne_int,show((X.length:Int)==(w.n:Int))=false by rw[beq_eq_false_iff_ne];omega]
     rfl
   .obtain⟨rk,er,hlr⟩:=Jc (inv Y).2.1 A
    rcases hbad with rfl|⟨X,rfl,hne⟩
    .cases er
    .have:=congrArg List.length (PyData.list.inj er)
     simp only[length_map]at this
     omega
  rcases hR with rfl|⟨X,rfl,lz⟩
  .exact badR (.inl rfl)
  by_cases U:X.length=w.n
  case neg=>exact badR (.inr ⟨X,rfl,U⟩)
  obtain⟨thr,goal,o,e1,e2,I,e4⟩:=Il ok A;let u:Bool:=decide (s.w=.su\/s.w=.au)
  let be:D:=cv (s.args.map (aX w))
  have t9:fF (aG ag (aj (bJ false) (ab 9) (eK .none))) (aG ag (aj fE (bp aK (ae (ab 9) af)) (bp aK (ae (ab 4) af)))) (GT w s xs (fX X) bs (gf s) (gF w) (MB be) none none none)=.ok false (GT w s xs (fX X) bs (gf s) (gF w) (MB be) none none none):=by
   refine iP (a:=false) (b:=false) (cD (s:=.leaf) (aB (az rfl) aO rfl)) (cD (s:=.leaf) (aB (g:=fE) (bX (g:=aK) (d:=.int (X.length:Int)) (aE (az rfl) aq) (by simp)) (bX (g:=aK) (d:=.int (w.n:Int)) (aE (az rfl) aq) (by simp)) ?_))
   rw[ne_int,U];simp
  have w6:aj (d7 false) (eK (.str "until")) (ah (ab 1) (eK (.int 0))) (GT w s xs (fX X) bs (gf s) (gF w) (MB be) none none none)=.ok ⟨.leaf,.bool u⟩ (GT w s xs (fX X) bs (gf s) (gF w) (MB be) none none none):=aB (g:=d7 false) aO (xf rfl) (y6 _)
  have H:∀(r:Nat)(v:Option PV),kJ (aG bH (ab 6)) (aj (bx false) (ab 7) (ah (ab 5) (eK (.int 1)))) (aj (bx true) (ab 7) (ah (ab 5) (eK (.int 0)))) (GT w s xs (fX X) bs (gf s) (gF w) (MB be) (MB (.bool u)) (MB (rm r)) v)=.ok ⟨.leaf,.bool (HM w s r)⟩ (GT w s xs (fX X) bs (gf s) (gF w) (MB be) (MB (.bool u)) (MB (rm r)) v) /\
    wF (iq (ab 6)) (aj (bx false) (ab 7) (ah (ab 5) (eK (.int 0)))) (GT w s xs (fX X) bs (gf s) (gF w) (MB be) (MB (.bool u)) (MB (rm r)) v)=.ok ⟨.leaf,.bool (stB w s r)⟩ (GT w s xs (fX X) bs (gf s) (gF w) (MB be) (MB (.bool u)) (MB (rm r)) v):=λr v=>by
   cases s with
   |yes=>exact absurd A (by simp[Sn.w])
   |mk c=>exact absurd A (by simp[Sn.w])
   |un k a=>
    have E:u=false:=by cases k<;>rfl
    rw[E];exact⟨zY (b:=false) (dk (s:=.leaf) (az rfl)) nofun λ_=>aB (g:=bx true) (az rfl) (km (j:=0) (s:=.leaf) (s2:=.leaf) (d:=aR (aX w a)) (az rfl) aO rfl rfl rfl) D0,v_or (a:=true) (v_not (b:=false) (az rfl)) (aB (g:=bx false) (az rfl) (km (j:=0) (s:=.leaf) (s2:=.leaf) (d:=aR (aX w a)) (az rfl) aO rfl rfl rfl) uh)⟩
   |bi k a b=>
    have E:u=true:=by
     cases k with
     |and=>exact absurd A (by simp[Sn.w,B4.w])
     |or=>exact absurd A (by simp[Sn.w,B4.w])
     |su=>rfl
     |au=>rfl
    rw[E];exact⟨zY (b:=true) (dk (s:=.leaf) (az rfl)) (λ_=>aB (g:=bx false) (az rfl) (km (j:=1) (s:=.leaf) (s2:=.leaf) (d:=aR (aX w b)) (az rfl) aO rfl rfl rfl) uh) nofun,v_or (a:=false) (v_not (b:=true) (az rfl)) (aB (g:=bx false) (az rfl) (km (j:=0) (s:=.leaf) (s2:=.leaf) (d:=aR (aX w a)) (az rfl) aO rfl rfl rfl) uh)⟩
  have loop:=rU rm (i:=7) (body:=ao (aA false 11 (kJ (aG bH (ab 6)) (aj (bx false) (ab 7) (ah (ab 5) (eK (.int 1)))) (aj (bx true) (ab 7) (ah (ab 5) (eK (.int 0)))))) (bY (dv (aG bH (ai 6 bF (ae (ab 0) (ae (ah (ab 1) (eK (.int 0))) (ae (ab 9) (ae (ab 7) (ae (wF (iq (ab 6)) (aj (bx false) (ab 7) (ah (ab 5) (eK (.int 0))))) (ae (ab 11) af))))))))) (aJ (eK (.bool false))) aH))
   (Inv:=λΓ=>∃x7 v,Γ=GT w s xs (fX X) bs (gf s) (gF w) (MB be) (MB (.bool u)) x7 v) (c:=pK w s.w.some thr goal X) (q:=⟨.leaf,.bool false⟩) (List.range w.n) (GT w s xs (fX X) bs (gf s) (gF w) (MB be) (MB (.bool u)) none none) (λr m Γ ⟨x7,v,K⟩=>by
    subst K;have m:=List.mem_range.mp m
    have q:=zy ok A (thr:=thr) (goal:=goal) U m
    rw[(e4 r m).1,(e4 r m).2]at q;have tc:dv (aG bH (ai 6 bF (ae (ab 0) (ae (ah (ab 1) (eK (.int 0))) (ae (ab 9) (ae (ab 7) (ae (wF (iq (ab 6)) (aj (bx false) (ab 7) (ah (ab 5) (eK (.int 0))))) (ae (ab 11) af)))))))) (GT w s xs (fX X) bs (gf s) (gF w) (MB be) (MB (.bool u)) (MB (rm r)) (MB (.bool (HM w s r))))=.ok (!pK w s.w.some thr goal X r) (GT w s xs (fX X) bs (gf s) (gF w) (MB be) (MB (.bool u)) (MB (rm r)) (MB (.bool (HM w s r)))):=
     lU (dk (s:=.leaf) (dE (aE (az rfl) (aE (xf rfl) (aE (az rfl) (aE (az rfl) (aE (H r _).2 (aE (az rfl) aq)))))) q rfl rfl))
    refine⟨by simp,λJ=>?_,λJ=>?_⟩
    .rw[J]at tc
     exact⟨_,ay (dO (H r v).1 rfl (by simp)) (aT tc nofun λ_=>rfl),_,_,rfl⟩
    .rw[J]at tc
     exact ay (dO (H r v).1 rfl (by simp)) (aT (t:=true) tc (λ_=>aS aO rfl) nofun)) ⟨none,none,rfl⟩
  have it4:aP (ab 4) (GT w s xs (fX X) bs (gf s) (gF w) (MB be) (MB (.bool u)) none none)=.ok ⟨(List.range w.n).map rm,true⟩ (GT w s xs (fX X) bs (gf s) (gF w) (MB be) (MB (.bool u)) none none):=cQ (s:=.leaf) (az rfl) rfl
  have castR:∀rk:List (Option Nat),fX X=fY rk->X=rk.map pL:=λrk er=>Ih (PyData.list.inj (er.trans (DZ rk).symm))
  have same:∀rk:List (Option Nat),(List.range w.n).all (pK w s.w.some thr goal (rk.map pL))=(List.range w.n).all (u3 w s.w.some thr goal rk):=λrk=>List.all_congr rfl λr=>rrI_cst
  cases G:(List.range w.n).all (pK w s.w.some thr goal X)with
  |false=>
   refine⟨false,to5 (ay (aT t8 nofun λ_=>rfl) (ay (aT t9 nofun λ_=>rfl) (ay (dO w6 rfl (by simp)) (gQ (gU it4 (loop.2 G)))))),λz=>(nomatch z),λY=>?_⟩
   have rkq:=(inv Y).2.1
   obtain⟨rk,er,hlr⟩:=Jc rkq A;have ez:=castR rk er
   rw[ez,same rk,(I rk hlr).mpr (by rw[<-er];exact rkq)]at G
   cases G
  |true=>
   obtain⟨rk,ez⟩:=nX U G;have rkq:fG w s (fX X):=by
    rw[ez,DZ];refine(I rk (by rw[<-U,ez];simp)).mp ?_
    rw[<-same rk,<-ez];exact G
   have er:aX w s=gP w λr=>(bS X r).isSome==u:=by
    rw[Bm ok A (rk:=rk) (by rw[<-DZ,<-ez];exact rkq)]
    refine uw λr _=>?_
    rw[ez,GK,pj]
   obtain⟨N,eL,x7,v,K⟩:=loop.1 G;subst K;have cf:aw .leaf 7 (aP (ab 4)) (aG ag (aj bf (aj (bJ true) (ah (ab 9) (ab 7)) (eK .none)) (ab 6))) (ab 7) (GT w s xs (fX X) bs (gf s) (gF w) (MB be) (MB (.bool u)) x7 v)=.ok ⟨.lst .leaf,aR (aX w s)⟩ (GT w s xs (fX X) bs (gf s) (gF w) (MB be) (MB (.bool u)) x7 v):=by
    rw[er];refine ui rm (List.range w.n) (λr=>(bS X r).isSome==u) (λt=>⟨.leaf,rm t⟩) (st:=true) (cQ (s:=.leaf) (az rfl) rfl) (by simp) rfl (by simp;omega) (λt M=>?_) (λt M _=>⟨az rfl,rfl⟩)
    have a3:=kf (rk:=X) (t:=t) (by rw[U];exact List.mem_range.mp M)
    refine cD (s:=.leaf) (aB (g:=bf) (aB (g:=bJ true) (p:=⟨.leaf,oI (bS X t)⟩) (by simp[a3]) aO rfl) (az rfl) ?_)
    rw[rJ,Js];generalize (bS X t).isSome=p
    generalize u=q
    cases p<;>cases q<;>rfl
   refine⟨decide (xs=(aX w s).map λt:Nat=>(t:Int)),to5 (ay (aT t8 nofun λ_=>rfl) (ay (aT t9 nofun λ_=>rfl) (ay (dO w6 rfl (by simp)) (ay (gU it4 eL) (aS (aB (g:=bf) (az rfl) cf (by rw[zZ];exact wB)) rfl))))),?_⟩
   rw[decide_eq_true_eq];constructor
   .rintro rfl
    show Pap w s (.tuple [iZ _,fX X,.list bs])
    rw[<-zZ];exact .mk rkq S C
   .exact λY=>(inv Y).1
theorem oZ:∀(n k:Nat)(P:D),PT 40 k P->k<n->∃o:Sh,o.isView=false/\cg n [P]=.ok ⟨o,P⟩
 |0,k,P,_,h=>absurd h (Nat.not_lt_zero _)
 |n+1,k,P,hP,h=>by
  cases hP with
  |@mk _ xs R bs ms l0 hR lb hms hb=>
  have B:ck (ah (ab 0) (eK (.int 0))) (av 2 [.tuple [iZ xs,R,.list bs]])=.ok ⟨.lst .leaf,iZ xs⟩ (av 2 [.tuple [iZ xs,R,.list bs]]):=DY (js (j:=0) (s:=.leaf) (s2:=.leaf) (az rfl) aO rfl rfl rfl) rfl
  have I:ah (ab 0) (eK (.int 1)) (av 2 [.tuple [iZ xs,R,.list bs]])=.ok ⟨.leaf,R⟩ (av 2 [.tuple [iZ xs,R,.list bs]]):=js (j:=1) (s:=.leaf) (s2:=.leaf) (az rfl) aO rfl rfl rfl
  have r:∀d:D,∃o:Sh,d∈bs->o.isView=false/\cg n [d]=.ok ⟨o,d⟩:=λd=>by
   by_cases y:d∈bs
   .obtain⟨o,Y,M⟩:=oZ n (ms d) d (hb d y) (by have:=hms d y;omega)
    exact⟨o,λ_=>⟨Y,M⟩⟩
   .exact⟨.leaf,λz=>absurd z y⟩
  obtain⟨f,a⟩:=Classical.axiomOfChoice r;have c:=nc (λd:D=>d) bs (λd=>⟨f d,d⟩) (s:=.leaf) (i:=1) (fi:=aP (ah (ab 0) (eK (.int 2)))) (fe:=ai 1 (cg n) (ae (ab 1) af)) (st:=true) (Γ:=av 2 [.tuple [iZ xs,R,.list bs]]) (by rw[map_id'];exact cQ (s:=.leaf) (js (j:=2) (s:=.leaf) (s2:=.leaf) (az rfl) aO rfl rfl rfl) rfl) (by simp[av]) rfl (by omega) λd y=>⟨dE (aE (az rfl) aq) (a d y).2 rfl rfl,rZ (a d y).1⟩
  rw[map_id']at c;show ∃o:Sh,o.isView=false/\aI 2 (i8 (cg n)) [.tuple [iZ xs,R,.list bs]]=.ok ⟨o,.tuple [iZ xs,R,.list bs]⟩
  rcases hR with rfl|⟨zs,rfl,lz⟩
  .exact⟨.tup [.lst .leaf,.leaf,.lst .leaf],rfl,aV (aS (cZ (aE B (aE (zY (b:=true) (cD (s:=.leaf) (aB (g:=bJ false) I aO rfl)) (λ_=>aO) nofun) (aE c aq))) rfl rfl) rfl)⟩
  .exact⟨.tup [.lst .leaf,.lst .leaf,.lst .leaf],rfl,aV (aS (cZ (aE B (aE (zY (b:=false) (cD (s:=.leaf) (aB (g:=bJ false) I aO rfl)) nofun λ_=>DY (s:=.leaf) I rfl) (aE c aq))) rfl rfl) rfl)⟩
theorem sf{xs:List D}{m:Nat}(h:∀d∈xs,d.canLay0=true/\d.depth<=m):PyData.canLayAll0 xs=true/\PyData.depthAll xs<=m:=by
 induction xs with
 |nil=>exact⟨by simp[PyData.canLayAll0],by simp[PyData.depthAll]⟩
 |cons d xs B=>
  have Y:=h d mem_cons_self
  have M:=B λe R=>h e (Ms _ R)
  exact⟨by simp[PyData.canLayAll0,Y.1,M.1],by rw[PyData.depthAll];exact Nat.max_le.mpr ⟨Y.2,M.2⟩⟩
theorem EW{P:D}(h:PT 40 k P):P.canLay0=true/\P.depth<=2*k+2:=by
 induction h with
 |@mk n xs R bs ms l0 hR lb hms hb ih=>
  have a:PyData.canLayAll0 (xs.map .int)=true/\PyData.depthAll (xs.map .int)<=0:=sf λd y=>by
   obtain⟨z,_,rfl⟩:=List.mem_map.mp y;exact⟨rfl,by simp[PyData.depth]⟩
  have J:R.canLay0=true/\R.depth<=1:=by
   rcases hR with rfl|⟨zs,rfl,_⟩
   .exact⟨rfl,by simp[PyData.depth]⟩
   .have:=sf (xs:=zs.map oI) (m:=0) λd y=>by
     obtain⟨o,_,rfl⟩:=List.mem_map.mp y
     cases o<;>exact⟨rfl,by simp[oI,PyData.depth]⟩
    exact⟨by simp only[PyData.canLay0];exact this.1,by simp only[PyData.depth];omega⟩
  have p:PyData.canLayAll0 bs=true/\PyData.depthAll bs<=2*n:=sf λd y=>⟨(ih d y).1,by have:=(ih d y).2;have:=hms d y;omega⟩
  refine⟨by simp only[PyData.canLay0,PyData.canLayAll0,a.1,J.1,p.1,Bool.and_self],?_⟩
  have b:=a.2
  have F:=J.2
  have i:=p.2
  simp only[PyData.depth,PyData.depthAll]
  refine Nat.succ_le_succ (Nat.max_le.mpr ⟨by omega,Nat.max_le.mpr ⟨by omega,Nat.max_le.mpr ⟨by omega,by omega⟩⟩⟩)
theorem zO{w:Wd}(ok:w.Ok){s:Sn}(c:s.ok)(Y:s.size<=200)(M:s.dep<=24){P:D}(y:PT 40 24 P):∃B,dH [w.enc,s.enc,P]=.ok ⟨.leaf,.bool B⟩/\dA [w.enc,s.enc,P]=.ok ⟨.leaf,.bool B⟩:=by
 obtain⟨B,N,I⟩:=j0 ok 30 s c (by omega) 24 P y
 obtain⟨b,R,u⟩:=lL ok 30 s c (by omega) 24 P y
 have a:dH [w.enc,s.enc,P]=.ok ⟨.leaf,.bool B⟩:=aV (ay (rf (dE (aE (az rfl) aq) ok.check rfl rfl)) (ay (rf (dE (aE (az rfl) aq) (dJ c Y M) rfl rfl)) (aS (dE (aE (az rfl) (aE (az rfl) (aE (az rfl) aq))) N rfl rfl) rfl)))
 have:B=b:=by rw[Bool.eq_iff_iff,u,I]
 exact⟨B,a,by rw[this];exact R⟩
abbrev FF:FS:=(ao (aA false 10 (aY .leaf (ae (ai 1 df (ae (ab 1) af)) (ae (ai 1 fN (ae (ab 8) af)) af)))) (ao (aA false 11 (ai 3 dH (ae (ah (ab 10) (eK (.int 0))) (ae (ab 7) (ae (ah (ab 10) (eK (.int 1))) af))))) (aJ (cV (fm "bool" (ab 11)) (cV (aj bf (ab 11) (ai 3 dA (ae (ab 1) (ae (ab 7) (ae (ab 8) af))))) (aj bf (ab 10) (aY .leaf (ae (ab 1) (ae (ab 8) af)))))))))
abbrev AG(L:List D)(w:Wd)(s:Sn)(Z l E K H b c a v x r:Option PV):Ev:=[MB (.list L),MB w.enc,Z,l,E,K,H,MB s.enc,b,c,a,v,x,r]
theorem tL{w:Wd}(ok:w.Ok):PyData.canLay0 w.enc=true/\PyData.depth w.enc<=3:=by
 have h:=ok.g.wk (b:=24) ok.h24
 have o:=FX h.o
 have m:=se λr a=>let⟨L,e,q,_⟩:=h.m r a;⟨L,e,KF q⟩
 have s:=se λr a=>let⟨L,e,q,_⟩:=h.s r a;⟨L,e,FX q⟩
 simp only[Wd.enc,nH,PyData.canLay0,PyData.canLayAll0,PyData.depth,PyData.depthAll,o.1,m.1,s.1,o.2,Bool.and_self,Bool.true_and,true_and]
 have:=m.2
 have:=s.2
 omega
theorem xY{w:Wd}(ok:w.Ok){P:D}(e:PT 40 24 P):shaped (.list [w.enc,P])=true:=by
 have a:=tL ok
 have b:=EW e
 unfold shaped;have c:=sf (xs:=[w.enc,P]) (m:=63) λd y=>by
  rcases Mp y with rfl|y
  .exact⟨a.1,by have:=a.2;omega⟩
  .rw[List.mem_singleton.mp y]
   exact⟨b.1,by have:=b.2;omega⟩
 rw[Bool.and_eq_true,decide_eq_true_eq];exact⟨by simp only[PyData.canLay0];exact c.1,by simp only[PyData.depth];have:=c.2;omega⟩
theorem sQ{w:Wd}(ok:w.Ok){s:Sn}(e:s.ok)(Y:s.size<=200)(M:s.dep<=24){P:D}(y:PT 40 24 P){Z E K H c r:Option PV}:FF (AG L w s Z l E K H (MB P) c none none x r)=.rt ⟨.leaf,.bool true⟩:=by
 obtain⟨B,N,R⟩:=zO ok e Y M y;obtain⟨o,f,m⟩:=oZ 30 24 P y (by omega)
 refine ay (Γ1:=AG L w s Z l E K H (MB P) c (MB (.list [w.enc,P])) none x r) (dO (ma (ps:=[⟨W3,w.enc⟩,⟨o,P⟩]) (aE (dE (aE (az rfl) aq) (tR ok) rfl rfl) (aE (dE (aE (az rfl) aq) m rfl rfl) aq)) rfl (by simp[coer,f]) rfl) rfl (by simp)) ?_
 refine ay (Γ1:=AG L w s Z l E K H (MB P) c (MB (.list [w.enc,P])) (MB (.bool B)) x r) (dO (dE (aE (km (j:=0) (s:=.leaf) (s2:=.leaf) (d:=w.enc) (az rfl) aO rfl rfl rfl) (aE (az rfl) (aE (km (j:=1) (s:=.leaf) (s2:=.leaf) (d:=P) (az rfl) aO rfl rfl rfl) aq))) N rfl rfl) rfl (by simp)) ?_
 refine aS (v_and (a:=true) (b:=true) (uG (az rfl) rfl) (v_and (a:=true) (b:=true) (aB (g:=bf) (az rfl) (dE (aE (az rfl) (aE (az rfl) (aE (az rfl) aq))) R rfl rfl) (by cases B<;>rfl)) (aB (g:=bf) (az rfl) (ma (ps:=[⟨.leaf,w.enc⟩,⟨.leaf,P⟩]) (aE (az rfl) (aE (az rfl) aq)) rfl rfl rfl) (wA (xY ok y))))) rfl
theorem w5{Γ:Ev}{fb:F1}{s:Sh}{z:Int}(U:fb Γ=.ok ⟨s,.int (z % 3)⟩ Γ):∃c:Str,c∈ig/\ah (eK (.str "abc")) fb Γ=.ok ⟨.leaf,.str c⟩ Γ:=by
 obtain⟨k,G,P⟩:∃k:Nat,z % 3=k/\k<3:=⟨(z % 3).toNat,by omega,by omega⟩
 rw[G]at U;match k,P,U with
 |0,_,U=>exact⟨"a",by decide +kernel,GF (x := "abc") (c:=97) aO U (by decide +kernel) rfl⟩
 |1,_,U=>exact⟨"b",by decide +kernel,GF (x := "abc") (c:=98) aO U (by decide +kernel) rfl⟩
 |2,_,U=>exact⟨"c",by decide +kernel,GF (x := "abc") (c:=99) aO U (by decide +kernel) rfl⟩
theorem tU{p:Sn}(C:p.ok):∃(q:Sn)(sh:Sh),sh.isView=false/\cJ [.int c,p.enc]=.ok ⟨sh,q.enc⟩/\q.ok/\q.size<=p.size+2/\q.dep<=max p.dep 1+1:=by
 obtain⟨k,G,m⟩:∃k:Nat,c % 4=k/\k<4:=⟨(c % 4).toNat,by omega,by omega⟩
 have e:∀{x2:Option PV},aj bj (ab 0) (eK (.int 4)) [MB (.int c),MB p.enc,x2]=.ok ⟨.leaf,.int (k:Int)⟩ [MB (.int c),MB p.enc,x2]:=λ{x2}=>by
  rw[<-G];exact aB (g:=bj) (az rfl) aO (cH (by decide))
 have b:∀{u:Str},([.str "some until",.str "all until",.str "some always",.str "all always"]:List D)[k]?=some (.str u)->aA false 2 (ah (aY .leaf (ae (eK (.str "some until")) (ae (eK (.str "all until")) (ae (eK (.str "some always")) (ae (eK (.str "all always")) af))))) (aj bj (ab 0) (eK (.int 4)))) (av 3 [.int c,p.enc])=.nx [MB (.int c),MB p.enc,MB (.str u)]:=λ{u} hu=>dO (km (j:=k) (s:=.lst .leaf) (s2:=.leaf) (ma (ps:=[⟨.leaf,.str "some until"⟩,⟨.leaf,.str "all until"⟩,⟨.leaf,.str "some always"⟩,⟨.leaf,.str "all always"⟩]) (aE aO (aE aO (aE aO (aE aO aq)))) rfl rfl rfl) (e (x2:=none)) (m9 m) hu rfl) rfl (by simp[av])
 have K:=λu:Str=>w5 (Γ:=[MB (.int c),MB p.enc,MB (.str u)]) (fb:=aj bj (aj bO (ab 0) (eK (.int 4))) (eK (.int 3))) (s:=.leaf) (z:=c / 4) (xM rfl (by decide) (by decide) (by decide))
 have a:∀{u:Str},aG ag (aj iN (aj bj (ab 0) (eK (.int 4))) (eK (.int 2))) [MB (.int c),MB p.enc,MB (.str u)]=.ok (decide ((k:Int)<2)) [MB (.int c),MB p.enc,MB (.str u)]:=λ{u}=>cD (s:=.leaf) (aB (g:=iN) e aO lt_int)
 have h:k=0\/k=1\/k=2\/k=3:=by omega
 rcases h with rfl|rfl|rfl|rfl
 .obtain⟨l,S,K⟩:=K "some until"
  exact⟨.bi .su p (.mk l),_,rfl,aV (ay (b (u := "some until") rfl) (gQ (aT (t:=true) a (λ_=>aS (cZ (aE (az rfl) (aE (az rfl) (aE (cZ (aE aO (aE K aq)) rfl rfl) aq))) rfl rfl) rfl) nofun))),⟨C,S⟩,by simp[Sn.size],by simp[Sn.dep]⟩
 .obtain⟨l,S,K⟩:=K "all until"
  exact⟨.bi .au p (.mk l),_,rfl,aV (ay (b (u := "all until") rfl) (gQ (aT (t:=true) a (λ_=>aS (cZ (aE (az rfl) (aE (az rfl) (aE (cZ (aE aO (aE K aq)) rfl rfl) aq))) rfl rfl) rfl) nofun))),⟨C,S⟩,by simp[Sn.size],by simp[Sn.dep]⟩
 .exact⟨.un .sa p,_,rfl,aV (ay (b (u := "some always") rfl) (ay (aT (t:=false) a nofun λ_=>rfl) (aS (cZ (aE (az rfl) (aE (az rfl) aq)) rfl rfl) rfl))),C,by simp[Sn.size],by simp[Sn.dep];omega⟩
 .exact⟨.un .aa p,_,rfl,aV (ay (b (u := "all always") rfl) (ay (aT (t:=false) a nofun λ_=>rfl) (aS (cZ (aE (az rfl) (aE (az rfl) aq)) rfl rfl) rfl))),C,by simp[Sn.size],by simp[Sn.dep];omega⟩
abbrev nK:FS:=(ao (aA false 12 (b4 (ae (eK (.str "mark")) (ae (ah (eK (.str "abc")) (aj bj (aj bO (aj bO (ab 2) (eK (.int 10))) (aj aQ (aj il (eK (.int 5)) (ab 6)) (eK (.int 1)))) (eK (.int 3)))) af)))) (ao (bY (aG ag (aj bf (aj bj (aj bO (aj bO (ab 2) (eK (.int 90))) (aj aQ (ab 6) (eK (.int 1)))) (eK (.int 2))) (eK (.int 1)))) (aA false 12 (b4 (ae (eK (.str "not")) (ae (ab 12) af)))) aH) (ao (aA false 13 (ai 2 aD (ae (ab 0) (ae (aj aQ (eK (.int 12)) (ab 6)) af)))) (ao (bY (aG ag (aj bf (aj bj (ab 13) (eK (.int 2))) (eK (.int 1)))) (aA false 12 (ai 2 cJ (ae (aj bO (ab 13) (eK (.int 2))) (ae (ab 12) af)))) aH) (aN 5 (ab 12))))))
abbrev GB(L:List D)(w:Wd)(c:Int)(l E:Option PV)(J:List D)(H x r:Option PV):Ev:=[MB (.list L),MB w.enc,MB (.int c),l,E,some ⟨.lst .leaf,.list J⟩,H,none,none,none,none,none,x,r]
theorem Kl(h:k<2):il (.int 5) (.int (k:Int))=some (.int (5*(k:Int))):=by
 have:k=0\/k=1:=by omega
 rcases this with rfl|rfl<;>rfl
theorem turn(F:gL L){w:Wd}{ps:List D}(G:k<2)(C:ps.length<=2){y12 y13:Option PV}:∃p:Sn,p.ok/\p.size<=10/\p.dep<=5/\∃x r,nK (GB L w c x3 x4 ps (MB (rm k)) y12 y13)=.nx (GB L w c x3 x4 (ps++[p.enc]) (MB (rm k)) x r):=by
 obtain⟨v,a⟩:=DC F (k:=12+(k:Int)) (by omega)
 have A:∀{x r:Option PV},ab 6 (GB L w c x3 x4 ps (MB (rm k)) x r)=.ok ⟨.leaf,.int (k:Int)⟩ (GB L w c x3 x4 ps (MB (rm k)) x r):=λ{x r}=>az rfl
 obtain⟨l,S,K⟩:=w5 (Γ:=GB L w c x3 x4 ps (MB (rm k)) y12 y13) (fb:=aj bj (aj bO (aj bO (ab 2) (eK (.int 10))) (aj aQ (aj il (eK (.int 5)) (ab 6)) (eK (.int 1)))) (eK (.int 3))) (s:=.leaf) (z:=c / 10 / (5*(k:Int)+1)) (aB (g:=bj) (aB (g:=bO) (aB (g:=bO) (az rfl) aO (fx (by decide) (by decide))) (aB (g:=aQ) (aB (g:=il) aO A (Kl G)) aO rfl) (fx (by omega) (by omega))) aO (cH (by decide)))
 have n:aA false 12 (b4 (ae (eK (.str "mark")) (ae (ah (eK (.str "abc")) (aj bj (aj bO (aj bO (ab 2) (eK (.int 10))) (aj aQ (aj il (eK (.int 5)) (ab 6)) (eK (.int 1)))) (eK (.int 3)))) af))) (GB L w c x3 x4 ps (MB (rm k)) y12 y13)=.nx (GB L w c x3 x4 ps (MB (rm k)) (MB ((Sn.mk l).enc)) y13):=dO (cZ (aE aO (aE K aq)) rfl rfl) rfl (by simp)
 obtain⟨q,Y,m,B,I⟩:∃q:Sn,q.ok/\q.size<=2/\q.dep<=2/\bY (aG ag (aj bf (aj bj (aj bO (aj bO (ab 2) (eK (.int 90))) (aj aQ (ab 6) (eK (.int 1)))) (eK (.int 2))) (eK (.int 1)))) (aA false 12 (b4 (ae (eK (.str "not")) (ae (ab 12) af)))) aH (GB L w c x3 x4 ps (MB (rm k)) (MB ((Sn.mk l).enc)) y13)=.nx (GB L w c x3 x4 ps (MB (rm k)) (MB q.enc) y13):=by
  have d:aG ag (aj bf (aj bj (aj bO (aj bO (ab 2) (eK (.int 90))) (aj aQ (ab 6) (eK (.int 1)))) (eK (.int 2))) (eK (.int 1))) (GB L w c x3 x4 ps (MB (rm k)) (MB ((Sn.mk l).enc)) y13)=.ok (c / 90 / ((k:Int)+1) % 2==1) (GB L w c x3 x4 ps (MB (rm k)) (MB ((Sn.mk l).enc)) y13):=cD (s:=.leaf) (aB (g:=bf) (aB (g:=bj) (aB (g:=bO) (aB (g:=bO) (az rfl) aO (fx (by decide) (by decide))) (aB (g:=aQ) A aO rfl) (fx (by omega) (by omega))) aO (cH (by decide))) aO eq_int)
  cases U:(c / 90 / ((k:Int)+1) % 2==1)with
  |false=>rw[U]at d;exact⟨.mk l,S,by simp[Sn.size],by simp[Sn.dep],aT d nofun λ_=>rfl⟩
  |true=>rw[U]at d;exact⟨.un .not (.mk l),S,by simp[Sn.size],by simp[Sn.dep],aT d (λ_=>dO (cZ (aE aO (aE (az rfl) aq)) rfl rfl) rfl (by simp)) nofun⟩
 have H:aA false 13 (ai 2 aD (ae (ab 0) (ae (aj aQ (eK (.int 12)) (ab 6)) af))) (GB L w c x3 x4 ps (MB (rm k)) (MB q.enc) y13)=.nx (GB L w c x3 x4 ps (MB (rm k)) (MB q.enc) (MB (.int v))):=dO (dE (aE (az rfl) (aE (aB (g:=aQ) aO A rfl) aq)) a rfl rfl) rfl (by simp)
 obtain⟨p,E,e,i,t⟩:∃p:Sn,p.ok/\p.size<=10/\p.dep<=5/\bY (aG ag (aj bf (aj bj (ab 13) (eK (.int 2))) (eK (.int 1)))) (aA false 12 (ai 2 cJ (ae (aj bO (ab 13) (eK (.int 2))) (ae (ab 12) af)))) aH (GB L w c x3 x4 ps (MB (rm k)) (MB q.enc) (MB (.int v)))=.nx (GB L w c x3 x4 ps (MB (rm k)) (MB p.enc) (MB (.int v))):=by
  have d:aG ag (aj bf (aj bj (ab 13) (eK (.int 2))) (eK (.int 1))) (GB L w c x3 x4 ps (MB (rm k)) (MB q.enc) (MB (.int v)))=.ok (v % 2==1) (GB L w c x3 x4 ps (MB (rm k)) (MB q.enc) (MB (.int v))):=cD (s:=.leaf) (aB (g:=bf) (aB (g:=bj) (az rfl) aO (cH (by decide))) aO eq_int)
  cases U:(v % 2==1)with
  |false=>rw[U]at d;exact⟨q,Y,by omega,by omega,aT d nofun λ_=>rfl⟩
  |true=>
   rw[U]at d;obtain⟨u,o,f,b,h,y,j⟩:=tU (c:=v / 2) Y
   exact⟨u,h,by omega,by omega,aT d (λ_=>dO (dE (aE (aB (g:=bO) (az rfl) aO (fx (by decide) (by decide))) (aE (az rfl) aq)) b rfl rfl) (rZ f) (by simp)) nofun⟩
 exact⟨p,E,e,i,MB p.enc,MB (.int v),ay n (ay I (ay H (ay t (GZ (s:=.leaf) (ds:=ps) rfl (az rfl) rfl (by omega)))))⟩
theorem xO{S:Ev}{L:F1}{s N:Sh}{xs R:List D}(Z:L C=.ok ⟨s,.tuple xs⟩ I)(U:e I=.ok ⟨N,.tuple R⟩ S)(o:s.isView=false)(Y:aF ⟨N,.tuple R⟩ R=true)(M:xs.isEmpty=false)(j:xs.length+R.length<=10000):lG L e C=.ok ⟨.leaf,.tuple (xs++R)⟩ S:=by
 have H:(10000:Nat)<=sizeLine:=by decide
 have:xs.length+R.length<=sizeLine:=Nat.le_trans j H
 unfold lG aZ;rw[Z];simp only[sy]
 rw[U];simp only[sy,o,Y,M,decide_eq_true this,Bool.not_false,Bool.and_self,if_true]
theorem uF{L:F1}{s:Sh}{X:List D}(Z:L C=.ok ⟨s,.list X⟩ I)(Y:aF ⟨s,.list X⟩ X=true):iO L C=.ok ⟨.leaf,.tuple X⟩ I:=by
 unfold iO aZ;rw[Z];simp only[sy,Y,if_true]
theorem Af{c:FB}{L:F1}{Γ1:Ev}{t:Bool}{p:PV}(J:c C=.ok t C)(Z:t=true->L C=.ok p Γ1)(U:t=false->e C=.ok p Γ1):kJ c L e C=.ok p Γ1:=by
 rw[EJ,J]
 cases t
 .exact U rfl
 .exact Z rfl
theorem IK{i:Nat}{w:FS}{d:D}{r:List D}{o:gj}(l:i<C.length)(h:w (C.set i (MB d))=.nx I)(M:bV i w r I=o):bV i w (d::r) C=o:=by
 rw[bV,if_pos l,h];exact M
theorem loop(F:gL L){w:Wd}:∀m:Nat,m<=2->∃ps:List Sn,ps.length=m/\(∀p∈ps,p.ok/\p.size<=10/\p.dep<=5)/\∃H x r,bV 6 nK (b9 0 m) (GB L w c x3 x4 [] none none none)=.nx (GB L w c x3 x4 (ps.map Sn.enc) H x r)
 |0,_=>⟨[],rfl,λp C=>absurd C not_mem_nil,none,none,none,rfl⟩
 |1,_=>by
  obtain⟨p,o,z,d,x,r,e⟩:=turn F (w:=w) (c:=c) (x3:=x3) (x4:=x4) (ps:=[]) (k:=0) (by omega) (by simp) (y12:=none) (y13:=none)
  exact⟨[p],rfl,λq Y=>by rw[List.mem_singleton.mp Y];exact⟨o,z,d⟩,_,_,_,IK (d:=.int 0) (by simp) e rfl⟩
 |2,_=>by
  obtain⟨p,o,z,d,x,r,e⟩:=turn F (w:=w) (c:=c) (x3:=x3) (x4:=x4) (ps:=[]) (k:=0) (by omega) (by simp) (y12:=none) (y13:=none)
  obtain⟨B,f,l,b,y12,y13,J⟩:=turn F (w:=w) (c:=c) (x3:=x3) (x4:=x4) (ps:=[p.enc]) (k:=1) (by omega) (by simp) (y12:=x) (y13:=r)
  refine⟨[p,B],rfl,λq Y=>?_,_,_,_,IK (d:=.int 0) (by simp) e (IK (d:=.int 1) (by simp) J rfl)⟩
  rcases Mp Y with rfl|Y
  .exact⟨o,z,d⟩
  .rw[List.mem_singleton.mp Y];exact⟨f,l,b⟩
 |n+3,h=>by omega
abbrev Ed:FS:=aA false 7 (kJ (aG ag (aj fE (ab 4) (eK (.str "mark")))) (lG (b4 (ae (ab 4) af)) (iO (cC 5))) (b4 (ae (eK (.str "mark")) (ae (eK (.str "b")) af))))
theorem Aq(a:Wr):fE (.str a.t) (.str "mark")=some (.bool (!decide (a=.mark))):=by cases a<;>kernel_rfl
theorem Et{xs:List D}{w:Wd}{a:Wr}(Z:a≠.mark){S:Sn}{ps:List Sn}(b:ps.length<=2)(e:S.enc=.tuple (.str a.t::ps.map Sn.enc)){H r:Option PV}:Ed (GB xs w c l (MB (.str a.t)) (ps.map Sn.enc) H x r)=.nx (AG xs w S (MB (.int c)) l (MB (.str a.t)) none H none none none none x r):=by
 refine dO (p:=⟨.leaf,S.enc⟩) (Af (t:=true) (Γ1:=(GB xs w c l (MB (.str a.t)) (ps.map Sn.enc) H x r).set 5 none) ?_ (λ_=>?_) nofun) rfl (by simp)
 .exact cD (s:=.leaf) (aB (g:=fE) (az rfl) aO (by rw[Aq,decide_eq_false Z];rfl))
 .rw[e]
  exact xO (xs:=[.str a.t]) (cZ (aE (az rfl) aq) rfl rfl) (uF (DQ rfl) (by rfl)) rfl rfl rfl (by simp;omega)
theorem Es{w:Wd}{H r:Option PV}:Ed (GB L w c l (MB (.str "mark")) [] H x r)=.nx (AG L w (.mk "b") (MB (.int c)) l (MB (.str "mark")) (some ⟨.lst .leaf,.list []⟩) H none none none none x r):=dO (Af (t:=false) (cD (s:=.leaf) (aB (g:=fE) (az rfl) aO (Aq .mark))) nofun λ_=>cZ (aE aO (aE aO aq)) rfl rfl) rfl (by simp)
abbrev w10:List Wr:=[.su,.au,.sa,.aa,.sn,.an,.not,.and,.or,.mark]
abbrev n10:List Nat:=[2,2,1,1,1,1,1,2,2,0]
theorem Kv(F:gL L){w:Wd}(G:k<10){m:Nat}(E:n10[k]?=some m){a:Wr}(Z:w10[k]?=some a):∃S:Sn,S.ok/\S.size<=200/\S.dep<=24/\∃K H x r I,bV 6 nK (b9 0 m) (GB L w c x3 (MB (.str a.t)) [] none none none)=.nx I/\Ed I=.nx (AG L w S (MB (.int c)) x3 (MB (.str a.t)) K H none none none none x r):=by
 have un:∀(u:U5),m=1->a=u.w->∃S:Sn,S.ok/\S.size<=200/\S.dep<=24/\∃K H x r I,bV 6 nK (b9 0 m) (GB L w c x3 (MB (.str a.t)) [] none none none)=.nx I/\Ed I=.nx (AG L w S (MB (.int c)) x3 (MB (.str a.t)) K H none none none none x r):=by
  rintro u rfl rfl
  obtain⟨ps,g,C,H,x,r,e⟩:=loop F (w:=w) (c:=c) (x3:=x3) (x4:=some ⟨.leaf,.str u.w.t⟩) 1 (by omega)
  match ps,g,C,e with
  |[p],_,C,e=>
   obtain⟨o,z,d⟩:=C p (by simp)
   exact⟨.un u p,o,by simp[Sn.size];omega,by simp[Sn.dep];omega,none,H,x,r,_,e,Et (ps:=[p]) (by cases u<;>simp[U5.w]) (by simp) rfl⟩
 have bi:∀(u:B4),m=2->a=u.w->∃S:Sn,S.ok/\S.size<=200/\S.dep<=24/\∃K H x r I,bV 6 nK (b9 0 m) (GB L w c x3 (MB (.str a.t)) [] none none none)=.nx I/\Ed I=.nx (AG L w S (MB (.int c)) x3 (MB (.str a.t)) K H none none none none x r):=by
  rintro u rfl rfl
  obtain⟨ps,g,C,H,x,r,e⟩:=loop F (w:=w) (c:=c) (x3:=x3) (x4:=some ⟨.leaf,.str u.w.t⟩) 2 (by omega)
  match ps,g,C,e with
  |[p,q],_,C,e=>
   obtain⟨o,z,d⟩:=C p (by simp)
   obtain⟨f,l,b⟩:=C q (by simp)
   exact⟨.bi u p q,⟨o,f⟩,by simp[Sn.size];omega,by simp[Sn.dep];omega,none,H,x,r,_,e,Et (ps:=[p,q]) (by cases u<;>simp[B4.w]) (by simp) rfl⟩
 match k,G,E,Z with
 |0,_,E,Z=>cases E;cases Z;exact bi .su rfl rfl
 |1,_,E,Z=>cases E;cases Z;exact bi .au rfl rfl
 |2,_,E,Z=>cases E;cases Z;exact un .sa rfl rfl
 |3,_,E,Z=>cases E;cases Z;exact un .aa rfl rfl
 |4,_,E,Z=>cases E;cases Z;exact un .sn rfl rfl
 |5,_,E,Z=>cases E;cases Z;exact un .an rfl rfl
 |6,_,E,Z=>cases E;cases Z;exact un .not rfl rfl
 |7,_,E,Z=>cases E;cases Z;exact bi .and rfl rfl
 |8,_,E,Z=>cases E;cases Z;exact bi .or rfl rfl
 |9,_,E,Z=>cases E;cases Z;exact⟨.mk "b",by show("b":Str)∈ig;decide +kernel,by simp[Sn.size],by simp[Sn.dep],_,none,none,none,_,rfl,Es⟩
theorem zz{xs:List D}(F:gL xs):m_law [.list xs]=.ok ⟨.leaf,.bool true⟩:=by
 obtain⟨n,X,v,u,N,C,Y,U⟩:=tQ F (at':=4) (lim:=5) (by omega) (by omega) (by omega)
 obtain⟨w,ok,L,en⟩:=Ec C Y (by omega)
 rw[<-L]at N;obtain⟨c,R⟩:=DC F (k:=0) (by omega)
 obtain⟨J,I⟩:=DC F (k:=1) (by omega)
 obtain⟨k,G,b⟩:∃k:Nat,c % 10=k/\k<10:=⟨(c % 10).toNat,by omega,by omega⟩
 obtain⟨q,M,f⟩:∃k:Nat,J % 3=k/\k<3:=⟨(J % 3).toNat,by omega,by omega⟩
 have e:∀{x3 h K:Option PV},aj bj (ab 2) (eK (.int 10)) [MB (.list xs),MB w.enc,MB (.int c),x3,h,K,none,none,none,none,none,none,none,none]=.ok ⟨.leaf,.int (k:Int)⟩ [MB (.list xs),MB w.enc,MB (.int c),x3,h,K,none,none,none,none,none,none,none,none]:=λ{_ _ _}=>by
  rw[<-G];exact aB (g:=bj) (az rfl) aO (cH (by decide))
 obtain⟨m,E⟩:∃m,n10[k]?=some m:=⟨_,Mq (by simpa using b)⟩
 obtain⟨a,Z⟩:∃a,w10[k]?=some a:=⟨_,Mq (by simpa using b)⟩
 refine aV (ay (Γ1:=[MB (.list xs),MB w.enc,none,none,none,none,none,none,none,none,none,none,none,none]) (dO (dE (aE (az rfl) (aE aO (aE aO aq))) N rfl rfl) rfl (by simp[av])) ?_)
 refine ay (Γ1:=[MB (.list xs),MB w.enc,MB (.int c),none,none,none,none,none,none,none,none,none,none,none]) (dO (dE (aE (az rfl) (aE aO aq)) R rfl rfl) rfl (by simp)) ?_
 refine ay (Γ1:=[MB (.list xs),MB w.enc,MB (.int c),MB (.list ([Wr.su,.au,.sa,.aa,.sn,.an].map λa=>.str a.t)),none,none,none,none,none,none,none,none,none,none]) (dO (ma (ps:=[Wr.su,.au,.sa,.aa,.sn,.an].map λa=>⟨.leaf,.str a.t⟩) (aE aO (aE aO (aE aO (aE aO (aE aO (aE aO aq)))))) rfl rfl rfl) rfl (by simp)) ?_
 refine ay (Γ1:=[MB (.list xs),MB w.enc,MB (.int c),MB (.list (w10.map λa=>.str a.t)),none,none,none,none,none,none,none,none,none,none]) (dO (D9 (xs:=[Wr.su,.au,.sa,.aa,.sn,.an].map λa=>.str a.t) (ys:=[Wr.not,.and,.or,.mark].map λa=>.str a.t) (az rfl) (ma (ps:=[Wr.not,.and,.or,.mark].map λa=>⟨.leaf,.str a.t⟩) (aE aO (aE aO (aE aO (aE aO aq)))) rfl rfl rfl) rfl rfl (by simp)) rfl (by simp)) ?_
 refine ay (Γ1:=[MB (.list xs),MB w.enc,MB (.int c),MB (.list (w10.map λa=>.str a.t)),MB (.str a.t),none,none,none,none,none,none,none,none,none]) (dO (km (s:=.leaf) (s2:=.leaf) (j:=k) (az rfl) e (m9 (by simpa using b)) (by rw[getElem?_map,Z];rfl) rfl) rfl (by simp)) ?_
 refine ay (Γ1:=GB xs w c (MB (.list (w10.map λa=>.str a.t))) (MB (.str a.t)) [] none none none) (DR (ma aq rfl rfl rfl) rfl (by simp)) ?_
 obtain⟨S,o,z,d,K,H,x,r,Γ1,l,s2⟩:=Kv F (w:=w) (c:=c) (x3:=some ⟨.leaf,.list (w10.map λa=>.str a.t)⟩) b E Z
 have t:m<=2:=by
  match k,b,E with
  |0,_,E|1,_,E|2,_,E|3,_,E|4,_,E|5,_,E|6,_,E|7,_,E|8,_,E|9,_,E=>cases E;decide
 refine ay (gU (kq (k:=(m:Int)) (ps:=[⟨.leaf,.int (m:Int)⟩]) (aE (km (s:=.lst .leaf) (s2:=.leaf) (j:=k) (ma (ps:=n10.map λ(a:Nat)=>(⟨.leaf,.int (a:Int)⟩:PV)) (aE aO (aE aO (aE aO (aE aO (aE aO (aE aO (aE aO (aE aO (aE aO (aE aO aq)))))))))) rfl rfl rfl) e (m9 (by simpa using b)) (by rw[map_map,getElem?_map,E];rfl) rfl) aq) rfl (by omega) (by omega)) (by rw[Int.toNat_natCast];exact l)) (ay s2 ?_)
 unfold sN;refine if_pos ⟨⟨rfl,rfl⟩,w,S,q,ok,by omega,by omega,o,z,d,rfl,rfl,by omega,?_,λj A=>⟨?_,?_⟩,λP y=>sQ ok o z d y⟩
 .rw[<-M]
  exact aB (g:=bj) (dE (aE (az rfl) (aE aO aq)) I rfl rfl) aO (cH (by decide))
 .obtain⟨p,B⟩:=DC F (k:=2+(j:Int)) (by omega)
  exact⟨p,dE (aE (az rfl) (aE (aB (g:=aQ) aO (az rfl) rfl) aq)) B rfl rfl⟩
 .exact xW ok (i:=1) rfl
theorem law_true(Z:List Int)(S:Z.length<=63):m_law [.list (Z.map .int)]=.ok ⟨.leaf,.bool true⟩:=zz DX
end KC.O
namespace KC.O
open PySem PySem.Spec L2 T TQ
open PyProof.Rows hiding St
open KC
def fC(n:Nat):Stmt:=(PySem.Challenge.pw_foreseehall_k22_papers_checked.main.body)[n]!
def uX:Stmt:=fC 1
def qb:Stmt:=fC 2
def kv:Stmt:=fC 3
def pV:Stmt:=fC 4
def nP:Stmt:=fC 13
def nT:Stmt:=fC 14
def nS:Stmt:=fC 15
def nR:Stmt:=fC 16
def pY:Stmt:=fC 17
def ky:Stmt:=fC 18
def pX:Stmt:=fC 23
def nQ:Stmt:=fC 24
def jE:Stmt:=fC 25
def nO:Stmt:=fC 26
def iG:Stmt:=fC 27
def iH:Stmt:=fC 28
def kx:Stmt:=fC 33
def gE:Stmt:=fC 34
def pW:Stmt:=fC 35
def qc:Stmt:=fC 36
def pU:Stmt:=fC 37
def jc:Stmt:=fC 41
def gZ:Stmt:=fC 42
def pZ:Stmt:=fC 43
def qa:Stmt:=fC 44
def jF:Stmt:=fC 46
def nV:Stmt:=fC 47
def ml:Stmt:=fC 48
def nU:Stmt:=fC 49
def je:Stmt:=fC 50
def mq:Stmt:=fC 52
def mn:Stmt:=fC 53
def g0:Stmt:=fC 54
def mr:Stmt:=fC 55
def mm:Stmt:=fC 58
def nW:Stmt:=fC 59
def Ey:Stmt:=fC 60
structure Gl(K:Fg)(mg:Str->Option Value):Prop where
 n0:mg "any"=none
 n1:mg "all"=none
 n2:mg "len"=none
 n3:mg "range"=none
 n4:mg "isinstance"=none
 n5:mg "tuple"=none
 n6:mg "str"=none
 n7:mg "list"=none
 n8:mg "zip"=none
 n9:mg "int"=none
 n10:mg "sorted"=none
 n11:mg "set"=none
 n12:mg "bool"=none
 h0:jq K mg "LETTERS" cG
 h1:jq K mg "MOST_ROOMS" fh
 h2:jq K mg "PLAYERS" cT
 h3:jq K mg "MOST_WORDS" dB
 h4:jq K mg "MOST_DEPTH" dC
 h5:jq K mg "UNTILS" cB
 h6:jq K mg "ALWAYS" dg
 h7:jq K mg "BY_SOME_STEP" bE
 t0:sv K mg "PARTS" ju
structure Al(K:Fg)(mg:Str->Option Value):Prop where
 g:Gl K mg
 f0:Ft K mg "is_led" uX
 f1:Ft K mg "is_lower" qb
 f2:Ft K mg "ranked_next" kv
 f3:Ft K mg "ranks_to" pV
 f4:Ft K mg "is_rising" nP
 f5:Ft K mg "are_marks" nT
 f6:Ft K mg "are_rooms" nS
 f7:Ft K mg "are_steps" nR
 f8:Ft K mg "is_world" pY
 f9:Ft K mg "check_world" ky
 f10:Ft K mg "parts_of" pX
 f11:Ft K mg "is_formed" nQ
 f12:Ft K mg "parts_of_all" jE
 f13:Ft K mg "layers_of" nO
 f14:Ft K mg "checked_layers" iG
 f15:Ft K mg "check_sentence" iH
 f16:Ft K mg "other_rooms" kx
 f17:Ft K mg "through_and_goal" gE
 f18:Ft K mg "ranks_of" pW
 f19:Ft K mg "holds_at" qc
 f20:Ft K mg "rooms_by" pU
 f21:Ft K mg "paper_of" dF
 f22:Ft K mg "paper" gY
 f23:Ft K mg "is_rank_right" jc
 f24:Ft K mg "are_ranks_right" gZ
 f25:Ft K mg "is_right" pZ
 f26:Ft K mg "is_paper" qa
 f27:Ft K mg "_law_cell_at" jF
 f28:Ft K mg "_law_draw" nV
 f29:Ft K mg "_law_world" ml
 f30:Ft K mg "_law_twin" nU
 f31:Ft K mg "_law_steps_in" je
 f32:Ft K mg "_law_judge" mq
 f33:Ft K mg "_law_plain" mn
 f34:Ft K mg "_law_room_right" g0
 f35:Ft K mg "_law_holds" mr
 f36:Ft K mg "_law_spoilt" cy
 f37:Ft K mg "_law_spoilt_within" bD
 f38:Ft K mg "_law_timed" mm
 f39:Ft K mg "_law_copy" nW
 f40:Ft K mg "law" Ey
section
variable{P:Program}{w:World}{K:Fg}{mg:Str->Option Value}{base:Heap}(A:Al K mg)
include A
theorem GU:DefOk P w K mg base 1 "is_led" 2 b6:=mk A.f0 A.g ["is_chosen","by_steps"] xm [] ["any","all"] [0,1] [] [0,1] λX S I C=>
 (cb (xB (kT (ak S 0) (λ_=>rfl)) (nF S 0 rfl rfl I.e.n0 (bc (ak S 1)) (bC rfl) rfl) (uj S 1 rfl rfl I.e.n1 (bc (ak S 1)) (bC rfl) rfl)))
theorem qp:DefOk P w K mg base 1 "is_lower" 2 dI:=mk A.f1 A.g ["rank","other"] xm [] [] [0,1] [] [] λX S I C=>
 (cb (ni (dP (xh I.r) (ak S 0) iR) (ni (dP (xh I.r) (ak S 1) iR) (nj (dP (mz I.r) (ak S 0) (ak S 1))))))
theorem kC:DefOk P w K mg base 2 "ranked_next" 4 cA:=mk A.f2 A.g ["world","chosen","through","ranks"] HQ ["found","room","there"] ["is_led"] [0,1,2,3,4,5] [3] [0] λX S I C=>
 (br (da S true 4 (jy .leaf w_da_nil)) (br (Ad S 5 rfl rfl C (w_di_seq (ak S 2)) (ko (dS (kj (uk (cn (kA I.r) (bA (ak S 3) (ak S 5)) iR) (ux (kT (dm S 0 (I.c (GU A)) (bB (bA (ak S 1) (ak S 5)) (bc (iE [3,6] [3] [] S 6 (w_di_seq (bA (bA (ak S 0) w_de_int) (ak S 5))) (λ_ _ _=>w_df_nil) (λc a F1=>have I:=F1.i I;(dP (xh I.r) (bA (ak a 3) (ak a 6)) iR)))))) (λ_=>rfl))))) (ko (AS S 4 rfl rfl (ak S 5) (eX rfl) rfl rfl rfl rfl)) dW)) (λ_=>rfl)) (cb (mf S 4 rfl rfl))))
theorem qg:DefOk P w K mg base 3 "ranks_to" 4 gG:=mk A.f3 A.g ["world","chosen","through","goal"] HQ ["ranks","rank","fresh","room","owner"] ["ranked_next"] [0,1,2,3,4,5,6,7] [] [0] λX S I C=>
 (br (xF (vs':=[8]) (cs':=[]) (lo':=[]) (gs':=[]) S true 4 .leaf 8 rfl rfl rfl rfl (by kernel_rfl) (by kernel_rfl) (by kernel_rfl) (w_di_seq (bA (ak S 0) w_de_int)) (λ_ _ _=>w_df_nil) (λc a F1=>iR) (λ_=>rfl)) (br (da S false 5 w_de_int) (br (da S false 6 (ak S 3)) (br (jz 1000 C (kT (ak S 6) (λ_=>rfl)) (br (Ad S 7 rfl rfl C (w_di_seq (ak S 6)) (ko (sE S 4 rfl rfl (ak S 5) (ak S 7) rfl rfl rfl (λ_=>rfl))) (λ_=>rfl)) (br (ny S 5 rfl rfl w_de_int) (ko (da S false 6 (AY S 0 rfl rfl (I.c (kC A)) (bB (ak S 0) (bB (ak S 1) (bB (ak S 2) (bc (ak S 4))))) (bC rfl) rfl)))))) (cb (mf S 4 rfl rfl))))))
theorem i5:DefOk P w K mg base 1 "is_rising" 1 dX:=mk A.f4 A.g ["entries"] ue ["k"] ["len","range","all"] [0] [0] [0,1,2] λX S I C=>
 (cb (uj S 2 rfl rfl I.e.n1 (bc (iE [0,1] [0] [] S 1 (D5 S 1 rfl rfl I.e.n3 (bB w_de_int (bc (fz S 0 I.e.n2 (bc (ak S 0))))) (uT rfl rfl) (eX rfl)) (λ_ _ _=>w_df_nil) (λc a F1=>have I:=F1.i I;(dP (mz I.r) (bA (ak a 0) (uB (ak a 1) w_de_int)) (bA (ak a 0) (ak a 1)))))) (bC rfl) rfl))
theorem oC:DefOk P w K mg base 2 "are_marks" 1 dZ:=mk A.f5 A.g ["entries"] ue ["entry"] ["LETTERS","all","is_rising"] [0] [] [1,2] λX S I C=>
 (cb (ni (uj S 1 rfl rfl I.e.n1 (bc (iE [1] [] [0] S 1 (w_di_seq (ak S 0)) (λ_ _ _=>w_df_nil) (λc a F1=>have I:=F1.i I;(dP (dt I.r) (ak a 1) (gc a 0 rfl rfl I.e.h0))))) (bC rfl) rfl) (nj (dm S 2 (I.c (i5 A)) (bc (ak S 0))))))
theorem oB:DefOk P w K mg base 2 "are_rooms" 2 fM:=mk A.f6 A.g ["entries","size"] xm ["entry"] ["all","is_rising"] [0,1] [1] [0,1] λX S I C=>
 (cb (ni (uj S 0 rfl rfl I.e.n1 (bc (iE [1,2] [1] [] S 2 (w_di_seq (ak S 0)) (λ_ _ _=>w_df_nil) (λc a F1=>have I:=F1.i I;(D7 (Ki I.r) (mz I.r) w_de_int (ak a 2) (ak a 1) (by with_unfolding_all rfl))))) (bC rfl) rfl) (nj (dm S 1 (I.c (i5 A)) (bc (ak S 0))))))
theorem oA:DefOk P w K mg base 3 "are_steps" 2 dY:=mk A.f7 A.g ["entries","size"] xm [] ["len","are_rooms"] [0,1] [] [0,1] λX S I C=>
 (cb (ni (dP (jI I.r) (fz S 0 I.e.n2 (bc (ak S 0))) w_de_int) (nj (dm S 1 (I.c (oB A)) (bB (ak S 0) (bc (ak S 1)))))))
theorem qk:DefOk P w K mg base 4 "is_world" 3 eZ:=mk A.f8 A.g ["owners","marks","steps"] sg ["size","owner","row"] ["len","MOST_ROOMS","PLAYERS","all","are_marks","are_steps"] [0,1,2,3] [3] [0,1,3] λX S I C=>
 (br (da S false 3 (fz S 0 I.e.n2 (bc (ak S 0)))) (br (dS (kj (pN (cn (mz I.r) (ak S 3) w_de_int) (pN (cn (jI I.r) (ak S 3) (gc S 1 rfl rfl I.e.h1)) (pN (cn (my I.r) (fz S 0 I.e.n2 (bc (ak S 1))) (ak S 3)) (uv (cn (my I.r) (fz S 0 I.e.n2 (bc (ak S 2))) (ak S 3))))))) (cb sC) dW) (br (dS (xD (kT (uj S 3 rfl rfl I.e.n1 (bc (iE [4] [] [2] S 4 (w_di_seq (ak S 0)) (λ_ _ _=>w_df_nil) (λc a F1=>have I:=F1.i I;(dP (dt I.r) (ak a 4) (gc a 2 rfl rfl I.e.h2))))) (bC rfl) rfl) (λ_=>rfl))) (cb sC) dW) (cb (ni (uj S 3 rfl rfl I.e.n1 (bc (iE [5] [] [4] S 5 (w_di_seq (ak S 1)) (λ_ _ _=>w_df_nil) (λe b R=>have I:=R.i I;(dm b 4 (I.c (oC A)) (bc (ak b 5)))))) (bC rfl) rfl) (nj (uj S 3 rfl rfl I.e.n1 (bc (iE [3,5] [3] [5] S 5 (w_di_seq (ak S 2)) (λ_ _ _=>w_df_nil) (λg d y=>have I:=y.i I;(dm d 5 (I.c (oA A)) (bB (ak d 5) (bc (ak d 3))))))) (bC rfl) rfl)))))))
theorem gu:DefOk P w K mg base 5 "check_world" 1 bu:=mk A.f9 A.g ["world"] ue [] ["is_world"] [0] [] [0] λX S I C=>
 (ko (dS (xD (kT (dm S 0 (I.c (qk A)) (bB (bA (ak S 0) w_de_int) (bB (bA (ak S 0) w_de_int) (bc (bA (ak S 0) w_de_int))))) (λ_=>rfl))) (ko uy) dW))
theorem Jm:DefOk P w K mg base 1 "parts_of" 1 aU:=mk A.f10 A.g ["sentence"] ue [] [] [0] [] [] λX S I C=>
 (cb (xB (cn (bN I.r) (bA (ak S 0) w_de_int) dU) (pI w_da_nil) (nA (ak S 0) w_de_int)))
theorem oz:DefOk P w K mg base 1 "is_formed" 1 bQ:=mk A.f11 A.g ["some"] ue [] ["isinstance","tuple","len","str","LETTERS","PARTS"] [0] [] [0,1,2,3,4,5] λX S I C=>
 (br (dS (kj (pN (xD (kT (GX S 0 1 rfl rfl rfl rfl rfl IM I.e.n4 I.e.n5 (ak S 0) (bC rfl) (bC rfl) rfl) (λ_=>rfl))) (pN (cn (bN I.r) (fz S 2 I.e.n2 (bc (ak S 0))) w_de_int) (uv (xD (kT (GX S 0 3 rfl rfl rfl rfl rfl F7 I.e.n4 I.e.n6 (bA (ak S 0) w_de_int) (bC rfl) (bC rfl) rfl) (λ_=>rfl))))))) (cb sC) dW) (br (dS (cn (bN I.r) (bA (ak S 0) w_de_int) dU) (cb (ni (dP (bN I.r) (fz S 2 I.e.n2 (bc (ak S 0))) w_de_int) (nj (dP (dt I.r) (bA (ak S 0) w_de_int) (gc S 4 rfl rfl I.e.h0))))) dW) (cb (ni (jA S 5 rfl rfl I.e.t0 (bA (ak S 0) w_de_int)) (nj (dP (bN I.r) (fz S 2 I.e.n2 (bc (ak S 0))) (nh w_de_int (sF S 5 rfl rfl I.e.t0 (bA (ak S 0) w_de_int) (λ_ _=>rfl)))))))))
theorem jN:DefOk P w K mg base 2 "parts_of_all" 1 cI:=mk A.f12 A.g ["sentences"] ue ["found","sentence"] ["parts_of"] [0,1,2] [] [0] λX S I C=>
 (br (da S true 1 (jy .leaf w_da_nil)) (br (Ad S 2 rfl rfl C (w_di_seq (ak S 0)) (ko (nu S 1 rfl rfl (dm S 0 (I.c (Jm A)) (bc (ak S 2))) (eX rfl) rfl rfl rfl rfl)) (λ_=>rfl)) (cb (mf S 1 rfl rfl))))
theorem oy:DefOk P w K mg base 3 "layers_of" 1 fL:=mk A.f13 A.g ["some"] ue ["layers","layer","many","each"] ["len","MOST_WORDS","MOST_DEPTH","is_formed","all","parts_of_all"] [0,1,2,3] [] [0,1,2,4,5] λX S I C=>
 (br (da S true 1 (jy .leaf w_da_nil)) (br (da S false 2 (jy .leaf (bc (ak S 0)))) (br (da S false 3 w_de_int) (br (jz 1000 C (kT (ak S 2) (λ_=>rfl)) (br (ny S 3 rfl rfl (fz S 0 I.e.n2 (bc (ak S 2)))) (br (dS (kj (pN (cn (jI I.r) (ak S 3) (gc S 1 rfl rfl I.e.h3)) (pN (cn (bN I.r) (fz S 0 I.e.n2 (bc (ak S 1))) (gc S 2 rfl rfl I.e.h4)) (uv (xD (kT (uj S 4 rfl rfl I.e.n1 (bc (iE [4] [] [3] S 4 (w_di_seq (ak S 2)) (λ_ _ _=>w_df_nil) (λc a F1=>have I:=F1.i I;(dm a 3 (I.c (oz A)) (bc (ak a 4)))))) (bC rfl) rfl) (λ_=>rfl))))))) (cb iR) dW) (br (AS S 1 rfl rfl (ak S 2) (eX rfl) rfl rfl rfl rfl) (ko (da S false 2 (dm S 5 (I.c (jN A)) (bc (ak S 2))))))))) (cb (mf S 1 rfl rfl))))))
theorem iJ:DefOk P w K mg base 4 "checked_layers" 1 cS:=mk A.f14 A.g ["sentence"] ue ["layers"] ["layers_of"] [0,1] [] [0] λX S I C=>
 (br (da S false 1 (dm S 0 (I.c (oy A)) (bc (ak S 0)))) (br (dS (cn (kA I.r) (ak S 1) iR) (ko uy) dW) (cb (ak S 1))))
theorem eD:DefOk P w K mg base 5 "check_sentence" 1 bg:=mk A.f15 A.g ["sentence"] ue [] ["checked_layers"] [0] [] [0] λX S I C=>
 (ko (Jd (dm S 0 (I.c (iJ A)) (bc (ak S 0))) rfl))
theorem kD:DefOk P w K mg base 1 "other_rooms" 2 cX:=mk A.f16 A.g ["world","rooms"] xm ["room"] ["len","range"] [0,1] [1] [0,1] λX S I C=>
 (cb (iE [1,2] [1] [] S 2 (gp S 1 rfl rfl I.e.n3 (bc (fz S 0 I.e.n2 (bc (bA (ak S 0) w_de_int)))) (eX rfl)) (λc a F1=>have I:=F1.i I;rd (cn (xA I.r) (ak a 2) (ak a 1))) (λc a F1=>have I:=F1.i I;(ak a 2))))
theorem dG:DefOk P w K mg base 2 "through_and_goal" 3 aW:=mk A.f17 A.g ["world","sentence","parts"] sg [] ["UNTILS","len","list","range","other_rooms"] [0,1,2] [] [0,1,2,3,4] λX S I C=>
 (br (dS (cn (dt I.r) (bA (ak S 1) w_de_int) (gc S 0 rfl rfl I.e.h5)) (cb (pI (bB (bA (ak S 2) w_de_int) (bc (bA (ak S 2) w_de_int))))) dW) (cb (pI (bB (Hi S 2 3 rfl rfl I.e.n7 rfl rfl I.e.n3 (bc (fz S 1 I.e.n2 (bc (bA (ak S 0) w_de_int)))) (eX rfl) (eX rfl)) (bc (dm S 4 (I.c (kD A)) (bB (ak S 0) (bc (bA (ak S 2) w_de_int)))))))))
theorem qh:DefOk P w K mg base 4 "ranks_of" 3 bG:=mk A.f18 A.g ["world","sentence","parts"] sg ["word","both","owner"] ["UNTILS","ALWAYS","through_and_goal","BY_SOME_STEP","ranks_to"] [0,1,2,3,4] [3] [0,1,2,4] λX S I C=>
 (br (da S false 3 (bA (ak S 1) w_de_int)) (br (dS (kj (uk (cn (xA I.r) (ak S 3) (gc S 0 rfl rfl I.e.h5)) (ux (cn (xA I.r) (ak S 3) (gc S 1 rfl rfl I.e.h6))))) (cb iR) dW) (br (da S false 4 (dm S 2 (I.c (dG A)) (bB (ak S 0) (bB (ak S 1) (bc (ak S 2)))))) (cb (dm S 4 (I.c (qg A)) (bB (ak S 0) (bB (iE [3,5] [3] [3] S 5 (w_di_seq (bA (ak S 0) w_de_int)) (λ_ _ _=>w_df_nil) (λc a F1=>have I:=F1.i I;(dP (dt I.r) (ak a 3) (gc a 3 rfl rfl I.e.h7)))) (bB (bA (ak S 4) w_de_int) (bc (bA (ak S 4) w_de_int))))))))))
theorem qq:DefOk P w K mg base 2 "holds_at" 5 ff:=mk A.f19 A.g ["world","sentence","parts","ranks","room"] LH ["word","here","rooms","there"] ["UNTILS","ALWAYS","all","any","BY_SOME_STEP","is_led"] [0,1,2,3,4,5,6] [2,4] [0,1,2,3,4,5] λX S I C=>
 (br (da S false 5 (bA (ak S 1) w_de_int)) (br (dS (cn (bN I.r) (ak S 5) dU) (cb sC) dW) (br (dS (cn (bN I.r) (ak S 5) dU) (cb (dP (dt I.r) (bA (ak S 1) w_de_int) (bA (bA (ak S 0) w_de_int) (ak S 4)))) dW) (br (dS (cn (dt I.r) (ak S 5) (gc S 0 rfl rfl I.e.h5)) (cb (dP (xh I.r) (bA (ak S 3) (ak S 4)) iR)) dW) (br (dS (cn (dt I.r) (ak S 5) (gc S 1 rfl rfl I.e.h6)) (cb (dP (kA I.r) (bA (ak S 3) (ak S 4)) iR)) dW) (br (xF (vs':=[4,7]) (cs':=[4]) (lo':=[]) (gs':=[]) S false 6 .leaf 7 rfl rfl rfl rfl (by kernel_rfl) (by kernel_rfl) (by kernel_rfl) (w_di_seq (ak S 2)) (λ_ _ _=>w_df_nil) (λc a F1=>have I:=F1.i I;(dP (dt I.r) (ak a 4) (ak a 7))) (λ_=>rfl)) (br (dS (cn (bN I.r) (ak S 5) dU) (cb (GY (bA (ak S 6) w_de_int))) dW) (br (dS (kj (pN (cn (bN I.r) (ak S 5) dU) (uv (cn (bN I.r) (ak S 5) dU)))) (cb (xB (cn (bN I.r) (ak S 5) dU) (uj S 2 rfl rfl I.e.n1 (bc (ak S 6)) (bC rfl) rfl) (nF S 3 rfl rfl I.e.n0 (bc (ak S 6)) (bC rfl) rfl))) dW) (cb (dm S 5 (I.c (GU A)) (bB (dP (dt I.r) (ak S 5) (gc S 4 rfl rfl I.e.h7)) (bc (iE [2,8] [2] [] S 8 (w_di_seq (bA (bA (ak S 0) w_de_int) (ak S 4))) (λ_ _ _=>w_df_nil) (λe b R=>have I:=R.i I;(dP (dt I.r) (ak b 8) (bA (ak b 2) w_de_int))))))))))))))))
theorem jM:DefOk P w K mg base 3 "rooms_by" 4 bM:=mk A.f20 A.g ["world","sentence","parts","ranks"] HQ ["room"] ["len","range","holds_at"] [0,1,2,3] [0,1,2,3] [0,1] λX S I C=>
 (cb (iE [0,1,2,3,4] [0,1,2,3] [2] S 4 (gp S 1 rfl rfl I.e.n3 (bc (fz S 0 I.e.n2 (bc (bA (ak S 0) w_de_int)))) (eX rfl)) (λc a F1=>have I:=F1.i I;rd (kT (dm a 2 (I.c (qq A)) (bB (ak a 0) (bB (ak a 1) (bB (ak a 2) (bB (ak a 3) (bc (ak a 4))))))) (λ_=>rfl))) (λc a F1=>have I:=F1.i I;(ak a 4))))
theorem qj:uf P w K mg base 28 24:=match A.f21 with|⟨_,_,hm,F⟩=>ox F hm (Dt F xm) (Jm A) (qh A) (jM A) rfl rfl rfl
theorem yO:PprOk P w K mg base 29:=match A.f22 with|⟨_,_,hm,F⟩=>vL F hm (Dt F xm) (gu A) (eD A) (qj A) rfl rfl rfl
theorem jf:DefOk P w K mg base 2 "is_rank_right" 5 cE:=mk A.f23 A.g ["world","word","ranks","both","room"] LH ["rank","ahead","is_by_some","is_lessened","there","other"] ["BY_SOME_STEP","is_led","is_lower"] [0,1,2,3,4,5,6,7,8] [2,5] [0,1] λX S I C=>
 (br (da S false 5 (bA (ak S 2) (ak S 4))) (br (xF (vs':=[2,9]) (cs':=[2]) (lo':=[]) (gs':=[]) S false 6 .leaf 9 rfl rfl rfl rfl (by kernel_rfl) (by kernel_rfl) (by kernel_rfl) (w_di_seq (bA (bA (ak S 0) w_de_int) (ak S 4))) (λ_ _ _=>w_df_nil) (λc a F1=>(bA (ak a 2) (ak a 9))) (λ_=>rfl)) (br (da S false 7 (dP (dt I.r) (ak S 1) (gc S 0 rfl rfl I.e.h7))) (br (dS (cn (dt I.r) (ak S 4) (bA (ak S 3) w_de_int)) (cb (dP (bN I.r) (ak S 5) w_de_int)) dW) (br (dS (cn (kA I.r) (ak S 5) iR) (cb (IC (dP (xA I.r) (ak S 4) (bA (ak S 3) w_de_int)) (nj (GY (dm S 1 (I.c (GU A)) (bB (ak S 7) (bc (iE [10] [] [] S 10 (w_di_seq (ak S 6)) (λ_ _ _=>w_df_nil) (λe b R=>have I:=R.i I;(dP (xh I.r) (ak b 10) iR)))))))))) dW) (br (da S false 8 (dm S 1 (I.c (GU A)) (bB (ak S 7) (bc (iE [5,10] [5] [2] S 10 (w_di_seq (ak S 6)) (λ_ _ _=>w_df_nil) (λg d y=>have I:=y.i I;(dm d 2 (I.c (qp A)) (bB (ak d 10) (bc (ak d 5)))))))))) (cb (ni (dP (jI I.r) (ak S 5) w_de_int) (ni (dP (dt I.r) (ak S 4) (bA (ak S 3) w_de_int)) (nj (ak S 8)))))))))))
theorem hV:DefOk P w K mg base 3 "are_ranks_right" 4 ba:=mk A.f24 A.g ["world","sentence","parts","ranks"] HQ ["word","both","room"] ["UNTILS","ALWAYS","len","through_and_goal","range","is_rank_right","all"] [0,1,2,3,4,5] [0,3,4,5] [0,1,2,3,4,6] λX S I C=>
 (br (da S false 4 (bA (ak S 1) w_de_int)) (br (dS (kj (uk (cn (xA I.r) (ak S 4) (gc S 0 rfl rfl I.e.h5)) (ux (cn (xA I.r) (ak S 4) (gc S 1 rfl rfl I.e.h6))))) (cb (dP (kA I.r) (ak S 3) iR)) dW) (br (dS (kj (pN (cn (kA I.r) (ak S 3) iR) (uv (cn (my I.r) (fz S 2 I.e.n2 (bc (ak S 3))) (fz S 2 I.e.n2 (bc (bA (ak S 0) w_de_int))))))) (cb sC) dW) (br (da S false 5 (dm S 3 (I.c (dG A)) (bB (ak S 0) (bB (ak S 1) (bc (ak S 2)))))) (cb (uj S 6 rfl rfl I.e.n1 (bc (iE [0,3,4,5,6] [0,3,4,5] [5] S 6 (gp S 4 rfl rfl I.e.n3 (bc (fz S 2 I.e.n2 (bc (ak S 3)))) (eX rfl)) (λ_ _ _=>w_df_nil) (λc a F1=>have I:=F1.i I;(dm a 5 (I.c (jf A)) (bB (ak a 0) (bB (ak a 4) (bB (ak a 3) (bB (ak a 5) (bc (ak a 6)))))))))) (bC rfl) rfl))))))
theorem oq(n:Nat):DefOk P w K mg base (3+n) "is_right" 3 (bL n):=by
 induction n with
 |zero=>exact Kn A.f25 sg
 |succ n B=>exact mk (k:=3+n) A.f25 A.g ["world","sentence","told"] sg ["within","parts","below","part"] ["parts_of","len","zip","is_right","all","are_ranks_right","rooms_by"] [0,1,2,3,4] [0] [0,1,2,4,5,6] λX S I C=>
  (br (da S false 3 (dm S 0 (I.c (Jm A)) (bc (ak S 1)))) (br (dS (cn (my I.r) (fz S 1 I.e.n2 (bc (bA (ak S 2) w_de_int))) (fz S 1 I.e.n2 (bc (ak S 3)))) (cb sC) dW) (br (dS (xD (kT (uj S 4 rfl rfl I.e.n1 (bc (D6 (vs':=[0,5,6]) (cs':=[0]) (lo':=[]) (gs':=[3]) S .leaf 6 5 2 rfl rfl rfl rfl rfl I.e.n8 (by kernel_rfl) (by kernel_rfl) (bB (ak S 3) (bc (bA (ak S 2) w_de_int))) (bC rfl) rfl (λ_ _ _=>w_df_nil) (λc a F1=>have I:=F1.i I;(dm a 3 (I.c B) (bB (ak a 0) (bB (ak a 6) (bc (ak a 5)))))) (λ_=>rfl))) (bC rfl) rfl) (λ_=>rfl))) (cb sC) dW) (br (xF (vs':=[5]) (cs':=[]) (lo':=[]) (gs':=[]) S false 4 .leaf 5 rfl rfl rfl rfl (by kernel_rfl) (by kernel_rfl) (by kernel_rfl) (w_di_seq (bA (ak S 2) w_de_int)) (λ_ _ _=>w_df_nil) (λe b R=>(bA (ak b 5) w_de_int)) (λ_=>rfl)) (cb (ni (dm S 5 (I.c (hV A)) (bB (ak S 0) (bB (ak S 1) (bB (ak S 4) (bc (bA (ak S 2) w_de_int)))))) (nj (dP (bN I.r) (bA (ak S 2) w_de_int) (dm S 6 (I.c (jM A)) (bB (ak S 0) (bB (ak S 1) (bB (ak S 4) (bc (bA (ak S 2) w_de_int))))))))))))))
theorem ql:DefOk P w K mg base 33 "is_right" 3 jR:=oq A 30
theorem qm:DefOk P w K mg base 34 "is_paper" 3 dH:=mk A.f26 A.g ["world","sentence","told"] sg [] ["check_world","check_sentence","is_right"] [0,1,2] [] [0,1,2] λX S I C=>
 (br (Jd (dm S 0 (I.c (gu A)) (bc (ak S 0))) rfl) (br (Jd (dm S 1 (I.c (eD A)) (bc (ak S 1))) rfl) (cb (dm S 2 (I.c (ql A)) (bB (ak S 0) (bB (ak S 1) (bc (ak S 2))))))))
theorem DI:DefOk P w K mg base 1 "_law_cell_at" 2 aD:=mk A.f27 A.g ["script","k"] xm [] ["len"] [0,1] [] [0] λX S I C=>
 (br (dS (cn (mz I.r) (ak S 1) (fz S 0 I.e.n2 (bc (ak S 0)))) (cb (bA (ak S 0) (ak S 1))) dW) (cb w_de_int))
theorem G6:DefOk P w K mg base 1 "_law_draw" 3 aC:=mk A.f28 A.g ["cell","k","bound"] sg ["stir","left","j"] ["range"] [0,1,2,3,4,5] [] [0] λX S I C=>
 (br (dS (cn (Kj I.r) (ak S 0) (nq w_de_int w_de_int)) (br (da S false 4 (ak S 0)) (br (Ad S 5 rfl rfl C (gp S 0 rfl rfl I.e.n3 (bc (ak S 1)) (eX rfl)) (ko (da S false 4 (pH (ak S 4) (ak S 2)))) (λ_=>rfl)) (cb (i9 (ak S 4) (ak S 2))))) dW) (br (da S false 3 (i9 (DF (nh (nh (i9 (ak S 0) w_de_int) (DF w_de_int (ak S 1))) w_de_int) w_de_int) w_de_int)) (br (da S false 3 (i9 (nh (nh (DF (ak S 3) (ak S 3)) (DF w_de_int (ak S 1))) w_de_int) w_de_int)) (cb (i9 (pH (i9 (DF (ak S 3) w_de_int) w_de_int) w_de_int) (ak S 2))))))
theorem mE:DefOk P w K mg base 2 "_law_world" 3 m__law_world:=mk A.f29 A.g ["script","at","limit"] sg ["many","owners","marks","steps","room","cell","row","there","k"] ["_law_cell_at","range","_law_draw","int"] [0,1,2,3,4,5,6,7,8,9] [3,8] [0,1,2] λX S I C=>
 (br (da S false 3 (nh w_de_int (i9 (dm S 0 (I.c (DI A)) (bB (ak S 0) (bc (ak S 1)))) (ak S 2)))) (br (da S true 4 (jy .leaf w_da_nil)) (br (da S true 5 (jy .leaf w_da_nil)) (br (da S true 6 (jy .leaf w_da_nil)) (br (Ad S 7 rfl rfl C (gp S 1 rfl rfl I.e.n3 (bc (ak S 3)) (eX rfl)) (br (da S false 8 (dm S 0 (I.c (DI A)) (bB (ak S 0) (bc (nh (nh (ak S 1) w_de_int) (ak S 7)))))) (br (AS S 4 rfl rfl (dm S 2 (I.c (G6 A)) (bB (ak S 8) (bB w_de_int (bc w_de_int)))) (eX rfl) rfl rfl rfl rfl) (br (AS S 5 rfl rfl (iE [8,11] [8] [2] S 11 (gp S 1 rfl rfl I.e.n3 (bc w_de_int) (eX rfl)) (λc a F1=>have I:=F1.i I;rd (cn (bN I.r) (dm a 2 (I.c (G6 A)) (bB (ak a 8) (bB (nh w_de_int (ak a 11)) (bc w_de_int)))) w_de_int)) (λc a F1=>have I:=F1.i I;(bA dU (ak a 11)))) (eX rfl) rfl rfl rfl rfl) (br (xF (vs':=[3,8,10]) (cs':=[3,8]) (lo':=[]) (gs':=[2,3]) S false 9 .leaf 10 rfl rfl rfl rfl (by kernel_rfl) (by kernel_rfl) (by kernel_rfl) (gp S 1 rfl rfl I.e.n3 (bc (ak S 3)) (eX rfl)) (λe b R=>have I:=R.i I;rd (cn (bN I.r) (dm b 2 (I.c (G6 A)) (bB (ak b 8) (bB (nh w_de_int (ak b 10)) (bc (nh w_de_int (uE b 3 rfl rfl I.e.n9 (bc (dP (jI I.r) (ak b 3) w_de_int)) (bC rfl) rfl)))))) w_de_int)) (λe b R=>have I:=R.i I;(ak b 10)) (λ_=>rfl)) (br (dS (cn (bN I.r) (ak S 9) (jy .leaf w_da_nil)) (ko (da S false 9 (jy .leaf (bc (dm S 2 (I.c (G6 A)) (bB (ak S 8) (bB (nh w_de_int (ak S 3)) (bc (ak S 3))))))))) dW) (ko (AS S 6 rfl rfl (ak S 9) (eX rfl) rfl rfl rfl rfl))))))) (λ_=>rfl)) (cb (pI (bB (mf S 4 rfl rfl) (bB (mf S 5 rfl rfl) (bc (mf S 6 rfl rfl)))))))))))
theorem oE:DefOk P w K mg base 1 "_law_twin" 1 df:=mk A.f30 A.g ["world"] ue ["row"] ["list"] [0] [] [0] λX S I C=>
 (cb (pI (bB (D1 S 0 rfl rfl I.e.n7 (bA (ak S 0) w_de_int) (eX rfl)) (bB (iE [1] [] [0] S 1 (w_di_seq (bA (ak S 0) w_de_int)) (λ_ _ _=>w_df_nil) (λc a F1=>have I:=F1.i I;(D1 a 0 rfl rfl I.e.n7 (ak a 1) (eX rfl)))) (bc (iE [1] [] [0] S 1 (w_di_seq (bA (ak S 0) w_de_int)) (λ_ _ _=>w_df_nil) (λe b R=>have I:=R.i I;(D1 b 0 rfl rfl I.e.n7 (ak b 1) (eX rfl)))))))))
theorem jg:DefOk P w K mg base 1 "_law_steps_in" 3 b7:=mk A.f31 A.g ["world","rooms","each"] sg ["found","room","into","there"] ["len","range"] [0,1,2,3,4,5] [1] [0,1] λX S I C=>
 (br (da S true 3 (jy .leaf w_da_nil)) (br (Ad S 4 rfl rfl C (gp S 1 rfl rfl I.e.n3 (bc (fz S 0 I.e.n2 (bc (bA (ak S 0) w_de_int)))) (eX rfl)) (br (xF (vs':=[1,6]) (cs':=[1]) (lo':=[]) (gs':=[]) S false 5 .leaf 6 rfl rfl rfl rfl (by kernel_rfl) (by kernel_rfl) (by kernel_rfl) (w_di_seq (bA (bA (ak S 0) w_de_int) (ak S 4))) (λc a F1=>have I:=F1.i I;rd (cn (dt I.r) (ak a 6) (ak a 1))) (λc a F1=>have I:=F1.i I;(ak a 6)) (λ_=>rfl)) (ko (dS (kj (pN (cn (bN I.r) (fz S 0 I.e.n2 (bc (ak S 5))) (fz S 0 I.e.n2 (bc (bA (bA (ak S 0) w_de_int) (ak S 4))))) (uv (kj (uk (xD (kT (ak S 2) (λ_=>rfl))) (ux (cn (jI I.r) (fz S 0 I.e.n2 (bc (ak S 5))) w_de_int))))))) (ko (AS S 3 rfl rfl (ak S 4) (eX rfl) rfl rfl rfl rfl)) dW))) (λ_=>rfl)) (cb (mf S 3 rfl rfl))))
theorem mH:DefOk P w K mg base 1 "_law_judge" 2 m__law_judge:=mk A.f32 A.g ["world","sentence"] xm ["whole","word","one","outside","other","away","room"] ["len","list","range"] [0,1,2,3,4,5,6,7] [0,1,4,6,7] [0,1,2] λX S I C=>
 (br (da S false 2 (Hi S 1 2 rfl rfl I.e.n7 rfl rfl I.e.n3 (bc (fz S 0 I.e.n2 (bc (bA (ak S 0) w_de_int)))) (eX rfl) (eX rfl))) (br (da S false 3 (bA (ak S 1) w_de_int)) (br (dS (cn (bN I.r) (ak S 3) dU) (cb (ak S 2)) dW) (br (dS (cn (bN I.r) (ak S 3) dU) (cb (iE [0,1,8] [0,1] [] S 8 (w_di_seq (ak S 2)) (λc a F1=>have I:=F1.i I;rd (cn (dt I.r) (bA (ak a 1) w_de_int) (bA (bA (ak a 0) w_de_int) (ak a 8)))) (λc a F1=>have I:=F1.i I;(ak a 8)))) dW) (br uy (br uy (br uy (br uy (br uy (br uy (br uy (br uy (ko uy)))))))))))))
theorem mG:DefOk P w K mg base 2 "_law_plain" 3 dz:=mk A.f33 A.g ["world","sentence","below"] sg ["whole","word","room"] ["len","list","range","_law_judge","_law_steps_in"] [0,1,2,3,4] [2] [0,1,2,3,4] λX S I C=>
 (br (da S false 3 (Hi S 1 2 rfl rfl I.e.n7 rfl rfl I.e.n3 (bc (fz S 0 I.e.n2 (bc (bA (ak S 0) w_de_int)))) (eX rfl) (eX rfl))) (br (da S false 4 (bA (ak S 1) w_de_int)) (br (dS (cn (dt I.r) (ak S 4) (pI (bB dU (bc dU)))) (cb (dm S 3 (I.c (mH A)) (bB (ak S 0) (bc (ak S 1))))) dW) (br (dS (cn (bN I.r) (ak S 4) dU) (cb (iE [2,5] [2] [] S 5 (w_di_seq (ak S 3)) (λc a F1=>have I:=F1.i I;rd (cn (xA I.r) (ak a 5) (bA (ak a 2) w_de_int))) (λc a F1=>have I:=F1.i I;(ak a 5)))) dW) (br (dS (cn (bN I.r) (ak S 4) dU) (cb (iE [2,5] [2] [] S 5 (w_di_seq (ak S 3)) (λe b R=>have I:=R.i I;rd (kj (uk (cn (dt I.r) (ak b 5) (bA (ak b 2) w_de_int)) (ux (cn (dt I.r) (ak b 5) (bA (ak b 2) w_de_int)))))) (λe b R=>have I:=R.i I;(ak b 5)))) dW) (br (dS (cn (bN I.r) (ak S 4) dU) (cb (iE [2,5] [2] [] S 5 (w_di_seq (ak S 3)) (λg d y=>have I:=y.i I;rd (kj (pN (cn (dt I.r) (ak d 5) (bA (ak d 2) w_de_int)) (uv (cn (dt I.r) (ak d 5) (bA (ak d 2) w_de_int)))))) (λg d y=>have I:=y.i I;(ak d 5)))) dW) (cb (dm S 4 (I.c (jg A)) (bB (ak S 0) (bB (bA (ak S 2) w_de_int) (bc (dP (bN I.r) (ak S 4) dU))))))))))))
theorem hX:DefOk P w K mg base 1 "_law_room_right" 6 bF:=mk A.f34 A.g ["world","word","ranks","room","stay","goal"] Mf ["each","into","less","there"] ["len"] [0,1,2,3,4,5,6,7,8] [2,3] [0] λX S I C=>
 (br (da S false 6 (dP (dt I.r) (ak S 1) (pI (bB dU (bc dU))))) (br (xF (vs':=[2,9]) (cs':=[2]) (lo':=[]) (gs':=[]) S false 7 .leaf 9 rfl rfl rfl rfl (by kernel_rfl) (by kernel_rfl) (by kernel_rfl) (w_di_seq (bA (bA (ak S 0) w_de_int) (ak S 3))) (λc a F1=>have I:=F1.i I;rd (cn (xh I.r) (bA (ak a 2) (ak a 9)) iR)) (λc a F1=>have I:=F1.i I;(ak a 9)) (λ_=>rfl)) (br (dS (cn (kA I.r) (bA (ak S 2) (ak S 3)) iR) (br (dS (kT (ak S 5) (λ_=>rfl)) (cb sC) dW) (cb (IC (GY (ak S 4)) (nj (xB (kT (ak S 6) (λ_=>rfl)) (dP (mz I.r) (fz S 0 I.e.n2 (bc (ak S 7))) (fz S 0 I.e.n2 (bc (bA (bA (ak S 0) w_de_int) (ak S 3))))) (dP (bN I.r) (ak S 7) (jy .leaf w_da_nil))))))) dW) (br (dS (kj (pN (kT (ak S 5) (λ_=>rfl)) (uv (cn (bN I.r) (bA (ak S 2) (ak S 3)) w_de_int)))) (cb (ni (ak S 5) (nj (dP (bN I.r) (bA (ak S 2) (ak S 3)) w_de_int)))) dW) (br (xF (vs':=[2,3,9]) (cs':=[2,3]) (lo':=[]) (gs':=[]) S false 8 .leaf 9 rfl rfl rfl rfl (by kernel_rfl) (by kernel_rfl) (by kernel_rfl) (w_di_seq (ak S 7)) (λe b R=>have I:=R.i I;rd (cn (mz I.r) (bA (ak b 2) (ak b 9)) (bA (ak b 2) (ak b 3)))) (λe b R=>have I:=R.i I;(ak b 9)) (λ_=>rfl)) (cb (ni (dP (jI I.r) (bA (ak S 2) (ak S 3)) w_de_int) (ni (ak S 4) (nj (xB (kT (ak S 6) (λ_=>rfl)) (dP (bN I.r) (fz S 0 I.e.n2 (bc (ak S 8))) (fz S 0 I.e.n2 (bc (bA (bA (ak S 0) w_de_int) (ak S 3))))) (dP (my I.r) (ak S 8) (jy .leaf w_da_nil))))))))))))
theorem kB(n:Nat):DefOk P w K mg base (2+n) "_law_holds" 3 (bh n):=by
 induction n with
 |zero=>exact Kn A.f35 sg
 |succ n B=>exact mk (k:=2+n) A.f35 A.g ["world","sentence","told"] sg ["pieces","whole","below","until","room","rooms","ranks","parts","goal","piece","k"] ["isinstance","tuple","len","list","range","sorted","set","_law_holds","all","_law_plain","_law_room_right"] [0,1,2,3,4,5,6,7,8,9,10,11] [0,3,4,6,9,10] [2,3,4,5,6,8,9,10] λX S I C=>
  (br (sD S 8 9 10 rfl rfl rfl rfl rfl rfl (ak S 2) rfl rfl) (br (nt S false 3 rfl rfl (nL (S.cel 3 _ rfl rfl)) (iE [12] [] [0,1] S 12 (uA (nA (ak S 1) w_de_int)) (λc a F1=>have I:=F1.i I;rd (kT (GX a 0 1 rfl rfl rfl rfl rfl IM I.e.n4 I.e.n5 (ak a 12) (bC rfl) (bC rfl) rfl) (λ_=>rfl))) (λc a F1=>have I:=F1.i I;(ak a 12)))) (br (da S false 4 (Hi S 3 4 rfl rfl I.e.n7 rfl rfl I.e.n3 (bc (fz S 2 I.e.n2 (bc (bA (ak S 0) w_de_int)))) (eX rfl) (eX rfl))) (br (dS (kj (pN (cn (my I.r) (ak S 8) (mh S 5 6 rfl rfl I.e.n10 rfl rfl I.e.n11 (bc (ak S 8)) (eX rfl) (eX rfl))) (uv (cn (jI I.r) (fz S 2 I.e.n2 (bc (iE [4,7] [4] [] S 7 (w_di_seq (ak S 8)) (λe b R=>have I:=R.i I;rd (cn (xA I.r) (ak b 7) (ak b 4))) (λe b R=>have I:=R.i I;(ak b 7))))) w_de_int)))) (cb sC) dW) (br (dS (cn (my I.r) (fz S 2 I.e.n2 (bc (ak S 10))) (fz S 2 I.e.n2 (bc (ak S 3)))) (cb sC) dW) (br (dS (xD (kT (uj S 8 rfl rfl I.e.n1 (bc (iE [0,3,10,13] [0,3,10] [7] S 13 (gp S 4 rfl rfl I.e.n3 (bc (fz S 2 I.e.n2 (bc (ak S 3)))) (eX rfl)) (λ_ _ _=>w_df_nil) (λg d y=>have I:=y.i I;(dm d 7 (I.c B) (bB (ak d 0) (bB (bA (ak d 3) (ak d 13)) (bc (bA (ak d 10) (ak d 13))))))))) (bC rfl) rfl) (λ_=>rfl))) (cb sC) dW) (br (xF (vs':=[12]) (cs':=[]) (lo':=[]) (gs':=[]) S false 5 .leaf 12 rfl rfl rfl rfl (by kernel_rfl) (by kernel_rfl) (by kernel_rfl) (w_di_seq (ak S 10)) (λ_ _ _=>w_df_nil) (λm j i=>(bA (ak j 12) w_de_int)) (λ_=>rfl)) (br (dS (kj (uk (cn (vy I.r) dU (bA (ak S 1) w_de_int)) (ux (cn (vy I.r) dU (bA (ak S 1) w_de_int))))) (cb (ni (dP (kA I.r) (ak S 9) iR) (nj (dP (bN I.r) (ak S 8) (dm S 9 (I.c (mG A)) (bB (ak S 0) (bB (ak S 1) (bc (ak S 5))))))))) dW) (br (dS (kj (pN (cn (kA I.r) (ak S 9) iR) (uv (cn (my I.r) (fz S 2 I.e.n2 (bc (ak S 9))) (fz S 2 I.e.n2 (bc (ak S 4))))))) (cb sC) dW) (br (da S false 6 (dP (EU I.r) dU (bA (ak S 1) w_de_int))) (br (Ad S 7 rfl rfl C (w_di_seq (ak S 4)) (br (da S false 11 (xB (kT (ak S 6) (λ_=>rfl)) (dP (dt I.r) (ak S 7) (bA (ak S 5) w_de_int)) (dP (xA I.r) (ak S 7) (bA (ak S 5) w_de_int)))) (ko (dS (xD (kT (dm S 10 (I.c (hX A)) (bB (ak S 0) (bB (bA (ak S 1) w_de_int) (bB (ak S 9) (bB (ak S 7) (bB (IC (GY (ak S 6)) (nj (dP (dt I.r) (ak S 7) (bA (ak S 5) w_de_int)))) (bc (ak S 11)))))))) (λ_=>rfl))) (cb sC) dW))) (λ_=>rfl)) (cb (dP (bN I.r) (ak S 8) (iE [6,7,9] [6,9] [] S 7 (w_di_seq (ak S 4)) (λl f h=>have I:=h.i I;rd (cn (bN I.r) (dP (xh I.r) (bA (ak f 9) (ak f 7)) iR) (ak f 6))) (λl f h=>have I:=h.i I;(ak f 7))))))))))))))))
theorem mI:DefOk P w K mg base 32 "_law_holds" 3 dA:=kB A 30
theorem kE:pE P w K mg base 1:=match A.f36 with|⟨_,_,hm,F⟩=>jL F hm (Dt F sg) A.g.n2 A.g.n10
theorem fK:SwOk P w K mg base 26 25:=match A.f37 with|⟨_,_,hm,F⟩=>fD F hm (Dt F sg) A.g.n2 (kE A) rfl
theorem mF:DefOk P w K mg base 1 "_law_timed" 2 cJ:=mk A.f38 A.g ["cell","piece"] xm ["word"] [] [0,1,2] [] [] λX S I C=>
 (br (da S false 2 (bA (jy .leaf (bB dU (bB dU (bB dU (bc dU))))) (i9 (ak S 0) w_de_int))) (br (dS (cn (mz I.r) (i9 (ak S 0) w_de_int) w_de_int) (cb (pI (bB (ak S 2) (bB (ak S 1) (bc (pI (bB dU (bc (bA dU (i9 (pH (ak S 0) w_de_int) w_de_int)))))))))) dW) (cb (pI (bB (ak S 2) (bc (ak S 1)))))))
theorem mD(n:Nat):DefOk P w K mg base (0+n) "_law_copy" 1 (cg n):=by
 induction n with
 |zero=>exact Kn A.f39 ue
 |succ n B=>exact mk (k:=0+n) A.f39 A.g ["told"] ue ["piece"] ["list","_law_copy"] [0] [] [0] λX S I C=>
  (cb (pI (bB (D1 S 0 rfl rfl I.e.n7 (bA (ak S 0) w_de_int) (eX rfl)) (bB (xB (cn (kA I.r) (bA (ak S 0) w_de_int) iR) iR (D1 S 0 rfl rfl I.e.n7 (bA (ak S 0) w_de_int) (eX rfl))) (bc (iE [1] [] [1] S 1 (w_di_seq (bA (ak S 0) w_de_int)) (λ_ _ _=>w_df_nil) (λc a F1=>have I:=F1.i I;(dm a 1 (I.c B) (bc (ak a 1))))))))))
theorem oF:DefOk P w K mg base 30 "_law_copy" 1 fN:=mD A 30
theorem o_law{L:Addr}(c:mg "law"=some (.ref L)):∃y:FuncData,(∀(s:Shared)(v:Value),BindsTo s y ⟨[v],[]⟩ [("script",v)])/\∀base:Heap,K.In base->base.Ns mainGlobals mg->eQ P w K mg base lZ 35 L y ["script"] (pJ K 1 m_law):=LW A.f40 A.g "script" ue c ["world","cell","kinds","word","parts","k","sentence","told","turn","handed","found","piece","within"] ["_law_world","_law_cell_at","range","_law_timed","tuple","len","_law_twin","_law_copy","is_paper","isinstance","bool","_law_holds","paper","_law_spoilt_within"] [0,1,2,3,4,5,6,7,8,9,10,11,12,13] [] [0,1,2,3,4,5,6,7,8,9,10,11,12,13] λbase X S I C=>
 (br (da S false 1 (dm S 0 (I.c (mE A)) (bB (ak S 0) (bB w_de_int (bc w_de_int))))) (br (da S false 2 (dm S 1 (I.c (DI A)) (bB (ak S 0) (bc w_de_int)))) (br (da S false 3 (jy .leaf (bB dU (bB dU (bB dU (bB dU (bB dU (bc dU)))))))) (br (da S false 3 (nC (ak S 3) (jy .leaf (bB dU (bB dU (bB dU (bc dU))))))) (br (da S false 4 (bA (ak S 3) (i9 (ak S 2) w_de_int))) (br (da S true 5 (jy .leaf w_da_nil)) (br (Ad S 6 rfl rfl C (gp S 2 rfl rfl I.e.n3 (bc (bA (jy .leaf (bB w_de_int (bB w_de_int (bB w_de_int (bB w_de_int (bB w_de_int (bB w_de_int (bB w_de_int (bB w_de_int (bB w_de_int (bc w_de_int))))))))))) (i9 (ak S 2) w_de_int))) (eX rfl)) (br (da S false 12 (pI (bB dU (bc (bA dU (i9 (pH (pH (ak S 2) w_de_int) (nh (DF w_de_int (ak S 6)) w_de_int)) w_de_int)))))) (br (dS (cn (bN I.r) (i9 (pH (pH (ak S 2) w_de_int) (nh (ak S 6) w_de_int)) w_de_int) w_de_int) (ko (da S false 12 (pI (bB dU (bc (ak S 12)))))) dW) (br (da S false 13 (dm S 1 (I.c (DI A)) (bB (ak S 0) (bc (nh w_de_int (ak S 6)))))) (br (dS (cn (bN I.r) (i9 (ak S 13) w_de_int) w_de_int) (ko (da S false 12 (dm S 3 (I.c (mF A)) (bB (pH (ak S 13) w_de_int) (bc (ak S 12)))))) dW) (ko (AS S 5 rfl rfl (ak S 12) (eX rfl) rfl rfl rfl rfl)))))) (λ_=>rfl)) (br (da S false 7 (xB (cn (my I.r) (ak S 4) dU) (sG (pI (bc (ak S 4))) (pP S 4 rfl rfl I.e.n5 (mf S 5 rfl rfl) (eX rfl))) (pI (bB dU (bc dU))))) (uC S C 8 9 1 7 12 13 2 (I.ppr (yO A)) (I.sw (fK A)) I.e.n3 (i9 (dm S 1 (I.c (DI A)) (bB (ak S 0) (bc w_de_int))) w_de_int) (dm S 1 (I.c (DI A)) (bB (ak S 0) (bc (nh w_de_int (ak S 9))))) (fz S 5 I.e.n2 (bc (bA (ak S 1) w_de_int))) (br (da S false 10 (jy .leaf (bB (dm S 6 (I.c (oE A)) (bc (ak S 1))) (bc (dm S 7 (I.c (oF A)) (bc (ak S 8))))))) (br (da S false 11 (dm S 8 (I.c (qm A)) (bB (bA (ak S 10) w_de_int) (bB (ak S 7) (bc (bA (ak S 10) w_de_int)))))) (cb (ni (GX S 9 10 rfl rfl rfl rfl rfl Dj I.e.n4 I.e.n12 (ak S 11) (bC rfl) (bC rfl) rfl) (ni (dP (bN I.r) (ak S 11) (dm S 11 (I.c (mI A)) (bB (ak S 1) (bB (ak S 7) (bc (ak S 8)))))) (nj (dP (bN I.r) (ak S 10) (jy .leaf (bB (ak S 1) (bc (ak S 8))))))))))) (bC rfl) (bC rfl) (bC rfl))))))))))
end
end KC.O
open PySem PySem.W PyProof.Rows
def PySem.W.Fast.tw14810254526348861760:=0
def PySem.W.Fast.tw8502106335124429504:=0
def PySem.W.Fast.tw4915687848980007298:=0
def PySem.W.Fast.tw11893999445904368806:=0
def PySem.W.Fast.tw12971610283725482058:=0
def PySem.W.Fast.tw2854932244558406699:=0
def PySem.W.Fast.tw11583149958554164045:=0
def PySem.W.Fast.tw1032384856551467919:=0
def PySem.W.Fast.tw1791262364994596436:=0
def PySem.W.Fast.tw8983841996628359962:=0
def PySem.W.Fast.tw13499953099045744060:=0
def PySem.W.Fast.tw229804683607488862:=0
def PySem.W.Fast.tw11208905233472386326:=0
def PySem.W.Fast.tw3667412184897860334:=0
def PySem.W.Fast.tw1714968550336261565:=0
def PySem.W.Fast.tw7678722718412972531:=0
def PySem.W.Fast.tw1528174256196319072:=0
set_option maxRecDepth 100000 in
set_option maxHeartbeats 0 in
theorem PySem.Challenge.cw_foreseehall_k22_papers_checked_holds : PySem.Challenge.rw_foreseehall_k22_papers_checked.Holds := by
 w_on;o_law;k_head;(case hw=>w_witness2)
 k_fill
 refine T.walkG (j:=35) (l:=PySem.Challenge.rw_foreseehall_k22_papers_checked) KC.O.law_true ⟨rfl,by decide,by decide,rfl⟩ rfl rfl (λw h Y=>PySem.W.kIn_of Y) ?F
 case F=>
  intro w mg fa h KX G hmg;refine' KC.O.o_law (.mk (.mk (T.gn KX G ?z0) (T.gn KX G ?z1) (T.gn KX G ?z2) (T.gn KX G ?z3) (T.gn KX G ?z4) (T.gn KX G ?z5) (T.gn KX G ?z6) (T.gn KX G ?z7) (T.gn KX G ?z8) (T.gn KX G ?z9) (T.gn KX G ?z10) (T.gn KX G ?z11) (T.gn KX G ?z12) (T.gt KX G ?e0 ?q0 ?v0) (T.gi KX G ?e1) (T.gt KX G ?e2 ?q2 ?v2) (T.gi KX G ?e3) (T.gi KX G ?e4) (T.gt KX G ?e5 ?q5 ?v5) (T.gt KX G ?e6 ?q6 ?v6) (T.gt KX G ?e7 ?q7 ?v7) (T.gd KX G ?x0 ?y0 ?w0)) (T.ft KX G ?a0 ?l0 ?c0 ?k0) (T.ft KX G ?a1 ?l1 ?c1 ?k1) (T.ft KX G ?a2 ?l2 ?c2 ?k2) (T.ft KX G ?a3 ?l3 ?c3 ?k3) (T.ft KX G ?a4 ?l4 ?c4 ?k4) (T.ft KX G ?a5 ?l5 ?c5 ?k5) (T.ft KX G ?a6 ?l6 ?c6 ?k6) (T.ft KX G ?a7 ?l7 ?c7 ?k7) (T.ft KX G ?a8 ?l8 ?c8 ?k8) (T.ft KX G ?a9 ?l9 ?c9 ?k9) (T.ft KX G ?a10 ?l10 ?c10 ?k10) (T.ft KX G ?a11 ?l11 ?c11 ?k11) (T.ft KX G ?a12 ?l12 ?c12 ?k12) (T.ft KX G ?a13 ?l13 ?c13 ?k13) (T.ft KX G ?a14 ?l14 ?c14 ?k14) (T.ft KX G ?a15 ?l15 ?c15 ?k15) (T.ft KX G ?a16 ?l16 ?c16 ?k16) (T.ft KX G ?a17 ?l17 ?c17 ?k17) (T.ft KX G ?a18 ?l18 ?c18 ?k18) (T.ft KX G ?a19 ?l19 ?c19 ?k19) (T.ft KX G ?a20 ?l20 ?c20 ?k20) (T.ft KX G ?a21 ?l21 ?c21 ?k21) (T.ft KX G ?a22 ?l22 ?c22 ?k22) (T.ft KX G ?a23 ?l23 ?c23 ?k23) (T.ft KX G ?a24 ?l24 ?c24 ?k24) (T.ft KX G ?a25 ?l25 ?c25 ?k25) (T.ft KX G ?a26 ?l26 ?c26 ?k26) (T.ft KX G ?a27 ?l27 ?c27 ?k27) (T.ft KX G ?a28 ?l28 ?c28 ?k28) (T.ft KX G ?a29 ?l29 ?c29 ?k29) (T.ft KX G ?a30 ?l30 ?c30 ?k30) (T.ft KX G ?a31 ?l31 ?c31 ?k31) (T.ft KX G ?a32 ?l32 ?c32 ?k32) (T.ft KX G ?a33 ?l33 ?c33 ?k33) (T.ft KX G ?a34 ?l34 ?c34 ?k34) (T.ft KX G ?a35 ?l35 ?c35 ?k35) (T.ft KX G ?a36 ?l36 ?c36 ?k36) (T.ft KX G ?a37 ?l37 ?c37 ?k37) (T.ft KX G ?a38 ?l38 ?c38 ?k38) (T.ft KX G ?a39 ?l39 ?c39 ?k39) (T.ft KX G ?a40 ?l40 ?c40 ?k40)) hmg
  case a0|l0|c0|k0|a1|l1|c1|k1|a2|l2|c2|k2|a3|l3|c3|k3|a4|l4|c4|k4|a5|l5|c5|k5|a6|l6|c6|k6|a7|l7|c7|k7|a8|l8|c8|k8|a9|l9|c9|k9|a10|l10|c10|k10|a11|l11|c11|k11|a12|l12|c12|k12|a13|l13|c13|k13|a14|l14|c14|k14|a15|l15|c15|k15|a16|l16|c16|k16|a17|l17|c17|k17|a18|l18|c18|k18|a19|l19|c19|k19|a20|l20|c20|k20|a21|l21|c21|k21|a22|l22|c22|k22|a23|l23|c23|k23|a24|l24|c24|k24|a25|l25|c25|k25|a26|l26|c26|k26|a27|l27|c27|k27|a28|l28|c28|k28|a29|l29|c29|k29|a30|l30|c30|k30|a31|l31|c31|k31|a32|l32|c32|k32|a33|l33|c33|k33|a34|l34|c34|k34|a35|l35|c35|k35|a36|l36|c36|k36|a37|l37|c37|k37|a38|l38|c38|k38|a39|l39|c39|k39|a40|l40|c40|k40|z0|z1|z2|z3|z4|z5|z6|z7|z8|z9|z10|z11|z12|e0|q0=>k_is
  case v0=>kernel_rfl
  case e1|e2|q2=>k_is
  case v2=>kernel_rfl
  case e3|e4|e5|q5=>k_is
  case v5=>kernel_rfl
  case e6|q6=>k_is
  case v6=>kernel_rfl
  case e7|q7=>k_is
  case v7=>kernel_rfl
  case x0|y0=>k_is
  case w0=>kernel_rfl
