import PyProof.Rows.All
import Wide.All
import OpenK.AllK
import Wide.FinOn
import Lean
import PyProof.EqAt
import PyProof.EqKinds
import PyProof.TupleCall
import PyProof.ZipIter
import PyProof.Rows.TopTwo
import KE.KIsAll
import KE.KTryMore
import PyProof.ExcArgsOwn
import PyProof.NsDelKeeps
import KE.KSortTup
import PyProof.ListRange
import PyProof.NeKinds
import PyProof.FactsAll.tuple_2
import PyProof.FactsAll.tuple_3
import PyProof.Rows.SortShell
import PyProof.Rows.SortWalk
import PyProof.Rows.MinMaxN
import KE.KRevIter
import PyProof.AttrMissHeap
import PyProof.ListNew
import PyProof.FactsAll.dict_1
import KE.KRevSl
import PyProof.Rows.IntBool
import PyProof.TupleOfSeq
import KE.KIntText
import PyProof.StrWalks
import PyProof.StrCalls2
import PyProof.StrBlock2
import PyProof.FString5
import PyProof.StrLawsTight
import PyProof.StrLawsChain
import PyProof.Rows.SortStr
import PyProof.ListMulRoad
import KE.KDictSum
import KE.KPairComp
import PyProof.StationsW
import PyProof.Rows.Catch
import PyProof.ExcClass3
import PyProof.ExcInit
import PyProof.Ns1
import PyProof.Rows.TupTab
import PyProof.SetKind
import PyProof.Rows.SetFrom
import PyProof.CollectIter
import PyProof.DictCompW
import PyProof.PureStr
import PySem.Challenge.RW_hungwords_k34_what_may_come_of_a_stand
set_option compiler.extract_closed false
set_option Elab.async false
set_option linter.all false
set_option maxRecDepth 100000
set_option maxHeartbeats 8000000
theorem au1(h:True:=by first | exact .inl rfl | exact .inr rfl | assumption):True:=h
theorem au2(h:True:=by decide):True:=h
theorem au3(h:True:=by first | exact nobehind _ (by decide) (by decide) | rfl):True:=h
theorem au4(h:True:=by intro _;rfl):True:=h
theorem au5(h:True:=by rfl):True:=h
theorem au6(h:True:=by first | exact Or.inl rfl | exact Or.inr (Or.inl rfl) | exact Or.inr (Or.inr rfl)):True:=h
theorem au7(h:True:=by exact fun _ _=>rfl):True:=h
theorem au8(h:True:=by first | exact Or.inl rfl | exact Or.inr rfl):True:=h
theorem au9(h:True:=by with_unfolding_all rfl):True:=h
theorem au10(h:True:=by lia):True:=h
section
namespace L2
open PySem PySem.Spec PyProof.Rows
abbrev Key:=Sum Int Str
noncomputable def keyIs:Key->Value->Bool
 | .inl k,v=>Value.isInt k v
 | .inr x,v=>Value.isStrOf x v
noncomputable def keyH(w:World):Key->Int
 | .inl k=>hashInt k
 | .inr x=>hashStr w x
theorem keyIs_shape: ∀{k:Key} {v:Value},keyIs k v=true->(∃i t,k=Sum.inl i/\v=Value.int i t)\/(∃x t,k=Sum.inr x/\v=Value.str x t)
 | .inl i,v,h=>by
  obtain⟨t,e⟩:=Value.isInt_shape (k:=i) (v:=v) h;exact .inl ⟨i,t,rfl,e⟩
 | .inr x,v,h=>by
  obtain⟨t,e⟩:=Value.isStrOf_shape (x:=x) (v:=v) h;exact .inr ⟨x,t,rfl,e⟩
theorem keyIs_int(i:Int)(t:Tok):keyIs (.inl i) (.int i t)=true:=by simp [keyIs,Value.isInt]
theorem keyIs_str(x:Str)(t:Tok):keyIs (.inr x) (.str x t)=true:=by simp [keyIs,Value.isStrOf]
theorem key_ll(a b:Int):decide ((Sum.inl a:Key)=Sum.inl b)=(a==b):=by
 by_cases e:a=b
 . subst e;simp
 . have h: ¬(Sum.inl a:Key)=Sum.inl b:=fun q=>e (Sum.inl.inj q);rw[decide_eq_false h];exact(beq_eq_false_iff_ne.mpr e).symm
theorem key_rr(a b:Str):decide ((Sum.inr a:Key)=Sum.inr b)=decide (a=b):=by
 by_cases e:a=b
 . subst e;simp
 . have h: ¬(Sum.inr a:Key)=Sum.inr b:=fun q=>e (Sum.inr.inj q);rw[decide_eq_false h,decide_eq_false e]
theorem key_lr(a:Int)(b:Str):decide ((Sum.inl a:Key)=Sum.inr b)=false:=decide_eq_false (fun q=>nomatch q)
theorem key_rl(a:Str)(b:Int):decide ((Sum.inr a:Key)=Sum.inl b)=false:=decide_eq_false (fun q=>nomatch q)
noncomputable def mixKind(prog:Program)(w:World):PySem.KeyKind prog w Key where
 is:=keyIs
 hash:=keyH w
 inj:=fun v a b ha hb=>by
  rcases keyIs_shape ha with ⟨i,t,rfl,rfl⟩ | ⟨x,t,rfl,rfl⟩
  . rcases keyIs_shape hb with ⟨j,u,rfl,e⟩ | ⟨y,u,rfl,e⟩
    . injection e with e1 _;rw[e1]
    . exact nomatch e
  . rcases keyIs_shape hb with ⟨j,u,rfl,e⟩ | ⟨y,u,rfl,e⟩
    . exact nomatch e
    . injection e with e1 _;rw[e1]
 byValue:=fun k v h=>by
  rcases keyIs_shape h with ⟨i,t,rfl,rfl⟩ | ⟨x,t,rfl,rfl⟩ <;> rfl
 pyHash:=fun hv h=>by
  rcases keyIs_shape hv with ⟨i,t,rfl,rfl⟩ | ⟨x,t,rfl,rfl⟩
  . exact wpAny_pyHash_int h
  . exact wpAny_pyHash_str h
 eqBool:=fun hu hv h=>by
  rcases keyIs_shape hu with ⟨i,t,rfl,rfl⟩ | ⟨x,t,rfl,rfl⟩
  . rcases keyIs_shape hv with ⟨j,u,rfl,rfl⟩ | ⟨y,u,rfl,rfl⟩
    . rw[key_ll] at h;exact wpAny_eqBool_int h
    . rw[key_lr] at h;exact SeqAt.EqAt.int_str i t y u _ _ _ _ h
  . rcases keyIs_shape hv with ⟨j,u,rfl,rfl⟩ | ⟨y,u,rfl,rfl⟩
    . rw[key_rl] at h;exact SeqAt.EqAt.str_int x t j u _ _ _ _ h
    . rw[key_rr] at h;exact wpAny_eqBool_str h
 «strs» :=fun k x t v h=>by
  rcases keyIs_shape h with ⟨i,u,rfl,e⟩ | ⟨y,u,rfl,e⟩
  . exact nomatch e
  . injection e with e1 _
    subst e1;cases v <;> rfl
theorem mixKind_int(prog:Program)(w:World)(i:Int)(t:Tok):(mixKind prog w).is (.inl i) (.int i t)=true:=keyIs_int i t
theorem mixKind_str(prog:Program)(w:World)(x:Str)(t:Tok):(mixKind prog w).is (.inr x) (.str x t)=true:=keyIs_str x t
inductive V where
 | non | bl (b:Bool) | int (i:Int) | str (x:Str) | byt (b:Array UInt8) | flt (b:UInt64) | ref (a:Addr) | ty (n:String)
 deriving DecidableEq
def RelV:V->Value->Prop
 | .non,u=>u=Value.none
 | .bl b,u=>u=Value.bool b
 | .int i,u=> ∃t,u=Value.int i t
 | .str x,u=> ∃t,u=Value.str x t
 | .byt b,u=> ∃t,u=Value.bytes b t
 | .flt b,u=> ∃t,u=Value.float b t
 | .ref a,u=>u=Value.ref a
 | .ty n,u=>u=Value.type n
abbrev Vals:List V->List Value->Prop:=Paired RelV
theorem Vals.length{xs:List V}{us:List Value}(r:Vals xs us):xs.length=us.length:=Paired.length r
theorem Vals.get: ∀{xs:List V} {us:List Value} {i:Nat} {x:V},Vals xs us->xs[i]?=some x-> ∃u,us[i]?=some u/\RelV x u
 | _,_,_,_, .nil,e=>by simp at e
 | _,_,0,_, .cons r _,e=>by simp at e;subst e;exact⟨_,rfl,r⟩
 | _,_,i+1,x, .cons _ t,e=>by
  obtain⟨u,h1,h2⟩:=Vals.get (i:=i) (x:=x) t (by simpa using e);exact⟨u,by simpa using h1,h2⟩
theorem Vals.set{x:V}{u:Value}(r:RelV x u): ∀{xs:List V} {us:List Value} (i:Nat),Vals xs us->Vals (xs.set i x) (us.set i u)
 | _,_,_, .nil=> .nil
 | _,_,0, .cons _ t=> .cons r t
 | _,_,i+1, .cons q t=> .cons q (Vals.set r i t)
theorem Vals.append: ∀{xs ys:List V} {us ws:List Value},Vals xs us->Vals ys ws->Vals (xs++ys) (us++ws)
 | _,_,_,_, .nil,s=>s
 | _,_,_,_, .cons r t,s=> .cons r (Vals.append t s)
theorem Vals.take: ∀{xs:List V} {us:List Value} (n:Nat),Vals xs us->Vals (xs.take n) (us.take n)
 | _,_,0,_=> .nil
 | _,_,_+1, .nil=> .nil
 | _,_,n+1, .cons r t=> .cons r (Vals.take n t)
theorem Vals.drop: ∀{xs:List V} {us:List Value} (n:Nat),Vals xs us->Vals (xs.drop n) (us.drop n)
 | _,_,0,r=>r
 | _,_,_+1, .nil=> .nil
 | _,_,n+1, .cons _ t=>Vals.drop n t
def RelO:Option V->Option Value->Prop
 | some v,some u=>RelV v u
 | none,none=>True
 | _,_=>False
def KV{κ:Type}:List (κ × V)->List (κ × Value)->Prop:=Paired fun(p:κ × V) (q:κ × Value)=>p.1=q.1/\RelV p.2 q.2
noncomputable def kV:Key->V
 | .inl i=> .int i
 | .inr x=> .str x
def IsTp(h:Heap)(a:Addr)(items:Array Value):Prop:= ∃o,h.get? a=some o/\o.cls= .type "tuple"/\o.dict=none/\ ∃n,o.data= .seq items n
theorem IsTp.tup{h:Heap}{a:Addr}{items:Array Value}(x:IsTp h a items):IsTup h a items:=let ⟨o,e,c,_,d⟩:=x;⟨o,e,c,d⟩
theorem IsTp.lt{h:Heap}{a:Addr}{items:Array Value}(x:IsTp h a items):a < h.objs.size:=let ⟨_,e,_⟩:=x;Heap.lt_size e
theorem IsTp.new(h:Heap)(items:Array Value):IsTp (h.push {cls:= .type "tuple",data:= .seq items}) h.objs.size items:=⟨_,Heap.get?_push_size _ rfl,rfl,rfl,_,rfl⟩
inductive HO where
  | lst (xs:List V)
  | tup (xs:List V)
  | dK (kvs:List (Key × V)) | dT (kvs:List (List Key × V))
  | set (S:Int->Bool) (n:Nat)
  | ins (C dx:Addr) (fs:List (Str × V))
  | own (x:Addr)
  | xd (fs:List (Str × V))
  | met (f x:Addr)
  | rng (lo hi:Int)
  | frz (o:Obj) (u:HO)
  | tbl (ps:Array Value)
  | ext (φ:Heap->Prop)
abbrev Hp:=Addr->Option HO
noncomputable def upd(H:Hp)(a:Addr)(o:HO):Hp:=fun b=>if b=a then some o else H b
theorem upd_same{H:Hp}{a:Addr}{o:HO}:upd H a o a=some o:=by unfold upd;rw[if_pos rfl]
theorem upd_ne{H:Hp}{a b:Addr}{o:HO}(h:b≠a):upd H a o b=H b:=by unfold upd;rw[if_neg h]
theorem ne_of{H:Hp}{a b:Addr}{o u:HO}(h:H a=some o)(h':H b=some u)(d:o≠u):a≠b:=by
 intro e;subst e;rw[h] at h';exact d (Option.some.inj h')
theorem ne_of_none{H:Hp}{a b:Addr}{o:HO}(h:H a=some o)(h':H b=none):a≠b:=by
 intro e;subst e;rw[h] at h';cases h'
section
variable (P : Program) (w : World)
def ObjOk(H:Hp)(h:Heap)(a:Addr):HO->Prop
 | .lst xs=>xs.length<=sizeLine/\ ∃(its:List Value) (n:Nat),Vals xs its/\h.get? a=some {cls:= .type "list",data:= .seq its.toArray n}
 | .tup xs=>xs.length<=sizeLine/\ ∃its:List Value,Vals xs its/\IsTp h a its.toArray
 | .dK kvs=>kvs.length<=sizeLine/\(a==sysModules)=false/\ ∃vs,KV kvs vs/\h.DictOf (mixKind P w) a vs
 | .dT kvs=>kvs.length<=sizeLine/\(a==sysModules)=false/\ ∃xs:List (List Key × Addr × Value),
   Paired (fun(p:List Key × V) (q:List Key × Addr × Value)=>p.1=q.1/\H q.2.1=some (.tup (p.1.map kV))/\RelV p.2 q.2.2) kvs xs/\
   ∃o es ep,h.get? a=some o/\o.ExactDict/\o.data= .dict es ep/\es.toList=xs.map (entryOfKey (tupleKind (mixKind P w)))/\(xs.map (·.1)).Nodup
 | .set S n=>h.SetOf (intKind P w) a S n
 | .ins C dx fs=>H dx=some (.own a)/\fs.length<=1000/\dx≠a/\h.get? a=some (PySem.W.instObj C dx)/\
   ∃mA,h.Ns1 dx mA/\(∀f,RelO (fs.lookup f) (mA f))/\PySem.Within mA (fs.map (·.1))
 | .own _=> ∃o,h.get? a=some o
 | .xd fs=> ∃mA,h.Ns1 a mA/\ ∀f,RelO (fs.lookup f) (mA f)
 | .rng lo hi=> ∃t u v,h.get? a=some {cls:= .type "range",data:= .fields #[.int lo t, .int hi u, .int 1 v]}
 | .frz o u=>h.get? a=some o/\ObjOk H h a u
 | .tbl ps=>h.get? a=some {cls:= .none,data:= .fields ps}
 | .met f x=>h.get? a=some (PySem.W.methodObj (.ref f) (.ref x))
 | .ext φ=>φ h/\(∃o,h.get? a=some o)/\ ∀h1 h2:Heap,φ h1->(∀o,h1.get? a=some o->h2.get? a=some o)->φ h2
def HOk(H:Hp)(h:Heap):Prop:= ∀a o,H a=some o->ObjOk P w H h a o
end
section
variable {P : Program} {w : World} {H H' : Hp} {h h' : Heap} {a : Addr} {o : HO}
theorem ObjOk.lt(x:ObjOk P w H h a o):a < h.objs.size:=by
 cases o with
 | lst xs=>obtain⟨_,_,_,_,e⟩:=x;exact Heap.lt_size e
 | tup xs=>obtain⟨_,_,_,p⟩:=x;exact p.lt
 | dK kvs=>obtain⟨_,_,_,_,o,_,_,e,_⟩:=x;exact Heap.lt_size e
 | dT kvs=>obtain⟨_,_,_,_,o,_,_,e,_⟩:=x;exact Heap.lt_size e
 | set S n=>obtain⟨o,_,_,_,e,_⟩:=x;exact Heap.lt_size e
 | ins C dx fs=>obtain⟨_,_,_,e,_⟩:=x;exact Heap.lt_size e
 | own y=>obtain⟨_,e⟩:=x;exact Heap.lt_size e
 | xd fs=>obtain⟨_,⟨_,_,_,e,_⟩,_⟩:=x;exact Heap.lt_size e
 | rng lo hi=>obtain⟨_,_,_,e⟩:=x;exact Heap.lt_size e
 | frz ob u=>obtain⟨e,_⟩:=x;exact Heap.lt_size e
 | tbl ps=>exact Heap.lt_size (show h.get? a=some _ from x)
 | met f y=>exact Heap.lt_size (show h.get? a=some _ from x)
 | ext φ=>obtain⟨_,⟨_,e⟩,_⟩:=x;exact Heap.lt_size e
theorem Paired.mapP{α β:Type}{F G:α->β->Prop}: ∀{l₁:List α} {l₂:List β},Paired F l₁ l₂->(∀a b,F a b->G a b)->Paired G l₁ l₂
 | _,_, .nil,_=> .nil
 | _,_, .cons r t,f=> .cons (f _ _ r) (Paired.mapP t f)
theorem ObjOk.stay(x:ObjOk P w H h a o)(k: ∀b u,(b=a\/H b=some (.own a))->h.get? b=some u->h'.get? b=some u)
  (ho: ∀b,H b=some (.own a)->H' b=some (.own a)) (ht: ∀b xs,H b=some (.tup xs)->H' b=some (.tup xs)):ObjOk P w H' h' a o:=by
 induction o with
 | lst xs=>obtain⟨z,its,n,r,e⟩:=x;exact⟨z,its,n,r,k _ _ (.inl rfl) e⟩
 | tup xs=>obtain⟨z,its,r,ob,e,c⟩:=x;exact⟨z,its,r,ob,k _ _ (.inl rfl) e,c⟩
 | dK kvs=>obtain⟨z,y,vs,r,ob,es,ep,e,c⟩:=x;exact⟨z,y,vs,r,ob,es,ep,k _ _ (.inl rfl) e,c⟩
 | dT kvs=>
  obtain⟨z,y,xs,r,ob,es,ep,e,c⟩:=x;exact⟨z,y,xs,Paired.mapP r fun p q z=>⟨z.1,ht _ _ z.2.1,z.2.2⟩,ob,es,ep,k _ _ (.inl rfl) e,c⟩
 | set S n=>obtain⟨ob,es,ep,t,e,c⟩:=x;exact⟨ob,es,ep,t,k _ _ (.inl rfl) e,c⟩
 | ins C dx fs=>
  obtain⟨d,z,ne,e,mA,⟨od,es,ep,e2,c⟩,r⟩:=x;exact⟨ho _ d,z,ne,k _ _ (.inl rfl) e,mA,⟨od,es,ep,k _ _ (.inr d) e2,c⟩,r⟩
 | own y=>obtain⟨ob,e⟩:=x;exact⟨ob,k _ _ (.inl rfl) e⟩
 | xd fs=>obtain⟨mA,⟨od,es,ep,e,c⟩,r⟩:=x;exact⟨mA,⟨od,es,ep,k _ _ (.inl rfl) e,c⟩,r⟩
 | rng lo hi=>obtain⟨t,u,v,e⟩:=x;exact⟨t,u,v,k _ _ (.inl rfl) e⟩
 | frz ob u ih=>obtain⟨e,q⟩:=x;exact⟨k _ _ (.inl rfl) e,ih q⟩
 | tbl ps=>
  have e:h.get? a=some {cls:= .none,data:= .fields ps}:=x;show h'.get? a=some {cls:= .none,data:= .fields ps};exact k a _ (.inl rfl) e
 | met f y=>
  have e:h.get? a=some (PySem.W.methodObj (.ref f) (.ref y)):=x;show h'.get? a=some (PySem.W.methodObj (.ref f) (.ref y));exact k a _ (.inl rfl) e
 | ext φ=>obtain⟨p,⟨o,e⟩,st⟩:=x;exact⟨st _ _ p fun o q=>k _ _ (.inl rfl) q,⟨o,k _ _ (.inl rfl) e⟩,st⟩
theorem HOk.lt(x:HOk P w H h)(e:H a=some o):a < h.objs.size:=(x a o e).lt
theorem HOk.fresh(x:HOk P w H h)(e:h.objs.size<=a):H a=none:=by
 cases q:H a with
 | none=>rfl
 | some u=>exact absurd (Nat.lt_of_lt_of_le (x.lt q) e) (Nat.lt_irrefl _)
theorem HOk.kept(x:HOk P w H h)(k: ∀b u,h.get? b=some u->h'.get? b=some u):HOk P w H h':=fun a o e=>
 (x a o e).stay (fun b u _ q=>k b u q) (fun _ q=>q) fun _ _ q=>q
theorem HOk.laid(x:HOk P w H h)(k: ∀b u,h.get? b=some u->h'.get? b=some u)(hp:h.objs.size<=a)(new:ObjOk P w (upd H a o) h' a o):HOk P w (upd H a o) h':=fun b u e=>by
 have hn:=x.fresh hp;by_cases hb:b=a
 . subst hb;rw[upd_same] at e;cases e;exact new
 . rw[upd_ne hb] at e;exact(x b u e).stay (fun c v _ q=>k c v q) (fun c q=>by rw[upd_ne (ne_of_none q hn)];exact q) fun c xs q=>by rw[upd_ne (ne_of_none q hn)];exact q
end
def Rd(H:Hp)(a:Addr)(u:HO):Prop:=H a=some u\/ ∃o,H a=some (.frz o u)
theorem Rd.ok{P:Program}{w:World}{H:Hp}{h:Heap}{a:Addr}{u:HO}(r:Rd H a u)(x:HOk P w H h):ObjOk P w H h a u:=by
 rcases r with r | ⟨o,r⟩
 . exact x a u r
 . obtain⟨_,q⟩:=x a _ r;exact q
def Mut:Option HO->Prop
 | some (.lst _)=>True
 | some (.dK _)=>True
 | some (.dT _)=>True
 | some (.set _ _)=>True
 | some (.ins _ _ _)=>True
 | some (.ext _)=>True
 | _=>False
section
variable {P : Program} {w : World} {H : Hp} {h h' : Heap} {x e : Addr} {o' : HO}
theorem HOk.write(ok:HOk P w H h)(mu:Mut (H x))(he:e=x\/H e=some (.own x))(k: ∀b u,b≠e->h.get? b=some u->h'.get? b=some u)(heo: ∃u,h'.get? e=some u)
  (new:ObjOk P w (upd H x o') h' x o'):HOk P w (upd H x o') h':=fun b u q=>by
 have nown: ∀c y,H c=some (.own y)->c≠x:=fun c y r z=>by subst z;rw[r] at mu;exact mu
 have ntup: ∀c xs,H c=some (.tup xs)->c≠x:=fun c xs r z=>by subst z;rw[r] at mu;exact mu
 by_cases hb:b=x
 . subst hb;rw[upd_same] at q;cases q;exact new
 . rw[upd_ne hb] at q;by_cases hbe:b=e
   . have q' : H b = some (.own x) := by
       rcases he with z | z
       . exact absurd (hbe.trans z) hb
       . rw[hbe];exact z
     rw[q] at q';cases q';obtain⟨v,hv⟩:=heo;exact⟨v,by rw[hbe];exact hv⟩
   . refine(ok b u q).stay (fun c v hc r=>k c v ?_ r) (fun c r=>by rw[upd_ne (nown c b r)];exact r) fun c xs r=>by rw[upd_ne (ntup c xs r)];exact r
     rcases hc with rfl | hc
     . exact hbe
     . rintro rfl
       rcases he with z | z
       . exact nown c b hc z
       . rw[hc] at z;cases z;exact hb rfl
end
structure Un(fs ex:List Addr)(H H':Hp)(h h':Heap):Prop where
 keep: ∀b o,h.get? b=some o->H b=none->b∉fs->b∉ex->h'.get? b=some o
 slot: ∀b o,h.get? b=some o->H b=none->b∈fs->b∉ex-> ∃sl,h'.get? b=some {o with slots:=sl}
 free: ∀b o,h.get? b=some o->H b=none->b∉ex->H' b=none
 there: ∀b o,h.get? b=some o->b∉ex-> ∃o',h'.get? b=some o'
 tups: ∀b xs,H b=some (.tup xs)->H' b=some (.tup xs)
 frzs: ∀b o u,H b=some (.frz o u)->H' b=some (.frz o u)
 tbls: ∀b ps,H b=some (.tbl ps)-> ∃more,H' b=some (.tbl (ps++more))
section
variable {fs fs' ex ex' : List Addr} {H H1 H2 : Hp} {h h1 h2 h' : Heap} {a x e : Addr} {o : HO}
theorem Un.any(u:Un fs ex H H1 h h1){b:Addr}{ob:Obj}(q:h.get? b=some ob)(n:H b=none)(hx:b∉ex): ∃sl,h1.get? b=some {ob with slots:=sl}:=by
 by_cases hb:b∈fs
 . exact u.slot b ob q n hb hx
 . exact⟨ob.slots,u.keep b ob q n hb hx⟩
theorem Un.kept(k: ∀b u,h.get? b=some u->h'.get? b=some u):Un fs ex H H h h':=
 ⟨fun b ob q _ _ _=>k b ob q,fun b ob q _ _ _=>⟨ob.slots,k b ob q⟩,fun _ _ _ n _=>n,fun b ob q _=>⟨ob,k b ob q⟩,fun _ _ q=>q,fun _ _ _ q=>q,fun _ ps q=>⟨#[],by rw[q];simp⟩⟩
theorem Un.refl:Un fs ex H H h h:=Un.kept fun _ _ q=>q
theorem Un.laid(k: ∀b u,h.get? b=some u->h'.get? b=some u)(hp:h.objs.size<=a)(hn:H a=none):Un fs ex H (upd H a o) h h' where
 keep:=fun b u q _ _ _=>k b u q
 slot:=fun b u q _ _ _=>⟨u.slots,k b u q⟩
 free:=fun b u q n _=>by rw[upd_ne (Nat.ne_of_lt (Nat.lt_of_lt_of_le (Heap.lt_size q) hp))];exact n
 there:=fun b u q _=>⟨u,k b u q⟩
 tups:=fun b xs q=>by rw[upd_ne (ne_of_none q hn)];exact q
 frzs:=fun b u xs q=>by rw[upd_ne (ne_of_none q hn)];exact q
 tbls:=fun b ps q=>⟨#[],by rw[upd_ne (ne_of_none q hn),q];simp⟩
theorem Un.write(mu:Mut (H x))(he:e=x\/H e=some (.own x))(k: ∀b u,b≠e->h.get? b=some u->h'.get? b=some u)(heo: ∃u,h'.get? e=some u):Un fs ex H (upd H x o) h h':=by
 have hx: ∀b,H b=none->b≠x:=fun b n z=>by subst z;rw[n] at mu;exact mu
 have hb: ∀b,H b=none->b≠e:=fun b n z=>by
  subst z;rcases he with r | r
  . exact hx b n r
  . rw[n] at r;cases r
 have hm: ∀b u,H b=some u-> ¬Mut (some u)->b≠x:=fun b u q nm z=>by subst z;rw[q] at mu;exact nm mu
 refine⟨fun b u q n _ _=>k b u (hb b n) q,fun b u q n _ _=>⟨u.slots,k b u (hb b n) q⟩,fun b u q n _=>by rw[upd_ne (hx b n)];exact n,fun b u q _=>?_,
  fun b xs q=>by rw[upd_ne (hm b _ q fun z=>z)];exact q,fun b u xs q=>by rw[upd_ne (hm b _ q fun z=>z)];exact q,fun b ps q=>⟨#[],by rw[upd_ne (hm b _ q fun z=>z),q];simp⟩⟩
 by_cases hbe:b=e
 . subst hbe;exact heo
 . exact⟨u,k b u hbe q⟩
end
noncomputable def trk(h:Heap)(H:Hp):List Addr:=(List.range h.objs.size).filter fun a=>(H a).isSome
noncomputable def hidT(h:Heap)(H:Hp):Heap:=PySem.W.hideAll h (trk h H)
theorem hidT_size(h:Heap)(H:Hp):(hidT h H).objs.size=h.objs.size:=PySem.W.hideAll_size _ _
theorem hidT_get{h:Heap}{H:Hp}{b:Addr}{o:Obj}(e:h.get? b=some o)(n:H b=none):(hidT h H).get? b=some o:=
 PySem.W.hideAll_get _ e fun hm=>by
  have q:(H b).isSome=true:=(List.mem_filter.mp hm).2;rw[n] at q;simp at q
theorem of_hidT{h:Heap}{H:Hp}{b:Addr}{o:Obj}(e:(hidT h H).get? b=some o):h.get? b=some o/\H b=none:=by
 have e':h.get? b=some o:=PySem.W.of_hideAll (trk h H) e;refine⟨e',?_⟩;cases q:H b with
 | none=>rfl
 | some x=>
  have hm:b∈trk h H:=List.mem_filter.mpr ⟨List.mem_range.mpr (Heap.lt_size e'),by simp [q]⟩;have z:(hidT h H).get? b=none:=PySem.W.hideAll_none (trk h H) hm;rw[z] at e;cases e
structure Mod(K:PySem.W.Frag)(mg:Str->Option Value)(base:Heap):Prop where
 kin:K.In base
 glob:base.Ns mainGlobals mg
 blt: ∃mb,base.Ns builtinsNs mb/\ ∀x:Str,x≠"__name__"->mb x=bootBuiltins x
 nolimit:base.NoLimit
structure Cx where
 prog:Program
 w:World
 K:PySem.W.Frag
 mg:Str->Option Value
 base:Heap
 A:Around
 N:List Str
 s₀:Shared
 H₀:Hp
 env:Env
 outer:List Env
 stack:List Env
 ex:List Addr
 fn:Str->Bool
 calm:Bool
 pn:List (Addr × Obj)
 xe:Value->Shared->Prop
noncomputable def frs(l:List Env):List Addr:=l.filterMap (·.frame)
noncomputable abbrev Cx.fs (X:Cx):List Addr:=frs X.outer
def Vis(sc:Scope)(x:Str):Prop:=sc.names.lookup x=some .local\/sc.names.lookup x=some .cell\/sc.names.lookup x=some .free
def Loc(sc:Scope)(x:Str):Prop:=sc.names.lookup x=some .local\/sc.names.lookup x=some .cell
def Look(env:Env)(h:Heap)(m:Str->Option Value)(x:Str)(u:Value):Prop:=
 (env.kindOf x=some .local/\m x=some u)\/((env.kindOf x=some .cell\/env.kindOf x=some .free)/\ ∃c,env.cells.lookup x=some c/\h.IsCell c (some u))
structure Cx.Ok(X:Cx):Prop where
 mod:Mod X.K X.mg X.base
 kind:X.env.scope.kind= .function
 glob:X.env.globals=mainGlobals
 blt:X.env.builtins=builtinsNs
 above:X.s₀.heap.objs.size<=X.env.locals
 inj: ∀x y c,X.env.cells.lookup x=some c->X.env.cells.lookup y=some c->x=y
 has: ∀x,(X.env.kindOf x=some .cell\/X.env.kindOf x=some .free)-> ∃c,X.env.cells.lookup x=some c
 cab: ∀x c,X.fn x=true->X.env.cells.lookup x=some c->X.s₀.heap.objs.size<=c
 hd:X.calm=true->X.A.handled=none
 frames:X.A.frames=some X.stack
 stk:X.stack=X.outer\/(X.stack=X.env::X.outer/\X.env.frame=some X.env.locals)
 exf: ∀b∈X.ex,b≠X.env.locals/\ ∀x c,X.env.cells.lookup x=some c->c≠b
 bs: ∀b o,X.base.get? b=some o->X.s₀.heap.get? b=some o/\X.H₀ b=none
 bsz:X.base.objs.size<=X.s₀.heap.objs.size
 noex: ∀b o,X.base.get? b=some o->b∉X.ex
 exfs: ∀b∈X.ex,b∉X.fs
 funs:X.s₀.heap.FunFrames X.base X.outer
 frf: ∀b∈X.fs,X.H₀ b=none
structure Inv(X:Cx)(pins:List (Addr × Obj))(σ:List (Option V))(H:Hp)(s:Shared):Prop where
 ok:X.Ok
 os:s.os=X.s₀.os
 bare:AllBare s.gens
 base:Un X.fs X.ex X.H₀ H X.s₀.heap s.heap
 loc: ∃m,s.heap.Ns X.env.locals m/\ ∀(i:Nat) (x:Str) (v:V),X.N[i]?=some x->σ[i]?=some (some v)->Vis X.env.scope x-> ∃u,RelV v u/\Look X.env s.heap m x u
 cell: ∀x c,X.env.cells.lookup x=some c-> ∃v,s.heap.IsCell c v
 free:H X.env.locals=none
 freeC: ∀x c,X.env.cells.lookup x=some c->H c=none
 pin: ∀p∈X.pn++pins,s.heap.get? p.1=some p.2/\H p.1=none/\p.1≠X.env.locals/\p.1∉X.fs/\ ∀v,p.2.data≠ .cell v
 hok:HOk X.prog X.w H s.heap
 len:σ.length=X.N.length
section
variable {X : Cx} {pins : List (Addr × Obj)} {σ : List (Option V)} {H H' : Hp} {s : Shared} {h' : Heap}
theorem Cx.Ok.nofr(ok:X.Ok){b:Addr}{o:Obj}(e:X.base.get? b=some o):b∉X.fs:=fun hb=>by
 have:=(ok.funs.mem hb).1;rw[e] at this;cases this
theorem Inv.bs(I:Inv X pins σ H s): ∀b o,X.base.get? b=some o->s.heap.get? b=some o/\H b=none:=fun b o e=>
 ⟨I.base.keep b o (I.ok.bs b o e).1 (I.ok.bs b o e).2 (I.ok.nofr e) (I.ok.noex b o e),I.base.free b o (I.ok.bs b o e).1 (I.ok.bs b o e).2 (I.ok.noex b o e)⟩
theorem Inv.bk(I:Inv X pins σ H s): ∀b o,X.base.get? b=some o->s.heap.get? b=some o:=fun b o e=>(I.bs b o e).1
theorem Inv.mod(I:Inv X pins σ H s):Mod X.K X.mg X.base:=I.ok.mod
theorem Inv.kIn(I:Inv X pins σ H s):X.K.In s.heap:=I.ok.mod.kin.keeps I.bk
theorem Inv.lt(I:Inv X pins σ H s):X.env.locals < s.heap.objs.size:=let ⟨_,hn,_⟩:=I.loc;hn.lt
theorem Inv.sz(I:Inv X pins σ H s):X.s₀.heap.objs.size<=s.heap.objs.size:=Nat.le_trans I.ok.above (Nat.le_of_lt I.lt)
theorem Inv.nofs(I:Inv X pins σ H s){a:Addr}(h:s.heap.objs.size<=a):a∉X.fs:=fun hb=>by
 obtain⟨_,o,ho,_⟩:=I.ok.funs.mem hb;exact absurd (Nat.lt_of_lt_of_le (Heap.lt_size ho) (Nat.le_trans I.sz h)) (Nat.lt_irrefl _)
theorem Inv.cne(I:Inv X pins σ H s): ∀x c,X.env.cells.lookup x=some c->c≠X.env.locals:=fun x c e z=>by
 obtain⟨v,o,ho,hd⟩:=I.cell x c e;obtain⟨m,⟨o',es,ep,ho',hd',_⟩,_⟩:=I.loc;rw[z,ho'] at ho;cases ho;rw[hd'] at hd;cases hd
theorem Inv.funs(I:Inv X pins σ H s):s.heap.FunFrames X.base X.outer:=by
 have all: ∀(l:List Env),(∀b∈frs l,b∈X.fs)->X.s₀.heap.FunFrames X.base l->s.heap.FunFrames X.base l:=by
  intro l;induction l with
  | nil=>intro _ _;trivial
  | cons env r ih=>
   intro hs hl;obtain⟨hk,⟨L,o,hf,hn,ho,hd⟩,hr⟩:=hl;have hL:L∈X.fs:=hs L (by unfold frs;rw[List.filterMap_cons,hf];exact List.mem_cons_self);obtain⟨sl,e⟩:=I.base.slot L o ho (I.ok.frf L hL) hL fun z=>I.ok.exfs L z hL;exact⟨hk,⟨L,_,hf,hn,e,hd⟩,ih (fun b hb=>hs b (by unfold frs;rw[List.filterMap_cons,hf];exact List.mem_cons_of_mem _ hb)) hr⟩
 exact all X.outer (fun _ hb=>hb) I.ok.funs
theorem Inv.stack(I:Inv X pins σ H s):s.heap.FunFrames X.base X.stack:=by
 rcases I.ok.stk with e | ⟨e,hf⟩
 . rw[e];exact I.funs
 . rw[e];obtain⟨m,hn,_⟩:=I.loc;refine .cons (by rw[I.ok.kind];decide) hf hn ?_ I.funs;exact Heap.get?_none_of_le (Nat.le_trans I.ok.bsz I.ok.above)
theorem Inv.stkSub(I:Inv X pins σ H s): ∀b∈frs X.stack,b∈X.env.locals::X.fs:=fun b hb=>by
 rcases I.ok.stk with e | ⟨e,hf⟩
 . rw[e] at hb;exact List.mem_cons_of_mem _ hb
 . rw[e] at hb;unfold frs at hb;rw[List.filterMap_cons,hf] at hb;exact hb
theorem Inv.stkFree(I:Inv X pins σ H s): ∀b∈frs X.stack,H b=none:=fun b hb=>by
 rcases List.mem_cons.mp (I.stkSub b hb) with e | hb
 . rw[e];exact I.free
 . obtain⟨_,o,ho,_⟩:=I.ok.funs.mem hb;exact I.base.free b o ho (I.ok.frf b hb) fun z=>I.ok.exfs b z hb
theorem Inv.step{g':Array GenState}{t':Nat}{d':Drawn}{ch:List Addr}(I:Inv X pins σ H s)
  (hch: ∀b∈ch,(b∈X.ex\/X.s₀.heap.objs.size<=b)/\b≠X.env.locals/\(∀x c,X.env.cells.lookup x=some c->c≠b)/\ ∀p∈X.pn++pins,p.1≠b)
  (keep: ∀b o,b≠X.env.locals->b∉X.fs->b∉ch->s.heap.get? b=some o->H b=none->h'.get? b=some o)
  (slot: ∀b o,b≠X.env.locals->b∈X.fs->b∉ch->s.heap.get? b=some o->H b=none-> ∃sl,h'.get? b=some {o with slots:=sl}) (free: ∀b o,b∉ch->s.heap.get? b=some o->H b=none->H' b=none)
  (there: ∀b o,b∉ch->s.heap.get? b=some o-> ∃o',h'.get? b=some o')
  (tups: ∀b xs,H b=some (.tup xs)->H' b=some (.tup xs)) (frzs: ∀b o u,H b=some (.frz o u)->H' b=some (.frz o u)) (tbls: ∀b ps,H b=some (.tbl ps)-> ∃more,H' b=some (.tbl (ps++more)))
  (ns: ∀m,s.heap.Ns X.env.locals m->h'.Ns X.env.locals m) (hok:HOk X.prog X.w H' h') (hg:AllBare g'):
  Inv X pins σ H' {s with heap:=h',gens:=g',drawn:=d',toks:=t'}:=by
 have neL: ∀b o,X.s₀.heap.get? b=some o->b≠X.env.locals:=fun b o e=>Nat.ne_of_lt (Nat.lt_of_lt_of_le (Heap.lt_size e) I.ok.above);have neC: ∀b o,X.s₀.heap.get? b=some o->b∉X.ex->b∉ch:=fun b o e hx hb=>by
  rcases(hch b hb).1 with z | z
  . exact hx z
  . exact absurd (Nat.lt_of_lt_of_le (Heap.lt_size e) z) (Nat.lt_irrefl _)
 have cellK: ∀x c,X.env.cells.lookup x=some c-> ∀v,s.heap.IsCell c v->h'.IsCell c v:=fun x c e v zz1=>(by obtain⟨o,ho,hd⟩:=zz1;exact(by
  have nch:c∉ch:=fun z=>(hch c z).2.2.1 x c e rfl;by_cases hc:c∈X.fs
  . obtain⟨sl,q⟩:=slot c o (I.cne x c e) hc nch ho (I.freeC x c e);exact⟨_,q,hd⟩
  . exact⟨o,keep c o (I.cne x c e) hc nch ho (I.freeC x c e),hd⟩))
 refine⟨I.ok,I.os,hg,⟨fun b o e n hb hx=>?_,fun b o e n hb hx=>?_,fun b o e n hx=>?_,fun b o e hx=>?_,fun b xs e=>tups b xs (I.base.tups b xs e),fun b o xs e=>frzs b o xs (I.base.frzs b o xs e),fun b ps e=>?_⟩,?_,fun x c e=>?_,?_,fun x c e=>?_,fun p hp=>?_,hok,I.len⟩
 . exact keep b o (neL b o e) hb (neC b o e hx) (I.base.keep b o e n hb hx) (I.base.free b o e n hx)
 . obtain⟨sl,e1⟩:=I.base.slot b o e n hb hx;obtain⟨sl',e2⟩:=slot b _ (neL b o e) hb (neC b o e hx) e1 (I.base.free b o e n hx);exact⟨sl',e2⟩
 . obtain⟨o',e1⟩:=I.base.there b o e hx;exact free b o' (neC b o e hx) e1 (I.base.free b o e n hx)
 . obtain⟨o',e1⟩:=I.base.there b o e hx;exact there b o' (neC b o e hx) e1
 . obtain⟨m1,e1⟩:=I.base.tbls b ps e;obtain⟨m2,e2⟩:=tbls b _ e1;exact⟨m1++m2,by rw[e2,Array.append_assoc]⟩
 . obtain⟨m,hn,hl⟩:=I.loc;refine⟨m,ns m hn,fun i x v e1 e2 e3=>?_⟩;obtain⟨u,r,l⟩:=hl i x v e1 e2 e3;refine⟨u,r,?_⟩;rcases l with l | ⟨k,c,e,z⟩
   . exact .inl l
   . exact .inr ⟨k,c,e,cellK x c e _ z⟩
 . obtain⟨v,z⟩:=I.cell x c e;exact⟨v,cellK x c e v z⟩
 . obtain⟨m,⟨o,_,_,ho,_⟩,_⟩:=I.loc;exact free _ o (fun z=>(hch _ z).2.1 rfl) ho I.free
 . obtain⟨v,o,ho,hd⟩:=I.cell x c e;exact free c o (fun z=>(hch c z).2.2.1 x c e rfl) ho (I.freeC x c e)
 . obtain⟨e,n,ne,nf,d⟩:=I.pin p hp;have nch:p.1∉ch:=fun z=>(hch p.1 z).2.2.2 p hp rfl;exact⟨keep p.1 p.2 ne nf nch e n,free p.1 p.2 nch e n,ne,nf,d⟩
theorem Inv.un{t':Nat}(I:Inv X pins σ H s)(u:Un X.fs [] H H' s.heap h')(hok:HOk X.prog X.w H' h'):Inv X pins σ H' {s with heap:=h',toks:=t'}:=by
 obtain⟨m,⟨o,es,ep,ho,r⟩,_⟩:=id I.loc;obtain⟨sl,hL⟩:=u.any ho I.free (by simp);exact I.step (g':=s.gens) (d':=s.drawn) (ch:= []) (fun _ z=>nomatch z) (fun b o _ hb _ e n=>u.keep b o e n hb (by simp)) (fun b o _ hb _ e n=>u.slot b o e n hb (by simp)) (fun b o _ e n=>u.free b o e n (by simp)) (fun b o _ e=>u.there b o e (by simp)) u.tups u.frzs u.tbls (fun m' hm=>by
  obtain⟨o',es',ep',ho',r'⟩:=hm;rw[ho] at ho';cases ho';exact⟨_,es',ep',hL,r'⟩) hok I.bare
theorem Inv.call{g':Array GenState}{t':Nat}{d':Drawn}{ch:List Addr}(I:Inv X pins σ H s)(u:Un (frs X.stack) ch H H' s.heap h')(hok:HOk X.prog X.w H' h')(hg:AllBare g')
  (hch: ∀b∈ch,(b∈X.ex\/X.s₀.heap.objs.size<=b)/\b≠X.env.locals/\(∀x c,X.env.cells.lookup x=some c->c≠b)/\ ∀p∈X.pn++pins,p.1≠b):
  Inv X pins σ H' {s with heap:=h',gens:=g',drawn:=d',toks:=t'}:=by
 obtain⟨m,⟨o,es,ep,ho,r⟩,_⟩:=id I.loc;obtain⟨sl,hL⟩:=u.any ho I.free fun z=>(hch _ z).2.1 rfl;exact I.step (ch:=ch) hch (fun b o hL hb hc e n=>u.keep b o e n (fun z=>(List.mem_cons.mp (I.stkSub b z)).elim hL hb) hc) (fun b o _ _ hc e n=>u.any e n hc) (fun b o hc e n=>u.free b o e n hc) (fun b o hc e=>u.there b o e hc) u.tups u.frzs u.tbls (fun m' hm=>by
  obtain⟨o',es',ep',ho',r'⟩:=hm;rw[ho] at ho';cases ho';exact⟨_,es',ep',hL,r'⟩) hok hg
theorem Inv.turned{t':Nat}{it:Addr}(I:Inv X pins σ H s)(k: ∀b o,b≠it->s.heap.get? b=some o->h'.get? b=some o)(hn:H it=none)(hL:it≠X.env.locals)
  (h1:it∈X.ex\/X.s₀.heap.objs.size<=it) (h2: ∀x c,X.env.cells.lookup x=some c->c≠it) (h3: ∀p∈X.pn++pins,p.1≠it):Inv X pins σ H {s with heap:=h',toks:=t'}:=by
 have nit: ∀b u,H b=some u->b≠it:=fun b u e z=>by rw[z,hn] at e;cases e
 refine I.step (g':=s.gens) (d':=s.drawn) (ch:= [it]) (fun b hb=>?_) (fun b o _ _ hc e _=>k b o (fun z=>hc (by simp [z])) e) (fun b o _ _ hc e _=>⟨o.slots,k b o (fun z=>hc (by simp [z])) e⟩) (fun _ _ _ _ n=>n)
  (fun b o hc e=>⟨o,k b o (fun z=>hc (by simp [z])) e⟩) (fun _ _ e=>e) (fun _ _ _ e=>e) (fun b ps e=>⟨#[],by rw[e];simp⟩) (fun m hm=>?_) (fun b u e=>?_) I.bare
 . have e:b=it:=by simpa using hb
   subst e;exact⟨h1,hL,h2,h3⟩
 . obtain⟨o,es,ep,ho,r⟩:=hm;exact⟨o,es,ep,k _ o (Ne.symm hL) ho,r⟩
 . refine(I.hok b u e).stay (fun c v hc q=>k c v ?_ q) (fun _ q=>q) fun _ _ q=>q;rcases hc with z | z
   . rw[z];exact nit b u e
   . exact nit c _ z
theorem Inv.tok(I:Inv X pins σ H s)(t:Nat):Inv X pins σ H {s with toks:=t}:=I.un (h':=s.heap) (t':=t) Un.refl I.hok
theorem Inv.kept{t':Nat}(I:Inv X pins σ H s)(k: ∀b u,s.heap.get? b=some u->h'.get? b=some u):Inv X pins σ H {s with heap:=h',toks:=t'}:=I.un (Un.kept k) (I.hok.kept k)
theorem Inv.laid{a:Addr}{o:HO}{t':Nat}(I:Inv X pins σ H s)(k: ∀b u,s.heap.get? b=some u->h'.get? b=some u)(hp:s.heap.objs.size<=a)(new:ObjOk X.prog X.w (upd H a o) h' a o):
  Inv X pins σ (upd H a o) {s with heap:=h',toks:=t'}:=I.un (Un.laid k hp (I.hok.fresh hp)) (I.hok.laid k hp new)
theorem Inv.write{x e:Addr}{o:HO}{t':Nat}(I:Inv X pins σ H s)(mu:Mut (H x))(he:e=x\/H e=some (.own x))(k: ∀b u,b≠e->s.heap.get? b=some u->h'.get? b=some u)(heo: ∃u,h'.get? e=some u)
  (new:ObjOk X.prog X.w (upd H x o) h' x o):Inv X pins σ (upd H x o) {s with heap:=h',toks:=t'}:=I.un (Un.write mu he k heo) (I.hok.write mu he k heo new)
theorem Inv.weak{σ':List (Option V)}(I:Inv X pins σ H s)(hl:σ'.length=σ.length)(w: ∀(i:Nat) v,σ'[i]?=some (some v)->σ[i]?=some (some v)):Inv X pins σ' H s:=
 ⟨I.ok,I.os,I.bare,I.base,let ⟨m,hn,hl'⟩:=I.loc;⟨m,hn,fun i x v e1 e2 e3=>hl' i x v e1 (w i v e2) e3⟩,I.cell,I.free,I.freeC,I.pin,I.hok,hl.trans I.len⟩
theorem Inv.pins_of{pins':List (Addr × Obj)}(I:Inv X pins σ H s)(h: ∀p∈pins',s.heap.get? p.1=some p.2/\H p.1=none/\p.1≠X.env.locals/\p.1∉X.fs/\ ∀v,p.2.data≠ .cell v):Inv X pins' σ H s:=
 ⟨I.ok,I.os,I.bare,I.base,I.loc,I.cell,I.free,I.freeC,fun p hp=>(List.mem_append.mp hp).elim (fun z=>I.pin p (List.mem_append_left _ z)) (h p),I.hok,I.len⟩
theorem nodup_ix{N:List Str}(hN:N.Nodup){i j:Nat}{x:Str}(a:N[i]?=some x)(b:N[j]?=some x):i=j:=by
 obtain⟨h1,e1⟩:=List.getElem?_eq_some_iff.mp a;obtain⟨h2,e2⟩:=List.getElem?_eq_some_iff.mp b;exact(List.getElem_inj hN).mp (e1.trans e2.symm)
theorem store_ok2{M:Model}{A:Around}{E:Value->Shared->Prop}{i:Nat}{x:Str}{v:V}{u:Value}{Q:Unit->Shared->Prop}(I:Inv X pins σ H s)(hN:X.N.Nodup)(hi:X.N[i]?=some x)(hx:Loc X.env.scope x)(r:RelV v u)
  (h: ∀s',Inv X pins (σ.set i (some v)) H s'->(∃a,Heap.SameBut a s.heap s'.heap/\(a=X.env.locals\/X.env.cells.lookup x=some a))->Q () s') (hf:autoParam (X.fn x=true\/X.env.scope.names.lookup x=some .local) au1._auto_1):wpAny M A (storeName X.env x u) Q E s:=by
 obtain⟨m,hn,hl⟩:=id I.loc;have hcls:(X.env.scope.kind== .class || (X.env.scope.kind== .module && X.env.locals !=X.env.globals))=false:=by rw[I.ok.kind];rfl
 have hiσ:i < σ.length:=by rw[I.len];exact(List.getElem?_eq_some_iff.mp hi).1
 have cne:=I.cne;have tracked: ∀{a:Addr} {h':Heap},(∃o,s.heap.get? a=some o/\H a=none)->Heap.SameBut a s.heap h'->HOk X.prog X.w H h':=fun{a h'} ha hs b ob e=>by
  obtain⟨_,_,hfree⟩:=ha;refine(I.hok b ob e).stay (fun c w' hc q=>(hs.2 c ?_).trans q) (fun _ q=>q) fun _ _ q=>q;rintro rfl
  rcases hc with rfl | hc
  . rw[hfree] at e;cases e
  . rw[hfree] at hc;cases hc
 rcases hx with hk | hk
 . refine wpAny_storeName_local hk hn (fun h' hn' hs=>?_) hcls;obtain⟨oL,_,_,hoL,_⟩:=id hn;refine h _ ⟨I.ok,I.os,I.bare,⟨fun b o e n hb hx=>?_,fun b o e n hb hx=>?_,I.base.free,fun b o e hx=>?_,I.base.tups,I.base.frzs,I.base.tbls⟩,⟨_,hn',fun j y v' e1 e2 e3=>?_⟩,fun y c e=>?_,I.free,I.freeC,fun p hp=>?_,tracked ⟨oL,hoL,I.free⟩ hs,by simpa using I.len⟩ ⟨_,hs, .inl rfl⟩
   . exact(hs.2 b (Nat.ne_of_lt (Nat.lt_of_lt_of_le (Heap.lt_size e) I.ok.above))).trans (I.base.keep b o e n hb hx)
   . obtain⟨sl,e1⟩:=I.base.slot b o e n hb hx;exact⟨sl,(hs.2 b (Nat.ne_of_lt (Nat.lt_of_lt_of_le (Heap.lt_size e) I.ok.above))).trans e1⟩
   . obtain⟨o',e1⟩:=I.base.there b o e hx;exact⟨o',(hs.2 b (Nat.ne_of_lt (Nat.lt_of_lt_of_le (Heap.lt_size e) I.ok.above))).trans e1⟩
   . by_cases hj:j=i
     . subst hj;rw[hi] at e1;cases e1;rw[List.getElem?_set_self hiσ] at e2;cases e2;exact⟨u,r, .inl ⟨hk,by simp⟩⟩
     . rw[List.getElem?_set_ne (Ne.symm hj)] at e2;obtain⟨u',r',q⟩:=hl j y v' e1 e2 e3;refine⟨u',r',?_⟩;rcases q with ⟨k,e⟩ | ⟨k,c,e,z⟩
       . refine .inl ⟨k,?_⟩;have:y≠x:=fun e=>hj (nodup_ix hN e1 (e▸hi));simp [this,e]
       . exact .inr ⟨k,c,e,z.sameBut hs (cne y c e)⟩
   . obtain⟨w',z⟩:=I.cell y c e;exact⟨w',z.sameBut hs (cne y c e)⟩
   . obtain⟨e,n,ne,nf,d⟩:=I.pin p hp;exact⟨(hs.2 p.1 ne).trans e,n,ne,nf,d⟩
 . have hfn : X.fn x = true := by
     rcases hf with z | z
     . exact z
     . rw[z] at hk;cases hk
   obtain⟨c,hc⟩:=I.ok.has x (.inl hk);obtain⟨w',z⟩:=I.cell x c hc;refine wpAny_storeName_cell I.ok.kind hk hc z (fun h' hc' hs=>?_);obtain⟨oc,hoc,hocd⟩:=id z;refine h {s with heap:=h'} ⟨I.ok,I.os,I.bare,⟨fun b o e n hb hx=>?_,fun b o e n hb hx=>?_,I.base.free,fun b o e hx=>?_,I.base.tups,I.base.frzs,I.base.tbls⟩,⟨m,hn.sameBut hs (Ne.symm (cne x c hc)),fun j y v' e1 e2 e3=>?_⟩,fun y c' e=>?_,I.free,I.freeC,fun p hp=>?_,tracked ⟨oc,hoc,I.freeC x c hc⟩ hs,by simpa using I.len⟩ ⟨c,hs, .inr hc⟩
   . exact(hs.2 b (Nat.ne_of_lt (Nat.lt_of_lt_of_le (Heap.lt_size e) (I.ok.cab x c hfn hc)))).trans (I.base.keep b o e n hb hx)
   . obtain⟨sl,e1⟩:=I.base.slot b o e n hb hx;exact⟨sl,(hs.2 b (Nat.ne_of_lt (Nat.lt_of_lt_of_le (Heap.lt_size e) (I.ok.cab x c hfn hc)))).trans e1⟩
   . obtain⟨o',e1⟩:=I.base.there b o e hx;exact⟨o',(hs.2 b (Nat.ne_of_lt (Nat.lt_of_lt_of_le (Heap.lt_size e) (I.ok.cab x c hfn hc)))).trans e1⟩
   . by_cases hj:j=i
     . subst hj;rw[hi] at e1;cases e1;rw[List.getElem?_set_self hiσ] at e2;cases e2;exact⟨u,r, .inr ⟨.inl hk,c,hc,hc'⟩⟩
     . rw[List.getElem?_set_ne (Ne.symm hj)] at e2;obtain⟨u',r',q⟩:=hl j y v' e1 e2 e3;refine⟨u',r',?_⟩;rcases q with q | ⟨k,c',e,z'⟩
       . exact .inl q
       . refine .inr ⟨k,c',e,z'.sameBut hs ?_⟩;rintro rfl
         exact hj (nodup_ix hN e1 (I.ok.inj _ _ _ e hc▸hi))
   . by_cases hcc:c'=c
     . subst hcc;exact⟨_,hc'⟩
     . obtain⟨w2,z2⟩:=I.cell y c' e;exact⟨w2,z2.sameBut hs hcc⟩
   . obtain⟨e,n,ne,nf,d⟩:=I.pin p hp;refine⟨(hs.2 p.1 ?_).trans e,n,ne,nf,d⟩;intro q;rw[q,hoc] at e;have q':oc=p.2:=Option.some.inj e;exact d w' (by rw[<-q'];exact hocd)
theorem store_ok{M:Model}{A:Around}{E:Value->Shared->Prop}{i:Nat}{x:Str}{v:V}{u:Value}{Q:Unit->Shared->Prop}(I:Inv X pins σ H s)(hN:X.N.Nodup)(hi:X.N[i]?=some x)(hx:Loc X.env.scope x)(r:RelV v u)
  (h: ∀s',Inv X pins (σ.set i (some v)) H s'->Q () s') (hf:autoParam (X.fn x=true\/X.env.scope.names.lookup x=some .local) au1._auto_1):wpAny M A (storeName X.env x u) Q E s:=
 store_ok2 I hN hi hx r (fun s' I' _=>h s' I') hf
theorem Inv.call'{s':Shared}{ch:List Addr}(I:Inv X pins σ H s)(ho:s'.os=s.os)(u:Un (frs X.stack) ch H H' s.heap s'.heap)(hok:HOk X.prog X.w H' s'.heap)(hg:AllBare s'.gens)
  (hch: ∀b∈ch,(b∈X.ex\/X.s₀.heap.objs.size<=b)/\b≠X.env.locals/\(∀x c,X.env.cells.lookup x=some c->c≠b)/\ ∀p∈X.pn++pins,p.1≠b):Inv X pins σ H' s':=by
 obtain⟨h',g',d',t',o'⟩:=s';have e:o'=s.os:=ho;subst e;exact I.call (g':=g') (t':=t') (d':=d') u hok hg hch
end
abbrev XK:=Value->Option Addr->Hp->Prop
abbrev St:=List (Option V)
abbrev VK:=V->Hp->Prop
abbrev TE:=St->Hp->VK->Prop
abbrev TT:=St->Hp->(Bool->Hp->Prop)->Prop
abbrev TA:=St->Hp->(List V->Hp->Prop)->Prop
structure Ends where
 nx:St->Hp->Prop
 rt:VK
 bk:St->Hp->Prop:=fun _ _=>False
 ct:St->Hp->Prop:=fun _ _=>False
abbrev TS:=Ends->St->Hp->Prop
inductive EP(X:Cx)(pins:List (Addr × Obj))(σ:St)(Q:VK)(u:Value)(s':Shared):Prop
 | mk (v:V) (H':Hp) (h1:Inv X pins σ H' s') (h2:RelV v u) (h3:Q v H')
inductive TP(X:Cx)(pins:List (Addr × Obj))(σ:St)(Q:Bool->Hp->Prop)(b:Bool)(s':Shared):Prop
 | mk (H':Hp) (h1:Inv X pins σ H' s') (h2:Q b H')
inductive AP(X:Cx)(pins:List (Addr × Obj))(σ:St)(Q:List V->Hp->Prop)(us:List Value)(s':Shared):Prop
 | mk (vs:List V) (H':Hp) (h1:Inv X pins σ H' s') (h2:Vals vs us) (h3:Q vs H')
inductive SPn(X:Cx)(pins:List (Addr × Obj))(P:St->Hp->Prop)(s':Shared):Prop
 | mk (σ':St) (H':Hp) (h1:Inv X pins σ' H' s') (h2:P σ' H')
inductive SPr(X:Cx)(pins:List (Addr × Obj))(P:VK)(u:Value)(s':Shared):Prop
 | mk (v:V) (σ':St) (H':Hp) (h1:Inv X pins σ' H' s') (h2:RelV v u) (h3:P v H')
def SP(X:Cx)(pins:List (Addr × Obj))(D:Ends)(f:Flow)(s':Shared):Prop:=
 match f with
 | .next=>SPn X pins D.nx s'
 | .brk=>SPn X pins D.bk s'
 | .cont=>SPn X pins D.ct s'
 | .ret u=>SPr X pins D.rt u s'
def PE(X:Cx)(e:Expr)(t:TE):Prop:=
 ∀(pins:List (Addr × Obj)) (s:Shared) (σ:St) (H:Hp) (Q:VK),Inv X pins σ H s->t σ H Q->wpAny (model X.prog X.w) X.A (eval e X.env) (EP X pins σ Q) X.xe s
def PT(X:Cx)(e:Expr)(t:TT):Prop:=
 ∀(pins:List (Addr × Obj)) (s:Shared) (σ:St) (H:Hp) (Q:Bool->Hp->Prop),Inv X pins σ H s->t σ H Q->wpAny (model X.prog X.w) X.A (isTrue e X.env (eval e X.env)) (TP X pins σ Q) X.xe s
def PW(X:Cx)(e:Expr)(t:TT):Prop:=
 ∀(whole:Sem Value) (pins:List (Addr × Obj)) (s:Shared) (σ:St) (H:Hp) (Q:Bool->Hp->Prop),Inv X pins σ H s->t σ H Q->wpAny (model X.prog X.w) X.A (isTrue e X.env whole) (TP X pins σ Q) X.xe s
theorem PW.pt{X:Cx}{e:Expr}{t:TT}(h:PW X e t):PT X e t:=h _
def PA(X:Cx)(es:List Expr)(t:TA):Prop:=
 ∀(pos:Pos) (pins:List (Addr × Obj)) (s:Shared) (σ:St) (H:Hp) (Q:List V->Hp->Prop),Inv X pins σ H s->t σ H Q->wpAny (model X.prog X.w) X.A (spliced (backTo pos (starEach es X.env))) (AP X pins σ Q) X.xe s
def PS(X:Cx)(st:Stmt)(t:TS):Prop:=
 ∀(pins:List (Addr × Obj)) (s:Shared) (σ:St) (H:Hp) (D:Ends),Inv X pins σ H s->t D σ H->wpAny (model X.prog X.w) X.A (exec st X.env) (SP X pins D) X.xe s
def PSs(X:Cx)(st:List Stmt)(t:TS):Prop:=
 ∀(pins:List (Addr × Obj)) (s:Shared) (σ:St) (H:Hp) (D:Ends),Inv X pins σ H s->t D σ H->wpAny (model X.prog X.w) X.A (execs st X.env) (SP X pins D) X.xe s
theorem thn{α:Type}{t:Sem α}{Q Q':α->Shared->Prop}{M:Model}{A:Around}{E:Value->Shared->Prop}{s:Shared}(h:wpAny M A t Q E s)(hQ: ∀a s,Q a s->Q' a s):wpAny M A t Q' E s:=wpAny_mono h hQ fun _ _ x=>x
section
variable {X : Cx}
def tVar(i:Nat):TE:=fun σ H Q=> ∃v,σ[i]?=some (some v)/\Q v H
def tC(v:V):TE:=fun _ H Q=>Q v H
theorem pe_var{i:Nat}{x:Str}{pos:Pos}(hN:X.N[i]?=some x)(hv:Vis X.env.scope x)(hd:autoParam ((x==("__debug__":Str))=false) au2._auto_1)(hcd:autoParam ((x==("__classdict__":Str))=false) au2._auto_1):PE X (.Name x pos) (tVar i):=by
 intro pins s σ H Q I h;obtain⟨v,e,h⟩:=h;obtain⟨m,hn,hl⟩:=I.loc;obtain⟨u,r,l⟩:=hl i x v hN e hv;have fin:EP X pins σ Q u s:=⟨v,H,I,r,h⟩
 rcases l with ⟨hk,hm⟩ | ⟨hk,c,hc,hcell⟩
 . exact wpAny_Name (wpAny_loadName_local I.ok.kind hk hn hm fin) hd
 . rcases hk with hk | hk
   . exact wpAny_Name (wpAny_loadName_cell I.ok.kind hk hc hcell fin) hd
   . exact wpAny_Name (wpAny_loadName_free I.ok.kind hk hc hcell fin hcd) hd
theorem pe_int{i j pos}:PE X (.Constant (.int i) j pos) (tC (.int i)):=fun _ _ _ H _ I h=>wpAny_Constant_int ⟨.int i,H,I.tok _,⟨_,rfl⟩,h⟩
theorem pe_bl{b j pos}:PE X (.Constant (.bool b) j pos) (tC (.bl b)):=fun _ _ _ H _ I h=>Constant_bool ⟨.bl b,H,I,rfl,h⟩
theorem pe_non{j pos}:PE X (.Constant .none j pos) (tC .non):=fun _ _ _ H _ I h=>Constant_none ⟨.non,H,I,rfl,h⟩
theorem pe_str{x j pos}:PE X (.Constant (.str x) j pos) (tC (.str x)):=fun _ _ _ H _ I h=>Calls.Constant_str ⟨.str x,H,I.tok _,⟨_,rfl⟩,h⟩
def Gl(X:Cx)(x:Str):Prop:=X.env.kindOf x=some .globalImplicit
theorem ld_glob{E:Value->Shared->Prop}{pins:List (Addr × Obj)}{s:Shared}{σ:St}{H:Hp}{x:Str}{u:Value}{pos:Pos}{Q:Value->Shared->Prop}(I:Inv X pins σ H s)(hg:Gl X x)(hm:X.mg x=some u)(h:Q u s)
  (hd:autoParam ((x==("__debug__":Str))=false) au2._auto_1):wpAny (model X.prog X.w) X.A (eval (.Name x pos) X.env) Q E s:=
 Calls.Name_function_global I.ok.kind hg (Calls.loadGlobal_global (by rw[I.ok.glob];exact I.mod.glob.keeps I.bk) hm h) hd
theorem ld_blt{E:Value->Shared->Prop}{pins:List (Addr × Obj)}{s:Shared}{σ:St}{H:Hp}{x:Str}{u:Value}{pos:Pos}{Q:Value->Shared->Prop}(I:Inv X pins σ H s)(hg:Gl X x)(hm:X.mg x=none)(hv:bootBuiltins x=some u)(h:Q u s)
  (hn:autoParam (x≠"__name__") au2._auto_1) (hd:autoParam ((x==("__debug__":Str))=false) au2._auto_1):wpAny (model X.prog X.w) X.A (eval (.Name x pos) X.env) Q E s:=by
 obtain⟨mb,h1,h2⟩:=I.mod.blt;exact Calls.Name_function_global I.ok.kind hg (Calls.loadGlobal_builtin (by rw[I.ok.glob];exact I.mod.glob.keeps I.bk) hm (by rw[I.ok.blt];exact h1.keeps I.bk) ((h2 x hn).trans hv) h) hd
theorem pe_bltn{x:Str}{v:V}{u:Value}{pos:Pos}(hg:Gl X x)(hm:X.mg x=none)(hv:bootBuiltins x=some u)(r:RelV v u)(hn:autoParam (x≠"__name__") au2._auto_1)(hd:autoParam ((x==("__debug__":Str))=false) au2._auto_1):PE X (.Name x pos) (tC v):=
 fun _ _ _ H _ I h=>ld_blt I hg hm hv ⟨v,H,I,r,h⟩ hn hd
variable {a b : Expr} {ta tb : TE} {pos : Pos}
def PC(X:Cx)(op:CmpOp)(a b:Expr)(t:TE):Prop:=
 ∀(pins:List (Addr × Obj)) (s:Shared) (σ:St) (H:Hp) (Q:VK),Inv X pins σ H s->t σ H Q->
  wpAny (model X.prog X.w) X.A (eval a X.env) (fun v s₁=>wpAny (model X.prog X.w) X.A (eval b X.env) (fun u s₂=>wpAny (model X.prog X.w) X.A (compareOp op v u) (EP X pins σ Q) X.xe s₂) X.xe s₁) X.xe s
theorem nobehind(b:Expr){op:CmpOp}(h:op≠ .In)(h2:op≠ .NotIn):behindInMarks op b=false:=by
 have e1:(op==CmpOp.In)=false:=by cases op <;> first | rfl | exact absurd rfl h
 have e2:(op==CmpOp.NotIn)=false:=by cases op <;> first | rfl | exact absurd rfl h2
 cases b <;> simp [behindInMarks,e1,e2]
def tIsN(ta:TE):TE:=fun σ H Q=>ta σ H fun x H1=>Q (.bl (decide (x= .non))) H1
def tNotN(ta:TE):TE:=fun σ H Q=>ta σ H fun x H1=>Q (.bl (!decide (x= .non))) H1
theorem RelV.none_iff{x:V}{v:Value}(r:RelV x v):(v==Value.none)=decide (x= .non):=by
 cases x with
 | non=>cases r;rfl
 | bl _=>cases r;rfl
 | int _=>obtain⟨t,rfl⟩:=r;rfl
 | str _=>obtain⟨t,rfl⟩:=r;rfl
 | byt _=>obtain⟨t,rfl⟩:=r;rfl
 | flt _=>obtain⟨t,rfl⟩:=r;rfl
 | ref _=>cases r;rfl
 | ty _=>cases r;rfl
theorem pc_isN{j pos'}(ha:PE X a ta):PC X .Is a (.Constant .none j pos') (tIsN ta):=by
 intro pins s σ H Q I h;refine thn (ha pins s σ H _ I h) fun v s1 zz4=>?_;obtain⟨x,H1,I1,r1,q1⟩:=zz4;exact Constant_none (is_none_gen ⟨.bl _,H1,I1,by rw[r1.none_iff];rfl,q1⟩)
theorem pc_notN{j pos'}(ha:PE X a ta):PC X .IsNot a (.Constant .none j pos') (tNotN ta):=by
 intro pins s σ H Q I h;refine thn (ha pins s σ H _ I h) fun v s1 zz5=>?_;obtain⟨x,H1,I1,r1,q1⟩:=zz5;exact Constant_none (isnot_none_gen ⟨.bl _,H1,I1,by rw[r1.none_iff];rfl,q1⟩)
def tB(t:TE):TT:=fun σ H Q=>t σ H fun x H1=> ∃c,x= .bl c/\Q c H1
theorem pe_cmp{op:CmpOp}{t:TE}(h:PC X op a b t)(h1:autoParam (behindInMarks op b=false) au3._auto_1):PE X (.Compare a [op] [b] pos) t:=fun pins s σ H Q I hw=>wpAny_Compare1 (h pins s σ H Q I hw) h1
theorem pt_cmp{op:CmpOp}{t:TE}(h:PC X op a b t)(h1:autoParam (behindInMarks op b=false) au3._auto_1):PT X (.Compare a [op] [b] pos) (tB t):=by
 intro pins s σ H Q I hw;refine wpAny_isTrue_Compare1 (thn (h pins s σ H _ I hw) fun v s1 h1=>thn h1 fun u s2 h2=>thn h2 fun c s3 zz6=>?_) h1;obtain⟨x,H1,I1,r1,q1⟩:=zz6;obtain⟨d,rfl,q⟩:=q1;cases r1;exact wpAny_truthy_bool ⟨H1,I1,q⟩
theorem pt_val{e:Expr}{t:TE}(h:PE X e t)(he:autoParam (∀whole,isTrue e X.env whole=(do let v<-whole;standAt e.pos;holding [v] (truthy v))) au4._auto_1):PT X e (tB t):=by
 intro pins s σ H Q I hw;refine isTrue_plain (thn (h pins s σ H _ I hw) fun v s1 zz7=>?_) (he _);obtain⟨x,H1,I1,r1,q1⟩:=zz7;obtain⟨d,rfl,q⟩:=q1;cases r1;exact wpAny_truthy_bool ⟨H1,I1,q⟩
variable {tA tB' : TT} {rest : List Expr}
def tAnd(t u:TT):TT:=fun σ H Q=>t σ H fun c H1=>if c=true then u σ H1 Q else Q false H1
def tOr(t u:TT):TT:=fun σ H Q=>t σ H fun c H1=>if c=true then Q true H1 else u σ H1 Q
def tNot(t:TT):TT:=fun σ H Q=>t σ H fun c H1=>Q (!c) H1
theorem pw_and1(ha:PT X a tA):PW X (.BoolOp .And [a] pos) tA:=by
 intro wh pins s σ H Q I h;refine isTrue_and (thn (ha pins s σ H Q I h) fun c s1 e=>?_);cases c with
 | true=>exact isTrue_and_nil e
 | false=>exact e
theorem pw_or1(ha:PT X a tA):PW X (.BoolOp .Or [a] pos) tA:=by
 intro wh pins s σ H Q I h;refine isTrue_or (thn (ha pins s σ H Q I h) fun c s1 e=>?_);cases c with
 | false=>exact isTrue_or_nil e
 | true=>exact e
theorem pw_and(ha:PT X a tA)(hb:PW X (.BoolOp .And (b::rest) pos) tB'):PW X (.BoolOp .And (a::b::rest) pos) (tAnd tA tB'):=by
 intro wh pins s σ H Q I h;refine isTrue_and (thn (ha pins s σ H _ I h) fun c s1 zz8=>?_);obtain⟨H1,I1,q1⟩:=zz8;cases c with
 | true=>exact hb wh pins s1 σ H1 Q I1 q1
 | false=>exact⟨H1,I1,q1⟩
theorem pw_or(ha:PT X a tA)(hb:PW X (.BoolOp .Or (b::rest) pos) tB'):PW X (.BoolOp .Or (a::b::rest) pos) (tOr tA tB'):=by
 intro wh pins s σ H Q I h;refine isTrue_or (thn (ha pins s σ H _ I h) fun c s1 zz9=>?_);obtain⟨H1,I1,q1⟩:=zz9;cases c with
 | true=>exact⟨H1,I1,q1⟩
 | false=>exact hb wh pins s1 σ H1 Q I1 q1
theorem pt_not(ha:PT X a tA):PT X (.UnaryOp .Not a pos) (tNot tA):=by
 intro pins s σ H Q I h;refine isTrue_not (wpAny_mono (ha pins s σ H (fun c H1=>Q (!c) H1) I h) (fun c s' z=>?_) fun _ _ z=>z);obtain⟨H',I',q⟩:=z;exact⟨H',I',q⟩
def tAndV(ta tb:TE):TE:=fun σ H Q=>ta σ H fun x H1=> ∃c,x= .bl c/\if c=true then tb σ H1 Q else Q (.bl false) H1
def tNotV(ta:TE):TE:=fun σ H Q=>ta σ H fun x H1=> ∃c,x= .bl c/\Q (.bl (!c)) H1
theorem pe_one{op}{t:TE}(h:PE X a t):PE X (.BoolOp op [a] pos) t:=fun pins s σ H Q I hw=>BoolOp_one (h pins s σ H Q I hw)
theorem pe_and(ha:PE X a ta)(hb:PE X (.BoolOp .And (b::rest) pos) tb):PE X (.BoolOp .And (a::b::rest) pos) (tAndV ta tb):=by
 intro pins s σ H Q I h;refine BoolOp_and (thn (ha pins s σ H _ I h) fun v s1 zz10=>?_);obtain⟨x,H1,I1,r1,q1⟩:=zz10;obtain⟨c,rfl,q1⟩:=q1;cases r1;refine wpAny_truthy_bool ?_;cases c with
 | true=>exact hb pins s1 σ H1 Q I1 q1
 | false=>exact⟨.bl false,H1,I1,rfl,q1⟩
theorem pe_not(ha:PE X a ta):PE X (.UnaryOp .Not a pos) (tNotV ta):=by
 intro pins s σ H Q I h;refine UnaryOp_ (thn (ha pins s σ H _ I h) fun v s1 zz12=>?_);obtain⟨x,H1,I1,r1,q1⟩:=zz12;obtain⟨c,rfl,q1⟩:=q1;cases r1;exact not_of (wpAny_truthy_bool ⟨.bl (!c),H1,I1,rfl,q1⟩)
def tIf(t:TT)(ta tb:TE):TE:=fun σ H Q=>t σ H fun c H1=>if c=true then ta σ H1 Q else tb σ H1 Q
theorem pe_ifExp{c:Expr}(hc:PT X c tA)(ha:PE X a ta)(hb:PE X b tb):PE X (.IfExp c a b pos) (tIf tA ta tb):=by
 intro pins s σ H Q I h;refine wpAny_IfExp (thn (hc pins s σ H _ I h) fun d s1 zz13=>?_);obtain⟨H1,I1,q1⟩:=zz13;cases d with
 | true=>exact ha pins s1 σ H1 Q I1 q1
 | false=>exact hb pins s1 σ H1 Q I1 q1
end
def SqL(K:PySem.W.Frag)(H:Hp)(a:Addr)(xs:List V):Prop:=
 Rd H a (.lst xs)\/
  ∃(o:Obj) (its:Array Value) (n:Nat),K.lookup a=some o/\o.cls= .type "list"/\o.dict=none/\o.data= .seq its n/\its.size<=sizeLine/\Vals xs its.toList
def SqT(K:PySem.W.Frag)(H:Hp)(a:Addr)(xs:List V):Prop:=
 Rd H a (.tup xs)\/
  ∃(o:Obj) (its:Array Value) (n:Nat),K.lookup a=some o/\o.cls= .type "tuple"/\o.data= .seq its n/\its.size<=sizeLine/\Vals xs its.toList
noncomputable def absV:Value->Option V
 | .none=>some .non
 | .bool b=>some (.bl b)
 | .int i _=>some (.int i)
 | .str x _=>some (.str x)
 | .bytes b _=>some (.byt b)
 | .float b _=>some (.flt b)
 | .ref a=>some (.ref a)
 | .type n=>some (.ty n)
 | _=>none
theorem RelV.abs{x:V}{u:Value}(r:RelV x u):absV u=some x:=by
 cases x with
 | non=>cases r;rfl
 | bl _=>cases r;rfl
 | int _=>obtain⟨t,rfl⟩:=r;rfl
 | str _=>obtain⟨t,rfl⟩:=r;rfl
 | byt _=>obtain⟨t,rfl⟩:=r;rfl
 | flt _=>obtain⟨t,rfl⟩:=r;rfl
 | ref _=>cases r;rfl
 | ty _=>cases r;rfl
theorem RelV.inj{x y:V}{u:Value}(r:RelV x u)(q:RelV y u):x=y:=Option.some.inj (r.abs.symm.trans q.abs)
theorem Vals.inj: ∀{xs ys:List V} {us:List Value},Vals xs us->Vals ys us->xs=ys
 | _,_,_, .nil, .nil=>rfl
 | _,_,_, .cons r t, .cons r' t'=>by rw[r.inj r',Vals.inj t t']
section
variable {X : Cx} {pins : List (Addr × Obj)} {σ : St} {H : Hp} {s : Shared} {a : Addr} {xs ys : List V}
theorem SqL.of{K:PySem.W.Frag}(h:H a=some (.lst xs)):SqL K H a xs:= .inl (.inl h)
theorem SqT.of{K:PySem.W.Frag}(h:H a=some (.tup xs)):SqT K H a xs:= .inl (.inl h)
theorem Inv.list(I:Inv X pins σ H s)(h:SqL X.K H a xs): ∃its:List Value,Vals xs its/\PlainL s.heap a its.toArray/\xs.length<=sizeLine:=by
 rcases h with h | ⟨o,its,n,hk,hc,hd,hs,hz,r⟩
 . obtain⟨z,its,n,r,e⟩:=h.ok I.hok;exact⟨its,r,⟨_,n,e,rfl,rfl,rfl⟩,z⟩
 . refine⟨its.toList,r,⟨o,n,I.kIn a o hk,hc,hd,by simpa using hs⟩,?_⟩;have e:=r.length;simp only [Array.length_toList] at e;lia
theorem Inv.tuple(I:Inv X pins σ H s)(h:SqT X.K H a xs): ∃its:List Value,Vals xs its/\IsTup s.heap a its.toArray/\xs.length<=sizeLine:=by
 rcases h with h | ⟨o,its,n,hk,hc,hs,hz,r⟩
 . obtain⟨z,its,r,p⟩:=h.ok I.hok;exact⟨its,r,p.tup,z⟩
 . refine⟨its.toList,r,⟨o,I.kIn a o hk,hc,n,by simpa using hs⟩,?_⟩;have e:=r.length;simp only [Array.length_toList] at e;lia
theorem Inv.list_inj(I:Inv X pins σ H s)(h:SqL X.K H a xs)(h':SqL X.K H a ys):xs=ys:=by
 obtain⟨its,r,⟨o,n,e,_,_,d⟩,_⟩:=I.list h;obtain⟨its',r',⟨o',n',e',_,_,d'⟩,_⟩:=I.list h';rw[e] at e';cases e';rw[d] at d';injection d' with d1 _
 have:its=its':=by simpa using congrArg Array.toList d1
 subst this;exact r.inj r'
theorem Inv.tuple_inj(I:Inv X pins σ H s)(h:SqT X.K H a xs)(h':SqT X.K H a ys):xs=ys:=by
 obtain⟨its,r,⟨o,e,_,n,d⟩,_⟩:=I.tuple h;obtain⟨its',r',⟨o',e',_,n',d'⟩,_⟩:=I.tuple h';rw[e] at e';cases e';rw[d] at d';injection d' with d1 _
 have:its=its':=by simpa using congrArg Array.toList d1
 subst this;exact r.inj r'
end
noncomputable abbrev Cx.wish (X:Cx) (E:Value->Shared->Prop):Cx:={X with xe:=E}
noncomputable abbrev Cx.nox (X:Cx):Cx:=X.wish fun _ _=>False
theorem Cx.Ok.wish{X:Cx}(ok:X.Ok)(E:Value->Shared->Prop):(X.wish E).Ok:=
 ⟨ok.mod,ok.kind,ok.glob,ok.blt,ok.above,ok.inj,ok.has,ok.cab,ok.hd,ok.frames,ok.stk,ok.exf,ok.bs,ok.bsz,ok.noex,ok.exfs,ok.funs,ok.frf⟩
theorem Cx.Ok.unwish{X:Cx}{E:Value->Shared->Prop}(ok:(X.wish E).Ok):X.Ok:=
 ⟨ok.mod,ok.kind,ok.glob,ok.blt,ok.above,ok.inj,ok.has,ok.cab,ok.hd,ok.frames,ok.stk,ok.exf,ok.bs,ok.bsz,ok.noex,ok.exfs,ok.funs,ok.frf⟩
section
variable {X : Cx} {pins : List (Addr × Obj)} {σ : St} {H : Hp} {s : Shared} {E : Value -> Shared -> Prop}
theorem Inv.wish(I:Inv X pins σ H s)(E:Value->Shared->Prop):Inv (X.wish E) pins σ H s:=⟨I.ok.wish E,I.os,I.bare,I.base,I.loc,I.cell,I.free,I.freeC,I.pin,I.hok,I.len⟩
theorem Inv.unwish(I:Inv (X.wish E) pins σ H s):Inv X pins σ H s:=⟨I.ok.unwish,I.os,I.bare,I.base,I.loc,I.cell,I.free,I.freeC,I.pin,I.hok,I.len⟩
theorem SP.unwish{D:Ends}{f:Flow}{s':Shared}(h:SP (X.wish E) pins D f s'):SP X pins D f s':=by
 cases f with
 | next=>obtain⟨σ',H',I,q⟩:=h;exact⟨σ',H',I.unwish,q⟩
 | brk=>obtain⟨σ',H',I,q⟩:=h;exact⟨σ',H',I.unwish,q⟩
 | cont=>obtain⟨σ',H',I,q⟩:=h;exact⟨σ',H',I.unwish,q⟩
 | ret u=>obtain⟨v,σ',H',I,r,q⟩:=h;exact⟨v,σ',H',I.unwish,r,q⟩
theorem PSs.nox{st:List Stmt}{t:TS}(h:PSs X.nox st t):PSs X st t:=fun pins s σ H D I hw=>
 wpAny_mono (h pins s σ H D (I.wish _) hw) (fun _ _ q=>q.unwish) fun _ _ z=>False.elim z
end
section
variable {X : Cx} {st : Stmt} {rest : List Stmt} {t u : TS} {e : Expr} {te : TE} {pos : Pos}
def tNext:TS:=fun D σ H=>D.nx σ H
def tSeq(t u:TS):TS:=fun D σ H=>t {D with nx:=u D} σ H
theorem pss_nil:PSs X [] tNext:=fun _ _ σ H _ I h=>wpAny_execs_nil ⟨σ,H,I,h⟩
theorem pss_cons(h1:PS X st t)(h2:PSs X rest u):PSs X (st::rest) (tSeq t u):=by
 intro pins s σ H D I h;refine wpAny_execs_cons (thn (h1 pins s σ H {D with nx:=u D} I h) fun f s1 q=>?_);cases f with
 | next=>
  obtain⟨σ',H',I',q⟩:=q;exact h2 pins s1 σ' H' D I' q
 | ret v=>exact q
 | brk=>exact q
 | cont=>exact q
theorem pss_one(h1:PS X st t):PSs X [st] t:=by
 intro pins s σ H D I h;refine wpAny_execs_cons (thn (h1 pins s σ H D I h) fun f s1 q=>?_);cases f with
 | next=>exact wpAny_execs_nil q
 | ret v=>exact q
 | brk=>exact q
 | cont=>exact q
theorem Inv.quiet{pins:List (Addr × Obj)}{σ:St}{H:Hp}{s:Shared}(I:Inv X pins σ H s):interactive X.env=false:=by simp [interactive,I.ok.kind]
def tDrop(te:TE):TS:=fun D σ H=>te σ H fun _ H1=>D.nx σ H1
theorem ps_expr(he:PE X e te)(hs:autoParam (swapsWith e none pos.line X.env=pure false) au5._auto_1):PS X (.Expr e pos) (tDrop te):=by
 intro pins s σ H D I h;exact wpAny_Expr_any (thn (he pins s σ H _ I h) fun v s1 zz16=>(by obtain⟨x,H1,I1,r1,q1⟩:=zz16;exact(⟨σ,H1,I1,q1⟩))) I.quiet hs
def tRet(te:TE):TS:=fun D σ H=>te σ H D.rt
theorem ps_ret(he:PE X e te):PS X (.Return (some e) pos) (tRet te):=by
 intro pins s σ H D I h;exact wpAny_Return_some (thn (he pins s σ H _ I h) fun v s1 zz17=>(by obtain⟨x,H1,I1,r1,q1⟩:=zz17;exact(⟨x,σ,H1,I1,r1,q1⟩)))
def tIfS(c:TT)(t u:TS):TS:=fun D σ H=>c σ H fun b H1=>if b=true then t D σ H1 else u D σ H1
theorem ps_if{c:Expr}{a b:List Stmt}{tc:TT}(hc:PT X c tc)(ha:PSs X a t)(hb:PSs X b u):PS X (.If c a b pos) (tIfS tc t u):=by
 intro pins s σ H D I h;refine wpAny_If (thn (hc pins s σ H _ I h) fun d s1 zz18=>?_);obtain⟨H1,I1,q1⟩:=zz18;cases d with
 | true=>exact ha pins s1 σ H1 D I1 q1
 | false=>exact hb pins s1 σ H1 D I1 q1
end
abbrev TG:=V->St->Hp->(St->Hp->Prop)->Prop
abbrev TGs:=List V->St->Hp->(St->Hp->Prop)->Prop
def PG(X:Cx)(target:Expr)(t:TG):Prop:=
 ∀(pins:List (Addr × Obj)) (s:Shared) (σ:St) (H:Hp) (v:V) (u:Value) (Q:St->Hp->Prop),Inv X pins σ H s->RelV v u->t v σ H Q->
  wpAny (model X.prog X.w) X.A (assign target X.env u) (fun _ s'=>SPn X pins Q s') X.xe s
def PGs(X:Cx)(ts:List Expr)(t:TGs):Prop:=
 ∀(pins:List (Addr × Obj)) (s:Shared) (σ:St) (H:Hp) (vs:List V) (us:List Value) (Q:St->Hp->Prop),Inv X pins σ H s->Vals vs us->t vs σ H Q->
  wpAny (model X.prog X.w) X.A (assignInOrder ((assignEach ts X.env).map (·.2)) us) (fun _ s'=>SPn X pins Q s') X.xe s
abbrev TSet:=V->V->V->Hp->(Hp->Prop)->Prop
def PSet(X:Cx)(t:TSet):Prop:=
 ∀(pins:List (Addr × Obj)) (s:Shared) (σ:St) (H:Hp) (o i v:V) (ov iv u:Value) (Q:Hp->Prop),Inv X pins σ H s->RelV o ov->RelV i iv->RelV v u->t o i v H Q->
  wpAny (model X.prog X.w) X.A (setItem ov iv u) (fun _ s'=> ∃H',Inv X pins σ H' s'/\Q H') X.xe s
section
variable {X : Cx} {pos : Pos}
def gName(i:Nat):TG:=fun v σ H Q=>Q (σ.set i (some v)) H
theorem pg_name{i:Nat}{x:Str}(hN:X.N.Nodup)(hi:X.N[i]?=some x)(hx:Loc X.env.scope x)(hf:autoParam (X.fn x=true\/X.env.scope.names.lookup x=some .local) au1._auto_1):PG X (.Name x pos) (gName i):=by
 intro pins s σ H v u Q I r h;exact wpAny_assign_Name (store_ok I hN hi hx r (fun s' I'=>⟨_,H,I',h⟩) hf)
def gNil:TGs:=fun vs σ H Q=>vs= []/\Q σ H
def gCons(t:TG)(u:TGs):TGs:=fun vs σ H Q=> ∃v r,vs=v::r/\t v σ H fun σ' H'=>u r σ' H' Q
theorem pgs_nil:PGs X [] gNil:=by
 intro pins s σ H vs us Q I r h;obtain⟨e,h⟩:=h;subst e;cases r;exact assignInOrder_nil ⟨σ,H,I,h⟩
theorem pgs_cons{e:Expr}{es:List Expr}{t:TG}{u:TGs}(h1:PG X e t)(h2:PGs X es u)
  (hs:autoParam ((assignEach (e::es) X.env).map (·.2)=assign e X.env::(assignEach es X.env).map (·.2)) au5._auto_1):PGs X (e::es) (gCons t u):=by
 intro pins s σ H vs us Q I r h;obtain⟨v,vr,e1,h⟩:=h;subst e1;cases r with
 | cons r rr=>
  rw[hs];refine assignInOrder_cons (thn (h1 pins s σ H _ _ _ I r h) fun _ s1 zz19=>?_);obtain⟨σ1,H1,I1,q1⟩:=zz19;exact h2 pins s1 σ1 H1 _ _ Q I1 rr q1
def gTup(K:PySem.W.Frag)(n:Nat)(t:TGs):TG:=fun v σ H Q=> ∃a xs,v= .ref a/\SqT K H a xs/\xs.length=n/\t xs σ H Q
theorem pg_tup{es:List Expr}{k:Nat}{t:TGs}{n:Nat}(hc:X.calm=true)(h:PGs X es t)
  (hn:autoParam ((assignEach es X.env).length=n) au5._auto_1) (hst:autoParam ((assignEach es X.env).findIdx? (·.1)=none) au5._auto_1):PG X (.Tuple es k pos) (gTup X.K n t):=by
 intro pins s σ H v u Q I r hw;obtain⟨a,xs,e1,hq,hl,hw⟩:=hw;subst e1;cases r;obtain⟨its,rv,ht,hz⟩:=I.tuple hq;refine assign_Tuple_tuple (I.ok.hd hc) ht (by simp [hn,<-hl,rv.length]) hst fun h' hx=>?_;have I1:Inv X pins σ H {s with heap:=h'}:=I.kept (t':=s.toks) fun b o e=>hx b o (Nat.ne_of_lt (Heap.lt_size e)) e;exact h pins _ σ H xs _ Q I1 (by simpa using rv) hw
def gSub(to ti:TE)(t:TSet):TG:=fun v σ H Q=>to σ H fun o H1=>ti σ H1 fun i H2=>t o i v H2 fun H3=>Q σ H3
theorem pg_sub{o i:Expr}{to ti:TE}{t:TSet}(ho:PE X o to)(hi:PE X i ti)(hs:PSet X t)
  (ha:autoParam (∀v,assign (.Subscript o i pos) X.env v=(do
   let ov<-holding [v] (eval o X.env)
   let iv<-holding [v,ov] (eval i X.env)
   standAt pos
   holding [v,ov,iv] (setItem ov iv v)
   release [v,ov,iv] [])) au4._auto_1):PG X (.Subscript o i pos) (gSub to ti t):=by
 intro pins s σ H v u Q I r h;rw[ha];refine wpAny_bind (wpAny_holding (thn (ho pins s σ H _ I h) fun ov s1 zz20=>?_));obtain⟨x,H1,I1,r1,q1⟩:=zz20;refine wpAny_bind (wpAny_holding (thn (hi pins s1 σ H1 _ I1 q1) fun iv s2 zz21=>?_));obtain⟨y,H2,I2,r2,q2⟩:=zz21;refine wpAny_bind (wpAny_standAt (wpAny_bind (wpAny_holding (thn (hs pins s2 σ H2 x y v ov iv u _ I2 r1 r2 r q2) fun _ s3 zz22=>?_))));obtain⟨H3,I3,q3⟩:=zz22;exact wpAny_release ⟨σ,H3,I3,q3⟩
def tAsg(te:TE)(g:TG):TS:=fun D σ H=>te σ H fun x H1=>g x σ H1 D.nx
theorem ps_asg{tg e:Expr}{te:TE}{g:TG}(he:PE X e te)(hg:PG X tg g)(hs:autoParam (swapsWithSole [tg] e pos.line X.env=pure false) au5._auto_1)(hw:autoParam (swappedStores [tg] e X.env=pure none) au5._auto_1)
  (h1:autoParam ((assignEach [tg] X.env).map (·.2)= [assign tg X.env]) au5._auto_1):PS X (.Assign [tg] e pos) (tAsg te g):=by
 intro pins s σ H D I h;refine wpAny_Assign_stores (thn (he pins s σ H _ I h) fun v s1 zz23=>?_) hs hw;obtain⟨x,H1,I1,r1,q1⟩:=zz23;rw[h1];exact thn (hg pins s1 σ H1 x v _ I1 r1 q1) fun _ s2 q=>q
theorem ps_set{i:Nat}{x:Str}{e:Expr}{te:TE}{pos':Pos}(hN:X.N.Nodup)(hi:X.N[i]?=some x)(hx:Loc X.env.scope x)(he:PE X e te)(hs:autoParam (swapsWith e (some (.Name x pos')) pos.line X.env=pure false) au5._auto_1)(hf:autoParam (X.fn x=true\/X.env.scope.names.lookup x=some .local) au1._auto_1):
  PS X (.Assign [.Name x pos'] e pos) (tAsg te (gName i)):=by
 intro pins s σ H D I h;refine wpAny_Assign_Name (thn (he pins s σ H _ I h) fun v s1 zz24=>?_) hs;obtain⟨y,H1,I1,r1,q1⟩:=zz24;exact store_ok I1 hN hi hx r1 (fun s2 I2=>⟨_,H1,I2,q1⟩) hf
def tPar(i j:Nat)(ta:TA):TS:=fun D σ H=>ta σ H fun vs H1=> ∃v w,vs= [v,w]/\D.nx ((σ.set i (some v)).set j (some w)) H1
theorem ps_par{i j:Nat}{x y:Str}{a b:Expr}{ta:TA}{px py pt:Pos}{kt k2 pt2}(hc:X.calm=true)(hN:X.N.Nodup)(hi:X.N[i]?=some x)(hj:X.N[j]?=some y)(hij:i≠j)
  (hx:X.env.scope.names.lookup x=some .local) (hy:X.env.scope.names.lookup y=some .local) (ha:PA X [a,b] ta)
  (hw:swappedStores [.Tuple [.Name x px, .Name y py] kt pt] (.Tuple [a,b] k2 pt2) X.env=pure (some [x,y]))
  (hs:autoParam (swapsWithSole [.Tuple [.Name x px, .Name y py] kt pt] (.Tuple [a,b] k2 pt2) pos.line X.env=pure false) au5._auto_1):
  PS X (.Assign [.Tuple [.Name x px, .Name y py] kt pt] (.Tuple [a,b] k2 pt2) pos) (tPar i j ta):=by
 intro pins s σ H D I h;rw[exec_Assign_arm];refine wpAny_bind (wpAny_standAt ?_);rw[hs];refine wpAny_bind (wpAny_pure ?_);rw[if_neg (by decide)];refine wpAny_bind (Tuple_ (thn (ha _ pins s σ H _ I h) fun us s1 zz25=>?_));obtain⟨vs,H1,I1,r1,q1⟩:=zz25;obtain⟨v,w,e1,q1⟩:=q1;subst e1;obtain⟨u1,u2,rfl,rv,rw'⟩: ∃u1 u2,us= [u1,u2]/\RelV v u1/\RelV w u2:=by
  cases r1 with
  | cons p q=>
   cases q with
   | cons p' q'=>
    cases q';exact⟨_,_,rfl,p,p'⟩
 refine wpAny_newObj_type ?_ (by show 2<=sizeLine;decide);have I2:Inv X pins σ H1 {s1 with heap:=s1.heap.push {cls:= .type "tuple",data:= .seq [u1,u2].toArray}}:=I1.kept (t':=s1.toks) fun b o e=>Heap.get?_push_of_some _ e;rw[hw];refine wpAny_bind (wpAny_pure ?_);show wpAny (model X.prog X.w) X.A (do rule "assign.swapped-stores";let items<-unpackItems (.ref s1.heap.objs.size) 2 none;assignInOrder [fun v=>bindName X.env y v,fun v=>bindName X.env x v] items.reverse;pure Flow.next) _ _ _;refine wpAny_bind (wpAny_rule (wpAny_bind (unpackItems_tuple (items:= #[u1,u2]) (I.ok.hd hc) (IsTup.new s1.heap _) fun h' hx'=>?_)));have I3:=I2.kept (h':=h') (t':=s1.toks) fun b o e=>hx' b o (Nat.ne_of_lt (Heap.lt_size e)) e;show wpAny _ _ (assignInOrder [fun v=>bindName X.env y v,fun v=>bindName X.env x v] [u2,u1] >>=fun _=>pure Flow.next) _ _ _;refine wpAny_bind (assignInOrder_cons (wpAny_bindName (store_ok I3 hN hj (.inl hy) rw' (fun s2 I4=>?_) (.inr hy))));refine assignInOrder_cons (wpAny_bindName (store_ok I4 hN hi (.inl hx) rv (fun s3 I5=>assignInOrder_nil (wpAny_pure ?_)) (.inr hx)));rw[List.set_comm _ _ (Ne.symm hij)] at I5;exact⟨_,H1,I5,q1⟩
end
section
variable {X : Cx} {pos : Pos}
def tWhile(c:TT)(tb:TS):TS:=fun D σ H=> ∃W:Nat->St->Hp->Prop,(∃m,W m σ H)/\ ∀m σ H,W m σ H->
 c σ H fun b H1=>if b=true then∃N:St->Hp->Prop,(∀σ' H',N σ' H'-> ∃m',m' < m/\W m' σ' H')/\tb {D with nx:=N,ct:=N,bk:=D.nx} σ H1 else D.nx σ H1
theorem ps_while{c:Expr}{body:List Stmt}{tc:TT}{tb:TS}(hp:PassesOwn (model X.prog X.w) X.A X.env X.xe)(hc:PT X c tc)(hb:PSs X body tb):PS X (.While c body [] pos) (tWhile tc tb):=by
 intro pins s σ H D I h;obtain⟨W,⟨m0,w0⟩,turn⟩:=h;refine wpAny_While (codeAny_whileLoop (fun n s'=> ∃σ' H',Inv X pins σ' H' s'/\W n σ' H') ?_ m0 ⟨σ,H,I,w0⟩);rintro n s1 ⟨σ1,H1,I1,w1⟩
 refine wpAny_passesOwn hp (thn (hc pins s1 σ1 H1 _ I1 (turn n σ1 H1 w1)) fun b s2 zz34=>?_);obtain⟨H2,I2,q2⟩:=zz34;cases b with
 | true=>
  obtain⟨N,hN,q2⟩:=q2;rw[if_pos rfl];refine wpAny_passesOwn hp (thn (hb pins s2 σ1 H2 _ I2 q2) fun f s3 q3=>?_);cases f with
  | next=>
   obtain⟨σ3,H3,I3,n3⟩:=q3;obtain⟨m',hm,w3⟩:=hN σ3 H3 n3;exact⟨m',hm,σ3,H3,I3,w3⟩
  | cont=>
   obtain⟨σ3,H3,I3,n3⟩:=q3;obtain⟨m',hm,w3⟩:=hN σ3 H3 n3;exact⟨m',hm,σ3,H3,I3,w3⟩
  | brk=>exact q3
  | ret v=>exact q3
 | false=>
  rw[if_neg Bool.false_ne_true];exact wpAny_execs_nil ⟨σ1,H2,I2,q2⟩
end
structure It where
 go:Nat->Hp->Prop
 yld:Nat->Hp->V->Hp->Prop
 stop:Nat->Hp->Prop
def FpOk(X:Cx)(pins:List (Addr × Obj))(H:Hp)(b:Addr):Prop:=
 H b=none/\b≠X.env.locals/\b∉X.fs/\(b∈X.ex\/X.s₀.heap.objs.size<=b)/\(∀x c,X.env.cells.lookup x=some c->c≠b)/\ ∀p∈X.pn++pins,p.1≠b
theorem Inv.fpOk{X:Cx}{pins:List (Addr × Obj)}{σ:St}{H H':Hp}{s:Shared}{b:Addr}(I:Inv X pins σ H s)(hb:s.heap.objs.size<=b)(hn:H' b=none):FpOk X pins H' b:=by
 refine⟨hn,Nat.ne_of_gt (Nat.lt_of_lt_of_le I.lt hb),I.nofs hb, .inr (Nat.le_trans I.sz hb),fun x c e z=>?_,fun p hp z=>?_⟩
 . obtain⟨v,q⟩:=I.cell x c e;exact absurd (Nat.lt_of_lt_of_le q.lt (by rw[z];exact hb)) (Nat.lt_irrefl _)
 . exact absurd (Nat.lt_of_lt_of_le (Heap.lt_size (I.pin p hp).1) (by rw[z];exact hb)) (Nat.lt_irrefl _)
structure Turn(P:Program)(w:World)(K:PySem.W.Frag)(tg:Expr)(J:It)(fp:List Addr)(it:Addr)(tn:Nat->Heap->Prop):Prop where
 mem:it∈fp
 obj: ∀i h,tn i h-> ∀b∈fp,∃o,h.get? b=some o/\ ∀v,o.data≠ .cell v
 keep: ∀i h h',tn i h->(∀b∈fp,∀o,h.get? b=some o->h'.get? b=some o)->tn i h'
 item: ∀(X:Cx),X.prog=P->X.w=w->X.K=K->X.calm=true-> ∀(i:Nat) (pins:List (Addr × Obj)) (s:Shared) (σ:St) (H:Hp) (E:Value->Shared->Prop),Inv X pins σ H s->(∀b∈fp,FpOk X pins H b)->tn i s.heap->J.go i H->
  wpAny (model P w) X.A (pyNext (.ref it)) (fun r s1=> ∃u,r=some u/\
   wpAny (model P w) X.A (letOwnedTupleGo tg (.ref it) u) (fun _ s2=> ∃x H',Inv X pins σ H' s2/\RelV x u/\J.yld i H x H'/\tn (i+1) s2.heap/\ ∀b∈fp,H' b=none) E s1) E s
 done: ∀(X:Cx),X.prog=P->X.w=w->X.K=K->X.calm=true-> ∀(i:Nat) (pins:List (Addr × Obj)) (s:Shared) (σ:St) (H:Hp) (E:Value->Shared->Prop),Inv X pins σ H s->(∀b∈fp,FpOk X pins H b)->tn i s.heap->J.stop i H->
  wpAny (model P w) X.A (pyNext (.ref it)) (fun r s1=>r=none/\Inv X pins σ H s1) E s
 self: ∀(A:Around) (i:Nat) (s:Shared) (Q:Value->Shared->Prop) (E:Value->Shared->Prop),tn i s.heap->Q (.ref it) s->wpAny (model P w) A (pyIter (.ref it)) Q E s
abbrev TI:=St->Hp->(It->Hp->Prop)->Prop
def PIE(X:Cx)(pins:List (Addr × Obj))(σ:St)(tg:Expr)(R:It->Hp->Prop)(itv:Value)(s2:Shared):Prop:=
 ∃(it:Addr) (fp:List Addr) (tn:Nat->Heap->Prop) (J:It) (H':Hp),itv= .ref it/\Inv X pins σ H' s2/\Turn X.prog X.w X.K tg J fp it tn/\tn 0 s2.heap/\(∀b∈fp,FpOk X pins H' b)/\R J H'
def PI(X:Cx)(tg iter:Expr)(wi:TI):Prop:=
 ∀(pins:List (Addr × Obj)) (s:Shared) (σ:St) (H:Hp) (R:It->Hp->Prop),Inv X pins σ H s->wi σ H R->
  wpAny (model X.prog X.w) X.A (eval iter X.env) (fun v s1=>wpAny (model X.prog X.w) X.A (pyIter v) (PIE X pins σ tg R) X.xe s1) X.xe s
theorem go_of{M:Model}{A:Around}{E:Value->Shared->Prop}{s:Shared}{tg:Expr}{it:Addr}{u:Value}{o:Obj}{n:String}{vs:Array Value}{Q:Unit->Shared->Prop}(ho:s.heap.get? it=some o)(hc:o.cls= .type n)(hd:o.data= .fields vs)
  (hn: ["enumerate","zip","dict_itemiterator","dict_reverseitemiterator","odict_iterator","itertools.zip_longest","itertools.pairwise"].contains n=false) (hQ:Q () s):wpAny M A (letOwnedTupleGo tg (.ref it) u) Q E s:=by
 unfold letOwnedTupleGo;cases tg <;> first
  | exact wpAny_pure hQ
  | (cases u <;> first
    | exact wpAny_pure hQ
    | (refine wpAny_bind (wpAny_load ho ?_)
       rw[hc,hd];show wpAny M A (if (["enumerate","zip","dict_itemiterator","dict_reverseitemiterator","odict_iterator","itertools.zip_longest","itertools.pairwise"].contains n && vs[0]?==some (rawInt _))=true then _ else _) Q E s;rw[if_neg (by intro h;rw[hn,Bool.false_and] at h;cases h)];exact wpAny_pure hQ))
noncomputable def Itl(K:PySem.W.Frag)(a:Addr):It:=
 ⟨fun i H=> ∃xs x,SqL K H a xs/\xs[i]?=some x,fun i H x H'=>H'=H/\ ∀xs,SqL K H a xs->xs[i]?=some x,fun i H=> ∃xs,SqL K H a xs/\xs.length<=i⟩
noncomputable def Itt(K:PySem.W.Frag)(a:Addr):It:=
 ⟨fun i H=> ∃xs x,SqT K H a xs/\xs[i]?=some x,fun i H x H'=>H'=H/\ ∀xs,SqT K H a xs->xs[i]?=some x,fun i H=> ∃xs,SqT K H a xs/\xs.length<=i⟩
noncomputable def Itr(lo:Int)(n:Nat):It:=⟨fun i _=>i < n,fun i H x H'=>H'=H/\x= .int (lo+i),fun i _=>n<=i⟩
theorem turn_list{P:Program}{w:World}{K:PySem.W.Frag}{tg:Expr}(a it:Addr):Turn P w K tg (Itl K a) [it] it (fun i h=>h.IsListIter it a i) where
 mem:=by simp
 obj:=fun i h st b hb=>by
  have e:b=it:=by simpa using hb
  subst e;obtain⟨o,e,c,d⟩:=st;exact⟨o,e,fun v z=>by rw[d] at z;cases z⟩
 keep:=fun i h h' st k=>st.at fun o e=>k it (by simp) o e
 item:=by
  intro X hP hw hK hc i pins s σ H E I hf st hg;subst hP hw hK;obtain⟨xs,x,hq,hx⟩:=hg;obtain⟨its,rv,p,hz⟩:=I.list hq;obtain⟨u,hu,ru⟩:=rv.get hx;obtain⟨f0,f1,f2,f3,f4,f5⟩:=hf it (by simp);refine wpAny_pyNext_list_item st p.isList (x:=u) (by simpa using hu) fun h' st' sb=>?_;have I1:Inv X pins σ H {s with heap:=h'}:=I.turned (t':=s.toks) (fun b o hb e=>(sb.2 b hb).trans e) f0 f1 f3 f4 f5;obtain⟨o,e,c,d⟩:=id st';exact⟨u,rfl,go_of (s:={s with heap:=h'}) e c d (by decide) ⟨x,H,I1,ru,⟨rfl,fun ys hy=>by rw[I.list_inj hy hq];exact hx⟩,st',fun b hb=>(hf b hb).1⟩⟩
 done:=by
  intro X hP hw hK hc i pins s σ H E I hf st hg;subst hP hw hK;obtain⟨xs,hq,hx⟩:=hg;obtain⟨its,rv,p,hz⟩:=I.list hq;obtain⟨f0,f1,f2,f3,f4,f5⟩:=hf it (by simp);have hl:=rv.length;exact wpAny_pyNext_list_end (I.ok.hd hc) st p.isList (by simp;lia) fun h' eb=>⟨rfl,I.turned (t':=s.toks) (fun b o hb e=>eb b o hb e) f0 f1 f3 f4 f5⟩
 self:=fun _ _ _ _ _ st h=>wpAny_pyIter_listiter st h
theorem turn_tuple{P:Program}{w:World}{K:PySem.W.Frag}{tg:Expr}(a it:Addr):Turn P w K tg (Itt K a) [it] it (fun i h=>h.IsTupleIter it a i) where
 mem:=by simp
 obj:=fun i h st b hb=>by
  have e:b=it:=by simpa using hb
  subst e;obtain⟨o,e,c,d⟩:=st;exact⟨o,e,fun v z=>by rw[d] at z;cases z⟩
 keep:=fun i h h' st k=>st.at fun o e=>k it (by simp) o e
 item:=by
  intro X hP hw hK hc i pins s σ H E I hf st hg;subst hP hw hK;obtain⟨xs,x,hq,hx⟩:=hg;obtain⟨its,rv,p,hz⟩:=I.tuple hq;obtain⟨u,hu,ru⟩:=rv.get hx;obtain⟨f0,f1,f2,f3,f4,f5⟩:=hf it (by simp);refine wpAny_pyNext_tuple_item st (show s.heap.IsTuple a its.toArray from p) (x:=u) (by simpa using hu) fun h' st' sb=>?_;have I1:Inv X pins σ H {s with heap:=h'}:=I.turned (t':=s.toks) (fun b o hb e=>(sb.2 b hb).trans e) f0 f1 f3 f4 f5;obtain⟨o,e,c,d⟩:=id st';exact⟨u,rfl,go_of (s:={s with heap:=h'}) e c d (by decide) ⟨x,H,I1,ru,⟨rfl,fun ys hy=>by rw[I.tuple_inj hy hq];exact hx⟩,st',fun b hb=>(hf b hb).1⟩⟩
 done:=by
  intro X hP hw hK hc i pins s σ H E I hf st hg;subst hP hw hK;obtain⟨xs,hq,hx⟩:=hg;obtain⟨its,rv,p,hz⟩:=I.tuple hq;obtain⟨f0,f1,f2,f3,f4,f5⟩:=hf it (by simp);have hl:=rv.length;exact wpAny_pyNext_tuple_end (I.ok.hd hc) st (show s.heap.IsTuple a its.toArray from p) (by simp;lia) fun h' eb=>⟨rfl,I.turned (t':=s.toks) (fun b o hb e=>eb b o hb e) f0 f1 f3 f4 f5⟩
 self:=fun _ _ _ _ _ st h=>wpAny_pyIter_tupleiter st h
theorem turn_range{P:Program}{w:World}{K:PySem.W.Frag}{tg:Expr}(it:Addr)(lo:Int)(n:Nat):Turn P w K tg (Itr lo n) [it] it (fun i h=>IsRangeIter h it (lo+(i:Nat)*1) ((n:Int) - (i:Nat)) 1) where
 mem:=by simp
 obj:=fun i h st b hb=>by
  have e:b=it:=by simpa using hb
  subst e;exact⟨_,st,fun v z=>by
   have z':Data.fields _=Data.cell v:=z;cases z'⟩
 keep:=fun i h h' st k=>k it (by simp) _ st
 item:=by
  intro X hP hw hK hc i pins s σ H E I hf st hg;subst hP hw hK;obtain⟨f0,f1,f2,f3,f4,f5⟩:=hf it (by simp);have W:=Walks.range (prog:=X.prog) (w:=X.w) (I.ok.hd hc) it lo 1 n;refine W.item i s _ _ hg st fun v h' tk hv st' kk=>?_;obtain⟨t,rfl⟩:=hv;have I1:Inv X pins σ H {s with heap:=h',toks:=tk}:=I.turned (fun b o hb e=>kk b o (by simpa using hb) e) f0 f1 f3 f4 f5;refine⟨_,rfl,go_of (s:={s with heap:=h',toks:=tk}) (n:="range_iterator") st' rfl rfl (by decide) ⟨.int (lo+i),H,I1,⟨t,?_⟩,⟨rfl,rfl⟩,st',fun b hb=>(hf b hb).1⟩⟩;rw[Int.mul_one]
 done:=by
  intro X hP hw hK hc i pins s σ H E I hf st hg;subst hP hw hK;obtain⟨f0,f1,f2,f3,f4,f5⟩:=hf it (by simp);exact wpAny_pyNext_range_end (I.ok.hd hc) st (by have:n<=i:=hg;lia) fun h' eb=>⟨rfl,I.turned (t':=s.toks) (fun b o hb e=>eb b o hb e) f0 f1 f3 f4 f5⟩
 self:=fun _ _ _ _ _ st h=>wpAny_pyIter_rangeiter st h
section
variable {X : Cx} {tg : Expr}
def iList(K:PySem.W.Frag)(tl:TE):TI:=fun σ H R=>tl σ H fun x H1=> ∃a,x= .ref a/\(∃xs,SqL K H1 a xs)/\R (Itl K a) H1
def iTup(K:PySem.W.Frag)(tl:TE):TI:=fun σ H R=>tl σ H fun x H1=> ∃a,x= .ref a/\(∃xs,SqT K H1 a xs)/\R (Itt K a) H1
theorem pi_list{l:Expr}{tl:TE}(hl:PE X l tl):PI X tg l (iList X.K tl):=by
 intro pins s σ H R I h;refine thn (hl pins s σ H _ I h) fun v s1 zz35=>?_;obtain⟨x,H1,I1,r1,q1⟩:=zz35;obtain⟨a,e,⟨xs,hq⟩,q⟩:=q1;subst e;cases r1;obtain⟨its,rv,p,hz⟩:=I1.list hq;refine wpAny_pyIter_list p.isList ?_;refine⟨s1.heap.objs.size,[s1.heap.objs.size],_,_,H1,rfl,I1.kept (t':=s1.toks) fun b o e=>Heap.get?_push_of_some _ e,turn_list a _,⟨_,Heap.get?_push_size _ rfl,rfl,rfl⟩,fun b hb=>?_,q⟩;have e:b=s1.heap.objs.size:=by simpa using hb
 subst e;exact I1.fpOk (Nat.le_refl _) (I1.hok.fresh (Nat.le_refl _))
theorem pi_tup{l:Expr}{tl:TE}(hl:PE X l tl):PI X tg l (iTup X.K tl):=by
 intro pins s σ H R I h;refine thn (hl pins s σ H _ I h) fun v s1 zz36=>?_;obtain⟨x,H1,I1,r1,q1⟩:=zz36;obtain⟨a,e,⟨xs,hq⟩,q⟩:=q1;subst e;cases r1;obtain⟨its,rv,p,hz⟩:=I1.tuple hq;refine wpAny_pyIter_tuple (show s1.heap.IsTuple a its.toArray from p) ?_;refine⟨s1.heap.objs.size,[s1.heap.objs.size],_,_,H1,rfl,I1.kept (t':=s1.toks) fun b o e=>Heap.get?_push_of_some _ e,turn_tuple a _,⟨_,Heap.get?_push_size _ rfl,rfl,rfl⟩,fun b hb=>?_,q⟩;have e:b=s1.heap.objs.size:=by simpa using hb
 subst e;exact I1.fpOk (Nat.le_refl _) (I1.hok.fresh (Nat.le_refl _))
theorem range_it{pins:List (Addr × Obj)}{σ:St}{H:Hp}{s:Shared}{R:It->Hp->Prop}{E:Value->Shared->Prop}{lo hi:Int}{t u v:Tok}{tk:Nat}(I:Inv X pins σ H s)(h1: -(2^62)<=lo)(h2:lo < 2^62)(h3: -(2^62)<=hi)(h4:hi < 2^62)
  (q:R (Itr lo (hi - lo).toNat) H):wpAny (model X.prog X.w) X.A (pyIter (.ref s.heap.objs.size)) (PIE X pins σ tg R) E {s with heap:=s.heap.push {cls:= .type "range",data:= .fields #[.int lo t, .int hi u, .int 1 v]},toks:=tk}:=by
 refine wpAny_pyIter_range (IsRange.new ..) (small_one h1 h2 h3 h4) ?_;have I1:Inv X pins σ H {s with heap:=s.heap.push {cls:= .type "range",data:= .fields #[.int lo t, .int hi u, .int 1 v]},toks:=tk}:=I.kept fun b o e=>Heap.get?_push_of_some _ e;refine⟨(s.heap.push {cls:= .type "range",data:= .fields #[.int lo t, .int hi u, .int 1 v]}).objs.size,[(s.heap.push {cls:= .type "range",data:= .fields #[.int lo t, .int hi u, .int 1 v]}).objs.size],_,_,H,rfl,
  I1.kept (t':=tk) fun b o e=>Heap.get?_push_of_some _ e,turn_range _ lo (hi - lo).toNat,?_,fun b hb=>?_,q⟩
 . have e1:lo+((0:Nat):Int)*1=lo:=by simp
   have e2:(((hi - lo).toNat:Nat):Int) - ((0:Nat):Int)=Builtin.Range.rangeSize lo hi 1:=by rw[rangeSize_one];split <;> lia
   show IsRangeIter _ _ (lo+((0:Nat):Int)*1) ((((hi - lo).toNat:Nat):Int) - ((0:Nat):Int)) 1;rw[e1,e2];exact Heap.get?_push_size _ rfl
 . have e:b=(s.heap.push {cls:= .type "range",data:= .fields #[.int lo t, .int hi u, .int 1 v]}).objs.size:=by simpa using hb
   subst e;exact I1.fpOk (Nat.le_refl _) (I1.hok.fresh (Nat.le_refl _))
def iRng1(ta:TA):TI:=fun σ H R=>ta σ H fun vs H1=> ∃j:Int,vs= [.int j]/\ -(2^62)<=j/\j < 2^62/\R (Itr 0 j.toNat) H1
def iRng2(ta:TA):TI:=fun σ H R=>ta σ H fun vs H1=> ∃i j:Int,vs= [.int i, .int j]/\(-(2^62)<=i/\i < 2^62/\ -(2^62)<=j/\j < 2^62)/\R (Itr i (j - i).toNat) H1
theorem pi_range1{a:Expr}{ta:TA}{p pos:Pos}(hg:Gl X "range")(hm:X.mg "range"=none)(ha:PA X [a] ta)(hs:autoParam (starEach [a] X.env= [(false,eval a X.env)]) au5._auto_1):PI X tg (.Call (.Name "range" p) [a] [] pos) (iRng1 ta):=by
 intro pins s σ H R I h;refine Call_ (ld_blt I hg hm boot_range (PyProof.Rows.callWith_type1 (thn (ha pos pins s σ H _ I h) fun us s1 zz37=>?_) hs rfl));obtain⟨vs,H1,I1,r1,q1⟩:=zz37;obtain⟨j,e,q1,q2,q⟩:=q1;subst e;cases r1 with
 | cons r rr=>
  cases rr;obtain⟨t,rfl⟩:=r;exact call_range_1 (range_it I1 (by lia) (by lia) q1 q2 (by simpa using q))
theorem pi_range2{a b:Expr}{ta:TA}{p pos:Pos}(hg:Gl X "range")(hm:X.mg "range"=none)(ha:PA X [a,b] ta)(hs:autoParam (starEach [a,b] X.env= [(false,eval a X.env),(false,eval b X.env)]) au5._auto_1)(hs2:autoParam (starEach [b] X.env= [(false,eval b X.env)]) au5._auto_1):
  PI X tg (.Call (.Name "range" p) [a,b] [] pos) (iRng2 ta):=by
 intro pins s σ H R I h;refine Call_ (ld_blt I hg hm boot_range (PyProof.Rows.callWith_type1 (thn (ha pos pins s σ H _ I h) fun us s1 zz38=>?_) (by rw[hs,hs2]) (by rw[hs2];rfl)));obtain⟨vs,H1,I1,r1,q1⟩:=zz38;obtain⟨i,j,e,⟨q1,q2,q3,q4⟩,q⟩:=q1;subst e;cases r1 with
 | cons r rr=>
  cases rr with
  | cons r' rr=>
   cases rr;obtain⟨t,rfl⟩:=r;obtain⟨t',rfl⟩:=r';exact call_range_2 (range_it I1 q1 q2 q3 q4 q)
def tFor(wi:TI)(g:TG)(tb:TS):TS:=fun D σ H=>wi σ H fun J H1=> ∃W:Nat->Nat->St->Hp->Prop,(∃m,W 0 m σ H1)/\ ∀i m σ H,W i m σ H->
 (J.stop i H/\D.nx σ H)\/(J.go i H/\ ∃N:St->Hp->Prop,(∀σ' H',N σ' H'-> ∃m',m' < m/\W (i+1) m' σ' H')/\ ∀x H',J.yld i H x H'->g x σ H' fun σ2 H2=>tb {D with nx:=N,ct:=N,bk:=D.nx} σ2 H2)
noncomputable def pinsAt(fp:List Addr)(h:Heap):List (Addr × Obj):=fp.filterMap fun b=>(h.get? b).map fun o=>(b,o)
theorem mem_pinsAt{fp:List Addr}{h:Heap}{b:Addr}{o:Obj}(hb:b∈fp)(e:h.get? b=some o):(b,o)∈pinsAt fp h:=List.mem_filterMap.mpr ⟨b,hb,by rw[e];rfl⟩
theorem of_pinsAt{fp:List Addr}{h:Heap}{p:Addr × Obj}(hp:p∈pinsAt fp h):p.1∈fp/\h.get? p.1=some p.2:=by
 obtain⟨b,hb,e⟩:=List.mem_filterMap.mp hp;cases q:h.get? b with
 | none=>rw[q] at e;cases e
 | some o=>
  rw[q] at e;have e':(b,o)=p:=Option.some.inj e;subst e';exact⟨hb,q⟩
theorem Inv.pinned{pins:List (Addr × Obj)}{σ:St}{H:Hp}{s:Shared}{fp:List Addr}(I:Inv X pins σ H s)(hf: ∀b∈fp,FpOk X pins H b)(ho: ∀b∈fp,∃o,s.heap.get? b=some o/\ ∀v,o.data≠ .cell v):Inv X (pins++pinsAt fp s.heap) σ H s:=
 I.pins_of fun p hp=>(List.mem_append.mp hp).elim (fun z=>I.pin p (List.mem_append_right _ z)) fun z=>by
  obtain⟨hb,e⟩:=of_pinsAt z;obtain⟨f0,f1,f2,_⟩:=hf p.1 hb;obtain⟨o,e',d⟩:=ho p.1 hb;rw[e] at e';cases e';exact⟨e,f0,f1,f2,d⟩
theorem Inv.unpinned{pins pl:List (Addr × Obj)}{σ:St}{H:Hp}{s:Shared}(I:Inv X (pins++pl) σ H s):Inv X pins σ H s:=I.pins_of fun p hp=>I.pin p (List.mem_append_right _ (List.mem_append_left _ hp))
theorem ps_for{iter:Expr}{body:List Stmt}{wi:TI}{g:TG}{tb:TS}{pos:Pos}(hp:PassesOwn (model X.prog X.w) X.A X.env X.xe)(hc:X.calm=true)(hi:PI X tg iter wi)(hg:PG X tg g)(hb:PSs X body tb)
  (hs:autoParam (∀x,foldedSetIterable iter X.env x=pure x) au4._auto_1):PS X (.For tg iter body [] pos) (tFor wi g tb):=by
 intro pins s σ H D I h;refine wpAny_For (thn (hi pins s σ H _ I h) fun v s1 h1=>thn h1 fun itv s2 h2=>?_) hs;obtain⟨it,fp,tn,J,H2,e,I2,T,st2,f2,W,⟨m0,w0⟩,turn⟩:=h2;subst e;have stat: ∀{H':Hp},(∀b∈fp,H' b=none)-> ∀b∈fp,FpOk X pins H' b:=fun hn b hb=>⟨hn b hb,(f2 b hb).2⟩
 refine codeAny_forLoop_any (fun n s'=> ∃i σ' H',Inv X pins σ' H' s'/\tn i s'.heap/\(∀b∈fp,H' b=none)/\W i n σ' H') ?_ m0 ⟨0,σ,H2,I2,st2,fun b hb=>(f2 b hb).1,w0⟩;rintro n s3 ⟨i,σ3,H3,I3,st3,fr3,w3⟩
 rcases turn i n σ3 H3 w3 with ⟨stop,qn⟩ | ⟨go,N,hN,step⟩
 . refine wpAny_passesOwn hp (thn (T.done X rfl rfl rfl hc i pins s3 σ3 H3 X.xe I3 (stat fr3) st3 stop) fun r s4 zz39=>?_);obtain⟨hr,I4⟩:=zz39;subst hr;exact wpAny_execs_nil ⟨σ3,H3,I4,qn⟩
 . refine wpAny_passesOwn hp (thn (T.item X rfl rfl rfl hc i pins s3 σ3 H3 X.xe I3 (stat fr3) st3 go) fun r s4 zz40=>?_);obtain⟨u,hr,h4⟩:=zz40;subst hr;refine wpAny_passesOwn hp (thn h4 fun _ s5 zz41=>?_);obtain⟨x,H5,I5,r5,y5,st5,fr5⟩:=zz41;have I5':=I5.pinned (stat fr5) (T.obj _ _ st5);refine wpAny_passesOwn hp (thn (hg _ s5 σ3 H5 x u _ I5' r5 (step x H5 y5)) fun _ s6 zz42=>?_);obtain⟨σ6,H6,I6,q6⟩:=zz42;refine wpAny_passesOwn hp (thn (hb _ s6 σ6 H6 _ I6 q6) fun f s7 q7=>?_);have again: ∀{σ7:St} {H7:Hp},Inv X (pins++pinsAt fp s5.heap) σ7 H7 s7->N σ7 H7-> ∃m,m < n/\ ∃i σ' H',Inv X pins σ' H' s7/\tn i s7.heap/\(∀b∈fp,H' b=none)/\W i m σ' H':=fun{σ7 H7} I7 n7=>by
    obtain⟨m',hm,w7⟩:=hN σ7 H7 n7;refine⟨m',hm,i+1,σ7,H7,I7.unpinned,T.keep _ _ _ st5 fun b hb o e=>(I7.pin (b,o) (List.mem_append_right _ (List.mem_append_right _ (mem_pinsAt hb e)))).1,fun b hb=>?_,w7⟩;obtain⟨o,e,d⟩:=T.obj _ _ st5 b hb;exact(I7.pin (b,o) (List.mem_append_right _ (List.mem_append_right _ (mem_pinsAt hb e)))).2.1
   cases f with
   | next=>obtain⟨σ7,H7,I7,n7⟩:=q7;exact again I7 n7
   | cont=>obtain⟨σ7,H7,I7,n7⟩:=q7;exact again I7 n7
   | brk=>obtain⟨σ7,H7,I7,q7⟩:=q7;exact⟨σ7,H7,I7.unpinned,q7⟩
   | ret v=>obtain⟨x7,σ7,H7,I7,r7,q7⟩:=q7;exact⟨x7,σ7,H7,I7.unpinned,r7,q7⟩
end
abbrev R2:=V->V->Hp->VK->Prop
def OpR(X:Cx)(f:Value->Value->Sem Value)(r:R2):Prop:=
 ∀(pins:List (Addr × Obj)) (s:Shared) (σ:St) (H:Hp) (x y:V) (v u:Value) (Q:VK),Inv X pins σ H s->RelV x v->RelV y u->r x y H Q->
  wpAny (model X.prog X.w) X.A (f v u) (EP X pins σ Q) X.xe s
def UnR(X:Cx)(f:Value->Sem Value)(r:V->Hp->VK->Prop):Prop:=
 ∀(pins:List (Addr × Obj)) (s:Shared) (σ:St) (H:Hp) (x:V) (v:Value) (Q:VK),Inv X pins σ H s->RelV x v->r x H Q->
  wpAny (model X.prog X.w) X.A (f v) (EP X pins σ Q) X.xe s
def CallR(X:Cx)(f:Value)(r:List V->Hp->VK->Prop):Prop:=
 ∀(pins:List (Addr × Obj)) (s:Shared) (σ:St) (H:Hp) (xs:List V) (us:List Value) (Q:VK),Inv X pins σ H s->Vals xs us->r xs H Q->
  wpAny (model X.prog X.w) X.A (call f us) (EP X pins σ Q) X.xe s
def tOp(r:R2)(ta tb:TE):TE:=fun σ H Q=>ta σ H fun x H1=>tb σ H1 fun y H2=>r x y H2 Q
def tUn(r:V->Hp->VK->Prop)(ta:TE):TE:=fun σ H Q=>ta σ H fun x H1=>r x H1 Q
def rI(C:Int->Int->Prop)(g:Int->Int->V):R2:=fun x y H Q=> ∃i j,x= .int i/\y= .int j/\C i j/\Q (g i j) H
def rI0(g:Int->Int->V):R2:=fun x y H Q=> ∃i j,x= .int i/\y= .int j/\Q (g i j) H
def rU(g:Int->V):V->Hp->VK->Prop:=fun x H Q=> ∃i,x= .int i/\Q (g i) H
section
variable {X : Cx} {a b c : Expr} {ta tb tc : TE} {pos : Pos}
theorem binT(ha:PE X a ta)(hb:PE X b tb){pins:List (Addr × Obj)}{s:Shared}{σ:St}{H:Hp}{R:V->V->Hp->Prop}(I:Inv X pins σ H s)
  (h:ta σ H fun x H1=>tb σ H1 fun y H2=>R x y H2) {Q:Value->Shared->Prop} {f:Value->Value->Sem Value}
  (hf: ∀v u s2 x y H2,Inv X pins σ H2 s2->RelV x v->RelV y u->R x y H2->wpAny (model X.prog X.w) X.A (f v u) Q X.xe s2):
  wpAny (model X.prog X.w) X.A (eval a X.env) (fun v s₁=>wpAny (model X.prog X.w) X.A (eval b X.env) (fun u s₂=>wpAny (model X.prog X.w) X.A (f v u) Q X.xe s₂) X.xe s₁) X.xe s:=by
 refine thn (ha pins s σ H _ I h) fun v s1 zz44=>?_;obtain⟨x,H1,I1,r1,q1⟩:=zz44;refine thn (hb pins s1 σ H1 _ I1 q1) fun u s2 zz45=>?_;obtain⟨y,H2,I2,r2,q2⟩:=zz45;exact hf v u s2 x y H2 I2 r1 r2 q2
theorem pe_op{op:Operator}{r:R2}(ho:OpR X (binaryOp op) r)(ha:PE X a ta)(hb:PE X b tb):PE X (.BinOp a op b pos) (tOp r ta tb):=by
 intro pins s σ H Q I h;exact wpAny_BinOp (binT ha hb I h fun v u s2 x y H2 I2 rx ry q=>ho pins s2 σ H2 x y v u Q I2 rx ry q)
theorem pe_un{op:UnaryOp}{r:V->Hp->VK->Prop}(ho:UnR X (unaryOp op) r)(ha:PE X a ta):PE X (.UnaryOp op a pos) (tUn r ta):=by
 intro pins s σ H Q I h;exact UnaryOp_ (thn (ha pins s σ H _ I h) fun v s1 zz46=>(by obtain⟨x,H1,I1,r1,q1⟩:=zz46;exact(ho pins s1 σ H1 x v Q I1 r1 q1)))
theorem opI{f:Value->Value->Sem Value}{C:Int->Int->Prop}{g:Int->Int->Int}
  (rule: ∀(i j:Int) (t u:Tok) (s:Shared) (Q:Value->Shared->Prop) (E:Value->Shared->Prop),C i j->Q (.int (g i j) s.toks) {s with toks:=s.toks+1}->wpAny (model X.prog X.w) X.A (f (.int i t) (.int j u)) Q E s):
  OpR X f (rI C fun i j=> .int (g i j)):=by
 intro pins s σ H x y v u Q I rx ry h;obtain⟨i,j,rfl,rfl,hc,q⟩:=h;obtain⟨t,rfl⟩:=rx;obtain⟨t',rfl⟩:=ry;exact rule i j t t' s _ _ hc ⟨.int (g i j),H,I.tok _,⟨_,rfl⟩,q⟩
theorem opI0{f:Value->Value->Sem Value}{g:Int->Int->Int}
  (rule: ∀(i j:Int) (t u:Tok) (s:Shared) (Q:Value->Shared->Prop) (E:Value->Shared->Prop),Q (.int (g i j) s.toks) {s with toks:=s.toks+1}->wpAny (model X.prog X.w) X.A (f (.int i t) (.int j u)) Q E s):
  OpR X f (rI0 fun i j=> .int (g i j)):=by
 intro pins s σ H x y v u Q I rx ry h;obtain⟨i,j,rfl,rfl,q⟩:=h;obtain⟨t,rfl⟩:=rx;obtain⟨t',rfl⟩:=ry;exact rule i j t t' s _ _ ⟨.int (g i j),H,I.tok _,⟨_,rfl⟩,q⟩
theorem opB0{f:Value->Value->Sem Value}{g:Int->Int->Bool}
  (rule: ∀(i j:Int) (t u:Tok) (s:Shared) (Q:Value->Shared->Prop) (E:Value->Shared->Prop),Q (.bool (g i j)) s->wpAny (model X.prog X.w) X.A (f (.int i t) (.int j u)) Q E s):
  OpR X f (rI0 fun i j=> .bl (g i j)):=by
 intro pins s σ H x y v u Q I rx ry h;obtain⟨i,j,rfl,rfl,q⟩:=h;obtain⟨t,rfl⟩:=rx;obtain⟨t',rfl⟩:=ry;exact rule i j t t' s _ _ ⟨.bl (g i j),H,I,rfl,q⟩
def CDiv(i j:Int):Prop:=0 < j/\j < 1073741824
def CPow(i j:Int):Prop:=0<=j/\j<=1000000/\i.natAbs < 2^64
def CMul(i j:Int):Prop:=(-(2^64) < i/\i < 2^64)\/(-(2^64) < j/\j < 2^64)
theorem CMul.ok{i j:Int}(h:CMul i j):IntMulOk i j:=by
 rcases h with ⟨h1,h2⟩ | ⟨h1,h2⟩
 . exact .of_left (intBits_le_64 h1 h2)
 . exact .of_right (intBits_le_64 h1 h2)
theorem op_add:OpR X (binaryOp .Add) (rI0 fun i j=> .int (i+j)):=opI0 fun _ _ _ _ _ _ _ q=>add_int q
theorem op_sub:OpR X (binaryOp .Sub) (rI0 fun i j=> .int (i - j)):=opI0 fun _ _ _ _ _ _ _ q=>sub_int q
theorem op_mul:OpR X (binaryOp .Mult) (rI CMul fun i j=> .int (i*j)):=opI fun _ _ _ _ _ _ _ hc q=>mul_int q hc.ok
theorem op_fdiv:OpR X (binaryOp .FloorDiv) (rI CDiv fun i j=> .int (i / j)):=opI fun i j _ _ _ _ _ hc q=>by
 have h1:(0:Int) < j:=hc.1;have h2:j < 1073741824:=hc.2;exact floordiv_int (by lia) (by rw[Int.fdiv_eq_ediv_of_nonneg i (by lia)];exact q) (.inl (PyProof.noPylong_small (by lia)))
theorem op_mod:OpR X (binaryOp .Mod) (rI (fun _ j=>0 < j) fun i j=> .int (i % j)):=opI fun i j _ _ _ _ _ hc q=>by
 have h1:(0:Int) < j:=hc;exact mod_int' (by lia) (by rw[Int.fmod_eq_emod_of_nonneg i (by lia)];exact q)
theorem op_pow:OpR X (binaryOp .Pow) (rI CPow fun i j=> .int (i^j.toNat)):=opI fun _ _ _ _ _ _ _ hc q=>pow_int_small hc.1 hc.2.1 hc.2.2 q
theorem unI{f:Value->Sem Value}{g:Int->Int}
  (rule: ∀(i:Int) (t:Tok) (s:Shared) (Q:Value->Shared->Prop) (E:Value->Shared->Prop),Q (.int (g i) s.toks) {s with toks:=s.toks+1}->wpAny (model X.prog X.w) X.A (f (.int i t)) Q E s):
  UnR X f (rU fun i=> .int (g i)):=by
 intro pins s σ H x v Q I rx h;obtain⟨i,rfl,q⟩:=h;obtain⟨t,rfl⟩:=rx;exact rule i t s _ _ ⟨.int (g i),H,I.tok _,⟨_,rfl⟩,q⟩
theorem un_neg:UnR X (unaryOp .USub) (rU fun i=> .int (-i)):=unI fun _ _ _ _ _ q=>neg_int q
end
noncomputable def scal:V->V->Bool
 | .non, .non=>true | .non, .int _=>true | .int _, .non=>true | .non, .bl _=>true | .bl _, .non=>true | .non, .str _=>true | .str _, .non=>true
 | .int _, .int _=>true | .bl _, .bl _=>true | .str _, .str _=>true | .byt _, .byt _=>true
 | .int _, .str _=>true | .str _, .int _=>true | .bl _, .str _=>true | .str _, .bl _=>true
 | _,_=>false
def rEq:R2:=fun x y H Q=>scal x y=true/\Q (.bl (decide (x=y))) H
def rNe:R2:=fun x y H Q=>scal x y=true/\Q (.bl (!decide (x=y))) H
theorem dec_int{i j:Int}:decide (V.int i=V.int j)=(i==j):=by
 rw[Bool.eq_iff_iff];simp
theorem dec_bl{i j:Bool}:decide (V.bl i=V.bl j)=(i==j):=by
 rw[Bool.eq_iff_iff];simp
theorem dec_str{i j:Str}:decide (V.str i=V.str j)=(i==j):=by
 rw[Bool.eq_iff_iff];simp
theorem dec_byt{i j:Array UInt8}:decide (V.byt i=V.byt j)=(i.toList==j.toList):=by
 rw[Bool.eq_iff_iff];cases i;cases j;simp
section
variable {X : Cx} {a b c : Expr} {ta tb tc : TE} {pos : Pos}
theorem fin_bl{pins:List (Addr × Obj)}{σ:St}{H:Hp}{s:Shared}{Q:VK}{k k':Bool}(I:Inv X pins σ H s)(q:Q (.bl k) H)(e:k=k'):EP X pins σ Q (.bool k') s:=by
 subst e;exact⟨.bl k,H,I,rfl,q⟩
theorem op_eq:OpR X (compareOp .Eq) rEq:=by
 intro pins s σ H x y v u Q I rx ry h;obtain⟨hs,q⟩:=h;cases x with
 | non=>
  cases rx;cases y with
  | non=>cases ry;exact PySem.EqNone.eq_none_none (fin_bl I q rfl)
  | bl j=>cases ry;exact PySem.EqNone.eq_none_bool (fin_bl I q rfl)
  | int j=>obtain⟨t',rfl⟩:=ry;exact PySem.EqNone.eq_none_int (fin_bl I q rfl)
  | str j=>obtain⟨t',rfl⟩:=ry;exact PySem.EqNone.eq_none_str (fin_bl I q rfl)
  | _=>exact absurd (show false=true from hs) Bool.false_ne_true
 | bl i=>
  cases rx;cases y with
  | non=>cases ry;exact PySem.EqNone.eq_bool_none (fin_bl I q rfl)
  | bl j=>cases ry;exact eq_bool (fin_bl I q dec_bl)
  | str j=>obtain⟨t',rfl⟩:=ry;exact PySem.EqMixed.eq_bool_str (fin_bl I q rfl)
  | _=>exact absurd (show false=true from hs) Bool.false_ne_true
 | int i=>
  obtain⟨t,rfl⟩:=rx;cases y with
  | non=>cases ry;exact PySem.EqNone.eq_int_none (fin_bl I q rfl)
  | int j=>obtain⟨t',rfl⟩:=ry;exact eq_int (fin_bl I q dec_int)
  | str j=>obtain⟨t',rfl⟩:=ry;exact PySem.EqMixed.eq_int_str (fin_bl I q rfl)
  | _=>exact absurd (show false=true from hs) Bool.false_ne_true
 | str i=>
  obtain⟨t,rfl⟩:=rx;cases y with
  | non=>cases ry;exact PySem.EqNone.eq_str_none (fin_bl I q rfl)
  | bl j=>cases ry;exact PySem.EqMixed.eq_str_bool (fin_bl I q rfl)
  | int j=>obtain⟨t',rfl⟩:=ry;exact PySem.EqMixed.eq_str_int (fin_bl I q rfl)
  | str j=>obtain⟨t',rfl⟩:=ry;exact eq_str (fin_bl I q dec_str)
  | _=>exact absurd (show false=true from hs) Bool.false_ne_true
 | byt i=>
  obtain⟨t,rfl⟩:=rx;cases y with
  | byt j=>obtain⟨t',rfl⟩:=ry;exact PySem.W.eq_bytes (fin_bl I q dec_byt)
  | _=>exact absurd (show false=true from hs) Bool.false_ne_true
 | _=>exact absurd (show false=true from hs) Bool.false_ne_true
theorem op_ne:OpR X (compareOp .NotEq) rNe:=by
 intro pins s σ H x y v u Q I rx ry h;obtain⟨hs,q⟩:=h;cases x with
 | non=>
  cases rx;cases y with
  | non=>cases ry;exact PySem.EqNone.ne_none_none (fin_bl I q rfl)
  | bl j=>cases ry;exact PySem.EqNone.ne_none_bool (fin_bl I q rfl)
  | int j=>obtain⟨t',rfl⟩:=ry;exact PySem.EqNone.ne_none_int (fin_bl I q rfl)
  | str j=>obtain⟨t',rfl⟩:=ry;exact PySem.EqNone.ne_none_str (fin_bl I q rfl)
  | _=>exact absurd (show false=true from hs) Bool.false_ne_true
 | bl i=>
  cases rx;cases y with
  | non=>cases ry;exact PySem.EqNone.ne_bool_none (fin_bl I q rfl)
  | bl j=>cases ry;exact ne_bool (fin_bl I q (congrArg not dec_bl))
  | str j=>obtain⟨t',rfl⟩:=ry;exact PySem.EqMixed.ne_bool_str (fin_bl I q rfl)
  | _=>exact absurd (show false=true from hs) Bool.false_ne_true
 | int i=>
  obtain⟨t,rfl⟩:=rx;cases y with
  | non=>cases ry;exact PySem.EqNone.ne_int_none (fin_bl I q rfl)
  | int j=>obtain⟨t',rfl⟩:=ry;exact ne_int (fin_bl I q (congrArg not dec_int))
  | str j=>obtain⟨t',rfl⟩:=ry;exact PySem.EqMixed.ne_int_str (fin_bl I q rfl)
  | _=>exact absurd (show false=true from hs) Bool.false_ne_true
 | str i=>
  obtain⟨t,rfl⟩:=rx;cases y with
  | non=>cases ry;exact PySem.EqNone.ne_str_none (fin_bl I q rfl)
  | bl j=>cases ry;exact PySem.EqMixed.ne_str_bool (fin_bl I q rfl)
  | int j=>obtain⟨t',rfl⟩:=ry;exact PySem.EqMixed.ne_str_int (fin_bl I q rfl)
  | str j=>obtain⟨t',rfl⟩:=ry;exact ne_str (fin_bl I q (congrArg not dec_str))
  | _=>exact absurd (show false=true from hs) Bool.false_ne_true
 | byt i=>
  obtain⟨t,rfl⟩:=rx;cases y with
  | byt j=>obtain⟨t',rfl⟩:=ry;exact PySem.W.ne_bytes (fin_bl I q (congrArg not dec_byt))
  | _=>exact absurd (show false=true from hs) Bool.false_ne_true
 | _=>exact absurd (show false=true from hs) Bool.false_ne_true
theorem op_lt:OpR X (compareOp .Lt) (rI0 fun i j=> .bl (decide (i < j))):=opB0 fun _ _ _ _ _ _ _ q=>lt_int q
theorem op_le:OpR X (compareOp .LtE) (rI0 fun i j=> .bl (decide (i<=j))):=opB0 fun _ _ _ _ _ _ _ q=>le_int q
theorem op_gt:OpR X (compareOp .Gt) (rI0 fun i j=> .bl (decide (j < i))):=opB0 fun _ _ _ _ _ _ _ q=>gt_int q
theorem op_ge:OpR X (compareOp .GtE) (rI0 fun i j=> .bl (decide (j<=i))):=opB0 fun _ _ _ _ _ _ _ q=>ge_int q
theorem nomark(b:Expr){op:CmpOp}(h:autoParam (op≠ .In) au2._auto_1)(h2:autoParam (op≠ .NotIn) au2._auto_1):behindInMarks op b=false:=by
 have e1:(op==CmpOp.In)=false:=by cases op <;> first | rfl | exact absurd rfl h
 have e2:(op==CmpOp.NotIn)=false:=by cases op <;> first | rfl | exact absurd rfl h2
 cases b <;> simp [behindInMarks,e1,e2]
theorem pe_cmpR{op:CmpOp}{r:R2}(ho:OpR X (compareOp op) r)(ha:PE X a ta)(hb:PE X b tb)(hm:behindInMarks op b=false):PE X (.Compare a [op] [b] pos) (tOp r ta tb):=by
 intro pins s σ H Q I h;exact wpAny_Compare1 (binT ha hb I h fun v u s2 x y H2 I2 rx ry q=>ho pins s2 σ H2 x y v u Q I2 rx ry q) hm
def tTest(t:TE):TT:=fun σ H Q=>t σ H fun x H'=> ∃k,x= .bl k/\Q k H'
theorem pt_cmpR{op:CmpOp}{r:R2}(ho:OpR X (compareOp op) r)(ha:PE X a ta)(hb:PE X b tb)(hm:behindInMarks op b=false):PT X (.Compare a [op] [b] pos) (tTest (tOp r ta tb)):=by
 intro pins s σ H Q I h;refine wpAny_isTrue_Compare1 (thn (ha pins s σ H _ I h) fun v s1 ⟨x,H1,I1,r1,q1⟩=>thn (hb pins s1 σ H1 _ I1 q1) fun u s2 ⟨y,H2,I2,r2,q2⟩=>
  thn (ho pins s2 σ H2 x y v u _ I2 r1 r2 q2) fun c s3 ⟨z,H3,I3,r3,k,e,q3⟩=>?_) hm
 subst e;cases r3;exact wpAny_truthy_bool ⟨H3,I3,q3⟩
theorem line63:(sizeLine:Nat) < 2^63:=by rw[sizeLine_eq];decide
theorem vals1{x:V}{us:List Value}(r:Vals [x] us): ∃u,us= [u]/\RelV x u:=by
 cases r with
 | cons r1 r2=>cases r2;exact⟨_,rfl,r1⟩
theorem vals2{x y:V}{us:List Value}(r:Vals [x,y] us): ∃u w',us= [u,w']/\RelV x u/\RelV y w':=by
 cases r with
 | cons r1 r2=>
  cases r2 with
  | cons r3 r4=>cases r4;exact⟨_,_,rfl,r1,r3⟩
theorem call_max2(hc:X.calm=true):CallR X (.builtin "max") (fun xs H Q=> ∃i j,xs= [.int i, .int j]/\Q (.int (if j > i then j else i)) H):=by
 intro pins s σ H xs us Q I r h;obtain⟨i,j,rfl,q⟩:=h;obtain⟨u,w',rfl,⟨t,rfl⟩,⟨t',rfl⟩⟩:=vals2 r;refine max_two_ints (I.ok.hd hc) fun h' tk k=>⟨_,H,I.kept k,?_,q⟩
 by_cases hj:j > i
 . rw[if_pos hj,if_pos hj];exact⟨_,rfl⟩
 . rw[if_neg hj,if_neg hj];exact⟨_,rfl⟩
theorem call_min2(hc:X.calm=true):CallR X (.builtin "min") (fun xs H Q=> ∃i j,xs= [.int i, .int j]/\Q (.int (if j < i then j else i)) H):=by
 intro pins s σ H xs us Q I r h;obtain⟨i,j,rfl,q⟩:=h;obtain⟨u,w',rfl,⟨t,rfl⟩,⟨t',rfl⟩⟩:=vals2 r;refine min_two_ints (I.ok.hd hc) fun h' tk k=>⟨_,H,I.kept k,?_,q⟩
 by_cases hj:j < i
 . rw[if_pos hj,if_pos hj];exact⟨_,rfl⟩
 . rw[if_neg hj,if_neg hj];exact⟨_,rfl⟩
theorem call_int1:CallR X (.type "int") (fun xs H Q=>(∃i,xs= [.int i]/\Q (.int i) H)\/ ∃k,xs= [.bl k]/\Q (.int (if k then 1 else 0)) H):=by
 intro pins s σ H xs us Q I r h;rcases h with ⟨i,rfl,q⟩ | ⟨k,rfl,q⟩
 . obtain⟨u,rfl,t,rfl⟩:=vals1 r;exact call_int_int ⟨.int i,H,I,⟨_,rfl⟩,q⟩
 . obtain⟨u,rfl,r1⟩:=vals1 r;cases r1;exact call_int_bool ⟨.int (if k then 1 else 0),H,I.tok _,⟨_,rfl⟩,q⟩
end
structure ObjM(h:Heap)(x dx C:Addr)(mA:Str->Option Value):Prop where
 obj:h.get? x=some (PySem.W.instObj C dx)
 ns:h.Ns1 dx mA
 ne:dx≠x
theorem lookIn_ns{h:Heap}{dx:Addr}{mA:Str->Option Value}(n:h.Ns1 dx mA): ∃od,h.get? dx=some od/\ ∀name,PySem.W.lookIn name od=some (mA name):=by
 obtain⟨o,es,ep,ho,hd,hk,_,hm⟩:=n;refine⟨o,ho,fun name=>?_⟩;have e:=hm name;unfold nsFind findBy at e;rw[<-Array.find?_toList] at e;unfold PySem.W.lookIn;rw[hd];dsimp only;split
 . rename_i y q;rw[q] at e;exact congrArg some e
 . rename_i q;rw[q] at e;have a:es.toList.any (·.refKey)=false:=by
    rw[List.any_eq_false];intro y hy;obtain⟨z,t,hkey⟩:=hk y (Array.mem_toList_iff.mp hy);simp [DictEntry.refKey,hkey]
   have a': ¬es.toList.any (·.refKey)=true:=by rw[a];exact Bool.false_ne_true
   rw[if_neg a'];exact congrArg some e
theorem ObjM.look{h:Heap}{x dx C:Addr}{mA:Str->Option Value}(I:ObjM h x dx C mA): ∃od,PySem.W.InstAt h x (PySem.W.instObj C dx) C (some od)/\ ∀name,PySem.W.lookIn name od=some (mA name):=
 let ⟨od,ho,hl⟩:=lookIn_ns I.ns
 ⟨od,⟨I.obj,rfl,rfl,ho⟩,hl⟩
theorem RelO.some_of{v:V}{o:Option Value}(r:RelO (some v) o): ∃u,o=some u/\RelV v u:=by
 cases o with
 | none=>exact(show False from r).elim
 | some u=>exact⟨u,rfl,r⟩
section
variable {P : Program} {w : World} {H H' : Hp} {h h' : Heap} {a C dx : Addr} {fs fs' : List (Str × V)}
theorem ins_get(hok:HOk P w H h)(e:H a=some (.ins C dx fs)): ∃mA,ObjM h a dx C mA/\(∀f,RelO (fs.lookup f) (mA f))/\PySem.Within mA (fs.map (·.1))/\fs.length<=1000/\H dx=some (.own a):=by
 obtain⟨d,z,ne,ob,mA,n,r,q⟩:=(show ObjOk P w H h a (.ins C dx fs) from hok a _ e)
 exact⟨mA,⟨ob,n,ne⟩,r,q,z,d⟩
end
structure Cls(K:PySem.W.Frag)(C:Addr):Prop where
 pg:PySem.W.plainGet K C Str.empty=true
 hd:PySem.W.hasDictIn K C=true
 po:PySem.W.plainOver K C=true
 sa:PySem.W.findIn K (.ref C) "__setattr__"=some (some (.builtin "object.__setattr__"))
theorem Cls.get{K:PySem.W.Frag}{C:Addr}(c:Cls K C)(f:Str):PySem.W.plainGet K C f=true:=c.pg
section
variable {X : Cx} {pins : List (Addr × Obj)} {σ : St} {H : Hp} {s : Shared} {A : Around} {E : Value -> Shared -> Prop} {Q : Value -> Shared -> Prop} {c : Value} {b : Bool}
inductive TyOf(K:PySem.W.Frag)(H:Hp):V->Value->Prop where
 | non:TyOf K H .non (.type "NoneType")
 | bl (x:Bool):TyOf K H (.bl x) (.type "bool")
 | int (i:Int):TyOf K H (.int i) (.type "int")
 | str (x:Str):TyOf K H (.str x) (.type "str")
 | flt (x:UInt64):TyOf K H (.flt x) (.type "float")
 | lst {a:Addr} {xs:List V} (e:H a=some (.lst xs)):TyOf K H (.ref a) (.type "list")
 | frz {a:Addr} {o:Obj} {xs:List V} (e:H a=some (.frz o (.lst xs))):TyOf K H (.ref a) (.type "list")
 | tup {a:Addr} {xs:List V} (e:H a=some (.tup xs)):TyOf K H (.ref a) (.type "tuple")
 | dK {a:Addr} {kvs:List (Key × V)} (e:H a=some (.dK kvs)):TyOf K H (.ref a) (.type "dict")
 | dT {a:Addr} {kvs:List (List Key × V)} (e:H a=some (.dT kvs)):TyOf K H (.ref a) (.type "dict")
 | ins {a C dx:Addr} {fs:List (Str × V)} (e:H a=some (.ins C dx fs)) (cl:Cls K C) (ha:PySem.W.findIn K (.ref C) "__class__"=some (some (.builtin "object.__class__")))
   (hn:PySem.W.specialIn K (.builtin "object.__class__") "__get__"=some (some (.builtin "getset_descriptor.__get__"))) (htk:PySem.W.takesIn K (.builtin "object.__class__")=some true)
   (hm:PySem.W.mroIn K C (.type "object")=some true):TyOf K H (.ref a) (.ref C)
theorem isinst_ok{x:V}{u t:Value}(I:Inv X pins σ H s)(rx:RelV x u)(ty:TyOf X.K H x t)(e:PySem.W.kitOne X.K t c=some b)(h: ∀tk,Q (.bool b) {s with toks:=tk}):
  wpAny (model X.prog X.w) A (call (.builtin "isinstance") [u,c]) Q E s:=by
 cases ty with
 | non=>cases (show u=Value.none from rx);exact PySem.W.kia_one PySem.W.kitx_none I.kIn True.intro e (fun z=>nomatch z) h
 | bl y=>cases (show u=Value.bool y from rx);exact PySem.W.kia_one PySem.W.kitx_bool I.kIn True.intro e (fun z=>nomatch z) h
 | int i=>obtain⟨t,q⟩:=(show∃t,u=Value.int i t from rx);cases q;exact PySem.W.kia_one PySem.W.kitx_int I.kIn True.intro e (fun z=>nomatch z) h
 | str y=>obtain⟨t,q⟩:=(show∃t,u=Value.str y t from rx);cases q;exact PySem.W.kia_one PySem.W.kitx_str I.kIn True.intro e (fun z=>nomatch z) h
 | flt y=>obtain⟨t,q⟩:=(show∃t,u=Value.float y t from rx);cases q;exact PySem.W.kia_one PySem.W.kitx_float I.kIn True.intro e (fun z=>nomatch z) h
 | @lst a xs ea=>
  cases (show u=Value.ref a from rx);obtain⟨_,_,n,_,h1⟩:=(show ObjOk X.prog X.w H s.heap a (.lst xs) from I.hok a _ ea)
  exact PySem.W.kia_one PySem.W.kitx_list I.kIn ⟨_,h1,rfl⟩ e (fun z=>nomatch z) h
 | @frz a ob xs ea=>
  cases (show u=Value.ref a from rx);obtain⟨_,_,_,n,_,h1⟩:=(show ObjOk X.prog X.w H s.heap a (.frz ob (.lst xs)) from I.hok a _ ea)
  exact PySem.W.kia_one PySem.W.kitx_list I.kIn ⟨_,h1,rfl⟩ e (fun z=>nomatch z) h
 | @tup a xs ea=>
  cases (show u=Value.ref a from rx);obtain⟨_,_,_,p⟩:=(show ObjOk X.prog X.w H s.heap a (.tup xs) from I.hok a _ ea)
  obtain⟨o,h1,h2,_⟩:=p;exact PySem.W.kia_one PySem.W.kitx_tuple I.kIn ⟨o,h1,h2⟩ e (fun z=>nomatch z) h
 | @dK a kvs ea=>
  cases (show u=Value.ref a from rx);obtain⟨_,_,vs,_,p⟩:=(show ObjOk X.prog X.w H s.heap a (.dK kvs) from I.hok a _ ea)
  obtain⟨o,es,ep,h1,h2,_⟩:=p;exact PySem.W.kia_one PySem.W.kitx_dict I.kIn ⟨o,h1,h2.1⟩ e (fun z=>nomatch z) h
 | @dT a kvs ea=>
  cases (show u=Value.ref a from rx);obtain⟨_,_,xs,_,o,es,ep,h1,h2,_⟩:=(show ObjOk X.prog X.w H s.heap a (.dT kvs) from I.hok a _ ea)
  exact PySem.W.kia_one PySem.W.kitx_dict I.kIn ⟨o,h1,h2.1⟩ e (fun z=>nomatch z) h
 | @ins a C dx fs ea cl ha hn htk hm=>
  cases (show u=Value.ref a from rx);obtain⟨mA,O,_⟩:=ins_get I.hok ea;obtain⟨od,J,_⟩:=O.look;exact PySem.W.kia_one (PySem.W.kitx_own (cl.get _) cl.hd ha hn htk hm) I.kIn J e (fun z=>nomatch z) h
end
structure Room(k:Nat)(A:Around):Prop where
 hd:A.handled=none
 dp:A.depth+3*k+5 < recursionLimit
 un:A.units+16*k+200 < cLine
 gd:A.guards=some []
theorem Room.mono{j k:Nat}{A:Around}(r:Room k A)(h:j<=k):Room j A:=⟨r.hd,by have:=r.dp;lia,by have:=r.un;lia,r.gd⟩
theorem Room.deeper{k:Nat}{A:Around}(r:Room (k+1) A)(env:Env):Room k (A.deeper env):=
 ⟨r.hd,by have:=r.dp;show A.depth+1+3*k+5 < _;lia,by have:=r.un;show A.units+3+16*k+200 < _;lia,r.gd⟩
theorem Room.depth{k:Nat}{A:Around}(r:Room k A):A.depth < recursionLimit:=by have:=r.dp;lia
theorem Room.units{k:Nat}{A:Around}(r:Room k A):A.units+64 < cLine:=by have:=r.un;lia
theorem Room.units0{k:Nat}{A:Around}(r:Room k A):A.units < cLine:=by have:=r.un;lia
def tNil:TA:=fun _ H Q=>Q [] H
def tCons(ta:TE)(tr:TA):TA:=fun σ H Q=>ta σ H fun x H1=>tr σ H1 fun xs H2=>Q (x::xs) H2
section
variable {X : Cx} {e : Expr} {es : List Expr} {te : TE} {t : TA} {pos : Pos}
theorem pa_nil:PA X [] tNil:=fun _ _ _ _ H Q I h=>Calls.spliced_nil ⟨[],H,I, .nil,h⟩
theorem pa_cons(ha:PE X e te)(hr:PA X es t)(hs:autoParam (starEach (e::es) X.env=(false,eval e X.env)::starEach es X.env) au5._auto_1):PA X (e::es) (tCons te t):=by
 intro pos pins s σ H Q I h;rw[hs];show wpAny _ _ (spliced ((false,eval e X.env)::backTo pos (starEach es X.env))) _ _ s;refine Calls.spliced_cons (thn (ha pins s σ H _ I h) fun u s1 zz68=>?_);obtain⟨x,H1,I1,r1,q1⟩:=zz68;exact thn (hr pos pins s1 σ H1 _ I1 q1) fun us s2 zz69=>(by obtain⟨xs,H2,I2,r2,q2⟩:=zz69;exact(⟨x::xs,H2,I2, .cons r1 r2,q2⟩))
def tTup(t:TA):TE:=fun σ H Q=>t σ H fun xs H1=>xs.length<=sizeLine/\ ∀p,H1 p=none->Q (.ref p) (upd H1 p (.tup xs))
def tLst(t:TA):TE:=fun σ H Q=>t σ H fun xs H1=>xs.length<=sizeLine/\ ∀p,H1 p=none->Q (.ref p) (upd H1 p (.lst xs))
theorem pe_tup{x1}(h:PA X es t):PE X (.Tuple es x1 pos) (tTup t):=by
 intro pins s σ H Q I hq;refine wpAny_Tuple_spliced (thn (h pos pins s σ H _ I hq) fun us s1 ⟨xs,H1,I1,r,z,q⟩=>⟨by rw[<-r.length];exact z,?_⟩);have hf:H1 s1.heap.objs.size=none:=I1.hok.fresh (Nat.le_refl _);refine⟨.ref s1.heap.objs.size,upd H1 s1.heap.objs.size (.tup xs),I1.laid (t':=s1.toks) (fun b u e=>Heap.get?_push_of_some _ e) (Nat.le_refl _) ?_,rfl,q _ hf⟩;exact⟨z,us,r,⟨_,Heap.get?_push_size _ rfl,rfl,rfl,_,rfl⟩⟩
theorem pe_lst(h:PA X es t):PE X (.List es pos) (tLst t):=by
 intro pins s σ H Q I hq;refine wpAny_List_spliced (thn (h pos pins s σ H _ I hq) fun us s1 ⟨xs,H1,I1,r,z,q⟩=>⟨by rw[<-r.length];exact z,?_⟩);have hf:H1 s1.heap.objs.size=none:=I1.hok.fresh (Nat.le_refl _);refine⟨.ref s1.heap.objs.size,upd H1 s1.heap.objs.size (.lst xs),I1.laid (t':=s1.toks) (fun b u e=>Heap.get?_push_of_some _ e) (Nat.le_refl _) ?_,rfl,q _ hf⟩;exact⟨z,us,0,r,Heap.get?_push_size _ rfl⟩
end
abbrev Sp:=List V->Hp->VK->XK->Prop
abbrev CXT:=List Env->Hp->Shared->XK->Value->Shared->Prop
structure Env0(P:Program)(w:World)(K:PySem.W.Frag)(mg:Str->Option Value)(base:Heap)(A:Around)(outer:List Env)(s:Shared)(H:Hp):Prop where
 frames:A.frames=some outer
 mod:Mod K mg base
 bs: ∀b o,base.get? b=some o->s.heap.get? b=some o/\H b=none
 bsz:base.objs.size<=s.heap.objs.size
 funs:s.heap.FunFrames base outer
 frf: ∀b∈frs outer,H b=none
 hok:HOk P w H s.heap
 bare:AllBare s.gens
def CE(outer:List Env)(P:Program)(w:World)(H:Hp)(s:Shared)(Q:VK)(u:Value)(s':Shared):Prop:=
 ∃v H',s'.os=s.os/\AllBare s'.gens/\Un (frs outer) [] H H' s.heap s'.heap/\HOk P w H' s'.heap/\RelV v u/\Q v H'
def CR(CX:CXT)(outer:List Env)(P:Program)(w:World)(H:Hp)(s:Shared)(Q:VK)(E:XK)(r:Result)(s':Shared):Prop:=
 match r with
 | .ok (.ret u)=>CE outer P w H s Q u s'
 | .ok _=>False
 | .error e=>CX outer H s E e s'
structure FnOk(P:Program)(w:World)(K:PySem.W.Frag)(mg:Str->Option Value)(base:Heap)(CX:CXT)(k:Nat)(f:Addr)(fd:FuncData)(ps:List Str)(sp:Sp):Prop where
 len: ∀vs H Q E,sp vs H Q E->vs.length=ps.length
 run: ∀(A:Around) (outer:List Env) (s:Shared) (H:Hp) (args:Args) (us:List Value) (vs:List V) (Q:VK) (E:XK),Room k A->Env0 P w K mg base A outer s H->BindsTo s fd args (ps.zip us)->Vals vs us->sp vs H Q E->
  codeAny (model P w) A (.call (.ref f) args) (CR CX outer P w H s Q E) s
theorem FnOk.imp{P:Program}{w:World}{K:PySem.W.Frag}{mg:Str->Option Value}{base:Heap}{CX:CXT}{k:Nat}{f:Addr}{fd:FuncData}{ps:List Str}{sp sp':Sp}(F:FnOk P w K mg base CX k f fd ps sp)
  (h: ∀vs H Q E,sp' vs H Q E->sp vs H Q E):FnOk P w K mg base CX k f fd ps sp':=
 ⟨fun vs H Q E q=>F.len vs H Q E (h _ _ _ _ q),fun A outer s H args us vs Q E hr he hb hv hs=>F.run A outer s H args us vs Q E hr he hb hv (h _ _ _ _ hs)⟩
section
variable {X : Cx} {pins : List (Addr × Obj)} {σ : St} {H : Hp} {s s' : Shared}
theorem Inv.env0(I:Inv X pins σ H s):Env0 X.prog X.w X.K X.mg X.base X.A X.stack s H:=
 ⟨I.ok.frames,I.ok.mod,I.bs,Nat.le_trans I.ok.bsz I.sz,I.stack,I.stkFree,I.hok,I.bare⟩
theorem Inv.after{Q:VK}{u:Value}(I:Inv X pins σ H s)(h:CE X.stack X.prog X.w H s Q u s'):EP X pins σ Q u s':=by
 obtain⟨v,H',os,bare,un,hok,r,q⟩:=h;obtain⟨hh,g,d,t,os'⟩:=s';obtain rfl:os'=s.os:=os;exact⟨v,H',I.call (h':=hh) (g':=g) (d':=d) (t':=t) (ch:= []) un hok bare (fun b z=>absurd z (by simp)),r,q⟩
end
def tCall(sp:Sp)(dvs:List V)(E:XK)(t:TA):TE:=fun σ H Q=>t σ H fun vs H1=>sp (vs++dvs) H1 Q E
def Binds(K:PySem.W.Frag)(fd:FuncData)(ps:List Str)(ds:List Value):Prop:=
 ∀(s:Shared) (us:List Value),K.In s.heap->(us++ds).length=ps.length->BindsTo s fd ⟨us,[]⟩ (ps.zip (us++ds))
theorem Binds.all{K:PySem.W.Frag}{fd:FuncData}{ps:List Str}(h: ∀us:List Value,us.length=ps.length->bindArgs fd ⟨us,[]⟩=pure (ps.zip us)):Binds K fd ps []:=fun s us _ hl=>by
 rw[List.append_nil] at hl ⊢;exact .of_eq (h us hl)
def Passes(CX:CXT)(X:Cx)(E:XK):Prop:= ∀(pins:List (Addr × Obj)) (σ:St) (H:Hp) (s:Shared) (e:Value) (s':Shared),Inv X pins σ H s->CX X.stack H s E e s'->X.xe e s'
section
variable {X : Cx} {CX : CXT} {k : Nat} {f C : Addr} {fd : FuncData} {ps : List Str} {sp : Sp} {dvs : List V} {ds : List Value} {E : XK} {x m : Str} {p pos apos : Pos} {e o : Expr} {es : List Expr} {ta : TE} {t : TA}
theorem run_fn{pins:List (Addr × Obj)}{σ:St}{H:Hp}{s:Shared}{Q:VK}{us:List Value}{vs:List V}(F:FnOk X.prog X.w X.K X.mg X.base CX k f fd ps sp)(hr:Room k X.A)(hb:Binds X.K fd ps ds)(hd:Vals dvs ds)(hx:Passes CX X E)
  (I:Inv X pins σ H s) (r:Vals vs us) (h:sp (vs++dvs) H Q E):wpAny (model X.prog X.w) X.A (call (.ref f) us) (EP X pins σ Q) X.xe s:=by
 have r2:Vals (vs++dvs) (us++ds):=r.append hd;have hl:(us++ds).length=ps.length:=by rw[<-r2.length];exact F.len _ _ _ _ h
 refine wpAny_call (codeAny_mono (F.run X.A X.stack s H ⟨us,[]⟩ (us++ds) (vs++dvs) Q E hr I.env0 (hb s us I.kIn hl) r2 h) fun r s' hq=>?_);cases r with
 | error e=>exact hx pins σ H s e s' I hq
 | ok fl=>
  cases fl with
  | ret u=>exact I.after hq
  | next=>exact False.elim hq
  | brk=>exact False.elim hq
  | cont=>exact False.elim hq
theorem pe_call(F:FnOk X.prog X.w X.K X.mg X.base CX k f fd ps sp)(hr:Room k X.A)(hg:Gl X x)(hm:X.mg x=some (.ref f))(hk:PySem.W.keepIn X.K (.ref f)=true)(hb:Binds X.K fd ps ds)(hd:Vals dvs ds)(hx:Passes CX X E)
  (ha:PA X (e::es) t) (hdb:autoParam ((x==("__debug__":Str))=false) au2._auto_1) (he:autoParam (starEach (e::es) X.env=(false,eval e X.env)::starEach es X.env) au5._auto_1) (hpl:autoParam ((backTo pos (starEach es X.env)).any (·.1)=false) au5._auto_1):
  PE X (.Call (.Name x p) (e::es) [] pos) (tCall sp dvs E t):=by
 intro pins s σ H Q I h;refine wpAny_Call_Name_kw (ld_glob I hg hm ?_ hdb);refine PySem.W.callWith_K (h₀:=X.base) I.ok.mod.kin hk (thn (ha pos pins s σ H _ I h) fun us s1 ⟨vs,H1,I1,r,q⟩=>⟨I1.kIn,?_⟩) he hpl;exact run_fn F hr hb hd hx I1 r q
end
structure FnScope(N P:List Str)(sc:Scope):Prop where
 kind:sc.kind= .function
 co:sc.isCoroutine=false
 gen:sc.isGenerator=false
 nd:N.Nodup
 pre:N.take P.length=P
 par: ∀x∈P,sc.names.lookup x=some .local\/sc.names.lookup x=some .cell
 nofree: ∀y∈sc.names,y.2≠ .free
theorem bindL_out{kindOf:Str->Option NameKind}{x:Str}: ∀{binds:List (Str × Value)} {m:Str->Option Value},(∀v,(x,v)∉binds)->bindL kindOf binds m x=m x
 | [],_,_=>rfl
 | (n,v)::r,m,h=>by
  unfold bindL;rw[bindL_out fun w hw=>h w (List.mem_cons_of_mem _ hw)];split
  . have:x≠n:=by rintro rfl;exact h v List.mem_cons_self
    simp [this]
  . rfl
theorem bindC_out{kindOf:Str->Option NameKind}{x:Str}: ∀{binds:List (Str × Value)} {m:Str->Option Value},(∀v,(x,v)∉binds)->bindC kindOf binds m x=m x
 | [],_,_=>rfl
 | (n,v)::r,m,h=>by
  unfold bindC;rw[bindC_out fun w hw=>h w (List.mem_cons_of_mem _ hw)];split
  . rfl
  . have:x≠n:=by rintro rfl;exact h v List.mem_cons_self
    simp [this]
theorem bindL_get{kindOf:Str->Option NameKind}{x:Str}{v:Value}: ∀{P:List Str} {vs:List Value} {i:Nat} {m:Str->Option Value},P.Nodup->P[i]?=some x->vs[i]?=some v->kindOf x=some .local->
  bindL kindOf (P.zip vs) m x=some v
 | [],_,_,_,_,h,_,_=>by simp at h
 | _::_,[],_,_,_,_,h,_=>by simp at h
 | p::P,w::vs,0,m,nd,h1,h2,hk=>by
  simp at h1 h2;subst h1;subst h2;show bindL kindOf ((p,w)::P.zip vs) m p=_;unfold bindL;rw[bindL_out fun v hv=>(List.nodup_cons.mp nd).1 (List.of_mem_zip hv).1,if_pos hk];simp
 | p::P,w::vs,i+1,m,nd,h1,h2,hk=>by
  show bindL kindOf ((p,w)::P.zip vs) m x=_;unfold bindL;exact bindL_get (i:=i) (List.nodup_cons.mp nd).2 (by simpa using h1) (by simpa using h2) hk
theorem bindC_get{kindOf:Str->Option NameKind}{x:Str}{v:Value}: ∀{P:List Str} {vs:List Value} {i:Nat} {m:Str->Option Value},P.Nodup->P[i]?=some x->vs[i]?=some v->kindOf x≠some .local->
  bindC kindOf (P.zip vs) m x=some v
 | [],_,_,_,_,h,_,_=>by simp at h
 | _::_,[],_,_,_,_,h,_=>by simp at h
 | p::P,w::vs,0,m,nd,h1,h2,hk=>by
  simp at h1 h2;subst h1;subst h2;show bindC kindOf ((p,w)::P.zip vs) m p=_;unfold bindC;rw[bindC_out fun v hv=>(List.nodup_cons.mp nd).1 (List.of_mem_zip hv).1,if_neg hk];simp
 | p::P,w::vs,i+1,m,nd,h1,h2,hk=>by
  show bindC kindOf ((p,w)::P.zip vs) m x=_;unfold bindC;exact bindC_get (i:=i) (List.nodup_cons.mp nd).2 (by simpa using h1) (by simpa using h2) hk
noncomputable def start(N:List Str)(vs:List V):St:=vs.map some++List.replicate (N.length - vs.length) none
noncomputable def cxOf(CX:CXT)(P:Program)(w:World)(K:PySem.W.Frag)(mg:Str->Option Value)(base:Heap)(N:List Str)(qual:Str)(scope:Scope)(f:Addr)(cd:Value)(A:Around)(outer:List Env)(s:Shared)(H:Hp)(E:XK):Cx where
 prog:=P
 w:=w
 K:=K
 mg:=mg
 base:=base
 A:=A.deeper (envOfC qual scope s.heap.objs.size f cd)
 N:=N
 s₀:=s
 H₀:=H
 env:=envOfC qual scope s.heap.objs.size f cd
 outer:=outer
 stack:=envOfC qual scope s.heap.objs.size f cd::outer
 ex:= []
 calm:=true
 fn:=fun _=>true
 pn:= []
 xe:=fun e s'=>wpAny (model P w) (A.deeper (envOfC qual scope s.heap.objs.size f cd)) (leaving (envOfC qual scope s.heap.objs.size f cd) e) (fun _ s''=>CX outer H s E e s'') (fun e' s''=>CX outer H s E e' s'') s'
theorem cell_has{sc:Scope}{n:Nat}{x:Str}(h:sc.names.lookup x=some .cell): ∃c,(cellsFrom n sc.names []).lookup x=some c:=by
 have q:=PySem.W.cellsFrom_some sc.names n [] (.inl h);exact Option.isSome_iff_exists.mp q
theorem inv_start{CX:CXT}{P:Program}{w:World}{K:PySem.W.Frag}{mg:Str->Option Value}{base:Heap}{N ps:List Str}{qual:Str}{scope:Scope}{f:Addr}{cd:Value}{A:Around}{outer:List Env}{s s1:Shared}{H:Hp}{E:XK}{us:List Value}{vs:List V}
  (S:FnScope N ps scope) (hd:A.handled=none) (e0:Env0 P w K mg base A outer s H) (hl:vs.length=ps.length) (r:Vals vs us)
  (x:InCallC s s.heap.objs.size (bindL (envOfC qual scope s.heap.objs.size f cd).kindOf (ps.zip us) fun _=>none) (cellsFrom (s.heap.objs.size+1) scope.names []) (bindC (envOfC qual scope s.heap.objs.size f cd).kindOf (ps.zip us) fun _=>none) s1):
  Inv (cxOf CX P w K mg base N qual scope f cd A outer s H E) [] (start N vs) H s1:=by
 have hpl:ps.length<=N.length:=by have:=congrArg List.length S.pre;rw[List.length_take] at this;lia
 obtain⟨h1,tk,rfl,hk⟩:=x.done;have noA: ∀b:Addr,b∉(cxOf CX P w K mg base N qual scope f cd A outer s H E).ex:=fun b z=>absurd (show b∈([]:List Addr) from z) (by simp);refine⟨⟨e0.mod,S.kind,rfl,rfl,Nat.le_refl _,fun y z c h1 h2=>?_,fun y hy=>?_,fun y c _ h=>?_,fun _=>hd,Around.frames_deeper e0.frames, .inr ⟨rfl,rfl⟩,fun b z=>absurd z (noA b),e0.bs,e0.bsz,fun b _ _=>noA b,fun b z=>absurd z (noA b),e0.funs,e0.frf⟩,
  rfl,e0.bare,Un.kept hk,⟨_,x.toInCall.ns,fun i y v h1 h2 h3=>?_⟩,fun y c h=>⟨_,x.cell y c h⟩,e0.hok.fresh (Nat.le_refl _),fun y c h=>?_,fun p hp=>absurd (show p∈([]:List (Addr × Obj)) from hp) (by simp),e0.hok.kept hk,?_⟩
 . exact name_of_addr x.apart (PySem.mem_of_lookup h1) (PySem.mem_of_lookup h2)
 . have hy:scope.names.lookup y=some .cell\/scope.names.lookup y=some .free:=hy;rcases hy with hy | hy
   . exact cell_has hy
   . exact absurd rfl (S.nofree _ (PySem.mem_of_lookup hy))
 . exact Nat.le_of_lt (x.above y c (PySem.mem_of_lookup h))
 . have hi : i < vs.length := by
     unfold start at h2;by_cases hi:i < vs.length
     . exact hi
     . rw[List.getElem?_append_right (by simpa using hi)] at h2;rw[List.getElem?_replicate] at h2;split at h2 <;> cases h2
   have ha:vs[i]?=some v:=by
    unfold start at h2;rw[List.getElem?_append_left (by simpa using hi),List.getElem?_map] at h2;cases e:vs[i]? with
    | none=>rw[e] at h2;cases h2
    | some a=>rw[e] at h2;cases h2;rfl
   obtain⟨u,hu,rv⟩:=r.get ha;have hp:ps[i]?=some y:=by
    rw[<-S.pre,List.getElem?_take_of_lt (by lia)];exact h1
   have ndP:ps.Nodup:=by rw[<-S.pre];exact S.nd.sublist (List.take_sublist _ _)
   refine⟨u,rv,?_⟩;rcases S.par y (List.mem_of_getElem? hp) with k | k
   . exact .inl ⟨k,bindL_get ndP hp hu k⟩
   . obtain⟨c,e⟩:=cell_has (n:=s.heap.objs.size+1) k;refine .inr ⟨.inl k,c,e,?_⟩;have q:=x.cell y c e;rw[bindC_get ndP hp hu (by show scope.names.lookup y≠_;rw[k];decide)] at q;exact q
 . exact e0.hok.fresh (Nat.le_of_lt (x.above y c (PySem.mem_of_lookup h)))
 . unfold start;show _=N.length;rw[List.length_append,List.length_map,List.length_replicate];lia
theorem fn_of{CX:CXT}{P:Program}{w:World}{K:PySem.W.Frag}{mg:Str->Option Value}{base:Heap}{k:Nat}{f:Addr}{name qual:Str}{params:Arguments}{body:List Stmt}{scope:Scope}{dV kV doc pm cdv ct oc:Value}{an od:Option Addr}
  {osl:Array (Option Value)} {N ps:List Str} {sp:Sp} (lk:K.lookup f=some ⟨oc,od, .func (PySem.W.fnOf name qual params body scope dV kV doc pm an cdv ct),osl⟩) (hcd:PySem.W.codeIn K cdv qual=true) (S:FnScope N ps scope)
  (len: ∀vs H Q E,sp vs H Q E->vs.length=ps.length)
  (hbody: ∀(A:Around) (outer:List Env) (s:Shared) (H:Hp) (vs:List V) (Q:VK) (E:XK),Room k (A.deeper (envOfC qual scope s.heap.objs.size f cdv))->sp vs H Q E->
   ∃t,PSs (cxOf CX P w K mg base N qual scope f cdv A outer s H E) body t/\t {nx:=fun _ H'=>Q .non H',rt:=Q} (start N vs) H):
  FnOk P w K mg base CX (k+1) f (PySem.W.fnOf name qual params body scope dV kV doc pm an cdv ct) ps sp:=by
 refine⟨len,fun A outer s H args us vs Q E hr e0 hb r hsp=>?_⟩;have hl:=len _ _ _ _ hsp;have KX:K.In s.heap:=e0.mod.kin.keeps fun b o e=>(e0.bs b o e).1;have lim:s.heap.NoLimit:=e0.mod.nolimit.keeps fun b o e=>(e0.bs b o e).1;have hkind: ∀y∈ps.zip us,scope.names.lookup y.1=some .local\/(scope.names.lookup y.1=some .cell/\((cellsFrom (s.heap.objs.size+1) scope.names []).lookup y.1).isSome=true):=fun zz81 hy=>(by obtain⟨n,v⟩:=zz81;exact(by
  rcases S.par n (List.of_mem_zip hy).1 with q | q
  . exact .inl q
  . exact .inr ⟨q,PySem.W.cellsFrom_some _ _ _ (.inl q)⟩))
 refine codeAny_call_function hr.depth (KX _ _ lk) rfl S.co S.gen rfl (PySem.W.codeRec_of KX hcd) (hb _ _ _ _ ?_);refine wpAny_newFunctionEnv_cells S.kind hkind fun env he s1 x=>?_;subst he;refine⟨lim.keeps x.toInCall.keep,codeAny_func ?_⟩;obtain⟨t,ht,hq⟩:=hbody A outer s H vs Q E (hr.deeper _) hsp;have I:Inv (cxOf CX P w K mg base N qual scope f cdv A outer s H E) [] (start N vs) H s1:=inv_start S hr.hd e0 hl r x;refine wpAny_mono (ht [] s1 (start N vs) H _ I hq) (fun fl s' hs=>?_) fun e s' hs=>hs;have fin: ∀{σ':St} {H':Hp} {v:V} {u:Value},Inv (cxOf CX P w K mg base N qual scope f cdv A outer s H E) [] σ' H' s'->RelV v u->Q v H'->CE outer P w H s Q u s':=
  fun{σ' H' v u} J rv q=>⟨v,H',J.os,J.bare,J.base,J.hok,rv,q⟩
 cases fl with
 | ret u=>
  obtain⟨v,σ',H',J,rv,q⟩:=hs;exact fin J rv q
 | next=>
  obtain⟨σ',H',J,q⟩:=hs;exact fin (v:=V.non) (u:=Value.none) J rfl q
 | brk=>
  obtain⟨_,_,_,q⟩:=hs;exact False.elim q
 | cont=>
  obtain⟨_,_,_,q⟩:=hs;exact False.elim q
section
variable {X : Cx} {x : Str} {p pos : Pos} {e : Expr} {es : List Expr} {t : TA} {id T : String} {r : List V -> Hp -> VK -> Prop}
def tCB(r:List V->Hp->VK->Prop)(t:TA):TE:=fun σ H Q=>t σ H fun vs H1=>r vs H1 Q
theorem pe_callB(hc:CallR X (.builtin id) r)(hg:Gl X x)(hm:X.mg x=none)(hv:bootBuiltins x=some (.builtin id))(ha:PA X (e::es) t)(hn:autoParam (x≠"__name__") au2._auto_1)(hdb:autoParam ((x==("__debug__":Str))=false) au2._auto_1)
  (he:autoParam (starEach (e::es) X.env=(false,eval e X.env)::starEach es X.env) au5._auto_1) (hpl:autoParam ((backTo pos (starEach es X.env)).any (·.1)=false) au5._auto_1):PE X (.Call (.Name x p) (e::es) [] pos) (tCB r t):=by
 intro pins s σ H Q I h;refine wpAny_Call_Name_kw (ld_blt I hg hm hv ?_ hn hdb);exact PyProof.Rows.callWith_builtin1 (thn (ha pos pins s σ H _ I h) fun us s1 zz82=>(by obtain⟨vs,H1,I1,r1,q1⟩:=zz82;exact(hc pins s1 σ H1 vs us Q I1 r1 q1))) he hpl
theorem pe_callTy(hc:CallR X (.type T) r)(hg:Gl X x)(hm:X.mg x=none)(hv:bootBuiltins x=some (.type T))(ha:PA X (e::es) t)(hn:autoParam (x≠"__name__") au2._auto_1)(hdb:autoParam ((x==("__debug__":Str))=false) au2._auto_1)
  (he:autoParam (starEach (e::es) X.env=(false,eval e X.env)::starEach es X.env) au5._auto_1) (hpl:autoParam ((backTo pos (starEach es X.env)).any (·.1)=false) au5._auto_1):PE X (.Call (.Name x p) (e::es) [] pos) (tCB r t):=by
 intro pins s σ H Q I h;refine wpAny_Call_Name_kw (ld_blt I hg hm hv ?_ hn hdb);exact PyProof.Rows.callWith_type1 (thn (ha pos pins s σ H _ I h) fun us s1 zz83=>(by obtain⟨vs,H1,I1,r1,q1⟩:=zz83;exact(hc pins s1 σ H1 vs us Q I1 r1 q1))) he hpl
end
end L2
namespace HT
open PySem PyProof.Rows
section
variable {prog : Program} {w : World} {A : Around} {E : Value -> Shared -> Prop} {s : Shared}
theorem cat_tup{t b:Addr}{vs ws:List Value}{Q:Value->Shared->Prop}(ht:IsTup s.heap t vs.toArray)(hb:IsTup s.heap b ws.toArray)(hv:vs≠ [])
  (h1:ws= []->Q (.ref t) s) (h2:ws≠ []->Q (.ref s.heap.objs.size) {s with heap:=s.heap.push {cls:= .type "tuple",data:= .seq (vs++ws).toArray}})
  (hsz:vs.length+ws.length<=sizeLine):wpAny (model prog w) A (binaryOp .Add (.ref t) (.ref b)) Q E s:=by
 obtain⟨⟨cls,dd,data,sl⟩,ho,hc,n,hd⟩:=id ht;obtain⟨⟨cls2,dd2,data2,sl2⟩,ho2,hc2,n2,hd2⟩:=id hb;simp only at hc hd hc2 hd2;subst hc hd hc2 hd2;have e:vs.toArray++ws.toArray=(vs++ws).toArray:=by simp
 by_cases hw:ws= []
 . exact concat_meets ⟨_, ho, rfl⟩ ⟨_, ho2, rfl⟩ noFill_tuple_add seq_tuple_add PySem.F.slot_tuple_add PySem.F.entry_tuple_add (PySem.F.args_tuple_add_2 _ _)
     (tuple_addW1 t b vs.toArray ws.toArray n n2 dd dd2 sl sl2 (by simpa using hv) (by simp [hw])) ⟨ho,ho2,h1 hw⟩
 . refine concat_meets ⟨_, ho, rfl⟩ ⟨_, ho2, rfl⟩ noFill_tuple_add seq_tuple_add PySem.F.slot_tuple_add PySem.F.entry_tuple_add (PySem.F.args_tuple_add_2 _ _)
     (tuple_addW2 t b vs.toArray ws.toArray n n2 dd dd2 sl sl2 (by simpa using hv) (by simpa using hw) (by rw[List.size_toArray,List.size_toArray];exact hsz)) ⟨ho,ho2,?_⟩
   rw[e];exact h2 hw
noncomputable def sIx(n d:Nat):Option Int->Nat
 | none=>d
 | some v=>if v < 0 then(v+(n:Int)).toNat else min v.toNat n
theorem sIx_none(n d:Nat):sIx n d none=d:=rfl
theorem sIx_nat(n d k:Nat):sIx n d (some (k:Int))=min k n:=by
 show(if (k:Int) < 0 then((k:Int)+(n:Int)).toNat else min (k:Int).toNat n)=min k n;rw[if_neg (by lia),Int.toNat_natCast]
theorem sIx_le(n d:Nat)(hd:d<=n)(o:Option Int):sIx n d o<=n:=by
 cases o with
 | none=>exact hd
 | some v=>
  show(if v < 0 then(v+(n:Int)).toNat else min v.toNat n)<=n;by_cases hv:v < 0
  . rw[if_pos hv];lia
  . rw[if_neg hv];exact Nat.min_le_right _ _
theorem clip_eq(v:Int)(n d:Nat):(if v < 0 then max (v+(n:Int)) 0 else min v (n:Int))=((sIx n d (some v):Nat):Int):=by
 show(if v < 0 then max (v+(n:Int)) 0 else min v (n:Int))=(((if v < 0 then(v+(n:Int)).toNat else min v.toNat n):Nat):Int)
 by_cases hv:v < 0
 . simp only [if_pos hv];lia
 . simp only [if_neg hv];lia
theorem adjust_gen(lo hi:Option Int)(n:Nat):Builtin.Slice.sliceAdjust lo hi 1 (n:Int)=(((sIx n 0 lo:Nat):Int),((sIx n n hi:Nat):Int)):=by
 have h1: ¬((1:Int) < 0):=by lia
 unfold Builtin.Slice.sliceAdjust;simp only [h1,if_false];refine Prod.ext ?_ ?_
 . cases lo with
   | none=>rfl
   | some v=>exact clip_eq v n 0
 . cases hi with
   | none=>rfl
   | some v=>exact clip_eq v n n
theorem places_gen(i j:Nat):Builtin.Slice.slicePlaces (i:Int) (j:Int) 1=j - i:=by
 unfold Builtin.Slice.slicePlaces;have h1:(1:Int) > 0:=by lia
 simp only [h1,if_true,Int.ediv_one];split <;> lia
theorem slicePart_{v:Value}{o:Option Int}{Q:Option Int->Shared->Prop}(p:IsPart v o)(h:Q o s):wpAny (model prog w) A (Builtin.Slice.slicePartIndex v) Q E s:=by
 cases p with
 | none=>exact slicePart_none h
 | int i t=>exact slicePart_int h
theorem sliceApplied_gen{sl:Addr}{vl vu:Value}{lo hi:Option Int}{n:Nat}{Q:Int × Int × Nat->Shared->Prop}(hs:s.heap.IsSliceOf sl vl vu .none)(pl:IsPart vl lo)(pu:IsPart vu hi)
  (h:Q (((sIx n 0 lo:Nat):Int),1,sIx n n hi - sIx n 0 lo) s):wpAny (model prog w) A (Builtin.Slice.sliceApplied (.ref sl) (pure (n:Int))) Q E s:=by
 obtain⟨os,hos,hcs,hds⟩:=id hs;unfold Builtin.Slice.sliceApplied Builtin.Slice.sliceFields;refine wpAny_bind (wpAny_bind (wpAny_field hos hds (x:=vl) rfl (wpAny_bind (wpAny_field hos hds (x:=vu) rfl (wpAny_bind (wpAny_field hos hds (x:= .none) rfl (wpAny_pure ?_)))))));refine wpAny_bind (slicePart_none ?_);show wpAny _ _ (if ((1:Int)==0)=true then _ else _) _ _ s;rw[if_neg (by decide)];refine wpAny_bind (slicePart_ pl (wpAny_bind (slicePart_ pu (wpAny_bind (wpAny_pure ?_)))));show wpAny _ _ (match Builtin.Slice.sliceAdjust lo hi 1 (n:Int) with | (lo,hi)=>pure (lo,(1:Int),Builtin.Slice.slicePlaces lo hi 1)) _ _ s;rw[adjust_gen lo hi n];show wpAny _ _ (pure (((sIx n 0 lo:Nat):Int),(1:Int),Builtin.Slice.slicePlaces ((sIx n 0 lo:Nat):Int) ((sIx n n hi:Nat):Int) 1)) _ _ s;rw[places_gen];exact wpAny_pure h
theorem pick_gen(xs:Array Value)(i k:Nat):((List.range k).filterMap fun(m:Nat)=>xs[((i:Int)+(m:Int)*1).toNat]?).toArray=((xs.toList.drop i).take k).toArray:=by
 have e:(fun(m:Nat)=>xs[((i:Int)+(m:Int)*1).toNat]?)=fun m=>xs[i+m]?:=by
  funext m
  have:((i:Int)+(m:Int)*1).toNat=i+m:=by lia
  rw[this]
 rw[e];have:=pick_run xs i k;rw[List.filterMap_map] at this;have e2:((fun x=>xs[x]?) ∘ fun x=>i+x)=fun m=>xs[i+m]?:=rfl;rw[e2] at this;rw[this]
theorem getItem_tuple_cut{t sl:Addr}{items:Array Value}{vl vu:Value}{lo hi:Option Int}{Q:Value->Shared->Prop}(ht:IsTup s.heap t items)(hs:s.heap.IsSliceOf sl vl vu .none)(pl:IsPart vl lo)(pu:IsPart vu hi)
  (hw: ¬(sIx items.size 0 lo=0/\sIx items.size items.size hi=items.size))
  (h:Q (.ref s.heap.objs.size) {s with heap:=s.heap.push {cls:= .type "tuple",data:= .seq ((items.toList.drop (sIx items.size 0 lo)).take (sIx items.size items.size hi - sIx items.size 0 lo)).toArray}})
  (hsz:items.size<=sizeLine):wpAny (model prog w) A (getItem (.ref t) (.ref sl)) Q E s:=by
 have htake:sizeOk (.seq ((items.toList.drop (sIx items.size 0 lo)).take (sIx items.size items.size hi - sIx items.size 0 lo)).toArray):=by
  show((items.toList.drop (sIx items.size 0 lo)).take (sIx items.size items.size hi - sIx items.size 0 lo)).toArray.size<=sizeLine;rw[List.size_toArray,List.length_take,List.length_drop,Array.length_toList];lia
 have hj:sIx items.size items.size hi<=items.size:=sIx_le _ _ (Nat.le_refl _) hi;obtain⟨os,hos,hcs,hds⟩:=id hs;have hTs:s.TypeIs (.ref sl) "slice":=⟨os,hos,hcs⟩
 unfold getItem;try with_reducible refine wpAny_holding ?_
 first | refine wpAny_bind (wpAny_pure ?_) | skip
 refine wpAny_bind (wpAny_sequenceKey ht.typeIs (by decide) ?_);refine wpAny_bind (wpAny_callSpecial?_slot (name:=Str.ofString "__getitem__") ht.typeIs PyProof.Rows.slot_tuple_getitem
  (wpAny_call_entry PyProof.Rows.slot_tuple_getitem ht.typeIs entry_tuple_getitem ?_ (args_tuple_getitem _ _)))
 show wpAny _ _ (Builtin.Tuple.tupleItemsOf (.ref t) >>=_) _ _ s;refine wpAny_bind (tupleItemsOf_ ht ?_);refine wpAny_bind (wpAny_typeOf hTs ?_);rw[if_pos (by decide)];refine wpAny_bind (sliceApplied_gen hs pl pu ?_);have hno: ¬((((sIx items.size 0 lo:Nat):Int)==0 && (1:Int)==1 && (sIx items.size items.size hi - sIx items.size 0 lo)==items.size)=true):=by
  intro q;rw[Bool.and_eq_true,Bool.and_eq_true] at q;have q1:((sIx items.size 0 lo:Nat):Int)=0:=eq_of_beq q.1.1;have q2:sIx items.size items.size hi - sIx items.size 0 lo=items.size:=eq_of_beq q.2;exact hw ⟨by lia,by lia⟩
 show wpAny _ _ (if (((sIx items.size 0 lo:Nat):Int)==0 && (1:Int)==1 && (sIx items.size items.size hi - sIx items.size 0 lo)==items.size)=true then _ else _) _ _ s;rw[if_neg hno,pick_gen];first
  | exact wpAny_bind (m:=Builtin.Tuple.tupleExact _) (wpAny_newObj_type (wpAny_pure ⟨_,rfl,wpAny_pure h⟩) htake)
  | exact wpAny_bind (m:=Builtin.Tuple.tupleExact _) (wpAny_newObj_type (wpAny_bind (wpAny_pure (wpAny_pure ⟨_,rfl,wpAny_pure h⟩))) htake)
  | exact wpAny_bind (wpAny_bind (m:=Builtin.Tuple.tupleExact _) (wpAny_newObj_type (wpAny_pure (wpAny_pure ⟨_,rfl,wpAny_pure h⟩)) htake))
  | exact wpAny_bind (wpAny_bind (m:=Builtin.Tuple.tupleExact _) (wpAny_newObj_type (wpAny_pure ⟨_,rfl,wpAny_pure h⟩) htake))
end
end HT
namespace L2
open PySem PySem.Spec PyProof.Rows
abbrev TO:=St->Hp->(Option Int->Hp->Prop)->Prop
def PO(X:Cx)(e:Option Expr)(t:TO):Prop:=
 ∀(pins:List (Addr × Obj)) (s:Shared) (σ:St) (H:Hp) (Q:Option Int->Hp->Prop),Inv X pins σ H s->t σ H Q->
  wpAny (model X.prog X.w) X.A (evalPart e X.env) (fun u s'=> ∃o H',Inv X pins σ H' s'/\IsPart u o/\Q o H') X.xe s
def tNoPart:TO:=fun _ H Q=>Q none H
def tPart(t:TE):TO:=fun σ H Q=>t σ H fun x H1=> ∃i,x= .int i/\Q (some i) H1
section
variable {X : Cx} {e : Expr} {te : TE} {lo hi : Option Expr} {tl th : TO} {pos p2 : Pos}
theorem po_none:PO X none tNoPart:=by
 intro pins s σ H Q I h;rw[evalPart_none];exact wpAny_pure ⟨none,H,I, .none,h⟩
theorem po_some(h:PE X e te):PO X (some e) (tPart te):=by
 intro pins s σ H Q I hw;rw[evalPart_some];refine thn (h pins s σ H _ I hw) fun u s1 zz84=>?_;obtain⟨x,H1,I1,r1,q1⟩:=zz84;obtain⟨i,rfl,q⟩:=q1;obtain⟨t,rfl⟩:=r1;exact⟨some i,H1,I1, .int i t,q⟩
def SlR(X:Cx)(r:V->Option Int->Option Int->Hp->VK->Prop):Prop:=
 ∀(pins:List (Addr × Obj)) (s:Shared) (σ:St) (H:Hp) (x:V) (v vl vu:Value) (lo hi:Option Int) (sl:Addr) (Q:VK),Inv X pins σ H s->RelV x v->s.heap.IsSliceOf sl vl vu .none->IsPart vl lo->IsPart vu hi->r x lo hi H Q->
  ∃T id,typeLookup (.type T) "__getitem__"=pure (some (.builtin id))/\s.TypeIs v T/\wpAny (model X.prog X.w) X.A (getItem v (.ref sl)) (EP X pins σ Q) X.xe s
def tSl(r:V->Option Int->Option Int->Hp->VK->Prop)(te:TE)(tl th:TO):TE:=fun σ H Q=>te σ H fun x H1=>tl σ H1 fun l H2=>th σ H2 fun u H3=>r x l u H3 Q
theorem pe_slice{r:V->Option Int->Option Int->Hp->VK->Prop}(hr:SlR X r)(he:PE X e te)(hl:PO X lo tl)(hu:PO X hi th):PE X (.Subscript e (.Slice lo hi none p2) pos) (tSl r te tl th):=by
 intro pins s σ H Q I h;refine Subscript_ (thn (he pins s σ H _ I h) fun v s1 zz85=>?_);obtain⟨x,H1,I1,r1,q1⟩:=zz85;refine wpAny_Slice (thn (hl pins s1 σ H1 _ I1 q1) fun vl s2 ⟨l,H2,I2,pl,q2⟩=>thn (hu pins s2 σ H2 _ I2 q2) fun vu s3 zz87=>?_);obtain⟨u,H3,I3,pu,q3⟩:=zz87;rw[evalPart_none];refine wpAny_pure ?_;have I4:Inv X pins σ H3 {s3 with heap:=s3.heap.push {cls:= .type "slice",data:= .fields #[vl,vu, .none]}}:=I3.kept (t':=s3.toks) fun b ob q=>Heap.get?_push_of_some _ q;obtain⟨T,id,hT,ht,hg⟩:=hr pins {s3 with heap:=s3.heap.push {cls:= .type "slice",data:= .fields #[vl,vu, .none]}} σ H3 x v vl vu l u s3.heap.objs.size Q I4 r1 (Heap.IsSliceOf.new ..) pl pu q3;show wpAny (model X.prog X.w) X.A (subscriptTail e (.Slice lo hi none p2) v (.ref s3.heap.objs.size)) (EP X pins σ Q) X.xe {s3 with heap:=s3.heap.push {cls:= .type "slice",data:= .fields #[vl,vu, .none]}};exact tail_any (ops:= [.ref s3.heap.objs.size,v]) ht hT hg (by with_unfolding_all rfl)
noncomputable def cutV(xs:List V)(lo hi:Option Int):List V:=(xs.drop (HT.sIx xs.length 0 lo)).take (HT.sIx xs.length xs.length hi - HT.sIx xs.length 0 lo)
theorem cutV_length(xs:List V)(lo hi:Option Int):(cutV xs lo hi).length<=xs.length:=by
 unfold cutV;rw[List.length_take,List.length_drop];lia
theorem Vals.nil_iff{xs:List V}{us:List Value}(r:Vals xs us):us= []↔xs= []:=by
 cases r with
 | nil=>simp
 | cons _ _=>simp
end
noncomputable def ixN(n:Nat)(i:Int):Option Nat:=if 0<=i then(if i < n then some i.toNat else none) else if -(n:Int)<=i then some (i+n).toNat else none
noncomputable def atI{α:Type}(xs:List α)(i:Int):Option α:=(ixN xs.length i).bind fun j=>xs[j]?
theorem ixN_seq{n:Nat}{i:Int}{j:Nat}(h:ixN n i=some j):seqIndex? i n=some j/\j < n/\ -(n:Int)<=i/\i < n:=by
 unfold ixN at h;by_cases h0:0<=i
 . rw[if_pos h0] at h;by_cases h1:i < n
   . rw[if_pos h1] at h;have e:i.toNat=j:=Option.some.inj h;exact⟨by rw[seqIndex_of h0 h1,e],by lia,by lia,h1⟩
   . rw[if_neg h1] at h;cases h
 . rw[if_neg h0] at h;by_cases h1: -(n:Int)<=i
   . rw[if_pos h1] at h;have e:(i+n).toNat=j:=Option.some.inj h;exact⟨by rw[seqIndex_neg (by lia) h1,e],by lia,h1,by lia⟩
   . rw[if_neg h1] at h;cases h
theorem atI_get{α:Type}{xs:List α}{i:Int}{v:α}(h:atI xs i=some v): ∃j,seqIndex? i xs.length=some j/\xs[j]?=some v/\j < xs.length/\ -(xs.length:Int)<=i/\i < xs.length:=by
 unfold atI at h;cases e:ixN xs.length i with
 | none=>rw[e] at h;cases h
 | some j=>
  rw[e] at h;obtain⟨h1,h2,h3,h4⟩:=ixN_seq e;exact⟨j,h1,h,h2,h3,h4⟩
theorem atI_nat{α:Type}{xs:List α}{j:Nat}{v:α}(h:xs[j]?=some v):atI xs (j:Int)=some v:=by
 have hj:j < xs.length:=(List.getElem?_eq_some_iff.mp h).1;have e:ixN xs.length (j:Int)=some j:=by
  unfold ixN;rw[if_pos (by lia),if_pos (by lia)];simp
 unfold atI;rw[e];exact h
theorem atI_last{α:Type}(xs:List α)(v:α):atI (xs++ [v]) (-1)=some v:=by
 have hl:(xs++ [v]).length=xs.length+1:=by simp
 have e:ixN (xs++ [v]).length (-1)=some xs.length:=by
  unfold ixN;rw[hl,if_neg (by decide),if_pos (by lia)];congr 1
  lia
 unfold atI;rw[e];show(xs++ [v])[xs.length]?=some v;simp
def PlainIx(b:Expr):Prop:= ∀o i,subscripted b false o i=operate [o,i] (getItem o i)
def IxR(X:Cx)(r:R2):Prop:=
 ∀(value slice:Expr) (pins:List (Addr × Obj)) (s:Shared) (σ:St) (H:Hp) (x y:V) (v u:Value) (Q:VK),Inv X pins σ H s->RelV x v->RelV y u->r x y H Q->
  subscripted slice false v u=operate [v,u] (getItem v u)->wpAny (model X.prog X.w) X.A (subscriptTail value slice v u) (EP X pins σ Q) X.xe s
def MtR(X:Cx)(id:String)(r:V->List V->Hp->VK->Prop):Prop:=
 ∀(pins:List (Addr × Obj)) (s:Shared) (σ:St) (H:Hp) (x:V) (xs:List V) (v:Value) (us:List Value) (Q:VK),Inv X pins σ H s->RelV x v->Vals xs us->r x xs H Q->
  wpAny (model X.prog X.w) X.A (call (.builtin id) (v::us)) (EP X pins σ Q) X.xe s
section
variable {X : Cx} {a b : Expr} {ta tb : TE} {pos : Pos}
theorem IxR.or{r r':R2}(h:IxR X r)(h':IxR X r'):IxR X (fun x y H Q=>r x y H Q\/r' x y H Q):=by
 intro value slice pins s σ H x y v u Q I rx ry q hs;rcases q with q | q
 . exact h value slice pins s σ H x y v u Q I rx ry q hs
 . exact h' value slice pins s σ H x y v u Q I rx ry q hs
theorem pe_ix{r:R2}(hr:IxR X r)(ha:PE X a ta)(hb:PE X b tb)(hs:PlainIx b):PE X (.Subscript a b pos) (tOp r ta tb):=by
 intro pins s σ H Q I h;exact Subscript_ (binT ha hb I h fun v u s2 x y H2 I2 rx ry q=>hr a b pins s2 σ H2 x y v u Q I2 rx ry q (hs _ _))
def rIxL(K:PySem.W.Frag):R2:=fun x y H Q=> ∃p xs i v,x= .ref p/\y= .int i/\SqL K H p xs/\atI xs i=some v/\Q v H
def rIxT(K:PySem.W.Frag):R2:=fun x y H Q=> ∃p xs i v,x= .ref p/\y= .int i/\SqT K H p xs/\atI xs i=some v/\Q v H
def rIxS:R2:=fun x y H Q=> ∃z i c,x= .str z/\y= .int i/\z.length<=sizeLine/\atI z.cps.toList i=some c/\Q (.str ⟨#[c]⟩) H
theorem ix_list:IxR X (rIxL X.K):=by
 intro value slice pins s σ H x y v u Q I rx ry h hs;obtain⟨p,xs,i,z,rfl,rfl,hq,he,q⟩:=h;cases rx;obtain⟨t,rfl⟩:=ry;obtain⟨its,r,pl,hz⟩:=I.list hq;obtain⟨j,h1,h2,h3,h4,h5⟩:=atI_get he;obtain⟨w,ew,rw'⟩:=r.get h2;have hl:=r.length;have hn:=line63;have fin:EP X pins σ Q w s:=⟨z,H,I,rw',q⟩
 by_cases h0:0<=i
 . have hj : i.toNat = j := by
     rw[seqIndex_of h0 h5] at h1;exact Option.some.inj h1
   exact item_listR pl.isList h0 (by lia) (by rw[hj];simpa using ew) fin hs
 . have hj : (i + (its.toArray.size : Int)).toNat = j := by
     rw[seqIndex_neg (by lia) h4] at h1;rw[List.size_toArray,<-hl];exact Option.some.inj h1
   exact subscriptTail_builtinR (x:=w) pl.isList.typeIs slot_list_getitem.lookup
    (wpAny_getItem_list_neg (Q:=fun r s'=>r=w/\EP X pins σ Q r s') pl.isList (by lia) (by rw[List.size_toArray] <;> lia) (by lia) (by rw[hj];simpa using ew) ⟨rfl,fin⟩) hs
theorem ix_tup:IxR X (rIxT X.K):=by
 intro value slice pins s σ H x y v u Q I rx ry h hs;obtain⟨p,xs,i,z,rfl,rfl,hq,he,q⟩:=h;cases rx;obtain⟨t,rfl⟩:=ry;obtain⟨its,r,pl,hz⟩:=I.tuple hq;obtain⟨j,h1,h2,h3,h4,h5⟩:=atI_get he;obtain⟨w,ew,rw'⟩:=r.get h2;have hl:=r.length;have hn:=line63;have fin:EP X pins σ Q w s:=⟨z,H,I,rw',q⟩
 exact subscriptTail_builtinR (x:=w) pl.typeIs slot_tuple_getitem.lookup
  (getItem_tuple (j:=j) (Q:=fun r s'=>r=w/\EP X pins σ Q r s') pl (by lia) (by lia) (by rw[List.size_toArray,<-hl];exact h1) (by simpa using ew) ⟨rfl,fin⟩) hs
theorem ix_str:IxR X rIxS:=by
 intro value slice pins s σ H x y v u Q I rx ry h hs;obtain⟨z,i,c,rfl,rfl,hz,he,q⟩:=h;obtain⟨t,rfl⟩:=rx;obtain⟨t',rfl⟩:=ry;obtain⟨j,h1,h2,h3,h4,h5⟩:=atI_get he;have hl:z.cps.toList.length=z.length:=by simp [Str.length]
 rw[hl] at h1 h4 h5;have hn:=line63;exact tail_any (typeIs_str s z t) slot_str_getitem.lookup (getItem_str (c:=c) (by
  have e1:decide (i < -(2^63:Int))=false:=decide_eq_false (by lia);have e2:decide (i>=2^63)=false:=decide_eq_false (by lia);rw[e1,e2,Bool.or_false]) (by rw[h1];simpa using h2) ⟨.str ⟨#[c]⟩,H,I.tok _,⟨_,rfl⟩,q⟩) hs
def rIx(K:PySem.W.Frag):R2:=fun x y H Q=>rIxL K x y H Q\/rIxT K x y H Q\/rIxS x y H Q
theorem ix_seq:IxR X (rIx X.K):=ix_list.or (ix_tup.or ix_str)
theorem mapSeq_set(its:List Value)(n j:Nat)(u:Value):Obj.mapSeq (·.setIfInBounds j u) {cls:= .type "list",data:= .seq its.toArray n}={cls:= .type "list",data:= .seq (its.set j u).toArray n}:=by
 simp [Obj.mapSeq]
theorem Inv.lst{pins:List (Addr × Obj)}{σ:St}{H:Hp}{s:Shared}{p:Addr}{xs:List V}(I:Inv X pins σ H s)(h:H p=some (.lst xs)):
  ∃(its:List Value) (n:Nat),Vals xs its/\s.heap.get? p=some {cls:= .type "list",data:= .seq its.toArray n}/\xs.length<=sizeLine:=by
 obtain⟨z,its,n,r,e⟩:=I.hok p _ h;exact⟨its,n,r,e,z⟩
theorem Inv.lstUpd{pins:List (Addr × Obj)}{σ:St}{H:Hp}{s:Shared}{p:Addr}{xs ys:List V}{its its':List Value}{n n':Nat}{f:Obj->Obj}(I:Inv X pins σ H s)(h:H p=some (.lst xs))
  (ho:s.heap.get? p=some {cls:= .type "list",data:= .seq its.toArray n}) (hf:f {cls:= .type "list",data:= .seq its.toArray n}={cls:= .type "list",data:= .seq its'.toArray n'}) (r:Vals ys its') (hz:ys.length<=sizeLine) (t:Nat):
  Inv X pins σ (upd H p (.lst ys)) {s with heap:=s.heap.update p f,toks:=t}:=by
 have e:(s.heap.update p f).get? p=some {cls:= .type "list",data:= .seq its'.toArray n'}:=by
  rw[Heap.get?_update_self f ho (by rw[hf] <;> rfl),hf]
 refine I.write (x:=p) (e:=p) (by rw[h];trivial) (.inl rfl) (fun b u hb q=>(Heap.get?_update_other _ _ (Ne.symm hb)).trans q) ⟨_,e⟩ ?_;exact⟨hz,its',n',r,e⟩
def rSetL:V->V->V->Hp->(Hp->Prop)->Prop:=fun o i v H Q=> ∃p xs k j,o= .ref p/\i= .int k/\H p=some (.lst xs)/\ixN xs.length k=some j/\Q (upd H p (.lst (xs.set j v)))
theorem set_list:PSet X rSetL:=by
 intro pins s σ H o i v ov iv u Q I ro ri rv h;obtain⟨p,xs,k,j,rfl,rfl,hp,hj,q⟩:=h;cases ro;obtain⟨t,rfl⟩:=ri;obtain⟨its,n,r,ho,hz⟩:=I.lst hp;obtain⟨h1,h2,h3,h4⟩:=ixN_seq hj;have hl:=r.length;have hn:=line63;have I':Inv X pins σ (upd H p (.lst (xs.set j v))) {s with heap:=s.heap.update p (Obj.mapSeq (·.setIfInBounds j u))}:=
  I.lstUpd hp ho (mapSeq_set its n j u) (r.set rv j) (by rw[List.length_set];exact hz) s.toks
 by_cases h0:0<=k
 . have hk : k.toNat = j := by
     rw[seqIndex_of h0 h4] at h1;exact Option.some.inj h1
   exact PySem.W.ki_setAt ho h0 (by lia) (by rw[List.size_toArray,<-hl];exact h4) (by rw[hk];exact⟨_,I',q⟩)
 . have hk : (k + (its.toArray.size : Int)).toNat = j := by
     rw[seqIndex_neg (by lia) h3] at h1;rw[List.size_toArray,<-hl];exact Option.some.inj h1
   exact PySem.W.ki_setBack ho (by lia) (by rw[List.size_toArray,<-hl];exact h3) (by lia) (by rw[hk];exact⟨_,I',q⟩)
theorem slice_bounds(lo hi:Option Int)(n:Nat):(sliceBounds lo hi none n).1=((HT.sIx n 0 lo:Nat):Int)/\(sliceBounds lo hi none n).2.1=((HT.sIx n n hi:Nat):Int)/\(sliceBounds lo hi none n).2.2=1:=by
 refine⟨?_,?_,rfl⟩
 . cases lo with
   | none=>simp [sliceBounds,HT.sIx]
   | some i=>
    simp only [sliceBounds,HT.sIx,Option.getD_none,show(1:Int) > 0 by decide,if_true];by_cases h:i < 0
    . simp only [h,if_true] <;> lia
    . simp only [h,if_false] <;> lia
 . cases hi with
   | none=>simp [sliceBounds,HT.sIx]
   | some i=>
    simp only [sliceBounds,HT.sIx,Option.getD_none,show(1:Int) > 0 by decide,if_true];by_cases h:i < 0
    . simp only [h,if_true] <;> lia
    . simp only [h,if_false] <;> lia
theorem slicePick_cut(its:List Value)(lo hi:Option Int):slicePick its.toArray lo hi none=((its.drop (HT.sIx its.length 0 lo)).take (HT.sIx its.length its.length hi - HT.sIx its.length 0 lo)).toArray:=by
 obtain⟨h1,h2,h3⟩:=slice_bounds lo hi its.toArray.size;unfold slicePick;rw[h1,h2,h3];simp only [sliceRange_one,pick_run,List.size_toArray] <;> rfl
def rSlL(K:PySem.W.Frag):V->Option Int->Option Int->Hp->VK->Prop:=fun x lo hi H Q=> ∃a xs,x= .ref a/\SqL K H a xs/\ ∀p,H p=none->Q (.ref p) (upd H p (.lst (cutV xs lo hi)))
theorem sl_list:SlR X (rSlL X.K):=by
 intro pins s σ H x v vl vu lo hi sl Q I rx hs pl pu h;obtain⟨a,xs,rfl,hx,q⟩:=h;cases rx;obtain⟨its,r,ht,hz⟩:=I.list hx;have hlen:=r.length;refine⟨"list",_,slot_list_getitem.lookup,ht.isList.typeIs,?_⟩;refine wpAny_getItem_list_slice ht.isList hs pl pu .none (by simp) ?_ (by rw[List.size_toArray] <;> lia);rw[slicePick_cut,<-hlen];refine⟨.ref s.heap.objs.size,_,I.laid (t':=s.toks) (o:= .lst (cutV xs lo hi)) (fun b ob q=>Heap.get?_push_of_some _ q) (Nat.le_refl _) ?_,rfl,q _ (I.hok.fresh (Nat.le_refl _))⟩;exact⟨Nat.le_trans (cutV_length xs lo hi) hz,_,0,(r.drop (HT.sIx xs.length 0 lo)).take (HT.sIx xs.length xs.length hi - HT.sIx xs.length 0 lo),Heap.get?_push_size _ rfl⟩
noncomputable def flatV:V->Bool
 | .non=>true
 | .bl _=>true
 | .int _=>true
 | .str _=>true
 | _=>false
noncomputable def eqV:V->V->Bool
 | .non, .non=>true
 | .bl a, .bl b=>a==b
 | .bl a, .int b=>(if a then 1 else 0)==b
 | .int a, .bl b=>a==(if b then 1 else 0)
 | .int a, .int b=>a==b
 | .str a, .str b=>a==b
 | _,_=>false
theorem eqAt_V{A:Around}{s:Shared}{y x:V}{u v:Value}(ry:RelV y u)(rx:RelV x v)(fy:flatV y=true)(fx:flatV x=true):SeqAt.EqAt A s u v (eqV y x):=by
 cases y with
 | non=>
  cases ry;cases x with
  | non=>cases rx;exact SeqAt.EqAt.same _
  | bl b=>cases rx;exact SeqAt.EqAt.none_bool b
  | int b=>obtain⟨t,rfl⟩:=rx;exact SeqAt.EqAt.none_int b t
  | str b=>obtain⟨t,rfl⟩:=rx;exact SeqAt.EqAt.none_str b t
  | _=>exact absurd (show false=true from fx) Bool.false_ne_true
 | bl a=>
  cases ry;cases x with
  | non=>cases rx;exact SeqAt.EqAt.bool_none a
  | bl b=>cases rx;exact SeqAt.EqAt.bool_bool a b
  | int b=>obtain⟨t,rfl⟩:=rx;exact SeqAt.EqAt.bool_int a b t
  | str b=>obtain⟨t,rfl⟩:=rx;exact SeqAt.EqAt.bool_str a b t
  | _=>exact absurd (show false=true from fx) Bool.false_ne_true
 | int a=>
  obtain⟨t',rfl⟩:=ry;cases x with
  | non=>cases rx;exact SeqAt.EqAt.int_none a t'
  | bl b=>cases rx;exact SeqAt.EqAt.int_bool a t' b
  | int b=>obtain⟨t,rfl⟩:=rx;exact SeqAt.EqAt.int_int a t' b t
  | str b=>obtain⟨t,rfl⟩:=rx;exact SeqAt.EqAt.int_str a t' b t
  | _=>exact absurd (show false=true from fx) Bool.false_ne_true
 | str a=>
  obtain⟨t',rfl⟩:=ry;cases x with
  | non=>cases rx;exact SeqAt.EqAt.str_none a t'
  | bl b=>cases rx;exact SeqAt.EqAt.str_bool a t' b
  | int b=>obtain⟨t,rfl⟩:=rx;exact SeqAt.EqAt.str_int a t' b t
  | str b=>obtain⟨t,rfl⟩:=rx;exact SeqAt.EqAt.str_str a t' b t
  | _=>exact absurd (show false=true from fx) Bool.false_ne_true
 | _=>exact absurd (show false=true from fy) Bool.false_ne_true
noncomputable def eqU(x:V)(u:Value):Bool:=match u with
 | .none=>eqV .non x
 | .bool b=>eqV (.bl b) x
 | .int i _=>eqV (.int i) x
 | .str z _=>eqV (.str z) x
 | _=>false
theorem eqU_of{x y:V}{u:Value}(r:RelV y u)(f:flatV y=true):eqU x u=eqV y x:=by
 cases y with
 | non=>cases r;rfl
 | bl b=>cases r;rfl
 | int i=>obtain⟨t,rfl⟩:=r;rfl
 | str z=>obtain⟨t,rfl⟩:=r;rfl
 | _=>exact absurd (show false=true from f) Bool.false_ne_true
theorem any_eqU{x:V}: ∀{xs:List V} {us:List Value},Vals xs us->xs.all flatV=true->us.any (eqU x)=xs.any fun y=>eqV y x
 | _,_, .nil,_=>rfl
 | y::xs,u::us, .cons r t,f=>by
  rw[List.all_cons,Bool.and_eq_true] at f;rw[List.any_cons,List.any_cons,eqU_of r f.1,any_eqU t f.2]
theorem mem_eqAt{A:Around}{s:Shared}{x:V}{v:Value}(rx:RelV x v)(fx:flatV x=true): ∀{xs:List V} {us:List Value},Vals xs us->xs.all flatV=true-> ∀u∈us,SeqAt.EqAt A s u v (eqU x u)
 | _,_, .nil,_=>fun u hu=>by cases hu
 | y::xs,u::us, .cons r t,f=>fun u' hu=>by
  rw[List.all_cons,Bool.and_eq_true] at f;rcases List.mem_cons.mp hu with rfl | hu
  . rw[eqU_of r f.1];exact eqAt_V r rx f.1 fx
  . exact mem_eqAt rx fx t f.2 u' hu
noncomputable def inV(x:V)(xs:List V):Bool:=xs.any fun y=>eqV y x
def rIn(K:PySem.W.Frag)(neg:Bool):R2:=fun x y H Q=> ∃p xs,y= .ref p/\(SqL K H p xs\/SqT K H p xs)/\flatV x=true/\xs.all flatV=true/\Q (.bl (if neg then !inV x xs else inV x xs)) H
theorem op_in_seq:OpR X (compareOp .In) (rIn X.K false):=by
 intro pins s σ H x y v u Q I rx ry h;obtain⟨p,xs,rfl,hq,fx,fs,q⟩:=h;cases ry;rcases hq with hq | hq
 . obtain⟨its,r,pl,hz⟩:=I.list hq;refine SeqAt.in_listAt (eqU x) pl.isList (fun w hw=>mem_eqAt rx fx r fs w (by simpa using hw)) ⟨.bl _,H,I,rfl,?_⟩;rw[show its.toArray.any (eqU x)=its.any (eqU x) by simp,any_eqU r fs];exact q
 . obtain⟨its,r,pl,hz⟩:=I.tuple hq;refine SeqAt.in_tupleAt (eqU x) pl (fun w hw=>mem_eqAt rx fx r fs w (by simpa using hw)) ⟨.bl _,H,I,rfl,?_⟩;rw[show its.toArray.any (eqU x)=its.any (eqU x) by simp,any_eqU r fs];exact q
theorem call_len_seq:CallR X (.builtin "len") (fun xs H Q=> ∃p ys,xs= [.ref p]/\(SqL X.K H p ys\/SqT X.K H p ys)/\Q (.int ys.length) H):=by
 intro pins s σ H xs us Q I r h;obtain⟨p,ys,rfl,hq,q⟩:=h;obtain⟨u,rfl,rx⟩:=vals1 r;cases rx;have hn:=line63;rcases hq with hq | hq
 . obtain⟨its,r',pl,hz⟩:=I.list hq;have hlen:=r'.length;exact Calls.call_len_list pl.isList (by simp only [List.size_toArray] <;> lia) ⟨.int ys.length,H,I.tok _,⟨s.toks+1,by rw[List.size_toArray,hlen]⟩,q⟩
 . obtain⟨its,r',pl,hz⟩:=I.tuple hq;have hlen:=r'.length;exact len_tuple pl (by simp only [List.size_toArray] <;> lia) ⟨.int ys.length,H,I.tok _,⟨s.toks+1,by rw[List.size_toArray,hlen]⟩,q⟩
theorem call_list_of:CallR X (.type "list") (fun xs H Q=> ∃p ys,xs= [.ref p]/\(SqL X.K H p ys\/SqT X.K H p ys)/\ ∀l,H l=none->Q (.ref l) (upd H l (.lst ys))):=by
 intro pins s σ H xs us Q I r h;obtain⟨p,ys,rfl,hq,q⟩:=h;obtain⟨u,rfl,rx⟩:=vals1 r;cases rx;have fin: ∀(its:List Value),Vals ys its->ys.length<=sizeLine-> ∀(h':Heap) (c':Nat),(∀b o',s.heap.get? b=some o'->h'.get? b=some o')->
   h'.get? s.heap.objs.size=some {cls:= .type "list",dict:=none,data:= .seq its.toArray c',slots:= #[]}->EP X pins σ Q (.ref s.heap.objs.size) {s with heap:=h'}:=fun its r' hz h' c' kp e=>
  ⟨.ref s.heap.objs.size,_,I.laid (t':=s.toks) kp (Nat.le_refl _) (show ObjOk X.prog X.w _ h' _ (.lst ys) from⟨hz,its,c',r',e⟩),rfl,q _ (I.hok.fresh (Nat.le_refl _))⟩
 rcases hq with hq | hq
 . obtain⟨its,r',pl,hz⟩:=I.list hq;have hlen:=r'.length;obtain⟨o,ho,hc,n,hd⟩:=pl.isList;exact call_list_seq p (.inl rfl) ho hc hd (fun h' c' kp e=>fin its r' hz h' c' kp e) (by simp only [List.size_toArray] <;> lia)
 . obtain⟨its,r',pl,hz⟩:=I.tuple hq;have hlen:=r'.length;obtain⟨o,ho,hc,n,hd⟩:=pl;exact call_list_seq p (.inr rfl) ho hc hd (fun h' c' kp e=>fin its r' hz h' c' kp e) (by simp only [List.size_toArray] <;> lia)
def tyV(K:PySem.W.Frag)(T:String)(x:V)(H:Hp):Prop:=match x with
 | .str _=>T="str"
 | .int _=>T="int"
 | .ref p=>(T="list"/\ ∃xs,SqL K H p xs)\/(T="tuple"/\ ∃o,K.lookup p=some o/\o.cls= .type "tuple"/\o.dict=none)\/
   (T="dict"/\((∃kvs,H p=some (.dK kvs))\/ ∃kvs,H p=some (.dT kvs)))\/(T="set"/\ ∃S n,H p=some (.set S n))\/(T="tuple"/\ ∃xs,H p=some (.tup xs))
 | _=>False
theorem tyV_is{pins:List (Addr × Obj)}{σ:St}{H:Hp}{s:Shared}{T:String}{x:V}{v:Value}(I:Inv X pins σ H s)(r:RelV x v)(ty:tyV X.K T x H):
  s.TypeIs v T/\ ∀a,v= .ref a-> ∃ob,s.heap.get? a=some ob/\ob.dict=none:=by
 cases x with
 | str z=>
  obtain⟨t,rfl⟩:=r;cases (show T="str" from ty);exact⟨typeIs_str s z t,fun _ e=>nomatch e⟩
 | int i=>
  obtain⟨t,rfl⟩:=r;cases (show T="int" from ty);exact⟨typeIs_int s i t,fun _ e=>nomatch e⟩
 | ref p=>
  cases r;rcases ty with ⟨rfl,xs,hq⟩ | ⟨rfl,o,hk,hc,hd⟩ | ⟨rfl,hk⟩ | ⟨rfl,S,n,hk⟩ | ⟨rfl,xs,hk⟩
  . obtain⟨its,_,pl,_⟩:=I.list hq;refine⟨pl.isList.typeIs,fun a e=>?_⟩;cases e;obtain⟨o,n,e,c,hd,_⟩:=pl;exact⟨o,e,hd⟩
  . refine⟨⟨o,I.kIn p o hk,hc⟩,fun a e=>?_⟩;cases e;exact⟨o,I.kIn _ o hk,hd⟩
  . have z : ∃ o, s.heap.get? p = some o /\ o.ExactDict := by
      rcases hk with ⟨kvs,hk⟩ | ⟨kvs,hk⟩
      . obtain⟨_,_,_,_,o,_,_,e,ex,_⟩:=I.hok p _ hk;exact⟨o,e,ex⟩
      . obtain⟨_,_,_,_,o,_,_,e,ex,_⟩:=I.hok p _ hk;exact⟨o,e,ex⟩
    obtain⟨o,e,ex⟩:=z;refine⟨⟨o,e,ex.1⟩,fun a e2=>?_⟩;cases e2;exact⟨o,e,ex.2.1⟩
  . obtain⟨o,_,_,_,e,ex,_⟩:=I.hok p _ hk;refine⟨⟨o,e,ex.1⟩,fun a e2=>?_⟩;cases e2;exact⟨o,e,ex.2.1⟩
  . obtain⟨_,_,_,o,e,c,dn,_⟩:=(show ObjOk X.prog X.w H s.heap p (.tup xs) from I.hok p _ hk)
    refine⟨⟨o,e,c⟩,fun a e2=>?_⟩;cases e2;exact⟨o,e,dn⟩
 | _=>exact False.elim ty
def tBM0(K:PySem.W.Frag)(T:String)(r:V->List V->Hp->VK->Prop)(to:TE):TE:=fun σ H Q=>to σ H fun x H1=>tyV K T x H1/\r x [] H1 Q
def tBM(K:PySem.W.Frag)(T:String)(r:V->List V->Hp->VK->Prop)(to:TE)(t:TA):TE:=fun σ H Q=>to σ H fun x H1=>tyV K T x H1/\t σ H1 fun xs H2=>r x xs H2 Q
variable {o e : Expr} {es : List Expr} {to : TE} {t : TA} {name : Str} {apos cpos : Pos} {T id : String} {r : V -> List V -> Hp -> VK -> Prop}
theorem pe_bm0(pa:PlainAttrs T)(slot:Slot T name id)(hty:typeOf (.builtin id)=pure (.type "method_descriptor"))(hm:MtR X id r)(ho:PE X o to)
  (hbase:autoParam (attributeBase o name X.env (eval o X.env)=eval o X.env) au5._auto_1) (hline:autoParam ((apos.endLine==cpos.line)=true) au5._auto_1):PE X (.Call (.Attribute o name apos) [] [] cpos) (tBM0 X.K T r to):=by
 intro pins s σ H Q I h;refine wpAny_Call_method0_late hbase hline (thn (ho pins s σ H _ I h) fun v s1 zz88=>?_);obtain⟨x,H1,I1,r1,ty,q1⟩:=zz88;obtain⟨h1,h2⟩:=tyV_is I1 r1 ty;exact⟨T,id,pa,slot,hty,h1,h2,Calls.callWith_builtin rfl (PySem.evalArgs_none (hm pins s1 σ H1 x [] v [] Q I1 r1 .nil q1))⟩
theorem pe_bm(pa:PlainAttrs T)(slot:Slot T name id)(hty:typeOf (.builtin id)=pure (.type "method_descriptor"))(hm:MtR X id r)(ho:PE X o to)(ha:PA X (e::es) t)
  (hbase:autoParam (attributeBase o name X.env (eval o X.env)=eval o X.env) au5._auto_1)
  (hfew:autoParam (((backTo cpos (starEach (e::es) X.env)).all (fun x=>!x.1) && (backToKw cpos (keywordEach [] X.env)).all (fun x=>x.1.isSome)
   && decide ((e::es).length+([]:List Keyword).length+(if ([]:List Keyword).isEmpty then 0 else 1) < 30))=true) au5._auto_1)
  (hline:autoParam ((apos.endLine==cpos.line)=true) au5._auto_1) (hs:autoParam (starEach (e::es) X.env=(false,eval e X.env)::starEach es X.env) au5._auto_1) (hplain:autoParam ((backTo cpos (starEach es X.env)).any (·.1)=false) au5._auto_1):
  PE X (.Call (.Attribute o name apos) (e::es) [] cpos) (tBM X.K T r to t):=by
 intro pins s σ H Q I h;refine wpAny_Call_method_late hbase hfew hline rfl (thn (ho pins s σ H _ I h) fun v s1 zz89=>?_);obtain⟨x,H1,I1,r1,ty,q1⟩:=zz89;obtain⟨h1,h2⟩:=tyV_is I1 r1 ty;refine⟨T,id,pa,slot,hty,h1,h2,?_⟩;have hA:=ha cpos pins s1 σ H1 _ I1 q1;rw[hs] at hA ⊢;refine Calls.callWith_builtin (by show(false || (backTo cpos (starEach es X.env)).any (·.1))=false;rw[hplain] <;> rfl) (Calls.evalArgs_plain ?_);exact thn hA fun us s2 zz90=>(by obtain⟨vs,H2,I2,r2,q2⟩:=zz90;exact(hm pins s2 σ H2 x vs v us Q I2 r1 r2 q2))
end
def MtM(X:Cx)(id:String)(r:V->List V->Hp->VK->Prop):Prop:=
 ∀(pins:List (Addr × Obj)) (s:Shared) (σ:St) (H:Hp) (x:V) (xs:List V) (v:Value) (us:List Value) (Q:VK),Inv X pins σ H s->RelV x v->Vals xs us->r x xs H Q->
  wpAny (model X.prog X.w) X.A (call (.builtin id) (v::us)) (EP X pins σ Q) X.xe s
theorem Vals.one: ∀{x:V} {us:List Value},Vals [x] us-> ∃u,us= [u]/\RelV x u
 | _,_, .cons r .nil=>⟨_,rfl,r⟩
theorem Vals.zero: ∀{us:List Value},Vals [] us->us= []
 | _, .nil=>rfl
theorem Vals.dropLast{xs:List V}{us:List Value}(h:Vals xs us):Vals xs.dropLast us.dropLast:=by
 induction h with
 | nil=>exact .nil
 | cons r t ih=>
  cases t with
  | nil=>exact .nil
  | cons q t'=>exact .cons r ih
theorem Vals.reverse{xs:List V}{us:List Value}(h:Vals xs us):Vals xs.reverse us.reverse:=by
 induction h with
 | nil=>exact .nil
 | cons r t ih=>rw[List.reverse_cons,List.reverse_cons];exact Vals.append ih (.cons r .nil)
theorem Vals.rep{xs:List V}{us:List Value}(h:Vals xs us): ∀k:Nat,Vals (List.replicate k xs).flatten (List.replicate k us).flatten
 | 0=> .nil
 | k+1=>by
  rw[List.replicate_succ,List.replicate_succ,List.flatten_cons,List.flatten_cons];exact Vals.append h (Vals.rep h k)
theorem erase_last{α:Type}(l:List α):l.eraseIdx (l.length - 1)=l.dropLast:=by
 induction l with
 | nil=>rfl
 | cons a r ih=>
  cases r with
  | nil=>rfl
  | cons b r=>
   have e:(a::b::r).length - 1=((b::r).length - 1)+1:=by
    have h1:(a::b::r).length=r.length+2:=rfl;have h2:(b::r).length=r.length+1:=rfl;lia
   rw[e,List.eraseIdx_cons_succ,ih];all_goals rfl
theorem foldl_rep(its:List Value): ∀(k:Nat) (acc:List Value),
  List.foldl (fun x1 x2=>x1++x2) acc.toArray (List.replicate k its.toArray)=(acc++(List.replicate k its).flatten).toArray
 | 0,acc=>by simp
 | k+1,acc=>by
  have e:acc.toArray++its.toArray=(acc++its).toArray:=by simp
  have e2:(acc++its)++(List.replicate k its).flatten=acc++(List.replicate (k+1) its).flatten:=by
   rw[List.replicate_succ,List.flatten_cons,List.append_assoc]
  rw[<-e2,<-foldl_rep its k (acc++its),<-e,List.replicate_succ,List.foldl_cons]
section
variable {X : Cx} {pins : List (Addr × Obj)} {σ : St} {H : Hp} {s : Shared} {l b : Addr} {xs ys zs : List V}
theorem Inv.lset{its its':List Value}{n:Nat}{f:Array Value->Array Value}{t':Nat}(I:Inv X pins σ H s)(hH:H l=some (.lst xs))
  (e:s.heap.get? l=some {cls:= .type "list",data:= .seq its.toArray n}) (hf:f its.toArray=its'.toArray) (hv:Vals ys its') (hz:ys.length<=sizeLine):
  Inv X pins σ (upd H l (.lst ys)) {s with heap:=s.heap.update l (Obj.mapSeq f),toks:=t'}:=by
 have q:=PySem.IsL.update e f;rw[hf] at q;refine I.write (x:=l) (e:=l) (by rw[hH];exact trivial) (.inl rfl) (fun b' u hb hu=>(Heap.get?_update_other s.heap (Obj.mapSeq f) (Ne.symm hb)).trans hu) ⟨_,q⟩ ?_;exact⟨hz,its',_,hv,q⟩
theorem Inv.lnew{its:List Value}{t':Nat}(I:Inv X pins σ H s)(hv:Vals ys its)(hz:ys.length<=sizeLine):
  Inv X pins σ (upd H s.heap.objs.size (.lst ys)) {s with heap:=s.heap.push {cls:= .type "list",data:= .seq its.toArray},toks:=t'}:=
 I.laid (fun _ _ q=>Heap.get?_push_of_some _ q) (Nat.le_refl _) ⟨hz,its,0,hv,Heap.get?_push_size _ rfl⟩
theorem Inv.fresh(I:Inv X pins σ H s):H s.heap.objs.size=none:=I.hok.fresh (Nat.le_refl _)
theorem Inv.lstM(I:Inv X pins σ H s)(hH:H l=some (.lst xs)):xs.length<=sizeLine/\ ∃(its:List Value) (n:Nat),Vals xs its/\xs.length=its.length/\s.heap.get? l=some {cls:= .type "list",data:= .seq its.toArray n}:=by
 obtain⟨z,its,n,r,e⟩:=I.hok l _ hH;exact⟨z,its,n,r,r.length,e⟩
theorem notLongL{n:Nat}(h:n<=sizeLine):Builtin.List.listTooLong n=false:=by
 unfold Builtin.List.listTooLong;exact decide_eq_false (by lia)
end
section
variable {X : Cx}
def rAppend:V->List V->Hp->VK->Prop:=fun x vs H Q=> ∃l xs y,x= .ref l/\vs= [y]/\H l=some (.lst xs)/\xs.length < sizeLine/\Q .non (upd H l (.lst (xs++ [y])))
theorem mt_append:MtM X "list.append" rAppend:=by
 intro pins s σ H x vs v us Q I rx rv h;obtain⟨l,xs,y,rfl,rfl,hH,hz,q⟩:=h;cases rx;obtain⟨u,rfl,ru⟩:=rv.one;obtain⟨z,its,n,r,hl,e⟩:=I.lstM hH;refine call_meets F.slot_list_append ⟨_,e,rfl⟩ F.entry_list_append (F.args_list_append_2 _ _) (PySem.list_append l its.toArray n u (by rw[List.size_toArray];lia)) ⟨e,?_⟩;refine⟨.non,_,I.lset (its':=its++ [u]) hH e (by simp) (r.append (.cons ru .nil)) ?_,rfl,q⟩;rw[List.length_append,List.length_singleton];lia
def rExtend:V->List V->Hp->VK->Prop:=fun x vs H Q=> ∃l b xs zs,x= .ref l/\vs= [.ref b]/\H l=some (.lst xs)/\H b=some (.lst zs)/\xs.length+zs.length<=sizeLine/\Q .non (upd H l (.lst (xs++zs)))
theorem mt_extend:MtM X "list.extend" rExtend:=by
 intro pins s σ H x vs v us Q I rx rv h;obtain⟨l,b,xs,zs,rfl,rfl,hH,hB,hz,q⟩:=h;cases rx;obtain⟨u,rfl,ru⟩:=rv.one;cases ru;obtain⟨z,its,n,r,hl,e⟩:=I.lstM hH;obtain⟨z2,its2,n2,r2,hl2,e2⟩:=I.lstM hB;have hsz:its.toArray.size+its2.toArray.size<=sizeLine:=by rw[List.size_toArray,List.size_toArray];lia
 have hlong: ¬(!its.toArray.isEmpty && Builtin.List.listTooLong (its.toArray.size+its2.toArray.size))=true:=by
  rw[notLongL hsz,Bool.and_false];exact Bool.false_ne_true
 refine call_meets F.slot_list_extend ⟨_,e,rfl⟩ F.entry_list_extend (F.args_list_extend_2 _ _)
  (AutoSeq1.list_extend_list_list_0 l its.toArray n b its2.toArray n2 hlong (by rw[List.size_toArray];lia) (by lia)) ⟨e,e2,?_⟩
 refine⟨.non,_,I.lset (its':=its++its2) hH e (by simp) (r.append r2) ?_,rfl,q⟩;rw[List.length_append];lia
def rPop:V->List V->Hp->VK->Prop:=fun x vs H Q=> ∃l xs y,x= .ref l/\vs= []/\H l=some (.lst xs)/\xs[xs.length - 1]?=some y/\Q y (upd H l (.lst xs.dropLast))
theorem mt_pop:MtM X "list.pop" rPop:=by
 intro pins s σ H x vs v us Q I rx rv h;obtain⟨l,xs,y,rfl,rfl,hH,hy,q⟩:=h;cases rx;have hus:=rv.zero;subst hus;obtain⟨z,its,n,r,hl,e⟩:=I.lstM hH;obtain⟨u,hu,ru⟩:=r.get hy;have hy':its.toArray[its.toArray.size - 1]?=some u:=by
  show its.toArray[its.length - 1]?=some u;rw[<-Array.getElem?_toList,<-hl];exact hu
 refine call_meets F.slot_list_pop ⟨_,e,rfl⟩ F.entry_list_pop (F.args_list_pop_1 _) (MeetsSeq.list_pop_last l its.toArray n u hy' (by rw[List.size_toArray];lia)) ⟨e,?_⟩;refine⟨y,_,I.lset (its':=its.dropLast) hH e ?_ r.dropLast ?_,ru,q⟩
 . show its.toArray.eraseIdxIfInBounds (its.toArray.size - 1)=its.dropLast.toArray;rw[List.size_toArray,List.eraseIdxIfInBounds_toArray,erase_last]
 . rw[List.length_dropLast];lia
def rReverse:V->List V->Hp->VK->Prop:=fun x vs H Q=> ∃l xs,x= .ref l/\vs= []/\H l=some (.lst xs)/\Q .non (upd H l (.lst xs.reverse))
theorem mt_reverse:MtM X "list.reverse" rReverse:=by
 intro pins s σ H x vs v us Q I rx rv h;obtain⟨l,xs,rfl,rfl,hH,q⟩:=h;cases rx;have hus:=rv.zero;subst hus;obtain⟨z,its,n,r,hl,e⟩:=I.lstM hH;refine call_meets F.slot_list_reverse ⟨_,e,rfl⟩ F.entry_list_reverse (F.args_list_reverse_1 _) (AutoSeq1.list_reverse_list_0 l its.toArray n (by rw[List.size_toArray];lia)) ⟨e,?_⟩;refine⟨.non,_,I.lset (its':=its.reverse) hH e (by simp) r.reverse ?_,rfl,q⟩;rw[List.length_reverse];lia
def rCat:R2:=fun x y H Q=> ∃l b xs zs,x= .ref l/\y= .ref b/\H l=some (.lst xs)/\H b=some (.lst zs)/\xs.length+zs.length<=sizeLine/\ ∀p,H p=none->Q (.ref p) (upd H p (.lst (xs++zs)))
theorem op_cat:OpR X (binaryOp .Add) rCat:=by
 intro pins s σ H x y v u Q I rx ry h;obtain⟨l,b,xs,zs,rfl,rfl,hH,hB,hz,q⟩:=h;cases rx;cases ry;obtain⟨z,its,n,r,hl,e⟩:=I.lstM hH;obtain⟨z2,its2,n2,r2,hl2,e2⟩:=I.lstM hB;refine PySem.P.add_list e e2 ?_ (by rw[List.size_toArray,List.size_toArray];lia);have ea:its.toArray++its2.toArray=(its++its2).toArray:=by simp
 rw[ea];exact⟨.ref _,_,I.lnew (t':=s.toks) (r.append r2) (by rw[List.length_append];lia),rfl,q _ I.fresh⟩
def rRep:R2:=fun x y H Q=> ∃l k xs,x= .ref l/\y= .int k/\H l=some (.lst xs)/\ -(2^63)<=k/\k < 2^63/\xs.length*k.toNat<=sizeLine/\
 ∀p,H p=none->Q (.ref p) (upd H p (.lst (List.replicate k.toNat xs).flatten))
theorem len_rep{α:Type}(xs:List α)(k:Nat):(List.replicate k xs).flatten.length=k*xs.length:=by
 induction k with
 | zero=>simp
 | succ k ih=>rw[List.replicate_succ,List.flatten_cons,List.length_append,ih,Nat.succ_mul,Nat.add_comm]
theorem op_rep:OpR X (binaryOp .Mult) rRep:=by
 intro pins s σ H x y v u Q I rx ry h;obtain⟨l,k,xs,rfl,rfl,hH,h1,h2,hz,q⟩:=h;cases rx;obtain⟨t,rfl⟩:=ry;obtain⟨z,its,n,r,hl,e⟩:=I.lstM hH;have hlen:its.toArray.size*k.toNat<=sizeLine:=by rw[List.size_toArray,<-hl];exact hz
 have hcap: ¬its.toArray.size*k.toNat > (2^63 - 1) / 8:=by
  have:(sizeLine:Nat)<=(2^63 - 1) / 8:=by decide
  lia
 have hfit: ¬(!Builtin.List.listFitsIndex k)=true:=by
  rw[fitsIndex_both h1 h2];exact Bool.false_ne_true
 have hlong: ¬Builtin.List.listTooLong (its.toArray.size*k.toNat)=true:=by
  rw[notLongL hlen];exact Bool.false_ne_true
 have hnew:List.foldl (fun x1 x2=>x1++x2) #[] (List.replicate (if its.toArray.isEmpty=true then 0 else k.toNat) its.toArray)=(List.replicate k.toNat its).flatten.toArray:=by
  have f0: ∀m:Nat,List.foldl (fun x1 x2=>x1++x2) #[] (List.replicate m its.toArray)=(List.replicate m its).flatten.toArray:=fun m=>by
   have:=foldl_rep its m [];rw[List.nil_append] at this;exact this
  rw[f0];cases its with
  | nil=>simp
  | cons a r'=>rw[if_neg (by simp)]
 refine wpAny_binaryOp_repeat_ref (T:="list") (U:="int") (by decide) ⟨_,e,rfl⟩ (fun s'=>typeIs_int s' k t) noFill_list_mul F.fills_int_mul F.slot_int_rmul repeat_list F.slot_int_index.lookup
  (call_meets F.slot_int_rmul (typeIs_int s k t) F.entry_int_rmul (F.args_int_rmul_2 _ _) (int___rmul___int_list k t l its.toArray n)
   ⟨e,rfl,⟨_,e,rfl⟩,call_meets F.slot_list_mul ⟨_,e,rfl⟩ F.entry_list_mul (F.args_list_mul_2 _ _) (AutoListH.list___mul___list_int_3 l its.toArray n k t hfit hcap hlong) ⟨e,?_⟩⟩)
 rw[hnew];exact⟨.ref _,_,I.lnew (t':=s.toks) (r.rep k.toNat) (by rw[len_rep,Nat.mul_comm];exact hz),rfl,q _ I.fresh⟩
end
section
variable {κ : Type} [DecidableEq κ]
noncomputable def valV(kvs:List (κ × V))(k:κ):Option V:=(kvs.find? fun kv=>decide (kv.1=k)).map (·.2)
noncomputable def putK(kvs:List (κ × V))(k:κ)(v:V):List (κ × V):=
 if (kvs.any fun kv=>decide (kv.1=k))=true then kvs.map (fun kv=>if kv.1=k then(kv.1,v) else kv) else kvs++ [(k,v)]
theorem valV_pos{p:κ × V}{r:List (κ × V)}{k:κ}(e:p.1=k):valV (p::r) k=some p.2:=by simp [valV,List.find?_cons,e]
theorem valV_neg{p:κ × V}{r:List (κ × V)}{k:κ}(e: ¬p.1=k):valV (p::r) k=valV r k:=by simp [valV,List.find?_cons,e]
theorem valV_any(k:κ): ∀kvs:List (κ × V),(kvs.any fun kv=>decide (kv.1=k))=(valV kvs k).isSome
 | []=>rfl
 | p::r=>by
  rw[List.any_cons];by_cases e:p.1=k
  . simp only [valV_pos e,decide_eq_true e,Bool.true_or,Option.isSome_some]
  . rw[valV_neg e,decide_eq_false e,Bool.false_or];exact valV_any k r
theorem length_putK(kvs:List (κ × V))(k:κ)(v:V):(putK kvs k v).length<=kvs.length+1:=by
 unfold putK;split
 . rw[List.length_map];lia
 . rw[List.length_append,List.length_cons,List.length_nil];lia
theorem RelO.isSome_eq{o:Option V}{u:Option Value}(r:RelO o u):o.isSome=u.isSome:=by
 cases o with
 | none=>cases u with
  | none=>rfl
  | some _=>exact(show False from r).elim
 | some _=>cases u with
  | none=>exact(show False from r).elim
  | some _=>rfl
theorem KV.val{kvs:List (κ × V)}{vs:List (κ × Value)}(r:KV kvs vs)(k:κ):RelO (valV kvs k) (valueAt vs k):=by
 unfold KV at r;induction r with
 | nil=>exact True.intro
 | @cons p q ps qs h t ih=>
  obtain⟨h1,h2⟩:=h;by_cases e:p.1=k
  . have e':q.1=k:=h1.symm.trans e;have b:valueAt (q::qs) k=some q.2:=by simp [valueAt,List.find?_cons,e']
    rw[valV_pos e,b];exact h2
  . have e': ¬q.1=k:=fun z=>e (h1.trans z);have b:valueAt (q::qs) k=valueAt qs k:=by simp [valueAt,List.find?_cons,e']
    rw[valV_neg e,b];exact ih
theorem KV.any{kvs:List (κ × V)}{vs:List (κ × Value)}(r:KV kvs vs)(k:κ):(kvs.any fun kv=>decide (kv.1=k))=vs.any fun kv=>decide (kv.1=k):=by
 unfold KV at r;induction r with
 | nil=>rfl
 | cons h t ih=>rw[List.any_cons,List.any_cons,ih,h.1]
theorem KV.repl{kvs:List (κ × V)}{vs:List (κ × Value)}(r:KV kvs vs)(k:κ){y:V}{u:Value}(ry:RelV y u):
  KV (kvs.map fun kv=>if kv.1=k then(kv.1,y) else kv) (vs.map fun kv=>if kv.1=k then(kv.1,u) else kv):=by
 unfold KV at r ⊢;induction r with
 | nil=>exact .nil
 | @cons p q ps qs h t ih=>
  rw[List.map_cons,List.map_cons];refine .cons ?_ ih;obtain⟨h1,h2⟩:=h;by_cases e:p.1=k
  . rw[if_pos e,if_pos (h1.symm.trans e)];exact⟨h1,ry⟩
  . rw[if_neg e,if_neg (fun z=>e (h1.trans z))];exact⟨h1,h2⟩
theorem KV.put{kvs:List (κ × V)}{vs:List (κ × Value)}(r:KV kvs vs)(k:κ){y:V}{u:Value}(ry:RelV y u):KV (putK kvs k y) (stored vs k u):=by
 unfold putK stored;rw[r.any k];by_cases e:(vs.any fun kv=>decide (kv.1=k))=true
 . rw[if_pos e,if_pos e];exact r.repl k ry
 . rw[if_neg e,if_neg e];exact Paired.snoc r ⟨rfl,ry⟩
theorem KV.length{kvs:List (κ × V)}{vs:List (κ × Value)}(r:KV kvs vs):kvs.length=vs.length:=Paired.length r
end
theorem kV_is{P:Program}{w:World}{k:Key}{u:Value}(r:RelV (kV k) u):(mixKind P w).is k u=true:=by
 cases k with
 | inl i=>obtain⟨t,e⟩:=(show∃t,u=Value.int i t from r);subst e;exact mixKind_int P w i t
 | inr x=>obtain⟨t,e⟩:=(show∃t,u=Value.str x t from r);subst e;exact mixKind_str P w x t
theorem items_are{P:Program}{w:World}: ∀{ks:List Key} {us:List Value},Vals (ks.map kV) us->ItemsAre (mixKind P w) ks us
 | [],_,r=>by rw[List.map_nil] at r;cases r;exact .nil
 | k::ks,_,r=>by
  rw[List.map_cons] at r;cases r with
  | cons h t=>exact .cons (kV_is h) (items_are t)
abbrev KT(H:Hp):List (List Key × V)->List (List Key × Addr × Value)->Prop:=Paired fun p q=>p.1=q.1/\H q.2.1=some (.tup (p.1.map kV))/\RelV p.2 q.2.2
theorem KT.val{H:Hp}{kvs:List (List Key × V)}{xs:List (List Key × Addr × Value)}(r:KT H kvs xs)(k:List Key):RelO (valV kvs k) ((atKey xs k).map (·.2)):=by
 induction r with
 | nil=>exact True.intro
 | @cons p q ps qs h t ih=>
  obtain⟨h1,_,h2⟩:=h;by_cases e:p.1=k
  . have e':q.1=k:=h1.symm.trans e;have b:atKey (q::qs) k=some q.2:=by simp [atKey,List.find?_cons,e']
    rw[valV_pos e,b];exact h2
  . have e': ¬q.1=k:=fun z=>e (h1.trans z);have b:atKey (q::qs) k=atKey qs k:=by simp [atKey,List.find?_cons,e']
    rw[valV_neg e,b];exact ih
theorem KT.repl{H:Hp}{kvs:List (List Key × V)}{xs:List (List Key × Addr × Value)}(r:KT H kvs xs)(k:List Key){y:V}{u:Value}(ry:RelV y u):
  KT H (kvs.map fun kv=>if kv.1=k then(kv.1,y) else kv) (xs.map (putAt k u)):=by
 induction r with
 | nil=>exact .nil
 | @cons p q ps qs h t ih=>
  rw[List.map_cons,List.map_cons];refine .cons ?_ ih;obtain⟨h1,h2,h3⟩:=h;unfold putAt;by_cases e:p.1=k
  . rw[if_pos e,if_pos (h1.symm.trans e)];exact⟨h1,h2,ry⟩
  . rw[if_neg e,if_neg (fun z=>e (h1.trans z))];exact⟨h1,h2,h3⟩
theorem KT.put{H:Hp}{kvs:List (List Key × V)}{xs:List (List Key × Addr × Value)}(r:KT H kvs xs)(k:List Key){b:Addr}{y:V}{u:Value}(hb:H b=some (.tup (k.map kV)))(ry:RelV y u):
  KT H (putK kvs k y) (storedH xs k b u):=by
 have e:(kvs.any fun kv=>decide (kv.1=k))=(atKey xs k).isSome:=by
  rw[valV_any,(r.val k).isSome_eq,Option.isSome_map]
 unfold putK storedH;rw[e];by_cases q:(atKey xs k).isSome=true
 . rw[if_pos q,if_pos q];exact r.repl k ry
 . rw[if_neg q,if_neg q];exact Paired.snoc r ⟨rfl,hb,ry⟩
theorem KT.keeps{H H':Hp}{kvs:List (List Key × V)}{xs:List (List Key × Addr × Value)}(r:KT H kvs xs)(ht: ∀b ys,H b=some (.tup ys)->H' b=some (.tup ys)):KT H' kvs xs:=
 Paired.mapP r fun _ _ z=>⟨z.1,ht _ _ z.2.1,z.2.2⟩
section
variable {P : Program} {w : World} {H : Hp} {h : Heap} {a : Addr}
theorem rd_of{u:HO}(ok:HOk P w H h)(e:Rd H a u):ObjOk P w H h a u:=e.ok ok
theorem dk_rd{kvs:List (Key × V)}(ok:HOk P w H h)(e:Rd H a (.dK kvs)):kvs.length<=sizeLine/\(a==sysModules)=false/\ ∃vs,KV kvs vs/\h.DictOf (mixKind P w) a vs:=
 show ObjOk P w H h a (.dK kvs) from rd_of ok e
theorem dk_of{kvs:List (Key × V)}(ok:HOk P w H h)(e:H a=some (.dK kvs)):kvs.length<=sizeLine/\(a==sysModules)=false/\ ∃vs,KV kvs vs/\h.DictOf (mixKind P w) a vs:=dk_rd ok (.inl e)
theorem key_of{ks:List Key}(ok:HOk P w H h)(e:H a=some (.tup (ks.map kV))):(tupleKind (mixKind P w)).is h ks a:=by
 obtain⟨_,its,r,o,h1,h2,_,n,h3⟩:=(show ObjOk P w H h a (.tup (ks.map kV)) from ok a _ e)
 exact⟨o,its.toArray,n,h1,h2,h3,by simpa using items_are r⟩
theorem dt_rd{kvs:List (List Key × V)}(ok:HOk P w H h)(e:Rd H a (.dT kvs)):kvs.length<=sizeLine/\(a==sysModules)=false/\
  ∃xs,KT H kvs xs/\h.DictOfH (tupleKind (mixKind P w)) a xs:=by
 obtain⟨z,y,xs,r,o,es,ep,h1,h2,h3,h4,h5⟩:=(show ObjOk P w H h a (.dT kvs) from rd_of ok e)
 refine⟨z,y,xs,r,o,es,ep,h1,h2,h3,h4,fun x hx=>?_,h5⟩;have all: ∀{l:List (List Key × V)} {m:List (List Key × Addr × Value)},KT H l m-> ∀x∈m,(tupleKind (mixKind P w)).is h x.1 x.2.1:=by
  intro l m q;induction q with
  | nil=>intro x hx;exact nomatch hx
  | @cons p q ps qs hq t ih=>
   intro x hx;rcases List.mem_cons.mp hx with e | hx
   . subst e;exact key_of ok (by rw[<-hq.1];exact hq.2.1)
   . exact ih x hx
 exact all r x hx
theorem dt_of{kvs:List (List Key × V)}(ok:HOk P w H h)(e:H a=some (.dT kvs)):kvs.length<=sizeLine/\(a==sysModules)=false/\
  ∃xs,KT H kvs xs/\h.DictOfH (tupleKind (mixKind P w)) a xs:=dt_rd ok (.inl e)
end
def DGet(H:Hp)(a:Addr)(y:V)(r:Option V):Prop:=
 (∃kvs k,Rd H a (.dK kvs)/\y=kV k/\r=valV kvs k)\/ ∃kvs k b,Rd H a (.dT kvs)/\y= .ref b/\H b=some (.tup (k.map kV))/\r=valV kvs k
def DPut(H:Hp)(a:Addr)(y v:V)(H':Hp):Prop:=
 (∃kvs k,H a=some (.dK kvs)/\y=kV k/\kvs.length < sizeLine/\H'=upd H a (.dK (putK kvs k v)))\/
 ∃kvs k b,H a=some (.dT kvs)/\y= .ref b/\H b=some (.tup (k.map kV))/\kvs.length < sizeLine/\H'=upd H a (.dT (putK kvs k v))
theorem DGet.k{H:Hp}{a:Addr}{kvs:List (Key × V)}{k:Key}(e:H a=some (.dK kvs)):DGet H a (kV k) (valV kvs k):= .inl ⟨kvs,k, .inl e,rfl,rfl⟩
theorem DPut.k{H:Hp}{a:Addr}{kvs:List (Key × V)}{k:Key}{v:V}(e:H a=some (.dK kvs))(hl:kvs.length < sizeLine):DPut H a (kV k) v (upd H a (.dK (putK kvs k v))):= .inl ⟨kvs,k,e,rfl,hl,rfl⟩
theorem DPut.t{H:Hp}{a b:Addr}{kvs:List (List Key × V)}{k:List Key}{v:V}(e:H a=some (.dT kvs))(eb:H b=some (.tup (k.map kV)))(hl:kvs.length < sizeLine):
  DPut H a (.ref b) v (upd H a (.dT (putK kvs k v))):= .inr ⟨kvs,k,b,e,rfl,eb,hl,rfl⟩
section
variable {X : Cx} {pins : List (Addr × Obj)} {σ : St} {H : Hp} {s : Shared} {a : Addr} {y v : V} {u r : Value} {o : Option V} {A : Around} {E : Value -> Shared -> Prop}
theorem Inv.big(I:Inv X pins σ H s):sysModules < s.heap.objs.size:=by
 have h:mainGlobals < s.heap.objs.size:=(I.mod.glob.keeps I.bk).lt;exact Nat.lt_trans (by decide) h
theorem d_getItem{Q:Value->Shared->Prop}(hu:A.units+1 < cLine)(I:Inv X pins σ H s)(g:DGet H a y (some v))(ry:RelV y u)(h: ∀w' s',Inv X pins σ H s'->RelV v w'->Q w' s'):
  wpAny (model X.prog X.w) A (getItem (.ref a) u) Q E s:=by
 rcases g with ⟨kvs,k,e,ey,l⟩ | ⟨kvs,k,b,e,ey,eb,l⟩
 . subst ey;obtain⟨z,hd,vs,rel,dd⟩:=dk_rd I.hok e;obtain⟨w',hw,rw'⟩:=RelO.some_of (v:=v) (o:=valueAt vs k) (by rw[l];exact rel.val k);exact wpAny_getItem_of (kV_is ry) dd.mapOf hw (h w' _ (I.tok _) rw')
 . subst ey;cases (show u=Value.ref b from ry);obtain⟨z,hd,xs,rel,dd⟩:=dt_rd I.hok e;obtain⟨w',hw,rw'⟩:=RelO.some_of (v:=v) (o:=(atKey xs k).map (·.2)) (by rw[l];exact rel.val k);obtain⟨p,hp,hp2⟩:=Option.map_eq_some_iff.mp hw;refine wpAny_getItem_heap (tupleKind_room_in1 hu) (key_of I.hok eb) dd hp ?_;rw[hp2];exact h w' _ (I.tok _) rw'
theorem d_write{h':Heap}{t':Nat}{ob:HO}(I:Inv X pins σ H s)(mu:Mut (H a))(hs:Heap.SameBut a s.heap h')(he: ∃q,h'.get? a=some q)(new:ObjOk X.prog X.w (upd H a ob) h' a ob):
  Inv X pins σ (upd H a ob) {s with heap:=h',toks:=t'}:=
 I.write (x:=a) (e:=a) mu (.inl rfl) (fun b q hb z=>(hs.2 b hb).trans z) he new
theorem dk_new{P:Program}{w:World}{H':Hp}{h':Heap}{kvs:List (Key × V)}{vs:List (Key × Value)}(z:kvs.length<=sizeLine)(hd:(a==sysModules)=false)(rel:KV kvs vs)(dd:h'.DictOf (mixKind P w) a vs):
  ObjOk P w H' h' a (.dK kvs):=⟨z,hd,vs,rel,dd⟩
theorem d_setItem{H':Hp}{Q:Unit->Shared->Prop}(hu:A.units+1 < cLine)(I:Inv X pins σ H s)(g:DPut H a y v H')(ry:RelV y u)(rv:RelV v r)(h: ∀s',Inv X pins σ H' s'->Q () s'):
  wpAny (model X.prog X.w) A (setItem (.ref a) u r) Q E s:=by
 rcases g with ⟨kvs,k,e,ey,l,eH⟩ | ⟨kvs,k,b,e,ey,eb,l,eH⟩
 . subst ey eH;obtain⟨z,hd,vs,rel,dd⟩:=dk_of I.hok e;have hz:vs.length<=sizeLine:=by rw[<-rel.length];exact z
   have hl:(putK kvs k v).length<=sizeLine:=by have:=length_putK kvs k v;lia
   refine wpAny_setItem_pairs (hsz:=hz) (kV_is ry) dd fun h' dd' hs=>h _ ?_;have he: ∃q,h'.get? a=some q:=let ⟨q,_,_,hq,_⟩:=dd';⟨q,hq⟩;exact d_write I (by rw[e];exact True.intro) hs he (dk_new hl hd (rel.put k rv) dd')
 . subst ey eH;cases (show u=Value.ref b from ry);obtain⟨z,hd,xs,rel,dd⟩:=dt_of I.hok e;have hz:xs.length<=sizeLine:=by rw[<-Paired.length rel];exact z
   have hl:(putK kvs k v).length<=sizeLine:=by have:=length_putK kvs k v;lia
   refine wpAny_setItem_heap (hsz:=hz) (tupleKind_room_in1 hu) (key_of I.hok eb) dd fun h' dd' hs=>h _ ?_;obtain⟨q,es,ep,hq,h2,h3,h4,_,h5⟩:=dd';refine d_write I (by rw[e];exact True.intro) hs ⟨q,hq⟩ ⟨hl,hd,_,(rel.put k eb rv).keeps fun c ys ec=>?_,q,es,ep,hq,h2,h3,h4,h5⟩;rw[upd_ne (ne_of ec e (fun z=>nomatch z))];exact ec
end
def NoSl(i:Expr):Prop:= ∀ov iv,subscripted i false ov iv=operate [ov,iv] (getItem ov iv)
theorem subD_of{prog:Program}{w:World}{A:Around}{E:Value->Shared->Prop}{s:Shared}{env:Env}{value slice:Expr}{pos:Pos}{T id:String}{Q:Value->Shared->Prop}
  (hl:typeLookup (.type T) "__getitem__"=pure (some (.builtin id))) (hs:NoSl slice)
  (h:wpAny (model prog w) A (eval value env) (fun o s₁=>wpAny (model prog w) A (eval slice env) (fun i s₂=>s₂.TypeIs o T/\wpAny (model prog w) A (getItem o i) Q E s₂) E s₁) E s):
  wpAny (model prog w) A (eval (.Subscript value slice pos) env) Q E s:=by
 refine Subscript_ (wpAny_mono h (fun o s₁ h₁=>wpAny_mono h₁ (fun i s₂ h₂=>?_) fun _ _ x=>x) fun _ _ x=>x);obtain⟨hT,h₂⟩:=h₂;unfold subscriptTail;refine wpAny_bind ?_;rw[getitemInPython_of_ne hT.not_modules];refine wpAny_bind (wpAny_specialOf hT hl ?_);have fin:wpAny (model prog w) A (subscripted slice false o i) (fun r s₃=>wpAny (model prog w) A (letTemporaryGo value o r >>=fun _=>pure r) Q E s₃) E s₂:=by
  rw[hs o i];exact wpAny_operating (wpAny_mono h₂ (fun r s₃ h₃=>wpAny_bind (wpAny_letTemporaryGo (wpAny_pure h₃))) fun _ _ x=>x)
 first
  | exact wpAny_pure (wpAny_bind fin)
  | exact wpAny_bind (wpAny_pure (wpAny_bind fin))
  | exact wpAny_bind fin
theorem dict_typeIs{X:Cx}{pins:List (Addr × Obj)}{σ:St}{H:Hp}{s:Shared}{a:Addr}{y:V}{o:Option V}(I:Inv X pins σ H s)(g:DGet H a y o):s.TypeIs (.ref a) "dict":=by
 rcases g with ⟨kvs,k,e,_,_⟩ | ⟨kvs,k,b,e,_,_,_⟩
 . obtain⟨_,_,vs,_,dd⟩:=dk_rd I.hok e;exact dd.typeIs
 . obtain⟨_,_,xs,_,dd⟩:=dt_rd I.hok e;exact dd.typeIs
def tDGet(td ty:TE):TE:=fun σ H Q=>td σ H fun x H1=>ty σ H1 fun y H2=> ∃a v,x= .ref a/\DGet H2 a y (some v)/\Q v H2
def sDPut(td ty tv:TE):TS:=fun D σ H=>tv σ H fun v H1=>td σ H1 fun x H2=>ty σ H2 fun y H3=> ∃a H4,x= .ref a/\DPut H3 a y v H4/\D.nx σ H4
section
variable {X : Cx} {o i e value : Expr} {pos pos' tpos : Pos} {td ty tv : TE}
theorem pe_dget(hu:X.A.units+1 < cLine)(ho:PE X o td)(hi:PE X i ty)(hs:NoSl i):PE X (.Subscript o i pos) (tDGet td ty):=by
 intro pins s σ H Q I h;refine subD_of PySem.F.slot_dict_getitem.lookup hs (thn (ho pins s σ H _ I h) fun u s1 ⟨x,H1,I1,rx,q1⟩=>thn (hi pins s1 σ H1 _ I1 q1) fun iv s2 zz92=>?_);obtain⟨y,H2,I2,ry,a,v,ex,g,q2⟩:=zz92;subst ex;obtain rfl:u=Value.ref a:=rx;exact⟨dict_typeIs I2 g,d_getItem hu I2 g ry fun w' s3 I3 rw'=>⟨v,H2,I3,rw',q2⟩⟩
theorem ps_dput(hu:X.A.units+1 < cLine)(ho:PE X o td)(hi:PE X i ty)(hv:PE X value tv)(hs:swapsWith value (some (.Subscript o i pos')) pos.line X.env=pure false):
  PS X (.Assign [.Subscript o i pos'] value pos) (sDPut td ty tv):=by
 intro pins s σ H D I h;refine wpAny_Assign_Subscript (thn (hv pins s σ H _ I h) fun r s1 ⟨v,H1,I1,rv,q1⟩=>thn (ho pins s1 σ H1 _ I1 q1) fun u s2 ⟨x,H2,I2,rx,q2⟩=>thn (hi pins s2 σ H2 _ I2 q2) fun iv s3 zz99=>?_) hs;obtain⟨y,H3,I3,ry,a,H4,ex,g,q3⟩:=zz99;subst ex;obtain rfl:u=Value.ref a:=rx;exact d_setItem hu I3 g ry rv fun s4 I4=>⟨σ,H4,I4,q3⟩
end
theorem dk_empty{P:Program}{w:World}{H:Hp}(h:Heap)(hb:sysModules < h.objs.size):ObjOk P w H (h.push {cls:= .type "dict",data:= .dict #[]}) h.objs.size (.dK []):=
 ⟨Nat.zero_le _,beq_eq_false_iff_ne.mpr (Ne.symm (Nat.ne_of_lt hb)),[], .nil,Heap.DictOf.new h⟩
theorem dt_empty{P:Program}{w:World}{H:Hp}(h:Heap)(hb:sysModules < h.objs.size):ObjOk P w H (h.push {cls:= .type "dict",data:= .dict #[]}) h.objs.size (.dT []):=
 ⟨Nat.zero_le _,beq_eq_false_iff_ne.mpr (Ne.symm (Nat.ne_of_lt hb)),[], .nil,_,#[],0,Heap.get?_push_size _ rfl,⟨rfl,rfl,rfl⟩,rfl,rfl,List.nodup_nil⟩
def tDNewT:TE:=fun _ H Q=> ∀p,H p=none->Q (.ref p) (upd H p (.dT []))
section
variable {X : Cx} {pos : Pos}
theorem pe_dnewT:PE X (.Dict [] [] pos) tDNewT:=fun pins s σ H Q I h=>
 wpAny_Dict_empty ⟨.ref s.heap.objs.size,_,I.laid (a:=s.heap.objs.size) (o:= .dT []) (t':=s.toks) (fun _ _ q=>Heap.get?_push_of_some _ q) (Nat.le_refl _) (dt_empty s.heap I.big),rfl,h _ (I.hok.fresh (Nat.le_refl _))⟩
end
def tPairs:List (TE × TE)->St->Hp->(List (V × V)->Hp->Prop)->Prop
 | [],_,H,Q=>Q [] H
 | (tk,tv)::r,σ,H,Q=>tk σ H fun x H1=>tv σ H1 fun y H2=>tPairs r σ H2 fun ps H3=>Q ((x,y)::ps) H3
abbrev VV:List (V × V)->List (Value × Value)->Prop:=Paired fun p q=>RelV p.1 q.1/\RelV p.2 q.2
def PPs(X:Cx)(pos:Pos)(keys:List (Option Expr))(values:List Expr)(trs:List (TE × TE)):Prop:=
 ∀(pins:List (Addr × Obj)) (s:Shared) (σ:St) (H:Hp) (Q:List (V × V)->Hp->Prop),Inv X pins σ H s->tPairs trs σ H Q->
  wpAny (model X.prog X.w) X.A (evalPairs (pairTrees keys values X.env pos)) (fun vs s'=> ∃ps H',Inv X pins σ H' s'/\VV ps vs/\Q ps H') X.xe s
theorem pps_nil{X:Cx}{pos:Pos}:PPs X pos [] [] []:=fun pins s σ H Q I h=>pairTrees_nil_walk ⟨[],H,I, .nil,h⟩
theorem pps_cons{X:Cx}{pos:Pos}{k v:Expr}{ks:List (Option Expr)}{vs:List Expr}{tk tv:TE}{trs:List (TE × TE)}(hk:PE X k tk)(hv:PE X v tv)(hr:PPs X pos ks vs trs):
  PPs X pos (some k::ks) (v::vs) ((tk,tv)::trs):=fun pins s σ H Q I h=>
 pairTrees_cons_walk (thn (hk pins s σ H _ I h) fun u s1 zz106=>(by obtain⟨x,H1,I1,rx,q1⟩:=zz106;exact(thn (hv pins s1 σ H1 _ I1 q1) fun w2 s2 zz107=>(by obtain⟨y,H2,I2,ry,q2⟩:=zz107;exact(
  thn (hr pins s2 σ H2 _ I2 q2) fun ws s3 zz108=>(by obtain⟨ps,H3,I3,rel,q3⟩:=zz108;exact(⟨(x,y)::ps,H3,I3, .cons ⟨rx,ry⟩ rel,q3⟩)))))))
noncomputable def mergeK(kvs more:List (Key × V)):List (Key × V):=more.foldl (fun acc kv=>putK acc kv.1 kv.2) kvs
theorem KV.merge: ∀{more:List (Key × V)} {rs:List (Key × Value)} {kvs:List (Key × V)} {vs:List (Key × Value)},KV more rs->KV kvs vs->KV (mergeK kvs more) (merged vs rs):=by
 intro more rs kvs vs r;unfold KV at r;induction r generalizing kvs vs with
 | nil=>intro q;exact q
 | @cons p q ps qs h t ih=>
  intro r0;have e:KV (putK kvs p.1 p.2) (stored vs q.1 q.2):=by
   have:=r0.put p.1 h.2;rw[<-h.1];exact this
  exact ih e
theorem length_mergeK: ∀(more kvs:List (Key × V)),(mergeK kvs more).length<=kvs.length+more.length
 | [],kvs=>by show kvs.length<=kvs.length+0;lia
 | p::r,kvs=>by
  have h1:=length_mergeK r (putK kvs p.1 p.2);have h2:=length_putK kvs p.1 p.2;show(mergeK (putK kvs p.1 p.2) r).length<=_;rw[List.length_cons];lia
theorem carries_of{P:Program}{w:World}: ∀{kvs:List (Key × V)} {ws:List (Value × Value)},VV (kvs.map fun kv=>(kV kv.1,kv.2)) ws-> ∃rs,Carries (mixKind P w) ws rs/\KV kvs rs
 | [],_,r=>by rw[List.map_nil] at r;cases r;exact⟨[],True.intro, .nil⟩
 | p::kvs,_,r=>by
  rw[List.map_cons] at r;cases r with
  | @cons a b as bs h t=>
   obtain⟨rs,c,q⟩:=carries_of (P:=P) (w:=w) t;obtain⟨b1,b2⟩:=b;exact⟨(p.1,b2)::rs,⟨kV_is h.1,rfl,c⟩, .cons ⟨rfl,h.2⟩ q⟩
def tDisp(trs:List (TE × TE)):TE:=fun σ H Q=> ∀p,H p=none->tPairs trs σ (upd H p (.dK [])) fun ps H2=>H2 p=some (.dK [])/\ ∃kvs:List (Key × V),ps=kvs.map (fun kv=>(kV kv.1,kv.2))/\kvs.length<=15/\Q (.ref p) (upd H2 p (.dK (mergeK [] kvs)))
theorem pe_disp{X:Cx}{pos:Pos}{keys:List (Option Expr)}{values:List Expr}{trs:List (TE × TE)}(h:PPs X pos keys values trs)(hall:keys.all (·.isSome)=true)(hl:keys.length=values.length)(h0:keys≠ [])
  (h15:keys.length<=15):PE X (.Dict keys values pos) (tDisp trs):=by
 intro pins s σ H Q I q;have hn:=I.hok.fresh (Nat.le_refl s.heap.objs.size);have I1:=I.laid (a:=s.heap.objs.size) (o:= .dK []) (h':=s.heap.push {cls:= .type "dict",data:= .dict #[]}) (t':=s.toks) (fun _ _ q=>Heap.get?_push_of_some _ q) (Nat.le_refl _) (dk_empty s.heap I.big);refine wpAny_Dict_walk (knd:=mixKind X.prog X.w) hall hl h0 h15 (thn (h pins _ σ _ _ I1 (q _ hn)) fun ws s2 zz109=>?_);obtain⟨ps,H2,I2,rel,e,kvs,ep,lk,q2⟩:=zz109;subst ep;obtain⟨rs,c,rk⟩:=carries_of (P:=X.prog) (w:=X.w) rel;obtain⟨z,hd,vs0,r0,dd⟩:=dk_of I2.hok e;cases r0;refine⟨rs,c,dd,fun h' dd' hs=>⟨.ref s.heap.objs.size,_,?_,rfl,q2⟩⟩;have hz:(mergeK [] kvs).length<=sizeLine:=by
  have h1:=length_mergeK kvs [];rw[List.length_nil] at h1;rw[sizeLine_eq];lia
 have he: ∃q,h'.get? s.heap.objs.size=some q:=let ⟨q,_,_,hq,_⟩:=dd';⟨q,hq⟩;exact d_write I2 (by rw[e];exact True.intro) hs he (dk_new hz hd (rk.merge .nil) dd')
end L2
namespace Att
open PySem PySem.W PySem.Calls PyProof.Rows
theorem ints_of_wellAll{P:Params}{h:Heap}: ∀(ns:List Int) (vs:List Value),WellAll P h vs (ns.map WData.int)->IntsAre vs ns:=by
 intro ns;induction ns with
 | nil=>
  intro vs w;rw[List.map_nil] at w;cases w;exact .nil
 | cons n ns ih=>
  intro vs w;rw[List.map_cons] at w;cases w with
  | cons a b=>
   cases a;exact .cons _ _ (ih _ b)
theorem script_of{l:OpenLaw}{n:Nat}(hn:l.most=some n){P:Params}{h:Heap}{args:List WData}{vals:List Value}
  (hpre:l.row.toRowW.claim.pre args=true) (hwl:WellAll P h vals args):
  ∃a vs ns,vals= [Value.ref a]/\args= [WData.list (ns.map WData.int)]/\h.get? a=some {cls:= .type "list",data:= .seq vs.toArray}/\IntsAre vs ns/\ns.length<=n:=by
 have hsh:WShape.hasAll [] args [.list .int]=true:=(pre_splitW hpre).1;have hc:l.pre.holds [] {args:=args}=true:=(pre_splitW hpre).2;obtain⟨d,r,rfl,h1,h2⟩:=hasAllW_cons hsh;obtain rfl:=hasAllW_nil h2;obtain⟨xs,rfl,h3⟩:=hasW_list h1;obtain⟨ns,rfl⟩:=items_int h3;have hlen:ns.length<=n:=by
  unfold OpenLaw.pre at hc;have h4:(WTm.not (.lt (.lit (.int (n:Int))) (.len (.arg 0)))).holds [] {args:= [.list (ns.map .int)]}=true:=by
   have h4:=(holds_andW hc).1;rw[hn] at h4;exact h4
  have h5:=condW_of h4 (w_not (w_lt w_lit (w_len_list (w_arg rfl))));rw[List.length_map] at h5;refine Nat.le_of_not_lt fun q=>?_;have q':(n:Int) < ((ns.length:Nat):Int):=by lia
  first
   | (rw[decide_eq_true q'] at h5;exact absurd h5 (by decide))
   | (simp at h5;lia)
 cases hwl with
 | cons w1 w2=>
  cases w2;cases w1 with
  | list ho hall=>exact⟨_,_,ns,rfl,rfl,ho,ints_of_wellAll ns _ hall,hlen⟩
theorem post_true(l:OpenLaw)(args:List WData):l.row.toRowW.claim.post args (.bool true) args=true:=
 postW_of (r:=l.row.toRowW) (X:=(true==true))
  (show WShape.has [] (.bool true) .bool=true by first | rfl | decide | simp [WShape.has,WShape.arms,WShape.armsAll])
  (show(WTm.eq .res (.lit (.bool true))).value [] {args:=args,res:=some (.bool true),after:=args}=some (.bool (true==true)) from w_eq_bool (w_res rfl) w_lit) rfl
theorem attach_call{l:OpenLaw}{n:Nat}{q:Program}{loose:List Str}{XP:(Str->Option Value)->Heap->Prop}{YP:World->Heap->Prop}{d:DefRec}
  (hn:l.most=some n) (hdf:d.params.defaults= [])
  (call: ∀(w:World) (s₀ s₁:Shared) (mg mb:Str->Option Value) (fa:Addr) (o:Obj) (pm cd doc:Value) (a:Addr) (vs:List Value) (ns:List Int),
   Ground q loose [] XP w s₀ mg mb s₁.heap->YP w s₁.heap->
   s₁.heap.get? fa=some o->o.data= .func (docDef d.name d.params d.body d.scope pm cd doc)->s₁.heap.CodeRec cd d.name->mg d.name=some (.ref fa)->
   s₁.heap.get? a=some {cls:= .type "list",data:= .seq vs.toArray}->IntsAre vs ns->ns.length<=n->s₁.gens= #[]->
   codeAny (model l.prog w) callerA (.call (.ref fa) ⟨[.ref a],[]⟩) (fun r s'=>r= .ok (.ret (.bool true))/\OldK s₁.heap s'.heap/\s'.os=s₁.os/\AllBare s'.gens) s₁):
  WalkO q loose XP YP l.row.toRowW d [] (fun f vs=>PySem.call f vs):=by
 intro w s₀ s₁ mg mb G Y fa o pm cd doc dV kV ho hd hcd hD hmg hg args vals as hpre hlay hrd hwl hlo;obtain rfl:dV= .none:=Dflts.none hD hdf;obtain rfl:kV= .none:=Dflts.noKw hD;obtain⟨a,vs,ns,rfl,rfl,hobj,hints,hlen⟩:=script_of hn hpre hwl;refine enter_call (codeAny_mono (call w s₀ s₁ mg mb fa o pm cd doc a vs ns G Y ho (fd_plain hd) hcd hmg hobj hints hlen hg) fun r s' hq=>?_);obtain⟨rfl,h2,h3,h4⟩:=hq;exact⟨.inl ⟨.bool true, .bool true,[],rfl,fun _=>rfl, .bool true,post_true l _,fun _=>⟨List.Pairwise.nil,fun _ hm=>(nomatch hm)⟩⟩,h2,h3,h4⟩
end Att
namespace L2
open PySem PySem.Spec PyProof.Rows
theorem vals_ints: ∀{vs:List Value} {ns:List Int},IntsAre vs ns->Vals (ns.map V.int) vs
 | _,_, .nil=> .nil
 | _,_, .cons n t h=> .cons ⟨t,rfl⟩ (vals_ints h)
def Only(H:Hp):Prop:= ∀b,H b=none\/ ∃o xs,H b=some (.frz o (.lst xs))
theorem law_call{P:Program}{w:World}{K:PySem.W.Frag}{mg mb:Str->Option Value}{CX:CXT}{k:Nat}{fa a:Addr}{fd:FuncData}{x:Str}{sp:Sp}{s₁:Shared}{vs:List Value}{ns:List Int}
  (KX:K.In s₁.heap) (hns:s₁.heap.Ns mainGlobals mg) (hb:s₁.heap.Ns builtinsNs mb) (hbb: ∀x:Str,x≠"__name__"->mb x=bootBuiltins x) (hlim:s₁.heap.NoLimit) (hg:s₁.gens= #[])
  (ha:s₁.heap.get? a=some {cls:= .type "list",data:= .seq vs.toArray}) (hi:IntsAre vs ns) (hl:ns.length<=sizeLine) (hr:Room k callerA)
  (F: ∀base:Heap,K.In base->base.Ns mainGlobals mg->FnOk P w K mg base CX k fa fd [x] sp) (hbind: ∀(s:Shared) (u:Value),BindsTo s fd ⟨[u],[]⟩ [(x,u)])
  (hsp: ∀H:Hp,Only H->SqL K H a (ns.map V.int)->sp [.ref a] H (fun v _=>v= .bl true) fun _ _ _=>False)
  (hCX: ∀H e s',CX [] H s₁ (fun _ _ _=>False) e s'->False):
  codeAny (model P w) callerA (.call (.ref fa) ⟨[.ref a],[]⟩) (fun r s'=>r= .ok (.ret (.bool true))/\OldK s₁.heap s'.heap/\s'.os=s₁.os/\AllBare s'.gens) s₁:=by
 have rv:=vals_ints hi;have lenV:=hi.length;have core: ∀H:Hp,Only H->SqL K H a (ns.map V.int)->HOk P w H s₁.heap->(∀b,H b≠none->b=a)->(H a≠none->K.lookup a=none)->
   codeAny (model P w) callerA (.call (.ref fa) ⟨[.ref a],[]⟩) (fun r s'=>r= .ok (.ret (.bool true))/\OldK s₁.heap s'.heap/\s'.os=s₁.os/\AllBare s'.gens) s₁:=by
  intro H hO hS hok hA hK;have base_of: ∀{b:Addr} {o:Obj},s₁.heap.get? b=some o->H b=none->(hidT s₁.heap H).get? b=some o:=fun e n=>hidT_get e n;have noA: ∀{b:Addr} {o:Obj} {es:Array DictEntry} {ep:Nat},s₁.heap.get? b=some o->o.data= .dict es ep->H b=none:=fun{b o es ep} e d=>by
   cases q:H b with
   | none=>rfl
   | some u=>
    have e':b=a:=hA b (by rw[q];simp);subst e';rw[ha] at e;cases e;have d':Data.seq vs.toArray _=Data.dict es ep:=d;cases d'
  have nsK: ∀{b:Addr} {m:Str->Option Value},s₁.heap.Ns b m->(hidT s₁.heap H).Ns b m:=fun{b m} zz122=>(by obtain⟨o,es,ep,e,d,r⟩:=zz122;exact(⟨o,es,ep,base_of e (noA e d),d,r⟩))
  have hKb:K.In (hidT s₁.heap H):=fun b o e=>base_of (KX b o e) (by
   cases q:H b with
   | none=>rfl
   | some u=>
    have e':b=a:=hA b (by rw[q];simp);subst e';rw[hK (by rw[q];simp)] at e;cases e)
  have hM:Mod K mg (hidT s₁.heap H):=⟨hKb,nsK hns,⟨mb,nsK hb,hbb⟩,let ⟨mc,h1,h2⟩:=hlim;⟨mc,nsK h1,h2⟩⟩
  have e0:Env0 P w K mg (hidT s₁.heap H) callerA [] s₁ H:=⟨rfl,hM,fun b o e=>of_hidT e,Nat.le_of_eq (hidT_size _ _),trivial,fun b hb=>absurd (show b∈([]:List Addr) from hb) (by simp),hok, .of_eq hg⟩
  refine codeAny_mono ((F _ hKb (nsK hns)).run callerA [] s₁ H ⟨[.ref a],[]⟩ [.ref a] [.ref a] _ _ hr e0 (hbind s₁ (.ref a)) (.cons rfl .nil) (hsp H hO hS)) fun r s' h=>?_;cases r with
  | error e=>exact(hCX H e s' h).elim
  | ok fl=>
   cases fl with
   | next=>exact False.elim h
   | brk=>exact False.elim h
   | cont=>exact False.elim h
   | ret u=>
    obtain⟨v,H',os,bare,un,hok',r',q⟩:=h;have q':v= .bl true:=q;subst q';obtain rfl:u=Value.bool true:=r';refine⟨rfl,OldK.of_keep fun b o e=>?_,os,bare⟩;cases q:H b with
    | none=>exact un.keep b o e q (by intro z;exact absurd (show b∈([]:List Addr) from z) (by simp)) (by simp)
    | some u=>
     rcases hO b with z | ⟨ob,xs,z⟩
     . rw[q] at z;cases z
     . have z2:=un.frzs b ob _ z;obtain⟨e1,_⟩:=hok b _ z;obtain⟨e2,_⟩:=hok' b _ z2;rw[e] at e1;cases e1;exact e2
 cases hk:K.lookup a with
 | some o=>
  have e:=KX a o hk;rw[ha] at e;cases e;refine core (fun _=>none) (fun _=> .inl rfl) (.inr ⟨_,vs.toArray,_,hk,rfl,rfl,rfl,by rw[List.size_toArray,lenV];exact hl,by simpa using rv⟩) (fun b u z=>by have z':(none:Option HO)=some u:=z;cases z') (fun b z=>absurd rfl z) fun z=>absurd rfl z
 | none=>
  refine core (fun b=>if b=a then some (.frz {cls:= .type "list",data:= .seq vs.toArray} (.lst (ns.map V.int))) else none) (fun b=>?_) (.inl (.inr ⟨{cls:= .type "list",data:= .seq vs.toArray},if_pos rfl⟩)) (fun b u z=>?_) (fun b z=>?_) fun _=>hk
  . by_cases hb:b=a
    . exact .inr ⟨_,_,if_pos hb⟩
    . exact .inl (if_neg hb)
  . by_cases hb:b=a
    . have z':=(if_pos hb).symm.trans z;cases z';subst hb;exact⟨ha,by rw[List.length_map];exact hl,vs,_,rv,ha⟩
    . have z':=(if_neg hb).symm.trans z;cases z'
  . by_cases hb:b=a
    . exact hb
    . exact absurd (if_neg hb) z
theorem walk_of{l:PySem.W.OpenLaw}{n k:Nat}{q:Program}{loose:List Str}{XP:(Str->Option Value)->Heap->Prop}{YP:World->Heap->Prop}{d:DefRec}{K:Params->PySem.W.Frag}{CX:World->CXT}{sp:World->Sp}{x:Str}
  (hn:l.most=some n) (hn2:n<=sizeLine) (hdf:d.params.defaults= []) (hr:Room k callerA)
  (hY: ∀(w:World) (h:Heap),YP w h->(K w.params).In h)
  (F: ∀(w:World) (mg:Str->Option Value) (fa:Addr) (h:Heap),(K w.params).In h->h.Ns mainGlobals mg->mg d.name=some (.ref fa)->
   ∃fd:FuncData,(∀(s:Shared) (u:Value),BindsTo s fd ⟨[u],[]⟩ [(x,u)])/\
    ∀base:Heap,(K w.params).In base->base.Ns mainGlobals mg->FnOk l.prog w (K w.params) mg base (CX w) k fa fd [x] (sp w))
  (hsp: ∀(w:World) (H:Hp) (a:Addr) (ns:List Int),ns.length<=n->Only H->SqL (K w.params) H a (ns.map V.int)->sp w [.ref a] H (fun v _=>v= .bl true) fun _ _ _=>False)
  (hCX: ∀(w:World) (H:Hp) (s:Shared) (e:Value) (s':Shared),CX w [] H s (fun _ _ _=>False) e s'->False):
  PySem.W.WalkO q loose XP YP l.row.toRowW d [] (fun f vs=>PySem.call f vs):=by
 refine Att.attach_call hn hdf fun w s₀ s₁ mg mb fa o pm cd doc a vs ns G Y ho hd hcd hmg hobj hints hlen hg=>?_;have KX:=hY w _ Y;obtain⟨fd,hb,hF⟩:=F w mg fa _ KX G.T.g hmg;exact law_call KX G.T.g G.T.b G.T.builtins G.T.nolimit hg hobj hints (Nat.le_trans hlen hn2) hr hF hb (fun H hO hS=>hsp w H a ns hlen hO hS) fun H e s'=>hCX w H s₁ e s'
noncomputable def defArgs(s:Stmt):Arguments:=match s with
 | .FunctionDef _ a _ _ _ _ _ _ _ _=>a
 | _=>{posonlyargs:= [],args:= [],vararg:=none,kwonlyargs:= [],kw_defaults:= [],kwarg:=none,defaults:= []}
noncomputable def defBody(s:Stmt):List Stmt:=match s with
 | .FunctionDef _ _ b _ _ _ _ _ _ _=>b
 | _=> []
noncomputable def defScope(s:Stmt):Scope:=match s with
 | .FunctionDef _ _ _ _ _ _ sc _ _ _=>sc
 | _=>{kind:= .function,names:= [],isGenerator:=false,isCoroutine:=false}
abbrev CX0:CXT:=fun _ _ _ _ _ _=>False
abbrev E0:XK:=fun _ _ _=>False
theorem pass0{X:Cx}:Passes CX0 X E0:=fun _ _ _ _ _ _ _ h=>h.elim
structure Fun(K:PySem.W.Frag)(x qual:Str)(st:Stmt)(f:Addr)(fd:FuncData):Prop where
 ex: ∃(oc:Value) (od:Option Addr) (kV doc pm:Value) (an:Option Addr) (cdv ct:Value) (osl:Array (Option Value)),
  fd=PySem.W.fnOf x qual (defArgs st) (defBody st) (defScope st) .none kV doc pm an cdv ct/\K.lookup f=some ⟨oc,od, .func fd,osl⟩/\PySem.W.codeIn K cdv qual=true
 kp:PySem.W.keepIn K (.ref f)=true
section
variable {P : Program} {w : World} {K : PySem.W.Frag} {mg : Str -> Option Value} {base : Heap}
theorem Fun.ok{x qual:Str}{st:Stmt}{f:Addr}{fd:FuncData}{N ps:List Str}{k:Nat}{sp:Sp}(F:Fun K x qual st f fd)(S:FnScope N ps (defScope st))(len: ∀vs H Q E,sp vs H Q E->vs.length=ps.length)
  (hbody: ∀(cdv:Value) (A:Around) (outer:List Env) (s:Shared) (H:Hp) (vs:List V) (Q:VK) (E:XK),Room k (A.deeper (envOfC qual (defScope st) s.heap.objs.size f cdv))->sp vs H Q E->
   ∃t,PSs (cxOf CX0 P w K mg base N qual (defScope st) f cdv A outer s H E).nox (defBody st) t/\t {nx:=fun _ H'=>Q .non H',rt:=Q} (start N vs) H):FnOk P w K mg base CX0 (k+1) f fd ps sp:=by
 obtain⟨oc,od,kV,doc,pm,an,cdv,ct,osl,rfl,lk,hcd⟩:=F.ex;refine fn_of lk hcd S len fun A outer s H vs Q E hr hsp=>?_;obtain⟨t,h,q⟩:=hbody cdv A outer s H vs Q E hr hsp;exact⟨t,h.nox,q⟩
theorem Fun.binds{x qual:Str}{st:Stmt}{f:Addr}{fd:FuncData}{ps:List Str}(F:Fun K x qual st f fd)
  (h: ∀(kV doc pm:Value) (an:Option Addr) (cdv ct:Value) (us:List Value),us.length=ps.length->bindArgs (PySem.W.fnOf x qual (defArgs st) (defBody st) (defScope st) .none kV doc pm an cdv ct) ⟨us,[]⟩=pure (ps.zip us)):Binds K fd ps []:=by
 obtain⟨oc,od,kV,doc,pm,an,cdv,ct,osl,rfl,lk,hcd⟩:=F.ex;exact .all (h kV doc pm an cdv ct)
theorem fun_mk{x qual:Str}{st:Stmt}{f:Addr}{oc:Value}{od an:Option Addr}{osl:Array (Option Value)}{kV doc pm cdv ct:Value}(l:K.lookup f=some ⟨oc,od, .func (PySem.W.fnOf x qual (defArgs st) (defBody st) (defScope st) .none kV doc pm an cdv ct),osl⟩)
  (c:PySem.W.codeIn K cdv qual=true) (k:PySem.W.keepIn K (.ref f)=true):Fun K x qual st f (PySem.W.fnOf x qual (defArgs st) (defBody st) (defScope st) .none kV doc pm an cdv ct):=⟨⟨oc,od,kV,doc,pm,an,cdv,ct,osl,rfl,l,c⟩,k⟩
end
theorem hu_of{A:Around}{k:Nat}(hr:Room k A):A.units+1 < cLine:=Nat.lt_of_le_of_lt (Nat.add_le_add_left (by decide:1<=64) _) hr.units
section
variable {X : Cx}
theorem pv(i:Nat){x:Str}{pos:Pos}(hN:autoParam (X.N[i]?=some x) au5._auto_1)(hv:autoParam (Vis X.env.scope x) au6._auto_1)(hd:autoParam ((x==("__debug__":Str))=false) au2._auto_1)
  (hcd:autoParam ((x==("__classdict__":Str))=false) au2._auto_1):PE X (.Name x pos) (tVar i):=pe_var hN hv hd hcd
end
theorem iteF{A B:Prop}(h:B):if false=true then A else B:=by
 rw[if_neg Bool.false_ne_true];exact h
theorem iteT{A B:Prop}(h:A):if true=true then A else B:=by
 rw[if_pos rfl];exact h
theorem ite2{c A B:Prop} [Decidable c](h1:c->A)(h2: ¬c->B):if c then A else B:=by
 by_cases h:c
 . rw[if_pos h];exact h1 h
 . rw[if_neg h];exact h2 h
def Same(H H':Hp):Prop:= ∀b o,H b=some o->H' b=some o
end L2
end
section
namespace L2
open PySem PySem.Spec PyProof.Rows
noncomputable def blkEnv(scope:Scope)(cl:List (Str × Addr))(C:Addr)(env:Env):Env:=
 {scope:=relabel scope env,locals:=C,globals:=env.globals,cells:=cellsFrom (C+1) scope.names cl,qual:=env.qual,func:=none,code:=env.code,frame:=env.frame,builtins:=env.builtins}
noncomputable def blk(X:Cx)(N:List Str)(scope:Scope)(s:Shared)(H:Hp)(cl:List (Str × Addr))(C:Addr)(ex:List Addr):Cx:=
 {X with N:=N,s₀:=s,H₀:=H,env:=blkEnv scope cl C X.env,outer:=X.stack,ex:=ex,fn:=fun x=>decide (scope.names.lookup x=some .cell),pn:= [],xe:=fun _ _=>False}
theorem cellsFrom_app: ∀(names:List (Str × NameKind)) (n:Nat) (acc:List (Str × Addr)),cellsFrom n names acc=cellsFrom n names []++acc
 | [],_,_=>rfl
 | (name,kind)::r,n,acc=>by
  unfold cellsFrom;split
  . rw[cellsFrom_app r (n+1) ((name,n)::acc),cellsFrom_app r (n+1) [(name,n)],List.append_assoc];rfl
  . exact cellsFrom_app r n acc
theorem cellsFrom_mem: ∀(names:List (Str × NameKind)) (n:Nat) {x:Str} {c:Addr},(x,c)∈cellsFrom n names []->(x,NameKind.cell)∈names
 | [],_,_,_,h=>by simp [cellsFrom] at h
 | (name,kind)::r,n,x,c,h=>by
  unfold cellsFrom at h;split at h
  . rename_i hk;rw[cellsFrom_app] at h;rcases List.mem_append.mp h with q | q
    . exact List.mem_cons_of_mem _ (cellsFrom_mem r _ q)
    . have e:(x,c)=(name,n):=by simpa using q
      cases e;have:kind= .cell:=by simpa using hk
      subst this;exact List.mem_cons_self
  . exact List.mem_cons_of_mem _ (cellsFrom_mem r _ h)
theorem lookup_mem_nd{α:Type}: ∀{l:List (Str × α)} {x:Str} {v:α},(l.map (·.1)).Nodup->(x,v)∈l->l.lookup x=some v
 | (k,w)::r,x,v,nd,h=>by
  rw[List.map_cons] at nd;obtain⟨h1,h2⟩:=List.nodup_cons.mp nd;rw[List.lookup_cons];rcases List.mem_cons.mp h with e | h'
  . cases e;simp
  . have hne : (x == k) = false := by
      rw[beq_eq_false_iff_ne];intro e;exact h1 (e▸List.mem_map.mpr ⟨(x,v),h',rfl⟩)
    rw[hne];exact lookup_mem_nd h2 h'
theorem lookup_relabel{env:Env}: ∀{names:List (Str × NameKind)} {x:Str} {k:NameKind},
  (names.map fun(n,k)=>if (k==NameKind.free && env.scope.kind== .function && env.kindOf n==some .cell) then(n,NameKind.cell) else(n,k)).lookup x=some k->
  names.lookup x=some k\/(k= .cell/\names.lookup x=some .free)
 | [],_,_,h=>by simp at h
 | (n,k0)::r,x,k,h=>by
  have ih:= @lookup_relabel env r x k;rw[List.map_cons] at h;cases hx:x==n with
  | true=>
   by_cases hc:(k0==NameKind.free && env.scope.kind== .function && env.kindOf n==some .cell)=true
   . dsimp only at h;rw[if_pos hc,List.lookup_cons,hx] at h;cases h;right;refine⟨rfl,?_⟩;rw[List.lookup_cons,hx];simp only [Bool.and_eq_true] at hc;have:k0= .free:=by simpa using hc.1.1
     rw[this]
   . dsimp only at h;rw[if_neg hc,List.lookup_cons,hx] at h;left;rw[List.lookup_cons,hx];exact h
  | false=>
   have h':(r.map fun(n,k)=>if (k==NameKind.free && env.scope.kind== .function && env.kindOf n==some .cell) then(n,NameKind.cell) else(n,k)).lookup x=some k:=by
    by_cases hc:(k0==NameKind.free && env.scope.kind== .function && env.kindOf n==some .cell)=true
    . dsimp only at h;rw[if_pos hc,List.lookup_cons,hx] at h;exact h
    . dsimp only at h;rw[if_neg hc,List.lookup_cons,hx] at h;exact h
   rw[List.lookup_cons,hx];exact ih h'
theorem lookup_relabel_free{env:Env}: ∀{names:List (Str × NameKind)} {x:Str},names.lookup x=some .free->
  (names.map fun(n,k)=>if (k==NameKind.free && env.scope.kind== .function && env.kindOf n==some .cell) then(n,NameKind.cell) else(n,k)).lookup x=some .free\/
  (names.map fun(n,k)=>if (k==NameKind.free && env.scope.kind== .function && env.kindOf n==some .cell) then(n,NameKind.cell) else(n,k)).lookup x=some .cell
 | [],_,h=>by simp at h
 | (n,k0)::r,x,h=>by
  have ih:= @lookup_relabel_free env r x;rw[List.map_cons];dsimp only;cases hx:x==n with
  | true=>
   rw[List.lookup_cons,hx] at h;cases h;by_cases hc:(NameKind.free==NameKind.free && env.scope.kind== .function && env.kindOf n==some .cell)=true
   . right;rw[if_pos hc,List.lookup_cons,hx]
   . left;rw[if_neg hc,List.lookup_cons,hx]
  | false=>
   rw[List.lookup_cons,hx] at h;by_cases hc:(k0==NameKind.free && env.scope.kind== .function && env.kindOf n==some .cell)=true
   . rw[if_pos hc];simp only [List.lookup_cons,hx];exact ih h
   . rw[if_neg hc];simp only [List.lookup_cons,hx];exact ih h
theorem closure_of{scope:Scope}{env:Env}(h: ∀x∈scope.names,x.2= .free-> ∃c,env.cells.lookup x.1=some c):
  ∃cl,closureFor scope env=pure cl/\(∀x c,(x,c)∈cl->env.cells.lookup x=some c)/\ ∀x,(x,NameKind.free)∈scope.names-> ∃c,(x,c)∈cl:=by
 have gen: ∀(names:List (Str × NameKind)) (acc:List (Str × Addr)),(∀x∈names,x.2= .free-> ∃c,env.cells.lookup x.1=some c)->(∀x c,(x,c)∈acc->env.cells.lookup x=some c)->
   ∃cl,(forIn names acc (fun(x:Str × NameKind) (cs:List (Str × Addr))=>match x with | (name,kind)=>if kind== .free then(do let a<-cellOf env name;pure (ForInStep.yield ((name,a)::cs))) else pure (ForInStep.yield cs)):Sem (List (Str × Addr)))=pure cl/\
    (∀x c,(x,c)∈cl->env.cells.lookup x=some c)/\(∀p∈acc,p∈cl)/\ ∀x,(x,NameKind.free)∈names-> ∃c,(x,c)∈cl:=by
  intro names;induction names with
  | nil=>intro acc _ ha;exact⟨acc,by rw[List.forIn_nil],ha,fun _ hp=>hp,fun x hx=>by simp at hx⟩
  | cons p r ih=>
   intro acc hn ha;obtain⟨n,k⟩:=p;rw[List.forIn_cons];by_cases hk:(k==NameKind.free)=true
   . have hk':k= .free:=by simpa using hk
     obtain⟨c,hc⟩:=hn (n,k) List.mem_cons_self hk';obtain⟨cl,e1,e2,e3,e4⟩:=ih ((n,c)::acc) (fun x hx=>hn x (List.mem_cons_of_mem _ hx)) (fun x c' hx=>by
      rcases List.mem_cons.mp hx with e | hx
      . cases e;exact hc
      . exact ha x c' hx)
     refine⟨cl,?_,e2,fun q hq=>e3 q (List.mem_cons_of_mem _ hq),fun x hx=>?_⟩
     . dsimp only;rw[if_pos hk];have:cellOf env n=pure c:=by unfold cellOf;rw[hc]
       rw[this];exact e1
     . rcases List.mem_cons.mp hx with e | hx
       . cases e;exact⟨c,e3 _ List.mem_cons_self⟩
       . exact e4 x hx
   . obtain⟨cl,e1,e2,e3,e4⟩:=ih acc (fun x hx=>hn x (List.mem_cons_of_mem _ hx)) ha;refine⟨cl,?_,e2,e3,fun x hx=>?_⟩
     . dsimp only;rw[if_neg hk];exact e1
     . rcases List.mem_cons.mp hx with e | hx
       . cases e;exact absurd rfl hk
       . exact e4 x hx
 obtain⟨cl,e1,e2,_,e4⟩:=gen scope.names [] h (fun _ _ hx=>nomatch hx);refine⟨cl,?_,e2,e4⟩;unfold closureFor;first
  | exact e1
  | (simp only [bind_pure];exact e1)
section
variable {prog : Program} {w : World} {A : Around} {R : Result -> Shared -> Prop} {s : Shared}
theorem compLoop_own{elt target iter:Expr}{ifs:List Expr}{scope:Scope}{pos:Pos}{it acc:Value}{env:Env}(I:Nat->Shared->Prop)
  (turn: ∀n s,I n s->wpAny (model prog w) A (pyNext it) (fun r s₁=>match r with
   | none=>R (.ok .next) s₁
   | some v=>wpAny (model prog w) A (letOwnedTupleGo target it v) (fun _ s₀=>wpAny (model prog w) A (assign target env v) (fun _ s₂=>
     wpAny (model prog w) A (forIn ifs true fun c r=>if r=true then do let ok<-isTrue c env (eval c env);pure (ForInStep.yield ok) else pure (ForInStep.yield r)) (fun ok s₃=>
      if ok=true then wpAny (model prog w) A (eval elt env) (fun x s₄=>
       wpAny (model prog w) A (call (.builtin "list.append") [acc,x]) (fun _ s₅=> ∃m,m < n/\I m s₅) (fun _ _=>False) s₄) (fun _ _=>False) s₃
      else∃m,m < n/\I m s₃) (fun _ _=>False) s₂) (fun _ _=>False) s₀) (fun _ _=>False) s₁) (fun _ _=>False) s)
  (n:Nat) (h:I n s):codeAny (model prog w) A (.compLoop (.ListComp elt [⟨target,iter,ifs,0⟩] scope pos) 0 it acc env) R s:=by
 refine codeAny_loop rfl I (fun n s hI=>?_) n h;show wpAny _ A ((compTurn (.ListComp elt [⟨target,iter,ifs,0⟩] scope pos) 0 it acc env).onRaise (fun x=>do noteFrame x env;theTreesLotGoes x)) _ _ s;refine wpAny_noted ?_;rw[compTurn_list];refine wpAny_bind (wpAny_standAt (wpAny_bind (wpAny_mono (turn n s hI) (fun r s₁ h₁=>?_) fun _ _ h'=>h'.elim)));cases r with
 | none=>exact wpAny_pure h₁
 | some v=>
  refine wpAny_bind (wpAny_mono h₁ (fun _ s₀ h₀=>?_) fun _ _ h'=>h'.elim);refine wpAny_bind (wpAny_mono h₀ (fun _ s₂ h₂=>wpAny_bind (wpAny_mono h₂ (fun ok s₃ h₃=>?_) fun _ _ h'=>h'.elim)) fun _ _ h'=>h'.elim);cases ok with
  | false=>exact wpAny_pure ⟨rfl,h₃⟩
  | true=>
   exact wpAny_bind (wpAny_bind (wpAny_mono h₃ (fun x s₄ h₄=>wpAny_bind (wpAny_mono h₄ (fun _ s₅ h₅=>wpAny_pure (wpAny_pure ⟨rfl,h₅⟩)) fun _ _ h'=>h'.elim)) fun _ _ h'=>h'.elim))
end
def PF(X:Cx)(ifs:List Expr)(t:TT):Prop:=
 ∀(pins:List (Addr × Obj)) (s:Shared) (σ:St) (H:Hp) (Q:Bool->Hp->Prop),Inv X pins σ H s->t σ H Q->
  wpAny (model X.prog X.w) X.A (forIn ifs true fun c r=>if r=true then do let ok<-isTrue c X.env (eval c X.env);pure (ForInStep.yield ok) else pure (ForInStep.yield r)) (TP X pins σ Q) X.xe s
def tTrue:TT:=fun _ H Q=>Q true H
theorem pf_nil{X:Cx}:PF X [] tTrue:=fun _ _ _ H _ I h=>wpAny_tests_nil ⟨H,I,h⟩
theorem pf_one{X:Cx}{c:Expr}{t:TT}(h:PT X c t):PF X [c] t:=fun pins s σ H Q I hw=>wpAny_tests_one (h pins s σ H Q I hw)
noncomputable def st0(nt:Nat)(js:List Nat)(σ:St):St:=List.replicate nt none++js.map fun j=>(σ[j]?).join
structure CpOk(X:Cx)(N:List Str)(nt:Nat)(js:List Nat)(scope:Scope):Prop where
 kind:scope.kind= .function
 nd:(scope.names.map (·.1)).Nodup
 len:nt<=N.length
 cap:js.map (fun j=>X.N[j]?)=(N.drop nt).map some
 fr: ∀x∈N.drop nt,scope.names.lookup x=some .free
 see: ∀x∈scope.names,x.2= .free->X.env.kindOf x.1=some .cell\/X.env.kindOf x.1=some .free
section
variable {X : Cx} {N : List Str} {nt : Nat} {js : List Nat} {scope : Scope} {pins : List (Addr × Obj)} {σ : St} {H : Hp} {s : Shared}
theorem CpOk.names(S:CpOk X N nt js scope): ∀x∈scope.names,x.2= .local->scope.names.lookup x.1=some .local:=fun x hx e=>by
 obtain⟨n,k⟩:=x;cases e;exact lookup_mem_nd S.nd hx
theorem blk_start{cl:List (Str × Addr)}{fp:List Addr}(S:CpOk X N nt js scope)(hc:X.calm=true)(I:Inv X pins σ H s)(hf: ∀b∈fp,FpOk X pins H b)(hfs: ∀b∈fp,b < s.heap.objs.size)
  (c1: ∀x c,(x,c)∈cl->X.env.cells.lookup x=some c) (c2: ∀x,(x,NameKind.free)∈scope.names-> ∃c,(x,c)∈cl) {tk:Nat}:
  Inv (blk X N scope s H cl s.heap.objs.size fp) [] (st0 nt js σ) H {s with heap:=pushCells (s.heap.push {cls:= .type "dict",data:= .dict #[]}) scope.names,toks:=tk}:=by
 have keep: ∀b o,s.heap.get? b=some o->(pushCells (s.heap.push {cls:= .type "dict",data:= .dict #[]}) scope.names).get? b=some o:=fun b o e=>pushCells_keeps _ _ b o (Heap.get?_push_of_some _ e);have ok:=cellsFrom_ok scope.names (s.heap.push {cls:= .type "dict",data:= .dict #[]}) (s.heap.objs.size+1) [] ⟨fun _ _ hm=>(nomatch hm),List.Pairwise.nil⟩ (by rw[Heap.size_push];exact Nat.le_refl _);rw[Heap.size_push] at ok;have split: ∀x c,(cellsFrom (s.heap.objs.size+1) scope.names cl).lookup x=some c->(x,c)∈cellsFrom (s.heap.objs.size+1) scope.names []\/(x,c)∈cl:=fun x c e=>by
  rw[cellsFrom_app] at e;exact List.mem_append.mp (PySem.mem_of_lookup e)
 have old: ∀x c,(x,c)∈cl->c < s.heap.objs.size:=fun x c h=>by
  obtain⟨v,q⟩:=I.cell x c (c1 x c h);exact q.lt
 have new: ∀x c,(x,c)∈cellsFrom (s.heap.objs.size+1) scope.names []->s.heap.objs.size+1<=c:=fun x c h=>(ok.empty x c h).2;have fresh: ∀b,s.heap.objs.size<=b->H b=none:=fun b hb=>I.hok.fresh hb;have clook: ∀x,scope.names.lookup x=some .free-> ∀c,X.env.cells.lookup x=some c->(cellsFrom (s.heap.objs.size+1) scope.names cl).lookup x=some c:=fun x hx c hcx=>by
  obtain⟨c',hc'⟩:=c2 x (PySem.mem_of_lookup hx);have e1:(cellsFrom (s.heap.objs.size+1) scope.names []).lookup x=none:=by
   cases e:(cellsFrom (s.heap.objs.size+1) scope.names []).lookup x with
   | none=>rfl
   | some d=>
    have:=lookup_mem_nd S.nd (cellsFrom_mem _ _ (PySem.mem_of_lookup e));rw[hx] at this;cases this
  have e2: ∃d,cl.lookup x=some d:=by
   cases e:cl.lookup x with
   | some d=>exact⟨d,rfl⟩
   | none=>
    exfalso;have: ∀{l:List (Str × Addr)},(x,c')∈l->l.lookup x≠none:=fun{l}=>by
     induction l with
     | nil=>intro h;simp at h
     | cons p r ih=>
      intro h;obtain⟨k,v⟩:=p;rw[List.lookup_cons];cases hb:x==k with
      | true=>simp
      | false=>
       rcases List.mem_cons.mp h with q | q
       . cases q;simp at hb
       . exact ih q
    exact this hc' e
  obtain⟨d,hd⟩:=e2;have:d=c:=by
   have:=c1 x d (PySem.mem_of_lookup hd);rw[hcx] at this;cases this;rfl
  subst this;rw[cellsFrom_app,List.lookup_append,e1,hd];rfl
 have fsx: ∀b,b≠X.env.locals->b∉X.fs->b∉frs X.stack:=fun b h1 h2 hb=>(List.mem_cons.mp (I.stkSub b hb)).elim h1 h2;refine⟨⟨I.ok.mod,S.kind,I.ok.glob,I.ok.blt,Nat.le_refl _,fun x y c e1 e2=>?_,fun x hx=>?_,fun x c h1 h2=>?_,I.ok.hd,I.ok.frames, .inl rfl,fun b hb=>⟨?_,fun x c e=>?_⟩,fun b o e=>⟨I.bk b o e,(I.bs b o e).2⟩,?_,fun b o e hb=>?_,fun b hb=>?_,I.stack,I.stkFree⟩,
  rfl,I.bare,Un.kept keep,⟨_,(Heap.Ns.new s.heap (.type "dict")).keeps (pushCells_keeps _ _),fun i x v e1 e2 e3=>?_⟩,fun x c e=>?_,fresh _ (Nat.le_refl _),fun x c e=>?_,fun p hp=>absurd (show p∈([]:List (Addr × Obj)) from hp) (by simp),I.hok.kept keep,?_⟩
 . rcases split x c e1 with h1 | h1 <;> rcases split y c e2 with h2 | h2
   . exact name_of_addr ok.apart h1 h2
   . exact absurd (Nat.lt_of_lt_of_le (old y c h2) (Nat.le_of_succ_le (new x c h1))) (Nat.lt_irrefl _)
   . exact absurd (Nat.lt_of_lt_of_le (old x c h1) (Nat.le_of_succ_le (new y c h2))) (Nat.lt_irrefl _)
   . exact I.ok.inj x y c (c1 x c h1) (c1 y c h2)
 . have own : scope.names.lookup x = some .cell -> ∃ c, (cellsFrom (s.heap.objs.size + 1) scope.names cl).lookup x = some c := fun h => by
     obtain⟨c,e⟩:=cell_has (n:=s.heap.objs.size+1) h;exact⟨c,by rw[cellsFrom_app,List.lookup_append,e];rfl⟩
   have fre:scope.names.lookup x=some .free-> ∃c,(cellsFrom (s.heap.objs.size+1) scope.names cl).lookup x=some c:=fun h=>by
    obtain⟨c,e⟩:=I.ok.has x (S.see _ (PySem.mem_of_lookup h) rfl);exact⟨c,clook x h c e⟩
   rcases hx with h | h <;> rcases lookup_relabel h with q | ⟨z,q⟩
   . exact own q
   . exact fre q
   . exact fre q
   . cases z
 . have h1:scope.names.lookup x=some .cell:=by simpa [blk] using h1
   obtain⟨d,e⟩:=cell_has (n:=s.heap.objs.size+1) h1;have h2:(cellsFrom (s.heap.objs.size+1) scope.names cl).lookup x=some c:=h2;rw[cellsFrom_app,List.lookup_append,e] at h2;have:d=c:=by simpa using h2
   subst this;exact Nat.le_of_succ_le (new x d (PySem.mem_of_lookup e))
 . exact Nat.ne_of_lt (hfs b hb)
 . rcases split x c e with h | h
   . exact Nat.ne_of_gt (Nat.lt_of_lt_of_le (hfs b hb) (Nat.le_of_succ_le (new x c h)))
   . exact(hf b hb).2.2.2.2.1 x c (c1 x c h)
 . exact Nat.le_trans I.ok.bsz I.sz
 . rcases(hf b hb).2.2.2.1 with z | z
   . exact I.ok.noex b o e z
   . exact absurd (Nat.lt_of_lt_of_le (Heap.lt_size e) (Nat.le_trans I.ok.bsz z)) (Nat.lt_irrefl _)
 . exact fsx b (hf b hb).2.1 (hf b hb).2.2.1
 . have hi : nt <= i := by
     apply Nat.le_of_not_lt;intro hlt;unfold st0 at e2;rw[List.getElem?_append_left (by simpa using hlt),List.getElem?_replicate,if_pos hlt] at e2;cases e2
   have e2':(js.map fun j=>(σ[j]?).join)[i - nt]?=some (some v):=by
    unfold st0 at e2;rw[List.getElem?_append_right (by simpa using hi),List.length_replicate] at e2;exact e2
   rw[List.getElem?_map] at e2';have e1':(N.drop nt)[i - nt]?=some x:=by
    rw[List.getElem?_drop];have:nt+(i - nt)=i:=by lia
    rw[this];exact e1
   cases hj:js[i - nt]? with
   | none=>rw[hj] at e2';cases e2'
   | some j=>
    rw[hj] at e2';have e2'':(σ[j]?).join=some v:=by simpa using e2'
    have hσ:σ[j]?=some (some v):=by
     cases q:σ[j]? with
     | none=>rw[q] at e2'';cases e2''
     | some o=>rw[q] at e2'';simpa using e2''
    have hX:X.N[j]?=some x:=by
     have:=congrArg (fun l=>l[i - nt]?) S.cap;simp only [List.getElem?_map,hj,e1',Option.map_some] at this;exact Option.some.inj this
    have hfree:=S.fr x (List.mem_of_getElem? e1');have hk:=S.see _ (PySem.mem_of_lookup hfree) rfl;obtain⟨m,_,hl⟩:=I.loc;obtain⟨u,ru,lk⟩:=hl j x v hX hσ (by rcases hk with q | q;exact .inr (.inl q);exact .inr (.inr q));refine⟨u,ru,?_⟩;rcases lk with ⟨hk',_⟩ | ⟨_,c,hc1,hcell⟩
    . rcases hk with q | q <;> rw[q] at hk' <;> cases hk'
    . refine .inr ⟨?_,c,clook x hfree c hc1,hcell.keeps keep⟩;rcases lookup_relabel_free (env:=X.env) hfree with q | q
      . exact .inr q
      . exact .inl q
 . rcases split x c e with h | h
   . exact⟨none,(ok.empty x c h).1⟩
   . obtain⟨v,q⟩:=I.cell x c (c1 x c h);exact⟨v,q.keeps keep⟩
 . rcases split x c e with h | h
   . exact fresh _ (Nat.le_of_succ_le (new x c h))
   . exact I.freeC x c (c1 x c h)
 . unfold st0;show _=N.length;rw[List.length_append,List.length_replicate,List.length_map];have:=congrArg List.length S.cap;rw[List.length_map,List.length_map,List.length_drop] at this;have:=S.len;lia
end
end L2
end
section
namespace L2
open PySem PySem.Spec PyProof.Rows
def GLow(nt:Nat)(g:TG):Prop:= ∀v σ H (Q:St->Hp->Prop),g v σ H Q->g v σ H fun σ' H'=>Q σ' H'/\σ'.length=σ.length/\ ∀k,nt<=k->σ'[k]?=σ[k]?
def GLows(nt:Nat)(g:TGs):Prop:= ∀vs σ H (Q:St->Hp->Prop),g vs σ H Q->g vs σ H fun σ' H'=>Q σ' H'/\σ'.length=σ.length/\ ∀k,nt<=k->σ'[k]?=σ[k]?
theorem glow_name{nt i:Nat}(h:autoParam (i < nt) au2._auto_1):GLow nt (gName i):=fun v σ H Q q=>⟨q,by simp,fun k hk=>by rw[List.getElem?_set_ne (by lia)]⟩
theorem glow_nil{nt:Nat}:GLows nt gNil:=fun vs σ H Q zz1=>(by obtain⟨e,q⟩:=zz1;exact(⟨e,q,rfl,fun _ _=>rfl⟩))
def GMono(g:TGs):Prop:= ∀vs σ H (Q Q':St->Hp->Prop),(∀σ' H',Q σ' H'->Q' σ' H')->g vs σ H Q->g vs σ H Q'
theorem gmono_nil:GMono gNil:=fun vs σ H Q Q' hq zz2=>(by obtain⟨e,q⟩:=zz2;exact(⟨e,hq _ _ q⟩))
theorem gmono_name{i:Nat}{u:TGs}(hu:GMono u):GMono (gCons (gName i) u):=fun vs σ H Q Q' hq zz3=>(by obtain⟨v,r,e,q⟩:=zz3;exact(⟨v,r,e,hu r _ _ Q Q' hq q⟩))
theorem glow_cons{nt i:Nat}{u:TGs}(h:autoParam (i < nt) au2._auto_1)(hm:GMono u)(hu:GLows nt u):GLows nt (gCons (gName i) u):=fun vs σ H Q zz1=>(by obtain⟨v,r,e,q⟩:=zz1;exact(by
 refine⟨v,r,e,hm _ _ _ _ _ (fun σ' H' z=>?_) (hu r (σ.set i (some v)) H Q q)⟩;obtain⟨z1,z2,z3⟩:=z;refine⟨z1,by simpa using z2,fun k hk=>?_⟩;rw[z3 k hk,List.getElem?_set_ne (by lia)]))
theorem glow_tup{nt n:Nat}{K:PySem.W.Frag}{t:TGs}(h:GLows nt t):GLow nt (gTup K n t):=fun v σ H Q zz5=>(by obtain⟨a,xs,e,sq,l,q⟩:=zz5;exact(⟨a,xs,e,sq,l,h xs σ H Q q⟩))
def CompW(nt:Nat)(js:List Nat)(g:TG)(tc:TT)(te:TE)(σ:St)(Q:VK)(D:Addr)(J:It)(H0:Hp):Prop:=
 ∃W:Nat->Nat->List V->Hp->Prop,(∃m,W 0 m [] H0)/\ ∀i m acc H,W i m acc H->
  (J.stop i H/\Q (.ref D) H)\/(J.go i H/\acc.length < sizeLine/\ ∃B:List V->Hp->Prop,(∀acc' H',B acc' H'-> ∃m',m' < m/\W (i+1) m' acc' H')/\ ∀x H',J.yld i H x H'->g x (st0 nt js σ) H' fun σ2 H2=>
   tc σ2 H2 fun b H3=>if b=true then te σ2 H3 fun v H4=>H4 D=some (.lst acc)/\B (acc++ [v]) (upd H4 D (.lst (acc++ [v]))) else B acc H3)
def tComp(nt:Nat)(js:List Nat)(wi:TI)(g:TG)(tc:TT)(te:TE):TE:=fun σ H Q=>wi σ H fun J H1=> ∀D,H1 D=none->CompW nt js g tc te σ Q D J (upd H1 D (.lst []))
section
variable {X : Cx} {N : List Str} {nt : Nat} {js : List Nat} {scope : Scope} {pins : List (Addr × Obj)} {σ : St} {H : Hp} {s : Shared}
theorem wpAny_newEnvC{M:Model}{A:Around}{E:Value->Shared->Prop}{cl:List (Str × Addr)}{env:Env}{Q:Env->Shared->Prop}{s:Shared}(h: ∀cenv:Env,{cenv with scope:=relabel scope env}=blkEnv scope cl s.heap.objs.size env->cenv.locals=s.heap.objs.size->Q cenv {s with heap:=pushCells (s.heap.push {cls:= .type "dict",data:= .dict #[]}) scope.names}):
  wpAny M A (newFunctionEnv scope env.globals cl [] env.qual none .none (some env)) Q E s:=by
 simp only [newFunctionEnv,Option.isSome_some,if_true];refine wpAny_bind (wpAny_alloc ?_);refine wpAny_bind (wpAny_layCells _ (fun name kind cells=>by cases hkc:kind==NameKind.cell <;> simp [hkc]) _ _ _ _ ?_);rw[show({s with heap:=s.heap.push {cls:= .type "dict",data:= .dict #[]}}:Shared).heap.objs.size=s.heap.objs.size+1 from Heap.size_push ..];first
  | exact wpAny_pure (h _ rfl rfl)
  | exact wpAny_bind (wpAny_pure (wpAny_pure (h _ rfl rfl)))
theorem comp_core{elt tg iter:Expr}{ifs:List Expr}{pos:Pos}{g:TG}{tc:TT}{te:TE}{cl:List (Str × Addr)}{Q:VK}{E:Value->Shared->Prop}{RR:Value->Addr->Result->Shared->Prop}
  (S:CpOk X N nt js scope) (hc:X.calm=true)
  (hg: ∀s H cl C ex,PG (blk X N scope s H cl C ex) tg g) (hlow:GLow nt g) (hf: ∀s H cl C ex,PF (blk X N scope s H cl C ex) ifs tc) (he: ∀s H cl C ex,PE (blk X N scope s H cl C ex) elt te)
  {it:Addr} {fp:List Addr} {tn:Nat->Heap->Prop} {J:It} (I:Inv X pins σ H s) (T:Turn X.prog X.w X.K tg J fp it tn) (st:tn 0 s.heap) (ff: ∀b∈fp,FpOk X pins H b)
  (c1: ∀x c,(x,c)∈cl->X.env.cells.lookup x=some c) (c2: ∀x,(x,NameKind.free)∈scope.names-> ∃c,(x,c)∈cl)
  (R: ∀D,H D=none->CompW nt js g tc te σ Q D J (upd H D (.lst [])))
  (fin: ∀(D C:Addr) (s':Shared) (H':Hp),Inv X pins σ H' s'->FpOk X pins H' C->(∃m,s'.heap.Ns C m)->Q (.ref D) H'->RR (.ref D) C (.ok .next) s'):
  wpAny (model X.prog X.w) X.A (newList []) (fun acc s₃=>wpAny (model X.prog X.w) X.A (newFunctionEnv scope X.env.globals cl [] X.env.qual none .none (some X.env)) (fun cenv s₄=>
   codeAny (model X.prog X.w) X.A (.compStart (.ListComp elt [⟨tg,iter,ifs,0⟩] scope pos) 0 (.ref it) acc {cenv with scope:=relabel scope X.env}) (RR acc cenv.locals) s₄) E s₃) E s:=by
 refine wpAny_newObj_type (wpAny_newEnvC fun cenv ecenv eloc=>?_);rw[ecenv,eloc];dsimp only;have hD:H s.heap.objs.size=none:=I.hok.fresh (Nat.le_refl _);obtain⟨W,⟨m0,w0⟩,turn⟩:=R s.heap.objs.size hD;have kD: ∀b u,s.heap.get? b=some u->(s.heap.push {cls:= .type "list",data:= .seq ([]:List Value).toArray}).get? b=some u:=fun b u e=>Heap.get?_push_of_some _ e;have I3:Inv X pins σ (upd H s.heap.objs.size (.lst [])) {s with heap:=s.heap.push {cls:= .type "list",data:= .seq ([]:List Value).toArray},toks:=s.toks}:=
  I.laid kD (Nat.le_refl _) ⟨Nat.zero_le _,[],_, .nil,Heap.get?_push_size _ rfl⟩
 have fs: ∀b∈fp,b < s.heap.objs.size:=fun b hb=>by
  obtain⟨o,e,_⟩:=T.obj _ _ st b hb;exact Heap.lt_size e
 have ff3: ∀b∈fp,FpOk X pins (upd H s.heap.objs.size (.lst [])) b:=fun b hb=>⟨by rw[upd_ne (Nat.ne_of_lt (fs b hb))];exact(ff b hb).1,(ff b hb).2⟩
 have I4:=blk_start (tk:=s.toks) S hc I3 ff3 (fun b hb=>by show b < (s.heap.push _).objs.size;rw[Heap.size_push];exact Nat.lt_succ_of_lt (fs b hb)) c1 c2;dsimp only at I4;have gsz:(s.heap.push {cls:= .type "list",data:= .seq ([]:List Value).toArray}).objs.size=s.heap.objs.size+1:=Heap.size_push ..;generalize hY:blk X N scope {s with heap:=s.heap.push {cls:= .type "list",data:= .seq ([]:List Value).toArray},toks:=s.toks} (upd H s.heap.objs.size (.lst [])) cl (s.heap.push {cls:= .type "list",data:= .seq ([]:List Value).toArray}).objs.size fp=Y at I4;have hY2:=hY;have Yenv:Y.env=blkEnv scope cl (s.heap.push {cls:= .type "list",data:= .seq ([]:List Value).toArray}).objs.size X.env:=by rw[<-hY];rfl
 have Yprog:Y.prog=X.prog:=by rw[<-hY];rfl
 have Yw:Y.w=X.w:=by rw[<-hY];rfl
 have YA:Y.A=X.A:=by rw[<-hY];rfl
 have YK:Y.K=X.K:=by rw[<-hY];rfl
 have Ycalm:Y.calm=true:=by rw[<-hY];exact hc
 have Yxe:Y.xe=fun _ _=>False:=by rw[<-hY];rfl
 have Yex:Y.ex=fp:=by rw[<-hY];rfl
 have Ypn:Y.pn= []:=by rw[<-hY];rfl
 have Yfs:Y.fs=frs X.stack:=by rw[<-hY];rfl
 have Ys0:Y.s₀={s with heap:=s.heap.push {cls:= .type "list",data:= .seq ([]:List Value).toArray},toks:=s.toks}:=by rw[<-hY];rfl
 have YH0:Y.H₀=upd H s.heap.objs.size (.lst []):=by rw[<-hY];rfl
 have hgY:PG Y tg g:=by rw[<-hY];exact hg _ _ _ _ _
 have hfY:PF Y ifs tc:=by rw[<-hY];exact hf _ _ _ _ _
 have heY:PE Y elt te:=by rw[<-hY];exact he _ _ _ _ _
 have hm:(Y.N.length:Nat)=(st0 nt js σ).length:=I4.len.symm;rw[<-Yenv,<-Yprog,<-Yw,<-YA];have fpY: ∀{H':Hp} (_: ∀b∈fp,H' b=none),∀b∈fp,FpOk Y [] H' b:=fun{H'} hn b hb=>by
  refine⟨hn b hb,(I4.ok.exf b (by rw[Yex];exact hb)).1,I4.ok.exfs b (by rw[Yex];exact hb), .inl (by rw[Yex];exact hb),(I4.ok.exf b (by rw[Yex];exact hb)).2,fun p hp=>?_⟩;rw[Ypn] at hp;simp at hp
 have back: ∀{H':Hp} {s':Shared} {σ':St},Inv Y [] σ' H' s'->Inv X pins σ H' s'/\FpOk X pins H' Y.env.locals/\ ∃m,s'.heap.Ns Y.env.locals m:=fun{H' s' σ'} J=>by
  have hb:Un (frs X.stack) fp (upd H s.heap.objs.size (.lst [])) H' (s.heap.push {cls:= .type "list",data:= .seq ([]:List Value).toArray}) s'.heap:=by
   have:=J.base;rw[Yfs,Yex,YH0,Ys0] at this;exact this
  have loc:Y.env.locals=s.heap.objs.size+1:=by rw[Yenv];exact gsz
  have os:s'.os=s.os:=by
   have:=J.os;rw[Ys0] at this;exact this
  have hok:HOk X.prog X.w H' s'.heap:=by
   have:=J.hok;rw[Yprog,Yw] at this;exact this
  refine⟨I3.call' (ch:=fp) os hb hok J.bare fun b hb=>⟨(ff b hb).2.2.2.1,(ff b hb).2.1,(ff b hb).2.2.2.2.1,(ff b hb).2.2.2.2.2⟩,?_,let ⟨m,q,_⟩:=J.loc;⟨m,q⟩⟩;exact I.fpOk (by rw[loc];exact Nat.le_succ _) J.free
 have loop:codeAny (model Y.prog Y.w) Y.A (.compLoop (.ListComp elt [⟨tg,iter,ifs,0⟩] scope pos) 0 (.ref it) (.ref s.heap.objs.size) Y.env) (RR (.ref s.heap.objs.size) Y.env.locals)
   {s with heap:=pushCells ((s.heap.push {cls:= .type "list",data:= .seq ([]:List Value).toArray}).push {cls:= .type "dict",data:= .dict #[]}) scope.names}:=by
  refine compLoop_own (fun n s'=> ∃i acc H',Inv Y [] (st0 nt js σ) H' s'/\tn i s'.heap/\(∀b∈fp,H' b=none)/\W i n acc H') ?_ m0
   ⟨0,[],_,I4,T.keep _ _ _ st fun b _ o e=>pushCells_keeps _ _ b o (Heap.get?_push_of_some _ (kD b o e)),fun b hb=>(ff3 b hb).1,w0⟩
  rintro n s5 ⟨i,acc,H5,I5,st5,fr5,w5⟩
  rcases turn i n acc H5 w5 with ⟨stop,q⟩ | ⟨go,hlen,B,hB,step⟩
  . have hd:=T.done Y Yprog Yw YK Ycalm i [] s5 _ H5 (fun _ _=>False) I5 (fpY fr5) st5 stop;rw[<-Yprog,<-Yw] at hd;refine thn hd fun r s6 zz6=>?_;obtain⟨hr,I6⟩:=zz6;subst hr;obtain⟨b1,b2,b3⟩:=back I6;exact fin _ _ _ _ b1 b2 b3 q
  . have hd:=T.item Y Yprog Yw YK Ycalm i [] s5 _ H5 (fun _ _=>False) I5 (fpY fr5) st5 go;rw[<-Yprog,<-Yw] at hd;refine thn hd fun r s6 zz7=>?_;obtain⟨u,hr,h6⟩:=zz7;subst hr;refine thn h6 fun _ s7 zz8=>?_;obtain⟨x,H7,I7,r7,y7,st7,fr7⟩:=zz8;have I7':=I7.pinned (fpY fr7) (T.obj _ _ st7);have g7:=hlow _ _ _ _ (step x H7 y7);have h7:=hgY _ s7 _ H7 x u _ I7' r7 g7;rw[Yxe] at h7;refine thn h7 fun _ s8 zz9=>?_;obtain⟨σ8,H8,I8,q8,l8,k8⟩:=zz9;have h8:=hfY _ s8 σ8 H8 _ I8 q8;rw[Yxe] at h8;refine thn h8 fun b s9 zz10=>?_;obtain⟨H9,I9,q9⟩:=zz10;have again: ∀{H10:Hp} {s10:Shared} {acc':List V},Inv Y ([]++pinsAt fp s7.heap) σ8 H10 s10->B acc' H10-> ∃m,m < n/\ ∃i acc H',Inv Y [] (st0 nt js σ) H' s10/\tn i s10.heap/\(∀b∈fp,H' b=none)/\W i m acc H':=fun{H10 s10 acc'} I10 b10=>by
     obtain⟨m',hm',w10⟩:=hB acc' H10 b10;refine⟨m',hm',i+1,acc',H10,I10.unpinned.weak l8.symm fun k v e=>?_,T.keep _ _ _ st7 fun b hb o e=>(I10.pin (b,o) (List.mem_append_right _ (List.mem_append_right _ (mem_pinsAt hb e)))).1,fun b hb=>?_,w10⟩
     . by_cases hk:nt<=k
       . rw[k8 k hk];exact e
       . exfalso;unfold st0 at e;rw[List.getElem?_append_left (by simp;lia),List.getElem?_replicate,if_pos (by lia)] at e;cases e
     . obtain⟨o,e,d⟩:=T.obj _ _ st7 b hb;exact(I10.pin (b,o) (List.mem_append_right _ (List.mem_append_right _ (mem_pinsAt hb e)))).2.1
    cases b with
    | false=>
     rw[if_neg Bool.false_ne_true] at q9 ⊢;exact again I9 q9
    | true=>
     rw[if_pos rfl] at q9 ⊢;have h9:=heY _ s9 σ8 H9 _ I9 q9;rw[Yxe] at h9;refine thn h9 fun y s10 zz11=>?_;obtain⟨v,H10,I10,r10,hD10,q10⟩:=zz11;have h10:=(mt_append (X:=Y) _ s10 σ8 H10 (.ref s.heap.objs.size) [v] (.ref s.heap.objs.size) [y] (fun _ H'=>B (acc++ [v]) H') I10 rfl (.cons r10 .nil) ⟨_,acc,v,rfl,rfl,hD10,hlen,q10⟩)
     rw[Yxe] at h10;refine thn h10 fun _ s11 zz12=>?_;obtain⟨_,H11,I11,_,q11⟩:=zz12;exact again I11 q11
 have eloc2:(s.heap.push {cls:= .type "list",data:= .seq ([]:List Value).toArray}).objs.size=Y.env.locals:=by rw[Yenv];rfl
 rw[eloc2];exact codeAny_compStart_list loop (by rw[Yprog,Yw,YA] at*;exact T.self _ 0 _ _ _ (T.keep _ _ _ st fun b _ o e=>pushCells_keeps _ _ b o (Heap.get?_push_of_some _ (kD b o e))) loop)
theorem pe_comp{elt tg iter:Expr}{ifs:List Expr}{pos:Pos}{wi:TI}{g:TG}{tc:TT}{te:TE}(S:CpOk X N nt js scope)(hc:X.calm=true)(hi:PI X tg iter wi)
  (hg: ∀s H cl C ex,PG (blk X N scope s H cl C ex) tg g) (hlow:GLow nt g) (hf: ∀s H cl C ex,PF (blk X N scope s H cl C ex) ifs tc) (he: ∀s H cl C ex,PE (blk X N scope s H cl C ex) elt te)
  (hs:autoParam (∀x,foldedSetIterable iter X.env x=pure x) au4._auto_1):PE X (.ListComp elt [⟨tg,iter,ifs,0⟩] scope pos) (tComp nt js wi g tc te):=by
 intro pins s σ H Q I h;obtain⟨cl,hcl,c1,c2⟩:=closure_of (scope:=scope) (env:=X.env) fun x hx e=>I.ok.has x.1 (S.see x hx e);rw[eval_ListComp];refine wpAny_comprehension_free (use:=none) rfl hs hcl S.kind S.names (thn (hi pins s σ H _ I h) fun v s1 h1=>thn h1 fun itv s2 h2=>?_);obtain⟨it,fp,tn,J,H2,rfl,I2,T,st2,f2,R⟩:=h2;refine comp_core (RR:=fun acc C=>compPost (model X.prog X.w) X.A X.xe none (EP X pins σ Q) acc C) S hc hg hlow hf he I2 T st2 f2 c1 c2 R fun D C s' H' I' fo zz13 q=>?_;obtain⟨m,hn⟩:=zz13;refine⟨m,hn,fun h' sb=>⟨.ref D,H',?_,rfl,q⟩⟩;obtain⟨f0,f1,_,f3,f4,f5⟩:=fo;exact I'.turned (t':=s'.toks) (fun b o hb e=>(sb.2 b hb).trans e) f0 f1 f3 f4 f5
theorem ps_comp{i:Nat}{y:Str}{elt tg iter:Expr}{ifs:List Expr}{pos pos' py:Pos}{wi:TI}{g:TG}{tc:TT}{te:TE}(hN:X.N.Nodup)(hiN:X.N[i]?=some y)(hy:Loc X.env.scope y)(S:CpOk X N nt js scope)(hc:X.calm=true)(hi:PI X tg iter wi)
  (hg: ∀s H cl C ex,PG (blk X N scope s H cl C ex) tg g) (hlow:GLow nt g) (hf: ∀s H cl C ex,PF (blk X N scope s H cl C ex) ifs tc) (he: ∀s H cl C ex,PE (blk X N scope s H cl C ex) elt te)
  (hsw:autoParam (swapsWith (.ListComp elt [⟨tg,iter,ifs,0⟩] scope pos) (some (.Name y py)) pos'.line X.env=pure true) au5._auto_1) (hs:autoParam (∀x,foldedSetIterable iter X.env x=pure x) au4._auto_1)
  (hfn:autoParam (X.fn y=true\/X.env.scope.names.lookup y=some .local) au1._auto_1):
  PS X (.Assign [.Name y py] (.ListComp elt [⟨tg,iter,ifs,0⟩] scope pos) pos') (tAsg (tComp nt js wi g tc te) (gName i)):=by
 intro pins s σ H D I h;obtain⟨cl,hcl,c1,c2⟩:=closure_of (scope:=scope) (env:=X.env) fun x hx e=>I.ok.has x.1 (S.see x hx e);rw[exec_Assign_Name_used _ _ _ _ hsw];refine wpAny_bind (wpAny_standAt (wpAny_bind ?_));show wpAny _ _ (do let _<-comprehension (.ListComp elt [⟨tg,iter,ifs,0⟩] scope pos) scope X.env _ (newList []) false (eval iter X.env) (some (assign (.Name y py) X.env))) _ _ s;refine wpAny_bind (wpAny_mono (wpAny_comprehension_free (use:=some (assign (.Name y py) X.env)) (Q:=fun _ s'=>SP X pins D .next s') rfl hs hcl S.kind S.names
  (thn (hi pins s σ H _ I h) fun v s1 h1=>thn h1 fun itv s2 h2=>?_)) (fun _ s' hq=>wpAny_pure (wpAny_pure hq)) fun _ _ e=>e)
 obtain⟨it,fp,tn,J,H2,rfl,I2,T,st2,f2,R⟩:=h2;refine comp_core (RR:=fun acc C=>compPost (model X.prog X.w) X.A X.xe (some (assign (.Name y py) X.env)) (fun _ s'=>SP X pins D .next s') acc C) (Q:=fun x H1=>gName i x σ H1 D.nx) S hc hg hlow hf he I2 T st2 f2 c1 c2 R fun Da C s' H' I' fo zz14 q=>?_;obtain⟨m,hn⟩:=zz14;show wpAny _ _ (assign (.Name y py) X.env (.ref Da)) _ _ _;obtain⟨f0,f1,_,f3,f4,f5⟩:=fo;refine wpAny_assign_Name (store_ok2 I' hN hiN hy (v:= .ref Da) rfl (fun s'' I'' zz15=>?_) hfn);obtain⟨a,sb,ha⟩:=zz15;have hCa:C≠a:=by
  rcases ha with z | z
  . rw[z];exact f1
  . exact Ne.symm (f4 _ _ z)
 refine⟨m,hn.sameBut sb hCa,fun h' sb'=>⟨_,H',?_,q⟩⟩;exact I''.turned (t':=s''.toks) (fun b o hb e=>(sb'.2 b hb).trans e) f0 f1 f3 f4 f5
end
end L2
end
section
namespace L2
open PySem PySem.Spec PyProof.Rows
open AutoSeq1 (wpAny_loadPart')
section
variable {prog : Program} {w : World} {A : Around} {E : Value -> Shared -> Prop} {s : Shared}
theorem initKw{T newId:String}{me:Value}{more:List Value}{kw:List (Str × Value)}(q1:typeLookup (.type T) "__init__"=pure (some (.builtin "object.__init__")))
  (q2:Bind.madeBy (.type T)=pure (some newId)) (q3:(some newId !=some "object.__new__")=true):Meets (Builtin.«object.__init__» ⟨me::more,kw⟩) (fun _ R s=>s.TypeIs me T/\R (.ok (.ret .none)) s):=by
 refine Meets.of_wp fun prog w A R s zz1=>?_;obtain⟨hT,hq⟩:=zz1;cases more with
 | nil=>
  cases kw with
  | nil=>exact wpAny_pure ⟨_,rfl,hq⟩
  | cons p r=>
   repeat (any_goals (first | assumption | wp_step))
   all_goals exact⟨_,rfl,hq⟩
 | cons a r=>
  repeat (any_goals (first | assumption | wp_step))
  all_goals exact⟨_,rfl,hq⟩
theorem callTyKw{T newId:String}{B:Builtin}{xs:List Value}{kw:List (Str × Value)}{S:PySem.Spec}{Q:Value->Shared->Prop}(ft:TypeCalled T newId "object.__init__")(hne:(some newId !=some "object.__new__")=true)
  (c1:checkTypeCall T ⟨xs,kw⟩=pure ()) (c2:checkBuiltinCall newId ⟨.type T::xs,kw⟩=pure ()) (c3: ∀ob,argsOk "object.__init__" ⟨ob::xs,kw⟩) (eN:entryFor table newId=some B) (mt:Meets (B ⟨.type T::xs,kw⟩) S)
  (h:S A.in1 (wants (fun ob z=>z.TypeIs ob T/\Q ob z) E) s):wpAny (model prog w) A (call (.type T) xs kw) Q E s:=by
 obtain⟨c,tl,hmro⟩:=ft.mro;have hmade:=ft.made;have hsub:=ft.sub;refine wpAny_call (codeAny_of_tree (show wpAny _ _ (callAny (.type T) _) _ _ _ from wpAny_pure ⟨Code.quiet_builtin _ (by decide+kernel),codeAny_builtin F.entry_type_call ?_⟩));rw[Around.under_plain (weight_type_call_type T xs kw) (units_type_call_type T xs kw)];have k1:=ft.notType;have k2:=ft.canCreate;repeat (any_goals (first | assumption | wp_step))
 refine codeAny_mono (codeAny_call_builtin ft.plain eN (wpAny_of_eq c2 (mt prog w A.in1 _ s h))) fun r z hr=>?_;match r,hr with
 | .error e,hr=>exact hr
 | .ok (.ret ob),hr=>
  obtain⟨hT,hq⟩:=hr;have l1:=ft.init.lookup;have l2:=ft.init.bind ob;repeat (any_goals (first | assumption | wp_step))
  refine codeAny_mono (codeAny_call_builtin ft.init.plain F.entry_object_init (ft.init.check _ _ _ _ _ _ _ _ hT (c3 ob) (initKw ft.init.lookup ft.made hne prog w A.in1 (wants (fun v z'=>v= .none/\Q ob z') E) z ⟨hT,rfl,hq⟩))) fun r2 z2 hr2=>?_;match r2,hr2 with
  | .error e,hr2=>exact hr2
  | .ok (.ret v),hr2=>
   obtain⟨rfl,hq2⟩:=hr2;repeat (any_goals (first | assumption | wp_step))
  | .ok .next,hr2=>exact hr2.elim
  | .ok .brk,hr2=>exact hr2.elim
  | .ok .cont,hr2=>exact hr2.elim
 | .ok .next,hr=>exact hr.elim
 | .ok .brk,hr=>exact hr.elim
 | .ok .cont,hr=>exact hr.elim
end
end L2
end
section
namespace L2
open PySem PySem.Spec PyProof.Rows
open AutoSeq1 (wpAny_loadPart')
noncomputable def enumLaid(h:Heap)(t:Addr)(k:Int):Heap:=
 (h.push {cls:= .type "tuple_iterator",data:= .fields #[.ref t, .int 0 0]}).push {cls:= .type "enumerate",data:= .fields #[.none, .bool false, .ref h.objs.size,rawInt k, .none, .none]}
def enumSpec(t:Addr)(k:Int):PySem.Spec:=fun _ R s=>(∃items,s.heap.IsTuple t items)/\R (.ok (.ret (.ref (s.heap.push {cls:= .type "tuple_iterator",data:= .fields #[.ref t, .int 0 0]}).objs.size))) {s with heap:=enumLaid s.heap t k}
theorem enumNew1(t:Addr)(u:Tok):Meets (Builtin.«enumerate.__new__» ⟨[.type "enumerate", .ref t, .int 1 u],[]⟩) (enumSpec t 1):=
 .of_wp fun prog w A R s zz3=>(by obtain⟨⟨items,hT⟩,h⟩:=zz3;exact(by
  obtain⟨hp,g,d,tk,os⟩:=s;have hsub:=sub_enumerate;obtain⟨⟨c,dct,dt,sl⟩,hl,hc,n,hd⟩:=id hT;replace hc:c= .type "tuple":=hc
  replace hd:dt= .seq items n:=hd
  subst hc hd;wp_walk using wpAny_loadPart' hl
  refine wpAny_stack_any fun st=>wpAny_pure ?_;split
  . rename_i c _ _ _ _ _;cases (c==Value.type "enumerate") <;> (wp_walk using wpAny_loadPart' hl,wpAny_pyIter_tuple hT;exact⟨_,rfl,h⟩)
  . wp_walk using wpAny_loadPart' hl,wpAny_pyIter_tuple hT
    exact⟨_,rfl,h⟩))
end L2
end
section
namespace L2
open PySem PySem.Spec PyProof.Rows
open AutoSeq1 (wpAny_loadPart')
section
variable {prog : Program} {w : World} {A : Around} {E : Value -> Shared -> Prop} {s : Shared}
theorem tupNext1{it t:Addr}{j:Nat}{its:Array Value}{y:Value}{Q:Value->Shared->Prop}(a1:s.heap.IsTupleIter it t j)(a2:s.heap.IsTuple t its)(a3:its[j]?=some y)
  (k: ∀h',h'.IsTupleIter it t (j+1)->Heap.SameBut it s.heap h'->Q y {s with heap:=h'}):wpAny (model prog w) A (Builtin.SmallTypes.nextOf (.ref it)) Q E s:=by
 obtain⟨ob,b1,b2,b3⟩:=id a1;obtain⟨ot,d1,_,nt,d2⟩:=a2;unfold Builtin.SmallTypes.nextOf;refine wpAny_bind (wpAny_callSpecial?_slot (name:=Str.ofString "__next__") a1.typeIs F.slot_tuple_iterator_next (wpAny_call_entry F.slot_tuple_iterator_next a1.typeIs F.entry_tuple_iterator_next ?_ (F.args_tuple_iterator_next_1 _)));show wpAny _ _ (field (.ref it) 0 >>=_) _ _ s;refine wpAny_bind (wpAny_field b1 b3 (x:= .ref t) rfl ?_);show wpAny _ _ (if (Value.ref t==Value.none)=true then _ else _) _ _ s;rw[if_neg (show¬(Value.ref t==Value.none)=true from fun z=>nomatch (show false=true from z))];show wpAny _ _ (field (.ref it) 1 >>=_) _ _ s;refine wpAny_bind (wpAny_field b1 b3 (x:= .int j 0) rfl ?_);show wpAny _ _ (seqItems? (.ref t) >>=_) _ _ s;refine wpAny_bind (wpAny_seqItems d1 d2 ?_);simp only [Int.toNat_natCast,a3];refine wpAny_bind (wpAny_setField b1 b3 (by simp) (wpAny_pure ⟨y,rfl,wpAny_pure (k _ ⟨_,Heap.get?_update_self _ b1 (Obj.isFreed_of_fields (Obj.data_mapFields b3 _)),(Obj.cls_mapFields ..).trans b2,by rw[Obj.data_mapFields b3];simp [rawInt]⟩ (Heap.SameBut.update ..))⟩))
theorem tupNext0{it t:Addr}{j:Nat}{its:Array Value}{Q:Value->Shared->Prop}(hh:A.handled=none)(a1:s.heap.IsTupleIter it t j)(a2:s.heap.IsTuple t its)(a3:its[j]?=none)
  (k: ∀h' e,Heap.ExtBut it s.heap h'->(∃o,h'.get? e=some o/\o.cls= .type "StopIteration")->E (.ref e) {s with heap:=h'}):wpAny (model prog w) A (Builtin.SmallTypes.nextOf (.ref it)) Q E s:=by
 obtain⟨ob,b1,b2,b3⟩:=id a1;obtain⟨ot,d1,_,nt,d2⟩:=a2;unfold Builtin.SmallTypes.nextOf;refine wpAny_bind (wpAny_callSpecial?_slot (name:=Str.ofString "__next__") a1.typeIs F.slot_tuple_iterator_next (wpAny_call_entry F.slot_tuple_iterator_next a1.typeIs F.entry_tuple_iterator_next ?_ (F.args_tuple_iterator_next_1 _)));show wpAny _ _ (field (.ref it) 0 >>=_) _ _ s;refine wpAny_bind (wpAny_field b1 b3 (x:= .ref t) rfl ?_);show wpAny _ _ (if (Value.ref t==Value.none)=true then _ else _) _ _ s;rw[if_neg (show¬(Value.ref t==Value.none)=true from fun z=>nomatch (show false=true from z))];show wpAny _ _ (field (.ref it) 1 >>=_) _ _ s;refine wpAny_bind (wpAny_field b1 b3 (x:= .int j 0) rfl ?_);show wpAny _ _ (seqItems? (.ref t) >>=_) _ _ s;refine wpAny_bind (wpAny_seqItems d1 d2 ?_);simp only [Int.toNat_natCast,a3];refine wpAny_bind (wpAny_rule (wpAny_bind (wpAny_setField b1 b3 (by simp) ?_)));show wpAny _ _ (newExc (.type "StopIteration") [] >>=_) _ _ _;refine wpAny_bind ?_;simp only [newExc,newTuple];refine wpAny_bind (wpAny_newObj_type ?_ (by size_fits));refine wpAny_bind (m:=firstArgMember _ _) (wpAny_of_eq (a:=Value.none) (by first | rfl | (simp only [firstArgMember];rfl)) (wpAny_newObj_type ?_ (by size_fits)));simp only [raiseNew];refine wpAny_bind (wpAny_handled ?_);first | rw[show A.in1.handled=none from hh] | rw[hh]
 exact wpAny_bind (wpAny_pure (wpAny_throw (k _ _ (((Heap.SameBut.update ..).extBut.push _).push _) ⟨_,Heap.get?_push_size _ rfl,rfl⟩)))
end
theorem drawsTup{prog:Program}{w:World}{A:Around}(hh:A.handled=none)(it t:Addr)(hne:t≠it)(its:Array Value)(k:Nat):
  Draws prog w A it [it,t] (its.size+k) (fun i v=>k<=i/\its[i - k]?=some v) (fun i h=>k<=i/\h.IsTupleIter it t (i - k)/\h.IsTuple t its) where
 live:=fun _ _ zz1=>(by obtain⟨_,st,_⟩:=zz1;exact(let ⟨o,ho,_⟩:=st;⟨o,ho⟩))
 frame:=fun _ _ _ zz2 hk=>(by obtain⟨l,st,st2⟩:=zz2;exact(⟨l,let ⟨o,q,r⟩:=st;⟨o,hk it (by simp) o q,r⟩,let ⟨o,q,r⟩:=st2;⟨o,hk t (by simp) o q,r⟩⟩))
 item:=fun i s Q E hi ⟨l,st,st2⟩ hQ=>by
  have hlt:i - k < its.size:=by grind
  refine tupNext1 st st2 (y:=its[i - k]) (by simp [hlt]) fun h' q1 q2=>hQ _ h' s.toks ⟨l,by simp [hlt]⟩ ⟨by grind,?_,?_⟩ q2
  . rw[show i+1 - k=i - k+1 by grind];exact q1
  . obtain⟨o,q,r⟩:=st2;exact⟨o,(q2.2 t hne).trans q,r⟩
 done:=fun s Q E zz4 hE=>(by obtain⟨l,st,st2⟩:=zz4;exact(tupNext0 hh st st2 (by simp) hE))
section
variable {X : Cx} {pins : List (Addr × Obj)} {σ : St} {H : Hp} {s : Shared}
theorem Inv.turnedNew{h':Heap}{t':Nat}{ch:List Addr}{T:Addr}{o:HO}(I:Inv X pins σ H s)(hc: ∀b∈ch,FpOk X pins H b)(hT:s.heap.objs.size<=T)(k: ∀b u,b∉ch->s.heap.get? b=some u->h'.get? b=some u)
  (new:ObjOk X.prog X.w (upd H T o) h' T o):Inv X pins σ (upd H T o) {s with heap:=h',toks:=t'}:=by
 have nT:H T=none:=I.hok.fresh hT;have ne: ∀b u,s.heap.get? b=some u->b≠T:=fun b u e z=>absurd (Nat.lt_of_lt_of_le (Heap.lt_size e) (z▸hT)) (Nat.lt_irrefl _);have trk: ∀b u,H b=some u->b∉ch:=fun b u e z=>by rw[(hc b z).1] at e;cases e
 refine I.step (g':=s.gens) (d':=s.drawn) (ch:=ch) (fun b hb=>?_) (fun b u _ _ hn e _=>k b u hn e) (fun b u _ _ hn e _=>⟨u.slots,k b u hn e⟩) (fun b u hn e n=>by rw[upd_ne (ne b u e)];exact n)
  (fun b u hn e=>⟨u,k b u hn e⟩) (fun b xs e=>by rw[upd_ne (ne_of_none e nT)];exact e) (fun b ob u e=>by rw[upd_ne (ne_of_none e nT)];exact e) (fun b ps e=>⟨#[],by rw[upd_ne (ne_of_none e nT),e];simp⟩) (fun m hm=>?_) (fun b u e=>?_) I.bare
 . obtain⟨f0,f1,f2,f3,f4,f5⟩:=hc b hb;exact⟨f3,f1,f4,f5⟩
 . obtain⟨ob,es,ep,ho,r⟩:=hm;exact⟨ob,es,ep,k _ ob (fun z=>(hc _ z).2.1 rfl) ho,r⟩
 . by_cases hb:b=T
   . subst hb;rw[upd_same] at e;cases e;exact new
   . rw[upd_ne hb] at e;refine(I.hok b u e).stay (fun c v hc' q=>k c v ?_ q) (fun c q=>by rw[upd_ne (ne_of_none q nT)];exact q) fun c xs q=>by rw[upd_ne (ne_of_none q nT)];exact q
     rcases hc' with z | z
     . rw[z];exact trk b u e
     . exact trk c _ z
noncomputable def Ite(K:PySem.W.Frag)(a:Addr)(k:Nat):It:=
 ⟨fun i H=> ∃xs x,SqT K H a xs/\xs[i]?=some x,fun i H x H'=> ∃p y,x= .ref p/\H p=none/\H'=upd H p (.tup [.int ((i+k:Nat):Int),y])/\ ∀xs,SqT K H a xs->xs[i]?=some y,fun i H=> ∃xs,SqT K H a xs/\xs.length=i⟩
theorem turn_enum{P:Program}{w:World}{K:PySem.W.Frag}{es:List Expr}{x1}{tp:Pos}(a e it:Addr)(k:Nat)(hei:e≠it):
  Turn P w K (.Tuple es x1 tp) (Ite K a k) [e,it] e (fun i h=>(∃old,IsEnum h e it ((i+k:Nat):Int) old)/\h.IsTupleIter it a i) where
 mem:=by simp
 obj:=fun i h st b hb=>by
  obtain⟨⟨old,st1⟩,st2⟩:=st;rcases List.mem_cons.mp hb with q | q
  . subst q;exact⟨_,st1,fun v z=>nomatch (show Data.fields _=Data.cell v from z)⟩
  . have q:b=it:=by simpa using q
    subst q;obtain⟨o,q1,q2,q3⟩:=st2;exact⟨o,q1,fun v z=>by rw[q3] at z;cases z⟩
 keep:=fun i h h' st kk=>by
  obtain⟨⟨old,st1⟩,st2⟩:=st;exact⟨⟨old,kk e (by simp) _ st1⟩,st2.at fun o q=>kk it (by simp) o q⟩
 item:=by
  intro X hP hw hK hc i pins s σ H E I hf st hg;subst hP hw hK;obtain⟨xs,x,hq,hx⟩:=hg;obtain⟨its,rv,p,hz⟩:=I.tuple hq;obtain⟨u,hu,ru⟩:=rv.get hx;obtain⟨⟨old,st1⟩,st2⟩:=st;have ha: ∃o,s.heap.get? a=some o:=let ⟨o,q,_⟩:=p;⟨o,q⟩;have hae:a≠e:=by
   rintro rfl
   obtain⟨o,q1,q2,_⟩:=p;rw[st1] at q1;cases q1;injection q2 with z;exact absurd z (by decide)
  have hai:a≠it:=by
   rintro rfl
   obtain⟨o,q1,q2,_⟩:=p;obtain⟨o',r1,r2,_⟩:=st2;rw[r1] at q1;cases q1;rw[r2] at q2;injection q2 with z;exact absurd z (by decide)
  have D:=drawsTup (prog:=X.prog) (w:=X.w) (A:=X.A.in1) (I.ok.hd hc) it a hai its.toArray k;have hlen:i < its.length:=(List.getElem?_eq_some_iff.mp hu).1;refine wpAny_pyNext_enum_itemD D st1 ⟨by lia,by rw[show i+k - k=i by lia];exact st2,p⟩ (by simp;lia) hei (by simp [hei,Ne.symm hae]) fun y h' tk hy ho hs' ht hsz hk=>?_;obtain⟨_,hy⟩:=hy;rw[show i+k - k=i by lia] at hy;have ey:y=u:=by
   have:its[i]?=some y:=by simpa using hy
   rw[hu] at this;cases this;rfl
  subst ey;refine⟨_,rfl,?_⟩;refine wpAny_letOwnedTupleGo_enum ho fun h2 he2 sb2=>?_;have hTlt:e < s.heap.objs.size:=Heap.lt_size st1;have hitlt:it < s.heap.objs.size:=let ⟨o,q,_⟩:=st2;Heap.lt_size q;have I1:Inv X pins σ (upd H s.heap.objs.size (.tup [.int ((i+k:Nat):Int),x])) {s with heap:=h2,toks:=tk+1}:=by
   refine I.turnedNew (ch:= [e,it]) hf (Nat.le_refl _) (fun b o hb q=>?_) ⟨by show 2<=sizeLine;decide,[.int ((i+k:Nat):Int) tk,y], .cons ⟨_,rfl⟩ (.cons ru .nil),?_⟩
   . have h1:b≠e:=fun z=>hb (by simp [z]);have h2':b≠it:=fun z=>hb (by simp [z]);exact(sb2.2 b h1).trans (hk b o h1 h2' q)
   . exact⟨_,(sb2.2 _ (Nat.ne_of_gt hTlt)).trans ht,rfl,rfl,_,rfl⟩
  refine⟨.ref s.heap.objs.size,_,I1,rfl,⟨_,x,rfl,I.hok.fresh (Nat.le_refl _),rfl,fun ys hy=>by rw[I.tuple_inj hy hq];exact hx⟩,⟨⟨y,?_⟩,?_⟩,fun b hb=>?_⟩
  . rw[show((i+1+k:Nat):Int)=((i+k:Nat):Int)+1 by lia];exact he2
  . obtain⟨_,q,_⟩:=hs';rw[show i+k+1 - k=i+1 by lia] at q;exact q.at fun o z=>(sb2.2 it (Ne.symm hei)).trans z
  . rw[upd_ne (fun z=>?_)]
    . exact(hf b hb).1
    . rcases List.mem_cons.mp hb with q | q
      . subst q;exact absurd (z▸hTlt) (Nat.lt_irrefl _)
      . have q:b=it:=by simpa using q
        subst q;exact absurd (z▸hitlt) (Nat.lt_irrefl _)
 done:=by
  intro X hP hw hK hc i pins s σ H E I hf st hg;subst hP hw hK;obtain⟨xs,hq,hx⟩:=hg;obtain⟨its,rv,p,hz⟩:=I.tuple hq;obtain⟨⟨old,st1⟩,st2⟩:=st;have hai:a≠it:=by
   rintro rfl
   obtain⟨o,q1,q2,_⟩:=p;obtain⟨o',r1,r2,_⟩:=st2;rw[r1] at q1;cases q1;rw[r2] at q2;injection q2 with z;exact absurd z (by decide)
  have hl:=rv.length;have D:=drawsTup (prog:=X.prog) (w:=X.w) (A:=X.A.in1) (I.ok.hd hc) it a hai its.toArray k;obtain⟨f0,f1,f2,f3,f4,f5⟩:=hf it (by simp);refine wpAny_pyNext_enum_endD D st1 ⟨by simp,?_,p⟩ fun h' eb=>⟨rfl,I.turned (t':=s.toks) (fun b o hb q=>eb b o hb q) f0 f1 f3 f4 f5⟩
  rw[show its.toArray.size+k - k=i by simp;lia];exact st2
 self:=fun A i s Q E st h=>by
  obtain⟨⟨old,st1⟩,_⟩:=st;exact wpAny_pyIter_enum st1 h
end
end L2
end
section
namespace L2
open PySem PySem.Spec PyProof.Rows
section
variable {X : Cx} {tg : Expr} {a b : Expr} {ta tb : TE} {pos : Pos}
def iEnum1(K:PySem.W.Frag)(ta:TA):TI:=fun σ H R=>ta σ H fun vs H1=> ∃a,vs= [.ref a, .int 1]/\(∃xs,SqT K H1 a xs)/\R (Ite K a 1) H1
theorem enumLaid_it{pins:List (Addr × Obj)}{σ:St}{H:Hp}{s:Shared}{R:It->Hp->Prop}{E:Value->Shared->Prop}{es:List Expr}{x1}{tp:Pos}{p:Addr}{k:Nat}{tk:Nat}(I:Inv X pins σ H s)(q:R (Ite X.K p k) H):
  wpAny (model X.prog X.w) X.A (pyIter (.ref (s.heap.push {cls:= .type "tuple_iterator",data:= .fields #[.ref p, .int 0 0]}).objs.size)) (PIE X pins σ (.Tuple es x1 tp) R) E {s with heap:=enumLaid s.heap p k,toks:=tk}:=by
 have z:(s.heap.push {cls:= .type "tuple_iterator",data:= .fields #[.ref p, .int 0 0]}).objs.size=s.heap.objs.size+1:=Heap.size_push ..;have he:IsEnum (enumLaid s.heap p k) (s.heap.objs.size+1) s.heap.objs.size k .none:=by
  have:=Heap.get?_push_size (s.heap.push {cls:= .type "tuple_iterator",data:= .fields #[.ref p, .int 0 0]}) (o:={cls:= .type "enumerate",data:= .fields #[.none, .bool false, .ref s.heap.objs.size,rawInt k, .none, .none]}) rfl;rw[z] at this;exact this
 have hi:(enumLaid s.heap p k).IsTupleIter s.heap.objs.size p 0:=⟨_,Heap.get?_push_of_some _ (Heap.get?_push_size _ rfl),rfl,rfl⟩
 rw[z];refine wpAny_pyIter_enum he ?_;refine⟨s.heap.objs.size+1,[s.heap.objs.size+1,s.heap.objs.size],_,Ite X.K p k,H,rfl,I.kept fun c o e=>Heap.get?_push_of_some _ (Heap.get?_push_of_some _ e),turn_enum p _ _ k (Nat.succ_ne_self _),⟨⟨.none,?_⟩,hi⟩,fun c hc=>?_,q⟩
 . rw[Nat.zero_add];exact he
 . have hle : s.heap.objs.size <= c := by
     rcases List.mem_cons.mp hc with q | q
     . rw[q];exact Nat.le_succ _
     . have q:c=s.heap.objs.size:=by simpa using q
       rw[q];exact Nat.le_refl _
   exact I.fpOk hle (I.hok.fresh hle)
theorem enumType2(a b:Value):checkTypeCall "enumerate" ⟨[a,b],[]⟩=pure ():=by kernel_rfl
theorem enumNewC2(a b:Value):checkBuiltinCall "enumerate.__new__" ⟨[.type "enumerate",a,b],[]⟩=pure ():=by kernel_rfl
theorem objInit3(a b c:Value):argsOk "object.__init__" ⟨[a,b,c],[]⟩:=by unfold argsOk;kernel_rfl
theorem pi_enum1{e f:Expr}{t:TA}{es:List Expr}{x1}{tp p:Pos}(hg:Gl X "enumerate")(hm:X.mg "enumerate"=none)(ha:PA X [e,f] t)(hs:autoParam (starEach [e,f] X.env= [(false,eval e X.env),(false,eval f X.env)]) au5._auto_1)(hs2:autoParam (starEach [f] X.env= [(false,eval f X.env)]) au5._auto_1):
  PI X (.Tuple es x1 tp) (.Call (.Name "enumerate" p) [e,f] [] pos) (iEnum1 X.K t):=by
 intro pins s σ H R I h;refine Call_ (ld_blt I hg hm boot_enumerate (PyProof.Rows.callWith_type1 (thn (ha pos pins s σ H _ I h) fun us s1 zz2=>?_) (by rw[hs,hs2]) (by rw[hs2];rfl)));obtain⟨vs,H1,I1,r1,q1⟩:=zz2;obtain⟨p,rfl,⟨xs,hq⟩,q⟩:=q1;obtain⟨u,u2,rfl,ru,⟨tk,rfl⟩⟩:=vals2 r1;cases ru;obtain⟨its,rv,pt,hz⟩:=I1.tuple hq;exact callTyKw F.called_enumerate (by decide) (enumType2 _ _) (enumNewC2 _ _) (fun obj=>objInit3 obj _ _) F.entry_enumerate_new (enumNew1 p tk) ⟨⟨_,pt⟩,⟨_,Heap.get?_push_size _ rfl,rfl⟩,enumLaid_it (k:=1) I1 q⟩
def rEqNilL(K:PySem.W.Frag):R2:=fun x y H Q=> ∃p q xs,x= .ref p/\y= .ref q/\SqL K H p xs/\SqL K H q []/\Q (.bl xs.isEmpty) H
def rNeNilL(K:PySem.W.Frag):R2:=fun x y H Q=> ∃p q xs,x= .ref p/\y= .ref q/\SqL K H p xs/\SqL K H q []/\Q (.bl (!xs.isEmpty)) H
theorem op_eqNilL(hu:X.A.units < cLine):OpR X (compareOp .Eq) (rEqNilL X.K):=by
 intro pins s σ H x y v u Q I rx ry h;obtain⟨p,q,xs,rfl,rfl,h1,h2,hq⟩:=h;cases rx;cases ry;obtain⟨its,rv,pl,_⟩:=I.list h1;obtain⟨its2,rv2,pl2,_⟩:=I.list h2;cases rv2;cases rv with
 | nil=>exact SeqAt.eq_listAt (e:=fun _=>true) pl.isList pl2.isList rfl hu (fun j h1 _=>absurd h1 (by simp)) ⟨.bl true,H,I,rfl,hq⟩
 | cons r rr=>exact SeqAt.eq_list_lengthsAt pl.isList pl2.isList (by simp) hu ⟨.bl false,H,I,rfl,hq⟩
def CDivW(i j:Int):Prop:=0 < j/\j < 2^64
theorem noPy{i j:Int}(h1:0 < j)(h2:j < 2^64):Builtin.divisionGoesByPylong i j=false:=by
 have e:j.natAbs < 2^64:=by lia
 have l:j.natAbs.log2 < 64:=by
  rw[Nat.log2_lt (by lia)];exact e
 unfold Builtin.divisionGoesByPylong;have: ¬(if (j==0)=true then 0 else j.natAbs.log2 / 30+1) > 300:=by
  split <;> lia
 simp only [decide_eq_false this,Bool.false_and]
theorem call_divmodW:CallR X (.builtin "divmod") (fun xs H Q=> ∃i j,xs= [.int i, .int j]/\CDivW i j/\ ∀p,H p=none->Q (.ref p) (upd H p (.tup [.int (i / j), .int (i % j)]))):=by
 intro pins s σ H xs us Q I r h;obtain⟨i,j,rfl,⟨h1,h2⟩,q⟩:=h;obtain⟨u,u2,rfl,⟨t,rfl⟩,⟨t',rfl⟩⟩:=vals2 r;refine divmod_int (by lia) ?_ (.inl (noPy h1 h2));rw[Int.fdiv_eq_ediv_of_nonneg i (by lia),Int.fmod_eq_emod_of_nonneg i (by lia)];refine⟨.ref s.heap.objs.size,_,I.laid (o:= .tup [.int (i / j), .int (i % j)]) (fun b o e=>Heap.get?_push_of_some _ e) (Nat.le_refl _) ⟨by show 2<=sizeLine;decide,[.int (i / j) s.toks, .int (i % j) (s.toks+1)], .cons ⟨_,rfl⟩ (.cons ⟨_,rfl⟩ .nil),_,Heap.get?_push_size s.heap rfl,rfl,rfl,0,rfl⟩,rfl,q _ (I.hok.fresh (Nat.le_refl _))⟩
noncomputable def isTy(T:String)(H:Hp):V->Option Bool
 | .non=>some false
 | .bl _=>some (T=="bool" || T=="int")
 | .int _=>some (T=="int")
 | .str _=>some (T=="str")
 | .ref a=>match H a with
  | some (.lst _)=>some (T=="list")
  | some (.tup _)=>some (T=="tuple")
  | _=>none
 | _=>none
theorem isi_ok{T:String}(hT:T="int"\/T="bool"\/T="tuple"\/T="list"\/T="str"):CallR X (.builtin "isinstance") (fun xs H Q=> ∃x b,xs= [x, .ty T]/\isTy T H x=some b/\Q (.bl b) H):=by
 intro pins s σ H xs us Q I r h;obtain⟨x,b,rfl,e,q⟩:=h;obtain⟨u,u2,rfl,ru,ru2⟩:=vals2 r;cases (show u2=Value.type T from ru2);have fin: ∀tk:Nat,EP X pins σ Q (.bool b) {s with toks:=tk}:=fun tk=>⟨.bl b,H,I.tok _,rfl,q⟩
 cases x with
 | non=>cases e;rcases hT with rfl | rfl | rfl | rfl | rfl <;> exact isinst_ok I ru .non rfl fin
 | bl y=>cases e;rcases hT with rfl | rfl | rfl | rfl | rfl <;> exact isinst_ok I ru (.bl y) rfl fin
 | int y=>cases e;rcases hT with rfl | rfl | rfl | rfl | rfl <;> exact isinst_ok I ru (.int y) rfl fin
 | str y=>cases e;rcases hT with rfl | rfl | rfl | rfl | rfl <;> exact isinst_ok I ru (.str y) rfl fin
 | ref a=>
  cases ha:H a with
  | none=>simp only [isTy,ha] at e;cases e
  | some o=>
   cases o with
   | lst xs=>simp only [isTy,ha] at e;cases e;rcases hT with rfl | rfl | rfl | rfl | rfl <;> exact isinst_ok I ru (.lst ha) rfl fin
   | tup xs=>simp only [isTy,ha] at e;cases e;rcases hT with rfl | rfl | rfl | rfl | rfl <;> exact isinst_ok I ru (.tup ha) rfl fin
   | _=>simp only [isTy,ha] at e;cases e
 | _=>cases e
end
end L2
end
section
namespace L2
open PySem PySem.Spec PyProof.Rows
inductive BlsAre:List Value->List Bool->Prop
 | nil:BlsAre [] []
 | cons (b:Bool) {vs:List Value} {bs:List Bool}:BlsAre vs bs->BlsAre (.bool b::vs) (b::bs)
theorem BlsAre.of: ∀{bs:List Bool} {us:List Value},Vals (bs.map V.bl) us->BlsAre us bs
 | [],_, .nil=> .nil
 | b::bs,_, .cons r rr=>by
  cases (show _=Value.bool b from r);exact .cons b (BlsAre.of rr)
theorem BlsAre.get{vs:List Value}{bs:List Bool}(h:BlsAre vs bs): ∀(i:Nat) (v:Value),vs[i]?=some v-> ∃b,bs[i]?=some b/\v= .bool b:=by
 induction h with
 | nil=>intro i v e;simp at e
 | cons b _ ih=>
  intro i v e;cases i with
  | zero=>simp at e;subst e;exact⟨b,rfl,rfl⟩
  | succ i=>simpa using ih i v (by simpa using e)
theorem rangeAll(bs:List Bool):((List.range bs.length).all fun i=>(bs[i]?).getD true)=bs.all id:=by
 rw[Bool.eq_iff_iff,List.all_eq_true,List.all_eq_true];constructor
 . intro h b hb;obtain⟨i,hi,e⟩:=List.getElem_of_mem hb;have:=h i (List.mem_range.mpr hi);simp only [List.getElem?_eq_getElem hi,Option.getD_some,e] at this;exact this
 . intro h i hi;have hi':=List.mem_range.mp hi;simp only [List.getElem?_eq_getElem hi',Option.getD_some];exact h _ (List.getElem_mem hi')
theorem call_all{X:Cx}(hc:X.calm=true):CallR X (.builtin "all") (fun xs H Q=> ∃a bs,xs= [.ref a]/\SqL X.K H a (List.map V.bl bs)/\Q (.bl (bs.all id)) H):=by
 intro pins s σ H xs us Q I r h;obtain⟨a,bs,rfl,hq,q⟩:=h;obtain⟨u,rfl,ru⟩:=vals1 r;cases ru;obtain⟨its,rv,pl,_⟩:=I.list hq;have hl:=pl.isList;have hb:=BlsAre.of rv;have hlen:its.length=bs.length:=by rw[<-rv.length,List.length_map]
 have hlt:a < s.heap.objs.size:=by obtain⟨_,e,_⟩:=hl;exact Heap.lt_size e
 refine call_all_walk (wpAny_pyIter_list hl ?_);refine⟨s.heap.objs.size,[s.heap.objs.size,a],[s.heap.objs.size],its.toArray.size,_,_,fun i=>(bs[i]?).getD true,rfl,Walks.list (A:=X.A.in1) (I.ok.hd hc) _ a (Nat.ne_of_lt hlt) its.toArray,
  ⟨⟨_,Heap.get?_push_size _ rfl,rfl,rfl⟩,hl.push _⟩,fun i v s' Q' E' hP hQ=>?_,fun h' tk hk=>?_⟩
 . obtain⟨b,e,rfl⟩:=hb.get i v (by simpa using hP);simp only [e,Option.getD_some] at hQ;exact wpAny_truthy_bool hQ
 . have e : ((List.range its.toArray.size).all fun i => (bs[i]?).getD true) = bs.all id := by
     rw[List.size_toArray,hlen];exact rangeAll bs
   rw[e];exact⟨.bl (bs.all id),H,I.kept fun b x e=>hk b x (fun hm=>by rw[List.mem_singleton.mp hm] at e;exact Nat.lt_irrefl _ (Heap.lt_size e)) (Heap.get?_push_of_some _ e),rfl,q⟩
end L2
end
section
namespace L2
open PySem PySem.Spec PyProof.Rows HT
def NewT(H:Hp)(zs:List V)(p:Addr)(H':Hp):Prop:=(H'=H/\H p=some (.tup zs))\/(H p=none/\H'=upd H p (.tup zs))
theorem NewT.at{H H':Hp}{zs:List V}{p:Addr}(h:NewT H zs p H'):H' p=some (.tup zs):=by
 rcases h with ⟨rfl,h⟩ | ⟨_,rfl⟩
 . exact h
 . exact upd_same
theorem NewT.keep{H H':Hp}{zs:List V}{p:Addr}(h:NewT H zs p H'):Same H H':=by
 rcases h with ⟨rfl,h⟩ | ⟨h,rfl⟩
 . exact fun _ _ e=>e
 . exact fun b o e=>by rw[upd_ne (ne_of_none e h)];exact e
section
variable {prog : Program} {w : World} {A : Around} {E : Value -> Shared -> Prop} {s : Shared}
theorem cat_tup0{t b:Addr}{vs ws:List Value}{Q:Value->Shared->Prop}(ht:IsTup s.heap t vs.toArray)(hb:IsTup s.heap b ws.toArray)(hv:vs= [])(h:Q (.ref b) s):wpAny (model prog w) A (binaryOp .Add (.ref t) (.ref b)) Q E s:=by
 obtain⟨⟨c1,d1,t1,l1⟩,a1,a2,n1,a3⟩:=id ht;obtain⟨⟨c2,d2,t2,l2⟩,b1,b2,n2,b3⟩:=id hb;simp only at a2 a3 b2 b3;subst a2 a3 b2 b3;exact concat_meets ⟨_,a1,rfl⟩ ⟨_,b1,rfl⟩ noFill_tuple_add seq_tuple_add PySem.F.slot_tuple_add PySem.F.entry_tuple_add (PySem.F.args_tuple_add_2 _ _) (tuple_addW0 t b vs.toArray ws.toArray n1 n2 d1 d2 l1 l2 (by simp [hv])) ⟨a1,b1,h⟩
theorem getItem_tuple_all{t sl:Addr}{items:Array Value}{vl vu:Value}{lo hi:Option Int}{Q:Value->Shared->Prop}(ht:IsTup s.heap t items)(hs:s.heap.IsSliceOf sl vl vu .none)(pl:IsPart vl lo)(pu:IsPart vu hi)
  (hw:sIx items.size 0 lo=0/\sIx items.size items.size hi=items.size) (h:Q (.ref t) s):wpAny (model prog w) A (getItem (.ref t) (.ref sl)) Q E s:=by
 obtain⟨os,hos,hcs,hds⟩:=id hs;have hTs:s.TypeIs (.ref sl) "slice":=⟨os,hos,hcs⟩
 unfold getItem;try with_reducible refine wpAny_holding ?_
 first | refine wpAny_bind (wpAny_pure ?_) | skip
 refine wpAny_bind (wpAny_sequenceKey ht.typeIs (by decide) ?_);refine wpAny_bind (wpAny_callSpecial?_slot (name:=Str.ofString "__getitem__") ht.typeIs PyProof.Rows.slot_tuple_getitem
  (wpAny_call_entry PyProof.Rows.slot_tuple_getitem ht.typeIs entry_tuple_getitem ?_ (args_tuple_getitem _ _)))
 show wpAny _ _ (Builtin.Tuple.tupleItemsOf (.ref t) >>=_) _ _ s;refine wpAny_bind (tupleItemsOf_ ht ?_);refine wpAny_bind (wpAny_typeOf hTs ?_);rw[if_pos (by decide)];refine wpAny_bind (sliceApplied_gen hs pl pu ?_);rw[hw.1,hw.2];obtain⟨ob,k1,k2,k3⟩:=id ht;show wpAny _ _ (if (((0:Nat):Int)==0 && (1:Int)==1 && (items.size - 0)==items.size)=true then _ else _) _ _ s;rw[if_pos (by simp)];wp_walk using AutoSeq1.wpAny_loadPart' k1
 all_goals exact⟨_,rfl,wpAny_pure h⟩
end
section
variable {X : Cx} {e : Expr} {te : TE} {pos p2 : Pos}
def rCatA:R2:=fun x y H Q=> ∃a b xs ys,x= .ref a/\y= .ref b/\H a=some (.tup xs)/\H b=some (.tup ys)/\xs.length+ys.length<=sizeLine/\ ∀p H',NewT H (xs++ys) p H'->Q (.ref p) H'
theorem op_catA:OpR X (binaryOp .Add) rCatA:=by
 intro pins s σ H x y v u Q I rx ry h;obtain⟨a,b,xs,ys,rfl,rfl,h1,h2,hz,q⟩:=h;cases rx;cases ry;obtain⟨its,r1,p1,_⟩:=I.tuple (SqT.of h1);obtain⟨its2,r2,p2,_⟩:=I.tuple (SqT.of h2);by_cases e1:its= []
 . have ex:xs= []:=r1.nil_iff.mp e1;refine cat_tup0 p1 p2 e1 ⟨.ref b,H,I,rfl,q b H (.inl ⟨rfl,?_⟩)⟩;rw[ex];exact h2
 . refine cat_tup p1 p2 e1 (fun e2=>⟨.ref a,H,I,rfl,q a H (.inl ⟨rfl,?_⟩)⟩) (fun e2=>?_) (by rw[<-r1.length,<-r2.length];exact hz)
   . have ey:ys= []:=r2.nil_iff.mp e2;rw[ey,List.append_nil];exact h1
   . refine⟨.ref s.heap.objs.size,_,I.laid (t':=s.toks) (o:= .tup (xs++ys)) (fun b ob q=>Heap.get?_push_of_some _ q) (Nat.le_refl _) ⟨by rw[List.length_append];exact hz,_,r1.append r2,IsTp.new _ _⟩,rfl,q _ _ (.inr ⟨I.hok.fresh (Nat.le_refl _),rfl⟩)⟩
def rSlA:V->Option Int->Option Int->Hp->VK->Prop:=fun x lo hi H Q=> ∃a xs,x= .ref a/\H a=some (.tup xs)/\ ∀p H',NewT H (cutV xs lo hi) p H'->Q (.ref p) H'
theorem sl_tupA:SlR X rSlA:=by
 intro pins s σ H x v vl vu lo hi sl Q I rx hs pl pu h;obtain⟨a,xs,rfl,hx,q⟩:=h;cases rx;obtain⟨its,r,ht,hz⟩:=I.tuple (SqT.of hx);have hlen:its.toArray.size=xs.length:=by rw[List.size_toArray];exact r.length.symm
 refine⟨"tuple",_,PyProof.Rows.slot_tuple_getitem.lookup,ht.typeIs,?_⟩;by_cases hw:sIx xs.length 0 lo=0/\sIx xs.length xs.length hi=xs.length
 . refine getItem_tuple_all ht hs pl pu (by rw[hlen];exact hw) ⟨.ref a,H,I,rfl,q a H (.inl ⟨rfl,?_⟩)⟩;unfold cutV;rw[hw.1,hw.2,List.drop_zero,Nat.sub_zero,List.take_length];exact hx
 . refine HT.getItem_tuple_cut ht hs pl pu (by rw[hlen];exact hw) ?_ (by rw[hlen];exact hz);rw[hlen];refine⟨.ref s.heap.objs.size,_,I.laid (t':=s.toks) (o:= .tup (cutV xs lo hi)) (fun b ob q=>Heap.get?_push_of_some _ q) (Nat.le_refl _) ?_,rfl,q _ _ (.inr ⟨I.hok.fresh (Nat.le_refl _),rfl⟩)⟩;exact⟨Nat.le_trans (cutV_length xs lo hi) hz,_,(r.drop (HT.sIx xs.length 0 lo)).take (HT.sIx xs.length xs.length hi - HT.sIx xs.length 0 lo),IsTp.new _ _⟩
end
end L2
end
section
namespace L2
open PySem PySem.Spec PyProof.Rows
theorem atI_int{α:Type}{xs:List α}{i:Int}{v:α}(h:0<=i)(e:xs[i.toNat]?=some v):atI xs i=some v:=by
 have:i=((i.toNat:Nat):Int):=by lia
 rw[this];exact atI_nat e
theorem ixN_int{n:Nat}{i:Int}(h:0<=i)(hl:i < n):ixN n i=some i.toNat:=by
 unfold ixN;rw[if_pos h,if_pos hl]
def Has(P:Program)(w:World)(K:PySem.W.Frag)(mg:Str->Option Value)(base:Heap)(x:Str)(k:Nat)(ps:List Str)(sp:Sp):Prop:=
 ∃f fd,mg x=some (.ref f)/\PySem.W.keepIn K (.ref f)=true/\Binds K fd ps []/\FnOk P w K mg base CX0 k f fd ps sp
theorem pe_has{X:Cx}{x:Str}{k:Nat}{ps:List Str}{sp:Sp}{e:Expr}{es:List Expr}{t:TA}{p pos:Pos}(h:Has X.prog X.w X.K X.mg X.base x k ps sp)(hr:Room k X.A)(hg:Gl X x)(ha:PA X (e::es) t)
  (hdb:autoParam ((x==("__debug__":Str))=false) au2._auto_1) (he:autoParam (starEach (e::es) X.env=(false,eval e X.env)::starEach es X.env) au5._auto_1) (hpl:autoParam ((backTo pos (starEach es X.env)).any (·.1)=false) au5._auto_1):
  PE X (.Call (.Name x p) (e::es) [] pos) (tCall sp [] E0 t):=by
 obtain⟨f,fd,h1,h2,h3,h4⟩:=h;exact pe_call h4 hr hg h1 h2 h3 .nil pass0 ha hdb he hpl
end L2
namespace LB
open PySem L2 PyProof.Rows
theorem boot_int':bootBuiltins "int"=some (.type "int"):=by decide+kernel
theorem boot_tuple':bootBuiltins "tuple"=some (.type "tuple"):=by decide+kernel
theorem boot_bool':bootBuiltins "bool"=some (.type "bool"):=by decide+kernel
theorem boot_str':bootBuiltins "str"=some (.type "str"):=by decide+kernel
theorem boot_list':bootBuiltins "list"=some (.type "list"):=by decide+kernel
theorem boot_divmod':bootBuiltins "divmod"=some (.builtin "divmod"):=by decide+kernel
theorem kct: ¬(("cells":Str)="turn"):=by decide+kernel
noncomputable def bx(c:Addr)(t:Int):List (Key × V):= [(Sum.inr "cells", .ref c),(Sum.inr "turn", .int t)]
theorem bx_cells(c:Addr)(t:Int):valV (bx c t) (Sum.inr "cells":Key)=some (.ref c):=by
 simp [valV,bx]
theorem bx_turn(c:Addr)(t:Int):valV (bx c t) (Sum.inr "turn":Key)=some (.int t):=by
 simp [valV,bx,kct]
theorem bx_put(c:Addr)(t u:Int):putK (bx c t) (Sum.inr "turn":Key) (.int u)=bx c u:=by
 simp [putK,bx,kct]
structure Box(H:Hp)(d c:Addr)(t:Int):Prop where
 dc:H d=some (.dK (bx c t))
 cs: ∃ns:List Int,H c=some (.lst (ns.map V.int))/\0 < ns.length/\ns.length<=63
 t0:0<=t
 t1:t<=1000000
theorem Box.ne{H:Hp}{d c:Addr}{t:Int}(b:Box H d c t):d≠c:=let ⟨_,h,_⟩:=b.cs;ne_of b.dc h (by intro z;cases z)
def Kp(d c:Addr)(H H':Hp):Prop:= ∀b o,H b=some o->b≠d->b≠c->H' b=some o
theorem Box.same{H H':Hp}{d c:Addr}{t:Int}(b:Box H d c t)(s:Same H H'):Box H' d c t:=⟨s _ _ b.dc,let ⟨ns,h,r⟩:=b.cs;⟨ns,s _ _ h,r⟩,b.t0,b.t1⟩
def spTake:Sp:=fun vs H Q _=> ∃(d c:Addr) (t m:Int),vs= [.ref d, .int m]/\Box H d c t/\t < 1000000/\0 < m/\m < 2^64/\ ∀(r:Int) (H':Hp),0<=r->r < m->Box H' d c (t+1)->Kp d c H H'->Q (.int r) H'
def spBegin(K:PySem.W.Frag):Sp:=fun vs H Q _=> ∃(a:Addr) (ns:List Int),vs= [.ref a]/\SqL K H a (ns.map V.int)/\ns.length<=63/\ ∀(d c:Addr) (H':Hp),Box H' d c 0->Same H H'->Q (.ref d) H'
theorem Same.new{p:Addr}{H:Hp}{o:HO}(h:H p=none):Same H (upd H p o):=fun b u e=>by rw[upd_ne (ne_of_none e h)];exact e
end LB
end
section
namespace L2
open PySem PySem.Spec PyProof.Rows
def SIt(h:Heap)(it a:Addr)(xs:Array Value)(k:Nat):Prop:=(h.IsListIter it a k/\h.IsList a xs)\/(h.IsTupleIter it a k/\h.IsTuple a xs)
theorem SIt.ext{h h':Heap}{it a:Addr}{xs:Array Value}{k:Nat}(z:SIt h it a xs k)(e1: ∀o,h.get? it=some o->h'.get? it=some o)(e2: ∀o,h.get? a=some o->h'.get? a=some o):SIt h' it a xs k:=by
 rcases z with ⟨z1,z2⟩ | ⟨z1,z2⟩
 . exact .inl ⟨let ⟨o,q,r⟩:=z1;⟨o,e1 o q,r⟩,let ⟨o,q,r⟩:=z2;⟨o,e2 o q,r⟩⟩
 . exact .inr ⟨let ⟨o,q,r⟩:=z1;⟨o,e1 o q,r⟩,let ⟨o,q,r⟩:=z2;⟨o,e2 o q,r⟩⟩
section
variable {prog : Program} {w : World} {A : Around} {E : Value -> Shared -> Prop} {s : Shared}
theorem nextS1{it a:Addr}{xs:Array Value}{k:Nat}{y:Value}{Q:Value->Shared->Prop}(z:SIt s.heap it a xs k)(hne:a≠it)(hy:xs[k]?=some y)
  (hQ: ∀h',SIt h' it a xs (k+1)->Heap.SameBut it s.heap h'->Q y {s with heap:=h'}):wpAny (model prog w) A (Builtin.SmallTypes.nextOf (.ref it)) Q E s:=by
 rcases z with ⟨z1,z2⟩ | ⟨z1,z2⟩
 . exact wpAny_nextOf_list_item z1 z2 hy fun h' q sb=>hQ h' (.inl ⟨q,let ⟨o,e,r⟩:=z2;⟨o,(sb.2 a hne).trans e,r⟩⟩) sb
 . exact tupNext1 z1 z2 hy fun h' q sb=>hQ h' (.inr ⟨q,let ⟨o,e,r⟩:=z2;⟨o,(sb.2 a hne).trans e,r⟩⟩) sb
theorem nextS0{it a:Addr}{xs:Array Value}{k:Nat}{Q:Value->Shared->Prop}(hh:A.handled=none)(z:SIt s.heap it a xs k)(hy:xs[k]?=none)
  (hE: ∀h' e,Heap.ExtBut it s.heap h'->(∃o,h'.get? e=some o/\o.cls= .type "StopIteration")->E (.ref e) {s with heap:=h'}):wpAny (model prog w) A (Builtin.SmallTypes.nextOf (.ref it)) Q E s:=by
 rcases z with ⟨z1,z2⟩ | ⟨z1,z2⟩
 . exact wpAny_nextOf_list_end hh z1 z2 hy hE
 . exact tupNext0 hh z1 z2 hy hE
theorem zipS_body{z TI TO i1 i2 l1 l2:Addr}{k1 k2:Nat}{xs ys:Array Value}{x y a b:Value}{Q:Value->Shared->Prop}(D:ZipApart z TI TO i1 i2 l1 l2)(hz:IsZip s.heap z TI TO .none)(hTI:IsPair s.heap TI (.ref i1) (.ref i2))(hTO:IsPair s.heap TO a b)
  (h1:SIt s.heap i1 l1 xs k1) (h2:SIt s.heap i2 l2 ys k2) (hx:xs[k1]?=some x) (hy:ys[k2]?=some y)
  (hQ: ∀h',IsZip h' z TI TO (rawInt s.heap.objs.size)->IsPair h' TO x y->SIt h' i1 l1 xs (k1+1)->SIt h' i2 l2 ys (k2+1)->IsPair h' s.heap.objs.size x y->h'.objs.size=s.heap.objs.size+1->
   (∀c o,c≠z->c≠TO->c≠i1->c≠i2->s.heap.get? c=some o->h'.get? c=some o)->Q (.ref s.heap.objs.size) {s with heap:=h'}):wpAny (model prog w) A (Builtin.«zip.__next__» ⟨[.ref z],[]⟩) (fun fin s'=> ∃v,fin= .done (.ret v)/\Q v s') E s:=by
 show wpAny _ _ (field (.ref z) 2 >>=_) _ _ _;refine wpAny_bind (wpAny_field hz rfl (x:= .bool false) rfl ?_);show wpAny _ _ (field (.ref z) 3 >>=_) _ _ _;refine wpAny_bind (wpAny_field hz rfl (x:= .ref TI) rfl ?_);refine wpAny_bind (wpAny_seqItems hTI rfl ?_);show wpAny _ _ (Builtin.SmallTypes.ownedTupleIsFree (.ref z) >>=_) _ _ _;refine wpAny_bind ?_;unfold Builtin.SmallTypes.ownedTupleIsFree;refine wpAny_bind (wpAny_field hz rfl (x:= .none) rfl (wpAny_pure ?_));simp only [if_true];refine wpAny_bind (wpAny_rule ?_);refine wpAny_bind (wpAny_field hz rfl (x:= .ref TO) rfl ?_);refine wpAny_bind (wpAny_setField_rec hz (by simp) fun h₁ hz₁ hs₁=>?_);replace hz₁:IsZip h₁ z TI TO .ellipsis:=hz₁;refine wpAny_bind ?_;simp only [List.zipIdx_cons,List.zipIdx_nil,List.forIn_cons,List.forIn_nil]
 refine wpAny_bind (wpAny_bind (wpAny_onRaise ?_));show wpAny _ _ (Builtin.SmallTypes.nextOf (.ref i1) >>=_) _ _ _;refine wpAny_bind (nextS1 (h1.ext (fun o e=>hs₁.extBut _ _ D.i1z e) fun o e=>hs₁.extBut _ _ D.l1z e) D.l1i1 hx fun h₂ h1₂ hs₂=>wpAny_pure ?_);have hTO₂:IsPair h₂ TO a b:=hs₂.extBut _ _ D.TOi1 (hs₁.extBut _ _ D.TOz hTO);refine wpAny_bind (wpAny_seqItems hTO₂ rfl ?_);refine wpAny_bind (wpAny_updateSeq_pair hTO₂ fun h₃ hTO₃ hs₃=>?_);replace hTO₃:IsPair h₃ TO x b:=hTO₃;refine wpAny_bind (wpAny_letGo (wpAny_pure ?_));refine wpAny_bind (wpAny_bind (wpAny_onRaise ?_));show wpAny _ _ (Builtin.SmallTypes.nextOf (.ref i2) >>=_) _ _ _;have k3: ∀c o,c≠z->c≠i1->c≠TO->s.heap.get? c=some o->h₃.get? c=some o:=fun c o c1 c2 c3 e=>hs₃.extBut _ _ c3 (hs₂.extBut _ _ c2 (hs₁.extBut _ _ c1 e));refine wpAny_bind (nextS1 (h2.ext (fun o e=>k3 _ o D.i2z D.i12.symm D.TOi2.symm e) fun o e=>k3 _ o D.l2z D.l2i1 D.l2TO e) D.l2i2 hy fun h₄ h2₄ hs₄=>wpAny_pure ?_);have hTO₄:IsPair h₄ TO x b:=hs₄.extBut _ _ D.TOi2 hTO₃;refine wpAny_bind (wpAny_seqItems hTO₄ rfl ?_);refine wpAny_bind (wpAny_updateSeq_pair hTO₄ fun h₅ hTO₅ hs₅=>?_);replace hTO₅:IsPair h₅ TO x y:=hTO₅;refine wpAny_bind (wpAny_letGo (wpAny_pure (wpAny_pure ?_)));refine wpAny_bind (wpAny_seqItems hTO₅ rfl ?_);refine wpAny_bind (wpAny_newTuple ?_);have hsz:h₅.objs.size=s.heap.objs.size:=by rw[hs₅.1,hs₄.1,hs₃.1,hs₂.1,hs₁.1]
 have k5: ∀c o,c≠z->c≠TO->c≠i1->c≠i2->s.heap.get? c=some o->h₅.get? c=some o:=fun c o c1 c2 c3 c4 e=>hs₅.extBut _ _ c2 (hs₄.extBut _ _ c4 (k3 c o c1 c3 c2 e));have hz₅:IsZip h₅ z TI TO .ellipsis:=hs₅.extBut _ _ D.TOz.symm (hs₄.extBut _ _ D.i2z.symm (hs₃.extBut _ _ D.TOz.symm (hs₂.extBut _ _ D.i1z.symm hz₁)));have f1:SIt h₅ i1 l1 xs (k1+1):=h1₂.ext (fun o e=>hs₅.extBut _ _ D.TOi1.symm (hs₄.extBut _ _ D.i12 (hs₃.extBut _ _ D.TOi1.symm e))) fun o e=>hs₅.extBut _ _ D.l1TO (hs₄.extBut _ _ D.l1i2 (hs₃.extBut _ _ D.l1TO e));have f2:SIt h₅ i2 l2 ys (k2+1):=h2₄.ext (fun o e=>hs₅.extBut _ _ D.TOi2.symm e) fun o e=>hs₅.extBut _ _ D.l2TO e;have zlt:z < h₅.objs.size:=Heap.lt_size hz₅;show wpAny _ _ (Builtin.SmallTypes.ownedTupleHandOut (.ref z) (.ref h₅.objs.size) >>=_) _ _ _;refine wpAny_bind ?_;unfold Builtin.SmallTypes.ownedTupleHandOut;have hz₆:IsZip (h₅.push {cls:= .type "tuple",data:= .seq #[x,y]}) z TI TO .ellipsis:=Heap.get?_push_of_some _ hz₅;refine wpAny_bind (wpAny_setField_rec hz₆ (by simp) fun h₇ hz₇ hs₇=>?_);replace hz₇:IsZip h₇ z TI TO (rawInt h₅.objs.size):=hz₇;refine wpAny_setField_rec hz₇ (by simp) fun h₈ hz₈ hs₈=>?_
 replace hz₈:IsZip h₈ z TI TO (rawInt h₅.objs.size):=hz₈
 have up: ∀c o,c≠z->h₅.get? c=some o->h₈.get? c=some o:=fun c o c1 e=>hs₈.extBut _ _ c1 (hs₇.extBut _ _ c1 (Heap.get?_push_of_some _ e));have pT:IsPair h₈ h₅.objs.size x y:=hs₈.extBut _ _ (Nat.ne_of_gt zlt) (hs₇.extBut _ _ (Nat.ne_of_gt zlt) (Heap.get?_push_size _ rfl));have s8:h₈.objs.size=h₅.objs.size+1:=by rw[hs₈.1,hs₇.1,Heap.size_push]
 rw[hsz] at hz₈ pT s8;refine wpAny_pure ⟨_,rfl,?_⟩;show Q (.ref h₅.objs.size) _;rw[hsz];exact hQ h₈ hz₈ (up _ _ D.TOz hTO₅) (f1.ext (fun o e=>up _ o D.i1z e) fun o e=>up _ o D.l1z e) (f2.ext (fun o e=>up _ o D.i2z e) fun o e=>up _ o D.l2z e) pT s8 fun c o c1 c2 c3 c4 e=>up c o c1 (k5 c o c1 c2 c3 c4 e)
theorem zipS_over{z TI TO i1 i2 l1 l2:Addr}{k1 k2:Nat}{xs ys:Array Value}{a b:Value}{Q:Fin->Shared->Prop}(hh:A.handled=none)(D:ZipApart z TI TO i1 i2 l1 l2)(hz:IsZip s.heap z TI TO .none)(hTI:IsPair s.heap TI (.ref i1) (.ref i2))(hTO:IsPair s.heap TO a b)
  (h1:SIt s.heap i1 l1 xs k1) (h2:SIt s.heap i2 l2 ys k2) (hend:xs[k1]?=none\/ys[k2]?=none)
  (hE: ∀h' e,(∀c o,c≠z->c≠TO->c≠i1->c≠i2->s.heap.get? c=some o->h'.get? c=some o)->(∃o,h'.get? e=some o/\o.cls= .type "StopIteration")->E (.ref e) {s with heap:=h'}):wpAny (model prog w) A (Builtin.«zip.__next__» ⟨[.ref z],[]⟩) Q E s:=by
 show wpAny _ _ (field (.ref z) 2 >>=_) _ _ _;refine wpAny_bind (wpAny_field hz rfl (x:= .bool false) rfl ?_);show wpAny _ _ (field (.ref z) 3 >>=_) _ _ _;refine wpAny_bind (wpAny_field hz rfl (x:= .ref TI) rfl ?_);refine wpAny_bind (wpAny_seqItems hTI rfl ?_);show wpAny _ _ (Builtin.SmallTypes.ownedTupleIsFree (.ref z) >>=_) _ _ _;refine wpAny_bind ?_;unfold Builtin.SmallTypes.ownedTupleIsFree;refine wpAny_bind (wpAny_field hz rfl (x:= .none) rfl (wpAny_pure ?_));simp only [if_true];refine wpAny_bind (wpAny_rule ?_);refine wpAny_bind (wpAny_field hz rfl (x:= .ref TO) rfl ?_);refine wpAny_bind (wpAny_setField_rec hz (by simp) fun h₁ hz₁ hs₁=>?_);replace hz₁:IsZip h₁ z TI TO .ellipsis:=hz₁;refine wpAny_bind ?_;simp only [List.zipIdx_cons,List.zipIdx_nil,List.forIn_cons,List.forIn_nil]
 refine wpAny_bind (wpAny_bind (wpAny_onRaise ?_));show wpAny _ _ (Builtin.SmallTypes.nextOf (.ref i1) >>=_) _ _ _;have g1:SIt h₁ i1 l1 xs k1:=h1.ext (fun o e=>hs₁.extBut _ _ D.i1z e) fun o e=>hs₁.extBut _ _ D.l1z e;cases hx:xs[k1]? with
 | none=>
  refine wpAny_bind (nextS0 hh g1 hx fun h₂ e hs₂ he=>?_);obtain⟨oe,hoe,hce⟩:=he;have hz₂:IsZip h₂ z TI TO .ellipsis:=hs₂ _ _ D.i1z.symm hz₁;have hez:e≠z:=fun y=>by subst y;rw[hz₂] at hoe;cases hoe;simp at hce
  exact wpAny_setField_rec hz₂ (by simp) fun h₃ _ hs₃=>hE h₃ e (fun c o c1 _ c3 _ y=>hs₃.extBut _ _ c1 (hs₂ _ _ c3 (hs₁.extBut _ _ c1 y))) ⟨oe,hs₃.extBut _ _ hez hoe,hce⟩
 | some x=>
  have hy:ys[k2]?=none:=hend.resolve_left fun q=>by rw[hx] at q;cases q
  refine wpAny_bind (nextS1 g1 D.l1i1 hx fun h₂ h1₂ hs₂=>wpAny_pure ?_);have hTO₂:IsPair h₂ TO a b:=hs₂.extBut _ _ D.TOi1 (hs₁.extBut _ _ D.TOz hTO);refine wpAny_bind (wpAny_seqItems hTO₂ rfl ?_);refine wpAny_bind (wpAny_updateSeq_pair hTO₂ fun h₃ hTO₃ hs₃=>?_);refine wpAny_bind (wpAny_letGo (wpAny_pure ?_));refine wpAny_bind (wpAny_bind (wpAny_onRaise ?_));show wpAny _ _ (Builtin.SmallTypes.nextOf (.ref i2) >>=_) _ _ _;have k3: ∀c o,c≠z->c≠i1->c≠TO->s.heap.get? c=some o->h₃.get? c=some o:=fun c o c1 c2 c3 e=>hs₃.extBut _ _ c3 (hs₂.extBut _ _ c2 (hs₁.extBut _ _ c1 e));refine wpAny_bind (nextS0 hh (h2.ext (fun o e=>k3 _ o D.i2z D.i12.symm D.TOi2.symm e) fun o e=>k3 _ o D.l2z D.l2i1 D.l2TO e) hy fun h₄ e hs₄ he=>?_);obtain⟨oe,hoe,hce⟩:=he;have hz₄:IsZip h₄ z TI TO .ellipsis:=hs₄ _ _ D.i2z.symm (hs₃.extBut _ _ D.TOz.symm (hs₂.extBut _ _ D.i1z.symm hz₁));have hez:e≠z:=fun y=>by subst y;rw[hz₄] at hoe;cases hoe;simp at hce
  exact wpAny_setField_rec hz₄ (by simp) fun h₅ _ hs₅=>hE h₅ e (fun c o c1 c2 c3 c4 y=>hs₅.extBut _ _ c1 (hs₄ _ _ c4 (k3 c o c1 c3 c2 y))) ⟨oe,hs₅.extBut _ _ hez hoe,hce⟩
theorem zipS_item{z TI TO i1 i2 l1 l2:Addr}{k1 k2:Nat}{xs ys:Array Value}{x y a b:Value}{Q:Option Value->Shared->Prop}(D:ZipApart z TI TO i1 i2 l1 l2)(hz:IsZip s.heap z TI TO .none)(hTI:IsPair s.heap TI (.ref i1) (.ref i2))(hTO:IsPair s.heap TO a b)
  (h1:SIt s.heap i1 l1 xs k1) (h2:SIt s.heap i2 l2 ys k2) (hx:xs[k1]?=some x) (hy:ys[k2]?=some y)
  (hQ: ∀h',IsZip h' z TI TO (rawInt s.heap.objs.size)->IsPair h' TO x y->SIt h' i1 l1 xs (k1+1)->SIt h' i2 l2 ys (k2+1)->IsPair h' s.heap.objs.size x y->h'.objs.size=s.heap.objs.size+1->
   (∀c o,c≠z->c≠TO->c≠i1->c≠i2->s.heap.get? c=some o->h'.get? c=some o)->Q (some (.ref s.heap.objs.size)) {s with heap:=h'}):wpAny (model prog w) A (pyNext (.ref z)) Q E s:=by
 have hT:s.TypeIs (.ref z) "zip":=⟨_,hz,rfl⟩;unfold pyNext;exact wpAny_bind (wpAny_attempt (wpAny_callSpecial?_slot (name:=Str.ofString "__next__") hT F.slot_zip_next (wpAny_call_entry F.slot_zip_next hT F.entry_zip_next
   (zipS_body D hz hTI hTO h1 h2 hx hy fun h' a1 a2 a3 a4 a5 a6 a7=>wpAny_pure (hQ h' a1 a2 a3 a4 a5 a6 a7)) (F.args_zip_next_1 _))))
theorem zipS_end{z TI TO i1 i2 l1 l2:Addr}{k1 k2:Nat}{xs ys:Array Value}{a b:Value}{Q:Option Value->Shared->Prop}(hh:A.handled=none)(D:ZipApart z TI TO i1 i2 l1 l2)(hz:IsZip s.heap z TI TO .none)(hTI:IsPair s.heap TI (.ref i1) (.ref i2))(hTO:IsPair s.heap TO a b)
  (h1:SIt s.heap i1 l1 xs k1) (h2:SIt s.heap i2 l2 ys k2) (hend:xs[k1]?=none\/ys[k2]?=none)
  (hQ: ∀h',(∀c o,c≠z->c≠TO->c≠i1->c≠i2->s.heap.get? c=some o->h'.get? c=some o)->Q none {s with heap:=h'}):wpAny (model prog w) A (pyNext (.ref z)) Q E s:=by
 have hT:s.TypeIs (.ref z) "zip":=⟨_,hz,rfl⟩;unfold pyNext;refine wpAny_bind (wpAny_attempt (wpAny_callSpecial?_slot (name:=Str.ofString "__next__") hT F.slot_zip_next (wpAny_call_entry F.slot_zip_next hT F.entry_zip_next (zipS_over hh D hz hTI hTO h1 h2 hend fun h' e hk he=>?_) (F.args_zip_next_1 _))));obtain⟨o,ho,hc⟩:=he;refine wpAny_bind (wpAny_isInstance (T:="StopIteration") (b:=true) ⟨o,ho,hc⟩ isSubtype_stop ?_);exact wpAny_pure (hQ _ hk)
end
end L2
end
section
namespace L2
open PySem PySem.Spec PyProof.Rows
open AutoSeq1 (wpAny_loadPart')
noncomputable def itO(b:Bool)(a:Addr):Obj:={cls:= .type (if b then "tuple_iterator" else "list_iterator"),data:= .fields #[.ref a, .int 0 0]}
def IsSq(b:Bool)(h:Heap)(a:Addr)(xs:Array Value):Prop:=match b with
 | true=>h.IsTuple a xs
 | false=>h.IsList a xs
noncomputable def zipL2(h:Heap)(b1 b2:Bool)(a1 a2:Addr):Heap:=(h.push (itO b1 a1)).push (itO b2 a2)
noncomputable def zipL4(h:Heap)(b1 b2:Bool)(a1 a2:Addr):Heap:=((zipL2 h b1 b2 a1 a2).push {cls:= .type "tuple",data:= .seq #[.ref h.objs.size, .ref (h.push (itO b1 a1)).objs.size]}).push {cls:= .type "tuple",data:= .seq #[.none, .none]}
noncomputable def zipL5(h:Heap)(b1 b2:Bool)(a1 a2:Addr):Heap:=
 (zipL4 h b1 b2 a1 a2).push {cls:= .type "zip",data:= .fields #[.none, .bool false, .bool false, .ref (zipL2 h b1 b2 a1 a2).objs.size, .ref ((zipL2 h b1 b2 a1 a2).push {cls:= .type "tuple",data:= .seq #[.ref h.objs.size, .ref (h.push (itO b1 a1)).objs.size]}).objs.size]}
theorem zipNew(b1 b2:Bool)(a1 a2:Addr)(xs ys:Array Value):
  Meets (Builtin.«zip.__new__» ⟨[.type "zip", .ref a1, .ref a2],[]⟩) (fun _ R s=>IsSq b1 s.heap a1 xs/\IsSq b2 s.heap a2 ys/\R (.ok (.ret (.ref (zipL4 s.heap b1 b2 a1 a2).objs.size))) {s with heap:=zipL5 s.heap b1 b2 a1 a2}):=
 .of_wp fun prog w A R s h=>by
  obtain⟨hp,g,d,tk,os⟩:=s;obtain⟨h1,h2,h⟩:=h;have hsub:=sub_zip;cases b1 <;> cases b2
  . have q1:Heap.IsList (Shared.heap ⟨hp,g,d,tk,os⟩) a1 xs:=h1;have q2:Heap.IsList (Shared.heap ⟨hp.push {cls:= .type "list_iterator",data:= .fields #[.ref a1, .int 0 0]},g,d,tk,os⟩) a2 ys:=Heap.IsList.push h2 _;wp_walk using wpAny_pyIter_list q1,wpAny_pyIter_list q2
    exact⟨_,rfl,h⟩
  . have q1:Heap.IsList (Shared.heap ⟨hp,g,d,tk,os⟩) a1 xs:=h1;have q2:Heap.IsTuple (Shared.heap ⟨hp.push {cls:= .type "list_iterator",data:= .fields #[.ref a1, .int 0 0]},g,d,tk,os⟩) a2 ys:=let ⟨o,e,r⟩:=h2;⟨o,Heap.get?_push_of_some _ e,r⟩;wp_walk using wpAny_pyIter_list q1,wpAny_pyIter_tuple q2
    exact⟨_,rfl,h⟩
  . have q1:Heap.IsTuple (Shared.heap ⟨hp,g,d,tk,os⟩) a1 xs:=h1;have q2:Heap.IsList (Shared.heap ⟨hp.push {cls:= .type "tuple_iterator",data:= .fields #[.ref a1, .int 0 0]},g,d,tk,os⟩) a2 ys:=Heap.IsList.push h2 _;wp_walk using wpAny_pyIter_tuple q1,wpAny_pyIter_list q2
    exact⟨_,rfl,h⟩
  . have q1:Heap.IsTuple (Shared.heap ⟨hp,g,d,tk,os⟩) a1 xs:=h1;have q2:Heap.IsTuple (Shared.heap ⟨hp.push {cls:= .type "tuple_iterator",data:= .fields #[.ref a1, .int 0 0]},g,d,tk,os⟩) a2 ys:=let ⟨o,e,r⟩:=h2;⟨o,Heap.get?_push_of_some _ e,r⟩;wp_walk using wpAny_pyIter_tuple q1,wpAny_pyIter_tuple q2
    exact⟨_,rfl,h⟩
end L2
end
section
namespace L2
open PySem PySem.Spec PyProof.Rows
def Sqb(b:Bool)(H:Hp)(a:Addr)(xs:List V):Prop:=match b with
 | true=>H a=some (.tup xs)
 | false=>H a=some (.lst xs)
theorem Sqb.inj{b:Bool}{H:Hp}{a:Addr}{xs ys:List V}(h:Sqb b H a xs)(k:Sqb b H a ys):xs=ys:=by
 cases b
 . have h:H a=some (.lst xs):=h;have k:H a=some (.lst ys):=k;rw[h] at k;cases k;rfl
 . have h:H a=some (.tup xs):=h;have k:H a=some (.tup ys):=k;rw[h] at k;cases k;rfl
theorem Sqb.some{b:Bool}{H:Hp}{a:Addr}{xs:List V}(h:Sqb b H a xs): ∃o,H a=some o:=by
 cases b
 . exact⟨_,h⟩
 . exact⟨_,h⟩
def Itb(b:Bool)(h:Heap)(it a:Addr)(k:Nat):Prop:=match b with
 | true=>h.IsTupleIter it a k
 | false=>h.IsListIter it a k
theorem Itb.obj{b:Bool}{h:Heap}{it a:Addr}{k:Nat}(z:Itb b h it a k): ∃o,h.get? it=Option.some o/\ ∀v,o.data≠ .cell v:=by
 cases b
 . obtain⟨o,q,_,d⟩:=(show h.IsListIter it a k from z);exact⟨o,q,fun v y=>by rw[d] at y;cases y⟩
 . obtain⟨o,q,_,d⟩:=(show h.IsTupleIter it a k from z);exact⟨o,q,fun v y=>by rw[d] at y;cases y⟩
theorem Itb.keep{b:Bool}{h h':Heap}{it a:Addr}{k:Nat}(z:Itb b h it a k)(e: ∀o,h.get? it=Option.some o->h'.get? it=Option.some o):Itb b h' it a k:=by
 cases b
 . obtain⟨o,q,r⟩:=(show h.IsListIter it a k from z);exact(show h'.IsListIter it a k from⟨o,e o q,r⟩)
 . obtain⟨o,q,r⟩:=(show h.IsTupleIter it a k from z);exact(show h'.IsTupleIter it a k from⟨o,e o q,r⟩)
theorem Itb.sit{b:Bool}{h:Heap}{it a:Addr}{k:Nat}{xs:Array Value}(z:Itb b h it a k)(q:IsSq b h a xs):SIt h it a xs k:=by
 cases b
 . exact .inl ⟨z,q⟩
 . exact .inr ⟨z,q⟩
theorem itb_of{b:Bool}{h:Heap}{it a:Addr}{k:Nat}{xs:Array Value}(z:SIt h it a xs k)(q:IsSq b h a xs):Itb b h it a k:=by
 cases b
 . rcases z with ⟨z1,_⟩ | ⟨_,o,e1,e2,_⟩
   . exact z1
   . obtain⟨o',f1,f2,_⟩:=(show h.IsList a xs from q)
     rw[f1] at e1;cases e1;rw[f2] at e2;injection e2 with y;exact absurd y (by decide)
 . rcases z with ⟨_,o,e1,e2,_⟩ | ⟨z1,_⟩
   . obtain⟨o',f1,f2,_⟩:=(show h.IsTuple a xs from q)
     rw[f1] at e1;cases e1;rw[f2] at e2;injection e2 with y;exact absurd y (by decide)
   . exact z1
section
variable {X : Cx} {pins : List (Addr × Obj)} {σ : St} {H : Hp} {s : Shared}
theorem Inv.sqb{b:Bool}{a:Addr}{xs:List V}(I:Inv X pins σ H s)(h:Sqb b H a xs): ∃its:List Value,Vals xs its/\IsSq b s.heap a its.toArray:=by
 cases b
 . obtain⟨its,rv,pl,_⟩:=I.list (SqL.of (show H a=Option.some (.lst xs) from h));exact⟨its,rv,pl.isList⟩
 . obtain⟨its,rv,pl,_⟩:=I.tuple (SqT.of (show H a=Option.some (.tup xs) from h));exact⟨its,rv,pl⟩
end
section
variable {X : Cx} {pins : List (Addr × Obj)} {σ : St} {H : Hp} {s : Shared}
theorem Inv.turnedAll{h':Heap}{t':Nat}{ch:List Addr}(I:Inv X pins σ H s)(hc: ∀b∈ch,FpOk X pins H b)(k: ∀b u,b∉ch->s.heap.get? b=some u->h'.get? b=some u):Inv X pins σ H {s with heap:=h',toks:=t'}:=by
 have trk: ∀b u,H b=some u->b∉ch:=fun b u e z=>by rw[(hc b z).1] at e;cases e
 refine I.step (g':=s.gens) (d':=s.drawn) (ch:=ch) (fun b hb=>?_) (fun b u _ _ hn e _=>k b u hn e) (fun b u _ _ hn e _=>⟨u.slots,k b u hn e⟩) (fun _ _ _ _ n=>n)
  (fun b u hn e=>⟨u,k b u hn e⟩) (fun _ _ e=>e) (fun _ _ _ e=>e) (fun b ps e=>⟨#[],by rw[e];simp⟩) (fun m hm=>?_) (fun b u e=>?_) I.bare
 . obtain⟨f0,f1,f2,f3,f4,f5⟩:=hc b hb;exact⟨f3,f1,f4,f5⟩
 . obtain⟨ob,es,ep,ho,r⟩:=hm;exact⟨ob,es,ep,k _ ob (fun z=>(hc _ z).2.1 rfl) ho,r⟩
 . refine(I.hok b u e).stay (fun c v hc' q=>k c v ?_ q) (fun c q=>q) fun c xs q=>q;rcases hc' with z | z
   . rw[z];exact trk b u e
   . exact trk c _ z
end
structure Z5(n:Nat):Prop where
 a:n+2≠n+4
 b:n+3≠n+4
 c:n≠n+4
 d:n+1≠n+4
 e:n+2≠n+3
 f:n+2≠n
 g:n+2≠n+1
 h:n+3≠n
 i:n+3≠n+1
 j:n≠n+1
theorem fiveZ(n:Nat):Z5 n:=⟨by lia,by lia,by lia,by lia,by lia,by lia,by lia,by lia,by lia,by lia⟩
noncomputable def Itz(b1 b2:Bool)(a1 a2:Addr):It:=
 ⟨fun i H=> ∃xs x ys y,Sqb b1 H a1 xs/\xs[i]?=some x/\Sqb b2 H a2 ys/\ys[i]?=some y,
  fun i H v H'=> ∃p x y,v= .ref p/\H p=none/\H'=upd H p (.tup [x,y])/\(∀xs,Sqb b1 H a1 xs->xs[i]?=some x)/\ ∀ys,Sqb b2 H a2 ys->ys[i]?=some y,
  fun i H=> ∃xs ys,Sqb b1 H a1 xs/\Sqb b2 H a2 ys/\(xs.length<=i\/ys.length<=i)⟩
theorem turn_zip{P:Program}{w:World}{K:PySem.W.Frag}{es:List Expr}{x1}{tp:Pos}(b1 b2:Bool)(a1 a2:Addr)(n:Nat):
  Turn P w K (.Tuple es x1 tp) (Itz b1 b2 a1 a2) [n+4,n+2,n+3,n,n+1] (n+4) (fun i h=>IsZip h (n+4) (n+2) (n+3) .none/\IsPair h (n+2) (.ref n) (.ref (n+1))/\(∃a b,IsPair h (n+3) a b)/\Itb b1 h n a1 i/\Itb b2 h (n+1) a2 i) where
 mem:=by simp
 obj:=fun i h st b hb=>by
  obtain⟨z1,z2,⟨u,v,z3⟩,z4,z5⟩:=st;simp only [List.mem_cons,List.not_mem_nil,or_false] at hb;rcases hb with rfl | rfl | rfl | rfl | rfl
  . exact⟨_,z1,fun v y=>nomatch (show Data.fields _=Data.cell v from y)⟩
  . exact⟨_,z2,fun v y=>nomatch (show Data.seq _ _=Data.cell v from y)⟩
  . exact⟨_,z3,fun v y=>nomatch (show Data.seq _ _=Data.cell v from y)⟩
  . exact z4.obj
  . exact z5.obj
 keep:=fun i h h' st kk=>by
  obtain⟨z1,z2,⟨u,v,z3⟩,z4,z5⟩:=st;exact⟨kk _ (by simp) _ z1,kk _ (by simp) _ z2,⟨u,v,kk _ (by simp) _ z3⟩,z4.keep fun o q=>kk _ (by simp) o q,z5.keep fun o q=>kk _ (by simp) o q⟩
 item:=by
  intro X hP hw hK hc i pins s σ H E I hf st hg;subst hP hw hK;obtain⟨xs,x,ys,y,q1,hx,q2,hy⟩:=hg;obtain⟨its,rv,p1⟩:=I.sqb q1;obtain⟨its2,rv2,p2⟩:=I.sqb q2;obtain⟨u,hu,ru⟩:=rv.get hx;obtain⟨u2,hu2,ru2⟩:=rv2.get hy;obtain⟨z1,z2,⟨c1,c2,z3⟩,z4,z5⟩:=st;have ap: ∀{b:Bool} {a:Addr} {zs:List V},Sqb b H a zs-> ∀f∈ [n+4,n+2,n+3,n,n+1],a≠f:=fun hq f hfm e=>by
   obtain⟨o,q⟩:=hq.some;have:=(hf f hfm).1;rw[<-e,q] at this;cases this
  have D:ZipApart (n+4) (n+2) (n+3) n (n+1) a1 a2:=⟨(fiveZ n).a,(fiveZ n).b,(fiveZ n).c,(fiveZ n).d,(fiveZ n).e,(fiveZ n).f,(fiveZ n).g,(fiveZ n).h,(fiveZ n).i,(fiveZ n).j,ap q1 _ (by simp),ap q1 _ (by simp),ap q1 _ (by simp),ap q1 _ (by simp),ap q2 _ (by simp),ap q2 _ (by simp),ap q2 _ (by simp),ap q2 _ (by simp)⟩
  refine zipS_item D z1 z2 z3 (z4.sit p1) (z5.sit p2) (x:=u) (y:=u2) (by simpa using hu) (by simpa using hu2) fun h' e1 e2 e3 e4 e5 e6 e7=>⟨_,rfl,?_⟩
  refine wpAny_letOwnedTupleGo_zip e1 fun h2 g1 sb=>?_;have zlt:n+4 < s.heap.objs.size:=Heap.lt_size z1;have I1:Inv X pins σ (upd H s.heap.objs.size (.tup [x,y])) {s with heap:=h2,toks:=s.toks}:=by
   refine I.turnedNew (ch:= [n+4,n+2,n+3,n,n+1]) hf (Nat.le_refl _) (fun b o hb q=>?_) ⟨by show 2<=sizeLine;decide,[u,u2], .cons ru (.cons ru2 .nil),?_⟩
   . have m: ∀f,f∈ [n+4,n+2,n+3,n,n+1]->b≠f:=fun f hfm e=>hb (e▸hfm);exact(sb.2 b (m _ (by simp))).trans (e7 b o (m _ (by simp)) (m _ (by simp)) (m _ (by simp)) (m _ (by simp)) q)
   . exact⟨_,(sb.2 _ (Nat.ne_of_gt zlt)).trans e5,rfl,rfl,_,rfl⟩
  have up: ∀b o,b≠n+4->h'.get? b=some o->h2.get? b=some o:=fun b o hb q=>(sb.2 b hb).trans q;have keepS: ∀{b:Bool} {a:Addr} {zs:Array Value} {ws:List V},Sqb b H a ws->IsSq b s.heap a zs->IsSq b h' a zs:=fun{b a zs ws} hq hs=>by
   have k: ∀o,s.heap.get? a=some o->h'.get? a=some o:=fun o q=>e7 a o (ap hq _ (by simp)) (ap hq _ (by simp)) (ap hq _ (by simp)) (ap hq _ (by simp)) q;cases b
   . obtain⟨o,f1,f2⟩:=(show s.heap.IsList a zs from hs);exact(show h'.IsList a zs from⟨o,k o f1,f2⟩)
   . obtain⟨o,f1,f2⟩:=(show s.heap.IsTuple a zs from hs);exact(show h'.IsTuple a zs from⟨o,k o f1,f2⟩)
  refine⟨.ref s.heap.objs.size,_,I1,rfl,⟨_,x,y,rfl,I.hok.fresh (Nat.le_refl _),rfl,fun zs hz=>by rw[hz.inj q1];exact hx,fun zs hz=>by rw[hz.inj q2];exact hy⟩,⟨g1,?_,⟨u,u2,up _ _ (fiveZ n).b e2⟩,?_,?_⟩,fun b hb=>?_⟩
  . exact up _ _ (fiveZ n).a (e7 _ _ (fiveZ n).a (fiveZ n).e (fiveZ n).f (fiveZ n).g z2)
  . exact(itb_of e3 (keepS q1 p1)).keep fun o q=>up _ o (fiveZ n).c q
  . exact(itb_of e4 (keepS q2 p2)).keep fun o q=>up _ o (fiveZ n).d q
  . rw[upd_ne (fun z=>?_)]
    . exact(hf b hb).1
    . have zlt':n+4 < s.heap.objs.size:=zlt;have: ∀f:Nat,f∈ [n+4,n+2,n+3,n,n+1]->f < s.heap.objs.size:=fun f hfm=>by
       simp only [List.mem_cons,List.not_mem_nil,or_false] at hfm;lia
      exact absurd (z▸this b hb) (Nat.lt_irrefl _)
 done:=by
  intro X hP hw hK hc i pins s σ H E I hf st hg;subst hP hw hK;obtain⟨xs,ys,q1,q2,hx⟩:=hg;obtain⟨its,rv,p1⟩:=I.sqb q1;obtain⟨its2,rv2,p2⟩:=I.sqb q2;have l1:=rv.length;have l2:=rv2.length;obtain⟨z1,z2,⟨c1,c2,z3⟩,z4,z5⟩:=st;have ap: ∀{b:Bool} {a:Addr} {zs:List V},Sqb b H a zs-> ∀f∈ [n+4,n+2,n+3,n,n+1],a≠f:=fun hq f hfm e=>by
   obtain⟨o,q⟩:=hq.some;have:=(hf f hfm).1;rw[<-e,q] at this;cases this
  have D:ZipApart (n+4) (n+2) (n+3) n (n+1) a1 a2:=⟨(fiveZ n).a,(fiveZ n).b,(fiveZ n).c,(fiveZ n).d,(fiveZ n).e,(fiveZ n).f,(fiveZ n).g,(fiveZ n).h,(fiveZ n).i,(fiveZ n).j,ap q1 _ (by simp),ap q1 _ (by simp),ap q1 _ (by simp),ap q1 _ (by simp),ap q2 _ (by simp),ap q2 _ (by simp),ap q2 _ (by simp),ap q2 _ (by simp)⟩
  refine zipS_end (I.ok.hd hc) D z1 z2 z3 (z4.sit p1) (z5.sit p2) (hx.elim (fun h=> .inl (by rw[List.getElem?_toArray];exact List.getElem?_eq_none (by lia))) fun h=> .inr (by rw[List.getElem?_toArray];exact List.getElem?_eq_none (by lia))) fun h' kk=>⟨rfl,?_⟩
  refine I.turnedAll (ch:= [n+4,n+2,n+3,n,n+1]) hf fun b o hb q=>?_;have m: ∀f,f∈ [n+4,n+2,n+3,n,n+1]->b≠f:=fun f hfm e=>hb (e▸hfm);exact kk b o (m _ (by simp)) (m _ (by simp)) (m _ (by simp)) (m _ (by simp)) q
 self:=fun A i s Q E st h=>wpAny_pyIter_zip st.1 h
end L2
end
section
namespace L2
open PySem PySem.Spec PyProof.Rows
theorem boot_zip':bootBuiltins "zip"=some (.type "zip"):=by decide+kernel
def iZip(ta:TA):TI:=fun σ H R=>ta σ H fun vs H1=> ∃b1 b2 a1 a2 xs ys,vs= [.ref a1, .ref a2]/\Sqb b1 H1 a1 xs/\Sqb b2 H1 a2 ys/\R (Itz b1 b2 a1 a2) H1
section
variable {X : Cx} {pos : Pos}
theorem zipLaid_it{pins:List (Addr × Obj)}{σ:St}{H:Hp}{s:Shared}{R:It->Hp->Prop}{E:Value->Shared->Prop}{es:List Expr}{x1}{tp:Pos}{b1 b2:Bool}{a1 a2:Addr}{tk:Nat}(I:Inv X pins σ H s)(q:R (Itz b1 b2 a1 a2) H):
  wpAny (model X.prog X.w) X.A (pyIter (.ref (zipL4 s.heap b1 b2 a1 a2).objs.size)) (PIE X pins σ (.Tuple es x1 tp) R) E {s with heap:=zipL5 s.heap b1 b2 a1 a2,toks:=tk}:=by
 have z1:(s.heap.push (itO b1 a1)).objs.size=s.heap.objs.size+1:=Heap.size_push ..;have z2:(zipL2 s.heap b1 b2 a1 a2).objs.size=s.heap.objs.size+2:=by unfold zipL2;rw[Heap.size_push,z1]
 have z3:((zipL2 s.heap b1 b2 a1 a2).push {cls:= .type "tuple",data:= .seq #[.ref s.heap.objs.size, .ref (s.heap.push (itO b1 a1)).objs.size]}).objs.size=s.heap.objs.size+3:=by rw[Heap.size_push,z2]
 have z4:(zipL4 s.heap b1 b2 a1 a2).objs.size=s.heap.objs.size+4:=by unfold zipL4;rw[Heap.size_push,z3]
 have keep: ∀c o,s.heap.get? c=some o->(zipL5 s.heap b1 b2 a1 a2).get? c=some o:=fun c o e=>by
  unfold zipL5 zipL4 zipL2;exact Heap.get?_push_of_some _ (Heap.get?_push_of_some _ (Heap.get?_push_of_some _ (Heap.get?_push_of_some _ (Heap.get?_push_of_some _ e))))
 have g5:IsZip (zipL5 s.heap b1 b2 a1 a2) (s.heap.objs.size+4) (s.heap.objs.size+2) (s.heap.objs.size+3) .none:=by
  have:=Heap.get?_push_size (zipL4 s.heap b1 b2 a1 a2) (o:={cls:= .type "zip",data:= .fields #[.none, .bool false, .bool false, .ref (zipL2 s.heap b1 b2 a1 a2).objs.size, .ref ((zipL2 s.heap b1 b2 a1 a2).push {cls:= .type "tuple",data:= .seq #[.ref s.heap.objs.size, .ref (s.heap.push (itO b1 a1)).objs.size]}).objs.size]}) rfl;rw[z4,z2,z3] at this;unfold zipL5;rw[z2,z3];exact this
 have g3:IsPair (zipL5 s.heap b1 b2 a1 a2) (s.heap.objs.size+2) (.ref s.heap.objs.size) (.ref (s.heap.objs.size+1)):=by
  have:=Heap.get?_push_size (zipL2 s.heap b1 b2 a1 a2) (o:={cls:= .type "tuple",data:= .seq #[.ref s.heap.objs.size, .ref (s.heap.push (itO b1 a1)).objs.size]}) rfl;rw[z2] at this;have h2:(zipL5 s.heap b1 b2 a1 a2).get? (s.heap.objs.size+2)=some {cls:= .type "tuple",data:= .seq #[.ref s.heap.objs.size, .ref (s.heap.push (itO b1 a1)).objs.size]}:=by
   unfold zipL5 zipL4;exact Heap.get?_push_of_some _ (Heap.get?_push_of_some _ this)
  rw[z1] at h2;exact h2
 have g4:IsPair (zipL5 s.heap b1 b2 a1 a2) (s.heap.objs.size+3) .none .none:=by
  have:=Heap.get?_push_size ((zipL2 s.heap b1 b2 a1 a2).push {cls:= .type "tuple",data:= .seq #[.ref s.heap.objs.size, .ref (s.heap.push (itO b1 a1)).objs.size]}) (o:={cls:= .type "tuple",data:= .seq #[.none, .none]}) rfl;rw[z3] at this;unfold zipL5 zipL4;exact Heap.get?_push_of_some _ this
 have i1:Itb b1 (zipL5 s.heap b1 b2 a1 a2) s.heap.objs.size a1 0:=by
  have h:(zipL5 s.heap b1 b2 a1 a2).get? s.heap.objs.size=some (itO b1 a1):=by
   unfold zipL5 zipL4 zipL2;refine Heap.get?_push_of_some _ (Heap.get?_push_of_some _ (Heap.get?_push_of_some _ (Heap.get?_push_of_some _ (Heap.get?_push_size _ ?_))));cases b1 <;> rfl
  cases b1
  . exact(show Heap.IsListIter _ _ _ _ from⟨_,h,rfl,rfl⟩)
  . exact(show Heap.IsTupleIter _ _ _ _ from⟨_,h,rfl,rfl⟩)
 have i2:Itb b2 (zipL5 s.heap b1 b2 a1 a2) (s.heap.objs.size+1) a2 0:=by
  have h:(zipL5 s.heap b1 b2 a1 a2).get? (s.heap.push (itO b1 a1)).objs.size=some (itO b2 a2):=by
   unfold zipL5 zipL4 zipL2;refine Heap.get?_push_of_some _ (Heap.get?_push_of_some _ (Heap.get?_push_of_some _ (Heap.get?_push_size _ ?_)));cases b2 <;> rfl
  rw[z1] at h;cases b2
  . exact(show Heap.IsListIter _ _ _ _ from⟨_,h,rfl,rfl⟩)
  . exact(show Heap.IsTupleIter _ _ _ _ from⟨_,h,rfl,rfl⟩)
 rw[z4];refine wpAny_pyIter_zip g5 ?_;refine⟨s.heap.objs.size+4,_,_,Itz b1 b2 a1 a2,H,rfl,I.kept keep,turn_zip b1 b2 a1 a2 s.heap.objs.size,⟨g5,g3,⟨_,_,g4⟩,i1,i2⟩,fun c hc=>?_,q⟩;have hle:s.heap.objs.size<=c:=by
  have: ∀n f:Nat,f∈ [n+4,n+2,n+3,n,n+1]->n<=f:=fun n f hf=>by
   simp only [List.mem_cons,List.not_mem_nil,or_false] at hf;omega
  exact this _ _ hc
 exact I.fpOk hle (I.hok.fresh hle)
theorem pi_zip{e f:Expr}{t:TA}{es:List Expr}{x1}{tp p:Pos}(hg:Gl X "zip")(hm:X.mg "zip"=none)(ha:PA X [e,f] t)(hs:autoParam (starEach [e,f] X.env= [(false,eval e X.env),(false,eval f X.env)]) au5._auto_1)(hs2:autoParam (starEach [f] X.env= [(false,eval f X.env)]) au5._auto_1):
  PI X (.Tuple es x1 tp) (.Call (.Name "zip" p) [e,f] [] pos) (iZip t):=by
 intro pins s σ H R I h;refine Call_ (ld_blt I hg hm boot_zip' (PyProof.Rows.callWith_type1 (thn (ha pos pins s σ H _ I h) fun us s1 zz1=>?_) (by rw[hs,hs2]) (by rw[hs2];rfl)));obtain⟨vs,H1,I1,r1,q1⟩:=zz1;obtain⟨b1,b2,a1,a2,xs,ys,rfl,k1,k2,q⟩:=q1;obtain⟨u,u2,rfl,ru,ru2⟩:=vals2 r1;cases ru;cases ru2;obtain⟨its,rv,p1⟩:=I1.sqb k1;obtain⟨its2,rv2,p2⟩:=I1.sqb k2;exact callTyKw F.called_zip (by decide) (F.typeCall_zip_2 _ _) (F.newCall_zip_2 _ _) (fun obj=>F.args_object_init_3 obj _ _) F.entry_zip_new (zipNew b1 b2 a1 a2 its.toArray its2.toArray) ⟨p1,p2,⟨_,Heap.get?_push_size _ rfl,rfl⟩,zipLaid_it I1 q⟩
end
end L2
end
section
namespace LSrt
open PySem PySem.W PyProof.Rows
variable {N : Nat} {K : Nat -> Int} {s : Shared} {cmp : Nat -> Nat -> (Bool -> Shared -> Prop) -> Shared -> Prop}
def Cok(N:Nat)(K:Nat->Int)(cmp:Nat->Nat->(Bool->Shared->Prop)->Shared->Prop)(s:Shared):Prop:= ∀i j,i < N->j < N-> ∀C:Bool->Shared->Prop,C (decide (K i < K j)) s->cmp i j C s
structure Pm(N:Nat)(p:Array Nat):Prop where
 pm:p.Perm (List.range N).toArray
theorem Pm.sz{p:Array Nat}(h:Pm N p):p.size=N:=by rw[h.pm.size_eq];simp
noncomputable def kp(K:Nat->Int)(p:Array Nat)(i:Nat):Int:=K (p.getD i 0)
def Asc(K:Nat->Int)(p:Array Nat)(n:Nat):Prop:= ∀i j,i<=j->j < n->kp K p i<=kp K p j
end LSrt
end
section
namespace L2
open PySem PySem.Spec PyProof.Rows
theorem vals_get: ∀{xs:List V} {us:List Value},xs.length=us.length->(∀(j:Nat) x u,xs[j]?=some x->us[j]?=some u->RelV x u)->Vals xs us
 | [],[],_,_=> .nil
 | [],_::_,h,_=>by simp at h
 | _::_,[],h,_=>by simp at h
 | x::xs,u::us,h,r=> .cons (r 0 x u rfl rfl) (vals_get (by simpa using h) fun j y v h1 h2=>r (j+1) y v (by simpa using h1) (by simpa using h2))
def tLR(ta:TA):TE:=fun σ H Q=>ta σ H fun vs H1=> ∃(i:Int) (n:Nat),vs= [.int i, .int (i+n)]/\ -(2^61)<=i/\i < 2^61/\n<=1000/\ ∀p,H1 p=none->Q (.ref p) (upd H1 p (.lst ((List.range n).map fun k=>V.int (i+(k:Nat)))))
section
variable {X : Cx}
theorem pe_listR{a b:Expr}{ta:TA}{p p2 pos pos2:Pos}(hc:X.calm=true)(hgl:Gl X "list")(hml:X.mg "list"=none)(hgr:Gl X "range")(hmr:X.mg "range"=none)(ha:PA X [a,b] ta)
  (hs0:autoParam (starEach [.Call (.Name "range" p2) [a,b] [] pos2] X.env= [(false,eval (.Call (.Name "range" p2) [a,b] [] pos2) X.env)]) au5._auto_1) (hs:autoParam (starEach [a,b] X.env= [(false,eval a X.env),(false,eval b X.env)]) au5._auto_1) (hs2:autoParam (starEach [b] X.env= [(false,eval b X.env)]) au5._auto_1):
  PE X (.Call (.Name "list" p) [.Call (.Name "range" p2) [a,b] [] pos2] [] pos) (tLR ta):=by
 intro pins s σ H Q I h;refine Call_ (ld_blt I hgl hml LB.boot_list' (PyProof.Rows.callWith_type1 ?_ hs0 rfl));rw[hs0];show wpAny _ _ (spliced ((false,eval (.Call (.Name "range" p2) [a,b] [] pos2) X.env)::backTo pos (starEach [] X.env))) _ _ s;refine Calls.spliced_cons (Call_ (ld_blt I hgr hmr boot_range (PyProof.Rows.callWith_type1 (thn (ha pos2 pins s σ H _ I h) fun us s1 zz1=>?_) (by rw[hs,hs2]) (by rw[hs2];rfl))));obtain⟨vs,H1,I1,r1,q1⟩:=zz1;obtain⟨i,n,rfl,h1,h2,hn,q⟩:=q1;obtain⟨u,u2,rfl,⟨t,rfl⟩,⟨t',rfl⟩⟩:=vals2 r1;refine call_range_2 (Calls.spliced_nil ?_);have sz:Builtin.Range.rangeSize i (i+n) 1=(n:Int):=by rw[rangeSize_one];split <;> lia
 refine call_list_range (n:=n) (I.ok.hd hc) (IsRange.new ..) (small_one (by lia) (by lia) (by lia) (by lia)) sz (Nat.le_trans hn (by decide)) fun h' tk acc c' hk hS hacc=>?_;have I2:Inv X pins σ H1 {s1 with heap:=s1.heap.push {cls:= .type "range",data:= .fields #[.int i t, .int (i+n) t', .int 1 s1.toks]},toks:=s1.toks+1}:=I1.kept fun b o e=>Heap.get?_push_of_some _ e;refine⟨.ref _,_,I2.laid (t':=tk) (o:= .lst ((List.range n).map fun k=>V.int (i+(k:Nat)))) hk (Nat.le_refl _) ⟨by rw[List.length_map,List.length_range];exact Nat.le_trans hn (by decide),acc.toList,c',?_,by simpa using hS⟩,rfl,q _ (I2.hok.fresh (Nat.le_refl _))⟩;refine vals_get (by rw[List.length_map,List.length_range,Array.length_toList,hacc.1]) fun j x v hx hv=>?_;have hj:j < n:=by
  have:=(List.getElem?_eq_some_iff.mp hx).1;rw[List.length_map,List.length_range] at this;exact this
 rw[List.getElem?_map,List.getElem?_range hj] at hx;cases hx;obtain⟨t2,rfl⟩:=hacc.2 j v (by simpa using hv);exact⟨t2,by rw[Int.mul_one]⟩
end
end L2
end
section
namespace L2
open PySem PySem.Spec PyProof.Rows
section
variable {X : Cx}
def rNeNilT(K:PySem.W.Frag):R2:=fun x y H Q=> ∃p q xs,x= .ref p/\y= .ref q/\SqT K H p xs/\SqT K H q []/\Q (.bl (!xs.isEmpty)) H
theorem op_neNilL(hu:X.A.units < cLine):OpR X (compareOp .NotEq) (rNeNilL X.K):=by
 intro pins s σ H x y v u Q I rx ry h;obtain⟨p,q,xs,rfl,rfl,h1,h2,hq⟩:=h;cases rx;cases ry;obtain⟨its,rv,pl,_⟩:=I.list h1;obtain⟨its2,rv2,pl2,_⟩:=I.list h2;cases rv2;cases rv with
 | nil=>exact SeqAt.RcNeAt.lists (e:=fun _=>true) pl.isList pl2.isList rfl hu (fun j h1 _=>absurd h1 (by simp)) _ _ _ _ ⟨.bl false,H,I,rfl,hq⟩
 | cons r rr=>exact SeqAt.RcNeAt.lists_lengths pl.isList pl2.isList (by simp) hu _ _ _ _ ⟨.bl true,H,I,rfl,hq⟩
theorem op_neNilT(hu:X.A.units < cLine):OpR X (compareOp .NotEq) (rNeNilT X.K):=by
 intro pins s σ H x y v u Q I rx ry h;obtain⟨p,q,xs,rfl,rfl,h1,h2,hq⟩:=h;cases rx;cases ry;obtain⟨its,rv,pl,_⟩:=I.tuple h1;obtain⟨its2,rv2,pl2,_⟩:=I.tuple h2;cases rv2;cases rv with
 | nil=>exact SeqAt.RcNeAt.tuples (e:=fun _=>true) (show s.heap.IsTuple p _ from pl) (show s.heap.IsTuple q _ from pl2) hu (fun j h1 _=>absurd h1 (by simp)) _ _ _ _ ⟨.bl false,H,I,by simp [RelV],hq⟩
 | cons r rr=>exact SeqAt.RcNeAt.tuples (e:=fun _=>true) (show s.heap.IsTuple p _ from pl) (show s.heap.IsTuple q _ from pl2) hu (fun j _ h2=>absurd h2 (by simp)) _ _ _ _ ⟨.bl true,H,I,by simp [RelV],hq⟩
end
end L2
end
section
namespace LW
open PySem L2 LB PyProof.Rows
theorem Same.none{H H':Hp}{a:Addr}(s:Same H H')(h:H' a=none):H a=none:=by
 cases e:H a with
 | none=>rfl
 | some o=>rw[s _ _ e] at h;cases h
end LW
end
section
namespace PySem.SeqAt
open MeetsSeq
theorem forIn_rng{M:Model}{A:Around}{E:Value->Shared->Prop}{s:Shared}{β:Type}{r:Std.Legacy.Range}(f:Nat->β->Sem (ForInStep β))(I:List Nat->β->Shared->Prop)(Q:β->Shared->Prop)
  (turn: ∀x rest b s,I (x::rest) b s->wpAny M A (f x b) (fun r s'=>match r with | .yield b'=>I rest b' s' | .done b'=>Q b' s') E s)
  (fin: ∀b s,I [] b s->Q b s) (b:β) (h:I (List.range' r.start r.size r.step) b s):wpAny M A (forIn r b f) Q E s:=by
 rw[Std.Legacy.Range.forIn_eq_forIn_range'];exact wpAny_forIn_list f I Q turn fin _ b h
theorem tuple_indexAt(l:Addr)(items:Array Value)(n:Nat)(dd:Option Addr)(sl:Array (Option Value))(x:Value)(e:Value->Bool)(j:Nat)(hj:j < items.size)(hit:e items[j]=true)(hno: ∀m (hm:m < items.size),m < j->e items[m]=false):
  Meets (Builtin.«tuple.index» ⟨[.ref l,x],[]⟩)
   (fun A R s=>s.heap.get? l=some {cls:= .type "tuple",dict:=dd,data:= .seq items n,slots:=sl}/\(∀y,y∈items->EqAt A.in1 s y x (e y))/\R (.ok (.ret (.int j s.toks))) {s with toks:=s.toks+1}):=
 .of_wp fun prog w A R s h=>by
  obtain⟨hp,g,d,tk,os⟩:=s;obtain⟨hl,he,h⟩:=h;wp_walk using wpAny_loadPart' hl,forIn_rng _ (fun rest b s'=>b.1=none/\s'=⟨hp,g,d,tk,os⟩/\ ∃i,rest=List.range' i (items.size - i)/\i<=j) _
  case turn=>
   rintro y rest b s' ⟨hb,rfl,i,hr,hi⟩
   have hlt:i < items.size:=by omega
   rw[show items.size - i=(items.size - (i+1))+1 by omega,List.range'_succ] at hr;obtain⟨e1,e2⟩:=List.cons.inj hr;subst e1;subst e2;rw[Array.getElem?_eq_getElem hlt];refine wpAny_bind (he _ (Array.getElem_mem hlt) prog w _ _ ?_);by_cases hij:y=j
   . subst hij;rw[hit];wp_walk
     exact⟨_,rfl,h⟩
   . rw[hno y hlt (by omega)];wp_walk
     exact⟨rfl,rfl,y+1,rfl,by omega⟩
  case fin=>
   rintro⟨b1,b2⟩ s' ⟨hb,rfl,i,hr,hi⟩
   have:items.size - i=0:=by
    have:=congrArg List.length hr;simpa using this.symm
   omega
  case h=>
   exact⟨rfl,rfl,0,by simp [Std.Legacy.Range.size],Nat.zero_le _⟩
end PySem.SeqAt
namespace L2
open PySem PySem.Spec PyProof.Rows
section
variable {X : Cx}
def rCountT:V->List V->Hp->VK->Prop:=fun x vs H Q=> ∃a xs y,x= .ref a/\vs= [y]/\H a=some (.tup xs)/\flatV y=true/\xs.all flatV=true/\Q (.int (xs.countP fun z=>eqV z y:Nat)) H
def rIndexT:V->List V->Hp->VK->Prop:=fun x vs H Q=> ∃a xs y j z,x= .ref a/\vs= [y]/\H a=some (.tup xs)/\flatV y=true/\xs.all flatV=true/\xs[j]?=some z/\eqV z y=true/\(∀m u,m < j->xs[m]?=some u->eqV u y=false)/\Q (.int (j:Nat)) H
theorem eqs_of{A:Around}{s:Shared}{xs:List V}{its:List Value}{y:V}{u:Value}(r:Vals xs its)(ry:RelV y u)(fy:flatV y=true)(fx:xs.all flatV=true):
  ∃e:Value->Bool,(∀v∈its,SeqAt.EqAt A s v u (e v))/\ ∀(i:Nat) x v,xs[i]?=some x->its[i]?=some v->e v=eqV x y:=by
 refine⟨fun v=>match absV v with | some x=>eqV x y | none=>false,fun v hv=>?_,fun i x v hx hv=>?_⟩
 . obtain⟨i,hi,e⟩:=List.getElem_of_mem hv;have hx:xs[i]?=some (xs[i]'(by rw[r.length];exact hi)):=List.getElem?_eq_getElem _;obtain⟨w,hw,rw'⟩:=r.get hx;rw[List.getElem?_eq_getElem hi,e] at hw;cases hw;show SeqAt.EqAt A s v u (match absV v with | some x=>eqV x y | none=>false);rw[rw'.abs];exact eqAt_V rw' ry (List.all_eq_true.mp fx _ (List.mem_of_getElem? hx)) fy
 . obtain⟨w,hw,rw'⟩:=r.get hx;rw[hv] at hw;cases hw;show(match absV v with | some x=>eqV x y | none=>false)=_;rw[rw'.abs]
theorem countP_of{e:Value->Bool}{y:V}: ∀{xs:List V} {its:List Value},Vals xs its->(∀(i:Nat) x v,xs[i]?=some x->its[i]?=some v->e v=eqV x y)->its.countP e=xs.countP fun z=>eqV z y
 | _,_, .nil,_=>rfl
 | _,_, .cons r t,h=>by
  rw[List.countP_cons,List.countP_cons,countP_of t fun i x v h1 h2=>h (i+1) x v (by simpa using h1) (by simpa using h2),h 0 _ _ rfl rfl]
theorem mt_countT:MtR X "tuple.count" rCountT:=by
 intro pins s σ H x xs v us Q I rx rs h;obtain⟨a,ys,y,rfl,rfl,ha,fy,fx,q⟩:=h;cases rx;obtain⟨u,rfl,ru⟩:=vals1 rs;obtain⟨its,rv,pl,_⟩:=I.tuple (SqT.of ha);obtain⟨⟨cls,dd,data,sl⟩,ho,hc,n,hd⟩:=(show s.heap.IsTuple a its.toArray from pl)
 simp only at hc hd;subst hc hd;obtain⟨e,he,hv⟩:=eqs_of (A:=X.A.in1) (s:=s) rv ru fy fx;refine call_meets PySem.F.slot_tuple_count ⟨_,ho,rfl⟩ PySem.F.entry_tuple_count (PySem.F.args_tuple_count_2 _ _) (SeqAt.tuple_countAt a its.toArray n dd sl u e) ⟨ho,fun z hz=>he z (by simpa using hz),?_⟩;have:its.toArray.toList.countP e=ys.countP fun z=>eqV z y:=by simpa using countP_of rv hv
 rw[this];exact⟨.int _,H,I.tok _,⟨_,rfl⟩,q⟩
theorem mt_indexT:MtR X "tuple.index" rIndexT:=by
 intro pins s σ H x xs v us Q I rx rs h;obtain⟨a,ys,y,j,z,rfl,rfl,ha,fy,fx,hz,hzy,hno,q⟩:=h;cases rx;obtain⟨u,rfl,ru⟩:=vals1 rs;obtain⟨its,rv,pl,_⟩:=I.tuple (SqT.of ha);obtain⟨⟨cls,dd,data,sl⟩,ho,hc,n,hd⟩:=(show s.heap.IsTuple a its.toArray from pl)
 simp only at hc hd;subst hc hd;obtain⟨e,he,hv⟩:=eqs_of (A:=X.A.in1) (s:=s) rv ru fy fx;have hj:j < its.length:=by rw[<-rv.length];exact(List.getElem?_eq_some_iff.mp hz).1
 refine call_meets PySem.F.slot_tuple_index ⟨_,ho,rfl⟩ PySem.F.entry_tuple_index (PySem.F.args_tuple_index_2 _ _) (SeqAt.tuple_indexAt a its.toArray n dd sl u e j (by simpa using hj) ?_ ?_) ⟨ho,fun z hz=>he z (by simpa using hz),⟨.int _,H,I.tok _,⟨_,rfl⟩,q⟩⟩
 . have:=hv j z its[j] hz (List.getElem?_eq_getElem hj);simpa using this.trans hzy
 . intro m hm hlt;have hm':m < its.length:=by simpa using hm
   have hx:ys[m]?=some (ys[m]'(by rw[rv.length];exact hm')):=List.getElem?_eq_getElem _;have:=hv m _ its[m] hx (List.getElem?_eq_getElem hm');simpa using this.trans (hno m _ hlt hx)
end
end L2
end
section
namespace LSrt
open PySem PySem.W PyProof.Rows
section
variable {prog : Program} {w : World} {A : Around} {E : Value -> Shared -> Prop} {z : Shared} {K : Nat -> Int} {vs : List Value}
structure Ask(prog:Program)(w:World)(A:Around)(vs:List Value)(K:Nat->Int)(z:Shared)(κ:SortKind):Prop where
 kind: ∀Q:SortKind->Shared->Prop,Q κ z->wpAny (model prog w) A (keyKind' vs.toArray) Q (fun _ _=>False) z
 ask:Cok vs.length K (kas_ask prog w A κ vs) z
noncomputable def outs(vs:List Value)(p:Array Nat):Array Value:=List.toArray (p.toList.map fun i=>vs.getD i Value.none)
theorem outs_len{p:Array Nat}(hp:Pm vs.length p):(outs vs p).size=vs.length:=by
 unfold outs;rw[List.size_toArray,List.length_map,Array.length_toList,hp.sz]
theorem outs_id:((vs.toArray.zip vs.toArray).map fun q:Keyed=>q.2)=outs vs (List.range vs.length).toArray:=by
 apply Array.toList_inj.mp;unfold outs;apply List.ext_getElem
 . simp
 . intro i h1 h2;have hi:i < vs.length:=by simpa using h1
   simp [hi]
end
end LSrt
end
section
namespace LSrt
open PySem PySem.W PyProof.Rows
noncomputable def enc(B:Int)(q:Int × Int):Int:=q.1*B+q.2
theorem enc_lt{B:Int}{p q:Int × Int}(hp:0<=p.2/\p.2 < B)(hq:0<=q.2/\q.2 < B):decide (enc B p < enc B q)=(if (p.1==q.1)=true then(if (p.2==q.2)=true then false else decide (p.2 < q.2)) else decide (p.1 < q.1)):=by
 obtain⟨a,b⟩:=p;obtain⟨c,d⟩:=q;unfold enc;simp only at hp hq ⊢;by_cases h1:a=c
 . subst h1;rw[if_pos (by rw[beq_iff_eq])];by_cases h2:b=d
   . subst h2;rw[if_pos (by rw[beq_iff_eq])];rw[decide_eq_false_iff_not];lia
   . rw[if_neg (by rw[beq_iff_eq];exact h2)];exact decide_eq_decide.mpr ⟨fun h=>by lia,fun h=>by lia⟩
 . rw[if_neg (by rw[beq_iff_eq];exact h1)];refine decide_eq_decide.mpr ⟨fun h=>?_,fun h=>?_⟩
   . refine Int.lt_of_not_ge fun z=>?_;have:(c+1)*B<=a*B:=Int.mul_le_mul_of_nonneg_right (by lia) (by lia);rw[Int.add_mul] at this;lia
   . have:(a+1)*B<=c*B:=Int.mul_le_mul_of_nonneg_right (by lia) (by lia);rw[Int.add_mul] at this;lia
end LSrt
end
section
namespace LD
open PySem PySem.Spec L2 LB PyProof.Rows
inductive Dt where
 | non | bl (b:Bool) | int (i:Int) | str (x:Str) | lst (ds:List Dt) | tup (ds:List Dt) | dic (ks:List Key) (ds:List Dt) | dit (ks:List (List Key)) (ds:List Dt)
noncomputable def Dt.isN:Dt->Bool
 | .non=>true
 | _=>false
inductive Rep(M:Addr->Prop)(H:Hp):V->Dt->Prop where
 | non:Rep M H .non .non
 | bl (b:Bool):Rep M H (.bl b) (.bl b)
 | int (i:Int):Rep M H (.int i) (.int i)
 | str (x:Str):Rep M H (.str x) (.str x)
 | lst {a:Addr} {xs:List V} {ds:List Dt}:H a=some (.lst xs)-> ¬M a->xs.length=ds.length->(∀(i:Nat) x d,xs[i]?=some x->ds[i]?=some d->Rep M H x d)->Rep M H (.ref a) (.lst ds)
 | tup {a:Addr} {xs:List V} {ds:List Dt}:H a=some (.tup xs)-> ¬M a->xs.length=ds.length->(∀(i:Nat) x d,xs[i]?=some x->ds[i]?=some d->Rep M H x d)->Rep M H (.ref a) (.tup ds)
 | dic {a:Addr} {vs:List (Key × V)} {ks:List Key} {ds:List Dt}:H a=some (.dK vs)-> ¬M a->vs.map (·.1)=ks->(vs.map (·.2)).length=ds.length->(∀(i:Nat) x d,(vs.map (·.2))[i]?=some x->ds[i]?=some d->Rep M H x d)->Rep M H (.ref a) (.dic ks ds)
 | dit {a:Addr} {vs:List (List Key × V)} {ks:List (List Key)} {ds:List Dt}:H a=some (.dT vs)-> ¬M a->vs.map (·.1)=ks->(vs.map (·.2)).length=ds.length->(∀(i:Nat) x d,(vs.map (·.2))[i]?=some x->ds[i]?=some d->Rep M H x d)->Rep M H (.ref a) (.dit ks ds)
def Reps(M:Addr->Prop)(H:Hp)(xs:List V)(ds:List Dt):Prop:=xs.length=ds.length/\ ∀(i:Nat) x d,xs[i]?=some x->ds[i]?=some d->Rep M H x d
theorem Rep.mono{M M':Addr->Prop}{H H':Hp}{v:V}{d:Dt}(h:Rep M H v d)(m: ∀a o,H a=some o-> ¬M a->H' a=some o/\ ¬M' a):Rep M' H' v d:=by
 induction h with
 | non=>exact .non
 | bl b=>exact .bl b
 | int i=>exact .int i
 | str x=>exact .str x
 | lst h n l r ih=>exact .lst (m _ _ h n).1 (m _ _ h n).2 l ih
 | tup h n l r ih=>exact .tup (m _ _ h n).1 (m _ _ h n).2 l ih
 | dic h n e l r ih=>exact .dic (m _ _ h n).1 (m _ _ h n).2 e l ih
 | dit h n e l r ih=>exact .dit (m _ _ h n).1 (m _ _ h n).2 e l ih
theorem Reps.mono{M M':Addr->Prop}{H H':Hp}{xs:List V}{ds:List Dt}(h:Reps M H xs ds)(m: ∀a o,H a=some o-> ¬M a->H' a=some o/\ ¬M' a):Reps M' H' xs ds:=⟨h.1,fun i x d h1 h2=>(h.2 i x d h1 h2).mono m⟩
theorem Rep.same{M:Addr->Prop}{H H':Hp}{v:V}{d:Dt}(h:Rep M H v d)(s:Same H H'):Rep M H' v d:=h.mono fun a o e n=>⟨s _ _ e,n⟩
theorem Reps.same{M:Addr->Prop}{H H':Hp}{xs:List V}{ds:List Dt}(h:Reps M H xs ds)(s:Same H H'):Reps M H' xs ds:=h.mono fun a o e n=>⟨s _ _ e,n⟩
theorem Reps.nil{M:Addr->Prop}{H:Hp}:Reps M H [] []:=⟨rfl,fun i x d h=>by simp at h⟩
theorem Reps.cons{M:Addr->Prop}{H:Hp}{x:V}{d:Dt}{xs:List V}{ds:List Dt}(h:Rep M H x d)(r:Reps M H xs ds):Reps M H (x::xs) (d::ds):=
 ⟨by rw[List.length_cons,List.length_cons,r.1],fun i y e h1 h2=>by
  cases i with
  | zero=>cases h1;cases h2;exact h
  | succ j=>exact r.2 j y e (by simpa using h1) (by simpa using h2)⟩
theorem Reps.append{M:Addr->Prop}{H:Hp}{xs ys:List V}{ds es:List Dt}(h:Reps M H xs ds)(r:Reps M H ys es):Reps M H (xs++ys) (ds++es):=
 ⟨by rw[List.length_append,List.length_append,h.1,r.1],fun i y e h1 h2=>by
  by_cases hi:i < xs.length
  . rw[List.getElem?_append_left hi] at h1;rw[List.getElem?_append_left (by rw[<-h.1];exact hi)] at h2;exact h.2 i y e h1 h2
  . rw[List.getElem?_append_right (by omega)] at h1;rw[List.getElem?_append_right (by have:=h.1;omega),<-h.1] at h2;exact r.2 _ y e h1 h2⟩
theorem Reps.one{M:Addr->Prop}{H:Hp}{x:V}{d:Dt}(h:Rep M H x d):Reps M H [x] [d]:= .cons h .nil
theorem Reps.get{M:Addr->Prop}{H:Hp}{xs:List V}{ds:List Dt}(h:Reps M H xs ds){i:Nat}{d:Dt}(e:ds[i]?=some d): ∃x,xs[i]?=some x/\Rep M H x d:=by
 have hi:=(List.getElem?_eq_some_iff.mp e).1;have hx:xs[i]?=some (xs[i]'(by rw[h.1];exact hi)):=List.getElem?_eq_getElem _;exact⟨_,hx,h.2 i _ _ hx e⟩
theorem Reps.take{M:Addr->Prop}{H:Hp}{xs:List V}{ds:List Dt}(h:Reps M H xs ds)(n:Nat):Reps M H (xs.take n) (ds.take n):=
 ⟨by rw[List.length_take,List.length_take,h.1],fun i y e h1 h2=>by
  rw[List.getElem?_take] at h1 h2;split at h1
  . rename_i hi;rw[if_pos hi] at h2;exact h.2 i y e h1 h2
  . cases h1⟩
theorem Reps.drop{M:Addr->Prop}{H:Hp}{xs:List V}{ds:List Dt}(h:Reps M H xs ds)(n:Nat):Reps M H (xs.drop n) (ds.drop n):=
 ⟨by rw[List.length_drop,List.length_drop,h.1],fun i y e h1 h2=>by
  rw[List.getElem?_drop] at h1 h2;exact h.2 _ y e h1 h2⟩
theorem Reps.uncons{M:Addr->Prop}{H:Hp}{xs:List V}{d:Dt}{ds:List Dt}(h:Reps M H xs (d::ds)): ∃x ys,xs=x::ys/\Rep M H x d/\Reps M H ys ds:=by
 cases xs with
 | nil=>have:=h.1;simp at this
 | cons x ys=>exact⟨x,ys,rfl,h.2 0 x d rfl rfl,⟨by have:=h.1;simpa using this,fun i y e h1 h2=>h.2 (i+1) y e (by simpa using h1) (by simpa using h2)⟩⟩
theorem Reps.unnil{M:Addr->Prop}{H:Hp}{xs:List V}(h:Reps M H xs []):xs= []:=List.length_eq_zero_iff.mp (by rw[h.1];rfl)
theorem Rep.toLst{M:Addr->Prop}{H:Hp}{a:Addr}{xs:List V}{ds:List Dt}(h:H a=some (.lst xs))(n: ¬M a)(r:Reps M H xs ds):Rep M H (.ref a) (.lst ds):= .lst h n r.1 r.2
theorem Rep.toTup{M:Addr->Prop}{H:Hp}{a:Addr}{xs:List V}{ds:List Dt}(h:H a=some (.tup xs))(n: ¬M a)(r:Reps M H xs ds):Rep M H (.ref a) (.tup ds):= .tup h n r.1 r.2
theorem Rep.ofLst{M:Addr->Prop}{H:Hp}{v:V}{ds:List Dt}(h:Rep M H v (.lst ds)): ∃a xs,v= .ref a/\H a=some (.lst xs)/\ ¬M a/\Reps M H xs ds:=by
 cases h with
 | lst h n l r=>exact⟨_,_,rfl,h,n,l,r⟩
theorem Rep.ofTup{M:Addr->Prop}{H:Hp}{v:V}{ds:List Dt}(h:Rep M H v (.tup ds)): ∃a xs,v= .ref a/\H a=some (.tup xs)/\ ¬M a/\Reps M H xs ds:=by
 cases h with
 | tup h n l r=>exact⟨_,_,rfl,h,n,l,r⟩
theorem Rep.ofDit{M:Addr->Prop}{H:Hp}{v:V}{ks:List (List Key)}{ds:List Dt}(h:Rep M H v (.dit ks ds)): ∃a vs,v= .ref a/\H a=some (.dT vs)/\ ¬M a/\vs.map (·.1)=ks/\Reps M H (vs.map (·.2)) ds:=by
 cases h with
 | dit h n e l r=>exact⟨_,_,rfl,h,n,e,l,r⟩
theorem Rep.ofInt{M:Addr->Prop}{H:Hp}{v:V}{i:Int}(h:Rep M H v (.int i)):v= .int i:=by cases h;rfl
theorem Rep.ofBl{M:Addr->Prop}{H:Hp}{v:V}{i:Bool}(h:Rep M H v (.bl i)):v= .bl i:=by cases h;rfl
theorem Rep.ofNon{M:Addr->Prop}{H:Hp}{v:V}(h:Rep M H v .non):v= .non:=by cases h;rfl
structure ObR where
 rel:(Addr->Prop)->Hp->V->List Addr->Prop
 st: ∀{M M':Addr->Prop} {H H':Hp} {v:V} {as:List Addr},rel M H v as->(∀a∈as,∀o,H a=some o->H' a=some o)->(∀a o,H a=some o-> ¬M a->H' a=some o/\ ¬M' a)->rel M' H' v as
inductive Sl where
 | no | im (d:Dt) | ow (ds:List Dt) | bx (t:Int) | dk (ks:List Key) (ds:List Dt) | ob (R:ObR) | fn (f:Addr)
def SlR(M:Addr->Prop)(H:Hp)(o:Option V):Sl->List Addr->Prop
 | .no,as=>as= []
 | .im d,as=>as= []/\ ∃v,o=some v/\Rep M H v d
 | .ow ds,as=> ∃a xs,as= [a]/\o=some (.ref a)/\H a=some (.lst xs)/\Reps M H xs ds
 | .bx t,as=> ∃d c,as= [d,c]/\o=some (.ref d)/\Box H d c t
 | .dk ks ds,as=> ∃a vs,as= [a]/\o=some (.ref a)/\H a=some (.dK vs)/\vs.map (·.1)=ks/\Reps M H (vs.map (·.2)) ds
 | .ob R,as=> ∃v,o=some v/\R.rel M H v as
 | .fn f,as=>as= []/\o=some (.ref f)
structure Wd where
 H0:Hp
 A0:Addr->Prop
 M0:Addr->Prop
 M1:Addr->Prop
 box:Option (Addr × Addr)
noncomputable def Sl.isBx:Sl->Bool
 | .bx _=>true
 | _=>false
structure WOk(W:Wd)(M:Addr->Prop)(α:List (List Addr))(H:Hp)(δ:List Sl):Prop where
 bs: ∀b o,W.H0 b=some o-> ¬W.A0 b->H b=some o
 ex: ∀b,W.H0 b≠none->H b≠none
 fr: ∀a∈α.flatten,W.A0 a\/W.H0 a=none
 m0: ∀a,W.M0 a->M a
 m1: ∀a,M a->W.M1 a\/W.H0 a=none
 bx: ∀d c,W.box=some (d,c)-> ∃t,δ[0]?=some (.bx t)/\α[0]?=some [d,c]
 fz: ∀(i:Nat) s as,δ[i]?=some s->α[i]?=some as->s.isBx=false-> ∀a∈as,¬W.M0 a
def MOk(M:Addr->Prop)(H:Hp):Prop:= ∀a,M a-> ∃o,H a=some o/\ ∀xs,o≠ .tup xs
structure EnvR(Ws:List Wd)(M:Addr->Prop)(α:List (List Addr))(H:Hp)(σ:L2.St)(δ:List Sl):Prop where
 ls:σ.length=δ.length
 la:α.length=δ.length
 sl: ∀(i:Nat) (s:Sl),δ[i]?=some s-> ∃o as,σ[i]?=some o/\α[i]?=some as/\SlR M H o s as
 nd:α.flatten.Nodup
 mu: ∀a∈α.flatten,M a
 al:MOk M H
 w: ∀W∈Ws,WOk W M α H δ
def Chg(α:List (List Addr))(H H':Hp):Prop:= ∀b o,H b=some o->b∉α.flatten->H' b=some o
theorem Chg.rf{α:List (List Addr)}{H:Hp}:Chg α H H:=fun _ _ e _=>e
theorem Chg.tr{α:List (List Addr)}{H H1 H2:Hp}(a:Chg α H H1)(b:Chg α H1 H2):Chg α H H2:=fun x o e n=>b _ _ (a _ _ e n) n
theorem Chg.of{α:List (List Addr)}{H H':Hp}(s:Same H H'):Chg α H H':=fun x o e _=>s _ _ e
theorem Rep.chg{W:List Wd}{M:Addr->Prop}{α:List (List Addr)}{H H':Hp}{σ:L2.St}{δ:List Sl}{v:V}{d:Dt}(h:Rep M H v d)(E:EnvR W M α H σ δ)(c:Chg α H H'):Rep M H' v d:=h.mono fun a o e n=>⟨c _ _ e fun z=>n (E.mu a z),n⟩
theorem SlR.same{M:Addr->Prop}{H H':Hp}{o:Option V}{s:Sl}{as:List Addr}(h:SlR M H o s as)(z:Same H H'):SlR M H' o s as:=by
 cases s with
 | no=>exact h
 | im d=>exact⟨h.1,let ⟨v,e,r⟩:=h.2;⟨v,e,r.same z⟩⟩
 | ow ds=>obtain⟨a,xs,e1,e2,e3,r⟩:=h;exact⟨a,xs,e1,e2,z _ _ e3,r.same z⟩
 | bx t=>obtain⟨d,c,e1,e2,r⟩:=h;exact⟨d,c,e1,e2,r.same z⟩
 | dk ks ds=>obtain⟨a,vs,e1,e2,e3,e4,r⟩:=h;exact⟨a,vs,e1,e2,z _ _ e3,e4,r.same z⟩
 | ob R=>obtain⟨v,e,r⟩:=h;exact⟨v,e,R.st r (fun a _ o q=>z _ _ q) fun a o q n=>⟨z _ _ q,n⟩⟩
 | fn f=>exact h
theorem EnvR.same{W:List Wd}{M:Addr->Prop}{α:List (List Addr)}{H H':Hp}{σ:L2.St}{δ:List Sl}(E:EnvR W M α H σ δ)(z:Same H H'):EnvR W M α H' σ δ:=by
 refine⟨E.ls,E.la,fun i s h=>?_,E.nd,E.mu,fun a h=>?_,fun W hW=>let k:=E.w W hW;⟨fun b o e n=>z _ _ (k.bs b o e n),fun b n y=>k.ex b n (LW.Same.none z y),k.fr,k.m0,k.m1,k.bx,k.fz⟩⟩
 . obtain⟨o,as,h1,h2,h3⟩:=E.sl i s h;exact⟨o,as,h1,h2,h3.same z⟩
 . obtain⟨o,e,n⟩:=E.al a h;exact⟨o,z _ _ e,n⟩
theorem EnvR.fresh{W:List Wd}{M:Addr->Prop}{α:List (List Addr)}{H:Hp}{σ:L2.St}{δ:List Sl}(E:EnvR W M α H σ δ){p:Addr}(h:H p=none): ¬M p:=fun z=>let ⟨_,e,_⟩:=E.al p z;by rw[h] at e;cases e
theorem MOk.fresh{M:Addr->Prop}{H:Hp}(h:MOk M H){p:Addr}(e:H p=none): ¬M p:=fun z=>let ⟨_,e',_⟩:=h p z;by rw[e] at e';cases e'
theorem MOk.tup{M:Addr->Prop}{H:Hp}(h:MOk M H){p:Addr}{xs:List V}(e:H p=some (.tup xs)): ¬M p:=fun z=>let ⟨_,e',n⟩:=h p z;by rw[e] at e';cases e';exact n xs rfl
theorem MOk.newT{M:Addr->Prop}{H H':Hp}(h:MOk M H){p:Addr}{xs:List V}(n:NewT H xs p H'): ¬M p:=by
 rcases n with ⟨_,e⟩ | ⟨e,_⟩
 . exact h.tup e
 . exact h.fresh e
abbrev DTE:=List Sl->(Dt->List Sl->Prop)->Prop
abbrev DTT:=List Sl->(Bool->List Sl->Prop)->Prop
abbrev DTA:=List Sl->(List Dt->List Sl->Prop)->Prop
inductive lE(t:DTE)(σ:L2.St)(H:Hp)(Q:VK):Prop
 | mk (W:List Wd) (M:Addr->Prop) (α:List (List Addr)) (δ:List Sl) (Qd:Dt->List Sl->Prop) (h1:EnvR W M α H σ δ) (h2:t δ Qd) (h3: ∀d δ' H' v,Qd d δ'->EnvR W M α H' σ δ'->Chg α H H'->Rep M H' v d->Q v H')
inductive lT(t:DTT)(σ:L2.St)(H:Hp)(Q:Bool->Hp->Prop):Prop
 | mk (W:List Wd) (M:Addr->Prop) (α:List (List Addr)) (δ:List Sl) (Qd:Bool->List Sl->Prop) (h1:EnvR W M α H σ δ) (h2:t δ Qd) (h3: ∀b δ' H',Qd b δ'->EnvR W M α H' σ δ'->Chg α H H'->Q b H')
inductive lA(t:DTA)(σ:L2.St)(H:Hp)(Q:List V->Hp->Prop):Prop
 | mk (W:List Wd) (M:Addr->Prop) (α:List (List Addr)) (δ:List Sl) (Qd:List Dt->List Sl->Prop) (h1:EnvR W M α H σ δ) (h2:t δ Qd) (h3: ∀ds δ' H' vs,Qd ds δ'->EnvR W M α H' σ δ'->Chg α H H'->Reps M H' vs ds->Q vs H')
abbrev DTO:=List Sl->(List Dt->List Sl->Prop)->Prop
inductive lO(t:DTO)(σ:L2.St)(H:Hp)(Q:VK):Prop
 | mk (W:List Wd) (M:Addr->Prop) (α:List (List Addr)) (δ:List Sl) (Qd:List Dt->List Sl->Prop) (h1:EnvR W M α H σ δ) (h2:t δ Qd) (h3: ∀ds δ' H1 xs a,Qd ds δ'->EnvR W M α H1 σ δ'->Chg α H H1->Reps M H1 xs ds->H1 a=none->Q (.ref a) (upd H1 a (.lst xs)))
theorem PE.imp{X:Cx}{e:Expr}{t t':TE}(h:PE X e t)(i: ∀σ H Q,t' σ H Q->t σ H Q):PE X e t':=fun pins s σ H Q I q=>h pins s σ H Q I (i _ _ _ q)
theorem PT.imp{X:Cx}{e:Expr}{t t':TT}(h:PT X e t)(i: ∀σ H Q,t' σ H Q->t σ H Q):PT X e t':=fun pins s σ H Q I q=>h pins s σ H Q I (i _ _ _ q)
theorem PW.imp{X:Cx}{e:Expr}{t t':TT}(h:PW X e t)(i: ∀σ H Q,t' σ H Q->t σ H Q):PW X e t':=fun w pins s σ H Q I q=>h w pins s σ H Q I (i _ _ _ q)
theorem PA.imp{X:Cx}{e:List Expr}{t t':TA}(h:PA X e t)(i: ∀σ H Q,t' σ H Q->t σ H Q):PA X e t':=fun pos pins s σ H Q I q=>h pos pins s σ H Q I (i _ _ _ q)
theorem PS.imp{X:Cx}{e:Stmt}{t t':TS}(h:PS X e t)(i: ∀D σ H,t' D σ H->t D σ H):PS X e t':=fun pins s σ H D I q=>h pins s σ H D I (i _ _ _ q)
theorem PSs.imp{X:Cx}{e:List Stmt}{t t':TS}(h:PSs X e t)(i: ∀D σ H,t' D σ H->t D σ H):PSs X e t':=fun pins s σ H D I q=>h pins s σ H D I (i _ _ _ q)
abbrev Ev(X:Cx)(e:Expr)(t:DTE):Prop:=PE X e (lE t)
abbrev Tv(X:Cx)(e:Expr)(t:DTT):Prop:=PT X e (lT t)
abbrev Av(X:Cx)(es:List Expr)(t:DTA):Prop:=PA X es (lA t)
abbrev Ov(X:Cx)(e:Expr)(t:DTO):Prop:=PE X e (lO t)
section
variable {X : Cx} {a b c e : Expr} {es : List Expr} {ta tb t : DTE} {pos : Pos}
inductive dVar(i:Nat)(δ:List Sl)(Q:Dt->List Sl->Prop):Prop
 | mk (d:_) (h1:δ[i]?=some (.im d)) (h2:Q d δ)
theorem EnvR.im{W:List Wd}{M:Addr->Prop}{α:List (List Addr)}{H:Hp}{σ:L2.St}{δ:List Sl}(E:EnvR W M α H σ δ){i:Nat}{d:Dt}(h:δ[i]?=some (.im d)): ∃v,σ[i]?=some (some v)/\Rep M H v d:=by
 obtain⟨o,as,h1,_,_,v,rfl,r⟩:=E.sl i _ h;exact⟨v,h1,r⟩
theorem EnvR.ow{W:List Wd}{M:Addr->Prop}{α:List (List Addr)}{H:Hp}{σ:L2.St}{δ:List Sl}(E:EnvR W M α H σ δ){i:Nat}{ds:List Dt}(h:δ[i]?=some (.ow ds)): ∃a xs,σ[i]?=some (some (.ref a))/\α[i]?=some [a]/\H a=some (.lst xs)/\Reps M H xs ds:=by
 obtain⟨o,as,h1,h2,a,xs,rfl,rfl,e,r⟩:=E.sl i _ h;exact⟨a,xs,h1,h2,e,r⟩
theorem ev_var(i:Nat){x:Str}(h:PE X (.Name x pos) (tVar i)):Ev X (.Name x pos) (dVar i):=PE.imp h fun σ H Q zz1=>(by obtain⟨W,M,α,δ,Qd,E,⟨d,hd,q⟩,k⟩:=zz1;exact(by
 obtain⟨v,h1,r⟩:=E.im hd;exact⟨v,h1,k _ _ _ _ q E Chg.rf r⟩))
theorem dv(i:Nat){x:Str}{pos:Pos}(hN:autoParam (X.N[i]?=some x) au5._auto_1)(hv:autoParam (Vis X.env.scope x) au6._auto_1)(hd:autoParam ((x==("__debug__":Str))=false) au2._auto_1)
  (hcd:autoParam ((x==("__classdict__":Str))=false) au2._auto_1):Ev X (.Name x pos) (dVar i):=ev_var i (pe_var hN hv hd hcd)
def dC(d:Dt):DTE:=fun δ Q=>Q d δ
theorem d_int{i j pos}:Ev X (.Constant (.int i) j pos) (dC (.int i)):=PE.imp pe_int fun σ H Q zz2=>(by obtain⟨W,M,α,δ,Qd,E,q,k⟩:=zz2;exact(k _ _ _ _ q E Chg.rf (.int i)))
theorem d_bl{i j pos}:Ev X (.Constant (.bool i) j pos) (dC (.bl i)):=PE.imp pe_bl fun σ H Q zz3=>(by obtain⟨W,M,α,δ,Qd,E,q,k⟩:=zz3;exact(k _ _ _ _ q E Chg.rf (.bl i)))
theorem d_non{j pos}:Ev X (.Constant .none j pos) (dC .non):=PE.imp pe_non fun σ H Q zz4=>(by obtain⟨W,M,α,δ,Qd,E,q,k⟩:=zz4;exact(k _ _ _ _ q E Chg.rf .non))
theorem d_str{i j pos}:Ev X (.Constant (.str i) j pos) (dC (.str i)):=PE.imp pe_str fun σ H Q zz5=>(by obtain⟨W,M,α,δ,Qd,E,q,k⟩:=zz5;exact(k _ _ _ _ q E Chg.rf (.str i)))
def dO(t:DTO):DTE:=fun δ Q=>t δ fun ds δ'=>Q (.lst ds) δ'
theorem Ov.ev{t:DTO}(h:Ov X e t):Ev X e (dO t):=PE.imp h fun σ H Q zz1=>(by obtain⟨W,M,α,δ,Qd,E,q,k⟩:=zz1;exact(by
 refine⟨W,M,α,δ,_,E,q,fun ds δ' H1 xs a q1 E1 c1 r1 h1=>?_⟩;have s:Same H1 (upd H1 a (.lst xs)):=Same.new h1;exact k _ _ _ _ q1 (E1.same s) (c1.tr (Chg.of s)) (Rep.toLst upd_same (E1.fresh h1) (r1.same s))))
abbrev D2:=Dt->Dt->(Dt->Prop)->Prop
def DOp(r:R2)(R:D2):Prop:= ∀(M:Addr->Prop) (H:Hp) (x y:V) (d1 d2:Dt) (Qd:Dt->Prop) (Q:VK),MOk M H->Rep M H x d1->Rep M H y d2->R d1 d2 Qd->(∀H' v d,Qd d->Same H H'->Rep M H' v d->Q v H')->r x y H Q
def dOp(R:D2)(ta tb:DTE):DTE:=fun δ Q=>ta δ fun d1 δ1=>tb δ1 fun d2 δ2=>R d1 d2 fun d=>Q d δ2
theorem op_read{r:R2}{R:D2}(hd:DOp r R): ∀σ H Q,lE (dOp R ta tb) σ H Q->tOp r (lE ta) (lE tb) σ H Q:=fun σ H Q zz7=>(by obtain⟨W,M,α,δ,Qd,E,q,k⟩:=zz7;exact(
 ⟨W,M,α,δ,_,E,q,fun d1 δ1 H1 x q1 E1 c1 r1=>⟨W,M,α,δ1,_,E1,q1,fun d2 δ2 H2 y q2 E2 c2 r2=>hd M H2 x y d1 d2 _ _ E2.al (r1.chg E1 c2) r2 q2 fun H' v d q3 s r3=>k _ _ _ _ q3 (E2.same s) ((c1.tr c2).tr (Chg.of s)) r3⟩⟩))
theorem d_op{op:Operator}{r:R2}{R:D2}(ho:OpR X (binaryOp op) r)(hd:DOp r R)(ha:Ev X a ta)(hb:Ev X b tb):Ev X (.BinOp a op b pos) (dOp R ta tb):=PE.imp (pe_op ho ha hb) (op_read hd)
theorem d_cmp{op:CmpOp}{r:R2}{R:D2}(ho:OpR X (compareOp op) r)(hd:DOp r R)(ha:Ev X a ta)(hb:Ev X b tb)(hm:behindInMarks op b=false):Ev X (.Compare a [op] [b] pos) (dOp R ta tb):=PE.imp (pe_cmpR ho ha hb hm) (op_read hd)
inductive dT_i(Q:Bool->List Sl->Prop)(d:Dt)(δ':List Sl):Prop
 | mk (c:_) (h1:d= .bl c) (h2:Q c δ')
def dT(t:DTE):DTT:=fun δ Q=>t δ fun d δ'=>dT_i Q d δ'
theorem test_read{t:DTE}: ∀σ H (Q:Bool->Hp->Prop),lT (dT t) σ H Q->lE t σ H fun x H1=> ∃c,x= .bl c/\Q c H1:=fun σ H Q zz8=>(by obtain⟨W,M,α,δ,Qd,E,q,k⟩:=zz8;exact(
 ⟨W,M,α,δ,_,E,q,fun d δ' H' v zz9 E1 c1 r1=>(by obtain⟨c,e,q1⟩:=zz9;exact(⟨c,by subst e;exact r1.ofBl,k _ _ _ q1 E1 c1⟩))⟩))
theorem d_test{op:CmpOp}{r:R2}{R:D2}(ho:OpR X (compareOp op) r)(hd:DOp r R)(ha:Ev X a ta)(hb:Ev X b tb)(hm:behindInMarks op b=false):Tv X (.Compare a [op] [b] pos) (dT (dOp R ta tb)):=
 PT.imp (pt_cmpR ho ha hb hm) fun σ H Q h=>op_read hd _ _ _ (test_read _ _ _ h |> fun zz10=>(by obtain⟨W,M,α,δ,Qd,E,q,k⟩:=zz10;exact(⟨W,M,α,δ,Qd,E,q,k⟩)))
theorem d_val(h:Ev X e t)(he:autoParam (∀whole,isTrue e X.env whole=(do let v<-whole;standAt e.pos;holding [v] (truthy v))) au4._auto_1):Tv X e (dT t):=PT.imp (pt_val h he) fun σ H Q h=>test_read _ _ _ h
def dIsN(ta:DTE):DTE:=fun δ Q=>ta δ fun d δ'=>Q (.bl d.isN) δ'
def dNotN(ta:DTE):DTE:=fun δ Q=>ta δ fun d δ'=>Q (.bl (!d.isN)) δ'
theorem isn_of{M:Addr->Prop}{H:Hp}{v:V}{d:Dt}(r:Rep M H v d):decide (v= .non)=d.isN:=by cases r <;> rfl
theorem isn_read: ∀σ H Q,lE (dIsN ta) σ H Q->tIsN (lE ta) σ H Q:=fun σ H Q zz11=>(by obtain⟨W,M,α,δ,Qd,E,q,k⟩:=zz11;exact(
 ⟨W,M,α,δ,_,E,q,fun d δ' H' v q1 E1 c1 r1=>by show Q (V.bl (decide (v=V.non))) H';rw[isn_of r1];exact k _ _ _ _ q1 E1 c1 (.bl _)⟩))
theorem notn_read: ∀σ H Q,lE (dNotN ta) σ H Q->tNotN (lE ta) σ H Q:=fun σ H Q zz12=>(by obtain⟨W,M,α,δ,Qd,E,q,k⟩:=zz12;exact(
 ⟨W,M,α,δ,_,E,q,fun d δ' H' v q1 E1 c1 r1=>by show Q (V.bl !decide (v=V.non)) H';rw[isn_of r1];exact k _ _ _ _ q1 E1 c1 (.bl _)⟩))
theorem d_isN{j pos'}(ha:Ev X a ta):Ev X (.Compare a [.Is] [.Constant .none j pos'] pos) (dIsN ta):=PE.imp (pe_cmp (pc_isN ha)) isn_read
theorem t_isN{j pos'}(ha:Ev X a ta):Tv X (.Compare a [.Is] [.Constant .none j pos'] pos) (dT (dIsN ta)):=PT.imp (pt_cmp (pc_isN ha)) fun σ H Q h=>isn_read _ _ _ (test_read _ _ _ h)
theorem t_notN{j pos'}(ha:Ev X a ta):Tv X (.Compare a [.IsNot] [.Constant .none j pos'] pos) (dT (dNotN ta)):=PT.imp (pt_cmp (pc_notN ha)) fun σ H Q h=>notn_read _ _ _ (test_read _ _ _ h)
end
section
variable {X : Cx} {a b c e : Expr} {es rest : List Expr} {ta tb t : DTE} {u v : DTT} {pos : Pos}
def dAnd(t u:DTT):DTT:=fun δ Q=>t δ fun c δ1=>if c=true then u δ1 Q else Q false δ1
def dOr(t u:DTT):DTT:=fun δ Q=>t δ fun c δ1=>if c=true then Q true δ1 else u δ1 Q
def dNot(t:DTT):DTT:=fun δ Q=>t δ fun c δ1=>Q (!c) δ1
theorem w_and1(h:Tv X a u):PW X (.BoolOp .And [a] pos) (lT u):=pw_and1 h
theorem w_or1(h:Tv X a u):PW X (.BoolOp .Or [a] pos) (lT u):=pw_or1 h
theorem w_and(ha:Tv X a u)(hb:PW X (.BoolOp .And (b::rest) pos) (lT v)):PW X (.BoolOp .And (a::b::rest) pos) (lT (dAnd u v)):=PW.imp (pw_and ha hb) fun σ H Q zz13=>(by obtain⟨W,M,α,δ,Qd,E,q,k⟩:=zz13;exact(
 ⟨W,M,α,δ,_,E,q,fun c δ1 H1 q1 E1 c1=>by
  cases c with
  | true=>rw[if_pos rfl] at q1 ⊢;exact⟨W,M,α,δ1,_,E1,q1,fun c2 δ2 H2 q2 E2 c2'=>k _ _ _ q2 E2 (c1.tr c2')⟩
  | false=>rw[if_neg Bool.false_ne_true] at q1 ⊢;exact k _ _ _ q1 E1 c1⟩))
theorem w_or(ha:Tv X a u)(hb:PW X (.BoolOp .Or (b::rest) pos) (lT v)):PW X (.BoolOp .Or (a::b::rest) pos) (lT (dOr u v)):=PW.imp (pw_or ha hb) fun σ H Q zz14=>(by obtain⟨W,M,α,δ,Qd,E,q,k⟩:=zz14;exact(
 ⟨W,M,α,δ,_,E,q,fun c δ1 H1 q1 E1 c1=>by
  cases c with
  | false=>rw[if_neg Bool.false_ne_true] at q1 ⊢;exact⟨W,M,α,δ1,_,E1,q1,fun c2 δ2 H2 q2 E2 c2'=>k _ _ _ q2 E2 (c1.tr c2')⟩
  | true=>rw[if_pos rfl] at q1 ⊢;exact k _ _ _ q1 E1 c1⟩))
theorem t_not(ha:Tv X a u):Tv X (.UnaryOp .Not a pos) (dNot u):=PT.imp (pt_not ha) fun σ H Q zz15=>(by obtain⟨W,M,α,δ,Qd,E,q,k⟩:=zz15;exact(⟨W,M,α,δ,_,E,q,fun c δ1 H1 q1 E1 c1=>k _ _ _ q1 E1 c1⟩))
inductive dAndV_i(tb:DTE)(Q:Dt->List Sl->Prop)(d:Dt)(δ1:List Sl):Prop
 | mk (c:_) (h1:d= .bl c) (h2:if c=true then tb δ1 Q else Q (.bl false) δ1)
def dAndV(ta tb:DTE):DTE:=fun δ Q=>ta δ fun d δ1=>dAndV_i tb Q d δ1
inductive dNotV_i(Q:Dt->List Sl->Prop)(d:Dt)(δ1:List Sl):Prop
 | mk (c:_) (h1:d= .bl c) (h2:Q (.bl (!c)) δ1)
def dNotV(ta:DTE):DTE:=fun δ Q=>ta δ fun d δ1=>dNotV_i Q d δ1
theorem d_one{op}(h:Ev X a t):Ev X (.BoolOp op [a] pos) t:=pe_one h
theorem d_and(ha:Ev X a ta)(hb:Ev X (.BoolOp .And (b::rest) pos) tb):Ev X (.BoolOp .And (a::b::rest) pos) (dAndV ta tb):=PE.imp (pe_and ha hb) fun σ H Q zz16=>(by obtain⟨W,M,α,δ,Qd,E,q,k⟩:=zz16;exact(
 ⟨W,M,α,δ,_,E,q,fun d δ1 H1 x zz17 E1 c1 r1=>(by obtain⟨c,e,q1⟩:=zz17;exact(⟨c,by subst e;exact r1.ofBl,by
  cases c with
  | true=>rw[if_pos rfl] at q1 ⊢;exact⟨W,M,α,δ1,_,E1,q1,fun d2 δ2 H2 y q2 E2 c2 r2=>k _ _ _ _ q2 E2 (c1.tr c2) r2⟩
  | false=>rw[if_neg Bool.false_ne_true] at q1 ⊢;exact k _ _ _ _ q1 E1 c1 (.bl _)⟩))⟩))
theorem d_not(ha:Ev X a ta):Ev X (.UnaryOp .Not a pos) (dNotV ta):=PE.imp (pe_not ha) fun σ H Q zz20=>(by obtain⟨W,M,α,δ,Qd,E,q,k⟩:=zz20;exact(
 ⟨W,M,α,δ,_,E,q,fun d δ1 H1 x zz21 E1 c1 r1=>(by obtain⟨c,e,q1⟩:=zz21;exact(⟨c,by subst e;exact r1.ofBl,k _ _ _ _ q1 E1 c1 (.bl _)⟩))⟩))
def dIf(t:DTT)(ta tb:DTE):DTE:=fun δ Q=>t δ fun c δ1=>if c=true then ta δ1 Q else tb δ1 Q
theorem d_ifExp(hc:Tv X c u)(ha:Ev X a ta)(hb:Ev X b tb):Ev X (.IfExp c a b pos) (dIf u ta tb):=PE.imp (pe_ifExp hc ha hb) fun σ H Q zz22=>(by obtain⟨W,M,α,δ,Qd,E,q,k⟩:=zz22;exact(
 ⟨W,M,α,δ,_,E,q,fun c δ1 H1 q1 E1 c1=>by
  cases c with
  | true=>rw[if_pos rfl] at q1 ⊢;exact⟨W,M,α,δ1,_,E1,q1,fun d2 δ2 H2 y q2 E2 c2 r2=>k _ _ _ _ q2 E2 (c1.tr c2) r2⟩
  | false=>rw[if_neg Bool.false_ne_true] at q1 ⊢;exact⟨W,M,α,δ1,_,E1,q1,fun d2 δ2 H2 y q2 E2 c2 r2=>k _ _ _ _ q2 E2 (c1.tr c2) r2⟩⟩))
def dNil:DTA:=fun δ Q=>Q [] δ
def dCons(ta:DTE)(tr:DTA):DTA:=fun δ Q=>ta δ fun d δ1=>tr δ1 fun ds δ2=>Q (d::ds) δ2
theorem a_nil:Av X [] dNil:=PA.imp pa_nil fun σ H Q zz23=>(by obtain⟨W,M,α,δ,Qd,E,q,k⟩:=zz23;exact(k _ _ _ _ q E Chg.rf .nil))
theorem a_cons{tr:DTA}(ha:Ev X e ta)(hr:Av X es tr)(hs:autoParam (starEach (e::es) X.env=(false,eval e X.env)::starEach es X.env) au5._auto_1):Av X (e::es) (dCons ta tr):=PA.imp (pa_cons ha hr hs) fun σ H Q zz24=>(by obtain⟨W,M,α,δ,Qd,E,q,k⟩:=zz24;exact(
 ⟨W,M,α,δ,_,E,q,fun d δ1 H1 x q1 E1 c1 r1=>⟨W,M,α,δ1,_,E1,q1,fun ds δ2 H2 xs q2 E2 c2 r2=>k _ _ _ _ q2 E2 (c1.tr c2) (.cons (r1.chg E1 c2) r2)⟩⟩))
def dTup(t:DTA):DTE:=fun δ Q=>t δ fun ds δ'=>ds.length<=sizeLine/\Q (.tup ds) δ'
def dLst(t:DTA):DTO:=fun δ Q=>t δ fun ds δ'=>ds.length<=sizeLine/\Q ds δ'
theorem d_tup{x1}{t:DTA}(h:Av X es t):Ev X (.Tuple es x1 pos) (dTup t):=PE.imp (pe_tup h) fun σ H Q zz25=>(by obtain⟨W,M,α,δ,Qd,E,q,k⟩:=zz25;exact(
 ⟨W,M,α,δ,_,E,q,fun ds δ1 H1 xs zz26 E1 c1 r1=>(by obtain⟨l,q1⟩:=zz26;exact(⟨by rw[r1.1];exact l,fun p hp=>by
  have s:Same H1 (upd H1 p (.tup xs)):=Same.new hp;exact k _ _ _ _ q1 (E1.same s) (c1.tr (Chg.of s)) (Rep.toTup upd_same (E1.fresh hp) (r1.same s))⟩))⟩))
theorem o_lst{t:DTA}(h:Av X es t):Ov X (.List es pos) (dLst t):=PE.imp (pe_lst h) fun σ H Q zz27=>(by obtain⟨W,M,α,δ,Qd,E,q,k⟩:=zz27;exact(
 ⟨W,M,α,δ,_,E,q,fun ds δ1 H1 xs zz28 E1 c1 r1=>(by obtain⟨l,q1⟩:=zz28;exact(⟨by rw[r1.1];exact l,fun p hp=>k _ _ _ _ _ q1 E1 c1 r1 hp⟩))⟩))
theorem d_lst{t:DTA}(h:Av X es t):Ev X (.List es pos) (dO (dLst t)):=Ov.ev (o_lst h)
abbrev DN:=List Dt->(Dt->Prop)->Prop
def DCa(r:List V->Hp->VK->Prop)(R:DN):Prop:= ∀(M:Addr->Prop) (H:Hp) (xs:List V) (ds:List Dt) (Qd:Dt->Prop) (Q:VK),MOk M H->Reps M H xs ds->R ds Qd->(∀H' v d,Qd d->Same H H'->Rep M H' v d->Q v H')->r xs H Q
def dCa(R:DN)(t:DTA):DTE:=fun δ Q=>t δ fun ds δ'=>R ds fun d=>Q d δ'
theorem call_read{r:List V->Hp->VK->Prop}{R:DN}{t:DTA}(hd:DCa r R): ∀σ H Q,lE (dCa R t) σ H Q->tCB r (lA t) σ H Q:=fun σ H Q zz29=>(by obtain⟨W,M,α,δ,Qd,E,q,k⟩:=zz29;exact(
 ⟨W,M,α,δ,_,E,q,fun ds δ1 H1 xs q1 E1 c1 r1=>hd M H1 xs ds _ _ E1.al r1 q1 fun H' v d q3 s r3=>k _ _ _ _ q3 (E1.same s) (c1.tr (Chg.of s)) r3⟩))
theorem d_callB{id:String}{x:Str}{p:Pos}{r:List V->Hp->VK->Prop}{R:DN}{t:DTA}(hc:CallR X (.builtin id) r)(hd:DCa r R)(hg:Gl X x)(hm:X.mg x=none)(hv:bootBuiltins x=some (.builtin id))(ha:Av X (e::es) t)(hn:autoParam (x≠"__name__") au2._auto_1)(hdb:autoParam ((x==("__debug__":Str))=false) au2._auto_1)
  (he:autoParam (starEach (e::es) X.env=(false,eval e X.env)::starEach es X.env) au5._auto_1) (hpl:autoParam ((backTo pos (starEach es X.env)).any (·.1)=false) au5._auto_1):Ev X (.Call (.Name x p) (e::es) [] pos) (dCa R t):=
 PE.imp (pe_callB hc hg hm hv ha hn hdb he hpl) (call_read hd)
theorem d_callTy{T:String}{x:Str}{p:Pos}{r:List V->Hp->VK->Prop}{R:DN}{t:DTA}(hc:CallR X (.type T) r)(hd:DCa r R)(hg:Gl X x)(hm:X.mg x=none)(hv:bootBuiltins x=some (.type T))(ha:Av X (e::es) t)(hn:autoParam (x≠"__name__") au2._auto_1)(hdb:autoParam ((x==("__debug__":Str))=false) au2._auto_1)
  (he:autoParam (starEach (e::es) X.env=(false,eval e X.env)::starEach es X.env) au5._auto_1) (hpl:autoParam ((backTo pos (starEach es X.env)).any (·.1)=false) au5._auto_1):Ev X (.Call (.Name x p) (e::es) [] pos) (dCa R t):=
 PE.imp (pe_callTy hc hg hm hv ha hn hdb he hpl) (call_read hd)
end
end LD
end
section
namespace LD
open PySem PySem.Spec L2 LB PyProof.Rows
inductive D_i(g:Int->Int->Dt)(d1:Dt)(d2:Dt)(Q:Dt->Prop):Prop
 | mk (i j:_) (h1:d1= .int i) (h2:d2= .int j) (h3:Q (g i j))
theorem do_i{g:Int->Int->V}{gd:Int->Int->Dt}(h: ∀M H i j,Rep M H (g i j) (gd i j)):DOp (rI0 g) (D_i gd):=fun M H x y d1 d2 Qd Q al r1 r2 zz1 k=>(by obtain⟨i,j,e1,e2,q⟩:=zz1;exact(by
 subst e1;subst e2;exact⟨i,j,r1.ofInt,r2.ofInt,k H _ _ q (fun _ _ z=>z) (h M H i j)⟩))
section
variable {X : Cx} {a b c e : Expr} {es rest : List Expr} {ta tb tc t : DTE} {pos : Pos}
abbrev dAdd(ta tb:DTE):DTE:=dOp (D_i fun i j=> .int (i+j)) ta tb
abbrev dSub(ta tb:DTE):DTE:=dOp (D_i fun i j=> .int (i - j)) ta tb
theorem d_add(ha:Ev X a ta)(hb:Ev X b tb):Ev X (.BinOp a .Add b pos) (dAdd ta tb):=d_op op_add (do_i fun _ _ _ _=> .int _) ha hb
theorem d_sub(ha:Ev X a ta)(hb:Ev X b tb):Ev X (.BinOp a .Sub b pos) (dSub ta tb):=d_op op_sub (do_i fun _ _ _ _=> .int _) ha hb
abbrev D_lt:D2:=D_i fun i j=> .bl (decide (i < j))
abbrev D_le:D2:=D_i fun i j=> .bl (decide (i<=j))
abbrev D_gt:D2:=D_i fun i j=> .bl (decide (j < i))
theorem d_le(ha:Ev X a ta)(hb:Ev X b tb):Ev X (.Compare a [.LtE] [b] pos) (dOp D_le ta tb):=d_cmp op_le (do_i fun _ _ _ _=> .bl _) ha hb (nomark _)
theorem d_gt(ha:Ev X a ta)(hb:Ev X b tb):Ev X (.Compare a [.Gt] [b] pos) (dOp D_gt ta tb):=d_cmp op_gt (do_i fun _ _ _ _=> .bl _) ha hb (nomark _)
theorem t_lt(ha:Ev X a ta)(hb:Ev X b tb):Tv X (.Compare a [.Lt] [b] pos) (dT (dOp D_lt ta tb)):=d_test op_lt (do_i fun _ _ _ _=> .bl _) ha hb (nomark _)
theorem t_le(ha:Ev X a ta)(hb:Ev X b tb):Tv X (.Compare a [.LtE] [b] pos) (dT (dOp D_le ta tb)):=d_test op_le (do_i fun _ _ _ _=> .bl _) ha hb (nomark _)
theorem t_gt(ha:Ev X a ta)(hb:Ev X b tb):Tv X (.Compare a [.Gt] [b] pos) (dT (dOp D_gt ta tb)):=d_test op_gt (do_i fun _ _ _ _=> .bl _) ha hb (nomark _)
noncomputable def eq2:Dt->Dt->Option Bool
 | .non, .non=>some true | .non, .int _=>some false | .int _, .non=>some false | .non, .bl _=>some false | .bl _, .non=>some false | .non, .str _=>some false | .str _, .non=>some false
 | .int i, .int j=>some (decide (i=j)) | .bl i, .bl j=>some (decide (i=j)) | .str i, .str j=>some (decide (i=j))
 | .int _, .str _=>some false | .str _, .int _=>some false | .bl _, .str _=>some false | .str _, .bl _=>some false
 | _,_=>none
inductive D_eq(d1:Dt)(d2:Dt)(Q:Dt->Prop):Prop
 | mk (b:_) (h1:eq2 d1 d2=some b) (h2:Q (.bl b))
inductive D_ne(d1:Dt)(d2:Dt)(Q:Dt->Prop):Prop
 | mk (b:_) (h1:eq2 d1 d2=some b) (h2:Q (.bl (!b)))
noncomputable def flV:Dt->Option V
 | .non=>some .non | .bl b=>some (.bl b) | .int i=>some (.int i) | .str x=>some (.str x) | _=>none
theorem Rep.fl{M:Addr->Prop}{H:Hp}{v u:V}{d:Dt}(r:Rep M H v d)(h:flV d=some u):v=u:=by
 cases r <;> cases h <;> rfl
theorem dcI{i j:Int}:decide (V.int i=V.int j)=decide (i=j):=by simp
theorem dcB{i j:Bool}:decide (V.bl i=V.bl j)=decide (i=j):=by simp
theorem dcS{i j:Str}:decide (V.str i=V.str j)=decide (i=j):=by simp
inductive E2(d1 d2:Dt)(b:Bool):Prop
 | mk (u1 u2:V) (h1:flV d1=some u1) (h2:flV d2=some u2) (h3:scal u1 u2=true/\decide (u1=u2)=b)
def E2o(d1 d2:Dt):Option Bool->Prop
 | none=>True
 | some b=>E2 d1 d2 b
theorem eq2_fl{d1 d2:Dt}:E2o d1 d2 (eq2 d1 d2):=by
 cases d1 with
 | lst _=>trivial
 | tup _=>trivial
 | dic _ _=>trivial
 | dit _ _=>trivial
 | _=>cases d2 with
  | lst _=>trivial
  | tup _=>trivial
  | dic _ _=>trivial
  | dit _ _=>trivial
  | _=>first | trivial | exact⟨_,_,rfl,rfl,rfl,rfl⟩ | exact⟨_,_,rfl,rfl,rfl,dcI⟩ | exact⟨_,_,rfl,rfl,rfl,dcB⟩ | exact⟨_,_,rfl,rfl,rfl,dcS⟩
theorem eq2_of{M:Addr->Prop}{H:Hp}{x y:V}{d1 d2:Dt}{b:Bool}(r1:Rep M H x d1)(r2:Rep M H y d2)(h:eq2 d1 d2=some b):scal x y=true/\decide (x=y)=b:=by
 have z:E2o d1 d2 (some b):=h▸eq2_fl;obtain⟨u1,u2,e1,e2,q⟩:=z;rw[r1.fl e1,r2.fl e2];exact q
theorem do_eq:DOp rEq D_eq:=fun M H x y d1 d2 Qd Q al r1 r2 zz3 k=>(by obtain⟨b,e,q⟩:=zz3;exact(by
 obtain⟨h1,h2⟩:=eq2_of r1 r2 e;exact⟨h1,by rw[h2];exact k H _ _ q (fun _ _ z=>z) (.bl b)⟩))
theorem do_ne:DOp rNe D_ne:=fun M H x y d1 d2 Qd Q al r1 r2 zz4 k=>(by obtain⟨b,e,q⟩:=zz4;exact(by
 obtain⟨h1,h2⟩:=eq2_of r1 r2 e;exact⟨h1,by rw[h2];exact k H _ _ q (fun _ _ z=>z) (.bl _)⟩))
theorem d_eq(ha:Ev X a ta)(hb:Ev X b tb):Ev X (.Compare a [.Eq] [b] pos) (dOp D_eq ta tb):=d_cmp op_eq do_eq ha hb (nomark _)
theorem t_eq(ha:Ev X a ta)(hb:Ev X b tb):Tv X (.Compare a [.Eq] [b] pos) (dT (dOp D_eq ta tb)):=d_test op_eq do_eq ha hb (nomark _)
theorem t_ne(ha:Ev X a ta)(hb:Ev X b tb):Tv X (.Compare a [.NotEq] [b] pos) (dT (dOp D_ne ta tb)):=d_test op_ne do_ne ha hb (nomark _)
inductive D_u_i(g:Int->Dt)(Q:Dt->List Sl->Prop)(d:Dt)(δ':List Sl):Prop
 | mk (i:_) (h1:d= .int i) (h2:Q (g i) δ')
def D_u(g:Int->Dt)(ta:DTE):DTE:=fun δ Q=>ta δ fun d δ'=>D_u_i g Q d δ'
theorem d_neg(ha:Ev X a ta):Ev X (.UnaryOp .USub a pos) (D_u (fun i=> .int (-i)) ta):=PE.imp (pe_un un_neg ha) fun σ H Q zz5=>(by obtain⟨W,M,α,δ,Qd,E,q,k⟩:=zz5;exact(
 ⟨W,M,α,δ,_,E,q,fun d δ1 H1 x zz6 E1 c1 r1=>(by obtain⟨i,e,q1⟩:=zz6;exact(⟨i,by subst e;exact r1.ofInt,k _ _ _ _ q1 E1 c1 (.int _)⟩))⟩))
theorem atI_rep{M:Addr->Prop}{H:Hp}{xs:List V}{ds:List Dt}{i:Int}{d:Dt}(r:Reps M H xs ds)(h:atI ds i=some d): ∃x,atI xs i=some x/\Rep M H x d:=by
 unfold atI at h ⊢;rw[r.1];cases hn:ixN ds.length i with
 | none=>rw[hn] at h;cases h
 | some j=>rw[hn] at h;exact r.get h
inductive D_ix(d1:Dt)(d2:Dt)(Q:Dt->Prop):Prop
 | mk (ds i d:_) (h1:(d1= .lst ds\/d1= .tup ds)) (h2:d2= .int i) (h3:atI ds i=some d) (h4:Q d)
theorem do_ix{K:PySem.W.Frag}:DOp (rIx K) D_ix:=fun M H x y d1 d2 Qd Q al r1 r2 zz7 k=>(by obtain⟨ds,i,d,e1,e2,h,q⟩:=zz7;exact(by
 subst e2;rcases e1 with e1 | e1
 . subst e1;obtain⟨a,xs,rfl,ha,n,rr⟩:=r1.ofLst;obtain⟨v,hv,rv⟩:=atI_rep rr h;exact .inl ⟨a,xs,i,v,rfl,r2.ofInt,SqL.of ha,hv,k H _ _ q (fun _ _ z=>z) rv⟩
 . subst e1;obtain⟨a,xs,rfl,ha,n,rr⟩:=r1.ofTup;obtain⟨v,hv,rv⟩:=atI_rep rr h;exact .inr (.inl ⟨a,xs,i,v,rfl,r2.ofInt,SqT.of ha,hv,k H _ _ q (fun _ _ z=>z) rv⟩)))
theorem d_ix(ha:Ev X a ta)(hb:Ev X b tb)(hs:autoParam (PlainIx b) au7._auto_1):Ev X (.Subscript a b pos) (dOp D_ix ta tb):=PE.imp (pe_ix ix_seq ha hb hs) (op_read do_ix)
noncomputable def cutD(ds:List Dt)(lo hi:Option Int):List Dt:=(ds.drop (HT.sIx ds.length 0 lo)).take (HT.sIx ds.length ds.length hi - HT.sIx ds.length 0 lo)
theorem Reps.cut{M:Addr->Prop}{H:Hp}{xs:List V}{ds:List Dt}(r:Reps M H xs ds)(lo hi:Option Int):Reps M H (cutV xs lo hi) (cutD ds lo hi):=by
 unfold cutV cutD;rw[r.1];exact(r.drop _).take _
abbrev DTP:=List Sl->(Option Int->List Sl->Prop)->Prop
inductive lP(t:DTP)(σ:L2.St)(H:Hp)(Q:Option Int->Hp->Prop):Prop
 | mk (W:List Wd) (M:Addr->Prop) (α:List (List Addr)) (δ:List Sl) (Qd:Option Int->List Sl->Prop) (h1:EnvR W M α H σ δ) (h2:t δ Qd) (h3: ∀o δ' H',Qd o δ'->EnvR W M α H' σ δ'->Chg α H H'->Q o H')
def dNoP:DTP:=fun δ Q=>Q none δ
inductive dPart_i(Q:Option Int->List Sl->Prop)(d:Dt)(δ':List Sl):Prop
 | mk (i:_) (h1:d= .int i) (h2:Q (some i) δ')
def dPart(t:DTE):DTP:=fun δ Q=>t δ fun d δ'=>dPart_i Q d δ'
abbrev Pv(X:Cx)(o:Option Expr)(t:DTP):Prop:=PO X o (lP t)
theorem PO.imp{X:Cx}{e:Option Expr}{t t':L2.TO}(h:PO X e t)(i: ∀σ H Q,t' σ H Q->t σ H Q):PO X e t':=fun pins s σ H Q I q=>h pins s σ H Q I (i _ _ _ q)
theorem p_none:Pv X none dNoP:=PO.imp po_none fun σ H Q zz8=>(by obtain⟨W,M,α,δ,Qd,E,q,k⟩:=zz8;exact(k _ _ _ q E Chg.rf))
theorem p_some(h:Ev X e t):Pv X (some e) (dPart t):=PO.imp (po_some h) fun σ H Q zz9=>(by obtain⟨W,M,α,δ,Qd,E,q,k⟩:=zz9;exact(
 ⟨W,M,α,δ,_,E,q,fun d δ1 H1 x zz10 E1 c1 r1=>(by obtain⟨i,e,q1⟩:=zz10;exact(⟨i,by subst e;exact r1.ofInt,k _ _ _ q1 E1 c1⟩))⟩))
inductive dSlT_i(Q:Dt->List Sl->Prop)(d:Dt)(lo:Option Int)(hi:Option Int)(δ3:List Sl):Prop
 | mk (ds:_) (h1:d= .tup ds) (h2:Q (.tup (cutD ds lo hi)) δ3)
def dSlT(ta:DTE)(tl th:DTP):DTE:=fun δ Q=>ta δ fun d δ1=>tl δ1 fun lo δ2=>th δ2 fun hi δ3=>dSlT_i Q d lo hi δ3
inductive dSlL_i(Q:Dt->List Sl->Prop)(d:Dt)(lo:Option Int)(hi:Option Int)(δ3:List Sl):Prop
 | mk (ds:_) (h1:d= .lst ds) (h2:Q (.lst (cutD ds lo hi)) δ3)
def dSlL(ta:DTE)(tl th:DTP):DTE:=fun δ Q=>ta δ fun d δ1=>tl δ1 fun lo δ2=>th δ2 fun hi δ3=>dSlL_i Q d lo hi δ3
theorem d_slT{lo hi:Option Expr}{tl th:DTP}{p2:Pos}(ha:Ev X a ta)(hl:Pv X lo tl)(hh:Pv X hi th):Ev X (.Subscript a (.Slice lo hi none p2) pos) (dSlT ta tl th):=PE.imp (pe_slice sl_tupA ha hl hh) fun σ H Q zz1=>(by obtain⟨W,M,α,δ,Qd,E,q,k⟩:=zz1;exact(
 ⟨W,M,α,δ,_,E,q,fun d δ1 H1 x q1 E1 c1 r1=>⟨W,M,α,δ1,_,E1,q1,fun o2 δ2 H2 q2 E2 c2=>⟨W,M,α,δ2,_,E2,q2,fun o3 δ3 H3 zz2 E3 c3=>(by obtain⟨ds,e,q3⟩:=zz2;exact(by
  subst e;obtain⟨a,xs,rfl,ha,n,rr⟩:=((r1.chg E1 c2).chg E2 c3).ofTup;refine⟨a,xs,rfl,ha,fun p H' nt=>?_⟩;have s:Same H3 H':=nt.keep;exact k _ _ _ _ q3 (E3.same s) (((c1.tr c2).tr c3).tr (Chg.of s)) (Rep.toTup nt.at (E3.al.newT nt) ((rr.cut _ _).same s))))⟩⟩⟩))
theorem d_slL{lo hi:Option Expr}{tl th:DTP}{p2:Pos}(ha:Ev X a ta)(hl:Pv X lo tl)(hh:Pv X hi th):Ev X (.Subscript a (.Slice lo hi none p2) pos) (dSlL ta tl th):=PE.imp (pe_slice sl_list ha hl hh) fun σ H Q zz3=>(by obtain⟨W,M,α,δ,Qd,E,q,k⟩:=zz3;exact(
 ⟨W,M,α,δ,_,E,q,fun d δ1 H1 x q1 E1 c1 r1=>⟨W,M,α,δ1,_,E1,q1,fun o2 δ2 H2 q2 E2 c2=>⟨W,M,α,δ2,_,E2,q2,fun o3 δ3 H3 zz4 E3 c3=>(by obtain⟨ds,e,q3⟩:=zz4;exact(by
  subst e;obtain⟨a,xs,rfl,ha,n,rr⟩:=((r1.chg E1 c2).chg E2 c3).ofLst;refine⟨a,xs,rfl,SqL.of ha,fun p hp=>?_⟩;have s:Same H3 (upd H3 p (.lst (cutV xs o2 o3))):=Same.new hp;exact k _ _ _ _ q3 (E3.same s) (((c1.tr c2).tr c3).tr (Chg.of s)) (Rep.toLst upd_same (E3.fresh hp) ((rr.cut _ _).same s))))⟩⟩⟩))
inductive D_catT(d1:Dt)(d2:Dt)(Q:Dt->Prop):Prop
 | mk (ds es:_) (h1:d1= .tup ds) (h2:d2= .tup es) (h3:ds.length+es.length<=sizeLine) (h4:Q (.tup (ds++es)))
inductive D_catL(d1:Dt)(d2:Dt)(Q:Dt->Prop):Prop
 | mk (ds es:_) (h1:d1= .lst ds) (h2:d2= .lst es) (h3:ds.length+es.length<=sizeLine) (h4:Q (.lst (ds++es)))
theorem do_catT:DOp rCatA D_catT:=fun M H x y d1 d2 Qd Q al r1 r2 zz15 k=>(by obtain⟨ds,es,e1,e2,l,q⟩:=zz15;exact(by
 subst e1;subst e2;obtain⟨a,xs,rfl,ha,n,rr⟩:=r1.ofTup;obtain⟨b,ys,rfl,hb,n2,rr2⟩:=r2.ofTup;exact⟨a,b,xs,ys,rfl,rfl,ha,hb,by rw[rr.1,rr2.1];exact l,fun p H' nt=>k H' _ _ q nt.keep (Rep.toTup nt.at (al.newT nt) ((rr.append rr2).same nt.keep))⟩))
theorem do_catL:DOp rCat D_catL:=fun M H x y d1 d2 Qd Q al r1 r2 zz5 k=>(by obtain⟨ds,es,e1,e2,l,q⟩:=zz5;exact(by
 subst e1;subst e2;obtain⟨a,xs,rfl,ha,n,rr⟩:=r1.ofLst;obtain⟨b,ys,rfl,hb,n2,rr2⟩:=r2.ofLst;refine⟨a,b,xs,ys,rfl,rfl,ha,hb,by rw[rr.1,rr2.1];exact l,fun p hp=>?_⟩;have s:Same H (upd H p (.lst (xs++ys))):=Same.new hp;exact k _ _ _ q s (Rep.toLst upd_same (al.fresh hp) ((rr.append rr2).same s))))
theorem d_catT(ha:Ev X a ta)(hb:Ev X b tb):Ev X (.BinOp a .Add b pos) (dOp D_catT ta tb):=d_op op_catA do_catT ha hb
theorem d_catL(ha:Ev X a ta)(hb:Ev X b tb):Ev X (.BinOp a .Add b pos) (dOp D_catL ta tb):=d_op op_cat do_catL ha hb
inductive D_repL(d1:Dt)(d2:Dt)(Q:Dt->Prop):Prop
 | mk (ds k:_) (h1:d1= .lst ds) (h2:d2= .int k) (h3: -(2^63)<=k) (h4:k < 2^63) (h5:ds.length*k.toNat<=sizeLine) (h6:Q (.lst (List.replicate k.toNat ds).flatten))
theorem Reps.rep{M:Addr->Prop}{H:Hp}{xs:List V}{ds:List Dt}(r:Reps M H xs ds): ∀n:Nat,Reps M H (List.replicate n xs).flatten (List.replicate n ds).flatten
 | 0=> .nil
 | n+1=>by
  rw[List.replicate_succ,List.replicate_succ,List.flatten_cons,List.flatten_cons];exact r.append (r.rep n)
theorem do_repL:DOp rRep D_repL:=fun M H x y d1 d2 Qd Q al r1 r2 zz6 k=>(by obtain⟨ds,n,e1,e2,h1,h2,l,q⟩:=zz6;exact(by
 subst e1;subst e2;obtain⟨a,xs,rfl,ha,nn,rr⟩:=r1.ofLst;refine⟨a,n,xs,rfl,r2.ofInt,ha,h1,h2,by rw[rr.1];exact l,fun p hp=>?_⟩;have s:Same H (upd H p (.lst (List.replicate n.toNat xs).flatten)):=Same.new hp;exact k _ _ _ q s (Rep.toLst upd_same (al.fresh hp) ((rr.rep _).same s))))
theorem d_repL(ha:Ev X a ta)(hb:Ev X b tb):Ev X (.BinOp a .Mult b pos) (dOp D_repL ta tb):=d_op op_rep do_repL ha hb
noncomputable def flatD:Dt->Bool
 | .lst _=>false
 | .tup _=>false
 | .dic _ _=>false
 | .dit _ _=>false
 | _=>true
noncomputable def eqD:Dt->Dt->Bool
 | .non, .non=>true
 | .bl a, .bl b=>a==b
 | .bl a, .int b=>(if a then 1 else 0)==b
 | .int a, .bl b=>a==(if b then 1 else 0)
 | .int a, .int b=>a==b
 | .str a, .str b=>a==b
 | _,_=>false
noncomputable def inD(d:Dt)(ds:List Dt):Bool:=ds.any fun e=>eqD e d
theorem flat_rep{M:Addr->Prop}{H:Hp}{v:V}{d:Dt}(r:Rep M H v d)(h:flatD d=true):flatV v=true:=by cases r <;> first | rfl | cases h
def EVo(d e:Dt):Option V->Option V->Prop
 | some u,some v=>eqV u v=eqD d e
 | _,_=>False
theorem eqV_fl{d e:Dt}(h:flatD d=true)(h2:flatD e=true):EVo d e (flV d) (flV e):=by
 cases d with
 | lst _=>cases h
 | tup _=>cases h
 | dic _ _=>cases h
 | dit _ _=>cases h
 | _=>cases e with
  | lst _=>cases h2
  | tup _=>cases h2
  | dic _ _=>cases h2
  | dit _ _=>cases h2
  | _=>exact(rfl:_=_)
theorem eqV_rep{M:Addr->Prop}{H:Hp}{v w:V}{d e:Dt}(r:Rep M H v d)(r2:Rep M H w e)(h:flatD d=true)(h2:flatD e=true):eqV v w=eqD d e:=by
 have z:=eqV_fl h h2;cases e1:flV d with
 | none=>rw[e1] at z;exact z.elim
 | some u=>
  cases e2:flV e with
  | none=>rw[e1,e2] at z;exact z.elim
  | some u2=>
   rw[e1,e2] at z;rw[r.fl e1,r2.fl e2];exact z
theorem flats_rep{M:Addr->Prop}{H:Hp}{xs:List V}{ds:List Dt}(r:Reps M H xs ds)(h:ds.all flatD=true):xs.all flatV=true:=List.all_eq_true.mpr fun x hx=>by
 obtain⟨i,hi,e⟩:=List.getElem_of_mem hx;have h1:xs[i]?=some x:=by rw[List.getElem?_eq_getElem hi,e]
 have h2:ds[i]?=some (ds[i]'(by rw[<-r.1];exact hi)):=List.getElem?_eq_getElem _;exact flat_rep (r.2 i _ _ h1 h2) (List.all_eq_true.mp h _ (List.mem_of_getElem? h2))
theorem inV_rep{M:Addr->Prop}{H:Hp}{v:V}{d:Dt}(r:Rep M H v d)(hd:flatD d=true): ∀{xs:List V} {ds:List Dt},Reps M H xs ds->ds.all flatD=true->inV v xs=inD d ds
 | [],[],_,_=>rfl
 | [],_::_,h,_=>by have:=h.1;simp at this
 | _::_,[],h,_=>by have:=h.1;simp at this
 | x::xs,e::ds,h,hf=>by
  obtain⟨y,ys,e1,e2,e3⟩:=h.uncons;cases e1;rw[List.all_cons,Bool.and_eq_true] at hf;have ih:=inV_rep r hd e3 hf.2;unfold inV inD at ih ⊢;rw[List.any_cons,List.any_cons,ih,eqV_rep e2 r hf.1 hd]
inductive D_in(neg:Bool)(d1:Dt)(d2:Dt)(Q:Dt->Prop):Prop
 | mk (ds:_) (h1:(d2= .lst ds\/d2= .tup ds)) (h2:flatD d1=true) (h3:ds.all flatD=true) (h4:Q (.bl (if neg then !inD d1 ds else inD d1 ds)))
theorem do_in{K:PySem.W.Frag}{neg:Bool}:DOp (rIn K neg) (D_in neg):=fun M H x y d1 d2 Qd Q al r1 r2 zz19 k=>(by obtain⟨ds,e2,f1,f2,q⟩:=zz19;exact(by
 have fin: ∀xs,Reps M H xs ds->flatV x=true/\xs.all flatV=true/\Q (.bl (if neg then !inV x xs else inV x xs)) H:=fun xs rr=>⟨flat_rep r1 f1,flats_rep rr f2,by rw[inV_rep r1 f1 rr f2];exact k H _ _ q (fun _ _ z=>z) (.bl _)⟩
 rcases e2 with e2 | e2
 . subst e2;obtain⟨a,xs,rfl,ha,n,rr⟩:=r2.ofLst;exact⟨a,xs,rfl, .inl (SqL.of ha),fin xs rr⟩
 . subst e2;obtain⟨a,xs,rfl,ha,n,rr⟩:=r2.ofTup;exact⟨a,xs,rfl, .inr (SqT.of ha),fin xs rr⟩))
theorem d_in(ha:Ev X a ta)(hb:Ev X b tb)(hm:autoParam (behindInMarks .In b=false) au5._auto_1):Ev X (.Compare a [.In] [b] pos) (dOp (D_in false) ta tb):=d_cmp op_in_seq do_in ha hb hm
theorem t_in(ha:Ev X a ta)(hb:Ev X b tb)(hm:autoParam (behindInMarks .In b=false) au5._auto_1):Tv X (.Compare a [.In] [b] pos) (dT (dOp (D_in false) ta tb)):=d_test op_in_seq do_in ha hb hm
inductive D_len(ds:List Dt)(Q:Dt->Prop):Prop
 | mk (es:_) (h1:(ds= [.lst es]\/ds= [.tup es])) (h2:Q (.int es.length))
theorem dc_len{K:PySem.W.Frag}:DCa (fun xs H Q=> ∃p ys,xs= [.ref p]/\(SqL K H p ys\/SqT K H p ys)/\Q (.int ys.length) H) D_len:=fun M H xs ds Qd Q al r zz20 k=>(by obtain⟨es,e,q⟩:=zz20;exact(by
 rcases e with e | e <;> subst e <;> obtain⟨x,ys,rfl,r1,r2⟩:=r.uncons <;> cases r2.unnil
 . obtain⟨a,zs,rfl,ha,n,rr⟩:=r1.ofLst;exact⟨a,zs,rfl, .inl (SqL.of ha),by rw[rr.1];exact k H _ _ q (fun _ _ z=>z) (.int _)⟩
 . obtain⟨a,zs,rfl,ha,n,rr⟩:=r1.ofTup;exact⟨a,zs,rfl, .inr (SqT.of ha),by rw[rr.1];exact k H _ _ q (fun _ _ z=>z) (.int _)⟩))
theorem d_len{p:Pos}{tA:DTA}(hm:X.mg "len"=none)(ha:Av X [e] tA)(hg:autoParam (Gl X "len") au5._auto_1)(he:autoParam (starEach [e] X.env=(false,eval e X.env)::starEach [] X.env) au5._auto_1)(hpl:autoParam ((backTo pos (starEach [] X.env)).any (·.1)=false) au5._auto_1):
  Ev X (.Call (.Name "len" p) [e] [] pos) (dCa D_len tA):=d_callB call_len_seq dc_len hg hm PySem.boot_len ha (by decide) (by decide) he hpl
end
end LD
end
section
namespace LD
open PySem PySem.Spec L2 LB PyProof.Rows
theorem flat_set{α:List (List Addr)}{i:Nat}{as:List Addr}{x:Addr}(h:x∈(α.set i as).flatten):x∈α.flatten\/x∈as:=by
 obtain⟨l,hl,hx⟩:=List.mem_flatten.mp h;rcases List.mem_or_eq_of_mem_set hl with y | y
 . exact .inl (List.mem_flatten.mpr ⟨l,y,hx⟩)
 . exact .inr (y▸hx)
theorem flat_get{α:List (List Addr)}{i:Nat}{as:List Addr}{x:Addr}(h:α[i]?=some as)(hx:x∈as):x∈α.flatten:=List.mem_flatten.mpr ⟨as,List.mem_of_getElem? h,hx⟩
theorem flat_nd_set: ∀{α:List (List Addr)} {i:Nat} {as:List Addr},α.flatten.Nodup->as.Nodup->(∀x∈as,x∉α.flatten)->(α.set i as).flatten.Nodup
 | [],_,_,_,_,_=>by simp
 | l::r,0,as,h,ha,hx=>by
  rw[List.set_cons_zero,List.flatten_cons];rw[List.flatten_cons] at h;refine List.nodup_append.mpr ⟨ha,(List.nodup_append.mp h).2.1,fun x h1 y h2 e=>?_⟩;subst e;exact hx x h1 (by rw[List.flatten_cons];exact List.mem_append_right _ h2)
 | l::r,i+1,as,h,ha,hx=>by
  rw[List.set_cons_succ,List.flatten_cons];rw[List.flatten_cons] at h;obtain⟨h1,h2,h3⟩:=List.nodup_append.mp h;refine List.nodup_append.mpr ⟨h1,flat_nd_set h2 ha fun x z y=>hx x z (by rw[List.flatten_cons];exact List.mem_append_right _ y),fun x z y w e=>?_⟩;subst e;rcases flat_set w with q | q
  . exact h3 x z x q rfl
  . exact hx x q (by rw[List.flatten_cons];exact List.mem_append_left _ z)
theorem flat_apart: ∀{α:List (List Addr)} {i j:Nat} {as bs:List Addr} {x:Addr},α.flatten.Nodup->α[i]?=some as->α[j]?=some bs->i≠j->x∈as->x∉bs
 | [],i,j,as,bs,x,_,h1,_,_,_=>by simp at h1
 | l::r,i,j,as,bs,x,h,h1,h2,hij,hx=>by
  rw[List.flatten_cons] at h;obtain⟨n1,n2,n3⟩:=List.nodup_append.mp h;cases i with
  | zero=>
   cases j with
   | zero=>exact absurd rfl hij
   | succ j=>
    simp at h1 h2;subst h1;exact fun y=>n3 x hx x (flat_get h2 y) rfl
  | succ i=>
   cases j with
   | zero=>
    simp at h1 h2;subst h2;exact fun y=>n3 x y x (flat_get h1 hx) rfl
   | succ j=>exact flat_apart n2 (by simpa using h1) (by simpa using h2) (by lia) hx
section
variable {Ws : List Wd} {M : Addr -> Prop} {α : List (List Addr)} {H H' : Hp} {σ : L2.St} {δ : List Sl} {i : Nat} {v : V} {d : Dt} {s : Sl}
def okSet(δ:List Sl)(i:Nat):Prop:= ∃s,δ[i]?=some s/\s.isBx=false
theorem okSet.lt(h:okSet δ i):i < δ.length:=let ⟨s,e,_⟩:=h;(List.getElem?_eq_some_iff.mp e).1
theorem EnvR.setIm(E:EnvR Ws M α H σ δ)(r:Rep M H v d)(ok:okSet δ i):EnvR Ws M (α.set i []) H (σ.set i (some v)) (δ.set i (.im d)):=by
 have hi:=ok.lt;obtain⟨s0,hs0,nb⟩:=ok;refine⟨by rw[List.length_set,List.length_set,E.ls],by rw[List.length_set,List.length_set,E.la],fun j s hj=>?_,flat_nd_set E.nd List.nodup_nil (fun x hx=>absurd hx List.not_mem_nil),fun a ha=>(flat_set ha).elim (E.mu a) fun z=>absurd z List.not_mem_nil,E.al,fun W hW=>?_⟩
 . by_cases hij:i=j
   . subst hij;rw[List.getElem?_set_self hi] at hj;cases hj;exact⟨some v,[],by rw[List.getElem?_set_self (by rw[E.ls];exact hi)],by rw[List.getElem?_set_self (by rw[E.la];exact hi)],rfl,v,rfl,r⟩
   . rw[List.getElem?_set_ne hij] at hj;obtain⟨o,as,h1,h2,h3⟩:=E.sl j s hj;exact⟨o,as,by rw[List.getElem?_set_ne hij];exact h1,by rw[List.getElem?_set_ne hij];exact h2,h3⟩
 . have k:=E.w W hW;refine⟨k.bs,k.ex,fun a ha=>(flat_set ha).elim (k.fr a) fun z=>absurd z List.not_mem_nil,k.m0,k.m1,fun d c e=>?_,fun j s as h1 h2 nb'=>?_⟩
   . obtain⟨t,e1,e2⟩:=k.bx d c e;have:i≠0:=fun z=>by subst z;rw[hs0] at e1;cases e1;cases nb
     exact⟨t,by rw[List.getElem?_set_ne this];exact e1,by rw[List.getElem?_set_ne this];exact e2⟩
   . by_cases hij:i=j
     . subst hij;rw[List.getElem?_set_self (by rw[E.la];exact hi)] at h2;cases h2;exact fun a ha=>absurd ha List.not_mem_nil
     . rw[List.getElem?_set_ne hij] at h1 h2;exact k.fz j s as h1 h2 nb'
theorem Reps.grow{p:Addr}{xs:List V}{ds:List Dt}{o:HO}(r:Reps M H xs ds)(hp:H p=none):Reps (fun b=>M b\/b=p) (upd H p o) xs ds:=r.mono fun a u e n=>⟨by rw[upd_ne (ne_of_none e hp)];exact e,fun z=>z.elim n (ne_of_none e hp)⟩
theorem Rep.grow{p:Addr}{x:V}{d:Dt}{o:HO}(r:Rep M H x d)(hp:H p=none):Rep (fun b=>M b\/b=p) (upd H p o) x d:=r.mono fun a u e n=>⟨by rw[upd_ne (ne_of_none e hp)];exact e,fun z=>z.elim n (ne_of_none e hp)⟩
theorem SlR.grow{p:Addr}{u:HO}{o:Option V}{as:List Addr}(h:SlR M H o s as)(hp:H p=none):SlR (fun b=>M b\/b=p) (upd H p u) o s as:=by
 have sm:Same H (upd H p u):=Same.new hp;cases s with
 | no=>exact h
 | im d=>exact⟨h.1,let ⟨v,e,r⟩:=h.2;⟨v,e,r.grow hp⟩⟩
 | ow ds=>obtain⟨a,xs,e1,e2,e3,r⟩:=h;exact⟨a,xs,e1,e2,sm _ _ e3,r.grow hp⟩
 | bx t=>obtain⟨d,c,e1,e2,r⟩:=h;exact⟨d,c,e1,e2,r.same sm⟩
 | dk ks ds=>obtain⟨a,vs,e1,e2,e3,e4,r⟩:=h;exact⟨a,vs,e1,e2,sm _ _ e3,e4,r.grow hp⟩
 | ob R=>obtain⟨v,e,r⟩:=h;exact⟨v,e,R.st r (fun a _ o q=>sm _ _ q) fun a u q n=>⟨sm _ _ q,fun z=>z.elim n (ne_of_none q hp)⟩⟩
 | fn f=>exact h
theorem EnvR.setNew(E:EnvR Ws M α H σ δ){p:Addr}{u:HO}(hp:H p=none)(hu: ∀xs,u≠ .tup xs)(ok:okSet δ i)(nb:s.isBx=false)(hs:SlR (fun b=>M b\/b=p) (upd H p u) (some (.ref p)) s [p]):
  EnvR Ws (fun b=>M b\/b=p) (α.set i [p]) (upd H p u) (σ.set i (some (.ref p))) (δ.set i s):=by
 have hi:=ok.lt;have sm:Same H (upd H p u):=Same.new hp;have np:p∉α.flatten:=fun z=>E.fresh hp (E.mu p z);obtain⟨s0,hs0,nb0⟩:=ok;refine⟨by rw[List.length_set,List.length_set,E.ls],by rw[List.length_set,List.length_set,E.la],fun j s' hj=>?_,flat_nd_set E.nd (by simp) (fun x hx=>by rw[List.mem_singleton.mp hx];exact np),fun a ha=>(flat_set ha).elim (fun z=> .inl (E.mu a z)) fun z=> .inr (List.mem_singleton.mp z),fun a ha=>?_,fun W hW=>?_⟩
 . by_cases hij:i=j
   . subst hij;rw[List.getElem?_set_self hi] at hj;cases hj;exact⟨_,_,by rw[List.getElem?_set_self (by rw[E.ls];exact hi)],by rw[List.getElem?_set_self (by rw[E.la];exact hi)],hs⟩
   . rw[List.getElem?_set_ne hij] at hj;obtain⟨o,as,h1,h2,h3⟩:=E.sl j s' hj;exact⟨o,as,by rw[List.getElem?_set_ne hij];exact h1,by rw[List.getElem?_set_ne hij];exact h2,h3.grow hp⟩
 . rcases ha with ha | ha
   . obtain⟨o,e,n⟩:=E.al a ha;exact⟨o,sm _ _ e,n⟩
   . subst ha;exact⟨u,upd_same,hu⟩
 . have k:=E.w W hW;have hW0:W.A0 p\/W.H0 p=none:=by
    by_cases z:W.A0 p
    . exact .inl z
    . right;cases e:W.H0 p with
      | none=>rfl
      | some o=>have:=k.bs p o e z;rw[hp] at this;cases this
   refine⟨fun b o e n=>sm _ _ (k.bs b o e n),fun b n y=>k.ex b n (LW.Same.none sm y),fun a ha=>(flat_set ha).elim (k.fr a) fun z=>by rw[List.mem_singleton.mp z];exact hW0,fun a h=> .inl (k.m0 a h),fun a h=>?_,fun d c e=>?_,fun j s' as h1 h2 nb'=>?_⟩
   . rcases h with h | h
     . exact k.m1 a h
     . subst h;by_cases z:W.H0 a=none
       . exact .inr z
       . exact absurd hp (k.ex a z)
   . obtain⟨t,e1,e2⟩:=k.bx d c e;have:i≠0:=fun z=>by subst z;rw[hs0] at e1;cases e1;cases nb0
     exact⟨t,by rw[List.getElem?_set_ne this];exact e1,by rw[List.getElem?_set_ne this];exact e2⟩
   . by_cases hij:i=j
     . subst hij;rw[List.getElem?_set_self (by rw[E.la];exact hi)] at h2;cases h2;exact fun a ha z=>by rw[List.mem_singleton.mp ha] at z;exact E.fresh hp (k.m0 _ z)
     . rw[List.getElem?_set_ne hij] at h1 h2;exact k.fz j s' as h1 h2 nb'
theorem EnvR.mod(E:EnvR Ws M α H σ δ){o:Option V}{as:List Addr}{s s':Sl}(hi:δ[i]?=some s)(ho:σ[i]?=some o)(ha:α[i]?=some as)(hb:s'.isBx=s.isBx)(hs:SlR M H' o s' as)
  (keep: ∀b u,H b=some u->b∉as->H' b=some u) (ex: ∀a∈as,∃u,H' a=some u/\ ∀xs,u≠ .tup xs):EnvR Ws M α H' σ (δ.set i s')/\Chg α H H':=by
 have hlt:=(List.getElem?_eq_some_iff.mp hi).1;have asM: ∀a∈as,M a:=fun a h=>E.mu a (flat_get ha h);have rep: ∀{v:V} {d:Dt},Rep M H v d->Rep M H' v d:=fun r=>r.mono fun a u e n=>⟨keep a u e fun z=>n (asM a z),n⟩
 have reps: ∀{v:List V} {d:List Dt},Reps M H v d->Reps M H' v d:=fun r=>r.mono fun a u e n=>⟨keep a u e fun z=>n (asM a z),n⟩
 refine⟨⟨by rw[List.length_set,E.ls],by rw[List.length_set,E.la],fun j s2 hj=>?_,E.nd,E.mu,fun a h=>?_,fun W hW=>?_⟩,fun b u e n=>keep b u e fun z=>n (flat_get ha z)⟩
 . by_cases hij:i=j
   . subst hij;rw[List.getElem?_set_self hlt] at hj;cases hj;exact⟨o,as,ho,ha,hs⟩
   . rw[List.getElem?_set_ne hij] at hj;obtain⟨o2,as2,h1,h2,h3⟩:=E.sl j s2 hj;have ap: ∀x∈as2,x∉as:=fun x hx=>flat_apart E.nd h2 ha (Ne.symm hij) hx;refine⟨o2,as2,h1,h2,?_⟩;cases s2 with
     | no=>exact h3
     | im d=>exact⟨h3.1,let ⟨v,e,r⟩:=h3.2;⟨v,e,rep r⟩⟩
     | ow ds=>obtain⟨a,xs,e1,e2,e3,r⟩:=h3;subst e1;exact⟨a,xs,rfl,e2,keep _ _ e3 (ap a (by simp)),reps r⟩
     | bx t=>
      obtain⟨d,c,e1,e2,r⟩:=h3;subst e1;refine⟨d,c,rfl,e2,keep _ _ r.dc (ap d (by simp)),?_,r.t0,r.t1⟩;obtain⟨ns,h,q⟩:=r.cs;exact⟨ns,keep _ _ h (ap c (by simp)),q⟩
     | dk ks ds=>obtain⟨a,vs,e1,e2,e3,e4,r⟩:=h3;subst e1;exact⟨a,vs,rfl,e2,keep _ _ e3 (ap a (by simp)),e4,reps r⟩
     | ob R=>obtain⟨v,e,r⟩:=h3;exact⟨v,e,R.st r (fun a ha u q=>keep _ _ q (ap a ha)) fun a u q n=>⟨keep a u q fun z=>n (asM a z),n⟩⟩
     | fn f=>exact h3
 . by_cases z:a∈as
   . exact ex a z
   . obtain⟨u,e,n⟩:=E.al a h;exact⟨u,keep _ _ e z,n⟩
 . have k:=E.w W hW;have inA: ∀a∈as,W.A0 a\/W.H0 a=none:=fun a z=>k.fr a (flat_get ha z);refine⟨fun b u e n=>keep _ _ (k.bs b u e n) fun z=>?_,fun b n y=>?_,k.fr,k.m0,k.m1,fun d c e=>?_,fun j s2 as2 h1 h2 nb=>?_⟩
   . rcases inA b z with q | q
     . exact n q
     . rw[q] at e;cases e
   . by_cases z:b∈as
     . obtain⟨u,e,_⟩:=ex b z;rw[e] at y;cases y
     . cases e:H b with
       | none=>exact k.ex b n e
       | some u=>rw[keep _ _ e z] at y;cases y
   . obtain⟨t,e1,e2⟩:=k.bx d c e;by_cases hij:i=0
     . subst hij;rw[hi] at e1;cases e1;cases s' with
       | bx t'=>exact⟨t',by rw[List.getElem?_set_self hlt],e2⟩
       | _=>cases hb
     . exact⟨t,by rw[List.getElem?_set_ne hij];exact e1,e2⟩
   . by_cases hij:i=j
     . subst hij;rw[List.getElem?_set_self hlt] at h1;cases h1;exact k.fz i s as2 hi h2 (by rw[<-hb];exact nb)
     . rw[List.getElem?_set_ne hij] at h1;exact k.fz j s2 as2 h1 h2 nb
theorem EnvR.frzOa{Ws:List Wd}{M:Addr->Prop}{α:List (List Addr)}{H:Hp}{σ:L2.St}{δ:List Sl}{i:Nat}(E:EnvR Ws M α H σ δ){ds:List Dt}(hi:δ[i]?=some (.ow ds)){a:Addr}(ha:α[i]?=some [a]):EnvR Ws (fun b=>M b/\b≠a) (α.set i []) H σ (δ.set i (.im (.lst ds))):=by
 have hlt:=(List.getElem?_eq_some_iff.mp hi).1;obtain⟨a',xs,h1,h2,h3,r⟩:=E.ow hi;rw[ha] at h2;cases h2;have mono: ∀{v:V} {d:Dt},Rep M H v d->Rep (fun b=>M b/\b≠a) H v d:=fun r=>r.mono fun b u e n=>⟨e,fun z=>n z.1⟩
 have monos: ∀{v:List V} {d:List Dt},Reps M H v d->Reps (fun b=>M b/\b≠a) H v d:=fun r=>r.mono fun b u e n=>⟨e,fun z=>n z.1⟩
 refine⟨by rw[List.length_set,E.ls],by rw[List.length_set,List.length_set,E.la],fun j s hj=>?_,flat_nd_set E.nd List.nodup_nil (fun x hx=>absurd hx List.not_mem_nil),fun b hb=>?_,fun b hb=>E.al b hb.1,fun W hW=>?_⟩
 . by_cases hij:i=j
   . subst hij;rw[List.getElem?_set_self hlt] at hj;cases hj;exact⟨some (.ref a),[],h1,by rw[List.getElem?_set_self (by rw[E.la];exact hlt)],rfl,_,rfl,Rep.toLst h3 (fun z=>z.2 rfl) (monos r)⟩
   . rw[List.getElem?_set_ne hij] at hj;obtain⟨o2,as2,g1,g2,g3⟩:=E.sl j s hj;refine⟨o2,as2,g1,by rw[List.getElem?_set_ne hij];exact g2,?_⟩;cases s with
     | no=>exact g3
     | im d=>exact⟨g3.1,let ⟨v,e,r⟩:=g3.2;⟨v,e,mono r⟩⟩
     | ow ds=>obtain⟨b,xs,e1,e2,e3,r⟩:=g3;exact⟨b,xs,e1,e2,e3,monos r⟩
     | bx t=>exact g3
     | dk ks ds=>obtain⟨b,vs,e1,e2,e3,e4,r⟩:=g3;exact⟨b,vs,e1,e2,e3,e4,monos r⟩
     | ob R=>obtain⟨v,e,r⟩:=g3;exact⟨v,e,R.st r (fun _ _ _ q=>q) fun b u q n=>⟨q,fun z=>n z.1⟩⟩
     | fn f=>exact g3
 . obtain⟨l,hl,hx⟩:=List.mem_flatten.mp hb;obtain⟨j,hj,e⟩:=List.getElem_of_mem hl;have ej:(α.set i [])[j]?=some l:=by rw[List.getElem?_eq_getElem hj,e]
   by_cases hij:i=j
   . subst hij;rw[List.getElem?_set_self (by rw[E.la];exact hlt)] at ej;cases ej;exact absurd hx List.not_mem_nil
   . rw[List.getElem?_set_ne hij] at ej;refine⟨E.mu b (flat_get ej hx),fun z=>?_⟩;subst z;exact flat_apart E.nd ej ha (Ne.symm hij) hx (by simp)
 . have k:=E.w W hW;refine⟨k.bs,k.ex,fun b hb=>(flat_set hb).elim (k.fr b) fun z=>absurd z List.not_mem_nil,fun b z=>⟨k.m0 b z,fun y=>?_⟩,fun b z=>k.m1 b z.1,fun d c e=>?_,fun j s as g1 g2 nb=>?_⟩
   . subst y;exact k.fz i _ _ hi ha rfl b (by simp) z
   . obtain⟨t,e1,e2⟩:=k.bx d c e;have:i≠0:=fun z=>by subst z;rw[hi] at e1;cases e1
     exact⟨t,by rw[List.getElem?_set_ne this];exact e1,by rw[List.getElem?_set_ne this];exact e2⟩
   . by_cases hij:i=j
     . subst hij;rw[List.getElem?_set_self (by rw[E.la];exact hlt)] at g2;cases g2;exact fun b hb=>absurd hb List.not_mem_nil
     . rw[List.getElem?_set_ne hij] at g1 g2;exact k.fz j s as g1 g2 nb
theorem EnvR.frz(E:EnvR Ws M α H σ δ){ds:List Dt}(hi:δ[i]?=some (.ow ds)): ∃M' α',EnvR Ws M' α' H σ (δ.set i (.im (.lst ds)))/\ ∀a,M' a->M a:=by
 obtain⟨a,xs,h1,h2,h3,r⟩:=E.ow hi;exact⟨_,_,E.frzOa hi h2,fun b z=>z.1⟩
theorem EnvR.drop{W:Wd}(E:EnvR (W::Ws) M α H σ δ):EnvR Ws M α H σ δ:=⟨E.ls,E.la,E.sl,E.nd,E.mu,E.al,fun W' h=>E.w W' (List.mem_cons_of_mem _ h)⟩
theorem EnvR.loop(E:EnvR Ws M α H σ δ):EnvR (⟨H,M,fun _=>False,M,none⟩::Ws) M α H σ δ:=⟨E.ls,E.la,E.sl,E.nd,E.mu,E.al,fun W h=>by
 rcases List.mem_cons.mp h with e | e
 . subst e;exact⟨fun b o e _=>e,fun b n=>n,fun a h=> .inl (E.mu a h),fun a h=>h.elim,fun a h=> .inl h,fun d c e=>(by cases e),fun j s as _ _ _ a _ z=>z⟩
 . exact E.w W e⟩
end
end LD
end
section
namespace LD
open PySem PySem.Spec L2 LB PyProof.Rows
structure DEnds where
 nx:List Sl->Prop
 rt:Dt->List Sl->Prop
 bk:List Sl->Prop:=fun _=>False
 ct:List Sl->Prop:=fun _=>False
abbrev DTS:=DEnds->List Sl->Prop
structure Lk(Ws:List Wd)(D:Ends)(Δ:DEnds):Prop where
 nx: ∀M α H σ δ,EnvR Ws M α H σ δ->Δ.nx δ->D.nx σ H
 rt: ∀M α H σ δ v d,EnvR Ws M α H σ δ->Rep M H v d->Δ.rt d δ->D.rt v H
 bk: ∀M α H σ δ,EnvR Ws M α H σ δ->Δ.bk δ->D.bk σ H
 ct: ∀M α H σ δ,EnvR Ws M α H σ δ->Δ.ct δ->D.ct σ H
inductive lS(T:DTS)(D:L2.Ends)(σ:L2.St)(H:Hp):Prop
 | mk (Ws:List Wd) (M:Addr->Prop) (α:List (List Addr)) (δ:List Sl) (Δ:DEnds) (h1:EnvR Ws M α H σ δ) (h2:Lk Ws D Δ) (h3:T Δ δ)
abbrev Ex(X:Cx)(s:Stmt)(T:DTS):Prop:=PS X s (lS T)
abbrev Exs(X:Cx)(s:List Stmt)(T:DTS):Prop:=PSs X s (lS T)
section
variable {X : Cx} {st : Stmt} {rest : List Stmt} {T U : DTS} {e a b c : Expr} {es : List Expr} {t ta tb : DTE} {u : DTT} {pos : Pos}
def dNext:DTS:=fun Δ δ=>Δ.nx δ
def dSeq(T U:DTS):DTS:=fun Δ δ=>T {Δ with nx:=U Δ} δ
theorem s_nil:Exs X [] dNext:=PSs.imp pss_nil fun D σ H zz1=>(by obtain⟨Ws,M,α,δ,Δ,E,L,q⟩:=zz1;exact(L.nx _ _ _ _ _ E q))
theorem s_cons(h1:Ex X st T)(h2:Exs X rest U):Exs X (st::rest) (dSeq T U):=PSs.imp (pss_cons h1 h2) fun D σ H zz2=>(by obtain⟨Ws,M,α,δ,Δ,E,L,q⟩:=zz2;exact(
 ⟨Ws,M,α,δ,{Δ with nx:=U Δ},E,⟨fun M α H σ δ E q=>⟨Ws,M,α,δ,Δ,E,L,q⟩,L.rt,L.bk,L.ct⟩,q⟩))
theorem s_one(h1:Ex X st T):Exs X [st] T:=pss_one h1
def dRet(t:DTE):DTS:=fun Δ δ=>t δ Δ.rt
theorem s_ret(h:Ev X e t):Ex X (.Return (some e) pos) (dRet t):=PS.imp (ps_ret h) fun D σ H zz4=>(by obtain⟨Ws,M,α,δ,Δ,E,L,q⟩:=zz4;exact(⟨Ws,M,α,δ,_,E,q,fun d δ' H' v q1 E1 c1 r1=>L.rt _ _ _ _ _ _ _ E1 r1 q1⟩))
def dIfS(u:DTT)(T U:DTS):DTS:=fun Δ δ=>u δ fun b δ'=>if b=true then T Δ δ' else U Δ δ'
theorem s_if{sa sb:List Stmt}(hc:Tv X c u)(ha:Exs X sa T)(hb:Exs X sb U):Ex X (.If c sa sb pos) (dIfS u T U):=PS.imp (ps_if hc ha hb) fun D σ H zz5=>(by obtain⟨Ws,M,α,δ,Δ,E,L,q⟩:=zz5;exact(
 ⟨Ws,M,α,δ,_,E,q,fun b δ' H' q1 E1 c1=>by
  cases b with
  | true=>rw[if_pos rfl] at q1 ⊢;exact⟨Ws,M,α,δ',Δ,E1,L,q1⟩
  | false=>rw[if_neg Bool.false_ne_true] at q1 ⊢;exact⟨Ws,M,α,δ',Δ,E1,L,q1⟩⟩))
def dDrop(t:DTE):DTS:=fun Δ δ=>t δ fun _ δ'=>Δ.nx δ'
theorem s_expr(h:Ev X e t)(hs:autoParam (swapsWith e none pos.line X.env=pure false) au5._auto_1):Ex X (.Expr e pos) (dDrop t):=PS.imp (ps_expr h hs) fun D σ H zz6=>(by obtain⟨Ws,M,α,δ,Δ,E,L,q⟩:=zz6;exact(⟨Ws,M,α,δ,_,E,q,fun d δ' H' v q1 E1 c1 r1=>L.nx _ _ _ _ _ E1 q1⟩))
def dSet(i:Nat)(t:DTE):DTS:=fun Δ δ=>t δ fun d δ'=>okSet δ' i/\Δ.nx (δ'.set i (.im d))
theorem s_set(i:Nat){x:Str}{pos':Pos}(hN:X.N.Nodup)(he:Ev X e t)(hi:autoParam (X.N[i]?=some x) au5._auto_1)(hx:autoParam (Loc X.env.scope x) au8._auto_1)(hs:autoParam (swapsWith e (some (.Name x pos')) pos.line X.env=pure false) au5._auto_1)(hf:autoParam (X.fn x=true\/X.env.scope.names.lookup x=some .local) au1._auto_1):
  Ex X (.Assign [.Name x pos'] e pos) (dSet i t):=PS.imp (ps_set hN hi hx he hs hf) fun D σ H zz7=>(by obtain⟨Ws,M,α,δ,Δ,E,L,q⟩:=zz7;exact(⟨Ws,M,α,δ,_,E,q,fun d δ' H' v zz8 E1 c1 r1=>(by obtain⟨ok,q1⟩:=zz8;exact(L.nx _ _ _ _ _ (E1.setIm r1 ok) q1))⟩))
def dSetO(i:Nat)(t:DTO):DTS:=fun Δ δ=>t δ fun ds δ'=>okSet δ' i/\Δ.nx (δ'.set i (.ow ds))
theorem seto_read{i:Nat}{t:DTO}: ∀D σ H,lS (dSetO i t) D σ H->tAsg (lO t) (gName i) D σ H:=fun D σ H zz9=>(by obtain⟨Ws,M,α,δ,Δ,E,L,q⟩:=zz9;exact(⟨Ws,M,α,δ,_,E,q,fun ds δ' H1 xs a zz10 E1 c1 r1 h1=>(by obtain⟨ok,q1⟩:=zz10;exact(
 L.nx _ _ _ _ _ (E1.setNew (s:= .ow ds) h1 (fun xs z=>by cases z) ok rfl ⟨a,xs,rfl,rfl,upd_same,r1.grow h1⟩) q1))⟩))
theorem s_setO(i:Nat){x:Str}{pos':Pos}{t:DTO}(hN:X.N.Nodup)(he:Ov X e t)(hi:autoParam (X.N[i]?=some x) au5._auto_1)(hx:autoParam (Loc X.env.scope x) au8._auto_1)(hs:autoParam (swapsWith e (some (.Name x pos')) pos.line X.env=pure false) au5._auto_1)(hf:autoParam (X.fn x=true\/X.env.scope.names.lookup x=some .local) au1._auto_1):
  Ex X (.Assign [.Name x pos'] e pos) (dSetO i t):=PS.imp (ps_set hN hi hx he hs hf) seto_read
inductive dFrz(i:Nat)(T:DTS)(Δ:DEnds)(δ:List Sl):Prop
 | mk (ds:_) (h1:δ[i]?=some (.ow ds)) (h2:T Δ (δ.set i (.im (.lst ds))))
theorem frz_read{i:Nat}: ∀D σ H,lS (dFrz i T) D σ H->lS T D σ H:=fun D σ H zz11=>(by obtain⟨Ws,M,α,δ,Δ,E,L,ds,h,q⟩:=zz11;exact(by
 obtain⟨M',α',E',_⟩:=E.frz h;exact⟨Ws,M',α',_,Δ,E',L,q⟩))
theorem s_frz(i:Nat)(h:Ex X st T):Ex X st (dFrz i T):=PS.imp h frz_read
theorem own_mod{Ws:List Wd}{M:Addr->Prop}{α:List (List Addr)}{H:Hp}{σ:L2.St}{δ:List Sl}{i:Nat}{ds ds':List Dt}{a:Addr}{xs':List V}(E:EnvR Ws M α H σ δ)(h:δ[i]?=some (.ow ds))(h1:σ[i]?=some (some (.ref a)))(h2:α[i]?=some [a])(r:Reps M H xs' ds'):
  EnvR Ws M α (upd H a (.lst xs')) σ (δ.set i (.ow ds'))/\Chg α H (upd H a (.lst xs')):=
 E.mod h h1 h2 rfl ⟨a,xs',rfl,rfl,upd_same,r.mono fun b u e n=>⟨by rw[upd_ne (fun z=>n (by rw[z];exact E.mu a (flat_get h2 (by simp))))];exact e,n⟩⟩ (fun b u e n=>by rw[upd_ne (fun z=>n (by rw[z];simp))];exact e) (fun b hb=>by rw[List.mem_singleton.mp hb];exact⟨_,upd_same,fun xs z=>by cases z⟩)
inductive dApp_i(i:Nat)(Q:Dt->List Sl->Prop)(es:List Dt)(δ':List Sl):Prop
 | mk (ds d:_) (h1:es= [d]) (h2:δ'[i]?=some (.ow ds)) (h3:ds.length < sizeLine) (h4:Q .non (δ'.set i (.ow (ds++ [d]))))
def dApp(i:Nat)(t:DTA):DTE:=fun δ Q=>(∃ds0,δ[i]?=some (.ow ds0))/\t δ fun es δ'=>dApp_i i Q es δ'
theorem d_append(i:Nat){x:Str}{xp apos cpos:Pos}{tA:DTA}(ho:PE X (.Name x xp) (tVar i))(ha:Av X [e] tA)
  (hbase:autoParam (attributeBase (.Name x xp) "append" X.env (eval (.Name x xp) X.env)=eval (.Name x xp) X.env) au5._auto_1)
  (hfew:autoParam (((backTo cpos (starEach [e] X.env)).all (fun x=>!x.1) && (backToKw cpos (keywordEach [] X.env)).all (fun x=>x.1.isSome) && decide ([e].length+([]:List Keyword).length+(if ([]:List Keyword).isEmpty then 0 else 1) < 30))=true) au5._auto_1)
  (hline:autoParam ((apos.endLine==cpos.line)=true) au5._auto_1) (hs:autoParam (starEach [e] X.env=(false,eval e X.env)::starEach [] X.env) au5._auto_1) (hplain:autoParam ((backTo cpos (starEach [] X.env)).any (·.1)=false) au5._auto_1):
  Ev X (.Call (.Attribute (.Name x xp) "append" apos) [e] [] cpos) (dApp i tA):=
 PE.imp (pe_bm PySem.F.plainAttrs_list PySem.F.slot_list_append PySem.F.type_list_append mt_append ho ha hbase hfew hline hs hplain) fun σ H Q zz1=>(by obtain⟨W,M,α,δ,Qd,E,⟨⟨ds0,h0⟩,q⟩,k⟩:=zz1;exact(by
  obtain⟨a,xs0,h1,h2,h3,r3⟩:=E.ow h0;refine⟨_,h1, .inl ⟨rfl,_,SqL.of h3⟩,W,M,α,δ,_,E,q,fun es δ' H' vs zz13 E1 c1 r1=>?_⟩;obtain⟨ds,d,e,hd,l,q1⟩:=zz13;subst e;obtain⟨y,ys,rfl,ry,rn⟩:=r1.uncons;cases rn.unnil;obtain⟨a',xs,h1',h2',h3',r3'⟩:=E1.ow hd;rw[h1] at h1';cases h1';refine⟨a,xs,y,rfl,rfl,h3',by rw[r3'.1];exact l,?_⟩;obtain⟨E2,c2⟩:=own_mod E1 hd h1 h2' (r3'.append (.one ry));exact k _ _ _ _ q1 E2 (c1.tr c2) .non))
inductive dPop(i:Nat)(δ:List Sl)(Q:Dt->List Sl->Prop):Prop
 | mk (ds d:_) (h1:δ[i]?=some (.ow ds)) (h2:ds[ds.length - 1]?=some d) (h3:Q d (δ.set i (.ow ds.dropLast)))
theorem d_pop(i:Nat){x:Str}{xp apos cpos:Pos}(ho:PE X (.Name x xp) (tVar i))
  (hbase:autoParam (attributeBase (.Name x xp) "pop" X.env (eval (.Name x xp) X.env)=eval (.Name x xp) X.env) au5._auto_1) (hline:autoParam ((apos.endLine==cpos.line)=true) au5._auto_1):
  Ev X (.Call (.Attribute (.Name x xp) "pop" apos) [] [] cpos) (dPop i):=
 PE.imp (pe_bm0 PySem.F.plainAttrs_list PySem.F.slot_list_pop PySem.F.type_list_pop mt_pop ho hbase hline) fun σ H Q zz2=>(by obtain⟨W,M,α,δ,Qd,E,⟨ds,d,hd,hl,q⟩,k⟩:=zz2;exact(by
  obtain⟨a,xs,h1,h2,h3,r3⟩:=E.ow hd;obtain⟨y,hy,ry⟩:=r3.get hl;refine⟨_,h1, .inl ⟨rfl,_,SqL.of h3⟩,a,xs,y,rfl,rfl,h3,by rw[r3.1];exact hy,?_⟩;have rd:Reps M H xs.dropLast ds.dropLast:=by rw[List.dropLast_eq_take,List.dropLast_eq_take,r3.1];exact r3.take _
  obtain⟨E2,c2⟩:=own_mod E hd h1 h2 rd;exact k _ _ _ _ q E2 c2 (ry.chg E c2)))
inductive dIxO_i(i:Nat)(Q:Dt->List Sl->Prop)(d2:Dt)(δ':List Sl):Prop
 | mk (ds k d:_) (h1:δ'[i]?=some (.ow ds)) (h2:d2= .int k) (h3:atI ds k=some d) (h4:Q d δ')
def dIxO(i:Nat)(tb:DTE):DTE:=fun δ Q=>(∃ds0,δ[i]?=some (.ow ds0))/\tb δ fun d2 δ'=>dIxO_i i Q d2 δ'
theorem d_ixO(i:Nat){x:Str}{xp:Pos}(ho:PE X (.Name x xp) (tVar i))(hb:Ev X b tb)(hs:autoParam (PlainIx b) au7._auto_1):Ev X (.Subscript (.Name x xp) b pos) (dIxO i tb):=
 PE.imp (pe_ix ix_list ho hb hs) fun σ H Q zz4=>(by obtain⟨W,M,α,δ,Qd,E,⟨⟨ds0,h0⟩,q⟩,k⟩:=zz4;exact(by
  obtain⟨a,xs0,h1,h2,h3,r3⟩:=E.ow h0;refine⟨_,h1,W,M,α,δ,_,E,q,fun d2 δ' H' v zz18 E1 c1 r1=>?_⟩;obtain⟨ds,n,d,hd,e,hg,q1⟩:=zz18;subst e;obtain⟨a',xs,h1',h2',h3',r3'⟩:=E1.ow hd;rw[h1] at h1';cases h1';obtain⟨y,hy,ry⟩:=atI_rep r3' hg;exact⟨a,xs,n,y,rfl,r1.ofInt,SqL.of h3',hy,k _ _ _ _ q1 E1 c1 ry⟩))
inductive dList_i(Q:List Dt->List Sl->Prop)(ds:List Dt)(δ':List Sl):Prop
 | mk (es:_) (h1:(ds= [.lst es]\/ds= [.tup es])) (h2:Q es δ')
def dList(t:DTA):DTO:=fun δ Q=>t δ fun ds δ'=>dList_i Q ds δ'
theorem o_list{p:Pos}{tA:DTA}(hm:X.mg "list"=none)(ha:Av X [e] tA)(hg:autoParam (Gl X "list") au5._auto_1)(he:autoParam (starEach [e] X.env=(false,eval e X.env)::starEach [] X.env) au5._auto_1)(hpl:autoParam ((backTo pos (starEach [] X.env)).any (·.1)=false) au5._auto_1):
  Ov X (.Call (.Name "list" p) [e] [] pos) (dList tA):=PE.imp (pe_callTy call_list_of hg hm boot_list' ha (by decide) (by decide) he hpl) fun σ H Q zz21=>(by obtain⟨W,M,α,δ,Qd,E,q,k⟩:=zz21;exact(
 ⟨W,M,α,δ,_,E,q,fun ds δ1 H1 xs zz22 E1 c1 r0=>(by obtain⟨es,e,q1⟩:=zz22;exact(by
  rcases e with e | e <;> subst e <;> obtain⟨x,ys,rfl,r1,r2⟩:=r0.uncons <;> cases r2.unnil
  . obtain⟨a,zs,rfl,ha,n,rr⟩:=r1.ofLst;exact⟨a,zs,rfl, .inl (SqL.of ha),fun l hl=>k _ _ _ _ _ q1 E1 c1 rr hl⟩
  . obtain⟨a,zs,rfl,ha,n,rr⟩:=r1.ofTup;exact⟨a,zs,rfl, .inr (SqT.of ha),fun l hl=>k _ _ _ _ _ q1 E1 c1 rr hl⟩))⟩))
inductive dListR_i(Q:List Dt->List Sl->Prop)(ds:List Dt)(δ':List Sl):Prop
 | mk (i:Int) (n:Nat) (h1:ds= [.int i, .int (i+n)]) (h2: -(2^61)<=i) (h3:i < 2^61) (h4:n<=1000) (h5:Q ((List.range n).map fun k=> .int (i+(k:Nat))) δ')
def dListR(t:DTA):DTO:=fun δ Q=>t δ fun ds δ'=>dListR_i Q ds δ'
theorem o_listR{p p2 pos2:Pos}{tA:DTA}(hc:X.calm=true)(hml:X.mg "list"=none)(hmr:X.mg "range"=none)(ha:Av X [a,b] tA)(hgl:autoParam (Gl X "list") au5._auto_1)(hgr:autoParam (Gl X "range") au5._auto_1)
  (hs0:autoParam (starEach [.Call (.Name "range" p2) [a,b] [] pos2] X.env= [(false,eval (.Call (.Name "range" p2) [a,b] [] pos2) X.env)]) au5._auto_1) (hs:autoParam (starEach [a,b] X.env= [(false,eval a X.env),(false,eval b X.env)]) au5._auto_1) (hs2:autoParam (starEach [b] X.env= [(false,eval b X.env)]) au5._auto_1):
  Ov X (.Call (.Name "list" p) [.Call (.Name "range" p2) [a,b] [] pos2] [] pos) (dListR tA):=PE.imp (pe_listR hc hgl hml hgr hmr ha hs0 hs hs2) fun σ H Q zz6=>(by obtain⟨W,M,α,δ,Qd,E,q,k⟩:=zz6;exact(
 ⟨W,M,α,δ,_,E,q,fun ds δ1 H1 xs zz7 E1 c1 r0=>(by obtain⟨i,n,e,l1,l2,l3,q1⟩:=zz7;exact(by
  subst e;obtain⟨x,ys,rfl,r1,r2⟩:=r0.uncons;obtain⟨y,zs,rfl,r4,r3⟩:=r2.uncons;cases r3.unnil;cases r1.ofInt;cases r4.ofInt;refine⟨i,n,rfl,l1,l2,l3,fun p hp=>k _ _ _ _ _ q1 E1 c1 ⟨by simp,fun j x d h1 h2=>?_⟩ hp⟩;rw[List.getElem?_map] at h1 h2;cases hj:(List.range n)[j]? with
  | none=>rw[hj] at h1;cases h1
  | some m=>rw[hj] at h1 h2;cases h1;cases h2;exact .int _))⟩))
theorem empty_rep{M:Addr->Prop}{H:Hp}{xs:List V}{ds:List Dt}(r:Reps M H xs ds):xs.isEmpty=ds.isEmpty:=by
 have:=r.1;cases xs <;> cases ds <;> simp at this ⊢
end
end LD
end
section
namespace LD
open PySem PySem.Spec L2 LB PyProof.Rows
def spA(S:DN):Sp:=fun vs H Q _=> ∃M ds Qd,MOk M H/\Reps M H vs ds/\S ds Qd/\ ∀r H' v',Qd r->Same H H'->Rep M H' v' r->Q v' H'
abbrev DB:=Int->List Dt->(Dt->Int->Prop)->Prop
def spB(S:DB):Sp:=fun vs H Q _=> ∃M d c t ws ds Qd,vs= .ref d::ws/\MOk M H/\M d/\M c/\Box H d c t/\Reps M H ws ds/\S t ds Qd/\ ∀r t' H' v',Qd r t'->Kp d c H H'->Box H' d c t'->Rep M H' v' r->Q v' H'
section
variable {X : Cx} {e : Expr} {es : List Expr} {pos p : Pos} {x : Str} {k : Nat} {ps : List Str}
theorem d_fnA{S:DN}{t:DTA}(h:Has X.prog X.w X.K X.mg X.base x k ps (spA S))(hr:Room k X.A)(ha:Av X (e::es) t)(hg:autoParam (Gl X x) au5._auto_1)
  (hdb:autoParam ((x==("__debug__":Str))=false) au2._auto_1) (he:autoParam (starEach (e::es) X.env=(false,eval e X.env)::starEach es X.env) au5._auto_1) (hpl:autoParam ((backTo pos (starEach es X.env)).any (·.1)=false) au5._auto_1):
  Ev X (.Call (.Name x p) (e::es) [] pos) (dCa S t):=PE.imp (pe_has h hr hg ha hdb he hpl) fun σ H Q zz1=>(by obtain⟨W,M,α,δ,Qd,E,q,k⟩:=zz1;exact(
 ⟨W,M,α,δ,_,E,q,fun ds δ' H' vs q1 E1 c1 r1=>by
  show spA S (vs++ []) H' Q E0;rw[List.append_nil];exact⟨M,ds,_,E1.al,r1,q1,fun r H2 v2 q2 s r2=>k _ _ _ _ q2 (E1.same s) (c1.tr (Chg.of s)) r2⟩⟩))
theorem EnvR.box{Ws:List Wd}{M:Addr->Prop}{α:List (List Addr)}{H:Hp}{σ:L2.St}{δ:List Sl}{i:Nat}{t:Int}(E:EnvR Ws M α H σ δ)(h:δ[i]?=some (.bx t)): ∃d c,σ[i]?=some (some (.ref d))/\α[i]?=some [d,c]/\Box H d c t:=by
 obtain⟨o,as,h1,h2,d,c,rfl,rfl,r⟩:=E.sl i _ h;exact⟨d,c,h1,h2,r⟩
theorem box_mod{Ws:List Wd}{M:Addr->Prop}{α:List (List Addr)}{H H':Hp}{σ:L2.St}{δ:List Sl}{i:Nat}{t t':Int}{d c:Addr}(E:EnvR Ws M α H σ δ)(h:δ[i]?=some (.bx t))(h1:σ[i]?=some (some (.ref d)))(h2:α[i]?=some [d,c])(k:Kp d c H H')(B:Box H' d c t'):
  EnvR Ws M α H' σ (δ.set i (.bx t'))/\Chg α H H':=
 E.mod h h1 h2 rfl ⟨d,c,rfl,rfl,B⟩ (fun b u e n=>k b u e (fun z=>n (by rw[z];simp)) (fun z=>n (by rw[z];simp))) (fun b hb=>by
  simp only [List.mem_cons,List.not_mem_nil,or_false] at hb;rcases hb with rfl | rfl
  . exact⟨_,B.dc,fun xs z=>by cases z⟩
  . obtain⟨ns,h,_⟩:=B.cs;exact⟨_,h,fun xs z=>by cases z⟩)
def dFnB(S:DB)(i:Nat)(t:DTA):DTE:=fun δ Q=>(∃t0,δ[i]?=some (.bx t0))/\t δ fun ds δ'=> ∃t,δ'[i]?=some (.bx t)/\S t ds fun r t'=>Q r (δ'.set i (.bx t'))
theorem d_fnB(i:Nat){S:DB}{t:DTA}{y:Str}{yp:Pos}(h:Has X.prog X.w X.K X.mg X.base x k ps (spB S))(hr:Room k X.A)(ho:PE X (.Name y yp) (tVar i))(ha:Av X es t)(hg:autoParam (Gl X x) au5._auto_1)
  (hdb:autoParam ((x==("__debug__":Str))=false) au2._auto_1) (he:autoParam (starEach (.Name y yp::es) X.env=(false,eval (.Name y yp) X.env)::starEach es X.env) au5._auto_1) (hpl:autoParam ((backTo pos (starEach es X.env)).any (·.1)=false) au5._auto_1):
  Ev X (.Call (.Name x p) (.Name y yp::es) [] pos) (dFnB S i t):=PE.imp (pe_has h hr hg (pa_cons ho ha he) hdb he hpl) fun σ H Q zz1=>(by obtain⟨W,M,α,δ,Qd,E,⟨⟨t0,h0⟩,q⟩,k⟩:=zz1;exact(by
  obtain⟨d,c,h1,h2,B⟩:=E.box h0;refine⟨_,h1,W,M,α,δ,_,E,q,fun ds δ' H' vs zz3 E1 c1 r1=>?_⟩;obtain⟨t,hd,q1⟩:=zz3;obtain⟨d',c',h1',h2',B'⟩:=E1.box hd;rw[h1] at h1';cases h1';show spB S ((V.ref d::vs)++ []) H' Q E0;rw[List.append_nil];refine⟨M,d,c',t,vs,ds,_,rfl,E1.al,E1.mu d (flat_get h2' (by simp)),E1.mu c' (flat_get h2' (by simp)),B',r1,q1,fun r t' H2 v2 q2 kp B2 r2=>?_⟩;obtain⟨E2,c2⟩:=box_mod E1 hd h1 h2' kp B2;exact k _ _ _ _ q2 E2 (c1.tr c2) r2))
end
section
variable {P : Program} {w : World} {K : PySem.W.Frag} {mg : Str -> Option Value} {base : Heap}
theorem env_start{Ws:List Wd}{M:Addr->Prop}{H:Hp}{vs:List V}{ds:List Dt}{n:Nat}(al:MOk M H)(r:Reps M H vs ds)(w: ∀W∈Ws,WOk W M (List.replicate (ds.length+n) []) H (ds.map .im++List.replicate n .no)):
  EnvR Ws M (List.replicate (ds.length+n) []) H (vs.map some++List.replicate n none) (ds.map .im++List.replicate n .no):=by
 have hflat:(List.replicate (ds.length+n) ([]:List Addr)).flatten= []:=by simp
 refine⟨by simp [r.1],by simp,fun i s h=>?_,by rw[hflat];exact List.nodup_nil,fun a ha=>by rw[hflat] at ha;exact absurd ha List.not_mem_nil,al,w⟩;have hi:=(List.getElem?_eq_some_iff.mp h).1;rw[List.length_append,List.length_map,List.length_replicate] at hi;have ha:(List.replicate (ds.length+n) ([]:List Addr))[i]?=some []:=by rw[List.getElem?_replicate,if_pos hi]
 by_cases hl:i < ds.length
 . rw[List.getElem?_append_left (by rw[List.length_map];exact hl),List.getElem?_map,List.getElem?_eq_getElem hl] at h;cases h;obtain⟨v,hv,rv⟩:=r.get (List.getElem?_eq_getElem hl);exact⟨some v,[],by rw[List.getElem?_append_left (by rw[List.length_map,r.1];exact hl),List.getElem?_map,hv];rfl,ha,rfl,v,rfl,rv⟩
 . rw[List.getElem?_append_right (by rw[List.length_map];omega),List.getElem?_replicate] at h;split at h
   . rename_i hn;cases h;rw[List.length_map] at hn;exact⟨none,[],by rw[List.getElem?_append_right (by rw[List.length_map,r.1];omega),List.getElem?_replicate,if_pos (by rw[List.length_map,r.1];exact hn)],ha,rfl⟩
   . cases h
theorem fnA{x qual:Str}{st:Stmt}{f:Addr}{fd:FuncData}{N ps:List Str}{k:Nat}{S:DN}(F:Fun K x qual st f fd)(sc:FnScope N ps (defScope st))(len: ∀ds Qd,S ds Qd->ds.length=ps.length)
  (hbody: ∀(cdv:Value) (A:Around) (outer:List Env) (s:Shared) (H:Hp) (E:XK),Room k (A.deeper (envOfC qual (defScope st) s.heap.objs.size f cdv))->
   ∃T,Exs (cxOf CX0 P w K mg base N qual (defScope st) f cdv A outer s H E).nox (defBody st) T/\ ∀ds Qd,S ds Qd->T {nx:=fun _=>Qd .non,rt:=fun d _=>Qd d} (ds.map .im++List.replicate (N.length - ps.length) .no)):
  FnOk P w K mg base CX0 (k+1) f fd ps (spA S):=by
 refine F.ok sc (fun vs H Q E h=>?_) (fun cdv A outer s H vs Q E hr h=>?_)
 . obtain⟨M,ds,Qd,al,r,q,_⟩:=h;rw[r.1];exact len ds Qd q
 . obtain⟨M,ds,Qd,al,r,q,kk⟩:=h;obtain⟨T,hT,hq⟩:=hbody cdv A outer s H E hr;refine⟨lS T,hT,[⟨H,fun _=>False,M,M,none⟩],M,List.replicate (ds.length+(N.length - ps.length)) [],ds.map .im++List.replicate (N.length - ps.length) .no,_,?_,?_,hq ds Qd q⟩
   . have e:L2.start N vs=vs.map some++List.replicate (N.length - ps.length) none:=by unfold L2.start;rw[r.1,len ds Qd q]
     rw[e];refine env_start al r fun W hW=>?_;rw[List.mem_singleton.mp hW];have hflat:(List.replicate (ds.length+(N.length - ps.length)) ([]:List Addr)).flatten= []:=by simp
     refine⟨fun b o e _=>e,fun b n=>n,fun a ha=>by rw[hflat] at ha;exact absurd ha List.not_mem_nil,fun a h=>h,fun a h=> .inl h,fun d c e=>(by cases e),fun j s as h1 h2 _ a ha=>?_⟩;rw[List.getElem?_replicate] at h2;split at h2
     . cases h2;exact absurd ha List.not_mem_nil
     . cases h2
   . have same : ∀ {M' α' H' σ' δ'}, EnvR [⟨H, fun _ => False, M, M, none⟩] M' α' H' σ' δ' -> Same H H' /\ ∀ a, M a -> M' a := fun E' => by
       have k:=E'.w _ (List.mem_singleton.mpr rfl);exact⟨fun b o e=>k.bs b o e (fun z=>z),k.m0⟩
     refine⟨fun M' α' H' σ' δ' E' q=>kk _ _ _ q (same E').1 .non,fun M' α' H' σ' δ' v d E' r' q=>kk _ _ _ q (same E').1 (r'.mono fun a o e n=>⟨e,fun z=>n ((same E').2 a z)⟩),fun _ _ _ _ _ _ z=>z.elim,fun _ _ _ _ _ _ z=>z.elim⟩
theorem env_startB{W:Wd}{M:Addr->Prop}{H:Hp}{vs:List V}{ds:List Dt}{n:Nat}{d c:Addr}{t:Int}(al:MOk M H)(r:Reps M H vs ds)(B:Box H d c t)(Md:M d)(Mc:M c)(h0:W=⟨H,fun a=>a=d\/a=c,M,M,some (d,c)⟩):
  EnvR [W] M ([d,c]::List.replicate (ds.length+n) []) H (some (.ref d)::(vs.map some++List.replicate n none)) (.bx t::(ds.map .im++List.replicate n .no)):=by
 have E0:=env_start (Ws:= []) (n:=n) al r (fun W hW=>absurd hW List.not_mem_nil);have hflat:(List.replicate (ds.length+n) ([]:List Addr)).flatten= []:=by simp
 have ef:(([d,c]:List Addr)::List.replicate (ds.length+n) []).flatten= [d,c]:=by rw[List.flatten_cons,hflat,List.append_nil]
 refine⟨by rw[List.length_cons,List.length_cons,E0.ls],by rw[List.length_cons,List.length_cons,E0.la],fun i s h=>?_,?_,fun a ha=>?_,al,fun W' hW=>?_⟩
 . cases i with
   | zero=>cases h;exact⟨_,_,rfl,rfl,d,c,rfl,rfl,B⟩
   | succ i=>obtain⟨o,as,h1,h2,h3⟩:=E0.sl i s (by simpa using h);exact⟨o,as,by simpa using h1,by simpa using h2,h3⟩
 . rw[ef];simp [B.ne]
 . rw[ef] at ha;simp only [List.mem_cons,List.not_mem_nil,or_false] at ha;rcases ha with rfl | rfl <;> assumption
 . rw[List.mem_singleton.mp hW,h0];refine⟨fun b o e _=>e,fun b n=>n,fun a ha=>?_,fun a h=>h,fun a h=> .inl h,fun d' c' e=>?_,fun j s as h1 h2 nb a ha=>?_⟩
   . rw[ef] at ha;simp only [List.mem_cons,List.not_mem_nil,or_false] at ha;exact .inl ha
   . cases e;exact⟨t,rfl,rfl⟩
   . cases j with
     | zero=>cases h1;cases nb
     | succ j=>
      rw[List.getElem?_cons_succ,List.getElem?_replicate] at h2;split at h2
      . cases h2;exact absurd ha List.not_mem_nil
      . cases h2
theorem fnB{x qual:Str}{st:Stmt}{f:Addr}{fd:FuncData}{N ps:List Str}{k:Nat}{S:DB}(F:Fun K x qual st f fd)(sc:FnScope N ps (defScope st))(len: ∀t ds Qd,S t ds Qd->ds.length+1=ps.length)
  (hbody: ∀(cdv:Value) (A:Around) (outer:List Env) (s:Shared) (H:Hp) (E:XK),Room k (A.deeper (envOfC qual (defScope st) s.heap.objs.size f cdv))->
   ∃T,Exs (cxOf CX0 P w K mg base N qual (defScope st) f cdv A outer s H E).nox (defBody st) T/\ ∀t ds Qd,S t ds Qd->T {nx:=fun δ=> ∃t',δ[0]?=some (.bx t')/\Qd .non t',rt:=fun d δ=> ∃t',δ[0]?=some (.bx t')/\Qd d t'} (.bx t::(ds.map .im++List.replicate (N.length - ps.length) .no))):
  FnOk P w K mg base CX0 (k+1) f fd ps (spB S):=by
 refine F.ok sc (fun vs H Q E h=>?_) (fun cdv A outer s H vs Q E hr h=>?_)
 . obtain⟨M,d,c,t,ws,ds,Qd,rfl,al,md,mc,B,r,q,_⟩:=h;rw[List.length_cons,r.1];exact len t ds Qd q
 . obtain⟨M,d,c,t,ws,ds,Qd,rfl,al,md,mc,B,r,q,kk⟩:=h;obtain⟨T,hT,hq⟩:=hbody cdv A outer s H E hr;refine⟨lS T,hT,[⟨H,fun a=>a=d\/a=c,M,M,some (d,c)⟩],M,[d,c]::List.replicate (ds.length+(N.length - ps.length)) [], .bx t::(ds.map .im++List.replicate (N.length - ps.length) .no),_,?_,?_,hq t ds Qd q⟩
   . have e : L2.start N (.ref d :: ws) = some (.ref d) :: (ws.map some ++ List.replicate (N.length - ps.length) none) := by
       unfold L2.start;rw[List.map_cons,List.cons_append,List.length_cons,r.1,len t ds Qd q]
     rw[e];exact env_startB al r B md mc rfl
   . have same : ∀ {M' α' H' σ' δ' t'}, EnvR [⟨H, fun a => a = d \/ a = c, M, M, some (d, c)⟩] M' α' H' σ' δ' -> δ'[0]? = some (.bx t') -> Kp d c H H' /\ (∀ a, M a -> M' a) /\ Box H' d c t' := fun {M' α' H' σ' δ' t'} E' ht => by
       have k:=E'.w _ (List.mem_singleton.mpr rfl);refine⟨fun b o e n1 n2=>k.bs b o e (fun z=>z.elim n1 n2),k.m0,?_⟩;obtain⟨t2,e1,e2⟩:=k.bx d c rfl;obtain⟨d3,c3,e3,e4,B3⟩:=E'.box ht;rw[e2] at e4;cases e4;exact B3
     refine⟨fun M' α' H' σ' δ' E' zz4=>(by obtain⟨t',ht,q⟩:=zz4;exact(kk _ _ _ _ q (same E' ht).1 (same E' ht).2.2 .non)),fun M' α' H' σ' δ' v dd E' r' zz5=>(by obtain⟨t',ht,q⟩:=zz5;exact(kk _ _ _ _ q (same E' ht).1 (same E' ht).2.2 (r'.mono fun a o e n=>⟨e,fun z=>n ((same E' ht).2.1 a z)⟩))),fun _ _ _ _ _ _ z=>z.elim,fun _ _ _ _ _ _ z=>z.elim⟩
end
end LD
end
section
namespace LD
open PySem PySem.Spec L2 LB PyProof.Rows
def Kf(M:Addr->Prop)(H H1:Hp):Prop:= ∀b o,H b=some o-> ¬M b->H1 b=some o
structure Yl(M:Addr->Prop)(H:Hp)(J:It)(its:List Dt):Prop where
 go: ∀i H1 M',Kf M H H1->MOk M' H1->(∀b,H b≠none-> ¬M b-> ¬M' b)->i < its.length->J.go i H1/\ ∀x H2,J.yld i H1 x H2->Same H1 H2/\ ∃d,its[i]?=some d/\Rep M' H2 x d
 stop: ∀H1,Kf M H H1->J.stop its.length H1
abbrev DTI:=List Sl->(List Dt->List Sl->Prop)->Prop
inductive lI(t:DTI)(σ:L2.St)(H:Hp)(R:It->Hp->Prop):Prop
 | mk (W:List Wd) (M:Addr->Prop) (α:List (List Addr)) (δ:List Sl) (Qd:List Dt->List Sl->Prop) (h1:EnvR W M α H σ δ) (h2:t δ Qd) (h3: ∀its δ' H' J,Qd its δ'->EnvR W M α H' σ δ'->Chg α H H'->Yl M H' J its->R J H')
theorem PI.imp{X:Cx}{tg iter:Expr}{t t':TI}(h:PI X tg iter t)(i: ∀σ H R,t' σ H R->t σ H R):PI X tg iter t':=fun pins s σ H R I q=>h pins s σ H R I (i _ _ _ q)
abbrev Iv(X:Cx)(tg iter:Expr)(t:DTI):Prop:=PI X tg iter (lI t)
section
variable {X : Cx} {tg e a b : Expr} {ta t : DTE} {tA : DTA} {p pos : Pos}
theorem yl_range{M:Addr->Prop}{H:Hp}{lo:Int}{n:Nat}:Yl M H (Itr lo n) ((List.range n).map fun k=> .int (lo+(k:Nat))):=by
 refine⟨fun i H1 M' kf mo hb hi=>⟨?_,fun x H2 zz1=>?_⟩,fun H1 _=>?_⟩
 . rw[List.length_map,List.length_range] at hi;exact hi
 . obtain⟨e1,e2⟩:=zz1;rw[List.length_map,List.length_range] at hi;subst e1;subst e2;exact⟨fun _ _ z=>z, .int (lo+i),by rw[List.getElem?_map,List.getElem?_range hi];rfl, .int _⟩
 . show n<=_;rw[List.length_map,List.length_range];exact Nat.le_refl _
inductive dRng1_i(Q:List Dt->List Sl->Prop)(ds:List Dt)(δ':List Sl):Prop
 | mk (j:Int) (h1:ds= [.int j]) (h2: -(2^62)<=j) (h3:j < 2^62) (h4:Q ((List.range j.toNat).map fun k=> .int (0+(k:Nat))) δ')
def dRng1(t:DTA):DTI:=fun δ Q=>t δ fun ds δ'=>dRng1_i Q ds δ'
inductive dRng2_i(Q:List Dt->List Sl->Prop)(ds:List Dt)(δ':List Sl):Prop
 | mk (i j:Int) (h1:ds= [.int i, .int j]) (h2:(-(2^62)<=i/\i < 2^62/\ -(2^62)<=j/\j < 2^62)) (h3:Q ((List.range (j - i).toNat).map fun k=> .int (i+(k:Nat))) δ')
def dRng2(t:DTA):DTI:=fun δ Q=>t δ fun ds δ'=>dRng2_i Q ds δ'
theorem i_rng1(hm:X.mg "range"=none)(ha:Av X [a] tA)(hg:autoParam (Gl X "range") au5._auto_1)(hs:autoParam (starEach [a] X.env= [(false,eval a X.env)]) au5._auto_1):Iv X tg (.Call (.Name "range" p) [a] [] pos) (dRng1 tA):=PI.imp (pi_range1 hg hm ha hs) fun σ H R zz2=>(by obtain⟨W,M,α,δ,Qd,E,q,k⟩:=zz2;exact(
 ⟨W,M,α,δ,_,E,q,fun ds δ' H' vs zz3 E1 c1 r1=>(by obtain⟨j,e,l1,l2,q1⟩:=zz3;exact(by
  subst e;obtain⟨x,ys,rfl,r2,r3⟩:=r1.uncons;cases r3.unnil;cases r2.ofInt;exact⟨j,rfl,l1,l2,k _ _ _ _ q1 E1 c1 yl_range⟩))⟩))
theorem i_rng2(hm:X.mg "range"=none)(ha:Av X [a,b] tA)(hg:autoParam (Gl X "range") au5._auto_1)(hs:autoParam (starEach [a,b] X.env= [(false,eval a X.env),(false,eval b X.env)]) au5._auto_1)(hs2:autoParam (starEach [b] X.env= [(false,eval b X.env)]) au5._auto_1):Iv X tg (.Call (.Name "range" p) [a,b] [] pos) (dRng2 tA):=PI.imp (pi_range2 hg hm ha hs hs2) fun σ H R zz4=>(by obtain⟨W,M,α,δ,Qd,E,q,k⟩:=zz4;exact(
 ⟨W,M,α,δ,_,E,q,fun ds δ' H' vs zz5 E1 c1 r1=>(by obtain⟨i,j,e,l,q1⟩:=zz5;exact(by
  subst e;obtain⟨x,ys,rfl,r2,r3⟩:=r1.uncons;obtain⟨y,zs,rfl,r4,r5⟩:=r3.uncons;cases r5.unnil;cases r2.ofInt;cases r4.ofInt;exact⟨i,j,rfl,l,k _ _ _ _ q1 E1 c1 yl_range⟩))⟩))
theorem get_of{M M':Addr->Prop}{H H1:Hp}{xs:List V}{ds:List Dt}(r:Reps M H xs ds)(kf:Kf M H H1)(hb: ∀b,H b≠none-> ¬M b-> ¬M' b):Reps M' H1 xs ds:=r.mono fun a o e n=>⟨kf a o e n,hb a (by rw[e];intro z;cases z) n⟩
theorem yl_list{K:PySem.W.Frag}{M:Addr->Prop}{H:Hp}{a:Addr}{xs:List V}{ds:List Dt}(h:H a=some (.lst xs))(n: ¬M a)(r:Reps M H xs ds):Yl M H (Itl K a) ds:=by
 refine⟨fun i H1 M' kf mo hb hi=>?_,fun H1 kf=>⟨xs,SqL.of (kf _ _ h n),by rw[r.1];exact Nat.le_refl _⟩⟩;have rr:=get_of r kf hb;have hx:xs[i]?=some (xs[i]'(by rw[r.1];exact hi)):=List.getElem?_eq_getElem _;refine⟨⟨xs,_,SqL.of (kf _ _ h n),hx⟩,fun x H2 zz6=>?_⟩;obtain⟨e,y⟩:=zz6;subst e;have:=y xs (SqL.of (kf _ _ h n));exact⟨fun _ _ z=>z,_,List.getElem?_eq_getElem hi,rr.2 i x _ this (List.getElem?_eq_getElem hi)⟩
theorem yl_tup{K:PySem.W.Frag}{M:Addr->Prop}{H:Hp}{a:Addr}{xs:List V}{ds:List Dt}(h:H a=some (.tup xs))(n: ¬M a)(r:Reps M H xs ds):Yl M H (Itt K a) ds:=by
 refine⟨fun i H1 M' kf mo hb hi=>?_,fun H1 kf=>⟨xs,SqT.of (kf _ _ h n),by rw[r.1];exact Nat.le_refl _⟩⟩;have rr:=get_of r kf hb;have hx:xs[i]?=some (xs[i]'(by rw[r.1];exact hi)):=List.getElem?_eq_getElem _;refine⟨⟨xs,_,SqT.of (kf _ _ h n),hx⟩,fun x H2 zz7=>?_⟩;obtain⟨e,y⟩:=zz7;subst e;have:=y xs (SqT.of (kf _ _ h n));exact⟨fun _ _ z=>z,_,List.getElem?_eq_getElem hi,rr.2 i x _ this (List.getElem?_eq_getElem hi)⟩
inductive dItL_i(Q:List Dt->List Sl->Prop)(d:Dt)(δ':List Sl):Prop
 | mk (ds:_) (h1:d= .lst ds) (h2:Q ds δ')
def dItL(t:DTE):DTI:=fun δ Q=>t δ fun d δ'=>dItL_i Q d δ'
inductive dItT_i(Q:List Dt->List Sl->Prop)(d:Dt)(δ':List Sl):Prop
 | mk (ds:_) (h1:d= .tup ds) (h2:Q ds δ')
def dItT(t:DTE):DTI:=fun δ Q=>t δ fun d δ'=>dItT_i Q d δ'
theorem i_list(h:Ev X e t):Iv X tg e (dItL t):=PI.imp (pi_list h) fun σ H R zz8=>(by obtain⟨W,M,α,δ,Qd,E,q,k⟩:=zz8;exact(⟨W,M,α,δ,_,E,q,fun d δ' H' v zz9 E1 c1 r1=>(by obtain⟨ds,e,q1⟩:=zz9;exact(by
 subst e;obtain⟨a,xs,rfl,ha,n,rr⟩:=r1.ofLst;exact⟨a,rfl,⟨xs,SqL.of ha⟩,k _ _ _ _ q1 E1 c1 (yl_list ha n rr)⟩))⟩))
theorem i_tup(h:Ev X e t):Iv X tg e (dItT t):=PI.imp (pi_tup h) fun σ H R zz10=>(by obtain⟨W,M,α,δ,Qd,E,q,k⟩:=zz10;exact(⟨W,M,α,δ,_,E,q,fun d δ' H' v zz11 E1 c1 r1=>(by obtain⟨ds,e,q1⟩:=zz11;exact(by
 subst e;obtain⟨a,xs,rfl,ha,n,rr⟩:=r1.ofTup;exact⟨a,rfl,⟨xs,SqT.of ha⟩,k _ _ _ _ q1 E1 c1 (yl_tup ha n rr)⟩))⟩))
noncomputable def enumD(k:Nat)(ds:List Dt):List Dt:=ds.mapIdx fun i d=> .tup [.int ((i+k:Nat):Int),d]
theorem yl_enum{K:PySem.W.Frag}{M:Addr->Prop}{H:Hp}{a:Addr}{xs:List V}{ds:List Dt}{k:Nat}(h:H a=some (.tup xs))(n: ¬M a)(r:Reps M H xs ds):Yl M H (Ite K a k) (enumD k ds):=by
 have hl:(enumD k ds).length=ds.length:=by unfold enumD;rw[List.length_mapIdx]
 refine⟨fun i H1 M' kf mo hb hi=>?_,fun H1 kf=>⟨xs,SqT.of (kf _ _ h n),by rw[r.1,hl]⟩⟩;rw[hl] at hi;have rr:=get_of r kf hb;have hx:xs[i]?=some (xs[i]'(by rw[r.1];exact hi)):=List.getElem?_eq_getElem _;refine⟨⟨xs,_,SqT.of (kf _ _ h n),hx⟩,fun x H2 zz12=>?_⟩;obtain⟨pp,y,e1,e2,e3,e4⟩:=zz12;subst e1;subst e3;have hy:=e4 xs (SqT.of (kf _ _ h n));have s:Same H1 (upd H1 pp (.tup [.int ((i+k:Nat):Int),y])):=Same.new e2;refine⟨s,_,by unfold enumD;rw[List.getElem?_mapIdx,List.getElem?_eq_getElem hi];rfl,Rep.toTup upd_same (mo.fresh e2) (.cons (.int _) (.one ((rr.2 i y _ hy (List.getElem?_eq_getElem hi)).same s)))⟩
inductive dEnum1_i(Q:List Dt->List Sl->Prop)(es:List Dt)(δ':List Sl):Prop
 | mk (ds:_) (h1:es= [.tup ds, .int 1]) (h2:Q (enumD 1 ds) δ')
def dEnum1(t:DTA):DTI:=fun δ Q=>t δ fun es δ'=>dEnum1_i Q es δ'
theorem i_enum1{f:Expr}{es:List Expr}{x1}{tp:Pos}(hm:X.mg "enumerate"=none)(ha:Av X [e,f] tA)(hg:autoParam (Gl X "enumerate") au5._auto_1)(hs:autoParam (starEach [e,f] X.env= [(false,eval e X.env),(false,eval f X.env)]) au5._auto_1)(hs2:autoParam (starEach [f] X.env= [(false,eval f X.env)]) au5._auto_1):Iv X (.Tuple es x1 tp) (.Call (.Name "enumerate" p) [e,f] [] pos) (dEnum1 tA):=PI.imp (pi_enum1 hg hm ha hs hs2) fun σ H R zz15=>(by obtain⟨W,M,α,δ,Qd,E,q,k⟩:=zz15;exact(
 ⟨W,M,α,δ,_,E,q,fun es δ' H' vs zz16 E1 c1 r1=>(by obtain⟨ds,e,q1⟩:=zz16;exact(by
  subst e;obtain⟨x,ys,rfl,r2,r3⟩:=r1.uncons;obtain⟨y,zs,rfl,r4,r5⟩:=r3.uncons;cases r5.unnil;cases r4.ofInt;obtain⟨a,xs,rfl,ha,n,rr⟩:=r2.ofTup;exact⟨a,rfl,⟨xs,SqT.of ha⟩,k _ _ _ _ q1 E1 c1 (yl_enum ha n rr)⟩))⟩))
noncomputable def zipD(xs ys:List Dt):List Dt:=List.zipWith (fun x y=> .tup [x,y]) xs ys
noncomputable def sqD(b:Bool)(ds:List Dt):Dt:=if b then .tup ds else .lst ds
theorem Rep.ofSq{M:Addr->Prop}{H:Hp}{v:V}{b:Bool}{ds:List Dt}(h:Rep M H v (sqD b ds)): ∃a xs,v= .ref a/\Sqb b H a xs/\ ¬M a/\Reps M H xs ds/\ ∀H1,Kf M H H1->Sqb b H1 a xs:=by
 cases b with
 | true=>obtain⟨a,xs,e,ha,n,r⟩:=Rep.ofTup h;exact⟨a,xs,e,ha,n,r,fun H1 k=>k _ _ ha n⟩
 | false=>obtain⟨a,xs,e,ha,n,r⟩:=Rep.ofLst h;exact⟨a,xs,e,ha,n,r,fun H1 k=>k _ _ ha n⟩
theorem yl_zip{M:Addr->Prop}{H:Hp}{b1 b2:Bool}{a1 a2:Addr}{xs ys:List V}{ds es:List Dt}(k1: ∀H1,Kf M H H1->Sqb b1 H1 a1 xs)(k2: ∀H1,Kf M H H1->Sqb b2 H1 a2 ys)(r:Reps M H xs ds)(r2:Reps M H ys es):Yl M H (Itz b1 b2 a1 a2) (zipD ds es):=by
 have hl:(zipD ds es).length=min ds.length es.length:=by unfold zipD;rw[List.length_zipWith]
 refine⟨fun i H1 M' kf mo hb hi=>?_,fun H1 kf=>⟨xs,ys,k1 _ kf,k2 _ kf,by rw[hl,r.1,r2.1];grind⟩⟩;rw[hl] at hi;have rr:=get_of r kf hb;have rr2:=get_of r2 kf hb;have hd:ds[i]?=some (ds[i]'(by grind)):=List.getElem?_eq_getElem _;have he:es[i]?=some (es[i]'(by grind)):=List.getElem?_eq_getElem _;obtain⟨x,hx,rx⟩:=rr.get hd;obtain⟨y,hy,ry⟩:=rr2.get he;refine⟨⟨xs,x,ys,y,k1 _ kf,hx,k2 _ kf,hy⟩,fun v H2 zz17=>?_⟩;obtain⟨pp,x',y',e1,e2,e3,e4,e5⟩:=zz17;subst e1;subst e3;have h1:=e4 xs (k1 _ kf);have h2:=e5 ys (k2 _ kf);rw[hx] at h1;cases h1;rw[hy] at h2;cases h2;have s:Same H1 (upd H1 pp (.tup [x,y])):=Same.new e2;exact⟨s,_,by unfold zipD;rw[List.getElem?_zipWith,hd,he],Rep.toTup upd_same (mo.fresh e2) (.cons (rx.same s) (.one (ry.same s)))⟩
inductive dZip_i(Q:List Dt->List Sl->Prop)(es:List Dt)(δ':List Sl):Prop
 | mk (b1 b2 ds1 ds2:_) (h1:es= [sqD b1 ds1,sqD b2 ds2]) (h2:Q (zipD ds1 ds2) δ')
def dZip(t:DTA):DTI:=fun δ Q=>t δ fun es δ'=>dZip_i Q es δ'
theorem i_zip{f:Expr}{es:List Expr}{x1}{tp:Pos}(ha:Av X [e,f] tA)(hp: ∀{t:TA},PA X [e,f] t->PI X (.Tuple es x1 tp) (.Call (.Name "zip" p) [e,f] [] pos) (iZip t)):Iv X (.Tuple es x1 tp) (.Call (.Name "zip" p) [e,f] [] pos) (dZip tA):=PI.imp (hp ha) fun σ H R zz18=>(by obtain⟨W,M,α,δ,Qd,E,q,k⟩:=zz18;exact(
 ⟨W,M,α,δ,_,E,q,fun es δ' H' vs zz19 E1 c1 r1=>(by obtain⟨b1,b2,ds1,ds2,e,q1⟩:=zz19;exact(by
  subst e;obtain⟨x,ys,rfl,r2,r3⟩:=r1.uncons;obtain⟨y,zs,rfl,r4,r5⟩:=r3.uncons;cases r5.unnil;obtain⟨a,xs,rfl,ha,n,rr,kk⟩:=r2.ofSq;obtain⟨a2,xs2,rfl,ha2,n2,rr2,kk2⟩:=r4.ofSq;exact⟨b1,b2,a,a2,xs,xs2,rfl,ha,ha2,k _ _ _ _ q1 E1 c1 (yl_zip kk kk2 rr rr2)⟩))⟩))
abbrev DTG:=Dt->List Sl->(List Sl->Prop)->Prop
inductive lG(g:DTG)(v:V)(σ:L2.St)(H:Hp)(Q:L2.St->Hp->Prop):Prop
 | mk (W:List Wd) (M:Addr->Prop) (α:List (List Addr)) (δ:List Sl) (d:Dt) (Qd:List Sl->Prop) (h1:EnvR W M α H σ δ) (h2:Rep M H v d) (h3:g d δ Qd) (h4: ∀α' δ' σ',Qd δ'->EnvR W M α' H σ' δ'->(∀x∈α'.flatten,x∈α.flatten)->Q σ' H)
theorem PG.imp{X:Cx}{tg:Expr}{t t':TG}(h:PG X tg t)(i: ∀v σ H Q,t' v σ H Q->t v σ H Q):PG X tg t':=fun pins s σ H v u Q I r q=>h pins s σ H v u Q I r (i _ _ _ _ q)
abbrev Gv(X:Cx)(tg:Expr)(g:DTG):Prop:=PG X tg (lG g)
def dgName(i:Nat):DTG:=fun d δ Q=>okSet δ i/\Q (δ.set i (.im d))
theorem flat_sub{α:List (List Addr)}{i:Nat}: ∀x∈(α.set i []).flatten,x∈α.flatten:=fun x h=>(flat_set h).elim id fun z=>absurd z List.not_mem_nil
theorem gname_read{i:Nat}: ∀v σ H Q,lG (dgName i) v σ H Q->gName i v σ H Q:=fun v σ H Q zz20=>(by obtain⟨W,M,α,δ,d,Qd,E,r,⟨ok,q⟩,k⟩:=zz20;exact(k _ _ _ q (E.setIm r ok) flat_sub))
theorem g_name(i:Nat){x:Str}(hN:X.N.Nodup)(hi:autoParam (X.N[i]?=some x) au5._auto_1)(hx:autoParam (Loc X.env.scope x) au8._auto_1)(hf:autoParam (X.fn x=true\/X.env.scope.names.lookup x=some .local) au1._auto_1):Gv X (.Name x pos) (dgName i):=PG.imp (pg_name hN hi hx hf) gname_read
inductive dgPair(i:Nat)(j:Nat)(d:Dt)(δ:List Sl)(Q:List Sl->Prop):Prop
 | mk (d1 d2:_) (h1:d= .tup [d1,d2]) (h2:okSet δ i) (h3:okSet (δ.set i (.im d1)) j) (h4:Q ((δ.set i (.im d1)).set j (.im d2)))
theorem gpair_read{i j:Nat}{K:PySem.W.Frag}: ∀v σ H Q,lG (dgPair i j) v σ H Q->gTup K 2 (gCons (gName i) (gCons (gName j) gNil)) v σ H Q:=fun v σ H Q zz21=>(by obtain⟨W,M,α,δ,d,Qd,E,r,⟨d1,d2,e,ok1,ok2,q⟩,k⟩:=zz21;exact(by
 subst e;obtain⟨a,xs,rfl,ha,n,rr⟩:=r.ofTup;obtain⟨x,ys,rfl,r2,r3⟩:=rr.uncons;obtain⟨y,zs,rfl,r4,r5⟩:=r3.uncons;cases r5.unnil;exact⟨a,_,rfl,SqT.of ha,rfl,x,_,rfl,y,_,rfl,rfl,k _ _ _ q ((E.setIm r2 ok1).setIm r4 ok2) fun x h=>flat_sub x (flat_sub x h)⟩))
theorem g_pair(i j:Nat){x y:Str}{px py:Pos}{kk:Nat}(hc:X.calm=true)(hN:X.N.Nodup)(hi:autoParam (X.N[i]?=some x) au5._auto_1)(hj:autoParam (X.N[j]?=some y) au5._auto_1)(hx:autoParam (Loc X.env.scope x) au8._auto_1)(hy:autoParam (Loc X.env.scope y) au8._auto_1)
  (hf:autoParam (X.fn x=true\/X.env.scope.names.lookup x=some .local) au1._auto_1) (hf2:autoParam (X.fn y=true\/X.env.scope.names.lookup y=some .local) au1._auto_1)
  (hn:autoParam ((assignEach [.Name x px, .Name y py] X.env).length=2) au5._auto_1) (hst:autoParam ((assignEach [.Name x px, .Name y py] X.env).findIdx? (·.1)=none) au5._auto_1)
  (h1:autoParam ((assignEach [.Name x px, .Name y py] X.env).map (·.2)=assign (.Name x px) X.env::(assignEach [.Name y py] X.env).map (·.2)) au5._auto_1) (h2:autoParam ((assignEach [.Name y py] X.env).map (·.2)=assign (.Name y py) X.env::(assignEach [] X.env).map (·.2)) au5._auto_1):
  Gv X (.Tuple [.Name x px, .Name y py] kk pos) (dgPair i j):=PG.imp (pg_tup hc (pgs_cons (pg_name hN hi hx hf) (pgs_cons (pg_name hN hj hy hf2) pgs_nil h2) h1) hn hst) gpair_read
end
section
variable {X : Cx} {tg iter c : Expr} {body : List Stmt} {ti : DTI} {g : DTG} {tb : DTS} {u : DTT} {pos : Pos}
def dFor(ti:DTI)(g:DTG)(tb:DTS):DTS:=fun Δ δ=>ti δ fun its δ1=> ∃P:Nat->List Sl->Prop,P 0 δ1/\(∀i d δ2,its[i]?=some d->P i δ2->g d δ2 fun δ3=>tb {Δ with nx:=P (i+1),ct:=P (i+1),bk:=Δ.nx} δ3)/\ ∀δ2,P its.length δ2->Δ.nx δ2
theorem s_for(hc:X.calm=true)(hi:Iv X tg iter ti)(hg:Gv X tg g)(hb:Exs X body tb)(hp:PassesOwn (model X.prog X.w) X.A X.env X.xe)(hs:autoParam (∀x,foldedSetIterable iter X.env x=pure x) au4._auto_1):Ex X (.For tg iter body [] pos) (dFor ti g tb):=
 PS.imp (ps_for hp hc hi hg hb hs) fun D σ H zz1=>(by obtain⟨Ws,M,α,δ,Δ,E,L,q⟩:=zz1;exact(⟨Ws,M,α,δ,_,E,q,fun its δ1 H1 J zz2 E1 c1 yl=>(by obtain⟨P,p0,step,fin⟩:=zz2;exact(by
  refine⟨fun i m σ' H'=>m=its.length - i/\i<=its.length/\ ∃M' α' δ',EnvR (⟨H1,M,fun _=>False,M,none⟩::Ws) M' α' H' σ' δ'/\P i δ',⟨its.length,by simp,Nat.zero_le _,M,α,δ1,E1.loop,p0⟩,?_⟩;rintro i m σ' H' ⟨rfl,hi,M',α',δ',E',p'⟩
  have w:=E'.w _ List.mem_cons_self;have kf:Kf M H1 H':=w.bs;have hb: ∀b,H1 b≠none-> ¬M b-> ¬M' b:=fun b n z y=>(w.m1 b y).elim z n;by_cases hlt:i < its.length
  . obtain⟨go,yld⟩:=yl.go i H' M' kf E'.al hb hlt;refine .inr ⟨go,fun σ2 H2=> ∃M2 α2 δ2,EnvR (⟨H1,M,fun _=>False,M,none⟩::Ws) M2 α2 H2 σ2 δ2/\P (i+1) δ2,fun σ2 H2 z=>⟨its.length - (i+1),by grind,rfl,hlt,z⟩,fun x H2 y=>?_⟩;obtain⟨s,d,hd,rx⟩:=yld x H2 y;refine⟨_,M',α',δ',d,_,E'.same s,rx,step i d δ' hd p',fun α3 δ3 σ3 q3 E3 _=>?_⟩;refine⟨_,M',α3,δ3,{Δ with nx:=P (i+1),ct:=P (i+1),bk:=Δ.nx},E3,⟨fun M4 α4 H4 σ4 δ4 E4 q4=>⟨M4,α4,δ4,E4,q4⟩,fun M4 α4 H4 σ4 δ4 v d E4 r4 q4=>L.rt _ _ _ _ _ _ _ E4.drop r4 q4,fun M4 α4 H4 σ4 δ4 E4 q4=>L.nx _ _ _ _ _ E4.drop q4,fun M4 α4 H4 σ4 δ4 E4 q4=>⟨M4,α4,δ4,E4,q4⟩⟩,q3⟩
  . have e:i=its.length:=by grind
    subst e;exact .inl ⟨yl.stop H' kf,L.nx _ _ _ _ _ E'.drop (fin _ p')⟩))⟩))
def dWhile(u:DTT)(tb:DTS):DTS:=fun Δ δ=> ∃P:Nat->List Sl->Prop,(∃m,P m δ)/\ ∀m δ1,P m δ1->u δ1 fun b δ2=>if b=true then tb {Δ with nx:=fun δ3=> ∃m',m' < m/\P m' δ3,ct:=fun δ3=> ∃m',m' < m/\P m' δ3,bk:=Δ.nx} δ2 else Δ.nx δ2
theorem s_while(hc:Tv X c u)(hb:Exs X body tb)(hp:PassesOwn (model X.prog X.w) X.A X.env X.xe):Ex X (.While c body [] pos) (dWhile u tb):=
 PS.imp (ps_while hp hc hb) fun D σ H zz3=>(by obtain⟨Ws,M,α,δ,Δ,E,L,P,⟨m0,p0⟩,turn⟩:=zz3;exact(by
  refine⟨fun m σ' H'=> ∃M' α' δ',EnvR Ws M' α' H' σ' δ'/\P m δ',⟨m0,M,α,δ,E,p0⟩,?_⟩;rintro m σ' H' ⟨M',α',δ',E',p'⟩
  refine⟨Ws,M',α',δ',_,E',turn m δ' p',fun b δ2 H2 q2 E2 c2=>?_⟩;cases b with
  | true=>
   rw[if_pos rfl] at q2 ⊢;refine⟨fun σ3 H3=> ∃m',m' < m/\ ∃M3 α3 δ3,EnvR Ws M3 α3 H3 σ3 δ3/\P m' δ3,fun σ3 H3 z=>z,?_⟩;exact⟨Ws,M',α',δ2,{Δ with nx:=fun δ3=> ∃m',m' < m/\P m' δ3,ct:=fun δ3=> ∃m',m' < m/\P m' δ3,bk:=Δ.nx},E2,⟨fun M4 α4 H4 σ4 δ4 E4 zz25=>(by obtain⟨m',l,q4⟩:=zz25;exact(⟨m',l,M4,α4,δ4,E4,q4⟩)),L.rt,fun M4 α4 H4 σ4 δ4 E4 q4=>L.nx _ _ _ _ _ E4 q4,fun M4 α4 H4 σ4 δ4 E4 zz26=>(by obtain⟨m',l,q4⟩:=zz26;exact(⟨m',l,M4,α4,δ4,E4,q4⟩))⟩,q2⟩
  | false=>
   rw[if_neg Bool.false_ne_true] at q2 ⊢;exact L.nx _ _ _ _ _ E2 q2))
end
end LD
end
section
namespace LD
open PySem PySem.Spec L2 LB PyProof.Rows
noncomputable def seen:Sl->Sl
 | .im d=> .im d
 | .fn f=> .fn f
 | _=> .no
noncomputable def cin(nt:Nat)(js:List Nat)(δ:List Sl):List Sl:=List.replicate nt .no++js.map fun j=>seen (δ.getD j .no)
theorem cin_env{Ws:List Wd}{M:Addr->Prop}{α:List (List Addr)}{H:Hp}{σ:L2.St}{δ:List Sl}{nt:Nat}{js:List Nat}(E:EnvR Ws M α H σ δ):EnvR [] M (List.replicate (nt+js.length) []) H (st0 nt js σ) (cin nt js δ):=by
 have hflat:(List.replicate (nt+js.length) ([]:List Addr)).flatten= []:=by simp
 refine⟨by simp [st0,cin],by simp [cin],fun i s h=>?_,by rw[hflat];exact List.nodup_nil,fun a ha=>by rw[hflat] at ha;exact absurd ha List.not_mem_nil,E.al,fun W hW=>absurd hW List.not_mem_nil⟩;have hi:=(List.getElem?_eq_some_iff.mp h).1;have hi':i < nt+js.length:=by simpa [cin] using hi
 have ha:(List.replicate (nt+js.length) ([]:List Addr))[i]?=some []:=by rw[List.getElem?_replicate,if_pos hi']
 unfold cin at h;unfold st0;by_cases hl:i < nt
 . rw[List.getElem?_append_left (by simpa using hl),List.getElem?_replicate,if_pos hl] at h;cases h;exact⟨none,[],by rw[List.getElem?_append_left (by simpa using hl),List.getElem?_replicate,if_pos hl],ha,rfl⟩
 . rw[List.getElem?_append_right (by simpa using hl),List.length_replicate,List.getElem?_map] at h;cases hj:js[i - nt]? with
   | none=>rw[hj] at h;cases h
   | some j=>
    rw[hj] at h;have hs:seen (δ.getD j .no)=s:=Option.some.inj h;refine⟨(σ[j]?).join,[],by rw[List.getElem?_append_right (by simpa using hl),List.length_replicate,List.getElem?_map,hj];rfl,ha,?_⟩;cases hd:δ[j]? with
    | none=>
     have:δ.getD j .no= .no:=by rw[List.getD,hd];rfl
     rw[this] at hs;subst hs;rfl
    | some s'=>
     have e:δ.getD j .no=s':=by rw[List.getD,hd];rfl
     rw[e] at hs;cases s' with
     | im d=>
      subst hs;obtain⟨v,h1,r⟩:=E.im hd;exact⟨rfl,v,by rw[h1];rfl,r⟩
     | fn f=>
      subst hs;obtain⟨o2,as2,h1,_,_,h3⟩:=E.sl j _ hd;exact⟨rfl,by rw[h1,h3];rfl⟩
     | _=>subst hs;rfl
section
variable {X : Cx} {N : List Str} {nt : Nat} {js : List Nat} {scope : Scope} {elt tg iter : Expr} {ifs : List Expr} {pos : Pos} {ti : DTI} {g : DTG} {tc : DTT} {te : DTE}
def dComp(nt:Nat)(js:List Nat)(ti:DTI)(g:DTG)(tc:DTT)(te:DTE):DTO:=fun δ Q=>ti δ fun its δ1=>its.length<=sizeLine/\ ∃(p:Dt->Bool) (f:Dt->Dt),(∀d∈its,g d (cin nt js δ1) fun δ2=>tc δ2 fun b δ3=>b=p d/\(b=true->te δ3 fun r _=>r=f d))/\Q ((its.filter p).map f) δ1
theorem comp_read{gh:TG}(hgr: ∀v σ H Q,lG g v σ H Q->gh v σ H Q): ∀σ H Q,lO (dComp nt js ti g tc te) σ H Q->tComp nt js (lI ti) gh (lT tc) (lE te) σ H Q:=fun σ H Q zz1=>(by obtain⟨W,M,α,δ,Qd,E,q,k⟩:=zz1;exact(by
 refine⟨W,M,α,δ,_,E,q,fun its δ1 H1 J zz2 E1 c1 yl D hD=>?_⟩;obtain⟨hsz,p,f,step,q1⟩:=zz2;have s0:Same H1 (upd H1 D (.lst [])):=Same.new hD;refine⟨fun i m acc H2=>m=its.length - i/\i<=its.length/\H2 D=some (.lst acc)/\Reps (fun b=>M b\/b=D) H2 acc (((its.take i).filter p).map f)/\Same H1 H2/\MOk (fun b=>M b\/b=D) H2,⟨its.length,by simp,Nat.zero_le _,upd_same, .nil,s0,fun a ha=>?_⟩,?_⟩
 . rcases ha with ha | ha
   . obtain⟨o,e,n⟩:=E1.al a ha;exact⟨o,s0 _ _ e,n⟩
   . subst ha;exact⟨_,upd_same,fun xs z=>by cases z⟩
 rintro i m acc H2 ⟨rfl,hi,hD2,racc,s2,mo2⟩
 have kf:Kf M H1 H2:=fun b o e _=>s2 _ _ e;by_cases hlt:i < its.length
 . have hb: ∀b,H1 b≠none-> ¬M b-> ¬(fun b=>M b\/b=D) b:=fun b n z y=>y.elim z fun w=>n (by rw[w];exact hD);obtain⟨go,yld⟩:=yl.go i H2 (fun b=>M b\/b=D) kf mo2 hb hlt;have hlen:acc.length < sizeLine:=by
    rw[racc.1,List.length_map];exact Nat.lt_of_le_of_lt (Nat.le_trans (List.length_filter_le _ _) (by rw[List.length_take];omega)) (Nat.lt_of_lt_of_le hlt hsz)
   refine .inr ⟨go,hlen,fun acc' H'=>H' D=some (.lst acc')/\Reps (fun b=>M b\/b=D) H' acc' (((its.take (i+1)).filter p).map f)/\Same H1 H'/\MOk (fun b=>M b\/b=D) H',fun acc' H' zz3=>(by obtain⟨z1,z2,z3,z4⟩:=zz3;exact(⟨its.length - (i+1),by omega,rfl,hlt,z1,z2,z3,z4⟩)),fun x H3 y=>?_⟩;obtain⟨s3,d,hd,rx⟩:=yld x H3 y;have E2:EnvR [] (fun b=>M b\/b=D) (List.replicate (nt+js.length) []) H2 (st0 nt js σ) (cin nt js δ1):=by
    have su:Same (upd H1 D (.lst acc)) H2:=fun b o e=>by
     by_cases hb:b=D
     . subst hb;rw[upd_same] at e;cases e;exact hD2
     . rw[upd_ne hb] at e;exact s2 _ _ e
    have Ea:EnvR [] (fun b=>M b\/b=D) α H2 σ δ1:=⟨E1.ls,E1.la,fun i s h=>let ⟨o,as,h1,h2,h3⟩:=E1.sl i s h;⟨o,as,h1,h2,(h3.grow (u:= .lst acc) hD).same su⟩,E1.nd,fun a h=> .inl (E1.mu a h),mo2,fun W hW=>absurd hW List.not_mem_nil⟩
    exact cin_env Ea
   have E3:=E2.same s3;have hflat:(List.replicate (nt+js.length) ([]:List Addr)).flatten= []:=by simp
   refine hgr _ _ _ _ ⟨[],_,_,_,d,_,E3,rx,step d (List.mem_of_getElem? hd),fun α4 δ4 σ4 q4 E4 hα=>?_⟩;have fl4:α4.flatten= []:=List.eq_nil_iff_forall_not_mem.mpr fun x hx=>by have:=hα x hx;rw[hflat] at this;exact absurd this List.not_mem_nil
   refine⟨[],_,α4,δ4,_,E4,q4,fun b δ5 H5 zz4 E5 c5=>?_⟩;obtain⟨hp,q5⟩:=zz4;have s5:Same H3 H5:=fun b o e=>c5 b o e (by rw[fl4];exact List.not_mem_nil);have s25:Same H2 H5:=fun b o e=>s5 _ _ (s3 _ _ e);have tk:its.take (i+1)=its.take i++ [d]:=by rw[List.take_add_one,hd];rfl
   cases b with
   | false=>
    refine iteF ⟨s25 _ _ hD2,?_,fun b o e=>s25 _ _ (s2 _ _ e),E5.al⟩;rw[tk,List.filter_append,List.map_append];simp [<-hp];exact racc.same s25
   | true=>
    refine iteT ⟨[],_,α4,δ5,_,E5,q5 rfl,fun r δ6 H6 v e6 E6 c6 r6=>?_⟩;subst e6;have s6:Same H5 H6:=fun b o e=>c6 b o e (by rw[fl4];exact List.not_mem_nil);have s26:Same H2 H6:=fun b o e=>s6 _ _ (s25 _ _ e);have hD6:=s26 _ _ hD2;have up: ∀{zs:List V} {ds:List Dt},Reps (fun b=>M b\/b=D) H6 zs ds->Reps (fun b=>M b\/b=D) (upd H6 D (.lst (acc++ [v]))) zs ds:=fun r=>r.mono fun a o e n=>⟨by rw[upd_ne (fun z=>n (.inr z))];exact e,n⟩
    refine⟨hD6,upd_same,?_,fun b o e=>by rw[upd_ne (ne_of_none e hD)];exact s26 _ _ (s2 _ _ e),fun a ha=>?_⟩
    . rw[tk,List.filter_append,List.map_append];have e1:List.filter p [d]= [d]:=by simp [<-hp]
      rw[e1];exact up ((racc.same s26).append (.one r6))
    . by_cases hb:a=D
      . subst hb;exact⟨_,upd_same,fun xs z=>by cases z⟩
      . rw[upd_ne hb];exact E6.al a ha
 . have e:i=its.length:=by omega
   subst e;refine .inl ⟨yl.stop H2 kf,?_⟩;rw[List.take_length] at racc;have eH:upd (fun b=>if b=D then none else H2 b) D (.lst acc)=H2:=by
    funext b
    by_cases hb:b=D
    . subst hb;rw[upd_same,hD2]
    . rw[upd_ne hb,if_neg hb]
   rw[<-eH];have sH:Same H1 (fun b=>if b=D then none else H2 b):=fun b o e=>by
    show(if b=D then none else H2 b)=some o;rw[if_neg (ne_of_none e hD)];exact s2 _ _ e
   refine k _ _ _ _ _ q1 (E1.same sH) (c1.tr (Chg.of sH)) (racc.mono fun a o e n=>⟨?_,fun z=>n (.inl z)⟩) (by show(if D=D then none else H2 D)=none;rw[if_pos rfl]);show(if a=D then none else H2 a)=some o;rw[if_neg (fun z=>n (.inr z))];exact e))
theorem o_comp{gh:TG}(S:CpOk X N nt js scope)(hc:X.calm=true)(hi:Iv X tg iter ti)(hg: ∀s H cl C ex,PG (blk X N scope s H cl C ex) tg gh)(hlow:GLow nt gh)(hgr: ∀v σ H Q,lG g v σ H Q->gh v σ H Q)(hf: ∀s H cl C ex,PF (blk X N scope s H cl C ex) ifs (lT tc))(he: ∀s H cl C ex,Ev (blk X N scope s H cl C ex) elt te)
  (hs:autoParam (∀x,foldedSetIterable iter X.env x=pure x) au4._auto_1):Ov X (.ListComp elt [⟨tg,iter,ifs,0⟩] scope pos) (dComp nt js ti g tc te):=PE.imp (pe_comp S hc hi hg hlow hf he hs) (comp_read hgr)
theorem s_comp(i:Nat){gh:TG}{y:Str}{pos' py:Pos}(hN:X.N.Nodup)(S:CpOk X N nt js scope)(hc:X.calm=true)(hi:Iv X tg iter ti)(hg: ∀s H cl C ex,PG (blk X N scope s H cl C ex) tg gh)(hlow:GLow nt gh)(hgr: ∀v σ H Q,lG g v σ H Q->gh v σ H Q)(hf: ∀s H cl C ex,PF (blk X N scope s H cl C ex) ifs (lT tc))(he: ∀s H cl C ex,Ev (blk X N scope s H cl C ex) elt te)
  (hiN:autoParam (X.N[i]?=some y) au5._auto_1) (hy:autoParam (Loc X.env.scope y) au8._auto_1) (hsw:autoParam (swapsWith (.ListComp elt [⟨tg,iter,ifs,0⟩] scope pos) (some (.Name y py)) pos'.line X.env=pure true) au5._auto_1) (hs:autoParam (∀x,foldedSetIterable iter X.env x=pure x) au4._auto_1)
  (hfn:autoParam (X.fn y=true\/X.env.scope.names.lookup y=some .local) au1._auto_1):
  Ex X (.Assign [.Name y py] (.ListComp elt [⟨tg,iter,ifs,0⟩] scope pos) pos') (dSetO i (dComp nt js ti g tc te)):=PS.imp (ps_comp hN hiN hy S hc hi hg hlow hf he hsw hs hfn) fun D σ H h=>by
 obtain⟨Ws,M,α,δ,Δ,E,L,q⟩:=h;exact comp_read hgr _ _ _ ⟨Ws,M,α,δ,_,E,q,fun ds δ' H1 xs a zz5 E1 c1 r1 h1=>(by obtain⟨ok,q1⟩:=zz5;exact(L.nx _ _ _ _ _ (E1.setNew (s:= .ow ds) h1 (fun xs z=>by cases z) ok rfl ⟨a,xs,rfl,rfl,upd_same,r1.grow h1⟩) q1))⟩
def dTrue:DTT:=fun δ Q=>Q true δ
theorem f_nil:PF X [] (lT dTrue):=fun pins s σ H Q I zz6=>(by obtain⟨W,M,α,δ,Qd,E,q,k⟩:=zz6;exact(pf_nil pins s σ H Q I (k _ _ _ q E Chg.rf)))
theorem f_one{c:Expr}{t:DTT}(h:Tv X c t):PF X [c] (lT t):=pf_one h
theorem glow_pair{nt i j:Nat}{K:PySem.W.Frag}(hi:autoParam (i < nt) au2._auto_1)(hj:autoParam (j < nt) au2._auto_1):GLow nt (gTup K 2 (gCons (gName i) (gCons (gName j) gNil))):=glow_tup (glow_cons hi (gmono_name gmono_nil) (glow_cons hj gmono_nil glow_nil))
end
end LD
end
section
namespace L2
open PySem PySem.Spec PyProof.Rows
section
variable {X : Cx} {pos : Pos}
def tPar3(i j l:Nat)(ta:TA):TS:=fun D σ H=>ta σ H fun vs H1=> ∃u v w,vs= [u,v,w]/\D.nx (((σ.set l (some w)).set j (some v)).set i (some u)) H1
theorem ps_par3{i j l:Nat}{x y z:Str}{a b c:Expr}{ta:TA}{px py pz pt:Pos}{kt k2 pt2}(hc:X.calm=true)(hN:X.N.Nodup)(hi:X.N[i]?=some x)(hj:X.N[j]?=some y)(hl:X.N[l]?=some z)
  (hx:X.env.scope.names.lookup x=some .local) (hy:X.env.scope.names.lookup y=some .local) (hz:X.env.scope.names.lookup z=some .local) (ha:PA X [a,b,c] ta)
  (hw:swappedStores [.Tuple [.Name x px, .Name y py, .Name z pz] kt pt] (.Tuple [a,b,c] k2 pt2) X.env=pure (some [x,y,z]))
  (hs:autoParam (swapsWithSole [.Tuple [.Name x px, .Name y py, .Name z pz] kt pt] (.Tuple [a,b,c] k2 pt2) pos.line X.env=pure false) au5._auto_1):
  PS X (.Assign [.Tuple [.Name x px, .Name y py, .Name z pz] kt pt] (.Tuple [a,b,c] k2 pt2) pos) (tPar3 i j l ta):=by
 intro pins s σ H D I h;rw[exec_Assign_arm];refine wpAny_bind (wpAny_standAt ?_);rw[hs];refine wpAny_bind (wpAny_pure ?_);rw[if_neg (by decide)];refine wpAny_bind (Tuple_ (thn (ha _ pins s σ H _ I h) fun us s1 zz1=>?_));obtain⟨vs,H1,I1,r1,q1⟩:=zz1;obtain⟨v1,v2,v3,e1,q1⟩:=q1;subst e1;obtain⟨u1,u2,u3,rfl,rv1,rv2,rv3⟩: ∃u1 u2 u3,us= [u1,u2,u3]/\RelV v1 u1/\RelV v2 u2/\RelV v3 u3:=by
  cases r1 with
  | cons p q=>cases q with
   | cons p' q'=>cases q' with
    | cons p2 q2=>cases q2;exact⟨_,_,_,rfl,p,p',p2⟩
 refine wpAny_newObj_type ?_ (by show 3<=sizeLine;decide);have I2:Inv X pins σ H1 {s1 with heap:=s1.heap.push {cls:= .type "tuple",data:= .seq [u1,u2,u3].toArray}}:=I1.kept (t':=s1.toks) fun b o e=>Heap.get?_push_of_some _ e;rw[hw];refine wpAny_bind (wpAny_pure ?_);show wpAny (model X.prog X.w) X.A (do rule "assign.swapped-stores";let items<-unpackItems (.ref s1.heap.objs.size) 3 none;assignInOrder [fun v=>bindName X.env z v,fun v=>bindName X.env y v,fun v=>bindName X.env x v] items.reverse;pure Flow.next) _ _ _;refine wpAny_bind (wpAny_rule (wpAny_bind (unpackItems_tuple (items:= #[u1,u2,u3]) (I.ok.hd hc) (IsTup.new s1.heap _) fun h' hx'=>?_)));have I3:=I2.kept (h':=h') (t':=s1.toks) fun b o e=>hx' b o (Nat.ne_of_lt (Heap.lt_size e)) e;show wpAny _ _ (assignInOrder [fun v=>bindName X.env z v,fun v=>bindName X.env y v,fun v=>bindName X.env x v] [u3,u2,u1] >>=fun _=>pure Flow.next) _ _ _;refine wpAny_bind (assignInOrder_cons (wpAny_bindName (store_ok I3 hN hl (.inl hz) rv3 (fun s2 I4=>?_) (.inr hz))));refine assignInOrder_cons (wpAny_bindName (store_ok I4 hN hj (.inl hy) rv2 (fun s3 I5=>?_) (.inr hy)));exact assignInOrder_cons (wpAny_bindName (store_ok I5 hN hi (.inl hx) rv1 (fun s4 I6=>assignInOrder_nil (wpAny_pure ⟨_,H1,I6,q1⟩)) (.inr hx)))
end
end L2
end
section
namespace LD
open PySem PySem.Spec L2 LB PyProof.Rows
structure Held(Ws:List Wd)(M:Addr->Prop)(α:List (List Addr))(a:Addr):Prop where
 m:M a
 n:a∉α.flatten
 w: ∀W∈Ws,(W.A0 a\/W.H0 a=none)/\ ¬W.M0 a
def HeR(M:Addr->Prop)(H:Hp)(v:V)(s:Sl)(as:List Addr):Prop:=s.isBx=false/\SlR M H (some v) s as
inductive HeRs(Ws:List Wd)(M:Addr->Prop)(α:List (List Addr))(H:Hp):List V->List Sl->List Addr->Prop where
 | nil:HeRs Ws M α H [] [] []
 | cons {v:V} {s:Sl} {as bs:List Addr} {vs:List V} {ss:List Sl}:HeR M H v s as->(∀a∈as,Held Ws M α a)->as.Nodup->(∀a∈as,a∉bs)->HeRs Ws M α H vs ss bs->HeRs Ws M α H (v::vs) (s::ss) (as++bs)
abbrev DTH:=List Sl->(List Sl->List Sl->Prop)->Prop
inductive lH(t:DTH)(σ:L2.St)(H:Hp)(Q:List V->Hp->Prop):Prop
 | mk (W:List Wd) (M:Addr->Prop) (α:List (List Addr)) (δ:List Sl) (Qd:List Sl->List Sl->Prop) (h1:EnvR W M α H σ δ) (h2:t δ Qd) (h3: ∀ss δ' H' vs M' bs,Qd ss δ'->EnvR W M' α H' σ δ'->Chg α H H'->(∀a,M a->M' a)->(∀a,M' a->M a\/H a=none)->HeRs W M' α H' vs ss bs->(∀a∈bs,¬M a)->Q vs H')
abbrev Hv(X:Cx)(es:List Expr)(t:DTH):Prop:=PA X es (lH t)
theorem SlR.keep{M M':Addr->Prop}{H H':Hp}{o:Option V}{s:Sl}{as:List Addr}(h:SlR M H o s as)(k: ∀b u,H b=some u-> ¬M b->H' b=some u/\ ¬M' b)(k2: ∀a∈as,∀u,H a=some u->H' a=some u)(nb:s.isBx=false):SlR M' H' o s as:=by
 cases s with
 | no=>exact h
 | im d=>exact⟨h.1,let ⟨v,e,r⟩:=h.2;⟨v,e,r.mono k⟩⟩
 | ow ds=>obtain⟨a,xs,e1,e2,e3,r⟩:=h;subst e1;exact⟨a,xs,rfl,e2,k2 a (by simp) _ e3,r.mono k⟩
 | bx t=>cases nb
 | dk ks ds=>obtain⟨a,vs,e1,e2,e3,e4,r⟩:=h;subst e1;exact⟨a,vs,rfl,e2,k2 a (by simp) _ e3,e4,r.mono k⟩
 | ob R=>obtain⟨v,e,r⟩:=h;exact⟨v,e,R.st r (fun a ha u q=>k2 a ha _ q) k⟩
 | fn f=>exact h
section
variable {X : Cx} {e : Expr} {es : List Expr} {t : DTE} {th : DTH}
def hNil:DTH:=fun δ Q=>Q [] δ
def hIm(t:DTE)(th:DTH):DTH:=fun δ Q=>t δ fun d δ1=>th δ1 fun ss δ2=>Q (.im d::ss) δ2
def hOw(t:DTO)(th:DTH):DTH:=fun δ Q=>t δ fun ds δ1=>th δ1 fun ss δ2=>Q (.ow ds::ss) δ2
theorem h_nil:Hv X [] hNil:=PA.imp pa_nil fun σ H Q zz1=>(by obtain⟨W,M,α,δ,Qd,E,q,k⟩:=zz1;exact(k _ _ _ _ _ _ q E Chg.rf (fun _ z=>z) (fun _ z=> .inl z) .nil (fun a ha=>absurd ha List.not_mem_nil)))
theorem h_im(ha:Ev X e t)(hr:Hv X es th)(hs:autoParam (starEach (e::es) X.env=(false,eval e X.env)::starEach es X.env) au5._auto_1):Hv X (e::es) (hIm t th):=PA.imp (pa_cons ha hr hs) fun σ H Q zz2=>(by obtain⟨W,M,α,δ,Qd,E,q,k⟩:=zz2;exact(
 ⟨W,M,α,δ,_,E,q,fun d δ1 H1 x q1 E1 c1 r1=>⟨W,M,α,δ1,_,E1,q1,fun ss δ2 H2 vs M' bs q2 E2 c2 m1 m2 hh hb=>
  k _ _ _ _ _ _ q2 E2 (c1.tr c2) m1 (fun a z=>(m2 a z).elim .inl fun y=>by
   cases e:H a with
   | none=>exact .inr rfl
   | some o => by_cases hf : a ∈ α.flatten
               . exact .inl (E.mu a hf)
               . rw[c1 _ _ e hf] at y;cases y)
   (HeRs.cons (as:= []) ⟨rfl,rfl,x,rfl,r1.mono fun a o e n=>⟨c2 _ _ e fun z=>n (E1.mu a z),fun z=>(m2 a z).elim n fun y=>by rw[e] at y;cases y⟩⟩ (fun a ha=>absurd ha List.not_mem_nil) List.nodup_nil (fun a ha=>absurd ha List.not_mem_nil) hh) hb⟩⟩))
theorem EnvR.hold{W:List Wd}{M:Addr->Prop}{α:List (List Addr)}{H:Hp}{σ:L2.St}{δ:List Sl}(E:EnvR W M α H σ δ){p:Addr}{u:HO}(hp:H p=none)(hu: ∀xs,u≠ .tup xs):EnvR W (fun b=>M b\/b=p) α (upd H p u) σ δ/\Held W (fun b=>M b\/b=p) α p:=by
 have sm:Same H (upd H p u):=Same.new hp;have np:p∉α.flatten:=fun z=>E.fresh hp (E.mu p z);have h0: ∀W'∈W,W'.H0 p=none:=fun W' hW=>by
  cases e:W'.H0 p with
  | none=>rfl
  | some o=>exact absurd hp ((E.w W' hW).ex p (by rw[e];intro z;cases z))
 refine⟨⟨E.ls,E.la,fun j s hj=>let ⟨o,as,h1,h2,h3⟩:=E.sl j s hj;⟨o,as,h1,h2,h3.grow hp⟩,E.nd,fun a h=> .inl (E.mu a h),fun a ha=>?_,fun W' hW=>?_⟩,⟨.inr rfl,np,fun W' hW=>⟨.inr (h0 W' hW),fun z=>E.fresh hp ((E.w W' hW).m0 p z)⟩⟩⟩
 . rcases ha with ha | ha
   . obtain⟨o,e,n⟩:=E.al a ha;exact⟨o,sm _ _ e,n⟩
   . subst ha;exact⟨u,upd_same,hu⟩
 . have k:=E.w W' hW;exact⟨fun b o e n=>sm _ _ (k.bs b o e n),fun b n y=>k.ex b n (LW.Same.none sm y),k.fr,fun a h=> .inl (k.m0 a h),fun a h=>h.elim (k.m1 a) fun z=> .inr (by rw[z];exact h0 W' hW),k.bx,k.fz⟩
theorem held_cons{W:List Wd}{M:Addr->Prop}{α:List (List Addr)}{H1 H2:Hp}{σ:L2.St}{δ1 δ2:List Sl}{p:Addr}{u:HO}{s:Sl}{vs:List V}{ss:List Sl}{M':Addr->Prop}{bs:List Addr}
  (hp:H1 p=none) (E1:EnvR W M α H1 σ δ1) (hd:Held W (fun b=>M b\/b=p) α p) (hs:SlR (fun b=>M b\/b=p) (upd H1 p u) (some (.ref p)) s [p]) (nb:s.isBx=false) (E2:EnvR W M' α H2 σ δ2) (c2:Chg α (upd H1 p u) H2)
  (m1: ∀a,(M a\/a=p)->M' a) (m2: ∀a,M' a->(M a\/a=p)\/(upd H1 p u) a=none) (hh:HeRs W M' α H2 vs ss bs) (hb: ∀a∈bs,¬(M a\/a=p)):HeRs W M' α H2 (.ref p::vs) (s::ss) ([p]++bs):=
 HeRs.cons ⟨nb,hs.keep (fun b w e n=>⟨c2 _ _ e fun z=>n (.inl (E1.mu b z)),fun z=>(m2 b z).elim n fun y=>by rw[e] at y;cases y⟩) (fun a ha w e=>c2 _ _ e (by rw[List.mem_singleton.mp ha];exact hd.n)) nb⟩
  (fun a ha=>by rw[List.mem_singleton.mp ha];exact⟨m1 p (.inr rfl),hd.n,hd.w⟩) (by simp) (fun a ha=>by rw[List.mem_singleton.mp ha];exact fun z=>hb p z (.inr rfl)) hh
theorem m2_of{α:List (List Addr)}{M M':Addr->Prop}{H H1:Hp}{p:Addr}{u:HO}{a:Addr}(mu: ∀a∈α.flatten,M a)(c1:Chg α H H1)(h1:H1 p=none)(m2:M' a->(M a\/a=p)\/(upd H1 p u) a=none)(z:M' a):M a\/H a=none:=by
 cases e:H a with
 | none=>exact .inr rfl
 | some o=>
  by_cases hf:a∈α.flatten
  . exact .inl (mu a hf)
  . have e1:=c1 _ _ e hf;rcases m2 z with (y | y) | y
    . exact .inl y
    . subst y;rw[h1] at e1;cases e1
    . rw[upd_ne (ne_of_none e1 h1),e1] at y;cases y
theorem h_ow{t:DTO}(ha:Ov X e t)(hr:Hv X es th)(hs:autoParam (starEach (e::es) X.env=(false,eval e X.env)::starEach es X.env) au5._auto_1):Hv X (e::es) (hOw t th):=PA.imp (pa_cons ha hr hs) fun σ H Q zz1=>(by obtain⟨W,M,α,δ,Qd,E,q,k⟩:=zz1;exact(
 ⟨W,M,α,δ,_,E,q,fun ds δ1 H1 xs p q1 E1 c1 r1 h1=>by
  have sm:Same H1 (upd H1 p (.lst xs)):=Same.new h1;obtain⟨E1',hd⟩:=E1.hold (u:= .lst xs) h1 (fun xs z=>by cases z);refine⟨W,_,α,δ1,_,E1',q1,fun ss δ2 H2 vs M' bs q2 E2 c2 m1 m2 hh hb=>?_⟩;exact k _ _ _ _ _ _ q2 E2 ((c1.tr (Chg.of sm)).tr c2) (fun a z=>m1 a (.inl z)) (fun a z=>m2_of E.mu c1 h1 (m2 a) z) (held_cons (s:= .ow ds) h1 E1 hd ⟨p,xs,rfl,rfl,upd_same,r1.grow h1⟩ rfl E2 c2 m1 m2 hh hb)
   (fun a ha=>by
    rcases List.mem_append.mp ha with y | y
    . rw[List.mem_singleton.mp y];exact E1.fresh h1
    . exact fun z=>hb a y (.inl z))⟩))
end
theorem EnvR.setHe{Ws:List Wd}{M:Addr->Prop}{α:List (List Addr)}{H:Hp}{σ:L2.St}{δ:List Sl}{i:Nat}{v:V}{s:Sl}{as:List Addr}(E:EnvR Ws M α H σ δ)(h:HeR M H v s as)(hh: ∀a∈as,Held Ws M α a)(nd:as.Nodup)(ok:okSet δ i):EnvR Ws M (α.set i as) H (σ.set i (some v)) (δ.set i s):=by
 have hi:=ok.lt;obtain⟨s0,hs0,nb⟩:=ok;refine⟨by rw[List.length_set,List.length_set,E.ls],by rw[List.length_set,List.length_set,E.la],fun j s' hj=>?_,flat_nd_set E.nd nd (fun x hx=>(hh x hx).n),fun a ha=>(flat_set ha).elim (E.mu a) fun z=>(hh a z).m,E.al,fun W hW=>?_⟩
 . by_cases hij:i=j
   . subst hij;rw[List.getElem?_set_self hi] at hj;cases hj;exact⟨some v,as,by rw[List.getElem?_set_self (by rw[E.ls];exact hi)],by rw[List.getElem?_set_self (by rw[E.la];exact hi)],h.2⟩
   . rw[List.getElem?_set_ne hij] at hj;obtain⟨o,as,h1,h2,h3⟩:=E.sl j s' hj;exact⟨o,as,by rw[List.getElem?_set_ne hij];exact h1,by rw[List.getElem?_set_ne hij];exact h2,h3⟩
 . have k:=E.w W hW;refine⟨k.bs,k.ex,fun a ha=>(flat_set ha).elim (k.fr a) fun z=>((hh a z).w W hW).1,k.m0,k.m1,fun d c e=>?_,fun j s as' h1 h2 nb'=>?_⟩
   . obtain⟨t,e1,e2⟩:=k.bx d c e;have:i≠0:=fun z=>by subst z;rw[hs0] at e1;cases e1;cases nb
     exact⟨t,by rw[List.getElem?_set_ne this];exact e1,by rw[List.getElem?_set_ne this];exact e2⟩
   . by_cases hij:i=j
     . subst hij;rw[List.getElem?_set_self (by rw[E.la];exact hi)] at h2;cases h2;exact fun a ha=>((hh a ha).w W hW).2
     . rw[List.getElem?_set_ne hij] at h1 h2;exact k.fz j s as' h1 h2 nb'
theorem Held.set{Ws:List Wd}{M:Addr->Prop}{α:List (List Addr)}{a:Addr}{i:Nat}{as:List Addr}(h:Held Ws M α a)(n:a∉as):Held Ws M (α.set i as) a:=⟨h.m,fun z=>(flat_set z).elim h.n n,h.w⟩
section
variable {X : Cx} {a b c : Expr} {pos : Pos} {th : DTH}
inductive dPar2_i(i:Nat)(j:Nat)(Δ:DEnds)(ss:List Sl)(δ':List Sl):Prop
 | mk (s1 s2:_) (h1:ss= [s1,s2]) (h2:okSet δ' i) (h3:okSet (δ'.set i s1) j) (h4:Δ.nx ((δ'.set i s1).set j s2))
def dPar2(i j:Nat)(th:DTH):DTS:=fun Δ δ=>th δ fun ss δ'=>dPar2_i i j Δ ss δ'
theorem s_par2(i j:Nat){x y:Str}{px py pt:Pos}{kt k2 pt2}(hc:X.calm=true)(hN:X.N.Nodup)(ha:Hv X [a,b] th)(hi:autoParam (X.N[i]?=some x) au5._auto_1)(hj:autoParam (X.N[j]?=some y) au5._auto_1)(hij:autoParam (i≠j) au2._auto_1)
  (hx:autoParam (X.env.scope.names.lookup x=some .local) au5._auto_1) (hy:autoParam (X.env.scope.names.lookup y=some .local) au5._auto_1)
  (hw:autoParam (swappedStores [.Tuple [.Name x px, .Name y py] kt pt] (.Tuple [a,b] k2 pt2) X.env=pure (some [x,y])) au5._auto_1)
  (hs:autoParam (swapsWithSole [.Tuple [.Name x px, .Name y py] kt pt] (.Tuple [a,b] k2 pt2) pos.line X.env=pure false) au5._auto_1):
  Ex X (.Assign [.Tuple [.Name x px, .Name y py] kt pt] (.Tuple [a,b] k2 pt2) pos) (dPar2 i j th):=PS.imp (ps_par hc hN hi hj hij hx hy ha hw hs) fun D σ H zz5=>(by obtain⟨Ws,M,α,δ,Δ,E,L,q⟩:=zz5;exact(
 ⟨Ws,M,α,δ,_,E,q,fun ss δ' H' vs M' bs zz6 E1 c1 m1 m2 hh hb=>(by obtain⟨s1,s2,e,ok1,ok2,q1⟩:=zz6;exact(by
  subst e;cases hh with
  | cons h1 h2 h3 h4 h5=>
   cases h5 with
   | cons g1 g2 g3 g4 g5=>
    cases g5;rename_i v1 as1 v2 as2;have Ea:=E1.setHe h1 h2 h3 ok1;have Eb:=Ea.setHe (i:=j) g1 (fun a ha=>(g2 a ha).set fun z=>h4 a z (by simpa using ha)) g3 ok2;exact⟨_,_,rfl,L.nx _ _ _ _ _ Eb q1⟩))⟩))
inductive dPar3_i(i:Nat)(j:Nat)(l:Nat)(Δ:DEnds)(ss:List Sl)(δ':List Sl):Prop
 | mk (s1 s2 s3:_) (h1:ss= [s1,s2,s3]) (h2:okSet δ' l) (h3:okSet (δ'.set l s3) j) (h4:okSet ((δ'.set l s3).set j s2) i) (h5:Δ.nx (((δ'.set l s3).set j s2).set i s1))
def dPar3(i j l:Nat)(th:DTH):DTS:=fun Δ δ=>th δ fun ss δ'=>dPar3_i i j l Δ ss δ'
theorem s_par3(i j l:Nat){x y z:Str}{px py pz pt:Pos}{kt k2 pt2}(hc:X.calm=true)(hN:X.N.Nodup)(ha:Hv X [a,b,c] th)(hi:autoParam (X.N[i]?=some x) au5._auto_1)(hj:autoParam (X.N[j]?=some y) au5._auto_1)(hl:autoParam (X.N[l]?=some z) au5._auto_1)
  (hx:autoParam (X.env.scope.names.lookup x=some .local) au5._auto_1) (hy:autoParam (X.env.scope.names.lookup y=some .local) au5._auto_1) (hz:autoParam (X.env.scope.names.lookup z=some .local) au5._auto_1)
  (hw:autoParam (swappedStores [.Tuple [.Name x px, .Name y py, .Name z pz] kt pt] (.Tuple [a,b,c] k2 pt2) X.env=pure (some [x,y,z])) au5._auto_1)
  (hs:autoParam (swapsWithSole [.Tuple [.Name x px, .Name y py, .Name z pz] kt pt] (.Tuple [a,b,c] k2 pt2) pos.line X.env=pure false) au5._auto_1):
  Ex X (.Assign [.Tuple [.Name x px, .Name y py, .Name z pz] kt pt] (.Tuple [a,b,c] k2 pt2) pos) (dPar3 i j l th):=PS.imp (ps_par3 hc hN hi hj hl hx hy hz ha hw hs) fun D σ H zz7=>(by obtain⟨Ws,M,α,δ,Δ,E,L,q⟩:=zz7;exact(
 ⟨Ws,M,α,δ,_,E,q,fun ss δ' H' vs M' bs zz8 E1 c1 m1 m2 hh hb=>(by obtain⟨s1,s2,s3,e,ok1,ok2,ok3,q1⟩:=zz8;exact(by
  subst e;cases hh with
  | cons h1 h2 h3 h4 h5=>
   cases h5 with
   | cons g1 g2 g3 g4 g5=>
    cases g5 with
    | cons f1 f2 f3 f4 f5=>
     cases f5;have Ea:=E1.setHe (i:=l) f1 f2 f3 ok1;have Eb:=Ea.setHe (i:=j) g1 (fun a ha=>(g2 a ha).set fun z=>g4 a ha (by simpa using z)) g3 ok2;have Ec:=Eb.setHe (i:=i) h1 (fun a ha=>((h2 a ha).set fun z=>h4 a ha (by simp [z])).set fun z=>h4 a ha (by simp [z])) h3 ok3;exact⟨_,_,_,rfl,L.nx _ _ _ _ _ Ec q1⟩))⟩))
end
end LD
end
section
namespace LD
open PySem PySem.Spec L2 LB PyProof.Rows
noncomputable def keyD:Dt->Option Key
 | .int i=>some (.inl i)
 | .str x=>some (.inr x)
 | _=>none
theorem key_rep{M:Addr->Prop}{H:Hp}{v:V}{d:Dt}{k:Key}(r:Rep M H v d)(h:keyD d=some k):v=kV k:=by
 cases r <;> first | (cases h;rfl) | cases h
instance {k:Key} {ks:List Key}:Decidable (k∈ks):=decidable_of_iff ((ks.any fun x=>decide (x=k))=true) (by simp)
end LD
end
section
namespace LD
open PySem PySem.Spec L2 LB PyProof.Rows
section
variable {X : Cx} {N : List Str} {nt : Nat} {js : List Nat} {scope : Scope} {elt tg iter e f a b : Expr} {ifs : List Expr} {pos : Pos} {ti : DTI} {g : DTG} {tc : DTT} {te t tv tb : DTE} {ib jb : Nat} {gh : TG}
def dAsg(t:DTE)(g:DTG):DTS:=fun Δ δ=>t δ fun d δ'=>g d δ' Δ.nx
theorem s_asg(he:Ev X e t)(hg:Gv X tg g)(hs:autoParam (swapsWithSole [tg] e pos.line X.env=pure false) au5._auto_1)(hw:autoParam (swappedStores [tg] e X.env=pure none) au5._auto_1)(h1:autoParam ((assignEach [tg] X.env).map (·.2)= [assign tg X.env]) au5._auto_1):Ex X (.Assign [tg] e pos) (dAsg t g):=
 PS.imp (ps_asg he hg hs hw h1) fun D σ H zz2=>(by obtain⟨Ws,M,α,δ,Δ,E,L,q⟩:=zz2;exact(⟨Ws,M,α,δ,_,E,q,fun d δ' H' v q1 E1 c1 r1=>⟨Ws,M,α,δ',d,_,E1,r1,q1,fun α' δ2 σ2 q2 E2 _=>L.nx _ _ _ _ _ E2 q2⟩⟩))
end
def spLaw(K:PySem.W.Frag):Sp:=fun vs H Q _=> ∃(a:Addr) (ns:List Int),vs= [.ref a]/\SqL K H a (ns.map V.int)/\ns.length<=63/\ ∀H',Q (.bl true) H'
def takeS:DB:=fun t ds Q=> ∃m,ds= [.int m]/\t < 1000000/\0 < m/\m < 2^64/\ ∀r,0<=r->r < m->Q (.int r) (t+1)
theorem take_of{vs:List V}{H:Hp}{Q:VK}{E:XK}(h:spB takeS vs H Q E):spTake vs H Q E:=by
 obtain⟨M,d,c,t,ws,ds,Qd,rfl,al,md,mc,B,r,⟨m,rfl,t1,m0,m1,q⟩,k⟩:=h;obtain⟨x,ys,rfl,r1,r2⟩:=r.uncons;cases r2.unnil;cases r1.ofInt;exact⟨d,c,t,m,rfl,B,t1,m0,m1,fun r H' r0 r1 B' kp=>k _ _ _ _ (q r r0 r1) kp B' (.int r)⟩
section
variable {P : Program} {w : World} {K : PySem.W.Frag} {mg : Str -> Option Value} {base : Heap}
theorem lawOk{st:Stmt}{f:Addr}{fd:FuncData}{N:List Str}{k:Nat}(F:Fun K "law" "law" st f fd)(sc:FnScope N ["_law_script"] (defScope st))(hN:2<=N.length)
  (hbody: ∀(cdv:Value) (A:Around) (outer:List Env) (s:Shared) (H:Hp) (E:XK),Room k (A.deeper (envOfC "law" (defScope st) s.heap.objs.size f cdv))->
   ∃s1 rest T,defBody st=s1::rest/\PS (cxOf CX0 P w K mg base N "law" (defScope st) f cdv A outer s H E).nox s1 (tAsg (tCall (spBegin K) [] E0 (tCons (tVar 0) tNil)) (gName 1))/\Exs (cxOf CX0 P w K mg base N "law" (defScope st) f cdv A outer s H E).nox rest T/\
    T {nx:=fun _=>False,rt:=fun d _=>d= .bl true} (.no:: .bx 0::List.replicate (N.length - 2) .no)):FnOk P w K mg base CX0 (k+1) f fd ["_law_script"] (spLaw K):=by
 refine F.ok sc (fun vs H Q E h=>?_) (fun cdv A outer s H vs Q E hr h=>?_)
 . obtain⟨a,ns,rfl,_⟩:=h;rfl
 . obtain⟨a,ns,rfl,hS,hlen,q⟩:=h;obtain⟨s1,rest,T,e,h1,h2,hT⟩:=hbody cdv A outer s H E hr;rw[e];refine⟨_,pss_cons h1 h2,?_⟩;have es:L2.start N [V.ref a]=some (.ref a)::none::List.replicate (N.length - 2) none:=by
    unfold L2.start;rw[show N.length - [V.ref a].length=(N.length - 2)+1 by show N.length - 1=_;omega,List.replicate_succ];rfl
   rw[es];refine⟨_,rfl,a,ns,rfl,hS,hlen,fun d c H1 B1 s1'=>?_⟩;have hflat:(([]:List Addr):: [d,c]::List.replicate (N.length - 2) []).flatten= [d,c]:=by simp
   refine⟨[],fun b=>b=d\/b=c,[]:: [d,c]::List.replicate (N.length - 2) [], .no:: .bx 0::List.replicate (N.length - 2) .no,_,?_,?_,hT⟩
   . refine⟨by simp,by simp,fun i s' hi=>?_,by rw[hflat];simp [B1.ne],fun b hb=>by rw[hflat] at hb;simpa using hb,fun b hb=>?_,fun W hW=>absurd hW List.not_mem_nil⟩
     . match i with
       | 0=>cases hi;exact⟨_,_,rfl,rfl,rfl⟩
       | 1=>cases hi;exact⟨_,_,rfl,rfl,d,c,rfl,rfl,B1⟩
       | i+2=>
        have hi':(List.replicate (N.length - 2) Sl.no)[i]?=some s':=by simpa using hi
        rw[List.getElem?_replicate] at hi';split at hi'
        . rename_i hlt;cases hi';refine⟨none,[],?_,?_,rfl⟩
          . show(List.replicate (N.length - 2) (none:Option V))[i]?=_;rw[List.getElem?_replicate,if_pos hlt]
          . show(List.replicate (N.length - 2) ([]:List Addr))[i]?=_;rw[List.getElem?_replicate,if_pos hlt]
        . cases hi'
     . rcases hb with rfl | rfl
       . exact⟨_,B1.dc,fun xs z=>by cases z⟩
       . obtain⟨ns,h,_⟩:=B1.cs;exact⟨_,h,fun xs z=>by cases z⟩
   . exact⟨fun _ _ _ _ _ _ z=>z.elim,fun M' α' H' σ' δ' v dd E' r' z=>by subst z;rw[r'.ofBl];exact q H',fun _ _ _ _ _ _ z=>z.elim,fun _ _ _ _ _ _ z=>z.elim⟩
end
end LD
end
section
namespace LD
open PySem PySem.Spec L2 LB PyProof.Rows
section
variable {X : Cx} {a b c e : Expr} {es : List Expr} {ta tb tc t : DTE} {tA : DTA} {pos p : Pos}
theorem ints_rep{M:Addr->Prop}{H:Hp}: ∀{xs:List V} {ns:List Int},Reps M H xs (ns.map .int)->xs=ns.map V.int
 | [],[],_=>rfl
 | [],_::_,h=>by have:=h.1;simp at this
 | _::_,[],h=>by have:=h.1;simp at this
 | x::xs,n::ns,h=>by
  rw[List.map_cons] at h;obtain⟨y,ys,e,r1,r2⟩:=h.uncons;cases e;rw[r1.ofInt,ints_rep r2,List.map_cons]
theorem rep_ints{M:Addr->Prop}{H:Hp}: ∀{ns:List Int},Reps M H (ns.map V.int) (ns.map .int)
 | []=> .nil
 | n::ns=> .cons (.int n) rep_ints
theorem boot_sorted':bootBuiltins "sorted"=some (.builtin "sorted"):=by decide+kernel
theorem boot_max':bootBuiltins "max"=some (.builtin "max"):=by decide+kernel
theorem boot_min':bootBuiltins "min"=some (.builtin "min"):=by decide+kernel
theorem boot_all':bootBuiltins "all"=some (.builtin "all"):=by decide+kernel
theorem one_arg{M:Addr->Prop}{H:Hp}{xs:List V}{d:Dt}(h:Reps M H xs [d]): ∃x,xs= [x]/\Rep M H x d:=by
 obtain⟨x,ys,rfl,r1,r2⟩:=h.uncons;cases r2.unnil;exact⟨x,rfl,r1⟩
theorem bools_rep{M:Addr->Prop}{H:Hp}: ∀{xs:List V} {ns:List Bool},Reps M H xs (ns.map .bl)->xs=ns.map V.bl
 | [],[],_=>rfl
 | [],_::_,h=>by have:=h.1;simp at this
 | _::_,[],h=>by have:=h.1;simp at this
 | x::xs,n::ns,h=>by
  rw[List.map_cons] at h;obtain⟨y,ys,e,r1,r2⟩:=h.uncons;cases e;rw[r1.ofBl,bools_rep r2,List.map_cons]
inductive D_all(ds:List Dt)(Q:Dt->Prop):Prop
 | mk (bs:List Bool) (h1:ds= [.lst (bs.map .bl)]) (h2:Q (.bl (bs.all id)))
theorem d_all(hc:X.calm=true)(hm:X.mg "all"=none)(ha:Av X [e] tA)(hg:autoParam (Gl X "all") au5._auto_1)(he:autoParam (starEach [e] X.env=(false,eval e X.env)::starEach [] X.env) au5._auto_1)(hpl:autoParam ((backTo pos (starEach [] X.env)).any (·.1)=false) au5._auto_1):
  Ev X (.Call (.Name "all" p) [e] [] pos) (dCa D_all tA):=d_callB (call_all hc) (fun M H xs ds Qd Q al r zz6 k=>(by obtain⟨bs,e,q⟩:=zz6;exact(by
 subst e;obtain⟨x,rfl,r1⟩:=one_arg r;obtain⟨a,zs,rfl,ha,n,rr⟩:=r1.ofLst;rw[bools_rep rr] at ha;exact⟨a,bs,rfl,SqL.of ha,k H _ _ q (fun _ _ z=>z) (.bl _)⟩))) hg hm boot_all' ha (by decide) (by decide) he hpl
def dMt(R:Dt->List Dt->(Dt->Prop)->Prop)(ta:DTE)(tA:DTA):DTE:=fun δ Q=>ta δ fun d δ1=>(∃ds,d= .tup ds)/\tA δ1 fun es δ2=>R d es fun r=>Q r δ2
inductive D_count(d:Dt)(es:List Dt)(Q:Dt->Prop):Prop
 | mk (ds x:_) (h1:d= .tup ds) (h2:es= [x]) (h3:flatD x=true) (h4:ds.all flatD=true) (h5:Q (.int (ds.countP fun z=>eqD z x:Nat)))
inductive D_index(d:Dt)(es:List Dt)(Q:Dt->Prop):Prop
 | mk (ds:List Dt) (x:Dt) (j:Nat) (z:Dt) (h1:d= .tup ds) (h2:es= [x]) (h3:flatD x=true) (h4:ds.all flatD=true) (h5:ds[j]?=some z) (h6:eqD z x=true) (h7:(∀m u,m < j->ds[m]?=some u->eqD u x=false)) (h8:Q (.int (j:Nat)))
theorem count_rep{M:Addr->Prop}{H:Hp}{y:V}{x:Dt}(ry:Rep M H y x)(fx:flatD x=true): ∀{xs:List V} {ds:List Dt},Reps M H xs ds->ds.all flatD=true->xs.countP (fun z=>eqV z y)=ds.countP fun z=>eqD z x
 | [],[],_,_=>rfl
 | [],_::_,h,_=>by have:=h.1;simp at this
 | _::_,[],h,_=>by have:=h.1;simp at this
 | v::xs,d::ds,h,hf=>by
  obtain⟨w,ws,e,r1,r2⟩:=h.uncons;cases e;rw[List.all_cons,Bool.and_eq_true] at hf;rw[List.countP_cons,List.countP_cons,count_rep ry fx r2 hf.2,eqV_rep r1 ry hf.1 fx]
end
end LD
end
section
namespace LD
open PySem PySem.Spec L2 LB PyProof.Rows
section
variable {X : Cx} {a b c e : Expr} {es : List Expr} {ta tb tc t : DTE} {tA : DTA} {pos p apos cpos : Pos}
theorem mt_read{r:V->List V->Hp->VK->Prop}{R:Dt->List Dt->(Dt->Prop)->Prop}{K:PySem.W.Frag}(hd: ∀(M:Addr->Prop) (H:Hp) (x:V) (xs:List V) (d:Dt) (ds:List Dt) (Qd:Dt->Prop) (Q:VK),MOk M H->Rep M H x d->Reps M H xs ds->R d ds Qd->(∀H' v d,Qd d->Same H H'->Rep M H' v d->Q v H')->r x xs H Q):
  ∀σ H Q,lE (dMt R ta tA) σ H Q->tBM K "tuple" r (lE ta) (lA tA) σ H Q:=fun σ H Q zz1=>(by obtain⟨W,M,α,δ,Qd,E,q,k⟩:=zz1;exact(
 ⟨W,M,α,δ,_,E,q,fun d δ1 H1 x zz2 E1 c1 r1=>(by obtain⟨⟨ds,e⟩,q1⟩:=zz2;exact(by
  subst e;obtain⟨a,xs,rfl,ha,n,rr⟩:=r1.ofTup;refine⟨.inr (.inr (.inr (.inr ⟨rfl,xs,ha⟩))),W,M,α,δ1,_,E1,q1,fun es δ2 H2 ys q2 E2 c2 r2=>?_⟩;exact hd M H2 _ ys _ es _ _ E2.al (r1.chg E1 c2) r2 q2 fun H3 v d q3 s r3=>k _ _ _ _ q3 (E2.same s) ((c1.tr c2).tr (Chg.of s)) r3))⟩))
theorem d_count(ha:Ev X a ta)(hA:Av X [e] tA)
  (hbase:autoParam (attributeBase a "count" X.env (eval a X.env)=eval a X.env) au5._auto_1)
  (hfew:autoParam (((backTo cpos (starEach [e] X.env)).all (fun x=>!x.1) && (backToKw cpos (keywordEach [] X.env)).all (fun x=>x.1.isSome) && decide ([e].length+([]:List Keyword).length+(if ([]:List Keyword).isEmpty then 0 else 1) < 30))=true) au5._auto_1)
  (hline:autoParam ((apos.endLine==cpos.line)=true) au5._auto_1) (hs:autoParam (starEach [e] X.env=(false,eval e X.env)::starEach [] X.env) au5._auto_1) (hplain:autoParam ((backTo cpos (starEach [] X.env)).any (·.1)=false) au5._auto_1):
  Ev X (.Call (.Attribute a "count" apos) [e] [] cpos) (dMt D_count ta tA):=
 PE.imp (pe_bm PySem.F.plainAttrs_tuple PySem.F.slot_tuple_count PySem.F.type_tuple_count mt_countT ha hA hbase hfew hline hs hplain) (mt_read fun M H x xs d ds Qd Q al r1 r2 zz3 k=>(by obtain⟨es,y,e1,e2,f1,f2,q⟩:=zz3;exact(by
  subst e1;subst e2;obtain⟨a,zs,rfl,ha,n,rr⟩:=r1.ofTup;obtain⟨v,rfl,rv⟩:=one_arg r2;exact⟨a,zs,v,rfl,rfl,ha,flat_rep rv f1,flats_rep rr f2,by rw[count_rep rv f1 rr f2];exact k H _ _ q (fun _ _ z=>z) (.int _)⟩)))
theorem d_index(ha:Ev X a ta)(hA:Av X [e] tA)
  (hbase:autoParam (attributeBase a "index" X.env (eval a X.env)=eval a X.env) au5._auto_1)
  (hfew:autoParam (((backTo cpos (starEach [e] X.env)).all (fun x=>!x.1) && (backToKw cpos (keywordEach [] X.env)).all (fun x=>x.1.isSome) && decide ([e].length+([]:List Keyword).length+(if ([]:List Keyword).isEmpty then 0 else 1) < 30))=true) au5._auto_1)
  (hline:autoParam ((apos.endLine==cpos.line)=true) au5._auto_1) (hs:autoParam (starEach [e] X.env=(false,eval e X.env)::starEach [] X.env) au5._auto_1) (hplain:autoParam ((backTo cpos (starEach [] X.env)).any (·.1)=false) au5._auto_1):
  Ev X (.Call (.Attribute a "index" apos) [e] [] cpos) (dMt D_index ta tA):=
 PE.imp (pe_bm PySem.F.plainAttrs_tuple PySem.F.slot_tuple_index PySem.F.type_tuple_index mt_indexT ha hA hbase hfew hline hs hplain) (mt_read fun M H x xs d ds Qd Q al r1 r2 zz3 k=>(by obtain⟨es,y,j,z,e1,e2,f1,f2,hz,hzy,hno,q⟩:=zz3;exact(by
  subst e1;subst e2;obtain⟨a,zs,rfl,ha,n,rr⟩:=r1.ofTup;obtain⟨v,rfl,rv⟩:=one_arg r2;obtain⟨w,hw,rw'⟩:=rr.get hz;have fz:flatD z=true:=List.all_eq_true.mp f2 _ (List.mem_of_getElem? hz);refine⟨a,zs,v,j,w,rfl,rfl,ha,flat_rep rv f1,flats_rep rr f2,hw,by rw[eqV_rep rw' rv fz f1];exact hzy,fun m u hm hu=>?_,k H _ _ q (fun _ _ z=>z) (.int _)⟩;have hml:m < es.length:=by rw[<-rr.1];exact(List.getElem?_eq_some_iff.mp hu).1
  have hd:=List.getElem?_eq_getElem hml;rw[eqV_rep (rr.2 m u _ hu hd) rv (List.all_eq_true.mp f2 _ (List.mem_of_getElem? hd)) f1];exact hno m _ hm hd)))
inductive dExt_i(i:Nat)(Q:Dt->List Sl->Prop)(es:List Dt)(δ':List Sl):Prop
 | mk (ds zs:_) (h1:es= [.lst zs]) (h2:δ'[i]?=some (.ow ds)) (h3:ds.length+zs.length<=sizeLine) (h4:Q .non (δ'.set i (.ow (ds++zs))))
def dExt(i:Nat)(t:DTA):DTE:=fun δ Q=>(∃ds0,δ[i]?=some (.ow ds0))/\t δ fun es δ'=>dExt_i i Q es δ'
theorem d_extend(i:Nat){x:Str}{xp:Pos}(ho:PE X (.Name x xp) (tVar i))(ha:Av X [e] tA)
  (hbase:autoParam (attributeBase (.Name x xp) "extend" X.env (eval (.Name x xp) X.env)=eval (.Name x xp) X.env) au5._auto_1)
  (hfew:autoParam (((backTo cpos (starEach [e] X.env)).all (fun x=>!x.1) && (backToKw cpos (keywordEach [] X.env)).all (fun x=>x.1.isSome) && decide ([e].length+([]:List Keyword).length+(if ([]:List Keyword).isEmpty then 0 else 1) < 30))=true) au5._auto_1)
  (hline:autoParam ((apos.endLine==cpos.line)=true) au5._auto_1) (hs:autoParam (starEach [e] X.env=(false,eval e X.env)::starEach [] X.env) au5._auto_1) (hplain:autoParam ((backTo cpos (starEach [] X.env)).any (·.1)=false) au5._auto_1):
  Ev X (.Call (.Attribute (.Name x xp) "extend" apos) [e] [] cpos) (dExt i tA):=
 PE.imp (pe_bm PySem.F.plainAttrs_list PySem.F.slot_list_extend PySem.F.type_list_extend mt_extend ho ha hbase hfew hline hs hplain) fun σ H Q zz4=>(by obtain⟨W,M,α,δ,Qd,E,⟨⟨ds0,h0⟩,q⟩,k⟩:=zz4;exact(by
  obtain⟨a,xs0,h1,h2,h3,r3⟩:=E.ow h0;refine⟨_,h1, .inl ⟨rfl,_,SqL.of h3⟩,W,M,α,δ,_,E,q,fun es δ' H' vs zz6 E1 c1 r1=>?_⟩;obtain⟨ds,zs,e,hd,l,q1⟩:=zz6;subst e;obtain⟨y,rfl,ry⟩:=one_arg r1;obtain⟨b,ws,rfl,hb,nb,rb⟩:=ry.ofLst;obtain⟨a',xs,h1',h2',h3',r3'⟩:=E1.ow hd;rw[h1] at h1';cases h1';refine⟨a,b,xs,ws,rfl,rfl,h3',hb,by rw[r3'.1,rb.1];exact l,?_⟩;obtain⟨E2,c2⟩:=own_mod E1 hd h1 h2' (r3'.append rb);exact k _ _ _ _ q1 E2 (c1.tr c2) .non))
inductive dNilL_i(neg:Bool)(Q:Dt->List Sl->Prop)(d:Dt)(δ':List Sl):Prop
 | mk (ds:_) (h1:d= .lst ds) (h2:Q (.bl (if neg then !ds.isEmpty else ds.isEmpty)) δ')
def dNilL(neg:Bool)(ta:DTE):DTE:=fun δ Q=>ta δ fun d δ'=>dNilL_i neg Q d δ'
inductive dNilT_i(neg:Bool)(Q:Dt->List Sl->Prop)(d:Dt)(δ':List Sl):Prop
 | mk (ds:_) (h1:d= .tup ds) (h2:Q (.bl (if neg then !ds.isEmpty else ds.isEmpty)) δ')
def dNilT(neg:Bool)(ta:DTE):DTE:=fun δ Q=>ta δ fun d δ'=>dNilT_i neg Q d δ'
inductive dNilO(neg:Bool)(i:Nat)(δ:List Sl)(Q:Dt->List Sl->Prop):Prop
 | mk (ds:_) (h1:δ[i]?=some (.ow ds)) (h2:Q (.bl (if neg then !ds.isEmpty else ds.isEmpty)) δ)
theorem nilL_read{neg:Bool}{r:R2}(hr: ∀(H:Hp) (Q:VK) (p q:Addr) (xs:List V),H p=some (.lst xs)->H q=some (.lst [])->Q (.bl (if neg then !xs.isEmpty else xs.isEmpty)) H->r (.ref p) (.ref q) H Q): ∀σ H Q,lE (dNilL neg ta) σ H Q->tOp r (lE ta) (tLst tNil) σ H Q:=fun σ H Q zz10=>(by obtain⟨W,M,α,δ,Qd,E,q,k⟩:=zz10;exact(
 ⟨W,M,α,δ,_,E,q,fun d δ1 H1 x zz11 E1 c1 r1=>(by obtain⟨ds,e,q1⟩:=zz11;exact(⟨Nat.zero_le _,fun p hp=>by
  subst e;obtain⟨a,xs,rfl,ha,n,rr⟩:=r1.ofLst;have s:Same H1 (upd H1 p (.lst [])):=Same.new hp;exact hr _ _ _ _ xs (s _ _ ha) upd_same (by rw[empty_rep rr];exact k _ _ _ _ q1 (E1.same s) (c1.tr (Chg.of s)) (.bl _))⟩))⟩))
theorem nilT_read{neg:Bool}{r:R2}(hr: ∀(H:Hp) (Q:VK) (p q:Addr) (xs:List V),H p=some (.tup xs)->H q=some (.tup [])->Q (.bl (if neg then !xs.isEmpty else xs.isEmpty)) H->r (.ref p) (.ref q) H Q): ∀σ H Q,lE (dNilT neg ta) σ H Q->tOp r (lE ta) (tTup tNil) σ H Q:=fun σ H Q zz12=>(by obtain⟨W,M,α,δ,Qd,E,q,k⟩:=zz12;exact(
 ⟨W,M,α,δ,_,E,q,fun d δ1 H1 x zz13 E1 c1 r1=>(by obtain⟨ds,e,q1⟩:=zz13;exact(⟨Nat.zero_le _,fun p hp=>by
  subst e;obtain⟨a,xs,rfl,ha,n,rr⟩:=r1.ofTup;have s:Same H1 (upd H1 p (.tup [])):=Same.new hp;exact hr _ _ _ _ xs (s _ _ ha) upd_same (by rw[empty_rep rr];exact k _ _ _ _ q1 (E1.same s) (c1.tr (Chg.of s)) (.bl _))⟩))⟩))
theorem nilO_read{neg:Bool}{r:R2}{i:Nat}(hr: ∀(H:Hp) (Q:VK) (p q:Addr) (xs:List V),H p=some (.lst xs)->H q=some (.lst [])->Q (.bl (if neg then !xs.isEmpty else xs.isEmpty)) H->r (.ref p) (.ref q) H Q): ∀σ H Q,lE (dNilO neg i) σ H Q->tOp r (tVar i) (tLst tNil) σ H Q:=fun σ H Q zz5=>(by obtain⟨W,M,α,δ,Qd,E,⟨ds,hd,q⟩,k⟩:=zz5;exact(by
 obtain⟨a,xs,h1,h2,h3,r3⟩:=E.ow hd;refine⟨_,h1,Nat.zero_le _,fun p hp=>?_⟩;have s:Same H (upd H p (.lst [])):=Same.new hp;exact hr _ _ _ _ xs (s _ _ h3) upd_same (by rw[empty_rep r3];exact k _ _ _ _ q (E.same s) (Chg.of s) (.bl _))))
theorem neL_hr{K:PySem.W.Frag}: ∀(H:Hp) (Q:VK) (p q:Addr) (xs:List V),H p=some (.lst xs)->H q=some (.lst [])->Q (.bl (if true=true then !xs.isEmpty else xs.isEmpty)) H->rNeNilL K (.ref p) (.ref q) H Q:=fun H Q p q xs h1 h2 z=>⟨p,q,xs,rfl,rfl,SqL.of h1,SqL.of h2,z⟩
theorem neT_hr{K:PySem.W.Frag}: ∀(H:Hp) (Q:VK) (p q:Addr) (xs:List V),H p=some (.tup xs)->H q=some (.tup [])->Q (.bl (if true=true then !xs.isEmpty else xs.isEmpty)) H->rNeNilT K (.ref p) (.ref q) H Q:=fun H Q p q xs h1 h2 z=>⟨p,q,xs,rfl,rfl,SqT.of h1,SqT.of h2,z⟩
variable {p2 : Pos} {x1 : Nat}
theorem t_neNilL(hu:X.A.units < cLine)(ha:Ev X a ta):Tv X (.Compare a [.NotEq] [.List [] p2] pos) (dT (dNilL true ta)):=PT.imp (pt_cmpR (op_neNilL hu) ha (pe_lst pa_nil) (nomark _)) fun σ H Q h=>nilL_read neL_hr _ _ _ (test_read _ _ _ h)
theorem t_neNilO(hu:X.A.units < cLine)(i:Nat){x:Str}{xp:Pos}(ho:PE X (.Name x xp) (tVar i)):Tv X (.Compare (.Name x xp) [.NotEq] [.List [] p2] pos) (dT (dNilO true i)):=PT.imp (pt_cmpR (op_neNilL hu) ho (pe_lst pa_nil) (nomark _)) fun σ H Q h=>nilO_read neL_hr _ _ _ (test_read _ _ _ h)
theorem d_neNilT(hu:X.A.units < cLine)(ha:Ev X a ta):Ev X (.Compare a [.NotEq] [.Tuple [] x1 p2] pos) (dNilT true ta):=PE.imp (pe_cmpR (op_neNilT hu) ha (pe_tup pa_nil) (nomark _)) (nilT_read neT_hr)
end
end LD
end
section
namespace LD
open PySem PySem.Spec L2 LB PyProof.Rows
section
variable {X : Cx} {a b c : Expr} {pos : Pos} {th : DTH}
inductive dPar2c_i(i:Nat)(j:Nat)(Δ:DEnds)(ss:List Sl)(δ':List Sl):Prop
 | mk (s1 s2:_) (h1:ss= [s1,s2]) (h2:okSet δ' i) (h3:okSet (δ'.set i s1) j) (h4:Δ.nx ((δ'.set i s1).set j s2))
def dPar2c(i j:Nat)(th:DTH):DTS:=fun Δ δ=>th δ fun ss δ'=>dPar2c_i i j Δ ss δ'
theorem s_par2c(i j:Nat){x y:Str}{px py pt:Pos}{kt k2 pt2}(hc:X.calm=true)(hN:X.N.Nodup)(ha:Hv X [a,b] th)(hi:autoParam (X.N[i]?=some x) au5._auto_1)(hj:autoParam (X.N[j]?=some y) au5._auto_1)
  (hx:autoParam (Loc X.env.scope x) au8._auto_1) (hy:autoParam (Loc X.env.scope y) au8._auto_1)
  (hfx:autoParam (X.fn x=true\/X.env.scope.names.lookup x=some .local) au1._auto_1) (hfy:autoParam (X.fn y=true\/X.env.scope.names.lookup y=some .local) au1._auto_1)
  (hw:autoParam (swappedStores [.Tuple [.Name x px, .Name y py] kt pt] (.Tuple [a,b] k2 pt2) X.env=pure none) au5._auto_1)
  (hs:autoParam (swapsWithSole [.Tuple [.Name x px, .Name y py] kt pt] (.Tuple [a,b] k2 pt2) pos.line X.env=pure false) au5._auto_1):
  Ex X (.Assign [.Tuple [.Name x px, .Name y py] kt pt] (.Tuple [a,b] k2 pt2) pos) (dPar2c i j th):=
 PS.imp (ps_asg (pe_tup ha) (pg_tup hc (pgs_cons (pg_name (i:=i) hN hi hx hfx) (pgs_cons (pg_name (i:=j) hN hj hy hfy) pgs_nil))) hs hw) fun D σ H zz1=>(by obtain⟨Ws,M,α,δ,Δ,E,L,q⟩:=zz1;exact(
 ⟨Ws,M,α,δ,_,E,q,fun ss δ' H' vs M' bs zz2 E1 c1 m1 m2 hh hb=>(by obtain⟨s1,s2,e,ok1,ok2,q1⟩:=zz2;exact(by
  subst e;cases hh with
  | cons h1 h2 h3 h4 h5=>
   cases h5 with
   | cons g1 g2 g3 g4 g5=>
    cases g5;rename_i v1 as1 v2 as2;refine⟨by show 2<=sizeLine;decide,fun p hp=>?_⟩;have sm:Same H' (upd H' p (.tup [v1,v2])):=Same.new hp;have Ea:=(E1.same sm).setHe (i:=i) ⟨h1.1,h1.2.same sm⟩ h2 h3 ok1;have Eb:=Ea.setHe (i:=j) ⟨g1.1,g1.2.same sm⟩ (fun a ha=>(g2 a ha).set fun z=>h4 a z (by simpa using ha)) g3 ok2;exact⟨p,_,rfl,SqT.of upd_same,rfl,_,_,rfl,_,_,rfl,rfl,L.nx _ _ _ _ _ Eb q1⟩))⟩))
end
end LD
end
section
namespace LSrt
open PySem PySem.Spec L2 LB PyProof.Rows
theorem vals_map{f:Nat->V}{g:Nat->Value}: ∀{l:List Nat},(∀i∈l,RelV (f i) (g i))->Vals (l.map f) (l.map g)
 | [],_=> .nil
 | i::l,h=> .cons (h i (by simp)) (vals_map fun j hj=>h j (by simp [hj]))
theorem map_getD{α:Type}{ws:List α}{d:α}:(List.range ws.length).map (fun i=>ws.getD i d)=ws:=by
 apply List.ext_getElem
 . simp
 . intro i h1 h2;simp [h2]
end LSrt
end
section
namespace L2
open PySem PySem.Spec PyProof.Rows
section
variable {X : Cx} {a b c e : Expr} {ta tb tc te : TE} {pos : Pos}
def tChain3(r r' r'':R2)(ta tb tc te:TE):TE:=fun σ H Q=>ta σ H fun x H1=>tb σ H1 fun y H2=>r x y H2 fun z H3=> ∃k,z= .bl k/\
 (if k=true then tc σ H3 fun w H4=>r' y w H4 fun z' H5=> ∃k',z'= .bl k'/\(if k'=true then te σ H5 fun v H6=>r'' w v H6 Q else Q (.bl false) H5) else Q (.bl false) H3)
theorem pt_chain3{o o' o'':CmpOp}{r r' r'':R2}(h1:OpR X (compareOp o) r)(h2:OpR X (compareOp o') r')(h3:OpR X (compareOp o'') r'')(ha:PE X a ta)(hb:PE X b tb)(hc:PE X c tc)(he:PE X e te)
  (hm:autoParam (lastMarks [o,o',o''] [b,c,e]=false) au9._auto_1):PT X (.Compare a [o,o',o''] [b,c,e] pos) (tTest (tChain3 r r' r'' ta tb tc te)):=by
 intro pins s σ H Q I h;refine isTrue_chain (thn (ha pins s σ H _ I h) fun v s1 z1=>?_) hm;obtain⟨x,H1,I1,r1,q1⟩:=z1;refine test_link (thn (hb pins s1 σ H1 _ I1 q1) fun u s2 z2=>?_);obtain⟨y,H2,I2,r2,q2⟩:=z2;refine thn (h1 pins s2 σ H2 x y v u _ I2 r1 r2 q2) fun d s3 z3=>?_;obtain⟨z,H3,I3,r3,k,ek,q3⟩:=z3;subst ek;cases r3;refine wpAny_truthy_bool ?_;cases k with
 | false=>
  obtain⟨k',e',q'⟩:=q3;cases e';exact ite_ff ⟨H3,I3,q'⟩
 | true=>
  refine ite_tt (test_link (thn (hc pins s3 σ H3 _ I3 q3) fun w s4 z4=>?_));obtain⟨y2,H4,I4,r4,q4⟩:=z4;refine thn (h2 pins s4 σ H4 y y2 u w _ I4 r2 r4 q4) fun d s5 zz11=>?_;obtain⟨z2,H5,I5,r5,k2,ek2,q5⟩:=zz11;subst ek2;cases r5;refine wpAny_truthy_bool ?_;cases k2 with
  | false=>
   obtain⟨k',e',q'⟩:=q5;cases e';exact ite_ff ⟨H5,I5,q'⟩
  | true=>
   refine ite_tt (test_last (thn (he pins s5 σ H5 _ I5 q5) fun w2 s6 ⟨y3,H6,I6,r6,q6⟩=>thn (h3 pins s6 σ H6 y2 y3 w w2 _ I6 r4 r6 q6) fun d' s7 zz13=>?_));obtain⟨z3,H7,I7,r7,k3,e3,q7⟩:=zz13;subst e3;cases r7;exact wpAny_truthy_bool ⟨H7,I7,q7⟩
end
end L2
namespace LD
open PySem PySem.Spec L2 LB PyProof.Rows LSrt
section
variable {X : Cx} {a b c e f : Expr} {ta tb tc te t : DTE} {tA : DTA} {pos p p2 : Pos}
def dLt3(ta tb tc te:DTE):DTE:=fun δ Q=>ta δ fun d1 δ1=>tb δ1 fun d2 δ2=> ∃i j:Int,d1= .int i/\d2= .int j/\(if i < j then tc δ2 fun d3 δ3=> ∃k:Int,d3= .int k/\(if j < k then te δ3 fun d4 δ4=> ∃l:Int,d4= .int l/\Q (.bl (decide (k < l))) δ4 else Q (.bl false) δ3) else Q (.bl false) δ2)
theorem lt3_read: ∀σ H Q,lE (dLt3 ta tb tc te) σ H Q->tChain3 (rI0 fun i j=> .bl (decide (i < j))) (rI0 fun i j=> .bl (decide (i < j))) (rI0 fun i j=> .bl (decide (i < j))) (lE ta) (lE tb) (lE tc) (lE te) σ H Q:=fun σ H Q zz10=>(by obtain⟨W,M,α,δ,Qd,E,q,k⟩:=zz10;exact(
 ⟨W,M,α,δ,_,E,q,fun d1 δ1 H1 x q1 E1 c1 r1=>⟨W,M,α,δ1,_,E1,q1,fun d2 δ2 H2 y zz11 E2 c2 r2=>(by obtain⟨i,j,e1,e2,q2⟩:=zz11;exact(by
  subst e1;subst e2;refine⟨i,j,r1.ofInt,r2.ofInt,decide (i < j),rfl,?_⟩;by_cases h:i < j
  . rw[if_pos h] at q2;rw[if_pos (decide_eq_true h)];refine⟨W,M,α,δ2,_,E2,q2,fun d3 δ3 H3 z zz18 E3 c3 r3=>?_⟩;obtain⟨k1,e3,q3⟩:=zz18;subst e3;refine⟨j,k1,r2.ofInt,r3.ofInt,decide (j < k1),rfl,?_⟩;by_cases h2:j < k1
    . rw[if_pos h2] at q3;rw[if_pos (decide_eq_true h2)];refine⟨W,M,α,δ3,_,E3,q3,fun d4 δ4 H4 v zz19 E4 c4 r4=>?_⟩;obtain⟨l,e4,q4⟩:=zz19;subst e4;exact⟨k1,l,r3.ofInt,r4.ofInt,k _ _ _ _ q4 E4 (((c1.tr c2).tr c3).tr c4) (.bl _)⟩
    . rw[if_neg h2] at q3;rw[if_neg (by rw[decide_eq_true_eq];exact h2)];exact k _ _ _ _ q3 E3 ((c1.tr c2).tr c3) (.bl _)
  . rw[if_neg h] at q2;rw[if_neg (by rw[decide_eq_true_eq];exact h)];exact k _ _ _ _ q2 E2 (c1.tr c2) (.bl _)))⟩⟩))
theorem t_lt3(ha:Ev X a ta)(hb:Ev X b tb)(hc:Ev X c tc)(he:Ev X e te)(hm:autoParam (lastMarks [.Lt, .Lt, .Lt] [b,c,e]=false) au9._auto_1):Tv X (.Compare a [.Lt, .Lt, .Lt] [b,c,e] pos) (dT (dLt3 ta tb tc te)):=PT.imp (pt_chain3 op_lt op_lt op_lt ha hb hc he hm) fun σ H Q h=>lt3_read _ _ _ (test_read _ _ _ h)
theorem two_arg{M:Addr->Prop}{H:Hp}{xs:List V}{d d2:Dt}(h:Reps M H xs [d,d2]): ∃x y,xs= [x,y]/\Rep M H x d/\Rep M H y d2:=by
 obtain⟨x,ys,rfl,r1,r2⟩:=h.uncons;obtain⟨y,rfl,r3⟩:=one_arg r2;exact⟨x,y,rfl,r1,r3⟩
inductive D_max2(ds:List Dt)(Q:Dt->Prop):Prop
 | mk (i j:Int) (h1:ds= [.int i, .int j]) (h2:Q (.int (max i j)))
inductive D_min2(ds:List Dt)(Q:Dt->Prop):Prop
 | mk (i j:Int) (h1:ds= [.int i, .int j]) (h2:Q (.int (min i j)))
theorem d_max2(hc:X.calm=true)(hm:X.mg "max"=none)(ha:Av X [e,f] tA)(hg:autoParam (Gl X "max") au5._auto_1)(he:autoParam (starEach [e,f] X.env=(false,eval e X.env)::starEach [f] X.env) au5._auto_1)(hpl:autoParam ((backTo pos (starEach [f] X.env)).any (·.1)=false) au5._auto_1):
  Ev X (.Call (.Name "max" p) [e,f] [] pos) (dCa D_max2 tA):=d_callB (call_max2 hc) (fun M H xs ds Qd Q al r zz20 k=>(by obtain⟨i,j,e,q⟩:=zz20;exact(by
 subst e;obtain⟨x,y,rfl,r1,r2⟩:=two_arg r;cases r1.ofInt;cases r2.ofInt;exact⟨i,j,rfl,by rw[show(if j > i then j else i)=max i j by by_cases c:j > i <;> simp only [c,if_true,if_false] <;> lia];exact k H _ _ q (fun _ _ z=>z) (.int _)⟩))) hg hm boot_max' ha (by decide) (by decide) he hpl
theorem d_min2(hc:X.calm=true)(hm:X.mg "min"=none)(ha:Av X [e,f] tA)(hg:autoParam (Gl X "min") au5._auto_1)(he:autoParam (starEach [e,f] X.env=(false,eval e X.env)::starEach [f] X.env) au5._auto_1)(hpl:autoParam ((backTo pos (starEach [f] X.env)).any (·.1)=false) au5._auto_1):
  Ev X (.Call (.Name "min" p) [e,f] [] pos) (dCa D_min2 tA):=d_callB (call_min2 hc) (fun M H xs ds Qd Q al r zz21 k=>(by obtain⟨i,j,e,q⟩:=zz21;exact(by
 subst e;obtain⟨x,y,rfl,r1,r2⟩:=two_arg r;cases r1.ofInt;cases r2.ofInt;exact⟨i,j,rfl,by rw[show(if j < i then j else i)=min i j by by_cases c:j < i <;> simp only [c,if_true,if_false] <;> lia];exact k H _ _ q (fun _ _ z=>z) (.int _)⟩))) hg hm boot_min' ha (by decide) (by decide) he hpl
end
end LD
end
section
namespace LD
open PySem PySem.Spec L2 LB PyProof.Rows
section
variable {X : Cx} {a b e f : Expr} {ta tb t : DTE} {tA : DTA} {pos p p2 : Pos}
noncomputable def isD(T:String):Dt->Option Bool
 | .non=>some false
 | .bl _=>some (T=="bool" || T=="int")
 | .int _=>some (T=="int")
 | .str _=>some (T=="str")
 | .lst _=>some (T=="list")
 | .tup _=>some (T=="tuple")
 | _=>none
theorem isD_rep{T:String}{M:Addr->Prop}{H:Hp}{v:V}{d:Dt}{b:Bool}(r:Rep M H v d)(h:isD T d=some b):isTy T H v=some b:=by
 cases r with
 | non=>exact h
 | bl c=>exact h
 | int c=>exact h
 | str c=>exact h
 | lst e n l r=>simp only [isTy,e];exact h
 | tup e n l r=>simp only [isTy,e];exact h
 | dic e n k l r=>cases h
 | dit e n k l r=>cases h
inductive dIsi_i(T:String)(Q:Dt->List Sl->Prop)(d:Dt)(δ':List Sl):Prop
 | mk (b:_) (h1:isD T d=some b) (h2:Q (.bl b) δ')
def dIsi(T:String)(t:DTE):DTE:=fun δ Q=>t δ fun d δ'=>dIsi_i T Q d δ'
theorem boot_isi':bootBuiltins "isinstance"=some (.builtin "isinstance"):=by decide+kernel
theorem d_isi{T:String}(hT:T="int"\/T="bool"\/T="tuple"\/T="list"\/T="str")(hm:X.mg "isinstance"=none)(ha:PA X [e,f] (tCons (lE t) (tCons (tC (.ty T)) tNil)))(hg:autoParam (Gl X "isinstance") au5._auto_1)(he:autoParam (starEach [e,f] X.env=(false,eval e X.env)::starEach [f] X.env) au5._auto_1)(hpl:autoParam ((backTo pos (starEach [f] X.env)).any (·.1)=false) au5._auto_1):
  Ev X (.Call (.Name "isinstance" p) [e,f] [] pos) (dIsi T t):=PE.imp (pe_callB (isi_ok hT) hg hm boot_isi' ha (by decide) (by decide) he hpl) fun σ H Q zz5=>(by obtain⟨W,M,α,δ,Qd,E,q,k⟩:=zz5;exact(
 ⟨W,M,α,δ,_,E,q,fun d δ' H' v zz6 E1 c1 r1=>(by obtain⟨b,hb,q1⟩:=zz6;exact(⟨v,b,rfl,isD_rep r1 hb,k _ _ _ _ q1 E1 c1 (.bl _)⟩))⟩))
end
end LD
end
section
namespace L2
open PySem PySem.Spec PyProof.Rows
section
variable {X : Cx}
noncomputable def isTy4(H:Hp):V->Option Bool
 | .non=>some false
 | .bl _=>some false
 | .int _=>some false
 | .str _=>some false
 | .ref a=>match H a with
  | some (.lst _)=>some true
  | some (.tup _)=>some true
  | _=>none
 | _=>none
def tIsi4(te:TE):TE:=fun σ H Q=>te σ H fun x H1=> ∃b,isTy4 H1 x=some b/\Q (.bl b) H1
theorem pe_isi4{e:Expr}{te:TE}{p p1 p2 pt pos:Pos}{k}(he:PE X e te)(hgi:Gl X "isinstance")(hmi:X.mg "isinstance"=none)(hgl:Gl X "list")(hml:X.mg "list"=none)(hgt:Gl X "tuple")(hmt:X.mg "tuple"=none)
  (hs:autoParam (starEach [e, .Tuple [.Name "list" p1, .Name "tuple" p2] k pt] X.env=(false,eval e X.env)::starEach [.Tuple [.Name "list" p1, .Name "tuple" p2] k pt] X.env) au5._auto_1):
  PE X (.Call (.Name "isinstance" p) [e, .Tuple [.Name "list" p1, .Name "tuple" p2] k pt] [] pos) (tIsi4 te):=by
 intro pins s σ H Q I h;refine wpAny_Call_Name_kw (ld_blt I hgi hmi boot_isinstance ?_);refine PyProof.Rows.callWith_builtin1 ?_ hs rfl;rw[hs];show wpAny _ _ (spliced ((false,eval e X.env)::backTo pos (starEach [.Tuple [.Name "list" p1, .Name "tuple" p2] k pt] X.env))) _ _ s;refine Calls.spliced_cons (thn (he pins s σ H _ I h) fun u s1 zz1=>?_);obtain⟨x,H1,I1,r1,b0,ex,q1⟩:=zz1;have h2:starEach [Expr.Tuple [.Name "list" p1, .Name "tuple" p2] k pt] X.env=(false,eval (.Tuple [.Name "list" p1, .Name "tuple" p2] k pt) X.env)::starEach [] X.env:=rfl;rw[h2];show wpAny _ _ (spliced ((false,eval (.Tuple [.Name "list" p1, .Name "tuple" p2] k pt) X.env)::backTo pos (starEach [] X.env))) _ _ s1;refine Calls.spliced_cons (wpAny_Tuple_spliced ?_);have h3:starEach [Expr.Name "list" p1, .Name "tuple" p2] X.env=(false,eval (.Name "list" p1) X.env)::starEach [.Name "tuple" p2] X.env:=rfl;rw[h3];show wpAny _ _ (spliced ((false,eval (.Name "list" p1) X.env)::backTo pt (starEach [.Name "tuple" p2] X.env))) _ _ s1;refine Calls.spliced_cons (ld_blt I1 hgl hml LB.boot_list' ?_);have h4:starEach [Expr.Name "tuple" p2] X.env=(false,eval (.Name "tuple" p2) X.env)::starEach [] X.env:=rfl;rw[h4];show wpAny _ _ (spliced ((false,eval (.Name "tuple" p2) X.env)::backTo pt (starEach [] X.env))) _ _ s1;refine Calls.spliced_cons (ld_blt I1 hgt hmt LB.boot_tuple' ?_);refine Calls.spliced_nil ⟨by show 2<=sizeLine;decide,?_⟩;refine Calls.spliced_nil ?_;have fin: ∀(s':Shared),s'={s1 with heap:=s1.heap.push {cls:= .type "tuple",data:= .seq [Value.type "list",Value.type "tuple"].toArray}}-> ∀tk,EP X pins σ Q (.bool b0) {s' with toks:=tk}:=fun s' e tk=>by
  subst e;exact⟨.bl b0,H1,I1.kept fun b o e=>Heap.get?_push_of_some _ e,rfl,q1⟩
 cases x with
 | non=>
  cases ex;cases (show u=Value.none from r1);exact IsiPair.tupleOf (Tx:="NoneType") (cs:= [.type "list", .type "tuple"]) (vs:= [false,false]) ⟨Answers.of_false_none (by decide) (by rfl) (by rfl),Answers.of_false_none (by decide) (by rfl) (by rfl),True.intro⟩ rfl (Heap.get?_push_size _ rfl) (fin _ rfl)
 | bl i=>
  cases ex;cases (show u=Value.bool i from r1);exact IsiPair.tupleOf (Tx:="bool") (cs:= [.type "list", .type "tuple"]) (vs:= [false,false]) ⟨Answers.of_false_bool (by decide) (by rfl) (by rfl),Answers.of_false_bool (by decide) (by rfl) (by rfl),True.intro⟩ rfl (Heap.get?_push_size _ rfl) (fin _ rfl)
 | int i=>
  cases ex;obtain⟨t,rfl⟩:=(show∃t,u=Value.int i t from r1)
  exact IsiPair.tupleOf (Tx:="int") (cs:= [.type "list", .type "tuple"]) (vs:= [false,false]) ⟨Answers.of_false_int (by decide) (by rfl) (by rfl),Answers.of_false_int (by decide) (by rfl) (by rfl),True.intro⟩ rfl (Heap.get?_push_size _ rfl) (fin _ rfl)
 | str i=>
  cases ex;obtain⟨t,rfl⟩:=(show∃t,u=Value.str i t from r1)
  exact IsiPair.tupleOf (Tx:="str") (cs:= [.type "list", .type "tuple"]) (vs:= [false,false]) ⟨Answers.of_false_str (by decide) (by rfl) (by rfl),Answers.of_false_str (by decide) (by rfl) (by rfl),True.intro⟩ rfl (Heap.get?_push_size _ rfl) (fin _ rfl)
 | ref a=>
  cases (show u=Value.ref a from r1);cases ha:H1 a with
  | none=>simp only [isTy4,ha] at ex;cases ex
  | some o=>
   cases o with
   | lst xs=>
    simp only [isTy4,ha] at ex;cases ex;obtain⟨_,_,n,_,h1⟩:=(show ObjOk X.prog X.w H1 s1.heap a (.lst xs) from I1.hok a _ ha)
    exact IsiPair.tupleOf (Tx:="list") (cs:= [.type "list", .type "tuple"]) (vs:= [true,false]) ⟨Answers.of_true (by rfl) (by rfl),Answers.of_false_list (by decide) (by rfl) (by rfl),True.intro⟩ ⟨_,Heap.get?_push_of_some _ h1,rfl⟩ (Heap.get?_push_size _ rfl) (fin _ rfl)
   | tup xs=>
    simp only [isTy4,ha] at ex;cases ex;obtain⟨_,_,_,o,ho,hc,_⟩:=(show ObjOk X.prog X.w H1 s1.heap a (.tup xs) from I1.hok a _ ha)
    exact IsiPair.tupleOf (Tx:="tuple") (cs:= [.type "list", .type "tuple"]) (vs:= [false,true]) ⟨Answers.of_false_tuple (by decide) (by rfl) (by rfl),Answers.of_true (by rfl) (by rfl),True.intro⟩ ⟨_,Heap.get?_push_of_some _ ho,hc⟩ (Heap.get?_push_size _ rfl) (fin _ rfl)
   | _=>simp only [isTy4,ha] at ex;cases ex
 | _=>cases ex
end
end L2
namespace LD
open PySem PySem.Spec L2 LB PyProof.Rows LW
section
variable {X : Cx} {a b e f : Expr} {ta tb t t' : DTE} {tA : DTA} {pos p p2 : Pos}
noncomputable def isSq:Dt->Option Bool
 | .dic _ _=>none
 | .dit _ _=>none
 | .lst _=>some true
 | .tup _=>some true
 | _=>some false
theorem isSq_rep{M:Addr->Prop}{H:Hp}{v:V}{d:Dt}{b:Bool}(r:Rep M H v d)(h:isSq d=some b):isTy4 H v=some b:=by
 cases r with
 | non=>exact h
 | bl c=>exact h
 | int c=>exact h
 | str c=>exact h
 | lst e n l r=>simp only [isTy4,e];exact h
 | tup e n l r=>simp only [isTy4,e];exact h
 | dic e n k l r=>cases h
 | dit e n k l r=>cases h
inductive dIsi4_i(Q:Dt->List Sl->Prop)(d:Dt)(δ':List Sl):Prop
 | mk (b:_) (h1:isSq d=some b) (h2:Q (.bl b) δ')
def dIsi4(t:DTE):DTE:=fun δ Q=>t δ fun d δ'=>dIsi4_i Q d δ'
theorem d_isi4{p1 p2 pt:Pos}{k}(he:Ev X e t)(hmi:X.mg "isinstance"=none)(hml:X.mg "list"=none)(hmt:X.mg "tuple"=none)(hgi:autoParam (Gl X "isinstance") au5._auto_1)(hgl:autoParam (Gl X "list") au5._auto_1)(hgt:autoParam (Gl X "tuple") au5._auto_1)
  (hs:autoParam (starEach [e, .Tuple [.Name "list" p1, .Name "tuple" p2] k pt] X.env=(false,eval e X.env)::starEach [.Tuple [.Name "list" p1, .Name "tuple" p2] k pt] X.env) au5._auto_1):
  Ev X (.Call (.Name "isinstance" p) [e, .Tuple [.Name "list" p1, .Name "tuple" p2] k pt] [] pos) (dIsi4 t):=PE.imp (pe_isi4 he hgi hmi hgl hml hgt hmt hs) fun σ H Q zz9=>(by obtain⟨W,M,α,δ,Qd,E,q,k⟩:=zz9;exact(
 ⟨W,M,α,δ,_,E,q,fun d δ' H' v zz10 E1 c1 r1=>(by obtain⟨b,hb,q1⟩:=zz10;exact(⟨b,isSq_rep r1 hb,k _ _ _ _ q1 E1 c1 (.bl _)⟩))⟩))
end
end LD
end
section
namespace LSrtW
open PySem PyProof.Rows
noncomputable def gallop':Bool->Keyed->Array Keyed->Nat->Nat->Nat->StateT SortSt Sem (Option Nat):=sortPriv% PySem.Builtin.gallop
noncomputable def mergeLo':Array Keyed->Array Keyed->StateT SortSt Sem (Array Keyed):=sortPriv% PySem.Builtin.mergeLo
noncomputable def mergeHi':Array Keyed->Array Keyed->StateT SortSt Sem (Array Keyed):=sortPriv% PySem.Builtin.mergeHi
noncomputable abbrev setG (st:SortSt) (g:Nat):SortSt:=SortSt.mk' (kindOf st) (arrOf st) (pendingOf st) g (failedOf st)
section
variable {prog : Program} {w : World} {A : Around} {E : Value -> Shared -> Prop} {s : Shared}
theorem wpS_pos{M:Model}{α:Type}{c:Prop} [Decidable c]{a b:StateT SortSt Sem α}{Q:α->SortSt->Prop}{st:SortSt}(h:c)(q:wpS M A E s a Q st):wpS M A E s (if c then a else b) Q st:=by rw[if_pos h];exact q
theorem wpS_neg{M:Model}{α:Type}{c:Prop} [Decidable c]{a b:StateT SortSt Sem α}{Q:α->SortSt->Prop}{st:SortSt}(h: ¬c)(q:wpS M A E s b Q st):wpS M A E s (if c then a else b) Q st:=by rw[if_neg h];exact q
theorem wpS_elem{st:SortSt}{xs:Array Keyed}{i:Nat}{Q:Keyed->SortSt->Prop}(hi:i < xs.size)(h:Q xs[i] st):wpS (model prog w) A E s (elem' xs i) Q st:=by
 rw[elem'_eq,Array.getElem?_eq_getElem hi];exact wpS_pure h
theorem gallop'_eq(left:Bool)(key:Keyed)(arr:Array Keyed)(base n hint:Nat):gallop' left key arr base n hint=(do
 let beyond (i:Nat):StateT SortSt Sem (Option Bool):=do
  let x<-elem' arr (base+i)
  if left then lt' x key else return(<-lt' key x).map (!·)
 let mut lastofs:=0
 let mut ofs:=1
 let mut lo:=0
 let mut hi:=0
 let some right<-beyond hint | return none
 if right then
  let maxofs:=n - hint
  for _ in [0:n] do
   if ofs>=maxofs then break
   let some more<-beyond (hint+ofs) | return none
   if !more then break
   lastofs:=ofs
   ofs:=2*ofs+1
  lo:=hint+lastofs+1
  hi:=hint+min ofs maxofs
 else
  let maxofs:=hint+1
  for _ in [0:n] do
   if ofs>=maxofs then break
   let some found<-beyond (hint - ofs) | return none
   if found then break
   lastofs:=ofs
   ofs:=2*ofs+1
  lo:=hint+1 - min ofs maxofs
  hi:=hint - lastofs
 for _ in [0:n] do
  if lo>=hi then break
  let m:=lo+(hi - lo) / 2
  let some more<-beyond m | return none
  if more then lo:=m+1 else hi:=m
 return some hi):=rfl
noncomputable def setMinGallop':Nat->StateT SortSt Sem Unit:=sortPriv% PySem.Builtin.setMinGallop
theorem setMinGallop'_eq(g:Nat):setMinGallop' g=modify fun s=>setG s g:=rfl
theorem mergeLo'_eq(a b:Array Keyed):mergeLo' a b=(do
 rule "list.sort.merge-lo"
 let total:=a.size+b.size
 let done (out:Array Keyed) (ia ib:Nat):=out++a.extract ia a.size++b.extract ib b.size
 let lastOfA (out:Array Keyed) (ia ib:Nat):=out++b.extract ib b.size++a.extract ia a.size
 let mut out:Array Keyed:= #[<-elem' b 0]
 let mut ia:=0
 let mut ib:=1
 if ib==b.size then return done out ia ib
 if ia+1==a.size then return lastOfA out ia ib
 let mut minGallop:=gallopOf (<-get)
 for _ in [0:total] do
  let mut acount:=0
  let mut bcount:=0
  for _ in [0:total] do
   let some bWins<-lt' (<-elem' b ib) (<-elem' a ia) | return done out ia ib
   if bWins then
    out:=out.push (<-elem' b ib);ib:=ib+1;bcount:=bcount+1;acount:=0
    if ib==b.size then return done out ia ib
    if bcount>=minGallop then break
   else
    out:=out.push (<-elem' a ia);ia:=ia+1;acount:=acount+1;bcount:=0
    if ia+1==a.size then return lastOfA out ia ib
    if acount>=minGallop then break
  rule "list.sort.gallop"
  minGallop:=minGallop+1
  for _ in [0:total] do
   if minGallop > 1 then minGallop:=minGallop - 1
   setMinGallop' minGallop
   let some k<-gallop' false (<-elem' b ib) a ia (a.size - ia) 0 | return done out ia ib
   acount:=k
   if k > 0 then
    out:=out++a.extract ia (ia+k);ia:=ia+k
    if ia+1==a.size then return lastOfA out ia ib
    if ia==a.size then return done out ia ib
   out:=out.push (<-elem' b ib);ib:=ib+1
   if ib==b.size then return done out ia ib
   let some k<-gallop' true (<-elem' a ia) b ib (b.size - ib) 0 | return done out ia ib
   bcount:=k
   if k > 0 then
    out:=out++b.extract ib (ib+k);ib:=ib+k
    if ib==b.size then return done out ia ib
   out:=out.push (<-elem' a ia);ia:=ia+1
   if ia+1==a.size then return lastOfA out ia ib
   if acount < 7 && bcount < 7 then break
  minGallop:=minGallop+1
  setMinGallop' minGallop
 unsupported "internal:list.sort.merge-bound"):=rfl
theorem mem_at{a:Array Keyed}{i:Nat}(h:i < a.size):a[i]∈a.toList:=by simp
end
section
variable {prog : Program} {w : World} {A : Around} {E : Value -> Shared -> Prop} {s : Shared}
theorem cur5g{β γ δ ε:Type}{A1 A2:Nat->Prop}{st:SortSt}{J:Nat->Option (Array Keyed) × β × γ × δ × ε->Prop}{G:Nat->Option (Array Keyed) × β × γ × δ × ε->SortSt->Prop}(h: ∀i a b c d g,A1 i->A2 i->J i (none,a,b,c,d)->G i (none,a,b,c,d) (setG st g)):
  ∀i c st',A1 i->A2 i->((∃g,st'=setG st g)/\c.1=none/\J i c)->G i c st':=by
 rintro i ⟨r,a,b,c,d⟩ st' h1 h2 ⟨⟨g,rfl⟩,hr,hJ⟩
 have hr:r=none:=hr;subst hr;exact h i a b c d g h1 h2 hJ
theorem cur6e{β γ δ ε ζ:Type}{A1 A2:Nat->Prop}{st0:SortSt}{J:Nat->Option (Array Keyed) × β × γ × δ × ε × ζ->Prop}{G:Nat->Option (Array Keyed) × β × γ × δ × ε × ζ->SortSt->Prop}(h: ∀i a b c d e,A1 i->A2 i->J i (none,a,b,c,d,e)->G i (none,a,b,c,d,e) st0):
  ∀i c st',A1 i->A2 i->(st'=st0/\c.1=none/\J i c)->G i c st':=by
 rintro i ⟨r,a,b,c,d,e⟩ st' h1 h2 ⟨rfl,hr,hJ⟩
 have hr:r=none:=hr;subst hr;exact h i a b c d e h1 h2 hJ
theorem cur7g{β γ δ ε ζ η:Type}{A1 A2:Nat->Prop}{st:SortSt}{J:Nat->Option (Array Keyed) × β × γ × δ × ε × ζ × η->Prop}{G:Nat->Option (Array Keyed) × β × γ × δ × ε × ζ × η->SortSt->Prop}(h: ∀i a b c d e f g,A1 i->A2 i->J i (none,a,b,c,d,e,f)->G i (none,a,b,c,d,e,f) (setG st g)):
  ∀i c st',A1 i->A2 i->((∃g,st'=setG st g)/\c.1=none/\J i c)->G i c st':=by
 rintro i ⟨r,a,b,c,d,e,f⟩ st' h1 h2 ⟨⟨g,rfl⟩,hr,hJ⟩
 have hr:r=none:=hr;subst hr;exact h i a b c d e f g h1 h2 hJ
theorem pst6{β γ δ ε ζ:Type}{st0:SortSt}{K:Array Keyed->Prop}{J:Option (Array Keyed) × β × γ × δ × ε × ζ->Prop}{G:Option (Array Keyed) × β × γ × δ × ε × ζ->SortSt->Prop}(h1: ∀r a b c d e,K r->G (some r,a,b,c,d,e) st0)(h2: ∀a b c d e,J (none,a,b,c,d,e)->G (none,a,b,c,d,e) st0):
  ∀c st',(st'=st0/\((∃r,c.1=some r/\K r)\/(c.1=none/\J c)))->G c st':=by
 rintro⟨r,a,b,c,d,e⟩ st' ⟨rfl,⟨r',hr,k⟩ | ⟨hr,hJ⟩⟩
 . have hr:r=some r':=hr;subst hr;exact h1 _ _ _ _ _ _ k
 . have hr:r=none:=hr;subst hr;exact h2 _ _ _ _ _ hJ
theorem pst7{β γ δ ε ζ η:Type}{st:SortSt}{K:Array Keyed->Prop}{J:Option (Array Keyed) × β × γ × δ × ε × ζ × η->Prop}{G:Option (Array Keyed) × β × γ × δ × ε × ζ × η->SortSt->Prop}(h1: ∀r a b c d e f g,K r->G (some r,a,b,c,d,e,f) (setG st g))(h2: ∀a b c d e f g,J (none,a,b,c,d,e,f)->G (none,a,b,c,d,e,f) (setG st g)):
  ∀c st',((∃g,st'=setG st g)/\((∃r,c.1=some r/\K r)\/(c.1=none/\J c)))->G c st':=by
 rintro⟨r,a,b,c,d,e,f⟩ st' ⟨⟨g,rfl⟩,⟨r',hr,k⟩ | ⟨hr,hJ⟩⟩
 . have hr:r=some r':=hr;subst hr;exact h1 _ _ _ _ _ _ _ _ k
 . have hr:r=none:=hr;subst hr;exact h2 _ _ _ _ _ _ _ hJ
end
end LSrtW
end
section
namespace LSrtW
open PySem PyProof.Rows
section
variable {prog : Program} {w : World} {A : Around} {E : Value -> Shared -> Prop} {s : Shared}
theorem mergeHi'_eq(a b:Array Keyed):mergeHi' a b=(do
 rule "list.sort.merge-hi"
 let total:=a.size+b.size
 let done (out:Array Keyed) (na nb:Nat):=a.extract 0 na++b.extract 0 nb++out.reverse
 let firstOfB (out:Array Keyed) (na nb:Nat):=b.extract 0 nb++a.extract 0 na++out.reverse
 let mut na:=a.size - 1
 let mut nb:=b.size
 let mut out:Array Keyed:= #[<-elem' a na]
 if na==0 then return done out na nb
 if nb==1 then return firstOfB out na nb
 let mut minGallop:=gallopOf (<-get)
 for _ in [0:total] do
  let mut acount:=0
  let mut bcount:=0
  for _ in [0:total] do
   let some aWins<-lt' (<-elem' b (nb - 1)) (<-elem' a (na - 1)) | return done out na nb
   if aWins then
    na:=na - 1;out:=out.push (<-elem' a na);acount:=acount+1;bcount:=0
    if na==0 then return done out na nb
    if acount>=minGallop then break
   else
    nb:=nb - 1;out:=out.push (<-elem' b nb);bcount:=bcount+1;acount:=0
    if nb==1 then return firstOfB out na nb
    if bcount>=minGallop then break
  rule "list.sort.gallop"
  minGallop:=minGallop+1
  for _ in [0:total] do
   if minGallop > 1 then minGallop:=minGallop - 1
   setMinGallop' minGallop
   let some at_<-gallop' false (<-elem' b (nb - 1)) a 0 na (na - 1) | return done out na nb
   let k:=na - at_
   acount:=k
   if k > 0 then
    out:=out++(a.extract at_ na).reverse;na:=at_
    if na==0 then return done out na nb
   nb:=nb - 1;out:=out.push (<-elem' b nb)
   if nb==1 then return firstOfB out na nb
   let some at_<-gallop' true (<-elem' a (na - 1)) b 0 nb (nb - 1) | return done out na nb
   let k:=nb - at_
   bcount:=k
   if k > 0 then
    out:=out++(b.extract at_ nb).reverse;nb:=at_
    if nb==1 then return firstOfB out na nb
    if nb==0 then return done out na nb
   na:=na - 1;out:=out.push (<-elem' a na)
   if na==0 then return done out na nb
   if acount < 7 && bcount < 7 then break
  minGallop:=minGallop+1
  setMinGallop' minGallop
 unsupported "internal:list.sort.merge-bound"):=rfl
end
end LSrtW
end
section
namespace LSrtW
open PySem PyProof.Rows
section
variable {prog : Program} {w : World} {A : Around} {E : Value -> Shared -> Prop} {s : Shared} {a₀ : Array Keyed} {p : Array (Nat × Nat × Nat)}
def Ch:Nat->List (Nat × Nat × Nat)->Nat->Prop
 | s,[],e=>s=e
 | s,x::r,e=>x.1=s/\1<=x.2.1/\Ch (x.1+x.2.1) r e
theorem Ch.le: ∀{s e:Nat} {l:List (Nat × Nat × Nat)},Ch s l e->s<=e
 | s,e,[],h=>Nat.le_of_eq h
 | s,e,x::r,h=>by have:=Ch.le h.2.2;have:=h.1;lia
theorem Ch.two: ∀{s e i:Nat} {l:List (Nat × Nat × Nat)} {x y:Nat × Nat × Nat},Ch s l e->l[i]?=some x->l[i+1]?=some y->1<=x.2.1/\x.1+x.2.1=y.1/\1<=y.2.1/\y.1+y.2.1<=e
 | s,e,i,[],x,y,h,h1,_=>by simp at h1
 | s,e,0,[z],x,y,h,h1,h2=>by simp at h2
 | s,e,0,z::z2::r,x,y,h,h1,h2=>by
  cases (show z=x by simpa using h1);cases (show z2=y by simpa using h2);exact⟨h.2.1,h.2.2.1.symm,h.2.2.2.1,Ch.le h.2.2.2.2⟩
 | s,e,i+1,z::r,x,y,h,h1,h2=>Ch.two h.2.2 (by simpa using h1) (by simpa using h2)
theorem mergeAt'_eq(i:Nat):mergeAt' i=(do
 let s<-get
 let (some (sa,na,power),some (sb,nb,_)):=((pendingOf s)[i]?,(pendingOf s)[i+1]?) | unsupported "internal:list.sort.pending"
 set (setPending s (((pendingOf s).setIfInBounds i (sa,na+nb,power)).eraseIdxIfInBounds (i+1)))
 let some k<-gallop' false (<-elem' (arrOf s) sb) (arrOf s) sa na 0 | return false
 let (sa,na):=(sa+k,na - k)
 if na==0 then return true
 let some nb<-gallop' true (<-elem' (arrOf s) (sa+na - 1)) (arrOf s) sb nb (nb - 1) | return false
 if nb==0 then return true
 let x:=(arrOf s).extract sa sb
 let y:=(arrOf s).extract sb (sb+nb)
 let merged<-if na<=nb then mergeLo' x y else mergeHi' x y
 modify fun s=>setArr s (merged.toList.zipIdx.foldl (fun a (p,j)=>a.setIfInBounds (sa+j) p) (arrOf s))
 return(failedOf (<-get)).isNone):=rfl
theorem wpS_set{σ:Type}{M:Model}{Q:PUnit->σ->Prop}{st st':σ}(h:Q ⟨⟩ st'):wpS M A E s (set st':StateT σ Sem PUnit) Q st:=by
 unfold wpS;rw[StateT.run_set];exact wpAny_pure ⟨rfl,h⟩
end
end LSrtW
end
section
namespace LSrtW
open PySem PyProof.Rows
section
variable {prog : Program} {w : World} {A : Around} {E : Value -> Shared -> Prop} {s : Shared} {a₀ : Array Keyed} {p : Array (Nat × Nat × Nat)}
theorem minRun_pos: ∀{f n r:Nat},1<=n->1<=minRun' f n r
 | 0,n,r,h=>by show 1<=n+r;omega
 | f+1,n,r,h=>by
  rw[minRun'_succ];by_cases c:n < 64
  . rw[if_pos c];omega
  . rw[if_neg c];exact minRun_pos (by omega)
end
end LSrtW
end
section
namespace LD
open PySem PySem.Spec L2 LB PyProof.Rows LW
section
variable {X : Cx} {tg a b c e : Expr} {es : List Expr} {ta tb tc t : DTE} {tA : DTA} {pos p apos cpos : Pos}
inductive D_intB(ds:List Dt)(Q:Dt->Prop):Prop
 | mk (c:_) (h1:ds= [.bl c]) (h2:Q (.int (if c then 1 else 0)))
theorem d_intB(hm:X.mg "int"=none)(ha:Av X [e] tA)(hg:autoParam (Gl X "int") au5._auto_1)(he:autoParam (starEach [e] X.env=(false,eval e X.env)::starEach [] X.env) au5._auto_1)(hpl:autoParam ((backTo pos (starEach [] X.env)).any (·.1)=false) au5._auto_1):
  Ev X (.Call (.Name "int" p) [e] [] pos) (dCa D_intB tA):=d_callTy call_int1 (fun M H xs ds Qd Q al r zz9 k=>(by obtain⟨c,e,q⟩:=zz9;exact(by
 subst e;obtain⟨x,rfl,r1⟩:=one_arg r;exact .inr ⟨c,by rw[r1.ofBl],k H _ _ q (fun _ _ z=>z) (.int _)⟩))) hg hm boot_int' ha (by decide) (by decide) he hpl
theorem d_never:Ev X e (fun _ _=>False):=fun pins s σ H Q I zz15=>(by obtain⟨_,_,_,_,_,_,q,_⟩:=zz15;exact(q.elim))
end
end LD
end
section
namespace LD
open PySem PySem.Spec L2 LB PyProof.Rows
inductive FlT:Dt->Prop where
 | non:FlT .non
 | bl (b:Bool):FlT (.bl b)
 | int (i:Int):FlT (.int i)
 | str (x:Str):FlT (.str x)
 | tup {ds:List Dt}:(∀d∈ds,FlT d)->FlT (.tup ds)
theorem Rep.flt{M M':Addr->Prop}{H:Hp}{v:V}{d:Dt}(r:Rep M H v d)(f:FlT d)(al:MOk M' H):Rep M' H v d:=by
 induction r with
 | non=>exact .non
 | bl b=>exact .bl b
 | int i=>exact .int i
 | str x=>exact .str x
 | lst h n l r ih=>cases f
 | tup h n l r ih=>
  cases f with
  | tup f=>exact .tup h (al.tup h) l fun i x d h1 h2=>ih i x d h1 h2 (f d (List.mem_of_getElem? h2))
 | dic h n e l r ih=>cases f
 | dit h n e l r ih=>cases f
theorem Reps.flt{M M':Addr->Prop}{H:Hp}{v:List V}{d:List Dt}(r:Reps M H v d)(f: ∀x∈d,FlT x)(al:MOk M' H):Reps M' H v d:=⟨r.1,fun i x e h1 h2=>(r.2 i x e h1 h2).flt (f e (List.mem_of_getElem? h2)) al⟩
end LD
end
section
namespace L2
open PySem PySem.Spec PyProof.Rows
inductive Cmp(H:Hp):Nat->V->V->Bool->Prop
 | flat {k:Nat} {v w:V}:flatV v=true->flatV w=true->Cmp H k v w (eqV v w)
 | tup {k:Nat} {p q:Addr} {xs ys:List V} {e:Nat->Bool}:H p=some (.tup xs)->H q=some (.tup ys)->(∀(j:Nat) x y,xs[j]?=some x->ys[j]?=some y->Cmp H k x y (e j))->Cmp H (k+1) (.ref p) (.ref q) ((List.range (min xs.length ys.length)).all e && xs.length==ys.length)
 | lst {k:Nat} {p q:Addr} {xs ys:List V} {e:Nat->Bool}:H p=some (.lst xs)->H q=some (.lst ys)->(∀(j:Nat) x y,xs[j]?=some x->ys[j]?=some y->Cmp H k x y (e j))->Cmp H (k+1) (.ref p) (.ref q) ((List.range (min xs.length ys.length)).all e && xs.length==ys.length)
theorem eqV_self{v:V}(h:flatV v=true):eqV v v=true:=by cases v <;> first | rfl | (show(_==_)=true;exact beq_self_eq_true _) | cases h
theorem all_self{n:Nat}{e:Nat->Bool}(h: ∀j,j < n->e j=true):((List.range (min n n)).all e && n==n)=true:=by
 rw[Nat.min_self,beq_self_eq_true,Bool.and_true,List.all_eq_true];exact fun j hj=>h j (List.mem_range.mp hj)
theorem Cmp.self{H:Hp}: ∀{k:Nat} {v w:V} {b:Bool},Cmp H k v w b->v=w->b=true:=by
 intro k v w b h;induction h with
 | flat f1 f2=>intro e;subst e;exact eqV_self f1
 | tup h1 h2 _ ih=>
  intro e;cases e;rw[h1] at h2;cases h2;exact all_self fun j hj=>ih j _ _ (List.getElem?_eq_getElem hj) (List.getElem?_eq_getElem hj) rfl
 | lst h1 h2 _ ih=>
  intro e;cases e;rw[h1] at h2;cases h2;exact all_self fun j hj=>ih j _ _ (List.getElem?_eq_getElem hj) (List.getElem?_eq_getElem hj) rfl
section
variable {X : Cx} {pins : List (Addr × Obj)} {σ : St} {H : Hp} {s : Shared}
theorem item_at{xs:List V}{its:List Value}{j:Nat}(r:Vals xs its)(h:j < its.toArray.size): ∃x,xs[j]?=some x/\RelV x its.toArray[j]:=by
 have hl:=r.length;have hj:j < its.length:=by simpa using h
 obtain⟨u,e,ru⟩:=r.get (i:=j) (x:=xs[j]'(by lia)) (List.getElem?_eq_getElem _);refine⟨_,List.getElem?_eq_getElem (by lia),?_⟩;have:its.toArray[j]=u:=by have:=(List.getElem?_eq_some_iff.mp e).2;simpa using this
 rw[this];exact ru
theorem Cmp.at(I:Inv X pins σ H s): ∀{k:Nat} {v w:V} {b:Bool},Cmp H k v w b-> ∀{A:Around} {u u':Value},A.units+k < cLine->RelV v u->RelV w u'->SeqAt.EqAt A s u u' b:=by
 intro k v w b h;induction h with
 | flat f1 f2=>intro A u u' _ r1 r2;exact eqAt_V r1 r2 f1 f2
 | @tup k p q xs ys e h1 h2 hc ih=>
  intro A u u' hu r1 r2;cases r1;cases r2;by_cases c:p=q
  . subst c;rw[(Cmp.tup h1 h2 hc).self rfl];exact SeqAt.EqAt.same _
  . obtain⟨its,rv,pl,_⟩:=I.tuple (SqT.of h1);obtain⟨its2,rv2,pl2,_⟩:=I.tuple (SqT.of h2);have g:=SeqAt.RcAt.tuples (A:=A) (s:=s) (e:=e) (show s.heap.IsTuple p _ from pl) (show s.heap.IsTuple q _ from pl2) (by lia) fun j j1 j2=>by
     obtain⟨x,hx,rx⟩:=item_at rv j1;obtain⟨y,hy,ry⟩:=item_at rv2 j2;exact ih j x y hx hy (by show A.units+1+k < cLine;lia) rx ry
    rw[List.size_toArray,List.size_toArray,<-rv.length,<-rv2.length] at g;exact SeqAt.EqAt.of_refs c g
 | @lst k p q xs ys e h1 h2 hc ih=>
  intro A u u' hu r1 r2;cases r1;cases r2;by_cases c:p=q
  . subst c;rw[(Cmp.lst h1 h2 hc).self rfl];exact SeqAt.EqAt.same _
  . obtain⟨its,rv,pl,_⟩:=I.list (SqL.of h1);obtain⟨its2,rv2,pl2,_⟩:=I.list (SqL.of h2);refine SeqAt.EqAt.of_refs c ?_;by_cases l:xs.length=ys.length
    . have g := SeqAt.RcAt.lists (A := A) (s := s) (e := e) pl.isList pl2.isList (by rw[List.size_toArray, List.size_toArray, <- rv.length, <- rv2.length]; exact l) (by lia) fun j j1 j2 => by
        obtain⟨x,hx,rx⟩:=item_at rv j1;obtain⟨y,hy,ry⟩:=item_at rv2 j2;exact ih j x y hx hy (by show A.units+1+k < cLine;lia) rx ry
      rw[List.size_toArray,<-rv.length] at g;rw[<-l,Nat.min_self,beq_self_eq_true,Bool.and_true];exact g
    . have n:(xs.length==ys.length)=false:=by simpa using l
      rw[n,Bool.and_false];exact SeqAt.RcAt.lists_lengths pl.isList pl2.isList (by rw[List.size_toArray,List.size_toArray,<-rv.length,<-rv2.length];simpa using l) (by lia)
end
end L2
namespace LD
open PySem PySem.Spec L2 LB PyProof.Rows
noncomputable def eqX:Nat->Dt->Dt->Bool
 | k+1, .lst ds, .lst es=>(List.range (min ds.length es.length)).all (fun j=>eqX k (ds.getD j .non) (es.getD j .non)) && ds.length==es.length
 | k+1, .tup ds, .tup es=>(List.range (min ds.length es.length)).all (fun j=>eqX k (ds.getD j .non) (es.getD j .non)) && ds.length==es.length
 | _,d,e=>eqD d e
inductive Shp:Nat->Dt->Dt->Prop
 | flat {k:Nat} {d e:Dt}:flatD d=true->flatD e=true->Shp k d e
 | tup {k:Nat} {ds es:List Dt}:(∀(j:Nat) d e,ds[j]?=some d->es[j]?=some e->Shp k d e)->Shp (k+1) (.tup ds) (.tup es)
 | lst {k:Nat} {ds es:List Dt}:(∀(j:Nat) d e,ds[j]?=some d->es[j]?=some e->Shp k d e)->Shp (k+1) (.lst ds) (.lst es)
theorem eqX_flat{k:Nat}{d e:Dt}(h:flatD d=true)(h2:flatD e=true):eqX k d e=eqD d e:=by
 cases k with
 | zero=>unfold eqX;rfl
 | succ k=>cases d <;> cases e <;> first | (unfold eqX;rfl) | cases h | cases h2
theorem cmp_of{M:Addr->Prop}{H:Hp}{k:Nat}{d e:Dt}(z:Shp k d e): ∀{v w:V},Rep M H v d->Rep M H w e->Cmp H k v w (eqX k d e):=by
 induction z with
 | flat f1 f2=>
  intro v w r1 r2;rw[eqX_flat f1 f2,<-eqV_rep r1 r2 f1 f2];exact .flat (flat_rep r1 f1) (flat_rep r2 f2)
 | @tup k ds es _ ih=>
  intro v w r1 r2;obtain⟨p,xs,rfl,h1,_,rr⟩:=r1.ofTup;obtain⟨q,ys,rfl,h2,_,rr2⟩:=r2.ofTup;show Cmp H (k+1) _ _ ((List.range (min ds.length es.length)).all (fun j=>eqX k (ds.getD j .non) (es.getD j .non)) && ds.length==es.length);rw[<-rr.1,<-rr2.1];refine .tup h1 h2 fun j x y hx hy=>?_;have l1:j < ds.length:=by rw[<-rr.1];exact(List.getElem?_eq_some_iff.mp hx).1
  have l2:j < es.length:=by rw[<-rr2.1];exact(List.getElem?_eq_some_iff.mp hy).1
  rw[show ds.getD j .non=ds[j] by simp [List.getD,l1],show es.getD j .non=es[j] by simp [List.getD,l2]];exact ih j _ _ (List.getElem?_eq_getElem l1) (List.getElem?_eq_getElem l2) (rr.2 j _ _ hx (List.getElem?_eq_getElem l1)) (rr2.2 j _ _ hy (List.getElem?_eq_getElem l2))
 | @lst k ds es _ ih=>
  intro v w r1 r2;obtain⟨p,xs,rfl,h1,_,rr⟩:=r1.ofLst;obtain⟨q,ys,rfl,h2,_,rr2⟩:=r2.ofLst;show Cmp H (k+1) _ _ ((List.range (min ds.length es.length)).all (fun j=>eqX k (ds.getD j .non) (es.getD j .non)) && ds.length==es.length);rw[<-rr.1,<-rr2.1];refine .lst h1 h2 fun j x y hx hy=>?_;have l1:j < ds.length:=by rw[<-rr.1];exact(List.getElem?_eq_some_iff.mp hx).1
  have l2:j < es.length:=by rw[<-rr2.1];exact(List.getElem?_eq_some_iff.mp hy).1
  rw[show ds.getD j .non=ds[j] by simp [List.getD,l1],show es.getD j .non=es[j] by simp [List.getD,l2]];exact ih j _ _ (List.getElem?_eq_getElem l1) (List.getElem?_eq_getElem l2) (rr.2 j _ _ hx (List.getElem?_eq_getElem l1)) (rr2.2 j _ _ hy (List.getElem?_eq_getElem l2))
end LD
namespace L2
open PySem PySem.Spec LB PyProof.Rows
section
variable {X : Cx}
def rCmp(k:Nat)(neg:Bool):R2:=fun x y H Q=> ∃p q b,x= .ref p/\y= .ref q/\Cmp H (k+1) (.ref p) (.ref q) b/\Q (.bl (if neg then !b else b)) H
theorem op_neX{k:Nat}(hu:X.A.units+(k+1) < cLine):OpR X (compareOp .NotEq) (rCmp k true):=by
 intro pins s σ H x y v u Q I rx ry h;obtain⟨p,q,b,rfl,rfl,hc,hq⟩:=h;cases rx;cases ry;cases hc with
 | flat f1 _=>cases f1
 | @tup _ _ _ xs ys e h1 h2 hc=>
  obtain⟨its,rv,pl,_⟩:=I.tuple (SqT.of h1);obtain⟨its2,rv2,pl2,_⟩:=I.tuple (SqT.of h2);have g:=SeqAt.RcNeAt.tuples (A:=X.A) (s:=s) (e:=e) (show s.heap.IsTuple p _ from pl) (show s.heap.IsTuple q _ from pl2) (by lia) fun j j1 j2=>by
   obtain⟨x,hx,rx⟩:=item_at rv j1;obtain⟨y,hy,ry⟩:=item_at rv2 j2;exact(hc j x y hx hy).at I (by show X.A.units+1+k < cLine;lia) rx ry
  rw[List.size_toArray,List.size_toArray,<-rv.length,<-rv2.length] at g;exact g _ _ _ _ ⟨.bl _,H,I,rfl,hq⟩
 | @lst _ _ _ xs ys e h1 h2 hc=>
  obtain⟨its,rv,pl,_⟩:=I.list (SqL.of h1);obtain⟨its2,rv2,pl2,_⟩:=I.list (SqL.of h2);by_cases l:xs.length=ys.length
  . have g := SeqAt.RcNeAt.lists (A := X.A) (s := s) (e := e) pl.isList pl2.isList (by rw[List.size_toArray, List.size_toArray, <- rv.length, <- rv2.length]; exact l) (by lia) fun j j1 j2 => by
      obtain⟨x,hx,rx⟩:=item_at rv j1;obtain⟨y,hy,ry⟩:=item_at rv2 j2;exact(hc j x y hx hy).at I (by show X.A.units+1+k < cLine;lia) rx ry
    rw[List.size_toArray,<-rv.length] at g;rw[<-l,Nat.min_self,beq_self_eq_true,Bool.and_true] at hq;exact g _ _ _ _ ⟨.bl _,H,I,rfl,hq⟩
  . have n:(xs.length==ys.length)=false:=by simpa using l
    rw[n,Bool.and_false] at hq;exact(SeqAt.RcNeAt.lists_lengths pl.isList pl2.isList (by rw[List.size_toArray,List.size_toArray,<-rv.length,<-rv2.length];simpa using l) (by lia)) _ _ _ _ ⟨.bl _,H,I,rfl,hq⟩
end
end L2
end
section
namespace LD
open PySem PySem.Spec L2 LB PyProof.Rows
section
variable {X : Cx} {a b e : Expr} {ta tb t : DTE} {tA : DTA} {pos p apos cpos : Pos}
inductive D_cmp(k:Nat)(neg:Bool)(d1 d2:Dt)(Q:Dt->Prop):Prop
 | mk (h1:flatD d1=false) (h2:Shp (k+1) d1 d2) (h3:Q (.bl (if neg then !eqX (k+1) d1 d2 else eqX (k+1) d1 d2)))
theorem do_cmp{k:Nat}{neg:Bool}:DOp (rCmp k neg) (D_cmp k neg):=fun M H x y d1 d2 Qd Q al r1 r2 zz k'=>(by
 obtain⟨h1,h2,q⟩:=zz;have c:=cmp_of h2 r1 r2;have rf: ∃p q,x= .ref p/\y= .ref q:=by
  cases h2 with
  | flat f1 _=>rw[f1] at h1;cases h1
  | tup _=>obtain⟨p,_,e,_⟩:=r1.ofTup;obtain⟨q,_,e2,_⟩:=r2.ofTup;exact⟨p,q,e,e2⟩
  | lst _=>obtain⟨p,_,e,_⟩:=r1.ofLst;obtain⟨q,_,e2,_⟩:=r2.ofLst;exact⟨p,q,e,e2⟩
 obtain⟨p,q',rfl,rfl⟩:=rf;exact⟨p,q',_,rfl,rfl,c,k' H _ _ q (fun _ _ z=>z) (.bl _)⟩)
theorem t_neX(k:Nat)(hu:X.A.units+(k+1) < cLine)(ha:Ev X a ta)(hb:Ev X b tb):Tv X (.Compare a [.NotEq] [b] pos) (dT (dOp (D_cmp k true) ta tb)):=d_test (op_neX hu) do_cmp ha hb (nomark _)
end
end LD
end
section
namespace PySem
open Sem (wp)
open Builtin
theorem noFill_tuple_mul':fillsNumberSlot (.type "tuple") "mul"=pure false:=
 fillsNumberSlot_seq (id:="tuple.__mul__") (r:=some (.builtin "tuple.__rmul__")) F.slot_tuple_mul.lookup (by decide+kernel) F.slot_tuple_rmul.lookup (by decide+kernel)
theorem repeat_tuple':seqRepeat? (.type "tuple")=pure (some (.builtin "tuple.__mul__")):=by
 unfold seqRepeat?;rw[seqSlot_of (T:="tuple") (name:="__mul__") (id:="tuple.__mul__") F.slot_tuple_mul.lookup (by decide+kernel),seqSlot_of (T:="tuple") (name:="__rmul__") (id:="tuple.__rmul__") F.slot_tuple_rmul.lookup (by decide+kernel)];rfl
theorem int___rmul___int_tuple'(a:Int)(t:Tok)(l:Addr)(items:Array Value)(n:Nat)(dd:Option Addr)(sl:Array (Option Value)):
  Meets (Builtin.«int.__rmul__» ⟨[.int a t, .ref l],[]⟩) (fun _ R s=>s.heap.get? l=some {cls:= .type "tuple",dict:=dd,data:= .seq items n,slots:=sl}/\R (.ok (.ret Value.notImplemented)) s):=
 .of_wp fun prog w A R s h=>by obtain⟨hp,g,d,tk,os⟩:=s;obtain⟨hl,h⟩:=h;wp_walk using wpAny_loadPart' hl;exact⟨_,rfl,h⟩
theorem tuple_mulW1(l:Addr)(items:Array Value)(n:Nat)(dd:Option Addr)(sl:Array (Option Value))(t:Tok):
  Meets (Builtin.«tuple.__mul__» ⟨[.ref l, .int 1 t],[]⟩) (fun _ R s=>s.heap.get? l=some {cls:= .type "tuple",dict:=dd,data:= .seq items n,slots:=sl}/\R (.ok (.ret (Value.ref l))) {s with heap:=s.heap,toks:=s.toks}):=
 .of_wp fun prog w A R s h=>by obtain⟨hp,g,d,tk,os⟩:=s;obtain⟨hl,h⟩:=h;have f1:=AutoSeq1.idx_int;wp_walk using wpAny_loadPart' hl;exact⟨_,rfl,h⟩
theorem tuple_mulW2(l:Addr)(items:Array Value)(n:Nat)(dd:Option Addr)(sl:Array (Option Value))(k:Int)(t:Tok)(hfit: ¬(decide (k < -(2^63)) || decide (k>=2^63))=true)(h1: ¬(items.isEmpty || k==1)=true)(h0: ¬(decide (k<=0) || items.isEmpty)=true)
  (hcap: ¬(items.size:Int)*k > (2^63 - 1) / 8) (hmany: ¬Builtin.Tuple.tupleTooMany ((items.size:Int)*k)=true) (hsz:(List.foldl (fun x1 x2=>x1++x2) #[] (List.replicate k.toNat items)).size<=sizeLine):
  Meets (Builtin.«tuple.__mul__» ⟨[.ref l, .int k t],[]⟩) (fun _ R s=>s.heap.get? l=some {cls:= .type "tuple",dict:=dd,data:= .seq items n,slots:=sl}/\R (.ok (.ret (Value.ref s.heap.objs.size))) {s with heap:=s.heap.push {cls:=Value.type "tuple",data:=Data.seq (List.foldl (fun x1 x2=>x1++x2) #[] (List.replicate k.toNat items))},toks:=s.toks}):=
 .of_wp fun prog w A R s h=>by obtain⟨hp,g,d,tk,os⟩:=s;obtain⟨hl,h⟩:=h;have f1:=AutoSeq1.idx_int;wp_walk using wpAny_loadPart' hl;rw[if_neg hfit];dsimp only;wp_walk using wpAny_loadPart' hl;rw[if_neg hcap,if_neg hmany];wp_walk using wpAny_loadPart' hl;exact⟨_,rfl,h⟩
end PySem
namespace L2
open PySem PySem.Spec PyProof.Rows HT
section
variable {X : Cx}
def rRepT:R2:=fun x y H Q=> ∃l k xs,x= .ref l/\y= .int k/\H l=some (.tup xs)/\xs≠ []/\1<=k/\k < 2^63/\xs.length*k.toNat<=sizeLine/\ ∀p H',NewT H (List.replicate k.toNat xs).flatten p H'->Q (.ref p) H'
theorem op_repT:OpR X (binaryOp .Mult) rRepT:=by
 intro pins s σ H x y v u Q I rx ry h;obtain⟨l,k,xs,rfl,rfl,hH,hne,h1,h2,hz,q⟩:=h;cases rx;obtain⟨t,rfl⟩:=ry;obtain⟨its,r,p1,_⟩:=I.tuple (SqT.of hH);obtain⟨⟨c1,d1,t1,l1⟩,a1,a2,n1,a3⟩:=id p1;simp only at a2 a3;subst a2 a3;have hv:its≠ []:=fun z=>hne (r.nil_iff.mp z);have hlen:its.toArray.size*k.toNat<=sizeLine:=by rw[List.size_toArray,<-r.length];exact hz
 refine wpAny_binaryOp_repeat_ref (T:="tuple") (U:="int") (by decide) ⟨_,a1,rfl⟩ (fun s'=>typeIs_int s' k t) noFill_tuple_mul' F.fills_int_mul F.slot_int_rmul repeat_tuple' F.slot_int_index.lookup
  (call_meets F.slot_int_rmul (typeIs_int s k t) F.entry_int_rmul (F.args_int_rmul_2 _ _) (int___rmul___int_tuple' k t l its.toArray n1 d1 l1) ⟨a1,rfl,⟨_,a1,rfl⟩,?_⟩)
 by_cases hk:k=1
 . subst hk;refine call_meets F.slot_tuple_mul ⟨_,a1,rfl⟩ F.entry_tuple_mul (F.args_tuple_mul_2 _ _) (tuple_mulW1 l its.toArray n1 d1 l1 t) ⟨a1,?_⟩;exact⟨.ref l,H,I,rfl,q l H (.inl ⟨rfl,by simpa using hH⟩)⟩
 . have hnew : List.foldl (fun x1 x2 => x1 ++ x2) #[] (List.replicate k.toNat its.toArray) = (List.replicate k.toNat its).flatten.toArray := by
     have:=foldl_rep its k.toNat [];rw[List.nil_append] at this;exact this
   have hmul:((its.toArray.size:Int)*k)=((its.toArray.size*k.toNat:Nat):Int):=by
    rw[Int.natCast_mul,Int.toNat_of_nonneg (by lia)]
   have hsl:(sizeLine:Nat)<=(2^63 - 1) / 8:=by decide
   refine call_meets F.slot_tuple_mul ⟨_,a1,rfl⟩ F.entry_tuple_mul (F.args_tuple_mul_2 _ _) (tuple_mulW2 l its.toArray n1 d1 l1 k t (by simp;lia) (by simp [hv,hk]) (by simp [hv];lia) (by rw[hmul];lia) (by rw[hmul];intro z;have z':=of_decide_eq_true z;lia) (by rw[hnew,List.size_toArray,len_rep];rw[List.size_toArray,Nat.mul_comm] at hlen;exact hlen)) ⟨a1,?_⟩;rw[hnew];refine⟨.ref s.heap.objs.size,_,I.laid (t':=s.toks) (o:= .tup (List.replicate k.toNat xs).flatten) (fun b ob q=>Heap.get?_push_of_some _ q) (Nat.le_refl _) ⟨by rw[len_rep,Nat.mul_comm];exact hz,_,r.rep _,IsTp.new _ _⟩,rfl,q _ _ (.inr ⟨I.hok.fresh (Nat.le_refl _),rfl⟩)⟩
end
end L2
namespace LD
open PySem PySem.Spec L2 PyProof.Rows
section
variable {X : Cx} {a b : Expr} {ta tb : DTE} {pos : Pos}
def D_repT:D2:=fun d1 d2 Q=> ∃ds k,d1= .tup ds/\d2= .int k/\ds≠ []/\1<=k/\k < 2^63/\ds.length*k.toNat<=sizeLine/\Q (.tup (List.replicate k.toNat ds).flatten)
theorem do_repT:DOp rRepT D_repT:=fun M H x y d1 d2 Qd Q al r1 r2 zz1 k=>(by obtain⟨ds,n,e1,e2,ne,h1,h2,l,q⟩:=zz1;exact(by
 subst e1;subst e2;obtain⟨a,xs,rfl,ha,nn,rr⟩:=r1.ofTup;refine⟨a,n,xs,rfl,r2.ofInt,ha,fun z=>ne (by subst z;have:=rr.1;cases ds with | nil=>rfl | cons _ _=>simp at this),h1,h2,by rw[rr.1];exact l,fun p H' nt=>?_⟩;exact k H' _ _ q nt.keep (Rep.toTup nt.at (al.newT nt) ((rr.rep _).same nt.keep))))
theorem d_repT(ha:Ev X a ta)(hb:Ev X b tb):Ev X (.BinOp a .Mult b pos) (dOp D_repT ta tb):=d_op op_repT do_repT ha hb
end
section
variable {X : Cx} {pos : Pos}
def dgTrip(i j l:Nat):DTG:=fun d δ Q=> ∃d1 d2 d3,d= .tup [d1,d2,d3]/\okSet δ i/\okSet (δ.set i (.im d1)) j/\okSet ((δ.set i (.im d1)).set j (.im d2)) l/\Q (((δ.set i (.im d1)).set j (.im d2)).set l (.im d3))
theorem gtrip_read{i j l:Nat}{K:PySem.W.Frag}: ∀v σ H Q,lG (dgTrip i j l) v σ H Q->gTup K 3 (gCons (gName i) (gCons (gName j) (gCons (gName l) gNil))) v σ H Q:=fun v σ H Q zz2=>(by obtain⟨W,M,α,δ,d,Qd,E,r,⟨d1,d2,d3,e,ok1,ok2,ok3,q⟩,k⟩:=zz2;exact(by
 subst e;obtain⟨a,xs,rfl,ha,n,rr⟩:=r.ofTup;obtain⟨x,ys,rfl,r2,r3⟩:=rr.uncons;obtain⟨y,zs,rfl,r4,r5⟩:=r3.uncons;obtain⟨z,ws,rfl,r6,r7⟩:=r5.uncons;cases r7.unnil;exact⟨a,_,rfl,SqT.of ha,rfl,x,_,rfl,y,_,rfl,z,_,rfl,rfl,k _ _ _ q (((E.setIm r2 ok1).setIm r4 ok2).setIm r6 ok3) fun x h=>flat_sub x (flat_sub x (flat_sub x h))⟩))
theorem g_trip(i j l:Nat){x y z:Str}{px py pz:Pos}{kk:Nat}(hc:X.calm=true)(hN:X.N.Nodup)(hi:autoParam (X.N[i]?=some x) au5._auto_1)(hj:autoParam (X.N[j]?=some y) au5._auto_1)(hl:autoParam (X.N[l]?=some z) au5._auto_1)(hx:autoParam (Loc X.env.scope x) au8._auto_1)(hy:autoParam (Loc X.env.scope y) au8._auto_1)(hz:autoParam (Loc X.env.scope z) au8._auto_1)
  (hf:autoParam (X.fn x=true\/X.env.scope.names.lookup x=some .local) au1._auto_1) (hf2:autoParam (X.fn y=true\/X.env.scope.names.lookup y=some .local) au1._auto_1) (hf3:autoParam (X.fn z=true\/X.env.scope.names.lookup z=some .local) au1._auto_1)
  (hn:autoParam ((assignEach [.Name x px, .Name y py, .Name z pz] X.env).length=3) au5._auto_1) (hst:autoParam ((assignEach [.Name x px, .Name y py, .Name z pz] X.env).findIdx? (·.1)=none) au5._auto_1)
  (h1:autoParam ((assignEach [.Name x px, .Name y py, .Name z pz] X.env).map (·.2)=assign (.Name x px) X.env::(assignEach [.Name y py, .Name z pz] X.env).map (·.2)) au5._auto_1) (h2:autoParam ((assignEach [.Name y py, .Name z pz] X.env).map (·.2)=assign (.Name y py) X.env::(assignEach [.Name z pz] X.env).map (·.2)) au5._auto_1) (h3:autoParam ((assignEach [.Name z pz] X.env).map (·.2)=assign (.Name z pz) X.env::(assignEach [] X.env).map (·.2)) au5._auto_1):
  Gv X (.Tuple [.Name x px, .Name y py, .Name z pz] kk pos) (dgTrip i j l):=PG.imp (pg_tup hc (pgs_cons (pg_name hN hi hx hf) (pgs_cons (pg_name hN hj hy hf2) (pgs_cons (pg_name hN hl hz hf3) pgs_nil h3) h2) h1) hn hst) gtrip_read
end
end LD
end
section
namespace LD
open PySem PySem.Spec L2 LB PyProof.Rows
theorem while_abs{u:DTT}{tb:DTS}{Δ:DEnds}{δ:List Sl}(I:Nat->List Sl->Prop)(h0: ∃m,I m δ)
  (h: ∀m δ,I m δ-> ∀Δ':DEnds,(∀m' δ',m' < m->I m' δ'->Δ'.nx δ')->(∀d δ',Δ.rt d δ'->Δ'.rt d δ')->u δ fun b δ1=>if b=true then tb Δ' δ1 else Δ.nx δ1):dWhile u tb Δ δ:=
 ⟨I,h0,fun m δ hI=>h m δ hI _ (fun m' δ' hm hi=>⟨m',hm,hi⟩) fun _ _ z=>z⟩
theorem for_abs{its:List Dt}{g:DTG}{tb:DTS}{Δ:DEnds}{δ1:List Sl}(I:Nat->List Sl->Prop)(h0:I 0 δ1)
  (h: ∀i d δ2,its[i]?=some d->I i δ2-> ∀Δ':DEnds,(∀δ',I (i+1) δ'->Δ'.nx δ')->(∀d δ',Δ.rt d δ'->Δ'.rt d δ')->g d δ2 fun δ3=>tb Δ' δ3) (fin: ∀δ2,I its.length δ2->Δ.nx δ2):
  ∃P:Nat->List Sl->Prop,P 0 δ1/\(∀i d δ2,its[i]?=some d->P i δ2->g d δ2 fun δ3=>tb {Δ with nx:=P (i+1),ct:=P (i+1),bk:=Δ.nx} δ3)/\ ∀δ2,P its.length δ2->Δ.nx δ2:=
 ⟨I,h0,fun i d δ2 e hI=>h i d δ2 e hI _ (fun _ z=>z) fun _ _ z=>z,fin⟩
end LD
end
section
namespace LNk
open PySem L2
section
variable {prog : Program} {w : World} {A : Around} {E : Value -> Shared -> Prop} {s : Shared}
theorem hash_none{Q:Int->Shared->Prop}(h:Q 0xFCA86420 {s with toks:=s.toks+1}):wpAny (model prog w) A (pyHash .none) Q E s:=by
 unfold pyHash;have hv: [Value.none].any Value.onHeap=false:=rfl;refine wpAny_bind ?_;rw[cRoomFor,if_neg (by rw[hv];exact Bool.false_ne_true)];refine wpAny_pure ?_;refine wpAny_bind (wpAny_specialOf (typeIs_none s) F.slot_NoneType_hash.lookup ?_);show wpAny _ _ (if (some (Value.builtin "NoneType.__hash__")==some Value.none)=true then _ else _) Q E s;rw[if_neg (by rw[beq_builtin_none];exact Bool.false_ne_true)];refine wpAny_bind (wpAny_specialOf (typeIs_none s) F.slot_NoneType_hash.lookup ?_);show wpAny _ _ (callSpecialIfBoundUnlessNone? Value.none "__hash__" _ >>=_) Q E s;refine wpAny_bind (wpAny_callSpecialIfBoundUnlessNone?_slot (typeIs_none s) F.slot_NoneType_hash (wpAny_call_entry F.slot_NoneType_hash (typeIs_none s) F.entry_NoneType_hash (show wpAny _ _ (do ret (<-mkInt 0xFCA86420)) _ _ s from wpAny_ret_mkInt ?_) (F.args_NoneType_hash_1 _)));show wpAny _ _ (if (decide (-(2:Int)^63<=0xFCA86420) && decide ((0xFCA86420:Int) < 2^63))=true then _ else _) Q E _;rw[if_pos (by decide)];exact wpAny_pure h
end
noncomputable def oIs:Option Int->Value->Bool
 | none, .none=>true
 | none,_=>false
 | some i,v=>v.isInt i
noncomputable def oHash:Option Int->Int
 | none=>0xFCA86420
 | some i=>hashInt i
theorem oIs_at{k:Option Int}{v:Value}(h:oIs k v=true):(k=none/\v= .none)\/ ∃i t,k=some i/\v= .int i t:=by
 cases k with
 | none=>cases v <;> first | exact .inl ⟨rfl,rfl⟩ | cases h
 | some i=>obtain⟨t,e⟩:=Value.isInt_shape (show v.isInt i=true from h);exact .inr ⟨i,t,rfl,e⟩
noncomputable def optKind(prog:Program)(w:World):PySem.KeyKind prog w (Option Int) where
 is:=oIs
 hash:=oHash
 inj:=fun v a b ha hb=>by
  rcases oIs_at ha with ⟨rfl,rfl⟩ | ⟨i,t,rfl,rfl⟩
  . rcases oIs_at hb with ⟨rfl,_⟩ | ⟨j,u,rfl,e⟩
    . rfl
    . cases e
  . rcases oIs_at hb with ⟨rfl,e⟩ | ⟨j,u,rfl,e⟩
    . cases e
    . injection e with e1 _;rw[e1]
 byValue:=fun k v h=>by rcases oIs_at h with ⟨rfl,rfl⟩ | ⟨i,t,rfl,rfl⟩ <;> rfl
 pyHash:=fun hv h=>by
  rcases oIs_at hv with ⟨rfl,rfl⟩ | ⟨i,t,rfl,rfl⟩
  . exact hash_none h
  . exact wpAny_pyHash_int h
 eqBool:=fun hu hv h=>by
  rcases oIs_at hu with ⟨rfl,rfl⟩ | ⟨i,t,rfl,rfl⟩
  . rcases oIs_at hv with ⟨rfl,rfl⟩ | ⟨j,u,rfl,rfl⟩
    . exact SeqAt.EqAt.same _ _ _ _ _ (by simpa using h)
    . exact SeqAt.EqAt.none_int _ _ _ _ _ _ (by simpa using h)
  . rcases oIs_at hv with ⟨rfl,rfl⟩ | ⟨j,u,rfl,rfl⟩
    . exact SeqAt.EqAt.int_none _ _ _ _ _ _ (by simpa using h)
    . exact wpAny_eqBool_int (by
        have e:decide (some i=some j)=(i==j):=by
         by_cases c:i=j
         . subst c;simp
         . rw[decide_eq_false (fun z=>c (Option.some.inj z))];exact(beq_eq_false_iff_ne.mpr c).symm
        rw[e] at h;exact h)
 «strs» :=fun k x t v h=>by rcases oIs_at h with ⟨_,e⟩ | ⟨_,_,_,e⟩ <;> cases e
abbrev SK:=List Int × Int × List (Option Int)
def IsSK(prog:Program)(w:World)(h:Heap)(k:SK)(a:Addr):Prop:= ∃o n a1 t a2,h.get? a=some o/\o.cls= .type "tuple"/\o.data= .seq #[.ref a1, .int k.2.1 t, .ref a2] n/\IsTupleKey (intKind prog w) h k.1 a1/\IsTupleKey (optKind prog w) h k.2.2 a2
noncomputable def skHash(prog:Program)(w:World)(k:SK):Int:=reduceHash (Builtin.Tuple.tupleHashOf [tupleKeyHash (intKind prog w) k.1,hashInt k.2.1,tupleKeyHash (optKind prog w) k.2.2])
section
variable {prog : Program} {w : World} {A : Around} {E : Value -> Shared -> Prop} {s : Shared}
theorem IsSK.typeIs{k:SK}{a:Addr}(x:IsSK prog w s.heap k a):s.TypeIs (.ref a) "tuple":=let ⟨o,_,_,_,_,ho,hc,_⟩:=x;⟨o,ho,hc⟩
theorem IsSK.inj{h:Heap}{x y:SK}{a:Addr}(hx:IsSK prog w h x a)(hy:IsSK prog w h y a):x=y:=by
 obtain⟨o,n,a1,t,a2,ho,_,hd,h1,h2⟩:=hx;obtain⟨o',n',a1',t',a2',ho',_,hd',h1',h2'⟩:=hy;obtain rfl:o=o':=Option.some.inj (ho.symm.trans ho');rw[hd] at hd';simp only [Data.seq.injEq,List.toArray_inj,Array.mk.injEq,List.cons.injEq,Value.ref.injEq,Value.int.injEq,and_true] at hd';obtain⟨⟨rfl,⟨e,_⟩,rfl⟩,_⟩:=hd';exact Prod.ext (h1.inj h1') (Prod.ext e (h2.inj h2'))
theorem IsSK.keeps{h h':Heap}{k:SK}{a d:Addr}{o:Obj}{es ep}(x:IsSK prog w h k a)(ho:h.get? d=some o)(hd:o.data= .dict es ep)(hs:Heap.SameBut d h h'):IsSK prog w h' k a:=by
 obtain⟨o',n,a1,t,a2,ho',hc,hd',h1,h2⟩:=x;have hne:a≠d:=by
  rintro rfl
  obtain rfl:o'=o:=Option.some.inj (ho'.symm.trans ho);rw[hd] at hd';exact nomatch hd'
 exact⟨o',n,a1,t,a2,(hs.2 a hne).trans ho',hc,hd',h1.keeps ho hd hs,h2.keeps ho hd hs⟩
theorem sk_hash{k:SK}{a:Addr}{Q:Int->Shared->Prop}(hu:A.units+1 < cLine)(hk:IsSK prog w s.heap k a)(h:Q (skHash prog w k) {s with toks:=s.toks+(k.1.length+k.2.2.length+4)}):
  wpAny (model prog w) A (pyHash (.ref a)) Q E s:=by
 have hT:=hk.typeIs;obtain⟨p,b,q⟩:=k;obtain⟨o,n,a1,t,a2,ho,_,hd,h1,h2⟩:=hk;unfold pyHash;first | unfold pyHashByItsType | skip
 first | refine wpAny_bind (wpAny_cRoomFor_or (.inr (by lia)) ?_) | skip
 refine wpAny_bind (wpAny_specialOf hT F.slot_tuple_hash.lookup ?_);show wpAny _ _ (if (some (Value.builtin "tuple.__hash__")==some Value.none)=true then _ else _) Q E s;rw[if_neg (by rw[beq_builtin_none];exact Bool.false_ne_true)];refine wpAny_bind (wpAny_specialOf hT F.slot_tuple_hash.lookup ?_);show wpAny _ _ (callSpecialIfBoundUnlessNone? (.ref a) "__hash__" _ >>=_) Q E s;refine wpAny_bind (wpAny_callSpecialIfBoundUnlessNone?_slot hT F.slot_tuple_hash (wpAny_call_entry F.slot_tuple_hash hT F.entry_tuple_hash ?_ (F.args_tuple_hash_1 _)));show wpAny _ _ (Builtin.Tuple.tupleItemsOf (.ref a) >>=_) _ _ s;refine wpAny_bind (wpAny_tupleItemsOf ho hd ?_);refine wpAny_bind ?_;rw[<-Array.forIn_toList];show wpAny _ _ (forIn [Value.ref a1,Value.int b t,Value.ref a2] _ _) _ _ s;have hu1:A.in1.units < cLine:=tupleKind_room_in1 (knd:=intKind prog w) hu;rw[List.forIn_cons];refine wpAny_bind (wpAny_bind (wpAny_pyHash_tuple hu1 h1 (wpAny_pure ?_)));dsimp only;rw[List.forIn_cons];refine wpAny_bind (wpAny_bind (wpAny_pyHash_int (wpAny_pure ?_)));dsimp only;rw[List.forIn_cons];refine wpAny_bind (wpAny_bind (wpAny_pyHash_tuple hu1 h2 (wpAny_pure ?_)));dsimp only;rw[List.forIn_nil];refine wpAny_pure ?_;show wpAny _ _ (retInt (Builtin.Tuple.tupleHashOf [tupleKeyHash (intKind prog w) p,hashInt b,tupleKeyHash (optKind prog w) q])) _ _ _;generalize hz:Builtin.Tuple.tupleHashOf [tupleKeyHash (intKind prog w) p,hashInt b,tupleKeyHash (optKind prog w) q]=z;refine wpAny_ret_mkInt ?_;show wpAny _ _ (if (decide (-(2:Int)^63<=z) && decide (z < 2^63))=true then _ else _) Q E _;have e:skHash prog w (p,b,q)=reduceHash z:=by unfold skHash;rw[hz]
 rw[e] at h;unfold reduceHash at h;have et:s.toks+(p.length+1)+1+(q.length+1)+1=s.toks+(p.length+q.length+4):=by lia
 by_cases hr:(decide (-(2:Int)^63<=z) && decide (z < 2^63))=true
 . rw[if_pos hr];rw[if_pos hr] at h;refine wpAny_pure ?_;dsimp only at h ⊢;rw[et];exact h
 . rw[if_neg hr];rw[if_neg hr] at h;refine wpAny_bind (wpAny_rule (wpAny_pure ?_));dsimp only at h ⊢;rw[et];exact h
theorem sk_eq_tree{x y:SK}{a b:Addr}{P:Fin->Shared->Prop}(hu:A.units < cLine)(hx:IsSK prog w s.heap x a)(hy:IsSK prog w s.heap y b)(h:P (.done (.ret (.bool (decide (x=y))))) s):
  wpAny (model prog w) A (Builtin.«tuple.__eq__» ⟨[.ref a, .ref b],[]⟩) P E s:=by
 have hTb:=hy.typeIs;obtain⟨p,i,q⟩:=x;obtain⟨p',i',q'⟩:=y;obtain⟨oa,na,a1,t,a2,hoa,_,hda,h1,h2⟩:=hx;obtain⟨ob,nb,b1,u,b2,hob,_,hdb,g1,g2⟩:=hy;show wpAny _ _ (isInstance (.ref b) (.type "tuple") >>=_) _ _ s;refine wpAny_bind (wpAny_isInstance hTb isSubtype_tuple_tuple ?_);simp only [Bool.not_true,Bool.false_eq_true,if_false];refine wpAny_bind (wpAny_tupleItemsOf hoa hda ?_);refine wpAny_bind (wpAny_tupleItemsOf hob hdb ?_);refine wpAny_bind ?_;show wpAny _ _ (forIn [(Value.ref a1,Value.ref b1),(Value.int i t,Value.int i' u),(Value.ref a2,Value.ref b2)] _ _) _ _ s;rw[List.forIn_cons];refine wpAny_bind (wpAny_bind (wpAny_eqBool_tuple hu h1 g1 ?_));by_cases c1:p=p'
 . subst c1;rw[decide_eq_true rfl];simp only [Bool.not_true,Bool.false_eq_true,if_false];refine wpAny_pure ?_;dsimp only;rw[List.forIn_cons];refine wpAny_bind (wpAny_bind (wpAny_eqBool_int ?_));by_cases c2:i=i'
   . subst c2;rw[beq_self_eq_true];simp only [Bool.not_true,Bool.false_eq_true,if_false];refine wpAny_pure ?_;dsimp only;rw[List.forIn_cons];refine wpAny_bind (wpAny_bind (wpAny_eqBool_tuple hu h2 g2 ?_));by_cases c3:q=q'
     . subst c3;rw[decide_eq_true rfl] at h ⊢;simp only [Bool.not_true,Bool.false_eq_true,if_false];refine wpAny_pure ?_;dsimp only;rw[List.forIn_nil];exact wpAny_pure (wpAny_pure h)
     . rw[decide_eq_false c3];rw[decide_eq_false (fun z=>c3 (congrArg (fun k:SK=>k.2.2) z))] at h;simp only [Bool.not_false,if_true];exact wpAny_bind (wpAny_pure (wpAny_pure (wpAny_pure (wpAny_pure h))))
   . rw[beq_eq_false_iff_ne.mpr c2];rw[decide_eq_false (fun z=>c2 (congrArg (fun k:SK=>k.2.1) z))] at h;simp only [Bool.not_false,if_true];exact wpAny_bind (wpAny_pure (wpAny_pure (wpAny_pure (wpAny_pure h))))
 . rw[decide_eq_false c1];rw[decide_eq_false (fun z=>c1 (congrArg (fun k:SK=>k.1) z))] at h;simp only [Bool.not_false,if_true];exact wpAny_bind (wpAny_pure (wpAny_pure (wpAny_pure (wpAny_pure h))))
theorem sk_eq{x y:SK}{a b:Addr}{Q:Bool->Shared->Prop}(hu:A.units+1 < cLine)(hx:IsSK prog w s.heap x a)(hy:IsSK prog w s.heap y b)(h:Q (decide (x=y)) s):
  wpAny (model prog w) A (eqBool (.ref a) (.ref b)) Q E s:=by
 unfold eqBool;try with_reducible refine wpAny_holding ?_
 show wpAny _ _ (if (Value.ref a==Value.ref b)=true then _ else _) Q E s;by_cases hab:(Value.ref a==Value.ref b)=true
 . rw[if_pos hab];have e:a=b:=by have:=eq_of_beq hab;injection this
   subst e;obtain rfl:=hx.inj hy;exact wpAny_bind (wpAny_rule (wpAny_pure (by simpa using h)))
 . rw[if_neg hab];exact wpAny_bind (wpAny_richCompare_same_room (op:= .Eq) hx.typeIs hy.typeIs F.slot_tuple_eq
    (wpAny_call_entry F.slot_tuple_eq hx.typeIs F.entry_tuple_eq (sk_eq_tree (tupleKind_room_in1 (knd:=intKind prog w) hu) hx hy ⟨_,rfl,(fun e=>nomatch e),wpAny_truthy_bool h⟩) (F.args_tuple_eq_2 _ _)) (by lia))
theorem quiet_tuple{K:Type} [DecidableEq K]{knd:KeyKind prog w K}{ks:List K}{a:Addr}{Q:Bool->Shared->Prop}(m:Nat)(hk:IsTupleKey knd s.heap ks a)(h:Q true s):wpAny (model prog w) A (eqIsQuiet (m+1) (.ref a)) Q E s:=by
 have hT:=hk.typeIs;obtain⟨o,items,n,ho,_,hd,hi⟩:=hk;unfold eqIsQuiet;refine wpAny_bind (wpAny_specialOf hT F.slot_tuple_eq.lookup ?_);show wpAny _ _ (isInstance (.ref a) (.type "tuple") >>=_) _ _ s;refine wpAny_bind (wpAny_isInstance hT isSubtype_tuple_tuple ?_);simp only [Bool.not_true,Bool.false_eq_true,if_false];refine wpAny_bind (wpAny_seqItems ho hd ?_);refine wpAny_bind ?_;show wpAny _ _ (forIn items _ _) _ _ s;rw[<-Array.forIn_toList];refine wpAny_forIn_list _ (fun rest r s'=>r.1=none/\s'=s/\ ∀v∈rest,carriedByValue v=true) _ ?_ ?_ _ _ ⟨rfl,rfl,hi.byValue⟩
 . rintro v rest r s' ⟨hr,rfl,hall⟩
   rw[eqIsQuiet_byValue _ (hall v List.mem_cons_self)];refine wpAny_bind (wpAny_pure ?_);simp only [Bool.not_true,Bool.false_eq_true,if_false];exact wpAny_pure ⟨rfl,rfl,fun u hu'=>hall u (List.mem_cons_of_mem _ hu')⟩
 . rintro⟨r1,r2⟩ s' ⟨hr,rfl,_⟩
   simp only at hr;subst hr;exact wpAny_pure h
theorem sk_quiet{k:SK}{a:Addr}{Q:Bool->Shared->Prop}(hk:IsSK prog w s.heap k a)(h:Q true s):wpAny (model prog w) A (eqIsQuiet 8 (.ref a)) Q E s:=by
 have hT:=hk.typeIs;obtain⟨o,n,a1,t,a2,ho,_,hd,h1,h2⟩:=hk;unfold eqIsQuiet;refine wpAny_bind (wpAny_specialOf hT F.slot_tuple_eq.lookup ?_);show wpAny _ _ (isInstance (.ref a) (.type "tuple") >>=_) _ _ s;refine wpAny_bind (wpAny_isInstance hT isSubtype_tuple_tuple ?_);simp only [Bool.not_true,Bool.false_eq_true,if_false];refine wpAny_bind (wpAny_seqItems ho hd ?_);refine wpAny_bind ?_;show wpAny _ _ (forIn #[Value.ref a1,Value.int k.2.1 t,Value.ref a2] _ _) _ _ s;rw[<-Array.forIn_toList];show wpAny _ _ (forIn [Value.ref a1,Value.int k.2.1 t,Value.ref a2] _ _) _ _ s;rw[List.forIn_cons];refine wpAny_bind (wpAny_bind (quiet_tuple 6 h1 ?_));simp only [Bool.not_true,Bool.false_eq_true,if_false];refine wpAny_pure ?_;dsimp only;rw[List.forIn_cons,eqIsQuiet_byValue _ (show carriedByValue (Value.int k.2.1 t)=true from rfl)];refine wpAny_bind (wpAny_bind (wpAny_pure ?_));simp only [Bool.not_true,Bool.false_eq_true,if_false];refine wpAny_pure ?_;dsimp only;rw[List.forIn_cons];refine wpAny_bind (wpAny_bind (quiet_tuple 6 h2 ?_));simp only [Bool.not_true,Bool.false_eq_true,if_false];refine wpAny_pure ?_;dsimp only;rw[List.forIn_nil];exact wpAny_pure (wpAny_pure h)
end
noncomputable def skKind(prog:Program)(w:World):HeapKind prog w SK where
 is:=IsSK prog w
 hash:=skHash prog w
 draws:=fun k=>k.1.length+k.2.2.length+4
 room:=fun A=>A.units+1 < cLine
 inj:=fun hx hy=>hx.inj hy
 keeps:=fun x ho hd hs=>x.keeps ho hd hs
 pyHash:=fun hu hk h=>sk_hash hu hk h
 eqBool:=fun hu hx hy h=>sk_eq hu hx hy h
 quiet:=fun hk h=>sk_quiet hk h
end LNk
end
section
namespace LNk
open PySem PySem.Spec L2 PyProof.Rows
abbrev SE:=SK × Addr × V
def RelE(p:SE)(q:SK × Addr × Value):Prop:=p.1=q.1/\p.2.1=q.2.1/\RelV p.2.2 q.2.2
def sdF(P:Program)(w:World)(a:Addr)(xs:List SE):Heap->Prop:=fun h=>xs.length<=sizeLine/\(a==sysModules)=false/\ ∃ys,Paired RelE xs ys/\ ∃o es ep,h.get? a=some o/\o.ExactDict/\o.data= .dict es ep/\es.toList=ys.map (entryOfKey (skKind P w))/\(ys.map (·.1)).Nodup
noncomputable def sdH(P:Program)(w:World)(a:Addr)(xs:List SE):HO:= .ext (sdF P w a xs)
noncomputable def oV:Option Int->V
 | none=> .non
 | some i=> .int i
def KeyAt(H:Hp)(k:SK)(b:Addr):Prop:= ∃b1 b2,H b=some (.tup [.ref b1, .int k.2.1, .ref b2])/\H b1=some (.tup (k.1.map V.int))/\H b2=some (.tup (k.2.2.map oV))
structure SdAt(P:Program)(w:World)(H:Hp)(a:Addr)(xs:List SE):Prop where
 h:H a=some (sdH P w a xs)
 k: ∀x∈xs,KeyAt H x.1 x.2.1
noncomputable def valE(xs:List SE)(k:SK):Option V:=(xs.find? fun x=>decide (x.1=k)).map (·.2.2)
noncomputable def putE(xs:List SE)(k:SK)(b:Addr)(v:V):List SE:=if (valE xs k).isSome then xs.map (fun x=>if x.1=k then(x.1,x.2.1,v) else x) else xs++ [(k,b,v)]
section
variable {P : Program} {w : World} {H H' : Hp} {h h' : Heap} {a b : Addr} {k : SK} {xs : List SE} {ys : List (SK × Addr × Value)} {v : V}
theorem ints_are{ks:List Int}: ∀{us:List Value},Vals (ks.map V.int) us->ItemsAre (intKind P w) ks us:=by
 induction ks with
 | nil=>intro us r;cases r;exact .nil
 | cons i ks ih=>
  intro us r;rw[List.map_cons] at r;cases r with
  | cons h t=>
   obtain⟨tk,rfl⟩:=h;exact .cons (by show Value.isInt i (.int i tk)=true;simp [Value.isInt]) (ih t)
theorem opts_are{ks:List (Option Int)}: ∀{us:List Value},Vals (ks.map oV) us->ItemsAre (optKind P w) ks us:=by
 induction ks with
 | nil=>intro us r;cases r;exact .nil
 | cons i ks ih=>
  intro us r;rw[List.map_cons] at r;cases r with
  | cons h t=>
   cases i with
   | none=>cases (show _=Value.none from h);exact .cons rfl (ih t)
   | some i=>
    obtain⟨tk,rfl⟩:=h;exact .cons (by show Value.isInt i (.int i tk)=true;simp [Value.isInt]) (ih t)
theorem KeyAt.is(ok:HOk P w H h)(x:KeyAt H k b):(skKind P w).is h k b:=by
 obtain⟨b1,b2,e,e1,e2⟩:=x;obtain⟨_,its,r,o,h1,h2,_,n,h3⟩:=(show ObjOk P w H h b (.tup [.ref b1, .int k.2.1, .ref b2]) from ok b _ e)
 obtain⟨_,it1,r1,o1,g1,g2,_,n1,g3⟩:=(show ObjOk P w H h b1 (.tup (k.1.map V.int)) from ok b1 _ e1)
 obtain⟨_,it2,r2,o2,f1,f2,_,n2,f3⟩:=(show ObjOk P w H h b2 (.tup (k.2.2.map oV)) from ok b2 _ e2)
 cases r with
 | cons q1 r=>cases r with
  | cons q2 r=>cases r with
   | cons q3 r=>
    cases r;cases (show _=Value.ref b1 from q1);obtain⟨t,rfl⟩:=q2;cases (show _=Value.ref b2 from q3);exact⟨o,n,b1,t,b2,h1,h2,h3,⟨o1,it1.toArray,n1,g1,g2,g3,by simpa using ints_are r1⟩,⟨o2,it2.toArray,n2,f1,f2,f3,by simpa using opts_are r2⟩⟩
theorem sd_of(ok:HOk P w H h)(d:SdAt P w H a xs):xs.length<=sizeLine/\(a==sysModules)=false/\ ∃ys,Paired RelE xs ys/\h.DictOfH (skKind P w) a ys:=by
 obtain⟨⟨z,y,ys,r,o,es,ep,h1,h2,h3,h4,h5⟩,_,_⟩:=(show ObjOk P w H h a (sdH P w a xs) from ok a _ d.h)
 refine⟨z,y,ys,r,o,es,ep,h1,h2,h3,h4,?_,h5⟩;have all: ∀{l:List SE} {m:List (SK × Addr × Value)},Paired RelE l m->(∀x∈l,KeyAt H x.1 x.2.1)-> ∀x∈m,(skKind P w).is h x.1 x.2.1:=by
  intro l m q;induction q with
  | nil=>intro _ x hx;exact nomatch hx
  | @cons p q ps qs hq t ih=>
   intro hk x hx;rcases List.mem_cons.mp hx with e | hx
   . subst e;have:=(hk p (by simp)).is ok;rw[hq.1,hq.2.1] at this;exact this
   . exact ih (fun x hx=>hk x (List.mem_cons_of_mem _ hx)) x hx
 exact all r d.k
theorem rel_val(r:Paired RelE xs ys)(k:SK):RelO (valE xs k) ((atKey ys k).map (·.2)):=by
 induction r with
 | nil=>exact True.intro
 | @cons p q ps qs h t ih=>
  obtain⟨h1,_,h2⟩:=h;by_cases e:p.1=k
  . have e':q.1=k:=h1.symm.trans e;have b1:atKey (q::qs) k=some q.2:=by simp [atKey,List.find?_cons,e']
    have b2:valE (p::ps) k=some p.2.2:=by simp [valE,List.find?_cons,e]
    rw[b1,b2];exact h2
  . have e': ¬q.1=k:=fun z=>e (h1.trans z);have b1:atKey (q::qs) k=atKey qs k:=by simp [atKey,List.find?_cons,e']
    have b2:valE (p::ps) k=valE ps k:=by simp [valE,List.find?_cons,e]
    rw[b1,b2];exact ih
theorem rel_repl(r:Paired RelE xs ys)(k:SK){u:Value}(ru:RelV v u):Paired RelE (xs.map fun x=>if x.1=k then(x.1,x.2.1,v) else x) (ys.map (putAt k u)):=by
 induction r with
 | nil=>exact .nil
 | @cons p q ps qs h t ih=>
  rw[List.map_cons,List.map_cons];refine .cons ?_ ih;obtain⟨h1,h2,h3⟩:=h;unfold putAt;by_cases e:p.1=k
  . rw[if_pos e,if_pos (h1.symm.trans e)];exact⟨h1,h2,ru⟩
  . rw[if_neg e,if_neg (fun z=>e (h1.trans z))];exact⟨h1,h2,h3⟩
theorem rel_put(r:Paired RelE xs ys)(k:SK){u:Value}(ru:RelV v u):Paired RelE (putE xs k b v) (storedH ys k b u):=by
 have e:(valE xs k).isSome=(atKey ys k).isSome:=by rw[(rel_val r k).isSome_eq,Option.isSome_map]
 unfold putE storedH;rw[e];by_cases q:(atKey ys k).isSome=true
 . rw[if_pos q,if_pos q];exact rel_repl r k ru
 . rw[if_neg q,if_neg q];exact Paired.snoc r ⟨rfl,rfl,ru⟩
theorem putE_len:(putE xs k b v).length<=xs.length+1:=by
 unfold putE;split
 . rw[List.length_map];exact Nat.le_succ _
 . rw[List.length_append];exact Nat.le_refl _
theorem putE_keys{R:SK->Addr->Prop}(h: ∀x∈xs,R x.1 x.2.1)(hb:R k b): ∀x∈putE xs k b v,R x.1 x.2.1:=by
 intro x hx;unfold putE at hx;split at hx
 . obtain⟨y,hy,rfl⟩:=List.mem_map.mp hx;split
   . exact h y hy
   . exact h y hy
 . rcases List.mem_append.mp hx with z | z
   . exact h x z
   . rw[List.mem_singleton.mp z];exact hb
end
section
variable {X : Cx} {pins : List (Addr × Obj)} {σ : L2.St} {H : Hp} {s : Shared} {a b : Addr} {k : SK} {xs : List SE} {v : V} {u r : Value} {A : Around} {E : Value -> Shared -> Prop}
theorem sd_setItem{Q:Unit->Shared->Prop}(hu:A.units+2 < cLine)(I:Inv X pins σ H s)(d:SdAt X.prog X.w H a xs)(hk:KeyAt H k b)(hl:xs.length < sizeLine)(rv:RelV v r)(h: ∀s',Inv X pins σ (upd H a (sdH X.prog X.w a (putE xs k b v))) s'->Q () s'):
  wpAny (model X.prog X.w) A (setItem (.ref a) (.ref b) r) Q E s:=by
 obtain⟨z,hd,ys,rel,dd⟩:=sd_of I.hok d;have hz:ys.length<=sizeLine:=by rw[<-Paired.length rel];exact z
 have hl:(putE xs k b v).length<=sizeLine:=by have:=putE_len (xs:=xs) (k:=k) (b:=b) (v:=v);lia
 refine wpAny_setItem_heap (knd:=skKind X.prog X.w) (hsz:=hz) (show A.in1.units+1 < cLine by have:A.in1.units=A.units+1:=rfl;lia) (hk.is I.hok) dd fun h' dd' hs=>h _ ?_;obtain⟨q,es,ep,hq,h2,h3,h4,_,h5⟩:=dd';have pr:=rel_put (b:=b) rel k rv;refine d_write I (by rw[d.h];exact True.intro) hs ⟨q,hq⟩ ⟨⟨hl,hd,_,pr,q,es,ep,hq,h2,h3,h4,h5⟩,⟨q,hq⟩,fun h1 h2' f k2=>?_⟩;obtain⟨f1,f2,zs,f3,o,es',ep',f4,f5⟩:=f;exact⟨f1,f2,zs,f3,o,es',ep',k2 _ f4,f5⟩
theorem sd_empty{P:Program}{w:World}{H:Hp}(h:Heap)(hb:sysModules < h.objs.size):ObjOk P w H (h.push {cls:= .type "dict",data:= .dict #[]}) h.objs.size (sdH P w h.objs.size []):=
 ⟨⟨Nat.zero_le _,beq_eq_false_iff_ne.mpr (Ne.symm (Nat.ne_of_lt hb)),[], .nil,_,#[],0,Heap.get?_push_size _ rfl,⟨rfl,rfl,rfl⟩,rfl,rfl,List.nodup_nil⟩,⟨_,Heap.get?_push_size _ rfl⟩,fun h1 h2' f k2=>by
  obtain⟨f1,f2,zs,f3,o,es',ep',f4,f5⟩:=f;exact⟨f1,f2,zs,f3,o,es',ep',k2 _ f4,f5⟩⟩
end
def sSPut(td ty tv:TE)(P:Program)(w:World):TS:=fun D σ H=>tv σ H fun v H1=>td σ H1 fun x H2=>ty σ H2 fun y H3=> ∃a b xs k,x= .ref a/\y= .ref b/\SdAt P w H3 a xs/\KeyAt H3 k b/\xs.length < sizeLine/\D.nx σ (upd H3 a (sdH P w a (putE xs k b v)))
section
variable {X : Cx} {o i e f value : Expr} {pos pos' tpos apos cpos : Pos} {td ty tv tx : TE}
theorem ps_sput(hu:X.A.units+2 < cLine)(ho:PE X o td)(hi:PE X i ty)(hv:PE X value tv)(hs:swapsWith value (some (.Subscript o i pos')) pos.line X.env=pure false):
  PS X (.Assign [.Subscript o i pos'] value pos) (sSPut td ty tv X.prog X.w):=by
 intro pins s σ H D I h;refine wpAny_Assign_Subscript (thn (hv pins s σ H _ I h) fun r s1 ⟨v,H1,I1,rv,q1⟩=>thn (ho pins s1 σ H1 _ I1 q1) fun u s2 ⟨x,H2,I2,rx,q2⟩=>thn (hi pins s2 σ H2 _ I2 q2) fun iv s3 zz99=>?_) hs;obtain⟨y,H3,I3,ry,a,b,xs,k,ex,ey,d,hk,hl,q3⟩:=zz99;subst ex;subst ey;obtain rfl:u=Value.ref a:=rx;obtain rfl:iv=Value.ref b:=ry;exact sd_setItem hu I3 d hk hl rv fun s4 I4=>⟨σ,_,I4,q3⟩
end
end LNk
end
section
namespace K34
open PySem L2 LB LD PyProof.Rows
noncomputable def top(i:Nat):Stmt:=PySem.Challenge.pw_hungwords_k34_what_may_come_of_a_stand.main.body.getD i (.Pass ⟨0,0,0,0⟩)
noncomputable abbrev sAllowed:Stmt:=top 1
noncomputable abbrev sAllowedOf:Stmt:=top 2
noncomputable abbrev sLBegin:Stmt:=top 4
noncomputable abbrev sLTake:Stmt:=top 5
noncomputable abbrev sLSame:Stmt:=top 6
noncomputable abbrev sLMay:Stmt:=top 7
noncomputable abbrev sLBehind:Stmt:=top 8
noncomputable abbrev sLEnd:Stmt:=top 9
noncomputable abbrev sLEnds:Stmt:=top 10
noncomputable abbrev sLTaken:Stmt:=top 11
noncomputable abbrev sLIsHanging:Stmt:=top 12
noncomputable abbrev sLIsPlain:Stmt:=top 13
noncomputable abbrev sLAll:Stmt:=top 14
noncomputable abbrev sLSentences:Stmt:=top 15
noncomputable abbrev sLRight:Stmt:=top 16
noncomputable abbrev sLaw:Stmt:=top 17
structure Txt(mg:Str->Option Value):Prop where
 isi:mg "isinstance"=none
 len:mg "len"=none
 enu:mg "enumerate"=none
 tup:mg "tuple"=none
 int:mg "int"=none
 bool:mg "bool"=none
 rng:mg "range"=none
 lst:mg "list"=none
 dvm:mg "divmod"=none
 all:mg "all"=none
 str:mg "str"=none
 zip:mg "zip"=none
 srt:mg "sorted"=none
 max:mg "max"=none
 min:mg "min"=none
 set:mg "set"=none
theorem scAllowed:FnScope ["stand"] ["stand"] (defScope sAllowed):=⟨rfl,rfl,rfl,by decide+kernel,rfl,by decide+kernel,by decide+kernel⟩
theorem scAllowedOf:FnScope ["stand","word","pile","ahead","ons","bottomed","coming"] ["stand","word"] (defScope sAllowedOf):=⟨rfl,rfl,rfl,by decide+kernel,rfl,by decide+kernel,by decide+kernel⟩
theorem scLBegin:FnScope ["_law_script","_law_cells"] ["_law_script"] (defScope sLBegin):=⟨rfl,rfl,rfl,by decide+kernel,rfl,by decide+kernel,by decide+kernel⟩
theorem scLTake:FnScope ["_law_state","_law_many","_law_turn","_law_place","_law_cell","_law_digit","_law_stirred"] ["_law_state","_law_many"] (defScope sLTake):=⟨rfl,rfl,rfl,by decide+kernel,rfl,by decide+kernel,by decide+kernel⟩
theorem scLSame:FnScope ["_law_found","_law_due"] ["_law_found","_law_due"] (defScope sLSame):=⟨rfl,rfl,rfl,by decide+kernel,rfl,by decide+kernel,by decide+kernel⟩
theorem scLMay:FnScope ["_law_stand","_law_pile","_law_coming","_law_ons","_law_more"] ["_law_stand"] (defScope sLMay):=⟨rfl,rfl,rfl,by decide+kernel,rfl,by decide+kernel,by decide+kernel⟩
theorem scLBehind:FnScope ["_law_stand","_law_word","_law_pile","_law_coming","_law_ons","_law_on"] ["_law_stand","_law_word"] (defScope sLBehind):=⟨rfl,rfl,rfl,by decide+kernel,rfl,by decide+kernel,by decide+kernel⟩
theorem scLEnd:FnScope ["_law_stand","_law_pile","_law_coming","_law_ons"] ["_law_stand"] (defScope sLEnd):=⟨rfl,rfl,rfl,by decide+kernel,rfl,by decide+kernel,by decide+kernel⟩
theorem scLEnds:FnScope ["_law_stand","_law_known","_law_waiting","_law_found","_law_here","_law_word","_law_behind_here"] ["_law_stand"] (defScope sLEnds):=⟨rfl,rfl,rfl,by decide+kernel,rfl,by decide+kernel,by decide+kernel⟩
theorem scLTaken:FnScope ["_law_state","_law_many","_law_most","_law_stand","_law_steps","_law_turn","_law_some"] ["_law_state","_law_many","_law_most"] (defScope sLTaken):=⟨rfl,rfl,rfl,by decide+kernel,rfl,by decide+kernel,by decide+kernel⟩
theorem scLIsHanging:FnScope ["_law_h","_law_word","_law_here","_law_many"] ["_law_h"] (defScope sLIsHanging):=⟨rfl,rfl,rfl,by decide+kernel,rfl,by decide+kernel,by decide+kernel⟩
theorem scLIsPlain:FnScope ["_law_h","_law_some","_law_a","_law_b"] ["_law_h"] (defScope sLIsPlain):=⟨rfl,rfl,rfl,by decide+kernel,rfl,by decide+kernel,by decide+kernel⟩
theorem scLAll:FnScope ["_law_many","_law_found","_law_word","_law_longer","_law_h"] ["_law_many"] (defScope sLAll):=⟨rfl,rfl,rfl,by decide+kernel,rfl,by decide+kernel,by decide+kernel⟩
theorem scLSentences:FnScope ["_law_stand","_law_pile","_law_coming","_law_ons","_law_ahead","_law_found","_law_word","_law_on"] ["_law_stand"] (defScope sLSentences):=⟨rfl,rfl,rfl,by decide+kernel,rfl,by decide+kernel,by decide+kernel⟩
theorem scLRight:FnScope ["_law_stand","_law_due","_law_again","_law_found","_law_some"] ["_law_stand"] (defScope sLRight):=⟨rfl,rfl,rfl,by decide+kernel,rfl,by decide+kernel,by decide+kernel⟩
theorem scLaw:FnScope ["_law_script","_law_state","_law_turn","_law_many","_law_every","_law_stand","_law_ends_here","_law_some"] ["_law_script"] (defScope sLaw):=⟨rfl,rfl,rfl,by decide+kernel,rfl,by decide+kernel,by decide+kernel⟩
end K34
end
section
namespace K34
open PySem PySem.Spec L2 LB LD PyProof.Rows
noncomputable abbrev nI (x:Nat):Dt:= .int (x:Int)
noncomputable def oD:Option Nat->Dt
 | none=> .non
 | some x=>nI x
structure St where
 pile:List Nat
 b:Nat
 ons:List (Option Nat)
 deriving DecidableEq
noncomputable def St.dt(s:St):Dt:= .tup [.tup (s.pile.map nI),nI s.b, .tup (s.ons.map oD)]
structure Fine(s:St):Prop where
 n:s.ons.length<=1000
 p:s.pile.length<=1000
 rng: ∀w∈s.pile,1<=w/\w<=s.ons.length
noncomputable def St.read(s:St):St:=⟨s.pile++ [s.b],s.b+1,s.ons⟩
noncomputable def St.tie(s:St)(on:Nat):St:=⟨s.pile.dropLast,s.b,s.ons.set (s.pile.getLastD 1 - 1) (some on)⟩
noncomputable def St.next(s:St):St:=s.tie s.b
noncomputable def St.under(s:St):St:=s.tie (s.pile.dropLast.getLastD 1)
noncomputable def canRead(s:St):Bool:=decide (s.b<=s.ons.length)
noncomputable def canNext(s:St):Bool:=canRead s && !s.pile.isEmpty
noncomputable def canUnder(s:St):Bool:=decide (1 < s.pile.length)
noncomputable def mayL(s:St):List Dt:=(if canRead s then [Dt.str "read"] else [])++(if canNext s then [Dt.str "next"] else [])++(if canUnder s then [Dt.str "under"] else [])
noncomputable def first(n:Nat):St:=⟨[],1,List.replicate n none⟩
def mayS:DN:=fun ds Q=> ∃s:St,ds= [s.dt]/\Fine s/\Q (.lst (mayL s))
def behindS:DN:=fun ds Q=> ∃(s:St) (w:Str),ds= [s.dt, .str w]/\Fine s/\((w="read"/\Q s.read.dt)\/(w="next"/\s.pile≠ []/\Q s.next.dt)\/(w="under"/\2<=s.pile.length/\Q s.under.dt))
theorem small{n:Nat}(h:n<=3000):n<=sizeLine:=by
 have:3000<=sizeLine:=by decide
 omega
theorem flat1{α:Type}(n:Nat)(x:α):(List.replicate n [x]).flatten=List.replicate n x:=by
 induction n with
 | zero=>rfl
 | succ k ih=>rw[List.replicate_succ,List.replicate_succ,List.flatten_cons,ih];rfl
theorem iteP{c:Prop} [Decidable c]{t e:Prop}(h:c)(ht:t):ite c t e:=by rw[if_pos h];exact ht
theorem iteN{c:Prop} [Decidable c]{t e:Prop}(h: ¬c)(he:e):ite c t e:=by rw[if_neg h];exact he
section
variable {P : Program} {w : World} {K : PySem.W.Frag} {mg : Str -> Option Value} {base : Heap}
theorem ok_may{f:Addr}{fd:FuncData}(F:Fun K "_law_may" "_law_may" sLMay f fd)(T:Txt mg):FnOk P w K mg base CX0 1 f fd ["_law_stand"] (spA mayS):=by
 refine fnA F scLMay (fun ds Qd h=>?_) (fun cdv A outer s H E hr=>⟨_,(s_cons (s_asg (dv 0) (g_trip 1 2 3 rfl scLMay.nd))
 (s_cons (s_set 4 scLMay.nd (d_le (dv 2) (d_len T.len (a_cons (dv 3) a_nil))))
 (s_one (s_ret (d_catL (d_catL (d_repL (d_lst (a_cons d_str a_nil)) (d_intB T.int (a_cons (dv 4) a_nil))) (d_repL (d_lst (a_cons d_str a_nil)) (d_intB T.int (a_cons (d_and (dv 4) (d_one (d_neNilT hr.units0 (dv 1)))) a_nil)))) (d_repL (d_lst (a_cons d_str a_nil)) (d_intB T.int (a_cons (d_gt (d_len T.len (a_cons (dv 1) a_nil)) d_int) a_nil)))))))),fun ds Qd h=>?_⟩)
 . obtain⟨n,rfl,_⟩:=h;rfl
 . obtain⟨s,rfl,fi,q⟩:=h;refine⟨_,rfl,_,_,_,rfl,⟨_,rfl,rfl⟩,⟨_,rfl,rfl⟩,⟨_,rfl,rfl⟩,?_⟩;refine⟨_,rfl,_,rfl,_, .inr rfl,_,_,rfl,rfl,⟨_,rfl,rfl⟩,?_⟩;have ec:decide (((s.b:Nat):Int)<=((s.ons.map oD).length:Int))=canRead s:=by
    rw[List.length_map];exact decide_eq_decide.mpr Int.ofNat_le
   dsimp only;rw[ec];have eu:decide (((s.pile.map nI).length:Int) > 1)=canUnder s:=by
    rw[List.length_map];exact decide_eq_decide.mpr (Int.ofNat_lt (n:=1))
   have fin: ∀c1 c2 c3:Bool,Dt.lst (((List.replicate (if c1 then(1:Int) else 0).toNat [Dt.str "read"]).flatten++(List.replicate (if c2 then(1:Int) else 0).toNat [Dt.str "next"]).flatten)++(List.replicate (if c3 then(1:Int) else 0).toNat [Dt.str "under"]).flatten)= .lst ((if c1 then [Dt.str "read"] else [])++(if c2 then [Dt.str "next"] else [])++(if c3 then [Dt.str "under"] else [])):=by
    intro c1 c2 c3;cases c1 <;> cases c2 <;> cases c3 <;> rfl
   have sz: ∀c:Bool,[Dt.non].length*(if c then(1:Int) else 0).toNat<=sizeLine:=fun c=>by cases c <;> decide
   have lo: ∀c:Bool,-(2^63)<=(if c then(1:Int) else 0):=fun c=>by cases c <;> decide
   have hi: ∀c:Bool,(if c then(1:Int) else 0) < 2^63:=fun c=>by cases c <;> decide
   have l1: ∀(c:Bool) (x:Dt),(List.replicate (if c then(1:Int) else 0).toNat [x]).flatten.length<=1:=fun c x=>by cases c <;> simp
   have go: ∀c2:Bool,c2=canNext s->Qd (Dt.lst (((List.replicate (if canRead s then(1:Int) else 0).toNat [Dt.str "read"]).flatten++(List.replicate (if c2 then(1:Int) else 0).toNat [Dt.str "next"]).flatten)++(List.replicate (if canUnder s then(1:Int) else 0).toNat [Dt.str "under"]).flatten)):=fun c2 e=>by
    subst e;rw[fin];exact q
   refine⟨by show 1<=sizeLine;decide,_,rfl,_,rfl,_,_,rfl,rfl,lo _,hi _,sz _,by show 1<=sizeLine;decide,_,rfl,_,rfl,?_⟩;have s2: ∀(c c':Bool) (x y:Dt),(List.replicate (if c then(1:Int) else 0).toNat [x]).flatten.length+(List.replicate (if c' then(1:Int) else 0).toNat [y]).flatten.length<=sizeLine:=fun c c' x y=>small (by have:=l1 c x;have:=l1 c' y;omega);have s3: ∀(c c' c2:Bool) (x y z:Dt),((List.replicate (if c then(1:Int) else 0).toNat [x]).flatten++(List.replicate (if c' then(1:Int) else 0).toNat [y]).flatten).length+(List.replicate (if c2 then(1:Int) else 0).toNat [z]).flatten.length<=sizeLine:=fun c c' c2 x y z=>small (by have:=l1 c x;have:=l1 c' y;have:=l1 c2 z;rw[List.length_append];omega);by_cases cr:canRead s=true
   . refine iteP cr ⟨_,rfl,_,rfl,_,rfl,_,_,rfl,rfl,lo _,hi _,sz _,_,_,rfl,rfl,s2 _ _ _ _,by show 1<=sizeLine;decide,_,rfl,_, .inr rfl,_,_,rfl,rfl,_,rfl,_,_,rfl,rfl,lo _,hi _,sz _,_,_,rfl,rfl,s3 _ _ _ _ _ _,?_⟩;dsimp only;rw[eu];exact go _ (by unfold canNext;rw[cr];simp)
   . refine iteN cr ⟨_,rfl,_,_,rfl,rfl,lo _,hi _,sz _,_,_,rfl,rfl,s2 _ _ _ _,by show 1<=sizeLine;decide,_,rfl,_, .inr rfl,_,_,rfl,rfl,_,rfl,_,_,rfl,rfl,lo _,hi _,sz _,_,_,rfl,rfl,s3 _ _ _ _ _ _,?_⟩;dsimp only;rw[eu];exact go _ (by unfold canNext;rw[Bool.not_eq_true] at cr;rw[cr];rfl)
end
end K34
end
section
namespace K34
open PySem PySem.Spec L2 LB LD PyProof.Rows
theorem cut_last(ds:List Dt):LD.cutD ds none (some (-1))=ds.dropLast:=by
 unfold LD.cutD;rw[HT.sIx_none,List.drop_zero,Nat.sub_zero];have e:HT.sIx ds.length ds.length (some (-1))=ds.length - 1:=by
  show(if (-1:Int) < 0 then((-1:Int)+(ds.length:Int)).toNat else min (-1:Int).toNat ds.length)=_;rw[if_pos (by decide)];omega
 rw[e,List.dropLast_eq_take]
theorem cut_set{os:List (Option Nat)}{hi:Nat}(w1:1<=hi)(w2:hi<=os.length){i j:Int}(ei:i=((hi - 1:Nat):Int))(ej:j=(hi:Int))(d:Dt)(x:Option Nat)(ed:d=oD x):LD.cutD (os.map oD) none (some i)++ [d]++LD.cutD (os.map oD) (some j) none=(os.set (hi - 1) x).map oD:=by
 subst ei;subst ej;subst ed;unfold LD.cutD;rw[HT.sIx_nat,HT.sIx_nat,HT.sIx_none,HT.sIx_none,List.length_map,Nat.min_eq_left w2,Nat.min_eq_left (by omega),List.drop_zero,Nat.sub_zero,<-List.map_take,<-List.map_drop,List.take_of_length_le (l:=(os.drop hi).map oD) (by rw[List.length_map,List.length_drop];exact Nat.le_refl _)];rw[List.set_eq_take_append_cons_drop,if_pos (by omega),List.map_append,List.map_cons,List.append_assoc];rw[show hi - 1+1=hi by omega];rfl
theorem cut_le(ds:List Dt)(lo hi:Option Int):(LD.cutD ds lo hi).length<=ds.length:=by
 unfold LD.cutD;have:=HT.sIx_le ds.length ds.length (Nat.le_refl _) hi;exact Nat.le_trans (List.length_take_le ..) (by omega)
theorem top1{ps:List Nat}(h:ps≠ []):atI (ps.map nI) (-1)=some (nI (ps.getLastD 1)):=by
 have e:ps.map nI=ps.dropLast.map nI++ [nI (ps.getLastD 1)]:=by
  rw[<-List.map_singleton (f:=nI),<-List.map_append];congr 1
  rw[List.getLastD_eq_getLast?,List.getLast?_eq_some_getLast h,Option.getD_some,List.dropLast_concat_getLast h]
 rw[e];exact atI_last _ _
theorem top2{ps:List Nat}(h:2<=ps.length):atI (ps.map nI) (-2)=some (nI (ps.dropLast.getLastD 1)):=by
 have e1:ps.dropLast≠ []:=fun z=>by have:=congrArg List.length z;simp at this;omega
 have g:(ps.map nI)[ps.length - 2]?=some (nI (ps.dropLast.getLastD 1)):=by
  rw[List.getElem?_map,List.getLastD_eq_getLast?,List.getLast?_eq_getElem?,List.length_dropLast,List.getElem?_dropLast,if_pos (by omega)];rw[show ps.length - 1 - 1=ps.length - 2 by omega,List.getElem?_eq_getElem (by omega)];rfl
 unfold atI ixN;rw[if_neg (by decide),List.length_map,if_pos (by omega)];show(ps.map nI)[_]?=_;rw[show(-2+(ps.length:Int)).toNat=ps.length - 2 by omega];exact g
theorem getL_mem{ps:List Nat}(h:ps≠ []):ps.getLastD 1∈ps:=by
 rw[List.getLastD_eq_getLast?,List.getLast?_eq_some_getLast h,Option.getD_some];exact List.getLast_mem h
end K34
end
section
namespace K34
open PySem PySem.Spec L2 LB LD PyProof.Rows
section
variable {P : Program} {w : World} {K : PySem.W.Frag} {mg : Str -> Option Value} {base : Heap}
theorem ok_lbehind{f:Addr}{fd:FuncData}(F:Fun K "_law_behind" "_law_behind" sLBehind f fd)(T:Txt mg):FnOk P w K mg base CX0 1 f fd ["_law_stand","_law_word"] (spA behindS):=by
 refine fnA F scLBehind (fun ds Qd h=>?_) (fun cdv A outer s H E hr=>⟨_,(s_cons (s_asg (dv 0) (g_trip 2 3 4 rfl scLBehind.nd))
 (s_cons (s_if (t_eq (dv 1) d_str)
 (s_one (s_ret (d_tup (a_cons (d_catT (dv 2) (d_tup (a_cons (dv 3) a_nil))) (a_cons (d_add (dv 3) d_int) (a_cons (dv 4) a_nil))))))
 s_nil)
 (s_cons (s_set 5 scLBehind.nd (d_ifExp (t_eq (dv 1) d_str) (dv 3) (d_ix (dv 2) (d_neg d_int))))
 (s_one (s_ret (d_tup (a_cons (d_slT (dv 2) p_none (p_some (d_neg d_int))) (a_cons (dv 3) (a_cons (d_catT (d_catT (d_slT (dv 4) p_none (p_some (d_sub (d_ix (dv 2) (d_neg d_int)) d_int))) (d_tup (a_cons (dv 5) a_nil))) (d_slT (dv 4) (p_some (d_ix (dv 2) (d_neg d_int))) p_none)) a_nil))))))))),fun ds Qd h=>?_⟩)
 . obtain⟨s,w,rfl,_⟩:=h;rfl
 . obtain⟨s,w,rfl,fi,q⟩:=h;refine⟨_,rfl,_,_,_,rfl,⟨_,rfl,rfl⟩,⟨_,rfl,rfl⟩,⟨_,rfl,rfl⟩,_,rfl,_,rfl,_,rfl,?_⟩;rcases q with ⟨rfl,q⟩ | ⟨rfl,np,q⟩ | ⟨rfl,np,q⟩
   . refine iteP (by decide) ?_;refine⟨_,rfl,_,rfl,by show 1<=sizeLine;decide,_,_,rfl,rfl,small (by have:=fi.p;rw[List.length_map];simp;omega),_,rfl,_,_,rfl,rfl,_,rfl,by show 3<=sizeLine;decide,?_⟩;have e:s.read.dt= .tup [.tup (s.pile.map nI++ [nI s.b]), .int ((s.b:Int)+1), .tup (s.ons.map oD)]:=by
      unfold St.read St.dt;rw[List.map_append];rfl
     rw[e] at q;exact q
   . refine iteN (by decide) ?_;have hp:=fi.rng _ (getL_mem np);have l1: ∀i:Option Int,(LD.cutD (s.ons.map oD) none i).length<=s.ons.length:=fun i=>by have:=cut_le (s.ons.map oD) none i;rwa [List.length_map] at this
     have hn:=fi.n;have key:=cut_set (os:=s.ons) (hi:=s.pile.getLastD 1) hp.1 hp.2 (i:=((s.pile.getLastD 1:Nat):Int) - 1) (j:=((s.pile.getLastD 1:Nat):Int)) (by omega) rfl (nI s.b) (some s.b) rfl;refine⟨_,rfl,_,rfl,_,rfl,iteP (by decide) ⟨_,rfl,⟨_,rfl,rfl⟩,?_⟩⟩;refine⟨_,rfl,_,rfl,_,rfl,_,rfl,_,rfl,_,rfl,_,rfl,_,rfl,_,_,_, .inr rfl,rfl,top1 np,_,_,rfl,rfl,_,rfl,_,rfl,_,rfl,by show 1<=sizeLine;decide,_,_,rfl,rfl,small (by have:=l1 (some (((s.pile.getLastD 1:Nat):Int) - 1));simp only [List.length_cons,List.length_nil];omega),_,rfl,_,rfl,_,rfl,_,_,_, .inr rfl,rfl,top1 np,_,rfl,_,rfl,_,_,rfl,rfl,?_,by show 3<=sizeLine;decide,?_⟩
     . rw[<-List.length_append,key,List.length_map,List.length_set];exact small (by omega)
     . rw[key,cut_last];have e:s.next.dt= .tup [.tup (s.pile.map nI).dropLast,nI s.b, .tup ((s.ons.set (s.pile.getLastD 1 - 1) (some s.b)).map oD)]:=by
        unfold St.next St.tie St.dt;rw[List.map_dropLast]
       rw[e] at q;exact q
   . refine iteN (by decide) ?_;have np':s.pile≠ []:=fun z=>by rw[z] at np;exact absurd np (by decide)
     have hp:=fi.rng _ (getL_mem np');have l1: ∀i:Option Int,(LD.cutD (s.ons.map oD) none i).length<=s.ons.length:=fun i=>by have:=cut_le (s.ons.map oD) none i;rwa [List.length_map] at this
     have hn:=fi.n;have key:=cut_set (os:=s.ons) (hi:=s.pile.getLastD 1) hp.1 hp.2 (i:=((s.pile.getLastD 1:Nat):Int) - 1) (j:=((s.pile.getLastD 1:Nat):Int)) (by omega) rfl (nI (s.pile.dropLast.getLastD 1)) (some (s.pile.dropLast.getLastD 1)) rfl;refine⟨_,rfl,_,rfl,_,rfl,iteN (by decide) ⟨_,rfl,_,rfl,_,_,_, .inr rfl,rfl,top2 np,⟨_,rfl,rfl⟩,?_⟩⟩;refine⟨_,rfl,_,rfl,_,rfl,_,rfl,_,rfl,_,rfl,_,rfl,_,rfl,_,_,_, .inr rfl,rfl,top1 np',_,_,rfl,rfl,_,rfl,_,rfl,_,rfl,by show 1<=sizeLine;decide,_,_,rfl,rfl,small (by have:=l1 (some (((s.pile.getLastD 1:Nat):Int) - 1));simp only [List.length_cons,List.length_nil];omega),_,rfl,_,rfl,_,rfl,_,_,_, .inr rfl,rfl,top1 np',_,rfl,_,rfl,_,_,rfl,rfl,?_,by show 3<=sizeLine;decide,?_⟩
     . rw[<-List.length_append,key,List.length_map,List.length_set];exact small (by omega)
     . rw[key,cut_last];have e:s.under.dt= .tup [.tup (s.pile.map nI).dropLast,nI s.b, .tup ((s.ons.set (s.pile.getLastD 1 - 1) (some (s.pile.dropLast.getLastD 1))).map oD)]:=by
        unfold St.under St.tie St.dt;rw[List.map_dropLast]
       rw[e] at q;exact q
noncomputable def endD(s:St):Dt:=if s.b<=s.ons.length\/s.pile.length≠1 then .non else .tup ((s.ons.set (s.pile.headD 1 - 1) (some 0)).map oD)
def endS:DN:=fun ds Q=> ∃s:St,ds= [s.dt]/\Fine s/\Q (endD s)
theorem ok_lend{f:Addr}{fd:FuncData}(F:Fun K "_law_end" "_law_end" sLEnd f fd)(T:Txt mg):FnOk P w K mg base CX0 1 f fd ["_law_stand"] (spA endS):=by
 refine fnA F scLEnd (fun ds Qd h=>?_) (fun cdv A outer s H E hr=>⟨_,(s_cons (s_asg (dv 0) (g_trip 1 2 3 rfl scLEnd.nd))
 (s_cons (s_if (PW.pt (w_or (t_le (dv 2) (d_len T.len (a_cons (dv 3) a_nil))) (w_or1 (t_ne (d_len T.len (a_cons (dv 1) a_nil)) d_int))))
 (s_one (s_ret d_non))
 s_nil)
 (s_one (s_ret (d_catT (d_catT (d_slT (dv 3) p_none (p_some (d_sub (d_ix (dv 1) d_int) d_int))) (d_tup (a_cons d_int a_nil))) (d_slT (dv 3) (p_some (d_ix (dv 1) d_int)) p_none)))))),fun ds Qd h=>?_⟩)
 . obtain⟨s,rfl,_⟩:=h;rfl
 . obtain⟨s,rfl,fi,q⟩:=h;refine⟨_,rfl,_,_,_,rfl,⟨_,rfl,rfl⟩,⟨_,rfl,rfl⟩,⟨_,rfl,rfl⟩,_,rfl,_,rfl,_, .inr rfl,_,_,rfl,rfl,_,rfl,?_⟩;by_cases c1:s.b<=s.ons.length
   . refine iteP (decide_eq_true (by rw[List.length_map];exact Int.ofNat_le.mpr c1)) (iteT ?_);rw[endD,if_pos (.inl c1)] at q;exact q
   . refine iteN (by rw[List.length_map];intro z;exact c1 (Int.ofNat_le.mp (of_decide_eq_true z))) ⟨_,rfl,_, .inr rfl,_,rfl,_,rfl,?_⟩;by_cases c2:s.pile.length=1
     . refine iteN (by rw[List.length_map,c2];decide) ?_;obtain⟨pile,b,ons⟩:=s;obtain⟨p,rfl⟩: ∃p,pile= [p]:=by
        match pile,c2 with
        | [p],_=>exact⟨p,rfl⟩
       have hp:=fi.rng p (by simp);have hn:=fi.n;dsimp only at hp hn;have l1: ∀i:Option Int,(LD.cutD (ons.map oD) none i).length<=ons.length:=fun i=>by have:=cut_le (ons.map oD) none i;rwa [List.length_map] at this
       have key:=cut_set (os:=ons) (hi:=p) hp.1 hp.2 (i:=((p:Nat):Int) - 1) (j:=((p:Nat):Int)) (by omega) rfl (.int 0) (some 0) rfl;refine⟨_,rfl,_,rfl,_,_,_, .inr rfl,rfl,rfl,_,_,rfl,rfl,_,rfl,_,rfl,by show 1<=sizeLine;decide,_,_,rfl,rfl,small (by have:=l1 (some (((p:Nat):Int) - 1));simp only [List.length_cons,List.length_nil];omega),_,rfl,_,rfl,_,_,_, .inr rfl,rfl,rfl,_,rfl,_,rfl,_,_,rfl,rfl,?_,?_⟩
       . rw[<-List.length_append,key,List.length_map,List.length_set];exact small (by omega)
       . rw[key];rw[endD,if_neg (by intro z;rcases z with z | z;exact c1 z;exact z rfl)] at q;exact q
     . refine iteP (by rw[List.length_map];simp;omega) ?_;rw[endD,if_pos (.inr c2)] at q;exact q
end
end K34
end
section
namespace K34
open PySem PySem.Spec L2 LB LW LD PyProof.Rows
section
variable {P : Program} {w : World} {K : PySem.W.Frag} {mg : Str -> Option Value} {base : Heap}
theorem ok_take{f:Addr}{fd:FuncData}(F:Fun K "_law_take" "_law_take" sLTake f fd)(T:Txt mg):FnOk P w K mg base CX0 1 f fd ["_law_state","_law_many"] spTake:=by
 refine F.ok scLTake (fun vs H Q E h=>?_) (fun cdv A outer s H vs Q E hr h=>?_)
 . obtain⟨d,c,t,m,rfl,_⟩:=h;rfl
 . obtain⟨d,c,t,m,rfl,B,ht,hm0,hm1,q⟩:=h;have hu:=hu_of hr;have ndc:=B.ne;have t0:=B.t0;obtain⟨ns,hc,hn0,hn1⟩:=B.cs;refine⟨_,pss_cons (ps_set (i:=2) scLTake.nd rfl (Or.inl rfl) (pe_op op_add (pe_dget hu (pv 0) pe_str (fun _ _=>rfl)) pe_int))
    (pss_cons (ps_dput hu (pv 0) pe_str (pv 2) rfl)
    (pss_cons (ps_set (i:=3) scLTake.nd rfl (Or.inl rfl) (pe_op op_mod (pv 2) (pe_callB call_len_seq (by rfl) T.len PySem.boot_len (pa_cons (pe_dget hu (pv 0) pe_str (fun _ _=>rfl)) pa_nil))))
    (pss_cons (ps_set (i:=4) scLTake.nd rfl (Or.inl rfl) (pe_ix ix_list (pe_dget hu (pv 0) pe_str (fun _ _=>rfl)) (pv 3) (fun _ _=>rfl)))
    (pss_cons (ps_if (pt_cmpR op_ge (pv 4) (pe_op op_pow pe_int pe_int) (nomark _))
     (pss_cons (ps_asg (pe_callB call_divmodW (by rfl) T.dvm boot_divmod' (pa_cons (pv 4) (pa_cons (pv 1) pa_nil))) (pg_tup rfl (pgs_cons (pg_sub (pe_dget hu (pv 0) pe_str (fun _ _=>rfl)) (pv 3) set_list) (pgs_cons (pg_name (i:=5) scLTake.nd rfl (Or.inl rfl)) pgs_nil))))
      (pss_one (ps_ret (pv 5)))) pss_nil)
    (pss_cons (ps_set (i:=6) scLTake.nd rfl (Or.inl rfl) (pe_op op_mod (pe_op op_mul (pe_op op_add (pe_op op_add (pe_op op_mod (pv 4) pe_int) (pe_op op_mul (pe_op op_mul (pv 2) (pv 2)) pe_int)) pe_int) pe_int) pe_int))
    (pss_cons (ps_set (i:=6) scLTake.nd rfl (Or.inl rfl) (pe_op op_mod (pe_op op_mul (pv 6) (pv 6)) pe_int))
    (pss_one (ps_ret (pe_op op_mod (pe_op op_fdiv (pe_op op_mod (pe_op op_mul (pe_op op_add (pv 6) (pe_op op_mul (pv 2) pe_int)) pe_int) pe_int) pe_int) (pv 1)))))))))),?_⟩
   refine⟨_,rfl,d,_,rfl,by rw[<-bx_turn c t];exact DGet.k (k:=Sum.inr "turn") B.dc,_,_,rfl,rfl,?_⟩;refine⟨_,rfl,_,rfl,d,_,rfl,DPut.k (k:=Sum.inr "turn") B.dc (by show 2 < sizeLine;decide),?_⟩;rw[bx_put];have hd1:(upd H d (.dK (bx c (t+1)))) d=some (.dK (bx c (t+1))):=upd_same;have hc1:(upd H d (.dK (bx c (t+1)))) c=some (.lst (ns.map V.int)):=by rw[upd_ne ndc.symm];exact hc
   have gc:DGet (upd H d (.dK (bx c (t+1)))) d (.str "cells") (some (.ref c)):=by rw[<-bx_cells c (t+1)];exact DGet.k (k:=Sum.inr "cells") hd1
   have hl:(0:Int) < ((ns.map V.int).length:Int):=by rw[List.length_map];omega
   refine⟨_,rfl,_,rfl,d,_,rfl,gc,c,_,rfl, .inl (SqL.of hc1),_,_,rfl,rfl,hl,?_⟩;have hp0:0<=(t+1) % ((ns.map V.int).length:Int):=Int.emod_nonneg _ (by omega);have hp1:(t+1) % ((ns.map V.int).length:Int) < ((ns.map V.int).length:Int):=Int.emod_lt_of_pos _ hl;obtain⟨cell,hcell⟩: ∃cell,(ns.map V.int)[((t+1) % ((ns.map V.int).length:Int)).toNat]?=some (V.int cell):=by
    have hpn:((t+1) % ((ns.map V.int).length:Int)).toNat < ns.length:=by rw[List.length_map] at hp0 hp1 ⊢;omega
    exact⟨ns[((t+1) % ((ns.map V.int).length:Int)).toNat],by simp⟩
   refine⟨_,rfl,d,_,rfl,gc,_,rfl,c,_,_,_,rfl,rfl,SqL.of hc1,atI_int hp0 hcell,?_⟩;refine⟨_,rfl,_,_,rfl,rfl,(show CPow 10 18 from by unfold CPow;decide),_,_,rfl,rfl,_,rfl,?_⟩;refine ite2 (fun _=>?_) (fun _=>?_)
   . refine⟨_,rfl,_,rfl,_,_,rfl,⟨hm0,hm1⟩,fun p hp=>?_⟩;have hd2:(upd (upd H d (.dK (bx c (t+1)))) p (.tup [.int (cell / m), .int (cell % m)])) d=some (.dK (bx c (t+1))):=by rw[upd_ne (ne_of_none hd1 hp)];exact hd1
     have hc2:(upd (upd H d (.dK (bx c (t+1)))) p (.tup [.int (cell / m), .int (cell % m)])) c=some (.lst (ns.map V.int)):=by rw[upd_ne (ne_of_none hc1 hp)];exact hc1
     refine⟨p,_,rfl,SqT.of upd_same,rfl,_,_,rfl,?_⟩;refine⟨_,rfl,d,_,rfl,by rw[<-bx_cells c (t+1)];exact DGet.k (k:=Sum.inr "cells") hd2,_,rfl,c,_,_,_,rfl,rfl,hc2,ixN_int hp0 hp1,?_⟩;refine⟨_,_,rfl,rfl,?_⟩;refine⟨_,rfl,?_⟩;refine q _ _ (Int.emod_nonneg _ (by omega)) (Int.emod_lt_of_pos _ hm0) ⟨by rw[upd_ne ndc];exact hd2,⟨ns.set ((t+1) % ((ns.map V.int).length:Int)).toNat (cell / m),?_,by rw[List.length_set];exact hn0,by rw[List.length_set];exact hn1⟩,by omega,by omega⟩ fun b o e h1 h2=>?_
     . rw[upd_same,List.map_set]
     . have e1:(upd H d (.dK (bx c (t+1)))) b=some o:=by rw[upd_ne h1];exact e
       rw[upd_ne h2,upd_ne (ne_of_none e1 hp)];exact e1
   . refine⟨_,rfl,_,_,rfl,rfl,(by show(0:Int) < 2147483549;decide),_,rfl,_,rfl,_,_,rfl,rfl, .inl ⟨by omega,by omega⟩,_,_,rfl,rfl, .inr ⟨by decide,by decide⟩,_,_,rfl,rfl,_,_,rfl,rfl,_,_,rfl,rfl, .inr ⟨by decide,by decide⟩,_,_,rfl,rfl,(by show(0:Int) < 2147483647;decide),?_⟩;generalize hmx:((cell % 2147483549+(t+1)*(t+1)*4441+23)*48271 % 2147483647:Int)=mx;have m0:0<=mx:=by rw[<-hmx];exact Int.emod_nonneg _ (by decide)
     have m1:mx < 2147483647:=by rw[<-hmx];exact Int.emod_lt_of_pos _ (by decide)
     refine⟨_,rfl,_,rfl,_,_,rfl,rfl, .inl ⟨by omega,by omega⟩,_,_,rfl,rfl,(by show(0:Int) < 2147483399;decide),?_⟩;refine⟨_,rfl,_,rfl,_,_,rfl,rfl, .inr ⟨by decide,by decide⟩,_,_,rfl,rfl,_,_,rfl,rfl, .inr ⟨by decide,by decide⟩,_,_,rfl,rfl,(by show(0:Int) < 2147483549;decide),_,_,rfl,rfl,⟨by decide,by decide⟩,_,rfl,_,_,rfl,rfl,hm0,?_⟩;refine q _ _ (Int.emod_nonneg _ (by omega)) (Int.emod_lt_of_pos _ hm0) ⟨hd1,⟨ns,hc1,hn0,hn1⟩,by omega,by omega⟩ fun b o e h1 h2=>?_;rw[upd_ne h1];exact e
theorem ok_begin{f:Addr}{fd:FuncData}(F:Fun K "_law_begin" "_law_begin" sLBegin f fd)(T:Txt mg):FnOk P w K mg base CX0 1 f fd ["_law_script"] (spBegin K):=by
 refine F.ok scLBegin (fun vs H Q E h=>?_) (fun cdv A outer s H vs Q E hr h=>?_)
 . obtain⟨a,ns,rfl,_⟩:=h;rfl
 . obtain⟨a,ns,rfl,hS,hn,q⟩:=h;have hu:=hu_of hr;refine⟨_,pss_cons (ps_set (i:=1) scLBegin.nd rfl (Or.inl rfl) (pe_callTy call_list_of (by rfl) T.lst boot_list' (pa_cons (pe_slice sl_list (pv 0) po_none (po_some pe_int)) pa_nil)))
    (pss_cons (ps_if (pt_cmpR (op_eqNilL hr.units0) (pv 1) (pe_lst pa_nil) (nomark _)) (pss_one (ps_set (i:=1) scLBegin.nd rfl (Or.inl rfl) (pe_lst (pa_cons pe_int pa_nil)))) pss_nil)
    (pss_one (ps_ret (pe_disp (pps_cons pe_str (pv 1) (pps_cons pe_str pe_int pps_nil)) rfl rfl (by simp) (by decide))))),?_⟩
   refine⟨_,rfl,_,rfl,a,_,rfl,hS,fun p hp=>?_⟩;have ecut:cutV (ns.map V.int) none (some 63)=ns.map V.int:=by
    unfold cutV;rw[HT.sIx_none,show((63:Int))=((63:Nat):Int) from rfl,HT.sIx_nat,List.drop_zero,Nat.sub_zero,List.length_map];exact List.take_of_length_le (by rw[List.length_map];omega)
   rw[ecut];refine⟨p,_,rfl, .inl (SqL.of upd_same),fun l hl=>?_⟩;have s1:Same H (upd (upd H p (.lst (ns.map V.int))) l (.lst (ns.map V.int))):=fun b o e=>by
    have e1:(upd H p (.lst (ns.map V.int))) b=some o:=by rw[upd_ne (ne_of_none e hp)];exact e
    rw[upd_ne (ne_of_none e1 hl)];exact e1
   have hl1:(upd (upd H p (.lst (ns.map V.int))) l (.lst (ns.map V.int))) l=some (.lst (ns.map V.int)):=upd_same;generalize upd (upd H p (.lst (ns.map V.int))) l (.lst (ns.map V.int))=H1 at s1 hl1;refine⟨_,rfl,Nat.zero_le _,fun e0 he0=>?_⟩;have s2:Same H1 (upd H1 e0 (.lst [])):=fun b o e=>by rw[upd_ne (ne_of_none e he0)];exact e
   refine⟨l,e0,_,rfl,rfl,SqL.of (s2 _ _ hl1),SqL.of upd_same,_,rfl,?_⟩;have fin: ∀(g:Addr) (ms:List Int) (H2:Hp),Same H H2->H2 g=some (.lst (ms.map V.int))->0 < ms.length->ms.length<=63->tDisp [(tC (.str "cells"),tVar 1),(tC (.str "turn"),tC (.int 0))] [some (.ref a),some (.ref g)] H2 Q:=fun g ms H2 s3 hg h1 h2=>by
    intro d hd;have nd:g≠d:=ne_of_none hg hd;refine⟨_,rfl,upd_same,[(Sum.inr "cells", .ref g),(Sum.inr "turn", .int 0)],rfl,by show 2<=15;decide,?_⟩;have em:mergeK [] [((Sum.inr "cells":Key),V.ref g),(Sum.inr "turn",V.int 0)]=bx g 0:=by
     simp [mergeK,putK,bx,kct]
    rw[em];refine q d g _ ⟨upd_same,⟨ms,by rw[upd_ne nd,upd_ne nd];exact hg,h1,h2⟩,Int.le_refl _,by decide⟩ fun b o e=>?_;have e1:=s3 b o e;rw[upd_ne (ne_of_none e1 hd),upd_ne (ne_of_none e1 hd)];exact e1
   cases hns:ns with
   | nil=>
    refine iteT ⟨by show 1<=sizeLine;decide,fun g hg=>?_⟩;refine fin g [17] _ (fun b o e=>?_) upd_same (by decide) (by decide);have e1:=s2 _ _ (s1 b o e);rw[upd_ne (ne_of_none e1 hg)];exact e1
   | cons n0 nr=>
    refine iteF ?_;exact fin l ns _ (fun b o e=>s2 _ _ (s1 b o e)) (s2 _ _ hl1) (by rw[hns];simp) hn
theorem ok_takeB{f:Addr}{fd:FuncData}(F:Fun K "_law_take" "_law_take" sLTake f fd)(T:Txt mg):FnOk P w K mg base CX0 1 f fd ["_law_state","_law_many"] (spB takeS):=(ok_take F T).imp fun _ _ _ _ h=>take_of h
end
end K34
end
section
namespace K34
open PySem PySem.Spec L2 LB LD PyProof.Rows
noncomputable def okB(s:St)(w:Str):Bool:=(canRead s && ("read":Str)==w) || (canNext s && ("next":Str)==w) || (canUnder s && ("under":Str)==w)
noncomputable def stp(s:St)(w:Str):St:=if ("read":Str)=w then s.read else if ("next":Str)=w then s.next else s.under
theorem in_may{s:St}{w:Str}:inD (.str w) (mayL s)=okB s w:=by
 unfold mayL okB inD;cases canRead s <;> cases canNext s <;> cases canUnder s <;> simp [eqD,Bool.or_assoc]
structure Good(n m:Nat)(s:St):Prop where
 l:s.ons.length=n
 p:s.pile.length<=m
 b:1<=s.b
 rng: ∀w∈s.pile,1<=w/\w<=n
theorem good_first(n:Nat):Good n 0 (first n):=⟨List.length_replicate,Nat.le_refl _,Nat.le_refl _,fun w hw=>absurd hw List.not_mem_nil⟩
theorem Good.fine{n m:Nat}{s:St}(g:Good n m s)(n12:n<=12)(m100:m<=100):Fine s:=⟨by rw[g.l];lia,by have:=g.p;lia,fun w hw=>by rw[g.l];exact g.rng w hw⟩
theorem good_tie{n m:Nat}{s:St}(g:Good n m s)(on:Nat):Good n (m+1) (s.tie on):=⟨by show(s.ons.set _ _).length=n;rw[List.length_set,g.l],by show s.pile.dropLast.length<=_;rw[List.length_dropLast];have:=g.p;lia,g.b,fun w hw=>g.rng w ((List.dropLast_sublist _).subset hw)⟩
theorem ok_cases{s:St}{w:Str}(h:okB s w=true):(w="read"/\canRead s=true/\stp s w=s.read)\/(w="next"/\canNext s=true/\stp s w=s.next)\/(w="under"/\canUnder s=true/\stp s w=s.under):=by
 unfold okB at h;rw[Bool.or_eq_true,Bool.or_eq_true,Bool.and_eq_true,Bool.and_eq_true,Bool.and_eq_true,beq_iff_eq,beq_iff_eq,beq_iff_eq] at h;unfold stp;rcases h with (⟨h,e⟩ | ⟨h,e⟩) | ⟨h,e⟩
 . subst e;exact .inl ⟨rfl,h,if_pos rfl⟩
 . subst e;exact .inr (.inl ⟨rfl,h,by rw[if_neg (by decide),if_pos rfl]⟩)
 . subst e;exact .inr (.inr ⟨rfl,h,by rw[if_neg (by decide),if_neg (by decide)]⟩)
theorem good_step{n m:Nat}{s:St}{w:Str}(g:Good n m s)(h:okB s w=true):Good n (m+1) (stp s w):=by
 rcases ok_cases h with ⟨_,c,e⟩ | ⟨_,c,e⟩ | ⟨_,c,e⟩
 . rw[e];have c':s.b<=s.ons.length:=of_decide_eq_true c;refine⟨g.l,by show(s.pile++ [s.b]).length<=_;rw[List.length_append];have:=g.p;show s.pile.length+1<=_;lia,by show 1<=s.b+1;lia,fun w hw=>?_⟩;rcases List.mem_append.mp hw with h | h
   . exact g.rng w h
   . cases List.mem_singleton.mp h;exact⟨g.b,by rw[<-g.l];exact c'⟩
 . rw[e];exact good_tie g _
 . rw[e];exact good_tie g _
theorem step_behind{s:St}{w:Str}{Q:Dt->Prop}(f:Fine s)(h:okB s w=true)(q:Q (stp s w).dt):behindS [s.dt, .str w] Q:=by
 refine⟨s,w,rfl,f,?_⟩;rcases ok_cases h with ⟨e,c,z⟩ | ⟨e,c,z⟩ | ⟨e,c,z⟩
 . rw[z] at q;exact .inl ⟨e,q⟩
 . rw[z] at q;refine .inr (.inl ⟨e,fun y=>?_,q⟩);unfold canNext at c;rw[y] at c;simp at c
 . rw[z] at q;exact .inr (.inr ⟨e,of_decide_eq_true c,q⟩)
theorem first_rep{n:Nat}:Dt.tup [.tup [], .int 1, .tup (List.replicate ((n:Int)).toNat [Dt.non]).flatten]=(first n).dt:=by
 show _=Dt.tup [.tup [], .int 1, .tup ((List.replicate n none).map oD)];rw[flat1,List.map_replicate,Int.toNat_natCast];rfl
end K34
end
section
namespace K34
open PySem PySem.Spec L2 LB LD PyProof.Rows
theorem eq2N{x y:Nat}:eq2 (nI x) (nI y)=some (decide (x=y)):=by
 show some (decide ((x:Int)=(y:Int)))=_;exact congrArg some (decide_eq_decide.mpr ⟨fun h=>by lia,fun h=>by rw[h]⟩)
theorem atI_sub{ds:List Dt}{t:Nat}{d:Dt}(h1:1<=t)(h:ds[t - 1]?=some d):atI ds ((t:Int) - 1)=some d:=by
 rw[show((t:Int) - 1)=((t - 1:Nat):Int) by lia];exact atI_nat h
noncomputable def tupN(hs:List Nat):Dt:= .tup (hs.map nI)
end K34
end
section
namespace LDw
open PySem PySem.Spec L2 PyProof.Rows PySem.W
section
variable {prog : Program} {w : World} {A : Around} {E : Value -> Shared -> Prop} {s : Shared} {d it : Addr} {es : Array DictEntry} {ep i : Nat} {od : Obj}
theorem next_key{Q:Option Value->Shared->Prop}(hit:s.heap.IsKeyIter it d i es.size ep)(hod:s.heap.get? d=some od)(hdd:od.data= .dict es ep)(hi:i < es.size)
  (hQ: ∀h',h'.IsKeyIter it d (i+1) es.size ep->Heap.SameBut it s.heap h'->Q (some es[i].key) {s with heap:=h'}):wpAny (model prog w) A (pyNext (.ref it)) Q E s:=by
 obtain⟨o,ho,hc,hd⟩:=id hit;have hT:=hit.typeIs;unfold pyNext;refine wpAny_bind (wpAny_attempt (wpAny_callSpecial?_slot (name:=Str.ofString "__next__") hT F.slot_dict_keyiterator_next (wpAny_call_entry F.slot_dict_keyiterator_next hT F.entry_dict_keyiterator_next ?_ (F.args_dict_keyiterator_next_1 _))));refine wpAny_bind (wpAny_pure (wpAny_bind (wpAny_bind ?_)))
 (first | refine wpAny_bind (wpAny_typeNameOfWhole_keyiter hT (wpAny_pure ?_)) | refine wpAny_bind (wpAny_typeNameOf_keyiter hT (wpAny_pure ?_)))
 refine wpAny_bind (wpAny_fieldsOf ho hd ?_);simp only [show Builtin.Dict_items.ownsTuple "dict_keyiterator"=false by decide,Bool.false_eq_true,if_false];show wpAny _ _ (if (Value.ref d==Value.none)=true then _ else _) _ _ _;rw[if_neg (show¬(Value.ref d==Value.none)=true from Bool.false_ne_true)];refine wpAny_bind (wpAny_pure (wpAny_bind (wpAny_dictEntries hod hdd ?_)));rw[if_neg (by simp)];refine wpAny_bind (wpAny_pure (wpAny_bind (wpAny_dictEpoch hod hdd ?_)));rw[if_neg (by simp)];refine wpAny_pure ?_;simp only [show¬((i:Int) < 0) by lia,if_false,Int.toNat_natCast,Array.getElem?_eq_getElem hi];refine wpAny_bind ?_
 (first | refine wpAny_bind (wpAny_typeNameOfWhole_keyiter hT (wpAny_pure ?_)) | refine wpAny_bind (wpAny_typeNameOf_keyiter hT (wpAny_pure ?_)))
 refine wpAny_bind (wpAny_isOneOf_keyiter hT ?_);show wpAny _ _ (setField (.ref it) 1 (rawInt ((i:Int)+1)) >>=fun _=>_) _ _ _;refine wpAny_bind (wpAny_setField ho hd (by simp) ?_);have hit':(s.heap.update it (Obj.mapFields (·.setIfInBounds 1 (rawInt ((i:Int)+1))))).IsKeyIter it d (i+1) es.size ep:=⟨_,Heap.get?_update_self _ ho (Obj.isFreed_of_fields (Obj.data_mapFields hd _)),(Obj.cls_mapFields ..).trans hc,by rw[Obj.data_mapFields hd];simp [rawInt]⟩
 refine wpAny_bind (wpAny_holding (wpAny_bind (wpAny_isOneOf_keyiter (s:={s with heap:=s.heap.update it (Obj.mapFields (·.setIfInBounds 1 (rawInt ((i:Int)+1))))}) hit'.typeIs ?_)));show wpAny _ _ (pure es[i].key) _ _ _;exact wpAny_pure (wpAny_pure ⟨_,rfl,wpAny_pure (hQ _ hit' (Heap.SameBut.update ..))⟩)
theorem end_key{Q:Option Value->Shared->Prop}(hh:A.handled=none)(hit:s.heap.IsKeyIter it d i es.size ep)(hod:s.heap.get? d=some od)(hdd:od.data= .dict es ep)(hi:es.size<=i)(hQ: ∀h',Heap.ExtBut it s.heap h'->Q none {s with heap:=h'}):wpAny (model prog w) A (pyNext (.ref it)) Q E s:=by
 obtain⟨o,ho,hc,hd⟩:=id hit;have hT:=hit.typeIs;unfold pyNext;refine wpAny_bind (wpAny_attempt (wpAny_callSpecial?_slot (name:=Str.ofString "__next__") hT F.slot_dict_keyiterator_next (wpAny_call_entry F.slot_dict_keyiterator_next hT F.entry_dict_keyiterator_next ?_ (F.args_dict_keyiterator_next_1 _))));refine wpAny_bind (wpAny_pure (wpAny_bind (wpAny_bind ?_)))
 (first | refine wpAny_bind (wpAny_typeNameOfWhole_keyiter hT (wpAny_pure ?_)) | refine wpAny_bind (wpAny_typeNameOf_keyiter hT (wpAny_pure ?_)))
 refine wpAny_bind (wpAny_fieldsOf ho hd ?_);simp only [show Builtin.Dict_items.ownsTuple "dict_keyiterator"=false by decide,Bool.false_eq_true,if_false];show wpAny _ _ (if (Value.ref d==Value.none)=true then _ else _) _ _ _;rw[if_neg (show¬(Value.ref d==Value.none)=true from Bool.false_ne_true)];refine wpAny_bind (wpAny_pure (wpAny_bind (wpAny_dictEntries hod hdd ?_)));rw[if_neg (by simp)];refine wpAny_bind (wpAny_pure (wpAny_bind (wpAny_dictEpoch hod hdd ?_)));rw[if_neg (by simp)];refine wpAny_pure ?_;simp only [show¬((i:Int) < 0) by lia,if_false,Int.toNat_natCast,Array.getElem?_eq_none hi];refine wpAny_bind ?_
 (first | refine wpAny_bind (wpAny_typeNameOfWhole_keyiter hT (wpAny_pure ?_)) | refine wpAny_bind (wpAny_typeNameOf_keyiter hT (wpAny_pure ?_)))
 show wpAny _ _ (setField (.ref it) 0 .none >>=fun _=>_) _ _ _;refine wpAny_bind (wpAny_setField ho hd (by simp) ?_);show wpAny _ _ (newExc (.type "StopIteration") [] >>=fun _=>_) _ _ _;refine wpAny_bind ?_;simp only [newExc,newTuple];refine wpAny_bind (wpAny_newObj_type (wpAny_bind (m:=firstArgMember _ _) (wpAny_of_eq (a:=Value.none) (by first | rfl | (simp only [firstArgMember];rfl)) (wpAny_newObj_type ?_ (by size_fits)))) (by size_fits));simp only [raiseNew];refine wpAny_bind (wpAny_handled ?_);rw[show A.in1.handled=none from hh];refine wpAny_bind (wpAny_pure (wpAny_throw ?_));refine wpAny_bind (wpAny_isInstance (T:="StopIteration") (b:=true) (show Shared.TypeIs _ _ _ from⟨_,Heap.get?_push_size _ rfl,rfl⟩) isSubtype_stop ?_);exact wpAny_pure (hQ _ (((Heap.SameBut.update ..).extBut.push _).push _))
def DRaw(h:Heap)(d:Addr)(od:Obj)(es:Array DictEntry)(ep:Nat):Prop:=h.get? d=some od/\od.data= .dict es ep
theorem walks_keys(hh:A.handled=none)(I d:Addr)(hne:d≠I)(od:Obj)(es:Array DictEntry)(ep:Nat):
  Walks prog w A I [I,d] [I] es.size (fun i v=> ∃e,es[i]?=some e/\v=e.key) (fun i h=>h.IsKeyIter I d i es.size ep/\DRaw h d od es ep) where
 sub:=fun b hb=>by simp at hb;simp [hb]
 frame:=fun _ _ _ st hk=>⟨st.1.at fun o e=>hk I (by simp) o e,hk d (by simp) _ st.2.1,st.2.2⟩
 item:=fun i s Q E hi st hQ=>next_key st.1 st.2.1 st.2.2 hi fun h' hit' hs'=>hQ _ h' s.toks ⟨es[i],Array.getElem?_eq_getElem hi,rfl⟩ ⟨hit',hs'.extBut d od hne st.2.1,st.2.2⟩ fun b o hb e=>hs'.extBut b o (fun h=>hb (by simp [h])) e
 done:=fun s Q E st hQ=>end_key hh st.1 st.2.1 st.2.2 (Nat.le_refl _) fun h' he'=>hQ h' s.toks fun b o hb e=>he' b o (fun h=>hb (by simp [h])) e
 self:=fun _ _ _ _ st hQ=>wpAny_pyIter_keyiter st.1 hQ
theorem iter_raw{Q:Value->Shared->Prop}(hx:od.ExactDict)(lo:(d==sysModules)=false)(hR:DRaw s.heap d od es ep)
  (hQ:Q (.ref s.heap.objs.size) {s with heap:=s.heap.push {cls:= .type "dict_keyiterator",data:= .fields #[.ref d, .int 0 0, .int es.size 0, .int ep 0]}}):wpAny (model prog w) A (pyIter (.ref d)) Q E s:=by
 obtain⟨ho,hdat⟩:=hR;have hT:s.TypeIs (.ref d) "dict":=⟨od,ho,hx.1⟩
 refine wpAny_pyIter_slot hT F.slot_dict_iter (wpAny_call_entry F.slot_dict_iter hT F.entry_dict_iter ?_ (F.args_dict_iter_1 _));unfold Builtin.«dict.__iter__»;refine wpAny_bind ?_;unfold Builtin.Dict.dictSlotNone;refine wpAny_bind (wpAny_notOrdered_dict hT ?_);show wpAny _ _ (pure (Value.ref d)) _ _ _;refine wpAny_pure ?_;show wpAny _ _ (Builtin.Dict.showsAll d >>=fun _=>_) _ _ _;unfold Builtin.Dict.showsAll;rw[if_neg (by rw[lo];exact Bool.false_ne_true)];refine wpAny_bind (wpAny_pure (wpAny_bind (wpAny_dictEntries ho hdat (wpAny_bind (wpAny_dictEpoch ho hdat (wpAny_bind (wpAny_newObj_type (wpAny_pure ⟨_,rfl,"dict_keyiterator",_,⟨_,Heap.get?_push_size _ rfl,rfl⟩,F.slot_dict_keyiterator_next.lookup,?_⟩))))))));simpa [rawInt] using hQ
theorem kdl_raw(hx:od.ExactDict)(lo:(d==sysModules)=false):KdlSrc prog w "dict" d d es.size (fun i v=> ∃e,es[i]?=some e/\v=e.key) (fun h=>DRaw h d od es ep) where
 type:=fun _ hm=>⟨od,hm.1,hx.1⟩
 there:=fun _ hm=>⟨Heap.lt_size hm.1,Heap.lt_size hm.1⟩
 keep:=fun _ _ hm hk=>⟨hk d (.inl rfl) _ hm.1,hm.2⟩
 notList:=by decide
 notTuple:=by decide
 hint:=fun _ _ _ _ hm hq=>kdl_hint_dict ⟨od,hm.1,hx.1⟩ hq
 iter:=fun _ _ hh hm=>⟨_,_,(fun _ _ hq=>iter_raw hx lo hm hq),walks_keys hh _ d (Nat.ne_of_lt (Heap.lt_size hm.1)) od es ep,⟨⟨_,Heap.get?_push_size _ rfl,rfl,rfl⟩,Heap.get?_push_of_some _ hm.1,hm.2⟩⟩
theorem collect_keys{Q:List Value->Shared->Prop}(hh:A.handled=none)(hx:od.ExactDict)(lo:(d==sysModules)=false)(hR:DRaw s.heap d od es ep)(hn:es.size<=sizeLine)
  (h: ∀h' tk,s.heap.objs.size < h'.objs.size->(∀b o,s.heap.get? b=some o->h'.get? b=some o)->Q (es.toList.map (·.key)) {s with heap:=h',toks:=tk}):wpAny (model prog w) A (collect (.ref d)) Q E s:=by
 have ld:=Heap.lt_size hR.1;unfold collect;refine wpAny_bind (wpAny_runValue (codeAny_builtin F.entry_proto_collect ?_));rw[Around.under_plainId F.plain_proto_collect _];show wpAny _ A.in1 (newList [] >>=fun l=>again (.builtin "list.__iadd__" ⟨[l, .ref d],[]⟩)) _ _ s;refine wpAny_bind (wpAny_newObj_type (wpAny_pure ⟨plainId_quiet F.plain_list_iadd _,codeAny_builtin F.entry_list_iadd ?_⟩));rw[Around.under_plainId F.plain_list_iadd _];have hL:(s.heap.push {cls:= .type "list",data:= .seq ([]:List Value).toArray}).get? s.heap.objs.size=some {cls:= .type "list",data:= .seq #[]}:=Heap.get?_push_size _ rfl;show wpAny _ A.in1 (Builtin.List.listExtendWith (.ref s.heap.objs.size) (.ref d) (.ref s.heap.objs.size)) _ _ _;have fin: ∀(h':Heap) (tk:Nat) (acc:Array Value) (c:Nat),(∀b o,b≠s.heap.objs.size->(s.heap.push {cls:= .type "list",data:= .seq ([]:List Value).toArray}).get? b=some o->h'.get? b=some o)->h'.get? s.heap.objs.size=some {cls:= .type "list",dict:=none,data:= .seq acc c,slots:= #[]}->ItemsOf (fun i v=> ∃e,es[i]?=some e/\v=e.key) acc es.size->s.heap.objs.size < h'.objs.size/\Q acc.toList {s with heap:=h',toks:=tk}:=fun h' tk acc c hk hS hacc=>by
  have ea:acc.toList=es.toList.map (·.key):=by
   refine List.ext_getElem? fun j=>?_;rw[List.getElem?_map,Array.getElem?_toList,Array.getElem?_toList];by_cases c:j < es.size
   . have ja:j < acc.size:=by rw[hacc.1];exact c
     obtain⟨e,he,hv⟩:=hacc.2 j _ (Array.getElem?_eq_getElem ja);rw[Array.getElem?_eq_getElem ja,he,hv];rfl
   . rw[Array.getElem?_eq_none (by rw[hacc.1];lia),Array.getElem?_eq_none (by lia)];rfl
  have:=h h' tk (Heap.lt_size hS) fun b o e=>hk b o (Nat.ne_of_lt (Heap.lt_size e)) (Heap.get?_push_of_some _ e);rw[<-ea] at this;exact⟨Heap.lt_size hS,this⟩
 have key:=kdl_extend (A:=A) (s:={s with heap:=s.heap.push {cls:= .type "list",data:= .seq ([]:List Value).toArray}}) (R:=fun(q:Result) (s':Shared)=> ∃(h':Heap) (tk:Nat) (acc:Array Value) (c:Nat),q= .ok (.ret (.ref s.heap.objs.size))/\s'={s with heap:=h',toks:=tk}/\h'.get? s.heap.objs.size=some {cls:= .type "list",dict:=none,data:= .seq acc c,slots:= #[]}/\Q acc.toList {s with heap:=h',toks:=tk}) (kdl_raw (prog:=prog) (w:=w) (ep:=ep) (es:=es) (od:=od) hx lo) hh ⟨Heap.get?_push_of_some _ hR.1,hR.2⟩ s.heap.objs.size (Nat.ne_of_gt ld) (Nat.ne_of_gt ld) (.ref s.heap.objs.size) 0 hL (fun h' tk acc c hk hS hacc=>⟨h',tk,acc,c,rfl,rfl,hS,(fin h' tk acc c hk hS hacc).2⟩) hn;refine wpAny_mono key (fun fn s' x=>?_) fun e s' x=>by obtain⟨_,_,_,_,e',_⟩:=x;cases e'
 cases fn with
 | done f=>
  obtain⟨h',tk,acc,c,e,rfl,hS,q⟩:=x;cases e;show wpAny _ A (load s.heap.objs.size >>=fun _=>_) _ _ _;exact wpAny_bind (wpAny_load hS (wpAny_pure q))
 | again c₁=>
  refine⟨x.1,codeAny_mono x.2 fun q s₂ y=>?_⟩;obtain⟨h',tk,acc,c,rfl,rfl,hS,q⟩:=y;show wpAny _ A (load s.heap.objs.size >>=fun _=>_) _ _ _;exact wpAny_bind (wpAny_load hS (wpAny_pure q))
end
end LDw
end
section
namespace LNk
open PySem PySem.Spec L2 PyProof.Rows
theorem sdF_st{P:Program}{w:World}{a:Addr}{xs:List SE}{h1 h2:Heap}(f:sdF P w a xs h1)(k: ∀o,h1.get? a=some o->h2.get? a=some o):sdF P w a xs h2:=by
 obtain⟨f1,f2,zs,f3,o,es',ep',f4,f5⟩:=f;exact⟨f1,f2,zs,f3,o,es',ep',k _ f4,f5⟩
end LNk
end
section
namespace LNk
open PySem PySem.Spec L2 PyProof.Rows
def tSDisp(tk tv:TE)(P:Program)(w:World):TE:=fun σ H Q=> ∀p,H p=none->tk σ (upd H p (sdH P w p [])) fun x H1=>tv σ H1 fun y H2=> ∃b k,x= .ref b/\H2 p=some (sdH P w p [])/\KeyAt H2 k b/\Q (.ref p) (upd H2 p (sdH P w p [(k,b,y)]))
section
variable {X : Cx} {k v o : Expr} {tk tv tl : TE} {pos apos cpos : Pos}
theorem pe_sdisp(hu:X.A.units+2 < cLine)(hk:PE X k tk)(hv:PE X v tv):PE X (.Dict [some k] [v] pos) (tSDisp tk tv X.prog X.w):=by
 intro pins s σ H Q I q;have hn:=I.hok.fresh (Nat.le_refl s.heap.objs.size);have I1:=I.laid (a:=s.heap.objs.size) (o:=sdH X.prog X.w s.heap.objs.size []) (h':=s.heap.push {cls:= .type "dict",data:= .dict #[]}) (t':=s.toks) (fun _ _ q=>Heap.get?_push_of_some _ q) (Nat.le_refl _) (sd_empty s.heap I.big);rw[arm_eval_Dict,zip_pairTrees [some k] [v] X.env pos rfl rfl,dictDisplay_pairs _ (by show(_::_:List _)≠ [];intro z;cases z) (by show 1 < 17;decide)];refine wpAny_bind (wpAny_standAt (wpAny_bind ?_));unfold subDict;refine wpAny_bind (wpAny_alloc ?_);refine wpAny_bind (wpAny_holding ?_);rw[if_pos (by show 1<=15;decide)];refine wpAny_bind (pairTrees_cons_walk (thn (hk pins _ σ _ _ I1 (q _ hn)) fun u s1 ⟨x,H1,J1,rx,q1⟩=>thn (hv pins s1 σ _ _ J1 q1) fun w2 s2 ⟨y,H2,J2,ry,q2⟩=>pairTrees_nil_walk ?_));obtain⟨b,κ,ex,e,hk',q3⟩:=q2;subst ex;cases (show u=Value.ref b from rx);refine wpAny_holding (wpAny_bind ?_);rw[List.forIn_cons];have d:SdAt X.prog X.w H2 s.heap.objs.size []:=⟨e,fun x hx=>absurd hx List.not_mem_nil⟩
 obtain⟨z,hd,ys,rel,dd⟩:=sd_of J2.hok d;cases rel;refine wpAny_bind (wpAny_bind (wpAny_dictSet_heap (knd:=skKind X.prog X.w) (show X.A.units+1 < cLine by lia) (hk'.is J2.hok) dd (fun h' dd' hs=>wpAny_pure ?_) (Nat.zero_le _)));dsimp only;rw[List.forIn_nil];obtain⟨qo,es,ep,hq,h2,h3,h4,_,h5⟩:=dd';refine wpAny_pure (wpAny_pure (wpAny_pure (wpAny_pure ⟨.ref s.heap.objs.size,_,?_,rfl,q3⟩)));refine d_write J2 (by rw[e];exact True.intro) hs ⟨qo,hq⟩ ⟨⟨by show 1<=sizeLine;decide,hd,[(κ,b,w2)], .cons ⟨rfl,rfl,ry⟩ .nil,qo,es,ep,hq,h2,h3,h4,h5⟩,⟨qo,hq⟩,fun h1 h2' f k2=>sdF_st f k2⟩
end
end LNk
end
section
namespace LD
open PySem PySem.Spec L2 LB PyProof.Rows LW
noncomputable def keysD:List Dt->Option (List Key)
 | []=>some []
 | d::ds=>match keyD d,keysD ds with
  | some k,some ks=>some (k::ks)
  | _,_=>none
noncomputable def keyT:Dt->Option (List Key)
 | .tup ds=>keysD ds
 | _=>none
theorem keys_rep{M:Addr->Prop}{H:Hp}: ∀{ds:List Dt} {vs:List V} {ks:List Key},Reps M H vs ds->keysD ds=some ks->vs=ks.map kV
 | [],vs,ks,r,h=>by cases h;cases r.unnil;rfl
 | d::ds,vs,ks,r,h=>by
  obtain⟨x,ys,rfl,rx,ry⟩:=r.uncons;unfold keysD at h;split at h
  . rename_i k ks' h1 h2;cases h;rw[key_rep rx h1,keys_rep ry h2];rfl
  . cases h
theorem keyT_rep{M:Addr->Prop}{H:Hp}{v:V}{d:Dt}{k:List Key}(r:Rep M H v d)(h:keyT d=some k): ∃b,v= .ref b/\H b=some (.tup (k.map kV)):=by
 cases d with
 | tup ds=>
  obtain⟨b,xs,rfl,hb,n,rr⟩:=r.ofTup;rw[keys_rep rr h] at hb;exact⟨b,rfl,hb⟩
 | _=>cases h
noncomputable def TD(ks:List (List Key))(ds:List Dt):ObR where
 rel:=fun M H v as=> ∃a vs,as= [a]/\v= .ref a/\H a=some (.dT vs)/\vs.map (·.1)=ks/\Reps M H (vs.map (·.2)) ds
 st:=fun z ka k=>by
  obtain⟨a,vs,rfl,ev,h,e,r⟩:=z;exact⟨a,vs,rfl,ev,ka a (by simp) _ h,e,r.mono k⟩
noncomputable abbrev td (ks:List (List Key)) (ds:List Dt):Sl:= .ob (TD ks ds)
section
variable {X : Cx} {a b e : Expr} {ta tb tv t : DTE} {x : Str} {xp pos pos' : Pos}
theorem td_at{W:List Wd}{M:Addr->Prop}{α:List (List Addr)}{H:Hp}{σ:L2.St}{δ:List Sl}{i:Nat}{ks:List (List Key)}{ds:List Dt}(E:EnvR W M α H σ δ)(h:δ[i]?=some (td ks ds)): ∃a vs,σ[i]?=some (some (.ref a))/\α[i]?=some [a]/\H a=some (.dT vs)/\vs.map (·.1)=ks/\Reps M H (vs.map (·.2)) ds:=by
 obtain⟨o,as,s1,s2,v,rfl,a,vs,rfl,rfl,h1,h2,h3⟩:=E.sl i _ h;exact⟨a,vs,s1,s2,h1,h2,h3⟩
end
end LD
end
section
namespace LNk
open PySem PySem.Spec L2 LB LD PyProof.Rows
noncomputable def oDt:Option Int->Dt
 | none=> .non
 | some i=> .int i
noncomputable def skD(k:SK):Dt:= .tup [.tup (k.1.map .int), .int k.2.1, .tup (k.2.2.map oDt)]
structure KeyM(M:Addr->Prop)(H:Hp)(k:SK)(b:Addr):Prop where
 ex: ∃b1 b2,(H b=some (.tup [.ref b1, .int k.2.1, .ref b2])/\ ¬M b)/\(H b1=some (.tup (k.1.map V.int))/\ ¬M b1)/\(H b2=some (.tup (k.2.2.map oV))/\ ¬M b2)
section
variable {M M' : Addr -> Prop} {H H' : Hp} {k : SK} {b : Addr}
theorem KeyM.at(x:KeyM M H k b):KeyAt H k b:=let ⟨b1,b2,e,e1,e2⟩:=x.ex;⟨b1,b2,e.1,e1.1,e2.1⟩
theorem KeyM.st(x:KeyM M H k b)(h: ∀a o,H a=some o-> ¬M a->H' a=some o/\ ¬M' a):KeyM M' H' k b:=let ⟨b1,b2,e,e1,e2⟩:=x.ex;⟨b1,b2,h _ _ e.1 e.2,h _ _ e1.1 e1.2,h _ _ e2.1 e2.2⟩
theorem ints_of: ∀{ns:List Int} {vs:List V},Reps M H vs (ns.map Dt.int)->vs=ns.map V.int
 | [],vs,r=>r.unnil
 | n::ns,vs,r=>by
  obtain⟨x,ys,rfl,rx,ry⟩:=r.uncons;cases rx.ofInt;rw[ints_of ry];rfl
theorem opts_of: ∀{ns:List (Option Int)} {vs:List V},Reps M H vs (ns.map oDt)->vs=ns.map oV
 | [],vs,r=>r.unnil
 | none::ns,vs,r=>by
  obtain⟨x,ys,rfl,rx,ry⟩:=r.uncons;cases rx.ofNon;rw[opts_of ry];rfl
 | some n::ns,vs,r=>by
  obtain⟨x,ys,rfl,rx,ry⟩:=r.uncons;cases rx.ofInt;rw[opts_of ry];rfl
theorem KeyM.of{v:V}(r:Rep M H v (skD k)): ∃b,v= .ref b/\KeyM M H k b:=by
 obtain⟨b,xs,rfl,hb,nb,rr⟩:=r.ofTup;obtain⟨x1,r1,rfl,q1,rr⟩:=rr.uncons;obtain⟨x2,r2,rfl,q2,rr⟩:=rr.uncons;obtain⟨x3,r3,rfl,q3,rr⟩:=rr.uncons;cases rr.unnil;obtain⟨b1,y1,rfl,h1,n1,s1⟩:=q1.ofTup;cases q2.ofInt;obtain⟨b2,y2,rfl,h2,n2,s2⟩:=q3.ofTup;rw[ints_of s1] at h1;rw[opts_of s2] at h2;exact⟨b,rfl,b1,b2,⟨hb,nb⟩,⟨h1,n1⟩,⟨h2,n2⟩⟩
end
noncomputable def datE(xs:List SE):List (SK × V):=xs.map fun x=>(x.1,x.2.2)
end LNk
end
section
namespace K34
open PySem PySem.Spec L2 LB LD PyProof.Rows LNk
noncomputable def sk(s:St):SK:=(s.pile.map Int.ofNat,Int.ofNat s.b,s.ons.map (Option.map Int.ofNat))
theorem sk_dt{s:St}:skD (sk s)=s.dt:=by
 unfold skD sk St.dt;simp only [List.map_map];congr 1
 refine List.cons_eq_cons.mpr ⟨rfl,List.cons_eq_cons.mpr ⟨rfl,List.cons_eq_cons.mpr ⟨?_,rfl⟩⟩⟩;congr 1
 refine List.map_congr_left fun o _=>?_;cases o <;> rfl
theorem sk_inj{s t:St}(h:sk s=sk t):s=t:=by
 obtain⟨p,b,o⟩:=s;obtain⟨p',b',o'⟩:=t;unfold sk at h;obtain⟨h1,h⟩:=Prod.mk.inj h;obtain⟨h2,h3⟩:=Prod.mk.inj h;have i1: ∀x y:Nat,Int.ofNat x=Int.ofNat y->x=y:=fun x y e=>Int.ofNat.inj e;have i2: ∀x y:Option Nat,x.map Int.ofNat=y.map Int.ofNat->x=y:=fun x y e=>by
  cases x with
  | none=>cases y with
   | none=>rfl
   | some y=>cases e
  | some x=>cases y with
   | none=>cases e
   | some y=>exact congrArg some (i1 x y (Option.some.inj e))
 have e1:p=p':=(List.map_inj_right i1).mp h1;have e2:b=b':=i1 _ _ h2;have e3:o=o':=(List.map_inj_right i2).mp h3;rw[e1,e2,e3]
noncomputable def mayW(s:St):List Str:=(if canRead s then [("read":Str)] else [])++(if canNext s then [("next":Str)] else [])++(if canUnder s then [("under":Str)] else [])
theorem may_w{s:St}:mayL s=(mayW s).map .str:=by
 unfold mayL mayW;rw[List.map_append,List.map_append];congr 1
 . congr 1 <;> split <;> rfl
 . split <;> rfl
theorem may_okW{s:St}{w:Str}(h:w∈mayW s):okB s w=true:=by
 rw[<-in_may,may_w];unfold inD;exact List.any_eq_true.mpr ⟨_,List.mem_map_of_mem h,by show decide (w=w)=true;exact decide_eq_true rfl⟩
theorem hu2{A:Around}{k:Nat}(hr:Room k A):A.units+2 < cLine:=Nat.lt_of_le_of_lt (Nat.add_le_add_left (by decide:2<=64) _) hr.units
theorem may_len{s:St}:(mayL s).length<=3:=by
 unfold mayL;cases canRead s <;> cases canNext s <;> cases canUnder s <;> simp
end K34
end
section
namespace K34
open PySem PySem.Spec L2 LB LD PyProof.Rows LNk
structure Wk(n m:Nat)(s:St):Prop where
 g:Good n m s
 bl:s.b<=n+1
 nd:s.pile.Nodup
 lt: ∀w∈s.pile,w < s.b
 un: ∀w,1<=w->w<=n->(s.ons[w - 1]?=some none↔w∈s.pile\/s.b<=w)
theorem wk_first(n:Nat):Wk n 0 (first n):=by
 refine⟨good_first n,by show 1<=n+1;lia,List.nodup_nil,fun w hw=>absurd hw List.not_mem_nil,fun w h1 h2=>⟨fun _=> .inr h1,fun _=>?_⟩⟩;show(List.replicate n none)[w - 1]?=some none;rw[List.getElem?_replicate,if_pos (by lia)]
theorem wk_tie{n m:Nat}{s:St}{on:Nat}(k:Wk n m s)(g:Good n (m+1) (s.tie on))(ne:s.pile≠ []):Wk n (m+1) (s.tie on):=by
 obtain⟨q,h,e⟩: ∃q h,s.pile=q++ [h]:=⟨s.pile.dropLast,s.pile.getLast ne,(List.dropLast_concat_getLast ne).symm⟩
 have hl:s.pile.getLastD 1=h:=by rw[e];simp
 have hd:s.pile.dropLast=q:=by rw[e];simp
 have nd:=k.nd;have lt:=k.lt;have rg:=k.g.rng;rw[e] at nd lt rg;have hq:h∉q:=fun z=>by
  have:=List.nodup_append.mp nd;exact this.2.2 h z h List.mem_cons_self rfl
 have hb:h < s.b:=lt h (by simp);have h1:1<=h/\h<=n:=rg h (by simp);refine⟨g,k.bl,?_,fun w hw=>?_,fun w w1 w2=>?_⟩
 . show s.pile.dropLast.Nodup;rw[hd];exact(List.nodup_append.mp nd).1
 . have hw:w∈s.pile.dropLast:=hw;rw[hd] at hw;exact lt w (List.mem_append_left _ hw)
 . show(s.ons.set (s.pile.getLastD 1 - 1) (some on))[w - 1]?=some none↔w∈s.pile.dropLast\/s.b<=w;rw[hl,hd];have hu:=k.un w w1 w2;rw[e] at hu;have lo:=k.g.l;by_cases c:w=h
   . subst c;rw[List.getElem?_set_self (by lia)];exact⟨fun z=>(by cases z),fun z=>z.elim (fun y=>absurd y hq) fun y=>by lia⟩
   . rw[List.getElem?_set_ne (by lia),hu,List.mem_append,List.mem_singleton];exact⟨fun z=>z.elim (fun y=>y.elim .inl fun x=>absurd x c) .inr,fun z=>z.elim (fun y=> .inl (.inl y)) .inr⟩
theorem wk_step{n m:Nat}{s:St}{w:Str}(k:Wk n m s)(h:okB s w=true):Wk n (m+1) (stp s w):=by
 have g:=good_step k.g h;rcases ok_cases h with ⟨_,c,e⟩ | ⟨_,c,e⟩ | ⟨_,c,e⟩
 . rw[e] at g ⊢;have c':s.b<=s.ons.length:=of_decide_eq_true c;have lo:=k.g.l;refine⟨g,by show s.b+1<=n+1;lia,?_,fun w hw=>?_,fun w w1 w2=>?_⟩
   . show(s.pile++ [s.b]).Nodup;refine List.nodup_append.mpr ⟨k.nd,List.nodup_cons.mpr ⟨List.not_mem_nil,List.nodup_nil⟩,fun a ha b hb z=>?_⟩;have:=k.lt a ha;rw[List.mem_singleton.mp hb] at z;lia
   . rcases List.mem_append.mp (show w∈s.pile++ [s.b] from hw) with z | z
     . exact Nat.lt_succ_of_lt (k.lt w z)
     . rw[List.mem_singleton.mp z];exact Nat.lt_succ_self _
   . show s.ons[w - 1]?=some none↔w∈s.pile++ [s.b]\/s.b+1<=w;rw[k.un w w1 w2,List.mem_append,List.mem_singleton];constructor
     . rintro(z | z)
       . exact .inl (.inl z)
       . by_cases c:w=s.b
         . exact .inl (.inr c)
         . exact .inr (by lia)
     . rintro((z | z) | z)
       . exact .inl z
       . exact .inr (by lia)
       . exact .inr (by lia)
 . rw[e] at g ⊢;refine wk_tie k g fun z=>?_;unfold canNext at c;rw[z] at c;simp at c
 . rw[e] at g ⊢;refine wk_tie k g fun z=>?_;have c:1 < s.pile.length:=of_decide_eq_true c;rw[z] at c;exact absurd c (by simp)
end K34
end
section
namespace K34
open PySem PySem.Spec L2 LB LD PyProof.Rows LNk
structure Lv(n m:Nat)(s:St):Prop where
 k:Wk n m s
 c:m+s.pile.length+2=2*s.b
 p: ∀(i:Nat) x,s.ons[i]?=some (some x)->1<=x
theorem lv_first(n:Nat):Lv n 0 (first n):=⟨wk_first n,rfl,fun i x h=>by
 have h:(List.replicate n (none:Option Nat))[i]?=some (some x):=h;rw[List.getElem?_replicate] at h;split at h <;> cases h⟩
theorem lv_step{n m:Nat}{s:St}{w:Str}(l:Lv n m s)(o:okB s w=true):Lv n (m+1) (stp s w):=by
 refine⟨wk_step l.k o,?_,?_⟩
 . have b1:=l.k.g.b;have c:=l.c;rcases ok_cases o with ⟨rfl,c',e⟩ | ⟨rfl,c',e⟩ | ⟨rfl,c',e⟩ <;> rw[e]
   . show m+1+(s.pile++ [s.b]).length+2=2*(s.b+1);rw[List.length_append];show m+1+(s.pile.length+1)+2=2*(s.b+1);lia
   all_goals
    have np:1<=s.pile.length:=by
     first
      | (unfold canNext at c';rw[Bool.and_eq_true] at c';cases q:s.pile with | nil=>rw[q] at c';cases c'.2 | cons a b=>simp)
      | (unfold canUnder at c';have:=of_decide_eq_true c';lia)
    show m+1+s.pile.dropLast.length+2=2*s.b;rw[List.length_dropLast];lia
 . rcases ok_cases o with ⟨rfl,c',e⟩ | ⟨rfl,c',e⟩ | ⟨rfl,c',e⟩ <;> rw[e]
   . exact l.p
   . intro i x h;have h:(s.ons.set (s.pile.getLastD 1 - 1) (some s.b))[i]?=some (some x):=h;rw[List.getElem?_set] at h;split at h
     . split at h
       . cases h;exact l.k.g.b
       . cases h
     . exact l.p i x h
   . intro i x h;have h:(s.ons.set (s.pile.getLastD 1 - 1) (some (s.pile.dropLast.getLastD 1)))[i]?=some (some x):=h;rw[List.getElem?_set] at h;split at h
     . split at h
       . cases h;have l2:2<=s.pile.length:=by unfold canUnder at c';exact of_decide_eq_true c'
         have np:s.pile.dropLast≠ []:=fun z=>by have:=congrArg List.length z;rw[List.length_dropLast,List.length_nil] at this;lia
         exact(l.k.g.rng _ ((List.dropLast_sublist _).subset (getL_mem np))).1
       . cases h
     . exact l.p i x h
theorem lv_done{n m:Nat}{s:St}(l:Lv n m s)(n1:1<=n):(s.b=n+1/\s.pile.length=1)↔m=2*n - 1:=by
 have c:=l.c;have bl:=l.k.bl;constructor
 . rintro⟨h1,h2⟩;lia
 . intro h;constructor <;> lia
noncomputable def isEnd(s:St):Bool:=!(decide (s.b<=s.ons.length) || decide (s.pile.length≠1))
noncomputable def endN(s:St):List Nat:=(s.ons.set (s.pile.headD 1 - 1) (some 0)).map (·.getD 0)
theorem lv_isEnd{n m:Nat}{s:St}(l:Lv n m s)(n1:1<=n):isEnd s=decide (m=2*n - 1):=by
 have:=lv_done l n1;have ol:=l.k.g.l;have bl:=l.k.bl;unfold isEnd;rw[ol,Bool.eq_iff_iff,Bool.not_eq_true',Bool.or_eq_false_iff,decide_eq_false_iff_not,decide_eq_false_iff_not,decide_eq_true_iff,<-this];constructor
 . rintro⟨h1,h2⟩;exact⟨by lia,by lia⟩
 . rintro⟨h1,h2⟩;exact⟨by lia,fun z=>z h2⟩
theorem end_no{s:St}(h:isEnd s=false):endD s= .non:=by
 unfold isEnd at h;unfold endD;rw[if_pos];simp only [Bool.not_eq_false',Bool.or_eq_true,decide_eq_true_eq] at h;exact h
theorem end_yes{n m:Nat}{s:St}(l:Lv n m s)(h:isEnd s=true):endD s=tupN (endN s):=by
 unfold isEnd at h;simp only [Bool.not_eq_true',Bool.or_eq_false_iff,decide_eq_false_iff_not] at h;unfold endD;rw[if_neg (by rintro(z | z);exact h.1 z;exact h.2 z)];unfold tupN endN;rw[List.map_map];congr 1
 refine List.map_congr_left fun o ho=>?_;obtain⟨i,hi,e⟩:=List.getElem_of_mem ho;cases o with
 | some x=>rfl
 | none=>
  exfalso;have e':(s.ons.set (s.pile.headD 1 - 1) (some 0))[i]?=some none:=by rw[List.getElem?_eq_getElem hi,e]
  have hi':i < s.ons.length:=by rw[List.length_set] at hi;exact hi
  rw[List.getElem?_set] at e';split at e'
  . split at e' <;> cases e'
  . rename_i ne;have ol:=l.k.g.l;have un:=(l.k.un (i+1) (by lia) (by lia)).mp (by rw[Nat.add_sub_cancel];exact e');rcases un with z | z
    . have l1 : s.pile.length = 1 := by
        have:=h.2;exact Classical.not_not.mp this
      match hp:s.pile,l1 with
      | [a],_=>
       rw[hp] at z ne;have:i+1=a:=List.mem_singleton.mp z;exact ne (by show a - 1=i;lia)
    . exact h.1 (by lia)
end K34
end
section
namespace K34
open PySem PySem.Spec L2 LB LD PyProof.Rows
noncomputable def upN(hs:List Nat)(w:Nat):Nat:=hs.getD (w - 1) 0
theorem upN_get{hs:List Nat}{w:Nat}(h1:1<=w)(h2:w<=hs.length):hs[w - 1]?=some (upN hs w):=by
 unfold upN List.getD;rw[List.getElem?_eq_getElem (by lia)];rfl
theorem enN(hs:List Nat):enumD 1 (hs.map nI)=(List.range' 1 hs.length).map fun x=> .tup [nI x,nI (upN hs x)]:=by
 refine List.ext_getElem? fun i=>?_;unfold enumD;rw[List.getElem?_mapIdx,List.getElem?_map,List.getElem?_map];by_cases hi:i < hs.length
 . have:=upN_get (hs:=hs) (w:=i+1) (by lia) (by lia);rw[Nat.add_sub_cancel] at this;rw[this,List.getElem?_range' (by lia)];show some _=some _;rw[show 1+1*i=i+1 by lia]
 . rw[List.getElem?_eq_none (by lia),List.getElem?_eq_none (by rw[List.length_range'];lia)];rfl
noncomputable def prN(p:Nat × Nat):Dt:= .tup [nI p.1,nI p.2]
noncomputable def tieP(hs:List Nat)(x:Nat):Nat × Nat:=(min x (upN hs x),max x (upN hs x))
noncomputable def crsP(p q:Nat × Nat):Bool:=decide (p.1 < q.1) && (decide (q.1 < p.2) && decide (p.2 < q.2))
noncomputable def tiesP(hs:List Nat):List (Nat × Nat):=(List.range' 1 hs.length).map (tieP hs)
noncomputable def plB(hs:List Nat):Bool:=(tiesP hs).all fun p=>((tiesP hs).filter (crsP p)).isEmpty
def isPlainS:DN:=fun ds Q=> ∃hs:List Nat,ds= [tupN hs]/\hs.length<=12/\Q (.bl (plB hs))
noncomputable def unPr:Dt->Nat × Nat
 | .tup [.int a, .int b]=>(a.toNat,b.toNat)
 | _=>(0,0)
theorem unPr_prN{p:Nat × Nat}:unPr (prN p)=p:=by
 show(((p.1:Nat):Int).toNat,((p.2:Nat):Int).toNat)=p;rw[Int.toNat_natCast,Int.toNat_natCast]
theorem isE_map{α β:Type}{f:α->β}{L:List α}:(L.map f).isEmpty=L.isEmpty:=by cases L <;> rfl
theorem tiesP_len{hs:List Nat}:(tiesP hs).length=hs.length:=by unfold tiesP;rw[List.length_map,List.length_range']
section
variable {P : Program} {w : World} {K : PySem.W.Frag} {mg : Str -> Option Value} {base : Heap}
def PlainI(hs:List Nat)(i:Nat)(δ:List Sl):Prop:= ∃s2 s3,δ= [.im (tupN hs), .im (.lst ((tiesP hs).map prN)),s2,s3]/\s2.isBx=false/\s3.isBx=false/\ ∀p∈(tiesP hs).take i,(tiesP hs).filter (crsP p)= []
theorem ok_lIsPlain{f:Addr}{fd:FuncData}(F:Fun K "_law_is_plain" "_law_is_plain" sLIsPlain f fd)(T:Txt mg):FnOk P w K mg base CX0 1 f fd ["_law_h"] (spA isPlainS):=by
 refine fnA F scLIsPlain (fun ds Qd h=>?_) (fun cdv A outer s H E hr=>⟨_,(s_cons (s_comp 1 scLIsPlain.nd (N:= ["_law_word","_law_on"]) (nt:=2) (js:= []) ⟨rfl,by decide+kernel,by decide,rfl,by decide+kernel,(by show∀x∈(_:List (Str × NameKind)),x.2=NameKind.free->(defScope sLIsPlain).names.lookup x.1=some .cell\/(defScope sLIsPlain).names.lookup x.1=some .free;decide+kernel)⟩ rfl (i_enum1 T.enu (a_cons (dv 0) (a_cons d_int a_nil))) (fun _ _ _ _ _=>pg_tup rfl (pgs_cons (pg_name (i:=0) (show(["_law_word","_law_on"]:List Str).Nodup by decide+kernel) rfl (by first | exact Or.inl rfl | exact Or.inr rfl)) (pgs_cons (pg_name (i:=1) (show(["_law_word","_law_on"]:List Str).Nodup by decide+kernel) rfl (by first | exact Or.inl rfl | exact Or.inr rfl)) pgs_nil))) glow_pair gpair_read (fun _ _ _ _ _=>f_nil) (fun _ _ _ _ _=>(d_tup (a_cons (d_min2 rfl T.min (a_cons (dv 0) (a_cons (dv 1) a_nil))) (a_cons (d_max2 rfl T.max (a_cons (dv 0) (a_cons (dv 1) a_nil))) a_nil)))))
 (s_cons (s_frz 1 (s_for rfl (i_list (dv 1)) (g_pair 2 3 rfl scLIsPlain.nd)
 (s_one (s_if (t_neNilL hr.units0 (Ov.ev (o_comp (N:= ["_law_c","_law_d","_law_a","_law_b"]) (nt:=2) (js:= [2,3]) ⟨rfl,by decide+kernel,by decide,rfl,by decide+kernel,(by show∀x∈(_:List (Str × NameKind)),x.2=NameKind.free->(defScope sLIsPlain).names.lookup x.1=some .cell\/(defScope sLIsPlain).names.lookup x.1=some .free;decide+kernel)⟩ rfl (i_list (dv 1)) (fun _ _ _ _ _=>pg_tup rfl (pgs_cons (pg_name (i:=0) (show(["_law_c","_law_d","_law_a","_law_b"]:List Str).Nodup by decide+kernel) rfl (by first | exact Or.inl rfl | exact Or.inr rfl)) (pgs_cons (pg_name (i:=1) (show(["_law_c","_law_d","_law_a","_law_b"]:List Str).Nodup by decide+kernel) rfl (by first | exact Or.inl rfl | exact Or.inr rfl)) pgs_nil))) glow_pair gpair_read (fun _ _ _ _ _=>f_one (t_lt3 (dv 2) (dv 0) (dv 3) (dv 1))) (fun _ _ _ _ _=>(dv 0)))))
 (s_one (s_ret d_bl))
 s_nil)) PassesOwn.never))
 (s_one (s_ret d_bl)))),fun ds Qd h=>?_⟩)
 . obtain⟨hs,rfl,_⟩:=h;rfl
 . obtain⟨hs,rfl,h12,q⟩:=h;have hl:(enumD 1 (hs.map nI)).length=hs.length:=by rw[enN,List.length_map,List.length_range']
   refine⟨_,rfl,_,rfl,by rw[hl];exact small (by lia),fun _=>true,fun d=>prN (min (unPr d).1 (unPr d).2,max (unPr d).1 (unPr d).2),fun d hd=>?_,?_⟩
   . rw[enN] at hd;obtain⟨x,_,rfl⟩:=List.mem_map.mp hd;refine⟨_,_,rfl,⟨_,rfl,rfl⟩,⟨_,rfl,rfl⟩,rfl,fun _=>⟨_,rfl,_,rfl,_,_,rfl,_,rfl,_,rfl,_,_,rfl,by show 2<=sizeLine;decide,?_⟩⟩;show Dt.tup [.int (min (x:Int) (upN hs x:Int)), .int (max (x:Int) (upN hs x:Int))]=prN (min (unPr (prN (x,upN hs x))).1 (unPr (prN (x,upN hs x))).2,max (unPr (prN (x,upN hs x))).1 (unPr (prN (x,upN hs x))).2);rw[unPr_prN,show min (x:Int) (upN hs x:Int)=((min x (upN hs x):Nat):Int) by grind,show max (x:Int) (upN hs x:Int)=((max x (upN hs x):Nat):Int) by grind];rfl
   have e0:(List.map (fun x=>Dt.tup [nI x,nI (upN hs x)]) (List.range' 1 hs.length)).map (fun d=>prN (min (unPr d).1 (unPr d).2,max (unPr d).1 (unPr d).2))=(tiesP hs).map prN:=by
    unfold tiesP;rw[List.map_map,List.map_map];refine List.map_congr_left fun x _=>?_;show prN (min (unPr (prN (x,upN hs x))).1 (unPr (prN (x,upN hs x))).2,max (unPr (prN (x,upN hs x))).1 (unPr (prN (x,upN hs x))).2)=_;rw[unPr_prN];rfl
   rw[List.filter_eq_self.mpr (fun _ _=>rfl),enN,e0];refine⟨⟨_,rfl,rfl⟩,⟨_,rfl,?_⟩⟩;refine⟨_,rfl,_,rfl,for_abs (PlainI hs) ⟨_,_,rfl,rfl,rfl,fun p hp=>absurd hp List.not_mem_nil⟩ (fun i d δ hi hP Δ' hnx hrt=>?_) (fun δ hP=>?_)⟩
   . obtain⟨s2,s3,rfl,b2,b3,no⟩:=hP;rw[List.getElem?_map] at hi;obtain⟨p,ep,rfl⟩:=Option.map_eq_some_iff.mp hi;refine⟨_,_,rfl,⟨_,rfl,b2⟩,⟨_,rfl,b3⟩,?_⟩;refine⟨_,rfl,_,rfl,by rw[List.length_map,tiesP_len];exact small (by lia),fun e=>crsP p (unPr e),fun e=>nI (unPr e).1,fun d hd=>?_,?_⟩
     . obtain⟨r,hr2,rfl⟩:=List.mem_map.mp hd;refine⟨_,_,rfl,⟨_,rfl,rfl⟩,⟨_,rfl,rfl⟩,⟨_,rfl,_,rfl,_,_,rfl,rfl,?_⟩⟩;have ef:(fun e=>crsP p (unPr e)) (prN r)=crsP p r:=by show crsP p (unPr (prN r))=_;rw[unPr_prN]
       have eg:(fun e=>nI (unPr e).1) (prN r)=nI r.1:=by show nI (unPr (prN r)).1=_;rw[unPr_prN]
       rw[ef,eg];by_cases h1:p.1 < r.1
       . refine iteP (by grind) ⟨_,rfl,_,rfl,?_⟩;by_cases h2:r.1 < p.2
         . refine iteP (by grind) ⟨_,rfl,_,rfl,_,rfl,?_,fun _=>⟨_,rfl,rfl⟩⟩;unfold crsP;rw[decide_eq_true h1,decide_eq_true h2];exact decide_eq_decide.mpr (by grind)
         . refine iteN (by grind) ⟨_,rfl,?_,fun _=>⟨_,rfl,rfl⟩⟩;unfold crsP;rw[decide_eq_false h2];simp
       . refine iteN (by grind) ⟨_,rfl,?_,fun _=>⟨_,rfl,rfl⟩⟩;unfold crsP;rw[decide_eq_false h1];simp
     . refine⟨_,rfl,?_⟩;rw[isE_map];have fe:(((tiesP hs).map prN).filter fun e=>crsP p (unPr e))=((tiesP hs).filter (crsP p)).map prN:=by
        rw[List.filter_map];congr 1
       rw[fe,isE_map];have mp:p∈tiesP hs:=List.mem_of_getElem? ep;by_cases c:(tiesP hs).filter (crsP p)= []
       . rw[c];refine⟨_,rfl,iteF ?_⟩;refine hnx _ ⟨_,_,rfl,rfl,rfl,fun p' hp'=>?_⟩;rw[List.take_succ,ep] at hp';rcases List.mem_append.mp hp' with z | z
         . exact no p' z
         . have:p'=p:=by simpa using z
           rw[this];exact c
       . have e1:(!((tiesP hs).filter (crsP p)).isEmpty)=true:=by simpa [List.isEmpty_iff] using c
         rw[if_pos rfl,e1];refine⟨_,rfl,iteT ?_⟩;have:plB hs=false:=by
          rw[Bool.eq_false_iff];intro z;have:=List.all_eq_true.mp z p mp;exact c (List.isEmpty_iff.mp this)
         rw[this] at q;exact hrt _ _ q
   . obtain⟨s2,s3,rfl,b2,b3,no⟩:=hP;have:plB hs=true:=by
      refine List.all_eq_true.mpr fun p hp=>?_;rw[List.isEmpty_iff];refine no p ?_;rw[List.length_map,List.take_length];exact hp
     rw[this] at q;exact q
end
end K34
end
section
namespace K34
open PySem PySem.Spec L2 LB LD PyProof.Rows
noncomputable def cyc(hs:List Nat):Nat->Nat->Bool
 | 0,_=>true
 | k+1,x=>if upN hs x=0 then false else cyc hs k (upN hs x)
noncomputable def hgB(hs:List Nat):Bool:=decide (hs.count 0=1) && (List.range' 1 hs.length).all fun v=>!cyc hs (hs.length+1) v
def isHangS:DN:=fun ds Q=> ∃hs:List Nat,ds= [tupN hs]/\hs.length<=12/\(∀x∈hs,x<=hs.length)/\Q (.bl (hgB hs))
theorem rngN(n:Nat):(List.range n).map (fun j=>Dt.int (1+(j:Nat)))=(List.range' 1 n).map nI:=by
 rw[List.range'_eq_map_range,List.map_map];refine List.map_congr_left fun j _=>?_;show Dt.int (1+(j:Int))=Dt.int ((1+j:Nat):Int);rw[show(1+(j:Int))=((1+j:Nat):Int) by lia]
theorem count_nat(g:List Nat):(g.map nI).countP (fun e=>eqD e (.int 0))=g.count 0:=by
 rw[List.countP_map,List.count];refine List.countP_congr fun x _=>?_;show((x:Int)==0)=true↔(x==0)=true;rw[beq_iff_eq,beq_iff_eq];lia
inductive HgI(hs:List Nat)(i:Nat)(δ:List Sl):Prop
 | mk (s1 s2 s3:Sl) (e:δ= [.im (tupN hs),s1,s2,s3]) (b1:s1.isBx=false) (b2:s2.isBx=false) (b3:s3.isBx=false) (no: ∀v∈(List.range' 1 hs.length).take i,cyc hs (hs.length+1) v=false)
inductive HwI(hs:List Nat)(v m:Nat)(δ:List Sl):Prop
 | mk (x s:Nat) (e:δ= [.im (tupN hs), .im (nI v), .im (nI x), .im (nI s)]) (h:s+m=hs.length+1) (x1:1<=x) (x2:x<=hs.length) (c:cyc hs m x=cyc hs (hs.length+1) v)
section
variable {P : Program} {w : World} {K : PySem.W.Frag} {mg : Str -> Option Value} {base : Heap}
theorem ok_isHanging{f:Addr}{fd:FuncData}(F:Fun K "_law_is_hanging" "_law_is_hanging" sLIsHanging f fd)(T:Txt mg):FnOk P w K mg base CX0 1 f fd ["_law_h"] (spA isHangS):=by
 refine fnA F scLIsHanging (fun ds Qd h=>?_) (fun cdv A outer s H E hr=>⟨_,(s_cons (s_if (t_ne (d_count (dv 0) (a_cons d_int a_nil)) d_int)
 (s_one (s_ret d_bl))
 s_nil)
 (s_cons (s_for rfl (i_rng2 T.rng (a_cons d_int (a_cons (d_add (d_len T.len (a_cons (dv 0) a_nil)) d_int) a_nil))) (g_name 1 scLIsHanging.nd)
 (s_cons (s_par2 2 3 rfl scLIsHanging.nd (h_im (dv 1) (h_im d_int h_nil)))
 (s_cons (s_while (PW.pt (w_and (t_ne (d_ix (dv 0) (d_sub (dv 2) d_int)) d_int) (w_and1 (t_le (dv 3) (d_len T.len (a_cons (dv 0) a_nil))))))
 (s_one (s_par2 2 3 rfl scLIsHanging.nd (h_im (d_ix (dv 0) (d_sub (dv 2) d_int)) (h_im (d_add (dv 3) d_int) h_nil)))) PassesOwn.never)
 (s_one (s_if (t_gt (dv 3) (d_len T.len (a_cons (dv 0) a_nil)))
 (s_one (s_ret d_bl))
 s_nil)))) PassesOwn.never)
 (s_one (s_ret d_bl)))),fun ds Qd h=>?_⟩)
 . obtain⟨hs,rfl,_⟩:=h;rfl
 . obtain⟨hs,rfl,h12,hle,q⟩:=h;have hl:(hs.map nI).length=hs.length:=List.length_map _;refine⟨_,rfl,⟨_,rfl⟩,_,_,rfl,rfl,rfl,List.all_eq_true.mpr fun d hd=>by obtain⟨x,_,rfl⟩:=List.mem_map.mp hd;rfl,_,rfl,_,rfl,?_⟩;rw[count_nat];by_cases c0:hs.count 0=1
   case neg=>
    refine iteP (by rw[decide_eq_false (by lia)];rfl) ?_;have:hgB hs=false:=by unfold hgB;rw[decide_eq_false c0];rfl
    rw[this] at q;exact q
   refine iteN (by rw[decide_eq_true (by lia)];exact Bool.false_ne_true) ?_;refine⟨_,rfl,_, .inr rfl,_,_,rfl,rfl,1,((hs.map nI).length:Int)+1,rfl,⟨by decide,by decide,by lia,by lia⟩,?_⟩;rw[hl,show((hs.length:Int)+1 - 1).toNat=hs.length by lia,rngN];refine for_abs (HgI hs) ⟨.no, .no, .no,rfl,rfl,rfl,rfl,fun v hv=>absurd hv List.not_mem_nil⟩ (fun i d δ hi hP Δ' hnx hrt=>?_) (fun δ hP=>?_)
   . obtain⟨s1,s2,s3,rfl,b1,b2,b3,no⟩:=hP;rw[List.getElem?_map] at hi;obtain⟨v,hv0,rfl⟩:=Option.map_eq_some_iff.mp hi;have hv:=List.mem_of_getElem? hv0;rw[List.mem_range'_1] at hv;refine⟨⟨_,rfl,b1⟩,_,rfl,_,_,rfl,⟨_,rfl,b2⟩,⟨_,rfl,b3⟩,?_⟩;refine while_abs (HwI hs v) ⟨hs.length+1,v,0,rfl,Nat.zero_add _,by lia,by lia,rfl⟩ fun m δ hI Δ2 hn2 _=>?_;obtain⟨x,s,rfl,sm,x1,x2,c⟩:=hI;have eu:atI (hs.map nI) ((x:Int) - 1)=some (nI (upN hs x)):=atI_sub x1 (by rw[List.getElem?_map,upN_get x1 x2];rfl);have ex: ∀{Δ3:DEnds},(m=0->Δ3.rt (.bl false) [.im (tupN hs), .im (nI v), .im (nI x), .im (nI s)])->(m≠0->Δ3.nx [.im (tupN hs), .im (nI v), .im (nI x), .im (nI s)])->if decide ((s:Int) > (hs.length:Nat))=true then Δ3.rt (.bl false) [.im (tupN hs), .im (nI v), .im (nI x), .im (nI s)] else Δ3.nx [.im (tupN hs), .im (nI v), .im (nI x), .im (nI s)]:=fun h1 h2=>by
      by_cases z:m=0
      . rw[if_pos (decide_eq_true (by lia))];exact h1 z
      . rw[if_neg (by rw[decide_eq_false (by lia)];exact Bool.false_ne_true)];exact h2 z
     have bad:m=0->Δ'.rt (.bl false) [.im (tupN hs), .im (nI v), .im (nI x), .im (nI s)]:=fun z=>by
      subst z;have:hgB hs=false:=by
       unfold hgB;rw[Bool.and_eq_false_iff];refine .inr (List.all_eq_false.mpr ⟨v,List.mem_range'_1.mpr hv,?_⟩);rw[<-c];exact Bool.false_ne_true
      rw[this] at q;exact hrt _ _ q
     refine⟨_,rfl,_,rfl,_,_,rfl,rfl,_,_,_, .inr rfl,rfl,eu,_,rfl,_,rfl,?_⟩;have fin:(m≠0->cyc hs m x=false)->(m≠0->Δ'.nx [.im (tupN hs), .im (nI v), .im (nI x), .im (nI s)]):=fun z z0=>hnx _ ⟨_,_,_,rfl,rfl,rfl,rfl,fun u hu=>by
      rw[List.take_succ,hv0] at hu;rcases List.mem_append.mp hu with y | y
      . exact no u y
      . have:u=v:=by simpa using y
        rw[this,<-c];exact z z0⟩
     by_cases u0:upN hs x=0
     . rw[u0];refine iteF (iteF ?_);refine⟨_,rfl,_,rfl,_, .inr rfl,_,_,rfl,rfl,_,rfl,?_⟩;rw[hl];refine ex bad (fin fun z=>?_);obtain⟨k,rfl⟩: ∃k,m=k+1:=⟨m - 1,by lia⟩
       unfold cyc;rw[if_pos u0]
     . refine iteP (by rw[decide_eq_false (by show¬((upN hs x:Nat):Int)=0;lia)];rfl) ⟨_,rfl,_,rfl,_, .inr rfl,_,_,rfl,rfl,_,rfl,?_⟩;rw[hl];by_cases z:m=0
       . refine iteN (by rw[decide_eq_false (by lia)];exact Bool.false_ne_true) ?_;refine⟨_,rfl,_,rfl,_, .inr rfl,_,_,rfl,rfl,_,rfl,?_⟩;rw[hl];exact ex bad fun y=>absurd z y
       . refine iteP (decide_eq_true (by lia)) ?_;refine⟨_,rfl,_,rfl,_,_,rfl,rfl,_,_,_, .inr rfl,rfl,eu,_,rfl,_,_,rfl,rfl,_,_,rfl,⟨_,rfl,rfl⟩,⟨_,rfl,rfl⟩,?_⟩;refine hn2 (m - 1) _ (by lia) ⟨upN hs x,s+1,rfl,by lia,by lia,hle _ (List.mem_of_getElem? (upN_get x1 x2)),?_⟩;obtain⟨k,rfl⟩: ∃k,m=k+1:=⟨m - 1,by lia⟩
         rw[<-c];show cyc hs k _=cyc hs (k+1) x;rw[cyc,if_neg u0]
   . obtain⟨s1,s2,s3,rfl,b1,b2,b3,no⟩:=hP;have:hgB hs=true:=by
      unfold hgB;rw[decide_eq_true c0,Bool.true_and];refine List.all_eq_true.mpr fun v hv=>?_;rw[no v (by rw[List.length_map,List.take_length];exact hv)];rfl
     rw[this] at q;exact q
end
end K34
end
section
namespace K34
open PySem PySem.Spec L2 LB LD PyProof.Rows
noncomputable def grow(n w:Nat)(h:List Nat):List (List Nat):=((List.range (n+1)).filter fun o=>decide (o≠w)).map fun o=>h++ [o]
noncomputable def prd(n:Nat):Nat->List (List Nat)
 | 0=> [[]]
 | w+1=>(prd n w).flatMap (grow n (w+1))
noncomputable def allL(n:Nat):List (List Nat):=(prd n n).filter hgB
theorem grow_len{n w:Nat}{h:List Nat}:(grow n w h).length<=n+1:=by
 unfold grow;rw[List.length_map];exact Nat.le_trans (List.length_filter_le _ _) (by rw[List.length_range];exact Nat.le_refl _)
theorem fm_len{α β:Type}{f:α->List β}{k:Nat}(h: ∀x,(f x).length<=k): ∀{L:List α},(L.flatMap f).length<=L.length*k
 | []=>by simp
 | x::L=>by
  rw[List.flatMap_cons,List.length_append,List.length_cons,Nat.add_mul];have:=h x;have:=fm_len h (L:=L);lia
theorem prd_len{n:Nat}: ∀w,(prd n w).length<=(n+1)^w
 | 0=>Nat.le_refl _
 | w+1=>by
  have:=fm_len (f:=grow n (w+1)) (fun _=>grow_len) (L:=prd n w);have ih:=prd_len (n:=n) w;rw[Nat.pow_succ];exact Nat.le_trans this (Nat.mul_le_mul_right _ ih)
theorem prd_in{n:Nat}: ∀w,∀h∈prd n w,h.length=w/\ ∀x∈h,x<=n
 | 0=>fun h hh=>by rw[List.mem_singleton.mp hh];exact⟨rfl,fun x hx=>absurd hx List.not_mem_nil⟩
 | w+1=>fun h hh=>by
  obtain⟨g,hg,hm⟩:=List.mem_flatMap.mp hh;obtain⟨o,ho,rfl⟩:=List.mem_map.mp hm;have ho:=List.mem_range.mp (List.mem_filter.mp ho).1;obtain⟨l,r⟩:=prd_in w g hg;refine⟨by rw[List.length_append,l];rfl,fun x hx=>?_⟩;rcases List.mem_append.mp hx with z | z
  . exact r x z
  . rw[List.mem_singleton.mp z];lia
theorem fm_take{α β:Type}{f:α->List β}{l:List α}{j:Nat}{x:α}(h:l[j]?=some x):(l.take (j+1)).flatMap f=(l.take j).flatMap f++f x:=by
 obtain⟨hj,e⟩:=List.getElem?_eq_some_iff.mp h;rw[List.take_succ_eq_append_getElem hj,List.flatMap_append,e,List.flatMap_singleton]
def allS:DN:=fun ds Q=> ∃n:Nat,ds= [nI n]/\n<=5/\Q (.lst ((allL n).map tupN))
theorem few{n w:Nat}(h5:n<=5)(hw:w<=5):(n+1)^w<=7776:=Nat.le_trans (Nat.pow_le_pow_left (show n+1<=6 by lia) w) (Nat.le_trans (Nat.pow_le_pow_right (by decide) hw) (by decide))
noncomputable def grF(h:List Nat)(d:Dt):Dt:=match d with
 | .int i=>tupN (h++ [i.toNat])
 | d=>d
noncomputable def unT:Dt->List Nat
 | .tup ds=>ds.map fun d=>match d with | .int i=>i.toNat | _=>0
 | _=> []
theorem unT_tup{h:List Nat}:unT (tupN h)=h:=by
 show(h.map nI).map _=h;rw[List.map_map];refine(List.map_congr_left fun x _=>?_).trans (List.map_id h);exact Int.toNat_natCast x
theorem rng0N(n:Nat):(List.range n).map (fun j=>Dt.int (0+(j:Nat)))=(List.range n).map nI:=List.map_congr_left fun j _=>by rw[Int.zero_add]
theorem grow_map{n w:Nat}{h:List Nat}:(((List.range (n+1)).map nI).filter fun d=>match d with | .int i=>decide (i≠(w:Int)) | _=>true).map (grF h)=(grow n w h).map tupN:=by
 unfold grow;rw[List.filter_map,List.map_map,List.map_map];have:(List.range (n+1)).filter ((fun d=>match d with | .int i=>decide (i≠(w:Int)) | _=>true) ∘ nI)=(List.range (n+1)).filter fun o=>decide (o≠w):=List.filter_congr fun o _=>by
  show decide ((o:Int)≠(w:Int))=decide (o≠w);exact decide_eq_decide.mpr (by lia)
 rw[this];refine List.map_congr_left fun o _=>?_;show tupN (h++ [((o:Nat):Int).toNat])=_;rw[Int.toNat_natCast];rfl
inductive AlI(n i:Nat)(δ:List Sl):Prop
 | mk (s2 s3 s4:Sl) (e:δ= [.im (nI n), .im (.lst ((prd n i).map tupN)),s2,s3,s4]) (b2:s2.isBx=false) (b3:s3.isBx=false) (b4:s4.isBx=false)
inductive AlJ(n i r:Nat)(δ:List Sl):Prop
 | mk (s4:Sl) (e:δ= [.im (nI n), .im (.lst ((prd n i).map tupN)), .im (nI (i+1)), .ow ((((prd n i).take r).flatMap (grow n (i+1))).map tupN),s4]) (b4:s4.isBx=false)
section
variable {P : Program} {w : World} {K : PySem.W.Frag} {mg : Str -> Option Value} {base : Heap}
theorem ok_all{f:Addr}{fd:FuncData}(F:Fun K "_law_all" "_law_all" sLAll f fd)(T:Txt mg)(NLIsHanging:Has P w K mg base "_law_is_hanging" 1 ["_law_h"] (spA isHangS)):FnOk P w K mg base CX0 2 f fd ["_law_many"] (spA allS):=by
 refine fnA F scLAll (fun ds Qd h=>?_) (fun cdv A outer s H E hr=>⟨_,(s_cons (s_set 1 scLAll.nd (d_lst (a_cons (d_tup a_nil) a_nil)))
 (s_cons (s_for rfl (i_rng2 T.rng (a_cons d_int (a_cons (d_add (dv 0) d_int) a_nil))) (g_name 2 scLAll.nd)
 (s_cons (s_setO 3 scLAll.nd (o_lst a_nil))
 (s_cons (s_for rfl (i_list (dv 1)) (g_name 4 scLAll.nd)
 (s_one (s_expr (d_extend 3 (pv 3) (a_cons (Ov.ev (o_comp (N:= ["_law_on","_law_h","_law_word"]) (nt:=1) (js:= [4,2]) ⟨rfl,by decide+kernel,by decide,rfl,by decide+kernel,(by show∀x∈(_:List (Str × NameKind)),x.2=NameKind.free->(defScope sLAll).names.lookup x.1=some .cell\/(defScope sLAll).names.lookup x.1=some .free;decide+kernel)⟩ rfl (i_rng1 T.rng (a_cons (d_add (dv 0) d_int) a_nil)) (fun _ _ _ _ _=>pg_name (i:=0) (show(["_law_on","_law_h","_law_word"]:List Str).Nodup by decide+kernel) rfl (by first | exact Or.inl rfl | exact Or.inr rfl)) glow_name gname_read (fun _ _ _ _ _=>f_one (t_ne (dv 0) (dv 2))) (fun _ _ _ _ _=>(d_catT (dv 1) (d_tup (a_cons (dv 0) a_nil)))))) a_nil)))) PassesOwn.never)
 (s_one (s_frz 3 (s_set 1 scLAll.nd (dv 3)))))) PassesOwn.never)
 (s_one (s_ret (Ov.ev (o_comp (N:= ["_law_h"]) (nt:=1) (js:= []) ⟨rfl,by decide+kernel,by decide,rfl,by decide+kernel,(by show∀x∈(_:List (Str × NameKind)),x.2=NameKind.free->(defScope sLAll).names.lookup x.1=some .cell\/(defScope sLAll).names.lookup x.1=some .free;decide+kernel)⟩ rfl (i_list (dv 1)) (fun _ _ _ _ _=>pg_name (i:=0) (show(["_law_h"]:List Str).Nodup by decide+kernel) rfl (by first | exact Or.inl rfl | exact Or.inr rfl)) glow_name gname_read (fun _ _ _ _ _=>f_one (d_val (d_fnA NLIsHanging (hr.mono (by decide)) (a_cons (dv 0) a_nil)))) (fun _ _ _ _ _=>(dv 0)))))))),fun ds Qd h=>?_⟩)
 . obtain⟨n,rfl,_⟩:=h;rfl
 . obtain⟨n,rfl,h5,q⟩:=h;refine⟨by show 0<=sizeLine;decide,by show 1<=sizeLine;decide,⟨_,rfl,rfl⟩,?_⟩;refine⟨_,rfl,_,_,rfl,rfl,1,(n:Int)+1,rfl,⟨by decide,by decide,by lia,by lia⟩,?_⟩;rw[show((n:Int)+1 - 1).toNat=n by lia,rngN];refine for_abs (AlI n) ⟨.no, .no, .no,rfl,rfl,rfl,rfl⟩ (fun i d δ hi hP Δ' hnx hrt=>?_) (fun δ hP=>?_)
   . obtain⟨s2,s3,s4,rfl,b2,b3,b4⟩:=hP;have il:i < n:=by have:=(List.getElem?_eq_some_iff.mp hi).1;simpa using this
     have ed:d=nI (i+1):=by
      rw[List.getElem?_map,List.getElem?_range' il] at hi;rw[show 1+1*i=i+1 by lia] at hi;exact(Option.some.inj hi).symm
     subst ed;refine⟨⟨_,rfl,b2⟩,by show 0<=sizeLine;decide,⟨_,rfl,b3⟩,_,rfl,_,rfl,?_⟩;have pl:=Nat.le_trans (prd_len (n:=n) i) (few h5 (show i<=5 by lia));refine for_abs (AlJ n i) ⟨s4,rfl,b4⟩ (fun r d δ hr hP Δ2 hn2 _=>?_) (fun δ hP=>?_)
     . obtain⟨s4,rfl,b4⟩:=hP;rw[List.getElem?_map] at hr;obtain⟨x,hx,rfl⟩:=Option.map_eq_some_iff.mp hr;have lx:=(prd_in i x (List.mem_of_getElem? hx)).1;refine⟨⟨_,rfl,b4⟩,⟨_,rfl⟩,_,rfl,_,_,rfl,rfl,_,rfl,by lia,by lia,by rw[List.length_map,List.length_range];exact small (by lia),fun d=>match d with | .int i'=>decide (i'≠((i+1:Nat):Int)) | _=>true,grF x,fun e he=>?_,?_⟩
       . rw[rng0N] at he;obtain⟨o,ho,rfl⟩:=List.mem_map.mp he;refine⟨⟨_,rfl,rfl⟩,_,rfl,_,rfl,_,rfl,_,rfl,?_,fun _=>⟨_,rfl,_,rfl,by show 1<=sizeLine;decide,_,_,rfl,rfl,by rw[List.length_map,lx];exact small (show i+1<=3000 by lia),?_⟩⟩
         . show(!decide ((o:Int)=((i+1:Nat):Int)))=decide ((o:Int)≠((i+1:Nat):Int));by_cases c:(o:Int)=((i+1:Nat):Int)
           . rw[decide_eq_true c,decide_eq_false (fun z=>z c)];rfl
           . rw[decide_eq_false c,decide_eq_true c];rfl
         . show Dt.tup (x.map nI++ [Dt.int (o:Int)])=tupN (x++ [((o:Nat):Int).toNat]);unfold tupN;rw[Int.toNat_natCast,List.map_append];rfl
       . rw[show((n:Int)+1).toNat=n+1 by lia,rng0N,grow_map];have l1:=fm_len (f:=grow n (i+1)) (fun _=>grow_len) (L:=(prd n i).take r);have l2:=grow_len (n:=n) (w:=i+1) (h:=x);have l3:((prd n i).take r).length<=7776:=Nat.le_trans (by rw[List.length_take];exact Nat.min_le_right _ _) pl;have l4:((prd n i).take r).length*(n+1)<=7776*6:=Nat.mul_le_mul l3 (by lia);refine⟨_,_,rfl,rfl,by rw[List.length_map,List.length_map];exact Nat.le_trans (show _<=50000 by lia) (by decide),hn2 _ ⟨.im (tupN x),?_,rfl⟩⟩;rw[fm_take hx,List.map_append];rfl
     . obtain⟨s4,rfl,b4⟩:=hP;refine⟨_,rfl,_,rfl,⟨_,rfl,rfl⟩,hnx _ ⟨.im (nI (i+1)), .im (.lst ((prd n (i+1)).map tupN)),s4,?_,rfl,rfl,b4⟩⟩;rw[List.length_map,List.take_length];rfl
   . obtain⟨s2,s3,s4,rfl,b2,b3,b4⟩:=hP;rw[List.length_map,List.length_range'];have pl:=Nat.le_trans (prd_len (n:=n) n) (few h5 h5);refine⟨_,rfl,_,rfl,by rw[List.length_map];exact Nat.le_trans pl (by decide),fun d=>hgB (unT d),id,fun d hd=>?_,?_⟩
     . obtain⟨x,hx,rfl⟩:=List.mem_map.mp hd;obtain⟨lx,rx⟩:=prd_in n x hx;refine⟨⟨_,rfl,rfl⟩,_,rfl,x,rfl,by lia,fun y hy=>by rw[lx];exact rx y hy,_,rfl,?_,fun _=>⟨_,rfl,rfl⟩⟩;show hgB x=hgB (unT (tupN x));rw[unT_tup]
     . rw[List.map_id,List.filter_map];have:(prd n n).filter ((fun d=>hgB (unT d)) ∘ tupN)=allL n:=List.filter_congr fun x _=>by
        show hgB (unT (tupN x))=hgB x;rw[unT_tup]
       rw[this];exact q
end
end K34
end
section
namespace K34
open PySem PySem.Spec L2 LB LD PyProof.Rows LNk
inductive Rc(n:Nat):Nat->St->Prop
 | zero:Rc n 0 (first n)
 | step {m:Nat} {s:St} {w:Str}:Rc n m s->okB s w=true->Rc n (m+1) (stp s w)
theorem Rc.lv{n m:Nat}{s:St}(h:Rc n m s):Lv n m s:=by
 induction h with
 | zero=>exact lv_first n
 | step _ o ih=>exact lv_step ih o
theorem may_end{s:St}(h:isEnd s=true):mayW s= []:=by
 unfold isEnd at h;rw[Bool.not_eq_true',Bool.or_eq_false_iff] at h;obtain⟨h1,h2⟩:=h;have h1:=of_decide_eq_false h1;have h2:s.pile.length=1:=Decidable.not_not.mp (of_decide_eq_false h2);have r:canRead s=false:=decide_eq_false h1;have nx:canNext s=false:=by unfold canNext;rw[r];rfl
 have u:canUnder s=false:=decide_eq_false (by lia);unfold mayW;rw[r,nx,u];rfl
theorem mem_may{s:St}{w:Str}:w∈mayW s↔okB s w=true:=by
 refine⟨may_okW,fun h=>?_⟩;unfold mayW;rcases ok_cases h with ⟨rfl,c,_⟩ | ⟨rfl,c,_⟩ | ⟨rfl,c,_⟩ <;> simp [c]
theorem Rc.le{n m:Nat}{s:St}(n1:1<=n)(h:Rc n m s):m<=2*n - 1:=by
 cases h with
 | zero=>lia
 | step h o=>
  rename_i m s w;have l:=h.lv;have c:=l.c;have bl:=l.k.bl;by_cases z:m=2*n - 1
  . have:=lv_isEnd l n1;rw[decide_eq_true z] at this;have m0:=mem_may.mpr o;rw[may_end this] at m0;exact absurd m0 List.not_mem_nil
  . have l2:=(lv_step l o).c;have b2:=(lv_step l o).k.bl;have ie:=lv_isEnd (lv_step l o) n1;lia
theorem Rc.up{n m:Nat}{s:St}(h:Rc n m s):s.pile.Pairwise (· < ·):=by
 induction h with
 | zero=>exact List.Pairwise.nil
 | step h o ih=>
  rename_i m s w;have lt:=h.lv.k.lt;have tie: ∀on,(s.tie on).pile.Pairwise (· < ·):=fun on=>ih.sublist (List.dropLast_sublist _);rcases ok_cases o with ⟨rfl,c',e⟩ | ⟨rfl,c',e⟩ | ⟨rfl,c',e⟩ <;> rw[e]
  . refine List.pairwise_append.mpr ⟨ih,List.pairwise_singleton _ _,fun a ha b hb=>?_⟩;rw[List.mem_singleton.mp hb];exact lt a ha
  . exact tie _
  . exact tie _
noncomputable def sucL(s:St):List St:=(if canRead s then [s.read] else [])++(if canNext s then [s.next] else [])++(if canUnder s then [s.under] else [])
theorem suc_w{s:St}:sucL s=(mayW s).map (stp s):=by
 have r:stp s "read"=s.read:=rfl;have n:stp s "next"=s.next:=by unfold stp;rw[if_neg (by decide),if_pos rfl]
 have u:stp s "under"=s.under:=by unfold stp;rw[if_neg (by decide),if_neg (by decide)]
 unfold sucL mayW;cases canRead s <;> cases canNext s <;> cases canUnder s <;> simp [r,n,u]
theorem mem_suc{s t:St}:t∈sucL s↔ ∃w,okB s w=true/\t=stp s w:=by
 rw[suc_w,List.mem_map];exact⟨fun⟨w,h,e⟩=>⟨w,mem_may.mp h,e.symm⟩,fun⟨w,h,e⟩=>⟨w,mem_may.mpr h,e.symm⟩⟩
noncomputable def insS(A:List St)(t:St):List St:=if t∈A then A else A++ [t]
noncomputable def rch(n:Nat):Nat->List St
 | 0=> [first n]
 | m+1=>((rch n m).flatMap sucL).foldl insS []
theorem ins_mem{t:St}: ∀{L A:List St},t∈L.foldl insS A↔t∈A\/t∈L
 | [],A=>by simp
 | x::L,A=>by
  rw[List.foldl_cons,ins_mem];have:t∈insS A x↔t∈A\/t=x:=by
   unfold insS;split
   . rename_i h;exact⟨.inl,fun z=>z.elim id fun y=>by rw[y];exact h⟩
   . rw[List.mem_append,List.mem_singleton]
  rw[this,List.mem_cons];exact⟨fun z=>z.elim (fun y=>y.elim .inl fun x=> .inr (.inl x)) fun y=> .inr (.inr y),fun z=>z.elim (fun y=> .inl (.inl y)) fun y=>y.elim (fun x=> .inl (.inr x)) .inr⟩
theorem rc_mem{n m:Nat}{s:St}(h:Rc n m s):s∈rch n m:=by
 induction h with
 | zero=>exact List.mem_singleton.mpr rfl
 | step _ o ih=>exact ins_mem.mpr (.inr (List.mem_flatMap.mpr ⟨_,ih,mem_suc.mpr ⟨_,o,rfl⟩⟩))
noncomputable def uni(n:Nat):List St:=(List.range (2*n)).flatMap (rch n)
theorem rc_uni{n m:Nat}{s:St}(n1:1<=n)(h:Rc n m s):s∈uni n:=List.mem_flatMap.mpr ⟨m,List.mem_range.mpr (by have:=h.le n1;lia),rc_mem h⟩
inductive Fr(s:St):St->Prop
 | rf:Fr s s
 | step {t:St} {w:Str}:Fr s t->okB t w=true->Fr s (stp t w)
theorem Fr.rc{n m:Nat}{s t:St}(h:Rc n m s)(f:Fr s t): ∃m',Rc n m' t:=by
 induction f with
 | rf=>exact⟨m,h⟩
 | step _ o ih=>obtain⟨m',r⟩:=ih;exact⟨_,r.step o⟩
theorem Fr.head{s:St}{w:Str}{t:St}(o:okB s w=true)(f:Fr (stp s w) t):Fr s t:=by
 induction f with
 | rf=>exact .step .rf o
 | step _ o' ih=>exact ih.step o'
theorem Fr.cases{s t:St}(f:Fr s t):t=s\/ ∃w,okB s w=true/\Fr (stp s w) t:=by
 induction f with
 | rf=>exact .inl rfl
 | step f o ih=>
  rcases ih with z | ⟨w,ow,g⟩
  . subst z;exact .inr ⟨_,o, .rf⟩
  . exact .inr ⟨w,ow,g.step o⟩
noncomputable def endL:Nat->St->List (List Nat)
 | 0,s=>if isEnd s then [endN s] else []
 | k+1,s=>if isEnd s then [endN s] else(sucL s).flatMap (endL k)
theorem endL_mem{n:Nat}(n1:1<=n): ∀(k m:Nat) (s:St) (h:List Nat),Rc n m s->m+k=2*n - 1->(h∈endL k s↔ ∃t,Fr s t/\isEnd t=true/\endN t=h)
 | 0,m,s,h,r,e=>by
  have ie:=lv_isEnd r.lv n1;rw[decide_eq_true (by lia)] at ie;unfold endL;rw[if_pos ie];constructor
  . intro z;exact⟨s, .rf,ie,(List.mem_singleton.mp z).symm⟩
  . rintro⟨t,f,it,rfl⟩
    rcases f.cases with z | ⟨w,o,_⟩
    . rw[z];exact List.mem_singleton.mpr rfl
    . have m0:=mem_may.mpr o;rw[may_end ie] at m0;exact absurd m0 List.not_mem_nil
 | k+1,m,s,h,r,e=>by
  have ie:=lv_isEnd r.lv n1;rw[decide_eq_false (by lia)] at ie;unfold endL;rw[if_neg (by rw[ie];exact Bool.false_ne_true),List.mem_flatMap];constructor
  . rintro⟨u,hu,hh⟩
    obtain⟨w,o,rfl⟩:=mem_suc.mp hu;obtain⟨t,f,it,et⟩:=(endL_mem n1 k (m+1) _ h (r.step o) (by lia)).mp hh;exact⟨t,f.head o,it,et⟩
  . rintro⟨t,f,it,et⟩
    rcases f.cases with z | ⟨w,o,g⟩
    . rw[z,ie] at it;cases it
    . exact⟨_,mem_suc.mpr ⟨w,o,rfl⟩,(endL_mem n1 k (m+1) _ h (r.step o) (by lia)).mpr ⟨t,g,it,et⟩⟩
noncomputable def predN(p:List Nat)(i:Nat):Nat:=((0::p).filter fun x=>decide (x < i)).getLastD 0
noncomputable def rowN(s:St)(i:Nat):List Nat:=match s.ons.getD (i - 1) none with
 | some x=> [x]
 | none=>if i∈s.pile then predN s.pile i::List.range' s.b (s.ons.length+1 - s.b) else(0::s.pile)++(List.range' s.b (s.ons.length+1 - s.b)).filter fun x=>decide (x≠i)
noncomputable def rows(s:St):List (List Nat):=(List.range' 1 s.ons.length).map (rowN s)
noncomputable def everyL(n:Nat):List (List Nat):=(allL n).filter plB
noncomputable def fits:List Nat->List (List Nat)->Bool
 | x::h,r::R=>decide (x∈r) && fits h R
 | _,_=>true
noncomputable def isRow(E:List (List Nat))(i:Nat)(r:List Nat):Bool:=E.all (fun h=>decide (h.getD i 0∈r)) && (r.all (fun x=>E.any fun h=>decide (h.getD i 0=x)) && (r.zip r.tail).all fun p=>decide (p.1 < p.2))
noncomputable def chk(n m:Nat)(s:St):Bool:=
 let E:=(everyL n).filter fun h=>fits h (rows s)
 let F:=endL (2*n - 1 - m) s
 F.all (fun h=>decide (h∈E)) && (E.all (fun h=>decide (h∈F)) && (List.range n).all fun i=>isRow E i ((rows s).getD i []))
noncomputable def chkN(n:Nat):Bool:=(List.range (2*n)).all fun m=>(rch n m).all (chk n m)
theorem chk1:chkN 1=true:=by decide+kernel
theorem chk2:chkN 2=true:=by decide+kernel
theorem chk3:chkN 3=true:=by decide+kernel
theorem chk4:chkN 4=true:=by decide+kernel
end K34
end
section
namespace LNk
open PySem PySem.Spec L2 LB LD PyProof.Rows
section
variable {X : Cx} {d : Str} {dp pos apos cpos tp : Pos} {tg : Expr} {body : List Stmt} {g : DTG} {tb : DTS} {x1 : Nat} {l : List Expr}
theorem mod_sd{W:List Wd}{M:Addr->Prop}{α:List (List Addr)}{H:Hp}{σ:L2.St}{δ:List Sl}{i:Nat}{a:Addr}{s s':Sl}{o:HO}(E:EnvR W M α H σ δ)(h0:δ[i]?=some s)(s1:σ[i]?=some (some (.ref a)))(a1:α[i]?=some [a])(nb:s'.isBx=s.isBx)(ho: ∀xs,o≠ .tup xs)
  (hs:(∀c u,H c=some u-> ¬M c->upd H a o c=some u/\ ¬M c)->LD.SlR M (upd H a o) (some (.ref a)) s' [a]):EnvR W M α (upd H a o) σ (δ.set i s'):=by
 have ma:M a:=E.mu a (flat_get a1 (by simp));exact(E.mod (H':=upd H a o) h0 s1 a1 nb (hs fun c u e n=>⟨by rw[upd_ne (fun z=>n (by rw[z];exact ma))];exact e,n⟩) (fun c u e n=>by rw[upd_ne (fun z=>n (by rw[z];simp))];exact e) (fun c hc=>by rw[List.mem_singleton.mp hc];exact⟨_,upd_same,ho⟩)).1
end
end LNk
end
section
namespace LNk
open PySem PySem.Spec L2 LB LD PyProof.Rows LW
section
variable {X : Cx} {d x y : Str} {dp xp yp pos pos' pos2 apos cpos p : Pos} {k v : Expr} {tk tv : DTE} {es : List Expr} {th : DTH}
theorem poke{W:List Wd}{M:Addr->Prop}{α:List (List Addr)}{H:Hp}{σ:L2.St}{δ:List Sl}{p:Addr}{o:HO}(E:EnvR W M α H σ δ)(hd:Held W M α p)(ho: ∀xs,o≠ .tup xs):EnvR W M α (upd H p o) σ δ:=by
 have mo: ∀c u,H c=some u-> ¬M c->upd H p o c=some u/\ ¬M c:=fun c u e n=>⟨by rw[upd_ne (fun z=>n (by rw[z];exact hd.m))];exact e,n⟩
 refine⟨E.ls,E.la,fun j s hj=>?_,E.nd,E.mu,fun a ha=>?_,fun W' hW=>?_⟩
 . obtain⟨q,as,h1,h2,h3⟩:=E.sl j s hj;refine⟨q,as,h1,h2,?_⟩;have ka: ∀a∈as,∀u,H a=some u->upd H p o a=some u:=fun a ha u e=>by rw[upd_ne (fun z=>hd.n (by rw[<-z];exact flat_get h2 ha))];exact e
   cases s with
   | no=>exact h3
   | fn f=>exact h3
   | bx t=>
    obtain⟨d,c,e1,e2,B⟩:=h3;subst e1;exact⟨d,c,rfl,e2,ka d (by simp) _ B.dc,(let ⟨ns,h,r⟩:=B.cs;⟨ns,ka c (by simp) _ h,r⟩),B.t0,B.t1⟩
   | im d=>exact h3.keep mo ka rfl
   | ow d=>exact h3.keep mo ka rfl
   | dk a b=>exact h3.keep mo ka rfl
   | ob R=>exact h3.keep mo ka rfl
 . by_cases c:a=p
   . subst c;exact⟨_,upd_same,ho⟩
   . obtain⟨u,e,n⟩:=E.al a ha;exact⟨u,by rw[upd_ne c];exact e,n⟩
 . have w:=E.w W' hW;refine⟨fun b u e n=>?_,fun b n=>?_,w.fr,w.m0,w.m1,w.bx,w.fz⟩
   . rw[upd_ne (fun z => by
       subst z;rcases(hd.w W' hW).1 with y | y
       . exact n y
       . rw[y] at e;cases e)]
     exact w.bs b u e n
   . by_cases c:b=p
     . subst c;rw[upd_same];intro z;cases z
     . rw[upd_ne c];exact w.ex b n
def hTd(th:DTH):DTH:=fun δ Q=>th δ fun ss δ2=>Q (td [] []::ss) δ2
theorem h_td(hr:Hv X es th)(hs:autoParam (starEach (.Dict [] [] pos::es) X.env=(false,eval (.Dict [] [] pos) X.env)::starEach es X.env) au5._auto_1):Hv X (.Dict [] [] pos::es) (hTd th):=PA.imp (pa_cons pe_dnewT hr hs) fun σ H Q zz2=>(by
 obtain⟨W,M,α,δ,Qd,E,q,k⟩:=zz2;intro p h1;have sm:Same H (upd H p (.dT [])):=Same.new h1;obtain⟨E1',hd⟩:=E.hold (u:= .dT []) h1 (fun xs z=>by cases z);refine⟨W,_,α,δ,_,E1',q,fun ss δ2 H2 vs M' bs q2 E2 c2 m1 m2 hh hb=>?_⟩;exact k _ _ _ _ _ _ q2 E2 ((Chg.of sm).tr c2) (fun a z=>m1 a (.inl z)) (fun a z=>m2_of E.mu Chg.rf h1 (m2 a) z) (held_cons (s:=td [] []) h1 E hd ⟨_,rfl,p,[],rfl,rfl,upd_same,rfl, .nil⟩ rfl E2 c2 m1 m2 hh hb)
  (fun a ha=>by
   rcases List.mem_append.mp ha with y | y
   . rw[List.mem_singleton.mp y];exact E.fresh h1
   . exact fun z=>hb a y (.inl z)))
end
end LNk
end
section
namespace LNk
open PySem PySem.Spec L2 LB LD PyProof.Rows LW
noncomputable def datB(ks:List SK):List (SK × V):=ks.map fun k=>(k,V.bl true)
noncomputable def SkO(P:Program)(w:World)(ks:List SK):ObR where
 rel:=fun M H v as=> ∃a xs,as= [a]/\v= .ref a/\H a=some (sdH P w a xs)/\datE xs=datB ks/\ ∀x∈xs,KeyM M H x.1 x.2.1
 st:=fun z ka k=>by
  obtain⟨a,xs,rfl,ev,h,e,r⟩:=z;exact⟨a,xs,rfl,ev,ka a (by simp) _ h,e,fun x hx=>(r x hx).st k⟩
noncomputable abbrev sks (P:Program) (w:World) (ks:List SK):Sl:= .ob (SkO P w ks)
noncomputable def hasK{α:Type} [DecidableEq α](ks:List α)(k:α):Bool:=ks.any fun z=>decide (z=k)
theorem hasK_iff{α:Type} [DecidableEq α]{ks:List α}{k:α}:hasK ks k=true↔k∈ks:=by
 unfold hasK;rw[List.any_eq_true];exact⟨fun⟨z,hz,e⟩=>by rw[<-of_decide_eq_true e];exact hz,fun h=>⟨k,h,decide_eq_true rfl⟩⟩
noncomputable def insK{α:Type} [DecidableEq α](ks:List α)(k:α):List α:=if hasK ks k=true then ks else ks++ [k]
theorem insK_iff{α:Type} [DecidableEq α]{ks:List α}{k x:α}:x∈insK ks k↔x∈ks\/x=k:=by
 unfold insK;split
 . rename_i c;exact⟨.inl,fun z=>z.elim id fun y=>by rw[y];exact hasK_iff.mp c⟩
 . rw[List.mem_append,List.mem_singleton]
theorem insK_nd{α:Type} [DecidableEq α]{ks:List α}{k:α}(h:ks.Nodup):(insK ks k).Nodup:=by
 unfold insK;split
 . exact h
 . rename_i c;refine List.nodup_append.mpr ⟨h,by simp,fun a ha b hb e=>c (hasK_iff.mpr ?_)⟩;rw[List.mem_singleton.mp hb] at e;rw[<-e];exact ha
theorem insK_new{α:Type} [DecidableEq α]{ks:List α}{k:α}(h:hasK ks k=false):insK ks k=ks++ [k]:=by
 unfold insK;rw[h];rfl
theorem sks_at{P:Program}{w:World}{W:List Wd}{M:Addr->Prop}{α:List (List Addr)}{H:Hp}{σ:L2.St}{δ:List Sl}{i:Nat}{ks:List SK}(E:EnvR W M α H σ δ)(h:δ[i]?=some (sks P w ks)): ∃a xs,σ[i]?=some (some (.ref a))/\α[i]?=some [a]/\H a=some (sdH P w a xs)/\datE xs=datB ks/\ ∀x∈xs,KeyM M H x.1 x.2.1:=by
 obtain⟨o,as,s1,s2,v,rfl,a,xs,rfl,rfl,h1,h2,h3⟩:=E.sl i _ h;exact⟨a,xs,s1,s2,h1,h2,h3⟩
theorem val_datB{k:SK}: ∀{xs:List SE} {ks:List SK},datE xs=datB ks->(valE xs k).isSome=hasK ks k
 | [],[],_=>rfl
 | [],_::_,h=>by cases h
 | _::_,[],h=>by cases h
 | x::xs,y::ks,h=>by
  obtain⟨h1,h2⟩:=List.cons.inj h;obtain⟨h3,h4⟩:=Prod.mk.inj h1;have ih:=val_datB (k:=k) h2;unfold valE at ih ⊢;by_cases c:x.1=k
  . rw[List.find?_cons_of_pos (by simpa using c)];exact(hasK_iff.mpr (show k∈y::ks by rw[<-c,h3];exact List.mem_cons_self)).symm
  . rw[List.find?_cons_of_neg (by simpa using c),ih];unfold hasK;rw[List.any_cons,decide_eq_false (fun z=>c (h3.trans z)),Bool.false_or]
theorem repl_datB{k:SK}: ∀{xs:List SE} {ks:List SK},datE xs=datB ks->datE (xs.map fun x=>if x.1=k then(x.1,x.2.1,V.bl true) else x)=datB ks
 | [],[],_=>rfl
 | [],_::_,h=>by cases h
 | _::_,[],h=>by cases h
 | x::xs,y::ks,h=>by
  obtain⟨h1,h2⟩:=List.cons.inj h;obtain⟨h3,h4⟩:=Prod.mk.inj h1;have ih:=repl_datB (k:=k) h2;unfold datE datB at ih ⊢;rw[List.map_cons,List.map_cons,List.map_cons,ih];congr 1
  by_cases c:x.1=k
  . rw[if_pos c];exact Prod.ext h3 rfl
  . rw[if_neg c];exact Prod.ext h3 h4
theorem put_datB{xs:List SE}{ks:List SK}{k:SK}{b:Addr}(h:datE xs=datB ks):datE (putE xs k b (V.bl true))=datB (insK ks k):=by
 unfold putE insK;rw[val_datB h];by_cases c:hasK ks k=true
 . rw[if_pos c,if_pos c];exact repl_datB h
 . rw[if_neg c,if_neg c];unfold datE datB at h ⊢;rw[List.map_append,List.map_append,h];rfl
section
variable {X : Cx} {d x y : Str} {dp xp yp pos pos' pos2 p : Pos} {k v e : Expr} {tk tv te : DTE} {es : List Expr} {th : DTH}
def rSNotin(P:Program)(w:World):R2:=fun x y H Q=> ∃a b xs k,x= .ref b/\y= .ref a/\SdAt P w H a xs/\KeyAt H k b/\Q (.bl (!(valE xs k).isSome)) H
theorem op_snotin(hu:X.A.units+2 < cLine):OpR X (compareOp .NotIn) (rSNotin X.prog X.w):=by
 intro pins s σ H x y v u Q I rx ry h;obtain⟨a,b,xs,k,rfl,rfl,d,hk,q⟩:=h;cases rx;cases ry;obtain⟨z,hd,ys,rel,dd⟩:=sd_of I.hok d;refine wpAny_notIn_heap (knd:=skKind X.prog X.w) (show X.A.in1.units+1 < cLine by have:X.A.in1.units=X.A.units+1:=rfl;lia) (hk.is I.hok) hd dd ?_;have e:(valE xs k).isSome=(atKey ys k).isSome:=by rw[(rel_val rel k).isSome_eq,Option.isSome_map]
 rw[<-e];exact⟨.bl _,H,I.tok _,rfl,q⟩
def dSkNotin(P:Program)(w:World)(i j:Nat):DTT:=fun δ Q=> ∃ks k,δ[i]?=some (sks P w ks)/\δ[j]?=some (.im (skD k))/\Q (!hasK ks k) δ
theorem t_snotin(i j:Nat)(hu:X.A.units+2 < cLine)(ho:PE X (.Name d dp) (tVar i))(hy:PE X (.Name y yp) (tVar j)):Tv X (.Compare (.Name y yp) [.NotIn] [.Name d dp] pos) (dSkNotin X.prog X.w i j):=PT.imp (pt_cmpR (op_snotin hu) hy ho rfl) fun σ H Q zz=>(by
 obtain⟨W,M,α,δ,Qd,E,⟨ks,k,h1,h2,q⟩,kk⟩:=zz;obtain⟨a,xs,s1,a1,e1,de,ke⟩:=sks_at E h1;obtain⟨v,s2,rv⟩:=E.im h2;obtain⟨b,rfl,kb⟩:=KeyM.of rv;refine⟨_,s2,_,s1,a,b,xs,k,rfl,rfl,⟨e1,fun x hx=>(ke x hx).at⟩,kb.at,_,rfl,?_⟩;rw[val_datB de];exact kk _ _ _ q E Chg.rf)
inductive dSkPut(P:Program)(w:World)(i j:Nat)(Δ:DEnds)(δ:List Sl):Prop
 | mk (ks:List SK) (k:SK) (h1:δ[i]?=some (sks P w ks)) (h2:δ[j]?=some (.im (skD k))) (h3:ks.length < sizeLine) (q:Δ.nx (δ.set i (sks P w (insK ks k))))
theorem s_skput{st:Stmt}(i j:Nat)(h:PS X st (sSPut (tVar i) (tVar j) (tC (.bl true)) X.prog X.w)):Ex X st (dSkPut X.prog X.w i j):=PS.imp h fun D σ H zz=>(by
 obtain⟨Ws,M,α,δ,Δ,E,L,ks,k,h1,h2,l,q⟩:=zz;obtain⟨a,xs,s1,a1,e1,de,ke⟩:=sks_at E h1;obtain⟨v,s2,rv⟩:=E.im h2;obtain⟨b,rfl,kb⟩:=KeyM.of rv;have ll:xs.length=ks.length:=by
  have:=congrArg List.length de;unfold datE datB at this;rw[List.length_map,List.length_map] at this;exact this
 refine⟨_,s1,_,s2,a,b,xs,k,rfl,rfl,⟨e1,fun x hx=>(ke x hx).at⟩,kb.at,by rw[ll];exact l,?_⟩;exact L.nx _ _ _ _ _ (mod_sd (s':=sks X.prog X.w (insK ks k)) (o:=sdH X.prog X.w a (putE xs k b (V.bl true))) E h1 s1 a1 rfl (fun xs z=>by cases z) fun mo=>⟨_,rfl,a,_,rfl,rfl,upd_same,put_datB de,putE_keys (R:=fun k b=>KeyM M _ k b) (fun x hx=>(ke x hx).st mo) (kb.st mo)⟩) q)
inductive hSkOne_i(Q:SK->List Sl->Prop)(d1 d2:Dt)(δ2:List Sl):Prop
 | mk (k:SK) (h1:d1=skD k) (h2:d2= .bl true) (q:Q k δ2)
def hSkOne(P:Program)(w:World)(tk tv:DTE)(th:DTH):DTH:=fun δ Q=>tk δ fun d1 δ1=>tv δ1 fun d2 δ2=>hSkOne_i (fun k δ2=>th δ2 fun ss δ3=>Q (sks P w [k]::ss) δ3) d1 d2 δ2
theorem h_skone(hu:X.A.units+2 < cLine)(hk:Ev X k tk)(hv:Ev X v tv)(hr:Hv X es th)(hs:autoParam (starEach (.Dict [some k] [v] pos::es) X.env=(false,eval (.Dict [some k] [v] pos) X.env)::starEach es X.env) au5._auto_1):Hv X (.Dict [some k] [v] pos::es) (hSkOne X.prog X.w tk tv th):=PA.imp (pa_cons (pe_sdisp hu hk hv) hr hs) fun σ H Q zz=>(by
 obtain⟨W,M,α,δ,Qd,E,q,kk⟩:=zz;intro p hp;obtain⟨E0,hd⟩:=E.hold (u:=sdH X.prog X.w p []) hp (fun xs z=>by cases z);have sm:Same H (upd H p (sdH X.prog X.w p [])):=Same.new hp;refine⟨W,_,α,δ,_,E0,q,fun d1 δ1 H1 x q1 E1 c1 r1=>⟨W,_,α,δ1,_,E1,q1,fun d2 δ2 H2 y zz E2 c2 r2=>?_⟩⟩;obtain⟨κ,rfl,rfl,q2⟩:=zz;cases r2.ofBl;obtain⟨b,rfl,kb⟩:=KeyM.of (r1.chg E1 c2);have hp2:H2 p=some (sdH X.prog X.w p []):=c2 _ _ (c1 _ _ upd_same hd.n) hd.n;refine⟨b,κ,rfl,hp2,kb.at,?_⟩;have E3:=poke (o:=sdH X.prog X.w p [(κ,b, .bl true)]) E2 hd (fun xs z=>by cases z);have kb:=kb.st (H':=upd H2 p (sdH X.prog X.w p [(κ,b, .bl true)])) (M':=fun b=>M b\/b=p) fun c u e nn=>⟨by rw[upd_ne (fun z=>nn (.inr z))];exact e,nn⟩
 have kp: ∀c u,H c=some u->c∉α.flatten->H2 c=some u:=fun c u e nc=>c2 _ _ (c1 _ _ (sm _ _ e) nc) nc;generalize hH3:upd H2 p (sdH X.prog X.w p [(κ,b, .bl true)])=H3 at E3 kb ⊢;have h3p:H3 p=some (sdH X.prog X.w p [(κ,b, .bl true)]):=by rw[<-hH3,upd_same]
 have kp3: ∀c u,H c=some u->c∉α.flatten->H3 c=some u:=fun c u e nc=>by rw[<-hH3,upd_ne (fun z=>by rw[z,hp] at e;cases e)];exact kp c u e nc
 refine⟨W,_,α,δ2,_,E3,q2,fun ss δ3 H4 vs M' bs q3 E4 c4 m1 m2 hh hb=>?_⟩;refine kk _ _ _ _ _ _ q3 E4 (fun c u e nc=>c4 _ _ (kp3 c u e nc) nc) (fun a z=>m1 a (.inl z)) (fun a z=>?_) (HeRs.cons (as:= [p]) ⟨rfl,_,rfl,p,[(κ,b, .bl true)],rfl,rfl,c4 _ _ h3p hd.n,rfl,fun x hx=>?_⟩ (fun a ha=>by rw[List.mem_singleton.mp ha];exact⟨m1 p (.inr rfl),hd.n,hd.w⟩) (by simp) (fun a ha=>by rw[List.mem_singleton.mp ha];exact fun z=>hb p z (.inr rfl)) hh) (fun a ha=>?_)
 . cases e:H a with
   | none=>exact .inr rfl
   | some u=>
    by_cases hf:a∈α.flatten
    . exact .inl (E.mu a hf)
    . rcases m2 a z with (y | y) | y
      . exact .inl y
      . rw[y,hp] at e;cases e
      . rw[kp3 a u e hf] at y;cases y
 . rw[List.mem_singleton.mp hx];exact kb.st fun c u e n=>⟨c4 _ _ e fun z=>n (E3.mu c z),fun z=>(m2 c z).elim n fun y=>by rw[e] at y;cases y⟩
 . rcases List.mem_append.mp ha with y | y
   . rw[List.mem_singleton.mp y];exact E.fresh hp
   . exact fun z=>hb a y (.inl z))
noncomputable def trs{α:Type}(ks:List α):List Dt:=ks.map fun _=> .bl true
noncomputable abbrev tdb (ks:List (List Key)):Sl:=td ks (trs ks)
theorem tb_of{M:Addr->Prop}{H:Hp}: ∀{ks:List (List Key)} {vs:List (List Key × V)},vs.map (·.1)=ks->Reps M H (vs.map (·.2)) (trs ks)->vs=ks.map fun k=>(k,V.bl true)
 | [],[],_,_=>rfl
 | [],_::_,h,_=>by cases h
 | _::_,[],h,_=>by cases h
 | x::ks,v::vs,h,r=>by
  obtain⟨h1,h2⟩:=List.cons.inj h;obtain⟨y,ys,e,ry,rr⟩:=r.uncons;obtain⟨e1,e2⟩:=List.cons.inj e;cases ry.ofBl;subst e2;rw[tb_of h2 rr,List.map_cons];congr 1
  exact Prod.ext h1 e1
theorem tb_put{k:List Key}{ks:List (List Key)}:putK (ks.map fun k=>(k,V.bl true)) k (V.bl true)=(insK ks k).map fun k=>(k,V.bl true):=by
 unfold putK insK;have e:((ks.map fun k=>(k,V.bl true)).any fun kv=>decide (kv.1=k))=hasK ks k:=by rw[List.any_map];rfl
 rw[e];by_cases c:hasK ks k=true
 . rw[if_pos c,if_pos c,List.map_map];refine List.map_congr_left fun z _=>?_;show(if z=k then(z,V.bl true) else(z,V.bl true))=_;split <;> rfl
 . rw[if_neg c,if_neg c,List.map_append];rfl
theorem tb_keys{ks:List (List Key)}:(ks.map fun k=>(k,V.bl true)).map (·.1)=ks:=by rw[List.map_map];exact List.map_id ks
theorem tb_vals{M:Addr->Prop}{H:Hp}: ∀{ks:List (List Key)},Reps M H ((ks.map fun k=>(k,V.bl true)).map (·.2)) (trs ks)
 | []=> .nil
 | x::ks=> .cons (.bl _) tb_vals
inductive dTbPut_i(i:Nat)(Δ:DEnds)(d2:Dt)(δ2:List Sl):Prop
 | mk (k:List Key) (ks:List (List Key)) (h1:keyT d2=some k) (h2:δ2[i]?=some (tdb ks)) (h3:ks.length < sizeLine) (h5:Δ.nx (δ2.set i (tdb (insK ks k))))
def dTbPut(i:Nat)(te:DTE):DTS:=fun Δ δ=>(∃ks0,δ[i]?=some (tdb ks0))/\te δ fun d2 δ2=>dTbPut_i i Δ d2 δ2
theorem s_tbput{st:Stmt}(i:Nat)(h:PS X st (sDPut (tVar i) (lE te) (tC (.bl true)))):Ex X st (dTbPut i te):=PS.imp h fun D σ H zz=>(by
 obtain⟨Ws,M,α,δ,Δ,E,L,⟨ks0,h0⟩,q⟩:=zz;obtain⟨a,vs0,h1,h2,h3,h4,r3⟩:=td_at E h0;refine⟨_,h1,Ws,M,α,δ,_,E,q,fun d2 δ2 H2 y zz E2 c2 r2=>?_⟩;obtain⟨k,ks,hk,hd,l,q2⟩:=zz;obtain⟨a',vs,h1',h2',h3',h4',r3'⟩:=td_at E2 hd;rw[h1] at h1';cases h1';obtain⟨kb,rfl,hkb⟩:=keyT_rep r2 hk;have ev:=tb_of h4' r3';subst ev;refine⟨a,_,rfl,DPut.t h3' hkb (by rw[List.length_map];exact l),?_⟩;rw[tb_put];obtain⟨E3,_⟩:=E2.mod (s':=tdb (insK ks k)) (H':=upd H2 a (.dT ((insK ks k).map fun k=>(k,V.bl true)))) hd h1 h2' rfl ⟨_,rfl,a,_,rfl,rfl,upd_same,tb_keys,tb_vals⟩ (fun b u e n=>by rw[upd_ne (fun z=>n (by rw[z];simp))];exact e) (fun b hb=>by rw[List.mem_singleton.mp hb];exact⟨_,upd_same,fun xs z=>by cases z⟩);exact L.nx _ _ _ _ _ E3 q2)
end
end LNk
end
section
namespace LSrtX
open PySem PyProof.Rows LSrtW
noncomputable def rk(R:Keyed->Int)(a:Array Keyed)(i:Nat):Int:=(a[i]?.map R).getD 0
def Srt(R:Keyed->Int)(a:Array Keyed):Prop:=a.toList.Pairwise fun x y=>R x<=R y
def Out(R:Keyed->Int)(a b m:Array Keyed):Prop:=m.toList.Perm (a.toList++b.toList)/\Srt R m
section
variable {R : Keyed -> Int}
theorem rk_at{a:Array Keyed}{i:Nat}(h:i < a.size):rk R a i=R a[i]:=by
 unfold rk;rw[Array.getElem?_eq_getElem h];rfl
theorem Srt.rk{a:Array Keyed}(h:Srt R a){i j:Nat}(hij:i<=j)(hj:j < a.size):rk R a i<=rk R a j:=by
 rw[rk_at (show i < a.size by lia),rk_at hj];by_cases c:i=j
 . subst c;exact Int.le_refl _
 . exact List.pairwise_iff_getElem.mp h i j (by simpa using (show i < a.size by lia)) (by simpa using hj) (by lia)
theorem ex_list{a:Array Keyed}{i j:Nat}:(a.extract i j).toList=(a.toList.drop i).take (j - i):=by
 rw[Array.toList_extract,List.extract_eq_drop_take]
theorem ex_mem{a:Array Keyed}{i j:Nat}{x:Keyed}(h:x∈(a.extract i j).toList): ∃k,i<=k/\k < j/\k < a.size/\R x=LSrtX.rk R a k:=by
 obtain⟨k,hk,e⟩:=List.getElem_of_mem h;have hk':k < (a.extract i j).size:=by rw[<-Array.length_toList];exact hk
 have hs:(a.extract i j).size=min j a.size - i:=Array.size_extract;refine⟨i+k,by lia,by lia,by lia,?_⟩;rw[rk_at (show i+k < a.size by lia),<-e];congr 1
 rw[Array.getElem_toList,Array.getElem_extract]
theorem Srt.ex{a:Array Keyed}(h:Srt R a)(i j:Nat):Srt R (a.extract i j):=by
 unfold Srt;rw[ex_list];exact(List.Pairwise.sublist (List.drop_sublist _ _) h).sublist (List.take_sublist _ _)
theorem push_ex{a out:Array Keyed}{i:Nat}(h:i < a.size):out.push a[i]=out++a.extract i (i+1):=by
 apply Array.toList_inj.mp;rw[Array.toList_push,Array.toList_append,ex_list,show i+1 - i=1 by lia];congr 1
 have h':i < a.toList.length:=by simpa using h
 rw[List.drop_eq_getElem_cons h',List.take_succ_cons,List.take_zero,Array.getElem_toList]
structure Lo(R:Keyed->Int)(a b out:Array Keyed)(ia ib:Nat):Prop where
 pm:(out.toList++(a.toList.drop ia++b.toList.drop ib)).Perm (a.toList++b.toList)
 so:Srt R out
 la: ∀x∈out.toList,∀j,ia<=j->j < a.size->R x<=rk R a j
 lb: ∀x∈out.toList,∀j,ib<=j->j < b.size->R x<=rk R b j
theorem Srt.app{m n:Array Keyed}(h1:Srt R m)(h2:Srt R n)(h: ∀x∈m.toList,∀y∈n.toList,R x<=R y):Srt R (m++n):=by
 unfold Srt;rw[Array.toList_append];exact List.pairwise_append.mpr ⟨h1,h2,h⟩
theorem drop_ex{a:Array Keyed}{i j:Nat}(h:i<=j):a.toList.drop i=(a.extract i j).toList++a.toList.drop j:=by
 rw[ex_list];conv=>lhs;rw[<-List.take_append_drop (j - i) (a.toList.drop i)]
 rw[List.drop_drop,show i+(j - i)=j by lia]
theorem Lo.takeA{a b out:Array Keyed}{ia ib:Nat}(h:Lo R a b out ia ib)(sa:Srt R a)(sb:Srt R b){ia':Nat}(h1:ia<=ia')(hc:ia < ia'->ia'<=a.size->ib < b.size->rk R a (ia' - 1)<=rk R b ib)(h2:autoParam (ia'<=a.size) au10._auto_1):Lo R a b (out++a.extract ia ia') ia' ib:=by
 refine⟨?_,h.so.app (sa.ex _ _) fun x hx y hy=>?_,fun x hx j j1 j2=>?_,fun x hx j j1 j2=>?_⟩
 . rw[Array.toList_append];refine List.Perm.trans ?_ h.pm;rw[drop_ex (a:=a) h1,List.append_assoc,List.append_assoc]
 . obtain⟨k,k1,k2,k3,e⟩:=ex_mem (R:=R) hy;rw[e];exact h.la x hx k k1 k3
 . rw[Array.toList_append] at hx;rcases List.mem_append.mp hx with z | z
   . exact h.la x z j (by lia) j2
   . obtain⟨k,k1,k2,k3,e⟩:=ex_mem (R:=R) z;rw[e];exact sa.rk (by lia) j2
 . rw[Array.toList_append] at hx;rcases List.mem_append.mp hx with z | z
   . exact h.lb x z j j1 j2
   . obtain⟨k,k1,k2,k3,e⟩:=ex_mem (R:=R) z;rw[e];have q1:=sa.rk (show k<=ia' - 1 by lia) (by lia);have q2:=hc (by lia) h2 (by lia);have q3:=sb.rk j1 j2;lia
theorem Lo.takeB{a b out:Array Keyed}{ia ib:Nat}(h:Lo R a b out ia ib)(sa:Srt R a)(sb:Srt R b){ib':Nat}(h1:ib<=ib')(hc:ib < ib'->ib'<=b.size->ia < a.size->rk R b (ib' - 1)<=rk R a ia)(h2:autoParam (ib'<=b.size) au10._auto_1):Lo R a b (out++b.extract ib ib') ia ib':=by
 refine⟨?_,h.so.app (sb.ex _ _) fun x hx y hy=>?_,fun x hx j j1 j2=>?_,fun x hx j j1 j2=>?_⟩
 . rw[Array.toList_append];refine List.Perm.trans ?_ h.pm;rw[drop_ex (a:=b) h1,List.append_assoc];refine List.Perm.append_left _ ?_;rw[<-List.append_assoc,<-List.append_assoc];exact List.Perm.append_right _ List.perm_append_comm
 . obtain⟨k,k1,k2,k3,e⟩:=ex_mem (R:=R) hy;rw[e];exact h.lb x hx k k1 k3
 . rw[Array.toList_append] at hx;rcases List.mem_append.mp hx with z | z
   . exact h.la x z j j1 j2
   . obtain⟨k,k1,k2,k3,e⟩:=ex_mem (R:=R) z;rw[e];have q1:=sb.rk (show k<=ib' - 1 by lia) (by lia);have q2:=hc (by lia) h2 (by lia);have q3:=sa.rk j1 j2;lia
 . rw[Array.toList_append] at hx;rcases List.mem_append.mp hx with z | z
   . exact h.lb x z j (by lia) j2
   . obtain⟨k,k1,k2,k3,e⟩:=ex_mem (R:=R) z;rw[e];exact sb.rk (by lia) j2
theorem Lo.out{a b out:Array Keyed}{ia ib:Nat}(h:Lo R a b out ia ib)(h1:ia=a.size)(h2:ib=b.size):Out R a b out:=by
 refine⟨?_,h.so⟩;have:=h.pm;rw[h1,h2,List.drop_eq_nil_of_le (by simp),List.drop_eq_nil_of_le (by simp),List.append_nil,List.append_nil] at this;exact this
theorem Lo.done{a b out:Array Keyed}{ia ib:Nat}(h:Lo R a b out ia ib)(sa:Srt R a)(sb:Srt R b)(ha:ia<=a.size)(hb:ib<=b.size)(hh:ib=b.size\/ia=a.size):Out R a b (out++a.extract ia a.size++b.extract ib b.size):=
 ((h.takeA sa sb ha (fun z1 _ z=>by lia) (Nat.le_refl _)).takeB sa sb hb (fun z1 _ z=>by lia) (Nat.le_refl _)).out rfl rfl
theorem Lo.last{a b out:Array Keyed}{ia ib:Nat}(h:Lo R a b out ia ib)(sa:Srt R a)(sb:Srt R b)(ha:ia<=a.size)(hb:ib<=b.size)(hl:ib < b.size->rk R b (b.size - 1)<=rk R a ia):Out R a b (out++b.extract ib b.size++a.extract ia a.size):=
 ((h.takeB sa sb hb (fun z1 _ z=>hl z1) (Nat.le_refl _)).takeA sa sb ha (fun z1 _ z=>by lia) (Nat.le_refl _)).out rfl rfl
end
section
variable {prog : Program} {w : World} {A : Around} {E : Value -> Shared -> Prop} {s : Shared} {κ : SortKind} {R : Keyed -> Int} {D : Keyed -> Prop}
def LtOk(prog:Program)(w:World)(A:Around)(E:Value->Shared->Prop)(s:Shared)(κ:SortKind)(R:Keyed->Int)(D:Keyed->Prop):Prop:= ∀(st:SortSt) (x y:Keyed) (Q:Option Bool->SortSt->Prop),kindOf st=κ->D x->D y->Q (some (decide (R x < R y))) st->wpS (model prog w) A E s (lt' x y) Q st
def Dk(D:Keyed->Prop)(a:Array Keyed):Prop:= ∀i (h:i < a.size),D a[i]
noncomputable def bey(R:Keyed->Int)(left:Bool)(r:Int)(a:Array Keyed)(i:Nat):Bool:=if left then decide (rk R a i < r) else !decide (r < rk R a i)
theorem bey_mono{left:Bool}{r:Int}{a:Array Keyed}{i j:Nat}(h:rk R a i<=rk R a j)(hb:bey R left r a j=true):bey R left r a i=true:=by
 unfold bey at hb ⊢;cases left
 . simp at hb ⊢;lia
 . simp at hb ⊢;lia
theorem bey_anti{left:Bool}{r:Int}{a:Array Keyed}{i j:Nat}(h:rk R a i<=rk R a j)(hb:bey R left r a i=false):bey R left r a j=false:=by
 cases e:bey R left r a j with
 | false=>rfl
 | true=>rw[bey_mono h e] at hb;cases hb
theorem bey_lt{r:Int}{a:Array Keyed}{i:Nat}(h:bey R true r a i=true):rk R a i < r:=by unfold bey at h;simpa using h
theorem bey_ge{r:Int}{a:Array Keyed}{i:Nat}(h:bey R true r a i=false):r<=rk R a i:=by unfold bey at h;simpa using h
theorem bey_le{r:Int}{a:Array Keyed}{i:Nat}(h:bey R false r a i=true):rk R a i<=r:=by unfold bey at h;simpa using h
theorem bey_gt{r:Int}{a:Array Keyed}{i:Nat}(h:bey R false r a i=false):r < rk R a i:=by unfold bey at h;simpa using h
theorem wpS_bey(L:LtOk prog w A E s κ R D){st:SortSt}{left:Bool}{key:Keyed}{arr:Array Keyed}{base i:Nat}{Q:Option Bool->SortSt->Prop}(hk:kindOf st=κ)(hx:Dk D arr)(hkey:D key)(hi:base+i < arr.size)(h:Q (some (bey R left (R key) arr (base+i))) st):
  wpS (model prog w) A E s (do
   let x<-elem' arr (base+i)
   if left then lt' x key else return(<-lt' key x).map (!·)) Q st:=by
 refine wpS_bind (wpS_elem hi ?_);unfold bey at h;rw[rk_at hi] at h;cases left with
 | true=>rw[if_pos rfl] at h ⊢;exact L _ _ _ _ hk (hx _ hi) hkey h
 | false=>
  rw[if_neg Bool.false_ne_true] at h ⊢;exact wpS_bind (L _ _ _ _ hk hkey (hx _ hi) (wpS_pure h))
theorem wpS_gal(L:LtOk prog w A E s κ R D){st:SortSt}{left:Bool}{key:Keyed}{arr:Array Keyed}{base n hint:Nat}{Q:Option Nat->SortSt->Prop}(hk:kindOf st=κ)(hx:Dk D arr)(hkey:D key)(hb:base+n<=arr.size)(hh:hint < n)
  (hm: ∀i j,i<=j->j < n->rk R arr (base+i)<=rk R arr (base+j))
  (h: ∀k,k<=n->(∀i,i < k->bey R left (R key) arr (base+i)=true)->(∀i,k<=i->i < n->bey R left (R key) arr (base+i)=false)->Q (some k) st):wpS (model prog w) A E s (gallop' left key arr base n hint) Q st:=by
 have up: ∀j,j < n->bey R left (R key) arr (base+j)=true-> ∀i,i<=j->bey R left (R key) arr (base+i)=true:=fun j hj hb i hi=>bey_mono (hm i j hi hj) hb;have dn: ∀i,bey R left (R key) arr (base+i)=false-> ∀j,i<=j->j < n->bey R left (R key) arr (base+j)=false:=fun i hb j hi hj=>bey_anti (hm i j hi hj) hb;rw[gallop'_eq];dsimp only;have tail: ∀lo hi:Nat,lo<=hi->hi<=n->(∀i,i < lo->bey R left (R key) arr (base+i)=true)->(∀i,hi<=i->i < n->bey R left (R key) arr (base+i)=false)->wpS (model prog w) A E s (do
   let mut lo:=lo
   let mut hi:=hi
   for _ in [0:n] do
    if lo>=hi then break
    let m:=lo+(hi - lo) / 2
    let some more<-(do
      let x<-elem' arr (base+m)
      if left then lt' x key else return(<-lt' key x).map (!·):StateT SortSt Sem (Option Bool)) | return none
    if more then lo:=m+1 else hi:=m
   return some hi) Q st:=by
  intro lo hi hlo hhi hP hN;dsimp only;refine wpS_bind (wpS_mono (wpS_forRange (I:=fun x c st'=>st'=st/\c.1=none/\c.2.1<=c.2.2/\c.2.2<=n/\c.2.2 - c.2.1<=n - x/\(∀i,i < c.2.1->bey R left (R key) arr (base+i)=true)/\ ∀i,c.2.2<=i->i < n->bey R left (R key) arr (base+i)=false)
   (Q:=fun c st'=>st'=st/\c.1=none/\c.2.1=c.2.2/\c.2.2<=n/\(∀i,i < c.2.1->bey R left (R key) arr (base+i)=true)/\ ∀i,c.2.2<=i->i < n->bey R left (R key) arr (base+i)=false) ?step ?fin ⟨rfl,rfl,hlo,hhi,by dsimp only;lia,hP,hN⟩) ?post)
  case post=>
   rintro⟨r,l,u⟩ st' ⟨rfl,h1,h2,h3,h4,h5⟩
   dsimp only at h1 h2 h3 h4 h5 ⊢;subst h1;subst h2;exact wpS_pure (h _ h3 h4 h5)
  case fin=>
   rintro⟨r,l,u⟩ st' ⟨h0,h1,h2,h3,h4,h5,h6⟩
   dsimp only at h2 h4;exact⟨h0,h1,by dsimp only;lia,h3,h5,h6⟩
  case step=>
   rintro x ⟨r,l,u⟩ st' _ hxn ⟨rfl,h1,h2,h3,h4,h5,h6⟩
   dsimp only at h1 h2 h3 h4 h5 h6 ⊢;subst h1;by_cases c:l>=u
   . rw[if_pos c];exact wpS_pure ⟨rfl,rfl,by dsimp only;lia,h3,h5,h6⟩
   . rw[if_neg c];refine wpS_bind (wpS_bey L hk hx hkey (by lia) ?_);cases e:bey R left (R key) arr (base+(l+(u - l) / 2))
     . exact wpS_pure ⟨rfl,rfl,by dsimp only;lia,by dsimp only;lia,by dsimp only;lia,h5,dn _ e⟩
     . exact wpS_pure ⟨rfl,rfl,by dsimp only;lia,h3,by dsimp only;lia,fun i hi=>up _ (by lia) e i (by dsimp only at hi;lia),h6⟩
 refine wpS_bind (wpS_bey L hk hx hkey (by lia) ?_);cases right:bey R left (R key) arr (base+hint) with
 | true=>
  dsimp only;rw[if_pos rfl];refine wpS_bind (wpS_mono (wpS_forRange (I:=fun x c st'=>st'=st/\c.1=none/\hint+c.2.1 < n/\bey R left (R key) arr (base+(hint+c.2.1))=true/\c.2.1 < c.2.2/\x+1<=c.2.2)
   (Q:=fun c st'=>st'=st/\c.1=none/\hint+c.2.1 < n/\bey R left (R key) arr (base+(hint+c.2.1))=true/\c.2.1 < c.2.2/\(n - hint<=c.2.2\/hint+c.2.2 < n/\bey R left (R key) arr (base+(hint+c.2.2))=false)) ?step ?fin ⟨rfl,rfl,hh,by dsimp only;rw[Nat.add_zero];exact right,by decide,by decide⟩) ?post)
  case post=>
   rintro⟨r,l,u⟩ st' ⟨rfl,h1,h2,h3,h4,h5⟩
   dsimp only at h1 h2 h3 h4 h5 ⊢;subst h1;have q: ∀i,hint+min u (n - hint)<=i->i < n->bey R left (R key) arr (base+i)=false:=fun i hi hn=>by
    rcases h5 with z | z
    . lia
    . exact dn _ z.2 i (by lia) hn
   exact tail _ _ (by lia) (by lia) (fun i hi=>up _ h2 h3 i (by lia)) q
  case fin=>
   rintro⟨r,l,u⟩ st' ⟨h0,h1,h2,h3,h4,h5⟩
   dsimp only at h5;exact⟨h0,h1,h2,h3,h4, .inl (by dsimp only;lia)⟩
  case step=>
   rintro x ⟨r,l,u⟩ st' _ _ ⟨rfl,h1,h2,h3,h4,h5⟩
   dsimp only at h1 h2 h3 h4 h5 ⊢;subst h1;by_cases c:u>=n - hint
   . rw[if_pos c];exact wpS_pure ⟨rfl,rfl,h2,h3,h4, .inl c⟩
   . rw[if_neg c];refine wpS_bind (wpS_bey L hk hx hkey (by lia) ?_);cases e:bey R left (R key) arr (base+(hint+u))
     . exact wpS_pure ⟨rfl,rfl,h2,h3,h4, .inr ⟨by dsimp only;lia,e⟩⟩
     . exact wpS_pure ⟨rfl,rfl,by dsimp only;lia,e,by dsimp only;lia,by dsimp only;lia⟩
 | false=>
  dsimp only;rw[if_neg Bool.false_ne_true];refine wpS_bind (wpS_mono (wpS_forRange (I:=fun x c st'=>st'=st/\c.1=none/\c.2.1<=hint/\bey R left (R key) arr (base+(hint - c.2.1))=false/\c.2.1 < c.2.2/\x+1<=c.2.2)
   (Q:=fun c st'=>st'=st/\c.1=none/\c.2.1<=hint/\bey R left (R key) arr (base+(hint - c.2.1))=false/\c.2.1 < c.2.2/\(hint+1<=c.2.2\/c.2.2<=hint/\bey R left (R key) arr (base+(hint - c.2.2))=true)) ?step ?fin ⟨rfl,rfl,Nat.zero_le _,by dsimp only;rw[Nat.sub_zero];exact right,by decide,by decide⟩) ?post)
  case post=>
   rintro⟨r,l,u⟩ st' ⟨rfl,h1,h2,h3,h4,h5⟩
   dsimp only at h1 h2 h3 h4 h5 ⊢;subst h1;have q: ∀i,i < hint+1 - min u (hint+1)->bey R left (R key) arr (base+i)=true:=fun i hi=>by
    rcases h5 with z | z
    . lia
    . exact up _ (by lia) z.2 i (by lia)
   exact tail _ _ (by lia) (by lia) q fun i hi hn=>dn _ h3 i hi hn
  case fin=>
   rintro⟨r,l,u⟩ st' ⟨h0,h1,h2,h3,h4,h5⟩
   dsimp only at h5;exact⟨h0,h1,h2,h3,h4, .inl (by dsimp only;lia)⟩
  case step=>
   rintro x ⟨r,l,u⟩ st' _ _ ⟨rfl,h1,h2,h3,h4,h5⟩
   dsimp only at h1 h2 h3 h4 h5 ⊢;subst h1;by_cases c:u>=hint+1
   . rw[if_pos c];exact wpS_pure ⟨rfl,rfl,h2,h3,h4, .inl c⟩
   . rw[if_neg c];refine wpS_bind (wpS_bey L hk hx hkey (by lia) ?_);cases e:bey R left (R key) arr (base+(hint - u))
     . exact wpS_pure ⟨rfl,rfl,by dsimp only;lia,e,by dsimp only;lia,by dsimp only;lia⟩
     . exact wpS_pure ⟨rfl,rfl,h2,h3,h4, .inr ⟨by dsimp only;lia,e⟩⟩
end
end LSrtX
end
section
namespace LSrtX
open PySem PyProof.Rows LSrtW
section
variable {prog : Program} {w : World} {A : Around} {E : Value -> Shared -> Prop} {s : Shared} {κ : SortKind} {R : Keyed -> Int} {D : Keyed -> Prop}
theorem Lo.pushB{a b out:Array Keyed}{ia ib:Nat}(h:Lo R a b out ia ib)(sa:Srt R a)(sb:Srt R b)(hi:ib < b.size)(hc:ia < a.size->rk R b ib<=rk R a ia):Lo R a b (out.push b[ib]) ia (ib+1):=by
 rw[push_ex hi];exact h.takeB sa sb (by lia) (fun _ _ z=>by rw[Nat.add_sub_cancel];exact hc z) (by lia)
theorem Lo.pushA{a b out:Array Keyed}{ia ib:Nat}(h:Lo R a b out ia ib)(sa:Srt R a)(sb:Srt R b)(hi:ia < a.size)(hc:ib < b.size->rk R a ia<=rk R b ib):Lo R a b (out.push a[ia]) (ia+1) ib:=by
 rw[push_ex hi];exact h.takeA sa sb (by lia) (fun _ _ z=>by rw[Nat.add_sub_cancel];exact hc z) (by lia)
theorem Lo.start{a b:Array Keyed}(sa:Srt R a)(sb:Srt R b)(b1:0 < b.size)(hc:0 < a.size->rk R b 0<=rk R a 0):Lo R a b #[b[0]] 0 1:=
 Lo.pushB (out:= #[]) ⟨by simp,List.Pairwise.nil,fun x hx=>by simp at hx,fun x hx=>by simp at hx⟩ sa sb b1 hc
theorem wpS_mergeLo{st:SortSt}{a b:Array Keyed}{Q:Array Keyed->SortSt->Prop}(L:LtOk prog w A E s κ R D)(hk:kindOf st=κ)(ha:Dk D a)(hb:Dk D b)(sa:Srt R a)(sb:Srt R b)(a1:1<=a.size)(b1:1<=b.size)(c0:rk R b 0<=rk R a 0)(cl:rk R b (b.size - 1)<=rk R a (a.size - 1))
  (h: ∀m g,Out R a b m->Q m (setG st g)):wpS (model prog w) A E s (mergeLo' a b) Q st:=by
 rw[mergeLo'_eq];dsimp only;refine wpS_bind (wpS_lift (wpAny_rule ⟨rfl,?_⟩));refine wpS_bind (wpS_elem (by lia) ?_);have ho:Lo R a b #[b[0]] 0 1:=Lo.start sa sb b1 fun _=>c0;by_cases c1:(1==b.size)=true
 . refine wpS_pos c1 ?_;exact wpS_pure (h _ (gallopOf st) (ho.done sa sb (by lia) (by lia) (.inl (beq_iff_eq.mp c1))))
 refine wpS_neg c1 ?_;by_cases c2:(0+1==a.size)=true
 . refine wpS_pos c2 ?_;have c2':=beq_iff_eq.mp c2;exact wpS_pure (h _ (gallopOf st) (ho.last sa sb (by lia) (by lia) fun _=>by rw[show a.size - 1=0 by lia] at cl;exact cl))
 refine wpS_neg c2 ?_;have c1:1≠b.size:=fun z=>c1 (beq_iff_eq.mpr z);have c2:0+1≠a.size:=fun z=>c2 (beq_iff_eq.mpr z);refine wpS_bind (wpS_get ?_);refine wpS_bind (wpS_mono (wpS_forRange (I:=fun i c st'=>(∃g,st'=setG st g)/\c.1=none/\Lo R a b c.2.1 c.2.2.1 c.2.2.2.1/\c.2.2.1+1 < a.size/\c.2.2.2.1 < b.size/\1+i<=c.2.2.1+c.2.2.2.1)
  (Q:=fun c st'=>(∃g,st'=setG st g)/\ ∃r,c.1=some r/\Out R a b r) ?step ?fin ⟨⟨gallopOf st,rfl⟩,rfl,(by dsimp only;exact ho),by dsimp only;lia,by dsimp only;lia,by dsimp only;lia⟩) ?post)
 case post=>
  rintro⟨r,out,ia,ib,mg⟩ st' ⟨⟨g,rfl⟩,r',h1,h2⟩
  dsimp only at h1 ⊢;subst h1;exact wpS_pure (h _ _ h2)
 case fin=>
  rintro⟨r,out,ia,ib,mg⟩ st' ⟨_,_,_,h1,h2,h3⟩
  dsimp only at h1 h2 h3;lia
 case step=>
  refine cur5g ?_;intro i out ia ib mg g _ hi hJ;have ho:Lo R a b out ia ib:=hJ.1;have h1:ia+1 < a.size:=hJ.2.1;have h2:ib < b.size:=hJ.2.2.1;have h3:1+i<=ia+ib:=hJ.2.2.2;clear hJ;dsimp only;refine wpS_bind (wpS_mono (wpS_forRange (I:=fun j c st'=>st'=setG st g/\c.1=none/\Lo R a b c.2.1 c.2.2.1 c.2.2.2.1/\c.2.2.1+1 < a.size/\c.2.2.2.1 < b.size/\1+i+min j 1<=c.2.2.1+c.2.2.2.1)
   (Q:=fun c st'=>st'=setG st g/\((∃r,c.1=some r/\Out R a b r)\/(c.1=none/\Lo R a b c.2.1 c.2.2.1 c.2.2.2.1/\c.2.2.1+1 < a.size/\c.2.2.2.1 < b.size/\1+(i+1)<=c.2.2.1+c.2.2.2.1))) ?istep ?ifin ⟨rfl,rfl,(by dsimp only;exact ho),(by dsimp only;exact h1),(by dsimp only;exact h2),by dsimp only;lia⟩) ?ipost)
  case ifin=>
   rintro⟨r,out,ia,ib,ac,bc⟩ st' ⟨e,hr,ho,h1,h2,h3⟩
   dsimp only at hr ho h1 h2 h3;exact⟨e, .inr ⟨hr,ho,h1,h2,by dsimp only;lia⟩⟩
  case istep=>
   clear ho h1 h2 h3;refine cur6e ?_;intro j out ia ib ac bc _ hj hJ;have ho:Lo R a b out ia ib:=hJ.1;have h1:ia+1 < a.size:=hJ.2.1;have h2:ib < b.size:=hJ.2.2.1;have h3:1+i+min j 1<=ia+ib:=hJ.2.2.2;clear hJ;have ha':ia < a.size:=by lia
   dsimp only;refine wpS_bind (wpS_elem h2 (wpS_bind (wpS_elem ha' (wpS_bind (L _ _ _ _ hk (hb _ h2) (ha _ ha') ?_)))));rw[<-rk_at (R:=R) h2,<-rk_at (R:=R) ha'];cases bw:decide (rk R b ib < rk R a ia) with
   | true=>
    have bw:=of_decide_eq_true bw;have hoB:=ho.pushB sa sb h2 fun _=>Int.le_of_lt bw;dsimp only;refine wpS_pos rfl ?_;refine wpS_bind (wpS_elem h2 ?_);by_cases c3:(ib+1==b.size)=true
    . refine wpS_pos c3 ?_;exact wpS_pure ⟨rfl, .inl ⟨_,rfl,hoB.done sa sb (by lia) (by lia) (.inl (beq_iff_eq.mp c3))⟩⟩
    refine wpS_neg c3 ?_;have c3:ib+1≠b.size:=fun z=>c3 (beq_iff_eq.mpr z);by_cases c4:bc+1>=mg
    . refine wpS_pos c4 ?_;exact wpS_pure ⟨rfl, .inr ⟨rfl,by dsimp only;exact hoB,by dsimp only;lia,by dsimp only;lia,by dsimp only;lia⟩⟩
    . refine wpS_neg c4 ?_;exact wpS_pure ⟨rfl,rfl,by dsimp only;exact hoB,by dsimp only;lia,by dsimp only;lia,by dsimp only;lia⟩
   | false=>
    have bw:=of_decide_eq_false bw;have hoA:=ho.pushA sa sb ha' fun _=>Int.not_lt.mp bw;dsimp only;refine wpS_neg Bool.false_ne_true ?_;refine wpS_bind (wpS_elem ha' ?_);by_cases c3:(ia+1+1==a.size)=true
    . refine wpS_pos c3 ?_;have c3':=beq_iff_eq.mp c3;exact wpS_pure ⟨rfl, .inl ⟨_,rfl,hoA.last sa sb (by lia) (by lia) fun _=>by rw[show a.size - 1=ia+1 by lia] at cl;exact cl⟩⟩
    refine wpS_neg c3 ?_;have c3:ia+1+1≠a.size:=fun z=>c3 (beq_iff_eq.mpr z);by_cases c4:ac+1>=mg
    . refine wpS_pos c4 ?_;exact wpS_pure ⟨rfl, .inr ⟨rfl,by dsimp only;exact hoA,by dsimp only;lia,by dsimp only;lia,by dsimp only;lia⟩⟩
    . refine wpS_neg c4 ?_;exact wpS_pure ⟨rfl,rfl,by dsimp only;exact hoA,by dsimp only;lia,by dsimp only;lia,by dsimp only;lia⟩
  case ipost=>
   clear ho h1 h2 h3;refine pst6 (fun r' out ia ib ac bc ho=>?_) (fun out ia ib ac bc hJ=>?_)
   . exact wpS_pure ⟨⟨g,rfl⟩,_,rfl,ho⟩
   have ho:Lo R a b out ia ib:=hJ.1;have h1:ia+1 < a.size:=hJ.2.1;have h2:ib < b.size:=hJ.2.2.1;have h3:1+(i+1)<=ia+ib:=hJ.2.2.2;clear hJ;dsimp only;refine wpS_bind (wpS_lift (wpAny_rule ⟨rfl,?_⟩));refine wpS_bind (wpS_mono (wpS_forRange (I:=fun j c st'=>(∃g,st'=setG st g)/\c.1=none/\Lo R a b c.2.1 c.2.2.1 c.2.2.2.1/\c.2.2.1+1 < a.size/\c.2.2.2.1 < b.size/\1+(i+1)<=c.2.2.1+c.2.2.2.1)
    (Q:=fun c st'=>(∃g,st'=setG st g)/\((∃r,c.1=some r/\Out R a b r)\/(c.1=none/\Lo R a b c.2.1 c.2.2.1 c.2.2.2.1/\c.2.2.1+1 < a.size/\c.2.2.2.1 < b.size/\1+(i+1)<=c.2.2.1+c.2.2.2.1))) ?gstep ?gfin ⟨⟨g,rfl⟩,rfl,(by dsimp only;exact ho),(by dsimp only;exact h1),(by dsimp only;exact h2),(by dsimp only;exact h3)⟩) ?gpost)
   case gfin=>
    rintro⟨r,out,ia,ib,mg,ac,bc⟩ st' ⟨e,hr,ho,h1,h2,h3⟩
    exact⟨e, .inr ⟨hr,ho,h1,h2,h3⟩⟩
   case gpost=>
    refine pst7 (fun r' out ia ib mg ac bc g ho=>?_) (fun out ia ib mg ac bc g hJ=>?_)
    . exact wpS_pure ⟨⟨g,rfl⟩,_,rfl,ho⟩
    . dsimp only;rw[setMinGallop'_eq];exact wpS_bind (wpS_modify (wpS_pure ⟨⟨_,rfl⟩,rfl,hJ⟩))
   case gstep=>
    clear ho h1 h2 h3 hi;refine cur7g ?_;intro j out ia ib mg ac bc g _ hj hJ;have ho:Lo R a b out ia ib:=hJ.1;have h1:ia+1 < a.size:=hJ.2.1;have h2:ib < b.size:=hJ.2.2.1;have h3:1+(i+1)<=ia+ib:=hJ.2.2.2;clear hJ;dsimp only;refine have key:?P:=?pk;?main
    case main=>
     by_cases c0:mg > 1
     . refine wpS_pos c0 ?_;clear c0;generalize mg - 1=m;revert m
       exact key
     . refine wpS_neg c0 ?_;clear c0;generalize mg=m;revert m
       exact key
    case pk=>
     intro m;rw[setMinGallop'_eq];refine wpS_bind (wpS_modify ?_);refine wpS_bind (wpS_elem h2 ?_);refine wpS_bind (wpS_gal L hk ha (hb _ h2) (by lia) (by lia) (fun p q pq q2=>sa.rk (by lia) (by lia)) fun k hk1 kt kf=>?_);rw[<-rk_at (R:=R) h2] at kt kf;dsimp only;have kt':0 < k->rk R a (ia+k - 1)<=rk R b ib:=fun z=>by have:=bey_le (kt (k - 1) (by lia));rw[show ia+(k - 1)=ia+k - 1 by lia] at this;exact this
     have kf':ia+k < a.size->rk R b ib<=rk R a (ia+k):=fun z=>Int.le_of_lt (bey_gt (kf k (Nat.le_refl _) (by lia)));clear kt kf;by_cases c3:k > 0
     . refine wpS_pos c3 ?_;have hoA:=ho.takeA sa sb (ia':=ia+k) (by lia) (fun _ _ _=>kt' c3) (by lia);generalize out++a.extract ia (ia+k)=outA at hoA;by_cases c4:(ia+k+1==a.size)=true
       . refine wpS_pos c4 ?_;have c4':=beq_iff_eq.mp c4;exact wpS_pure ⟨⟨_,rfl⟩, .inl ⟨_,rfl,hoA.last sa sb (by lia) (by lia) fun _=>by rw[show a.size - 1=ia+k by lia] at cl;exact cl⟩⟩
       refine wpS_neg c4 ?_;have c4':ia+k+1≠a.size:=fun z=>c4 (beq_iff_eq.mpr z);clear c4;by_cases c9:(ia+k==a.size)=true
       . refine wpS_pos c9 ?_;exact wpS_pure ⟨⟨_,rfl⟩, .inl ⟨_,rfl,hoA.done sa sb (by lia) (by lia) (.inr (beq_iff_eq.mp c9))⟩⟩
       refine wpS_neg c9 ?_;have c9':ia+k≠a.size:=fun z=>c9 (beq_iff_eq.mpr z);clear c9;refine wpS_bind (wpS_elem h2 ?_);have hoB:=hoA.pushB sa sb h2 kf';by_cases c5:(ib+1==b.size)=true
       . refine wpS_pos c5 ?_;exact wpS_pure ⟨⟨_,rfl⟩, .inl ⟨_,rfl,hoB.done sa sb (by lia) (by lia) (.inl (beq_iff_eq.mp c5))⟩⟩
       refine wpS_neg c5 ?_;have c5:ib+1≠b.size:=fun z=>c5 (beq_iff_eq.mpr z);have hK:ia+k < a.size:=by lia
       refine wpS_bind (wpS_elem hK ?_);refine wpS_bind (wpS_gal L hk hb (ha _ hK) (by lia) (by lia) (fun p q pq q2=>sb.rk (by lia) (by lia)) fun k2 hk2 kt kf=>?_);rw[<-rk_at (R:=R) hK] at kt kf;dsimp only;have lt':0 < k2->rk R b (ib+1+k2 - 1)<=rk R a (ia+k):=fun z=>by have:=Int.le_of_lt (bey_lt (kt (k2 - 1) (by lia)));rw[show ib+1+(k2 - 1)=ib+1+k2 - 1 by lia] at this;exact this
       have lf':ib+1+k2 < b.size->rk R a (ia+k)<=rk R b (ib+1+k2):=fun z=>bey_ge (kf k2 (Nat.le_refl _) (by lia));clear kt kf;by_cases c6:k2 > 0
       . refine wpS_pos c6 ?_;have hoC:=hoB.takeB sa sb (ib':=ib+1+k2) (by lia) (fun _ _ _=>lt' c6) (by lia);by_cases c7:(ib+1+k2==b.size)=true
         . refine wpS_pos c7 ?_;exact wpS_pure ⟨⟨_,rfl⟩, .inl ⟨_,rfl,hoC.done sa sb (by lia) (by lia) (.inl (beq_iff_eq.mp c7))⟩⟩
         refine wpS_neg c7 ?_;have c7':ib+1+k2≠b.size:=fun z=>c7 (beq_iff_eq.mpr z);clear c7;refine wpS_bind (wpS_elem hK ?_);have hoD:=hoC.pushA sa sb hK lf';by_cases c7:(ia+k+1+1==a.size)=true
         . refine wpS_pos c7 ?_;have c7':=beq_iff_eq.mp c7;exact wpS_pure ⟨⟨_,rfl⟩, .inl ⟨_,rfl,hoD.last sa sb (by lia) (by lia) fun _=>by rw[show a.size - 1=ia+k+1 by lia] at cl;exact cl⟩⟩
         refine wpS_neg c7 ?_;have c7:ia+k+1+1≠a.size:=fun z=>c7 (beq_iff_eq.mpr z);by_cases c8:(decide (k < 7) && decide (k2 < 7))=true
         . refine wpS_pos c8 ?_;exact wpS_pure ⟨⟨_,rfl⟩, .inr ⟨rfl,by dsimp only;exact hoD,by dsimp only;lia,by dsimp only;lia,by dsimp only;lia⟩⟩
         . refine wpS_neg c8 ?_;exact wpS_pure ⟨⟨_,rfl⟩,rfl,by dsimp only;exact hoD,by dsimp only;lia,by dsimp only;lia,by dsimp only;lia⟩
       . refine wpS_neg c6 ?_;have k20:k2=0:=by lia
         subst k20;refine wpS_bind (wpS_elem hK ?_);have hoD:=hoB.pushA sa sb hK lf';by_cases c7:(ia+k+1+1==a.size)=true
         . refine wpS_pos c7 ?_;have c7':=beq_iff_eq.mp c7;exact wpS_pure ⟨⟨_,rfl⟩, .inl ⟨_,rfl,hoD.last sa sb (by lia) (by lia) fun _=>by rw[show a.size - 1=ia+k+1 by lia] at cl;exact cl⟩⟩
         refine wpS_neg c7 ?_;have c7:ia+k+1+1≠a.size:=fun z=>c7 (beq_iff_eq.mpr z);by_cases c8:(decide (k < 7) && decide (0 < 7))=true
         . refine wpS_pos c8 ?_;exact wpS_pure ⟨⟨_,rfl⟩, .inr ⟨rfl,by dsimp only;exact hoD,by dsimp only;lia,by dsimp only;lia,by dsimp only;lia⟩⟩
         . refine wpS_neg c8 ?_;exact wpS_pure ⟨⟨_,rfl⟩,rfl,by dsimp only;exact hoD,by dsimp only;lia,by dsimp only;lia,by dsimp only;lia⟩
     . refine wpS_neg c3 ?_;have k0:k=0:=by lia
       subst k0;rw[Nat.add_zero] at kf';refine wpS_bind (wpS_elem h2 ?_);have hoB:=ho.pushB sa sb h2 kf';by_cases c5:(ib+1==b.size)=true
       . refine wpS_pos c5 ?_;exact wpS_pure ⟨⟨_,rfl⟩, .inl ⟨_,rfl,hoB.done sa sb (by lia) (by lia) (.inl (beq_iff_eq.mp c5))⟩⟩
       refine wpS_neg c5 ?_;have c5:ib+1≠b.size:=fun z=>c5 (beq_iff_eq.mpr z);have hK:ia < a.size:=by lia
       refine wpS_bind (wpS_elem hK ?_);refine wpS_bind (wpS_gal L hk hb (ha _ hK) (by lia) (by lia) (fun p q pq q2=>sb.rk (by lia) (by lia)) fun k2 hk2 kt kf=>?_);rw[<-rk_at (R:=R) hK] at kt kf;dsimp only;have lt':0 < k2->rk R b (ib+1+k2 - 1)<=rk R a (ia):=fun z=>by have:=Int.le_of_lt (bey_lt (kt (k2 - 1) (by lia)));rw[show ib+1+(k2 - 1)=ib+1+k2 - 1 by lia] at this;exact this
       have lf':ib+1+k2 < b.size->rk R a (ia)<=rk R b (ib+1+k2):=fun z=>bey_ge (kf k2 (Nat.le_refl _) (by lia));clear kt kf;by_cases c6:k2 > 0
       . refine wpS_pos c6 ?_;have hoC:=hoB.takeB sa sb (ib':=ib+1+k2) (by lia) (fun _ _ _=>lt' c6) (by lia);by_cases c7:(ib+1+k2==b.size)=true
         . refine wpS_pos c7 ?_;exact wpS_pure ⟨⟨_,rfl⟩, .inl ⟨_,rfl,hoC.done sa sb (by lia) (by lia) (.inl (beq_iff_eq.mp c7))⟩⟩
         refine wpS_neg c7 ?_;have c7':ib+1+k2≠b.size:=fun z=>c7 (beq_iff_eq.mpr z);clear c7;refine wpS_bind (wpS_elem hK ?_);have hoD:=hoC.pushA sa sb hK lf';by_cases c7:(ia+1+1==a.size)=true
         . refine wpS_pos c7 ?_;have c7':=beq_iff_eq.mp c7;exact wpS_pure ⟨⟨_,rfl⟩, .inl ⟨_,rfl,hoD.last sa sb (by lia) (by lia) fun _=>by rw[show a.size - 1=ia+1 by lia] at cl;exact cl⟩⟩
         refine wpS_neg c7 ?_;have c7:ia+1+1≠a.size:=fun z=>c7 (beq_iff_eq.mpr z);by_cases c8:(decide (0 < 7) && decide (k2 < 7))=true
         . refine wpS_pos c8 ?_;exact wpS_pure ⟨⟨_,rfl⟩, .inr ⟨rfl,by dsimp only;exact hoD,by dsimp only;lia,by dsimp only;lia,by dsimp only;lia⟩⟩
         . refine wpS_neg c8 ?_;exact wpS_pure ⟨⟨_,rfl⟩,rfl,by dsimp only;exact hoD,by dsimp only;lia,by dsimp only;lia,by dsimp only;lia⟩
       . refine wpS_neg c6 ?_;have k20:k2=0:=by lia
         subst k20;refine wpS_bind (wpS_elem hK ?_);have hoD:=hoB.pushA sa sb hK lf';by_cases c7:(ia+1+1==a.size)=true
         . refine wpS_pos c7 ?_;have c7':=beq_iff_eq.mp c7;exact wpS_pure ⟨⟨_,rfl⟩, .inl ⟨_,rfl,hoD.last sa sb (by lia) (by lia) fun _=>by rw[show a.size - 1=ia+1 by lia] at cl;exact cl⟩⟩
         refine wpS_neg c7 ?_;have c7:ia+1+1≠a.size:=fun z=>c7 (beq_iff_eq.mpr z);by_cases c8:(decide (0 < 7) && decide (0 < 7))=true
         . refine wpS_pos c8 ?_;exact wpS_pure ⟨⟨_,rfl⟩, .inr ⟨rfl,by dsimp only;exact hoD,by dsimp only;lia,by dsimp only;lia,by dsimp only;lia⟩⟩
         . refine wpS_neg c8 ?_;exact wpS_pure ⟨⟨_,rfl⟩,rfl,by dsimp only;exact hoD,by dsimp only;lia,by dsimp only;lia,by dsimp only;lia⟩
end
end LSrtX
end
section
namespace LSrtX
open PySem PyProof.Rows LSrtW
section
variable {R : Keyed -> Int}
structure Hi(R:Keyed->Int)(a b out:Array Keyed)(na nb:Nat):Prop where
 pm:((a.toList.take na++b.toList.take nb)++out.reverse.toList).Perm (a.toList++b.toList)
 so:Srt R out.reverse
 la: ∀x∈out.reverse.toList,∀j,j < na->j < a.size->rk R a j<=R x
 lb: ∀x∈out.reverse.toList,∀j,j < nb->j < b.size->rk R b j<=R x
theorem rev_app{out x:Array Keyed}:(out++x.reverse).reverse=x++out.reverse:=by
 apply Array.toList_inj.mp;simp
theorem take_ex{a:Array Keyed}{i j:Nat}(h:i<=j):a.toList.take j=a.toList.take i++(a.extract i j).toList:=by
 rw[ex_list];conv=>lhs;rw[show j=i+(j - i) by lia]
 rw[List.take_add]
theorem Hi.takeA{a b out:Array Keyed}{na nb:Nat}(h:Hi R a b out na nb)(sa:Srt R a)(sb:Srt R b){na':Nat}(h1:na'<=na)(h2:na<=a.size)(h3:nb<=b.size)(hc:na' < na->0 < nb->rk R b (nb - 1)<=rk R a na'):Hi R a b (out++(a.extract na' na).reverse) na' nb:=by
 refine⟨?_,?_,fun x hx j j1 j2=>?_,fun x hx j j1 j2=>?_⟩
 . rw[rev_app,Array.toList_append];refine List.Perm.trans ?_ h.pm;rw[take_ex h1];refine List.Perm.trans (List.Perm.of_eq (List.append_assoc _ _ _).symm) (List.Perm.append_right _ ?_);rw[List.append_assoc,List.append_assoc];exact List.Perm.append_left _ List.perm_append_comm
 . rw[rev_app];exact(sa.ex _ _).app h.so fun x hx y hy=>by
    obtain⟨k,k1,k2,k3,e⟩:=ex_mem (R:=R) hx;rw[e];exact h.la y hy k k2 k3
 . rw[rev_app,Array.toList_append] at hx;rcases List.mem_append.mp hx with z | z
   . obtain⟨k,k1,k2,k3,e⟩:=ex_mem (R:=R) z;rw[e];exact sa.rk (by lia) k3
   . exact h.la x z j (by lia) j2
 . rw[rev_app,Array.toList_append] at hx;rcases List.mem_append.mp hx with z | z
   . obtain⟨k,k1,k2,k3,e⟩:=ex_mem (R:=R) z;rw[e];have q1:=sa.rk k1 k3;have q2:=hc (by lia) (by lia);have q3:=sb.rk (show j<=nb - 1 by lia) (by lia);lia
   . exact h.lb x z j j1 j2
theorem Hi.takeB{a b out:Array Keyed}{na nb:Nat}(h:Hi R a b out na nb)(sa:Srt R a)(sb:Srt R b){nb':Nat}(h1:nb'<=nb)(h2:nb<=b.size)(h3:na<=a.size)(hc:nb' < nb->0 < na->rk R a (na - 1)<=rk R b nb'):Hi R a b (out++(b.extract nb' nb).reverse) na nb':=by
 refine⟨?_,?_,fun x hx j j1 j2=>?_,fun x hx j j1 j2=>?_⟩
 . rw[rev_app,Array.toList_append];refine List.Perm.trans ?_ h.pm;rw[take_ex (a:=b) h1];simp only [List.append_assoc];exact List.Perm.refl _
 . rw[rev_app];exact(sb.ex _ _).app h.so fun x hx y hy=>by
    obtain⟨k,k1,k2,k3,e⟩:=ex_mem (R:=R) hx;rw[e];exact h.lb y hy k k2 k3
 . rw[rev_app,Array.toList_append] at hx;rcases List.mem_append.mp hx with z | z
   . obtain⟨k,k1,k2,k3,e⟩:=ex_mem (R:=R) z;rw[e];have q1:=sb.rk k1 k3;have q2:=hc (by lia) (by lia);have q3:=sa.rk (show j<=na - 1 by lia) (by lia);lia
   . exact h.la x z j j1 j2
 . rw[rev_app,Array.toList_append] at hx;rcases List.mem_append.mp hx with z | z
   . obtain⟨k,k1,k2,k3,e⟩:=ex_mem (R:=R) z;rw[e];exact sb.rk (by lia) k3
   . exact h.lb x z j (by lia) j2
theorem Hi.out{a b out:Array Keyed}(h:Hi R a b out 0 0):Out R a b out.reverse:=by
 refine⟨?_,h.so⟩;have:=h.pm;rw[List.take_zero,List.take_zero,List.append_nil,List.nil_append] at this;exact this
theorem Hi.done{a b out:Array Keyed}{na nb:Nat}(h:Hi R a b out na nb)(sa:Srt R a)(sb:Srt R b)(ha:na<=a.size)(hb:nb<=b.size)(hh:na=0\/nb=0):Out R a b (a.extract 0 na++b.extract 0 nb++out.reverse):=by
 have:=((h.takeB sa sb (nb':=0) (Nat.zero_le _) hb ha fun z1 z2=>by lia).takeA sa sb (na':=0) (Nat.zero_le _) ha (Nat.zero_le _) fun z1 z2=>by lia).out;rw[rev_app,rev_app,<-Array.append_assoc] at this;exact this
theorem Hi.first{a b out:Array Keyed}{na nb:Nat}(h:Hi R a b out na nb)(sa:Srt R a)(sb:Srt R b)(ha:na<=a.size)(hb:nb<=b.size)(hh:nb=1)(hc:rk R b 0<=rk R a 0):Out R a b (b.extract 0 nb++a.extract 0 na++out.reverse):=by
 have:=((h.takeA sa sb (na':=0) (Nat.zero_le _) ha hb fun z1 z2=>by rw[hh];exact hc).takeB sa sb (nb':=0) (Nat.zero_le _) hb (Nat.zero_le _) fun z1 z2=>by lia).out;rw[rev_app,rev_app,<-Array.append_assoc] at this;exact this
theorem push_rx{a out:Array Keyed}{i:Nat}(h:i < a.size):out.push a[i]=out++(a.extract i (i+1)).reverse:=by
 apply Array.toList_inj.mp;rw[Array.toList_push,Array.toList_append,Array.toList_reverse,ex_list,show i+1 - i=1 by lia];congr 1
 have h':i < a.toList.length:=by simpa using h
 rw[List.drop_eq_getElem_cons h',List.take_succ_cons,List.take_zero,Array.getElem_toList];rfl
theorem Hi.pushA{a b out:Array Keyed}{na nb:Nat}(h:Hi R a b out na nb)(sa:Srt R a)(sb:Srt R b)(h1:1<=na)(h2:na<=a.size)(h3:nb<=b.size)(hc:0 < nb->rk R b (nb - 1)<=rk R a (na - 1)):Hi R a b (out.push (a[na - 1]'(by lia))) (na - 1) nb:=by
 rw[push_rx (show na - 1 < a.size by lia),show na - 1+1=na by lia];exact h.takeA sa sb (by lia) h2 h3 fun _ z=>hc z
theorem Hi.pushB{a b out:Array Keyed}{na nb:Nat}(h:Hi R a b out na nb)(sa:Srt R a)(sb:Srt R b)(h1:1<=nb)(h2:nb<=b.size)(h3:na<=a.size)(hc:0 < na->rk R a (na - 1)<=rk R b (nb - 1)):Hi R a b (out.push (b[nb - 1]'(by lia))) na (nb - 1):=by
 rw[push_rx (show nb - 1 < b.size by lia),show nb - 1+1=nb by lia];exact h.takeB sa sb (by lia) h2 h3 fun _ z=>hc z
theorem Hi.start{a b:Array Keyed}(sa:Srt R a)(sb:Srt R b)(a1:1<=a.size)(hc:0 < b.size->rk R b (b.size - 1)<=rk R a (a.size - 1)):Hi R a b #[a[a.size - 1]'(by lia)] (a.size - 1) b.size:=
 Hi.pushA (out:= #[]) (na:=a.size) ⟨by rw[<-Array.length_toList,<-Array.length_toList,List.take_length,List.take_length];simp,List.Pairwise.nil,fun x hx=>by simp at hx,fun x hx=>by simp at hx⟩ sa sb a1 (Nat.le_refl _) (Nat.le_refl _) hc
end
section
variable {prog : Program} {w : World} {A : Around} {E : Value -> Shared -> Prop} {s : Shared} {κ : SortKind} {R : Keyed -> Int} {D : Keyed -> Prop}
theorem wpS_mergeHi{st:SortSt}{a b:Array Keyed}{Q:Array Keyed->SortSt->Prop}(L:LtOk prog w A E s κ R D)(hk:kindOf st=κ)(ha:Dk D a)(hb:Dk D b)(sa:Srt R a)(sb:Srt R b)(a1:1<=a.size)(b1:1<=b.size)(c0:rk R b 0<=rk R a 0)(cl:rk R b (b.size - 1)<=rk R a (a.size - 1))
  (h: ∀m g,Out R a b m->Q m (setG st g)):wpS (model prog w) A E s (mergeHi' a b) Q st:=by
 rw[mergeHi'_eq];dsimp only;refine wpS_bind (wpS_lift (wpAny_rule ⟨rfl,?_⟩));refine wpS_bind (wpS_elem (by lia) ?_);have ho:=Hi.start sa sb a1 fun _=>cl;by_cases c1:(a.size - 1==0)=true
 . refine wpS_pos c1 ?_;exact wpS_pure (h _ (gallopOf st) (ho.done sa sb (by lia) (by lia) (.inl (beq_iff_eq.mp c1))))
 refine wpS_neg c1 ?_;by_cases c2:(b.size==1)=true
 . refine wpS_pos c2 ?_;exact wpS_pure (h _ (gallopOf st) (ho.first sa sb (by lia) (by lia) (beq_iff_eq.mp c2) c0))
 refine wpS_neg c2 ?_;have c1':a.size - 1≠0:=fun z=>c1 (beq_iff_eq.mpr z);have c2':b.size≠1:=fun z=>c2 (beq_iff_eq.mpr z);clear c1 c2;refine wpS_bind (wpS_get ?_);refine wpS_bind (wpS_mono (wpS_forRange (I:=fun i c st'=>(∃g,st'=setG st g)/\c.1=none/\Hi R a b c.2.2.2.1 c.2.1 c.2.2.1/\1<=c.2.1/\c.2.1<=a.size/\2<=c.2.2.1/\c.2.2.1<=b.size/\1+i<=(a.size - c.2.1)+(b.size - c.2.2.1))
  (Q:=fun c st'=>(∃g,st'=setG st g)/\ ∃r,c.1=some r/\Out R a b r) ?step ?fin ⟨⟨gallopOf st,rfl⟩,rfl,(by dsimp only;exact ho),by dsimp only;lia,by dsimp only;lia,by dsimp only;lia,by dsimp only;lia,by dsimp only;lia⟩) ?post)
 case post=>
  rintro⟨r,na,nb,out,mg⟩ st' ⟨⟨g,rfl⟩,r',h1,h2⟩
  dsimp only at h1 ⊢;subst h1;exact wpS_pure (h _ _ h2)
 case fin=>
  rintro⟨r,na,nb,out,mg⟩ st' ⟨_,_,ho,h1,h2,h3,h4,h5⟩
  dsimp only at h1 h2 h3 h4 h5;lia
 case step=>
  refine cur5g ?_;intro i na nb out mg g _ hi hJ;have ho:Hi R a b out na nb:=hJ.1;have h1:1<=na:=hJ.2.1;have h2:na<=a.size:=hJ.2.2.1;have h3:2<=nb:=hJ.2.2.2.1;have h4:nb<=b.size:=hJ.2.2.2.2.1;have h5:1+i<=(a.size - na)+(b.size - nb):=hJ.2.2.2.2.2;clear hJ;dsimp only;refine wpS_bind (wpS_mono (wpS_forRange (I:=fun j c st'=>st'=setG st g/\c.1=none/\Hi R a b c.2.2.2.1 c.2.1 c.2.2.1/\1<=c.2.1/\c.2.1<=a.size/\2<=c.2.2.1/\c.2.2.1<=b.size/\1+i+min j 1<=(a.size - c.2.1)+(b.size - c.2.2.1))
   (Q:=fun c st'=>st'=setG st g/\((∃r,c.1=some r/\Out R a b r)\/(c.1=none/\Hi R a b c.2.2.2.1 c.2.1 c.2.2.1/\1<=c.2.1/\c.2.1<=a.size/\2<=c.2.2.1/\c.2.2.1<=b.size/\1+(i+1)<=(a.size - c.2.1)+(b.size - c.2.2.1)))) ?istep ?ifin ⟨rfl,rfl,(by dsimp only;exact ho),(by dsimp only;exact h1),(by dsimp only;exact h2),(by dsimp only;exact h3),(by dsimp only;exact h4),by dsimp only;lia⟩) ?ipost)
  case ifin=>
   rintro⟨r,na,nb,out,ac,bc⟩ st' ⟨e,hr,ho,h1,h2,h3,h4,h5⟩
   dsimp only at hr ho h1 h2 h3 h4 h5;exact⟨e, .inr ⟨hr,ho,h1,h2,h3,h4,by dsimp only;lia⟩⟩
  case istep=>
   clear ho h1 h2 h3 h4 h5;refine cur6e ?_;intro j na nb out ac bc _ hj hJ;have ho:Hi R a b out na nb:=hJ.1;have h1:1<=na:=hJ.2.1;have h2:na<=a.size:=hJ.2.2.1;have h3:2<=nb:=hJ.2.2.2.1;have h4:nb<=b.size:=hJ.2.2.2.2.1;have h5:1+i+min j 1<=(a.size - na)+(b.size - nb):=hJ.2.2.2.2.2;clear hJ;have ha':na - 1 < a.size:=by lia
   have hb':nb - 1 < b.size:=by lia
   dsimp only;refine wpS_bind (wpS_elem hb' (wpS_bind (wpS_elem ha' (wpS_bind (L _ _ _ _ hk (hb _ hb') (ha _ ha') ?_)))));rw[<-rk_at (R:=R) hb',<-rk_at (R:=R) ha'];cases aw:decide (rk R b (nb - 1) < rk R a (na - 1)) with
   | true=>
    have aw:=of_decide_eq_true aw;have hoA:=ho.pushA sa sb h1 h2 h4 fun _=>Int.le_of_lt aw;dsimp only;refine wpS_pos rfl ?_;refine wpS_bind (wpS_elem ha' ?_);by_cases c3:(na - 1==0)=true
    . refine wpS_pos c3 ?_;exact wpS_pure ⟨rfl, .inl ⟨_,rfl,hoA.done sa sb (by lia) (by lia) (.inl (beq_iff_eq.mp c3))⟩⟩
    refine wpS_neg c3 ?_;have c3':na - 1≠0:=fun z=>c3 (beq_iff_eq.mpr z);clear c3;by_cases c4:ac+1>=mg
    . refine wpS_pos c4 ?_;exact wpS_pure ⟨rfl, .inr ⟨rfl,by dsimp only;exact hoA,by dsimp only;lia,by dsimp only;lia,by dsimp only;lia,by dsimp only;lia,by dsimp only;lia⟩⟩
    . refine wpS_neg c4 ?_;exact wpS_pure ⟨rfl,rfl,by dsimp only;exact hoA,by dsimp only;lia,by dsimp only;lia,by dsimp only;lia,by dsimp only;lia,by dsimp only;lia⟩
   | false=>
    have aw:=of_decide_eq_false aw;have hoB:=ho.pushB sa sb (by lia) h4 h2 fun _=>Int.not_lt.mp aw;dsimp only;refine wpS_neg Bool.false_ne_true ?_;refine wpS_bind (wpS_elem hb' ?_);by_cases c3:(nb - 1==1)=true
    . refine wpS_pos c3 ?_;exact wpS_pure ⟨rfl, .inl ⟨_,rfl,hoB.first sa sb (by lia) (by lia) (beq_iff_eq.mp c3) c0⟩⟩
    refine wpS_neg c3 ?_;have c3':nb - 1≠1:=fun z=>c3 (beq_iff_eq.mpr z);clear c3;by_cases c4:bc+1>=mg
    . refine wpS_pos c4 ?_;exact wpS_pure ⟨rfl, .inr ⟨rfl,by dsimp only;exact hoB,by dsimp only;lia,by dsimp only;lia,by dsimp only;lia,by dsimp only;lia,by dsimp only;lia⟩⟩
    . refine wpS_neg c4 ?_;exact wpS_pure ⟨rfl,rfl,by dsimp only;exact hoB,by dsimp only;lia,by dsimp only;lia,by dsimp only;lia,by dsimp only;lia,by dsimp only;lia⟩
  case ipost=>
   clear ho h1 h2 h3 h4 h5;refine pst6 (fun r' na nb out ac bc ho=>?_) (fun na nb out ac bc hJ=>?_)
   . exact wpS_pure ⟨⟨g,rfl⟩,_,rfl,ho⟩
   have ho:Hi R a b out na nb:=hJ.1;have h1:1<=na:=hJ.2.1;have h2:na<=a.size:=hJ.2.2.1;have h3:2<=nb:=hJ.2.2.2.1;have h4:nb<=b.size:=hJ.2.2.2.2.1;have h5:1+(i+1)<=(a.size - na)+(b.size - nb):=hJ.2.2.2.2.2;clear hJ;dsimp only;refine wpS_bind (wpS_lift (wpAny_rule ⟨rfl,?_⟩));refine wpS_bind (wpS_mono (wpS_forRange (I:=fun j c st'=>(∃g,st'=setG st g)/\c.1=none/\Hi R a b c.2.2.2.1 c.2.1 c.2.2.1/\1<=c.2.1/\c.2.1<=a.size/\2<=c.2.2.1/\c.2.2.1<=b.size/\1+(i+1)<=(a.size - c.2.1)+(b.size - c.2.2.1))
    (Q:=fun c st'=>(∃g,st'=setG st g)/\((∃r,c.1=some r/\Out R a b r)\/(c.1=none/\Hi R a b c.2.2.2.1 c.2.1 c.2.2.1/\1<=c.2.1/\c.2.1<=a.size/\2<=c.2.2.1/\c.2.2.1<=b.size/\1+(i+1)<=(a.size - c.2.1)+(b.size - c.2.2.1)))) ?gstep ?gfin ⟨⟨g,rfl⟩,rfl,(by dsimp only;exact ho),(by dsimp only;exact h1),(by dsimp only;exact h2),(by dsimp only;exact h3),(by dsimp only;exact h4),(by dsimp only;exact h5)⟩) ?gpost)
   case gfin=>
    rintro⟨r,na,nb,out,mg,ac,bc⟩ st' ⟨e,hr,ho,h1,h2,h3,h4,h5⟩
    exact⟨e, .inr ⟨hr,ho,h1,h2,h3,h4,h5⟩⟩
   case gpost=>
    refine pst7 (fun r' na nb out mg ac bc g ho=>?_) (fun na nb out mg ac bc g hJ=>?_)
    . exact wpS_pure ⟨⟨g,rfl⟩,_,rfl,ho⟩
    . dsimp only;rw[setMinGallop'_eq];exact wpS_bind (wpS_modify (wpS_pure ⟨⟨_,rfl⟩,rfl,hJ⟩))
   case gstep=>
    clear ho h1 h2 h3 h4 h5 hi;refine cur7g ?_;intro j na nb out mg ac bc g _ hj hJ;have ho:Hi R a b out na nb:=hJ.1;have h1:1<=na:=hJ.2.1;have h2:na<=a.size:=hJ.2.2.1;have h3:2<=nb:=hJ.2.2.2.1;have h4:nb<=b.size:=hJ.2.2.2.2.1;have h5:1+(i+1)<=(a.size - na)+(b.size - nb):=hJ.2.2.2.2.2;clear hJ;dsimp only;refine have key:?P:=?pk;?main
    case main=>
     by_cases c0:mg > 1
     . refine wpS_pos c0 ?_;clear c0;generalize mg - 1=m;revert m
       exact key
     . refine wpS_neg c0 ?_;clear c0;generalize mg=m;revert m
       exact key
    case pk=>
     intro m;have hb':nb - 1 < b.size:=by lia
     rw[setMinGallop'_eq];refine wpS_bind (wpS_modify ?_);refine wpS_bind (wpS_elem hb' ?_);refine wpS_bind (wpS_gal L hk ha (hb _ hb') (by lia) (by lia) (fun p q pq q2=>sa.rk (by lia) (by lia)) fun k hk1 kt kf=>?_);rw[<-rk_at (R:=R) hb'] at kt kf;simp only [Nat.zero_add] at kt kf;dsimp only;have kt':0 < k->rk R a (k - 1)<=rk R b (nb - 1):=fun z=>bey_le (kt (k - 1) (by lia));have kf':k < na->rk R b (nb - 1)<=rk R a k:=fun z=>Int.le_of_lt (bey_gt (kf k (Nat.le_refl _) (by lia)));clear kt kf;by_cases c3:na - k > 0
     . refine wpS_pos c3 ?_;have hoA:=ho.takeA sa sb (na':=k) (by lia) h2 h4 (fun z _=>kf' z);generalize out++(a.extract k na).reverse=outA at hoA;by_cases c4:(k==0)=true
       . refine wpS_pos c4 ?_;exact wpS_pure ⟨⟨_,rfl⟩, .inl ⟨_,rfl,hoA.done sa sb (by lia) (by lia) (.inl (beq_iff_eq.mp c4))⟩⟩
       refine wpS_neg c4 ?_;have c4':k≠0:=fun z=>c4 (beq_iff_eq.mpr z);clear c4;refine wpS_bind (wpS_elem hb' ?_);have hoB:=hoA.pushB sa sb (by lia) h4 (by lia) kt';by_cases c5:(nb - 1==1)=true
       . refine wpS_pos c5 ?_;exact wpS_pure ⟨⟨_,rfl⟩, .inl ⟨_,rfl,hoB.first sa sb (by lia) (by lia) (beq_iff_eq.mp c5) c0⟩⟩
       refine wpS_neg c5 ?_;have c5':nb - 1≠1:=fun z=>c5 (beq_iff_eq.mpr z);clear c5;have hK:k - 1 < a.size:=by lia
       refine wpS_bind (wpS_elem hK ?_);refine wpS_bind (wpS_gal L hk hb (ha _ hK) (by lia) (by lia) (fun p q pq q2=>sb.rk (by lia) (by lia)) fun k2 hk2 lt lf=>?_);rw[<-rk_at (R:=R) hK] at lt lf;simp only [Nat.zero_add] at lt lf;dsimp only;have lt':0 < k2->rk R b (k2 - 1)<=rk R a (k - 1):=fun z=>Int.le_of_lt (bey_lt (lt (k2 - 1) (by lia)));have lf':k2 < nb - 1->rk R a (k - 1)<=rk R b k2:=fun z=>bey_ge (lf k2 (Nat.le_refl _) (by lia));clear lt lf;by_cases c6:nb - 1 - k2 > 0
       . refine wpS_pos c6 ?_;have hoC:=hoB.takeB sa sb (nb':=k2) (by lia) (by lia) (by lia) (fun z _=>lf' z);by_cases c7:(k2==1)=true
         . refine wpS_pos c7 ?_;exact wpS_pure ⟨⟨_,rfl⟩, .inl ⟨_,rfl,hoC.first sa sb (by lia) (by lia) (beq_iff_eq.mp c7) c0⟩⟩
         refine wpS_neg c7 ?_;have c7':k2≠1:=fun z=>c7 (beq_iff_eq.mpr z);clear c7;by_cases c8:(k2==0)=true
         . refine wpS_pos c8 ?_;exact wpS_pure ⟨⟨_,rfl⟩, .inl ⟨_,rfl,hoC.done sa sb (by lia) (by lia) (.inr (beq_iff_eq.mp c8))⟩⟩
         refine wpS_neg c8 ?_;have c8':k2≠0:=fun z=>c8 (beq_iff_eq.mpr z);clear c8;refine wpS_bind (wpS_elem hK ?_);have hoD:=hoC.pushA sa sb (by lia) (by lia) (by lia) lt';by_cases c7:(k - 1==0)=true
         . refine wpS_pos c7 ?_;exact wpS_pure ⟨⟨_,rfl⟩, .inl ⟨_,rfl,hoD.done sa sb (by lia) (by lia) (.inl (beq_iff_eq.mp c7))⟩⟩
         refine wpS_neg c7 ?_;have c7':k - 1≠0:=fun z=>c7 (beq_iff_eq.mpr z);clear c7;by_cases c8:(decide (na - k < 7) && decide (nb - 1 - k2 < 7))=true
         . refine wpS_pos c8 ?_;exact wpS_pure ⟨⟨_,rfl⟩, .inr ⟨rfl,by dsimp only;exact hoD,by dsimp only;lia,by dsimp only;lia,by dsimp only;lia,by dsimp only;lia,by dsimp only;lia⟩⟩
         . refine wpS_neg c8 ?_;exact wpS_pure ⟨⟨_,rfl⟩,rfl,by dsimp only;exact hoD,by dsimp only;lia,by dsimp only;lia,by dsimp only;lia,by dsimp only;lia,by dsimp only;lia⟩
       . refine wpS_neg c6 ?_;have k20:k2=nb - 1:=by lia
         refine wpS_bind (wpS_elem hK ?_);have hoD:=hoB.pushA sa sb (by lia) (by lia) (by lia) (fun z=>by rw[<-k20] at z ⊢;exact lt' z);by_cases c7:(k - 1==0)=true
         . refine wpS_pos c7 ?_;exact wpS_pure ⟨⟨_,rfl⟩, .inl ⟨_,rfl,hoD.done sa sb (by lia) (by lia) (.inl (beq_iff_eq.mp c7))⟩⟩
         refine wpS_neg c7 ?_;have c7':k - 1≠0:=fun z=>c7 (beq_iff_eq.mpr z);clear c7;by_cases c8:(decide (na - k < 7) && decide (nb - 1 - k2 < 7))=true
         . refine wpS_pos c8 ?_;exact wpS_pure ⟨⟨_,rfl⟩, .inr ⟨rfl,by dsimp only;exact hoD,by dsimp only;lia,by dsimp only;lia,by dsimp only;lia,by dsimp only;lia,by dsimp only;lia⟩⟩
         . refine wpS_neg c8 ?_;exact wpS_pure ⟨⟨_,rfl⟩,rfl,by dsimp only;exact hoD,by dsimp only;lia,by dsimp only;lia,by dsimp only;lia,by dsimp only;lia,by dsimp only;lia⟩
     . refine wpS_neg c3 ?_;have k0:k=na:=by lia
       rw[k0] at kt';refine wpS_bind (wpS_elem hb' ?_);have hoB:=ho.pushB sa sb (by lia) h4 (by lia) kt';by_cases c5:(nb - 1==1)=true
       . refine wpS_pos c5 ?_;exact wpS_pure ⟨⟨_,rfl⟩, .inl ⟨_,rfl,hoB.first sa sb (by lia) (by lia) (beq_iff_eq.mp c5) c0⟩⟩
       refine wpS_neg c5 ?_;have c5':nb - 1≠1:=fun z=>c5 (beq_iff_eq.mpr z);clear c5;have hK:na - 1 < a.size:=by lia
       refine wpS_bind (wpS_elem hK ?_);refine wpS_bind (wpS_gal L hk hb (ha _ hK) (by lia) (by lia) (fun p q pq q2=>sb.rk (by lia) (by lia)) fun k2 hk2 lt lf=>?_);rw[<-rk_at (R:=R) hK] at lt lf;simp only [Nat.zero_add] at lt lf;dsimp only;have lt':0 < k2->rk R b (k2 - 1)<=rk R a (na - 1):=fun z=>Int.le_of_lt (bey_lt (lt (k2 - 1) (by lia)));have lf':k2 < nb - 1->rk R a (na - 1)<=rk R b k2:=fun z=>bey_ge (lf k2 (Nat.le_refl _) (by lia));clear lt lf;by_cases c6:nb - 1 - k2 > 0
       . refine wpS_pos c6 ?_;have hoC:=hoB.takeB sa sb (nb':=k2) (by lia) (by lia) (by lia) (fun z _=>lf' z);by_cases c7:(k2==1)=true
         . refine wpS_pos c7 ?_;exact wpS_pure ⟨⟨_,rfl⟩, .inl ⟨_,rfl,hoC.first sa sb (by lia) (by lia) (beq_iff_eq.mp c7) c0⟩⟩
         refine wpS_neg c7 ?_;have c7':k2≠1:=fun z=>c7 (beq_iff_eq.mpr z);clear c7;by_cases c8:(k2==0)=true
         . refine wpS_pos c8 ?_;exact wpS_pure ⟨⟨_,rfl⟩, .inl ⟨_,rfl,hoC.done sa sb (by lia) (by lia) (.inr (beq_iff_eq.mp c8))⟩⟩
         refine wpS_neg c8 ?_;have c8':k2≠0:=fun z=>c8 (beq_iff_eq.mpr z);clear c8;refine wpS_bind (wpS_elem hK ?_);have hoD:=hoC.pushA sa sb (by lia) (by lia) (by lia) lt';by_cases c7:(na - 1==0)=true
         . refine wpS_pos c7 ?_;exact wpS_pure ⟨⟨_,rfl⟩, .inl ⟨_,rfl,hoD.done sa sb (by lia) (by lia) (.inl (beq_iff_eq.mp c7))⟩⟩
         refine wpS_neg c7 ?_;have c7':na - 1≠0:=fun z=>c7 (beq_iff_eq.mpr z);clear c7;by_cases c8:(decide (na - k < 7) && decide (nb - 1 - k2 < 7))=true
         . refine wpS_pos c8 ?_;exact wpS_pure ⟨⟨_,rfl⟩, .inr ⟨rfl,by dsimp only;exact hoD,by dsimp only;lia,by dsimp only;lia,by dsimp only;lia,by dsimp only;lia,by dsimp only;lia⟩⟩
         . refine wpS_neg c8 ?_;exact wpS_pure ⟨⟨_,rfl⟩,rfl,by dsimp only;exact hoD,by dsimp only;lia,by dsimp only;lia,by dsimp only;lia,by dsimp only;lia,by dsimp only;lia⟩
       . refine wpS_neg c6 ?_;have k20:k2=nb - 1:=by lia
         refine wpS_bind (wpS_elem hK ?_);have hoD:=hoB.pushA sa sb (by lia) (by lia) (by lia) (fun z=>by rw[<-k20] at z ⊢;exact lt' z);by_cases c7:(na - 1==0)=true
         . refine wpS_pos c7 ?_;exact wpS_pure ⟨⟨_,rfl⟩, .inl ⟨_,rfl,hoD.done sa sb (by lia) (by lia) (.inl (beq_iff_eq.mp c7))⟩⟩
         refine wpS_neg c7 ?_;have c7':na - 1≠0:=fun z=>c7 (beq_iff_eq.mpr z);clear c7;by_cases c8:(decide (na - k < 7) && decide (nb - 1 - k2 < 7))=true
         . refine wpS_pos c8 ?_;exact wpS_pure ⟨⟨_,rfl⟩, .inr ⟨rfl,by dsimp only;exact hoD,by dsimp only;lia,by dsimp only;lia,by dsimp only;lia,by dsimp only;lia,by dsimp only;lia⟩⟩
         . refine wpS_neg c8 ?_;exact wpS_pure ⟨⟨_,rfl⟩,rfl,by dsimp only;exact hoD,by dsimp only;lia,by dsimp only;lia,by dsimp only;lia,by dsimp only;lia,by dsimp only;lia⟩
end
end LSrtX
end
section
namespace LSrtX
open PySem PyProof.Rows LSrtW
section
variable {R : Keyed -> Int}
theorem rk_of{a b:Array Keyed}{i j:Nat}(h:a[i]?=b[j]?):rk R a i=rk R b j:=by unfold rk;rw[h]
theorem rk_rev{a:Array Keyed}{i j:Nat}(hj:j<=a.size)(k:Nat):rk R (mirror a i j ((j - i) / 2)) k=if i<=k/\k < j then rk R a (i+j - 1 - k) else rk R a k:=by
 have e:=getElem?_mirror_all (i:=i) (j:=j) (xs:=a) hj k;by_cases c:i<=k/\k < j
 . rw[if_pos c] at e ⊢;exact rk_of e
 . rw[if_neg c] at e ⊢;exact rk_of e
theorem rk_bub{a:Array Keyed}{i d:Nat}(ha:i < a.size)(hd:d<=i)(k:Nat):rk R (bubble a i d) k=if k=i - d then rk R a i else if i - d < k/\k<=i then rk R a (k - 1) else rk R a k:=by
 have e:=getElem?_bubble (xs:=a) (src:=i) ha d hd k;by_cases c:k=i - d
 . rw[if_pos c] at e ⊢;exact rk_of e
 . rw[if_neg c] at e ⊢;by_cases c2:i - d < k/\k<=i
   . rw[if_pos c2] at e ⊢;exact rk_of e
   . rw[if_neg c2] at e ⊢;exact rk_of e
def SegS(R:Keyed->Int)(a:Array Keyed)(i j:Nat):Prop:= ∀x y,i<=x->x<=y->y < j->rk R a x<=rk R a y
theorem SegS.more{a:Array Keyed}{lo n:Nat}(h:SegS R a lo (lo+n))(n1:1<=n)(hl:rk R a (lo+n - 1)<=rk R a (lo+n)):SegS R a lo (lo+(n+1)):=fun x y h1 h2 h3=>by
 by_cases c:y < lo+n
 . exact h x y h1 h2 c
 . have:y=lo+n:=by lia
   subst this;by_cases d:x=lo+n
   . rw[d];exact Int.le_refl _
   . exact Int.le_trans (h x (lo+n - 1) h1 (by lia) (by lia)) hl
theorem SegS.one{a:Array Keyed}{lo:Nat}:SegS R a lo (lo+1):=fun x y h1 h2 h3=>by rw[show x=y by lia];exact Int.le_refl _
structure Dx(R:Keyed->Int)(a:Array Keyed)(lo n q:Nat):Prop where
 ds: ∀i j,lo<=i->i<=j->j < lo+n->rk R a j<=rk R a i
 q1:q+1<=n
 eq: ∀i,lo+n - (q+1)<=i->i < lo+n->rk R a i=rk R a (lo+n - 1)
theorem Dx.turn{a:Array Keyed}{lo n q:Nat}(h:Dx R a lo n q)(hn:lo+n<=a.size){i:Nat}:rk R (mirror a (lo+n - (q+1)) (lo+n) ((lo+n - (lo+n - (q+1))) / 2)) i=rk R a i:=by
 rw[rk_rev hn];have:=h.q1;split
 . rename_i c;rw[h.eq _ (by lia) (by lia),h.eq i c.1 c.2]
 . rfl
theorem Dx.turned{a:Array Keyed}{lo n q:Nat}(h:Dx R a lo n q)(hn:lo+n<=a.size):Dx R (mirror a (lo+n - (q+1)) (lo+n) ((lo+n - (lo+n - (q+1))) / 2)) lo n q:=
 ⟨fun i j x y z=>by rw[h.turn hn,h.turn hn];exact h.ds i j x y z,h.q1,fun i x y=>by rw[h.turn hn,h.turn hn];exact h.eq i x y⟩
theorem Dx.more{a:Array Keyed}{lo n q:Nat}(h:Dx R a lo n q)(hl:rk R a (lo+n) < rk R a (lo+n - 1)):Dx R a lo (n+1) 0:=by
 have:=h.q1;refine⟨fun i j x y z=>?_,by lia,fun i x y=>by rw[show i=lo+(n+1) - 1 by lia]⟩;by_cases hj:j < lo+n
 . exact h.ds i j x y hj
 . have:j=lo+n:=by lia
   subst this;by_cases hi:i=lo+n
   . subst hi;exact Int.le_refl _
   . exact Int.le_trans (Int.le_of_lt hl) (h.ds i (lo+n - 1) x (by lia) (by lia))
theorem Dx.alike{a:Array Keyed}{lo n q:Nat}(h:Dx R a lo n q)(hl:rk R a (lo+n)=rk R a (lo+n - 1)):Dx R a lo (n+1) (q+1):=by
 have q1:=h.q1;refine⟨fun i j x y z=>?_,by lia,fun i x y=>?_⟩
 . by_cases hj:j < lo+n
   . exact h.ds i j x y hj
   . have:j=lo+n:=by lia
     subst this;by_cases hi:i=lo+n
     . subst hi;exact Int.le_refl _
     . rw[hl];exact h.ds i (lo+n - 1) x (by lia) (by lia)
 . rw[show lo+(n+1) - 1=lo+n by lia];by_cases hi:i=lo+n
   . rw[hi]
   . rw[hl];exact h.eq i (by lia) (by lia)
theorem Dx.up{a:Array Keyed}{lo n q:Nat}(h:Dx R a lo n q)(hn:lo+n<=a.size):SegS R (mirror a lo (lo+n) ((lo+n - lo) / 2)) lo (lo+n):=fun x y h1 h2 h3=>by
 rw[rk_rev hn,rk_rev hn,if_pos ⟨by lia,by lia⟩,if_pos ⟨by lia,by lia⟩];exact h.ds _ _ (by lia) (by lia) (by lia)
end
structure Wx(κ:SortKind)(a₀ ar:Array Keyed)(lo:Nat)(p:Array (Nat × Nat × Nat))(st:SortSt):Prop where
 pm:(arrOf st).Perm a₀
 kind:kindOf st=κ
 failed:failedOf st=none
 pend:pendingOf st=p
 keep: ∀i,i < lo->(arrOf st)[i]?=ar[i]?
section
variable {prog : Program} {w : World} {A : Around} {E : Value -> Shared -> Prop} {s : Shared} {κ : SortKind} {R : Keyed -> Int} {D : Keyed -> Prop} {a₀ ar : Array Keyed} {p : Array (Nat × Nat × Nat)} {lo : Nat}
theorem Wx.size{st:SortSt}(h:Wx κ a₀ ar lo p st):(arrOf st).size=a₀.size:=h.pm.size_eq
theorem Wx.dk{st:SortSt}(h:Wx κ a₀ ar lo p st)(hD: ∀x∈a₀.toList,D x):Dk D (arrOf st):=fun i hi=>hD _ ((Array.perm_iff_toList_perm.mp h.pm).mem_iff.mp (mem_at hi))
theorem Wx.lt{st:SortSt}(h:Wx κ a₀ ar lo p st)(L:LtOk prog w A E s κ R D)(hD: ∀x∈a₀.toList,D x){i j:Nat}{Q:Option Bool->SortSt->Prop}(hi:i < a₀.size)(hj:j < a₀.size)(q:Q (some (decide (rk R (arrOf st) i < rk R (arrOf st) j))) st):wpS (model prog w) A E s (ltAt' i j) Q st:=by
 have hi':i < (arrOf st).size:=by rw[h.size];exact hi
 have hj':j < (arrOf st).size:=by rw[h.size];exact hj
 rw[ltAt'_eq];refine wpS_bind (wpS_get ?_);rw[rk_at hi',rk_at hj'] at q;exact wpS_bind (wpS_elem hi' (wpS_bind (wpS_elem hj' (L _ _ _ _ h.kind (h.dk hD _ hi') (h.dk hD _ hj') q))))
theorem Wx.rev{st:SortSt}(h:Wx κ a₀ ar lo p st){i j:Nat}{Q:Unit->SortSt->Prop}(hi:lo<=i)(hj:j<=a₀.size)(q: ∀st',Wx κ a₀ ar lo p st'->arrOf st'=mirror (arrOf st) i j ((j - i) / 2)->Q () st'):wpS (model prog w) A E s (reverseSlice' i j) Q st:=by
 rw[reverseSlice'_eq];refine wpS_modify (q _ ⟨(mirror_perm _ _ _ _).trans h.pm,h.kind,h.failed,h.pend,fun k hk=>?_⟩ rfl);show(mirror (arrOf st) i j ((j - i) / 2))[k]?=_;rw[getElem?_mirror_all (by rw[h.size];exact hj),if_neg (by lia)];exact h.keep k hk
theorem Wx.mov{st:SortSt}(h:Wx κ a₀ ar lo p st){i j:Nat}{Q:Unit->SortSt->Prop}(hj:lo<=j)(hij:j<=i)(hi:i < a₀.size)(q: ∀st',Wx κ a₀ ar lo p st'->arrOf st'=bubble (arrOf st) i (i - j)->Q () st'):wpS (model prog w) A E s (moveDown' i j) Q st:=by
 rw[moveDown'_eq];refine wpS_modify (q _ ⟨(bubble_perm _ _ _).trans h.pm,h.kind,h.failed,h.pend,fun k hk=>?_⟩ rfl);show(bubble (arrOf st) i (i - j))[k]?=_;rw[getElem?_bubble (by rw[h.size];exact hi) _ (by lia),if_neg (by lia),if_neg (by lia)];exact h.keep k hk
theorem wpS_runX(L:LtOk prog w A E s κ R D)(hD: ∀x∈a₀.toList,D x){st:SortSt}{nrem:Nat}{Q:Option Nat->SortSt->Prop}(hn:lo+nrem<=a₀.size)(h1:1<=nrem)(hW:Wx κ a₀ ar lo p st)
  (h: ∀m st',Wx κ a₀ ar lo p st'->1<=m->m<=nrem->SegS R (arrOf st') lo (lo+m)->Q (some m) st'):wpS (model prog w) A E s (countRun' lo nrem) Q st:=by
 rw[countRun'_eq];dsimp only;refine wpS_bind (wpS_mono (wpS_forRange (I:=fun i c st'=>st'=st/\c.1=none/\c.2=i/\SegS R (arrOf st) lo (lo+i)) (Q:=fun c st'=>st'=st/\c.1=none/\1<=c.2/\c.2<=nrem/\SegS R (arrOf st) lo (lo+c.2)/\(c.2 < nrem->rk R (arrOf st) (lo+c.2) < rk R (arrOf st) (lo+c.2 - 1))) ?_ ?_ ⟨rfl,rfl,rfl,SegS.one⟩) ?_)
 . rintro x ⟨r,n⟩ st' hx1 hx2 ⟨rfl,e1,e2,e3⟩
   dsimp only at e1 e2 e3 ⊢;subst e1;subst e2;refine wpS_bind (hW.lt L hD (by lia) (by lia) ?_);cases bw:decide (rk R (arrOf st') (lo+n) < rk R (arrOf st') (lo+n - 1)) with
   | true=>exact wpS_pure ⟨rfl,rfl,by dsimp only;lia,by dsimp only;lia,by dsimp only;exact e3,fun _=>by dsimp only;exact of_decide_eq_true bw⟩
   | false=>exact wpS_pure ⟨rfl,rfl,rfl,e3.more (by lia) (Int.not_lt.mp (of_decide_eq_false bw))⟩
 . rintro⟨r,n⟩ st' ⟨f0,f1,f2,f3⟩
   dsimp only at f1 f2 f3;rw[<-f2] at f3;have f2:n=nrem:=by lia
   subst f2;exact⟨f0,f1,by dsimp only;lia,Nat.le_refl _,f3,fun z=>absurd z (Nat.lt_irrefl _)⟩
 . rintro⟨r,n⟩ st' ⟨rfl,e1,e2,e3,sg,lt1⟩
   dsimp only at e1 e2 e3 sg lt1 ⊢;subst e1;dsimp only;by_cases c1:(n==nrem)=true
   . rw[if_pos c1];exact wpS_pure (h _ _ hW e2 e3 sg)
   rw[if_neg c1];have c1':n≠nrem:=fun z=>c1 (beq_iff_eq.mpr z);clear c1;have lt1:=lt1 (by lia);have sz:=hW.size;by_cases c2:n > 1
   . rw[if_pos c2];refine wpS_bind (hW.lt L hD (by lia) (by lia) ?_);cases bw:decide (rk R (arrOf st') lo < rk R (arrOf st') (lo+n - 1)) with
     | true=>exact wpS_pure (h _ _ hW e2 e3 sg)
     | false=>
      have bw:=of_decide_eq_false bw;dsimp only;rw[if_neg Bool.false_ne_true];refine wpS_bind (hW.rev (by lia) (by lia) fun st1 w1 ea=>?_);refine wpS_bind (wpS_lift (wpAny_rule ⟨rfl,?_⟩));have al: ∀i,lo<=i->i < lo+n->rk R (arrOf st') i=rk R (arrOf st') (lo+n - 1):=fun i i1 i2=>by
       have:=sg lo i (by lia) i1 i2;have:=sg i (lo+n - 1) i1 (by lia) (by lia);lia
      have ar1: ∀i,lo<=i->i < lo+n->rk R (arrOf st1) i=rk R (arrOf st') (lo+n - 1):=fun i i1 i2=>by
       rw[ea,rk_rev (by lia),if_pos ⟨i1,i2⟩];exact al _ (by lia) (by lia)
      have ar2:rk R (arrOf st1) (lo+n)=rk R (arrOf st') (lo+n):=by rw[ea,rk_rev (by lia),if_neg (by lia)]
      have dx0:Dx R (arrOf st1) lo (n+1) 0:=Dx.more (q:=n - 1) ⟨fun i j x y z=>by rw[ar1 i x (by lia),ar1 j (by lia) z];exact Int.le_refl _,by lia,fun i x y=>by rw[ar1 i (by lia) y,ar1 (lo+n - 1) (by lia) (by lia)]⟩ (by rw[ar2,ar1 (lo+n - 1) (by lia) (by lia)];exact lt1);refine wpS_bind (wpS_mono (wpS_forRange (I:=fun i c st'=>Wx κ a₀ ar lo p st'/\c.1=none/\c.2.1=i/\Dx R (arrOf st') lo c.2.1 c.2.2) (Q:=fun c st'=>Wx κ a₀ ar lo p st'/\c.1=none/\c.2.1<=nrem/\Dx R (arrOf st') lo c.2.1 c.2.2) ?_ ?_ ⟨w1,rfl,rfl,(by dsimp only;exact dx0)⟩) ?_)
      . rintro x ⟨r,m,q⟩ st' hx1 hx2 ⟨w',e1,e2,dx⟩
        dsimp only at e1 e2 dx ⊢;subst e1;subst e2;have q1:=dx.q1;have sz:=w'.size;refine wpS_bind (w'.lt L hD (by lia) (by lia) ?_);cases bw:decide (rk R (arrOf st') (lo+m) < rk R (arrOf st') (lo+m - 1)) with
        | true=>
         have bw:=of_decide_eq_true bw;dsimp only;rw[if_pos rfl];by_cases c:q > 0
         . rw[if_pos c];exact wpS_bind (w'.rev (by lia) (by lia) fun st2 w2 ea=>wpS_pure ⟨w2,rfl,rfl,by dsimp only;rw[ea];exact(dx.turned (by lia)).more (by rw[dx.turn (by lia),dx.turn (by lia)];exact bw)⟩)
         . rw[if_neg c];exact wpS_pure ⟨w',rfl,rfl,by dsimp only;exact dx.more bw⟩
        | false=>
         have bw:=of_decide_eq_false bw;dsimp only;rw[if_neg Bool.false_ne_true];refine wpS_bind (w'.lt L hD (by lia) (by lia) ?_);cases bw2:decide (rk R (arrOf st') (lo+m - 1) < rk R (arrOf st') (lo+m)) with
         | true=>exact wpS_pure ⟨w',rfl,by dsimp only;lia,by dsimp only;exact dx⟩
         | false=>exact wpS_pure ⟨w',rfl,rfl,by dsimp only;exact dx.alike (by have:=of_decide_eq_false bw2;lia)⟩
      . rintro⟨r,m,q⟩ st' ⟨w',e1,e2,dx⟩
        dsimp only at e2;exact⟨w',e1,by dsimp only;lia,dx⟩
      . rintro⟨r,m,q⟩ st' ⟨w2,e1,e3,dx⟩
        dsimp only at e1 e3 dx ⊢;subst e1;have q1:=dx.q1;have sz:=w2.size;by_cases c:q > 0
        . rw[if_pos c];refine wpS_bind (w2.rev (by lia) (by lia) fun st2 w3 ea=>?_);have dx2:=dx.turned (by lia);rw[<-ea] at dx2;have sz2:=w3.size;refine wpS_bind (w3.rev (by lia) (by lia) fun st3 w4 ea2=>?_);have sg:=dx2.up (by lia);rw[<-ea2] at sg;refine wpS_bind (wpS_mono (wpS_forRange (I:=fun i c st'=>st'=st3/\c.1=none/\c.2=i/\SegS R (arrOf st3) lo (lo+i)) (Q:=fun c st'=>st'=st3/\c.1=none/\1<=c.2/\c.2<=nrem/\SegS R (arrOf st3) lo (lo+c.2)/\(c.2 < nrem->rk R (arrOf st3) (lo+c.2) < rk R (arrOf st3) (lo+c.2 - 1))) ?_ ?_ ⟨rfl,rfl,rfl,sg⟩) ?_)
          . rintro x ⟨r,n⟩ st' hx1 hx2 ⟨rfl,e1,e2,e3⟩
            dsimp only at e1 e2 e3 ⊢;subst e1;subst e2;refine wpS_bind (w4.lt L hD (by lia) (by lia) ?_);cases bw:decide (rk R (arrOf st') (lo+n) < rk R (arrOf st') (lo+n - 1)) with
            | true=>exact wpS_pure ⟨rfl,rfl,by dsimp only;lia,by dsimp only;lia,by dsimp only;exact e3,fun _=>by dsimp only;exact of_decide_eq_true bw⟩
            | false=>exact wpS_pure ⟨rfl,rfl,rfl,e3.more (by lia) (Int.not_lt.mp (of_decide_eq_false bw))⟩
          . rintro⟨r,n⟩ st' ⟨f0,f1,f2,f3⟩
            dsimp only at f1 f2 f3;rw[<-f2] at f3;have f2:n=nrem:=by lia
            subst f2;exact⟨f0,f1,by dsimp only;lia,Nat.le_refl _,f3,fun z=>absurd z (Nat.lt_irrefl _)⟩
          . rintro⟨r,n⟩ st' ⟨rfl,e1,e2,e3,e4,e5⟩
            dsimp only at e1 e2 e3 e4 ⊢;subst e1;exact wpS_pure (h _ _ w4 e2 e3 e4)
        . rw[if_neg c];refine wpS_bind (w2.rev (by lia) (by lia) fun st3 w4 ea2=>?_);have sg:=dx.up (by lia);rw[<-ea2] at sg;refine wpS_bind (wpS_mono (wpS_forRange (I:=fun i c st'=>st'=st3/\c.1=none/\c.2=i/\SegS R (arrOf st3) lo (lo+i)) (Q:=fun c st'=>st'=st3/\c.1=none/\1<=c.2/\c.2<=nrem/\SegS R (arrOf st3) lo (lo+c.2)/\(c.2 < nrem->rk R (arrOf st3) (lo+c.2) < rk R (arrOf st3) (lo+c.2 - 1))) ?_ ?_ ⟨rfl,rfl,rfl,sg⟩) ?_)
          . rintro x ⟨r,n⟩ st' hx1 hx2 ⟨rfl,e1,e2,e3⟩
            dsimp only at e1 e2 e3 ⊢;subst e1;subst e2;refine wpS_bind (w4.lt L hD (by lia) (by lia) ?_);cases bw:decide (rk R (arrOf st') (lo+n) < rk R (arrOf st') (lo+n - 1)) with
            | true=>exact wpS_pure ⟨rfl,rfl,by dsimp only;lia,by dsimp only;lia,by dsimp only;exact e3,fun _=>by dsimp only;exact of_decide_eq_true bw⟩
            | false=>exact wpS_pure ⟨rfl,rfl,rfl,e3.more (by lia) (Int.not_lt.mp (of_decide_eq_false bw))⟩
          . rintro⟨r,n⟩ st' ⟨f0,f1,f2,f3⟩
            dsimp only at f1 f2 f3;rw[<-f2] at f3;have f2:n=nrem:=by lia
            subst f2;exact⟨f0,f1,by dsimp only;lia,Nat.le_refl _,f3,fun z=>absurd z (Nat.lt_irrefl _)⟩
          . rintro⟨r,n⟩ st' ⟨rfl,e1,e2,e3,e4,e5⟩
            dsimp only at e1 e2 e3 e4 ⊢;subst e1;exact wpS_pure (h _ _ w4 e2 e3 e4)
   . rw[if_neg c2];refine wpS_bind (wpS_lift (wpAny_rule ⟨rfl,?_⟩));have n1:n=1:=by lia
     subst n1;have dx0:Dx R (arrOf st') lo (1+1) 0:=Dx.more (q:=0) ⟨fun i j x y z=>by rw[show i=j by lia];exact Int.le_refl _,by lia,fun i x y=>by rw[show i=lo+1 - 1 by lia]⟩ lt1;refine wpS_bind (wpS_mono (wpS_forRange (I:=fun i c st'=>Wx κ a₀ ar lo p st'/\c.1=none/\c.2.1=i/\Dx R (arrOf st') lo c.2.1 c.2.2) (Q:=fun c st'=>Wx κ a₀ ar lo p st'/\c.1=none/\c.2.1<=nrem/\Dx R (arrOf st') lo c.2.1 c.2.2) ?_ ?_ ⟨hW,rfl,rfl,(by dsimp only;exact dx0)⟩) ?_)
     . rintro x ⟨r,m,q⟩ st' hx1 hx2 ⟨w',e1,e2,dx⟩
       dsimp only at e1 e2 dx ⊢;subst e1;subst e2;have q1:=dx.q1;have sz:=w'.size;refine wpS_bind (w'.lt L hD (by lia) (by lia) ?_);cases bw:decide (rk R (arrOf st') (lo+m) < rk R (arrOf st') (lo+m - 1)) with
       | true=>
        have bw:=of_decide_eq_true bw;dsimp only;rw[if_pos rfl];by_cases c:q > 0
        . rw[if_pos c];exact wpS_bind (w'.rev (by lia) (by lia) fun st2 w2 ea=>wpS_pure ⟨w2,rfl,rfl,by dsimp only;rw[ea];exact(dx.turned (by lia)).more (by rw[dx.turn (by lia),dx.turn (by lia)];exact bw)⟩)
        . rw[if_neg c];exact wpS_pure ⟨w',rfl,rfl,by dsimp only;exact dx.more bw⟩
       | false=>
        have bw:=of_decide_eq_false bw;dsimp only;rw[if_neg Bool.false_ne_true];refine wpS_bind (w'.lt L hD (by lia) (by lia) ?_);cases bw2:decide (rk R (arrOf st') (lo+m - 1) < rk R (arrOf st') (lo+m)) with
        | true=>exact wpS_pure ⟨w',rfl,by dsimp only;lia,by dsimp only;exact dx⟩
        | false=>exact wpS_pure ⟨w',rfl,rfl,by dsimp only;exact dx.alike (by have:=of_decide_eq_false bw2;lia)⟩
     . rintro⟨r,m,q⟩ st' ⟨w',e1,e2,dx⟩
       dsimp only at e2;exact⟨w',e1,by dsimp only;lia,dx⟩
     . rintro⟨r,m,q⟩ st' ⟨w2,e1,e3,dx⟩
       dsimp only at e1 e3 dx ⊢;subst e1;have q1:=dx.q1;have sz:=w2.size;by_cases c:q > 0
       . rw[if_pos c];refine wpS_bind (w2.rev (by lia) (by lia) fun st2 w3 ea=>?_);have dx2:=dx.turned (by lia);rw[<-ea] at dx2;have sz2:=w3.size;refine wpS_bind (w3.rev (by lia) (by lia) fun st3 w4 ea2=>?_);have sg:=dx2.up (by lia);rw[<-ea2] at sg;refine wpS_bind (wpS_mono (wpS_forRange (I:=fun i c st'=>st'=st3/\c.1=none/\c.2=i/\SegS R (arrOf st3) lo (lo+i)) (Q:=fun c st'=>st'=st3/\c.1=none/\1<=c.2/\c.2<=nrem/\SegS R (arrOf st3) lo (lo+c.2)/\(c.2 < nrem->rk R (arrOf st3) (lo+c.2) < rk R (arrOf st3) (lo+c.2 - 1))) ?_ ?_ ⟨rfl,rfl,rfl,sg⟩) ?_)
         . rintro x ⟨r,n⟩ st' hx1 hx2 ⟨rfl,e1,e2,e3⟩
           dsimp only at e1 e2 e3 ⊢;subst e1;subst e2;refine wpS_bind (w4.lt L hD (by lia) (by lia) ?_);cases bw:decide (rk R (arrOf st') (lo+n) < rk R (arrOf st') (lo+n - 1)) with
           | true=>exact wpS_pure ⟨rfl,rfl,by dsimp only;lia,by dsimp only;lia,by dsimp only;exact e3,fun _=>by dsimp only;exact of_decide_eq_true bw⟩
           | false=>exact wpS_pure ⟨rfl,rfl,rfl,e3.more (by lia) (Int.not_lt.mp (of_decide_eq_false bw))⟩
         . rintro⟨r,n⟩ st' ⟨f0,f1,f2,f3⟩
           dsimp only at f1 f2 f3;rw[<-f2] at f3;have f2:n=nrem:=by lia
           subst f2;exact⟨f0,f1,by dsimp only;lia,Nat.le_refl _,f3,fun z=>absurd z (Nat.lt_irrefl _)⟩
         . rintro⟨r,n⟩ st' ⟨rfl,e1,e2,e3,e4,e5⟩
           dsimp only at e1 e2 e3 e4 ⊢;subst e1;exact wpS_pure (h _ _ w4 e2 e3 e4)
       . rw[if_neg c];refine wpS_bind (w2.rev (by lia) (by lia) fun st3 w4 ea2=>?_);have sg:=dx.up (by lia);rw[<-ea2] at sg;refine wpS_bind (wpS_mono (wpS_forRange (I:=fun i c st'=>st'=st3/\c.1=none/\c.2=i/\SegS R (arrOf st3) lo (lo+i)) (Q:=fun c st'=>st'=st3/\c.1=none/\1<=c.2/\c.2<=nrem/\SegS R (arrOf st3) lo (lo+c.2)/\(c.2 < nrem->rk R (arrOf st3) (lo+c.2) < rk R (arrOf st3) (lo+c.2 - 1))) ?_ ?_ ⟨rfl,rfl,rfl,sg⟩) ?_)
         . rintro x ⟨r,n⟩ st' hx1 hx2 ⟨rfl,e1,e2,e3⟩
           dsimp only at e1 e2 e3 ⊢;subst e1;subst e2;refine wpS_bind (w4.lt L hD (by lia) (by lia) ?_);cases bw:decide (rk R (arrOf st') (lo+n) < rk R (arrOf st') (lo+n - 1)) with
           | true=>exact wpS_pure ⟨rfl,rfl,by dsimp only;lia,by dsimp only;lia,by dsimp only;exact e3,fun _=>by dsimp only;exact of_decide_eq_true bw⟩
           | false=>exact wpS_pure ⟨rfl,rfl,rfl,e3.more (by lia) (Int.not_lt.mp (of_decide_eq_false bw))⟩
         . rintro⟨r,n⟩ st' ⟨f0,f1,f2,f3⟩
           dsimp only at f1 f2 f3;rw[<-f2] at f3;have f2:n=nrem:=by lia
           subst f2;exact⟨f0,f1,by dsimp only;lia,Nat.le_refl _,f3,fun z=>absurd z (Nat.lt_irrefl _)⟩
         . rintro⟨r,n⟩ st' ⟨rfl,e1,e2,e3,e4,e5⟩
           dsimp only at e1 e2 e3 e4 ⊢;subst e1;exact wpS_pure (h _ _ w4 e2 e3 e4)
theorem wpS_binX(L:LtOk prog w A E s κ R D)(hD: ∀x∈a₀.toList,D x){st:SortSt}{n ok:Nat}{Q:Bool->SortSt->Prop}(hn:lo+n<=a₀.size)(o1:1<=ok)(o2:ok<=n)(hW:Wx κ a₀ ar lo p st)(sg:SegS R (arrOf st) lo (lo+ok))
  (h: ∀st',Wx κ a₀ ar lo p st'->SegS R (arrOf st') lo (lo+n)->Q true st'):wpS (model prog w) A E s (binarySort' lo n ok) Q st:=by
 rw[binarySort'_eq];refine wpS_bind (wpS_mono (wpS_forRange (I:=fun k c st'=>c=(none,())/\Wx κ a₀ ar lo p st'/\SegS R (arrOf st') lo (lo+k)) (Q:=fun c st'=>c=(none,())/\Wx κ a₀ ar lo p st'/\SegS R (arrOf st') lo (lo+n)) ?step ?fin ⟨rfl,hW,by rw[Nat.max_eq_left o1];exact sg⟩) ?post)
 case fin=>
  rintro c st' ⟨e,w',s'⟩
  exact⟨e,w',by rw[show max (max ok 1) n=n by lia] at s';exact s'⟩
 case post=>
  rintro c st' ⟨rfl,w',s'⟩
  exact wpS_pure (h st' w' s')
 case step=>
  rintro k c st' hak hkn ⟨rfl,w',s'⟩
  have sz:=w'.size;have k1:1<=k:=by lia
  refine wpS_bind (wpS_mono (wpS_forRange (I:=fun x c st''=>st''=st'/\c.1=none/\c.2.1<=c.2.2/\c.2.2<=k/\(c.2.2 - c.2.1)+x<=k/\(∀i,i < c.2.1->rk R (arrOf st') (lo+i)<=rk R (arrOf st') (lo+k))/\(∀i,c.2.2<=i->i < k->rk R (arrOf st') (lo+k)<=rk R (arrOf st') (lo+i)))
   (Q:=fun c st''=>st''=st'/\c.1=none/\c.2.1<=k/\(∀i,i < c.2.1->rk R (arrOf st') (lo+i)<=rk R (arrOf st') (lo+k))/\(∀i,c.2.1<=i->i < k->rk R (arrOf st') (lo+k)<=rk R (arrOf st') (lo+i))) ?istep ?ifin ⟨rfl,rfl,by dsimp only;lia,by dsimp only;lia,by dsimp only;lia,fun i hi=>by dsimp only at hi;lia,fun i h1 h2=>by dsimp only at h1;lia⟩) ?ipost)
  case ifin=>
   rintro⟨r,l,u⟩ st'' ⟨e,e1,e2,e3,e4,e5,e6⟩
   dsimp only at e1 e2 e3 e4 e5 e6;have:l=u:=by lia
   subst this;exact⟨e,e1,e3,e5,e6⟩
  case istep=>
   rintro x ⟨r,l,u⟩ st'' _ hxk ⟨rfl,h1,h2,h3,h4,h5,h6⟩
   dsimp only at h1 h2 h3 h4 h5 h6 ⊢;subst h1;by_cases hge:l>=u
   . rw[if_pos hge];have:l=u:=by lia
     subst this;exact wpS_pure ⟨rfl,rfl,h3,h5,h6⟩
   . rw[if_neg hge];refine wpS_bind (w'.lt L hD (by lia) (by lia) ?_);cases bw:decide (rk R (arrOf st'') (lo+k) < rk R (arrOf st'') (lo+(l+u) / 2)) with
     | true=>
      have bw:=of_decide_eq_true bw;exact wpS_pure ⟨rfl,rfl,by dsimp only;lia,by dsimp only;lia,by dsimp only;lia,h5,fun i i1 i2=>by
       dsimp only at i1;have:=s' (lo+(l+u) / 2) (lo+i) (by lia) (by lia) (by lia);lia⟩
     | false=>
      have bw:=of_decide_eq_false bw;exact wpS_pure ⟨rfl,rfl,by dsimp only;lia,by dsimp only;lia,by dsimp only;lia,fun i i1=>by
       dsimp only at i1;have:=s' (lo+i) (lo+(l+u) / 2) (by lia) (by lia) (by lia);lia,h6⟩
  case ipost=>
   rintro⟨r,l,u⟩ st'' ⟨rfl,h1,h2,h5,h6⟩
   dsimp only at h1 h2 h5 h6 ⊢;subst h1;refine wpS_bind (w'.mov (i:=lo+k) (j:=lo+l) (by lia) (by lia) (by lia) fun st2 w2 ea=>wpS_pure ⟨rfl,w2,?_⟩);intro x y x1 x2 x3;have bu:=fun z=>rk_bub (R:=R) (a:=arrOf st'') (i:=lo+k) (d:=lo+k - (lo+l)) (by lia) (by lia) z;rw[ea,bu x,bu y];have e0:lo+k - (lo+k - (lo+l))=lo+l:=by lia
   rw[e0];by_cases a1:x=lo+l
   . rw[if_pos a1];by_cases b1:y=lo+l
     . rw[if_pos b1];exact Int.le_refl _
     . rw[if_neg b1,if_pos ⟨by lia,by lia⟩];have:=h6 (y - 1 - lo) (by lia) (by lia);rw[show lo+(y - 1 - lo)=y - 1 by lia] at this;exact this
   . rw[if_neg a1];by_cases a2:lo+l < x/\x<=lo+k
     . rw[if_pos a2,if_neg (by lia),if_pos ⟨by lia,by lia⟩];exact s' _ _ (by lia) (by lia) (by lia)
     . rw[if_neg a2];by_cases b1:y=lo+l
       . rw[if_pos b1];have:=h5 (x - lo) (by lia);rw[show lo+(x - lo)=x by lia] at this;exact this
       . rw[if_neg b1];by_cases b2:lo+l < y/\y<=lo+k
         . rw[if_pos b2];exact s' _ _ (by lia) (by lia) (by lia)
         . rw[if_neg b2];exact s' _ _ (by lia) (by lia) (by lia)
end
end LSrtX
end
section
namespace LSrtX
open PySem PyProof.Rows LSrtW
section
variable {R : Keyed -> Int}
theorem put_at{sa:Nat}: ∀{L:List Keyed} {n:Nat} {xs:Array Keyed} (k:Nat),sa+n+L.length<=xs.size->((L.zipIdx n).foldl (fun a (p,j)=>a.setIfInBounds (sa+j) p) xs)[k]?=if sa+n<=k/\k < sa+n+L.length then L[k - sa - n]? else xs[k]?
 | [],n,xs,k,_=>by
  rw[if_neg (by rw[List.length_nil];lia)];rfl
 | x::L,n,xs,k,h=>by
  rw[List.length_cons] at h ⊢;rw[List.zipIdx_cons,List.foldl_cons];rw[put_at (sa:=sa) (L:=L) (n:=n+1) k (by simp;lia)];by_cases c:sa+n<=k/\k < sa+n+(L.length+1)
  . rw[if_pos c];by_cases d:k=sa+n
    . rw[if_neg (by lia),Array.getElem?_setIfInBounds,if_pos d.symm,if_pos (by lia),show k - sa - n=0 by lia];rfl
    . rw[if_pos (by lia),show k - sa - n=(k - sa - (n+1))+1 by lia,List.getElem?_cons_succ]
  . rw[if_neg c,if_neg (by lia),Array.getElem?_setIfInBounds,if_neg (by lia)]
theorem put_size{sa:Nat}: ∀{l:List (Keyed × Nat)} {xs:Array Keyed},(l.foldl (fun a (p,j)=>a.setIfInBounds (sa+j) p) xs).size=xs.size
 | [],xs=>rfl
 | (x,j)::l,xs=>by
  rw[List.foldl_cons,put_size];simp
structure Put(a m a':Array Keyed)(sa e:Nat):Prop where
 at_: ∀k,a'[k]?=if sa<=k/\k < e then m[k - sa]? else a[k]?
 sz:a'.size=a.size
theorem put_ok{a m:Array Keyed}{sa:Nat}(h:sa+m.size<=a.size):Put a m (m.toList.zipIdx.foldl (fun a (p,j)=>a.setIfInBounds (sa+j) p) a) sa (sa+m.size):=by
 refine⟨fun k=>?_,put_size⟩;have:=put_at (sa:=sa) (L:=m.toList) (n:=0) (xs:=a) k (by rw[Array.length_toList];exact h);rw[Array.length_toList,Nat.add_zero,Nat.sub_zero,Array.getElem?_toList] at this;exact this
theorem Put.list{a m a':Array Keyed}{sa e:Nat}(h:Put a m a' sa e)(he:e=sa+m.size)(hs:e<=a.size):a'.toList=a.toList.take sa++(m.toList++a.toList.drop e):=by
 apply List.ext_getElem?;intro k;rw[Array.getElem?_toList,h.at_ k];have l1:(a.toList.take sa).length=sa:=by rw[List.length_take,Array.length_toList];lia
 by_cases c:k < sa
 . rw[if_neg (by lia),List.getElem?_append_left (by lia),List.getElem?_take_of_lt c,Array.getElem?_toList]
 . rw[List.getElem?_append_right (by lia),l1];by_cases d:k < e
   . rw[if_pos (by lia),List.getElem?_append_left (by rw[Array.length_toList];lia),Array.getElem?_toList]
   . rw[if_neg (by lia),List.getElem?_append_right (by rw[Array.length_toList];lia),Array.length_toList,List.getElem?_drop,Array.getElem?_toList];congr 1
     lia
def ChS(R:Keyed->Int)(a:Array Keyed):Nat->List (Nat × Nat × Nat)->Nat->Prop
 | s,[],e=>s=e
 | s,x::r,e=>x.1=s/\1<=x.2.1/\SegS R a x.1 (x.1+x.2.1)/\ChS R a (x.1+x.2.1) r e
theorem ChS.ch{a:Array Keyed}: ∀{s e:Nat} {l:List (Nat × Nat × Nat)},ChS R a s l e->Ch s l e
 | s,e,[],h=>h
 | s,e,x::r,h=>⟨h.1,h.2.1,ChS.ch h.2.2.2⟩
theorem ChS.same{a a':Array Keyed}: ∀{s e:Nat} {l:List (Nat × Nat × Nat)},ChS R a s l e->(∀j,s<=j->j < e->rk R a' j=rk R a j)->ChS R a' s l e
 | s,e,[],h,_=>h
 | s,e,x::r,h,hr=>by
  have le:=h.2.2.2.ch.le;have hs:=h.1;refine⟨h.1,h.2.1,fun y z y1 y2 y3=>?_,ChS.same h.2.2.2 fun j j1 j2=>hr j (by lia) j2⟩;rw[hr y (by lia) (by lia),hr z (by lia) (by lia)];exact h.2.2.1 y z y1 y2 y3
theorem ChS.lb{a:Array Keyed}: ∀{s e i:Nat} {l:List (Nat × Nat × Nat)} {x:Nat × Nat × Nat},ChS R a s l e->l[i]?=some x->s<=x.1/\SegS R a x.1 (x.1+x.2.1)
 | s,e,i,[],x,_,h=>by simp at h
 | s,e,0,z::r,x,h,h1=>by
  cases (show z=x by simpa using h1);exact⟨Nat.le_of_eq h.1.symm,h.2.2.1⟩
 | s,e,i+1,z::r,x,h,h1=>by
  have:=ChS.lb h.2.2.2 (show r[i]?=some x by simpa using h1);exact⟨by have:=this.1;have:=h.1;lia,this.2⟩
theorem ChS.merge{a a':Array Keyed}{v:Nat}: ∀{s e i:Nat} {l:List (Nat × Nat × Nat)} {x y:Nat × Nat × Nat},ChS R a s l e->l[i]?=some x->l[i+1]?=some y->SegS R a' x.1 (x.1+(x.2.1+y.2.1))->(∀j,(j < x.1\/x.1+(x.2.1+y.2.1)<=j)->rk R a' j=rk R a j)->ChS R a' s ((l.set i (x.1,x.2.1+y.2.1,v)).eraseIdx (i+1)) e
 | s,e,i,[],x,y,h,h1,_,_,_=>by simp at h1
 | s,e,0,[z],x,y,h,h1,h2,_,_=>by simp at h2
 | s,e,0,z::z2::r,x,y,h,h1,h2,sg,hr=>by
  cases (show z=x by simpa using h1);cases (show z2=y by simpa using h2);show z.1=s/\1<=z.2.1+z2.2.1/\SegS R a' z.1 (z.1+(z.2.1+z2.2.1))/\ChS R a' (z.1+(z.2.1+z2.2.1)) r e;refine⟨h.1,by have:=h.2.1;lia,sg,?_⟩;have:=h.2.2.2.2.2.2;rw[h.2.2.2.1] at this;rw[<-Nat.add_assoc];exact this.same fun j j1 _=>hr j (.inr (by lia))
 | s,e,i+1,z::r,x,y,h,h1,h2,sg,hr=>by
  have lb:=ChS.lb h.2.2.2 (show r[i]?=some x by simpa using h1);refine⟨h.1,h.2.1,fun p q p1 p2 p3=>?_,ChS.merge h.2.2.2 (by simpa using h1) (by simpa using h2) sg hr⟩;rw[hr p (.inl (by lia)),hr q (.inl (by lia))];exact h.2.2.1 p q p1 p2 p3
theorem ChS.push{a:Array Keyed}{n q:Nat}(hn:1<=n): ∀{s e:Nat} {l:List (Nat × Nat × Nat)},ChS R a s l e->SegS R a e (e+n)->ChS R a s (l++ [(e,n,q)]) (e+n)
 | s,e,[],h,sg=>⟨h.symm,hn,sg,rfl⟩
 | s,e,x::r,h,sg=>⟨h.1,h.2.1,h.2.2.1,ChS.push hn h.2.2.2 sg⟩
theorem ChS.mod{a:Array Keyed}{f:Nat × Nat × Nat->Nat × Nat × Nat}(hf: ∀x,(f x).1=x.1/\(f x).2.1=x.2.1): ∀{s e k:Nat} {l:List (Nat × Nat × Nat)},ChS R a s l e->ChS R a s (l.modify k f) e
 | s,e,k,[],h=>by simpa using h
 | s,e,0,x::r,h=>by
  show(f x).1=s/\1<=(f x).2.1/\SegS R a (f x).1 ((f x).1+(f x).2.1)/\ChS R a ((f x).1+(f x).2.1) r e;rw[(hf x).1,(hf x).2];exact h
 | s,e,k+1,x::r,h=>⟨h.1,h.2.1,h.2.2.1,ChS.mod hf h.2.2.2⟩
theorem ChS.len{a:Array Keyed}: ∀{s e:Nat} {l:List (Nat × Nat × Nat)},ChS R a s l e->s+l.length<=e
 | s,e,[],h=>by rw[List.length_nil];exact Nat.le_of_eq h
 | s,e,x::r,h=>by
  have:=ChS.len h.2.2.2;have:=h.1;have:=h.2.1;rw[List.length_cons];lia
theorem SegS.srt{a:Array Keyed}{i j:Nat}(h:SegS R a i j)(hj:j<=a.size):Srt R (a.extract i j):=by
 unfold Srt;rw[List.pairwise_iff_getElem];intro x y hx hy hxy;have sz:(a.extract i j).size=j - i:=by rw[Array.size_extract];lia
 have hx':x < j - i:=by rw[<-sz,<-Array.length_toList];exact hx
 have hy':y < j - i:=by rw[<-sz,<-Array.length_toList];exact hy
 have:=h (i+x) (i+y) (by lia) (by lia) (by lia);rw[rk_at (by lia),rk_at (by lia)] at this;simpa using this
theorem rk_ex{a:Array Keyed}{i j x:Nat}(hj:j<=a.size)(hx:x < j - i):rk R (a.extract i j) x=rk R a (i+x):=by
 have sz:(a.extract i j).size=j - i:=by rw[Array.size_extract];lia
 rw[rk_at (by lia),rk_at (by lia),Array.getElem_extract]
theorem merged_seg{a m a':Array Keyed}{sa sa' sb e' e:Nat}(h1:sa<=sa')(h2:sa' < sb)(h3:sb < e')(h4:e'<=e)(h5:e<=a.size)(s1:SegS R a sa sb)(s2:SegS R a sb e)(o:Out R (a.extract sa' sb) (a.extract sb e') m)(P:Put a m a' sa' e')
  (k1:sa < sa'->rk R a (sa' - 1)<=rk R a sb) (k2:e' < e->rk R a (sb - 1)<=rk R a e'):SegS R a' sa e/\a'.toList.Perm a.toList/\ ∀j,(j < sa'\/e'<=j)->rk R a' j=rk R a j:=by
 have ms:m.size=e' - sa':=by
  have:=o.1.length_eq;rw[List.length_append,Array.length_toList,Array.length_toList,Array.length_toList,Array.size_extract,Array.size_extract] at this;lia
 have out: ∀j,(j < sa'\/e'<=j)->rk R a' j=rk R a j:=fun j hj=>rk_of (by rw[P.at_ j,if_neg (by lia)]);have ins: ∀j,sa'<=j->j < e'->rk R a' j=rk R m (j - sa'):=fun j j1 j2=>rk_of (by rw[P.at_ j,if_pos ⟨j1,j2⟩]);have mem: ∀j,sa'<=j->j < e'-> ∃k,sa'<=k/\k < e'/\rk R a' j=rk R a k:=fun j j1 j2=>by
  rw[ins j j1 j2,rk_at (by lia)];have hm:=o.1.mem_iff.mp (mem_at (a:=m) (i:=j - sa') (by lia));rcases List.mem_append.mp hm with z | z
  . obtain⟨k,p1,p2,p3,e⟩:=ex_mem (R:=R) z;exact⟨k,p1,by lia,e⟩
  . obtain⟨k,p1,p2,p3,e⟩:=ex_mem (R:=R) z;exact⟨k,by lia,p2,e⟩
 have lo: ∀x k,sa<=x->x < sa'->sa'<=k->k < e'->rk R a x<=rk R a k:=fun x k x1 x2 p1 p2=>by
  have a1:=s1 x (sa' - 1) x1 (by lia) (by lia);by_cases c:k < sb
  . exact s1 x k x1 (by lia) c
  . have:=k1 (by lia);have:=s2 sb k (Nat.le_refl _) (by lia) (by lia);lia
 have hi: ∀y k,e'<=y->y < e->sa'<=k->k < e'->rk R a k<=rk R a y:=fun y k y1 y2 p1 p2=>by
  by_cases c:k < sb
  . have b1:=s1 k (sb - 1) (by lia) (by lia) (by lia);have b2:=k2 (by lia);have b3:=s2 e' y (by lia) y1 y2;lia
  . exact s2 k y (by lia) (by lia) y2
 refine⟨fun x y x1 x2 x3=>?_,?_,out⟩
 . by_cases cx:x < sa'
   . rw[out x (.inl cx)];by_cases cy:y < sa'
     . rw[out y (.inl cy)];exact s1 x y x1 x2 (by lia)
     . by_cases cy2:y < e'
       . obtain⟨k,p1,p2,e⟩:=mem y (by lia) cy2;rw[e];exact lo x k x1 cx p1 p2
       . rw[out y (.inr (by lia))];have q1:=lo x (sb - 1) x1 cx (by lia) (by lia);have q2:=hi y (sb - 1) (by lia) x3 (by lia) (by lia);lia
   . by_cases cx2:x < e'
     . by_cases cy2:y < e'
       . rw[ins x (by lia) cx2,ins y (by lia) cy2];exact o.2.rk (by lia) (by lia)
       . obtain⟨k,p1,p2,e⟩:=mem x (by lia) cx2;rw[e,out y (.inr (by lia))];exact hi y k (by lia) x3 p1 p2
     . rw[out x (.inr (by lia)),out y (.inr (by lia))];exact s2 x y (by lia) x2 x3
 . rw[P.list (by lia) (by lia)];have e1:a.toList.take sa'++((a.extract sa' sb).toList++(a.extract sb e').toList++a.toList.drop e')=a.toList:=by
    rw[ex_list,ex_list];have d1:a.toList.drop sb=(a.toList.drop sb).take (e' - sb)++a.toList.drop e':=by
     conv=>lhs;rw[<-List.take_append_drop (e' - sb) (a.toList.drop sb)]
     rw[List.drop_drop,show sb+(e' - sb)=e' by lia]
    have d2:a.toList.drop sa'=(a.toList.drop sa').take (sb - sa')++a.toList.drop sb:=by
     conv=>lhs;rw[<-List.take_append_drop (sb - sa') (a.toList.drop sa')]
     rw[List.drop_drop,show sa'+(sb - sa')=sb by lia]
    rw[List.append_assoc,<-d1,<-d2,List.take_append_drop]
   conv=>rhs;rw[<-e1]
   exact List.Perm.append_left _ (List.Perm.append_right _ o.1)
theorem SegS.join{a:Array Keyed}{sa sb e:Nat}(s1:SegS R a sa sb)(s2:SegS R a sb e)(h1:sa < sb)(hl:rk R a (sb - 1)<=rk R a sb):SegS R a sa e:=fun x y x1 x2 x3=>by
 by_cases cx:x < sb
 . by_cases cy:y < sb
   . exact s1 x y x1 x2 cy
   . have q1:=s1 x (sb - 1) x1 (by lia) (by lia);have q2:=s2 sb y (Nat.le_refl _) (by lia) x3;lia
 . exact s2 x y (by lia) x2 x3
end
structure Px(κ:SortKind)(R:Keyed->Int)(a₀:Array Keyed)(lo:Nat)(p:Array (Nat × Nat × Nat))(st:SortSt):Prop where
 pm:(arrOf st).Perm a₀
 kind:kindOf st=κ
 failed:failedOf st=none
 pend:pendingOf st=p
 ch:ChS R (arrOf st) 0 p.toList lo
section
variable {prog : Program} {w : World} {A : Around} {E : Value -> Shared -> Prop} {s : Shared} {κ : SortKind} {R : Keyed -> Int} {D : Keyed -> Prop} {a₀ : Array Keyed} {p : Array (Nat × Nat × Nat)} {lo : Nat}
theorem wpS_mergeX(L:LtOk prog w A E s κ R D)(hD: ∀x∈a₀.toList,D x){st:SortSt}{i:Nat}{Q:Bool->SortSt->Prop}(hW:Px κ R a₀ lo p st)(hlo:lo<=a₀.size)(hi:i+1 < p.size)
  (h: ∀p' st',Px κ R a₀ lo p' st'->p'.size+1=p.size->(∀j,lo<=j->rk R (arrOf st') j=rk R (arrOf st) j)->Q true st'):wpS (model prog w) A E s (mergeAt' i) Q st:=by
 rw[mergeAt'_eq];refine wpS_bind (wpS_get ?_);obtain⟨⟨sa,na,pw⟩,hx⟩: ∃x,p[i]?=some x:=⟨p[i],Array.getElem?_eq_getElem (by lia)⟩
 obtain⟨⟨sb,nb,pw2⟩,hy⟩: ∃x,p[i+1]?=some x:=⟨p[i+1],Array.getElem?_eq_getElem (by lia)⟩
 have hx':p.toList[i]?=some (sa,na,pw):=by rw[Array.getElem?_toList];exact hx
 have hy':p.toList[i+1]?=some (sb,nb,pw2):=by rw[Array.getElem?_toList];exact hy
 have t2:=hW.ch.ch.two hx' hy';have sgA:=(hW.ch.lb hx').2;have sgB:=(hW.ch.lb hy').2;have hM:=fun(a':Array Keyed)=>hW.ch.merge (a':=a') (v:=pw) hx' hy';dsimp only at t2 sgA sgB hM;obtain⟨n1,e1,n2,e2⟩:=t2;rw[hW.pend,hx,hy];dsimp only;have hp1:((p.setIfInBounds i (sa,na+nb,pw)).eraseIdxIfInBounds (i+1)).toList=(p.toList.set i (sa,na+nb,pw)).eraseIdx (i+1):=by
  rw[Array.toList_eraseIdxIfInBounds,Array.toList_setIfInBounds]
 have hps:((p.setIfInBounds i (sa,na+nb,pw)).eraseIdxIfInBounds (i+1)).size+1=p.size:=by
  rw[<-Array.length_toList,hp1,List.length_eraseIdx_of_lt (by rw[List.length_set,Array.length_toList];exact hi),List.length_set,Array.length_toList];lia
 rw[<-hp1] at hM;generalize (p.setIfInBounds i (sa,na+nb,pw)).eraseIdxIfInBounds (i+1)=p1 at hM hps ⊢;clear hp1;have sz:(arrOf st).size=a₀.size:=hW.pm.size_eq;have dk:Dk D (arrOf st):=fun i hi=>hD _ ((Array.perm_iff_toList_perm.mp hW.pm).mem_iff.mp (mem_at hi));have hsb:sb < (arrOf st).size:=by lia
 refine wpS_bind (wpS_set ?_);refine wpS_bind (wpS_elem hsb ?_);refine wpS_bind (wpS_gal L hW.kind dk (dk _ hsb) (by lia) (by lia) (fun x y x1 x2=>sgA _ _ (by lia) (by lia) (by lia)) fun k hk kt kf=>?_);rw[<-rk_at (R:=R) hsb] at kt kf;dsimp only;have kt':0 < k->rk R (arrOf st) (sa+k - 1)<=rk R (arrOf st) sb:=fun z=>by have:=bey_le (kt (k - 1) (by lia));rw[show sa+(k - 1)=sa+k - 1 by lia] at this;exact this
 have kf':k < na->rk R (arrOf st) sb<=rk R (arrOf st) (sa+k):=fun z=>Int.le_of_lt (bey_gt (kf k (Nat.le_refl _) z));clear kt kf;have whole:rk R (arrOf st) (sb - 1)<=rk R (arrOf st) sb->Q true (setPending st p1):=fun z=>by
  refine h p1 _ ⟨hW.pm,hW.kind,hW.failed,rfl,?_⟩ hps fun _ _=>rfl;refine hM (arrOf st) ?_ fun j _=>rfl;rw[show sa+(na+nb)=sb+nb by lia];rw[e1] at sgA;exact sgA.join sgB (by lia) z
 by_cases c1:(na - k==0)=true
 . rw[if_pos c1];have c1':=beq_iff_eq.mp c1;refine wpS_pure (whole ?_);have:=kt' (by lia);rw[show sa+k - 1=sb - 1 by lia] at this;exact this
 rw[if_neg c1];have c1':na - k≠0:=fun z=>c1 (beq_iff_eq.mpr z);clear c1;have hsl:sa+k+(na - k) - 1 < (arrOf st).size:=by lia
 refine wpS_bind (wpS_elem hsl ?_);refine wpS_bind (wpS_gal L hW.kind dk (dk _ hsl) (by lia) (by lia) (fun x y x1 x2=>sgB _ _ (by lia) (by lia) (by lia)) fun k2 hk2 lt lf=>?_);rw[<-rk_at (R:=R) hsl,show sa+k+(na - k) - 1=sb - 1 by lia] at lt lf;dsimp only;have lt':0 < k2->rk R (arrOf st) (sb+k2 - 1)<=rk R (arrOf st) (sb - 1):=fun z=>by have:=Int.le_of_lt (bey_lt (lt (k2 - 1) (by lia)));rw[show sb+(k2 - 1)=sb+k2 - 1 by lia] at this;exact this
 have lf':k2 < nb->rk R (arrOf st) (sb - 1)<=rk R (arrOf st) (sb+k2):=fun z=>bey_ge (lf k2 (Nat.le_refl _) z);clear lt lf;by_cases c2:(k2==0)=true
 . rw[if_pos c2];have c2':=beq_iff_eq.mp c2;refine wpS_pure (whole ?_);have:=lf' (by lia);rw[c2',Nat.add_zero] at this;exact this
 rw[if_neg c2];have c2':k2≠0:=fun z=>c2 (beq_iff_eq.mpr z);clear c2;have sx:((arrOf st).extract (sa+k) sb).size=na - k:=by rw[Array.size_extract];lia
 have sy:((arrOf st).extract sb (sb+k2)).size=k2:=by rw[Array.size_extract];lia
 have srA:SegS R (arrOf st) (sa+k) sb:=fun x y x1 x2 x3=>sgA x y (by lia) x2 (by lia);have srB:SegS R (arrOf st) sb (sb+k2):=fun x y x1 x2 x3=>sgB x y x1 x2 (by lia);have dkx: ∀i j,Dk D ((arrOf st).extract i j):=fun i j l hl=>by
  rw[Array.getElem_extract];exact dk _ _
 have fin: ∀(m:Array Keyed) (g:Nat),Out R ((arrOf st).extract (sa+k) sb) ((arrOf st).extract sb (sb+k2)) m->wpS (model prog w) A E s (do
   modify fun s=>setArr s (m.toList.zipIdx.foldl (fun a (p,j)=>a.setIfInBounds (sa+k+j) p) (arrOf s))
   return(failedOf (<-get)).isNone) Q (setG (setPending st p1) g):=fun m g o=>by
  have ms:m.size=na - k+k2:=by
   have:=o.1.length_eq;rw[List.length_append,Array.length_toList,Array.length_toList,Array.length_toList,sx,sy] at this;exact this
  have pt:=put_ok (a:=arrOf st) (m:=m) (sa:=sa+k) (by lia);rw[show sa+k+m.size=sb+k2 by lia] at pt;rw[e1] at sgA;obtain⟨q1,q2,q3⟩:=merged_seg (sa:=sa) (e:=sb+nb) (by lia) (by lia) (by lia) (by lia) (by lia) sgA sgB o pt (fun z=>kt' (by lia)) (fun z=>lf' (by lia));refine wpS_bind (wpS_modify (wpS_bind (wpS_get ?_)));have hf:(failedOf st).isNone=true:=by rw[hW.failed];rfl
  show wpS _ _ _ _ (pure (failedOf st).isNone) Q _;rw[hf];refine wpS_pure (h p1 _ ⟨(Array.perm_iff_toList_perm.mpr q2).trans hW.pm,hW.kind,hW.failed,rfl,?_⟩ hps fun j hj=>q3 j (by lia));refine hM _ ?_ fun j hj=>q3 j (by lia);rw[show sa+(na+nb)=sb+nb by lia];exact q1
 have c0:rk R ((arrOf st).extract sb (sb+k2)) 0<=rk R ((arrOf st).extract (sa+k) sb) 0:=by
  rw[rk_ex (by lia) (by lia),rk_ex (by lia) (by lia),Nat.add_zero,Nat.add_zero];exact kf' (by lia)
 have cl:rk R ((arrOf st).extract sb (sb+k2)) (((arrOf st).extract sb (sb+k2)).size - 1)<=rk R ((arrOf st).extract (sa+k) sb) (((arrOf st).extract (sa+k) sb).size - 1):=by
  rw[sx,sy,rk_ex (by lia) (by lia),rk_ex (by lia) (by lia),show sb+(k2 - 1)=sb+k2 - 1 by lia,show sa+k+(na - k - 1)=sb - 1 by lia];exact lt' (by lia)
 by_cases c3:na - k<=k2
 . rw[if_pos c3];exact wpS_bind (wpS_mergeLo L hW.kind (dkx _ _) (dkx _ _) (srA.srt (by lia)) (srB.srt (by lia)) (by lia) (by lia) c0 cl fun m g o=>fin m g o)
 . rw[if_neg c3];exact wpS_bind (wpS_mergeHi L hW.kind (dkx _ _) (dkx _ _) (srA.srt (by lia)) (srB.srt (by lia)) (by lia) (by lia) c0 cl fun m g o=>fin m g o)
end
end LSrtX
end
section
namespace LSrtX
open PySem PyProof.Rows LSrtW
section
variable {prog : Program} {w : World} {A : Around} {E : Value -> Shared -> Prop} {s : Shared} {κ : SortKind} {R : Keyed -> Int} {D : Keyed -> Prop} {a₀ : Array Keyed}
theorem Px.wx{p:Array (Nat × Nat × Nat)}{lo:Nat}{st:SortSt}(h:Px κ R a₀ lo p st):Wx κ a₀ (arrOf st) lo p st:=⟨h.pm,h.kind,h.failed,h.pend,fun _ _=>rfl⟩
theorem Px.back{p:Array (Nat × Nat × Nat)}{lo:Nat}{st st':SortSt}(h:Px κ R a₀ lo p st)(w':Wx κ a₀ (arrOf st) lo p st'):Px κ R a₀ lo p st':=⟨w'.pm,w'.kind,w'.failed,w'.pend,h.ch.same fun j _ j2=>rk_of (w'.keep j j2)⟩
theorem wpS_sortX(L:LtOk prog w A E s κ R D)(hD: ∀x∈a₀.toList,D x){st:SortSt}{Q:Unit->SortSt->Prop}(hW:Px κ R a₀ 0 #[] st)(h1:1<=a₀.size)
  (h: ∀st',(arrOf st').Perm a₀->failedOf st'=none->SegS R (arrOf st') 0 a₀.size->Q () st'):wpS (model prog w) A E s sortRuns' Q st:=by
 rw[sortRuns'_eq];refine wpS_bind (wpS_get ?_);dsimp only;rw[hW.pm.size_eq];have mr:1<=minRun' a₀.size a₀.size 0:=minRun_pos h1;generalize minRun' a₀.size a₀.size 0=mrn at mr ⊢;refine wpS_bind (wpS_mono (wpS_forRange (I:=fun x (c:Option Unit × Nat) st'=>c.1=none/\c.2<=a₀.size/\min x a₀.size<=c.2/\ ∃p,Px κ R a₀ c.2 p st')
  (Q:=fun(c:Option Unit × Nat) st'=>c.1=none/\c.2=a₀.size/\ ∃p,Px κ R a₀ c.2 p st') ?step ?fin0 ⟨rfl,Nat.zero_le _,by dsimp only;lia,#[],hW⟩) ?post)
 case fin0=>
  rintro⟨r,lo⟩ st' ⟨e1,e2,e3,p,hp⟩
  dsimp only at e1 e2 e3 hp;exact⟨e1,by dsimp only;lia,p,hp⟩
 case post=>
  rintro⟨r,lo⟩ st' ⟨e1,e2,p,hW'⟩
  dsimp only at e1 e2 hW' ⊢;subst e1;subst e2;dsimp only;have pl:=hW'.ch.len;rw[Array.length_toList] at pl;refine wpS_bind (wpS_mono (wpS_forRange (I:=fun x c st'=>c.1=none/\ ∃p,Px κ R a₀ a₀.size p st'/\p.size+x<=a₀.size)
   (Q:=fun c st'=>c.1=none/\ ∃p,Px κ R a₀ a₀.size p st'/\p.size<=1) ?fstep ?ffin ⟨rfl,p,hW',by lia⟩) ?fpost)
  case ffin=>
   rintro⟨r,u⟩ st' ⟨e1,p,hp,hs⟩
   exact⟨e1,p,hp,by rw[show max 0 a₀.size=a₀.size by lia] at hs;lia⟩
  case fpost=>
   rintro⟨r,u⟩ st' ⟨e1,p,hp,hs⟩
   dsimp only at e1 ⊢;subst e1;refine wpS_pure (h _ hp.pm hp.failed ?_);have ch:=hp.ch;have hl:p.toList.length<=1:=by rw[Array.length_toList];exact hs
   match hq:p.toList,hl,ch with
   | [],_,ch=>have:0=a₀.size:=ch;lia
   | [x],_,ch=>
    obtain⟨a1,a2,a3,a4⟩:=ch;have a4:x.1+x.2.1=a₀.size:=a4;rw[a4,a1] at a3;exact a3
   | _::_::_,hl,_=>simp at hl
  case fstep=>
   clear hW' pl;rintro x ⟨r,u⟩ st' _ hx ⟨e1,p,hW',hs⟩
   dsimp only at e1 ⊢;subst e1;refine wpS_bind (wpS_get ?_);rw[hW'.pend];by_cases c:p.size<=1
   . rw[if_pos c];exact wpS_pure ⟨rfl,p,hW',c⟩
   rw[if_neg c];have mg: ∀i,i+1 < p.size->wpS (model prog w) A E s (mergeAt' i) (fun b st'=>b=true/\ ∃p',Px κ R a₀ a₀.size p' st'/\p'.size+1=p.size) st':=fun i hi=>wpS_mergeX L hD hW' (Nat.le_refl _) hi fun p' st2 a b _=>⟨rfl,p',a,b⟩
   have hi: ∀(b:Bool),(if b=true then p.size - 2 - 1 else p.size - 2)+1 < p.size:=fun b=>by cases b <;> simp <;> omega
   refine wpS_bind (wpS_mono (mg _ (hi _)) ?_);rintro b st2 ⟨rfl,p2,w2,k2⟩
   exact wpS_pure ⟨rfl,p2,w2,by lia⟩
 case step=>
  rintro x ⟨r,lo⟩ st' _ hx ⟨e1,e2,e3,p,hW'⟩
  dsimp only at e1 e2 e3 hW' ⊢;subst e1;by_cases c:lo>=a₀.size
  . rw[if_pos c];exact wpS_pure ⟨rfl,by dsimp only;lia,p,hW'⟩
  rw[if_neg c];refine wpS_bind (wpS_runX L hD (by lia) (by lia) hW'.wx fun m st1 w1 m1 m2 sg=>?_);have hW1:=hW'.back w1;clear w1;dsimp only;by_cases c2:m < mrn
  . rw[if_pos c2];refine wpS_bind (wpS_lift (wpAny_rule ⟨rfl,?_⟩));refine wpS_bind (wpS_binX L hD (by lia) m1 (by lia) hW1.wx sg fun st2 w2 sg2=>?_);have hW2:=hW1.back w2;have n1:1<=min (a₀.size - lo) mrn:=by lia
    have n2:lo+min (a₀.size - lo) mrn<=a₀.size:=by lia
    simp only [Bool.not_true,Bool.false_eq_true,if_false];generalize min (a₀.size - lo) mrn=n at n1 n2 sg2 ⊢;refine wpS_bind (wpS_get ?_);rw[hW2.pend];cases hb:p.back? with
    | none=>
     dsimp only;refine wpS_bind (wpS_modify (wpS_pure ⟨rfl,by dsimp only;lia,by dsimp only;lia,_,hW2.pm,hW2.kind,hW2.failed,rfl,?_⟩));show ChS R (arrOf st2) 0 ((pendingOf _).push _).toList _;rw[hW2.pend,Array.toList_push];exact hW2.ch.push n1 sg2
    | some t=>
     obtain⟨s1,nn1,q1⟩:=t;dsimp only;refine wpS_bind (wpS_mono (wpS_forRange (I:=fun x c st'=>c.1=none/\ ∃p,Px κ R a₀ lo p st'/\SegS R (arrOf st') lo (lo+n)) (Q:=fun c st'=>c.1=none/\ ∃p,Px κ R a₀ lo p st'/\SegS R (arrOf st') lo (lo+n)) ?_ (fun _ _ h=>h) ⟨rfl,p,hW2,sg2⟩) ?_)
     . rintro x ⟨r,u⟩ st3 _ _ ⟨e1,p2,w2,s2⟩
       dsimp only at e1 ⊢;subst e1;refine wpS_bind (wpS_get ?_);rw[w2.pend];by_cases c:p2.size > 1
       . rw[if_pos c,Array.getElem?_eq_getElem (show p2.size - 2 < p2.size by lia)];generalize p2[p2.size - 2]=t;obtain⟨t1,t2,older⟩:=t;dsimp only;split
         . exact wpS_pure ⟨rfl,p2,w2,s2⟩
         . refine wpS_bind (wpS_mergeX L hD w2 e2 (by lia) fun p3 st4 w3 k3 kr=>?_);exact wpS_pure ⟨rfl,p3,w3,fun a b a1 a2 a3=>by rw[kr a a1,kr b (by lia)];exact s2 a b a1 a2 a3⟩
       . rw[if_neg c];exact wpS_pure ⟨rfl,p2,w2,s2⟩
     . rintro⟨r,u⟩ st3 ⟨e1,p2,w2,s2⟩
       dsimp only at e1 ⊢;subst e1;refine wpS_bind (wpS_modify (wpS_bind (wpS_modify (wpS_pure ⟨rfl,by dsimp only;lia,by dsimp only;lia,_,w2.pm,w2.kind,w2.failed,rfl,?_⟩))));show ChS R (arrOf st3) 0 (((pendingOf st3).modify ((pendingOf st3).size - 1) _).push _).toList _;rw[w2.pend,Array.toList_push,Array.toList_modify];refine ChS.push (e:=lo) n1 (ChS.mod ?_ w2.ch) s2;exact fun _=>⟨rfl,rfl⟩
  . rw[if_neg c2];have hW2:=hW1;have sg2:=sg;have n1:=m1;refine wpS_bind (wpS_get ?_);rw[hW2.pend];cases hb:p.back? with
    | none=>
     dsimp only;refine wpS_bind (wpS_modify (wpS_pure ⟨rfl,by dsimp only;lia,by dsimp only;lia,_,hW2.pm,hW2.kind,hW2.failed,rfl,?_⟩));show ChS R (arrOf st1) 0 ((pendingOf _).push _).toList _;rw[hW2.pend,Array.toList_push];exact hW2.ch.push n1 sg2
    | some t=>
     obtain⟨s1,nn1,q1⟩:=t;dsimp only;refine wpS_bind (wpS_mono (wpS_forRange (I:=fun x c st'=>c.1=none/\ ∃p,Px κ R a₀ lo p st'/\SegS R (arrOf st') lo (lo+m)) (Q:=fun c st'=>c.1=none/\ ∃p,Px κ R a₀ lo p st'/\SegS R (arrOf st') lo (lo+m)) ?_ (fun _ _ h=>h) ⟨rfl,p,hW2,sg2⟩) ?_)
     . rintro x ⟨r,u⟩ st3 _ _ ⟨e1,p2,w2,s2⟩
       dsimp only at e1 ⊢;subst e1;refine wpS_bind (wpS_get ?_);rw[w2.pend];by_cases c:p2.size > 1
       . rw[if_pos c,Array.getElem?_eq_getElem (show p2.size - 2 < p2.size by lia)];generalize p2[p2.size - 2]=t;obtain⟨t1,t2,older⟩:=t;dsimp only;split
         . exact wpS_pure ⟨rfl,p2,w2,s2⟩
         . refine wpS_bind (wpS_mergeX L hD w2 e2 (by lia) fun p3 st4 w3 k3 kr=>?_);exact wpS_pure ⟨rfl,p3,w3,fun a b a1 a2 a3=>by rw[kr a a1,kr b (by lia)];exact s2 a b a1 a2 a3⟩
       . rw[if_neg c];exact wpS_pure ⟨rfl,p2,w2,s2⟩
     . rintro⟨r,u⟩ st3 ⟨e1,p2,w2,s2⟩
       dsimp only at e1 ⊢;subst e1;refine wpS_bind (wpS_modify (wpS_bind (wpS_modify (wpS_pure ⟨rfl,by dsimp only;lia,by dsimp only;lia,_,w2.pm,w2.kind,w2.failed,rfl,?_⟩))));show ChS R (arrOf st3) 0 (((pendingOf st3).modify ((pendingOf st3).size - 1) _).push _).toList _;rw[w2.pend,Array.toList_push,Array.toList_modify];refine ChS.push (e:=lo) n1 (ChS.mod ?_ w2.ch) s2;exact fun _=>⟨rfl,rfl⟩
end
end LSrtX
end
section
namespace LSrt
open PySem PySem.W PyProof.Rows LSrtX
theorem perm_map{α β:Type}{f:α->β}{l k:List β}(h:l.Perm k): ∀{m:List α},k=m.map f-> ∃m':List α,m'.Perm m/\l=m'.map f:=by
 induction h with
 | nil=>
  intro m e;cases m with
  | nil=>exact⟨[],List.Perm.refl _,rfl⟩
  | cons a b=>cases e
 | cons x _ ih=>
  intro m e;cases m with
  | nil=>cases e
  | cons a m=>
   obtain⟨e1,e2⟩:=List.cons.inj e;obtain⟨m',p,e3⟩:=ih e2;exact⟨a::m',p.cons a,by rw[List.map_cons,<-e3,e1]⟩
 | swap x y l=>
  intro m e;match m,e with
  | a::b::m,e=>
   obtain⟨e1,e2⟩:=List.cons.inj e;obtain⟨e3,e4⟩:=List.cons.inj e2;exact⟨b::a::m,List.Perm.swap _ _ _,by rw[List.map_cons,List.map_cons,e1,e3,e4]⟩
 | trans _ _ ih1 ih2=>
  intro m e;obtain⟨m',p,e1⟩:=ih2 e;obtain⟨m2,p2,e2⟩:=ih1 e1;exact⟨m2,p2.trans p,e2⟩
open Classical in
noncomputable def ixK(a:Array Keyed)(x:Keyed):Nat:=if h: ∃i:Nat,a[i]?=some x then choose h else 0
theorem ixK_at{a:Array Keyed}{x:Keyed}(h: ∃i:Nat,a[i]?=some x):a[ixK a x]?=some x:=by
 unfold ixK;rw[dif_pos h];exact Classical.choose_spec h
section
variable {prog : Program} {w : World} {A : Around} {E : Value -> Shared -> Prop} {z : Shared} {K : Nat -> Int} {vs : List Value}
theorem ltok{κ:SortKind}{a₀:Array Keyed}(hc:Cok vs.length K (kas_ask prog w A κ vs) z)(hs:a₀.size=vs.length)(ha: ∀(i:Nat) x,a₀[i]?=some x->x.1=vs.getD i Value.none):LtOk prog w A E z κ (fun x=>K (ixK a₀ x)) (fun x=> ∃i:Nat,a₀[i]?=some x):=by
 intro st x y Q hk hx hy q;have ex:=ixK_at hx;have ey:=ixK_at hy;have e1:=ha _ _ ex;have e2:=ha _ _ ey;have l1:ixK a₀ x < vs.length:=by rw[<-hs];exact(Array.getElem?_eq_some_iff.mp ex).1
 have l2:ixK a₀ y < vs.length:=by rw[<-hs];exact(Array.getElem?_eq_some_iff.mp ey).1
 obtain⟨x1,x2⟩:=x;obtain⟨y1,y2⟩:=y;rw[lt'_eq];refine wpS_bind (wpS_get ?_);rw[hk];dsimp only at e1 e2;have:=hc _ _ l1 l2 (fun b z'=>b=decide (K (ixK a₀ (x1,x2)) < K (ixK a₀ (y1,y2)))/\z'=z) ⟨rfl,rfl⟩;unfold kas_ask at this;rw[<-e1,<-e2] at this;refine wpS_bind (wpS_lift (wpAny_attempt (wpAny_mono this (fun b z' hb=>?_) (fun _ _ f=>f.elim))));obtain⟨rfl,rfl⟩:=hb;exact⟨rfl,wpS_pure q⟩
theorem sort_listX{a:Addr}{m:Nat}{P:PySem.Fin->Shared->Prop}(ho:z.heap.get? a=some (seqObj "list" vs.toArray m))(hl:vs.length<=100000)(hK: ∀i j,i < vs.length->j < vs.length->vs.getD i Value.none=vs.getD j Value.none->K i=K j)
  (hk:2<=vs.length-> ∀h':Heap,(∀b o,b≠a->z.heap.get? b=some o->h'.get? b=some o)-> ∃κ,Ask prog w A vs K {z with heap:=h'} κ)
  (h: ∀p,Pm vs.length p->Asc K p vs.length->P (.done (.ret .none)) {z with heap:=sortedHeap z.heap a vs (outs vs p)}):wpAny (model prog w) A (Builtin.«list.sort» ⟨[.ref a],[]⟩) P E z:=by
 have la:a < z.heap.objs.size:=Heap.lt_size ho;let h1:Heap:=z.heap.update a (Obj.mapSeq fun _=> #[])
 let h3:Heap:=(h1.push (seqObj "tuple" vs.toArray 0)).push (seqObj "list" #[] 0)
 obtain⟨m1,o1⟩: ∃m1,h1.get? a=some (seqObj "list" #[] m1):=⟨_,get?_update_seq ho (fun _=> #[])⟩
 have s1:h1.objs.size=z.heap.objs.size:=Heap.size_update _ _ _;have o3:h3.get? a=some (seqObj "list" #[] m1):=by
  show((h1.push _).push _).get? a=_;rw[Heap.get?_push_ne _ _ _ (by rw[size_push',s1];exact Nat.ne_of_lt (Nat.lt_succ_of_lt la)),Heap.get?_push_ne _ _ _ (by rw[s1];exact Nat.ne_of_lt la)];exact o1
 have k3: ∀b o,b≠a->z.heap.get? b=some o->h3.get? b=some o:=fun b o hb q=>by
  have lb:=Heap.lt_size q;show((h1.push _).push _).get? b=_;rw[Heap.get?_push_ne _ _ _ (by rw[size_push',s1];exact Nat.ne_of_lt (Nat.lt_succ_of_lt lb)),Heap.get?_push_ne _ _ _ (by rw[s1];exact Nat.ne_of_lt lb)];show(z.heap.update a _).get? b=_;rw[Heap.get?_update_ne _ _ _ _ hb];exact q
 have fit: ∀p,Pm vs.length p->(outs vs p).size<=sizeLine+1:=fun p hp=>by rw[outs_len hp,sizeLine_eq];lia
 rw[list_sort_plain];refine wpAny_bind (listItems_at ho rfl (wpAny_bind (listUpdate_at ho rfl (wpAny_bind (seqEpoch_at o1 rfl ?_)) (by rw[List.size_toArray,sizeLine_eq];lia) (Nat.zero_le _))));refine wpAny_bind (wpAny_newTuple (wpAny_bind (wpAny_newList (wpAny_holding ?_) (Nat.zero_le _))) (by show vs.length<=_;rw[sizeLine_eq];lia));show wpAny _ _ _ _ _ {z with heap:=h3};dsimp only;by_cases c2:vs.toArray.size < 2
 . rw[if_pos c2,if_pos c2];refine wpAny_bind (wpAny_pure ?_);rw[StateT.run_pure];refine wpAny_bind (wpAny_pure ?_);dsimp only;have pm:Pm vs.length (List.range vs.length).toArray:=⟨Array.Perm.refl _⟩
   have hout:=outs_id (vs:=vs);refine wpAny_bind (seqEpoch_at o3 rfl (wpAny_bind (listUpdate_at o3 rfl ?_ (Nat.zero_le _) (by show(Array.map _ (vs.toArray.zip vs.toArray)).size<=_;rw[hout];exact fit _ pm))));simp only [bne_self_eq_false,Bool.false_eq_true,if_false];refine wpAny_pure ?_;have:=h _ pm fun i j x y=>by
    have:i=j:=by rw[List.size_toArray] at c2;lia
    subst this;exact Int.le_refl _
   rw[<-hout] at this;exact this
 . rw[if_neg c2,if_neg c2];have l2:2<=vs.length:=by rw[List.size_toArray] at c2;lia
   obtain⟨κ,ak⟩:=hk l2 h3 k3;refine wpAny_bind (wpAny_mono (ak.kind (fun κ' z'=>κ'=κ/\z'={z with heap:=h3}) ⟨rfl,rfl⟩) (fun κ' z' q=>?_) fun _ _ x=>x.elim);obtain⟨e1,e2⟩:=q;subst e1;subst e2;have zs:(vs.toArray.zip vs.toArray).size=vs.length:=by simp
   have zg: ∀(i:Nat) x,(vs.toArray.zip vs.toArray)[i]?=some x->i < vs.length/\x=(vs.getD i Value.none,vs.getD i Value.none):=fun i x e=>by
    obtain⟨hi,e⟩:=Array.getElem?_eq_some_iff.mp e;have hi':i < vs.length:=by rw[zs] at hi;exact hi
    refine⟨hi',?_⟩;rw[<-e,Array.getElem_zip];simp [List.getD,hi']
   refine wpAny_bind (wpAny_mono (wpS_sortX (st:=SortSt.mk' κ' (vs.toArray.zip vs.toArray) #[] 7 none) (a₀:=vs.toArray.zip vs.toArray)
    (Q:=fun _ st=>failedOf st=none/\(arrOf st).Perm (vs.toArray.zip vs.toArray)/\SegS (fun x=>K (ixK (vs.toArray.zip vs.toArray) x)) (arrOf st) 0 (vs.toArray.zip vs.toArray).size)
    (ltok ak.ask zs fun i x e=>by rw[(zg i x e).2]) (fun x hx=>?_) ⟨Array.Perm.refl _,rfl,rfl,rfl,rfl⟩ (by rw[zs];lia) fun st x y u=>⟨y,x,u⟩) ?_ fun _ _ x=>x)
   . obtain⟨i,hi,e⟩:=List.getElem_of_mem hx;exact⟨i,by rw[<-Array.getElem?_toList,List.getElem?_eq_getElem hi,e]⟩
   rintro⟨⟨⟩,st⟩ z' ⟨e,hf,hp,hg⟩
   subst e;have hpl:(arrOf st).toList.Perm ((List.range vs.length).map fun i=>((vs.getD i Value.none,vs.getD i Value.none):Keyed)):=by
    have:=Array.perm_iff_toList_perm.mp hp;refine this.trans ?_;have:(vs.toArray.zip vs.toArray).toList=(List.range vs.length).map fun i=>((vs.getD i Value.none,vs.getD i Value.none):Keyed):=by
     apply List.ext_getElem
     . simp
     . intro i g1 g2;have hi:i < vs.length:=by simpa using g1
       simp [hi]
    rw[this]
   obtain⟨m',pm',em⟩:=perm_map hpl rfl;have pp:Pm vs.length m'.toArray:=⟨Array.perm_iff_toList_perm.mpr (by simpa using pm')⟩
   have lm:m'.length=vs.length:=by have:=pm'.length_eq;rw[List.length_range] at this;exact this
   have hout:(arrOf st).map (·.2)=outs vs m'.toArray:=by
    apply Array.toList_inj.mp;unfold outs;rw[Array.toList_map,em,List.map_map];rfl
   have asc:Asc K m'.toArray vs.length:=fun i j ij jl=>by
    have at': ∀i,i < vs.length->kp K m'.toArray i=rk (fun x=>K (ixK (vs.toArray.zip vs.toArray) x)) (arrOf st) i:=fun i hi=>by
     have im:i < m'.length:=by rw[lm];exact hi
     have e1:(arrOf st)[i]?=some ((vs.getD m'[i] Value.none,vs.getD m'[i] Value.none):Keyed):=by
      rw[<-Array.getElem?_toList,em,List.getElem?_map,List.getElem?_eq_getElem im];rfl
     have ml:m'[i] < vs.length:=by have:=pm'.mem_iff.mp (List.getElem_mem im);simpa using this
     unfold kp rk;rw[e1];show K (m'.toArray.getD i 0)=K (ixK _ _);have e2:m'.toArray.getD i 0=m'[i]:=by simp [Array.getD,im]
     rw[e2];have e3:=ixK_at (a:=vs.toArray.zip vs.toArray) (x:=(vs.getD m'[i] Value.none,vs.getD m'[i] Value.none)) ⟨m'[i],by
      rw[Array.getElem?_eq_getElem (by rw[zs];exact ml),Array.getElem_zip];simp [List.getD,ml]⟩
     obtain⟨g1,g2⟩:=zg _ _ e3;exact hK _ _ ml g1 (congrArg Prod.fst g2)
    rw[at' i (by lia),at' j jl];exact hg i j (Nat.zero_le _) ij (by rw[zs];exact jl)
   dsimp only;refine wpAny_bind (seqEpoch_at o3 rfl (wpAny_bind (listUpdate_at o3 rfl ?_ (Nat.zero_le _) (by rw[hout];exact fit _ pp))));rw[hf,hout];simp only [bne_self_eq_false,Bool.false_eq_true,if_false];exact wpAny_pure (h _ pp asc)
end
end LSrt
end
section
namespace LSet
open PySem
theorem getD_lt{xs:Array Nat}{i d:Nat}(h:i < xs.size):xs.getD i d=xs[i]:=by simp [Array.getD,h]
structure Cut(l:List Nat)(j b:Nat):Prop where
 le:b<=l.length
 lo: ∀i x,i < b->l[i]?=some x->x < j
 hi: ∀i x,b<=i->l[i]?=some x->j<=x
theorem pw{l:List Nat}(h:l.Pairwise (· < ·)){i j x y:Nat}(hij:i < j)(hx:l[i]?=some x)(hy:l[j]?=some y):x < y:=by
 obtain⟨h1,rfl⟩:=List.getElem?_eq_some_iff.mp hx;obtain⟨h2,rfl⟩:=List.getElem?_eq_some_iff.mp hy;exact List.pairwise_iff_getElem.mp h i j h1 h2 hij
theorem go_cut{xs:Array Nat}{j:Nat}(up:xs.toList.Pairwise (· < ·)): ∀(f lo hi:Nat),lo<=hi->hi<=xs.size->hi - lo<=f->(∀i x,i < lo->xs.toList[i]?=some x->x < j)->(∀i x,hi<=i->xs.toList[i]?=some x->j<=x)->Cut xs.toList j (SetTable.below.go xs j f lo hi)
 | 0,lo,hi,h1,h2,h3,a,b=>by
  have:lo=hi:=by lia
  subst this;unfold SetTable.below.go;exact⟨by simpa using h2,a,b⟩
 | f+1,lo,hi,h1,h2,h3,a,b=>by
  unfold SetTable.below.go;by_cases c:lo < hi
  . rw[if_pos c];dsimp only;have hm:(lo+hi) / 2 < xs.size:=by lia
    have em:xs.toList[(lo+hi) / 2]?=some xs[(lo+hi) / 2]:=by rw[Array.getElem?_toList];exact Array.getElem?_eq_getElem hm
    rw[getD_lt hm];by_cases d:xs[(lo+hi) / 2] < j
    . rw[if_pos d];refine go_cut up f _ _ (by lia) h2 (by lia) (fun i x hi' hx=>?_) b;by_cases e:i=(lo+hi) / 2
      . subst e;rw[em] at hx;cases hx;exact d
      . exact Nat.lt_trans (pw up (by lia) hx em) d
    . rw[if_neg d];refine go_cut up f _ _ (by lia) (by lia) (by lia) a fun i x hi' hx=>?_;by_cases e:i=(lo+hi) / 2
      . subst e;rw[em] at hx;cases hx;lia
      . have:=pw up (show(lo+hi) / 2 < i by lia) em hx;lia
  . rw[if_neg c];have:lo=hi:=by lia
    subst this;exact⟨by simpa using h2,a,b⟩
theorem below_cut{xs:Array Nat}(up:xs.toList.Pairwise (· < ·))(j:Nat):Cut xs.toList j (SetTable.below xs j):=
 go_cut up _ _ _ (Nat.zero_le _) (Nat.le_refl _) (by lia) (fun i x h _=>absurd h (Nat.not_lt_zero _)) fun i x h e=>by
  have:=(List.getElem?_eq_some_iff.mp e).1;simp at this;lia
structure Tb(b:Bool)(t:SetTable):Prop where
 led:t.led=b
 dm:t.dummies= #[]
 up:t.place.toList.Pairwise (· < ·)
theorem no_has(j:Nat):SetTable.has #[] j=false:=by simp [SetTable.has]
theorem empty_out{b:Bool}{t:SetTable}(T:Tb b t){j:Nat}(h:t.slot j= .empty):j∉t.place.toList:=fun hm=>by
 obtain⟨i,hi⟩:=List.getElem?_of_mem hm;have c:=below_cut T.up j;have e:t.place.toList[SetTable.below t.place j]?=some j:=by
  have ge:SetTable.below t.place j<=i:=Nat.le_of_not_lt fun z=>Nat.lt_irrefl _ (c.lo i j z hi);by_cases q:SetTable.below t.place j=i
  . rw[q];exact hi
  . have il:=(List.getElem?_eq_some_iff.mp hi).1;have bl:SetTable.below t.place j < t.place.toList.length:=by lia
    have hb:=List.getElem?_eq_getElem bl;have h1:=c.hi _ _ (Nat.le_refl _) hb;have h2:=pw T.up (show SetTable.below t.place j < i by lia) hb hi;lia
 unfold SetTable.slot at h;dsimp only at h;rw[Array.getElem?_toList] at e;rw[if_pos (by rw[e];exact beq_self_eq_true _)] at h;cases h
theorem probe_empty{b:Bool}{t:SetTable}(T:Tb b t)(ha:Nat->Int)(h:Int): ∀(f:Nat) (p:SetTable.Probe) (j:Nat) (d:Option Nat),p.dummy=none->SetTable.probe.go t ha h f p=some (.empty j d)->t.slot j= .empty/\d=none
 | 0,p,j,d,_,e=>by unfold SetTable.probe.go at e;cases e
 | f+1,p,j,d,hp,e=>by
  unfold SetTable.probe.go at e;cases hs:t.slot p.j with
  | empty=>rw[hs] at e;dsimp only at e;cases e;exact⟨hs,hp⟩
  | dummy=>
   exfalso;unfold SetTable.slot at hs;dsimp only at hs;rw[T.dm,no_has] at hs;split at hs
   . cases hs
   . cases hs
  | live i=>
   rw[hs] at e;dsimp only at e;split at e
   . cases e
   . refine probe_empty T ha h f _ j d ?_ e;unfold SetTable.advance;split
     . exact hp
     . exact hp
theorem free_out{b:Bool}{t:SetTable}(T:Tb b t){h:Int}{j:Nat}{d:Bool}(e:t.freeSlot h=some (j,d)):j∉t.place.toList:=by
 unfold SetTable.freeSlot at e;cases hp:t.probe (fun _=>h+1) h (t.probeStart h) with
 | none=>rw[hp] at e;cases e
 | some m=>
  rw[hp] at e;cases m with
  | candidate _ _ _=>cases e
  | empty j' d'=>
   obtain⟨h1,h2⟩:=probe_empty T _ h _ _ j' d' rfl hp;subst h2;cases e;exact empty_out T h1
theorem put_up{b:Bool}{t:SetTable}(T:Tb b t){j:Nat}(hj:j∉t.place.toList):Tb b (t.put j).1:=by
 have c:=below_cut T.up j;refine⟨T.led,?_,?_⟩
 . show(if SetTable.has t.dummies j then _ else t.dummies)= #[];rw[T.dm,no_has];rfl
 . show(SetTable.insertAt t.place (SetTable.below t.place j) j).toList.Pairwise (· < ·);rw[SetTable.toList_insertAt];have hlo: ∀x∈t.place.toList.take (SetTable.below t.place j),x < j:=fun x hx=>by
    obtain⟨i,hi⟩:=List.getElem?_of_mem hx;rw[List.getElem?_take] at hi;split at hi
    . rename_i q;exact c.lo i x q hi
    . cases hi
   have hhi: ∀x∈t.place.toList.drop (SetTable.below t.place j),j < x:=fun x hx=>by
    obtain⟨i,hi⟩:=List.getElem?_of_mem hx;rw[List.getElem?_drop] at hi;have:=c.hi _ x (Nat.le_add_right _ _) hi;have ne:j≠x:=fun z=>hj (by rw[z];exact List.mem_of_getElem? hi);lia
   refine List.pairwise_append.mpr ⟨T.up.sublist (List.take_sublist _ _),List.pairwise_cons.mpr ⟨hhi,T.up.sublist (List.drop_sublist _ _)⟩,fun x hx y hy=>?_⟩;rcases List.mem_cons.mp hy with rfl | hy
   . exact hlo x hx
   . exact Nat.lt_trans (hlo x hx) (hhi y hy)
theorem stand_up{b:Bool}{t:SetTable}(T:Tb b t)(n:Nat):Tb b (t.standIn n):=⟨T.led,rfl,by
 show(Array.range n).toList.Pairwise (· < ·);rw[Array.toList_range];exact List.pairwise_lt_range⟩
theorem lay_up{b:Bool}{t:SetTable}(T:Tb b t)(es:Array (Int × Value))(h:Int)(x:Value):Tb b (layNew t es h x).2.1:=by
 unfold layNew;split
 . rename_i slot wd e;dsimp only;unfold SetTable.orStandIn;split
   . exact put_up T (free_out T e)
   . exact stand_up (put_up T (free_out T e)) _
 . exact stand_up T _
theorem laid_up{m f v:Nat}{led pl:Bool}{hs:Array Int}{t:SetTable}{o:Array Nat}(h:SetTable.laid m f v led pl hs=some (t,o)):Tb led t:=by
 unfold SetTable.laid at h;cases e:SetTable.layClean m hs with
 | none=>rw[e] at h;cases h
 | some ow=>
  rw[e] at h;cases h;refine⟨rfl,rfl,?_⟩;show List.Pairwise _ (List.map _ _).toArray.toList;rw[List.pairwise_map];refine List.Pairwise.filterMap _ (fun a a' haa b hb b' hb'=>?_) List.pairwise_lt_range;obtain⟨x,_,rfl⟩:=Option.map_eq_some_iff.mp hb;obtain⟨y,_,rfl⟩:=Option.map_eq_some_iff.mp hb';exact haa
theorem relay_up{b:Bool}{t:SetTable}(T:Tb b t)(es:Array (Int × Value))(n:Nat):Tb b (relayAll t es n).2.1:=by
 unfold relayAll;split
 . rename_i t' o e;dsimp only;split
   . have:=laid_up e;rw[T.led] at this;exact this
   . exact stand_up T _
 . exact stand_up T _
theorem fresh_up(b:Bool):Tb b (.fresh 0 0 b):=⟨rfl,rfl,List.Pairwise.nil⟩
theorem plain_up{b:Bool}{t:SetTable}(T:Tb b t)(c:Bool):Tb b (if c=true then t else{t with plain:=false}):=by
 cases c
 . exact⟨T.led,T.dm,T.up⟩
 . exact T
end LSet
end
section
namespace LSet
open PySem
section
variable {prog : Program} {w : World} {A : Around} {E : Value -> Shared -> Prop} {s : Shared} {K : Type} [DecidableEq K] {knd : KeyKind prog w K} {b : Bool}
def SetAt(knd:KeyKind prog w K)(b:Bool)(h:Heap)(a:Addr)(es:Array (Int × Value)):Prop:=
 ∃o ep t,h.get? a=some o/\o.ExactSet/\o.data= .set es ep t/\ElemsOf knd es.toList/\es.size < scanBound/\t.fits es.size=true/\Tb b t
theorem SetAt.keep{h h':Heap}{a:Addr}{es:Array (Int × Value)}(S:SetAt knd b h a es)(k: ∀o,h.get? a=some o->h'.get? a=some o):SetAt knd b h' a es:=
 let ⟨o,ep,t,e,r⟩:=S;⟨o,ep,t,k o e,r⟩
theorem put_at{h:Heap}{a:Addr}{es es':Array (Int × Value)}{t':SetTable}{o:Obj}{ep:Nat}{t:SetTable}(ho:h.get? a=some o)(hx:o.ExactSet)(hd:o.data= .set es ep t)(he:ElemsOf knd es'.toList)(hb:es'.size < scanBound)(hf:t'.fits es'.size=true)(T:Tb b t'):
  SetAt knd b (h.update a (Obj.putSet es' t')) a es':=by
 have hg:=Heap.get?_update_self (Obj.putSet es' t') ho (by rw[putSet_of es' t' hd];rfl);rw[putSet_of es' t' hd] at hg;exact⟨_,ep+1,t',hg,hx,rfl,he,hb,hf,T⟩
theorem keys_has{es:Array (Int × Value)}{k:K}(h:(es.toList.any fun e=>knd.is k e.2)=true): ∃j,List.findIdx? (fun e=>knd.is k e.2) es.toList=some j:=by
 cases e:List.findIdx? (fun e=>knd.is k e.2) es.toList with
 | some j=>exact⟨j,rfl⟩
 | none=>
  obtain⟨x,hx,hp⟩:=List.any_eq_true.mp h;have:=List.findIdx?_eq_none_iff.mp e x hx;rw[hp] at this;cases this
theorem keys_not{es:Array (Int × Value)}{k:K}(h: ¬(es.toList.any fun e=>knd.is k e.2)=true):List.findIdx? (fun e=>knd.is k e.2) es.toList=none:=
 List.findIdx?_eq_none_iff.mpr fun x hx=>Bool.eq_false_iff.mpr fun z=>h (List.any_eq_true.mpr ⟨x,hx,z⟩)
theorem add_ok{a:Addr}{es:Array (Int × Value)}{k:K}{x:Value}{Q:Bool->Shared->Prop}(hkey:knd.is k x=true)(hsc:x.scannable=true)(S:SetAt knd b s.heap a es)(hroom:es.size+1 < scanBound)
  (h: ∀r h' es',Heap.SameBut a s.heap h'->SetAt knd b h' a es'->es'.toList.Perm (if (es.toList.any fun e=>knd.is k e.2)=true then es.toList else es.toList++ [(knd.hash k,x)])->Q r {s with heap:=h',toks:=s.toks+1}):
  wpAny (model prog w) A (setAdd a x) Q E s:=by
 obtain⟨o,ep,t,ho,hx,hd,he,hb,hf,T⟩:=id S;unfold setAdd;refine wpAny_holding (wpAny_bind (knd.pyHash hkey ?_));unfold setAddHashed setAddHashedIn;refine wpAny_holding (wpAny_bind (wpAny_setState_of (o:=o) ho hd hf ?_));dsimp only;rw[byScan_of hsc hb he,if_pos rfl];unfold setAddByScan;refine wpAny_bind (wpAny_bind (wpAny_rule (wpAny_bind (wpAny_setScan_of hkey ho hd hf he ?_))));by_cases c_ne:(es.toList.any fun e=>knd.is k e.2)=true
 . obtain⟨j,hj⟩:=keys_has c_ne;rw[hj];dsimp only;refine wpAny_pure (wpAny_pure (h _ s.heap es (Heap.SameBut.refl a s.heap) S ?_));rw[if_pos c_ne]
 . rw[keys_not c_ne];dsimp only;have pm:=layNew_perm t es (knd.hash k) x;have ft:=layNew_fits t es (knd.hash k) x;have up:=lay_up T es (knd.hash k) x;generalize layNew t es (knd.hash k) x=L at pm ft up ⊢;obtain⟨e1,t1,wd,gv⟩:=L;dsimp only at pm ft up ⊢;rw[Array.toList_push] at pm;have h1:ElemsOf knd e1.toList:=(he.push hkey hsc).perm pm;have l1:e1.size=es.size+1:=by rw[<-Array.length_toList,pm.length_eq,List.length_append,Array.length_toList];rfl
   have key: ∀c:Bool,wpAny (model prog w) A (do
     let t:=if c=true then t1 else{t1 with plain:=false}
     storeSet a e1 t
     if (!wd && t.tooFull)=true then
      let (es,t,gave):=relayAll t e1 (SetTable.grown e1.size)
      (match gave with | true=>rule "set.scan.the-table-gave-way" | false=>pure ())
      storeSet a es t
     pure (some true)) (fun r s'=>wpAny (model prog w) A (match r with
      | some added=>pure added
      | none=>setAddHashedIn a x (knd.hash k) 99999) Q E s') E {s with toks:=s.toks+1}:=fun c=>by
    have up2:=plain_up up c;have ft2:(if c=true then t1 else{t1 with plain:=false}:SetTable).fits e1.size=true:=by cases c <;> exact ft
    dsimp only;generalize (if c=true then t1 else{t1 with plain:=false}:SetTable)=t2 at up2 ft2 ⊢;have sz1:e1.size<=sizeLine:=by rw[sizeLine_eq];unfold scanBound at hroom;lia
    refine wpAny_bind (wpAny_storeSet_of (s:={s with toks:=s.toks+1}) ho hd ?_ sz1);have S1:SetAt knd b (s.heap.update a (Obj.putSet e1 t2)) a e1:=put_at ho hx hd h1 (by lia) ft2 up2;have sb:=Heap.SameBut.update s.heap a (Obj.putSet e1 t2);by_cases q:(!wd && t2.tooFull)=true
    . rw[if_pos q];have pm2:=relayAll_perm t2 e1 (SetTable.grown e1.size);have ft3:=relayAll_fits t2 e1 (SetTable.grown e1.size);have up3:=relay_up up2 e1 (SetTable.grown e1.size);generalize relayAll t2 e1 (SetTable.grown e1.size)=L at pm2 ft3 up3 ⊢;obtain⟨e2,t3,g2⟩:=L;dsimp only at pm2 ft3 up3 ⊢;obtain⟨o2,ep2,t4,ho2,hx2,hd2,_⟩:=S1;have l2:e2.size=e1.size:=by rw[<-Array.length_toList,pm2.length_eq,Array.length_toList]
      have fin:wpAny (model prog w) A (do storeSet a e2 t3;pure (some true)) (fun r s'=>wpAny (model prog w) A (match r with
       | some added=>pure added
       | none=>setAddHashedIn a x (knd.hash k) 99999) Q E s') E {s with heap:=s.heap.update a (Obj.putSet e1 t2),toks:=s.toks+1}:=by
       refine wpAny_bind (wpAny_storeSet_of ho2 hd2 (wpAny_pure (wpAny_pure (h _ _ e2 (sb.trans (Heap.SameBut.update _ a _)) (put_at ho2 hx2 hd2 (h1.perm pm2) (by lia) ft3 up3) ?_))) (by lia));rw[if_neg c_ne];exact pm2.trans pm
      cases g2
      . exact wpAny_bind (wpAny_pure fin)
      . exact wpAny_bind (wpAny_rule fin)
    . rw[if_neg q];refine wpAny_pure (wpAny_pure (h _ _ e1 sb S1 ?_));rw[if_neg c_ne];exact pm
   have tail:wpAny (model prog w) A (do
     let byValue<-if t1.plain=true then hashByValue 8 x else pure true
     let t:=if byValue=true then t1 else{t1 with plain:=false}
     storeSet a e1 t
     if (!wd && t.tooFull)=true then
      let (es,t,gave):=relayAll t e1 (SetTable.grown e1.size)
      (match gave with | true=>rule "set.scan.the-table-gave-way" | false=>pure ())
      storeSet a es t
     pure (some true)) (fun r s'=>wpAny (model prog w) A (match r with
      | some added=>pure added
      | none=>setAddHashedIn a x (knd.hash k) 99999) Q E s') E {s with toks:=s.toks+1}:=by
    by_cases q:t1.plain=true
    . rw[if_pos q,hashByValue_scannable 8 hsc];exact wpAny_bind (wpAny_pure (key _))
    . rw[if_neg q];exact wpAny_bind (wpAny_pure (key true))
   cases gv
   . exact wpAny_bind (wpAny_pure tail)
   . exact wpAny_bind (wpAny_rule tail)
end
end LSet
end
section
namespace LSet
open PySem PySem.Spec PyProof.Rows
section
variable {prog : Program} {w : World} {A : Around} {E : Value -> Shared -> Prop} {s : Shared} {K : Type} [DecidableEq K]
structure Kd(prog:Program)(w:World)(K:Type) [DecidableEq K] where
 knd:KeyKind prog w K
 kv:Value->Option K
 iff: ∀k v,knd.is k v=true↔kv v=some k
 sc: ∀k v,kv v=some k->v.scannable=true
variable {κ : Kd prog w K} {b : Bool}
noncomputable def keys(κ:Kd prog w K)(es:List (Int × Value)):List K:=es.filterMap fun e=>κ.kv e.2
structure Ky(κ:Kd prog w K)(es:Array (Int × Value))(l:List K):Prop where
 nd:(keys κ es.toList).Nodup
 mem: ∀k,k∈keys κ es.toList↔k∈l
 len:(keys κ es.toList).length=es.size
theorem mem_keys{es:List (Int × Value)}{k:K}:k∈keys κ es↔(es.any fun e=>κ.knd.is k e.2)=true:=by
 unfold keys;rw[List.mem_filterMap,List.any_eq_true];exact⟨fun⟨e,h1,h2⟩=>⟨e,h1,(κ.iff _ _).mpr h2⟩,fun⟨e,h1,h2⟩=>⟨e,h1,(κ.iff _ _).mp h2⟩⟩
theorem Ky.step{es es':Array (Int × Value)}{l:List K}{k:K}{x:Value}(h:Ky κ es l)(hx:κ.kv x=some k)
  (p:es'.toList.Perm (if (es.toList.any fun e=>κ.knd.is k e.2)=true then es.toList else es.toList++ [(κ.knd.hash k,x)])):Ky κ es' (l++ [k])/\es'.size<=es.size+1:=by
 have q:(keys κ es'.toList).Perm (keys κ (if (es.toList.any fun e=>κ.knd.is k e.2)=true then es.toList else es.toList++ [(κ.knd.hash k,x)])):=p.filterMap _;have sz:es'.size=es'.toList.length:=by simp
 rw[p.length_eq] at sz;by_cases c:(es.toList.any fun e=>κ.knd.is k e.2)=true
 . rw[if_pos c] at q sz;refine⟨⟨q.nodup_iff.mpr h.nd,fun j=>?_,?_⟩,by rw[sz];simp⟩
   . rw[q.mem_iff,List.mem_append,List.mem_singleton];refine(h.mem j).trans ⟨.inl,fun z=>z.elim id fun e=>?_⟩;subst e;exact(h.mem _).mp (mem_keys.mpr c)
   . rw[q.length_eq,sz];simpa using h.len
 . rw[if_neg c] at q sz;have e:keys κ (es.toList++ [(κ.knd.hash k,x)])=keys κ es.toList++ [k]:=by
    unfold keys;rw[List.filterMap_append];simp [hx]
   rw[e] at q;have nm:k∉keys κ es.toList:=fun z=>c (mem_keys.mp z);refine⟨⟨q.nodup_iff.mpr ?_,fun j=>?_,?_⟩,by rw[sz];simp⟩
   . refine List.nodup_append.mpr ⟨h.nd,List.nodup_cons.mpr ⟨List.not_mem_nil,List.nodup_nil⟩,fun x hx y hy z=>?_⟩;cases List.mem_singleton.mp hy;exact nm (z▸hx)
   . rw[q.mem_iff,List.mem_append,List.mem_append,h.mem]
   . rw[q.length_eq,sz,List.length_append,List.length_append,h.len];simp
theorem loop_ok{R:Result->Shared->Prop}{a l it:Addr}{items:Array Value}{ks:List K}(hA:A.handled=none)(hn:items.size=ks.length)(hks: ∀(i:Nat) v k,items[i]?=some v->ks[i]?=some k->κ.kv v=some k)(hb:items.size+1 < scanBound)(h1:a≠it)(h2:a≠l)(h3:it≠l):
  ∀(n i:Nat) (s:Shared) (es:Array (Int × Value)),ks.length - i=n->i<=ks.length->s.heap.IsListIter it l i->s.heap.IsList l items->SetAt κ.knd b s.heap a es->Ky κ es (ks.take i)->es.size<=i->
   (∀h' tk es',SetAt κ.knd b h' a es'->Ky κ es' ks->(∀c o,c≠a->c≠it->s.heap.get? c=some o->h'.get? c=some o)->R (.ok (.ret .none)) {s with heap:=h',toks:=tk})->
   codeAny (model prog w) A (.builtin "set.update.loop" ⟨[.ref a, .ref it],[]⟩) R s
 | 0,i,s,es,hk,hi,st,hl,S,Y,hz,hR=>by
  have e:i=ks.length:=by lia
  subst e;refine codeAny_builtin F.entry_set_update_loop ?_;rw[Around.under_plainId F.plain_set_update_loop _];show wpAny _ A.in1 (pyNext (.ref it) >>=_) _ _ s;refine wpAny_bind (wpAny_pyNext_list_end hA st hl (by simp;lia) fun h' eb=>wpAny_pure ?_);rw[List.take_length] at Y;exact hR h' s.toks es (S.keep fun o e=>eb a o h1 e) Y fun c o _ c2 e=>eb c o c2 e
 | n+1,i,s,es,hk,hi,st,hl,S,Y,hz,hR=>by
  have hlt:i < ks.length:=by lia
  have hv:items[i]?=some items[i]:=Array.getElem?_eq_getElem (by lia);have kv:=hks i _ _ hv (List.getElem?_eq_getElem hlt);refine codeAny_builtin F.entry_set_update_loop ?_;rw[Around.under_plainId F.plain_set_update_loop _];show wpAny _ A.in1 (pyNext (.ref it) >>=_) _ _ s;refine wpAny_bind (wpAny_pyNext_list_item st hl hv fun h' st' sb=>?_);have S1:SetAt κ.knd b h' a es:=S.keep fun o e=>(sb.2 a h1).trans e;show wpAny _ A.in1 (holding [items[i]] (setAdd a items[i]) >>=_) _ _ _;refine wpAny_bind (wpAny_holding (add_ok (s:={s with heap:=h'}) ((κ.iff _ _).mpr kv) (κ.sc _ _ kv) S1 (by lia) fun r h2' es' sb2 S2 pm=>?_));obtain⟨Y2,z2⟩:=Y.step kv pm;have te:ks.take i++ [ks[i]]=ks.take (i+1):=by rw[List.take_succ,List.getElem?_eq_getElem hlt];rfl
  rw[te] at Y2;refine wpAny_pure ⟨plainId_quiet F.plain_set_update_loop _,loop_ok hA hn hks hb h1 h2 h3 n (i+1) _ es' (by lia) (by lia) (st'.at fun o e=>(sb2.2 it (Ne.symm h1)).trans e) ?_ S2 Y2 (by lia) fun h3' tk es3 S3 Y3 k3=>hR h3' tk es3 S3 Y3 fun c o c1 c2 e=>k3 c o c1 c2 ?_⟩
  . obtain⟨o,e,r⟩:=hl;exact⟨o,(sb2.2 l (Ne.symm h2)).trans ((sb.2 l (Ne.symm h3)).trans e),r⟩
  . exact(sb2.2 c c1).trans ((sb.2 c c2).trans e)
end
end LSet
end
section
namespace LSet
open PySem PySem.Spec PyProof.Rows
section
variable {prog : Program} {w : World} {A : Around} {E : Value -> Shared -> Prop} {s : Shared} {K : Type} [DecidableEq K]
noncomputable def newO(b:Bool):Obj:={cls:= .type "set",dict:=none,data:= .set #[] 0 (.fresh 0 0 b)}
theorem type_call{T n1 n2:String}{B:Builtin}{us:List Value}{Q Q1:Value->Shared->Prop}(C:TypeCalled T n1 n2)(hc:checkTypeCall T ⟨us,[]⟩=pure ())(en:entryFor table n2=some B)
  (hn:codeAny (model prog w) A.in1 (.call (.builtin n1) ⟨.type T::us,[]⟩) (wants Q1 E) s)
  (hx: ∀v z,Q1 v z->z.TypeIs v T/\wpAny (model prog w) A.in1.in1 (checkBuiltinCall n2 ⟨v::us,[]⟩) (fun _ z'=>wpAny (model prog w) A.in1.in1 (B ⟨v::us,[]⟩)
    (fun f y=>match f with | .done f=>wants (fun r y=>r= .none/\Q v y) E (.ok f) y | .again c=>c.quiet=true/\codeAny (model prog w) A.in1 c (wants (fun r y=>r= .none/\Q v y) E) y)
    (fun e y=>wants (fun r y=>r= .none/\Q v y) E (.error e) y) z') (fun e y=>wants (fun r y=>r= .none/\Q v y) E (.error e) y) z):wpAny (model prog w) A (call (.type T) us) Q E s:=by
 obtain⟨c,tl,g1⟩:=C.mro;have g2:=C.made;have g3:=C.sub;refine wpAny_call (codeAny_of_tree ?_);show wpAny _ _ (callAny (.type T) _) _ _ _;refine wpAny_pure ⟨Code.quiet_builtin _ (by decide+kernel),codeAny_builtin F.entry_type_call ?_⟩;rw[Around.under_plain (weight_type_call_type T us []) rfl];have g4:=C.notType;have g5:=C.canCreate;repeat (any_goals (first | assumption | wp_step))
 refine codeAny_mono hn fun r z hr=>?_;match r,hr with
 | .error e,hr=>exact hr
 | .ok (.ret v),hr=>
  obtain⟨hT,hk⟩:=hx _ _ hr;have g6:=C.init.lookup;have g7:=C.init.bind v;repeat (any_goals (first | assumption | wp_step))
  refine codeAny_mono (codeAny_call_builtin C.init.plain en hk) fun r y hy=>?_;match r,hy with
  | .error e,hy=>exact hy
  | .ok (.ret r),hy=>
   obtain⟨rfl,q⟩:=hy;repeat (any_goals (first | assumption | wp_step))
  | .ok .next,hy=>exact hy.elim
  | .ok .cont,hy=>exact hy.elim
  | .ok .brk,hy=>exact hy.elim
 | .ok .next,hr=>exact hr.elim
 | .ok .cont,hr=>exact hr.elim
 | .ok .brk,hr=>exact hr.elim
theorem new_code(v:Value){Q1:Value->Shared->Prop}(h:Q1 (.ref s.heap.objs.size) {s with heap:=s.heap.push (newO (!w.params.followText "set-order"))}):
  codeAny (model prog w) A (.call (.builtin "set.__new__") ⟨[.type "set",v],[]⟩) (wants Q1 E) s:=by
 refine codeAny_of_tree ?_;show wpAny _ A.in1 (checkBuiltinCall "set.__new__" ⟨[.type "set",v],[]⟩ >>=fun _=>again (.builtin "set.__new__" ⟨[.type "set",v],[]⟩)) _ _ s;refine wpAny_bind (wpAny_of_eq (F.newCall_set_1 v) (wpAny_pure ⟨plainId_quiet F.plain_set_new _,codeAny_builtin F.entry_set_new ?_⟩));rw[Around.under_plainId F.plain_set_new _];have sub1:=sub_set_self;obtain⟨hp,g,d,tk,os⟩:=s;unfold Builtin.«set.__new__» Builtin.Frozenset.newClass;dsimp only;wp_walk
 refine wpAny_askSetting (wpAny_pure ?_);simp only [newObj];exact wpAny_bind (wpAny_alloc (wpAny_pure (wpAny_pure h)))
variable {κ : Kd prog w K}
theorem call_set{l:Addr}{items:Array Value}{ks:List K}{Q:Value->Shared->Prop}(hA:A.handled=none)(hl:s.heap.IsList l items)(hn:items.size=ks.length)(hks: ∀(i:Nat) v k,items[i]?=some v->ks[i]?=some k->κ.kv v=some k)(hb:items.size+1 < scanBound)
  (h: ∀h' tk es,SetAt κ.knd (!w.params.followText "set-order") h' s.heap.objs.size es->Ky κ es ks->(∀c o,s.heap.get? c=some o->h'.get? c=some o)->Q (.ref s.heap.objs.size) {s with heap:=h',toks:=tk}):
  wpAny (model prog w) A (call (.type "set") [.ref l]) Q E s:=by
 refine type_call (Q1:=fun obj s1=>obj= .ref s.heap.objs.size/\s1={s with heap:=s.heap.push (newO (!w.params.followText "set-order"))}) F.called_set (F.typeCall_set_1 _) F.entry_set_init (new_code _ ⟨rfl,rfl⟩) fun obj s1 e1=>?_;obtain⟨rfl,rfl⟩:=e1;have hS:(s.heap.push (newO (!w.params.followText "set-order"))).get? s.heap.objs.size=some (newO (!w.params.followText "set-order")):=Heap.get?_push_size _ rfl;have hT:({s with heap:=s.heap.push (newO (!w.params.followText "set-order"))}:Shared).TypeIs (.ref s.heap.objs.size) "set":=⟨_,hS,rfl⟩
 have hl1:(s.heap.push (newO (!w.params.followText "set-order"))).IsList l items:=hl.push _;have ll:l < s.heap.objs.size:=let ⟨o,e,_⟩:=hl;Heap.lt_size e;have S0:SetAt κ.knd (!w.params.followText "set-order") (s.heap.push (newO (!w.params.followText "set-order"))) s.heap.objs.size #[]:=⟨_,0,_,hS,⟨rfl,rfl,rfl⟩,rfl,fun e he=>by simp at he,by decide,by rfl,fresh_up _⟩
 have kp: ∀c o,s.heap.get? c=some o->(s.heap.push (newO (!w.params.followText "set-order"))).get? c=some o:=fun c o e=>Heap.get?_push_of_some _ e;have sz:(s.heap.push (newO (!w.params.followText "set-order"))).objs.size=s.heap.objs.size+1:=Heap.size_push _ _;generalize hb0:(!w.params.followText "set-order")=b0 at*;generalize hh0:s.heap.push (newO b0)=h0 at*;generalize hD:s.heap.objs.size=D at*;refine⟨hT,check_set_init_1 hT ?_⟩;have hT2:({s with heap:=h0}:Shared).TypeIs (.ref l) "list":=hl1.typeIs;have f1:=F.sub_list_set;have f2:=F.sub_list_frozenset;have f3:(Value.type "list"==Value.type "dict")=false:=by decide
 obtain⟨hp,g,d,tk,os⟩:=s;unfold Builtin.«set.__init__» Builtin.Frozenset.updateFrom;repeat (any_goals (first | assumption | ((with_reducible show wpAny _ _ (pyIter _) _ _ _);refine wpAny_pyIter_list hl1 ?_) | wp_step))
 have n1:D≠h0.objs.size:=by lia
 have n2:l≠h0.objs.size:=by lia
 have n3:D≠l:=by lia
 refine loop_ok (κ:=κ) (A:=A.in1.in1) (b:=b0) (by simpa using hA) hn hks hb n1 n3 (Ne.symm n2) ks.length 0 _ #[] (by lia) (Nat.zero_le _) ⟨_,Heap.get?_push_size _ rfl,rfl,rfl⟩ (hl1.push _) (S0.keep fun o e=>Heap.get?_push_of_some _ e) ⟨List.nodup_nil,fun k=>by simp [keys],rfl⟩ (Nat.le_refl _) fun h' tk' es' S' Y' k'=>?_;refine wpAny_pure (wpAny_pure ⟨rfl,h h' tk' es' S' Y' fun c o e=>k' c o (fun z=>?_) (fun z=>?_) (Heap.get?_push_of_some _ (kp c o e))⟩)
 . have:=Heap.lt_size e;lia
 . have:=Heap.lt_size e;lia
end
end LSet
end
section
namespace LSet
open PySem PySem.Spec PyProof.Rows
theorem erase_perm{α:Type}: ∀{l:List α} {i:Nat} (h:i < l.length),(l[i]::l.eraseIdx i).Perm l
 | [],i,h=>absurd h (Nat.not_lt_zero _)
 | x::l,0,h=>by simp
 | x::l,i+1,h=>by
  rw[List.eraseIdx_cons_succ,List.getElem_cons_succ];exact(List.Perm.swap _ _ _).trans (.cons _ (erase_perm (by simpa using h)))
theorem pick_go{α:Type}(f:Nat->Nat): ∀(n k:Nat) (l:List α) (out:Array α),l.length=n->(pickOrder.go f n k l out).toList.Perm (out.toList++l)
 | 0,k,l,out,h=>by
  cases List.length_eq_zero_iff.mp h;unfold pickOrder.go;rw[List.append_nil]
 | n+1,k,l,out,h=>by
  have hl:f k % l.length < l.length:=Nat.mod_lt _ (by lia);unfold pickOrder.go;rw[List.getElem?_eq_getElem hl];dsimp only;refine(pick_go f n (k+1) _ _ (by rw[List.length_eraseIdx_of_lt hl];lia)).trans ?_;rw[Array.toList_push,List.append_assoc];exact(erase_perm hl).append_left _
theorem pick_perm{α:Type}(f:Nat->Nat)(xs:Array α):(pickOrder f xs).toList.Perm xs.toList:=by
 have:=pick_go f xs.size 0 xs.toList #[] (by simp);unfold pickOrder;simpa using this
section
variable {prog : Program} {w : World} {A : Around} {E : Value -> Shared -> Prop} {s : Shared}
theorem choose_ok{src:Source}{n:Nat}{Q:Nat->Shared->Prop}(hn:n≠0)(h: ∀i,i < n->Q i {s with drawn:=s.drawn.bump src}):wpAny (model prog w) A (choose src n) Q E s:=
 fun _ _ _=>⟨hn,h _ (Nat.mod_lt _ (Nat.pos_of_ne_zero hn))⟩
theorem draw_ok{α:Type}: ∀(n:Nat) (xs:List α) (s:Shared) (Q:List α->Shared->Prop),xs.length=n->(∀ys d,ys.Perm xs->Q ys {s with drawn:=d})->wpAny (model prog w) A (drawOrder n xs) Q E s
 | 0,xs,s,Q,h,q=>by
  cases List.length_eq_zero_iff.mp h;exact wpAny_pure (q [] s.drawn (.refl _))
 | n+1,[],s,Q,h,q=>by simp at h
 | n+1,x::xs,s,Q,h,q=>by
  unfold drawOrder;refine wpAny_bind (choose_ok (by simp) fun i hi=>?_);rw[List.getElem?_eq_getElem hi];dsimp only;refine wpAny_bind (draw_ok n _ _ _ (by rw[List.length_eraseIdx_of_lt hi];lia) fun ys d pm=>wpAny_pure (q _ d ?_));exact(List.Perm.cons _ pm).trans (erase_perm hi)
theorem si_next:Slot "set_iterator" "__next__" "set_iterator.__next__":= .of (owner:="set_iterator") (n:="__next__") (by rw[typeLookup_type,builtinLookup_eq_fast];kernel_rfl) (by decide+kernel) (by decide+kernel) (by decide+kernel) (by first | exact .inl (by decide+kernel) | exact .inr (by decide+kernel)) (by rw[isSubtype_type];kernel_rfl)
theorem si_iter:Slot "set_iterator" "__iter__" "set_iterator.__iter__":= .of (owner:="set_iterator") (n:="__iter__") (by rw[typeLookup_type,builtinLookup_eq_fast];kernel_rfl) (by decide+kernel) (by decide+kernel) (by decide+kernel) (by first | exact .inl (by decide+kernel) | exact .inr (by decide+kernel)) (by rw[isSubtype_type];kernel_rfl)
theorem si_owner:Manifest.owners.lookup (String.ofList (['r','o','t','a','r','e','t','i','_','t','e','s']:List Char).reverse)=some Manifest.sig_set_iterator:=by kernel_rfl
theorem si_args(a:Value):argsOk "set_iterator.__next__" ⟨[a],[]⟩:=by
 unfold argsOk;rw[signature?_of (id:="set_iterator.__next__") (n:= ['_','_','t','x','e','n','_','_']) (o:= ['r','o','t','a','r','e','t','i','_','t','e','s']) (by kernel_rfl) si_owner];kernel_rfl
theorem si_args2(a:Value):argsOk "set_iterator.__iter__" ⟨[a],[]⟩:=by
 unfold argsOk;rw[signature?_of (id:="set_iterator.__iter__") (n:= ['_','_','r','e','t','i','_','_']) (o:= ['r','o','t','a','r','e','t','i','_','t','e','s']) (by kernel_rfl) si_owner];kernel_rfl
theorem si_entry:entryFor table "set_iterator.__next__"=some Builtin.«set_iterator.__next__» :=entryFor_of_tree (by kernel_rfl)
theorem si_entry2:entryFor table "set_iterator.__iter__"=some Builtin.«dict_keyiterator.__iter__» :=entryFor_alias (id':="dict_keyiterator.__iter__") (by kernel_rfl) (by first | rfl | decide+kernel | (unfold String.splitOn;simp+decide [String.splitOnAux])) (by decide+kernel) (by kernel_rfl)
theorem set_iter_entry:entryFor table "set.__iter__"=some Builtin.«frozenset.__iter__» :=entryFor_alias (id':="frozenset.__iter__") (by kernel_rfl) (by first | rfl | decide+kernel | (unfold String.splitOn;simp+decide [String.splitOnAux])) (by decide+kernel) (by kernel_rfl)
theorem stop_ok{α:Type}{Q:α->Shared->Prop}(hh:A.handled=none)(h: ∀h' x,(∀c o,s.heap.get? c=some o->h'.get? c=some o)->({s with heap:=h'}:Shared).TypeIs (.ref x) "StopIteration"->E (.ref x) {s with heap:=h'}):
  wpAny (model prog w) A (newExc (.type "StopIteration") [] >>=fun e=>raiseNew e) Q E s:=by
 refine wpAny_bind ?_;simp only [newExc,newTuple];refine wpAny_bind (wpAny_newObj_type ?_ (by size_fits));refine wpAny_bind (m:=firstArgMember _ _) (wpAny_of_eq (a:=Value.none) (by first | rfl | (simp only [firstArgMember];rfl)) (wpAny_newObj_type ?_ (by size_fits)));simp only [raiseNew];refine wpAny_bind (wpAny_handled ?_);rw[hh];exact wpAny_bind (wpAny_pure (wpAny_throw (h _ _ (fun c o e=>Heap.get?_push_of_some _ (Heap.get?_push_of_some _ e)) ⟨_,Heap.get?_push_size _ rfl,rfl⟩)))
theorem next_of{I:Addr}{Q:Option Value->Shared->Prop}(hT:s.TypeIs (.ref I) "set_iterator")(h:wpAny (model prog w) A.in1 (Builtin.«set_iterator.__next__» ⟨[.ref I],[]⟩) (fun f z=> ∃v,f= .done (.ret v)/\Q (some v) z) (fun e z=>z.TypeIs e "StopIteration"/\Q none z) s):
  wpAny (model prog w) A (pyNext (.ref I)) Q E s:=by
 unfold pyNext;refine wpAny_bind (wpAny_attempt (wpAny_callSpecial?_slot (name:=Str.ofString "__next__") hT si_next (wpAny_call_entry si_next hT si_entry (wpAny_mono h (fun f z zz=>?_) fun e z zz=>?_) (si_args _))))
 . obtain⟨v,e,q⟩:=zz;exact⟨v,e,wpAny_pure q⟩
 . exact wpAny_bind (wpAny_isInstance (T:="StopIteration") (b:=true) zz.1 isSubtype_stop (wpAny_pure zz.2))
theorem self_of{I:Addr}{Q:Value->Shared->Prop}(hT:s.TypeIs (.ref I) "set_iterator")(h:Q (.ref I) s):wpAny (model prog w) A (pyIter (.ref I)) Q E s:=by
 refine wpAny_pyIter_slot hT si_iter (wpAny_call_entry si_iter hT si_entry2 ?_ (si_args2 _));show wpAny _ _ (ret (.ref I)) _ _ s;exact wpAny_pure ⟨_,rfl,"set_iterator",_,hT,si_next.lookup,h⟩
end
end LSet
end
section
namespace LSet
open PySem PySem.Spec PyProof.Rows
section
variable {prog : Program} {w : World} {A : Around} {E : Value -> Shared -> Prop} {s : Shared}
noncomputable def itO(f:Value)(i n ep:Nat)(a:Addr):Obj:={cls:= .type "set_iterator",data:= .fields #[f, .int i 0, .ref a, .int n 0, .int ep 0]}
structure So(b:Bool)(o:Obj)(es:Array (Int × Value))(ep:Nat)(t:SetTable):Prop where
 d:o.data= .set es ep t
 f:t.fits es.size=true
 T:Tb b t
structure It(a I T:Addr)(o oT:Obj)(f:Nat->Value)(n ep i:Nat)(s:Shared):Prop where
 set:s.heap.get? a=some o
 tup:s.heap.get? T=some oT
 it:s.heap.get? I=some (itO (f i) i n ep a)
variable {a I T : Addr} {o oT : Obj} {es : Array (Int × Value)} {ep : Nat} {t : SetTable} {b : Bool} {f : Nat -> Value}
theorem It.typ{n i:Nat}(h:It a I T o oT f n ep i s):s.TypeIs (.ref I) "set_iterator":=⟨_,h.it,rfl⟩
structure Turn(prog:Program)(w:World)(a I T:Addr)(o oT:Obj)(f:Nat->Value)(es:Array (Int × Value))(ep:Nat)(ord:List Value):Prop where
 one: ∀(A:Around) (E:Value->Shared->Prop) (s:Shared) (Q:PySem.Fin->Shared->Prop) (i:Nat) (v:Value),It a I T o oT f es.size ep i s->ord[i]?=some v->(∀h',Heap.SameBut I s.heap h'->h'.get? I=some (itO (f (i+1)) (i+1) es.size ep a)->Q (.done (.ret v)) {s with heap:=h'})->wpAny (model prog w) A (Builtin.«set_iterator.__next__» ⟨[.ref I],[]⟩) Q E s
 fin: ∀(A:Around) (E:Value->Shared->Prop) (s:Shared) (Q:PySem.Fin->Shared->Prop) (_:A.handled=none),It a I T o oT f es.size ep es.size s->(∀h' x,(∀c oo,c≠I->s.heap.get? c=some oo->h'.get? c=some oo)->({s with heap:=h'}:Shared).TypeIs (.ref x) "StopIteration"->E (.ref x) {s with heap:=h'})->wpAny (model prog w) A (Builtin.«set_iterator.__next__» ⟨[.ref I],[]⟩) Q E s
theorem Turn.walk{ord:List Value}(hA:A.handled=none)(h1:I≠a)(h2:I≠T)(hn:ord.length=es.size)(W:Turn prog w a I T o oT f es ep ord):WalksS prog w A I [I,a,T] [I] (fun x y=>y=x) es.size (fun i v=>ord[i]?=some v) (fun i s=>It a I T o oT f es.size ep i s) where
 sub:=fun c hc=>by cases List.mem_singleton.mp hc;simp
 grefl:=fun _=>rfl
 gtrans:=fun _ _ _ x y=>y.trans x
 frame:=fun i s h' tk st _ k=>⟨k a (by simp) _ st.set,k T (by simp) _ st.tup,k I (by simp) _ st.it⟩
 item:=fun i s Q E hi st k=>next_of st.typ (W.one _ _ s _ i _ st (List.getElem?_eq_getElem (by lia)) fun h' sb hI=>⟨_,rfl,k _ _ (List.getElem?_eq_getElem (by lia)) ⟨(sb.2 a (Ne.symm h1)).trans st.set,(sb.2 T (Ne.symm h2)).trans st.tup,hI⟩ ⟨fun c oo hc e=>(sb.2 c (fun z=>hc (by rw[z];simp))).trans e,rfl,rfl,rfl,Nat.le_refl _⟩⟩)
 done:=fun s Q E st k=>next_of st.typ (W.fin _ _ s _ (by simpa using hA) st fun h' x kp ty=>⟨ty,k _ ⟨fun c oo hc e=>kp c oo (fun z=>hc (by rw[z];simp)) e,rfl,rfl,rfl,Nat.le_refl _⟩⟩)
 self:=fun i s Q E st q=>self_of st.typ q
theorem entries_of{Q:Array (Int × Value)->Shared->Prop}(S:So b o es ep t)(ho:s.heap.get? a=some o)(h:Q es s):wpAny (model prog w) A (setEntries a) Q E s:=wpAny_setEntries_of ho S.d S.f h
theorem state_of{Q:Array (Int × Value) × Nat × SetTable->Shared->Prop}(S:So b o es ep t)(ho:s.heap.get? a=some o)(h:Q (es,ep,t) s):wpAny (model prog w) A (setState a) Q E s:=wpAny_setState_of ho S.d S.f h
theorem byText_of{Q:Bool->Shared->Prop}(h:Q (w.params.followText "set-order") s):wpAny (model prog w) A setsByText Q E s:=by
 unfold setsByText;exact wpAny_bind (wpAny_askSetting (wpAny_pure h))
theorem upd2{I:Addr}{h:Heap}{vs:Array Value}{j1 j2:Nat}{x y:Value}{c:Value}(e:h.get? I=some {cls:=c,data:= .fields vs}):((h.update I (Obj.mapFields (·.setIfInBounds j1 x))).update I (Obj.mapFields (·.setIfInBounds j2 y))).get? I=some {cls:=c,data:= .fields ((vs.setIfInBounds j1 x).setIfInBounds j2 y)}:=by
 have h1:=Heap.get?_update_self (Obj.mapFields (·.setIfInBounds j1 x)) e rfl;exact Heap.get?_update_self (Obj.mapFields (·.setIfInBounds j2 y)) h1 rfl
theorem same2{I:Addr}{h:Heap}{g1 g2:Obj->Obj}:Heap.SameBut I h ((h.update I g1).update I g2):=(Heap.SameBut.update _ _ _).trans (Heap.SameBut.update _ _ _)
theorem turn_int{ord:List Value}(g:Nat->Nat)(S:So b o es ep t)
  (nx: ∀(A:Around) (E:Value->Shared->Prop) (s:Shared) (Q:Option (Value × Nat)->Shared->Prop) (i:Nat) (v:Value),s.heap.get? a=some o->ord[i]?=some v->Q (some (v,g (i+1))) s->wpAny (model prog w) A (setNext a (g i) i ep) Q E s)
  (nn: ∀(A:Around) (E:Value->Shared->Prop) (s:Shared) (Q:Option (Value × Nat)->Shared->Prop),s.heap.get? a=some o->Q none s->wpAny (model prog w) A (setNext a (g es.size) es.size ep) Q E s):
  Turn prog w a I a o o (fun i=> .int (g i) 0) es ep ord where
 one:=fun A E s Q i v st hv k=>by
  unfold Builtin.«set_iterator.__next__»;refine wpAny_bind (wpAny_pure ?_);refine wpAny_bind (wpAny_fieldsOf st.it rfl ?_);dsimp only;refine wpAny_bind (entries_of S st.set ?_);rw[if_neg (by simp)];refine wpAny_bind (nx _ _ s _ i v st.set hv ?_);dsimp only;have it:=st.it;refine wpAny_bind (wpAny_setField it rfl (by show 0 < 5;decide) ?_);have h1:=Heap.get?_update_self (Obj.mapFields (·.setIfInBounds 0 (rawInt (g (i+1))))) it rfl;refine wpAny_bind (wpAny_setField h1 rfl (by show 1 < 5;decide) (wpAny_pure (k _ same2 ?_)));exact upd2 it
 fin:=fun A E s Q hA st k=>by
  unfold Builtin.«set_iterator.__next__»;refine wpAny_bind (wpAny_pure ?_);refine wpAny_bind (wpAny_fieldsOf st.it rfl ?_);dsimp only;refine wpAny_bind (entries_of S st.set ?_);rw[if_neg (by simp)];refine wpAny_bind (nn _ _ s _ st.set ?_);dsimp only;refine wpAny_bind (wpAny_setField st.it rfl (by show 2 < 5;decide) (stop_ok hA fun h' x kp ty=>k h' x (fun c oo hc e=>kp c oo ?_) ty));exact((Heap.SameBut.update _ _ _).2 c hc).trans e
theorem turn_text(S:So b o es ep t)(hw:w.params.followText "set-order"=true):Turn prog w a I a o o (fun _=> .int 0 0) es ep ((pickOrder (w.params.setOrder a ep) es).toList.map (·.2)):=by
 have walk: ∀(A:Around) (E:Value->Shared->Prop) (s:Shared) (Q:Array (Int × Value)->Shared->Prop),s.heap.get? a=some o->Q (pickOrder (w.params.setOrder a ep) es) s->wpAny (model prog w) A (setWalk a) Q E s:=fun A E s Q ho q=>by
  unfold setWalk;refine wpAny_bind (state_of S ho (wpAny_bind (byText_of ?_)));rw[if_pos hw];exact wpAny_bind (wpAny_askSetting (wpAny_pure q))
 have step: ∀(A:Around) (E:Value->Shared->Prop) (s:Shared) (Q:Option (Value × Nat)->Shared->Prop) (i:Nat),s.heap.get? a=some o->Q (((pickOrder (w.params.setOrder a ep) es)[i]?).map fun e=>(e.2,0)) s->wpAny (model prog w) A (setNext a 0 i ep) Q E s:=fun A E s Q i ho q=>by
  unfold setNext;refine wpAny_bind (state_of S ho (wpAny_bind (byText_of ?_)));rw[if_pos hw];dsimp only;rw[if_neg (by simp)];exact wpAny_bind (walk _ _ _ _ ho (wpAny_pure q))
 refine turn_int (fun _=>0) S (fun A E s Q i v ho hv q=>step A E s Q i ho ?_) (fun A E s Q ho q=>step A E s Q _ ho ?_)
 . rw[List.getElem?_map,Array.getElem?_toList] at hv;cases e:(pickOrder (w.params.setOrder a ep) es)[i]? with
   | none=>rw[e] at hv;cases hv
   | some y=>rw[e] at hv;cases hv;exact q
 . have l:(pickOrder (w.params.setOrder a ep) es).size=es.size:=by rw[<-Array.length_toList,(pick_perm _ _).length_eq,Array.length_toList]
   rw[Array.getElem?_eq_none (by lia)];exact q
noncomputable def behind(t:SetTable):Nat->Nat
 | 0=>0
 | i+1=>t.place.getD i 0+1
theorem below_at{t:SetTable}(T:Tb b t){i:Nat}(hi:i<=t.place.size):SetTable.below t.place (behind t i)=i:=by
 have c:=below_cut T.up (behind t i);have le:=c.le;rw[Array.length_toList] at le;have gt: ∀j,(hj:j < t.place.size)->t.place.toList[j]?=some t.place[j]:=fun j hj=>by rw[Array.getElem?_toList];exact Array.getElem?_eq_getElem hj
 cases i with
 | zero=>
  refine Nat.eq_zero_of_not_pos fun z=>?_;have:=c.lo 0 _ z (gt 0 (by lia));exact absurd this (Nat.not_lt_zero _)
 | succ j=>
  have hb:behind t (j+1)=t.place[j]+1:=by show t.place.getD j 0+1=_;rw[getD_lt (by lia)]
  rw[hb] at c le ⊢;rcases Nat.lt_trichotomy (SetTable.below t.place (t.place[j]+1)) (j+1) with z | z | z
  . have:=c.hi j _ (by lia) (gt j (by lia));lia
  . exact z
  . have h1:=c.lo (j+1) _ z (gt (j+1) (by lia));have h2:=pw T.up (Nat.lt_succ_self j) (gt j (by lia)) (gt (j+1) (by lia));lia
theorem turn_slot(S:So b o es ep t)(hw:w.params.followText "set-order"=false)(hl:b=true)(hd:(!t.plain && decide (es.size > 1))=false):Turn prog w a I a o o (fun i=> .int (behind t i) 0) es ep (es.toList.map (·.2)):=by
 have sz:t.place.size=es.size:=by
  have:=S.f;unfold SetTable.fits at this;simp only [Bool.and_eq_true,beq_iff_eq] at this;exact this.1
 have step: ∀(A:Around) (E:Value->Shared->Prop) (s:Shared) (Q:Option (Value × Nat)->Shared->Prop) (i:Nat),i<=es.size->s.heap.get? a=some o->Q (match es[i]?,t.place[i]? with | some (_,x),some j=>some (x,j+1) | _,_=>none) s->wpAny (model prog w) A (setNext a (behind t i) i ep) Q E s:=fun A E s Q i hi ho q=>by
  unfold setNext;refine wpAny_bind (state_of S ho (wpAny_bind (byText_of ?_)));rw[if_neg (by rw[hw];exact Bool.false_ne_true)];dsimp only;show wpAny _ _ (if (!t.plain && decide (es.size > 1))=true then _ else _) _ _ _;rw[if_neg (by rw[hd];exact Bool.false_ne_true)];refine wpAny_bind ?_;show wpAny _ _ (if (!t.led && !es.isEmpty)=true then _ else _) _ _ _;rw[if_neg (by rw[S.T.led,hl];exact Bool.false_ne_true)];refine wpAny_pure (wpAny_pure ?_);rw[below_at S.T (by lia)];exact q
 refine turn_int (behind t) S (fun A E s Q i v ho hv q=>?_) (fun A E s Q ho q=>step A E s Q _ (Nat.le_refl _) ho ?_)
 . rw[List.getElem?_map,Array.getElem?_toList] at hv;cases e:es[i]? with
   | none=>rw[e] at hv;cases hv
   | some y=>
    rw[e] at hv;cases hv;have hi:=(Array.getElem?_eq_some_iff.mp e).1;refine step A E s Q i (by lia) ho ?_;rw[e,Array.getElem?_eq_getElem (show i < t.place.size by lia)];have:behind t (i+1)=t.place[i]+1:=by show t.place.getD i 0+1=_;rw[getD_lt (by lia)]
    rw[this] at q;exact q
 . rw[Array.getElem?_eq_none (Nat.le_refl _)];exact q
noncomputable def tupO(ps:List Nat):Obj:={cls:= .type "tuple",data:= .seq (ps.map fun(i:Nat)=>rawInt i).toArray}
theorem turn_draw{ps:List Nat}(S:So b o es ep t)(pm:ps.Perm (List.range es.size)):Turn prog w a I T o (tupO ps) (fun i=>if i<=es.size then .ref T else .none) es ep (ps.map fun p=>(es.getD p (0, .none)).2):=by
 have ln:ps.length=es.size:=by rw[pm.length_eq,List.length_range]
 have nx: ∀(A:Around) (E:Value->Shared->Prop) (s:Shared) (Q:Value->Shared->Prop) (p:Nat) (hp:p < es.size),s.heap.get? a=some o->Q es[p].2 s->wpAny (model prog w) A (setNextDrawn a p ep) Q E s:=fun A E s Q p hp ho q=>by
  unfold setNextDrawn;refine wpAny_bind (state_of S ho ?_);dsimp only;rw[if_neg (by simp),Array.getElem?_eq_getElem hp];exact wpAny_pure q
 constructor
 . intro A E s Q i v st hv k;rw[List.getElem?_map] at hv;cases e:ps[i]? with
   | none=>rw[e] at hv;cases hv
   | some p=>
    rw[e] at hv;cases hv;have hi:=(List.getElem?_eq_some_iff.mp e).1;have hp:p < es.size:=List.mem_range.mp (pm.mem_iff.mp (List.mem_of_getElem? e));have it:=st.it;dsimp only at it k;rw[if_pos (by lia)] at it;rw[if_pos (by lia)] at k;unfold Builtin.«set_iterator.__next__»;refine wpAny_bind (wpAny_pure ?_);refine wpAny_bind (wpAny_fieldsOf it rfl ?_);dsimp only;refine wpAny_bind (entries_of S st.set ?_);rw[if_neg (by simp)];refine wpAny_bind (wpAny_seqItems st.tup rfl ?_);dsimp only;have ge:(ps.map fun(i:Nat)=>rawInt i).toArray[(i:Int).toNat]?=some (rawInt (p:Int)):=by
     rw[Int.toNat_natCast,List.getElem?_toArray,List.getElem?_map,e];rfl
    rw[ge];show wpAny _ _ (setNextDrawn a ((p:Int).toNat) ((ep:Int).toNat) >>=_) _ _ _;rw[Int.toNat_natCast,Int.toNat_natCast];refine wpAny_bind (nx _ _ s _ p hp st.set ?_);have gd:es.getD p (0, .none)=es[p]:=by simp [Array.getD,hp]
    rw[gd] at k;refine wpAny_bind (wpAny_setField it rfl (by show 1 < 5;decide) (wpAny_pure (k _ (Heap.SameBut.update _ _ _) ?_)));exact Heap.get?_update_self (Obj.mapFields (·.setIfInBounds 1 (rawInt ((i:Int)+1)))) it rfl
 . intro A E s Q hA st k;have it:=st.it;rw[if_pos (Nat.le_refl _)] at it;unfold Builtin.«set_iterator.__next__»;refine wpAny_bind (wpAny_pure ?_);refine wpAny_bind (wpAny_fieldsOf it rfl ?_);dsimp only;refine wpAny_bind (entries_of S st.set ?_);rw[if_neg (by simp)];refine wpAny_bind (wpAny_seqItems st.tup rfl ?_);dsimp only;have ge:(ps.map fun(i:Nat)=>rawInt i).toArray[((es.size:Nat):Int).toNat]?=none:=by
    rw[Int.toNat_natCast,List.getElem?_toArray,List.getElem?_map,List.getElem?_eq_none (by lia)];rfl
   rw[ge];dsimp only;refine wpAny_bind (wpAny_setField it rfl (by show 0 < 5;decide) ?_);have h1:=Heap.get?_update_self (Obj.mapFields (·.setIfInBounds 0 (rawInt 0))) it rfl;refine wpAny_bind (wpAny_setField h1 rfl (by show 2 < 5;decide) (stop_ok hA fun h' x kp ty=>k h' x (fun c oo hc e=>kp c oo ?_) ty));exact(same2.2 c hc).trans e
end
end LSet
end
section
namespace LSet
open PySem PySem.Spec PyProof.Rows
section
variable {prog : Program} {w : World} {A : Around} {E : Value -> Shared -> Prop} {s : Shared}
variable {a : Addr} {o : Obj} {es : Array (Int × Value)} {ep : Nat} {t : SetTable} {b : Bool}
theorem epoch_of{Q:Nat->Shared->Prop}(S:So b o es ep t)(ho:s.heap.get? a=some o)(h:Q ep s):wpAny (model prog w) A (setEpoch a) Q E s:=wpAny_setEpoch_of ho S.d S.f h
theorem getD_perm{ps:List Nat}(pm:ps.Perm (List.range es.size)):(ps.map fun p=>(es.getD p (0, .none)).2).Perm (es.toList.map (·.2)):=by
 refine(pm.map _).trans ?_;have:(List.range es.size).map (fun p=>(es.getD p (0,Value.none)).2)=es.toList.map (·.2):=by
  refine List.ext_getElem (by simp) fun i h1 h2=>?_;have hi:i < es.size:=by simpa using h1
  simp [Array.getD,hi]
 rw[this]
theorem iter_set{Q:Value->Shared->Prop}(S:So b o es ep t)(ho:s.heap.get? a=some o)(hc:o.cls= .type "set")(hb:b=!w.params.followText "set-order")(hz:es.size<=sizeLine)
  (h: ∀I T oT f ord h' d,Turn prog w a I T o oT f es ep ord->It a I T o oT f es.size ep 0 {s with heap:=h',drawn:=d}->ord.Perm (es.toList.map (·.2))->I≠a->I≠T->I < h'.objs.size->T < h'.objs.size->(∀c oo,s.heap.get? c=some oo->h'.get? c=some oo)->s.heap.objs.size<=I->(T=a\/s.heap.objs.size<=T)->Q (.ref I) {s with heap:=h',drawn:=d}):
  wpAny (model prog w) A (pyIter (.ref a)) Q E s:=by
 have hT:s.TypeIs (.ref a) "set":=⟨o,ho,hc⟩
 have la:=Heap.lt_size ho;refine wpAny_pyIter_slot hT F.slot_set_iter (wpAny_call_entry F.slot_set_iter hT set_iter_entry ?_ (F.args_set_iter_1 _));unfold Builtin.«frozenset.__iter__»;show wpAny _ _ (Builtin.Frozenset.slot0 "__iter__" ⟨[.ref a],[]⟩ >>=_) _ _ s;refine wpAny_bind (wpAny_pure ?_);unfold Builtin.Frozenset.sizeOf;refine wpAny_bind (wpAny_bind (entries_of S ho (wpAny_pure ?_)));unfold setDrawn;refine wpAny_bind (wpAny_bind (state_of S ho (wpAny_bind (byText_of (wpAny_pure ?_)))));show wpAny _ _ (if (!w.params.followText "set-order" && (!t.plain && decide (es.size > 1)))=true then _ else _) _ _ s;cases hw:w.params.followText "set-order" with
 | true=>
  rw[if_neg (by simp)];refine wpAny_bind (wpAny_pure ?_);refine wpAny_bind (epoch_of S ho ?_);refine wpAny_bind (wpAny_newObj_type (wpAny_pure ⟨_,rfl,"set_iterator",_,⟨_,Heap.get?_push_size _ rfl,rfl⟩,si_next.lookup,?_⟩));have sz:(s.heap.push {cls:= .type "set_iterator",data:= .fields #[rawInt 0,rawInt 0, .ref a,rawInt es.size,rawInt ep]}).objs.size=s.heap.objs.size+1:=Heap.size_push _ _;exact h _ a o _ _ _ s.drawn (turn_text S hw) ⟨Heap.get?_push_of_some _ ho,Heap.get?_push_of_some _ ho,Heap.get?_push_size _ rfl⟩ ((pick_perm _ _).map _) (by lia) (by lia) (by lia) (by lia) (fun c oo e=>Heap.get?_push_of_some _ e) (Nat.le_refl _) (.inl rfl)
 | false=>
  cases hd:(!t.plain && decide (es.size > 1)) with
  | false=>
   rw[if_neg (by decide)];refine wpAny_bind (wpAny_pure ?_);refine wpAny_bind (epoch_of S ho ?_);refine wpAny_bind (wpAny_newObj_type (wpAny_pure ⟨_,rfl,"set_iterator",_,⟨_,Heap.get?_push_size _ rfl,rfl⟩,si_next.lookup,?_⟩));have sz:(s.heap.push {cls:= .type "set_iterator",data:= .fields #[rawInt 0,rawInt 0, .ref a,rawInt es.size,rawInt ep]}).objs.size=s.heap.objs.size+1:=Heap.size_push _ _;exact h _ a o _ _ _ s.drawn (turn_slot S hw (by rw[hb,hw];rfl) hd) ⟨Heap.get?_push_of_some _ ho,Heap.get?_push_of_some _ ho,Heap.get?_push_size _ rfl⟩ (.refl _) (by lia) (by lia) (by lia) (by lia) (fun c oo e=>Heap.get?_push_of_some _ e) (Nat.le_refl _) (.inl rfl)
  | true=>
   rw[if_pos (by decide)];refine wpAny_bind (draw_ok es.size (List.range es.size) s _ (by simp) fun ps d pm=>?_);have ln:ps.length=es.size:=by rw[pm.length_eq,List.length_range]
   refine wpAny_bind (wpAny_newTuple ?_ (by rw[List.length_map];lia));have sz:(s.heap.push (tupO ps)).objs.size=s.heap.objs.size+1:=Heap.size_push _ _;refine wpAny_bind (epoch_of (s:={s with heap:=s.heap.push (tupO ps),drawn:=d}) S (Heap.get?_push_of_some _ ho) ?_);refine wpAny_bind (wpAny_newObj_type (wpAny_pure ⟨_,rfl,"set_iterator",_,⟨_,Heap.get?_push_size _ rfl,rfl⟩,si_next.lookup,?_⟩));have sz2:((s.heap.push (tupO ps)).push {cls:= .type "set_iterator",data:= .fields #[.ref s.heap.objs.size,rawInt 0, .ref a,rawInt es.size,rawInt ep]}).objs.size=s.heap.objs.size+1+1:=by rw[Heap.size_push,sz]
   refine h _ s.heap.objs.size (tupO ps) _ _ _ d (turn_draw S pm) ⟨Heap.get?_push_of_some _ (Heap.get?_push_of_some _ ho),Heap.get?_push_of_some _ (Heap.get?_push_size _ rfl),Heap.get?_push_size _ ?_⟩ (getD_perm pm) ?_ ?_ ?_ ?_ (fun c oo e=>Heap.get?_push_of_some _ (Heap.get?_push_of_some _ e)) ?_ (.inr (Nat.le_refl _))
   . rfl
   . rw[sz];lia
   . rw[sz];lia
   . rw[sz];exact Nat.lt_of_lt_of_eq (Nat.lt_succ_self _) sz2.symm
   . exact Nat.lt_of_lt_of_eq (by lia) sz2.symm
   . rw[sz];lia
theorem set_len:typeLookup (.type "set") "__len__"=pure (some (.builtin "set.__len__")):=by rw[typeLookup_type,builtinLookup_eq_fast];kernel_rfl
theorem collect_set{Q:List Value->Shared->Prop}(hA:A.handled=none)(S:So b o es ep t)(ho:s.heap.get? a=some o)(hc:o.cls= .type "set")(hb:b=!w.params.followText "set-order")(hz:es.size<=sizeLine)
  (h: ∀h' d tk acc,s.heap.objs.size < h'.objs.size->(∀c oo,s.heap.get? c=some oo->h'.get? c=some oo)->acc.Perm (es.toList.map (·.2))->Q acc {s with heap:=h',drawn:=d,toks:=tk}):wpAny (model prog w) A (collect (.ref a)) Q E s:=by
 have la:=Heap.lt_size ho;unfold collect;refine wpAny_bind (wpAny_runValue (codeAny_builtin F.entry_proto_collect ?_));rw[Around.under_plainId F.plain_proto_collect _];show wpAny _ A.in1 (newList [] >>=fun l=>again (.builtin "list.__iadd__" ⟨[l, .ref a],[]⟩)) _ _ s;refine wpAny_bind (wpAny_newObj_type (wpAny_pure ⟨plainId_quiet F.plain_list_iadd _,codeAny_builtin F.entry_list_iadd ?_⟩));rw[Around.under_plainId F.plain_list_iadd _];let L:Obj:={cls:= .type "list",data:= .seq #[]}
 have hL:(s.heap.push L).get? s.heap.objs.size=some L:=Heap.get?_push_size _ rfl;have ho1:(s.heap.push L).get? a=some o:=Heap.get?_push_of_some _ ho;have szL:(s.heap.push L).objs.size=s.heap.objs.size+1:=Heap.size_push _ _;have n1:Builtin.List.listSameRef (.ref s.heap.objs.size) (.ref a)=false:=by
  show(s.heap.objs.size==a)=false;rw[beq_eq_false_iff_ne];lia
 have hT1:({s with heap:=s.heap.push L}:Shared).TypeIs (.ref a) "set":=⟨o,ho1,hc⟩
 show wpAny _ A.in1 (Builtin.List.listExtendWith (.ref s.heap.objs.size) (.ref a) (.ref s.heap.objs.size)) _ _ {s with heap:=s.heap.push L};unfold Builtin.List.listExtendWith;refine wpAny_bind (wpAny_typeOf hT1 ?_);rw[if_neg (by rw[n1];decide)];refine wpAny_bind (iter_set S ho1 hc hb hz fun I T oT f ord h' d W st pm nIa nIT lI lT kp gI gT=>?_);have hT2:({s with heap:=h',drawn:=d}:Shared).TypeIs (.ref a) "set":=⟨o,st.set,hc⟩
 refine wpAny_bind (wpAny_holding ?_);unfold Builtin.List.listLengthHint;refine wpAny_bind (wpAny_specialOf hT2 set_len ?_);have sp:splitId "set.__len__"=some ("set","__len__"):=by decide+kernel
 dsimp only;rw[sp];dsimp only;refine wpAny_bind (wpAny_isInstance (b:=true) hT2 sub_set_self ?_);rw[if_neg (by decide),if_pos (by decide+kernel)];refine wpAny_bind (wpAny_typeOf hT2 (wpAny_pure ?_));rw[if_pos (by decide+kernel)];refine wpAny_bind (wpAny_rule ?_);have hL2:h'.get? s.heap.objs.size=some L:=kp _ _ hL;unfold Builtin.List.listTouch;refine wpAny_bind (wpAny_bind (listUpdate_at hL2 rfl ?_ (by decide) (by decide)));have g1:=Heap.get?_update_self (Obj.mapSeq fun x=>x.push Value.none) hL2 rfl;refine listUpdate_at g1 rfl ?_ (by decide) (by decide);have g2:=Heap.get?_update_self (Obj.mapSeq fun x=>x.pop) g1 rfl;have nS:s.heap.objs.size∉ [I,a,T]:=by
  have:T≠s.heap.objs.size:=by
   rcases gT with z | z
   . lia
   . have:s.heap.objs.size+1<=T:=by rw[<-szL];exact z
     lia
  have:I≠s.heap.objs.size:=by
   have:s.heap.objs.size+1<=I:=by rw[<-szL];exact gI
   lia
  simp only [List.mem_cons,List.not_mem_nil,or_false,not_or];exact⟨by lia,by lia,by lia⟩
 have k2: ∀c oo,c≠s.heap.objs.size->h'.get? c=some oo->((h'.update s.heap.objs.size (Obj.mapSeq fun x=>x.push Value.none)).update s.heap.objs.size (Obj.mapSeq fun x=>x.pop)).get? c=some oo:=fun c oo hc e=>(same2.2 c hc).trans e;have nm: ∀c∈ [I,a,T],c≠s.heap.objs.size:=fun c hc z=>nS (z▸hc);have ln:ord.length=es.size:=by rw[pm.length_eq];simp
 have st2:It a I T o oT f es.size ep 0 {s with heap:=(h'.update s.heap.objs.size (Obj.mapSeq fun x=>x.push Value.none)).update s.heap.objs.size (Obj.mapSeq fun x=>x.pop),drawn:=d}:=⟨k2 _ _ (nm a (by simp)) st.set,k2 _ _ (nm T (by simp)) st.tup,k2 _ _ (nm I (by simp)) st.it⟩
 refine wpAny_pure ⟨plainId_quiet F.plain_extend_loop _,codeAny_extend_loopS (W.walk (A:=A.in1) (by simpa using hA) nIa nIT ln) hz _ nS _ es.size 0 _ _ _ (by lia) (Nat.zero_le _) st2 g2 (ItemsOf.nil _) fun z acc c mv gz ia=>?_⟩;show wpAny _ A (load s.heap.objs.size >>=_) _ _ z;refine wpAny_bind (wpAny_load gz (wpAny_pure ?_));have ea:acc.toList=ord:=by
  refine List.ext_getElem? fun i=>?_;rw[Array.getElem?_toList];by_cases hi:i < acc.size
  . have e:=Array.getElem?_eq_getElem hi;rw[e];exact(ia.2 i _ e).symm
  . rw[Array.getElem?_eq_none (by lia),List.getElem?_eq_none (by have:=ia.1;lia)]
 rw[ea];obtain⟨hz1,gz1,dz1,tz1,oz1⟩:=z;have q1:gz1=s.gens:=mv.gens;have q2:dz1=d:=mv.drawn;have q3:oz1=s.os:=mv.os;subst q1;subst q2;subst q3;refine h hz1 dz1 tz1 ord (Heap.lt_size gz) (fun c oo e=>mv.heap c oo ?_ (k2 c oo ?_ (kp c oo (Heap.get?_push_of_some _ e)))) pm
 . have:=Heap.lt_size e;have:s.heap.objs.size+1<=I:=by rw[<-szL];exact gI
   simp only [List.mem_cons,List.not_mem_nil,or_false,not_or];exact⟨by lia,by lia⟩
 . have:=Heap.lt_size e;lia
end
end LSet
end
section
namespace LSet
open PySem PySem.Spec PyProof.Rows
noncomputable def intK(prog:Program)(w:World):Kd prog w Int where
 knd:=PySem.intKind prog w
 kv:=fun v=>match v with
  | .int x _=>some x
  | _=>none
 iff:=fun k v=>by
  constructor
  . intro h;obtain⟨t,rfl⟩:=Value.isInt_shape h;rfl
  . intro h;cases v <;> first | (cases h;exact beq_self_eq_true _) | cases h
 sc:=fun k v h=>by cases v <;> first | rfl | cases h
section
variable {prog : Program} {w : World} {A : Around} {E : Value -> Shared -> Prop} {s : Shared} {K : Type} [DecidableEq K] {κ : Kd prog w K}
def SetHas(κ:Kd prog w K)(a:Addr)(ts:List K)(h:Heap):Prop:= ∃es,SetAt κ.knd (!w.params.followText "set-order") h a es/\Ky κ es ts
def Srt(κ:Kd prog w K)(P:List K->Prop):Prop:= ∀(A:Around) (E:Value->Shared->Prop) (s:Shared) (Q:PySem.Fin->Shared->Prop) (p n:Nat) (vs:List Value) (ks:List K),s.heap.get? p=some (seqObj "list" vs.toArray n)->vs.length=ks.length->(∀(i:Nat) v k,vs[i]?=some v->ks[i]?=some k->κ.kv v=some k)->vs.length < 64->
 (∀(out:Array Value) (us:List K),out.size=us.length->(∀(i:Nat) v k,out[i]?=some v->us[i]?=some k->κ.kv v=some k)->us.Perm ks->P us->Q (.done (.ret .none)) {s with heap:=sortedHeap s.heap p vs out})->wpAny (model prog w) A (Builtin.«list.sort» ⟨[.ref p],[]⟩) Q E s
theorem all_keys{l:List Value}: ∀{ks:List K},l.filterMap κ.kv=ks->ks.length=l.length-> ∀(i:Nat) v k,l[i]?=some v->ks[i]?=some k->κ.kv v=some k:=by
 induction l with
 | nil=>intro ks _ _ i v k h _;simp at h
 | cons x l ih=>
  intro ks e hl i v k h1 h2;cases hx:κ.kv x with
  | none=>
   exfalso;rw[List.filterMap_cons_none hx] at e;have:=List.length_filterMap_le κ.kv l;rw[e,hl,List.length_cons] at this;lia
  | some y=>
   rw[List.filterMap_cons_some hx] at e;cases ks with
   | nil=>cases e
   | cons z zs=>
    cases e;cases i with
    | zero=>cases h1;cases h2;exact hx
    | succ j=>exact ih rfl (by simpa using hl) j v k (by simpa using h1) (by simpa using h2)
theorem ints_of: ∀{vs:List Value} {ks:List Int},vs.length=ks.length->(∀(i:Nat) v k,vs[i]?=some v->ks[i]?=some k->(intK prog w).kv v=some k)->IntsAre vs ks
 | [],[],_,_=> .nil
 | [],_::_,l,_=>by simp at l
 | _::_,[],l,_=>by simp at l
 | v::vs,k::ks,l,h=>by
  have h0:=h 0 v k rfl rfl;cases v <;> first | (cases h0;exact .cons _ _ (ints_of (by simpa using l) fun i v k h1 h2=>h (i+1) v k (by simpa using h1) (by simpa using h2))) | cases h0
theorem of_ints: ∀{vs:List Value} {ks:List Int},IntsAre vs ks->vs.length=ks.length/\ ∀(i:Nat) v k,vs[i]?=some v->ks[i]?=some k->(intK prog w).kv v=some k
 | _,_, .nil=>⟨rfl,fun i v k h _=>by simp at h⟩
 | _,_, .cons y t r=>by
  obtain⟨h1,h2⟩:=of_ints r;refine⟨by rw[List.length_cons,List.length_cons,h1],fun i v k a b=>?_⟩;cases i with
  | zero=>cases a;cases b;rfl
  | succ j=>exact h2 j v k (by simpa using a) (by simpa using b)
theorem srt_ints:Srt (intK prog w) (fun us=>us.Pairwise (· <= ·)):=fun A E s Q p n vs ks hp hl hk h64 h=>by
 have S:=ints_of hl hk;refine list_sort_tree hp S h64 fun out us h1 h2 h3=>?_;obtain⟨l1,l2⟩:=of_ints (prog:=prog) (w:=w) h1;exact h _ us (by simpa using l1) (fun i v k a b=>l2 i v k (by rw[Array.getElem?_toList];exact a) b) h2 h3
end
end LSet
end
section
namespace LD
open PySem PySem.Spec L2 LB PyProof.Rows LW
theorem EnvR.frzT{Ws:List Wd}{M:Addr->Prop}{α:List (List Addr)}{H:Hp}{σ:L2.St}{δ:List Sl}{i:Nat}(E:EnvR Ws M α H σ δ){ks:List (List Key)}{ds:List Dt}(hi:δ[i]?=some (td ks ds)): ∃M' α',EnvR Ws M' α' H σ (δ.set i (.im (.dit ks ds))):=by
 have hlt:=(List.getElem?_eq_some_iff.mp hi).1;obtain⟨a,xs,h1,h2,h3,h4,r⟩:=td_at E hi;have mono: ∀{v:V} {d:Dt},Rep M H v d->Rep (fun b=>M b/\b≠a) H v d:=fun r=>r.mono fun b u e n=>⟨e,fun z=>n z.1⟩
 have monos: ∀{v:List V} {d:List Dt},Reps M H v d->Reps (fun b=>M b/\b≠a) H v d:=fun r=>r.mono fun b u e n=>⟨e,fun z=>n z.1⟩
 refine⟨fun b=>M b/\b≠a,α.set i [],⟨by rw[List.length_set,E.ls],by rw[List.length_set,List.length_set,E.la],fun j s hj=>?_,flat_nd_set E.nd List.nodup_nil (fun x hx=>absurd hx List.not_mem_nil),fun b hb=>?_,fun b hb=>E.al b hb.1,fun W hW=>?_⟩⟩
 . by_cases hij:i=j
   . subst hij;rw[List.getElem?_set_self hlt] at hj;cases hj;have rm:=monos r;exact⟨some (.ref a),[],h1,by rw[List.getElem?_set_self (by rw[E.la];exact hlt)],rfl,_,rfl, .dit h3 (fun z=>z.2 rfl) h4 rm.1 rm.2⟩
   . rw[List.getElem?_set_ne hij] at hj;obtain⟨o2,as2,g1,g2,g3⟩:=E.sl j s hj;refine⟨o2,as2,g1,by rw[List.getElem?_set_ne hij];exact g2,?_⟩;cases s with
     | no=>exact g3
     | im d=>exact⟨g3.1,let ⟨v,e,r⟩:=g3.2;⟨v,e,mono r⟩⟩
     | ow ds=>obtain⟨b,xs,e1,e2,e3,r⟩:=g3;exact⟨b,xs,e1,e2,e3,monos r⟩
     | bx t=>exact g3
     | dk ks ds=>obtain⟨b,vs,e1,e2,e3,e4,r⟩:=g3;exact⟨b,vs,e1,e2,e3,e4,monos r⟩
     | ob R=>obtain⟨v,e,r⟩:=g3;exact⟨v,e,R.st r (fun _ _ _ q=>q) fun b u q n=>⟨q,fun z=>n z.1⟩⟩
     | fn f=>exact g3
 . obtain⟨l,hl,hx⟩:=List.mem_flatten.mp hb;obtain⟨j,hj,e⟩:=List.getElem_of_mem hl;have ej:(α.set i [])[j]?=some l:=by rw[List.getElem?_eq_getElem hj,e]
   by_cases hij:i=j
   . subst hij;rw[List.getElem?_set_self (by rw[E.la];exact hlt)] at ej;cases ej;exact absurd hx List.not_mem_nil
   . rw[List.getElem?_set_ne hij] at ej;refine⟨E.mu b (flat_get ej hx),fun z=>?_⟩;subst z;exact flat_apart E.nd ej h2 (Ne.symm hij) hx (by simp)
 . have k:=E.w W hW;refine⟨k.bs,k.ex,fun b hb=>(flat_set hb).elim (k.fr b) fun z=>absurd z List.not_mem_nil,fun b z=>⟨k.m0 b z,fun y=>?_⟩,fun b z=>k.m1 b z.1,fun d c e=>?_,fun j s as g1 g2 nb=>?_⟩
   . subst y;exact k.fz i _ _ hi h2 rfl b (by simp) z
   . obtain⟨t,e1,e2⟩:=k.bx d c e;have:i≠0:=fun z=>by subst z;rw[hi] at e1;cases e1
     exact⟨t,by rw[List.getElem?_set_ne this];exact e1,by rw[List.getElem?_set_ne this];exact e2⟩
   . by_cases hij:i=j
     . subst hij;rw[List.getElem?_set_self (by rw[E.la];exact hlt)] at g2;cases g2;exact fun b hb=>absurd hb List.not_mem_nil
     . rw[List.getElem?_set_ne hij] at g1 g2;exact k.fz j s as g1 g2 nb
section
variable {X : Cx} {st : Stmt} {rest : List Stmt} {T : DTS}
inductive dFrzT(i:Nat)(T:DTS)(Δ:DEnds)(δ:List Sl):Prop
 | mk (ks:List (List Key)) (ds:List Dt) (h1:δ[i]?=some (td ks ds)) (h2:T Δ (δ.set i (.im (.dit ks ds))))
theorem frzT_read{i:Nat}: ∀D σ H,lS (dFrzT i T) D σ H->lS T D σ H:=fun D σ H zz1=>(by obtain⟨Ws,M,α,δ,Δ,E,L,ks,ds,h,q⟩:=zz1;exact(by
 obtain⟨M',α',E'⟩:=EnvR.frzT E h;exact⟨Ws,M',α',_,Δ,E',L,q⟩))
theorem s_frzT(i:Nat)(h:Ex X st T):Ex X st (dFrzT i T):=PS.imp h frzT_read
end
end LD
end
section
namespace LSrt
open PySem PySem.Spec L2 LB PyProof.Rows PySem.W LDw
theorem paired_get{α β:Type}{R:α->β->Prop}{l:List α}{m:List β}(h:Paired R l m): ∀{i:Nat} {x:α} {y:β},l[i]?=some x->m[i]?=some y->R x y:=by
 induction h with
 | nil=>intro i x y h;simp at h
 | cons r _ ih=>
  intro i x y h1 h2;cases i with
  | zero=>cases h1;cases h2;exact r
  | succ j=>exact ih (by simpa using h1) (by simpa using h2)
end LSrt
end
section
namespace LSrt
open PySem PySem.Spec L2 LB PyProof.Rows PySem.W LDw
section
variable {prog : Program} {w : World} {A : Around} {E : Value -> Shared -> Prop} {s : Shared} {d : Addr} {od : Obj} {es : Array DictEntry} {ep : Nat} {K : Nat -> Int}
theorem sorted_dictX{Q:Value->Shared->Prop}(hA:A.handled=none)(hx:od.ExactDict)(lo:(d==sysModules)=false)(hR:DRaw s.heap d od es ep)(h64:es.size<=100000)(hK: ∀i j,i < es.size->j < es.size->(es.toList.map (·.key)).getD i Value.none=(es.toList.map (·.key)).getD j Value.none->K i=K j)
  (hk:2<=es.size-> ∀h' tk,(∀b o,s.heap.get? b=some o->h'.get? b=some o)-> ∃κ,Ask prog w A.in1.in1 (es.toList.map (·.key)) K {s with heap:=h',toks:=tk} κ)
  (h: ∀h' tk p n q,(∀b o,s.heap.get? b=some o->h'.get? b=some o)->s.heap.objs.size<=p->Pm es.size q->Asc K q es.size->h'.get? p=some (seqObj "list" (outs (es.toList.map (·.key)) q) n)->Q (.ref p) {s with heap:=h',toks:=tk}):
  wpAny (model prog w) A (call (.builtin "sorted") [.ref d]) Q E s:=by
 have vl:(es.toList.map (·.key)).length=es.size:=by rw[List.length_map,Array.length_toList]
 refine Calls.call_function_entry kind_sorted plain_sorted entry_sorted (args_sorted1 _) ?_;unfold Builtin.«sorted»;refine wpAny_bind (m:=checkCount "sorted" 1 1 _) (wpAny_pure (wpAny_bind (collect_keys (by simpa using hA) hx lo hR (by rw[sizeLine_eq];lia) fun h' tk ls kp=>?_)));refine wpAny_bind (wpAny_newList ?_ (by rw[sizeLine_eq];lia));have g1:(h'.push (seqObj "list" (es.toList.map (·.key)).toArray 0)).get? h'.objs.size=some (seqObj "list" (es.toList.map (·.key)).toArray 0):=Heap.get?_push_size _ rfl;have k1: ∀b o,s.heap.get? b=some o->(h'.push (seqObj "list" (es.toList.map (·.key)).toArray 0)).get? b=some o:=fun b o e=>Heap.get?_push_of_some _ (kp b o e);refine wpAny_bind (wpAny_holding (wpAny_call_entry slot_list_sort ⟨_,g1,rfl⟩ entry_list_sort (sort_listX (z:={s with heap:=h'.push (seqObj "list" (es.toList.map (·.key)).toArray 0),toks:=tk}) (K:=K) g1 (by rw[vl];exact h64) (fun i j x y=>hK i j (by rw[vl] at x;exact x) (by rw[vl] at y;exact y)) (fun c h2 kk=>hk (by rw[vl] at c;exact c) h2 tk fun b o e=>kk b o (Nat.ne_of_lt (Heap.lt_size (kp b o e))) (k1 b o e)) fun q pm ac=>⟨_,rfl,wpAny_pure ⟨_,rfl,?_⟩⟩) (args_list_sort _)));obtain⟨n,hn⟩:=sortedHeap_at (vs:=es.toList.map (·.key)) (out:=outs (es.toList.map (·.key)) q) g1;rw[vl] at pm ac;refine h _ tk _ n q (fun c oo e=>?_) (Nat.le_of_lt ls) pm ac hn;have e1:=kp c oo e;have lc:=Heap.lt_size e1;rw[sortedHeap_old (Nat.ne_of_lt lc) (Nat.lt_of_lt_of_eq (Nat.lt_succ_of_lt lc) (Heap.size_push _ _).symm)];exact Heap.get?_push_of_some _ e1
end
end LSrt
end
section
namespace LSrtR
open PySem PyProof.Rows PySem.W LSrt
noncomputable def lexI(fin:Bool):List Int->List Int->Bool
 | x::xs,y::ys=>if x==y then lexI fin xs ys else decide (x < y)
 | _,_=>fin
inductive Nu:List Value->List Int->Prop
 | nil:Nu [] []
 | cons {us:List Value} {xs:List Int} (x:Int) (t:Tok):Nu us xs->Nu (.int x t::us) (x::xs)
theorem Nu.len{us:List Value}{xs:List Int}(h:Nu us xs):us.length=xs.length:=by
 induction h with
 | nil=>rfl
 | cons _ _ _ ih=>rw[List.length_cons,List.length_cons,ih]
structure TuAt(h:Heap)(v:Value)(xs:List Int):Prop where
 ex: ∃(t:Addr) (o:Obj) (us:List Value) (n:Nat),v= .ref t/\h.get? t=some o/\o.cls= .type "tuple"/\o.data= .seq us.toArray n/\Nu us xs/\xs≠ []
section
variable {prog : Program} {w : World} {A : Around} {E : Value -> Shared -> Prop} {s : Shared}
theorem kat_ints{fin:Bool}{Q:Bool->Shared->Prop}: ∀{us vs:List Value} {xs ys:List Int} {i:Nat},Nu us xs->Nu vs ys->Q (lexI fin xs ys) s->KatLex prog w A true fin Q (us.zip vs) i s
 | _,_,_,_,_, .nil,_,q=>kat_nil q
 | _,_,_,_,_, .cons _ _ _, .nil,q=>kat_nil q
 | _,_,_,_,i, .cons (us:=us) (xs:=xs) x t h, .cons (us:=vs) (xs:=ys) y u h',q=>by
  rw[List.zip_cons_cons];refine kat_cons (wpAny_eqBool_int ?_);unfold lexI at q;by_cases c:(x==y)=true
  . rw[c];rw[if_pos c] at q;exact kat_yes (kat_ints h h' q)
  . rw[if_neg c] at q;rw[Bool.eq_false_iff.mpr c];refine kat_no ?_;cases i with
    | zero=>exact oneLt_int q
    | succ j=>exact kat_one _ _ (lt_int q)
theorem firstsR{h:Heap}: ∀{vs:List Value} {ts:List (List Int)},vs.length=ts.length->(∀(i:Nat) v xs,vs[i]?=some v->ts[i]?=some xs->TuAt h v xs)-> ∃fs,KatTups h vs fs/\fs.length=vs.length/\ ∀v∈fs,∃x t,v=Value.int x t
 | [],[],_,_=>⟨[], .nil,rfl,fun v hv=>absurd hv List.not_mem_nil⟩
 | [],_::_,l,_=>by simp at l
 | _::_,[],l,_=>by simp at l
 | v::vs,q::ps,l,hp=>by
  obtain⟨fs,t,lf,hi⟩:=firstsR (vs:=vs) (ts:=ps) (by simpa using l) fun i v q h1 h2=>hp (i+1) v q (by simpa using h1) (by simpa using h2);obtain⟨t0,o,us,n,rfl,g,c,d,nu,ne⟩:=(hp 0 v q rfl rfl).ex;cases nu with
  | nil=>exact absurd rfl ne
  | @cons us xs x tk _=>
   refine⟨.int x tk::fs, .cons g c d rfl t,by rw[List.length_cons,List.length_cons,lf],fun v hv=>?_⟩;rcases List.mem_cons.mp hv with e | hv
   . exact⟨_,_,e⟩
   . exact hi v hv
end
end LSrtR
end
section
namespace LSrt
open PySem PySem.Spec L2 LB PyProof.Rows PySem.W LDw LSrtR
noncomputable def encT(B:Int):List Int->Int
 | []=>0
 | x::xs=>x*B^xs.length+encT B xs
def InB(B:Int)(xs:List Int):Prop:= ∀x∈xs,0<=x/\x < B
theorem encT_in{B:Int}(b0:0 < B): ∀{xs:List Int},InB B xs->0<=encT B xs/\encT B xs < B^xs.length
 | [],_=>by show(0:Int)<=0/\(0:Int) < B^0;rw[Int.pow_zero];decide
 | x::xs,h=>by
  obtain⟨i1,i2⟩:=encT_in b0 (xs:=xs) fun y hy=>h y (List.mem_cons_of_mem _ hy);obtain⟨h1,h2⟩:=h x List.mem_cons_self;have p0:(0:Int)<=B^xs.length:=by lia
  have m1:0<=x*B^xs.length:=Int.mul_nonneg h1 p0;have m2:(x+1)*B^xs.length<=B*B^xs.length:=Int.mul_le_mul_of_nonneg_right (by lia) p0;rw[Int.add_mul,Int.one_mul] at m2;show 0<=x*B^xs.length+encT B xs/\x*B^xs.length+encT B xs < B^(xs.length+1);rw[Int.pow_succ,Int.mul_comm (B^xs.length) B];lia
theorem encT_lt{B:Int}(b0:0 < B): ∀{xs ys:List Int},xs.length=ys.length->InB B xs->InB B ys->decide (encT B xs < encT B ys)=lexI false xs ys
 | [],[],_,_,_=>rfl
 | [],_::_,l,_,_=>by cases l
 | _::_,[],l,_,_=>by cases l
 | x::xs,y::ys,l,hx,hy=>by
  have l':xs.length=ys.length:=by simpa using l
  have hx':InB B xs:=fun z hz=>hx z (List.mem_cons_of_mem _ hz);have hy':InB B ys:=fun z hz=>hy z (List.mem_cons_of_mem _ hz);have e:=enc_lt (B:=B^xs.length) (p:=(x,encT B xs)) (q:=(y,encT B ys)) (encT_in b0 hx') (by rw[l'];exact encT_in b0 hy');show decide (x*B^xs.length+encT B xs < y*B^ys.length+encT B ys)=if x==y then lexI false xs ys else decide (x < y)
  rw[<-l'];unfold enc at e;rw[e];by_cases c:(x==y)=true
  . rw[if_pos c,if_pos c,<-encT_lt b0 l' hx' hy'];by_cases d:(encT B xs==encT B ys)=true
    . rw[if_pos d,decide_eq_false (by have:=eq_of_beq d;lia)]
    . rw[if_neg d]
  . rw[if_neg c,if_neg c]
theorem encT_inj{B:Int}(b0:0 < B): ∀{xs ys:List Int},xs.length=ys.length->InB B xs->InB B ys->encT B xs=encT B ys->xs=ys
 | [],[],_,_,_,_=>rfl
 | [],_::_,l,_,_,_=>by cases l
 | _::_,[],l,_,_,_=>by cases l
 | x::xs,y::ys,l,hx,hy,e=>by
  have l':xs.length=ys.length:=by simpa using l
  have hx':InB B xs:=fun z hz=>hx z (List.mem_cons_of_mem _ hz);have hy':InB B ys:=fun z hz=>hy z (List.mem_cons_of_mem _ hz);have e1:=enc_lt (B:=B^xs.length) (p:=(x,encT B xs)) (q:=(y,encT B ys)) (encT_in b0 hx') (by rw[l'];exact encT_in b0 hy');have e2:=enc_lt (B:=B^xs.length) (p:=(y,encT B ys)) (q:=(x,encT B xs)) (by rw[l'];exact encT_in b0 hy') (encT_in b0 hx');have e:x*B^xs.length+encT B xs=y*B^ys.length+encT B ys:=e;rw[<-l'] at e;unfold enc at e1 e2;rw[e,decide_eq_false (Int.lt_irrefl _)] at e1 e2;have c:(x==y)=true:=by
   by_cases c:(x==y)=true
   . exact c
   . exfalso;rw[if_neg c] at e1;rw[if_neg (fun z=>c (beq_iff_eq.mpr (show y=x from eq_of_beq z).symm))] at e2;have a: ¬x < y:=of_decide_eq_false e1.symm;have b: ¬y < x:=of_decide_eq_false e2.symm;exact c (beq_iff_eq.mpr (by lia))
  have c:=eq_of_beq c;subst c;rw[encT_inj b0 l' hx' hy' (by lia)]
theorem nu_inj{us:List Value}{xs ys:List Int}(a:Nu us xs):Nu us ys->xs=ys:=by
 intro b;induction a generalizing ys with
 | nil=>cases b;rfl
 | cons x t h ih=>cases b with
  | cons y u h'=>rw[ih h']
theorem tu_inj{h:Heap}{v:Value}{xs ys:List Int}(a:TuAt h v xs)(b:TuAt h v ys):xs=ys:=by
 obtain⟨t,o,us,n,e,g,c,d,nu,_⟩:=a.ex;obtain⟨t',o',us',n',e',g',c',d',nu',_⟩:=b.ex;subst e;cases e';rw[g] at g';cases g';rw[d] at d';simp only [Data.seq.injEq,List.toArray_inj,Array.mk.injEq] at d';have d1:=d'.1;subst d1;exact nu_inj nu nu'
section
variable {prog : Program} {w : World} {A : Around} {z : Shared} {vs : List Value} {ts : List (List Int)} {B : Int} {n : Nat}
theorem ask_tups(b0:0 < B)(hl:vs.length=ts.length)(h2:2<=vs.length)(hp: ∀(i:Nat) v q,vs[i]?=some v->ts[i]?=some q->TuAt z.heap v q)(hb: ∀t∈ts,t.length=n/\InB B t): ∃κ,Ask prog w A vs (fun i=>encT B (ts.getD i [])) z κ:=by
 obtain⟨fs,t,lf,hi⟩:=firstsR hl hp;refine⟨tuples' true,fun Q q=>kat_kind (T:= .type "int") t (by lia) (fun v hv=>?_) (by rfl) q,fun i j hi' hj' C q=>?_⟩
 . obtain⟨x,tk,rfl⟩:=hi v hv;exact Looks.of_pure rfl
 . have li:i < ts.length:=by lia
   have lj:j < ts.length:=by lia
   have ei:ts.getD i []=ts[i]:=by simp [List.getD,li]
   have ej:ts.getD j []=ts[j]:=by simp [List.getD,lj]
   have fi:vs.getD i Value.none=vs[i]:=by simp [List.getD,hi']
   have fj:vs.getD j Value.none=vs[j]:=by simp [List.getD,hj']
   obtain⟨a1,a2⟩:=hb _ (List.getElem_mem li);obtain⟨b1,b2⟩:=hb _ (List.getElem_mem lj);rw[ei,ej,encT_lt b0 (a1.trans b1.symm) a2 b2] at q;obtain⟨t1,o1,us1,n1,e1,g1,c1,d1,nu1,_⟩:=(hp i _ _ (List.getElem?_eq_getElem hi') (List.getElem?_eq_getElem li)).ex;obtain⟨t2,o2,us2,n2,e2,g2,c2,d2,nu2,_⟩:=(hp j _ _ (List.getElem?_eq_getElem hj') (List.getElem?_eq_getElem lj)).ex;unfold kas_ask;rw[fi,fj,e1,e2];refine kat_lt g1 d1 g2 d2 ?_;rw[List.size_toArray,List.size_toArray,nu1.len,nu2.len,a1,b1,decide_eq_false (Nat.lt_irrefl n)];exact kat_ints nu1 nu2 q
end
noncomputable def kT(xs:List Int):List Key:=xs.map fun x=> .inl x
theorem kT_kV{xs:List Int}:(kT xs).map kV=xs.map V.int:=by
 unfold kT;rw[List.map_map];rfl
theorem nu_vals: ∀{xs:List Int} {us:List Value},Vals (xs.map V.int) us->Nu us xs
 | [],_, .nil=> .nil
 | x::xs,_, .cons r t=>by
  obtain⟨tk,rfl⟩:=r;exact .cons x tk (nu_vals t)
theorem call_sortedY{X:Cx}(hA:X.A.handled=none):CallR X (.builtin "sorted") (fun xs H Q=> ∃(a:Addr) (kvs:List (List Key × V)) (qs:List (List Int)) (B:Int) (n:Nat),xs= [.ref a]/\H a=some (.dT kvs)/\kvs.map (·.1)=qs.map kT/\qs.length<=100000/\0 < B/\1<=n/\(∀t∈qs,t.length=n/\InB B t)/\
  ∀(p:Addr) (ms:List (V × List Int)),H p=none->(ms.map (·.2)).Perm qs->ms.Pairwise (fun q r=>encT B q.2<=encT B r.2)->(∀m∈ms,∃t,m.1= .ref t/\H t=some (.tup (m.2.map V.int)))->Q (.ref p) (upd H p (.lst (ms.map (·.1))))):=by
 intro pins s σ H xs us Q I r h;obtain⟨a,kvs,qs,B,n,rfl,ha,ek,hl,b0,n1,hb,q⟩:=h;obtain⟨u,rfl,ru⟩:=vals1 r;cases ru;obtain⟨zz,lo,xs,rel,od,es,ep,hod,hex,hda,hes,his,hnd⟩:=dt_of I.hok ha;have xl:xs.length=kvs.length:=(Paired.length rel).symm;have ql:qs.length=kvs.length:=by have:=congrArg List.length ek;rw[List.length_map,List.length_map] at this;exact this.symm
 have esl:es.size=qs.length:=by have:=congrArg List.length hes;rw[List.length_map,Array.length_toList,xl,<-ql] at this;exact this
 have vsE:es.toList.map (·.key)=xs.map fun x=>Value.ref x.2.1:=by rw[hes,List.map_map];rfl
 have hat: ∀(i:Nat) p,qs[i]?=some p-> ∃x,xs[i]?=some x/\H x.2.1=some (.tup (p.map V.int)):=fun i p hp=>by
  have il:i < qs.length:=(List.getElem?_eq_some_iff.mp hp).1;have kv:kvs[i]?=some (kvs[i]'(by lia)):=List.getElem?_eq_getElem _;have xv:xs[i]?=some (xs[i]'(by lia)):=List.getElem?_eq_getElem _;have e1:(kvs[i]'(by lia)).1=kT p:=by
   have:=congrArg (·[i]?) ek;simp only [List.getElem?_map,kv,hp,Option.map_some,Option.some.injEq] at this;exact this
  obtain⟨p1,p2,_⟩:=paired_get rel kv xv;rw[e1,kT_kV] at p2;exact⟨_,xv,p2⟩
 have hpr: ∀(h':Heap),(∀b o,s.heap.get? b=some o->h'.get? b=some o)-> ∀(i:Nat) v p,(es.toList.map (·.key))[i]?=some v->qs[i]?=some p->TuAt h' v p:=fun h' kk i v p h1 h2=>by
  obtain⟨x,hx,ht⟩:=hat i p h2;rw[vsE,List.getElem?_map,hx] at h1;cases h1;obtain⟨js,rj,pj,_⟩:=I.tuple (SqT.of ht);obtain⟨o,ho,hc,m,hd⟩:=(show s.heap.IsTuple x.2.1 js.toArray from pj)
  exact⟨x.2.1,o,js,m,rfl,kk _ _ ho,hc,hd,nu_vals rj,fun z=>by have:=(hb p (List.mem_of_getElem? h2)).1;rw[z] at this;simp at this;lia⟩
 have vl:(es.toList.map (·.key)).length=qs.length:=by rw[List.length_map,Array.length_toList,esl]
 refine sorted_dictX (K:=fun i=>encT B (qs.getD i [])) hA hex lo ⟨hod,hda⟩ (by rw[esl];exact hl) (fun i j x y e=>by
  have ix:i < qs.length:=by rw[<-esl];exact x
  have jx:j < qs.length:=by rw[<-esl];exact y
  have gi:(es.toList.map (·.key))[i]?=some ((es.toList.map (·.key)).getD i Value.none):=by
   rw[List.getD,List.getElem?_eq_getElem (by rw[vl];exact ix)];rfl
  have gj:(es.toList.map (·.key))[j]?=some ((es.toList.map (·.key)).getD j Value.none):=by
   rw[List.getD,List.getElem?_eq_getElem (by rw[vl];exact jx)];rfl
  have pi:=hpr s.heap (fun _ _ e=>e) i _ _ gi (List.getElem?_eq_getElem ix);have pj:=hpr s.heap (fun _ _ e=>e) j _ _ gj (List.getElem?_eq_getElem jx);rw[e] at pi;have:=tu_inj pi pj;show encT B (qs.getD i [])=encT B (qs.getD j []);rw[show qs.getD i []=qs[i] by simp [List.getD,ix],show qs.getD j []=qs[j] by simp [List.getD,jx],this]) (fun h2 h' tk kk=>ask_tups b0 vl (by rw[vl,<-esl];exact h2) (hpr h' kk) hb) fun h' tk p m pq kk lp pm ac hg=>?_
 have hf:H p=none:=I.hok.fresh lp;rw[esl] at pm ac;have hpl:pq.toList.Perm (List.range qs.length):=by have:=Array.perm_iff_toList_perm.mp pm.pm;simpa using this
 have lt: ∀i∈pq.toList,i < qs.length:=fun i hi=>by have:=hpl.mem_iff.mp hi;simpa using this
 let f:Nat->V × List Int:=fun i=>(.ref (((xs[i]?).map fun x=>x.2.1).getD 0),qs.getD i [])
 have pm2:((pq.toList.map f).map (·.2)).Perm qs:=by
  rw[List.map_map];have:=hpl.map fun i=>qs.getD i [];rw[map_getD] at this;exact this
 have so:(pq.toList.map f).Pairwise (fun q r=>encT B q.2<=encT B r.2):=by
  rw[List.pairwise_iff_getElem];intro i j hi hj hij;rw[List.length_map,Array.length_toList,pm.sz] at hi hj;have:=ac i j (by lia) (by lia);have gi:pq.getD i 0=pq[i]'(by rw[pm.sz];lia):=by simp [Array.getD,pm.sz,hi]
  have gj:pq.getD j 0=pq[j]'(by rw[pm.sz];lia):=by simp [Array.getD,pm.sz,hj]
  unfold kp at this;rw[gi,gj] at this;simpa [f] using this
 have tups: ∀m∈pq.toList.map f,∃t,m.1= .ref t/\H t=some (.tup (m.2.map V.int)):=fun m hm=>by
  obtain⟨i,hi,rfl⟩:=List.mem_map.mp hm;have il:=lt i hi;obtain⟨x,hx,ht⟩:=hat i qs[i] (List.getElem?_eq_getElem il);refine⟨x.2.1,?_,?_⟩
  . show V.ref (((xs[i]?).map fun x=>x.2.1).getD 0)=_;rw[hx];rfl
  . show H x.2.1=some (.tup ((qs.getD i []).map V.int));rw[show qs.getD i []=qs[i] by simp [List.getD,il]];exact ht
 refine⟨.ref p,_,I.laid (t':=tk) (o:= .lst ((pq.toList.map f).map (·.1))) (fun b o e=>kk b o e) lp ?_,rfl,q p _ hf pm2 so tups⟩;refine⟨?_,pq.toList.map (fun i=>(es.toList.map fun x:DictEntry=>x.key).getD i Value.none),m,?_,hg⟩
 . rw[List.length_map,List.length_map,Array.length_toList,pm.sz,sizeLine_eq];lia
 . rw[List.map_map];refine vals_map fun i hi=>?_;have il:=lt i hi;obtain⟨x,hx,ht⟩:=hat i qs[i] (List.getElem?_eq_getElem il);show RelV (V.ref (((xs[i]?).map fun x=>x.2.1).getD 0)) ((es.toList.map (·.key)).getD i Value.none);rw[vsE,List.getD,List.getElem?_map,hx];rfl
end LSrt
namespace LD
open PySem PySem.Spec L2 LB PyProof.Rows LSrt
noncomputable def itD(t:List Int):Dt:= .tup (t.map .int)
theorem rep_its{M:Addr->Prop}{H:Hp}: ∀{ws:List (V × List Int)},(∀w∈ws,Rep M H w.1 (itD w.2))->Reps M H (ws.map (·.1)) ((ws.map (·.2)).map itD)
 | [],_=> .nil
 | w::ws,h=> .cons (h w List.mem_cons_self) (rep_its fun x hx=>h x (List.mem_cons_of_mem _ hx))
section
variable {X : Cx} {e : Expr} {tA : DTA} {pos p : Pos}
inductive D_sortedY(ds:List Dt)(Q:Dt->Prop):Prop
 | mk (qs:List (List Int)) (es:List Dt) (B:Int) (n:Nat) (h1:ds= [.dit (qs.map kT) es]) (h2:qs.length<=100000) (b0:0 < B) (n1:1<=n) (h3: ∀t∈qs,t.length=n/\InB B t) (h4: ∀ms:List (List Int),ms.Perm qs->ms.Pairwise (fun q r=>encT B q<=encT B r)->Q (.lst (ms.map itD)))
theorem d_sortedY(hA:X.A.handled=none)(hm:X.mg "sorted"=none)(ha:Av X [e] tA)(hg:autoParam (Gl X "sorted") au5._auto_1)(he:autoParam (starEach [e] X.env=(false,eval e X.env)::starEach [] X.env) au5._auto_1)(hpl:autoParam ((backTo pos (starEach [] X.env)).any (·.1)=false) au5._auto_1):
  Ev X (.Call (.Name "sorted" p) [e] [] pos) (dCa D_sortedY tA):=d_callB (call_sortedY hA) (fun M H xs ds Qd Q al r zz1 k=>(by
 obtain⟨qs,es,B,n,e,l,b0,n1,hb,q⟩:=zz1;subst e;obtain⟨x,rfl,r1⟩:=one_arg r;obtain⟨a,vs,rfl,ha,nn,e2,rr⟩:=r1.ofDit;refine⟨a,vs,qs,B,n,rfl,ha,e2,l,b0,n1,hb,fun p ms hp hpm hpw ht=>?_⟩;have s:Same H (upd H p (.lst (ms.map (·.1)))):=Same.new hp;have pw:(ms.map (·.2)).Pairwise (fun q r=>encT B q<=encT B r):=List.pairwise_map.mpr hpw;refine k _ _ _ (q (ms.map (·.2)) hpm pw) s (Rep.toLst upd_same (al.fresh hp) (rep_its fun m hm=>?_));obtain⟨t,e1,h1⟩:=ht m hm;rw[e1];exact Rep.toTup (s _ _ h1) (al.tup h1) rep_ints)) hg hm boot_sorted' ha (by decide) (by decide) he hpl
end
end LD
end
section
namespace K34
open PySem PySem.Spec L2 LB LD PyProof.Rows LNk LSrt
noncomputable def encN:List Nat->Nat
 | []=>0
 | x::xs=>x*6^xs.length+encN xs
noncomputable def ris:List Nat->Bool
 | a::b::L=>decide (a < b) && ris (b::L)
 | _=>true
theorem ris_pw: ∀{L:List Nat},ris L=true->L.Pairwise (· < ·)
 | [],_=> .nil
 | [a],_=>List.pairwise_singleton _ _
 | a::b::L,h=>by
  have h:(decide (a < b) && ris (b::L))=true:=h;rw[Bool.and_eq_true] at h;have ih:=ris_pw h.2;have ab:=of_decide_eq_true h.1;refine List.pairwise_cons.mpr ⟨fun c hc=>?_,ih⟩;rcases List.mem_cons.mp hc with z | z
  . rw[z];exact ab
  . exact Nat.lt_trans ab ((List.pairwise_cons.mp ih).1 c z)
theorem chk5:chkN 5=true:=by decide+kernel
theorem ris1:ris ((everyL 1).map encN)=true:=by decide+kernel
theorem ris2:ris ((everyL 2).map encN)=true:=by decide+kernel
theorem ris3:ris ((everyL 3).map encN)=true:=by decide+kernel
theorem ris4:ris ((everyL 4).map encN)=true:=by decide+kernel
theorem ris5:ris ((everyL 5).map encN)=true:=by decide+kernel
theorem uni5:(uni 1).length<=1000/\(uni 2).length<=1000/\(uni 3).length<=1000/\(uni 4).length<=1000/\(uni 5).length<=1000:=by decide+kernel
theorem chk_all{n:Nat}(n1:1<=n)(n5:n<=5):chkN n=true/\ris ((everyL n).map encN)=true/\(uni n).length<=1000:=by
 match n,n1,n5 with
 | 1,_,_=>exact⟨chk1,ris1,uni5.1⟩
 | 2,_,_=>exact⟨chk2,ris2,uni5.2.1⟩
 | 3,_,_=>exact⟨chk3,ris3,uni5.2.2.1⟩
 | 4,_,_=>exact⟨chk4,ris4,uni5.2.2.2.1⟩
 | 5,_,_=>exact⟨chk5,ris5,uni5.2.2.2.2⟩
noncomputable def come(n:Nat)(s:St):List (List Nat):=(everyL n).filter fun h=>fits h (rows s)
theorem chk_at{n m:Nat}{s:St}(n1:1<=n)(n5:n<=5)(r:Rc n m s):(∀h,h∈endL (2*n - 1 - m) s↔h∈come n s)/\ ∀i,i < n->isRow (come n s) i ((rows s).getD i [])=true:=by
 have c:=(chk_all n1 n5).1;have c:=List.all_eq_true.mp c m (List.mem_range.mpr (by have:=r.le n1;lia));have c:=List.all_eq_true.mp c s (rc_mem r);have c:((endL (2*n - 1 - m) s).all (fun h=>decide (h∈come n s)) && ((come n s).all (fun h=>decide (h∈endL (2*n - 1 - m) s)) && (List.range n).all fun i=>isRow (come n s) i ((rows s).getD i [])))=true:=c;rw[Bool.and_eq_true,Bool.and_eq_true] at c;obtain⟨c1,c2,c3⟩:=c;exact⟨fun h=>⟨fun z=>of_decide_eq_true (List.all_eq_true.mp c1 h z),fun z=>of_decide_eq_true (List.all_eq_true.mp c2 h z)⟩,fun i hi=>List.all_eq_true.mp c3 i (List.mem_range.mpr hi)⟩
theorem come_iff{n m:Nat}{s:St}(n1:1<=n)(n5:n<=5)(r:Rc n m s){h:List Nat}:h∈come n s↔ ∃t,Fr s t/\isEnd t=true/\endN t=h:=by
 rw[<-(chk_at n1 n5 r).1 h];exact endL_mem n1 _ m s h r (by have:=r.le n1;lia)
theorem come_in{n:Nat}{s:St}{h:List Nat}(hh:h∈come n s):h.length=n/\ ∀x∈h,x<=n:=prd_in n h (List.mem_filter.mp (List.mem_filter.mp (List.mem_filter.mp hh).1).1).1
theorem enc_nat{h:List Nat}:encT 6 (h.map Int.ofNat)=((encN h:Nat):Int):=by
 induction h with
 | nil=>rfl
 | cons x h ih=>
  show Int.ofNat x*6^(h.map Int.ofNat).length+encT 6 (h.map Int.ofNat)=((x*6^h.length+encN h:Nat):Int)
  rw[ih,List.length_map,Int.natCast_add,Int.natCast_mul,Int.natCast_pow];rfl
theorem come_up{n:Nat}{s:St}(n1:1<=n)(n5:n<=5):(come n s).Pairwise fun a b=>encN a < encN b:=by
 have c:=ris_pw (chk_all n1 n5).2.1;exact(List.pairwise_map.mp c).sublist List.filter_sublist
theorem come_eq{n m:Nat}{s:St}(n1:1<=n)(n5:n<=5)(r:Rc n m s){Fs:List (List Nat)}(nd:Fs.Nodup)(mem: ∀h,h∈Fs↔ ∃t,Fr s t/\isEnd t=true/\endN t=h){ms:List (List Int)}(pm:ms.Perm (Fs.map fun h=>h.map Int.ofNat))(pw:ms.Pairwise fun a b=>encT 6 a<=encT 6 b):ms=(come n s).map fun h=>h.map Int.ofNat:=by
 have cu:=come_up (s:=s) n1 n5;have cn:(come n s).Nodup:=cu.imp fun{a b} h z=>by rw[z] at h;exact Nat.lt_irrefl _ h
 have pc:Fs.Perm (come n s):=(List.perm_ext_iff_of_nodup nd cn).mpr fun h=>by rw[mem h,come_iff n1 n5 r]
 have pm2:=pm.trans (pc.map fun h=>h.map Int.ofNat);have at': ∀a∈(come n s).map (fun h=>h.map Int.ofNat),a.length=n/\InB 6 a:=fun a ha=>by
  obtain⟨h,hh,rfl⟩:=List.mem_map.mp ha;obtain⟨l,b⟩:=come_in hh;refine⟨by rw[List.length_map];exact l,fun x hx=>?_⟩;obtain⟨y,hy,rfl⟩:=List.mem_map.mp hx;have:=b y hy;show(0:Int)<=(y:Int)/\(y:Int) < 6;lia
 refine List.Perm.eq_of_pairwise (le:=fun a b=>encT 6 a<=encT 6 b) (fun a b ha hb h1 h2=>?_) pw ?_ pm2
 . obtain⟨a1,a2⟩:=at' a (pm2.mem_iff.mp ha);obtain⟨b1,b2⟩:=at' b hb;exact encT_inj (by decide) (a1.trans b1.symm) a2 b2 (by lia)
 . refine List.pairwise_map.mpr (cu.imp fun{a b} h=>?_);rw[enc_nat,enc_nat];lia
theorem row_eq{n m:Nat}{s:St}(n1:1<=n)(n5:n<=5)(r:Rc n m s){i:Nat}(hi:i < n){us:List Int}(nd:us.Nodup)(mem: ∀k,k∈us↔k∈(come n s).map fun h=>((h.getD i 0:Nat):Int))(pw:us.Pairwise (· <= ·)):us=((rows s).getD i []).map Int.ofNat:=by
 have c:=(chk_at n1 n5 r).2 i hi;unfold isRow at c;rw[Bool.and_eq_true,Bool.and_eq_true] at c;obtain⟨c1,c2,c3⟩:=c;generalize (rows s).getD i []=R at c1 c2 c3 ⊢;have up:R.Pairwise (· < ·):=by
  refine ris_pw ?_;have: ∀L:List Nat,((L.zip L.tail).all fun p=>decide (p.1 < p.2))=true->ris L=true:=fun L=>by
   induction L with
   | nil=>intro _;rfl
   | cons a L ih=>
    intro h;cases L with
    | nil=>rfl
    | cons b L=>
     have h:(decide (a < b) && (((b::L).zip L).all fun p=>decide (p.1 < p.2)))=true:=h;rw[Bool.and_eq_true] at h;show(decide (a < b) && ris (b::L))=true;rw[h.1,ih h.2];rfl
  exact this R c3
 have rn:(R.map Int.ofNat).Nodup:=List.pairwise_map.mpr (up.imp fun{a b} h z=>by have:a=b:=Int.ofNat.inj z;lia);refine List.Perm.eq_of_pairwise (le:=fun a b=>a<=b) (fun a b _ _ h1 h2=>by lia) pw (List.pairwise_map.mpr (up.imp fun{a b} h=>by show(a:Int)<=(b:Int);lia)) ((List.perm_ext_iff_of_nodup nd rn).mpr fun k=>?_);rw[mem k,List.mem_map,List.mem_map];constructor
 . rintro⟨h,hh,rfl⟩
   exact⟨_,of_decide_eq_true (List.all_eq_true.mp c1 h hh),rfl⟩
 . rintro⟨x,hx,rfl⟩
   obtain⟨h,hh,e⟩:=List.any_eq_true.mp (List.all_eq_true.mp c2 x hx);exact⟨h,hh,by rw[of_decide_eq_true e];rfl⟩
end K34
end
section
namespace K34
open PySem PySem.Spec L2 LB LD PyProof.Rows LNk LSrt
noncomputable def kN(hs:List Nat):List Key:=hs.map fun(x:Nat)=>(.inl (x:Int):Key)
theorem key_tup: ∀(hs:List Nat),keysD (hs.map nI)=some (kN hs)
 | []=>rfl
 | x::hs=>by
  have ih:=key_tup hs;show keysD (.int (x:Int)::hs.map nI)=_;unfold keysD;rw[ih];rfl
theorem keyT_tup(hs:List Nat):keyT (tupN hs)=some (kN hs):=key_tup hs
theorem kN_kT{hs:List Nat}:kN hs=kT (hs.map Int.ofNat):=by
 unfold kN kT;rw[List.map_map];rfl
theorem kN_inj: ∀{a b:List Nat},kN a=kN b->a=b
 | [],[],_=>rfl
 | [],_::_,h=>by cases h
 | _::_,[],h=>by cases h
 | x::a,y::b,h=>by
  obtain⟨h1,h2⟩:=List.cons.inj h;have h1:(x:Int)=(y:Int):=Sum.inl.inj h1;rw[kN_inj h2,show x=y by lia]
theorem hasK_map{α β:Type} [DecidableEq α] [DecidableEq β]{f:α->β}(hf: ∀a b,f a=f b->a=b){ks:List α}{k:α}:hasK (ks.map f) (f k)=hasK ks k:=by
 unfold hasK;rw[List.any_map];congr 1
 funext z
 show decide (f z=f k)=decide (z=k);exact decide_eq_decide.mpr ⟨hf _ _,fun e=>by rw[e]⟩
theorem insK_map{α β:Type} [DecidableEq α] [DecidableEq β]{f:α->β}(hf: ∀a b,f a=f b->a=b){ks:List α}{k:α}:insK (ks.map f) (f k)=(insK ks k).map f:=by
 unfold insK;rw[hasK_map hf];split
 . rfl
 . rw[List.map_append];rfl
theorem nd_le{α:Type} [DecidableEq α]{U:List α}: ∀{l:List α},l.Nodup->(∀k∈l,k∈U)->l.length<=U.length:=fun{l} h m=>by
 induction l generalizing U with
 | nil=>exact Nat.zero_le _
 | cons x l ih=>
  obtain⟨h1,h2⟩:=List.nodup_cons.mp h;have hx:=m x List.mem_cons_self;have:=ih (U:=U.erase x) h2 fun k hk=>(List.mem_erase_of_ne (show k≠x from fun z=>h1 (by rw[<-z];exact hk))).mpr (m k (List.mem_cons_of_mem _ hk));rw[List.length_erase_of_mem hx] at this;have:=List.length_pos_of_mem hx;rw[List.length_cons];lia
structure Go(s:St)(Ks Ws:List St)(Fs:List (List Nat))(Pr:St->Prop):Prop where
 nd:Ks.Nodup
 fr: ∀t∈Ks,Fr s t
 s0:s∈Ks
 wk: ∀t∈Ws,t∈Ks
 dn: ∀t∈Ks,t∈Ws\/Pr t\/((∀w,okB t w=true->stp t w∈Ks)/\(isEnd t=true->endN t∈Fs))
 fs: ∀h∈Fs,∃t,Fr s t/\isEnd t=true/\endN t=h
 fd:Fs.Nodup
theorem Go.fin{s:St}{Ks:List St}{Fs:List (List Nat)}(g:Go s Ks [] Fs fun _=>False)(h:List Nat):h∈Fs↔ ∃t,Fr s t/\isEnd t=true/\endN t=h:=by
 refine⟨g.fs h,fun⟨t,f,it,e⟩=>?_⟩;have all: ∀t,Fr s t->t∈Ks:=fun t f=>by
  induction f with
  | rf=>exact g.s0
  | step f o ih=>
   rcases g.dn _ ih with z | z | z
   . exact absurd z List.not_mem_nil
   . exact z.elim
   . exact z.1 _ o
 rcases g.dn t (all t f) with z | z | z
 . exact absurd z List.not_mem_nil
 . exact z.elim
 . rw[<-e];exact z.2 it
def endsS:DN:=fun ds Q=> ∃(n m:Nat) (s:St),ds= [s.dt]/\Rc n m s/\1<=n/\n<=5/\Q (.lst ((come n s).map tupN))
theorem hu1{A:Around}{k:Nat}(hr:Room k A):A.units+1 < cLine:=Nat.lt_of_le_of_lt (Nat.add_le_add_left (by decide:1<=64) _) hr.units
inductive EnI(P:Program)(w:World)(n:Nat)(s:St)(k:Nat)(δ:List Sl):Prop
 | mk (Ks Ws:List St) (Fs:List (List Nat)) (s4 s5 s6:Sl) (e:δ= [.im s.dt,sks P w (Ks.map sk), .ow (Ws.map St.dt),tdb (Fs.map kN),s4,s5,s6]) (g:Go s Ks Ws Fs fun _=>False) (h:2*((uni n).length - Ks.length)+Ws.length=k) (kb:k<=2001) (b4:s4.isBx=false) (b5:s5.isBx=false) (b6:s6.isBx=false)
inductive EnJ(P:Program)(w:World)(n:Nat)(s t:St)(Fs:List (List Nat))(k i:Nat)(δ:List Sl):Prop
 | mk (Ks Ws:List St) (s5 s6:Sl) (e:δ= [.im s.dt,sks P w (Ks.map sk), .ow (Ws.map St.dt),tdb (Fs.map kN), .im t.dt,s5,s6]) (g:Go s Ks Ws Fs fun u=>u=t) (tk:t∈Ks) (hd: ∀w∈(mayW t).take i,stp t w∈Ks) (h:2*((uni n).length - Ks.length)+Ws.length < k) (b5:s5.isBx=false) (b6:s6.isBx=false)
section
variable {P : Program} {w : World} {K : PySem.W.Frag} {mg : Str -> Option Value} {base : Heap}
theorem ok_ends{f:Addr}{fd:FuncData}(F:Fun K "_law_ends" "_law_ends" sLEnds f fd)(T:Txt mg)(NLMay:Has P w K mg base "_law_may" 1 ["_law_stand"] (spA mayS))(NLBehind:Has P w K mg base "_law_behind" 1 ["_law_stand","_law_word"] (spA behindS))(NLEnd:Has P w K mg base "_law_end" 1 ["_law_stand"] (spA endS)):FnOk P w K mg base CX0 2 f fd ["_law_stand"] (spA endsS):=by
 refine fnA F scLEnds (fun ds Qd h=>?_) (fun cdv A outer s H E hr=>⟨_,(@s_cons _ _ _ _ _ (@s_par3 _ _ _ _ _ _ 1 2 3 _ _ _ _ _ _ _ _ _ _ rfl scLEnds.nd (@h_skone _ _ _ _ _ _ _ _ (hu2 hr) (dv 0) d_bl (@h_ow _ _ _ _ _ (o_lst (@a_cons _ _ _ _ _ (dv 0) a_nil rfl)) (h_td h_nil rfl) rfl) rfl) rfl rfl rfl rfl rfl rfl rfl rfl) (@s_cons _ _ _ _ _ (s_while (t_neNilO hr.units0 2 (pv 2)) (@s_cons _ _ _ _ _ (@s_set _ _ _ _ 4 _ _ scLEnds.nd (d_pop 2 (pv 2)) rfl (by first | exact Or.inl rfl | exact Or.inr rfl) rfl (by first | exact .inl rfl | exact .inr rfl | assumption)) (@s_cons _ _ _ _ _ (s_if (t_notN (d_fnA NLEnd (hr.mono (by decide)) (@a_cons _ _ _ _ _ (dv 4) a_nil rfl))) (s_one (s_tbput 3 (ps_dput (hu1 hr) (pv 3) (d_fnA NLEnd (hr.mono (by decide)) (@a_cons _ _ _ _ _ (dv 4) a_nil rfl)) pe_bl rfl))) s_nil) (s_one (s_for rfl (i_list (d_fnA NLMay (hr.mono (by decide)) (@a_cons _ _ _ _ _ (dv 4) a_nil rfl))) (g_name 5 scLEnds.nd) (@s_cons _ _ _ _ _ (@s_set _ _ _ _ 6 _ _ scLEnds.nd (d_fnA NLBehind (hr.mono (by decide)) (@a_cons _ _ _ _ _ (dv 4) (@a_cons _ _ _ _ _ (dv 5) a_nil rfl) rfl)) rfl (by first | exact Or.inl rfl | exact Or.inr rfl) rfl (by first | exact .inl rfl | exact .inr rfl | assumption)) (s_one (s_if (t_snotin 1 6 (hu2 hr) (pv 1) (pv 6)) (@s_cons _ _ _ _ _ (s_skput 1 6 (ps_sput (hu2 hr) (pv 1) (pv 6) pe_bl rfl)) (s_one (s_expr (d_append 2 (pv 2) (@a_cons _ _ _ _ _ (dv 6) a_nil rfl))))) s_nil))) PassesOwn.never)))) PassesOwn.never) (s_one (s_frzT 3 (s_ret (d_sortedY hr.hd T.srt (@a_cons _ _ _ _ _ (dv 3) a_nil rfl))))))),fun ds Qd h=>?_⟩)
 . obtain⟨n,m,s,rfl,_⟩:=h;rfl
 . obtain⟨n,m,s,rfl,rc,n1,n5,q⟩:=h;have ul:=(chk_all n1 n5).2.2;refine⟨_,rfl,sk s,by rw[sk_dt],rfl,_,rfl,by show 1<=sizeLine;decide,_,_,_,rfl,⟨_,rfl,rfl⟩,⟨_,rfl,rfl⟩,⟨_,rfl,rfl⟩,?_⟩;refine while_abs (EnI P w n s) ⟨_,[s],[s],[], .no, .no, .no,rfl,⟨List.pairwise_singleton _ _,fun t ht=>by rw[List.mem_singleton.mp ht];exact .rf,List.mem_singleton.mpr rfl,fun t ht=>ht,fun t ht=> .inl ht,fun h hh=>absurd hh List.not_mem_nil,List.nodup_nil⟩,rfl,by show 2*((uni n).length - 1)+1<=2001;lia,rfl,rfl,rfl⟩ fun k δ hI Δ' hnx hrt=>?_;obtain⟨Ks,Ws,Fs,s4,s5,s6,rfl,g,hk,kb,b4,b5,b6⟩:=hI;refine⟨_,rfl,_,rfl,?_⟩;have inu: ∀t,Fr s t->t∈uni n:=fun t f=>by
    obtain⟨m',r⟩:=f.rc rc;exact rc_uni n1 r
   have kl: ∀{L:List St},L.Nodup->(∀t∈L,Fr s t)->L.length<=(uni n).length:=fun nd h=>nd_le nd fun t ht=>inu t (h t ht);have fl: ∀{L:List (List Nat)},L.Nodup->(∀h∈L,∃t,Fr s t/\isEnd t=true/\endN t=h)->L.length<=7776:=fun{L} nd h=>by
    have l1:=nd_le (U:=come n s) nd fun x hx=>(come_iff n1 n5 rc).mpr (h x hx);have l2:(come n s).length<=(prd n n).length:=Nat.le_trans (List.length_filter_le _ _) (Nat.le_trans (List.length_filter_le _ _) (List.length_filter_le _ _));exact Nat.le_trans l1 (Nat.le_trans l2 (Nat.le_trans (prd_len n) (few n5 n5)))
   rcases List.eq_nil_or_concat Ws with z | ⟨Wr,t,z⟩
   . subst z;refine iteF ⟨_,_,rfl,_,rfl,Fs.map (fun h=>h.map Int.ofNat),trs (Fs.map kN),6,n,?_,?_,by decide,n1,fun a ha=>?_,fun ms pm pw=>?_⟩
     . rw[List.map_map];congr 2
       exact List.map_congr_left fun h _=>kN_kT
     . rw[List.length_map];have:=fl g.fd g.fs;lia
     . obtain⟨h,hh,rfl⟩:=List.mem_map.mp ha;obtain⟨l,b⟩:=come_in ((come_iff n1 n5 rc).mpr (g.fs h hh));refine⟨by rw[List.length_map];exact l,fun x hx=>?_⟩;obtain⟨y,hy,rfl⟩:=List.mem_map.mp hx;have:=b y hy;show(0:Int)<=(y:Int)/\(y:Int) < 6;lia
     . have e:=come_eq n1 n5 rc g.fd g.fin pm pw;rw[e,List.map_map];have:(come n s).map (itD ∘ fun h=>h.map Int.ofNat)=(come n s).map tupN:=List.map_congr_left fun h _=>by
        show Dt.tup ((h.map Int.ofNat).map .int)=tupN h;rw[List.map_map];rfl
       rw[this];exact q
   . rw[List.concat_eq_append] at z;subst z;have ne:(!((Wr++ [t]).map St.dt).isEmpty)=true:=by rw[List.map_append];cases Wr.map St.dt <;> rfl
     have tk:t∈Ks:=g.wk t (by simp);have ft:Fr s t:=g.fr t tk;obtain⟨m',rt⟩:=ft.rc rc;have lv:=rt.lv;have fi:Fine t:=lv.k.g.fine (by lia) (by have:=rt.le n1;lia);have dl:((Wr++ [t]).map St.dt).dropLast=Wr.map St.dt:=by rw[List.map_append];simp
     have la:((Wr++ [t]).map St.dt)[((Wr++ [t]).map St.dt).length - 1]?=some t.dt:=by rw[List.map_append];simp
     refine iteP ne ⟨_,t.dt,rfl,la,⟨_,rfl,b4⟩,?_⟩;rw[dl];have wl:(Wr++ [t]).length=Wr.length+1:=by simp
     have g1: ∀{Fs2:List (List Nat)},(∀h,h∈Fs->h∈Fs2)->Fs2.Nodup->(∀h∈Fs2,∃t,Fr s t/\isEnd t=true/\endN t=h)->Go s Ks Wr Fs2 fun u=>u=t:=fun h1 h2 h3=>⟨g.nd,g.fr,g.s0,fun u hu=>g.wk u (List.mem_append_left _ hu),fun u hu=>by
      rcases g.dn u hu with z | z | z
      . rcases List.mem_append.mp z with y | y
        . exact .inl y
        . exact .inr (.inl (List.mem_singleton.mp y))
      . exact z.elim
      . exact .inr (.inr ⟨z.1,fun ie=>h1 _ (z.2 ie)⟩),h3,h2⟩
     have tl: ∀(Fs2:List (List Nat)),Go s Ks Wr Fs2 (fun u=>u=t)->(isEnd t=true->endN t∈Fs2)->dFor (dItL (dCa mayS (dCons (dVar 4) dNil))) (dgName 5) (dSeq (dSet 6 (dCa behindS (dCons (dVar 4) (dCons (dVar 5) dNil)))) (dIfS (dSkNotin P w 1 6) (dSeq (dSkPut P w 1 6) (dDrop (dApp 2 (dCons (dVar 6) dNil)))) dNext)) Δ' [.im s.dt,sks P w (Ks.map sk), .ow (Wr.map St.dt),tdb (Fs2.map kN), .im t.dt,s5,s6]:=fun Fs2 g2 he=>by
      have eml:(mayL t).length=(mayW t).length:=by rw[may_w,List.length_map]
      refine⟨_,rfl,t,rfl,fi,_,rfl,for_abs (EnJ P w n s t Fs2 k) ⟨Ks,Wr,s5,s6,rfl,g2,tk,fun w hw=>absurd hw List.not_mem_nil,by lia,b5,b6⟩ (fun i d δ3 hi hJ Δ2 hn2 _=>?_) (fun δ3 hJ=>?_)⟩
      . obtain⟨Ks,Ws,s5,s6,rfl,g,tk,hd,hm,b5,b6⟩:=hJ;rw[may_w,List.getElem?_map] at hi;obtain⟨wd,hw,rfl⟩:=Option.map_eq_some_iff.mp hi;have okw:=may_okW (List.mem_of_getElem? hw);have hd': ∀{K2:List St},(∀u∈Ks,u∈K2)->stp t wd∈K2-> ∀w∈(mayW t).take (i+1),stp t w∈K2:=fun h1 h2 w hw2=>by
         rw[List.take_succ,hw] at hw2;rcases List.mem_append.mp hw2 with y | y
         . exact h1 _ (hd w y)
         . have:w=wd:=by simpa using y
           rw[this];exact h2
        have k1:=kl g.nd g.fr;refine⟨⟨_,rfl,b5⟩,_,rfl,_,rfl,?_⟩;dsimp only [dNil];refine step_behind fi okw ⟨⟨_,rfl,b6⟩,?_⟩;refine⟨_,sk (stp t wd),rfl,by rw[sk_dt];rfl,?_⟩;rw[hasK_map fun a b=>sk_inj];cases hk2:hasK Ks (stp t wd) with
        | true=>exact iteF (hn2 _ ⟨Ks,Ws, .im (.str wd), .im (stp t wd).dt,rfl,g,tk,hd' (fun _ z=>z) (hasK_iff.mp hk2),hm,rfl,rfl⟩)
        | false=>
         have nu:stp t wd∉Ks:=fun z=>by rw[hasK_iff.mpr z] at hk2;cases hk2
         have fu:Fr s (stp t wd):=(g.fr t tk).step okw;have nd2:(Ks++ [stp t wd]).Nodup:=by rw[<-insK_new hk2];exact insK_nd g.nd
         have fr2: ∀u∈Ks++ [stp t wd],Fr s u:=fun u hu=>by
          rcases List.mem_append.mp hu with y | y
          . exact g.fr u y
          . rw[List.mem_singleton.mp y];exact fu
         have k2:=kl nd2 fr2;rw[List.length_append,List.length_singleton] at k2;have w2:(Ws++ [stp t wd]).length=Ws.length+1:=by simp
         have k3:(Ks++ [stp t wd]).length=Ks.length+1:=by simp
         have s1:100000 < sizeLine:=by decide
         refine iteT ⟨_,sk (stp t wd),rfl,by rw[sk_dt];rfl,by rw[List.length_map];lia,?_⟩;rw[insK_map fun a b=>sk_inj,insK_new hk2];refine⟨⟨_,rfl⟩,_,rfl,_,_,rfl,rfl,by rw[List.length_map];lia,?_⟩;refine hn2 _ ⟨Ks++ [stp t wd],Ws++ [stp t wd], .im (.str wd), .im (stp t wd).dt,by rw[List.map_append (f:=St.dt)];rfl,⟨nd2,fr2,List.mem_append_left _ g.s0,fun u hu=>?_,fun u hu=>?_,g.fs,g.fd⟩,List.mem_append_left _ tk,hd' (fun u z=>List.mem_append_left _ z) (List.mem_append_right _ (List.mem_singleton.mpr rfl)),by lia,rfl,rfl⟩
         . rcases List.mem_append.mp hu with y | y
           . exact List.mem_append_left _ (g.wk u y)
           . exact List.mem_append_right _ y
         . rcases List.mem_append.mp hu with y | y
           . rcases g.dn u y with z | z | z
             . exact .inl (List.mem_append_left _ z)
             . exact .inr (.inl z)
             . exact .inr (.inr ⟨fun w o=>List.mem_append_left _ (z.1 w o),z.2⟩)
           . exact .inl (List.mem_append_right _ y)
      . obtain⟨Ks,Ws,s5,s6,rfl,g,tk,hd,hm,b5,b6⟩:=hJ;rw[eml,List.take_length] at hd;refine hnx _ _ hm ⟨Ks,Ws,Fs2, .im t.dt,s5,s6,rfl,⟨g.nd,g.fr,g.s0,g.wk,fun u hu=>?_,g.fs,g.fd⟩,rfl,by lia,rfl,b5,b6⟩;rcases g.dn u hu with z | z | z
        . exact .inl z
        . rw[z];exact .inr (.inr ⟨fun w o=>hd w (mem_may.mpr o),he⟩)
        . exact .inr (.inr z)
     cases ie:isEnd t with
     | false=>
      refine⟨_,rfl,t,rfl,fi,false,?_,?_⟩
      . rw[end_no ie];rfl
      . exact iteF (tl Fs (g1 (fun _ z=>z) g.fd g.fs) fun z=>by rw[ie] at z;cases z)
     | true=>
      refine⟨_,rfl,t,rfl,fi,true,?_,?_⟩
      . rw[end_yes lv ie];rfl
      . have f1:=fl g.fd g.fs;have s1:100000 < sizeLine:=by decide
        refine iteT ⟨⟨_,rfl⟩,_,rfl,t,rfl,fi,kN (endN t),_,?_,rfl,by rw[List.length_map];lia,?_⟩
        . rw[end_yes lv ie];exact keyT_tup _
        . rw[insK_map fun a b=>kN_inj];refine tl _ (g1 (fun h z=>insK_iff.mpr (.inl z)) (insK_nd g.fd) fun h hh=>?_) fun _=>insK_iff.mpr (.inr rfl);rcases insK_iff.mp hh with y | y
          . exact g.fs h y
          . exact⟨t,ft,ie,y.symm⟩
end
end K34
end
section
namespace K34
open PySem PySem.Spec L2 LB LD PyProof.Rows
noncomputable def lsN(r:List Nat):Dt:= .lst (r.map nI)
noncomputable def ahL(s:St):List Nat:=List.range' s.b (s.ons.length+1 - s.b)
theorem rngB(b n:Nat):(List.range n).map (fun k=>Dt.int ((b:Int)+(k:Nat)))=(List.range' b n).map nI:=by
 rw[List.range'_eq_map_range,List.map_map];refine List.map_congr_left fun j _=>?_;show Dt.int _=Dt.int _;congr 1
theorem flt_take: ∀{L:List Nat} {k i:Nat},L.Pairwise (· < ·)->L[k]?=some i->L.filter (fun x=>decide (x < i))=L.take k
 | [],k,i,_,h=>by simp at h
 | a::L,0,i,p,h=>by
  cases h;rw[List.filter_cons_of_neg (by simp)];exact List.filter_eq_nil_iff.mpr fun x hx=>by have:=(List.pairwise_cons.mp p).1 x hx;simp;lia
 | a::L,k+1,i,p,h=>by
  have h:L[k]?=some i:=by simpa using h
  have ai:=(List.pairwise_cons.mp p).1 i (List.mem_of_getElem? h);rw[List.filter_cons_of_pos (by simpa using ai),flt_take (List.pairwise_cons.mp p).2 h];rfl
theorem pred_ix{p:List Nat}{j i:Nat}(up:p.Pairwise (· < ·))(p1: ∀x∈p,1<=x)(h:p[j]?=some i):(0::p)[j]?=some (predN p i):=by
 have u0:(0::p).Pairwise (· < ·):=List.pairwise_cons.mpr ⟨fun x hx=>p1 x hx,up⟩;have hj:j < p.length:=(List.getElem?_eq_some_iff.mp h).1;unfold predN;rw[flt_take u0 (show(0::p)[j+1]?=some i by simpa using h),List.getLastD_eq_getLast?,List.getLast?_take,List.getElem?_eq_getElem (show j < (0::p).length by rw[List.length_cons];lia)];simp
 rw[List.getElem?_eq_getElem (show j < (0::p).length by rw[List.length_cons];lia)];rfl
theorem inN{p:List Nat}{i:Nat}:inD (nI i) (p.map nI)=decide (i∈p):=by
 unfold inD;rw[List.any_map,Bool.eq_iff_iff,List.any_eq_true,decide_eq_true_iff];constructor
 . rintro⟨x,hx,e⟩
   have e:((x:Int)==(i:Int))=true:=e;have:=eq_of_beq e;rw[show i=x by lia];exact hx
 . intro h;exact⟨i,h,beq_self_eq_true (i:Int)⟩
theorem flN(p:List Nat):(p.map nI).all flatD=true:=List.all_eq_true.mpr fun d hd=>by obtain⟨x,_,rfl⟩:=List.mem_map.mp hd;rfl
noncomputable def neF(i:Nat):Dt->Bool
 | .int x=>!decide (x=(i:Int))
 | _=>false
noncomputable def ltF(i:Nat):Dt->Bool
 | .int x=>decide (x < (i:Int))
 | _=>false
theorem neF_map{i:Nat}{L:List Nat}:(L.map nI).filter (neF i)=(L.filter fun x=>decide (x≠i)).map nI:=by
 rw[List.filter_map];congr 1
 refine List.filter_congr fun x _=>?_;show(!decide ((x:Int)=(i:Int)))=decide (x≠i);by_cases c:x=i
 . rw[decide_eq_true (by lia),decide_eq_false (fun z=>z c)];rfl
 . rw[decide_eq_false (by lia),decide_eq_true c];rfl
theorem ltF_map{i:Nat}{L:List Nat}:(L.map nI).filter (ltF i)=(L.filter fun x=>decide (x < i)).map nI:=by
 rw[List.filter_map];congr 1
 refine List.filter_congr fun x _=>?_;show decide ((x:Int) < (i:Int))=decide (x < i);exact decide_eq_decide.mpr (by lia)
def ofS:DN:=fun ds Q=> ∃(n m:Nat) (s:St) (i:Nat),ds= [s.dt,nI i]/\Rc n m s/\n<=12/\1<=i/\i<=n/\Q (lsN (rowN s i))
def rowsS:DN:=fun ds Q=> ∃(n m:Nat) (s:St),ds= [s.dt]/\Rc n m s/\n<=12/\Q (.lst ((rows s).map lsN))
theorem row_some{s:St}{i x:Nat}(h:s.ons.getD (i - 1) none=some x):rowN s i= [x]:=by unfold rowN;rw[h]
theorem row_in{s:St}{i:Nat}(h:s.ons.getD (i - 1) none=none)(hi:i∈s.pile):rowN s i=predN s.pile i::ahL s:=by unfold rowN;rw[h];exact if_pos hi
theorem row_out{s:St}{i:Nat}(h:s.ons.getD (i - 1) none=none)(hi:i∉s.pile):rowN s i=(0::s.pile)++(ahL s).filter fun x=>decide (x≠i):=by unfold rowN;rw[h];exact if_neg hi
theorem ons_at{s:St}{i n:Nat}(l:s.ons.length=n)(h1:1<=i)(h2:i<=n):(s.ons.map oD)[i - 1]?=some (oD (s.ons.getD (i - 1) none)):=by
 rw[List.getElem?_map,List.getD,List.getElem?_eq_getElem (show i - 1 < s.ons.length by lia)];rfl
section
variable {P : Program} {w : World} {K : PySem.W.Frag} {mg : Str -> Option Value} {base : Heap}
theorem ok_of{f:Addr}{fd:FuncData}(F:Fun K "allowed_of" "allowed_of" sAllowedOf f fd)(T:Txt mg):FnOk P w K mg base CX0 1 f fd ["stand","word"] (spA ofS):=by
 refine fnA F scAllowedOf (fun ds Qd h=>?_) (fun cdv A outer s H E hr=>⟨_,(s_cons (s_asg (dv 0) (g_trip 2 3 4 rfl scAllowedOf.nd))
 (s_cons (s_if (t_notN (d_ix (dv 4) (d_sub (dv 1) d_int)))
 (s_one (s_ret (d_lst (a_cons (d_ix (dv 4) (d_sub (dv 1) d_int)) a_nil))))
 s_nil)
 (s_cons (s_set 5 scAllowedOf.nd (d_catT (d_tup (a_cons d_int a_nil)) (dv 2)))
 (s_cons (s_setO 6 scAllowedOf.nd (o_listR rfl T.lst T.rng (a_cons (dv 3) (a_cons (d_add (d_len T.len (a_cons (dv 4) a_nil)) d_int) a_nil))))
 (s_cons (s_if (t_in (dv 1) (dv 2))
 (s_one (s_frz 6 (s_ret (d_catL (d_lst (a_cons (d_ix (dv 5) (d_index (dv 2) (a_cons (dv 1) a_nil))) a_nil)) (dv 6)))))
 s_nil)
 (s_one (s_frz 6 (s_ret (d_catL (Ov.ev (o_list T.lst (a_cons (dv 5) a_nil))) (Ov.ev (o_comp (N:= ["other","word"]) (nt:=1) (js:= [1]) ⟨rfl,by decide+kernel,by decide,rfl,by decide+kernel,(by show∀x∈(_:List (Str × NameKind)),x.2=NameKind.free->(defScope sAllowedOf).names.lookup x.1=some .cell\/(defScope sAllowedOf).names.lookup x.1=some .free;decide+kernel)⟩ rfl (i_list (dv 6)) (fun _ _ _ _ _=>pg_name (i:=0) (show(["other","word"]:List Str).Nodup by decide+kernel) rfl (by first | exact Or.inl rfl | exact Or.inr rfl)) glow_name gname_read (fun _ _ _ _ _=>f_one (t_ne (dv 0) (dv 1))) (fun _ _ _ _ _=>(dv 0))))))))))))),fun ds Qd h=>?_⟩)
 . obtain⟨n,m,s,i,rfl,_⟩:=h;rfl
 . obtain⟨n,m,s,i,rfl,rc,n12,i1,i2,q⟩:=h;have lv:=rc.lv;have gl:=lv.k.g.l;have bl:=lv.k.bl;have b1:=lv.k.g.b;have pl:s.pile.length<=30:=by have:=lv.k.g.p;have:=lv.c;lia
   have s3:3000<=sizeLine:=by decide
   have ea:=atI_sub i1 (ons_at gl i1 i2);have eo:(s.ons.map oD).length=n:=by rw[List.length_map,gl]
   refine⟨_,rfl,_,_,_,rfl,⟨_,rfl,rfl⟩,⟨_,rfl,rfl⟩,⟨_,rfl,rfl⟩,?_⟩;refine⟨_,rfl,_,rfl,_,_,rfl,rfl,_,_,_, .inr rfl,rfl,ea,?_⟩;cases eon:s.ons.getD (i - 1) none with
   | some x=>
    rw[eon] at ea;refine⟨true,rfl,iteT ?_⟩;refine⟨_,rfl,_,rfl,_,_,rfl,rfl,_,_,_, .inr rfl,rfl,ea,by show 1<=sizeLine;decide,?_⟩;rw[row_some eon] at q;exact q
   | none=>
    refine⟨false,rfl,iteF ?_⟩;refine⟨by show 1<=sizeLine;decide,_,rfl,_,_,rfl,rfl,by rw[List.length_map];show 1+s.pile.length<=sizeLine;lia,⟨_,rfl,rfl⟩,?_⟩;refine⟨_,rfl,_,rfl,_, .inr rfl,_,_,rfl,rfl,(s.b:Int),s.ons.length+1 - s.b,?_,by lia,by lia,by lia,⟨_,rfl,rfl⟩,?_⟩
    . rw[eo,show(n:Int)+1=(s.b:Int)+((s.ons.length+1 - s.b:Nat):Int) by lia]
    rw[rngB];have el:(ahL s).length<=13:=by unfold ahL;rw[List.length_range'];lia
    refine⟨_,rfl,_,rfl,_, .inr rfl,rfl,flN _,?_⟩;rw[if_neg Bool.false_ne_true,inN];by_cases c:i∈s.pile
    . obtain⟨j,hj,ej⟩:=List.getElem_of_mem c;have pj:s.pile[j]?=some i:=by rw[List.getElem?_eq_getElem hj,ej]
      have nd:=lv.k.nd;refine⟨true,by rw[decide_eq_true c],iteT ?_⟩;refine⟨_,rfl,_,rfl,_,rfl,⟨_,rfl⟩,_,rfl,_,nI i,j,nI i,rfl,rfl,rfl,flN _,by rw[List.getElem?_map,pj];rfl,beq_self_eq_true (i:Int),fun k u hk hu=>?_,?_⟩
      . rw[List.getElem?_map] at hu;obtain⟨x,hx,rfl⟩:=Option.map_eq_some_iff.mp hu;show((x:Int)==(i:Int))=false;rw[beq_eq_false_iff_ne];intro z;have z:x=i:=by lia
        obtain⟨hk2,ek⟩:=List.getElem?_eq_some_iff.mp hx;have:=List.pairwise_iff_getElem.mp rc.up k j hk2 hj hk;lia
      . have e0:=pred_ix rc.up (fun x hx=>(lv.k.g.rng x hx).1) pj;refine⟨_,_,nI (predN s.pile i), .inr rfl,rfl,atI_nat (by
         show([Dt.int 0]++s.pile.map nI)[j]?=_;have: [Dt.int 0]++s.pile.map nI=(0::s.pile).map nI:=rfl;rw[this,List.getElem?_map,e0];rfl),by show 1<=sizeLine;decide,_,rfl,_,_,rfl,rfl,?_,?_⟩
        . show 1+((List.range' s.b (s.ons.length+1 - s.b)).map nI).length<=sizeLine;rw[List.length_map];unfold ahL at el;lia
        . rw[row_in eon c] at q;exact q
    . refine⟨false,by rw[decide_eq_false c],iteF ?_⟩;refine⟨_,rfl,_,rfl,_, .inr rfl,?_⟩;refine⟨_,rfl,_,rfl,?_,neF i,id,fun d hd=>?_,?_⟩
      . rw[List.length_map];unfold ahL at el;lia
      . obtain⟨x,hx,rfl⟩:=List.mem_map.mp hd;exact⟨⟨_,rfl,rfl⟩,_,rfl,_,rfl,_,rfl,_,rfl,rfl,fun _=>⟨_,rfl,rfl⟩⟩
      . rw[List.map_id,neF_map];refine⟨_,_,rfl,rfl,?_,?_⟩
        . show(Dt.int 0::s.pile.map nI).length+_<=sizeLine;rw[List.length_cons,List.length_map,List.length_map];have:=List.length_filter_le (fun x=>decide (x≠i)) (List.range' s.b (s.ons.length+1 - s.b));unfold ahL at el;lia
        . rw[row_out eon c] at q;unfold lsN at q;rw[List.map_append] at q;exact q
theorem ok_allowed{f:Addr}{fd:FuncData}(F:Fun K "allowed" "allowed" sAllowed f fd)(T:Txt mg)(NAllowedOf:Has P w K mg base "allowed_of" 1 ["stand","word"] (spA ofS)):FnOk P w K mg base CX0 2 f fd ["stand"] (spA rowsS):=by
 refine fnA F scAllowed (fun ds Qd h=>?_) (fun cdv A outer s H E hr=>⟨_,(s_one (s_ret (Ov.ev (o_comp (N:= ["word","stand"]) (nt:=1) (js:= [0]) ⟨rfl,by decide+kernel,by decide,rfl,by decide+kernel,(by show∀x∈(_:List (Str × NameKind)),x.2=NameKind.free->(defScope sAllowed).names.lookup x.1=some .cell\/(defScope sAllowed).names.lookup x.1=some .free;decide+kernel)⟩ rfl (i_rng2 T.rng (a_cons d_int (a_cons (d_add (d_len T.len (a_cons (d_ix (dv 0) d_int) a_nil)) d_int) a_nil))) (fun _ _ _ _ _=>pg_name (i:=0) (show(["word","stand"]:List Str).Nodup by decide+kernel) rfl (by first | exact Or.inl rfl | exact Or.inr rfl)) glow_name gname_read (fun _ _ _ _ _=>f_nil) (fun _ _ _ _ _=>(d_fnA NAllowedOf (hr.mono (by decide)) (a_cons (dv 1) (a_cons (dv 0) a_nil)))))))),fun ds Qd h=>?_⟩)
 . obtain⟨n,m,s,rfl,_⟩:=h;rfl
 . obtain⟨n,m,s,rfl,rc,n12,q⟩:=h;have gl:=rc.lv.k.g.l;have eo:(s.ons.map oD).length=n:=by rw[List.length_map,gl]
   refine⟨_,rfl,_,_,_, .inr rfl,rfl,atI_nat (j:=2) rfl,_, .inr rfl,_,_,rfl,rfl,1,((s.ons.map oD).length:Int)+1,rfl,⟨by decide,by decide,by lia,by lia⟩,?_⟩;rw[eo,show((n:Int)+1 - 1).toNat=n by lia,rngN];refine⟨by rw[List.length_map,List.length_range'];exact small (by lia),fun _=>true,fun d=>match d with | .int x=>lsN (rowN s x.toNat) | d=>d,fun d hd=>?_,?_⟩
   . obtain⟨x,hx,rfl⟩:=List.mem_map.mp hd;rw[List.mem_range'_1] at hx;refine⟨⟨_,rfl,rfl⟩,rfl,fun _=>⟨_,rfl,_,rfl,n,m,s,x,rfl,rc,n12,by lia,by lia,?_⟩⟩;show lsN (rowN s x)=lsN (rowN s ((x:Nat):Int).toNat);rw[Int.toNat_natCast]
   . rw[List.filter_eq_self.mpr fun _ _=>rfl,List.map_map];unfold rows at q;rw[gl,List.map_map] at q;have:(List.range' 1 n).map ((fun d=>match d with | .int x=>lsN (rowN s x.toNat) | d=>d) ∘ nI)=(List.range' 1 n).map (lsN ∘ rowN s):=List.map_congr_left fun x _=>by
      show lsN (rowN s ((x:Nat):Int).toNat)=_;rw[Int.toNat_natCast];rfl
     rw[this];exact q
end
end K34
end
section
namespace K34
open PySem PySem.Spec L2 LB LD PyProof.Rows
theorem cut_tail1{ds:List Dt}{d:Dt}(h:ds.getLast?=some d):LD.cutD ds (some (-1)) none= [d]:=by
 have ne:ds≠ []:=fun z=>by rw[z] at h;cases h
 have l1:=List.length_pos_iff.mpr ne;unfold LD.cutD;have e:HT.sIx ds.length 0 (some (-1))=ds.length - 1:=by
  show(if (-1:Int) < 0 then((-1:Int)+(ds.length:Int)).toNat else min (-1:Int).toNat ds.length)=_;rw[if_pos (by decide)];lia
 rw[e,HT.sIx_none,show ds.length - (ds.length - 1)=1 by lia];rw[List.getLast?_eq_getElem?] at h;obtain⟨hl,e2⟩:=List.getElem?_eq_some_iff.mp h;rw[List.drop_eq_getElem_cons hl,e2];rfl
theorem pred_last{p:List Nat}{i:Nat}(i1:1<=i):(((0::p).filter fun x=>decide (x < i)).map nI).getLast?=some (nI (predN p i)):=by
 unfold predN;rw[List.filter_cons_of_pos (p:=fun x=>decide (x < i)) (decide_eq_true (show 0 < i by lia)),List.map_cons,List.getLast?_cons,List.getLastD_cons];rw[List.getLast?_map,List.getLastD_eq_getLast?];cases ((p.filter fun x=>decide (x < i)).getLast?) <;> rfl
def SnI(s:St)(i:Nat)(δ:List Sl):Prop:= ∃s6 s7,δ= [.im s.dt, .im (.tup (s.pile.map nI)), .im (nI s.b), .im (.tup (s.ons.map oD)), .im (lsN (ahL s)), .ow (((List.range' 1 i).map (rowN s)).map lsN),s6,s7]/\s6.isBx=false/\s7.isBx=false
section
variable {P : Program} {w : World} {K : PySem.W.Frag} {mg : Str -> Option Value} {base : Heap}
theorem ok_sent{f:Addr}{fd:FuncData}(F:Fun K "_law_sentences" "_law_sentences" sLSentences f fd)(T:Txt mg):FnOk P w K mg base CX0 1 f fd ["_law_stand"] (spA rowsS):=by
 refine fnA F scLSentences (fun ds Qd h=>?_) (fun cdv A outer s H E hr=>⟨_,(s_cons (s_asg (dv 0) (g_trip 1 2 3 rfl scLSentences.nd))
 (s_cons (s_par2 4 5 rfl scLSentences.nd (h_im (Ov.ev (o_listR rfl T.lst T.rng (a_cons (dv 2) (a_cons (d_add (d_len T.len (a_cons (dv 3) a_nil)) d_int) a_nil)))) (h_ow (o_lst a_nil) h_nil)))
 (s_cons (s_for rfl (i_enum1 T.enu (a_cons (dv 3) (a_cons d_int a_nil))) (g_pair 6 7 rfl scLSentences.nd)
 (s_one (s_if (t_notN (dv 7))
 (s_one (s_expr (d_append 5 (pv 5) (a_cons (d_lst (a_cons (dv 7) a_nil)) a_nil))))
 (s_one (s_if (t_in (dv 6) (dv 1))
 (s_one ((s_expr (d_append 5 (pv 5) (a_cons (d_catL (d_slL (Ov.ev (o_comp (N:= ["_law_one","_law_word"]) (nt:=1) (js:= [6]) ⟨rfl,by decide+kernel,by decide,rfl,by decide+kernel,(by show∀x∈(_:List (Str × NameKind)),x.2=NameKind.free->(defScope sLSentences).names.lookup x.1=some .cell\/(defScope sLSentences).names.lookup x.1=some .free;decide+kernel)⟩ rfl (i_tup (d_catT (d_tup (a_cons d_int a_nil)) (dv 1))) (fun _ _ _ _ _=>pg_name (i:=0) (show(["_law_one","_law_word"]:List Str).Nodup by decide+kernel) rfl (by first | exact Or.inl rfl | exact Or.inr rfl)) glow_name gname_read (fun _ _ _ _ _=>f_one (t_lt (dv 0) (dv 1))) (fun _ _ _ _ _=>(dv 0)))) (p_some (d_neg d_int)) p_none) (dv 4)) a_nil)))))
 (s_one ((s_expr (d_append 5 (pv 5) (a_cons (d_catL (d_catL (d_lst (a_cons d_int a_nil)) (Ov.ev (o_list T.lst (a_cons (dv 1) a_nil)))) (Ov.ev (o_comp (N:= ["_law_one","_law_word"]) (nt:=1) (js:= [6]) ⟨rfl,by decide+kernel,by decide,rfl,by decide+kernel,(by show∀x∈(_:List (Str × NameKind)),x.2=NameKind.free->(defScope sLSentences).names.lookup x.1=some .cell\/(defScope sLSentences).names.lookup x.1=some .free;decide+kernel)⟩ rfl (i_list (dv 4)) (fun _ _ _ _ _=>pg_name (i:=0) (show(["_law_one","_law_word"]:List Str).Nodup by decide+kernel) rfl (by first | exact Or.inl rfl | exact Or.inr rfl)) glow_name gname_read (fun _ _ _ _ _=>f_one (t_ne (dv 0) (dv 1))) (fun _ _ _ _ _=>(dv 0))))) a_nil))))))))) PassesOwn.never)
 (s_one (s_frz 5 (s_ret (dv 5))))))),fun ds Qd h=>?_⟩)
 . obtain⟨n,m,s,rfl,_⟩:=h;rfl
 . obtain⟨n,m,s,rfl,rc,n12,q⟩:=h;have lv:=rc.lv;have gl:=lv.k.g.l;have bl:=lv.k.bl;have b1:=lv.k.g.b;have pl:s.pile.length<=30:=by have:=lv.k.g.p;have:=lv.c;lia
   have s3:3000<=sizeLine:=by decide
   have eo:(s.ons.map oD).length=n:=by rw[List.length_map,gl]
   have el:(ahL s).length<=13:=by unfold ahL;rw[List.length_range'];lia
   refine⟨_,rfl,_,_,_,rfl,⟨_,rfl,rfl⟩,⟨_,rfl,rfl⟩,⟨_,rfl,rfl⟩,?_⟩;refine⟨_,rfl,_,rfl,_, .inr rfl,_,_,rfl,rfl,(s.b:Int),s.ons.length+1 - s.b,?_,by lia,by lia,by lia,by show 0<=sizeLine;decide,_,_,rfl,⟨_,rfl,rfl⟩,⟨_,rfl,rfl⟩,?_⟩
   . rw[eo,show(n:Int)+1=(s.b:Int)+((s.ons.length+1 - s.b:Nat):Int) by lia]
   rw[rngB];refine⟨_,rfl,_,rfl,for_abs (SnI s) ⟨.no, .no,rfl,rfl,rfl⟩ (fun i d δ hi hP Δ' hnx hrt=>?_) (fun δ hP=>?_)⟩
   . obtain⟨s6,s7,rfl,b6,b7⟩:=hP;unfold enumD at hi;rw[List.getElem?_mapIdx] at hi;obtain⟨d0,hd0,rfl⟩:=Option.map_eq_some_iff.mp hi;have il:i < n:=by have:=(List.getElem?_eq_some_iff.mp hd0).1;rw[eo] at this;exact this
     have e0:=ons_at (s:=s) (i:=i+1) gl (by lia) (by lia);rw[Nat.add_sub_cancel,hd0] at e0;cases e0;have nx: ∀(r:Dt),r=lsN (rowN s (i+1))->((List.range' 1 i).map (rowN s)).map lsN++ [r]=((List.range' 1 (i+1)).map (rowN s)).map lsN:=fun r e=>by
      rw[e,List.range'_concat,List.map_append,List.map_append];show _++ [lsN (rowN s (i+1))]=_++ [lsN (rowN s (1+1*i))];rw[show 1+1*i=i+1 by lia]
     have ll:(((List.range' 1 i).map (rowN s)).map lsN).length < sizeLine:=by rw[List.length_map,List.length_map,List.length_range'];lia
     refine⟨_,_,rfl,⟨_,rfl,b6⟩,⟨_,rfl,b7⟩,?_⟩;refine⟨_,rfl,?_⟩;cases eon:s.ons.getD i none with
     | some x=>
      refine⟨true,rfl,iteT ⟨⟨_,rfl⟩,_,rfl,by show 1<=sizeLine;decide,_,_,rfl,rfl,ll,?_⟩⟩;refine hnx _ ⟨.im (nI (i+1)), .im (oD (some x)),?_,rfl,rfl⟩;rw[<-nx _ (congrArg lsN (row_some (s:=s) (i:=i+1) (by rw[Nat.add_sub_cancel];exact eon)).symm)];rfl
     | none=>
      refine⟨false,rfl,iteF ?_⟩;have eon':s.ons.getD (i+1 - 1) none=none:=by rw[Nat.add_sub_cancel];exact eon
      refine⟨_,rfl,_,rfl,_, .inr rfl,rfl,flN _,?_⟩;rw[if_neg Bool.false_ne_true,show inD (Dt.int ((i+1:Nat):Int)) (s.pile.map nI)=decide (i+1∈s.pile) from inN];by_cases c:i+1∈s.pile
      . refine⟨true,by rw[decide_eq_true c],iteT ⟨⟨_,rfl⟩,?_⟩⟩;refine⟨by show 1<=sizeLine;decide,_,rfl,_,_,rfl,rfl,by rw[List.length_map];show 1+s.pile.length<=sizeLine;lia,_,rfl,?_,ltF (i+1),id,fun d hd=>?_,?_⟩
        . show([Dt.int 0]++s.pile.map nI).length<=sizeLine;rw[List.length_append,List.length_map];show 1+s.pile.length<=sizeLine;lia
        . obtain⟨x,hx,rfl⟩:=List.mem_map.mp (show d∈(0::s.pile).map nI from hd);exact⟨⟨_,rfl,rfl⟩,_,rfl,_,rfl,_,_,rfl,rfl,_,rfl,rfl,fun _=>⟨_,rfl,rfl⟩⟩
        . rw[List.map_id,show [Dt.int 0]++s.pile.map nI=(0::s.pile).map nI from rfl,ltF_map];refine⟨_,rfl,-1,rfl,_,rfl,?_⟩;rw[cut_tail1 (pred_last (Nat.le_add_left 1 i))];refine⟨_,rfl,_,_,rfl,rfl,?_,_,_,rfl,rfl,ll,?_⟩
          . show 1+((ahL s).map nI).length<=sizeLine;rw[List.length_map];lia
          . refine hnx _ ⟨.im (nI (i+1)), .im .non,?_,rfl,rfl⟩;rw[<-nx (lsN (predN s.pile (i+1)::ahL s)) (by rw[row_in eon' c])];rfl
      . refine⟨false,by rw[decide_eq_false c],iteF ⟨⟨_,rfl⟩,?_⟩⟩;refine⟨by show 1<=sizeLine;decide,_,rfl,_, .inr rfl,_,_,rfl,rfl,?_,_,rfl,_,rfl,?_,neF (i+1),id,fun d hd=>?_,?_⟩
        . rw[List.length_map];show 1+s.pile.length<=sizeLine;lia
        . rw[List.length_map];lia
        . obtain⟨x,hx,rfl⟩:=List.mem_map.mp hd;exact⟨⟨_,rfl,rfl⟩,_,rfl,_,rfl,_,rfl,_,rfl,rfl,fun _=>⟨_,rfl,rfl⟩⟩
        . rw[List.map_id,neF_map];refine⟨_,_,rfl,rfl,?_,_,_,rfl,rfl,ll,?_⟩
          . show(Dt.int 0::s.pile.map nI).length+_<=sizeLine;rw[List.length_cons,List.length_map,List.length_map];have:=List.length_filter_le (fun x=>decide (x≠i+1)) (ahL s);lia
          . refine hnx _ ⟨.im (nI (i+1)), .im .non,?_,rfl,rfl⟩;rw[<-nx (.lst (((0::s.pile).map nI)++((ahL s).filter fun x=>decide (x≠i+1)).map nI)) (by rw[row_out eon' c];unfold lsN;rw[List.map_append])];rfl
   . obtain⟨s6,s7,rfl,b6,b7⟩:=hP;have eL:(enumD 1 (s.ons.map oD)).length=s.ons.length:=by unfold enumD;rw[List.length_mapIdx,List.length_map]
     rw[eL];exact⟨_,rfl,_,rfl,q⟩
end
end K34
end
section
namespace K34
open PySem PySem.Spec L2 LB LD PyProof.Rows
def P0(d:Dt):Prop:=d= .non\/ ∃i:Int,d= .int i
def UpD(p:Dt->Prop)(d:Dt):Prop:= ∃es:List Dt,d= .lst es/\es.length<=60/\ ∀e∈es,p e
def sameS(p:Dt->Prop):DN:=fun ds Q=> ∃d,ds= [d,d]/\p d/\Q (.bl true)
section
variable {P : Program} {w : World} {K : PySem.W.Frag} {mg : Str -> Option Value} {base : Heap}
theorem ok_same0{f:Addr}{fd:FuncData}(F:Fun K "_law_same" "_law_same" sLSame f fd)(T:Txt mg):FnOk P w K mg base CX0 1 f fd ["_law_found","_law_due"] (spA (sameS P0)):=by
 refine fnA F scLSame (fun ds Qd h=>?_) (fun cdv A outer s H E hr=>⟨_,(s_cons (s_if (t_isN (dv 1))
 (s_one (s_ret (d_isN (dv 0))))
 s_nil)
 (s_cons (s_if (d_val (d_isi (T:="bool") (by decide) T.isi (pa_cons (dv 1) (pa_cons (pe_bltn (v:= .ty "bool") (by rfl) T.bool boot_bool' rfl) pa_nil))))
 (s_one (s_ret (d_and (d_isi (T:="bool") (by decide) T.isi (pa_cons (dv 0) (pa_cons (pe_bltn (v:= .ty "bool") (by rfl) T.bool boot_bool' rfl) pa_nil))) (d_one (d_eq (dv 0) (dv 1))))))
 s_nil)
 (s_cons (s_if (d_val (d_isi4 (dv 1) T.isi T.lst T.tup))
 (s_cons (s_if (PW.pt (w_or (t_ne (d_isi (T:="list") (by decide) T.isi (pa_cons (dv 0) (pa_cons (pe_bltn (v:= .ty "list") (by rfl) T.lst boot_list' rfl) pa_nil))) (d_isi (T:="list") (by decide) T.isi (pa_cons (dv 1) (pa_cons (pe_bltn (v:= .ty "list") (by rfl) T.lst boot_list' rfl) pa_nil)))) (w_or1 (t_ne (d_isi (T:="tuple") (by decide) T.isi (pa_cons (dv 0) (pa_cons (pe_bltn (v:= .ty "tuple") (by rfl) T.tup boot_tuple' rfl) pa_nil))) (d_isi (T:="tuple") (by decide) T.isi (pa_cons (dv 1) (pa_cons (pe_bltn (v:= .ty "tuple") (by rfl) T.tup boot_tuple' rfl) pa_nil)))))))
 (s_one (s_ret d_bl))
 s_nil)
 (s_one (s_ret (d_and (d_eq (d_len T.len (a_cons (dv 0) a_nil)) (d_len T.len (a_cons (dv 1) a_nil))) (d_one (d_all rfl T.all (a_cons (Ov.ev (o_comp (N:= ["_law_one","_law_other"]) (nt:=2) (js:= []) ⟨rfl,by decide+kernel,by decide,rfl,by decide+kernel,(by show∀x∈(_:List (Str × NameKind)),x.2=NameKind.free->(defScope sLSame).names.lookup x.1=some .cell\/(defScope sLSame).names.lookup x.1=some .free;decide+kernel)⟩ rfl (i_zip (a_cons (dv 0) (a_cons (dv 1) a_nil)) fun z=>pi_zip (by rfl) T.zip z) (fun _ _ _ _ _=>pg_tup rfl (pgs_cons (pg_name (i:=0) (show(["_law_one","_law_other"]:List Str).Nodup by decide+kernel) rfl (by first | exact Or.inl rfl | exact Or.inr rfl)) (pgs_cons (pg_name (i:=1) (show(["_law_one","_law_other"]:List Str).Nodup by decide+kernel) rfl (by first | exact Or.inl rfl | exact Or.inr rfl)) pgs_nil))) glow_pair gpair_read (fun _ _ _ _ _=>f_nil) (fun _ _ _ _ _=>d_never))) a_nil)))))))
 s_nil)
 (s_cons (s_if (d_val (d_isi (T:="str") (by decide) T.isi (pa_cons (dv 1) (pa_cons (pe_bltn (v:= .ty "str") (by rfl) T.str boot_str' rfl) pa_nil))))
 (s_one (s_ret (d_and (d_isi (T:="str") (by decide) T.isi (pa_cons (dv 0) (pa_cons (pe_bltn (v:= .ty "str") (by rfl) T.str boot_str' rfl) pa_nil))) (d_one (d_eq (dv 0) (dv 1))))))
 s_nil)
 (s_one (s_ret (d_and (d_isi (T:="int") (by decide) T.isi (pa_cons (dv 0) (pa_cons (pe_bltn (v:= .ty "int") (by rfl) T.int boot_int' rfl) pa_nil))) (d_and (d_not (d_isi (T:="bool") (by decide) T.isi (pa_cons (dv 0) (pa_cons (pe_bltn (v:= .ty "bool") (by rfl) T.bool boot_bool' rfl) pa_nil)))) (d_one (d_eq (dv 0) (dv 1))))))))))),fun ds Qd h=>?_⟩)
 . obtain⟨d,rfl,_⟩:=h;rfl
 . obtain⟨d,rfl,a,q⟩:=h;rcases a with rfl | ⟨i,rfl⟩
   . exact⟨_,rfl,_,rfl,iteT ⟨_,rfl,q⟩⟩
   . refine⟨_,rfl,_,rfl,iteF ⟨_,rfl,_,rfl,_,rfl,iteF ⟨_,rfl,_,rfl,_,rfl,iteF ⟨_,rfl,_,rfl,_,rfl,iteF ?_⟩⟩⟩⟩;exact⟨_,rfl,_,rfl,_,rfl,iteT ⟨_,rfl,_,rfl,_,rfl,_,rfl,iteT ⟨_,rfl,_,rfl,true,(show some (decide _)=some true from congrArg some (decide_eq_true rfl)),q⟩⟩⟩
theorem ok_same1{p:Dt->Prop}{k:Nat}{f:Addr}{fd:FuncData}(F:Fun K "_law_same" "_law_same" sLSame f fd)(T:Txt mg)(NLSame:Has P w K mg base "_law_same" (k+1) ["_law_found","_law_due"] (spA (sameS p))):FnOk P w K mg base CX0 (k+2) f fd ["_law_found","_law_due"] (spA (sameS (UpD p))):=by
 refine fnA F scLSame (fun ds Qd h=>?_) (fun cdv A outer s H E hr=>⟨_,(s_cons (s_if (t_isN (dv 1))
 (s_one (s_ret (d_isN (dv 0))))
 s_nil)
 (s_cons (s_if (d_val (d_isi (T:="bool") (by decide) T.isi (pa_cons (dv 1) (pa_cons (pe_bltn (v:= .ty "bool") (by rfl) T.bool boot_bool' rfl) pa_nil))))
 (s_one (s_ret (d_and (d_isi (T:="bool") (by decide) T.isi (pa_cons (dv 0) (pa_cons (pe_bltn (v:= .ty "bool") (by rfl) T.bool boot_bool' rfl) pa_nil))) (d_one (d_eq (dv 0) (dv 1))))))
 s_nil)
 (s_cons (s_if (d_val (d_isi4 (dv 1) T.isi T.lst T.tup))
 (s_cons (s_if (PW.pt (w_or (t_ne (d_isi (T:="list") (by decide) T.isi (pa_cons (dv 0) (pa_cons (pe_bltn (v:= .ty "list") (by rfl) T.lst boot_list' rfl) pa_nil))) (d_isi (T:="list") (by decide) T.isi (pa_cons (dv 1) (pa_cons (pe_bltn (v:= .ty "list") (by rfl) T.lst boot_list' rfl) pa_nil)))) (w_or1 (t_ne (d_isi (T:="tuple") (by decide) T.isi (pa_cons (dv 0) (pa_cons (pe_bltn (v:= .ty "tuple") (by rfl) T.tup boot_tuple' rfl) pa_nil))) (d_isi (T:="tuple") (by decide) T.isi (pa_cons (dv 1) (pa_cons (pe_bltn (v:= .ty "tuple") (by rfl) T.tup boot_tuple' rfl) pa_nil)))))))
 (s_one (s_ret d_bl))
 s_nil)
 (s_one (s_ret (d_and (d_eq (d_len T.len (a_cons (dv 0) a_nil)) (d_len T.len (a_cons (dv 1) a_nil))) (d_one (d_all rfl T.all (a_cons (Ov.ev (o_comp (N:= ["_law_one","_law_other"]) (nt:=2) (js:= []) ⟨rfl,by decide+kernel,by decide,rfl,by decide+kernel,(by show∀x∈(_:List (Str × NameKind)),x.2=NameKind.free->(defScope sLSame).names.lookup x.1=some .cell\/(defScope sLSame).names.lookup x.1=some .free;decide+kernel)⟩ rfl (i_zip (a_cons (dv 0) (a_cons (dv 1) a_nil)) fun z=>pi_zip (by rfl) T.zip z) (fun _ _ _ _ _=>pg_tup rfl (pgs_cons (pg_name (i:=0) (show(["_law_one","_law_other"]:List Str).Nodup by decide+kernel) rfl (by first | exact Or.inl rfl | exact Or.inr rfl)) (pgs_cons (pg_name (i:=1) (show(["_law_one","_law_other"]:List Str).Nodup by decide+kernel) rfl (by first | exact Or.inl rfl | exact Or.inr rfl)) pgs_nil))) glow_pair gpair_read (fun _ _ _ _ _=>f_nil) (fun _ _ _ _ _=>(d_fnA NLSame (hr.mono (Nat.le_refl _)) (a_cons (dv 0) (a_cons (dv 1) a_nil)))))) a_nil)))))))
 s_nil)
 (s_cons (s_if (d_val (d_isi (T:="str") (by decide) T.isi (pa_cons (dv 1) (pa_cons (pe_bltn (v:= .ty "str") (by rfl) T.str boot_str' rfl) pa_nil))))
 (s_one (s_ret (d_and (d_isi (T:="str") (by decide) T.isi (pa_cons (dv 0) (pa_cons (pe_bltn (v:= .ty "str") (by rfl) T.str boot_str' rfl) pa_nil))) (d_one (d_eq (dv 0) (dv 1))))))
 s_nil)
 (s_one (s_ret (d_and (d_isi (T:="int") (by decide) T.isi (pa_cons (dv 0) (pa_cons (pe_bltn (v:= .ty "int") (by rfl) T.int boot_int' rfl) pa_nil))) (d_and (d_not (d_isi (T:="bool") (by decide) T.isi (pa_cons (dv 0) (pa_cons (pe_bltn (v:= .ty "bool") (by rfl) T.bool boot_bool' rfl) pa_nil)))) (d_one (d_eq (dv 0) (dv 1))))))))))),fun ds Qd h=>?_⟩)
 . obtain⟨d,rfl,_⟩:=h;rfl
 . obtain⟨d,rfl,⟨es,hd,el,pe⟩,q⟩:=h;subst hd
   . refine⟨_,rfl,_,rfl,iteF ⟨_,rfl,_,rfl,_,rfl,iteF ⟨_,rfl,_,rfl,_,rfl,iteT ?_⟩⟩⟩;refine⟨_,rfl,_,rfl,_,rfl,_,rfl,true,rfl,_,rfl,iteF ⟨_,rfl,_,rfl,_,rfl,_,rfl,true,rfl,_,rfl,iteF ?_⟩⟩;refine⟨_,rfl,_, .inl rfl,_,rfl,_, .inl rfl,true,eq2N.trans (by simp),_,rfl,iteT ?_⟩;refine⟨_,rfl,_,rfl,false,false,_,_,rfl,?_,fun _=>true,fun _=> .bl true,fun e he=>?_,?_⟩
     . unfold zipD;rw[List.length_zipWith,Nat.min_self];exact Nat.le_trans el (by decide)
     . obtain⟨i,hi,ei⟩:=List.getElem_of_mem he;unfold zipD at hi ei;rw[List.getElem_zipWith] at ei;subst ei;exact⟨_,_,rfl,⟨_,rfl,rfl⟩,⟨_,rfl,rfl⟩,rfl,fun _=>⟨_,rfl,_,rfl,_,rfl,pe _ (List.getElem_mem _),rfl⟩⟩
     . refine⟨List.replicate (zipD es es).length true,?_,?_⟩
       . rw[List.filter_eq_self.mpr (fun _ _=>rfl),List.map_replicate];congr 2
         exact List.eq_replicate_iff.mpr ⟨by rw[List.length_map],fun b hb=>by obtain⟨_,_,rfl⟩:=List.mem_map.mp hb;rfl⟩
       rw[show(List.replicate (zipD es es).length true).all id=true from List.all_eq_true.mpr fun b hb=>(List.eq_of_mem_replicate hb)];exact q
end
end K34
end
section
namespace L2
open PySem PySem.Spec LB PyProof.Rows LSet
section
variable {X : Cx} {K : Type} [DecidableEq K]
structure KdV(κ:Kd X.prog X.w K)(v:K->V):Prop where
 to: ∀k u,RelV (v k) u->κ.kv u=some k
 of: ∀k u,κ.kv u=some k->RelV (v k) u
theorem kdv_int:KdV (intK X.prog X.w) V.int:=⟨fun k u h=>by obtain⟨t,rfl⟩:=h;rfl,fun k u h=>by cases u <;> first | (cases h;exact⟨_,rfl⟩) | cases h⟩
theorem vals_keys{κ:Kd X.prog X.w K}{v:K->V}(kv:KdV κ v): ∀{ks:List K} {us:List Value},Vals (ks.map v) us->us.length=ks.length/\ ∀(i:Nat) u k,us[i]?=some u->ks[i]?=some k->κ.kv u=some k
 | [],_, .nil=>⟨rfl,fun i u k h _=>by simp at h⟩
 | k::ks,_, .cons r t=>by
  obtain⟨h1,h2⟩:=vals_keys kv t;refine⟨by rw[List.length_cons,List.length_cons,h1],fun i u k a b=>?_⟩;cases i with
  | zero=>cases a;cases b;exact kv.to _ _ r
  | succ j=>exact h2 j u k (by simpa using a) (by simpa using b)
theorem keys_vals{κ:Kd X.prog X.w K}{v:K->V}(kv:KdV κ v): ∀{ks:List K} {us:List Value},us.length=ks.length->(∀(i:Nat) u k,us[i]?=some u->ks[i]?=some k->κ.kv u=some k)->Vals (ks.map v) us
 | [],[],_,_=> .nil
 | [],_::_,l,_=>by simp at l
 | _::_,[],l,_=>by simp at l
 | k::ks,u::us,l,h=> .cons (kv.of _ _ (h 0 u k rfl rfl)) (keys_vals kv (by simpa using l) fun i u k a b=>h (i+1) u k (by simpa using a) (by simpa using b))
theorem Inv.drawnTo{pins:List (Addr × Obj)}{σ:List (Option V)}{H:Hp}{s:Shared}(I:Inv X pins σ H s)(d:Drawn):Inv X pins σ H {s with drawn:=d}:=⟨I.ok,I.os,I.bare,I.base,I.loc,I.cell,I.free,I.freeC,I.pin,I.hok,I.len⟩
end
end L2
namespace LD
open PySem PySem.Spec L2 LB PyProof.Rows LSet
section
variable {X : Cx} {e : Expr} {tA : DTA} {pos p pos2 p2 : Pos}
theorem boot_set':bootBuiltins "set"=some (.type "set"):=by decide+kernel
end
end LD
end
section
namespace LD
open PySem PySem.Spec L2 LB PyProof.Rows LSrt
section
variable {X : Cx} {e : Expr} {tA : DTA} {pos p : Pos}
noncomputable def liD(q:List Int):Dt:= .lst (q.map .int)
end
end LD
end
section
namespace LD
open PySem PySem.Spec L2 LB PyProof.Rows LSrt
section
variable {Ws : List Wd} {M : Addr -> Prop} {α : List (List Addr)} {H H2 H3 : Hp} {σ σ2 σ3 : L2.St} {δ : List Sl} {i r : Nat} {d0 : Dt}
theorem EnvR.wipe(E:EnvR Ws M α H σ δ)(oki:okSet δ i)(okr:okSet δ r)(hs: ∀(j:Nat) s,δ[j]?=some s->s= .no\/(∃d,s= .im d)\/ ∃t,s= .bx t)
  (E2:EnvR Ws M (α.set i []) H2 σ2 (δ.set i (.im d0))) (hσ: ∀j,j≠i->σ2[j]?=σ[j]?) (keep: ∀a o,H a=some o-> ¬M a->H2 a=some o)
  (l3:σ3.length=σ2.length) (g3: ∀j,j≠i->j≠r->σ3[j]?=σ2[j]?) (k3: ∀b,H b≠none->H3 b=H2 b):EnvR Ws M ((α.set i []).set r []) H3 σ3 ((δ.set i .no).set r .no):=by
 have hi:=oki.lt;have hr:=okr.lt;have ls2:σ2.length=δ.length:=by rw[E2.ls,List.length_set]
 have sub: ∀a,a∈((α.set i []).set r []).flatten->a∈(α.set i []).flatten:=fun a ha=>(flat_set ha).elim id fun z=>absurd z List.not_mem_nil;have sub0: ∀a,a∈(α.set i []).flatten->a∈α.flatten:=fun a ha=>(flat_set ha).elim id fun z=>absurd z List.not_mem_nil;have old: ∀a,M a->H a≠none:=fun a z=>by obtain⟨o,e,_⟩:=E.al a z;rw[e];intro y;cases y
 refine⟨by rw[l3,ls2,List.length_set,List.length_set],by rw[List.length_set,List.length_set,List.length_set,List.length_set,E.la],fun j s hj=>?_,flat_nd_set E2.nd List.nodup_nil (fun x hx=>absurd hx List.not_mem_nil),fun a ha=>E2.mu a (sub a ha),fun a ha=>?_,fun W hW=>?_⟩
 . by_cases jr:r=j
   . subst jr;rw[List.getElem?_set_self (by rw[List.length_set];exact hr)] at hj;cases hj;exact⟨σ3[r]'(by rw[l3,ls2];exact hr),[],List.getElem?_eq_getElem _,by rw[List.getElem?_set_self (by rw[List.length_set,E.la];exact hr)],rfl⟩
   . rw[List.getElem?_set_ne jr] at hj;by_cases ji:i=j
     . subst ji;rw[List.getElem?_set_self hi] at hj;cases hj;exact⟨σ3[i]'(by rw[l3,ls2];exact hi),[],List.getElem?_eq_getElem _,by rw[List.getElem?_set_ne jr,List.getElem?_set_self (by rw[E.la];exact hi)],rfl⟩
     . rw[List.getElem?_set_ne ji] at hj;have gσ:σ3[j]?=σ[j]?:=by rw[g3 j (fun z=>ji z.symm) (fun z=>jr z.symm),hσ j fun z=>ji z.symm]
       obtain⟨o,as,h1,h2,h3⟩:=E.sl j s hj;refine⟨o,as,by rw[gσ,h1],by rw[List.getElem?_set_ne jr,List.getElem?_set_ne ji,h2],?_⟩;rcases hs j s hj with rfl | ⟨d,rfl⟩ | ⟨t,rfl⟩
       . exact h3
       . obtain⟨e,v,ev,rv⟩:=h3;exact⟨e,v,ev,rv.mono fun a o e n=>⟨by rw[k3 a (by rw[e];intro y;cases y)];exact keep a o e n,n⟩⟩
       . obtain⟨o',as',h1',h2',h3'⟩:=E2.sl j (.bx t) (by rw[List.getElem?_set_ne ji];exact hj);rw[List.getElem?_set_ne ji,h2] at h2';cases h2';rw[hσ j fun z=>ji z.symm,h1] at h1';cases h1';obtain⟨d,c,e1,e2,B⟩:=h3';have md: ∀a∈as,M a:=fun a ha=>E.mu a (flat_get h2 ha);refine⟨d,c,e1,e2,⟨?_,?_,B.t0,B.t1⟩⟩
         . rw[k3 d (old d (md d (by rw[e1];simp)))];exact B.dc
         . rw[k3 c (old c (md c (by rw[e1];simp)))];exact B.cs
 . rw[k3 a (old a ha)];exact E2.al a ha
 . have k:=E.w W hW;have k2:=E2.w W hW;refine⟨fun b o e n=>?_,fun b n=>?_,fun a ha=>k2.fr a (sub a ha),k.m0,k.m1,fun d c e=>?_,fun j s as h1 h2 nb=>?_⟩
   . rw[k3 b (by rw[k.bs b o e n];intro y;cases y)];exact k2.bs b o e n
   . rw[k3 b (k.ex b n)];exact k2.ex b n
   . obtain⟨t,e1,e2⟩:=k.bx d c e;have i0:i≠0:=fun z=>by subst z;obtain⟨s,es,nb⟩:=oki;rw[e1] at es;cases es;cases nb
     have r0:r≠0:=fun z=>by subst z;obtain⟨s,es,nb⟩:=okr;rw[e1] at es;cases es;cases nb
     exact⟨t,by rw[List.getElem?_set_ne r0,List.getElem?_set_ne i0];exact e1,by rw[List.getElem?_set_ne r0,List.getElem?_set_ne i0];exact e2⟩
   . by_cases jr:r=j
     . subst jr;rw[List.getElem?_set_self (by rw[List.length_set,E.la];exact hr)] at h2;cases h2;exact fun a ha=>absurd ha List.not_mem_nil
     . rw[List.getElem?_set_ne jr] at h1 h2;by_cases ji:i=j
       . subst ji;rw[List.getElem?_set_self (by rw[E.la];exact hi)] at h2;cases h2;exact fun a ha=>absurd ha List.not_mem_nil
       . rw[List.getElem?_set_ne ji] at h1 h2;exact k.fz j s as h1 h2 nb
end
section
variable {X : Cx} {s1 s2 s3 s4 : Stmt} {S : DN} {t : DTA} {u : DTT} {ta : TS} {v0 : V} {i r : Nat}
def dR3(i r:Nat)(S:DN)(t:DTA)(u:DTT):DTS:=fun Δ δ=>t δ fun ds δ'=>δ'=δ/\(∀d∈ds,FlT d)/\okSet δ i/\okSet δ r/\i≠r/\(∀(j:Nat) s,δ[j]?=some s->s= .no\/(∃d,s= .im d)\/ ∃t,s= .bx t)/\
 S ds fun x=> ∃R:List (List Int),x= .lst (R.map liD)/\R.length<=60/\(∀l∈R,l.length<=60)/\u (δ.set i (.im x)) fun b δ2=>b=false/\δ2=δ.set i (.im x)/\Δ.nx ((δ.set i .no).set r .no)
end
end LD
end
section
namespace LD
open PySem PySem.Spec L2 LB PyProof.Rows
section
variable {X : Cx} {s1 s2 s3 s4 : Stmt} {S : DN} {t : DTA} {u : DTT} {ta : TS} {v0 : V} {tv : TE} {i r : Nat}
theorem ss_r3R(h1:PS X s1 (tAsg (tCall (spA S) [] E0 (lA t)) (gName i)))(h2:PS X s2 (tIfS (lT u) ta tNext))
  (h3:PS X s3 (tFor (iList X.K (tVar i)) (gName r) (tDrop (tBM X.K "list" rAppend (tVar r) (tCons tv tNil)))))
  (h4:PS X s4 (tDrop (tBM0 X.K "list" rReverse (tVar i)))) (hv: ∀σ H Q,Q v0 H->tv σ H Q):Exs X [s1,s2,s3,s4] (dR3 i r S t u):=
 PSs.imp (pss_cons h1 (pss_cons h2 (pss_cons h3 (pss_one h4)))) fun D σ H zz=>by
  obtain⟨Ws,M,α,δ,Δ,E,L,q⟩:=zz;refine⟨Ws,M,α,δ,_,E,q,fun ds δ' H' vs zz E1 c1 r1=>?_⟩;obtain⟨rfl,fl,oki,okr,ir,sl,q1⟩:=zz;show spA S (vs++ []) H' _ E0;rw[List.append_nil];have al:MOk (fun a=>M a\/ ∃o,H' a=some o/\ ∀xs,o≠ .tup xs) H':=fun a z=>z.elim (E1.al a) id;refine⟨_,ds,_,al,r1.flt fl al,q1,fun x H2 v2 zz s r2=>?_⟩;obtain⟨R,rfl,R60,L60,q2⟩:=zz;obtain⟨a,xs,rfl,h2,n,rr⟩:=r2.ofLst;have fr: ∀b ys,H2 b=some (.lst ys)-> ¬(M b\/ ∃o,H' b=some o/\ ∀xs,o≠ .tup xs)->H' b=none:=fun b ys e n=>by
   cases e':H' b with
   | none=>rfl
   | some o=>
    have:=s _ _ e';rw[e] at this;cases this;exact absurd (.inr ⟨_,e',fun xs z=>by cases z⟩) n
  have r2':Rep M H2 (.ref a) (.lst (R.map liD)):=r2.mono fun a o e n=>⟨e,fun z=>n (.inl z)⟩
  have E2:=(E1.same s).setIm r2' oki;refine⟨Ws,M,α.set i [],_,_,E2,q2,fun b δ2 H3 zz E3 c3=>?_⟩;obtain⟨rfl,rfl,nx⟩:=zz;rw[if_neg Bool.false_ne_true];have keep: ∀b o,H2 b=some o->H' b=none->H3 b=some o:=fun b o e n=>c3 b o e fun z=>by
   obtain⟨o',e',_⟩:=E1.al b (E2.mu b z);rw[n] at e';cases e'
  have ha3:H3 a=some (.lst xs):=keep a _ h2 (fr a _ h2 n);have lx:xs.length=R.length:=by rw[rr.1,List.length_map]
  have si:(σ.set i (some (V.ref a)))[i]?=some (some (V.ref a)):=List.getElem?_set_self (by rw[E1.ls];exact oki.lt);have inn: ∀(l:Nat) y,xs[l]?=some y-> ∃p ys,y= .ref p/\H' p=none/\p≠a/\H3 p=some (.lst ys)/\ys.length<=60:=fun l y hy=>by
   have ll:l < R.length:=by rw[<-lx];exact(List.getElem?_eq_some_iff.mp hy).1
   have ry:=rr.2 l y _ hy (by rw[List.getElem?_map,List.getElem?_eq_getElem ll];rfl);obtain⟨p,ys,rfl,hp,np,rp⟩:=Rep.ofLst ry;refine⟨p,ys,rfl,fr p _ hp np,fun z=>?_,keep p _ hp (fr p _ hp np),by rw[rp.1,List.length_map];exact L60 _ (List.getElem_mem _)⟩;subst z;rw[h2] at hp;cases hp;have l2:l < (R[l].map Dt.int).length:=by rw[<-rp.1];exact(List.getElem?_eq_some_iff.mp hy).1
   have:=rp.2 l _ _ hy (List.getElem?_eq_getElem l2);rw[List.getElem_map] at this;cases this
  refine⟨.ref a,si,a,rfl,⟨xs,SqL.of ha3⟩,fun k m σ' H4=>m=xs.length - k/\k<=xs.length/\σ'.length=σ.length/\(∀j,j≠r->σ'[j]?=(σ.set i (some (V.ref a)))[j]?)/\H4 a=some (.lst xs)/\(∀(l:Nat) y,xs[l]?=some y-> ∃p ys,y= .ref p/\H' p=none/\p≠a/\H4 p=some (.lst ys)/\ys.length<=60+k)/\ ∀b,H' b≠none->H4 b=H3 b,⟨xs.length,by lia,Nat.zero_le _,by rw[List.length_set],fun _ _=>rfl,ha3,inn,fun _ _=>rfl⟩,?_⟩;rintro k m σ' H4 ⟨rfl,kl,l4,g4,h4a,i4,o4⟩
  by_cases c:k < xs.length
  . refine .inr ⟨⟨xs,xs[k],SqL.of h4a,List.getElem?_eq_getElem c⟩,_,fun σ5 H5 z=>⟨xs.length - (k+1),by lia,z⟩,?_⟩;rintro x H5 ⟨rfl,hx⟩
    have ex:=hx xs (SqL.of h4a);obtain⟨p,ys,rfl,hp,pa,h5p,yl⟩:=i4 k x ex;refine⟨.ref p,List.getElem?_set_self (by rw[l4,E1.ls];exact okr.lt), .inl ⟨rfl,ys,SqL.of h5p⟩,hv _ _ _ ⟨p,ys,v0,rfl,rfl,h5p,Nat.lt_of_lt_of_le (show ys.length < 200 by lia) (by decide),rfl,by lia,by rw[List.length_set,l4],fun j jr=>by rw[List.getElem?_set_ne fun z=>jr z.symm];exact g4 j jr,by rw[upd_ne pa.symm];exact h4a,fun l y hy=>?_,fun b hb=>by rw[upd_ne (fun z=>hb (by rw[z];exact hp))];exact o4 b hb⟩⟩;obtain⟨p',ys',rfl,hp',pa',h5p',yl'⟩:=i4 l y hy;by_cases e:p'=p
    . subst e;exact⟨p',_,rfl,hp',pa',upd_same,by rw[List.length_append];show ys.length+1<=_;lia⟩
    . exact⟨p',ys',rfl,hp',pa',by rw[upd_ne e];exact h5p',by lia⟩
  . refine .inl ⟨⟨xs,SqL.of h4a,by lia⟩, .ref a,by rw[g4 i ir];exact si, .inl ⟨rfl,xs,SqL.of h4a⟩,a,xs,rfl,rfl,h4a,?_⟩;have old: ∀b,H' b≠none->H3 b≠none:=fun b hb=>by
     cases e:H' b with
     | none=>exact absurd e hb
     | some o=>
      by_cases m:b∈(α.set i []).flatten
      . obtain⟨o',e',_⟩:=E3.al b (E3.mu b m);rw[e'];intro y;cases y
      . rw[c3 b o (s _ _ e) m];intro y;cases y
    refine L.nx _ _ _ _ _ (E1.wipe oki okr sl E3 (fun j ji=>List.getElem?_set_ne fun z=>ji z.symm) (fun b o e n=>c3 b o (s _ _ e) fun z=>n (E2.mu b z)) (by rw[l4,List.length_set]) (fun j _ jr=>g4 j jr) fun b hb=>?_) nx;rw[upd_ne (fun z=>hb (by rw[z];exact fr a _ h2 n))];exact o4 b hb
end
end LD
end
section
namespace K34
open PySem PySem.Spec L2 LB LD PyProof.Rows LSrt
def rightS:DN:=fun ds Q=> ∃(n m:Nat) (s:St),ds= [s.dt]/\Rc n m s/\n<=12/\Q (.bl true)
theorem flt_dt{s:St}:FlT s.dt:=by
 refine .tup fun d hd=>?_;rcases List.mem_cons.mp hd with rfl | hd
 . refine .tup fun d hd=>?_;obtain⟨x,_,rfl⟩:=List.mem_map.mp hd;exact .int _
 rcases List.mem_cons.mp hd with rfl | hd
 . exact .int _
 rw[List.mem_singleton.mp hd];refine .tup fun d hd=>?_;obtain⟨x,_,rfl⟩:=List.mem_map.mp hd;cases x with
 | none=>exact .non
 | some y=>exact .int _
theorem row_len{n m:Nat}{s:St}(rc:Rc n m s)(n12:n<=12){i:Nat}:(rowN s i).length<=60:=by
 have lv:=rc.lv;have gl:=lv.k.g.l;have b1:=lv.k.g.b;have pl:s.pile.length<=30:=by have:=lv.c;have:=lv.k.bl;lia
 have el:(ahL s).length<=13:=by unfold ahL;rw[List.length_range'];lia
 cases e:s.ons.getD (i - 1) none with
 | some x=>rw[row_some e];show 1<=60;decide
 | none=>
  by_cases c:i∈s.pile
  . rw[row_in e c,List.length_cons];lia
  . rw[row_out e c,List.length_append,List.length_cons];have:=List.length_filter_le (fun x=>decide (x≠i)) (ahL s);lia
theorem rows_up{n m:Nat}{s:St}(rc:Rc n m s)(n12:n<=12):UpD (UpD P0) (.lst ((rows s).map lsN)):=by
 have gl:=rc.lv.k.g.l;refine⟨_,rfl,by rw[List.length_map];unfold rows;rw[List.length_map,List.length_range'];lia,fun e he=>?_⟩;obtain⟨r,hr,rfl⟩:=List.mem_map.mp he;obtain⟨i,_,rfl⟩:=List.mem_map.mp hr;refine⟨_,rfl,by rw[List.length_map];exact row_len rc n12,fun e he=>?_⟩;obtain⟨x,_,rfl⟩:=List.mem_map.mp he;exact .inr ⟨_,rfl⟩
section
variable {P : Program} {w : World} {K : PySem.W.Frag} {mg : Str -> Option Value} {base : Heap}
theorem ok_right{f:Addr}{fd:FuncData}(F:Fun K "_law_right" "_law_right" sLRight f fd)(T:Txt mg)(NAllowed:Has P w K mg base "allowed" 2 ["stand"] (spA rowsS))(NLSentences:Has P w K mg base "_law_sentences" 1 ["_law_stand"] (spA rowsS))(NLSame:Has P w K mg base "_law_same" 3 ["_law_found","_law_due"] (spA (sameS (UpD (UpD P0))))):FnOk P w K mg base CX0 4 f fd ["_law_stand"] (spA rightS):=by
 refine fnA F scLRight (fun ds Qd h=>?_) (fun cdv A outer s H E hr=>⟨_,(@s_cons _ _ _ _ _ (s_set 1 scLRight.nd (d_fnA NLSentences (hr.mono (by decide)) (@a_cons _ _ _ _ _ (dv 0) a_nil rfl)))
 (@s_cons _ _ _ _ _ (s_for rfl (i_rng1 T.rng (@a_cons _ _ _ _ _ d_int a_nil rfl)) (g_name 2 scLRight.nd)
 (ss_r3R (v0:= .int (-1)) (ps_set (i:=3) scLRight.nd rfl (by first | exact Or.inl rfl | exact Or.inr rfl) (pe_has NAllowed (hr.mono (by decide)) rfl (@a_cons _ _ _ _ _ (dv 0) a_nil rfl)))
 (ps_if (t_not (d_val (d_fnA NLSame (hr.mono (by decide)) (@a_cons _ _ _ _ _ (dv 3) (@a_cons _ _ _ _ _ (dv 1) a_nil rfl) rfl)))) (pss_one (ps_ret pe_bl)) pss_nil)
 (ps_for PassesOwn.never rfl (pi_list (pv 3)) (pg_name (i:=4) scLRight.nd rfl (by first | exact Or.inl rfl | exact Or.inr rfl)) (pss_one (ps_expr (pe_bm PySem.F.plainAttrs_list PySem.F.slot_list_append PySem.F.type_list_append mt_append (pv 4) (pa_cons (pe_un un_neg pe_int) pa_nil)))))
 (ps_expr (pe_bm0 PySem.F.plainAttrs_list PySem.F.slot_list_reverse PySem.F.type_list_reverse mt_reverse (pv 3))) (fun σ H Q q=>⟨1,rfl,q⟩)) PassesOwn.never)
 (s_one (s_ret d_bl)))),fun ds Qd h=>?_⟩)
 . obtain⟨n,m,s,rfl,_⟩:=h;rfl
 . obtain⟨n,m,s,rfl,rc,n12,q⟩:=h;have gl:=rc.lv.k.g.l;refine⟨_,rfl,n,m,s,rfl,rc,n12,⟨_,rfl,rfl⟩,?_⟩;refine⟨_,rfl,by decide,by decide,for_abs (fun _ δ=> ∃s2 s3 s4,δ= [.im s.dt, .im (.lst ((rows s).map lsN)),s2,s3,s4]/\(s2= .no\/ ∃d,s2= .im d)/\s3= .no/\s4= .no) ⟨.no, .no, .no,rfl, .inl rfl,rfl,rfl⟩ (fun i d δ hi hP Δ' hnx hrt=>?_) (fun δ hP=>?_)⟩
   . obtain⟨s2,s3,s4,rfl,h2,rfl,rfl⟩:=hP;have b2:s2.isBx=false:=by rcases h2 with rfl | ⟨d,rfl⟩ <;> rfl
     refine⟨⟨_,rfl,b2⟩,?_⟩;refine⟨_,rfl,rfl,fun d hd=>?_,⟨_,rfl,rfl⟩,⟨_,rfl,rfl⟩,by decide,fun j sl hj=>?_,n,m,s,rfl,rc,n12,(rows s).map (fun r=>r.map Int.ofNat),?_,?_,fun l hl=>?_,?_⟩
     . rw[List.mem_singleton.mp hd];exact flt_dt
     . match j,hj with
       | 0,hj=>cases hj;exact .inr (.inl ⟨_,rfl⟩)
       | 1,hj=>cases hj;exact .inr (.inl ⟨_,rfl⟩)
       | 2,hj=>cases hj;exact .inr (.inl ⟨_,rfl⟩)
       | 3,hj=>cases hj;exact .inl rfl
       | 4,hj=>cases hj;exact .inl rfl
       | j+5,hj=>simp at hj
     . rw[List.map_map];congr 1
       refine List.map_congr_left fun r _=>?_;show Dt.lst (r.map nI)=Dt.lst ((r.map Int.ofNat).map .int);rw[List.map_map];rfl
     . rw[List.length_map];unfold rows;rw[List.length_map,List.length_range'];lia
     . obtain⟨r,hr,rfl⟩:=List.mem_map.mp hl;obtain⟨i,_,rfl⟩:=List.mem_map.mp hr;rw[List.length_map];exact row_len rc n12
     . exact⟨_,rfl,_,rfl,_,rfl,rows_up rc n12,_,rfl,rfl,rfl,hnx _ ⟨.im d, .no, .no,rfl, .inr ⟨d,rfl⟩,rfl,rfl⟩⟩
   . obtain⟨s2,s3,s4,rfl,_⟩:=hP;exact q
end
end K34
end
section
namespace K34
open PySem PySem.Spec L2 LB LD PyProof.Rows
theorem may_get{s:St}{j:Nat}{d:Dt}(h:(mayL s)[j]?=some d): ∃w,d= .str w/\okB s w=true:=by
 have m:=List.mem_of_getElem? h;have: ∃w,d= .str w:=by
  unfold mayL at m;rcases List.mem_append.mp m with m | m
  . rcases List.mem_append.mp m with m | m
    . cases c:canRead s <;> rw[c] at m <;> simp at m;exact⟨_,m⟩
    . cases c:canNext s <;> rw[c] at m <;> simp at m;exact⟨_,m⟩
  . cases c:canUnder s <;> rw[c] at m <;> simp at m;exact⟨_,m⟩
 obtain⟨w,rfl⟩:=this;refine⟨w,rfl,?_⟩;rw[<-in_may];exact List.any_eq_true.mpr ⟨_,m,beq_self_eq_true _⟩
theorem last_atD{l:List Dt}(h:0 < l.length):atI l (-1)=some (l[l.length - 1]'(by lia)):=by
 unfold atI ixN;rw[if_neg (by decide),if_pos (by lia)];show l[_]?=_;rw[show(-1+(l.length:Int)).toNat=l.length - 1 by lia];exact List.getElem?_eq_getElem _
theorem last_snocD{l:List Dt}{x:Dt}:atI (l++ [x]) (-1)=some x:=by
 rw[last_atD (by rw[List.length_append];show 0 < l.length+1;lia)];congr 1
 have:(l++ [x]).length - 1=l.length:=by rw[List.length_append];rfl
 simp [this]
def TkI(n m:Nat)(t:Int)(i:Nat)(δ:List Sl):Prop:= ∃(s:St) (ws:List Str) (t':Int) (s5 s6:Sl),δ= [.bx t', .im (nI n), .im (nI m), .im s.dt, .ow (ws.map .str),s5,s6]/\s5.isBx=false/\s6.isBx=false/\(∃k,Rc n k s)/\ws.length<=i/\t'<=t+1+(i:Int)
def takenS:DB:=fun t ds Q=> ∃n m:Nat,ds= [nI n,nI m]/\1<=n/\n<=12/\m<=40/\t < 900000/\ ∀(s:St) (k:Nat) (ws:List Str) (t':Int),Rc n k s->t'<=t+45->Q (.tup [s.dt, .lst (ws.map .str)]) t'
section
variable {P : Program} {w : World} {K : PySem.W.Frag} {mg : Str -> Option Value} {base : Heap}
theorem ok_taken{f:Addr}{fd:FuncData}(F:Fun K "_law_taken" "_law_taken" sLTaken f fd)(T:Txt mg)(NLTake:Has P w K mg base "_law_take" 1 ["_law_state","_law_many"] (spB takeS))(NLMay:Has P w K mg base "_law_may" 1 ["_law_stand"] (spA mayS))(NLBehind:Has P w K mg base "_law_behind" 1 ["_law_stand","_law_word"] (spA behindS)):FnOk P w K mg base CX0 2 f fd ["_law_state","_law_many","_law_most"] (spB takenS):=by
 refine fnB F scLTaken (fun t ds Qd h=>?_) (fun cdv A outer s H E hr=>⟨_,(s_cons (s_par2 3 4 rfl scLTaken.nd (h_im (d_tup (a_cons (d_tup a_nil) (a_cons d_int (a_cons (d_repT (d_tup (a_cons d_non a_nil)) (dv 1)) a_nil)))) (h_ow (o_lst a_nil) h_nil)))
 (s_cons (s_for rfl (i_rng1 T.rng (a_cons (d_fnB 0 NLTake (hr.mono (by decide)) (pv 0) (a_cons (d_add (dv 2) d_int) a_nil)) a_nil)) (g_name 5 scLTaken.nd)
 (s_cons (s_set 6 scLTaken.nd (d_fnA NLMay (hr.mono (by decide)) (a_cons (dv 3) a_nil)))
 (s_one (s_if (t_neNilL hr.units0 (dv 6))
 (s_cons (s_expr (d_append 4 (pv 4) (a_cons (d_ix (dv 6) (d_fnB 0 NLTake (hr.mono (by decide)) (pv 0) (a_cons (d_len T.len (a_cons (dv 6) a_nil)) a_nil))) a_nil)))
 (s_one (s_set 3 scLTaken.nd (d_fnA NLBehind (hr.mono (by decide)) (a_cons (dv 3) (a_cons (d_ixO 4 (pv 4) (d_neg d_int)) a_nil))))))
 s_nil))) PassesOwn.never)
 (s_one (s_frz 4 (s_ret (d_tup (a_cons (dv 3) (a_cons (dv 4) a_nil)))))))),fun t ds Qd h=>?_⟩)
 . obtain⟨n,m,rfl,_⟩:=h;rfl
 . obtain⟨n,m,rfl,n1,n12,m40,ht,q⟩:=h;refine⟨by show 0<=sizeLine;decide,by show 1<=sizeLine;decide,_,rfl,[.non],_,rfl,rfl,(by intro z;cases z),by lia,by lia,?_,by show 3<=sizeLine;decide,by show 0<=sizeLine;decide,_,_,rfl,⟨_,rfl,rfl⟩,⟨_,rfl,rfl⟩,?_⟩
   . show 1*((n:Int)).toNat<=sizeLine;exact Nat.le_trans (show 1*((n:Int)).toNat<=100 by lia) (by decide)
   rw[first_rep];dsimp only;refine⟨⟨_,rfl⟩,_,rfl,_,_,rfl,rfl,_,rfl,_,rfl,by lia,by lia,by lia,fun v v0 v1=>⟨_,rfl,by lia,by lia,?_⟩⟩;refine for_abs (TkI n m t) ⟨first n,[],t+1, .no, .no,rfl,rfl,rfl,⟨0, .zero⟩,Nat.le_refl _,by lia⟩ (fun i d δ hi hP Δ' hnx hrt=>?_) (fun δ hP=>?_)
   . obtain⟨s,ws,t',s5,s6,rfl,b5,b6,⟨k,rc⟩,wl,ht'⟩:=hP;have il:i < 41:=by
      have:=(List.getElem?_eq_some_iff.mp hi).1;rw[List.length_map,List.length_range] at this;lia
     have fi:Fine s:=rc.lv.k.g.fine n12 (by have:=rc.le n1;lia);refine⟨⟨_,rfl,b5⟩,_,rfl,s,rfl,fi,⟨_,rfl,b6⟩,_,rfl,_,rfl,_,rfl,?_⟩;by_cases c:mayL s= []
     . rw[c];exact iteF (hnx _ ⟨s,ws,t', .im d, .im (.lst []),rfl,rfl,rfl,⟨k,rc⟩,Nat.le_succ_of_le wl,by lia⟩)
     . have l0:0 < (mayL s).length:=List.length_pos_iff.mpr c;have l3:=may_len (s:=s);refine iteP (by show(!(mayL s).isEmpty)=true;cases e:mayL s with | nil=>exact absurd e c | cons a b=>rfl) ?_;refine⟨⟨_,rfl⟩,_,rfl,⟨_,rfl⟩,_,rfl,_, .inl rfl,_,rfl,_,rfl,by lia,by lia,by lia,fun v v0 v1=>?_⟩;obtain⟨v,rfl⟩: ∃z:Nat,v=(z:Int):=⟨v.toNat,by lia⟩
       have vl:v < (mayL s).length:=by lia
       obtain⟨wd,e,ok⟩:=may_get (List.getElem?_eq_getElem vl);refine⟨_,_,_, .inl rfl,rfl,atI_nat ((List.getElem?_eq_getElem vl).trans (congrArg some e)),_,_,rfl,rfl,?_,?_⟩
       . rw[List.length_map];exact Nat.lt_of_lt_of_le (show ws.length < 100 by lia) (by decide)
       refine⟨_,rfl,⟨_,rfl⟩,_,rfl,_,_,_,rfl,rfl,last_snocD,?_⟩;show behindS [s.dt, .str wd] fun d'=>okSet [.bx (t'+1), .im (nI n), .im (nI m), .im s.dt, .ow (ws.map .str++ [.str wd]), .im d, .im (.lst (mayL s))] 3/\Δ'.nx [.bx (t'+1), .im (nI n), .im (nI m), .im d', .ow (ws.map .str++ [.str wd]), .im d, .im (.lst (mayL s))];refine step_behind fi ok ⟨⟨_,rfl,rfl⟩,hnx _ ⟨stp s wd,ws++ [wd],t'+1, .im d, .im (.lst (mayL s)),?_,rfl,rfl,⟨_,rc.step ok⟩,by rw[List.length_append];show ws.length+1<=_;lia,by lia⟩⟩;rw[List.map_append];rfl
   . obtain⟨s,ws,t',s5,s6,rfl,b5,b6,⟨k,rc⟩,wl,ht'⟩:=hP;rw[List.length_map,List.length_range] at wl ht';exact⟨_,rfl,_,rfl,_,rfl,by show 2<=sizeLine;decide,_,rfl,q s k ws t' rc (by lia)⟩
end
end K34
end
section
namespace LSet
open PySem PySem.Spec PyProof.Rows
section
variable {prog : Program} {w : World} {A : Around} {E : Value -> Shared -> Prop} {s : Shared} {K : Type} [DecidableEq K] {κ : Kd prog w K}
theorem sorted_setL{P:List K->Prop}(hs:Srt κ P){a:Addr}{ts:List K}{Q:Value->Shared->Prop}(hA:A.handled=none)(S:SetHas κ a ts s.heap)(hT: ∀us:List K,us.Nodup->(∀k,k∈us->k∈ts)->us.length < 64)
  (h: ∀h' d tk p n out us,(∀c o,s.heap.get? c=some o->h'.get? c=some o)->s.heap.objs.size<=p->h'.get? p=some (seqObj "list" out n)->out.size=us.length->(∀(i:Nat) v k,out[i]?=some v->us[i]?=some k->κ.kv v=some k)->us.Nodup->(∀k,k∈us↔k∈ts)->P us->Q (.ref p) {s with heap:=h',drawn:=d,toks:=tk}):
  wpAny (model prog w) A (call (.builtin "sorted") [.ref a]) Q E s:=by
 obtain⟨es,⟨o,ep,t,ho,hx,hd,he,hb,hf,T⟩,Y⟩:=S;have hz:es.size < 64:=by
  rw[<-Y.len];exact hT _ Y.nd fun k hk=>(Y.mem k).mp hk
 refine Calls.call_function_entry kind_sorted plain_sorted entry_sorted (args_sorted1 _) ?_;unfold Builtin.«sorted»;refine wpAny_bind (m:=checkCount "sorted" 1 1 _) (wpAny_pure (wpAny_bind (collect_set (by simpa using hA) ⟨hd,hf,T⟩ ho hx.1 rfl (by rw[sizeLine_eq];lia) fun h' d tk acc ls kp pm=>?_)));have la:acc.length=es.size:=by rw[pm.length_eq];simp
 have pk:(acc.filterMap κ.kv).Perm (keys κ es.toList):=by
  have:=pm.filterMap κ.kv;rw[List.filterMap_map] at this;exact this
 have lk:(acc.filterMap κ.kv).length=acc.length:=by rw[pk.length_eq,Y.len,la]
 refine wpAny_bind (wpAny_newList ?_ (by rw[sizeLine_eq];lia));have g1:(h'.push (seqObj "list" acc.toArray 0)).get? h'.objs.size=some (seqObj "list" acc.toArray 0):=Heap.get?_push_size _ rfl;refine wpAny_bind (wpAny_holding (wpAny_call_entry slot_list_sort ⟨_,g1,rfl⟩ entry_list_sort (hs _ _ _ _ _ _ acc _ g1 lk.symm (all_keys rfl lk) (by lia) fun out us l1 l2 l3 l4=>⟨_,rfl,wpAny_pure ⟨_,rfl,?_⟩⟩) (args_list_sort _)));obtain⟨n,hn⟩:=sortedHeap_at (vs:=acc) (out:=out) g1;refine h _ d tk _ n out us (fun c oo e=>?_) (Nat.le_of_lt ls) hn l1 l2 ((l3.trans pk).nodup_iff.mpr Y.nd) (fun k=>((l3.trans pk).mem_iff).trans (Y.mem k)) l4;have e1:=kp c oo e;have lc:=Heap.lt_size e1;rw[sortedHeap_old (Nat.ne_of_lt lc) (Nat.lt_of_lt_of_eq (Nat.lt_succ_of_lt lc) (Heap.size_push _ _).symm)];exact Heap.get?_push_of_some _ e1
end
end LSet
namespace L2
open PySem PySem.Spec LB PyProof.Rows LSet
section
variable {X : Cx} {K : Type} [DecidableEq K]
def rSetM(κ:Kd X.prog X.w K)(v:K->V):List V->Hp->VK->Prop:=fun xs H Q=> ∃(l:Addr) (ks:List K),xs= [.ref l]/\H l=some (.lst (ks.map v))/\ks.length < 1000/\ ∀a,H a=none->Q (.ref a) (upd H a (.ext (SetHas κ a ks)))
theorem call_setLL{κ:Kd X.prog X.w K}{v:K->V}(kv:KdV κ v)(hA:X.A.handled=none):CallR X (.type "set") (rSetM κ v):=by
 intro pins s σ H xs us Q I r h;obtain⟨l,ks,rfl,hl,h64,q⟩:=h;obtain⟨u,rfl,ru⟩:=vals1 r;cases (show u=Value.ref l from ru);obtain⟨its,rv,pl,_⟩:=I.list (SqL.of hl);obtain⟨l1,l2⟩:=vals_keys kv rv;refine call_set (κ:=κ) (items:=its.toArray) (ks:=ks) hA pl.isList (by simpa using l1) (fun i u k a b=>l2 i u k (by simpa using a) b) (by rw[List.size_toArray,l1];unfold scanBound;lia) fun h' tk es S Y kp=>?_;have hf:H s.heap.objs.size=none:=I.hok.fresh (Nat.le_refl _);refine⟨.ref s.heap.objs.size,_,I.laid (t':=tk) (o:= .ext (SetHas κ s.heap.objs.size ks)) (fun b o e=>kp b o e) (Nat.le_refl _) ?_,rfl,q _ hf⟩;obtain⟨o,ep,t,ho,_⟩:=id S;exact⟨⟨es,S,Y⟩,⟨o,ho⟩,fun h1 h2 p k=>let ⟨es,S,Y⟩:=p;⟨es,S.keep k,Y⟩⟩
def rSrtSetL(κ:Kd X.prog X.w K)(v:K->V)(P:List K->Prop):List V->Hp->VK->Prop:=fun xs H Q=> ∃(a:Addr) (ks:List K),xs= [.ref a]/\H a=some (.ext (SetHas κ a ks))/\(∀us:List K,us.Nodup->(∀k,k∈us->k∈ks)->us.length < 64)/\ ∀(p:Addr) (us:List K),H p=none->us.Nodup->(∀k,k∈us↔k∈ks)->P us->Q (.ref p) (upd H p (.lst (us.map v)))
theorem call_srtSetL{κ:Kd X.prog X.w K}{v:K->V}{P:List K->Prop}(kv:KdV κ v)(hs:Srt κ P)(hA:X.A.handled=none):CallR X (.builtin "sorted") (rSrtSetL κ v P):=by
 intro pins s σ H xs us Q I r h;obtain⟨a,ks,rfl,ha,h64,q⟩:=h;obtain⟨u,rfl,ru⟩:=vals1 r;cases (show u=Value.ref a from ru);obtain⟨S,_,_⟩:=(show ObjOk X.prog X.w H s.heap a (.ext (SetHas κ a ks)) from I.hok a _ ha)
 refine sorted_setL hs hA S h64 fun h' d tk p n out us kp lp hp l1 l2 nd mm pu=>?_;have hf:H p=none:=I.hok.fresh lp;have le:us.length < 64:=h64 us nd fun k hk=>(mm k).mp hk;refine⟨.ref p,_,(Inv.drawnTo I d).laid (t':=tk) (o:= .lst (us.map v)) (fun b o e=>kp b o e) lp ?_,rfl,q p us hf nd mm pu⟩;refine⟨by rw[List.length_map,sizeLine_eq];lia,out.toList,n,keys_vals kv (by simpa using l1) (fun i u k a b=>l2 i u k (by rw[<-Array.getElem?_toList];exact a) b),?_⟩;rw[hp]
end
end L2
namespace LD
open PySem PySem.Spec L2 LB PyProof.Rows LSet
section
variable {X : Cx} {e : Expr} {tA : DTA} {pos p pos2 p2 : Pos}
inductive D_ssetIL(ds:List Dt)(Q:Dt->Prop):Prop
 | mk (ts:List Int) (h1:ds= [.lst (ts.map .int)]) (h2:ts.length < 1000) (h2': ∀us:List Int,us.Nodup->(∀k,k∈us->k∈ts)->us.length < 64) (h3: ∀us:List Int,us.Nodup->(∀k,k∈us↔k∈ts)->us.Pairwise (· <= ·)->Q (.lst (us.map .int)))
theorem d_ssetIL(hA:X.A.handled=none)(hm:X.mg "sorted"=none)(hm2:X.mg "set"=none)(ha:Av X [e] tA)(hg:autoParam (Gl X "sorted") au5._auto_1)(hg2:autoParam (Gl X "set") au5._auto_1)
  (he:autoParam (starEach [.Call (.Name "set" p2) [e] [] pos2] X.env=(false,eval (.Call (.Name "set" p2) [e] [] pos2) X.env)::starEach [] X.env) au5._auto_1) (hpl:autoParam ((backTo pos (starEach [] X.env)).any (·.1)=false) au5._auto_1) (he2:autoParam (starEach [e] X.env=(false,eval e X.env)::starEach [] X.env) au5._auto_1) (hpl2:autoParam ((backTo pos2 (starEach [] X.env)).any (·.1)=false) au5._auto_1):
  Ev X (.Call (.Name "sorted" p) [.Call (.Name "set" p2) [e] [] pos2] [] pos) (dCa D_ssetIL tA):=
 PE.imp (pe_callB (call_srtSetL kdv_int srt_ints hA) hg hm boot_sorted' (pa_cons (pe_callTy (call_setLL kdv_int hA) hg2 hm2 boot_set' ha (by decide) (by decide) he2 hpl2) pa_nil he) (by decide) (by decide) he hpl) fun σ H Q zz=>(by
  obtain⟨W,M,α,δ,Qd,E,q,k⟩:=zz;refine⟨W,M,α,δ,_,E,q,fun ds δ' H' vs zz E1 c1 r=>?_⟩;obtain⟨ts,rfl,l,l',q⟩:=zz;obtain⟨x,rfl,r1⟩:=one_arg r;obtain⟨a,zs,rfl,ha,n,rr⟩:=r1.ofLst;rw[ints_rep rr] at ha;refine⟨a,ts,rfl,ha,l,fun b hb=>⟨b,ts,rfl,upd_same,l',fun p us hp nd mm pu=>?_⟩⟩;have s1:Same H' (upd H' b (.ext (SetHas (intK X.prog X.w) b ts))):=Same.new hb;have s2:Same (upd H' b (.ext (SetHas (intK X.prog X.w) b ts))) (upd (upd H' b (.ext (SetHas (intK X.prog X.w) b ts))) p (.lst (us.map V.int))):=Same.new hp;exact k _ _ _ _ (q us nd mm pu) ((E1.same s1).same s2) ((c1.tr (Chg.of s1)).tr (Chg.of s2)) (Rep.toLst upd_same ((E1.same s1).fresh hp) rep_ints))
end
end LD
end
section
namespace K34
open PySem PySem.Spec L2 LB LD PyProof.Rows LNk LSrt
theorem seeK_nil{env:Env}: ∀x∈([]:List (Str × NameKind)),x.2= .free->env.kindOf x.1=some .cell\/env.kindOf x.1=some .free:=fun x hx=>absurd hx List.not_mem_nil
theorem seeK_skip{env:Env}{p:Str × NameKind}{l:List (Str × NameKind)}(h:p.2≠ .free)(r: ∀x∈l,x.2= .free->env.kindOf x.1=some .cell\/env.kindOf x.1=some .free): ∀x∈p::l,x.2= .free->env.kindOf x.1=some .cell\/env.kindOf x.1=some .free:=fun x hx e=>by
 rcases List.mem_cons.mp hx with z | z
 . subst z;exact absurd e h
 . exact r x z e
theorem seeK_take{env:Env}{p:Str × NameKind}{l:List (Str × NameKind)}(h:env.kindOf p.1=some .cell)(r: ∀x∈l,x.2= .free->env.kindOf x.1=some .cell\/env.kindOf x.1=some .free): ∀x∈p::l,x.2= .free->env.kindOf x.1=some .cell\/env.kindOf x.1=some .free:=fun x hx e=>by
 rcases List.mem_cons.mp hx with z | z
 . subst z;exact .inl h
 . exact r x z e
theorem eqX_l{k:Nat}{ds:List Dt}(h: ∀e∈ds,eqX k e e=true):eqX (k+1) (.lst ds) (.lst ds)=true:=by
 unfold eqX;rw[Bool.and_eq_true,List.all_eq_true];refine⟨fun j hj=>?_,beq_self_eq_true _⟩;have hj:=List.mem_range.mp hj;rw[Nat.min_self] at hj;rw[show ds.getD j .non=ds[j] by simp [List.getD,hj]];exact h _ (List.getElem_mem hj)
theorem eqX_t{k:Nat}{ds:List Dt}(h: ∀e∈ds,eqX k e e=true):eqX (k+1) (.tup ds) (.tup ds)=true:=by
 unfold eqX;rw[Bool.and_eq_true,List.all_eq_true];refine⟨fun j hj=>?_,beq_self_eq_true _⟩;have hj:=List.mem_range.mp hj;rw[Nat.min_self] at hj;rw[show ds.getD j .non=ds[j] by simp [List.getD,hj]];exact h _ (List.getElem_mem hj)
theorem eqX_i{k:Nat}{i:Int}:eqX k (.int i) (.int i)=true:=by
 rw[eqX_flat rfl rfl];exact beq_self_eq_true i
theorem shp_l{k:Nat}{ds:List Dt}(h: ∀e∈ds,Shp k e e):Shp (k+1) (.lst ds) (.lst ds):= .lst fun j d e h1 h2=>by rw[h1] at h2;cases h2;exact h d (List.mem_of_getElem? h1)
theorem shp_t{k:Nat}{ds:List Dt}(h: ∀e∈ds,Shp k e e):Shp (k+1) (.tup ds) (.tup ds):= .tup fun j d e h1 h2=>by rw[h1] at h2;cases h2;exact h d (List.mem_of_getElem? h1)
theorem cmp_tups{G:List (List Nat)}:Shp 2 (.lst (G.map tupN)) (.lst (G.map tupN))/\eqX 2 (.lst (G.map tupN)) (.lst (G.map tupN))=true:=by
 constructor
 . refine shp_l fun e he=>?_;obtain⟨h,_,rfl⟩:=List.mem_map.mp he;refine shp_t fun e he=>?_;obtain⟨x,_,rfl⟩:=List.mem_map.mp he;exact .flat rfl rfl
 . refine eqX_l fun e he=>?_;obtain⟨h,_,rfl⟩:=List.mem_map.mp he;refine eqX_t fun e he=>?_;obtain⟨x,_,rfl⟩:=List.mem_map.mp he;exact eqX_i
theorem cmp_lists{G:List (List Nat)}:Shp 2 (.lst (G.map lsN)) (.lst (G.map lsN))/\eqX 2 (.lst (G.map lsN)) (.lst (G.map lsN))=true:=by
 constructor
 . refine shp_l fun e he=>?_;obtain⟨h,_,rfl⟩:=List.mem_map.mp he;refine shp_l fun e he=>?_;obtain⟨x,_,rfl⟩:=List.mem_map.mp he;exact .flat rfl rfl
 . refine eqX_l fun e he=>?_;obtain⟨h,_,rfl⟩:=List.mem_map.mp he;refine eqX_l fun e he=>?_;obtain⟨x,_,rfl⟩:=List.mem_map.mp he;exact eqX_i
noncomputable def inF:Dt->Dt
 | .tup [x, .lst r]=> .bl (inD x r)
 | d=>d
theorem fits_zip: ∀(h:List Nat) (R:List (List Nat)),∃bs:List Bool,(zipD (h.map nI) (R.map lsN)).map inF=bs.map Dt.bl/\bs.all id=fits h R
 | [],R=>⟨[],rfl,by cases R <;> rfl⟩
 | x::h,[]=>⟨[],rfl,rfl⟩
 | x::h,r::R=>by
  obtain⟨bs,e1,e2⟩:=fits_zip h R;refine⟨decide (x∈r)::bs,?_,?_⟩
  . show inF (.tup [nI x,lsN r])::(zipD (h.map nI) (R.map lsN)).map inF=Dt.bl (decide (x∈r))::bs.map Dt.bl;rw[e1];congr 1
    show Dt.bl (inD (nI x) (r.map nI))=_;rw[inN]
  . show(decide (x∈r) && bs.all id)=(decide (x∈r) && fits h R)
    rw[e2]
theorem zip_of{h:List Nat}{R:List (List Nat)}{d:Dt}(hd:d∈zipD (h.map nI) (R.map lsN)): ∃x r,d= .tup [nI x,lsN r]:=by
 obtain⟨i,hi,rfl⟩:=List.getElem_of_mem hd;unfold zipD at hi ⊢;rw[List.getElem_zipWith,List.getElem_map,List.getElem_map];exact⟨_,_,rfl⟩
theorem few6{us:List Int}{n:Nat}{L:List (List Nat)}{i:Nat}(n5:n<=5)(hL: ∀h∈L,∀x∈h,x<=n)(nd:us.Nodup)(hu: ∀k,k∈us->k∈L.map fun h=>((h.getD i 0:Nat):Int)):us.length < 64:=by
 refine Nat.lt_of_le_of_lt (nd_le (U:=(List.range 6).map Int.ofNat) nd fun k hk=>?_) (by rw[List.length_map,List.length_range];decide);obtain⟨h,hh,rfl⟩:=List.mem_map.mp (hu k hk);refine List.mem_map.mpr ⟨h.getD i 0,List.mem_range.mpr ?_,rfl⟩;rw[List.getD];cases e:h[i]? with
 | none=>show 0 < 6;decide
 | some x=>
  have:=hL h hh x (List.mem_of_getElem? e);show x < 6;lia
theorem rows_list{s:St}{n:Nat}(l:s.ons.length=n):(List.range n).map (fun i=>lsN ((rows s).getD i []))=(rows s).map lsN:=by
 refine List.ext_getElem? fun i=>?_;have rl:(rows s).length=n:=by unfold rows;rw[List.length_map,List.length_range',l]
 rw[List.getElem?_map,List.getElem?_map];by_cases c:i < n
 . rw[List.getElem?_range c,List.getElem?_eq_getElem (show i < (rows s).length by lia)];show some (lsN ((rows s).getD i []))=some _;rw[List.getD,List.getElem?_eq_getElem (show i < (rows s).length by lia)];rfl
 . rw[List.getElem?_eq_none (by rw[List.length_range];lia),List.getElem?_eq_none (by lia)];rfl
theorem el1:(everyL 1).length < 1000/\(everyL 2).length < 1000/\(everyL 3).length < 1000/\(everyL 4).length < 1000/\(everyL 5).length < 1000:=by decide+kernel
theorem clen{n:Nat}{s:St}(n1:1<=n)(n5:n<=5):(come n s).length < 1000:=by
 refine Nat.lt_of_le_of_lt (List.length_filter_le _ _) ?_;match n,n1,n5 with
 | 1,_,_=>exact el1.1
 | 2,_,_=>exact el1.2.1
 | 3,_,_=>exact el1.2.2.1
 | 4,_,_=>exact el1.2.2.2.1
 | 5,_,_=>exact el1.2.2.2.2
section
variable {P : Program} {w : World} {K : PySem.W.Frag} {mg : Str -> Option Value} {base : Heap}
theorem ok_law{f:Addr}{fd:FuncData}(F:Fun K "law" "law" sLaw f fd)(T:Txt mg)(NB:Has P w K mg base "_law_begin" 1 ["_law_script"] (spBegin K))(NLTake:Has P w K mg base "_law_take" 1 ["_law_state","_law_many"] (spB takeS))(NLTaken:Has P w K mg base "_law_taken" 2 ["_law_state","_law_many","_law_most"] (spB takenS))(NLRight:Has P w K mg base "_law_right" 4 ["_law_stand"] (spA rightS))(NLAll:Has P w K mg base "_law_all" 2 ["_law_many"] (spA allS))(NLIsPlain:Has P w K mg base "_law_is_plain" 1 ["_law_h"] (spA isPlainS))(NLEnds:Has P w K mg base "_law_ends" 2 ["_law_stand"] (spA endsS))(NLSentences:Has P w K mg base "_law_sentences" 1 ["_law_stand"] (spA rowsS)):
  FnOk P w K mg base CX0 5 f fd ["_law_script"] (spLaw K):=by
 refine lawOk F scLaw (by decide) (fun cdv A outer s H E hr=>⟨_,_,_,rfl,ps_set (i:=1) scLaw.nd rfl (by first | exact Or.inl rfl | exact Or.inr rfl) (pe_has NB (hr.mono (by decide)) rfl (pa_cons (pv 0) pa_nil)),(@s_cons _ _ _ _ _ (s_for rfl (i_rng1 T.rng (@a_cons _ _ _ _ _ d_int a_nil rfl)) (g_name 2 scLaw.nd) (s_one (s_if (t_not (d_val (d_fnA NLRight (hr.mono (by decide)) (@a_cons _ _ _ _ _ (d_ix (d_fnB 1 NLTaken (hr.mono (by decide)) (pv 1) (@a_cons _ _ _ _ _ (d_add d_int (d_fnB 1 NLTake (hr.mono (by decide)) (pv 1) (@a_cons _ _ _ _ _ d_int a_nil rfl))) (@a_cons _ _ _ _ _ d_int a_nil rfl) rfl)) d_int) a_nil rfl)))) (s_one (s_ret d_bl)) s_nil)) PassesOwn.never)
 (@s_cons _ _ _ _ _ (@s_set _ _ _ _ 3 _ _ scLaw.nd (d_add d_int (d_fnB 1 NLTake (hr.mono (by decide)) (pv 1) (@a_cons _ _ _ _ _ d_int a_nil rfl))) rfl (by first | exact Or.inl rfl | exact Or.inr rfl) rfl (by first | exact .inl rfl | exact .inr rfl | assumption))
 (@s_cons _ _ _ _ _ (s_comp 4 scLaw.nd (N:= ["_law_h"]) (nt:=1) (js:= []) ⟨rfl,by decide+kernel,by decide,rfl,by decide+kernel,(by show∀x∈(_:List (Str × NameKind)),x.2=NameKind.free->(defScope sLaw).names.lookup x.1=some .cell\/(defScope sLaw).names.lookup x.1=some .free;decide+kernel)⟩ rfl (i_list (d_fnA NLAll (hr.mono (by decide)) (@a_cons _ _ _ _ _ (dv 3) a_nil rfl))) (fun _ _ _ _ _=>pg_name (i:=0) (show(["_law_h"]:List Str).Nodup by decide+kernel) rfl (by first | exact Or.inl rfl | exact Or.inr rfl)) glow_name gname_read (fun _ _ _ _ _=>f_one (d_val (d_fnA NLIsPlain (hr.mono (by decide)) (@a_cons _ _ _ _ _ (dv 0) a_nil rfl)))) (fun _ _ _ _ _=>(dv 0)))
 (@s_cons _ _ _ _ _ (s_frz 4 (s_for rfl (i_rng1 T.rng (@a_cons _ _ _ _ _ d_int a_nil rfl)) (g_name 2 scLaw.nd) (@s_cons _ _ _ _ _ (@s_set _ _ _ _ 5 _ _ scLaw.nd (d_ix (d_fnB 1 NLTaken (hr.mono (by decide)) (pv 1) (@a_cons _ _ _ _ _ (dv 3) (@a_cons _ _ _ _ _ d_int a_nil rfl) rfl)) d_int) rfl (by first | exact Or.inl rfl | exact Or.inr rfl) rfl (by first | exact .inl rfl | exact .inr rfl | assumption))
 (@s_cons _ _ _ _ _ (s_if (t_not (d_val (d_fnA NLRight (hr.mono (by decide)) (@a_cons _ _ _ _ _ (dv 5) a_nil rfl)))) (s_one (s_ret d_bl)) s_nil)
 (@s_cons _ _ _ _ _ (s_par2c 6 7 rfl scLaw.nd (h_im (d_fnA NLEnds (hr.mono (by decide)) (@a_cons _ _ _ _ _ (dv 5) a_nil rfl)) (h_im (d_fnA NLSentences (hr.mono (by decide)) (@a_cons _ _ _ _ _ (dv 5) a_nil rfl)) h_nil)))
 (@s_cons _ _ _ _ _ (s_if (t_neX 1 (hu2 hr) (dv 6) (Ov.ev (o_comp (N:= ["_law_h","_law_some"]) (nt:=1) (js:= [7]) ⟨rfl,by decide+kernel,by decide,rfl,by decide+kernel,(by show∀x∈(_:List (Str × NameKind)),x.2=NameKind.free->(defScope sLaw).names.lookup x.1=some .cell\/(defScope sLaw).names.lookup x.1=some .free;decide+kernel)⟩ rfl (i_list (dv 4)) (fun _ _ _ _ _=>pg_name (i:=0) (show(["_law_h","_law_some"]:List Str).Nodup by decide+kernel) rfl (by first | exact Or.inl rfl | exact Or.inr rfl)) glow_name gname_read (fun _ _ _ _ _=>f_one (d_val (d_all rfl T.all (@a_cons _ _ _ _ _ (Ov.ev (o_comp (N:= ["_law_on","_law_row"]) (nt:=2) (js:= []) ⟨rfl,by decide+kernel,by decide,rfl,by decide+kernel,(by repeat (first | exact seeK_nil | refine seeK_take rfl ?_ | refine seeK_skip (fun z=>nomatch z) ?_))⟩ rfl (i_zip (@a_cons _ _ _ _ _ (dv 0) (@a_cons _ _ _ _ _ (dv 1) a_nil rfl) rfl) fun z=>pi_zip (by rfl) T.zip z) (fun _ _ _ _ _=>pg_tup rfl (pgs_cons (pg_name (i:=0) (show(["_law_on","_law_row"]:List Str).Nodup by decide+kernel) rfl (by first | exact Or.inl rfl | exact Or.inr rfl)) (pgs_cons (pg_name (i:=1) (show(["_law_on","_law_row"]:List Str).Nodup by decide+kernel) rfl (by first | exact Or.inl rfl | exact Or.inr rfl)) pgs_nil))) glow_pair gpair_read (fun _ _ _ _ _=>f_nil) (fun _ _ _ _ _=>(d_in (dv 0) (dv 1))))) a_nil rfl)))) (fun _ _ _ _ _=>(dv 0))))) (s_one (s_ret d_bl)) s_nil)
 (s_one (s_if (t_neX 1 (hu2 hr) (Ov.ev (o_comp (N:= ["_law_place","_law_ends_here"]) (nt:=1) (js:= [6]) ⟨rfl,by decide+kernel,by decide,rfl,by decide+kernel,(by show∀x∈(_:List (Str × NameKind)),x.2=NameKind.free->(defScope sLaw).names.lookup x.1=some .cell\/(defScope sLaw).names.lookup x.1=some .free;decide+kernel)⟩ rfl (i_rng1 T.rng (@a_cons _ _ _ _ _ (dv 3) a_nil rfl)) (fun _ _ _ _ _=>pg_name (i:=0) (show(["_law_place","_law_ends_here"]:List Str).Nodup by decide+kernel) rfl (by first | exact Or.inl rfl | exact Or.inr rfl)) glow_name gname_read (fun _ _ _ _ _=>f_nil) (fun _ _ _ _ _=>(d_ssetIL hr.hd T.srt T.set (@a_cons _ _ _ _ _ (Ov.ev (o_comp (N:= ["_law_h","_law_place"]) (nt:=1) (js:= [0]) ⟨rfl,by decide+kernel,by decide,rfl,by decide+kernel,(by repeat (first | exact seeK_nil | refine seeK_take rfl ?_ | refine seeK_skip (fun z=>nomatch z) ?_))⟩ rfl (i_list (dv 1)) (fun _ _ _ _ _=>pg_name (i:=0) (show(["_law_h","_law_place"]:List Str).Nodup by decide+kernel) rfl (by first | exact Or.inl rfl | exact Or.inr rfl)) glow_name gname_read (fun _ _ _ _ _=>f_nil) (fun _ _ _ _ _=>(d_ix (dv 0) (dv 1))))) a_nil rfl))))) (dv 7)) (s_one (s_ret d_bl)) s_nil)))))) PassesOwn.never))
 (s_one (s_ret d_bl)))))),?_⟩)
 refine⟨_,rfl,by decide,by decide,for_abs (fun i δ=> ∃(tt:Int) (s2:Sl),δ= [.no, .bx tt,s2, .no, .no, .no, .no, .no]/\tt<=100*(i:Int)/\s2.isBx=false) ⟨0, .no,rfl,by decide,rfl⟩ (fun i d δ hi hP Δ' hnx hrt=>?_) (fun δ hP=>?_)⟩
 . obtain⟨tt,s2,rfl,ht,b2⟩:=hP;have il:i < 3:=by have:=(List.getElem?_eq_some_iff.mp hi).1;simpa using this
   refine⟨⟨_,rfl,b2⟩,?_⟩;refine⟨⟨_,rfl⟩,⟨_,rfl⟩,_,rfl,_,rfl,by lia,by decide,by decide,fun v v0 v1=>⟨_,_,rfl,rfl,?_⟩⟩;obtain⟨n,en,n1,n12⟩: ∃n:Nat,6+v=(n:Int)/\1<=n/\n<=12:=⟨(6+v).toNat,by lia,by lia,by lia⟩
   rw[en];refine⟨_,rfl,n,24,rfl,n1,n12,by decide,by lia,fun s k ws t' rc ht'=>?_⟩;refine⟨_,_,_, .inr rfl,rfl,atI_nat (j:=0) rfl,n,k,s,rfl,rc,n12,_,rfl,iteF (hnx _ ⟨t', .im d,rfl,by lia,rfl⟩)⟩
 obtain⟨tt,s2,rfl,ht,b2⟩:=hP;have ht:tt<=300:=by simpa using ht
 refine⟨⟨_,rfl⟩,_,rfl,_,rfl,by lia,by decide,by decide,fun v v0 v1=>⟨_,_,rfl,rfl,⟨_,rfl,rfl⟩,?_⟩⟩;obtain⟨n,en,n1,n5⟩: ∃n:Nat,1+v=(n:Int)/\1<=n/\n<=5:=⟨(1+v).toNat,by lia,by lia,by lia⟩
 rw[en];have pl:=Nat.le_trans (prd_len (n:=n) n) (few n5 n5);have al:(allL n).length<=(prd n n).length:=List.length_filter_le _ _;have evl:(everyL n).length<=(allL n).length:=List.length_filter_le _ _;have s7:7776<=sizeLine:=by decide
 refine⟨_,rfl,n,rfl,n5,_,rfl,by rw[List.length_map];lia,fun d=>plB (unT d),id,fun d hd=>?_,?_⟩
 . obtain⟨h,hh,rfl⟩:=List.mem_map.mp hd;have hl:=(prd_in n h (List.mem_filter.mp hh).1).1;refine⟨⟨_,rfl,rfl⟩,_,rfl,h,rfl,by lia,_,rfl,?_,fun _=>⟨_,rfl,rfl⟩⟩;show plB h=plB (unT (tupN h));rw[unT_tup]
 have ee:((((allL n).map tupN).filter fun d=>plB (unT d)).map id)=(everyL n).map tupN:=by
  rw[List.map_id,List.filter_map];congr 1
  refine List.filter_congr fun h _=>?_;show plB (unT (tupN h))=plB h;rw[unT_tup]
 rw[ee];refine⟨⟨_,rfl,rfl⟩,_,rfl,?_⟩;refine⟨_,rfl,by decide,by decide,for_abs (fun i δ=> ∃(tt:Int) (s2 s5 s6 s7:Sl),δ= [.no, .bx tt,s2, .im (nI n), .im (.lst ((everyL n).map tupN)),s5,s6,s7]/\tt<=400+100*(i:Int)/\s2.isBx=false/\s5.isBx=false/\s6.isBx=false/\s7.isBx=false) ⟨_,s2, .no, .no, .no,rfl,by lia,b2,rfl,rfl,rfl⟩ (fun i d δ hi hP Δ' hnx hrt=>?_) (fun δ hP=>?_)⟩
 . obtain⟨tt,s2,s5,s6,s7,rfl,ht,b2,b5,b6,b7⟩:=hP;have il:i < 4:=by have:=(List.getElem?_eq_some_iff.mp hi).1;simpa using this
   refine⟨⟨_,rfl,b2⟩,?_⟩;refine⟨⟨_,rfl⟩,_,rfl,_,rfl,n,9,rfl,n1,by lia,by decide,by lia,fun s k ws t' rc ht'=>⟨_,_,_, .inr rfl,rfl,atI_nat (j:=0) rfl,⟨_,rfl,b5⟩,?_⟩⟩;refine⟨_,rfl,n,k,s,rfl,rc,by lia,_,rfl,iteF ?_⟩;refine⟨_,rfl,n,k,s,rfl,rc,n1,n5,_,rfl,n,k,s,rfl,rc,by lia,_,_,rfl,⟨_,rfl,b6⟩,⟨_,rfl,b7⟩,?_⟩;have gl:=rc.lv.k.g.l;refine⟨_,rfl,_,rfl,_,rfl,by rw[List.length_map];lia,fun d=>fits (unT d) (rows s),id,fun d hd=>?_,?_⟩
   . obtain⟨h,hh,rfl⟩:=List.mem_map.mp hd;have hl:=(prd_in n h (List.mem_filter.mp (List.mem_filter.mp hh).1).1).1;refine⟨⟨_,rfl,rfl⟩,?_⟩;obtain⟨bs,e1,e2⟩:=fits_zip h (rows s);refine⟨_,rfl,_,rfl,true,false,_,_,rfl,?_,fun _=>true,inF,fun d hd=>?_,?_⟩
     . unfold zipD;rw[List.length_zipWith,List.length_map,List.length_map];lia
     . obtain⟨x,r,rfl⟩:=zip_of hd;exact⟨_,_,rfl,⟨_,rfl,rfl⟩,⟨_,rfl,rfl⟩,rfl,fun _=>⟨_,rfl,_,rfl,_, .inl rfl,rfl,flN _,rfl⟩⟩
     . rw[List.filter_eq_self.mpr fun _ _=>rfl,e1];refine⟨bs,rfl,_,rfl,?_,fun _=>⟨_,rfl,rfl⟩⟩;rw[e2];show fits h (rows s)=fits (unT (tupN h)) (rows s);rw[unT_tup]
   . have ce : ((((everyL n).map tupN).filter fun d => fits (unT d) (rows s)).map id) = (come n s).map tupN := by
       rw[List.map_id,List.filter_map];congr 1
       refine List.filter_congr fun h _=>?_;show fits (unT (tupN h)) (rows s)=fits h (rows s);rw[unT_tup]
     rw[ce];refine⟨rfl,cmp_tups.1,?_⟩;rw[cmp_tups.2];refine⟨_,rfl,iteF ?_⟩;refine⟨_,rfl,_,rfl,by lia,by lia,?_⟩;rw[Int.toNat_natCast,rng0N];refine⟨by rw[List.length_map,List.length_range];lia,fun _=>true,fun d=>match d with | .int i=>lsN ((rows s).getD i.toNat []) | d=>d,fun d hd=>?_,?_⟩
     . obtain⟨j,hj,rfl⟩:=List.mem_map.mp hd;have jl:=List.mem_range.mp hj;have cin: ∀h∈come n s,h.length=n/\ ∀x∈h,x<=n:=fun h hh=>come_in hh;have cl:(come n s).length<=7776:=Nat.le_trans (List.length_filter_le _ _) (by lia);refine⟨⟨_,rfl,rfl⟩,rfl,fun _=>?_⟩;refine⟨_,rfl,_,rfl,by rw[List.length_map];lia,fun _=>true,fun d=>nI ((unT d).getD j 0),fun d hd=>?_,?_⟩
       . obtain⟨h,hh,rfl⟩:=List.mem_map.mp hd;have hl:=(cin h hh).1;refine⟨⟨_,rfl,rfl⟩,rfl,fun _=>⟨_,rfl,_,rfl,_,_,_, .inr rfl,rfl,atI_nat (xs:=h.map nI) (j:=j) (v:=nI (h.getD j 0)) ?_,?_⟩⟩
         . rw[List.getElem?_map,List.getD,List.getElem?_eq_getElem (show j < h.length by lia)];rfl
         . show nI (h.getD j 0)=nI ((unT (tupN h)).getD j 0);rw[unT_tup]
       . rw[List.filter_eq_self.mpr fun _ _=>rfl,List.map_map];have te:(come n s).map ((fun d=>nI ((unT d).getD j 0)) ∘ tupN)=((come n s).map fun h=>((h.getD j 0:Nat):Int)).map .int:=by
          rw[List.map_map];refine List.map_congr_left fun h _=>?_;show nI ((unT (tupN h)).getD j 0)=_;rw[unT_tup];rfl
         rw[te];refine⟨_,rfl,?_,fun us nd hu=>few6 n5 (fun h hh=>(cin h hh).2) nd hu,fun us nd mm pw=>?_⟩
         . rw[List.length_map];exact clen n1 n5
         . have:=row_eq n1 n5 rc jl nd mm pw;rw[this];show Dt.lst (((rows s).getD j []).map Int.ofNat |>.map .int)=lsN ((rows s).getD ((j:Int)).toNat []);rw[Int.toNat_natCast,List.map_map];rfl
     . rw[List.filter_eq_self.mpr fun _ _=>rfl,List.map_map];have re:(List.range n).map ((fun d=>match d with | .int i=>lsN ((rows s).getD i.toNat []) | d=>d) ∘ nI)=(rows s).map lsN:=by
        rw[<-rows_list gl];refine List.map_congr_left fun j _=>?_;show lsN ((rows s).getD ((j:Int)).toNat [])=_;rw[Int.toNat_natCast]
       rw[re];refine⟨_,rfl,rfl,cmp_lists.1,?_⟩;rw[cmp_lists.2];exact⟨_,rfl,iteF (hnx _ ⟨t', .im d, .im s.dt, .im (.lst ((come n s).map tupN)), .im (.lst ((rows s).map lsN)),rfl,by lia,rfl,rfl,rfl,rfl⟩)⟩
 . obtain⟨tt,s2,s5,s6,s7,rfl,_⟩:=hP;rfl
end
end K34
end
section
namespace K34
open PySem L2 LB LD PyProof.Rows
theorem binds1{K:PySem.W.Frag}{x qual:Str}{st:Stmt}{f:Addr}{fd:FuncData}{p1:Str}(F:Fun K x qual st f fd)(h: ∀(kV doc pm:Value) (an:Option Addr) (cdv ct a1:Value),bindArgs (PySem.W.fnOf x qual (defArgs st) (defBody st) (defScope st) .none kV doc pm an cdv ct) ⟨[a1],[]⟩=pure [(p1,a1)]):Binds K fd [p1] []:=F.binds fun kV doc pm an cdv ct us hl=>by
 rcases us with _ | ⟨a1,us⟩
 . cases hl
 rcases us with _ | ⟨b,us⟩
 . exact h kV doc pm an cdv ct a1
 . simp at hl
theorem binds2{K:PySem.W.Frag}{x qual:Str}{st:Stmt}{f:Addr}{fd:FuncData}{p1 p2:Str}(F:Fun K x qual st f fd)(h: ∀(kV doc pm:Value) (an:Option Addr) (cdv ct a1 a2:Value),bindArgs (PySem.W.fnOf x qual (defArgs st) (defBody st) (defScope st) .none kV doc pm an cdv ct) ⟨[a1,a2],[]⟩=pure [(p1,a1),(p2,a2)]):Binds K fd [p1,p2] []:=F.binds fun kV doc pm an cdv ct us hl=>by
 rcases us with _ | ⟨a1,us⟩
 . cases hl
 rcases us with _ | ⟨a2,us⟩
 . cases hl
 rcases us with _ | ⟨b,us⟩
 . exact h kV doc pm an cdv ct a1 a2
 . simp at hl
theorem binds3{K:PySem.W.Frag}{x qual:Str}{st:Stmt}{f:Addr}{fd:FuncData}{p1 p2 p3:Str}(F:Fun K x qual st f fd)(h: ∀(kV doc pm:Value) (an:Option Addr) (cdv ct a1 a2 a3:Value),bindArgs (PySem.W.fnOf x qual (defArgs st) (defBody st) (defScope st) .none kV doc pm an cdv ct) ⟨[a1,a2,a3],[]⟩=pure [(p1,a1),(p2,a2),(p3,a3)]):Binds K fd [p1,p2,p3] []:=F.binds fun kV doc pm an cdv ct us hl=>by
 rcases us with _ | ⟨a1,us⟩
 . cases hl
 rcases us with _ | ⟨a2,us⟩
 . cases hl
 rcases us with _ | ⟨a3,us⟩
 . cases hl
 rcases us with _ | ⟨b,us⟩
 . exact h kV doc pm an cdv ct a1 a2 a3
 . simp at hl
theorem all_mk{l:PySem.W.OpenLaw}{w:World}{K:PySem.W.Frag}{h:Heap}{mg:Str->Option Value}{fa f1 f2 f3 f4 f5 f6 f7 f8 f9 f10 f11 f12 f13 f14 f15 f16:Addr}(X:K.In h)(G:h.Ns mainGlobals mg)(hfa:mg "law"=some (.ref fa))
  {od1 an1 od2 an2 od3 an3 od4 an4 od5 an5 od6 an6 od7 an7 od8 an8 od9 an9 od10 an10 od11 an11 od12 an12 od13 an13 od14 an14 od15 an15 od16 an16:Option Addr} {sl1 sl2 sl3 sl4 sl5 sl6 sl7 sl8 sl9 sl10 sl11 sl12 sl13 sl14 sl15 sl16:Array (Option Value)} {oc1 kV1 dc1 pm1 cd1 ct1 oc2 kV2 dc2 pm2 cd2 ct2 oc3 kV3 dc3 pm3 cd3 ct3 oc4 kV4 dc4 pm4 cd4 ct4 oc5 kV5 dc5 pm5 cd5 ct5 oc6 kV6 dc6 pm6 cd6 ct6 oc7 kV7 dc7 pm7 cd7 ct7 oc8 kV8 dc8 pm8 cd8 ct8 oc9 kV9 dc9 pm9 cd9 ct9 oc10 kV10 dc10 pm10 cd10 ct10 oc11 kV11 dc11 pm11 cd11 ct11 oc12 kV12 dc12 pm12 cd12 ct12 oc13 kV13 dc13 pm13 cd13 ct13 oc14 kV14 dc14 pm14 cd14 ct14 oc15 kV15 dc15 pm15 cd15 ct15 oc16 kV16 dc16 pm16 cd16 ct16:Value}
  (a1:PySem.W.nsIn K mainGlobals "allowed"=some (some (.ref f1))) (l1:K.lookup f1=some ⟨oc1,od1, .func (PySem.W.fnOf "allowed" "allowed" (defArgs sAllowed) (defBody sAllowed) (defScope sAllowed) .none kV1 dc1 pm1 an1 cd1 ct1),sl1⟩) (c1:PySem.W.codeIn K cd1 "allowed"=true) (k1:PySem.W.keepIn K (.ref f1)=true)
  (a2:PySem.W.nsIn K mainGlobals "allowed_of"=some (some (.ref f2))) (l2:K.lookup f2=some ⟨oc2,od2, .func (PySem.W.fnOf "allowed_of" "allowed_of" (defArgs sAllowedOf) (defBody sAllowedOf) (defScope sAllowedOf) .none kV2 dc2 pm2 an2 cd2 ct2),sl2⟩) (c2:PySem.W.codeIn K cd2 "allowed_of"=true) (k2:PySem.W.keepIn K (.ref f2)=true)
  (a3:PySem.W.nsIn K mainGlobals "_law_begin"=some (some (.ref f3))) (l3:K.lookup f3=some ⟨oc3,od3, .func (PySem.W.fnOf "_law_begin" "_law_begin" (defArgs sLBegin) (defBody sLBegin) (defScope sLBegin) .none kV3 dc3 pm3 an3 cd3 ct3),sl3⟩) (c3:PySem.W.codeIn K cd3 "_law_begin"=true) (k3:PySem.W.keepIn K (.ref f3)=true)
  (a4:PySem.W.nsIn K mainGlobals "_law_take"=some (some (.ref f4))) (l4:K.lookup f4=some ⟨oc4,od4, .func (PySem.W.fnOf "_law_take" "_law_take" (defArgs sLTake) (defBody sLTake) (defScope sLTake) .none kV4 dc4 pm4 an4 cd4 ct4),sl4⟩) (c4:PySem.W.codeIn K cd4 "_law_take"=true) (k4:PySem.W.keepIn K (.ref f4)=true)
  (a5:PySem.W.nsIn K mainGlobals "_law_same"=some (some (.ref f5))) (l5:K.lookup f5=some ⟨oc5,od5, .func (PySem.W.fnOf "_law_same" "_law_same" (defArgs sLSame) (defBody sLSame) (defScope sLSame) .none kV5 dc5 pm5 an5 cd5 ct5),sl5⟩) (c5:PySem.W.codeIn K cd5 "_law_same"=true) (k5:PySem.W.keepIn K (.ref f5)=true)
  (a6:PySem.W.nsIn K mainGlobals "_law_may"=some (some (.ref f6))) (l6:K.lookup f6=some ⟨oc6,od6, .func (PySem.W.fnOf "_law_may" "_law_may" (defArgs sLMay) (defBody sLMay) (defScope sLMay) .none kV6 dc6 pm6 an6 cd6 ct6),sl6⟩) (c6:PySem.W.codeIn K cd6 "_law_may"=true) (k6:PySem.W.keepIn K (.ref f6)=true)
  (a7:PySem.W.nsIn K mainGlobals "_law_behind"=some (some (.ref f7))) (l7:K.lookup f7=some ⟨oc7,od7, .func (PySem.W.fnOf "_law_behind" "_law_behind" (defArgs sLBehind) (defBody sLBehind) (defScope sLBehind) .none kV7 dc7 pm7 an7 cd7 ct7),sl7⟩) (c7:PySem.W.codeIn K cd7 "_law_behind"=true) (k7:PySem.W.keepIn K (.ref f7)=true)
  (a8:PySem.W.nsIn K mainGlobals "_law_end"=some (some (.ref f8))) (l8:K.lookup f8=some ⟨oc8,od8, .func (PySem.W.fnOf "_law_end" "_law_end" (defArgs sLEnd) (defBody sLEnd) (defScope sLEnd) .none kV8 dc8 pm8 an8 cd8 ct8),sl8⟩) (c8:PySem.W.codeIn K cd8 "_law_end"=true) (k8:PySem.W.keepIn K (.ref f8)=true)
  (a9:PySem.W.nsIn K mainGlobals "_law_ends"=some (some (.ref f9))) (l9:K.lookup f9=some ⟨oc9,od9, .func (PySem.W.fnOf "_law_ends" "_law_ends" (defArgs sLEnds) (defBody sLEnds) (defScope sLEnds) .none kV9 dc9 pm9 an9 cd9 ct9),sl9⟩) (c9:PySem.W.codeIn K cd9 "_law_ends"=true) (k9:PySem.W.keepIn K (.ref f9)=true)
  (a10:PySem.W.nsIn K mainGlobals "_law_taken"=some (some (.ref f10))) (l10:K.lookup f10=some ⟨oc10,od10, .func (PySem.W.fnOf "_law_taken" "_law_taken" (defArgs sLTaken) (defBody sLTaken) (defScope sLTaken) .none kV10 dc10 pm10 an10 cd10 ct10),sl10⟩) (c10:PySem.W.codeIn K cd10 "_law_taken"=true) (k10:PySem.W.keepIn K (.ref f10)=true)
  (a11:PySem.W.nsIn K mainGlobals "_law_is_hanging"=some (some (.ref f11))) (l11:K.lookup f11=some ⟨oc11,od11, .func (PySem.W.fnOf "_law_is_hanging" "_law_is_hanging" (defArgs sLIsHanging) (defBody sLIsHanging) (defScope sLIsHanging) .none kV11 dc11 pm11 an11 cd11 ct11),sl11⟩) (c11:PySem.W.codeIn K cd11 "_law_is_hanging"=true) (k11:PySem.W.keepIn K (.ref f11)=true)
  (a12:PySem.W.nsIn K mainGlobals "_law_is_plain"=some (some (.ref f12))) (l12:K.lookup f12=some ⟨oc12,od12, .func (PySem.W.fnOf "_law_is_plain" "_law_is_plain" (defArgs sLIsPlain) (defBody sLIsPlain) (defScope sLIsPlain) .none kV12 dc12 pm12 an12 cd12 ct12),sl12⟩) (c12:PySem.W.codeIn K cd12 "_law_is_plain"=true) (k12:PySem.W.keepIn K (.ref f12)=true)
  (a13:PySem.W.nsIn K mainGlobals "_law_all"=some (some (.ref f13))) (l13:K.lookup f13=some ⟨oc13,od13, .func (PySem.W.fnOf "_law_all" "_law_all" (defArgs sLAll) (defBody sLAll) (defScope sLAll) .none kV13 dc13 pm13 an13 cd13 ct13),sl13⟩) (c13:PySem.W.codeIn K cd13 "_law_all"=true) (k13:PySem.W.keepIn K (.ref f13)=true)
  (a14:PySem.W.nsIn K mainGlobals "_law_sentences"=some (some (.ref f14))) (l14:K.lookup f14=some ⟨oc14,od14, .func (PySem.W.fnOf "_law_sentences" "_law_sentences" (defArgs sLSentences) (defBody sLSentences) (defScope sLSentences) .none kV14 dc14 pm14 an14 cd14 ct14),sl14⟩) (c14:PySem.W.codeIn K cd14 "_law_sentences"=true) (k14:PySem.W.keepIn K (.ref f14)=true)
  (a15:PySem.W.nsIn K mainGlobals "_law_right"=some (some (.ref f15))) (l15:K.lookup f15=some ⟨oc15,od15, .func (PySem.W.fnOf "_law_right" "_law_right" (defArgs sLRight) (defBody sLRight) (defScope sLRight) .none kV15 dc15 pm15 an15 cd15 ct15),sl15⟩) (c15:PySem.W.codeIn K cd15 "_law_right"=true) (k15:PySem.W.keepIn K (.ref f15)=true)
  (a16:PySem.W.nsIn K mainGlobals "law"=some (some (.ref f16))) (l16:K.lookup f16=some ⟨oc16,od16, .func (PySem.W.fnOf "law" "law" (defArgs sLaw) (defBody sLaw) (defScope sLaw) .none kV16 dc16 pm16 an16 cd16 ct16),sl16⟩) (c16:PySem.W.codeIn K cd16 "law"=true) (k16:PySem.W.keepIn K (.ref f16)=true)
  (z1:PySem.W.nsIn K mainGlobals "isinstance"=some none) (z2:PySem.W.nsIn K mainGlobals "len"=some none) (z3:PySem.W.nsIn K mainGlobals "enumerate"=some none) (z4:PySem.W.nsIn K mainGlobals "tuple"=some none) (z5:PySem.W.nsIn K mainGlobals "int"=some none) (z6:PySem.W.nsIn K mainGlobals "bool"=some none) (z7:PySem.W.nsIn K mainGlobals "range"=some none) (z8:PySem.W.nsIn K mainGlobals "list"=some none) (z9:PySem.W.nsIn K mainGlobals "divmod"=some none) (z10:PySem.W.nsIn K mainGlobals "all"=some none) (z11:PySem.W.nsIn K mainGlobals "str"=some none) (z12:PySem.W.nsIn K mainGlobals "zip"=some none) (z13:PySem.W.nsIn K mainGlobals "sorted"=some none) (z14:PySem.W.nsIn K mainGlobals "max"=some none) (z15:PySem.W.nsIn K mainGlobals "min"=some none) (z16:PySem.W.nsIn K mainGlobals "set"=some none):
  ∃fd:FuncData,(∀(s:Shared) (v:Value),BindsTo s fd ⟨[v],[]⟩ [("_law_script",v)])/\ ∀base:Heap,K.In base->base.Ns mainGlobals mg->FnOk l.prog w K mg base CX0 5 fa fd ["_law_script"] (spLaw K):=by
 have e:=hfa.symm.trans (PySem.W.mg_of X G a16);cases e;have T:Txt mg:=⟨PySem.W.mg_none_of X G z1,PySem.W.mg_none_of X G z2,PySem.W.mg_none_of X G z3,PySem.W.mg_none_of X G z4,PySem.W.mg_none_of X G z5,PySem.W.mg_none_of X G z6,PySem.W.mg_none_of X G z7,PySem.W.mg_none_of X G z8,PySem.W.mg_none_of X G z9,PySem.W.mg_none_of X G z10,PySem.W.mg_none_of X G z11,PySem.W.mg_none_of X G z12,PySem.W.mg_none_of X G z13,PySem.W.mg_none_of X G z14,PySem.W.mg_none_of X G z15,PySem.W.mg_none_of X G z16⟩
 have F1:=fun_mk (st:=sAllowed) l1 c1 k1;have b1:=binds1 (p1:="stand") F1 fun _ _ _ _ _ _ _=>rfl;have F2:=fun_mk (st:=sAllowedOf) l2 c2 k2;have b2:=binds2 (p1:="stand") (p2:="word") F2 fun _ _ _ _ _ _ _ _=>rfl;have F3:=fun_mk (st:=sLBegin) l3 c3 k3;have b3:=binds1 (p1:="_law_script") F3 fun _ _ _ _ _ _ _=>rfl;have F4:=fun_mk (st:=sLTake) l4 c4 k4;have b4:=binds2 (p1:="_law_state") (p2:="_law_many") F4 fun _ _ _ _ _ _ _ _=>rfl;have F5:=fun_mk (st:=sLSame) l5 c5 k5;have b5:=binds2 (p1:="_law_found") (p2:="_law_due") F5 fun _ _ _ _ _ _ _ _=>rfl;have F6:=fun_mk (st:=sLMay) l6 c6 k6;have b6:=binds1 (p1:="_law_stand") F6 fun _ _ _ _ _ _ _=>rfl;have F7:=fun_mk (st:=sLBehind) l7 c7 k7;have b7:=binds2 (p1:="_law_stand") (p2:="_law_word") F7 fun _ _ _ _ _ _ _ _=>rfl;have F8:=fun_mk (st:=sLEnd) l8 c8 k8;have b8:=binds1 (p1:="_law_stand") F8 fun _ _ _ _ _ _ _=>rfl;have F9:=fun_mk (st:=sLEnds) l9 c9 k9;have b9:=binds1 (p1:="_law_stand") F9 fun _ _ _ _ _ _ _=>rfl;have F10:=fun_mk (st:=sLTaken) l10 c10 k10;have b10:=binds3 (p1:="_law_state") (p2:="_law_many") (p3:="_law_most") F10 fun _ _ _ _ _ _ _ _ _=>rfl;have F11:=fun_mk (st:=sLIsHanging) l11 c11 k11;have b11:=binds1 (p1:="_law_h") F11 fun _ _ _ _ _ _ _=>rfl;have F12:=fun_mk (st:=sLIsPlain) l12 c12 k12;have b12:=binds1 (p1:="_law_h") F12 fun _ _ _ _ _ _ _=>rfl;have F13:=fun_mk (st:=sLAll) l13 c13 k13;have b13:=binds1 (p1:="_law_many") F13 fun _ _ _ _ _ _ _=>rfl;have F14:=fun_mk (st:=sLSentences) l14 c14 k14;have b14:=binds1 (p1:="_law_stand") F14 fun _ _ _ _ _ _ _=>rfl;have F15:=fun_mk (st:=sLRight) l15 c15 k15;have b15:=binds1 (p1:="_law_stand") F15 fun _ _ _ _ _ _ _=>rfl;have F16:=fun_mk (st:=sLaw) l16 c16 k16;refine⟨PySem.W.fnOf "law" "law" (defArgs sLaw) (defBody sLaw) (defScope sLaw) .none kV16 dc16 pm16 an16 cd16 ct16,fun s v=> .of_eq rfl,fun base XB GB=>?_⟩;have NOf:Has l.prog w K mg base "allowed_of" 1 ["stand","word"] (spA ofS):=⟨f2,_,PySem.W.mg_of X G a2,k2,b2,ok_of F2 T⟩
 have NAllowed:Has l.prog w K mg base "allowed" 2 ["stand"] (spA rowsS):=⟨f1,_,PySem.W.mg_of X G a1,k1,b1,ok_allowed F1 T NOf⟩
 have NB:Has l.prog w K mg base "_law_begin" 1 ["_law_script"] (spBegin K):=⟨f3,_,PySem.W.mg_of X G a3,k3,b3,ok_begin F3 T⟩
 have NTake:Has l.prog w K mg base "_law_take" 1 ["_law_state","_law_many"] (spB takeS):=⟨f4,_,PySem.W.mg_of X G a4,k4,b4,ok_takeB F4 T⟩
 have NS0:Has l.prog w K mg base "_law_same" 1 ["_law_found","_law_due"] (spA (sameS P0)):=⟨f5,_,PySem.W.mg_of X G a5,k5,b5,ok_same0 F5 T⟩
 have NS1:Has l.prog w K mg base "_law_same" 2 ["_law_found","_law_due"] (spA (sameS (UpD P0))):=⟨f5,_,PySem.W.mg_of X G a5,k5,b5,ok_same1 (k:=0) F5 T NS0⟩
 have NS2:Has l.prog w K mg base "_law_same" 3 ["_law_found","_law_due"] (spA (sameS (UpD (UpD P0)))):=⟨f5,_,PySem.W.mg_of X G a5,k5,b5,ok_same1 (k:=1) F5 T NS1⟩
 have NMay:Has l.prog w K mg base "_law_may" 1 ["_law_stand"] (spA mayS):=⟨f6,_,PySem.W.mg_of X G a6,k6,b6,ok_may F6 T⟩
 have NLBehind:Has l.prog w K mg base "_law_behind" 1 ["_law_stand","_law_word"] (spA behindS):=⟨f7,_,PySem.W.mg_of X G a7,k7,b7,ok_lbehind F7 T⟩
 have NEnd:Has l.prog w K mg base "_law_end" 1 ["_law_stand"] (spA endS):=⟨f8,_,PySem.W.mg_of X G a8,k8,b8,ok_lend F8 T⟩
 have NEnds:Has l.prog w K mg base "_law_ends" 2 ["_law_stand"] (spA endsS):=⟨f9,_,PySem.W.mg_of X G a9,k9,b9,ok_ends F9 T NMay NLBehind NEnd⟩
 have NTaken:Has l.prog w K mg base "_law_taken" 2 ["_law_state","_law_many","_law_most"] (spB takenS):=⟨f10,_,PySem.W.mg_of X G a10,k10,b10,ok_taken F10 T NTake NMay NLBehind⟩
 have NHang:Has l.prog w K mg base "_law_is_hanging" 1 ["_law_h"] (spA isHangS):=⟨f11,_,PySem.W.mg_of X G a11,k11,b11,ok_isHanging F11 T⟩
 have NPlain:Has l.prog w K mg base "_law_is_plain" 1 ["_law_h"] (spA isPlainS):=⟨f12,_,PySem.W.mg_of X G a12,k12,b12,ok_lIsPlain F12 T⟩
 have NAll:Has l.prog w K mg base "_law_all" 2 ["_law_many"] (spA allS):=⟨f13,_,PySem.W.mg_of X G a13,k13,b13,ok_all F13 T NHang⟩
 have NSent:Has l.prog w K mg base "_law_sentences" 1 ["_law_stand"] (spA rowsS):=⟨f14,_,PySem.W.mg_of X G a14,k14,b14,ok_sent F14 T⟩
 have NRight:Has l.prog w K mg base "_law_right" 4 ["_law_stand"] (spA rightS):=⟨f15,_,PySem.W.mg_of X G a15,k15,b15,ok_right F15 T NAllowed NSent NS2⟩
 exact ok_law F16 T NB NTake NTaken NRight NAll NPlain NEnds NSent
theorem walk{l:PySem.W.OpenLaw}{q:Program}{loose:List Str}{XP:(Str->Option Value)->Heap->Prop}{YP:World->Heap->Prop}{d:DefRec}{K:Params->PySem.W.Frag}(hn:l.most=some 63)(hdf:d.params.defaults= [])
  (hY: ∀(w:World) (h:Heap),YP w h->(K w.params).In h)
  (F: ∀(w:World) (mg:Str->Option Value) (fa:Addr) (h:Heap),(K w.params).In h->h.Ns mainGlobals mg->mg d.name=some (.ref fa)->
   ∃fd:FuncData,(∀(s:Shared) (u:Value),BindsTo s fd ⟨[u],[]⟩ [("_law_script",u)])/\ ∀base:Heap,(K w.params).In base->base.Ns mainGlobals mg->FnOk l.prog w (K w.params) mg base CX0 5 fa fd ["_law_script"] (spLaw (K w.params))):
  PySem.W.WalkO q loose XP YP l.row.toRowW d [] (fun f vs=>PySem.call f vs):=
 L2.walk_of (n:=63) (k:=5) (x:="_law_script") (CX:=fun _=>CX0) (sp:=fun w=>spLaw (K w.params)) hn (by decide) hdf ⟨rfl,by decide,by decide,rfl⟩ hY F (fun _ _ a ns hl _ hS=>⟨a,ns,rfl,hS,hl,fun _=>rfl⟩) fun _ _ _ _ _ z=>z
end K34
open PySem PySem.W PyProof.Rows
set_option maxRecDepth 100000 in
set_option maxHeartbeats 0 in
theorem PySem.Challenge.cw_hungwords_k34_what_may_come_of_a_stand_holds : PySem.Challenge.rw_hungwords_k34_what_may_come_of_a_stand.Holds := by
 w_on;o_law;k_head;(case hw=>w_witness2)
 k_fill
 refine K34.walk (l:=PySem.Challenge.rw_hungwords_k34_what_may_come_of_a_stand) rfl rfl (fun w h Y=>PySem.W.kIn_of Y) ?F
 case F=>
  intro w mg fa h KX G hmg;refine' K34.all_mk KX G hmg ?a1 ?l1 ?c1 ?k1 ?a2 ?l2 ?c2 ?k2 ?a3 ?l3 ?c3 ?k3 ?a4 ?l4 ?c4 ?k4 ?a5 ?l5 ?c5 ?k5 ?a6 ?l6 ?c6 ?k6 ?a7 ?l7 ?c7 ?k7 ?a8 ?l8 ?c8 ?k8 ?a9 ?l9 ?c9 ?k9 ?a10 ?l10 ?c10 ?k10 ?a11 ?l11 ?c11 ?k11 ?a12 ?l12 ?c12 ?k12 ?a13 ?l13 ?c13 ?k13 ?a14 ?l14 ?c14 ?k14 ?a15 ?l15 ?c15 ?k15 ?a16 ?l16 ?c16 ?k16 ?z1 ?z2 ?z3 ?z4 ?z5 ?z6 ?z7 ?z8 ?z9 ?z10 ?z11 ?z12 ?z13 ?z14 ?z15 ?z16
  (case a1=>k_is)
  (case l1=>k_is)
  (case c1=>k_is)
  (case k1=>k_is)
  (case a2=>k_is)
  (case l2=>k_is)
  (case c2=>k_is)
  (case k2=>k_is)
  (case a3=>k_is)
  (case l3=>k_is)
  (case c3=>k_is)
  (case k3=>k_is)
  (case a4=>k_is)
  (case l4=>k_is)
  (case c4=>k_is)
  (case k4=>k_is)
  (case a5=>k_is)
  (case l5=>k_is)
  (case c5=>k_is)
  (case k5=>k_is)
  (case a6=>k_is)
  (case l6=>k_is)
  (case c6=>k_is)
  (case k6=>k_is)
  (case a7=>k_is)
  (case l7=>k_is)
  (case c7=>k_is)
  (case k7=>k_is)
  (case a8=>k_is)
  (case l8=>k_is)
  (case c8=>k_is)
  (case k8=>k_is)
  (case a9=>k_is)
  (case l9=>k_is)
  (case c9=>k_is)
  (case k9=>k_is)
  (case a10=>k_is)
  (case l10=>k_is)
  (case c10=>k_is)
  (case k10=>k_is)
  (case a11=>k_is)
  (case l11=>k_is)
  (case c11=>k_is)
  (case k11=>k_is)
  (case a12=>k_is)
  (case l12=>k_is)
  (case c12=>k_is)
  (case k12=>k_is)
  (case a13=>k_is)
  (case l13=>k_is)
  (case c13=>k_is)
  (case k13=>k_is)
  (case a14=>k_is)
  (case l14=>k_is)
  (case c14=>k_is)
  (case k14=>k_is)
  (case a15=>k_is)
  (case l15=>k_is)
  (case c15=>k_is)
  (case k15=>k_is)
  (case a16=>k_is)
  (case l16=>k_is)
  (case c16=>k_is)
  (case k16=>k_is)
  (case z1=>k_is)
  (case z2=>k_is)
  (case z3=>k_is)
  (case z4=>k_is)
  (case z5=>k_is)
  (case z6=>k_is)
  (case z7=>k_is)
  (case z8=>k_is)
  (case z9=>k_is)
  (case z10=>k_is)
  (case z11=>k_is)
  (case z12=>k_is)
  (case z13=>k_is)
  (case z14=>k_is)
  (case z15=>k_is)
  (case z16=>k_is)
end
